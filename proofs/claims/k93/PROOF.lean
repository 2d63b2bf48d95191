import PyProof.Rows.All
import Wide.All
import OpenK.AllK
import Wide.FinOn
import Lean
import PyProof.EqAt
import PyProof.EqKinds
import PyProof.TupleCall
import KE.IntBitsLaws
import PySem.Challenge.RW_bellwrite_k93_orders_read
set_option Elab.async false
set_option linter.all false
set_option maxRecDepth 100000
set_option maxHeartbeats 4000000
set_option genSizeOf false
theorem Op.said : PySem.Challenge.rw_bellwrite_k93_orders_read.wellSaid = true := by kernel_rfl
namespace L2
open PySem PySem.Spec PyProof.Rows
abbrev Key := Sum Int Str
noncomputable def keyIs : Key → Value → Bool
  | .inl k, v => Value.isInt k v
  | .inr x, v => Value.isStrOf x v
noncomputable def keyH (w : World) : Key → Int
  | .inl k => hashInt k
  | .inr x => hashStr w x
theorem keyIs_shape : ∀ {k : Key} {v : Value}, keyIs k v = true → (∃ i t, k = Sum.inl i ∧ v = Value.int i t) ∨ (∃ x t, k = Sum.inr x ∧ v = Value.str x t)
  | .inl i, v, h => by
    obtain ⟨t, e⟩ := Value.isInt_shape (k := i) (v := v) h
    exact .inl ⟨i, t, rfl, e⟩
  | .inr x, v, h => by
    obtain ⟨t, e⟩ := Value.isStrOf_shape (x := x) (v := v) h
    exact .inr ⟨x, t, rfl, e⟩
theorem keyIs_int (i : Int) (t : Tok) : keyIs (.inl i) (.int i t) = true := by simp [keyIs, Value.isInt]
theorem keyIs_str (x : Str) (t : Tok) : keyIs (.inr x) (.str x t) = true := by simp [keyIs, Value.isStrOf]
theorem key_ll (a b : Int) : decide ((Sum.inl a : Key) = Sum.inl b) = (a == b) := by
  by_cases e : a = b
  · subst e; simp
  · have h : ¬ (Sum.inl a : Key) = Sum.inl b := fun q => e (Sum.inl.inj q)
    rw [decide_eq_false h]
    exact (beq_eq_false_iff_ne.mpr e).symm
theorem key_rr (a b : Str) : decide ((Sum.inr a : Key) = Sum.inr b) = decide (a = b) := by
  by_cases e : a = b
  · subst e; simp
  · have h : ¬ (Sum.inr a : Key) = Sum.inr b := fun q => e (Sum.inr.inj q)
    rw [decide_eq_false h, decide_eq_false e]
theorem key_lr (a : Int) (b : Str) : decide ((Sum.inl a : Key) = Sum.inr b) = false := decide_eq_false (fun q => nomatch q)
theorem key_rl (a : Str) (b : Int) : decide ((Sum.inr a : Key) = Sum.inl b) = false := decide_eq_false (fun q => nomatch q)
noncomputable def mixKind (prog : Program) (w : World) : PySem.KeyKind prog w Key where
  is := keyIs
  hash := keyH w
  inj := fun v a b ha hb => by
    rcases keyIs_shape ha with ⟨i, t, rfl, rfl⟩ | ⟨x, t, rfl, rfl⟩
    · rcases keyIs_shape hb with ⟨j, u, rfl, e⟩ | ⟨y, u, rfl, e⟩
      · injection e with e1 _; rw [e1]
      · exact nomatch e
    · rcases keyIs_shape hb with ⟨j, u, rfl, e⟩ | ⟨y, u, rfl, e⟩
      · exact nomatch e
      · injection e with e1 _; rw [e1]
  byValue := fun k v h => by
    rcases keyIs_shape h with ⟨i, t, rfl, rfl⟩ | ⟨x, t, rfl, rfl⟩ <;> rfl
  pyHash := fun hv h => by
    rcases keyIs_shape hv with ⟨i, t, rfl, rfl⟩ | ⟨x, t, rfl, rfl⟩
    · exact wpAny_pyHash_int h
    · exact wpAny_pyHash_str h
  eqBool := fun hu hv h => by
    rcases keyIs_shape hu with ⟨i, t, rfl, rfl⟩ | ⟨x, t, rfl, rfl⟩
    · rcases keyIs_shape hv with ⟨j, u, rfl, rfl⟩ | ⟨y, u, rfl, rfl⟩
      · rw [key_ll] at h; exact wpAny_eqBool_int h
      · rw [key_lr] at h; exact SeqAt.EqAt.int_str i t y u _ _ _ _ h
    · rcases keyIs_shape hv with ⟨j, u, rfl, rfl⟩ | ⟨y, u, rfl, rfl⟩
      · rw [key_rl] at h; exact SeqAt.EqAt.str_int x t j u _ _ _ _ h
      · rw [key_rr] at h; exact wpAny_eqBool_str h
  «strs» := fun k x t v h => by
    rcases keyIs_shape h with ⟨i, u, rfl, e⟩ | ⟨y, u, rfl, e⟩
    · exact nomatch e
    · injection e with e1 _
      subst e1
      cases v <;> rfl
theorem mixKind_int (prog : Program) (w : World) (i : Int) (t : Tok) : (mixKind prog w).is (.inl i) (.int i t) = true := keyIs_int i t
theorem mixKind_str (prog : Program) (w : World) (x : Str) (t : Tok) : (mixKind prog w).is (.inr x) (.str x t) = true := keyIs_str x t
inductive V where
  | non | bl (b : Bool) | int (i : Int) | str (x : Str) | byt (b : Array UInt8) | flt (b : UInt64) | ref (a : Addr) | ty (n : String)
  deriving DecidableEq
noncomputable def RelV : V → Value → Prop
  | .non, u => u = Value.none
  | .bl b, u => u = Value.bool b
  | .int i, u => ∃ t, u = Value.int i t
  | .str x, u => ∃ t, u = Value.str x t
  | .byt b, u => ∃ t, u = Value.bytes b t
  | .flt b, u => ∃ t, u = Value.float b t
  | .ref a, u => u = Value.ref a
  | .ty n, u => u = Value.type n
abbrev Vals : List V → List Value → Prop := Paired RelV
theorem Vals.length {xs : List V} {us : List Value} (r : Vals xs us) : xs.length = us.length := Paired.length r
theorem Vals.get : ∀ {xs : List V} {us : List Value} {i : Nat} {x : V}, Vals xs us → xs[i]? = some x → ∃ u, us[i]? = some u ∧ RelV x u
  | _, _, _, _, .nil, e => by simp at e
  | _, _, 0, _, .cons r _, e => by simp at e; subst e; exact ⟨_, rfl, r⟩
  | _, _, i + 1, x, .cons _ t, e => by
    obtain ⟨u, h1, h2⟩ := Vals.get (i := i) (x := x) t (by simpa using e)
    exact ⟨u, by simpa using h1, h2⟩
theorem Vals.set {x : V} {u : Value} (r : RelV x u) : ∀ {xs : List V} {us : List Value} (i : Nat), Vals xs us → Vals (xs.set i x) (us.set i u)
  | _, _, _, .nil => .nil
  | _, _, 0, .cons _ t => .cons r t
  | _, _, i + 1, .cons q t => .cons q (Vals.set r i t)
theorem Vals.append : ∀ {xs ys : List V} {us ws : List Value}, Vals xs us → Vals ys ws → Vals (xs ++ ys) (us ++ ws)
  | _, _, _, _, .nil, s => s
  | _, _, _, _, .cons r t, s => .cons r (Vals.append t s)
theorem Vals.take : ∀ {xs : List V} {us : List Value} (n : Nat), Vals xs us → Vals (xs.take n) (us.take n)
  | _, _, 0, _ => .nil
  | _, _, _ + 1, .nil => .nil
  | _, _, n + 1, .cons r t => .cons r (Vals.take n t)
theorem Vals.drop : ∀ {xs : List V} {us : List Value} (n : Nat), Vals xs us → Vals (xs.drop n) (us.drop n)
  | _, _, 0, r => r
  | _, _, _ + 1, .nil => .nil
  | _, _, n + 1, .cons _ t => Vals.drop n t
theorem Vals.none_of : ∀ {xs : List V} {us : List Value} {i : Nat}, Vals xs us → xs[i]? = none → us[i]? = none := fun {xs us i} r e => by
  have h1 := r.length
  have h2 : xs.length ≤ i := List.getElem?_eq_none_iff.mp e
  exact List.getElem?_eq_none_iff.mpr (by omega)
noncomputable def RelO : Option V → Option Value → Prop
  | some v, some u => RelV v u
  | none, none => True
  | _, _ => False
noncomputable def KV {κ : Type} : List (κ × V) → List (κ × Value) → Prop := Paired fun (p : κ × V) (q : κ × Value) => p.1 = q.1 ∧ RelV p.2 q.2
noncomputable def kV : Key → V
  | .inl i => .int i
  | .inr x => .str x
inductive HO where
  | lst (xs : List V)
  | tup (xs : List V)
  | dK (kvs : List (Key × V)) | dT (kvs : List (List Key × V))
  | set (S : Int → Bool) (n : Nat)
  | ins (C dx : Addr) (fs : List (Str × V))
  | own (x : Addr)
  | xd (fs : List (Str × V))
  | met (f x : Addr)
  | rng (lo hi : Int)
  | frz (o : Obj) (u : HO)
  | tbl (ps : Array Value)
  | ext (φ : Heap → Prop)
abbrev Hp := Addr → Option HO
noncomputable def upd (H : Hp) (a : Addr) (o : HO) : Hp := fun b => if b = a then some o else H b
theorem upd_same {H : Hp} {a : Addr} {o : HO} : upd H a o a = some o := by unfold upd; rw [if_pos rfl]
theorem upd_ne {H : Hp} {a b : Addr} {o : HO} (h : b ≠ a) : upd H a o b = H b := by unfold upd; rw [if_neg h]
theorem upd_upd {H : Hp} {a : Addr} {o u : HO} : upd (upd H a o) a u = upd H a u := by
  funext b; unfold upd; split <;> rfl
theorem ne_of {H : Hp} {a b : Addr} {o u : HO} (h : H a = some o) (h' : H b = some u) (d : o ≠ u) : a ≠ b := by
  intro e; subst e; rw [h] at h'; exact d (Option.some.inj h')
theorem ne_of_none {H : Hp} {a b : Addr} {o : HO} (h : H a = some o) (h' : H b = none) : a ≠ b := by
  intro e; subst e; rw [h] at h'; cases h'
section
variable (P : Program) (w : World)
noncomputable def ObjOk (H : Hp) (h : Heap) (a : Addr) : HO → Prop
  | .lst xs => xs.length ≤ sizeLine ∧ ∃ (its : List Value) (n : Nat), Vals xs its ∧ h.get? a = some { cls := .type "list", data := .seq its.toArray n }
  | .tup xs => xs.length ≤ sizeLine ∧ ∃ its : List Value, Vals xs its ∧ IsTup h a its.toArray
  | .dK kvs => kvs.length ≤ sizeLine ∧ (a == sysModules) = false ∧ ∃ vs, KV kvs vs ∧ h.DictOf (mixKind P w) a vs
  | .dT kvs => kvs.length ≤ sizeLine ∧ (a == sysModules) = false ∧ ∃ xs : List (List Key × Addr × Value),
      Paired (fun (p : List Key × V) (q : List Key × Addr × Value) => p.1 = q.1 ∧ H q.2.1 = some (.tup (p.1.map kV)) ∧ RelV p.2 q.2.2) kvs xs ∧
      ∃ o es ep, h.get? a = some o ∧ o.ExactDict ∧ o.data = .dict es ep ∧ es.toList = xs.map (entryOfKey (tupleKind (mixKind P w))) ∧ (xs.map (·.1)).Nodup
  | .set S n => h.SetOf (intKind P w) a S n
  | .ins C dx fs => H dx = some (.own a) ∧ fs.length ≤ 1000 ∧ dx ≠ a ∧ h.get? a = some (PySem.W.instObj C dx) ∧
      ∃ mA, h.Ns1 dx mA ∧ (∀ f, RelO (fs.lookup f) (mA f)) ∧ PySem.Within mA (fs.map (·.1))
  | .own _ => ∃ o, h.get? a = some o
  | .xd fs => ∃ mA, h.Ns1 a mA ∧ ∀ f, RelO (fs.lookup f) (mA f)
  | .rng lo hi => ∃ t u v, h.get? a = some { cls := .type "range", data := .fields #[.int lo t, .int hi u, .int 1 v] }
  | .frz o u => h.get? a = some o ∧ ObjOk H h a u
  | .tbl ps => h.get? a = some { cls := .none, data := .fields ps }
  | .met f x => h.get? a = some (PySem.W.methodObj (.ref f) (.ref x))
  | .ext φ => φ h ∧ (∃ o, h.get? a = some o) ∧ ∀ h1 h2 : Heap, φ h1 → (∀ o, h1.get? a = some o → h2.get? a = some o) → φ h2
noncomputable def HOk (H : Hp) (h : Heap) : Prop := ∀ a o, H a = some o → ObjOk P w H h a o
end
section
variable {P : Program} {w : World} {H H' : Hp} {h h' : Heap} {a : Addr} {o : HO}
theorem ObjOk.lt (x : ObjOk P w H h a o) : a < h.objs.size := by
  cases o with
  | lst xs => obtain ⟨_, _, _, _, e⟩ := x; exact Heap.lt_size e
  | tup xs => obtain ⟨_, _, _, p⟩ := x; exact p.lt
  | dK kvs => obtain ⟨_, _, _, _, o, _, _, e, _⟩ := x; exact Heap.lt_size e
  | dT kvs => obtain ⟨_, _, _, _, o, _, _, e, _⟩ := x; exact Heap.lt_size e
  | set S n => obtain ⟨o, _, _, _, e, _⟩ := x; exact Heap.lt_size e
  | ins C dx fs => obtain ⟨_, _, _, e, _⟩ := x; exact Heap.lt_size e
  | own y => obtain ⟨_, e⟩ := x; exact Heap.lt_size e
  | xd fs => obtain ⟨_, ⟨_, _, _, e, _⟩, _⟩ := x; exact Heap.lt_size e
  | rng lo hi => obtain ⟨_, _, _, e⟩ := x; exact Heap.lt_size e
  | frz ob u => obtain ⟨e, _⟩ := x; exact Heap.lt_size e
  | tbl ps => exact Heap.lt_size (show h.get? a = some _ from x)
  | met f y => exact Heap.lt_size (show h.get? a = some _ from x)
  | ext φ => obtain ⟨_, ⟨_, e⟩, _⟩ := x; exact Heap.lt_size e
theorem Paired.mapP {α β : Type} {F G : α → β → Prop} : ∀ {l₁ : List α} {l₂ : List β}, Paired F l₁ l₂ → (∀ a b, F a b → G a b) → Paired G l₁ l₂
  | _, _, .nil, _ => .nil
  | _, _, .cons r t, f => .cons (f _ _ r) (Paired.mapP t f)
theorem Paired.imp' {α β : Type} {F G : α → β → Prop} (f : ∀ a b, F a b → G a b) {l₁ : List α} {l₂ : List β} (r : Paired F l₁ l₂) : Paired G l₁ l₂ := Paired.mapP r f
theorem ObjOk.stay (x : ObjOk P w H h a o) (k : ∀ b u, (b = a ∨ H b = some (.own a)) → h.get? b = some u → h'.get? b = some u)
    (ho : ∀ b, H b = some (.own a) → H' b = some (.own a)) (ht : ∀ b xs, H b = some (.tup xs) → H' b = some (.tup xs)) : ObjOk P w H' h' a o := by
  induction o with
  | lst xs => obtain ⟨z, its, n, r, e⟩ := x; exact ⟨z, its, n, r, k _ _ (.inl rfl) e⟩
  | tup xs => obtain ⟨z, its, r, ob, e, c⟩ := x; exact ⟨z, its, r, ob, k _ _ (.inl rfl) e, c⟩
  | dK kvs => obtain ⟨z, y, vs, r, ob, es, ep, e, c⟩ := x; exact ⟨z, y, vs, r, ob, es, ep, k _ _ (.inl rfl) e, c⟩
  | dT kvs =>
    obtain ⟨z, y, xs, r, ob, es, ep, e, c⟩ := x
    exact ⟨z, y, xs, Paired.mapP r fun p q z => ⟨z.1, ht _ _ z.2.1, z.2.2⟩, ob, es, ep, k _ _ (.inl rfl) e, c⟩
  | set S n => obtain ⟨ob, es, ep, t, e, c⟩ := x; exact ⟨ob, es, ep, t, k _ _ (.inl rfl) e, c⟩
  | ins C dx fs =>
    obtain ⟨d, z, ne, e, mA, ⟨od, es, ep, e2, c⟩, r⟩ := x
    exact ⟨ho _ d, z, ne, k _ _ (.inl rfl) e, mA, ⟨od, es, ep, k _ _ (.inr d) e2, c⟩, r⟩
  | own y => obtain ⟨ob, e⟩ := x; exact ⟨ob, k _ _ (.inl rfl) e⟩
  | xd fs => obtain ⟨mA, ⟨od, es, ep, e, c⟩, r⟩ := x; exact ⟨mA, ⟨od, es, ep, k _ _ (.inl rfl) e, c⟩, r⟩
  | rng lo hi => obtain ⟨t, u, v, e⟩ := x; exact ⟨t, u, v, k _ _ (.inl rfl) e⟩
  | frz ob u ih => obtain ⟨e, q⟩ := x; exact ⟨k _ _ (.inl rfl) e, ih q⟩
  | tbl ps =>
    have e : h.get? a = some { cls := .none, data := .fields ps } := x
    show h'.get? a = some { cls := .none, data := .fields ps }
    exact k a _ (.inl rfl) e
  | met f y =>
    have e : h.get? a = some (PySem.W.methodObj (.ref f) (.ref y)) := x
    show h'.get? a = some (PySem.W.methodObj (.ref f) (.ref y))
    exact k a _ (.inl rfl) e
  | ext φ => obtain ⟨p, ⟨o, e⟩, st⟩ := x; exact ⟨st _ _ p fun o q => k _ _ (.inl rfl) q, ⟨o, k _ _ (.inl rfl) e⟩, st⟩
theorem HOk.lt (x : HOk P w H h) (e : H a = some o) : a < h.objs.size := (x a o e).lt
theorem HOk.fresh (x : HOk P w H h) (e : h.objs.size ≤ a) : H a = none := by
  cases q : H a with
  | none => rfl
  | some u => exact absurd (Nat.lt_of_lt_of_le (x.lt q) e) (Nat.lt_irrefl _)
theorem HOk.kept (x : HOk P w H h) (k : ∀ b u, h.get? b = some u → h'.get? b = some u) : HOk P w H h' := fun a o e =>
  (x a o e).stay (fun b u _ q => k b u q) (fun _ q => q) fun _ _ q => q
theorem HOk.laid (x : HOk P w H h) (k : ∀ b u, h.get? b = some u → h'.get? b = some u) (hp : h.objs.size ≤ a) (new : ObjOk P w (upd H a o) h' a o) : HOk P w (upd H a o) h' := fun b u e => by
  have hn := x.fresh hp
  by_cases hb : b = a
  · subst hb; rw [upd_same] at e; cases e; exact new
  · rw [upd_ne hb] at e
    exact (x b u e).stay (fun c v _ q => k c v q) (fun c q => by rw [upd_ne (ne_of_none q hn)]; exact q) fun c xs q => by rw [upd_ne (ne_of_none q hn)]; exact q
end
noncomputable def Rd (H : Hp) (a : Addr) (u : HO) : Prop := H a = some u ∨ ∃ o, H a = some (.frz o u)
theorem Rd.of {H : Hp} {a : Addr} {u : HO} (h : H a = some u) : Rd H a u := .inl h
theorem Rd.ok {P : Program} {w : World} {H : Hp} {h : Heap} {a : Addr} {u : HO} (r : Rd H a u) (x : HOk P w H h) : ObjOk P w H h a u := by
  rcases r with r | ⟨o, r⟩
  · exact x a u r
  · obtain ⟨_, q⟩ := x a _ r
    exact q
noncomputable def Mut : Option HO → Prop
  | some (.lst _) => True
  | some (.dK _) => True
  | some (.dT _) => True
  | some (.set _ _) => True
  | some (.ins _ _ _) => True
  | some (.ext _) => True
  | _ => False
section
variable {P : Program} {w : World} {H : Hp} {h h' : Heap} {x e : Addr} {o' : HO}
theorem HOk.write (ok : HOk P w H h) (mu : Mut (H x)) (he : e = x ∨ H e = some (.own x)) (k : ∀ b u, b ≠ e → h.get? b = some u → h'.get? b = some u) (heo : ∃ u, h'.get? e = some u)
    (new : ObjOk P w (upd H x o') h' x o') : HOk P w (upd H x o') h' := fun b u q => by
  have nown : ∀ c y, H c = some (.own y) → c ≠ x := fun c y r z => by subst z; rw [r] at mu; exact mu
  have ntup : ∀ c xs, H c = some (.tup xs) → c ≠ x := fun c xs r z => by subst z; rw [r] at mu; exact mu
  by_cases hb : b = x
  · subst hb; rw [upd_same] at q; cases q; exact new
  · rw [upd_ne hb] at q
    by_cases hbe : b = e
    · have q' : H b = some (.own x) := by
        rcases he with z | z
        · exact absurd (hbe.trans z) hb
        · rw [hbe]; exact z
      rw [q] at q'; cases q'
      obtain ⟨v, hv⟩ := heo
      exact ⟨v, by rw [hbe]; exact hv⟩
    · refine (ok b u q).stay (fun c v hc r => k c v ?_ r) (fun c r => by rw [upd_ne (nown c b r)]; exact r) fun c xs r => by rw [upd_ne (ntup c xs r)]; exact r
      rcases hc with rfl | hc
      · exact hbe
      · rintro rfl
        rcases he with z | z
        · exact nown c b hc z
        · rw [hc] at z; cases z; exact hb rfl
end
structure Un (fs ex : List Addr) (H H' : Hp) (h h' : Heap) : Prop where
  keep : ∀ b o, h.get? b = some o → H b = none → b ∉ fs → b ∉ ex → h'.get? b = some o
  slot : ∀ b o, h.get? b = some o → H b = none → b ∈ fs → b ∉ ex → ∃ sl, h'.get? b = some { o with slots := sl }
  free : ∀ b o, h.get? b = some o → H b = none → b ∉ ex → H' b = none
  there : ∀ b o, h.get? b = some o → b ∉ ex → ∃ o', h'.get? b = some o'
  tups : ∀ b xs, H b = some (.tup xs) → H' b = some (.tup xs)
  frzs : ∀ b o u, H b = some (.frz o u) → H' b = some (.frz o u)
  tbls : ∀ b ps, H b = some (.tbl ps) → ∃ more, H' b = some (.tbl (ps ++ more))
section
variable {fs fs' ex ex' : List Addr} {H H1 H2 : Hp} {h h1 h2 h' : Heap} {a x e : Addr} {o : HO}
theorem Un.any (u : Un fs ex H H1 h h1) {b : Addr} {ob : Obj} (q : h.get? b = some ob) (n : H b = none) (hx : b ∉ ex) : ∃ sl, h1.get? b = some { ob with slots := sl } := by
  by_cases hb : b ∈ fs
  · exact u.slot b ob q n hb hx
  · exact ⟨ob.slots, u.keep b ob q n hb hx⟩
theorem Un.trans (a : Un fs ex H H1 h h1) (b : Un fs ex H1 H2 h1 h2) : Un fs ex H H2 h h2 where
  keep := fun c ob q n hc hx => b.keep c ob (a.keep c ob q n hc hx) (a.free c ob q n hx) hc hx
  slot := fun c ob q n hc hx => by
    obtain ⟨sl, e1⟩ := a.slot c ob q n hc hx
    obtain ⟨sl', e2⟩ := b.slot c _ e1 (a.free c ob q n hx) hc hx
    exact ⟨sl', e2⟩
  free := fun c ob q n hx => by
    obtain ⟨o', e1⟩ := a.there c ob q hx
    exact b.free c o' e1 (a.free c ob q n hx) hx
  there := fun c ob q hx => by
    obtain ⟨o', e1⟩ := a.there c ob q hx
    exact b.there c o' e1 hx
  tups := fun c xs q => b.tups c xs (a.tups c xs q)
  frzs := fun c ob xs q => b.frzs c ob xs (a.frzs c ob xs q)
  tbls := fun c ps q => by
    obtain ⟨m1, e1⟩ := a.tbls c ps q
    obtain ⟨m2, e2⟩ := b.tbls c _ e1
    exact ⟨m1 ++ m2, by rw [e2, Array.append_assoc]⟩
theorem Un.kept (k : ∀ b u, h.get? b = some u → h'.get? b = some u) : Un fs ex H H h h' :=
  ⟨fun b ob q _ _ _ => k b ob q, fun b ob q _ _ _ => ⟨ob.slots, k b ob q⟩, fun _ _ _ n _ => n, fun b ob q _ => ⟨ob, k b ob q⟩, fun _ _ q => q, fun _ _ _ q => q, fun _ ps q => ⟨#[], by rw [q]; simp⟩⟩
theorem Un.refl : Un fs ex H H h h := Un.kept fun _ _ q => q
theorem Un.laid (k : ∀ b u, h.get? b = some u → h'.get? b = some u) (hp : h.objs.size ≤ a) (hn : H a = none) : Un fs ex H (upd H a o) h h' where
  keep := fun b u q _ _ _ => k b u q
  slot := fun b u q _ _ _ => ⟨u.slots, k b u q⟩
  free := fun b u q n _ => by rw [upd_ne (Nat.ne_of_lt (Nat.lt_of_lt_of_le (Heap.lt_size q) hp))]; exact n
  there := fun b u q _ => ⟨u, k b u q⟩
  tups := fun b xs q => by rw [upd_ne (ne_of_none q hn)]; exact q
  frzs := fun b u xs q => by rw [upd_ne (ne_of_none q hn)]; exact q
  tbls := fun b ps q => ⟨#[], by rw [upd_ne (ne_of_none q hn), q]; simp⟩
theorem Un.write (mu : Mut (H x)) (he : e = x ∨ H e = some (.own x)) (k : ∀ b u, b ≠ e → h.get? b = some u → h'.get? b = some u) (heo : ∃ u, h'.get? e = some u) : Un fs ex H (upd H x o) h h' := by
  have hx : ∀ b, H b = none → b ≠ x := fun b n z => by subst z; rw [n] at mu; exact mu
  have hb : ∀ b, H b = none → b ≠ e := fun b n z => by
    subst z
    rcases he with r | r
    · exact hx b n r
    · rw [n] at r; cases r
  have hm : ∀ b u, H b = some u → ¬ Mut (some u) → b ≠ x := fun b u q nm z => by subst z; rw [q] at mu; exact nm mu
  refine ⟨fun b u q n _ _ => k b u (hb b n) q, fun b u q n _ _ => ⟨u.slots, k b u (hb b n) q⟩, fun b u q n _ => by rw [upd_ne (hx b n)]; exact n, fun b u q _ => ?_,
    fun b xs q => by rw [upd_ne (hm b _ q fun z => z)]; exact q, fun b u xs q => by rw [upd_ne (hm b _ q fun z => z)]; exact q, fun b ps q => ⟨#[], by rw [upd_ne (hm b _ q fun z => z), q]; simp⟩⟩
  by_cases hbe : b = e
  · subst hbe; exact heo
  · exact ⟨u, k b u hbe q⟩
theorem Un.mono (u : Un fs ex H H1 h h1) (hs : ∀ b ∈ fs, b ∈ fs') (hx : ∀ b ∈ ex, b ∈ ex') : Un fs' ex' H H1 h h1 :=
  ⟨fun b ob q n hb he => u.keep b ob q n (fun z => hb (hs b z)) fun z => he (hx b z), fun _ _ q n _ he => u.any q n fun z => he (hx _ z), fun b ob q n he => u.free b ob q n fun z => he (hx b z), fun b ob q he => u.there b ob q fun z => he (hx b z), u.tups, u.frzs, u.tbls⟩
end
noncomputable def trk (h : Heap) (H : Hp) : List Addr := (List.range h.objs.size).filter fun a => (H a).isSome
noncomputable def hidT (h : Heap) (H : Hp) : Heap := PySem.W.hideAll h (trk h H)
theorem hidT_size (h : Heap) (H : Hp) : (hidT h H).objs.size = h.objs.size := PySem.W.hideAll_size _ _
theorem hidT_get {h : Heap} {H : Hp} {b : Addr} {o : Obj} (e : h.get? b = some o) (n : H b = none) : (hidT h H).get? b = some o :=
  PySem.W.hideAll_get _ e fun hm => by
    have q : (H b).isSome = true := (List.mem_filter.mp hm).2
    rw [n] at q; simp at q
theorem of_hidT {h : Heap} {H : Hp} {b : Addr} {o : Obj} (e : (hidT h H).get? b = some o) : h.get? b = some o ∧ H b = none := by
  have e' : h.get? b = some o := PySem.W.of_hideAll (trk h H) e
  refine ⟨e', ?_⟩
  cases q : H b with
  | none => rfl
  | some x =>
    have hm : b ∈ trk h H := List.mem_filter.mpr ⟨List.mem_range.mpr (Heap.lt_size e'), by simp [q]⟩
    have z : (hidT h H).get? b = none := PySem.W.hideAll_none (trk h H) hm
    rw [z] at e; cases e
noncomputable def allNews (g h : Heap) (L : Addr) : List (Addr × Obj) := (List.range h.objs.size).filterMap fun a => if a = L ∨ (g.get? a).isSome = true then none else (h.get? a).map fun o => (a, o)
noncomputable def rest (g h : Heap) (L d : Addr) : List (Addr × Obj) := (allNews g h L).filter fun p => decide (p.1 ≠ d)
structure Mod (K : PySem.W.Frag) (mg : Str → Option Value) (base : Heap) : Prop where
  kin : K.In base
  glob : base.Ns mainGlobals mg
  blt : ∃ mb, base.Ns builtinsNs mb ∧ ∀ x : Str, x ≠ "__name__" → mb x = bootBuiltins x
  nolimit : base.NoLimit
  seer : base.NoSeer
structure Cx where
  prog : Program
  w : World
  K : PySem.W.Frag
  mg : Str → Option Value
  base : Heap
  A : Around
  N : List Str
  s₀ : Shared
  H₀ : Hp
  env : Env
  outer : List Env
  stack : List Env
  ex : List Addr
  fn : Str → Bool
  calm : Bool
  pn : List (Addr × Obj)
  xe : Value → Shared → Prop
def frs (l : List Env) : List Addr := l.filterMap (·.frame)
abbrev Cx.fs (X : Cx) : List Addr := frs X.outer
noncomputable def Vis (sc : Scope) (x : Str) : Prop := sc.names.lookup x = some .local ∨ sc.names.lookup x = some .cell ∨ sc.names.lookup x = some .free
noncomputable def Loc (sc : Scope) (x : Str) : Prop := sc.names.lookup x = some .local ∨ sc.names.lookup x = some .cell
noncomputable def Look (env : Env) (h : Heap) (m : Str → Option Value) (x : Str) (u : Value) : Prop :=
  (env.kindOf x = some .local ∧ m x = some u) ∨ ((env.kindOf x = some .cell ∨ env.kindOf x = some .free) ∧ ∃ c, env.cells.lookup x = some c ∧ h.IsCell c (some u))
structure Cx.Ok (X : Cx) : Prop where
  mod : Mod X.K X.mg X.base
  kind : X.env.scope.kind = .function
  glob : X.env.globals = mainGlobals
  blt : X.env.builtins = builtinsNs
  above : X.s₀.heap.objs.size ≤ X.env.locals
  inj : ∀ x y c, X.env.cells.lookup x = some c → X.env.cells.lookup y = some c → x = y
  has : ∀ x, (X.env.kindOf x = some .cell ∨ X.env.kindOf x = some .free) → ∃ c, X.env.cells.lookup x = some c
  cab : ∀ x c, X.fn x = true → X.env.cells.lookup x = some c → X.s₀.heap.objs.size ≤ c
  hd : X.calm = true → X.A.handled = none
  frames : X.A.frames = some X.stack
  stk : X.stack = X.outer ∨ (X.stack = X.env :: X.outer ∧ X.env.frame = some X.env.locals)
  exf : ∀ b ∈ X.ex, b ≠ X.env.locals ∧ ∀ x c, X.env.cells.lookup x = some c → c ≠ b
  bs : ∀ b o, X.base.get? b = some o → X.s₀.heap.get? b = some o ∧ X.H₀ b = none
  bsz : X.base.objs.size ≤ X.s₀.heap.objs.size
  noex : ∀ b o, X.base.get? b = some o → b ∉ X.ex
  exfs : ∀ b ∈ X.ex, b ∉ X.fs
  funs : X.s₀.heap.FunFrames X.base X.outer
  frf : ∀ b ∈ X.fs, X.H₀ b = none
structure Inv (X : Cx) (pins : List (Addr × Obj)) (σ : List (Option V)) (H : Hp) (s : Shared) : Prop where
  ok : X.Ok
  os : s.os = X.s₀.os
  bare : AllBare s.gens
  base : Un X.fs X.ex X.H₀ H X.s₀.heap s.heap
  loc : ∃ m, s.heap.Ns X.env.locals m ∧ ∀ (i : Nat) (x : Str) (v : V), X.N[i]? = some x → σ[i]? = some (some v) → Vis X.env.scope x → ∃ u, RelV v u ∧ Look X.env s.heap m x u
  cell : ∀ x c, X.env.cells.lookup x = some c → ∃ v, s.heap.IsCell c v
  free : H X.env.locals = none
  freeC : ∀ x c, X.env.cells.lookup x = some c → H c = none
  pin : ∀ p ∈ X.pn ++ pins, s.heap.get? p.1 = some p.2 ∧ H p.1 = none ∧ p.1 ≠ X.env.locals ∧ p.1 ∉ X.fs ∧ ∀ v, p.2.data ≠ .cell v
  hok : HOk X.prog X.w H s.heap
  len : σ.length = X.N.length
section
variable {X : Cx} {pins : List (Addr × Obj)} {σ : List (Option V)} {H H' : Hp} {s : Shared} {h' : Heap}
theorem Cx.Ok.nofr (ok : X.Ok) {b : Addr} {o : Obj} (e : X.base.get? b = some o) : b ∉ X.fs := fun hb => by
  have := (ok.funs.mem hb).1
  rw [e] at this; cases this
theorem Inv.bs (I : Inv X pins σ H s) : ∀ b o, X.base.get? b = some o → s.heap.get? b = some o ∧ H b = none := fun b o e =>
  ⟨I.base.keep b o (I.ok.bs b o e).1 (I.ok.bs b o e).2 (I.ok.nofr e) (I.ok.noex b o e), I.base.free b o (I.ok.bs b o e).1 (I.ok.bs b o e).2 (I.ok.noex b o e)⟩
theorem Inv.bk (I : Inv X pins σ H s) : ∀ b o, X.base.get? b = some o → s.heap.get? b = some o := fun b o e => (I.bs b o e).1
theorem Inv.mod (I : Inv X pins σ H s) : Mod X.K X.mg X.base := I.ok.mod
theorem Inv.kIn (I : Inv X pins σ H s) : X.K.In s.heap := I.ok.mod.kin.keeps I.bk
theorem Inv.nolimit (I : Inv X pins σ H s) : s.heap.NoLimit := I.ok.mod.nolimit.keeps I.bk
theorem Inv.fr (I : Inv X pins σ H s) : ∃ m, Fr X.base X.env.locals s.heap m :=
  let ⟨m, hn, _⟩ := I.loc
  ⟨m, hn, I.bk, Nat.le_trans I.ok.bsz I.ok.above⟩
theorem Inv.lt (I : Inv X pins σ H s) : X.env.locals < s.heap.objs.size := let ⟨_, hn, _⟩ := I.loc; hn.lt
theorem Inv.sz (I : Inv X pins σ H s) : X.s₀.heap.objs.size ≤ s.heap.objs.size := Nat.le_trans I.ok.above (Nat.le_of_lt I.lt)
theorem Inv.nofs (I : Inv X pins σ H s) {a : Addr} (h : s.heap.objs.size ≤ a) : a ∉ X.fs := fun hb => by
  obtain ⟨_, o, ho, _⟩ := I.ok.funs.mem hb
  exact absurd (Nat.lt_of_lt_of_le (Heap.lt_size ho) (Nat.le_trans I.sz h)) (Nat.lt_irrefl _)
theorem Inv.cne (I : Inv X pins σ H s) : ∀ x c, X.env.cells.lookup x = some c → c ≠ X.env.locals := fun x c e z => by
  obtain ⟨v, o, ho, hd⟩ := I.cell x c e
  obtain ⟨m, ⟨o', es, ep, ho', hd', _⟩, _⟩ := I.loc
  rw [z, ho'] at ho; cases ho; rw [hd'] at hd; cases hd
theorem Inv.funs (I : Inv X pins σ H s) : s.heap.FunFrames X.base X.outer := by
  have all : ∀ (l : List Env), (∀ b ∈ frs l, b ∈ X.fs) → X.s₀.heap.FunFrames X.base l → s.heap.FunFrames X.base l := by
    intro l
    induction l with
    | nil => intro _ _; trivial
    | cons env r ih =>
      intro hs hl
      obtain ⟨hk, ⟨L, o, hf, hn, ho, hd⟩, hr⟩ := hl
      have hL : L ∈ X.fs := hs L (by unfold frs; rw [List.filterMap_cons, hf]; exact List.mem_cons_self)
      obtain ⟨sl, e⟩ := I.base.slot L o ho (I.ok.frf L hL) hL fun z => I.ok.exfs L z hL
      exact ⟨hk, ⟨L, _, hf, hn, e, hd⟩, ih (fun b hb => hs b (by unfold frs; rw [List.filterMap_cons, hf]; exact List.mem_cons_of_mem _ hb)) hr⟩
  exact all X.outer (fun _ hb => hb) I.ok.funs
theorem Inv.stack (I : Inv X pins σ H s) : s.heap.FunFrames X.base X.stack := by
  rcases I.ok.stk with e | ⟨e, hf⟩
  · rw [e]; exact I.funs
  · rw [e]
    obtain ⟨m, hn, _⟩ := I.loc
    refine .cons (by rw [I.ok.kind]; decide) hf hn ?_ I.funs
    exact Heap.get?_none_of_le (Nat.le_trans I.ok.bsz I.ok.above)
theorem Inv.stkSub (I : Inv X pins σ H s) : ∀ b ∈ frs X.stack, b ∈ X.env.locals :: X.fs := fun b hb => by
  rcases I.ok.stk with e | ⟨e, hf⟩
  · rw [e] at hb; exact List.mem_cons_of_mem _ hb
  · rw [e] at hb
    unfold frs at hb
    rw [List.filterMap_cons, hf] at hb
    exact hb
theorem Inv.stkFree (I : Inv X pins σ H s) : ∀ b ∈ frs X.stack, H b = none := fun b hb => by
  rcases List.mem_cons.mp (I.stkSub b hb) with e | hb
  · rw [e]; exact I.free
  · obtain ⟨_, o, ho, _⟩ := I.ok.funs.mem hb
    exact I.base.free b o ho (I.ok.frf b hb) fun z => I.ok.exfs b z hb
theorem Inv.step {g' : Array GenState} {t' : Nat} {d' : Drawn} {ch : List Addr} (I : Inv X pins σ H s)
    (hch : ∀ b ∈ ch, (b ∈ X.ex ∨ X.s₀.heap.objs.size ≤ b) ∧ b ≠ X.env.locals ∧ (∀ x c, X.env.cells.lookup x = some c → c ≠ b) ∧ ∀ p ∈ X.pn ++ pins, p.1 ≠ b)
    (keep : ∀ b o, b ≠ X.env.locals → b ∉ X.fs → b ∉ ch → s.heap.get? b = some o → H b = none → h'.get? b = some o)
    (slot : ∀ b o, b ≠ X.env.locals → b ∈ X.fs → b ∉ ch → s.heap.get? b = some o → H b = none → ∃ sl, h'.get? b = some { o with slots := sl }) (free : ∀ b o, b ∉ ch → s.heap.get? b = some o → H b = none → H' b = none)
    (there : ∀ b o, b ∉ ch → s.heap.get? b = some o → ∃ o', h'.get? b = some o')
    (tups : ∀ b xs, H b = some (.tup xs) → H' b = some (.tup xs)) (frzs : ∀ b o u, H b = some (.frz o u) → H' b = some (.frz o u)) (tbls : ∀ b ps, H b = some (.tbl ps) → ∃ more, H' b = some (.tbl (ps ++ more)))
    (ns : ∀ m, s.heap.Ns X.env.locals m → h'.Ns X.env.locals m) (hok : HOk X.prog X.w H' h') (hg : AllBare g') :
    Inv X pins σ H' { s with heap := h', gens := g', drawn := d', toks := t' } := by
  have neL : ∀ b o, X.s₀.heap.get? b = some o → b ≠ X.env.locals := fun b o e => Nat.ne_of_lt (Nat.lt_of_lt_of_le (Heap.lt_size e) I.ok.above)
  have neC : ∀ b o, X.s₀.heap.get? b = some o → b ∉ X.ex → b ∉ ch := fun b o e hx hb => by
    rcases (hch b hb).1 with z | z
    · exact hx z
    · exact absurd (Nat.lt_of_lt_of_le (Heap.lt_size e) z) (Nat.lt_irrefl _)
  have cellK : ∀ x c, X.env.cells.lookup x = some c → ∀ v, s.heap.IsCell c v → h'.IsCell c v := fun x c e v ⟨o, ho, hd⟩ => by
    have nch : c ∉ ch := fun z => (hch c z).2.2.1 x c e rfl
    by_cases hc : c ∈ X.fs
    · obtain ⟨sl, q⟩ := slot c o (I.cne x c e) hc nch ho (I.freeC x c e)
      exact ⟨_, q, hd⟩
    · exact ⟨o, keep c o (I.cne x c e) hc nch ho (I.freeC x c e), hd⟩
  refine ⟨I.ok, I.os, hg, ⟨fun b o e n hb hx => ?_, fun b o e n hb hx => ?_, fun b o e n hx => ?_, fun b o e hx => ?_, fun b xs e => tups b xs (I.base.tups b xs e), fun b o xs e => frzs b o xs (I.base.frzs b o xs e), fun b ps e => ?_⟩, ?_, fun x c e => ?_, ?_, fun x c e => ?_, fun p hp => ?_, hok, I.len⟩
  · exact keep b o (neL b o e) hb (neC b o e hx) (I.base.keep b o e n hb hx) (I.base.free b o e n hx)
  · obtain ⟨sl, e1⟩ := I.base.slot b o e n hb hx
    obtain ⟨sl', e2⟩ := slot b _ (neL b o e) hb (neC b o e hx) e1 (I.base.free b o e n hx)
    exact ⟨sl', e2⟩
  · obtain ⟨o', e1⟩ := I.base.there b o e hx
    exact free b o' (neC b o e hx) e1 (I.base.free b o e n hx)
  · obtain ⟨o', e1⟩ := I.base.there b o e hx
    exact there b o' (neC b o e hx) e1
  · obtain ⟨m1, e1⟩ := I.base.tbls b ps e
    obtain ⟨m2, e2⟩ := tbls b _ e1
    exact ⟨m1 ++ m2, by rw [e2, Array.append_assoc]⟩
  · obtain ⟨m, hn, hl⟩ := I.loc
    refine ⟨m, ns m hn, fun i x v e1 e2 e3 => ?_⟩
    obtain ⟨u, r, l⟩ := hl i x v e1 e2 e3
    refine ⟨u, r, ?_⟩
    rcases l with l | ⟨k, c, e, z⟩
    · exact .inl l
    · exact .inr ⟨k, c, e, cellK x c e _ z⟩
  · obtain ⟨v, z⟩ := I.cell x c e
    exact ⟨v, cellK x c e v z⟩
  · obtain ⟨m, ⟨o, _, _, ho, _⟩, _⟩ := I.loc
    exact free _ o (fun z => (hch _ z).2.1 rfl) ho I.free
  · obtain ⟨v, o, ho, hd⟩ := I.cell x c e
    exact free c o (fun z => (hch c z).2.2.1 x c e rfl) ho (I.freeC x c e)
  · obtain ⟨e, n, ne, nf, d⟩ := I.pin p hp
    have nch : p.1 ∉ ch := fun z => (hch p.1 z).2.2.2 p hp rfl
    exact ⟨keep p.1 p.2 ne nf nch e n, free p.1 p.2 nch e n, ne, nf, d⟩
theorem Inv.un {t' : Nat} (I : Inv X pins σ H s) (u : Un X.fs [] H H' s.heap h') (hok : HOk X.prog X.w H' h') : Inv X pins σ H' { s with heap := h', toks := t' } := by
  obtain ⟨m, ⟨o, es, ep, ho, r⟩, _⟩ := id I.loc
  obtain ⟨sl, hL⟩ := u.any ho I.free (by simp)
  exact I.step (g' := s.gens) (d' := s.drawn) (ch := []) (fun _ z => nomatch z) (fun b o _ hb _ e n => u.keep b o e n hb (by simp)) (fun b o _ hb _ e n => u.slot b o e n hb (by simp)) (fun b o _ e n => u.free b o e n (by simp)) (fun b o _ e => u.there b o e (by simp)) u.tups u.frzs u.tbls (fun m' hm => by
    obtain ⟨o', es', ep', ho', r'⟩ := hm
    rw [ho] at ho'; cases ho'
    exact ⟨_, es', ep', hL, r'⟩) hok I.bare
theorem Inv.call {g' : Array GenState} {t' : Nat} {d' : Drawn} {ch : List Addr} (I : Inv X pins σ H s) (u : Un (frs X.stack) ch H H' s.heap h') (hok : HOk X.prog X.w H' h') (hg : AllBare g')
    (hch : ∀ b ∈ ch, (b ∈ X.ex ∨ X.s₀.heap.objs.size ≤ b) ∧ b ≠ X.env.locals ∧ (∀ x c, X.env.cells.lookup x = some c → c ≠ b) ∧ ∀ p ∈ X.pn ++ pins, p.1 ≠ b) :
    Inv X pins σ H' { s with heap := h', gens := g', drawn := d', toks := t' } := by
  obtain ⟨m, ⟨o, es, ep, ho, r⟩, _⟩ := id I.loc
  obtain ⟨sl, hL⟩ := u.any ho I.free fun z => (hch _ z).2.1 rfl
  exact I.step (ch := ch) hch (fun b o hL hb hc e n => u.keep b o e n (fun z => (List.mem_cons.mp (I.stkSub b z)).elim hL hb) hc) (fun b o _ _ hc e n => u.any e n hc) (fun b o hc e n => u.free b o e n hc) (fun b o hc e => u.there b o e hc) u.tups u.frzs u.tbls (fun m' hm => by
    obtain ⟨o', es', ep', ho', r'⟩ := hm
    rw [ho] at ho'; cases ho'
    exact ⟨_, es', ep', hL, r'⟩) hok hg
theorem Inv.turned {t' : Nat} {it : Addr} (I : Inv X pins σ H s) (k : ∀ b o, b ≠ it → s.heap.get? b = some o → h'.get? b = some o) (hn : H it = none) (hL : it ≠ X.env.locals)
    (h1 : it ∈ X.ex ∨ X.s₀.heap.objs.size ≤ it) (h2 : ∀ x c, X.env.cells.lookup x = some c → c ≠ it) (h3 : ∀ p ∈ X.pn ++ pins, p.1 ≠ it) : Inv X pins σ H { s with heap := h', toks := t' } := by
  have nit : ∀ b u, H b = some u → b ≠ it := fun b u e z => by rw [z, hn] at e; cases e
  refine I.step (g' := s.gens) (d' := s.drawn) (ch := [it]) (fun b hb => ?_) (fun b o _ _ hc e _ => k b o (fun z => hc (by simp [z])) e) (fun b o _ _ hc e _ => ⟨o.slots, k b o (fun z => hc (by simp [z])) e⟩) (fun _ _ _ _ n => n)
    (fun b o hc e => ⟨o, k b o (fun z => hc (by simp [z])) e⟩) (fun _ _ e => e) (fun _ _ _ e => e) (fun b ps e => ⟨#[], by rw [e]; simp⟩) (fun m hm => ?_) (fun b u e => ?_) I.bare
  · have e : b = it := by simpa using hb
    subst e
    exact ⟨h1, hL, h2, h3⟩
  · obtain ⟨o, es, ep, ho, r⟩ := hm
    exact ⟨o, es, ep, k _ o (Ne.symm hL) ho, r⟩
  · refine (I.hok b u e).stay (fun c v hc q => k c v ?_ q) (fun _ q => q) fun _ _ q => q
    rcases hc with z | z
    · rw [z]; exact nit b u e
    · exact nit c _ z
theorem Inv.tok (I : Inv X pins σ H s) (t : Nat) : Inv X pins σ H { s with toks := t } := I.un (h' := s.heap) (t' := t) Un.refl I.hok
theorem Inv.kept {t' : Nat} (I : Inv X pins σ H s) (k : ∀ b u, s.heap.get? b = some u → h'.get? b = some u) : Inv X pins σ H { s with heap := h', toks := t' } := I.un (Un.kept k) (I.hok.kept k)
theorem Inv.laid {a : Addr} {o : HO} {t' : Nat} (I : Inv X pins σ H s) (k : ∀ b u, s.heap.get? b = some u → h'.get? b = some u) (hp : s.heap.objs.size ≤ a) (new : ObjOk X.prog X.w (upd H a o) h' a o) :
    Inv X pins σ (upd H a o) { s with heap := h', toks := t' } := I.un (Un.laid k hp (I.hok.fresh hp)) (I.hok.laid k hp new)
theorem Inv.write {x e : Addr} {o : HO} {t' : Nat} (I : Inv X pins σ H s) (mu : Mut (H x)) (he : e = x ∨ H e = some (.own x)) (k : ∀ b u, b ≠ e → s.heap.get? b = some u → h'.get? b = some u) (heo : ∃ u, h'.get? e = some u)
    (new : ObjOk X.prog X.w (upd H x o) h' x o) : Inv X pins σ (upd H x o) { s with heap := h', toks := t' } := I.un (Un.write mu he k heo) (I.hok.write mu he k heo new)
theorem Inv.weak {σ' : List (Option V)} (I : Inv X pins σ H s) (hl : σ'.length = σ.length) (w : ∀ (i : Nat) v, σ'[i]? = some (some v) → σ[i]? = some (some v)) : Inv X pins σ' H s :=
  ⟨I.ok, I.os, I.bare, I.base, let ⟨m, hn, hl'⟩ := I.loc; ⟨m, hn, fun i x v e1 e2 e3 => hl' i x v e1 (w i v e2) e3⟩, I.cell, I.free, I.freeC, I.pin, I.hok, hl.trans I.len⟩
theorem Inv.pins_of {pins' : List (Addr × Obj)} (I : Inv X pins σ H s) (h : ∀ p ∈ pins', s.heap.get? p.1 = some p.2 ∧ H p.1 = none ∧ p.1 ≠ X.env.locals ∧ p.1 ∉ X.fs ∧ ∀ v, p.2.data ≠ .cell v) : Inv X pins' σ H s :=
  ⟨I.ok, I.os, I.bare, I.base, I.loc, I.cell, I.free, I.freeC, fun p hp => (List.mem_append.mp hp).elim (fun z => I.pin p (List.mem_append_left _ z)) (h p), I.hok, I.len⟩
theorem nodup_ix {N : List Str} (hN : N.Nodup) {i j : Nat} {x : Str} (a : N[i]? = some x) (b : N[j]? = some x) : i = j := by
  obtain ⟨h1, e1⟩ := List.getElem?_eq_some_iff.mp a
  obtain ⟨h2, e2⟩ := List.getElem?_eq_some_iff.mp b
  exact (List.getElem_inj hN).mp (e1.trans e2.symm)
theorem store_ok2 {M : Model} {A : Around} {E : Value → Shared → Prop} {i : Nat} {x : Str} {v : V} {u : Value} {Q : Unit → Shared → Prop} (I : Inv X pins σ H s) (hN : X.N.Nodup) (hi : X.N[i]? = some x) (hx : Loc X.env.scope x) (r : RelV v u)
    (h : ∀ s', Inv X pins (σ.set i (some v)) H s' → (∃ a, Heap.SameBut a s.heap s'.heap ∧ (a = X.env.locals ∨ X.env.cells.lookup x = some a)) → Q () s') (hf : X.fn x = true ∨ X.env.scope.names.lookup x = some .local := by first | exact .inl rfl | exact .inr rfl | assumption) : wpAny M A (storeName X.env x u) Q E s := by
  obtain ⟨m, hn, hl⟩ := id I.loc
  have hcls : (X.env.scope.kind == .class || (X.env.scope.kind == .module && X.env.locals != X.env.globals)) = false := by rw [I.ok.kind]; rfl
  have hiσ : i < σ.length := by rw [I.len]; exact (List.getElem?_eq_some_iff.mp hi).1
  have cne := I.cne
  have tracked : ∀ {a : Addr} {h' : Heap}, (∃ o, s.heap.get? a = some o ∧ H a = none) → Heap.SameBut a s.heap h' → HOk X.prog X.w H h' := fun {a h'} ha hs b ob e => by
    obtain ⟨_, _, hfree⟩ := ha
    refine (I.hok b ob e).stay (fun c w' hc q => (hs.2 c ?_).trans q) (fun _ q => q) fun _ _ q => q
    rintro rfl
    rcases hc with rfl | hc
    · rw [hfree] at e; cases e
    · rw [hfree] at hc; cases hc
  rcases hx with hk | hk
  · refine wpAny_storeName_local hk hn (fun h' hn' hs => ?_) hcls
    obtain ⟨oL, _, _, hoL, _⟩ := id hn
    refine h _ ⟨I.ok, I.os, I.bare, ⟨fun b o e n hb hx => ?_, fun b o e n hb hx => ?_, I.base.free, fun b o e hx => ?_, I.base.tups, I.base.frzs, I.base.tbls⟩, ⟨_, hn', fun j y v' e1 e2 e3 => ?_⟩, fun y c e => ?_, I.free, I.freeC, fun p hp => ?_, tracked ⟨oL, hoL, I.free⟩ hs, by simpa using I.len⟩ ⟨_, hs, .inl rfl⟩
    · exact (hs.2 b (Nat.ne_of_lt (Nat.lt_of_lt_of_le (Heap.lt_size e) I.ok.above))).trans (I.base.keep b o e n hb hx)
    · obtain ⟨sl, e1⟩ := I.base.slot b o e n hb hx
      exact ⟨sl, (hs.2 b (Nat.ne_of_lt (Nat.lt_of_lt_of_le (Heap.lt_size e) I.ok.above))).trans e1⟩
    · obtain ⟨o', e1⟩ := I.base.there b o e hx
      exact ⟨o', (hs.2 b (Nat.ne_of_lt (Nat.lt_of_lt_of_le (Heap.lt_size e) I.ok.above))).trans e1⟩
    · by_cases hj : j = i
      · subst hj
        rw [hi] at e1; cases e1
        rw [List.getElem?_set_self hiσ] at e2
        cases e2
        exact ⟨u, r, .inl ⟨hk, by simp⟩⟩
      · rw [List.getElem?_set_ne (Ne.symm hj)] at e2
        obtain ⟨u', r', q⟩ := hl j y v' e1 e2 e3
        refine ⟨u', r', ?_⟩
        rcases q with ⟨k, e⟩ | ⟨k, c, e, z⟩
        · refine .inl ⟨k, ?_⟩
          have : y ≠ x := fun e => hj (nodup_ix hN e1 (e ▸ hi))
          simp [this, e]
        · exact .inr ⟨k, c, e, z.sameBut hs (cne y c e)⟩
    · obtain ⟨w', z⟩ := I.cell y c e
      exact ⟨w', z.sameBut hs (cne y c e)⟩
    · obtain ⟨e, n, ne, nf, d⟩ := I.pin p hp
      exact ⟨(hs.2 p.1 ne).trans e, n, ne, nf, d⟩
  · have hfn : X.fn x = true := by
      rcases hf with z | z
      · exact z
      · rw [z] at hk; cases hk
    obtain ⟨c, hc⟩ := I.ok.has x (.inl hk)
    obtain ⟨w', z⟩ := I.cell x c hc
    refine wpAny_storeName_cell I.ok.kind hk hc z (fun h' hc' hs => ?_)
    obtain ⟨oc, hoc, hocd⟩ := id z
    refine h { s with heap := h' } ⟨I.ok, I.os, I.bare, ⟨fun b o e n hb hx => ?_, fun b o e n hb hx => ?_, I.base.free, fun b o e hx => ?_, I.base.tups, I.base.frzs, I.base.tbls⟩, ⟨m, hn.sameBut hs (Ne.symm (cne x c hc)), fun j y v' e1 e2 e3 => ?_⟩, fun y c' e => ?_, I.free, I.freeC, fun p hp => ?_, tracked ⟨oc, hoc, I.freeC x c hc⟩ hs, by simpa using I.len⟩ ⟨c, hs, .inr hc⟩
    · exact (hs.2 b (Nat.ne_of_lt (Nat.lt_of_lt_of_le (Heap.lt_size e) (I.ok.cab x c hfn hc)))).trans (I.base.keep b o e n hb hx)
    · obtain ⟨sl, e1⟩ := I.base.slot b o e n hb hx
      exact ⟨sl, (hs.2 b (Nat.ne_of_lt (Nat.lt_of_lt_of_le (Heap.lt_size e) (I.ok.cab x c hfn hc)))).trans e1⟩
    · obtain ⟨o', e1⟩ := I.base.there b o e hx
      exact ⟨o', (hs.2 b (Nat.ne_of_lt (Nat.lt_of_lt_of_le (Heap.lt_size e) (I.ok.cab x c hfn hc)))).trans e1⟩
    · by_cases hj : j = i
      · subst hj
        rw [hi] at e1; cases e1
        rw [List.getElem?_set_self hiσ] at e2
        cases e2
        exact ⟨u, r, .inr ⟨.inl hk, c, hc, hc'⟩⟩
      · rw [List.getElem?_set_ne (Ne.symm hj)] at e2
        obtain ⟨u', r', q⟩ := hl j y v' e1 e2 e3
        refine ⟨u', r', ?_⟩
        rcases q with q | ⟨k, c', e, z'⟩
        · exact .inl q
        · refine .inr ⟨k, c', e, z'.sameBut hs ?_⟩
          rintro rfl
          exact hj (nodup_ix hN e1 (I.ok.inj _ _ _ e hc ▸ hi))
    · by_cases hcc : c' = c
      · subst hcc; exact ⟨_, hc'⟩
      · obtain ⟨w2, z2⟩ := I.cell y c' e
        exact ⟨w2, z2.sameBut hs hcc⟩
    · obtain ⟨e, n, ne, nf, d⟩ := I.pin p hp
      refine ⟨(hs.2 p.1 ?_).trans e, n, ne, nf, d⟩
      intro q
      rw [q, hoc] at e
      have q' : oc = p.2 := Option.some.inj e
      exact d w' (by rw [← q']; exact hocd)
theorem store_ok {M : Model} {A : Around} {E : Value → Shared → Prop} {i : Nat} {x : Str} {v : V} {u : Value} {Q : Unit → Shared → Prop} (I : Inv X pins σ H s) (hN : X.N.Nodup) (hi : X.N[i]? = some x) (hx : Loc X.env.scope x) (r : RelV v u)
    (h : ∀ s', Inv X pins (σ.set i (some v)) H s' → Q () s') (hf : X.fn x = true ∨ X.env.scope.names.lookup x = some .local := by first | exact .inl rfl | exact .inr rfl | assumption) : wpAny M A (storeName X.env x u) Q E s :=
  store_ok2 I hN hi hx r (fun s' I' _ => h s' I') hf
theorem Inv.call' {s' : Shared} {ch : List Addr} (I : Inv X pins σ H s) (ho : s'.os = s.os) (u : Un (frs X.stack) ch H H' s.heap s'.heap) (hok : HOk X.prog X.w H' s'.heap) (hg : AllBare s'.gens)
    (hch : ∀ b ∈ ch, (b ∈ X.ex ∨ X.s₀.heap.objs.size ≤ b) ∧ b ≠ X.env.locals ∧ (∀ x c, X.env.cells.lookup x = some c → c ≠ b) ∧ ∀ p ∈ X.pn ++ pins, p.1 ≠ b) : Inv X pins σ H' s' := by
  obtain ⟨h', g', d', t', o'⟩ := s'
  have e : o' = s.os := ho
  subst e
  exact I.call (g' := g') (t' := t') (d' := d') u hok hg hch
end
abbrev XK := Value → Option Addr → Hp → Prop
abbrev St := List (Option V)
abbrev VK := V → Hp → Prop
abbrev TE := St → Hp → VK → Prop
abbrev TT := St → Hp → (Bool → Hp → Prop) → Prop
abbrev TA := St → Hp → (List V → Hp → Prop) → Prop
structure Ends where
  nx : St → Hp → Prop
  rt : VK
  bk : St → Hp → Prop := fun _ _ => False
  ct : St → Hp → Prop := fun _ _ => False
abbrev TS := Ends → St → Hp → Prop
noncomputable def EP (X : Cx) (pins : List (Addr × Obj)) (σ : St) (Q : VK) (u : Value) (s' : Shared) : Prop := ∃ v H', Inv X pins σ H' s' ∧ RelV v u ∧ Q v H'
noncomputable def TP (X : Cx) (pins : List (Addr × Obj)) (σ : St) (Q : Bool → Hp → Prop) (b : Bool) (s' : Shared) : Prop := ∃ H', Inv X pins σ H' s' ∧ Q b H'
noncomputable def AP (X : Cx) (pins : List (Addr × Obj)) (σ : St) (Q : List V → Hp → Prop) (us : List Value) (s' : Shared) : Prop := ∃ vs H', Inv X pins σ H' s' ∧ Vals vs us ∧ Q vs H'
noncomputable def SP (X : Cx) (pins : List (Addr × Obj)) (D : Ends) (f : Flow) (s' : Shared) : Prop :=
  match f with
  | .next => ∃ σ' H', Inv X pins σ' H' s' ∧ D.nx σ' H'
  | .brk => ∃ σ' H', Inv X pins σ' H' s' ∧ D.bk σ' H'
  | .cont => ∃ σ' H', Inv X pins σ' H' s' ∧ D.ct σ' H'
  | .ret u => ∃ v σ' H', Inv X pins σ' H' s' ∧ RelV v u ∧ D.rt v H'
noncomputable def PE (X : Cx) (e : Expr) (t : TE) : Prop :=
  ∀ (pins : List (Addr × Obj)) (s : Shared) (σ : St) (H : Hp) (Q : VK), Inv X pins σ H s → t σ H Q → wpAny (model X.prog X.w) X.A (eval e X.env) (EP X pins σ Q) X.xe s
noncomputable def PT (X : Cx) (e : Expr) (t : TT) : Prop :=
  ∀ (pins : List (Addr × Obj)) (s : Shared) (σ : St) (H : Hp) (Q : Bool → Hp → Prop), Inv X pins σ H s → t σ H Q → wpAny (model X.prog X.w) X.A (isTrue e X.env (eval e X.env)) (TP X pins σ Q) X.xe s
noncomputable def PW (X : Cx) (e : Expr) (t : TT) : Prop :=
  ∀ (whole : Sem Value) (pins : List (Addr × Obj)) (s : Shared) (σ : St) (H : Hp) (Q : Bool → Hp → Prop), Inv X pins σ H s → t σ H Q → wpAny (model X.prog X.w) X.A (isTrue e X.env whole) (TP X pins σ Q) X.xe s
theorem PW.pt {X : Cx} {e : Expr} {t : TT} (h : PW X e t) : PT X e t := h _
noncomputable def PA (X : Cx) (es : List Expr) (t : TA) : Prop :=
  ∀ (pos : Pos) (pins : List (Addr × Obj)) (s : Shared) (σ : St) (H : Hp) (Q : List V → Hp → Prop), Inv X pins σ H s → t σ H Q → wpAny (model X.prog X.w) X.A (spliced (backTo pos (starEach es X.env))) (AP X pins σ Q) X.xe s
noncomputable def PS (X : Cx) (st : Stmt) (t : TS) : Prop :=
  ∀ (pins : List (Addr × Obj)) (s : Shared) (σ : St) (H : Hp) (D : Ends), Inv X pins σ H s → t D σ H → wpAny (model X.prog X.w) X.A (exec st X.env) (SP X pins D) X.xe s
noncomputable def PSs (X : Cx) (st : List Stmt) (t : TS) : Prop :=
  ∀ (pins : List (Addr × Obj)) (s : Shared) (σ : St) (H : Hp) (D : Ends), Inv X pins σ H s → t D σ H → wpAny (model X.prog X.w) X.A (execs st X.env) (SP X pins D) X.xe s
theorem thn {α : Type} {t : Sem α} {Q Q' : α → Shared → Prop} {M : Model} {A : Around} {E : Value → Shared → Prop} {s : Shared} (h : wpAny M A t Q E s) (hQ : ∀ a s, Q a s → Q' a s) : wpAny M A t Q' E s := wpAny_mono h hQ fun _ _ x => x
section
variable {X : Cx}
noncomputable def tVar (i : Nat) : TE := fun σ H Q => ∃ v, σ[i]? = some (some v) ∧ Q v H
noncomputable def tC (v : V) : TE := fun _ H Q => Q v H
theorem pe_var {i : Nat} {x : Str} {pos : Pos} (hN : X.N[i]? = some x) (hv : Vis X.env.scope x) (hd : (x == ("__debug__" : Str)) = false := by decide) (hcd : (x == ("__classdict__" : Str)) = false := by decide) : PE X (.Name x pos) (tVar i) := by
  intro pins s σ H Q I h
  obtain ⟨v, e, h⟩ := h
  obtain ⟨m, hn, hl⟩ := I.loc
  obtain ⟨u, r, l⟩ := hl i x v hN e hv
  have fin : EP X pins σ Q u s := ⟨v, H, I, r, h⟩
  rcases l with ⟨hk, hm⟩ | ⟨hk, c, hc, hcell⟩
  · exact wpAny_Name (wpAny_loadName_local I.ok.kind hk hn hm fin) hd
  · rcases hk with hk | hk
    · exact wpAny_Name (wpAny_loadName_cell I.ok.kind hk hc hcell fin) hd
    · exact wpAny_Name (wpAny_loadName_free I.ok.kind hk hc hcell fin hcd) hd
theorem pe_int {i j pos} : PE X (.Constant (.int i) j pos) (tC (.int i)) := fun _ _ _ H _ I h => wpAny_Constant_int ⟨.int i, H, I.tok _, ⟨_, rfl⟩, h⟩
theorem pe_bl {b j pos} : PE X (.Constant (.bool b) j pos) (tC (.bl b)) := fun _ _ _ H _ I h => Constant_bool ⟨.bl b, H, I, rfl, h⟩
theorem pe_non {j pos} : PE X (.Constant .none j pos) (tC .non) := fun _ _ _ H _ I h => Constant_none ⟨.non, H, I, rfl, h⟩
theorem pe_str {x j pos} : PE X (.Constant (.str x) j pos) (tC (.str x)) := fun _ _ _ H _ I h => Calls.Constant_str ⟨.str x, H, I.tok _, ⟨_, rfl⟩, h⟩
noncomputable def Gl (X : Cx) (x : Str) : Prop := X.env.kindOf x = some .globalImplicit
theorem ld_glob {E : Value → Shared → Prop} {pins : List (Addr × Obj)} {s : Shared} {σ : St} {H : Hp} {x : Str} {u : Value} {pos : Pos} {Q : Value → Shared → Prop} (I : Inv X pins σ H s) (hg : Gl X x) (hm : X.mg x = some u) (h : Q u s)
    (hd : (x == ("__debug__" : Str)) = false := by decide) : wpAny (model X.prog X.w) X.A (eval (.Name x pos) X.env) Q E s :=
  Calls.Name_function_global I.ok.kind hg (Calls.loadGlobal_global (by rw [I.ok.glob]; exact I.mod.glob.keeps I.bk) hm h) hd
theorem ld_blt {E : Value → Shared → Prop} {pins : List (Addr × Obj)} {s : Shared} {σ : St} {H : Hp} {x : Str} {u : Value} {pos : Pos} {Q : Value → Shared → Prop} (I : Inv X pins σ H s) (hg : Gl X x) (hm : X.mg x = none) (hv : bootBuiltins x = some u) (h : Q u s)
    (hn : x ≠ "__name__" := by decide) (hd : (x == ("__debug__" : Str)) = false := by decide) : wpAny (model X.prog X.w) X.A (eval (.Name x pos) X.env) Q E s := by
  obtain ⟨mb, h1, h2⟩ := I.mod.blt
  exact Calls.Name_function_global I.ok.kind hg (Calls.loadGlobal_builtin (by rw [I.ok.glob]; exact I.mod.glob.keeps I.bk) hm (by rw [I.ok.blt]; exact h1.keeps I.bk) ((h2 x hn).trans hv) h) hd
theorem pe_glob {x : Str} {v : V} {u : Value} {pos : Pos} (hg : Gl X x) (hm : X.mg x = some u) (r : RelV v u) (hd : (x == ("__debug__" : Str)) = false := by decide) : PE X (.Name x pos) (tC v) :=
  fun _ _ _ H _ I h => ld_glob I hg hm ⟨v, H, I, r, h⟩ hd
theorem pe_bltn {x : Str} {v : V} {u : Value} {pos : Pos} (hg : Gl X x) (hm : X.mg x = none) (hv : bootBuiltins x = some u) (r : RelV v u) (hn : x ≠ "__name__" := by decide) (hd : (x == ("__debug__" : Str)) = false := by decide) : PE X (.Name x pos) (tC v) :=
  fun _ _ _ H _ I h => ld_blt I hg hm hv ⟨v, H, I, r, h⟩ hn hd
variable {a b : Expr} {ta tb : TE} {pos : Pos}
noncomputable def PC (X : Cx) (op : CmpOp) (a b : Expr) (t : TE) : Prop :=
  ∀ (pins : List (Addr × Obj)) (s : Shared) (σ : St) (H : Hp) (Q : VK), Inv X pins σ H s → t σ H Q →
    wpAny (model X.prog X.w) X.A (eval a X.env) (fun v s₁ => wpAny (model X.prog X.w) X.A (eval b X.env) (fun u s₂ => wpAny (model X.prog X.w) X.A (compareOp op v u) (EP X pins σ Q) X.xe s₂) X.xe s₁) X.xe s
theorem nobehind (b : Expr) {op : CmpOp} (h : op ≠ .In) (h2 : op ≠ .NotIn) : behindInMarks op b = false := by
  have e1 : (op == CmpOp.In) = false := by cases op <;> first | rfl | exact absurd rfl h
  have e2 : (op == CmpOp.NotIn) = false := by cases op <;> first | rfl | exact absurd rfl h2
  cases b <;> simp [behindInMarks, e1, e2]
noncomputable def tB (t : TE) : TT := fun σ H Q => t σ H fun x H1 => ∃ c, x = .bl c ∧ Q c H1
theorem pt_cmp {op : CmpOp} {t : TE} (h : PC X op a b t) (h1 : behindInMarks op b = false := by first | exact nobehind _ (by decide) (by decide) | rfl) : PT X (.Compare a [op] [b] pos) (tB t) := by
  intro pins s σ H Q I hw
  refine wpAny_isTrue_Compare1 (thn (h pins s σ H _ I hw) fun v s1 h1 => thn h1 fun u s2 h2 => thn h2 fun c s3 ⟨x, H1, I1, r1, q1⟩ => ?_) h1
  obtain ⟨d, rfl, q⟩ := q1
  cases r1
  exact wpAny_truthy_bool ⟨H1, I1, q⟩
theorem pt_val {e : Expr} {t : TE} (h : PE X e t) (he : ∀ whole, isTrue e X.env whole = (do let v ← whole; standAt e.pos; holding [v] (truthy v)) := by intro _; rfl) : PT X e (tB t) := by
  intro pins s σ H Q I hw
  refine isTrue_plain (thn (h pins s σ H _ I hw) fun v s1 ⟨x, H1, I1, r1, q1⟩ => ?_) (he _)
  obtain ⟨d, rfl, q⟩ := q1
  cases r1
  exact wpAny_truthy_bool ⟨H1, I1, q⟩
variable {tA tB' : TT} {rest : List Expr}
noncomputable def tAnd (t u : TT) : TT := fun σ H Q => t σ H fun c H1 => if c = true then u σ H1 Q else Q false H1
noncomputable def tOr (t u : TT) : TT := fun σ H Q => t σ H fun c H1 => if c = true then Q true H1 else u σ H1 Q
noncomputable def tNot (t : TT) : TT := fun σ H Q => t σ H fun c H1 => Q (!c) H1
theorem pw_and1 (ha : PT X a tA) : PW X (.BoolOp .And [a] pos) tA := by
  intro wh pins s σ H Q I h
  refine isTrue_and (thn (ha pins s σ H Q I h) fun c s1 e => ?_)
  cases c with
  | true => exact isTrue_and_nil e
  | false => exact e
theorem pw_or1 (ha : PT X a tA) : PW X (.BoolOp .Or [a] pos) tA := by
  intro wh pins s σ H Q I h
  refine isTrue_or (thn (ha pins s σ H Q I h) fun c s1 e => ?_)
  cases c with
  | false => exact isTrue_or_nil e
  | true => exact e
theorem pw_and (ha : PT X a tA) (hb : PW X (.BoolOp .And (b :: rest) pos) tB') : PW X (.BoolOp .And (a :: b :: rest) pos) (tAnd tA tB') := by
  intro wh pins s σ H Q I h
  refine isTrue_and (thn (ha pins s σ H _ I h) fun c s1 ⟨H1, I1, q1⟩ => ?_)
  cases c with
  | true => exact hb wh pins s1 σ H1 Q I1 q1
  | false => exact ⟨H1, I1, q1⟩
theorem pw_or (ha : PT X a tA) (hb : PW X (.BoolOp .Or (b :: rest) pos) tB') : PW X (.BoolOp .Or (a :: b :: rest) pos) (tOr tA tB') := by
  intro wh pins s σ H Q I h
  refine isTrue_or (thn (ha pins s σ H _ I h) fun c s1 ⟨H1, I1, q1⟩ => ?_)
  cases c with
  | true => exact ⟨H1, I1, q1⟩
  | false => exact hb wh pins s1 σ H1 Q I1 q1
theorem pt_not (ha : PT X a tA) : PT X (.UnaryOp .Not a pos) (tNot tA) := by
  intro pins s σ H Q I h
  exact isTrue_not (ha pins s σ H (fun c H1 => Q (!c) H1) I h)
noncomputable def tAndV (ta tb : TE) : TE := fun σ H Q => ta σ H fun x H1 => ∃ c, x = .bl c ∧ if c = true then tb σ H1 Q else Q (.bl false) H1
theorem pe_one {op} {t : TE} (h : PE X a t) : PE X (.BoolOp op [a] pos) t := fun pins s σ H Q I hw => BoolOp_one (h pins s σ H Q I hw)
theorem pe_and (ha : PE X a ta) (hb : PE X (.BoolOp .And (b :: rest) pos) tb) : PE X (.BoolOp .And (a :: b :: rest) pos) (tAndV ta tb) := by
  intro pins s σ H Q I h
  refine BoolOp_and (thn (ha pins s σ H _ I h) fun v s1 ⟨x, H1, I1, r1, q1⟩ => ?_)
  obtain ⟨c, rfl, q1⟩ := q1
  cases r1
  refine wpAny_truthy_bool ?_
  cases c with
  | true => exact hb pins s1 σ H1 Q I1 q1
  | false => exact ⟨.bl false, H1, I1, rfl, q1⟩
noncomputable def tIf (t : TT) (ta tb : TE) : TE := fun σ H Q => t σ H fun c H1 => if c = true then ta σ H1 Q else tb σ H1 Q
theorem pe_ifExp {c : Expr} (hc : PT X c tA) (ha : PE X a ta) (hb : PE X b tb) : PE X (.IfExp c a b pos) (tIf tA ta tb) := by
  intro pins s σ H Q I h
  refine wpAny_IfExp (thn (hc pins s σ H _ I h) fun d s1 ⟨H1, I1, q1⟩ => ?_)
  cases d with
  | true => exact ha pins s1 σ H1 Q I1 q1
  | false => exact hb pins s1 σ H1 Q I1 q1
end
noncomputable def SqL (K : PySem.W.Frag) (H : Hp) (a : Addr) (xs : List V) : Prop :=
  Rd H a (.lst xs) ∨
    ∃ (o : Obj) (its : Array Value) (n : Nat), K.lookup a = some o ∧ o.cls = .type "list" ∧ o.dict = none ∧ o.data = .seq its n ∧ its.size ≤ sizeLine ∧ Vals xs its.toList
noncomputable def SqT (K : PySem.W.Frag) (H : Hp) (a : Addr) (xs : List V) : Prop :=
  Rd H a (.tup xs) ∨
    ∃ (o : Obj) (its : Array Value) (n : Nat), K.lookup a = some o ∧ o.cls = .type "tuple" ∧ o.data = .seq its n ∧ its.size ≤ sizeLine ∧ Vals xs its.toList
noncomputable def absV : Value → Option V
  | .none => some .non
  | .bool b => some (.bl b)
  | .int i _ => some (.int i)
  | .str x _ => some (.str x)
  | .bytes b _ => some (.byt b)
  | .float b _ => some (.flt b)
  | .ref a => some (.ref a)
  | .type n => some (.ty n)
  | _ => none
theorem RelV.abs {x : V} {u : Value} (r : RelV x u) : absV u = some x := by
  cases x with
  | non => cases r; rfl
  | bl _ => cases r; rfl
  | int _ => obtain ⟨t, rfl⟩ := r; rfl
  | str _ => obtain ⟨t, rfl⟩ := r; rfl
  | byt _ => obtain ⟨t, rfl⟩ := r; rfl
  | flt _ => obtain ⟨t, rfl⟩ := r; rfl
  | ref _ => cases r; rfl
  | ty _ => cases r; rfl
theorem RelV.inj {x y : V} {u : Value} (r : RelV x u) (q : RelV y u) : x = y := Option.some.inj (r.abs.symm.trans q.abs)
theorem Vals.inj : ∀ {xs ys : List V} {us : List Value}, Vals xs us → Vals ys us → xs = ys
  | _, _, _, .nil, .nil => rfl
  | _, _, _, .cons r t, .cons r' t' => by rw [r.inj r', Vals.inj t t']
section
variable {X : Cx} {pins : List (Addr × Obj)} {σ : St} {H : Hp} {s : Shared} {a : Addr} {xs ys : List V}
theorem SqL.of {K : PySem.W.Frag} (h : H a = some (.lst xs)) : SqL K H a xs := .inl (.inl h)
theorem SqT.of {K : PySem.W.Frag} (h : H a = some (.tup xs)) : SqT K H a xs := .inl (.inl h)
theorem Inv.list (I : Inv X pins σ H s) (h : SqL X.K H a xs) : ∃ its : List Value, Vals xs its ∧ PlainL s.heap a its.toArray ∧ xs.length ≤ sizeLine := by
  rcases h with h | ⟨o, its, n, hk, hc, hd, hs, hz, r⟩
  · obtain ⟨z, its, n, r, e⟩ := h.ok I.hok
    exact ⟨its, r, ⟨_, n, e, rfl, rfl, rfl⟩, z⟩
  · refine ⟨its.toList, r, ⟨o, n, I.kIn a o hk, hc, hd, by simpa using hs⟩, ?_⟩
    have e := r.length
    simp only [Array.length_toList] at e
    omega
theorem Inv.tuple (I : Inv X pins σ H s) (h : SqT X.K H a xs) : ∃ its : List Value, Vals xs its ∧ IsTup s.heap a its.toArray ∧ xs.length ≤ sizeLine := by
  rcases h with h | ⟨o, its, n, hk, hc, hs, hz, r⟩
  · obtain ⟨z, its, r, p⟩ := h.ok I.hok
    exact ⟨its, r, p, z⟩
  · refine ⟨its.toList, r, ⟨o, I.kIn a o hk, hc, n, by simpa using hs⟩, ?_⟩
    have e := r.length
    simp only [Array.length_toList] at e
    omega
theorem Inv.list_inj (I : Inv X pins σ H s) (h : SqL X.K H a xs) (h' : SqL X.K H a ys) : xs = ys := by
  obtain ⟨its, r, ⟨o, n, e, _, _, d⟩, _⟩ := I.list h
  obtain ⟨its', r', ⟨o', n', e', _, _, d'⟩, _⟩ := I.list h'
  rw [e] at e'; cases e'
  rw [d] at d'
  injection d' with d1 _
  have : its = its' := by simpa using congrArg Array.toList d1
  subst this
  exact r.inj r'
end
abbrev Cx.wish (X : Cx) (E : Value → Shared → Prop) : Cx := { X with xe := E }
abbrev Cx.nox (X : Cx) : Cx := X.wish fun _ _ => False
theorem Cx.Ok.wish {X : Cx} (ok : X.Ok) (E : Value → Shared → Prop) : (X.wish E).Ok :=
  ⟨ok.mod, ok.kind, ok.glob, ok.blt, ok.above, ok.inj, ok.has, ok.cab, ok.hd, ok.frames, ok.stk, ok.exf, ok.bs, ok.bsz, ok.noex, ok.exfs, ok.funs, ok.frf⟩
theorem Cx.Ok.unwish {X : Cx} {E : Value → Shared → Prop} (ok : (X.wish E).Ok) : X.Ok :=
  ⟨ok.mod, ok.kind, ok.glob, ok.blt, ok.above, ok.inj, ok.has, ok.cab, ok.hd, ok.frames, ok.stk, ok.exf, ok.bs, ok.bsz, ok.noex, ok.exfs, ok.funs, ok.frf⟩
section
variable {X : Cx} {pins : List (Addr × Obj)} {σ : St} {H : Hp} {s : Shared} {E : Value → Shared → Prop}
theorem Inv.wish (I : Inv X pins σ H s) (E : Value → Shared → Prop) : Inv (X.wish E) pins σ H s := ⟨I.ok.wish E, I.os, I.bare, I.base, I.loc, I.cell, I.free, I.freeC, I.pin, I.hok, I.len⟩
theorem Inv.unwish (I : Inv (X.wish E) pins σ H s) : Inv X pins σ H s := ⟨I.ok.unwish, I.os, I.bare, I.base, I.loc, I.cell, I.free, I.freeC, I.pin, I.hok, I.len⟩
theorem SP.unwish {D : Ends} {f : Flow} {s' : Shared} (h : SP (X.wish E) pins D f s') : SP X pins D f s' := by
  cases f with
  | next => obtain ⟨σ', H', I, q⟩ := h; exact ⟨σ', H', I.unwish, q⟩
  | brk => obtain ⟨σ', H', I, q⟩ := h; exact ⟨σ', H', I.unwish, q⟩
  | cont => obtain ⟨σ', H', I, q⟩ := h; exact ⟨σ', H', I.unwish, q⟩
  | ret u => obtain ⟨v, σ', H', I, r, q⟩ := h; exact ⟨v, σ', H', I.unwish, r, q⟩
theorem PE.nox {e : Expr} {t : TE} (h : PE X.nox e t) : PE X e t := fun pins s σ H Q I hw =>
  wpAny_mono (h pins s σ H Q (I.wish _) hw) (fun _ _ ⟨v, H', I', r, q⟩ => ⟨v, H', I'.unwish, r, q⟩) fun _ _ z => False.elim z
theorem PT.nox {e : Expr} {t : TT} (h : PT X.nox e t) : PT X e t := fun pins s σ H Q I hw =>
  wpAny_mono (h pins s σ H Q (I.wish _) hw) (fun _ _ ⟨H', I', q⟩ => ⟨H', I'.unwish, q⟩) fun _ _ z => False.elim z
theorem PSs.nox {st : List Stmt} {t : TS} (h : PSs X.nox st t) : PSs X st t := fun pins s σ H D I hw =>
  wpAny_mono (h pins s σ H D (I.wish _) hw) (fun _ _ q => q.unwish) fun _ _ z => False.elim z
end
section
variable {X : Cx} {st : Stmt} {rest : List Stmt} {t u : TS} {e : Expr} {te : TE} {pos : Pos}
noncomputable def tNext : TS := fun D σ H => D.nx σ H
noncomputable def tSeq (t u : TS) : TS := fun D σ H => t { D with nx := u D } σ H
theorem pss_nil : PSs X [] tNext := fun _ _ σ H _ I h => wpAny_execs_nil ⟨σ, H, I, h⟩
theorem pss_cons (h1 : PS X st t) (h2 : PSs X rest u) : PSs X (st :: rest) (tSeq t u) := by
  intro pins s σ H D I h
  refine wpAny_execs_cons (thn (h1 pins s σ H { D with nx := u D } I h) fun f s1 q => ?_)
  cases f with
  | next =>
    obtain ⟨σ', H', I', q⟩ := q
    exact h2 pins s1 σ' H' D I' q
  | ret v => exact q
  | brk => exact q
  | cont => exact q
theorem pss_one (h1 : PS X st t) : PSs X [st] t := by
  intro pins s σ H D I h
  refine wpAny_execs_cons (thn (h1 pins s σ H D I h) fun f s1 q => ?_)
  cases f with
  | next => exact wpAny_execs_nil q
  | ret v => exact q
  | brk => exact q
  | cont => exact q
theorem Inv.quiet {pins : List (Addr × Obj)} {σ : St} {H : Hp} {s : Shared} (I : Inv X pins σ H s) : interactive X.env = false := by simp [interactive, I.ok.kind]
noncomputable def tDrop (te : TE) : TS := fun D σ H => te σ H fun _ H1 => D.nx σ H1
theorem ps_expr (he : PE X e te) (hs : swapsWith e none pos.line X.env = pure false := by rfl) : PS X (.Expr e pos) (tDrop te) := by
  intro pins s σ H D I h
  exact wpAny_Expr_any (thn (he pins s σ H _ I h) fun v s1 ⟨x, H1, I1, r1, q1⟩ => ⟨σ, H1, I1, q1⟩) I.quiet hs
noncomputable def tRet (te : TE) : TS := fun D σ H => te σ H D.rt
theorem ps_ret (he : PE X e te) : PS X (.Return (some e) pos) (tRet te) := by
  intro pins s σ H D I h
  exact wpAny_Return_some (thn (he pins s σ H _ I h) fun v s1 ⟨x, H1, I1, r1, q1⟩ => ⟨x, σ, H1, I1, r1, q1⟩)
noncomputable def tIfS (c : TT) (t u : TS) : TS := fun D σ H => c σ H fun b H1 => if b = true then t D σ H1 else u D σ H1
theorem ps_if {c : Expr} {a b : List Stmt} {tc : TT} (hc : PT X c tc) (ha : PSs X a t) (hb : PSs X b u) : PS X (.If c a b pos) (tIfS tc t u) := by
  intro pins s σ H D I h
  refine wpAny_If (thn (hc pins s σ H _ I h) fun d s1 ⟨H1, I1, q1⟩ => ?_)
  cases d with
  | true => exact ha pins s1 σ H1 D I1 q1
  | false => exact hb pins s1 σ H1 D I1 q1
end
abbrev TG := V → St → Hp → (St → Hp → Prop) → Prop
abbrev TGs := List V → St → Hp → (St → Hp → Prop) → Prop
noncomputable def PG (X : Cx) (target : Expr) (t : TG) : Prop :=
  ∀ (pins : List (Addr × Obj)) (s : Shared) (σ : St) (H : Hp) (v : V) (u : Value) (Q : St → Hp → Prop), Inv X pins σ H s → RelV v u → t v σ H Q →
    wpAny (model X.prog X.w) X.A (assign target X.env u) (fun _ s' => ∃ σ' H', Inv X pins σ' H' s' ∧ Q σ' H') X.xe s
noncomputable def PGs (X : Cx) (ts : List Expr) (t : TGs) : Prop :=
  ∀ (pins : List (Addr × Obj)) (s : Shared) (σ : St) (H : Hp) (vs : List V) (us : List Value) (Q : St → Hp → Prop), Inv X pins σ H s → Vals vs us → t vs σ H Q →
    wpAny (model X.prog X.w) X.A (assignInOrder ((assignEach ts X.env).map (·.2)) us) (fun _ s' => ∃ σ' H', Inv X pins σ' H' s' ∧ Q σ' H') X.xe s
abbrev TSet := V → V → V → Hp → (Hp → Prop) → Prop
noncomputable def PSet (X : Cx) (t : TSet) : Prop :=
  ∀ (pins : List (Addr × Obj)) (s : Shared) (σ : St) (H : Hp) (o i v : V) (ov iv u : Value) (Q : Hp → Prop), Inv X pins σ H s → RelV o ov → RelV i iv → RelV v u → t o i v H Q →
    wpAny (model X.prog X.w) X.A (setItem ov iv u) (fun _ s' => ∃ H', Inv X pins σ H' s' ∧ Q H') X.xe s
section
variable {X : Cx} {pos : Pos}
noncomputable def gName (i : Nat) : TG := fun v σ H Q => Q (σ.set i (some v)) H
theorem pg_name {i : Nat} {x : Str} (hN : X.N.Nodup) (hi : X.N[i]? = some x) (hx : Loc X.env.scope x) (hf : X.fn x = true ∨ X.env.scope.names.lookup x = some .local := by first | exact .inl rfl | exact .inr rfl | assumption) : PG X (.Name x pos) (gName i) := by
  intro pins s σ H v u Q I r h
  exact wpAny_assign_Name (store_ok I hN hi hx r (fun s' I' => ⟨_, H, I', h⟩) hf)
noncomputable def gNil : TGs := fun vs σ H Q => vs = [] ∧ Q σ H
noncomputable def gCons (t : TG) (u : TGs) : TGs := fun vs σ H Q => ∃ v r, vs = v :: r ∧ t v σ H fun σ' H' => u r σ' H' Q
theorem pgs_nil : PGs X [] gNil := by
  intro pins s σ H vs us Q I r h
  obtain ⟨e, h⟩ := h
  subst e
  cases r
  exact assignInOrder_nil ⟨σ, H, I, h⟩
theorem pgs_cons {e : Expr} {es : List Expr} {t : TG} {u : TGs} (h1 : PG X e t) (h2 : PGs X es u)
    (hs : (assignEach (e :: es) X.env).map (·.2) = assign e X.env :: (assignEach es X.env).map (·.2) := by rfl) : PGs X (e :: es) (gCons t u) := by
  intro pins s σ H vs us Q I r h
  obtain ⟨v, vr, e1, h⟩ := h
  subst e1
  cases r with
  | cons r rr =>
    rw [hs]
    refine assignInOrder_cons (thn (h1 pins s σ H _ _ _ I r h) fun _ s1 ⟨σ1, H1, I1, q1⟩ => ?_)
    exact h2 pins s1 σ1 H1 _ _ Q I1 rr q1
noncomputable def gTup (K : PySem.W.Frag) (n : Nat) (t : TGs) : TG := fun v σ H Q => ∃ a xs, v = .ref a ∧ SqT K H a xs ∧ xs.length = n ∧ t xs σ H Q
theorem pg_tup {es : List Expr} {k : Nat} {t : TGs} {n : Nat} (hc : X.calm = true) (h : PGs X es t)
    (hn : (assignEach es X.env).length = n := by rfl) (hst : (assignEach es X.env).findIdx? (·.1) = none := by rfl) : PG X (.Tuple es k pos) (gTup X.K n t) := by
  intro pins s σ H v u Q I r hw
  obtain ⟨a, xs, e1, hq, hl, hw⟩ := hw
  subst e1
  cases r
  obtain ⟨its, rv, ht, hz⟩ := I.tuple hq
  refine assign_Tuple_tuple (I.ok.hd hc) ht (by simp [hn, ← hl, rv.length]) hst fun h' hx => ?_
  have I1 : Inv X pins σ H { s with heap := h' } := I.kept (t' := s.toks) fun b o e => hx b o (Nat.ne_of_lt (Heap.lt_size e)) e
  exact h pins _ σ H xs _ Q I1 (by simpa using rv) hw
noncomputable def gSub (to ti : TE) (t : TSet) : TG := fun v σ H Q => to σ H fun o H1 => ti σ H1 fun i H2 => t o i v H2 fun H3 => Q σ H3
theorem pg_sub {o i : Expr} {to ti : TE} {t : TSet} (ho : PE X o to) (hi : PE X i ti) (hs : PSet X t)
    (ha : ∀ v, assign (.Subscript o i pos) X.env v = (do
      let ov ← holding [v] (eval o X.env)
      let iv ← holding [v, ov] (eval i X.env)
      standAt pos
      holding [v, ov, iv] (setItem ov iv v)
      release [v, ov, iv] []) := by intro _; rfl) : PG X (.Subscript o i pos) (gSub to ti t) := by
  intro pins s σ H v u Q I r h
  rw [ha]
  refine wpAny_bind (wpAny_holding (thn (ho pins s σ H _ I h) fun ov s1 ⟨x, H1, I1, r1, q1⟩ => ?_))
  refine wpAny_bind (wpAny_holding (thn (hi pins s1 σ H1 _ I1 q1) fun iv s2 ⟨y, H2, I2, r2, q2⟩ => ?_))
  refine wpAny_bind (wpAny_standAt (wpAny_bind (wpAny_holding (thn (hs pins s2 σ H2 x y v ov iv u _ I2 r1 r2 r q2) fun _ s3 ⟨H3, I3, q3⟩ => ?_))))
  exact wpAny_release ⟨σ, H3, I3, q3⟩
noncomputable def tAsg (te : TE) (g : TG) : TS := fun D σ H => te σ H fun x H1 => g x σ H1 D.nx
theorem ps_asg {tg e : Expr} {te : TE} {g : TG} (he : PE X e te) (hg : PG X tg g) (hs : swapsWithSole [tg] e pos.line X.env = pure false := by rfl) (hw : swappedStores [tg] e X.env = pure none := by rfl)
    (h1 : (assignEach [tg] X.env).map (·.2) = [assign tg X.env] := by rfl) : PS X (.Assign [tg] e pos) (tAsg te g) := by
  intro pins s σ H D I h
  refine wpAny_Assign_stores (thn (he pins s σ H _ I h) fun v s1 ⟨x, H1, I1, r1, q1⟩ => ?_) hs hw
  rw [h1]
  exact thn (hg pins s1 σ H1 x v _ I1 r1 q1) fun _ s2 q => q
theorem ps_set {i : Nat} {x : Str} {e : Expr} {te : TE} {pos' : Pos} (hN : X.N.Nodup) (hi : X.N[i]? = some x) (hx : Loc X.env.scope x) (he : PE X e te) (hs : swapsWith e (some (.Name x pos')) pos.line X.env = pure false := by rfl) (hf : X.fn x = true ∨ X.env.scope.names.lookup x = some .local := by first | exact .inl rfl | exact .inr rfl | assumption) :
    PS X (.Assign [.Name x pos'] e pos) (tAsg te (gName i)) := by
  intro pins s σ H D I h
  refine wpAny_Assign_Name (thn (he pins s σ H _ I h) fun v s1 ⟨y, H1, I1, r1, q1⟩ => ?_) hs
  exact store_ok I1 hN hi hx r1 (fun s2 I2 => ⟨_, H1, I2, q1⟩) hf
noncomputable def tWhile (c : TT) (tb : TS) : TS := fun D σ H => ∃ W : Nat → St → Hp → Prop, (∃ m, W m σ H) ∧ ∀ m σ H, W m σ H →
  c σ H fun b H1 => if b = true then ∃ N : St → Hp → Prop, (∀ σ' H', N σ' H' → ∃ m', m' < m ∧ W m' σ' H') ∧ tb { D with nx := N, ct := N, bk := D.nx } σ H1 else D.nx σ H1
theorem ps_while {c : Expr} {body : List Stmt} {tc : TT} {tb : TS} (hp : PassesOwn (model X.prog X.w) X.A X.env X.xe) (hc : PT X c tc) (hb : PSs X body tb) : PS X (.While c body [] pos) (tWhile tc tb) := by
  intro pins s σ H D I h
  obtain ⟨W, ⟨m0, w0⟩, turn⟩ := h
  refine wpAny_While (codeAny_whileLoop (fun n s' => ∃ σ' H', Inv X pins σ' H' s' ∧ W n σ' H') ?_ m0 ⟨σ, H, I, w0⟩)
  rintro n s1 ⟨σ1, H1, I1, w1⟩
  refine wpAny_passesOwn hp (thn (hc pins s1 σ1 H1 _ I1 (turn n σ1 H1 w1)) fun b s2 ⟨H2, I2, q2⟩ => ?_)
  cases b with
  | true =>
    obtain ⟨N, hN, q2⟩ := q2
    rw [if_pos rfl]
    refine wpAny_passesOwn hp (thn (hb pins s2 σ1 H2 _ I2 q2) fun f s3 q3 => ?_)
    cases f with
    | next =>
      obtain ⟨σ3, H3, I3, n3⟩ := q3
      obtain ⟨m', hm, w3⟩ := hN σ3 H3 n3
      exact ⟨m', hm, σ3, H3, I3, w3⟩
    | cont =>
      obtain ⟨σ3, H3, I3, n3⟩ := q3
      obtain ⟨m', hm, w3⟩ := hN σ3 H3 n3
      exact ⟨m', hm, σ3, H3, I3, w3⟩
    | brk => exact q3
    | ret v => exact q3
  | false =>
    rw [if_neg Bool.false_ne_true]
    exact wpAny_execs_nil ⟨σ1, H2, I2, q2⟩
end
structure It where
  go : Nat → Hp → Prop
  yld : Nat → Hp → V → Hp → Prop
  stop : Nat → Hp → Prop
noncomputable def FpOk (X : Cx) (pins : List (Addr × Obj)) (H : Hp) (b : Addr) : Prop :=
  H b = none ∧ b ≠ X.env.locals ∧ b ∉ X.fs ∧ (b ∈ X.ex ∨ X.s₀.heap.objs.size ≤ b) ∧ (∀ x c, X.env.cells.lookup x = some c → c ≠ b) ∧ ∀ p ∈ X.pn ++ pins, p.1 ≠ b
theorem Inv.fpOk {X : Cx} {pins : List (Addr × Obj)} {σ : St} {H H' : Hp} {s : Shared} {b : Addr} (I : Inv X pins σ H s) (hb : s.heap.objs.size ≤ b) (hn : H' b = none) : FpOk X pins H' b := by
  refine ⟨hn, Nat.ne_of_gt (Nat.lt_of_lt_of_le I.lt hb), I.nofs hb, .inr (Nat.le_trans I.sz hb), fun x c e z => ?_, fun p hp z => ?_⟩
  · obtain ⟨v, q⟩ := I.cell x c e
    exact absurd (Nat.lt_of_lt_of_le q.lt (by rw [z]; exact hb)) (Nat.lt_irrefl _)
  · exact absurd (Nat.lt_of_lt_of_le (Heap.lt_size (I.pin p hp).1) (by rw [z]; exact hb)) (Nat.lt_irrefl _)
structure Turn (P : Program) (w : World) (K : PySem.W.Frag) (tg : Expr) (J : It) (fp : List Addr) (it : Addr) (tn : Nat → Heap → Prop) : Prop where
  mem : it ∈ fp
  obj : ∀ i h, tn i h → ∀ b ∈ fp, ∃ o, h.get? b = some o ∧ ∀ v, o.data ≠ .cell v
  keep : ∀ i h h', tn i h → (∀ b ∈ fp, ∀ o, h.get? b = some o → h'.get? b = some o) → tn i h'
  item : ∀ (X : Cx), X.prog = P → X.w = w → X.K = K → X.calm = true → ∀ (i : Nat) (pins : List (Addr × Obj)) (s : Shared) (σ : St) (H : Hp) (E : Value → Shared → Prop), Inv X pins σ H s → (∀ b ∈ fp, FpOk X pins H b) → tn i s.heap → J.go i H →
    wpAny (model P w) X.A (pyNext (.ref it)) (fun r s1 => ∃ u, r = some u ∧
      wpAny (model P w) X.A (letOwnedTupleGo tg (.ref it) u) (fun _ s2 => ∃ x H', Inv X pins σ H' s2 ∧ RelV x u ∧ J.yld i H x H' ∧ tn (i + 1) s2.heap ∧ ∀ b ∈ fp, H' b = none) E s1) E s
  done : ∀ (X : Cx), X.prog = P → X.w = w → X.K = K → X.calm = true → ∀ (i : Nat) (pins : List (Addr × Obj)) (s : Shared) (σ : St) (H : Hp) (E : Value → Shared → Prop), Inv X pins σ H s → (∀ b ∈ fp, FpOk X pins H b) → tn i s.heap → J.stop i H →
    wpAny (model P w) X.A (pyNext (.ref it)) (fun r s1 => r = none ∧ Inv X pins σ H s1) E s
  self : ∀ (A : Around) (i : Nat) (s : Shared) (Q : Value → Shared → Prop) (E : Value → Shared → Prop), tn i s.heap → Q (.ref it) s → wpAny (model P w) A (pyIter (.ref it)) Q E s
abbrev TI := St → Hp → (It → Hp → Prop) → Prop
noncomputable def PIE (X : Cx) (pins : List (Addr × Obj)) (σ : St) (tg : Expr) (R : It → Hp → Prop) (itv : Value) (s2 : Shared) : Prop :=
  ∃ (it : Addr) (fp : List Addr) (tn : Nat → Heap → Prop) (J : It) (H' : Hp), itv = .ref it ∧ Inv X pins σ H' s2 ∧ Turn X.prog X.w X.K tg J fp it tn ∧ tn 0 s2.heap ∧ (∀ b ∈ fp, FpOk X pins H' b) ∧ R J H'
noncomputable def PI (X : Cx) (tg iter : Expr) (wi : TI) : Prop :=
  ∀ (pins : List (Addr × Obj)) (s : Shared) (σ : St) (H : Hp) (R : It → Hp → Prop), Inv X pins σ H s → wi σ H R →
    wpAny (model X.prog X.w) X.A (eval iter X.env) (fun v s1 => wpAny (model X.prog X.w) X.A (pyIter v) (PIE X pins σ tg R) X.xe s1) X.xe s
theorem go_of {M : Model} {A : Around} {E : Value → Shared → Prop} {s : Shared} {tg : Expr} {it : Addr} {u : Value} {o : Obj} {n : String} {vs : Array Value} {Q : Unit → Shared → Prop} (ho : s.heap.get? it = some o) (hc : o.cls = .type n) (hd : o.data = .fields vs)
    (hn : ["enumerate", "zip", "dict_itemiterator", "dict_reverseitemiterator", "odict_iterator", "itertools.zip_longest", "itertools.pairwise"].contains n = false) (hQ : Q () s) : wpAny M A (letOwnedTupleGo tg (.ref it) u) Q E s := by
  unfold letOwnedTupleGo
  cases tg <;> first
    | exact wpAny_pure hQ
    | (cases u <;> first
        | exact wpAny_pure hQ
        | (refine wpAny_bind (wpAny_load ho ?_)
           rw [hc, hd]
           show wpAny M A (if (["enumerate", "zip", "dict_itemiterator", "dict_reverseitemiterator", "odict_iterator", "itertools.zip_longest", "itertools.pairwise"].contains n && vs[0]? == some (rawInt _)) = true then _ else _) Q E s
           rw [if_neg (by intro h; rw [hn, Bool.false_and] at h; cases h)]
           exact wpAny_pure hQ))
noncomputable def Itl (K : PySem.W.Frag) (a : Addr) : It :=
  ⟨fun i H => ∃ xs x, SqL K H a xs ∧ xs[i]? = some x, fun i H x H' => H' = H ∧ ∀ xs, SqL K H a xs → xs[i]? = some x, fun i H => ∃ xs, SqL K H a xs ∧ xs.length ≤ i⟩
noncomputable def Itr (lo : Int) (n : Nat) : It := ⟨fun i _ => i < n, fun i H x H' => H' = H ∧ x = .int (lo + i), fun i _ => n ≤ i⟩
theorem turn_list {P : Program} {w : World} {K : PySem.W.Frag} {tg : Expr} (a it : Addr) : Turn P w K tg (Itl K a) [it] it (fun i h => h.IsListIter it a i) where
  mem := by simp
  obj := fun i h st b hb => by
    have e : b = it := by simpa using hb
    subst e
    obtain ⟨o, e, c, d⟩ := st
    exact ⟨o, e, fun v z => by rw [d] at z; cases z⟩
  keep := fun i h h' st k => st.at fun o e => k it (by simp) o e
  item := by
    intro X hP hw hK hc i pins s σ H E I hf st hg
    subst hP hw hK
    obtain ⟨xs, x, hq, hx⟩ := hg
    obtain ⟨its, rv, p, hz⟩ := I.list hq
    obtain ⟨u, hu, ru⟩ := rv.get hx
    obtain ⟨f0, f1, f2, f3, f4, f5⟩ := hf it (by simp)
    refine wpAny_pyNext_list_item st p.isList (x := u) (by simpa using hu) fun h' st' sb => ?_
    have I1 : Inv X pins σ H { s with heap := h' } := I.turned (t' := s.toks) (fun b o hb e => (sb.2 b hb).trans e) f0 f1 f3 f4 f5
    obtain ⟨o, e, c, d⟩ := id st'
    exact ⟨u, rfl, go_of (s := { s with heap := h' }) e c d (by decide) ⟨x, H, I1, ru, ⟨rfl, fun ys hy => by rw [I.list_inj hy hq]; exact hx⟩, st', fun b hb => (hf b hb).1⟩⟩
  done := by
    intro X hP hw hK hc i pins s σ H E I hf st hg
    subst hP hw hK
    obtain ⟨xs, hq, hx⟩ := hg
    obtain ⟨its, rv, p, hz⟩ := I.list hq
    obtain ⟨f0, f1, f2, f3, f4, f5⟩ := hf it (by simp)
    have hl := rv.length
    exact wpAny_pyNext_list_end (I.ok.hd hc) st p.isList (by simp; omega) fun h' eb => ⟨rfl, I.turned (t' := s.toks) (fun b o hb e => eb b o hb e) f0 f1 f3 f4 f5⟩
  self := fun _ _ _ _ _ st h => wpAny_pyIter_listiter st h
theorem turn_range {P : Program} {w : World} {K : PySem.W.Frag} {tg : Expr} (it : Addr) (lo : Int) (n : Nat) : Turn P w K tg (Itr lo n) [it] it (fun i h => IsRangeIter h it (lo + (i : Nat) * 1) ((n : Int) - (i : Nat)) 1) where
  mem := by simp
  obj := fun i h st b hb => by
    have e : b = it := by simpa using hb
    subst e
    exact ⟨_, st, fun v z => by
      have z' : Data.fields _ = Data.cell v := z
      cases z'⟩
  keep := fun i h h' st k => k it (by simp) _ st
  item := by
    intro X hP hw hK hc i pins s σ H E I hf st hg
    subst hP hw hK
    obtain ⟨f0, f1, f2, f3, f4, f5⟩ := hf it (by simp)
    have W := Walks.range (prog := X.prog) (w := X.w) (I.ok.hd hc) it lo 1 n
    refine W.item i s _ _ hg st fun v h' tk hv st' kk => ?_
    obtain ⟨t, rfl⟩ := hv
    have I1 : Inv X pins σ H { s with heap := h', toks := tk } := I.turned (fun b o hb e => kk b o (by simpa using hb) e) f0 f1 f3 f4 f5
    refine ⟨_, rfl, go_of (s := { s with heap := h', toks := tk }) (n := "range_iterator") st' rfl rfl (by decide) ⟨.int (lo + i), H, I1, ⟨t, ?_⟩, ⟨rfl, rfl⟩, st', fun b hb => (hf b hb).1⟩⟩
    rw [Int.mul_one]
  done := by
    intro X hP hw hK hc i pins s σ H E I hf st hg
    subst hP hw hK
    obtain ⟨f0, f1, f2, f3, f4, f5⟩ := hf it (by simp)
    exact wpAny_pyNext_range_end (I.ok.hd hc) st (by have : n ≤ i := hg; omega) fun h' eb => ⟨rfl, I.turned (t' := s.toks) (fun b o hb e => eb b o hb e) f0 f1 f3 f4 f5⟩
  self := fun _ _ _ _ _ st h => wpAny_pyIter_rangeiter st h
section
variable {X : Cx} {tg : Expr}
noncomputable def iList (K : PySem.W.Frag) (tl : TE) : TI := fun σ H R => tl σ H fun x H1 => ∃ a, x = .ref a ∧ (∃ xs, SqL K H1 a xs) ∧ R (Itl K a) H1
theorem pi_list {l : Expr} {tl : TE} (hl : PE X l tl) : PI X tg l (iList X.K tl) := by
  intro pins s σ H R I h
  refine thn (hl pins s σ H _ I h) fun v s1 ⟨x, H1, I1, r1, q1⟩ => ?_
  obtain ⟨a, e, ⟨xs, hq⟩, q⟩ := q1
  subst e
  cases r1
  obtain ⟨its, rv, p, hz⟩ := I1.list hq
  refine wpAny_pyIter_list p.isList ?_
  refine ⟨s1.heap.objs.size, [s1.heap.objs.size], _, _, H1, rfl, I1.kept (t' := s1.toks) fun b o e => Heap.get?_push_of_some _ e, turn_list a _, ⟨_, Heap.get?_push_size _ rfl, rfl, rfl⟩, fun b hb => ?_, q⟩
  have e : b = s1.heap.objs.size := by simpa using hb
  subst e
  exact I1.fpOk (Nat.le_refl _) (I1.hok.fresh (Nat.le_refl _))
theorem range_it {pins : List (Addr × Obj)} {σ : St} {H : Hp} {s : Shared} {R : It → Hp → Prop} {E : Value → Shared → Prop} {lo hi : Int} {t u v : Tok} {tk : Nat} (I : Inv X pins σ H s) (h1 : -(2 ^ 62) ≤ lo) (h2 : lo < 2 ^ 62) (h3 : -(2 ^ 62) ≤ hi) (h4 : hi < 2 ^ 62)
    (q : R (Itr lo (hi - lo).toNat) H) : wpAny (model X.prog X.w) X.A (pyIter (.ref s.heap.objs.size)) (PIE X pins σ tg R) E { s with heap := s.heap.push { cls := .type "range", data := .fields #[.int lo t, .int hi u, .int 1 v] }, toks := tk } := by
  refine wpAny_pyIter_range (IsRange.new ..) (small_one h1 h2 h3 h4) ?_
  have I1 : Inv X pins σ H { s with heap := s.heap.push { cls := .type "range", data := .fields #[.int lo t, .int hi u, .int 1 v] }, toks := tk } := I.kept fun b o e => Heap.get?_push_of_some _ e
  refine ⟨(s.heap.push { cls := .type "range", data := .fields #[.int lo t, .int hi u, .int 1 v] }).objs.size, [(s.heap.push { cls := .type "range", data := .fields #[.int lo t, .int hi u, .int 1 v] }).objs.size], _, _, H, rfl,
    I1.kept (t' := tk) fun b o e => Heap.get?_push_of_some _ e, turn_range _ lo (hi - lo).toNat, ?_, fun b hb => ?_, q⟩
  · have e1 : lo + ((0 : Nat) : Int) * 1 = lo := by simp
    have e2 : (((hi - lo).toNat : Nat) : Int) - ((0 : Nat) : Int) = Builtin.Range.rangeSize lo hi 1 := by rw [rangeSize_one]; split <;> omega
    show IsRangeIter _ _ (lo + ((0 : Nat) : Int) * 1) ((((hi - lo).toNat : Nat) : Int) - ((0 : Nat) : Int)) 1
    rw [e1, e2]
    exact Heap.get?_push_size _ rfl
  · have e : b = (s.heap.push { cls := .type "range", data := .fields #[.int lo t, .int hi u, .int 1 v] }).objs.size := by simpa using hb
    subst e
    exact I1.fpOk (Nat.le_refl _) (I1.hok.fresh (Nat.le_refl _))
noncomputable def iRng1 (ta : TA) : TI := fun σ H R => ta σ H fun vs H1 => ∃ j : Int, vs = [.int j] ∧ -(2 ^ 62) ≤ j ∧ j < 2 ^ 62 ∧ R (Itr 0 j.toNat) H1
noncomputable def iRng2 (ta : TA) : TI := fun σ H R => ta σ H fun vs H1 => ∃ i j : Int, vs = [.int i, .int j] ∧ (-(2 ^ 62) ≤ i ∧ i < 2 ^ 62 ∧ -(2 ^ 62) ≤ j ∧ j < 2 ^ 62) ∧ R (Itr i (j - i).toNat) H1
theorem pi_range1 {a : Expr} {ta : TA} {p pos : Pos} (hg : Gl X "range") (hm : X.mg "range" = none) (ha : PA X [a] ta) (hs : starEach [a] X.env = [(false, eval a X.env)] := by rfl) : PI X tg (.Call (.Name "range" p) [a] [] pos) (iRng1 ta) := by
  intro pins s σ H R I h
  refine Call_ (ld_blt I hg hm boot_range (PyProof.Rows.callWith_type1 (thn (ha pos pins s σ H _ I h) fun us s1 ⟨vs, H1, I1, r1, q1⟩ => ?_) hs rfl))
  obtain ⟨j, e, q1, q2, q⟩ := q1
  subst e
  cases r1 with
  | cons r rr =>
    cases rr
    obtain ⟨t, rfl⟩ := r
    exact call_range_1 (range_it I1 (by omega) (by omega) q1 q2 (by simpa using q))
theorem pi_range2 {a b : Expr} {ta : TA} {p pos : Pos} (hg : Gl X "range") (hm : X.mg "range" = none) (ha : PA X [a, b] ta) (hs : starEach [a, b] X.env = [(false, eval a X.env), (false, eval b X.env)] := by rfl) (hs2 : starEach [b] X.env = [(false, eval b X.env)] := by rfl) :
    PI X tg (.Call (.Name "range" p) [a, b] [] pos) (iRng2 ta) := by
  intro pins s σ H R I h
  refine Call_ (ld_blt I hg hm boot_range (PyProof.Rows.callWith_type1 (thn (ha pos pins s σ H _ I h) fun us s1 ⟨vs, H1, I1, r1, q1⟩ => ?_) (by rw [hs, hs2]) (by rw [hs2]; rfl)))
  obtain ⟨i, j, e, ⟨q1, q2, q3, q4⟩, q⟩ := q1
  subst e
  cases r1 with
  | cons r rr =>
    cases rr with
    | cons r' rr =>
      cases rr
      obtain ⟨t, rfl⟩ := r
      obtain ⟨t', rfl⟩ := r'
      exact call_range_2 (range_it I1 q1 q2 q3 q4 q)
noncomputable def tFor (wi : TI) (g : TG) (tb : TS) : TS := fun D σ H => wi σ H fun J H1 => ∃ W : Nat → Nat → St → Hp → Prop, (∃ m, W 0 m σ H1) ∧ ∀ i m σ H, W i m σ H →
  (J.stop i H ∧ D.nx σ H) ∨ (J.go i H ∧ ∃ N : St → Hp → Prop, (∀ σ' H', N σ' H' → ∃ m', m' < m ∧ W (i + 1) m' σ' H') ∧ ∀ x H', J.yld i H x H' → g x σ H' fun σ2 H2 => tb { D with nx := N, ct := N, bk := D.nx } σ2 H2)
noncomputable def pinsAt (fp : List Addr) (h : Heap) : List (Addr × Obj) := fp.filterMap fun b => (h.get? b).map fun o => (b, o)
theorem mem_pinsAt {fp : List Addr} {h : Heap} {b : Addr} {o : Obj} (hb : b ∈ fp) (e : h.get? b = some o) : (b, o) ∈ pinsAt fp h := List.mem_filterMap.mpr ⟨b, hb, by rw [e]; rfl⟩
theorem of_pinsAt {fp : List Addr} {h : Heap} {p : Addr × Obj} (hp : p ∈ pinsAt fp h) : p.1 ∈ fp ∧ h.get? p.1 = some p.2 := by
  obtain ⟨b, hb, e⟩ := List.mem_filterMap.mp hp
  cases q : h.get? b with
  | none => rw [q] at e; cases e
  | some o =>
    rw [q] at e
    have e' : (b, o) = p := Option.some.inj e
    subst e'
    exact ⟨hb, q⟩
theorem Inv.pinned {pins : List (Addr × Obj)} {σ : St} {H : Hp} {s : Shared} {fp : List Addr} (I : Inv X pins σ H s) (hf : ∀ b ∈ fp, FpOk X pins H b) (ho : ∀ b ∈ fp, ∃ o, s.heap.get? b = some o ∧ ∀ v, o.data ≠ .cell v) : Inv X (pins ++ pinsAt fp s.heap) σ H s :=
  I.pins_of fun p hp => (List.mem_append.mp hp).elim (fun z => I.pin p (List.mem_append_right _ z)) fun z => by
    obtain ⟨hb, e⟩ := of_pinsAt z
    obtain ⟨f0, f1, f2, _⟩ := hf p.1 hb
    obtain ⟨o, e', d⟩ := ho p.1 hb
    rw [e] at e'; cases e'
    exact ⟨e, f0, f1, f2, d⟩
theorem Inv.unpinned {pins pl : List (Addr × Obj)} {σ : St} {H : Hp} {s : Shared} (I : Inv X (pins ++ pl) σ H s) : Inv X pins σ H s := I.pins_of fun p hp => I.pin p (List.mem_append_right _ (List.mem_append_left _ hp))
theorem ps_for {iter : Expr} {body : List Stmt} {wi : TI} {g : TG} {tb : TS} {pos : Pos} (hp : PassesOwn (model X.prog X.w) X.A X.env X.xe) (hc : X.calm = true) (hi : PI X tg iter wi) (hg : PG X tg g) (hb : PSs X body tb)
    (hs : ∀ x, foldedSetIterable iter X.env x = pure x := by intro _; rfl) : PS X (.For tg iter body [] pos) (tFor wi g tb) := by
  intro pins s σ H D I h
  refine wpAny_For (thn (hi pins s σ H _ I h) fun v s1 h1 => thn h1 fun itv s2 h2 => ?_) hs
  obtain ⟨it, fp, tn, J, H2, e, I2, T, st2, f2, W, ⟨m0, w0⟩, turn⟩ := h2
  subst e
  have stat : ∀ {H' : Hp}, (∀ b ∈ fp, H' b = none) → ∀ b ∈ fp, FpOk X pins H' b := fun hn b hb => ⟨hn b hb, (f2 b hb).2⟩
  refine codeAny_forLoop_any (fun n s' => ∃ i σ' H', Inv X pins σ' H' s' ∧ tn i s'.heap ∧ (∀ b ∈ fp, H' b = none) ∧ W i n σ' H') ?_ m0 ⟨0, σ, H2, I2, st2, fun b hb => (f2 b hb).1, w0⟩
  rintro n s3 ⟨i, σ3, H3, I3, st3, fr3, w3⟩
  rcases turn i n σ3 H3 w3 with ⟨stop, qn⟩ | ⟨go, N, hN, step⟩
  · refine wpAny_passesOwn hp (thn (T.done X rfl rfl rfl hc i pins s3 σ3 H3 X.xe I3 (stat fr3) st3 stop) fun r s4 ⟨hr, I4⟩ => ?_)
    subst hr
    exact wpAny_execs_nil ⟨σ3, H3, I4, qn⟩
  · refine wpAny_passesOwn hp (thn (T.item X rfl rfl rfl hc i pins s3 σ3 H3 X.xe I3 (stat fr3) st3 go) fun r s4 ⟨u, hr, h4⟩ => ?_)
    subst hr
    refine wpAny_passesOwn hp (thn h4 fun _ s5 ⟨x, H5, I5, r5, y5, st5, fr5⟩ => ?_)
    have I5' := I5.pinned (stat fr5) (T.obj _ _ st5)
    refine wpAny_passesOwn hp (thn (hg _ s5 σ3 H5 x u _ I5' r5 (step x H5 y5)) fun _ s6 ⟨σ6, H6, I6, q6⟩ => ?_)
    refine wpAny_passesOwn hp (thn (hb _ s6 σ6 H6 _ I6 q6) fun f s7 q7 => ?_)
    have again : ∀ {σ7 : St} {H7 : Hp}, Inv X (pins ++ pinsAt fp s5.heap) σ7 H7 s7 → N σ7 H7 → ∃ m, m < n ∧ ∃ i σ' H', Inv X pins σ' H' s7 ∧ tn i s7.heap ∧ (∀ b ∈ fp, H' b = none) ∧ W i m σ' H' := fun {σ7 H7} I7 n7 => by
      obtain ⟨m', hm, w7⟩ := hN σ7 H7 n7
      refine ⟨m', hm, i + 1, σ7, H7, I7.unpinned, T.keep _ _ _ st5 fun b hb o e => (I7.pin (b, o) (List.mem_append_right _ (List.mem_append_right _ (mem_pinsAt hb e)))).1, fun b hb => ?_, w7⟩
      obtain ⟨o, e, d⟩ := T.obj _ _ st5 b hb
      exact (I7.pin (b, o) (List.mem_append_right _ (List.mem_append_right _ (mem_pinsAt hb e)))).2.1
    cases f with
    | next => obtain ⟨σ7, H7, I7, n7⟩ := q7; exact again I7 n7
    | cont => obtain ⟨σ7, H7, I7, n7⟩ := q7; exact again I7 n7
    | brk => obtain ⟨σ7, H7, I7, q7⟩ := q7; exact ⟨σ7, H7, I7.unpinned, q7⟩
    | ret v => obtain ⟨x7, σ7, H7, I7, r7, q7⟩ := q7; exact ⟨x7, σ7, H7, I7.unpinned, r7, q7⟩
end
theorem for_list {K : PySem.W.Frag} {a : Addr} {xs : List V} {g : TG} {tb : TS} {D : Ends} {σ : St} {H : Hp} (Pv : Nat → St → Hp → Prop) (h0 : Pv 0 σ H) (hl : ∀ i σ H, i ≤ xs.length → Pv i σ H → SqL K H a xs)
    (hs : ∀ i x σ H, xs[i]? = some x → Pv i σ H → g x σ H fun σ2 H2 => tb { D with nx := Pv (i + 1), ct := Pv (i + 1), bk := D.nx } σ2 H2) (hd : ∀ σ H, Pv xs.length σ H → D.nx σ H) :
    ∃ W : Nat → Nat → St → Hp → Prop, (∃ m, W 0 m σ H) ∧ ∀ i m σ H, W i m σ H →
      ((Itl K a).stop i H ∧ D.nx σ H) ∨ ((Itl K a).go i H ∧ ∃ N : St → Hp → Prop, (∀ σ' H', N σ' H' → ∃ m', m' < m ∧ W (i + 1) m' σ' H') ∧ ∀ x H', (Itl K a).yld i H x H' → g x σ H' fun σ2 H2 => tb { D with nx := N, ct := N, bk := D.nx } σ2 H2) := by
  refine ⟨fun i m σ H => m = xs.length - i ∧ i ≤ xs.length ∧ Pv i σ H, ⟨xs.length, by simp, Nat.zero_le _, h0⟩, ?_⟩
  rintro i m σ H ⟨rfl, hi, p⟩
  have q := hl i σ H hi p
  by_cases hlt : i < xs.length
  · refine .inr ⟨⟨xs, xs[i], q, by simp [hlt]⟩, Pv (i + 1), fun σ' H' p' => ⟨xs.length - (i + 1), by omega, rfl, hlt, p'⟩, fun x H' y => ?_⟩
    obtain ⟨e, y⟩ := y
    subst e
    exact hs i x σ _ (y xs q) p
  · have e : i = xs.length := by omega
    subst e
    exact .inl ⟨⟨xs, q, Nat.le_refl _⟩, hd σ H p⟩
theorem for_range {lo : Int} {n : Nat} {g : TG} {tb : TS} {D : Ends} {σ : St} {H : Hp} (Pv : Nat → St → Hp → Prop) (h0 : Pv 0 σ H)
    (hs : ∀ i σ H, i < n → Pv i σ H → g (.int (lo + i)) σ H fun σ2 H2 => tb { D with nx := Pv (i + 1), ct := Pv (i + 1), bk := D.nx } σ2 H2) (hd : ∀ σ H, Pv n σ H → D.nx σ H) :
    ∃ W : Nat → Nat → St → Hp → Prop, (∃ m, W 0 m σ H) ∧ ∀ i m σ H, W i m σ H →
      ((Itr lo n).stop i H ∧ D.nx σ H) ∨ ((Itr lo n).go i H ∧ ∃ N : St → Hp → Prop, (∀ σ' H', N σ' H' → ∃ m', m' < m ∧ W (i + 1) m' σ' H') ∧ ∀ x H', (Itr lo n).yld i H x H' → g x σ H' fun σ2 H2 => tb { D with nx := N, ct := N, bk := D.nx } σ2 H2) := by
  refine ⟨fun i m σ H => m = n - i ∧ i ≤ n ∧ Pv i σ H, ⟨n, by simp, Nat.zero_le _, h0⟩, ?_⟩
  rintro i m σ H ⟨rfl, hi, p⟩
  by_cases hlt : i < n
  · refine .inr ⟨hlt, Pv (i + 1), fun σ' H' p' => ⟨n - (i + 1), by omega, rfl, hlt, p'⟩, fun x H' y => ?_⟩
    obtain ⟨e, y⟩ := y
    subst e y
    exact hs i σ _ hlt p
  · have e : i = n := by omega
    subst e
    exact .inl ⟨Nat.le_refl _, hd σ H p⟩
theorem while_by {c : TT} {tb : TS} {D : Ends} {σ : St} {H : Hp} (Pv : St → Hp → Prop) (μ : St → Hp → Nat) (h0 : Pv σ H)
    (hs : ∀ σ H, Pv σ H → c σ H fun b H1 => if b = true then tb { D with nx := fun σ' H' => Pv σ' H' ∧ μ σ' H' < μ σ H, ct := fun σ' H' => Pv σ' H' ∧ μ σ' H' < μ σ H, bk := D.nx } σ H1 else D.nx σ H1)
    (mono : ∀ σ H Q Q', (∀ b H1, Q b H1 → Q' b H1) → c σ H Q → c σ H Q') : tWhile c tb D σ H := by
  refine ⟨fun m σ H => m = μ σ H ∧ Pv σ H, ⟨_, rfl, h0⟩, ?_⟩
  rintro m σ H ⟨rfl, p⟩
  refine mono σ H _ _ (fun b H1 q => ?_) (hs σ H p)
  cases b with
  | true => exact ⟨_, fun σ' H' ⟨p', l⟩ => ⟨_, l, rfl, p'⟩, q⟩
  | false => exact q
abbrev R2 := V → V → Hp → VK → Prop
noncomputable def OpR (X : Cx) (f : Value → Value → Sem Value) (r : R2) : Prop :=
  ∀ (pins : List (Addr × Obj)) (s : Shared) (σ : St) (H : Hp) (x y : V) (v u : Value) (Q : VK), Inv X pins σ H s → RelV x v → RelV y u → r x y H Q →
    wpAny (model X.prog X.w) X.A (f v u) (EP X pins σ Q) X.xe s
noncomputable def UnR (X : Cx) (f : Value → Sem Value) (r : V → Hp → VK → Prop) : Prop :=
  ∀ (pins : List (Addr × Obj)) (s : Shared) (σ : St) (H : Hp) (x : V) (v : Value) (Q : VK), Inv X pins σ H s → RelV x v → r x H Q →
    wpAny (model X.prog X.w) X.A (f v) (EP X pins σ Q) X.xe s
noncomputable def CallR (X : Cx) (f : Value) (r : List V → Hp → VK → Prop) : Prop :=
  ∀ (pins : List (Addr × Obj)) (s : Shared) (σ : St) (H : Hp) (xs : List V) (us : List Value) (Q : VK), Inv X pins σ H s → Vals xs us → r xs H Q →
    wpAny (model X.prog X.w) X.A (call f us) (EP X pins σ Q) X.xe s
noncomputable def TruR (X : Cx) (r : V → Hp → (Bool → Hp → Prop) → Prop) : Prop :=
  ∀ (pins : List (Addr × Obj)) (s : Shared) (σ : St) (H : Hp) (x : V) (v : Value) (Q : Bool → Hp → Prop), Inv X pins σ H s → RelV x v → r x H Q →
    wpAny (model X.prog X.w) X.A (truthy v) (TP X pins σ Q) X.xe s
noncomputable def tOp (r : R2) (ta tb : TE) : TE := fun σ H Q => ta σ H fun x H1 => tb σ H1 fun y H2 => r x y H2 Q
noncomputable def tUn (r : V → Hp → VK → Prop) (ta : TE) : TE := fun σ H Q => ta σ H fun x H1 => r x H1 Q
noncomputable def rI (C : Int → Int → Prop) (g : Int → Int → V) : R2 := fun x y H Q => ∃ i j, x = .int i ∧ y = .int j ∧ C i j ∧ Q (g i j) H
noncomputable def rI0 (g : Int → Int → V) : R2 := fun x y H Q => ∃ i j, x = .int i ∧ y = .int j ∧ Q (g i j) H
noncomputable def rU (g : Int → V) : V → Hp → VK → Prop := fun x H Q => ∃ i, x = .int i ∧ Q (g i) H
section
variable {X : Cx} {a b c : Expr} {ta tb tc : TE} {pos : Pos}
theorem binT (ha : PE X a ta) (hb : PE X b tb) {pins : List (Addr × Obj)} {s : Shared} {σ : St} {H : Hp} {R : V → V → Hp → Prop} (I : Inv X pins σ H s)
    (h : ta σ H fun x H1 => tb σ H1 fun y H2 => R x y H2) {Q : Value → Shared → Prop} {f : Value → Value → Sem Value}
    (hf : ∀ v u s2 x y H2, Inv X pins σ H2 s2 → RelV x v → RelV y u → R x y H2 → wpAny (model X.prog X.w) X.A (f v u) Q X.xe s2) :
    wpAny (model X.prog X.w) X.A (eval a X.env) (fun v s₁ => wpAny (model X.prog X.w) X.A (eval b X.env) (fun u s₂ => wpAny (model X.prog X.w) X.A (f v u) Q X.xe s₂) X.xe s₁) X.xe s := by
  refine thn (ha pins s σ H _ I h) fun v s1 ⟨x, H1, I1, r1, q1⟩ => ?_
  refine thn (hb pins s1 σ H1 _ I1 q1) fun u s2 ⟨y, H2, I2, r2, q2⟩ => ?_
  exact hf v u s2 x y H2 I2 r1 r2 q2
theorem pe_op {op : Operator} {r : R2} (ho : OpR X (binaryOp op) r) (ha : PE X a ta) (hb : PE X b tb) : PE X (.BinOp a op b pos) (tOp r ta tb) := by
  intro pins s σ H Q I h
  exact wpAny_BinOp (binT ha hb I h fun v u s2 x y H2 I2 rx ry q => ho pins s2 σ H2 x y v u Q I2 rx ry q)
theorem pe_un {op : UnaryOp} {r : V → Hp → VK → Prop} (ho : UnR X (unaryOp op) r) (ha : PE X a ta) : PE X (.UnaryOp op a pos) (tUn r ta) := by
  intro pins s σ H Q I h
  exact UnaryOp_ (thn (ha pins s σ H _ I h) fun v s1 ⟨x, H1, I1, r1, q1⟩ => ho pins s1 σ H1 x v Q I1 r1 q1)
theorem opI {f : Value → Value → Sem Value} {C : Int → Int → Prop} {g : Int → Int → Int}
    (rule : ∀ (i j : Int) (t u : Tok) (s : Shared) (Q : Value → Shared → Prop) (E : Value → Shared → Prop), C i j → Q (.int (g i j) s.toks) { s with toks := s.toks + 1 } → wpAny (model X.prog X.w) X.A (f (.int i t) (.int j u)) Q E s) :
    OpR X f (rI C fun i j => .int (g i j)) := by
  intro pins s σ H x y v u Q I rx ry h
  obtain ⟨i, j, rfl, rfl, hc, q⟩ := h
  obtain ⟨t, rfl⟩ := rx
  obtain ⟨t', rfl⟩ := ry
  exact rule i j t t' s _ _ hc ⟨.int (g i j), H, I.tok _, ⟨_, rfl⟩, q⟩
theorem opI0 {f : Value → Value → Sem Value} {g : Int → Int → Int}
    (rule : ∀ (i j : Int) (t u : Tok) (s : Shared) (Q : Value → Shared → Prop) (E : Value → Shared → Prop), Q (.int (g i j) s.toks) { s with toks := s.toks + 1 } → wpAny (model X.prog X.w) X.A (f (.int i t) (.int j u)) Q E s) :
    OpR X f (rI0 fun i j => .int (g i j)) := by
  intro pins s σ H x y v u Q I rx ry h
  obtain ⟨i, j, rfl, rfl, q⟩ := h
  obtain ⟨t, rfl⟩ := rx
  obtain ⟨t', rfl⟩ := ry
  exact rule i j t t' s _ _ ⟨.int (g i j), H, I.tok _, ⟨_, rfl⟩, q⟩
theorem opB0 {f : Value → Value → Sem Value} {g : Int → Int → Bool}
    (rule : ∀ (i j : Int) (t u : Tok) (s : Shared) (Q : Value → Shared → Prop) (E : Value → Shared → Prop), Q (.bool (g i j)) s → wpAny (model X.prog X.w) X.A (f (.int i t) (.int j u)) Q E s) :
    OpR X f (rI0 fun i j => .bl (g i j)) := by
  intro pins s σ H x y v u Q I rx ry h
  obtain ⟨i, j, rfl, rfl, q⟩ := h
  obtain ⟨t, rfl⟩ := rx
  obtain ⟨t', rfl⟩ := ry
  exact rule i j t t' s _ _ ⟨.bl (g i j), H, I, rfl, q⟩
noncomputable def CPow (i j : Int) : Prop := 0 ≤ j ∧ j ≤ 1000000 ∧ i.natAbs < 2 ^ 64
noncomputable def CMul (i j : Int) : Prop := (-(2 ^ 64) < i ∧ i < 2 ^ 64) ∨ (-(2 ^ 64) < j ∧ j < 2 ^ 64)
theorem CMul.ok {i j : Int} (h : CMul i j) : IntMulOk i j := by
  rcases h with ⟨h1, h2⟩ | ⟨h1, h2⟩
  · exact .of_left (intBits_le_64 h1 h2)
  · exact .of_right (intBits_le_64 h1 h2)
theorem op_add : OpR X (binaryOp .Add) (rI0 fun i j => .int (i + j)) := opI0 fun _ _ _ _ _ _ _ q => add_int q
theorem op_sub : OpR X (binaryOp .Sub) (rI0 fun i j => .int (i - j)) := opI0 fun _ _ _ _ _ _ _ q => sub_int q
theorem op_mod : OpR X (binaryOp .Mod) (rI (fun _ j => 0 < j) fun i j => .int (i % j)) := opI fun i j _ _ _ _ _ hc q => by
  have h1 : (0 : Int) < j := hc
  exact mod_int' (by omega) (by rw [Int.fmod_eq_emod_of_nonneg i (by omega)]; exact q)
theorem op_pow : OpR X (binaryOp .Pow) (rI CPow fun i j => .int (i ^ j.toNat)) := opI fun _ _ _ _ _ _ _ hc q => pow_int_small hc.1 hc.2.1 hc.2.2 q
theorem op_shl : OpR X (binaryOp .LShift) (rI CPow fun i j => .int (i * 2 ^ j.toNat)) := opI fun _ _ _ _ _ _ _ hc q => lshift_int_small hc.1 hc.2.1 hc.2.2 q
theorem unI {f : Value → Sem Value} {g : Int → Int}
    (rule : ∀ (i : Int) (t : Tok) (s : Shared) (Q : Value → Shared → Prop) (E : Value → Shared → Prop), Q (.int (g i) s.toks) { s with toks := s.toks + 1 } → wpAny (model X.prog X.w) X.A (f (.int i t)) Q E s) :
    UnR X f (rU fun i => .int (g i)) := by
  intro pins s σ H x v Q I rx h
  obtain ⟨i, rfl, q⟩ := h
  obtain ⟨t, rfl⟩ := rx
  exact rule i t s _ _ ⟨.int (g i), H, I.tok _, ⟨_, rfl⟩, q⟩
theorem un_neg : UnR X (unaryOp .USub) (rU fun i => .int (-i)) := unI fun _ _ _ _ _ q => neg_int q
end
noncomputable def scal : V → V → Bool
  | .non, .non => true | .non, .int _ => true | .int _, .non => true | .non, .bl _ => true | .bl _, .non => true | .non, .str _ => true | .str _, .non => true
  | .int _, .int _ => true | .bl _, .bl _ => true | .str _, .str _ => true | .byt _, .byt _ => true
  | .int _, .str _ => true | .str _, .int _ => true | .bl _, .str _ => true | .str _, .bl _ => true
  | _, _ => false
noncomputable def rEq : R2 := fun x y H Q => scal x y = true ∧ Q (.bl (decide (x = y))) H
noncomputable def rNe : R2 := fun x y H Q => scal x y = true ∧ Q (.bl (!decide (x = y))) H
theorem dec_int {i j : Int} : decide (V.int i = V.int j) = (i == j) := by
  rw [Bool.eq_iff_iff]
  simp
theorem dec_bl {i j : Bool} : decide (V.bl i = V.bl j) = (i == j) := by
  rw [Bool.eq_iff_iff]
  simp
theorem dec_str {i j : Str} : decide (V.str i = V.str j) = (i == j) := by
  rw [Bool.eq_iff_iff]
  simp
theorem dec_byt {i j : Array UInt8} : decide (V.byt i = V.byt j) = (i.toList == j.toList) := by
  rw [Bool.eq_iff_iff]
  cases i
  cases j
  simp
section
variable {X : Cx} {a b c : Expr} {ta tb tc : TE} {pos : Pos}
theorem fin_bl {pins : List (Addr × Obj)} {σ : St} {H : Hp} {s : Shared} {Q : VK} {k k' : Bool} (I : Inv X pins σ H s) (q : Q (.bl k) H) (e : k = k') : EP X pins σ Q (.bool k') s := by
  subst e
  exact ⟨.bl k, H, I, rfl, q⟩
theorem op_eq : OpR X (compareOp .Eq) rEq := by
  intro pins s σ H x y v u Q I rx ry h
  obtain ⟨hs, q⟩ := h
  cases x with
  | non =>
    cases rx
    cases y with
    | non => cases ry; exact PySem.EqNone.eq_none_none (fin_bl I q (by simp))
    | bl j => cases ry; exact PySem.EqNone.eq_none_bool (fin_bl I q (by simp))
    | int j => obtain ⟨t', rfl⟩ := ry; exact PySem.EqNone.eq_none_int (fin_bl I q (by simp))
    | str j => obtain ⟨t', rfl⟩ := ry; exact PySem.EqNone.eq_none_str (fin_bl I q (by simp))
    | _ => exact absurd (show false = true from hs) Bool.false_ne_true
  | bl i =>
    cases rx
    cases y with
    | non => cases ry; exact PySem.EqNone.eq_bool_none (fin_bl I q (by simp))
    | bl j => cases ry; exact eq_bool (fin_bl I q dec_bl)
    | str j => obtain ⟨t', rfl⟩ := ry; exact PySem.EqMixed.eq_bool_str (fin_bl I q (by simp))
    | _ => exact absurd (show false = true from hs) Bool.false_ne_true
  | int i =>
    obtain ⟨t, rfl⟩ := rx
    cases y with
    | non => cases ry; exact PySem.EqNone.eq_int_none (fin_bl I q (by simp))
    | int j => obtain ⟨t', rfl⟩ := ry; exact eq_int (fin_bl I q dec_int)
    | str j => obtain ⟨t', rfl⟩ := ry; exact PySem.EqMixed.eq_int_str (fin_bl I q (by simp))
    | _ => exact absurd (show false = true from hs) Bool.false_ne_true
  | str i =>
    obtain ⟨t, rfl⟩ := rx
    cases y with
    | non => cases ry; exact PySem.EqNone.eq_str_none (fin_bl I q (by simp))
    | bl j => cases ry; exact PySem.EqMixed.eq_str_bool (fin_bl I q (by simp))
    | int j => obtain ⟨t', rfl⟩ := ry; exact PySem.EqMixed.eq_str_int (fin_bl I q (by simp))
    | str j => obtain ⟨t', rfl⟩ := ry; exact eq_str (fin_bl I q dec_str)
    | _ => exact absurd (show false = true from hs) Bool.false_ne_true
  | byt i =>
    obtain ⟨t, rfl⟩ := rx
    cases y with
    | byt j => obtain ⟨t', rfl⟩ := ry; exact PySem.W.eq_bytes (fin_bl I q dec_byt)
    | _ => exact absurd (show false = true from hs) Bool.false_ne_true
  | _ => cases y <;> exact absurd (show false = true from hs) Bool.false_ne_true
theorem op_ne : OpR X (compareOp .NotEq) rNe := by
  intro pins s σ H x y v u Q I rx ry h
  obtain ⟨hs, q⟩ := h
  cases x with
  | non =>
    cases rx
    cases y with
    | non => cases ry; exact PySem.EqNone.ne_none_none (fin_bl I q (by simp))
    | bl j => cases ry; exact PySem.EqNone.ne_none_bool (fin_bl I q (by simp))
    | int j => obtain ⟨t', rfl⟩ := ry; exact PySem.EqNone.ne_none_int (fin_bl I q (by simp))
    | str j => obtain ⟨t', rfl⟩ := ry; exact PySem.EqNone.ne_none_str (fin_bl I q (by simp))
    | _ => exact absurd (show false = true from hs) Bool.false_ne_true
  | bl i =>
    cases rx
    cases y with
    | non => cases ry; exact PySem.EqNone.ne_bool_none (fin_bl I q (by simp))
    | bl j => cases ry; exact ne_bool (fin_bl I q (congrArg not dec_bl))
    | str j => obtain ⟨t', rfl⟩ := ry; exact PySem.EqMixed.ne_bool_str (fin_bl I q (by simp))
    | _ => exact absurd (show false = true from hs) Bool.false_ne_true
  | int i =>
    obtain ⟨t, rfl⟩ := rx
    cases y with
    | non => cases ry; exact PySem.EqNone.ne_int_none (fin_bl I q (by simp))
    | int j => obtain ⟨t', rfl⟩ := ry; exact ne_int (fin_bl I q (congrArg not dec_int))
    | str j => obtain ⟨t', rfl⟩ := ry; exact PySem.EqMixed.ne_int_str (fin_bl I q (by simp))
    | _ => exact absurd (show false = true from hs) Bool.false_ne_true
  | str i =>
    obtain ⟨t, rfl⟩ := rx
    cases y with
    | non => cases ry; exact PySem.EqNone.ne_str_none (fin_bl I q (by simp))
    | bl j => cases ry; exact PySem.EqMixed.ne_str_bool (fin_bl I q (by simp))
    | int j => obtain ⟨t', rfl⟩ := ry; exact PySem.EqMixed.ne_str_int (fin_bl I q (by simp))
    | str j => obtain ⟨t', rfl⟩ := ry; exact ne_str (fin_bl I q (congrArg not dec_str))
    | _ => exact absurd (show false = true from hs) Bool.false_ne_true
  | byt i =>
    obtain ⟨t, rfl⟩ := rx
    cases y with
    | byt j => obtain ⟨t', rfl⟩ := ry; exact PySem.W.ne_bytes (fin_bl I q (congrArg not dec_byt))
    | _ => exact absurd (show false = true from hs) Bool.false_ne_true
  | _ => cases y <;> exact absurd (show false = true from hs) Bool.false_ne_true
theorem op_lt : OpR X (compareOp .Lt) (rI0 fun i j => .bl (decide (i < j))) := opB0 fun _ _ _ _ _ _ _ q => lt_int q
theorem op_le : OpR X (compareOp .LtE) (rI0 fun i j => .bl (decide (i ≤ j))) := opB0 fun _ _ _ _ _ _ _ q => le_int q
theorem op_gt : OpR X (compareOp .Gt) (rI0 fun i j => .bl (decide (j < i))) := opB0 fun _ _ _ _ _ _ _ q => gt_int q
theorem op_ge : OpR X (compareOp .GtE) (rI0 fun i j => .bl (decide (j ≤ i))) := opB0 fun _ _ _ _ _ _ _ q => ge_int q
theorem op_in_str : OpR X (compareOp .In) (fun x y H Q => ∃ i j, x = .str i ∧ y = .str j ∧ Q (.bl (!(Builtin.Str.occurrences j i 0 j.length 1).isEmpty)) H) := by
  intro pins s σ H x y v u Q I rx ry h
  obtain ⟨i, j, rfl, rfl, q⟩ := h
  obtain ⟨t, rfl⟩ := rx
  obtain ⟨t', rfl⟩ := ry
  exact in_str (fin_bl I q rfl)
theorem op_isN : OpR X (compareOp .Is) (fun x y H Q => y = .non ∧ Q (.bl (decide (x = .non))) H) := by
  intro pins s σ H x y v u Q I rx ry h
  obtain ⟨rfl, q⟩ := h
  cases ry
  refine is_none_gen (fin_bl I q ?_)
  cases x <;> first
    | (cases rx; rfl)
    | (obtain ⟨t, rfl⟩ := rx; rfl)
theorem op_notN : OpR X (compareOp .IsNot) (fun x y H Q => y = .non ∧ Q (.bl (!decide (x = .non))) H) := by
  intro pins s σ H x y v u Q I rx ry h
  obtain ⟨rfl, q⟩ := h
  cases ry
  refine isnot_none_gen (fin_bl I q ?_)
  cases x <;> first
    | (cases rx; rfl)
    | (obtain ⟨t, rfl⟩ := rx; rfl)
theorem OpR.or {f : Value → Value → Sem Value} {r r' : R2} (h : OpR X f r) (h' : OpR X f r') : OpR X f (fun x y H Q => r x y H Q ∨ r' x y H Q) := by
  intro pins s σ H x y v u Q I rx ry q
  rcases q with q | q
  · exact h pins s σ H x y v u Q I rx ry q
  · exact h' pins s σ H x y v u Q I rx ry q
theorem nomark (b : Expr) {op : CmpOp} (h : op ≠ .In := by decide) (h2 : op ≠ .NotIn := by decide) : behindInMarks op b = false := by
  have e1 : (op == CmpOp.In) = false := by cases op <;> first | rfl | exact absurd rfl h
  have e2 : (op == CmpOp.NotIn) = false := by cases op <;> first | rfl | exact absurd rfl h2
  cases b <;> simp [behindInMarks, e1, e2]
theorem pe_cmpR {op : CmpOp} {r : R2} (ho : OpR X (compareOp op) r) (ha : PE X a ta) (hb : PE X b tb) (hm : behindInMarks op b = false) : PE X (.Compare a [op] [b] pos) (tOp r ta tb) := by
  intro pins s σ H Q I h
  exact wpAny_Compare1 (binT ha hb I h fun v u s2 x y H2 I2 rx ry q => ho pins s2 σ H2 x y v u Q I2 rx ry q) hm
noncomputable def tTest (t : TE) : TT := fun σ H Q => t σ H fun x H' => ∃ k, x = .bl k ∧ Q k H'
theorem pt_cmpR {op : CmpOp} {r : R2} (ho : OpR X (compareOp op) r) (ha : PE X a ta) (hb : PE X b tb) (hm : behindInMarks op b = false) : PT X (.Compare a [op] [b] pos) (tTest (tOp r ta tb)) := by
  intro pins s σ H Q I h
  refine wpAny_isTrue_Compare1 (thn (ha pins s σ H _ I h) fun v s1 ⟨x, H1, I1, r1, q1⟩ => thn (hb pins s1 σ H1 _ I1 q1) fun u s2 ⟨y, H2, I2, r2, q2⟩ =>
    thn (ho pins s2 σ H2 x y v u _ I2 r1 r2 q2) fun c s3 ⟨z, H3, I3, r3, k, e, q3⟩ => ?_) hm
  subst e
  cases r3
  exact wpAny_truthy_bool ⟨H3, I3, q3⟩
noncomputable def tChain (r r' : R2) (ta tb tc : TE) : TE := fun σ H Q => ta σ H fun x H1 => tb σ H1 fun y H2 => r x y H2 fun z H3 => ∃ k, z = .bl k ∧
  (if k = true then tc σ H3 fun w' H4 => r' y w' H4 Q else Q (.bl false) H3)
theorem pe_chain {op op' : CmpOp} {r r' : R2} (ho : OpR X (compareOp op) r) (ho' : OpR X (compareOp op') r') (ha : PE X a ta) (hb : PE X b tb) (hc : PE X c tc)
    (hm : lastMarks [op, op'] [b, c] = false := by with_unfolding_all rfl) : PE X (.Compare a [op, op'] [b, c] pos) (tChain r r' ta tb tc) := by
  intro pins s σ H Q I h
  refine Compare_chain (thn (ha pins s σ H _ I h) fun v s1 ⟨x, H1, I1, r1, q1⟩ => chain_link (thn (hb pins s1 σ H1 _ I1 q1) fun u s2 ⟨y, H2, I2, r2, q2⟩ =>
    thn (ho pins s2 σ H2 x y v u _ I2 r1 r2 q2) fun d s3 ⟨z, H3, I3, r3, k, e, q3⟩ => ?_)) hm
  subst e
  cases r3
  refine wpAny_truthy_bool ?_
  cases k with
  | false => exact ite_ff ⟨.bl false, H3, I3, rfl, q3⟩
  | true => exact ite_tt (chain_last (thn (hc pins s3 σ H3 _ I3 q3) fun w' s4 ⟨z', H4, I4, r4, q4⟩ => ho' pins s4 σ H4 y z' u w' Q I4 r2 r4 q4))
noncomputable def TruV (K : PySem.W.Frag) (x : V) (H : Hp) (k : Bool) : Prop :=
  match x with
  | .non => k = false
  | .bl b => k = b
  | .int i => k = (i != 0)
  | .str y => y.length ≤ sizeLine ∧ k = ((y.length : Int) != 0)
  | .byt y => y.size ≤ sizeLine ∧ k = ((y.size : Int) != 0)
  | .ref p => (∃ xs, SqL K H p xs ∧ k = !xs.isEmpty) ∨ (∃ xs, SqT K H p xs ∧ k = !xs.isEmpty) ∨ ∃ kvs, H p = some (.dK kvs) ∧ k = !kvs.isEmpty
  | _ => False
theorem isEmpty_kv {κ : Type} {kvs : List (κ × V)} {vs : List (κ × Value)} (r : KV kvs vs) : (!vs.isEmpty) = !kvs.isEmpty := by
  cases r <;> rfl
theorem isEmpty_of {xs : List V} {its : List Value} (r : Vals xs its) : (!its.toArray.isEmpty) = !xs.isEmpty := by
  cases r <;> simp
theorem line63 : (sizeLine : Nat) < 2 ^ 63 := by rw [sizeLine_eq]; decide
theorem tru_ok : TruR X (fun x H Q => ∃ k, TruV X.K x H k ∧ Q k H) := by
  intro pins s σ H x v Q I rx h
  obtain ⟨k, e, q⟩ := h
  have hl := line63
  have hs : sizeLine = 16777216 := sizeLine_eq
  cases x with
  | non =>
    cases rx
    have e' : k = false := e
    subst e'
    exact truthy_none ⟨H, I, q⟩
  | bl b =>
    cases rx
    have e' : k = b := e
    subst e'
    exact wpAny_truthy_bool ⟨H, I, q⟩
  | int i =>
    obtain ⟨t, rfl⟩ := rx
    have e' : k = (i != 0) := e
    subst e'
    exact PySem.P.truthy_int ⟨H, I, q⟩
  | str y =>
    obtain ⟨t, rfl⟩ := rx
    obtain ⟨hy, e'⟩ : y.length ≤ sizeLine ∧ k = ((y.length : Int) != 0) := e
    subst e'
    exact PySem.P.truthy_str (by omega) ⟨H, I.tok _, q⟩
  | byt y =>
    obtain ⟨t, rfl⟩ := rx
    obtain ⟨hy, e'⟩ : y.size ≤ sizeLine ∧ k = ((y.size : Int) != 0) := e
    subst e'
    exact PySem.W.truthy_bytes (by omega) ⟨H, I.tok _, q⟩
  | ref p =>
    cases rx
    have e' : (∃ xs, SqL X.K H p xs ∧ k = !xs.isEmpty) ∨ (∃ xs, SqT X.K H p xs ∧ k = !xs.isEmpty) ∨ ∃ kvs, H p = some (.dK kvs) ∧ k = !kvs.isEmpty := e
    rcases e' with ⟨xs, hx, e'⟩ | ⟨xs, hx, e'⟩ | ⟨kvs, hx, e'⟩
    · subst e'
      obtain ⟨its, r, pl, hz⟩ := I.list hx
      have hlen := r.length
      exact wpAny_truthy_list pl.isList (by simp only [List.size_toArray]; omega) ⟨H, I.tok _, by rw [isEmpty_of r]; exact q⟩
    · subst e'
      obtain ⟨its, r, pl, hz⟩ := I.tuple hx
      have hlen := r.length
      exact truthy_tuple pl (by simp only [List.size_toArray]; omega) ⟨H, I.tok _, by rw [isEmpty_of r]; exact q⟩
    · subst e'
      obtain ⟨hz, hS, vs, r, m⟩ : kvs.length ≤ sizeLine ∧ (p == sysModules) = false ∧ ∃ vs, KV kvs vs ∧ s.heap.DictOf (mixKind X.prog X.w) p vs := I.hok p _ hx
      have hlen : kvs.length = vs.length := Paired.length r
      exact wpAny_truthy_dict hS m (by omega) ⟨H, I.tok _, by rw [isEmpty_kv r]; exact q⟩
  | _ => exact (show False from e).elim
theorem pt_truth (ha : PE X a ta) (he : ∀ whole, isTrue a X.env whole = (do let v ← whole; standAt a.pos; holding [v] (truthy v))) :
    PT X a (fun σ H Q => ta σ H fun x H' => ∃ k, TruV X.K x H' k ∧ Q k H') := by
  intro pins s σ H Q I h
  exact isTrue_plain (thn (ha pins s σ H _ I h) fun v s1 ⟨x, H1, I1, r1, q1⟩ => tru_ok pins s1 σ H1 x v Q I1 r1 q1) (he _)
theorem op_add_str : OpR X (binaryOp .Add) (fun x y H Q => ∃ i j, x = .str i ∧ y = .str j ∧ i.length + j.length ≤ sizeLine ∧ Q (.str (i ++ j)) H) := by
  intro pins s σ H x y v u Q I rx ry h
  obtain ⟨i, j, rfl, rfl, hz, q⟩ := h
  obtain ⟨t, rfl⟩ := rx
  obtain ⟨t', rfl⟩ := ry
  exact add_str (fun t' tk => ⟨.str (i ++ j), H, I.tok _, ⟨_, rfl⟩, q⟩) hz
theorem vals1 {x : V} {us : List Value} (r : Vals [x] us) : ∃ u, us = [u] ∧ RelV x u := by
  cases r with
  | cons r1 r2 => cases r2; exact ⟨_, rfl, r1⟩
theorem vals2 {x y : V} {us : List Value} (r : Vals [x, y] us) : ∃ u w', us = [u, w'] ∧ RelV x u ∧ RelV y w' := by
  cases r with
  | cons r1 r2 =>
    cases r2 with
    | cons r3 r4 => cases r4; exact ⟨_, _, rfl, r1, r3⟩
theorem call_min2 (hc : X.calm = true) : CallR X (.builtin "min") (fun xs H Q => ∃ i j, xs = [.int i, .int j] ∧ Q (.int (if j < i then j else i)) H) := by
  intro pins s σ H xs us Q I r h
  obtain ⟨i, j, rfl, q⟩ := h
  obtain ⟨u, w', rfl, ⟨t, rfl⟩, ⟨t', rfl⟩⟩ := vals2 r
  refine min_two_ints (I.ok.hd hc) fun h' tk k => ⟨_, H, I.kept k, ?_, q⟩
  by_cases hj : j < i
  · rw [if_pos hj, if_pos hj]; exact ⟨_, rfl⟩
  · rw [if_neg hj, if_neg hj]; exact ⟨_, rfl⟩
theorem call_int1 : CallR X (.type "int") (fun xs H Q => (∃ i, xs = [.int i] ∧ Q (.int i) H) ∨ ∃ k, xs = [.bl k] ∧ Q (.int (if k then 1 else 0)) H) := by
  intro pins s σ H xs us Q I r h
  rcases h with ⟨i, rfl, q⟩ | ⟨k, rfl, q⟩
  · obtain ⟨u, rfl, t, rfl⟩ := vals1 r
    exact call_int_int ⟨.int i, H, I, ⟨_, rfl⟩, q⟩
  · obtain ⟨u, rfl, r1⟩ := vals1 r
    cases r1
    exact call_int_bool ⟨.int (if k then 1 else 0), H, I.tok _, ⟨_, rfl⟩, q⟩
end
structure ObjM (h : Heap) (x dx C : Addr) (mA : Str → Option Value) : Prop where
  obj : h.get? x = some (PySem.W.instObj C dx)
  ns : h.Ns1 dx mA
  ne : dx ≠ x
theorem lookIn_ns {h : Heap} {dx : Addr} {mA : Str → Option Value} (n : h.Ns1 dx mA) : ∃ od, h.get? dx = some od ∧ ∀ name, PySem.W.lookIn name od = some (mA name) := by
  obtain ⟨o, es, ep, ho, hd, hk, _, hm⟩ := n
  refine ⟨o, ho, fun name => ?_⟩
  have e := hm name
  unfold nsFind findBy at e
  rw [← Array.find?_toList] at e
  unfold PySem.W.lookIn
  rw [hd]
  dsimp only
  split
  · rename_i y q
    rw [q] at e
    exact congrArg some e
  · rename_i q
    rw [q] at e
    have a : es.toList.any (·.refKey) = false := by
      rw [List.any_eq_false]
      intro y hy
      obtain ⟨z, t, hkey⟩ := hk y (Array.mem_toList_iff.mp hy)
      simp [DictEntry.refKey, hkey]
    have a' : ¬ es.toList.any (·.refKey) = true := by rw [a]; exact Bool.false_ne_true
    rw [if_neg a']
    exact congrArg some e
theorem ObjM.look {h : Heap} {x dx C : Addr} {mA : Str → Option Value} (I : ObjM h x dx C mA) : ∃ od, PySem.W.InstAt h x (PySem.W.instObj C dx) C (some od) ∧ ∀ name, PySem.W.lookIn name od = some (mA name) :=
  let ⟨od, ho, hl⟩ := lookIn_ns I.ns
  ⟨od, ⟨I.obj, rfl, rfl, ho⟩, hl⟩
section
variable {prog : Program} {w : World} {A : Around} {E : Value → Shared → Prop} {s : Shared} {K : PySem.W.Frag} {x dx C f : Addr} {mA : Str → Option Value} {name : Str} {v : Value}
theorem get_map {expr : Bool} {Q : Value → Shared → Prop} (X : K.In s.heap) (I : ObjM s.heap x dx C mA) (hg : PySem.W.plainGet K C name = true) (hh : PySem.W.hasDictIn K C = true)
    (ha : PySem.W.findIn K (.ref C) name = some none) (hv : mA name = some v) (hv' : PySem.W.handedIn v = true) (h : Q v { s with toks := s.toks + 1 }) :
    wpAny (model prog w) A (getAttr (.ref x) name expr) Q E s := by
  obtain ⟨od, J, hl⟩ := I.look
  exact PySem.W.get_value X J (PySem.W.plainGet_of hg).1 (PySem.W.findObj_own hh ha rfl (by rw [hl, hv])) hv' h
theorem get_meth {pl : Sem Bool} {Q : Value × List Value → Shared → Prop} (X : K.In s.heap) (I : ObjM s.heap x dx C mA) (hg : PySem.W.plainGet K C name = true)
    (hf : PySem.W.findIn K (.ref C) name = some (some (.ref f))) (ht : PySem.W.isFn K (.ref f) = true) (hv : mA name = none) (h : Q (.ref f, [.ref x]) s) :
    wpAny (model prog w) A (getMethod (.ref x) name pl) Q E s := by
  obtain ⟨od, J, hl⟩ := I.look
  exact PySem.W.method_fn X J (PySem.W.plainGet_of hg).1 (PySem.W.plainGet_of hg).2 hf (beq_iff_eq.mp ht) (by show (PySem.W.lookIn name od).map (·.isSome) = some false; rw [hl, hv]; rfl) h
theorem set_map {ns : List Str} {Q : Unit → Shared → Prop} (X : K.In s.heap) (I : ObjM s.heap x dx C mA)
    (hs : PySem.W.findIn K (.ref C) "__setattr__" = some (some (.builtin "object.__setattr__"))) (hp : PySem.W.plainOver K C = true) (ht : PySem.W.takerIn K C name = some none) (hh : PySem.W.hasDictIn K C = true)
    (hw : PySem.Within mA ns) (hsz : ns.length ≤ sizeLine)
    (h : ∀ h', ObjM h' x dx C (fun y => if y = name then some v else mA y) → Heap.SameBut dx s.heap h' → Q () { s with heap := h', toks := s.toks + 2 }) :
    wpAny (model prog w) A (setAttr (.ref x) name v) Q E s := by
  obtain ⟨od, J, hl⟩ := I.look
  refine PySem.W.set_plain X J hs (PySem.W.osa_open (s := { s with toks := s.toks + 1 }) (r := none) X J hp ht fun b => ?_)
  obtain ⟨cd, hc, hd'⟩ := PySem.W.any_some hh
  have hx : s.heap.get? x = some ⟨.ref C, some dx, .plain, #[]⟩ := I.obj
  refine wpAny_bind (wpAny_pure (wpAny_bind (wpAny_bind (wpAny_loadPart hx (wpAny_bind (PySem.W.Looks.here (s := { s with toks := s.toks + 1 }) (PySem.W.looks_clsIn X hc) ?_))))))
  rw [hd']
  refine wpAny_pure (a := some dx) (wpAny_bind (wpAny_pure (wpAny_bind ?_)))
  refine wpAny_nsSet1 (s := { s with toks := s.toks + 1 }) I.ns fun h' hn2 hs2 => ?_
  obtain ⟨oD, esD, epD, hoD, hdD, hcD⟩ := hn2.count (PySem.Within.cons name v hw)
  refine wpAny_bind (wpAny_lookBehind hoD (by rw [hdD]; exact pastItsLine_dict (Nat.le_trans hcD (by rw [List.length_cons]; omega))) ?_)
  exact wpAny_pure (h _ ⟨(hs2.2 _ (Ne.symm I.ne)).trans I.obj, hn2, I.ne⟩ hs2)
theorem make_map {R : Result → Shared → Prop} {vs : List Value} {kw : List (Str × Value)} (X : K.In s.heap) (hm : PySem.W.makesIn K C = true)
    (hi : PySem.W.findIn K (.ref C) "__init__" = some (some (.ref f))) (hf : PySem.W.typeIn K (.ref f) = some (.type "function"))
    (h : codeAny (model prog w) (A.under (.builtin "type.__call__" ⟨.ref C :: vs, kw⟩)) (.call (.ref f) ⟨.ref (s.heap.objs.size + 1) :: vs, kw⟩) (PySem.W.InitBack (s.heap.objs.size + 1) R)
      { s with heap := (s.heap.push PySem.W.emptyDict).push (PySem.W.instObj C s.heap.objs.size) }) :
    codeAny (model prog w) A (.call (.ref C) ⟨vs, kw⟩) R s := by
  obtain ⟨hh, g, d, t, os⟩ := s
  exact PySem.W.make_core (PySem.W.makes_of X hm) (PySem.W.looks_findIn X hi) (fun self => PySem.W.bind_fn X self hf) (.inl rfl) h
end
noncomputable def putF (f : Str) (v : V) : List (Str × V) → List (Str × V)
  | [] => [(f, v)]
  | (g, x) :: r => if g = f then (g, v) :: r else (g, x) :: putF f v r
theorem lookup_putF (f g : Str) (v : V) : ∀ fs : List (Str × V), (putF f v fs).lookup g = if g = f then some v else fs.lookup g
  | [] => by
    show List.lookup g [(f, v)] = _
    by_cases h : g = f
    · have hb : (g == f) = true := beq_iff_eq.mpr h
      simp only [List.lookup, hb, if_pos h]
    · have hb : (g == f) = false := beq_eq_false_iff_ne.mpr h
      simp only [List.lookup, hb, if_neg h]
  | (k, x) :: r => by
    have ih := lookup_putF f g v r
    rw [show putF f v ((k, x) :: r) = (if k = f then (k, v) :: r else (k, x) :: putF f v r) from rfl]
    by_cases hk : k = f
    · rw [if_pos hk]
      by_cases h : g = k
      · have hb : (g == k) = true := beq_iff_eq.mpr h
        simp only [List.lookup, hb, if_pos (h.trans hk)]
      · have hb : (g == k) = false := beq_eq_false_iff_ne.mpr h
        simp only [List.lookup, hb, if_neg (fun e : g = f => h (e.trans hk.symm))]
    · rw [if_neg hk]
      by_cases h : g = k
      · have hb : (g == k) = true := beq_iff_eq.mpr h
        simp only [List.lookup, hb, if_neg (fun e : g = f => hk (h.symm.trans e))]
      · have hb : (g == k) = false := beq_eq_false_iff_ne.mpr h
        simp only [List.lookup, hb]
        exact ih
theorem keys_putF (f : Str) (v : V) : ∀ fs : List (Str × V), f ∈ (putF f v fs).map (·.1) ∧ ∀ g, g ∈ fs.map (·.1) → g ∈ (putF f v fs).map (·.1)
  | [] => ⟨by simp [putF], fun g h => by simp at h⟩
  | (k, x) :: r => by
    obtain ⟨i1, i2⟩ := keys_putF f v r
    rw [show putF f v ((k, x) :: r) = (if k = f then (k, v) :: r else (k, x) :: putF f v r) from rfl]
    by_cases hk : k = f
    · rw [if_pos hk]
      subst hk
      exact ⟨by simp, fun g h => by simpa using h⟩
    · rw [if_neg hk]
      refine ⟨?_, fun g h => ?_⟩
      · rw [List.map_cons]
        exact List.mem_cons_of_mem _ i1
      · rw [List.map_cons] at h ⊢
        rcases List.mem_cons.mp h with e | e
        · exact List.mem_cons.mpr (.inl e)
        · exact List.mem_cons_of_mem _ (i2 g e)
theorem length_putF (f : Str) (v : V) : ∀ fs : List (Str × V), (putF f v fs).length ≤ fs.length + 1
  | [] => by simp [putF]
  | (k, x) :: r => by
    have ih := length_putF f v r
    rw [show putF f v ((k, x) :: r) = (if k = f then (k, v) :: r else (k, x) :: putF f v r) from rfl]
    by_cases hk : k = f
    · rw [if_pos hk, List.length_cons, List.length_cons]; omega
    · rw [if_neg hk, List.length_cons, List.length_cons]; omega
theorem RelO.some_of {v : V} {o : Option Value} (r : RelO (some v) o) : ∃ u, o = some u ∧ RelV v u := by
  cases o with
  | none => exact (show False from r).elim
  | some u => exact ⟨u, rfl, r⟩
theorem RelO.none_of {o : Option Value} (r : RelO none o) : o = none := by
  cases o with
  | none => rfl
  | some u => exact (show False from r).elim
theorem handed_of {v : V} {u : Value} (r : RelV v u) : PySem.W.handedIn u = true := by
  cases v with
  | non => cases (show u = Value.none from r); rfl
  | bl b => cases (show u = Value.bool b from r); rfl
  | int i => obtain ⟨t, e⟩ := (show ∃ t, u = Value.int i t from r); cases e; rfl
  | str x => obtain ⟨t, e⟩ := (show ∃ t, u = Value.str x t from r); cases e; rfl
  | byt b => obtain ⟨t, e⟩ := (show ∃ t, u = Value.bytes b t from r); cases e; rfl
  | flt b => obtain ⟨t, e⟩ := (show ∃ t, u = Value.float b t from r); cases e; rfl
  | ref a => cases (show u = Value.ref a from r); rfl
  | ty n => cases (show u = Value.type n from r); rfl
section
variable {P : Program} {w : World} {H H' : Hp} {h h' : Heap} {a C dx : Addr} {fs fs' : List (Str × V)}
theorem ins_get (hok : HOk P w H h) (e : H a = some (.ins C dx fs)) : ∃ mA, ObjM h a dx C mA ∧ (∀ f, RelO (fs.lookup f) (mA f)) ∧ PySem.Within mA (fs.map (·.1)) ∧ fs.length ≤ 1000 ∧ H dx = some (.own a) := by
  obtain ⟨d, z, ne, ob, mA, n, r, q⟩ := (show ObjOk P w H h a (.ins C dx fs) from hok a _ e)
  exact ⟨mA, ⟨ob, n, ne⟩, r, q, z, d⟩
end
structure Cls (K : PySem.W.Frag) (C : Addr) : Prop where
  pg : PySem.W.plainGet K C Str.empty = true
  hd : PySem.W.hasDictIn K C = true
  po : PySem.W.plainOver K C = true
  sa : PySem.W.findIn K (.ref C) "__setattr__" = some (some (.builtin "object.__setattr__"))
theorem Cls.get {K : PySem.W.Frag} {C : Addr} (c : Cls K C) (f : Str) : PySem.W.plainGet K C f = true := c.pg
noncomputable def NoAttr (K : PySem.W.Frag) (C : Addr) (f : Str) : Prop := PySem.W.findIn K (.ref C) f = some none
theorem NoAttr.taker {K : PySem.W.Frag} {C : Addr} {f : Str} (n : NoAttr K C f) : PySem.W.takerIn K C f = some none := by
  unfold PySem.W.takerIn
  rw [show PySem.W.findIn K (.ref C) f = some none from n]
  rfl
structure Con (K : PySem.W.Frag) (C : Addr) (f : Str) (v : V) (u : Value) : Prop where
  at_ : PySem.W.findIn K (.ref C) f = some (some u)
  rel : RelV v u
  get : PySem.W.specialIn K u "__get__" = some none
  cp : PySem.W.copiedNames.contains f = false
structure Meth (K : PySem.W.Frag) (C : Addr) (m : Str) (f : Addr) : Prop where
  at_ : PySem.W.findIn K (.ref C) m = some (some (.ref f))
  fn : PySem.W.isFn K (.ref f) = true
  kp : PySem.W.keepIn K (.ref f) = true
section
variable {X : Cx} {pins : List (Addr × Obj)} {σ : St} {H : Hp} {s : Shared} {a C dx : Addr} {fs : List (Str × V)} {f : Str} {v : V} {A : Around} {E : Value → Shared → Prop}
theorem getattr_ok {b : Bool} {Q : Value → Shared → Prop} (I : Inv X pins σ H s) (e : H a = some (.ins C dx fs)) (c : Cls X.K C) (n : NoAttr X.K C f) (l : fs.lookup f = some v)
    (h : ∀ u s', Inv X pins σ H s' → RelV v u → Q u s') : wpAny (model X.prog X.w) A (getAttr (.ref a) f b) Q E s := by
  obtain ⟨mA, O, r, _, _, _⟩ := ins_get I.hok e
  obtain ⟨u, hu, ru⟩ := RelO.some_of (v := v) (o := mA f) (by rw [← l]; exact r f)
  exact get_map I.kIn O (c.get f) c.hd n hu (handed_of ru) (h u _ (I.tok _) ru)
theorem getmeth_ok {m : Str} {g : Addr} {pl : Sem Bool} {Q : Value × List Value → Shared → Prop} (I : Inv X pins σ H s) (e : H a = some (.ins C dx fs)) (c : Cls X.K C) (k : Meth X.K C m g) (l : fs.lookup m = none)
    (h : Q (.ref g, [.ref a]) s) : wpAny (model X.prog X.w) A (getMethod (.ref a) m pl) Q E s := by
  obtain ⟨mA, O, r, _, _, _⟩ := ins_get I.hok e
  have hn : mA m = none := RelO.none_of (by rw [← l]; exact r m)
  exact get_meth I.kIn O (c.get m) k.at_ k.fn hn h
theorem setattr_ok {y : V} {u : Value} {Q : Unit → Shared → Prop} (I : Inv X pins σ H s) (e : H a = some (.ins C dx fs)) (c : Cls X.K C) (n : NoAttr X.K C f) (hl : fs.length < 1000) (ry : RelV y u)
    (h : ∀ s', Inv X pins σ (upd H a (.ins C dx (putF f y fs))) s' → Q () s') : wpAny (model X.prog X.w) A (setAttr (.ref a) f u) Q E s := by
  obtain ⟨mA, O, r, wi, _, ho⟩ := ins_get I.hok e
  have hz : (fs.map (·.1)).length ≤ sizeLine := by rw [List.length_map, sizeLine_eq]; omega
  refine set_map I.kIn O c.sa c.po n.taker c.hd wi hz fun h' O' sb => h _ ?_
  have hd : ∃ o, h'.get? dx = some o := let ⟨o, _, _, e', _⟩ := O'.ns; ⟨o, e'⟩
  refine I.write (x := a) (e := dx) (by rw [e]; exact True.intro) (.inr ho) (fun b q hb z => (sb.2 b hb).trans z) hd ?_
  refine ⟨by rw [upd_ne O.ne]; exact ho, ?_, O.ne, O'.obj, _, O'.ns, fun g => ?_, fun g hg => ?_⟩
  · have := length_putF f y fs; omega
  · show RelO ((putF f y fs).lookup g) (if g = f then some u else mA g)
    rw [lookup_putF]
    by_cases q : g = f
    · rw [if_pos q, if_pos q]; exact ry
    · rw [if_neg q, if_neg q]; exact r g
  · by_cases q : g = f
    · rw [q]; exact (keys_putF f y fs).1
    · refine (keys_putF f y fs).2 g (wi g fun z => hg ?_)
      show (if g = f then some u else mA g) = none
      rw [if_neg q]; exact z
theorem Inv.made (I : Inv X pins σ H s) : Inv X pins σ (upd (upd H s.heap.objs.size (.own (s.heap.objs.size + 1))) (s.heap.objs.size + 1) (.ins C s.heap.objs.size []))
    { s with heap := (s.heap.push PySem.W.emptyDict).push (PySem.W.instObj C s.heap.objs.size) } := by
  have e1 : (s.heap.push PySem.W.emptyDict).get? s.heap.objs.size = some PySem.W.emptyDict := Heap.get?_push_size s.heap rfl
  have e2 : ((s.heap.push PySem.W.emptyDict).push (PySem.W.instObj C s.heap.objs.size)).get? (s.heap.objs.size + 1) = some (PySem.W.instObj C s.heap.objs.size) := by
    have := Heap.get?_push_size (s.heap.push PySem.W.emptyDict) (o := PySem.W.instObj C s.heap.objs.size) rfl
    rwa [Heap.size_push] at this
  have e3 : (s.heap.push PySem.W.emptyDict).Ns s.heap.objs.size (fun _ => none) := ⟨PySem.W.emptyDict, #[], _, e1, rfl, (fun e he => absurd he (by simp)), fun _ => rfl⟩
  have I1 := I.laid (a := s.heap.objs.size) (o := .own (s.heap.objs.size + 1)) (h' := s.heap.push PySem.W.emptyDict) (t' := s.toks) (fun b u q => Heap.get?_push_of_some _ q) (Nat.le_refl _) ⟨_, e1⟩
  refine I1.laid (a := s.heap.objs.size + 1) (o := .ins C s.heap.objs.size []) (t' := s.toks) (fun b u q => Heap.get?_push_of_some _ q) (Nat.le_of_eq (Heap.size_push _ _)) ?_
  have ne : s.heap.objs.size ≠ s.heap.objs.size + 1 := Nat.ne_of_lt (Nat.lt_succ_self _)
  refine ⟨by rw [upd_ne ne, upd_same], Nat.zero_le _, ne, e2, fun _ => none, (Heap.Ns1.of_empty e3).at fun o q => Heap.get?_push_of_some _ q, fun _ => True.intro, fun y hy => absurd rfl hy⟩
theorem attr_of {prog : Program} {w : World} {env : Env} {e : Expr} {f : Str} {pos : Pos} {s : Shared} {Q : Value → Shared → Prop} (hb : attributeBase e f env (eval e env) = eval e env)
    (h : wpAny (model prog w) A (eval e env) (fun o s₁ => wpAny (model prog w) A (getAttr o f true) Q E s₁) E s) : wpAny (model prog w) A (eval (.Attribute e f pos) env) Q E s :=
  Attribute_any_ h (by rw [arm_eval_Attribute, hb])
end
noncomputable def tFld (K : PySem.W.Frag) (ta : TE) (f : Str) : TE := fun σ H Q => ta σ H fun x H1 => ∃ a C dx fs v, x = .ref a ∧ H1 a = some (.ins C dx fs) ∧ Cls K C ∧ NoAttr K C f ∧ fs.lookup f = some v ∧ Q v H1
noncomputable def sFld (K : PySem.W.Frag) (ta tv : TE) (f : Str) : TS := fun D σ H => tv σ H fun y H1 => ta σ H1 fun x H2 => ∃ a C dx fs, x = .ref a ∧ H2 a = some (.ins C dx fs) ∧ Cls K C ∧ NoAttr K C f ∧ fs.length < 1000 ∧
  D.nx σ (upd H2 a (.ins C dx (putF f y fs)))
section
variable {X : Cx} {o e value : Expr} {f : Str} {pos pos' tpos : Pos} {ta tv : TE}
theorem pe_fld (he : PE X e ta) (hb : attributeBase e f X.env (eval e X.env) = eval e X.env) : PE X (.Attribute e f pos) (tFld X.K ta f) := by
  intro pins s σ H Q I h
  refine attr_of hb (thn (he pins s σ H _ I h) fun u s1 ⟨x, H1, I1, rx, a, C, dx, fs, v, ex, ea, c, n, l, q⟩ => ?_)
  subst ex
  obtain rfl : u = Value.ref a := rx
  exact getattr_ok I1 ea c n l fun u' s2 I2 ru => ⟨v, H1, I2, ru, q⟩
theorem ps_fld (ha : PE X o ta) (hv : PE X value tv) (hs : swapsWith value (some (.Attribute o f pos')) pos.line X.env = pure false) : PS X (.Assign [.Attribute o f pos'] value pos) (sFld X.K ta tv f) := by
  intro pins s σ H D I h
  refine plainObj_wpAny_Assign_Attribute (thn (hv pins s σ H _ I h) fun u s1 ⟨y, H1, I1, ry, q⟩ => thn (ha pins s1 σ H1 _ I1 q) fun ov s2 ⟨x, H2, I2, rx, a, C, dx, fs, ex, ea, c, n, l, q2⟩ => ?_) hs
  subst ex
  obtain rfl : ov = Value.ref a := rx
  exact setattr_ok I2 ea c n l ry fun s3 I3 => ⟨σ, _, I3, q2⟩
end
section
variable {X : Cx} {pins : List (Addr × Obj)} {σ : St} {H : Hp} {s : Shared} {A : Around} {E : Value → Shared → Prop} {Q : Value → Shared → Prop} {c : Value} {b : Bool}
inductive TyOf (K : PySem.W.Frag) (H : Hp) : V → Value → Prop where
  | non : TyOf K H .non (.type "NoneType")
  | bl (x : Bool) : TyOf K H (.bl x) (.type "bool")
  | int (i : Int) : TyOf K H (.int i) (.type "int")
  | str (x : Str) : TyOf K H (.str x) (.type "str")
  | flt (x : UInt64) : TyOf K H (.flt x) (.type "float")
  | lst {a : Addr} {xs : List V} (e : H a = some (.lst xs)) : TyOf K H (.ref a) (.type "list")
  | frz {a : Addr} {o : Obj} {xs : List V} (e : H a = some (.frz o (.lst xs))) : TyOf K H (.ref a) (.type "list")
  | tup {a : Addr} {xs : List V} (e : H a = some (.tup xs)) : TyOf K H (.ref a) (.type "tuple")
  | dK {a : Addr} {kvs : List (Key × V)} (e : H a = some (.dK kvs)) : TyOf K H (.ref a) (.type "dict")
  | dT {a : Addr} {kvs : List (List Key × V)} (e : H a = some (.dT kvs)) : TyOf K H (.ref a) (.type "dict")
  | ins {a C dx : Addr} {fs : List (Str × V)} (e : H a = some (.ins C dx fs)) (cl : Cls K C) (ha : PySem.W.findIn K (.ref C) "__class__" = some (some (.builtin "object.__class__")))
      (hn : PySem.W.specialIn K (.builtin "object.__class__") "__get__" = some (some (.builtin "getset_descriptor.__get__"))) (htk : PySem.W.takesIn K (.builtin "object.__class__") = some true)
      (hm : PySem.W.mroIn K C (.type "object") = some true) : TyOf K H (.ref a) (.ref C)
theorem isinst_ok {x : V} {u t : Value} (I : Inv X pins σ H s) (rx : RelV x u) (ty : TyOf X.K H x t) (e : PySem.W.kitOne X.K t c = some b) (h : ∀ tk, Q (.bool b) { s with toks := tk }) :
    wpAny (model X.prog X.w) A (call (.builtin "isinstance") [u, c]) Q E s := by
  cases ty with
  | non => cases (show u = Value.none from rx); exact PySem.W.kia_one PySem.W.kitx_none I.kIn True.intro e (fun z => nomatch z) h
  | bl y => cases (show u = Value.bool y from rx); exact PySem.W.kia_one PySem.W.kitx_bool I.kIn True.intro e (fun z => nomatch z) h
  | int i => obtain ⟨t, q⟩ := (show ∃ t, u = Value.int i t from rx); cases q; exact PySem.W.kia_one PySem.W.kitx_int I.kIn True.intro e (fun z => nomatch z) h
  | str y => obtain ⟨t, q⟩ := (show ∃ t, u = Value.str y t from rx); cases q; exact PySem.W.kia_one PySem.W.kitx_str I.kIn True.intro e (fun z => nomatch z) h
  | flt y => obtain ⟨t, q⟩ := (show ∃ t, u = Value.float y t from rx); cases q; exact PySem.W.kia_one PySem.W.kitx_float I.kIn True.intro e (fun z => nomatch z) h
  | @lst a xs ea =>
    cases (show u = Value.ref a from rx)
    obtain ⟨_, _, n, _, h1⟩ := (show ObjOk X.prog X.w H s.heap a (.lst xs) from I.hok a _ ea)
    exact PySem.W.kia_one PySem.W.kitx_list I.kIn ⟨_, h1, rfl⟩ e (fun z => nomatch z) h
  | @frz a ob xs ea =>
    cases (show u = Value.ref a from rx)
    obtain ⟨_, _, _, n, _, h1⟩ := (show ObjOk X.prog X.w H s.heap a (.frz ob (.lst xs)) from I.hok a _ ea)
    exact PySem.W.kia_one PySem.W.kitx_list I.kIn ⟨_, h1, rfl⟩ e (fun z => nomatch z) h
  | @tup a xs ea =>
    cases (show u = Value.ref a from rx)
    obtain ⟨_, _, _, p⟩ := (show ObjOk X.prog X.w H s.heap a (.tup xs) from I.hok a _ ea)
    obtain ⟨o, h1, h2, _⟩ := p
    exact PySem.W.kia_one PySem.W.kitx_tuple I.kIn ⟨o, h1, h2⟩ e (fun z => nomatch z) h
  | @dK a kvs ea =>
    cases (show u = Value.ref a from rx)
    obtain ⟨_, _, vs, _, p⟩ := (show ObjOk X.prog X.w H s.heap a (.dK kvs) from I.hok a _ ea)
    obtain ⟨o, es, ep, h1, h2, _⟩ := p
    exact PySem.W.kia_one PySem.W.kitx_dict I.kIn ⟨o, h1, h2.1⟩ e (fun z => nomatch z) h
  | @dT a kvs ea =>
    cases (show u = Value.ref a from rx)
    obtain ⟨_, _, xs, _, o, es, ep, h1, h2, _⟩ := (show ObjOk X.prog X.w H s.heap a (.dT kvs) from I.hok a _ ea)
    exact PySem.W.kia_one PySem.W.kitx_dict I.kIn ⟨o, h1, h2.1⟩ e (fun z => nomatch z) h
  | @ins a C dx fs ea cl ha hn htk hm =>
    cases (show u = Value.ref a from rx)
    obtain ⟨mA, O, _⟩ := ins_get I.hok ea
    obtain ⟨od, J, _⟩ := O.look
    exact PySem.W.kia_one (PySem.W.kitx_own (cl.get _) cl.hd ha hn htk hm) I.kIn J e (fun z => nomatch z) h
end
structure Room (k : Nat) (A : Around) : Prop where
  hd : A.handled = none
  dp : A.depth + 3 * k + 5 < recursionLimit
  un : A.units + 16 * k + 200 < cLine
theorem Room.mono {j k : Nat} {A : Around} (r : Room k A) (h : j ≤ k) : Room j A := ⟨r.hd, by have := r.dp; omega, by have := r.un; omega⟩
theorem Room.deeper {k : Nat} {A : Around} (r : Room (k + 1) A) (env : Env) : Room k (A.deeper env) :=
  ⟨r.hd, by have := r.dp; show A.depth + 1 + 3 * k + 5 < _; omega, by have := r.un; show A.units + 3 + 16 * k + 200 < _; omega⟩
theorem Room.in1 {k : Nat} {A : Around} (r : Room (k + 1) A) : Room k A.in1 :=
  ⟨r.hd, by have := r.dp; show A.depth + 3 * k + 5 < _; omega, by have := r.un; show A.units + 1 + 16 * k + 200 < _; omega⟩
theorem make_depth {A : Around} {C : Addr} {us : List Value} {kw : List (Str × Value)} : (A.under (.builtin "type.__call__" ⟨.ref C :: us, kw⟩)).depth = A.depth + 1 := by
  first | rfl | simp [Around.under, Code.weight, Code.isCreation, Code.isGuard, Code.isCaller, Code.frames, Code.isFrame, guardIds]
theorem make_units {A : Around} {C : Addr} {us : List Value} {kw : List (Str × Value)} : (A.under (.builtin "type.__call__" ⟨.ref C :: us, kw⟩)).units = A.units + 1 := by
  first | rfl | simp [Around.under, Code.cUnits, Code.frames, Code.isFrame]
theorem Room.make {k : Nat} {A : Around} (r : Room (k + 1) A) (C : Addr) (us : List Value) (kw : List (Str × Value)) : Room k (A.under (.builtin "type.__call__" ⟨.ref C :: us, kw⟩)) :=
  ⟨r.hd, by have := r.dp; rw [make_depth]; omega, by have := r.un; rw [make_units]; omega⟩
theorem Room.depth {k : Nat} {A : Around} (r : Room k A) : A.depth < recursionLimit := by have := r.dp; omega
theorem Room.units {k : Nat} {A : Around} (r : Room k A) : A.units + 64 < cLine := by have := r.un; omega
noncomputable def tNil : TA := fun _ H Q => Q [] H
noncomputable def tCons (ta : TE) (tr : TA) : TA := fun σ H Q => ta σ H fun x H1 => tr σ H1 fun xs H2 => Q (x :: xs) H2
section
variable {X : Cx} {e : Expr} {es : List Expr} {te : TE} {t : TA} {pos : Pos}
theorem pa_nil : PA X [] tNil := fun _ _ _ _ H Q I h => Calls.spliced_nil ⟨[], H, I, .nil, h⟩
theorem pa_cons (ha : PE X e te) (hr : PA X es t) (hs : starEach (e :: es) X.env = (false, eval e X.env) :: starEach es X.env := by rfl) : PA X (e :: es) (tCons te t) := by
  intro pos pins s σ H Q I h
  rw [hs]
  show wpAny _ _ (spliced ((false, eval e X.env) :: backTo pos (starEach es X.env))) _ _ s
  refine Calls.spliced_cons (thn (ha pins s σ H _ I h) fun u s1 ⟨x, H1, I1, r1, q1⟩ => ?_)
  exact thn (hr pos pins s1 σ H1 _ I1 q1) fun us s2 ⟨xs, H2, I2, r2, q2⟩ => ⟨x :: xs, H2, I2, .cons r1 r2, q2⟩
noncomputable def tTup (t : TA) : TE := fun σ H Q => t σ H fun xs H1 => xs.length ≤ sizeLine ∧ ∀ p, H1 p = none → Q (.ref p) (upd H1 p (.tup xs))
noncomputable def tLst (t : TA) : TE := fun σ H Q => t σ H fun xs H1 => xs.length ≤ sizeLine ∧ ∀ p, H1 p = none → Q (.ref p) (upd H1 p (.lst xs))
theorem pe_tup {x1} (h : PA X es t) : PE X (.Tuple es x1 pos) (tTup t) := by
  intro pins s σ H Q I hq
  refine wpAny_Tuple_spliced (thn (h pos pins s σ H _ I hq) fun us s1 ⟨xs, H1, I1, r, z, q⟩ => ⟨by rw [← r.length]; exact z, ?_⟩)
  have hf : H1 s1.heap.objs.size = none := I1.hok.fresh (Nat.le_refl _)
  refine ⟨.ref s1.heap.objs.size, upd H1 s1.heap.objs.size (.tup xs), I1.laid (t' := s1.toks) (fun b u e => Heap.get?_push_of_some _ e) (Nat.le_refl _) ?_, rfl, q _ hf⟩
  exact ⟨z, us, r, ⟨_, Heap.get?_push_size _ rfl, rfl, _, rfl⟩⟩
theorem pe_lst (h : PA X es t) : PE X (.List es pos) (tLst t) := by
  intro pins s σ H Q I hq
  refine wpAny_List_spliced (thn (h pos pins s σ H _ I hq) fun us s1 ⟨xs, H1, I1, r, z, q⟩ => ⟨by rw [← r.length]; exact z, ?_⟩)
  have hf : H1 s1.heap.objs.size = none := I1.hok.fresh (Nat.le_refl _)
  refine ⟨.ref s1.heap.objs.size, upd H1 s1.heap.objs.size (.lst xs), I1.laid (t' := s1.toks) (fun b u e => Heap.get?_push_of_some _ e) (Nat.le_refl _) ?_, rfl, q _ hf⟩
  exact ⟨z, us, 0, r, Heap.get?_push_size _ rfl⟩
end
abbrev Sp := List V → Hp → VK → XK → Prop
abbrev CXT := List Env → Hp → Shared → XK → Value → Shared → Prop
structure Env0 (P : Program) (w : World) (K : PySem.W.Frag) (mg : Str → Option Value) (base : Heap) (A : Around) (outer : List Env) (s : Shared) (H : Hp) : Prop where
  frames : A.frames = some outer
  mod : Mod K mg base
  bs : ∀ b o, base.get? b = some o → s.heap.get? b = some o ∧ H b = none
  bsz : base.objs.size ≤ s.heap.objs.size
  funs : s.heap.FunFrames base outer
  frf : ∀ b ∈ frs outer, H b = none
  hok : HOk P w H s.heap
  bare : AllBare s.gens
noncomputable def CE (outer : List Env) (P : Program) (w : World) (H : Hp) (s : Shared) (Q : VK) (u : Value) (s' : Shared) : Prop :=
  ∃ v H', s'.os = s.os ∧ AllBare s'.gens ∧ Un (frs outer) [] H H' s.heap s'.heap ∧ HOk P w H' s'.heap ∧ RelV v u ∧ Q v H'
noncomputable def CR (CX : CXT) (outer : List Env) (P : Program) (w : World) (H : Hp) (s : Shared) (Q : VK) (E : XK) (r : Result) (s' : Shared) : Prop :=
  match r with
  | .ok (.ret u) => CE outer P w H s Q u s'
  | .ok _ => False
  | .error e => CX outer H s E e s'
structure FnOk (P : Program) (w : World) (K : PySem.W.Frag) (mg : Str → Option Value) (base : Heap) (CX : CXT) (k : Nat) (f : Addr) (fd : FuncData) (ps : List Str) (sp : Sp) : Prop where
  len : ∀ vs H Q E, sp vs H Q E → vs.length = ps.length
  run : ∀ (A : Around) (outer : List Env) (s : Shared) (H : Hp) (args : Args) (us : List Value) (vs : List V) (Q : VK) (E : XK), Room k A → Env0 P w K mg base A outer s H → BindsTo s fd args (ps.zip us) → Vals vs us → sp vs H Q E →
    codeAny (model P w) A (.call (.ref f) args) (CR CX outer P w H s Q E) s
theorem FnOk.mono {P : Program} {w : World} {K : PySem.W.Frag} {mg : Str → Option Value} {base : Heap} {CX : CXT} {j k : Nat} {f : Addr} {fd : FuncData} {ps : List Str} {sp : Sp} (F : FnOk P w K mg base CX j f fd ps sp) (h : j ≤ k) :
    FnOk P w K mg base CX k f fd ps sp := ⟨F.len, fun A outer s H args us vs Q E hr => F.run A outer s H args us vs Q E (hr.mono h)⟩
theorem FnOk.imp {P : Program} {w : World} {K : PySem.W.Frag} {mg : Str → Option Value} {base : Heap} {CX : CXT} {k : Nat} {f : Addr} {fd : FuncData} {ps : List Str} {sp sp' : Sp} (F : FnOk P w K mg base CX k f fd ps sp)
    (h : ∀ vs H Q E, sp' vs H Q E → sp vs H Q E) : FnOk P w K mg base CX k f fd ps sp' :=
  ⟨fun vs H Q E q => F.len vs H Q E (h _ _ _ _ q), fun A outer s H args us vs Q E hr he hb hv hs => F.run A outer s H args us vs Q E hr he hb hv (h _ _ _ _ hs)⟩
theorem Env0.make {P : Program} {w : World} {K : PySem.W.Frag} {mg : Str → Option Value} {base : Heap} {A : Around} {outer : List Env} {s : Shared} {H : Hp} (e : Env0 P w K mg base A outer s H) (C : Addr) (us : List Value) (kw : List (Str × Value)) :
    Env0 P w K mg base (A.under (.builtin "type.__call__" ⟨.ref C :: us, kw⟩)) outer s H := ⟨by first | exact e.frames | (simpa [Around.under, Code.envs, Code.isFrame, pushEnvs] using e.frames), e.mod, e.bs, e.bsz, e.funs, e.frf, e.hok, e.bare⟩
theorem Env0.in1 {P : Program} {w : World} {K : PySem.W.Frag} {mg : Str → Option Value} {base : Heap} {A : Around} {outer : List Env} {s : Shared} {H : Hp} (e : Env0 P w K mg base A outer s H) :
    Env0 P w K mg base A.in1 outer s H := ⟨e.frames, e.mod, e.bs, e.bsz, e.funs, e.frf, e.hok, e.bare⟩
section
variable {X : Cx} {pins : List (Addr × Obj)} {σ : St} {H : Hp} {s s' : Shared}
theorem Inv.env0 (I : Inv X pins σ H s) : Env0 X.prog X.w X.K X.mg X.base X.A X.stack s H :=
  ⟨I.ok.frames, I.ok.mod, I.bs, Nat.le_trans I.ok.bsz I.sz, I.stack, I.stkFree, I.hok, I.bare⟩
theorem Inv.after {Q : VK} {u : Value} (I : Inv X pins σ H s) (h : CE X.stack X.prog X.w H s Q u s') : EP X pins σ Q u s' := by
  obtain ⟨v, H', os, bare, un, hok, r, q⟩ := h
  obtain ⟨hh, g, d, t, os'⟩ := s'
  obtain rfl : os' = s.os := os
  exact ⟨v, H', I.call (h' := hh) (g' := g) (d' := d) (t' := t) (ch := []) un hok bare (fun b z => absurd z (by simp)), r, q⟩
end
noncomputable def tCall (sp : Sp) (dvs : List V) (E : XK) (t : TA) : TE := fun σ H Q => t σ H fun vs H1 => sp (vs ++ dvs) H1 Q E
noncomputable def Binds (K : PySem.W.Frag) (fd : FuncData) (ps : List Str) (ds : List Value) : Prop :=
  ∀ (s : Shared) (us : List Value), K.In s.heap → (us ++ ds).length = ps.length → BindsTo s fd ⟨us, []⟩ (ps.zip (us ++ ds))
theorem Binds.all {K : PySem.W.Frag} {fd : FuncData} {ps : List Str} (h : ∀ us : List Value, us.length = ps.length → bindArgs fd ⟨us, []⟩ = pure (ps.zip us)) : Binds K fd ps [] := fun s us _ hl => by
  rw [List.append_nil] at hl ⊢
  exact .of_eq (h us hl)
noncomputable def Passes (CX : CXT) (X : Cx) (E : XK) : Prop := ∀ (pins : List (Addr × Obj)) (σ : St) (H : Hp) (s : Shared) (e : Value) (s' : Shared), Inv X pins σ H s → CX X.stack H s E e s' → X.xe e s'
section
variable {X : Cx} {CX : CXT} {k : Nat} {f C : Addr} {fd : FuncData} {ps : List Str} {sp : Sp} {dvs : List V} {ds : List Value} {E : XK} {x m : Str} {p pos apos : Pos} {e o : Expr} {es : List Expr} {ta : TE} {t : TA}
theorem run_fn {pins : List (Addr × Obj)} {σ : St} {H : Hp} {s : Shared} {Q : VK} {us : List Value} {vs : List V} (F : FnOk X.prog X.w X.K X.mg X.base CX k f fd ps sp) (hr : Room k X.A) (hb : Binds X.K fd ps ds) (hd : Vals dvs ds) (hx : Passes CX X E)
    (I : Inv X pins σ H s) (r : Vals vs us) (h : sp (vs ++ dvs) H Q E) : wpAny (model X.prog X.w) X.A (call (.ref f) us) (EP X pins σ Q) X.xe s := by
  have r2 : Vals (vs ++ dvs) (us ++ ds) := r.append hd
  have hl : (us ++ ds).length = ps.length := by rw [← r2.length]; exact F.len _ _ _ _ h
  refine wpAny_call (codeAny_mono (F.run X.A X.stack s H ⟨us, []⟩ (us ++ ds) (vs ++ dvs) Q E hr I.env0 (hb s us I.kIn hl) r2 h) fun r s' hq => ?_)
  cases r with
  | error e => exact hx pins σ H s e s' I hq
  | ok fl =>
    cases fl with
    | ret u => exact I.after hq
    | next => exact False.elim hq
    | brk => exact False.elim hq
    | cont => exact False.elim hq
theorem pe_call (F : FnOk X.prog X.w X.K X.mg X.base CX k f fd ps sp) (hr : Room k X.A) (hg : Gl X x) (hm : X.mg x = some (.ref f)) (hk : PySem.W.keepIn X.K (.ref f) = true) (hb : Binds X.K fd ps ds) (hd : Vals dvs ds) (hx : Passes CX X E)
    (ha : PA X (e :: es) t) (hdb : (x == ("__debug__" : Str)) = false := by decide) (he : starEach (e :: es) X.env = (false, eval e X.env) :: starEach es X.env := by rfl) (hpl : (backTo pos (starEach es X.env)).any (·.1) = false := by rfl) :
    PE X (.Call (.Name x p) (e :: es) [] pos) (tCall sp dvs E t) := by
  intro pins s σ H Q I h
  refine wpAny_Call_Name_kw (ld_glob I hg hm ?_ hdb)
  refine PySem.W.callWith_K (h₀ := X.base) I.ok.mod.kin hk (thn (ha pos pins s σ H _ I h) fun us s1 ⟨vs, H1, I1, r, q⟩ => ⟨I1.kIn, ?_⟩) he hpl
  exact run_fn F hr hb hd hx I1 r q
structure Mk (K : PySem.W.Frag) (C f : Addr) : Prop where
  makes : PySem.W.makesIn K C = true
  init : PySem.W.findIn K (.ref C) "__init__" = some (some (.ref f))
  fn : PySem.W.isFn K (.ref f) = true
  kp : PySem.W.keepIn K (.ref C) = true
end
section
variable {X : Cx} {CX : CXT} {k : Nat} {f C : Addr} {fd : FuncData} {ps ks : List Str} {sp : Sp} {E : XK} {x m : Str} {p pos apos kpos : Pos} {e o : Expr} {es : List Expr} {kws : List Keyword} {te ta : TE} {t tk : TA} {nm : Option Str}
structure KBinds (K : PySem.W.Frag) (fd : FuncData) (ps ks : List Str) (g : List Value → List Value → List Value) (gV : List V → List V → List V) : Prop where
  to : ∀ (s : Shared) (us ws : List Value), K.In s.heap → (g us ws).length = ps.length → BindsTo s fd ⟨us, ks.zip ws⟩ (ps.zip (g us ws))
  rel : ∀ {vs : List V} {us : List Value} {zs : List V} {ws : List Value}, Vals vs us → Vals zs ws → Vals (gV vs zs) (g us ws)
variable {g : List Value → List Value → List Value} {gV : List V → List V → List V}
end
structure FnScope (N P : List Str) (sc : Scope) : Prop where
  kind : sc.kind = .function
  co : sc.isCoroutine = false
  gen : sc.isGenerator = false
  nd : N.Nodup
  pre : N.take P.length = P
  par : ∀ x ∈ P, sc.names.lookup x = some .local ∨ sc.names.lookup x = some .cell
  nofree : ∀ y ∈ sc.names, y.2 ≠ .free
theorem bindL_out {kindOf : Str → Option NameKind} {x : Str} : ∀ {binds : List (Str × Value)} {m : Str → Option Value}, (∀ v, (x, v) ∉ binds) → bindL kindOf binds m x = m x
  | [], _, _ => rfl
  | (n, v) :: r, m, h => by
    unfold bindL
    rw [bindL_out fun w hw => h w (List.mem_cons_of_mem _ hw)]
    split
    · have : x ≠ n := by rintro rfl; exact h v List.mem_cons_self
      simp [this]
    · rfl
theorem bindC_out {kindOf : Str → Option NameKind} {x : Str} : ∀ {binds : List (Str × Value)} {m : Str → Option Value}, (∀ v, (x, v) ∉ binds) → bindC kindOf binds m x = m x
  | [], _, _ => rfl
  | (n, v) :: r, m, h => by
    unfold bindC
    rw [bindC_out fun w hw => h w (List.mem_cons_of_mem _ hw)]
    split
    · rfl
    · have : x ≠ n := by rintro rfl; exact h v List.mem_cons_self
      simp [this]
theorem bindL_get {kindOf : Str → Option NameKind} {x : Str} {v : Value} : ∀ {P : List Str} {vs : List Value} {i : Nat} {m : Str → Option Value}, P.Nodup → P[i]? = some x → vs[i]? = some v → kindOf x = some .local →
    bindL kindOf (P.zip vs) m x = some v
  | [], _, _, _, _, h, _, _ => by simp at h
  | _ :: _, [], _, _, _, _, h, _ => by simp at h
  | p :: P, w :: vs, 0, m, nd, h1, h2, hk => by
    simp at h1 h2; subst h1; subst h2
    show bindL kindOf ((p, w) :: P.zip vs) m p = _
    unfold bindL
    rw [bindL_out fun v hv => (List.nodup_cons.mp nd).1 (List.of_mem_zip hv).1, if_pos hk]
    simp
  | p :: P, w :: vs, i + 1, m, nd, h1, h2, hk => by
    show bindL kindOf ((p, w) :: P.zip vs) m x = _
    unfold bindL
    exact bindL_get (i := i) (List.nodup_cons.mp nd).2 (by simpa using h1) (by simpa using h2) hk
theorem bindC_get {kindOf : Str → Option NameKind} {x : Str} {v : Value} : ∀ {P : List Str} {vs : List Value} {i : Nat} {m : Str → Option Value}, P.Nodup → P[i]? = some x → vs[i]? = some v → kindOf x ≠ some .local →
    bindC kindOf (P.zip vs) m x = some v
  | [], _, _, _, _, h, _, _ => by simp at h
  | _ :: _, [], _, _, _, _, h, _ => by simp at h
  | p :: P, w :: vs, 0, m, nd, h1, h2, hk => by
    simp at h1 h2; subst h1; subst h2
    show bindC kindOf ((p, w) :: P.zip vs) m p = _
    unfold bindC
    rw [bindC_out fun v hv => (List.nodup_cons.mp nd).1 (List.of_mem_zip hv).1, if_neg hk]
    simp
  | p :: P, w :: vs, i + 1, m, nd, h1, h2, hk => by
    show bindC kindOf ((p, w) :: P.zip vs) m x = _
    unfold bindC
    exact bindC_get (i := i) (List.nodup_cons.mp nd).2 (by simpa using h1) (by simpa using h2) hk
noncomputable def start (N : List Str) (vs : List V) : St := vs.map some ++ List.replicate (N.length - vs.length) none
noncomputable def cxOf (CX : CXT) (P : Program) (w : World) (K : PySem.W.Frag) (mg : Str → Option Value) (base : Heap) (N : List Str) (qual : Str) (scope : Scope) (f : Addr) (cd : Value) (A : Around) (outer : List Env) (s : Shared) (H : Hp) (E : XK) : Cx where
  prog := P
  w := w
  K := K
  mg := mg
  base := base
  A := A.deeper (envOfC qual scope s.heap.objs.size f cd)
  N := N
  s₀ := s
  H₀ := H
  env := envOfC qual scope s.heap.objs.size f cd
  outer := outer
  stack := envOfC qual scope s.heap.objs.size f cd :: outer
  ex := []
  calm := true
  fn := fun _ => true
  pn := []
  xe := fun e s' => wpAny (model P w) (A.deeper (envOfC qual scope s.heap.objs.size f cd)) (leaving (envOfC qual scope s.heap.objs.size f cd) e) (fun _ s'' => CX outer H s E e s'') (fun e' s'' => CX outer H s E e' s'') s'
theorem cell_has {sc : Scope} {n : Nat} {x : Str} (h : sc.names.lookup x = some .cell) : ∃ c, (cellsFrom n sc.names []).lookup x = some c := by
  have q := PySem.W.cellsFrom_some sc.names n [] (.inl h)
  exact Option.isSome_iff_exists.mp q
theorem inv_start {CX : CXT} {P : Program} {w : World} {K : PySem.W.Frag} {mg : Str → Option Value} {base : Heap} {N ps : List Str} {qual : Str} {scope : Scope} {f : Addr} {cd : Value} {A : Around} {outer : List Env} {s s1 : Shared} {H : Hp} {E : XK} {us : List Value} {vs : List V}
    (S : FnScope N ps scope) (hd : A.handled = none) (e0 : Env0 P w K mg base A outer s H) (hl : vs.length = ps.length) (r : Vals vs us)
    (x : InCallC s s.heap.objs.size (bindL (envOfC qual scope s.heap.objs.size f cd).kindOf (ps.zip us) fun _ => none) (cellsFrom (s.heap.objs.size + 1) scope.names []) (bindC (envOfC qual scope s.heap.objs.size f cd).kindOf (ps.zip us) fun _ => none) s1) :
    Inv (cxOf CX P w K mg base N qual scope f cd A outer s H E) [] (start N vs) H s1 := by
  have hpl : ps.length ≤ N.length := by have := congrArg List.length S.pre; rw [List.length_take] at this; omega
  obtain ⟨h1, tk, rfl, hk⟩ := x.done
  have noA : ∀ b : Addr, b ∉ (cxOf CX P w K mg base N qual scope f cd A outer s H E).ex := fun b z => absurd (show b ∈ ([] : List Addr) from z) (by simp)
  refine ⟨⟨e0.mod, S.kind, rfl, rfl, Nat.le_refl _, fun y z c h1 h2 => ?_, fun y hy => ?_, fun y c _ h => ?_, fun _ => hd, Around.frames_deeper e0.frames, .inr ⟨rfl, rfl⟩, fun b z => absurd z (noA b), e0.bs, e0.bsz, fun b _ _ => noA b, fun b z => absurd z (noA b), e0.funs, e0.frf⟩,
    rfl, e0.bare, Un.kept hk, ⟨_, x.toInCall.ns, fun i y v h1 h2 h3 => ?_⟩, fun y c h => ⟨_, x.cell y c h⟩, e0.hok.fresh (Nat.le_refl _), fun y c h => ?_, fun p hp => absurd (show p ∈ ([] : List (Addr × Obj)) from hp) (by simp), e0.hok.kept hk, ?_⟩
  · exact name_of_addr x.apart (PySem.mem_of_lookup h1) (PySem.mem_of_lookup h2)
  · have hy : scope.names.lookup y = some .cell ∨ scope.names.lookup y = some .free := hy
    rcases hy with hy | hy
    · exact cell_has hy
    · exact absurd rfl (S.nofree _ (PySem.mem_of_lookup hy))
  · exact Nat.le_of_lt (x.above y c (PySem.mem_of_lookup h))
  · have hi : i < vs.length := by
      unfold start at h2
      by_cases hi : i < vs.length
      · exact hi
      · rw [List.getElem?_append_right (by simpa using hi)] at h2
        rw [List.getElem?_replicate] at h2
        split at h2 <;> cases h2
    have ha : vs[i]? = some v := by
      unfold start at h2
      rw [List.getElem?_append_left (by simpa using hi), List.getElem?_map] at h2
      cases e : vs[i]? with
      | none => rw [e] at h2; cases h2
      | some a => rw [e] at h2; cases h2; rfl
    obtain ⟨u, hu, rv⟩ := r.get ha
    have hp : ps[i]? = some y := by
      rw [← S.pre, List.getElem?_take_of_lt (by omega)]; exact h1
    have ndP : ps.Nodup := by rw [← S.pre]; exact S.nd.sublist (List.take_sublist _ _)
    refine ⟨u, rv, ?_⟩
    rcases S.par y (List.mem_of_getElem? hp) with k | k
    · exact .inl ⟨k, bindL_get ndP hp hu k⟩
    · obtain ⟨c, e⟩ := cell_has (n := s.heap.objs.size + 1) k
      refine .inr ⟨.inl k, c, e, ?_⟩
      have q := x.cell y c e
      rw [bindC_get ndP hp hu (by show scope.names.lookup y ≠ _; rw [k]; decide)] at q
      exact q
  · exact e0.hok.fresh (Nat.le_of_lt (x.above y c (PySem.mem_of_lookup h)))
  · unfold start
    show _ = N.length
    rw [List.length_append, List.length_map, List.length_replicate]
    omega
theorem fn_of {CX : CXT} {P : Program} {w : World} {K : PySem.W.Frag} {mg : Str → Option Value} {base : Heap} {k : Nat} {f : Addr} {name qual : Str} {params : Arguments} {body : List Stmt} {scope : Scope} {dV kV doc pm cdv ct oc : Value} {an od : Option Addr}
    {osl : Array (Option Value)} {N ps : List Str} {sp : Sp} (lk : K.lookup f = some ⟨oc, od, .func (PySem.W.fnOf name qual params body scope dV kV doc pm an cdv ct), osl⟩) (hcd : PySem.W.codeIn K cdv qual = true) (S : FnScope N ps scope)
    (len : ∀ vs H Q E, sp vs H Q E → vs.length = ps.length)
    (hbody : ∀ (A : Around) (outer : List Env) (s : Shared) (H : Hp) (vs : List V) (Q : VK) (E : XK), Room k (A.deeper (envOfC qual scope s.heap.objs.size f cdv)) → sp vs H Q E →
      ∃ t, PSs (cxOf CX P w K mg base N qual scope f cdv A outer s H E) body t ∧ t { nx := fun _ H' => Q .non H', rt := Q } (start N vs) H) :
    FnOk P w K mg base CX (k + 1) f (PySem.W.fnOf name qual params body scope dV kV doc pm an cdv ct) ps sp := by
  refine ⟨len, fun A outer s H args us vs Q E hr e0 hb r hsp => ?_⟩
  have hl := len _ _ _ _ hsp
  have KX : K.In s.heap := e0.mod.kin.keeps fun b o e => (e0.bs b o e).1
  have lim : s.heap.NoLimit := e0.mod.nolimit.keeps fun b o e => (e0.bs b o e).1
  have hkind : ∀ y ∈ ps.zip us, scope.names.lookup y.1 = some .local ∨ (scope.names.lookup y.1 = some .cell ∧ ((cellsFrom (s.heap.objs.size + 1) scope.names []).lookup y.1).isSome = true) := fun ⟨n, v⟩ hy => by
    rcases S.par n (List.of_mem_zip hy).1 with q | q
    · exact .inl q
    · exact .inr ⟨q, PySem.W.cellsFrom_some _ _ _ (.inl q)⟩
  refine codeAny_call_function hr.depth (KX _ _ lk) rfl S.co S.gen rfl (PySem.W.codeRec_of KX hcd) (hb _ _ _ _ ?_)
  refine wpAny_newFunctionEnv_cells S.kind hkind fun env he s1 x => ?_
  subst he
  refine ⟨lim.keeps x.toInCall.keep, codeAny_func ?_⟩
  obtain ⟨t, ht, hq⟩ := hbody A outer s H vs Q E (hr.deeper _) hsp
  have I : Inv (cxOf CX P w K mg base N qual scope f cdv A outer s H E) [] (start N vs) H s1 := inv_start S hr.hd e0 hl r x
  refine wpAny_mono (ht [] s1 (start N vs) H _ I hq) (fun fl s' hs => ?_) fun e s' hs => hs
  have fin : ∀ {σ' : St} {H' : Hp} {v : V} {u : Value}, Inv (cxOf CX P w K mg base N qual scope f cdv A outer s H E) [] σ' H' s' → RelV v u → Q v H' → CE outer P w H s Q u s' :=
    fun {σ' H' v u} J rv q => ⟨v, H', J.os, J.bare, J.base, J.hok, rv, q⟩
  cases fl with
  | ret u =>
    obtain ⟨v, σ', H', J, rv, q⟩ := hs
    exact fin J rv q
  | next =>
    obtain ⟨σ', H', J, q⟩ := hs
    exact fin (v := V.non) (u := Value.none) J rfl q
  | brk =>
    obtain ⟨_, _, _, q⟩ := hs
    exact False.elim q
  | cont =>
    obtain ⟨_, _, _, q⟩ := hs
    exact False.elim q
section
variable {X : Cx} {x : Str} {p pos : Pos} {e : Expr} {es : List Expr} {t : TA} {id T : String} {r : List V → Hp → VK → Prop}
noncomputable def tCB (r : List V → Hp → VK → Prop) (t : TA) : TE := fun σ H Q => t σ H fun vs H1 => r vs H1 Q
theorem pe_callB (hc : CallR X (.builtin id) r) (hg : Gl X x) (hm : X.mg x = none) (hv : bootBuiltins x = some (.builtin id)) (ha : PA X (e :: es) t) (hn : x ≠ "__name__" := by decide) (hdb : (x == ("__debug__" : Str)) = false := by decide)
    (he : starEach (e :: es) X.env = (false, eval e X.env) :: starEach es X.env := by rfl) (hpl : (backTo pos (starEach es X.env)).any (·.1) = false := by rfl) : PE X (.Call (.Name x p) (e :: es) [] pos) (tCB r t) := by
  intro pins s σ H Q I h
  refine wpAny_Call_Name_kw (ld_blt I hg hm hv ?_ hn hdb)
  exact PyProof.Rows.callWith_builtin1 (thn (ha pos pins s σ H _ I h) fun us s1 ⟨vs, H1, I1, r1, q1⟩ => hc pins s1 σ H1 vs us Q I1 r1 q1) he hpl
theorem pe_callTy (hc : CallR X (.type T) r) (hg : Gl X x) (hm : X.mg x = none) (hv : bootBuiltins x = some (.type T)) (ha : PA X (e :: es) t) (hn : x ≠ "__name__" := by decide) (hdb : (x == ("__debug__" : Str)) = false := by decide)
    (he : starEach (e :: es) X.env = (false, eval e X.env) :: starEach es X.env := by rfl) (hpl : (backTo pos (starEach es X.env)).any (·.1) = false := by rfl) : PE X (.Call (.Name x p) (e :: es) [] pos) (tCB r t) := by
  intro pins s σ H Q I h
  refine wpAny_Call_Name_kw (ld_blt I hg hm hv ?_ hn hdb)
  exact PyProof.Rows.callWith_type1 (thn (ha pos pins s σ H _ I h) fun us s1 ⟨vs, H1, I1, r1, q1⟩ => hc pins s1 σ H1 vs us Q I1 r1 q1) he hpl
end
end L2
namespace HT
open PySem PyProof.Rows
section
open PySem.SeqAt
open PySem.AutoSeq1 (wpAny_loadPart')
open PySem.MeetsSeq PySem.MeetsSeq2 PySem.MeetsSeq3
end
section
variable {prog : Program} {w : World} {A : Around} {E : Value → Shared → Prop} {s : Shared}
noncomputable def sIx (n d : Nat) : Option Int → Nat
  | none => d
  | some v => if v < 0 then (v + (n : Int)).toNat else min v.toNat n
theorem sIx_nat (n d k : Nat) : sIx n d (some (k : Int)) = min k n := by
  show (if (k : Int) < 0 then ((k : Int) + (n : Int)).toNat else min (k : Int).toNat n) = min k n
  rw [if_neg (by omega), Int.toNat_natCast]
end
end HT
namespace L2
open PySem PySem.Spec PyProof.Rows
abbrev TO := St → Hp → (Option Int → Hp → Prop) → Prop
noncomputable def PO (X : Cx) (e : Option Expr) (t : TO) : Prop :=
  ∀ (pins : List (Addr × Obj)) (s : Shared) (σ : St) (H : Hp) (Q : Option Int → Hp → Prop), Inv X pins σ H s → t σ H Q →
    wpAny (model X.prog X.w) X.A (evalPart e X.env) (fun u s' => ∃ o H', Inv X pins σ H' s' ∧ IsPart u o ∧ Q o H') X.xe s
noncomputable def tNoPart : TO := fun _ H Q => Q none H
noncomputable def tPart (t : TE) : TO := fun σ H Q => t σ H fun x H1 => ∃ i, x = .int i ∧ Q (some i) H1
theorem intsAre_of {ns : List Int} : ∀ {us : List Value}, Vals (ns.map V.int) us → IntsAre us ns := by
  induction ns with
  | nil => intro us r; rw [List.map_nil] at r; cases r; exact .nil
  | cons n ns ih =>
    intro us r
    rw [List.map_cons] at r
    cases r with
    | cons r1 r2 =>
      obtain ⟨t, e⟩ := r1
      subst e
      exact .cons n t (ih r2)
section
variable {X : Cx} {e : Expr} {te : TE} {lo hi : Option Expr} {tl th : TO} {pos p2 : Pos}
theorem po_none : PO X none tNoPart := by
  intro pins s σ H Q I h
  rw [evalPart_none]
  exact wpAny_pure ⟨none, H, I, .none, h⟩
theorem po_some (h : PE X e te) : PO X (some e) (tPart te) := by
  intro pins s σ H Q I hw
  rw [evalPart_some]
  refine thn (h pins s σ H _ I hw) fun u s1 ⟨x, H1, I1, r1, q1⟩ => ?_
  obtain ⟨i, rfl, q⟩ := q1
  obtain ⟨t, rfl⟩ := r1
  exact ⟨some i, H1, I1, .int i t, q⟩
noncomputable def SlR (X : Cx) (r : V → Option Int → Option Int → Hp → VK → Prop) : Prop :=
  ∀ (pins : List (Addr × Obj)) (s : Shared) (σ : St) (H : Hp) (x : V) (v vl vu : Value) (lo hi : Option Int) (sl : Addr) (Q : VK), Inv X pins σ H s → RelV x v → s.heap.IsSliceOf sl vl vu .none → IsPart vl lo → IsPart vu hi → r x lo hi H Q →
    ∃ T id, typeLookup (.type T) "__getitem__" = pure (some (.builtin id)) ∧ s.TypeIs v T ∧ wpAny (model X.prog X.w) X.A (getItem v (.ref sl)) (EP X pins σ Q) X.xe s
theorem SlR.or {r r' : V → Option Int → Option Int → Hp → VK → Prop} (h : SlR X r) (h' : SlR X r') : SlR X (fun x lo hi H Q => r x lo hi H Q ∨ r' x lo hi H Q) := by
  intro pins s σ H x v vl vu lo hi sl Q I rx hs pl pu q
  rcases q with q | q
  · exact h pins s σ H x v vl vu lo hi sl Q I rx hs pl pu q
  · exact h' pins s σ H x v vl vu lo hi sl Q I rx hs pl pu q
noncomputable def tSl (r : V → Option Int → Option Int → Hp → VK → Prop) (te : TE) (tl th : TO) : TE := fun σ H Q => te σ H fun x H1 => tl σ H1 fun l H2 => th σ H2 fun u H3 => r x l u H3 Q
theorem pe_slice {r : V → Option Int → Option Int → Hp → VK → Prop} (hr : SlR X r) (he : PE X e te) (hl : PO X lo tl) (hu : PO X hi th) : PE X (.Subscript e (.Slice lo hi none p2) pos) (tSl r te tl th) := by
  intro pins s σ H Q I h
  refine Subscript_ (thn (he pins s σ H _ I h) fun v s1 ⟨x, H1, I1, r1, q1⟩ => ?_)
  refine wpAny_Slice (thn (hl pins s1 σ H1 _ I1 q1) fun vl s2 ⟨l, H2, I2, pl, q2⟩ => thn (hu pins s2 σ H2 _ I2 q2) fun vu s3 ⟨u, H3, I3, pu, q3⟩ => ?_)
  rw [evalPart_none]
  refine wpAny_pure ?_
  have I4 : Inv X pins σ H3 { s3 with heap := s3.heap.push { cls := .type "slice", data := .fields #[vl, vu, .none] } } := I3.kept (t' := s3.toks) fun b ob q => Heap.get?_push_of_some _ q
  obtain ⟨T, id, hT, ht, hg⟩ := hr pins { s3 with heap := s3.heap.push { cls := .type "slice", data := .fields #[vl, vu, .none] } } σ H3 x v vl vu l u s3.heap.objs.size Q I4 r1 (Heap.IsSliceOf.new ..) pl pu q3
  show wpAny (model X.prog X.w) X.A (subscriptTail e (.Slice lo hi none p2) v (.ref s3.heap.objs.size)) (EP X pins σ Q) X.xe { s3 with heap := s3.heap.push { cls := .type "slice", data := .fields #[vl, vu, .none] } }
  exact tail_any (ops := [.ref s3.heap.objs.size, v]) ht hT hg (by with_unfolding_all rfl)
noncomputable def cutV (xs : List V) (lo hi : Option Int) : List V := (xs.drop (HT.sIx xs.length 0 lo)).take (HT.sIx xs.length xs.length hi - HT.sIx xs.length 0 lo)
theorem cutV_length (xs : List V) (lo hi : Option Int) : (cutV xs lo hi).length ≤ xs.length := by
  unfold cutV
  rw [List.length_take, List.length_drop]
  omega
end
noncomputable def ixN (n : Nat) (i : Int) : Option Nat := if 0 ≤ i then (if i < n then some i.toNat else none) else if -(n : Int) ≤ i then some (i + n).toNat else none
noncomputable def atI {α : Type} (xs : List α) (i : Int) : Option α := (ixN xs.length i).bind fun j => xs[j]?
theorem ixN_seq {n : Nat} {i : Int} {j : Nat} (h : ixN n i = some j) : seqIndex? i n = some j ∧ j < n ∧ -(n : Int) ≤ i ∧ i < n := by
  unfold ixN at h
  by_cases h0 : 0 ≤ i
  · rw [if_pos h0] at h
    by_cases h1 : i < n
    · rw [if_pos h1] at h
      have e : i.toNat = j := Option.some.inj h
      exact ⟨by rw [seqIndex_of h0 h1, e], by omega, by omega, h1⟩
    · rw [if_neg h1] at h; cases h
  · rw [if_neg h0] at h
    by_cases h1 : -(n : Int) ≤ i
    · rw [if_pos h1] at h
      have e : (i + n).toNat = j := Option.some.inj h
      exact ⟨by rw [seqIndex_neg (by omega) h1, e], by omega, h1, by omega⟩
    · rw [if_neg h1] at h; cases h
theorem atI_get {α : Type} {xs : List α} {i : Int} {v : α} (h : atI xs i = some v) : ∃ j, seqIndex? i xs.length = some j ∧ xs[j]? = some v ∧ j < xs.length ∧ -(xs.length : Int) ≤ i ∧ i < xs.length := by
  unfold atI at h
  cases e : ixN xs.length i with
  | none => rw [e] at h; cases h
  | some j =>
    rw [e] at h
    obtain ⟨h1, h2, h3, h4⟩ := ixN_seq e
    exact ⟨j, h1, h, h2, h3, h4⟩
theorem atI_nat {α : Type} {xs : List α} {j : Nat} {v : α} (h : xs[j]? = some v) : atI xs (j : Int) = some v := by
  have hj : j < xs.length := (List.getElem?_eq_some_iff.mp h).1
  have e : ixN xs.length (j : Int) = some j := by
    unfold ixN
    rw [if_pos (by omega), if_pos (by omega)]; simp
  unfold atI; rw [e]; exact h
noncomputable def PlainIx (b : Expr) : Prop := ∀ o i, subscripted b false o i = operate [o, i] (getItem o i)
noncomputable def IxR (X : Cx) (r : R2) : Prop :=
  ∀ (value slice : Expr) (pins : List (Addr × Obj)) (s : Shared) (σ : St) (H : Hp) (x y : V) (v u : Value) (Q : VK), Inv X pins σ H s → RelV x v → RelV y u → r x y H Q →
    subscripted slice false v u = operate [v, u] (getItem v u) → wpAny (model X.prog X.w) X.A (subscriptTail value slice v u) (EP X pins σ Q) X.xe s
noncomputable def MtR (X : Cx) (id : String) (r : V → List V → Hp → VK → Prop) : Prop :=
  ∀ (pins : List (Addr × Obj)) (s : Shared) (σ : St) (H : Hp) (x : V) (xs : List V) (v : Value) (us : List Value) (Q : VK), Inv X pins σ H s → RelV x v → Vals xs us → r x xs H Q →
    wpAny (model X.prog X.w) X.A (call (.builtin id) (v :: us)) (EP X pins σ Q) X.xe s
section
variable {X : Cx} {a b : Expr} {ta tb : TE} {pos : Pos}
theorem IxR.or {r r' : R2} (h : IxR X r) (h' : IxR X r') : IxR X (fun x y H Q => r x y H Q ∨ r' x y H Q) := by
  intro value slice pins s σ H x y v u Q I rx ry q hs
  rcases q with q | q
  · exact h value slice pins s σ H x y v u Q I rx ry q hs
  · exact h' value slice pins s σ H x y v u Q I rx ry q hs
theorem MtR.or {id : String} {r r' : V → List V → Hp → VK → Prop} (h : MtR X id r) (h' : MtR X id r') : MtR X id (fun x xs H Q => r x xs H Q ∨ r' x xs H Q) := by
  intro pins s σ H x xs v us Q I rx rs q
  rcases q with q | q
  · exact h pins s σ H x xs v us Q I rx rs q
  · exact h' pins s σ H x xs v us Q I rx rs q
theorem pe_ix {r : R2} (hr : IxR X r) (ha : PE X a ta) (hb : PE X b tb) (hs : PlainIx b) : PE X (.Subscript a b pos) (tOp r ta tb) := by
  intro pins s σ H Q I h
  exact Subscript_ (binT ha hb I h fun v u s2 x y H2 I2 rx ry q => hr a b pins s2 σ H2 x y v u Q I2 rx ry q (hs _ _))
noncomputable def rIxL (K : PySem.W.Frag) : R2 := fun x y H Q => ∃ p xs i v, x = .ref p ∧ y = .int i ∧ SqL K H p xs ∧ atI xs i = some v ∧ Q v H
noncomputable def rIxT (K : PySem.W.Frag) : R2 := fun x y H Q => ∃ p xs i v, x = .ref p ∧ y = .int i ∧ SqT K H p xs ∧ atI xs i = some v ∧ Q v H
noncomputable def rIxS : R2 := fun x y H Q => ∃ z i c, x = .str z ∧ y = .int i ∧ z.length ≤ sizeLine ∧ atI z.cps.toList i = some c ∧ Q (.str ⟨#[c]⟩) H
theorem ix_list : IxR X (rIxL X.K) := by
  intro value slice pins s σ H x y v u Q I rx ry h hs
  obtain ⟨p, xs, i, z, rfl, rfl, hq, he, q⟩ := h
  cases rx
  obtain ⟨t, rfl⟩ := ry
  obtain ⟨its, r, pl, hz⟩ := I.list hq
  obtain ⟨j, h1, h2, h3, h4, h5⟩ := atI_get he
  obtain ⟨w, ew, rw'⟩ := r.get h2
  have hl := r.length
  have hn := line63
  have fin : EP X pins σ Q w s := ⟨z, H, I, rw', q⟩
  by_cases h0 : 0 ≤ i
  · have hj : i.toNat = j := by
      rw [seqIndex_of h0 h5] at h1
      exact Option.some.inj h1
    exact item_listR pl.isList h0 (by omega) (by rw [hj]; simpa using ew) fin hs
  · have hj : (i + (its.toArray.size : Int)).toNat = j := by
      rw [seqIndex_neg (by omega) h4] at h1
      rw [List.size_toArray, ← hl]
      exact Option.some.inj h1
    exact subscriptTail_builtinR (x := w) pl.isList.typeIs slot_list_getitem.lookup
      (wpAny_getItem_list_neg (Q := fun r s' => r = w ∧ EP X pins σ Q r s') pl.isList (by omega) (by rw [List.size_toArray] <;> omega) (by omega) (by rw [hj]; simpa using ew) ⟨rfl, fin⟩) hs
theorem ix_tup : IxR X (rIxT X.K) := by
  intro value slice pins s σ H x y v u Q I rx ry h hs
  obtain ⟨p, xs, i, z, rfl, rfl, hq, he, q⟩ := h
  cases rx
  obtain ⟨t, rfl⟩ := ry
  obtain ⟨its, r, pl, hz⟩ := I.tuple hq
  obtain ⟨j, h1, h2, h3, h4, h5⟩ := atI_get he
  obtain ⟨w, ew, rw'⟩ := r.get h2
  have hl := r.length
  have hn := line63
  have fin : EP X pins σ Q w s := ⟨z, H, I, rw', q⟩
  exact subscriptTail_builtinR (x := w) pl.typeIs slot_tuple_getitem.lookup
    (getItem_tuple (j := j) (Q := fun r s' => r = w ∧ EP X pins σ Q r s') pl (by omega) (by omega) (by rw [List.size_toArray, ← hl]; exact h1) (by simpa using ew) ⟨rfl, fin⟩) hs
theorem ix_str : IxR X rIxS := by
  intro value slice pins s σ H x y v u Q I rx ry h hs
  obtain ⟨z, i, c, rfl, rfl, hz, he, q⟩ := h
  obtain ⟨t, rfl⟩ := rx
  obtain ⟨t', rfl⟩ := ry
  obtain ⟨j, h1, h2, h3, h4, h5⟩ := atI_get he
  have hl : z.cps.toList.length = z.length := by simp [Str.length]
  rw [hl] at h1 h4 h5
  have hn := line63
  exact tail_any (typeIs_str s z t) slot_str_getitem.lookup (getItem_str (c := c) (by
    have e1 : decide (i < -(2 ^ 63 : Int)) = false := decide_eq_false (by omega)
    have e2 : decide (i ≥ 2 ^ 63) = false := decide_eq_false (by omega)
    rw [e1, e2, Bool.or_false]) (by rw [h1]; simpa using h2) ⟨.str ⟨#[c]⟩, H, I.tok _, ⟨_, rfl⟩, q⟩) hs
theorem mapSeq_set (its : List Value) (n j : Nat) (u : Value) : Obj.mapSeq (·.setIfInBounds j u) { cls := .type "list", data := .seq its.toArray n } = { cls := .type "list", data := .seq (its.set j u).toArray n } := by
  simp [Obj.mapSeq]
theorem Inv.lst {pins : List (Addr × Obj)} {σ : St} {H : Hp} {s : Shared} {p : Addr} {xs : List V} (I : Inv X pins σ H s) (h : H p = some (.lst xs)) :
    ∃ (its : List Value) (n : Nat), Vals xs its ∧ s.heap.get? p = some { cls := .type "list", data := .seq its.toArray n } ∧ xs.length ≤ sizeLine := by
  obtain ⟨z, its, n, r, e⟩ := I.hok p _ h
  exact ⟨its, n, r, e, z⟩
theorem Inv.lstUpd {pins : List (Addr × Obj)} {σ : St} {H : Hp} {s : Shared} {p : Addr} {xs ys : List V} {its its' : List Value} {n n' : Nat} {f : Obj → Obj} (I : Inv X pins σ H s) (h : H p = some (.lst xs))
    (ho : s.heap.get? p = some { cls := .type "list", data := .seq its.toArray n }) (hf : f { cls := .type "list", data := .seq its.toArray n } = { cls := .type "list", data := .seq its'.toArray n' }) (r : Vals ys its') (hz : ys.length ≤ sizeLine) (t : Nat) :
    Inv X pins σ (upd H p (.lst ys)) { s with heap := s.heap.update p f, toks := t } := by
  have e : (s.heap.update p f).get? p = some { cls := .type "list", data := .seq its'.toArray n' } := by
    rw [Heap.get?_update_self f ho (by rw [hf] <;> rfl), hf]
  refine I.write (x := p) (e := p) (by rw [h]; trivial) (.inl rfl) (fun b u hb q => (Heap.get?_update_other _ _ (Ne.symm hb)).trans q) ⟨_, e⟩ ?_
  exact ⟨hz, its', n', r, e⟩
noncomputable def rSetL : V → V → V → Hp → (Hp → Prop) → Prop := fun o i v H Q => ∃ p xs k j, o = .ref p ∧ i = .int k ∧ H p = some (.lst xs) ∧ ixN xs.length k = some j ∧ Q (upd H p (.lst (xs.set j v)))
theorem set_list : PSet X rSetL := by
  intro pins s σ H o i v ov iv u Q I ro ri rv h
  obtain ⟨p, xs, k, j, rfl, rfl, hp, hj, q⟩ := h
  cases ro
  obtain ⟨t, rfl⟩ := ri
  obtain ⟨its, n, r, ho, hz⟩ := I.lst hp
  obtain ⟨h1, h2, h3, h4⟩ := ixN_seq hj
  have hl := r.length
  have hn := line63
  have I' : Inv X pins σ (upd H p (.lst (xs.set j v))) { s with heap := s.heap.update p (Obj.mapSeq (·.setIfInBounds j u)) } :=
    I.lstUpd hp ho (mapSeq_set its n j u) (r.set rv j) (by rw [List.length_set]; exact hz) s.toks
  by_cases h0 : 0 ≤ k
  · have hk : k.toNat = j := by
      rw [seqIndex_of h0 h4] at h1
      exact Option.some.inj h1
    exact PySem.W.ki_setAt ho h0 (by omega) (by rw [List.size_toArray, ← hl]; exact h4) (by rw [hk]; exact ⟨_, I', q⟩)
  · have hk : (k + (its.toArray.size : Int)).toNat = j := by
      rw [seqIndex_neg (by omega) h3] at h1
      rw [List.size_toArray, ← hl]
      exact Option.some.inj h1
    exact PySem.W.ki_setBack ho (by omega) (by rw [List.size_toArray, ← hl]; exact h3) (by omega) (by rw [hk]; exact ⟨_, I', q⟩)
theorem slice_bounds (lo hi : Option Int) (n : Nat) : (sliceBounds lo hi none n).1 = ((HT.sIx n 0 lo : Nat) : Int) ∧ (sliceBounds lo hi none n).2.1 = ((HT.sIx n n hi : Nat) : Int) ∧ (sliceBounds lo hi none n).2.2 = 1 := by
  refine ⟨?_, ?_, rfl⟩
  · cases lo with
    | none => simp [sliceBounds, HT.sIx]
    | some i =>
      simp only [sliceBounds, HT.sIx, Option.getD_none, show (1 : Int) > 0 by decide, if_true]
      by_cases h : i < 0
      · simp only [h, if_true] <;> omega
      · simp only [h, if_false] <;> omega
  · cases hi with
    | none => simp [sliceBounds, HT.sIx]
    | some i =>
      simp only [sliceBounds, HT.sIx, Option.getD_none, show (1 : Int) > 0 by decide, if_true]
      by_cases h : i < 0
      · simp only [h, if_true] <;> omega
      · simp only [h, if_false] <;> omega
theorem slicePick_cut (its : List Value) (lo hi : Option Int) : slicePick its.toArray lo hi none = ((its.drop (HT.sIx its.length 0 lo)).take (HT.sIx its.length its.length hi - HT.sIx its.length 0 lo)).toArray := by
  obtain ⟨h1, h2, h3⟩ := slice_bounds lo hi its.toArray.size
  unfold slicePick
  rw [h1, h2, h3]
  simp only [sliceRange_one, pick_run, List.size_toArray] <;> rfl
noncomputable def rSlL (K : PySem.W.Frag) : V → Option Int → Option Int → Hp → VK → Prop := fun x lo hi H Q => ∃ a xs, x = .ref a ∧ SqL K H a xs ∧ ∀ p, H p = none → Q (.ref p) (upd H p (.lst (cutV xs lo hi)))
theorem sl_list : SlR X (rSlL X.K) := by
  intro pins s σ H x v vl vu lo hi sl Q I rx hs pl pu h
  obtain ⟨a, xs, rfl, hx, q⟩ := h
  cases rx
  obtain ⟨its, r, ht, hz⟩ := I.list hx
  have hlen := r.length
  refine ⟨"list", _, slot_list_getitem.lookup, ht.isList.typeIs, ?_⟩
  refine wpAny_getItem_list_slice ht.isList hs pl pu .none (by simp) ?_ (by rw [List.size_toArray] <;> omega)
  rw [slicePick_cut, ← hlen]
  refine ⟨.ref s.heap.objs.size, _, I.laid (t' := s.toks) (o := .lst (cutV xs lo hi)) (fun b ob q => Heap.get?_push_of_some _ q) (Nat.le_refl _) ?_, rfl, q _ (I.hok.fresh (Nat.le_refl _))⟩
  exact ⟨Nat.le_trans (cutV_length xs lo hi) hz, _, 0, (r.drop (HT.sIx xs.length 0 lo)).take (HT.sIx xs.length xs.length hi - HT.sIx xs.length 0 lo), Heap.get?_push_size _ rfl⟩
noncomputable def flatV : V → Bool
  | .non => true
  | .bl _ => true
  | .int _ => true
  | .str _ => true
  | _ => false
noncomputable def eqV : V → V → Bool
  | .non, .non => true
  | .bl a, .bl b => a == b
  | .bl a, .int b => (if a then 1 else 0) == b
  | .int a, .bl b => a == (if b then 1 else 0)
  | .int a, .int b => a == b
  | .str a, .str b => a == b
  | _, _ => false
theorem eqAt_V {A : Around} {s : Shared} {y x : V} {u v : Value} (ry : RelV y u) (rx : RelV x v) (fy : flatV y = true) (fx : flatV x = true) : SeqAt.EqAt A s u v (eqV y x) := by
  cases y with
  | non =>
    cases ry
    cases x with
    | non => cases rx; exact SeqAt.EqAt.same _
    | bl b => cases rx; exact SeqAt.EqAt.none_bool b
    | int b => obtain ⟨t, rfl⟩ := rx; exact SeqAt.EqAt.none_int b t
    | str b => obtain ⟨t, rfl⟩ := rx; exact SeqAt.EqAt.none_str b t
    | _ => exact absurd (show false = true from fx) Bool.false_ne_true
  | bl a =>
    cases ry
    cases x with
    | non => cases rx; exact SeqAt.EqAt.bool_none a
    | bl b => cases rx; exact SeqAt.EqAt.bool_bool a b
    | int b => obtain ⟨t, rfl⟩ := rx; exact SeqAt.EqAt.bool_int a b t
    | str b => obtain ⟨t, rfl⟩ := rx; exact SeqAt.EqAt.bool_str a b t
    | _ => exact absurd (show false = true from fx) Bool.false_ne_true
  | int a =>
    obtain ⟨t', rfl⟩ := ry
    cases x with
    | non => cases rx; exact SeqAt.EqAt.int_none a t'
    | bl b => cases rx; exact SeqAt.EqAt.int_bool a t' b
    | int b => obtain ⟨t, rfl⟩ := rx; exact SeqAt.EqAt.int_int a t' b t
    | str b => obtain ⟨t, rfl⟩ := rx; exact SeqAt.EqAt.int_str a t' b t
    | _ => exact absurd (show false = true from fx) Bool.false_ne_true
  | str a =>
    obtain ⟨t', rfl⟩ := ry
    cases x with
    | non => cases rx; exact SeqAt.EqAt.str_none a t'
    | bl b => cases rx; exact SeqAt.EqAt.str_bool a t' b
    | int b => obtain ⟨t, rfl⟩ := rx; exact SeqAt.EqAt.str_int a t' b t
    | str b => obtain ⟨t, rfl⟩ := rx; exact SeqAt.EqAt.str_str a t' b t
    | _ => exact absurd (show false = true from fx) Bool.false_ne_true
  | _ => exact absurd (show false = true from fy) Bool.false_ne_true
noncomputable def eqU (x : V) (u : Value) : Bool := match u with
  | .none => eqV .non x
  | .bool b => eqV (.bl b) x
  | .int i _ => eqV (.int i) x
  | .str z _ => eqV (.str z) x
  | _ => false
theorem eqU_of {x y : V} {u : Value} (r : RelV y u) (f : flatV y = true) : eqU x u = eqV y x := by
  cases y with
  | non => cases r; rfl
  | bl b => cases r; rfl
  | int i => obtain ⟨t, rfl⟩ := r; rfl
  | str z => obtain ⟨t, rfl⟩ := r; rfl
  | _ => exact absurd (show false = true from f) Bool.false_ne_true
theorem any_eqU {x : V} : ∀ {xs : List V} {us : List Value}, Vals xs us → xs.all flatV = true → us.any (eqU x) = xs.any fun y => eqV y x
  | _, _, .nil, _ => rfl
  | y :: xs, u :: us, .cons r t, f => by
    rw [List.all_cons, Bool.and_eq_true] at f
    rw [List.any_cons, List.any_cons, eqU_of r f.1, any_eqU t f.2]
theorem mem_eqAt {A : Around} {s : Shared} {x : V} {v : Value} (rx : RelV x v) (fx : flatV x = true) : ∀ {xs : List V} {us : List Value}, Vals xs us → xs.all flatV = true → ∀ u ∈ us, SeqAt.EqAt A s u v (eqU x u)
  | _, _, .nil, _ => fun u hu => by cases hu
  | y :: xs, u :: us, .cons r t, f => fun u' hu => by
    rw [List.all_cons, Bool.and_eq_true] at f
    rcases List.mem_cons.mp hu with rfl | hu
    · rw [eqU_of r f.1]; exact eqAt_V r rx f.1 fx
    · exact mem_eqAt rx fx t f.2 u' hu
noncomputable def inV (x : V) (xs : List V) : Bool := xs.any fun y => eqV y x
noncomputable def rIn (K : PySem.W.Frag) (neg : Bool) : R2 := fun x y H Q => ∃ p xs, y = .ref p ∧ (SqL K H p xs ∨ SqT K H p xs) ∧ flatV x = true ∧ xs.all flatV = true ∧ Q (.bl (if neg then !inV x xs else inV x xs)) H
theorem op_in_seq : OpR X (compareOp .In) (rIn X.K false) := by
  intro pins s σ H x y v u Q I rx ry h
  obtain ⟨p, xs, rfl, hq, fx, fs, q⟩ := h
  cases ry
  rcases hq with hq | hq
  · obtain ⟨its, r, pl, hz⟩ := I.list hq
    refine SeqAt.in_listAt (eqU x) pl.isList (fun w hw => mem_eqAt rx fx r fs w (by simpa using hw)) ⟨.bl _, H, I, rfl, ?_⟩
    rw [show its.toArray.any (eqU x) = its.any (eqU x) by simp, any_eqU r fs]
    exact q
  · obtain ⟨its, r, pl, hz⟩ := I.tuple hq
    refine SeqAt.in_tupleAt (eqU x) pl (fun w hw => mem_eqAt rx fx r fs w (by simpa using hw)) ⟨.bl _, H, I, rfl, ?_⟩
    rw [show its.toArray.any (eqU x) = its.any (eqU x) by simp, any_eqU r fs]
    exact q
theorem op_notIn_seq : OpR X (compareOp .NotIn) (rIn X.K true) := by
  intro pins s σ H x y v u Q I rx ry h
  obtain ⟨p, xs, rfl, hq, fx, fs, q⟩ := h
  cases ry
  rcases hq with hq | hq
  · obtain ⟨its, r, pl, hz⟩ := I.list hq
    refine SeqAt.notIn_listAt (eqU x) pl.isList (fun w hw => mem_eqAt rx fx r fs w (by simpa using hw)) ⟨.bl _, H, I, rfl, ?_⟩
    rw [show its.toArray.any (eqU x) = its.any (eqU x) by simp, any_eqU r fs]
    exact q
  · obtain ⟨its, r, pl, hz⟩ := I.tuple hq
    refine SeqAt.notIn_tupleAt (eqU x) pl (fun w hw => mem_eqAt rx fx r fs w (by simpa using hw)) ⟨.bl _, H, I, rfl, ?_⟩
    rw [show its.toArray.any (eqU x) = its.any (eqU x) by simp, any_eqU r fs]
    exact q
theorem call_len_seq : CallR X (.builtin "len") (fun xs H Q => ∃ p ys, xs = [.ref p] ∧ (SqL X.K H p ys ∨ SqT X.K H p ys) ∧ Q (.int ys.length) H) := by
  intro pins s σ H xs us Q I r h
  obtain ⟨p, ys, rfl, hq, q⟩ := h
  obtain ⟨u, rfl, rx⟩ := vals1 r
  cases rx
  have hn := line63
  rcases hq with hq | hq
  · obtain ⟨its, r', pl, hz⟩ := I.list hq
    have hlen := r'.length
    exact Calls.call_len_list pl.isList (by simp only [List.size_toArray] <;> omega) ⟨.int ys.length, H, I.tok _, ⟨s.toks + 1, by rw [List.size_toArray, hlen]⟩, q⟩
  · obtain ⟨its, r', pl, hz⟩ := I.tuple hq
    have hlen := r'.length
    exact len_tuple pl (by simp only [List.size_toArray] <;> omega) ⟨.int ys.length, H, I.tok _, ⟨s.toks + 1, by rw [List.size_toArray, hlen]⟩, q⟩
theorem call_len_str : CallR X (.builtin "len") (fun xs H Q => ∃ z, xs = [.str z] ∧ z.length ≤ sizeLine ∧ Q (.int z.length) H) := by
  intro pins s σ H xs us Q I r h
  obtain ⟨z, rfl, hz, q⟩ := h
  obtain ⟨u, rfl, t, rfl⟩ := vals1 r
  have hn := line63
  exact len_str (by omega) ⟨.int z.length, H, I.tok _, ⟨_, rfl⟩, q⟩
theorem CallR.or {f : Value} {r r' : List V → Hp → VK → Prop} (h : CallR X f r) (h' : CallR X f r') : CallR X f (fun xs H Q => r xs H Q ∨ r' xs H Q) := by
  intro pins s σ H xs us Q I rs q
  rcases q with q | q
  · exact h pins s σ H xs us Q I rs q
  · exact h' pins s σ H xs us Q I rs q
noncomputable def tyV (K : PySem.W.Frag) (T : String) (x : V) (H : Hp) : Prop := match x with
  | .str _ => T = "str"
  | .int _ => T = "int"
  | .ref p => (T = "list" ∧ ∃ xs, SqL K H p xs) ∨ (T = "tuple" ∧ ∃ o, K.lookup p = some o ∧ o.cls = .type "tuple" ∧ o.dict = none) ∨
      (T = "dict" ∧ ((∃ kvs, H p = some (.dK kvs)) ∨ ∃ kvs, H p = some (.dT kvs))) ∨ (T = "set" ∧ ∃ S n, H p = some (.set S n))
  | _ => False
theorem tyV_is {pins : List (Addr × Obj)} {σ : St} {H : Hp} {s : Shared} {T : String} {x : V} {v : Value} (I : Inv X pins σ H s) (r : RelV x v) (ty : tyV X.K T x H) :
    s.TypeIs v T ∧ ∀ a, v = .ref a → ∃ ob, s.heap.get? a = some ob ∧ ob.dict = none := by
  cases x with
  | str z =>
    obtain ⟨t, rfl⟩ := r
    cases (show T = "str" from ty)
    exact ⟨typeIs_str s z t, fun _ e => nomatch e⟩
  | int i =>
    obtain ⟨t, rfl⟩ := r
    cases (show T = "int" from ty)
    exact ⟨typeIs_int s i t, fun _ e => nomatch e⟩
  | ref p =>
    cases r
    rcases ty with ⟨rfl, xs, hq⟩ | ⟨rfl, o, hk, hc, hd⟩ | ⟨rfl, hk⟩ | ⟨rfl, S, n, hk⟩
    · obtain ⟨its, _, pl, _⟩ := I.list hq
      refine ⟨pl.isList.typeIs, fun a e => ?_⟩
      cases e
      obtain ⟨o, n, e, c, hd, _⟩ := pl
      exact ⟨o, e, hd⟩
    · refine ⟨⟨o, I.kIn p o hk, hc⟩, fun a e => ?_⟩
      cases e
      exact ⟨o, I.kIn _ o hk, hd⟩
    · have z : ∃ o, s.heap.get? p = some o ∧ o.ExactDict := by
        rcases hk with ⟨kvs, hk⟩ | ⟨kvs, hk⟩
        · obtain ⟨_, _, _, _, o, _, _, e, ex, _⟩ := I.hok p _ hk
          exact ⟨o, e, ex⟩
        · obtain ⟨_, _, _, _, o, _, _, e, ex, _⟩ := I.hok p _ hk
          exact ⟨o, e, ex⟩
      obtain ⟨o, e, ex⟩ := z
      refine ⟨⟨o, e, ex.1⟩, fun a e2 => ?_⟩
      cases e2
      exact ⟨o, e, ex.2.1⟩
    · obtain ⟨o, _, _, _, e, ex, _⟩ := I.hok p _ hk
      refine ⟨⟨o, e, ex.1⟩, fun a e2 => ?_⟩
      cases e2
      exact ⟨o, e, ex.2.1⟩
  | _ => exact False.elim ty
noncomputable def tBM0 (K : PySem.W.Frag) (T : String) (r : V → List V → Hp → VK → Prop) (to : TE) : TE := fun σ H Q => to σ H fun x H1 => tyV K T x H1 ∧ r x [] H1 Q
noncomputable def tBM (K : PySem.W.Frag) (T : String) (r : V → List V → Hp → VK → Prop) (to : TE) (t : TA) : TE := fun σ H Q => to σ H fun x H1 => tyV K T x H1 ∧ t σ H1 fun xs H2 => r x xs H2 Q
variable {o e : Expr} {es : List Expr} {to : TE} {t : TA} {name : Str} {apos cpos : Pos} {T id : String} {r : V → List V → Hp → VK → Prop}
theorem pe_bm0 (pa : PlainAttrs T) (slot : Slot T name id) (hty : typeOf (.builtin id) = pure (.type "method_descriptor")) (hm : MtR X id r) (ho : PE X o to)
    (hbase : attributeBase o name X.env (eval o X.env) = eval o X.env := by rfl) (hline : (apos.endLine == cpos.line) = true := by rfl) : PE X (.Call (.Attribute o name apos) [] [] cpos) (tBM0 X.K T r to) := by
  intro pins s σ H Q I h
  refine wpAny_Call_method0_late hbase hline (thn (ho pins s σ H _ I h) fun v s1 ⟨x, H1, I1, r1, ty, q1⟩ => ?_)
  obtain ⟨h1, h2⟩ := tyV_is I1 r1 ty
  exact ⟨T, id, pa, slot, hty, h1, h2, Calls.callWith_builtin rfl (PySem.evalArgs_none (hm pins s1 σ H1 x [] v [] Q I1 r1 .nil q1))⟩
theorem pe_bm (pa : PlainAttrs T) (slot : Slot T name id) (hty : typeOf (.builtin id) = pure (.type "method_descriptor")) (hm : MtR X id r) (ho : PE X o to) (ha : PA X (e :: es) t)
    (hbase : attributeBase o name X.env (eval o X.env) = eval o X.env := by rfl)
    (hfew : ((backTo cpos (starEach (e :: es) X.env)).all (fun x => !x.1) && (backToKw cpos (keywordEach [] X.env)).all (fun x => x.1.isSome)
      && decide ((e :: es).length + ([] : List Keyword).length + (if ([] : List Keyword).isEmpty then 0 else 1) < 30)) = true := by rfl)
    (hline : (apos.endLine == cpos.line) = true := by rfl) (hs : starEach (e :: es) X.env = (false, eval e X.env) :: starEach es X.env := by rfl) (hplain : (backTo cpos (starEach es X.env)).any (·.1) = false := by rfl) :
    PE X (.Call (.Attribute o name apos) (e :: es) [] cpos) (tBM X.K T r to t) := by
  intro pins s σ H Q I h
  refine wpAny_Call_method_late hbase hfew hline rfl (thn (ho pins s σ H _ I h) fun v s1 ⟨x, H1, I1, r1, ty, q1⟩ => ?_)
  obtain ⟨h1, h2⟩ := tyV_is I1 r1 ty
  refine ⟨T, id, pa, slot, hty, h1, h2, ?_⟩
  have hA := ha cpos pins s1 σ H1 _ I1 q1
  rw [hs] at hA ⊢
  refine Calls.callWith_builtin (by show (false || (backTo cpos (starEach es X.env)).any (·.1)) = false; rw [hplain] <;> rfl) (Calls.evalArgs_plain ?_)
  exact thn hA fun us s2 ⟨vs, H2, I2, r2, q2⟩ => hm pins s2 σ H2 x vs v us Q I2 r1 r2 q2
end
noncomputable def MtM (X : Cx) (id : String) (r : V → List V → Hp → VK → Prop) : Prop :=
  ∀ (pins : List (Addr × Obj)) (s : Shared) (σ : St) (H : Hp) (x : V) (xs : List V) (v : Value) (us : List Value) (Q : VK), Inv X pins σ H s → RelV x v → Vals xs us → r x xs H Q →
    wpAny (model X.prog X.w) X.A (call (.builtin id) (v :: us)) (EP X pins σ Q) X.xe s
theorem Vals.one : ∀ {x : V} {us : List Value}, Vals [x] us → ∃ u, us = [u] ∧ RelV x u
  | _, _, .cons r .nil => ⟨_, rfl, r⟩
theorem Vals.zero : ∀ {us : List Value}, Vals [] us → us = []
  | _, .nil => rfl
theorem Vals.reverse {xs : List V} {us : List Value} (h : Vals xs us) : Vals xs.reverse us.reverse := by
  induction h with
  | nil => exact .nil
  | cons r t ih => rw [List.reverse_cons, List.reverse_cons]; exact Vals.append ih (.cons r .nil)
theorem Vals.rep {xs : List V} {us : List Value} (h : Vals xs us) : ∀ k : Nat, Vals (List.replicate k xs).flatten (List.replicate k us).flatten
  | 0 => .nil
  | k + 1 => by
    rw [List.replicate_succ, List.replicate_succ, List.flatten_cons, List.flatten_cons]
    exact Vals.append h (Vals.rep h k)
theorem foldl_rep (its : List Value) : ∀ (k : Nat) (acc : List Value),
    List.foldl (fun x1 x2 => x1 ++ x2) acc.toArray (List.replicate k its.toArray) = (acc ++ (List.replicate k its).flatten).toArray
  | 0, acc => by simp
  | k + 1, acc => by
    have e : acc.toArray ++ its.toArray = (acc ++ its).toArray := by simp
    have e2 : (acc ++ its) ++ (List.replicate k its).flatten = acc ++ (List.replicate (k + 1) its).flatten := by
      rw [List.replicate_succ, List.flatten_cons, List.append_assoc]
    rw [← e2, ← foldl_rep its k (acc ++ its), ← e, List.replicate_succ, List.foldl_cons]
section
variable {X : Cx} {pins : List (Addr × Obj)} {σ : St} {H : Hp} {s : Shared} {l b : Addr} {xs ys zs : List V}
theorem Inv.lset {its its' : List Value} {n : Nat} {f : Array Value → Array Value} {t' : Nat} (I : Inv X pins σ H s) (hH : H l = some (.lst xs))
    (e : s.heap.get? l = some { cls := .type "list", data := .seq its.toArray n }) (hf : f its.toArray = its'.toArray) (hv : Vals ys its') (hz : ys.length ≤ sizeLine) :
    Inv X pins σ (upd H l (.lst ys)) { s with heap := s.heap.update l (Obj.mapSeq f), toks := t' } := by
  have q := PySem.IsL.update e f
  rw [hf] at q
  refine I.write (x := l) (e := l) (by rw [hH]; exact trivial) (.inl rfl) (fun b' u hb hu => (Heap.get?_update_other s.heap (Obj.mapSeq f) (Ne.symm hb)).trans hu) ⟨_, q⟩ ?_
  exact ⟨hz, its', _, hv, q⟩
theorem Inv.lnew {its : List Value} {t' : Nat} (I : Inv X pins σ H s) (hv : Vals ys its) (hz : ys.length ≤ sizeLine) :
    Inv X pins σ (upd H s.heap.objs.size (.lst ys)) { s with heap := s.heap.push { cls := .type "list", data := .seq its.toArray }, toks := t' } :=
  I.laid (fun _ _ q => Heap.get?_push_of_some _ q) (Nat.le_refl _) ⟨hz, its, 0, hv, Heap.get?_push_size _ rfl⟩
theorem Inv.fresh (I : Inv X pins σ H s) : H s.heap.objs.size = none := I.hok.fresh (Nat.le_refl _)
theorem Inv.lstM (I : Inv X pins σ H s) (hH : H l = some (.lst xs)) : xs.length ≤ sizeLine ∧ ∃ (its : List Value) (n : Nat), Vals xs its ∧ xs.length = its.length ∧ s.heap.get? l = some { cls := .type "list", data := .seq its.toArray n } := by
  obtain ⟨z, its, n, r, e⟩ := I.hok l _ hH
  exact ⟨z, its, n, r, r.length, e⟩
theorem notLongL {n : Nat} (h : n ≤ sizeLine) : Builtin.List.listTooLong n = false := by
  unfold Builtin.List.listTooLong
  exact decide_eq_false (by omega)
end
section
variable {X : Cx}
noncomputable def rAppend : V → List V → Hp → VK → Prop := fun x vs H Q => ∃ l xs y, x = .ref l ∧ vs = [y] ∧ H l = some (.lst xs) ∧ xs.length < sizeLine ∧ Q .non (upd H l (.lst (xs ++ [y])))
theorem mt_append : MtM X "list.append" rAppend := by
  intro pins s σ H x vs v us Q I rx rv h
  obtain ⟨l, xs, y, rfl, rfl, hH, hz, q⟩ := h
  cases rx
  obtain ⟨u, rfl, ru⟩ := rv.one
  obtain ⟨z, its, n, r, hl, e⟩ := I.lstM hH
  refine call_meets F.slot_list_append ⟨_, e, rfl⟩ F.entry_list_append (F.args_list_append_2 _ _) (PySem.list_append l its.toArray n u (by rw [List.size_toArray]; omega)) ⟨e, ?_⟩
  refine ⟨.non, _, I.lset (its' := its ++ [u]) hH e (by simp) (r.append (.cons ru .nil)) ?_, rfl, q⟩
  rw [List.length_append, List.length_singleton]
  omega
noncomputable def rReverse : V → List V → Hp → VK → Prop := fun x vs H Q => ∃ l xs, x = .ref l ∧ vs = [] ∧ H l = some (.lst xs) ∧ Q .non (upd H l (.lst xs.reverse))
theorem mt_reverse : MtM X "list.reverse" rReverse := by
  intro pins s σ H x vs v us Q I rx rv h
  obtain ⟨l, xs, rfl, rfl, hH, q⟩ := h
  cases rx
  have hus := rv.zero
  subst hus
  obtain ⟨z, its, n, r, hl, e⟩ := I.lstM hH
  refine call_meets F.slot_list_reverse ⟨_, e, rfl⟩ F.entry_list_reverse (F.args_list_reverse_1 _) (AutoSeq1.list_reverse_list_0 l its.toArray n (by rw [List.size_toArray]; omega)) ⟨e, ?_⟩
  refine ⟨.non, _, I.lset (its' := its.reverse) hH e (by simp) r.reverse ?_, rfl, q⟩
  rw [List.length_reverse]
  omega
noncomputable def rCat : R2 := fun x y H Q => ∃ l b xs zs, x = .ref l ∧ y = .ref b ∧ H l = some (.lst xs) ∧ H b = some (.lst zs) ∧ xs.length + zs.length ≤ sizeLine ∧ ∀ p, H p = none → Q (.ref p) (upd H p (.lst (xs ++ zs)))
theorem op_cat : OpR X (binaryOp .Add) rCat := by
  intro pins s σ H x y v u Q I rx ry h
  obtain ⟨l, b, xs, zs, rfl, rfl, hH, hB, hz, q⟩ := h
  cases rx
  cases ry
  obtain ⟨z, its, n, r, hl, e⟩ := I.lstM hH
  obtain ⟨z2, its2, n2, r2, hl2, e2⟩ := I.lstM hB
  refine PySem.P.add_list e e2 ?_ (by rw [List.size_toArray, List.size_toArray]; omega)
  have ea : its.toArray ++ its2.toArray = (its ++ its2).toArray := by simp
  rw [ea]
  exact ⟨.ref _, _, I.lnew (t' := s.toks) (r.append r2) (by rw [List.length_append]; omega), rfl, q _ I.fresh⟩
noncomputable def rRep : R2 := fun x y H Q => ∃ l k xs, x = .ref l ∧ y = .int k ∧ H l = some (.lst xs) ∧ -(2 ^ 63) ≤ k ∧ k < 2 ^ 63 ∧ xs.length * k.toNat ≤ sizeLine ∧
  ∀ p, H p = none → Q (.ref p) (upd H p (.lst (List.replicate k.toNat xs).flatten))
theorem len_rep {α : Type} (xs : List α) (k : Nat) : (List.replicate k xs).flatten.length = k * xs.length := by
  induction k with
  | zero => simp
  | succ k ih => rw [List.replicate_succ, List.flatten_cons, List.length_append, ih, Nat.succ_mul, Nat.add_comm]
theorem op_rep : OpR X (binaryOp .Mult) rRep := by
  intro pins s σ H x y v u Q I rx ry h
  obtain ⟨l, k, xs, rfl, rfl, hH, h1, h2, hz, q⟩ := h
  cases rx
  obtain ⟨t, rfl⟩ := ry
  obtain ⟨z, its, n, r, hl, e⟩ := I.lstM hH
  have hlen : its.toArray.size * k.toNat ≤ sizeLine := by rw [List.size_toArray, ← hl]; exact hz
  have hcap : ¬ its.toArray.size * k.toNat > (2 ^ 63 - 1) / 8 := by
    have : (sizeLine : Nat) ≤ (2 ^ 63 - 1) / 8 := by decide
    omega
  have hfit : ¬ (!Builtin.List.listFitsIndex k) = true := by
    rw [fitsIndex_both h1 h2]
    exact Bool.false_ne_true
  have hlong : ¬ Builtin.List.listTooLong (its.toArray.size * k.toNat) = true := by
    rw [notLongL hlen]
    exact Bool.false_ne_true
  have hnew : List.foldl (fun x1 x2 => x1 ++ x2) #[] (List.replicate (if its.toArray.isEmpty = true then 0 else k.toNat) its.toArray) = (List.replicate k.toNat its).flatten.toArray := by
    have f0 : ∀ m : Nat, List.foldl (fun x1 x2 => x1 ++ x2) #[] (List.replicate m its.toArray) = (List.replicate m its).flatten.toArray := fun m => by
      have := foldl_rep its m []
      rw [List.nil_append] at this
      exact this
    rw [f0]
    cases its with
    | nil => simp
    | cons a r' => rw [if_neg (by simp)]
  refine wpAny_binaryOp_repeat_ref (T := "list") (U := "int") (by decide) ⟨_, e, rfl⟩ (fun s' => typeIs_int s' k t) noFill_list_mul F.fills_int_mul F.slot_int_rmul repeat_list F.slot_int_index.lookup
    (call_meets F.slot_int_rmul (typeIs_int s k t) F.entry_int_rmul (F.args_int_rmul_2 _ _) (int___rmul___int_list k t l its.toArray n)
      ⟨e, rfl, ⟨_, e, rfl⟩, call_meets F.slot_list_mul ⟨_, e, rfl⟩ F.entry_list_mul (F.args_list_mul_2 _ _) (AutoListH.list___mul___list_int_3 l its.toArray n k t hfit hcap hlong) ⟨e, ?_⟩⟩)
  rw [hnew]
  exact ⟨.ref _, _, I.lnew (t' := s.toks) (r.rep k.toNat) (by rw [len_rep, Nat.mul_comm]; exact hz), rfl, q _ I.fresh⟩
end
section
variable {prog : Program} {w : World} {A : Around} {E : Value → Shared → Prop} {s : Shared}
end
section
variable {X : Cx}
end
end L2
namespace Att
open PySem PySem.W PySem.Calls PyProof.Rows
theorem ints_of_wellAll {P : Params} {h : Heap} : ∀ (ns : List Int) (vs : List Value), WellAll P h vs (ns.map WData.int) → IntsAre vs ns := by
  intro ns
  induction ns with
  | nil =>
    intro vs w
    rw [List.map_nil] at w
    cases w
    exact .nil
  | cons n ns ih =>
    intro vs w
    rw [List.map_cons] at w
    cases w with
    | cons a b =>
      cases a
      exact .cons _ _ (ih _ b)
theorem script_of {l : OpenLaw} {n : Nat} (hn : l.most = some n) {P : Params} {h : Heap} {args : List WData} {vals : List Value}
    (hpre : l.row.toRowW.claim.pre args = true) (hwl : WellAll P h vals args) :
    ∃ a vs ns, vals = [Value.ref a] ∧ args = [WData.list (ns.map WData.int)] ∧ h.get? a = some { cls := .type "list", data := .seq vs.toArray } ∧ IntsAre vs ns ∧ ns.length ≤ n := by
  have hsh : WShape.hasAll [] args [.list .int] = true := (pre_splitW hpre).1
  have hc : l.pre.holds [] { args := args } = true := (pre_splitW hpre).2
  obtain ⟨d, r, rfl, h1, h2⟩ := hasAllW_cons hsh
  obtain rfl := hasAllW_nil h2
  obtain ⟨xs, rfl, h3⟩ := hasW_list h1
  obtain ⟨ns, rfl⟩ := items_int h3
  have hlen : ns.length ≤ n := by
    unfold OpenLaw.pre at hc
    have h4 : (WTm.not (.lt (.lit (.int (n : Int))) (.len (.arg 0)))).holds [] { args := [.list (ns.map .int)] } = true := by
      have h4 := (holds_andW hc).1
      rw [hn] at h4
      exact h4
    have h5 := condW_of h4 (w_not (w_lt w_lit (w_len_list (w_arg rfl))))
    rw [List.length_map] at h5
    refine Nat.le_of_not_lt fun q => ?_
    have q' : (n : Int) < ((ns.length : Nat) : Int) := by omega
    first
      | (rw [decide_eq_true q'] at h5; exact absurd h5 (by decide))
      | (simp at h5; omega)
  cases hwl with
  | cons w1 w2 =>
    cases w2
    cases w1 with
    | list ho hall => exact ⟨_, _, ns, rfl, rfl, ho, ints_of_wellAll ns _ hall, hlen⟩
theorem post_true (l : OpenLaw) (args : List WData) : l.row.toRowW.claim.post args (.bool true) args = true :=
  postW_of (r := l.row.toRowW) (X := (true == true))
    (show WShape.has [] (.bool true) .bool = true by first | rfl | decide | simp [WShape.has, WShape.arms, WShape.armsAll])
    (show (WTm.eq .res (.lit (.bool true))).value [] { args := args, res := some (.bool true), after := args } = some (.bool (true == true)) from w_eq_bool (w_res rfl) w_lit) rfl
theorem lay_bits {ns : List Int} (h : WData.layableAll [WData.list (ns.map WData.int)] = true) : ∀ x ∈ ns, Builtin.Int.intBits x ≤ 1048576 := by
  have h1 : WData.layable (WData.list (ns.map WData.int)) = true := by
    have h' : (WData.layable (WData.list (ns.map WData.int)) && true) = true := h
    rwa [Bool.and_true] at h'
  unfold WData.layable at h1
  rw [Bool.and_eq_true] at h1
  have h2 := of_decide_eq_true h1.2
  have h3 : WData.weightAll (ns.map WData.int) ≤ 2 ^ 20 := by
    have e : WData.weight (WData.list (ns.map WData.int)) = WData.weightAll (ns.map WData.int) := by simp only [WData.weight]
    rwa [e] at h2
  have h4 : ∀ (l : List Int), ∀ x ∈ l, WData.weight (WData.int x) ≤ WData.weightAll (l.map WData.int) := by
    intro l
    induction l with
    | nil => intro x hx; cases hx
    | cons y r ih =>
      intro x hx
      have e : WData.weightAll ((y :: r).map WData.int) = WData.weight (WData.int y) + 1 + WData.weightAll (r.map WData.int) := by
        rw [List.map_cons]; simp only [WData.weightAll]
      rw [e]
      rcases List.mem_cons.mp hx with z | z
      · subst z; omega
      · have := ih x z; omega
  intro x hx
  have h5 := Nat.le_trans (h4 ns x hx) h3
  have e : WData.weight (WData.int x) = Builtin.Int.intBits x := by
    simp only [WData.weight]
    unfold Builtin.Int.intBits
    by_cases hz : x = 0
    · subst hz; rfl
    · have hb : (x == 0) = false := by simpa using hz
      simp [hz]
  rw [e] at h5
  exact h5
theorem attach_call {l : OpenLaw} {n : Nat} {q : Program} {loose : List Str} {XP : (Str → Option Value) → Heap → Prop} {YP : World → Heap → Prop} {d : DefRec}
    (hn : l.most = some n) (hdf : d.params.defaults = [])
    (call : ∀ (w : World) (s₀ s₁ : Shared) (mg mb : Str → Option Value) (fa : Addr) (o : Obj) (pm cd doc : Value) (a : Addr) (vs : List Value) (ns : List Int),
      Ground q loose [] XP w s₀ mg mb s₁.heap → YP w s₁.heap →
      s₁.heap.get? fa = some o → o.data = .func (docDef d.name d.params d.body d.scope pm cd doc) → s₁.heap.CodeRec cd d.name → mg d.name = some (.ref fa) →
      s₁.heap.get? a = some { cls := .type "list", data := .seq vs.toArray } → IntsAre vs ns → ns.length ≤ n → (∀ x ∈ ns, Builtin.Int.intBits x ≤ 1048576) → s₁.gens = #[] →
      codeAny (model l.prog w) callerA (.call (.ref fa) ⟨[.ref a], []⟩) (fun r s' => r = .ok (.ret (.bool true)) ∧ OldK s₁.heap s'.heap ∧ s'.os = s₁.os ∧ AllBare s'.gens) s₁) :
    WalkO q loose XP YP l.row.toRowW d [] (fun f vs => PySem.call f vs) := by
  intro w s₀ s₁ mg mb G Y fa o pm cd doc dV kV ho hd hcd hD hmg hg args vals as hpre hlay hrd hwl hlo
  obtain rfl : dV = .none := Dflts.none hD hdf
  obtain rfl : kV = .none := Dflts.noKw hD
  obtain ⟨a, vs, ns, rfl, rfl, hobj, hints, hlen⟩ := script_of hn hpre hwl
  refine enter_call (codeAny_mono (call w s₀ s₁ mg mb fa o pm cd doc a vs ns G Y ho (fd_plain hd) hcd hmg hobj hints hlen (lay_bits hlay) hg) fun r s' hq => ?_)
  obtain ⟨rfl, h2, h3, h4⟩ := hq
  exact ⟨.inl ⟨.bool true, .bool true, [], rfl, fun _ => rfl, .bool true, post_true l _, fun _ => ⟨List.Pairwise.nil, fun _ hm => (nomatch hm)⟩⟩, h2, h3, h4⟩
section
variable {prog : Program} {w : World} {A : Around} {E : Value → Shared → Prop} {s : Shared} {K : Frag}
end
end Att
namespace L2
open PySem PySem.Spec PyProof.Rows
theorem vals_ints : ∀ {vs : List Value} {ns : List Int}, IntsAre vs ns → Vals (ns.map V.int) vs
  | _, _, .nil => .nil
  | _, _, .cons n t h => .cons ⟨t, rfl⟩ (vals_ints h)
noncomputable def Only (H : Hp) : Prop := ∀ b, H b = none ∨ ∃ o xs, H b = some (.frz o (.lst xs))
theorem law_call {P : Program} {w : World} {K : PySem.W.Frag} {mg mb : Str → Option Value} {CX : CXT} {k : Nat} {fa a : Addr} {fd : FuncData} {x : Str} {sp : Sp} {s₁ : Shared} {vs : List Value} {ns : List Int}
    (KX : K.In s₁.heap) (hns : s₁.heap.Ns mainGlobals mg) (hb : s₁.heap.Ns builtinsNs mb) (hbb : ∀ x : Str, x ≠ "__name__" → mb x = bootBuiltins x) (hlim : s₁.heap.NoLimit) (hsr : s₁.heap.NoSeer) (hg : s₁.gens = #[])
    (ha : s₁.heap.get? a = some { cls := .type "list", data := .seq vs.toArray }) (hi : IntsAre vs ns) (hl : ns.length ≤ sizeLine) (hr : Room k callerA)
    (F : ∀ base : Heap, K.In base → base.Ns mainGlobals mg → FnOk P w K mg base CX k fa fd [x] sp) (hbind : ∀ (s : Shared) (u : Value), BindsTo s fd ⟨[u], []⟩ [(x, u)])
    (hsp : ∀ H : Hp, Only H → SqL K H a (ns.map V.int) → sp [.ref a] H (fun v _ => v = .bl true) fun _ _ _ => False)
    (hCX : ∀ H e s', CX [] H s₁ (fun _ _ _ => False) e s' → False) :
    codeAny (model P w) callerA (.call (.ref fa) ⟨[.ref a], []⟩) (fun r s' => r = .ok (.ret (.bool true)) ∧ OldK s₁.heap s'.heap ∧ s'.os = s₁.os ∧ AllBare s'.gens) s₁ := by
  have rv := vals_ints hi
  have lenV := hi.length
  have core : ∀ H : Hp, Only H → SqL K H a (ns.map V.int) → HOk P w H s₁.heap → (∀ b, H b ≠ none → b = a) → (H a ≠ none → K.lookup a = none) →
      codeAny (model P w) callerA (.call (.ref fa) ⟨[.ref a], []⟩) (fun r s' => r = .ok (.ret (.bool true)) ∧ OldK s₁.heap s'.heap ∧ s'.os = s₁.os ∧ AllBare s'.gens) s₁ := by
    intro H hO hS hok hA hK
    have base_of : ∀ {b : Addr} {o : Obj}, s₁.heap.get? b = some o → H b = none → (hidT s₁.heap H).get? b = some o := fun e n => hidT_get e n
    have noA : ∀ {b : Addr} {o : Obj} {es : Array DictEntry} {ep : Nat}, s₁.heap.get? b = some o → o.data = .dict es ep → H b = none := fun {b o es ep} e d => by
      cases q : H b with
      | none => rfl
      | some u =>
        have e' : b = a := hA b (by rw [q]; simp)
        subst e'
        rw [ha] at e; cases e
        have d' : Data.seq vs.toArray _ = Data.dict es ep := d
        cases d'
    have nsK : ∀ {b : Addr} {m : Str → Option Value}, s₁.heap.Ns b m → (hidT s₁.heap H).Ns b m := fun {b m} ⟨o, es, ep, e, d, r⟩ => ⟨o, es, ep, base_of e (noA e d), d, r⟩
    have hKb : K.In (hidT s₁.heap H) := fun b o e => base_of (KX b o e) (by
      cases q : H b with
      | none => rfl
      | some u =>
        have e' : b = a := hA b (by rw [q]; simp)
        subst e'
        rw [hK (by rw [q]; simp)] at e; cases e)
    have noC : ∀ {b : Addr} {o : Obj}, s₁.heap.get? b = some o → o.cls ≠ .type "list" → H b = none := fun {b o} e d => by
      cases q : H b with
      | none => rfl
      | some u =>
        have e' : b = a := hA b (by rw [q]; simp)
        subst e'
        rw [ha] at e; cases e
        exact absurd rfl d
    have hSr : (hidT s₁.heap H).NoSeer := ⟨let ⟨mc, h1, h2⟩ := hsr.statics; ⟨mc, nsK h1, h2⟩, let ⟨mc, h1, h2⟩ := hsr.mods; ⟨mc, nsK h1, h2⟩, let ⟨mc, h1, h2⟩ := hsr.imp; ⟨mc, nsK h1, h2⟩,
      let ⟨mg', bm, ob, h1, h2, h3, h4, h5⟩ := hsr.main; ⟨mg', bm, ob, nsK h1, h2, base_of h3 (noC h3 (by rw [h4]; decide)), h4, h5⟩⟩
    have hM : Mod K mg (hidT s₁.heap H) := ⟨hKb, nsK hns, ⟨mb, nsK hb, hbb⟩, let ⟨mc, h1, h2⟩ := hlim; ⟨mc, nsK h1, h2⟩, hSr⟩
    have e0 : Env0 P w K mg (hidT s₁.heap H) callerA [] s₁ H := ⟨rfl, hM, fun b o e => of_hidT e, Nat.le_of_eq (hidT_size _ _), trivial, fun b hb => absurd (show b ∈ ([] : List Addr) from hb) (by simp), hok, .of_eq hg⟩
    refine codeAny_mono ((F _ hKb (nsK hns)).run callerA [] s₁ H ⟨[.ref a], []⟩ [.ref a] [.ref a] _ _ hr e0 (hbind s₁ (.ref a)) (.cons rfl .nil) (hsp H hO hS)) fun r s' h => ?_
    cases r with
    | error e => exact (hCX H e s' h).elim
    | ok fl =>
      cases fl with
      | next => exact False.elim h
      | brk => exact False.elim h
      | cont => exact False.elim h
      | ret u =>
        obtain ⟨v, H', os, bare, un, hok', r', q⟩ := h
        have q' : v = .bl true := q
        subst q'
        obtain rfl : u = Value.bool true := r'
        refine ⟨rfl, OldK.of_keep fun b o e => ?_, os, bare⟩
        cases q : H b with
        | none => exact un.keep b o e q (by intro z; exact absurd (show b ∈ ([] : List Addr) from z) (by simp)) (by simp)
        | some u =>
          rcases hO b with z | ⟨ob, xs, z⟩
          · rw [q] at z; cases z
          · have z2 := un.frzs b ob _ z
            obtain ⟨e1, _⟩ := hok b _ z
            obtain ⟨e2, _⟩ := hok' b _ z2
            rw [e] at e1; cases e1
            exact e2
  cases hk : K.lookup a with
  | some o =>
    have e := KX a o hk
    rw [ha] at e
    cases e
    refine core (fun _ => none) (fun _ => .inl rfl) (.inr ⟨_, vs.toArray, _, hk, rfl, rfl, rfl, by rw [List.size_toArray, lenV]; exact hl, by simpa using rv⟩) (fun b u z => by have z' : (none : Option HO) = some u := z; cases z') (fun b z => absurd rfl z) fun z => absurd rfl z
  | none =>
    refine core (fun b => if b = a then some (.frz { cls := .type "list", data := .seq vs.toArray } (.lst (ns.map V.int))) else none) (fun b => ?_) (.inl (.inr ⟨{ cls := .type "list", data := .seq vs.toArray }, if_pos rfl⟩)) (fun b u z => ?_) (fun b z => ?_) fun _ => hk
    · by_cases hb : b = a
      · exact .inr ⟨_, _, if_pos hb⟩
      · exact .inl (if_neg hb)
    · by_cases hb : b = a
      · have z' := (if_pos hb).symm.trans z
        cases z'
        subst hb
        exact ⟨ha, by rw [List.length_map]; exact hl, vs, _, rv, ha⟩
      · have z' := (if_neg hb).symm.trans z
        cases z'
    · by_cases hb : b = a
      · exact hb
      · exact absurd (if_neg hb) z
theorem walk_of {l : PySem.W.OpenLaw} {n k : Nat} {q : Program} {loose : List Str} {XP : (Str → Option Value) → Heap → Prop} {YP : World → Heap → Prop} {d : DefRec} {K : Params → PySem.W.Frag} {CX : World → CXT} {sp : World → Sp} {x : Str}
    (hn : l.most = some n) (hn2 : n ≤ sizeLine) (hdf : d.params.defaults = []) (hq : importsNone q = true) (hr : Room k callerA)
    (hY : ∀ (w : World) (h : Heap), YP w h → (K w.params).In h)
    (F : ∀ (w : World) (mg : Str → Option Value) (fa : Addr) (h : Heap), (K w.params).In h → h.Ns mainGlobals mg → mg d.name = some (.ref fa) →
      ∃ fd : FuncData, (∀ (s : Shared) (u : Value), BindsTo s fd ⟨[u], []⟩ [(x, u)]) ∧
        ∀ base : Heap, (K w.params).In base → base.Ns mainGlobals mg → FnOk l.prog w (K w.params) mg base (CX w) k fa fd [x] (sp w))
    (hsp : ∀ (w : World) (H : Hp) (a : Addr) (ns : List Int), ns.length ≤ n → (∀ x ∈ ns, Builtin.Int.intBits x ≤ 1048576) → Only H → SqL (K w.params) H a (ns.map V.int) → sp w [.ref a] H (fun v _ => v = .bl true) fun _ _ _ => False)
    (hCX : ∀ (w : World) (H : Hp) (s : Shared) (e : Value) (s' : Shared), CX w [] H s (fun _ _ _ => False) e s' → False) :
    PySem.W.WalkO q loose XP YP l.row.toRowW d [] (fun f vs => PySem.call f vs) := by
  refine Att.attach_call hn hdf fun w s₀ s₁ mg mb fa o pm cd doc a vs ns G Y ho hd hcd hmg hobj hints hlen hbt hg => ?_
  have KX := hY w _ Y
  obtain ⟨fd, hb, hF⟩ := F w mg fa _ KX G.T.g hmg
  exact law_call KX G.T.g G.T.b G.T.builtins G.T.nolimit (G.T.seer hq) hg hobj hints (Nat.le_trans hlen hn2) hr hF hb (fun H hO hS => hsp w H a ns hlen hbt hO hS) fun H e s' => hCX w H s₁ e s'
def inClass (s : Stmt) (j : Nat) : Stmt := match s with
  | .ClassDef _ _ _ body _ _ _ _ _ _ _ => body.getD j (.Pass ⟨0, 0, 0, 0⟩)
  | _ => .Pass ⟨0, 0, 0, 0⟩
noncomputable def defArgs (s : Stmt) : Arguments := match s with
  | .FunctionDef _ a _ _ _ _ _ _ _ _ => a
  | _ => { posonlyargs := [], args := [], vararg := none, kwonlyargs := [], kw_defaults := [], kwarg := none, defaults := [] }
noncomputable def defBody (s : Stmt) : List Stmt := match s with
  | .FunctionDef _ _ b _ _ _ _ _ _ _ => b
  | _ => []
noncomputable def defScope (s : Stmt) : Scope := match s with
  | .FunctionDef _ _ _ _ _ _ sc _ _ _ => sc
  | _ => { kind := .function, names := [], isGenerator := false, isCoroutine := false }
abbrev CX0 : CXT := fun _ _ _ _ _ _ => False
abbrev E0 : XK := fun _ _ _ => False
theorem pass0 {X : Cx} : Passes CX0 X E0 := fun _ _ _ _ _ _ _ h => h.elim
structure Fun (K : PySem.W.Frag) (x qual : Str) (st : Stmt) (f : Addr) (fd : FuncData) : Prop where
  ex : ∃ (oc : Value) (od : Option Addr) (kV doc pm : Value) (an : Option Addr) (cdv ct : Value) (osl : Array (Option Value)),
    fd = PySem.W.fnOf x qual (defArgs st) (defBody st) (defScope st) .none kV doc pm an cdv ct ∧ K.lookup f = some ⟨oc, od, .func fd, osl⟩ ∧ PySem.W.codeIn K cdv qual = true
  kp : PySem.W.keepIn K (.ref f) = true
section
variable {P : Program} {w : World} {K : PySem.W.Frag} {mg : Str → Option Value} {base : Heap}
theorem Fun.ok {x qual : Str} {st : Stmt} {f : Addr} {fd : FuncData} {N ps : List Str} {k : Nat} {sp : Sp} (F : Fun K x qual st f fd) (S : FnScope N ps (defScope st)) (len : ∀ vs H Q E, sp vs H Q E → vs.length = ps.length)
    (hbody : ∀ (cdv : Value) (A : Around) (outer : List Env) (s : Shared) (H : Hp) (vs : List V) (Q : VK) (E : XK), Room k (A.deeper (envOfC qual (defScope st) s.heap.objs.size f cdv)) → sp vs H Q E →
      ∃ t, PSs (cxOf CX0 P w K mg base N qual (defScope st) f cdv A outer s H E).nox (defBody st) t ∧ t { nx := fun _ H' => Q .non H', rt := Q } (start N vs) H) : FnOk P w K mg base CX0 (k + 1) f fd ps sp := by
  obtain ⟨oc, od, kV, doc, pm, an, cdv, ct, osl, rfl, lk, hcd⟩ := F.ex
  refine fn_of lk hcd S len fun A outer s H vs Q E hr hsp => ?_
  obtain ⟨t, h, q⟩ := hbody cdv A outer s H vs Q E hr hsp
  exact ⟨t, h.nox, q⟩
theorem Fun.binds {x qual : Str} {st : Stmt} {f : Addr} {fd : FuncData} {ps : List Str} (F : Fun K x qual st f fd)
    (h : ∀ (kV doc pm : Value) (an : Option Addr) (cdv ct : Value) (us : List Value), us.length = ps.length → bindArgs (PySem.W.fnOf x qual (defArgs st) (defBody st) (defScope st) .none kV doc pm an cdv ct) ⟨us, []⟩ = pure (ps.zip us)) : Binds K fd ps [] := by
  obtain ⟨oc, od, kV, doc, pm, an, cdv, ct, osl, rfl, lk, hcd⟩ := F.ex
  exact .all (h kV doc pm an cdv ct)
theorem fun_mk {x qual : Str} {st : Stmt} {f : Addr} {oc : Value} {od an : Option Addr} {osl : Array (Option Value)} {kV doc pm cdv ct : Value} (l : K.lookup f = some ⟨oc, od, .func (PySem.W.fnOf x qual (defArgs st) (defBody st) (defScope st) .none kV doc pm an cdv ct), osl⟩)
    (c : PySem.W.codeIn K cdv qual = true) (k : PySem.W.keepIn K (.ref f) = true) : Fun K x qual st f (PySem.W.fnOf x qual (defArgs st) (defBody st) (defScope st) .none kV doc pm an cdv ct) := ⟨⟨oc, od, kV, doc, pm, an, cdv, ct, osl, rfl, l, c⟩, k⟩
end
theorem hu_of {A : Around} {k : Nat} (hr : Room k A) : A.units + 1 < cLine := Nat.lt_of_le_of_lt (Nat.add_le_add_left (by decide : 1 ≤ 64) _) hr.units
theorem small1000 {n : Nat} (h : n ≤ 1000) : n < sizeLine := Nat.lt_of_le_of_lt h (by decide)
section
variable {X : Cx}
theorem pv (i : Nat) {x : Str} {pos : Pos} (hN : X.N[i]? = some x := by rfl) (hv : Vis X.env.scope x := by first | exact Or.inl rfl | exact Or.inr (Or.inl rfl) | exact Or.inr (Or.inr rfl)) (hd : (x == ("__debug__" : Str)) = false := by decide)
    (hcd : (x == ("__classdict__" : Str)) = false := by decide) : PE X (.Name x pos) (tVar i) := pe_var hN hv hd hcd
end
theorem iteF {A B : Prop} (h : B) : if false = true then A else B := by
  rw [if_neg Bool.false_ne_true]
  exact h
theorem iteT {A B : Prop} (h : A) : if true = true then A else B := by
  rw [if_pos rfl]
  exact h
theorem ite2 {c A B : Prop} [Decidable c] (h1 : c → A) (h2 : ¬ c → B) : if c then A else B := by
  by_cases h : c
  · rw [if_pos h]
    exact h1 h
  · rw [if_neg h]
    exact h2 h
noncomputable def Same (H H' : Hp) : Prop := ∀ b o, H b = some o → H' b = some o
theorem Same.refl (H : Hp) : Same H H := fun _ _ h => h
theorem Same.trans {H H1 H2 : Hp} (a : Same H H1) (b : Same H1 H2) : Same H H2 := fun c o h => b c o (a c o h)
theorem Same.free {H H' : Hp} (e : Same H H') {l : Addr} (h : H' l = Option.none) : H l = Option.none := by
  cases q : H l with
  | none => rfl
  | some o =>
    rw [e l o q] at h
    cases h
theorem Same.seq {K : PySem.W.Frag} {H H' : Hp} {a : Addr} {xs : List V} (e : Same H H') (h : SqL K H a xs) : SqL K H' a xs := by
  rcases h with (h | ⟨o, h⟩) | h
  · exact .inl (.inl (e _ _ h))
  · exact .inl (.inr ⟨o, e _ _ h⟩)
  · exact .inr h
section
variable {X : Cx}
noncomputable def zjI:R2:=fun x y H Q=>∃i j,x=.int i∧y=.int j∧Q (.int (i+j)) H
noncomputable def zjJ:R2:=fun x y H Q=>∃i j,x=.int i∧y=.int j∧Q (.int (i-j)) H
theorem qg:OpR X (binaryOp .Add) zjI:=op_add
theorem vh:OpR X (binaryOp .Sub) zjJ:=op_sub
noncomputable def zfB (i j:Int):Prop:=∃m n:Nat,Builtin.Int.intBits i≤m∧Builtin.Int.intBits j≤n∧m+n≤134217728
noncomputable def zjK:R2:=fun x y H Q=>∃i j,x=.int i∧y=.int j∧zfB i j∧Q (.int (i*j)) H
theorem yf:OpR X (binaryOp .Mult) zjK:=opI (C:=zfB) (g:=fun i j=>i*j) fun _ _ _ _ _ _ _ hc q=>by
 obtain⟨m,n,h1,h2,h3⟩:=hc
 exact mul_int q (IntMulOk.of_le h1 h2 h3)
noncomputable def zfC (j:Int):Prop:=0<j∧Builtin.Int.intBits j≤9000
noncomputable def zjL:R2:=fun x y H Q=>∃i j,x=.int i∧y=.int j∧zfC j∧Q (.int (i / j)) H
theorem qO:OpR X (binaryOp .FloorDiv) zjL:=opI (C:=fun _ j=>zfC j) (g:=fun i j=>i / j) fun i j _ _ _ _ _ hc q=>by
 have h1:(0:Int)<j:=hc.1
 have h3:j.natAbs.log2<9000:=(Nat.log2_lt (by omega)).mpr (intBits_le_iff.mp hc.2)
 exact floordiv_int (by omega) (by rw [Int.fdiv_eq_ediv_of_nonneg i (by omega)];exact q) (.inl (PyProof.noPylong_of_log2 h3))
noncomputable def zjM:R2:=fun x y H Q=>∃i j,x=.int i∧y=.int j∧0<j∧Q (.int (i % j)) H
theorem zR:OpR X (binaryOp .Mod) zjM:=op_mod
noncomputable def zjN:R2:=fun x y H Q=>∃i j,x=.int i∧y=.int j∧CPow i j∧Q (.int (i ^ j.toNat)) H
theorem zeK:OpR X (binaryOp .Pow) zjN:=op_pow
noncomputable def zjO:R2:=fun x y H Q=>∃i j,x=.int i∧y=.int j∧CPow i j∧Q (.int (i*2 ^ j.toNat)) H
theorem zeL:OpR X (binaryOp .LShift) zjO:=op_shl
noncomputable def zld:R2:=fun x y H Q=>∃i j,x=.int i∧y=.int j∧Q (.bl (decide (i<j))) H
noncomputable def zle:R2:=fun x y H Q=>∃i j,x=.int i∧y=.int j∧Q (.bl (decide (i≤j))) H
noncomputable def zlf:R2:=fun x y H Q=>∃i j,x=.int i∧y=.int j∧Q (.bl (decide (j<i))) H
noncomputable def zlg:R2:=fun x y H Q=>∃i j,x=.int i∧y=.int j∧Q (.bl (decide (j≤i))) H
noncomputable def zlh:R2:=fun x y H Q=>∃i j:Int,x=.int i∧y=.int j∧Q (.bl (decide (i=j))) H
noncomputable def zli:R2:=fun x y H Q=>∃i j:Int,x=.int i∧y=.int j∧Q (.bl (!decide (i=j))) H
theorem Ko:OpR X (compareOp .Lt) zld:=op_lt
theorem Kp:OpR X (compareOp .LtE) zle:=op_le
theorem Qx:OpR X (compareOp .Gt) zlf:=op_gt
theorem zbO:OpR X (compareOp .GtE) zlg:=op_ge
theorem jd:OpR X (compareOp .Eq) zlh:=by
 intro pins s σ H x y v u Q I rx ry h
 obtain⟨i,j,rfl,rfl,q⟩:=h
 refine op_eq pins s σ H _ _ v u Q I rx ry ⟨rfl,?_⟩
 have e:decide (V.int i=V.int j)=decide (i=j):=decide_eq_decide.mpr ⟨fun z=>V.int.inj z,fun z=>by rw [z]⟩
 rw [e];exact q
theorem zdB:OpR X (compareOp .NotEq) zli:=by
 intro pins s σ H x y v u Q I rx ry h
 obtain⟨i,j,rfl,rfl,q⟩:=h
 refine op_ne pins s σ H _ _ v u Q I rx ry ⟨rfl,?_⟩
 have e:decide (V.int i=V.int j)=decide (i=j):=decide_eq_decide.mpr ⟨fun z=>V.int.inj z,fun z=>by rw [z]⟩
 rw [e];exact q
noncomputable def zfD (X:Cx):Prop:=∀(pins:List (Addr×Obj)) (σ:St) (H:Hp) (s:Shared),Inv X pins σ H s→PylongRoom (model X.prog X.w) X.A s
noncomputable def zjP:R2:=fun x y H Q=>∃i j,x=.int i∧y=.int j∧0<j∧Q (.int (i / j)) H
theorem zaS (hp:zfD X):OpR X (binaryOp .FloorDiv) zjP:=by
 intro pins s σ H x y v u Q I rx ry h
 obtain⟨i,j,rfl,rfl,hj,q⟩:=h
 obtain⟨t,rfl⟩:=rx
 obtain⟨t',rfl⟩:=ry
 refine floordiv_int (by omega) ?_ (.inr (hp pins σ H s I))
 rw [Int.fdiv_eq_ediv_of_nonneg i (by omega)]
 exact⟨.int (i / j),H,I.tok _,⟨_,rfl⟩,q⟩
theorem zdC {CX:CXT}{P:Program}{w:World}{K:W.Frag}{mg:Str→Option Value}{base:Heap}{N ps:List Str}{qual:Str}{scope:Scope}{f:Addr}{cdv:Value}{A:Around}{outer:List Env}{s:Shared}{H:Hp}{E:XK}
  (hP:P.given.tree=none) (S:FnScope N ps scope) (hr:Room 35 (A.deeper (envOfC qual scope s.heap.objs.size f cdv))):zfD ((cxOf CX P w K mg base N qual scope f cdv A outer s H E).nox):=by
 intro pins σ H' s' I
 have I':=I.unwish
 refine PylongRoom.of I'.nolimit ?_ (SeerAt.of (I'.mod.seer.keeps I'.bk) hP I'.ok.frames S.gen S.co rfl rfl)
 have:=hr.dp
 show (A.deeper (envOfC qual scope s.heap.objs.size f cdv)).depth+100 < _
 omega
theorem Wu:MtR X "int.bit_length" (fun x vs H Q=>∃i,x=.int i∧vs=[]∧Q (.int (Builtin.Int.intBits i:Nat)) H):=by
 intro pins s σ H x xs v us Q I rx rv h
 obtain⟨i,rfl,rfl,q⟩:=h
 obtain⟨t,rfl⟩:=rx
 cases rv
 exact call_int_bit_length ⟨.int _,H,I.tok _,⟨_,rfl⟩,q⟩
theorem Qy:CallR X (.builtin "isinstance") (fun xs H Q=>∃x n t b,xs=[x,.ty n]∧TyOf X.K H x t∧W.kitOne X.K t (.type n)=some b∧Q (.bl b) H):=by
 intro pins s σ H xs us Q I r h
 obtain⟨x,n,t,b,rfl,ty,e,q⟩:=h
 obtain⟨u,c,rfl,rx,rc⟩:=vals2 r
 cases (show c=Value.type n from rc)
 exact isinst_ok I rx ty e fun tk=>⟨.bl b,H,I.tok tk,rfl,q⟩
end
noncomputable def Def (K:W.Frag) (mg:Str→Option Value) (x:Str) (st:Stmt) (ps:List Str):Prop:=
 ∃f fd,Fun K x x st f fd∧Binds K fd ps []∧mg x=some (.ref f)
noncomputable def Fn (P:Program) (w:World) (K:W.Frag) (mg:Str→Option Value) (base:Heap) (k:Nat) (x:Str) (ps:List Str) (sp:Sp):Prop:=
 ∃f fd,FnOk P w K mg base CX0 k f fd ps sp∧W.keepIn K (.ref f)=true∧Binds K fd ps []∧mg x=some (.ref f)
section
variable {P:Program}{w:World}{K:W.Frag}{mg:Str→Option Value}{base:Heap}
theorem Def.fn {x:Str}{st:Stmt}{N ps:List Str}{k:Nat}{sp:Sp} (D:Def K mg x st ps) (S:FnScope N ps (defScope st)) (len:∀vs H Q E,sp vs H Q E→vs.length=ps.length)
  (hbody:∀(f:Addr) (cdv:Value) (A:Around) (outer:List Env) (s:Shared) (H:Hp) (vs:List V) (Q:VK) (E:XK),Room k (A.deeper (envOfC x (defScope st) s.heap.objs.size f cdv))→sp vs H Q E →
   ∃t,PSs (cxOf CX0 P w K mg base N x (defScope st) f cdv A outer s H E).nox (defBody st) t∧t { nx:=fun _ H'=>Q .non H',rt:=Q } (start N vs) H):Fn P w K mg base (k+1) x ps sp:=by
 obtain⟨f,fd,F,b,m⟩:=D
 exact⟨f,fd,F.ok S len (fun cdv A outer s H vs Q E hr h=>hbody f cdv A outer s H vs Q E hr h),F.kp,b,m⟩
theorem Fn.mono {j k:Nat}{x:Str}{ps:List Str}{sp:Sp} (F:Fn P w K mg base j x ps sp) (h:j≤k):Fn P w K mg base k x ps sp:=by
 obtain⟨f,fd,F,r⟩:=F
 exact⟨f,fd,F.mono h,r⟩
theorem Fn.imp {k:Nat}{x:Str}{ps:List Str} {sp sp':Sp} (F:Fn P w K mg base k x ps sp) (h:∀vs H Q E,sp' vs H Q E→sp vs H Q E):Fn P w K mg base k x ps sp':=by
 obtain⟨f,fd,F,r⟩:=F
 exact⟨f,fd,F.imp h,r⟩
end
section
variable {X:Cx}{k:Nat}{x:Str}{ps:List Str}{sp:Sp}{p pos:Pos}{e:Expr}{es:List Expr}{t:TA}
noncomputable def tFn (sp:Sp) (t:TA):TE:=fun σ H Q=>t σ H fun vs H1=>sp vs H1 Q E0
theorem qm (F:Fn X.prog X.w X.K X.mg X.base k x ps sp) (hr:Room k X.A) (hg:Gl X x) (ha:PA X (e::es) t) (hdb:(x == ("__debug__":Str))=false:=by decide)
  (he:starEach (e::es) X.env=(false,eval e X.env)::starEach es X.env:=by rfl) (hpl:(backTo pos (starEach es X.env)).any (·.1)=false:=by rfl) :
  PE X (.Call (.Name x p) (e::es) [] pos) (tFn sp t):=by
 obtain⟨f,fd,F,kp,b,m⟩:=F
 have h:=pe_call (p:=p) (pos:=pos) (dvs:=[]) (ds:=[]) F hr hg m kp b .nil pass0 ha hdb he hpl
 intro pins s σ H Q I q
 refine h pins s σ H Q I ?_
 show t σ H fun vs H1=>sp (vs++[]) H1 Q E0
 have q':t σ H fun vs H1=>sp vs H1 Q E0:=q
 simpa only [List.append_nil] using q'
end
theorem ifD {c A B:Prop} [Decidable c] (h1:c→A) (h2:¬c→B):if decide c=true then A else B:=by
 by_cases h:c
 ·rw [if_pos (decide_eq_true h)];exact h1 h
 ·rw [if_neg (fun z=>h (of_decide_eq_true z))];exact h2 h
theorem zeM {c A B:Prop} [Decidable c] (h1:¬c→A) (h2:c→B):if (!decide c)=true then A else B:=by
 by_cases h:c
 ·rw [if_neg (by rw [decide_eq_true h];decide)];exact h2 h
 ·rw [if_pos (by rw [decide_eq_false h];decide)];exact h1 h
theorem qi:bootBuiltins "isinstance"=some (.builtin "isinstance"):=by decide +kernel
theorem Qu:bootBuiltins "int"=some (.type "int"):=by decide +kernel
theorem Xn:bootBuiltins "str"=some (.type "str"):=by decide +kernel
theorem j7:bootBuiltins "len"=some (.builtin "len"):=by decide +kernel
theorem zjQ:bootBuiltins "min"=some (.builtin "min"):=by decide +kernel
theorem zjR:bootBuiltins "zip"=some (.type "zip"):=by decide +kernel
theorem zaT:bootBuiltins "sorted"=some (.builtin "sorted"):=by decide +kernel
theorem zdD:bootBuiltins "all"=some (.builtin "all"):=by decide +kernel
theorem zaU:bootBuiltins "enumerate"=some (.type "enumerate"):=by decide +kernel
theorem zac:bootBuiltins "ValueError"=some (.type "ValueError"):=by decide +kernel
theorem at2 {α:Type} (a b:α){i:Int} (h0:0≤i) (h1:i<2):∃v,atI [a,b] i=some v∧(v=a∨v=b):=by
 rcases (by omega:i=0∨i=1) with rfl | rfl
 ·exact⟨a,rfl,.inl rfl⟩
 ·exact⟨b,rfl,.inr rfl⟩
theorem Same.put {H H':Hp}{p:Addr}{o:HO} (s:Same H H') (h:H' p=Option.none):Same H (upd H' p o):=fun b u e=>by
 have e':=s b u e
 rw [upd_ne (ne_of_none e' h)]
 exact e'
theorem Same.new {H:Hp}{p:Addr}{o:HO} (h:H p=Option.none):Same H (upd H p o):=(Same.refl H).put h
noncomputable def zdE (lo c:Int) (n:Nat):It:=⟨fun i _=>i<n,fun i H x H'=>H'=H∧x=.int (lo+i*c),fun i _=>n≤i⟩
theorem zaV {P:Program}{w:World}{K:PySem.W.Frag}{tg:Expr} (it:Addr) (lo c:Int) (n:Nat):Turn P w K tg (zdE lo c n) [it] it (fun i h=>IsRangeIter h it (lo+(i:Nat)*c) ((n:Int)-(i:Nat)) c) where
 mem:=by simp
 obj:=fun i h st b hb=>by
  have e:b=it:=by simpa using hb
  subst e
  exact⟨_,st,fun v z=>by
   have z':Data.fields _=Data.cell v:=z
   cases z'⟩
 keep:=fun i h h' st k=>k it (by simp) _ st
 item:=by
  intro X hP hw hK hc i pins s σ H E I hf st hg
  subst hP hw hK
  obtain⟨f0,f1,f2,f3,f4,f5⟩:=hf it (by simp)
  have W:=Walks.range (prog:=X.prog) (w:=X.w) (I.ok.hd hc) it lo c n
  refine W.item i s _ _ hg st fun v h' tk hv st' kk=>?_
  obtain⟨t,rfl⟩:=hv
  have I1:Inv X pins σ H { s with heap:=h',toks:=tk }:=I.turned (fun b o hb e=>kk b o (by simpa using hb) e) f0 f1 f3 f4 f5
  exact⟨_,rfl,go_of (s:={ s with heap:=h',toks:=tk }) (n:="range_iterator") st' rfl rfl (by decide) ⟨.int (lo+i*c),H,I1,⟨t,rfl⟩,⟨rfl,rfl⟩,st',fun b hb=>(hf b hb).1⟩⟩
 done:=by
  intro X hP hw hK hc i pins s σ H E I hf st hg
  subst hP hw hK
  obtain⟨f0,f1,f2,f3,f4,f5⟩:=hf it (by simp)
  exact wpAny_pyNext_range_end (I.ok.hd hc) st (by have:n≤i:=hg;omega) fun h' eb=>⟨rfl,I.turned (t':=s.toks) (fun b o hb e=>eb b o hb e) f0 f1 f3 f4 f5⟩
 self:=fun _ _ _ _ _ st h=>wpAny_pyIter_rangeiter st h
section
variable {X:Cx}{tg:Expr}
noncomputable def zjS (ta:TA):TI:=fun σ H R=>ta σ H fun vs H1=>∃(i j c:Int) (n:Nat),vs=[.int i,.int j,.int c]∧(c≠0∧c.natAbs<1073741824∧Builtin.Range.small i j c=true∧Builtin.Range.rangeSize i j c=(n:Int))∧R (zdE i c n) H1
theorem zc5 {a b c:Expr}{ta:TA}{p pos:Pos} (hg:Gl X "range") (hm:X.mg "range"=none) (ha:PA X [a,b,c] ta) (hs:starEach [a,b,c] X.env=(false,eval a X.env)::starEach [b,c] X.env:=by rfl) (hs2:(backTo pos (starEach [b,c] X.env)).any (·.1)=false:=by rfl) :
  PI X tg (.Call (.Name "range" p) [a,b,c] [] pos) (zjS ta):=by
 intro pins s σ H R I h
 refine Call_ (ld_blt I hg hm boot_range (PyProof.Rows.callWith_type1 (thn (ha pos pins s σ H _ I h) fun us s1 ⟨vs,H1,I1,r1,q1⟩=>?_) hs hs2))
 obtain⟨i,j,k,n,e,⟨q1,q2,q3,q4⟩,q⟩:=q1
 subst e
 cases r1 with
 | cons r rr=>
  cases rr with
  | cons r' rr=>
   cases rr with
   | cons r'' rr=>
    cases rr
    obtain⟨t,rfl⟩:=r
    obtain⟨t',rfl⟩:=r'
    obtain⟨t'',rfl⟩:=r''
    refine call_range_3 q1 ?_ (.inl (PyProof.noPylong_small q2))
    refine wpAny_pyIter_range (IsRange.new ..) q3 ?_
    have I2:Inv X pins σ H1 { s1 with heap:=s1.heap.push { cls:=.type "range",data:=.fields #[.int i t,.int j t',.int k t''] },toks:=s1.toks }:=I1.kept fun b o e=>Heap.get?_push_of_some _ e
    refine⟨(s1.heap.push { cls:=.type "range",data:=.fields #[.int i t,.int j t',.int k t''] }).objs.size,[(s1.heap.push { cls:=.type "range",data:=.fields #[.int i t,.int j t',.int k t''] }).objs.size],_,_,H1,rfl,
     I2.kept (t':=s1.toks) fun b o e=>Heap.get?_push_of_some _ e,zaV _ i k n,?_,fun b hb=>?_,q⟩
    ·have e1:i+((0:Nat):Int)*k=i:=by simp
     have e2:((n:Nat):Int)-((0:Nat):Int)=Builtin.Range.rangeSize i j k:=by rw [q4];simp
     show IsRangeIter _ _ (i+((0:Nat):Int)*k) (((n:Nat):Int)-((0:Nat):Int)) k
     rw [e1,e2]
     exact Heap.get?_push_size _ rfl
    ·have e:b=(s1.heap.push { cls:=.type "range",data:=.fields #[.int i t,.int j t',.int k t''] }).objs.size:=by simpa using hb
     subst e
     exact I2.fpOk (Nat.le_refl _) (I2.hok.fresh (Nat.le_refl _))
end
theorem zbP {lo c:Int}{n:Nat}{g:TG}{tb:TS}{D:Ends}{σ:St}{H:Hp} (Pv:Nat→St→Hp→Prop) (h0:Pv 0 σ H)
  (hs:∀i σ H,i<n→Pv i σ H→g (.int (lo+i*c)) σ H fun σ2 H2=>tb { D with nx:=Pv (i+1),ct:=Pv (i+1),bk:=D.nx } σ2 H2) (hd:∀σ H,Pv n σ H→D.nx σ H) :
  ∃W:Nat→Nat→St→Hp→Prop,(∃m,W 0 m σ H)∧∀i m σ H,W i m σ H →
   ((zdE lo c n).stop i H∧D.nx σ H)∨((zdE lo c n).go i H∧∃N:St→Hp→Prop,(∀σ' H',N σ' H'→∃m',m'<m∧W (i+1) m' σ' H')∧∀x H',(zdE lo c n).yld i H x H'→g x σ H' fun σ2 H2=>tb { D with nx:=N,ct:=N,bk:=D.nx } σ2 H2):=by
 refine⟨fun i m σ H=>m=n-i∧i≤n∧Pv i σ H,⟨n,by simp,Nat.zero_le _,h0⟩,?_⟩
 rintro i m σ H ⟨rfl,hi,p⟩
 by_cases hlt:i<n
 ·refine .inr ⟨hlt,Pv (i+1),fun σ' H' p'=>⟨n-(i+1),by omega,rfl,hlt,p'⟩,fun x H' y=>?_⟩
  obtain⟨e,y⟩:=y
  subst e y
  exact hs i σ _ hlt p
 ·have e:i=n:=by omega
  subst e
  exact .inl ⟨Nat.le_refl _,hd σ H p⟩
def j9 (env:Env):List (Str×NameKind)→List (Str×Addr)→List (Str×Addr)
 | [],acc=>acc
 | (n,k)::r,acc=>if k == .free then j9 env r ((n,(env.cells.lookup n).getD 0)::acc) else j9 env r acc
theorem Ju {scope:Scope}{env:Env} (h:∀p∈scope.names,p.2=.free→∃c,env.cells.lookup p.1=some c):closureFor scope env=pure (j9 env scope.names []):=by
 unfold closureFor
 have key:∀(names:List (Str×NameKind)) (acc:List (Str×Addr)),(∀p∈names,p.2=.free→∃c,env.cells.lookup p.1=some c) →
   (forIn names acc (fun(x:Str×NameKind) (cs:List (Str×Addr))=>match x with
    | (name,kind)=>if (kind == NameKind.free)=true then (cellOf env name >>= fun c=>pure (ForInStep.yield ((name,c)::cs))) else pure (ForInStep.yield cs)):Sem (List (Str×Addr)))=pure (j9 env names acc):=by
  intro names
  induction names with
  | nil=>intro acc _;rfl
  | cons p r ih=>
   intro acc hp
   obtain⟨n,k⟩:=p
   have hr:∀p∈r,p.2=.free→∃c,env.cells.lookup p.1=some c:=fun p hm=>hp p (List.mem_cons_of_mem _ hm)
   rw [List.forIn_cons]
   by_cases hk:k=.free
   ·subst hk
    obtain⟨c,hc⟩:=hp (n,.free) List.mem_cons_self rfl
    have hc:env.cells.lookup n=some c:=hc
    have e1:cellOf env n=pure c:=by unfold cellOf;rw [hc]
    have e2:j9 env ((n,.free)::r) acc=j9 env r ((n,c)::acc):=by
     show j9 env r ((n,(env.cells.lookup n).getD 0)::acc)=_
     rw [hc];rfl
    simp only [beq_self_eq_true,if_true,e1,pure_bind]
    rw [e2]
    exact ih _ hr
   ·have hb:(k == NameKind.free)=false:=by simpa using hk
    have e2:j9 env ((n,k)::r) acc=j9 env r acc:=by
     show (if (k == NameKind.free)=true then j9 env r ((n,(env.cells.lookup n).getD 0)::acc) else j9 env r acc)=_
     rw [hb];rfl
    simp only [hb,Bool.false_eq_true,if_false,pure_bind]
    rw [e2]
    exact ih _ hr
 have k0:=key scope.names [] h
 show (forIn scope.names ([]:List (Str×Addr)) _ >>= fun r=>pure r)=_
 refine Eq.trans (congrArg (fun m=>m >>= fun r=>pure r) k0) ?_
 rfl
theorem X7 {env:Env}:∀{names:List (Str×NameKind)}{acc:List (Str×Addr)},(∀p∈names,p.2=.free→∃c,env.cells.lookup p.1=some c)→(∀x c,acc.lookup x=some c→env.cells.lookup x=some c) →
  ∀x c,(j9 env names acc).lookup x=some c→env.cells.lookup x=some c
 | [],_,_,ha,x,c,h=>ha x c h
 | (n,k)::r,acc,hp,ha,x,c,h=>by
  have hr:∀p∈r,p.2=.free→∃c,env.cells.lookup p.1=some c:=fun p hm=>hp p (List.mem_cons_of_mem _ hm)
  by_cases hk:k=.free
  ·subst hk
   obtain⟨d,hd⟩:=hp (n,.free) List.mem_cons_self rfl
   have hd:env.cells.lookup n=some d:=hd
   have e2:j9 env ((n,.free)::r) acc=j9 env r ((n,d)::acc):=by
    show j9 env r ((n,(env.cells.lookup n).getD 0)::acc)=_
    rw [hd];rfl
   rw [e2] at h
   refine X7 hr (fun y e hy=>?_) x c h
   rw [List.lookup_cons] at hy
   cases hyn:y == n with
   | true=>rw [hyn] at hy;cases hy;rw [beq_iff_eq.mp hyn];exact hd
   | false=>rw [hyn] at hy;exact ha y e hy
  ·have hb:(k == NameKind.free)=false:=by simpa using hk
   have e2:j9 env ((n,k)::r) acc=j9 env r acc:=by
    show (if (k == NameKind.free)=true then j9 env r ((n,(env.cells.lookup n).getD 0)::acc) else j9 env r acc)=_
    rw [hb];rfl
   rw [e2] at h
   exact X7 hr ha x c h
theorem Xo {env:Env}:∀{names:List (Str×NameKind)}{acc:List (Str×Addr)}{x:Str},((x,NameKind.free)∈names∨∃c,acc.lookup x=some c)→∃c,(j9 env names acc).lookup x=some c
 | [],_,_,h=>h.elim (fun z=>nomatch z) id
 | (n,k)::r,acc,x,h=>by
  by_cases hk:k=.free
  ·subst hk
   show ∃c,(j9 env r ((n,(env.cells.lookup n).getD 0)::acc)).lookup x=some c
   refine Xo ?_
   by_cases hx:x=n
   ·subst hx;exact .inr ⟨_,by rw [List.lookup_cons,beq_self_eq_true]⟩
   ·rcases h with h | ⟨c,h⟩
    ·rcases List.mem_cons.mp h with e | e
     ·cases e;exact absurd rfl hx
     ·exact .inl e
    ·exact .inr ⟨c,by rw [List.lookup_cons,beq_eq_false_iff_ne.mpr hx];exact h⟩
  ·have hb:(k == NameKind.free)=false:=by simpa using hk
   have e2:j9 env ((n,k)::r) acc=j9 env r acc:=by
    show (if (k == NameKind.free)=true then j9 env r ((n,(env.cells.lookup n).getD 0)::acc) else j9 env r acc)=_
    rw [hb];rfl
   rw [e2]
   refine Xo ?_
   rcases h with h | h
   ·rcases List.mem_cons.mp h with e | e
    ·cases e;exact absurd rfl hk
    ·exact .inl e
   ·exact .inr h
section
variable {prog:Program}{w:World}{A:Around}
theorem Qz {elt target iter:Expr}{ifs:List Expr}{scope:Scope}{pos:Pos}{it acc:Value}{env:Env}{s:Shared}{R:Result→Shared→Prop} (I:Nat→Shared→Prop)
  (turn:∀n s,I n s→wpAny (model prog w) A (pyNext it) (fun r s₁=>match r with
   | none=>R (.ok .next) s₁
   | some v=>wpAny (model prog w) A (letOwnedTupleGo target it v) (fun _ s₁'=>wpAny (model prog w) A (assign target env v) (fun _ s₂=>
     wpAny (model prog w) A (forIn ifs true fun c r=>if r=true then do let ok ← isTrue c env (eval c env);pure (ForInStep.yield ok) else pure (ForInStep.yield r)) (fun ok s₃=>
      if ok=true then wpAny (model prog w) A (eval elt env) (fun x s₄=>wpAny (model prog w) A (call (.builtin "list.append") [acc,x]) (fun _ s₅=>∃m,m<n∧I m s₅) (fun _ _=>False) s₄) (fun _ _=>False) s₃
      else ∃m,m<n∧I m s₃) (fun _ _=>False) s₂) (fun _ _=>False) s₁') (fun _ _=>False) s₁) (fun _ _=>False) s)
  (n:Nat) (h:I n s):codeAny (model prog w) A (.compLoop (.ListComp elt [⟨target,iter,ifs,0⟩] scope pos) 0 it acc env) R s:=by
 refine codeAny_loop rfl I (fun n s hI=>?_) n h
 show wpAny _ A ((compTurn (.ListComp elt [⟨target,iter,ifs,0⟩] scope pos) 0 it acc env).onRaise (fun x=>do noteFrame x env;theTreesLotGoes x)) _ _ s
 refine wpAny_noted ?_
 rw [compTurn_list]
 refine wpAny_bind (wpAny_standAt (wpAny_bind (wpAny_mono (turn n s hI) (fun r s₁ h₁=>?_) fun _ _ h'=>h'.elim)))
 cases r with
 | none=>exact wpAny_pure h₁
 | some v=>
  refine wpAny_bind (wpAny_mono h₁ (fun _ s₁' h₁'=>?_) fun _ _ h'=>h'.elim)
  refine wpAny_bind (wpAny_mono h₁' (fun _ s₂ h₂=>wpAny_bind (wpAny_mono h₂ (fun ok s₃ h₃=>?_) fun _ _ h'=>h'.elim)) fun _ _ h'=>h'.elim)
  cases ok with
  | false=>exact wpAny_pure ⟨rfl,h₃⟩
  | true=>exact wpAny_bind (wpAny_bind (wpAny_mono h₃ (fun x s₄ h₄=>wpAny_bind (wpAny_mono h₄ (fun _ s₅ h₅=>wpAny_pure (wpAny_pure ⟨rfl,h₅⟩)) fun _ _ h'=>h'.elim)) fun _ _ h'=>h'.elim))
end
abbrev qe (X:Cx) (pins:List (Addr×Obj)) (N:List Str) (scope:Scope) (C:Addr) (sF:Shared) (HF:Hp) (fp:List Addr):Cx where
 prog:=X.prog
 w:=X.w
 K:=X.K
 mg:=X.mg
 base:=X.base
 A:=X.A
 N:=N
 s₀:=sF
 H₀:=HF
 env:=compEnvC scope (j9 X.env scope.names []) C X.env
 outer:=X.stack
 stack:=X.stack
 ex:=fp
 fn:=fun _=>false
 calm:=X.calm
 pn:=X.pn++pins
 xe:=fun _ _=>False
noncomputable def qC (own:Nat) (ix:List Nat) (σ:St):St:=List.replicate own none++ix.map fun i=>(σ[i]?).getD none
noncomputable def Jv (J:It) (own:Nat) (ix:List Nat) (g:TG) (tt:TT) (te:TE) (σ:St) (H1:Hp) (acc:Addr) (Q:VK):Prop:=
 ∃W:Nat→Nat→List V→Hp→Prop,(∃m,W 0 m [] (upd H1 acc (.lst [])))∧∀i m ys H2,W i m ys H2 →
  H2 acc=some (.lst ys)∧((J.stop i H2∧Q (.ref acc) H2)∨(J.go i H2∧ys.length<sizeLine∧∀x H3,J.yld i H2 x H3→g x (qC own ix σ) H3 fun σ4 H4=>σ4.drop own=ix.map (fun i=>(σ[i]?).getD none)∧tt σ4 H4 fun ok H5=>
   if ok=true then te σ4 H5 fun y H6=>H6 acc=some (.lst ys)∧∃m',m'<m∧W (i+1) m' (ys++[y]) (upd H6 acc (.lst (ys++[y])))
   else ∃m',m'<m∧W (i+1) m' ys H5))
noncomputable def zdF (wi:TI) (own:Nat) (ix:List Nat) (g:TG) (tt:TT) (te:TE):TE:=fun σ H Q=>wi σ H fun J H1=>∀acc,H1 acc=none→Jv J own ix g tt te σ H1 acc Q
noncomputable def Z1:TT:=fun _ H Q=>Q true H
noncomputable def PTs (X:Cx) (ifs:List Expr) (t:TT):Prop:=
 ∀(pins:List (Addr×Obj)) (s:Shared) (σ:St) (H:Hp) (Q:Bool→Hp→Prop),Inv X pins σ H s→t σ H Q →
  wpAny (model X.prog X.w) X.A (forIn ifs true fun c r=>if r=true then do let ok ← isTrue c X.env (eval c X.env);pure (ForInStep.yield ok) else pure (ForInStep.yield r)) (TP X pins σ Q) X.xe s
theorem kW {X:Cx}:PTs X [] Z1:=fun _ _ _ H _ I h=>wpAny_tests_nil ⟨H,I,h⟩
structure V8 (X:Cx) (scope:Scope) (own:List Str) (fr:List Str) (ix:List Nat):Prop where
 kind:scope.kind=.function
 nocell:∀y∈scope.names,y.2≠.cell
 names:∀y∈scope.names,y.2=.local→scope.names.lookup y.1=some .local
 free:∀p∈scope.names,p.2=.free→∃c,X.env.cells.lookup p.1=some c
 frd:∀x∈fr,(x,NameKind.free)∈scope.names∧X.env.kindOf x=some .cell∧scope.names.lookup x=some .free
 len:fr.length=ix.length
 at_:∀(j:Nat) x i,fr[j]?=some x→ix[j]?=some i→X.N[i]?=some x
structure Kq (X:Cx) (scope:Scope) (own:List Str) (fr:List Str) (ix:List Nat):Prop where
 kind:scope.kind=.function
 nocell:(scope.names.all fun y=>y.2 != .cell)=true
 names:(scope.names.all fun y=>y.2 != .local || scope.names.lookup y.1 == some .local)=true
 free:(scope.names.all fun p=>p.2 != .free || X.env.kindOf p.1 == some .cell)=true
 frd:(fr.all fun x=>X.env.kindOf x == some .cell && scope.names.lookup x == some .free)=true
 at_:(ix.map fun i=>X.N[i]?)=fr.map some
theorem mem_of_lookup {x:Str}{k:NameKind}:∀{names:List (Str×NameKind)},names.lookup x=some k→(x,k)∈names
 | [],h=>by simp at h
 | (n,k')::r,h=>by
  rw [List.lookup_cons] at h
  cases hx:x == n with
  | true=>
   rw [hx] at h
   cases h
   rw [beq_iff_eq.mp hx]
   exact List.mem_cons_self
  | false=>
   rw [hx] at h
   exact List.mem_cons_of_mem _ (mem_of_lookup h)
theorem Kq.ok {X:Cx}{scope:Scope}{own fr:List Str}{ix:List Nat} (B:Kq X scope own fr ix) (ok:X.Ok):V8 X scope own fr ix where
 kind:=B.kind
 nocell:=fun y hy=>by simpa using List.all_eq_true.mp B.nocell y hy
 names:=fun y hy hl=>by
  have:=List.all_eq_true.mp B.names y hy
  rw [hl] at this
  simpa using this
 free:=fun p hp hf=>by
  have:=List.all_eq_true.mp B.free p hp
  rw [hf] at this
  exact ok.has p.1 (.inl (by simpa using this))
 frd:=fun x hx=>by
  have:=List.all_eq_true.mp B.frd x hx
  rw [Bool.and_eq_true] at this
  have h2:scope.names.lookup x=some .free:=by simpa using this.2
  exact⟨mem_of_lookup h2,by simpa using this.1,h2⟩
 len:=by
  have:=congrArg List.length B.at_
  simpa using this.symm
 at_:=fun j x i hx hi=>by
  have e:=congrArg (fun l=>l[j]?) B.at_
  simp only [List.getElem?_map,hx,hi,Option.map_some] at e
  exact Option.some.inj e
theorem Xp {env:Env} (hf:env.scope.kind=.function):∀{names:List (Str×NameKind)}{x:Str},names.lookup x=some .free→env.kindOf x=some .cell →
  (names.map fun(n,k)=>if (k == NameKind.free && env.scope.kind == .function && env.kindOf n == some .cell) then (n,NameKind.cell) else (n,k)).lookup x=some .cell
 | [],_,h,_=>by simp at h
 | (n,k)::r,x,h,hx=>by
  have ih:=@Xp env hf r x
  show List.lookup x ((if (k == NameKind.free && env.scope.kind == .function && env.kindOf n == some .cell)=true then (n,NameKind.cell) else (n,k))::_)=_
  cases hxn:x == n with
  | true=>
   have e:=beq_iff_eq.mp hxn
   subst e
   simp only [List.lookup_cons,hxn] at h
   cases h
   rw [if_pos (by rw [hf,hx];rfl)]
   simp only [List.lookup_cons,hxn]
  | false=>
   simp only [List.lookup_cons,hxn] at h
   by_cases hc:(k == NameKind.free && env.scope.kind == .function && env.kindOf n == some .cell)=true
   ·rw [if_pos hc];simp only [List.lookup_cons,hxn];exact ih h hx
   ·rw [if_neg hc];simp only [List.lookup_cons,hxn];exact ih h hx
theorem Vz {env:Env}:∀{names:List (Str×NameKind)}{x:Str},(∀y∈names,y.2≠.cell) →
    ((names.map fun(n,k)=>if (k == NameKind.free && env.scope.kind == .function && env.kindOf n == some .cell) then (n,NameKind.cell) else (n,k)).lookup x=some .cell ∨
     (names.map fun(n,k)=>if (k == NameKind.free && env.scope.kind == .function && env.kindOf n == some .cell) then (n,NameKind.cell) else (n,k)).lookup x=some .free)→(x,NameKind.free)∈names
  | [],_,_,h=>by simp at h
  | (n,k)::r,x,hn,h=>by
    have ih:=@Vz env r x (fun y hy=>hn y (List.mem_cons_of_mem _ hy))
    have hk:k≠.cell:=hn (n,k) List.mem_cons_self
    have h':List.lookup x ((if (k == NameKind.free && env.scope.kind == .function && env.kindOf n == some .cell)=true then (n,NameKind.cell) else (n,k))::r.map fun(n,k)=>if (k == NameKind.free && env.scope.kind == .function && env.kindOf n == some .cell) then (n,NameKind.cell) else (n,k))=some .cell ∨
      List.lookup x ((if (k == NameKind.free && env.scope.kind == .function && env.kindOf n == some .cell)=true then (n,NameKind.cell) else (n,k))::r.map fun(n,k)=>if (k == NameKind.free && env.scope.kind == .function && env.kindOf n == some .cell) then (n,NameKind.cell) else (n,k))=some .free:=h
    by_cases hc:(k == NameKind.free && env.scope.kind == .function && env.kindOf n == some .cell)=true
    · have hf:k=.free:=by
        rw [Bool.and_eq_true,Bool.and_eq_true] at hc
        exact beq_iff_eq.mp hc.1.1
      subst hf
      cases hxn:x == n with
      | true=>rw [beq_iff_eq.mp hxn];exact List.mem_cons_self
      | false=>
        rw [if_pos hc] at h'
        simp only [List.lookup_cons,hxn] at h'
        exact List.mem_cons_of_mem _ (ih h')
    · rw [if_neg hc] at h'
      cases hxn:x == n with
      | true=>
        simp only [List.lookup_cons,hxn] at h'
        rcases h' with e | e
        · cases e;exact absurd rfl hk
        · cases e;rw [beq_iff_eq.mp hxn];exact List.mem_cons_self
      | false=>
        simp only [List.lookup_cons,hxn] at h'
        exact List.mem_cons_of_mem _ (ih h')
section
variable {X:Cx}{pins:List (Addr×Obj)}{σ:St}{H:Hp}{s:Shared}
theorem VB {scope:Scope}{own fr:List Str}{ix:List Nat}{C:Addr}{h₁:Heap}{tk:Nat}{fp:List Addr}{m:Str→Option Value} (I:Inv X pins σ H s) (B:V8 X scope own fr ix) (hC:C=s.heap.objs.size)
  (hf:∀b∈fp,FpOk X pins H b) (hb:∀b∈fp,∃o,s.heap.get? b=some o) (old:∀b o,s.heap.get? b=some o→h₁.get? b=some o) (hns:h₁.Ns C m) :
  Inv (qe X pins (own++fr) scope C s H fp) [] (qC own.length ix σ) H { s with heap:=h₁,toks:=tk }:=by
 have look:∀x c,(j9 X.env scope.names []).lookup x=some c→X.env.cells.lookup x=some c:=X7 B.free (fun _ _ z=>by cases z)
 have lt:∀b o,s.heap.get? b=some o→b≠C:=fun b o e=>by rw [hC];exact Nat.ne_of_lt (Heap.lt_size e)
 have ok:(qe X pins (own++fr) scope C s H fp).Ok:={
  mod:=I.ok.mod
  kind:=B.kind
  glob:=I.ok.glob
  blt:=I.ok.blt
  above:=by show s.heap.objs.size≤C;rw [hC];exact Nat.le_refl _
  inj:=fun x y c a b=>I.ok.inj x y c (look x c a) (look y c b)
  has:=fun x hx=>Xo (.inl (Vz B.nocell hx))
  cab:=fun x c z=>nomatch z
  hd:=I.ok.hd
  frames:=I.ok.frames
  stk:=.inl rfl
  exf:=fun b hbf=>⟨by obtain⟨o,e⟩:=hb b hbf;exact lt b o e,fun x c e=>(hf b hbf).2.2.2.2.1 x c (look x c e)⟩
  bs:=I.bs
  bsz:=Nat.le_trans I.ok.bsz I.sz
  noex:=fun b o e hbf=>by
   rcases (hf b hbf).2.2.2.1 with z | z
   ·exact I.ok.noex b o e z
   ·exact absurd (Nat.lt_of_lt_of_le (Heap.lt_size e) (Nat.le_trans I.ok.bsz z)) (Nat.lt_irrefl _)
  exfs:=fun b hbf hs=>by
   rcases List.mem_cons.mp (I.stkSub b hs) with z | z
   ·exact(hf b hbf).2.1 z
   ·exact(hf b hbf).2.2.1 z
  funs:=I.stack
  frf:=I.stkFree }
 refine⟨ok,rfl,I.bare,Un.kept old,⟨m,hns,fun i x v e1 e2 e3=>?_⟩,fun x c e=>?_,?_,fun x c e=>I.freeC x c (look x c e),fun p hp=>?_,I.hok.kept old,?_⟩
 ·have e1:(own++fr)[i]?=some x:=e1
  have e2:(List.replicate own.length none++ix.map fun i=>(σ[i]?).getD none)[i]?=some (some v):=e2
  by_cases hi:i<own.length
  ·rw [List.getElem?_append_left (by rw [List.length_replicate];exact hi),List.getElem?_replicate,if_pos hi] at e2
   cases e2
  ·rw [List.getElem?_append_right (by omega)] at e1
   rw [List.getElem?_append_right (by rw [List.length_replicate];omega),List.length_replicate,List.getElem?_map] at e2
   obtain⟨i',hi',e4⟩:=Option.map_eq_some_iff.mp e2
   have e5:σ[i']?=some (some v):=by
    cases z:σ[i']? with
    | none=>rw [z] at e4;cases e4
    | some y=>rw [z] at e4;exact congrArg some e4
   have hm:x∈fr:=List.mem_of_getElem? e1
   obtain⟨f1,f2,f3⟩:=B.frd x hm
   obtain⟨mX,_,hl⟩:=I.loc
   obtain⟨u,r,l⟩:=hl i' x v (B.at_ _ x i' e1 hi') e5 (.inr (.inl f2))
   rcases l with ⟨l,_⟩ | ⟨_,c,ec,z⟩
   ·rw [f2] at l;cases l
   ·obtain⟨c',ec'⟩:=Xo (env:=X.env) (names:=scope.names) (acc:=[]) (x:=x) (.inl f1)
    have:=look x c' ec'
    rw [ec] at this
    cases this
    obtain⟨o,ho,hd⟩:=z
    exact⟨u,r,.inr ⟨.inl (Xp I.ok.kind f3 f2),c,ec',o,old _ _ ho,hd⟩⟩
 ·obtain⟨v,o,ho,hd⟩:=I.cell x c (look x c e)
  exact⟨v,o,old _ _ ho,hd⟩
 ·show H C=none
  rw [hC];exact I.hok.fresh (Nat.le_refl _)
 ·have hp':p∈X.pn++pins:=by simpa using hp
  obtain⟨e,n,ne,nf,d⟩:=I.pin p hp'
  refine⟨old _ _ e,n,lt _ _ e,fun z=>?_,d⟩
  rcases List.mem_cons.mp (I.stkSub _ z) with q | q
  ·exact ne q
  ·exact nf q
 ·show (List.replicate own.length none++ix.map fun i=>(σ[i]?).getD none).length=(own++fr).length
  rw [List.length_append,List.length_append,List.length_replicate,List.length_map,B.len]
theorem X8 {N:List Str}{scope:Scope}{C:Addr}{fp:List Addr} {σ':St} {H':Hp} {s':Shared} {h'':Heap}{pl:List (Addr×Obj)} (I:Inv X pins σ H s) (hf:∀b∈fp,FpOk X pins H b) (hC:C=s.heap.objs.size)
  (J:Inv (qe X pins N scope C s H fp) pl σ' H' s') (hs:Heap.SameBut C s'.heap h''):Inv X pins σ H' { s' with heap:=h'' }:=by
 have u:=J.base
 have k:∀b o,b≠C→s'.heap.get? b=some o→h''.get? b=some o:=fun b o hb e=>hs.extBut b o hb e
 have hn:H' C=none:=J.free
 have lt:∀b o,s.heap.get? b=some o→b≠C:=fun b o e=>by rw [hC];exact Nat.ne_of_lt (Heap.lt_size e)
 refine I.call' (s':={ s' with heap:=h'' }) (ch:=fp) J.os ?_ ?_ J.bare fun b hb=>⟨(hf b hb).2.2.2.1,(hf b hb).2.1,(hf b hb).2.2.2.2.1,(hf b hb).2.2.2.2.2⟩
 ·exact⟨fun b o q n hb he=>k b o (lt b o q) (u.keep b o q n hb he),fun b o q n hb he=>by
    obtain⟨sl,e⟩:=u.slot b o q n hb he
    exact⟨sl,k b _ (lt b o q) e⟩,u.free,fun b o q he=>by
    obtain⟨o',e⟩:=u.there b o q he
    exact⟨o',k b _ (lt b o q) e⟩,u.tups,u.frzs,u.tbls⟩
 ·intro b o e
  have nit:∀b u,H' b=some u→b≠C:=fun b u e z=>by rw [z,hn] at e;cases e
  refine(J.hok b o e).stay (fun c v hc q=>k c v ?_ q) (fun _ q=>q) fun _ _ q=>q
  rcases hc with z | z
  ·rw [z];exact nit b o e
  ·exact nit c _ z
theorem Kr {tg iter elt:Expr}{ifs:List Expr}{scope:Scope}{own fr:List Str}{ix:List Nat}{g:TG}{tt:TT}{te:TE}{pos:Pos}{Q:VK}{sF:Shared}{HF:Hp}{C acc it:Addr}{h₁:Heap}{fp:List Addr}{tn:Nat→Heap→Prop}{J:It}{W:Nat→Nat→List V→Hp→Prop}{m:Str→Option Value}{m0:Nat}{RR:Result→Shared→Prop}
  (hc:X.calm=true) (B:V8 X scope own fr ix)
  (hg:∀pins C sF HF fp,PG (qe X pins (own++fr) scope C sF HF fp) tg g) (ht:∀pins C sF HF fp,PTs (qe X pins (own++fr) scope C sF HF fp) ifs tt) (he:∀pins C sF HF fp,PE (qe X pins (own++fr) scope C sF HF fp) elt te)
  (I3:Inv X pins σ HF sF) (T:Turn X.prog X.w X.K tg J fp it tn) (st3:tn 0 sF.heap) (f3:∀b∈fp,FpOk X pins HF b) (f3':∀b∈fp,∃o,sF.heap.get? b=some o) (hC:sF.heap.objs.size=C) (old:∀b o,sF.heap.get? b=some o→h₁.get? b=some o) (hns₁:h₁.Ns C m)
  (w0:W 0 m0 [] HF) (turn:∀i m ys H2,W i m ys H2→H2 acc=some (.lst ys)∧((J.stop i H2∧Q (.ref acc) H2)∨(J.go i H2∧ys.length<sizeLine∧∀x H3,J.yld i H2 x H3→g x (qC own.length ix σ) H3 fun σ4 H4=>σ4.drop own.length=ix.map (fun i=>(σ[i]?).getD none)∧tt σ4 H4 fun ok H5=>
   if ok=true then te σ4 H5 fun y H6=>H6 acc=some (.lst ys)∧∃m',m'<m∧W (i+1) m' (ys++[y]) (upd H6 acc (.lst (ys++[y])))
   else ∃m',m'<m∧W (i+1) m' ys H5)))
  (fin:∀s6 H5,Inv (qe X pins (own++fr) scope C sF HF fp) [] (qC own.length ix σ) H5 s6→Q (.ref acc) H5→RR (.ok .next) s6) :
  codeAny (model X.prog X.w) X.A (.compStart (.ListComp elt [⟨tg,iter,ifs,0⟩] scope pos) 0 (.ref it) (.ref acc) (compEnvC scope (j9 X.env scope.names []) C X.env)) RR
   { sF with heap:=h₁,toks:=sF.toks+([]:List (Str×Value)).length }:=by
 have J0:Inv (qe X pins (own++fr) scope C sF HF fp) [] (qC own.length ix σ) HF { sF with heap:=h₁,toks:=sF.toks+([]:List (Str×Value)).length }:=VB I3 B hC.symm f3 f3' old hns₁
 have st4:tn 0 h₁:=T.keep _ _ _ st3 fun b _ o e=>old b o e
 have fY:∀{pl:List (Addr×Obj)} {H':Hp},(∀b∈fp,H' b=none)→(∀p∈pl,p.1 ∉ fp)→∀b∈fp,FpOk (qe X pins (own++fr) scope C sF HF fp) pl H' b:=fun {pl H'} hn hp b hb=>by
  refine⟨hn b hb,(J0.ok.exf b hb).1,J0.ok.exfs b hb,.inl hb,(J0.ok.exf b hb).2,fun p hpm=>?_⟩
  rcases List.mem_append.mp hpm with z | z
  ·exact(f3 b hb).2.2.2.2.2 p z
  ·exact fun e=>hp p z (by rw [e];exact hb)
 have weak:∀{pl:List (Addr×Obj)}{σ4:St}{H4:Hp}{s4:Shared},Inv (qe X pins (own++fr) scope C sF HF fp) pl σ4 H4 s4→σ4.drop own.length=ix.map (fun i=>(σ[i]?).getD none)→Inv (qe X pins (own++fr) scope C sF HF fp) pl (qC own.length ix σ) H4 s4:=fun {pl σ4 H4 s4} J e=>by
  refine J.weak ?_ fun i v hv=>?_
  ·have:=J.len
   have:=J0.len
   omega
  ·have hv':(List.replicate own.length none++ix.map fun i=>(σ[i]?).getD none)[i]?=some (some v):=hv
   by_cases hi:i<own.length
   ·rw [List.getElem?_append_left (by rw [List.length_replicate];exact hi),List.getElem?_replicate,if_pos hi] at hv'
    cases hv'
   ·rw [List.getElem?_append_right (by rw [List.length_replicate];omega),List.length_replicate,← e,List.getElem?_drop] at hv'
    rw [show own.length+(i-own.length)=i by omega] at hv'
    exact hv'
 have loop:∀s4:Shared,s4={ sF with heap:=h₁,toks:=sF.toks+([]:List (Str×Value)).length } →
   codeAny (model X.prog X.w) X.A (.compLoop (.ListComp elt [⟨tg,iter,ifs,0⟩] scope pos) 0 (.ref it) (.ref acc) (compEnvC scope (j9 X.env scope.names []) C X.env)) RR s4:=by
  rintro s4 rfl
  refine Qz (fun n s'=>∃i ys H',Inv (qe X pins (own++fr) scope C sF HF fp) [] (qC own.length ix σ) H' s'∧tn i s'.heap∧(∀b∈fp,H' b=none)∧W i n ys H') ?_ m0 ⟨0,[],HF,J0,st4,fun b hb=>(f3 b hb).1,w0⟩
  rintro n s5 ⟨i,ys,H5,J5,st5,fr5,w5⟩
  obtain⟨ha,hturn⟩:=turn i n ys H5 w5
  rcases hturn with ⟨stop,qn⟩ | ⟨go,hsz,step⟩
  ·refine thn (T.done (qe X pins (own++fr) scope C sF HF fp) rfl rfl rfl hc i [] s5 _ H5 (fun _ _=>False) J5 (fY fr5 (fun _ z=>by cases z)) st5 stop) fun r s6 ⟨hr,J6⟩=>?_
   subst hr
   exact fin s6 H5 J6 qn
  ·refine thn (T.item (qe X pins (own++fr) scope C sF HF fp) rfl rfl rfl hc i [] s5 _ H5 (fun _ _=>False) J5 (fY fr5 (fun _ z=>by cases z)) st5 go) fun r s6 ⟨u,hr,h6⟩=>?_
   subst hr
   refine thn h6 fun _ s7 ⟨x,H7,J7,r7,y7,st7,fr7⟩=>?_
   have J7':=J7.pinned (fY fr7 (fun _ z=>by cases z)) (T.obj _ _ st7)
   refine thn (hg pins C sF HF fp _ s7 _ H7 x u _ J7' r7 (step x H7 y7)) fun _ s8 ⟨σ8,H8,J8,k8,q8⟩=>?_
   have back:∀{s9:Shared}{H9:Hp},Inv (qe X pins (own++fr) scope C sF HF fp) ([]++pinsAt fp s7.heap) σ8 H9 s9→Inv (qe X pins (own++fr) scope C sF HF fp) [] (qC own.length ix σ) H9 s9∧tn (i+1) s9.heap∧∀b∈fp,H9 b=none:=fun {s9 H9} J9=>by
    refine⟨weak J9.unpinned k8,T.keep _ _ _ st7 fun b hb o e=>(J9.pin (b,o) (List.mem_append_right _ (List.mem_append_right _ (mem_pinsAt hb e)))).1,fun b hb=>?_⟩
    obtain⟨o,e,d⟩:=T.obj _ _ st7 b hb
    exact(J9.pin (b,o) (List.mem_append_right _ (List.mem_append_right _ (mem_pinsAt hb e)))).2.1
   refine thn (ht pins C sF HF fp _ s8 σ8 H8 _ J8 q8) fun ok s9 ⟨H9,J9,q9⟩=>?_
   cases ok with
   | false=>
    obtain⟨m',hm,w9⟩:=q9
    obtain⟨b1,b2,b3⟩:=back J9
    exact⟨m',hm,i+1,ys,H9,b1,b2,b3,w9⟩
   | true=>
    refine thn (he pins C sF HF fp _ s9 σ8 H9 _ J9 q9) fun v s10 ⟨y,H10,J10,r10,a10,m',hm,w10⟩=>?_
    refine thn (mt_append _ s10 σ8 H10 (.ref acc) [y] (.ref acc) [v] (fun _ H'=>H'=upd H10 acc (.lst (ys++[y]))) J10 rfl (.cons r10 .nil) ⟨acc,ys,y,rfl,rfl,a10,hsz,rfl⟩) fun _ s11 ⟨_,H11,J11,_,e11⟩=>?_
    subst e11
    obtain⟨b1,b2,b3⟩:=back J11
    exact⟨m',hm,i+1,ys++[y],_,b1,b2,b3,w10⟩
 exact codeAny_compStart_list (loop _ rfl) (T.self _ 0 _ _ _ st4 (loop _ rfl))
theorem Z2 {tg iter elt:Expr}{ifs:List Expr}{scope:Scope}{own fr:List Str}{ix:List Nat}{wi:TI}{g:TG}{tt:TT}{te:TE}{pos:Pos} (hc:X.calm=true) (BB:Kq X scope own fr ix) (hi:PI X tg iter wi)
  (hg:∀pins C sF HF fp,PG (qe X pins (own++fr) scope C sF HF fp) tg g) (ht:∀pins C sF HF fp,PTs (qe X pins (own++fr) scope C sF HF fp) ifs tt) (he:∀pins C sF HF fp,PE (qe X pins (own++fr) scope C sF HF fp) elt te)
  (hs:∀x,foldedSetIterable iter X.env x=pure x:=by intro _;rfl):PE X (.ListComp elt [⟨tg,iter,ifs,0⟩] scope pos) (zdF wi own.length ix g tt te):=by
 intro pins s σ H Q I h
 have B:=BB.ok I.ok
 rw [eval_ListComp]
 refine wpAny_comprehension_free (use:=none) rfl hs (Ju B.free) B.kind B.names (thn (hi pins s σ H _ I h) fun xv s1 h1=>thn h1 fun itv s2 h2=>?_)
 obtain⟨it,fp,tn,J,H2,rfl,I2,T,st2,f2,R⟩:=h2
 refine wpAny_newObj_type (wpAny_newFunctionEnv B.nocell (by intro y hy;simp at hy) (fun h₁ hns₁ hsb₁=>?_) B.kind)
 dsimp only at hns₁ hsb₁
 have I3:=I2.lnew (t':=s2.toks) (its:=[]) (ys:=[]) .nil (Nat.zero_le _)
 obtain⟨W,⟨m0,w0⟩,turn⟩:=R _ I2.fresh
 have fF:∀b∈fp,∃o,s2.heap.get? b=some o:=fun b hb=>let ⟨o,e,_⟩:=T.obj _ _ st2 b hb;⟨o,e⟩
 have zc6:∀b∈fp,b≠s2.heap.objs.size:=fun b hb=>let ⟨o,e⟩:=fF b hb;Nat.ne_of_lt (Heap.lt_size e)
 have push:∀b o,s2.heap.get? b=some o→(s2.heap.push { cls:=.type "list",data:=.seq ([]:List Value).toArray }).get? b=some o:=fun b o e=>Heap.get?_push_of_some _ e
 exact Kr hc B hg ht he I3 T (T.keep _ _ _ st2 fun b _ o e=>push b o e) (fun b hb=>⟨by rw [upd_ne (zc6 b hb)];exact(f2 b hb).1,(f2 b hb).2⟩) (fun b hb=>let ⟨o,e⟩:=fF b hb;⟨o,push b o e⟩) rfl
  (fun b o e=>hsb₁.extBut b o (Nat.ne_of_lt (Heap.lt_size e)) (Heap.get?_push_of_some _ e)) hns₁ w0 turn fun s6 H5 J6 qn=>by
   obtain⟨m6,hn6,_⟩:=J6.loc
   exact⟨m6,hn6,fun h' hs'=>⟨.ref _,H5,X8 I3 (fun b hb=>⟨by rw [upd_ne (zc6 b hb)];exact(f2 b hb).1,(f2 b hb).2⟩) rfl J6 hs',rfl,qn⟩⟩
theorem zcv {tg iter elt:Expr}{ifs:List Expr}{scope:Scope}{own fr:List Str}{ix:List Nat}{wi:TI}{g:TG}{tt:TT}{te:TE}{pos spos py:Pos}{k:Nat}{y:Str} (hc:X.calm=true) (hN:X.N.Nodup) (hk:X.N[k]?=some y) (hy:X.env.scope.names.lookup y=some .local) (BB:Kq X scope own fr ix) (hi:PI X tg iter wi)
  (hg:∀pins C sF HF fp,PG (qe X pins (own++fr) scope C sF HF fp) tg g) (ht:∀pins C sF HF fp,PTs (qe X pins (own++fr) scope C sF HF fp) ifs tt) (he:∀pins C sF HF fp,PE (qe X pins (own++fr) scope C sF HF fp) elt te)
  (hsw:swapsWith (.ListComp elt [⟨tg,iter,ifs,0⟩] scope pos) (some (.Name y py)) spos.line X.env=pure true:=by rfl)
  (hs:∀x,foldedSetIterable iter X.env x=pure x:=by intro _;rfl):PS X (.Assign [.Name y py] (.ListComp elt [⟨tg,iter,ifs,0⟩] scope pos) spos) (tAsg (zdF wi own.length ix g tt te) (gName k)):=by
 intro pins s σ H D I h
 have B:=BB.ok I.ok
 rw [exec_Assign_Name_used _ _ _ _ hsw]
 refine wpAny_bind (wpAny_standAt (wpAny_bind ?_))
 show wpAny _ X.A (do let _ ← comprehension (.ListComp elt [⟨tg,iter,ifs,0⟩] scope pos) scope X.env _ (newList []) false (eval iter X.env) (some (assign (.Name y py) X.env))) _ _ s
 refine wpAny_bind (wpAny_mono (wpAny_comprehension_free (use:=some (assign (.Name y py) X.env)) (Q:=fun _ s'=>SP X pins D .next s') rfl hs (Ju B.free) B.kind B.names
  (thn (hi pins s σ H _ I h) fun xv s1 h1=>thn h1 fun itv s2 h2=>?_)) (fun _ s' hq=>wpAny_pure (wpAny_pure hq)) fun _ _ e=>e)
 obtain⟨it,fp,tn,J,H2,rfl,I2,T,st2,f2,R⟩:=h2
 refine wpAny_newObj_type (wpAny_newFunctionEnv B.nocell (by intro y hy;simp at hy) (fun h₁ hns₁ hsb₁=>?_) B.kind)
 dsimp only at hns₁ hsb₁
 have I3:=I2.lnew (t':=s2.toks) (its:=[]) (ys:=[]) .nil (Nat.zero_le _)
 obtain⟨W,⟨m0,w0⟩,turn⟩:=R _ I2.fresh
 have fF:∀b∈fp,∃o,s2.heap.get? b=some o:=fun b hb=>let ⟨o,e,_⟩:=T.obj _ _ st2 b hb;⟨o,e⟩
 have zc6:∀b∈fp,b≠s2.heap.objs.size:=fun b hb=>let ⟨o,e⟩:=fF b hb;Nat.ne_of_lt (Heap.lt_size e)
 have push:∀b o,s2.heap.get? b=some o→(s2.heap.push { cls:=.type "list",data:=.seq ([]:List Value).toArray }).get? b=some o:=fun b o e=>Heap.get?_push_of_some _ e
 have f3:∀b∈fp,FpOk X pins (upd H2 s2.heap.objs.size (.lst [])) b:=fun b hb=>⟨by rw [upd_ne (zc6 b hb)];exact(f2 b hb).1,(f2 b hb).2⟩
 refine Kr (Q:=fun x H1=>gName k x σ H1 D.nx) hc B hg ht he I3 T (T.keep _ _ _ st2 fun b _ o e=>push b o e) f3 (fun b hb=>let ⟨o,e⟩:=fF b hb;⟨o,push b o e⟩) rfl
  (fun b o e=>hsb₁.extBut b o (Nat.ne_of_lt (Heap.lt_size e)) (Heap.get?_push_of_some _ e)) hns₁ w0 turn fun s6 H5 J6 qn=>?_
 have I6:Inv X pins σ H5 { s6 with heap:=s6.heap }:=X8 I3 f3 rfl J6 (Heap.SameBut.refl ..)
 have I6:Inv X pins σ H5 s6:=I6
 obtain⟨m6,⟨o6,es6,ep6,ho6,rest6⟩,_⟩:=id J6.loc
 have sz:∀b o,(s2.heap.push { cls:=.type "list",data:=.seq ([]:List Value).toArray }).get? b=some o→b≠(s2.heap.push { cls:=.type "list",data:=.seq ([]:List Value).toArray }).objs.size:=fun b o e=>Nat.ne_of_lt (Heap.lt_size e)
 have hge:X.s₀.heap.objs.size≤(s2.heap.push { cls:=.type "list",data:=.seq ([]:List Value).toArray }).objs.size:=I3.sz
 have hloc:(s2.heap.push { cls:=.type "list",data:=.seq ([]:List Value).toArray }).objs.size≠X.env.locals:=fun z=>by
  have:=I3.lt
  rw [← z] at this
  exact Nat.lt_irrefl _ this
 have hfs:(s2.heap.push { cls:=.type "list",data:=.seq ([]:List Value).toArray }).objs.size ∉ X.fs:=I3.nofs (Nat.le_refl _)
 have hcell:∀x c,X.env.cells.lookup x=some c→c≠(s2.heap.push { cls:=.type "list",data:=.seq ([]:List Value).toArray }).objs.size:=fun x c e=>by
  obtain⟨v,ob,hob,_⟩:=I3.cell x c e
  exact sz _ _ hob
 have hpin:∀p∈X.pn++pins,p.1≠(s2.heap.push { cls:=.type "list",data:=.seq ([]:List Value).toArray }).objs.size:=fun p hp=>sz _ _ (I3.pin p hp).1
 have I7:Inv X (pins++[((s2.heap.push { cls:=.type "list",data:=.seq ([]:List Value).toArray }).objs.size,o6)]) σ H5 s6:=I6.pins_of fun p hp=>by
  rcases List.mem_append.mp hp with z | z
  ·exact I6.pin p (List.mem_append_right _ z)
  ·rw [List.mem_singleton.mp z]
   refine⟨ho6,J6.free,hloc,hfs,fun v z=>?_⟩
   rw [rest6.1] at z
   cases z
 refine wpAny_assign_Name (store_ok (v:=.ref s2.heap.objs.size) I7 hN hk (.inl hy) rfl (fun s8 I8=>?_) (.inr hy))
 have h8:=(I8.pin ((s2.heap.push { cls:=.type "list",data:=.seq ([]:List Value).toArray }).objs.size,o6) (List.mem_append_right _ (List.mem_append_right _ (List.mem_singleton.mpr rfl)))).1
 refine⟨m6,⟨o6,es6,ep6,h8,rest6⟩,fun h' hs'=>⟨_,H5,(I8.unpinned).turned (t':=s8.toks) (fun b o hb e=>hs'.extBut b o hb e) J6.free hloc (.inr hge) hcell hpin,qn⟩⟩
end
end L2
namespace L2
open PySem PySem.Spec PyProof.Rows PySem.SeqAt
noncomputable def zfL (K:W.Frag) (H:Hp) (a:Addr) (nss:List (List Int)):Prop:=∃as:List Addr,SqL K H a (as.map V.ref)∧Paired (fun b ns=>SqL K H b (ns.map V.int)) as nss
theorem zfL.same {K:W.Frag} {H H':Hp}{a:Addr}{nss:List (List Int)} (e:Same H H') (h:zfL K H a nss):zfL K H' a nss:=by
 obtain⟨as,h1,h2⟩:=h
 exact⟨as,e.seq h1,Paired.imp' (fun b ns z=>e.seq z) h2⟩
abbrev dI (ns:List Int):PyData:=.list (ns.map PyData.int)
theorem zdG (ns ms:List Int):noMix (dI ns) (dI ms)=true:=by
 simp only [noMix];exact W.noMix_ints ns ms
theorem zeN (ns ms:List Int):PySem.Spec.same (dI ns) (dI ms)=decide (ns=ms):=by
 simp only [PySem.Spec.same];exact W.same_ints ns ms
section
variable {X:Cx}{pins:List (Addr×Obj)}{σ:St}{H:Hp}{s:Shared}
theorem Inv.ints (I:Inv X pins σ H s){a:Addr}{ns:List Int} (h:SqL X.K H a (ns.map V.int)):∃vs:List Value,s.heap.IsList a vs.toArray∧IntsAre vs ns∧ns.length≤sizeLine:=by
 obtain⟨its,r,p,z⟩:=I.list h
 exact⟨its,p.isList,intsAre_of r,by rwa [List.length_map] at z⟩
theorem Inv.reads (I:Inv X pins σ H s){a:Addr}{ns:List Int} (h:SqL X.K H a (ns.map V.int)):Reads s.heap (.ref a) (dI ns) [a]:=by
 obtain⟨vs,l,i,_⟩:=I.ints h
 exact W.reads_of_ints l i
end
section
variable {X:Cx}
noncomputable def zlj (K:W.Frag):R2:=fun x y H Q=>∃(a b:Addr) (ns ms:List Int),x=.ref a∧y=.ref b∧SqL K H a (ns.map V.int)∧SqL K H b (ms.map V.int)∧Q (.bl (decide (ns=ms))) H
theorem zfM (hu:X.A.units+64<cLine):OpR X (compareOp .Eq) (zlj X.K):=by
 intro pins s σ H x y v u Q I rx ry h
 obtain⟨a,b,ns,ms,rfl,rfl,h1,h2,q⟩:=h
 cases rx;cases ry
 exact eq_dataH_same (I.reads h1) (I.reads h2) (W.shaped_ints ns) (W.shaped_ints ms) hu (zdG ns ms) (by rw [zeN];exact⟨.bl _,H,I,rfl,q⟩)
theorem Ks (hc:X.calm=true):CallR X (.builtin "all") (fun xs H Q=>∃(p:Addr) (bs:List Bool),xs=[.ref p]∧SqL X.K H p (bs.map V.bl)∧Q (.bl (bs.all id)) H):=by
 intro pins s σ H xs us Q I r h
 obtain⟨p,bs,rfl,hq,q⟩:=h
 obtain⟨u,rfl,ru⟩:=vals1 r
 cases ru
 obtain⟨its,rv,pl,hz⟩:=I.list hq
 have hl:=pl.isList
 have hlt:p<s.heap.objs.size:=by obtain⟨_,e,_⟩:=hl;exact Heap.lt_size e
 refine call_all_walk (wpAny_pyIter_list hl ?_)
 refine⟨s.heap.objs.size,[s.heap.objs.size,p],[s.heap.objs.size],its.toArray.size,_,_,fun i=>(bs[i]?).getD true,rfl,Walks.list (A:=X.A.in1) (I.ok.hd hc) _ p (Nat.ne_of_lt hlt) its.toArray,
  ⟨⟨_,Heap.get?_push_size _ rfl,rfl,rfl⟩,hl.push _⟩,fun i v s' Q' E' hP hQ=>?_,fun h' tk hk=>?_⟩
 ·have hP':its[i]?=some v:=by simpa using hP
  have zfN:bs.length=its.length:=by have:=rv.length;rwa [List.length_map] at this
  have hi:i<bs.length:=by rw [zfN];exact(List.getElem?_eq_some_iff.mp hP').1
  obtain⟨w,ew,rw'⟩:=rv.get (x:=V.bl bs[i]) (i:=i) (by rw [List.getElem?_map,List.getElem?_eq_getElem hi];rfl)
  rw [hP'] at ew
  cases ew
  cases (show v=Value.bool bs[i] from rw')
  simp only [List.getElem?_eq_getElem hi,Option.getD_some] at hQ
  exact wpAny_truthy_bool hQ
 ·have e:((List.range its.toArray.size).all fun i=>(bs[i]?).getD true)=bs.all id:=by
   have zfN:bs.length=its.length:=by have:=rv.length;rwa [List.length_map] at this
   rw [List.size_toArray,← zfN];exact PyProof.Rows.LSm.range_all bs
  rw [e]
  exact⟨.bl _,H,I.kept (PyProof.Rows.LSm.kept_iter hk),rfl,q⟩
theorem zad:CallR X (.builtin "sorted") (fun xs H Q=>∃(p:Addr) (ns:List Int),xs=[.ref p]∧SqL X.K H p (ns.map V.int)∧ns.length<64∧∀(l:Addr) (ms:List Int),H l=none→ms.Perm ns→ms.Pairwise (·≤·)→Q (.ref l) (upd H l (.lst (ms.map V.int)))):=by
 intro pins s σ H xs us Q I r h
 obtain⟨p,ns,rfl,hq,h64,q⟩:=h
 obtain⟨u,rfl,ru⟩:=vals1 r
 cases ru
 obtain⟨vs,hl,hi,hz⟩:=I.ints hq
 refine sorted_ints hl hi (by rw [hi.length];exact h64) fun out ms a1 a2 a3=>?_
 obtain⟨e,he⟩:=sortedAll_at s.heap vs out
 have new:ObjOk X.prog X.w (upd H (s.heap.objs.size+1) (.lst (ms.map V.int))) (sortedAll s.heap vs out) (s.heap.objs.size+1) (.lst (ms.map V.int)):=⟨by rw [List.length_map,a2.length_eq];exact hz,out.toList,e,vals_ints a1,by simpa [seqObj] using he⟩
 exact⟨.ref (s.heap.objs.size+1),_,I.laid (t':=s.toks) (fun _ _=>sortedAll_old) (Nat.le_succ _) new,rfl,q _ ms (I.hok.fresh (Nat.le_succ _)) a2 a3⟩
end
end L2
namespace L2
open PySem PySem.Spec PyProof.Rows
theorem Same.wr {H H':Hp}{p:Addr}{o:HO} (s:Same H H') (h:H p=Option.none):Same H (upd H' p o):=fun b u e=>by
 rw [upd_ne (ne_of_none e h)]
 exact s b u e
theorem zfO {A:Around}{k:Nat} (hr:Room k A):A.units+64<cLine:=hr.units
section
variable {X:Cx}
theorem zeO (K:W.Frag){es:List Expr}{k:Nat}{t:TGs}{n:Nat}{pos:Pos} (hc:X.calm=true) (h:PGs X es t) (hK:X.K=K:=by rfl)
  (hn:(assignEach es X.env).length=n:=by rfl) (hst:(assignEach es X.env).findIdx? (·.1)=none:=by rfl):PG X (.Tuple es k pos) (gTup K n t):=by subst hK;exact pg_tup hc h hn hst
end
theorem Jw {K:W.Frag}{a acc:Addr}{xs:List V}{own:Nat}{ix:List Nat}{g:TG}{te:TE}{σ:St}{H1:Hp}{Q:VK} (f:Nat→V) (hq:SqL K H1 a xs) (hn:H1 acc=none) (hz:xs.length≤sizeLine)
  (step:∀i x H (R:VK),xs[i]?=some x→Same H1 H→R (f i) H→g x (qC own ix σ) H fun σ4 H4=>σ4.drop own=ix.map (fun i=>(σ[i]?).getD none)∧te σ4 H4 R)
  (hd:Q (.ref acc) (upd H1 acc (.lst ((List.range xs.length).map f)))) :
  Jv (Itl K a) own ix g Z1 te σ H1 acc Q:=by
 refine⟨fun i m ys H=>m=xs.length-i∧i≤xs.length∧ys=(List.range i).map f∧H=upd H1 acc (.lst ys),⟨xs.length,by simp,Nat.zero_le _,rfl,rfl⟩,?_⟩
 rintro i m ys H ⟨rfl,hi,rfl,rfl⟩
 have q:SqL K (upd H1 acc (.lst ((List.range i).map f))) a xs:=(Same.new hn).seq hq
 refine⟨upd_same,?_⟩
 by_cases hlt:i<xs.length
 ·refine .inr ⟨⟨xs,xs[i],q,by simp [hlt]⟩,by rw [List.length_map,List.length_range];omega,fun x H3 y=>?_⟩
  obtain⟨e,y⟩:=y
  subst e
  exact step i x _ _ (y xs q) (Same.new hn) ⟨upd_same,xs.length-(i+1),by omega,rfl,hlt,by rw [List.range_succ,List.map_append];rfl,by rw [upd_upd]⟩
 ·have e:i=xs.length:=by omega
  subst e
  exact .inl ⟨⟨xs,q,Nat.le_refl _⟩,hd⟩
theorem zaW {lo:Int}{n:Nat}{acc:Addr}{own:Nat}{ix:List Nat}{g:TG}{te:TE}{σ:St}{H1:Hp}{Q:VK} (f:Nat→V) (hn:H1 acc=none) (hz:n≤sizeLine)
  (step:∀i H (R:VK),i<n→Same H1 H→R (f i) H→g (.int (lo+i)) (qC own ix σ) H fun σ4 H4=>σ4.drop own=ix.map (fun i=>(σ[i]?).getD none)∧te σ4 H4 R)
  (hd:Q (.ref acc) (upd H1 acc (.lst ((List.range n).map f)))) :
  Jv (Itr lo n) own ix g Z1 te σ H1 acc Q:=by
 refine⟨fun i m ys H=>m=n-i∧i≤n∧ys=(List.range i).map f∧H=upd H1 acc (.lst ys),⟨n,by simp,Nat.zero_le _,rfl,rfl⟩,?_⟩
 rintro i m ys H ⟨rfl,hi,rfl,rfl⟩
 refine⟨upd_same,?_⟩
 by_cases hlt:i<n
 ·refine .inr ⟨hlt,by rw [List.length_map,List.length_range];omega,fun x H3 y=>?_⟩
  obtain⟨e,y⟩:=y
  subst e y
  exact step i _ _ hlt (Same.new hn) ⟨upd_same,n-(i+1),by omega,rfl,hlt,by rw [List.range_succ,List.map_append];rfl,by rw [upd_upd]⟩
 ·have e:i=n:=by omega
  subst e
  exact .inl ⟨Nat.le_refl _,hd⟩
theorem Inv.turns {X:Cx}{pins:List (Addr×Obj)}{σ:St}{H:Hp}{s:Shared} {h':Heap}{ch:List Addr} {t':Nat} (I:Inv X pins σ H s) (hf:∀b∈ch,FpOk X pins H b) (k:∀b o,b ∉ ch→s.heap.get? b=some o→h'.get? b=some o) :
  Inv X pins σ H { s with heap:=h',toks:=t' }:=by
 have nit:∀b u,H b=some u→b ∉ ch:=fun b u e z=>by rw [(hf b z).1] at e;cases e
 refine I.step (g':=s.gens) (d':=s.drawn) (ch:=ch) (fun b hb=>⟨(hf b hb).2.2.2.1,(hf b hb).2.1,(hf b hb).2.2.2.2.1,(hf b hb).2.2.2.2.2⟩) (fun b o _ _ hc e _=>k b o hc e) (fun b o _ _ hc e _=>⟨o.slots,k b o hc e⟩) (fun _ _ _ _ n=>n)
  (fun b o hc e=>⟨o,k b o hc e⟩) (fun _ _ e=>e) (fun _ _ _ e=>e) (fun b ps e=>⟨#[],by rw [e];simp⟩) (fun m hm=>?_) (fun b u e=>?_) I.bare
 ·obtain⟨o,es,ep,ho,r⟩:=hm
  exact⟨o,es,ep,k _ o (fun z=>(hf _ z).2.1 rfl) ho,r⟩
 ·refine(I.hok b u e).stay (fun c v hc q=>k c v ?_ q) (fun _ q=>q) fun _ _ q=>q
  rcases hc with z | z
  ·rw [z];exact nit b u e
  ·exact nit c _ z
theorem Inv.turnsT {X:Cx}{pins:List (Addr×Obj)}{σ:St}{H:Hp}{s:Shared} {h':Heap}{ch:List Addr} {t':Nat}{T:Addr}{xs:List V}{its:List Value} (I:Inv X pins σ H s) (hf:∀b∈ch,FpOk X pins H b) (k:∀b o,b ∉ ch→s.heap.get? b=some o→h'.get? b=some o)
  (hT:s.heap.objs.size≤T) (r:Vals xs its) (ht:IsTup h' T its.toArray) (hz:xs.length≤sizeLine):Inv X pins σ (upd H T (.tup xs)) { s with heap:=h',toks:=t' }:=by
 have hn:H T=none:=I.hok.fresh hT
 have nit:∀b u,H b=some u→b ∉ ch:=fun b u e z=>by rw [(hf b z).1] at e;cases e
 have lt:∀b o,s.heap.get? b=some o→b≠T:=fun b o e=>Nat.ne_of_lt (Nat.lt_of_lt_of_le (Heap.lt_size e) hT)
 refine I.step (g':=s.gens) (d':=s.drawn) (ch:=ch) (fun b hb=>⟨(hf b hb).2.2.2.1,(hf b hb).2.1,(hf b hb).2.2.2.2.1,(hf b hb).2.2.2.2.2⟩) (fun b o _ _ hc e _=>k b o hc e) (fun b o _ _ hc e _=>⟨o.slots,k b o hc e⟩) (fun b o _ e n=>by rw [upd_ne (lt b o e)];exact n)
  (fun b o hc e=>⟨o,k b o hc e⟩) (fun b ys e=>by rw [upd_ne (ne_of_none e hn)];exact e) (fun b o u e=>by rw [upd_ne (ne_of_none e hn)];exact e) (fun b ps e=>⟨#[],by rw [upd_ne (ne_of_none e hn),e];simp⟩) (fun m hm=>?_) (fun b u e=>?_) I.bare
 ·obtain⟨o,es,ep,ho,r⟩:=hm
  exact⟨o,es,ep,k _ o (fun z=>(hf _ z).2.1 rfl) ho,r⟩
 ·by_cases hb:b=T
  ·subst hb
   rw [upd_same] at e
   cases e
   exact⟨hz,its,r,ht⟩
  ·rw [upd_ne hb] at e
   refine(I.hok b u e).stay (fun c v hc q=>k c v ?_ q) (fun c q=>?_) fun c w q=>?_
   ·rcases hc with z | z
    ·rw [z];exact nit b u e
    ·exact nit c _ z
   ·rw [upd_ne (ne_of_none q hn)];exact q
   ·rw [upd_ne (ne_of_none q hn)];exact q
section
variable {X:Cx}
end
end L2
namespace Bw
noncomputable def C:Nat→Nat→Nat
 | _,0=>1
 | 0,_+1=>0
 | n+1,k+1=>C n k+C n (k+1)
theorem Jx (n:Nat):C n 0=1:=by cases n <;> rfl
theorem zaX (k:Nat):C 0 (k+1)=0:=rfl
theorem Zj (n k:Nat):C (n+1) (k+1)=C n k+C n (k+1):=rfl
theorem Q8:∀(n k:Nat),n<k→C n k=0
 | n,0,h=>absurd h (Nat.not_lt_zero _)
 | 0,_+1,_=>rfl
 | n+1,k+1,h=>by
  rw [Zj,Q8 n k (by omega),Q8 n (k+1) (by omega)]
theorem zdH:∀n:Nat,C n n=1
 | 0=>rfl
 | n+1=>by rw [Zj,zdH n,Q8 n (n+1) (by omega)]
theorem zdI:∀n:Nat,C n 1=n
 | 0=>rfl
 | n+1=>by rw [Zj,Jx,zdI n];omega
theorem zae:∀(n k:Nat),(k+1)*C n (k+1)+k*C n k=n*C n k
 | 0,0=>by simp [C]
 | 0,k+1=>by simp [C]
 | n+1,0=>by rw [zdI,Jx];omega
 | n+1,k+1=>by
  have h1:=zae n k
  have h2:=zae n (k+1)
  rw [Zj n (k+1),Zj n k]
  have e1:(k+1+1)*(C n (k+1)+C n (k+1+1))=(k+1+1)*C n (k+1)+(k+1+1)*C n (k+1+1):=Nat.mul_add _ _ _
  have e2:(k+1)*(C n k+C n (k+1))=(k+1)*C n k+(k+1)*C n (k+1):=Nat.mul_add _ _ _
  have e3:(n+1)*(C n k+C n (k+1))=(n*C n k+C n k)+(n*C n (k+1)+C n (k+1)):=by rw [Nat.mul_add,Nat.succ_mul,Nat.succ_mul]
  have e4:(k+1+1)*C n (k+1)=(k+1)*C n (k+1)+C n (k+1):=Nat.succ_mul _ _
  have e5:(k+1)*C n k=k*C n k+C n k:=Nat.succ_mul _ _
  rw [e1,e2,e3,e4,e5]
  omega
theorem zcw {n k:Nat} (h:k≤n):(k+1)*C n (k+1)=C n k*(n-k):=by
 have e:=zae n k
 have e2:C n k*(n-k)+k*C n k=n*C n k:=by
  rw [Nat.mul_comm (C n k),← Nat.add_mul,Nat.sub_add_cancel h]
 omega
theorem zfE {n k:Nat} (h:k≤n):C n k*(n-k) / (k+1)=C n (k+1):=by
 rw [← zcw h,Nat.mul_div_cancel_left _ (Nat.succ_pos k)]
theorem Ku:∀(n k:Nat),C n k≤n ^ k
 | n,0=>by rw [Jx];exact Nat.le_refl _
 | n,k+1=>by
  have ih:=Ku n k
  by_cases h:k≤n
  ·rw [← zfE h,Nat.pow_succ]
   refine Nat.le_trans (Nat.div_le_self _ _) ?_
   exact Nat.mul_le_mul ih (Nat.sub_le _ _)
  ·rw [Q8 n (k+1) (by omega)];exact Nat.zero_le _
noncomputable def ch (n k:Int):Int:=(C n.toNat k.toNat:Nat)
theorem Va (n k:Int):0≤ch n k:=Int.natCast_nonneg _
theorem Jy (n k:Nat):ch (n:Int) (k:Int)=(C n k:Nat):=by
 unfold ch;rw [Int.toNat_natCast,Int.toNat_natCast]
theorem Xq {n k:Int} (h0:0≤n) (h:n<k):ch n k=0:=by
 unfold ch;rw [Q8 _ _ (by omega)];rfl
theorem Xr (n:Int):ch n 0=1:=by
 unfold ch;rw [show (0:Int).toNat=0 from rfl,Jx];rfl
theorem zaf {n k:Int} (hn:0≤n) (hk:0≤k):ch (n+1) (k+1)=ch n k+ch n (k+1):=by
 unfold ch
 rw [show (n+1).toNat=n.toNat+1 by omega,show (k+1).toNat=k.toNat+1 by omega,Zj]
 omega
theorem zeP {n:Int}{i:Nat} (hn:(i:Int)≤n):ch n i*(n-i) / ((i:Int)+1)=ch n ((i:Int)+1):=by
 unfold ch
 have e:n=((n.toNat:Nat):Int):=by omega
 have e1:((i:Int)+1).toNat=i+1:=by omega
 have e2:((i:Nat):Int).toNat=i:=by omega
 have e3:n-(i:Int)=((n.toNat-i:Nat):Int):=by omega
 rw [e1,e2,e3,← zfE (n:=n.toNat) (k:=i) (by omega)]
 have e4:((i:Int)+1)=((i+1:Nat):Int):=by omega
 rw [e4,← Int.natCast_mul,← Int.natCast_ediv]
noncomputable def ff (n:Int):Nat→Int
 | 0=>1
 | i+1=>ff n i*(n-i)
noncomputable def fac:Nat→Int
 | 0=>1
 | i+1=>fac i*((i:Int)+1)
theorem Kv (i:Nat):fac (i+1)=fac i*((i:Int)+1):=rfl
end Bw
namespace Bw
theorem zeQ:∀(n k:Nat),C n k≤C (n+1) k
 | n,0=>by rw [Jx,Jx];exact Nat.le_refl _
 | n,k+1=>by rw [Zj];omega
theorem zbQ {m n:Nat} (k:Nat) (h:m≤n):C m k≤C n k:=by
 induction h with
 | refl=>exact Nat.le_refl _
 | step _ ih=>exact Nat.le_trans ih (zeQ _ _)
theorem zfF {n k:Nat} (h:k≤n):0<C n k:=by
 have:=zbQ k h
 rw [zdH] at this
 omega
theorem Kw {n k:Nat} (h:0<C n k):k≤n:=by
 rcases Nat.lt_or_ge n k with z | z
 ·rw [Q8 n k z] at h;omega
 ·exact z
theorem zbR (n k:Nat):∀j:Nat,j≤n→C n (k+1)≤C (n-j) (k+1)+j*C (n-1) k
 | 0,_=>by simp
 | j+1,h=>by
  have ih:=zbR n k j (by omega)
  obtain⟨r,hr⟩:∃r,n-j=r+1:=⟨n-j-1,by omega⟩
  have e:n-(j+1)=r:=by omega
  have m:=zbQ (m:=r) (n:=n-1) k (by omega)
  rw [hr,Zj] at ih
  rw [e,Nat.succ_mul]
  omega
theorem zc7 {t k number:Nat} (h:number<C t (k+1)) (d:Nat) (hd:d=(C t (k+1)-number+C (t-1) k-1) / C (t-1) k) :
  0<C (t-1) k∧1≤d∧d≤t∧number<C (t-d+1) (k+1):=by
 have hk:k+1≤t:=Kw (by omega)
 have ho:0<C (t-1) k:=zfF (by omega)
 have hdm:d*C (t-1) k≤C t (k+1)-number+C (t-1) k-1:=by
  rw [hd];exact Nat.div_mul_le_self _ _
 have d1:1≤d:=by
  rw [hd];exact(Nat.le_div_iff_mul_le ho).mpr (by omega)
 have s:(d-1)*C (t-1) k+C (t-1) k=d*C (t-1) k:=by
  have e:d=d-1+1:=by omega
  conv=>rhs;rw [e,Nat.succ_mul]
 have lt:(d-1)*C (t-1) k<C t (k+1)-number:=by omega
 have dt:d-1≤t:=by
  rcases Nat.lt_or_ge t (d-1) with z | z
  ·have q:=zbR t k t (Nat.le_refl _)
   rw [Nat.sub_self,zaX] at q
   have w:t*C (t-1) k≤(d-1)*C (t-1) k:=Nat.mul_le_mul_right _ (by omega)
   omega
  ·exact z
 have q:=zbR t k (d-1) dt
 have gt:number<C (t-(d-1)) (k+1):=by omega
 have ge:=Kw (n:=t-(d-1)) (k:=k+1) (by omega)
 have e:t-d+1=t-(d-1):=by omega
 rw [e]
 exact⟨ho,d1,by omega,gt⟩
noncomputable def Wv:Nat→Nat
 | 0=>1
 | i+1=>Wv i*(i+1)
theorem zaY:∀{n k:Nat},k≤n→(n+1-k) ^ k≤C n k*Wv k
 | n,0,_=>by rw [Jx];exact Nat.le_refl _
 | n,k+1,h=>by
  have ih:=zaY (n:=n) (k:=k) (by omega)
  have st:=zcw (n:=n) (k:=k) (by omega)
  have e:C n (k+1)*Wv (k+1)=C n k*Wv k*(n-k):=by
   show C n (k+1)*(Wv k*(k+1))=_
   rw [Nat.mul_comm (Wv k),← Nat.mul_assoc,Nat.mul_comm (C n (k+1)),st,Nat.mul_assoc,Nat.mul_comm (n-k),← Nat.mul_assoc]
  rw [e]
  have e2:n+1-(k+1)=n-k:=by omega
  rw [e2,Nat.pow_succ]
  refine Nat.mul_le_mul_right _ (Nat.le_trans (Nat.pow_le_pow_left (by omega) k) ih)
theorem zaZ {number k f:Nat} (h:number*Wv k<2 ^ (f*k)):number<C (2 ^ f+k) k:=by
 rw [Nat.pow_mul] at h
 generalize 2 ^ f=p at h ⊢
 have q:=zaY (n:=p+k) (k:=k) (by omega)
 have e:p+k+1-k=p+1:=by omega
 rw [e] at q
 have r:p ^ k≤(p+1) ^ k:=Nat.pow_le_pow_left (by omega) k
 rcases Nat.lt_or_ge number (C (p+k) k) with z | z
 ·exact z
 ·have:=Nat.mul_le_mul_right (Wv k) z
  omega
theorem zcx:∀i:Nat,fac i=(Wv i:Nat)
 | 0=>rfl
 | i+1=>by
  rw [Kv,zcx i]
  show _=((Wv i*(i+1):Nat):Int)
  rw [Int.natCast_mul]
  rfl
structure za0 (k number t:Int):Prop where
 lo:k-1≤t
 le:ch t k≤number
 lt:number<ch (t+1) k
theorem V9 {m n k:Int} (h:m≤n):ch m k≤ch n k:=by
 unfold ch
 exact Int.ofNat_le.mpr (zbQ _ (by omega))
theorem za0.unique {k number t u:Int} (a:za0 k number t) (b:za0 k number u):t=u:=by
 rcases (by omega:t=u∨t+1≤u∨u+1≤t) with e | e | e
 ·exact e
 ·have:=V9 (k:=k) e
  have h1:=a.lt
  have h2:=b.le
  omega
 ·have:=V9 (k:=k) e
  have h1:=b.lt
  have h2:=a.le
  omega
theorem zc8 {n k:Int} (hn:0≤n) (h:0<ch n k):k≤n:=by
 rcases (by omega:k≤n∨n<k) with z | z
 ·exact z
 ·rw [Xq hn z] at h;omega
theorem zfP {n k:Int} (hk:0≤k) (h:k≤n):0<ch n k:=by
 unfold ch
 exact Int.ofNat_lt.mpr (zfF (by omega))
theorem zbS {t k number:Int} (hk:1≤k) (h0:0≤number) (ht:0≤t) (h:number<ch t k) (d:Int) (hd:d=(ch t k-number+ch (t-1) (k-1)-1) / ch (t-1) (k-1)) :
  k≤t∧0<ch (t-1) (k-1)∧1≤d∧k-1≤t-d∧number<ch (t-d+1) k:=by
 have kt:k≤t:=zc8 ht (by omega)
 obtain⟨j,hj⟩:∃j:Nat,k=(j:Int)+1:=⟨(k-1).toNat,by omega⟩
 obtain⟨m,hm⟩:∃m:Nat,t=(m:Int):=⟨t.toNat,by omega⟩
 obtain⟨r,hr⟩:∃r:Nat,number=(r:Int):=⟨number.toNat,by omega⟩
 subst hj hm hr
 have e1:ch (m:Int) ((j:Int)+1)=(C m (j+1):Nat):=by
  rw [show ((j:Int)+1)=((j+1:Nat):Int) by omega,Jy]
 have e2:ch ((m:Int)-1) ((j:Int)+1-1)=(C (m-1) j:Nat):=by
  rw [show ((m:Int)-1)=((m-1:Nat):Int) by omega,show ((j:Int)+1-1)=((j:Nat):Int) by omega,Jy]
 rw [e1] at h
 rw [e1,e2] at hd
 have h':r<C m (j+1):=by omega
 obtain⟨s1,s2,s3,s4⟩:=zc7 h' _ rfl
 have ed:d=(((C m (j+1)-r+C (m-1) j-1) / C (m-1) j:Nat):Int):=by
  rw [hd,Int.natCast_ediv]
  congr 1
  omega
 generalize (C m (j+1)-r+C (m-1) j-1) / C (m-1) j=dn at s2 s3 s4 ed
 subst ed
 have e3:ch ((m:Int)-(dn:Int)+1) ((j:Int)+1)=(C (m-dn+1) (j+1):Nat):=by
  rw [show ((m:Int)-(dn:Int)+1)=((m-dn+1:Nat):Int) by omega,show ((j:Int)+1)=((j+1:Nat):Int) by omega,Jy]
 have le:=Kw (n:=m-dn+1) (k:=j+1) (by omega)
 rw [e2,e3]
 exact⟨kt,by omega,by omega,by omega,by omega⟩
theorem zfQ {number k:Int}{F b:Nat} (hk:1≤k) (h0:0≤number) (hb:(number*fac k.toNat).natAbs<2 ^ b) (hF:(b:Int)≤(F:Int)*k):number<ch ((2:Int) ^ F+k-1+1) k:=by
 obtain⟨j,hj⟩:∃j:Nat,k=(j:Int):=⟨k.toNat,by omega⟩
 obtain⟨r,hr⟩:∃r:Nat,number=(r:Int):=⟨number.toNat,by omega⟩
 subst hj hr
 rw [Int.toNat_natCast,zcx,← Int.natCast_mul,Int.natAbs_natCast] at hb
 have hF':b≤F*j:=by
  have:((F*j:Nat):Int)=(F:Int)*(j:Int):=Int.natCast_mul _ _
  omega
 have s:=zaZ (number:=r) (k:=j) (f:=F) (Nat.lt_of_lt_of_le hb (Nat.pow_le_pow_right (by decide) hF'))
 have e:(2:Int) ^ F+(j:Int)-1+1=((2 ^ F+j:Nat):Int):=by
  rw [Int.natCast_add,Int.natCast_pow]
  show _=(2:Int) ^ F+(j:Int)
  omega
 rw [e,Jy]
 exact Int.ofNat_lt.mpr s
end Bw
namespace Bw
open PySem L2
open Builtin.Int (intBits)
variable {P:Program}{w:World}{K:W.Frag}{mg:Str→Option Value}{base:Heap}
noncomputable def QB:Sp:=fun vs H Q _=>∃n k:Int,vs=[.int n,.int k]∧0≤n∧0≤k∧k≤1000∧intBits n≤100000∧Q (.int (ch n k)) H
noncomputable def zag:Sp:=fun vs H Q _=>∃a b:Int,vs=[.int a,.int b]∧0<b∧Q (.int ((a+b-1) / b)) H
noncomputable def zcy:Sp:=fun vs H Q _=>∃k number:Int,vs=[.int k,.int number]∧1≤k∧k≤60∧0≤number∧intBits number≤50000∧∀t:Int,k-1≤t→number<ch (t+1) k→intBits t≤60000→Q (.int t) H
theorem qP {x:Int}{m:Nat} (h1:0≤x) (h2:x<(2:Int) ^ m):intBits x≤m:=by
 refine intBits_le_iff.mpr ?_
 have e:((2 ^ m:Nat):Int)=(2:Int) ^ m:=by
  rw [Int.natCast_pow];rfl
 rw [← e] at h2
 omega
theorem zO {x:Int}{m n:Nat} (h:intBits x≤m) (hm:m≤n):intBits x≤n:=Nat.le_trans h hm
theorem zcz {n:Int}{k m:Nat} (h:intBits n≤m) (hn:0≤n):intBits (ch n k)≤m*k+1:=by
 refine intBits_le_of_natAbs (y:=n ^ k) ?_ (intBits_pow_le h k)
 unfold ch
 rw [Int.toNat_natCast]
 have e:n=((n.toNat:Nat):Int):=by omega
 have e2:(n ^ k).natAbs=n.toNat ^ k:=by
  rw [Int.natAbs_pow]
  congr 1
  omega
 rw [e2]
 have:=Ku n.toNat k
 omega
theorem za1:∀i:Nat,i≤64→intBits (fac i)≤7*i+1
 | 0,_=>by decide
 | i+1,hi=>by
  rw [Kv]
  exact zO (intBits_mul_le (m:=7*i+1) (n:=7) (za1 i (by omega)) (qP (by omega) (by omega))) (by omega)
end Bw
namespace L2
open PySem PySem.Spec PyProof.Rows
section
variable {X:Cx}
end
noncomputable def LL (H:Hp) (p:Addr) (nss:List (List Int)):Prop:=∃as:List Addr,H p=some (.lst (as.map V.ref))∧Paired (fun b (ns:List Int)=>H b=some (.lst (ns.map V.int))) as nss
noncomputable def LLm (H:Hp) (p:Addr) (nss:List (List Int)):Prop:=∃as:List Addr,H p=some (.lst (as.map V.ref))∧Paired (fun b (ns:List Int)=>b≠p∧H b=some (.lst (ns.map V.int))) as nss
theorem Z3 {α β:Type}{F G:α→β→Prop} (h:∀a b,F a b→G a b):∀{as:List α}{bs:List β},Paired F as bs→Paired G as bs
 | _,_,.nil=>.nil
 | _,_,.cons x y=>.cons (h _ _ x) (Z3 h y)
theorem LL.same {H H':Hp}{p:Addr}{nss:List (List Int)} (s:Same H H') (h:LL H p nss):LL H' p nss:=by
 obtain⟨as,e,q⟩:=h
 exact⟨as,s _ _ e,Z3 (fun _ _ z=>s _ _ z) q⟩
theorem LLm.ll {H:Hp}{p:Addr}{nss:List (List Int)} (h:LLm H p nss):LL H p nss:=by
 obtain⟨as,e,q⟩:=h
 exact⟨as,e,Z3 (fun _ _ z=>z.2) q⟩
theorem LLm.push {H H':Hp}{pm t:Addr}{bs:List Addr}{nss:List (List Int)}{ns:List Int} (h2:Paired (fun b (ns:List Int)=>b≠pm∧H b=some (.lst (ns.map V.int))) bs nss) (sm:Same H H') (ht:H' t=some (.lst (ns.map V.int))) (hne:t≠pm) :
  LLm (upd H' pm (.lst (bs.map V.ref++[V.ref t]))) pm (nss++[ns]):=by
 refine⟨bs++[t],by rw [upd_same,List.map_append];rfl,Paired.snoc (Z3 (fun b n z=>⟨z.1,by rw [upd_ne z.1];exact sm _ _ z.2⟩) h2) ⟨hne,?_⟩⟩
 ·rw [upd_ne hne];exact ht
section
variable {prog:Program}{w:World}{A:Around}{E:Value→Shared→Prop}{s:Shared}
end
section
variable {X:Cx}
end
end L2
namespace L2
open PySem PySem.Spec PyProof.Rows
open PySem.W (hideAll of_hideAll hideAll_get)
noncomputable def CXE (P:Program) (w:World):CXT:=fun outer H s E e s'=>∃(x:Addr) (C a0:Value) (H':Hp) (B:Heap),e=.ref x∧s'.os=s.os∧AllBare s'.gens∧Heap.FlyingW B outer x C a0 s'.heap ∧
 (∀h3,B.StaysIn h3→s'.heap.UpToSlots h3→Un (frs outer) [] H H' s.heap h3∧HOk P w H' h3)∧s.heap.get? x=none∧H' x=none∧E C none H'
theorem zah {K:W.Frag}{h:Heap}{C:Addr}{bmB:List Value}{newId:String} (X:K.In h) (q:W.excIn K C bmB newId=true) :
  ∃bm N nm q bs hdct sn sub ab col dd k0 k1 k2 k3 k5 mN,h.get? C=some (excClassObj nm q C N bs bm hdct sn sub ab col dd k0 k1 k2 k3 k5 newId)∧h.Ns N mN∧mN "__init__"=none∧OwnTail h bmB bm∧∀v b,W.mroIn K C v=some b→(Value.ref C::bm).contains v=b:=by
 unfold W.excIn at q
 split at q
 ·rename_i dd cd sl ho
  split at q
  ·rename_i C' bm k0 k1 k2 k3 n k5 hm hs
   simp only [Bool.and_eq_true,beq_iff_eq,Bool.not_eq_true'] at q
   obtain⟨⟨⟨⟨⟨rfl,rfl⟩,hdel⟩,ht⟩,hok⟩,hni⟩:=q
   obtain⟨nm,bs,mro,ns,qn,hd,sn,sub,ab,col,del⟩:=cd
   dsimp only at hm hdel hok hni
   subst hm hdel
   have hsl:sl=#[k0,k1,k2,k3,some (.builtin n),k5]:=by
    obtain⟨l⟩:=sl
    simp only at hs
    rw [hs]
   subst hsl
   exact⟨bm,ns,nm,qn,bs,hd,sn,sub,ab,col,dd,k0,k1,k2,k3,k5,_,X _ _ ho,.of_isNs (W.isNs_of_in X hok),W.nsMap_none_of_in X hok hni,W.tail_of_in X ht,fun v b e=>by
    unfold W.mroIn W.clsIn at e
    rw [ho] at e
    simpa using e⟩
  ·cases q
 ·cases q
theorem ObjOk.there {P:Program}{w:World}{H:Hp}{h:Heap}{a:Addr}{o:HO} (x:ObjOk P w H h a o):∃ob,h.get? a=some ob:=by
 cases o with
 | lst xs=>obtain⟨_,_,_,_,e⟩:=x;exact⟨_,e⟩
 | tup xs=>obtain⟨_,_,_,ob,e,_⟩:=x;exact⟨_,e⟩
 | dK kvs=>obtain⟨_,_,_,_,o,_,_,e,_⟩:=x;exact⟨_,e⟩
 | dT kvs=>obtain⟨_,_,_,_,o,_,_,e,_⟩:=x;exact⟨_,e⟩
 | set S n=>obtain⟨o,_,_,_,e,_⟩:=x;exact⟨_,e⟩
 | ins C dx fs=>obtain⟨_,_,_,e,_⟩:=x;exact⟨_,e⟩
 | own y=>obtain⟨_,e⟩:=x;exact⟨_,e⟩
 | xd fs=>obtain⟨_,⟨_,_,_,e,_⟩,_⟩:=x;exact⟨_,e⟩
 | rng lo hi=>obtain⟨_,_,_,e⟩:=x;exact⟨_,e⟩
 | frz ob u=>obtain⟨e,_⟩:=x;exact⟨_,e⟩
 | tbl ps=>exact⟨_,(show h.get? a=some _ from x)⟩
 | met f y=>exact⟨_,(show h.get? a=some _ from x)⟩
 | ext φ=>obtain⟨_,⟨_,e⟩,_⟩:=x;exact⟨_,e⟩
section
variable {P:Program}{w:World}{K:W.Frag}{mg:Str→Option Value}{base:Heap}{N:List Str}{qual:Str}{scope:Scope}{f:Addr}{cdv:Value}{A:Around}{outer:List Env}{s s2:Shared}{H H1:Hp}{E:XK}{pins:List (Addr×Obj)}{σ:St}
theorem stands (I:Inv (cxOf (CXE P w) P w K mg base N qual scope f cdv A outer s H E) pins σ H1 s2){h3:Heap} (hst:(hideAll s2.heap (frs (envOfC qual scope s.heap.objs.size f cdv::outer))).StaysIn h3) (up:s2.heap.UpToSlots h3) :
  Un (frs outer) [] H H1 s.heap h3∧HOk P w H1 h3:=by
 have kk:∀b o,s2.heap.get? b=some o→b ∉ frs (envOfC qual scope s.heap.objs.size f cdv::outer)→h3.get? b=some o:=fun b o e hb=>hst b o (hideAll_get _ e hb)
 have frz:∀b,b∈frs (envOfC qual scope s.heap.objs.size f cdv::outer)→b=s.heap.objs.size∨b∈frs outer:=fun b hb=>by
  unfold frs at hb
  rw [List.filterMap_cons] at hb
  exact List.mem_cons.mp hb
 have zlk:∀b o,s.heap.get? b=some o→b ∉ frs outer→b ∉ frs (envOfC qual scope s.heap.objs.size f cdv::outer):=fun b o e hb z=>by
  rcases frz b z with q | q
  ·exact absurd (Heap.lt_size e) (by rw [q];exact Nat.lt_irrefl _)
  ·exact hb q
 have U:=I.base
 have stk:=I.stack
 refine⟨⟨fun b o e n hb hx=>kk b o (U.keep b o e n hb hx) (zlk b o e hb),fun b o e n hb hx=>?_,fun b o e n hx=>U.free b o e n hx,fun b o e hx=>?_,U.tups,U.frzs,U.tbls⟩,fun a u e=>?_⟩
 ·obtain⟨sl,q⟩:=U.slot b o e n hb hx
  obtain⟨_,o2,ho2,hd2⟩:=I.ok.funs.mem hb
  have ho2':s.heap.get? b=some o2:=ho2
  rw [e] at ho2'
  cases ho2'
  obtain⟨sl2,q2⟩:=up b _ q hd2
  exact⟨sl2,q2⟩
 ·obtain⟨o2,q⟩:=U.there b o e hx
  by_cases hb:b∈frs (envOfC qual scope s.heap.objs.size f cdv::outer)
  ·obtain⟨_,o3,ho3,hd3⟩:=stk.mem hb
   obtain⟨sl,q3⟩:=up b _ ho3 hd3
   exact⟨_,q3⟩
  ·exact⟨_,kk b o2 q hb⟩
 ·refine(I.hok a u e).stay (fun b v hb q=>kk b v q fun z=>?_) (fun _ q=>q) fun _ _ q=>q
  have hn:=I.stkFree b z
  rcases hb with r | r
  ·rw [r] at hn;rw [hn] at e;cases e
  ·rw [hn] at r;cases r
theorem zeR {h':Heap}{e:Addr}{C:Value}{vs:List Value} (I:Inv (cxOf (CXE P w) P w K mg base N qual scope f cdv A outer s H E) pins σ H1 s2) (m:Heap.MadeExcOf s2.heap h' e C vs) (h:E C none H1) :
  (cxOf (CXE P w) P w K mg base N qual scope f cdv A outer s H E).xe (.ref e) { s2 with heap:=h' }:=by
 show wpAny (model P w) (A.deeper (envOfC qual scope s.heap.objs.size f cdv)) (leaving (envOfC qual scope s.heap.objs.size f cdv) (.ref e)) (fun _ s''=>CXE P w outer H s E (.ref e) s'') (fun e' s''=>CXE P w outer H s E e' s'') { s2 with heap:=h' }
 have stk:=I.stack
 refine wpAny_leaves_madeW (s:={ s2 with heap:=h' }) (base:=hideAll s2.heap (frs (envOfC qual scope s.heap.objs.size f cdv::outer))) (h:=s2.heap) I.ok.frames rfl (fun b o q=>of_hideAll _ q) (W.funFrames_hide stk fun env he b hb=>List.mem_filterMap.mpr ⟨env,he,hb⟩) m fun h'' t fl tup bt ups=>?_
 have up1:s2.heap.UpToSlots h'':=(Heap.UpToSlots.of_keeps m.keeps).trans ups
 refine⟨e,C,.ref t,H1,_,rfl,I.os,I.bare,fl,fun h3 st3 up3=>stands I st3 (up1.trans up3),?_,?_,h⟩
 ·have en:=m.new
  cases q:s.heap.get? e with
  | none=>rfl
  | some o=>
   obtain⟨o2,q2⟩:=I.base.there e o q (by show e ∉ ([]:List Addr);simp)
   rw [en] at q2;cases q2
 ·cases q:H1 e with
  | none=>rfl
  | some u=>
   obtain⟨ob,q2⟩:=ObjOk.there (I.hok e u q)
   rw [m.new] at q2;cases q2
theorem zfG {b:Addr}{o:Obj} (e:s.heap.get? b=some o) (hb:b ∉ frs outer):b ∉ frs (envOfC qual scope s.heap.objs.size f cdv::outer):=fun z=>by
 have z':b∈s.heap.objs.size::frs outer:=by
  unfold frs at z ⊢
  rw [List.filterMap_cons] at z
  exact z
 rcases List.mem_cons.mp z' with q | q
 ·exact absurd (Heap.lt_size e) (by rw [q];exact Nat.lt_irrefl _)
 ·exact hb q
theorem zeS {x:Addr} {s':Shared}{e:Value} {E':XK} (I:Inv (cxOf (CXE P w) P w K mg base N qual scope f cdv A outer s H E) pins σ H1 s2) (hx:CXE P w (envOfC qual scope s.heap.objs.size f cdv::outer) H1 s2 E' e s') (h:∀C H',E' C none H'→E C none H') :
  (cxOf (CXE P w) P w K mg base N qual scope f cdv A outer s H E).xe e s':=by
 obtain⟨x,C,a0,H',B,rfl,os,bare,fl,st,xn,xh,q⟩:=hx
 show wpAny (model P w) (A.deeper (envOfC qual scope s.heap.objs.size f cdv)) (leaving (envOfC qual scope s.heap.objs.size f cdv) (.ref x)) (fun _ s''=>CXE P w outer H s E (.ref x) s'') (fun e' s''=>CXE P w outer H s E e' s'') s'
 refine wpAny_leaves_onW I.ok.frames rfl fl fun h'' fl2 up=>?_
 have U:=I.base
 refine⟨x,C,a0,H',B,rfl,os.trans I.os,bare,fl2,fun h3 st3 up3=>?_,?_,xh,h C H' q⟩
 ·obtain⟨u,ok⟩:=st h3 st3 (up.trans up3)
  refine⟨⟨fun b o e n hb hx=>u.keep b o (U.keep b o e n hb hx) (U.free b o e n hx) (zfG e hb) hx,fun b o e n hb hx=>?_,fun b o e n hx=>?_,fun b o e hx=>?_,fun b xs e=>u.tups b xs (U.tups b xs e),fun b o v e=>u.frzs b o v (U.frzs b o v e),fun b ps e=>?_⟩,ok⟩
  ·obtain⟨sl,q1⟩:=U.slot b o e n hb hx
   have hb':b∈frs (envOfC qual scope s.heap.objs.size f cdv::outer):=by
    unfold frs;rw [List.filterMap_cons];exact List.mem_cons_of_mem _ hb
   obtain⟨sl2,q2⟩:=u.slot b _ q1 (U.free b o e n hx) hb' hx
   exact⟨sl2,q2⟩
  ·obtain⟨o2,q2⟩:=U.there b o e hx
   exact u.free b o2 q2 (U.free b o e n hx) hx
  ·obtain⟨o2,q2⟩:=U.there b o e hx
   exact u.there b o2 q2 hx
  ·obtain⟨m1,q1⟩:=U.tbls b ps e
   obtain⟨m2,q2⟩:=u.tbls b _ q1
   exact⟨m1++m2,by rw [q2,Array.append_assoc]⟩
 ·cases q1:s.heap.get? x with
  | none=>rfl
  | some o=>
   obtain⟨o2,q2⟩:=U.there x o q1 (by show x ∉ ([]:List Addr);simp)
   rw [xn] at q2;cases q2
end
section
variable {P:Program}{w:World}{K:W.Frag}{mg:Str→Option Value}{base:Heap}
noncomputable def FnE (P:Program) (w:World) (K:W.Frag) (mg:Str→Option Value) (base:Heap) (k:Nat) (x:Str) (ps:List Str) (sp:Sp):Prop:=
 ∃f fd,FnOk P w K mg base (CXE P w) k f fd ps sp∧W.keepIn K (.ref f)=true∧Binds K fd ps []∧mg x=some (.ref f)
noncomputable def zfR (C:Addr) (E:XK) (t:TA):TS:=fun _ σ H=>t σ H fun vs H1=>vs.length≤sizeLine∧E (.ref C) none H1
theorem vm {N:List Str}{qual:Str}{scope:Scope}{f:Addr}{cdv:Value}{A:Around}{outer:List Env}{s:Shared}{H:Hp}{E:XK}{xn:Str}{C:Addr}{bmB:List Value}{B newId initId:String}{e:Expr}{es:List Expr}{t:TA}{np cpos pos:Pos}
  (FB:ExcBaseFacts B newId initId bmB) (hq:W.excIn K C bmB newId=true) (hg:Gl (cxOf (CXE P w) P w K mg base N qual scope f cdv A outer s H E) xn) (hm:mg xn=some (.ref C)) (ha:PA (cxOf (CXE P w) P w K mg base N qual scope f cdv A outer s H E) (e::es) t)
  (hd:(xn == ("__debug__":Str))=false:=by decide)
  (he:starEach (e::es) (cxOf (CXE P w) P w K mg base N qual scope f cdv A outer s H E).env=(false,eval e (cxOf (CXE P w) P w K mg base N qual scope f cdv A outer s H E).env)::starEach es (cxOf (CXE P w) P w K mg base N qual scope f cdv A outer s H E).env:=by rfl)
  (hpl:(backTo cpos (starEach es (cxOf (CXE P w) P w K mg base N qual scope f cdv A outer s H E).env)).any (·.1)=false:=by rfl) :
  PS (cxOf (CXE P w) P w K mg base N qual scope f cdv A outer s H E) (.Raise (some (.Call (.Name xn np) (e::es) [] cpos)) none pos) (zfR C E t):=by
 intro pins s1 σ H0 D I h
 obtain⟨bm,N',nm,q,bs,hdct,sn,sub,ab,col,dd,k0,k1,k2,k3,k5,mN,hC,hN,hni,TL,_⟩:=zah I.mod.kin hq
 refine wpAny_Raise_call_subT (C:=C) (nm:=nm) (q:=q) (N:=N') (bs:=bs) (bm:=bm) (hdct:=hdct) (sn:=sn) (sub:=sub) (ab:=ab) (col:=col) (dd:=dd) (k0:=k0) (k1:=k1) (k2:=k2) (k3:=k3) (k5:=k5)
  FB (mN:=mN) (TL.hasType FB.hasBase) (I.ok.hd rfl) (by rw [he];show (false || (backTo cpos (starEach es _)).any (·.1))=false;rw [hpl];rfl) hni (ld_glob I hg hm ⟨rfl,?_⟩ hd)
 have hs:=ha cpos pins s1 σ H0 _ I h
 rw [he] at hs ⊢
 exact Calls.evalArgs_plain (thn hs fun us s2 x=>by
  obtain⟨vs,H1,I1,r1,z,q1⟩:=x
  exact⟨rfl,by rw [← r1.length];exact z,I1.bk _ _ hC,hN.keeps I1.bk,TL.keeps I1.bk,fun h' x m=>zeR I1 m q1⟩)
theorem Fun.okE {x qual:Str}{st:Stmt}{f:Addr}{fd:FuncData}{N ps:List Str}{k:Nat}{sp:Sp} (F:Fun K x qual st f fd) (S:FnScope N ps (defScope st)) (len:∀vs H Q E,sp vs H Q E→vs.length=ps.length)
  (hbody:∀(cdv:Value) (A:Around) (outer:List Env) (s:Shared) (H:Hp) (vs:List V) (Q:VK) (E:XK),Room k (A.deeper (envOfC qual (defScope st) s.heap.objs.size f cdv))→sp vs H Q E →
   ∃t,PSs (cxOf (CXE P w) P w K mg base N qual (defScope st) f cdv A outer s H E) (defBody st) t∧t { nx:=fun _ H'=>Q .non H',rt:=Q } (start N vs) H):FnOk P w K mg base (CXE P w) (k+1) f fd ps sp:=by
 obtain⟨oc,od,kV,doc,pm,an,cdv,ct,osl,rfl,lk,hcd⟩:=F.ex
 exact fn_of lk hcd S len fun A outer s H vs Q E hr hsp=>hbody cdv A outer s H vs Q E hr hsp
theorem Def.fnE {x:Str}{st:Stmt}{N ps:List Str}{k:Nat}{sp:Sp} (D:Def K mg x st ps) (S:FnScope N ps (defScope st)) (len:∀vs H Q E,sp vs H Q E→vs.length=ps.length)
  (hbody:∀(f:Addr) (cdv:Value) (A:Around) (outer:List Env) (s:Shared) (H:Hp) (vs:List V) (Q:VK) (E:XK),Room k (A.deeper (envOfC x (defScope st) s.heap.objs.size f cdv))→sp vs H Q E →
   ∃t,PSs (cxOf (CXE P w) P w K mg base N x (defScope st) f cdv A outer s H E) (defBody st) t∧t { nx:=fun _ H'=>Q .non H',rt:=Q } (start N vs) H):FnE P w K mg base (k+1) x ps sp:=by
 obtain⟨f,fd,F,b,m⟩:=D
 exact⟨f,fd,F.okE S len (hbody f),F.kp,b,m⟩
end
section
variable {M:Model}{A:Around}{E:Value→Shared→Prop}{h:Heap}{g:Array GenState}{d:Drawn}{t:Nat}{os:OsState}
noncomputable def za2 (h:Heap) (C:Addr) (bm:List Value):Prop:=∃N nm q bs hdct sn sub ab col dd k0 k1 k2 k3 k5 newId,h.get? C=some (excClassObj nm q C N bs bm hdct sn sub ab col dd k0 k1 k2 k3 k5 newId)∧bm.contains (.type "BaseException")=true
end
section
variable {X:Cx}{pins:List (Addr×Obj)}{σ:St}{H:Hp}{s:Shared}
theorem zc9 {M:Model}{A:Around}{E:Value→Shared→Prop}{i:Nat}{x:Str}{v:V}{Q:Unit→Shared→Prop} (I:Inv X pins σ H s) (hN:X.N.Nodup) (hi:X.N[i]?=some x) (hk:X.env.kindOf x=some .local) (hs':X.env.scope.names.lookup x=some .local) (hv:σ[i]?=some (some v))
  (h:∀s',Inv X pins (σ.set i none) H s'→Q () s'):wpAny M A (unbindName X.env x) Q E s:=by
 obtain⟨m,hn,hl⟩:=id I.loc
 have hcls:(X.env.scope.kind == .class || (X.env.scope.kind == .module && X.env.locals != X.env.globals))=false:=by rw [I.ok.kind];rfl
 have hiσ:i < σ.length:=by rw [I.len];exact(List.getElem?_eq_some_iff.mp hi).1
 have cne:=I.cne
 obtain⟨u,_,lk⟩:=hl i x v hi hv (.inl hs')
 have mx:m x=some u:=by
  rcases lk with ⟨_,e⟩ | ⟨k,_⟩
  ·exact e
  ·rw [hk] at k;rcases k with k | k <;> cases k
 refine wpAny_unbindName_local hk hn mx hcls fun h' u' hn' hs=>?_
 obtain⟨oL,_,_,hoL,_⟩:=id hn
 refine h _ ⟨I.ok,I.os,I.bare,⟨fun b o e n hb hx=>?_,fun b o e n hb hx=>?_,I.base.free,fun b o e hx=>?_,I.base.tups,I.base.frzs,I.base.tbls⟩,⟨_,hn',fun j y v' e1 e2 e3=>?_⟩,fun y c e=>?_,I.free,I.freeC,fun p hp=>?_,fun b ob e=>?_,by simpa using I.len⟩
 ·exact(hs.2 b (Nat.ne_of_lt (Nat.lt_of_lt_of_le (Heap.lt_size e) I.ok.above))).trans (I.base.keep b o e n hb hx)
 ·obtain⟨sl,e1⟩:=I.base.slot b o e n hb hx
  exact⟨sl,(hs.2 b (Nat.ne_of_lt (Nat.lt_of_lt_of_le (Heap.lt_size e) I.ok.above))).trans e1⟩
 ·obtain⟨o',e1⟩:=I.base.there b o e hx
  exact⟨o',(hs.2 b (Nat.ne_of_lt (Nat.lt_of_lt_of_le (Heap.lt_size e) I.ok.above))).trans e1⟩
 ·by_cases hj:j=i
  ·subst hj
   rw [List.getElem?_set_self hiσ] at e2
   cases e2
  ·rw [List.getElem?_set_ne (Ne.symm hj)] at e2
   obtain⟨u2,r',q⟩:=hl j y v' e1 e2 e3
   refine⟨u2,r',?_⟩
   rcases q with ⟨k,e⟩ | ⟨k,c,e,z⟩
   ·refine .inl ⟨k,?_⟩
    have:y≠x:=fun e=>hj (nodup_ix hN e1 (e ▸ hi))
    simp [this,e]
   ·exact .inr ⟨k,c,e,z.sameBut hs (cne y c e)⟩
 ·obtain⟨w',z⟩:=I.cell y c e
  exact⟨w',z.sameBut hs (cne y c e)⟩
 ·obtain⟨a,b,c,d,e⟩:=I.pin p hp
  exact⟨(hs.2 p.1 c).trans a,b,c,d,e⟩
 ·refine(I.hok b ob e).stay (fun c w' hc q=>(hs.2 c ?_).trans q) (fun _ q=>q) fun _ _ q=>q
  rintro rfl
  rcases hc with rfl | hc
  ·rw [I.free] at e;cases e
  ·rw [I.free] at hc;cases hc
abbrev Cx.inX (X:Cx) (x:Addr):Cx:={ X with A:=X.A.mark (some (.ref x)),calm:=false,xe:=fun _ _=>False }
theorem Inv.inX (I:Inv X pins σ H s) (x:Addr):Inv (X.inX x) pins σ H s:=
 ⟨⟨I.ok.mod,I.ok.kind,I.ok.glob,I.ok.blt,I.ok.above,I.ok.inj,I.ok.has,I.ok.cab,fun z=>Bool.noConfusion z,I.ok.frames,I.ok.stk,I.ok.exf,I.ok.bs,I.ok.bsz,I.ok.noex,I.ok.exfs,I.ok.funs,I.ok.frf⟩,I.os,I.bare,I.base,I.loc,I.cell,I.free,I.freeC,I.pin,I.hok,I.len⟩
theorem Inv.outX {x:Addr} (hh:X.calm=true→X.A.handled=none) (I:Inv (X.inX x) pins σ H s):Inv X pins σ H s:=
 ⟨⟨I.ok.mod,I.ok.kind,I.ok.glob,I.ok.blt,I.ok.above,I.ok.inj,I.ok.has,I.ok.cab,hh,I.ok.frames,I.ok.stk,I.ok.exf,I.ok.bs,I.ok.bsz,I.ok.noex,I.ok.exfs,I.ok.funs,I.ok.frf⟩,I.os,I.bare,I.base,I.loc,I.cell,I.free,I.freeC,I.pin,I.hok,I.len⟩
noncomputable def Zb (x:Addr) (C:Value):HO:=.ext fun h=>∃o,h.get? x=some o∧o.cls=C
theorem zbT {x:Addr}{C:Value} {H':Hp}{s6:Shared}{o:Obj} (I:Inv X pins σ H s) (ho:s6.os=s.os) (hg:AllBare s6.gens) (u:Un (frs X.stack) [] H H' s.heap s6.heap) (ok:HOk X.prog X.w H' s6.heap) (xn:s.heap.get? x=none) (xh:H' x=none) (he:s6.heap.get? x=some o) (hc:o.cls=C) :
  Inv X pins σ (upd H' x (Zb x C)) s6:=by
 have ne:∀b q,s.heap.get? b=some q→b≠x:=fun b q e z=>by rw [z,xn] at e;cases e
 refine I.call' (ch:=[]) ho ⟨u.keep,u.slot,fun b q e n hx=>by rw [upd_ne (ne b q e)];exact u.free b q e n hx,u.there,fun b xs e=>by rw [upd_ne (ne_of_none (u.tups b xs e) xh)];exact u.tups b xs e,fun b q v e=>by rw [upd_ne (ne_of_none (u.frzs b q v e) xh)];exact u.frzs b q v e,fun b ps e=>?_⟩ ?_ hg (fun b z=>absurd z (by simp))
 ·obtain⟨more,q⟩:=u.tbls b ps e
  exact⟨more,by rw [upd_ne (ne_of_none q xh)];exact q⟩
 ·intro b v e
  by_cases hb:b=x
  ·subst hb
   rw [upd_same] at e
   cases e
   exact⟨⟨o,he,hc⟩,⟨o,he⟩,fun h1 h2 ⟨o1,e1,c1⟩ k=>⟨o1,k o1 e1,c1⟩⟩
  ·rw [upd_ne hb] at e
   exact(ok b v e).stay (fun _ _ _ q=>q) (fun c q=>by rw [upd_ne (ne_of_none q xh)];exact q) fun c xs q=>by rw [upd_ne (ne_of_none q xh)];exact q
end
end L2
namespace L2
open PySem PySem.Spec PyProof.Rows
noncomputable def Ite (K:W.Frag) (l:Addr) (N:Nat):It:=
  ⟨fun i H=>∃xs x,SqL K H l xs∧xs.length=N∧xs[i]?=some x,
   fun i H v H'=>∃t,H t=none∧v=.ref t∧∀xs x,SqL K H l xs→xs[i]?=some x→H'=upd H t (.tup [.int i,x]),
   fun i H=>i=N∧∃xs,SqL K H l xs∧xs.length=N⟩
theorem zbU {P:Program}{w:World}{K:W.Frag}{elts:List Expr}{x1:Nat}{tp:Pos} (l e it:Addr) (N:Nat) (hei:e≠it) (hle:l≠e) (hli:l≠it) :
  Turn P w K (.Tuple elts x1 tp) (Ite K l N) [e,it] e (fun i h=>(∃old,IsEnum h e it i old)∧h.IsListIter it l i) where
 mem:=by simp
 obj:=fun i h ⟨⟨old,h1⟩,h2⟩ c hc=>by
  simp only [List.mem_cons,List.not_mem_nil,or_false] at hc
  rcases hc with z | z
  ·subst z;exact⟨_,h1,fun v q=>by have q':Data.fields _=Data.cell v:=q;cases q'⟩
  ·subst z
   obtain⟨o,ho,_,hd⟩:=h2
   exact⟨o,ho,fun v q=>by rw [hd] at q;cases q⟩
 keep:=fun i h h' ⟨⟨old,h1⟩,h2⟩ k=>⟨⟨old,k e (by simp) _ h1⟩,h2.at fun o z=>k it (by simp) o z⟩
 item:=by
  intro X hP hw hK hc i pins s σ H E I hf ⟨⟨old,h1⟩,h2⟩ ⟨xs,x,q1,hN,hx⟩
  subst hP hw hK
  obtain⟨it1,v1,p1,z1⟩:=I.list q1
  have hl1:=v1.length
  have hsz:it1.toArray.size=N:=by rw [List.size_toArray];omega
  have hi:i<N:=by have:=(List.getElem?_eq_some_iff.mp hx).1;omega
  obtain⟨u1,e1,r1⟩:=v1.get hx
  have D:=Draws.list (prog:=X.prog) (w:=X.w) (A:=X.A.in1) (I.ok.hd hc) it l hli it1.toArray
  rw [hsz] at D
  refine wpAny_pyNext_enum_itemD D h1 ⟨h2,p1.isList⟩ hi hei (by simp only [List.mem_cons,List.not_mem_nil,or_false,not_or];exact⟨hei,Ne.symm hle⟩) fun u h' tk hu g1 gst gT gs k=>?_
  refine⟨_,rfl,wpAny_letOwnedTupleGo_enum g1 fun h'' g1' sb=>?_⟩
  have hzT:s.heap.objs.size≠e:=Nat.ne_of_gt (Heap.lt_size h1)
  have eu:u=u1:=by
   have hu':it1[i]?=some u:=by simpa using hu
   rw [e1] at hu'
   exact(Option.some.inj hu').symm
  subst eu
  have gT':IsTup h'' s.heap.objs.size [Value.int i tk,u].toArray:=⟨_,sb.extBut _ _ hzT gT,rfl,_,rfl⟩
  have hlz:∀{c:Addr}{o:Obj},c≠e→h'.get? c=some o→h''.get? c=some o:=fun hcz z=>sb.extBut _ _ hcz z
  refine⟨.ref s.heap.objs.size,upd H s.heap.objs.size (.tup [.int i,x]),I.turnsT (ch:=[e,it]) (t':=tk+1) (fun c hcm=>hf c hcm) (fun c o hcn z=>?_) (Nat.le_refl _) (.cons ⟨tk,rfl⟩ (.cons r1 .nil)) gT' (by show 2≤sizeLine;decide),rfl,
   ⟨_,I.hok.fresh (Nat.le_refl _),rfl,fun xs' x' w1 w2=>?_⟩,⟨⟨_,g1'⟩,gst.1.at fun o z=>hlz (Ne.symm hei) z⟩,fun c hcm=>?_⟩
  ·simp only [List.mem_cons,List.not_mem_nil,or_false,not_or] at hcn
   exact hlz hcn.1 (k c o hcn.1 hcn.2 z)
  ·have a1:=I.list_inj w1 q1
   subst a1
   rw [hx] at w2
   cases w2
   rfl
  ·obtain⟨o,z,_⟩:∃o,s.heap.get? c=some o∧True:=by
    simp only [List.mem_cons,List.not_mem_nil,or_false] at hcm
    rcases hcm with z | z
    ·subst z;exact⟨_,h1,trivial⟩
    ·subst z;obtain⟨o,ho,_⟩:=h2;exact⟨o,ho,trivial⟩
   rw [upd_ne (Nat.ne_of_lt (Heap.lt_size z))]
   exact(hf c hcm).1
 done:=by
  intro X hP hw hK hc i pins s σ H E I hf ⟨⟨old,h1⟩,h2⟩ ⟨hi,xs,q1,hN⟩
  subst hP hw hK hi
  obtain⟨it1,v1,p1,z1⟩:=I.list q1
  have hl1:=v1.length
  have hsz:it1.toArray.size=i:=by rw [List.size_toArray];omega
  have D:=Draws.list (prog:=X.prog) (w:=X.w) (A:=X.A.in1) (I.ok.hd hc) it l hli it1.toArray
  rw [hsz] at D
  refine wpAny_pyNext_enum_endD D h1 ⟨h2,p1.isList⟩ fun h' k=>⟨rfl,I.turns (ch:=[e,it]) (t':=s.toks) hf fun c o hcn z=>?_⟩
  simp only [List.mem_cons,List.not_mem_nil,or_false,not_or] at hcn
  exact k c o hcn.2 z
 self:=fun _ _ _ _ _ st h=>let ⟨⟨_,z⟩,_⟩:=st;wpAny_pyIter_enum z h
section
variable {X:Cx}
noncomputable def zfS (K:W.Frag) (ta:TA):TI:=fun σ H R=>ta σ H fun vs H1=>∃a xs,vs=[.ref a]∧SqL K H1 a xs∧R (Ite K a xs.length) H1
theorem zdJ {a:Expr}{ta:TA}{p pos:Pos}{elts:List Expr}{x1:Nat}{tp:Pos} (hg:Gl X "enumerate") (hm:X.mg "enumerate"=none) (ha:PA X [a] ta)
  (hs:starEach [a] X.env=(false,eval a X.env)::starEach [] X.env:=by rfl) (hs2:(backTo pos (starEach [] X.env)).any (·.1)=false:=by rfl) :
  PI X (.Tuple elts x1 tp) (.Call (.Name "enumerate" p) [a] [] pos) (zfS X.K ta):=by
 intro pins s σ H R I h
 refine Call_ (ld_blt I hg hm zaU (PyProof.Rows.callWith_type1 (thn (ha pos pins s σ H _ I h) fun us s1 ⟨vs,H1,I1,r1,q1⟩=>?_) hs hs2))
 obtain⟨l,xs,e,q1,q⟩:=q1
 subst e
 obtain⟨u,rfl,w1⟩:=vals1 r1
 cases w1
 obtain⟨its,v1,p1,z1⟩:=I1.list q1
 have hl:l<s1.heap.objs.size:=by obtain⟨_,_,e,_⟩:=p1;exact Heap.lt_size e
 refine call_enumerate_list p1.isList fun h' g1 g2 gs k=>?_
 refine wpAny_pyIter_enum g1 ?_
 refine⟨s1.heap.objs.size+1,[s1.heap.objs.size+1,s1.heap.objs.size],_,_,H1,rfl,I1.kept (t':=s1.toks) k,zbU l _ s1.heap.objs.size xs.length ?_ ?_ ?_,⟨⟨_,g1⟩,g2⟩,fun c hcm=>?_,q⟩
 ·exact Nat.succ_ne_self _
 ·exact Nat.ne_of_lt (Nat.lt_succ_of_lt hl)
 ·exact Nat.ne_of_lt hl
 ·have hc:s1.heap.objs.size≤c:=by
   simp only [List.mem_cons,List.not_mem_nil,or_false] at hcm
   rcases hcm with e | e
   ·rw [e];exact Nat.le_succ _
   ·rw [e];exact Nat.le_refl _
  exact I1.fpOk hc (I1.hok.fresh hc)
end
theorem zbV {K:W.Frag}{a acc:Addr}{xs:List V}{own:Nat}{ix:List Nat}{g:TG}{te:TE}{σ:St}{H1:Hp}{Q:VK} (f:Nat→V) (hq1:SqL K H1 a xs) (hn:H1 acc=none) (hz:xs.length≤sizeLine)
  (step:∀(i:Nat) (x:V) (t:Addr) (H:Hp) (R:VK),xs[i]?=some x→Same H1 H→H t=some (.tup [.int i,x])→R (f i) H→g (.ref t) (qC own ix σ) H fun σ4 H4=>σ4.drop own=ix.map (fun i=>(σ[i]?).getD none)∧te σ4 H4 R)
  (hd:∀H',Same H1 H'→H' acc=some (.lst ((List.range xs.length).map f))→Q (.ref acc) H'):Jv (Ite K a xs.length) own ix g Z1 te σ H1 acc Q:=by
 refine⟨fun i m ys H=>m=xs.length-i∧i≤xs.length∧ys=(List.range i).map f∧Same H1 H∧H acc=some (.lst ys),⟨xs.length,by simp,Nat.zero_le _,rfl,Same.new hn,upd_same⟩,?_⟩
 rintro i m zs H ⟨rfl,hi,rfl,sm,ha⟩
 refine⟨ha,?_⟩
 by_cases hlt:i<xs.length
 ·refine .inr ⟨⟨xs,xs[i],sm.seq hq1,rfl,List.getElem?_eq_getElem hlt⟩,by rw [List.length_map,List.length_range];omega,fun v H3 ⟨t,ht,hv,hy⟩=>?_⟩
  have e:=hy xs _ (sm.seq hq1) (List.getElem?_eq_getElem hlt)
  subst hv e
  have ha3:(upd H t (.tup [.int i,xs[i]])) acc=some (.lst ((List.range i).map f)):=by rw [upd_ne (ne_of_none ha ht)];exact ha
  exact step i _ t _ _ (List.getElem?_eq_getElem hlt) (sm.put ht) upd_same ⟨ha3,_,by omega,rfl,hlt,by rw [List.range_succ,List.map_append];rfl,(sm.put ht).wr hn,upd_same⟩
 ·have e:i=xs.length:=by omega
  subst e
  exact .inl ⟨⟨rfl,xs,sm.seq hq1,rfl⟩,hd H sm ha⟩
theorem za3 {lo:Int}{n:Nat}{acc:Addr}{own:Nat}{ix:List Nat}{g:TG}{te:TE}{σ:St}{H1:Hp}{Q:VK} (Pr:Nat→V→Prop) (hn:H1 acc=none) (hz:n≤sizeLine)
  (step:∀(i:Nat) (H:Hp) (R:VK),i<n→Same H1 H→(∀v H',Same H H'→Pr i v→R v H')→g (.int (lo+i)) (qC own ix σ) H fun σ4 H4=>σ4.drop own=ix.map (fun i=>(σ[i]?).getD none)∧te σ4 H4 R)
  (hd:∀ys H',Same H1 H'→H' acc=some (.lst ys)→ys.length=n→(∀i v,ys[i]?=some v→Pr i v)→Q (.ref acc) H') :
  Jv (Itr lo n) own ix g Z1 te σ H1 acc Q:=by
 refine⟨fun i m ys H=>m=n-i∧i≤n∧ys.length=i∧(∀j v,ys[j]?=some v→Pr j v)∧Same H1 H∧H acc=some (.lst ys),⟨n,by simp,Nat.zero_le _,rfl,fun j v h=>by simp at h,Same.new hn,upd_same⟩,?_⟩
 rintro i m ys H ⟨rfl,hi,hl,pr,sm,ha⟩
 refine⟨ha,?_⟩
 by_cases hlt:i<n
 ·refine .inr ⟨hlt,by omega,fun x H3 y=>?_⟩
  obtain⟨e,y⟩:=y
  subst e y
  refine step i _ _ hlt sm fun v H' s' pv=>⟨s' _ _ ha,n-(i+1),by omega,rfl,hlt,by rw [List.length_append,hl];rfl,fun j u hj=>?_,(sm.trans s').wr hn,upd_same⟩
  by_cases hji:j<ys.length
  ·rw [List.getElem?_append_left hji] at hj
   exact pr j u hj
  ·have hj2:=(List.getElem?_eq_some_iff.mp hj).1
   rw [List.length_append,List.length_singleton] at hj2
   have ej:j=i:=by omega
   subst ej
   rw [List.getElem?_append_right (by omega),hl,Nat.sub_self] at hj
   have:v=u:=by simpa using hj
   subst this
   exact pv
 ·have e:i=n:=by omega
  subst e
  exact .inl ⟨Nat.le_refl _,hd ys H sm ha hl pr⟩
theorem zbW {K:W.Frag}{a acc:Addr}{xs:List V}{own:Nat}{ix:List Nat}{g:TG}{te:TE}{σ:St}{H1:Hp}{Q:VK} (Pr:Nat→V→Hp→Prop) (zjT:∀i v H H',Same H H'→Pr i v H→Pr i v H') (hacc:∀i v H o,H acc=some o→∀o',Pr i v H→Pr i v (upd H acc o'))
  (hq:SqL K H1 a xs) (hn:H1 acc=none) (hz:xs.length≤sizeLine)
  (step:∀(i:Nat) (x:V) (H:Hp) (R:VK),xs[i]?=some x→Same H1 H→(∀v H',Same H H'→Pr i v H'→R v H')→g x (qC own ix σ) H fun σ4 H4=>σ4.drop own=ix.map (fun i=>(σ[i]?).getD none)∧te σ4 H4 R)
  (hd:∀ys H',Same H1 H'→H' acc=some (.lst ys)→ys.length=xs.length→(∀i v,ys[i]?=some v→Pr i v H')→Q (.ref acc) H') :
  Jv (Itl K a) own ix g Z1 te σ H1 acc Q:=by
 refine⟨fun i m ys H=>m=xs.length-i∧i≤xs.length∧ys.length=i∧(∀j v,ys[j]?=some v→Pr j v H)∧Same H1 H∧H acc=some (.lst ys),⟨xs.length,by simp,Nat.zero_le _,rfl,fun j v h=>by simp at h,Same.new hn,upd_same⟩,?_⟩
 rintro i m ys H ⟨rfl,hi,hl,pr,sm,ha⟩
 refine⟨ha,?_⟩
 have q:=sm.seq hq
 by_cases hlt:i<xs.length
 ·refine .inr ⟨⟨xs,xs[i],q,by simp [hlt]⟩,by omega,fun x H3 y=>?_⟩
  obtain⟨e,y⟩:=y
  subst e
  refine step i x _ _ (y xs q) sm fun v H' s' pv=>⟨s' _ _ ha,xs.length-(i+1),by omega,rfl,hlt,by rw [List.length_append,hl];rfl,fun j u hj=>?_,(sm.trans s').wr hn,upd_same⟩
  by_cases hji:j<ys.length
  ·rw [List.getElem?_append_left hji] at hj
   exact hacc j u H' _ (s' _ _ ha) _ (zjT j u _ _ s' (pr j u hj))
  ·have hj2:=(List.getElem?_eq_some_iff.mp hj).1
   rw [List.length_append,List.length_singleton] at hj2
   have ej:j=i:=by omega
   subst ej
   rw [List.getElem?_append_right (by omega),hl,Nat.sub_self] at hj
   have:v=u:=by simpa using hj
   subst this
   exact hacc j v H' _ (s' _ _ ha) _ pv
 ·have e:i=xs.length:=by omega
  subst e
  exact .inl ⟨⟨xs,q,Nat.le_refl _⟩,hd ys H sm ha hl pr⟩
section
variable {X:Cx}
end
end L2
namespace L2
open PySem PySem.Spec PyProof.Rows PySem.W PySem.Calls
section
variable {prog:Program}{w:World}{A:Around}{E:Value→Shared→Prop}{s:Shared}{K:Frag}{x C:Addr}{ox:Obj}
structure Z4 (K:Frag) (C:Addr):Prop where
 ga:findIn K (.ref C) "__getattribute__"=some (some (.builtin "BaseException.__getattribute__"))
 hk:findIn K (.ref C) "__getattr__"=some none
 cl:findIn K (.ref C) "__class__"=some (some (.builtin "object.__class__"))
 gt:specialIn K (.builtin "object.__class__") "__get__"=some (some (.builtin "getset_descriptor.__get__"))
 tk:takesIn K (.builtin "object.__class__")=some true
 mo:mroIn K C (.type "object")=some true
 mb:mroIn K C (.type "BaseException")=some true
open PySem.Builtin PySem.Builtin.ObjectAttr in
theorem zbX {M : Model} {h : Heap} (X : K.In h) (L : Z4 K C) : Looks M h (find (.ref x) (.ref C) "__class__") (Found.bind (.builtin "getset_descriptor.__get__") (.builtin "object.__class__")) := by
  have L1 := looks_findIn (M := M) X L.cl
  have L2 : Looks M h (getOf (some (.builtin "object.__class__"))) (some (.builtin "getset_descriptor.__get__")) := looks_specialIn X L.gt
  have L3 := looks_takesIn (M := M) X L.tk
  exact L1.andThen (L2.andThen ((show Looks M h (dataDescriptor? (some (.builtin "object.__class__")) (some (.builtin "getset_descriptor.__get__"))) (some (.builtin "getset_descriptor.__get__", .builtin "object.__class__")) from L3.andThen .now).andThen (Looks.tag .now)))
theorem zdK {M:Model}{nameV:Value}{Q:Unit→Shared→Prop}{h:Heap}{g:Array GenState}{d:Drawn}{t:Nat}{os:OsState} (X:K.In h) (L:Z4 K C) (hx:h.get? x=some ox) (hc:ox.cls=.ref C) (hq:Q () ⟨h,g,d,t,os⟩) :
  wpAny M A (checkBuiltinCall "BaseException.__getattribute__" ⟨[.ref x,nameV],[]⟩) Q E ⟨h,g,d,t,os⟩:=by
 have hk:builtinKind "BaseException.__getattribute__"=some .slot:=by decide +kernel
 have hsplit:splitId "BaseException.__getattribute__"=some ("BaseException","__getattribute__"):=by decide +kernel
 have ha:=F.args_bexc_ga (.ref x) nameV
 have LT:Looks M h (typeOf (.ref x)) (.ref C):=hc ▸ (Looks.ld hx).andThen .now
 have LI:Looks M h (isInstance (.ref x) (.type "BaseException")) true:=LT.andThen (looks_mroIn X L.mb)
 simp only [checkBuiltinCall,hk,hsplit]
 refine wpAny_bind (LI.at ?_)
 repeat (first | assumption | wp_step)
open PySem.Builtin PySem.Builtin.ObjectAttr PySem.Builtin.Getset_descriptor in
theorem zbY {tp : Value} {R : Result → Shared → Prop} (X : K.In s.heap) (L : Z4 K C) (hx : s.heap.get? x = some ox) (hc : ox.cls = .ref C)
    (h : R (.ok (.ret (.ref C))) s) : codeAny (model prog w) A (.call (.builtin "getset_descriptor.__get__") ⟨[.builtin "object.__class__", .ref x, tp], []⟩) R s := by
  obtain ⟨hh, g, dr, t, os⟩ := s
  have L0 : Looks (model prog w) hh (typeOf (.ref x)) (.ref C) := hc ▸ (Looks.ld hx).andThen .now
  have L1 := looks_mroIn (M := model prog w) X L.mo
  refine codeAny_call_builtin KF.slot_gs.plain KF.entry_gs (KF.slot_gs.check _ _ _ _ _ _ _ _ KF.type_class (KF.args_gs _ _ _) ?_)
  unfold Builtin.«getset_descriptor.__get__» descrGet
  rw [dga_obj]
  refine wpAny_bind (wpAny_pure ?_)
  unfold descrGetter descrCheckInstance descrNameAndClass isInstance
  simp only [KF.owner_class]
  repeat lk
  refine ⟨Code.quiet_builtin _ (by decide +kernel), codeAny_builtin KF.entry_class ?_⟩
  unfold Builtin.«object.__class__» shownTypeOf
  repeat lk
  exact h
theorem zda {Q:Option Value→Shared→Prop} (X:K.In s.heap) (L:Z4 K C) (hx:s.heap.get? x=some ox) (hc:ox.cls=.ref C) (h:Q (some (.ref C)) { s with toks:=s.toks+1 }):wpAny (model prog w) A (getAttr? (.ref x) "__class__") Q E s:=by
 obtain⟨hh,g,d,t,os⟩:=s
 have L0:Looks (model prog w) hh (typeOf (.ref x)) (.ref C):=hc ▸ (Looks.ld hx).andThen .now
 have L1:=looks_findIn (M:=model prog w) X L.ga
 have L2:=looks_findIn (M:=model prog w) X L.hk
 unfold getAttr? getAttrBy? getAttrBy
 refine wpAny_bind (wpAny_mkText (wpAny_bind (wpAny_attempt (wpAny_holding (wpAny_bind (L0.at (wpAny_bind (L1.at ?_))))))))
 show wpAny _ _ (getAttrByItsOwn _ _ _ _ _ _) _ _ _
 unfold getAttrByItsOwn hookBefore
 refine wpAny_bind ?_
 show wpAny _ _ (typeLookup (.ref C) "__getattr__") _ _ _
 refine L2.at ?_
 refine wpAny_bind (wpAny_attempt (wpAny_holding ?_))
 show wpAny _ _ (boundAndCalled (.builtin "BaseException.__getattribute__") (.ref x) (.str "__class__" t)) _ _ _
 unfold boundAndCalled
 refine wpAny_bind (wpAny_of_eq (F.excAttr_ValueError.ga.bind (.ref x)) ?_)
 show wpAny _ _ (call (.builtin "BaseException.__getattribute__") [.ref x,.str "__class__" t]) _ _ _
 refine wpAny_call (codeAny_call_builtin F.excAttr_ValueError.ga.plain F.entry_bexc_ga (zdK (t:=t+1) X L hx hc ?_))
 unfold Builtin.«object.__getattribute__»
 refine wpAny_bind (wpAny_of_eq (a:=(Value.ref x,[Value.str "__class__" t])) rfl ?_)
 refine wpAny_bind (wpAny_of_eq (a:=Str.ofString "__class__") rfl ?_)
 refine wpAny_bind (L0.at (wpAny_bind ((zbX X L).at ?_)))
 show wpAny _ _ (holding [.builtin "object.__class__"] (call (.builtin "getset_descriptor.__get__") [.builtin "object.__class__",.ref x,.ref C]) >>= ret) _ _ _
 refine wpAny_bind (wpAny_holding (wpAny_call (zbY (s:=⟨hh,g,d,t+1,os⟩) X L hx hc (wpAny_pure ?_))))
 exact handed_on rfl (wpAny_pure h)
end
section
variable {K:Frag}{x C:Addr}
theorem zdL (L:Z4 K C):KitX K (.ref x) (.ref C) (fun h=>∃o,h.get? x=some o∧o.cls=.ref C) where
 ty:=fun M h _ p=>by
  obtain⟨o,h1,h2⟩:=p
  exact h2 ▸ (Looks.ld h1).andThen .now
 it:=fun _ _ X _=>by
  obtain⟨cd,hcd,_⟩:=Option.bind_eq_some_iff.mp (show (clsIn K C).bind _=some true from L.mo)
  unfold clsIn at hcd
  split at hcd
  ·rename_i c' d' cd' sl' ho
   intro A' Q' E' s' k q
   unfold isType loadHead
   exact wpAny_bind (wpAny_loadPart (k _ _ (X _ _ ho)) (wpAny_pure q))
  ·cases hcd
 ne:=fun h tp dd its n sl X htp=>by
  obtain⟨cd,hcd,_⟩:=Option.bind_eq_some_iff.mp (show (clsIn K C).bind _=some true from L.mo)
  refine Bool.eq_false_iff.mpr fun q=>?_
  have e:C=tp:=Value.ref.inj (beq_iff_eq.mp q)
  subst e
  unfold clsIn at hcd
  split at hcd
  ·rename_i c' d' cd' sl' ho
   have z:=(X _ _ ho).symm.trans htp
   cases z
  ·cases hcd
 ca:=fun X p k=>by
  obtain⟨o,h1,h2⟩:=p
  exact zda X L h1 h2 k
end
inductive XTy (K:W.Frag) (H:Hp):V→Value→Prop where
 | of {x:V}{t:Value} (h:TyOf K H x t):XTy K H x t
 | exc {a C:Addr} (L:Z4 K C) (h:H a=some (Zb a (.ref C))):XTy K H (.ref a) (.ref C)
section
variable {X:Cx}
theorem qQ:CallR X (.builtin "isinstance") (fun xs H Q=>∃(x c:V) (u t:Value) (b:Bool),xs=[x,c]∧(∀u',RelV c u'→u'=u)∧XTy X.K H x t∧kitOne X.K t u=some b∧Q (.bl b) H):=by
 intro pins s σ H xs us Q I r h
 obtain⟨x,c,u,t,b,rfl,hu,ty,e,q⟩:=h
 obtain⟨u1,u2,rfl,r1,r2⟩:=vals2 r
 have e2:=hu u2 r2
 subst e2
 cases ty with
 | of ty=>exact isinst_ok I r1 ty e fun tk=>⟨.bl b,H,I.tok tk,rfl,q⟩
 | @exc a C L hx=>
  cases (show u1=Value.ref a from r1)
  obtain⟨⟨o,ho,hc⟩,_,_⟩:=(show ObjOk X.prog X.w H s.heap a (Zb a (.ref C)) from I.hok a _ hx)
  exact kia_one (zdL L) I.kIn ⟨o,ho,hc⟩ e (fun z=>nomatch z) fun tk=>⟨.bl b,H,I.tok tk,rfl,q⟩
end
noncomputable def Xu (X:Cx) (G:St→Value→Hp→Prop):Prop:=∀(pins:List (Addr×Obj)) (σ:St) (H:Hp) (s:Shared) (e:Value) (s':Shared),Inv X pins σ H s→CXE X.prog X.w X.stack H s (fun C _ H'=>G σ C H') e s'→X.xe e s'
noncomputable def zll (sp:Sp) (G:St→Value→Hp→Prop) (t:TA):TE:=fun σ H Q=>t σ H fun vs H1=>sp vs H1 Q fun C _ H'=>G σ C H'
section
variable {X:Cx}{k:Nat}{x:Str}{ps:List Str}{sp:Sp}{p pos:Pos}{e:Expr}{es:List Expr}{t:TA}{G:St→Value→Hp→Prop}
theorem z7 (F:FnE X.prog X.w X.K X.mg X.base k x ps sp) (hr:Room k X.A) (hg:Gl X x) (hx:Xu X G) (ha:PA X (e::es) t) (hdb:(x == ("__debug__":Str))=false:=by decide)
  (he:starEach (e::es) X.env=(false,eval e X.env)::starEach es X.env:=by rfl) (hpl:(backTo pos (starEach es X.env)).any (·.1)=false:=by rfl) :
  PE X (.Call (.Name x p) (e::es) [] pos) (zll sp G t):=by
 obtain⟨f,fd,F,kp,b,m⟩:=F
 intro pins s σ H Q I h
 refine wpAny_Call_Name_kw (ld_glob I hg m ?_ hdb)
 refine W.callWith_K (h₀:=X.base) I.ok.mod.kin kp (thn (ha pos pins s σ H _ I h) fun us s1 ⟨vs,H1,I1,r,q⟩=>⟨I1.kIn,?_⟩) he hpl
 have hl:us.length=ps.length:=by rw [← r.length];exact F.len _ _ _ _ q
 have bb:=b s1 us I1.kIn (by rw [List.append_nil];exact hl)
 rw [List.append_nil] at bb
 refine wpAny_call (codeAny_mono (F.run X.A X.stack s1 H1 ⟨us,[]⟩ us vs Q _ hr I1.env0 bb r q) fun rr s' hq=>?_)
 cases rr with
 | error e=>exact hx pins σ H1 s1 e s' I1 hq
 | ok fl=>
  cases fl with
  | ret u=>exact I1.after hq
  | next=>exact False.elim hq
  | brk=>exact False.elim hq
  | cont=>exact False.elim hq
end
theorem zL {P:Program}{w:World}{K:W.Frag}{mg:Str→Option Value}{base:Heap}{N:List Str}{qual:Str}{scope:Scope}{f:Addr}{cdv:Value}{A:Around}{outer:List Env}{s:Shared}{H:Hp}{E:XK} :
  Xu (cxOf (CXE P w) P w K mg base N qual scope f cdv A outer s H E) (fun _ C H'=>E C none H'):=
 fun _ _ _ _ _ _ I h=>zeS (x:=0) I h fun _ _ z=>z
abbrev Cx.pinned (X:Cx) (pn:List (Addr×Obj)):Cx:={ X with pn:=pn }
theorem Inv.intoPn {X:Cx}{pins:List (Addr×Obj)}{σ:St}{H:Hp}{s:Shared} (I:Inv X pins σ H s):Inv (X.pinned (X.pn++pins)) [] σ H s:=
 ⟨⟨I.ok.mod,I.ok.kind,I.ok.glob,I.ok.blt,I.ok.above,I.ok.inj,I.ok.has,I.ok.cab,I.ok.hd,I.ok.frames,I.ok.stk,I.ok.exf,I.ok.bs,I.ok.bsz,I.ok.noex,I.ok.exfs,I.ok.funs,I.ok.frf⟩,I.os,I.bare,I.base,I.loc,I.cell,I.free,I.freeC,fun p hp=>I.pin p (by rw [List.append_nil] at hp;exact hp),I.hok,I.len⟩
theorem Inv.outPn {X:Cx}{pins YL:List (Addr×Obj)}{σ:St}{H:Hp}{s:Shared} (I:Inv (X.pinned (X.pn++pins)) YL σ H s):Inv X pins σ H s:=
 ⟨⟨I.ok.mod,I.ok.kind,I.ok.glob,I.ok.blt,I.ok.above,I.ok.inj,I.ok.has,I.ok.cab,I.ok.hd,I.ok.frames,I.ok.stk,I.ok.exf,I.ok.bs,I.ok.bsz,I.ok.noex,I.ok.exfs,I.ok.funs,I.ok.frf⟩,I.os,I.bare,I.base,I.loc,I.cell,I.free,I.freeC,fun p hp=>I.pin p (List.mem_append_left _ hp),I.hok,I.len⟩
theorem VM {M:Model}{A:Around}{E:Value→Shared→Prop}{h:Heap}{g:Array GenState}{d:Drawn}{t:Nat}{os:OsState}{x C CB:Addr}{ox:Obj}{bm bm2:List Value}{Q:Bool→Shared→Prop} (hC:za2 h C bm) (hB:za2 h CB bm2) (hx:h.get? x=some ox) (hxc:ox.cls=.ref C)
  (hm:(Value.ref C::bm).contains (.ref CB)=true) (hq:Q true ⟨h,g,d,t,os⟩):wpAny M A (excMatches (.ref x) (.ref CB)) Q E ⟨h,g,d,t,os⟩:=by
 obtain⟨N,nm,q,bs,hdct,sn,sub,ab,col,dd,k0,k1,k2,k3,k5,newId,hC,hb⟩:=hC
 obtain⟨N',nm',q',bs',hdct',sn',sub',ab',col',dd',k0',k1',k2',k3',k5',newId',hB,hb'⟩:=hB
 have hcB:(Value.ref CB::bm2).contains (.type "BaseException")=true:=by rw [List.contains_cons,hb',Bool.or_true]
 have f:=tc_notTuple
 unfold excMatches
 repeat (first | (with_reducible refine wpAny_loadPart_at hx ?_;rw [hxc]) | with_reducible refine wpAny_loadPart_at hB ?_ | (with_reducible refine wpAny_isSubtype_exc hB ?_;rw [hcB]) | (with_reducible refine wpAny_isSubtype_exc hC ?_;rw [hm]) | wp_step)
 exact hq
noncomputable def zjU (K:W.Frag) (CB:Addr) (i:Nat) (tb:(St→Value→Hp→Prop)→TS) (t2:TS):TS:=fun D σ H=>tb (fun σ1 Cv H'=>∃(C:Addr) (bmB:List Value) (newId:String),Cv=.ref C∧W.excIn K C bmB newId=true∧bmB.contains (.type "BaseException")=true∧W.mroIn K C (.ref CB)=some true ∧
 ∀x,H' x=none→t2 { nx:=fun σ3 H3=>D.nx ((σ3.set i (some .non)).set i none) H3,rt:=fun _ _=>False } (σ1.set i (some (.ref x))) (upd H' x (Zb x (.ref C)))) D σ H
theorem zeT {X:Cx}{n xn:Str}{tb:(St→Value→Hp→Prop)→TS}{t2:TS}{CB:Addr}{i:Nat}{body:List Stmt}{b2:Stmt}{bs2:List Stmt}{np pos2 pos:Pos}{bmC:List Value}{idC:String}
  (hst:X.stack=X.env::X.outer) (hfr:X.env.frame=some X.env.locals) (hN:X.N.Nodup) (hi:X.N[i]?=some n) (hl:X.env.scope.names.lookup n=some .local) (hkl:X.env.kindOf n=some .local)
  (hgC:Gl X xn) (hmC:X.mg xn=some (.ref CB)) (hqB:W.excIn X.K CB bmC idC=true) (hbB:bmC.contains (.type "BaseException")=true)
  (hb:∀(pn:List (Addr×Obj)) (xe:Value→Shared→Prop) (G:St→Value→Hp→Prop),Xu ((X.pinned pn).wish xe) G→PSs ((X.pinned pn).wish xe) body (tb G)) (hb2:∀x,PSs (X.inX x) (b2::bs2) t2)
  (hdC:(xn == ("__debug__":Str))=false:=by decide) :
  PS X.nox (.Try body [.ExceptHandler (some (.Name xn np)) (some n) (b2::bs2) pos2] [] [] pos) (zjU X.K CB i tb t2):=by
 intro pins s σ H D I h
 have I0:Inv X pins σ H s:=I.unwish
 refine wpAny_Try_except (wpAny_mono (hb (X.pn++pins) (fun e s'=>∃(YL:List (Addr×Obj)) (σ1:St) (H1:Hp) (s1:Shared),Inv (X.pinned (X.pn++pins)) YL σ1 H1 s1∧CXE X.prog X.w X.stack H1 s1 (fun Cv _ H'=>∃(C:Addr) (bmB:List Value) (newId:String),Cv=.ref C∧W.excIn X.K C bmB newId=true∧bmB.contains (.type "BaseException")=true∧W.mroIn X.K C (.ref CB)=some true ∧
   ∀x,H' x=none→t2 { nx:=fun σ3 H3=>D.nx ((σ3.set i (some .non)).set i none) H3,rt:=fun _ _=>False } (σ1.set i (some (.ref x))) (upd H' x (Zb x (.ref C)))) e s') _ (fun YL σ1 H1 s1 e s' I1 z=>⟨YL,σ1,H1,s1,I1.unwish,z⟩) [] s σ H D (I0.intoPn.wish _) h) (fun fl s1 x=>?_) fun e s' x=>?_)
 ·cases fl with
  | next=>
   obtain⟨σ',H',I',q⟩:=x
   exact wpAny_execs_nil ⟨σ',H',I'.unwish.outPn.wish _,q⟩
  | brk=>
   obtain⟨σ',H',I',q⟩:=x
   exact⟨σ',H',I'.unwish.outPn.wish _,q⟩
  | cont=>
   obtain⟨σ',H',I',q⟩:=x
   exact⟨σ',H',I'.unwish.outPn.wish _,q⟩
  | ret u=>
   obtain⟨v,σ',H',I',r,q⟩:=x
   exact⟨v,σ',H',I'.unwish.outPn.wish _,r,q⟩
 ·obtain⟨YL,σ1,H1,s1,I1',x,Cv,a0,H',B,rfl,os,bare,fl,st,xn',xh,C,bmB,newId,rfl,hq,hbase,hmro,q2⟩:=x
  have I1:Inv X pins σ1 H1 s1:=I1'.outPn
  have fl':Heap.FlyingW B (X.env::X.outer) x (.ref C) a0 s'.heap:=by rw [← hst];exact fl
  have hfs:X.A.frames=some (X.env::X.outer):=by rw [← hst];exact I.ok.frames
  refine wpAny_looks_onW hfs hfr fl' fun h₄ held up4=>wpAny_landsW held fun h₅ fl5 up5=>?_
  have u05:=up4.trans up5
  obtain⟨un5,ok5⟩:=st h₅ fl5.1 u05
  have I5:Inv X pins σ1 H' { s' with heap:=h₅ }:=I1.call' (ch:=[]) os un5 ok5 bare (fun b z=>absurd z (by simp))
  obtain⟨ob,hob,hobc⟩:=fl5.there
  obtain⟨bm,N',nm,qn,bs,hdct,sn,sub,ab,col,dd,k0,k1,k2,k3,k5,mN,hC,hNs,hni,TL,mro⟩:=zah I5.kIn hq
  obtain⟨bm',N'',nm',qn',bs',hdct',sn',sub',ab',col',dd',k0',k1',k2',k3',k5',mN',hB',hNs',hni',TL',mro'⟩:=zah I5.kIn hqB
  refine wpAny_handleBy_cons (codeAny_handlers_test (Calls.Name_function_global I.ok.kind hgC (Calls.loadGlobal_global (by rw [I.ok.glob];exact(I.ok.mod.glob.keeps fun b o e=>I5.bk b o e)) hmC ?_) hdC)) (by intro q;cases q)
  refine VM ⟨N',nm,qn,bs,hdct,sn,sub,ab,col,dd,k0,k1,k2,k3,k5,newId,hC,TL.hasType hbase⟩ ⟨N'',nm',qn',bs',hdct',sn',sub',ab',col',dd',k0',k1',k2',k3',k5',_,hB',TL'.hasType hbB⟩ hob hobc (mro _ _ hmro) (codeAny_handlers_suite_as ?_)
  refine lands_againW fl5 fun h₇ fl7 up7=>?_
  obtain⟨un7,ok7⟩:=st h₇ fl7.1 (u05.trans up7)
  obtain⟨ob7,hob7,hc7⟩:=fl7.there
  have I7:Inv X.nox pins σ1 (upd H' x (Zb x (.ref C))) { s' with heap:=h₇ }:=zbT (I1.wish _) os bare un7 ok7 xn' xh hob7 hc7
  refine store_ok I7 hN hi (.inl hl) (v:=.ref x) rfl (fun s8 I8=>?_) (.inr hl)
  refine wpAny_mono (hb2 x pins s8 _ _ _ (I8.unwish.inX x) (q2 x xh)) (fun fl9 s9 x9=>?_) fun _ _ z=>False.elim z
  have hh:X.nox.calm=true→X.nox.A.handled=none:=I.ok.hd
  cases fl9 with
  | next=>
   obtain⟨σ3,H3,I9,q9⟩:=x9
   have I9':Inv X.nox pins σ3 H3 s9:=(Inv.outX (X:=X) hh I9).wish _
   have hi3:i < σ3.length:=by rw [I9'.len];exact(List.getElem?_eq_some_iff.mp hi).1
   refine wpAny_bind (wpAny_bindName (store_ok I9' hN hi (.inl hl) (v:=.non) (u:=.none) rfl (fun s10 I10=>?_) (.inr hl)))
   unfold unbindBehindTheSuite
   exact wpAny_onRaise (zc9 I10 hN hi hkl hl (List.getElem?_set_self hi3) fun s11 I11=>⟨_,_,I11,q9⟩)
  | ret u=>obtain⟨_,_,_,_,_,z⟩:=x9;exact False.elim z
  | brk=>obtain⟨_,_,_,z⟩:=x9;exact False.elim z
  | cont=>obtain⟨_,_,_,z⟩:=x9;exact False.elim z
end L2
namespace L2
open PySem PySem.Spec PyProof.Rows
section
variable {X:Cx}
variable {a b:Expr}{ta tb:TE}{pos:Pos}
variable {tA tB':TT}{rest:List Expr}
end
section
variable {X:Cx}{CX:CXT}{k:Nat}{f C:Addr}{fd:FuncData}{ps ks:List Str}{sp:Sp}{E:XK}{x m:Str}{p pos apos kpos:Pos}{e o:Expr}{es:List Expr}{kws:List Keyword}{te ta:TE}{t tk:TA}{nm:Option Str}
variable {g:List Value→List Value→List Value}{gV:List V→List V→List V}
end
section
variable {κ:Type} [DecidableEq κ]
noncomputable def valV (kvs:List (κ×V)) (k:κ):Option V:=(kvs.find? fun kv=>decide (kv.1=k)).map (·.2)
noncomputable def putK (kvs:List (κ×V)) (k:κ) (v:V):List (κ×V):=
 if (kvs.any fun kv=>decide (kv.1=k))=true then kvs.map (fun kv=>if kv.1=k then (kv.1,v) else kv) else kvs++[(k,v)]
noncomputable def dropK (kvs:List (κ×V)) (k:κ):List (κ×V):=kvs.filter fun kv=>decide (kv.1≠k)
theorem valV_pos {p:κ×V}{r:List (κ×V)}{k:κ} (e:p.1=k):valV (p::r) k=some p.2:=by simp [valV,List.find?_cons,e]
theorem valV_neg {p:κ×V}{r:List (κ×V)}{k:κ} (e:¬p.1=k):valV (p::r) k=valV r k:=by simp [valV,List.find?_cons,e]
theorem valV_any (k:κ):∀kvs:List (κ×V),(kvs.any fun kv=>decide (kv.1=k))=(valV kvs k).isSome
 | []=>rfl
 | p::r=>by
  rw [List.any_cons]
  by_cases e:p.1=k
  ·simp only [valV_pos e,decide_eq_true e,Bool.true_or,Option.isSome_some]
  ·rw [valV_neg e,decide_eq_false e,Bool.false_or];exact valV_any k r
theorem valV_map (k j:κ) (y:V):∀kvs:List (κ×V),valV (kvs.map fun kv=>if kv.1=k then (kv.1,y) else kv) j=(valV kvs j).map fun x=>if j=k then y else x
 | []=>rfl
 | p::r=>by
  have ih:=valV_map k j y r
  rw [List.map_cons]
  by_cases h:p.1=k
  ·rw [if_pos h]
   by_cases e:p.1=j
   ·rw [valV_pos (p:=(p.1,y)) e,valV_pos e,Option.map_some,if_pos (e.symm.trans h)]
   ·rw [valV_neg (p:=(p.1,y)) e,valV_neg e,ih]
  ·rw [if_neg h]
   by_cases e:p.1=j
   ·rw [valV_pos (p:=p) e,valV_pos e,Option.map_some,if_neg (fun z=>h (e.trans z))]
   ·rw [valV_neg (p:=p) e,valV_neg e,ih]
theorem valV_snoc (k j:κ) (y:V):∀kvs:List (κ×V),valV kvs k=none→valV (kvs++[(k,y)]) j=if j=k then some y else valV kvs j
 | [],_=>by
  by_cases e:k=j
  ·rw [if_pos e.symm];exact valV_pos (p:=(k,y)) e
  ·rw [if_neg (fun z=>e z.symm)];exact valV_neg (p:=(k,y)) e
 | p::r,hn=>by
  rw [List.cons_append]
  have hk:¬p.1=k:=fun z=>by rw [valV_pos z] at hn;cases hn
  rw [valV_neg hk] at hn
  have ih:=valV_snoc k j y r hn
  by_cases e:p.1=j
  ·rw [valV_pos e,valV_pos e,if_neg (fun z=>hk (e.trans z))]
  ·rw [valV_neg e,valV_neg e,ih]
theorem valV_put (kvs:List (κ×V)) (k j:κ) (y:V):valV (putK kvs k y) j=if j=k then some y else valV kvs j:=by
 unfold putK
 by_cases a:(kvs.any fun kv=>decide (kv.1=k))=true
 ·rw [if_pos a,valV_map]
  rw [valV_any] at a
  by_cases e:j=k
  ·obtain⟨x,hx⟩:=Option.isSome_iff_exists.mp a
   rw [if_pos e,e,hx,Option.map_some,if_pos rfl]
  ·rw [if_neg e]
   cases valV kvs j with
   | none=>rfl
   | some x=>rw [Option.map_some,if_neg e]
 ·rw [if_neg a]
  refine valV_snoc k j y kvs ?_
  rw [valV_any] at a
  cases q:valV kvs k with
  | none=>rfl
  | some x=>rw [q] at a;exact(a rfl).elim
theorem length_putK (kvs:List (κ×V)) (k:κ) (v:V):(putK kvs k v).length≤kvs.length+1:=by
 unfold putK
 split
 ·rw [List.length_map];omega
 ·rw [List.length_append,List.length_cons,List.length_nil];omega
theorem RelO.isSome_eq {o:Option V}{u:Option Value} (r:RelO o u):o.isSome=u.isSome:=by
 cases o with
 | none=>cases u with
  | none=>rfl
  | some _=>exact(show False from r).elim
 | some _=>cases u with
  | none=>exact(show False from r).elim
  | some _=>rfl
theorem RelO.getD {o:Option V}{u:Option Value}{d:V} {d':Value} (r:RelO o u) (rd:RelV d d'):RelV (o.getD d) (u.getD d'):=by
 cases o with
 | none=>cases u with
  | none=>exact rd
  | some _=>exact(show False from r).elim
 | some _=>cases u with
  | none=>exact(show False from r).elim
  | some _=>exact r
theorem KV.val {kvs:List (κ×V)}{vs:List (κ×Value)} (r:KV kvs vs) (k:κ):RelO (valV kvs k) (valueAt vs k):=by
 unfold KV at r
 induction r with
 | nil=>exact True.intro
 | @cons p q ps qs h t ih=>
  obtain⟨h1,h2⟩:=h
  by_cases e:p.1=k
  ·have e':q.1=k:=h1.symm.trans e
   have b:valueAt (q::qs) k=some q.2:=by simp [valueAt,List.find?_cons,e']
   rw [valV_pos e,b];exact h2
  ·have e':¬q.1=k:=fun z=>e (h1.trans z)
   have b:valueAt (q::qs) k=valueAt qs k:=by simp [valueAt,List.find?_cons,e']
   rw [valV_neg e,b];exact ih
theorem KV.any {kvs:List (κ×V)}{vs:List (κ×Value)} (r:KV kvs vs) (k:κ):(kvs.any fun kv=>decide (kv.1=k))=vs.any fun kv=>decide (kv.1=k):=by
 unfold KV at r
 induction r with
 | nil=>rfl
 | cons h t ih=>rw [List.any_cons,List.any_cons,ih,h.1]
theorem KV.repl {kvs:List (κ×V)}{vs:List (κ×Value)} (r:KV kvs vs) (k:κ){y:V}{u:Value} (ry:RelV y u) :
  KV (kvs.map fun kv=>if kv.1=k then (kv.1,y) else kv) (vs.map fun kv=>if kv.1=k then (kv.1,u) else kv):=by
 unfold KV at r ⊢
 induction r with
 | nil=>exact .nil
 | @cons p q ps qs h t ih=>
  rw [List.map_cons,List.map_cons]
  refine .cons ?_ ih
  obtain⟨h1,h2⟩:=h
  by_cases e:p.1=k
  ·rw [if_pos e,if_pos (h1.symm.trans e)];exact⟨h1,ry⟩
  ·rw [if_neg e,if_neg (fun z=>e (h1.trans z))];exact⟨h1,h2⟩
theorem KV.put {kvs:List (κ×V)}{vs:List (κ×Value)} (r:KV kvs vs) (k:κ){y:V}{u:Value} (ry:RelV y u):KV (putK kvs k y) (stored vs k u):=by
 unfold putK stored
 rw [r.any k]
 by_cases e:(vs.any fun kv=>decide (kv.1=k))=true
 ·rw [if_pos e,if_pos e];exact r.repl k ry
 ·rw [if_neg e,if_neg e];exact Paired.snoc r ⟨rfl,ry⟩
theorem KV.drop {kvs:List (κ×V)}{vs:List (κ×Value)} (r:KV kvs vs) (k:κ):KV (dropK kvs k) (without vs k):=by
 unfold KV at r ⊢
 unfold dropK without
 induction r with
 | nil=>exact .nil
 | @cons p q ps qs h t ih=>
  obtain⟨h1,h2⟩:=h
  rw [List.filter_cons,List.filter_cons]
  by_cases e:p.1=k
  ·have a:¬decide (p.1≠k)=true:=by simp [e]
   have b:¬decide (q.1≠k)=true:=by simp [h1.symm.trans e]
   rw [if_neg a,if_neg b];exact ih
  ·have e':¬q.1=k:=fun z=>e (h1.trans z)
   have a:decide (p.1≠k)=true:=by simp [e]
   have b:decide (q.1≠k)=true:=by simp [e']
   rw [if_pos a,if_pos b];exact .cons ⟨h1,h2⟩ ih
theorem KV.keys {kvs:List (κ×V)}{vs:List (κ×Value)} (r:KV kvs vs):kvs.map (·.1)=vs.map (·.1):=by
 unfold KV at r
 induction r with
 | nil=>rfl
 | cons h t ih=>rw [List.map_cons,List.map_cons,ih,h.1]
theorem KV.length {kvs:List (κ×V)}{vs:List (κ×Value)} (r:KV kvs vs):kvs.length=vs.length:=Paired.length r
end
theorem kV_is {P:Program}{w:World}{k:Key}{u:Value} (r:RelV (kV k) u):(mixKind P w).is k u=true:=by
 cases k with
 | inl i=>obtain⟨t,e⟩:=(show ∃t,u=Value.int i t from r);subst e;exact mixKind_int P w i t
 | inr x=>obtain⟨t,e⟩:=(show ∃t,u=Value.str x t from r);subst e;exact mixKind_str P w x t
theorem items_are {P:Program}{w:World}:∀{ks:List Key}{us:List Value},Vals (ks.map kV) us→ItemsAre (mixKind P w) ks us
 | [],_,r=>by rw [List.map_nil] at r;cases r;exact .nil
 | k::ks,_,r=>by
  rw [List.map_cons] at r
  cases r with
  | cons h t=>exact .cons (kV_is h) (items_are t)
abbrev KT (H:Hp):List (List Key×V)→List (List Key×Addr×Value)→Prop:=Paired fun p q=>p.1=q.1∧H q.2.1=some (.tup (p.1.map kV))∧RelV p.2 q.2.2
theorem KT.val {H:Hp}{kvs:List (List Key×V)}{xs:List (List Key×Addr×Value)} (r:KT H kvs xs) (k:List Key):RelO (valV kvs k) ((atKey xs k).map (·.2)):=by
 induction r with
 | nil=>exact True.intro
 | @cons p q ps qs h t ih=>
  obtain⟨h1,_,h2⟩:=h
  by_cases e:p.1=k
  ·have e':q.1=k:=h1.symm.trans e
   have b:atKey (q::qs) k=some q.2:=by simp [atKey,List.find?_cons,e']
   rw [valV_pos e,b];exact h2
  ·have e':¬q.1=k:=fun z=>e (h1.trans z)
   have b:atKey (q::qs) k=atKey qs k:=by simp [atKey,List.find?_cons,e']
   rw [valV_neg e,b];exact ih
theorem KT.repl {H:Hp}{kvs:List (List Key×V)}{xs:List (List Key×Addr×Value)} (r:KT H kvs xs) (k:List Key){y:V}{u:Value} (ry:RelV y u) :
  KT H (kvs.map fun kv=>if kv.1=k then (kv.1,y) else kv) (xs.map (putAt k u)):=by
 induction r with
 | nil=>exact .nil
 | @cons p q ps qs h t ih=>
  rw [List.map_cons,List.map_cons]
  refine .cons ?_ ih
  obtain⟨h1,h2,h3⟩:=h
  unfold putAt
  by_cases e:p.1=k
  ·rw [if_pos e,if_pos (h1.symm.trans e)];exact⟨h1,h2,ry⟩
  ·rw [if_neg e,if_neg (fun z=>e (h1.trans z))];exact⟨h1,h2,h3⟩
theorem KT.put {H:Hp}{kvs:List (List Key×V)}{xs:List (List Key×Addr×Value)} (r:KT H kvs xs) (k:List Key){b:Addr}{y:V}{u:Value} (hb:H b=some (.tup (k.map kV))) (ry:RelV y u) :
  KT H (putK kvs k y) (storedH xs k b u):=by
 have e:(kvs.any fun kv=>decide (kv.1=k))=(atKey xs k).isSome:=by
  rw [valV_any,(r.val k).isSome_eq,Option.isSome_map]
 unfold putK storedH
 rw [e]
 by_cases q:(atKey xs k).isSome=true
 ·rw [if_pos q,if_pos q];exact r.repl k ry
 ·rw [if_neg q,if_neg q];exact Paired.snoc r ⟨rfl,hb,ry⟩
theorem KT.keeps {H H':Hp}{kvs:List (List Key×V)}{xs:List (List Key×Addr×Value)} (r:KT H kvs xs) (ht:∀b ys,H b=some (.tup ys)→H' b=some (.tup ys)):KT H' kvs xs:=
 Paired.mapP r fun _ _ z=>⟨z.1,ht _ _ z.2.1,z.2.2⟩
section
variable {P:Program}{w:World}{H:Hp}{h:Heap}{a:Addr}
theorem rd_of {u:HO} (ok:HOk P w H h) (e:Rd H a u):ObjOk P w H h a u:=e.ok ok
theorem dk_rd {kvs:List (Key×V)} (ok:HOk P w H h) (e:Rd H a (.dK kvs)):kvs.length≤sizeLine∧(a == sysModules)=false∧∃vs,KV kvs vs∧h.DictOf (mixKind P w) a vs:=
 show ObjOk P w H h a (.dK kvs) from rd_of ok e
theorem dk_of {kvs:List (Key×V)} (ok:HOk P w H h) (e:H a=some (.dK kvs)):kvs.length≤sizeLine∧(a == sysModules)=false∧∃vs,KV kvs vs∧h.DictOf (mixKind P w) a vs:=dk_rd ok (.inl e)
theorem key_of {ks:List Key} (ok:HOk P w H h) (e:H a=some (.tup (ks.map kV))):(tupleKind (mixKind P w)).is h ks a:=by
 obtain⟨_,its,r,o,h1,h2,n,h3⟩:=(show ObjOk P w H h a (.tup (ks.map kV)) from ok a _ e)
 exact⟨o,its.toArray,n,h1,h2,h3,by simpa using items_are r⟩
theorem dt_rd {kvs:List (List Key×V)} (ok:HOk P w H h) (e:Rd H a (.dT kvs)):kvs.length≤sizeLine∧(a == sysModules)=false ∧
  ∃xs,KT H kvs xs∧h.DictOfH (tupleKind (mixKind P w)) a xs:=by
 obtain⟨z,y,xs,r,o,es,ep,h1,h2,h3,h4,h5⟩:=(show ObjOk P w H h a (.dT kvs) from rd_of ok e)
 refine⟨z,y,xs,r,o,es,ep,h1,h2,h3,h4,fun x hx=>?_,h5⟩
 have all:∀{l:List (List Key×V)}{m:List (List Key×Addr×Value)},KT H l m→∀x∈m,(tupleKind (mixKind P w)).is h x.1 x.2.1:=by
  intro l m q
  induction q with
  | nil=>intro x hx;exact nomatch hx
  | @cons p q ps qs hq t ih=>
   intro x hx
   rcases List.mem_cons.mp hx with e | hx
   ·subst e
    exact key_of ok (by rw [← hq.1];exact hq.2.1)
   ·exact ih x hx
 exact all r x hx
theorem dt_of {kvs:List (List Key×V)} (ok:HOk P w H h) (e:H a=some (.dT kvs)):kvs.length≤sizeLine∧(a == sysModules)=false ∧
  ∃xs,KT H kvs xs∧h.DictOfH (tupleKind (mixKind P w)) a xs:=dt_rd ok (.inl e)
end
noncomputable def DGet (H:Hp) (a:Addr) (y:V) (r:Option V):Prop:=
 (∃kvs k,Rd H a (.dK kvs)∧y=kV k∧r=valV kvs k)∨∃kvs k b,Rd H a (.dT kvs)∧y=.ref b∧H b=some (.tup (k.map kV))∧r=valV kvs k
noncomputable def DPut (H:Hp) (a:Addr) (y v:V) (H':Hp):Prop:=
 (∃kvs k,H a=some (.dK kvs)∧y=kV k∧kvs.length<sizeLine∧H'=upd H a (.dK (putK kvs k v))) ∨
 ∃kvs k b,H a=some (.dT kvs)∧y=.ref b∧H b=some (.tup (k.map kV))∧kvs.length<sizeLine∧H'=upd H a (.dT (putK kvs k v))
theorem DGet.k {H:Hp}{a:Addr}{kvs:List (Key×V)}{k:Key} (e:H a=some (.dK kvs)):DGet H a (kV k) (valV kvs k):=.inl ⟨kvs,k,.inl e,rfl,rfl⟩
theorem DGet.t {H:Hp}{a b:Addr}{kvs:List (List Key×V)}{k:List Key} (e:H a=some (.dT kvs)) (eb:H b=some (.tup (k.map kV))):DGet H a (.ref b) (valV kvs k):=.inr ⟨kvs,k,b,.inl e,rfl,eb,rfl⟩
theorem DPut.k {H:Hp}{a:Addr}{kvs:List (Key×V)}{k:Key}{v:V} (e:H a=some (.dK kvs)) (hl:kvs.length<sizeLine):DPut H a (kV k) v (upd H a (.dK (putK kvs k v))):=.inl ⟨kvs,k,e,rfl,hl,rfl⟩
theorem DPut.t {H:Hp}{a b:Addr}{kvs:List (List Key×V)}{k:List Key}{v:V} (e:H a=some (.dT kvs)) (eb:H b=some (.tup (k.map kV))) (hl:kvs.length<sizeLine) :
  DPut H a (.ref b) v (upd H a (.dT (putK kvs k v))):=.inr ⟨kvs,k,b,e,rfl,eb,hl,rfl⟩
section
variable {X:Cx}{pins:List (Addr×Obj)}{σ:St}{H:Hp}{s:Shared}{a:Addr}{y v:V}{u r:Value}{o:Option V}{A:Around}{E:Value→Shared→Prop}
theorem Inv.big (I:Inv X pins σ H s):sysModules<s.heap.objs.size:=by
 have h:mainGlobals<s.heap.objs.size:=(I.mod.glob.keeps I.bk).lt
 exact Nat.lt_trans (by decide) h
theorem d_getItem {Q:Value→Shared→Prop} (hu:A.units+1<cLine) (I:Inv X pins σ H s) (g:DGet H a y (some v)) (ry:RelV y u) (h:∀w' s',Inv X pins σ H s'→RelV v w'→Q w' s') :
  wpAny (model X.prog X.w) A (getItem (.ref a) u) Q E s:=by
 rcases g with ⟨kvs,k,e,ey,l⟩ | ⟨kvs,k,b,e,ey,eb,l⟩
 ·subst ey
  obtain⟨z,hd,vs,rel,dd⟩:=dk_rd I.hok e
  obtain⟨w',hw,rw'⟩:=RelO.some_of (v:=v) (o:=valueAt vs k) (by rw [l];exact rel.val k)
  exact wpAny_getItem_of (kV_is ry) dd.mapOf hw (h w' _ (I.tok _) rw')
 ·subst ey
  cases (show u=Value.ref b from ry)
  obtain⟨z,hd,xs,rel,dd⟩:=dt_rd I.hok e
  obtain⟨w',hw,rw'⟩:=RelO.some_of (v:=v) (o:=(atKey xs k).map (·.2)) (by rw [l];exact rel.val k)
  obtain⟨p,hp,hp2⟩:=Option.map_eq_some_iff.mp hw
  refine wpAny_getItem_heap (tupleKind_room_in1 hu) (key_of I.hok eb) dd hp ?_
  rw [hp2]
  exact h w' _ (I.tok _) rw'
theorem d_notIn {Q:Value→Shared→Prop} (hu:A.units+1<cLine) (I:Inv X pins σ H s) (g:DGet H a y o) (ry:RelV y u) (h:∀s',Inv X pins σ H s'→Q (.bool (!o.isSome)) s') :
  wpAny (model X.prog X.w) A (compareOp .NotIn u (.ref a)) Q E s:=by
 rcases g with ⟨kvs,k,e,ey,l⟩ | ⟨kvs,k,b,e,ey,eb,l⟩
 ·subst ey
  obtain⟨z,hd,vs,rel,dd⟩:=dk_rd I.hok e
  refine wpAny_notIn_of (kV_is ry) hd dd.mapOf ?_
  rw [← (rel.val k).isSome_eq,← l]
  exact h _ (I.tok _)
 ·subst ey
  cases (show u=Value.ref b from ry)
  obtain⟨z,hd,xs,rel,dd⟩:=dt_rd I.hok e
  refine wpAny_notIn_heap (tupleKind_room_in1 hu) (key_of I.hok eb) hd dd ?_
  have q:=(rel.val k).isSome_eq
  rw [Option.isSome_map] at q
  rw [← q,← l]
  exact h _ (I.tok _)
theorem d_write {h':Heap} {t':Nat}{ob:HO} (I:Inv X pins σ H s) (mu:Mut (H a)) (hs:Heap.SameBut a s.heap h') (he:∃q,h'.get? a=some q) (new:ObjOk X.prog X.w (upd H a ob) h' a ob) :
  Inv X pins σ (upd H a ob) { s with heap:=h',toks:=t' }:=
 I.write (x:=a) (e:=a) mu (.inl rfl) (fun b q hb z=>(hs.2 b hb).trans z) he new
theorem dk_new {P:Program}{w:World} {H':Hp} {h':Heap}{kvs:List (Key×V)}{vs:List (Key×Value)} (z:kvs.length≤sizeLine) (hd:(a == sysModules)=false) (rel:KV kvs vs) (dd:h'.DictOf (mixKind P w) a vs) :
  ObjOk P w H' h' a (.dK kvs):=⟨z,hd,vs,rel,dd⟩
theorem d_setItem {H':Hp}{Q:Unit→Shared→Prop} (hu:A.units+1<cLine) (I:Inv X pins σ H s) (g:DPut H a y v H') (ry:RelV y u) (rv:RelV v r) (h:∀s',Inv X pins σ H' s'→Q () s') :
  wpAny (model X.prog X.w) A (setItem (.ref a) u r) Q E s:=by
 rcases g with ⟨kvs,k,e,ey,l,eH⟩ | ⟨kvs,k,b,e,ey,eb,l,eH⟩
 ·subst ey eH
  obtain⟨z,hd,vs,rel,dd⟩:=dk_of I.hok e
  have hz:vs.length≤sizeLine:=by rw [← rel.length];exact z
  have hl:(putK kvs k v).length≤sizeLine:=by have:=length_putK kvs k v;omega
  refine wpAny_setItem_pairs (hsz:=hz) (kV_is ry) dd fun h' dd' hs=>h _ ?_
  have he:∃q,h'.get? a=some q:=let ⟨q,_,_,hq,_⟩:=dd';⟨q,hq⟩
  exact d_write I (by rw [e];exact True.intro) hs he (dk_new hl hd (rel.put k rv) dd')
 ·subst ey eH
  cases (show u=Value.ref b from ry)
  obtain⟨z,hd,xs,rel,dd⟩:=dt_of I.hok e
  have hz:xs.length≤sizeLine:=by rw [← Paired.length rel];exact z
  have hl:(putK kvs k v).length≤sizeLine:=by have:=length_putK kvs k v;omega
  refine wpAny_setItem_heap (hsz:=hz) (tupleKind_room_in1 hu) (key_of I.hok eb) dd fun h' dd' hs=>h _ ?_
  obtain⟨q,es,ep,hq,h2,h3,h4,_,h5⟩:=dd'
  refine d_write I (by rw [e];exact True.intro) hs ⟨q,hq⟩ ⟨hl,hd,_,(rel.put k eb rv).keeps fun c ys ec=>?_,q,es,ep,hq,h2,h3,h4,h5⟩
  rw [upd_ne (ne_of ec e (fun z=>nomatch z))]
  exact ec
end
section
variable {X:Cx}{pins:List (Addr×Obj)}{σ:St}{H:Hp}{s:Shared}{a:Addr}{kvs:List (Key×V)}{k:Key}{u:Value}{A:Around}{E:Value→Shared→Prop}
theorem d_len {Q:Value→Shared→Prop} (I:Inv X pins σ H s) (e:Rd H a (.dK kvs)) (h:∀t s',Inv X pins σ H s'→Q (.int kvs.length t) s'):wpAny (model X.prog X.w) A (call (.builtin "len") [.ref a]) Q E s:=by
 obtain⟨z,hd,vs,rel,dd⟩:=dk_rd I.hok e
 refine call_len_dict hd dd (by rw [← rel.length];rw [sizeLine_eq] at z;omega) ?_
 rw [← rel.length]
 exact h _ _ (I.tok _)
end
noncomputable def NoSl (i:Expr):Prop:=∀ov iv,subscripted i false ov iv=operate [ov,iv] (getItem ov iv)
theorem subD_of {prog:Program}{w:World}{A:Around}{E:Value→Shared→Prop}{s:Shared}{env:Env}{value slice:Expr}{pos:Pos}{T id:String}{Q:Value→Shared→Prop}
  (hl:typeLookup (.type T) "__getitem__"=pure (some (.builtin id))) (hs:NoSl slice)
  (h:wpAny (model prog w) A (eval value env) (fun o s₁=>wpAny (model prog w) A (eval slice env) (fun i s₂=>s₂.TypeIs o T∧wpAny (model prog w) A (getItem o i) Q E s₂) E s₁) E s) :
  wpAny (model prog w) A (eval (.Subscript value slice pos) env) Q E s:=by
 refine Subscript_ (wpAny_mono h (fun o s₁ h₁=>wpAny_mono h₁ (fun i s₂ h₂=>?_) fun _ _ x=>x) fun _ _ x=>x)
 obtain⟨hT,h₂⟩:=h₂
 unfold subscriptTail
 refine wpAny_bind ?_
 rw [getitemInPython_of_ne hT.not_modules]
 refine wpAny_bind (wpAny_specialOf hT hl ?_)
 have fin:wpAny (model prog w) A (subscripted slice false o i) (fun r s₃=>wpAny (model prog w) A (letTemporaryGo value o r >>= fun _=>pure r) Q E s₃) E s₂:=by
  rw [hs o i]
  exact wpAny_operating (wpAny_mono h₂ (fun r s₃ h₃=>wpAny_bind (wpAny_letTemporaryGo (wpAny_pure h₃))) fun _ _ x=>x)
 first
  | exact wpAny_pure (wpAny_bind fin)
  | exact wpAny_bind (wpAny_pure (wpAny_bind fin))
  | exact wpAny_bind fin
theorem dict_typeIs {X:Cx}{pins:List (Addr×Obj)}{σ:St}{H:Hp}{s:Shared}{a:Addr}{y:V}{o:Option V} (I:Inv X pins σ H s) (g:DGet H a y o):s.TypeIs (.ref a) "dict":=by
 rcases g with ⟨kvs,k,e,_,_⟩ | ⟨kvs,k,b,e,_,_,_⟩
 ·obtain⟨_,_,vs,_,dd⟩:=dk_rd I.hok e
  exact dd.typeIs
 ·obtain⟨_,_,xs,_,dd⟩:=dt_rd I.hok e
  exact dd.typeIs
noncomputable def tDGet (td ty:TE):TE:=fun σ H Q=>td σ H fun x H1=>ty σ H1 fun y H2=>∃a v,x=.ref a∧DGet H2 a y (some v)∧Q v H2
noncomputable def tDNotIn (ty td:TE):TE:=fun σ H Q=>ty σ H fun y H1=>td σ H1 fun x H2=>∃a o,x=.ref a∧DGet H2 a y o∧Q (.bl (!o.isSome)) H2
noncomputable def sDPut (td ty tv:TE):TS:=fun D σ H=>tv σ H fun v H1=>td σ H1 fun x H2=>ty σ H2 fun y H3=>∃a H4,x=.ref a∧DPut H3 a y v H4∧D.nx σ H4
section
variable {X:Cx}{o i e value:Expr} {pos pos' tpos:Pos}{td ty tv:TE}
theorem pe_dget (hu:X.A.units+1<cLine) (ho:PE X o td) (hi:PE X i ty) (hs:NoSl i):PE X (.Subscript o i pos) (tDGet td ty):=by
 intro pins s σ H Q I h
 refine subD_of PySem.F.slot_dict_getitem.lookup hs (thn (ho pins s σ H _ I h) fun u s1 ⟨x,H1,I1,rx,q1⟩=>thn (hi pins s1 σ H1 _ I1 q1) fun iv s2 ⟨y,H2,I2,ry,a,v,ex,g,q2⟩=>?_)
 subst ex
 obtain rfl:u=Value.ref a:=rx
 exact⟨dict_typeIs I2 g,d_getItem hu I2 g ry fun w' s3 I3 rw'=>⟨v,H2,I3,rw',q2⟩⟩
theorem pc_dnotin (hu:X.A.units+1<cLine) (hi:PE X i ty) (ho:PE X o td):PC X .NotIn i o (tDNotIn ty td):=by
 intro pins s σ H Q I h
 refine thn (hi pins s σ H _ I h) fun iv s1 ⟨y,H1,I1,ry,q1⟩=>thn (ho pins s1 σ H1 _ I1 q1) fun u s2 ⟨x,H2,I2,rx,a,ov,ex,g,q2⟩=>?_
 subst ex
 obtain rfl:u=Value.ref a:=rx
 exact d_notIn hu I2 g ry fun s3 I3=>⟨.bl (!ov.isSome),H2,I3,rfl,q2⟩
theorem ps_dput (hu:X.A.units+1<cLine) (ho:PE X o td) (hi:PE X i ty) (hv:PE X value tv) (hs:swapsWith value (some (.Subscript o i pos')) pos.line X.env=pure false) :
  PS X (.Assign [.Subscript o i pos'] value pos) (sDPut td ty tv):=by
 intro pins s σ H D I h
 refine wpAny_Assign_Subscript (thn (hv pins s σ H _ I h) fun r s1 ⟨v,H1,I1,rv,q1⟩=>thn (ho pins s1 σ H1 _ I1 q1) fun u s2 ⟨x,H2,I2,rx,q2⟩=>thn (hi pins s2 σ H2 _ I2 q2) fun iv s3 ⟨y,H3,I3,ry,a,H4,ex,g,q3⟩=>?_) hs
 subst ex
 obtain rfl:u=Value.ref a:=rx
 exact d_setItem hu I3 g ry rv fun s4 I4=>⟨σ,H4,I4,q3⟩
end
theorem dk_empty {P:Program}{w:World}{H:Hp} (h:Heap) (hb:sysModules<h.objs.size):ObjOk P w H (h.push { cls:=.type "dict",data:=.dict #[] }) h.objs.size (.dK []):=
 ⟨Nat.zero_le _,beq_eq_false_iff_ne.mpr (Ne.symm (Nat.ne_of_lt hb)),[],.nil,Heap.DictOf.new h⟩
noncomputable def tDNewK:TE:=fun _ H Q=>∀p,H p=none→Q (.ref p) (upd H p (.dK []))
section
variable {X:Cx}{pos:Pos}
theorem pe_dnewK:PE X (.Dict [] [] pos) tDNewK:=fun pins s σ H Q I h=>
 wpAny_Dict_empty ⟨.ref s.heap.objs.size,_,I.laid (a:=s.heap.objs.size) (o:=.dK []) (t':=s.toks) (fun _ _ q=>Heap.get?_push_of_some _ q) (Nat.le_refl _) (dk_empty s.heap I.big),rfl,h _ (I.hok.fresh (Nat.le_refl _))⟩
end
noncomputable def tPairs:List (TE×TE)→St→Hp→(List (V×V)→Hp→Prop)→Prop
 | [],_,H,Q=>Q [] H
 | (tk,tv)::r,σ,H,Q=>tk σ H fun x H1=>tv σ H1 fun y H2=>tPairs r σ H2 fun ps H3=>Q ((x,y)::ps) H3
abbrev VV:List (V×V)→List (Value×Value)→Prop:=Paired fun p q=>RelV p.1 q.1∧RelV p.2 q.2
noncomputable def PPs (X:Cx) (pos:Pos) (keys:List (Option Expr)) (values:List Expr) (trs:List (TE×TE)):Prop:=
 ∀(pins:List (Addr×Obj)) (s:Shared) (σ:St) (H:Hp) (Q:List (V×V)→Hp→Prop),Inv X pins σ H s→tPairs trs σ H Q →
  wpAny (model X.prog X.w) X.A (evalPairs (pairTrees keys values X.env pos)) (fun vs s'=>∃ps H',Inv X pins σ H' s'∧VV ps vs∧Q ps H') X.xe s
theorem pps_nil {X:Cx}{pos:Pos}:PPs X pos [] [] []:=fun pins s σ H Q I h=>pairTrees_nil_walk ⟨[],H,I,.nil,h⟩
theorem pps_cons {X:Cx}{pos:Pos}{k v:Expr}{ks:List (Option Expr)}{vs:List Expr}{tk tv:TE}{trs:List (TE×TE)} (hk:PE X k tk) (hv:PE X v tv) (hr:PPs X pos ks vs trs) :
  PPs X pos (some k::ks) (v::vs) ((tk,tv)::trs):=fun pins s σ H Q I h=>
 pairTrees_cons_walk (thn (hk pins s σ H _ I h) fun u s1 ⟨x,H1,I1,rx,q1⟩=>thn (hv pins s1 σ H1 _ I1 q1) fun w2 s2 ⟨y,H2,I2,ry,q2⟩=>
  thn (hr pins s2 σ H2 _ I2 q2) fun ws s3 ⟨ps,H3,I3,rel,q3⟩=>⟨(x,y)::ps,H3,I3,.cons ⟨rx,ry⟩ rel,q3⟩)
noncomputable def mergeK (kvs more:List (Key×V)):List (Key×V):=more.foldl (fun acc kv=>putK acc kv.1 kv.2) kvs
theorem KV.merge:∀{more:List (Key×V)}{rs:List (Key×Value)}{kvs:List (Key×V)}{vs:List (Key×Value)},KV more rs→KV kvs vs→KV (mergeK kvs more) (merged vs rs):=by
 intro more rs kvs vs r
 unfold KV at r
 induction r generalizing kvs vs with
 | nil=>intro q;exact q
 | @cons p q ps qs h t ih=>
  intro r0
  have e:KV (putK kvs p.1 p.2) (stored vs q.1 q.2):=by
   have:=r0.put p.1 h.2
   rw [← h.1];exact this
  exact ih e
theorem length_mergeK:∀(more kvs:List (Key×V)),(mergeK kvs more).length≤kvs.length+more.length
 | [],kvs=>by show kvs.length≤kvs.length+0;omega
 | p::r,kvs=>by
  have h1:=length_mergeK r (putK kvs p.1 p.2)
  have h2:=length_putK kvs p.1 p.2
  show (mergeK (putK kvs p.1 p.2) r).length≤_
  rw [List.length_cons];omega
theorem carries_of {P:Program}{w:World}:∀{kvs:List (Key×V)}{ws:List (Value×Value)},VV (kvs.map fun kv=>(kV kv.1,kv.2)) ws→∃rs,Carries (mixKind P w) ws rs∧KV kvs rs
 | [],_,r=>by rw [List.map_nil] at r;cases r;exact⟨[],True.intro,.nil⟩
 | p::kvs,_,r=>by
  rw [List.map_cons] at r
  cases r with
  | @cons a b as bs h t=>
   obtain⟨rs,c,q⟩:=carries_of (P:=P) (w:=w) t
   obtain⟨b1,b2⟩:=b
   exact⟨(p.1,b2)::rs,⟨kV_is h.1,rfl,c⟩,.cons ⟨rfl,h.2⟩ q⟩
noncomputable def tDisp (trs:List (TE×TE)):TE:=fun σ H Q=>∀p,H p=none→tPairs trs σ (upd H p (.dK [])) fun ps H2=>H2 p=some (.dK [])∧∃kvs:List (Key×V),ps=kvs.map (fun kv=>(kV kv.1,kv.2))∧kvs.length≤15∧Q (.ref p) (upd H2 p (.dK (mergeK [] kvs)))
theorem pe_disp {X:Cx}{pos:Pos}{keys:List (Option Expr)}{values:List Expr}{trs:List (TE×TE)} (h:PPs X pos keys values trs) (hall:keys.all (·.isSome)=true) (hl:keys.length=values.length) (h0:keys≠[])
  (h15:keys.length≤15):PE X (.Dict keys values pos) (tDisp trs):=by
 intro pins s σ H Q I q
 have hn:=I.hok.fresh (Nat.le_refl s.heap.objs.size)
 have I1:=I.laid (a:=s.heap.objs.size) (o:=.dK []) (h':=s.heap.push { cls:=.type "dict",data:=.dict #[] }) (t':=s.toks) (fun _ _ q=>Heap.get?_push_of_some _ q) (Nat.le_refl _) (dk_empty s.heap I.big)
 refine wpAny_Dict_walk (knd:=mixKind X.prog X.w) hall hl h0 h15 (thn (h pins _ σ _ _ I1 (q _ hn)) fun ws s2 ⟨ps,H2,I2,rel,e,kvs,ep,lk,q2⟩=>?_)
 subst ep
 obtain⟨rs,c,rk⟩:=carries_of (P:=X.prog) (w:=X.w) rel
 obtain⟨z,hd,vs0,r0,dd⟩:=dk_of I2.hok e
 cases r0
 refine⟨rs,c,dd,fun h' dd' hs=>⟨.ref s.heap.objs.size,_,?_,rfl,q2⟩⟩
 have hz:(mergeK [] kvs).length≤sizeLine:=by
  have h1:=length_mergeK kvs []
  rw [List.length_nil] at h1
  rw [sizeLine_eq];omega
 have he:∃q,h'.get? s.heap.objs.size=some q:=let ⟨q,_,_,hq,_⟩:=dd';⟨q,hq⟩
 exact d_write I2 (by rw [e];exact True.intro) hs he (dk_new hz hd (rk.merge .nil) dd')
structure M1 (X:Cx) (o:Expr) (m:Str) (apos:Pos) (e:Expr) (cpos:Pos):Prop where
 base:attributeBase o m X.env (eval o X.env)=eval o X.env
 few:((backTo cpos (starEach [e] X.env)).all (fun x=>!x.1) && (backToKw cpos (keywordEach [] X.env)).all (fun x=>x.1.isSome)
  && decide (([e]:List Expr).length+([]:List Keyword).length+(if ([]:List Keyword).isEmpty then 0 else 1)<30))=true
 line:(apos.endLine == cpos.line)=true
 trees:backTo cpos (starEach [e] X.env)=[(false,eval e X.env)]
structure M2 (X:Cx) (o:Expr) (m:Str) (apos:Pos) (e f:Expr) (cpos:Pos):Prop where
 base:attributeBase o m X.env (eval o X.env)=eval o X.env
 few:((backTo cpos (starEach [e,f] X.env)).all (fun x=>!x.1) && (backToKw cpos (keywordEach [] X.env)).all (fun x=>x.1.isSome)
  && decide (([e,f]:List Expr).length+([]:List Keyword).length+(if ([]:List Keyword).isEmpty then 0 else 1)<30))=true
 line:(apos.endLine == cpos.line)=true
 trees:backTo cpos (starEach [e,f] X.env)=[(false,eval e X.env),(false,eval f X.env)]
section
variable {X:Cx}{pins:List (Addr×Obj)}{σ:St}{H:Hp}{s:Shared}{a:Addr}{y d:V}{u r:Value}{o:Option V}{A:Around}{E:Value→Shared→Prop}
end
section
variable {X:Cx}{o e f:Expr}{apos cpos:Pos}{td ty tx:TE}
end
section
variable {X:Cx}{pins:List (Addr×Obj)}{σ:St}{H:Hp}{s:Shared}{a:Addr}{kvs:List (Key×V)}{A:Around}{E:Value→Shared→Prop}
end
section
variable {X:Cx}{pins:List (Addr×Obj)}{σ:St}{H:Hp}{s:Shared}{a:Addr}{y:V}{u:Value}{A:Around}{E:Value→Shared→Prop}
end
end L2
namespace Att
open PySem PySem.W PySem.Calls PyProof.Rows
end Att
namespace L2
open PySem PySem.Spec PyProof.Rows
section
variable {X:Cx}
theorem call_lenD:CallR X (.builtin "len") (fun xs H Q=>∃a kvs,xs=[V.ref a]∧H a=some (.dK kvs)∧Q (.int kvs.length) H):=by
 intro pins s σ H xs us Q I r h
 obtain⟨a,kvs,rfl,ha,q⟩:=h
 obtain⟨u,rfl,ru⟩:=vals1 r
 cases ru
 exact d_len I (.inl ha) fun t s' I'=>⟨.int kvs.length,H,I',⟨t,rfl⟩,q⟩
end
section
variable {κ:Type} [DecidableEq κ]
theorem valV_not {kvs:List (κ×V)}{k:κ} (h:valV kvs k=none):¬k∈kvs.map (·.1):=by
 intro m
 obtain⟨p,hp,e⟩:=List.mem_map.mp m
 have q:(kvs.any fun kv=>decide (kv.1=k))=true:=List.any_eq_true.mpr ⟨p,hp,decide_eq_true e⟩
 rw [valV_any,h] at q
 exact absurd q (by simp)
end
section
variable {X:Cx}
theorem zbZ {ys:List Str}:∀{us:List Value},Vals (ys.map V.str) us→StrsAre us ys:=by
 induction ys with
 | nil=>intro us r;rw [List.map_nil] at r;cases r;exact .nil
 | cons n ns ih=>
  intro us r
  rw [List.map_cons] at r
  cases r with
  | cons r1 r2=>
   obtain⟨t,e⟩:=r1
   subst e
   exact .cons n t (ih r2)
noncomputable def rJoin (K:W.Frag):V→List V→Hp→VK→Prop:=fun x vs H Q=>∃a p ys,x=.str a∧vs=[.ref p]∧SqL K H p (ys.map V.str)∧(ys.map (·.length)).sum+ys.length*a.length≤16777216∧Q (.str (Txt.join a ys)) H
theorem Xv:MtR X "str.join" (rJoin X.K):=by
 intro pins s σ H x xs v us Q I rx rs h
 obtain⟨a,p,ys,rfl,rfl,hq,hz,q⟩:=h
 obtain⟨t,rfl⟩:=rx
 obtain⟨u,rfl,w1⟩:=vals1 rs
 cases w1
 obtain⟨its,r,pl,_⟩:=I.list hq
 exact PyProof.Rows.join_list pl.isList (by simpa using zbZ r) hz fun t' k=>⟨.str (Txt.join a ys),H,I.tok _,⟨_,rfl⟩,q⟩
theorem yg:OpR X (binaryOp .Mult) (fun x y H Q=>∃a n,x=.str a∧y=.int n∧MulOk a n∧Q (.str (Txt.mul a n)) H):=by
 intro pins s σ H x y v u Q I rx ry h
 obtain⟨a,n,rfl,rfl,ok,q⟩:=h
 obtain⟨t,rfl⟩:=rx
 obtain⟨t',rfl⟩:=ry
 exact SB.mul ok fun _ _=>⟨.str (Txt.mul a n),H,I.tok _,⟨_,rfl⟩,q⟩
noncomputable def Its (x:Str):It:=⟨fun i _=>i<x.cps.size,fun i H v H'=>H'=H∧∃c,x.cps[i]?=some c∧v=.str ⟨#[c]⟩,fun i _=>x.cps.size≤i⟩
theorem YM {P:Program}{w:World}{K:PySem.W.Frag}{tg:Expr} (it:Addr) (x:Str) (t:Tok) (T:String) (hT:["enumerate","zip","dict_itemiterator","dict_reverseitemiterator","odict_iterator","itertools.zip_longest","itertools.pairwise"].contains T=false)
  (W:∀A:Around,A.handled=none→Walks P w A it [it] [it] x.cps.size (SignAt x) (fun i h=>h.IsStrIter it T x t i))
  (hself:∀(A:Around) (i:Nat) (s:Shared) (Q:Value→Shared→Prop) (E:Value→Shared→Prop),s.heap.IsStrIter it T x t i→Q (.ref it) s→wpAny (model P w) A (pyIter (.ref it)) Q E s) :
  Turn P w K tg (Its x) [it] it (fun i h=>i≤x.cps.size∧h.IsStrIter it T x t i) where
 mem:=by simp
 obj:=fun i h st b hb=>by
  have e:b=it:=by simpa using hb
  subst e
  obtain⟨_,o,e,c,d⟩:=st
  exact⟨o,e,fun v z=>by rw [d] at z;cases z⟩
 keep:=fun i h h' st k=>by
  obtain⟨hi,o,e,c,d⟩:=st
  exact⟨hi,o,k it (by simp) o e,c,d⟩
 item:=by
  intro X hP hw hK hc i pins s σ H E I hf st hg
  subst hP hw hK
  obtain⟨f0,f1,f2,f3,f4,f5⟩:=hf it (by simp)
  refine(W X.A (I.ok.hd hc)).item i s _ _ hg st.2 fun v h' tk hv st' kk=>?_
  obtain⟨c,u,hcc,rfl⟩:=hv
  have I1:Inv X pins σ H { s with heap:=h',toks:=tk }:=I.turned (fun b o hb e=>kk b o (by simpa using hb) e) f0 f1 f3 f4 f5
  obtain⟨o,e,cc,d⟩:=id st'
  exact⟨_,rfl,go_of (s:={ s with heap:=h',toks:=tk }) e cc d hT ⟨.str ⟨#[c]⟩,H,I1,⟨u,rfl⟩,⟨rfl,c,hcc,rfl⟩,⟨hg,st'⟩,fun b hb=>(hf b hb).1⟩⟩
 done:=by
  intro X hP hw hK hc i pins s σ H E I hf st hg
  subst hP hw hK
  obtain⟨f0,f1,f2,f3,f4,f5⟩:=hf it (by simp)
  have e:i=x.cps.size:=Nat.le_antisymm st.1 hg
  subst e
  exact(W X.A (I.ok.hd hc)).done s _ _ st.2 fun h' tk kk=>⟨rfl,I.turned (t':=tk) (fun b o hb e=>kk b o (by simpa using hb) e) f0 f1 f3 f4 f5⟩
 self:=fun A i s Q E st h=>hself A i s Q E st.2 h
noncomputable def zjV (tl:TE):TI:=fun σ H R=>tl σ H fun x H1=>∃a,x=.str a∧R (Its a) H1
theorem zai {tg l:Expr}{tl:TE} (hl:PE X l tl):PI X tg l (zjV tl):=by
 intro pins s σ H R I h
 refine thn (hl pins s σ H _ I h) fun v s1 ⟨x,H1,I1,r1,q1⟩=>?_
 obtain⟨a,rfl,q⟩:=q1
 obtain⟨t,rfl⟩:=r1
 have fp:∀b∈[s1.heap.objs.size],FpOk X pins H1 b:=fun b hb=>by
  have e:b=s1.heap.objs.size:=by simpa using hb
  subst e
  exact I1.fpOk (Nat.le_refl _) (I1.hok.fresh (Nat.le_refl _))
 cases ha:a.cps.all (·<128)
 ·exact wpAny_pyIter_wide ha ⟨s1.heap.objs.size,[s1.heap.objs.size],_,_,H1,rfl,I1.kept (t':=s1.toks) fun b o e=>Heap.get?_push_of_some _ e,
   YM _ a t "str_iterator" (by decide) (fun A hA=>Walks.strWide hA _ a t) (fun A i s Q E st h=>wpAny_pyIter_striter_wide st h),⟨Nat.zero_le _,_,Heap.get?_push_size _ rfl,rfl,rfl⟩,fp,q⟩
 ·exact wpAny_pyIter_ascii ha ⟨s1.heap.objs.size,[s1.heap.objs.size],_,_,H1,rfl,I1.kept (t':=s1.toks) fun b o e=>Heap.get?_push_of_some _ e,
   YM _ a t "str_ascii_iterator" (by decide) (fun A hA=>Walks.strAscii hA _ a t) (fun A i s Q E st h=>wpAny_pyIter_striter_ascii st h),⟨Nat.zero_le _,_,Heap.get?_push_size _ rfl,rfl,rfl⟩,fp,q⟩
theorem part_of {v:Value}{o:Option Int} (p:IsPart v o):∃q:Option (Int×Tok),v=partValue q∧q.map (·.1)=o:=by
 cases p with
 | none=>exact⟨none,rfl,rfl⟩
 | int i t=>exact⟨some (i,t),rfl,rfl⟩
theorem Vb:SlR X (fun x lo hi H Q=>∃a,x=.str a∧a.length≤sizeLine∧Q (.str (Txt.slice a lo hi)) H):=by
 intro pins s σ H x v vl vu lo hi sl Q I rx hs pl pu h
 obtain⟨a,rfl,hz,q⟩:=h
 obtain⟨t,rfl⟩:=rx
 obtain⟨l,rfl,rfl⟩:=part_of pl
 obtain⟨u,rfl,rfl⟩:=part_of pu
 refine⟨"str",_,PyProof.Rows.slot_str_getitem.lookup,typeIs_str s a t,?_⟩
 exact wpAny_getItem_str_slice (l:=l) (u:=u) (st:=none) hs rfl (post_val_or_str ⟨Nat.le_trans (Txt.slice_le a _ _) hz,fun t' k=>⟨.str (Txt.slice a (l.map (·.1)) (u.map (·.1))),H,I.tok _,⟨_,rfl⟩,q⟩⟩)
end
end L2
namespace L2
open PySem PySem.Spec PyProof.Rows PySem.SeqAt
noncomputable def dV:V→PyData
 | .bl b=>.bool b
 | .int i=>.int i
 | .str x=>.str x
 | _=>.none
noncomputable def okF:V→Bool
 | .non=>true
 | .bl _=>true
 | .int _=>true
 | .str x=>PyData.canLay0 (.str x)
 | _=>false
theorem zb0 {h:Heap}{v:V}{u:Value} (r:RelV v u) (ok:okF v=true):Reads h u (dV v) []:=by
 cases v with
 | non=>cases r;exact .none
 | bl b=>cases r;exact .bool b
 | int i=>obtain⟨t,rfl⟩:=r;exact .int i t
 | str x=>obtain⟨t,rfl⟩:=r;exact .str x t
 | _=>cases ok
theorem Jg {h:Heap}:∀{xs:List V}{us:List Value},Vals xs us→(∀v∈xs,okF v=true)→ReadsAll h us (xs.map dV) []
 | _,_,.nil,_=>.nil
 | _,_,.cons r1 r2,ok=>.cons (zb0 r1 (ok _ (List.mem_cons_self ..))) (Jg r2 fun v hv=>ok v (List.mem_cons_of_mem _ hv))
theorem VD:∀{xs:List V},(∀v∈xs,okF v=true)→PyData.canLayAll0 (xs.map dV)=true
 | [],_=>by simp [PyData.canLayAll0]
 | v::xs,ok=>by
  have h1:PyData.canLay0 (dV v)=true:=by
   have:=ok v (List.mem_cons_self ..)
   cases v <;> first | rfl | exact this | (simp [dV,PyData.canLay0];done) | cases this
  simp [PyData.canLayAll0,h1,VD fun v hv=>ok v (List.mem_cons_of_mem _ hv)]
theorem Ky:∀xs:List V,PyData.depthAll (xs.map dV)≤1
 | []=>by simp [PyData.depthAll]
 | v::xs=>by
  have:=Ky xs
  have h1:PyData.depth (dV v)≤1:=by cases v <;> simp [dV,PyData.depth]
  simp only [List.map_cons,PyData.depthAll]
  omega
section
variable {X:Cx}
end
end L2
namespace L2
open PySem PySem.Spec PyProof.Rows
structure Jd (K:W.Frag) (x qual:Str) (st:Stmt) (f:Addr) (fd:FuncData):Prop where
 ex:∃(oc:Value) (od:Option Addr) (dV kV doc pm:Value) (an:Option Addr) (cdv ct:Value) (osl:Array (Option Value)),fd=W.fnOf x qual (defArgs st) (defBody st) (defScope st) dV kV doc pm an cdv ct∧K.lookup f=some ⟨oc,od,.func fd,osl⟩∧W.codeIn K cdv qual=true
section
variable {P:Program}{w:World}{K:W.Frag}{mg:Str→Option Value}{base:Heap}
theorem Jd.ok {x qual:Str}{st:Stmt}{f:Addr}{fd:FuncData}{N ps:List Str}{k:Nat}{sp:Sp} (F:Jd K x qual st f fd) (S:FnScope N ps (defScope st)) (len:∀vs H Q E,sp vs H Q E→vs.length=ps.length)
  (hbody:∀(cdv:Value) (A:Around) (outer:List Env) (s:Shared) (H:Hp) (vs:List V) (Q:VK) (E:XK),Room k (A.deeper (envOfC qual (defScope st) s.heap.objs.size f cdv))→sp vs H Q E →
   ∃t,PSs (cxOf CX0 P w K mg base N qual (defScope st) f cdv A outer s H E).nox (defBody st) t∧t { nx:=fun _ H'=>Q .non H',rt:=Q } (start N vs) H):FnOk P w K mg base CX0 (k+1) f fd ps sp:=by
 obtain⟨oc,od,dV,kV,doc,pm,an,cdv,ct,osl,rfl,lk,hcd⟩:=F.ex
 refine fn_of lk hcd S len fun A outer s H vs Q E hr hsp=>?_
 obtain⟨t,h,q⟩:=hbody cdv A outer s H vs Q E hr hsp
 exact⟨t,fun pins s1 σ H1 D I h1=>wpAny_mono (h pins s1 σ H1 D (I.wish _) h1) (fun fl s2 x=>by
  cases fl with
  | next=>obtain⟨σ',H',I',q⟩:=x;exact⟨σ',H',I'.unwish,q⟩
  | brk=>obtain⟨σ',H',I',q⟩:=x;exact⟨σ',H',I'.unwish,q⟩
  | cont=>obtain⟨σ',H',I',q⟩:=x;exact⟨σ',H',I'.unwish,q⟩
  | ret u=>obtain⟨v,σ',H',I',r,q⟩:=x;exact⟨v,σ',H',I'.unwish,r,q⟩) fun _ _ z=>z.elim,q⟩
theorem Jd.okE {x qual:Str}{st:Stmt}{f:Addr}{fd:FuncData}{N ps:List Str}{k:Nat}{sp:Sp} (F:Jd K x qual st f fd) (S:FnScope N ps (defScope st)) (len:∀vs H Q E,sp vs H Q E→vs.length=ps.length)
  (hbody:∀(cdv:Value) (A:Around) (outer:List Env) (s:Shared) (H:Hp) (vs:List V) (Q:VK) (E:XK),Room k (A.deeper (envOfC qual (defScope st) s.heap.objs.size f cdv))→sp vs H Q E →
   ∃t,PSs (cxOf (CXE P w) P w K mg base N qual (defScope st) f cdv A outer s H E) (defBody st) t∧t { nx:=fun _ H'=>Q .non H',rt:=Q } (start N vs) H):FnOk P w K mg base (CXE P w) (k+1) f fd ps sp:=by
 obtain⟨oc,od,dV,kV,doc,pm,an,cdv,ct,osl,rfl,lk,hcd⟩:=F.ex
 exact fn_of lk hcd S len fun A outer s H vs Q E hr hsp=>hbody cdv A outer s H vs Q E hr hsp
theorem Jd.binds {x qual:Str}{st:Stmt}{f:Addr}{fd:FuncData}{ps:List Str} (F:Jd K x qual st f fd)
  (h:∀(dV kV doc pm:Value) (an:Option Addr) (cdv ct:Value) (us:List Value),us.length=ps.length→bindArgs (W.fnOf x qual (defArgs st) (defBody st) (defScope st) dV kV doc pm an cdv ct) ⟨us,[]⟩=pure (ps.zip us)):Binds K fd ps []:=by
 obtain⟨oc,od,dV,kV,doc,pm,an,cdv,ct,osl,rfl,lk,hcd⟩:=F.ex
 exact .all (h dV kV doc pm an cdv ct)
theorem Zc {x qual:Str}{st:Stmt}{f:Addr}{oc:Value}{od an:Option Addr}{osl:Array (Option Value)}{dV kV doc pm cdv ct:Value} (l:K.lookup f=some ⟨oc,od,.func (W.fnOf x qual (defArgs st) (defBody st) (defScope st) dV kV doc pm an cdv ct),osl⟩)
  (c:W.codeIn K cdv qual=true):Jd K x qual st f (W.fnOf x qual (defArgs st) (defBody st) (defScope st) dV kV doc pm an cdv ct):=⟨⟨oc,od,dV,kV,doc,pm,an,cdv,ct,osl,rfl,l,c⟩⟩
end
noncomputable def za4 (K:W.Frag) (x qual:Str) (st:Stmt) (ps:List Str) (f:Addr):Prop:=∃fd,Jd K x qual st f fd∧Binds K fd ps []
noncomputable def MtX (CX:CXT) (P:Program) (w:World) (K:W.Frag) (mg:Str→Option Value) (base:Heap) (k:Nat) (C:Addr) (m:Str) (ps:List Str) (sp:Sp):Prop:=
 ∃f fd,FnOk P w K mg base CX k f fd ps sp∧Cls K C∧Meth K C m f∧Binds K fd ps []
abbrev Mt (P:Program) (w:World) (K:W.Frag) (mg:Str→Option Value) (base:Heap) (k:Nat) (C:Addr) (m:Str) (ps:List Str) (sp:Sp):Prop:=MtX CX0 P w K mg base k C m ps sp
abbrev MtE (P:Program) (w:World) (K:W.Frag) (mg:Str→Option Value) (base:Heap) (k:Nat) (C:Addr) (m:Str) (ps:List Str) (sp:Sp):Prop:=MtX (CXE P w) P w K mg base k C m ps sp
noncomputable def MkX (CX:CXT) (P:Program) (w:World) (K:W.Frag) (mg:Str→Option Value) (base:Heap) (k:Nat) (C:Addr) (ps:List Str) (sp:Sp):Prop:=
 ∃f fd,FnOk P w K mg base CX k f fd ps sp∧Mk K C f∧Binds K fd ps []
noncomputable def zlm (C:Addr) (m:Str) (sp:Sp) (G:St→Value→Hp→Prop) (ta:TE) (t:TA):TE:=fun σ H Q=>ta σ H fun x H1=>∃a dx fs,x=.ref a∧H1 a=some (.ins C dx fs)∧fs.lookup m=none∧t σ H1 fun vs H2=>sp (x::vs) H2 Q fun C _ H'=>G σ C H'
noncomputable def tMk (C:Addr) (sp:Sp) (t:TA):TE:=fun σ H Q=>t σ H fun vs H1=>∀x dx,H1 x=none→H1 dx=none→dx≠x→sp (.ref x::vs) (upd (upd H1 dx (.own x)) x (.ins C dx [])) (fun v H2=>v=.non∧Q (.ref x) H2) E0
section
variable {X:Cx}{CX:CXT}{k:Nat}{C:Addr}{x m:Str}{ps:List Str}{sp:Sp}{p pos apos:Pos}{e o:Expr}{es:List Expr}{ta:TE}{t:TA}{G:St→Value→Hp→Prop}
theorem zfT {f a:Addr}{fd:FuncData}{pins:List (Addr×Obj)}{σ:St}{H:Hp}{s:Shared}{Q:VK}{E:XK}{us:List Value}{vs:List V} (F:FnOk X.prog X.w X.K X.mg X.base CX k f fd ps sp) (hr:Room k X.A) (b:Binds X.K fd ps [])
  (hx:∀e s',CX X.stack H s E e s'→X.xe e s') (I:Inv X pins σ H s) (r:Vals vs us) (h:sp (.ref a::vs) H Q E):wpAny (model X.prog X.w) X.A (call (.ref f) (.ref a::us)) (EP X pins σ Q) X.xe s:=by
 have r2:Vals (V.ref a::vs) (Value.ref a::us):=.cons rfl r
 have hl:(Value.ref a::us).length=ps.length:=by rw [← r2.length];exact F.len _ _ _ _ h
 have bb:=b s (.ref a::us) I.kIn (by rw [List.append_nil];exact hl)
 rw [List.append_nil] at bb
 refine wpAny_call (codeAny_mono (F.run X.A X.stack s H ⟨.ref a::us,[]⟩ (.ref a::us) (.ref a::vs) Q E hr I.env0 bb r2 h) fun rr s' hq=>?_)
 cases rr with
 | error e=>exact hx e s' hq
 | ok fl=>
  cases fl with
  | ret u=>exact I.after hq
  | next=>exact False.elim hq
  | brk=>exact False.elim hq
  | cont=>exact False.elim hq
theorem QC {pl:Sem Bool} (he:PE X o ta) (F:MtE X.prog X.w X.K X.mg X.base k C m ps sp) (hr:Room k X.A) (hx:Xu X G) (ha:PA X (e::es) t)
  (hst:starEach (e::es) X.env=(false,eval e X.env)::starEach es X.env:=by rfl) (hpl:(backTo pos (starEach es X.env)).any (·.1)=false:=by rfl)
  (ht:eval (.Call (.Attribute o m apos) (e::es) [] pos) X.env=(do
   let ov ← eval o X.env
   standAt apos.atName
   let (f,first) ← holding [ov] (getMethod ov m pl)
   callWith pos f first (backTo pos (starEach (e::es) X.env)) (backToKw pos (keywordEach [] X.env))):=by rfl) :
  PE X (.Call (.Attribute o m apos) (e::es) [] pos) (zlm C m sp G ta t):=by
 obtain⟨f,fd,F,c,hm,b⟩:=F
 intro pins s σ H Q I h
 refine W.methodCall_KW (pl:=pl) (thn (he pins s σ H _ I h) fun u s1 ⟨x,H1,I1,rx,a,dx,fs,ex,ea,l,q⟩=>?_) ht
 subst ex
 obtain rfl:u=Value.ref a:=rx
 refine getmeth_ok I1 ea c hm l ?_
 refine W.callWith_K (first:=[.ref a]) (h₀:=X.base) I.ok.mod.kin hm.kp (thn (ha pos pins s1 σ H1 _ I1 q) fun us s2 ⟨vs,H2,I2,r,q2⟩=>⟨I2.kIn,?_⟩) hst hpl
 exact zfT F hr b (fun e s' z=>hx pins σ H2 s2 e s' I2 z) I2 r q2
theorem zdM {f:Addr}{fd:FuncData}{pins:List (Addr×Obj)}{σ:St}{H:Hp}{s:Shared}{Q:VK}{E:XK}{us:List Value}{vs:List V} (M:Mk X.K C f) (F:FnOk X.prog X.w X.K X.mg X.base CX k f fd ps sp) (hr:Room (k+1) X.A) (hb:Binds X.K fd ps [])
  (hx:∀(H:Hp) (s:Shared) (e:Value) (s':Shared),Inv X pins σ H s→CX X.stack H s E e s'→X.xe e s') (I:Inv X pins σ H s) (r:Vals vs us)
  (h:∀x dx,H x=none→H dx=none→dx≠x→sp (.ref x::vs) (upd (upd H dx (.own x)) x (.ins C dx [])) (fun v H2=>v=.non∧Q (.ref x) H2) E) :
  wpAny (model X.prog X.w) X.A (call (.ref C) us) (EP X pins σ Q) X.xe s:=by
 have hq:=h (s.heap.objs.size+1) s.heap.objs.size (I.hok.fresh (Nat.le_succ _)) (I.hok.fresh (Nat.le_refl _)) (Nat.ne_of_lt (Nat.lt_succ_self _))
 have I2:=Inv.made (C:=C) I
 have r2:Vals (V.ref (s.heap.objs.size+1)::vs) (Value.ref (s.heap.objs.size+1)::us):=.cons rfl r
 have hl:(Value.ref (s.heap.objs.size+1)::us).length=ps.length:=by rw [← r2.length];exact F.len _ _ _ _ hq
 have bb:=hb _ (Value.ref (s.heap.objs.size+1)::us) I2.kIn (by rw [List.append_nil];exact hl)
 rw [List.append_nil] at bb
 refine wpAny_call (make_map (f:=f) I.kIn M.makes M.init (beq_iff_eq.mp M.fn) (codeAny_mono (F.run _ X.stack _ _ ⟨Value.ref (s.heap.objs.size+1)::us,[]⟩ (Value.ref (s.heap.objs.size+1)::us) _ _ E (hr.make C us [])
  (I2.env0.make C us []) bb r2 hq) fun r s' hq'=>?_))
 cases r with
 | error e=>exact hx _ _ e s' I2 hq'
 | ok fl=>
  cases fl with
  | ret u=>
   obtain⟨v,H',I3,rv,ev,q3⟩:=I2.after hq'
   subst ev
   exact⟨rv,⟨V.ref (s.heap.objs.size+1),H',I3,rfl,q3⟩⟩
  | next=>exact False.elim hq'
  | brk=>exact False.elim hq'
  | cont=>exact False.elim hq'
theorem zjW (F:MkX CX0 X.prog X.w X.K X.mg X.base k C ps sp) (hr:Room (k+1) X.A) (hg:Gl X x) (hm:X.mg x=some (.ref C)) (ha:PA X (e::es) t) (hdb:(x == ("__debug__":Str))=false:=by decide)
  (he:starEach (e::es) X.env=(false,eval e X.env)::starEach es X.env:=by rfl) (hpl:(backTo pos (starEach es X.env)).any (·.1)=false:=by rfl):PE X (.Call (.Name x p) (e::es) [] pos) (tMk C sp t):=by
 obtain⟨f,fd,F,M,b⟩:=F
 intro pins s σ H Q I h
 refine wpAny_Call_Name_kw (ld_glob I hg hm ?_ hdb)
 refine W.callWith_K (h₀:=X.base) I.ok.mod.kin M.kp (thn (ha pos pins s σ H _ I h) fun us s1 ⟨vs,H1,I1,r,q⟩=>⟨I1.kIn,?_⟩) he hpl
 exact zdM M F hr b (fun _ _ _ _ _ z=>z.elim) I1 r q
end
theorem MkX.plain {P:Program}{w:World}{K:W.Frag}{mg:Str→Option Value}{base:Heap}{k:Nat}{C:Addr}{ps:List Str}{sp:Sp} (F:MkX (CXE P w) P w K mg base k C ps sp):MkX CX0 P w K mg base k C ps (fun vs H Q _=>sp vs H Q E0):=by
 obtain⟨f,fd,F,r⟩:=F
 refine⟨f,fd,⟨fun vs H Q _ h=>F.len vs H Q E0 h,fun A outer s H args us vs Q E hr e0 hb rv h=>codeAny_mono (F.run A outer s H args us vs Q E0 hr e0 hb rv h) fun rr s' q=>?_⟩,r⟩
 cases rr with
 | ok fl=>cases fl <;> exact q
 | error e=>
  obtain⟨_,_,_,_,_,_,_,_,_,_,_,_,z⟩:=q
  exact False.elim z
end L2
namespace L2
open PySem PySem.Spec PyProof.Rows PySem.SeqAt
section
variable {X:Cx}{pins:List (Addr×Obj)}{σ:St}{H:Hp}{s:Shared}
end
section
variable {X:Cx}
end
end L2
namespace L2
open PySem PySem.Spec PyProof.Rows
open PySem.W (hideAll of_hideAll hideAll_get)
section
variable {M:Model}{A:Around}{E:Value→Shared→Prop}{s:Shared}{env:Env}
noncomputable def zcA (M:Model) (A:Around) (E:Value→Shared→Prop) (use:Option (Value→Sem Unit)) (Q:Value→Shared→Prop) (acc:Value) (cenv:Env) (r:Result) (s':Shared):Prop:=
 match r with
 | .error x=>∃m,s'.heap.Ns cenv.locals m∧∀h' m',h'.Ns cenv.locals m'→Heap.SameBut cenv.locals s'.heap h'→wpAny M A (PySem.passOn "comprehension.variables-let-go" x cenv:Sem Value) (fun _ _=>False) E { s' with heap:=h' }
 | .ok f=>compPost M A E use Q acc cenv.locals (.ok f) s'
theorem zdb {e:Expr}{scope:Scope}{pos:Pos}{newAcc first:Sem Value}{g:Comprehension}{gs:List Comprehension}{cl:List (Str×Addr)}{use:Option (Value→Sem Unit)}{Q:Value→Shared→Prop}
  (hcl:clausesOf e=g::gs) (hs:∀x,foldedSetIterable g.iter env x=pure x) (hclos:closureFor scope env=pure cl) (hkind:scope.kind=.function) (hnames:∀y∈scope.names,y.2=.local→scope.names.lookup y.1=some .local)
  (h:wpAny M A first (fun x s1=>wpAny M A (pyIter x) (fun it s2=>wpAny M A newAcc (fun acc s3=>wpAny M A (newFunctionEnv scope env.globals cl [] env.qual none .none (some env)) (fun cenv s4=>
   codeAny M A (.compStart e 0 it acc { cenv with scope:=relabel scope env }) (zcA M A E use Q acc { cenv with scope:=relabel scope env }) s4) E s3) E s2) E s1) E s) :
  wpAny M A (comprehension e scope env pos newAcc false first use) Q E s:=by
 unfold comprehension
 rw [hclos,hcl]
 refine wpAny_bind (wpAny_mono h (fun x s1 h1=>?_) fun _ _ z=>z)
 refine wpAny_bind (wpAny_standAt (wpAny_bind (wpAny_of_eq (hs x) (wpAny_bind (wpAny_holding ?_)))))
 refine wpAny_mono h1 (fun it s2 h2=>wpAny_standIf ?_) fun _ _ z=>z
 refine wpAny_bind (wpAny_mono h2 (fun acc s3 h3=>wpAny_bind (wpAny_pure (wpAny_bind ?_))) fun _ _ z=>z)
 refine wpAny_mono h3 (fun cenv s4 h4=>?_) fun _ _ z=>z
 dsimp only
 have hv:∀l:List (Str×NameKind),(∀y∈l,y∈scope.names)→∀y∈l,y.2=.local→Env.kindOf { cenv with scope:=relabel scope env } y.1=some .local:=fun l hl y hy hk=>lookup_relabel_local (hnames y (hl y hy) hk)
 have mem:∀(p:Str×NameKind→Bool) (y:Str×NameKind),y∈(scope.names.filter p).reverse→y∈scope.names:=fun p y hy=>(List.mem_filter.mp (List.mem_reverse.mp hy)).1
 have zln:∀(p:Str×NameKind→Bool) (y:Str×NameKind),y∈(scope.names.filter p).reverse.drop 1++(scope.names.filter p).reverse.take 1→y∈scope.names:=fun p y hy=>
  (List.mem_append.mp hy).elim (fun z=>mem p y (List.mem_of_mem_drop z)) fun z=>mem p y (List.mem_of_mem_take z)
 refine wpAny_holding (wpAny_bind (wpAny_attempt (wpAny_holding (wpAny_run (codeAny_mono h4 fun r s' hr=>?_)))))
 cases r with
 | ok f=>
  cases use with
  | none=>
   obtain⟨m,hn,hq⟩:=(show ∃m,s'.heap.Ns cenv.locals m∧∀h',Heap.SameBut cenv.locals s'.heap h'→Q acc { s' with heap:=h' } from hr)
   refine wpAny_bind (wpAny_holding (wpAny_comp_letGo (cenv:={ cenv with scope:=relabel scope env }) hkind _ s' m ?_ hn fun h' m' _ hs'=>wpAny_pure (hq h' hs')))
   exact hv _ (mem _)
  | some u=>
   have hr:wpAny M A (u acc) (fun _ s''=>∃m,s''.heap.Ns cenv.locals m∧∀h',Heap.SameBut cenv.locals s''.heap h'→Q .none { s'' with heap:=h' }) E s':=hr
   refine wpAny_bind (wpAny_rule (wpAny_bind (wpAny_holding (wpAny_mono hr (fun _ s'' ⟨m,hn,hq⟩=>?_) fun _ _ z=>z))))
   refine wpAny_bind (wpAny_comp_letGo (cenv:={ cenv with scope:=relabel scope env }) hkind _ s'' m ?_ hn fun h' m' _ hs'=>wpAny_pure (hq h' hs'))
   exact hv _ (zln _)
 | error x=>
  obtain⟨m,hn,hq⟩:=hr
  refine wpAny_bind (wpAny_holding (wpAny_comp_letGo (cenv:={ cenv with scope:=relabel scope env }) hkind _ s' m ?_ hn fun h' m' hn' hs'=>wpAny_mono (hq h' m' hn' hs') (fun _ _ z=>z.elim) fun _ _ z=>z))
  exact hv _ (mem _)
theorem Ww {base:Heap}{l:List Env}{e L:Addr}{cls a0 fl:Value}{Q:Unit→Shared→Prop} (kb:base.StaysIn s.heap) (ne:base.get? e=none) (ff:s.heap.FunFrames base l) (tr:s.heap.TracedAtW base e cls a0 fl)
  (h:∀h',Heap.HeldW base l e cls a0 L h'→s.heap.UpToSlots h'→Q () { s with heap:=h' }):wpAny M A (setFlight (.ref e) (some L)) Q E s:=by
 obtain⟨oe,vs,T,oT,ts,he,hc,hd,h1,nT,Te,hT,dT,h3⟩:=tr
 have z3:3<ts.size:=(Array.getElem?_eq_some_iff.mp h3).1
 have sb:=Heap.SameBut.update s.heap T (Obj.mapFields (·.setIfInBounds 3 ((some L).elim Value.none fun f=>rawInt f)))
 have up:∀b o,s.heap.get? b=some o→(∀us,o.data≠.fields us)→(s.heap.update T (Obj.mapFields (·.setIfInBounds 3 ((some L).elim Value.none fun f=>rawInt f)))).get? b=some o:=fun b o q nf=>
  (sb.2 b fun z=>by subst z;rw [hT] at q;cases q;exact nf ts dT).trans q
 unfold setFlight
 refine wpAny_bind (wpAny_field he hd h1 ?_)
 rw [if_pos (by simp)]
 refine wpAny_setField hT dT z3 (h _ ⟨fun b o q=>(sb.2 b fun z=>by subst z;rw [nT] at q;cases q).trans (kb b o q),ne,ff.of_keeps fun b o q nf=>⟨o,up b o q nf,rfl⟩,?_⟩ fun b o q nf=>⟨o.slots,up b o q nf⟩)
 exact⟨oe,vs,T,_,_,(sb.2 e (Ne.symm Te)).trans he,hc,hd,h1,nT,Te,Heap.get?_update_self _ hT (Obj.isFreed_of_fields (Obj.data_mapFields dT _)),Obj.data_mapFields dT _,by simp [z3]⟩
end
theorem Jh {h h' B:Heap}{C:Addr} (k:∀b o,b≠C→h.get? b=some o→h'.get? b=some o):∀{l:List Env},C ∉ frs l→h.FunFrames B l→h'.FunFrames (hideAll B [C]) l
 | [],_,_=>trivial
 | env::r,hc,⟨hk,⟨L,o,hf,hn,ho,hd⟩,hr⟩=>by
  have hm:frs (env::r)=L::frs r:=by unfold frs;rw [List.filterMap_cons,hf]
  rw [hm] at hc
  refine⟨hk,⟨L,o,hf,?_,k L o (fun z=>hc (by rw [z];exact List.mem_cons_self)) ho,hd⟩,Jh k (fun z=>hc (List.mem_cons_of_mem _ z)) hr⟩
  cases q:(hideAll B [C]).get? L with
  | none=>rfl
  | some u=>
   have:=of_hideAll _ q
   rw [hn] at this
   cases this
section
variable {P:Program}{w:World}{K:W.Frag}{mg:Str→Option Value}{base:Heap}{N:List Str}{qual:Str}{scope:Scope}{f:Addr}{cdv:Value}{A:Around}{outer:List Env}{s s2:Shared}{H H1:Hp}{E:XK}{pins:List (Addr×Obj)}{σ:St}
theorem zeU {fp:List Addr}{x:Addr} {s':Shared}{C a0:Value} {H':Hp}{B:Heap} (I:Inv (cxOf (CXE P w) P w K mg base N qual scope f cdv A outer s H E) pins σ H1 s2) (hfp:∀b∈fp,s.heap.objs.size≤b) (os:s'.os=s2.os) (bare:AllBare s'.gens)
  (hh:Heap.HeldW B (envOfC qual scope s.heap.objs.size f cdv::outer) x C a0 s.heap.objs.size s'.heap)
  (st:∀h3,B.StaysIn h3→s'.heap.UpToSlots h3→Un (frs (envOfC qual scope s.heap.objs.size f cdv::outer)) fp H1 H' s2.heap h3∧HOk P w H' h3) (xn:s.heap.get? x=none) (xh:H' x=none) (h:E C none H') :
  (cxOf (CXE P w) P w K mg base N qual scope f cdv A outer s H E).xe (.ref x) s':=by
 show wpAny (model P w) (A.deeper (envOfC qual scope s.heap.objs.size f cdv)) (leaving (envOfC qual scope s.heap.objs.size f cdv) (.ref x)) (fun _ s''=>CXE P w outer H s E (.ref x) s'') (fun e' s''=>CXE P w outer H s E e' s'') s'
 unfold leaving
 refine wpAny_bind (wpAny_noteFrame_againW rfl hh.2.2.2 (wpAny_landsW hh fun h'' fl up=>?_))
 obtain⟨f1,f2,⟨_,_,f3⟩,f4⟩:=fl
 have U:=I.base
 have nfp:∀b o,s.heap.get? b=some o→b ∉ fp:=fun b o e z=>absurd (Nat.lt_of_lt_of_le (Heap.lt_size e) (hfp b z)) (Nat.lt_irrefl _)
 refine⟨x,C,a0,H',B,rfl,os.trans I.os,bare,⟨f1,f2,f3,f4⟩,fun h3 st3 up3=>?_,xn,xh,h⟩
 ·obtain⟨u,ok⟩:=st h3 st3 (up.trans up3)
  refine⟨⟨fun b o e n hb hx=>u.keep b o (U.keep b o e n hb hx) (U.free b o e n hx) (zfG e hb) (nfp b o e),fun b o e n hb hx=>?_,fun b o e n hx=>?_,fun b o e hx=>?_,fun b xs e=>u.tups b xs (U.tups b xs e),fun b o v e=>u.frzs b o v (U.frzs b o v e),fun b ps e=>?_⟩,ok⟩
  ·obtain⟨sl,q1⟩:=U.slot b o e n hb hx
   have hb':b∈frs (envOfC qual scope s.heap.objs.size f cdv::outer):=by
    unfold frs;rw [List.filterMap_cons];exact List.mem_cons_of_mem _ hb
   obtain⟨sl2,q2⟩:=u.slot b _ q1 (U.free b o e n hx) hb' (nfp b o e)
   exact⟨sl2,q2⟩
  ·obtain⟨o2,q2⟩:=U.there b o e hx
   exact u.free b o2 q2 (U.free b o e n hx) (nfp b o e)
  ·obtain⟨o2,q2⟩:=U.there b o e hx
   exact u.there b o2 q2 (nfp b o e)
  ·obtain⟨m1,q1⟩:=U.tbls b ps e
   obtain⟨m2,q2⟩:=u.tbls b _ q1
   exact⟨m1++m2,by rw [q2,Array.append_assoc]⟩
end
noncomputable def zaj (X:Cx) (C:Addr) (fp:List Addr) (sF:Shared) (HF:Hp) (G:Value→Hp→Prop):Value→Shared→Prop:=fun e s'=>∃(s1:Shared) (H1:Hp) (m:Str→Option Value),s1.os=sF.os∧Un (frs X.stack) fp HF H1 sF.heap s1.heap∧s1.heap.Ns C m∧H1 C=none ∧
 CXE X.prog X.w X.stack H1 s1 (fun Cv _ H'=>G Cv H') e s'
abbrev qz (X:Cx) (pins:List (Addr×Obj)) (N:List Str) (scope:Scope) (C:Addr) (sF:Shared) (HF:Hp) (fp:List Addr) (G:Value→Hp→Prop):Cx:=(qe X pins N scope C sF HF fp).wish (zaj X C fp sF HF G)
theorem zeV {X:Cx}{pins:List (Addr×Obj)}{N:List Str}{scope:Scope}{C:Addr}{sF:Shared}{HF:Hp}{fp:List Addr}{G:Value→Hp→Prop}:Xu (qz X pins N scope C sF HF fp G) (fun _ Cv H'=>G Cv H'):=fun pl σ H s e s' I h=>by
 obtain⟨m,hn,_⟩:=I.loc
 exact⟨s,H,m,I.os,I.base,hn,I.free,h⟩
section
variable {prog:Program}{w:World}{A:Around}
theorem Wx {elt target iter:Expr}{ifs:List Expr}{scope:Scope}{pos:Pos}{it acc:Value}{env:Env}{s:Shared}{R:Result→Shared→Prop}{EE:Value→Shared→Prop} (hE:∀x s',EE x s'→notedBy (model prog w) A env (fun e s''=>R (.error e) s'') x s') (I:Nat→Shared→Prop)
  (turn:∀n s,I n s→wpAny (model prog w) A (pyNext it) (fun r s1=>match r with
   | none=>R (.ok .next) s1
   | some v=>wpAny (model prog w) A (letOwnedTupleGo target it v) (fun _ s1'=>wpAny (model prog w) A (assign target env v) (fun _ s2=>
     wpAny (model prog w) A (forIn ifs true fun c r=>if r=true then do let ok ← isTrue c env (eval c env);pure (ForInStep.yield ok) else pure (ForInStep.yield r)) (fun ok s3=>
      if ok=true then wpAny (model prog w) A (eval elt env) (fun x s4=>wpAny (model prog w) A (call (.builtin "list.append") [acc,x]) (fun _ s5=>∃m,m<n∧I m s5) EE s4) EE s3
      else ∃m,m<n∧I m s3) EE s2) EE s1') EE s1) EE s)
  (n:Nat) (h:I n s):codeAny (model prog w) A (.compLoop (.ListComp elt [⟨target,iter,ifs,0⟩] scope pos) 0 it acc env) R s:=by
 refine codeAny_loop rfl I (fun n s hI=>?_) n h
 show wpAny _ A ((compTurn (.ListComp elt [⟨target,iter,ifs,0⟩] scope pos) 0 it acc env).onRaise (fun x=>do noteFrame x env;theTreesLotGoes x)) _ _ s
 refine wpAny_noted ?_
 rw [compTurn_list]
 refine wpAny_bind (wpAny_standAt (wpAny_bind (wpAny_mono (turn n s hI) (fun r s1 h1=>?_) hE)))
 cases r with
 | none=>exact wpAny_pure h1
 | some v=>
  refine wpAny_bind (wpAny_mono h1 (fun _ s1' h1'=>?_) hE)
  refine wpAny_bind (wpAny_mono h1' (fun _ s2 h2=>wpAny_bind (wpAny_mono h2 (fun ok s3 h3=>?_) hE)) hE)
  cases ok with
  | false=>exact wpAny_pure ⟨rfl,h3⟩
  | true=>exact wpAny_bind (wpAny_bind (wpAny_mono h3 (fun x s4 h4=>wpAny_bind (wpAny_mono h4 (fun _ s5 h5=>wpAny_pure (wpAny_pure ⟨rfl,h5⟩)) hE)) hE))
end
section
variable {X:Cx}{pins:List (Addr×Obj)}{σ:St}
theorem za5 {tg iter elt:Expr}{ifs:List Expr}{scope:Scope}{own fr:List Str}{ix:List Nat}{g:TG}{tt:TT}{te:TE}{pos:Pos}{Q:VK}{sF:Shared}{HF:Hp}{C acc it:Addr}{h₁:Heap}{fp:List Addr}{tn:Nat→Heap→Prop}{J:It}{W:Nat→Nat→List V→Hp→Prop}{m:Str→Option Value}{m0:Nat}{RR:Result→Shared→Prop}{G:Value→Hp→Prop}
  (hc:X.calm=true) (B:V8 X scope own fr ix)
  (hg:∀pins C sF HF fp,PG (qz X pins (own++fr) scope C sF HF fp G) tg g) (ht:∀pins C sF HF fp,PTs (qz X pins (own++fr) scope C sF HF fp G) ifs tt) (he:∀pins C sF HF fp,PE (qz X pins (own++fr) scope C sF HF fp G) elt te)
  (I3:Inv X pins σ HF sF) (T:Turn X.prog X.w X.K tg J fp it tn) (st3:tn 0 sF.heap) (f3:∀b∈fp,FpOk X pins HF b) (f3':∀b∈fp,∃o,sF.heap.get? b=some o) (hC:sF.heap.objs.size=C) (old:∀b o,sF.heap.get? b=some o→h₁.get? b=some o) (hns₁:h₁.Ns C m)
  (w0:W 0 m0 [] HF) (turn:∀i m ys H2,W i m ys H2→H2 acc=some (.lst ys)∧((J.stop i H2∧Q (.ref acc) H2)∨(J.go i H2∧ys.length<sizeLine∧∀x H3,J.yld i H2 x H3→g x (qC own.length ix σ) H3 fun σ4 H4=>σ4.drop own.length=ix.map (fun i=>(σ[i]?).getD none)∧tt σ4 H4 fun ok H5=>
   if ok=true then te σ4 H5 fun y H6=>H6 acc=some (.lst ys)∧∃m',m'<m∧W (i+1) m' (ys++[y]) (upd H6 acc (.lst (ys++[y])))
   else ∃m',m'<m∧W (i+1) m' ys H5)))
  (hE:∀x s',zaj X C fp sF HF G x s'→notedBy (model X.prog X.w) X.A (compEnvC scope (j9 X.env scope.names []) C X.env) (fun e s''=>RR (.error e) s'') x s')
  (fin:∀s6 H5,Inv (qe X pins (own++fr) scope C sF HF fp) [] (qC own.length ix σ) H5 s6→Q (.ref acc) H5→RR (.ok .next) s6) :
  codeAny (model X.prog X.w) X.A (.compStart (.ListComp elt [⟨tg,iter,ifs,0⟩] scope pos) 0 (.ref it) (.ref acc) (compEnvC scope (j9 X.env scope.names []) C X.env)) RR
   { sF with heap:=h₁,toks:=sF.toks+([]:List (Str×Value)).length }:=by
 have J0:Inv (qz X pins (own++fr) scope C sF HF fp G) [] (qC own.length ix σ) HF { sF with heap:=h₁,toks:=sF.toks+([]:List (Str×Value)).length }:=(VB I3 B hC.symm f3 f3' old hns₁).wish _
 have st4:tn 0 h₁:=T.keep _ _ _ st3 fun b _ o e=>old b o e
 have fY:∀{pl:List (Addr×Obj)} {H':Hp},(∀b∈fp,H' b=none)→(∀p∈pl,p.1 ∉ fp)→∀b∈fp,FpOk (qz X pins (own++fr) scope C sF HF fp G) pl H' b:=fun {pl H'} hn hp b hb=>by
  refine⟨hn b hb,(J0.ok.exf b hb).1,J0.ok.exfs b hb,.inl hb,(J0.ok.exf b hb).2,fun p hpm=>?_⟩
  rcases List.mem_append.mp hpm with z | z
  ·exact(f3 b hb).2.2.2.2.2 p z
  ·exact fun e=>hp p z (by rw [e];exact hb)
 have weak:∀{pl:List (Addr×Obj)}{σ4:St}{H4:Hp}{s4:Shared},Inv (qz X pins (own++fr) scope C sF HF fp G) pl σ4 H4 s4→σ4.drop own.length=ix.map (fun i=>(σ[i]?).getD none)→Inv (qz X pins (own++fr) scope C sF HF fp G) pl (qC own.length ix σ) H4 s4:=fun {pl σ4 H4 s4} J e=>by
  refine J.weak ?_ fun i v hv=>?_
  ·have:=J.len
   have:=J0.len
   omega
  ·have hv':(List.replicate own.length none++ix.map fun i=>(σ[i]?).getD none)[i]?=some (some v):=hv
   by_cases hi:i<own.length
   ·rw [List.getElem?_append_left (by rw [List.length_replicate];exact hi),List.getElem?_replicate,if_pos hi] at hv'
    cases hv'
   ·rw [List.getElem?_append_right (by rw [List.length_replicate];omega),List.length_replicate,← e,List.getElem?_drop] at hv'
    rw [show own.length+(i-own.length)=i by omega] at hv'
    exact hv'
 have loop:∀s4:Shared,s4={ sF with heap:=h₁,toks:=sF.toks+([]:List (Str×Value)).length } →
   codeAny (model X.prog X.w) X.A (.compLoop (.ListComp elt [⟨tg,iter,ifs,0⟩] scope pos) 0 (.ref it) (.ref acc) (compEnvC scope (j9 X.env scope.names []) C X.env)) RR s4:=by
  rintro s4 rfl
  refine Wx hE (fun n s'=>∃i ys H',Inv (qz X pins (own++fr) scope C sF HF fp G) [] (qC own.length ix σ) H' s'∧tn i s'.heap∧(∀b∈fp,H' b=none)∧W i n ys H') ?_ m0 ⟨0,[],HF,J0,st4,fun b hb=>(f3 b hb).1,w0⟩
  rintro n s5 ⟨i,ys,H5,J5,st5,fr5,w5⟩
  obtain⟨ha,hturn⟩:=turn i n ys H5 w5
  rcases hturn with ⟨stop,qn⟩ | ⟨go,hsz,step⟩
  ·refine thn (T.done (qz X pins (own++fr) scope C sF HF fp G) rfl rfl rfl hc i [] s5 _ H5 _ J5 (fY fr5 (fun _ z=>by cases z)) st5 stop) fun r s6 ⟨hr,J6⟩=>?_
   subst hr
   exact fin s6 H5 J6.unwish qn
  ·refine thn (T.item (qz X pins (own++fr) scope C sF HF fp G) rfl rfl rfl hc i [] s5 _ H5 _ J5 (fY fr5 (fun _ z=>by cases z)) st5 go) fun r s6 ⟨u,hr,h6⟩=>?_
   subst hr
   refine thn h6 fun _ s7 ⟨x,H7,J7,r7,y7,st7,fr7⟩=>?_
   have J7':=J7.pinned (fY fr7 (fun _ z=>by cases z)) (T.obj _ _ st7)
   refine thn (hg pins C sF HF fp _ s7 _ H7 x u _ J7' r7 (step x H7 y7)) fun _ s8 ⟨σ8,H8,J8,k8,q8⟩=>?_
   have back:∀{s9:Shared}{H9:Hp},Inv (qz X pins (own++fr) scope C sF HF fp G) ([]++pinsAt fp s7.heap) σ8 H9 s9→Inv (qz X pins (own++fr) scope C sF HF fp G) [] (qC own.length ix σ) H9 s9∧tn (i+1) s9.heap∧∀b∈fp,H9 b=none:=fun {s9 H9} J9=>by
    refine⟨weak J9.unpinned k8,T.keep _ _ _ st7 fun b hb o e=>(J9.pin (b,o) (List.mem_append_right _ (List.mem_append_right _ (mem_pinsAt hb e)))).1,fun b hb=>?_⟩
    obtain⟨o,e,d⟩:=T.obj _ _ st7 b hb
    exact(J9.pin (b,o) (List.mem_append_right _ (List.mem_append_right _ (mem_pinsAt hb e)))).2.1
   refine thn (ht pins C sF HF fp _ s8 σ8 H8 _ J8 q8) fun ok s9 ⟨H9,J9,q9⟩=>?_
   cases ok with
   | false=>
    obtain⟨m',hm,w9⟩:=q9
    obtain⟨b1,b2,b3⟩:=back J9
    exact⟨m',hm,i+1,ys,H9,b1,b2,b3,w9⟩
   | true=>
    refine thn (he pins C sF HF fp _ s9 σ8 H9 _ J9 q9) fun v s10 ⟨y,H10,J10,r10,a10,m',hm,w10⟩=>?_
    refine thn (mt_append (X:=qz X pins (own++fr) scope C sF HF fp G) _ s10 σ8 H10 (.ref acc) [y] (.ref acc) [v] (fun _ H'=>H'=upd H10 acc (.lst (ys++[y]))) J10 rfl (.cons r10 .nil) ⟨acc,ys,y,rfl,rfl,a10,hsz,rfl⟩) fun _ s11 ⟨_,H11,J11,_,e11⟩=>?_
    subst e11
    obtain⟨b1,b2,b3⟩:=back J11
    exact⟨m',hm,i+1,ys++[y],_,b1,b2,b3,w10⟩
 exact codeAny_compStart_list (loop _ rfl) (T.self _ 0 _ _ _ st4 (loop _ rfl))
end
section
variable {P:Program}{w:World}{K:W.Frag}{mg:Str→Option Value}{base:Heap}{N:List Str}{qual:Str}{scope:Scope}{f:Addr}{cdv:Value}{A:Around}{outer:List Env}{s0:Shared}{H0:Hp}{E:XK}{pins:List (Addr×Obj)}{σ:St}
theorem zak {sF:Shared}{HF:Hp}{C:Addr}{fp:List Addr}{bs:Scope}{cl:List (Str×Addr)}{use:Option (Value→Sem Unit)}{Q:Value→Shared→Prop}{acc e:Value} {s':Shared} (I3:Inv (cxOf (CXE P w) P w K mg base N qual scope f cdv A outer s0 H0 E) pins σ HF sF) (hC:sF.heap.objs.size=C) (hfp:∀b∈fp,s0.heap.objs.size≤b)
  (hx:zaj (cxOf (CXE P w) P w K mg base N qual scope f cdv A outer s0 H0 E) C fp sF HF (fun Cv H'=>E Cv none H') e s') :
  notedBy (model P w) (A.deeper (envOfC qual scope s0.heap.objs.size f cdv)) (compEnvC bs cl C (envOfC qual scope s0.heap.objs.size f cdv)) (fun e s''=>zcA (model P w) (A.deeper (envOfC qual scope s0.heap.objs.size f cdv)) (cxOf (CXE P w) P w K mg base N qual scope f cdv A outer s0 H0 E).xe use Q acc (compEnvC bs cl C (envOfC qual scope s0.heap.objs.size f cdv)) (.error e) s'') e s':=by
 obtain⟨s1,H1,m,os1,U2,⟨oC,es,ep,hoC,dC,rest⟩,hCn,x,Cv,a0,H',B,rfl,os',bare,fl,st,xn,xh,q⟩:=hx
 show wpAny (model P w) _ (noteFrame (.ref x) (envOfC qual scope s0.heap.objs.size f cdv)) _ _ s'
 refine wpAny_looks_onW (L:=s0.heap.objs.size) I3.ok.frames rfl fl fun h2 hh up=>?_
 have Cnf:C ∉ frs (envOfC qual scope s0.heap.objs.size f cdv::outer):=fun z=>by
  obtain⟨_,o,ho,_⟩:=(show sF.heap.FunFrames base (envOfC qual scope s0.heap.objs.size f cdv::outer) from I3.stack).mem z
  exact absurd (Heap.lt_size ho) (by rw [hC];exact Nat.lt_irrefl _)
 have h2C:h2.get? C=some oC:=(st h2 hh.1 up).1.keep C oC hoC hCn Cnf (by simp)
 refine⟨m,⟨oC,es,ep,h2C,dC,rest⟩,fun h' m' hn' sb=>?_⟩
 have hn':h'.Ns C m':=hn'
 have sb:Heap.SameBut C h2 h':=sb
 have sb':∀b o,b≠C→h2.get? b=some o→h'.get? b=some o:=fun b o hb z=>(sb.2 b hb).trans z
 obtain⟨k1,k2,k3,oe,vs,T,oT,ts,he,hcl,hd,h1,nT,Te,hT,dT,h3⟩:=hh
 have xC:x≠C:=fun z=>by rw [z,hoC] at xn;cases xn
 have TC:T≠C:=fun z=>by rw [z,h2C] at hT;cases hT;rw [dC] at dT;cases dT
 have none':∀b,B.get? b=none→(hideAll B [C]).get? b=none:=fun b hb=>by
  cases z:(hideAll B [C]).get? b with
  | none=>rfl
  | some u=>have:=of_hideAll _ z;rw [hb] at this;cases this
 have BC:(hideAll B [C]).get? C=none:=W.hideAll_none [C] List.mem_cons_self
 have K1:(hideAll B [C]).StaysIn h':=fun b o z=>sb' b o (fun y=>by rw [y,BC] at z;cases z) (k1 b o (of_hideAll _ z))
 have he':=sb' x oe xC he
 show wpAny (model P w) _ (PySem.passOn "comprehension.variables-let-go" (.ref x) (envOfC qual scope s0.heap.objs.size f cdv):Sem Value) _ _ _
 unfold PySem.passOn
 refine wpAny_bind (wpAny_field he' hd h1 ?_)
 rw [if_neg (by simp)]
 have fin:wpAny (model P w) (A.deeper (envOfC qual scope s0.heap.objs.size f cdv)) (setFlight (.ref x) (some s0.heap.objs.size)) (fun _ s4=>(cxOf (CXE P w) P w K mg base N qual scope f cdv A outer s0 H0 E).xe (.ref x) s4) (cxOf (CXE P w) P w K mg base N qual scope f cdv A outer s0 H0 E).xe { s' with heap:=h' }:=by
  refine Ww (s:={ s' with heap:=h' }) K1 (none' x k2) (Jh sb' Cnf k3) ⟨oe,vs,T,oT,ts,he',hcl,hd,h1,none' T nT,Te,sb' T oT TC hT,dT,h3⟩ fun h5 hh5 up5=>?_
  refine zeU (s':={ s' with heap:=h5 }) (fp:=fp) (H':=H') (C:=Cv) I3 hfp (os'.trans os1) bare hh5 (fun h6 st6 up6=>?_) ?_ xh q
  ·obtain⟨oC',_,_,hoC',dC',_⟩:=hn'
   obtain⟨sl,h6C⟩:=(up5.trans up6) C oC' hoC' (fun us z=>by rw [dC'] at z;cases z)
   have nf:oC.isFreed=false:=(Heap.get?_some_iff.mp h2C).2
   have r1:(h6.update C fun _=>oC).get? C=some oC:=Heap.get?_update_self (fun _=>oC) h6C nf
   have r2:∀b,b≠C→(h6.update C fun _=>oC).get? b=h6.get? b:=fun b hb=>Heap.get?_update_other _ _ (Ne.symm hb)
   obtain⟨u3,ok3⟩:=st (h6.update C fun _=>oC) (fun b o z=>by
    by_cases hb:b=C
    ·subst hb
     have:=k1 _ _ z
     rw [h2C] at this
     cases this
     exact r1
    ·exact(r2 b hb).trans (st6 b o (hideAll_get _ z (by simpa using hb)))) (fun b o z nfd=>by
    obtain⟨sl2,z2⟩:=up b o z nfd
    by_cases hb:b=C
    ·subst hb
     rw [h2C] at z2
     cases z2
     exact⟨_,r1⟩
    ·obtain⟨sl3,z3⟩:=(up5.trans up6) b _ (sb' b _ hb z2) nfd
     exact⟨sl3,(r2 b hb).trans z3⟩)
   have hC':H' C=none:=u3.free C oC hoC hCn (by simp)
   have U:Un (frs (envOfC qual scope s0.heap.objs.size f cdv::outer)) fp HF H' sF.heap (h6.update C fun _=>oC):=Un.trans U2 (Un.mono u3 (fun _ z=>z) (fun _ z=>nomatch z))
   have tr:∀b o v,sF.heap.get? b=some o→(h6.update C fun _=>oC).get? b=some v→h6.get? b=some v:=fun b o v z y=>(r2 b (by rw [← hC];exact Nat.ne_of_lt (Heap.lt_size z))).symm.trans y
   refine⟨⟨fun b o z n hb hx=>tr b o _ z (U.keep b o z n hb hx),fun b o z n hb hx=>?_,U.free,fun b o z hx=>?_,U.tups,U.frzs,U.tbls⟩,fun b u z=>?_⟩
   ·obtain⟨sl4,y⟩:=U.slot b o z n hb hx
    exact⟨sl4,tr b o _ z y⟩
   ·obtain⟨o4,y⟩:=U.there b o z hx
    exact⟨o4,tr b o _ z y⟩
   ·have nit:∀c v,H' c=some v→c≠C:=fun c v y zz=>by rw [zz,hC'] at y;cases y
    refine(ok3 b u z).stay (fun c v hc y=>(r2 c ?_).symm.trans y) (fun _ y=>y) fun _ _ y=>y
    rcases hc with y | y
    ·rw [y];exact nit b u z
    ·exact nit c _ y
  ·cases z:s0.heap.get? x with
   | none=>rfl
   | some o=>
    obtain⟨o1,z1⟩:=I3.base.there x o z (by show x ∉ ([]:List Addr);simp)
    obtain⟨o2,z2⟩:=U2.there x o1 z1 fun y=>absurd (Nat.lt_of_lt_of_le (Heap.lt_size z) (hfp x y)) (Nat.lt_irrefl _)
    rw [xn] at z2;cases z2
 first
  | exact wpAny_bind (wpAny_pure (wpAny_bind (wpAny_mono fin (fun _ _ z=>wpAny_throw z) fun _ _ z=>z)))
  | exact wpAny_bind (wpAny_mono fin (fun _ _ z=>wpAny_throw z) fun _ _ z=>z)
theorem zdN {tg iter elt:Expr}{ifs:List Expr}{bsc:Scope}{own fr:List Str}{ix:List Nat}{wi:TI}{g:TG}{tt:TT}{te:TE}{pos spos py:Pos}{k:Nat}{y:Str} (hN:N.Nodup) (hk:N[k]?=some y) (hy:(envOfC qual scope s0.heap.objs.size f cdv).scope.names.lookup y=some .local) (BB:Kq (cxOf (CXE P w) P w K mg base N qual scope f cdv A outer s0 H0 E) bsc own fr ix) (hi:PI (cxOf (CXE P w) P w K mg base N qual scope f cdv A outer s0 H0 E) tg iter wi)
  (hg:∀pins C sF HF fp,PG (qz (cxOf (CXE P w) P w K mg base N qual scope f cdv A outer s0 H0 E) pins (own++fr) bsc C sF HF fp (fun Cv H'=>E Cv none H')) tg g) (ht:∀pins C sF HF fp,PTs (qz (cxOf (CXE P w) P w K mg base N qual scope f cdv A outer s0 H0 E) pins (own++fr) bsc C sF HF fp (fun Cv H'=>E Cv none H')) ifs tt)
  (he:∀pins C sF HF fp,PE (qz (cxOf (CXE P w) P w K mg base N qual scope f cdv A outer s0 H0 E) pins (own++fr) bsc C sF HF fp (fun Cv H'=>E Cv none H')) elt te)
  (hsw:swapsWith (.ListComp elt [⟨tg,iter,ifs,0⟩] bsc pos) (some (.Name y py)) spos.line (cxOf (CXE P w) P w K mg base N qual scope f cdv A outer s0 H0 E).env=pure true:=by rfl)
  (hs:∀x,foldedSetIterable iter (envOfC qual scope s0.heap.objs.size f cdv) x=pure x:=by intro _;rfl):PS (cxOf (CXE P w) P w K mg base N qual scope f cdv A outer s0 H0 E) (.Assign [.Name y py] (.ListComp elt [⟨tg,iter,ifs,0⟩] bsc pos) spos) (tAsg (zdF wi own.length ix g tt te) (gName k)):=by
 intro pins s σ H D I h
 have B:=BB.ok I.ok
 rw [exec_Assign_Name_used _ _ _ _ hsw]
 refine wpAny_bind (wpAny_standAt (wpAny_bind ?_))
 show wpAny _ (cxOf (CXE P w) P w K mg base N qual scope f cdv A outer s0 H0 E).A (do let _ ← comprehension (.ListComp elt [⟨tg,iter,ifs,0⟩] bsc pos) bsc (cxOf (CXE P w) P w K mg base N qual scope f cdv A outer s0 H0 E).env _ (newList []) false (eval iter (cxOf (CXE P w) P w K mg base N qual scope f cdv A outer s0 H0 E).env) (some (assign (.Name y py) (cxOf (CXE P w) P w K mg base N qual scope f cdv A outer s0 H0 E).env))) _ _ s
 refine wpAny_bind (wpAny_mono (zdb (use:=some (assign (.Name y py) (cxOf (CXE P w) P w K mg base N qual scope f cdv A outer s0 H0 E).env)) (Q:=fun _ s'=>SP (cxOf (CXE P w) P w K mg base N qual scope f cdv A outer s0 H0 E) pins D .next s') rfl hs (Ju B.free) B.kind B.names
  (thn (hi pins s σ H _ I h) fun xv s1 h1=>thn h1 fun itv s2 h2=>?_)) (fun _ s' hq=>wpAny_pure (wpAny_pure hq)) fun _ _ e=>e)
 obtain⟨it,fp,tn,J,H2,rfl,I2,T,st2,f2,R⟩:=h2
 refine wpAny_newObj_type (wpAny_newFunctionEnv B.nocell (by intro y hy;simp at hy) (fun h₁ hns₁ hsb₁=>?_) B.kind)
 dsimp only at hns₁ hsb₁
 have I3:=I2.lnew (t':=s2.toks) (its:=[]) (ys:=[]) .nil (Nat.zero_le _)
 obtain⟨W,⟨m0,w0⟩,turn⟩:=R _ I2.fresh
 have fF:∀b∈fp,∃o,s2.heap.get? b=some o:=fun b hb=>let ⟨o,e,_⟩:=T.obj _ _ st2 b hb;⟨o,e⟩
 have zc6:∀b∈fp,b≠s2.heap.objs.size:=fun b hb=>let ⟨o,e⟩:=fF b hb;Nat.ne_of_lt (Heap.lt_size e)
 have push:∀b o,s2.heap.get? b=some o→(s2.heap.push { cls:=.type "list",data:=.seq ([]:List Value).toArray }).get? b=some o:=fun b o e=>Heap.get?_push_of_some _ e
 have f3:∀b∈fp,FpOk (cxOf (CXE P w) P w K mg base N qual scope f cdv A outer s0 H0 E) pins (upd H2 s2.heap.objs.size (.lst [])) b:=fun b hb=>⟨by rw [upd_ne (zc6 b hb)];exact(f2 b hb).1,(f2 b hb).2⟩
 refine za5 (Q:=fun x H1=>gName k x σ H1 D.nx) (G:=fun Cv H'=>E Cv none H') rfl B hg ht he I3 T (T.keep _ _ _ st2 fun b _ o e=>push b o e) f3 (fun b hb=>let ⟨o,e⟩:=fF b hb;⟨o,push b o e⟩) rfl
  (fun b o e=>hsb₁.extBut b o (Nat.ne_of_lt (Heap.lt_size e)) (Heap.get?_push_of_some _ e)) hns₁ w0 turn (fun x s' hx=>zak I3 rfl (fun b hb=>?_) hx) fun s6 H5 J6 qn=>?_
 ·exact(f2 b hb).2.2.2.1.elim (fun z=>absurd (show b∈([]:List Addr) from z) (by simp)) fun z=>z
 have I6:Inv (cxOf (CXE P w) P w K mg base N qual scope f cdv A outer s0 H0 E) pins σ H5 { s6 with heap:=s6.heap }:=X8 I3 f3 rfl J6 (Heap.SameBut.refl ..)
 have I6:Inv (cxOf (CXE P w) P w K mg base N qual scope f cdv A outer s0 H0 E) pins σ H5 s6:=I6
 obtain⟨m6,⟨o6,es6,ep6,ho6,rest6⟩,_⟩:=id J6.loc
 have sz:∀b o,(s2.heap.push { cls:=.type "list",data:=.seq ([]:List Value).toArray }).get? b=some o→b≠(s2.heap.push { cls:=.type "list",data:=.seq ([]:List Value).toArray }).objs.size:=fun b o e=>Nat.ne_of_lt (Heap.lt_size e)
 have hge:(cxOf (CXE P w) P w K mg base N qual scope f cdv A outer s0 H0 E).s₀.heap.objs.size≤(s2.heap.push { cls:=.type "list",data:=.seq ([]:List Value).toArray }).objs.size:=I3.sz
 have hloc:(s2.heap.push { cls:=.type "list",data:=.seq ([]:List Value).toArray }).objs.size≠(cxOf (CXE P w) P w K mg base N qual scope f cdv A outer s0 H0 E).env.locals:=fun z=>by
  have:=I3.lt
  rw [← z] at this
  exact Nat.lt_irrefl _ this
 have hfs:(s2.heap.push { cls:=.type "list",data:=.seq ([]:List Value).toArray }).objs.size ∉ (cxOf (CXE P w) P w K mg base N qual scope f cdv A outer s0 H0 E).fs:=I3.nofs (Nat.le_refl _)
 have hcell:∀x c,(cxOf (CXE P w) P w K mg base N qual scope f cdv A outer s0 H0 E).env.cells.lookup x=some c→c≠(s2.heap.push { cls:=.type "list",data:=.seq ([]:List Value).toArray }).objs.size:=fun x c e=>by
  obtain⟨v,ob,hob,_⟩:=I3.cell x c e
  exact sz _ _ hob
 have hpin:∀p∈(cxOf (CXE P w) P w K mg base N qual scope f cdv A outer s0 H0 E).pn++pins,p.1≠(s2.heap.push { cls:=.type "list",data:=.seq ([]:List Value).toArray }).objs.size:=fun p hp=>sz _ _ (I3.pin p hp).1
 have I7:Inv (cxOf (CXE P w) P w K mg base N qual scope f cdv A outer s0 H0 E) (pins++[((s2.heap.push { cls:=.type "list",data:=.seq ([]:List Value).toArray }).objs.size,o6)]) σ H5 s6:=I6.pins_of fun p hp=>by
  rcases List.mem_append.mp hp with z | z
  ·exact I6.pin p (List.mem_append_right _ z)
  ·rw [List.mem_singleton.mp z]
   refine⟨ho6,J6.free,hloc,hfs,fun v z=>?_⟩
   rw [rest6.1] at z
   cases z
 refine wpAny_assign_Name (store_ok (v:=.ref s2.heap.objs.size) I7 hN hk (.inl hy) rfl (fun s8 I8=>?_) (.inr hy))
 have h8:=(I8.pin ((s2.heap.push { cls:=.type "list",data:=.seq ([]:List Value).toArray }).objs.size,o6) (List.mem_append_right _ (List.mem_append_right _ (List.mem_singleton.mpr rfl)))).1
 refine⟨m6,⟨o6,es6,ep6,h8,rest6⟩,fun h' hs'=>⟨_,H5,(I8.unpinned).turned (t':=s8.toks) (fun b o hb e=>hs'.extBut b o hb e) J6.free hloc (.inr hge) hcell hpin,qn⟩⟩
end
end L2
namespace L2
open PySem PySem.NumText
abbrev cpl (x:Str):List Nat:=x.cps.toList
theorem Zd {x y:Str} (h:cpl x=cpl y):x=y:=Str.ext' (Array.toList_inj.mp h)
theorem zF (x:Str):(cpl x).length=x.length:=Array.length_toList
theorem jo (x y:Str):cpl (x++y)=cpl x++cpl y:=by simp only [cpl,Str.cps_append,Array.toList_append]
noncomputable def qb (c:Nat):List (List Nat)→List Nat
 | []=>[]
 | [x]=>x
 | x::y::r=>x++c::qb c (y::r)
theorem Xw (c:Nat):∀ws:List Str,cpl (Str.join ⟨#[c]⟩ ws)=qb c (ws.map cpl)
 | []=>rfl
 | [x]=>rfl
 | x::y::r=>by
  show cpl (x++⟨#[c]⟩++Str.join ⟨#[c]⟩ (y::r))=cpl x++c::qb c (cpl y::r.map cpl)
  rw [jo,jo,Xw c (y::r),List.append_assoc]
  rfl
theorem zdO {c:Nat}:∀{x y A B:List Nat},c ∉ x→c ∉ y→x++c::A=y++c::B→x=y∧A=B
 | [],[],_,_,_,_,h=>⟨rfl,(List.cons.inj h).2⟩
 | [],b::y,_,_,_,hy,h=>absurd (show c∈b::y by rw [(List.cons.inj h).1];exact List.mem_cons_self ..) hy
 | a::x,[],_,_,hx,_,h=>absurd (show c∈a::x by rw [← (List.cons.inj h).1];exact List.mem_cons_self ..) hx
 | a::x,b::y,A,B,hx,hy,h=>by
  obtain⟨h1,h2⟩:=List.cons.inj h
  obtain⟨e1,e2⟩:=zdO (fun z=>hx (List.mem_cons_of_mem _ z)) (fun z=>hy (List.mem_cons_of_mem _ z)) h2
  exact⟨by rw [h1,e1],e2⟩
theorem YQ {c:Nat}:∀{xs ys:List (List Nat)},xs≠[]→ys≠[]→(∀x∈xs,c ∉ x)→(∀y∈ys,c ∉ y)→qb c xs=qb c ys→xs=ys
 | [],_,h,_,_,_,_=>absurd rfl h
 | _,[],_,h,_,_,_=>absurd rfl h
 | [x],[y],_,_,_,_,h=>by rw [show x=y from h]
 | [x],y::y2::r,_,_,hx,_,h=>by
  have h:x=y++c::qb c (y2::r):=h
  exact absurd (by rw [h];exact List.mem_append_right _ (List.mem_cons_self ..)) (hx x (List.mem_cons_self ..))
 | x::x2::r,[y],_,_,_,hy,h=>by
  have h:x++c::qb c (x2::r)=y:=h
  exact absurd (by rw [← h];exact List.mem_append_right _ (List.mem_cons_self ..)) (hy y (List.mem_cons_self ..))
 | x::x2::r,y::y2::s,_,_,hx,hy,h=>by
  have h:x++c::qb c (x2::r)=y++c::qb c (y2::s):=h
  obtain⟨e1,e2⟩:=zdO (hx x (List.mem_cons_self ..)) (hy y (List.mem_cons_self ..)) h
  have:=YQ (by simp) (by simp) (fun z hz=>hx z (List.mem_cons_of_mem _ hz)) (fun z hz=>hy z (List.mem_cons_of_mem _ hz)) e2
  rw [e1,this]
theorem Kz:∀{a b:List Str},a.map cpl=b.map cpl→a=b
 | [],[],_=>rfl
 | [],_::_,h=>by simp at h
 | _::_,[],h=>by simp at h
 | x::a,y::b,h=>by
  obtain⟨h1,h2⟩:=List.cons.inj h
  rw [Zd h1,Kz h2]
theorem za6 (x y:Str):Txt.split x y≠[]:=by
 unfold Txt.split
 split
 ·simp
 ·split
  ·simp
  ·rw [StrLaws.partsBetween_eq]
   obtain⟨p,r,e⟩:=StrLaws.partsFrom_ne x y.length 0 (Builtin.Str.occurrences x y 0 x.length (x.length+1))
   rw [e]
   simp
abbrev sp:Str:=" "
theorem YS:sp=⟨#[32]⟩:=by decide +kernel
theorem Ka (y:Str) (ws:List Str):Txt.join y ws=Str.join y ws:=by
 unfold Txt.join
 rw [StrLaws.glued_eq_join]
noncomputable def Z5 (x:Str):Prop:=32 ∉ cpl x
theorem yz {ws:List Str} (hn:ws≠[]) (hw:∀w∈ws,Z5 w):Txt.split (Txt.join sp ws) sp=ws:=by
 have h1:=StrLaws.join_split (Txt.join sp ws) sp
 rw [Ka,YS] at h1
 rw [Ka,YS]
 have h2:=congrArg cpl h1
 rw [Xw,Xw] at h2
 refine Kz (YQ (c:=32) ?_ ?_ ?_ ?_ h2)
 ·intro z
  exact za6 _ _ (List.map_eq_nil_iff.mp z)
 ·intro z
  exact hn (List.map_eq_nil_iff.mp z)
 ·intro x hx
  obtain⟨p,hp,rfl⟩:=List.mem_map.mp hx
  exact StrLaws.split_free _ 32 p hp
 ·intro x hx
  obtain⟨p,hp,rfl⟩:=List.mem_map.mp hx
  exact hw p hp
theorem zb1 (x:Str):∀w∈Txt.split x sp,Z5 w:=by
 rw [YS]
 exact StrLaws.split_free x 32
theorem za7 (x:Str):Txt.join sp (Txt.split x sp)=x:=by rw [Ka,StrLaws.join_split]
structure Num (most:Nat) (x:Str):Prop where
 ne:1≤x.length
 le:x.length≤most
 dig:AllDigits (cpl x)
 led:(cpl x)[0]?=some 48→cpl x=[48]
noncomputable def zA (x:Str):Int:=((digitsVal (cpl x):Nat):Int)
theorem yh (x:Str):0≤zA x:=Int.natCast_nonneg _
theorem Num.ne' {most:Nat}{x:Str} (h:Num most x):cpl x≠[]:=fun z=>by
 have:=h.ne
 rw [← zF,z] at this
 exact absurd this (by decide)
theorem zal:∀(cs:List Nat),AllDigits cs→digitsVal cs<10 ^ cs.length:=by
 intro cs
 have key:∀(cs:List Nat) (a:Nat),AllDigits cs→cs.foldl (fun acc c=>acc*10+(c-48)) a<(a+1)*10 ^ cs.length:=by
  intro cs
  induction cs with
  | nil=>intro a _;simp
  | cons c r ih=>
   intro a h
   have hc:=h.head
   have:=ih (a*10+(c-48)) h.tail
   rw [List.foldl_cons,List.length_cons,Nat.pow_succ]
   refine Nat.lt_of_lt_of_le this ?_
   rw [Nat.mul_comm (10 ^ r.length) 10,← Nat.mul_assoc]
   exact Nat.mul_le_mul_right _ (by omega)
 intro h
 have:=key cs 0 h
 simpa [digitsVal] using this
theorem Xx {most:Nat}{x:Str} (h:Num most x):zA x<10 ^ most:=by
 have h1:=zal _ h.dig
 have h2:10 ^ (cpl x).length≤10 ^ most:=Nat.pow_le_pow_right (by decide) (by rw [zF];exact h.le)
 unfold zA
 have:digitsVal (cpl x)<10 ^ most:=by omega
 exact_mod_cast this
noncomputable def txt (n:Int):Str:=Str.ofString (toString n)
theorem zfU (s:String):cpl (Str.ofString s)=s.toList.map Char.toNat:=by
 exact PyProof.Rows.signs_ofString s
theorem Xy (m:Nat):cpl (txt ((m:Nat):Int))=(Nat.toDigits 10 m).map Char.toNat:=by
 unfold txt
 rw [zfU]
 show (Nat.repr m).toList.map Char.toNat=_
 rw [Nat.toList_repr]
theorem Vc:∀d:Nat,d<10→(Nat.digitChar d).toNat=48+d:=by decide
theorem zb2 {m:Nat}:∀ch∈Nat.toDigits 10 m,48≤ch.toNat∧ch.toNat≤57:=by
 induction m using Nat.strongRecOn with
 | _ m ih=>
  intro ch hch
  by_cases h:m<10
  ·rw [Nat.toDigits_of_lt_base h] at hch
   rw [List.mem_singleton.mp hch,Vc m h]
   omega
  ·have hm:m % 10<10:=Nat.mod_lt m (by decide)
   have t:Nat.toDigits 10 (m / 10)++Nat.toDigits 10 (m % 10)=Nat.toDigits 10 (10*(m / 10)+m % 10):=Nat.toDigits_append_toDigits (by decide) (by omega) hm
   rw [Nat.div_add_mod] at t
   rw [← t] at hch
   rcases List.mem_append.mp hch with z | z
   ·exact ih (m / 10) (by omega) ch z
   ·rw [Nat.toDigits_of_lt_base hm] at z
    rw [List.mem_singleton.mp z,Vc _ hm]
    omega
theorem zam (m:Nat):AllDigits (cpl (txt ((m:Nat):Int))):=by
 intro c hc
 rw [Xy] at hc
 obtain⟨ch,hch,e⟩:=List.mem_map.mp hc
 rw [← e]
 exact zb2 ch hch
theorem zdP (m:Nat):1≤(cpl (txt ((m:Nat):Int))).length:=by
 cases h:cpl (txt ((m:Nat):Int)) with
 | nil=>
  rw [Xy] at h
  have:=List.map_eq_nil_iff.mp h
  exact absurd this (Nat.toDigits_ne_nil)
 | cons a r=>exact Nat.succ_le_succ (Nat.zero_le _)
theorem zeW (m:Nat) (h:(cpl (txt ((m:Nat):Int)))[0]?=some 48):m=0:=by
 rw [Xy] at h
 induction m using Nat.strongRecOn with
 | _ m ih=>
  by_cases hm10:m<10
  ·rw [Nat.toDigits_of_lt_base hm10] at h
   have:(Nat.digitChar m).toNat=48:=by simpa using h
   rw [Vc m hm10] at this
   omega
  ·have hm:m % 10<10:=Nat.mod_lt m (by decide)
   have t:Nat.toDigits 10 (m / 10)++Nat.toDigits 10 (m % 10)=Nat.toDigits 10 (10*(m / 10)+m % 10):=Nat.toDigits_append_toDigits (by decide) (by omega) hm
   rw [Nat.div_add_mod] at t
   rw [← t,List.map_append,List.getElem?_append_left (by rw [← Xy];exact zdP _)] at h
   have:=ih (m / 10) (by omega) h
   omega
theorem zeX {m k:Nat} (hk:1≤k) (h:m<10 ^ k):(cpl (txt ((m:Nat):Int))).length≤k:=by
 rw [Xy,List.length_map]
 induction k generalizing m with
 | zero=>exact absurd hk (by decide)
 | succ k ih=>
  by_cases hm10:m<10
  ·rw [Nat.toDigits_of_lt_base hm10]
   exact Nat.succ_le_succ (Nat.zero_le _)
  ·have hm:m % 10<10:=Nat.mod_lt m (by decide)
   have t:Nat.toDigits 10 (m / 10)++Nat.toDigits 10 (m % 10)=Nat.toDigits 10 (10*(m / 10)+m % 10):=Nat.toDigits_append_toDigits (by decide) (by omega) hm
   rw [Nat.div_add_mod] at t
   rw [← t,List.length_append,Nat.toDigits_of_lt_base hm,List.length_singleton]
   have h2:m / 10<10 ^ k:=Nat.div_lt_of_lt_mul (by rw [Nat.pow_succ,Nat.mul_comm] at h;exact h)
   have k1:1≤k:=by
    cases k with
    | zero=>simp at h2;omega
    | succ k=>omega
   have:=ih k1 h2
   omega
theorem Kc {n:Int}{k:Nat} (hk:1≤k) (h0:0≤n) (h1:n<10 ^ k):Num k (txt n):=by
 obtain⟨m,rfl⟩:=Int.eq_ofNat_of_zero_le h0
 have hm:m<10 ^ k:=by exact_mod_cast h1
 refine⟨by rw [← zF];exact zdP m,by rw [← zF];exact zeX hk hm,zam m,fun z=>?_⟩
 have:=zeW m z
 subst this
 rfl
theorem num_reads {most:Nat}{x:Str} (h:Num most x) (hm:most≤4300):PySem.intText? x=some (zA x):=intText_digits h.dig h.ne' (Nat.le_trans h.le hm)
end L2
namespace L2
open PySem PySem.Spec PyProof.Rows
theorem Vd:∀(ws:List Str) (k:Nat),Vals (ws.map V.str) (strsFrom k ws)
 | [],_=>.nil
 | x::r,k=>.cons ⟨k,rfl⟩ (Vd r (k+1))
section
variable {X:Cx}
noncomputable def zfV:V→List V→Hp→VK→Prop:=fun x vs H Q=>∃a b,x=.str a∧vs=[.str b]∧(b.length == 0)=false∧a.length+2≤sizeLine∧∀l,H l=none→Q (.ref l) (upd H l (.lst ((Txt.split a b).map V.str)))
theorem ZM:MtR X "str.split" zfV:=by
 intro pins s σ H v vs u us Q I rx rs h
 obtain⟨x,y,rfl,rfl,hy,hz,q⟩:=h
 obtain⟨t,rfl⟩:=rx
 obtain⟨u1,rfl,w1⟩:=vals1 rs
 obtain⟨t',rfl⟩:=w1
 have hn:(Builtin.Str.partsBetween x (Builtin.Str.occurrences x y 0 x.length (x.length+1)) y.length).length≤sizeLine:=by
  have e1:=StrLaws.occ_length_le x y 0 x.length (x.length+1)
  rw [length_partsBetween]
  omega
 have q:=q _ I.fresh
 cases h1:(decide (x.length<y.length) || decide (Builtin.Str.strKind x<Builtin.Str.strKind y)) with
 | false=>
  cases hf:(Builtin.Str.occurrences x y 0 x.length (x.length+1)).isEmpty with
  | false=>
   have e:Txt.split x y=Builtin.Str.partsBetween x (Builtin.Str.occurrences x y 0 x.length (x.length+1)) y.length:=by
    unfold Txt.split
    rw [h1,hf]
    rfl
   rw [e] at q
   exact call_meets PySem.F.slot_str_split (typeIs_str _ _ _) PySem.F.entry_str_split (PySem.F.args_str_split_2 _ _) (meets_str_split_sep x y t t' h1 hy hf (by omega) hn) ⟨.ref _,_,I.lnew (Vd _ _) (by rw [List.length_map];exact hn),rfl,q⟩
  | true=>
   have e:Txt.split x y=[x]:=by
    unfold Txt.split
    rw [h1,hf]
    rfl
   rw [e] at q
   exact call_meets PySem.F.slot_str_split (typeIs_str _ _ _) PySem.F.entry_str_split (PySem.F.args_str_split_2 _ _) (meets_str_split_not_found x y t t' h1 hy hf) ⟨.ref _,_,I.lnew (its:=[.str x t]) (ys:=[V.str x]) (t':=s.toks) (.cons ⟨t,rfl⟩ .nil) (by show 1≤sizeLine;decide),rfl,q⟩
 | true=>
  have e:Txt.split x y=[x]:=by
   unfold Txt.split
   rw [h1]
   rfl
  rw [e] at q
  exact call_meets PySem.F.slot_str_split (typeIs_str _ _ _) PySem.F.entry_str_split (PySem.F.args_str_split_2 _ _) (meets_str_split_cannot_occur x y t t' h1) ⟨.ref _,_,I.lnew (its:=[.str x t]) (ys:=[V.str x]) (t':=s.toks) (.cons ⟨t,rfl⟩ .nil) (by show 1≤sizeLine;decide),rfl,q⟩
noncomputable def zdc:V→List V→Hp→VK→Prop:=fun x vs H Q=>∃a b k,x=.str a∧vs=[.str b,.int k]∧(decide (k < -(2 ^ 63:Int)) || decide (k ≥ 2 ^ 63))=false∧(b.length == 0)=false∧a.length+2≤sizeLine∧(Txt.splitMax a b k).length≤sizeLine∧∀l,H l=none→Q (.ref l) (upd H l (.lst ((Txt.splitMax a b k).map V.str)))
theorem za8:MtR X "str.split" zdc:=by
 intro pins s σ H v vs u us Q I rx rs h
 obtain⟨x,y,k,rfl,rfl,hk,hy,hz,hn,q⟩:=h
 obtain⟨t,rfl⟩:=rx
 obtain⟨u1,u2,rfl,w1,w2⟩:=vals2 rs
 obtain⟨t',rfl⟩:=w1
 obtain⟨t2,rfl⟩:=w2
 have q:=q _ I.fresh
 cases h1:(decide (x.length<y.length) || decide (Builtin.Str.strKind x<Builtin.Str.strKind y)) with
 | false=>
  cases hf:(Builtin.Str.occurrences x y 0 x.length (limitOf x k)).isEmpty with
  | false=>
   have e:Txt.splitMax x y k=Builtin.Str.partsBetween x (Builtin.Str.occurrences x y 0 x.length (limitOf x k)) y.length:=by
    unfold Txt.splitMax
    rw [h1,hf]
    rfl
   rw [e] at q hn
   exact call_meets PySem.F.slot_str_split (typeIs_str _ _ _) PySem.F.entry_str_split (PySem.F.args_str_split_3 _ _ _) (meets_str_split_sep_max x y k t t' t2 hk h1 hy hf (by omega) hn) ⟨.ref _,_,I.lnew (Vd _ _) (by rw [List.length_map];exact hn),rfl,q⟩
  | true=>
   have e:Txt.splitMax x y k=[x]:=by
    unfold Txt.splitMax
    rw [h1,hf]
    rfl
   rw [e] at q
   exact call_meets PySem.F.slot_str_split (typeIs_str _ _ _) PySem.F.entry_str_split (PySem.F.args_str_split_3 _ _ _) (meets_str_split_max_not_found x y k t t' t2 hk h1 hy hf) ⟨.ref _,_,I.lnew (its:=[.str x t]) (ys:=[V.str x]) (t':=s.toks) (.cons ⟨t,rfl⟩ .nil) (by show 1≤sizeLine;decide),rfl,q⟩
 | true=>
  have e:Txt.splitMax x y k=[x]:=by
   unfold Txt.splitMax
   rw [h1]
   rfl
  rw [e] at q
  exact call_meets PySem.F.slot_str_split (typeIs_str _ _ _) PySem.F.entry_str_split (PySem.F.args_str_split_3 _ _ _) (meets_str_split_max_cannot_occur x y k t t' t2 hk h1) ⟨.ref _,_,I.lnew (its:=[.str x t]) (ys:=[V.str x]) (t':=s.toks) (.cons ⟨t,rfl⟩ .nil) (by show 1≤sizeLine;decide),rfl,q⟩
theorem zfW {k:Nat}{C:Addr}{x:Str}{ps:List Str}{sp:Sp}{p pos:Pos} (F:MkX CX0 X.prog X.w X.K X.mg X.base k C ps sp) (hr:Room (k+1) X.A) (hg:Gl X x) (hm:X.mg x=some (.ref C)) (hdb:(x == ("__debug__":Str))=false:=by decide) :
  PE X (.Call (.Name x p) [] [] pos) (tMk C sp tNil):=by
 obtain⟨f,fd,F,M,b⟩:=F
 intro pins s σ H Q I h
 refine wpAny_Call_Name_kw (ld_glob I hg hm ?_ hdb)
 exact W.callWith_K0 I.kIn M.kp (zdM (us:=[]) (vs:=[]) M F hr b (fun _ _ _ _ _ z=>z.elim) I .nil h)
noncomputable def tPs:List TE→Str→TE
 | [],acc=>fun _ H Q=>acc.length≤sizeLine∧Q (.str acc) H
 | t::ts,acc=>fun σ H Q=>t σ H fun x H1=>∃y,x=.str y∧(acc++y).length≤sizeLine∧tPs ts (acc++y) σ H1 Q
inductive PJs (X:Cx):List Expr→List TE→Prop where
 | nil:PJs X [] []
 | cons {e:Expr}{t:TE}{es:List Expr}{ts:List TE} (h:PE X e t) (r:PJs X es ts):PJs X (e::es) (t::ts)
theorem zdQ:∀{es:List Expr}{ts:List TE},PJs X es ts→∀(acc:Str) (pins:List (Addr×Obj)) (s:Shared) (σ:St) (H:Hp) (Q:VK),Inv X pins σ H s→tPs ts acc σ H Q →
  wpAny (model X.prog X.w) X.A (joinParts acc (evalEach es X.env)) (EP X pins σ Q) X.xe s
 | _,_,.nil,acc,pins,s,σ,H,Q,I,h=>joinParts_nil ⟨.str acc,H,I.tok _,⟨_,rfl⟩,h.2⟩ h.1
 | _,_,.cons h r,acc,pins,s,σ,H,Q,I,hw=>by
  refine joinParts_cons (thn (h pins s σ H _ I hw) fun v s1 ⟨x,H1,I1,r1,q1⟩=>?_)
  obtain⟨y,rfl,hz,q⟩:=q1
  obtain⟨t',rfl⟩:=r1
  exact⟨hz,zdQ r (acc++y) pins s1 σ H1 Q I1 q⟩
theorem zfH {e1 e2:Expr}{es:List Expr}{ts:List TE}{pos:Pos} (h:PJs X (e1::e2::es) ts):PE X (.JoinedStr (e1::e2::es) pos) (tPs ts Str.empty):=
 fun pins s σ H Q I hw=>JoinedStr_many (zdQ h Str.empty pins s σ H Q I hw)
end
end L2
namespace L2
open PySem PySem.Spec PyProof.Rows PySem.Calls PySem.NumText
noncomputable def NoDig (K:W.Frag):Prop:=∀h:Heap,K.In h→h.NoDigits
theorem nodig_of {K:W.Frag}{oc:Value}{od:Option Addr}{es:Array DictEntry}{ep:Nat}{sl:Array (Option Value)} (l:K.lookup cStatics=some ⟨oc,od,.dict es ep,sl⟩) (e:(es.all fun e=>match e.key with | .str _ _=>true | _=>false)=true)
  (n:W.nsIn K cStatics "sys.int_max_str_digits"=some none):NoDig K:=by
 intro h X
 have ho:=X _ _ l
 refine⟨fun name=>nsFind es name,⟨_,es,ep,ho,rfl,fun en hen=>?_,fun _=>rfl⟩,?_⟩
 ·have:=Array.all_eq_true_iff_forall_mem.mp e en hen
  cases hk:en.key with
  | str a b=>exact⟨a,b,rfl⟩
  | _=>rw [hk] at this;cases this
 ·unfold W.nsIn at n
  rw [l] at n
  dsimp only at n
  split at n
  ·cases n
  ·rename_i he
   show nsFind es _=none
   unfold nsFind findBy
   rw [← Array.find?_toList,he]
   rfl
section
variable {prog:Program}{w:World}{A:Around}{E:Value→Shared→Prop}{s:Shared}{a:Int}{t:Tok}
theorem zdR {Q:Value→Shared→Prop} (hn:s.heap.NoDigits) (hl:a.natAbs<10 ^ 4300) (h1:Q (.str (toString a) s.toks) { s with toks:=s.toks+1 }) :
  wpAny (model prog w) A (call (.builtin "int.__repr__") [.int a t]) Q E s:=by
 refine wpAny_call_entry F.slot_int_repr (typeIs_int s a t) F.entry_int_repr ?_ (F.args_int_repr_1 _)
 unfold Builtin.«int.__repr__»
 show wpAny _ _ (do let r ← Builtin.overDigitLimit? a;_) _ _ s
 refine wpAny_bind (overDigitLimit_any hn (fun hlt=>?_) (fun hge=>absurd hl (Nat.not_lt.mpr hge)))
 exact wpAny_bind (wpAny_mkStr (wpAny_pure ⟨_,rfl,h1⟩) (int_text_fits10 hlt))
theorem zdd {Q:Value→Shared→Prop} (hn:s.heap.NoDigits) (hl:a.natAbs<10 ^ 4300) (h1:Q (.str (toString a) s.toks) { s with toks:=s.toks+1 }) :
  wpAny (model prog w) A (Builtin.Str.strOf (.int a t)) Q E s:=by
 unfold Builtin.Str.strOf
 rw [show Builtin.Str.isExactStr (.int a t)=false from rfl]
 try (have hv:[Value.int a t].any Value.onHeap=false:=rfl;simp only [cRoomFor,hv,Bool.false_eq_true,if_false,pure_bind])
 refine wpAny_bind (m:=callSpecial? (.int a t) (Str.ofString "__str__")) (wpAny_callSpecial?_slot (name:=Str.ofString "__str__") (typeIs_int s a t) F.slot_int_str ?_)
 refine wpAny_call_entry F.slot_int_str (typeIs_int s a t) entry_object_str ?_ (args_object_str _)
 unfold Builtin.«object.__str__»
 refine wpAny_bind (m:=slotArgs "__str__" 0 _) (wpAny_pure ?_)
 try (have hv:[Value.int a t].any Value.onHeap=false:=rfl;simp only [cRoomFor,hv,Bool.false_eq_true,if_false,pure_bind])
 refine wpAny_bind (m:=callSpecialIfBound? (.int a t) (Str.ofString "__repr__")) (wpAny_callSpecialIfBound?_slot (name:=Str.ofString "__repr__") (typeIs_int s a t) F.slot_int_repr
  (zdR hn hl ?_))
 exact wpAny_pure ⟨_,rfl,wpAny_pure h1⟩
theorem zeY {Q:Value→Shared→Prop} (hn:s.heap.NoDigits) (hl:a.natAbs<10 ^ 4300) (h1:Q (.str (toString a) s.toks) { s with toks:=s.toks+1 }) :
  wpAny (model prog w) A (call (.type "str") [.int a t]) Q E s:=
 callType_new F.called_str (by decide) (F.typeCall_str_1 _) (F.newCall_str_1 _) (fun obj=>F.args_object_init_2 obj _) F.entry_str_new
  (meets_str_new (S:=fun A R s=>s.heap.NoDigits∧R (.ok (.ret (.str (toString a) s.toks))) { s with toks:=s.toks+1 })
   fun _ _ _ _ _ hq=>zdd hq.1 hl hq.2)
  ⟨hn,typeIs_str _ _ _,h1⟩
theorem zde {Q:Value→Shared→Prop} (hn:s.heap.NoDigits) (hl:a.natAbs<10 ^ 4300) (h1:Q (.str (toString a) (s.toks+1)) { s with toks:=s.toks+1+1 }) :
  wpAny (model prog w) A (formatField (.int a t) Str.empty) Q E s:=by
 show wpAny _ _ (holding [.int a t] (pyFormat (.int a t) Str.empty)) Q E s
 refine wpAny_holding ?_
 unfold pyFormat
 refine wpAny_bind (wpAny_mkStr ?_ (by decide))
 refine wpAny_bind (m:=callSpecial? (.int a t) (Str.ofString "__format__") [.str Str.empty s.toks]) (wpAny_callSpecial?_slot (name:=Str.ofString "__format__") (typeIs_int _ a t) slot_int_format ?_)
 refine wpAny_call (codeAny_call_builtin slot_int_format.plain entry_int_format (slot_int_format.check _ _ _ _ _ _ _ _ (typeIs_int _ a t) (args_int_format _ _) ?_))
 show wpAny _ _ (do let _kind ← typeNameOf (.str Str.empty s.toks);(do rule "int.format.empty";again (.builtin "int.__repr__" ⟨[.int a t],[]⟩))) _ _ _
 refine wpAny_bind (wpAny_typeNameOf (T:="str") (typeIs_str _ _ _) (by decide) fun _=>wpAny_bind (wpAny_rule (wpAny_pure ⟨plainId_quiet plain_int_repr _,?_⟩)))
 refine codeAny_builtin entry_int_repr ?_
 rw [Around.under_plainId plain_int_repr _]
 unfold Builtin.«int.__repr__»
 show wpAny _ _ (do let r ← Builtin.overDigitLimit? a;_) _ _ _
 refine wpAny_bind (overDigitLimit_any hn (fun hlt=>?_) (fun hge=>absurd hl (Nat.not_lt.mpr hge)))
 refine wpAny_bind (wpAny_mkStr (wpAny_pure ?_) (int_text_fits10 hlt))
 show wpAny _ _ (do if ← isInstance (.str (toString a) (s.toks+1)) (.type "str") then return (.str (toString a) (s.toks+1)) else _) Q E _
 exact wpAny_bind (wpAny_isInstance (typeIs_str _ _ _) isSubtype_str_str (wpAny_pure h1))
end
theorem zdS {M:Model}{A:Around}{E:Value→Shared→Prop}{s:Shared}{Q:Value→Shared→Prop}{v:Value}{text:List Nat}{n:Int} (hn:s.heap.NoDigits)
  (hs:¬(text.takeWhile (· != 0)).length≤640) (hr:(int_private% "readNumeral") 4300 10 (text.takeWhile (· != 0))=(int_private% "Numeral.value") n)
  (ha:((text.takeWhile (· != 0)).length == text.length)=true) (h:Q (.int n s.toks) { s with toks:=s.toks+1 }) :
  wpAny M A ((int_private% "intFromText") v text 10) Q E s:=by
 obtain⟨mc,hns,hnone⟩:=hn
 obtain⟨hp,g,d,tk,os⟩:=s
 have hlim:∀{Q:Nat→Shared→Prop},Q 4300 ⟨hp,g,d,tk,os⟩→wpAny M A Builtin.intMaxStrDigits Q E ⟨hp,g,d,tk,os⟩:=fun hq=>by
  unfold Builtin.intMaxStrDigits
  refine wpAny_bind (wpAny_nsGet hns ?_)
  rw [hnone]
  exact wpAny_pure hq
 repeat (any_goals (first
  | assumption
  | (with_reducible refine wpAny_ite_false (decide_eq_false hs) ?_)
  | (with_reducible refine wpAny_ite_true (decide_eq_true ha) ?_)
  | (with_reducible refine hlim ?_)
  | wp_step))
 all_goals (try rw [hr])
 all_goals (try dsimp only)
 repeat (any_goals (first
  | assumption
  | (with_reducible refine wpAny_ite_true (decide_eq_true ha) ?_)
  | wp_step))
set_option maxHeartbeats 4000000 in
theorem za9 {x : PySem.Str} {u : Tok} {n : Int} (hz : x.length ≤ sizeLine) (hn : PySem.intText? x = some n) : Meets (Builtin.«int.__new__» ⟨[.type "int", .str x u], []⟩) (fun A R s => s.heap.NoDigits ∧ (Made.int n).post (fun v s' => R (.ok (.ret v)) s') s) := by
  by_cases hl : (numSeenOf x).length ≤ 640
  · have hr : (int_private% "readNumeral") 0 10 (numSeenOf x) = (int_private% "Numeral.value") n ∧ ((numSeenOf x).length == (numTextOf x).length) = true := by
      rcases read0 x hl with ⟨m, h1, h2, h3⟩ | ⟨h1, _⟩
      · rw [hn] at h1
        injection h1 with h1
        subst h1
        exact ⟨h3, h2⟩
      · rw [hn] at h1
        cases h1
    refine .of_wp fun prog w A R s h => ?_
    obtain ⟨nd, h⟩ := h
    obtain ⟨hp, g, d, tk, os⟩ := s
    have f1 := F.conv_sub_int
    have f2 := F.madeHere_int
    have f3 := W.KIN.str_int
    have f4 := W.KIN.str_idx
    have f5 := W.KIN.str_trunc
    have f6 : typeOf (.str x u) = pure (.type "str") := rfl
    have hk := W.KIN.Hid.mk (And.intro hl hr)
    clear hl hr hn
    repeat (any_goals (first
      | assumption
      | ((with_reducible show wpAny _ _ ((int_private% "intFromText") _ _ _) _ _ _); refine W.KIN.wp_text hk.out.1 hk.out.2.1 hk.out.2.2 ?_)
      | wp_step))
    all_goals first | exact ⟨_, rfl, h⟩ | skip
  · have hr : (int_private% "readNumeral") 4300 10 (numSeenOf x) = (int_private% "Numeral.value") n ∧ ((numSeenOf x).length == (numTextOf x).length) = true := by
      rcases read4300 x hz with ⟨m, h1, h2, h3⟩ | ⟨h1, _⟩
      · rw [hn] at h1
        injection h1 with h1
        subst h1
        exact ⟨h3, h2⟩
      · rw [hn] at h1
        cases h1
    refine .of_wp fun prog w A R s h => ?_
    obtain ⟨nd, h⟩ := h
    obtain ⟨hp, g, d, tk, os⟩ := s
    have f1 := F.conv_sub_int
    have f2 := F.madeHere_int
    have f3 := W.KIN.str_int
    have f4 := W.KIN.str_idx
    have f5 := W.KIN.str_trunc
    have f6 : typeOf (.str x u) = pure (.type "str") := rfl
    have hk := W.KIN.Hid.mk (And.intro hl hr)
    have hnd := W.KIN.Hid.mk nd
    clear hl hr hn nd
    repeat (any_goals (first
      | assumption
      | ((with_reducible show wpAny _ _ ((int_private% "intFromText") _ _ _) _ _ _); refine zdS hnd.out hk.out.1 hk.out.2.1 hk.out.2.2 ?_)
      | wp_step))
    all_goals first | exact ⟨_, rfl, h⟩ | skip
section
variable {X:Cx}
theorem yx (hD:NoDig X.K):CallR X (.type "str") (fun xs H Q=>∃i,xs=[.int i]∧i.natAbs<10 ^ 4300∧Q (.str (toString i)) H):=by
 intro pins s σ H xs us Q I r h
 obtain⟨i,rfl,hl,q⟩:=h
 obtain⟨u,rfl,t,rfl⟩:=vals1 r
 exact zeY (hD _ I.kIn) hl ⟨.str _,H,I.tok _,⟨_,rfl⟩,q⟩
theorem qX (hD:NoDig X.K):CallR X (.type "int") (fun xs H Q=>∃x n,xs=[.str x]∧PySem.intText? x=some n∧x.length≤sizeLine∧Q (.int n) H):=by
 intro pins s σ H xs us Q I r h
 obtain⟨x,n,rfl,hn,hl,q⟩:=h
 obtain⟨u,rfl,t,rfl⟩:=vals1 r
 exact call_int_1 (za9 hl hn) ⟨hD _ I.kIn,show (Made.int n).post _ s from ⟨rfl,.int n,H,I.tok _,⟨_,rfl⟩,q⟩⟩
noncomputable def zjX (t:TE):TE:=fun σ H Q=>t σ H fun x H1=>∃i,x=.int i∧i.natAbs<10 ^ 4300∧Q (.str (toString i)) H1
theorem Kd {e:Expr}{t:TE}{pos:Pos} (hD:NoDig X.K) (h:PE X e t):PE X (.FormattedValue e (-1) none pos) (zjX t):=by
 intro pins s σ H Q I hw
 refine FormattedValue_plain (thn (h pins s σ H _ I hw) fun v s1 ⟨x,H1,I1,r1,q1⟩=>?_)
 obtain⟨i,rfl,hi,q⟩:=q1
 obtain⟨t',rfl⟩:=r1
 exact zde (hD _ I1.kIn) hi ⟨.str _,H1,I1.tok _,⟨_,rfl⟩,q⟩
end
end L2
namespace L2
open PySem PySem.Spec PyProof.Rows
noncomputable def zba (kvs:List (Key×V)):Prop:=∀p∈kvs,∃s:Str,p.1=Sum.inr s
theorem zcB {P:Program}{w:World}{s:Str}{u:Value} (h:(mixKind P w).is (Sum.inr s) u=true):∃t,u=.str s t:=by
 have h:keyIs (Sum.inr s) u=true:=h
 cases u <;> first
  | exact⟨_,by rw [show _=s from eq_of_beq h]⟩
  | cases h
noncomputable def ItD (d:Addr) (o:Obj) (kvs:List (Key×V)):It:=
  ⟨fun i H=>H d=some (.frz o (.dK kvs))∧i<kvs.length,
   fun i H v H'=>H'=H∧∃k x,kvs[i]?=some (k,x)∧v=kV k,
   fun i H=>H d=some (.frz o (.dK kvs))∧i=kvs.length⟩
theorem zdT {P:Program}{w:World}{H:Hp}{h:Heap}{d:Addr}{o:Obj}{kvs:List (Key×V)}{ep:Nat} (he:∃es,o.data=.dict es ep) (x:ObjOk P w H h d (.frz o (.dK kvs))):∃vs,KV kvs vs∧Heap.DictAt (mixKind P w) h d vs ep:=by
 obtain⟨e,_,_,vs,r,o',es,ep',q1,q2,q3,q4⟩:=x
 rw [e] at q1
 cases q1
 obtain⟨es',he⟩:=he
 rw [he] at q3
 cases q3
 exact⟨vs,r,o,es,e,q2,he,q4⟩
theorem zdf {P:Program}{w:World}{K:W.Frag}{tg:Expr} (it d:Addr) (o:Obj) (kvs:List (Key×V)) (ep:Nat) (he:∃es,o.data=.dict es ep) (ht:zba kvs) :
  Turn P w K tg (ItD d o kvs) [it] it (fun i h=>h.IsKeyIter it d i kvs.length ep) where
 mem:=by simp
 obj:=fun i h st b hb=>by
  have e:b=it:=by simpa using hb
  subst e
  obtain⟨o,e,c,d⟩:=st
  exact⟨o,e,fun v z=>by rw [d] at z;cases z⟩
 keep:=fun i h h' st k=>st.at fun o z=>k it (by simp) o z
 item:=by
  intro X hP hw hK hc i pins s σ H E I hf st hg
  subst hP hw hK
  obtain⟨hd,hi⟩:=hg
  obtain⟨f0,f1,f2,f3,f4,f5⟩:=hf it (by simp)
  obtain⟨vs,r,da⟩:=zdT he (I.hok d _ hd)
  have hl:=r.length
  have hx:kvs[i]?=some kvs[i]:=List.getElem?_eq_getElem hi
  have hv:vs[i]?=some (vs[i]'(by omega)):=List.getElem?_eq_getElem (by omega)
  have hk:(vs[i]'(by omega)).1=kvs[i].1:=by
   have:=congrArg (fun l=>l[i]?) r.keys
   simp only [List.getElem?_map,hx,hv,Option.map_some] at this
   exact(Option.some.inj this).symm
  refine wpAny_pyNext_dict_item (k:=(vs[i]'(by omega)).1) (v:=(vs[i]'(by omega)).2) (by rw [← hl];exact st) da hv fun key h' hkey st' sb=>?_
  have I1:Inv X pins σ H { s with heap:=h' }:=I.turned (t':=s.toks) (fun b o hb e=>(sb.2 b hb).trans e) f0 f1 f3 f4 f5
  obtain⟨o',e,cc,dd⟩:=id st'
  rw [← hl] at st'
  obtain⟨sx,es⟩:=ht kvs[i] (List.getElem_mem hi)
  rw [hk,es] at hkey
  obtain⟨t,rfl⟩:=zcB hkey
  exact⟨_,rfl,go_of (s:={ s with heap:=h' }) e cc dd (by decide) ⟨.str sx,H,I1,⟨t,rfl⟩,⟨rfl,kvs[i].1,kvs[i].2,hx,by rw [es];rfl⟩,st',fun b hb=>(hf b hb).1⟩⟩
 done:=by
  intro X hP hw hK hc i pins s σ H E I hf st hg
  subst hP hw hK
  obtain⟨f0,f1,f2,f3,f4,f5⟩:=hf it (by simp)
  obtain⟨hd,e⟩:=hg
  subst e
  obtain⟨vs,r,da⟩:=zdT he (I.hok d _ hd)
  have hl:=r.length
  exact wpAny_pyNext_dict_end (I.ok.hd hc) (by rw [← hl];exact st) da (List.getElem?_eq_none (by omega)) fun h' eb=>⟨rfl,I.turned (t':=s.toks) (fun b o hb e=>eb b o hb e) f0 f1 f3 f4 f5⟩
 self:=fun A i s Q E st h=>wpAny_pyIter_keyiter st h
theorem YT:∀{us:List Value}{ss:List Str},StrsAre us ss→Vals (ss.map V.str) us
 | _,_,.nil=>.nil
 | _,_,.cons y t r=>.cons ⟨t,rfl⟩ (YT r)
section
variable {X:Cx}
theorem Inv.freeze {pins:List (Addr×Obj)}{σ:St}{H:Hp}{s:Shared}{d:Addr}{o:Obj}{kvs:List (Key×V)} (I:Inv X pins σ H s) (hd:H d=some (.dK kvs)) (ho:s.heap.get? d=some o):Inv X pins σ (upd H d (.frz o (.dK kvs))) s:=by
 have ne:∀{b u},H b=some u→(∀q,u≠.dK q)→b≠d:=fun e z y=>by rw [y,hd] at e;cases e;exact z _ rfl
 have up:∀{b u},H b=some u→(∀q,u≠.dK q)→(upd H d (.frz o (.dK kvs))) b=some u:=fun e z=>by rw [upd_ne (ne e z)];exact e
 have:=I.step (H':=upd H d (.frz o (.dK kvs))) (h':=s.heap) (g':=s.gens) (d':=s.drawn) (t':=s.toks) (ch:=[]) (fun _ z=>nomatch z) (fun b o _ _ _ e _=>e) (fun b o _ _ _ e _=>⟨o.slots,e⟩) (fun b _ _ _ n=>by rw [upd_ne (fun y=>by rw [y,hd] at n;cases n)];exact n)
  (fun b o _ e=>⟨o,e⟩) (fun b xs e=>up e (fun _ z=>nomatch z)) (fun b o u e=>up e (fun _ z=>nomatch z)) (fun b ps e=>⟨#[],by rw [up e (fun _ z=>nomatch z)];simp⟩) (fun _ hm=>hm) (fun b u e=>?_) I.bare
 ·exact this
 ·by_cases hb:b=d
  ·subst hb
   rw [upd_same] at e
   cases e
   exact⟨ho,I.hok b _ hd⟩
  ·rw [upd_ne hb] at e
   exact(I.hok b u e).stay (fun c v _ q=>q) (fun c q=>up q (fun _ z=>nomatch z)) fun c w q=>up q (fun _ z=>nomatch z)
noncomputable def zjY (tl:TE):TI:=fun σ H R=>tl σ H fun x H1=>∃d kvs,x=.ref d∧H1 d=some (.dK kvs)∧zba kvs∧∀o,R (ItD d o kvs) (upd H1 d (.frz o (.dK kvs)))
theorem zeZ {tg l:Expr}{tl:TE} (hl:PE X l tl):PI X tg l (zjY tl):=by
 intro pins s σ H R I h
 refine thn (hl pins s σ H _ I h) fun v s1 ⟨x,H1,I1,r1,q1⟩=>?_
 obtain⟨d,kvs,rfl,hd,ht,q⟩:=q1
 cases r1
 obtain⟨_,hs,vs,r,dof⟩:=I1.hok d _ hd
 obtain⟨o,es,ep,ho,hx,hdt,h4⟩:=id dof
 have hl:=r.length
 have hlt:d<s1.heap.objs.size:=Heap.lt_size ho
 refine wpAny_pyIter_dict hs (knd:=mixKind X.prog X.w) (kvs:=vs) (ep:=ep) ⟨o,es,ho,hx,hdt,h4⟩ ?_
 refine⟨s1.heap.objs.size,[s1.heap.objs.size],_,_,_,rfl,(I1.freeze hd ho).kept (t':=s1.toks) fun b o e=>Heap.get?_push_of_some _ e,zdf _ d o kvs ep ⟨es,hdt⟩ ht,⟨_,Heap.get?_push_size _ rfl,rfl,by rw [hl];rfl⟩,fun b hb=>?_,q o⟩
 have e:b=s1.heap.objs.size:=by simpa using hb
 subst e
 exact I1.fpOk (Nat.le_refl _) (by rw [upd_ne (Nat.ne_of_gt hlt)];exact I1.hok.fresh (Nat.le_refl _))
theorem zdU {d:Addr}{o:Obj}{kvs:List (Key×V)}{g:TG}{tb:TS}{D:Ends}{σ:St}{H:Hp} (Pv:Nat→St→Hp→Prop) (h0:Pv 0 σ H) (hl:∀i σ H,Pv i σ H→H d=some (.frz o (.dK kvs)))
  (hs:∀i k x σ H,kvs[i]?=some (k,x)→Pv i σ H→g (kV k) σ H fun σ2 H2=>tb { D with nx:=Pv (i+1),ct:=Pv (i+1),bk:=D.nx } σ2 H2) (hd:∀σ H,Pv kvs.length σ H→D.nx σ H) :
  ∃W:Nat→Nat→St→Hp→Prop,(∃m,W 0 m σ H)∧∀i m σ H,W i m σ H →
   ((ItD d o kvs).stop i H∧D.nx σ H)∨((ItD d o kvs).go i H∧∃N:St→Hp→Prop,(∀σ' H',N σ' H'→∃m',m'<m∧W (i+1) m' σ' H')∧∀x H',(ItD d o kvs).yld i H x H'→g x σ H' fun σ2 H2=>tb { D with nx:=N,ct:=N,bk:=D.nx } σ2 H2):=by
 refine⟨fun i m σ H=>m=kvs.length-i∧i≤kvs.length∧Pv i σ H,⟨_,rfl,Nat.zero_le _,h0⟩,?_⟩
 rintro i m σ H ⟨rfl,hi,p⟩
 by_cases hlt:i<kvs.length
 ·refine .inr ⟨⟨hl i σ H p,hlt⟩,Pv (i+1),fun σ' H' p'=>⟨_,by omega,rfl,hlt,p'⟩,fun v H' y=>?_⟩
  obtain⟨e,k,x,hk,e2⟩:=y
  subst e e2
  exact hs i k x σ _ hk p
 ·have e:i=kvs.length:=by omega
  subst e
  exact .inl ⟨⟨hl _ σ H p,rfl⟩,hd σ H p⟩
theorem Wy (hc:X.calm=true):CallR X (.builtin "sorted") (fun xs H Q=>∃(d:Addr) (kvs:List (Key×V)),xs=[.ref d]∧H d=some (.dK kvs)∧zba kvs∧kvs.length<64∧∀(l:Addr) (ss:List Str),H l=none→(ss.map Sum.inr).Perm (kvs.map (·.1))→Q (.ref l) (upd H l (.lst (ss.map V.str)))):=by
  intro pins s σ H xs us Q I r h
  obtain⟨d,kvs,rfl,hd,ht,h64,q⟩:=h
  obtain⟨u,rfl,ru⟩:=vals1 r
  cases ru
  obtain⟨_,hs,vs,r,dof⟩:=I.hok d _ hd
  obtain⟨ep,da⟩:=dof.dictAt
  have hl:=r.length
  refine Calls.call_function_entry kind_sorted plain_sorted entry_sorted (args_sorted1 _) ?_
  unfold Builtin.«sorted»
  refine wpAny_bind (m:=checkCount "sorted" 1 1 _) (wpAny_pure ?_)
  refine wpAny_bind (W.kdu_collect (W.kdl_dict (knd:=mixKind X.prog X.w) (kvs:=vs) (ep:=ep) hs) (by show X.A.handled=none;exact I.ok.hd hc) da (by
       have h:(64:Nat)≤sizeLine:=by decide
       omega) fun h' tk acc k ia=>?_)
  have hal:acc.toList.length=kvs.length:=by rw [Array.length_toList,ia.1,hl]
  obtain⟨ss,hss,hkeys⟩:∃ss:List Str,StrsAre acc.toList ss∧ss.map Sum.inr=kvs.map (·.1):=by
    have key:∀(l:List Value) (ks:List (Key×V)),l.length=ks.length→zba ks→(∀(i:Nat) v,l[i]?=some v→∃p,ks[i]?=some p∧(mixKind X.prog X.w).is p.1 v=true)→∃ss:List Str,StrsAre l ss∧ss.map Sum.inr=ks.map (·.1):=by
      intro l
      induction l with
      | nil=>
        intro ks hl _ _
        cases ks with
        | nil=>exact⟨[],.nil,rfl⟩
        | cons _ _=>cases hl
      | cons v l ih=>
        intro ks hl ht hp
        cases ks with
        | nil=>cases hl
        | cons p ks=>
          obtain⟨p',e1,e2⟩:=hp 0 v rfl
          cases e1
          obtain⟨sx,es⟩:=ht p (List.mem_cons_self ..)
          rw [es] at e2
          obtain⟨t,rfl⟩:=zcB e2
          obtain⟨ss,i1,i2⟩:=ih ks (Nat.succ.inj hl) (fun z hz=>ht z (List.mem_cons_of_mem _ hz)) (fun i v hv=>hp (i+1) v hv)
          exact⟨sx::ss,.cons sx t i1,by rw [List.map_cons,List.map_cons,i2,es]⟩
    refine key _ _ hal ht fun i v hv=>?_
    rw [Array.getElem?_toList] at hv
    obtain⟨kk,x,h1,h2⟩:=ia.2 i v hv
    have hi:i<kvs.length:=by
      have:=(List.getElem?_eq_some_iff.mp h1).1
      omega
    have:=congrArg (fun l=>l[i]?) r.keys
    simp only [List.getElem?_map,h1,List.getElem?_eq_getElem hi,Option.map_some,Option.some.injEq] at this
    exact⟨kvs[i],List.getElem?_eq_getElem hi,by rw [this];exact h2⟩
  refine wpAny_bind (wpAny_newList ?_ (by
       have h:(64:Nat)≤sizeLine:=by decide
       omega))
  have hoL:(h'.push (seqObj "list" acc.toList.toArray 0)).get? h'.objs.size=some (seqObj "list" acc.toList.toArray 0):=Heap.get?_push_size _ rfl
  have I1:Inv X pins σ H { s with heap:=h',toks:=tk }:=I.kept k
  refine wpAny_bind (wpAny_holding (wpAny_call_entry slot_list_sort ⟨_,hoL,rfl⟩ entry_list_sort (list_sort_treeK strKind_oneLt hoL hss.keysOf (fun v1 v2 rest e=>keyKind_strs (e ▸ hss)) (by rw [hal];exact h64) fun st p1 p2=>⟨_,rfl,?_⟩) (args_list_sort _)))
  obtain⟨ss',a1,a2,a3⟩:=sorted_out_str hss p1 p2
  obtain⟨e,he⟩:=sortedHeap_at (out:=Array.map (fun x=>x.snd) (arrOf st)) hoL
  have hl':ss'.length=kvs.length:=by
    rw [a2.length_eq]
    have:=congrArg List.length hkeys
    simpa using this
  refine wpAny_pure ⟨_,rfl,.ref h'.objs.size,_,I1.laid (t':=tk) (fun b o hb=>?_) (Nat.le_refl _) (o:=.lst (ss'.map V.str)) ⟨by
       have h:(64:Nat)≤sizeLine:=by decide
       rw [List.length_map]
       omega,(Array.map (fun x=>x.snd) (arrOf st)).toList,e,YT a1,by rw [Array.toArray_toList];exact he⟩,rfl,q _ ss' (I1.hok.fresh (Nat.le_refl _)) (by rw [← hkeys];exact a2.map _)⟩
  have hlt:b<h'.objs.size:=Heap.lt_size hb
  rw [sortedHeap_old (Nat.ne_of_lt hlt) (by rw [size_push'];exact Nat.lt_succ_of_lt hlt)]
  exact Heap.get?_push_of_some _ hb
end
end L2
namespace L2
open PySem
section
variable {env:Env}{es:List Expr}
theorem zg {c:Const}{j:Nat}{p:Pos}:starEach (.Constant c j p::es) env=(false,eval (.Constant c j p) env)::starEach es env:=rfl
theorem zf {x:Str}{p:Pos}:starEach (.Name x p::es) env=(false,eval (.Name x p) env)::starEach es env:=rfl
theorem zW {a b:Expr}{o:Operator}{p:Pos}:starEach (.BinOp a o b p::es) env=(false,eval (.BinOp a o b p) env)::starEach es env:=rfl
theorem zu {f:Expr}{as:List Expr}{ks:List Keyword}{p:Pos}:starEach (.Call f as ks p::es) env=(false,eval (.Call f as ks p) env)::starEach es env:=rfl
theorem zy {a b:Expr}{p:Pos}:starEach (.Subscript a b p::es) env=(false,eval (.Subscript a b p) env)::starEach es env:=rfl
end
end L2
namespace L2
open PySem PyProof.Rows
structure KC (z TI TO i1 i2 l1:Addr):Prop where
 nd:([z,TI,TO,i1,i2]:List Addr).Nodup
 n1:l1 ∉ ([z,TO,i1,i2]:List Addr)
abbrev Ve (h:Heap) (i:Addr) (y:Str) (t:Tok) (k:Nat):Prop:=h.IsStrIter i "str_ascii_iterator" y t k
theorem Ve.at {h h':Heap}{i:Addr}{y:Str}{t:Tok}{k:Nat} (x:Ve h i y t k) (e:∀o,h.get? i=some o→h'.get? i=some o):Ve h' i y t k:=by
 obtain⟨o,q,r⟩:=x
 exact⟨o,e o q,r⟩
section
variable {P:Program}{w:World}{A:Around}{E:Value→Shared→Prop}{s:Shared}
theorem zdV {T:Addr}{a b x:Value}{k:Nat}{Q:Unit→Shared→Prop} (hT:IsPair s.heap T a b)
  (h:∀h',h'.get? T=some { cls:=.type "tuple",data:=.seq ((#[a,b]:Array Value).setIfInBounds k x) }→Heap.SameBut T s.heap h'→Q () { s with heap:=h' }) :
  wpAny (model P w) A (updateSeq T (·.setIfInBounds k x)) Q E s:=by
 refine wpAny_updateSeq hT rfl (h _ ?_ (Heap.SameBut.update ..))
 rw [Heap.get?_update_self _ hT rfl]
 simp [Obj.mapSeq]
theorem zb3 {z TI TO i1 i2 l1:Addr}{k c0:Nat}{xs:Array Value}{x a b:Value}{y:Str}{t:Tok}{Q:Value→Shared→Prop} (D:KC z TI TO i1 i2 l1)
  (hz:IsZip s.heap z TI TO .none) (hTI:IsPair s.heap TI (.ref i1) (.ref i2)) (hTO:IsPair s.heap TO a b)
  (h1:s.heap.IsListIter i1 l1 k) (h2:Ve s.heap i2 y t k) (hl1:s.heap.IsList l1 xs) (hx:xs[k]?=some x) (hy:y.cps[k]?=some c0)
  (hQ:∀h' u,IsZip h' z TI TO (rawInt s.heap.objs.size)→(∃a b,IsPair h' TO a b)→h'.IsListIter i1 l1 (k+1)→Ve h' i2 y t (k+1)→IsPair h' s.heap.objs.size x (.str ⟨#[c0]⟩ u) →
   (∀c o,c ∉ ([z,TO,i1,i2]:List Addr)→s.heap.get? c=some o→h'.get? c=some o)→Q (.ref s.heap.objs.size) { s with heap:=h',toks:=s.toks+1 }) :
  wpAny (model P w) A (Builtin.«zip.__next__» ⟨[.ref z],[]⟩) (fun fin s'=>∃v,fin=.done (.ret v)∧Q v s') E s:=by
 obtain⟨nd,n1⟩:=D
 simp only [List.nodup_cons,List.mem_cons,List.not_mem_nil,or_false,not_or,List.nodup_nil,and_true,not_false_eq_true] at nd n1
 obtain⟨⟨zTI,zTO,z1,z2⟩,⟨TITO,TI1,TI2⟩,⟨TO1,TO2⟩,e12⟩:=nd
 refine wpAny_bind (m:=field (.ref z) 2) (wpAny_field hz rfl (x:=.bool false) rfl ?_)
 refine wpAny_bind (m:=field (.ref z) 3) (wpAny_field hz rfl (x:=.ref TI) rfl ?_)
 refine wpAny_bind (wpAny_seqItems hTI rfl ?_)
 refine wpAny_bind (m:=Builtin.SmallTypes.ownedTupleIsFree (.ref z)) ?_
 unfold Builtin.SmallTypes.ownedTupleIsFree
 refine wpAny_bind (wpAny_field hz rfl (x:=.none) rfl (wpAny_pure ?_))
 simp only [if_true]
 refine wpAny_bind (wpAny_rule ?_)
 refine wpAny_bind (wpAny_field hz rfl (x:=.ref TO) rfl ?_)
 refine wpAny_bind (wpAny_setField_rec hz (by simp) fun g1 hz1 s1=>?_)
 have hz1:IsZip g1 z TI TO .ellipsis:=hz1
 refine wpAny_bind ?_
 simp only [List.zipIdx_cons,List.zipIdx_nil,List.forIn_cons,List.forIn_nil]
 refine wpAny_bind (wpAny_bind (wpAny_onRaise ?_))
 refine wpAny_bind (m:=Builtin.SmallTypes.nextOf (.ref i1)) (wpAny_nextOf_list_item (h1.extBut s1.extBut (Ne.symm z1)) (hl1.extBut s1.extBut n1.1) hx fun g2 q1 s2=>wpAny_pure ?_)
 have t2:IsPair g2 TO a b:=s2.extBut _ _ TO1 (s1.extBut _ _ (Ne.symm zTO) hTO)
 refine wpAny_bind (wpAny_seqItems t2 rfl ?_)
 refine wpAny_bind (zdV t2 fun g3 t3 s3=>?_)
 have t3:IsPair g3 TO x b:=t3
 refine wpAny_bind (wpAny_letGo (wpAny_pure ?_))
 refine wpAny_bind (wpAny_bind (wpAny_onRaise ?_))
 have h2':Ve g3 i2 y t k:=h2.at fun o e=>s3.extBut _ _ (Ne.symm TO2) (s2.extBut _ _ (Ne.symm e12) (s1.extBut _ _ (Ne.symm z2) e))
 refine wpAny_bind (m:=Builtin.SmallTypes.nextOf (.ref i2)) (wpAny_nextOf_ascii_item h2' hy fun g4 q2 s4=>wpAny_pure ?_)
 have t4:IsPair g4 TO x b:=s4.extBut _ _ TO2 t3
 refine wpAny_bind (wpAny_seqItems t4 rfl ?_)
 refine wpAny_bind (zdV t4 fun g5 t5 s5=>?_)
 have t5:IsPair g5 TO x (.str ⟨#[c0]⟩ s.toks):=t5
 refine wpAny_bind (wpAny_letGo (wpAny_pure (wpAny_pure ?_)))
 refine wpAny_bind (wpAny_seqItems t5 rfl ?_)
 refine wpAny_bind (wpAny_newTuple ?_)
 have hsz:g5.objs.size=s.heap.objs.size:=by rw [s5.1,s4.1,s3.1,s2.1,s1.1]
 have z5:IsZip g5 z TI TO .ellipsis:=s5.extBut _ _ zTO (s4.extBut _ _ z2 (s3.extBut _ _ zTO (s2.extBut _ _ z1 hz1)))
 have kp:∀c o,c ∉ ([z,TO,i1,i2]:List Addr)→s.heap.get? c=some o→g5.get? c=some o:=fun c o hc e=>by
  simp only [List.mem_cons,List.not_mem_nil,or_false,not_or] at hc
  obtain⟨c1,c2,c3,c4⟩:=hc
  exact s5.extBut _ _ c2 (s4.extBut _ _ c4 (s3.extBut _ _ c2 (s2.extBut _ _ c3 (s1.extBut _ _ c1 e))))
 have r1:g5.IsListIter i1 l1 (k+1):=((q1.extBut s3.extBut (Ne.symm TO1)).extBut s4.extBut e12).extBut s5.extBut (Ne.symm TO1)
 have r2:Ve g5 i2 y t (k+1):=Ve.at q2 fun o e=>s5.extBut _ _ (Ne.symm TO2) e
 have zlt:z<g5.objs.size:=Heap.lt_size z5
 refine wpAny_bind (m:=Builtin.SmallTypes.ownedTupleHandOut (.ref z) (.ref g5.objs.size)) ?_
 unfold Builtin.SmallTypes.ownedTupleHandOut
 have z8:IsZip (g5.push { cls:=.type "tuple",data:=.seq #[x,.str ⟨#[c0]⟩ s.toks] }) z TI TO .ellipsis:=Heap.get?_push_of_some _ z5
 refine wpAny_bind (wpAny_setField_rec z8 (by simp) fun g8 z9 s8=>?_)
 have z9:IsZip g8 z TI TO (rawInt g5.objs.size):=z9
 refine wpAny_setField_rec z9 (by simp) fun g9 za s9=>?_
 have za:IsZip g9 z TI TO (rawInt g5.objs.size):=za
 have up:∀c o,c≠z→g5.get? c=some o→g9.get? c=some o:=fun c o c1 e=>s9.extBut _ _ c1 (s8.extBut _ _ c1 (Heap.get?_push_of_some _ e))
 have tn:IsPair g9 g5.objs.size x (.str ⟨#[c0]⟩ s.toks):=s9.extBut _ _ (Nat.ne_of_gt zlt) (s8.extBut _ _ (Nat.ne_of_gt zlt) (Heap.get?_push_size _ rfl))
 rw [hsz] at za tn
 refine wpAny_pure ⟨_,rfl,?_⟩
 show Q (.ref g5.objs.size) _
 rw [hsz]
 exact hQ g9 s.toks za ⟨_,_,up _ _ (Ne.symm zTO) t5⟩ (r1.at fun o e=>up _ o (Ne.symm z1) e) (Ve.at r2 fun o e=>up _ o (Ne.symm z2) e) tn fun c o hc e=>up c o (fun q=>hc (by rw [q];simp)) (kp c o hc e)
theorem zdg {z TI TO i1 i2 l1:Addr}{k:Nat}{xs:Array Value}{Q:PySem.Fin→Shared→Prop} (hh:A.handled=none) (D:KC z TI TO i1 i2 l1)
  (hz:IsZip s.heap z TI TO .none) (hTI:IsPair s.heap TI (.ref i1) (.ref i2)) (h1:s.heap.IsListIter i1 l1 k) (hl1:s.heap.IsList l1 xs) (hx:xs[k]?=none)
  (hE:∀h' e,(∀c o,c ∉ ([z,TO,i1,i2]:List Addr)→s.heap.get? c=some o→h'.get? c=some o)→(∃o,h'.get? e=some o∧o.cls=.type "StopIteration")→E (.ref e) { s with heap:=h' }) :
  wpAny (model P w) A (Builtin.«zip.__next__» ⟨[.ref z],[]⟩) Q E s:=by
 obtain⟨nd,n1⟩:=D
 simp only [List.nodup_cons,List.mem_cons,List.not_mem_nil,or_false,not_or,List.nodup_nil,and_true,not_false_eq_true] at nd n1
 obtain⟨⟨zTI,zTO,z1,z2⟩,_⟩:=nd
 refine wpAny_bind (m:=field (.ref z) 2) (wpAny_field hz rfl (x:=.bool false) rfl ?_)
 refine wpAny_bind (m:=field (.ref z) 3) (wpAny_field hz rfl (x:=.ref TI) rfl ?_)
 refine wpAny_bind (wpAny_seqItems hTI rfl ?_)
 refine wpAny_bind (m:=Builtin.SmallTypes.ownedTupleIsFree (.ref z)) ?_
 unfold Builtin.SmallTypes.ownedTupleIsFree
 refine wpAny_bind (wpAny_field hz rfl (x:=.none) rfl (wpAny_pure ?_))
 simp only [if_true]
 refine wpAny_bind (wpAny_rule ?_)
 refine wpAny_bind (wpAny_field hz rfl (x:=.ref TO) rfl ?_)
 refine wpAny_bind (wpAny_setField_rec hz (by simp) fun g1 hz1 s1=>?_)
 have hz1:IsZip g1 z TI TO .ellipsis:=hz1
 refine wpAny_bind ?_
 simp only [List.zipIdx_cons,List.zipIdx_nil,List.forIn_cons,List.forIn_nil]
 refine wpAny_bind (wpAny_bind (wpAny_onRaise ?_))
 refine wpAny_bind (m:=Builtin.SmallTypes.nextOf (.ref i1)) (wpAny_nextOf_list_end hh (h1.extBut s1.extBut (Ne.symm z1)) (hl1.extBut s1.extBut n1.1) hx fun g2 e s2 he=>?_)
 obtain⟨oe,hoe,hce⟩:=he
 have z2':IsZip g2 z TI TO .ellipsis:=s2 _ _ z1 hz1
 have ez:e≠z:=fun x=>by subst x;rw [z2'] at hoe;cases hoe;simp at hce
 refine wpAny_setField_rec z2' (by simp) fun g3 _ s3=>hE g3 e (fun c o hc x=>?_) ⟨oe,s3.extBut _ _ ez hoe,hce⟩
 simp only [List.mem_cons,List.not_mem_nil,or_false,not_or] at hc
 exact s3.extBut _ _ hc.1 (s2 _ _ hc.2.2.1 (s1.extBut _ _ hc.1 x))
theorem zan {z TI TO i1 i2 l1:Addr}{k c0:Nat}{xs:Array Value}{x a b:Value}{y:Str}{t:Tok}{Q:Option Value→Shared→Prop} (D:KC z TI TO i1 i2 l1)
  (hz:IsZip s.heap z TI TO .none) (hTI:IsPair s.heap TI (.ref i1) (.ref i2)) (hTO:IsPair s.heap TO a b)
  (h1:s.heap.IsListIter i1 l1 k) (h2:Ve s.heap i2 y t k) (hl1:s.heap.IsList l1 xs) (hx:xs[k]?=some x) (hy:y.cps[k]?=some c0)
  (hQ:∀h' u,IsZip h' z TI TO (rawInt s.heap.objs.size)→(∃a b,IsPair h' TO a b)→h'.IsListIter i1 l1 (k+1)→Ve h' i2 y t (k+1)→IsPair h' s.heap.objs.size x (.str ⟨#[c0]⟩ u) →
   (∀c o,c ∉ ([z,TO,i1,i2]:List Addr)→s.heap.get? c=some o→h'.get? c=some o)→Q (some (.ref s.heap.objs.size)) { s with heap:=h',toks:=s.toks+1 }) :
  wpAny (model P w) A (pyNext (.ref z)) Q E s:=by
 have hT:s.TypeIs (.ref z) "zip":=⟨_,hz,rfl⟩
 unfold pyNext
 exact wpAny_bind (wpAny_attempt (wpAny_callSpecial?_slot (name:=Str.ofString "__next__") hT F.slot_zip_next (wpAny_call_entry F.slot_zip_next hT F.entry_zip_next
  (zb3 D hz hTI hTO h1 h2 hl1 hx hy fun h' u a1 a2 a3 a4 a5 a6=>wpAny_pure (hQ h' u a1 a2 a3 a4 a5 a6)) (F.args_zip_next_1 _))))
theorem zbb {z TI TO i1 i2 l1:Addr}{k:Nat}{xs:Array Value}{Q:Option Value→Shared→Prop} (hh:A.handled=none) (D:KC z TI TO i1 i2 l1)
  (hz:IsZip s.heap z TI TO .none) (hTI:IsPair s.heap TI (.ref i1) (.ref i2)) (h1:s.heap.IsListIter i1 l1 k) (hl1:s.heap.IsList l1 xs) (hx:xs[k]?=none)
  (hQ:∀h',(∀c o,c ∉ ([z,TO,i1,i2]:List Addr)→s.heap.get? c=some o→h'.get? c=some o)→Q none { s with heap:=h' }):wpAny (model P w) A (pyNext (.ref z)) Q E s:=by
 have hT:s.TypeIs (.ref z) "zip":=⟨_,hz,rfl⟩
 unfold pyNext
 refine wpAny_bind (wpAny_attempt (wpAny_callSpecial?_slot (name:=Str.ofString "__next__") hT F.slot_zip_next (wpAny_call_entry F.slot_zip_next hT F.entry_zip_next
  (zdg hh D hz hTI h1 hl1 hx fun h' e hk he=>?_) (F.args_zip_next_1 _))))
 obtain⟨o,ho,hc⟩:=he
 refine wpAny_bind (wpAny_isInstance (T:="StopIteration") (b:=true) ⟨o,ho,hc⟩ isSubtype_stop ?_)
 exact wpAny_pure (hQ _ hk)
end
theorem zdh (a b:Value):checkTypeCall "zip" ⟨[a,b],[]⟩=pure ():=by kernel_rfl
theorem zdW (a b:Value):checkBuiltinCall "zip.__new__" ⟨[.type "zip",a,b],[]⟩=pure ():=by kernel_rfl
theorem zdX (a b c:Value):argsOk "object.__init__" ⟨[a,b,c],[]⟩:=by
 unfold argsOk;rw [signature?_of (id:="object.__init__") (n:=['_','_','t','i','n','i','_','_']) (o:=['t','c','e','j','b','o']) (by kernel_rfl) F.owner_object];kernel_rfl
abbrev zlT (l:Addr):Obj:={ cls:=.type "list_iterator",data:=.fields #[.ref l,.int 0 0] }
abbrev zsT (y:Str) (t:Tok):Obj:={ cls:=.type "str_ascii_iterator",data:=.fields #[.str y t,.int 0 0] }
abbrev T2 (h:Heap) (l1:Addr) (y:Str) (t:Tok):Heap:=(h.push (zlT l1)).push (zsT y t)
abbrev T3 (h:Heap) (l1:Addr) (y:Str) (t:Tok):Heap:=(T2 h l1 y t).push { cls:=.type "tuple",data:=.seq #[.ref h.objs.size,.ref (h.push (zlT l1)).objs.size] }
abbrev T4 (h:Heap) (l1:Addr) (y:Str) (t:Tok):Heap:=(T3 h l1 y t).push { cls:=.type "tuple",data:=.seq #[.none,.none] }
abbrev T5 (h:Heap) (l1:Addr) (y:Str) (t:Tok):Heap:=(T4 h l1 y t).push { cls:=.type "zip",data:=.fields #[.none,.bool false,.bool false,.ref (T2 h l1 y t).objs.size,.ref (T3 h l1 y t).objs.size] }
theorem zb4 (l1:Addr) (xs:Array Value) (y:Str) (t:Tok) (ha:(y.cps.all fun x=>decide (x<128))=true) :
  Meets (Builtin.«zip.__new__» ⟨[.type "zip",.ref l1,.str y t],[]⟩) (fun _ R s=>s.heap.IsList l1 xs ∧
   R (.ok (.ret (.ref (T4 s.heap l1 y t).objs.size))) { s with heap:=T5 s.heap l1 y t }):=
 .of_wp fun prog w A R s h=>by
  obtain⟨hp,g,d,tk,os⟩:=s;obtain⟨hl1,h⟩:=h
  have hsub:=sub_zip
  have hL1:Heap.IsList (Shared.heap ⟨hp,g,d,tk,os⟩) l1 xs:=hl1
  wp_walk using wpAny_pyIter_list hL1,wpAny_pyIter_ascii ha
  exact⟨_,rfl,h⟩
section
variable {P:Program}{w:World}{A:Around}{E:Value→Shared→Prop}{s:Shared}
theorem zdi {l1:Addr}{xs:Array Value}{y:Str}{t:Tok}{Q:Value→Shared→Prop} (ha:(y.cps.all fun x=>decide (x<128))=true) (hl1:s.heap.IsList l1 xs)
  (h:∀h',IsZip h' (s.heap.objs.size+4) (s.heap.objs.size+2) (s.heap.objs.size+3) .none→IsPair h' (s.heap.objs.size+2) (.ref s.heap.objs.size) (.ref (s.heap.objs.size+1)) →
   IsPair h' (s.heap.objs.size+3) .none .none→h'.IsListIter s.heap.objs.size l1 0→Ve h' (s.heap.objs.size+1) y t 0 →
   (∀c o,s.heap.get? c=some o→h'.get? c=some o)→Q (.ref (s.heap.objs.size+4)) { s with heap:=h' }) :
  wpAny (model P w) A (call (.type "zip") [.ref l1,.str y t]) Q E s:=by
 refine callType_new F.called_zip (by decide) (zdh _ _) (zdW _ _) (fun obj=>zdX obj _ _) F.entry_zip_new (zb4 l1 xs y t ha) ⟨hl1,?_⟩
 have z1:(s.heap.push (zlT l1)).objs.size=s.heap.objs.size+1:=Heap.size_push ..
 have z2:(T2 s.heap l1 y t).objs.size=s.heap.objs.size+2:=by rw [Heap.size_push,z1]
 have z3:(T3 s.heap l1 y t).objs.size=s.heap.objs.size+3:=by rw [Heap.size_push,z2]
 have z4:(T4 s.heap l1 y t).objs.size=s.heap.objs.size+4:=by rw [Heap.size_push,z3]
 have up:∀{h:Heap}{c:Addr} {o o':Obj},h.get? c=some o→(h.push o').get? c=some o:=fun e=>Heap.get?_push_of_some _ e
 have k5:(T5 s.heap l1 y t).get? (T4 s.heap l1 y t).objs.size=some _:=Heap.get?_push_size _ rfl
 have k4:(T5 s.heap l1 y t).get? (T3 s.heap l1 y t).objs.size=some _:=up (Heap.get?_push_size _ rfl)
 have k3:(T5 s.heap l1 y t).get? (T2 s.heap l1 y t).objs.size=some _:=up (up (Heap.get?_push_size _ rfl))
 have k2:(T5 s.heap l1 y t).get? (s.heap.push (zlT l1)).objs.size=some _:=up (up (up (Heap.get?_push_size _ rfl)))
 have k1:(T5 s.heap l1 y t).get? s.heap.objs.size=some _:=up (up (up (up (Heap.get?_push_size _ rfl))))
 show _∧_
 rw [z2,z3,z4] at k5
 rw [z1,z2] at k3
 rw [z3] at k4
 rw [z1] at k2
 rw [z4]
 exact⟨⟨_,k5,rfl⟩,h _ k5 k3 k4 ⟨_,k1,rfl,rfl⟩ ⟨_,k2,rfl,rfl⟩ fun c o x=>up (up (up (up (up x))))⟩
end
end L2
namespace L2
open PySem PySem.Spec PyProof.Rows
noncomputable def zdY (K:W.Frag) (a:Addr) (y:Str):It:=
  ⟨fun i H=>∃xs x c,SqL K H a xs∧xs[i]?=some x∧y.cps[i]?=some c,
   fun i H v H'=>∃t,H t=none∧v=.ref t∧∀xs x c,SqL K H a xs→xs[i]?=some x→y.cps[i]?=some c→H'=upd H t (.tup [x,.str ⟨#[c]⟩]),
   fun i H=>∃xs,SqL K H a xs∧xs.length≤i⟩
theorem zdj {P:Program}{w:World}{K:W.Frag}{elts:List Expr}{x1:Nat}{tp:Pos} (l1 z TI TO i1 i2:Addr) (yy:Str) (tt:Tok) (D:KC z TI TO i1 i2 l1) :
  Turn P w K (.Tuple elts x1 tp) (zdY K l1 yy) [z,TI,TO,i1,i2] z (fun i h=>IsZip h z TI TO .none∧IsPair h TI (.ref i1) (.ref i2)∧(∃a b,IsPair h TO a b)∧h.IsListIter i1 l1 i∧Ve h i2 yy tt i) where
 mem:=by simp
 obj:=fun i h ⟨h1,h2,⟨a,b,h3⟩,h4,h5⟩ c hc=>by
  simp only [List.mem_cons,List.not_mem_nil,or_false] at hc
  rcases hc with e | e | e | e | e
  ·subst e;exact⟨_,h1,fun v q=>by have q':Data.fields _=Data.cell v:=q;cases q'⟩
  ·subst e;exact⟨_,h2,fun v q=>by have q':Data.seq _ _=Data.cell v:=q;cases q'⟩
  ·subst e;exact⟨_,h3,fun v q=>by have q':Data.seq _ _=Data.cell v:=q;cases q'⟩
  ·subst e
   obtain⟨o,ho,_,hd⟩:=h4
   exact⟨o,ho,fun v q=>by rw [hd] at q;cases q⟩
  ·subst e
   obtain⟨o,ho,_,hd⟩:=h5
   exact⟨o,ho,fun v q=>by rw [hd] at q;cases q⟩
 keep:=fun i h h' ⟨h1,h2,⟨a,b,h3⟩,⟨o4,e4,r4⟩,⟨o5,e5,r5⟩⟩ k=>
  ⟨k z (by simp) _ h1,k TI (by simp) _ h2,⟨a,b,k TO (by simp) _ h3⟩,⟨o4,k i1 (by simp) _ e4,r4⟩,⟨o5,k i2 (by simp) _ e5,r5⟩⟩
 item:=by
  intro X hP hw hK hc i pins s σ H E I hf ⟨h1,h2,⟨a,b,h3⟩,h4,h5⟩ ⟨xs,x,c0,q1,hx,hy⟩
  subst hP hw hK
  obtain⟨it1,v1,p1,_⟩:=I.list q1
  obtain⟨u1,e1,r1⟩:=v1.get hx
  have nd:=D.nd
  simp only [List.nodup_cons,List.mem_cons,List.not_mem_nil,or_false,not_or,List.nodup_nil,and_true,not_false_eq_true] at nd
  obtain⟨⟨zTI,zTO,z1,z2⟩,⟨TITO,TI1,TI2⟩,_⟩:=nd
  refine zan D h1 h2 h3 h4 h5 p1.isList (by simpa using e1) hy fun h' u g1 g3 g4 g5 gT k=>?_
  refine⟨_,rfl,wpAny_letOwnedTupleGo_zip g1 fun h'' g1' sb=>?_⟩
  have hzT:s.heap.objs.size≠z:=Nat.ne_of_gt (Heap.lt_size h1)
  have gT':IsTup h'' s.heap.objs.size [u1,.str ⟨#[c0]⟩ u].toArray:=⟨_,sb.extBut _ _ hzT gT,rfl,_,rfl⟩
  have hlz:∀{c:Addr}{o:Obj},c≠z→h'.get? c=some o→h''.get? c=some o:=fun hcz e=>sb.extBut _ _ hcz e
  refine⟨.ref s.heap.objs.size,upd H s.heap.objs.size (.tup [x,.str ⟨#[c0]⟩]),I.turnsT (ch:=[z,TO,i1,i2]) (t':=s.toks+1) (fun c hcm=>hf c (by simp only [List.mem_cons,List.not_mem_nil,or_false] at hcm ⊢;rcases hcm with e | e | e | e <;> simp [e])) (fun c o hcn e=>?_) (Nat.le_refl _) (.cons r1 (.cons ⟨u,rfl⟩ .nil)) gT' (by show 2≤sizeLine;decide),rfl,
   ⟨_,I.hok.fresh (Nat.le_refl _),rfl,fun xs' x' c' w1 w2 w3=>?_⟩,⟨g1',hlz (Ne.symm zTI) (k TI _ (by simp only [List.mem_cons,List.not_mem_nil,or_false,not_or];exact⟨Ne.symm zTI,TITO,TI1,TI2⟩) h2),?_,?_,?_⟩,fun c hcm=>?_⟩
  ·exact hlz (fun q=>hcn (by rw [q];simp)) (k c o hcn e)
  ·have a1:=I.list_inj w1 q1
   subst a1
   rw [hx] at w2
   rw [hy] at w3
   cases w2;cases w3
   rfl
  ·obtain⟨a',b',g3⟩:=g3
   exact⟨a',b',hlz (Ne.symm zTO) g3⟩
  ·obtain⟨o,e,r⟩:=g4
   exact⟨o,hlz (Ne.symm z1) e,r⟩
  ·obtain⟨o,e,r⟩:=g5
   exact⟨o,hlz (Ne.symm z2) e,r⟩
  ·obtain⟨o,e,_⟩:∃o,s.heap.get? c=some o∧True:=by
    simp only [List.mem_cons,List.not_mem_nil,or_false] at hcm
    rcases hcm with e | e | e | e | e
    ·subst e;exact⟨_,h1,trivial⟩
    ·subst e;exact⟨_,h2,trivial⟩
    ·subst e;exact⟨_,h3,trivial⟩
    ·subst e;obtain⟨o,ho,_⟩:=h4;exact⟨o,ho,trivial⟩
    ·subst e;obtain⟨o,ho,_⟩:=h5;exact⟨o,ho,trivial⟩
   rw [upd_ne (Nat.ne_of_lt (Heap.lt_size e))]
   exact(hf c hcm).1
 done:=by
  intro X hP hw hK hc i pins s σ H E I hf ⟨h1,h2,⟨a,b,h3⟩,h4,h5⟩ ⟨xs,q1,hend⟩
  subst hP hw hK
  obtain⟨it1,v1,p1,_⟩:=I.list q1
  have l1:=v1.length
  refine zbb (I.ok.hd hc) D h1 h2 h4 p1.isList (by simp;omega) fun h' k=>⟨rfl,I.turns (ch:=[z,TO,i1,i2]) (t':=s.toks) (fun c hcm=>hf c (by simp only [List.mem_cons,List.not_mem_nil,or_false] at hcm ⊢;rcases hcm with e | e | e | e <;> simp [e])) fun c o hcn e=>k c o hcn e⟩
 self:=fun _ _ _ _ _ st h=>wpAny_pyIter_zip st.1 h
section
variable {X:Cx}
noncomputable def zjZ (K:W.Frag) (ta:TA):TI:=fun σ H R=>ta σ H fun vs H1=>∃a y xs,vs=[.ref a,.str y]∧(y.cps.all fun x=>decide (x<128))=true∧SqL K H1 a xs∧R (zdY K a y) H1
theorem ze0 {a b:Expr}{ta:TA}{p pos:Pos}{elts:List Expr}{x1:Nat}{tp:Pos} (hg:Gl X "zip") (hm:X.mg "zip"=none) (ha:PA X [a,b] ta) (hs:starEach [a,b] X.env=(false,eval a X.env)::starEach [b] X.env:=by rfl) (hs2:(backTo pos (starEach [b] X.env)).any (·.1)=false:=by rfl) :
  PI X (.Tuple elts x1 tp) (.Call (.Name "zip" p) [a,b] [] pos) (zjZ X.K ta):=by
 intro pins s σ H R I h
 refine Call_ (ld_blt I hg hm zjR (PyProof.Rows.callWith_type1 (thn (ha pos pins s σ H _ I h) fun us s1 ⟨vs,H1,I1,r1,q1⟩=>?_) hs hs2))
 obtain⟨l1,y,xs,e,hy,q1,q⟩:=q1
 subst e
 obtain⟨u1,u2,rfl,w1,w2⟩:=vals2 r1
 cases w1
 obtain⟨t,rfl⟩:=w2
 obtain⟨it1,v1,p1,_⟩:=I1.list q1
 have hl1:@LT.lt Nat _ l1 s1.heap.objs.size:=by obtain⟨_,_,e,_⟩:=p1;exact Heap.lt_size e
 refine zdi hy p1.isList fun h' g1 g2 g3 g4 g5 k=>?_
 refine wpAny_pyIter_zip g1 ?_
 have ne:l1 ∉ ([s1.heap.objs.size+4,s1.heap.objs.size+3,s1.heap.objs.size,s1.heap.objs.size+1]:List Addr):=fun hm=>by
  simp only [List.mem_cons,List.not_mem_nil,or_false] at hm
  rcases hm with e | e | e | e <;> (have e':@Eq Nat _ _:=e;omega)
 have nd:([s1.heap.objs.size+4,s1.heap.objs.size+2,s1.heap.objs.size+3,s1.heap.objs.size,s1.heap.objs.size+1]:List Addr).Nodup:=by
  simp only [List.nodup_cons,List.mem_cons,List.not_mem_nil,or_false,not_or,List.nodup_nil,and_true,not_false_eq_true]
  refine⟨⟨?_,?_,?_,?_⟩,⟨?_,?_,?_⟩,⟨?_,?_⟩,?_⟩ <;> (intro z;have z':@Eq Nat _ _:=z;omega)
 refine⟨s1.heap.objs.size+4,[s1.heap.objs.size+4,s1.heap.objs.size+2,s1.heap.objs.size+3,s1.heap.objs.size,s1.heap.objs.size+1],_,_,H1,rfl,I1.kept (t':=s1.toks) k,
  zdj l1 _ _ _ _ _ y t ⟨nd,ne⟩,⟨g1,g2,⟨_,_,g3⟩,g4,g5⟩,fun c hcm=>?_,q⟩
 have hc:s1.heap.objs.size≤c:=by
  simp only [List.mem_cons,List.not_mem_nil,or_false] at hcm
  rcases hcm with e | e | e | e | e <;> (rw [e];first | exact Nat.le_refl _ | exact Nat.le_add_right _ _)
 exact I1.fpOk hc (I1.hok.fresh hc)
end
theorem zdZ {K:PySem.W.Frag}{a:Addr}{xs:List V}{y:Str}{g:TG}{tb:TS}{D:Ends}{σ:St}{H:Hp} (Pv:Nat→St→Hp→Prop) (hy:xs.length=y.cps.size) (h0:Pv 0 σ H) (hl:∀i σ H,Pv i σ H→SqL K H a xs)
  (hs:∀i x c t σ H,xs[i]?=some x→y.cps[i]?=some c→Pv i σ H→H t=none→g (.ref t) σ (upd H t (.tup [x,.str ⟨#[c]⟩])) fun σ2 H2=>tb { D with nx:=Pv (i+1),ct:=Pv (i+1),bk:=D.nx } σ2 H2) (hd:∀σ H,Pv xs.length σ H→D.nx σ H) :
  ∃W:Nat→Nat→St→Hp→Prop,(∃m,W 0 m σ H)∧∀i m σ H,W i m σ H →
   ((zdY K a y).stop i H∧D.nx σ H)∨((zdY K a y).go i H∧∃N:St→Hp→Prop,(∀σ' H',N σ' H'→∃m',m'<m∧W (i+1) m' σ' H')∧∀x H',(zdY K a y).yld i H x H'→g x σ H' fun σ2 H2=>tb { D with nx:=N,ct:=N,bk:=D.nx } σ2 H2):=by
 refine⟨fun i m σ H=>m=xs.length-i∧i≤xs.length∧Pv i σ H,⟨_,rfl,Nat.zero_le _,h0⟩,?_⟩
 rintro i m σ H ⟨rfl,hi,p⟩
 have q1:=hl i σ H p
 by_cases hlt:i<xs.length
 ·have h2:i<y.cps.size:=by omega
  have e1:xs[i]?=some xs[i]:=List.getElem?_eq_getElem hlt
  have e2:y.cps[i]?=some y.cps[i]:=Array.getElem?_eq_getElem h2
  refine .inr ⟨⟨xs,xs[i],y.cps[i],q1,e1,e2⟩,Pv (i+1),fun σ' H' p'=>⟨_,by omega,rfl,hlt,p'⟩,fun v H3 ⟨t,ht,hv,hy⟩=>?_⟩
  have e:=hy xs xs[i] y.cps[i] q1 e1 e2
  subst hv e
  exact hs i _ _ t σ H e1 e2 p ht
 ·have e:i=xs.length:=by omega
  subst e
  exact .inl ⟨⟨xs,q1,Nat.le_refl _⟩,hd σ H p⟩
structure WE (X:Cx) (e:Expr) (t:TE):Prop where
 h:PE X e t
structure WA (X:Cx) (es:List Expr) (t:TA):Prop where
 h:PA X es t
structure WT (X:Cx) (e:Expr) (t:TT):Prop where
 h:PT X e t
structure WS (X:Cx) (st:Stmt) (t:TS):Prop where
 h:PS X st t
structure WSs (X:Cx) (b:List Stmt) (t:TS):Prop where
 h:PSs X b t
structure WP (X:Cx) (pos:Pos) (ks:List (Option Expr)) (vs:List Expr) (trs:List (TE×TE)):Prop where
 h:PPs X pos ks vs trs
section
variable {X:Cx}{e a b o:Expr}{es:List Expr}{te ta tb to:TE}{t:TA}{u v:TS}{st:Stmt}{rest:List Stmt}{pos:Pos}
theorem Je {D:Ends}{σ:St}{H:Hp} (h:WSs X rest u) (k:u D σ H):∃t,PSs X rest t∧t D σ H:=⟨u,h.h,k⟩
theorem zT:WSs X [] tNext:=⟨pss_nil⟩
theorem zp (h1:WS X st u) (h2:WSs X rest v):WSs X (st::rest) (tSeq u v):=⟨pss_cons h1.h h2.h⟩
theorem zx (h1:WS X st u):WSs X [st] u:=⟨pss_one h1.h⟩
theorem jc {c:Expr}{x y:List Stmt}{tc:TT} (hc:WT X c tc) (ha:WSs X x u) (hb:WSs X y v):WS X (.If c x y pos) (tIfS tc u v):=⟨ps_if hc.h ha.h hb.h⟩
theorem qd (he:WE X e te):WS X (.Return (some e) pos) (tRet te):=⟨ps_ret he.h⟩
theorem qF {i:Nat}{x:Str} {pos':Pos} (hN:X.N.Nodup) (hi:X.N[i]?=some x) (hx:L2.Loc X.env.scope x) (he:WE X e te) (hs:swapsWith e (some (.Name x pos')) pos.line X.env=pure false:=by rfl) (hl:X.fn x=true∨X.env.scope.names.lookup x=some .local:=by first | exact .inl rfl | exact .inr rfl | assumption):WS X (.Assign [.Name x pos'] e pos) (tAsg te (gName i)):=⟨ps_set hN hi hx he.h hs hl⟩
theorem Zk (he:WE X e te) (hs:swapsWith e none pos.line X.env=pure false:=by rfl):WS X (.Expr e pos) (tDrop te):=⟨ps_expr he.h hs⟩
theorem zcC {tg iter:Expr}{body:List Stmt}{wi:TI}{g:TG}{tb:TS} (hp:PassesOwn (model X.prog X.w) X.A X.env X.xe) (hc:X.calm=true) (hi:PI X tg iter wi) (hg:PG X tg g) (hb:WSs X body tb) (hs:∀x,foldedSetIterable iter X.env x=pure x:=by intro _;rfl):WS X (.For tg iter body [] pos) (tFor wi g tb):=⟨ps_for hp hc hi hg hb.h hs⟩
theorem zq {x:Str}{j:Nat}:WE X (.Constant (.str x) j pos) (tC (.str x)):=⟨pe_str⟩
theorem xf (h:WA X es t):WE X (.List es pos) (tLst t):=⟨pe_lst h.h⟩
theorem Ji {x1} (h:WA X es t):WE X (.Tuple es x1 pos) (tTup t):=⟨pe_tup h.h⟩
theorem Zm {r:R2} (hr:IxR X r) (ha:WE X a ta) (hb:WE X b tb) (hs:PlainIx b):WE X (.Subscript a b pos) (tOp r ta tb):=⟨pe_ix hr ha.h hb.h hs⟩
theorem zX {op:Operator}{r:R2} (ho:OpR X (binaryOp op) r) (ha:WE X a ta) (hb:WE X b tb):WE X (.BinOp a op b pos) (tOp r ta tb):=⟨pe_op ho ha.h hb.h⟩
theorem zm:WA X [] tNil:=⟨pa_nil⟩
theorem zc (ha:WE X e te) (hr:WA X es t) (hs:starEach (e::es) X.env=(false,eval e X.env)::starEach es X.env:=by rfl):WA X (e::es) (tCons te t):=⟨pa_cons ha.h hr.h hs⟩
theorem jk {op:CmpOp}{r:R2} (ho:OpR X (compareOp op) r) (ha:WE X a ta) (hb:WE X b tb) (hm:behindInMarks op b=false):WT X (.Compare a [op] [b] pos) (tTest (tOp r ta tb)):=⟨pt_cmpR ho ha.h hb.h hm⟩
theorem zd0 {op:CmpOp}{r:R2} (ho:OpR X (compareOp op) r) (ha:WE X a ta) (hb:WE X b tb) (hm:behindInMarks op b=false):WE X (.Compare a [op] [b] pos) (tOp r ta tb):=⟨pe_cmpR ho ha.h hb.h hm⟩
theorem zfX {i:Expr}{td ty:TE} (hu:X.A.units+1<cLine) (ho:WE X o td) (hi:WE X i ty) (hs:NoSl i):WE X (.Subscript o i pos) (tDGet td ty):=⟨pe_dget hu ho.h hi.h hs⟩
theorem zd1:WP X pos [] [] []:=⟨pps_nil⟩
theorem Xz {k v:Expr}{ks:List (Option Expr)}{vs:List Expr}{tk tv:TE}{trs:List (TE×TE)} (hk:WE X k tk) (hv:WE X v tv) (hr:WP X pos ks vs trs):WP X pos (some k::ks) (v::vs) ((tk,tv)::trs):=⟨pps_cons hk.h hv.h hr.h⟩
theorem zd2 {ks:List (Option Expr)}{vs:List Expr}{trs:List (TE×TE)} (h:WP X pos ks vs trs) (hall:ks.all (·.isSome)=true) (hl:ks.length=vs.length) (h0:ks≠[]) (h15:ks.length≤15):WE X (.Dict ks vs pos) (tDisp trs):=⟨pe_disp h.h hall hl h0 h15⟩
theorem vV {k:Nat}{x:Str}{ps:List Str}{sp:Sp}{p:Pos} (F:Fn X.prog X.w X.K X.mg X.base k x ps sp) (hr:Room k X.A) (hg:Gl X x) (ha:WA X (e::es) t) (hdb:(x == ("__debug__":Str))=false:=by decide) (hs:starEach (e::es) X.env=(false,eval e X.env)::starEach es X.env:=by rfl) (hs2:(backTo pos (starEach es X.env)).any (·.1)=false:=by rfl):WE X (.Call (.Name x p) (e::es) [] pos) (tFn sp t):=⟨qm F hr hg ha.h hdb hs hs2⟩
theorem yC {x:Str}{p:Pos}{T:String}{r:List V→Hp→VK→Prop} (hc:CallR X (.type T) r) (hg:Gl X x) (hm:X.mg x=none) (hv:bootBuiltins x=some (.type T)) (ha:WA X (e::es) t) (hn:x≠"__name__":=by decide) (hdb:(x == ("__debug__":Str))=false:=by decide) (hs:starEach (e::es) X.env=(false,eval e X.env)::starEach es X.env:=by rfl) (hs2:(backTo pos (starEach es X.env)).any (·.1)=false:=by rfl):WE X (.Call (.Name x p) (e::es) [] pos) (tCB r t):=⟨pe_callTy hc hg hm hv ha.h hn hdb hs hs2⟩
theorem yj {x:Str}{p:Pos}{id:String}{r:List V→Hp→VK→Prop} (hc:CallR X (.builtin id) r) (hg:Gl X x) (hm:X.mg x=none) (hv:bootBuiltins x=some (.builtin id)) (ha:WA X (e::es) t) (hn:x≠"__name__":=by decide) (hdb:(x == ("__debug__":Str))=false:=by decide) (hs:starEach (e::es) X.env=(false,eval e X.env)::starEach es X.env:=by rfl) (hs2:(backTo pos (starEach es X.env)).any (·.1)=false:=by rfl):WE X (.Call (.Name x p) (e::es) [] pos) (tCB r t):=⟨pe_callB hc hg hm hv ha.h hn hdb hs hs2⟩
theorem QD {name:Str}{apos:Pos}{T id:String}{r:V→List V→Hp→VK→Prop} (pa:PlainAttrs T) (slot:Slot T name id) (hty:typeOf (.builtin id)=pure (.type "method_descriptor")) (hm:MtR X id r) (ho:WE X o to) (ha:WA X (e::es) t)
  (hb:attributeBase o name X.env (eval o X.env)=eval o X.env:=by rfl) (h2:((backTo pos (starEach (e::es) X.env)).all (fun x=>!x.1) && (backToKw pos (keywordEach [] X.env)).all (fun x=>x.1.isSome) && decide ((e::es).length+([]:List Keyword).length+(if ([]:List Keyword).isEmpty=true then 0 else 1)<30))=true:=by rfl) (h3:(apos.endLine == pos.line)=true:=by rfl) (hs:starEach (e::es) X.env=(false,eval e X.env)::starEach es X.env:=by rfl) (hs2:(backTo pos (starEach es X.env)).any (·.1)=false:=by rfl):WE X (.Call (.Attribute o name apos) (e::es) [] pos) (tBM X.K T r to t):=⟨pe_bm pa slot hty hm ho.h ha.h hb h2 h3 hs hs2⟩
end
end L2
namespace Bw
open PySem L2
open Builtin.Int (intBits)
variable {P:Program}{w:World}{K:W.Frag}{mg:Str→Option Value}{base:Heap}
def top (i:Nat):Stmt:=PySem.Challenge.pw_bellwrite_k93_orders_read.main.body.getD i (.Pass ⟨0,0,0,0⟩)
abbrev ZP:Stmt:=top 1
abbrev Vf:Stmt:=top 2
abbrev wH:Stmt:=top 3
abbrev vo:Stmt:=top 4
abbrev xg:Stmt:=top 5
abbrev Vg:Stmt:=top 16
abbrev wI:Stmt:=top 17
abbrev Z6:Stmt:=top 18
abbrev vp:Stmt:=top 19
abbrev je:Stmt:=top 20
abbrev vq:Stmt:=top 22
abbrev Zn:Stmt:=top 23
abbrev QF:Stmt:=top 25
abbrev Zo:Stmt:=top 27
abbrev qR:Stmt:=top 28
abbrev yD:Stmt:=top 29
abbrev zao:Stmt:=top 30
abbrev yE:Stmt:=top 32
abbrev KD:Stmt:=top 33
abbrev Jz:Stmt:=top 34
abbrev vW:Stmt:=top 36
abbrev zap:Stmt:=top 37
abbrev yF:Stmt:=top 38
abbrev yG:Stmt:=top 43
abbrev JB:Stmt:=top 44
abbrev KH:Stmt:=top 45
abbrev xQ:Stmt:=top 46
abbrev zaq:Stmt:=top 47
abbrev QG:Stmt:=top 48
abbrev qY:Stmt:=top 49
abbrev xj:Stmt:=top 57
abbrev yH:Stmt:=top 58
abbrev xm:Stmt:=top 59
abbrev vz:Stmt:=top 60
abbrev xq:Stmt:=top 61
abbrev wJ:Stmt:=top 62
abbrev wK:Stmt:=top 63
abbrev jL:Stmt:=top 64
abbrev xr:Stmt:=top 65
abbrev wL:Stmt:=top 69
abbrev Zq:Stmt:=top 70
abbrev jM:Stmt:=top 71
abbrev jf:Stmt:=top 72
abbrev xu:Stmt:=top 74
abbrev vA:Stmt:=top 75
abbrev vB:Stmt:=top 76
abbrev jN:Stmt:=top 77
abbrev jF:Stmt:=top 78
abbrev xx:Stmt:=top 79
abbrev jG:Stmt:=top 80
abbrev xF:Stmt:=top 81
abbrev jH:Stmt:=top 82
abbrev qT:Stmt:=top 83
abbrev wM:Stmt:=top 84
abbrev xG:Stmt:=top 85
abbrev jg:Stmt:=top 86
abbrev wN:Stmt:=top 87
abbrev vC:Stmt:=top 88
abbrev vD:Stmt:=top 89
abbrev vG:Stmt:=top 90
abbrev Vh:Stmt:=top 91
abbrev qZ:Stmt:=inClass (top 67) 0
abbrev jq:Stmt:=inClass (top 68) 0
abbrev jr:Stmt:=inClass (top 68) 1
abbrev jt:Stmt:=inClass (top 68) 2
abbrev ju:Stmt:=inClass (top 68) 3
abbrev qK:Stmt:=inClass (top 68) 4
abbrev qj:Stmt:=inClass (top 68) 5
abbrev jw:Stmt:=inClass (top 68) 6
structure Own (K:W.Frag) (zM zB:Addr):Prop where
 c_Frame:Cls K zM
 n_Frame_turns:NoAttr K zM "turns"
 n_Frame_bells:NoAttr K zM "bells"
 n_Frame_late:NoAttr K zM "late"
 n_Frame_frames:NoAttr K zM "frames"
 c_Desk:Cls K zB
 n_Desk_turns:NoAttr K zB "turns"
 n_Desk_bells:NoAttr K zB "bells"
 n_Desk_late:NoAttr K zB "late"
 n_Desk_frames:NoAttr K zB "frames"
 d_Frame_init:∃f,za4 K "__init__" "Frame.__init__" qZ ["self","turns","bells","late"] f∧Mk K zM f
 d_Desk_init:∃f,za4 K "__init__" "Desk.__init__" jq ["self"] f∧Mk K zB f
 d_Desk_told:∃f,za4 K "told" "Desk.told" jr ["self","order"] f∧Meth K zB "told" f
 d_Desk_keep:∃f,za4 K "keep" "Desk.keep" jt ["self","words"] f∧Meth K zB "keep" f
 d_Desk_ring:∃f,za4 K "ring" "Desk.ring" ju ["self","words"] f∧Meth K zB "ring" f
 d_Desk_listen:∃f,za4 K "listen" "Desk.listen" qK ["self","words"] f∧Meth K zB "listen" f
 d_Desk_send_note:∃f,za4 K "send_note" "Desk.send_note" qj ["self","words"] f∧Meth K zB "send_note" f
 d_Desk_kept:∃f,za4 K "kept" "Desk.kept" jw ["self","name"] f∧Meth K zB "kept" f
structure Txt (K:W.Frag) (mg:Str→Option Value):Prop where
 z_range:mg "range"=none
 z_isinstance:mg "isinstance"=none
 z_int:mg "int"=none
 zar:mg "bool"=none
 z_len:mg "len"=none
 zas:mg "list"=none
 zcD:mg "max"=none
 z_min:mg "min"=none
 z_enumerate:mg "enumerate"=none
 z_sorted:mg "sorted"=none
 zcE:mg "sum"=none
 z_all:mg "all"=none
 z_str:mg "str"=none
 z_zip:mg "zip"=none
 z_ValueError:mg "ValueError"=none
noncomputable def cellOf (ns:List Int) (k:Int):Int:=ns.getD k.toNat 0
structure zj0 (row:List Int):Prop where
 inc:row.Pairwise (· < ·)
 nn:∀x∈row,0≤x
 sz:∀x∈row,x<2 ^ 200
noncomputable def zd3 (ns:List Int) (lo hi:Option Int):List Int:=(ns.drop (HT.sIx ns.length 0 lo)).take (HT.sIx ns.length ns.length hi-HT.sIx ns.length 0 lo)
theorem ze1 (ns:List Int) (lo hi:Option Int):cutV (ns.map V.int) lo hi=(zd3 ns lo hi).map V.int:=by
 unfold cutV zd3
 rw [List.length_map,List.map_take,List.map_drop]
abbrev bmV:List Value:=[.type "ValueError",.type "Exception",.type "BaseException",.type "object"]
theorem zb5 {P:Program}{w:World}{K:W.Frag}{mg:Str→Option Value}{base:Heap}{k:Nat}{x:Str}{ps:List Str}{sp:Sp} (F:FnE P w K mg base k x ps sp):Fn P w K mg base k x ps (fun vs H Q _=>sp vs H Q E0):=by
 obtain⟨f,fd,F,kp,b,m⟩:=F
 refine⟨f,fd,⟨fun vs H Q _ h=>F.len vs H Q E0 h,fun A outer s H args us vs Q E hr e0 hb r h=>codeAny_mono (F.run A outer s H args us vs Q E0 hr e0 hb r h) fun rr s' q=>?_⟩,kp,b,m⟩
 cases rr with
 | ok fl=>cases fl <;> exact q
 | error e=>
  obtain⟨_,_,_,_,_,_,_,_,_,_,_,_,z⟩:=q
  exact False.elim z
section
noncomputable def ze2:Sp:=fun vs H Q _=>∃c k:Int,vs=[.int c,.int k]∧intBits k≤100∧∀d:Int,0≤d→d<2 ^ 61→Q (.int d) H
theorem Zr:FnScope ["cell","k","number"] ["cell","k"] (defScope xu):=⟨rfl,rfl,rfl,by decide +kernel,rfl,by decide +kernel,by decide +kernel⟩
theorem zj1 (D:Def K mg "_law_drawn" xu ["cell","k"]):Fn P w K mg base 1 "_law_drawn" ["cell","k"] ze2:=by
 refine D.fn Zr (fun vs H Q E h=>?_) (fun f cdv A outer s H vs Q E hr h=>?_)
 ·obtain⟨c,k,rfl,_⟩:=h
  rfl
 ·obtain⟨c,k,rfl,kb,q⟩:=h
  refine⟨_,(pss_cons (ps_set (i:=2) Zr.nd rfl (Or.inl rfl) (pe_op zR (pe_op yf (pe_op qg (pe_op qg (pe_op zR (pv 0) (pe_op zeK pe_int pe_int)) (pe_op yf pe_int (pv 1))) pe_int) pe_int) pe_int))
   (pss_cons (ps_set (i:=2) Zr.nd rfl (Or.inl rfl) (pe_op zR (pe_op yf (pv 2) (pv 2)) pe_int))
   (pss_one (ps_ret (pe_op qO (pe_op zR (pe_op qg (pe_op yf (pv 2) pe_int) (pe_op yf (pv 1) (pv 1))) pe_int) pe_int))))),?_⟩
  have p40:(0:Int)<10 ^ (40:Int).toNat:=by decide
  have l40:(10:Int) ^ (40:Int).toNat<2 ^ 140:=by decide
  have c0:=Int.emod_nonneg c (show (10:Int) ^ (40:Int).toNat≠0 by decide)
  have c1:=Int.emod_lt_of_pos c p40
  have cb:intBits (c % 10 ^ (40:Int).toNat)≤140:=qP c0 (Int.lt_trans c1 l40)
  have kb7:intBits (7*k)≤103:=intBits_mul_le (m:=3) (n:=100) (by decide) kb
  have b1:intBits (c % 10 ^ (40:Int).toNat+7*k+1)≤142:=zO (intBits_add_le (m:=141) (n:=1) (zO (intBits_add_le cb kb7) (by decide)) (by decide)) (by decide)
  refine⟨_,rfl,_,_,rfl,rfl,⟨by decide,by decide,by decide⟩,_,_,rfl,rfl,p40,_,rfl,_,_,rfl,rfl,⟨3,100,by decide,kb,by decide⟩,_,_,rfl,rfl,_,_,rfl,rfl,_,_,rfl,rfl,⟨142,40,b1,by decide,by decide⟩,_,_,rfl,rfl,(by decide),?_⟩
  have n0:=Int.emod_nonneg ((c % 10 ^ (40:Int).toNat+7*k+1)*2654435769) (show (2305843009213693951:Int)≠0 by decide)
  have n1:=Int.emod_lt_of_pos ((c % 10 ^ (40:Int).toNat+7*k+1)*2654435769) (show (0:Int)<2305843009213693951 by decide)
  generalize (c % 10 ^ (40:Int).toNat+7*k+1)*2654435769 % 2305843009213693951=number at n0 n1 ⊢
  have nb:intBits number≤62:=qP n0 (by omega)
  refine⟨_,rfl,_,rfl,_,_,rfl,rfl,⟨62,62,nb,nb,by decide⟩,_,_,rfl,rfl,(by decide),?_⟩
  have m0:=Int.emod_nonneg (number*number) (show (2305843009213693951:Int)≠0 by decide)
  have m1:=Int.emod_lt_of_pos (number*number) (show (0:Int)<2305843009213693951 by decide)
  generalize number*number % 2305843009213693951=num at m0 m1 ⊢
  have mb:intBits num≤62:=qP m0 (by omega)
  have r0:=Int.emod_nonneg (num*40503+k*k) (show (2305843009213693951:Int)≠0 by decide)
  have r1:=Int.emod_lt_of_pos (num*40503+k*k) (show (0:Int)<2305843009213693951 by decide)
  refine⟨_,rfl,_,_,rfl,rfl,⟨62,20,mb,by decide,by decide⟩,_,rfl,_,rfl,_,_,rfl,rfl,⟨100,100,kb,kb,by decide⟩,_,_,rfl,rfl,_,_,rfl,rfl,(by decide),_,_,rfl,rfl,⟨by decide,by decide⟩,q _ ?_ ?_⟩
  ·omega
  ·omega
end
section
noncomputable def spLaw (K:W.Frag):Sp:=fun vs H Q _=>∃(a:Addr) (ns:List Int),vs=[.ref a]∧SqL K H a (ns.map V.int)∧ns.length≤63∧∀H',Q (.bl true) H'
end
section
theorem Q9:FnScope ["n","k","ways","taken"] ["n","k"] (defScope ZP):=⟨rfl,rfl,rfl,by decide +kernel,rfl,by decide +kernel,by decide +kernel⟩
theorem zdk (D:Def K mg "choose" ZP ["n","k"]) (T:Txt K mg):Fn P w K mg base 1 "choose" ["n","k"] QB:=by
 refine D.fn Q9 (fun vs H Q E h=>?_) (fun f cdv A outer s H vs Q E hr h=>?_)
 ·obtain⟨n,k,rfl,_⟩:=h
  rfl
 ·obtain⟨n,k,rfl,hn,hk,hk2,hb,q⟩:=h
  refine⟨_,(pss_cons (ps_if (pt_cmpR Qx (pv 1) (pv 0) (nomark _))
    (pss_one (ps_ret pe_int))
    pss_nil)
   (pss_cons (ps_set (i:=2) Q9.nd rfl (Or.inl rfl) pe_int)
   (pss_cons (ps_for PassesOwn.never rfl (pi_range1 (by rfl) T.z_range (pa_cons (pv 1) pa_nil)) (pg_name (i:=3) Q9.nd rfl (Or.inl rfl))
    (pss_one (ps_set (i:=2) Q9.nd rfl (Or.inl rfl) (pe_op qO (pe_op yf (pv 2) (pe_op vh (pv 0) (pv 3))) (pe_op qg (pv 3) pe_int)))))
   (pss_one (ps_ret (pv 2)))))),?_⟩
  refine⟨_,rfl,_,rfl,_,_,rfl,rfl,_,rfl,?_⟩
  refine ite2 (fun h=>?_) (fun h=>?_)
  ·have h':n<k:=of_decide_eq_true h
   have e:=Xq hn h'
   rw [e] at q
   exact q
  ·have h':¬n<k:=fun z=>h (decide_eq_true z)
   refine⟨_,rfl,k,rfl,by omega,by omega,for_range (n:=k.toNat) (fun i σ H'=>∃v,σ=[some (.int n),some (.int k),some (.int (ch n i)),v]∧H'=H) ⟨none,?_,rfl⟩ ?_ ?_⟩
   ·have e:=Xr n
    show _=[some (V.int n),some (V.int k),some (V.int (ch n 0)),none]
    rw [e]
    rfl
   ·rintro i σ H' hi ⟨v,rfl,rfl⟩
    have hi':(i:Int)<k:=by omega
    refine⟨_,rfl,_,rfl,_,rfl,_,_,rfl,rfl,_,_,rfl,rfl,?_,_,rfl,_,_,rfl,rfl,_,_,rfl,rfl,?_,?_⟩
    ·refine⟨100000*i+1,100000,zcz hb hn,?_,by omega⟩
     exact intBits_le_of_natAbs (by omega) hb
    ·exact⟨by omega,qP (by omega) (by omega)⟩
    ·have e:=zeP (n:=n) (i:=i) (by omega)
     have e0:(0:Int)+(i:Int)=(i:Int):=by omega
     refine⟨some (.int (0+(i:Int))),?_,rfl⟩
     rw [e0,e]
     rfl
   ·rintro σ H' ⟨v,rfl,rfl⟩
    refine⟨_,rfl,?_⟩
    have e:((k.toNat:Nat):Int)=k:=by omega
    rw [e]
    exact q
end
section
theorem Jj:FnScope ["number","divisor"] ["number","divisor"] (defScope xg):=⟨rfl,rfl,rfl,by decide +kernel,rfl,by decide +kernel,by decide +kernel⟩
theorem Wz (D:Def K mg "rounded_up" xg ["number","divisor"]) (hP:P.given.tree=none):Fn P w K mg base 36 "rounded_up" ["number","divisor"] zag:=by
 refine D.fn Jj (fun vs H Q E h=>?_) (fun f cdv A outer s H vs Q E hr h=>?_)
 ·obtain⟨n,k,rfl,_⟩:=h
  rfl
 ·obtain⟨a,b,rfl,hb,q⟩:=h
  refine⟨_,(pss_one (ps_ret (pe_op (zaS (zdC hP Jj hr)) (pe_op vh (pe_op qg (pv 0) (pv 1)) pe_int) (pv 1)))),?_⟩
  exact⟨_,rfl,_,rfl,_,_,rfl,rfl,_,_,rfl,rfl,_,rfl,_,_,rfl,rfl,hb,q⟩
theorem vH:FnScope ["k","number","product","factor","figures"] ["k","number"] (defScope vo):=⟨rfl,rfl,rfl,by decide +kernel,rfl,by decide +kernel,by decide +kernel⟩
theorem zat (D:Def K mg "above_top" vo ["k","number"]) (T:Txt K mg) (Z7:Fn P w K mg base 36 "rounded_up" ["number","divisor"] zag):Fn P w K mg base 37 "above_top" ["k","number"] zcy:=by
 refine D.fn vH (fun vs H Q E h=>?_) (fun f cdv A outer s H vs Q E hr h=>?_)
 ·obtain⟨n,k,rfl,_⟩:=h
  rfl
 ·obtain⟨k,number,rfl,k1,k60,n0,nb,q⟩:=h
  refine⟨_,(pss_cons (ps_set (i:=2) vH.nd rfl (Or.inl rfl) (pv 1))
   (pss_cons (ps_for PassesOwn.never rfl (pi_range2 (by rfl) T.z_range (pa_cons pe_int (pa_cons (pe_op qg (pv 0) pe_int) pa_nil))) (pg_name (i:=3) vH.nd rfl (Or.inl rfl))
    (pss_one (ps_set (i:=2) vH.nd rfl (Or.inl rfl) (pe_op yf (pv 2) (pv 3)))))
   (pss_cons (ps_set (i:=4) vH.nd rfl (Or.inl rfl) (qm Z7 (hr.mono (by decide)) (by rfl) (pa_cons (pe_bm0 PySem.F.plainAttrs_int PySem.F.slot_int_bit_length PySem.F.type_int_bit_length Wu (pv 2)) (pa_cons (pv 0) pa_nil))))
   (pss_one (ps_ret (pe_op vh (pe_op qg (pe_op zeL pe_int (pv 4)) (pv 0)) pe_int)))))),?_⟩
  have ek:((k.toNat:Nat):Int)=k:=by omega
  have pb:∀i:Nat,(i:Int)≤60→intBits (number*fac i)≤50000+(7*i+1):=fun i hi=>intBits_mul_le nb (za1 i (by omega))
  refine⟨_,rfl,_,rfl,_,_,rfl,rfl,1,k+1,rfl,⟨by omega,by omega,by omega,by omega⟩,for_range (lo:=1) (n:=(k+1-1).toNat) (fun i σ H2=>∃v,σ=[some (.int k),some (.int number),some (.int (number*fac i)),v,none]∧H2=H) ⟨none,?_,rfl⟩ ?_ ?_⟩
  ·show _=[some (V.int k),some (V.int number),some (V.int (number*1)),none,none]
   rw [Int.mul_one]
   rfl
  ·rintro i σ H2 hi ⟨v,rfl,rfl⟩
   have hi':(i:Int)<k:=by omega
   refine⟨_,rfl,_,rfl,_,_,rfl,rfl,⟨_,64,pb i (by omega),qP (by omega) (by omega),by omega⟩,some (.int (1+(i:Int))),?_,rfl⟩
   rw [Kv,← Int.mul_assoc,Int.add_comm (i:Int) 1]
   rfl
  ·rintro σ H2 ⟨v,rfl,rfl⟩
   have en:(k+1-1).toNat=k.toNat:=by omega
   rw [en]
   have pk:=pb k.toNat (by omega)
   have hsz:=intBits_le_iff.mp (Nat.le_refl (intBits (number*fac k.toNat)))
   refine⟨_,rfl,rfl,_,rfl,rfl,_,rfl,_,_,rfl,by omega,?_⟩
   generalize hbn:intBits (number*fac k.toNat)=b at pk hsz ⊢
   have d1:=Int.mul_ediv_add_emod ((b:Int)+k-1) k
   have d2:=Int.emod_nonneg ((b:Int)+k-1) (show k≠0 by omega)
   have d3:=Int.emod_lt_of_pos ((b:Int)+k-1) (show 0<k by omega)
   have f0:0≤((b:Int)+k-1) / k:=Int.ediv_nonneg (by omega) (by omega)
   have f1:((b:Int)+k-1) / k≤(b:Int)+k-1:=Int.ediv_le_self _ (by omega)
   generalize ((b:Int)+k-1) / k=fg at d1 f0 f1 ⊢
   generalize ((b:Int)+k-1) % k=r at d1 d2 d3
   refine⟨_,rfl,_,_,rfl,rfl,⟨f0,by omega,by decide⟩,_,rfl,_,_,rfl,rfl,_,_,rfl,rfl,?_⟩
   have ef:((fg.toNat:Nat):Int)=fg:=by omega
   have hp:(0:Int)<2 ^ fg.toNat:=Int.pow_pos (by decide)
   have ab:=zfQ (F:=fg.toNat) (b:=b) k1 n0 hsz (by rw [ef,Int.mul_comm];omega)
   have e1:(1:Int)*2 ^ fg.toNat=2 ^ fg.toNat:=Int.one_mul _
   rw [e1]
   refine q _ (by omega) ab ?_
   have hb2:intBits ((2:Int) ^ fg.toNat)≤fg.toNat+1:=by
    refine intBits_le_iff.mpr ?_
    rw [Int.natAbs_pow]
    exact Nat.pow_lt_pow_right (by decide) (by omega)
   refine zO (intBits_sub_le (m:=50600) (n:=64) (zO (intBits_add_le (m:=50599) (n:=64) (zO hb2 (by omega)) (qP (by omega) (by omega))) (by decide)) (by decide)) (by decide)
theorem zd4 (n k:Nat):(k+1)*C (n+1) (k+1)=(n+1)*C n k:=by
 have h:=zae n k
 rw [Zj,Nat.mul_add,Nat.add_mul,Nat.add_mul,Nat.one_mul,Nat.one_mul,Nat.add_mul n 1,Nat.one_mul]
 rw [Nat.add_mul] at h
 omega
theorem zdl {t k:Int} (hk:1≤k) (ht:1≤t):ch t k*k / t=ch (t-1) (k-1):=by
 obtain⟨j,hj⟩:∃j:Nat,k=(j:Int)+1:=⟨(k-1).toNat,by omega⟩
 obtain⟨m,hm⟩:∃m:Nat,t=(m:Int)+1:=⟨(t-1).toNat,by omega⟩
 subst hj hm
 have e1:ch ((m:Int)+1) ((j:Int)+1)=(C (m+1) (j+1):Nat):=by
  rw [show ((m:Int)+1)=((m+1:Nat):Int) by omega,show ((j:Int)+1)=((j+1:Nat):Int) by omega,Jy]
 have e2:ch ((m:Int)+1-1) ((j:Int)+1-1)=(C m j:Nat):=by
  rw [show ((m:Int)+1-1)=((m:Nat):Int) by omega,show ((j:Int)+1-1)=((j:Nat):Int) by omega,Jy]
 rw [e1,e2]
 have a:=zd4 m j
 have a':((C (m+1) (j+1):Nat):Int)*((j:Int)+1)=((m:Int)+1)*((C m j:Nat):Int):=by
  rw [Int.mul_comm]
  exact_mod_cast a
 rw [a']
 exact Int.mul_ediv_cancel_left _ (by omega)
noncomputable def YW:Sp:=fun vs H Q _=>∃start k number:Int,vs=[.int start,.int k,.int number]∧1≤k∧k≤60∧0≤number∧k-1≤start∧number<ch (start+1) k∧intBits start≤60000∧∀t:Int,za0 k number t→intBits t≤60000→Q (.int t) H
theorem jl:FnScope ["start","k","number","top","ways","most_off","step"] ["start","k","number"] (defScope wH):=⟨rfl,rfl,rfl,by decide +kernel,rfl,by decide +kernel,by decide +kernel⟩
theorem zbc (D:Def K mg "top_from" wH ["start","k","number"]) (xH:Fn P w K mg base 1 "choose" ["n","k"] QB) (Z7:Fn P w K mg base 36 "rounded_up" ["number","divisor"] zag) (hP:P.given.tree=none) :
  Fn P w K mg base 37 "top_from" ["start","k","number"] YW:=by
 refine D.fn jl (fun vs H Q E h=>?_) (fun f cdv A outer s H vs Q E hr h=>?_)
 ·obtain⟨a,n,k,rfl,_⟩:=h
  rfl
 ·obtain⟨t0,k,number,rfl,k1,k60,n0,t1,t2,t3,q⟩:=h
  refine⟨_,(pss_cons (ps_set (i:=3) jl.nd rfl (Or.inl rfl) (pv 0))
   (pss_cons (ps_set (i:=4) jl.nd rfl (Or.inl rfl) (qm xH (hr.mono (by decide)) (by rfl) (pa_cons (pv 3) (pa_cons (pv 1) pa_nil))))
   (pss_cons (ps_while PassesOwn.never (pt_cmpR Qx (pv 4) (pv 2) (nomark _))
    (pss_cons (ps_set (i:=5) jl.nd rfl (Or.inl rfl) (pe_op (zaS (zdC hP jl (hr.mono (by decide)))) (pe_op yf (pv 4) (pv 1)) (pv 3)))
    (pss_cons (ps_set (i:=6) jl.nd rfl (Or.inl rfl) (qm Z7 (hr.mono (by decide)) (by rfl) (pa_cons (pe_op vh (pv 4) (pv 2)) (pa_cons (pv 5) pa_nil))))
    (pss_cons (ps_set (i:=3) jl.nd rfl (Or.inl rfl) (pe_op vh (pv 3) (pv 6)))
    (pss_one (ps_set (i:=4) jl.nd rfl (Or.inl rfl) (pe_ifExp (pt_cmpR jd (pv 6) pe_int (nomark _)) (pe_op vh (pv 4) (pv 5)) (qm xH (hr.mono (by decide)) (by rfl) (pa_cons (pv 3) (pa_cons (pv 1) pa_nil))))))))))
   (pss_one (ps_ret (pv 3)))))),?_⟩
  refine⟨_,rfl,_,rfl,_,rfl,t0,k,rfl,by omega,by omega,by omega,zO t3 (by decide),?_⟩
  refine while_by (fun σ H2=>∃t v v',σ=[some (.int t0),some (.int k),some (.int number),some (.int t),some (.int (ch t k)),v,v']∧H2=H∧k-1≤t∧number<ch (t+1) k∧intBits t≤60000)
   (fun σ _=>match σ with | [_,_,_,some (.int t),_,_,_]=>t.toNat | _=>0) ⟨t0,none,none,rfl,rfl,t1,t2,t3⟩ ?_ ?_
  ·rintro σ H2 ⟨t,v,v',rfl,rfl,u1,u2,u3⟩
   refine⟨_,rfl,_,rfl,_,_,rfl,rfl,_,rfl,ifD (fun h=>?_) (fun h=>?_)⟩
   ·obtain⟨a1,a2,a3,a4,a5⟩:=zbS k1 n0 (by omega) h _ rfl
    have wb:intBits (ch t k)≤60000*60+1:=by
     have:=zcz (k:=k.toNat) u3 (by omega)
     rw [show ((k.toNat:Nat):Int)=k by omega] at this
     exact zO this (Nat.add_le_add_right (Nat.mul_le_mul_left _ (by omega)) _)
    refine⟨_,rfl,_,rfl,_,_,rfl,rfl,⟨_,64,wb,qP (by omega) (by omega),by decide⟩,_,rfl,_,_,rfl,rfl,by omega,?_⟩
    rw [zdl k1 (by omega)]
    have sb:ch (t-1) k=ch t k-ch (t-1) (k-1):=by
     have:=zaf (n:=t-1) (k:=k-1) (by omega) (by omega)
     rw [show t-1+1=t by omega,show k-1+1=k by omega] at this
     omega
    refine⟨_,rfl,_,rfl,_,_,rfl,rfl,_,rfl,ch t k-number,ch (t-1) (k-1),rfl,a2,?_⟩
    generalize (ch t k-number+ch (t-1) (k-1)-1) / ch (t-1) (k-1)=d at a3 a4 a5 ⊢
    have tb:intBits (t-d)≤60000:=intBits_le_of_natAbs (y:=t) (by omega) u3
    refine⟨_,rfl,_,rfl,_,_,rfl,rfl,_,rfl,_,_,rfl,rfl,_,rfl,ifD (fun e=>?_) (fun e=>?_)⟩
    ·subst e
     refine⟨_,rfl,_,rfl,_,_,rfl,rfl,⟨t-1,_,_,by rw [sb];rfl,rfl,a4,a5,tb⟩,?_⟩
     show (t-1).toNat<t.toNat
     omega
    ·refine⟨_,rfl,_,rfl,t-d,k,rfl,by omega,by omega,by omega,zO tb (by decide),?_⟩
     refine⟨⟨t-d,_,_,rfl,rfl,a4,a5,tb⟩,?_⟩
     show (t-d).toNat<t.toNat
     omega
   ·refine⟨_,rfl,q t ⟨u1,by omega,u2⟩ u3⟩
  ·intro σ H2 R R' m h
   obtain⟨v,e1,u,e2,i,j,e3,e4,b,e5,z⟩:=h
   exact⟨v,e1,u,e2,i,j,e3,e4,b,e5,m _ _ z⟩
end
noncomputable def ZQ (late:Int) (bs:List Int):List Int:=(List.range bs.length).map fun i=>bs.getD i 0*(late+1)+(i:Int)
theorem XC (late:Int) (ns:List Int):(ZQ late ns).length=ns.length:=by unfold ZQ;simp
theorem zdm {late:Int}{ns:List Int}{i:Nat}{x:Int} (h:ns[i]?=some x):(ZQ late ns)[i]?=some (x*(late+1)+(i:Int)):=by
 have hi:=(List.getElem?_eq_some_iff.mp h).1
 unfold ZQ
 rw [List.getElem?_map,List.getElem?_range hi]
 simp [List.getD_eq_getElem?_getD,h]
theorem zb6 {late:Int}{ns:List Int}{i:Nat}{y:Int} (h:(ZQ late ns)[i]?=some y):∃x,ns[i]?=some x∧y=x*(late+1)+(i:Int):=by
 have hi:=(List.getElem?_eq_some_iff.mp h).1
 rw [XC] at hi
 have g:=zdm (late:=late) (List.getElem?_eq_getElem hi)
 rw [g] at h
 exact⟨_,List.getElem?_eq_getElem hi,(Option.some.inj h).symm⟩
structure ze3 (bs:List Int):Prop where
 inc:bs.Pairwise (·≤·)
 nn:∀x∈bs,0≤x
 sz:∀x∈bs,x<2 ^ 200
noncomputable def Szs (m:Nat) (ns:List Int):Prop:=∀x∈ns,intBits x≤m
theorem ze3.szs {bs:List Int} (h:ze3 bs):Szs 200 bs:=fun x hx=>qP (h.nn x hx) (h.sz x hx)
theorem zj0.szs {bs:List Int} (h:zj0 bs):Szs 200 bs:=fun x hx=>qP (h.nn x hx) (h.sz x hx)
section
end
section
noncomputable def YX (K:W.Frag):Sp:=fun vs H Q _=>∃(a:Addr) (ns:List Int) (late:Int),vs=[.ref a,.int late]∧SqL K H a (ns.map V.int)∧ns.length≤1000∧intBits late≤8000∧Szs 70000 ns ∧
 ∀(p:Addr) (H':Hp),Same H H'→H p=none→H' p=some (.lst ((ZQ late ns).map V.int))→Q (.ref p) H'
theorem zbd:FnScope ["box","late"] ["box","late"] (defScope wI):=⟨rfl,rfl,rfl,by decide +kernel,rfl,by decide +kernel,by decide +kernel⟩
theorem zbe (D:Def K mg "bell_row" wI ["box","late"]) (T:Txt K mg):Fn P w K mg base 1 "bell_row" ["box","late"] (YX K):=by
 refine D.fn zbd (fun vs H Q E h=>?_) (fun f cdv A outer s H vs Q E hr h=>?_)
 ·obtain⟨a,ns,late,rfl,_⟩:=h
  rfl
 ·obtain⟨a,ns,late,rfl,hA,hl,lb,hz,q⟩:=h
  refine⟨_,(pss_one (ps_ret (Z2 (own:=["place","part"]) (fr:=["late"]) (ix:=[1]) rfl ⟨rfl,rfl,rfl,rfl,rfl,rfl⟩ (zdJ (by rfl) T.z_enumerate (pa_cons (pv 0) pa_nil zf)) (fun _ _ _ _ _=>(zeO K (n:=2) rfl (pgs_cons (pg_name (i:=0) (show (["place","part","late"]:List Str).Nodup by decide +kernel) rfl (Or.inl rfl)) (pgs_cons (pg_name (i:=1) (show (["place","part","late"]:List Str).Nodup by decide +kernel) rfl (Or.inl rfl)) pgs_nil)))) (fun _ _ _ _ _=>kW) (fun _ _ _ _ _=>(pe_op qg (pe_op yf (pv 1) (pe_op qg (pv 2) pe_int)) (pv 0)))))),?_⟩
  have lb1:intBits (late+1)≤9000:=zO (intBits_add_le (m:=8000) (n:=1) lb (by decide)) (by decide)
  refine⟨_,rfl,a,_,rfl,hA,fun acc hacc=>zbV (K:=K) (a:=a) (xs:=ns.map V.int) (fun i=>V.int (ns.getD i 0*(late+1)+(i:Int))) hA hacc ?_ ?_ ?_⟩
  ·rw [List.length_map];exact Nat.le_of_lt (small1000 hl)
  ·intro i x t H2 R hx sm ht hR
   rw [List.getElem?_map] at hx
   obtain⟨x',hx',rfl⟩:=Option.map_eq_some_iff.mp hx
   simp only [List.getD_eq_getElem?_getD,hx',Option.getD_some] at hR
   exact⟨t,_,rfl,SqT.of ht,rfl,_,_,rfl,_,_,rfl,rfl,rfl,_,rfl,_,rfl,_,_,rfl,rfl,_,_,rfl,rfl,⟨70000,9000,hz x' (List.mem_of_getElem? hx'),lb1,by decide⟩,_,rfl,_,_,rfl,rfl,hR⟩
  ·intro H2 sm ha
   rw [List.length_map] at ha
   refine q acc H2 sm hacc ?_
   rw [ha]
   unfold ZQ
   rw [List.map_map]
   rfl
end
noncomputable def j8 (bs:List Int):Nat→Int
 | 0=>0
 | i+1=>j8 bs i+ch (bs.getD i 0+(i:Int)) ((i:Int)+1)
noncomputable def WD (bs:List Int):Int:=j8 bs bs.length
structure vd (bs:List Int):Prop where
 inc:bs.Pairwise (·≤·)
 nn:∀x∈bs,0≤x
theorem ze3.is {bs:List Int} (h:ze3 bs):vd bs:=⟨h.inc,h.nn⟩
theorem vd.get {bs:List Int} (B:vd bs){i j:Nat}{x y:Int} (h:i≤j) (hx:bs[i]?=some x) (hy:bs[j]?=some y):x≤y:=by
 obtain⟨h1,e1⟩:=List.getElem?_eq_some_iff.mp hx
 obtain⟨h2,e2⟩:=List.getElem?_eq_some_iff.mp hy
 rcases Nat.lt_or_eq_of_le h with z | z
 ·have:=List.pairwise_iff_getElem.mp B.inc i j h1 h2 z
  omega
 ·subst z;omega
theorem vd.nn' {bs:List Int} (B:vd bs){i:Nat}:0≤bs.getD i 0:=by
 rw [List.getD_eq_getElem?_getD]
 cases h:bs[i]? with
 | none=>exact Int.le_refl _
 | some x=>exact B.nn x (List.mem_of_getElem? h)
theorem vd.le' {bs:List Int} (B:vd bs){i j:Nat} (h:i≤j) (hj:j<bs.length):bs.getD i 0≤bs.getD j 0:=by
 have hi:i<bs.length:=by omega
 rw [List.getD_eq_getElem?_getD,List.getD_eq_getElem?_getD,List.getElem?_eq_getElem hi,List.getElem?_eq_getElem hj]
 exact B.get h (List.getElem?_eq_getElem hi) (List.getElem?_eq_getElem hj)
theorem Z8 (bs:List Int):∀n,0≤j8 bs n
 | 0=>Int.le_refl _
 | n+1=>by
  have:=Z8 bs n
  have:=Va (bs.getD n 0+(n:Int)) ((n:Int)+1)
  show 0≤j8 bs n+_
  omega
theorem zbf {bs:List Int} (B:vd bs):∀(i:Nat) (c:Int),i≤bs.length→0≤c→(∀j,j<i→bs.getD j 0≤c)→j8 bs i<ch (c+(i:Int)) (i:Int)
 | 0,c,_,_,_=>by
  show (0:Int)<ch (c+((0:Nat):Int)) 0
  rw [Xr];decide
 | i+1,c,hi,hc,hb=>by
  have b0:=B.nn' (i:=i)
  have ih:=zbf B i (bs.getD i 0) (by omega) b0 (fun j hj=>B.le' (by omega) (by omega))
  have p:=zaf (n:=bs.getD i 0+(i:Int)) (k:=(i:Int)) (by omega) (by omega)
  have m:=V9 (m:=bs.getD i 0+(i:Int)+1) (n:=c+((i+1:Nat):Int)) (k:=((i+1:Nat):Int)) (by have:=hb i (by omega);omega)
  rw [show ((i+1:Nat):Int)=(i:Int)+1 by omega] at m ⊢
  show j8 bs i+ch (bs.getD i 0+(i:Int)) ((i:Int)+1) < _
  omega
theorem Vi {bs:List Int} (B:vd bs){i:Nat} (hi:i<bs.length):za0 ((i:Int)+1) (j8 bs (i+1)) (bs.getD i 0+(i:Int)):=by
 have b0:=B.nn' (i:=i)
 have a:=zbf B (i+1) (bs.getD i 0) hi b0 (fun j hj=>B.le' (by omega) hi)
 have n0:=Z8 bs i
 refine⟨by omega,?_,?_⟩
 ·show _≤j8 bs i+_
  omega
 ·rw [show ((i+1:Nat):Int)=(i:Int)+1 by omega] at a
  rw [show bs.getD i 0+(i:Int)+1=bs.getD i 0+((i:Int)+1) by omega]
  exact a
theorem YZ {as bs:List Int} (A:vd as) (B:vd bs):∀i:Nat,i≤as.length→i≤bs.length→j8 as i=j8 bs i→∀j,j<i→as.getD j 0=bs.getD j 0
 | 0,_,_,_,j,hj=>absurd hj (Nat.not_lt_zero _)
 | i+1,ha,hb,e,j,hj=>by
  have ta:=Vi A (i:=i) ha
  have tb:=Vi B (i:=i) hb
  rw [e] at ta
  have u:=ta.unique tb
  have u':as.getD i 0=bs.getD i 0:=by omega
  by_cases hji:j=i
  ·rw [hji];exact u'
  ·have e':j8 as i+ch (as.getD i 0+(i:Int)) ((i:Int)+1)=j8 bs i+ch (bs.getD i 0+(i:Int)) ((i:Int)+1):=e
   rw [u'] at e'
   exact YZ A B i (by omega) (by omega) (by omega) j (by omega)
theorem zd5 {as bs:List Int} (A:vd as) (B:vd bs) (hl:as.length=bs.length) (e:WD as=WD bs):as=bs:=by
 refine List.ext_getElem? fun i=>?_
 unfold WD at e
 rw [hl] at e
 by_cases hi:i<as.length
 ·have:=YZ A B bs.length (by omega) (Nat.le_refl _) e i (by omega)
  rw [List.getD_eq_getElem?_getD,List.getD_eq_getElem?_getD,List.getElem?_eq_getElem hi,List.getElem?_eq_getElem (by omega:i<bs.length)] at this
  rw [List.getElem?_eq_getElem hi,List.getElem?_eq_getElem (by omega:i<bs.length)]
  congr 1
 ·rw [List.getElem?_eq_none (by omega),List.getElem?_eq_none (by omega)]
theorem ZR {bs:List Int}{i j:Nat}{v:Int} (hi:i<bs.length):(bs.set i v).getD j 0=if j=i then v else bs.getD j 0:=by
 rw [List.getD_eq_getElem?_getD,List.getD_eq_getElem?_getD,List.getElem?_set]
 by_cases h:i=j
 ·subst h;simp [hi]
 ·rw [if_neg h,if_neg (fun z=>h z.symm)]
theorem Y0 {bs:List Int}{i:Nat}{v:Int} (hi:i<bs.length):∀n:Nat,j8 (bs.set i v) n=j8 bs n+if i<n then ch (v+(i:Int)) ((i:Int)+1)-ch (bs.getD i 0+(i:Int)) ((i:Int)+1) else 0
 | 0=>by rw [if_neg (Nat.not_lt_zero _)];rfl
 | n+1=>by
  show j8 (bs.set i v) n+ch ((bs.set i v).getD n 0+(n:Int)) ((n:Int)+1)=j8 bs n+ch (bs.getD n 0+(n:Int)) ((n:Int)+1)+_
  rw [Y0 hi n,ZR hi]
  by_cases h1:n=i
  ·subst h1
   rw [if_pos rfl,if_neg (Nat.lt_irrefl _),if_pos (Nat.lt_succ_self _)]
   omega
  ·rw [if_neg h1]
   by_cases h2:i<n
   ·rw [if_pos h2,if_pos (by omega)];omega
   ·rw [if_neg h2,if_neg (by omega)];omega
theorem QH (m:Nat):∀n:Nat,j8 (List.replicate m 0) n=0
 | 0=>rfl
 | n+1=>by
  have e:(List.replicate m (0:Int)).getD n 0=0:=by
   rw [List.getD_eq_getElem?_getD,List.getElem?_replicate]
   split <;> rfl
  show j8 (List.replicate m 0) n+ch ((List.replicate m (0:Int)).getD n 0+(n:Int)) ((n:Int)+1)=0
  rw [QH m n,e,Xq (by omega) (by omega)]
  rfl
theorem KJ:∀n:Nat,(List.replicate n [V.int 0]).flatten=(List.replicate n (0:Int)).map V.int
 | 0=>rfl
 | n+1=>by
  rw [List.replicate_succ,List.flatten_cons,KJ n,List.replicate_succ,List.map_cons]
  rfl
theorem zd6 {n:Nat} (h:n≤1000):(-1:Int)≠0∧(-1:Int).natAbs<1073741824∧Builtin.Range.small ((n:Int)-1) (-1) (-1)=true∧Builtin.Range.rangeSize ((n:Int)-1) (-1) (-1)=(n:Int):=by
 have hs:Builtin.Range.rangeSize ((n:Int)-1) (-1) (-1)=(n:Int):=by
  unfold Builtin.Range.rangeSize
  rw [if_neg (by decide)]
  by_cases z:n=0
  ·subst z;rfl
  ·rw [if_pos (by omega)]
   show ((n:Int)-1 - -1-1) / (- -1)+1=n
   rw [show (- -1:Int)=1 by decide,Int.ediv_one]
   omega
 refine⟨by decide,by decide,?_,hs⟩
 unfold Builtin.Range.small
 rw [hs]
 simp only [Builtin.Range.rangeFitsLong]
 simp
 omega
theorem zbg {bs:List Int} (h0:∀j,j<bs.length→0≤bs.getD j 0) (hm:∀j k,j≤k→k<bs.length→bs.getD j 0≤bs.getD k 0):vd bs:=by
 have eg:∀(j:Nat) (h:j<bs.length),bs.getD j 0=bs[j]:=fun j h=>by rw [List.getD_eq_getElem?_getD,List.getElem?_eq_getElem h];rfl
 refine⟨List.pairwise_iff_getElem.mpr fun i j hi hj hij=>?_,fun x hx=>?_⟩
 ·have:=hm i j (by omega) hj
  rw [eg i hi,eg j hj] at this
  exact this
 ·obtain⟨j,hj,rfl⟩:=List.getElem_of_mem hx
  rw [← eg j hj]
  exact h0 j hj
theorem zd7 (m:Nat):∀n:Nat,m<C (m+(n+1)) (n+1)
 | 0=>by rw [zdI];omega
 | n+1=>by
  have:=zd7 m n
  rw [show m+(n+1+1)=(m+(n+1))+1 by omega,Zj]
  omega
theorem ze4 {m:Int}{n:Nat} (h0:0≤m) (hz:(n:Int)=0→m=0):m<ch (m+(n:Int)) (n:Int):=by
 cases n with
 | zero=>
  have:=hz rfl
  subst this
  rw [show ((0:Nat):Int)=0 from rfl,Xr]
  decide
 | succ n=>
  obtain⟨r,rfl⟩:∃r:Nat,m=(r:Int):=⟨m.toNat,by omega⟩
  rw [← Int.natCast_add,Jy]
  have:=zd7 r n
  omega
theorem top_lt {k a b c:Int} (h1:ch a k≤c) (h2:c<ch b k):a<b:=by
 rcases (by omega:a<b∨b≤a) with z | z
 ·exact z
 ·have:=V9 (k:=k) z
  omega
section
noncomputable def zd8 (message bells:Int):Prop:=0≤message∧(bells=0→message=0)
noncomputable def Y4 (K:W.Frag) (C:Addr):Sp:=fun vs H Q E=>∃message bells:Int,vs=[.int message,.int bells]∧0≤bells∧bells≤60∧intBits message≤50000 ∧
 (zd8 message bells→∀(p:Addr) (bs:List Int) (H':Hp),Same H H'→H p=none→H' p=some (.lst (bs.map V.int))→vd bs→bs.length=bells.toNat→WD bs=message→Szs 60010 bs→Q (.ref p) H') ∧
 (¬zd8 message bells→E (.ref C) none H)
theorem ql:FnScope ["message","bells","box","left","top","place"] ["message","bells"] (defScope qR):=⟨rfl,rfl,rfl,by decide +kernel,rfl,by decide +kernel,by decide +kernel⟩
theorem JC {zr:Addr} (D:Def K mg "box_of_message" qR ["message","bells"]) (T:Txt K mg) (qp:mg "TooGreat"=some (.ref zr)) (jb:W.excIn K zr bmV "ValueError.__new__"=true) (QJ:Fn P w K mg base 37 "above_top" ["k","number"] zcy) (JD:Fn P w K mg base 37 "top_from" ["start","k","number"] YW) (xH:Fn P w K mg base 1 "choose" ["n","k"] QB) :
  FnE P w K mg base 39 "box_of_message" ["message","bells"] (Y4 K zr):=by
 refine D.fnE ql (fun vs H Q E h=>?_) (fun f cdv A outer s H vs Q E hr h=>?_)
 ·obtain⟨a,bs,rfl,_⟩:=h
  rfl
 ·obtain⟨message,bells,rfl,b0,b60,mb,q1,q2⟩:=h
  refine⟨_,(pss_cons (ps_if (pw_or (pt_cmpR Ko (pv 0) pe_int (nomark _)) (pw_or1 (pw_and (pt_cmpR jd (pv 1) pe_int (nomark _)) (pw_and1 (pt_cmpR zdB (pv 0) pe_int (nomark _)))).pt)).pt
    (pss_one (vm PySem.F.excBase_ValueError jb (by rfl) qp (pa_cons pe_str pa_nil zg)))
    pss_nil)
   (pss_cons (ps_set (i:=2) ql.nd rfl (Or.inl rfl) (pe_op op_rep (pe_lst (pa_cons pe_int pa_nil zg)) (pv 1)))
   (pss_cons (ps_set (i:=3) ql.nd rfl (Or.inl rfl) (pv 0))
   (pss_cons (ps_set (i:=4) ql.nd rfl (Or.inl rfl) (pe_op qg (pv 0) (pv 1)))
   (pss_cons (ps_for PassesOwn.leaving rfl (zc5 (by rfl) T.z_range (pa_cons (pe_op vh (pv 1) pe_int) (pa_cons (pe_un un_neg pe_int) (pa_cons (pe_un un_neg pe_int) pa_nil)) zW)) (pg_name (i:=5) ql.nd rfl (Or.inl rfl))
    (pss_cons (ps_set (i:=4) ql.nd rfl (Or.inl rfl) (qm JD (hr.mono (by decide)) (by rfl) (pa_cons (pe_callB (call_min2 rfl) (by rfl) T.z_min zjQ (pa_cons (pe_op vh (pv 4) pe_int) (pa_cons (qm QJ (hr.mono (by decide)) (by rfl) (pa_cons (pe_op qg (pv 5) pe_int) (pa_cons (pv 3) pa_nil zf) zW)) pa_nil zu) zW)) (pa_cons (pe_op qg (pv 5) pe_int) (pa_cons (pv 3) pa_nil zf) zW) zu)))
    (pss_cons (ps_asg (pe_op vh (pv 4) (pv 5)) (pg_sub (pv 2) (pv 5) set_list))
    (pss_one (ps_set (i:=3) ql.nd rfl (Or.inl rfl) (pe_op vh (pv 3) (qm xH (hr.mono (by decide)) (by rfl) (pa_cons (pv 4) (pa_cons (pe_op qg (pv 5) pe_int) pa_nil zW) zf))))))))
   (pss_one (ps_ret (pv 2)))))))),?_⟩
  obtain⟨n,rfl⟩:∃n:Nat,bells=(n:Int):=⟨bells.toNat,by omega⟩
  refine⟨_,rfl,_,_,rfl,rfl,_,rfl,ifD (fun h=>⟨(by decide),q2 (fun g=>by have:=g.1;omega)⟩) (fun h=>⟨_,rfl,_,_,rfl,rfl,_,rfl,?_⟩)⟩
  refine(fun(G:0≤message→((n:Int)=0→message=0)→_)=>ifD (fun z=>⟨_,rfl,_,_,rfl,rfl,_,rfl,zeM (fun e=>⟨(by decide),q2 (fun g=>e (g.2 z))⟩) (fun e=>G (by omega) (fun _=>by omega))⟩) (fun z=>G (by omega) (fun z'=>absurd z' z))) (fun m0 mz=>?_)
  have q:=q1 ⟨m0,mz⟩
  refine⟨(by decide),fun l hl=>⟨_,rfl,l,(n:Int),_,rfl,rfl,upd_same,by omega,by omega,?_,fun p hp=>?_⟩⟩
  ·show 1*((n:Int)).toNat≤sizeLine
   exact Nat.le_of_lt (small1000 (by omega))
  rw [show ((n:Int)).toNat=n by omega,KJ]
  have hp0:H p=none:=(Same.new hl).free hp
  have s1:Same H (upd (upd H l (.lst [V.int 0])) p (.lst ((List.replicate n (0:Int)).map V.int))):=(Same.new hl).put hp
  have h1:(upd (upd H l (.lst [V.int 0])) p (.lst ((List.replicate n (0:Int)).map V.int))) p=some (.lst ((List.replicate n (0:Int)).map V.int)):=upd_same
  generalize upd (upd H l (.lst [V.int 0])) p (.lst ((List.replicate n (0:Int)).map V.int))=H1 at s1 h1 ⊢
  have mb2:intBits (message+(n:Int))≤60000:=zO (intBits_add_le (m:=50000) (n:=64) mb (qP (by omega) (by omega))) (by decide)
  refine⟨_,rfl,_,rfl,_,rfl,_,_,rfl,rfl,_,rfl,_,_,rfl,rfl,1,rfl,1,rfl,(n:Int)-1,-1,-1,n,rfl,zd6 (by omega),zbP (lo:=(n:Int)-1) (c:=-1) (n:=n) (fun i σ H2=>∃(bs:List Int) (left top:Int) (v5:Option V),σ=[some (.int message),some (.int (n:Int)),some (.ref p),some (.int left),some (.int top),v5]∧Same H H2∧H2 p=some (.lst (bs.map V.int))∧bs.length=n∧0≤left∧left≤message∧left+j8 bs n=message∧(∀j,j<n-i→bs.getD j 0=0)∧(∀j,j<n→0≤bs.getD j 0)∧(∀j k,n-i≤j→j≤k→k<n→bs.getD j 0≤bs.getD k 0)∧left<ch top ((n-i:Nat):Int)∧((n-i:Nat):Int)≤top∧intBits top≤60000∧(0<i→top=bs.getD (n-i) 0+((n-i:Nat):Int))∧Szs 60010 bs)
   ⟨List.replicate n 0,message,message+(n:Int),none,rfl,s1,h1,by rw [List.length_replicate],m0,Int.le_refl _,by rw [QH];omega,fun j _=>?_,fun j _=>?_,fun j k h1 h2 h3=>by omega,by rw [Nat.sub_zero];exact ze4 m0 mz,by omega,mb2,fun z=>absurd z (by omega),fun x hx=>?_⟩ ?_ ?_⟩
  ·rw [List.getD_eq_getElem?_getD,List.getElem?_replicate]
   split <;> rfl
  ·rw [List.getD_eq_getElem?_getD,List.getElem?_replicate]
   split <;> decide
  ·rw [(List.mem_replicate.mp hx).2];decide
  ·rintro i σ H2 hi ⟨bs,left,top,v5,rfl,sm,hB,hl2,l0,l1,sum,z0,nn,mono,lt,tge,tbb,teq,sz⟩
   obtain⟨pl,hpl⟩:∃pl:Nat,pl=n-1-i:=⟨_,rfl⟩
   have ep:(n:Int)-1+(i:Int)*-1=(pl:Int):=by omega
   rw [ep]
   have hpb:pl<bs.length:=by omega
   have hni:n-i=pl+1:=by omega
   rw [hni] at lt tge teq
   refine⟨_,rfl,_,_,rfl,rfl,_,rfl,_,_,rfl,rfl,_,rfl,(pl:Int)+1,left,rfl,by omega,by omega,l0,intBits_le_of_natAbs (y:=message) (by omega) mb,fun a a1 a2 a3=>⟨_,_,rfl,_,rfl,_,_,rfl,rfl,_,rfl,_,(pl:Int)+1,left,rfl,by omega,by omega,l0,?_,?_,?_,fun t tp tb=>?_⟩⟩
   ·split <;> omega
   ·split
    ·exact a2
    ·rw [show top-1+1=top by omega,show ((pl:Int)+1)=((pl+1:Nat):Int) by omega]
     exact lt
   ·split
    ·exact a3
    ·exact intBits_le_of_natAbs (y:=top) (by omega) tbb
   have t0:=tp.lo
   have t1:=tp.le
   have t2:=tp.lt
   refine⟨_,rfl,_,rfl,_,_,rfl,rfl,_,rfl,_,rfl,p,_,_,pl,rfl,rfl,hB,?_,?_⟩
   ·unfold ixN
    rw [List.length_map,if_pos (by omega),if_pos (by omega),Int.toNat_natCast]
   have pas:=zaf (n:=t) (k:=(pl:Int)) (by omega) (by omega)
   refine⟨_,rfl,_,rfl,_,rfl,_,_,rfl,rfl,t,(pl:Int)+1,rfl,by omega,by omega,by omega,zO tb (by decide),_,_,rfl,rfl,?_⟩
   have ge:=Va t ((pl:Int)+1)
   refine⟨bs.set pl (t-(pl:Int)),left-ch t ((pl:Int)+1),t,_,rfl,sm.wr hp0,by rw [upd_same,List.map_set],by rw [List.length_set];exact hl2,by omega,by omega,?_,fun j hj=>?_,fun j hj=>?_,fun j k h1 h2 h3=>?_,?_,by omega,tb,fun _=>?_,fun x hx=>?_⟩
   ·rw [Y0 hpb,if_pos (by omega),z0 pl (by omega),Xq (n:=0+(pl:Int)) (by omega) (by omega),show t-(pl:Int)+(pl:Int)=t by omega]
    omega
   ·rw [ZR hpb,if_neg (by omega)]
    exact z0 j (by omega)
   ·rw [ZR hpb]
    split
    ·omega
    ·exact nn j hj
   ·rw [ZR hpb,ZR hpb]
    by_cases e1:j=pl
    ·rw [if_pos e1]
     by_cases e2:k=pl
     ·rw [if_pos e2];exact Int.le_refl _
     ·rw [if_neg e2]
      have:=top_lt t1 (by rw [show ((pl:Int)+1)=((pl+1:Nat):Int) by omega];exact lt)
      have:=teq (by omega)
      have:=mono (pl+1) k (by omega) (by omega) h3
      omega
    ·rw [if_neg e1,if_neg (by omega)]
     exact mono j k (by omega) h2 h3
   ·rw [show n-(i+1)=pl by omega]
    omega
   ·rw [show n-(i+1)=pl by omega,ZR hpb,if_pos rfl,show t-(pl:Int)+(pl:Int)=t by omega]
   ·rcases List.mem_or_eq_of_mem_set hx with z | z
    ·exact sz x z
    ·rw [z]
     exact zO (intBits_sub_le (m:=60000) (n:=64) tb (qP (by omega) (by omega))) (by decide)
  ·rintro σ H2 ⟨bs,left,top,v5,rfl,sm,hB,hl2,l0,l1,sum,z0,nn,mono,lt,tge,tbb,teq,sz⟩
   rw [Nat.sub_self] at z0 mono lt
   have e0:left=0:=by
    by_cases hn:n=0
    ·subst hn
     have:message=0:=mz rfl
     omega
    ·rw [show ((0:Nat):Int)=0 from rfl,Xr] at lt
     omega
   refine⟨_,rfl,q p bs H2 sm hp0 hB (zbg (fun j hj=>nn j (by omega)) (fun j k h1 h2=>mono j k (Nat.zero_le _) h1 (by omega))) (by omega) ?_ sz⟩
   unfold WD
   rw [hl2]
   omega
end
noncomputable def cnt (turns bells late:Int):Int:=if turns<bells then 0 else ch ((turns-bells) / (late+1)+bells) bells
noncomputable def XD:Sp:=fun vs H Q _=>∃turns bells late:Int,vs=[.int turns,.int bells,.int late]∧0≤bells∧bells≤1000∧0≤late∧intBits late≤8000∧intBits turns≤70000∧Q (.int (cnt turns bells late)) H
section
noncomputable def zau:Sp:=fun vs H Q _=>∃turns bells late:Int,vs=[.int turns,.int bells,.int late]∧0≤late∧intBits late≤8000∧Q (.int ((turns-bells) / (late+1))) H
theorem Vj:FnScope ["turns","bells","late"] ["turns","bells","late"] (defScope je):=⟨rfl,rfl,rfl,by decide +kernel,rfl,by decide +kernel,by decide +kernel⟩
theorem Vk (D:Def K mg "greatest_part" je ["turns","bells","late"]):Fn P w K mg base 1 "greatest_part" ["turns","bells","late"] zau:=by
 refine D.fn Vj (fun vs H Q E h=>?_) (fun f cdv A outer s H vs Q E hr h=>?_)
 ·obtain⟨a,b,c,rfl,_⟩:=h
  rfl
 ·obtain⟨turns,bells,late,rfl,l0,lb,q⟩:=h
  refine⟨_,(pss_one (ps_ret (pe_op qO (pe_op vh (pv 0) (pv 1)) (pe_op qg (pv 2) pe_int)))),?_⟩
  have lb1:intBits (late+1)≤9000:=zO (intBits_add_le (m:=8000) (n:=1) lb (by decide)) (by decide)
  exact⟨_,rfl,_,rfl,_,_,rfl,rfl,_,rfl,_,_,rfl,rfl,_,_,rfl,rfl,⟨by omega,lb1⟩,q⟩
theorem zav:FnScope ["turns","bells","late"] ["turns","bells","late"] (defScope vp):=⟨rfl,rfl,rfl,by decide +kernel,rfl,by decide +kernel,by decide +kernel⟩
theorem zaw (D:Def K mg "box_count" vp ["turns","bells","late"]) (T:Txt K mg) (wV:Fn P w K mg base 1 "greatest_part" ["turns","bells","late"] zau) (xH:Fn P w K mg base 1 "choose" ["n","k"] QB):Fn P w K mg base 2 "box_count" ["turns","bells","late"] XD:=by
 refine D.fn zav (fun vs H Q E h=>?_) (fun f cdv A outer s H vs Q E hr h=>?_)
 ·obtain⟨a,b,c,rfl,_⟩:=h
  rfl
 ·obtain⟨turns,bells,late,rfl,b0,b1,l0,lb,tb,q⟩:=h
  refine⟨_,(pss_cons (ps_if (pt_cmpR Qx (pv 1) (pv 0) (nomark _))
    (pss_one (ps_ret pe_int))
    pss_nil)
   (pss_one (ps_ret (qm xH (hr.mono (by decide)) (by rfl) (pa_cons (pe_op qg (qm wV (hr.mono (by decide)) (by rfl) (pa_cons (pv 0) (pa_cons (pv 1) (pa_cons (pv 2) pa_nil zf) zf) zf)) (pv 1)) (pa_cons (pv 1) pa_nil zf) zW))))),?_⟩
  unfold cnt at q
  refine⟨_,rfl,_,rfl,_,_,rfl,rfl,_,rfl,ifD (fun h=>?_) (fun h=>?_)⟩
  ·rw [if_pos h] at q
   exact q
  ·rw [if_neg h] at q
   have d0:0≤(turns-bells) / (late+1):=Int.ediv_nonneg (by omega) (by omega)
   have db:intBits ((turns-bells) / (late+1))≤70000:=by
    have h2:=Int.ediv_le_self (late+1) (show 0≤turns-bells by omega)
    exact intBits_le_of_natAbs (y:=turns) (by omega) tb
   refine⟨_,rfl,_,rfl,_,rfl,turns,bells,late,rfl,l0,lb,_,rfl,_,_,rfl,rfl,_,rfl,_,bells,rfl,by omega,b0,b1,?_,q⟩
   exact zO (intBits_add_le (m:=70000) (n:=64) db (qP b0 (by omega))) (by decide)
end
theorem ze5 {turns bells late:Int} (b0:0≤bells) (h:bells≤turns) (l0:0≤late):0<cnt turns bells late:=by
 unfold cnt
 rw [if_neg (by omega)]
 have d0:0≤(turns-bells) / (late+1):=Int.ediv_nonneg (by omega) (by omega)
 exact zfP b0 (by omega)
theorem Z9 (turns bells late:Int):0≤cnt turns bells late:=by
 unfold cnt
 split
 ·exact Int.le_refl _
 ·exact Va _ _
section
noncomputable def KN (K:W.Frag) (C:Addr):Sp:=fun vs H Q E=>∃message turns bells late:Int,vs=[.int message,.int turns,.int bells,.int late]∧0≤bells∧bells≤60∧0≤late∧intBits late≤8000∧intBits turns≤70000∧intBits message≤50000 ∧
 ((0≤message∧message<cnt turns bells late)→∀(p:Addr) (bs:List Int) (H':Hp),Same H H'→H p=none→H' p=some (.lst ((ZQ late bs).map V.int))→vd bs→bs.length=bells.toNat→WD bs=message→Szs 60010 bs→Q (.ref p) H') ∧
 (¬(0≤message∧message<cnt turns bells late)→E (.ref C) none H)
theorem zax {message turns late:Int} (h0:0≤message) (h:message<cnt turns 0 late):message=0:=by
 unfold cnt at h
 split at h
 ·omega
 ·rw [Xr] at h;omega
theorem zb7:FnScope ["message","turns","bells","late"] ["message","turns","bells","late"] (defScope yD):=⟨rfl,rfl,rfl,by decide +kernel,rfl,by decide +kernel,by decide +kernel⟩
theorem zbh {zr:Addr} (D:Def K mg "written" yD ["message","turns","bells","late"]) (T:Txt K mg) (qp:mg "TooGreat"=some (.ref zr)) (jb:W.excIn K zr bmV "ValueError.__new__"=true) (qU:Fn P w K mg base 2 "box_count" ["turns","bells","late"] XD) (vI:FnE P w K mg base 39 "box_of_message" ["message","bells"] (Y4 K zr)) (zb8:Fn P w K mg base 1 "bell_row" ["box","late"] (YX K)) :
  FnE P w K mg base 40 "written" ["message","turns","bells","late"] (KN K zr):=by
 refine D.fnE zb7 (fun vs H Q E h=>?_) (fun f cdv A outer s H vs Q E hr h=>?_)
 ·obtain⟨a,b,c,d,rfl,_⟩:=h
  rfl
 ·obtain⟨message,turns,bells,late,rfl,b0,b60,l0,lb,tb,mb,q1,q2⟩:=h
  refine⟨_,(pss_cons (ps_if (pw_or (pt_cmpR Ko (pv 0) pe_int (nomark _)) (pw_or1 (pt_cmpR zbO (pv 0) (qm qU (hr.mono (by decide)) (by rfl) (pa_cons (pv 1) (pa_cons (pv 2) (pa_cons (pv 3) pa_nil zf) zf) zf)) (nomark _)))).pt
    (pss_one (vm PySem.F.excBase_ValueError jb (by rfl) qp (pa_cons pe_str pa_nil zg)))
    pss_nil)
   (pss_one (ps_ret (qm zb8 (hr.mono (by decide)) (by rfl) (pa_cons (z7 vI (hr.mono (by decide)) (by rfl) zL (pa_cons (pv 0) (pa_cons (pv 2) pa_nil zf) zf)) (pa_cons (pv 3) pa_nil zf) zu))))),?_⟩
  refine⟨_,rfl,_,_,rfl,rfl,_,rfl,ifD (fun h=>⟨(by decide),q2 (fun g=>by omega)⟩) (fun h=>⟨_,rfl,_,rfl,_,rfl,_,rfl,turns,bells,late,rfl,b0,by omega,l0,lb,tb,_,_,rfl,rfl,_,rfl,ifD (fun h2=>⟨(by decide),q2 (fun g=>by omega)⟩) (fun h2=>?_)⟩)⟩
  have m0:0≤message:=by omega
  have m1:message<cnt turns bells late:=by omega
  have q:=q1 ⟨m0,m1⟩
  have gm:zd8 message bells:=⟨m0,fun z=>zax m0 (z ▸ m1)⟩
  refine⟨_,rfl,_,rfl,message,bells,rfl,b0,b60,mb,fun _ p bs H1 s1 hp h1 B hl hnum sz=>?_,fun nb=>absurd gm nb⟩
  refine⟨_,rfl,p,bs,late,rfl,SqL.of h1,by omega,lb,fun x hx=>zO (sz x hx) (by decide),fun p2 H2 s2 hp2 h2=>?_⟩
  exact q p2 bs H2 (s1.trans s2) (s1.free hp2) h2 B hl hnum sz
end
theorem zfY {bs:List Int} (B:vd bs){turns late:Int}{i:Nat} (l0:0≤late) (h:WD bs<cnt turns (bs.length:Int) late) (hi:i<bs.length):(bs.length:Int)≤turns∧bs.getD i 0*(late+1)≤turns-(bs.length:Int):=by
 unfold cnt at h
 have n0:=Z8 bs bs.length
 split at h
 ·have:WD bs=j8 bs bs.length:=rfl
  omega
 ·rename_i hle
  refine⟨by omega,?_⟩
  have tp:=Vi B (i:=bs.length-1) (by omega)
  have t1:=tp.le
  have e1:bs.length-1+1=bs.length:=by omega
  have e2:((bs.length-1:Nat):Int)+1=(bs.length:Int):=by omega
  rw [e1,e2] at t1
  have lt:=top_lt t1 (show j8 bs bs.length < _ from h)
  have m:=B.le' (i:=i) (j:=bs.length-1) (by omega) (by omega)
  have d1:bs.getD i 0≤(turns-(bs.length:Int)) / (late+1):=by omega
  exact(Int.le_ediv_iff_mul_le (by omega)).mp d1
theorem jh {c:TT}{tA tB R:TS}{D:Ends}{σ:St}{H:Hp} (Pre:St→Hp→Prop) (tail:∀σ H,Pre σ H→R D σ H) (h:∀N:St→Hp→Prop,(∀σ H,Pre σ H→N σ H)→tIfS c tA tB { D with nx:=N } σ H):tSeq (tIfS c tA tB) R D σ H:=h (fun σ H=>R D σ H) tail
noncomputable def zbi:Int→List Int→Prop
 | _,[]=>True
 | b,x::r=>b≤x∧zbi x r
theorem zbj:∀{b:Int}{xs:List Int},zbi b xs→∀x∈xs,b≤x
 | _,[],_,_,z=>nomatch z
 | b,y::r,h,x,hx=>by
  rcases List.mem_cons.mp hx with e | e
  ·rw [e];exact h.1
  ·have:=zbj h.2 x e
   have:=h.1
   omega
theorem zcF:∀{b:Int}{xs:List Int},zbi b xs→xs.Pairwise (·≤·)
 | _,[],_=>List.Pairwise.nil
 | _,_::_,h=>List.pairwise_cons.mpr ⟨zbj h.2,zcF h.2⟩
theorem zcG:∀{b:Int}{xs:List Int},xs.Pairwise (·≤·)→(∀x∈xs,b≤x)→zbi b xs
 | _,[],_,_=>trivial
 | _,x::r,hp,h=>by
  obtain⟨p1,p2⟩:=List.pairwise_cons.mp hp
  exact⟨h x (by simp),zcG p2 p1⟩
theorem zdn {bs:List Int}{i:Nat}{x b:Int} (h:bs[i]?=some x):zbi b (bs.drop i)↔b≤x∧zbi x (bs.drop (i+1)):=by
 obtain⟨hi,e⟩:=List.getElem?_eq_some_iff.mp h
 rw [List.drop_eq_getElem_cons hi,e]
 exact Iff.rfl
section
end
theorem JF {x:Str}{acc:Addr}{own:Nat}{ix:List Nat}{g:TG}{te:TE}{σ:St}{H1:Hp}{Q:VK} (f:Nat→V) (hn:H1 acc=none) (hz:x.length≤sizeLine)
  (step:∀(i c:Nat) (H:Hp) (R:VK),x.cps[i]?=some c→Same H1 H→R (f c) H→g (.str ⟨#[c]⟩) (qC own ix σ) H fun σ4 H4=>σ4.drop own=ix.map (fun i=>(σ[i]?).getD none)∧te σ4 H4 R)
  (hd:Q (.ref acc) (upd H1 acc (.lst ((cpl x).map f)))):Jv (Its x) own ix g Z1 te σ H1 acc Q:=by
 have sz:x.cps.size=(cpl x).length:=by simp [cpl]
 refine⟨fun i m ys H=>m=x.cps.size-i∧i≤x.cps.size∧ys=((cpl x).take i).map f∧H=upd H1 acc (.lst ys),⟨x.cps.size,by simp,Nat.zero_le _,rfl,rfl⟩,?_⟩
 rintro i m ys H ⟨rfl,hi,rfl,rfl⟩
 refine⟨upd_same,?_⟩
 by_cases hlt:i<x.cps.size
 ·refine .inr ⟨hlt,?_,fun v H3 y=>?_⟩
  ·rw [List.length_map,List.length_take]
   have:x.length=x.cps.size:=rfl
   omega
  obtain⟨e,c,hc,e2⟩:=y
  subst e e2
  refine step i c _ _ hc (Same.new hn) ⟨upd_same,x.cps.size-(i+1),by omega,rfl,hlt,?_,by rw [upd_upd]⟩
  have hc':(cpl x)[i]?=some c:=by rw [← hc];simp [cpl]
  rw [List.take_add_one,hc',List.map_append]
  rfl
 ·have e:i=x.cps.size:=by omega
  subst e
  rw [sz,List.take_length]
  exact .inl ⟨Nat.le_refl _,hd⟩
noncomputable def zb9 (x s:Str) (most:Int):Prop:=1≤x.length∧(x.length:Int)≤most∧∀c∈cpl x,c∈cpl s
structure zK (x:Str):Prop where
 ne:1≤x.length
 le:x.length≤8
 let_:∀c∈cpl x,97≤c∧c≤122
theorem zcH:∀c:Nat,c∈cpl "abcdefghijklmnopqrstuvwxyz"↔97≤c∧c≤122:=fun c=>by
 have e:cpl "abcdefghijklmnopqrstuvwxyz"=(List.range 26).map (·+97):=by decide +kernel
 rw [e,List.mem_map]
 constructor
 ·rintro⟨i,hi,rfl⟩
  have:=List.mem_range.mp hi
  omega
 ·intro h
  exact⟨c-97,List.mem_range.mpr (by omega),by omega⟩
theorem Ke:∀c:Nat,c∈cpl "0123456789"↔48≤c∧c≤57:=fun c=>by
 have e:cpl "0123456789"=(List.range 10).map (·+48):=by decide +kernel
 rw [e,List.mem_map]
 constructor
 ·rintro⟨i,hi,rfl⟩
  have:=List.mem_range.mp hi
  omega
 ·intro h
  exact⟨c-48,List.mem_range.mpr (by omega),by omega⟩
theorem Y5 {x:Str}:zb9 x "abcdefghijklmnopqrstuvwxyz" 8↔zK x:=by
 constructor
 ·rintro⟨h1,h2,h3⟩
  exact⟨h1,by omega,fun c hc=>(zcH c).mp (h3 c hc)⟩
 ·rintro⟨h1,h2,h3⟩
  exact⟨h1,by omega,fun c hc=>(zcH c).mpr (h3 c hc)⟩
theorem zdo {x:Str} (h:zK x):Z5 x:=fun z=>by
 have:=h.let_ 32 z
 omega
theorem zcI:cpl "0"=[48]:=by decide +kernel
theorem XH {x:Str}{most:Nat}:Num most x↔zb9 x "0123456789" (most:Int)∧¬((cpl x)[0]?=some 48∧x≠"0"):=by
 constructor
 ·intro h
  refine⟨⟨h.ne,by have:=h.le;omega,fun c hc=>(Ke c).mpr (h.dig c hc)⟩,fun z=>z.2 (Zd ?_)⟩
  rw [h.led z.1,zcI]
 ·rintro⟨⟨h1,h2,h3⟩,h4⟩
  refine⟨h1,by omega,fun c hc=>(Ke c).mp (h3 c hc),fun z=>?_⟩
  have:x="0":=Classical.byContradiction fun n=>h4 ⟨z,n⟩
  rw [this,zcI]
section
noncomputable def zay:Sp:=fun vs H Q _=>∃(x s:Str) (most:Int),vs=[.str x,.str s,.int most]∧x.length≤1000000∧∀(b:Bool) (H':Hp),Same H H'→(b=true↔zb9 x s most)→Q (.bl b) H'
theorem WF:FnScope ["word","signs","most"] ["word","signs","most"] (defScope xj):=⟨rfl,rfl,rfl,by decide +kernel,rfl,by decide +kernel,by decide +kernel⟩
theorem ze6 (D:Def K mg "is_made_of" xj ["word","signs","most"]) (T:Txt K mg):Fn P w K mg base 1 "is_made_of" ["word","signs","most"] zay:=by
 refine D.fn WF (fun vs H Q E h=>?_) (fun f cdv A outer s H vs Q E hr h=>?_)
 ·obtain⟨x,sg,most,rfl,_⟩:=h
  rfl
 ·obtain⟨x,sg,most,rfl,xl,q⟩:=h
  have xs:x.length≤sizeLine:=by rw [sizeLine_eq];omega
  refine⟨_,(pss_one (ps_ret (pe_and (pe_chain Kp Kp pe_int (pe_callB call_len_str (by rfl) T.z_len j7 (pa_cons (pv 0) pa_nil zf)) (pv 2)) (pe_one (pe_callB (Ks rfl) (by rfl) T.z_all zdD (pa_cons (Z2 (own:=["sign"]) (fr:=["signs"]) (ix:=[1]) rfl ⟨rfl,rfl,rfl,rfl,rfl,rfl⟩ (zai (pv 0)) (fun _ _ _ _ _=>(pg_name (i:=0) (show (["sign","signs"]:List Str).Nodup by decide +kernel) rfl (Or.inl rfl))) (fun _ _ _ _ _=>kW) (fun _ _ _ _ _=>(pe_cmpR op_in_str (pv 0) (pv 1) (by with_unfolding_all rfl)))) pa_nil)))))),?_⟩
  refine⟨_,rfl,x,rfl,xs,_,_,rfl,rfl,_,rfl,ifD (fun h1=>⟨_,rfl,_,_,rfl,rfl,_,rfl,ifD (fun h2=>?_) (fun h2=>q false H (Same.refl _) ⟨(fun z=>nomatch z),fun z=>absurd z.2.1 h2⟩)⟩) (fun h1=>⟨_,rfl,iteF (q false H (Same.refl _) ⟨(fun z=>nomatch z),fun z=>absurd (show (1:Int)≤(x.length:Int) by have:=z.1;omega) h1⟩)⟩)⟩
  refine⟨_,rfl,x,rfl,fun acc hacc=>JF (fun c=>V.bl (decide (c∈cpl sg))) hacc xs (fun i c H6 R hc s6 hR=>?_) ?_⟩
  ·refine⟨rfl,_,rfl,_,rfl,_,_,rfl,rfl,?_⟩
   rw [StrLaws.found_one]
   exact hR
  ·refine⟨acc,(cpl x).map (fun c=>decide (c∈cpl sg)),rfl,SqL.of (by rw [upd_same,List.map_map];rfl),q _ _ (Same.new hacc) ?_⟩
   rw [List.all_eq_true]
   constructor
   ·intro z
    exact⟨by omega,h2,fun c hc=>of_decide_eq_true (z _ (List.mem_map.mpr ⟨c,hc,rfl⟩))⟩
   ·rintro⟨_,_,z⟩ b hb
    obtain⟨c,hc,rfl⟩:=List.mem_map.mp hb
    exact decide_eq_true (z c hc)
noncomputable def XJ (C:Addr):Sp:=fun vs H Q E=>∃x:Str,vs=[.str x]∧x.length≤1000000∧(zK x→∀H',Same H H'→Q (.str x) H')∧(¬zK x→∀H',Same H H'→E (.ref C) none H')
theorem zca:FnScope ["word"] ["word"] (defScope yH):=⟨rfl,rfl,rfl,by decide +kernel,rfl,by decide +kernel,by decide +kernel⟩
theorem zcb (D:Def K mg "name_in" yH ["word"]) (T:Txt K mg){zj:Addr} (zP:mg "NoOrder"=some (.ref zj)) (zV:W.excIn K zj bmV "ValueError.__new__"=true){ZS jO:Tok} (vX:mg "LETTERS"=some (.str "abcdefghijklmnopqrstuvwxyz" ZS)) (qL:mg "MOST_LETTERS"=some (.int 8 jO)) (j4:Fn P w K mg base 1 "is_made_of" ["word","signs","most"] zay):FnE P w K mg base 2 "name_in" ["word"] (XJ zj):=by
 refine D.fnE zca (fun vs H Q E h=>?_) (fun f cdv A outer s H vs Q E hr h=>?_)
 ·obtain⟨x,rfl,_⟩:=h
  rfl
 ·obtain⟨x,rfl,xl,q1,q2⟩:=h
  refine⟨_,(pss_cons (ps_if (pt_not (pt_val (qm j4 (hr.mono (by decide)) (by rfl) (pa_cons (pv 0) (pa_cons (pe_glob (v:=.str "abcdefghijklmnopqrstuvwxyz") (by rfl) vX ⟨_,rfl⟩) (pa_cons (pe_glob (v:=.int 8) (by rfl) qL ⟨_,rfl⟩) pa_nil zf) zf) zf))))
    (pss_one (vm PySem.F.excBase_ValueError zV (by rfl) zP (pa_cons pe_str pa_nil zg)))
    pss_nil)
   (pss_one (ps_ret (pv 0)))),?_⟩
  refine⟨_,rfl,x,_,8,rfl,xl,fun b H1 s1 hb=>?_⟩
  rw [Y5] at hb
  cases b
  ·exact⟨_,rfl,iteT ⟨(by decide),q2 (fun z=>by cases hb.mpr z) H1 s1⟩⟩
  ·exact⟨_,rfl,iteF ⟨_,rfl,q1 (hb.mp rfl) H1 s1⟩⟩
noncomputable def zcc (C:Addr):Sp:=fun vs H Q E=>∃(x:Str) (most:Nat),vs=[.str x,.int (most:Int)]∧x.length≤1000000∧most≤4300∧(Num most x→∀H',Same H H'→Q (.int (zA x)) H')∧(¬Num most x→∀H',Same H H'→E (.ref C) none H')
theorem WK:FnScope ["word","most"] ["word","most"] (defScope xm):=⟨rfl,rfl,rfl,by decide +kernel,rfl,by decide +kernel,by decide +kernel⟩
theorem WM (ND:NoDig K) (D:Def K mg "figures_in" xm ["word","most"]) (T:Txt K mg){zj:Addr} (zP:mg "NoOrder"=some (.ref zj)) (zV:W.excIn K zj bmV "ValueError.__new__"=true){ZV:Tok} (vY:mg "FIGURES"=some (.str "0123456789" ZV)) (j4:Fn P w K mg base 1 "is_made_of" ["word","signs","most"] zay):FnE P w K mg base 2 "figures_in" ["word","most"] (zcc zj):=by
 refine D.fnE WK (fun vs H Q E h=>?_) (fun f cdv A outer s H vs Q E hr h=>?_)
 ·obtain⟨x,most,rfl,_⟩:=h
  rfl
 ·obtain⟨x,most,rfl,xl,ml,q1,q2⟩:=h
  have xs:x.length≤sizeLine:=by rw [sizeLine_eq];omega
  refine⟨_,(pss_cons (ps_if (pw_or (pt_not (pt_val (qm j4 (hr.mono (by decide)) (by rfl) (pa_cons (pv 0) (pa_cons (pe_glob (v:=.str "0123456789") (by rfl) vY ⟨_,rfl⟩) (pa_cons (pv 1) pa_nil zf) zf) zf)))) (pw_or1 (pw_and (pt_cmpR op_eq (pe_ix ix_str (pv 0) pe_int (fun _ _=>rfl)) pe_str (nomark _)) (pw_and1 (pt_cmpR op_ne (pv 0) pe_str (nomark _)))).pt)).pt
    (pss_one (vm PySem.F.excBase_ValueError zV (by rfl) zP (pa_cons pe_str pa_nil zg)))
    pss_nil)
   (pss_one (ps_ret (pe_callTy (qX ND) (by rfl) T.z_int Qu (pa_cons (pv 0) pa_nil zf))))),?_⟩
  refine⟨_,rfl,_,rfl,x,_,_,rfl,xl,fun b H1 s1 hb=>?_⟩
  cases b
  ·exact⟨_,rfl,iteT (iteT ⟨(by decide),q2 (fun z=>by cases hb.mpr (XH.mp z).1) H1 s1⟩)⟩
  ·have hm:=hb.mp rfl
   refine⟨_,rfl,iteF ?_⟩
   obtain⟨c,r,hx⟩:∃c r,cpl x=c::r:=by
    cases e:cpl x with
    | nil=>
     have:=hm.1
     rw [← zF,e] at this
     exact absurd this (by decide)
    | cons c r=>exact⟨c,r,rfl⟩
   have e0:(cpl x)[0]?=some c:=by rw [hx];rfl
   have ha:atI x.cps.toList 0=some c:=by
    show atI (cpl x) 0=some c
    rw [hx]
    exact(show atI (c::r) ((0:Nat):Int)=some c from atI_nat rfl)
   refine⟨_,rfl,x,0,c,rfl,rfl,xs,ha,rfl,_,rfl,ifD (fun z=>?_) (fun z=>?_)⟩
   ·have z:(⟨#[c]⟩:Str)="0":=V.str.inj z
    have ec:c=48:=by
     have:=congrArg cpl z
     rw [zcI] at this
     simpa [cpl] using this
    subst ec
    refine⟨_,rfl,rfl,_,rfl,zeM (fun n=>⟨(by decide),q2 (fun y=>(XH.mp y).2 ⟨e0,fun k=>n (by rw [k])⟩) H1 s1⟩) (fun n=>?_)⟩
    have n:x="0":=V.str.inj n
    have y:Num most x:=XH.mpr ⟨hm,fun k=>k.2 n⟩
    exact⟨_,rfl,x,zA x,rfl,num_reads y ml,xs,q1 y H1 s1⟩
   ·have y:Num most x:=XH.mpr ⟨hm,fun k=>z (by rw [e0] at k;cases k.1;rfl)⟩
    exact iteF ⟨_,rfl,x,zA x,rfl,num_reads y ml,xs,q1 y H1 s1⟩
noncomputable def Zt (C:Addr) (most:Nat):Sp:=fun vs H Q E=>∃x:Str,vs=[.str x]∧x.length≤1000000∧(Num most x→∀H',Same H H'→Q (.int (zA x)) H')∧(¬Num most x→∀H',Same H H'→E (.ref C) none H')
theorem zaz:FnScope ["word"] ["word"] (defScope vz):=⟨rfl,rfl,rfl,by decide +kernel,rfl,by decide +kernel,by decide +kernel⟩
theorem zaA (D:Def K mg "number_in" vz ["word"]) (T:Txt K mg){zj:Addr}{jP:Tok} (qM:mg "MOST_FIGURES"=some (.int 60 jP)) (jJ:FnE P w K mg base 2 "figures_in" ["word","most"] (zcc zj)):FnE P w K mg base 3 "number_in" ["word"] (Zt zj 60):=by
 refine D.fnE zaz (fun vs H Q E h=>?_) (fun f cdv A outer s H vs Q E hr h=>?_)
 ·obtain⟨x,rfl,_⟩:=h
  rfl
 ·obtain⟨x,rfl,xl,q1,q2⟩:=h
  exact⟨_,(pss_one (ps_ret (z7 jJ (hr.mono (by decide)) (by rfl) zL (pa_cons (pv 0) (pa_cons (pe_glob (v:=.int 60) (by rfl) qM ⟨_,rfl⟩) pa_nil zf) zf)))),_,rfl,x,60,rfl,xl,by decide,q1,q2⟩
theorem WN:FnScope ["word"] ["word"] (defScope xq):=⟨rfl,rfl,rfl,by decide +kernel,rfl,by decide +kernel,by decide +kernel⟩
theorem WQ (D:Def K mg "message_in" xq ["word"]) (T:Txt K mg){zj:Addr}{z6:Tok} (zN:mg "MOST_FIGURES_OF_MESSAGE"=some (.int 3000 z6)) (jJ:FnE P w K mg base 2 "figures_in" ["word","most"] (zcc zj)):FnE P w K mg base 3 "message_in" ["word"] (Zt zj 3000):=by
 refine D.fnE WN (fun vs H Q E h=>?_) (fun f cdv A outer s H vs Q E hr h=>?_)
 ·obtain⟨x,rfl,_⟩:=h
  rfl
 ·obtain⟨x,rfl,xl,q1,q2⟩:=h
  exact⟨_,(pss_one (ps_ret (z7 jJ (hr.mono (by decide)) (by rfl) zL (pa_cons (pv 0) (pa_cons (pe_glob (v:=.int 3000) (by rfl) zN ⟨_,rfl⟩) pa_nil zf) zf)))),_,rfl,x,3000,rfl,xl,by decide,q1,q2⟩
noncomputable def ji (x:Str):Prop:=Num 60 x∧zA x≤60
noncomputable def XM (C:Addr):Sp:=fun vs H Q E=>∃x:Str,vs=[.str x]∧x.length≤1000000∧(ji x→∀H',Same H H'→Q (.int (zA x)) H')∧(¬ji x→∀H',Same H H'→E (.ref C) none H')
theorem VF:FnScope ["word","bells"] ["word"] (defScope wJ):=⟨rfl,rfl,rfl,by decide +kernel,rfl,by decide +kernel,by decide +kernel⟩
theorem zbk (D:Def K mg "bells_in" wJ ["word"]) (T:Txt K mg){zj:Addr} (zP:mg "NoOrder"=some (.ref zj)) (zV:W.excIn K zj bmV "ValueError.__new__"=true){vJ:Tok} (jx:mg "MOST_BELLS"=some (.int 60 vJ)) (zG:FnE P w K mg base 3 "number_in" ["word"] (Zt zj 60)):FnE P w K mg base 4 "bells_in" ["word"] (XM zj):=by
 refine D.fnE VF (fun vs H Q E h=>?_) (fun f cdv A outer s H vs Q E hr h=>?_)
 ·obtain⟨x,rfl,_⟩:=h
  rfl
 ·obtain⟨x,rfl,xl,q1,q2⟩:=h
  refine⟨_,(pss_cons (ps_set (i:=1) VF.nd rfl (Or.inl rfl) (z7 zG (hr.mono (by decide)) (by rfl) zL (pa_cons (pv 0) pa_nil zf)))
   (pss_cons (ps_if (pt_cmpR Qx (pv 1) (pe_glob (v:=.int 60) (by rfl) jx ⟨_,rfl⟩) (nomark _))
    (pss_one (vm PySem.F.excBase_ValueError zV (by rfl) zP (pa_cons pe_str pa_nil zg)))
    pss_nil)
   (pss_one (ps_ret (pv 1))))),?_⟩
  refine⟨_,rfl,x,rfl,xl,fun n H1 s1=>?_,fun n H1 s1=>q2 (fun z=>n z.1) H1 s1⟩
  exact⟨_,rfl,_,_,rfl,rfl,_,rfl,ifD (fun z=>⟨(by decide),q2 (fun y=>by have:=y.2;omega) H1 s1⟩) (fun z=>⟨_,rfl,q1 ⟨n,by omega⟩ H1 s1⟩)⟩
structure j5 (ws:List Str):Prop where
 num:∀x∈ws,Num 60 x
 inc:(ws.map zA).Pairwise (·≤·)
noncomputable def zbl (K:W.Frag) (C:Addr):Sp:=fun vs H Q E=>∃(a:Addr) (ws:List Str),vs=[.ref a]∧SqL K H a (ws.map V.str)∧ws.length≤1000000∧(∀x∈ws,x.length≤1000000)∧(j5 ws→∀(p:Addr) (H':Hp),Same H H'→H p=none→H' p=some (.lst ((ws.map zA).map V.int))→Q (.ref p) H')∧(¬j5 ws→∀H',Same H H'→E (.ref C) none H')
theorem wO:FnScope ["words","turns","before","turn"] ["words"] (defScope wK):=⟨rfl,rfl,rfl,by decide +kernel,rfl,by decide +kernel,by decide +kernel⟩
theorem zbm (D:Def K mg "turns_in" wK ["words"]) (T:Txt K mg){zj:Addr} (zP:mg "NoOrder"=some (.ref zj)) (zV:W.excIn K zj bmV "ValueError.__new__"=true) (zG:FnE P w K mg base 3 "number_in" ["word"] (Zt zj 60)):FnE P w K mg base 4 "turns_in" ["words"] (zbl K zj):=by
 refine D.fnE wO (fun vs H Q E h=>?_) (fun f cdv A outer s H vs Q E hr h=>?_)
 ·obtain⟨a,ws,rfl,_⟩:=h
  rfl
 ·obtain⟨a,ws,rfl,hS,wl,wb,q1,q2⟩:=h
  refine⟨_,(pss_cons (zdN (k:=1) (own:=["word"]) (fr:=[]) (ix:=[]) wO.nd rfl rfl ⟨rfl,rfl,rfl,rfl,rfl,rfl⟩ (pi_list (pv 0)) (fun _ _ _ _ _=>(pg_name (i:=0) (show (["word"]:List Str).Nodup by decide +kernel) rfl (Or.inl rfl))) (fun _ _ _ _ _=>kW) (fun _ _ _ _ _=>(z7 zG (hr.mono (by decide)) (by rfl) zeV (pa_cons (pv 0) pa_nil zf))))
   (pss_cons (ps_set (i:=2) wO.nd rfl (Or.inl rfl) pe_int)
   (pss_cons (ps_for PassesOwn.leaving rfl (pi_list (pv 1)) (pg_name (i:=3) wO.nd rfl (Or.inl rfl))
    (pss_cons (ps_if (pt_cmpR Ko (pv 3) (pv 2) (nomark _))
     (pss_one (vm PySem.F.excBase_ValueError zV (by rfl) zP (pa_cons pe_str pa_nil zg)))
     pss_nil)
    (pss_one (ps_set (i:=2) wO.nd rfl (Or.inl rfl) (pv 3)))))
   (pss_one (ps_ret (pv 1)))))),?_⟩
  refine⟨_,rfl,a,rfl,⟨_,hS⟩,fun acc hacc=>zbW (K:=K) (a:=a) (xs:=ws.map V.str) (fun i v _=>∃x,ws[i]?=some x∧Num 60 x∧v=V.int (zA x)) (fun _ _ _ _ _ h=>h) (fun _ _ _ _ _ _ h=>h) hS hacc (by rw [List.length_map,sizeLine_eq];omega) (fun i x H6 R hx s6 hR=>?_) ?_⟩
  ·rw [List.getElem?_map] at hx
   obtain⟨y,hy,rfl⟩:=Option.map_eq_some_iff.mp hx
   have ym:=List.mem_of_getElem? hy
   exact⟨rfl,_,rfl,y,rfl,wb y ym,fun n H7 s7=>hR _ _ s7 ⟨y,hy,n,rfl⟩,fun n H7 s7=>q2 (fun z=>n (z.num y ym)) H7 (s6.trans s7)⟩
  intro ys H2 s2 hY yl yp
  rw [List.length_map] at yl
  have zlo:∀x∈ws,Num 60 x:=fun x hx=>by
   obtain⟨i,hi⟩:=List.getElem?_of_mem hx
   have il:=(List.getElem?_eq_some_iff.mp hi).1
   obtain⟨y,h1,h2,_⟩:=yp i _ (List.getElem?_eq_getElem (by omega))
   rw [hi] at h1
   cases h1
   exact h2
  have ey:ys=(ws.map zA).map V.int:=by
   apply List.ext_getElem?
   intro i
   rw [List.map_map,List.getElem?_map]
   by_cases hi:i<ys.length
   ·obtain⟨y,h1,_,h3⟩:=yp i _ (List.getElem?_eq_getElem hi)
    rw [List.getElem?_eq_getElem hi,h3,h1]
    rfl
   ·rw [List.getElem?_eq_none (by omega),List.getElem?_eq_none (by omega)]
    rfl
  rw [ey] at hY
  clear ey yp yl
  generalize hns:ws.map zA=ns at hY q1
  have nl:ns.length=ws.length:=by rw [← hns,List.length_map]
  have n0:∀x∈ns,0≤x:=fun x hx=>by
   rw [← hns] at hx
   obtain⟨y,_,rfl⟩:=List.mem_map.mp hx
   exact yh y
  have zlp:ns.Pairwise (·≤·)↔zbi 0 ns:=⟨fun h=>zcG h n0,zcF⟩
  refine⟨_,rfl,acc,rfl,⟨_,SqL.of hY⟩,for_list (K:=K) (a:=acc) (xs:=ns.map V.int) (fun i σ H3=>∃(before:Int) (v3:Option V),σ=[some (.ref a),some (.ref acc),some (.int before),v3]∧H3=H2∧(ns.Pairwise (·≤·)↔zbi before (ns.drop i)))
   ⟨0,none,rfl,rfl,by rw [List.drop_zero];exact zlp⟩ (fun i σ H3 _ ⟨_,_,_,e,_⟩=>e ▸ SqL.of hY) ?_ ?_⟩
  ·rintro i y σ H3 hi ⟨before,v3,rfl,rfl,hb⟩
   rw [List.getElem?_map] at hi
   obtain⟨x,hx,rfl⟩:=Option.map_eq_some_iff.mp hi
   rw [zdn hx] at hb
   refine⟨_,rfl,_,rfl,_,_,rfl,rfl,_,rfl,ifD (fun h=>⟨(by decide),q2 (fun G=>?_) _ s2⟩) (fun h=>⟨_,rfl,x,_,rfl,rfl,hb.trans ⟨fun z=>z.2,fun z=>⟨by omega,z⟩⟩⟩)⟩
   have gi:=G.inc
   rw [hns] at gi
   have:=(hb.mp gi).1
   omega
  ·rintro σ H3 ⟨before,v3,rfl,rfl,hb⟩
   rw [List.length_map,List.drop_length] at hb
   exact⟨_,rfl,q1 ⟨zlo,by rw [hns];exact hb.mpr trivial⟩ acc _ s2 hacc hY⟩
theorem zj2:(10:Int) ^ 4000≤10 ^ 4300:=by decide +kernel
theorem lgB {n:Int} (h0:0≤n) (h1:n<10 ^ 4000):n.natAbs<10 ^ 4300:=by
 have h2:=Int.lt_of_lt_of_le h1 zj2
 have e:((10 ^ 4300:Nat):Int)=(10:Int) ^ 4300:=by rw [Int.natCast_pow];rfl
 rw [← e] at h2
 generalize (10 ^ 4300:Nat)=M at h2 ⊢
 omega
noncomputable def Ja:Sp:=fun vs H Q _=>∃v:V,vs=[v]∧((v=.non∧Q (.str "none") H)∨∃n:Int,v=.int n∧0≤n∧n<10 ^ 4000∧Q (.str (txt n)) H)
theorem KQ:FnScope ["number"] ["number"] (defScope jL):=⟨rfl,rfl,rfl,by decide +kernel,rfl,by decide +kernel,by decide +kernel⟩
theorem KR (ND:NoDig K) (D:Def K mg "number_told" jL ["number"]) (T:Txt K mg):Fn P w K mg base 1 "number_told" ["number"] Ja:=by
 refine D.fn KQ (fun vs H Q E h=>?_) (fun f cdv A outer s H vs Q E hr h=>?_)
 ·obtain⟨v,rfl,_⟩:=h
  rfl
 ·obtain⟨v,rfl,h⟩:=h
  refine⟨_,(pss_one (ps_ret (pe_ifExp (pt_cmpR op_isN (pv 0) pe_non (nomark _)) pe_str (pe_callTy (yx ND) (by rfl) T.z_str Xn (pa_cons (pv 0) pa_nil zf))))),?_⟩
  rcases h with ⟨rfl,q⟩ | ⟨n,rfl,h0,h1,q⟩
  ·exact⟨_,rfl,rfl,_,rfl,iteT q⟩
  ·exact⟨_,rfl,rfl,_,rfl,iteF ⟨_,rfl,n,rfl,lgB h0 h1,q⟩⟩
theorem p54:(10:Int) ^ 500≤10 ^ 4000:=by decide +kernel
noncomputable def wQ (ns:List Int):Str:=if ns=[] then "none" else Txt.join " " (ns.map txt)
theorem zcJ {ns:List Int} (h:∀n∈ns,0≤n∧n<10 ^ 500):((ns.map txt).map (·.length)).sum≤ns.length*500:=by
 induction ns with
 | nil=>exact Nat.le_refl _
 | cons n r ih=>
  have h1:=h n (List.mem_cons_self ..)
  have h2:=(Kc (k:=500) (by decide) h1.1 h1.2).le
  have h3:=ih fun m hm=>h m (List.mem_cons_of_mem _ hm)
  simp only [List.map_cons,List.sum_cons,List.length_cons]
  omega
theorem Y6 (ns:List Int):(List.range (ns.map V.int).length).map (fun i=>V.str (txt (ns.getD i 0)))=(ns.map txt).map V.str:=by
 apply List.ext_getElem
 ·simp
 ·intro i h1 h2
  simp at h1 h2
  simp [List.getD_eq_getElem?_getD,h2]
noncomputable def Ze (K:W.Frag):Sp:=fun vs H Q _=>∃(a:Addr) (ns:List Int),vs=[.ref a]∧SqL K H a (ns.map V.int)∧ns.length≤30000∧(∀n∈ns,0≤n∧n<10 ^ 500)∧∀H',Same H H'→Q (.str (wQ ns)) H'
theorem WR:FnScope ["turns"] ["turns"] (defScope xr):=⟨rfl,rfl,rfl,by decide +kernel,rfl,by decide +kernel,by decide +kernel⟩
theorem WX (ND:NoDig K) (D:Def K mg "turns_told" xr ["turns"]) (T:Txt K mg):Fn P w K mg base 1 "turns_told" ["turns"] (Ze K):=by
 refine D.fn WR (fun vs H Q E h=>?_) (fun f cdv A outer s H vs Q E hr h=>?_)
 ·obtain⟨a,ns,rfl,_⟩:=h
  rfl
 ·obtain⟨a,ns,rfl,hS,nl,nb,q⟩:=h
  refine⟨_,(pss_one (ps_ret (pe_ifExp (pt_truth (pv 0) (fun _=>rfl)) (pe_bm PySem.F.plainAttrs_str PySem.F.slot_str_join PySem.F.type_str_join Xv pe_str (pa_cons (Z2 (own:=["turn"]) (fr:=[]) (ix:=[]) rfl ⟨rfl,rfl,rfl,rfl,rfl,rfl⟩ (pi_list (pv 0)) (fun _ _ _ _ _=>(pg_name (i:=0) (show (["turn"]:List Str).Nodup by decide +kernel) rfl (Or.inl rfl))) (fun _ _ _ _ _=>kW) (fun _ _ _ _ _=>(pe_callTy (yx ND) (by rfl) T.z_str Xn (pa_cons (pv 0) pa_nil zf)))) pa_nil)) pe_str))),?_⟩
  refine⟨_,rfl,_,.inl ⟨_,hS,rfl⟩,?_⟩
  cases ns with
  | nil=>exact iteF (by have:=q H (Same.refl _);exact this)
  | cons n0 r=>
   refine iteT ⟨rfl,_,rfl,a,rfl,⟨_,hS⟩,fun acc hacc=>Jw (K:=K) (a:=a) (xs:=(n0::r).map V.int) (fun i=>V.str (txt ((n0::r).getD i 0))) hS hacc (by rw [List.length_map,sizeLine_eq];omega) (fun i x H6 R hx s6 hR=>?_) ?_⟩
   ·rw [List.getElem?_map] at hx
    obtain⟨n,hn,rfl⟩:=Option.map_eq_some_iff.mp hx
    have b:=nb n (List.mem_of_getElem? hn)
    simp only [List.getD_eq_getElem?_getD,hn,Option.getD_some] at hR
    exact⟨rfl,_,rfl,n,rfl,lgB b.1 (Int.lt_of_lt_of_le b.2 p54),hR⟩
   ·have e:=Y6 (n0::r)
    rw [e]
    refine⟨" ",acc,(n0::r).map txt,rfl,rfl,SqL.of upd_same,?_,?_⟩
    ·have h1:=zcJ nb
     have h2:(" ":Str).length=1:=by decide +kernel
     rw [h2,List.length_map]
     omega
    ·have:=q _ (Same.new (o:=.lst (((n0::r).map txt).map V.str)) hacc)
     unfold wQ at this
     rw [if_neg (by simp)] at this
     exact this
end
noncomputable def blk (x:Str):Nat:=(cpl x).count 32
noncomputable def bad (x:Str):Nat:=(cpl x).count 98+(cpl x).count 121
noncomputable def Sm (m k:Nat) (x:Str):Prop:=x.length≤m∧blk x≤k∧(k=0→bad x=0)
theorem yI {m k:Nat}{x:Str} (h:x.length≤m∧(cpl x).count 32≤k∧(cpl x).count 98+(cpl x).count 121=0):Sm m k x:=⟨h.1,h.2.1,fun _=>h.2.2⟩
theorem Kf (x y:Str):bad (x++y)=bad x+bad y:=by
 unfold bad
 rw [jo,List.count_append,List.count_append]
 omega
theorem Sm.mono {m k m' k':Nat}{x:Str} (h:Sm m k x) (h1:m≤m') (h2:k≤k'):Sm m' k' x:=⟨Nat.le_trans h.1 h1,Nat.le_trans h.2.1 h2,fun z=>h.2.2 (by omega)⟩
theorem len_app (x y:Str):(x++y).length=x.length+y.length:=by rw [← zF,jo,List.length_append,zF,zF]
theorem zcd {m k m' k':Nat}{x y:Str} (h:Sm m k x) (h':Sm m' k' y):Sm (m+m') (k+k') (x++y):=by
 refine⟨by rw [len_app];exact Nat.add_le_add h.1 h'.1,?_,fun z=>by rw [Kf,h.2.2 (by omega),h'.2.2 (by omega)]⟩
 unfold blk
 rw [jo,List.count_append]
 exact Nat.add_le_add h.2.1 h'.2.1
theorem zdp {m k:Nat}{x y:Str} (h:Sm m k x) (s:(cpl y).Sublist (cpl x)):Sm m k y:=by
 refine⟨?_,Nat.le_trans (s.count_le 32) h.2.1,fun z=>?_⟩
 rotate_left
 ·have h1:=h.2.2 z
  have c1:=s.count_le (a:=98)
  have c2:=s.count_le (a:=121)
  unfold bad at h1 ⊢
  omega
 have:=s.length_le
 rw [zF,zF] at this
 exact Nat.le_trans this h.1
theorem zcK {m k:Nat}:∀{l:List (List Nat)},(∀x∈l,x.length≤m∧x.count 32≤k)→(qb 32 l).length≤l.length*(m+1)∧(qb 32 l).count 32≤l.length*(k+1)
 | [],_=>⟨by simp [qb],by simp [qb]⟩
 | [x],h=>by
  have:=h x (by simp)
  simp only [qb,List.length_singleton,Nat.one_mul]
  omega
 | x::y::r,h=>by
  have h1:=h x (by simp)
  have h2:=zcK (l:=y::r) fun z hz=>h z (List.mem_cons_of_mem _ hz)
  show (x++32::qb 32 (y::r)).length≤_∧(x++32::qb 32 (y::r)).count 32≤_
  rw [List.length_append,List.length_cons,List.count_append,List.count_cons_self,List.length_cons (a:=x),Nat.succ_mul,Nat.succ_mul]
  omega
theorem qI (ws:List Str):cpl (Txt.join " " ws)=qb 32 (ws.map cpl):=by
 show cpl (Txt.join sp ws)=_
 rw [Ka,YS,Xw]
theorem zaB:∀{l:List (List Nat)},l≠[]→l.length≤(qb 32 l).count 32+1∧∀x∈l,x.Sublist (qb 32 l)
 | [],h=>absurd rfl h
 | [x],_=>⟨by simp,fun y hy=>by rw [List.mem_singleton.mp hy];exact List.Sublist.refl _⟩
 | x::y::r,_=>by
  obtain⟨h1,h2⟩:=zaB (l:=y::r) (by simp)
  show (x::y::r).length≤(x++32::qb 32 (y::r)).count 32+1∧∀z∈x::y::r,z.Sublist (x++32::qb 32 (y::r))
  rw [List.count_append,List.count_cons_self,List.length_cons (a:=x)]
  refine⟨by omega,fun z hz=>?_⟩
  rcases List.mem_cons.mp hz with rfl | hz
  ·exact List.sublist_append_left ..
  ·exact((h2 z hz).trans (List.sublist_cons_self ..)).trans (List.sublist_append_right ..)
structure Words (o:Str) (w0:Str) (ws:List Str):Prop where
 eq:Txt.split o sp=w0::ws
 wd:∀x∈w0::ws,Z5 x
 jn:Txt.join sp (w0::ws)=o
theorem words_of (o:Str):∃w0 ws,Words o w0 ws:=by
 cases e:Txt.split o sp with
 | nil=>exact absurd e (za6 _ _)
 | cons w0 ws=>exact⟨w0,ws,e,by rw [← e];exact zb1 o,by rw [← e];exact za7 o⟩
theorem Words.sm {m k:Nat}{o w0:Str}{ws:List Str} (W:Words o w0 ws) (h:Sm m k o):ws.length≤k∧∀x∈w0::ws,Sm m k x:=by
 have e:cpl o=qb 32 ((w0::ws).map cpl):=by rw [← qI];exact congrArg cpl W.jn.symm
 obtain⟨h1,h2⟩:=zaB (l:=(w0::ws).map cpl) (by simp)
 rw [← e,List.length_map,List.length_cons] at h1
 refine⟨by have:=h.2.1;unfold blk at this;omega,fun x hx=>zdp h ?_⟩
 rw [e]
 exact h2 _ (List.mem_map.mpr ⟨x,hx,rfl⟩)
theorem Zf {ws:List Str}{i:Int} (h0:0≤i) (h1:i<ws.length):∃x,atI (ws.map V.str) i=some (.str x)∧x∈ws:=by
 obtain⟨n,rfl⟩:∃n:Nat,i=(n:Int):=⟨i.toNat,by omega⟩
 have hn:n<ws.length:=by omega
 exact⟨ws[n],atI_nat (by rw [List.getElem?_map,List.getElem?_eq_getElem hn];rfl),List.getElem_mem hn⟩
theorem zd9 {n:Int}{k:Nat} (hk:1≤k) (h0:0≤n) (h1:n<10 ^ k):Sm k 0 (txt n):=by
 have h:=Kc hk h0 h1
 have d:∀c,(48≤c∧c≤57)∨c ∉ cpl (txt n):=fun c=>by
  by_cases z:c∈cpl (txt n)
  ·obtain⟨m,rfl⟩:=Int.eq_ofNat_of_zero_le h0
   exact .inl (zam m c z)
  ·exact .inr z
 have no:∀c,¬(48≤c∧c≤57)→(cpl (txt n)).count c=0:=fun c z=>List.count_eq_zero.mpr ((d c).resolve_left z)
 exact yI ⟨h.le,by rw [no 32 (by decide)];exact Nat.le_refl _,by rw [no 98 (by decide),no 121 (by decide)]⟩
theorem zfZ {t b l:Int} (t0:0≤t) (t1:t<10 ^ 60) (b0:0≤b) (b1:b≤60) (l0:0≤l):cnt t b l<10 ^ 4000:=by
 have big:(0:Int)<10 ^ 4000:=by decide +kernel
 unfold cnt
 split
 ·exact big
 rename_i h
 have g0:0≤(t-b) / (l+1):=Int.ediv_nonneg (by omega) (by omega)
 have g1:(t-b) / (l+1)≤t-b:=Int.ediv_le_self _ (by omega)
 generalize hN:(t-b) / (l+1)+b=N at *
 have n0:0≤N:=by omega
 have n1:N≤t:=by omega
 obtain⟨n,rfl⟩:∃n:Nat,N=(n:Int):=⟨N.toNat,by omega⟩
 obtain⟨k,rfl⟩:∃k:Nat,b=(k:Int):=⟨b.toNat,by omega⟩
 unfold ch
 have e1:=Ku n k
 have hn:n≤10 ^ 60:=by
  have:(n:Int)<10 ^ 60:=by omega
  have e:((10 ^ 60:Nat):Int)=(10:Int) ^ 60:=by rw [Int.natCast_pow];rfl
  rw [← e] at this
  omega
 have e2:n ^ k≤(10 ^ 60) ^ 60:=Nat.le_trans (Nat.pow_le_pow_left hn k) (Nat.pow_le_pow_right (Nat.pos_of_ne_zero (by decide)) (by omega))
 have e3:((10 ^ 60) ^ 60:Nat)<10 ^ 4000:=by rw [← Nat.pow_mul];exact Nat.pow_lt_pow_right (by decide) (by decide)
 have e4:C n k<10 ^ 4000:=Nat.lt_of_le_of_lt (Nat.le_trans e1 e2) e3
 have e5:((10 ^ 4000:Nat):Int)=(10:Int) ^ 4000:=by rw [Int.natCast_pow];rfl
 rw [← e5]
 show ((C (Int.toNat (n:Int)) (Int.toNat (k:Int)):Nat):Int) < _
 exact Int.ofNat_lt.mpr e4
noncomputable def fl3 (t b l:Int):List (Str×V):=[("turns",.int t),("bells",.int b),("late",.int l)]
theorem zea:¬(("turns":Str)="bells"):=by decide +kernel
theorem zf0:¬(("turns":Str)="late"):=by decide +kernel
theorem zf1:¬(("bells":Str)="turns"):=by decide +kernel
theorem zf2:¬(("bells":Str)="late"):=by decide +kernel
theorem zf3:¬(("late":Str)="turns"):=by decide +kernel
theorem zf4:¬(("late":Str)="bells"):=by decide +kernel
theorem zbn (t b l:Int):(fl3 t b l).lookup ("turns":Str)=some (V.int t):=by
 unfold fl3
 simp only [List.lookup_cons,beq_self_eq_true]
theorem zbo (t b l:Int):(fl3 t b l).lookup ("bells":Str)=some (V.int b):=by
 unfold fl3
 simp only [List.lookup_cons,show (("bells":Str) == "turns")=false from beq_eq_false_iff_ne.mpr zf1,beq_self_eq_true]
theorem zcL (t b l:Int):(fl3 t b l).lookup ("late":Str)=some (V.int l):=by
 unfold fl3
 simp only [List.lookup_cons,show (("late":Str) == "turns")=false from beq_eq_false_iff_ne.mpr zf3,show (("late":Str) == "bells")=false from beq_eq_false_iff_ne.mpr zf4,beq_self_eq_true]
theorem put3 (t b l:Int):putF "late" (V.int l) (putF "bells" (V.int b) (putF "turns" (V.int t) []))=fl3 t b l:=by
 unfold fl3
 simp only [putF,if_neg zea,if_neg zf0,if_neg zf2]
noncomputable def fr1 (d:Addr):List (Str×V):=[("frames",.ref d)]
theorem JG (d:Addr):(fr1 d).lookup ("frames":Str)=some (V.ref d):=by
 unfold fr1
 simp only [List.lookup_cons,beq_self_eq_true]
theorem xR {d:Addr}{m:Str} (h:¬m="frames"):(fr1 d).lookup m=none:=by
 unfold fr1
 simp only [List.lookup_cons,List.lookup_nil,beq_eq_false_iff_ne.mpr h]
noncomputable def qw (x:Addr) (H H':Hp):Prop:=∀a o,H a=some o→a≠x→H' a=some o
theorem qw.of {x:Addr} {H H':Hp} (s:Same H H'):qw x H H':=fun a o h _=>s a o h
theorem qw.trans {x:Addr} {H H' H2:Hp} (s:qw x H H') (s2:qw x H' H2):qw x H H2:=fun a o h n=>s2 a o (s a o h n) n
theorem qw.put {x:Addr} {H H':Hp}{o:HO} (s:qw x H H'):qw x H (upd H' x o):=fun a v h n=>by rw [upd_ne n];exact s a v h n
theorem qw.new {x p:Addr} {H H':Hp}{o:HO} (s:qw x H H') (hp:H' p=none):qw x H (upd H' p o):=fun a v h n=>(Same.new hp) a v (s a v h n)
structure DkT (K:W.Frag) (CD CF:Addr):Prop where
 cd:Cls K CD
 cf:Cls K CF
 n1:NoAttr K CF "turns"
 n2:NoAttr K CF "bells"
 n3:NoAttr K CF "late"
 n4:NoAttr K CD "frames"
structure ze7 (t b l:Int):Prop where
 t0:0≤t
 t1:t<10 ^ 60
 b0:0≤b
 b1:b≤60
 l0:0≤l
 l1:l<10 ^ 60
 c1:cnt t b l<10 ^ 4000
theorem p60:(10:Int) ^ 60≤2 ^ 200:=by decide +kernel
theorem Vl {x:Int} (h0:0≤x) (h1:x<10 ^ 60):intBits x≤200:=qP h0 (Int.lt_of_lt_of_le h1 p60)
noncomputable def zf5 (CF:Addr) (H:Hp) (p:Addr) (t b l:Int):Prop:=∃dx,H p=some (.ins CF dx (fl3 t b l))
structure qt (CD CF x d:Addr) (n:Nat) (fr:Str→Option (Int×Int×Int)) (H:Hp):Prop where
 self:∃dx,H x=some (.ins CD dx (fr1 d))
 dict:∃kvs,H d=some (.dK kvs)∧kvs.length≤n∧(∀nm,fr nm=none→valV kvs (Sum.inr nm)=none)∧∀nm t b l,fr nm=some (t,b,l)→∃p,valV kvs (Sum.inr nm)=some (.ref p)∧zf5 CF H p t b l
 ok:∀nm t b l,fr nm=some (t,b,l)→ze7 t b l
theorem qt.mono {CD CF x d:Addr}{n:Nat}{fr:Str→Option (Int×Int×Int)} {H H':Hp} (s:Same H H') (h:qt CD CF x d n fr H):qt CD CF x d n fr H':=by
 obtain⟨⟨dx,h1⟩,⟨kvs,h2,h3,h4,h5⟩,h6⟩:=h
 exact⟨⟨dx,s _ _ h1⟩,⟨kvs,s _ _ h2,h3,h4,fun nm t b l e=>(h5 nm t b l e).imp fun p hp=>⟨hp.1,hp.2.imp fun dx h=>s _ _ h⟩⟩,h6⟩
theorem XN {κ:Type} [DecidableEq κ] (kvs:List (κ×V)) (k:κ) (v:V):(putK kvs k v).length≤kvs.length+1:=by
 unfold putK
 split <;> simp
section
variable {CD CF:Addr}
noncomputable def KY (CF:Addr):Sp:=fun vs H Q _=>∃(x dx:Addr) (t b l:Int),vs=[.ref x,.int t,.int b,.int l]∧H x=some (.ins CF dx [])∧∀H',qw x H H'→H' x=some (.ins CF dx (fl3 t b l))→Q .non H'
theorem WY:FnScope ["self","turns","bells","late"] ["self","turns","bells","late"] (defScope qZ):=⟨rfl,rfl,rfl,by decide +kernel,rfl,by decide +kernel,by decide +kernel⟩
theorem zdq {f:Addr}{fd:FuncData} (F:Jd K "__init__" "Frame.__init__" qZ f fd) (hT:DkT K CD CF):FnOk P w K mg base CX0 1 f fd ["self","turns","bells","late"] (KY CF):=by
 refine F.ok WY (fun vs H Q E h=>?_) (fun cdv A outer s H vs Q E hr h=>?_)
 ·obtain⟨x,dx,t,b,l,rfl,_⟩:=h
  rfl
 ·obtain⟨x,dx,t,b,l,rfl,hx,q⟩:=h
  refine⟨_,(pss_cons (ps_fld (pv 0) (pv 1) rfl)
   (pss_cons (ps_fld (pv 0) (pv 2) rfl)
   (pss_one (ps_fld (pv 0) (pv 3) rfl)))),?_⟩
  refine⟨_,rfl,_,rfl,x,CF,dx,_,rfl,hx,hT.cf,hT.n1,(by show 0<1000;decide),?_⟩
  refine⟨_,rfl,_,rfl,x,CF,dx,_,rfl,upd_same,hT.cf,hT.n2,(by show 1<1000;decide),?_⟩
  refine⟨_,rfl,_,rfl,x,CF,dx,_,rfl,upd_same,hT.cf,hT.n3,(by simp only [putF,if_neg zea];show 2<1000;decide),?_⟩
  rw [put3]
  exact q _ ((qw.of (Same.refl _)).put.put.put) upd_same
noncomputable def zbp (CD CF:Addr):Sp:=fun vs H Q _=>∃(x dx:Addr),vs=[.ref x]∧H x=some (.ins CD dx [])∧∀d H',qw x H H'→H d=none→qt CD CF x d 0 (fun _=>none) H'→Q .non H'
theorem zaC:FnScope ["self"] ["self"] (defScope jq):=⟨rfl,rfl,rfl,by decide +kernel,rfl,by decide +kernel,by decide +kernel⟩
theorem zdr {f:Addr}{fd:FuncData} (F:Jd K "__init__" "Desk.__init__" jq f fd) (hT:DkT K CD CF):FnOk P w K mg base CX0 1 f fd ["self"] (zbp CD CF):=by
 refine F.ok zaC (fun vs H Q E h=>?_) (fun cdv A outer s H vs Q E hr h=>?_)
 ·obtain⟨x,dx,rfl,_⟩:=h
  rfl
 ·obtain⟨x,dx,rfl,hx,q⟩:=h
  refine⟨_,(pss_one (ps_fld (pv 0) pe_dnewK rfl)),?_⟩
  refine fun d hd=>⟨_,rfl,x,CD,dx,_,rfl,(Same.new hd) _ _ hx,hT.cd,hT.n4,(by show 0<1000;decide),?_⟩
  have nd:d≠x:=fun e=>by rw [e,hx] at hd;cases hd
  refine q d _ ((qw.of (Same.new hd)).put) hd ⟨⟨dx,upd_same⟩,⟨[],by rw [upd_ne nd,upd_same],Nat.le_refl _,fun _ _=>rfl,fun _ _ _ _ e=>nomatch e⟩,fun _ _ _ _ e=>nomatch e⟩
noncomputable def Y7 (CF:Addr):Sp:=fun vs H Q _=>∃(p:Addr) (t b l:Int),vs=[.ref p]∧zf5 CF H p t b l∧ze7 t b l∧Q (.int (cnt t b l)) H
theorem zbq:FnScope ["frame"] ["frame"] (defScope wL):=⟨rfl,rfl,rfl,by decide +kernel,rfl,by decide +kernel,by decide +kernel⟩
theorem zbr (D:Def K mg "count_of" wL ["frame"]) (hT:DkT K CD CF) (qU:Fn P w K mg base 2 "box_count" ["turns","bells","late"] XD):Fn P w K mg base 3 "count_of" ["frame"] (Y7 CF):=by
 refine D.fn zbq (fun vs H Q E h=>?_) (fun f cdv A outer s H vs Q E hr h=>?_)
 ·obtain⟨p,t,b,l,rfl,_⟩:=h
  rfl
 ·obtain⟨p,t,b,l,rfl,⟨dx,hx⟩,ok,q⟩:=h
  refine⟨_,(pss_one (ps_ret (qm qU (hr.mono (by decide)) (by rfl) (pa_cons (pe_fld (pv 0) rfl) (pa_cons (pe_fld (pv 0) rfl) (pa_cons (pe_fld (pv 0) rfl) pa_nil)))))),?_⟩
  exact⟨_,rfl,p,CF,dx,_,_,rfl,hx,hT.cf,hT.n1,zbn ..,_,rfl,p,CF,dx,_,_,rfl,hx,hT.cf,hT.n2,zbo ..,_,rfl,p,CF,dx,_,_,rfl,hx,hT.cf,hT.n3,zcL ..,t,b,l,rfl,ok.b0,Int.le_trans ok.b1 (by decide),ok.l0,zO (Vl ok.l0 ok.l1) (by decide),zO (Vl ok.t0 ok.t1) (by decide),q⟩
noncomputable def KZ (CD CF CN:Addr):Sp:=fun vs H Q E=>∃(x d:Addr) (n:Nat) (fr:Str→Option (Int×Int×Int)) (nm:Str),vs=[.ref x,.str nm]∧qt CD CF x d n fr H∧(fr nm=none→E (.ref CN) none H)∧∀t b l,fr nm=some (t,b,l)→∀p,zf5 CF H p t b l→Q (.ref p) H
theorem zaD:FnScope ["self","name"] ["self","name"] (defScope jw):=⟨rfl,rfl,rfl,by decide +kernel,rfl,by decide +kernel,by decide +kernel⟩
theorem ze8 {f:Addr}{fd:FuncData} (F:Jd K "kept" "Desk.kept" jw f fd) (hT:DkT K CD CF){zE:Addr} (xJ:mg "NoName"=some (.ref zE)) (yJ:W.excIn K zE bmV "ValueError.__new__"=true):FnOk P w K mg base (CXE P w) 1 f fd ["self","name"] (KZ CD CF zE):=by
 refine F.okE zaD (fun vs H Q E h=>?_) (fun cdv A outer s H vs Q E hr h=>?_)
 ·obtain⟨x,d,n,fr,nm,rfl,_⟩:=h
  rfl
 ·obtain⟨x,d,n,fr,nm,rfl,⟨⟨dx,hx⟩,⟨kvs,hd,_,k1,k2⟩,_⟩,q1,q2⟩:=h
  refine⟨_,(pss_cons (ps_if (pt_cmp (pc_dnotin (hu_of hr) (pv 1) (pe_fld (pv 0) rfl)))
    (pss_one (vm PySem.F.excBase_ValueError yJ (by rfl) xJ (pa_cons pe_str pa_nil zg)))
    pss_nil)
   (pss_one (ps_ret (pe_dget (hu_of hr) (pe_fld (pv 0) rfl) (pv 1) (fun _ _=>rfl))))),?_⟩
  refine⟨_,rfl,_,rfl,x,CD,dx,_,_,rfl,hx,hT.cd,hT.n4,JG d,d,_,rfl,DGet.k (k:=Sum.inr nm) hd,?_⟩
  cases e:fr nm with
  | none=>
   rw [k1 nm e]
   exact⟨_,rfl,iteT ⟨(by decide),q1 e⟩⟩
  | some z=>
   obtain⟨t,b,l⟩:=z
   obtain⟨p,hp,ip⟩:=k2 nm t b l e
   rw [hp]
   refine⟨_,rfl,iteF ⟨_,rfl,x,CD,dx,_,_,rfl,hx,hT.cd,hT.n4,JG d,_,rfl,d,V.ref p,rfl,?_,q2 t b l e p ip⟩⟩
   have:=DGet.k (k:=Sum.inr nm) hd
   rw [hp] at this
   exact this
end
noncomputable def vU (fr:Str→Option (Int×Int×Int)) (nm:Str) (z:Int×Int×Int):Str→Option (Int×Int×Int):=fun m=>if m=nm then some z else fr m
section
variable {CD CF:Addr}
structure jQ (w1 w2 w3 w4:Str):Prop where
 a:zK w1
 b:Num 60 w2
 c:ji w3
 d:Num 60 w4
noncomputable def zce (CD CF CO:Addr):Sp:=fun vs H Q E=>∃(x a d:Addr) (n:Nat) (fr:Str→Option (Int×Int×Int)) (w0 w1 w2 w3 w4:Str),vs=[.ref x,.ref a]∧qt CD CF x d n fr H∧n<1000∧H a=some (.lst ([w0,w1,w2,w3,w4].map V.str))∧w1.length≤1000000∧w2.length≤1000000∧w3.length≤1000000∧w4.length≤1000000 ∧
 (¬jQ w1 w2 w3 w4→∀H',Same H H'→E (.ref CO) none H')∧(jQ w1 w2 w3 w4→ze7 (zA w2) (zA w3) (zA w4)∧∀H',qw d H H'→qt CD CF x d (n+1) (vU fr w1 (zA w2,zA w3,zA w4)) H'→Q (.str ("messages "++txt (cnt (zA w2) (zA w3) (zA w4)))) H')
theorem yo:FnScope ["self","words","name","frame","count"] ["self","words"] (defScope jt):=⟨rfl,rfl,rfl,by decide +kernel,rfl,by decide +kernel,by decide +kernel⟩
theorem ze9 {f:Addr}{fd:FuncData} (ND:NoDig K) (F:Jd K "keep" "Desk.keep" jt f fd) (hT:DkT K CD CF){zj:Addr} (Qa:mg "Frame"=some (.ref CF)) (qD:FnE P w K mg base 2 "name_in" ["word"] (XJ zj)) (zG:FnE P w K mg base 3 "number_in" ["word"] (Zt zj 60)) (qG:FnE P w K mg base 4 "bells_in" ["word"] (XM zj)) (K3:MkX CX0 P w K mg base 1 CF ["self","turns","bells","late"] (KY CF)) (JH:Fn P w K mg base 3 "count_of" ["frame"] (Y7 CF)):FnOk P w K mg base (CXE P w) 5 f fd ["self","words"] (zce CD CF zj):=by
 refine F.okE yo (fun vs H Q E h=>?_) (fun cdv A outer s H vs Q E hr h=>?_)
 ·obtain⟨x,a,d,n,fr,w0,w1,w2,w3,w4,rfl,_⟩:=h
  rfl
 ·obtain⟨x,a,d,n,fr,w0,w1,w2,w3,w4,rfl,hD,hn,hA,l1,l2,l3,l4,q2,q1⟩:=h
  refine⟨_,(pss_cons (ps_set (i:=2) yo.nd rfl (Or.inl rfl) (z7 qD (hr.mono (by decide)) (by rfl) zL (pa_cons (pe_ix ix_list (pv 1) pe_int (fun _ _=>rfl)) pa_nil zy)))
   (pss_cons (ps_set (i:=3) yo.nd rfl (Or.inl rfl) (zjW K3 (hr.mono (by decide)) (by rfl) Qa (pa_cons (z7 zG (hr.mono (by decide)) (by rfl) zL (pa_cons (pe_ix ix_list (pv 1) pe_int (fun _ _=>rfl)) pa_nil zy)) (pa_cons (z7 qG (hr.mono (by decide)) (by rfl) zL (pa_cons (pe_ix ix_list (pv 1) pe_int (fun _ _=>rfl)) pa_nil zy)) (pa_cons (z7 zG (hr.mono (by decide)) (by rfl) zL (pa_cons (pe_ix ix_list (pv 1) pe_int (fun _ _=>rfl)) pa_nil zy)) pa_nil zu) zu) zu)))
   (pss_cons (ps_dput (hu_of hr) (pe_fld (pv 0) rfl) (pv 2) (pv 3) rfl)
   (pss_cons (ps_set (i:=4) yo.nd rfl (Or.inl rfl) (qm JH (hr.mono (by decide)) (by rfl) (pa_cons (pv 3) pa_nil zf)))
   (pss_one (ps_ret (zfH (.cons pe_str (.cons (Kd ND (pv 4)) .nil))))))))),?_⟩
  refine⟨_,rfl,a,_,1,_,rfl,rfl,SqL.of hA,rfl,w1,rfl,l1,fun g1 H1 s1=>?_,fun g1 H1 s1=>q2 (fun z=>g1 z.a) H1 s1⟩
  have hA1:=s1 _ _ hA
  refine⟨_,rfl,a,_,2,_,rfl,rfl,SqL.of hA1,rfl,w2,rfl,l2,fun g2 H2 s2=>?_,fun g2 H2 s2=>q2 (fun z=>g2 z.b) H2 (s1.trans s2)⟩
  have hA2:=s2 _ _ hA1
  refine⟨_,rfl,a,_,3,_,rfl,rfl,SqL.of hA2,rfl,w3,rfl,l3,fun g3 H3 s3=>?_,fun g3 H3 s3=>q2 (fun z=>g3 z.c) H3 ((s1.trans s2).trans s3)⟩
  have hA3:=s3 _ _ hA2
  refine⟨_,rfl,a,_,4,_,rfl,rfl,SqL.of hA3,rfl,w4,rfl,l4,fun g4 H4 s4=>?_,fun g4 H4 s4=>q2 (fun z=>g4 z.d) H4 (((s1.trans s2).trans s3).trans s4)⟩
  have s04:=((s1.trans s2).trans s3).trans s4
  obtain⟨ok,q1⟩:=q1 ⟨g1,g2,g3,g4⟩
  refine fun p dx hp hdx ne=>⟨p,dx,_,_,_,rfl,upd_same,fun H5 s5 h5=>⟨rfl,?_⟩⟩
  have s45:Same H4 H5:=fun c o hc=>by
   have n1:c≠p:=fun e=>by rw [e,hp] at hc;cases hc
   have n2:c≠dx:=fun e=>by rw [e,hdx] at hc;cases hc
   exact s5 c o (by rw [upd_ne n1,upd_ne n2];exact hc) n1
  have s05:=s04.trans s45
  obtain⟨⟨dd,hx⟩,⟨kvs,hd,kl,k1,k2⟩,fo⟩:=hD.mono s05
  have np:p≠d:=fun e=>by
   obtain⟨kv0,hd0,_⟩:=hD.dict
   have:=s04 _ _ hd0
   rw [← e,hp] at this
   cases this
  refine⟨_,rfl,_,rfl,x,CD,dd,_,_,rfl,hx,hT.cd,hT.n4,JG d,_,rfl,d,_,rfl,DPut.k (k:=Sum.inr w1) hd (by rw [sizeLine_eq];omega),?_⟩
  have nx:x≠d:=fun e=>by rw [e,hd] at hx;cases hx
  have hp6:(upd H5 d (.dK (putK kvs (Sum.inr w1) (V.ref p)))) p=some (.ins CF dx (fl3 (zA w2) (zA w3) (zA w4))):=by rw [upd_ne np];exact h5
  refine⟨_,rfl,p,_,_,_,rfl,⟨dx,hp6⟩,ok,?_⟩
  have c0:=Z9 (zA w2) (zA w3) (zA w4)
  have em:Str.empty++("messages ":Str)="messages ":=by decide +kernel
  have lm:("messages ":Str).length=9:=by decide +kernel
  have lc:("messages "++txt (cnt (zA w2) (zA w3) (zA w4))).length≤sizeLine:=by
   have h2:=(Kc (k:=4000) (by decide) c0 ok.c1).le
   rw [← zF,jo,List.length_append,zF,zF,lm,sizeLine_eq]
   omega
  refine⟨"messages ",rfl,by rw [em,lm,sizeLine_eq];decide,_,rfl,_,rfl,lgB c0 ok.c1,txt (cnt (zA w2) (zA w3) (zA w4)),rfl,by rw [em];exact lc,by rw [em];exact lc,?_⟩
  rw [em]
  refine q1 _ ((qw.of s05).put) ⟨⟨dd,by rw [upd_ne nx];exact hx⟩,⟨_,upd_same,?_,fun nm e=>?_,fun nm t b l e=>?_⟩,fun nm t b l e=>?_⟩
  ·have:=XN kvs (Sum.inr w1) (V.ref p)
   omega
  ·unfold vU at e
   split at e
   ·cases e
   ·rename_i h
    rw [valV_put,if_neg (fun z=>h (Sum.inr.inj z))]
    exact k1 nm e
  ·unfold vU at e
   rw [valV_put]
   split at e
   ·rename_i h
    cases e
    rw [if_pos (by rw [h])]
    exact⟨p,rfl,dx,hp6⟩
   ·rename_i h
    rw [if_neg (fun z=>h (Sum.inr.inj z))]
    obtain⟨r,hr1,dr,hr2⟩:=k2 nm t b l e
    have nr:r≠d:=fun z=>by rw [z,hd] at hr2;cases hr2
    exact⟨r,hr1,dr,by rw [upd_ne nr];exact hr2⟩
  ·unfold vU at e
   split at e
   ·cases e
    exact ok
   ·exact fo nm t b l e
end
theorem zcM (x y:V) (r:List V):cutV (x::y::r) (some 2) none=r:=by
 unfold cutV
 have e:HT.sIx (x::y::r).length 0 (some 2)=min 2 (x::y::r).length:=HT.sIx_nat ..
 rw [e]
 show ((x::y::r).drop (min 2 (r.length+2))).take ((r.length+2)-min 2 (r.length+2))=r
 rw [show min 2 (r.length+2)=2 by omega]
 exact List.take_of_length_le (Nat.le_refl _)
theorem zj3:(10:Int) ^ 3000≤2 ^ 10000:=by decide +kernel
theorem zlq:(10:Int) ^ 60≤10 ^ 500:=by decide +kernel
theorem zfa {bs:List Int}{turns late:Int} (B:vd bs) (l0:0≤late) (h:WD bs<cnt turns (bs.length:Int) late):∀x∈ZQ late bs,0≤x∧x<turns:=fun x hx=>by
 obtain⟨i,hi⟩:=List.getElem?_of_mem hx
 obtain⟨c,hc,rfl⟩:=zb6 hi
 have il:=(List.getElem?_eq_some_iff.mp hc).1
 have:=zfY B l0 h il
 rw [List.getD_eq_getElem?_getD,hc,Option.getD_some] at this
 have:=Int.mul_nonneg (B.2 c (List.mem_of_getElem? hc)) (show 0≤late+1 by omega)
 omega
section
variable {CD CF:Addr}
noncomputable def zcf (CD CF CO CN CT:Addr):Sp:=fun vs H Q E=>∃(x a d:Addr) (n:Nat) (fr:Str→Option (Int×Int×Int)) (w0 w1 w2:Str),vs=[.ref x,.ref a]∧qt CD CF x d n fr H∧H a=some (.lst ([w0,w1,w2].map V.str))∧w1.length≤1000000∧w2.length≤1000000 ∧
 (¬(zK w1∧Num 3000 w2)→∀H',Same H H'→E (.ref CO) none H')∧(zK w1→Num 3000 w2→fr w1=none→∀H',Same H H'→E (.ref CN) none H') ∧
 (zK w1→Num 3000 w2→∀t b l,fr w1=some (t,b,l)→w0≠"key"∧(zA w2<cnt t b l→∀bs H',Same H H'→vd bs→bs.length=b.toNat→WD bs=zA w2→Q (.str (wQ (ZQ l bs))) H')∧(¬zA w2<cnt t b l→∀H',Same H H'→E (.ref CT) none H'))
theorem yq:FnScope ["self","words","name","message","frame"] ["self","words"] (defScope ju):=⟨rfl,rfl,rfl,by decide +kernel,rfl,by decide +kernel,by decide +kernel⟩
theorem zfb {f:Addr}{fd:FuncData} (F:Jd K "ring" "Desk.ring" ju f fd) (hT:DkT K CD CF){zj zE zr:Addr} (qD:FnE P w K mg base 2 "name_in" ["word"] (XJ zj)) (qx:FnE P w K mg base 3 "message_in" ["word"] (Zt zj 3000)) (yr:MtE P w K mg base 1 CD "kept" ["self","name"] (KZ CD CF zE)) (JK:FnE P w K mg base 40 "written" ["message","turns","bells","late"] (KN K zr)) (K4:FnE P w K mg base 41 "keyed" ["message","turns","bells","late"] (fun _ _ _ _=>False)) (jy:Fn P w K mg base 1 "turns_told" ["turns"] (Ze K)):FnOk P w K mg base (CXE P w) 45 f fd ["self","words"] (zcf CD CF zj zE zr):=by
 refine F.okE yq (fun vs H Q E h=>?_) (fun cdv A outer s H vs Q E hr h=>?_)
 ·obtain⟨x,a,d,n,fr,w0,w1,w2,rfl,_⟩:=h
  rfl
 ·obtain⟨x,a,d,n,fr,w0,w1,w2,rfl,hD,hA,l1,l2,q1,q2,q3⟩:=h
  refine⟨_,(pss_cons (ps_set (i:=2) yq.nd rfl (Or.inl rfl) (z7 qD (hr.mono (by decide)) (by rfl) zL (pa_cons (pe_ix ix_list (pv 1) pe_int (fun _ _=>rfl)) pa_nil zy)))
   (pss_cons (ps_set (i:=3) yq.nd rfl (Or.inl rfl) (z7 qx (hr.mono (by decide)) (by rfl) zL (pa_cons (pe_ix ix_list (pv 1) pe_int (fun _ _=>rfl)) pa_nil zy)))
   (pss_cons (ps_set (i:=4) yq.nd rfl (Or.inl rfl) (QC (pv 0) yr (hr.mono (by decide)) zL (pa_cons (pv 2) pa_nil zf)))
   (pss_cons (ps_if (pt_cmpR op_eq (pe_ix ix_list (pv 1) pe_int (fun _ _=>rfl)) pe_str (nomark _))
    (pss_one (ps_ret (qm jy (hr.mono (by decide)) (by rfl) (pa_cons (z7 K4 (hr.mono (by decide)) (by rfl) zL (pa_cons (pv 3) (pa_cons (pe_fld (pv 4) rfl) (pa_cons (pe_fld (pv 4) rfl) (pa_cons (pe_fld (pv 4) rfl) pa_nil))) zf)) pa_nil zu))))
    pss_nil)
   (pss_one (ps_ret (qm jy (hr.mono (by decide)) (by rfl) (pa_cons (z7 JK (hr.mono (by decide)) (by rfl) zL (pa_cons (pv 3) (pa_cons (pe_fld (pv 4) rfl) (pa_cons (pe_fld (pv 4) rfl) (pa_cons (pe_fld (pv 4) rfl) pa_nil))) zf)) pa_nil zu)))))))),?_⟩
  refine⟨_,rfl,a,_,1,_,rfl,rfl,SqL.of hA,rfl,w1,rfl,l1,fun g1 H1 s1=>?_,fun g1 H1 s1=>q1 (fun z=>g1 z.1) H1 s1⟩
  have hA1:=s1 _ _ hA
  refine⟨_,rfl,a,_,2,_,rfl,rfl,SqL.of hA1,rfl,w2,rfl,l2,fun g2 H2 s2=>?_,fun g2 H2 s2=>q1 (fun z=>g2 z.2) H2 (s1.trans s2)⟩
  have s02:=s1.trans s2
  have hD2:=hD.mono s02
  have hA2:=s2 _ _ hA1
  obtain⟨dx,hx⟩:=hD2.self
  refine⟨_,rfl,x,dx,_,rfl,hx,xR (by decide +kernel),_,rfl,x,d,n,fr,w1,rfl,hD2,fun e=>q2 g1 g2 e H2 s02,fun t b l e p ip=>?_⟩
  obtain⟨pdx,hp⟩:=ip
  have ok:=hD.ok w1 t b l e
  obtain⟨nk,q4,q5⟩:=q3 g1 g2 t b l e
  have m0:=yh w2
  have mb:intBits (zA w2)≤50000:=zO (qP m0 (Int.lt_of_lt_of_le (Xx g2) zj3)) (by decide)
  refine⟨_,rfl,a,_,0,_,rfl,rfl,SqL.of hA2,rfl,rfl,_,rfl,ifD (fun z=>absurd (V.str.inj z) nk) (fun z=>?_)⟩
  refine⟨_,rfl,_,rfl,p,CF,pdx,_,_,rfl,hp,hT.cf,hT.n1,zbn ..,_,rfl,p,CF,pdx,_,_,rfl,hp,hT.cf,hT.n2,zbo ..,_,rfl,p,CF,pdx,_,_,rfl,hp,hT.cf,hT.n3,zcL ..,zA w2,t,b,l,rfl,ok.b0,ok.b1,ok.l0,zO (Vl ok.l0 ok.l1) (by decide),zO (Vl ok.t0 ok.t1) (by decide),mb,fun g r bs H3 s3 _ h3 B bl nb sz=>?_,fun g=>q5 (fun y=>g ⟨m0,y⟩) H2 s02⟩
  have b0:=ok.b0
  have eb:(bs.length:Int)=b:=by omega
  refine⟨r,ZQ l bs,rfl,SqL.of h3,by rw [XC];have:=ok.b1;omega,fun y hy=>?_,fun H4 s4=>q4 g.2 bs H4 ((s02.trans s3).trans s4) B bl nb⟩
  obtain⟨k2,k1⟩:=zfa B ok.l0 (by rw [nb,eb];exact g.2) y hy
  exact⟨k2,Int.lt_trans k1 (Int.lt_of_lt_of_le ok.t1 zlq)⟩
noncomputable def K5 (CD CF CO CN:Addr):Sp:=fun vs H Q E=>∃(x a d:Addr) (n:Nat) (fr:Str→Option (Int×Int×Int)) (w0 w1:Str) (ws:List Str),vs=[.ref x,.ref a]∧qt CD CF x d n fr H∧H a=some (.lst ((w0::w1::ws).map V.str))∧w1.length≤1000000∧ws.length≤1000000∧(∀y∈ws,y.length≤1000000) ∧
 (¬(zK w1∧j5 ws)→∀H',Same H H'→E (.ref CO) none H')∧(zK w1→j5 ws→fr w1=none∧∀H',Same H H'→E (.ref CN) none H')
theorem vK:FnScope ["self","words","name","reading","frame"] ["self","words"] (defScope qK):=⟨rfl,rfl,rfl,by decide +kernel,rfl,by decide +kernel,by decide +kernel⟩
theorem zds {f:Addr}{fd:FuncData} (F:Jd K "listen" "Desk.listen" qK f fd) (hT:DkT K CD CF){zj zE:Addr} (qD:FnE P w K mg base 2 "name_in" ["word"] (XJ zj)) (QK:FnE P w K mg base 4 "turns_in" ["words"] (zbl K zj)) (yr:MtE P w K mg base 1 CD "kept" ["self","name"] (KZ CD CF zE)) (zaE:FnE P w K mg base 3 "read" ["reading","turns","bells","late"] (fun _ _ _ _=>False)) (JL:FnE P w K mg base 4 "unkeyed" ["reading","turns","bells","late"] (fun _ _ _ _=>False)) (qH:Fn P w K mg base 1 "number_told" ["number"] Ja) (Zu:FnE P w K mg base 44 "note_heard" ["reading","frame"] (fun _ _ _ _=>False)):FnOk P w K mg base (CXE P w) 45 f fd ["self","words"] (K5 CD CF zj zE):=by
 refine F.okE vK (fun vs H Q E h=>?_) (fun cdv A outer s H vs Q E hr h=>?_)
 ·obtain⟨x,a,d,n,fr,w0,w1,ws,rfl,_⟩:=h
  rfl
 ·obtain⟨x,a,d,n,fr,w0,w1,ws,rfl,hD,hA,l1,l2,l3,q1,q2⟩:=h
  refine⟨_,(pss_cons (ps_set (i:=2) vK.nd rfl (Or.inl rfl) (z7 qD (hr.mono (by decide)) (by rfl) zL (pa_cons (pe_ix ix_list (pv 1) pe_int (fun _ _=>rfl)) pa_nil zy)))
   (pss_cons (ps_set (i:=3) vK.nd rfl (Or.inl rfl) (z7 QK (hr.mono (by decide)) (by rfl) zL (pa_cons (pe_slice sl_list (pv 1) (po_some pe_int) po_none) pa_nil zy)))
   (pss_cons (ps_set (i:=4) vK.nd rfl (Or.inl rfl) (QC (pv 0) yr (hr.mono (by decide)) zL (pa_cons (pv 2) pa_nil zf)))
   (pss_cons (ps_if (pt_cmpR op_eq (pe_ix ix_list (pv 1) pe_int (fun _ _=>rfl)) pe_str (nomark _))
    (pss_one (ps_ret (qm qH (hr.mono (by decide)) (by rfl) (pa_cons (z7 zaE (hr.mono (by decide)) (by rfl) zL (pa_cons (pv 3) (pa_cons (pe_fld (pv 4) rfl) (pa_cons (pe_fld (pv 4) rfl) (pa_cons (pe_fld (pv 4) rfl) pa_nil))) zf)) pa_nil zu))))
    pss_nil)
   (pss_cons (ps_if (pt_cmpR op_eq (pe_ix ix_list (pv 1) pe_int (fun _ _=>rfl)) pe_str (nomark _))
    (pss_one (ps_ret (qm qH (hr.mono (by decide)) (by rfl) (pa_cons (z7 JL (hr.mono (by decide)) (by rfl) zL (pa_cons (pv 3) (pa_cons (pe_fld (pv 4) rfl) (pa_cons (pe_fld (pv 4) rfl) (pa_cons (pe_fld (pv 4) rfl) pa_nil))) zf)) pa_nil zu))))
    pss_nil)
   (pss_one (ps_ret (pe_op op_add_str pe_str (z7 Zu (hr.mono (by decide)) (by rfl) zL (pa_cons (pv 3) (pa_cons (pv 4) pa_nil zf) zf)))))))))),?_⟩
  refine⟨_,rfl,a,_,1,_,rfl,rfl,SqL.of hA,(show atI ((w0::w1::ws).map V.str) ((1:Nat):Int)=some (V.str w1) from atI_nat rfl),w1,rfl,l1,fun g1 H1 s1=>?_,fun g1 H1 s1=>q1 (fun z=>g1 z.1) H1 s1⟩
  have hA1:=s1 _ _ hA
  refine⟨_,rfl,_,rfl,_,_,rfl,SqL.of hA1,fun pc hpc=>?_⟩
  have ec:cutV ((w0::w1::ws).map V.str) (some 2) none=ws.map V.str:=zcM ..
  rw [ec]
  refine⟨pc,ws,rfl,SqL.of upd_same,l2,l3,fun g2 rp H2 s2 _ h2=>?_,fun g2 H2 s2=>q1 (fun z=>g2 z.2) H2 ((s1.trans (Same.new hpc)).trans s2)⟩
  have s02:=(s1.trans (Same.new (o:=.lst (ws.map V.str)) hpc)).trans s2
  have hD2:=hD.mono s02
  obtain⟨dx,hx⟩:=hD2.self
  obtain⟨e0,q3⟩:=q2 g1 g2
  exact⟨_,rfl,x,dx,_,rfl,hx,xR (by decide +kernel),_,rfl,x,d,n,fr,w1,rfl,hD2,fun e=>q3 H2 s02,fun t b l e p ip=>by rw [e0] at e;cases e⟩
noncomputable def zaF (CD CF CO CN:Addr):Sp:=fun vs H Q E=>∃(x a d:Addr) (n:Nat) (fr:Str→Option (Int×Int×Int)) (w0 w1 w2:Str),vs=[.ref x,.ref a]∧qt CD CF x d n fr H∧H a=some (.lst ([w0,w1,w2].map V.str))∧w1.length≤1000000 ∧
 (¬zK w1→∀H',Same H H'→E (.ref CO) none H')∧(zK w1→fr w1=none∧∀H',Same H H'→E (.ref CN) none H')
theorem Zg:FnScope ["self","words","frame"] ["self","words"] (defScope qj):=⟨rfl,rfl,rfl,by decide +kernel,rfl,by decide +kernel,by decide +kernel⟩
theorem zbs {f:Addr}{fd:FuncData} (F:Jd K "send_note" "Desk.send_note" qj f fd){zj zE:Addr} (qD:FnE P w K mg base 2 "name_in" ["word"] (XJ zj)) (yr:MtE P w K mg base 1 CD "kept" ["self","name"] (KZ CD CF zE)) (zaG:FnE P w K mg base 44 "sent" ["note","turns","bells","late"] (fun _ _ _ _=>False)) (jy:Fn P w K mg base 1 "turns_told" ["turns"] (Ze K)):FnOk P w K mg base (CXE P w) 45 f fd ["self","words"] (zaF CD CF zj zE):=by
 refine F.okE Zg (fun vs H Q E h=>?_) (fun cdv A outer s H vs Q E hr h=>?_)
 ·obtain⟨x,a,d,n,fr,w0,w1,w2,rfl,_⟩:=h
  rfl
 ·obtain⟨x,a,d,n,fr,w0,w1,w2,rfl,hD,hA,l1,q1,q2⟩:=h
  refine⟨_,(pss_cons (ps_set (i:=2) Zg.nd rfl (Or.inl rfl) (QC (pv 0) yr (hr.mono (by decide)) zL (pa_cons (z7 qD (hr.mono (by decide)) (by rfl) zL (pa_cons (pe_ix ix_list (pv 1) pe_int (fun _ _=>rfl)) pa_nil zy)) pa_nil zu)))
   (pss_one (ps_ret (qm jy (hr.mono (by decide)) (by rfl) (pa_cons (z7 zaG (hr.mono (by decide)) (by rfl) zL (pa_cons (pe_ix ix_list (pv 1) pe_int (fun _ _=>rfl)) (pa_cons (pe_fld (pv 2) rfl) (pa_cons (pe_fld (pv 2) rfl) (pa_cons (pe_fld (pv 2) rfl) pa_nil))) zy)) pa_nil zu))))),?_⟩
  obtain⟨dx,hx⟩:=hD.self
  refine⟨_,rfl,x,dx,_,rfl,hx,xR (by decide +kernel),_,rfl,a,_,1,_,rfl,rfl,SqL.of hA,rfl,w1,rfl,l1,fun g1 H1 s1=>?_,fun g1 H1 s1=>q1 g1 H1 s1⟩
  obtain⟨e0,q3⟩:=q2 g1
  exact⟨x,d,n,fr,w1,rfl,hD.mono s1,fun e=>q3 H1 s1,fun t b l e p ip=>by rw [e0] at e;cases e⟩
noncomputable def Jb (a b c d e:Str):Prop:=Num 3000 a∧Num 60 b∧Num 60 c∧Num 60 d∧ji e
noncomputable def zbt (CO:Addr):Sp:=fun vs H Q E=>∃(p:Addr) (w0 a b c d e:Str),vs=[.ref p]∧H p=some (.lst ([w0,a,b,c,d,e].map V.str))∧(∀x∈[a,b,c,d,e],x.length≤1000000)∧¬Jb a b c d e∧∀H',Same H H'→E (.ref CO) none H'
theorem qu:FnScope ["words","many","late","found","cost","turns","bells"] ["words"] (defScope jf):=⟨rfl,rfl,rfl,by decide +kernel,rfl,by decide +kernel,by decide +kernel⟩
theorem Vm (ND:NoDig K) (D:Def K mg "cheapest_told" jf ["words"]){zj:Addr} (zG:FnE P w K mg base 3 "number_in" ["word"] (Zt zj 60)) (qx:FnE P w K mg base 3 "message_in" ["word"] (Zt zj 3000)) (qG:FnE P w K mg base 4 "bells_in" ["word"] (XM zj)) (JM:Fn P w K mg base 41 "cheapest" ["many","late","turn_cost","bell_cost","most"] (fun _ _ _ _=>False)):FnE P w K mg base 43 "cheapest_told" ["words"] (zbt zj):=by
 refine D.fnE qu (fun vs H Q E h=>?_) (fun f cdv A outer s H vs Q E hr h=>?_)
 ·obtain⟨p,w0,a,b,c,d,e,rfl,_⟩:=h
  rfl
 ·obtain⟨p,w0,a,b,c,d,e,rfl,hA,hl,ng,q⟩:=h
  refine⟨_,(pss_cons (ps_set (i:=1) qu.nd rfl (Or.inl rfl) (z7 qx (hr.mono (by decide)) (by rfl) zL (pa_cons (pe_ix ix_list (pv 0) pe_int (fun _ _=>rfl)) pa_nil zy)))
   (pss_cons (ps_set (i:=2) qu.nd rfl (Or.inl rfl) (z7 zG (hr.mono (by decide)) (by rfl) zL (pa_cons (pe_ix ix_list (pv 0) pe_int (fun _ _=>rfl)) pa_nil zy)))
   (pss_cons (ps_set (i:=3) qu.nd rfl (Or.inl rfl) (qm JM (hr.mono (by decide)) (by rfl) (pa_cons (pv 1) (pa_cons (pv 2) (pa_cons (z7 zG (hr.mono (by decide)) (by rfl) zL (pa_cons (pe_ix ix_list (pv 0) pe_int (fun _ _=>rfl)) pa_nil zy)) (pa_cons (z7 zG (hr.mono (by decide)) (by rfl) zL (pa_cons (pe_ix ix_list (pv 0) pe_int (fun _ _=>rfl)) pa_nil zy)) (pa_cons (z7 qG (hr.mono (by decide)) (by rfl) zL (pa_cons (pe_ix ix_list (pv 0) pe_int (fun _ _=>rfl)) pa_nil zy)) pa_nil zu) zu) zu) zf) zf)))
   (pss_cons (ps_if (pt_cmpR op_isN (pv 3) pe_non (nomark _))
    (pss_one (ps_ret pe_str))
    pss_nil)
   (pss_cons (ps_set (i:=4) qu.nd rfl (Or.inl rfl) (pe_ix ix_list (pv 3) pe_int (fun _ _=>rfl)))
   (pss_cons (ps_set (i:=5) qu.nd rfl (Or.inl rfl) (pe_ix ix_list (pv 3) pe_int (fun _ _=>rfl)))
   (pss_cons (ps_set (i:=6) qu.nd rfl (Or.inl rfl) (pe_ix ix_list (pv 3) pe_int (fun _ _=>rfl)))
   (pss_one (ps_ret (zfH (.cons (Kd ND (pv 4)) (.cons pe_str (.cons (Kd ND (pv 5)) (.cons pe_str (.cons (Kd ND (pv 6)) (.cons pe_str .nil)))))))))))))))),?_⟩
  refine⟨_,rfl,p,_,1,_,rfl,rfl,SqL.of hA,rfl,a,rfl,hl a (by simp),fun g1 H1 s1=>?_,fun g1 H1 s1=>q H1 s1⟩
  have hA1:=s1 _ _ hA
  refine⟨_,rfl,p,_,2,_,rfl,rfl,SqL.of hA1,rfl,b,rfl,hl b (by simp),fun g2 H2 s2=>?_,fun g2 H2 s2=>q H2 (s1.trans s2)⟩
  have s02:=s1.trans s2
  have hA2:=s02 _ _ hA
  refine⟨_,rfl,_,rfl,_,rfl,p,_,3,_,rfl,rfl,SqL.of hA2,rfl,c,rfl,hl c (by simp),fun g3 H3 s3=>?_,fun g3 H3 s3=>q H3 (s02.trans s3)⟩
  have s03:=s02.trans s3
  have hA3:=s03 _ _ hA
  refine⟨_,rfl,p,_,4,_,rfl,rfl,SqL.of hA3,rfl,d,rfl,hl d (by simp),fun g4 H4 s4=>?_,fun g4 H4 s4=>q H4 (s03.trans s4)⟩
  have s04:=s03.trans s4
  have hA4:=s04 _ _ hA
  exact⟨_,rfl,p,_,5,_,rfl,rfl,SqL.of hA4,rfl,e,rfl,hl e (by simp),fun g5 H5 s5=>absurd ⟨g1,g2,g3,g4,g5⟩ ng,fun g5 H5 s5=>q H5 (s04.trans s5)⟩
noncomputable def Vn (w0:Str) (ws:List Str):Prop:=(w0="short"∧∃a b c,ws=[a,b,c]∧ji a∧Num 60 b∧Num 3000 c)∨(w0="best"∧∃a b c,ws=[a,b,c]∧Num 60 a∧Num 60 b∧ji c)∨(w0="cheap"∧∃a b c d e,ws=[a,b,c,d,e]∧Jb a b c d e)
noncomputable def zbu (CO:Addr):Sp:=fun vs H Q E=>∃(p:Addr) (w0:Str) (ws:List Str),vs=[.ref p]∧H p=some (.lst ((w0::ws).map V.str))∧(∀x∈ws,x.length≤1000000)∧¬Vn w0 ws∧∀H',Same H H'→E (.ref CO) none H'
theorem ws3 {α:Type}{l:List α} (h:l.length=3):∃a b c,l=[a,b,c]:=by
 match l,h with
 | [a,b,c],_=>exact⟨a,b,c,rfl⟩
theorem ws5 {α:Type}{l:List α} (h:l.length=5):∃a b c d e,l=[a,b,c,d,e]:=by
 match l,h with
 | [a,b,c,d,e],_=>exact⟨a,b,c,d,e,rfl⟩
theorem K6:FnScope ["words"] ["words"] (defScope jM):=⟨rfl,rfl,rfl,by decide +kernel,rfl,by decide +kernel,by decide +kernel⟩
theorem K7 (D:Def K mg "choice_told" jM ["words"]) (T:Txt K mg){zj:Addr} (zP:mg "NoOrder"=some (.ref zj)) (zV:W.excIn K zj bmV "ValueError.__new__"=true) (zG:FnE P w K mg base 3 "number_in" ["word"] (Zt zj 60)) (qx:FnE P w K mg base 3 "message_in" ["word"] (Zt zj 3000)) (qG:FnE P w K mg base 4 "bells_in" ["word"] (XM zj)) (qH:Fn P w K mg base 1 "number_told" ["number"] Ja) (vZ:Fn P w K mg base 41 "shortest_frame" ["bells","late","many"] (fun _ _ _ _=>False)) (Qc:Fn P w K mg base 41 "best_bells" ["turns","late","most"] (fun _ _ _ _=>False)) (v8:FnE P w K mg base 43 "cheapest_told" ["words"] (zbt zj)):FnE P w K mg base 45 "choice_told" ["words"] (zbu zj):=by
 refine D.fnE K6 (fun vs H Q E h=>?_) (fun f cdv A outer s H vs Q E hr h=>?_)
 ·obtain⟨p,w0,ws,rfl,_⟩:=h
  rfl
 ·obtain⟨p,w0,ws,rfl,hA,hl,ng,q⟩:=h
  refine⟨_,(pss_cons (ps_if (pw_and (pt_cmpR op_eq (pe_ix ix_list (pv 0) pe_int (fun _ _=>rfl)) pe_str (nomark _)) (pw_and1 (pt_cmpR jd (pe_callB call_len_seq (by rfl) T.z_len j7 (pa_cons (pv 0) pa_nil zf)) pe_int (nomark _)))).pt
    (pss_one (ps_ret (qm qH (hr.mono (by decide)) (by rfl) (pa_cons (qm vZ (hr.mono (by decide)) (by rfl) (pa_cons (z7 qG (hr.mono (by decide)) (by rfl) zL (pa_cons (pe_ix ix_list (pv 0) pe_int (fun _ _=>rfl)) pa_nil zy)) (pa_cons (z7 zG (hr.mono (by decide)) (by rfl) zL (pa_cons (pe_ix ix_list (pv 0) pe_int (fun _ _=>rfl)) pa_nil zy)) (pa_cons (z7 qx (hr.mono (by decide)) (by rfl) zL (pa_cons (pe_ix ix_list (pv 0) pe_int (fun _ _=>rfl)) pa_nil zy)) pa_nil zu) zu) zu)) pa_nil zu))))
    pss_nil)
   (pss_cons (ps_if (pw_and (pt_cmpR op_eq (pe_ix ix_list (pv 0) pe_int (fun _ _=>rfl)) pe_str (nomark _)) (pw_and1 (pt_cmpR jd (pe_callB call_len_seq (by rfl) T.z_len j7 (pa_cons (pv 0) pa_nil zf)) pe_int (nomark _)))).pt
    (pss_one (ps_ret (qm qH (hr.mono (by decide)) (by rfl) (pa_cons (qm Qc (hr.mono (by decide)) (by rfl) (pa_cons (z7 zG (hr.mono (by decide)) (by rfl) zL (pa_cons (pe_ix ix_list (pv 0) pe_int (fun _ _=>rfl)) pa_nil zy)) (pa_cons (z7 zG (hr.mono (by decide)) (by rfl) zL (pa_cons (pe_ix ix_list (pv 0) pe_int (fun _ _=>rfl)) pa_nil zy)) (pa_cons (z7 qG (hr.mono (by decide)) (by rfl) zL (pa_cons (pe_ix ix_list (pv 0) pe_int (fun _ _=>rfl)) pa_nil zy)) pa_nil zu) zu) zu)) pa_nil zu))))
    pss_nil)
   (pss_cons (ps_if (pw_and (pt_cmpR op_eq (pe_ix ix_list (pv 0) pe_int (fun _ _=>rfl)) pe_str (nomark _)) (pw_and1 (pt_cmpR jd (pe_callB call_len_seq (by rfl) T.z_len j7 (pa_cons (pv 0) pa_nil zf)) pe_int (nomark _)))).pt
    (pss_one (ps_ret (z7 v8 (hr.mono (by decide)) (by rfl) zL (pa_cons (pv 0) pa_nil zf))))
    pss_nil)
   (pss_one (vm PySem.F.excBase_ValueError zV (by rfl) zP (pa_cons pe_str pa_nil zg)))))),?_⟩
  have h0:atI ((w0::ws).map V.str) ((0:Nat):Int)=some (V.str w0):=atI_nat rfl
  have el:(((w0::ws).map V.str).length:Int)=(ws.length:Int)+1:=by rw [List.length_map,List.length_cons];omega
  refine jh (fun σ' H'=>σ'=[some (.ref p)]∧H'=H) ?_ (fun N hN=>?_)
  rotate_left
  ·refine⟨_,rfl,p,_,0,_,rfl,rfl,SqL.of hA,h0,rfl,_,rfl,ifD (fun z=>⟨_,rfl,_,_,rfl,.inl (SqL.of hA),_,_,rfl,rfl,_,rfl,?_⟩) (fun z=>iteF (hN _ _ ⟨rfl,rfl⟩))⟩
   rw [el]
   refine ifD (fun z2=>?_) (fun z2=>hN _ _ ⟨rfl,rfl⟩)
   obtain⟨a,b,c,rfl⟩:=ws3 (l:=ws) (by omega)
   refine⟨_,rfl,p,_,1,_,rfl,rfl,SqL.of hA,rfl,a,rfl,hl a (by simp),fun g1 H1 s1=>?_,fun g1 H1 s1=>q H1 s1⟩
   have hA1:=s1 _ _ hA
   refine⟨_,rfl,p,_,2,_,rfl,rfl,SqL.of hA1,rfl,b,rfl,hl b (by simp),fun g2 H2 s2=>?_,fun g2 H2 s2=>q H2 (s1.trans s2)⟩
   have s02:=s1.trans s2
   have hA2:=s02 _ _ hA
   exact⟨_,rfl,p,_,3,_,rfl,rfl,SqL.of hA2,rfl,c,rfl,hl c (by simp),fun g3 H3 s3=>absurd (.inl ⟨V.str.inj z,a,b,c,rfl,g1,g2,g3⟩) ng,fun g3 H3 s3=>q H3 (s02.trans s3)⟩
  rintro σ' H' ⟨rfl,rfl⟩
  refine jh (fun σ' H2=>σ'=[some (.ref p)]∧H2=H') ?_ (fun N hN=>?_)
  rotate_left
  ·refine⟨_,rfl,p,_,0,_,rfl,rfl,SqL.of hA,h0,rfl,_,rfl,ifD (fun z=>⟨_,rfl,_,_,rfl,.inl (SqL.of hA),_,_,rfl,rfl,_,rfl,?_⟩) (fun z=>iteF (hN _ _ ⟨rfl,rfl⟩))⟩
   rw [el]
   refine ifD (fun z2=>?_) (fun z2=>hN _ _ ⟨rfl,rfl⟩)
   obtain⟨a,b,c,rfl⟩:=ws3 (l:=ws) (by omega)
   refine⟨_,rfl,p,_,1,_,rfl,rfl,SqL.of hA,rfl,a,rfl,hl a (by simp),fun g1 H1 s1=>?_,fun g1 H1 s1=>q H1 s1⟩
   have hA1:=s1 _ _ hA
   refine⟨_,rfl,p,_,2,_,rfl,rfl,SqL.of hA1,rfl,b,rfl,hl b (by simp),fun g2 H2 s2=>?_,fun g2 H2 s2=>q H2 (s1.trans s2)⟩
   have s02:=s1.trans s2
   have hA2:=s02 _ _ hA
   exact⟨_,rfl,p,_,3,_,rfl,rfl,SqL.of hA2,rfl,c,rfl,hl c (by simp),fun g3 H3 s3=>absurd (.inr (.inl ⟨V.str.inj z,a,b,c,rfl,g1,g2,g3⟩)) ng,fun g3 H3 s3=>q H3 (s02.trans s3)⟩
  rintro σ' H2 ⟨rfl,rfl⟩
  refine jh (fun σ' H3=>σ'=[some (.ref p)]∧H3=H2) ?_ (fun N hN=>?_)
  rotate_left
  ·refine⟨_,rfl,p,_,0,_,rfl,rfl,SqL.of hA,h0,rfl,_,rfl,ifD (fun z=>⟨_,rfl,_,_,rfl,.inl (SqL.of hA),_,_,rfl,rfl,_,rfl,?_⟩) (fun z=>iteF (hN _ _ ⟨rfl,rfl⟩))⟩
   rw [el]
   refine ifD (fun z2=>?_) (fun z2=>hN _ _ ⟨rfl,rfl⟩)
   obtain⟨a,b,c,d,e,rfl⟩:=ws5 (l:=ws) (by omega)
   exact⟨_,rfl,p,w0,a,b,c,d,e,rfl,hA,hl,fun g=>ng (.inr (.inr ⟨V.str.inj z,a,b,c,d,e,rfl,g⟩)),q⟩
  rintro σ' H3 ⟨rfl,rfl⟩
  exact⟨(by decide),q H3 (Same.refl _)⟩
noncomputable def zf6 (CD CO:Addr) (KP RG LS SN CT:Sp):Sp:=fun vs H Q E=>∃(x dx d:Addr) (o w0:Str) (ws:List Str),vs=[.ref x,.str o]∧H x=some (.ins CD dx (fr1 d))∧o.length+2≤sizeLine∧Txt.split o " "=w0::ws ∧
 (w0="frame"→ws.length=4→∀a H',Same H H'→H' a=some (.lst ((w0::ws).map V.str))→KP [.ref x,.ref a] H' Q (fun C _ H2=>E C none H2)) ∧
 (w0="write"∨w0="key"→ws.length=2→∀a H',Same H H'→H' a=some (.lst ((w0::ws).map V.str))→RG [.ref x,.ref a] H' Q (fun C _ H2=>E C none H2)) ∧
 (w0="read"∨w0="unkey"∨w0="hear"→1≤ws.length→∀a H',Same H H'→H' a=some (.lst ((w0::ws).map V.str))→LS [.ref x,.ref a] H' Q (fun C _ H2=>E C none H2)) ∧
 (w0="note"→2≤ws.length→(Txt.splitMax o " " 2).length≤sizeLine∧∀a H',Same H H'→H' a=some (.lst ((Txt.splitMax o " " 2).map V.str))→SN [.ref x,.ref a] H' Q (fun C _ H2=>E C none H2)) ∧
 (¬(w0="frame"∧ws.length=4)→¬((w0="write"∨w0="key")∧ws.length=2)→¬((w0="read"∨w0="unkey"∨w0="hear")∧1≤ws.length)→¬(w0="note"∧2≤ws.length)→∀a H',Same H H'→H' a=some (.lst ((w0::ws).map V.str))→CT [.ref a] H' Q (fun C _ H2=>E C none H2))
theorem JN:((" ":Str).length == 0)=false:=by decide +kernel
theorem in2 {x a b:Str}:inV (.str x) [.str a,.str b]=decide (x=a∨x=b):=by
 rw [Bool.eq_iff_iff]
 simp only [inV,List.any_cons,List.any_nil,eqV,Bool.or_false,Bool.or_eq_true,beq_iff_eq,decide_eq_true_eq]
 exact⟨fun h=>h.imp Eq.symm Eq.symm,fun h=>h.imp Eq.symm Eq.symm⟩
theorem in3 {x a b c:Str}:inV (.str x) [.str a,.str b,.str c]=decide (x=a∨x=b∨x=c):=by
 rw [Bool.eq_iff_iff]
 simp only [inV,List.any_cons,List.any_nil,eqV,Bool.or_false,Bool.or_eq_true,beq_iff_eq,decide_eq_true_eq]
 exact⟨fun h=>h.imp Eq.symm fun h=>h.imp Eq.symm Eq.symm,fun h=>h.imp Eq.symm fun h=>h.imp Eq.symm Eq.symm⟩
theorem QL (K:W.Frag):W.kitOne K (.type "str") (.type "str")=some true:=by with_unfolding_all rfl
theorem XQ:FnScope ["self","order","words"] ["self","order"] (defScope jr):=⟨rfl,rfl,rfl,by decide +kernel,rfl,by decide +kernel,by decide +kernel⟩
noncomputable def Zv (K:W.Frag) (H:Hp) (v:V):Prop:=∃T:String,TyOf K H v (.type T)∧W.kitOne K (.type T) (.type "str")=some false
noncomputable def zcN (K:W.Frag) (CD CO:Addr) (KP RG LS SN CT:Sp):Sp:=fun vs H Q E=>zf6 CD CO KP RG LS SN CT vs H Q E∨∃(x:Addr) (v:V),vs=[.ref x,v]∧Zv K H v∧E (.ref CO) none H
theorem zfc {f:Addr}{fd:FuncData} (F:Jd K "told" "Desk.told" jr f fd) (T:Txt K mg) (hT:DkT K CD CF){zj:Addr}{KP RG LS SN CT:Sp} (zP:mg "NoOrder"=some (.ref zj)) (zV:W.excIn K zj bmV "ValueError.__new__"=true) (zaH:MtE P w K mg base 45 CD "keep" ["self","words"] KP) (zaI:MtE P w K mg base 45 CD "ring" ["self","words"] RG) (Vo:MtE P w K mg base 45 CD "listen" ["self","words"] LS) (Qd:MtE P w K mg base 45 CD "send_note" ["self","words"] SN) (yK:FnE P w K mg base 45 "choice_told" ["words"] CT):FnOk P w K mg base (CXE P w) 46 f fd ["self","order"] (zcN K CD zj KP RG LS SN CT):=by
 refine F.okE XQ (fun vs H Q E h=>?_) (fun cdv A outer s H vs Q E hr h=>?_)
 ·rcases h with ⟨x,dx,d,o,w0,ws,rfl,_⟩ | ⟨x,v,rfl,_⟩ <;> rfl
 ·refine⟨_,(pss_cons (ps_if (pt_not (pt_val (pe_callB Qy (by rfl) T.z_isinstance qi (pa_cons (pv 1) (pa_cons (pe_bltn (v:=.ty "str") (by rfl) T.z_str Xn rfl) pa_nil zf) zf))))
    (pss_one (vm PySem.F.excBase_ValueError zV (by rfl) zP (pa_cons pe_str pa_nil zg)))
    pss_nil)
   (pss_cons (ps_set (i:=2) XQ.nd rfl (Or.inl rfl) (pe_bm PySem.F.plainAttrs_str PySem.F.slot_str_split PySem.F.type_str_split ZM (pv 1) (pa_cons pe_str pa_nil zg)))
   (pss_cons (ps_if (pw_and (pt_cmpR op_eq (pe_ix ix_list (pv 2) pe_int (fun _ _=>rfl)) pe_str (nomark _)) (pw_and1 (pt_cmpR jd (pe_callB call_len_seq (by rfl) T.z_len j7 (pa_cons (pv 2) pa_nil zf)) pe_int (nomark _)))).pt
    (pss_one (ps_ret (QC (pv 0) zaH (hr.mono (by decide)) zL (pa_cons (pv 2) pa_nil zf))))
    pss_nil)
   (pss_cons (ps_if (pw_and (pt_cmpR op_in_seq (pe_ix ix_list (pv 2) pe_int (fun _ _=>rfl)) (pe_tup (pa_cons pe_str (pa_cons pe_str pa_nil zg) zg)) (by with_unfolding_all rfl)) (pw_and1 (pt_cmpR jd (pe_callB call_len_seq (by rfl) T.z_len j7 (pa_cons (pv 2) pa_nil zf)) pe_int (nomark _)))).pt
    (pss_one (ps_ret (QC (pv 0) zaI (hr.mono (by decide)) zL (pa_cons (pv 2) pa_nil zf))))
    pss_nil)
   (pss_cons (ps_if (pw_and (pt_cmpR op_in_seq (pe_ix ix_list (pv 2) pe_int (fun _ _=>rfl)) (pe_tup (pa_cons pe_str (pa_cons pe_str (pa_cons pe_str pa_nil zg) zg) zg)) (by with_unfolding_all rfl)) (pw_and1 (pt_cmpR zbO (pe_callB call_len_seq (by rfl) T.z_len j7 (pa_cons (pv 2) pa_nil zf)) pe_int (nomark _)))).pt
    (pss_one (ps_ret (QC (pv 0) Vo (hr.mono (by decide)) zL (pa_cons (pv 2) pa_nil zf))))
    pss_nil)
   (pss_cons (ps_if (pw_and (pt_cmpR op_eq (pe_ix ix_list (pv 2) pe_int (fun _ _=>rfl)) pe_str (nomark _)) (pw_and1 (pt_cmpR zbO (pe_callB call_len_seq (by rfl) T.z_len j7 (pa_cons (pv 2) pa_nil zf)) pe_int (nomark _)))).pt
    (pss_one (ps_ret (QC (pv 0) Qd (hr.mono (by decide)) zL (pa_cons (pe_bm PySem.F.plainAttrs_str PySem.F.slot_str_split PySem.F.type_str_split za8 (pv 1) (pa_cons pe_str (pa_cons pe_int pa_nil zg) zg)) pa_nil zu))))
    pss_nil)
   (pss_one (ps_ret (z7 yK (hr.mono (by decide)) (by rfl) zL (pa_cons (pv 2) pa_nil zf)))))))))),?_⟩
  rcases h with h | ⟨x,v,rfl,⟨TT,ty,kt⟩,q⟩
  rotate_left
  ·exact⟨_,rfl,_,_,_,false,rfl,ty,kt,_,rfl,iteT ⟨(by decide),q⟩⟩
  obtain⟨x,dx,d,o,w0,ws,rfl,hx,ol,es,q1,q2,q3,q4,q5⟩:=h
  refine⟨_,rfl,_,_,_,true,rfl,TyOf.str _,QL K,_,rfl,iteF ?_⟩
  refine⟨_,rfl,rfl,o," ",rfl,rfl,JN,ol,fun a ha=>?_⟩
  rw [es]
  have sA:Same H (upd H a (.lst ((w0::ws).map V.str))):=Same.new ha
  have hA:(upd H a (.lst ((w0::ws).map V.str))) a=some (.lst ((w0::ws).map V.str)):=upd_same
  generalize upd H a (.lst ((w0::ws).map V.str))=H1 at sA hA ⊢
  have h0:atI ((w0::ws).map V.str) ((0:Nat):Int)=some (V.str w0):=atI_nat rfl
  have hx1:=sA _ _ hx
  have el:(((w0::ws).map V.str).length:Int)=(ws.length:Int)+1:=by rw [List.length_map,List.length_cons];omega
  dsimp only [gName]
  refine jh (fun σ' H'=>σ'=[some (.ref x),some (.str o),some (.ref a)]∧H'=H1∧¬(w0="frame"∧ws.length=4)) ?_ (fun N hN=>?_)
  rotate_left
  ·refine⟨_,rfl,a,_,0,_,rfl,rfl,SqL.of hA,h0,rfl,_,rfl,ifD (fun z=>⟨_,rfl,_,_,rfl,.inl (SqL.of hA),_,_,rfl,rfl,_,rfl,?_⟩) (fun z=>iteF (hN _ _ ⟨rfl,rfl,fun y=>z (by rw [y.1])⟩))⟩
   rw [el]
   refine ifD (fun z2=>⟨_,rfl,x,dx,_,rfl,hx1,xR (by decide +kernel),_,rfl,?_⟩) (fun z2=>hN _ _ ⟨rfl,rfl,fun y=>by have:=y.2;omega⟩)
   exact q1 (V.str.inj z) (by omega) a H1 sA hA
  rintro σ' H' ⟨rfl,rfl,n1⟩
  refine jh (fun σ' H2=>σ'=[some (.ref x),some (.str o),some (.ref a)]∧Same H' H2∧¬((w0="write"∨w0="key")∧ws.length=2)) ?_ (fun N hN=>?_)
  rotate_left
  ·refine⟨_,rfl,a,_,0,_,rfl,rfl,SqL.of hA,h0,(by show 2≤sizeLine;decide),fun tp htp=>⟨tp,_,rfl,.inr (SqT.of upd_same),rfl,rfl,?_⟩⟩
   have sT:Same H' (upd H' tp (.tup [V.str "write",V.str "key"])):=Same.new htp
   generalize upd H' tp (.tup [V.str "write",V.str "key"])=H3 at sT ⊢
   refine⟨inV (.str w0) [V.str "write",V.str "key"],rfl,?_⟩
   rw [in2]
   refine ifD (fun z=>⟨_,rfl,_,_,rfl,.inl (SqL.of (sT _ _ hA)),_,_,rfl,rfl,_,rfl,?_⟩) (fun z=>iteF (hN _ _ ⟨rfl,sT,fun y=>z y.1⟩))
   rw [el]
   refine ifD (fun z2=>⟨_,rfl,x,dx,_,rfl,sT _ _ hx1,xR (by decide +kernel),_,rfl,?_⟩) (fun z2=>hN _ _ ⟨rfl,sT,fun y=>by have:=y.2;omega⟩)
   exact q2 z (by omega) a H3 (sA.trans sT) (sT _ _ hA)
  rintro σ' H2 ⟨rfl,s2,n2⟩
  have sA2:=sA.trans s2
  have hA2:=s2 _ _ hA
  have hx2:=s2 _ _ hx1
  refine jh (fun σ' H3=>σ'=[some (.ref x),some (.str o),some (.ref a)]∧Same H2 H3∧¬((w0="read"∨w0="unkey"∨w0="hear")∧1≤ws.length)) ?_ (fun N hN=>?_)
  rotate_left
  ·refine⟨_,rfl,a,_,0,_,rfl,rfl,SqL.of hA2,h0,(by show 3≤sizeLine;decide),fun tp htp=>⟨tp,_,rfl,.inr (SqT.of upd_same),rfl,rfl,?_⟩⟩
   have sT:Same H2 (upd H2 tp (.tup [V.str "read",V.str "unkey",V.str "hear"])):=Same.new htp
   generalize upd H2 tp (.tup [V.str "read",V.str "unkey",V.str "hear"])=H3 at sT ⊢
   refine⟨inV (.str w0) [V.str "read",V.str "unkey",V.str "hear"],rfl,?_⟩
   rw [in3]
   refine ifD (fun z=>⟨_,rfl,_,_,rfl,.inl (SqL.of (sT _ _ hA2)),_,_,rfl,rfl,_,rfl,?_⟩) (fun z=>iteF (hN _ _ ⟨rfl,sT,fun y=>z y.1⟩))
   rw [el]
   refine ifD (fun z2=>⟨_,rfl,x,dx,_,rfl,sT _ _ hx2,xR (by decide +kernel),_,rfl,?_⟩) (fun z2=>hN _ _ ⟨rfl,sT,fun y=>by have:=y.2;omega⟩)
   exact q3 z (by omega) a H3 (sA2.trans sT) (sT _ _ hA2)
  rintro σ' H3 ⟨rfl,s3,n3⟩
  have sA3:=sA2.trans s3
  have hA3:=s3 _ _ hA2
  have hx3:=s3 _ _ hx2
  refine jh (fun σ' H4=>σ'=[some (.ref x),some (.str o),some (.ref a)]∧H4=H3∧¬(w0="note"∧2≤ws.length)) ?_ (fun N hN=>?_)
  rotate_left
  ·refine⟨_,rfl,a,_,0,_,rfl,rfl,SqL.of hA3,h0,rfl,_,rfl,ifD (fun z=>⟨_,rfl,_,_,rfl,.inl (SqL.of hA3),_,_,rfl,rfl,_,rfl,?_⟩) (fun z=>iteF (hN _ _ ⟨rfl,rfl,fun y=>z (by rw [y.1])⟩))⟩
   rw [el]
   refine ifD (fun z2=>⟨_,rfl,x,dx,_,rfl,hx3,xR (by decide +kernel),?_⟩) (fun z2=>hN _ _ ⟨rfl,rfl,fun y=>by have:=y.2;omega⟩)
   obtain⟨zl,q6⟩:=q4 (V.str.inj z) (by omega)
   exact⟨_,rfl,rfl,o," ",2,rfl,rfl,rfl,JN,ol,zl,fun b hb=>q6 b _ (sA3.trans (Same.new hb)) upd_same⟩
  rintro σ' H4 ⟨rfl,rfl,n4⟩
  exact⟨_,rfl,q5 n1 n2 n3 n4 a H4 sA3 hA3⟩
end
theorem Mt.plain {P:Program}{w:World}{K:W.Frag}{mg:Str→Option Value}{base:Heap}{k:Nat}{C:Addr}{m:Str}{ps:List Str}{sp:Sp} (F:MtE P w K mg base k C m ps sp):Mt P w K mg base k C m ps (fun vs H Q _=>sp vs H Q E0):=by
 obtain⟨f,fd,F,r⟩:=F
 refine⟨f,fd,⟨fun vs H Q _ h=>F.len vs H Q E0 h,fun A outer s H args us vs Q E hr e0 hb rv h=>codeAny_mono (F.run A outer s H args us vs Q E0 hr e0 hb rv h) fun rr s' q=>?_⟩,r⟩
 cases rr with
 | ok fl=>cases fl <;> exact q
 | error e=>
  obtain⟨_,_,_,_,_,_,_,_,_,_,_,_,z⟩:=q
  exact z.elim
theorem wR {P:Program}{w:World}{K:W.Frag}{mg:Str→Option Value}{base:Heap}{k:Nat}{x:Str}{st:Stmt}{ps:List Str} (D:Def K mg x st ps):FnE P w K mg base k x ps (fun _ _ _ _=>False):=by
 obtain⟨f,fd,F,b,m⟩:=D
 exact⟨f,fd,⟨fun _ _ _ _ h=>h.elim,fun _ _ _ _ _ _ _ _ _ _ _ _ _ h=>h.elim⟩,F.kp,b,m⟩
theorem qw.seq {K:W.Frag}{d a:Addr} {H H':Hp}{xs:List V}{kvs:List (Key×V)} (hd:H d=some (.dK kvs)) (s:qw d H H') (h:SqL K H a xs):SqL K H' a xs:=by
 rcases h with h | h
 ·rcases h with h | ⟨o,h⟩
  ·exact .inl (.inl (s _ _ h (fun e=>by rw [e,hd] at h;cases h)))
  ·exact .inl (.inr ⟨o,s _ _ h (fun e=>by rw [e,hd] at h;cases h)⟩)
 ·exact .inr h
theorem zbv:zK "ann":=⟨by decide +kernel,by decide +kernel,by decide +kernel⟩
theorem Y8 (c:Nat):∀(n:Nat) (acc:Array Nat),(List.replicate n #[c]).foldl (·++·) acc=acc++(List.replicate n c).toArray
 | 0,acc=>by simp
 | n+1,acc=>by
  rw [List.replicate_succ,List.foldl_cons,Y8 c n,List.replicate_succ]
  apply Array.toList_inj.mp
  simp
theorem K8 {x:Str}{c:Nat} (hx:x=⟨#[c]⟩){n:Int} (h:0≤n):cpl (Txt.mul x n)=List.replicate n.toNat c:=by
 subst hx
 unfold Txt.mul
 by_cases h1:n<1
 ·rw [if_pos h1,show n=0 by omega]
  rfl
 ·rw [if_neg h1]
  by_cases h2:n=1
  ·subst h2
   rw [if_pos (show ((1:Int) == 1 || (⟨#[c]⟩:Str).length == 0)=true from rfl)]
   rfl
  ·have hb:(n == 1 || (⟨#[c]⟩:Str).length == 0)=false:=by
    rw [Bool.or_eq_false_iff]
    exact⟨by simpa using h2,by simp [Str.length]⟩
   rw [if_neg (by rw [hb];decide)]
   show (cpl (Str.mk ((List.replicate n.toNat #[c]).foldl (·++·) #[])))=_
   rw [Y8]
   simp [cpl]
theorem yt {x:Str}{c:Nat} (hx:x=⟨#[c]⟩){n:Int} (h:0≤n) (h1:n≤4000):MulOk x n:=by
 subst hx
 have hl:(⟨#[c]⟩:Str).length=1:=rfl
 refine⟨?_,fun h2 _=>?_,fun _ _=>?_⟩
 ·have e1:decide (n < -(2 ^ 63:Int))=false:=decide_eq_false (by omega)
  have e2:decide (n ≥ 2 ^ 63)=false:=decide_eq_false (by omega)
  rw [e1,e2,Bool.or_false]
 ·rw [hl]
  have:(4000:Int)≤(2 ^ 63-1) / n:=by
   rw [Int.le_ediv_iff_mul_le (by omega)]
   omega
  omega
 ·rw [hl]
  unfold Builtin.Str.tooLong
  exact decide_eq_false (by rw [sizeLine_eq];omega)
theorem JP {x:Str}{c:Nat} (hx:x=⟨#[c]⟩) (hc:c≠32∧c≠98∧c≠121){n:Int}{m:Nat} (h:0≤n) (h1:n≤m):Sm m 0 (Txt.mul x n):=by
 have e:=K8 hx h
 have no:∀d,c≠d→(cpl (Txt.mul x n)).count d=0:=fun d hd=>by rw [e,List.count_replicate,if_neg (by simpa using hd)]
 exact yI ⟨by rw [← zF,e,List.length_replicate];omega,by rw [no 32 hc.1];exact Nat.le_refl _,by rw [no 98 hc.2.1,no 121 hc.2.2]⟩
theorem c9:("9":Str)=⟨#[57]⟩:=by decide +kernel
theorem c7:("7":Str)=⟨#[55]⟩:=by decide +kernel
theorem c4:("4":Str)=⟨#[52]⟩:=by decide +kernel
theorem c3:("3":Str)=⟨#[51]⟩:=by decide +kernel
theorem c1:("1":Str)=⟨#[49]⟩:=by decide +kernel
theorem cf:("f":Str)=⟨#[102]⟩:=by decide +kernel
theorem zdt {n:Int} (h0:1≤n) (h1:n≤61):Num 61 (Txt.mul "9" n):=by
 have e:=K8 c9 (n:=n) (by omega)
 have l:(Txt.mul "9" n).length=n.toNat:=by rw [← zF,e,List.length_replicate]
 refine⟨by omega,by omega,?_,fun z=>?_⟩
 ·rw [e]
  intro c hc
  rw [List.eq_of_mem_replicate hc];decide
 ·rw [e] at z
  exact absurd (List.eq_of_mem_replicate (List.mem_of_getElem? z)) (by decide)
theorem zfd (S:Str) (h:0<S.length) (n:Int):∃c,atI S.cps.toList (n % (S.length:Int))=some c:=by
 have h0:=Int.emod_nonneg n (b:=(S.length:Int)) (by omega)
 have h1:=Int.emod_lt_of_pos n (b:=(S.length:Int)) (by omega)
 generalize n % (S.length:Int)=i at h0 h1
 obtain⟨k,rfl⟩:∃k:Nat,i=(k:Int):=⟨i.toNat,by omega⟩
 have hk:k<S.cps.toList.length:=by rw [Array.length_toList];exact Int.ofNat_lt.mp h1
 exact⟨S.cps.toList[k],atI_nat (List.getElem?_eq_getElem hk)⟩
section
noncomputable def zeb:Sp:=fun vs H Q _=>∃n:Int,vs=[.int n]∧∀c:Nat,Q (.str ⟨#[c]⟩) H
theorem Qe:FnScope ["number","signs"] ["number"] (defScope vA):=⟨rfl,rfl,rfl,by decide +kernel,rfl,by decide +kernel,by decide +kernel⟩
theorem zfe (D:Def K mg "_law_sign" vA ["number"]) (T:Txt K mg):Fn P w K mg base 1 "_law_sign" ["number"] zeb:=by
 refine D.fn Qe (fun vs H Q E h=>?_) (fun f cdv A outer s H vs Q E hr h=>?_)
 ·obtain⟨n,rfl,_⟩:=h
  rfl
 ·obtain⟨n,rfl,q⟩:=h
  refine Je (zp (qF (i:=1) Qe.nd rfl (Or.inl rfl) zq)
   (zp (qF (i:=1) Qe.nd rfl (Or.inl rfl) (zX op_add_str (WE.mk (pv 1)) zq))
   (zx (qd (Zm ix_str (WE.mk (pv 1)) (zX zR (WE.mk (pv 0)) (yj call_len_str (by rfl) T.z_len j7 (zc (WE.mk (pv 1)) zm zf))) (fun _ _=>rfl)))))) ?_
  refine⟨_,rfl,_,_,rfl,rfl,(by decide +kernel),?_⟩
  exact⟨_,rfl,_,rfl,_,rfl,_,rfl,(by decide +kernel),_,_,rfl,rfl,(by decide +kernel),_,_,_,rfl,rfl,(by decide +kernel),(zfd _ (by decide +kernel) n).choose_spec,q _⟩
noncomputable def zj4:Sp:=fun vs H Q _=>∃n:Int,vs=[.int n]∧∀(x:Str) (H':Hp),Same H H'→Sm 11 0 x→Q (.str x) H'
noncomputable def nmL:List Str:=["ann","frame","c","longname","toolongname","ann","frame","cd","note"]
theorem zf7:∀x∈nmL,x.length≤11∧(cpl x).count 32≤0∧(cpl x).count 98+(cpl x).count 121=0:=by decide +kernel
theorem zaJ:FnScope ["number"] ["number"] (defScope vB):=⟨rfl,rfl,rfl,by decide +kernel,rfl,by decide +kernel,by decide +kernel⟩
theorem zec (D:Def K mg "_law_name" vB ["number"]) (T:Txt K mg):Fn P w K mg base 1 "_law_name" ["number"] zj4:=by
 refine D.fn zaJ (fun vs H Q E h=>?_) (fun f cdv A outer s H vs Q E hr h=>?_)
 ·obtain⟨n,rfl,_⟩:=h
  rfl
 ·obtain⟨n,rfl,q⟩:=h
  refine Je (zx (qd (Zm ix_list (xf (zc zq (zc zq (zc zq (zc zq (zc zq (zc zq (zc zq (zc zq (zc zq zm zg) zg) zg) zg) zg) zg) zg) zg) zg)) (zX zR (WE.mk (pv 0)) (WE.mk pe_int)) (fun _ _=>rfl)))) ?_
  obtain⟨x,e,hx⟩:=Zf (ws:=nmL) (i:=n % 9) (by omega) (show n % 9<(9:Int) by omega)
  exact⟨(by decide),fun p hp=>⟨_,rfl,_,_,rfl,rfl,(by decide),_,_,_,_,rfl,rfl,SqL.of upd_same,e,q x _ (Same.new hp) (yI (zf7 x hx))⟩⟩
noncomputable def K9 (m:Nat):Sp:=fun vs H Q _=>∃n:Int,vs=[.int n]∧0≤n∧n<2 ^ 61∧∀(x:Str) (H':Hp),Same H H'→Sm m 0 x→Q (.str x) H'
theorem zed {α:Type}{l:List α} (k:Int) (h0:0≤k) (h1:k<l.length):∃x,atI l k=some x∧x∈l:=by
 obtain⟨n,rfl⟩:∃n:Nat,k=(n:Int):=⟨k.toNat,by omega⟩
 exact⟨l[n],atI_nat (List.getElem?_eq_getElem (by omega)),List.getElem_mem _⟩
theorem Wa:FnScope ["number"] ["number"] (defScope jN):=⟨rfl,rfl,rfl,by decide +kernel,rfl,by decide +kernel,by decide +kernel⟩
theorem zcg (ND:NoDig K) (D:Def K mg "_law_number" jN ["number"]) (T:Txt K mg):Fn P w K mg base 1 "_law_number" ["number"] (K9 61):=by
 refine D.fn Wa (fun vs H Q E h=>?_) (fun f cdv A outer s H vs Q E hr h=>?_)
 ·obtain⟨n,rfl,_⟩:=h
  rfl
 ·obtain⟨n,rfl,n0,n1,q⟩:=h
  refine Je (zp (jc (jk jd (zX zR (WE.mk (pv 0)) (WE.mk pe_int)) (WE.mk pe_int) (nomark _))
    (zx (qd (Zm ix_list (xf (zc zq (zc zq (zc (zX op_add_str zq (zX yg zq (WE.mk pe_int))) (zc (zX yg zq (WE.mk pe_int)) (zc (zX yg zq (WE.mk pe_int)) (zc zq (zc zq zm zg) zg) zW) zW) zW) zg) zg)) (zX zR (zX qO (WE.mk (pv 0)) (WE.mk pe_int)) (WE.mk pe_int)) (fun _ _=>rfl))))
    zT)
   (zx (qd (yC (yx ND) (by rfl) T.z_str Xn (zc (zX zR (zX qO (WE.mk (pv 0)) (WE.mk pe_int)) (Zm ix_list (xf (zc (WE.mk pe_int) (zc (WE.mk pe_int) (zc (WE.mk pe_int) zm zg) zg) zg)) (zX zR (WE.mk (pv 0)) (WE.mk pe_int)) (fun _ _=>rfl))) zm zW))))) ?_
  refine⟨_,rfl,_,_,rfl,rfl,(by decide),_,_,rfl,rfl,_,rfl,ifD (fun z=>?_) (fun z=>?_)⟩
  ·refine⟨_,_,rfl,rfl,yt c3 (by decide) (by decide),?_⟩
   have s3:Sm 58 0 (Txt.mul "3" 58):=JP (m:=58) c3 (by decide) (by decide) (by decide)
   generalize Txt.mul "3" 58=t3 at s3 ⊢
   have l1:("1":Str).length=1:=by decide +kernel
   refine⟨_,_,rfl,rfl,by rw [l1,sizeLine_eq];have:=s3.1;omega,_,_,rfl,rfl,yt c7 (by decide) (by decide),?_⟩
   have s13:Sm 59 0 ("1"++t3):=zcd (m:=1) (k:=0) (yI (by decide +kernel)) s3
   have s7:Sm 60 0 (Txt.mul "7" 60):=JP (m:=60) c7 (by decide) (by decide) (by decide)
   generalize ("1":Str)++t3=t13 at s13 ⊢
   generalize Txt.mul "7" 60=t7 at s7 ⊢
   refine⟨_,_,rfl,rfl,yt c1 (by decide) (by decide),?_⟩
   have s1:Sm 61 0 (Txt.mul "1" 61):=JP (m:=61) c1 (by decide) (by decide) (by decide)
   generalize Txt.mul "1" 61=t1 at s1 ⊢
   have hs:∀x∈(["0","007",t13,t7,t1,"60","61"]:List Str),Sm 61 0 x:=by
    intro x hx
    simp only [List.mem_cons,List.not_mem_nil,or_false] at hx
    rcases hx with rfl | rfl | rfl | rfl | rfl | rfl | rfl
    ·exact yI (by decide +kernel)
    ·exact yI (by decide +kernel)
    ·exact s13.mono (by decide) (by decide)
    ·exact s7.mono (by decide) (by decide)
    ·exact s1
    ·exact yI (by decide +kernel)
    ·exact yI (by decide +kernel)
   obtain⟨x,e,hx⟩:=Zf (ws:=["0","007",t13,t7,t1,"60","61"]) (i:=n / 7 % 7) (by omega) (show n / 7 % 7<(7:Int) by omega)
   exact⟨(by show 7≤sizeLine;decide),fun p hp=>⟨_,rfl,_,_,rfl,rfl,⟨by decide,by decide⟩,_,_,rfl,rfl,(by decide),_,_,_,_,rfl,rfl,SqL.of upd_same,e,q x _ (Same.new hp) (hs x hx)⟩⟩
  ·refine⟨_,rfl,_,_,rfl,rfl,⟨by decide,by decide⟩,(by decide),fun p hp=>?_⟩
   obtain⟨v,e,hv⟩:=zed (l:=([10,61,1000]:List Int)) (n % 3) (by omega) (show n % 3<(3:Int) by omega)
   have hv:v=10∨v=61∨v=1000:=by simpa using hv
   have e':atI [V.int 10,V.int 61,V.int 1000] (n % 3)=some (V.int v):=by
    rcases (by omega:n % 3=0∨n % 3=1∨n % 3=2) with y | y | y <;> rw [y] at e ⊢ <;> cases e <;> rfl
   refine⟨_,rfl,_,_,rfl,rfl,(by decide),_,_,_,_,rfl,rfl,SqL.of upd_same,e',_,_,rfl,rfl,by omega,?_⟩
   have d0:=Int.emod_nonneg (n / 7) (b:=v) (by omega)
   have d1:=Int.emod_lt_of_pos (n / 7) (b:=v) (by omega)
   have hb:n / 7 % v<10 ^ 61:=Int.lt_of_lt_of_le d1 (by
    have:(1000:Int)≤10 ^ 61:=by decide
    omega)
   exact⟨_,rfl,lgB d0 (Int.lt_trans d1 (Int.lt_of_le_of_lt (show v≤1000 by omega) (by decide +kernel))),q _ _ (Same.new hp) (zd9 (by decide) d0 hb)⟩
theorem VN:FnScope ["number"] ["number"] (defScope jF):=⟨rfl,rfl,rfl,by decide +kernel,rfl,by decide +kernel,by decide +kernel⟩
theorem zbw (D:Def K mg "_law_message" jF ["number"]) (T:Txt K mg) (jK:Fn P w K mg base 1 "_law_number" ["number"] (K9 61)):Fn P w K mg base 2 "_law_message" ["number"] (K9 3001):=by
 refine D.fn VN (fun vs H Q E h=>?_) (fun f cdv A outer s H vs Q E hr h=>?_)
 ·obtain⟨n,rfl,_⟩:=h
  rfl
 ·obtain⟨n,rfl,n0,n1,q⟩:=h
  refine Je (zp (jc (jk jd (zX zR (WE.mk (pv 0)) (WE.mk pe_int)) (WE.mk pe_int) (nomark _))
    (zx (qd (Zm ix_list (xf (zc (zX yg zq (WE.mk pe_int)) (zc (zX yg zq (WE.mk pe_int)) (zc (zX op_add_str zq (zX yg zq (WE.mk pe_int))) (zc (zX yg zq (WE.mk pe_int)) zm zW) zW) zW) zW)) (zX zR (zX qO (WE.mk (pv 0)) (WE.mk pe_int)) (WE.mk pe_int)) (fun _ _=>rfl))))
    zT)
   (zx (qd (vV jK (hr.mono (by decide)) (by rfl) (zc (zX qO (WE.mk (pv 0)) (WE.mk pe_int)) zm zW))))) ?_
  refine⟨_,rfl,_,_,rfl,rfl,(by decide),_,_,rfl,rfl,_,rfl,ifD (fun z=>?_) (fun z=>?_)⟩
  ·refine⟨_,_,rfl,rfl,yt c9 (by decide) (by decide),?_⟩
   have s9:Sm 3000 0 (Txt.mul "9" 3000):=JP (m:=3000) c9 (by decide) (by decide) (by decide)
   generalize Txt.mul "9" 3000=t9 at s9 ⊢
   refine⟨_,_,rfl,rfl,yt c1 (by decide) (by decide),?_⟩
   have s1:Sm 3001 0 (Txt.mul "1" 3001):=JP (m:=3001) c1 (by decide) (by decide) (by decide)
   generalize Txt.mul "1" 3001=t1 at s1 ⊢
   refine⟨_,_,rfl,rfl,yt c1 (by decide) (by decide),?_⟩
   have s2:Sm 20 0 (Txt.mul "1" 20):=JP (m:=20) c1 (by decide) (by decide) (by decide)
   generalize Txt.mul "1" 20=t2 at s2 ⊢
   have l1:("0":Str).length=1:=by decide +kernel
   refine⟨_,_,rfl,rfl,by rw [l1,sizeLine_eq];have:=s2.1;omega,?_⟩
   have s02:Sm 21 0 ("0"++t2):=zcd (m:=1) (k:=0) (yI (by decide +kernel)) s2
   generalize ("0":Str)++t2=t02 at s02 ⊢
   refine⟨_,_,rfl,rfl,yt c4 (by decide) (by decide),?_⟩
   have s4:Sm 300 0 (Txt.mul "4" 300):=JP (m:=300) c4 (by decide) (by decide) (by decide)
   generalize Txt.mul "4" 300=t4 at s4 ⊢
   have hs:∀x∈[t9,t1,t02,t4],Sm 3001 0 x:=by
    intro x hx
    simp only [List.mem_cons,List.not_mem_nil,or_false] at hx
    rcases hx with rfl | rfl | rfl | rfl
    ·exact s9.mono (by decide) (by decide)
    ·exact s1
    ·exact s02.mono (by decide) (by decide)
    ·exact s4.mono (by decide) (by decide)
   obtain⟨x,e,hx⟩:=Zf (ws:=[t9,t1,t02,t4]) (i:=n / 5 % 4) (by omega) (show n / 5 % 4<(4:Int) by omega)
   exact⟨(by show 4≤sizeLine;decide),fun p hp=>⟨_,rfl,_,_,rfl,rfl,⟨by decide,by decide⟩,_,_,rfl,rfl,(by decide),_,_,_,_,rfl,rfl,SqL.of upd_same,e,q x _ (Same.new hp) (hs x hx)⟩⟩
  ·exact⟨_,rfl,_,_,rfl,rfl,⟨by decide,by decide⟩,_,rfl,by omega,by omega,fun x H' s' hx=>q x H' s' (hx.mono (by decide) (by decide))⟩
end
noncomputable def tot (ws:List Str):Nat:=(ws.map fun x=>blk x+1).sum
theorem zff (a b:List Str):tot (a++b)=tot a+tot b:=by unfold tot;rw [List.map_append,List.sum_append]
theorem wU (x:Str) (b:List Str):tot (x::b)=blk x+1+tot b:=by unfold tot;rw [List.map_cons,List.sum_cons]
theorem zaK:∀ws:List Str,ws.length≤tot ws
 | []=>Nat.zero_le _
 | x::r=>by
  have:=zaK r
  rw [wU,List.length_cons]
  omega
theorem zbx:∀{ws:List Str},(∀x∈ws,blk x≤0)→tot ws=ws.length
 | [],_=>rfl
 | x::r,h=>by
  have h1:=h x (List.mem_cons_self ..)
  have h2:=zbx fun y hy=>h y (List.mem_cons_of_mem _ hy)
  rw [wU,List.length_cons]
  omega
theorem zby:∀ws:List Str,(qb 32 (ws.map cpl)).count 32≤tot ws
 | []=>Nat.zero_le _
 | [x]=>by
  have:(cpl x).count 32≤blk x:=Nat.le_refl _
  show (cpl x).count 32≤_
  rw [wU]
  omega
 | x::y::r=>by
  have h:=zby (y::r)
  have:(cpl x).count 32≤blk x:=Nat.le_refl _
  show (cpl x++32::qb 32 ((y::r).map cpl)).count 32≤_
  rw [List.count_append,List.count_cons_self,wU]
  omega
noncomputable def QM (ws:List Str):Nat:=(ws.map bad).sum
theorem zee (a b:List Str):QM (a++b)=QM a+QM b:=by unfold QM;rw [List.map_append,List.sum_append]
theorem Vp:∀{ws:List Str},(∀x∈ws,bad x=0)→QM ws=0
 | [],_=>rfl
 | x::r,h=>by
  have h1:=h x (List.mem_cons_self ..)
  have h2:=Vp fun y hy=>h y (List.mem_cons_of_mem _ hy)
  unfold QM at h2 ⊢
  rw [List.map_cons,List.sum_cons]
  omega
noncomputable def WL (ws:List Str) (b:Nat):Prop:=tot ws≤b∧∀x∈ws,x.length≤3001
theorem WL.app {a c:List Str}{b d:Nat} (h:WL a b) (h':WL c d):WL (a++c) (b+d):=⟨by rw [zff];exact Nat.add_le_add h.1 h'.1,fun x hx=>(List.mem_append.mp hx).elim (h.2 x) (h'.2 x)⟩
theorem WL.one {x:Str}{m k b:Nat} (h:Sm m k x) (hm:m≤3001) (hk:k+1≤b):WL [x] b:=⟨by rw [wU];have:=h.2.1;show blk x+1+0≤b;omega,fun y hy=>by rw [List.mem_singleton.mp hy];exact Nat.le_trans h.1 hm⟩
theorem WL.all {ws:List Str}{m b:Nat} (h:∀x∈ws,Sm m 0 x) (hm:m≤3001) (hb:ws.length≤b):WL ws b:=⟨by rw [zbx fun x hx=>(h x hx).2.1];exact hb,fun x hx=>Nat.le_trans (h x hx).1 hm⟩
theorem WL.mono {a:List Str}{b d:Nat} (h:WL a b) (hb:b≤d):WL a d:=⟨Nat.le_trans h.1 hb,h.2⟩
theorem zef {ws:List Str}{m:Nat} (h:∀x∈ws,x.length≤m):(ws.map (·.length)).sum≤ws.length*m:=by
 induction ws with
 | nil=>exact Nat.zero_le _
 | cons x r ih=>
  have h1:=h x (List.mem_cons_self ..)
  have h2:=ih fun y hy=>h y (List.mem_cons_of_mem _ hy)
  rw [List.map_cons,List.sum_cons,List.length_cons,Nat.succ_mul]
  omega
theorem bl1:(" ":Str).length=1:=by decide +kernel
theorem WL.join {ws:List Str}{b:Nat} (h:WL ws b) (hb:b≤60) (hb0:1≤b):(ws.map (·.length)).sum+ws.length*(" ":Str).length≤16777216∧Sm 200000 b (Txt.join " " ws):=by
 have h1:=zef h.2
 have h2:=zaK ws
 have h3:=h.1
 have h4:ws.length*3001≤60*3001:=Nat.mul_le_mul_right _ (by omega)
 rw [bl1]
 refine⟨by omega,?_,?_,fun z=>absurd z (by omega)⟩
 ·have g:=zcK (m:=3001) (k:=200000) (l:=ws.map cpl) fun x hx=>by
   obtain⟨y,hy,rfl⟩:=List.mem_map.mp hx
   have:=h.2 y hy
   have z:=List.count_le_length (a:=32) (l:=cpl y)
   rw [zF] at z ⊢
   exact⟨this,by omega⟩
  rw [← qI,zF,List.length_map] at g
  omega
 ·unfold blk
  rw [qI]
  exact Nat.le_trans (zby ws) h3
theorem zeg (ns:List Str) (lo hi:Option Int):∃ms:List Str,cutV (ns.map V.str) lo hi=ms.map V.str∧ms.Sublist ns:=by
 unfold cutV
 refine⟨(ns.drop (HT.sIx (ns.map V.str).length 0 lo)).take (HT.sIx (ns.map V.str).length (ns.map V.str).length hi-HT.sIx (ns.map V.str).length 0 lo),by rw [List.map_take,List.map_drop],(List.take_sublist ..).trans (List.drop_sublist ..)⟩
theorem WL.sub {a c:List Str}{b:Nat} (h:WL a b) (s:c.Sublist a):WL c b:=by
 refine⟨Nat.le_trans ?_ h.1,fun x hx=>h.2 x (s.subset hx)⟩
 have key:∀{a c:List Str},c.Sublist a→tot c≤tot a:=by
  intro a c s
  induction s with
  | slnil=>exact Nat.le_refl _
  | cons x _ ih=>rw [wU];omega
  | cons_cons x _ ih=>rw [wU,wU];omega
 exact key s
section
noncomputable def zbz:Sp:=fun vs H Q _=>∃n:Int,vs=[.int n]∧0≤n∧∀(p:Addr) (ws:List Str) (H':Hp),Same H H'→H p=none→H' p=some (.lst (ws.map V.str))→WL ws 6→QM ws=0→Q (.ref p) H'
noncomputable def TOk (n:Nat) (ns:List Int):Prop:=ns.length≤n∧∀y∈ns,0≤y∧y<10 ^ 62
theorem p61:(10:Int) ^ 61≤10 ^ 62:=by decide +kernel
theorem zlr:(100:Int)≤10 ^ 62:=by decide +kernel
theorem p62:(10:Int) ^ 62≤10 ^ 4000:=by decide +kernel
theorem xK:FnScope ["number","turns","last","k"] ["number"] (defScope xx):=⟨rfl,rfl,rfl,by decide +kernel,rfl,by decide +kernel,by decide +kernel⟩
theorem zdu (ND:NoDig K) (D:Def K mg "_law_turns" xx ["number"]) (T:Txt K mg):Fn P w K mg base 1 "_law_turns" ["number"] zbz:=by
 refine D.fn xK (fun vs H Q E h=>?_) (fun f cdv A outer s H vs Q E hr h=>?_)
 ·obtain⟨n,rfl,_⟩:=h
  rfl
 ·obtain⟨n,rfl,n0,q⟩:=h
  refine Je (zp (qF (i:=1) xK.nd rfl (Or.inl rfl) (xf zm))
   (zp (qF (i:=2) xK.nd rfl (Or.inl rfl) (WE.mk pe_int))
   (zp (zcC PassesOwn.never rfl (pi_range1 (by rfl) T.z_range (pa_cons (pe_op zR (pv 0) pe_int) pa_nil zW)) (pg_name (i:=3) xK.nd rfl (Or.inl rfl))
    (zp (qF (i:=2) xK.nd rfl (Or.inl rfl) (zX qg (WE.mk (pv 2)) (zX zR (zX qO (WE.mk (pv 0)) (zX qg (WE.mk pe_int) (WE.mk (pv 3)))) (WE.mk pe_int))))
    (zx (Zk (QD PySem.F.plainAttrs_list PySem.F.slot_list_append PySem.F.type_list_append mt_append (WE.mk (pv 1)) (zc (WE.mk (pv 2)) zm zf))))))
   (zp (jc (jk jd (zX zR (zX qO (WE.mk (pv 0)) (WE.mk pe_int)) (WE.mk pe_int)) (WE.mk pe_int) (nomark _))
    (zx (Zk (WE.mk (pe_bm0 PySem.F.plainAttrs_list PySem.F.slot_list_reverse PySem.F.type_list_reverse mt_reverse (pv 1)))))
    zT)
   (zp (jc (jk jd (zX zR (zX qO (WE.mk (pv 0)) (WE.mk pe_int)) (WE.mk pe_int)) (WE.mk pe_int) (nomark _))
    (zx (Zk (QD PySem.F.plainAttrs_list PySem.F.slot_list_append PySem.F.type_list_append mt_append (WE.mk (pv 1)) (zc (yC (qX ND) (by rfl) T.z_int Qu (zc (zX yg zq (zX qg (WE.mk pe_int) (zX zR (zX qO (WE.mk (pv 0)) (WE.mk pe_int)) (WE.mk pe_int)))) zm zW)) zm zu))))
    zT)
   (zx (qd (WE.mk (Z2 (own:=["turn"]) (fr:=[]) (ix:=[]) rfl ⟨rfl,rfl,rfl,rfl,rfl,rfl⟩ (pi_list (pv 1)) (fun _ _ _ _ _=>(pg_name (i:=0) (show (["turn"]:List Str).Nodup by decide +kernel) rfl (Or.inl rfl))) (fun _ _ _ _ _=>kW) (fun _ _ _ _ _=>(pe_callTy (yx ND) (by rfl) T.z_str Xn (pa_cons (pv 0) pa_nil zf)))))))))))) ?_
  refine⟨(by decide),fun p hp=>?_⟩
  have s1:Same H (upd H p (.lst [])):=Same.new hp
  have h1:(upd H p (.lst [])) p=some (.lst (([]:List Int).map V.int)):=upd_same
  generalize upd H p (.lst [])=H1 at s1 h1 ⊢
  refine⟨_,rfl,_,_,rfl,rfl,(by decide),_,rfl,by omega,by omega,for_range (n:=(n % 6).toNat) (fun i σ H2=>∃(last:Int) (ns:List Int) (v3:Option V),σ=[some (.int n),some (.ref p),some (.int last),v3]∧Same H H2∧H2 p=some (.lst (ns.map V.int))∧TOk i ns∧i≤5∧0≤last∧last≤9*i) ⟨0,[],none,rfl,s1,h1,⟨Nat.le_refl _,fun _ z=>nomatch z⟩,by decide,by decide,by decide⟩ ?_ ?_⟩
  ·rintro i σ H2 hi ⟨last,ns,v3,rfl,s2,h2,t2,i5,l0,l1⟩
   have hi6:i<5:=by omega
   rw [show (0:Int)+(i:Int)=(i:Int) by omega]
   refine⟨_,rfl,_,rfl,_,rfl,_,_,rfl,rfl,_,_,rfl,rfl,⟨by omega,zO (qP (m:=10) (by omega) (by omega)) (by decide)⟩,_,_,rfl,rfl,(by decide),_,_,rfl,rfl,?_⟩
   have d0:0≤n / (11+(i:Int)) % 9∧n / (11+(i:Int)) % 9≤8:=by omega
   generalize n / (11+(i:Int)) % 9=d at d0
   refine⟨_,rfl,.inl ⟨rfl,_,SqL.of h2⟩,_,rfl,p,_,_,rfl,rfl,h2,by rw [List.length_map,sizeLine_eq];have:=t2.1;omega,last+d,ns++[last+d],_,rfl,s2.wr hp,by rw [upd_same,List.map_append];rfl,⟨by rw [List.length_append,List.length_singleton];have:=t2.1;omega,fun y hy=>?_⟩,by omega,by omega,by omega⟩
   rcases List.mem_append.mp hy with hy | hy
   ·exact t2.2 y hy
   ·rw [List.mem_singleton.mp hy]
    have:=zlr
    omega
  rintro σ H2 ⟨last,ns,v3,rfl,s2,h2,t2,i5,l0,l1⟩
  have t2:TOk 5 ns:=⟨by have:=t2.1;omega,t2.2⟩
  clear i5 l0 l1
  dsimp only
  refine jh (fun σ' H'=>σ'=[some (.int n),some (.ref p),some (.int last),v3]∧∃ns:List Int,Same H H'∧H' p=some (.lst (ns.map V.int))∧TOk 5 ns) ?_ (fun N hN=>?_)
  rotate_left
  ·refine⟨_,rfl,_,_,rfl,rfl,⟨by decide,by decide⟩,_,_,rfl,rfl,(by decide),_,_,rfl,rfl,_,rfl,ifD (fun z=>?_) (fun z=>hN _ _ ⟨rfl,ns,s2,h2,t2⟩)⟩
   refine⟨_,rfl,.inl ⟨rfl,_,SqL.of h2⟩,p,_,rfl,rfl,h2,hN _ _ ⟨rfl,ns.reverse,s2.wr hp,by rw [upd_same,List.map_reverse],by rw [List.length_reverse];exact t2.1,fun y hy=>t2.2 y (List.mem_reverse.mp hy)⟩⟩
  rintro σ' H2 ⟨rfl,ns,s2,h2,t2⟩
  refine jh (fun σ' H'=>σ'=[some (.int n),some (.ref p),some (.int last),v3]∧∃ns:List Int,Same H H'∧H' p=some (.lst (ns.map V.int))∧TOk 6 ns) ?_ (fun N hN=>?_)
  rotate_left
  ·refine⟨_,rfl,_,_,rfl,rfl,⟨by decide,by decide⟩,_,_,rfl,rfl,(by decide),_,_,rfl,rfl,_,rfl,ifD (fun z=>?_) (fun z=>hN _ _ ⟨rfl,ns,s2,h2,by have:=t2.1;omega,t2.2⟩)⟩
   have k0:1≤60+n / 150 % 2∧60+n / 150 % 2≤61:=by omega
   refine⟨_,rfl,.inl ⟨rfl,_,SqL.of h2⟩,_,rfl,_,_,rfl,rfl,⟨by decide,by decide⟩,_,_,rfl,rfl,(by decide),_,_,rfl,rfl,?_⟩
   generalize 60+n / 150 % 2=k at k0 ⊢
   have nn:=zdt k0.1 k0.2
   refine⟨_,_,rfl,rfl,yt c9 (by omega) (by omega),_,_,rfl,num_reads nn (by decide),by rw [sizeLine_eq];have:=nn.le;omega,?_⟩
   have v0:=yh (Txt.mul "9" k)
   have v1:=Int.lt_of_lt_of_le (Xx nn) p61
   generalize zA (Txt.mul "9" k)=v at v0 v1 ⊢
   refine⟨p,_,_,rfl,rfl,h2,by rw [List.length_map,sizeLine_eq];have:=t2.1;omega,hN _ _ ⟨rfl,ns++[v],s2.wr hp,by rw [upd_same,List.map_append];rfl,by rw [List.length_append,List.length_singleton];have:=t2.1;omega,fun y hy=>?_⟩⟩
   rcases List.mem_append.mp hy with hy | hy
   ·exact t2.2 y hy
   ·rw [List.mem_singleton.mp hy]
    exact⟨v0,v1⟩
  rintro σ' H2 ⟨rfl,ns,s2,h2,t2⟩
  refine⟨_,rfl,p,rfl,⟨_,SqL.of h2⟩,fun acc hacc=>Jw (K:=K) (a:=p) (xs:=ns.map V.int) (fun i=>V.str (txt (ns.getD i 0))) (SqL.of h2) hacc (by rw [List.length_map,sizeLine_eq];have:=t2.1;omega) (fun i x H6 R hx s6 hR=>?_) ?_⟩
  ·rw [List.getElem?_map] at hx
   obtain⟨y,hy,rfl⟩:=Option.map_eq_some_iff.mp hx
   have b:=t2.2 y (List.mem_of_getElem? hy)
   simp only [List.getD_eq_getElem?_getD,hy,Option.getD_some] at hR
   exact⟨rfl,_,rfl,y,rfl,lgB b.1 (Int.lt_of_lt_of_le b.2 p62),hR⟩
  ·rw [Y6 ns]
   have hn:H acc=none:=by
    cases e:H acc with
    | none=>rfl
    | some o=>rw [s2 _ _ e] at hacc;cases hacc
   have al:∀x∈ns.map txt,Sm 62 0 x:=fun x hx=>by
    obtain⟨y,hy,rfl⟩:=List.mem_map.mp hx
    exact zd9 (by decide) (t2.2 y hy).1 (t2.2 y hy).2
   exact q acc (ns.map txt) _ (s2.trans (Same.new hacc)) hn upd_same (WL.all (m:=62) al (by decide) (by rw [List.length_map];exact t2.1)) (Vp fun x hx=>(al x hx).2.2 rfl)
end
section
theorem zj5 {b:Bool}{A B:Prop} (h1:b=true→A) (h2:b=false→B):if b=true then A else B:=by
 cases b
 ·exact h2 rfl
 ·exact h1 rfl
theorem zcO {Pd:Str→Prop}:∀{ys:List V},(∀(i:Nat) (v:V),ys[i]?=some v→∃x,v=V.str x∧Pd x)→∃ns:List Str,ys=ns.map V.str∧∀x∈ns,Pd x
 | [],_=>⟨[],rfl,fun _ z=>nomatch z⟩
 | y::r,h=>by
  obtain⟨x,rfl,px⟩:=h 0 y rfl
  obtain⟨ns,rfl,pn⟩:=zcO fun i v hv=>h (i+1) v hv
  exact⟨x::ns,rfl,fun z hz=>by
   rcases List.mem_cons.mp hz with rfl | hz
   ·exact px
   ·exact pn z hz⟩
noncomputable def WJ (H:Hp) (pn:Addr) (ns ws:List Str) (p:Addr) (H':Hp):Prop:=Same H H'∧H p=none∧H' p=some (.lst (ws.map V.str))∧H' pn=some (.lst (ns.map V.str))∧p≠pn
theorem WJ.app {H H':Hp}{pn p:Addr}{ns ws:List Str} (h:WJ H pn ns ws p H') (x:Str):WJ H pn ns (ws++[x]) p (upd H' p (.lst (ws.map V.str++[V.str x]))):=
 ⟨h.1.wr h.2.1,h.2.1,by rw [upd_same,List.map_append];rfl,by rw [upd_ne (Ne.symm h.2.2.2.2)];exact h.2.2.2.1,h.2.2.2.2⟩
theorem WJ.same {H H' H2:Hp}{pn p:Addr}{ns ws:List Str} (h:WJ H pn ns ws p H') (s:Same H' H2):WJ H pn ns ws p H2:=⟨h.1.trans s,h.2.1,s _ _ h.2.2.1,s _ _ h.2.2.2.1,h.2.2.2.2⟩
theorem none_of {H H':Hp}{q:Addr} (s:Same H H') (h:H' q=none):H q=none:=by
 cases e:H q with
 | none=>rfl
 | some o=>rw [s _ _ e] at h;cases h
theorem WJ.new {H H':Hp}{pn p q:Addr}{ns ws:List Str} (h:WJ H pn ns ws p H') (hq:H' q=none) (ws':List Str):WJ H pn ns ws' q (upd H' q (.lst (ws'.map V.str))):=by
 have n:q≠pn:=fun e=>by rw [e,h.2.2.2.1] at hq;cases hq
 exact⟨h.1.trans (Same.new hq),none_of h.1 hq,upd_same,by rw [upd_ne (Ne.symm n)];exact h.2.2.2.1,n⟩
noncomputable def BW (head:Str) (k:Nat) (ws:List Str):Prop:=∃rest,ws=head::rest∧QM rest≤k
theorem BW.app {head:Str}{k j:Nat}{ws ms:List Str} (h:BW head k ws) (hm:QM ms≤j):BW head (k+j) (ws++ms):=by
 obtain⟨rest,rfl,hb⟩:=h
 exact⟨rest++ms,rfl,by rw [zee];omega⟩
theorem BW.one {head x:Str}{k j:Nat}{ws:List Str} (h:BW head k ws) (hm:bad x≤j):BW head (k+j) (ws++[x]):=h.app (by unfold QM;rw [List.map_singleton,List.sum_singleton];exact hm)
noncomputable def Pf (o:Str):Prop:=2≤(cpl o).length∧∀c∈(cpl o).take 2,c≠102∧c≠114
theorem Wb {c:Nat} (hc:c≠32):∀l:List (List Nat),(qb 32 l).count c=(l.map fun x=>x.count c).sum
 | []=>rfl
 | [x]=>by simp [qb]
 | x::y::r=>by
  show (x++32::qb 32 (y::r)).count c=_
  rw [List.count_append,List.count_cons,Wb hc (y::r),List.map_cons (l:=y::r),List.sum_cons,if_neg (by simpa using Ne.symm hc)]
  rfl
theorem zeh (ws:List Str):bad (Txt.join " " ws)=QM ws:=by
 unfold bad QM
 rw [qI,Wb (by decide),Wb (by decide),List.map_map,List.map_map]
 induction ws with
 | nil=>rfl
 | cons x r ih=>
  simp only [List.map_cons,List.sum_cons] at ih ⊢
  rw [← ih]
  show (cpl x).count 98+_+((cpl x).count 121+_)=(cpl x).count 98+(cpl x).count 121+_
  omega
noncomputable def hdL:List Str:=["frame","write","read","key","unkey","note","hear","short","best","cheap"]
theorem zei:∀x∈hdL,x.length≤5∧(cpl x).count 32≤0:=by decide +kernel
theorem zf8:∀x∈hdL,2≤(cpl x).length∧(cpl x).count 98+(cpl x).count 121≤1∧(((cpl x).count 98+(cpl x).count 121=0∧x≠"note")∨((∀c∈(cpl x).take 2,c≠102∧c≠114)∧(x="note"→(cpl x).count 98+(cpl x).count 121=0))):=by decide +kernel
theorem zfg {head:Str}{rest:List Str} (hh:head∈hdL) (hb:QM rest≤if head="note" then 1 else 0):bad (Txt.join " " (head::rest))≤1∧(bad (Txt.join " " (head::rest))≠0→Pf (Txt.join " " (head::rest))):=by
 obtain⟨h1,h2,h3⟩:=zf8 head hh
 have e:bad (Txt.join " " (head::rest))=bad head+QM rest:=by rw [zeh];unfold QM;rw [List.map_cons,List.sum_cons]
 have h2:bad head≤1:=h2
 obtain⟨u,eu⟩:∃u,cpl (Txt.join " " (head::rest))=cpl head++u:=by
  rw [qI]
  cases rest with
  | nil=>exact⟨[],(List.append_nil _).symm⟩
  | cons y r=>exact⟨32::qb 32 ((y::r).map cpl),rfl⟩
 rw [e]
 rcases h3 with ⟨b0,nn⟩ | ⟨pf,hn⟩
 ·have b0:bad head=0:=b0
  rw [if_neg nn] at hb
  exact⟨by omega,fun z=>absurd (show bad head+QM rest=0 by omega) z⟩
 ·refine⟨?_,fun _=>⟨by rw [eu,List.length_append];omega,by rw [eu,List.take_append_of_le_length h1];exact pf⟩⟩
  split at hb
  ·rename_i z
   have:=hn z
   have:bad head=0:=this
   omega
  ·omega
noncomputable def ntL:List Str:=["","a","ring the bell","A1"]
theorem zch:∀x∈ntL,x.length≤13∧(cpl x).count 32≤2∧(cpl x).count 98+(cpl x).count 121≤1:=by decide +kernel
noncomputable def zej:Sp:=fun vs H Q _=>∃cell:Int,vs=[.int cell]∧∀(o:Str) (H':Hp),Same H H'→Sm 200000 40 o→bad o≤1→(bad o≠0→Pf o)→Q (.str o) H'
theorem zZ:FnScope ["cell","heads","head","words","numbers","message"] ["cell"] (defScope jG):=⟨rfl,rfl,rfl,by decide +kernel,rfl,by decide +kernel,by decide +kernel⟩
theorem zbA (D:Def K mg "_law_written" jG ["cell"]) (T:Txt K mg) (zU:Fn P w K mg base 1 "_law_drawn" ["cell","k"] ze2) (jK:Fn P w K mg base 1 "_law_number" ["number"] (K9 61)) (yL:Fn P w K mg base 2 "_law_message" ["number"] (K9 3001)) (QQ:Fn P w K mg base 1 "_law_name" ["number"] zj4) (Qf:Fn P w K mg base 1 "_law_turns" ["number"] zbz):Fn P w K mg base 3 "_law_written" ["cell"] zej:=by
 refine D.fn zZ (fun vs H Q E h=>?_) (fun f cdv A outer s H vs Q E hr h=>?_)
 ·obtain⟨c,rfl,_⟩:=h
  rfl
 ·obtain⟨cell,rfl,q⟩:=h
  refine Je (zp (qF (i:=1) zZ.nd rfl (Or.inl rfl) (xf (zc zq (zc zq (zc zq (zc zq (zc zq (zc zq (zc zq (zc zq (zc zq (zc zq zm zg) zg) zg) zg) zg) zg) zg) zg) zg) zg)))
   (zp (qF (i:=2) zZ.nd rfl (Or.inl rfl) (Zm ix_list (WE.mk (pv 1)) (zX zR (vV zU (hr.mono (by decide)) (by rfl) (zc (WE.mk (pv 0)) (zc (WE.mk pe_int) zm zg) zf)) (WE.mk pe_int)) (fun _ _=>rfl)))
   (zp (qF (i:=3) zZ.nd rfl (Or.inl rfl) (xf (zc (WE.mk (pv 2)) zm zf)))
   (zp (WS.mk (zcv (k:=4) (own:=["k"]) (fr:=["cell"]) (ix:=[0]) rfl zZ.nd rfl rfl ⟨rfl,rfl,rfl,rfl,rfl,rfl⟩ (pi_range1 (by rfl) T.z_range (pa_cons pe_int pa_nil zg)) (fun _ _ _ _ _=>(pg_name (i:=0) (show (["k","cell"]:List Str).Nodup by decide +kernel) rfl (Or.inl rfl))) (fun _ _ _ _ _=>kW) (fun _ _ _ _ _=>(qm jK (hr.mono (by decide)) (by rfl) (pa_cons (qm zU (hr.mono (by decide)) (by rfl) (pa_cons (pv 1) (pa_cons (pe_op qg pe_int (pv 0)) pa_nil zW) zf)) pa_nil zu)))))
   (zp (qF (i:=5) zZ.nd rfl (Or.inl rfl) (vV yL (hr.mono (by decide)) (by rfl) (zc (vV zU (hr.mono (by decide)) (by rfl) (zc (WE.mk (pv 0)) (zc (WE.mk pe_int) zm zg) zf)) zm zu)))
   (zp (jc (jk op_notIn_seq (WE.mk (pv 2)) (xf (zc zq (zc zq (zc zq zm zg) zg) zg)) (by with_unfolding_all rfl))
    (zx (Zk (QD PySem.F.plainAttrs_list PySem.F.slot_list_append PySem.F.type_list_append mt_append (WE.mk (pv 3)) (zc (vV QQ (hr.mono (by decide)) (by rfl) (zc (vV zU (hr.mono (by decide)) (by rfl) (zc (WE.mk (pv 0)) (zc (WE.mk pe_int) zm zg) zf)) zm zu)) zm zu))))
    zT)
   (zp (jc (WT.mk (pw_or (pt_cmpR op_eq (pv 2) pe_str (nomark _)) (pw_or1 (pt_cmpR op_eq (pv 2) pe_str (nomark _)))).pt)
    (zx (qF (i:=3) zZ.nd rfl (Or.inl rfl) (zX op_cat (WE.mk (pv 3)) (WE.mk (pe_slice sl_list (pv 4) po_none (po_some pe_int))))))
    zT)
   (zp (jc (WT.mk (pw_or (pt_cmpR op_eq (pv 2) pe_str (nomark _)) (pw_or1 (pt_cmpR op_eq (pv 2) pe_str (nomark _)))).pt)
    (zx (Zk (QD PySem.F.plainAttrs_list PySem.F.slot_list_append PySem.F.type_list_append mt_append (WE.mk (pv 3)) (zc (WE.mk (pv 5)) zm zf))))
    zT)
   (zp (jc (jk op_in_seq (WE.mk (pv 2)) (xf (zc zq (zc zq (zc zq zm zg) zg) zg)) (by with_unfolding_all rfl))
    (zx (qF (i:=3) zZ.nd rfl (Or.inl rfl) (zX op_cat (WE.mk (pv 3)) (vV Qf (hr.mono (by decide)) (by rfl) (zc (vV zU (hr.mono (by decide)) (by rfl) (zc (WE.mk (pv 0)) (zc (WE.mk pe_int) zm zg) zf)) zm zu)))))
    zT)
   (zp (jc (jk op_eq (WE.mk (pv 2)) zq (nomark _))
    (zx (Zk (QD PySem.F.plainAttrs_list PySem.F.slot_list_append PySem.F.type_list_append mt_append (WE.mk (pv 3)) (zc (Zm ix_list (xf (zc zq (zc zq (zc zq (zc zq zm zg) zg) zg) zg)) (zX zR (vV zU (hr.mono (by decide)) (by rfl) (zc (WE.mk (pv 0)) (zc (WE.mk pe_int) zm zg) zf)) (WE.mk pe_int)) (fun _ _=>rfl)) zm zy))))
    zT)
   (zp (jc (jk op_eq (WE.mk (pv 2)) zq (nomark _))
    (zx (qF (i:=3) zZ.nd rfl (Or.inl rfl) (zX op_cat (zX op_cat (WE.mk (pv 3)) (WE.mk (pe_slice sl_list (pv 4) po_none (po_some pe_int)))) (xf (zc (WE.mk (pv 5)) zm zf)))))
    zT)
   (zp (jc (jk op_eq (WE.mk (pv 2)) zq (nomark _))
    (zx (qF (i:=3) zZ.nd rfl (Or.inl rfl) (zX op_cat (zX op_cat (WE.mk (pv 3)) (xf (zc (WE.mk (pv 5)) zm zf))) (WE.mk (pe_slice sl_list (pv 4) po_none (po_some pe_int))))))
    zT)
   (zx (qd (QD PySem.F.plainAttrs_str PySem.F.slot_str_join PySem.F.type_str_join Xv zq (zc (WE.mk (pv 3)) zm zf)))))))))))))))) ?_
  refine⟨(by decide),fun ph hph=>?_⟩
  have s1:Same H (upd H ph (.lst (hdL.map V.str))):=Same.new hph
  have h1:(upd H ph (.lst (hdL.map V.str))) ph=some (.lst (hdL.map V.str)):=upd_same
  change (fun(G:Hp)=>_) (upd H ph (.lst (hdL.map V.str)))
  generalize upd H ph (.lst (hdL.map V.str))=H1 at s1 h1 ⊢
  refine⟨_,rfl,_,rfl,cell,0,rfl,by decide,fun d d0 d1=>⟨_,_,rfl,rfl,(by decide),?_⟩⟩
  obtain⟨head,eh,hh⟩:=Zf (ws:=hdL) (i:=d % 10) (by omega) (show d % 10<(10:Int) by omega)
  refine⟨ph,_,_,_,rfl,rfl,SqL.of h1,eh,_,rfl,(by show 1≤sizeLine;decide),fun p hp=>?_⟩
  have hnp:H p=none:=none_of s1 hp
  have s2:Same H (upd H1 p (.lst ([head].map V.str))):=s1.trans (Same.new hp)
  have h2:(upd H1 p (.lst ([head].map V.str))) p=some (.lst ([head].map V.str)):=upd_same
  change (fun(G:Hp)=>_) (upd H1 p (.lst ([head].map V.str)))
  generalize upd H1 p (.lst ([head].map V.str))=H2 at s2 h2 ⊢
  refine⟨5,rfl,by decide,by decide,fun pn hpn=>za3 (lo:=0) (n:=(5:Int).toNat) (fun _ v=>∃x,v=V.str x∧Sm 61 0 x) hpn (by decide) (fun i H6 R hi s6 hR=>?_) ?_⟩
  ·have hi5:i<5:=hi
   rw [show (0:Int)+(i:Int)=(i:Int) by omega]
   exact⟨rfl,_,rfl,_,rfl,_,_,rfl,rfl,cell,10+(i:Int),rfl,zO (qP (m:=64) (by omega) (by omega)) (by decide),fun e e0 e1=>⟨e,rfl,e0,e1,fun x H7 s7 hx=>hR _ _ s7 ⟨x,rfl,hx⟩⟩⟩
  intro ys H3 s3 hY yl yp
  obtain⟨ns,rfl,np⟩:=zcO yp
  rw [List.length_map] at yl
  have yl:ns.length=5:=yl
  have npn:p≠pn:=fun e=>by rw [← e,h2] at hpn;cases hpn
  refine⟨_,rfl,cell,20,rfl,by decide,fun e e0 e1=>⟨e,rfl,e0,e1,fun msg H4 s4 hm=>?_⟩⟩
  have J0:WJ H pn ns [head] p H4:=⟨(s2.trans s3).trans s4,hnp,s4 _ _ (s3 _ _ h2),s4 _ _ hY,npn⟩
  have nsw:∀{lo hi:Option Int},∃ms:List Str,cutV (ns.map V.str) lo hi=ms.map V.str∧WL ms 5∧QM ms=0:=fun {lo hi}=>by
   obtain⟨ms,e,sb⟩:=zeg ns lo hi
   exact⟨ms,e,(WL.all np (by decide) (by omega)).sub sb,Vp fun x hx=>(np x (sb.subset hx)).2.2 rfl⟩
  have L0:WL [head] 2:=WL.one (m:=5) (k:=1) ⟨(zei head hh).1,Nat.le_trans (zei head hh).2 (by decide),fun z=>absurd z (by decide)⟩ (by decide) (by decide)
  have B0:BW head 0 [head]:=⟨[],rfl,Nat.le_refl _⟩
  clear h1 s1 h2 s2 hY s3 hp hpn npn hnp hph
  dsimp only [gName]
  refine jh (fun σ' H'=>∃p ws,σ'=[some (.int cell),some (.ref ph),some (.str head),some (.ref p),some (.ref pn),some (.str msg)]∧WJ H pn ns ws p H'∧WL ws 3∧BW head 0 ws) ?_ (fun N hN=>?_)
  rotate_left
  ·refine⟨_,rfl,(by show 3≤sizeLine;decide),fun tp htp=>⟨tp,_,rfl,.inl (SqL.of upd_same),rfl,rfl,_,rfl,zj5 (fun _=>?_) (fun _=>hN _ _ ⟨p,_,rfl,J0.same (Same.new htp),L0.mono (by decide),B0⟩)⟩⟩
   have J1:=J0.same (Same.new (o:=.lst [V.str "short",V.str "best",V.str "cheap"]) htp)
   refine⟨_,rfl,.inl ⟨rfl,_,SqL.of J1.2.2.1⟩,_,rfl,cell,1,rfl,by decide,fun d d0 d1=>⟨d,rfl,fun x H6 s6 hx=>?_⟩⟩
   have J2:=J1.same s6
   exact⟨p,_,_,rfl,rfl,J2.2.2.1,by show 1<sizeLine;decide,hN _ _ ⟨p,_,rfl,J2.app x,L0.app (WL.one (b:=1) hx (by decide) (by decide)),B0.one (j:=0) (Nat.le_of_eq (hx.2.2 rfl))⟩⟩
  clear J0 L0 B0 p
  rintro σ' H5 ⟨p,ws,rfl,J0,L0,B0⟩
  have wl:∀{b:Nat}{ws:List Str},WL ws b→b≤50→(ws.map V.str).length≤50:=fun {b ws} h hb=>by
   have:=zaK ws
   have:=h.1
   rw [List.length_map]
   omega
  refine jh (fun σ' H'=>∃p ws,σ'=[some (.int cell),some (.ref ph),some (.str head),some (.ref p),some (.ref pn),some (.str msg)]∧WJ H pn ns ws p H'∧WL ws 8∧BW head 0 ws) ?_ (fun N hN=>?_)
  rotate_left
  ·refine(fun G=>⟨_,rfl,rfl,_,rfl,ifD (fun z=>G) (fun z=>⟨_,rfl,rfl,_,rfl,ifD (fun z2=>G) (fun z2=>hN _ _ ⟨p,ws,rfl,J0,L0.mono (by decide),B0⟩)⟩)⟩) ?_
   obtain⟨ms,em,lm,bm⟩:=nsw (lo:=none) (hi:=some 3)
   refine⟨_,rfl,_,rfl,_,rfl,_,_,rfl,SqL.of J0.2.2.2.1,fun c hc=>?_⟩
   rw [em]
   have J1:=J0.same (Same.new (o:=.lst (ms.map V.str)) hc)
   have l1:=wl L0 (by decide)
   have l2:=wl lm (by decide)
   refine⟨p,c,_,_,rfl,rfl,J1.2.2.1,upd_same,by rw [sizeLine_eq];omega,fun q' hq'=>?_⟩
   rw [← List.map_append]
   exact hN _ _ ⟨q',_,rfl,J1.new hq' _,L0.app lm,B0.app (j:=0) (Nat.le_of_eq bm)⟩
  clear J0 L0 B0 p ws H5
  rintro σ' H5 ⟨p,ws,rfl,J0,L0,B0⟩
  refine jh (fun σ' H'=>∃p ws,σ'=[some (.int cell),some (.ref ph),some (.str head),some (.ref p),some (.ref pn),some (.str msg)]∧WJ H pn ns ws p H'∧WL ws 9∧BW head 0 ws) ?_ (fun N hN=>?_)
  rotate_left
  ·refine(fun G=>⟨_,rfl,rfl,_,rfl,ifD (fun z=>G) (fun z=>⟨_,rfl,rfl,_,rfl,ifD (fun z2=>G) (fun z2=>hN _ _ ⟨p,ws,rfl,J0,L0.mono (by decide),B0⟩)⟩)⟩) ?_
   have l1:=wl L0 (by decide)
   exact⟨_,rfl,.inl ⟨rfl,_,SqL.of J0.2.2.1⟩,_,rfl,p,_,_,rfl,rfl,J0.2.2.1,by rw [sizeLine_eq];omega,hN _ _ ⟨p,_,rfl,J0.app msg,L0.app (WL.one (b:=1) hm (by decide) (by decide)),B0.one (j:=0) (Nat.le_of_eq (hm.2.2 rfl))⟩⟩
  clear J0 L0 B0 p ws H5
  rintro σ' H5 ⟨p,ws,rfl,J0,L0,B0⟩
  refine jh (fun σ' H'=>∃p ws,σ'=[some (.int cell),some (.ref ph),some (.str head),some (.ref p),some (.ref pn),some (.str msg)]∧WJ H pn ns ws p H'∧WL ws 15∧BW head 0 ws) ?_ (fun N hN=>?_)
  rotate_left
  ·refine⟨_,rfl,(by show 3≤sizeLine;decide),fun tp htp=>⟨tp,_,rfl,.inl (SqL.of upd_same),rfl,rfl,_,rfl,zj5 (fun _=>?_) (fun _=>hN _ _ ⟨p,_,rfl,J0.same (Same.new htp),L0.mono (by decide),B0⟩)⟩⟩
   have J1:=J0.same (Same.new (o:=.lst [V.str "read",V.str "unkey",V.str "hear"]) htp)
   refine⟨_,rfl,_,rfl,cell,21,rfl,by decide,fun d d0 d1=>⟨d,rfl,d0,fun tq ms H6 s6 _ ht lm bm=>?_⟩⟩
   have J2:=J1.same s6
   have l1:=wl L0 (by decide)
   have l2:=wl lm (by decide)
   refine⟨p,tq,_,_,rfl,rfl,J2.2.2.1,ht,by rw [sizeLine_eq];omega,fun q' hq'=>?_⟩
   rw [← List.map_append]
   exact hN _ _ ⟨q',_,rfl,J2.new hq' _,L0.app lm,B0.app (j:=0) (Nat.le_of_eq bm)⟩
  clear J0 L0 B0 p ws H5
  rintro σ' H5 ⟨p,ws,rfl,J0,L0,B0⟩
  refine jh (fun σ' H'=>∃p ws,σ'=[some (.int cell),some (.ref ph),some (.str head),some (.ref p),some (.ref pn),some (.str msg)]∧WJ H pn ns ws p H'∧WL ws 18∧BW head (if head="note" then 1 else 0) ws) ?_ (fun N hN=>?_)
  rotate_left
  ·refine⟨_,rfl,rfl,_,rfl,ifD (fun z=>?_) (fun z=>hN _ _ ⟨p,ws,rfl,J0,L0.mono (by decide),by rw [if_neg (fun y=>z (by rw [y]))];exact B0⟩)⟩
   refine⟨_,rfl,.inl ⟨rfl,_,SqL.of J0.2.2.1⟩,(by show 4≤sizeLine;decide),fun tp htp=>⟨_,rfl,cell,22,rfl,by decide,fun d d0 d1=>⟨_,_,rfl,rfl,(by decide),?_⟩⟩⟩
   have J1:=J0.same (Same.new (o:=.lst (ntL.map V.str)) htp)
   obtain⟨x,ex,hx⟩:=Zf (ws:=ntL) (i:=d % 4) (by omega) (show d % 4<(4:Int) by omega)
   have l1:=wl L0 (by decide)
   exact⟨tp,_,_,_,rfl,rfl,SqL.of upd_same,ex,p,_,_,rfl,rfl,J1.2.2.1,by rw [sizeLine_eq];omega,hN _ _ ⟨p,_,rfl,J1.app x,L0.app (WL.one (m:=13) (k:=2) (b:=3) ⟨(zch x hx).1,(zch x hx).2.1,fun z=>absurd z (by decide)⟩ (by decide) (by decide)),by rw [if_pos (V.str.inj z)];exact B0.one (j:=1) (zch x hx).2.2⟩⟩
  clear J0 L0 B0 p ws H5
  rintro σ' H5 ⟨p,ws,rfl,J0,L0,B0⟩
  refine jh (fun σ' H'=>∃p ws,σ'=[some (.int cell),some (.ref ph),some (.str head),some (.ref p),some (.ref pn),some (.str msg)]∧WJ H pn ns ws p H'∧WL ws 24∧BW head (if head="note" then 1 else 0) ws) ?_ (fun N hN=>?_)
  rotate_left
  ·refine⟨_,rfl,rfl,_,rfl,ifD (fun z=>?_) (fun z=>hN _ _ ⟨p,ws,rfl,J0,L0.mono (by decide),B0⟩)⟩
   obtain⟨ms,em,lm,bm⟩:=nsw (lo:=none) (hi:=some 2)
   refine⟨_,rfl,_,rfl,_,rfl,_,_,rfl,SqL.of J0.2.2.2.1,fun c hc=>?_⟩
   rw [em]
   have J1:=J0.same (Same.new (o:=.lst (ms.map V.str)) hc)
   have l1:=wl L0 (by decide)
   have l2:=wl lm (by decide)
   refine⟨p,c,_,_,rfl,rfl,J1.2.2.1,upd_same,by rw [sizeLine_eq];omega,fun q' hq'=>?_⟩
   rw [← List.map_append]
   have J2:=J1.new hq' (ws++ms)
   have L2:=L0.app lm
   have l3:=wl L2 (by decide)
   refine⟨_,rfl,(by show 1≤sizeLine;decide),fun r hr'=>?_⟩
   have J3:=J2.same (Same.new (o:=.lst [V.str msg]) hr')
   refine⟨q',r,_,_,rfl,rfl,J3.2.2.1,upd_same,by rw [sizeLine_eq];show _+1≤_;omega,fun q2 hq2=>?_⟩
   rw [show (ws++ms).map V.str++[V.str msg]=(ws++ms++[msg]).map V.str by rw [List.map_append (l₁:=ws++ms)];rfl]
   exact hN _ _ ⟨q2,_,rfl,J3.new hq2 _,L2.app (WL.one (b:=1) hm (by decide) (by decide)),(B0.app (j:=0) (Nat.le_of_eq bm)).one (j:=0) (Nat.le_of_eq (hm.2.2 rfl))⟩
  clear J0 L0 B0 p ws H5
  rintro σ' H5 ⟨p,ws,rfl,J0,L0,B0⟩
  refine jh (fun σ' H'=>∃p ws,σ'=[some (.int cell),some (.ref ph),some (.str head),some (.ref p),some (.ref pn),some (.str msg)]∧WJ H pn ns ws p H'∧WL ws 30∧BW head (if head="note" then 1 else 0) ws) ?_ (fun N hN=>?_)
  rotate_left
  ·refine⟨_,rfl,rfl,_,rfl,ifD (fun z=>?_) (fun z=>hN _ _ ⟨p,ws,rfl,J0,L0.mono (by decide),B0⟩)⟩
   have l1:=wl L0 (by decide)
   refine⟨_,rfl,_,rfl,(by show 1≤sizeLine;decide),fun r hr'=>?_⟩
   have J3:=J0.same (Same.new (o:=.lst [V.str msg]) hr')
   refine⟨p,r,_,_,rfl,rfl,J3.2.2.1,upd_same,by rw [sizeLine_eq];show _+1≤_;omega,fun q' hq'=>?_⟩
   rw [show ws.map V.str++[V.str msg]=(ws++[msg]).map V.str by rw [List.map_append];rfl]
   have J2:=J3.new hq' (ws++[msg])
   have L2:=L0.app (WL.one (b:=1) hm (by decide) (by decide))
   have l3:=wl L2 (by decide)
   obtain⟨ms,em,lm,bm⟩:=nsw (lo:=none) (hi:=some 4)
   refine⟨_,rfl,_,rfl,_,_,rfl,SqL.of J2.2.2.2.1,fun c hc=>?_⟩
   rw [em]
   have J1:=J2.same (Same.new (o:=.lst (ms.map V.str)) hc)
   have l2:=wl lm (by decide)
   refine⟨q',c,_,_,rfl,rfl,J1.2.2.1,upd_same,by rw [sizeLine_eq];omega,fun q2 hq2=>?_⟩
   rw [← List.map_append]
   exact hN _ _ ⟨q2,_,rfl,J1.new hq2 _,L2.app lm,(B0.one (j:=0) (Nat.le_of_eq (hm.2.2 rfl))).app (j:=0) (Nat.le_of_eq bm)⟩
  clear J0 L0 B0 p ws H5
  rintro σ' H5 ⟨p,ws,rfl,J0,L0,B0⟩
  obtain⟨sz,sm⟩:=L0.join (by decide) (by decide)
  obtain⟨rest,rfl,hb⟩:=B0
  obtain⟨pf1,pf2⟩:=zfg hh hb
  exact⟨rfl,_,rfl," ",p,_,rfl,rfl,SqL.of J0.2.2.1,sz,q _ _ J0.1 (sm.mono (by decide) (by decide)) pf1 pf2⟩
end
theorem zci {x:Str}{j:Int} (h0:0≤j) (h1:j≤x.length):cpl (Txt.slice x none (some j))=(cpl x).take j.toNat:=by
 rw [eq_of_beq (PyProof.Rows.slice_closes_toL h0 h1)]
 show ((cpl x).drop (Int.toNat 0)).take (j-0).toNat=_
 rw [show (j-0).toNat=j.toNat by omega]
 rfl
theorem Wc {x:Str}{i:Int} (h0:0≤i):cpl (Txt.slice x (some i) none)=(cpl x).drop i.toNat:=by
 rcases PyProof.Rows.slice_sn_cases x i h0 with ⟨z1,z⟩ | ⟨z,_⟩
 ·have z:(Txt.slice x (some i) none).length=0:=by omega
  rw [← zF] at z
  rw [List.eq_nil_of_length_eq_zero z,List.drop_of_length_le (by rw [zF];omega)]
 ·rw [PyProof.Rows.slice_from_eq h0 (Int.le_of_lt z) rfl]
  exact List.take_of_length_le (by rw [List.length_drop,zF];omega)
theorem zcj {m k b:Nat}{x y:Str}{j i:Int} (h:Sm m k x) (h0:0≤j) (h1:j≤x.length) (hi:i=j∨i=j+1) (hy1:y.length≤b) (hy2:blk y≤b) (k1:1≤k):Sm (m+b) (k+b) (Txt.slice x none (some j)++y++Txt.slice x (some i) none):=by
 have e:cpl (Txt.slice x none (some j)++y++Txt.slice x (some i) none)=(cpl x).take j.toNat++cpl y++(cpl x).drop i.toNat:=by rw [jo,jo,zci h0 h1,Wc (by omega)]
 have s:((cpl x).drop i.toNat).Sublist ((cpl x).drop j.toNat):=by
  rcases hi with rfl | rfl
  ·exact List.Sublist.refl _
  ·rw [show (j+1).toNat=j.toNat+1 by omega,← List.drop_drop]
   exact List.drop_sublist ..
 have l1:=s.length_le
 have c1:=s.count_le (a:=32)
 have l2:=congrArg List.length (List.take_append_drop j.toNat (cpl x))
 have c2:=congrArg (List.count 32) (List.take_append_drop j.toNat (cpl x))
 rw [List.length_append,zF] at l2
 rw [List.count_append] at c2
 have hx:=h.1
 have hk:(cpl x).count 32≤k:=h.2.1
 have hy2:(cpl y).count 32≤b:=hy2
 refine⟨?_,?_,fun z=>absurd z (by omega)⟩
 ·rw [← zF,e,List.length_append,List.length_append,zF y]
  omega
 ·unfold blk
  rw [e,List.count_append,List.count_append]
  omega
theorem zfh {m k:Nat}{x:Str}{j i:Int} (h:Sm m k x) (h0:0≤j) (h1:j≤x.length) (hi:i=j∨i=j+1) (k1:1≤k):Sm m k (Txt.slice x none (some j)++Txt.slice x (some i) none):=by
 have:=zcj (b:=0) (y:=Str.empty) h h0 h1 hi (Nat.le_refl _) (Nat.le_refl _) k1
 have e:Txt.slice x none (some j)++Str.empty=Txt.slice x none (some j):=Zd (by rw [jo];exact List.append_nil _)
 rw [e] at this
 exact this
theorem zaL:∀{l:List (List Nat)},l≠[]→(qb 32 l).length+1=(l.map fun x=>x.length+1).sum∧(qb 32 l).count 32+1=(l.map fun x=>x.count 32+1).sum
 | [],h=>absurd rfl h
 | [x],_=>by simp [qb]
 | x::y::r,_=>by
  obtain⟨h1,h2⟩:=zaL (l:=y::r) (by simp)
  constructor
  ·show (x++32::qb 32 (y::r)).length+1=_
   rw [List.map_cons,List.sum_cons,← h1,List.length_append,List.length_cons]
   omega
  ·show (x++32::qb 32 (y::r)).count 32+1=_
   rw [List.map_cons,List.sum_cons,← h2,List.count_append,List.count_cons_self]
   omega
theorem zf9 {m k:Nat}{o y:Str}{ws:List Str} (n:Nat) (hj:Txt.join sp ws=o) (hn:ws≠[]) (h:Sm m k o) (y1:y.length≤m) (y2:blk y≤0):Sm (m+m+1) (k+1) (Txt.join " " (ws.take n++[y]++ws.drop n)):=by
 have g1:=zaL (l:=ws.map cpl) (by simpa using hn)
 have g2:=zaL (l:=(ws.take n++[y]++ws.drop n).map cpl) (by simp)
 have e1:cpl o=qb 32 (ws.map cpl):=by rw [← qI];exact congrArg cpl hj.symm
 have e2:=qI (ws.take n++[y]++ws.drop n)
 rw [← e1] at g1
 rw [← e2] at g2
 have s1:∀f:List Nat→Nat,(((ws.take n++[y]++ws.drop n).map cpl).map f).sum=f (cpl y)+((ws.map cpl).map f).sum:=fun f=>by
  have:=congrArg (fun l=>((l.map cpl).map f).sum) (List.take_append_drop n ws)
  simp only [List.map_append,List.sum_append,List.map_cons,List.map_nil,List.sum_cons,List.sum_nil] at this ⊢
  omega
 rw [s1,s1,← g1.1,← g1.2,zF,zF,zF] at g2
 have h1:=h.1
 have h2:(cpl o).count 32≤k:=h.2.1
 have y2:(cpl y).count 32≤0:=y2
 exact⟨by omega,by unfold blk;omega,fun z=>absurd z (by omega)⟩
noncomputable def NB (o:Str):Prop:=∀r,¬Words o "frame" ("nobody"::r)
theorem Wd:(cpl "nobody").count 98+(cpl "nobody").count 121=2:=by decide +kernel
theorem zaM {x y:Str} (s:(cpl y).Sublist (cpl x)):bad y≤bad x:=by
 have c1:=s.count_le (a:=98)
 have c2:=s.count_le (a:=121)
 unfold bad
 omega
theorem We {o w0:Str}{ws:List Str} (W:Words o w0 ws){y:Str} (hy:y∈w0::ws):(cpl y).Sublist (cpl o):=by
 have e:cpl o=qb 32 ((w0::ws).map cpl):=by rw [← qI];exact congrArg cpl W.jn.symm
 rw [e]
 exact(zaB (l:=(w0::ws).map cpl) (by simp)).2 _ (List.mem_map.mpr ⟨y,hy,rfl⟩)
theorem zck {o:Str} (h:bad o≤1):NB o:=fun r W=>by
 have h1:=zaM (We W (y:="nobody") (by simp))
 have h2:bad "nobody"=2:=Wd
 omega
theorem zdv:cpl "frame"=102::114::[97,109,101]:=by decide +kernel
theorem zj6 {o:Str} (h:∀u,cpl o≠102::114::u):NB o:=fun r W=>by
 have e:cpl o=qb 32 ((("frame":Str)::"nobody"::r).map cpl):=by rw [← qI];exact congrArg cpl W.jn.symm
 refine h ([97,109,101]++32::qb 32 ((("nobody":Str)::r).map cpl)) (e.trans ?_)
 show cpl "frame"++32::qb 32 ((("nobody":Str)::r).map cpl)=_
 rw [zdv]
 rfl
theorem zga {x y:Str}{j i:Int} (h:Pf x) (h0:0≤j) (h1:j≤x.length) (hi:i=j∨i=j+1) (hy:(∃s,cpl y=[s])∨(cpl y=[]∧i=j+1)):∀u,cpl (Txt.slice x none (some j)++y++Txt.slice x (some i) none)≠102::114::u:=by
 rw [jo,jo,zci h0 h1,Wc (by omega)]
 obtain⟨hl,hc⟩:=h
 intro u
 match hx:cpl x with
 | []=>rw [hx] at hl;exact absurd hl (by decide)
 | [_]=>rw [hx] at hl;exact absurd hl (by simp)
 | c0::c1::r=>
  rw [hx] at hc
  have n0:=hc c0 (by simp)
  have n1:=hc c1 (by simp)
  match hj:j.toNat with
  | k+1=>
   intro e
   exact n0.1 (List.cons.inj (show c0::_=102::_ from e)).1
  | 0=>
   rw [List.take_zero,List.nil_append]
   rcases hy with ⟨s,hs⟩ | ⟨hs,z⟩
   ·rw [hs]
    rcases (show i.toNat=0∨i.toNat=1 by omega) with z | z <;> rw [z] <;> intro e
    ·exact n0.2 (List.cons.inj (List.cons.inj (show s::c0::_=102::114::_ from e)).2).1
    ·exact n1.2 (List.cons.inj (List.cons.inj (show s::c1::_=102::114::_ from e)).2).1
   ·rw [hs,show i.toNat=1 by omega]
    intro e
    exact n1.1 (List.cons.inj (show c1::_=102::_ from e)).1
theorem zfi {x y:Str}{j i:Int} (h0:0≤j) (h1:j≤x.length) (hi:i=j∨i=j+1):bad (Txt.slice x none (some j)++y++Txt.slice x (some i) none)≤bad x+bad y:=by
 rw [Kf,Kf]
 unfold bad
 rw [zci h0 h1,Wc (by omega)]
 have s:((cpl x).drop i.toNat).Sublist ((cpl x).drop j.toNat):=by
  rcases hi with rfl | rfl
  ·exact List.Sublist.refl _
  ·rw [show (j+1).toNat=j.toNat+1 by omega,← List.drop_drop]
   exact List.drop_sublist ..
 have c1:=s.count_le (a:=98)
 have c2:=s.count_le (a:=121)
 have d1:=congrArg (List.count 98) (List.take_append_drop j.toNat (cpl x))
 have d2:=congrArg (List.count 121) (List.take_append_drop j.toNat (cpl x))
 rw [List.count_append] at d1 d2
 omega
theorem zcl {x y:Str}{j i:Int} (hb:bad x≤1) (hp:bad x≠0→Pf x) (h0:0≤j) (h1:j≤x.length) (hi:i=j∨i=j+1) (hy:(∃s,cpl y=[s])∨(cpl y=[]∧i=j+1)):NB (Txt.slice x none (some j)++y++Txt.slice x (some i) none):=by
 by_cases z:bad x=0
 ·refine zck (Nat.le_trans (zfi h0 h1 hi) ?_)
  rw [z]
  rcases hy with ⟨s,hs⟩ | ⟨hs,_⟩
  ·unfold bad
   rw [hs,List.count_singleton,List.count_singleton]
   split <;> split <;> simp_all
  ·unfold bad
   rw [hs]
   decide
 ·exact zj6 (zga (hp z) h0 h1 hi hy)
theorem zgb (xs:List V) (n:Nat) (h:n≤xs.length):cutV xs none (some (n:Int))=xs.take n:=by
 unfold cutV
 have e1:HT.sIx xs.length 0 none=0:=rfl
 have e2:HT.sIx xs.length xs.length (some (n:Int))=min n xs.length:=HT.sIx_nat ..
 rw [e1,e2,List.drop_zero,show min n xs.length-0=n by omega]
theorem zbB (xs:List V) (n:Nat) (h:n≤xs.length):cutV xs (some (n:Int)) none=xs.drop n:=by
 unfold cutV
 have e1:HT.sIx xs.length xs.length none=xs.length:=rfl
 have e2:HT.sIx xs.length 0 (some (n:Int))=min n xs.length:=HT.sIx_nat ..
 rw [e1,e2,show min n xs.length=n by omega]
 exact List.take_of_length_le (by rw [List.length_drop];exact Nat.le_refl _)
theorem zgc (K:W.Frag):W.kitOne K (.type "NoneType") (.type "str")=some false∧W.kitOne K (.type "int") (.type "str")=some false∧W.kitOne K (.type "bool") (.type "str")=some false∧W.kitOne K (.type "list") (.type "str")=some false∧W.kitOne K (.type "tuple") (.type "str")=some false∧W.kitOne K (.type "dict") (.type "str")=some false:=by
 refine⟨?_,?_,?_,?_,?_,?_⟩ <;> with_unfolding_all rfl
theorem Zv.mono {K:W.Frag} {H H':Hp}{v:V} (s:Same H H') (h:Zv K H v):Zv K H' v:=by
 obtain⟨T,ty,k⟩:=h
 refine⟨T,?_,k⟩
 cases ty with
 | non=>exact .non
 | bl x=>exact .bl x
 | int i=>exact .int i
 | str x=>exact .str x
 | flt x=>exact .flt x
 | lst e=>exact .lst (s _ _ e)
 | frz e=>exact .frz (s _ _ e)
 | tup e=>exact .tup (s _ _ e)
 | dK e=>exact .dK (s _ _ e)
 | dT e=>exact .dT (s _ _ e)
noncomputable def alL:Str:="0 1 -a"
theorem zfj:alL.cps.toList.length=6:=by decide +kernel
section
noncomputable def zfk (K:W.Frag):Sp:=fun vs H Q _=>∃cell:Int,vs=[.int cell]∧(∀(o:Str) (H':Hp),Same H H'→Sm 500000 50 o→NB o→Q (.str o) H')∧∀(v:V) (H':Hp),Same H H'→Zv K H' v→Q v H'
theorem qy:FnScope ["cell","order","number","head","place","sign","words","at"] ["cell"] (defScope xF):=⟨rfl,rfl,rfl,by decide +kernel,rfl,by decide +kernel,by decide +kernel⟩
theorem zdw (D:Def K mg "_law_order" xF ["cell"]) (T:Txt K mg) (zU:Fn P w K mg base 1 "_law_drawn" ["cell","k"] ze2) (yM:Fn P w K mg base 3 "_law_written" ["cell"] zej) (QR:Fn P w K mg base 1 "_law_sign" ["number"] zeb):Fn P w K mg base 4 "_law_order" ["cell"] (zfk K):=by
 refine D.fn qy (fun vs H Q E h=>?_) (fun f cdv A outer s H vs Q E hr h=>?_)
 ·obtain⟨c,rfl,_⟩:=h
  rfl
 ·obtain⟨cell,rfl,q1,q2⟩:=h
  refine Je (zp (qF (i:=1) qy.nd rfl (Or.inl rfl) (vV yM (hr.mono (by decide)) (by rfl) (zc (WE.mk (pv 0)) zm zf)))
   (zp (qF (i:=2) qy.nd rfl (Or.inl rfl) (vV zU (hr.mono (by decide)) (by rfl) (zc (WE.mk (pv 0)) (zc (WE.mk pe_int) zm zg) zf)))
   (zp (jc (jk jd (zX zR (WE.mk (pv 2)) (WE.mk pe_int)) (WE.mk pe_int) (nomark _))
    (zp (qF (i:=3) qy.nd rfl (Or.inl rfl) (Zm ix_list (QD PySem.F.plainAttrs_str PySem.F.slot_str_split PySem.F.type_str_split ZM (WE.mk (pv 1)) (zc zq zm zg)) (WE.mk pe_int) (fun _ _=>rfl)))
    (zx (qd (Zm ix_list (xf (zc zq (zc zq (zc (WE.mk (pv 3)) (zc (zX op_add_str (WE.mk (pv 3)) zq) zm zW) zf) zg) zg)) (zX zR (zX qO (WE.mk (pv 2)) (WE.mk pe_int)) (WE.mk pe_int)) (fun _ _=>rfl)))))
    zT)
   (zp (jc (jk jd (zX zR (WE.mk (pv 2)) (WE.mk pe_int)) (WE.mk pe_int) (nomark _))
    (zx (qd (Zm ix_list (xf (zc (WE.mk pe_non) (zc (WE.mk pe_int) (zc (WE.mk pe_bl) (zc (xf (zc zq zm zg)) (zc (Ji (zc zq (zc zq zm zg) zg)) (zc (WE.mk pe_dnewK) (zc (WE.mk pe_int) zm zg)))) zg) zg) zg)) (zX zR (zX qO (WE.mk (pv 2)) (WE.mk pe_int)) (WE.mk pe_int)) (fun _ _=>rfl))))
    zT)
   (zp (qF (i:=4) qy.nd rfl (Or.inl rfl) (zX zR (vV zU (hr.mono (by decide)) (by rfl) (zc (WE.mk (pv 0)) (zc (WE.mk pe_int) zm zg) zf)) (zX qg (yj call_len_str (by rfl) T.z_len j7 (zc (WE.mk (pv 1)) zm zf)) (WE.mk pe_int))))
   (zp (qF (i:=5) qy.nd rfl (Or.inl rfl) (vV QR (hr.mono (by decide)) (by rfl) (zc (vV zU (hr.mono (by decide)) (by rfl) (zc (WE.mk (pv 0)) (zc (WE.mk pe_int) zm zg) zf)) zm zu)))
   (zp (jc (jk jd (zX zR (zX qO (WE.mk (pv 2)) (WE.mk pe_int)) (WE.mk pe_int)) (WE.mk pe_int) (nomark _))
    (zx (qF (i:=5) qy.nd rfl (Or.inl rfl) (Zm ix_str zq (zX zR (vV zU (hr.mono (by decide)) (by rfl) (zc (WE.mk (pv 0)) (zc (WE.mk pe_int) zm zg) zf)) (WE.mk pe_int)) (fun _ _=>rfl))))
    zT)
   (zp (jc (WT.mk (pw_or (pt_cmpR jd (pe_op zR (pv 2) pe_int) pe_int (nomark _)) (pw_or1 (pt_cmpR jd (pe_op zR (pv 2) pe_int) pe_int (nomark _)))).pt)
    (zx (qd (zX op_add_str (zX op_add_str (WE.mk (pe_slice Vb (pv 1) po_none (po_some (pv 4)))) (WE.mk (pv 5))) (WE.mk (pe_slice Vb (pv 1) (po_some (pv 4)) po_none)))))
    zT)
   (zp (jc (jk jd (zX zR (WE.mk (pv 2)) (WE.mk pe_int)) (WE.mk pe_int) (nomark _))
    (zx (qd (zX op_add_str (WE.mk (pe_slice Vb (pv 1) po_none (po_some (pv 4)))) (WE.mk (pe_slice Vb (pv 1) (po_some (pe_op qg (pv 4) pe_int)) po_none)))))
    zT)
   (zp (jc (jk jd (zX zR (WE.mk (pv 2)) (WE.mk pe_int)) (WE.mk pe_int) (nomark _))
    (zx (qd (zX op_add_str (zX op_add_str (WE.mk (pe_slice Vb (pv 1) po_none (po_some (pv 4)))) (WE.mk (pv 5))) (WE.mk (pe_slice Vb (pv 1) (po_some (pe_op qg (pv 4) pe_int)) po_none)))))
    zT)
   (zp (jc (jk jd (zX zR (WE.mk (pv 2)) (WE.mk pe_int)) (WE.mk pe_int) (nomark _))
    (zp (qF (i:=6) qy.nd rfl (Or.inl rfl) (QD PySem.F.plainAttrs_str PySem.F.slot_str_split PySem.F.type_str_split ZM (WE.mk (pv 1)) (zc zq zm zg)))
    (zp (qF (i:=7) qy.nd rfl (Or.inl rfl) (zX zR (WE.mk (pv 4)) (zX qg (yj call_len_seq (by rfl) T.z_len j7 (zc (WE.mk (pv 6)) zm zf)) (WE.mk pe_int))))
    (zx (qd (QD PySem.F.plainAttrs_str PySem.F.slot_str_join PySem.F.type_str_join Xv zq (zc (zX op_cat (zX op_cat (WE.mk (pe_slice sl_list (pv 6) po_none (po_some (pv 7)))) (xf (zc (Zm ix_list (xf (zc zq (zc zq (zc zq (zc (Zm ix_list (WE.mk (pv 6)) (WE.mk (pe_un un_neg pe_int)) (fun _ _=>rfl)) zm zy) zg) zg) zg)) (zX zR (vV zU (hr.mono (by decide)) (by rfl) (zc (WE.mk (pv 0)) (zc (WE.mk pe_int) zm zg) zf)) (WE.mk pe_int)) (fun _ _=>rfl)) zm zy))) (WE.mk (pe_slice sl_list (pv 6) (po_some (pv 7)) po_none))) zm zW))))))
    zT)
   (zx (qd (WE.mk (pv 1))))))))))))))) ?_
  refine⟨_,rfl,cell,rfl,fun o H1 s1 so ob op=>?_⟩
  have ol:o.length≤sizeLine:=by rw [sizeLine_eq];have:=so.1;omega
  have ol2:o.length+2≤sizeLine:=by rw [sizeLine_eq];have:=so.1;omega
  obtain⟨w0,ws,W⟩:=words_of o
  obtain⟨wl,wsm⟩:=W.sm so
  refine⟨_,rfl,cell,30,rfl,by decide,fun n n0 n1=>?_⟩
  dsimp only [gName]
  refine jh (fun σ' H'=>σ'=[some (.int cell),some (.str o),some (.int n),none,none,none,none,none]∧H'=H1) ?_ (fun N hN=>?_)
  rotate_left
  ·refine⟨_,rfl,_,_,rfl,rfl,(by decide),_,_,rfl,rfl,_,rfl,ifD (fun z=>?_) (fun z=>hN _ _ ⟨rfl,rfl⟩)⟩
   refine⟨_,rfl,rfl,o," ",rfl,rfl,JN,ol2,fun pw hpw=>?_⟩
   rw [show Txt.split o " "=w0::ws from W.eq]
   refine⟨pw,_,0,_,rfl,rfl,SqL.of upd_same,(show atI ((w0::ws).map V.str) ((0:Nat):Int)=some (V.str w0) from atI_nat rfl),?_⟩
   have h0:=wsm w0 (List.mem_cons_self ..)
   have s2:Same H (upd H1 pw (.lst ((w0::ws).map V.str))):=s1.trans (Same.new hpw)
   generalize upd H1 pw (.lst ((w0::ws).map V.str))=H2 at s2 ⊢
   refine⟨_,rfl,_,rfl,_,_,rfl,rfl,by rw [bl1,sizeLine_eq];have:=h0.1;omega,(by show 4≤sizeLine;decide),fun p hp=>?_⟩
   obtain⟨x,ex,hx⟩:=Zf (ws:=[""," ",w0,w0++" "]) (i:=n / 16 % 4) (by omega) (show n / 16 % 4<(4:Int) by omega)
   refine⟨_,rfl,_,_,rfl,rfl,⟨by decide,by decide⟩,_,_,rfl,rfl,(by decide),p,_,_,_,rfl,rfl,SqL.of upd_same,ex,q1 x _ (s2.trans (Same.new hp)) ?_ (zck ?_)⟩
   rotate_left
   ·have hb0:=Nat.le_trans (zaM (We W (List.mem_cons_self ..))) ob
    simp only [List.mem_cons,List.not_mem_nil,or_false] at hx
    rcases hx with rfl | rfl | rfl | rfl
    ·unfold bad;decide +kernel
    ·unfold bad;decide +kernel
    ·exact hb0
    ·rw [Kf]
     have:bad " "=0:=by unfold bad;decide +kernel
     omega
   have hs:Sm 1 1 " ":=yI (by decide +kernel)
   simp only [List.mem_cons,List.not_mem_nil,or_false] at hx
   rcases hx with rfl | rfl | rfl | rfl
   ·exact yI (by decide +kernel)
   ·exact hs.mono (by decide) (by decide)
   ·exact h0.mono (by decide) (by decide)
   ·exact(zcd h0 hs).mono (by decide) (by decide)
  rintro σ' H' ⟨rfl,rfl⟩
  refine jh (fun σ' H2=>σ'=[some (.int cell),some (.str o),some (.int n),none,none,none,none,none]∧H2=H') ?_ (fun N hN=>?_)
  rotate_left
  ·refine⟨_,rfl,_,_,rfl,rfl,(by decide),_,_,rfl,rfl,_,rfl,ifD (fun z=>?_) (fun z=>hN _ _ ⟨rfl,rfl⟩)⟩
   refine⟨(by show 1≤sizeLine;decide),fun p1 hp1=>⟨(by show 2≤sizeLine;decide),fun p2 hp2 p3 hp3=>⟨(by show 7≤sizeLine;decide),fun p4 hp4=>?_⟩⟩⟩
   have e1:(upd H' p1 (.lst [V.str "short"])) p1=some (.lst [V.str "short"]):=upd_same
   have t1:Same H (upd H' p1 (.lst [V.str "short"])):=s1.trans (Same.new hp1)
   generalize upd H' p1 (.lst [V.str "short"])=H1 at e1 t1 hp2 hp3 hp4 ⊢
   have e2:(upd H1 p2 (.tup [V.str "note",V.str "c"])) p2=some (.tup [V.str "note",V.str "c"]):=upd_same
   have t2:Same H1 (upd H1 p2 (.tup [V.str "note",V.str "c"])):=Same.new hp2
   generalize upd H1 p2 (.tup [V.str "note",V.str "c"])=H2 at e2 t2 hp3 hp4 ⊢
   have e3:(upd H2 p3 (.dK [])) p3=some (.dK []):=upd_same
   have t3:Same H2 (upd H2 p3 (.dK [])):=Same.new hp3
   generalize upd H2 p3 (.dK [])=H3 at e3 t3 hp4 ⊢
   have t4:Same H3 (upd H3 p4 (.lst [V.non,V.int 7,V.bl false,V.ref p1,V.ref p2,V.ref p3,V.int 0])):=Same.new hp4
   have e4:(upd H3 p4 (.lst [V.non,V.int 7,V.bl false,V.ref p1,V.ref p2,V.ref p3,V.int 0])) p4=some (.lst [V.non,V.int 7,V.bl false,V.ref p1,V.ref p2,V.ref p3,V.int 0]):=upd_same
   generalize upd H3 p4 (.lst [V.non,V.int 7,V.bl false,V.ref p1,V.ref p2,V.ref p3,V.int 0])=H4 at e4 t4 ⊢
   have t04:Same H H4:=((t1.trans t2).trans t3).trans t4
   obtain⟨k1,k2,k3,k4,k5,k6⟩:=zgc K
   obtain⟨v,ev,hv⟩:∃v,atI [V.non,V.int 7,V.bl false,V.ref p1,V.ref p2,V.ref p3,V.int 0] (n / 16 % 7)=some v∧Zv K H4 v:=by
    rcases (by omega:n / 16 % 7=0∨n / 16 % 7=1∨n / 16 % 7=2∨n / 16 % 7=3∨n / 16 % 7=4∨n / 16 % 7=5∨n / 16 % 7=6) with z | z | z | z | z | z | z <;> rw [z]
    ·exact⟨_,rfl,_,.non,k1⟩
    ·exact⟨_,rfl,_,.int _,k2⟩
    ·exact⟨_,rfl,_,.bl _,k3⟩
    ·exact⟨_,rfl,_,.lst (t4 _ _ (t3 _ _ (t2 _ _ e1))),k4⟩
    ·exact⟨_,rfl,_,.tup (t4 _ _ (t3 _ _ e2)),k5⟩
    ·exact⟨_,rfl,_,.dK (t4 _ _ e3),k6⟩
    ·exact⟨_,rfl,_,.int _,k2⟩
   exact⟨_,rfl,_,_,rfl,rfl,⟨by decide,by decide⟩,_,_,rfl,rfl,(by decide),p4,_,_,v,rfl,rfl,SqL.of e4,ev,q2 v H4 t04 hv⟩
  rintro σ' H2 ⟨rfl,rfl⟩
  refine⟨_,rfl,cell,31,rfl,by decide,fun d d0 d1=>⟨_,rfl,o,rfl,ol,_,_,rfl,rfl,_,_,rfl,rfl,by omega,?_⟩⟩
  have j0:0≤d % ((o.length:Int)+1):=Int.emod_nonneg _ (by omega)
  have j1:d % ((o.length:Int)+1)≤o.length:=by
   have:=Int.emod_lt_of_pos d (show 0<(o.length:Int)+1 by omega)
   omega
  generalize d % ((o.length:Int)+1)=j at j0 j1 ⊢
  refine⟨_,rfl,cell,32,rfl,by decide,fun e e0 e1=>⟨e,rfl,fun c=>?_⟩⟩
  dsimp only [gName]
  refine jh (fun σ' H'=>∃c:Nat,σ'=[some (.int cell),some (.str o),some (.int n),none,some (.int j),some (.str ⟨#[c]⟩),none,none]∧H'=H2) ?_ (fun N hN=>?_)
  rotate_left
  ·refine⟨_,rfl,_,_,rfl,rfl,⟨by decide,by decide⟩,_,_,rfl,rfl,(by decide),_,_,rfl,rfl,_,rfl,ifD (fun z=>?_) (fun z=>hN _ _ ⟨c,rfl,rfl⟩)⟩
   refine⟨_,rfl,cell,32,rfl,by decide,fun e e0 e1=>⟨_,_,rfl,rfl,(by decide),?_⟩⟩
   obtain⟨c',ec,_⟩:=zed (l:=alL.cps.toList) (e % 6) (by omega) (by rw [zfj];omega)
   exact⟨_,_,_,rfl,rfl,(by decide +kernel),ec,hN _ _ ⟨c',rfl,rfl⟩⟩
  clear c
  rintro σ' H3 ⟨c,rfl,rfl⟩
  have sc2:blk (⟨#[c]⟩:Str)≤1:=by unfold blk;have:=List.count_le_length (a:=32) (l:=cpl ⟨#[c]⟩);exact this
  have l1:∀{i:Option Int} {i':Option Int},(Txt.slice o i i').length≤200000:=fun {i i'}=>Nat.le_trans (Txt.slice_le o i i') so.1
  refine jh (fun σ' H'=>σ'=[some (.int cell),some (.str o),some (.int n),none,some (.int j),some (.str ⟨#[c]⟩),none,none]∧H'=H3) ?_ (fun N hN=>?_)
  rotate_left
  ·refine(fun G=>⟨_,rfl,_,_,rfl,rfl,(by decide),_,_,rfl,rfl,_,rfl,ifD (fun z=>G) (fun z=>⟨_,rfl,_,_,rfl,rfl,(by decide),_,_,rfl,rfl,_,rfl,ifD (fun z2=>G) (fun z2=>hN _ _ ⟨rfl,rfl⟩)⟩)⟩) ?_
   have a1:=l1 (i:=none) (i':=some j)
   have a2:=l1 (i:=some j) (i':=none)
   refine⟨_,rfl,_,rfl,_,rfl,o,rfl,ol,_,rfl,_,_,rfl,rfl,by rw [sizeLine_eq];show _+1≤_;omega,_,rfl,_,rfl,_,rfl,o,rfl,ol,_,_,rfl,rfl,by rw [len_app,sizeLine_eq];show _+1+_≤_;omega,q1 _ _ s1 ((zcj so j0 j1 (.inl rfl) (Nat.le_refl 1) sc2 (by decide)).mono (by decide) (by decide)) (zcl ob op j0 j1 (.inl rfl) (.inl ⟨c,rfl⟩))⟩
  rintro σ' H4 ⟨rfl,rfl⟩
  refine jh (fun σ' H'=>σ'=[some (.int cell),some (.str o),some (.int n),none,some (.int j),some (.str ⟨#[c]⟩),none,none]∧H'=H4) ?_ (fun N hN=>?_)
  rotate_left
  ·refine⟨_,rfl,_,_,rfl,rfl,(by decide),_,_,rfl,rfl,_,rfl,ifD (fun z=>?_) (fun z=>hN _ _ ⟨rfl,rfl⟩)⟩
   have a1:=l1 (i:=none) (i':=some j)
   have a2:=l1 (i:=some (j+1)) (i':=none)
   refine⟨_,rfl,_,rfl,_,rfl,o,rfl,ol,_,rfl,_,rfl,_,_,rfl,rfl,_,rfl,o,rfl,ol,_,_,rfl,rfl,by rw [sizeLine_eq];omega,q1 _ _ s1 ((zfh so j0 j1 (.inr rfl) (by decide)).mono (by decide) (by decide)) ?_⟩
   have hnb:=zcl (y:=Str.empty) ob op j0 j1 (.inr rfl) (.inr ⟨rfl,rfl⟩)
   have ee:Txt.slice o none (some j)++Str.empty=Txt.slice o none (some j):=Zd (by rw [jo];exact List.append_nil _)
   rw [ee] at hnb
   exact hnb
  rintro σ' H5 ⟨rfl,rfl⟩
  refine jh (fun σ' H'=>σ'=[some (.int cell),some (.str o),some (.int n),none,some (.int j),some (.str ⟨#[c]⟩),none,none]∧H'=H5) ?_ (fun N hN=>?_)
  rotate_left
  ·refine⟨_,rfl,_,_,rfl,rfl,(by decide),_,_,rfl,rfl,_,rfl,ifD (fun z=>?_) (fun z=>hN _ _ ⟨rfl,rfl⟩)⟩
   have a1:=l1 (i:=none) (i':=some j)
   have a2:=l1 (i:=some (j+1)) (i':=none)
   exact⟨_,rfl,_,rfl,_,rfl,o,rfl,ol,_,rfl,_,_,rfl,rfl,by rw [sizeLine_eq];show _+1≤_;omega,_,rfl,_,rfl,_,_,rfl,rfl,_,rfl,o,rfl,ol,_,_,rfl,rfl,by rw [len_app,sizeLine_eq];show _+1+_≤_;omega,q1 _ _ s1 ((zcj so j0 j1 (.inr rfl) (Nat.le_refl 1) sc2 (by decide)).mono (by decide) (by decide)) (zcl ob op j0 j1 (.inr rfl) (.inl ⟨c,rfl⟩))⟩
  rintro σ' H6 ⟨rfl,rfl⟩
  refine jh (fun σ' H'=>σ'=[some (.int cell),some (.str o),some (.int n),none,some (.int j),some (.str ⟨#[c]⟩),none,none]∧H'=H6) ?_ (fun N hN=>?_)
  rotate_left
  ·refine⟨_,rfl,_,_,rfl,rfl,(by decide),_,_,rfl,rfl,_,rfl,ifD (fun z=>?_) (fun z=>hN _ _ ⟨rfl,rfl⟩)⟩
   refine⟨_,rfl,rfl,o," ",rfl,rfl,JN,ol2,fun pw hpw=>?_⟩
   rw [show Txt.split o " "=w0::ws from W.eq]
   have wne:w0::ws≠[]:=by simp
   have wj:=W.jn
   have wwd:=W.wd
   have zj7:∀z∈w0::ws,(cpl z).Sublist (cpl o):=fun z hz=>We W hz
   have wll:(w0::ws).length≤41:=by rw [List.length_cons];omega
   generalize w0::ws=us at wsm wne wj wwd zj7 wll hpw ⊢
   have s2:Same H (upd H6 pw (.lst (us.map V.str))):=s1.trans (Same.new hpw)
   have e2:(upd H6 pw (.lst (us.map V.str))) pw=some (.lst (us.map V.str)):=upd_same
   generalize upd H6 pw (.lst (us.map V.str))=HA at s2 e2 ⊢
   have el:(us.map V.str).length=us.length:=List.length_map ..
   refine⟨_,rfl,_,rfl,_,_,rfl,.inl (SqL.of e2),_,_,rfl,rfl,_,_,rfl,rfl,by omega,?_⟩
   obtain⟨a,ea,ha⟩:∃a:Nat,j % (((us.map V.str).length:Int)+1)=(a:Int)∧a≤us.length:=by
    have x0:=Int.emod_nonneg j (show (((us.map V.str).length:Int)+1)≠0 by omega)
    have x1:=Int.emod_lt_of_pos j (show 0<((us.map V.str).length:Int)+1 by omega)
    exact⟨(j % (((us.map V.str).length:Int)+1)).toNat,by omega,by omega⟩
   rw [ea]
   refine⟨rfl,_,rfl,_,rfl,_,rfl,_,_,rfl,SqL.of e2,fun pa hpa=>?_⟩
   rw [zgb _ _ (by omega),← List.map_take]
   have s3:Same H (upd HA pa (.lst ((us.take a).map V.str))):=s2.trans (Same.new hpa)
   have e3:(upd HA pa (.lst ((us.take a).map V.str))) pa=some (.lst ((us.take a).map V.str)):=upd_same
   have e2:(upd HA pa (.lst ((us.take a).map V.str))) pw=some (.lst (us.map V.str)):=(Same.new hpa) _ _ e2
   generalize upd HA pa (.lst ((us.take a).map V.str))=HB at s3 e3 e2 ⊢
   obtain⟨y,ey,hy⟩:∃y,atI (us.map V.str) (-1)=some (V.str y)∧y∈us:=by
    have h1:us.length-1<us.length:=by cases us with | nil=>exact absurd rfl wne | cons _ _=>simp
    refine⟨us[us.length-1],?_,List.getElem_mem _⟩
    unfold atI ixN
    rw [if_neg (by decide),if_pos (by rw [List.length_map];omega)]
    show (us.map V.str)[(-1+((us.map V.str).length:Int)).toNat]?=_
    rw [show (-1+((us.map V.str).length:Int)).toNat=us.length-1 by rw [List.length_map];omega,List.getElem?_map,List.getElem?_eq_getElem h1]
    rfl
   refine⟨_,rfl,_,rfl,pw,_,-1,_,rfl,rfl,SqL.of e2,ey,(by show 4≤sizeLine;decide),fun p4 hp4=>?_⟩
   have s4:Same HB (upd HB p4 (.lst [V.str "c",V.str "2",V.str "0",V.str y])):=Same.new hp4
   have e4:(upd HB p4 (.lst [V.str "c",V.str "2",V.str "0",V.str y])) p4=some (.lst [V.str "c",V.str "2",V.str "0",V.str y]):=upd_same
   generalize upd HB p4 (.lst [V.str "c",V.str "2",V.str "0",V.str y])=HC at s4 e4 ⊢
   refine⟨_,rfl,cell,33,rfl,by decide,fun g g0 g1=>⟨_,_,rfl,rfl,(by decide),?_⟩⟩
   obtain⟨x,ex,hx⟩:=Zf (ws:=["c","2","0",y]) (i:=g % 4) (by omega) (show g % 4<(4:Int) by omega)
   have sx:x.length≤200000∧blk x≤0:=by
    simp only [List.mem_cons,List.not_mem_nil,or_false] at hx
    rcases hx with rfl | rfl | rfl | rfl
    ·exact⟨by decide +kernel,by unfold blk;decide +kernel⟩
    ·exact⟨by decide +kernel,by unfold blk;decide +kernel⟩
    ·exact⟨by decide +kernel,by unfold blk;decide +kernel⟩
    ·exact⟨(wsm _ hy).1,by unfold blk;rw [List.count_eq_zero.mpr (wwd _ hy)];exact Nat.le_refl _⟩
   refine⟨p4,_,_,_,rfl,rfl,SqL.of e4,ex,(by show 1≤sizeLine;decide),fun p5 hp5=>?_⟩
   have s5:Same HC (upd HC p5 (.lst [V.str x])):=Same.new hp5
   have e5:(upd HC p5 (.lst [V.str x])) p5=some (.lst [V.str x]):=upd_same
   generalize upd HC p5 (.lst [V.str x])=HD at s5 e5 ⊢
   have tl:(us.take a).length≤41:=by rw [List.length_take];omega
   have dl:(us.drop a).length≤41:=by rw [List.length_drop];omega
   refine⟨pa,p5,_,_,rfl,rfl,s5 _ _ (s4 _ _ e3),e5,by rw [List.length_map,sizeLine_eq];show _+1≤_;omega,fun p6 hp6=>?_⟩
   rw [show (us.take a).map V.str++[V.str x]=(us.take a++[x]).map V.str by rw [List.map_append];rfl]
   have s6:Same HD (upd HD p6 (.lst ((us.take a++[x]).map V.str))):=Same.new hp6
   have e6:(upd HD p6 (.lst ((us.take a++[x]).map V.str))) p6=some (.lst ((us.take a++[x]).map V.str)):=upd_same
   generalize upd HD p6 (.lst ((us.take a++[x]).map V.str))=HE at s6 e6 ⊢
   refine⟨_,rfl,_,rfl,_,rfl,_,_,rfl,SqL.of (s6 _ _ (s5 _ _ (s4 _ _ e2))),fun p7 hp7=>?_⟩
   rw [zbB _ _ (by omega),← List.map_drop]
   have s7:Same HE (upd HE p7 (.lst ((us.drop a).map V.str))):=Same.new hp7
   have e7:(upd HE p7 (.lst ((us.drop a).map V.str))) p7=some (.lst ((us.drop a).map V.str)):=upd_same
   generalize upd HE p7 (.lst ((us.drop a).map V.str))=HF at s7 e7 ⊢
   refine⟨p6,p7,_,_,rfl,rfl,s7 _ _ e6,e7,by rw [List.length_map,List.length_map,List.length_append,List.length_singleton,sizeLine_eq];omega,fun p8 hp8=>?_⟩
   rw [← List.map_append]
   have hin:=zf9 a wj wne so sx.1 sx.2
   have hl:∀z∈us.take a++[x]++us.drop a,z.length≤200000:=fun z hz=>by
    simp only [List.mem_append,List.mem_singleton] at hz
    rcases hz with (hz | rfl) | hz
    ·exact(wsm z (List.mem_of_mem_take hz)).1
    ·exact sx.1
    ·exact(wsm z (List.mem_of_mem_drop hz)).1
   have hsum:=zef hl
   have hll:(us.take a++[x]++us.drop a).length≤42:=by rw [List.length_append,List.length_append,List.length_singleton,List.length_take,List.length_drop];omega
   have hm:=Nat.mul_le_mul_right 200000 hll
   refine⟨" ",p8,_,rfl,rfl,SqL.of upd_same,by rw [bl1];omega,q1 _ _ ((((((s3.trans s4).trans s5).trans s6).trans s7)).trans (Same.new hp8)) (hin.mono (by decide) (by decide)) ?_⟩
   intro r WW
   have nu:∀z∈us,z≠"nobody":=fun z hz e=>by
    have h1:=zaM (zj7 z hz)
    rw [e] at h1
    have h2:bad "nobody"=2:=Wd
    omega
   have hw:∀z∈us.take a++[x]++us.drop a,Z5 z∧z≠"nobody":=fun z hz=>by
    simp only [List.mem_append,List.mem_singleton] at hz
    rcases hz with (hz | rfl) | hz
    ·exact⟨wwd z (List.mem_of_mem_take hz),nu z (List.mem_of_mem_take hz)⟩
    ·simp only [List.mem_cons,List.not_mem_nil,or_false] at hx
     rcases hx with rfl | rfl | rfl | rfl
     ·exact⟨by unfold Z5;decide +kernel,by decide +kernel⟩
     ·exact⟨by unfold Z5;decide +kernel,by decide +kernel⟩
     ·exact⟨by unfold Z5;decide +kernel,by decide +kernel⟩
     ·exact⟨wwd _ hy,nu _ hy⟩
    ·exact⟨wwd z (List.mem_of_mem_drop hz),nu z (List.mem_of_mem_drop hz)⟩
   have e1:=WW.eq
   rw [show Txt.join " " (us.take a++[x]++us.drop a)=Txt.join sp (us.take a++[x]++us.drop a) from rfl,yz (by simp) (fun z hz=>(hw z hz).1)] at e1
   exact(hw "nobody" (by rw [e1];simp)).2 rfl
  rintro σ' H7 ⟨rfl,rfl⟩
  exact⟨_,rfl,q1 o _ s1 (so.mono (by decide) (by decide)) (zck ob)⟩
end
theorem zbC:∀{a b:List Int},a.Perm b→a.Pairwise (·≤·)→b.Pairwise (·≤·)→a=b
 | [],b,p,_,_=>(List.Perm.nil_eq p)
 | x::a,[],p,_,_=>absurd p.length_eq (by simp)
 | x::a,y::b,p,ha,hb=>by
  obtain⟨h1,h2⟩:=List.pairwise_cons.mp ha
  obtain⟨h3,h4⟩:=List.pairwise_cons.mp hb
  have e:x=y:=by
   have m1:x∈y::b:=p.mem_iff.mp (List.mem_cons_self ..)
   have m2:y∈x::a:=p.mem_iff.mpr (List.mem_cons_self ..)
   rcases List.mem_cons.mp m1 with z | z
   ·exact z
   rcases List.mem_cons.mp m2 with z2 | z2
   ·exact z2.symm
   ·have:=h1 y z2
    have:=h3 x z
    omega
  subst e
  rw [zbC (List.Perm.cons_inv p) h2 h4]
noncomputable def Zw (c:Nat) (x:Str):Prop:=Num (if c=109 then 3000 else 60) x∧(c=98→zA x≤60)
noncomputable def VP:List Str→List Nat→Prop
 | [],[]=>True
 | x::r,c::s=>Zw c x∧VP r s
 | _,_=>False
theorem XR:∀{ws:List Str}{cs:List Nat},VP ws cs↔ws.length=cs.length∧∀(i:Nat) (x:Str) (c:Nat),ws[i]?=some x→cs[i]?=some c→Zw c x
 | [],[]=>⟨fun _=>⟨rfl,fun i x c h=>by simp at h⟩,fun _=>trivial⟩
 | [],c::s=>⟨fun h=>h.elim,fun h=>absurd h.1 (by simp)⟩
 | x::r,[]=>⟨fun h=>h.elim,fun h=>absurd h.1 (by simp)⟩
 | x::r,c::s=>by
  show Zw c x∧VP r s↔_
  rw [XR]
  constructor
  ·rintro⟨h1,h2,h3⟩
   refine⟨by simp [h2],fun i y d hy hd=>?_⟩
   cases i with
   | zero=>cases hy;cases hd;exact h1
   | succ i=>exact h3 i y d hy hd
  ·rintro⟨h1,h2⟩
   exact⟨h2 0 x c rfl rfl,by simpa using h1,fun i y d hy hd=>h2 (i+1) y d hy hd⟩
theorem cm:("m":Str)=⟨#[109]⟩:=by decide +kernel
theorem cb:("b":Str)=⟨#[98]⟩:=by decide +kernel
theorem one_inj {c d:Nat}:(⟨#[c]⟩:Str)=⟨#[d]⟩↔c=d:=⟨fun h=>by cases h;rfl,fun h=>by rw [h]⟩
theorem isM (c:Nat):V.str ⟨#[c]⟩=V.str "m"↔c=109:=by rw [cm];exact⟨fun h=>one_inj.mp (V.str.inj h),fun h=>by rw [h]⟩
theorem isB (c:Nat):V.str ⟨#[c]⟩=V.str "b"↔c=98:=by rw [cb];exact⟨fun h=>one_inj.mp (V.str.inj h),fun h=>by rw [h]⟩
section
noncomputable def zbD:Sp:=fun vs H Q _=>∃x:Str,vs=[.str x]∧x.length≤1000000∧∀(b:Bool) (H':Hp),Same H H'→(b=true↔zK x)→Q (.bl b) H'
theorem VR:FnScope ["word"] ["word"] (defScope jH):=⟨rfl,rfl,rfl,by decide +kernel,rfl,by decide +kernel,by decide +kernel⟩
theorem zdx (D:Def K mg "_law_is_name" jH ["word"]) (T:Txt K mg):Fn P w K mg base 1 "_law_is_name" ["word"] zbD:=by
 refine D.fn VR (fun vs H Q E h=>?_) (fun f cdv A outer s H vs Q E hr h=>?_)
 ·obtain⟨x,rfl,_⟩:=h
  rfl
 ·obtain⟨x,rfl,xl,q⟩:=h
  have xs:x.length≤sizeLine:=by rw [sizeLine_eq];omega
  refine Je (zx (qd (WE.mk (pe_and (pe_cmpR Kp pe_int (pe_callB call_len_str (by rfl) T.z_len j7 (pa_cons (pv 0) pa_nil zf)) (nomark _)) (pe_and (pe_cmpR Kp (pe_callB call_len_str (by rfl) T.z_len j7 (pa_cons (pv 0) pa_nil zf)) pe_int (nomark _)) (pe_one (pe_callB (Ks rfl) (by rfl) T.z_all zdD (pa_cons (Z2 (own:=["sign"]) (fr:=[]) (ix:=[]) rfl ⟨rfl,rfl,rfl,rfl,rfl,rfl⟩ (zai (pv 0)) (fun _ _ _ _ _=>(pg_name (i:=0) (show (["sign"]:List Str).Nodup by decide +kernel) rfl (Or.inl rfl))) (fun _ _ _ _ _=>kW) (fun _ _ _ _ _=>(pe_cmpR op_in_str (pv 0) pe_str (by with_unfolding_all rfl)))) pa_nil)))))))) ?_
  refine⟨_,rfl,x,rfl,xs,_,_,rfl,rfl,_,rfl,ifD (fun h1=>⟨_,rfl,x,rfl,xs,_,_,rfl,rfl,_,rfl,ifD (fun h2=>?_) (fun h2=>q false H (Same.refl _) ⟨(fun z=>nomatch z),fun z=>absurd (show (x.length:Int)≤8 by have:=z.le;omega) h2⟩)⟩) (fun h1=>q false H (Same.refl _) ⟨(fun z=>nomatch z),fun z=>absurd (show (1:Int)≤(x.length:Int) by have:=z.ne;omega) h1⟩)⟩
  refine⟨_,rfl,x,rfl,fun acc hacc=>JF (fun c=>V.bl (decide (c∈cpl "abcdefghijklmnopqrstuvwxyz"))) hacc xs (fun i c H6 R hc s6 hR=>?_) ?_⟩
  ·refine⟨rfl,_,rfl,_,_,rfl,rfl,?_⟩
   rw [StrLaws.found_one]
   exact hR
  ·refine⟨acc,(cpl x).map (fun c=>decide (c∈cpl "abcdefghijklmnopqrstuvwxyz")),rfl,SqL.of (by rw [upd_same,List.map_map];rfl),q _ _ (Same.new hacc) ?_⟩
   rw [← Y5,List.all_eq_true]
   constructor
   ·intro z
    exact⟨by omega,h2,fun c hc=>of_decide_eq_true (z _ (List.mem_map.mpr ⟨c,hc,rfl⟩))⟩
   ·rintro⟨_,_,z⟩ b hb
    obtain⟨c,hc,rfl⟩:=List.mem_map.mp hb
    exact decide_eq_true (z c hc)
noncomputable def zcP:Sp:=fun vs H Q _=>∃(x:Str) (most:Nat),vs=[.str x,.int (most:Int)]∧x.length≤1000000∧∀(b:Bool) (H':Hp),Same H H'→(b=true↔Num most x)→Q (.bl b) H'
theorem XS:FnScope ["word","most"] ["word","most"] (defScope qT):=⟨rfl,rfl,rfl,by decide +kernel,rfl,by decide +kernel,by decide +kernel⟩
theorem zek (D:Def K mg "_law_is_number" qT ["word","most"]) (T:Txt K mg):Fn P w K mg base 1 "_law_is_number" ["word","most"] zcP:=by
 refine D.fn XS (fun vs H Q E h=>?_) (fun f cdv A outer s H vs Q E hr h=>?_)
 ·obtain⟨x,most,rfl,_⟩:=h
  rfl
 ·obtain⟨x,most,rfl,xl,q⟩:=h
  have xs:x.length≤sizeLine:=by rw [sizeLine_eq];omega
  refine Je (zp (jc (WT.mk (pw_or (pt_cmpR Ko (pe_callB call_len_str (by rfl) T.z_len j7 (pa_cons (pv 0) pa_nil zf)) pe_int (nomark _)) (pw_or (pt_cmpR Qx (pe_callB call_len_str (by rfl) T.z_len j7 (pa_cons (pv 0) pa_nil zf)) (pv 1) (nomark _)) (pw_or1 (pw_and (pt_cmpR Qx (pe_callB call_len_str (by rfl) T.z_len j7 (pa_cons (pv 0) pa_nil zf)) pe_int (nomark _)) (pw_and1 (pt_cmpR op_eq (pe_ix ix_str (pv 0) pe_int (fun _ _=>rfl)) pe_str (nomark _)))).pt))).pt)
    (zx (qd (WE.mk pe_bl)))
    zT)
   (zx (qd (yj (Ks rfl) (by rfl) T.z_all zdD (zc (WE.mk (Z2 (own:=["sign"]) (fr:=[]) (ix:=[]) rfl ⟨rfl,rfl,rfl,rfl,rfl,rfl⟩ (zai (pv 0)) (fun _ _ _ _ _=>(pg_name (i:=0) (show (["sign"]:List Str).Nodup by decide +kernel) rfl (Or.inl rfl))) (fun _ _ _ _ _=>kW) (fun _ _ _ _ _=>(pe_cmpR op_in_str (pv 0) pe_str (by with_unfolding_all rfl))))) zm))))) ?_
  have no:∀{H':Hp},Same H H'→¬Num most x→Q (.bl false) H':=fun s n=>q false _ s ⟨(fun z=>nomatch z),fun z=>absurd z n⟩
  dsimp only [gName]
  refine jh (fun σ' H'=>σ'=[some (.str x),some (.int most)]∧H'=H∧1≤x.length∧x.length≤most∧((cpl x)[0]?=some 48→cpl x=[48])) ?_ (fun N hN=>?_)
  rotate_left
  ·refine⟨_,rfl,x,rfl,xs,_,_,rfl,rfl,_,rfl,ifD (fun h1=>iteT (no (Same.refl _) fun z=>by have:=z.ne;omega)) (fun h1=>⟨_,rfl,x,rfl,xs,_,rfl,_,_,rfl,rfl,_,rfl,ifD (fun h2=>iteT (no (Same.refl _) fun z=>by have:=z.le;omega)) (fun h2=>⟨_,rfl,x,rfl,xs,_,_,rfl,rfl,_,rfl,ifD (fun h3=>?_) (fun h3=>iteF (hN _ _ ⟨rfl,rfl,by omega,by omega,fun z=>?_⟩))⟩)⟩)⟩
   ·obtain⟨c,r,hx⟩:∃c r,cpl x=c::r:=by
     cases e:cpl x with
     | nil=>rw [← zF,e] at h3;exact absurd h3 (by decide)
     | cons c r=>exact⟨c,r,rfl⟩
    have ha:atI x.cps.toList 0=some c:=by
     show atI (cpl x) 0=some c
     rw [hx]
     exact(show atI (c::r) ((0:Nat):Int)=some c from atI_nat rfl)
    refine⟨_,rfl,x,0,c,rfl,rfl,xs,ha,rfl,_,rfl,ifD (fun z=>?_) (fun z=>?_)⟩
    ·refine no (Same.refl _) fun y=>?_
     have z:(⟨#[c]⟩:Str)="0":=V.str.inj z
     have ec:c=48:=by
      have:=congrArg cpl z
      rw [zcI] at this
      simpa [cpl] using this
     have e0:=y.led (by rw [hx,ec];rfl)
     have:=congrArg List.length e0
     rw [zF] at this
     simp at this
     omega
    ·refine hN _ _ ⟨rfl,rfl,by omega,by omega,fun y=>?_⟩
     rw [hx] at y
     have ec:c=48:=by simpa using y
     subst ec
     exact absurd rfl z
   ·have l1:x.length=1:=by omega
    rw [← zF] at l1
    obtain⟨c,e⟩:=List.length_eq_one_iff.mp l1
    rw [e] at z ⊢
    have ec:c=48:=by simpa using z
    rw [ec]
  rintro σ' H' ⟨rfl,rfl,k1,k2,k3⟩
  refine⟨_,rfl,x,rfl,fun acc hacc=>JF (fun c=>V.bl (decide (c∈cpl "0123456789"))) hacc xs (fun i c H6 R hc s6 hR=>?_) ?_⟩
  ·refine⟨rfl,_,rfl,_,_,rfl,rfl,?_⟩
   rw [StrLaws.found_one]
   exact hR
  ·refine⟨acc,(cpl x).map (fun c=>decide (c∈cpl "0123456789")),rfl,SqL.of (by rw [upd_same,List.map_map];rfl),q _ _ (Same.new hacc) ?_⟩
   rw [List.all_eq_true]
   constructor
   ·intro z
    exact⟨k1,k2,fun c hc=>(Ke c).mp (of_decide_eq_true (z _ (List.mem_map.mpr ⟨c,hc,rfl⟩))),k3⟩
   ·intro z b hb
    obtain⟨c,hc,rfl⟩:=List.mem_map.mp hb
    exact decide_eq_true ((Ke c).mpr (z.dig c hc))
noncomputable def zel:Sp:=fun vs H Q _=>∃(a:Addr) (ws:List Str) (form:Str),vs=[.ref a,.str form]∧H a=some (.lst (ws.map V.str))∧(∀x∈ws,x.length≤1000000)∧form.length≤1000∧(form.cps.all fun c=>decide (c<128))=true∧∀(b:Bool) (H':Hp),Same H H'→(b=true↔VP ws (cpl form))→Q (.bl b) H'
theorem zls (c:Nat):atI [V.int 60,V.int 3000] (if decide (V.str ⟨#[c]⟩=V.str "m")=true then 1 else 0)=some (V.int ((if c=109 then 3000 else 60:Nat):Int)):=by
 by_cases h:c=109
 ·rw [if_pos (decide_eq_true ((isM c).mpr h)),if_pos h]
  rfl
 ·rw [if_neg (fun z=>h ((isM c).mp (of_decide_eq_true z))),if_neg h]
  rfl
theorem QS:FnScope ["words","form","word","wanted"] ["words","form"] (defScope wM):=⟨rfl,rfl,rfl,by decide +kernel,rfl,by decide +kernel,by decide +kernel⟩
theorem zgd (ND:NoDig K) (D:Def K mg "_law_fit" wM ["words","form"]) (T:Txt K mg) (v9:Fn P w K mg base 1 "_law_is_number" ["word","most"] zcP):Fn P w K mg base 2 "_law_fit" ["words","form"] zel:=by
 refine D.fn QS (fun vs H Q E h=>?_) (fun f cdv A outer s H vs Q E hr h=>?_)
 ·obtain⟨a,ws,form,rfl,_⟩:=h
  rfl
 ·obtain⟨a,ws,form,rfl,hA,wl,fl,fa,q⟩:=h
  have fs:form.length≤sizeLine:=by rw [sizeLine_eq];omega
  refine Je (zp (jc (jk zdB (yj call_len_seq (by rfl) T.z_len j7 (zc (WE.mk (pv 0)) zm zf)) (yj call_len_str (by rfl) T.z_len j7 (zc (WE.mk (pv 1)) zm zf)) (nomark _))
    (zx (qd (WE.mk pe_bl)))
    zT)
   (zp (zcC PassesOwn.never rfl (ze0 (by rfl) T.z_zip (pa_cons (pv 0) (pa_cons (pv 1) pa_nil zf) zf)) (pg_tup (n:=2) rfl (pgs_cons (pg_name (i:=2) QS.nd rfl (Or.inl rfl)) (pgs_cons (pg_name (i:=3) QS.nd rfl (Or.inl rfl)) pgs_nil)))
    (zx (jc (WT.mk (pw_or (pt_not (pt_val (qm v9 (hr.mono (by decide)) (by rfl) (pa_cons (pv 2) (pa_cons (pe_ix ix_list (pe_lst (pa_cons pe_int (pa_cons pe_int pa_nil zg) zg)) (pe_callTy call_int1 (by rfl) T.z_int Qu (pa_cons (pe_cmpR op_eq (pv 3) pe_str (nomark _)) pa_nil)) (fun _ _=>rfl)) pa_nil zy) zf)))) (pw_or1 (pw_and (pt_cmpR op_eq (pv 3) pe_str (nomark _)) (pw_and1 (pt_cmpR Qx (pe_callTy (qX ND) (by rfl) T.z_int Qu (pa_cons (pv 2) pa_nil zf)) pe_int (nomark _)))).pt)).pt)
     (zx (qd (WE.mk pe_bl)))
     zT)))
   (zx (qd (WE.mk pe_bl))))) ?_
  have el:(ws.map V.str).length=ws.length:=List.length_map ..
  have no:∀{H':Hp},Same H H'→¬VP ws (cpl form)→Q (.bl false) H':=fun s n=>q false _ s ⟨(fun z=>nomatch z),fun z=>absurd z n⟩
  dsimp only [gName]
  refine jh (fun σ' H'=>σ'=[some (.ref a),some (.str form),none,none]∧H'=H∧ws.length=form.length) ?_ (fun N hN=>?_)
  rotate_left
  ·refine⟨_,rfl,_,_,rfl,.inl (SqL.of hA),_,rfl,form,rfl,fs,_,_,rfl,rfl,_,rfl,?_⟩
   rw [el]
   refine zeM (fun h1=>no (Same.refl _) fun z=>?_) (fun h1=>hN _ _ ⟨rfl,rfl,by omega⟩)
   have:=(XR.mp z).1
   rw [zF] at this
   exact h1 (by rw [this])
  rintro σ' H' ⟨rfl,rfl,le⟩
  refine⟨_,rfl,_,rfl,a,form,_,rfl,fa,SqL.of hA,zdZ (K:=K) (a:=a) (xs:=ws.map V.str) (y:=form) (fun i σ H2=>∃v2 v3:Option V,σ=[some (.ref a),some (.str form),v2,v3]∧Same H' H2∧∀(j:Nat) (x:Str) (c:Nat),j<i→ws[j]?=some x→(cpl form)[j]?=some c→Zw c x) (by rw [el,le];rfl) ⟨none,none,rfl,Same.refl _,fun j _ _ h=>absurd h (Nat.not_lt_zero _)⟩ (fun i σ H2 ⟨_,_,_,s2,_⟩=>SqL.of (s2 _ _ hA)) ?_ ?_⟩
  ·rintro i y c t σ H2 hx hc ⟨v2,v3,rfl,s2,done⟩ ht
   rw [List.getElem?_map] at hx
   obtain⟨x,hx0,rfl⟩:=Option.map_eq_some_iff.mp hx
   clear hx
   have hx:=hx0
   have hc':(cpl form)[i]?=some c:=by rw [← hc];simp [cpl]
   have xl:=wl x (List.mem_of_getElem? hx)
   have zfI:¬Zw c x→¬VP ws (cpl form):=fun n z=>n ((XR.mp z).2 i x c hx hc')
   have s3:Same H' (upd H2 t (.tup [V.str x,V.str ⟨#[c]⟩])):=s2.trans (Same.new ht)
   have e3:(upd H2 t (.tup [V.str x,V.str ⟨#[c]⟩])) t=some (.tup [V.str x,V.str ⟨#[c]⟩]):=upd_same
   generalize upd H2 t (.tup [V.str x,V.str ⟨#[c]⟩])=H3 at s3 e3 ⊢
   refine⟨t,_,rfl,SqT.of e3,rfl,_,_,rfl,_,_,rfl,rfl,?_⟩
   refine⟨_,rfl,(by show 2≤sizeLine;decide),fun p hp=>⟨_,rfl,rfl,.inr ⟨_,rfl,p,_,_,_,rfl,rfl,SqL.of upd_same,zls c,x,_,rfl,xl,fun b H4 s4 hb=>?_⟩⟩⟩
   have s5:Same H' H4:=(s3.trans (Same.new hp)).trans s4
   cases b
   ·exact⟨_,rfl,iteT (iteT (no s5 (zfI fun z=>by cases hb.mpr z.1)))⟩
   have hn:=hb.mp rfl
   have nx:Zw c x→∃v2 v3:Option V,([some (.ref a),some (.str form),some (.str x),some (.str ⟨#[c]⟩)]:St)=[some (.ref a),some (.str form),v2,v3]∧Same H' H4∧∀(j:Nat) (x:Str) (c:Nat),j<i+1→ws[j]?=some x→(cpl form)[j]?=some c→Zw c x:=fun g=>⟨_,_,rfl,s5,fun j x' c' hj h1 h2=>by
    rcases Nat.lt_or_eq_of_le (Nat.lt_succ_iff.mp hj) with z | z
    ·exact done j x' c' z h1 h2
    ·subst z
     rw [hx] at h1
     rw [hc'] at h2
     cases h1;cases h2
     exact g⟩
   refine⟨_,rfl,iteF ⟨_,rfl,rfl,_,rfl,ifD (fun zb=>?_) (fun zb=>iteF (nx ⟨hn,fun z=>absurd ((isB c).mpr z) zb⟩))⟩⟩
   have ec:=(isB c).mp zb
   have zlu:Num 60 x:=by rw [ec] at hn;exact hn
   refine⟨_,rfl,x,zA x,rfl,num_reads zlu (by decide),by rw [sizeLine_eq];omega,_,_,rfl,rfl,_,rfl,ifD (fun h=>no s5 (zfI fun z=>by have:=z.2 ec;omega)) (fun h=>nx ⟨hn,fun _=>by omega⟩)⟩
  ·rintro σ H2 ⟨v2,v3,rfl,s2,done⟩
   refine q true _ s2 ⟨fun _=>XR.mpr ⟨by rw [zF];exact le,fun i x c h1 h2=>done i x c ?_ h1 h2⟩,fun _=>rfl⟩
   rw [el]
   exact(List.getElem?_eq_some_iff.mp h1).1
noncomputable def zcQ:Sp:=fun vs H Q _=>∃(a:Addr) (ws:List Str),vs=[.ref a]∧H a=some (.lst (ws.map V.str))∧(∀x∈ws,x.length≤1000000)∧ws.length≤60∧∀(b:Bool) (H':Hp),Same H H'→(b=true↔j5 ws)→Q (.bl b) H'
theorem zfJ:∀{ws:List Str},VP ws (List.replicate ws.length 102)↔∀x∈ws,Num 60 x
 | []=>⟨(fun _ _ z=>nomatch z),fun _=>trivial⟩
 | x::r=>by
  show Zw 102 x∧VP r (List.replicate r.length 102)↔_
  rw [zfJ]
  have e:Zw 102 x↔Num 60 x:=⟨fun h=>h.1,fun h=>⟨h,fun z=>by cases z⟩⟩
  rw [e]
  exact⟨fun h y hy=>(List.mem_cons.mp hy).elim (fun z=>z ▸ h.1) (h.2 y),fun h=>⟨h x (List.mem_cons_self ..),fun y hy=>h y (List.mem_cons_of_mem _ hy)⟩⟩
theorem Jk:FnScope ["words","turns"] ["words"] (defScope xG):=⟨rfl,rfl,rfl,by decide +kernel,rfl,by decide +kernel,by decide +kernel⟩
theorem zem (ND:NoDig K) (D:Def K mg "_law_heard" xG ["words"]) (T:Txt K mg) (jR:Fn P w K mg base 2 "_law_fit" ["words","form"] zel):Fn P w K mg base 3 "_law_heard" ["words"] zcQ:=by
 refine D.fn Jk (fun vs H Q E h=>?_) (fun f cdv A outer s H vs Q E hr h=>?_)
 ·obtain⟨a,ws,rfl,_⟩:=h
  rfl
 ·obtain⟨a,ws,rfl,hA,wl,w60,q⟩:=h
  have hu:=zfO hr
  refine Je (zp (jc (WT.mk (pt_not (pt_val (qm jR (hr.mono (by decide)) (by rfl) (pa_cons (pv 0) (pa_cons (pe_op yg pe_str (pe_callB call_len_seq (by rfl) T.z_len j7 (pa_cons (pv 0) pa_nil zf))) pa_nil zW) zf)))))
    (zx (qd (WE.mk pe_bl)))
    zT)
   (zp (WS.mk (zcv (k:=1) (own:=["word"]) (fr:=[]) (ix:=[]) rfl Jk.nd rfl rfl ⟨rfl,rfl,rfl,rfl,rfl,rfl⟩ (pi_list (pv 0)) (fun _ _ _ _ _=>(pg_name (i:=0) (show (["word"]:List Str).Nodup by decide +kernel) rfl (Or.inl rfl))) (fun _ _ _ _ _=>kW) (fun _ _ _ _ _=>(pe_callTy (qX ND) (by rfl) T.z_int Qu (pa_cons (pv 0) pa_nil zf)))))
   (zx (qd (zd0 (zfM hu) (WE.mk (pv 1)) (yj zad (by rfl) T.z_sorted zaT (zc (WE.mk (pv 1)) zm zf)) (nomark _)))))) ?_
  have el:(ws.map V.str).length=ws.length:=List.length_map ..
  have no:∀{H':Hp},Same H H'→¬j5 ws→Q (.bl false) H':=fun s n=>q false _ s ⟨(fun z=>nomatch z),fun z=>absurd z n⟩
  dsimp only [gName]
  refine jh (fun σ' H'=>σ'=[some (.ref a),none]∧Same H H'∧∀x∈ws,Num 60 x) ?_ (fun N hN=>?_)
  rotate_left
  ·refine⟨_,rfl,_,rfl,_,_,rfl,.inl (SqL.of hA),_,_,rfl,rfl,yt cf (by omega) (by rw [el];omega),?_⟩
   have ec:cpl (Txt.mul "f" ((ws.map V.str).length:Int))=List.replicate ws.length 102:=by rw [K8 cf (by omega),el];rfl
   generalize Txt.mul "f" ((ws.map V.str).length:Int)=form at ec ⊢
   refine⟨a,ws,form,rfl,hA,wl,?_,?_,fun b H1 s1 hb=>?_⟩
   ·rw [← zF,ec,List.length_replicate]
    omega
   ·rw [Array.all_eq_true']
    intro c hc
    have:c∈cpl form:=Array.mem_toList_iff.mpr hc
    rw [ec] at this
    rw [List.eq_of_mem_replicate this]
    rfl
   ·rw [ec,zfJ] at hb
    cases b
    ·exact⟨_,rfl,iteT (no s1 fun z=>by cases hb.mpr z.num)⟩
    ·exact⟨_,rfl,iteF (hN _ _ ⟨rfl,s1,hb.mp rfl⟩)⟩
  rintro σ' H1 ⟨rfl,s1,hn⟩
  have hA1:=s1 _ _ hA
  refine⟨_,rfl,a,rfl,⟨_,SqL.of hA1⟩,fun acc hacc=>Jw (K:=K) (a:=a) (xs:=ws.map V.str) (fun i=>V.int (zA (ws.getD i ""))) (SqL.of hA1) hacc (by rw [el,sizeLine_eq];omega) (fun i x H6 R hx s6 hR=>?_) ?_⟩
  ·rw [List.getElem?_map] at hx
   obtain⟨y,hy,rfl⟩:=Option.map_eq_some_iff.mp hx
   have ym:=List.mem_of_getElem? hy
   simp only [List.getD_eq_getElem?_getD,hy,Option.getD_some] at hR
   exact⟨rfl,_,rfl,y,zA y,rfl,num_reads (hn y ym) (by decide),by rw [sizeLine_eq];have:=wl y ym;omega,hR⟩
  ·have e:(List.range (ws.map V.str).length).map (fun i=>V.int (zA (ws.getD i "")))=(ws.map zA).map V.int:=by
    apply List.ext_getElem
    ·simp
    ·intro i h1 h2
     simp at h1 h2
     simp [List.getD_eq_getElem?_getD,h2]
   rw [e]
   have s2:Same H (upd H1 acc (.lst ((ws.map zA).map V.int))):=s1.trans (Same.new hacc)
   have e2:(upd H1 acc (.lst ((ws.map zA).map V.int))) acc=some (.lst ((ws.map zA).map V.int)):=upd_same
   generalize upd H1 acc (.lst ((ws.map zA).map V.int))=H2 at s2 e2 ⊢
   refine⟨_,rfl,_,rfl,acc,ws.map zA,rfl,SqL.of e2,by rw [List.length_map];omega,fun l ms hl pm pw=>?_⟩
   refine⟨acc,l,ws.map zA,ms,rfl,rfl,SqL.of ((Same.new hl) _ _ e2),SqL.of upd_same,q _ _ (s2.trans (Same.new hl)) ?_⟩
   rw [decide_eq_true_eq]
   exact⟨fun h=>⟨hn,by rw [h];exact pw⟩,fun g=>zbC pm.symm g.inc pw⟩
end
theorem f98 (x:Str):Zw 98 x↔ji x:=⟨fun h=>⟨h.1,h.2 rfl⟩,fun h=>⟨h.1,fun _=>h.2⟩⟩
theorem zfl (x:Str):Zw 102 x↔Num 60 x:=⟨fun h=>h.1,fun h=>⟨h,fun z=>by cases z⟩⟩
theorem zfm (x:Str):Zw 109 x↔Num 3000 x:=⟨fun h=>h.1,fun h=>⟨h,fun z=>by cases z⟩⟩
theorem zlv {p:Nat}{ws:List Str}:VP ws [p]↔∃a,ws=[a]∧Zw p a:=by
 match ws with
 | []=>exact⟨fun h=>h.elim,fun⟨a,h,_⟩=>nomatch h⟩
 | [a]=>exact⟨fun h=>⟨a,rfl,h.1⟩,fun⟨b,h,g⟩=>by cases h;exact⟨g,trivial⟩⟩
 | a::b::r=>exact⟨fun h=>h.2.elim,fun⟨a,h,_⟩=>nomatch h⟩
theorem zge {p q r:Nat}{ws:List Str}:VP ws [p,q,r]↔∃a b c,ws=[a,b,c]∧Zw p a∧Zw q b∧Zw r c:=by
 match ws with
 | []=>exact⟨fun h=>h.elim,fun⟨a,b,c,h,_⟩=>nomatch h⟩
 | [a]=>exact⟨fun h=>h.2.elim,fun⟨a,b,c,h,_⟩=>nomatch h⟩
 | [a,b]=>exact⟨fun h=>h.2.2.elim,fun⟨a,b,c,h,_⟩=>nomatch h⟩
 | [a,b,c]=>exact⟨fun h=>⟨a,b,c,rfl,h.1,h.2.1,h.2.2.1⟩,fun⟨_,_,_,h,g1,g2,g3⟩=>by cases h;exact⟨g1,g2,g3,trivial⟩⟩
 | a::b::c::d::s=>exact⟨fun h=>h.2.2.2.elim,fun⟨a,b,c,h,_⟩=>nomatch h⟩
theorem zlw {p q r s t:Nat}{ws:List Str}:VP ws [p,q,r,s,t]↔∃a b c d e,ws=[a,b,c,d,e]∧Zw p a∧Zw q b∧Zw r c∧Zw s d∧Zw t e:=by
 match ws with
 | []=>exact⟨fun h=>h.elim,fun⟨a,b,c,d,e,h,_⟩=>nomatch h⟩
 | [a]=>exact⟨fun h=>h.2.elim,fun⟨a,b,c,d,e,h,_⟩=>nomatch h⟩
 | [a,b]=>exact⟨fun h=>h.2.2.elim,fun⟨a,b,c,d,e,h,_⟩=>nomatch h⟩
 | [a,b,c]=>exact⟨fun h=>h.2.2.2.elim,fun⟨a,b,c,d,e,h,_⟩=>nomatch h⟩
 | [a,b,c,d]=>exact⟨fun h=>h.2.2.2.2.elim,fun⟨a,b,c,d,e,h,_⟩=>nomatch h⟩
 | [a,b,c,d,e]=>exact⟨fun h=>⟨a,b,c,d,e,rfl,h.1,h.2.1,h.2.2.1,h.2.2.2.1,h.2.2.2.2.1⟩,fun⟨_,_,_,_,_,h,g1,g2,g3,g4,g5⟩=>by cases h;exact⟨g1,g2,g3,g4,g5,trivial⟩⟩
 | a::b::c::d::e::f::u=>exact⟨fun h=>h.2.2.2.2.2.elim,fun⟨a,b,c,d,e,h,_⟩=>nomatch h⟩
noncomputable def Jf (w0:Str):Prop:=w0="short"∨w0="best"∨w0="cheap"
noncomputable def Rest (w0:Str) (r:List Str):Prop:=
 (w0="frame"→∃a b c,r=[a,b,c]∧Num 60 a∧ji b∧Num 60 c)∧(w0="write"∨w0="key"→∃m,r=[m]∧Num 3000 m)∧(w0="read"∨w0="unkey"∨w0="hear"→j5 r) ∧
 (w0="frame"∨(w0="write"∨w0="key")∨(w0="read"∨w0="unkey"∨w0="hear")∨(w0="note"∧r≠[]))
noncomputable def XX (w0:Str) (ws:List Str):Prop:=(Jf w0∧Vn w0 ws)∨(¬Jf w0∧∃w1 r,ws=w1::r∧zK w1∧Rest w0 r)
theorem hd1:("frame":Str)≠"write"∧("frame":Str)≠"key"∧("frame":Str)≠"read"∧("frame":Str)≠"unkey"∧("frame":Str)≠"hear"∧("frame":Str)≠"note":=by decide +kernel
theorem hd2:("write":Str)≠"read"∧("write":Str)≠"unkey"∧("write":Str)≠"hear"∧("write":Str)≠"note"∧("key":Str)≠"read"∧("key":Str)≠"unkey"∧("key":Str)≠"hear"∧("key":Str)≠"note":=by decide +kernel
theorem hd3:("short":Str)≠"best"∧("short":Str)≠"cheap"∧("best":Str)≠"cheap":=by decide +kernel
theorem chf:¬Jf "frame"∧¬Jf "write"∧¬Jf "key"∧¬Jf "read"∧¬Jf "unkey"∧¬Jf "hear"∧¬Jf "note":=by unfold Jf;decide +kernel
theorem zen {ws:List Str}:Vn "short" ws↔∃a b c,ws=[a,b,c]∧ji a∧Num 60 b∧Num 3000 c:=
 ⟨fun h=>by rcases h with h | h | h;exact h.2;exact absurd h.1 hd3.1;exact absurd h.1 hd3.2.1,fun h=>.inl ⟨rfl,h⟩⟩
theorem zfn {ws:List Str}:Vn "best" ws↔∃a b c,ws=[a,b,c]∧Num 60 a∧Num 60 b∧ji c:=
 ⟨fun h=>by rcases h with h | h | h;exact absurd h.1.symm hd3.1;exact h.2;exact absurd h.1 hd3.2.2,fun h=>.inr (.inl ⟨rfl,h⟩)⟩
theorem zeo {ws:List Str}:Vn "cheap" ws↔∃a b c d e,ws=[a,b,c,d,e]∧Jb a b c d e:=
 ⟨fun h=>by rcases h with h | h | h;exact absurd h.1.symm hd3.2.1;exact absurd h.1.symm hd3.2.2;exact h.2,fun h=>.inr (.inr ⟨rfl,h⟩)⟩
theorem zj8:cpl "bfm"=[98,102,109]:=by decide +kernel
theorem zj9:cpl "ffb"=[102,102,98]:=by decide +kernel
theorem zfo:cpl "mfffb"=[109,102,102,102,98]:=by decide +kernel
theorem zka:cpl "fbf"=[102,98,102]:=by decide +kernel
theorem c_m:cpl "m"=[109]:=by decide +kernel
theorem zgf {w0 form:Str}{ws:List Str} (h:(w0="short"∧form="bfm")∨(w0="best"∧form="ffb")∨(w0="cheap"∧form="mfffb")):VP ws (cpl form)↔Vn w0 ws:=by
 rcases h with ⟨rfl,rfl⟩ | ⟨rfl,rfl⟩ | ⟨rfl,rfl⟩
 ·rw [zj8,zge,zen]
  simp only [f98,zfl,zfm]
 ·rw [zj9,zge,zfn]
  simp only [f98,zfl,zfm]
 ·rw [zfo,zlw,zeo]
  simp only [f98,zfl,zfm,Jb]
noncomputable def chD:List (Key×V):=[(Sum.inr "short",V.str "bfm"),(Sum.inr "best",V.str "ffb"),(Sum.inr "cheap",V.str "mfffb")]
theorem zgg {w0:Str} (h:Jf w0):∃form:Str,valV (mergeK [] chD) (Sum.inr w0)=some (V.str form)∧((w0="short"∧form="bfm")∨(w0="best"∧form="ffb")∨(w0="cheap"∧form="mfffb")):=by
 rcases h with rfl | rfl | rfl
 ·exact⟨"bfm",by decide +kernel,.inl ⟨rfl,rfl⟩⟩
 ·exact⟨"ffb",by decide +kernel,.inr (.inl ⟨rfl,rfl⟩)⟩
 ·exact⟨"mfffb",by decide +kernel,.inr (.inr ⟨rfl,rfl⟩)⟩
theorem zfp {w0 form:Str} (h:(w0="short"∧form="bfm")∨(w0="best"∧form="ffb")∨(w0="cheap"∧form="mfffb")):form.length≤1000∧(form.cps.all fun c=>decide (c<128))=true:=by
 rcases h with ⟨_,rfl⟩ | ⟨_,rfl⟩ | ⟨_,rfl⟩ <;> decide +kernel
theorem zfq (x:V) (r:List V):cutV (x::r) (some 1) none=r:=by
 rw [show (1:Int)=((1:Nat):Int) from rfl,zbB _ 1 (by simp)]
 rfl
section
noncomputable def zcR:Sp:=fun vs H Q _=>∃(a:Addr) (w0:Str) (ws:List Str),vs=[.ref a]∧H a=some (.lst ((w0::ws).map V.str))∧(∀x∈ws,x.length≤1000000)∧ws.length≤60∧∀(b:Bool) (H':Hp),Same H H'→(b=true↔XX w0 ws)→Q (.bl b) H'
theorem ZW:FnScope ["words","head"] ["words"] (defScope jg):=⟨rfl,rfl,rfl,by decide +kernel,rfl,by decide +kernel,by decide +kernel⟩
theorem zep (D:Def K mg "_law_is_order" jg ["words"]) (T:Txt K mg) (yN:Fn P w K mg base 1 "_law_is_name" ["word"] zbD) (jR:Fn P w K mg base 2 "_law_fit" ["words","form"] zel) (Qg:Fn P w K mg base 3 "_law_heard" ["words"] zcQ):Fn P w K mg base 4 "_law_is_order" ["words"] zcR:=by
 refine D.fn ZW (fun vs H Q E h=>?_) (fun f cdv A outer s H vs Q E hr h=>?_)
 ·obtain⟨a,w0,ws,rfl,_⟩:=h
  rfl
 ·obtain⟨a,w0,ws,rfl,hA,wl,w60,q⟩:=h
  refine Je (zp (qF (i:=1) ZW.nd rfl (Or.inl rfl) (Zm ix_list (WE.mk (pv 0)) (WE.mk pe_int) (fun _ _=>rfl)))
   (zp (jc (jk op_in_seq (WE.mk (pv 1)) (xf (zc zq (zc zq (zc zq zm zg) zg) zg)) (by with_unfolding_all rfl))
    (zx (qd (vV jR (hr.mono (by decide)) (by rfl) (zc (WE.mk (pe_slice sl_list (pv 0) (po_some pe_int) po_none)) (zc (zfX (hu_of hr) (zd2 (Xz zq zq (Xz zq zq (Xz zq zq zd1))) rfl rfl (fun z=>nomatch z) (by decide)) (WE.mk (pv 1)) (fun _ _=>rfl)) zm zy) zy))))
    zT)
   (zp (jc (WT.mk (pw_or (pt_cmpR Ko (pe_callB call_len_seq (by rfl) T.z_len j7 (pa_cons (pv 0) pa_nil zf)) pe_int (nomark _)) (pw_or1 (pt_not (pt_val (qm yN (hr.mono (by decide)) (by rfl) (pa_cons (pe_ix ix_list (pv 0) pe_int (fun _ _=>rfl)) pa_nil zy)))))).pt)
    (zx (qd (WE.mk pe_bl)))
    zT)
   (zp (jc (jk op_eq (WE.mk (pv 1)) zq (nomark _))
    (zx (qd (vV jR (hr.mono (by decide)) (by rfl) (zc (WE.mk (pe_slice sl_list (pv 0) (po_some pe_int) po_none)) (zc zq zm zg) zy))))
    zT)
   (zp (jc (WT.mk (pw_or (pt_cmpR op_eq (pv 1) pe_str (nomark _)) (pw_or1 (pt_cmpR op_eq (pv 1) pe_str (nomark _)))).pt)
    (zx (qd (vV jR (hr.mono (by decide)) (by rfl) (zc (WE.mk (pe_slice sl_list (pv 0) (po_some pe_int) po_none)) (zc zq zm zg) zy))))
    zT)
   (zp (jc (jk op_in_seq (WE.mk (pv 1)) (xf (zc zq (zc zq (zc zq zm zg) zg) zg)) (by with_unfolding_all rfl))
    (zx (qd (vV Qg (hr.mono (by decide)) (by rfl) (zc (WE.mk (pe_slice sl_list (pv 0) (po_some pe_int) po_none)) zm zy))))
    zT)
   (zx (qd (WE.mk (pe_and (pe_cmpR op_eq (pv 1) pe_str (nomark _)) (pe_one (pe_cmpR Qx (pe_callB call_len_seq (by rfl) T.z_len j7 (pa_cons (pv 0) pa_nil zf)) pe_int (nomark _))))))))))))) ?_
  have h0:atI ((w0::ws).map V.str) ((0:Nat):Int)=some (V.str w0):=atI_nat rfl
  have el:(((w0::ws).map V.str).length:Int)=(ws.length:Int)+1:=by rw [List.length_map,List.length_cons];omega
  have no:∀{H':Hp},Same H H'→¬XX w0 ws→Q (.bl false) H':=fun s n=>q false _ s ⟨(fun z=>nomatch z),fun z=>absurd z n⟩
  refine⟨_,rfl,a,_,0,_,rfl,rfl,SqL.of hA,h0,?_⟩
  dsimp only [gName]
  refine jh (fun σ' H'=>σ'=[some (.ref a),some (.str w0)]∧Same H H'∧¬Jf w0) ?_ (fun N hN=>?_)
  rotate_left
  ·refine⟨_,rfl,(by show 3≤sizeLine;decide),fun tp htp=>⟨tp,_,rfl,.inl (SqL.of upd_same),rfl,rfl,inV (.str w0) [V.str "short",V.str "best",V.str "cheap"],rfl,?_⟩⟩
   have s1:Same H (upd H tp (.lst [V.str "short",V.str "best",V.str "cheap"])):=Same.new htp
   generalize upd H tp (.lst [V.str "short",V.str "best",V.str "cheap"])=H1 at s1 ⊢
   rw [in3]
   refine ifD (fun z=>?_) (fun z=>hN _ _ ⟨rfl,s1,z⟩)
   obtain⟨form,ef,hf⟩:=zgg z
   obtain⟨f1,f2⟩:=zfp hf
   refine⟨_,rfl,_,rfl,_,_,rfl,SqL.of (s1 _ _ hA),fun pc hpc=>?_⟩
   rw [show cutV ((w0::ws).map V.str) (some 1) none=ws.map V.str from zfq ..]
   have s2:Same H1 (upd H1 pc (.lst (ws.map V.str))):=Same.new hpc
   have e2:(upd H1 pc (.lst (ws.map V.str))) pc=some (.lst (ws.map V.str)):=upd_same
   generalize upd H1 pc (.lst (ws.map V.str))=H2 at s2 e2 ⊢
   refine fun dp hdp=>⟨upd_same,chD,rfl,by decide,_,rfl,dp,_,rfl,by have:=DGet.k (H:=upd (upd H2 dp (.dK [])) dp (.dK (mergeK [] chD))) (a:=dp) (k:=Sum.inr w0) upd_same;rw [ef] at this;exact this,pc,ws,form,rfl,?_,wl,f1,f2,fun b H3 s3 hb=>?_⟩
   ·rw [upd_ne (ne_of_none e2 hdp),upd_ne (ne_of_none e2 hdp)]
    exact e2
   ·refine q b H3 (((s1.trans s2).trans ?_).trans s3) (hb.trans ((zgf hf).trans ⟨fun g=>.inl ⟨z,g⟩,fun g=>?_⟩))
    ·intro c o hc
     rw [upd_ne (ne_of_none hc hdp),upd_ne (ne_of_none hc hdp)]
     exact hc
    ·rcases g with g | g
     ·exact g.2
     ·exact absurd z g.1
  rintro σ' H1 ⟨rfl,s1,nch⟩
  have ord:XX w0 ws↔∃w1 r,ws=w1::r∧zK w1∧Rest w0 r:=⟨fun g=>by
   rcases g with g | g
   ·exact absurd g.1 nch
   ·exact g.2,fun g=>.inr ⟨nch,g⟩⟩
  have hA1:=s1 _ _ hA
  refine jh (fun σ' H'=>∃w1 r,ws=w1::r∧σ'=[some (.ref a),some (.str w0)]∧Same H H'∧zK w1) ?_ (fun N hN=>?_)
  rotate_left
  ·refine⟨_,rfl,_,_,rfl,.inl (SqL.of hA1),_,_,rfl,rfl,_,rfl,?_⟩
   rw [el]
   refine ifD (fun h=>iteT (no s1 fun z=>?_)) (fun h=>?_)
   ·obtain⟨w1,r,rfl,_⟩:=ord.mp z
    simp only [List.length_cons] at h
    omega
   obtain⟨w1,r,rfl⟩:∃w1 r,ws=w1::r:=by
    cases ws with
    | nil=>exact absurd (show ((([]:List Str).length:Int))+1<2 by decide) h
    | cons w1 r=>exact⟨w1,r,rfl⟩
   refine⟨_,rfl,a,_,1,_,rfl,rfl,SqL.of hA1,(show atI ((w0::w1::r).map V.str) ((1:Nat):Int)=some (V.str w1) from atI_nat rfl),w1,rfl,wl w1 (List.mem_cons_self ..),fun b H2 s2 hb=>?_⟩
   cases b
   ·exact⟨_,rfl,iteT (no (s1.trans s2) fun z=>by
     obtain⟨w1',r',e,g,_⟩:=ord.mp z
     cases e
     cases hb.mpr g)⟩
   ·exact⟨_,rfl,iteF (hN _ _ ⟨w1,r,rfl,rfl,s1.trans s2,hb.mp rfl⟩)⟩
  rintro σ' H2 ⟨w1,r,rfl,rfl,s2,gn⟩
  have hA2:=s2 _ _ hA
  have zeq:XX w0 (w1::r)↔Rest w0 r:=ord.trans ⟨fun⟨_,_,e,_,g⟩=>by cases e;exact g,fun g=>⟨w1,r,rfl,gn,g⟩⟩
  clear ord
  have rl:∀x∈r,x.length≤1000000:=fun x hx=>wl x (List.mem_cons_of_mem _ hx)
  have ec:cutV ((w0::w1::r).map V.str) (some 2) none=r.map V.str:=zcM ..
  refine jh (fun σ' H'=>σ'=[some (.ref a),some (.str w0)]∧H'=H2∧w0≠"frame") ?_ (fun N hN=>?_)
  rotate_left
  ·refine⟨_,rfl,rfl,_,rfl,ifD (fun z=>?_) (fun z=>hN _ _ ⟨rfl,rfl,fun y=>z (by rw [y])⟩)⟩
   have z:=V.str.inj z
   subst z
   refine⟨_,rfl,_,rfl,_,_,rfl,SqL.of hA2,fun pc hpc=>?_⟩
   rw [ec]
   refine⟨pc,r,"fbf",rfl,upd_same,rl,by decide +kernel,by decide +kernel,fun b H3 s3 hb=>q b H3 ((s2.trans (Same.new hpc)).trans s3) (hb.trans (Iff.trans ?_ zeq.symm))⟩
   rw [zka,zge]
   simp only [f98,zfl]
   exact⟨fun g=>⟨fun _=>g,fun z=>absurd z (by rintro (z | z);exact hd1.1 z;exact hd1.2.1 z),fun z=>absurd z (by rintro (z | z | z);exact hd1.2.2.1 z;exact hd1.2.2.2.1 z;exact hd1.2.2.2.2.1 z),.inl rfl⟩,fun g=>g.1 rfl⟩
  rintro σ' H3 ⟨rfl,rfl,nf⟩
  refine jh (fun σ' H'=>σ'=[some (.ref a),some (.str w0)]∧H'=H3∧¬(w0="write"∨w0="key")) ?_ (fun N hN=>?_)
  rotate_left
  ·refine(fun(G:(w0="write"∨w0="key")→_)=>⟨_,rfl,rfl,_,rfl,ifD (fun z=>iteT (G (.inl (V.str.inj z)))) (fun z=>⟨_,rfl,rfl,_,rfl,ifD (fun z2=>G (.inr (V.str.inj z2))) (fun z2=>hN _ _ ⟨rfl,rfl,fun y=>y.elim (fun y=>z (by rw [y])) (fun y=>z2 (by rw [y]))⟩)⟩)⟩) (fun z=>?_)
   refine⟨_,rfl,_,rfl,_,_,rfl,SqL.of hA2,fun pc hpc=>?_⟩
   rw [ec]
   refine⟨pc,r,"m",rfl,upd_same,rl,by decide +kernel,by decide +kernel,fun b H4 s4 hb=>q b H4 ((s2.trans (Same.new hpc)).trans s4) (hb.trans (Iff.trans ?_ zeq.symm))⟩
   rw [c_m,zlv]
   simp only [zfm]
   refine⟨fun g=>⟨fun y=>absurd y nf,fun _=>g,fun y=>absurd y ?_,.inr (.inl z)⟩,fun g=>g.2.1 z⟩
   rintro (y | y | y) <;> rw [y] at z
   ·exact z.elim (fun k=>hd2.1 k.symm) (fun k=>hd2.2.2.2.2.1 k.symm)
   ·exact z.elim (fun k=>hd2.2.1 k.symm) (fun k=>hd2.2.2.2.2.2.1 k.symm)
   ·exact z.elim (fun k=>hd2.2.2.1 k.symm) (fun k=>hd2.2.2.2.2.2.2.1 k.symm)
  rintro σ' H4 ⟨rfl,rfl,nw⟩
  refine jh (fun σ' H'=>σ'=[some (.ref a),some (.str w0)]∧Same H H'∧¬(w0="read"∨w0="unkey"∨w0="hear")) ?_ (fun N hN=>?_)
  rotate_left
  ·refine⟨_,rfl,(by show 3≤sizeLine;decide),fun tp htp=>⟨tp,_,rfl,.inl (SqL.of upd_same),rfl,rfl,inV (.str w0) [V.str "read",V.str "unkey",V.str "hear"],rfl,?_⟩⟩
   have s5:Same H4 (upd H4 tp (.lst [V.str "read",V.str "unkey",V.str "hear"])):=Same.new htp
   generalize upd H4 tp (.lst [V.str "read",V.str "unkey",V.str "hear"])=H5 at s5 ⊢
   rw [in3]
   refine ifD (fun z=>?_) (fun z=>hN _ _ ⟨rfl,s2.trans s5,z⟩)
   refine⟨_,rfl,_,rfl,_,_,rfl,SqL.of (s5 _ _ hA2),fun pc hpc=>?_⟩
   rw [ec]
   refine⟨pc,r,rfl,upd_same,rl,by rw [List.length_cons] at w60;omega,fun b H6 s6 hb=>q b H6 (((s2.trans s5).trans (Same.new hpc)).trans s6) (hb.trans (Iff.trans ?_ zeq.symm))⟩
   exact⟨fun g=>⟨fun y=>absurd y nf,fun y=>absurd y nw,fun _=>g,.inr (.inr (.inl z))⟩,fun g=>g.2.2.1 z⟩
  rintro σ' H5 ⟨rfl,s5,nr⟩
  have hA5:=s5 _ _ hA
  have zkb:Rest w0 r↔w0="note"∧r≠[]:=⟨fun g=>by
   rcases g.2.2.2 with z | z | z | z
   ·exact absurd z nf
   ·exact absurd z nw
   ·exact absurd z nr
   ·exact z,fun g=>⟨fun y=>absurd y nf,fun y=>absurd y nw,fun y=>absurd y nr,.inr (.inr (.inr g))⟩⟩
  refine⟨_,rfl,rfl,_,rfl,ifD (fun z=>⟨_,rfl,_,_,rfl,.inl (SqL.of hA5),_,_,rfl,rfl,?_⟩) (fun z=>no s5 fun y=>z (by rw [(zkb.mp (zeq.mp y)).1]))⟩
  refine q _ _ s5 ?_
  rw [decide_eq_true_eq,zeq,zkb,el]
  constructor
  ·intro h
   exact⟨V.str.inj z,fun y=>by rw [y] at h;simp only [List.length_cons,List.length_nil] at h;omega⟩
  ·rintro⟨_,h⟩
   cases r with
   | nil=>exact absurd rfl h
   | cons x r=>simp only [List.length_cons];omega
end
structure FrD (fr:Str→Option (Int×Int×Int)) (e:Addr) (H:Hp):Prop where
 d:∃kvs,H e=some (.dK kvs)∧kvs.length≤40∧(∀p∈kvs,∃s,p.1=Sum.inr s∧zK s)∧(∀nm,fr nm=none→valV kvs (Sum.inr nm)=none)∧∀nm t b l,fr nm=some (t,b,l)→∃p,valV kvs (Sum.inr nm)=some (.ref p)∧H p=some (.tup [.int t,.int b,.int l])
theorem FrD.mono {fr:Str→Option (Int×Int×Int)}{e:Addr} {H H':Hp} (s:Same H H') (h:FrD fr e H):FrD fr e H':=by
 obtain⟨kvs,h1,h2,h3,h4,h5⟩:=h.d
 exact⟨kvs,s _ _ h1,h2,h3,h4,fun nm t b l z=>(h5 nm t b l z).imp fun p hp=>⟨hp.1,s _ _ hp.2⟩⟩
noncomputable def zcm (a b c:Int):Str:="messages "++txt (cnt a b c)
noncomputable def zer (w0:Str) (ws:List Str) (fr:Str→Option (Int×Int×Int)) (r:Option (Str×Str)):Prop:=
 (¬XX w0 ws∧r=some (("refused":Str),("NoOrder":Str)))∨(XX w0 ws∧((w0="frame"∧∃w1 a b c,ws=[w1,a,b,c]∧jQ w1 a b c∧r=some (("told":Str),zcm (zA a) (zA b) (zA c))) ∨
  (w0≠"frame"∧¬Jf w0∧(∃w1 r',ws=w1::r'∧zK w1∧Rest w0 r'∧fr w1=none)∧r=some (("refused":Str),("NoName":Str)))∨r=none))
theorem zdy {ws:List Str} (h:XX "frame" ws):∃w1 a b c,ws=[w1,a,b,c]∧jQ w1 a b c:=by
 rcases h with h | ⟨_,w1,r,rfl,g,h⟩
 ·exact absurd h.1 chf.1
 ·obtain⟨a,b,c,rfl,h1,h2,h3⟩:=h.1 rfl
  exact⟨w1,a,b,c,rfl,g,h1,h2,h3⟩
theorem zcS {w1 a b c:Str} (g:jQ w1 a b c):ze7 (zA a) (zA b) (zA c):=
 ⟨yh _,Xx g.b,yh _,g.c.2,yh _,Xx g.d,zfZ (yh _) (Xx g.b) (yh _) g.c.2 (yh _)⟩
section
noncomputable def zkc (K:W.Frag):Sp:=fun vs H Q _=>∃(v:V) (e:Addr) (fr:Str→Option (Int×Int×Int)),vs=[v,.ref e]∧FrD fr e H ∧
  ((Zv K H v∧∀p H',Same H H'→H' p=some (.tup [.str "refused",.str "NoOrder"])→Q (.ref p) H') ∨
   ∃(o w0:Str) (ws:List Str),v=.str o∧Words o w0 ws∧Sm 500000 50 o∧(∀i j p H',zer w0 ws fr (some (i,j))→Same H H'→H' p=some (.tup [.str i,.str j])→Q (.ref p) H')∧(zer w0 ws fr none→∀H',Same H H'→Q .non H'))
theorem VG:FnScope ["order","frames","words"] ["order","frames"] (defScope wN):=⟨rfl,rfl,rfl,by decide +kernel,rfl,by decide +kernel,by decide +kernel⟩
theorem zfr (ND:NoDig K) (D:Def K mg "_law_due" wN ["order","frames"]) (T:Txt K mg) (wW:Fn P w K mg base 4 "_law_is_order" ["words"] zcR) (qU:Fn P w K mg base 2 "box_count" ["turns","bells","late"] XD):Fn P w K mg base 5 "_law_due" ["order","frames"] (zkc K):=by
 refine D.fn VG (fun vs H Q E h=>?_) (fun f cdv A outer s H vs Q E hr h=>?_)
 ·obtain⟨v,e,fr,rfl,_⟩:=h
  rfl
 ·obtain⟨v,e,fr,rfl,fd,h⟩:=h
  refine Je (zp (jc (WT.mk (pw_or (pt_not (pt_val (pe_callB Qy (by rfl) T.z_isinstance qi (pa_cons (pv 0) (pa_cons (pe_bltn (v:=.ty "str") (by rfl) T.z_str Xn rfl) pa_nil zf) zf)))) (pw_or1 (pt_not (pt_val (qm wW (hr.mono (by decide)) (by rfl) (pa_cons (pe_bm PySem.F.plainAttrs_str PySem.F.slot_str_split PySem.F.type_str_split ZM (pv 0) (pa_cons pe_str pa_nil zg)) pa_nil zu)))))).pt)
    (zx (qd (Ji (zc zq (zc zq zm zg) zg))))
    zT)
   (zp (qF (i:=2) VG.nd rfl (Or.inl rfl) (QD PySem.F.plainAttrs_str PySem.F.slot_str_split PySem.F.type_str_split ZM (WE.mk (pv 0)) (zc zq zm zg)))
   (zp (jc (jk op_eq (Zm ix_list (WE.mk (pv 2)) (WE.mk pe_int) (fun _ _=>rfl)) zq (nomark _))
    (zx (qd (Ji (zc zq (zc (zX op_add_str zq (yC (yx ND) (by rfl) T.z_str Xn (zc (vV qU (hr.mono (by decide)) (by rfl) (zc (yC (qX ND) (by rfl) T.z_int Qu (zc (Zm ix_list (WE.mk (pv 2)) (WE.mk pe_int) (fun _ _=>rfl)) zm zy)) (zc (yC (qX ND) (by rfl) T.z_int Qu (zc (Zm ix_list (WE.mk (pv 2)) (WE.mk pe_int) (fun _ _=>rfl)) zm zy)) (zc (yC (qX ND) (by rfl) T.z_int Qu (zc (Zm ix_list (WE.mk (pv 2)) (WE.mk pe_int) (fun _ _=>rfl)) zm zy)) zm zu) zu) zu)) zm zu))) zm zW) zg))))
    zT)
   (zp (jc (WT.mk (pw_and (pt_cmpR op_notIn_seq (pe_ix ix_list (pv 2) pe_int (fun _ _=>rfl)) (pe_lst (pa_cons pe_str (pa_cons pe_str (pa_cons pe_str pa_nil zg) zg) zg)) (by with_unfolding_all rfl)) (pw_and1 (pt_cmp (pc_dnotin (hu_of hr) (pe_ix ix_list (pv 2) pe_int (fun _ _=>rfl)) (pv 1))))).pt)
    (zx (qd (Ji (zc zq (zc zq zm zg) zg))))
    zT)
   (zx (qd (WE.mk pe_non))))))) ?_
  rcases h with ⟨⟨TT,ty,kt⟩,q⟩ | ⟨o,w0,ws,rfl,W,so,q1,q2⟩
  ·exact⟨_,rfl,_,_,_,false,rfl,ty,kt,_,rfl,iteT (iteT ⟨(by show 2≤sizeLine;decide),fun p hp=>q p _ (Same.new hp) upd_same⟩)⟩
  have ol2:o.length+2≤sizeLine:=by rw [sizeLine_eq];have:=so.1;omega
  obtain⟨wl,wsm⟩:=W.sm so
  have vg:∀x∈ws,x.length≤1000000:=fun x hx=>by have:=(wsm x (List.mem_cons_of_mem _ hx)).1;omega
  dsimp only [gName]
  refine jh (fun σ' H'=>σ'=[some (.str o),some (.ref e),none]∧Same H H'∧XX w0 ws) ?_ (fun N hN=>?_)
  rotate_left
  ·refine⟨_,rfl,_,_,_,true,rfl,TyOf.str _,QL K,_,rfl,iteF ⟨_,rfl,rfl,o," ",rfl,rfl,JN,ol2,fun pw hpw=>?_⟩⟩
   rw [show Txt.split o " "=w0::ws from W.eq]
   refine⟨pw,w0,ws,rfl,upd_same,vg,by omega,fun b H1 s1 hb=>?_⟩
   have s2:Same H H1:=(Same.new hpw).trans s1
   cases b
   ·exact⟨_,rfl,iteT ⟨(by show 2≤sizeLine;decide),fun p hp=>q1 _ _ p _ (.inl ⟨(fun z=>by cases hb.mpr z),rfl⟩) (s2.trans (Same.new hp)) upd_same⟩⟩
   ·exact⟨_,rfl,iteF (hN _ _ ⟨rfl,s2,hb.mp rfl⟩)⟩
  rintro σ' H1 ⟨rfl,s1,io⟩
  refine⟨_,rfl,rfl,o," ",rfl,rfl,JN,ol2,fun pw hpw=>?_⟩
  rw [show Txt.split o " "=w0::ws from W.eq]
  have s2:Same H (upd H1 pw (.lst ((w0::ws).map V.str))):=s1.trans (Same.new hpw)
  have hA:(upd H1 pw (.lst ((w0::ws).map V.str))) pw=some (.lst ((w0::ws).map V.str)):=upd_same
  generalize upd H1 pw (.lst ((w0::ws).map V.str))=H2 at s2 hA ⊢
  have h0:atI ((w0::ws).map V.str) ((0:Nat):Int)=some (V.str w0):=atI_nat rfl
  dsimp only [gName]
  refine jh (fun σ' H'=>σ'=[some (.str o),some (.ref e),some (.ref pw)]∧H'=H2∧w0≠"frame") ?_ (fun N hN=>?_)
  rotate_left
  ·refine⟨_,rfl,pw,_,0,_,rfl,rfl,SqL.of hA,h0,rfl,_,rfl,ifD (fun z=>?_) (fun z=>hN _ _ ⟨rfl,rfl,fun y=>z (by rw [y])⟩)⟩
   have z:=V.str.inj z
   subst z
   obtain⟨w1,a,b,c,rfl,gk⟩:=zdy io
   have ok:=zcS gk
   have la:=vg a (by simp)
   have lb:=vg b (by simp)
   have lc:=vg c (by simp)
   refine⟨_,rfl,pw,_,2,_,rfl,rfl,SqL.of hA,rfl,a,zA a,rfl,num_reads gk.b (by decide),by rw [sizeLine_eq];omega,_,rfl,pw,_,3,_,rfl,rfl,SqL.of hA,rfl,b,zA b,rfl,num_reads gk.c.1 (by decide),by rw [sizeLine_eq];omega,_,rfl,pw,_,4,_,rfl,rfl,SqL.of hA,rfl,c,zA c,rfl,num_reads gk.d (by decide),by rw [sizeLine_eq];omega,zA a,zA b,zA c,rfl,ok.b0,Int.le_trans ok.b1 (by decide),ok.l0,zO (Vl ok.l0 ok.l1) (by decide),zO (Vl ok.t0 ok.t1) (by decide),_,rfl,lgB (Z9 _ _ _) ok.c1,?_⟩
   have lm:("messages ":Str).length=9:=by decide +kernel
   have lt:=(Kc (k:=4000) (by decide) (Z9 (zA a) (zA b) (zA c)) ok.c1).le
   refine⟨_,_,rfl,rfl,by rw [lm,sizeLine_eq];exact Nat.le_trans (Nat.add_le_add_left lt 9) (by decide),(by show 2≤sizeLine;decide),fun p hp=>q1 "told" (zcm (zA a) (zA b) (zA c)) p _ (.inr ⟨io,.inl ⟨rfl,w1,a,b,c,rfl,gk,rfl⟩⟩) (s2.trans (Same.new hp)) upd_same⟩
  rintro σ' H3 ⟨rfl,rfl,nf⟩
  have fin:∀{H':Hp},Same H H'→Q .non H':=fun s'=>q2 (.inr ⟨io,.inr (.inr rfl)⟩) _ s'
  refine jh (fun σ' H'=>Same H H') (fun σ' H' s'=>fin s') (fun N hN=>?_)
  refine⟨_,rfl,pw,_,0,_,rfl,rfl,SqL.of hA,h0,(by show 3≤sizeLine;decide),fun tp htp=>⟨tp,_,rfl,.inl (SqL.of upd_same),rfl,rfl,(!inV (.str w0) [V.str "short",V.str "best",V.str "cheap"]),rfl,?_⟩⟩
  have s4:Same H (upd H3 tp (.lst [V.str "short",V.str "best",V.str "cheap"])):=s2.trans (Same.new htp)
  have hA4:(upd H3 tp (.lst [V.str "short",V.str "best",V.str "cheap"])) pw=some (.lst ((w0::ws).map V.str)):=(Same.new htp) _ _ hA
  generalize upd H3 tp (.lst [V.str "short",V.str "best",V.str "cheap"])=H4 at s4 hA4 ⊢
  rw [in3]
  refine zeM (fun nc=>?_) (fun _=>iteF (hN _ _ s4))
  obtain⟨w1,r,rfl,gn,re⟩:∃w1 r,ws=w1::r∧zK w1∧Rest w0 r:=by
   rcases io with io | io
   ·exact absurd io.1 nc
   ·exact io.2
  obtain⟨kvs,he,_,_,k1,k2⟩:=(fd.mono s4).d
  refine⟨_,rfl,pw,_,1,_,rfl,rfl,SqL.of hA4,(show atI ((w0::w1::r).map V.str) ((1:Nat):Int)=some (V.str w1) from atI_nat rfl),_,rfl,e,_,rfl,DGet.k (k:=Sum.inr w1) he,?_⟩
  cases ef:fr w1 with
  | none=>
   rw [k1 w1 ef]
   exact⟨_,rfl,iteT ⟨(by show 2≤sizeLine;decide),fun p hp=>q1 _ _ p _ (.inr ⟨io,.inr (.inl ⟨nf,nc,⟨w1,r,rfl,gn,re,ef⟩,rfl⟩)⟩) (s4.trans (Same.new hp)) upd_same⟩⟩
  | some z=>
   obtain⟨t,b,l⟩:=z
   obtain⟨p,hp,_⟩:=k2 w1 t b l ef
   rw [hp]
   exact⟨_,rfl,iteF (hN _ _ s4)⟩
end
structure Cs where
 nn:Addr
 tg:Addr
 nr:Addr
 nt:Addr
 rw:Addr
 od:Addr
 tm:Addr
 be:Addr
structure XF (K:W.Frag) (S:Cs) (C:Addr) (i:Fin 5):Prop where
 ex:W.excIn K C bmV "ValueError.__new__"=true
 mr:W.mroIn K C (.ref S.be)=some true
 xl:Z4 K C
 i0:W.kitOne K (.ref C) (.ref S.nn)=some (decide (i=0))
 i1:W.kitOne K (.ref C) (.ref S.tg)=some (decide (i=1))
 i2:W.kitOne K (.ref C) (.ref S.nr)=some (decide (i=2))
 i3:W.kitOne K (.ref C) (.ref S.nt)=some (decide (i=3))
 i4:W.kitOne K (.ref C) (.ref S.rw)=some (decide (i=4))
 i5:W.kitOne K (.ref C) (.ref S.od)=some false
 i6:W.kitOne K (.ref C) (.ref S.tm)=some false
 iv:W.kitOne K (.ref C) (.type "ValueError")=some true
theorem xf_of {K:W.Frag}{nn tg nr nt rw od tm be C:Addr} (i:Fin 5) (b0 b1 b2 b3 b4:Bool) (h:(b0,b1,b2,b3,b4)=(decide (i=0),decide (i=1),decide (i=2),decide (i=3),decide (i=4))) (x:W.excIn K C bmV "ValueError.__new__"=true) (r0:W.mroIn K C (.ref be)=some true)
  (r1:W.findIn K (.ref C) "__getattribute__"=some (some (.builtin "BaseException.__getattribute__"))) (r2:W.findIn K (.ref C) "__getattr__"=some none) (r3:W.findIn K (.ref C) "__class__"=some (some (.builtin "object.__class__"))) (r4:W.specialIn K (.builtin "object.__class__") "__get__"=some (some (.builtin "getset_descriptor.__get__"))) (r5:W.takesIn K (.builtin "object.__class__")=some true) (r6:W.mroIn K C (.type "object")=some true) (r7:W.mroIn K C (.type "BaseException")=some true)
  (i0:W.kitOne K (.ref C) (.ref nn)=some b0) (i1:W.kitOne K (.ref C) (.ref tg)=some b1) (i2:W.kitOne K (.ref C) (.ref nr)=some b2) (i3:W.kitOne K (.ref C) (.ref nt)=some b3) (i4:W.kitOne K (.ref C) (.ref rw)=some b4) (i5:W.kitOne K (.ref C) (.ref od)=some false) (i6:W.kitOne K (.ref C) (.ref tm)=some false) (i7:W.kitOne K (.ref C) (.type "ValueError")=some true):XF K ⟨nn,tg,nr,nt,rw,od,tm,be⟩ C i:=by
 cases h
 exact⟨x,r0,⟨r1,r2,r3,r4,r5,r6,r7⟩,i0,i1,i2,i3,i4,i5,i6,i7⟩
noncomputable def kdN (i:Fin 5):Str:=([("NoName":Str),"other","NoOrder","other","other"].getD i.val "")
noncomputable def Za (b:Bool) (nm:Str) (l:List Str):List Str:=if b then l++[nm] else l
theorem kd_all:∀i:Fin 5,Za (decide (i=1) || decide (i=3) || decide (i=4)) "other" (Za (decide (i=0)) "NoName" (Za (decide (i=2)) "NoOrder" []))=[kdN i]:=by decide +kernel
theorem zcT:∀i:Fin 5,Txt.join " " [kdN i]=kdN i∧([kdN i].map (·.length)).sum+[kdN i].length*(" ":Str).length≤16777216:=by decide +kernel
theorem zbE (b:Bool) (nm:Str) (l:List Str):(Za b nm l).length≤l.length+1:=by
 unfold Za
 split <;> simp
section
noncomputable def zkd (K:W.Frag) (S:Cs):Sp:=fun vs H Q _=>∃(x C:Addr) (i:Fin 5),vs=[.ref x]∧H x=some (Zb x (.ref C))∧XF K S C i∧∀H',Same H H'→Q (.str (kdN i)) H'
theorem X3:FnScope ["e","kinds"] ["e"] (defScope vD):=⟨rfl,rfl,rfl,by decide +kernel,rfl,by decide +kernel,by decide +kernel⟩
theorem zfs (D:Def K mg "_law_kind" vD ["e"]) (T:Txt K mg){zE zr zY qN jz zj qJ zQ:Addr} (xJ:mg "NoName"=some (.ref zE)) (qp:mg "TooGreat"=some (.ref zr)) (jT:mg "NoReading"=some (.ref zY)) (yO:mg "NoNote"=some (.ref qN)) (Qh:mg "NoRow"=some (.ref jz)) (zP:mg "NoOrder"=some (.ref zj)) (kh:mg "TooMany"=some (.ref qJ)):Fn P w K mg base 1 "_law_kind" ["e"] (zkd K ⟨zE,zr,zj,qN,jz,zY,qJ,zQ⟩):=by
 refine D.fn X3 (fun vs H Q E h=>?_) (fun f cdv A outer s H vs Q E hr h=>?_)
 ·obtain⟨x,C,i,rfl,_⟩:=h
  rfl
 ·obtain⟨x,C,i,rfl,hx,F,q⟩:=h
  refine Je (zp (qF (i:=1) X3.nd rfl (Or.inl rfl) (xf zm))
   (zp (jc (WT.mk (pt_val (pe_callB qQ (by rfl) T.z_isinstance qi (pa_cons (pv 0) (pa_cons (pe_glob (v:=.ref zj) (by rfl) zP rfl) pa_nil zf) zf))))
    (zx (Zk (QD PySem.F.plainAttrs_list PySem.F.slot_list_append PySem.F.type_list_append mt_append (WE.mk (pv 1)) (zc zq zm zg))))
    zT)
   (zp (jc (WT.mk (pt_val (pe_callB qQ (by rfl) T.z_isinstance qi (pa_cons (pv 0) (pa_cons (pe_glob (v:=.ref zE) (by rfl) xJ rfl) pa_nil zf) zf))))
    (zx (Zk (QD PySem.F.plainAttrs_list PySem.F.slot_list_append PySem.F.type_list_append mt_append (WE.mk (pv 1)) (zc zq zm zg))))
    zT)
   (zp (jc (WT.mk (pw_or (pt_val (pe_callB qQ (by rfl) T.z_isinstance qi (pa_cons (pv 0) (pa_cons (pe_glob (v:=.ref qN) (by rfl) yO rfl) pa_nil zf) zf))) (pw_or (pt_val (pe_callB qQ (by rfl) T.z_isinstance qi (pa_cons (pv 0) (pa_cons (pe_glob (v:=.ref zY) (by rfl) jT rfl) pa_nil zf) zf))) (pw_or (pt_val (pe_callB qQ (by rfl) T.z_isinstance qi (pa_cons (pv 0) (pa_cons (pe_glob (v:=.ref jz) (by rfl) Qh rfl) pa_nil zf) zf))) (pw_or1 (pt_val (pe_callB qQ (by rfl) T.z_isinstance qi (pa_cons (pv 0) (pa_cons (pe_glob (v:=.ref zr) (by rfl) qp rfl) pa_nil zf) zf))))))).pt)
    (zx (Zk (QD PySem.F.plainAttrs_list PySem.F.slot_list_append PySem.F.type_list_append mt_append (WE.mk (pv 1)) (zc zq zm zg))))
    zT)
   (zp (jc (WT.mk (pw_or (pt_val (pe_callB qQ (by rfl) T.z_isinstance qi (pa_cons (pv 0) (pa_cons (pe_glob (v:=.ref qJ) (by rfl) kh rfl) pa_nil zf) zf))) (pw_or1 (pt_not (pt_val (pe_callB qQ (by rfl) T.z_isinstance qi (pa_cons (pv 0) (pa_cons (pe_bltn (v:=.ty "ValueError") (by rfl) T.z_ValueError zac rfl) pa_nil zf) zf)))))).pt)
    (zx (Zk (QD PySem.F.plainAttrs_list PySem.F.slot_list_append PySem.F.type_list_append mt_append (WE.mk (pv 1)) (zc zq zm zg))))
    zT)
   (zx (qd (QD PySem.F.plainAttrs_str PySem.F.slot_str_join PySem.F.type_str_join Xv zq (zc (WE.mk (pv 1)) zm zf))))))))) ?_
  refine⟨(by decide),fun p hp=>?_⟩
  have npx:x≠p:=fun e=>by rw [e,hp] at hx;cases hx
  obtain⟨l,el,ll⟩:∃l:List Str,l=[]∧l.length≤0:=⟨[],rfl,Nat.le_refl _⟩
  have s1:Same H (upd H p (.lst (l.map V.str))):=Same.new hp
  have h1:(upd H p (.lst (l.map V.str))) p=some (.lst (l.map V.str)):=upd_same
  have hx1:=s1 _ _ hx
  rw [show (HO.lst []:HO)=.lst (l.map V.str) by rw [el];rfl]
  generalize upd H p (.lst (l.map V.str))=H1 at s1 h1 hx1 ⊢
  dsimp only [gName]
  refine jh (fun σ' H'=>σ'=[some (.ref x),some (.ref p)]∧Same H H'∧H' p=some (.lst ((Za (decide (i=2)) "NoOrder" l).map V.str))∧H' x=some (Zb x (.ref C))) ?_ (fun N hN=>?_)
  rotate_left
  ·refine⟨_,rfl,_,_,_,_,_,rfl,fun _ z=>z,.exc F.xl hx1,F.i2,_,rfl,ifD (fun z=>⟨_,rfl,.inl ⟨rfl,_,SqL.of h1⟩,p,_,_,rfl,rfl,h1,(by rw [List.length_map,sizeLine_eq];omega),hN _ _ ⟨rfl,s1.wr hp,by rw [upd_same,Za,if_pos (decide_eq_true z),List.map_append];rfl,by rw [upd_ne npx];exact hx1⟩⟩) (fun z=>hN _ _ ⟨rfl,s1,by rw [Za,if_neg (by rw [decide_eq_false z];decide)];exact h1,hx1⟩)⟩
  clear h1 s1 hx1
  rintro σ' H1 ⟨rfl,s1,h1,hx1⟩
  have ll:(Za (decide (i=2)) "NoOrder" l).length≤1:=Nat.le_trans (zbE ..) (by omega)
  have el:=congrArg (Za (decide (i=2)) "NoOrder") el
  generalize Za (decide (i=2)) "NoOrder" l=l at h1 ll el
  refine jh (fun σ' H'=>σ'=[some (.ref x),some (.ref p)]∧Same H H'∧H' p=some (.lst ((Za (decide (i=0)) "NoName" l).map V.str))∧H' x=some (Zb x (.ref C))) ?_ (fun N hN=>?_)
  rotate_left
  ·refine⟨_,rfl,_,_,_,_,_,rfl,fun _ z=>z,.exc F.xl hx1,F.i0,_,rfl,ifD (fun z=>⟨_,rfl,.inl ⟨rfl,_,SqL.of h1⟩,p,_,_,rfl,rfl,h1,(by rw [List.length_map,sizeLine_eq];omega),hN _ _ ⟨rfl,s1.wr hp,by rw [upd_same,Za,if_pos (decide_eq_true z),List.map_append];rfl,by rw [upd_ne npx];exact hx1⟩⟩) (fun z=>hN _ _ ⟨rfl,s1,by rw [Za,if_neg (by rw [decide_eq_false z];decide)];exact h1,hx1⟩)⟩
  clear h1 s1 hx1
  rintro σ' H1 ⟨rfl,s1,h1,hx1⟩
  have ll:(Za (decide (i=0)) "NoName" l).length≤2:=Nat.le_trans (zbE ..) (by omega)
  have el:=congrArg (Za (decide (i=0)) "NoName") el
  generalize Za (decide (i=0)) "NoName" l=l at h1 ll el
  refine jh (fun σ' H'=>σ'=[some (.ref x),some (.ref p)]∧Same H H'∧H' p=some (.lst ((Za (decide (i=1) || decide (i=3) || decide (i=4)) "other" l).map V.str))∧H' x=some (Zb x (.ref C))) ?_ (fun N hN=>?_)
  rotate_left
  ·refine(fun(G:(i=1∨i=3∨i=4)→_)=>⟨_,rfl,_,_,_,_,_,rfl,fun _ z=>z,.exc F.xl hx1,F.i3,_,rfl,ifD (fun z=>iteT (G (.inr (.inl z)))) (fun z3=>⟨_,rfl,_,_,_,_,false,rfl,fun _ z=>z,.exc F.xl hx1,F.i5,_,rfl,iteF ⟨_,rfl,_,_,_,_,_,rfl,fun _ z=>z,.exc F.xl hx1,F.i4,_,rfl,ifD (fun z=>iteT (G (.inr (.inr z)))) (fun z4=>⟨_,rfl,_,_,_,_,_,rfl,fun _ z=>z,.exc F.xl hx1,F.i1,_,rfl,ifD (fun z=>G (.inl z)) (fun z1=>hN _ _ ⟨rfl,s1,by rw [Za,decide_eq_false z1,decide_eq_false z3,decide_eq_false z4];exact h1,hx1⟩)⟩)⟩⟩)⟩) ?_
   intro z
   have eb:(decide (i=1) || decide (i=3) || decide (i=4))=true:=by
    rcases z with z | z | z <;> subst z <;> rfl
   rw [eb] at hN
   exact⟨_,rfl,.inl ⟨rfl,_,SqL.of h1⟩,p,_,_,rfl,rfl,h1,(by rw [List.length_map,sizeLine_eq];omega),hN _ _ ⟨rfl,s1.wr hp,by rw [upd_same,Za,if_pos rfl,List.map_append];rfl,by rw [upd_ne npx];exact hx1⟩⟩
  clear h1 s1 hx1
  rintro σ' H1 ⟨rfl,s1,h1,hx1⟩
  have el:=congrArg (Za (decide (i=1) || decide (i=3) || decide (i=4)) "other") el
  generalize Za (decide (i=1) || decide (i=3) || decide (i=4)) "other" l=l at h1 el
  rw [kd_all i] at el
  subst el
  refine jh (fun σ' H'=>σ'=[some (.ref x),some (.ref p)]∧H'=H1) ?_ (fun N hN=>?_)
  rotate_left
  ·exact⟨_,rfl,_,_,_,_,false,rfl,fun _ z=>z,.exc F.xl hx1,F.i6,_,rfl,iteF ⟨_,rfl,_,_,_,_,true,rfl,fun _ z=>z,.exc F.xl hx1,F.iv,_,rfl,iteF (hN _ _ ⟨rfl,rfl⟩)⟩⟩
  rintro σ' H2 ⟨rfl,rfl⟩
  refine⟨rfl,_,rfl," ",p,[kdN i],rfl,rfl,SqL.of h1,(zcT i).2,?_⟩
  rw [(zcT i).1]
  exact q H2 s1
noncomputable def zcn (TD:Sp) (vs:List V) (H:Hp) (A:V→Hp→Prop) (R:Value→Hp→Prop):Prop:=∀(Q:VK) (E:XK),(∀v H',A v H'→Q v H')→(∀C H',R C H'→E C none H')→TD vs H Q E
noncomputable def zcU (K:W.Frag) (S:Cs) (CD:Addr) (TD:Sp):Sp:=fun vs H Q _=>∃(x dx:Addr) (fs:List (Str×V)) (o:V) (A:V→Hp→Prop) (R:Value→Hp→Prop),vs=[.ref x,o]∧H x=some (.ins CD dx fs)∧fs.lookup ("told":Str)=none∧zcn TD [.ref x,o] H A R ∧
 (∀v H1,A v H1→∃r:Str,v=.str r∧∀p H',Same H1 H'→H' p=some (.tup [.str "told",.str r])→Q (.ref p) H') ∧
 (∀C H1,R C H1→∃(C':Addr) (i:Fin 5),C=.ref C'∧XF K S C' i∧∀p H',Same H1 H'→H' p=some (.tup [.str "refused",.str (kdN i)])→Q (.ref p) H')
theorem j6:FnScope ["desk","order","caught","found","e"] ["desk","order"] (defScope vG):=⟨rfl,rfl,rfl,by decide +kernel,rfl,by decide +kernel,by decide +kernel⟩
theorem zes (D:Def K mg "_law_told" vG ["desk","order"]) (T:Txt K mg){S:Cs}{zQ:Addr} (eb:S.be=zQ) (jU:mg "BellError"=some (.ref zQ)) (jV:W.excIn K zQ bmV "ValueError.__new__"=true){CD:Addr}{TD:Sp} (zaN:MtE P w K mg base 46 CD "told" ["self","order"] TD) (QT:Fn P w K mg base 1 "_law_kind" ["e"] (zkd K S)):Fn P w K mg base 47 "_law_told" ["desk","order"] (zcU K S CD TD):=by
 refine D.fn j6 (fun vs H Q E h=>?_) (fun f cdv A outer s H vs Q E hr h=>?_)
 ·obtain⟨x,dx,fs,o,A,R,rfl,_⟩:=h
  rfl
 ·obtain⟨x,dx,fs,o,Aw,Rw,rfl,hx,hl,td,qa,qr⟩:=h
  refine⟨_,(pss_cons (ps_set (i:=2) j6.nd rfl (Or.inl rfl) pe_non)
   (pss_cons (ps_set (i:=3) j6.nd rfl (Or.inl rfl) pe_non)
   (pss_cons (zeT (i:=4) rfl rfl j6.nd rfl rfl rfl (by rfl) jU jV (by decide) (fun pn xe G hx=>(pss_one (ps_set (i:=3) j6.nd rfl (Or.inl rfl) (QC (pv 0) zaN (hr.mono (by decide)) hx (pa_cons (pv 1) pa_nil zf))))) (fun x=>(pss_one (ps_set (i:=2) j6.nd rfl (Or.inl rfl) (pv 4)))))
   (pss_cons (ps_if (pt_cmpR op_notN (pv 2) pe_non (nomark _))
    (pss_one (ps_ret (pe_tup (pa_cons pe_str (pa_cons (qm QT (hr.mono (by decide)) (by rfl) (pa_cons (pv 2) pa_nil zf)) pa_nil zu) zg))))
    pss_nil)
   (pss_cons (ps_if (pt_val (pe_callB Qy (by rfl) T.z_isinstance qi (pa_cons (pv 3) (pa_cons (pe_bltn (v:=.ty "str") (by rfl) T.z_str Xn rfl) pa_nil zf) zf)))
    (pss_one (ps_ret (pe_tup (pa_cons pe_str (pa_cons (pv 3) pa_nil zf) zg))))
    pss_nil)
   (pss_one (ps_ret (pe_tup (pa_cons pe_str (pa_cons pe_str pa_nil zg) zg))))))))),?_⟩
  refine⟨_,rfl,x,dx,fs,rfl,hx,hl,_,rfl,td _ _ (fun v H1 a=>?_) (fun C H1 r=>?_)⟩
  ·obtain⟨r,rfl,q⟩:=qa v H1 a
   refine⟨_,rfl,rfl,_,rfl,iteF ⟨_,rfl,_,_,_,true,rfl,TyOf.str _,QL K,_,rfl,iteT ⟨_,rfl,(by show 2≤sizeLine;decide),fun p hp=>q p _ (Same.new hp) upd_same⟩⟩⟩
  ·obtain⟨C',i,rfl,F,q⟩:=qr C H1 r
   refine⟨C',bmV,_,rfl,F.ex,by decide,eb ▸ F.mr,fun y hy=>⟨_,rfl,?_⟩⟩
   have s2:Same H1 (upd H1 y (Zb y (.ref C'))):=Same.new hy
   have h2:(upd H1 y (Zb y (.ref C'))) y=some (Zb y (.ref C')):=upd_same
   generalize upd H1 y (Zb y (.ref C'))=H2 at s2 h2 ⊢
   refine⟨_,rfl,rfl,_,rfl,iteT ⟨_,rfl,y,C',i,rfl,h2,F,fun H3 s3=>⟨(by show 2≤sizeLine;decide),fun p hp=>q p _ ((s2.trans s3).trans (Same.new hp)) upd_same⟩⟩⟩
end
section
open PySem.Spec PyProof.Rows PySem.SeqAt
variable {X:Cx}
theorem yu {xs:List V} (ok:∀v∈xs,okF v=true):shaped (.tuple (xs.map dV))=true:=by
 have h1:=Ky xs
 have h2:PyData.depth (.tuple (xs.map dV))≤64:=by simp only [PyData.depth];omega
 show (PyData.canLay0 (.tuple (xs.map dV)) && decide (PyData.depth (.tuple (xs.map dV))≤64))=true
 rw [Bool.and_eq_true]
 exact⟨by simp only [PyData.canLay0];exact VD ok,decide_eq_true h2⟩
theorem Kg {pins:List (Addr×Obj)}{σ:L2.St}{H:Hp}{s:Shared} (I:Inv X pins σ H s){a:Addr}{xs:List V} (h:SqT X.K H a xs) (ok:∀v∈xs,okF v=true):∃bs,Reads s.heap (.ref a) (.tuple (xs.map dV)) bs:=by
 obtain⟨its,r,⟨o,ho,hc,n,hd⟩,z⟩:=I.tuple h
 exact⟨_,.tuple ho hc hd (by simpa using Jg r ok)⟩
noncomputable def kj (x:Str):Prop:=∀c∈cpl x,c<1114112
noncomputable def zke:R2:=fun x y H Q=>∃(a b:Addr) (i j:Str),x=.ref a∧y=.ref b∧H a=some (.tup [.str i,.str j])∧H b=some (.tup [.str i,.str j])∧kj i∧kj j∧Q (.bl true) H
theorem Kh {x:Str} (h:kj x):okF (.str x)=true:=by
 show (x.cps.all (·<0x110000))=true
 rw [Array.all_eq_true']
 intro c hc
 exact decide_eq_true (h c (Array.mem_toList_iff.mpr hc))
theorem zft (hu:X.A.units+64<cLine):OpR X (compareOp .Eq) zke:=by
 intro pins s σ H x y v u Q I rx ry h
 obtain⟨a,b,i,j,rfl,rfl,h1,h2,o1,o2,q⟩:=h
 cases rx;cases ry
 have ok:∀v∈[V.str i,V.str j],okF v=true:=fun v hv=>by
  rcases List.mem_cons.mp hv with rfl | hv
  ·exact Kh o1
  ·rw [List.mem_singleton.mp hv];exact Kh o2
 obtain⟨_,r1⟩:=Kg I (SqT.of h1) ok
 obtain⟨_,r2⟩:=Kg I (SqT.of h2) ok
 refine eq_dataH_same r1 r2 (yu ok) (yu ok) hu ?_ ?_
 ·simp [noMix,noMixAll,dV]
 ·rw [show PySem.Spec.same (.tuple ([V.str i,V.str j].map dV)) (.tuple ([V.str i,V.str j].map dV))=true by simp [PySem.Spec.same,PySem.Spec.sameAll,dV]]
  exact⟨.bl _,H,I,rfl,q⟩
noncomputable def zkf:R2:=fun x y H Q=>∃(a b:Addr) (i j:Str),x=.ref a∧y=.ref b∧H a=some (.tup [.str i,.str j])∧H b=some (.tup [.str i,.str j])∧kj i∧kj j∧Q (.bl false) H
theorem X4 (hu:X.A.units+64<cLine):OpR X (compareOp .NotEq) zkf:=by
 intro pins s σ H x y v u Q I rx ry h
 obtain⟨a,b,i,j,rfl,rfl,h1,h2,o1,o2,q⟩:=h
 cases rx;cases ry
 have ok:∀v∈[V.str i,V.str j],okF v=true:=fun v hv=>by
  rcases List.mem_cons.mp hv with rfl | hv
  ·exact Kh o1
  ·rw [List.mem_singleton.mp hv];exact Kh o2
 obtain⟨_,r1⟩:=Kg I (SqT.of h1) ok
 obtain⟨_,r2⟩:=Kg I (SqT.of h2) ok
 refine ne_dataH_same r1 r2 (yu ok) (yu ok) hu ?_ ?_
 ·simp [noMix,noMixAll,dV]
 ·rw [show PySem.Spec.same (.tuple ([V.str i,V.str j].map dV)) (.tuple ([V.str i,V.str j].map dV))=true by simp [PySem.Spec.same,PySem.Spec.sameAll,dV]]
  exact⟨.bl _,H,I,rfl,q⟩
end
theorem zcV:∀{l:List (List Nat)},(∀x∈l,∀c∈x,c<1114112)→∀c∈qb 32 l,c<1114112
 | [],_,c,h=>absurd h (by simp [qb])
 | [x],hx,c,h=>hx x (by simp) c h
 | x::y::r,hx,c,h=>by
  have h:c∈x++32::qb 32 (y::r):=h
  rcases List.mem_append.mp h with h | h
  ·exact hx x (by simp) c h
  rcases List.mem_cons.mp h with rfl | h
  ·decide
  ·exact zcV (fun z hz=>hx z (List.mem_cons_of_mem _ hz)) c h
theorem zbF {n:Int} (h:0≤n):kj (txt n):=fun c hc=>by
 obtain⟨m,rfl⟩:∃m:Nat,n=(m:Int):=⟨n.toNat,by omega⟩
 have:=zam m c hc
 omega
theorem zco {ns:List Int} (h:∀n∈ns,0≤n):kj (wQ ns):=by
 unfold wQ
 split
 ·unfold kj;decide +kernel
 ·intro c hc
  rw [qI] at hc
  refine zcV (fun x hx=>?_) c hc
  obtain⟨y,hy,rfl⟩:=List.mem_map.mp hx
  obtain⟨n,hn,rfl⟩:=List.mem_map.mp hy
  exact zbF (h n hn)
theorem zet {x y:Str} (h1:kj x) (h2:kj y):kj (x++y):=fun c hc=>by
 rw [jo] at hc
 exact(List.mem_append.mp hc).elim (h1 c) (h2 c)
theorem ZX:kj "told":=by unfold kj;decide +kernel
theorem yw:kj "refused":=by unfold kj;decide +kernel
theorem zcW:∀i:Fin 5,kj (kdN i):=fun i=>by
 have:∀i:Fin 5,(cpl (kdN i)).all (fun c=>decide (c<1114112))=true:=by decide +kernel
 intro c hc
 exact of_decide_eq_true (List.all_eq_true.mp (this i) c hc)
theorem W0:kj "messages ":=by unfold kj;decide +kernel
theorem zgh:(" ":Str)=sp:=by decide +kernel
theorem zbG (s sub:Str) (hi limit:Nat):∀(l:List Nat) (st:Array Nat×Nat),limit≤st.fst.size→forIn (m:=Id) l st (StrLaws.occBody s sub hi limit)=pure st
 | [],st,_=>rfl
 | a::l,st,h=>by
  rw [List.forIn_cons]
  unfold StrLaws.occBody
  rw [if_neg (by omega)]
  exact zbG s sub hi limit l _ h
theorem zcX {s:Str}{limit i free:Nat}{l:List Nat}{f:Array Nat} (hf:f.size<limit) (hi:free≤i) (h:(cpl s)[i]?=some 32):forIn (m:=Id) (i::l) (f,free) (StrLaws.occBody s sp s.length limit)=forIn (m:=Id) l (f.push i,i+1) (StrLaws.occBody s sp s.length limit):=by
 have h1:=(StrLaws.subAt_one s 32 i).mpr h
 rw [← YS] at h1
 rw [List.forIn_cons]
 conv=>lhs;unfold StrLaws.occBody
 rw [if_pos ⟨⟨⟨hf,hi⟩,h1.1⟩,h1.2⟩]
 rfl
theorem zeu {s:Str}{limit i free c:Nat}{l:List Nat}{f:Array Nat} (h:(cpl s)[i]?=some c) (hc:c≠32):forIn (m:=Id) (i::l) (f,free) (StrLaws.occBody s sp s.length limit)=forIn (m:=Id) l (f,free) (StrLaws.occBody s sp s.length limit):=by
 have h1:¬(i+sp.length≤s.length∧Builtin.Str.subAt s sp i=true):=fun z=>by
  rw [YS] at z
  have:=(StrLaws.subAt_one s 32 i).mp z
  rw [show s.cps.toList=cpl s from rfl,h] at this
  exact hc (Option.some.inj this)
 rw [List.forIn_cons]
 conv=>lhs;unfold StrLaws.occBody
 rw [if_neg (fun z=>h1 ⟨z.1.2,z.2⟩)]
 rfl
theorem zaO (s:Str) (i j:Nat):cpl (Builtin.Str.strSub s i j)=((cpl s).take j).drop i:=by
 unfold Builtin.Str.strSub cpl
 rw [Array.toList_extract,List.extract_eq_drop_take]
 simp [List.drop_take]
theorem zew (x:Str):Builtin.Str.strKind sp≤Builtin.Str.strKind x:=by
 have h:Builtin.Str.strKind sp=1:=by decide +kernel
 rw [h]
 unfold Builtin.Str.strKind
 split
 ·exact Nat.le_refl _
 split <;> decide
theorem Wf {s:Str}{limit free:Nat}{f:Array Nat}:∀(k i m:Nat),(∀j,i≤j→j<i+k→∃c,(cpl s)[j]?=some c∧c≠32)→forIn (m:=Id) (List.range' i (k+m)) (f,free) (StrLaws.occBody s sp s.length limit)=forIn (m:=Id) (List.range' (i+k) m) (f,free) (StrLaws.occBody s sp s.length limit)
 | 0,i,m,_=>by rw [Nat.zero_add,Nat.add_zero]
 | k+1,i,m,h=>by
  obtain⟨c,h1,h2⟩:=h i (Nat.le_refl _) (by omega)
  rw [show k+1+m=(k+m)+1 by omega,List.range'_succ,zeu h1 h2,Wf k (i+1) m fun j h1 h2=>h j (by omega) (by omega),show i+1+k=i+(k+1) by omega]
noncomputable def NtO (o nm x:Str):Prop:=cpl o=([110,111,116,101,32]++cpl nm)++32::cpl x
theorem zex {o nm x:Str} (e:NtO o nm x):o.length=6+nm.length+x.length:=by
 rw [← zF,e]
 simp only [List.length_append,List.length_cons,List.length_nil,zF]
 omega
theorem zgi {o nm x:Str} (e:NtO o nm x) (hw:Z5 nm):Builtin.Str.occurrences o sp 0 o.length 2=[4,5+nm.length]:=by
 rw [StrLaws.occ_eq]
 have el:=zex e
 have e:cpl o=([110,111,116,101,32]++cpl nm)++32::cpl x:=e
 have g1:∀j,0≤j→j<0+4→∃c,(cpl o)[j]?=some c∧c≠32:=fun j _ hj=>by
  rw [e,List.getElem?_append_left (by rw [List.length_append];show j<5+_;omega),List.getElem?_append_left (by show j<5;omega)]
  match j,hj with
  | 0,_=>exact⟨110,rfl,by decide⟩
  | 1,_=>exact⟨111,rfl,by decide⟩
  | 2,_=>exact⟨116,rfl,by decide⟩
  | 3,_=>exact⟨101,rfl,by decide⟩
 have g2:(cpl o)[4]?=some 32:=by
  rw [e,List.getElem?_append_left (by rw [List.length_append];show 4<5+_;omega),List.getElem?_append_left (by decide)]
  rfl
 have g3:∀j,5≤j→j<5+nm.length→∃c,(cpl o)[j]?=some c∧c≠32:=fun j h1 h2=>by
  have hl:j-5<(cpl nm).length:=by rw [zF];omega
  rw [e,List.getElem?_append_left (by rw [List.length_append,zF];show j<5+_;omega),List.getElem?_append_right (by show 5≤j;omega)]
  refine⟨_,List.getElem?_eq_getElem hl,fun z=>hw ?_⟩
  have:=List.getElem_mem hl
  rwa [z] at this
 have g4:(cpl o)[5+nm.length]?=some 32:=by
  rw [e,List.getElem?_append_right (by rw [List.length_append,zF];exact Nat.le_refl _),List.length_append,zF]
  show (32::cpl x)[5+nm.length-(5+nm.length)]?=some 32
  rw [Nat.sub_self]
  rfl
 have er:o.length+1-0=4+((nm.length+(x.length+1+1))+1):=by omega
 rw [er,Wf 4 0 _ g1,show 0+4=4 from rfl,List.range'_succ,zcX (by decide) (by decide) g2,show 4+1=5 from rfl,Wf nm.length 5 _ g3,List.range'_succ,zcX (by decide) (by omega) g4,zbG _ _ _ _ _ _ (by simp)]
 rfl
theorem zfu {o nm x:Str} (e:NtO o nm x) (hw:Z5 nm):Txt.splitMax o " " 2=[("note":Str),nm,x]:=by
 have el:=zex e
 have hk:=zew o
 have hl:sp.length=1:=by decide +kernel
 unfold Txt.splitMax
 rw [zgh,if_neg (by simp only [Bool.or_eq_true,decide_eq_true_eq];omega)]
 have lo:limitOf o 2=2:=by
  unfold limitOf
  simp
 rw [lo,zgi e hw,if_neg (by simp),StrLaws.partsBetween_eq]
 show [Builtin.Str.strSub o 0 4,Builtin.Str.strSub o (4+sp.length) (5+nm.length),Builtin.Str.strSub o (5+nm.length+sp.length) o.length]=_
 have e:cpl o=([110,111,116,101,32]++cpl nm)++32::cpl x:=e
 have l5:([110,111,116,101,32]++cpl nm:List Nat).length=5+nm.length:=by rw [List.length_append,zF];rfl
 have a1:Builtin.Str.strSub o 0 4="note":=Zd (by rw [zaO,e,List.append_assoc];show _=cpl ("note":Str);rw [show cpl ("note":Str)=[110,111,116,101] by decide +kernel];rfl)
 have a2:Builtin.Str.strSub o (4+sp.length) (5+nm.length)=nm:=Zd (by rw [zaO,e,hl,List.take_left' l5];rfl)
 have a3:Builtin.Str.strSub o (5+nm.length+sp.length) o.length=x:=Zd (by
  rw [zaO,hl,List.take_of_length_le (by rw [zF];exact Nat.le_refl _),e,← List.drop_drop,List.drop_left' l5]
  rfl)
 rw [a1,a2,a3]
theorem zgj {r:List Str}:Rest "frame" r↔∃a b c,r=[a,b,c]∧Num 60 a∧ji b∧Num 60 c:=
 ⟨fun g=>g.1 rfl,fun g=>⟨fun _=>g,fun z=>absurd z (by rintro (z | z);exact hd1.1 z;exact hd1.2.1 z),fun z=>absurd z (by rintro (z | z | z);exact hd1.2.2.1 z;exact hd1.2.2.2.1 z;exact hd1.2.2.2.2.1 z),.inl rfl⟩⟩
theorem zbH {w0:Str} (z:w0="write"∨w0="key"):w0≠"frame"∧¬(w0="read"∨w0="unkey"∨w0="hear")∧w0≠"note"∧¬Jf w0:=by
 rcases z with rfl | rfl
 ·exact⟨hd1.1.symm,by rintro (z | z | z);exact hd2.1 z;exact hd2.2.1 z;exact hd2.2.2.1 z,hd2.2.2.2.1,chf.2.1⟩
 ·exact⟨hd1.2.1.symm,by rintro (z | z | z);exact hd2.2.2.2.2.1 z;exact hd2.2.2.2.2.2.1 z;exact hd2.2.2.2.2.2.2.1 z,hd2.2.2.2.2.2.2.2,chf.2.2.1⟩
theorem zbI {w0:Str} (z:w0="read"∨w0="unkey"∨w0="hear"):w0≠"frame"∧¬(w0="write"∨w0="key")∧¬Jf w0:=by
 refine⟨?_,fun y=>(zbH y).2.1 z,?_⟩
 ·rcases z with rfl | rfl | rfl
  ·exact hd1.2.2.1.symm
  ·exact hd1.2.2.2.1.symm
  ·exact hd1.2.2.2.2.1.symm
 ·rcases z with rfl | rfl | rfl
  ·exact chf.2.2.2.1
  ·exact chf.2.2.2.2.1
  ·exact chf.2.2.2.2.2.1
theorem zaP {w0:Str}{r:List Str} (z:w0="write"∨w0="key"):Rest w0 r↔∃m,r=[m]∧Num 3000 m:=
 ⟨fun g=>g.2.1 z,fun g=>⟨fun y=>absurd y (zbH z).1,fun _=>g,fun y=>absurd y (zbH z).2.1,.inr (.inl z)⟩⟩
theorem zey {w0:Str}{r:List Str} (z:w0="read"∨w0="unkey"∨w0="hear"):Rest w0 r↔j5 r:=
 ⟨fun g=>g.2.2.1 z,fun g=>⟨fun y=>absurd y (zbI z).1,fun y=>absurd y (zbI z).2.1,fun _=>g,.inr (.inr (.inl z))⟩⟩
theorem Y9:¬(("note":Str)="write"∨("note":Str)="key")∧¬(("note":Str)="read"∨("note":Str)="unkey"∨("note":Str)="hear")∧("note":Str)≠"frame":=by decide +kernel
theorem zez {r:List Str}:Rest "note" r↔r≠[]:=
 ⟨fun g=>by
  rcases g.2.2.2 with z | z | z | z
  ·exact absurd z Y9.2.2
  ·exact absurd z Y9.1
  ·exact absurd z Y9.2.1
  ·exact z.2,fun g=>⟨fun y=>absurd y Y9.2.2,fun y=>absurd y Y9.1,fun y=>absurd y Y9.2.1,.inr (.inr (.inr ⟨rfl,g⟩))⟩⟩
theorem ws4 {α:Type}{l:List α} (h:l.length=4):∃a b c d,l=[a,b,c,d]:=by
 match l,h with
 | [a,b,c,d],_=>exact⟨a,b,c,d,rfl⟩
theorem ws2 {α:Type}{l:List α} (h:l.length=2):∃a b,l=[a,b]:=by
 match l,h with
 | [a,b],_=>exact⟨a,b,rfl⟩
theorem Wg {o w1:Str}{r:List Str} (W:Words o "note" (w1::r)) (hr:r≠[]):∃x,Txt.splitMax o " " 2=[("note":Str),w1,x]:=by
 obtain⟨y,r',rfl⟩:∃y r',r=y::r':=by
  cases r with
  | nil=>exact absurd rfl hr
  | cons y r'=>exact⟨y,r',rfl⟩
 refine⟨Txt.join " " (y::r'),zfu ?_ (W.wd w1 (by simp))⟩
 unfold NtO
 rw [qI]
 have e:cpl o=qb 32 ((("note":Str)::w1::y::r').map cpl):=by rw [← qI];exact congrArg cpl W.jn.symm
 rw [e]
 show cpl ("note":Str)++32::(cpl w1++32::qb 32 ((y::r').map cpl))=_
 rw [show cpl ("note":Str)=[110,111,116,101] by decide +kernel]
 simp only [List.append_assoc,List.cons_append,List.nil_append]
abbrev VH (K:W.Frag) (CD CF CO CN CT:Addr):Sp:=zcN K CD CO (zce CD CF CO) (zcf CD CF CO CN CT) (K5 CD CF CO CN) (zaF CD CF CO CN) (zbu CO)
section
variable {K:W.Frag}{CD CF CO CN CT x d:Addr}{n:Nat}{fr:Str→Option (Int×Int×Int)}{H:Hp}{o w0:Str}{ws:List Str}
theorem zbJ {v:V} (h:Zv K H v):zcn (VH K CD CF CO CN CT) [.ref x,v] H (fun _ _=>False) (fun C H'=>C=.ref CO∧Same H H'):=
 fun Q E _ qr=>.inr ⟨x,v,rfl,h,qr _ _ ⟨rfl,Same.refl _⟩⟩
theorem zfv (hD:qt CD CF x d n fr H) (hn:n<1000) (W:Words o w0 ws) (so:Sm 500000 50 o) (io:¬XX w0 ws):zcn (VH K CD CF CO CN CT) [.ref x,.str o] H (fun _ _=>False) (fun C H'=>C=.ref CO∧Same H H'):=by
 intro Q E _ qr
 obtain⟨wl,wsm⟩:=W.sm so
 have vg:∀y∈ws,y.length≤1000000:=fun y hy=>by have:=(wsm y (List.mem_cons_of_mem _ hy)).1;omega
 obtain⟨dx,hx⟩:=hD.self
 have q:∀H',Same H H'→E (.ref CO) none H':=fun H' s=>qr _ _ ⟨rfl,s⟩
 refine .inl ⟨x,dx,d,o,w0,ws,rfl,hx,by rw [sizeLine_eq];have:=so.1;omega,W.eq,fun z l a H1 s1 hA=>?_,fun z l a H1 s1 hA=>?_,fun z l a H1 s1 hA=>?_,fun z l=>?_,fun z1 z2 z3 z4 a H1 s1 hA=>?_⟩
 ·subst z
  obtain⟨w1,w2,w3,w4,rfl⟩:=ws4 l
  have ng:¬jQ w1 w2 w3 w4:=fun g=>io (.inr ⟨chf.1,w1,_,rfl,g.a,zgj.mpr ⟨w2,w3,w4,rfl,g.b,g.c,g.d⟩⟩)
  exact⟨x,a,d,n,fr,"frame",w1,w2,w3,w4,rfl,hD.mono s1,hn,hA,vg _ (by simp),vg _ (by simp),vg _ (by simp),vg _ (by simp),fun _ H2 s2=>q H2 (s1.trans s2),fun g=>absurd g ng⟩
 ·obtain⟨w1,w2,rfl⟩:=ws2 l
  have ng:¬(zK w1∧Num 3000 w2):=fun g=>io (.inr ⟨(zbH z).2.2.2,w1,_,rfl,g.1,(zaP z).mpr ⟨w2,rfl,g.2⟩⟩)
  exact⟨x,a,d,n,fr,w0,w1,w2,rfl,hD.mono s1,hA,vg _ (by simp),vg _ (by simp),fun _ H2 s2=>q H2 (s1.trans s2),fun g1 g2=>absurd ⟨g1,g2⟩ ng,fun g1 g2=>absurd ⟨g1,g2⟩ ng⟩
 ·obtain⟨w1,r,rfl⟩:∃w1 r,ws=w1::r:=by
   cases ws with
   | nil=>exact absurd l (by decide)
   | cons w1 r=>exact⟨w1,r,rfl⟩
  have ng:¬(zK w1∧j5 r):=fun g=>io (.inr ⟨(zbI z).2.2,w1,_,rfl,g.1,(zey z).mpr g.2⟩)
  exact⟨x,a,d,n,fr,w0,w1,r,rfl,hD.mono s1,hA,vg _ (by simp),by rw [List.length_cons] at wl;omega,fun y hy=>vg y (List.mem_cons_of_mem _ hy),fun _ H2 s2=>q H2 (s1.trans s2),fun g1 g2=>absurd ⟨g1,g2⟩ ng⟩
 ·subst z
  obtain⟨w1,r,rfl⟩:∃w1 r,ws=w1::r:=by
   cases ws with
   | nil=>exact absurd l (by decide)
   | cons w1 r=>exact⟨w1,r,rfl⟩
  have hr:r≠[]:=fun e=>by rw [e] at l;exact absurd l (by simp)
  obtain⟨y,ey⟩:=Wg W hr
  rw [ey]
  have ng:¬zK w1:=fun g=>io (.inr ⟨chf.2.2.2.2.2.2,w1,r,rfl,g,zez.mpr hr⟩)
  exact⟨by show 3≤sizeLine;decide,fun a H1 s1 hA=>⟨x,a,d,n,fr,"note",w1,y,rfl,hD.mono s1,hA,vg _ (by simp),fun _ H2 s2=>q H2 (s1.trans s2),fun g=>absurd g ng⟩⟩
 ·refine⟨a,w0,ws,rfl,hA,vg,fun g=>io (.inl ⟨?_,g⟩),fun H2 s2=>q H2 (s1.trans s2)⟩
  rcases g with g | g | g
  ·exact .inl g.1
  ·exact .inr (.inl g.1)
  ·exact .inr (.inr g.1)
theorem zcY {w1:Str}{r:List Str} (hD:qt CD CF x d n fr H) (W:Words o w0 (w1::r)) (so:Sm 500000 50 o) (nf:w0≠"frame") (nc:¬Jf w0) (gn:zK w1) (re:Rest w0 r) (hf:fr w1=none):zcn (VH K CD CF CO CN CT) [.ref x,.str o] H (fun _ _=>False) (fun C H'=>C=.ref CN∧Same H H'):=by
 intro Q E _ qr
 obtain⟨wl,wsm⟩:=W.sm so
 have vg:∀y∈w1::r,y.length≤1000000:=fun y hy=>by have:=(wsm y (List.mem_cons_of_mem _ hy)).1;omega
 obtain⟨dx,hx⟩:=hD.self
 have q:∀H',Same H H'→E (.ref CN) none H':=fun H' s=>qr _ _ ⟨rfl,s⟩
 refine .inl ⟨x,dx,d,o,w0,w1::r,rfl,hx,by rw [sizeLine_eq];have:=so.1;omega,W.eq,fun z=>absurd z nf,fun z l a H1 s1 hA=>?_,fun z l a H1 s1 hA=>?_,fun z l=>?_,fun z1 z2 z3 z4 a H1 s1 hA=>?_⟩
 ·obtain⟨m,rfl,hm⟩:=(zaP z).mp re
  exact⟨x,a,d,n,fr,w0,w1,m,rfl,hD.mono s1,hA,vg _ (by simp),vg _ (by simp),fun g=>absurd ⟨gn,hm⟩ g,fun _ _ _ H2 s2=>q H2 (s1.trans s2),fun _ _ t b l e=>by rw [hf] at e;cases e⟩
 ·have g:=(zey z).mp re
  exact⟨x,a,d,n,fr,w0,w1,r,rfl,hD.mono s1,hA,vg _ (by simp),by rw [List.length_cons] at wl;omega,fun y hy=>vg y (List.mem_cons_of_mem _ hy),fun k=>absurd ⟨gn,g⟩ k,fun _ _=>⟨hf,fun H2 s2=>q H2 (s1.trans s2)⟩⟩
 ·subst z
  obtain⟨y,ey⟩:=Wg W (zez.mp re)
  rw [ey]
  exact⟨by show 3≤sizeLine;decide,fun a H1 s1 hA=>⟨x,a,d,n,fr,"note",w1,y,rfl,hD.mono s1,hA,vg _ (by simp),fun k=>absurd gn k,fun _=>⟨hf,fun H2 s2=>q H2 (s1.trans s2)⟩⟩⟩
 ·exfalso
  rcases re.2.2.2 with z | z | z | z
  ·exact nf z
  ·obtain⟨m,rfl,hm⟩:=(zaP z).mp re
   exact z2 ⟨z,rfl⟩
  ·exact z3 ⟨z,by simp⟩
  ·refine z4 ⟨z.1,?_⟩
   cases r with
   | nil=>exact absurd rfl z.2
   | cons y r=>simp
theorem Kl {w1 a b c:Str} (hD:qt CD CF x d n fr H) (hn:n<1000) (W:Words o "frame" [w1,a,b,c]) (so:Sm 500000 50 o) (g:jQ w1 a b c):zcn (VH K CD CF CO CN CT) [.ref x,.str o] H (fun v H'=>v=.str (zcm (zA a) (zA b) (zA c))∧qw d H H'∧qt CD CF x d (n+1) (vU fr w1 (zA a,zA b,zA c)) H') (fun _ _=>False):=by
 intro Q E qa _
 obtain⟨wl,wsm⟩:=W.sm so
 have vg:∀y∈[w1,a,b,c],y.length≤1000000:=fun y hy=>by have:=(wsm y (List.mem_cons_of_mem _ hy)).1;omega
 obtain⟨dx,hx⟩:=hD.self
 refine .inl ⟨x,dx,d,o,"frame",[w1,a,b,c],rfl,hx,by rw [sizeLine_eq];have:=so.1;omega,W.eq,fun _ _ p H1 s1 hA=>?_,fun z=>absurd rfl (zbH z).1,fun z=>absurd rfl (zbI z).1,fun z=>absurd z hd1.2.2.2.2.2,fun z=>absurd ⟨rfl,rfl⟩ z⟩
 exact⟨x,p,d,n,fr,"frame",w1,a,b,c,rfl,hD.mono s1,hn,hA,vg _ (by simp),vg _ (by simp),vg _ (by simp),vg _ (by simp),fun k=>absurd g k,fun _=>⟨zcS g,fun H2 s2 d2=>qa _ _ ⟨rfl,(qw.of s1).trans s2,d2⟩⟩⟩
noncomputable def zcp (nm:Str):Str:="write "++nm++" 0"
theorem wd0:cpl "write "=cpl "write"++[32]:=by decide +kernel
theorem wd1:cpl " 0"=32::cpl "0":=by decide +kernel
theorem zfw {nm:Str} (g:zK nm):Words (zcp nm) "write" [nm,"0"]:=by
 have hw:∀y∈(["write",nm,"0"]:List Str),Z5 y:=fun y hy=>by
  simp only [List.mem_cons,List.not_mem_nil,or_false] at hy
  rcases hy with rfl | rfl | rfl
  ·unfold Z5;decide +kernel
  ·exact zdo g
  ·unfold Z5;decide +kernel
 have e:Txt.join sp ["write",nm,"0"]=zcp nm:=by
  apply Zd
  show cpl (Txt.join " " ["write",nm,"0"])=_
  rw [qI]
  unfold zcp
  rw [jo,jo,wd0,wd1]
  show cpl "write"++32::(cpl nm++32::cpl "0")=_
  simp only [List.append_assoc,List.cons_append,List.nil_append]
 exact⟨by rw [← e];exact yz (by simp) hw,hw,e⟩
theorem zkg {nm:Str} (g:zK nm):(zcp nm).length+2≤sizeLine:=by
 unfold zcp
 rw [len_app,len_app,show ("write ":Str).length=6 by decide +kernel,show (" 0":Str).length=2 by decide +kernel,sizeLine_eq]
 have:=g.le
 omega
theorem zlx:Num 3000 "0":=⟨by decide +kernel,by decide +kernel,by unfold PySem.NumText.AllDigits;decide +kernel,fun _=>by decide +kernel⟩
theorem zly:zA "0"=0:=by decide +kernel
theorem zdz (k:Nat):vd (List.replicate k 0):=zbg (fun j hj=>by simp [List.getD_eq_getElem?_getD,List.getElem?_replicate];split <;> simp) (fun j k' _ _=>by simp [List.getD_eq_getElem?_getD,List.getElem?_replicate];split <;> split <;> simp)
theorem zcq (k:Nat) (l:Int):ZQ l (List.replicate k 0)=(List.range k).map fun(i:Nat)=>(i:Int):=by
 unfold ZQ
 rw [List.length_replicate]
 refine List.map_congr_left fun i hi=>?_
 have:=List.mem_range.mp hi
 simp [List.getD_eq_getElem?_getD,List.getElem?_replicate,this]
noncomputable def zeA (b:Int):Str:=wQ ((List.range b.toNat).map fun(i:Nat)=>(i:Int))
theorem zgk {nm:Str}{t b l:Int} (hD:qt CD CF x d n fr H) (g:zK nm) (hf:fr nm=some (t,b,l)):zcn (VH K CD CF CO CN CT) [.ref x,.str (zcp nm)] H (fun v H'=>b≤t∧v=.str (zeA b)∧Same H H') (fun C H'=>¬b≤t∧C=.ref CT∧Same H H'):=by
 intro Q E qa qr
 have W:=zfw g
 have ok:=hD.ok nm t b l hf
 have nl:nm.length≤1000000:=by have:=g.le;omega
 have l0:("0":Str).length≤1000000:=by decide +kernel
 obtain⟨dx,hx⟩:=hD.self
 have cp:0<cnt t b l↔b≤t:=by
  constructor
  ·intro h
   unfold cnt at h
   split at h
   ·omega
   ·omega
  ·intro h
   exact ze5 ok.b0 h ok.l0
 refine .inl ⟨x,dx,d,zcp nm,"write",[nm,"0"],rfl,hx,zkg g,W.eq,fun z=>absurd z.symm hd1.1,fun _ _ a H1 s1 hA=>?_,fun z=>absurd (.inl rfl) (zbI z).2.1,fun z=>absurd z hd2.2.2.2.1,fun _ z=>absurd ⟨.inl rfl,rfl⟩ z⟩
 refine⟨x,a,d,n,fr,"write",nm,"0",rfl,hD.mono s1,hA,nl,l0,fun k=>absurd ⟨g,zlx⟩ k,(fun _ _ e=>by rw [hf] at e;cases e),fun _ _ t' b' l' e=>?_⟩
 rw [hf] at e
 cases e
 rw [zly]
 refine⟨fun z=>(by decide +kernel:("write":Str)≠"key") z,fun h bs H2 s2 B bl nb=>?_,fun h H2 s2=>qr _ _ ⟨fun z=>h (cp.mpr z),rfl,s1.trans s2⟩⟩
 have e:bs=List.replicate b.toNat 0:=zd5 B (zdz _) (by rw [List.length_replicate];exact bl) (by
  rw [nb]
  show _=j8 _ _
  rw [QH])
 subst e
 rw [zcq]
 exact qa _ _ ⟨cp.mp h,rfl,s1.trans s2⟩
end
theorem qt.frz {CD CF x d e:Addr}{n:Nat}{fr:Str→Option (Int×Int×Int)}{H:Hp}{kvs:List (Key×V)}{u:HO} (h:qt CD CF x d n fr H) (nd:d≠e) (he:H e=some (.dK kvs)):qt CD CF x d n fr (upd H e u):=by
 have up:∀{a o},H a=some o→(∀q,o≠.dK q)→(upd H e u) a=some o:=fun {a o} ha no=>by
  rw [upd_ne (fun z=>by rw [z,he] at ha;cases ha;exact no _ rfl)]
  exact ha
 obtain⟨⟨dx,h1⟩,⟨ks,h2,h3,h4,h5⟩,h6⟩:=h
 exact⟨⟨dx,up h1 (fun _ z=>nomatch z)⟩,⟨ks,by rw [upd_ne nd];exact h2,h3,h4,fun nm t b l z=>(h5 nm t b l z).imp fun p hp=>⟨hp.1,hp.2.imp fun dx h=>up h (fun _ z=>nomatch z)⟩⟩,h6⟩
noncomputable def Wh (t b:Int):Str×Str:=if b≤t then ("told",zeA b) else ("refused","other")
theorem zeB (k:Nat):∀n∈(List.range k).map fun(i:Nat)=>(i:Int),0≤n:=fun n hn=>by
 obtain⟨i,_,rfl⟩:=List.mem_map.mp hn
 omega
theorem zcZ (t b:Int):kj (Wh t b).1∧kj (Wh t b).2:=by
 unfold Wh
 split
 ·exact⟨ZX,zco (zeB _)⟩
 ·exact⟨yw,by unfold kj;decide +kernel⟩
theorem zeC (k:Nat):(List.range k).map (fun(i:Nat)=>V.str (txt ((0:Int)+(i:Int))))=(((List.range k).map fun(i:Nat)=>(i:Int)).map txt).map V.str:=by
 rw [List.map_map,List.map_map]
 refine List.map_congr_left fun i _=>?_
 simp
section
noncomputable def zeD (CD CF:Addr):Sp:=fun vs H Q _=>∃(x e d:Addr) (n:Nat) (fr:Str→Option (Int×Int×Int)) (kvs:List (Key×V)),vs=[.ref x,.ref e]∧qt CD CF x d n fr H∧d≠e∧H e=some (.dK kvs)∧(∀p∈kvs,∃s,p.1=Sum.inr s∧zK s∧∃t b l q,fr s=some (t,b,l)∧valV kvs (Sum.inr s)=some (.ref q)∧H q=some (.tup [.int t,.int b,.int l]))∧∀H',qw e H H'→Q (.bl true) H'
theorem zlz:(60:Int)<10 ^ 4000:=by decide +kernel
theorem jA:FnScope ["desk","frames","name","turns","bells","late","due"] ["desk","frames"] (defScope vC):=⟨rfl,rfl,rfl,by decide +kernel,rfl,by decide +kernel,by decide +kernel⟩
theorem zeE (ND:NoDig K) (D:Def K mg "_law_kept" vC ["desk","frames"]) (T:Txt K mg){S:Cs}{CD CF CO CN CT:Addr} (xT:XF K S CT 1) (jm:Fn P w K mg base 47 "_law_told" ["desk","order"] (zcU K S CD (VH K CD CF CO CN CT))):Fn P w K mg base 48 "_law_kept" ["desk","frames"] (zeD CD CF):=by
 refine D.fn jA (fun vs H Q E h=>?_) (fun f cdv A outer s H vs Q E hr h=>?_)
 ·obtain⟨x,e,d,n,fr,kvs,rfl,_⟩:=h
  rfl
 ·obtain⟨x,e,d,n,fr,kvs,rfl,hD,nde,he,hk,q⟩:=h
  have hu:=zfO hr
  refine Je (zp (zcC PassesOwn.never rfl (zeZ (pv 1)) (pg_name (i:=2) jA.nd rfl (Or.inl rfl))
    (zp (WS.mk (ps_asg (pe_dget (hu_of hr) (pv 1) (pv 2) (fun _ _=>rfl)) (pg_tup (n:=3) rfl (pgs_cons (pg_name (i:=3) jA.nd rfl (Or.inl rfl)) (pgs_cons (pg_name (i:=4) jA.nd rfl (Or.inl rfl)) (pgs_cons (pg_name (i:=5) jA.nd rfl (Or.inl rfl)) pgs_nil))))))
    (zp (qF (i:=6) jA.nd rfl (Or.inl rfl) (Ji (zc zq (zc zq zm zg) zg)))
    (zp (jc (jk Kp (WE.mk (pv 4)) (WE.mk (pv 3)) (nomark _))
     (zx (qF (i:=6) jA.nd rfl (Or.inl rfl) (Ji (zc zq (zc (Zm ix_list (xf (zc (QD PySem.F.plainAttrs_str PySem.F.slot_str_join PySem.F.type_str_join Xv zq (zc (WE.mk (Z2 (own:=["turn"]) (fr:=[]) (ix:=[]) rfl ⟨rfl,rfl,rfl,rfl,rfl,rfl⟩ (pi_range1 (by rfl) T.z_range (pa_cons (pv 4) pa_nil zf)) (fun _ _ _ _ _=>(pg_name (i:=0) (show (["turn"]:List Str).Nodup by decide +kernel) rfl (Or.inl rfl))) (fun _ _ _ _ _=>kW) (fun _ _ _ _ _=>(pe_callTy (yx ND) (by rfl) T.z_str Xn (pa_cons (pv 0) pa_nil zf))))) zm)) (zc zq zm zg) zu)) (yC call_int1 (by rfl) T.z_int Qu (zc (zd0 jd (WE.mk (pv 4)) (WE.mk pe_int) (nomark _)) zm)) (fun _ _=>rfl)) zm zy) zg))))
     zT)
    (zx (jc (jk (X4 hu) (vV jm (hr.mono (by decide)) (by rfl) (zc (WE.mk (pv 0)) (zc (zX op_add_str (zX op_add_str zq (WE.mk (pv 2))) zq) zm zW) zf)) (WE.mk (pv 6)) (nomark _))
     (zx (qd (WE.mk pe_bl)))
     zT))))))
   (zx (qd (WE.mk pe_bl)))) ?_
  refine⟨_,rfl,e,kvs,rfl,he,fun p hp=>(hk p hp).imp fun s hs=>hs.1,fun ob=>?_⟩
  have D1:=hD.frz (u:=.frz ob (.dK kvs)) nde he
  have e1:(upd H e (.frz ob (.dK kvs))) e=some (.frz ob (.dK kvs)):=upd_same
  have sx:qw e H (upd H e (.frz ob (.dK kvs))):=(qw.of (Same.refl _)).put
  have hk1:∀p∈kvs,∃s,p.1=Sum.inr s∧zK s∧∃t b l q,fr s=some (t,b,l)∧valV kvs (Sum.inr s)=some (.ref q)∧(upd H e (.frz ob (.dK kvs))) q=some (.tup [.int t,.int b,.int l]):=fun p hp=>by
   obtain⟨s,a1,a2,t,b,l,q,a3,a4,a5⟩:=hk p hp
   exact⟨s,a1,a2,t,b,l,q,a3,a4,by rw [upd_ne (fun z=>by rw [z,he] at a5;cases a5)];exact a5⟩
  generalize upd H e (.frz ob (.dK kvs))=H1 at D1 e1 sx hk1 ⊢
  refine zdU (d:=e) (o:=ob) (kvs:=kvs) (fun i σ H2=>∃v2 v3 v4 v5 v6:Option V,σ=[some (.ref x),some (.ref e),v2,v3,v4,v5,v6]∧Same H1 H2) ⟨none,none,none,none,none,rfl,Same.refl _⟩ (fun i σ H2 ⟨_,_,_,_,_,_,s2⟩=>s2 _ _ e1) ?_ ?_
  ·rintro i k v σ H2 hi ⟨v2,v3,v4,v5,v6,rfl,s2⟩
   obtain⟨nm,ek,gn,t,b,l,pq,hf,hv,hq⟩:=hk1 _ (List.mem_of_getElem? hi)
   have ek:k=Sum.inr nm:=ek
   subst ek
   have ok:=D1.ok nm t b l hf
   have b0:=ok.b0
   have b1:=ok.b1
   have dg:DGet H2 e (.str nm) (some (.ref pq)):=.inl ⟨kvs,Sum.inr nm,.inr ⟨ob,s2 _ _ e1⟩,rfl,hv.symm⟩
   refine⟨_,rfl,_,rfl,e,_,rfl,dg,pq,_,rfl,SqT.of (s2 _ _ hq),rfl,_,_,rfl,_,_,rfl,_,_,rfl,rfl,(by show 2≤sizeLine;decide),fun pd hpd=>?_⟩
   have s3:Same H1 (upd H2 pd (.tup [V.str "refused",V.str "other"])):=s2.trans (Same.new hpd)
   have h3:(upd H2 pd (.tup [V.str "refused",V.str "other"])) pd=some (.tup [V.str "refused",V.str "other"]):=upd_same
   generalize upd H2 pd (.tup [V.str "refused",V.str "other"])=H3 at s3 h3 ⊢
   dsimp only [gName]
   refine jh (fun σ' H'=>∃pd,σ'=[some (.ref x),some (.ref e),some (.str nm),some (.int t),some (.int b),some (.int l),some (.ref pd)]∧Same H1 H'∧H' pd=some (.tup [.str (Wh t b).1,.str (Wh t b).2])) ?_ (fun N hN=>?_)
   rotate_left
   ·refine⟨_,rfl,_,rfl,_,_,rfl,rfl,_,rfl,ifD (fun z=>?_) (fun z=>hN _ _ ⟨pd,rfl,s3,by unfold Wh;rw [if_neg z];exact h3⟩)⟩
    refine⟨rfl,_,rfl,b,rfl,by omega,by omega,fun acc hacc=>zaW (lo:=0) (n:=b.toNat) (fun(i:Nat)=>V.str (txt ((0:Int)+(i:Int)))) hacc (by rw [sizeLine_eq];omega) (fun i H6 R hi s6 hR=>⟨rfl,_,rfl,_,rfl,lgB (by omega) (Int.lt_of_le_of_lt (show (0:Int)+(i:Int)≤60 by omega) zlz),hR⟩) ?_⟩
    rw [zeC]
    have s4:Same H1 (upd H3 acc (.lst ((((List.range b.toNat).map fun(i:Nat)=>(i:Int)).map txt).map V.str))):=s3.trans (Same.new hacc)
    have h4:(upd H3 acc (.lst ((((List.range b.toNat).map fun(i:Nat)=>(i:Int)).map txt).map V.str))) acc=some (.lst ((((List.range b.toNat).map fun(i:Nat)=>(i:Int)).map txt).map V.str)):=upd_same
    generalize upd H3 acc (.lst ((((List.range b.toNat).map fun(i:Nat)=>(i:Int)).map txt).map V.str))=H4 at s4 h4 ⊢
    have nb:∀n∈(List.range b.toNat).map fun(i:Nat)=>(i:Int),0≤n∧n<10 ^ 500:=fun n hn=>by
     obtain⟨i,hi,rfl⟩:=List.mem_map.mp hn
     have:=List.mem_range.mp hi
     exact⟨by omega,Int.lt_of_lt_of_le (show (i:Int)<60 by omega) (by decide +kernel)⟩
    have nl:((List.range b.toNat).map fun(i:Nat)=>(i:Int)).length≤60:=by rw [List.length_map,List.length_range];omega
    have er:((List.range b.toNat).map fun(i:Nat)=>(i:Int))=[]↔b=0:=by
     rw [List.map_eq_nil_iff,List.range_eq_nil]
     omega
    unfold zeA at *
    have eg:zeA b=wQ ((List.range b.toNat).map fun(i:Nat)=>(i:Int)):=rfl
    generalize (List.range b.toNat).map (fun(i:Nat)=>(i:Int))=ns at h4 nb nl er eg
    refine⟨" ",acc,ns.map txt,rfl,rfl,SqL.of h4,?_,(by show 2≤sizeLine;decide),fun p2 hp2=>?_⟩
    ·have h1:=zcJ nb
     rw [bl1,List.length_map]
     omega
    have s5:Same H1 (upd H4 p2 (.lst [V.str (Txt.join " " (ns.map txt)),V.str "none"])):=s4.trans (Same.new hp2)
    have h5:(upd H4 p2 (.lst [V.str (Txt.join " " (ns.map txt)),V.str "none"])) p2=some (.lst [V.str (Txt.join " " (ns.map txt)),V.str "none"]):=upd_same
    generalize upd H4 p2 (.lst [V.str (Txt.join " " (ns.map txt)),V.str "none"])=H5 at s5 h5 ⊢
    have at2:atI [V.str (Txt.join " " (ns.map txt)),V.str "none"] (if decide (b=0)=true then 1 else 0)=some (V.str (zeA b)):=by
     rw [eg]
     unfold wQ
     by_cases hb:b=0
     ·rw [if_pos (decide_eq_true hb),if_pos (er.mpr hb)]
      rfl
     ·rw [if_neg (fun y=>hb (of_decide_eq_true y)),if_neg (fun y=>hb (er.mp y))]
      rfl
    refine⟨_,rfl,_,_,rfl,rfl,.inr ⟨_,rfl,p2,_,_,_,rfl,rfl,SqL.of h5,at2,(by show 2≤sizeLine;decide),fun p3 hp3=>hN _ _ ⟨p3,rfl,s5.trans (Same.new hp3),?_⟩⟩⟩
    unfold Wh
    rw [if_pos z]
    exact upd_same
   clear h3 hpd pd s3
   rintro σ' H4 ⟨pd,rfl,s4,h4⟩
   have D4:=D1.mono s4
   obtain⟨dx,hx⟩:=D4.self
   have l1:("write ":Str).length=6:=by decide +kernel
   have l2:(" 0":Str).length=2:=by decide +kernel
   have l3:=gn.le
   have fin:∀{p H'},Same H4 H'→H' p=some (.tup [.str (Wh t b).1,.str (Wh t b).2])→∃(a b':Addr) (i j:Str),V.ref p=.ref a∧V.ref pd=.ref b'∧H' a=some (.tup [.str i,.str j])∧H' b'=some (.tup [.str i,.str j])∧kj i∧kj j:=fun {p H'} s' hp=>⟨p,pd,_,_,rfl,rfl,hp,s' _ _ h4,(zcZ t b).1,(zcZ t b).2⟩
   refine⟨_,rfl,_,rfl,_,_,rfl,rfl,by rw [l1,sizeLine_eq];omega,_,_,rfl,rfl,by rw [len_app,l1,l2,sizeLine_eq];omega,x,dx,_,_,_,_,rfl,hx,xR (by decide +kernel),zgk D4 gn hf,fun v H5 hv=>?_,fun C H5 hc=>?_⟩
   ·obtain⟨z,rfl,s5⟩:=hv
    refine⟨_,rfl,fun p H6 s6 hp=>?_⟩
    obtain⟨a,b',i',j',f1,f2,f3,f4,f5,f6⟩:=fin (s5.trans s6) (p:=p) (by unfold Wh;rw [if_pos z];exact hp)
    exact⟨_,rfl,a,b',i',j',f1,f2,f3,f4,f5,f6,_,rfl,iteF ⟨_,_,_,_,_,rfl,s4.trans (s5.trans s6)⟩⟩
   ·obtain⟨z,rfl,s5⟩:=hc
    refine⟨CT,1,rfl,xT,fun p H6 s6 hp=>?_⟩
    obtain⟨a,b',i',j',f1,f2,f3,f4,f5,f6⟩:=fin (s5.trans s6) (p:=p) (by unfold Wh;rw [if_neg z];exact hp)
    exact⟨_,rfl,a,b',i',j',f1,f2,f3,f4,f5,f6,_,rfl,iteF ⟨_,_,_,_,_,rfl,s4.trans (s5.trans s6)⟩⟩
  ·rintro σ H2 ⟨v2,v3,v4,v5,v6,rfl,s2⟩
   exact q _ (fun c o hc nc=>s2 _ _ (sx c o hc nc))
end
theorem zkh {t R:TS}{D:Ends}{σ:St}{H:Hp} (Pre:St→Hp→Prop) (tail:∀σ H,Pre σ H→R D σ H) (h:∀N:St→Hp→Prop,(∀σ H,Pre σ H→N σ H)→t { D with nx:=N } σ H):tSeq t R D σ H:=h (fun σ H=>R D σ H) tail
theorem zeF {H H0:Hp}{x dx:Addr}{o1 o2:HO} (hx:H x=none) (hdx:H dx=none) (sx:qw x (upd (upd H dx o1) x o2) H0):Same H H0:=fun c o hc=>by
 have n1:c≠x:=fun e=>by rw [e,hx] at hc;cases hc
 have n2:c≠dx:=fun e=>by rw [e,hdx] at hc;cases hc
 exact sx c o (by rw [upd_ne n1,upd_ne n2];exact hc) n1
theorem zeG {kvs:List (Key×V)}{k:Key}{v:V}{q:Key×V} (h:q∈putK kvs k v):q.1=k∨∃q'∈kvs,q'.1=q.1:=by
 unfold putK at h
 split at h
 ·obtain⟨q',h1,h2⟩:=List.mem_map.mp h
  by_cases z:q'.1=k
  ·rw [if_pos z] at h2
   rw [← h2]
   exact .inl z
  ·rw [if_neg z] at h2
   exact .inr ⟨q',h1,by rw [h2]⟩
 ·rcases List.mem_append.mp h with z | z
  ·exact .inr ⟨q,z,rfl⟩
  ·rw [List.mem_singleton.mp z]
   exact .inl rfl
theorem FrD.put {fr:Str→Option (Int×Int×Int)}{e p:Addr}{H:Hp}{kvs:List (Key×V)}{nm:Str}{t b l:Int} (h:FrD fr e H) (he:H e=some (.dK kvs)) (hl:kvs.length<40) (g:zK nm) (hp:H p=some (.tup [.int t,.int b,.int l])):FrD (vU fr nm (t,b,l)) e (upd H e (.dK (putK kvs (Sum.inr nm) (.ref p)))):=by
 obtain⟨ks,h1,h2,h3,h4,h5⟩:=h.d
 rw [he] at h1
 cases h1
 have up:∀{q xs},H q=some (.tup xs)→(upd H e (.dK (putK kvs (Sum.inr nm) (.ref p)))) q=some (.tup xs):=fun {q xs} hq=>by
  rw [upd_ne (fun z=>by rw [z,he] at hq;cases hq)]
  exact hq
 refine⟨_,upd_same,by have:=XN kvs (Sum.inr nm) (V.ref p);omega,fun q hq=>?_,fun m z=>?_,fun m t' b' l' z=>?_⟩
 ·rcases zeG hq with z | ⟨q',hq',z⟩
  ·exact⟨nm,z,g⟩
  ·obtain⟨s,a,b⟩:=h3 q' hq'
   exact⟨s,by rw [← z];exact a,b⟩
 ·unfold vU at z
  rw [valV_put]
  split at z
  ·cases z
  ·rename_i y
   rw [if_neg (fun k=>y (Sum.inr.inj k))]
   exact h4 m z
 ·unfold vU at z
  rw [valV_put]
  split at z
  ·rename_i y
   cases z
   rw [if_pos (by rw [y])]
   exact⟨p,rfl,up hp⟩
  ·rename_i y
   rw [if_neg (fun k=>y (Sum.inr.inj k))]
   obtain⟨q,hq1,hq2⟩:=h5 m t' b' l' z
   exact⟨q,hq1,up hq2⟩
theorem FrD.monoX {fr:Str→Option (Int×Int×Int)}{e d:Addr} {H H':Hp}{ks:List (Key×V)} (h:FrD fr e H) (s:qw d H H') (hd:H d=some (.dK ks)) (ne:d≠e):FrD fr e H':=by
 obtain⟨kvs,h1,h2,h3,h4,h5⟩:=h.d
 exact⟨kvs,s _ _ h1 (Ne.symm ne),h2,h3,h4,fun nm t b l z=>(h5 nm t b l z).imp fun p hp=>⟨hp.1,s _ _ hp.2 (fun y=>by rw [y,hd] at hp;cases hp.2)⟩⟩
theorem qt.keepE {CD CF x d e:Addr}{n:Nat}{fr:Str→Option (Int×Int×Int)} {H H':Hp}{ks:List (Key×V)} (h:qt CD CF x d n fr H) (s:qw e H H') (he:H e=some (.dK ks)) (ne:d≠e):qt CD CF x d n fr H':=by
 have up:∀{a o},H a=some o→(∀q,o≠.dK q)→H' a=some o:=fun {a o} ha no=>s _ _ ha (fun z=>by rw [z,he] at ha;cases ha;exact no _ rfl)
 obtain⟨⟨dx,h1⟩,⟨kvs,h2,h3,h4,h5⟩,h6⟩:=h
 exact⟨⟨dx,up h1 (fun _ z=>nomatch z)⟩,⟨kvs,s _ _ h2 ne,h3,h4,fun nm t b l z=>(h5 nm t b l z).imp fun p hp=>⟨hp.1,hp.2.imp fun dx h=>up h (fun _ z=>nomatch z)⟩⟩,h6⟩
structure Bk (CD CF x d e:Addr) (n m:Nat) (fr:Str→Option (Int×Int×Int)) (H:Hp):Prop where
 desk:qt CD CF x d n fr H
 ne:d≠e
 fd:FrD fr e H
 bd:∃kvs,H e=some (.dK kvs)∧kvs.length≤m
 so:∃nm z,fr nm=some z
 nb:fr "nobody"=none
theorem Bk.mono {CD CF x d e:Addr}{n m:Nat}{fr:Str→Option (Int×Int×Int)} {H H':Hp} (s:Same H H') (h:Bk CD CF x d e n m fr H):Bk CD CF x d e n m fr H':=
 ⟨h.desk.mono s,h.ne,h.fd.mono s,h.bd.imp fun _ k=>⟨s _ _ k.1,k.2⟩,h.so,h.nb⟩
theorem zbK (fr:Str→Option (Int×Int×Int)) (nm:Str) (z:Int×Int×Int):vU (vU fr nm z) nm z=vU fr nm z:=by
 funext m
 unfold vU
 split <;> rfl
noncomputable def Dw (K:W.Frag) (fr:Str→Option (Int×Int×Int)) (H:Hp) (v:V) (i j:Str):Prop:=
 (Zv K H v∧i="refused"∧j="NoOrder")∨∃(o w0:Str) (ws:List Str),v=.str o∧Words o w0 ws∧Sm 500000 50 o∧NB o∧zer w0 ws fr (some (i,j))
theorem kd0:kdN 0="NoName":=by decide +kernel
theorem kd2:kdN 2="NoOrder":=by decide +kernel
theorem Dw.split {K:PySem.W.Frag}{S:Cs}{CD CF CO CN CT x d:Addr}{fr:Str→Option (Int×Int×Int)}{H:Hp}{v:V}{i j:Str} (F2:XF K S CO 2) (F0:XF K S CN 0) (h:Dw K fr H v i j) :
  (i="refused"∧∃(C':Addr) (k:Fin 5),XF K S C' k∧kdN k=j∧∀n H',Same H H'→n<1000→qt CD CF x d n fr H'→zcn (VH K CD CF CO CN CT) [.ref x,v] H' (fun _ _=>False) (fun C H2=>C=.ref C'∧Same H' H2)) ∨
  (i="told"∧∃(o w1 a b c:Str),v=.str o∧Words o "frame" [w1,a,b,c]∧Sm 500000 50 o∧jQ w1 a b c∧w1≠"nobody"∧j=zcm (zA a) (zA b) (zA c)):=by
 rcases h with ⟨nt,rfl,rfl⟩ | ⟨o,w0,ws,rfl,W,so,nb,du⟩
 ·exact .inl ⟨rfl,CO,2,F2,kd2,fun n H' s _ _=>zbJ (nt.mono s)⟩
 rcases du with ⟨io,e⟩ | ⟨io,du⟩
 ·cases e
  exact .inl ⟨rfl,CO,2,F2,kd2,fun n H' _ hn hD=>zfv hD hn W so io⟩
 rcases du with ⟨rfl,w1,a,b,c,rfl,g,e⟩ | ⟨nf,nc,⟨w1,r,rfl,gn,re,hf⟩,e⟩ | e
 ·cases e
  exact .inr ⟨rfl,o,w1,a,b,c,rfl,W,so,g,fun z=>nb [a,b,c] (by rw [z] at W;exact W),rfl⟩
 ·cases e
  exact .inl ⟨rfl,CN,0,F0,kd0,fun n H' _ _ hD=>zcY hD W so nf nc gn re hf⟩
 ·cases e
theorem Jc {x:Str} (h:1≤x.length∧x.length≤60∧(∀c∈cpl x,48≤c∧c≤57)∧((cpl x)[0]?=some 48→cpl x=[48])):Num 60 x:=⟨h.1,h.2.1,h.2.2.1,h.2.2.2⟩
theorem zki:jQ "ann" "4" "2" "1":=⟨zbv,Jc (by decide +kernel),⟨Jc (by decide +kernel),by decide +kernel⟩,Jc (by decide +kernel)⟩
theorem zeH:zK "c":=⟨by decide +kernel,by decide +kernel,by decide +kernel⟩
theorem zkj:jQ "c" "5" "1" "0":=⟨zeH,Jc (by decide +kernel),⟨Jc (by decide +kernel),by decide +kernel⟩,Jc (by decide +kernel)⟩
theorem zgl:Words "frame ann 4 2 1" "frame" ["ann","4","2","1"]:=by
 have hw:∀x∈(["frame","ann","4","2","1"]:List Str),Z5 x:=by unfold Z5;decide +kernel
 have e:Txt.join sp ["frame","ann","4","2","1"]="frame ann 4 2 1":=by decide +kernel
 exact⟨by rw [← e];exact yz (by simp) hw,hw,e⟩
theorem zgm:Words "frame c 5 1 0" "frame" ["c","5","1","0"]:=by
 have hw:∀x∈(["frame","c","5","1","0"]:List Str),Z5 x:=by unfold Z5;decide +kernel
 have e:Txt.join sp ["frame","c","5","1","0"]="frame c 5 1 0":=by decide +kernel
 exact⟨by rw [← e];exact yz (by simp) hw,hw,e⟩
theorem zgn:Words "write nobody 3" "write" ["nobody","3"]:=by
 have hw:∀x∈(["write","nobody","3"]:List Str),Z5 x:=by unfold Z5;decide +kernel
 have e:Txt.join sp ["write","nobody","3"]="write nobody 3":=by decide +kernel
 exact⟨by rw [← e];exact yz (by simp) hw,hw,e⟩
theorem zbL:zK "nobody":=⟨by decide +kernel,by decide +kernel,by decide +kernel⟩
theorem zgo {x:Str} (h:x.length≤50):Sm 500000 50 x:=⟨by omega,by unfold blk;have:=List.count_le_length (a:=32) (l:=cpl x);rw [zF] at this;omega,fun z=>absurd z (by decide)⟩
theorem zlA:zcm (zA "4") (zA "2") (zA "1")="messages 3":=by decide +kernel
theorem zlB:zcm (zA "5") (zA "1") (zA "0")="messages 5":=by decide +kernel
theorem zkk:Rest "write" ["3"]:=(zaP (.inl rfl)).mpr ⟨"3",rfl,by decide +kernel,by decide +kernel,by unfold PySem.NumText.AllDigits;decide +kernel,by decide +kernel⟩
noncomputable def fr0:Str→Option (Int×Int×Int):=fun _=>none
noncomputable def zkl:Str→Option (Int×Int×Int):=vU fr0 "ann" (zA "4",zA "2",zA "1")
noncomputable def zdA:Str→Option (Int×Int×Int):=vU zkl "c" (zA "5",zA "1",zA "0")
theorem zgp:zdA "nobody"=none:=by decide +kernel
theorem zkm (ns:List Int):(zd3 ns none (some 30)).length≤30:=by
 unfold zd3
 rw [List.length_take]
 have e2:HT.sIx ns.length ns.length (some ((30:Nat):Int))=min 30 ns.length:=HT.sIx_nat ..
 have e2:HT.sIx ns.length ns.length (some 30)=min 30 ns.length:=e2
 rw [e2]
 omega
section
theorem QV:FnScope ["script","desk","frames","cell","order","due","words","name"] ["script"] (defScope Vh):=⟨rfl,rfl,rfl,by decide +kernel,rfl,by decide +kernel,by decide +kernel⟩
theorem ok_law (hP:P.given.tree=none){f:Addr}{fd:FuncData} (F:Fun K "law" "law" Vh f fd) (T:Txt K mg) (Wi:Def K mg "choose" ZP ["n","k"]) (zbM:Def K mg "top_of" Vf ["k","number"]) (JQ:Def K mg "top_from" wH ["start","k","number"]) (QW:Def K mg "above_top" vo ["k","number"]) (Qi:Def K mg "rounded_up" xg ["number","divisor"]) (zbN:Def K mg "box_of" Vg ["row","late"]) (JR:Def K mg "bell_row" wI ["box","late"]) (VJ:Def K mg "heard_box" Z6 ["reading","late"]) (QX:Def K mg "box_count" vp ["turns","bells","late"]) (wX:Def K mg "greatest_part" je ["turns","bells","late"]) (km:Def K mg "shortest_frame" vq ["bells","late","many"]) (Qj:Def K mg "best_bells" Zn ["turns","late","most"]) (JS:Def K mg "cheapest" QF ["many","late","turn_cost","bell_cost","most"]) (X5:Def K mg "box_number" Zo ["box"]) (kI:Def K mg "box_of_message" qR ["message","bells"]) (Vq:Def K mg "written" yD ["message","turns","bells","late"]) (zcr:Def K mg "read" zao ["reading","turns","bells","late"]) (Jl:Def K mg "keyed_count" yE ["turns","bells","late"]) (zaQ:Def K mg "keyed" KD ["message","turns","bells","late"]) (Vr:Def K mg "unkeyed" Jz ["reading","turns","bells","late"]) (Qv:Def K mg "refuse_silent" vW ["turns","bells"]) (zeI:Def K mg "rung" zap ["messages","turns","bells","late"]) (Jm:Def K mg "by_messages" yF ["reading","turns","late"]) (Jo:Def K mg "note_number" yG ["note"]) (zaa:Def K mg "note_of" JB ["number"]) (zc0:Def K mg "parts" KH ["number","base"]) (Zh:Def K mg "number_of_parts" xQ ["figures","base"]) (zcs:Def K mg "sent" zaq ["note","turns","bells","late"]) (Wj:Def K mg "received" QG ["reading","turns","bells","late"]) (vf:Def K mg "messages_ahead_of_end" qY ["reading","turns","bells","late"]) (Qk:Def K mg "is_made_of" xj ["word","signs","most"]) (Vs:Def K mg "name_in" yH ["word"]) (Ql:Def K mg "figures_in" xm ["word","most"]) (QZ:Def K mg "number_in" vz ["word"]) (Qm:Def K mg "message_in" xq ["word"]) (JT:Def K mg "bells_in" wJ ["word"]) (JV:Def K mg "turns_in" wK ["words"]) (Zx:Def K mg "number_told" jL ["number"]) (Qn:Def K mg "turns_told" xr ["turns"]) (JW:Def K mg "count_of" wL ["frame"]) (Qo:Def K mg "note_heard" Zq ["reading","frame"]) (Zy:Def K mg "choice_told" jM ["words"]) (wY:Def K mg "cheapest_told" jf ["words"]) (Qp:Def K mg "_law_drawn" xu ["cell","k"]) (Q0:Def K mg "_law_sign" vA ["number"]) (Q3:Def K mg "_law_name" vB ["number"]) (Zz:Def K mg "_law_number" jN ["number"]) (yP:Def K mg "_law_message" jF ["number"]) (Qq:Def K mg "_law_turns" xx ["number"]) (yQ:Def K mg "_law_written" jG ["cell"]) (Qs:Def K mg "_law_order" xF ["cell"]) (yR:Def K mg "_law_is_name" jH ["word"]) (kJ:Def K mg "_law_is_number" qT ["word","most"]) (JX:Def K mg "_law_fit" wM ["words","form"]) (Qt:Def K mg "_law_heard" xG ["words"]) (wZ:Def K mg "_law_is_order" jg ["words"]) (JZ:Def K mg "_law_due" wN ["order","frames"]) (Q4:Def K mg "_law_kept" vC ["desk","frames"]) (Q5:Def K mg "_law_kind" vD ["e"]) (Q6:Def K mg "_law_told" vG ["desk","order"]){zQ:Addr} (jU:mg "BellError"=some (.ref zQ)){jz:Addr} (Qh:mg "NoRow"=some (.ref jz)){zY:Addr} (jT:mg "NoReading"=some (.ref zY)){zr:Addr} (qp:mg "TooGreat"=some (.ref zr)){qJ:Addr} (kh:mg "TooMany"=some (.ref qJ)){qN:Addr} (yO:mg "NoNote"=some (.ref qN)){zj:Addr} (zP:mg "NoOrder"=some (.ref zj)){zE:Addr} (xJ:mg "NoName"=some (.ref zE)){zM:Addr} (Qa:mg "Frame"=some (.ref zM)){zB:Addr} (Wk:mg "Desk"=some (.ref zB)){ZS:Tok} (vX:mg "LETTERS"=some (.str "abcdefghijklmnopqrstuvwxyz" ZS)){jO:Tok} (qL:mg "MOST_LETTERS"=some (.int 8 jO)){ZV:Tok} (vY:mg "FIGURES"=some (.str "0123456789" ZV)){jP:Tok} (qM:mg "MOST_FIGURES"=some (.int 60 jP)){z6:Tok} (zN:mg "MOST_FIGURES_OF_MESSAGE"=some (.int 3000 z6)){vJ:Tok} (jx:mg "MOST_BELLS"=some (.int 60 vJ)) (jV:PySem.W.excIn K zQ bmV "ValueError.__new__"=true) (Km:PySem.W.excIn K jz bmV "ValueError.__new__"=true) (Zi:PySem.W.excIn K zY bmV "ValueError.__new__"=true) (jb:PySem.W.excIn K zr bmV "ValueError.__new__"=true) (zV:PySem.W.excIn K zj bmV "ValueError.__new__"=true) (yJ:PySem.W.excIn K zE bmV "ValueError.__new__"=true) (X6:PySem.W.excIn K qN bmV "ValueError.__new__"=true) (ZZ:XF K ⟨zE,zr,zj,qN,jz,zY,qJ,zQ⟩ zE 0) (xT:XF K ⟨zE,zr,zj,qN,jz,zY,qJ,zQ⟩ zr 1) (Z0:XF K ⟨zE,zr,zj,qN,jz,zY,qJ,zQ⟩ zj 2) (O:Own K zM zB) (ND:NoDig K):FnOk P w K mg base CX0 50 f fd ["script"] (spLaw K):=by
 have hT:DkT K zB zM:=⟨O.c_Desk,O.c_Frame,O.n_Frame_turns,O.n_Frame_bells,O.n_Frame_late,O.n_Desk_frames⟩
 have xH:Fn P w K mg base 1 "choose" ["n","k"] QB:=zdk Wi T
 have wV:Fn P w K mg base 1 "greatest_part" ["turns","bells","late"] zau:=Vk wX
 have qU:Fn P w K mg base 2 "box_count" ["turns","bells","late"] XD:=zaw QX T wV xH
 have zab:=Wz (w:=w) (base:=base) Qi hP
 have QJ:=zat QW T zab
 have JD:=zbc JQ xH zab hP
 have vI:=JC kI T qp jb QJ JD xH
 have JK:=zbh Vq T qp jb qU vI (zbe JR T)
 have K4:FnE P w K mg base 41 "keyed" ["message","turns","bells","late"] (fun _ _ _ _=>False):=wR zaQ
 have zaE:FnE P w K mg base 3 "read" ["reading","turns","bells","late"] (fun _ _ _ _=>False):=wR zcr
 have JL:FnE P w K mg base 4 "unkeyed" ["reading","turns","bells","late"] (fun _ _ _ _=>False):=wR Vr
 have zaG:FnE P w K mg base 44 "sent" ["note","turns","bells","late"] (fun _ _ _ _=>False):=wR zcs
 have Zu:FnE P w K mg base 44 "note_heard" ["reading","frame"] (fun _ _ _ _=>False):=wR Qo
 have JM:Fn P w K mg base 41 "cheapest" ["many","late","turn_cost","bell_cost","most"] (fun _ _ _ _=>False):=zb5 (wR JS)
 have vZ:Fn P w K mg base 41 "shortest_frame" ["bells","late","many"] (fun _ _ _ _=>False):=zb5 (wR km)
 have Qc:Fn P w K mg base 41 "best_bells" ["turns","late","most"] (fun _ _ _ _=>False):=zb5 (wR Qj)
 have j4:Fn P w K mg base 1 "is_made_of" ["word","signs","most"] zay:=ze6 Qk T
 have qD:=zcb Vs T zP zV vX qL j4
 have jJ:=WM ND Ql T zP zV vY j4
 have zG:=zaA QZ T qM jJ
 have qx:=WQ Qm T zN jJ
 have qG:=zbk JT T zP zV jx zG
 have QK:=zbm JV T zP zV zG
 have qH:Fn P w K mg base 1 "number_told" ["number"] Ja:=KR ND Zx T
 have jy:Fn P w K mg base 1 "turns_told" ["turns"] (Ze K):=WX ND Qn T
 have JH:=zbr JW hT qU
 have v8:=Vm ND wY zG qx qG JM
 have yK:=K7 Zy T zP zV zG qx qG qH vZ Qc v8
 obtain⟨f1,⟨fd1,F1,b1⟩,l1⟩:=O.d_Frame_init
 obtain⟨f2,⟨fd2,F2,b2⟩,l2⟩:=O.d_Desk_init
 obtain⟨f3,⟨fd3,F3,b3⟩,l3⟩:=O.d_Desk_told
 obtain⟨f4,⟨fd4,F4,b4⟩,l4⟩:=O.d_Desk_keep
 obtain⟨f5,⟨fd5,F5,b5⟩,l5⟩:=O.d_Desk_ring
 obtain⟨f6,⟨fd6,F6,b6⟩,l6⟩:=O.d_Desk_listen
 obtain⟨f7,⟨fd7,F7,b7⟩,l7⟩:=O.d_Desk_send_note
 obtain⟨f8,⟨fd8,F8,b8⟩,l8⟩:=O.d_Desk_kept
 have K3:MkX CX0 P w K mg base 1 zM ["self","turns","bells","late"] (KY zM):=⟨f1,fd1,zdq F1 hT,l1,b1⟩
 have zfx:MkX CX0 P w K mg base 1 zB ["self"] (zbp zB zM):=⟨f2,fd2,zdr F2 hT,l2,b2⟩
 have yr:MtE P w K mg base 1 zB "kept" ["self","name"] (KZ zB zM zE):=⟨f8,fd8,ze8 F8 hT xJ yJ,hT.cd,l8,b8⟩
 have zaH:MtE P w K mg base 45 zB "keep" ["self","words"] (zce zB zM zj):=⟨f4,fd4,(ze9 ND F4 hT Qa qD zG qG K3 JH).mono (by decide),hT.cd,l4,b4⟩
 have zaI:MtE P w K mg base 45 zB "ring" ["self","words"] (zcf zB zM zj zE zr):=⟨f5,fd5,zfb F5 hT qD qx yr JK K4 jy,hT.cd,l5,b5⟩
 have Vo:MtE P w K mg base 45 zB "listen" ["self","words"] (K5 zB zM zj zE):=⟨f6,fd6,zds F6 hT qD QK yr zaE JL qH Zu,hT.cd,l6,b6⟩
 have Qd:MtE P w K mg base 45 zB "send_note" ["self","words"] (zaF zB zM zj zE):=⟨f7,fd7,zbs F7 qD yr zaG jy,hT.cd,l7,b7⟩
 have zaN:MtE P w K mg base 46 zB "told" ["self","order"] (VH K zB zM zj zE zr):=⟨f3,fd3,zfc F3 T hT zP zV zaH zaI Vo Qd yK,hT.cd,l3,b3⟩
 have zU:Fn P w K mg base 1 "_law_drawn" ["cell","k"] ze2:=zj1 Qp
 have QR:=zfe (P:=P) (w:=w) (base:=base) Q0 T
 have QQ:=zec (P:=P) (w:=w) (base:=base) Q3 T
 have jK:=zcg (P:=P) (w:=w) (base:=base) ND Zz T
 have yL:=zbw yP T jK
 have Qf:=zdu (P:=P) (w:=w) (base:=base) ND Qq T
 have yM:=zbA yQ T zU jK yL QQ Qf
 have zaR:=zdw Qs T zU yM QR
 have yN:=zdx (P:=P) (w:=w) (base:=base) yR T
 have v9:=zek (P:=P) (w:=w) (base:=base) kJ T
 have jR:=zgd ND JX T v9
 have Qg:=zem ND Qt T jR
 have wW:=zep wZ T yN jR Qg
 have zct:=zfr ND JZ T wW qU
 have QT:=zfs (P:=P) (w:=w) (base:=base) (zQ:=zQ) Q5 T xJ qp jT yO Qh zP kh
 have jm:=zes Q6 T rfl jU jV zaN QT
 have VL:=zeE ND Q4 T xT jm
 refine F.ok QV (fun vs H Q E h=>?_) (fun cdv A outer s H vs Q E hr h=>?_)
 ·obtain⟨a,ns,rfl,_⟩:=h
  rfl
 ·obtain⟨a,ns,rfl,hS,hlen,q⟩:=h
  have hu:=zfO hr
  refine Je (zp (qF (i:=1) QV.nd rfl (Or.inl rfl) (WE.mk (zfW zfx (hr.mono (by decide)) (by rfl) Wk)))
   (zp (qF (i:=2) QV.nd rfl (Or.inl rfl) (zd2 (Xz zq (Ji (zc (WE.mk pe_int) (zc (WE.mk pe_int) (zc (WE.mk pe_int) zm zg) zg) zg)) (Xz zq (Ji (zc (WE.mk pe_int) (zc (WE.mk pe_int) (zc (WE.mk pe_int) zm zg) zg) zg)) zd1)) rfl rfl (fun z=>nomatch z) (by decide)))
   (zp (jc (jk (X4 hu) (vV jm (hr.mono (by decide)) (by rfl) (zc (WE.mk (pv 1)) (zc zq zm zg) zf)) (Ji (zc zq (zc zq zm zg) zg)) (nomark _))
    (zx (qd (WE.mk pe_bl)))
    zT)
   (zp (jc (jk (X4 hu) (vV jm (hr.mono (by decide)) (by rfl) (zc (WE.mk (pv 1)) (zc zq zm zg) zf)) (Ji (zc zq (zc zq zm zg) zg)) (nomark _))
    (zx (qd (WE.mk pe_bl)))
    zT)
   (zp (zcC PassesOwn.never rfl (pi_list (pe_slice sl_list (pv 0) po_none (po_some pe_int))) (pg_name (i:=3) QV.nd rfl (Or.inl rfl))
    (zp (qF (i:=4) QV.nd rfl (Or.inl rfl) (vV zaR (hr.mono (by decide)) (by rfl) (zc (WE.mk (pv 3)) zm zf)))
    (zp (qF (i:=5) QV.nd rfl (Or.inl rfl) (vV zct (hr.mono (by decide)) (by rfl) (zc (WE.mk (pv 4)) (zc (WE.mk (pv 2)) zm zf) zf)))
    (zx (jc (jk op_notN (WE.mk (pv 5)) (WE.mk pe_non) (nomark _))
     (zp (jc (WT.mk (pw_or (pt_cmpR (X4 hu) (qm jm (hr.mono (by decide)) (by rfl) (pa_cons (pv 1) (pa_cons (pv 4) pa_nil zf) zf)) (pv 5) (nomark _)) (pw_or1 (pt_cmpR (X4 hu) (qm jm (hr.mono (by decide)) (by rfl) (pa_cons (pv 1) (pa_cons (pv 4) pa_nil zf) zf)) (pv 5) (nomark _)))).pt)
      (zx (qd (WE.mk pe_bl)))
      zT)
     (zp (jc (jk op_eq (Zm ix_tup (WE.mk (pv 5)) (WE.mk pe_int) (fun _ _=>rfl)) zq (nomark _))
      (zp (qF (i:=6) QV.nd rfl (Or.inl rfl) (QD PySem.F.plainAttrs_str PySem.F.slot_str_split PySem.F.type_str_split ZM (WE.mk (pv 4)) (zc zq zm zg)))
      (zx (WS.mk (ps_dput (hu_of hr) (pv 2) (pe_ix ix_list (pv 6) pe_int (fun _ _=>rfl)) (pe_tup (pa_cons (pe_callTy (qX ND) (by rfl) T.z_int Qu (pa_cons (pe_ix ix_list (pv 6) pe_int (fun _ _=>rfl)) pa_nil zy)) (pa_cons (pe_callTy (qX ND) (by rfl) T.z_int Qu (pa_cons (pe_ix ix_list (pv 6) pe_int (fun _ _=>rfl)) pa_nil zy)) (pa_cons (pe_callTy (qX ND) (by rfl) T.z_int Qu (pa_cons (pe_ix ix_list (pv 6) pe_int (fun _ _=>rfl)) pa_nil zy)) pa_nil zu) zu) zu)) rfl))))
      zT)
     (zp (qF (i:=7) QV.nd rfl (Or.inl rfl) (Zm ix_list (yj (Wy rfl) (by rfl) T.z_sorted zaT (zc (WE.mk (pv 2)) zm zf)) (zX zR (vV zU (hr.mono (by decide)) (by rfl) (zc (WE.mk (pv 3)) (zc (WE.mk pe_int) zm zg) zf)) (yj call_lenD (by rfl) T.z_len j7 (zc (WE.mk (pv 2)) zm zf))) (fun _ _=>rfl)))
     (zx (jc (WT.mk (pt_not (pt_val (qm VL (hr.mono (by decide)) (by rfl) (pa_cons (pv 1) (pa_cons (pe_disp (pps_cons (pv 7) (pe_dget (hu_of hr) (pv 2) (pv 7) (fun _ _=>rfl)) pps_nil) rfl rfl (fun z=>nomatch z) (by decide)) pa_nil) zf)))))
      (zx (qd (WE.mk pe_bl)))
      zT)))))
     zT)))))
   (zx (qd (WE.mk (pe_and (qm VL (hr.mono (by decide)) (by rfl) (pa_cons (pv 1) (pa_cons (pv 2) pa_nil zf) zf)) (pe_one (pe_cmpR (zft hu) (qm jm (hr.mono (by decide)) (by rfl) (pa_cons (pv 1) (pa_cons pe_str pa_nil zg) zf)) (pe_tup (pa_cons pe_str (pa_cons pe_str pa_nil zg) zg)) (nomark _)))))))))))) ?_
  refine fun x y hx hy ne=>⟨x,y,rfl,upd_same,fun d H1 sx hd hD=>⟨rfl,?_⟩⟩
  have s1:=zeF hx hy sx
  refine fun e he=>⟨(by show 3≤sizeLine;decide),fun p1 hp1=>⟨(by show 3≤sizeLine;decide),fun p2 hp2=>?_⟩⟩
  have eD:(upd H1 e (.dK [])) e=some (.dK []):=upd_same
  have sD:Same H1 (upd H1 e (.dK [])):=Same.new he
  obtain⟨kd,hkd,_⟩:=hD.dict
  have nde:d≠e:=fun z=>by rw [z,he] at hkd;cases hkd
  have hD:=hD.mono sD
  generalize upd H1 e (.dK [])=H2 at eD sD hD hp1 hp2 ⊢
  have e1:(upd H2 p1 (.tup [V.int 4,V.int 2,V.int 1])) p1=some (.tup [V.int 4,V.int 2,V.int 1]):=upd_same
  have t1:Same H2 (upd H2 p1 (.tup [V.int 4,V.int 2,V.int 1])):=Same.new hp1
  generalize upd H2 p1 (.tup [V.int 4,V.int 2,V.int 1])=H3 at e1 t1 hp2 ⊢
  have e2:(upd H3 p2 (.tup [V.int 5,V.int 1,V.int 0])) p2=some (.tup [V.int 5,V.int 1,V.int 0]):=upd_same
  have t2:Same H3 (upd H3 p2 (.tup [V.int 5,V.int 1,V.int 0])):=Same.new hp2
  generalize upd H3 p2 (.tup [V.int 5,V.int 1,V.int 0])=H4 at e2 t2 ⊢
  have e1:=t2 _ _ e1
  have eD:=t2 _ _ (t1 _ _ eD)
  have hD:=(hD.mono t1).mono t2
  have s4:Same H H4:=((s1.trans sD).trans t1).trans t2
  refine⟨eD,[(Sum.inr "ann",V.ref p1),(Sum.inr "c",V.ref p2)],rfl,(by show 2≤15;decide),?_⟩
  have F0:FrD fr0 e H4:=⟨[],eD,by decide,(fun _ z=>nomatch z),(fun _ _=>rfl),fun _ _ _ _ z=>nomatch z⟩
  have F1:FrD zkl e (upd H4 e (.dK (putK [] (Sum.inr "ann") (V.ref p1)))):=F0.put eD (by decide) zbv e1
  have e2':(upd H4 e (.dK (putK [] (Sum.inr "ann") (V.ref p1)))) p2=some (.tup [V.int 5,V.int 1,V.int 0]):=by
   rw [upd_ne (fun z=>by rw [z,eD] at e2;cases e2)]
   exact e2
  have F2:FrD zdA e (upd (upd H4 e (.dK (putK [] (Sum.inr "ann") (V.ref p1)))) e (.dK (putK (putK [] (Sum.inr "ann") (V.ref p1)) (Sum.inr "c") (V.ref p2)))):=F1.put upd_same (Nat.lt_of_le_of_lt (XN ..) (by decide)) zeH e2'
  rw [upd_upd] at F2
  have hD5:qt zB zM x d 0 fr0 (upd H4 e (.dK (mergeK [] [(Sum.inr "ann",V.ref p1),(Sum.inr "c",V.ref p2)]))):=qt.frz hD nde eD
  have F2:FrD zdA e (upd H4 e (.dK (mergeK [] [(Sum.inr "ann",V.ref p1),(Sum.inr "c",V.ref p2)]))):=F2
  have hb5:∃kvs,(upd H4 e (.dK (mergeK [] [(Sum.inr "ann",V.ref p1),(Sum.inr "c",V.ref p2)]))) e=some (.dK kvs)∧kvs.length≤2:=⟨_,upd_same,length_mergeK ..⟩
  have hS5:SqL K (upd H4 e (.dK (mergeK [] [(Sum.inr "ann",V.ref p1),(Sum.inr "c",V.ref p2)]))) a (ns.map V.int):=qw.seq eD ((qw.of (Same.refl _)).put) (s4.seq hS)
  generalize upd H4 e (.dK (mergeK [] [(Sum.inr "ann",V.ref p1),(Sum.inr "c",V.ref p2)]))=H5 at F2 hD5 hb5 hS5 ⊢
  clear F0 F1 e1 e2 e2' eD sD t1 t2 s4 hD hp1 hp2 he hd sx hkd
  have w1:("told":Str)="told":=rfl
  obtain⟨dx5,hx5⟩:=hD5.self
  refine⟨_,rfl,x,dx5,_,_,_,_,rfl,hx5,xR (by decide +kernel),Kl hD5 (by decide) zgl (zgo (by decide +kernel)) zki,fun u H6 hu6=>?_,fun _ _ z=>z.elim⟩
  obtain⟨rfl,sx6,hD6⟩:=hu6
  refine⟨_,rfl,fun p H6' s6 hp=>⟨(by show 2≤sizeLine;decide),fun p3 hp3=>?_⟩⟩
  replace sx6:=sx6.trans (qw.of s6)
  replace hD6:=hD6.mono s6
  generalize H6'=H6 at sx6 hD6 hp hp3 ⊢
  rw [zlA] at hp
  refine⟨p,p3,"told","messages 3",rfl,rfl,(Same.new hp3) _ _ hp,upd_same,ZX,by unfold kj;decide +kernel,_,rfl,iteF ?_⟩
  obtain⟨k5,hk5,_⟩:=hD5.dict
  have F6:=(F2.monoX sx6 hk5 nde).mono (Same.new (o:=.tup [V.str "told",V.str "messages 3"]) hp3)
  have hb6:∃kvs,(upd H6 p3 (.tup [V.str "told",V.str "messages 3"])) e=some (.dK kvs)∧kvs.length≤2:=hb5.imp fun _ k=>⟨(Same.new hp3) _ _ (sx6 _ _ k.1 (Ne.symm nde)),k.2⟩
  have hS6:=(Same.new (o:=.tup [V.str "told",V.str "messages 3"]) hp3).seq (qw.seq hk5 sx6 hS5)
  replace hD6:=hD6.mono (Same.new (o:=.tup [V.str "told",V.str "messages 3"]) hp3)
  generalize upd H6 p3 (.tup [V.str "told",V.str "messages 3"])=H7 at F6 hb6 hS6 hD6 ⊢
  obtain⟨dx7,hx7⟩:=hD6.self
  refine⟨_,rfl,x,dx7,_,_,_,_,rfl,hx7,xR (by decide +kernel),Kl hD6 (by decide) zgm (zgo (by decide +kernel)) zkj,fun u H8 hu8=>?_,fun _ _ z=>z.elim⟩
  obtain⟨rfl,sx8,hD8⟩:=hu8
  refine⟨_,rfl,fun p H8' s8 hp=>⟨(by show 2≤sizeLine;decide),fun p4 hp4=>?_⟩⟩
  replace sx8:=sx8.trans (qw.of s8)
  replace hD8:=hD8.mono s8
  generalize H8'=H8 at sx8 hD8 hp hp4 ⊢
  rw [zlB] at hp
  refine⟨p,p4,"told","messages 5",rfl,rfl,(Same.new hp4) _ _ hp,upd_same,ZX,by unfold kj;decide +kernel,_,rfl,iteF ?_⟩
  obtain⟨k7,hk7,_⟩:=hD6.dict
  have F8:=(F6.monoX sx8 hk7 nde).mono (Same.new (o:=.tup [V.str "told",V.str "messages 5"]) hp4)
  have hb8:∃kvs,(upd H8 p4 (.tup [V.str "told",V.str "messages 5"])) e=some (.dK kvs)∧kvs.length≤2:=hb6.imp fun _ k=>⟨(Same.new hp4) _ _ (sx8 _ _ k.1 (Ne.symm nde)),k.2⟩
  have hS8:=(Same.new (o:=.tup [V.str "told",V.str "messages 5"]) hp4).seq (qw.seq hk7 sx8 hS6)
  replace hD8:=hD8.mono (Same.new (o:=.tup [V.str "told",V.str "messages 5"]) hp4)
  generalize upd H8 p4 (.tup [V.str "told",V.str "messages 5"])=H9 at F8 hb8 hS8 hD8 ⊢
  have B9:Bk zB zM x d e 2 2 zdA H9:=⟨hD8,nde,F8,hb8,⟨"c",_,by unfold zdA vU;rw [if_pos rfl]⟩,zgp⟩
  clear F2 hD5 hb5 hS5 F6 hb6 hS6 hD6 F8 hb8 hD8 hk5 hk7 sx6 sx8
  refine⟨_,rfl,_,rfl,a,_,rfl,hS8,fun ps hps=>?_⟩
  rw [ze1]
  have cl:=zkm ns
  generalize zd3 ns none (some 30)=cs at cl
  have hPs:(upd H9 ps (.lst (cs.map V.int))) ps=some (.lst (cs.map V.int)):=upd_same
  have BA:=B9.mono (Same.new (o:=.lst (cs.map V.int)) hps)
  generalize upd H9 ps (.lst (cs.map V.int))=HA at hPs BA ⊢
  refine⟨ps,rfl,⟨_,SqL.of hPs⟩,for_list (K:=K) (a:=ps) (xs:=cs.map V.int) (fun i σ Hn=>∃(n m:Nat) (fr:Str→Option (Int×Int×Int)) (v3 v4 v5 v6 v7:Option V),σ=[some (.ref a),some (.ref x),some (.ref e),v3,v4,v5,v6,v7]∧Bk zB zM x d e n m fr Hn∧n≤2+2*i∧m≤2+i∧i≤30∧Hn ps=some (.lst (cs.map V.int))) ⟨2,2,zdA,none,none,none,none,none,rfl,BA,by decide,by decide,by decide,hPs⟩ (fun i σ Hn _ ⟨_,_,_,_,_,_,_,_,_,_,_,_,_,h⟩=>SqL.of h) ?_ ?_⟩
  ·rintro i yv σ Hn hyv ⟨n,m,fr,v3,v4,v5,v6,v7,rfl,B,ni,mi,i30,hP⟩
   have il:=(List.getElem?_eq_some_iff.mp hyv).1
   rw [List.length_map] at il
   rw [List.getElem?_map] at hyv
   obtain⟨c,hc,rfl⟩:=Option.map_eq_some_iff.mp hyv
   dsimp only [gName]
   refine zkh (fun σ' H'=>∃v,σ'=[some (.ref a),some (.ref x),some (.ref e),some (.int c),some v,v5,v6,v7]∧Same Hn H'∧(Zv K H' v∨∃(o w0:Str) (ws:List Str),v=.str o∧Words o w0 ws∧Sm 500000 50 o∧NB o)) ?_ (fun N hN=>?_)
   rotate_left
   ·exact⟨_,rfl,c,rfl,fun o H' s' so nb=>hN _ _ ⟨.str o,rfl,s',.inr (by obtain⟨w0,ws,W⟩:=words_of o;exact⟨o,w0,ws,rfl,W,so,nb⟩)⟩,fun v H' s' nt=>hN _ _ ⟨v,rfl,s',.inl nt⟩⟩
   rintro σ' H1 ⟨v,rfl,s1,hv⟩
   have B1:=B.mono s1
   refine zkh (fun σ' H'=>Same Hn H'∧(σ'=[some (.ref a),some (.ref x),some (.ref e),some (.int c),some v,some .non,v6,v7]∨∃(pd:Addr) (i' j':Str),σ'=[some (.ref a),some (.ref x),some (.ref e),some (.int c),some v,some (.ref pd),v6,v7]∧H' pd=some (.tup [.str i',.str j'])∧Dw K fr H' v i' j')) ?_ (fun N hN=>?_)
   rotate_left
   ·refine⟨_,rfl,_,rfl,v,e,fr,rfl,B1.fd,?_⟩
    rcases hv with nt | ⟨o,w0,ws,rfl,W,so,nb⟩
    ·exact .inl ⟨nt,fun p H' s' hp=>hN _ _ ⟨s1.trans s',.inr ⟨p,_,_,rfl,hp,.inl ⟨nt.mono s',rfl,rfl⟩⟩⟩⟩
    ·exact .inr ⟨o,w0,ws,rfl,W,so,fun i' j' p H' du s' hp=>hN _ _ ⟨s1.trans s',.inr ⟨p,i',j',rfl,hp,.inr ⟨o,w0,ws,rfl,W,so,nb,du⟩⟩⟩,fun _ H' s'=>hN _ _ ⟨s1.trans s',.inl rfl⟩⟩
   rintro σ' H2 ⟨s2,rfl | ⟨pd,i',j',rfl,hpd,dw⟩⟩
   ·exact⟨_,rfl,rfl,_,rfl,iteF ⟨n,m,fr,_,_,_,_,_,rfl,B.mono s2,by omega,by omega,by omega,s2 _ _ hP⟩⟩
   refine⟨_,rfl,rfl,_,rfl,iteT ?_⟩
   have B2:=B.mono s2
   have hP2:=s2 _ _ hP
   have zlE:n+1<1000:=by omega
   clear hv B1 s1 H1 B hP s2
   refine jh (fun σ' H'=>∃(fr':Str→Option (Int×Int×Int)) (n':Nat),σ'=[some (.ref a),some (.ref x),some (.ref e),some (.int c),some v,some (.ref pd),v6,v7]∧H' pd=some (.tup [.str i',.str j'])∧qt zB zM x d n' fr' H'∧n'≤n+2∧FrD fr e H'∧(∃kvs,H' e=some (.dK kvs)∧kvs.length≤m)∧H' ps=some (.lst (cs.map V.int))∧((i'≠"told"∧fr'=fr)∨(i'="told"∧∃(o w1 u1 u2 u3:Str),v=.str o∧Words o "frame" [w1,u1,u2,u3]∧Sm 500000 50 o∧jQ w1 u1 u2 u3∧w1≠"nobody"∧fr'=vU fr w1 (zA u1,zA u2,zA u3)))) ?_ (fun N hN=>?_)
   rotate_left
   ·rcases Dw.split (CD:=zB) (CF:=zM) (CT:=zr) (x:=x) (d:=d) Z0 ZZ dw with ⟨rfl,C',k,FX,rfl,says⟩ | ⟨rfl,o,w1,u1,u2,u3,rfl,W,so,gk,nn,rfl⟩
    ·obtain⟨dx2,hx2⟩:=B2.desk.self
     refine⟨_,rfl,_,rfl,x,dx2,_,_,_,_,rfl,hx2,xR (by decide +kernel),says n H2 (Same.refl _) (by omega) B2.desk,fun _ _ z=>z.elim,fun C H3 hc=>?_⟩
     obtain⟨rfl,s3⟩:=hc
     refine⟨C',k,rfl,FX,fun p H3' s3' hp=>⟨_,rfl,p,pd,_,_,rfl,rfl,hp,(s3.trans s3') _ _ hpd,yw,zcW k,_,rfl,iteF ?_⟩⟩
     replace s3:=s3.trans s3'
     generalize H3'=H3 at s3 hp ⊢
     have D3:=B2.desk.mono s3
     obtain⟨dx3,hx3⟩:=D3.self
     refine⟨_,rfl,_,rfl,x,dx3,_,_,_,_,rfl,hx3,xR (by decide +kernel),says n H3 s3 (by omega) D3,fun _ _ z=>z.elim,fun C H4 hc=>?_⟩
     obtain⟨rfl,s4⟩:=hc
     refine⟨C',k,rfl,FX,fun p H4' s4' hp=>⟨_,rfl,p,pd,_,_,rfl,rfl,hp,(s4.trans s4') _ _ (s3 _ _ hpd),yw,zcW k,_,rfl,iteF ?_⟩⟩
     replace s4:=s4.trans s4'
     generalize H4'=H4 at s4 hp ⊢
     have B4:=B2.mono (s3.trans s4)
     exact hN _ _ ⟨fr,n,rfl,s4 _ _ (s3 _ _ hpd),B4.desk,by omega,B4.fd,B4.bd,s4 _ _ (s3 _ _ hP2),.inl ⟨by decide +kernel,rfl⟩⟩
    ·have okm:kj (zcm (zA u1) (zA u2) (zA u3)):=zet W0 (zbF (Z9 _ _ _))
     obtain⟨dx2,hx2⟩:=B2.desk.self
     refine⟨_,rfl,_,rfl,x,dx2,_,_,_,_,rfl,hx2,xR (by decide +kernel),Kl B2.desk (by omega) W so gk,fun u H3 hu3=>?_,fun _ _ z=>z.elim⟩
     obtain⟨rfl,s3,D3⟩:=hu3
     refine⟨_,rfl,fun p H3' s3' hp=>?_⟩
     replace s3:=s3.trans (qw.of s3')
     replace D3:=D3.mono s3'
     generalize H3'=H3 at s3 D3 hp ⊢
     obtain⟨k2,hk2,_⟩:=B2.desk.dict
     have npd:pd≠d:=fun z=>by rw [z,hk2] at hpd;cases hpd
     have npp:ps≠d:=fun z=>by rw [z,hk2] at hP2;cases hP2
     have zeJ:=s3 _ _ hpd npd
     refine⟨_,rfl,p,pd,_,_,rfl,rfl,hp,zeJ,ZX,okm,_,rfl,iteF ?_⟩
     obtain⟨dx3,hx3⟩:=D3.self
     refine⟨_,rfl,_,rfl,x,dx3,_,_,_,_,rfl,hx3,xR (by decide +kernel),Kl D3 (by omega) W so gk,fun u H4 hu4=>?_,fun _ _ z=>z.elim⟩
     obtain⟨rfl,s4,D4⟩:=hu4
     refine⟨_,rfl,fun p H4' s4' hp=>?_⟩
     replace s4:=s4.trans (qw.of s4')
     replace D4:=D4.mono s4'
     generalize H4'=H4 at s4 D4 hp ⊢
     have zkn:=s4 _ _ zeJ npd
     obtain⟨k3,hk3,_⟩:=D3.dict
     refine⟨_,rfl,p,pd,_,_,rfl,rfl,hp,zkn,ZX,okm,_,rfl,iteF (hN _ _ ⟨_,_,rfl,zkn,D4,by omega,(B2.fd.monoX s3 hk2 nde).monoX s4 hk3 nde,B2.bd.imp fun _ k=>⟨s4 _ _ (s3 _ _ k.1 (Ne.symm nde)) (Ne.symm nde),k.2⟩,s4 _ _ (s3 _ _ hP2 npp) npp,.inr ⟨rfl,o,w1,u1,u2,u3,rfl,W,so,gk,nn,zbK ..⟩⟩)⟩
   rintro σ' H3 ⟨fr',n',rfl,zeJ,D3,n3,F3,hb3,hP3,hc3⟩
   have hso:=B2.so
   have hnb:=B2.nb
   clear B2 hP2 hpd dw H2
   refine jh (fun σ' H'=>∃v6:Option V,σ'=[some (.ref a),some (.ref x),some (.ref e),some (.int c),some v,some (.ref pd),v6,v7]∧Bk zB zM x d e n' (m+1) fr' H'∧H' ps=some (.lst (cs.map V.int))) ?_ (fun N hN=>?_)
   rotate_left
   ·refine⟨_,rfl,pd,_,0,_,rfl,rfl,SqT.of zeJ,rfl,rfl,_,rfl,?_⟩
    rcases hc3 with ⟨ni',rfl⟩ | ⟨rfl,o,w1,u1,u2,u3,rfl,W,so,gk,nn,rfl⟩
    ·exact ifD (fun z=>absurd (V.str.inj z) ni') (fun z=>hN _ _ ⟨v6,rfl,⟨D3,nde,F3,hb3.imp fun _ k=>⟨k.1,by omega⟩,hso,hnb⟩,hP3⟩)
    ·refine ifD (fun z=>?_) (fun z=>absurd rfl z)
     have ol2:o.length+2≤sizeLine:=by rw [sizeLine_eq];have:=so.1;omega
     obtain⟨_,wsm⟩:=W.sm so
     have vg:∀y∈[w1,u1,u2,u3],y.length≤sizeLine:=fun y hy=>by rw [sizeLine_eq];have:=(wsm y (List.mem_cons_of_mem _ hy)).1;omega
     refine⟨_,rfl,rfl,o," ",rfl,rfl,JN,ol2,fun pw hpw=>?_⟩
     rw [show Txt.split o " "=(["frame",w1,u1,u2,u3]:List Str) from W.eq]
     have s4:Same H3 (upd H3 pw (.lst ((["frame",w1,u1,u2,u3]:List Str).map V.str))):=Same.new hpw
     have hA:(upd H3 pw (.lst ((["frame",w1,u1,u2,u3]:List Str).map V.str))) pw=some (.lst ((["frame",w1,u1,u2,u3]:List Str).map V.str)):=upd_same
     generalize upd H3 pw (.lst ((["frame",w1,u1,u2,u3]:List Str).map V.str))=H4 at s4 hA ⊢
     refine⟨_,rfl,pw,_,2,_,rfl,rfl,SqL.of hA,rfl,u1,zA u1,rfl,num_reads gk.b (by decide),vg _ (by simp),_,rfl,pw,_,3,_,rfl,rfl,SqL.of hA,rfl,u2,zA u2,rfl,num_reads gk.c.1 (by decide),vg _ (by simp),_,rfl,pw,_,4,_,rfl,rfl,SqL.of hA,rfl,u3,zA u3,rfl,num_reads gk.d (by decide),vg _ (by simp),(by show 3≤sizeLine;decide),fun pt hpt=>?_⟩
     have s5:Same H4 (upd H4 pt (.tup [V.int (zA u1),V.int (zA u2),V.int (zA u3)])):=Same.new hpt
     have hT5:(upd H4 pt (.tup [V.int (zA u1),V.int (zA u2),V.int (zA u3)])) pt=some (.tup [V.int (zA u1),V.int (zA u2),V.int (zA u3)]):=upd_same
     generalize upd H4 pt (.tup [V.int (zA u1),V.int (zA u2),V.int (zA u3)])=H5 at s5 hT5 ⊢
     have s35:=s4.trans s5
     obtain⟨kvs,hke,hkl⟩:=hb3
     have zfy:=s35 _ _ hke
     refine⟨_,rfl,_,rfl,pw,_,1,_,rfl,rfl,SqL.of (s5 _ _ hA),rfl,e,_,rfl,DPut.k (k:=Sum.inr w1) zfy (by rw [sizeLine_eq];omega),hN _ _ ⟨_,rfl,⟨(D3.mono s35).frz nde zfy,nde,(F3.mono s35).put zfy (by omega) gk.a hT5,⟨_,upd_same,by have:=XN kvs (Sum.inr w1) (V.ref pt);omega⟩,?_,?_⟩,?_⟩⟩
     ·exact⟨w1,_,by unfold vU;rw [if_pos rfl]⟩
     ·unfold vU
      rw [if_neg (Ne.symm nn)]
      exact hnb
     ·rw [upd_ne (fun z=>by have h9:=s35 _ _ hP3;rw [z,zfy] at h9;cases h9)]
      exact s35 _ _ hP3
   clear hc3 zeJ D3 F3 hb3 hP3 hso hnb H3
   rintro σ' H4 ⟨v6',rfl,B4,hP4⟩
   obtain⟨kvs,hke,hkl,hkn,hk0,hk1⟩:=B4.fd.d
   obtain⟨kvs',hke',hkl'⟩:=B4.bd
   rw [hke] at hke'
   cases hke'
   have tx:zba kvs:=fun p hp=>(hkn p hp).imp fun s hs=>hs.1
   have kpos:0<kvs.length:=by
    obtain⟨nm,⟨t,b,l⟩,hz⟩:=B4.so
    obtain⟨p,hp,_⟩:=hk1 nm t b l hz
    cases kvs with
    | nil=>cases hp
    | cons _ _=>simp
   refine⟨_,rfl,e,kvs,rfl,hke,tx,by omega,fun l ss hl pm=>?_⟩
   have s5:Same H4 (upd H4 l (.lst (ss.map V.str))):=Same.new hl
   have hL:(upd H4 l (.lst (ss.map V.str))) l=some (.lst (ss.map V.str)):=upd_same
   generalize upd H4 l (.lst (ss.map V.str))=H5 at s5 hL ⊢
   refine⟨_,rfl,c,40,rfl,by decide,fun dd d0 d1=>⟨_,rfl,e,kvs,rfl,s5 _ _ hke,_,_,rfl,rfl,by omega,?_⟩⟩
   have sl:ss.length=kvs.length:=by
    have:=pm.length_eq
    rw [List.length_map,List.length_map] at this
    exact this
   obtain⟨nm,en,hn⟩:=Zf (ws:=ss) (i:=dd % (kvs.length:Int)) (Int.emod_nonneg _ (by omega)) (by rw [sl];exact Int.emod_lt_of_pos _ (by omega))
   refine⟨l,_,_,_,rfl,rfl,SqL.of hL,en,?_⟩
   have hin:Sum.inr nm∈kvs.map (·.1):=pm.mem_iff.mp (List.mem_map.mpr ⟨nm,hn,rfl⟩)
   obtain⟨⟨t,b,l'⟩,hz⟩:∃z,fr' nm=some z:=by
    cases hz:fr' nm with
    | some z=>exact⟨z,rfl⟩
    | none=>exact absurd hin (valV_not (hk0 nm hz))
   obtain⟨pq,hv,hq⟩:=hk1 nm t b l' hz
   have gnm:zK nm:=by
    obtain⟨q',hq',e'⟩:=List.mem_map.mp hin
    obtain⟨s',es,gs⟩:=hkn q' hq'
    rw [es] at e'
    cases e'
    exact gs
   have B5:=B4.mono s5
   have hq5:=s5 _ _ hq
   have hP5:=s5 _ _ hP4
   refine⟨_,rfl,fun e2 he2=>?_⟩
   have s6:Same H5 (upd H5 e2 (.dK [])):=Same.new he2
   have ee2:(upd H5 e2 (.dK [])) e2=some (.dK []):=upd_same
   generalize upd H5 e2 (.dK [])=H6 at s6 ee2 ⊢
   have dg:DGet H6 e (.str nm) (some (.ref pq)):=by
    have:=DGet.k (k:=Sum.inr nm) (s6 _ _ (s5 _ _ hke))
    rw [hv] at this
    exact this
   refine⟨_,rfl,_,rfl,_,rfl,e,_,rfl,dg,ee2,[(Sum.inr nm,V.ref pq)],rfl,(by show 1≤15;decide),?_⟩
   have B6:=B5.mono s6
   obtain⟨kd,hkd,_⟩:=B6.desk.dict
   obtain⟨kd5,hkd5,_⟩:=B5.desk.dict
   have nd2:d≠e2:=fun z=>by rw [z,he2] at hkd5;cases hkd5
   have D7:=B6.desk.frz (u:=.dK (mergeK [] [(Sum.inr nm,V.ref pq)])) nd2 ee2
   have hq7:(upd H6 e2 (.dK (mergeK [] [(Sum.inr nm,V.ref pq)]))) pq=some (.tup [.int t,.int b,.int l']):=by
    rw [upd_ne (fun z=>by rw [z,he2] at hq5;cases hq5)]
    exact s6 _ _ hq5
   refine⟨x,e2,d,n',fr',mergeK [] [(Sum.inr nm,V.ref pq)],rfl,D7,nd2,upd_same,fun q' hq'=>?_,fun H8 sx8=>⟨_,rfl,iteF ⟨n',m+1,fr',_,_,_,_,_,rfl,B5.mono ?_,by omega,by omega,by omega,?_⟩⟩⟩
   ·have:q'=(Sum.inr nm,V.ref pq):=by
     have:q'∈[((Sum.inr nm:Key),V.ref pq)]:=hq'
     exact List.mem_singleton.mp this
    subst this
    exact⟨nm,rfl,gnm,t,b,l',pq,hz,valV_pos rfl,hq7⟩
   ·intro c' o' hc'
    have n1:c'≠e2:=fun z=>by rw [z,he2] at hc';cases hc'
    exact sx8 _ _ (by rw [upd_ne n1];exact s6 _ _ hc') n1
   ·have n1:ps≠e2:=fun z=>by rw [z,he2] at hP5;cases hP5
    exact sx8 _ _ (by rw [upd_ne n1];exact s6 _ _ hP5) n1
  ·rintro σ Hn ⟨n,m,fr,v3,v4,v5,v6,v7,rfl,B,ni,mi,i30,hP⟩
   obtain⟨kvs,hke,hkl,hkn,hk0,hk1⟩:=B.fd.d
   refine⟨_,rfl,_,rfl,x,e,d,n,fr,kvs,rfl,B.desk,nde,hke,fun q' hq'=>?_,fun H1 sx1=>⟨_,rfl,iteT ?_⟩⟩
   ·obtain⟨nm,es,gs⟩:=hkn q' hq'
    obtain⟨⟨t,b,l'⟩,hz⟩:∃z,fr nm=some z:=by
     cases hz:fr nm with
     | some z=>exact⟨z,rfl⟩
     | none=>exact absurd (List.mem_map.mpr ⟨q',hq',es⟩) (valV_not (hk0 nm hz))
    obtain⟨pq,hv,hq⟩:=hk1 nm t b l' hz
    exact⟨nm,es,gs,t,b,l',pq,hz,hv,hq⟩
   ·have D1:=B.desk.keepE sx1 hke nde
    obtain⟨dx1,hx1⟩:=D1.self
    refine⟨_,rfl,x,dx1,_,_,_,_,rfl,hx1,xR (by decide +kernel),zcY D1 zgn (zgo (by decide +kernel)) hd1.1.symm chf.2.1 zbL zkk B.nb,fun _ _ z=>z.elim,fun C H2 hc=>?_⟩
    obtain⟨rfl,s2⟩:=hc
    refine⟨zE,0,rfl,ZZ,fun p H2' s2' hp=>⟨(by show 2≤sizeLine;decide),fun p3 hp3=>?_⟩⟩
    rw [kd0] at hp
    exact⟨p,p3,_,_,rfl,rfl,(Same.new hp3) _ _ hp,upd_same,yw,by unfold kj;decide +kernel,q _⟩
end
theorem zfz {α:Type}{F:List α→Prop}{us:List α} (h:us.length=0) (k:F []):F us:=by
 cases us with
 | nil=>exact k
 | cons a r=>cases h
theorem zc1 {α:Type}{F:List α→Prop}{us:List α} (h:us.length=1) (k:∀a,F [a]):F us:=by
 cases us with
 | nil=>cases h
 | cons a r=>exact zfz (F:=fun r=>F (a::r)) (Nat.succ.inj h) (k a)
theorem zc2 {α:Type}{F:List α→Prop}{us:List α} (h:us.length=2) (k:∀a b,F [a,b]):F us:=by
 cases us with
 | nil=>cases h
 | cons a r=>exact zc1 (F:=fun r=>F (a::r)) (Nat.succ.inj h) (k a)
theorem zc3 {α:Type}{F:List α→Prop}{us:List α} (h:us.length=3) (k:∀a b c,F [a,b,c]):F us:=by
 cases us with
 | nil=>cases h
 | cons a r=>exact zc2 (F:=fun r=>F (a::r)) (Nat.succ.inj h) (k a)
theorem zc4 {α:Type}{F:List α→Prop}{us:List α} (h:us.length=4) (k:∀a b c d,F [a,b,c,d]):F us:=by
 cases us with
 | nil=>cases h
 | cons a r=>exact zc3 (F:=fun r=>F (a::r)) (Nat.succ.inj h) (k a)
theorem zfA {α:Type}{F:List α→Prop}{us:List α} (h:us.length=5) (k:∀a b c d e,F [a,b,c,d,e]):F us:=by
 cases us with
 | nil=>cases h
 | cons a r=>exact zc4 (F:=fun r=>F (a::r)) (Nat.succ.inj h) (k a)
theorem zH {fd:FuncData}{ps:List Str}{us:List Value} (h:us.length=1) (k:∀a,bindArgs fd ⟨[a],[]⟩=pure (ps.zip [a])):bindArgs fd ⟨us,[]⟩=pure (ps.zip us):=zc1 (F:=fun us=>bindArgs fd ⟨us,[]⟩=pure (ps.zip us)) h k
theorem zJ {fd:FuncData}{ps:List Str}{us:List Value} (h:us.length=2) (k:∀a b,bindArgs fd ⟨[a,b],[]⟩=pure (ps.zip [a,b])):bindArgs fd ⟨us,[]⟩=pure (ps.zip us):=zc2 (F:=fun us=>bindArgs fd ⟨us,[]⟩=pure (ps.zip us)) h k
theorem jW {fd:FuncData}{ps:List Str}{us:List Value} (h:us.length=3) (k:∀a b c,bindArgs fd ⟨[a,b,c],[]⟩=pure (ps.zip [a,b,c])):bindArgs fd ⟨us,[]⟩=pure (ps.zip us):=zc3 (F:=fun us=>bindArgs fd ⟨us,[]⟩=pure (ps.zip us)) h k
theorem jB {fd:FuncData}{ps:List Str}{us:List Value} (h:us.length=4) (k:∀a b c d,bindArgs fd ⟨[a,b,c,d],[]⟩=pure (ps.zip [a,b,c,d])):bindArgs fd ⟨us,[]⟩=pure (ps.zip us):=zc4 (F:=fun us=>bindArgs fd ⟨us,[]⟩=pure (ps.zip us)) h k
theorem zcu {fd:FuncData}{ps:List Str}{us:List Value} (h:us.length=5) (k:∀a b c d e,bindArgs fd ⟨[a,b,c,d,e],[]⟩=pure (ps.zip [a,b,c,d,e])):bindArgs fd ⟨us,[]⟩=pure (ps.zip us):=zfA (F:=fun us=>bindArgs fd ⟨us,[]⟩=pure (ps.zip us)) h k
noncomputable def DI (K:W.Frag) (x:Str) (st:Stmt) (f:Addr):Prop:=∃(oc:Value) (od:Option Addr) (sl:Array (Option Value)) (kV dc pm:Value) (an:Option Addr) (cd ct:Value),W.nsIn K mainGlobals x=some (some (.ref f))∧K.lookup f=some ⟨oc,od,.func (W.fnOf x x (defArgs st) (defBody st) (defScope st) .none kV dc pm an cd ct),sl⟩∧W.codeIn K cd x=true∧W.keepIn K (.ref f)=true
theorem DI.dd {K:W.Frag}{h:Heap}{mg:Str→Option Value}{x:Str}{st:Stmt}{f:Addr}{ps:List Str} (d:DI K x st f) (X:K.In h) (G:h.Ns mainGlobals mg) (hb:∀(kV dc pm:Value) (an:Option Addr) (cd ct:Value) (us:List Value),us.length=ps.length→bindArgs (W.fnOf x x (defArgs st) (defBody st) (defScope st) .none kV dc pm an cd ct) ⟨us,[]⟩=pure (ps.zip us)):Def K mg x st ps:=by
 obtain⟨oc,od,sl,kV,dc,pm,an,cd,ct,a,l,c,k⟩:=d
 exact⟨f,_,fun_mk l c k,(fun_mk (st:=st) l c k).binds (ps:=ps) hb,W.mg_of X G a⟩
theorem di_mk {K:W.Frag}{x:Str}{st:Stmt}{f:Addr}{oc:Value}{od:Option Addr}{sl:Array (Option Value)}{kV dc pm:Value}{an:Option Addr}{cd ct:Value} (a:W.nsIn K mainGlobals x=some (some (.ref f))) (l:K.lookup f=some ⟨oc,od,.func (W.fnOf x x (defArgs st) (defBody st) (defScope st) .none kV dc pm an cd ct),sl⟩) (c:W.codeIn K cd x=true) (k:W.keepIn K (.ref f)=true):DI K x st f:=⟨_,_,_,_,_,_,_,_,_,a,l,c,k⟩
theorem all_mk {l:W.OpenLaw} (hP:l.prog.given.tree=none){w:World}{K:W.Frag}{h:Heap}{mg:Str→Option Value}{fa:Addr} (X:K.In h) (G:h.Ns mainGlobals mg) (hfa:mg "law"=some (.ref fa))
  {f0:Addr} (d0:DI K "choose" ZP f0)
  {f1:Addr} (d1:DI K "top_of" Vf f1)
  {f2:Addr} (d2:DI K "top_from" wH f2)
  {f3:Addr} (d3:DI K "above_top" vo f3)
  {f4:Addr} (d4:DI K "rounded_up" xg f4)
  {f5:Addr} (d5:DI K "box_of" Vg f5)
  {f6:Addr} (d6:DI K "bell_row" wI f6)
  {f7:Addr} (d7:DI K "heard_box" Z6 f7)
  {f8:Addr} (d8:DI K "box_count" vp f8)
  {f9:Addr} (d9:DI K "greatest_part" je f9)
  {f10:Addr} (d10:DI K "shortest_frame" vq f10)
  {f11:Addr} (d11:DI K "best_bells" Zn f11)
  {f12:Addr} (d12:DI K "cheapest" QF f12)
  {f13:Addr} (d13:DI K "box_number" Zo f13)
  {f14:Addr} (d14:DI K "box_of_message" qR f14)
  {f15:Addr} (d15:DI K "written" yD f15)
  {f16:Addr} (d16:DI K "read" zao f16)
  {f17:Addr} (d17:DI K "keyed_count" yE f17)
  {f18:Addr} (d18:DI K "keyed" KD f18)
  {f19:Addr} (d19:DI K "unkeyed" Jz f19)
  {f20:Addr} (d20:DI K "refuse_silent" vW f20)
  {f21:Addr} (d21:DI K "rung" zap f21)
  {f22:Addr} (d22:DI K "by_messages" yF f22)
  {f23:Addr} (d23:DI K "note_number" yG f23)
  {f24:Addr} (d24:DI K "note_of" JB f24)
  {f25:Addr} (d25:DI K "parts" KH f25)
  {f26:Addr} (d26:DI K "number_of_parts" xQ f26)
  {f27:Addr} (d27:DI K "sent" zaq f27)
  {f28:Addr} (d28:DI K "received" QG f28)
  {f29:Addr} (d29:DI K "messages_ahead_of_end" qY f29)
  {f30:Addr} (d30:DI K "is_made_of" xj f30)
  {f31:Addr} (d31:DI K "name_in" yH f31)
  {f32:Addr} (d32:DI K "figures_in" xm f32)
  {f33:Addr} (d33:DI K "number_in" vz f33)
  {f34:Addr} (d34:DI K "message_in" xq f34)
  {f35:Addr} (d35:DI K "bells_in" wJ f35)
  {f36:Addr} (d36:DI K "turns_in" wK f36)
  {f37:Addr} (d37:DI K "number_told" jL f37)
  {f38:Addr} (d38:DI K "turns_told" xr f38)
  {f39:Addr} (d39:DI K "count_of" wL f39)
  {f40:Addr} (d40:DI K "note_heard" Zq f40)
  {f41:Addr} (d41:DI K "choice_told" jM f41)
  {f42:Addr} (d42:DI K "cheapest_told" jf f42)
  {f43:Addr} (d43:DI K "_law_drawn" xu f43)
  {f44:Addr} (d44:DI K "_law_sign" vA f44)
  {f45:Addr} (d45:DI K "_law_name" vB f45)
  {f46:Addr} (d46:DI K "_law_number" jN f46)
  {f47:Addr} (d47:DI K "_law_message" jF f47)
  {f48:Addr} (d48:DI K "_law_turns" xx f48)
  {f49:Addr} (d49:DI K "_law_written" jG f49)
  {f50:Addr} (d50:DI K "_law_order" xF f50)
  {f51:Addr} (d51:DI K "_law_is_name" jH f51)
  {f52:Addr} (d52:DI K "_law_is_number" qT f52)
  {f53:Addr} (d53:DI K "_law_fit" wM f53)
  {f54:Addr} (d54:DI K "_law_heard" xG f54)
  {f55:Addr} (d55:DI K "_law_is_order" jg f55)
  {f56:Addr} (d56:DI K "_law_due" wN f56)
  {f57:Addr} (d57:DI K "_law_kept" vC f57)
  {f58:Addr} (d58:DI K "_law_kind" vD f58)
  {f59:Addr} (d59:DI K "_law_told" vG f59)
  {f60:Addr} (d60:DI K "law" Vh f60)
  (z_range:W.nsIn K mainGlobals "range"=some none)
  (z_isinstance:W.nsIn K mainGlobals "isinstance"=some none)
  (z_int:W.nsIn K mainGlobals "int"=some none)
  (zar:W.nsIn K mainGlobals "bool"=some none)
  (z_len:W.nsIn K mainGlobals "len"=some none)
  (zas:W.nsIn K mainGlobals "list"=some none)
  (zcD:W.nsIn K mainGlobals "max"=some none)
  (z_min:W.nsIn K mainGlobals "min"=some none)
  (z_enumerate:W.nsIn K mainGlobals "enumerate"=some none)
  (z_sorted:W.nsIn K mainGlobals "sorted"=some none)
  (zcE:W.nsIn K mainGlobals "sum"=some none)
  (z_all:W.nsIn K mainGlobals "all"=some none)
  (z_str:W.nsIn K mainGlobals "str"=some none)
  (z_zip:W.nsIn K mainGlobals "zip"=some none)
  (z_ValueError:W.nsIn K mainGlobals "ValueError"=some none)
  {zQ:Addr} (jU:W.nsIn K mainGlobals "BellError"=some (some (.ref zQ)))
  {jz:Addr} (Qh:W.nsIn K mainGlobals "NoRow"=some (some (.ref jz)))
  {zY:Addr} (jT:W.nsIn K mainGlobals "NoReading"=some (some (.ref zY)))
  {zr:Addr} (qp:W.nsIn K mainGlobals "TooGreat"=some (some (.ref zr)))
  {qJ:Addr} (kh:W.nsIn K mainGlobals "TooMany"=some (some (.ref qJ)))
  {qN:Addr} (yO:W.nsIn K mainGlobals "NoNote"=some (some (.ref qN)))
  {zj:Addr} (zP:W.nsIn K mainGlobals "NoOrder"=some (some (.ref zj)))
  {zE:Addr} (xJ:W.nsIn K mainGlobals "NoName"=some (some (.ref zE)))
  {zM:Addr} (Qa:W.nsIn K mainGlobals "Frame"=some (some (.ref zM)))
  {zB:Addr} (Wk:W.nsIn K mainGlobals "Desk"=some (some (.ref zB)))
  {ZS:Tok} (vX:W.nsIn K mainGlobals "LETTERS"=some (some (.str "abcdefghijklmnopqrstuvwxyz" ZS)))
  {jO:Tok} (qL:W.nsIn K mainGlobals "MOST_LETTERS"=some (some (.int 8 jO)))
  {ZV:Tok} (vY:W.nsIn K mainGlobals "FIGURES"=some (some (.str "0123456789" ZV)))
  {jP:Tok} (qM:W.nsIn K mainGlobals "MOST_FIGURES"=some (some (.int 60 jP)))
  {z6:Tok} (zN:W.nsIn K mainGlobals "MOST_FIGURES_OF_MESSAGE"=some (some (.int 3000 z6)))
  {vJ:Tok} (jx:W.nsIn K mainGlobals "MOST_BELLS"=some (some (.int 60 vJ)))
  (jV:W.excIn K zQ bmV "ValueError.__new__"=true)
  (Km:W.excIn K jz bmV "ValueError.__new__"=true)
  (Zi:W.excIn K zY bmV "ValueError.__new__"=true)
  (jb:W.excIn K zr bmV "ValueError.__new__"=true)
  (zV:W.excIn K zj bmV "ValueError.__new__"=true)
  (yJ:W.excIn K zE bmV "ValueError.__new__"=true)
  (X6:W.excIn K qN bmV "ValueError.__new__"=true)
  (ZZ:XF K ⟨zE,zr,zj,qN,jz,zY,qJ,zQ⟩ zE 0)
  (xT:XF K ⟨zE,zr,zj,qN,jz,zY,qJ,zQ⟩ zr 1)
  (Z0:XF K ⟨zE,zr,zj,qN,jz,zY,qJ,zQ⟩ zj 2)
  {zko:Value}{zkp:Option Addr}{zfK:Array DictEntry}{zkq:Nat}{zkr:Array (Option Value)} (zgq:K.lookup cStatics=some ⟨zko,zkp,.dict zfK zkq,zkr⟩) (zgr:(zfK.all fun e=>match e.key with | .str _ _=>true | _=>false)=true) (zgs:W.nsIn K cStatics "sys.int_max_str_digits"=some none)
  (J4:W.plainGet K zM Str.empty=true)
  (Xa:W.hasDictIn K zM=true)
  (Xb:W.plainOver K zM=true)
  (Xc:W.findIn K (.ref zM) "__setattr__"=some (some (.builtin "object.__setattr__")))
  (Xd:W.makesIn K zM=true)
  (Xe:W.keepIn K (.ref zM)=true)
  (w6:W.findIn K (.ref zM) "turns"=some none)
  (yc:W.findIn K (.ref zM) "bells"=some none)
  (yS:W.findIn K (.ref zM) "late"=some none)
  (kO:W.findIn K (.ref zM) "frames"=some none)
  (Vt:W.plainGet K zB Str.empty=true)
  (Vu:W.hasDictIn K zB=true)
  (Vv:W.plainOver K zB=true)
  (Vw:W.findIn K (.ref zB) "__setattr__"=some (some (.builtin "object.__setattr__")))
  (Vx:W.makesIn K zB=true)
  (Vy:W.keepIn K (.ref zB)=true)
  (yU:W.findIn K (.ref zB) "turns"=some none)
  (yV:W.findIn K (.ref zB) "bells"=some none)
  (ZC:W.findIn K (.ref zB) "late"=some none)
  (yd:W.findIn K (.ref zB) "frames"=some none)
  {xM:Addr}{Wl Wm:Option Addr}{Wn:Array (Option Value)}{Wo Wq Wr Ws Q7 Wt:Value}
  (jX:W.findIn K (.ref zM) "__init__"=some (some (.ref xM)))
  (vL:K.lookup xM=some ⟨Wo,Wl,.func (W.fnOf "__init__" "Frame.__init__" (defArgs qZ) (defBody qZ) (defScope qZ) .none Wq Wr Ws Wm Q7 Wt),Wn⟩) (vM:W.codeIn K Q7 "Frame.__init__"=true) (yW:W.keepIn K (.ref xM)=true) (yX:W.isFn K (.ref xM)=true)
  {vN:Addr}{W2 W3:Option Addr}{W4:Array (Option Value)}{W5 W6 W7 W8 Jp W9:Value}
  (xU:W.findIn K (.ref zB) "__init__"=some (some (.ref vN)))
  (kY:K.lookup vN=some ⟨W5,W2,.func (W.fnOf "__init__" "Desk.__init__" (defArgs jq) (defBody jq) (defScope jq) .none W6 W7 W8 W3 Jp W9),W4⟩) (kZ:W.codeIn K Jp "Desk.__init__"=true) (ZD:W.keepIn K (.ref vN)=true) (ZF:W.isFn K (.ref vN)=true)
  {vO:Addr}{Yb Yc:Option Addr}{Yd:Array (Option Value)}{Ye Yg Yh Yi Jq Yj:Value}
  (xV:W.findIn K (.ref zB) "told"=some (some (.ref vO)))
  (wg:K.lookup vO=some ⟨Ye,Yb,.func (W.fnOf "told" "Desk.told" (defArgs jr) (defBody jr) (defScope jr) .none Yg Yh Yi Yc Jq Yj),Yd⟩) (wk:W.codeIn K Jq "Desk.told"=true) (wu:W.keepIn K (.ref vO)=true) (ZG:W.isFn K (.ref vO)=true)
  {vP:Addr}{Yk Yl:Option Addr}{Ym:Array (Option Value)}{Yn Yo Yp Yq Jr Yr:Value}
  (xW:W.findIn K (.ref zB) "keep"=some (some (.ref vP)))
  (ww:K.lookup vP=some ⟨Yn,Yk,.func (W.fnOf "keep" "Desk.keep" (defArgs jt) (defBody jt) (defScope jt) .none Yo Yp Yq Yl Jr Yr),Ym⟩) (wy:W.codeIn K Jr "Desk.keep"=true) (wz:W.keepIn K (.ref vP)=true) (ZJ:W.isFn K (.ref vP)=true)
  {vQ:Addr}{Ys Yt:Option Addr}{Yu:Array (Option Value)}{Yv Yw Yx Yy Js Yz:Value}
  (xX:W.findIn K (.ref zB) "ring"=some (some (.ref vQ)))
  (wA:K.lookup vQ=some ⟨Yv,Ys,.func (W.fnOf "ring" "Desk.ring" (defArgs ju) (defBody ju) (defScope ju) .none Yw Yx Yy Yt Js Yz),Yu⟩) (wB:W.codeIn K Js "Desk.ring"=true) (wC:W.keepIn K (.ref vQ)=true) (ZK:W.isFn K (.ref vQ)=true)
  {jY:Addr}{V0 V1:Option Addr}{V2:Array (Option Value)}{V3 V4 V5 V6 Qw V7:Value}
  (jZ:W.findIn K (.ref zB) "listen"=some (some (.ref jY)))
  (xN:K.lookup jY=some ⟨V3,V0,.func (W.fnOf "listen" "Desk.listen" (defArgs qK) (defBody qK) (defScope qK) .none V4 V5 V6 V1 Qw V7),V2⟩) (xO:W.codeIn K Qw "Desk.listen"=true) (xP:W.keepIn K (.ref jY)=true) (ye:W.isFn K (.ref jY)=true)
  {qW:Addr}{Xf Xg:Option Addr}{Xh:Array (Option Value)}{Xi Xj Xk Xl yZ Xm:Value}
  (jj:W.findIn K (.ref zB) "send_note"=some (some (.ref qW)))
  (jC:K.lookup qW=some ⟨Xi,Xf,.func (W.fnOf "send_note" "Desk.send_note" (defArgs qj) (defBody qj) (defScope qj) .none Xj Xk Xl Xg yZ Xm),Xh⟩) (jD:W.codeIn K yZ "Desk.send_note"=true) (jE:W.keepIn K (.ref qW)=true) (xY:W.isFn K (.ref qW)=true)
  {vR:Addr}{YB YC:Option Addr}{YD:Array (Option Value)}{YF YG YH YJ Jt YK:Value}
  (xZ:W.findIn K (.ref zB) "kept"=some (some (.ref vR)))
  (wD:K.lookup vR=some ⟨YF,YB,.func (W.fnOf "kept" "Desk.kept" (defArgs jw) (defBody jw) (defScope jw) .none YG YH YJ YC Jt YK),YD⟩) (wF:W.codeIn K Jt "Desk.kept"=true) (wG:W.keepIn K (.ref vR)=true) (ZL:W.isFn K (.ref vR)=true)
  : ∃fd:FuncData,(∀(s:Shared) (v:Value),BindsTo s fd ⟨[v],[]⟩ [("script",v)])∧∀base:Heap,K.In base→base.Ns mainGlobals mg→FnOk l.prog w K mg base CX0 50 fa fd ["script"] (spLaw K):=by
 obtain⟨_,_,_,kL,dL,pL,nL,cL,tL,aL,lL,eL,rL⟩:=d60
 have e:=hfa.symm.trans (W.mg_of X G aL)
 cases e
 have Wi:Def K mg "choose" ZP ["n","k"]:=d0.dd X G fun _ _ _ _ _ _ us hl=>zJ hl fun _ _=>rfl
 have zbM:Def K mg "top_of" Vf ["k","number"]:=d1.dd X G fun _ _ _ _ _ _ us hl=>zJ hl fun _ _=>rfl
 have JQ:Def K mg "top_from" wH ["start","k","number"]:=d2.dd X G fun _ _ _ _ _ _ us hl=>jW hl fun _ _ _=>rfl
 have QW:Def K mg "above_top" vo ["k","number"]:=d3.dd X G fun _ _ _ _ _ _ us hl=>zJ hl fun _ _=>rfl
 have Qi:Def K mg "rounded_up" xg ["number","divisor"]:=d4.dd X G fun _ _ _ _ _ _ us hl=>zJ hl fun _ _=>rfl
 have zbN:Def K mg "box_of" Vg ["row","late"]:=d5.dd X G fun _ _ _ _ _ _ us hl=>zJ hl fun _ _=>rfl
 have JR:Def K mg "bell_row" wI ["box","late"]:=d6.dd X G fun _ _ _ _ _ _ us hl=>zJ hl fun _ _=>rfl
 have VJ:Def K mg "heard_box" Z6 ["reading","late"]:=d7.dd X G fun _ _ _ _ _ _ us hl=>zJ hl fun _ _=>rfl
 have QX:Def K mg "box_count" vp ["turns","bells","late"]:=d8.dd X G fun _ _ _ _ _ _ us hl=>jW hl fun _ _ _=>rfl
 have wX:Def K mg "greatest_part" je ["turns","bells","late"]:=d9.dd X G fun _ _ _ _ _ _ us hl=>jW hl fun _ _ _=>rfl
 have km:Def K mg "shortest_frame" vq ["bells","late","many"]:=d10.dd X G fun _ _ _ _ _ _ us hl=>jW hl fun _ _ _=>rfl
 have Qj:Def K mg "best_bells" Zn ["turns","late","most"]:=d11.dd X G fun _ _ _ _ _ _ us hl=>jW hl fun _ _ _=>rfl
 have JS:Def K mg "cheapest" QF ["many","late","turn_cost","bell_cost","most"]:=d12.dd X G fun _ _ _ _ _ _ us hl=>zcu hl fun _ _ _ _ _=>rfl
 have X5:Def K mg "box_number" Zo ["box"]:=d13.dd X G fun _ _ _ _ _ _ us hl=>zH hl fun _=>rfl
 have kI:Def K mg "box_of_message" qR ["message","bells"]:=d14.dd X G fun _ _ _ _ _ _ us hl=>zJ hl fun _ _=>rfl
 have Vq:Def K mg "written" yD ["message","turns","bells","late"]:=d15.dd X G fun _ _ _ _ _ _ us hl=>jB hl fun _ _ _ _=>rfl
 have zcr:Def K mg "read" zao ["reading","turns","bells","late"]:=d16.dd X G fun _ _ _ _ _ _ us hl=>jB hl fun _ _ _ _=>rfl
 have Jl:Def K mg "keyed_count" yE ["turns","bells","late"]:=d17.dd X G fun _ _ _ _ _ _ us hl=>jW hl fun _ _ _=>rfl
 have zaQ:Def K mg "keyed" KD ["message","turns","bells","late"]:=d18.dd X G fun _ _ _ _ _ _ us hl=>jB hl fun _ _ _ _=>rfl
 have Vr:Def K mg "unkeyed" Jz ["reading","turns","bells","late"]:=d19.dd X G fun _ _ _ _ _ _ us hl=>jB hl fun _ _ _ _=>rfl
 have Qv:Def K mg "refuse_silent" vW ["turns","bells"]:=d20.dd X G fun _ _ _ _ _ _ us hl=>zJ hl fun _ _=>rfl
 have zeI:Def K mg "rung" zap ["messages","turns","bells","late"]:=d21.dd X G fun _ _ _ _ _ _ us hl=>jB hl fun _ _ _ _=>rfl
 have Jm:Def K mg "by_messages" yF ["reading","turns","late"]:=d22.dd X G fun _ _ _ _ _ _ us hl=>jW hl fun _ _ _=>rfl
 have Jo:Def K mg "note_number" yG ["note"]:=d23.dd X G fun _ _ _ _ _ _ us hl=>zH hl fun _=>rfl
 have zaa:Def K mg "note_of" JB ["number"]:=d24.dd X G fun _ _ _ _ _ _ us hl=>zH hl fun _=>rfl
 have zc0:Def K mg "parts" KH ["number","base"]:=d25.dd X G fun _ _ _ _ _ _ us hl=>zJ hl fun _ _=>rfl
 have Zh:Def K mg "number_of_parts" xQ ["figures","base"]:=d26.dd X G fun _ _ _ _ _ _ us hl=>zJ hl fun _ _=>rfl
 have zcs:Def K mg "sent" zaq ["note","turns","bells","late"]:=d27.dd X G fun _ _ _ _ _ _ us hl=>jB hl fun _ _ _ _=>rfl
 have Wj:Def K mg "received" QG ["reading","turns","bells","late"]:=d28.dd X G fun _ _ _ _ _ _ us hl=>jB hl fun _ _ _ _=>rfl
 have vf:Def K mg "messages_ahead_of_end" qY ["reading","turns","bells","late"]:=d29.dd X G fun _ _ _ _ _ _ us hl=>jB hl fun _ _ _ _=>rfl
 have Qk:Def K mg "is_made_of" xj ["word","signs","most"]:=d30.dd X G fun _ _ _ _ _ _ us hl=>jW hl fun _ _ _=>rfl
 have Vs:Def K mg "name_in" yH ["word"]:=d31.dd X G fun _ _ _ _ _ _ us hl=>zH hl fun _=>rfl
 have Ql:Def K mg "figures_in" xm ["word","most"]:=d32.dd X G fun _ _ _ _ _ _ us hl=>zJ hl fun _ _=>rfl
 have QZ:Def K mg "number_in" vz ["word"]:=d33.dd X G fun _ _ _ _ _ _ us hl=>zH hl fun _=>rfl
 have Qm:Def K mg "message_in" xq ["word"]:=d34.dd X G fun _ _ _ _ _ _ us hl=>zH hl fun _=>rfl
 have JT:Def K mg "bells_in" wJ ["word"]:=d35.dd X G fun _ _ _ _ _ _ us hl=>zH hl fun _=>rfl
 have JV:Def K mg "turns_in" wK ["words"]:=d36.dd X G fun _ _ _ _ _ _ us hl=>zH hl fun _=>rfl
 have Zx:Def K mg "number_told" jL ["number"]:=d37.dd X G fun _ _ _ _ _ _ us hl=>zH hl fun _=>rfl
 have Qn:Def K mg "turns_told" xr ["turns"]:=d38.dd X G fun _ _ _ _ _ _ us hl=>zH hl fun _=>rfl
 have JW:Def K mg "count_of" wL ["frame"]:=d39.dd X G fun _ _ _ _ _ _ us hl=>zH hl fun _=>rfl
 have Qo:Def K mg "note_heard" Zq ["reading","frame"]:=d40.dd X G fun _ _ _ _ _ _ us hl=>zJ hl fun _ _=>rfl
 have Zy:Def K mg "choice_told" jM ["words"]:=d41.dd X G fun _ _ _ _ _ _ us hl=>zH hl fun _=>rfl
 have wY:Def K mg "cheapest_told" jf ["words"]:=d42.dd X G fun _ _ _ _ _ _ us hl=>zH hl fun _=>rfl
 have Qp:Def K mg "_law_drawn" xu ["cell","k"]:=d43.dd X G fun _ _ _ _ _ _ us hl=>zJ hl fun _ _=>rfl
 have Q0:Def K mg "_law_sign" vA ["number"]:=d44.dd X G fun _ _ _ _ _ _ us hl=>zH hl fun _=>rfl
 have Q3:Def K mg "_law_name" vB ["number"]:=d45.dd X G fun _ _ _ _ _ _ us hl=>zH hl fun _=>rfl
 have Zz:Def K mg "_law_number" jN ["number"]:=d46.dd X G fun _ _ _ _ _ _ us hl=>zH hl fun _=>rfl
 have yP:Def K mg "_law_message" jF ["number"]:=d47.dd X G fun _ _ _ _ _ _ us hl=>zH hl fun _=>rfl
 have Qq:Def K mg "_law_turns" xx ["number"]:=d48.dd X G fun _ _ _ _ _ _ us hl=>zH hl fun _=>rfl
 have yQ:Def K mg "_law_written" jG ["cell"]:=d49.dd X G fun _ _ _ _ _ _ us hl=>zH hl fun _=>rfl
 have Qs:Def K mg "_law_order" xF ["cell"]:=d50.dd X G fun _ _ _ _ _ _ us hl=>zH hl fun _=>rfl
 have yR:Def K mg "_law_is_name" jH ["word"]:=d51.dd X G fun _ _ _ _ _ _ us hl=>zH hl fun _=>rfl
 have kJ:Def K mg "_law_is_number" qT ["word","most"]:=d52.dd X G fun _ _ _ _ _ _ us hl=>zJ hl fun _ _=>rfl
 have JX:Def K mg "_law_fit" wM ["words","form"]:=d53.dd X G fun _ _ _ _ _ _ us hl=>zJ hl fun _ _=>rfl
 have Qt:Def K mg "_law_heard" xG ["words"]:=d54.dd X G fun _ _ _ _ _ _ us hl=>zH hl fun _=>rfl
 have wZ:Def K mg "_law_is_order" jg ["words"]:=d55.dd X G fun _ _ _ _ _ _ us hl=>zH hl fun _=>rfl
 have JZ:Def K mg "_law_due" wN ["order","frames"]:=d56.dd X G fun _ _ _ _ _ _ us hl=>zJ hl fun _ _=>rfl
 have Q4:Def K mg "_law_kept" vC ["desk","frames"]:=d57.dd X G fun _ _ _ _ _ _ us hl=>zJ hl fun _ _=>rfl
 have Q5:Def K mg "_law_kind" vD ["e"]:=d58.dd X G fun _ _ _ _ _ _ us hl=>zH hl fun _=>rfl
 have Q6:Def K mg "_law_told" vG ["desk","order"]:=d59.dd X G fun _ _ _ _ _ _ us hl=>zJ hl fun _ _=>rfl
 have O:Own K zM zB:=⟨⟨J4,Xa,Xb,Xc⟩,w6,yc,yS,kO,⟨Vt,Vu,Vv,Vw⟩,yU,yV,ZC,yd,⟨xM,⟨_,Zc vL vM,(fun_mk (st:=qZ) vL vM yW).binds (ps:=["self","turns","bells","late"]) (fun _ _ _ _ _ _ us hl=>jB hl fun _ _ _ _=>rfl)⟩,⟨Xd,jX,yX,Xe⟩⟩,⟨vN,⟨_,Zc kY kZ,(fun_mk (st:=jq) kY kZ ZD).binds (ps:=["self"]) (fun _ _ _ _ _ _ us hl=>zH hl fun _=>rfl)⟩,⟨Vx,xU,ZF,Vy⟩⟩,⟨vO,⟨_,Zc wg wk,(fun_mk (st:=jr) wg wk wu).binds (ps:=["self","order"]) (fun _ _ _ _ _ _ us hl=>zJ hl fun _ _=>rfl)⟩,⟨xV,ZG,wu⟩⟩,⟨vP,⟨_,Zc ww wy,(fun_mk (st:=jt) ww wy wz).binds (ps:=["self","words"]) (fun _ _ _ _ _ _ us hl=>zJ hl fun _ _=>rfl)⟩,⟨xW,ZJ,wz⟩⟩,⟨vQ,⟨_,Zc wA wB,(fun_mk (st:=ju) wA wB wC).binds (ps:=["self","words"]) (fun _ _ _ _ _ _ us hl=>zJ hl fun _ _=>rfl)⟩,⟨xX,ZK,wC⟩⟩,⟨jY,⟨_,Zc xN xO,(fun_mk (st:=qK) xN xO xP).binds (ps:=["self","words"]) (fun _ _ _ _ _ _ us hl=>zJ hl fun _ _=>rfl)⟩,⟨jZ,ye,xP⟩⟩,⟨qW,⟨_,Zc jC jD,(fun_mk (st:=qj) jC jD jE).binds (ps:=["self","words"]) (fun _ _ _ _ _ _ us hl=>zJ hl fun _ _=>rfl)⟩,⟨jj,xY,jE⟩⟩,⟨vR,⟨_,Zc wD wF,(fun_mk (st:=jw) wD wF wG).binds (ps:=["self","name"]) (fun _ _ _ _ _ _ us hl=>zJ hl fun _ _=>rfl)⟩,⟨xZ,ZL,wG⟩⟩⟩
 have ND:L2.NoDig K:=L2.nodig_of zgq zgr zgs
 have T:Txt K mg:=⟨W.mg_none_of X G z_range,W.mg_none_of X G z_isinstance,W.mg_none_of X G z_int,W.mg_none_of X G zar,W.mg_none_of X G z_len,W.mg_none_of X G zas,W.mg_none_of X G zcD,W.mg_none_of X G z_min,W.mg_none_of X G z_enumerate,W.mg_none_of X G z_sorted,W.mg_none_of X G zcE,W.mg_none_of X G z_all,W.mg_none_of X G z_str,W.mg_none_of X G z_zip,W.mg_none_of X G z_ValueError⟩
 exact⟨W.fnOf "law" "law" (defArgs Vh) (defBody Vh) (defScope Vh) .none kL dL pL nL cL tL,fun s v=>.of_eq rfl,fun base _ _=>ok_law hP (fun_mk lL eL rL) T Wi zbM JQ QW Qi zbN JR VJ QX wX km Qj JS X5 kI Vq zcr Jl zaQ Vr Qv zeI Jm Jo zaa zc0 Zh zcs Wj vf Qk Vs Ql QZ Qm JT JV Zx Qn JW Qo Zy wY Qp Q0 Q3 Zz yP Qq yQ Qs yR kJ JX Qt wZ JZ Q4 Q5 Q6 (W.mg_of X G jU) (W.mg_of X G Qh) (W.mg_of X G jT) (W.mg_of X G qp) (W.mg_of X G kh) (W.mg_of X G yO) (W.mg_of X G zP) (W.mg_of X G xJ) (W.mg_of X G Qa) (W.mg_of X G Wk) (W.mg_of X G vX) (W.mg_of X G qL) (W.mg_of X G vY) (W.mg_of X G qM) (W.mg_of X G zN) (W.mg_of X G jx) jV Km Zi jb zV yJ X6 ZZ xT Z0 O ND⟩
theorem walk {l:W.OpenLaw}{q:Program}{loose:List Str}{XP:(Str→Option Value)→Heap→Prop}{YP:World→Heap→Prop}{d:DefRec}{K:Params→W.Frag} (hn:l.most=some 63) (hdf:d.params.defaults=[]) (hq:PyProof.Rows.importsNone q=true)
  (hY:∀(w:World) (h:Heap),YP w h→(K w.params).In h)
  (F:∀(w:World) (mg:Str→Option Value) (fa:Addr) (h:Heap),(K w.params).In h→h.Ns mainGlobals mg→mg d.name=some (.ref fa) →
   ∃fd:FuncData,(∀(s:Shared) (u:Value),BindsTo s fd ⟨[u],[]⟩ [("script",u)])∧∀base:Heap,(K w.params).In base→base.Ns mainGlobals mg→FnOk l.prog w (K w.params) mg base CX0 50 fa fd ["script"] (spLaw (K w.params))) :
  W.WalkO q loose XP YP l.row.toRowW d [] (fun f vs=>PySem.call f vs):=
 L2.walk_of (n:=63) (k:=50) (x:="script") (CX:=fun _=>CX0) (sp:=fun w=>spLaw (K w.params)) hn (by decide) hdf hq ⟨rfl,by decide,by decide⟩ hY F (fun _ _ a ns hl hbt _ hS=>⟨a,ns,rfl,hS,hl,fun _=>rfl⟩) fun _ _ _ _ _ z=>z
end Bw
namespace Op
noncomputable section
open PySem PySem.W PyProof.Rows L2
noncomputable abbrev p:Program:=PySem.Challenge.pw_bellwrite_k93_orders_read
noncomputable def t (i:Nat):Stmt:=p.main.body.getD i (.Pass ⟨0,0,0,0⟩)
noncomputable def u (i j:Nat):Stmt:=inClass (t i) j
noncomputable abbrev fd (s:Stmt) (nm qn:Str) (g:Addr) (cl:List (Str×Addr)) (d kd dc pm:Value) (an:Option Addr) (cd ct:Value) (bi:Addr):FuncData:=⟨nm,qn,defArgs s,.stmts (defBody s),defScope s,g,cl,d,kd,dc,pm,an,cd,ct,bi⟩
noncomputable abbrev e (P:Params) (s:Str) (k:Tok) (v:Value):DictEntry:=⟨PyData.keyHash P s,.str s k,v⟩
abbrev n:=BT.node
abbrev z:=BT.nil
abbrev vi (k:Int):Value:=.int k 0
abbrev vr (a:Addr):Value:=.ref a
abbrev vs (x:Str) (k:Tok):Value:=.str x k
abbrev vc (k:Tok):Value:=.str "/claim/cut.py" k
noncomputable abbrev b7 (P:Params):=boot_o_7 P
noncomputable abbrev y7 (P:Params):BT:=n (boot_o_7 P) z z
noncomputable abbrev b8 (P:Params):=boot_o_8 P
noncomputable abbrev y8 (P:Params):BT:=n (boot_o_8 P) z z
abbrev vy:=Value.type
abbrev vb:=Value.builtin
abbrev tp (xs:Array Value):Obj:=⟨vy "tuple",none,.seq xs 0,#[]⟩
abbrev co (xs:Array Value):Obj:=⟨vy "code",none,.fields xs,#[]⟩
noncomputable abbrev fo (x:Stmt) (nm qn:Str) (m:Value) (c:Addr):Obj:=⟨vy "function",none,.func (fd x nm qn 3 [] .none .none .none m none (.ref c) .none 0),#[]⟩
noncomputable abbrev go (x:Stmt) (nm qn:Str):Obj:=⟨.none,none,.func (fd x nm qn 0 [] .none .none .none .none none .none .none 0),#[]⟩
noncomputable def lf:Life:=⟨[],[],[],0,[],[],false,#[],[],0,false,false,false,0,[2000,10,10],false,0,true,[],[],0,false⟩
noncomputable def o1:Obj:=co #[(vs "<module>" 182),(vs "<module>" 183),(vc 184),(vi 1),(vi 0),(vi 0),(vi 0),(vi 0),(vr 11),(.bool false),(vi 181),(vr 12),.none,.none,.none,.none,(vi 185),(vi 1),(vc 186)]
noncomputable def o2:Obj:=⟨(vy "frame"),none,.plain,#[(some (vr 13)),(some (vr 3)),(some (vr 3)),none,(some (vs "__main__" 164)),none,(some (vr 0))]⟩
noncomputable def o3 (P:Params):Obj:=⟨(vy "dict"),none,(.dict #[e P "__name__" 165 (vs "law_bellwrite_k93_orders_read" 849),e P "__doc__" 166 .none,e P "__package__" 167 .none,e P "__loader__" 168 (vb "__main__.__loader__#opaque"),e P "__spec__" 169 .none,e P "__annotations__" 170 (vr 6),e P "__builtins__" 171 (vr 4),e P "__file__" 173 (vc 172),e P "__cached__" 174 .none,e P "choose" 198 (vr 21),e P "top_of" 206 (vr 28),e P "top_from" 219 (vr 35),e P "above_top" 230 (vr 42),e P "rounded_up" 238 (vr 49),e P "BellError" 258 (vr 59),e P "NoRow" 274 (vr 72),e P "NoReading" 290 (vr 84),e P "TooGreat" 306 (vr 96),e P "TooMany" 322 (vr 108),e P "NoNote" 338 (vr 120),e P "NoOrder" 354 (vr 132),e P "NoName" 370 (vr 144),e P "box_of" 378 (vr 151),e P "bell_row" 384 (vr 156),e P "heard_box" 395 (vr 163),e P "box_count" 404 (vr 170),e P "greatest_part" 413 (vr 177),e P "shortest_frame" 425 (vr 184),e P "best_bells" 438 (vr 191),e P "cheapest" 455 (vr 198),e P "box_number" 463 (vr 203),e P "box_of_message" 475 (vr 210),e P "written" 485 (vr 217),e P "read" 496 (vr 224),e P "keyed_count" 507 (vr 231),e P "keyed" 513 (vr 236),e P "unkeyed" 519 (vr 241),e P "refuse_silent" 529 (vr 248),e P "rung" 535 (vr 253),e P "by_messages" 547 (vr 260),e P "SIGNS" 551 (vs "abcdefghijklmnopqrstuvwxyz " 550),e P "MOST_SIGNS" 553 (.int 60 552),e P "LEAST_COUNT" 555 (.int 3 554),e P "note_number" 565 (vr 267),e P "note_of" 574 (vr 274),e P "parts" 584 (vr 281),e P "number_of_parts" 590 (vr 286),e P "sent" 596 (vr 291),e P "received" 602 (vr 296),e P "messages_ahead_of_end" 615 (vr 303),e P "LETTERS" 619 (vs "abcdefghijklmnopqrstuvwxyz" 618),e P "MOST_LETTERS" 621 (.int 8 620),e P "FIGURES" 623 (vs "0123456789" 622),e P "MOST_FIGURES" 625 (.int 60 624),e P "MOST_FIGURES_OF_MESSAGE" 627 (.int 3000 626),e P "MOST_BELLS" 629 (.int 60 628),e P "is_made_of" 635 (vr 308),e P "name_in" 642 (vr 315),e P "figures_in" 650 (vr 322),e P "number_in" 657 (vr 329),e P "message_in" 664 (vr 336),e P "bells_in" 672 (vr 343),e P "turns_in" 678 (vr 348),e P "number_told" 685 (vr 355),e P "turns_told" 691 (vr 360),e P "Frame" 726 (vr 377),e P "Desk" 813 (vr 440),e P "count_of" 820 (vr 451),e P "note_heard" 828 (vr 458),e P "choice_told" 835 (vr 465),e P "cheapest_told" 848 (vr 472),e P "_law_drawn" 859 (vr 479),e P "_law_sign" 867 (vr 486),e P "_law_name" 874 (vr 493),e P "_law_number" 881 (vr 500),e P "_law_message" 888 (vr 507),e P "_law_turns" 894 (vr 512)] 77),#[]⟩
noncomputable def o4:Obj:=⟨.none,none,(.fields #[(vi 2),(vi 0),(vr 20),(vi 9),(vi 0),(vr 27),(vi 11),(vi 0),(vr 34),(vi 20),(vi 0),(vr 41),(vi 26),(vi 0),(vr 48),(vi 29),(vi 0),(vr 55),(vi 31),(vi 0),(vr 68),(vi 33),(vi 0),(vr 80),(vi 35),(vi 0),(vr 92),(vi 37),(vi 0),(vr 104),(vi 39),(vi 0),(vr 116),(vi 41),(vi 0),(vr 128),(vi 43),(vi 0),(vr 140),(vi 46),(vi 0),(vr 150),(vi 48),(vi 0),(vr 155),(vi 50),(vi 0),(vr 162),(vi 58),(vi 0),(vr 169),(vi 62),(vi 0),(vr 176),(vi 65),(vi 0),(vr 183),(vi 72),(vi 0),(vr 190),(vi 82),(vi 0),(vr 197),(vi 92),(vi 0),(vr 202),(vi 94),(vi 0),(vr 209),(vi 105),(vi 0),(vr 216),(vi 109),(vi 0),(vr 223),(vi 117),(vi 0),(vr 230),(vi 121),(vi 0),(vr 235),(vi 126),(vi 0),(vr 240),(vi 133),(vi 0),(vr 247),(vi 136),(vi 0),(vr 252),(vi 143),(vi 0),(vr 259),(vi 153),(vi 0),(vr 266),(vi 163),(vi 0),(vr 273),(vi 175),(vi 0),(vr 280),(vi 182),(vi 0),(vr 285),(vi 191),(vi 0),(vr 290),(vi 199),(vi 0),(vr 295),(vi 206),(vi 0),(vr 302),(vi 221),(vi 0),(vr 307),(vi 223),(vi 0),(vr 314),(vi 227),(vi 0),(vr 321),(vi 231),(vi 0),(vr 328),(vi 233),(vi 0),(vr 335),(vi 235),(vi 0),(vr 342),(vi 240),(vi 0),(vr 347),(vi 248),(vi 0),(vr 354),(vi 250),(vi 0),(vr 359),(vi 253),(vi 0),(vr 366),(vi 259),(vi 0),(vr 387),(vi 311),(vi 0),(vr 450),(vi 313),(vi 0),(vr 457),(vi 317),(vi 0),(vr 464),(vi 325),(vi 0),(vr 471),(vi 336),(vi 0),(vr 478),(vi 340),(vi 0),(vr 485),(vi 344),(vi 0),(vr 492),(vi 346),(vi 0),(vr 499),(vi 350),(vi 0),(vr 506),(vi 354),(vi 0),(vr 511)]),#[]⟩
noncomputable def o5:Obj:=tp #[(vs "n" 192),(vs "k" 193),(vs "ways" 194),(vs "taken" 195)]
noncomputable def o6:Obj:=go (t 1) "choose" "choose"
noncomputable def o7:Obj:=co #[(vs "choose" 189),(vs "choose" 190),(vc 191),(vi 2),(vi 2),(vi 0),(vi 0),(vi 3),(vr 15),(.bool true),(vi 181),(vr 16),.none,(vr 17),(vr 18),(vr 19),(vi 196),(vi 2),(vc 197)]
noncomputable def o8:Obj:=fo (t 1) "choose" "choose" (vs "bellwrite.choices" 187) 20
noncomputable def o9:Obj:=tp #[(vs "k" 202),(vs "number" 203)]
noncomputable def o10:Obj:=go (t 2) "top_of" "top_of"
noncomputable def o11:Obj:=co #[(vs "top_of" 199),(vs "top_of" 200),(vc 201),(vi 9),(vi 2),(vi 0),(vi 0),(vi 3),(vr 22),(.bool true),(vi 181),(vr 23),.none,(vr 24),(vr 25),(vr 26),(vi 204),(vi 9),(vc 205)]
noncomputable def o12:Obj:=fo (t 2) "top_of" "top_of" (vs "bellwrite.choices" 187) 27
noncomputable def o13:Obj:=tp #[(vs "start" 210),(vs "k" 211),(vs "number" 212),(vs "top" 213),(vs "ways" 214),(vs "most_off" 215),(vs "step" 216)]
noncomputable def o14:Obj:=go (t 3) "top_from" "top_from"
noncomputable def o15:Obj:=co #[(vs "top_from" 207),(vs "top_from" 208),(vc 209),(vi 11),(vi 3),(vi 0),(vi 0),(vi 3),(vr 29),(.bool true),(vi 181),(vr 30),.none,(vr 31),(vr 32),(vr 33),(vi 217),(vi 11),(vc 218)]
noncomputable def o16:Obj:=fo (t 3) "top_from" "top_from" (vs "bellwrite.choices" 187) 34
noncomputable def o17:Obj:=tp #[(vs "k" 223),(vs "number" 224),(vs "product" 225),(vs "factor" 226),(vs "figures" 227)]
noncomputable def o18:Obj:=go (t 4) "above_top" "above_top"
noncomputable def o19:Obj:=co #[(vs "above_top" 220),(vs "above_top" 221),(vc 222),(vi 20),(vi 2),(vi 0),(vi 0),(vi 3),(vr 36),(.bool true),(vi 181),(vr 37),.none,(vr 38),(vr 39),(vr 40),(vi 228),(vi 20),(vc 229)]
noncomputable def o20:Obj:=fo (t 4) "above_top" "above_top" (vs "bellwrite.choices" 187) 41
noncomputable def o21:Obj:=tp #[(vs "number" 234),(vs "divisor" 235)]
noncomputable def o22:Obj:=go (t 5) "rounded_up" "rounded_up"
noncomputable def o23:Obj:=co #[(vs "rounded_up" 231),(vs "rounded_up" 232),(vc 233),(vi 26),(vi 2),(vi 0),(vi 0),(vi 3),(vr 43),(.bool true),(vi 181),(vr 44),.none,(vr 45),(vr 46),(vr 47),(vi 236),(vi 26),(vc 237)]
noncomputable def o24:Obj:=fo (t 5) "rounded_up" "rounded_up" (vs "bellwrite.choices" 187) 48
noncomputable def o25:Obj:=tp #[(vy "ValueError")]
noncomputable def o26:Obj:=⟨(vy "builtin_function_or_method"),none,(.fields #[(vb "type.__prepare__"),(vy "type")]),#[]⟩
noncomputable def o27 (P:Params):Obj:=⟨(vy "dict"),none,(.dict #[e P "__module__" 248 (vs "bellwrite.errors" 239),e P "__qualname__" 250 (vs "BellError" 249),e P "__firstlineno__" 252 (.int 29 251),e P "__static_attributes__" 253 (vr 57)] 4),#[]⟩
noncomputable def o28:Obj:=co #[(vs "BellError" 243),(vs "BellError" 244),(vc 245),(vi 29),(vi 0),(vi 0),(vi 0),(vi 0),(vr 53),(.bool false),(vi 181),(vr 54),.none,.none,.none,.none,(vi 246),(vi 29),(vc 247)]
noncomputable def o29:Obj:=⟨(vy "frame"),none,.plain,#[(some (vr 55)),(some (vr 3)),(some (vr 52)),none,(some (vs "bellwrite.errors" 239)),none,(some (vr 0))]⟩
noncomputable def o30 (P:Params):Obj:=⟨(vy "dict"),none,(.dict #[e P "__module__" 248 (vs "bellwrite.errors" 239),e P "__firstlineno__" 252 (.int 29 251),e P "__static_attributes__" 253 (vr 57),e P "__weakref__" 255 (vr 60),e P "__doc__" 256 .none] 3),#[]⟩
noncomputable def o31:Obj:=⟨(vy "type"),none,(.cls ⟨"BellError",[(vy "ValueError")],[(vr 59),(vy "ValueError"),(vy "Exception"),(vy "BaseException"),(vy "object")],58,"BellError",true,[],[(vr 72),(vr 84),(vr 96),(vr 108),(vr 120),(vr 132),(vr 144)],false,none,false⟩),#[(some (vr 50)),none,(some (vs "BellError" 241)),(some (vs "BellError" 249)),(some (vb "ValueError.__new__")),(some (.bool true))]⟩
noncomputable def o32:Obj:=⟨(vy "getset_descriptor"),none,(.fields #[(vs "__weakref__" 254),(vr 59),(vb "ExceptionGroup.__weakref__"),.none]),#[]⟩
noncomputable def o33:Obj:=⟨(vy "super"),none,(.fields #[(vr 59),(vr 59),(vr 59)]),#[]⟩
noncomputable def o34:Obj:=⟨(vy "builtin_function_or_method"),none,(.fields #[(vb "object.__init_subclass__"),(vr 59)]),#[]⟩
noncomputable def o35:Obj:=tp #[(vr 59)]
noncomputable def o36 (P:Params):Obj:=⟨(vy "dict"),none,(.dict #[e P "__module__" 266 (vs "bellwrite.errors" 239),e P "__qualname__" 268 (vs "NoRow" 267),e P "__firstlineno__" 270 (.int 31 269),e P "__static_attributes__" 271 (vr 70)] 4),#[]⟩
noncomputable def o37:Obj:=co #[(vs "NoRow" 261),(vs "NoRow" 262),(vc 263),(vi 31),(vi 0),(vi 0),(vi 0),(vi 0),(vr 66),(.bool false),(vi 181),(vr 67),.none,.none,.none,.none,(vi 264),(vi 31),(vc 265)]
noncomputable def o38:Obj:=⟨(vy "frame"),none,.plain,#[(some (vr 68)),(some (vr 3)),(some (vr 65)),none,(some (vs "bellwrite.errors" 239)),none,(some (vr 0))]⟩
noncomputable def o39 (P:Params):Obj:=⟨(vy "dict"),none,(.dict #[e P "__module__" 266 (vs "bellwrite.errors" 239),e P "__firstlineno__" 270 (.int 31 269),e P "__static_attributes__" 271 (vr 70),e P "__doc__" 272 .none] 2),#[]⟩
noncomputable def o40:Obj:=⟨(vy "type"),none,(.cls ⟨"NoRow",[(vr 59)],[(vr 72),(vr 59),(vy "ValueError"),(vy "Exception"),(vy "BaseException"),(vy "object")],71,"NoRow",true,[],[],false,none,false⟩),#[(some (vr 63)),none,(some (vs "NoRow" 259)),(some (vs "NoRow" 267)),(some (vb "ValueError.__new__")),(some (.bool true))]⟩
noncomputable def o41:Obj:=⟨(vy "super"),none,(.fields #[(vr 72),(vr 72),(vr 72)]),#[]⟩
noncomputable def o42:Obj:=⟨(vy "builtin_function_or_method"),none,(.fields #[(vb "object.__init_subclass__"),(vr 72)]),#[]⟩
noncomputable def o43 (P:Params):Obj:=⟨(vy "dict"),none,(.dict #[e P "__module__" 282 (vs "bellwrite.errors" 239),e P "__qualname__" 284 (vs "NoReading" 283),e P "__firstlineno__" 286 (.int 33 285),e P "__static_attributes__" 287 (vr 82)] 4),#[]⟩
noncomputable def o44:Obj:=co #[(vs "NoReading" 277),(vs "NoReading" 278),(vc 279),(vi 33),(vi 0),(vi 0),(vi 0),(vi 0),(vr 78),(.bool false),(vi 181),(vr 79),.none,.none,.none,.none,(vi 280),(vi 33),(vc 281)]
noncomputable def o45:Obj:=⟨(vy "frame"),none,.plain,#[(some (vr 80)),(some (vr 3)),(some (vr 77)),none,(some (vs "bellwrite.errors" 239)),none,(some (vr 0))]⟩
noncomputable def o46 (P:Params):Obj:=⟨(vy "dict"),none,(.dict #[e P "__module__" 282 (vs "bellwrite.errors" 239),e P "__firstlineno__" 286 (.int 33 285),e P "__static_attributes__" 287 (vr 82),e P "__doc__" 288 .none] 2),#[]⟩
noncomputable def o47:Obj:=⟨(vy "type"),none,(.cls ⟨"NoReading",[(vr 59)],[(vr 84),(vr 59),(vy "ValueError"),(vy "Exception"),(vy "BaseException"),(vy "object")],83,"NoReading",true,[],[],false,none,false⟩),#[(some (vr 75)),none,(some (vs "NoReading" 275)),(some (vs "NoReading" 283)),(some (vb "ValueError.__new__")),(some (.bool true))]⟩
noncomputable def o48:Obj:=⟨(vy "super"),none,(.fields #[(vr 84),(vr 84),(vr 84)]),#[]⟩
noncomputable def o49:Obj:=⟨(vy "builtin_function_or_method"),none,(.fields #[(vb "object.__init_subclass__"),(vr 84)]),#[]⟩
noncomputable def o50 (P:Params):Obj:=⟨(vy "dict"),none,(.dict #[e P "__module__" 298 (vs "bellwrite.errors" 239),e P "__qualname__" 300 (vs "TooGreat" 299),e P "__firstlineno__" 302 (.int 35 301),e P "__static_attributes__" 303 (vr 94)] 4),#[]⟩
noncomputable def o51:Obj:=co #[(vs "TooGreat" 293),(vs "TooGreat" 294),(vc 295),(vi 35),(vi 0),(vi 0),(vi 0),(vi 0),(vr 90),(.bool false),(vi 181),(vr 91),.none,.none,.none,.none,(vi 296),(vi 35),(vc 297)]
noncomputable def o52:Obj:=⟨(vy "frame"),none,.plain,#[(some (vr 92)),(some (vr 3)),(some (vr 89)),none,(some (vs "bellwrite.errors" 239)),none,(some (vr 0))]⟩
noncomputable def o53 (P:Params):Obj:=⟨(vy "dict"),none,(.dict #[e P "__module__" 298 (vs "bellwrite.errors" 239),e P "__firstlineno__" 302 (.int 35 301),e P "__static_attributes__" 303 (vr 94),e P "__doc__" 304 .none] 2),#[]⟩
noncomputable def o54:Obj:=⟨(vy "type"),none,(.cls ⟨"TooGreat",[(vr 59)],[(vr 96),(vr 59),(vy "ValueError"),(vy "Exception"),(vy "BaseException"),(vy "object")],95,"TooGreat",true,[],[],false,none,false⟩),#[(some (vr 87)),none,(some (vs "TooGreat" 291)),(some (vs "TooGreat" 299)),(some (vb "ValueError.__new__")),(some (.bool true))]⟩
noncomputable def o55:Obj:=⟨(vy "super"),none,(.fields #[(vr 96),(vr 96),(vr 96)]),#[]⟩
noncomputable def o56:Obj:=⟨(vy "builtin_function_or_method"),none,(.fields #[(vb "object.__init_subclass__"),(vr 96)]),#[]⟩
noncomputable def o57 (P:Params):Obj:=⟨(vy "dict"),none,(.dict #[e P "__module__" 314 (vs "bellwrite.errors" 239),e P "__qualname__" 316 (vs "TooMany" 315),e P "__firstlineno__" 318 (.int 37 317),e P "__static_attributes__" 319 (vr 106)] 4),#[]⟩
noncomputable def o58:Obj:=co #[(vs "TooMany" 309),(vs "TooMany" 310),(vc 311),(vi 37),(vi 0),(vi 0),(vi 0),(vi 0),(vr 102),(.bool false),(vi 181),(vr 103),.none,.none,.none,.none,(vi 312),(vi 37),(vc 313)]
noncomputable def o59:Obj:=⟨(vy "frame"),none,.plain,#[(some (vr 104)),(some (vr 3)),(some (vr 101)),none,(some (vs "bellwrite.errors" 239)),none,(some (vr 0))]⟩
noncomputable def o60 (P:Params):Obj:=⟨(vy "dict"),none,(.dict #[e P "__module__" 314 (vs "bellwrite.errors" 239),e P "__firstlineno__" 318 (.int 37 317),e P "__static_attributes__" 319 (vr 106),e P "__doc__" 320 .none] 2),#[]⟩
noncomputable def o61:Obj:=⟨(vy "type"),none,(.cls ⟨"TooMany",[(vr 59)],[(vr 108),(vr 59),(vy "ValueError"),(vy "Exception"),(vy "BaseException"),(vy "object")],107,"TooMany",true,[],[],false,none,false⟩),#[(some (vr 99)),none,(some (vs "TooMany" 307)),(some (vs "TooMany" 315)),(some (vb "ValueError.__new__")),(some (.bool true))]⟩
noncomputable def o62:Obj:=⟨(vy "super"),none,(.fields #[(vr 108),(vr 108),(vr 108)]),#[]⟩
noncomputable def o63:Obj:=⟨(vy "builtin_function_or_method"),none,(.fields #[(vb "object.__init_subclass__"),(vr 108)]),#[]⟩
noncomputable def o64 (P:Params):Obj:=⟨(vy "dict"),none,(.dict #[e P "__module__" 330 (vs "bellwrite.errors" 239),e P "__qualname__" 332 (vs "NoNote" 331),e P "__firstlineno__" 334 (.int 39 333),e P "__static_attributes__" 335 (vr 118)] 4),#[]⟩
noncomputable def o65:Obj:=co #[(vs "NoNote" 325),(vs "NoNote" 326),(vc 327),(vi 39),(vi 0),(vi 0),(vi 0),(vi 0),(vr 114),(.bool false),(vi 181),(vr 115),.none,.none,.none,.none,(vi 328),(vi 39),(vc 329)]
noncomputable def o66:Obj:=⟨(vy "frame"),none,.plain,#[(some (vr 116)),(some (vr 3)),(some (vr 113)),none,(some (vs "bellwrite.errors" 239)),none,(some (vr 0))]⟩
noncomputable def o67 (P:Params):Obj:=⟨(vy "dict"),none,(.dict #[e P "__module__" 330 (vs "bellwrite.errors" 239),e P "__firstlineno__" 334 (.int 39 333),e P "__static_attributes__" 335 (vr 118),e P "__doc__" 336 .none] 2),#[]⟩
noncomputable def o68:Obj:=⟨(vy "type"),none,(.cls ⟨"NoNote",[(vr 59)],[(vr 120),(vr 59),(vy "ValueError"),(vy "Exception"),(vy "BaseException"),(vy "object")],119,"NoNote",true,[],[],false,none,false⟩),#[(some (vr 111)),none,(some (vs "NoNote" 323)),(some (vs "NoNote" 331)),(some (vb "ValueError.__new__")),(some (.bool true))]⟩
noncomputable def o69:Obj:=⟨(vy "super"),none,(.fields #[(vr 120),(vr 120),(vr 120)]),#[]⟩
noncomputable def o70:Obj:=⟨(vy "builtin_function_or_method"),none,(.fields #[(vb "object.__init_subclass__"),(vr 120)]),#[]⟩
noncomputable def o71 (P:Params):Obj:=⟨(vy "dict"),none,(.dict #[e P "__module__" 346 (vs "bellwrite.errors" 239),e P "__qualname__" 348 (vs "NoOrder" 347),e P "__firstlineno__" 350 (.int 41 349),e P "__static_attributes__" 351 (vr 130)] 4),#[]⟩
noncomputable def o72:Obj:=co #[(vs "NoOrder" 341),(vs "NoOrder" 342),(vc 343),(vi 41),(vi 0),(vi 0),(vi 0),(vi 0),(vr 126),(.bool false),(vi 181),(vr 127),.none,.none,.none,.none,(vi 344),(vi 41),(vc 345)]
noncomputable def o73:Obj:=⟨(vy "frame"),none,.plain,#[(some (vr 128)),(some (vr 3)),(some (vr 125)),none,(some (vs "bellwrite.errors" 239)),none,(some (vr 0))]⟩
noncomputable def o74 (P:Params):Obj:=⟨(vy "dict"),none,(.dict #[e P "__module__" 346 (vs "bellwrite.errors" 239),e P "__firstlineno__" 350 (.int 41 349),e P "__static_attributes__" 351 (vr 130),e P "__doc__" 352 .none] 2),#[]⟩
noncomputable def o75:Obj:=⟨(vy "type"),none,(.cls ⟨"NoOrder",[(vr 59)],[(vr 132),(vr 59),(vy "ValueError"),(vy "Exception"),(vy "BaseException"),(vy "object")],131,"NoOrder",true,[],[],false,none,false⟩),#[(some (vr 123)),none,(some (vs "NoOrder" 339)),(some (vs "NoOrder" 347)),(some (vb "ValueError.__new__")),(some (.bool true))]⟩
noncomputable def o76:Obj:=⟨(vy "super"),none,(.fields #[(vr 132),(vr 132),(vr 132)]),#[]⟩
noncomputable def o77:Obj:=⟨(vy "builtin_function_or_method"),none,(.fields #[(vb "object.__init_subclass__"),(vr 132)]),#[]⟩
noncomputable def o78 (P:Params):Obj:=⟨(vy "dict"),none,(.dict #[e P "__module__" 362 (vs "bellwrite.errors" 239),e P "__qualname__" 364 (vs "NoName" 363),e P "__firstlineno__" 366 (.int 43 365),e P "__static_attributes__" 367 (vr 142)] 4),#[]⟩
noncomputable def o79:Obj:=co #[(vs "NoName" 357),(vs "NoName" 358),(vc 359),(vi 43),(vi 0),(vi 0),(vi 0),(vi 0),(vr 138),(.bool false),(vi 181),(vr 139),.none,.none,.none,.none,(vi 360),(vi 43),(vc 361)]
noncomputable def o80:Obj:=⟨(vy "frame"),none,.plain,#[(some (vr 140)),(some (vr 3)),(some (vr 137)),none,(some (vs "bellwrite.errors" 239)),none,(some (vr 0))]⟩
noncomputable def o81 (P:Params):Obj:=⟨(vy "dict"),none,(.dict #[e P "__module__" 362 (vs "bellwrite.errors" 239),e P "__firstlineno__" 366 (.int 43 365),e P "__static_attributes__" 367 (vr 142),e P "__doc__" 368 .none] 2),#[]⟩
noncomputable def o82:Obj:=⟨(vy "type"),none,(.cls ⟨"NoName",[(vr 59)],[(vr 144),(vr 59),(vy "ValueError"),(vy "Exception"),(vy "BaseException"),(vy "object")],143,"NoName",true,[],[],false,none,false⟩),#[(some (vr 135)),none,(some (vs "NoName" 355)),(some (vs "NoName" 363)),(some (vb "ValueError.__new__")),(some (.bool true))]⟩
noncomputable def o83:Obj:=⟨(vy "super"),none,(.fields #[(vr 144),(vr 144),(vr 144)]),#[]⟩
noncomputable def o84:Obj:=⟨(vy "builtin_function_or_method"),none,(.fields #[(vb "object.__init_subclass__"),(vr 144)]),#[]⟩
noncomputable def o85:Obj:=go (t 16) "box_of" "box_of"
noncomputable def o86:Obj:=co #[(vs "box_of" 373),(vs "box_of" 374),(vc 375),(vi 46),(vi 2),(vi 0),(vi 0),(vi 3),(vr 147),(.bool true),(vi 181),(vr 148),.none,.none,.none,(vr 149),(vi 376),(vi 46),(vc 377)]
noncomputable def o87:Obj:=fo (t 16) "box_of" "box_of" (vs "bellwrite.boxes" 371) 150
noncomputable def o88:Obj:=go (t 17) "bell_row" "bell_row"
noncomputable def o89:Obj:=co #[(vs "bell_row" 379),(vs "bell_row" 380),(vc 381),(vi 48),(vi 2),(vi 0),(vi 0),(vi 3),(vr 152),(.bool true),(vi 181),(vr 153),.none,.none,.none,(vr 154),(vi 382),(vi 48),(vc 383)]
noncomputable def o90:Obj:=fo (t 17) "bell_row" "bell_row" (vs "bellwrite.boxes" 371) 155
noncomputable def o91:Obj:=tp #[(vs "reading" 388),(vs "late" 389),(vs "box" 390),(vs "before" 391),(vs "part" 392)]
noncomputable def o92:Obj:=go (t 18) "heard_box" "heard_box"
noncomputable def o93:Obj:=co #[(vs "heard_box" 385),(vs "heard_box" 386),(vc 387),(vi 50),(vi 2),(vi 0),(vi 0),(vi 3),(vr 157),(.bool true),(vi 181),(vr 158),.none,(vr 159),(vr 160),(vr 161),(vi 393),(vi 50),(vc 394)]
noncomputable def o94:Obj:=fo (t 18) "heard_box" "heard_box" (vs "bellwrite.boxes" 371) 162
noncomputable def o95:Obj:=tp #[(vs "turns" 399),(vs "bells" 400),(vs "late" 401)]
noncomputable def o96:Obj:=go (t 19) "box_count" "box_count"
noncomputable def o97:Obj:=co #[(vs "box_count" 396),(vs "box_count" 397),(vc 398),(vi 58),(vi 3),(vi 0),(vi 0),(vi 3),(vr 164),(.bool true),(vi 181),(vr 165),.none,(vr 166),(vr 167),(vr 168),(vi 402),(vi 58),(vc 403)]
noncomputable def o98:Obj:=fo (t 19) "box_count" "box_count" (vs "bellwrite.boxes" 371) 169
noncomputable def o99:Obj:=tp #[(vs "turns" 408),(vs "bells" 409),(vs "late" 410)]
noncomputable def o100:Obj:=go (t 20) "greatest_part" "greatest_part"
noncomputable def zgt:Obj:=co #[(vs "greatest_part" 405),(vs "greatest_part" 406),(vc 407),(vi 62),(vi 3),(vi 0),(vi 0),(vi 3),(vr 171),(.bool true),(vi 181),(vr 172),.none,(vr 173),(vr 174),(vr 175),(vi 411),(vi 62),(vc 412)]
noncomputable def zgu:Obj:=fo (t 20) "greatest_part" "greatest_part" (vs "bellwrite.boxes" 371) 176
noncomputable def zgv:Obj:=tp #[(vs "bells" 419),(vs "late" 420),(vs "many" 421),(vs "greatest" 422)]
noncomputable def zgw:Obj:=go (t 22) "shortest_frame" "shortest_frame"
noncomputable def zgx:Obj:=co #[(vs "shortest_frame" 416),(vs "shortest_frame" 417),(vc 418),(vi 65),(vi 3),(vi 0),(vi 0),(vi 3),(vr 178),(.bool true),(vi 181),(vr 179),.none,(vr 180),(vr 181),(vr 182),(vi 423),(vi 65),(vc 424)]
noncomputable def zgy:Obj:=fo (t 22) "shortest_frame" "shortest_frame" (vs "bellwrite.frames" 414) 183
noncomputable def zgz:Obj:=tp #[(vs "turns" 429),(vs "late" 430),(vs "most" 431),(vs "best" 432),(vs "greatest" 433),(vs "bells" 434),(vs "many" 435)]
noncomputable def zgA:Obj:=go (t 23) "best_bells" "best_bells"
noncomputable def zgB:Obj:=co #[(vs "best_bells" 426),(vs "best_bells" 427),(vc 428),(vi 72),(vi 3),(vi 0),(vi 0),(vi 3),(vr 185),(.bool true),(vi 181),(vr 186),.none,(vr 187),(vr 188),(vr 189),(vi 436),(vi 72),(vc 437)]
noncomputable def zgC:Obj:=fo (t 23) "best_bells" "best_bells" (vs "bellwrite.frames" 414) 190
noncomputable def o111:Obj:=tp #[(vs "many" 444),(vs "late" 445),(vs "turn_cost" 446),(vs "bell_cost" 447),(vs "most" 448),(vs "best" 449),(vs "bells" 450),(vs "turns" 451),(vs "cost" 452)]
noncomputable def zgD:Obj:=go (t 25) "cheapest" "cheapest"
noncomputable def zgE:Obj:=co #[(vs "cheapest" 441),(vs "cheapest" 442),(vc 443),(vi 82),(vi 5),(vi 0),(vi 0),(vi 3),(vr 192),(.bool true),(vi 181),(vr 193),.none,(vr 194),(vr 195),(vr 196),(vi 453),(vi 82),(vc 454)]
noncomputable def zgF:Obj:=fo (t 25) "cheapest" "cheapest" (vs "bellwrite.costs" 439) 197
noncomputable def zgG:Obj:=go (t 27) "box_number" "box_number"
noncomputable def zgH:Obj:=co #[(vs "box_number" 458),(vs "box_number" 459),(vc 460),(vi 92),(vi 1),(vi 0),(vi 0),(vi 3),(vr 199),(.bool true),(vi 181),(vr 200),.none,.none,.none,(vr 201),(vi 461),(vi 92),(vc 462)]
noncomputable def zgI:Obj:=fo (t 27) "box_number" "box_number" (vs "bellwrite.messages" 456) 202
noncomputable def zgJ:Obj:=tp #[(vs "message" 467),(vs "bells" 468),(vs "box" 469),(vs "left" 470),(vs "top" 471),(vs "place" 472)]
noncomputable def zgK:Obj:=go (t 28) "box_of_message" "box_of_message"
noncomputable def zgL:Obj:=co #[(vs "box_of_message" 464),(vs "box_of_message" 465),(vc 466),(vi 94),(vi 2),(vi 0),(vi 0),(vi 3),(vr 204),(.bool true),(vi 181),(vr 205),.none,(vr 206),(vr 207),(vr 208),(vi 473),(vi 94),(vc 474)]
noncomputable def zgM:Obj:=fo (t 28) "box_of_message" "box_of_message" (vs "bellwrite.messages" 456) 209
noncomputable def zgN:Obj:=tp #[(vs "message" 479),(vs "turns" 480),(vs "bells" 481),(vs "late" 482)]
noncomputable def zgO:Obj:=go (t 29) "written" "written"
noncomputable def zgP:Obj:=co #[(vs "written" 476),(vs "written" 477),(vc 478),(vi 105),(vi 4),(vi 0),(vi 0),(vi 3),(vr 211),(.bool true),(vi 181),(vr 212),.none,(vr 213),(vr 214),(vr 215),(vi 483),(vi 105),(vc 484)]
noncomputable def zgQ:Obj:=fo (t 29) "written" "written" (vs "bellwrite.messages" 456) 216
noncomputable def zgR:Obj:=tp #[(vs "reading" 489),(vs "turns" 490),(vs "bells" 491),(vs "late" 492),(vs "message" 493)]
noncomputable def zgS:Obj:=go (t 30) "read" "read"
noncomputable def zgT:Obj:=co #[(vs "read" 486),(vs "read" 487),(vc 488),(vi 109),(vi 4),(vi 0),(vi 0),(vi 3),(vr 218),(.bool true),(vi 181),(vr 219),.none,(vr 220),(vr 221),(vr 222),(vi 494),(vi 109),(vc 495)]
noncomputable def zgU:Obj:=fo (t 30) "read" "read" (vs "bellwrite.messages" 456) 223
noncomputable def zgV:Obj:=tp #[(vs "turns" 502),(vs "bells" 503),(vs "late" 504)]
noncomputable def zgW:Obj:=go (t 32) "keyed_count" "keyed_count"
noncomputable def zgX:Obj:=co #[(vs "keyed_count" 499),(vs "keyed_count" 500),(vc 501),(vi 117),(vi 3),(vi 0),(vi 0),(vi 3),(vr 225),(.bool true),(vi 181),(vr 226),.none,(vr 227),(vr 228),(vr 229),(vi 505),(vi 117),(vc 506)]
noncomputable def zgY:Obj:=fo (t 32) "keyed_count" "keyed_count" (vs "bellwrite.lags" 497) 230
noncomputable def zgZ:Obj:=go (t 33) "keyed" "keyed"
noncomputable def zg0:Obj:=co #[(vs "keyed" 508),(vs "keyed" 509),(vc 510),(vi 121),(vi 4),(vi 0),(vi 0),(vi 3),(vr 232),(.bool true),(vi 181),(vr 233),.none,.none,.none,(vr 234),(vi 511),(vi 121),(vc 512)]
noncomputable def zg1:Obj:=fo (t 33) "keyed" "keyed" (vs "bellwrite.lags" 497) 235
noncomputable def zg2:Obj:=go (t 34) "unkeyed" "unkeyed"
noncomputable def zg3:Obj:=co #[(vs "unkeyed" 514),(vs "unkeyed" 515),(vc 516),(vi 126),(vi 4),(vi 0),(vi 0),(vi 3),(vr 237),(.bool true),(vi 181),(vr 238),.none,.none,.none,(vr 239),(vi 517),(vi 126),(vc 518)]
noncomputable def zg4:Obj:=fo (t 34) "unkeyed" "unkeyed" (vs "bellwrite.lags" 497) 240
noncomputable def zg5:Obj:=tp #[(vs "turns" 525),(vs "bells" 526)]
noncomputable def zg6:Obj:=go (t 36) "refuse_silent" "refuse_silent"
noncomputable def zg7:Obj:=co #[(vs "refuse_silent" 522),(vs "refuse_silent" 523),(vc 524),(vi 133),(vi 2),(vi 0),(vi 0),(vi 3),(vr 242),(.bool true),(vi 181),(vr 243),.none,(vr 244),(vr 245),(vr 246),(vi 527),(vi 133),(vc 528)]
noncomputable def zg8:Obj:=fo (t 36) "refuse_silent" "refuse_silent" (vs "bellwrite.talks" 520) 247
noncomputable def zg9:Obj:=go (t 37) "rung" "rung"
noncomputable def zha:Obj:=co #[(vs "rung" 530),(vs "rung" 531),(vc 532),(vi 136),(vi 4),(vi 0),(vi 0),(vi 3),(vr 249),(.bool true),(vi 181),(vr 250),.none,.none,.none,(vr 251),(vi 533),(vi 136),(vc 534)]
noncomputable def zhb:Obj:=fo (t 37) "rung" "rung" (vs "bellwrite.talks" 520) 252
noncomputable def zhc:Obj:=tp #[(vs "reading" 539),(vs "turns" 540),(vs "late" 541),(vs "length" 542),(vs "heard_of" 543),(vs "turn" 544)]
noncomputable def zhd:Obj:=go (t 38) "by_messages" "by_messages"
noncomputable def zhe:Obj:=co #[(vs "by_messages" 536),(vs "by_messages" 537),(vc 538),(vi 143),(vi 3),(vi 0),(vi 0),(vi 3),(vr 254),(.bool true),(vi 181),(vr 255),.none,(vr 256),(vr 257),(vr 258),(vi 545),(vi 143),(vc 546)]
noncomputable def zhf:Obj:=fo (t 38) "by_messages" "by_messages" (vs "bellwrite.talks" 520) 259
noncomputable def zhg:Obj:=tp #[(vs "note" 559),(vs "number" 560),(vs "sign" 561),(vs "place" 562)]
noncomputable def zhh:Obj:=go (t 43) "note_number" "note_number"
noncomputable def zhi:Obj:=co #[(vs "note_number" 556),(vs "note_number" 557),(vc 558),(vi 153),(vi 1),(vi 0),(vi 0),(vi 3),(vr 261),(.bool true),(vi 181),(vr 262),.none,(vr 263),(vr 264),(vr 265),(vi 563),(vi 153),(vc 564)]
noncomputable def zhj:Obj:=fo (t 43) "note_number" "note_number" (vs "bellwrite.notes" 548) 266
noncomputable def zhk:Obj:=tp #[(vs "number" 569),(vs "signs" 570),(vs "left" 571)]
noncomputable def zhl:Obj:=go (t 44) "note_of" "note_of"
noncomputable def zhm:Obj:=co #[(vs "note_of" 566),(vs "note_of" 567),(vc 568),(vi 163),(vi 1),(vi 0),(vi 0),(vi 3),(vr 268),(.bool true),(vi 181),(vr 269),.none,(vr 270),(vr 271),(vr 272),(vi 572),(vi 163),(vc 573)]
noncomputable def zhn:Obj:=fo (t 44) "note_of" "note_of" (vs "bellwrite.notes" 548) 273
noncomputable def zho:Obj:=tp #[(vs "number" 578),(vs "base" 579),(vs "figures" 580),(vs "left" 581)]
noncomputable def zhp:Obj:=go (t 45) "parts" "parts"
noncomputable def zhq:Obj:=co #[(vs "parts" 575),(vs "parts" 576),(vc 577),(vi 175),(vi 2),(vi 0),(vi 0),(vi 3),(vr 275),(.bool true),(vi 181),(vr 276),.none,(vr 277),(vr 278),(vr 279),(vi 582),(vi 175),(vc 583)]
noncomputable def zhr:Obj:=fo (t 45) "parts" "parts" (vs "bellwrite.notes" 548) 280
noncomputable def zhs:Obj:=go (t 46) "number_of_parts" "number_of_parts"
noncomputable def zht:Obj:=co #[(vs "number_of_parts" 585),(vs "number_of_parts" 586),(vc 587),(vi 182),(vi 2),(vi 0),(vi 0),(vi 3),(vr 282),(.bool true),(vi 181),(vr 283),.none,.none,.none,(vr 284),(vi 588),(vi 182),(vc 589)]
noncomputable def zhu:Obj:=fo (t 46) "number_of_parts" "number_of_parts" (vs "bellwrite.notes" 548) 285
noncomputable def zhv:Obj:=go (t 47) "sent" "sent"
noncomputable def zhw:Obj:=co #[(vs "sent" 591),(vs "sent" 592),(vc 593),(vi 191),(vi 4),(vi 0),(vi 0),(vi 3),(vr 287),(.bool true),(vi 181),(vr 288),.none,.none,.none,(vr 289),(vi 594),(vi 191),(vc 595)]
noncomputable def zhx:Obj:=fo (t 47) "sent" "sent" (vs "bellwrite.notes" 548) 290
noncomputable def zhy:Obj:=go (t 48) "received" "received"
noncomputable def zhz:Obj:=co #[(vs "received" 597),(vs "received" 598),(vc 599),(vi 199),(vi 4),(vi 0),(vi 0),(vi 3),(vr 292),(.bool true),(vi 181),(vr 293),.none,.none,.none,(vr 294),(vi 600),(vi 199),(vc 601)]
noncomputable def zhA:Obj:=fo (t 48) "received" "received" (vs "bellwrite.notes" 548) 295
noncomputable def zhB:Obj:=tp #[(vs "reading" 606),(vs "turns" 607),(vs "bells" 608),(vs "late" 609),(vs "heard_of" 610),(vs "messages" 611),(vs "message" 612)]
noncomputable def zhC:Obj:=go (t 49) "messages_ahead_of_end" "messages_ahead_of_end"
noncomputable def zhD:Obj:=co #[(vs "messages_ahead_of_end" 603),(vs "messages_ahead_of_end" 604),(vc 605),(vi 206),(vi 4),(vi 0),(vi 0),(vi 3),(vr 297),(.bool true),(vi 181),(vr 298),.none,(vr 299),(vr 300),(vr 301),(vi 613),(vi 206),(vc 614)]
noncomputable def zhE:Obj:=fo (t 49) "messages_ahead_of_end" "messages_ahead_of_end" (vs "bellwrite.notes" 548) 302
noncomputable def zhF:Obj:=go (t 57) "is_made_of" "is_made_of"
noncomputable def zhG:Obj:=co #[(vs "is_made_of" 630),(vs "is_made_of" 631),(vc 632),(vi 221),(vi 3),(vi 0),(vi 0),(vi 3),(vr 304),(.bool true),(vi 181),(vr 305),.none,.none,.none,(vr 306),(vi 633),(vi 221),(vc 634)]
noncomputable def zhH:Obj:=fo (t 57) "is_made_of" "is_made_of" (vs "bellwrite.words" 616) 307
noncomputable def zhI:Obj:=tp #[(vs "word" 639)]
noncomputable def zhJ:Obj:=go (t 58) "name_in" "name_in"
noncomputable def zhK:Obj:=co #[(vs "name_in" 636),(vs "name_in" 637),(vc 638),(vi 223),(vi 1),(vi 0),(vi 0),(vi 3),(vr 309),(.bool true),(vi 181),(vr 310),.none,(vr 311),(vr 312),(vr 313),(vi 640),(vi 223),(vc 641)]
noncomputable def zhL:Obj:=fo (t 58) "name_in" "name_in" (vs "bellwrite.words" 616) 314
noncomputable def zhM:Obj:=tp #[(vs "word" 646),(vs "most" 647)]
noncomputable def zhN:Obj:=go (t 59) "figures_in" "figures_in"
noncomputable def zhO:Obj:=co #[(vs "figures_in" 643),(vs "figures_in" 644),(vc 645),(vi 227),(vi 2),(vi 0),(vi 0),(vi 3),(vr 316),(.bool true),(vi 181),(vr 317),.none,(vr 318),(vr 319),(vr 320),(vi 648),(vi 227),(vc 649)]
noncomputable def zhP:Obj:=fo (t 59) "figures_in" "figures_in" (vs "bellwrite.words" 616) 321
noncomputable def zhQ:Obj:=tp #[(vs "word" 654)]
noncomputable def zhR:Obj:=go (t 60) "number_in" "number_in"
noncomputable def zhS:Obj:=co #[(vs "number_in" 651),(vs "number_in" 652),(vc 653),(vi 231),(vi 1),(vi 0),(vi 0),(vi 3),(vr 323),(.bool true),(vi 181),(vr 324),.none,(vr 325),(vr 326),(vr 327),(vi 655),(vi 231),(vc 656)]
noncomputable def zhT:Obj:=fo (t 60) "number_in" "number_in" (vs "bellwrite.words" 616) 328
noncomputable def zhU:Obj:=tp #[(vs "word" 661)]
noncomputable def zhV:Obj:=go (t 61) "message_in" "message_in"
noncomputable def zhW:Obj:=co #[(vs "message_in" 658),(vs "message_in" 659),(vc 660),(vi 233),(vi 1),(vi 0),(vi 0),(vi 3),(vr 330),(.bool true),(vi 181),(vr 331),.none,(vr 332),(vr 333),(vr 334),(vi 662),(vi 233),(vc 663)]
noncomputable def zhX:Obj:=fo (t 61) "message_in" "message_in" (vs "bellwrite.words" 616) 335
noncomputable def zhY:Obj:=tp #[(vs "word" 668),(vs "bells" 669)]
noncomputable def zhZ:Obj:=go (t 62) "bells_in" "bells_in"
noncomputable def zh0:Obj:=co #[(vs "bells_in" 665),(vs "bells_in" 666),(vc 667),(vi 235),(vi 1),(vi 0),(vi 0),(vi 3),(vr 337),(.bool true),(vi 181),(vr 338),.none,(vr 339),(vr 340),(vr 341),(vi 670),(vi 235),(vc 671)]
noncomputable def zh1:Obj:=fo (t 62) "bells_in" "bells_in" (vs "bellwrite.words" 616) 342
noncomputable def zh2:Obj:=go (t 63) "turns_in" "turns_in"
noncomputable def o200:Obj:=co #[(vs "turns_in" 673),(vs "turns_in" 674),(vc 675),(vi 240),(vi 1),(vi 0),(vi 0),(vi 3),(vr 344),(.bool true),(vi 181),(vr 345),.none,.none,.none,(vr 346),(vi 676),(vi 240),(vc 677)]
noncomputable def zh3:Obj:=fo (t 63) "turns_in" "turns_in" (vs "bellwrite.words" 616) 347
noncomputable def zh4:Obj:=tp #[(vs "number" 682)]
noncomputable def zh5:Obj:=go (t 64) "number_told" "number_told"
noncomputable def zh6:Obj:=co #[(vs "number_told" 679),(vs "number_told" 680),(vc 681),(vi 248),(vi 1),(vi 0),(vi 0),(vi 3),(vr 349),(.bool true),(vi 181),(vr 350),.none,(vr 351),(vr 352),(vr 353),(vi 683),(vi 248),(vc 684)]
noncomputable def zh7:Obj:=fo (t 64) "number_told" "number_told" (vs "bellwrite.words" 616) 354
noncomputable def zh8:Obj:=go (t 65) "turns_told" "turns_told"
noncomputable def zh9:Obj:=co #[(vs "turns_told" 686),(vs "turns_told" 687),(vc 688),(vi 250),(vi 1),(vi 0),(vi 0),(vi 3),(vr 356),(.bool true),(vi 181),(vr 357),.none,.none,.none,(vr 358),(vi 689),(vi 250),(vc 690)]
noncomputable def zia:Obj:=fo (t 65) "turns_told" "turns_told" (vs "bellwrite.words" 616) 359
noncomputable def zib (P:Params):Obj:=⟨(vy "dict"),none,(.dict #[e P "__module__" 701 (vs "bellwrite.desk" 692),e P "__qualname__" 703 (vs "Frame" 702),e P "__firstlineno__" 705 (.int 253 704),e P "__init__" 715 (vr 374),e P "__static_attributes__" 719 (vr 375)] 5),#[]⟩
noncomputable def zic:Obj:=⟨.none,none,(.fields #[(vi 255),(vi 4),(vr 373)]),#[]⟩
noncomputable def zid:Obj:=co #[(vs "Frame" 696),(vs "Frame" 697),(vc 698),(vi 253),(vi 0),(vi 0),(vi 0),(vi 0),(vr 364),(.bool false),(vi 181),(vr 365),.none,.none,.none,.none,(vi 699),(vi 253),(vc 700)]
noncomputable def zie:Obj:=⟨(vy "frame"),none,.plain,#[(some (vr 366)),(some (vr 3)),(some (vr 363)),none,(some (vs "bellwrite.desk" 692)),none,(some (vr 0))]⟩
noncomputable def zif:Obj:=tp #[(vs "self" 709),(vs "turns" 710),(vs "bells" 711),(vs "late" 712)]
noncomputable def zig:Obj:=go (u 67 0) "__init__" "Frame.__init__"
noncomputable def zih:Obj:=co #[(vs "__init__" 706),(vs "Frame.__init__" 707),(vc 708),(vi 255),(vi 4),(vi 0),(vi 0),(vi 3),(vr 368),(.bool true),(vi 181),(vr 369),.none,(vr 370),(vr 371),(vr 372),(vi 713),(vi 255),(vc 714)]
noncomputable def zii:Obj:=fo (u 67 0) "__init__" "Frame.__init__" (vs "bellwrite.desk" 692) 373
noncomputable def zij:Obj:=tp #[(vs "bells" 716),(vs "late" 717),(vs "turns" 718)]
noncomputable def zik (P:Params):Obj:=⟨(vy "dict"),none,(.dict #[e P "__module__" 701 (vs "bellwrite.desk" 692),e P "__firstlineno__" 705 (.int 253 704),e P "__init__" 715 (vr 374),e P "__static_attributes__" 719 (vr 375),e P "__dict__" 721 (vr 378),e P "__weakref__" 723 (vr 379),e P "__doc__" 724 .none] 4),#[]⟩
noncomputable def zil:Obj:=⟨(vy "type"),none,(.cls ⟨"Frame",[(vy "object")],[(vr 377),(vy "object")],376,"Frame",true,[],[],false,none,false⟩),#[none,none,(some (vs "Frame" 694)),(some (vs "Frame" 702)),(some (vb "object.__new__")),(some (.bool true))]⟩
noncomputable def zim:Obj:=⟨(vy "getset_descriptor"),none,(.fields #[(vs "__dict__" 720),(vr 377),(vb "function.__dict__"),(vb "function.__dict__#set")]),#[]⟩
noncomputable def zin:Obj:=⟨(vy "getset_descriptor"),none,(.fields #[(vs "__weakref__" 722),(vr 377),(vb "ExceptionGroup.__weakref__"),.none]),#[]⟩
noncomputable def zio:Obj:=⟨(vy "super"),none,(.fields #[(vr 377),(vr 377),(vr 377)]),#[]⟩
noncomputable def ziq:Obj:=⟨(vy "builtin_function_or_method"),none,(.fields #[(vb "object.__init_subclass__"),(vr 377)]),#[]⟩
noncomputable def zir (P:Params):Obj:=⟨(vy "dict"),none,(.dict #[e P "__module__" 734 (vs "bellwrite.desk" 692),e P "__qualname__" 736 (vs "Desk" 735),e P "__firstlineno__" 738 (.int 259 737),e P "__init__" 745 (vr 395),e P "told" 754 (vr 402),e P "keep" 765 (vr 409),e P "ring" 776 (vr 416),e P "listen" 787 (vr 423),e P "send_note" 796 (vr 430),e P "kept" 804 (vr 437),e P "__static_attributes__" 806 (vr 438)] 11),#[]⟩
noncomputable def zis:Obj:=⟨.none,none,(.fields #[(vi 261),(vi 4),(vr 394),(vi 264),(vi 4),(vr 401),(vi 278),(vi 4),(vr 408),(vi 285),(vi 4),(vr 415),(vi 293),(vi 4),(vr 422),(vi 303),(vi 4),(vr 429),(vi 307),(vi 4),(vr 436)]),#[]⟩
noncomputable def zit:Obj:=co #[(vs "Desk" 729),(vs "Desk" 730),(vc 731),(vi 259),(vi 0),(vi 0),(vi 0),(vi 0),(vr 385),(.bool false),(vi 181),(vr 386),.none,.none,.none,.none,(vi 732),(vi 259),(vc 733)]
noncomputable def ziu:Obj:=⟨(vy "frame"),none,.plain,#[(some (vr 387)),(some (vr 3)),(some (vr 384)),none,(some (vs "bellwrite.desk" 692)),none,(some (vr 0))]⟩
noncomputable def ziv:Obj:=tp #[(vs "self" 742)]
noncomputable def ziw:Obj:=go (u 68 0) "__init__" "Desk.__init__"
noncomputable def zix:Obj:=co #[(vs "__init__" 739),(vs "Desk.__init__" 740),(vc 741),(vi 261),(vi 1),(vi 0),(vi 0),(vi 3),(vr 389),(.bool true),(vi 181),(vr 390),.none,(vr 391),(vr 392),(vr 393),(vi 743),(vi 261),(vc 744)]
noncomputable def ziy:Obj:=fo (u 68 0) "__init__" "Desk.__init__" (vs "bellwrite.desk" 692) 394
noncomputable def ziz:Obj:=tp #[(vs "self" 749),(vs "order" 750),(vs "words" 751)]
noncomputable def ziA:Obj:=go (u 68 1) "told" "Desk.told"
noncomputable def ziB:Obj:=co #[(vs "told" 746),(vs "Desk.told" 747),(vc 748),(vi 264),(vi 2),(vi 0),(vi 0),(vi 3),(vr 396),(.bool true),(vi 181),(vr 397),.none,(vr 398),(vr 399),(vr 400),(vi 752),(vi 264),(vc 753)]
noncomputable def ziC:Obj:=fo (u 68 1) "told" "Desk.told" (vs "bellwrite.desk" 692) 401
noncomputable def ziD:Obj:=tp #[(vs "self" 758),(vs "words" 759),(vs "name" 760),(vs "frame" 761),(vs "count" 762)]
noncomputable def ziE:Obj:=go (u 68 2) "keep" "Desk.keep"
noncomputable def ziF:Obj:=co #[(vs "keep" 755),(vs "Desk.keep" 756),(vc 757),(vi 278),(vi 2),(vi 0),(vi 0),(vi 3),(vr 403),(.bool true),(vi 181),(vr 404),.none,(vr 405),(vr 406),(vr 407),(vi 763),(vi 278),(vc 764)]
noncomputable def ziG:Obj:=fo (u 68 2) "keep" "Desk.keep" (vs "bellwrite.desk" 692) 408
noncomputable def ziH:Obj:=tp #[(vs "self" 769),(vs "words" 770),(vs "name" 771),(vs "message" 772),(vs "frame" 773)]
noncomputable def ziI:Obj:=go (u 68 3) "ring" "Desk.ring"
noncomputable def ziJ:Obj:=co #[(vs "ring" 766),(vs "Desk.ring" 767),(vc 768),(vi 285),(vi 2),(vi 0),(vi 0),(vi 3),(vr 410),(.bool true),(vi 181),(vr 411),.none,(vr 412),(vr 413),(vr 414),(vi 774),(vi 285),(vc 775)]
noncomputable def ziK:Obj:=fo (u 68 3) "ring" "Desk.ring" (vs "bellwrite.desk" 692) 415
noncomputable def ziL:Obj:=tp #[(vs "self" 780),(vs "words" 781),(vs "name" 782),(vs "reading" 783),(vs "frame" 784)]
noncomputable def ziM:Obj:=go (u 68 4) "listen" "Desk.listen"
noncomputable def ziN:Obj:=co #[(vs "listen" 777),(vs "Desk.listen" 778),(vc 779),(vi 293),(vi 2),(vi 0),(vi 0),(vi 3),(vr 417),(.bool true),(vi 181),(vr 418),.none,(vr 419),(vr 420),(vr 421),(vi 785),(vi 293),(vc 786)]
noncomputable def ziO:Obj:=fo (u 68 4) "listen" "Desk.listen" (vs "bellwrite.desk" 692) 422
noncomputable def ziP:Obj:=tp #[(vs "self" 791),(vs "words" 792),(vs "frame" 793)]
noncomputable def ziQ:Obj:=go (u 68 5) "send_note" "Desk.send_note"
noncomputable def ziR:Obj:=co #[(vs "send_note" 788),(vs "Desk.send_note" 789),(vc 790),(vi 303),(vi 2),(vi 0),(vi 0),(vi 3),(vr 424),(.bool true),(vi 181),(vr 425),.none,(vr 426),(vr 427),(vr 428),(vi 794),(vi 303),(vc 795)]
noncomputable def ziS:Obj:=fo (u 68 5) "send_note" "Desk.send_note" (vs "bellwrite.desk" 692) 429
noncomputable def ziT:Obj:=tp #[(vs "self" 800),(vs "name" 801)]
noncomputable def ziU:Obj:=go (u 68 6) "kept" "Desk.kept"
noncomputable def ziV:Obj:=co #[(vs "kept" 797),(vs "Desk.kept" 798),(vc 799),(vi 307),(vi 2),(vi 0),(vi 0),(vi 3),(vr 431),(.bool true),(vi 181),(vr 432),.none,(vr 433),(vr 434),(vr 435),(vi 802),(vi 307),(vc 803)]
noncomputable def ziW:Obj:=fo (u 68 6) "kept" "Desk.kept" (vs "bellwrite.desk" 692) 436
noncomputable def ziX:Obj:=tp #[(vs "frames" 805)]
noncomputable def ziY (P:Params):Obj:=⟨(vy "dict"),none,(.dict #[e P "__module__" 734 (vs "bellwrite.desk" 692),e P "__firstlineno__" 738 (.int 259 737),e P "__init__" 745 (vr 395),e P "told" 754 (vr 402),e P "keep" 765 (vr 409),e P "ring" 776 (vr 416),e P "listen" 787 (vr 423),e P "send_note" 796 (vr 430),e P "kept" 804 (vr 437),e P "__static_attributes__" 806 (vr 438),e P "__dict__" 808 (vr 441),e P "__weakref__" 810 (vr 442),e P "__doc__" 811 .none] 4),#[]⟩
noncomputable def ziZ:Obj:=⟨(vy "type"),none,(.cls ⟨"Desk",[(vy "object")],[(vr 440),(vy "object")],439,"Desk",true,[],[],false,none,false⟩),#[none,none,(some (vs "Desk" 727)),(some (vs "Desk" 735)),(some (vb "object.__new__")),(some (.bool true))]⟩
noncomputable def zi0:Obj:=⟨(vy "getset_descriptor"),none,(.fields #[(vs "__dict__" 807),(vr 440),(vb "function.__dict__"),(vb "function.__dict__#set")]),#[]⟩
noncomputable def zi1:Obj:=⟨(vy "getset_descriptor"),none,(.fields #[(vs "__weakref__" 809),(vr 440),(vb "ExceptionGroup.__weakref__"),.none]),#[]⟩
noncomputable def zi2:Obj:=⟨(vy "super"),none,(.fields #[(vr 440),(vr 440),(vr 440)]),#[]⟩
noncomputable def zi3:Obj:=⟨(vy "builtin_function_or_method"),none,(.fields #[(vb "object.__init_subclass__"),(vr 440)]),#[]⟩
noncomputable def zi4:Obj:=tp #[(vs "frame" 817)]
noncomputable def zi5:Obj:=go (t 69) "count_of" "count_of"
noncomputable def zi6:Obj:=co #[(vs "count_of" 814),(vs "count_of" 815),(vc 816),(vi 311),(vi 1),(vi 0),(vi 0),(vi 3),(vr 445),(.bool true),(vi 181),(vr 446),.none,(vr 447),(vr 448),(vr 449),(vi 818),(vi 311),(vc 819)]
noncomputable def zi7:Obj:=fo (t 69) "count_of" "count_of" (vs "bellwrite.desk" 692) 450
noncomputable def zi8:Obj:=tp #[(vs "reading" 824),(vs "frame" 825)]
noncomputable def zi9:Obj:=go (t 70) "note_heard" "note_heard"
noncomputable def zja:Obj:=co #[(vs "note_heard" 821),(vs "note_heard" 822),(vc 823),(vi 313),(vi 2),(vi 0),(vi 0),(vi 3),(vr 452),(.bool true),(vi 181),(vr 453),.none,(vr 454),(vr 455),(vr 456),(vi 826),(vi 313),(vc 827)]
noncomputable def zjb:Obj:=fo (t 70) "note_heard" "note_heard" (vs "bellwrite.desk" 692) 457
noncomputable def zjc:Obj:=tp #[(vs "words" 832)]
noncomputable def zjd:Obj:=go (t 71) "choice_told" "choice_told"
noncomputable def zje:Obj:=co #[(vs "choice_told" 829),(vs "choice_told" 830),(vc 831),(vi 317),(vi 1),(vi 0),(vi 0),(vi 3),(vr 459),(.bool true),(vi 181),(vr 460),.none,(vr 461),(vr 462),(vr 463),(vi 833),(vi 317),(vc 834)]
noncomputable def zjf:Obj:=fo (t 71) "choice_told" "choice_told" (vs "bellwrite.desk" 692) 464
noncomputable def zjg:Obj:=tp #[(vs "words" 839),(vs "many" 840),(vs "late" 841),(vs "found" 842),(vs "cost" 843),(vs "turns" 844),(vs "bells" 845)]
noncomputable def zjh:Obj:=go (t 72) "cheapest_told" "cheapest_told"
noncomputable def zji:Obj:=co #[(vs "cheapest_told" 836),(vs "cheapest_told" 837),(vc 838),(vi 325),(vi 1),(vi 0),(vi 0),(vi 3),(vr 466),(.bool true),(vi 181),(vr 467),.none,(vr 468),(vr 469),(vr 470),(vi 846),(vi 325),(vc 847)]
noncomputable def zjj:Obj:=fo (t 72) "cheapest_told" "cheapest_told" (vs "bellwrite.desk" 692) 471
noncomputable def zjk:Obj:=tp #[(vs "cell" 854),(vs "k" 855),(vs "number" 856)]
noncomputable def zjl:Obj:=go (t 74) "_law_drawn" "_law_drawn"
noncomputable def zjm:Obj:=co #[(vs "_law_drawn" 851),(vs "_law_drawn" 852),(vc 853),(vi 336),(vi 2),(vi 0),(vi 0),(vi 3),(vr 473),(.bool true),(vi 181),(vr 474),.none,(vr 475),(vr 476),(vr 477),(vi 857),(vi 336),(vc 858)]
noncomputable def zjn:Obj:=fo (t 74) "_law_drawn" "_law_drawn" (vs "law_bellwrite_k93_orders_read" 849) 478
noncomputable def zjo:Obj:=tp #[(vs "number" 863),(vs "signs" 864)]
noncomputable def zjp:Obj:=go (t 75) "_law_sign" "_law_sign"
noncomputable def zjq:Obj:=co #[(vs "_law_sign" 860),(vs "_law_sign" 861),(vc 862),(vi 340),(vi 1),(vi 0),(vi 0),(vi 3),(vr 480),(.bool true),(vi 181),(vr 481),.none,(vr 482),(vr 483),(vr 484),(vi 865),(vi 340),(vc 866)]
noncomputable def zjr:Obj:=fo (t 75) "_law_sign" "_law_sign" (vs "law_bellwrite_k93_orders_read" 849) 485
noncomputable def zjs:Obj:=tp #[(vs "number" 871)]
noncomputable def zjt:Obj:=go (t 76) "_law_name" "_law_name"
noncomputable def zju:Obj:=co #[(vs "_law_name" 868),(vs "_law_name" 869),(vc 870),(vi 344),(vi 1),(vi 0),(vi 0),(vi 3),(vr 487),(.bool true),(vi 181),(vr 488),.none,(vr 489),(vr 490),(vr 491),(vi 872),(vi 344),(vc 873)]
noncomputable def zjv:Obj:=fo (t 76) "_law_name" "_law_name" (vs "law_bellwrite_k93_orders_read" 849) 492
noncomputable def zjw:Obj:=tp #[(vs "number" 878)]
noncomputable def zjx:Obj:=go (t 77) "_law_number" "_law_number"
noncomputable def zjy:Obj:=co #[(vs "_law_number" 875),(vs "_law_number" 876),(vc 877),(vi 346),(vi 1),(vi 0),(vi 0),(vi 3),(vr 494),(.bool true),(vi 181),(vr 495),.none,(vr 496),(vr 497),(vr 498),(vi 879),(vi 346),(vc 880)]
noncomputable def zjz:Obj:=fo (t 77) "_law_number" "_law_number" (vs "law_bellwrite_k93_orders_read" 849) 499
noncomputable def zjA:Obj:=tp #[(vs "number" 885)]
noncomputable def zjB:Obj:=go (t 78) "_law_message" "_law_message"
noncomputable def zjC:Obj:=co #[(vs "_law_message" 882),(vs "_law_message" 883),(vc 884),(vi 350),(vi 1),(vi 0),(vi 0),(vi 3),(vr 501),(.bool true),(vi 181),(vr 502),.none,(vr 503),(vr 504),(vr 505),(vi 886),(vi 350),(vc 887)]
noncomputable def zjD:Obj:=fo (t 78) "_law_message" "_law_message" (vs "law_bellwrite_k93_orders_read" 849) 506
noncomputable def zjE:Obj:=go (t 79) "_law_turns" "_law_turns"
noncomputable def o300:Obj:=co #[(vs "_law_turns" 889),(vs "_law_turns" 890),(vc 891),(vi 354),(vi 1),(vi 0),(vi 0),(vi 3),(vr 508),(.bool true),(vi 181),(vr 509),.none,.none,.none,(vr 510),(vi 892),(vi 354),(vc 893)]
noncomputable def zjF:Obj:=fo (t 79) "_law_turns" "_law_turns" (vs "law_bellwrite_k93_orders_read" 849) 511
noncomputable def zks (P:Params):Obj:=⟨(vy "dict"),none,(.dict #[e P "__name__" 165 (vs "law_bellwrite_k93_orders_read" 849),e P "__doc__" 166 .none,e P "__package__" 167 .none,e P "__loader__" 168 (vb "__main__.__loader__#opaque"),e P "__spec__" 169 .none,e P "__annotations__" 170 (vr 6),e P "__builtins__" 171 (vr 4),e P "__file__" 173 (vc 172),e P "__cached__" 174 .none,e P "choose" 198 (vr 21),e P "top_of" 206 (vr 28),e P "top_from" 219 (vr 35),e P "above_top" 230 (vr 42),e P "rounded_up" 238 (vr 49),e P "BellError" 258 (vr 59),e P "NoRow" 274 (vr 72),e P "NoReading" 290 (vr 84),e P "TooGreat" 306 (vr 96),e P "TooMany" 322 (vr 108),e P "NoNote" 338 (vr 120),e P "NoOrder" 354 (vr 132),e P "NoName" 370 (vr 144),e P "box_of" 378 (vr 151),e P "bell_row" 384 (vr 156),e P "heard_box" 395 (vr 163),e P "box_count" 404 (vr 170),e P "greatest_part" 413 (vr 177),e P "shortest_frame" 425 (vr 184),e P "best_bells" 438 (vr 191),e P "cheapest" 455 (vr 198),e P "box_number" 463 (vr 203),e P "box_of_message" 475 (vr 210),e P "written" 485 (vr 217),e P "read" 496 (vr 224),e P "keyed_count" 507 (vr 231),e P "keyed" 513 (vr 236),e P "unkeyed" 519 (vr 241),e P "refuse_silent" 529 (vr 248),e P "rung" 535 (vr 253),e P "by_messages" 547 (vr 260),e P "SIGNS" 551 (vs "abcdefghijklmnopqrstuvwxyz " 550),e P "MOST_SIGNS" 553 (.int 60 552),e P "LEAST_COUNT" 555 (.int 3 554),e P "note_number" 565 (vr 267),e P "note_of" 574 (vr 274),e P "parts" 584 (vr 281),e P "number_of_parts" 590 (vr 286),e P "sent" 596 (vr 291),e P "received" 602 (vr 296),e P "messages_ahead_of_end" 615 (vr 303),e P "LETTERS" 619 (vs "abcdefghijklmnopqrstuvwxyz" 618),e P "MOST_LETTERS" 621 (.int 8 620),e P "FIGURES" 623 (vs "0123456789" 622),e P "MOST_FIGURES" 625 (.int 60 624),e P "MOST_FIGURES_OF_MESSAGE" 627 (.int 3000 626),e P "MOST_BELLS" 629 (.int 60 628),e P "is_made_of" 635 (vr 308),e P "name_in" 642 (vr 315),e P "figures_in" 650 (vr 322),e P "number_in" 657 (vr 329),e P "message_in" 664 (vr 336),e P "bells_in" 672 (vr 343),e P "turns_in" 678 (vr 348),e P "number_told" 685 (vr 355),e P "turns_told" 691 (vr 360),e P "Frame" 726 (vr 377),e P "Desk" 813 (vr 440),e P "count_of" 820 (vr 451),e P "note_heard" 828 (vr 458),e P "choice_told" 835 (vr 465),e P "cheapest_told" 848 (vr 472),e P "_law_drawn" 859 (vr 479),e P "_law_sign" 867 (vr 486),e P "_law_name" 874 (vr 493),e P "_law_number" 881 (vr 500),e P "_law_message" 888 (vr 507),e P "_law_turns" 894 (vr 512),e P "_law_written" 900 (vr 517),e P "_law_order" 914 (vr 524),e P "_law_is_name" 920 (vr 529),e P "_law_is_number" 926 (vr 534),e P "_law_fit" 936 (vr 541),e P "_law_heard" 942 (vr 546),e P "_law_is_order" 950 (vr 553),e P "_law_due" 959 (vr 560),e P "_law_kept" 965 (vr 565),e P "_law_kind" 973 (vr 572),e P "_law_told" 984 (vr 579),e P "law" 998 (vr 586)] 89),#[]⟩
noncomputable def zkt:Obj:=⟨.none,none,(.fields #[(vi 2),(vi 0),(vr 20),(vi 9),(vi 0),(vr 27),(vi 11),(vi 0),(vr 34),(vi 20),(vi 0),(vr 41),(vi 26),(vi 0),(vr 48),(vi 29),(vi 0),(vr 55),(vi 31),(vi 0),(vr 68),(vi 33),(vi 0),(vr 80),(vi 35),(vi 0),(vr 92),(vi 37),(vi 0),(vr 104),(vi 39),(vi 0),(vr 116),(vi 41),(vi 0),(vr 128),(vi 43),(vi 0),(vr 140),(vi 46),(vi 0),(vr 150),(vi 48),(vi 0),(vr 155),(vi 50),(vi 0),(vr 162),(vi 58),(vi 0),(vr 169),(vi 62),(vi 0),(vr 176),(vi 65),(vi 0),(vr 183),(vi 72),(vi 0),(vr 190),(vi 82),(vi 0),(vr 197),(vi 92),(vi 0),(vr 202),(vi 94),(vi 0),(vr 209),(vi 105),(vi 0),(vr 216),(vi 109),(vi 0),(vr 223),(vi 117),(vi 0),(vr 230),(vi 121),(vi 0),(vr 235),(vi 126),(vi 0),(vr 240),(vi 133),(vi 0),(vr 247),(vi 136),(vi 0),(vr 252),(vi 143),(vi 0),(vr 259),(vi 153),(vi 0),(vr 266),(vi 163),(vi 0),(vr 273),(vi 175),(vi 0),(vr 280),(vi 182),(vi 0),(vr 285),(vi 191),(vi 0),(vr 290),(vi 199),(vi 0),(vr 295),(vi 206),(vi 0),(vr 302),(vi 221),(vi 0),(vr 307),(vi 223),(vi 0),(vr 314),(vi 227),(vi 0),(vr 321),(vi 231),(vi 0),(vr 328),(vi 233),(vi 0),(vr 335),(vi 235),(vi 0),(vr 342),(vi 240),(vi 0),(vr 347),(vi 248),(vi 0),(vr 354),(vi 250),(vi 0),(vr 359),(vi 253),(vi 0),(vr 366),(vi 259),(vi 0),(vr 387),(vi 311),(vi 0),(vr 450),(vi 313),(vi 0),(vr 457),(vi 317),(vi 0),(vr 464),(vi 325),(vi 0),(vr 471),(vi 336),(vi 0),(vr 478),(vi 340),(vi 0),(vr 485),(vi 344),(vi 0),(vr 492),(vi 346),(vi 0),(vr 499),(vi 350),(vi 0),(vr 506),(vi 354),(vi 0),(vr 511),(vi 365),(vi 0),(vr 516),(vi 386),(vi 0),(vr 523),(vi 409),(vi 0),(vr 528),(vi 411),(vi 0),(vr 533),(vi 415),(vi 0),(vr 540),(vi 422),(vi 0),(vr 545),(vi 427),(vi 0),(vr 552),(vi 440),(vi 0),(vr 559),(vi 449),(vi 0),(vr 564),(vi 458),(vi 0),(vr 571),(vi 469),(vi 0),(vr 578),(vi 481),(vi 0),(vr 585)]),#[]⟩
noncomputable def zku:Obj:=go (t 80) "_law_written" "_law_written"
noncomputable def zkv:Obj:=co #[(vs "_law_written" 895),(vs "_law_written" 896),(vc 897),(vi 365),(vi 1),(vi 0),(vi 0),(vi 3),(vr 513),(.bool true),(vi 181),(vr 514),.none,.none,.none,(vr 515),(vi 898),(vi 365),(vc 899)]
noncomputable def zkw:Obj:=fo (t 80) "_law_written" "_law_written" (vs "law_bellwrite_k93_orders_read" 849) 516
noncomputable def zkx:Obj:=tp #[(vs "cell" 904),(vs "order" 905),(vs "number" 906),(vs "head" 907),(vs "place" 908),(vs "sign" 909),(vs "words" 910),(vs "at" 911)]
noncomputable def zky:Obj:=go (t 81) "_law_order" "_law_order"
noncomputable def zkz:Obj:=co #[(vs "_law_order" 901),(vs "_law_order" 902),(vc 903),(vi 386),(vi 1),(vi 0),(vi 0),(vi 3),(vr 518),(.bool true),(vi 181),(vr 519),.none,(vr 520),(vr 521),(vr 522),(vi 912),(vi 386),(vc 913)]
noncomputable def zkA:Obj:=fo (t 81) "_law_order" "_law_order" (vs "law_bellwrite_k93_orders_read" 849) 523
noncomputable def zkB:Obj:=go (t 82) "_law_is_name" "_law_is_name"
noncomputable def zkC:Obj:=co #[(vs "_law_is_name" 915),(vs "_law_is_name" 916),(vc 917),(vi 409),(vi 1),(vi 0),(vi 0),(vi 3),(vr 525),(.bool true),(vi 181),(vr 526),.none,.none,.none,(vr 527),(vi 918),(vi 409),(vc 919)]
noncomputable def zkD:Obj:=fo (t 82) "_law_is_name" "_law_is_name" (vs "law_bellwrite_k93_orders_read" 849) 528
noncomputable def zkE:Obj:=go (t 83) "_law_is_number" "_law_is_number"
noncomputable def zkF:Obj:=co #[(vs "_law_is_number" 921),(vs "_law_is_number" 922),(vc 923),(vi 411),(vi 2),(vi 0),(vi 0),(vi 3),(vr 530),(.bool true),(vi 181),(vr 531),.none,.none,.none,(vr 532),(vi 924),(vi 411),(vc 925)]
noncomputable def zkG:Obj:=fo (t 83) "_law_is_number" "_law_is_number" (vs "law_bellwrite_k93_orders_read" 849) 533
noncomputable def zkH:Obj:=tp #[(vs "words" 930),(vs "form" 931),(vs "word" 932),(vs "wanted" 933)]
noncomputable def zkI:Obj:=go (t 84) "_law_fit" "_law_fit"
noncomputable def zkJ:Obj:=co #[(vs "_law_fit" 927),(vs "_law_fit" 928),(vc 929),(vi 415),(vi 2),(vi 0),(vi 0),(vi 3),(vr 535),(.bool true),(vi 181),(vr 536),.none,(vr 537),(vr 538),(vr 539),(vi 934),(vi 415),(vc 935)]
noncomputable def zkK:Obj:=fo (t 84) "_law_fit" "_law_fit" (vs "law_bellwrite_k93_orders_read" 849) 540
noncomputable def zkL:Obj:=go (t 85) "_law_heard" "_law_heard"
noncomputable def zkM:Obj:=co #[(vs "_law_heard" 937),(vs "_law_heard" 938),(vc 939),(vi 422),(vi 1),(vi 0),(vi 0),(vi 3),(vr 542),(.bool true),(vi 181),(vr 543),.none,.none,.none,(vr 544),(vi 940),(vi 422),(vc 941)]
noncomputable def zkN:Obj:=fo (t 85) "_law_heard" "_law_heard" (vs "law_bellwrite_k93_orders_read" 849) 545
noncomputable def zkO:Obj:=tp #[(vs "words" 946),(vs "head" 947)]
noncomputable def zkP:Obj:=go (t 86) "_law_is_order" "_law_is_order"
noncomputable def zkQ:Obj:=co #[(vs "_law_is_order" 943),(vs "_law_is_order" 944),(vc 945),(vi 427),(vi 1),(vi 0),(vi 0),(vi 3),(vr 547),(.bool true),(vi 181),(vr 548),.none,(vr 549),(vr 550),(vr 551),(vi 948),(vi 427),(vc 949)]
noncomputable def zkR:Obj:=fo (t 86) "_law_is_order" "_law_is_order" (vs "law_bellwrite_k93_orders_read" 849) 552
noncomputable def zkS:Obj:=tp #[(vs "order" 954),(vs "frames" 955),(vs "words" 956)]
noncomputable def zkT:Obj:=go (t 87) "_law_due" "_law_due"
noncomputable def zkU:Obj:=co #[(vs "_law_due" 951),(vs "_law_due" 952),(vc 953),(vi 440),(vi 2),(vi 0),(vi 0),(vi 3),(vr 554),(.bool true),(vi 181),(vr 555),.none,(vr 556),(vr 557),(vr 558),(vi 957),(vi 440),(vc 958)]
noncomputable def zkV:Obj:=fo (t 87) "_law_due" "_law_due" (vs "law_bellwrite_k93_orders_read" 849) 559
noncomputable def zkW:Obj:=go (t 88) "_law_kept" "_law_kept"
noncomputable def zkX:Obj:=co #[(vs "_law_kept" 960),(vs "_law_kept" 961),(vc 962),(vi 449),(vi 2),(vi 0),(vi 0),(vi 3),(vr 561),(.bool true),(vi 181),(vr 562),.none,.none,.none,(vr 563),(vi 963),(vi 449),(vc 964)]
noncomputable def zkY:Obj:=fo (t 88) "_law_kept" "_law_kept" (vs "law_bellwrite_k93_orders_read" 849) 564
noncomputable def zkZ:Obj:=tp #[(vs "e" 969),(vs "kinds" 970)]
noncomputable def zk0:Obj:=go (t 89) "_law_kind" "_law_kind"
noncomputable def zk1:Obj:=co #[(vs "_law_kind" 966),(vs "_law_kind" 967),(vc 968),(vi 458),(vi 1),(vi 0),(vi 0),(vi 3),(vr 566),(.bool true),(vi 181),(vr 567),.none,(vr 568),(vr 569),(vr 570),(vi 971),(vi 458),(vc 972)]
noncomputable def zk2:Obj:=fo (t 89) "_law_kind" "_law_kind" (vs "law_bellwrite_k93_orders_read" 849) 571
noncomputable def zk3:Obj:=tp #[(vs "desk" 977),(vs "order" 978),(vs "caught" 979),(vs "found" 980),(vs "e" 981)]
noncomputable def zk4:Obj:=go (t 90) "_law_told" "_law_told"
noncomputable def zk5:Obj:=co #[(vs "_law_told" 974),(vs "_law_told" 975),(vc 976),(vi 469),(vi 2),(vi 0),(vi 0),(vi 3),(vr 573),(.bool true),(vi 181),(vr 574),.none,(vr 575),(vr 576),(vr 577),(vi 982),(vi 469),(vc 983)]
noncomputable def zk6:Obj:=fo (t 90) "_law_told" "_law_told" (vs "law_bellwrite_k93_orders_read" 849) 578
noncomputable def zk7:Obj:=tp #[(vs "script" 988),(vs "desk" 989),(vs "frames" 990),(vs "cell" 991),(vs "order" 992),(vs "due" 993),(vs "words" 994),(vs "name" 995)]
noncomputable def zk8:Obj:=go (t 91) "law" "law"
noncomputable def zk9:Obj:=co #[(vs "law" 985),(vs "law" 986),(vc 987),(vi 481),(vi 1),(vi 0),(vi 0),(vi 3),(vr 580),(.bool true),(vi 181),(vr 581),.none,(vr 582),(vr 583),(vr 584),(vi 996),(vi 481),(vc 997)]
noncomputable def zla:Obj:=fo (t 91) "law" "law" (vs "law_bellwrite_k93_orders_read" 849) 585
noncomputable def hA (P:Params):Heap:=⟨#[boot_o_0 P,boot_o_1 P,boot_o_2 P,boot_o_3 P,boot_o_4 P,boot_o_5 P,boot_o_6 P,b7 P,b8 P,boot_o_9 P,boot_o_10 P,b7 P,b8 P,o1,o2],lf⟩
noncomputable def tr0 (P:Params):BT:=(n (boot_o_0 P) (n (boot_o_1 P) (n (boot_o_3 P) (y7 P) (y7 P)) (n (boot_o_5 P) (n (boot_o_9 P) z z) (n o1 z z))) (n (boot_o_2 P) (n (boot_o_4 P) (y8 P) (y8 P)) (n (boot_o_6 P) (n (boot_o_10 P) z z) (n o2 z z))))
noncomputable def tr1 (P:Params):BT:=(n (boot_o_0 P) (n (boot_o_1 P) (n (o3 P) (n (b7 P) (n (b7 P) (n o13 (n o35 (n (b8 P) (n (b8 P) (n o300 z z) z) (n o26 z z)) (n zgC (y7 P) (n zi4 z z))) (n (o53 P) (n o91 (y7 P) (n ziJ z z)) (n zgT (n zh4 z z) (n zjn z z)))) (n o22 (n (b8 P) (n (o81 P) (y7 P) (y7 P)) (n (b7 P) (n zhW z z) (n zjd z z))) (n o35 (n o100 (n zhE z z) (y7 P)) (n zg2 (n zie z z) (y8 P))))) (n (b8 P) (n (b7 P) (n (o39 P) (n o35 (n zhg z z) (n ziv z z)) (n (b7 P) (n zhR z z) (y7 P))) (n (b8 P) (n (b7 P) (n zhz z z) (n ziO z z)) (n zgY (n zh9 z z) (y7 P)))) (n o28 (n o35 (n o87 (n zhp z z) (n ziE z z)) (n zgO (n zh1 z z) (n zji z z))) (n (o67 P) (n zgx (n zhI z z) (n (ziY P) z z)) (n zg7 (n zij z z) (n zjA z z)))))) (n (b7 P) (n o6 (n o16 (n (b8 P) (n (o74 P) (n zhe z z) (n zit z z)) (n (b7 P) (y7 P) (n zi7 z z))) (n o35 (n o94 (n zhx z z) (n ziL z z)) (n zgV (n zh7 z z) (y7 P)))) (n o26 (n (o46 P) (n (b7 P) (y7 P) (y7 P)) (n (b7 P) (n zhY z z) (y8 P))) (n (b8 P) (n (b8 P) (n zhG z z) (n ziU z z)) (n (b8 P) (y7 P) (n zjy z z))))) (n o11 (n (b7 P) (n o35 (n (b8 P) (n zhj z z) (n ziy z z)) (n zgI (y8 P) (y7 P))) (n (o60 P) (n (b7 P) (n zhB z z) (y7 P)) (n zg0 (n (zib P) z z) (n zjt z z)))) (n o31 (n (b8 P) (n o89 (y8 P) (y8 P)) (n (b8 P) (n o200 z z) (n zjk z z))) (n o35 (n zgz (n zhL z z) (n zi2 z z)) (n zg9 (n zin z z) (n zjD z z))))))) (n (boot_o_5 P) (n (boot_o_9 P) (n o5 (n o14 (n (o36 P) (n o73 (y7 P) (y7 P)) (n (b8 P) (n zhO z z) (n zi5 z z))) (n o55 (n o92 (n zhv z z) (y7 P)) (n (b7 P) (n zh5 z z) (y8 P)))) (n o24 (n o45 (n o83 (n zhm z z) (n ziB z z)) (n zgL (y7 P) (n zjf z z))) (n (o64 P) (n zgu (y8 P) (n ziT z z)) (n zg4 (y8 P) (y7 P))))) (n (b7 P) (n o19 (n o41 (n (o78 P) (n zhh z z) (n ziw z z)) (n zgG (n zhT z z) (n zja z z))) (n o59 (n o97 (y7 P) (y8 P)) (n (b8 P) (y7 P) (n zjs z z)))) (n (b7 P) (n (o50 P) (n (b8 P) (n zhr z z) (n ziG z z)) (n zgQ (y8 P) (y7 P))) (n o69 (n (b7 P) (n zhJ z z) (n zi0 z z)) (n (b7 P) (n zil z z) (n zjB z z)))))) (n o1 (n o8 (n (b8 P) (n o38 (n o76 (y7 P) (y7 P)) (n zgE (n zhQ z z) (y8 P))) (n (o57 P) (n (b8 P) (y8 P) (n ziM z z)) (n zgW (y8 P) (n zjq z z)))) (n (b7 P) (n o48 (n o85 (n zho z z) (n ziD z z)) (n zgN (n zhZ z z) (y7 P))) (n o66 (n (b7 P) (y7 P) (n ziW z z)) (n (b7 P) (n zih z z) (y7 P))))) (n (b7 P) (n o21 (n (o43 P) (n o80 (y8 P) (y8 P)) (n (b8 P) (y7 P) (n zjc z z))) (n o62 (n o99 (n zhC z z) (n ziR z z)) (n (b7 P) (n zic z z) (n zjv z z)))) (n o33 (n o52 (n (b7 P) (n zht z z) (y7 P)) (n (b7 P) (y7 P) (n zjl z z))) (n (o71 P) (n zgA (y8 P) (y7 P)) (n zhb (n ziq z z) (y8 P)))))))) (n (boot_o_2 P) (n (boot_o_4 P) (n (b8 P) (n (b8 P) (n (b7 P) (n o26 (n o72 (n zhc (n zjF z z) z) (n (zir P) z z)) (n (b7 P) (n zhN z z) (y7 P))) (n o54 (n (b7 P) (y8 P) (n ziK z z)) (n zgU (y7 P) (y7 P)))) (n o23 (n o44 (n o82 (n zhl z z) (n ziA z z)) (n zgK (n zhX z z) (n zje z z))) (n o26 (n zgt (y7 P) (y8 P)) (n zg3 (y7 P) (n zjw z z))))) (n o9 (n o18 (n o40 (n o26 (y7 P) (y7 P)) (n (b8 P) (n zhS z z) (n zi9 z z))) (n o58 (n o96 (n zhA z z) (y7 P)) (n (b7 P) (n zia z z) (y8 P)))) (n o29 (n o26 (n (b7 P) (n zhq z z) (n ziF z z)) (n zgP (y7 P) (n zjj z z))) (n o68 (n zgy (y7 P) (n ziZ z z)) (n zg8 (n (zik P) z z) (y7 P)))))) (n o4 (n o7 (n (b7 P) (n o37 (n o75 (n zhf z z) (n ziu z z)) (n zgD (y8 P) (y7 P))) (n o26 (n (b7 P) (y7 P) (y7 P)) (n (b7 P) (y7 P) (n zjp z z)))) (n (o27 P) (n o47 (n (b8 P) (y8 P) (y8 P)) (n (b8 P) (y7 P) (n zjg z z))) (n o65 (n zgv (n zhH z z) (n ziV z z)) (n zg5 (n zig z z) (n zjz z z))))) (n o12 (n (b8 P) (n o26 (n o79 (y7 P) (y7 P)) (n (b7 P) (n zhU z z) (y8 P))) (n o61 (n (b8 P) (y7 P) (n ziQ z z)) (n zg1 (y7 P) (n zju z z)))) (n o32 (n o51 (n o90 (n zhs z z) (n ziH z z)) (n zgR (n zh3 z z) (y7 P))) (n o26 (n (b7 P) (y7 P) (n zi3 z z)) (n zha (n zio z z) (y7 P))))))) (n (boot_o_6 P) (n (boot_o_10 P) (n (b7 P) (n o15 (n (b7 P) (n (b7 P) (n zhd z z) (n zis z z)) (n o111 (n zhP z z) (n zi6 z z))) (n o56 (n o93 (n zhw z z) (y8 P)) (n (b8 P) (n zh6 z z) (n zjo z z)))) (n o25 (n (b7 P) (n o84 (n zhn z z) (n ziC z z)) (n zgM (y8 P) (y7 P))) (n (b7 P) (n (b7 P) (n zhF z z) (y7 P)) (n (b7 P) (n zif z z) (n zjx z z))))) (n o10 (n o20 (n o42 (n (b7 P) (n zhi z z) (n zix z z)) (n zgH (y7 P) (n zjb z z))) (n (b7 P) (n o98 (y8 P) (n ziP z z)) (n zgZ (n o26 z z) (y7 P)))) (n (o30 P) (n (b7 P) (n o88 (y7 P) (y7 P)) (n (b7 P) (n zh2 z z) (y8 P))) (n o70 (n (b8 P) (n zhK z z) (n zi1 z z)) (n (b8 P) (n zim z z) (n zjC z z)))))) (n o2 (n (b7 P) (n o17 (n (b7 P) (n o77 (y8 P) (y8 P)) (n zgF (y7 P) (n zi8 z z))) (n (b7 P) (n o95 (n zhy z z) (n ziN z z)) (n zgX (n zh8 z z) (n zjr z z)))) (n (b8 P) (n o49 (n o86 (y7 P) (y7 P)) (n (b7 P) (n zh0 z z) (n zjh z z))) (n (b7 P) (n zgw (y8 P) (n ziX z z)) (n zg6 (n zii z z) (y8 P))))) (n (b8 P) (n (b7 P) (n (b7 P) (n (b7 P) (n zhk z z) (n ziz z z)) (n zgJ (n zhV z z) (y7 P))) (n o63 (n (b7 P) (n zhD z z) (n ziS z z)) (n (b8 P) (n zid z z) (y7 P)))) (n o34 (n (b7 P) (n (b8 P) (n zhu z z) (n ziI z z)) (n zgS (y8 P) (n zjm z z))) (n (b7 P) (n zgB (n zhM z z) (y8 P)) (n (b7 P) (y7 P) (n zjE z z)))))))))
noncomputable def tr2 (P:Params):BT:=(n (boot_o_0 P) (n (boot_o_1 P) (n (zks P) (n (b7 P) (n (b7 P) (n o13 (n o35 (n (b8 P) (n (b8 P) (n o300 z z) z) (n o26 z z)) (n zgC (n (b7 P) (n zk3 z z) z) (n zi4 z z))) (n (o53 P) (n o91 (n (b7 P) (y8 P) z) (n ziJ z z)) (n zgT (n zh4 z z) (n zjn z z)))) (n o22 (n (b8 P) (n (o81 P) (n (b7 P) (n zkB z z) z) (y7 P)) (n (b7 P) (n zhW z z) (n zjd z z))) (n o35 (n o100 (n zhE (n zkU z z) z) (y7 P)) (n zg2 (n zie z z) (y8 P))))) (n (b8 P) (n (b7 P) (n (o39 P) (n o35 (n zhg (y8 P) z) (n ziv z z)) (n (b7 P) (n zhR (y7 P) z) (y7 P))) (n (b8 P) (n (b7 P) (n zhz (n zkP z z) z) (n ziO z z)) (n zgY (n zh9 z z) (y7 P)))) (n o28 (n o35 (n o87 (n zhp (y7 P) z) (n ziE z z)) (n zgO (n zh1 z z) (n zji z z))) (n (o67 P) (n zgx (n zhI (y8 P) z) (n (ziY P) z z)) (n zg7 (n zij z z) (n zjA z z)))))) (n (b7 P) (n o6 (n o16 (n (b8 P) (n (o74 P) (n zhe (n zku z z) z) (n zit z z)) (n (b7 P) (n (b7 P) (n zk6 z z) z) (n zi7 z z))) (n o35 (n o94 (n zhx (y7 P) z) (n ziL z z)) (n zgV (n zh7 z z) (y7 P)))) (n o26 (n (o46 P) (n (b7 P) (n (b7 P) (y8 P) z) (y7 P)) (n (b7 P) (n zhY z z) (y8 P))) (n (b8 P) (n (b8 P) (n zhG (n zkW z z) z) (n ziU z z)) (n (b8 P) (y7 P) (n zjy z z))))) (n o11 (n (b7 P) (n o35 (n (b8 P) (n zhj (n zkz z z) z) (n ziy z z)) (n zgI (y8 P) (y7 P))) (n (o60 P) (n (b7 P) (n zhB (y8 P) z) (y7 P)) (n zg0 (n (zib P) z z) (n zjt z z)))) (n o31 (n (b8 P) (n o89 (n (b8 P) (n zkI z z) z) (y8 P)) (n (b8 P) (n o200 z z) (n zjk z z))) (n o35 (n zgz (n zhL (n zk1 z z) z) (n zi2 z z)) (n zg9 (n zin z z) (n zjD z z))))))) (n (boot_o_5 P) (n (boot_o_9 P) (n o5 (n o14 (n (o36 P) (n o73 (n (b7 P) (y7 P) z) (y7 P)) (n (b8 P) (n zhO (n zk4 z z) z) (n zi5 z z))) (n o55 (n o92 (n zhv (n zkM z z) z) (y7 P)) (n (b7 P) (n zh5 z z) (y8 P)))) (n o24 (n o45 (n o83 (n zhm (n zkD z z) z) (n ziB z z)) (n zgL (y7 P) (n zjf z z))) (n (o64 P) (n zgu (n (b8 P) (y7 P) z) (n ziT z z)) (n zg4 (y8 P) (y7 P))))) (n (b7 P) (n o19 (n o41 (n (o78 P) (n zhh (y7 P) z) (n ziw z z)) (n zgG (n zhT (n zk9 z z) z) (n zja z z))) (n o59 (n o97 (n (b7 P) (n zkR z z) z) (y8 P)) (n (b8 P) (y7 P) (n zjs z z)))) (n (b7 P) (n (o50 P) (n (b8 P) (n zhr (n zkH z z) z) (n ziG z z)) (n zgQ (y8 P) (y7 P))) (n o69 (n (b7 P) (n zhJ (y7 P) z) (n zi0 z z)) (n (b7 P) (n zil z z) (n zjB z z)))))) (n o1 (n o8 (n (b8 P) (n o38 (n o76 (n (b7 P) (n zkw z z) z) (y7 P)) (n zgE (n zhQ (y8 P) z) (y8 P))) (n (o57 P) (n (b8 P) (n (b8 P) (n zkO z z) z) (n ziM z z)) (n zgW (y8 P) (n zjq z z)))) (n (b7 P) (n o48 (n o85 (n zho (n zkF z z) z) (n ziD z z)) (n zgN (n zhZ z z) (y7 P))) (n o66 (n (b7 P) (n (b7 P) (n zkY z z) z) (n ziW z z)) (n (b7 P) (n zih z z) (y7 P))))) (n (b7 P) (n o21 (n (o43 P) (n o80 (n (b8 P) (y7 P) z) (y8 P)) (n (b8 P) (y7 P) (n zjc z z))) (n o62 (n o99 (n zhC (y7 P) z) (n ziR z z)) (n (b7 P) (n zic z z) (n zjv z z)))) (n o33 (n o52 (n (b7 P) (n zht (n zkK z z) z) (y7 P)) (n (b7 P) (y7 P) (n zjl z z))) (n (o71 P) (n zgA (n (b8 P) (y7 P) z) (y7 P)) (n zhb (n ziq z z) (y8 P)))))))) (n (boot_o_2 P) (n (boot_o_4 P) (n (b8 P) (n (b8 P) (n (b7 P) (n o26 (n o72 (n zhc (n zjF z z) z) (n (zir P) z z)) (n (b7 P) (n zhN (y7 P) z) (y7 P))) (n o54 (n (b7 P) (n (b8 P) (n zkL z z) z) (n ziK z z)) (n zgU (y7 P) (y7 P)))) (n o23 (n o44 (n o82 (n zhl (n zkC z z) z) (n ziA z z)) (n zgK (n zhX z z) (n zje z z))) (n o26 (n zgt (n (b7 P) (n zkV z z) z) (y8 P)) (n zg3 (y7 P) (n zjw z z))))) (n o9 (n o18 (n o40 (n o26 (n (b7 P) (n zkx z z) z) (y7 P)) (n (b8 P) (n zhS (n zk8 z z) z) (n zi9 z z))) (n o58 (n o96 (n zhA (n zkQ z z) z) (y7 P)) (n (b7 P) (n zia z z) (y8 P)))) (n o29 (n o26 (n (b7 P) (n zhq (y8 P) z) (n ziF z z)) (n zgP (y7 P) (n zjj z z))) (n o68 (n zgy (n (b7 P) (n zkZ z z) z) (n ziZ z z)) (n zg8 (n (zik P) z z) (y7 P)))))) (n zkt (n o7 (n (b7 P) (n o37 (n o75 (n zhf (n zkv z z) z) (n ziu z z)) (n zgD (n (b8 P) (y7 P) z) (y7 P))) (n o26 (n (b7 P) (n (b7 P) (y8 P) z) (y7 P)) (n (b7 P) (y7 P) (n zjp z z)))) (n (o27 P) (n o47 (n (b8 P) (n (b8 P) (n zkE z z) z) (y8 P)) (n (b8 P) (y7 P) (n zjg z z))) (n o65 (n zgv (n zhH (n zkX z z) z) (n ziV z z)) (n zg5 (n zig z z) (n zjz z z))))) (n o12 (n (b8 P) (n o26 (n o79 (n (b7 P) (n zkA z z) z) (y7 P)) (n (b7 P) (n zhU z z) (y8 P))) (n o61 (n (b8 P) (n (b7 P) (n zkS z z) z) (n ziQ z z)) (n zg1 (y7 P) (n zju z z)))) (n o32 (n o51 (n o90 (n zhs (n zkJ z z) z) (n ziH z z)) (n zgR (n zh3 z z) (y7 P))) (n o26 (n (b7 P) (n (b7 P) (n zk2 z z) z) (n zi3 z z)) (n zha (n zio z z) (y7 P))))))) (n (boot_o_6 P) (n (boot_o_10 P) (n (b7 P) (n o15 (n (b7 P) (n (b7 P) (n zhd (y8 P) z) (n zis z z)) (n o111 (n zhP (n zk5 z z) z) (n zi6 z z))) (n o56 (n o93 (n zhw (n zkN z z) z) (y8 P)) (n (b8 P) (n zh6 z z) (n zjo z z)))) (n o25 (n (b7 P) (n o84 (n zhn (y7 P) z) (n ziC z z)) (n zgM (y8 P) (y7 P))) (n (b7 P) (n (b7 P) (n zhF (y8 P) z) (y7 P)) (n (b7 P) (n zif z z) (n zjx z z))))) (n o10 (n o20 (n o42 (n (b7 P) (n zhi (n zky z z) z) (n zix z z)) (n zgH (n (b7 P) (n zla z z) z) (n zjb z z))) (n (b7 P) (n o98 (n (b8 P) (y7 P) z) (n ziP z z)) (n zgZ (n o26 z z) (y7 P)))) (n (o30 P) (n (b7 P) (n o88 (n (b7 P) (y7 P) z) (y7 P)) (n (b7 P) (n zh2 z z) (y8 P))) (n o70 (n (b8 P) (n zhK (n zk0 z z) z) (n zi1 z z)) (n (b8 P) (n zim z z) (n zjC z z)))))) (n o2 (n (b7 P) (n o17 (n (b7 P) (n o77 (n (b8 P) (y7 P) z) (y8 P)) (n zgF (n (b7 P) (n zk7 z z) z) (n zi8 z z))) (n (b7 P) (n o95 (n zhy (y7 P) z) (n ziN z z)) (n zgX (n zh8 z z) (n zjr z z)))) (n (b8 P) (n o49 (n o86 (n (b7 P) (n zkG z z) z) (y7 P)) (n (b7 P) (n zh0 z z) (n zjh z z))) (n (b7 P) (n zgw (n (b8 P) (y7 P) z) (n ziX z z)) (n zg6 (n zii z z) (y8 P))))) (n (b8 P) (n (b7 P) (n (b7 P) (n (b7 P) (n zhk (y8 P) z) (n ziz z z)) (n zgJ (n zhV z z) (y7 P))) (n o63 (n (b7 P) (n zhD (n zkT z z) z) (n ziS z z)) (n (b8 P) (n zid z z) (y7 P)))) (n o34 (n (b7 P) (n (b8 P) (n zhu (y7 P) z) (n ziI z z)) (n zgS (y8 P) (n zjm z z))) (n (b7 P) (n zgB (n zhM (y8 P) z) (y8 P)) (n (b7 P) (y7 P) (n zjE z z)))))))))
noncomputable def hF (P:Params):Heap:=⟨#[boot_o_0 P,boot_o_1 P,boot_o_2 P,zks P,boot_o_4 P,boot_o_5 P,boot_o_6 P,b7 P,b8 P,boot_o_9 P,boot_o_10 P,b7 P,zkt,o1,o2,b7 P,b8 P,o5,b7 P,o6,o7,o8,b7 P,b8 P,o9,b7 P,o10,o11,o12,b7 P,b8 P,o13,b7 P,o14,o15,o16,b7 P,b8 P,o17,b7 P,o18,o19,o20,b7 P,b8 P,o21,b7 P,o22,o23,o24,o25,o26,o27 P,b7 P,b8 P,o28,o29,b7 P,o30 P,o31,o32,o33,o34,o35,o26,o36 P,b7 P,b8 P,o37,o38,b7 P,o39 P,o40,o41,o42,o35,o26,o43 P,b7 P,b8 P,o44,o45,b7 P,o46 P,o47,o48,o49,o35,o26,o50 P,b7 P,b8 P,o51,o52,b7 P,o53 P,o54,o55,o56,o35,o26,o57 P,b7 P,b8 P,o58,o59,b7 P,o60 P,o61,o62,o63,o35,o26,o64 P,b7 P,b8 P,o65,o66,b7 P,o67 P,o68,o69,o70,o35,o26,o71 P,b7 P,b8 P,o72,o73,b7 P,o74 P,o75,o76,o77,o35,o26,o78 P,b7 P,b8 P,o79,o80,b7 P,o81 P,o82,o83,o84,b7 P,b8 P,o85,o86,o87,b7 P,b8 P,o88,o89,o90,b7 P,b8 P,o91,b7 P,o92,o93,o94,b7 P,b8 P,o95,b7 P,o96,o97,o98,b7 P,b8 P,o99,b7 P,o100,zgt,zgu,b7 P,b8 P,zgv,b7 P,zgw,zgx,zgy,b7 P,b8 P,zgz,b7 P,zgA,zgB,zgC,b7 P,b8 P,o111,b7 P,zgD,zgE,zgF,b7 P,b8 P,zgG,zgH,zgI,b7 P,b8 P,zgJ,b7 P,zgK,zgL,zgM,b7 P,b8 P,zgN,b7 P,zgO,zgP,zgQ,b7 P,b8 P,zgR,b7 P,zgS,zgT,zgU,b7 P,b8 P,zgV,b7 P,zgW,zgX,zgY,b7 P,b8 P,zgZ,zg0,zg1,b7 P,b8 P,zg2,zg3,zg4,b7 P,b8 P,zg5,b7 P,zg6,zg7,zg8,b7 P,b8 P,zg9,zha,zhb,b7 P,b8 P,zhc,b7 P,zhd,zhe,zhf,b7 P,b8 P,zhg,b7 P,zhh,zhi,zhj,b7 P,b8 P,zhk,b7 P,zhl,zhm,zhn,b7 P,b8 P,zho,b7 P,zhp,zhq,zhr,b7 P,b8 P,zhs,zht,zhu,b7 P,b8 P,zhv,zhw,zhx,b7 P,b8 P,zhy,zhz,zhA,b7 P,b8 P,zhB,b7 P,zhC,zhD,zhE,b7 P,b8 P,zhF,zhG,zhH,b7 P,b8 P,zhI,b7 P,zhJ,zhK,zhL,b7 P,b8 P,zhM,b7 P,zhN,zhO,zhP,b7 P,b8 P,zhQ,b7 P,zhR,zhS,zhT,b7 P,b8 P,zhU,b7 P,zhV,zhW,zhX,b7 P,b8 P,zhY,b7 P,zhZ,zh0,zh1,b7 P,b8 P,zh2,o200,zh3,b7 P,b8 P,zh4,b7 P,zh5,zh6,zh7,b7 P,b8 P,zh8,zh9,zia,b7 P,o26,zib P,b7 P,zic,zid,zie,b7 P,b8 P,zif,b7 P,zig,zih,zii,zij,zik P,zil,zim,zin,zio,ziq,b7 P,o26,zir P,b7 P,zis,zit,ziu,b7 P,b8 P,ziv,b7 P,ziw,zix,ziy,b7 P,b8 P,ziz,b7 P,ziA,ziB,ziC,b7 P,b8 P,ziD,b7 P,ziE,ziF,ziG,b7 P,b8 P,ziH,b7 P,ziI,ziJ,ziK,b7 P,b8 P,ziL,b7 P,ziM,ziN,ziO,b7 P,b8 P,ziP,b7 P,ziQ,ziR,ziS,b7 P,b8 P,ziT,b7 P,ziU,ziV,ziW,ziX,ziY P,ziZ,zi0,zi1,zi2,zi3,b7 P,b8 P,zi4,b7 P,zi5,zi6,zi7,b7 P,b8 P,zi8,b7 P,zi9,zja,zjb,b7 P,b8 P,zjc,b7 P,zjd,zje,zjf,b7 P,b8 P,zjg,b7 P,zjh,zji,zjj,b7 P,b8 P,zjk,b7 P,zjl,zjm,zjn,b7 P,b8 P,zjo,b7 P,zjp,zjq,zjr,b7 P,b8 P,zjs,b7 P,zjt,zju,zjv,b7 P,b8 P,zjw,b7 P,zjx,zjy,zjz,b7 P,b8 P,zjA,b7 P,zjB,zjC,zjD,b7 P,b8 P,zjE,o300,zjF,b7 P,b8 P,zku,zkv,zkw,b7 P,b8 P,zkx,b7 P,zky,zkz,zkA,b7 P,b8 P,zkB,zkC,zkD,b7 P,b8 P,zkE,zkF,zkG,b7 P,b8 P,zkH,b7 P,zkI,zkJ,zkK,b7 P,b8 P,zkL,zkM,zkN,b7 P,b8 P,zkO,b7 P,zkP,zkQ,zkR,b7 P,b8 P,zkS,b7 P,zkT,zkU,zkV,b7 P,b8 P,zkW,zkX,zkY,b7 P,b8 P,zkZ,b7 P,zk0,zk1,zk2,b7 P,b8 P,zk3,b7 P,zk4,zk5,zk6,b7 P,b8 P,zk7,b7 P,zk8,zk9,zla],lf⟩
noncomputable def view:Program:={ p with main:={ p.main with body:=[t 1,t 2,t 3,t 4,t 5,t 7,t 8,t 9,t 10,t 11,t 12,t 13,t 14,t 16,t 17,t 18,t 19,t 20,t 22,t 23,t 25,t 27,t 28,t 29,t 30,t 32,t 33,t 34,t 36,t 37,t 38,t 40,t 41,t 42,t 43,t 44,t 45,t 46,t 47,t 48,t 49,t 51,t 52,t 53,t 54,t 55,t 56,t 57,t 58,t 59,t 60,t 61,t 62,t 63,t 64,t 65,t 67,t 68,t 69,t 70,t 71,t 72,t 74,t 75,t 76,t 77,t 78,t 79,t 80,t 81,t 82,t 83,t 84,t 85,t 86,t 87,t 88,t 89,t 90,t 91] } }
noncomputable abbrev env:Env:={ scope:=p.main.scope,locals:=mainNs,globals:=mainNs,cells:=[],code:=(.ref 13),frame:=some 14 }
noncomputable abbrev cE:Code:=.body (behindTheImports p) env
noncomputable abbrev fq:Pos:=⟨0,0,0,0⟩
noncomputable abbrev an:Option Value:=(some (.ref 6))
noncomputable abbrev s0 (w:World) (os:OsState):Shared:=⟨boot_heap w.params,#[],boot_drawn,boot_toks,os⟩
noncomputable abbrev S (w:World) (os:OsState):Shared:=⟨hF w.params,#[],⟨0,0,0,0⟩,999,os⟩
theorem pre (w:World) (os:OsState):topGo treeTable p w 11 an 12 (s0 w os) (topStub p)=some ((⟨hA w.params,#[],⟨0,0,0,0⟩,187,os⟩:Shared),⟨denote treeTable cE,cE,⟨0,0,0,0⟩,[topFrame fq]⟩):=by
 rewrite [W.Fast.te15667345088766844465,W.Fast.te14364793385576792824,W.Fast.te11892475500146522536]
 kernel_rfl
theorem block (w:World) (os:OsState):segRun treeTable p w 11 an 1 1 (⟨hA w.params,#[],⟨0,0,0,0⟩,187,os⟩:Shared) (blockOf (behindTheImports p) env cE ⟨0,0,0,0⟩ [topFrame fq])=some (.next,(⟨tr0 w.params,15,lf,#[],⟨0,0,0,0⟩,187,os⟩:SharedT).abs,cE,⟨0,0,0,0⟩):=by
 rewrite [W.Fast.te14374325043358763698,W.Fast.te14364793385576792824]
 kernel_rfl
noncomputable def zjG:List Stmt:=[t 0,t 1,t 2,t 3,t 4,t 5,t 6,t 7,t 8,t 9,t 10,t 11,t 12,t 13,t 14,t 15,t 16,t 17,t 18,t 19,t 20,t 21,t 22,t 23,t 24,t 25,t 26,t 27,t 28,t 29,t 30,t 31,t 32,t 33,t 34,t 35,t 36,t 37,t 38,t 39,t 40,t 41,t 42,t 43,t 44,t 45,t 46,t 47,t 48,t 49,t 50,t 51,t 52,t 53,t 54,t 55,t 56,t 57,t 58,t 59,t 60,t 61,t 62,t 63,t 64,t 65,t 66,t 67,t 68,t 69,t 70,t 71,t 72,t 73,t 74,t 75,t 76,t 77,t 78,t 79]
theorem zlC (w:World) (os:OsState):segRunT treeTable p w 11 an 1 3985 (⟨tr0 w.params,15,lf,#[],⟨0,0,0,0⟩,187,os⟩:SharedT) (piecesOf zjG env cE ⟨0,0,0,0⟩ [topFrame fq])=some (.next,(⟨tr1 w.params,513,lf,#[],⟨0,0,0,0⟩,895,os⟩:SharedT),cE,⟨354,0,364,40⟩):=by
 rewrite [W.Fast.te10110043849684766642,W.Fast.te14364793385576792824]
 kernel_rfl
noncomputable def zjH:List Stmt:=[t 80,t 81,t 82,t 83,t 84,t 85,t 86,t 87,t 88,t 89,t 90,t 91]
theorem zlD (w:World) (os:OsState):segRunT treeTable p w 11 an 1 359 (⟨tr1 w.params,513,lf,#[],⟨0,0,0,0⟩,895,os⟩:SharedT) (piecesOf zjH env cE ⟨354,0,364,40⟩ [topFrame fq])=some (.next,(⟨tr2 w.params,587,lf,#[],⟨0,0,0,0⟩,999,os⟩:SharedT),cE,⟨481,0,500,97⟩):=by
 rewrite [W.Fast.te10110043849684766642,W.Fast.te14364793385576792824]
 kernel_rfl
theorem fin (w:World) (os:OsState):topRun treeTable p w 11 an 2 (⟨tr2 w.params,587,lf,#[],⟨0,0,0,0⟩,999,os⟩:SharedT).abs ⟨doneF .next,cE,⟨481,0,500,97⟩,[topFrame fq]⟩=some (S w os):=by
 rewrite [W.Fast.te14082659384304107361,W.Fast.te14364793385576792824]
 kernel_rfl
theorem parts:behindTheImports p=zjG++(zjH++[]):=by kernel_rfl
theorem rest (w:World) (os:OsState):topRun treeTable p w 11 an (3985+(359+(2))) (⟨tr0 w.params,15,lf,#[],⟨0,0,0,0⟩,187,os⟩:SharedT).abs (restOf (zjG++(zjH++[])) env cE ⟨0,0,0,0⟩ [topFrame fq])=some (S w os):=(piece_app (segRun_of (zlC w os)) (piece_app (segRun_of (zlD w os)) (piece_nil (fin w os))))
theorem rest' (w:World) (os:OsState):topRun treeTable p w 11 an (3985+(359+(2))) (⟨tr0 w.params,15,lf,#[],⟨0,0,0,0⟩,187,os⟩:SharedT).abs (restOf (behindTheImports p) env cE ⟨0,0,0,0⟩ [topFrame fq])=some (S w os):=(congrArg (fun l=>topRun treeTable p w 11 an (3985+(359+(2))) (⟨tr0 w.params,15,lf,#[],⟨0,0,0,0⟩,187,os⟩:SharedT).abs (restOf l env cE ⟨0,0,0,0⟩ [topFrame fq])) parts).trans (rest w os)
theorem run (w:World) (os:OsState):topRun treeTable p w 11 an (12+(1+(3985+(359+(2))))) (s0 w os) (topStub p)=some (S w os):=go_top (pre w os) (piece_block (block w os) (rest' w os))
theorem size (w:World):((boot_heap w.params).isNs mainGlobals && (#[]:Array GenState).size == 0,(boot_heap w.params).objs.size,(boot_heap w.params).nsMap mainGlobals "__annotations__")=(true,11,an):=by
 rewrite [W.Fast.te8920871248978507458]
 kernel_rfl
noncomputable abbrev Xt:Shared→Bool:=fun s=>xlAt view [] s && recOk PySem.Challenge.rw_bellwrite_k93_orders_read.row.toRowW.records s
theorem zlb (w:World) (os:OsState):(staticsOk (importedModules p.main.body) (boot_heap w.params) (hF w.params) && namesBound p (hF w.params) && gensDone (S w os) && laidKept (boot_heap w.params) (hF w.params))=true:=by
 rewrite [W.Fast.te5923862056798008813]
 kernel_rfl
theorem zlc (w:World) (os:OsState):openSeen view [] (importedModules p.main.body) Xt true (S w os)=openGood view []:=by
 unfold openSeen openGood
 refine looks_pair ?_ (looks_pair ?_ (looks_pair ?_ (looks_pair ?_ (looks_pair ?_ (looks_pair ?_ (looks_pair ?_ (looks_pair ?_ ?_)))))))
 ·(try rewrite [W.Fast.te5160383126252970620]);(try rewrite [W.R.mapR_eq]);(try rewrite [W.Fast.te3399658132070893891]);(try rewrite [W.Fast.te5991557255702980513]);kernel_rfl
 ·kernel_rfl
 ·(try rewrite [W.Fast.te10880121769531294198]);(try rewrite [W.Fast.te821141287760084731]);(try rewrite [W.R.mapR_eq]);(try rewrite [W.Fast.te3399658132070893891]);(try rewrite [W.Fast.te7409074990110511671]);(try rewrite [W.Fast.te13664370479719496447]);(try rewrite [W.Fast.te14722251495701143533]);(try rewrite [W.Fast.te5923862056798008813]);(try rewrite [W.Fast.te10994771534591457954]);kernel_rfl
 ·(try rewrite [W.Fast.te479339242167458305]);kernel_rfl
 ·(try rewrite [W.Fast.te16090120013241838585]);(try rewrite [W.Fast.te3247288618530077131]);kernel_rfl
 ·(try rewrite [W.Fast.te2386780881361962483]);(try rewrite [W.Fast.te821141287760084731]);kernel_rfl
 ·(try rewrite [W.Fast.te11698064438423848299]);kernel_rfl
 ·(try rewrite [W.Fast.te7317090234206586261]);kernel_rfl
 ·(try rewrite [W.Fast.te7369524293546568484]);kernel_rfl
theorem left (H:Hook) (hk:∀(w:World) (os:OsState),H.obs (S w os)=H.val w):LeftO p view [] Xt H.obs H.val 20000:=
 LeftO.of_pieces (boot_open (by kernel_rfl) (by decide) (fun s=>by rfl)) size run (by decide) (fun w=>funext fun os=>looks_pair (zlb w os) (looks_pair (zlc w os) (hk w os)))
theorem opens {d:DefRec}{kwd:List (Str×Expr)} (H:Hook) (hk:∀(w:World) (os:OsState),H.obs (S w os)=H.val w) (h1:defOf view PySem.Challenge.rw_bellwrite_k93_orders_read.row.name=some (d,kwd)) (h2:PySem.Challenge.rw_bellwrite_k93_orders_read.row.prog.theDef PySem.Challenge.rw_bellwrite_k93_orders_read.row.name=some (d.params,d.body,d.scope)) (h3:kwWritten? d.params.kwonlyargs d.params.kw_defaults=some kwd) (said:PySem.Challenge.rw_bellwrite_k93_orders_read.row.wellSaid=true) (hw:PySem.Challenge.rw_bellwrite_k93_orders_read.row.toRowW.promised)
  (hc:WalkO view [] (XL view []) H.says PySem.Challenge.rw_bellwrite_k93_orders_read.row.toRowW d kwd fun f vs=>PySem.call f vs):PySem.Challenge.rw_bellwrite_k93_orders_read.row.Holds:=by
 have ok:(chainsOk view && opensWell PySem.Challenge.rw_bellwrite_k93_orders_read.row.prog && (frees PySem.Challenge.rw_bellwrite_k93_orders_read.row.toRowW && PySem.Challenge.rw_bellwrite_k93_orders_read.row.within.isEmpty))=true:=by kernel_rfl
 exact holds_open (Xt:=Xt) (N:=20000) (left H hk) H.of H.keeps (fun s y=>xl_of s (Bool.and_eq_true_iff.mp y).1) XL.keeps h1 h2 h3
  (fun s y=>recFacts_of (Bool.and_eq_true_iff.mp y).2) (by rfl) said ok ⟨rfl,rfl,rfl,rfl,rfl,by decide +kernel⟩ hw hc
end
end Op
open PySem PySem.W PyProof.Rows
local macro_rules
  | `(tactic| o_head $h) => `(tactic| refine Op.opens $h (fun w os => ?hk) (by rfl) (by rfl) (by rfl) (by assumption) ?hw ?hc)
set_option maxRecDepth 100000 in
set_option maxHeartbeats 0 in
theorem PySem.Challenge.cw_bellwrite_k93_orders_read_holds : PySem.Challenge.rw_bellwrite_k93_orders_read.Holds := by
  w_on; refine holds_law Op.said fun said => ?_; k_head; (case hk => kernel_rfl); (case hw => w_witness2)
  k_fill
  refine Bw.walk (l := PySem.Challenge.rw_bellwrite_k93_orders_read) rfl rfl (by decide +kernel) (fun w h Y => W.kIn_of Y) ?F
  case F =>
    intro w mg fa h KX G hmg
    refine' Bw.all_mk (l := PySem.Challenge.rw_bellwrite_k93_orders_read) rfl KX G hmg ?d0 ?d1 ?d2 ?d3 ?d4 ?d5 ?d6 ?d7 ?d8 ?d9 ?d10 ?d11 ?d12 ?d13 ?d14 ?d15 ?d16 ?d17 ?d18 ?d19 ?d20 ?d21 ?d22 ?d23 ?d24 ?d25 ?d26 ?d27 ?d28 ?d29 ?d30 ?d31 ?d32 ?d33 ?d34 ?d35 ?d36 ?d37 ?d38 ?d39 ?d40 ?d41 ?d42 ?d43 ?d44 ?d45 ?d46 ?d47 ?d48 ?d49 ?d50 ?d51 ?d52 ?d53 ?d54 ?d55 ?d56 ?d57 ?d58 ?d59 ?d60 ?z_range ?z_isinstance ?z_int ?zar ?z_len ?zas ?zcD ?z_min ?z_enumerate ?z_sorted ?zcE ?z_all ?z_str ?z_zip ?z_ValueError ?jU ?Qh ?jT ?qp ?kh ?yO ?zP ?xJ ?Qa ?Wk ?vX ?qL ?vY ?qM ?zN ?jx ?jV ?Km ?Zi ?jb ?zV ?yJ ?X6 ?ZZ ?xT ?Z0 ?zgq ?zgr ?zgs ?J4 ?Xa ?Xb ?Xc ?Xd ?Xe ?w6 ?yc ?yS ?kO ?Vt ?Vu ?Vv ?Vw ?Vx ?Vy ?yU ?yV ?ZC ?yd ?jX ?vL ?vM ?yW ?yX ?xU ?kY ?kZ ?ZD ?ZF ?xV ?wg ?wk ?wu ?ZG ?xW ?ww ?wy ?wz ?ZJ ?xX ?wA ?wB ?wC ?ZK ?jZ ?xN ?xO ?xP ?ye ?jj ?jC ?jD ?jE ?xY ?xZ ?wD ?wF ?wG ?ZL
    any_goals (refine' Bw.di_mk ?a ?l ?c ?k; (case a => k_is); (case l => k_is); (case c => k_is); (case k => k_is))
    (case z_range => k_is)
    (case z_isinstance => k_is)
    (case z_int => k_is)
    (case zar => k_is)
    (case z_len => k_is)
    (case zas => k_is)
    (case zcD => k_is)
    (case z_min => k_is)
    (case z_enumerate => k_is)
    (case z_sorted => k_is)
    (case zcE => k_is)
    (case z_all => k_is)
    (case z_str => k_is)
    (case z_zip => k_is)
    (case z_ValueError => k_is)
    (case jU => k_is)
    (case Qh => k_is)
    (case jT => k_is)
    (case qp => k_is)
    (case kh => k_is)
    (case yO => k_is)
    (case zP => k_is)
    (case xJ => k_is)
    (case Qa => k_is)
    (case Wk => k_is)
    (case vX => k_is)
    (case qL => k_is)
    (case vY => k_is)
    (case qM => k_is)
    (case zN => k_is)
    (case jx => k_is)
    (case jV => k_exc)
    (case Km => k_exc)
    (case Zi => k_exc)
    (case jb => k_exc)
    (case zV => k_exc)
    (case yJ => k_exc)
    (case X6 => k_exc)
    (case ZZ => refine' Bw.xf_of 0 true false false false false rfl ?a0 ?a1 ?a2 ?a3 ?a4 ?a5 ?a6 ?a7 ?a8 ?a9 ?a10 ?a11 ?a12 ?a13 ?a14 ?a15 ?a16; (case a0 => k_exc); (case a1 => k_is); (case a2 => k_is); (case a3 => k_is); (case a4 => k_is); (case a5 => k_is); (case a6 => k_is); (case a7 => k_is); (case a8 => k_is); (case a9 => kit_is); (case a10 => kit_is); (case a11 => kit_is); (case a12 => kit_is); (case a13 => kit_is); (case a14 => kit_is); (case a15 => kit_is); (case a16 => kit_is))
    (case xT => refine' Bw.xf_of 1 false true false false false rfl ?a0 ?a1 ?a2 ?a3 ?a4 ?a5 ?a6 ?a7 ?a8 ?a9 ?a10 ?a11 ?a12 ?a13 ?a14 ?a15 ?a16; (case a0 => k_exc); (case a1 => k_is); (case a2 => k_is); (case a3 => k_is); (case a4 => k_is); (case a5 => k_is); (case a6 => k_is); (case a7 => k_is); (case a8 => k_is); (case a9 => kit_is); (case a10 => kit_is); (case a11 => kit_is); (case a12 => kit_is); (case a13 => kit_is); (case a14 => kit_is); (case a15 => kit_is); (case a16 => kit_is))
    (case Z0 => refine' Bw.xf_of 2 false false true false false rfl ?a0 ?a1 ?a2 ?a3 ?a4 ?a5 ?a6 ?a7 ?a8 ?a9 ?a10 ?a11 ?a12 ?a13 ?a14 ?a15 ?a16; (case a0 => k_exc); (case a1 => k_is); (case a2 => k_is); (case a3 => k_is); (case a4 => k_is); (case a5 => k_is); (case a6 => k_is); (case a7 => k_is); (case a8 => k_is); (case a9 => kit_is); (case a10 => kit_is); (case a11 => kit_is); (case a12 => kit_is); (case a13 => kit_is); (case a14 => kit_is); (case a15 => kit_is); (case a16 => kit_is))
    (case zgq => k_is)
    (case zgr => decide +kernel)
    (case zgs => k_is)
    (case J4 => k_is)
    (case Xa => k_is)
    (case Xb => k_is)
    (case Xc => k_is)
    (case Xd => k_is)
    (case Xe => k_is)
    (case w6 => k_is)
    (case yc => k_is)
    (case yS => k_is)
    (case kO => k_is)
    (case Vt => k_is)
    (case Vu => k_is)
    (case Vv => k_is)
    (case Vw => k_is)
    (case Vx => k_is)
    (case Vy => k_is)
    (case yU => k_is)
    (case yV => k_is)
    (case ZC => k_is)
    (case yd => k_is)
    (case jX => k_is)
    (case vL => k_is)
    (case vM => k_is)
    (case yW => k_is)
    (case yX => k_is)
    (case xU => k_is)
    (case kY => k_is)
    (case kZ => k_is)
    (case ZD => k_is)
    (case ZF => k_is)
    (case xV => k_is)
    (case wg => k_is)
    (case wk => k_is)
    (case wu => k_is)
    (case ZG => k_is)
    (case xW => k_is)
    (case ww => k_is)
    (case wy => k_is)
    (case wz => k_is)
    (case ZJ => k_is)
    (case xX => k_is)
    (case wA => k_is)
    (case wB => k_is)
    (case wC => k_is)
    (case ZK => k_is)
    (case jZ => k_is)
    (case xN => k_is)
    (case xO => k_is)
    (case xP => k_is)
    (case ye => k_is)
    (case jj => k_is)
    (case jC => k_is)
    (case jD => k_is)
    (case jE => k_is)
    (case xY => k_is)
    (case xZ => k_is)
    (case wD => k_is)
    (case wF => k_is)
    (case wG => k_is)
    (case ZL => k_is)