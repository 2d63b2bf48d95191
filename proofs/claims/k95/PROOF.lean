import PyProof.Rows.All
import Wide.All
import OpenK.AllK
import Wide.FinOn
import Lean
import PyProof.EqAt
import PyProof.EqKinds
import PyProof.TupleCall
import KE.IntBitsLaws
import PySem.Challenge.RW_bellwrite_k95_notes_at_the_desk
set_option Elab.async false
set_option linter.all false
set_option maxRecDepth 100000
set_option maxHeartbeats 4000000
set_option genSizeOf false
namespace L2
open PySem PySem.Spec PyProof.Rows
abbrev Key := Sum Int Str
noncomputable def keyIs : Key → Value → Bool
  | .inl k, v => Value.isInt k v
  | .inr x, v => Value.isStrOf x v
noncomputable def keyH (w : World) : Key → Int
  | .inl k => hashInt k
  | .inr x => hashStr w x
theorem keyIs_shape : ∀ {k : Key} {v : Value}, keyIs k v = true → (∃ i t, k = Sum.inl i ∧ v = Value.int i t) ∨ (∃ x t, k = Sum.inr x ∧ v = Value.str x t)
  | .inl i, v, h => by
    obtain ⟨t, e⟩ := Value.isInt_shape (k := i) (v := v) h
    exact .inl ⟨i, t, rfl, e⟩
  | .inr x, v, h => by
    obtain ⟨t, e⟩ := Value.isStrOf_shape (x := x) (v := v) h
    exact .inr ⟨x, t, rfl, e⟩
theorem keyIs_int (i : Int) (t : Tok) : keyIs (.inl i) (.int i t) = true := by simp [keyIs, Value.isInt]
theorem keyIs_str (x : Str) (t : Tok) : keyIs (.inr x) (.str x t) = true := by simp [keyIs, Value.isStrOf]
theorem key_ll (a b : Int) : decide ((Sum.inl a : Key) = Sum.inl b) = (a == b) := by
  by_cases e : a = b
  · subst e; simp
  · have h : ¬ (Sum.inl a : Key) = Sum.inl b := fun q => e (Sum.inl.inj q)
    rw [decide_eq_false h]
    exact (beq_eq_false_iff_ne.mpr e).symm
theorem key_rr (a b : Str) : decide ((Sum.inr a : Key) = Sum.inr b) = decide (a = b) := by
  by_cases e : a = b
  · subst e; simp
  · have h : ¬ (Sum.inr a : Key) = Sum.inr b := fun q => e (Sum.inr.inj q)
    rw [decide_eq_false h, decide_eq_false e]
theorem key_lr (a : Int) (b : Str) : decide ((Sum.inl a : Key) = Sum.inr b) = false := decide_eq_false (fun q => nomatch q)
theorem key_rl (a : Str) (b : Int) : decide ((Sum.inr a : Key) = Sum.inl b) = false := decide_eq_false (fun q => nomatch q)
noncomputable def mixKind (prog : Program) (w : World) : PySem.KeyKind prog w Key where
  is := keyIs
  hash := keyH w
  inj := fun v a b ha hb => by
    rcases keyIs_shape ha with ⟨i, t, rfl, rfl⟩ | ⟨x, t, rfl, rfl⟩
    · rcases keyIs_shape hb with ⟨j, u, rfl, e⟩ | ⟨y, u, rfl, e⟩
      · injection e with e1 _; rw [e1]
      · exact nomatch e
    · rcases keyIs_shape hb with ⟨j, u, rfl, e⟩ | ⟨y, u, rfl, e⟩
      · exact nomatch e
      · injection e with e1 _; rw [e1]
  byValue := fun k v h => by
    rcases keyIs_shape h with ⟨i, t, rfl, rfl⟩ | ⟨x, t, rfl, rfl⟩ <;> rfl
  pyHash := fun hv h => by
    rcases keyIs_shape hv with ⟨i, t, rfl, rfl⟩ | ⟨x, t, rfl, rfl⟩
    · exact wpAny_pyHash_int h
    · exact wpAny_pyHash_str h
  eqBool := fun hu hv h => by
    rcases keyIs_shape hu with ⟨i, t, rfl, rfl⟩ | ⟨x, t, rfl, rfl⟩
    · rcases keyIs_shape hv with ⟨j, u, rfl, rfl⟩ | ⟨y, u, rfl, rfl⟩
      · rw [key_ll] at h; exact wpAny_eqBool_int h
      · rw [key_lr] at h; exact SeqAt.EqAt.int_str i t y u _ _ _ _ h
    · rcases keyIs_shape hv with ⟨j, u, rfl, rfl⟩ | ⟨y, u, rfl, rfl⟩
      · rw [key_rl] at h; exact SeqAt.EqAt.str_int x t j u _ _ _ _ h
      · rw [key_rr] at h; exact wpAny_eqBool_str h
  «strs» := fun k x t v h => by
    rcases keyIs_shape h with ⟨i, u, rfl, e⟩ | ⟨y, u, rfl, e⟩
    · exact nomatch e
    · injection e with e1 _
      subst e1
      cases v <;> rfl
theorem mixKind_int (prog : Program) (w : World) (i : Int) (t : Tok) : (mixKind prog w).is (.inl i) (.int i t) = true := keyIs_int i t
theorem mixKind_str (prog : Program) (w : World) (x : Str) (t : Tok) : (mixKind prog w).is (.inr x) (.str x t) = true := keyIs_str x t
inductive V where
  | non | bl (b : Bool) | int (i : Int) | str (x : Str) | byt (b : Array UInt8) | flt (b : UInt64) | ref (a : Addr) | ty (n : String)
  deriving DecidableEq
noncomputable def RelV : V → Value → Prop
  | .non, u => u = Value.none
  | .bl b, u => u = Value.bool b
  | .int i, u => ∃ t, u = Value.int i t
  | .str x, u => ∃ t, u = Value.str x t
  | .byt b, u => ∃ t, u = Value.bytes b t
  | .flt b, u => ∃ t, u = Value.float b t
  | .ref a, u => u = Value.ref a
  | .ty n, u => u = Value.type n
abbrev Vals : List V → List Value → Prop := Paired RelV
theorem Vals.length {xs : List V} {us : List Value} (r : Vals xs us) : xs.length = us.length := Paired.length r
theorem Vals.get : ∀ {xs : List V} {us : List Value} {i : Nat} {x : V}, Vals xs us → xs[i]? = some x → ∃ u, us[i]? = some u ∧ RelV x u
  | _, _, _, _, .nil, e => by simp at e
  | _, _, 0, _, .cons r _, e => by simp at e; subst e; exact ⟨_, rfl, r⟩
  | _, _, i + 1, x, .cons _ t, e => by
    obtain ⟨u, h1, h2⟩ := Vals.get (i := i) (x := x) t (by simpa using e)
    exact ⟨u, by simpa using h1, h2⟩
theorem Vals.set {x : V} {u : Value} (r : RelV x u) : ∀ {xs : List V} {us : List Value} (i : Nat), Vals xs us → Vals (xs.set i x) (us.set i u)
  | _, _, _, .nil => .nil
  | _, _, 0, .cons _ t => .cons r t
  | _, _, i + 1, .cons q t => .cons q (Vals.set r i t)
theorem Vals.append : ∀ {xs ys : List V} {us ws : List Value}, Vals xs us → Vals ys ws → Vals (xs ++ ys) (us ++ ws)
  | _, _, _, _, .nil, s => s
  | _, _, _, _, .cons r t, s => .cons r (Vals.append t s)
theorem Vals.take : ∀ {xs : List V} {us : List Value} (n : Nat), Vals xs us → Vals (xs.take n) (us.take n)
  | _, _, 0, _ => .nil
  | _, _, _ + 1, .nil => .nil
  | _, _, n + 1, .cons r t => .cons r (Vals.take n t)
theorem Vals.drop : ∀ {xs : List V} {us : List Value} (n : Nat), Vals xs us → Vals (xs.drop n) (us.drop n)
  | _, _, 0, r => r
  | _, _, _ + 1, .nil => .nil
  | _, _, n + 1, .cons _ t => Vals.drop n t
noncomputable def RelO : Option V → Option Value → Prop
  | some v, some u => RelV v u
  | none, none => True
  | _, _ => False
noncomputable def KV {κ : Type} : List (κ × V) → List (κ × Value) → Prop := Paired fun (p : κ × V) (q : κ × Value) => p.1 = q.1 ∧ RelV p.2 q.2
noncomputable def kV : Key → V
  | .inl i => .int i
  | .inr x => .str x
inductive HO where
  | lst (xs : List V)
  | tup (xs : List V)
  | dK (kvs : List (Key × V)) | dT (kvs : List (List Key × V))
  | set (S : Int → Bool) (n : Nat)
  | ins (C dx : Addr) (fs : List (Str × V))
  | own (x : Addr)
  | xd (fs : List (Str × V))
  | met (f x : Addr)
  | rng (lo hi : Int)
  | frz (o : Obj) (u : HO)
  | tbl (ps : Array Value)
  | ext (φ : Heap → Prop)
abbrev Hp := Addr → Option HO
noncomputable def upd (H : Hp) (a : Addr) (o : HO) : Hp := fun b => if b = a then some o else H b
theorem upd_same {H : Hp} {a : Addr} {o : HO} : upd H a o a = some o := by unfold upd; rw [if_pos rfl]
theorem upd_ne {H : Hp} {a b : Addr} {o : HO} (h : b ≠ a) : upd H a o b = H b := by unfold upd; rw [if_neg h]
theorem upd_upd {H : Hp} {a : Addr} {o u : HO} : upd (upd H a o) a u = upd H a u := by
  funext b; unfold upd; split <;> rfl
theorem ne_of {H : Hp} {a b : Addr} {o u : HO} (h : H a = some o) (h' : H b = some u) (d : o ≠ u) : a ≠ b := by
  intro e; subst e; rw [h] at h'; exact d (Option.some.inj h')
theorem ne_of_none {H : Hp} {a b : Addr} {o : HO} (h : H a = some o) (h' : H b = none) : a ≠ b := by
  intro e; subst e; rw [h] at h'; cases h'
section
variable (P : Program) (w : World)
noncomputable def ObjOk (H : Hp) (h : Heap) (a : Addr) : HO → Prop
  | .lst xs => xs.length ≤ sizeLine ∧ ∃ (its : List Value) (n : Nat), Vals xs its ∧ h.get? a = some { cls := .type "list", data := .seq its.toArray n }
  | .tup xs => xs.length ≤ sizeLine ∧ ∃ its : List Value, Vals xs its ∧ IsTup h a its.toArray
  | .dK kvs => kvs.length ≤ sizeLine ∧ (a == sysModules) = false ∧ ∃ vs, KV kvs vs ∧ h.DictOf (mixKind P w) a vs
  | .dT kvs => kvs.length ≤ sizeLine ∧ (a == sysModules) = false ∧ ∃ xs : List (List Key × Addr × Value),
      Paired (fun (p : List Key × V) (q : List Key × Addr × Value) => p.1 = q.1 ∧ H q.2.1 = some (.tup (p.1.map kV)) ∧ RelV p.2 q.2.2) kvs xs ∧
      ∃ o es ep, h.get? a = some o ∧ o.ExactDict ∧ o.data = .dict es ep ∧ es.toList = xs.map (entryOfKey (tupleKind (mixKind P w))) ∧ (xs.map (·.1)).Nodup
  | .set S n => h.SetOf (intKind P w) a S n
  | .ins C dx fs => H dx = some (.own a) ∧ fs.length ≤ 1000 ∧ dx ≠ a ∧ h.get? a = some (PySem.W.instObj C dx) ∧
      ∃ mA, h.Ns1 dx mA ∧ (∀ f, RelO (fs.lookup f) (mA f)) ∧ PySem.Within mA (fs.map (·.1))
  | .own _ => ∃ o, h.get? a = some o
  | .xd fs => ∃ mA, h.Ns1 a mA ∧ ∀ f, RelO (fs.lookup f) (mA f)
  | .rng lo hi => ∃ t u v, h.get? a = some { cls := .type "range", data := .fields #[.int lo t, .int hi u, .int 1 v] }
  | .frz o u => h.get? a = some o ∧ ObjOk H h a u
  | .tbl ps => h.get? a = some { cls := .none, data := .fields ps }
  | .met f x => h.get? a = some (PySem.W.methodObj (.ref f) (.ref x))
  | .ext φ => φ h ∧ (∃ o, h.get? a = some o) ∧ ∀ h1 h2 : Heap, φ h1 → (∀ o, h1.get? a = some o → h2.get? a = some o) → φ h2
noncomputable def HOk (H : Hp) (h : Heap) : Prop := ∀ a o, H a = some o → ObjOk P w H h a o
end
section
variable {P : Program} {w : World} {H H' : Hp} {h h' : Heap} {a : Addr} {o : HO}
theorem ObjOk.lt (x : ObjOk P w H h a o) : a < h.objs.size := by
  cases o with
  | lst xs => obtain ⟨_, _, _, _, e⟩ := x; exact Heap.lt_size e
  | tup xs => obtain ⟨_, _, _, p⟩ := x; exact p.lt
  | dK kvs => obtain ⟨_, _, _, _, o, _, _, e, _⟩ := x; exact Heap.lt_size e
  | dT kvs => obtain ⟨_, _, _, _, o, _, _, e, _⟩ := x; exact Heap.lt_size e
  | set S n => obtain ⟨o, _, _, _, e, _⟩ := x; exact Heap.lt_size e
  | ins C dx fs => obtain ⟨_, _, _, e, _⟩ := x; exact Heap.lt_size e
  | own y => obtain ⟨_, e⟩ := x; exact Heap.lt_size e
  | xd fs => obtain ⟨_, ⟨_, _, _, e, _⟩, _⟩ := x; exact Heap.lt_size e
  | rng lo hi => obtain ⟨_, _, _, e⟩ := x; exact Heap.lt_size e
  | frz ob u => obtain ⟨e, _⟩ := x; exact Heap.lt_size e
  | tbl ps => exact Heap.lt_size (show h.get? a = some _ from x)
  | met f y => exact Heap.lt_size (show h.get? a = some _ from x)
  | ext φ => obtain ⟨_, ⟨_, e⟩, _⟩ := x; exact Heap.lt_size e
theorem Paired.mapP {α β : Type} {F G : α → β → Prop} : ∀ {l₁ : List α} {l₂ : List β}, Paired F l₁ l₂ → (∀ a b, F a b → G a b) → Paired G l₁ l₂
  | _, _, .nil, _ => .nil
  | _, _, .cons r t, f => .cons (f _ _ r) (Paired.mapP t f)
theorem ObjOk.stay (x : ObjOk P w H h a o) (k : ∀ b u, (b = a ∨ H b = some (.own a)) → h.get? b = some u → h'.get? b = some u)
    (ho : ∀ b, H b = some (.own a) → H' b = some (.own a)) (ht : ∀ b xs, H b = some (.tup xs) → H' b = some (.tup xs)) : ObjOk P w H' h' a o := by
  induction o with
  | lst xs => obtain ⟨z, its, n, r, e⟩ := x; exact ⟨z, its, n, r, k _ _ (.inl rfl) e⟩
  | tup xs => obtain ⟨z, its, r, ob, e, c⟩ := x; exact ⟨z, its, r, ob, k _ _ (.inl rfl) e, c⟩
  | dK kvs => obtain ⟨z, y, vs, r, ob, es, ep, e, c⟩ := x; exact ⟨z, y, vs, r, ob, es, ep, k _ _ (.inl rfl) e, c⟩
  | dT kvs =>
    obtain ⟨z, y, xs, r, ob, es, ep, e, c⟩ := x
    exact ⟨z, y, xs, Paired.mapP r fun p q z => ⟨z.1, ht _ _ z.2.1, z.2.2⟩, ob, es, ep, k _ _ (.inl rfl) e, c⟩
  | set S n => obtain ⟨ob, es, ep, t, e, c⟩ := x; exact ⟨ob, es, ep, t, k _ _ (.inl rfl) e, c⟩
  | ins C dx fs =>
    obtain ⟨d, z, ne, e, mA, ⟨od, es, ep, e2, c⟩, r⟩ := x
    exact ⟨ho _ d, z, ne, k _ _ (.inl rfl) e, mA, ⟨od, es, ep, k _ _ (.inr d) e2, c⟩, r⟩
  | own y => obtain ⟨ob, e⟩ := x; exact ⟨ob, k _ _ (.inl rfl) e⟩
  | xd fs => obtain ⟨mA, ⟨od, es, ep, e, c⟩, r⟩ := x; exact ⟨mA, ⟨od, es, ep, k _ _ (.inl rfl) e, c⟩, r⟩
  | rng lo hi => obtain ⟨t, u, v, e⟩ := x; exact ⟨t, u, v, k _ _ (.inl rfl) e⟩
  | frz ob u ih => obtain ⟨e, q⟩ := x; exact ⟨k _ _ (.inl rfl) e, ih q⟩
  | tbl ps =>
    have e : h.get? a = some { cls := .none, data := .fields ps } := x
    show h'.get? a = some { cls := .none, data := .fields ps }
    exact k a _ (.inl rfl) e
  | met f y =>
    have e : h.get? a = some (PySem.W.methodObj (.ref f) (.ref y)) := x
    show h'.get? a = some (PySem.W.methodObj (.ref f) (.ref y))
    exact k a _ (.inl rfl) e
  | ext φ => obtain ⟨p, ⟨o, e⟩, st⟩ := x; exact ⟨st _ _ p fun o q => k _ _ (.inl rfl) q, ⟨o, k _ _ (.inl rfl) e⟩, st⟩
theorem HOk.lt (x : HOk P w H h) (e : H a = some o) : a < h.objs.size := (x a o e).lt
theorem HOk.fresh (x : HOk P w H h) (e : h.objs.size ≤ a) : H a = none := by
  cases q : H a with
  | none => rfl
  | some u => exact absurd (Nat.lt_of_lt_of_le (x.lt q) e) (Nat.lt_irrefl _)
theorem HOk.kept (x : HOk P w H h) (k : ∀ b u, h.get? b = some u → h'.get? b = some u) : HOk P w H h' := fun a o e =>
  (x a o e).stay (fun b u _ q => k b u q) (fun _ q => q) fun _ _ q => q
theorem HOk.laid (x : HOk P w H h) (k : ∀ b u, h.get? b = some u → h'.get? b = some u) (hp : h.objs.size ≤ a) (new : ObjOk P w (upd H a o) h' a o) : HOk P w (upd H a o) h' := fun b u e => by
  have hn := x.fresh hp
  by_cases hb : b = a
  · subst hb; rw [upd_same] at e; cases e; exact new
  · rw [upd_ne hb] at e
    exact (x b u e).stay (fun c v _ q => k c v q) (fun c q => by rw [upd_ne (ne_of_none q hn)]; exact q) fun c xs q => by rw [upd_ne (ne_of_none q hn)]; exact q
end
noncomputable def Rd (H : Hp) (a : Addr) (u : HO) : Prop := H a = some u ∨ ∃ o, H a = some (.frz o u)
theorem Rd.ok {P : Program} {w : World} {H : Hp} {h : Heap} {a : Addr} {u : HO} (r : Rd H a u) (x : HOk P w H h) : ObjOk P w H h a u := by
  rcases r with r | ⟨o, r⟩
  · exact x a u r
  · obtain ⟨_, q⟩ := x a _ r
    exact q
noncomputable def Mut : Option HO → Prop
  | some (.lst _) => True
  | some (.dK _) => True
  | some (.dT _) => True
  | some (.set _ _) => True
  | some (.ins _ _ _) => True
  | some (.ext _) => True
  | _ => False
section
variable {P : Program} {w : World} {H : Hp} {h h' : Heap} {x e : Addr} {o' : HO}
theorem HOk.write (ok : HOk P w H h) (mu : Mut (H x)) (he : e = x ∨ H e = some (.own x)) (k : ∀ b u, b ≠ e → h.get? b = some u → h'.get? b = some u) (heo : ∃ u, h'.get? e = some u)
    (new : ObjOk P w (upd H x o') h' x o') : HOk P w (upd H x o') h' := fun b u q => by
  have nown : ∀ c y, H c = some (.own y) → c ≠ x := fun c y r z => by subst z; rw [r] at mu; exact mu
  have ntup : ∀ c xs, H c = some (.tup xs) → c ≠ x := fun c xs r z => by subst z; rw [r] at mu; exact mu
  by_cases hb : b = x
  · subst hb; rw [upd_same] at q; cases q; exact new
  · rw [upd_ne hb] at q
    by_cases hbe : b = e
    · have q' : H b = some (.own x) := by
        rcases he with z | z
        · exact absurd (hbe.trans z) hb
        · rw [hbe]; exact z
      rw [q] at q'; cases q'
      obtain ⟨v, hv⟩ := heo
      exact ⟨v, by rw [hbe]; exact hv⟩
    · refine (ok b u q).stay (fun c v hc r => k c v ?_ r) (fun c r => by rw [upd_ne (nown c b r)]; exact r) fun c xs r => by rw [upd_ne (ntup c xs r)]; exact r
      rcases hc with rfl | hc
      · exact hbe
      · rintro rfl
        rcases he with z | z
        · exact nown c b hc z
        · rw [hc] at z; cases z; exact hb rfl
end
structure Un (fs ex : List Addr) (H H' : Hp) (h h' : Heap) : Prop where
  keep : ∀ b o, h.get? b = some o → H b = none → b ∉ fs → b ∉ ex → h'.get? b = some o
  slot : ∀ b o, h.get? b = some o → H b = none → b ∈ fs → b ∉ ex → ∃ sl, h'.get? b = some { o with slots := sl }
  free : ∀ b o, h.get? b = some o → H b = none → b ∉ ex → H' b = none
  there : ∀ b o, h.get? b = some o → b ∉ ex → ∃ o', h'.get? b = some o'
  tups : ∀ b xs, H b = some (.tup xs) → H' b = some (.tup xs)
  frzs : ∀ b o u, H b = some (.frz o u) → H' b = some (.frz o u)
  tbls : ∀ b ps, H b = some (.tbl ps) → ∃ more, H' b = some (.tbl (ps ++ more))
section
variable {fs fs' ex ex' : List Addr} {H H1 H2 : Hp} {h h1 h2 h' : Heap} {a x e : Addr} {o : HO}
theorem Un.any (u : Un fs ex H H1 h h1) {b : Addr} {ob : Obj} (q : h.get? b = some ob) (n : H b = none) (hx : b ∉ ex) : ∃ sl, h1.get? b = some { ob with slots := sl } := by
  by_cases hb : b ∈ fs
  · exact u.slot b ob q n hb hx
  · exact ⟨ob.slots, u.keep b ob q n hb hx⟩
theorem Un.kept (k : ∀ b u, h.get? b = some u → h'.get? b = some u) : Un fs ex H H h h' :=
  ⟨fun b ob q _ _ _ => k b ob q, fun b ob q _ _ _ => ⟨ob.slots, k b ob q⟩, fun _ _ _ n _ => n, fun b ob q _ => ⟨ob, k b ob q⟩, fun _ _ q => q, fun _ _ _ q => q, fun _ ps q => ⟨#[], by rw [q]; simp⟩⟩
theorem Un.refl : Un fs ex H H h h := Un.kept fun _ _ q => q
theorem Un.laid (k : ∀ b u, h.get? b = some u → h'.get? b = some u) (hp : h.objs.size ≤ a) (hn : H a = none) : Un fs ex H (upd H a o) h h' where
  keep := fun b u q _ _ _ => k b u q
  slot := fun b u q _ _ _ => ⟨u.slots, k b u q⟩
  free := fun b u q n _ => by rw [upd_ne (Nat.ne_of_lt (Nat.lt_of_lt_of_le (Heap.lt_size q) hp))]; exact n
  there := fun b u q _ => ⟨u, k b u q⟩
  tups := fun b xs q => by rw [upd_ne (ne_of_none q hn)]; exact q
  frzs := fun b u xs q => by rw [upd_ne (ne_of_none q hn)]; exact q
  tbls := fun b ps q => ⟨#[], by rw [upd_ne (ne_of_none q hn), q]; simp⟩
theorem Un.write (mu : Mut (H x)) (he : e = x ∨ H e = some (.own x)) (k : ∀ b u, b ≠ e → h.get? b = some u → h'.get? b = some u) (heo : ∃ u, h'.get? e = some u) : Un fs ex H (upd H x o) h h' := by
  have hx : ∀ b, H b = none → b ≠ x := fun b n z => by subst z; rw [n] at mu; exact mu
  have hb : ∀ b, H b = none → b ≠ e := fun b n z => by
    subst z
    rcases he with r | r
    · exact hx b n r
    · rw [n] at r; cases r
  have hm : ∀ b u, H b = some u → ¬ Mut (some u) → b ≠ x := fun b u q nm z => by subst z; rw [q] at mu; exact nm mu
  refine ⟨fun b u q n _ _ => k b u (hb b n) q, fun b u q n _ _ => ⟨u.slots, k b u (hb b n) q⟩, fun b u q n _ => by rw [upd_ne (hx b n)]; exact n, fun b u q _ => ?_,
    fun b xs q => by rw [upd_ne (hm b _ q fun z => z)]; exact q, fun b u xs q => by rw [upd_ne (hm b _ q fun z => z)]; exact q, fun b ps q => ⟨#[], by rw [upd_ne (hm b _ q fun z => z), q]; simp⟩⟩
  by_cases hbe : b = e
  · subst hbe; exact heo
  · exact ⟨u, k b u hbe q⟩
end
noncomputable def trk (h : Heap) (H : Hp) : List Addr := (List.range h.objs.size).filter fun a => (H a).isSome
noncomputable def hidT (h : Heap) (H : Hp) : Heap := PySem.W.hideAll h (trk h H)
theorem hidT_size (h : Heap) (H : Hp) : (hidT h H).objs.size = h.objs.size := PySem.W.hideAll_size _ _
theorem hidT_get {h : Heap} {H : Hp} {b : Addr} {o : Obj} (e : h.get? b = some o) (n : H b = none) : (hidT h H).get? b = some o :=
  PySem.W.hideAll_get _ e fun hm => by
    have q : (H b).isSome = true := (List.mem_filter.mp hm).2
    rw [n] at q; simp at q
theorem of_hidT {h : Heap} {H : Hp} {b : Addr} {o : Obj} (e : (hidT h H).get? b = some o) : h.get? b = some o ∧ H b = none := by
  have e' : h.get? b = some o := PySem.W.of_hideAll (trk h H) e
  refine ⟨e', ?_⟩
  cases q : H b with
  | none => rfl
  | some x =>
    have hm : b ∈ trk h H := List.mem_filter.mpr ⟨List.mem_range.mpr (Heap.lt_size e'), by simp [q]⟩
    have z : (hidT h H).get? b = none := PySem.W.hideAll_none (trk h H) hm
    rw [z] at e; cases e
structure Mod (K : PySem.W.Frag) (mg : Str → Option Value) (base : Heap) : Prop where
  kin : K.In base
  glob : base.Ns mainGlobals mg
  blt : ∃ mb, base.Ns builtinsNs mb ∧ ∀ x : Str, x ≠ "__name__" → mb x = bootBuiltins x
  nolimit : base.NoLimit
  seer : base.NoSeer
structure Cx where
  prog : Program
  w : World
  K : PySem.W.Frag
  mg : Str → Option Value
  base : Heap
  A : Around
  N : List Str
  s₀ : Shared
  H₀ : Hp
  env : Env
  outer : List Env
  stack : List Env
  ex : List Addr
  fn : Str → Bool
  calm : Bool
  pn : List (Addr × Obj)
  xe : Value → Shared → Prop
def frs (l : List Env) : List Addr := l.filterMap (·.frame)
abbrev Cx.fs (X : Cx) : List Addr := frs X.outer
noncomputable def Vis (sc : Scope) (x : Str) : Prop := sc.names.lookup x = some .local ∨ sc.names.lookup x = some .cell ∨ sc.names.lookup x = some .free
noncomputable def Loc (sc : Scope) (x : Str) : Prop := sc.names.lookup x = some .local ∨ sc.names.lookup x = some .cell
noncomputable def Look (env : Env) (h : Heap) (m : Str → Option Value) (x : Str) (u : Value) : Prop :=
  (env.kindOf x = some .local ∧ m x = some u) ∨ ((env.kindOf x = some .cell ∨ env.kindOf x = some .free) ∧ ∃ c, env.cells.lookup x = some c ∧ h.IsCell c (some u))
structure Cx.Ok (X : Cx) : Prop where
  mod : Mod X.K X.mg X.base
  kind : X.env.scope.kind = .function
  glob : X.env.globals = mainGlobals
  blt : X.env.builtins = builtinsNs
  above : X.s₀.heap.objs.size ≤ X.env.locals
  inj : ∀ x y c, X.env.cells.lookup x = some c → X.env.cells.lookup y = some c → x = y
  has : ∀ x, (X.env.kindOf x = some .cell ∨ X.env.kindOf x = some .free) → ∃ c, X.env.cells.lookup x = some c
  cab : ∀ x c, X.fn x = true → X.env.cells.lookup x = some c → X.s₀.heap.objs.size ≤ c
  hd : X.calm = true → X.A.handled = none
  frames : X.A.frames = some X.stack
  stk : X.stack = X.outer ∨ (X.stack = X.env :: X.outer ∧ X.env.frame = some X.env.locals)
  exf : ∀ b ∈ X.ex, b ≠ X.env.locals ∧ ∀ x c, X.env.cells.lookup x = some c → c ≠ b
  bs : ∀ b o, X.base.get? b = some o → X.s₀.heap.get? b = some o ∧ X.H₀ b = none
  bsz : X.base.objs.size ≤ X.s₀.heap.objs.size
  noex : ∀ b o, X.base.get? b = some o → b ∉ X.ex
  exfs : ∀ b ∈ X.ex, b ∉ X.fs
  funs : X.s₀.heap.FunFrames X.base X.outer
  frf : ∀ b ∈ X.fs, X.H₀ b = none
structure Inv (X : Cx) (pins : List (Addr × Obj)) (σ : List (Option V)) (H : Hp) (s : Shared) : Prop where
  ok : X.Ok
  os : s.os = X.s₀.os
  bare : AllBare s.gens
  base : Un X.fs X.ex X.H₀ H X.s₀.heap s.heap
  loc : ∃ m, s.heap.Ns X.env.locals m ∧ ∀ (i : Nat) (x : Str) (v : V), X.N[i]? = some x → σ[i]? = some (some v) → Vis X.env.scope x → ∃ u, RelV v u ∧ Look X.env s.heap m x u
  cell : ∀ x c, X.env.cells.lookup x = some c → ∃ v, s.heap.IsCell c v
  free : H X.env.locals = none
  freeC : ∀ x c, X.env.cells.lookup x = some c → H c = none
  pin : ∀ p ∈ X.pn ++ pins, s.heap.get? p.1 = some p.2 ∧ H p.1 = none ∧ p.1 ≠ X.env.locals ∧ p.1 ∉ X.fs ∧ ∀ v, p.2.data ≠ .cell v
  hok : HOk X.prog X.w H s.heap
  len : σ.length = X.N.length
section
variable {X : Cx} {pins : List (Addr × Obj)} {σ : List (Option V)} {H H' : Hp} {s : Shared} {h' : Heap}
theorem Cx.Ok.nofr (ok : X.Ok) {b : Addr} {o : Obj} (e : X.base.get? b = some o) : b ∉ X.fs := fun hb => by
  have := (ok.funs.mem hb).1
  rw [e] at this; cases this
theorem Inv.bs (I : Inv X pins σ H s) : ∀ b o, X.base.get? b = some o → s.heap.get? b = some o ∧ H b = none := fun b o e =>
  ⟨I.base.keep b o (I.ok.bs b o e).1 (I.ok.bs b o e).2 (I.ok.nofr e) (I.ok.noex b o e), I.base.free b o (I.ok.bs b o e).1 (I.ok.bs b o e).2 (I.ok.noex b o e)⟩
theorem Inv.bk (I : Inv X pins σ H s) : ∀ b o, X.base.get? b = some o → s.heap.get? b = some o := fun b o e => (I.bs b o e).1
theorem Inv.mod (I : Inv X pins σ H s) : Mod X.K X.mg X.base := I.ok.mod
theorem Inv.kIn (I : Inv X pins σ H s) : X.K.In s.heap := I.ok.mod.kin.keeps I.bk
theorem Inv.nolimit (I : Inv X pins σ H s) : s.heap.NoLimit := I.ok.mod.nolimit.keeps I.bk
theorem Inv.lt (I : Inv X pins σ H s) : X.env.locals < s.heap.objs.size := let ⟨_, hn, _⟩ := I.loc; hn.lt
theorem Inv.sz (I : Inv X pins σ H s) : X.s₀.heap.objs.size ≤ s.heap.objs.size := Nat.le_trans I.ok.above (Nat.le_of_lt I.lt)
theorem Inv.nofs (I : Inv X pins σ H s) {a : Addr} (h : s.heap.objs.size ≤ a) : a ∉ X.fs := fun hb => by
  obtain ⟨_, o, ho, _⟩ := I.ok.funs.mem hb
  exact absurd (Nat.lt_of_lt_of_le (Heap.lt_size ho) (Nat.le_trans I.sz h)) (Nat.lt_irrefl _)
theorem Inv.cne (I : Inv X pins σ H s) : ∀ x c, X.env.cells.lookup x = some c → c ≠ X.env.locals := fun x c e z => by
  obtain ⟨v, o, ho, hd⟩ := I.cell x c e
  obtain ⟨m, ⟨o', es, ep, ho', hd', _⟩, _⟩ := I.loc
  rw [z, ho'] at ho; cases ho; rw [hd'] at hd; cases hd
theorem Inv.funs (I : Inv X pins σ H s) : s.heap.FunFrames X.base X.outer := by
  have all : ∀ (l : List Env), (∀ b ∈ frs l, b ∈ X.fs) → X.s₀.heap.FunFrames X.base l → s.heap.FunFrames X.base l := by
    intro l
    induction l with
    | nil => intro _ _; trivial
    | cons env r ih =>
      intro hs hl
      obtain ⟨hk, ⟨L, o, hf, hn, ho, hd⟩, hr⟩ := hl
      have hL : L ∈ X.fs := hs L (by unfold frs; rw [List.filterMap_cons, hf]; exact List.mem_cons_self)
      obtain ⟨sl, e⟩ := I.base.slot L o ho (I.ok.frf L hL) hL fun z => I.ok.exfs L z hL
      exact ⟨hk, ⟨L, _, hf, hn, e, hd⟩, ih (fun b hb => hs b (by unfold frs; rw [List.filterMap_cons, hf]; exact List.mem_cons_of_mem _ hb)) hr⟩
  exact all X.outer (fun _ hb => hb) I.ok.funs
theorem Inv.stack (I : Inv X pins σ H s) : s.heap.FunFrames X.base X.stack := by
  rcases I.ok.stk with e | ⟨e, hf⟩
  · rw [e]; exact I.funs
  · rw [e]
    obtain ⟨m, hn, _⟩ := I.loc
    refine .cons (by rw [I.ok.kind]; decide) hf hn ?_ I.funs
    exact Heap.get?_none_of_le (Nat.le_trans I.ok.bsz I.ok.above)
theorem Inv.stkSub (I : Inv X pins σ H s) : ∀ b ∈ frs X.stack, b ∈ X.env.locals :: X.fs := fun b hb => by
  rcases I.ok.stk with e | ⟨e, hf⟩
  · rw [e] at hb; exact List.mem_cons_of_mem _ hb
  · rw [e] at hb
    unfold frs at hb
    rw [List.filterMap_cons, hf] at hb
    exact hb
theorem Inv.stkFree (I : Inv X pins σ H s) : ∀ b ∈ frs X.stack, H b = none := fun b hb => by
  rcases List.mem_cons.mp (I.stkSub b hb) with e | hb
  · rw [e]; exact I.free
  · obtain ⟨_, o, ho, _⟩ := I.ok.funs.mem hb
    exact I.base.free b o ho (I.ok.frf b hb) fun z => I.ok.exfs b z hb
theorem Inv.step {g' : Array GenState} {t' : Nat} {d' : Drawn} {ch : List Addr} (I : Inv X pins σ H s)
    (hch : ∀ b ∈ ch, (b ∈ X.ex ∨ X.s₀.heap.objs.size ≤ b) ∧ b ≠ X.env.locals ∧ (∀ x c, X.env.cells.lookup x = some c → c ≠ b) ∧ ∀ p ∈ X.pn ++ pins, p.1 ≠ b)
    (keep : ∀ b o, b ≠ X.env.locals → b ∉ X.fs → b ∉ ch → s.heap.get? b = some o → H b = none → h'.get? b = some o)
    (slot : ∀ b o, b ≠ X.env.locals → b ∈ X.fs → b ∉ ch → s.heap.get? b = some o → H b = none → ∃ sl, h'.get? b = some { o with slots := sl }) (free : ∀ b o, b ∉ ch → s.heap.get? b = some o → H b = none → H' b = none)
    (there : ∀ b o, b ∉ ch → s.heap.get? b = some o → ∃ o', h'.get? b = some o')
    (tups : ∀ b xs, H b = some (.tup xs) → H' b = some (.tup xs)) (frzs : ∀ b o u, H b = some (.frz o u) → H' b = some (.frz o u)) (tbls : ∀ b ps, H b = some (.tbl ps) → ∃ more, H' b = some (.tbl (ps ++ more)))
    (ns : ∀ m, s.heap.Ns X.env.locals m → h'.Ns X.env.locals m) (hok : HOk X.prog X.w H' h') (hg : AllBare g') :
    Inv X pins σ H' { s with heap := h', gens := g', drawn := d', toks := t' } := by
  have neL : ∀ b o, X.s₀.heap.get? b = some o → b ≠ X.env.locals := fun b o e => Nat.ne_of_lt (Nat.lt_of_lt_of_le (Heap.lt_size e) I.ok.above)
  have neC : ∀ b o, X.s₀.heap.get? b = some o → b ∉ X.ex → b ∉ ch := fun b o e hx hb => by
    rcases (hch b hb).1 with z | z
    · exact hx z
    · exact absurd (Nat.lt_of_lt_of_le (Heap.lt_size e) z) (Nat.lt_irrefl _)
  have cellK : ∀ x c, X.env.cells.lookup x = some c → ∀ v, s.heap.IsCell c v → h'.IsCell c v := fun x c e v ⟨o, ho, hd⟩ => by
    have nch : c ∉ ch := fun z => (hch c z).2.2.1 x c e rfl
    by_cases hc : c ∈ X.fs
    · obtain ⟨sl, q⟩ := slot c o (I.cne x c e) hc nch ho (I.freeC x c e)
      exact ⟨_, q, hd⟩
    · exact ⟨o, keep c o (I.cne x c e) hc nch ho (I.freeC x c e), hd⟩
  refine ⟨I.ok, I.os, hg, ⟨fun b o e n hb hx => ?_, fun b o e n hb hx => ?_, fun b o e n hx => ?_, fun b o e hx => ?_, fun b xs e => tups b xs (I.base.tups b xs e), fun b o xs e => frzs b o xs (I.base.frzs b o xs e), fun b ps e => ?_⟩, ?_, fun x c e => ?_, ?_, fun x c e => ?_, fun p hp => ?_, hok, I.len⟩
  · exact keep b o (neL b o e) hb (neC b o e hx) (I.base.keep b o e n hb hx) (I.base.free b o e n hx)
  · obtain ⟨sl, e1⟩ := I.base.slot b o e n hb hx
    obtain ⟨sl', e2⟩ := slot b _ (neL b o e) hb (neC b o e hx) e1 (I.base.free b o e n hx)
    exact ⟨sl', e2⟩
  · obtain ⟨o', e1⟩ := I.base.there b o e hx
    exact free b o' (neC b o e hx) e1 (I.base.free b o e n hx)
  · obtain ⟨o', e1⟩ := I.base.there b o e hx
    exact there b o' (neC b o e hx) e1
  · obtain ⟨m1, e1⟩ := I.base.tbls b ps e
    obtain ⟨m2, e2⟩ := tbls b _ e1
    exact ⟨m1 ++ m2, by rw [e2, Array.append_assoc]⟩
  · obtain ⟨m, hn, hl⟩ := I.loc
    refine ⟨m, ns m hn, fun i x v e1 e2 e3 => ?_⟩
    obtain ⟨u, r, l⟩ := hl i x v e1 e2 e3
    refine ⟨u, r, ?_⟩
    rcases l with l | ⟨k, c, e, z⟩
    · exact .inl l
    · exact .inr ⟨k, c, e, cellK x c e _ z⟩
  · obtain ⟨v, z⟩ := I.cell x c e
    exact ⟨v, cellK x c e v z⟩
  · obtain ⟨m, ⟨o, _, _, ho, _⟩, _⟩ := I.loc
    exact free _ o (fun z => (hch _ z).2.1 rfl) ho I.free
  · obtain ⟨v, o, ho, hd⟩ := I.cell x c e
    exact free c o (fun z => (hch c z).2.2.1 x c e rfl) ho (I.freeC x c e)
  · obtain ⟨e, n, ne, nf, d⟩ := I.pin p hp
    have nch : p.1 ∉ ch := fun z => (hch p.1 z).2.2.2 p hp rfl
    exact ⟨keep p.1 p.2 ne nf nch e n, free p.1 p.2 nch e n, ne, nf, d⟩
theorem Inv.un {t' : Nat} (I : Inv X pins σ H s) (u : Un X.fs [] H H' s.heap h') (hok : HOk X.prog X.w H' h') : Inv X pins σ H' { s with heap := h', toks := t' } := by
  obtain ⟨m, ⟨o, es, ep, ho, r⟩, _⟩ := id I.loc
  obtain ⟨sl, hL⟩ := u.any ho I.free (by simp)
  exact I.step (g' := s.gens) (d' := s.drawn) (ch := []) (fun _ z => nomatch z) (fun b o _ hb _ e n => u.keep b o e n hb (by simp)) (fun b o _ hb _ e n => u.slot b o e n hb (by simp)) (fun b o _ e n => u.free b o e n (by simp)) (fun b o _ e => u.there b o e (by simp)) u.tups u.frzs u.tbls (fun m' hm => by
    obtain ⟨o', es', ep', ho', r'⟩ := hm
    rw [ho] at ho'; cases ho'
    exact ⟨_, es', ep', hL, r'⟩) hok I.bare
theorem Inv.call {g' : Array GenState} {t' : Nat} {d' : Drawn} {ch : List Addr} (I : Inv X pins σ H s) (u : Un (frs X.stack) ch H H' s.heap h') (hok : HOk X.prog X.w H' h') (hg : AllBare g')
    (hch : ∀ b ∈ ch, (b ∈ X.ex ∨ X.s₀.heap.objs.size ≤ b) ∧ b ≠ X.env.locals ∧ (∀ x c, X.env.cells.lookup x = some c → c ≠ b) ∧ ∀ p ∈ X.pn ++ pins, p.1 ≠ b) :
    Inv X pins σ H' { s with heap := h', gens := g', drawn := d', toks := t' } := by
  obtain ⟨m, ⟨o, es, ep, ho, r⟩, _⟩ := id I.loc
  obtain ⟨sl, hL⟩ := u.any ho I.free fun z => (hch _ z).2.1 rfl
  exact I.step (ch := ch) hch (fun b o hL hb hc e n => u.keep b o e n (fun z => (List.mem_cons.mp (I.stkSub b z)).elim hL hb) hc) (fun b o _ _ hc e n => u.any e n hc) (fun b o hc e n => u.free b o e n hc) (fun b o hc e => u.there b o e hc) u.tups u.frzs u.tbls (fun m' hm => by
    obtain ⟨o', es', ep', ho', r'⟩ := hm
    rw [ho] at ho'; cases ho'
    exact ⟨_, es', ep', hL, r'⟩) hok hg
theorem Inv.turned {t' : Nat} {it : Addr} (I : Inv X pins σ H s) (k : ∀ b o, b ≠ it → s.heap.get? b = some o → h'.get? b = some o) (hn : H it = none) (hL : it ≠ X.env.locals)
    (h1 : it ∈ X.ex ∨ X.s₀.heap.objs.size ≤ it) (h2 : ∀ x c, X.env.cells.lookup x = some c → c ≠ it) (h3 : ∀ p ∈ X.pn ++ pins, p.1 ≠ it) : Inv X pins σ H { s with heap := h', toks := t' } := by
  have nit : ∀ b u, H b = some u → b ≠ it := fun b u e z => by rw [z, hn] at e; cases e
  refine I.step (g' := s.gens) (d' := s.drawn) (ch := [it]) (fun b hb => ?_) (fun b o _ _ hc e _ => k b o (fun z => hc (by simp [z])) e) (fun b o _ _ hc e _ => ⟨o.slots, k b o (fun z => hc (by simp [z])) e⟩) (fun _ _ _ _ n => n)
    (fun b o hc e => ⟨o, k b o (fun z => hc (by simp [z])) e⟩) (fun _ _ e => e) (fun _ _ _ e => e) (fun b ps e => ⟨#[], by rw [e]; simp⟩) (fun m hm => ?_) (fun b u e => ?_) I.bare
  · have e : b = it := by simpa using hb
    subst e
    exact ⟨h1, hL, h2, h3⟩
  · obtain ⟨o, es, ep, ho, r⟩ := hm
    exact ⟨o, es, ep, k _ o (Ne.symm hL) ho, r⟩
  · refine (I.hok b u e).stay (fun c v hc q => k c v ?_ q) (fun _ q => q) fun _ _ q => q
    rcases hc with z | z
    · rw [z]; exact nit b u e
    · exact nit c _ z
theorem Inv.tok (I : Inv X pins σ H s) (t : Nat) : Inv X pins σ H { s with toks := t } := I.un (h' := s.heap) (t' := t) Un.refl I.hok
theorem Inv.kept {t' : Nat} (I : Inv X pins σ H s) (k : ∀ b u, s.heap.get? b = some u → h'.get? b = some u) : Inv X pins σ H { s with heap := h', toks := t' } := I.un (Un.kept k) (I.hok.kept k)
theorem Inv.laid {a : Addr} {o : HO} {t' : Nat} (I : Inv X pins σ H s) (k : ∀ b u, s.heap.get? b = some u → h'.get? b = some u) (hp : s.heap.objs.size ≤ a) (new : ObjOk X.prog X.w (upd H a o) h' a o) :
    Inv X pins σ (upd H a o) { s with heap := h', toks := t' } := I.un (Un.laid k hp (I.hok.fresh hp)) (I.hok.laid k hp new)
theorem Inv.write {x e : Addr} {o : HO} {t' : Nat} (I : Inv X pins σ H s) (mu : Mut (H x)) (he : e = x ∨ H e = some (.own x)) (k : ∀ b u, b ≠ e → s.heap.get? b = some u → h'.get? b = some u) (heo : ∃ u, h'.get? e = some u)
    (new : ObjOk X.prog X.w (upd H x o) h' x o) : Inv X pins σ (upd H x o) { s with heap := h', toks := t' } := I.un (Un.write mu he k heo) (I.hok.write mu he k heo new)
theorem Inv.weak {σ' : List (Option V)} (I : Inv X pins σ H s) (hl : σ'.length = σ.length) (w : ∀ (i : Nat) v, σ'[i]? = some (some v) → σ[i]? = some (some v)) : Inv X pins σ' H s :=
  ⟨I.ok, I.os, I.bare, I.base, let ⟨m, hn, hl'⟩ := I.loc; ⟨m, hn, fun i x v e1 e2 e3 => hl' i x v e1 (w i v e2) e3⟩, I.cell, I.free, I.freeC, I.pin, I.hok, hl.trans I.len⟩
theorem Inv.pins_of {pins' : List (Addr × Obj)} (I : Inv X pins σ H s) (h : ∀ p ∈ pins', s.heap.get? p.1 = some p.2 ∧ H p.1 = none ∧ p.1 ≠ X.env.locals ∧ p.1 ∉ X.fs ∧ ∀ v, p.2.data ≠ .cell v) : Inv X pins' σ H s :=
  ⟨I.ok, I.os, I.bare, I.base, I.loc, I.cell, I.free, I.freeC, fun p hp => (List.mem_append.mp hp).elim (fun z => I.pin p (List.mem_append_left _ z)) (h p), I.hok, I.len⟩
theorem nodup_ix {N : List Str} (hN : N.Nodup) {i j : Nat} {x : Str} (a : N[i]? = some x) (b : N[j]? = some x) : i = j := by
  obtain ⟨h1, e1⟩ := List.getElem?_eq_some_iff.mp a
  obtain ⟨h2, e2⟩ := List.getElem?_eq_some_iff.mp b
  exact (List.getElem_inj hN).mp (e1.trans e2.symm)
theorem store_ok2 {M : Model} {A : Around} {E : Value → Shared → Prop} {i : Nat} {x : Str} {v : V} {u : Value} {Q : Unit → Shared → Prop} (I : Inv X pins σ H s) (hN : X.N.Nodup) (hi : X.N[i]? = some x) (hx : Loc X.env.scope x) (r : RelV v u)
    (h : ∀ s', Inv X pins (σ.set i (some v)) H s' → (∃ a, Heap.SameBut a s.heap s'.heap ∧ (a = X.env.locals ∨ X.env.cells.lookup x = some a)) → Q () s') (hf : X.fn x = true ∨ X.env.scope.names.lookup x = some .local := by first | exact .inl rfl | exact .inr rfl | assumption) : wpAny M A (storeName X.env x u) Q E s := by
  obtain ⟨m, hn, hl⟩ := id I.loc
  have hcls : (X.env.scope.kind == .class || (X.env.scope.kind == .module && X.env.locals != X.env.globals)) = false := by rw [I.ok.kind]; rfl
  have hiσ : i < σ.length := by rw [I.len]; exact (List.getElem?_eq_some_iff.mp hi).1
  have cne := I.cne
  have tracked : ∀ {a : Addr} {h' : Heap}, (∃ o, s.heap.get? a = some o ∧ H a = none) → Heap.SameBut a s.heap h' → HOk X.prog X.w H h' := fun {a h'} ha hs b ob e => by
    obtain ⟨_, _, hfree⟩ := ha
    refine (I.hok b ob e).stay (fun c w' hc q => (hs.2 c ?_).trans q) (fun _ q => q) fun _ _ q => q
    rintro rfl
    rcases hc with rfl | hc
    · rw [hfree] at e; cases e
    · rw [hfree] at hc; cases hc
  rcases hx with hk | hk
  · refine wpAny_storeName_local hk hn (fun h' hn' hs => ?_) hcls
    obtain ⟨oL, _, _, hoL, _⟩ := id hn
    refine h _ ⟨I.ok, I.os, I.bare, ⟨fun b o e n hb hx => ?_, fun b o e n hb hx => ?_, I.base.free, fun b o e hx => ?_, I.base.tups, I.base.frzs, I.base.tbls⟩, ⟨_, hn', fun j y v' e1 e2 e3 => ?_⟩, fun y c e => ?_, I.free, I.freeC, fun p hp => ?_, tracked ⟨oL, hoL, I.free⟩ hs, by simpa using I.len⟩ ⟨_, hs, .inl rfl⟩
    · exact (hs.2 b (Nat.ne_of_lt (Nat.lt_of_lt_of_le (Heap.lt_size e) I.ok.above))).trans (I.base.keep b o e n hb hx)
    · obtain ⟨sl, e1⟩ := I.base.slot b o e n hb hx
      exact ⟨sl, (hs.2 b (Nat.ne_of_lt (Nat.lt_of_lt_of_le (Heap.lt_size e) I.ok.above))).trans e1⟩
    · obtain ⟨o', e1⟩ := I.base.there b o e hx
      exact ⟨o', (hs.2 b (Nat.ne_of_lt (Nat.lt_of_lt_of_le (Heap.lt_size e) I.ok.above))).trans e1⟩
    · by_cases hj : j = i
      · subst hj
        rw [hi] at e1; cases e1
        rw [List.getElem?_set_self hiσ] at e2
        cases e2
        exact ⟨u, r, .inl ⟨hk, by simp⟩⟩
      · rw [List.getElem?_set_ne (Ne.symm hj)] at e2
        obtain ⟨u', r', q⟩ := hl j y v' e1 e2 e3
        refine ⟨u', r', ?_⟩
        rcases q with ⟨k, e⟩ | ⟨k, c, e, z⟩
        · refine .inl ⟨k, ?_⟩
          have : y ≠ x := fun e => hj (nodup_ix hN e1 (e ▸ hi))
          simp [this, e]
        · exact .inr ⟨k, c, e, z.sameBut hs (cne y c e)⟩
    · obtain ⟨w', z⟩ := I.cell y c e
      exact ⟨w', z.sameBut hs (cne y c e)⟩
    · obtain ⟨e, n, ne, nf, d⟩ := I.pin p hp
      exact ⟨(hs.2 p.1 ne).trans e, n, ne, nf, d⟩
  · have hfn : X.fn x = true := by
      rcases hf with z | z
      · exact z
      · rw [z] at hk; cases hk
    obtain ⟨c, hc⟩ := I.ok.has x (.inl hk)
    obtain ⟨w', z⟩ := I.cell x c hc
    refine wpAny_storeName_cell I.ok.kind hk hc z (fun h' hc' hs => ?_)
    obtain ⟨oc, hoc, hocd⟩ := id z
    refine h { s with heap := h' } ⟨I.ok, I.os, I.bare, ⟨fun b o e n hb hx => ?_, fun b o e n hb hx => ?_, I.base.free, fun b o e hx => ?_, I.base.tups, I.base.frzs, I.base.tbls⟩, ⟨m, hn.sameBut hs (Ne.symm (cne x c hc)), fun j y v' e1 e2 e3 => ?_⟩, fun y c' e => ?_, I.free, I.freeC, fun p hp => ?_, tracked ⟨oc, hoc, I.freeC x c hc⟩ hs, by simpa using I.len⟩ ⟨c, hs, .inr hc⟩
    · exact (hs.2 b (Nat.ne_of_lt (Nat.lt_of_lt_of_le (Heap.lt_size e) (I.ok.cab x c hfn hc)))).trans (I.base.keep b o e n hb hx)
    · obtain ⟨sl, e1⟩ := I.base.slot b o e n hb hx
      exact ⟨sl, (hs.2 b (Nat.ne_of_lt (Nat.lt_of_lt_of_le (Heap.lt_size e) (I.ok.cab x c hfn hc)))).trans e1⟩
    · obtain ⟨o', e1⟩ := I.base.there b o e hx
      exact ⟨o', (hs.2 b (Nat.ne_of_lt (Nat.lt_of_lt_of_le (Heap.lt_size e) (I.ok.cab x c hfn hc)))).trans e1⟩
    · by_cases hj : j = i
      · subst hj
        rw [hi] at e1; cases e1
        rw [List.getElem?_set_self hiσ] at e2
        cases e2
        exact ⟨u, r, .inr ⟨.inl hk, c, hc, hc'⟩⟩
      · rw [List.getElem?_set_ne (Ne.symm hj)] at e2
        obtain ⟨u', r', q⟩ := hl j y v' e1 e2 e3
        refine ⟨u', r', ?_⟩
        rcases q with q | ⟨k, c', e, z'⟩
        · exact .inl q
        · refine .inr ⟨k, c', e, z'.sameBut hs ?_⟩
          rintro rfl
          exact hj (nodup_ix hN e1 (I.ok.inj _ _ _ e hc ▸ hi))
    · by_cases hcc : c' = c
      · subst hcc; exact ⟨_, hc'⟩
      · obtain ⟨w2, z2⟩ := I.cell y c' e
        exact ⟨w2, z2.sameBut hs hcc⟩
    · obtain ⟨e, n, ne, nf, d⟩ := I.pin p hp
      refine ⟨(hs.2 p.1 ?_).trans e, n, ne, nf, d⟩
      intro q
      rw [q, hoc] at e
      have q' : oc = p.2 := Option.some.inj e
      exact d w' (by rw [← q']; exact hocd)
theorem store_ok {M : Model} {A : Around} {E : Value → Shared → Prop} {i : Nat} {x : Str} {v : V} {u : Value} {Q : Unit → Shared → Prop} (I : Inv X pins σ H s) (hN : X.N.Nodup) (hi : X.N[i]? = some x) (hx : Loc X.env.scope x) (r : RelV v u)
    (h : ∀ s', Inv X pins (σ.set i (some v)) H s' → Q () s') (hf : X.fn x = true ∨ X.env.scope.names.lookup x = some .local := by first | exact .inl rfl | exact .inr rfl | assumption) : wpAny M A (storeName X.env x u) Q E s :=
  store_ok2 I hN hi hx r (fun s' I' _ => h s' I') hf
theorem Inv.call' {s' : Shared} {ch : List Addr} (I : Inv X pins σ H s) (ho : s'.os = s.os) (u : Un (frs X.stack) ch H H' s.heap s'.heap) (hok : HOk X.prog X.w H' s'.heap) (hg : AllBare s'.gens)
    (hch : ∀ b ∈ ch, (b ∈ X.ex ∨ X.s₀.heap.objs.size ≤ b) ∧ b ≠ X.env.locals ∧ (∀ x c, X.env.cells.lookup x = some c → c ≠ b) ∧ ∀ p ∈ X.pn ++ pins, p.1 ≠ b) : Inv X pins σ H' s' := by
  obtain ⟨h', g', d', t', o'⟩ := s'
  have e : o' = s.os := ho
  subst e
  exact I.call (g' := g') (t' := t') (d' := d') u hok hg hch
end
abbrev XK := Value → Option Addr → Hp → Prop
abbrev St := List (Option V)
abbrev VK := V → Hp → Prop
abbrev TE := St → Hp → VK → Prop
abbrev TT := St → Hp → (Bool → Hp → Prop) → Prop
abbrev TA := St → Hp → (List V → Hp → Prop) → Prop
structure Ends where
  nx : St → Hp → Prop
  rt : VK
  bk : St → Hp → Prop := fun _ _ => False
  ct : St → Hp → Prop := fun _ _ => False
abbrev TS := Ends → St → Hp → Prop
noncomputable def EP (X : Cx) (pins : List (Addr × Obj)) (σ : St) (Q : VK) (u : Value) (s' : Shared) : Prop := ∃ v H', Inv X pins σ H' s' ∧ RelV v u ∧ Q v H'
noncomputable def TP (X : Cx) (pins : List (Addr × Obj)) (σ : St) (Q : Bool → Hp → Prop) (b : Bool) (s' : Shared) : Prop := ∃ H', Inv X pins σ H' s' ∧ Q b H'
noncomputable def AP (X : Cx) (pins : List (Addr × Obj)) (σ : St) (Q : List V → Hp → Prop) (us : List Value) (s' : Shared) : Prop := ∃ vs H', Inv X pins σ H' s' ∧ Vals vs us ∧ Q vs H'
noncomputable def SP (X : Cx) (pins : List (Addr × Obj)) (D : Ends) (f : Flow) (s' : Shared) : Prop :=
  match f with
  | .next => ∃ σ' H', Inv X pins σ' H' s' ∧ D.nx σ' H'
  | .brk => ∃ σ' H', Inv X pins σ' H' s' ∧ D.bk σ' H'
  | .cont => ∃ σ' H', Inv X pins σ' H' s' ∧ D.ct σ' H'
  | .ret u => ∃ v σ' H', Inv X pins σ' H' s' ∧ RelV v u ∧ D.rt v H'
noncomputable def PE (X : Cx) (e : Expr) (t : TE) : Prop :=
  ∀ (pins : List (Addr × Obj)) (s : Shared) (σ : St) (H : Hp) (Q : VK), Inv X pins σ H s → t σ H Q → wpAny (model X.prog X.w) X.A (eval e X.env) (EP X pins σ Q) X.xe s
noncomputable def PT (X : Cx) (e : Expr) (t : TT) : Prop :=
  ∀ (pins : List (Addr × Obj)) (s : Shared) (σ : St) (H : Hp) (Q : Bool → Hp → Prop), Inv X pins σ H s → t σ H Q → wpAny (model X.prog X.w) X.A (isTrue e X.env (eval e X.env)) (TP X pins σ Q) X.xe s
noncomputable def PW (X : Cx) (e : Expr) (t : TT) : Prop :=
  ∀ (whole : Sem Value) (pins : List (Addr × Obj)) (s : Shared) (σ : St) (H : Hp) (Q : Bool → Hp → Prop), Inv X pins σ H s → t σ H Q → wpAny (model X.prog X.w) X.A (isTrue e X.env whole) (TP X pins σ Q) X.xe s
theorem PW.pt {X : Cx} {e : Expr} {t : TT} (h : PW X e t) : PT X e t := h _
noncomputable def PA (X : Cx) (es : List Expr) (t : TA) : Prop :=
  ∀ (pos : Pos) (pins : List (Addr × Obj)) (s : Shared) (σ : St) (H : Hp) (Q : List V → Hp → Prop), Inv X pins σ H s → t σ H Q → wpAny (model X.prog X.w) X.A (spliced (backTo pos (starEach es X.env))) (AP X pins σ Q) X.xe s
noncomputable def PS (X : Cx) (st : Stmt) (t : TS) : Prop :=
  ∀ (pins : List (Addr × Obj)) (s : Shared) (σ : St) (H : Hp) (D : Ends), Inv X pins σ H s → t D σ H → wpAny (model X.prog X.w) X.A (exec st X.env) (SP X pins D) X.xe s
noncomputable def PSs (X : Cx) (st : List Stmt) (t : TS) : Prop :=
  ∀ (pins : List (Addr × Obj)) (s : Shared) (σ : St) (H : Hp) (D : Ends), Inv X pins σ H s → t D σ H → wpAny (model X.prog X.w) X.A (execs st X.env) (SP X pins D) X.xe s
theorem thn {α : Type} {t : Sem α} {Q Q' : α → Shared → Prop} {M : Model} {A : Around} {E : Value → Shared → Prop} {s : Shared} (h : wpAny M A t Q E s) (hQ : ∀ a s, Q a s → Q' a s) : wpAny M A t Q' E s := wpAny_mono h hQ fun _ _ x => x
section
variable {X : Cx}
noncomputable def tVar (i : Nat) : TE := fun σ H Q => ∃ v, σ[i]? = some (some v) ∧ Q v H
noncomputable def tC (v : V) : TE := fun _ H Q => Q v H
theorem pe_var {i : Nat} {x : Str} {pos : Pos} (hN : X.N[i]? = some x) (hv : Vis X.env.scope x) (hd : (x == ("__debug__" : Str)) = false := by decide) (hcd : (x == ("__classdict__" : Str)) = false := by decide) : PE X (.Name x pos) (tVar i) := by
  intro pins s σ H Q I h
  obtain ⟨v, e, h⟩ := h
  obtain ⟨m, hn, hl⟩ := I.loc
  obtain ⟨u, r, l⟩ := hl i x v hN e hv
  have fin : EP X pins σ Q u s := ⟨v, H, I, r, h⟩
  rcases l with ⟨hk, hm⟩ | ⟨hk, c, hc, hcell⟩
  · exact wpAny_Name (wpAny_loadName_local I.ok.kind hk hn hm fin) hd
  · rcases hk with hk | hk
    · exact wpAny_Name (wpAny_loadName_cell I.ok.kind hk hc hcell fin) hd
    · exact wpAny_Name (wpAny_loadName_free I.ok.kind hk hc hcell fin hcd) hd
theorem pe_int {i j pos} : PE X (.Constant (.int i) j pos) (tC (.int i)) := fun _ _ _ H _ I h => wpAny_Constant_int ⟨.int i, H, I.tok _, ⟨_, rfl⟩, h⟩
theorem pe_bl {b j pos} : PE X (.Constant (.bool b) j pos) (tC (.bl b)) := fun _ _ _ H _ I h => Constant_bool ⟨.bl b, H, I, rfl, h⟩
theorem pe_non {j pos} : PE X (.Constant .none j pos) (tC .non) := fun _ _ _ H _ I h => Constant_none ⟨.non, H, I, rfl, h⟩
theorem pe_str {x j pos} : PE X (.Constant (.str x) j pos) (tC (.str x)) := fun _ _ _ H _ I h => Calls.Constant_str ⟨.str x, H, I.tok _, ⟨_, rfl⟩, h⟩
noncomputable def Gl (X : Cx) (x : Str) : Prop := X.env.kindOf x = some .globalImplicit
theorem ld_glob {E : Value → Shared → Prop} {pins : List (Addr × Obj)} {s : Shared} {σ : St} {H : Hp} {x : Str} {u : Value} {pos : Pos} {Q : Value → Shared → Prop} (I : Inv X pins σ H s) (hg : Gl X x) (hm : X.mg x = some u) (h : Q u s)
    (hd : (x == ("__debug__" : Str)) = false := by decide) : wpAny (model X.prog X.w) X.A (eval (.Name x pos) X.env) Q E s :=
  Calls.Name_function_global I.ok.kind hg (Calls.loadGlobal_global (by rw [I.ok.glob]; exact I.mod.glob.keeps I.bk) hm h) hd
theorem ld_blt {E : Value → Shared → Prop} {pins : List (Addr × Obj)} {s : Shared} {σ : St} {H : Hp} {x : Str} {u : Value} {pos : Pos} {Q : Value → Shared → Prop} (I : Inv X pins σ H s) (hg : Gl X x) (hm : X.mg x = none) (hv : bootBuiltins x = some u) (h : Q u s)
    (hn : x ≠ "__name__" := by decide) (hd : (x == ("__debug__" : Str)) = false := by decide) : wpAny (model X.prog X.w) X.A (eval (.Name x pos) X.env) Q E s := by
  obtain ⟨mb, h1, h2⟩ := I.mod.blt
  exact Calls.Name_function_global I.ok.kind hg (Calls.loadGlobal_builtin (by rw [I.ok.glob]; exact I.mod.glob.keeps I.bk) hm (by rw [I.ok.blt]; exact h1.keeps I.bk) ((h2 x hn).trans hv) h) hd
theorem pe_glob {x : Str} {v : V} {u : Value} {pos : Pos} (hg : Gl X x) (hm : X.mg x = some u) (r : RelV v u) (hd : (x == ("__debug__" : Str)) = false := by decide) : PE X (.Name x pos) (tC v) :=
  fun _ _ _ H _ I h => ld_glob I hg hm ⟨v, H, I, r, h⟩ hd
theorem pe_bltn {x : Str} {v : V} {u : Value} {pos : Pos} (hg : Gl X x) (hm : X.mg x = none) (hv : bootBuiltins x = some u) (r : RelV v u) (hn : x ≠ "__name__" := by decide) (hd : (x == ("__debug__" : Str)) = false := by decide) : PE X (.Name x pos) (tC v) :=
  fun _ _ _ H _ I h => ld_blt I hg hm hv ⟨v, H, I, r, h⟩ hn hd
variable {a b : Expr} {ta tb : TE} {pos : Pos}
noncomputable def PC (X : Cx) (op : CmpOp) (a b : Expr) (t : TE) : Prop :=
  ∀ (pins : List (Addr × Obj)) (s : Shared) (σ : St) (H : Hp) (Q : VK), Inv X pins σ H s → t σ H Q →
    wpAny (model X.prog X.w) X.A (eval a X.env) (fun v s₁ => wpAny (model X.prog X.w) X.A (eval b X.env) (fun u s₂ => wpAny (model X.prog X.w) X.A (compareOp op v u) (EP X pins σ Q) X.xe s₂) X.xe s₁) X.xe s
noncomputable def tB (t : TE) : TT := fun σ H Q => t σ H fun x H1 => ∃ c, x = .bl c ∧ Q c H1
theorem pt_cmp {op : CmpOp} {t : TE} (h : PC X op a b t) (h1 : behindInMarks op b = false := by first | exact nobehind _ (by decide) (by decide) | rfl) : PT X (.Compare a [op] [b] pos) (tB t) := by
  intro pins s σ H Q I hw
  refine wpAny_isTrue_Compare1 (thn (h pins s σ H _ I hw) fun v s1 h1 => thn h1 fun u s2 h2 => thn h2 fun c s3 ⟨x, H1, I1, r1, q1⟩ => ?_) h1
  obtain ⟨d, rfl, q⟩ := q1
  cases r1
  exact wpAny_truthy_bool ⟨H1, I1, q⟩
theorem pt_val {e : Expr} {t : TE} (h : PE X e t) (he : ∀ whole, isTrue e X.env whole = (do let v ← whole; standAt e.pos; holding [v] (truthy v)) := by intro _; rfl) : PT X e (tB t) := by
  intro pins s σ H Q I hw
  refine isTrue_plain (thn (h pins s σ H _ I hw) fun v s1 ⟨x, H1, I1, r1, q1⟩ => ?_) (he _)
  obtain ⟨d, rfl, q⟩ := q1
  cases r1
  exact wpAny_truthy_bool ⟨H1, I1, q⟩
variable {tA tB' : TT} {rest : List Expr}
noncomputable def tAnd (t u : TT) : TT := fun σ H Q => t σ H fun c H1 => if c = true then u σ H1 Q else Q false H1
noncomputable def tOr (t u : TT) : TT := fun σ H Q => t σ H fun c H1 => if c = true then Q true H1 else u σ H1 Q
noncomputable def tNot (t : TT) : TT := fun σ H Q => t σ H fun c H1 => Q (!c) H1
theorem pw_and1 (ha : PT X a tA) : PW X (.BoolOp .And [a] pos) tA := by
  intro wh pins s σ H Q I h
  refine isTrue_and (thn (ha pins s σ H Q I h) fun c s1 e => ?_)
  cases c with
  | true => exact isTrue_and_nil e
  | false => exact e
theorem pw_or1 (ha : PT X a tA) : PW X (.BoolOp .Or [a] pos) tA := by
  intro wh pins s σ H Q I h
  refine isTrue_or (thn (ha pins s σ H Q I h) fun c s1 e => ?_)
  cases c with
  | false => exact isTrue_or_nil e
  | true => exact e
theorem pw_and (ha : PT X a tA) (hb : PW X (.BoolOp .And (b :: rest) pos) tB') : PW X (.BoolOp .And (a :: b :: rest) pos) (tAnd tA tB') := by
  intro wh pins s σ H Q I h
  refine isTrue_and (thn (ha pins s σ H _ I h) fun c s1 ⟨H1, I1, q1⟩ => ?_)
  cases c with
  | true => exact hb wh pins s1 σ H1 Q I1 q1
  | false => exact ⟨H1, I1, q1⟩
theorem pw_or (ha : PT X a tA) (hb : PW X (.BoolOp .Or (b :: rest) pos) tB') : PW X (.BoolOp .Or (a :: b :: rest) pos) (tOr tA tB') := by
  intro wh pins s σ H Q I h
  refine isTrue_or (thn (ha pins s σ H _ I h) fun c s1 ⟨H1, I1, q1⟩ => ?_)
  cases c with
  | true => exact ⟨H1, I1, q1⟩
  | false => exact hb wh pins s1 σ H1 Q I1 q1
theorem pt_not (ha : PT X a tA) : PT X (.UnaryOp .Not a pos) (tNot tA) := by
  intro pins s σ H Q I h
  exact isTrue_not (ha pins s σ H (fun c H1 => Q (!c) H1) I h)
noncomputable def tAndV (ta tb : TE) : TE := fun σ H Q => ta σ H fun x H1 => ∃ c, x = .bl c ∧ if c = true then tb σ H1 Q else Q (.bl false) H1
noncomputable def tOrV (ta tb : TE) : TE := fun σ H Q => ta σ H fun x H1 => ∃ c, x = .bl c ∧ if c = true then Q (.bl true) H1 else tb σ H1 Q
theorem pe_one {op} {t : TE} (h : PE X a t) : PE X (.BoolOp op [a] pos) t := fun pins s σ H Q I hw => BoolOp_one (h pins s σ H Q I hw)
theorem pe_and (ha : PE X a ta) (hb : PE X (.BoolOp .And (b :: rest) pos) tb) : PE X (.BoolOp .And (a :: b :: rest) pos) (tAndV ta tb) := by
  intro pins s σ H Q I h
  refine BoolOp_and (thn (ha pins s σ H _ I h) fun v s1 ⟨x, H1, I1, r1, q1⟩ => ?_)
  obtain ⟨c, rfl, q1⟩ := q1
  cases r1
  refine wpAny_truthy_bool ?_
  cases c with
  | true => exact hb pins s1 σ H1 Q I1 q1
  | false => exact ⟨.bl false, H1, I1, rfl, q1⟩
theorem pe_or (ha : PE X a ta) (hb : PE X (.BoolOp .Or (b :: rest) pos) tb) : PE X (.BoolOp .Or (a :: b :: rest) pos) (tOrV ta tb) := by
  intro pins s σ H Q I h
  refine BoolOp_or (thn (ha pins s σ H _ I h) fun v s1 ⟨x, H1, I1, r1, q1⟩ => ?_)
  obtain ⟨c, rfl, q1⟩ := q1
  cases r1
  refine wpAny_truthy_bool ?_
  cases c with
  | false => exact hb pins s1 σ H1 Q I1 q1
  | true => exact ⟨.bl true, H1, I1, rfl, q1⟩
noncomputable def tIf (t : TT) (ta tb : TE) : TE := fun σ H Q => t σ H fun c H1 => if c = true then ta σ H1 Q else tb σ H1 Q
theorem pe_ifExp {c : Expr} (hc : PT X c tA) (ha : PE X a ta) (hb : PE X b tb) : PE X (.IfExp c a b pos) (tIf tA ta tb) := by
  intro pins s σ H Q I h
  refine wpAny_IfExp (thn (hc pins s σ H _ I h) fun d s1 ⟨H1, I1, q1⟩ => ?_)
  cases d with
  | true => exact ha pins s1 σ H1 Q I1 q1
  | false => exact hb pins s1 σ H1 Q I1 q1
end
noncomputable def SqL (K : PySem.W.Frag) (H : Hp) (a : Addr) (xs : List V) : Prop :=
  Rd H a (.lst xs) ∨
    ∃ (o : Obj) (its : Array Value) (n : Nat), K.lookup a = some o ∧ o.cls = .type "list" ∧ o.dict = none ∧ o.data = .seq its n ∧ its.size ≤ sizeLine ∧ Vals xs its.toList
noncomputable def SqT (K : PySem.W.Frag) (H : Hp) (a : Addr) (xs : List V) : Prop :=
  Rd H a (.tup xs) ∨
    ∃ (o : Obj) (its : Array Value) (n : Nat), K.lookup a = some o ∧ o.cls = .type "tuple" ∧ o.data = .seq its n ∧ its.size ≤ sizeLine ∧ Vals xs its.toList
noncomputable def absV : Value → Option V
  | .none => some .non
  | .bool b => some (.bl b)
  | .int i _ => some (.int i)
  | .str x _ => some (.str x)
  | .bytes b _ => some (.byt b)
  | .float b _ => some (.flt b)
  | .ref a => some (.ref a)
  | .type n => some (.ty n)
  | _ => none
theorem RelV.abs {x : V} {u : Value} (r : RelV x u) : absV u = some x := by
  cases x with
  | non => cases r; rfl
  | bl _ => cases r; rfl
  | int _ => obtain ⟨t, rfl⟩ := r; rfl
  | str _ => obtain ⟨t, rfl⟩ := r; rfl
  | byt _ => obtain ⟨t, rfl⟩ := r; rfl
  | flt _ => obtain ⟨t, rfl⟩ := r; rfl
  | ref _ => cases r; rfl
  | ty _ => cases r; rfl
theorem RelV.inj {x y : V} {u : Value} (r : RelV x u) (q : RelV y u) : x = y := Option.some.inj (r.abs.symm.trans q.abs)
theorem Vals.inj : ∀ {xs ys : List V} {us : List Value}, Vals xs us → Vals ys us → xs = ys
  | _, _, _, .nil, .nil => rfl
  | _, _, _, .cons r t, .cons r' t' => by rw [r.inj r', Vals.inj t t']
section
variable {X : Cx} {pins : List (Addr × Obj)} {σ : St} {H : Hp} {s : Shared} {a : Addr} {xs ys : List V}
theorem SqL.of {K : PySem.W.Frag} (h : H a = some (.lst xs)) : SqL K H a xs := .inl (.inl h)
theorem SqT.of {K : PySem.W.Frag} (h : H a = some (.tup xs)) : SqT K H a xs := .inl (.inl h)
theorem Inv.list (I : Inv X pins σ H s) (h : SqL X.K H a xs) : ∃ its : List Value, Vals xs its ∧ PlainL s.heap a its.toArray ∧ xs.length ≤ sizeLine := by
  rcases h with h | ⟨o, its, n, hk, hc, hd, hs, hz, r⟩
  · obtain ⟨z, its, n, r, e⟩ := h.ok I.hok
    exact ⟨its, r, ⟨_, n, e, rfl, rfl, rfl⟩, z⟩
  · refine ⟨its.toList, r, ⟨o, n, I.kIn a o hk, hc, hd, by simpa using hs⟩, ?_⟩
    have e := r.length
    simp only [Array.length_toList] at e
    omega
theorem Inv.tuple (I : Inv X pins σ H s) (h : SqT X.K H a xs) : ∃ its : List Value, Vals xs its ∧ IsTup s.heap a its.toArray ∧ xs.length ≤ sizeLine := by
  rcases h with h | ⟨o, its, n, hk, hc, hs, hz, r⟩
  · obtain ⟨z, its, r, p⟩ := h.ok I.hok
    exact ⟨its, r, p, z⟩
  · refine ⟨its.toList, r, ⟨o, I.kIn a o hk, hc, n, by simpa using hs⟩, ?_⟩
    have e := r.length
    simp only [Array.length_toList] at e
    omega
theorem Inv.list_inj (I : Inv X pins σ H s) (h : SqL X.K H a xs) (h' : SqL X.K H a ys) : xs = ys := by
  obtain ⟨its, r, ⟨o, n, e, _, _, d⟩, _⟩ := I.list h
  obtain ⟨its', r', ⟨o', n', e', _, _, d'⟩, _⟩ := I.list h'
  rw [e] at e'; cases e'
  rw [d] at d'
  injection d' with d1 _
  have : its = its' := by simpa using congrArg Array.toList d1
  subst this
  exact r.inj r'
theorem Inv.tuple_inj (I : Inv X pins σ H s) (h : SqT X.K H a xs) (h' : SqT X.K H a ys) : xs = ys := by
  obtain ⟨its, r, ⟨o, e, _, n, d⟩, _⟩ := I.tuple h
  obtain ⟨its', r', ⟨o', e', _, n', d'⟩, _⟩ := I.tuple h'
  rw [e] at e'; cases e'
  rw [d] at d'
  injection d' with d1 _
  have : its = its' := by simpa using congrArg Array.toList d1
  subst this
  exact r.inj r'
end
abbrev Cx.wish (X : Cx) (E : Value → Shared → Prop) : Cx := { X with xe := E }
abbrev Cx.nox (X : Cx) : Cx := X.wish fun _ _ => False
theorem Cx.Ok.wish {X : Cx} (ok : X.Ok) (E : Value → Shared → Prop) : (X.wish E).Ok :=
  ⟨ok.mod, ok.kind, ok.glob, ok.blt, ok.above, ok.inj, ok.has, ok.cab, ok.hd, ok.frames, ok.stk, ok.exf, ok.bs, ok.bsz, ok.noex, ok.exfs, ok.funs, ok.frf⟩
theorem Cx.Ok.unwish {X : Cx} {E : Value → Shared → Prop} (ok : (X.wish E).Ok) : X.Ok :=
  ⟨ok.mod, ok.kind, ok.glob, ok.blt, ok.above, ok.inj, ok.has, ok.cab, ok.hd, ok.frames, ok.stk, ok.exf, ok.bs, ok.bsz, ok.noex, ok.exfs, ok.funs, ok.frf⟩
section
variable {X : Cx} {pins : List (Addr × Obj)} {σ : St} {H : Hp} {s : Shared} {E : Value → Shared → Prop}
theorem Inv.wish (I : Inv X pins σ H s) (E : Value → Shared → Prop) : Inv (X.wish E) pins σ H s := ⟨I.ok.wish E, I.os, I.bare, I.base, I.loc, I.cell, I.free, I.freeC, I.pin, I.hok, I.len⟩
theorem Inv.unwish (I : Inv (X.wish E) pins σ H s) : Inv X pins σ H s := ⟨I.ok.unwish, I.os, I.bare, I.base, I.loc, I.cell, I.free, I.freeC, I.pin, I.hok, I.len⟩
theorem SP.unwish {D : Ends} {f : Flow} {s' : Shared} (h : SP (X.wish E) pins D f s') : SP X pins D f s' := by
  cases f with
  | next => obtain ⟨σ', H', I, q⟩ := h; exact ⟨σ', H', I.unwish, q⟩
  | brk => obtain ⟨σ', H', I, q⟩ := h; exact ⟨σ', H', I.unwish, q⟩
  | cont => obtain ⟨σ', H', I, q⟩ := h; exact ⟨σ', H', I.unwish, q⟩
  | ret u => obtain ⟨v, σ', H', I, r, q⟩ := h; exact ⟨v, σ', H', I.unwish, r, q⟩
theorem PSs.nox {st : List Stmt} {t : TS} (h : PSs X.nox st t) : PSs X st t := fun pins s σ H D I hw =>
  wpAny_mono (h pins s σ H D (I.wish _) hw) (fun _ _ q => q.unwish) fun _ _ z => False.elim z
end
section
variable {X : Cx} {st : Stmt} {rest : List Stmt} {t u : TS} {e : Expr} {te : TE} {pos : Pos}
noncomputable def tNext : TS := fun D σ H => D.nx σ H
noncomputable def tSeq (t u : TS) : TS := fun D σ H => t { D with nx := u D } σ H
theorem pss_nil : PSs X [] tNext := fun _ _ σ H _ I h => wpAny_execs_nil ⟨σ, H, I, h⟩
theorem pss_cons (h1 : PS X st t) (h2 : PSs X rest u) : PSs X (st :: rest) (tSeq t u) := by
  intro pins s σ H D I h
  refine wpAny_execs_cons (thn (h1 pins s σ H { D with nx := u D } I h) fun f s1 q => ?_)
  cases f with
  | next =>
    obtain ⟨σ', H', I', q⟩ := q
    exact h2 pins s1 σ' H' D I' q
  | ret v => exact q
  | brk => exact q
  | cont => exact q
theorem pss_one (h1 : PS X st t) : PSs X [st] t := by
  intro pins s σ H D I h
  refine wpAny_execs_cons (thn (h1 pins s σ H D I h) fun f s1 q => ?_)
  cases f with
  | next => exact wpAny_execs_nil q
  | ret v => exact q
  | brk => exact q
  | cont => exact q
theorem Inv.quiet {pins : List (Addr × Obj)} {σ : St} {H : Hp} {s : Shared} (I : Inv X pins σ H s) : interactive X.env = false := by simp [interactive, I.ok.kind]
noncomputable def tDrop (te : TE) : TS := fun D σ H => te σ H fun _ H1 => D.nx σ H1
theorem ps_expr (he : PE X e te) (hs : swapsWith e none pos.line X.env = pure false := by rfl) : PS X (.Expr e pos) (tDrop te) := by
  intro pins s σ H D I h
  exact wpAny_Expr_any (thn (he pins s σ H _ I h) fun v s1 ⟨x, H1, I1, r1, q1⟩ => ⟨σ, H1, I1, q1⟩) I.quiet hs
noncomputable def tRet (te : TE) : TS := fun D σ H => te σ H D.rt
theorem ps_ret (he : PE X e te) : PS X (.Return (some e) pos) (tRet te) := by
  intro pins s σ H D I h
  exact wpAny_Return_some (thn (he pins s σ H _ I h) fun v s1 ⟨x, H1, I1, r1, q1⟩ => ⟨x, σ, H1, I1, r1, q1⟩)
noncomputable def tIfS (c : TT) (t u : TS) : TS := fun D σ H => c σ H fun b H1 => if b = true then t D σ H1 else u D σ H1
theorem ps_if {c : Expr} {a b : List Stmt} {tc : TT} (hc : PT X c tc) (ha : PSs X a t) (hb : PSs X b u) : PS X (.If c a b pos) (tIfS tc t u) := by
  intro pins s σ H D I h
  refine wpAny_If (thn (hc pins s σ H _ I h) fun d s1 ⟨H1, I1, q1⟩ => ?_)
  cases d with
  | true => exact ha pins s1 σ H1 D I1 q1
  | false => exact hb pins s1 σ H1 D I1 q1
noncomputable def tNever : TS := fun _ _ _ => False
theorem ps_never : PS X st tNever := fun _ _ _ _ _ _ h => h.elim
end
abbrev TG := V → St → Hp → (St → Hp → Prop) → Prop
abbrev TGs := List V → St → Hp → (St → Hp → Prop) → Prop
noncomputable def PG (X : Cx) (target : Expr) (t : TG) : Prop :=
  ∀ (pins : List (Addr × Obj)) (s : Shared) (σ : St) (H : Hp) (v : V) (u : Value) (Q : St → Hp → Prop), Inv X pins σ H s → RelV v u → t v σ H Q →
    wpAny (model X.prog X.w) X.A (assign target X.env u) (fun _ s' => ∃ σ' H', Inv X pins σ' H' s' ∧ Q σ' H') X.xe s
noncomputable def PGs (X : Cx) (ts : List Expr) (t : TGs) : Prop :=
  ∀ (pins : List (Addr × Obj)) (s : Shared) (σ : St) (H : Hp) (vs : List V) (us : List Value) (Q : St → Hp → Prop), Inv X pins σ H s → Vals vs us → t vs σ H Q →
    wpAny (model X.prog X.w) X.A (assignInOrder ((assignEach ts X.env).map (·.2)) us) (fun _ s' => ∃ σ' H', Inv X pins σ' H' s' ∧ Q σ' H') X.xe s
abbrev TSet := V → V → V → Hp → (Hp → Prop) → Prop
noncomputable def PSet (X : Cx) (t : TSet) : Prop :=
  ∀ (pins : List (Addr × Obj)) (s : Shared) (σ : St) (H : Hp) (o i v : V) (ov iv u : Value) (Q : Hp → Prop), Inv X pins σ H s → RelV o ov → RelV i iv → RelV v u → t o i v H Q →
    wpAny (model X.prog X.w) X.A (setItem ov iv u) (fun _ s' => ∃ H', Inv X pins σ H' s' ∧ Q H') X.xe s
section
variable {X : Cx} {pos : Pos}
noncomputable def gName (i : Nat) : TG := fun v σ H Q => Q (σ.set i (some v)) H
theorem pg_name {i : Nat} {x : Str} (hN : X.N.Nodup) (hi : X.N[i]? = some x) (hx : Loc X.env.scope x) (hf : X.fn x = true ∨ X.env.scope.names.lookup x = some .local := by first | exact .inl rfl | exact .inr rfl | assumption) : PG X (.Name x pos) (gName i) := by
  intro pins s σ H v u Q I r h
  exact wpAny_assign_Name (store_ok I hN hi hx r (fun s' I' => ⟨_, H, I', h⟩) hf)
noncomputable def gNil : TGs := fun vs σ H Q => vs = [] ∧ Q σ H
noncomputable def gCons (t : TG) (u : TGs) : TGs := fun vs σ H Q => ∃ v r, vs = v :: r ∧ t v σ H fun σ' H' => u r σ' H' Q
theorem pgs_nil : PGs X [] gNil := by
  intro pins s σ H vs us Q I r h
  obtain ⟨e, h⟩ := h
  subst e
  cases r
  exact assignInOrder_nil ⟨σ, H, I, h⟩
theorem pgs_cons {e : Expr} {es : List Expr} {t : TG} {u : TGs} (h1 : PG X e t) (h2 : PGs X es u)
    (hs : (assignEach (e :: es) X.env).map (·.2) = assign e X.env :: (assignEach es X.env).map (·.2) := by rfl) : PGs X (e :: es) (gCons t u) := by
  intro pins s σ H vs us Q I r h
  obtain ⟨v, vr, e1, h⟩ := h
  subst e1
  cases r with
  | cons r rr =>
    rw [hs]
    refine assignInOrder_cons (thn (h1 pins s σ H _ _ _ I r h) fun _ s1 ⟨σ1, H1, I1, q1⟩ => ?_)
    exact h2 pins s1 σ1 H1 _ _ Q I1 rr q1
noncomputable def gTup (K : PySem.W.Frag) (n : Nat) (t : TGs) : TG := fun v σ H Q => ∃ a xs, v = .ref a ∧ SqT K H a xs ∧ xs.length = n ∧ t xs σ H Q
theorem pg_tup {es : List Expr} {k : Nat} {t : TGs} {n : Nat} (hc : X.calm = true) (h : PGs X es t)
    (hn : (assignEach es X.env).length = n := by rfl) (hst : (assignEach es X.env).findIdx? (·.1) = none := by rfl) : PG X (.Tuple es k pos) (gTup X.K n t) := by
  intro pins s σ H v u Q I r hw
  obtain ⟨a, xs, e1, hq, hl, hw⟩ := hw
  subst e1
  cases r
  obtain ⟨its, rv, ht, hz⟩ := I.tuple hq
  refine assign_Tuple_tuple (I.ok.hd hc) ht (by simp [hn, ← hl, rv.length]) hst fun h' hx => ?_
  have I1 : Inv X pins σ H { s with heap := h' } := I.kept (t' := s.toks) fun b o e => hx b o (Nat.ne_of_lt (Heap.lt_size e)) e
  exact h pins _ σ H xs _ Q I1 (by simpa using rv) hw
noncomputable def gSub (to ti : TE) (t : TSet) : TG := fun v σ H Q => to σ H fun o H1 => ti σ H1 fun i H2 => t o i v H2 fun H3 => Q σ H3
theorem pg_sub {o i : Expr} {to ti : TE} {t : TSet} (ho : PE X o to) (hi : PE X i ti) (hs : PSet X t)
    (ha : ∀ v, assign (.Subscript o i pos) X.env v = (do
      let ov ← holding [v] (eval o X.env)
      let iv ← holding [v, ov] (eval i X.env)
      standAt pos
      holding [v, ov, iv] (setItem ov iv v)
      release [v, ov, iv] []) := by intro _; rfl) : PG X (.Subscript o i pos) (gSub to ti t) := by
  intro pins s σ H v u Q I r h
  rw [ha]
  refine wpAny_bind (wpAny_holding (thn (ho pins s σ H _ I h) fun ov s1 ⟨x, H1, I1, r1, q1⟩ => ?_))
  refine wpAny_bind (wpAny_holding (thn (hi pins s1 σ H1 _ I1 q1) fun iv s2 ⟨y, H2, I2, r2, q2⟩ => ?_))
  refine wpAny_bind (wpAny_standAt (wpAny_bind (wpAny_holding (thn (hs pins s2 σ H2 x y v ov iv u _ I2 r1 r2 r q2) fun _ s3 ⟨H3, I3, q3⟩ => ?_))))
  exact wpAny_release ⟨σ, H3, I3, q3⟩
noncomputable def tAsg (te : TE) (g : TG) : TS := fun D σ H => te σ H fun x H1 => g x σ H1 D.nx
theorem ps_asg {tg e : Expr} {te : TE} {g : TG} (he : PE X e te) (hg : PG X tg g) (hs : swapsWithSole [tg] e pos.line X.env = pure false := by rfl) (hw : swappedStores [tg] e X.env = pure none := by rfl)
    (h1 : (assignEach [tg] X.env).map (·.2) = [assign tg X.env] := by rfl) : PS X (.Assign [tg] e pos) (tAsg te g) := by
  intro pins s σ H D I h
  refine wpAny_Assign_stores (thn (he pins s σ H _ I h) fun v s1 ⟨x, H1, I1, r1, q1⟩ => ?_) hs hw
  rw [h1]
  exact thn (hg pins s1 σ H1 x v _ I1 r1 q1) fun _ s2 q => q
theorem ps_set {i : Nat} {x : Str} {e : Expr} {te : TE} {pos' : Pos} (hN : X.N.Nodup) (hi : X.N[i]? = some x) (hx : Loc X.env.scope x) (he : PE X e te) (hs : swapsWith e (some (.Name x pos')) pos.line X.env = pure false := by rfl) (hf : X.fn x = true ∨ X.env.scope.names.lookup x = some .local := by first | exact .inl rfl | exact .inr rfl | assumption) :
    PS X (.Assign [.Name x pos'] e pos) (tAsg te (gName i)) := by
  intro pins s σ H D I h
  refine wpAny_Assign_Name (thn (he pins s σ H _ I h) fun v s1 ⟨y, H1, I1, r1, q1⟩ => ?_) hs
  exact store_ok I1 hN hi hx r1 (fun s2 I2 => ⟨_, H1, I2, q1⟩) hf
noncomputable def tWhile (c : TT) (tb : TS) : TS := fun D σ H => ∃ W : Nat → St → Hp → Prop, (∃ m, W m σ H) ∧ ∀ m σ H, W m σ H →
  c σ H fun b H1 => if b = true then ∃ N : St → Hp → Prop, (∀ σ' H', N σ' H' → ∃ m', m' < m ∧ W m' σ' H') ∧ tb { D with nx := N, ct := N, bk := D.nx } σ H1 else D.nx σ H1
theorem ps_while {c : Expr} {body : List Stmt} {tc : TT} {tb : TS} (hp : PassesOwn (model X.prog X.w) X.A X.env X.xe) (hc : PT X c tc) (hb : PSs X body tb) : PS X (.While c body [] pos) (tWhile tc tb) := by
  intro pins s σ H D I h
  obtain ⟨W, ⟨m0, w0⟩, turn⟩ := h
  refine wpAny_While (codeAny_whileLoop (fun n s' => ∃ σ' H', Inv X pins σ' H' s' ∧ W n σ' H') ?_ m0 ⟨σ, H, I, w0⟩)
  rintro n s1 ⟨σ1, H1, I1, w1⟩
  refine wpAny_passesOwn hp (thn (hc pins s1 σ1 H1 _ I1 (turn n σ1 H1 w1)) fun b s2 ⟨H2, I2, q2⟩ => ?_)
  cases b with
  | true =>
    obtain ⟨N, hN, q2⟩ := q2
    rw [if_pos rfl]
    refine wpAny_passesOwn hp (thn (hb pins s2 σ1 H2 _ I2 q2) fun f s3 q3 => ?_)
    cases f with
    | next =>
      obtain ⟨σ3, H3, I3, n3⟩ := q3
      obtain ⟨m', hm, w3⟩ := hN σ3 H3 n3
      exact ⟨m', hm, σ3, H3, I3, w3⟩
    | cont =>
      obtain ⟨σ3, H3, I3, n3⟩ := q3
      obtain ⟨m', hm, w3⟩ := hN σ3 H3 n3
      exact ⟨m', hm, σ3, H3, I3, w3⟩
    | brk => exact q3
    | ret v => exact q3
  | false =>
    rw [if_neg Bool.false_ne_true]
    exact wpAny_execs_nil ⟨σ1, H2, I2, q2⟩
end
structure It where
  go : Nat → Hp → Prop
  yld : Nat → Hp → V → Hp → Prop
  stop : Nat → Hp → Prop
noncomputable def FpOk (X : Cx) (pins : List (Addr × Obj)) (H : Hp) (b : Addr) : Prop :=
  H b = none ∧ b ≠ X.env.locals ∧ b ∉ X.fs ∧ (b ∈ X.ex ∨ X.s₀.heap.objs.size ≤ b) ∧ (∀ x c, X.env.cells.lookup x = some c → c ≠ b) ∧ ∀ p ∈ X.pn ++ pins, p.1 ≠ b
theorem Inv.fpOk {X : Cx} {pins : List (Addr × Obj)} {σ : St} {H H' : Hp} {s : Shared} {b : Addr} (I : Inv X pins σ H s) (hb : s.heap.objs.size ≤ b) (hn : H' b = none) : FpOk X pins H' b := by
  refine ⟨hn, Nat.ne_of_gt (Nat.lt_of_lt_of_le I.lt hb), I.nofs hb, .inr (Nat.le_trans I.sz hb), fun x c e z => ?_, fun p hp z => ?_⟩
  · obtain ⟨v, q⟩ := I.cell x c e
    exact absurd (Nat.lt_of_lt_of_le q.lt (by rw [z]; exact hb)) (Nat.lt_irrefl _)
  · exact absurd (Nat.lt_of_lt_of_le (Heap.lt_size (I.pin p hp).1) (by rw [z]; exact hb)) (Nat.lt_irrefl _)
structure Turn (P : Program) (w : World) (K : PySem.W.Frag) (tg : Expr) (J : It) (fp : List Addr) (it : Addr) (tn : Nat → Heap → Prop) : Prop where
  mem : it ∈ fp
  obj : ∀ i h, tn i h → ∀ b ∈ fp, ∃ o, h.get? b = some o ∧ ∀ v, o.data ≠ .cell v
  keep : ∀ i h h', tn i h → (∀ b ∈ fp, ∀ o, h.get? b = some o → h'.get? b = some o) → tn i h'
  item : ∀ (X : Cx), X.prog = P → X.w = w → X.K = K → X.calm = true → ∀ (i : Nat) (pins : List (Addr × Obj)) (s : Shared) (σ : St) (H : Hp) (E : Value → Shared → Prop), Inv X pins σ H s → (∀ b ∈ fp, FpOk X pins H b) → tn i s.heap → J.go i H →
    wpAny (model P w) X.A (pyNext (.ref it)) (fun r s1 => ∃ u, r = some u ∧
      wpAny (model P w) X.A (letOwnedTupleGo tg (.ref it) u) (fun _ s2 => ∃ x H', Inv X pins σ H' s2 ∧ RelV x u ∧ J.yld i H x H' ∧ tn (i + 1) s2.heap ∧ ∀ b ∈ fp, H' b = none) E s1) E s
  done : ∀ (X : Cx), X.prog = P → X.w = w → X.K = K → X.calm = true → ∀ (i : Nat) (pins : List (Addr × Obj)) (s : Shared) (σ : St) (H : Hp) (E : Value → Shared → Prop), Inv X pins σ H s → (∀ b ∈ fp, FpOk X pins H b) → tn i s.heap → J.stop i H →
    wpAny (model P w) X.A (pyNext (.ref it)) (fun r s1 => r = none ∧ Inv X pins σ H s1) E s
  self : ∀ (A : Around) (i : Nat) (s : Shared) (Q : Value → Shared → Prop) (E : Value → Shared → Prop), tn i s.heap → Q (.ref it) s → wpAny (model P w) A (pyIter (.ref it)) Q E s
abbrev TI := St → Hp → (It → Hp → Prop) → Prop
noncomputable def PIE (X : Cx) (pins : List (Addr × Obj)) (σ : St) (tg : Expr) (R : It → Hp → Prop) (itv : Value) (s2 : Shared) : Prop :=
  ∃ (it : Addr) (fp : List Addr) (tn : Nat → Heap → Prop) (J : It) (H' : Hp), itv = .ref it ∧ Inv X pins σ H' s2 ∧ Turn X.prog X.w X.K tg J fp it tn ∧ tn 0 s2.heap ∧ (∀ b ∈ fp, FpOk X pins H' b) ∧ R J H'
noncomputable def PI (X : Cx) (tg iter : Expr) (wi : TI) : Prop :=
  ∀ (pins : List (Addr × Obj)) (s : Shared) (σ : St) (H : Hp) (R : It → Hp → Prop), Inv X pins σ H s → wi σ H R →
    wpAny (model X.prog X.w) X.A (eval iter X.env) (fun v s1 => wpAny (model X.prog X.w) X.A (pyIter v) (PIE X pins σ tg R) X.xe s1) X.xe s
theorem go_of {M : Model} {A : Around} {E : Value → Shared → Prop} {s : Shared} {tg : Expr} {it : Addr} {u : Value} {o : Obj} {n : String} {vs : Array Value} {Q : Unit → Shared → Prop} (ho : s.heap.get? it = some o) (hc : o.cls = .type n) (hd : o.data = .fields vs)
    (hn : ["enumerate", "zip", "dict_itemiterator", "dict_reverseitemiterator", "odict_iterator", "itertools.zip_longest", "itertools.pairwise"].contains n = false) (hQ : Q () s) : wpAny M A (letOwnedTupleGo tg (.ref it) u) Q E s := by
  unfold letOwnedTupleGo
  cases tg <;> first
    | exact wpAny_pure hQ
    | (cases u <;> first
        | exact wpAny_pure hQ
        | (refine wpAny_bind (wpAny_load ho ?_)
           rw [hc, hd]
           show wpAny M A (if (["enumerate", "zip", "dict_itemiterator", "dict_reverseitemiterator", "odict_iterator", "itertools.zip_longest", "itertools.pairwise"].contains n && vs[0]? == some (rawInt _)) = true then _ else _) Q E s
           rw [if_neg (by intro h; rw [hn, Bool.false_and] at h; cases h)]
           exact wpAny_pure hQ))
noncomputable def Itl (K : PySem.W.Frag) (a : Addr) : It :=
  ⟨fun i H => ∃ xs x, SqL K H a xs ∧ xs[i]? = some x, fun i H x H' => H' = H ∧ ∀ xs, SqL K H a xs → xs[i]? = some x, fun i H => ∃ xs, SqL K H a xs ∧ xs.length ≤ i⟩
noncomputable def Itt (K : PySem.W.Frag) (a : Addr) : It :=
  ⟨fun i H => ∃ xs x, SqT K H a xs ∧ xs[i]? = some x, fun i H x H' => H' = H ∧ ∀ xs, SqT K H a xs → xs[i]? = some x, fun i H => ∃ xs, SqT K H a xs ∧ xs.length ≤ i⟩
noncomputable def Itr (lo : Int) (n : Nat) : It := ⟨fun i _ => i < n, fun i H x H' => H' = H ∧ x = .int (lo + i), fun i _ => n ≤ i⟩
theorem turn_list {P : Program} {w : World} {K : PySem.W.Frag} {tg : Expr} (a it : Addr) : Turn P w K tg (Itl K a) [it] it (fun i h => h.IsListIter it a i) where
  mem := by simp
  obj := fun i h st b hb => by
    have e : b = it := by simpa using hb
    subst e
    obtain ⟨o, e, c, d⟩ := st
    exact ⟨o, e, fun v z => by rw [d] at z; cases z⟩
  keep := fun i h h' st k => st.at fun o e => k it (by simp) o e
  item := by
    intro X hP hw hK hc i pins s σ H E I hf st hg
    subst hP hw hK
    obtain ⟨xs, x, hq, hx⟩ := hg
    obtain ⟨its, rv, p, hz⟩ := I.list hq
    obtain ⟨u, hu, ru⟩ := rv.get hx
    obtain ⟨f0, f1, f2, f3, f4, f5⟩ := hf it (by simp)
    refine wpAny_pyNext_list_item st p.isList (x := u) (by simpa using hu) fun h' st' sb => ?_
    have I1 : Inv X pins σ H { s with heap := h' } := I.turned (t' := s.toks) (fun b o hb e => (sb.2 b hb).trans e) f0 f1 f3 f4 f5
    obtain ⟨o, e, c, d⟩ := id st'
    exact ⟨u, rfl, go_of (s := { s with heap := h' }) e c d (by decide) ⟨x, H, I1, ru, ⟨rfl, fun ys hy => by rw [I.list_inj hy hq]; exact hx⟩, st', fun b hb => (hf b hb).1⟩⟩
  done := by
    intro X hP hw hK hc i pins s σ H E I hf st hg
    subst hP hw hK
    obtain ⟨xs, hq, hx⟩ := hg
    obtain ⟨its, rv, p, hz⟩ := I.list hq
    obtain ⟨f0, f1, f2, f3, f4, f5⟩ := hf it (by simp)
    have hl := rv.length
    exact wpAny_pyNext_list_end (I.ok.hd hc) st p.isList (by simp; omega) fun h' eb => ⟨rfl, I.turned (t' := s.toks) (fun b o hb e => eb b o hb e) f0 f1 f3 f4 f5⟩
  self := fun _ _ _ _ _ st h => wpAny_pyIter_listiter st h
theorem turn_tuple {P : Program} {w : World} {K : PySem.W.Frag} {tg : Expr} (a it : Addr) : Turn P w K tg (Itt K a) [it] it (fun i h => h.IsTupleIter it a i) where
  mem := by simp
  obj := fun i h st b hb => by
    have e : b = it := by simpa using hb
    subst e
    obtain ⟨o, e, c, d⟩ := st
    exact ⟨o, e, fun v z => by rw [d] at z; cases z⟩
  keep := fun i h h' st k => st.at fun o e => k it (by simp) o e
  item := by
    intro X hP hw hK hc i pins s σ H E I hf st hg
    subst hP hw hK
    obtain ⟨xs, x, hq, hx⟩ := hg
    obtain ⟨its, rv, p, hz⟩ := I.tuple hq
    obtain ⟨u, hu, ru⟩ := rv.get hx
    obtain ⟨f0, f1, f2, f3, f4, f5⟩ := hf it (by simp)
    refine wpAny_pyNext_tuple_item st (show s.heap.IsTuple a its.toArray from p) (x := u) (by simpa using hu) fun h' st' sb => ?_
    have I1 : Inv X pins σ H { s with heap := h' } := I.turned (t' := s.toks) (fun b o hb e => (sb.2 b hb).trans e) f0 f1 f3 f4 f5
    obtain ⟨o, e, c, d⟩ := id st'
    exact ⟨u, rfl, go_of (s := { s with heap := h' }) e c d (by decide) ⟨x, H, I1, ru, ⟨rfl, fun ys hy => by rw [I.tuple_inj hy hq]; exact hx⟩, st', fun b hb => (hf b hb).1⟩⟩
  done := by
    intro X hP hw hK hc i pins s σ H E I hf st hg
    subst hP hw hK
    obtain ⟨xs, hq, hx⟩ := hg
    obtain ⟨its, rv, p, hz⟩ := I.tuple hq
    obtain ⟨f0, f1, f2, f3, f4, f5⟩ := hf it (by simp)
    have hl := rv.length
    exact wpAny_pyNext_tuple_end (I.ok.hd hc) st (show s.heap.IsTuple a its.toArray from p) (by simp; omega) fun h' eb => ⟨rfl, I.turned (t' := s.toks) (fun b o hb e => eb b o hb e) f0 f1 f3 f4 f5⟩
  self := fun _ _ _ _ _ st h => wpAny_pyIter_tupleiter st h
theorem turn_range {P : Program} {w : World} {K : PySem.W.Frag} {tg : Expr} (it : Addr) (lo : Int) (n : Nat) : Turn P w K tg (Itr lo n) [it] it (fun i h => IsRangeIter h it (lo + (i : Nat) * 1) ((n : Int) - (i : Nat)) 1) where
  mem := by simp
  obj := fun i h st b hb => by
    have e : b = it := by simpa using hb
    subst e
    exact ⟨_, st, fun v z => by
      have z' : Data.fields _ = Data.cell v := z
      cases z'⟩
  keep := fun i h h' st k => k it (by simp) _ st
  item := by
    intro X hP hw hK hc i pins s σ H E I hf st hg
    subst hP hw hK
    obtain ⟨f0, f1, f2, f3, f4, f5⟩ := hf it (by simp)
    have W := Walks.range (prog := X.prog) (w := X.w) (I.ok.hd hc) it lo 1 n
    refine W.item i s _ _ hg st fun v h' tk hv st' kk => ?_
    obtain ⟨t, rfl⟩ := hv
    have I1 : Inv X pins σ H { s with heap := h', toks := tk } := I.turned (fun b o hb e => kk b o (by simpa using hb) e) f0 f1 f3 f4 f5
    refine ⟨_, rfl, go_of (s := { s with heap := h', toks := tk }) (n := "range_iterator") st' rfl rfl (by decide) ⟨.int (lo + i), H, I1, ⟨t, ?_⟩, ⟨rfl, rfl⟩, st', fun b hb => (hf b hb).1⟩⟩
    rw [Int.mul_one]
  done := by
    intro X hP hw hK hc i pins s σ H E I hf st hg
    subst hP hw hK
    obtain ⟨f0, f1, f2, f3, f4, f5⟩ := hf it (by simp)
    exact wpAny_pyNext_range_end (I.ok.hd hc) st (by have : n ≤ i := hg; omega) fun h' eb => ⟨rfl, I.turned (t' := s.toks) (fun b o hb e => eb b o hb e) f0 f1 f3 f4 f5⟩
  self := fun _ _ _ _ _ st h => wpAny_pyIter_rangeiter st h
section
variable {X : Cx} {tg : Expr}
noncomputable def iList (K : PySem.W.Frag) (tl : TE) : TI := fun σ H R => tl σ H fun x H1 => ∃ a, x = .ref a ∧ (∃ xs, SqL K H1 a xs) ∧ R (Itl K a) H1
noncomputable def iTup (K : PySem.W.Frag) (tl : TE) : TI := fun σ H R => tl σ H fun x H1 => ∃ a, x = .ref a ∧ (∃ xs, SqT K H1 a xs) ∧ R (Itt K a) H1
theorem pi_list {l : Expr} {tl : TE} (hl : PE X l tl) : PI X tg l (iList X.K tl) := by
  intro pins s σ H R I h
  refine thn (hl pins s σ H _ I h) fun v s1 ⟨x, H1, I1, r1, q1⟩ => ?_
  obtain ⟨a, e, ⟨xs, hq⟩, q⟩ := q1
  subst e
  cases r1
  obtain ⟨its, rv, p, hz⟩ := I1.list hq
  refine wpAny_pyIter_list p.isList ?_
  refine ⟨s1.heap.objs.size, [s1.heap.objs.size], _, _, H1, rfl, I1.kept (t' := s1.toks) fun b o e => Heap.get?_push_of_some _ e, turn_list a _, ⟨_, Heap.get?_push_size _ rfl, rfl, rfl⟩, fun b hb => ?_, q⟩
  have e : b = s1.heap.objs.size := by simpa using hb
  subst e
  exact I1.fpOk (Nat.le_refl _) (I1.hok.fresh (Nat.le_refl _))
theorem pi_tup {l : Expr} {tl : TE} (hl : PE X l tl) : PI X tg l (iTup X.K tl) := by
  intro pins s σ H R I h
  refine thn (hl pins s σ H _ I h) fun v s1 ⟨x, H1, I1, r1, q1⟩ => ?_
  obtain ⟨a, e, ⟨xs, hq⟩, q⟩ := q1
  subst e
  cases r1
  obtain ⟨its, rv, p, hz⟩ := I1.tuple hq
  refine wpAny_pyIter_tuple (show s1.heap.IsTuple a its.toArray from p) ?_
  refine ⟨s1.heap.objs.size, [s1.heap.objs.size], _, _, H1, rfl, I1.kept (t' := s1.toks) fun b o e => Heap.get?_push_of_some _ e, turn_tuple a _, ⟨_, Heap.get?_push_size _ rfl, rfl, rfl⟩, fun b hb => ?_, q⟩
  have e : b = s1.heap.objs.size := by simpa using hb
  subst e
  exact I1.fpOk (Nat.le_refl _) (I1.hok.fresh (Nat.le_refl _))
theorem range_it {pins : List (Addr × Obj)} {σ : St} {H : Hp} {s : Shared} {R : It → Hp → Prop} {E : Value → Shared → Prop} {lo hi : Int} {t u v : Tok} {tk : Nat} (I : Inv X pins σ H s) (h1 : -(2 ^ 62) ≤ lo) (h2 : lo < 2 ^ 62) (h3 : -(2 ^ 62) ≤ hi) (h4 : hi < 2 ^ 62)
    (q : R (Itr lo (hi - lo).toNat) H) : wpAny (model X.prog X.w) X.A (pyIter (.ref s.heap.objs.size)) (PIE X pins σ tg R) E { s with heap := s.heap.push { cls := .type "range", data := .fields #[.int lo t, .int hi u, .int 1 v] }, toks := tk } := by
  refine wpAny_pyIter_range (IsRange.new ..) (small_one h1 h2 h3 h4) ?_
  have I1 : Inv X pins σ H { s with heap := s.heap.push { cls := .type "range", data := .fields #[.int lo t, .int hi u, .int 1 v] }, toks := tk } := I.kept fun b o e => Heap.get?_push_of_some _ e
  refine ⟨(s.heap.push { cls := .type "range", data := .fields #[.int lo t, .int hi u, .int 1 v] }).objs.size, [(s.heap.push { cls := .type "range", data := .fields #[.int lo t, .int hi u, .int 1 v] }).objs.size], _, _, H, rfl,
    I1.kept (t' := tk) fun b o e => Heap.get?_push_of_some _ e, turn_range _ lo (hi - lo).toNat, ?_, fun b hb => ?_, q⟩
  · have e1 : lo + ((0 : Nat) : Int) * 1 = lo := by simp
    have e2 : (((hi - lo).toNat : Nat) : Int) - ((0 : Nat) : Int) = Builtin.Range.rangeSize lo hi 1 := by rw [rangeSize_one]; split <;> omega
    show IsRangeIter _ _ (lo + ((0 : Nat) : Int) * 1) ((((hi - lo).toNat : Nat) : Int) - ((0 : Nat) : Int)) 1
    rw [e1, e2]
    exact Heap.get?_push_size _ rfl
  · have e : b = (s.heap.push { cls := .type "range", data := .fields #[.int lo t, .int hi u, .int 1 v] }).objs.size := by simpa using hb
    subst e
    exact I1.fpOk (Nat.le_refl _) (I1.hok.fresh (Nat.le_refl _))
noncomputable def iRng1 (ta : TA) : TI := fun σ H R => ta σ H fun vs H1 => ∃ j : Int, vs = [.int j] ∧ -(2 ^ 62) ≤ j ∧ j < 2 ^ 62 ∧ R (Itr 0 j.toNat) H1
noncomputable def iRng2 (ta : TA) : TI := fun σ H R => ta σ H fun vs H1 => ∃ i j : Int, vs = [.int i, .int j] ∧ (-(2 ^ 62) ≤ i ∧ i < 2 ^ 62 ∧ -(2 ^ 62) ≤ j ∧ j < 2 ^ 62) ∧ R (Itr i (j - i).toNat) H1
theorem pi_range1 {a : Expr} {ta : TA} {p pos : Pos} (hg : Gl X "range") (hm : X.mg "range" = none) (ha : PA X [a] ta) (hs : starEach [a] X.env = [(false, eval a X.env)] := by rfl) : PI X tg (.Call (.Name "range" p) [a] [] pos) (iRng1 ta) := by
  intro pins s σ H R I h
  refine Call_ (ld_blt I hg hm boot_range (PyProof.Rows.callWith_type1 (thn (ha pos pins s σ H _ I h) fun us s1 ⟨vs, H1, I1, r1, q1⟩ => ?_) hs rfl))
  obtain ⟨j, e, q1, q2, q⟩ := q1
  subst e
  cases r1 with
  | cons r rr =>
    cases rr
    obtain ⟨t, rfl⟩ := r
    exact call_range_1 (range_it I1 (by omega) (by omega) q1 q2 (by simpa using q))
theorem pi_range2 {a b : Expr} {ta : TA} {p pos : Pos} (hg : Gl X "range") (hm : X.mg "range" = none) (ha : PA X [a, b] ta) (hs : starEach [a, b] X.env = [(false, eval a X.env), (false, eval b X.env)] := by rfl) (hs2 : starEach [b] X.env = [(false, eval b X.env)] := by rfl) :
    PI X tg (.Call (.Name "range" p) [a, b] [] pos) (iRng2 ta) := by
  intro pins s σ H R I h
  refine Call_ (ld_blt I hg hm boot_range (PyProof.Rows.callWith_type1 (thn (ha pos pins s σ H _ I h) fun us s1 ⟨vs, H1, I1, r1, q1⟩ => ?_) (by rw [hs, hs2]) (by rw [hs2]; rfl)))
  obtain ⟨i, j, e, ⟨q1, q2, q3, q4⟩, q⟩ := q1
  subst e
  cases r1 with
  | cons r rr =>
    cases rr with
    | cons r' rr =>
      cases rr
      obtain ⟨t, rfl⟩ := r
      obtain ⟨t', rfl⟩ := r'
      exact call_range_2 (range_it I1 q1 q2 q3 q4 q)
noncomputable def tFor (wi : TI) (g : TG) (tb : TS) : TS := fun D σ H => wi σ H fun J H1 => ∃ W : Nat → Nat → St → Hp → Prop, (∃ m, W 0 m σ H1) ∧ ∀ i m σ H, W i m σ H →
  (J.stop i H ∧ D.nx σ H) ∨ (J.go i H ∧ ∃ N : St → Hp → Prop, (∀ σ' H', N σ' H' → ∃ m', m' < m ∧ W (i + 1) m' σ' H') ∧ ∀ x H', J.yld i H x H' → g x σ H' fun σ2 H2 => tb { D with nx := N, ct := N, bk := D.nx } σ2 H2)
noncomputable def pinsAt (fp : List Addr) (h : Heap) : List (Addr × Obj) := fp.filterMap fun b => (h.get? b).map fun o => (b, o)
theorem mem_pinsAt {fp : List Addr} {h : Heap} {b : Addr} {o : Obj} (hb : b ∈ fp) (e : h.get? b = some o) : (b, o) ∈ pinsAt fp h := List.mem_filterMap.mpr ⟨b, hb, by rw [e]; rfl⟩
theorem of_pinsAt {fp : List Addr} {h : Heap} {p : Addr × Obj} (hp : p ∈ pinsAt fp h) : p.1 ∈ fp ∧ h.get? p.1 = some p.2 := by
  obtain ⟨b, hb, e⟩ := List.mem_filterMap.mp hp
  cases q : h.get? b with
  | none => rw [q] at e; cases e
  | some o =>
    rw [q] at e
    have e' : (b, o) = p := Option.some.inj e
    subst e'
    exact ⟨hb, q⟩
theorem Inv.pinned {pins : List (Addr × Obj)} {σ : St} {H : Hp} {s : Shared} {fp : List Addr} (I : Inv X pins σ H s) (hf : ∀ b ∈ fp, FpOk X pins H b) (ho : ∀ b ∈ fp, ∃ o, s.heap.get? b = some o ∧ ∀ v, o.data ≠ .cell v) : Inv X (pins ++ pinsAt fp s.heap) σ H s :=
  I.pins_of fun p hp => (List.mem_append.mp hp).elim (fun z => I.pin p (List.mem_append_right _ z)) fun z => by
    obtain ⟨hb, e⟩ := of_pinsAt z
    obtain ⟨f0, f1, f2, _⟩ := hf p.1 hb
    obtain ⟨o, e', d⟩ := ho p.1 hb
    rw [e] at e'; cases e'
    exact ⟨e, f0, f1, f2, d⟩
theorem Inv.unpinned {pins pl : List (Addr × Obj)} {σ : St} {H : Hp} {s : Shared} (I : Inv X (pins ++ pl) σ H s) : Inv X pins σ H s := I.pins_of fun p hp => I.pin p (List.mem_append_right _ (List.mem_append_left _ hp))
theorem ps_for {iter : Expr} {body : List Stmt} {wi : TI} {g : TG} {tb : TS} {pos : Pos} (hp : PassesOwn (model X.prog X.w) X.A X.env X.xe) (hc : X.calm = true) (hi : PI X tg iter wi) (hg : PG X tg g) (hb : PSs X body tb)
    (hs : ∀ x, foldedSetIterable iter X.env x = pure x := by intro _; rfl) : PS X (.For tg iter body [] pos) (tFor wi g tb) := by
  intro pins s σ H D I h
  refine wpAny_For (thn (hi pins s σ H _ I h) fun v s1 h1 => thn h1 fun itv s2 h2 => ?_) hs
  obtain ⟨it, fp, tn, J, H2, e, I2, T, st2, f2, W, ⟨m0, w0⟩, turn⟩ := h2
  subst e
  have stat : ∀ {H' : Hp}, (∀ b ∈ fp, H' b = none) → ∀ b ∈ fp, FpOk X pins H' b := fun hn b hb => ⟨hn b hb, (f2 b hb).2⟩
  refine codeAny_forLoop_any (fun n s' => ∃ i σ' H', Inv X pins σ' H' s' ∧ tn i s'.heap ∧ (∀ b ∈ fp, H' b = none) ∧ W i n σ' H') ?_ m0 ⟨0, σ, H2, I2, st2, fun b hb => (f2 b hb).1, w0⟩
  rintro n s3 ⟨i, σ3, H3, I3, st3, fr3, w3⟩
  rcases turn i n σ3 H3 w3 with ⟨stop, qn⟩ | ⟨go, N, hN, step⟩
  · refine wpAny_passesOwn hp (thn (T.done X rfl rfl rfl hc i pins s3 σ3 H3 X.xe I3 (stat fr3) st3 stop) fun r s4 ⟨hr, I4⟩ => ?_)
    subst hr
    exact wpAny_execs_nil ⟨σ3, H3, I4, qn⟩
  · refine wpAny_passesOwn hp (thn (T.item X rfl rfl rfl hc i pins s3 σ3 H3 X.xe I3 (stat fr3) st3 go) fun r s4 ⟨u, hr, h4⟩ => ?_)
    subst hr
    refine wpAny_passesOwn hp (thn h4 fun _ s5 ⟨x, H5, I5, r5, y5, st5, fr5⟩ => ?_)
    have I5' := I5.pinned (stat fr5) (T.obj _ _ st5)
    refine wpAny_passesOwn hp (thn (hg _ s5 σ3 H5 x u _ I5' r5 (step x H5 y5)) fun _ s6 ⟨σ6, H6, I6, q6⟩ => ?_)
    refine wpAny_passesOwn hp (thn (hb _ s6 σ6 H6 _ I6 q6) fun f s7 q7 => ?_)
    have again : ∀ {σ7 : St} {H7 : Hp}, Inv X (pins ++ pinsAt fp s5.heap) σ7 H7 s7 → N σ7 H7 → ∃ m, m < n ∧ ∃ i σ' H', Inv X pins σ' H' s7 ∧ tn i s7.heap ∧ (∀ b ∈ fp, H' b = none) ∧ W i m σ' H' := fun {σ7 H7} I7 n7 => by
      obtain ⟨m', hm, w7⟩ := hN σ7 H7 n7
      refine ⟨m', hm, i + 1, σ7, H7, I7.unpinned, T.keep _ _ _ st5 fun b hb o e => (I7.pin (b, o) (List.mem_append_right _ (List.mem_append_right _ (mem_pinsAt hb e)))).1, fun b hb => ?_, w7⟩
      obtain ⟨o, e, d⟩ := T.obj _ _ st5 b hb
      exact (I7.pin (b, o) (List.mem_append_right _ (List.mem_append_right _ (mem_pinsAt hb e)))).2.1
    cases f with
    | next => obtain ⟨σ7, H7, I7, n7⟩ := q7; exact again I7 n7
    | cont => obtain ⟨σ7, H7, I7, n7⟩ := q7; exact again I7 n7
    | brk => obtain ⟨σ7, H7, I7, q7⟩ := q7; exact ⟨σ7, H7, I7.unpinned, q7⟩
    | ret v => obtain ⟨x7, σ7, H7, I7, r7, q7⟩ := q7; exact ⟨x7, σ7, H7, I7.unpinned, r7, q7⟩
end
theorem for_list {K : PySem.W.Frag} {a : Addr} {xs : List V} {g : TG} {tb : TS} {D : Ends} {σ : St} {H : Hp} (Pv : Nat → St → Hp → Prop) (h0 : Pv 0 σ H) (hl : ∀ i σ H, i ≤ xs.length → Pv i σ H → SqL K H a xs)
    (hs : ∀ i x σ H, xs[i]? = some x → Pv i σ H → g x σ H fun σ2 H2 => tb { D with nx := Pv (i + 1), ct := Pv (i + 1), bk := D.nx } σ2 H2) (hd : ∀ σ H, Pv xs.length σ H → D.nx σ H) :
    ∃ W : Nat → Nat → St → Hp → Prop, (∃ m, W 0 m σ H) ∧ ∀ i m σ H, W i m σ H →
      ((Itl K a).stop i H ∧ D.nx σ H) ∨ ((Itl K a).go i H ∧ ∃ N : St → Hp → Prop, (∀ σ' H', N σ' H' → ∃ m', m' < m ∧ W (i + 1) m' σ' H') ∧ ∀ x H', (Itl K a).yld i H x H' → g x σ H' fun σ2 H2 => tb { D with nx := N, ct := N, bk := D.nx } σ2 H2) := by
  refine ⟨fun i m σ H => m = xs.length - i ∧ i ≤ xs.length ∧ Pv i σ H, ⟨xs.length, by simp, Nat.zero_le _, h0⟩, ?_⟩
  rintro i m σ H ⟨rfl, hi, p⟩
  have q := hl i σ H hi p
  by_cases hlt : i < xs.length
  · refine .inr ⟨⟨xs, xs[i], q, by simp [hlt]⟩, Pv (i + 1), fun σ' H' p' => ⟨xs.length - (i + 1), by omega, rfl, hlt, p'⟩, fun x H' y => ?_⟩
    obtain ⟨e, y⟩ := y
    subst e
    exact hs i x σ _ (y xs q) p
  · have e : i = xs.length := by omega
    subst e
    exact .inl ⟨⟨xs, q, Nat.le_refl _⟩, hd σ H p⟩
theorem for_range {lo : Int} {n : Nat} {g : TG} {tb : TS} {D : Ends} {σ : St} {H : Hp} (Pv : Nat → St → Hp → Prop) (h0 : Pv 0 σ H)
    (hs : ∀ i σ H, i < n → Pv i σ H → g (.int (lo + i)) σ H fun σ2 H2 => tb { D with nx := Pv (i + 1), ct := Pv (i + 1), bk := D.nx } σ2 H2) (hd : ∀ σ H, Pv n σ H → D.nx σ H) :
    ∃ W : Nat → Nat → St → Hp → Prop, (∃ m, W 0 m σ H) ∧ ∀ i m σ H, W i m σ H →
      ((Itr lo n).stop i H ∧ D.nx σ H) ∨ ((Itr lo n).go i H ∧ ∃ N : St → Hp → Prop, (∀ σ' H', N σ' H' → ∃ m', m' < m ∧ W (i + 1) m' σ' H') ∧ ∀ x H', (Itr lo n).yld i H x H' → g x σ H' fun σ2 H2 => tb { D with nx := N, ct := N, bk := D.nx } σ2 H2) := by
  refine ⟨fun i m σ H => m = n - i ∧ i ≤ n ∧ Pv i σ H, ⟨n, by simp, Nat.zero_le _, h0⟩, ?_⟩
  rintro i m σ H ⟨rfl, hi, p⟩
  by_cases hlt : i < n
  · refine .inr ⟨hlt, Pv (i + 1), fun σ' H' p' => ⟨n - (i + 1), by omega, rfl, hlt, p'⟩, fun x H' y => ?_⟩
    obtain ⟨e, y⟩ := y
    subst e y
    exact hs i σ _ hlt p
  · have e : i = n := by omega
    subst e
    exact .inl ⟨Nat.le_refl _, hd σ H p⟩
theorem while_by {c : TT} {tb : TS} {D : Ends} {σ : St} {H : Hp} (Pv : St → Hp → Prop) (μ : St → Hp → Nat) (h0 : Pv σ H)
    (hs : ∀ σ H, Pv σ H → c σ H fun b H1 => if b = true then tb { D with nx := fun σ' H' => Pv σ' H' ∧ μ σ' H' < μ σ H, ct := fun σ' H' => Pv σ' H' ∧ μ σ' H' < μ σ H, bk := D.nx } σ H1 else D.nx σ H1)
    (mono : ∀ σ H Q Q', (∀ b H1, Q b H1 → Q' b H1) → c σ H Q → c σ H Q') : tWhile c tb D σ H := by
  refine ⟨fun m σ H => m = μ σ H ∧ Pv σ H, ⟨_, rfl, h0⟩, ?_⟩
  rintro m σ H ⟨rfl, p⟩
  refine mono σ H _ _ (fun b H1 q => ?_) (hs σ H p)
  cases b with
  | true => exact ⟨_, fun σ' H' ⟨p', l⟩ => ⟨_, l, rfl, p'⟩, q⟩
  | false => exact q
abbrev R2 := V → V → Hp → VK → Prop
noncomputable def OpR (X : Cx) (f : Value → Value → Sem Value) (r : R2) : Prop :=
  ∀ (pins : List (Addr × Obj)) (s : Shared) (σ : St) (H : Hp) (x y : V) (v u : Value) (Q : VK), Inv X pins σ H s → RelV x v → RelV y u → r x y H Q →
    wpAny (model X.prog X.w) X.A (f v u) (EP X pins σ Q) X.xe s
noncomputable def UnR (X : Cx) (f : Value → Sem Value) (r : V → Hp → VK → Prop) : Prop :=
  ∀ (pins : List (Addr × Obj)) (s : Shared) (σ : St) (H : Hp) (x : V) (v : Value) (Q : VK), Inv X pins σ H s → RelV x v → r x H Q →
    wpAny (model X.prog X.w) X.A (f v) (EP X pins σ Q) X.xe s
noncomputable def CallR (X : Cx) (f : Value) (r : List V → Hp → VK → Prop) : Prop :=
  ∀ (pins : List (Addr × Obj)) (s : Shared) (σ : St) (H : Hp) (xs : List V) (us : List Value) (Q : VK), Inv X pins σ H s → Vals xs us → r xs H Q →
    wpAny (model X.prog X.w) X.A (call f us) (EP X pins σ Q) X.xe s
noncomputable def TruR (X : Cx) (r : V → Hp → (Bool → Hp → Prop) → Prop) : Prop :=
  ∀ (pins : List (Addr × Obj)) (s : Shared) (σ : St) (H : Hp) (x : V) (v : Value) (Q : Bool → Hp → Prop), Inv X pins σ H s → RelV x v → r x H Q →
    wpAny (model X.prog X.w) X.A (truthy v) (TP X pins σ Q) X.xe s
noncomputable def tOp (r : R2) (ta tb : TE) : TE := fun σ H Q => ta σ H fun x H1 => tb σ H1 fun y H2 => r x y H2 Q
noncomputable def tUn (r : V → Hp → VK → Prop) (ta : TE) : TE := fun σ H Q => ta σ H fun x H1 => r x H1 Q
noncomputable def rI (C : Int → Int → Prop) (g : Int → Int → V) : R2 := fun x y H Q => ∃ i j, x = .int i ∧ y = .int j ∧ C i j ∧ Q (g i j) H
noncomputable def rI0 (g : Int → Int → V) : R2 := fun x y H Q => ∃ i j, x = .int i ∧ y = .int j ∧ Q (g i j) H
noncomputable def rU (g : Int → V) : V → Hp → VK → Prop := fun x H Q => ∃ i, x = .int i ∧ Q (g i) H
section
variable {X : Cx} {a b c : Expr} {ta tb tc : TE} {pos : Pos}
theorem binT (ha : PE X a ta) (hb : PE X b tb) {pins : List (Addr × Obj)} {s : Shared} {σ : St} {H : Hp} {R : V → V → Hp → Prop} (I : Inv X pins σ H s)
    (h : ta σ H fun x H1 => tb σ H1 fun y H2 => R x y H2) {Q : Value → Shared → Prop} {f : Value → Value → Sem Value}
    (hf : ∀ v u s2 x y H2, Inv X pins σ H2 s2 → RelV x v → RelV y u → R x y H2 → wpAny (model X.prog X.w) X.A (f v u) Q X.xe s2) :
    wpAny (model X.prog X.w) X.A (eval a X.env) (fun v s₁ => wpAny (model X.prog X.w) X.A (eval b X.env) (fun u s₂ => wpAny (model X.prog X.w) X.A (f v u) Q X.xe s₂) X.xe s₁) X.xe s := by
  refine thn (ha pins s σ H _ I h) fun v s1 ⟨x, H1, I1, r1, q1⟩ => ?_
  refine thn (hb pins s1 σ H1 _ I1 q1) fun u s2 ⟨y, H2, I2, r2, q2⟩ => ?_
  exact hf v u s2 x y H2 I2 r1 r2 q2
theorem pe_op {op : Operator} {r : R2} (ho : OpR X (binaryOp op) r) (ha : PE X a ta) (hb : PE X b tb) : PE X (.BinOp a op b pos) (tOp r ta tb) := by
  intro pins s σ H Q I h
  exact wpAny_BinOp (binT ha hb I h fun v u s2 x y H2 I2 rx ry q => ho pins s2 σ H2 x y v u Q I2 rx ry q)
theorem pe_un {op : UnaryOp} {r : V → Hp → VK → Prop} (ho : UnR X (unaryOp op) r) (ha : PE X a ta) : PE X (.UnaryOp op a pos) (tUn r ta) := by
  intro pins s σ H Q I h
  exact UnaryOp_ (thn (ha pins s σ H _ I h) fun v s1 ⟨x, H1, I1, r1, q1⟩ => ho pins s1 σ H1 x v Q I1 r1 q1)
theorem opI {f : Value → Value → Sem Value} {C : Int → Int → Prop} {g : Int → Int → Int}
    (rule : ∀ (i j : Int) (t u : Tok) (s : Shared) (Q : Value → Shared → Prop) (E : Value → Shared → Prop), C i j → Q (.int (g i j) s.toks) { s with toks := s.toks + 1 } → wpAny (model X.prog X.w) X.A (f (.int i t) (.int j u)) Q E s) :
    OpR X f (rI C fun i j => .int (g i j)) := by
  intro pins s σ H x y v u Q I rx ry h
  obtain ⟨i, j, rfl, rfl, hc, q⟩ := h
  obtain ⟨t, rfl⟩ := rx
  obtain ⟨t', rfl⟩ := ry
  exact rule i j t t' s _ _ hc ⟨.int (g i j), H, I.tok _, ⟨_, rfl⟩, q⟩
theorem opI0 {f : Value → Value → Sem Value} {g : Int → Int → Int}
    (rule : ∀ (i j : Int) (t u : Tok) (s : Shared) (Q : Value → Shared → Prop) (E : Value → Shared → Prop), Q (.int (g i j) s.toks) { s with toks := s.toks + 1 } → wpAny (model X.prog X.w) X.A (f (.int i t) (.int j u)) Q E s) :
    OpR X f (rI0 fun i j => .int (g i j)) := by
  intro pins s σ H x y v u Q I rx ry h
  obtain ⟨i, j, rfl, rfl, q⟩ := h
  obtain ⟨t, rfl⟩ := rx
  obtain ⟨t', rfl⟩ := ry
  exact rule i j t t' s _ _ ⟨.int (g i j), H, I.tok _, ⟨_, rfl⟩, q⟩
theorem opB0 {f : Value → Value → Sem Value} {g : Int → Int → Bool}
    (rule : ∀ (i j : Int) (t u : Tok) (s : Shared) (Q : Value → Shared → Prop) (E : Value → Shared → Prop), Q (.bool (g i j)) s → wpAny (model X.prog X.w) X.A (f (.int i t) (.int j u)) Q E s) :
    OpR X f (rI0 fun i j => .bl (g i j)) := by
  intro pins s σ H x y v u Q I rx ry h
  obtain ⟨i, j, rfl, rfl, q⟩ := h
  obtain ⟨t, rfl⟩ := rx
  obtain ⟨t', rfl⟩ := ry
  exact rule i j t t' s _ _ ⟨.bl (g i j), H, I, rfl, q⟩
noncomputable def CPow (i j : Int) : Prop := 0 ≤ j ∧ j ≤ 1000000 ∧ i.natAbs < 2 ^ 64
theorem op_add : OpR X (binaryOp .Add) (rI0 fun i j => .int (i + j)) := opI0 fun _ _ _ _ _ _ _ q => add_int q
theorem op_sub : OpR X (binaryOp .Sub) (rI0 fun i j => .int (i - j)) := opI0 fun _ _ _ _ _ _ _ q => sub_int q
theorem op_mod : OpR X (binaryOp .Mod) (rI (fun _ j => 0 < j) fun i j => .int (i % j)) := opI fun i j _ _ _ _ _ hc q => by
  have h1 : (0 : Int) < j := hc
  exact mod_int' (by omega) (by rw [Int.fmod_eq_emod_of_nonneg i (by omega)]; exact q)
theorem op_pow : OpR X (binaryOp .Pow) (rI CPow fun i j => .int (i ^ j.toNat)) := opI fun _ _ _ _ _ _ _ hc q => pow_int_small hc.1 hc.2.1 hc.2.2 q
theorem op_shl : OpR X (binaryOp .LShift) (rI CPow fun i j => .int (i * 2 ^ j.toNat)) := opI fun _ _ _ _ _ _ _ hc q => lshift_int_small hc.1 hc.2.1 hc.2.2 q
theorem unI {f : Value → Sem Value} {g : Int → Int}
    (rule : ∀ (i : Int) (t : Tok) (s : Shared) (Q : Value → Shared → Prop) (E : Value → Shared → Prop), Q (.int (g i) s.toks) { s with toks := s.toks + 1 } → wpAny (model X.prog X.w) X.A (f (.int i t)) Q E s) :
    UnR X f (rU fun i => .int (g i)) := by
  intro pins s σ H x v Q I rx h
  obtain ⟨i, rfl, q⟩ := h
  obtain ⟨t, rfl⟩ := rx
  exact rule i t s _ _ ⟨.int (g i), H, I.tok _, ⟨_, rfl⟩, q⟩
theorem un_neg : UnR X (unaryOp .USub) (rU fun i => .int (-i)) := unI fun _ _ _ _ _ q => neg_int q
end
noncomputable def scal : V → V → Bool
  | .non, .non => true | .non, .int _ => true | .int _, .non => true | .non, .bl _ => true | .bl _, .non => true | .non, .str _ => true | .str _, .non => true
  | .int _, .int _ => true | .bl _, .bl _ => true | .str _, .str _ => true | .byt _, .byt _ => true
  | .int _, .str _ => true | .str _, .int _ => true | .bl _, .str _ => true | .str _, .bl _ => true
  | _, _ => false
noncomputable def rEq : R2 := fun x y H Q => scal x y = true ∧ Q (.bl (decide (x = y))) H
noncomputable def rNe : R2 := fun x y H Q => scal x y = true ∧ Q (.bl (!decide (x = y))) H
theorem dec_int {i j : Int} : decide (V.int i = V.int j) = (i == j) := by
  rw [Bool.eq_iff_iff]
  simp
theorem dec_bl {i j : Bool} : decide (V.bl i = V.bl j) = (i == j) := by
  rw [Bool.eq_iff_iff]
  simp
theorem dec_str {i j : Str} : decide (V.str i = V.str j) = (i == j) := by
  rw [Bool.eq_iff_iff]
  simp
theorem dec_byt {i j : Array UInt8} : decide (V.byt i = V.byt j) = (i.toList == j.toList) := by
  rw [Bool.eq_iff_iff]
  cases i
  cases j
  simp
section
variable {X : Cx} {a b c : Expr} {ta tb tc : TE} {pos : Pos}
theorem fin_bl {pins : List (Addr × Obj)} {σ : St} {H : Hp} {s : Shared} {Q : VK} {k k' : Bool} (I : Inv X pins σ H s) (q : Q (.bl k) H) (e : k = k') : EP X pins σ Q (.bool k') s := by
  subst e
  exact ⟨.bl k, H, I, rfl, q⟩
theorem op_eq : OpR X (compareOp .Eq) rEq := by
  intro pins s σ H x y v u Q I rx ry h
  obtain ⟨hs, q⟩ := h
  cases x with
  | non =>
    cases rx
    cases y with
    | non => cases ry; exact PySem.EqNone.eq_none_none (fin_bl I q (by simp))
    | bl j => cases ry; exact PySem.EqNone.eq_none_bool (fin_bl I q (by simp))
    | int j => obtain ⟨t', rfl⟩ := ry; exact PySem.EqNone.eq_none_int (fin_bl I q (by simp))
    | str j => obtain ⟨t', rfl⟩ := ry; exact PySem.EqNone.eq_none_str (fin_bl I q (by simp))
    | _ => exact absurd (show false = true from hs) Bool.false_ne_true
  | bl i =>
    cases rx
    cases y with
    | non => cases ry; exact PySem.EqNone.eq_bool_none (fin_bl I q (by simp))
    | bl j => cases ry; exact eq_bool (fin_bl I q dec_bl)
    | str j => obtain ⟨t', rfl⟩ := ry; exact PySem.EqMixed.eq_bool_str (fin_bl I q (by simp))
    | _ => exact absurd (show false = true from hs) Bool.false_ne_true
  | int i =>
    obtain ⟨t, rfl⟩ := rx
    cases y with
    | non => cases ry; exact PySem.EqNone.eq_int_none (fin_bl I q (by simp))
    | int j => obtain ⟨t', rfl⟩ := ry; exact eq_int (fin_bl I q dec_int)
    | str j => obtain ⟨t', rfl⟩ := ry; exact PySem.EqMixed.eq_int_str (fin_bl I q (by simp))
    | _ => exact absurd (show false = true from hs) Bool.false_ne_true
  | str i =>
    obtain ⟨t, rfl⟩ := rx
    cases y with
    | non => cases ry; exact PySem.EqNone.eq_str_none (fin_bl I q (by simp))
    | bl j => cases ry; exact PySem.EqMixed.eq_str_bool (fin_bl I q (by simp))
    | int j => obtain ⟨t', rfl⟩ := ry; exact PySem.EqMixed.eq_str_int (fin_bl I q (by simp))
    | str j => obtain ⟨t', rfl⟩ := ry; exact eq_str (fin_bl I q dec_str)
    | _ => exact absurd (show false = true from hs) Bool.false_ne_true
  | byt i =>
    obtain ⟨t, rfl⟩ := rx
    cases y with
    | byt j => obtain ⟨t', rfl⟩ := ry; exact PySem.W.eq_bytes (fin_bl I q dec_byt)
    | _ => exact absurd (show false = true from hs) Bool.false_ne_true
  | _ => cases y <;> exact absurd (show false = true from hs) Bool.false_ne_true
theorem op_ne : OpR X (compareOp .NotEq) rNe := by
  intro pins s σ H x y v u Q I rx ry h
  obtain ⟨hs, q⟩ := h
  cases x with
  | non =>
    cases rx
    cases y with
    | non => cases ry; exact PySem.EqNone.ne_none_none (fin_bl I q (by simp))
    | bl j => cases ry; exact PySem.EqNone.ne_none_bool (fin_bl I q (by simp))
    | int j => obtain ⟨t', rfl⟩ := ry; exact PySem.EqNone.ne_none_int (fin_bl I q (by simp))
    | str j => obtain ⟨t', rfl⟩ := ry; exact PySem.EqNone.ne_none_str (fin_bl I q (by simp))
    | _ => exact absurd (show false = true from hs) Bool.false_ne_true
  | bl i =>
    cases rx
    cases y with
    | non => cases ry; exact PySem.EqNone.ne_bool_none (fin_bl I q (by simp))
    | bl j => cases ry; exact ne_bool (fin_bl I q (congrArg not dec_bl))
    | str j => obtain ⟨t', rfl⟩ := ry; exact PySem.EqMixed.ne_bool_str (fin_bl I q (by simp))
    | _ => exact absurd (show false = true from hs) Bool.false_ne_true
  | int i =>
    obtain ⟨t, rfl⟩ := rx
    cases y with
    | non => cases ry; exact PySem.EqNone.ne_int_none (fin_bl I q (by simp))
    | int j => obtain ⟨t', rfl⟩ := ry; exact ne_int (fin_bl I q (congrArg not dec_int))
    | str j => obtain ⟨t', rfl⟩ := ry; exact PySem.EqMixed.ne_int_str (fin_bl I q (by simp))
    | _ => exact absurd (show false = true from hs) Bool.false_ne_true
  | str i =>
    obtain ⟨t, rfl⟩ := rx
    cases y with
    | non => cases ry; exact PySem.EqNone.ne_str_none (fin_bl I q (by simp))
    | bl j => cases ry; exact PySem.EqMixed.ne_str_bool (fin_bl I q (by simp))
    | int j => obtain ⟨t', rfl⟩ := ry; exact PySem.EqMixed.ne_str_int (fin_bl I q (by simp))
    | str j => obtain ⟨t', rfl⟩ := ry; exact ne_str (fin_bl I q (congrArg not dec_str))
    | _ => exact absurd (show false = true from hs) Bool.false_ne_true
  | byt i =>
    obtain ⟨t, rfl⟩ := rx
    cases y with
    | byt j => obtain ⟨t', rfl⟩ := ry; exact PySem.W.ne_bytes (fin_bl I q (congrArg not dec_byt))
    | _ => exact absurd (show false = true from hs) Bool.false_ne_true
  | _ => cases y <;> exact absurd (show false = true from hs) Bool.false_ne_true
theorem op_lt : OpR X (compareOp .Lt) (rI0 fun i j => .bl (decide (i < j))) := opB0 fun _ _ _ _ _ _ _ q => lt_int q
theorem op_le : OpR X (compareOp .LtE) (rI0 fun i j => .bl (decide (i ≤ j))) := opB0 fun _ _ _ _ _ _ _ q => le_int q
theorem op_gt : OpR X (compareOp .Gt) (rI0 fun i j => .bl (decide (j < i))) := opB0 fun _ _ _ _ _ _ _ q => gt_int q
theorem op_ge : OpR X (compareOp .GtE) (rI0 fun i j => .bl (decide (j ≤ i))) := opB0 fun _ _ _ _ _ _ _ q => ge_int q
theorem op_in_str : OpR X (compareOp .In) (fun x y H Q => ∃ i j, x = .str i ∧ y = .str j ∧ Q (.bl (!(Builtin.Str.occurrences j i 0 j.length 1).isEmpty)) H) := by
  intro pins s σ H x y v u Q I rx ry h
  obtain ⟨i, j, rfl, rfl, q⟩ := h
  obtain ⟨t, rfl⟩ := rx
  obtain ⟨t', rfl⟩ := ry
  exact in_str (fin_bl I q rfl)
theorem op_isN : OpR X (compareOp .Is) (fun x y H Q => y = .non ∧ Q (.bl (decide (x = .non))) H) := by
  intro pins s σ H x y v u Q I rx ry h
  obtain ⟨rfl, q⟩ := h
  cases ry
  refine is_none_gen (fin_bl I q ?_)
  cases x <;> first
    | (cases rx; rfl)
    | (obtain ⟨t, rfl⟩ := rx; rfl)
theorem op_notN : OpR X (compareOp .IsNot) (fun x y H Q => y = .non ∧ Q (.bl (!decide (x = .non))) H) := by
  intro pins s σ H x y v u Q I rx ry h
  obtain ⟨rfl, q⟩ := h
  cases ry
  refine isnot_none_gen (fin_bl I q ?_)
  cases x <;> first
    | (cases rx; rfl)
    | (obtain ⟨t, rfl⟩ := rx; rfl)
theorem nomark (b : Expr) {op : CmpOp} (h : op ≠ .In := by decide) (h2 : op ≠ .NotIn := by decide) : behindInMarks op b = false := by
  have e1 : (op == CmpOp.In) = false := by cases op <;> first | rfl | exact absurd rfl h
  have e2 : (op == CmpOp.NotIn) = false := by cases op <;> first | rfl | exact absurd rfl h2
  cases b <;> simp [behindInMarks, e1, e2]
theorem pe_cmpR {op : CmpOp} {r : R2} (ho : OpR X (compareOp op) r) (ha : PE X a ta) (hb : PE X b tb) (hm : behindInMarks op b = false) : PE X (.Compare a [op] [b] pos) (tOp r ta tb) := by
  intro pins s σ H Q I h
  exact wpAny_Compare1 (binT ha hb I h fun v u s2 x y H2 I2 rx ry q => ho pins s2 σ H2 x y v u Q I2 rx ry q) hm
noncomputable def tTest (t : TE) : TT := fun σ H Q => t σ H fun x H' => ∃ k, x = .bl k ∧ Q k H'
theorem pt_cmpR {op : CmpOp} {r : R2} (ho : OpR X (compareOp op) r) (ha : PE X a ta) (hb : PE X b tb) (hm : behindInMarks op b = false) : PT X (.Compare a [op] [b] pos) (tTest (tOp r ta tb)) := by
  intro pins s σ H Q I h
  refine wpAny_isTrue_Compare1 (thn (ha pins s σ H _ I h) fun v s1 ⟨x, H1, I1, r1, q1⟩ => thn (hb pins s1 σ H1 _ I1 q1) fun u s2 ⟨y, H2, I2, r2, q2⟩ =>
    thn (ho pins s2 σ H2 x y v u _ I2 r1 r2 q2) fun c s3 ⟨z, H3, I3, r3, k, e, q3⟩ => ?_) hm
  subst e
  cases r3
  exact wpAny_truthy_bool ⟨H3, I3, q3⟩
noncomputable def tChain (r r' : R2) (ta tb tc : TE) : TE := fun σ H Q => ta σ H fun x H1 => tb σ H1 fun y H2 => r x y H2 fun z H3 => ∃ k, z = .bl k ∧
  (if k = true then tc σ H3 fun w' H4 => r' y w' H4 Q else Q (.bl false) H3)
theorem pe_chain {op op' : CmpOp} {r r' : R2} (ho : OpR X (compareOp op) r) (ho' : OpR X (compareOp op') r') (ha : PE X a ta) (hb : PE X b tb) (hc : PE X c tc)
    (hm : lastMarks [op, op'] [b, c] = false := by with_unfolding_all rfl) : PE X (.Compare a [op, op'] [b, c] pos) (tChain r r' ta tb tc) := by
  intro pins s σ H Q I h
  refine Compare_chain (thn (ha pins s σ H _ I h) fun v s1 ⟨x, H1, I1, r1, q1⟩ => chain_link (thn (hb pins s1 σ H1 _ I1 q1) fun u s2 ⟨y, H2, I2, r2, q2⟩ =>
    thn (ho pins s2 σ H2 x y v u _ I2 r1 r2 q2) fun d s3 ⟨z, H3, I3, r3, k, e, q3⟩ => ?_)) hm
  subst e
  cases r3
  refine wpAny_truthy_bool ?_
  cases k with
  | false => exact ite_ff ⟨.bl false, H3, I3, rfl, q3⟩
  | true => exact ite_tt (chain_last (thn (hc pins s3 σ H3 _ I3 q3) fun w' s4 ⟨z', H4, I4, r4, q4⟩ => ho' pins s4 σ H4 y z' u w' Q I4 r2 r4 q4))
noncomputable def TruV (K : PySem.W.Frag) (x : V) (H : Hp) (k : Bool) : Prop :=
  match x with
  | .non => k = false
  | .bl b => k = b
  | .int i => k = (i != 0)
  | .str y => y.length ≤ sizeLine ∧ k = ((y.length : Int) != 0)
  | .byt y => y.size ≤ sizeLine ∧ k = ((y.size : Int) != 0)
  | .ref p => (∃ xs, SqL K H p xs ∧ k = !xs.isEmpty) ∨ (∃ xs, SqT K H p xs ∧ k = !xs.isEmpty) ∨ ∃ kvs, H p = some (.dK kvs) ∧ k = !kvs.isEmpty
  | _ => False
theorem isEmpty_kv {κ : Type} {kvs : List (κ × V)} {vs : List (κ × Value)} (r : KV kvs vs) : (!vs.isEmpty) = !kvs.isEmpty := by
  cases r <;> rfl
theorem isEmpty_of {xs : List V} {its : List Value} (r : Vals xs its) : (!its.toArray.isEmpty) = !xs.isEmpty := by
  cases r <;> simp
theorem line63 : (sizeLine : Nat) < 2 ^ 63 := by rw [sizeLine_eq]; decide
theorem tru_ok : TruR X (fun x H Q => ∃ k, TruV X.K x H k ∧ Q k H) := by
  intro pins s σ H x v Q I rx h
  obtain ⟨k, e, q⟩ := h
  have hl := line63
  have hs : sizeLine = 16777216 := sizeLine_eq
  cases x with
  | non =>
    cases rx
    have e' : k = false := e
    subst e'
    exact truthy_none ⟨H, I, q⟩
  | bl b =>
    cases rx
    have e' : k = b := e
    subst e'
    exact wpAny_truthy_bool ⟨H, I, q⟩
  | int i =>
    obtain ⟨t, rfl⟩ := rx
    have e' : k = (i != 0) := e
    subst e'
    exact PySem.P.truthy_int ⟨H, I, q⟩
  | str y =>
    obtain ⟨t, rfl⟩ := rx
    obtain ⟨hy, e'⟩ : y.length ≤ sizeLine ∧ k = ((y.length : Int) != 0) := e
    subst e'
    exact PySem.P.truthy_str (by omega) ⟨H, I.tok _, q⟩
  | byt y =>
    obtain ⟨t, rfl⟩ := rx
    obtain ⟨hy, e'⟩ : y.size ≤ sizeLine ∧ k = ((y.size : Int) != 0) := e
    subst e'
    exact PySem.W.truthy_bytes (by omega) ⟨H, I.tok _, q⟩
  | ref p =>
    cases rx
    have e' : (∃ xs, SqL X.K H p xs ∧ k = !xs.isEmpty) ∨ (∃ xs, SqT X.K H p xs ∧ k = !xs.isEmpty) ∨ ∃ kvs, H p = some (.dK kvs) ∧ k = !kvs.isEmpty := e
    rcases e' with ⟨xs, hx, e'⟩ | ⟨xs, hx, e'⟩ | ⟨kvs, hx, e'⟩
    · subst e'
      obtain ⟨its, r, pl, hz⟩ := I.list hx
      have hlen := r.length
      exact wpAny_truthy_list pl.isList (by simp only [List.size_toArray]; omega) ⟨H, I.tok _, by rw [isEmpty_of r]; exact q⟩
    · subst e'
      obtain ⟨its, r, pl, hz⟩ := I.tuple hx
      have hlen := r.length
      exact truthy_tuple pl (by simp only [List.size_toArray]; omega) ⟨H, I.tok _, by rw [isEmpty_of r]; exact q⟩
    · subst e'
      obtain ⟨hz, hS, vs, r, m⟩ : kvs.length ≤ sizeLine ∧ (p == sysModules) = false ∧ ∃ vs, KV kvs vs ∧ s.heap.DictOf (mixKind X.prog X.w) p vs := I.hok p _ hx
      have hlen : kvs.length = vs.length := Paired.length r
      exact wpAny_truthy_dict hS m (by omega) ⟨H, I.tok _, by rw [isEmpty_kv r]; exact q⟩
  | _ => exact (show False from e).elim
theorem pt_truth (ha : PE X a ta) (he : ∀ whole, isTrue a X.env whole = (do let v ← whole; standAt a.pos; holding [v] (truthy v))) :
    PT X a (fun σ H Q => ta σ H fun x H' => ∃ k, TruV X.K x H' k ∧ Q k H') := by
  intro pins s σ H Q I h
  exact isTrue_plain (thn (ha pins s σ H _ I h) fun v s1 ⟨x, H1, I1, r1, q1⟩ => tru_ok pins s1 σ H1 x v Q I1 r1 q1) (he _)
theorem op_add_str : OpR X (binaryOp .Add) (fun x y H Q => ∃ i j, x = .str i ∧ y = .str j ∧ i.length + j.length ≤ sizeLine ∧ Q (.str (i ++ j)) H) := by
  intro pins s σ H x y v u Q I rx ry h
  obtain ⟨i, j, rfl, rfl, hz, q⟩ := h
  obtain ⟨t, rfl⟩ := rx
  obtain ⟨t', rfl⟩ := ry
  exact add_str (fun t' tk => ⟨.str (i ++ j), H, I.tok _, ⟨_, rfl⟩, q⟩) hz
theorem vals1 {x : V} {us : List Value} (r : Vals [x] us) : ∃ u, us = [u] ∧ RelV x u := by
  cases r with
  | cons r1 r2 => cases r2; exact ⟨_, rfl, r1⟩
theorem vals2 {x y : V} {us : List Value} (r : Vals [x, y] us) : ∃ u w', us = [u, w'] ∧ RelV x u ∧ RelV y w' := by
  cases r with
  | cons r1 r2 =>
    cases r2 with
    | cons r3 r4 => cases r4; exact ⟨_, _, rfl, r1, r3⟩
theorem call_max2 (hc : X.calm = true) : CallR X (.builtin "max") (fun xs H Q => ∃ i j, xs = [.int i, .int j] ∧ Q (.int (if j > i then j else i)) H) := by
  intro pins s σ H xs us Q I r h
  obtain ⟨i, j, rfl, q⟩ := h
  obtain ⟨u, w', rfl, ⟨t, rfl⟩, ⟨t', rfl⟩⟩ := vals2 r
  refine max_two_ints (I.ok.hd hc) fun h' tk k => ⟨_, H, I.kept k, ?_, q⟩
  by_cases hj : j > i
  · rw [if_pos hj, if_pos hj]; exact ⟨_, rfl⟩
  · rw [if_neg hj, if_neg hj]; exact ⟨_, rfl⟩
theorem call_min2 (hc : X.calm = true) : CallR X (.builtin "min") (fun xs H Q => ∃ i j, xs = [.int i, .int j] ∧ Q (.int (if j < i then j else i)) H) := by
  intro pins s σ H xs us Q I r h
  obtain ⟨i, j, rfl, q⟩ := h
  obtain ⟨u, w', rfl, ⟨t, rfl⟩, ⟨t', rfl⟩⟩ := vals2 r
  refine min_two_ints (I.ok.hd hc) fun h' tk k => ⟨_, H, I.kept k, ?_, q⟩
  by_cases hj : j < i
  · rw [if_pos hj, if_pos hj]; exact ⟨_, rfl⟩
  · rw [if_neg hj, if_neg hj]; exact ⟨_, rfl⟩
theorem call_str_int : CallR X (.type "str") (fun xs H Q => ∃ i, xs = [.int i] ∧ i.natAbs.log2 < 1920 ∧ Q (.str (toString i)) H) := by
  intro pins s σ H xs us Q I r h
  obtain ⟨i, rfl, hz, q⟩ := h
  obtain ⟨u, rfl, t, rfl⟩ := vals1 r
  exact PySem.P.str_of_int hz ⟨.str _, H, I.tok _, ⟨_, rfl⟩, q⟩
end
structure ObjM (h : Heap) (x dx C : Addr) (mA : Str → Option Value) : Prop where
  obj : h.get? x = some (PySem.W.instObj C dx)
  ns : h.Ns1 dx mA
  ne : dx ≠ x
theorem lookIn_ns {h : Heap} {dx : Addr} {mA : Str → Option Value} (n : h.Ns1 dx mA) : ∃ od, h.get? dx = some od ∧ ∀ name, PySem.W.lookIn name od = some (mA name) := by
  obtain ⟨o, es, ep, ho, hd, hk, _, hm⟩ := n
  refine ⟨o, ho, fun name => ?_⟩
  have e := hm name
  unfold nsFind findBy at e
  rw [← Array.find?_toList] at e
  unfold PySem.W.lookIn
  rw [hd]
  dsimp only
  split
  · rename_i y q
    rw [q] at e
    exact congrArg some e
  · rename_i q
    rw [q] at e
    have a : es.toList.any (·.refKey) = false := by
      rw [List.any_eq_false]
      intro y hy
      obtain ⟨z, t, hkey⟩ := hk y (Array.mem_toList_iff.mp hy)
      simp [DictEntry.refKey, hkey]
    have a' : ¬ es.toList.any (·.refKey) = true := by rw [a]; exact Bool.false_ne_true
    rw [if_neg a']
    exact congrArg some e
theorem ObjM.look {h : Heap} {x dx C : Addr} {mA : Str → Option Value} (I : ObjM h x dx C mA) : ∃ od, PySem.W.InstAt h x (PySem.W.instObj C dx) C (some od) ∧ ∀ name, PySem.W.lookIn name od = some (mA name) :=
  let ⟨od, ho, hl⟩ := lookIn_ns I.ns
  ⟨od, ⟨I.obj, rfl, rfl, ho⟩, hl⟩
section
variable {prog : Program} {w : World} {A : Around} {E : Value → Shared → Prop} {s : Shared} {K : PySem.W.Frag} {x dx C f : Addr} {mA : Str → Option Value} {name : Str} {v : Value}
theorem get_map {expr : Bool} {Q : Value → Shared → Prop} (X : K.In s.heap) (I : ObjM s.heap x dx C mA) (hg : PySem.W.plainGet K C name = true) (hh : PySem.W.hasDictIn K C = true)
    (ha : PySem.W.findIn K (.ref C) name = some none) (hv : mA name = some v) (hv' : PySem.W.handedIn v = true) (h : Q v { s with toks := s.toks + 1 }) :
    wpAny (model prog w) A (getAttr (.ref x) name expr) Q E s := by
  obtain ⟨od, J, hl⟩ := I.look
  exact PySem.W.get_value X J (PySem.W.plainGet_of hg).1 (PySem.W.findObj_own hh ha rfl (by rw [hl, hv])) hv' h
theorem get_meth {pl : Sem Bool} {Q : Value × List Value → Shared → Prop} (X : K.In s.heap) (I : ObjM s.heap x dx C mA) (hg : PySem.W.plainGet K C name = true)
    (hf : PySem.W.findIn K (.ref C) name = some (some (.ref f))) (ht : PySem.W.isFn K (.ref f) = true) (hv : mA name = none) (h : Q (.ref f, [.ref x]) s) :
    wpAny (model prog w) A (getMethod (.ref x) name pl) Q E s := by
  obtain ⟨od, J, hl⟩ := I.look
  exact PySem.W.method_fn X J (PySem.W.plainGet_of hg).1 (PySem.W.plainGet_of hg).2 hf (beq_iff_eq.mp ht) (by show (PySem.W.lookIn name od).map (·.isSome) = some false; rw [hl, hv]; rfl) h
theorem set_map {ns : List Str} {Q : Unit → Shared → Prop} (X : K.In s.heap) (I : ObjM s.heap x dx C mA)
    (hs : PySem.W.findIn K (.ref C) "__setattr__" = some (some (.builtin "object.__setattr__"))) (hp : PySem.W.plainOver K C = true) (ht : PySem.W.takerIn K C name = some none) (hh : PySem.W.hasDictIn K C = true)
    (hw : PySem.Within mA ns) (hsz : ns.length ≤ sizeLine)
    (h : ∀ h', ObjM h' x dx C (fun y => if y = name then some v else mA y) → Heap.SameBut dx s.heap h' → Q () { s with heap := h', toks := s.toks + 2 }) :
    wpAny (model prog w) A (setAttr (.ref x) name v) Q E s := by
  obtain ⟨od, J, hl⟩ := I.look
  refine PySem.W.set_plain X J hs (PySem.W.osa_open (s := { s with toks := s.toks + 1 }) (r := none) X J hp ht fun b => ?_)
  obtain ⟨cd, hc, hd'⟩ := PySem.W.any_some hh
  have hx : s.heap.get? x = some ⟨.ref C, some dx, .plain, #[]⟩ := I.obj
  refine wpAny_bind (wpAny_pure (wpAny_bind (wpAny_bind (wpAny_loadPart hx (wpAny_bind (PySem.W.Looks.here (s := { s with toks := s.toks + 1 }) (PySem.W.looks_clsIn X hc) ?_))))))
  rw [hd']
  refine wpAny_pure (a := some dx) (wpAny_bind (wpAny_pure (wpAny_bind ?_)))
  refine wpAny_nsSet1 (s := { s with toks := s.toks + 1 }) I.ns fun h' hn2 hs2 => ?_
  obtain ⟨oD, esD, epD, hoD, hdD, hcD⟩ := hn2.count (PySem.Within.cons name v hw)
  refine wpAny_bind (wpAny_lookBehind hoD (by rw [hdD]; exact pastItsLine_dict (Nat.le_trans hcD (by rw [List.length_cons]; omega))) ?_)
  exact wpAny_pure (h _ ⟨(hs2.2 _ (Ne.symm I.ne)).trans I.obj, hn2, I.ne⟩ hs2)
theorem make_map {R : Result → Shared → Prop} {vs : List Value} {kw : List (Str × Value)} (X : K.In s.heap) (hm : PySem.W.makesIn K C = true)
    (hi : PySem.W.findIn K (.ref C) "__init__" = some (some (.ref f))) (hf : PySem.W.typeIn K (.ref f) = some (.type "function"))
    (h : codeAny (model prog w) (A.under (.builtin "type.__call__" ⟨.ref C :: vs, kw⟩)) (.call (.ref f) ⟨.ref (s.heap.objs.size + 1) :: vs, kw⟩) (PySem.W.InitBack (s.heap.objs.size + 1) R)
      { s with heap := (s.heap.push PySem.W.emptyDict).push (PySem.W.instObj C s.heap.objs.size) }) :
    codeAny (model prog w) A (.call (.ref C) ⟨vs, kw⟩) R s := by
  obtain ⟨hh, g, d, t, os⟩ := s
  exact PySem.W.make_core (PySem.W.makes_of X hm) (PySem.W.looks_findIn X hi) (fun self => PySem.W.bind_fn X self hf) (.inl rfl) h
end
noncomputable def putF (f : Str) (v : V) : List (Str × V) → List (Str × V)
  | [] => [(f, v)]
  | (g, x) :: r => if g = f then (g, v) :: r else (g, x) :: putF f v r
theorem lookup_putF (f g : Str) (v : V) : ∀ fs : List (Str × V), (putF f v fs).lookup g = if g = f then some v else fs.lookup g
  | [] => by
    show List.lookup g [(f, v)] = _
    by_cases h : g = f
    · have hb : (g == f) = true := beq_iff_eq.mpr h
      simp only [List.lookup, hb, if_pos h]
    · have hb : (g == f) = false := beq_eq_false_iff_ne.mpr h
      simp only [List.lookup, hb, if_neg h]
  | (k, x) :: r => by
    have ih := lookup_putF f g v r
    rw [show putF f v ((k, x) :: r) = (if k = f then (k, v) :: r else (k, x) :: putF f v r) from rfl]
    by_cases hk : k = f
    · rw [if_pos hk]
      by_cases h : g = k
      · have hb : (g == k) = true := beq_iff_eq.mpr h
        simp only [List.lookup, hb, if_pos (h.trans hk)]
      · have hb : (g == k) = false := beq_eq_false_iff_ne.mpr h
        simp only [List.lookup, hb, if_neg (fun e : g = f => h (e.trans hk.symm))]
    · rw [if_neg hk]
      by_cases h : g = k
      · have hb : (g == k) = true := beq_iff_eq.mpr h
        simp only [List.lookup, hb, if_neg (fun e : g = f => hk (h.symm.trans e))]
      · have hb : (g == k) = false := beq_eq_false_iff_ne.mpr h
        simp only [List.lookup, hb]
        exact ih
theorem keys_putF (f : Str) (v : V) : ∀ fs : List (Str × V), f ∈ (putF f v fs).map (·.1) ∧ ∀ g, g ∈ fs.map (·.1) → g ∈ (putF f v fs).map (·.1)
  | [] => ⟨by simp [putF], fun g h => by simp at h⟩
  | (k, x) :: r => by
    obtain ⟨i1, i2⟩ := keys_putF f v r
    rw [show putF f v ((k, x) :: r) = (if k = f then (k, v) :: r else (k, x) :: putF f v r) from rfl]
    by_cases hk : k = f
    · rw [if_pos hk]
      subst hk
      exact ⟨by simp, fun g h => by simpa using h⟩
    · rw [if_neg hk]
      refine ⟨?_, fun g h => ?_⟩
      · rw [List.map_cons]
        exact List.mem_cons_of_mem _ i1
      · rw [List.map_cons] at h ⊢
        rcases List.mem_cons.mp h with e | e
        · exact List.mem_cons.mpr (.inl e)
        · exact List.mem_cons_of_mem _ (i2 g e)
theorem length_putF (f : Str) (v : V) : ∀ fs : List (Str × V), (putF f v fs).length ≤ fs.length + 1
  | [] => by simp [putF]
  | (k, x) :: r => by
    have ih := length_putF f v r
    rw [show putF f v ((k, x) :: r) = (if k = f then (k, v) :: r else (k, x) :: putF f v r) from rfl]
    by_cases hk : k = f
    · rw [if_pos hk, List.length_cons, List.length_cons]; omega
    · rw [if_neg hk, List.length_cons, List.length_cons]; omega
theorem RelO.some_of {v : V} {o : Option Value} (r : RelO (some v) o) : ∃ u, o = some u ∧ RelV v u := by
  cases o with
  | none => exact (show False from r).elim
  | some u => exact ⟨u, rfl, r⟩
theorem RelO.none_of {o : Option Value} (r : RelO none o) : o = none := by
  cases o with
  | none => rfl
  | some u => exact (show False from r).elim
theorem handed_of {v : V} {u : Value} (r : RelV v u) : PySem.W.handedIn u = true := by
  cases v with
  | non => cases (show u = Value.none from r); rfl
  | bl b => cases (show u = Value.bool b from r); rfl
  | int i => obtain ⟨t, e⟩ := (show ∃ t, u = Value.int i t from r); cases e; rfl
  | str x => obtain ⟨t, e⟩ := (show ∃ t, u = Value.str x t from r); cases e; rfl
  | byt b => obtain ⟨t, e⟩ := (show ∃ t, u = Value.bytes b t from r); cases e; rfl
  | flt b => obtain ⟨t, e⟩ := (show ∃ t, u = Value.float b t from r); cases e; rfl
  | ref a => cases (show u = Value.ref a from r); rfl
  | ty n => cases (show u = Value.type n from r); rfl
section
variable {P : Program} {w : World} {H H' : Hp} {h h' : Heap} {a C dx : Addr} {fs fs' : List (Str × V)}
theorem ins_get (hok : HOk P w H h) (e : H a = some (.ins C dx fs)) : ∃ mA, ObjM h a dx C mA ∧ (∀ f, RelO (fs.lookup f) (mA f)) ∧ PySem.Within mA (fs.map (·.1)) ∧ fs.length ≤ 1000 ∧ H dx = some (.own a) := by
  obtain ⟨d, z, ne, ob, mA, n, r, q⟩ := (show ObjOk P w H h a (.ins C dx fs) from hok a _ e)
  exact ⟨mA, ⟨ob, n, ne⟩, r, q, z, d⟩
end
structure Cls (K : PySem.W.Frag) (C : Addr) : Prop where
  pg : PySem.W.plainGet K C Str.empty = true
  hd : PySem.W.hasDictIn K C = true
  po : PySem.W.plainOver K C = true
  sa : PySem.W.findIn K (.ref C) "__setattr__" = some (some (.builtin "object.__setattr__"))
theorem Cls.get {K : PySem.W.Frag} {C : Addr} (c : Cls K C) (f : Str) : PySem.W.plainGet K C f = true := c.pg
noncomputable def NoAttr (K : PySem.W.Frag) (C : Addr) (f : Str) : Prop := PySem.W.findIn K (.ref C) f = some none
theorem NoAttr.taker {K : PySem.W.Frag} {C : Addr} {f : Str} (n : NoAttr K C f) : PySem.W.takerIn K C f = some none := by
  unfold PySem.W.takerIn
  rw [show PySem.W.findIn K (.ref C) f = some none from n]
  rfl
structure Con (K : PySem.W.Frag) (C : Addr) (f : Str) (v : V) (u : Value) : Prop where
  at_ : PySem.W.findIn K (.ref C) f = some (some u)
  rel : RelV v u
  get : PySem.W.specialIn K u "__get__" = some none
  cp : PySem.W.copiedNames.contains f = false
structure Meth (K : PySem.W.Frag) (C : Addr) (m : Str) (f : Addr) : Prop where
  at_ : PySem.W.findIn K (.ref C) m = some (some (.ref f))
  fn : PySem.W.isFn K (.ref f) = true
  kp : PySem.W.keepIn K (.ref f) = true
section
variable {X : Cx} {pins : List (Addr × Obj)} {σ : St} {H : Hp} {s : Shared} {a C dx : Addr} {fs : List (Str × V)} {f : Str} {v : V} {A : Around} {E : Value → Shared → Prop}
theorem getattr_ok {b : Bool} {Q : Value → Shared → Prop} (I : Inv X pins σ H s) (e : H a = some (.ins C dx fs)) (c : Cls X.K C) (n : NoAttr X.K C f) (l : fs.lookup f = some v)
    (h : ∀ u s', Inv X pins σ H s' → RelV v u → Q u s') : wpAny (model X.prog X.w) A (getAttr (.ref a) f b) Q E s := by
  obtain ⟨mA, O, r, _, _, _⟩ := ins_get I.hok e
  obtain ⟨u, hu, ru⟩ := RelO.some_of (v := v) (o := mA f) (by rw [← l]; exact r f)
  exact get_map I.kIn O (c.get f) c.hd n hu (handed_of ru) (h u _ (I.tok _) ru)
theorem getmeth_ok {m : Str} {g : Addr} {pl : Sem Bool} {Q : Value × List Value → Shared → Prop} (I : Inv X pins σ H s) (e : H a = some (.ins C dx fs)) (c : Cls X.K C) (k : Meth X.K C m g) (l : fs.lookup m = none)
    (h : Q (.ref g, [.ref a]) s) : wpAny (model X.prog X.w) A (getMethod (.ref a) m pl) Q E s := by
  obtain ⟨mA, O, r, _, _, _⟩ := ins_get I.hok e
  have hn : mA m = none := RelO.none_of (by rw [← l]; exact r m)
  exact get_meth I.kIn O (c.get m) k.at_ k.fn hn h
theorem setattr_ok {y : V} {u : Value} {Q : Unit → Shared → Prop} (I : Inv X pins σ H s) (e : H a = some (.ins C dx fs)) (c : Cls X.K C) (n : NoAttr X.K C f) (hl : fs.length < 1000) (ry : RelV y u)
    (h : ∀ s', Inv X pins σ (upd H a (.ins C dx (putF f y fs))) s' → Q () s') : wpAny (model X.prog X.w) A (setAttr (.ref a) f u) Q E s := by
  obtain ⟨mA, O, r, wi, _, ho⟩ := ins_get I.hok e
  have hz : (fs.map (·.1)).length ≤ sizeLine := by rw [List.length_map, sizeLine_eq]; omega
  refine set_map I.kIn O c.sa c.po n.taker c.hd wi hz fun h' O' sb => h _ ?_
  have hd : ∃ o, h'.get? dx = some o := let ⟨o, _, _, e', _⟩ := O'.ns; ⟨o, e'⟩
  refine I.write (x := a) (e := dx) (by rw [e]; exact True.intro) (.inr ho) (fun b q hb z => (sb.2 b hb).trans z) hd ?_
  refine ⟨by rw [upd_ne O.ne]; exact ho, ?_, O.ne, O'.obj, _, O'.ns, fun g => ?_, fun g hg => ?_⟩
  · have := length_putF f y fs; omega
  · show RelO ((putF f y fs).lookup g) (if g = f then some u else mA g)
    rw [lookup_putF]
    by_cases q : g = f
    · rw [if_pos q, if_pos q]; exact ry
    · rw [if_neg q, if_neg q]; exact r g
  · by_cases q : g = f
    · rw [q]; exact (keys_putF f y fs).1
    · refine (keys_putF f y fs).2 g (wi g fun z => hg ?_)
      show (if g = f then some u else mA g) = none
      rw [if_neg q]; exact z
theorem Inv.made (I : Inv X pins σ H s) : Inv X pins σ (upd (upd H s.heap.objs.size (.own (s.heap.objs.size + 1))) (s.heap.objs.size + 1) (.ins C s.heap.objs.size []))
    { s with heap := (s.heap.push PySem.W.emptyDict).push (PySem.W.instObj C s.heap.objs.size) } := by
  have e1 : (s.heap.push PySem.W.emptyDict).get? s.heap.objs.size = some PySem.W.emptyDict := Heap.get?_push_size s.heap rfl
  have e2 : ((s.heap.push PySem.W.emptyDict).push (PySem.W.instObj C s.heap.objs.size)).get? (s.heap.objs.size + 1) = some (PySem.W.instObj C s.heap.objs.size) := by
    have := Heap.get?_push_size (s.heap.push PySem.W.emptyDict) (o := PySem.W.instObj C s.heap.objs.size) rfl
    rwa [Heap.size_push] at this
  have e3 : (s.heap.push PySem.W.emptyDict).Ns s.heap.objs.size (fun _ => none) := ⟨PySem.W.emptyDict, #[], _, e1, rfl, (fun e he => absurd he (by simp)), fun _ => rfl⟩
  have I1 := I.laid (a := s.heap.objs.size) (o := .own (s.heap.objs.size + 1)) (h' := s.heap.push PySem.W.emptyDict) (t' := s.toks) (fun b u q => Heap.get?_push_of_some _ q) (Nat.le_refl _) ⟨_, e1⟩
  refine I1.laid (a := s.heap.objs.size + 1) (o := .ins C s.heap.objs.size []) (t' := s.toks) (fun b u q => Heap.get?_push_of_some _ q) (Nat.le_of_eq (Heap.size_push _ _)) ?_
  have ne : s.heap.objs.size ≠ s.heap.objs.size + 1 := Nat.ne_of_lt (Nat.lt_succ_self _)
  refine ⟨by rw [upd_ne ne, upd_same], Nat.zero_le _, ne, e2, fun _ => none, (Heap.Ns1.of_empty e3).at fun o q => Heap.get?_push_of_some _ q, fun _ => True.intro, fun y hy => absurd rfl hy⟩
theorem attr_of {prog : Program} {w : World} {env : Env} {e : Expr} {f : Str} {pos : Pos} {s : Shared} {Q : Value → Shared → Prop} (hb : attributeBase e f env (eval e env) = eval e env)
    (h : wpAny (model prog w) A (eval e env) (fun o s₁ => wpAny (model prog w) A (getAttr o f true) Q E s₁) E s) : wpAny (model prog w) A (eval (.Attribute e f pos) env) Q E s :=
  Attribute_any_ h (by rw [arm_eval_Attribute, hb])
end
noncomputable def tFld (K : PySem.W.Frag) (ta : TE) (f : Str) : TE := fun σ H Q => ta σ H fun x H1 => ∃ a C dx fs v, x = .ref a ∧ H1 a = some (.ins C dx fs) ∧ Cls K C ∧ NoAttr K C f ∧ fs.lookup f = some v ∧ Q v H1
noncomputable def sFld (K : PySem.W.Frag) (ta tv : TE) (f : Str) : TS := fun D σ H => tv σ H fun y H1 => ta σ H1 fun x H2 => ∃ a C dx fs, x = .ref a ∧ H2 a = some (.ins C dx fs) ∧ Cls K C ∧ NoAttr K C f ∧ fs.length < 1000 ∧
  D.nx σ (upd H2 a (.ins C dx (putF f y fs)))
section
variable {X : Cx} {o e value : Expr} {f : Str} {pos pos' tpos : Pos} {ta tv : TE}
theorem pe_fld (he : PE X e ta) (hb : attributeBase e f X.env (eval e X.env) = eval e X.env) : PE X (.Attribute e f pos) (tFld X.K ta f) := by
  intro pins s σ H Q I h
  refine attr_of hb (thn (he pins s σ H _ I h) fun u s1 ⟨x, H1, I1, rx, a, C, dx, fs, v, ex, ea, c, n, l, q⟩ => ?_)
  subst ex
  obtain rfl : u = Value.ref a := rx
  exact getattr_ok I1 ea c n l fun u' s2 I2 ru => ⟨v, H1, I2, ru, q⟩
theorem ps_fld (ha : PE X o ta) (hv : PE X value tv) (hs : swapsWith value (some (.Attribute o f pos')) pos.line X.env = pure false) : PS X (.Assign [.Attribute o f pos'] value pos) (sFld X.K ta tv f) := by
  intro pins s σ H D I h
  refine plainObj_wpAny_Assign_Attribute (thn (hv pins s σ H _ I h) fun u s1 ⟨y, H1, I1, ry, q⟩ => thn (ha pins s1 σ H1 _ I1 q) fun ov s2 ⟨x, H2, I2, rx, a, C, dx, fs, ex, ea, c, n, l, q2⟩ => ?_) hs
  subst ex
  obtain rfl : ov = Value.ref a := rx
  exact setattr_ok I2 ea c n l ry fun s3 I3 => ⟨σ, _, I3, q2⟩
end
section
variable {X : Cx} {pins : List (Addr × Obj)} {σ : St} {H : Hp} {s : Shared} {A : Around} {E : Value → Shared → Prop} {Q : Value → Shared → Prop} {c : Value} {b : Bool}
inductive TyOf (K : PySem.W.Frag) (H : Hp) : V → Value → Prop where
  | non : TyOf K H .non (.type "NoneType")
  | bl (x : Bool) : TyOf K H (.bl x) (.type "bool")
  | int (i : Int) : TyOf K H (.int i) (.type "int")
  | str (x : Str) : TyOf K H (.str x) (.type "str")
  | flt (x : UInt64) : TyOf K H (.flt x) (.type "float")
  | lst {a : Addr} {xs : List V} (e : H a = some (.lst xs)) : TyOf K H (.ref a) (.type "list")
  | frz {a : Addr} {o : Obj} {xs : List V} (e : H a = some (.frz o (.lst xs))) : TyOf K H (.ref a) (.type "list")
  | tup {a : Addr} {xs : List V} (e : H a = some (.tup xs)) : TyOf K H (.ref a) (.type "tuple")
  | dK {a : Addr} {kvs : List (Key × V)} (e : H a = some (.dK kvs)) : TyOf K H (.ref a) (.type "dict")
  | dT {a : Addr} {kvs : List (List Key × V)} (e : H a = some (.dT kvs)) : TyOf K H (.ref a) (.type "dict")
  | ins {a C dx : Addr} {fs : List (Str × V)} (e : H a = some (.ins C dx fs)) (cl : Cls K C) (ha : PySem.W.findIn K (.ref C) "__class__" = some (some (.builtin "object.__class__")))
      (hn : PySem.W.specialIn K (.builtin "object.__class__") "__get__" = some (some (.builtin "getset_descriptor.__get__"))) (htk : PySem.W.takesIn K (.builtin "object.__class__") = some true)
      (hm : PySem.W.mroIn K C (.type "object") = some true) : TyOf K H (.ref a) (.ref C)
theorem isinst_ok {x : V} {u t : Value} (I : Inv X pins σ H s) (rx : RelV x u) (ty : TyOf X.K H x t) (e : PySem.W.kitOne X.K t c = some b) (h : ∀ tk, Q (.bool b) { s with toks := tk }) :
    wpAny (model X.prog X.w) A (call (.builtin "isinstance") [u, c]) Q E s := by
  cases ty with
  | non => cases (show u = Value.none from rx); exact PySem.W.kia_one PySem.W.kitx_none I.kIn True.intro e (fun z => nomatch z) h
  | bl y => cases (show u = Value.bool y from rx); exact PySem.W.kia_one PySem.W.kitx_bool I.kIn True.intro e (fun z => nomatch z) h
  | int i => obtain ⟨t, q⟩ := (show ∃ t, u = Value.int i t from rx); cases q; exact PySem.W.kia_one PySem.W.kitx_int I.kIn True.intro e (fun z => nomatch z) h
  | str y => obtain ⟨t, q⟩ := (show ∃ t, u = Value.str y t from rx); cases q; exact PySem.W.kia_one PySem.W.kitx_str I.kIn True.intro e (fun z => nomatch z) h
  | flt y => obtain ⟨t, q⟩ := (show ∃ t, u = Value.float y t from rx); cases q; exact PySem.W.kia_one PySem.W.kitx_float I.kIn True.intro e (fun z => nomatch z) h
  | @lst a xs ea =>
    cases (show u = Value.ref a from rx)
    obtain ⟨_, _, n, _, h1⟩ := (show ObjOk X.prog X.w H s.heap a (.lst xs) from I.hok a _ ea)
    exact PySem.W.kia_one PySem.W.kitx_list I.kIn ⟨_, h1, rfl⟩ e (fun z => nomatch z) h
  | @frz a ob xs ea =>
    cases (show u = Value.ref a from rx)
    obtain ⟨_, _, _, n, _, h1⟩ := (show ObjOk X.prog X.w H s.heap a (.frz ob (.lst xs)) from I.hok a _ ea)
    exact PySem.W.kia_one PySem.W.kitx_list I.kIn ⟨_, h1, rfl⟩ e (fun z => nomatch z) h
  | @tup a xs ea =>
    cases (show u = Value.ref a from rx)
    obtain ⟨_, _, _, p⟩ := (show ObjOk X.prog X.w H s.heap a (.tup xs) from I.hok a _ ea)
    obtain ⟨o, h1, h2, _⟩ := p
    exact PySem.W.kia_one PySem.W.kitx_tuple I.kIn ⟨o, h1, h2⟩ e (fun z => nomatch z) h
  | @dK a kvs ea =>
    cases (show u = Value.ref a from rx)
    obtain ⟨_, _, vs, _, p⟩ := (show ObjOk X.prog X.w H s.heap a (.dK kvs) from I.hok a _ ea)
    obtain ⟨o, es, ep, h1, h2, _⟩ := p
    exact PySem.W.kia_one PySem.W.kitx_dict I.kIn ⟨o, h1, h2.1⟩ e (fun z => nomatch z) h
  | @dT a kvs ea =>
    cases (show u = Value.ref a from rx)
    obtain ⟨_, _, xs, _, o, es, ep, h1, h2, _⟩ := (show ObjOk X.prog X.w H s.heap a (.dT kvs) from I.hok a _ ea)
    exact PySem.W.kia_one PySem.W.kitx_dict I.kIn ⟨o, h1, h2.1⟩ e (fun z => nomatch z) h
  | @ins a C dx fs ea cl ha hn htk hm =>
    cases (show u = Value.ref a from rx)
    obtain ⟨mA, O, _⟩ := ins_get I.hok ea
    obtain ⟨od, J, _⟩ := O.look
    exact PySem.W.kia_one (PySem.W.kitx_own (cl.get _) cl.hd ha hn htk hm) I.kIn J e (fun z => nomatch z) h
end
structure Room (k : Nat) (A : Around) : Prop where
  hd : A.handled = none
  dp : A.depth + 3 * k + 5 < recursionLimit
  un : A.units + 16 * k + 200 < cLine
theorem Room.mono {j k : Nat} {A : Around} (r : Room k A) (h : j ≤ k) : Room j A := ⟨r.hd, by have := r.dp; omega, by have := r.un; omega⟩
theorem Room.deeper {k : Nat} {A : Around} (r : Room (k + 1) A) (env : Env) : Room k (A.deeper env) :=
  ⟨r.hd, by have := r.dp; show A.depth + 1 + 3 * k + 5 < _; omega, by have := r.un; show A.units + 3 + 16 * k + 200 < _; omega⟩
theorem make_depth {A : Around} {C : Addr} {us : List Value} {kw : List (Str × Value)} : (A.under (.builtin "type.__call__" ⟨.ref C :: us, kw⟩)).depth = A.depth + 1 := by
  first | rfl | simp [Around.under, Code.weight, Code.isCreation, Code.isGuard, Code.isCaller, Code.frames, Code.isFrame, guardIds]
theorem make_units {A : Around} {C : Addr} {us : List Value} {kw : List (Str × Value)} : (A.under (.builtin "type.__call__" ⟨.ref C :: us, kw⟩)).units = A.units + 1 := by
  first | rfl | simp [Around.under, Code.cUnits, Code.frames, Code.isFrame]
theorem Room.make {k : Nat} {A : Around} (r : Room (k + 1) A) (C : Addr) (us : List Value) (kw : List (Str × Value)) : Room k (A.under (.builtin "type.__call__" ⟨.ref C :: us, kw⟩)) :=
  ⟨r.hd, by have := r.dp; rw [make_depth]; omega, by have := r.un; rw [make_units]; omega⟩
theorem Room.depth {k : Nat} {A : Around} (r : Room k A) : A.depth < recursionLimit := by have := r.dp; omega
theorem Room.units {k : Nat} {A : Around} (r : Room k A) : A.units + 64 < cLine := by have := r.un; omega
noncomputable def tNil : TA := fun _ H Q => Q [] H
noncomputable def tCons (ta : TE) (tr : TA) : TA := fun σ H Q => ta σ H fun x H1 => tr σ H1 fun xs H2 => Q (x :: xs) H2
section
variable {X : Cx} {e : Expr} {es : List Expr} {te : TE} {t : TA} {pos : Pos}
theorem pa_nil : PA X [] tNil := fun _ _ _ _ H Q I h => Calls.spliced_nil ⟨[], H, I, .nil, h⟩
theorem pa_cons (ha : PE X e te) (hr : PA X es t) (hs : starEach (e :: es) X.env = (false, eval e X.env) :: starEach es X.env := by rfl) : PA X (e :: es) (tCons te t) := by
  intro pos pins s σ H Q I h
  rw [hs]
  show wpAny _ _ (spliced ((false, eval e X.env) :: backTo pos (starEach es X.env))) _ _ s
  refine Calls.spliced_cons (thn (ha pins s σ H _ I h) fun u s1 ⟨x, H1, I1, r1, q1⟩ => ?_)
  exact thn (hr pos pins s1 σ H1 _ I1 q1) fun us s2 ⟨xs, H2, I2, r2, q2⟩ => ⟨x :: xs, H2, I2, .cons r1 r2, q2⟩
noncomputable def tTup (t : TA) : TE := fun σ H Q => t σ H fun xs H1 => xs.length ≤ sizeLine ∧ ∀ p, H1 p = none → Q (.ref p) (upd H1 p (.tup xs))
noncomputable def tLst (t : TA) : TE := fun σ H Q => t σ H fun xs H1 => xs.length ≤ sizeLine ∧ ∀ p, H1 p = none → Q (.ref p) (upd H1 p (.lst xs))
theorem pe_tup {x1} (h : PA X es t) : PE X (.Tuple es x1 pos) (tTup t) := by
  intro pins s σ H Q I hq
  refine wpAny_Tuple_spliced (thn (h pos pins s σ H _ I hq) fun us s1 ⟨xs, H1, I1, r, z, q⟩ => ⟨by rw [← r.length]; exact z, ?_⟩)
  have hf : H1 s1.heap.objs.size = none := I1.hok.fresh (Nat.le_refl _)
  refine ⟨.ref s1.heap.objs.size, upd H1 s1.heap.objs.size (.tup xs), I1.laid (t' := s1.toks) (fun b u e => Heap.get?_push_of_some _ e) (Nat.le_refl _) ?_, rfl, q _ hf⟩
  exact ⟨z, us, r, ⟨_, Heap.get?_push_size _ rfl, rfl, _, rfl⟩⟩
theorem pe_lst (h : PA X es t) : PE X (.List es pos) (tLst t) := by
  intro pins s σ H Q I hq
  refine wpAny_List_spliced (thn (h pos pins s σ H _ I hq) fun us s1 ⟨xs, H1, I1, r, z, q⟩ => ⟨by rw [← r.length]; exact z, ?_⟩)
  have hf : H1 s1.heap.objs.size = none := I1.hok.fresh (Nat.le_refl _)
  refine ⟨.ref s1.heap.objs.size, upd H1 s1.heap.objs.size (.lst xs), I1.laid (t' := s1.toks) (fun b u e => Heap.get?_push_of_some _ e) (Nat.le_refl _) ?_, rfl, q _ hf⟩
  exact ⟨z, us, 0, r, Heap.get?_push_size _ rfl⟩
end
abbrev Sp := List V → Hp → VK → XK → Prop
abbrev CXT := List Env → Hp → Shared → XK → Value → Shared → Prop
structure Env0 (P : Program) (w : World) (K : PySem.W.Frag) (mg : Str → Option Value) (base : Heap) (A : Around) (outer : List Env) (s : Shared) (H : Hp) : Prop where
  frames : A.frames = some outer
  mod : Mod K mg base
  bs : ∀ b o, base.get? b = some o → s.heap.get? b = some o ∧ H b = none
  bsz : base.objs.size ≤ s.heap.objs.size
  funs : s.heap.FunFrames base outer
  frf : ∀ b ∈ frs outer, H b = none
  hok : HOk P w H s.heap
  bare : AllBare s.gens
noncomputable def CE (outer : List Env) (P : Program) (w : World) (H : Hp) (s : Shared) (Q : VK) (u : Value) (s' : Shared) : Prop :=
  ∃ v H', s'.os = s.os ∧ AllBare s'.gens ∧ Un (frs outer) [] H H' s.heap s'.heap ∧ HOk P w H' s'.heap ∧ RelV v u ∧ Q v H'
noncomputable def CR (CX : CXT) (outer : List Env) (P : Program) (w : World) (H : Hp) (s : Shared) (Q : VK) (E : XK) (r : Result) (s' : Shared) : Prop :=
  match r with
  | .ok (.ret u) => CE outer P w H s Q u s'
  | .ok _ => False
  | .error e => CX outer H s E e s'
structure FnOk (P : Program) (w : World) (K : PySem.W.Frag) (mg : Str → Option Value) (base : Heap) (CX : CXT) (k : Nat) (f : Addr) (fd : FuncData) (ps : List Str) (sp : Sp) : Prop where
  len : ∀ vs H Q E, sp vs H Q E → vs.length = ps.length
  run : ∀ (A : Around) (outer : List Env) (s : Shared) (H : Hp) (args : Args) (us : List Value) (vs : List V) (Q : VK) (E : XK), Room k A → Env0 P w K mg base A outer s H → BindsTo s fd args (ps.zip us) → Vals vs us → sp vs H Q E →
    codeAny (model P w) A (.call (.ref f) args) (CR CX outer P w H s Q E) s
theorem FnOk.mono {P : Program} {w : World} {K : PySem.W.Frag} {mg : Str → Option Value} {base : Heap} {CX : CXT} {j k : Nat} {f : Addr} {fd : FuncData} {ps : List Str} {sp : Sp} (F : FnOk P w K mg base CX j f fd ps sp) (h : j ≤ k) :
    FnOk P w K mg base CX k f fd ps sp := ⟨F.len, fun A outer s H args us vs Q E hr => F.run A outer s H args us vs Q E (hr.mono h)⟩
theorem Env0.make {P : Program} {w : World} {K : PySem.W.Frag} {mg : Str → Option Value} {base : Heap} {A : Around} {outer : List Env} {s : Shared} {H : Hp} (e : Env0 P w K mg base A outer s H) (C : Addr) (us : List Value) (kw : List (Str × Value)) :
    Env0 P w K mg base (A.under (.builtin "type.__call__" ⟨.ref C :: us, kw⟩)) outer s H := ⟨by first | exact e.frames | (simpa [Around.under, Code.envs, Code.isFrame, pushEnvs] using e.frames), e.mod, e.bs, e.bsz, e.funs, e.frf, e.hok, e.bare⟩
section
variable {X : Cx} {pins : List (Addr × Obj)} {σ : St} {H : Hp} {s s' : Shared}
theorem Inv.env0 (I : Inv X pins σ H s) : Env0 X.prog X.w X.K X.mg X.base X.A X.stack s H :=
  ⟨I.ok.frames, I.ok.mod, I.bs, Nat.le_trans I.ok.bsz I.sz, I.stack, I.stkFree, I.hok, I.bare⟩
theorem Inv.after {Q : VK} {u : Value} (I : Inv X pins σ H s) (h : CE X.stack X.prog X.w H s Q u s') : EP X pins σ Q u s' := by
  obtain ⟨v, H', os, bare, un, hok, r, q⟩ := h
  obtain ⟨hh, g, d, t, os'⟩ := s'
  obtain rfl : os' = s.os := os
  exact ⟨v, H', I.call (h' := hh) (g' := g) (d' := d) (t' := t) (ch := []) un hok bare (fun b z => absurd z (by simp)), r, q⟩
end
noncomputable def tCall (sp : Sp) (dvs : List V) (E : XK) (t : TA) : TE := fun σ H Q => t σ H fun vs H1 => sp (vs ++ dvs) H1 Q E
noncomputable def Binds (K : PySem.W.Frag) (fd : FuncData) (ps : List Str) (ds : List Value) : Prop :=
  ∀ (s : Shared) (us : List Value), K.In s.heap → (us ++ ds).length = ps.length → BindsTo s fd ⟨us, []⟩ (ps.zip (us ++ ds))
theorem Binds.all {K : PySem.W.Frag} {fd : FuncData} {ps : List Str} (h : ∀ us : List Value, us.length = ps.length → bindArgs fd ⟨us, []⟩ = pure (ps.zip us)) : Binds K fd ps [] := fun s us _ hl => by
  rw [List.append_nil] at hl ⊢
  exact .of_eq (h us hl)
noncomputable def Passes (CX : CXT) (X : Cx) (E : XK) : Prop := ∀ (pins : List (Addr × Obj)) (σ : St) (H : Hp) (s : Shared) (e : Value) (s' : Shared), Inv X pins σ H s → CX X.stack H s E e s' → X.xe e s'
section
variable {X : Cx} {CX : CXT} {k : Nat} {f C : Addr} {fd : FuncData} {ps : List Str} {sp : Sp} {dvs : List V} {ds : List Value} {E : XK} {x m : Str} {p pos apos : Pos} {e o : Expr} {es : List Expr} {ta : TE} {t : TA}
theorem run_fn {pins : List (Addr × Obj)} {σ : St} {H : Hp} {s : Shared} {Q : VK} {us : List Value} {vs : List V} (F : FnOk X.prog X.w X.K X.mg X.base CX k f fd ps sp) (hr : Room k X.A) (hb : Binds X.K fd ps ds) (hd : Vals dvs ds) (hx : Passes CX X E)
    (I : Inv X pins σ H s) (r : Vals vs us) (h : sp (vs ++ dvs) H Q E) : wpAny (model X.prog X.w) X.A (call (.ref f) us) (EP X pins σ Q) X.xe s := by
  have r2 : Vals (vs ++ dvs) (us ++ ds) := r.append hd
  have hl : (us ++ ds).length = ps.length := by rw [← r2.length]; exact F.len _ _ _ _ h
  refine wpAny_call (codeAny_mono (F.run X.A X.stack s H ⟨us, []⟩ (us ++ ds) (vs ++ dvs) Q E hr I.env0 (hb s us I.kIn hl) r2 h) fun r s' hq => ?_)
  cases r with
  | error e => exact hx pins σ H s e s' I hq
  | ok fl =>
    cases fl with
    | ret u => exact I.after hq
    | next => exact False.elim hq
    | brk => exact False.elim hq
    | cont => exact False.elim hq
theorem pe_call (F : FnOk X.prog X.w X.K X.mg X.base CX k f fd ps sp) (hr : Room k X.A) (hg : Gl X x) (hm : X.mg x = some (.ref f)) (hk : PySem.W.keepIn X.K (.ref f) = true) (hb : Binds X.K fd ps ds) (hd : Vals dvs ds) (hx : Passes CX X E)
    (ha : PA X (e :: es) t) (hdb : (x == ("__debug__" : Str)) = false := by decide) (he : starEach (e :: es) X.env = (false, eval e X.env) :: starEach es X.env := by rfl) (hpl : (backTo pos (starEach es X.env)).any (·.1) = false := by rfl) :
    PE X (.Call (.Name x p) (e :: es) [] pos) (tCall sp dvs E t) := by
  intro pins s σ H Q I h
  refine wpAny_Call_Name_kw (ld_glob I hg hm ?_ hdb)
  refine PySem.W.callWith_K (h₀ := X.base) I.ok.mod.kin hk (thn (ha pos pins s σ H _ I h) fun us s1 ⟨vs, H1, I1, r, q⟩ => ⟨I1.kIn, ?_⟩) he hpl
  exact run_fn F hr hb hd hx I1 r q
structure Mk (K : PySem.W.Frag) (C f : Addr) : Prop where
  makes : PySem.W.makesIn K C = true
  init : PySem.W.findIn K (.ref C) "__init__" = some (some (.ref f))
  fn : PySem.W.isFn K (.ref f) = true
  kp : PySem.W.keepIn K (.ref C) = true
end
section
variable {X : Cx} {CX : CXT} {k : Nat} {f C : Addr} {fd : FuncData} {ps ks : List Str} {sp : Sp} {E : XK} {x m : Str} {p pos apos kpos : Pos} {e o : Expr} {es : List Expr} {kws : List Keyword} {te ta : TE} {t tk : TA} {nm : Option Str}
structure KBinds (K : PySem.W.Frag) (fd : FuncData) (ps ks : List Str) (g : List Value → List Value → List Value) (gV : List V → List V → List V) : Prop where
  to : ∀ (s : Shared) (us ws : List Value), K.In s.heap → (g us ws).length = ps.length → BindsTo s fd ⟨us, ks.zip ws⟩ (ps.zip (g us ws))
  rel : ∀ {vs : List V} {us : List Value} {zs : List V} {ws : List Value}, Vals vs us → Vals zs ws → Vals (gV vs zs) (g us ws)
variable {g : List Value → List Value → List Value} {gV : List V → List V → List V}
end
structure FnScope (N P : List Str) (sc : Scope) : Prop where
  kind : sc.kind = .function
  co : sc.isCoroutine = false
  gen : sc.isGenerator = false
  nd : N.Nodup
  pre : N.take P.length = P
  par : ∀ x ∈ P, sc.names.lookup x = some .local ∨ sc.names.lookup x = some .cell
  nofree : ∀ y ∈ sc.names, y.2 ≠ .free
theorem bindL_out {kindOf : Str → Option NameKind} {x : Str} : ∀ {binds : List (Str × Value)} {m : Str → Option Value}, (∀ v, (x, v) ∉ binds) → bindL kindOf binds m x = m x
  | [], _, _ => rfl
  | (n, v) :: r, m, h => by
    unfold bindL
    rw [bindL_out fun w hw => h w (List.mem_cons_of_mem _ hw)]
    split
    · have : x ≠ n := by rintro rfl; exact h v List.mem_cons_self
      simp [this]
    · rfl
theorem bindC_out {kindOf : Str → Option NameKind} {x : Str} : ∀ {binds : List (Str × Value)} {m : Str → Option Value}, (∀ v, (x, v) ∉ binds) → bindC kindOf binds m x = m x
  | [], _, _ => rfl
  | (n, v) :: r, m, h => by
    unfold bindC
    rw [bindC_out fun w hw => h w (List.mem_cons_of_mem _ hw)]
    split
    · rfl
    · have : x ≠ n := by rintro rfl; exact h v List.mem_cons_self
      simp [this]
theorem bindL_get {kindOf : Str → Option NameKind} {x : Str} {v : Value} : ∀ {P : List Str} {vs : List Value} {i : Nat} {m : Str → Option Value}, P.Nodup → P[i]? = some x → vs[i]? = some v → kindOf x = some .local →
    bindL kindOf (P.zip vs) m x = some v
  | [], _, _, _, _, h, _, _ => by simp at h
  | _ :: _, [], _, _, _, _, h, _ => by simp at h
  | p :: P, w :: vs, 0, m, nd, h1, h2, hk => by
    simp at h1 h2; subst h1; subst h2
    show bindL kindOf ((p, w) :: P.zip vs) m p = _
    unfold bindL
    rw [bindL_out fun v hv => (List.nodup_cons.mp nd).1 (List.of_mem_zip hv).1, if_pos hk]
    simp
  | p :: P, w :: vs, i + 1, m, nd, h1, h2, hk => by
    show bindL kindOf ((p, w) :: P.zip vs) m x = _
    unfold bindL
    exact bindL_get (i := i) (List.nodup_cons.mp nd).2 (by simpa using h1) (by simpa using h2) hk
theorem bindC_get {kindOf : Str → Option NameKind} {x : Str} {v : Value} : ∀ {P : List Str} {vs : List Value} {i : Nat} {m : Str → Option Value}, P.Nodup → P[i]? = some x → vs[i]? = some v → kindOf x ≠ some .local →
    bindC kindOf (P.zip vs) m x = some v
  | [], _, _, _, _, h, _, _ => by simp at h
  | _ :: _, [], _, _, _, _, h, _ => by simp at h
  | p :: P, w :: vs, 0, m, nd, h1, h2, hk => by
    simp at h1 h2; subst h1; subst h2
    show bindC kindOf ((p, w) :: P.zip vs) m p = _
    unfold bindC
    rw [bindC_out fun v hv => (List.nodup_cons.mp nd).1 (List.of_mem_zip hv).1, if_neg hk]
    simp
  | p :: P, w :: vs, i + 1, m, nd, h1, h2, hk => by
    show bindC kindOf ((p, w) :: P.zip vs) m x = _
    unfold bindC
    exact bindC_get (i := i) (List.nodup_cons.mp nd).2 (by simpa using h1) (by simpa using h2) hk
noncomputable def start (N : List Str) (vs : List V) : St := vs.map some ++ List.replicate (N.length - vs.length) none
noncomputable def cxOf (CX : CXT) (P : Program) (w : World) (K : PySem.W.Frag) (mg : Str → Option Value) (base : Heap) (N : List Str) (qual : Str) (scope : Scope) (f : Addr) (cd : Value) (A : Around) (outer : List Env) (s : Shared) (H : Hp) (E : XK) : Cx where
  prog := P
  w := w
  K := K
  mg := mg
  base := base
  A := A.deeper (envOfC qual scope s.heap.objs.size f cd)
  N := N
  s₀ := s
  H₀ := H
  env := envOfC qual scope s.heap.objs.size f cd
  outer := outer
  stack := envOfC qual scope s.heap.objs.size f cd :: outer
  ex := []
  calm := true
  fn := fun _ => true
  pn := []
  xe := fun e s' => wpAny (model P w) (A.deeper (envOfC qual scope s.heap.objs.size f cd)) (leaving (envOfC qual scope s.heap.objs.size f cd) e) (fun _ s'' => CX outer H s E e s'') (fun e' s'' => CX outer H s E e' s'') s'
theorem cell_has {sc : Scope} {n : Nat} {x : Str} (h : sc.names.lookup x = some .cell) : ∃ c, (cellsFrom n sc.names []).lookup x = some c := by
  have q := PySem.W.cellsFrom_some sc.names n [] (.inl h)
  exact Option.isSome_iff_exists.mp q
theorem inv_start {CX : CXT} {P : Program} {w : World} {K : PySem.W.Frag} {mg : Str → Option Value} {base : Heap} {N ps : List Str} {qual : Str} {scope : Scope} {f : Addr} {cd : Value} {A : Around} {outer : List Env} {s s1 : Shared} {H : Hp} {E : XK} {us : List Value} {vs : List V}
    (S : FnScope N ps scope) (hd : A.handled = none) (e0 : Env0 P w K mg base A outer s H) (hl : vs.length = ps.length) (r : Vals vs us)
    (x : InCallC s s.heap.objs.size (bindL (envOfC qual scope s.heap.objs.size f cd).kindOf (ps.zip us) fun _ => none) (cellsFrom (s.heap.objs.size + 1) scope.names []) (bindC (envOfC qual scope s.heap.objs.size f cd).kindOf (ps.zip us) fun _ => none) s1) :
    Inv (cxOf CX P w K mg base N qual scope f cd A outer s H E) [] (start N vs) H s1 := by
  have hpl : ps.length ≤ N.length := by have := congrArg List.length S.pre; rw [List.length_take] at this; omega
  obtain ⟨h1, tk, rfl, hk⟩ := x.done
  have noA : ∀ b : Addr, b ∉ (cxOf CX P w K mg base N qual scope f cd A outer s H E).ex := fun b z => absurd (show b ∈ ([] : List Addr) from z) (by simp)
  refine ⟨⟨e0.mod, S.kind, rfl, rfl, Nat.le_refl _, fun y z c h1 h2 => ?_, fun y hy => ?_, fun y c _ h => ?_, fun _ => hd, Around.frames_deeper e0.frames, .inr ⟨rfl, rfl⟩, fun b z => absurd z (noA b), e0.bs, e0.bsz, fun b _ _ => noA b, fun b z => absurd z (noA b), e0.funs, e0.frf⟩,
    rfl, e0.bare, Un.kept hk, ⟨_, x.toInCall.ns, fun i y v h1 h2 h3 => ?_⟩, fun y c h => ⟨_, x.cell y c h⟩, e0.hok.fresh (Nat.le_refl _), fun y c h => ?_, fun p hp => absurd (show p ∈ ([] : List (Addr × Obj)) from hp) (by simp), e0.hok.kept hk, ?_⟩
  · exact name_of_addr x.apart (PySem.mem_of_lookup h1) (PySem.mem_of_lookup h2)
  · have hy : scope.names.lookup y = some .cell ∨ scope.names.lookup y = some .free := hy
    rcases hy with hy | hy
    · exact cell_has hy
    · exact absurd rfl (S.nofree _ (PySem.mem_of_lookup hy))
  · exact Nat.le_of_lt (x.above y c (PySem.mem_of_lookup h))
  · have hi : i < vs.length := by
      unfold start at h2
      by_cases hi : i < vs.length
      · exact hi
      · rw [List.getElem?_append_right (by simpa using hi)] at h2
        rw [List.getElem?_replicate] at h2
        split at h2 <;> cases h2
    have ha : vs[i]? = some v := by
      unfold start at h2
      rw [List.getElem?_append_left (by simpa using hi), List.getElem?_map] at h2
      cases e : vs[i]? with
      | none => rw [e] at h2; cases h2
      | some a => rw [e] at h2; cases h2; rfl
    obtain ⟨u, hu, rv⟩ := r.get ha
    have hp : ps[i]? = some y := by
      rw [← S.pre, List.getElem?_take_of_lt (by omega)]; exact h1
    have ndP : ps.Nodup := by rw [← S.pre]; exact S.nd.sublist (List.take_sublist _ _)
    refine ⟨u, rv, ?_⟩
    rcases S.par y (List.mem_of_getElem? hp) with k | k
    · exact .inl ⟨k, bindL_get ndP hp hu k⟩
    · obtain ⟨c, e⟩ := cell_has (n := s.heap.objs.size + 1) k
      refine .inr ⟨.inl k, c, e, ?_⟩
      have q := x.cell y c e
      rw [bindC_get ndP hp hu (by show scope.names.lookup y ≠ _; rw [k]; decide)] at q
      exact q
  · exact e0.hok.fresh (Nat.le_of_lt (x.above y c (PySem.mem_of_lookup h)))
  · unfold start
    show _ = N.length
    rw [List.length_append, List.length_map, List.length_replicate]
    omega
theorem fn_of {CX : CXT} {P : Program} {w : World} {K : PySem.W.Frag} {mg : Str → Option Value} {base : Heap} {k : Nat} {f : Addr} {name qual : Str} {params : Arguments} {body : List Stmt} {scope : Scope} {dV kV doc pm cdv ct oc : Value} {an od : Option Addr}
    {osl : Array (Option Value)} {N ps : List Str} {sp : Sp} (lk : K.lookup f = some ⟨oc, od, .func (PySem.W.fnOf name qual params body scope dV kV doc pm an cdv ct), osl⟩) (hcd : PySem.W.codeIn K cdv qual = true) (S : FnScope N ps scope)
    (len : ∀ vs H Q E, sp vs H Q E → vs.length = ps.length)
    (hbody : ∀ (A : Around) (outer : List Env) (s : Shared) (H : Hp) (vs : List V) (Q : VK) (E : XK), Room k (A.deeper (envOfC qual scope s.heap.objs.size f cdv)) → sp vs H Q E →
      ∃ t, PSs (cxOf CX P w K mg base N qual scope f cdv A outer s H E) body t ∧ t { nx := fun _ H' => Q .non H', rt := Q } (start N vs) H) :
    FnOk P w K mg base CX (k + 1) f (PySem.W.fnOf name qual params body scope dV kV doc pm an cdv ct) ps sp := by
  refine ⟨len, fun A outer s H args us vs Q E hr e0 hb r hsp => ?_⟩
  have hl := len _ _ _ _ hsp
  have KX : K.In s.heap := e0.mod.kin.keeps fun b o e => (e0.bs b o e).1
  have lim : s.heap.NoLimit := e0.mod.nolimit.keeps fun b o e => (e0.bs b o e).1
  have hkind : ∀ y ∈ ps.zip us, scope.names.lookup y.1 = some .local ∨ (scope.names.lookup y.1 = some .cell ∧ ((cellsFrom (s.heap.objs.size + 1) scope.names []).lookup y.1).isSome = true) := fun ⟨n, v⟩ hy => by
    rcases S.par n (List.of_mem_zip hy).1 with q | q
    · exact .inl q
    · exact .inr ⟨q, PySem.W.cellsFrom_some _ _ _ (.inl q)⟩
  refine codeAny_call_function hr.depth (KX _ _ lk) rfl S.co S.gen rfl (PySem.W.codeRec_of KX hcd) (hb _ _ _ _ ?_)
  refine wpAny_newFunctionEnv_cells S.kind hkind fun env he s1 x => ?_
  subst he
  refine ⟨lim.keeps x.toInCall.keep, codeAny_func ?_⟩
  obtain ⟨t, ht, hq⟩ := hbody A outer s H vs Q E (hr.deeper _) hsp
  have I : Inv (cxOf CX P w K mg base N qual scope f cdv A outer s H E) [] (start N vs) H s1 := inv_start S hr.hd e0 hl r x
  refine wpAny_mono (ht [] s1 (start N vs) H _ I hq) (fun fl s' hs => ?_) fun e s' hs => hs
  have fin : ∀ {σ' : St} {H' : Hp} {v : V} {u : Value}, Inv (cxOf CX P w K mg base N qual scope f cdv A outer s H E) [] σ' H' s' → RelV v u → Q v H' → CE outer P w H s Q u s' :=
    fun {σ' H' v u} J rv q => ⟨v, H', J.os, J.bare, J.base, J.hok, rv, q⟩
  cases fl with
  | ret u =>
    obtain ⟨v, σ', H', J, rv, q⟩ := hs
    exact fin J rv q
  | next =>
    obtain ⟨σ', H', J, q⟩ := hs
    exact fin (v := V.non) (u := Value.none) J rfl q
  | brk =>
    obtain ⟨_, _, _, q⟩ := hs
    exact False.elim q
  | cont =>
    obtain ⟨_, _, _, q⟩ := hs
    exact False.elim q
section
variable {X : Cx} {x : Str} {p pos : Pos} {e : Expr} {es : List Expr} {t : TA} {id T : String} {r : List V → Hp → VK → Prop}
noncomputable def tCB (r : List V → Hp → VK → Prop) (t : TA) : TE := fun σ H Q => t σ H fun vs H1 => r vs H1 Q
theorem pe_callB (hc : CallR X (.builtin id) r) (hg : Gl X x) (hm : X.mg x = none) (hv : bootBuiltins x = some (.builtin id)) (ha : PA X (e :: es) t) (hn : x ≠ "__name__" := by decide) (hdb : (x == ("__debug__" : Str)) = false := by decide)
    (he : starEach (e :: es) X.env = (false, eval e X.env) :: starEach es X.env := by rfl) (hpl : (backTo pos (starEach es X.env)).any (·.1) = false := by rfl) : PE X (.Call (.Name x p) (e :: es) [] pos) (tCB r t) := by
  intro pins s σ H Q I h
  refine wpAny_Call_Name_kw (ld_blt I hg hm hv ?_ hn hdb)
  exact PyProof.Rows.callWith_builtin1 (thn (ha pos pins s σ H _ I h) fun us s1 ⟨vs, H1, I1, r1, q1⟩ => hc pins s1 σ H1 vs us Q I1 r1 q1) he hpl
theorem pe_callTy (hc : CallR X (.type T) r) (hg : Gl X x) (hm : X.mg x = none) (hv : bootBuiltins x = some (.type T)) (ha : PA X (e :: es) t) (hn : x ≠ "__name__" := by decide) (hdb : (x == ("__debug__" : Str)) = false := by decide)
    (he : starEach (e :: es) X.env = (false, eval e X.env) :: starEach es X.env := by rfl) (hpl : (backTo pos (starEach es X.env)).any (·.1) = false := by rfl) : PE X (.Call (.Name x p) (e :: es) [] pos) (tCB r t) := by
  intro pins s σ H Q I h
  refine wpAny_Call_Name_kw (ld_blt I hg hm hv ?_ hn hdb)
  exact PyProof.Rows.callWith_type1 (thn (ha pos pins s σ H _ I h) fun us s1 ⟨vs, H1, I1, r1, q1⟩ => hc pins s1 σ H1 vs us Q I1 r1 q1) he hpl
end
end L2
namespace HT
open PySem PyProof.Rows
section
open PySem.SeqAt
open PySem.AutoSeq1 (wpAny_loadPart')
open PySem.MeetsSeq PySem.MeetsSeq2 PySem.MeetsSeq3
end
section
variable {prog : Program} {w : World} {A : Around} {E : Value → Shared → Prop} {s : Shared}
noncomputable def sIx (n d : Nat) : Option Int → Nat
  | none => d
  | some v => if v < 0 then (v + (n : Int)).toNat else min v.toNat n
theorem sIx_nat (n d k : Nat) : sIx n d (some (k : Int)) = min k n := by
  show (if (k : Int) < 0 then ((k : Int) + (n : Int)).toNat else min (k : Int).toNat n) = min k n
  rw [if_neg (by omega), Int.toNat_natCast]
end
end HT
namespace L2
open PySem PySem.Spec PyProof.Rows
abbrev TO := St → Hp → (Option Int → Hp → Prop) → Prop
noncomputable def PO (X : Cx) (e : Option Expr) (t : TO) : Prop :=
  ∀ (pins : List (Addr × Obj)) (s : Shared) (σ : St) (H : Hp) (Q : Option Int → Hp → Prop), Inv X pins σ H s → t σ H Q →
    wpAny (model X.prog X.w) X.A (evalPart e X.env) (fun u s' => ∃ o H', Inv X pins σ H' s' ∧ IsPart u o ∧ Q o H') X.xe s
noncomputable def tNoPart : TO := fun _ H Q => Q none H
noncomputable def tPart (t : TE) : TO := fun σ H Q => t σ H fun x H1 => ∃ i, x = .int i ∧ Q (some i) H1
theorem intsAre_of {ns : List Int} : ∀ {us : List Value}, Vals (ns.map V.int) us → IntsAre us ns := by
  induction ns with
  | nil => intro us r; rw [List.map_nil] at r; cases r; exact .nil
  | cons n ns ih =>
    intro us r
    rw [List.map_cons] at r
    cases r with
    | cons r1 r2 =>
      obtain ⟨t, e⟩ := r1
      subst e
      exact .cons n t (ih r2)
section
variable {X : Cx} {e : Expr} {te : TE} {lo hi : Option Expr} {tl th : TO} {pos p2 : Pos}
theorem po_none : PO X none tNoPart := by
  intro pins s σ H Q I h
  rw [evalPart_none]
  exact wpAny_pure ⟨none, H, I, .none, h⟩
theorem po_some (h : PE X e te) : PO X (some e) (tPart te) := by
  intro pins s σ H Q I hw
  rw [evalPart_some]
  refine thn (h pins s σ H _ I hw) fun u s1 ⟨x, H1, I1, r1, q1⟩ => ?_
  obtain ⟨i, rfl, q⟩ := q1
  obtain ⟨t, rfl⟩ := r1
  exact ⟨some i, H1, I1, .int i t, q⟩
noncomputable def SlR (X : Cx) (r : V → Option Int → Option Int → Hp → VK → Prop) : Prop :=
  ∀ (pins : List (Addr × Obj)) (s : Shared) (σ : St) (H : Hp) (x : V) (v vl vu : Value) (lo hi : Option Int) (sl : Addr) (Q : VK), Inv X pins σ H s → RelV x v → s.heap.IsSliceOf sl vl vu .none → IsPart vl lo → IsPart vu hi → r x lo hi H Q →
    ∃ T id, typeLookup (.type T) "__getitem__" = pure (some (.builtin id)) ∧ s.TypeIs v T ∧ wpAny (model X.prog X.w) X.A (getItem v (.ref sl)) (EP X pins σ Q) X.xe s
noncomputable def tSl (r : V → Option Int → Option Int → Hp → VK → Prop) (te : TE) (tl th : TO) : TE := fun σ H Q => te σ H fun x H1 => tl σ H1 fun l H2 => th σ H2 fun u H3 => r x l u H3 Q
theorem pe_slice {r : V → Option Int → Option Int → Hp → VK → Prop} (hr : SlR X r) (he : PE X e te) (hl : PO X lo tl) (hu : PO X hi th) : PE X (.Subscript e (.Slice lo hi none p2) pos) (tSl r te tl th) := by
  intro pins s σ H Q I h
  refine Subscript_ (thn (he pins s σ H _ I h) fun v s1 ⟨x, H1, I1, r1, q1⟩ => ?_)
  refine wpAny_Slice (thn (hl pins s1 σ H1 _ I1 q1) fun vl s2 ⟨l, H2, I2, pl, q2⟩ => thn (hu pins s2 σ H2 _ I2 q2) fun vu s3 ⟨u, H3, I3, pu, q3⟩ => ?_)
  rw [evalPart_none]
  refine wpAny_pure ?_
  have I4 : Inv X pins σ H3 { s3 with heap := s3.heap.push { cls := .type "slice", data := .fields #[vl, vu, .none] } } := I3.kept (t' := s3.toks) fun b ob q => Heap.get?_push_of_some _ q
  obtain ⟨T, id, hT, ht, hg⟩ := hr pins { s3 with heap := s3.heap.push { cls := .type "slice", data := .fields #[vl, vu, .none] } } σ H3 x v vl vu l u s3.heap.objs.size Q I4 r1 (Heap.IsSliceOf.new ..) pl pu q3
  show wpAny (model X.prog X.w) X.A (subscriptTail e (.Slice lo hi none p2) v (.ref s3.heap.objs.size)) (EP X pins σ Q) X.xe { s3 with heap := s3.heap.push { cls := .type "slice", data := .fields #[vl, vu, .none] } }
  exact tail_any (ops := [.ref s3.heap.objs.size, v]) ht hT hg (by with_unfolding_all rfl)
noncomputable def cutV (xs : List V) (lo hi : Option Int) : List V := (xs.drop (HT.sIx xs.length 0 lo)).take (HT.sIx xs.length xs.length hi - HT.sIx xs.length 0 lo)
theorem cutV_length (xs : List V) (lo hi : Option Int) : (cutV xs lo hi).length ≤ xs.length := by
  unfold cutV
  rw [List.length_take, List.length_drop]
  omega
end
noncomputable def ixN (n : Nat) (i : Int) : Option Nat := if 0 ≤ i then (if i < n then some i.toNat else none) else if -(n : Int) ≤ i then some (i + n).toNat else none
noncomputable def atI {α : Type} (xs : List α) (i : Int) : Option α := (ixN xs.length i).bind fun j => xs[j]?
theorem ixN_seq {n : Nat} {i : Int} {j : Nat} (h : ixN n i = some j) : seqIndex? i n = some j ∧ j < n ∧ -(n : Int) ≤ i ∧ i < n := by
  unfold ixN at h
  by_cases h0 : 0 ≤ i
  · rw [if_pos h0] at h
    by_cases h1 : i < n
    · rw [if_pos h1] at h
      have e : i.toNat = j := Option.some.inj h
      exact ⟨by rw [seqIndex_of h0 h1, e], by omega, by omega, h1⟩
    · rw [if_neg h1] at h; cases h
  · rw [if_neg h0] at h
    by_cases h1 : -(n : Int) ≤ i
    · rw [if_pos h1] at h
      have e : (i + n).toNat = j := Option.some.inj h
      exact ⟨by rw [seqIndex_neg (by omega) h1, e], by omega, h1, by omega⟩
    · rw [if_neg h1] at h; cases h
theorem atI_get {α : Type} {xs : List α} {i : Int} {v : α} (h : atI xs i = some v) : ∃ j, seqIndex? i xs.length = some j ∧ xs[j]? = some v ∧ j < xs.length ∧ -(xs.length : Int) ≤ i ∧ i < xs.length := by
  unfold atI at h
  cases e : ixN xs.length i with
  | none => rw [e] at h; cases h
  | some j =>
    rw [e] at h
    obtain ⟨h1, h2, h3, h4⟩ := ixN_seq e
    exact ⟨j, h1, h, h2, h3, h4⟩
theorem atI_nat {α : Type} {xs : List α} {j : Nat} {v : α} (h : xs[j]? = some v) : atI xs (j : Int) = some v := by
  have hj : j < xs.length := (List.getElem?_eq_some_iff.mp h).1
  have e : ixN xs.length (j : Int) = some j := by
    unfold ixN
    rw [if_pos (by omega), if_pos (by omega)]; simp
  unfold atI; rw [e]; exact h
noncomputable def PlainIx (b : Expr) : Prop := ∀ o i, subscripted b false o i = operate [o, i] (getItem o i)
noncomputable def IxR (X : Cx) (r : R2) : Prop :=
  ∀ (value slice : Expr) (pins : List (Addr × Obj)) (s : Shared) (σ : St) (H : Hp) (x y : V) (v u : Value) (Q : VK), Inv X pins σ H s → RelV x v → RelV y u → r x y H Q →
    subscripted slice false v u = operate [v, u] (getItem v u) → wpAny (model X.prog X.w) X.A (subscriptTail value slice v u) (EP X pins σ Q) X.xe s
noncomputable def MtR (X : Cx) (id : String) (r : V → List V → Hp → VK → Prop) : Prop :=
  ∀ (pins : List (Addr × Obj)) (s : Shared) (σ : St) (H : Hp) (x : V) (xs : List V) (v : Value) (us : List Value) (Q : VK), Inv X pins σ H s → RelV x v → Vals xs us → r x xs H Q →
    wpAny (model X.prog X.w) X.A (call (.builtin id) (v :: us)) (EP X pins σ Q) X.xe s
section
variable {X : Cx} {a b : Expr} {ta tb : TE} {pos : Pos}
theorem pe_ix {r : R2} (hr : IxR X r) (ha : PE X a ta) (hb : PE X b tb) (hs : PlainIx b) : PE X (.Subscript a b pos) (tOp r ta tb) := by
  intro pins s σ H Q I h
  exact Subscript_ (binT ha hb I h fun v u s2 x y H2 I2 rx ry q => hr a b pins s2 σ H2 x y v u Q I2 rx ry q (hs _ _))
noncomputable def rIxL (K : PySem.W.Frag) : R2 := fun x y H Q => ∃ p xs i v, x = .ref p ∧ y = .int i ∧ SqL K H p xs ∧ atI xs i = some v ∧ Q v H
noncomputable def rIxT (K : PySem.W.Frag) : R2 := fun x y H Q => ∃ p xs i v, x = .ref p ∧ y = .int i ∧ SqT K H p xs ∧ atI xs i = some v ∧ Q v H
noncomputable def rIxS : R2 := fun x y H Q => ∃ z i c, x = .str z ∧ y = .int i ∧ z.length ≤ sizeLine ∧ atI z.cps.toList i = some c ∧ Q (.str ⟨#[c]⟩) H
theorem ix_list : IxR X (rIxL X.K) := by
  intro value slice pins s σ H x y v u Q I rx ry h hs
  obtain ⟨p, xs, i, z, rfl, rfl, hq, he, q⟩ := h
  cases rx
  obtain ⟨t, rfl⟩ := ry
  obtain ⟨its, r, pl, hz⟩ := I.list hq
  obtain ⟨j, h1, h2, h3, h4, h5⟩ := atI_get he
  obtain ⟨w, ew, rw'⟩ := r.get h2
  have hl := r.length
  have hn := line63
  have fin : EP X pins σ Q w s := ⟨z, H, I, rw', q⟩
  by_cases h0 : 0 ≤ i
  · have hj : i.toNat = j := by
      rw [seqIndex_of h0 h5] at h1
      exact Option.some.inj h1
    exact item_listR pl.isList h0 (by omega) (by rw [hj]; simpa using ew) fin hs
  · have hj : (i + (its.toArray.size : Int)).toNat = j := by
      rw [seqIndex_neg (by omega) h4] at h1
      rw [List.size_toArray, ← hl]
      exact Option.some.inj h1
    exact subscriptTail_builtinR (x := w) pl.isList.typeIs slot_list_getitem.lookup
      (wpAny_getItem_list_neg (Q := fun r s' => r = w ∧ EP X pins σ Q r s') pl.isList (by omega) (by rw [List.size_toArray] <;> omega) (by omega) (by rw [hj]; simpa using ew) ⟨rfl, fin⟩) hs
theorem ix_tup : IxR X (rIxT X.K) := by
  intro value slice pins s σ H x y v u Q I rx ry h hs
  obtain ⟨p, xs, i, z, rfl, rfl, hq, he, q⟩ := h
  cases rx
  obtain ⟨t, rfl⟩ := ry
  obtain ⟨its, r, pl, hz⟩ := I.tuple hq
  obtain ⟨j, h1, h2, h3, h4, h5⟩ := atI_get he
  obtain ⟨w, ew, rw'⟩ := r.get h2
  have hl := r.length
  have hn := line63
  have fin : EP X pins σ Q w s := ⟨z, H, I, rw', q⟩
  exact subscriptTail_builtinR (x := w) pl.typeIs slot_tuple_getitem.lookup
    (getItem_tuple (j := j) (Q := fun r s' => r = w ∧ EP X pins σ Q r s') pl (by omega) (by omega) (by rw [List.size_toArray, ← hl]; exact h1) (by simpa using ew) ⟨rfl, fin⟩) hs
theorem ix_str : IxR X rIxS := by
  intro value slice pins s σ H x y v u Q I rx ry h hs
  obtain ⟨z, i, c, rfl, rfl, hz, he, q⟩ := h
  obtain ⟨t, rfl⟩ := rx
  obtain ⟨t', rfl⟩ := ry
  obtain ⟨j, h1, h2, h3, h4, h5⟩ := atI_get he
  have hl : z.cps.toList.length = z.length := by simp [Str.length]
  rw [hl] at h1 h4 h5
  have hn := line63
  exact tail_any (typeIs_str s z t) slot_str_getitem.lookup (getItem_str (c := c) (by
    have e1 : decide (i < -(2 ^ 63 : Int)) = false := decide_eq_false (by omega)
    have e2 : decide (i ≥ 2 ^ 63) = false := decide_eq_false (by omega)
    rw [e1, e2, Bool.or_false]) (by rw [h1]; simpa using h2) ⟨.str ⟨#[c]⟩, H, I.tok _, ⟨_, rfl⟩, q⟩) hs
theorem mapSeq_set (its : List Value) (n j : Nat) (u : Value) : Obj.mapSeq (·.setIfInBounds j u) { cls := .type "list", data := .seq its.toArray n } = { cls := .type "list", data := .seq (its.set j u).toArray n } := by
  simp [Obj.mapSeq]
theorem Inv.lst {pins : List (Addr × Obj)} {σ : St} {H : Hp} {s : Shared} {p : Addr} {xs : List V} (I : Inv X pins σ H s) (h : H p = some (.lst xs)) :
    ∃ (its : List Value) (n : Nat), Vals xs its ∧ s.heap.get? p = some { cls := .type "list", data := .seq its.toArray n } ∧ xs.length ≤ sizeLine := by
  obtain ⟨z, its, n, r, e⟩ := I.hok p _ h
  exact ⟨its, n, r, e, z⟩
theorem Inv.lstUpd {pins : List (Addr × Obj)} {σ : St} {H : Hp} {s : Shared} {p : Addr} {xs ys : List V} {its its' : List Value} {n n' : Nat} {f : Obj → Obj} (I : Inv X pins σ H s) (h : H p = some (.lst xs))
    (ho : s.heap.get? p = some { cls := .type "list", data := .seq its.toArray n }) (hf : f { cls := .type "list", data := .seq its.toArray n } = { cls := .type "list", data := .seq its'.toArray n' }) (r : Vals ys its') (hz : ys.length ≤ sizeLine) (t : Nat) :
    Inv X pins σ (upd H p (.lst ys)) { s with heap := s.heap.update p f, toks := t } := by
  have e : (s.heap.update p f).get? p = some { cls := .type "list", data := .seq its'.toArray n' } := by
    rw [Heap.get?_update_self f ho (by rw [hf] <;> rfl), hf]
  refine I.write (x := p) (e := p) (by rw [h]; trivial) (.inl rfl) (fun b u hb q => (Heap.get?_update_other _ _ (Ne.symm hb)).trans q) ⟨_, e⟩ ?_
  exact ⟨hz, its', n', r, e⟩
noncomputable def rSetL : V → V → V → Hp → (Hp → Prop) → Prop := fun o i v H Q => ∃ p xs k j, o = .ref p ∧ i = .int k ∧ H p = some (.lst xs) ∧ ixN xs.length k = some j ∧ Q (upd H p (.lst (xs.set j v)))
theorem set_list : PSet X rSetL := by
  intro pins s σ H o i v ov iv u Q I ro ri rv h
  obtain ⟨p, xs, k, j, rfl, rfl, hp, hj, q⟩ := h
  cases ro
  obtain ⟨t, rfl⟩ := ri
  obtain ⟨its, n, r, ho, hz⟩ := I.lst hp
  obtain ⟨h1, h2, h3, h4⟩ := ixN_seq hj
  have hl := r.length
  have hn := line63
  have I' : Inv X pins σ (upd H p (.lst (xs.set j v))) { s with heap := s.heap.update p (Obj.mapSeq (·.setIfInBounds j u)) } :=
    I.lstUpd hp ho (mapSeq_set its n j u) (r.set rv j) (by rw [List.length_set]; exact hz) s.toks
  by_cases h0 : 0 ≤ k
  · have hk : k.toNat = j := by
      rw [seqIndex_of h0 h4] at h1
      exact Option.some.inj h1
    exact PySem.W.ki_setAt ho h0 (by omega) (by rw [List.size_toArray, ← hl]; exact h4) (by rw [hk]; exact ⟨_, I', q⟩)
  · have hk : (k + (its.toArray.size : Int)).toNat = j := by
      rw [seqIndex_neg (by omega) h3] at h1
      rw [List.size_toArray, ← hl]
      exact Option.some.inj h1
    exact PySem.W.ki_setBack ho (by omega) (by rw [List.size_toArray, ← hl]; exact h3) (by omega) (by rw [hk]; exact ⟨_, I', q⟩)
theorem slice_bounds (lo hi : Option Int) (n : Nat) : (sliceBounds lo hi none n).1 = ((HT.sIx n 0 lo : Nat) : Int) ∧ (sliceBounds lo hi none n).2.1 = ((HT.sIx n n hi : Nat) : Int) ∧ (sliceBounds lo hi none n).2.2 = 1 := by
  refine ⟨?_, ?_, rfl⟩
  · cases lo with
    | none => simp [sliceBounds, HT.sIx]
    | some i =>
      simp only [sliceBounds, HT.sIx, Option.getD_none, show (1 : Int) > 0 by decide, if_true]
      by_cases h : i < 0
      · simp only [h, if_true] <;> omega
      · simp only [h, if_false] <;> omega
  · cases hi with
    | none => simp [sliceBounds, HT.sIx]
    | some i =>
      simp only [sliceBounds, HT.sIx, Option.getD_none, show (1 : Int) > 0 by decide, if_true]
      by_cases h : i < 0
      · simp only [h, if_true] <;> omega
      · simp only [h, if_false] <;> omega
theorem slicePick_cut (its : List Value) (lo hi : Option Int) : slicePick its.toArray lo hi none = ((its.drop (HT.sIx its.length 0 lo)).take (HT.sIx its.length its.length hi - HT.sIx its.length 0 lo)).toArray := by
  obtain ⟨h1, h2, h3⟩ := slice_bounds lo hi its.toArray.size
  unfold slicePick
  rw [h1, h2, h3]
  simp only [sliceRange_one, pick_run, List.size_toArray] <;> rfl
noncomputable def rSlL (K : PySem.W.Frag) : V → Option Int → Option Int → Hp → VK → Prop := fun x lo hi H Q => ∃ a xs, x = .ref a ∧ SqL K H a xs ∧ ∀ p, H p = none → Q (.ref p) (upd H p (.lst (cutV xs lo hi)))
theorem sl_list : SlR X (rSlL X.K) := by
  intro pins s σ H x v vl vu lo hi sl Q I rx hs pl pu h
  obtain ⟨a, xs, rfl, hx, q⟩ := h
  cases rx
  obtain ⟨its, r, ht, hz⟩ := I.list hx
  have hlen := r.length
  refine ⟨"list", _, slot_list_getitem.lookup, ht.isList.typeIs, ?_⟩
  refine wpAny_getItem_list_slice ht.isList hs pl pu .none (by simp) ?_ (by rw [List.size_toArray] <;> omega)
  rw [slicePick_cut, ← hlen]
  refine ⟨.ref s.heap.objs.size, _, I.laid (t' := s.toks) (o := .lst (cutV xs lo hi)) (fun b ob q => Heap.get?_push_of_some _ q) (Nat.le_refl _) ?_, rfl, q _ (I.hok.fresh (Nat.le_refl _))⟩
  exact ⟨Nat.le_trans (cutV_length xs lo hi) hz, _, 0, (r.drop (HT.sIx xs.length 0 lo)).take (HT.sIx xs.length xs.length hi - HT.sIx xs.length 0 lo), Heap.get?_push_size _ rfl⟩
noncomputable def flatV : V → Bool
  | .non => true
  | .bl _ => true
  | .int _ => true
  | .str _ => true
  | _ => false
noncomputable def eqV : V → V → Bool
  | .non, .non => true
  | .bl a, .bl b => a == b
  | .bl a, .int b => (if a then 1 else 0) == b
  | .int a, .bl b => a == (if b then 1 else 0)
  | .int a, .int b => a == b
  | .str a, .str b => a == b
  | _, _ => false
theorem eqAt_V {A : Around} {s : Shared} {y x : V} {u v : Value} (ry : RelV y u) (rx : RelV x v) (fy : flatV y = true) (fx : flatV x = true) : SeqAt.EqAt A s u v (eqV y x) := by
  cases y with
  | non =>
    cases ry
    cases x with
    | non => cases rx; exact SeqAt.EqAt.same _
    | bl b => cases rx; exact SeqAt.EqAt.none_bool b
    | int b => obtain ⟨t, rfl⟩ := rx; exact SeqAt.EqAt.none_int b t
    | str b => obtain ⟨t, rfl⟩ := rx; exact SeqAt.EqAt.none_str b t
    | _ => exact absurd (show false = true from fx) Bool.false_ne_true
  | bl a =>
    cases ry
    cases x with
    | non => cases rx; exact SeqAt.EqAt.bool_none a
    | bl b => cases rx; exact SeqAt.EqAt.bool_bool a b
    | int b => obtain ⟨t, rfl⟩ := rx; exact SeqAt.EqAt.bool_int a b t
    | str b => obtain ⟨t, rfl⟩ := rx; exact SeqAt.EqAt.bool_str a b t
    | _ => exact absurd (show false = true from fx) Bool.false_ne_true
  | int a =>
    obtain ⟨t', rfl⟩ := ry
    cases x with
    | non => cases rx; exact SeqAt.EqAt.int_none a t'
    | bl b => cases rx; exact SeqAt.EqAt.int_bool a t' b
    | int b => obtain ⟨t, rfl⟩ := rx; exact SeqAt.EqAt.int_int a t' b t
    | str b => obtain ⟨t, rfl⟩ := rx; exact SeqAt.EqAt.int_str a t' b t
    | _ => exact absurd (show false = true from fx) Bool.false_ne_true
  | str a =>
    obtain ⟨t', rfl⟩ := ry
    cases x with
    | non => cases rx; exact SeqAt.EqAt.str_none a t'
    | bl b => cases rx; exact SeqAt.EqAt.str_bool a t' b
    | int b => obtain ⟨t, rfl⟩ := rx; exact SeqAt.EqAt.str_int a t' b t
    | str b => obtain ⟨t, rfl⟩ := rx; exact SeqAt.EqAt.str_str a t' b t
    | _ => exact absurd (show false = true from fx) Bool.false_ne_true
  | _ => exact absurd (show false = true from fy) Bool.false_ne_true
noncomputable def eqU (x : V) (u : Value) : Bool := match u with
  | .none => eqV .non x
  | .bool b => eqV (.bl b) x
  | .int i _ => eqV (.int i) x
  | .str z _ => eqV (.str z) x
  | _ => false
theorem eqU_of {x y : V} {u : Value} (r : RelV y u) (f : flatV y = true) : eqU x u = eqV y x := by
  cases y with
  | non => cases r; rfl
  | bl b => cases r; rfl
  | int i => obtain ⟨t, rfl⟩ := r; rfl
  | str z => obtain ⟨t, rfl⟩ := r; rfl
  | _ => exact absurd (show false = true from f) Bool.false_ne_true
theorem any_eqU {x : V} : ∀ {xs : List V} {us : List Value}, Vals xs us → xs.all flatV = true → us.any (eqU x) = xs.any fun y => eqV y x
  | _, _, .nil, _ => rfl
  | y :: xs, u :: us, .cons r t, f => by
    rw [List.all_cons, Bool.and_eq_true] at f
    rw [List.any_cons, List.any_cons, eqU_of r f.1, any_eqU t f.2]
theorem mem_eqAt {A : Around} {s : Shared} {x : V} {v : Value} (rx : RelV x v) (fx : flatV x = true) : ∀ {xs : List V} {us : List Value}, Vals xs us → xs.all flatV = true → ∀ u ∈ us, SeqAt.EqAt A s u v (eqU x u)
  | _, _, .nil, _ => fun u hu => by cases hu
  | y :: xs, u :: us, .cons r t, f => fun u' hu => by
    rw [List.all_cons, Bool.and_eq_true] at f
    rcases List.mem_cons.mp hu with rfl | hu
    · rw [eqU_of r f.1]; exact eqAt_V r rx f.1 fx
    · exact mem_eqAt rx fx t f.2 u' hu
noncomputable def inV (x : V) (xs : List V) : Bool := xs.any fun y => eqV y x
noncomputable def rIn (K : PySem.W.Frag) (neg : Bool) : R2 := fun x y H Q => ∃ p xs, y = .ref p ∧ (SqL K H p xs ∨ SqT K H p xs) ∧ flatV x = true ∧ xs.all flatV = true ∧ Q (.bl (if neg then !inV x xs else inV x xs)) H
theorem op_in_seq : OpR X (compareOp .In) (rIn X.K false) := by
  intro pins s σ H x y v u Q I rx ry h
  obtain ⟨p, xs, rfl, hq, fx, fs, q⟩ := h
  cases ry
  rcases hq with hq | hq
  · obtain ⟨its, r, pl, hz⟩ := I.list hq
    refine SeqAt.in_listAt (eqU x) pl.isList (fun w hw => mem_eqAt rx fx r fs w (by simpa using hw)) ⟨.bl _, H, I, rfl, ?_⟩
    rw [show its.toArray.any (eqU x) = its.any (eqU x) by simp, any_eqU r fs]
    exact q
  · obtain ⟨its, r, pl, hz⟩ := I.tuple hq
    refine SeqAt.in_tupleAt (eqU x) pl (fun w hw => mem_eqAt rx fx r fs w (by simpa using hw)) ⟨.bl _, H, I, rfl, ?_⟩
    rw [show its.toArray.any (eqU x) = its.any (eqU x) by simp, any_eqU r fs]
    exact q
theorem call_len_seq : CallR X (.builtin "len") (fun xs H Q => ∃ p ys, xs = [.ref p] ∧ (SqL X.K H p ys ∨ SqT X.K H p ys) ∧ Q (.int ys.length) H) := by
  intro pins s σ H xs us Q I r h
  obtain ⟨p, ys, rfl, hq, q⟩ := h
  obtain ⟨u, rfl, rx⟩ := vals1 r
  cases rx
  have hn := line63
  rcases hq with hq | hq
  · obtain ⟨its, r', pl, hz⟩ := I.list hq
    have hlen := r'.length
    exact Calls.call_len_list pl.isList (by simp only [List.size_toArray] <;> omega) ⟨.int ys.length, H, I.tok _, ⟨s.toks + 1, by rw [List.size_toArray, hlen]⟩, q⟩
  · obtain ⟨its, r', pl, hz⟩ := I.tuple hq
    have hlen := r'.length
    exact len_tuple pl (by simp only [List.size_toArray] <;> omega) ⟨.int ys.length, H, I.tok _, ⟨s.toks + 1, by rw [List.size_toArray, hlen]⟩, q⟩
theorem call_len_str : CallR X (.builtin "len") (fun xs H Q => ∃ z, xs = [.str z] ∧ z.length ≤ sizeLine ∧ Q (.int z.length) H) := by
  intro pins s σ H xs us Q I r h
  obtain ⟨z, rfl, hz, q⟩ := h
  obtain ⟨u, rfl, t, rfl⟩ := vals1 r
  have hn := line63
  exact len_str (by omega) ⟨.int z.length, H, I.tok _, ⟨_, rfl⟩, q⟩
theorem call_list_of : CallR X (.type "list") (fun xs H Q => ∃ p ys, xs = [.ref p] ∧ (SqL X.K H p ys ∨ SqT X.K H p ys) ∧ ∀ l, H l = none → Q (.ref l) (upd H l (.lst ys))) := by
  intro pins s σ H xs us Q I r h
  obtain ⟨p, ys, rfl, hq, q⟩ := h
  obtain ⟨u, rfl, rx⟩ := vals1 r
  cases rx
  have fin : ∀ (its : List Value), Vals ys its → ys.length ≤ sizeLine → ∀ (h' : Heap) (c' : Nat), (∀ b o', s.heap.get? b = some o' → h'.get? b = some o') →
      h'.get? s.heap.objs.size = some { cls := .type "list", dict := none, data := .seq its.toArray c', slots := #[] } → EP X pins σ Q (.ref s.heap.objs.size) { s with heap := h' } := fun its r' hz h' c' kp e =>
    ⟨.ref s.heap.objs.size, _, I.laid (t' := s.toks) kp (Nat.le_refl _) (show ObjOk X.prog X.w _ h' _ (.lst ys) from ⟨hz, its, c', r', e⟩), rfl, q _ (I.hok.fresh (Nat.le_refl _))⟩
  rcases hq with hq | hq
  · obtain ⟨its, r', pl, hz⟩ := I.list hq
    have hlen := r'.length
    obtain ⟨o, ho, hc, n, hd⟩ := pl.isList
    exact call_list_seq p (.inl rfl) ho hc hd (fun h' c' kp e => fin its r' hz h' c' kp e) (by simp only [List.size_toArray] <;> omega)
  · obtain ⟨its, r', pl, hz⟩ := I.tuple hq
    have hlen := r'.length
    obtain ⟨o, ho, hc, n, hd⟩ := pl
    exact call_list_seq p (.inr rfl) ho hc hd (fun h' c' kp e => fin its r' hz h' c' kp e) (by simp only [List.size_toArray] <;> omega)
noncomputable def tyV (K : PySem.W.Frag) (T : String) (x : V) (H : Hp) : Prop := match x with
  | .str _ => T = "str"
  | .int _ => T = "int"
  | .ref p => (T = "list" ∧ ∃ xs, SqL K H p xs) ∨ (T = "tuple" ∧ ∃ o, K.lookup p = some o ∧ o.cls = .type "tuple" ∧ o.dict = none) ∨
      (T = "dict" ∧ ((∃ kvs, H p = some (.dK kvs)) ∨ ∃ kvs, H p = some (.dT kvs))) ∨ (T = "set" ∧ ∃ S n, H p = some (.set S n))
  | _ => False
theorem tyV_is {pins : List (Addr × Obj)} {σ : St} {H : Hp} {s : Shared} {T : String} {x : V} {v : Value} (I : Inv X pins σ H s) (r : RelV x v) (ty : tyV X.K T x H) :
    s.TypeIs v T ∧ ∀ a, v = .ref a → ∃ ob, s.heap.get? a = some ob ∧ ob.dict = none := by
  cases x with
  | str z =>
    obtain ⟨t, rfl⟩ := r
    cases (show T = "str" from ty)
    exact ⟨typeIs_str s z t, fun _ e => nomatch e⟩
  | int i =>
    obtain ⟨t, rfl⟩ := r
    cases (show T = "int" from ty)
    exact ⟨typeIs_int s i t, fun _ e => nomatch e⟩
  | ref p =>
    cases r
    rcases ty with ⟨rfl, xs, hq⟩ | ⟨rfl, o, hk, hc, hd⟩ | ⟨rfl, hk⟩ | ⟨rfl, S, n, hk⟩
    · obtain ⟨its, _, pl, _⟩ := I.list hq
      refine ⟨pl.isList.typeIs, fun a e => ?_⟩
      cases e
      obtain ⟨o, n, e, c, hd, _⟩ := pl
      exact ⟨o, e, hd⟩
    · refine ⟨⟨o, I.kIn p o hk, hc⟩, fun a e => ?_⟩
      cases e
      exact ⟨o, I.kIn _ o hk, hd⟩
    · have z : ∃ o, s.heap.get? p = some o ∧ o.ExactDict := by
        rcases hk with ⟨kvs, hk⟩ | ⟨kvs, hk⟩
        · obtain ⟨_, _, _, _, o, _, _, e, ex, _⟩ := I.hok p _ hk
          exact ⟨o, e, ex⟩
        · obtain ⟨_, _, _, _, o, _, _, e, ex, _⟩ := I.hok p _ hk
          exact ⟨o, e, ex⟩
      obtain ⟨o, e, ex⟩ := z
      refine ⟨⟨o, e, ex.1⟩, fun a e2 => ?_⟩
      cases e2
      exact ⟨o, e, ex.2.1⟩
    · obtain ⟨o, _, _, _, e, ex, _⟩ := I.hok p _ hk
      refine ⟨⟨o, e, ex.1⟩, fun a e2 => ?_⟩
      cases e2
      exact ⟨o, e, ex.2.1⟩
  | _ => exact False.elim ty
noncomputable def tBM0 (K : PySem.W.Frag) (T : String) (r : V → List V → Hp → VK → Prop) (to : TE) : TE := fun σ H Q => to σ H fun x H1 => tyV K T x H1 ∧ r x [] H1 Q
noncomputable def tBM (K : PySem.W.Frag) (T : String) (r : V → List V → Hp → VK → Prop) (to : TE) (t : TA) : TE := fun σ H Q => to σ H fun x H1 => tyV K T x H1 ∧ t σ H1 fun xs H2 => r x xs H2 Q
variable {o e : Expr} {es : List Expr} {to : TE} {t : TA} {name : Str} {apos cpos : Pos} {T id : String} {r : V → List V → Hp → VK → Prop}
theorem pe_bm0 (pa : PlainAttrs T) (slot : Slot T name id) (hty : typeOf (.builtin id) = pure (.type "method_descriptor")) (hm : MtR X id r) (ho : PE X o to)
    (hbase : attributeBase o name X.env (eval o X.env) = eval o X.env := by rfl) (hline : (apos.endLine == cpos.line) = true := by rfl) : PE X (.Call (.Attribute o name apos) [] [] cpos) (tBM0 X.K T r to) := by
  intro pins s σ H Q I h
  refine wpAny_Call_method0_late hbase hline (thn (ho pins s σ H _ I h) fun v s1 ⟨x, H1, I1, r1, ty, q1⟩ => ?_)
  obtain ⟨h1, h2⟩ := tyV_is I1 r1 ty
  exact ⟨T, id, pa, slot, hty, h1, h2, Calls.callWith_builtin rfl (PySem.evalArgs_none (hm pins s1 σ H1 x [] v [] Q I1 r1 .nil q1))⟩
theorem pe_bm (pa : PlainAttrs T) (slot : Slot T name id) (hty : typeOf (.builtin id) = pure (.type "method_descriptor")) (hm : MtR X id r) (ho : PE X o to) (ha : PA X (e :: es) t)
    (hbase : attributeBase o name X.env (eval o X.env) = eval o X.env := by rfl)
    (hfew : ((backTo cpos (starEach (e :: es) X.env)).all (fun x => !x.1) && (backToKw cpos (keywordEach [] X.env)).all (fun x => x.1.isSome)
      && decide ((e :: es).length + ([] : List Keyword).length + (if ([] : List Keyword).isEmpty then 0 else 1) < 30)) = true := by rfl)
    (hline : (apos.endLine == cpos.line) = true := by rfl) (hs : starEach (e :: es) X.env = (false, eval e X.env) :: starEach es X.env := by rfl) (hplain : (backTo cpos (starEach es X.env)).any (·.1) = false := by rfl) :
    PE X (.Call (.Attribute o name apos) (e :: es) [] cpos) (tBM X.K T r to t) := by
  intro pins s σ H Q I h
  refine wpAny_Call_method_late hbase hfew hline rfl (thn (ho pins s σ H _ I h) fun v s1 ⟨x, H1, I1, r1, ty, q1⟩ => ?_)
  obtain ⟨h1, h2⟩ := tyV_is I1 r1 ty
  refine ⟨T, id, pa, slot, hty, h1, h2, ?_⟩
  have hA := ha cpos pins s1 σ H1 _ I1 q1
  rw [hs] at hA ⊢
  refine Calls.callWith_builtin (by show (false || (backTo cpos (starEach es X.env)).any (·.1)) = false; rw [hplain] <;> rfl) (Calls.evalArgs_plain ?_)
  exact thn hA fun us s2 ⟨vs, H2, I2, r2, q2⟩ => hm pins s2 σ H2 x vs v us Q I2 r1 r2 q2
end
noncomputable def MtM (X : Cx) (id : String) (r : V → List V → Hp → VK → Prop) : Prop :=
  ∀ (pins : List (Addr × Obj)) (s : Shared) (σ : St) (H : Hp) (x : V) (xs : List V) (v : Value) (us : List Value) (Q : VK), Inv X pins σ H s → RelV x v → Vals xs us → r x xs H Q →
    wpAny (model X.prog X.w) X.A (call (.builtin id) (v :: us)) (EP X pins σ Q) X.xe s
theorem Vals.one : ∀ {x : V} {us : List Value}, Vals [x] us → ∃ u, us = [u] ∧ RelV x u
  | _, _, .cons r .nil => ⟨_, rfl, r⟩
theorem Vals.two : ∀ {x y : V} {us : List Value}, Vals [x, y] us → ∃ u v, us = [u, v] ∧ RelV x u ∧ RelV y v
  | _, _, _, .cons r (.cons q .nil) => ⟨_, _, rfl, r, q⟩
theorem Vals.eraseIdx : ∀ {xs : List V} {us : List Value} (i : Nat), Vals xs us → Vals (xs.eraseIdx i) (us.eraseIdx i)
  | _, _, _, .nil => .nil
  | _, _, 0, .cons _ t => t
  | _, _, i + 1, .cons r t => .cons r (Vals.eraseIdx i t)
theorem Vals.rep {xs : List V} {us : List Value} (h : Vals xs us) : ∀ k : Nat, Vals (List.replicate k xs).flatten (List.replicate k us).flatten
  | 0 => .nil
  | k + 1 => by
    rw [List.replicate_succ, List.replicate_succ, List.flatten_cons, List.flatten_cons]
    exact Vals.append h (Vals.rep h k)
theorem len_erase {α : Type} : ∀ (l : List α) (i : Nat), (l.eraseIdx i).length ≤ l.length
  | [], _ => Nat.le_refl _
  | _ :: _, 0 => Nat.le_succ _
  | _ :: r, i + 1 => Nat.succ_le_succ (len_erase r i)
theorem foldl_rep (its : List Value) : ∀ (k : Nat) (acc : List Value),
    List.foldl (fun x1 x2 => x1 ++ x2) acc.toArray (List.replicate k its.toArray) = (acc ++ (List.replicate k its).flatten).toArray
  | 0, acc => by simp
  | k + 1, acc => by
    have e : acc.toArray ++ its.toArray = (acc ++ its).toArray := by simp
    have e2 : (acc ++ its) ++ (List.replicate k its).flatten = acc ++ (List.replicate (k + 1) its).flatten := by
      rw [List.replicate_succ, List.flatten_cons, List.append_assoc]
    rw [← e2, ← foldl_rep its k (acc ++ its), ← e, List.replicate_succ, List.foldl_cons]
section
variable {X : Cx} {pins : List (Addr × Obj)} {σ : St} {H : Hp} {s : Shared} {l b : Addr} {xs ys zs : List V}
theorem Inv.lset {its its' : List Value} {n : Nat} {f : Array Value → Array Value} {t' : Nat} (I : Inv X pins σ H s) (hH : H l = some (.lst xs))
    (e : s.heap.get? l = some { cls := .type "list", data := .seq its.toArray n }) (hf : f its.toArray = its'.toArray) (hv : Vals ys its') (hz : ys.length ≤ sizeLine) :
    Inv X pins σ (upd H l (.lst ys)) { s with heap := s.heap.update l (Obj.mapSeq f), toks := t' } := by
  have q := PySem.IsL.update e f
  rw [hf] at q
  refine I.write (x := l) (e := l) (by rw [hH]; exact trivial) (.inl rfl) (fun b' u hb hu => (Heap.get?_update_other s.heap (Obj.mapSeq f) (Ne.symm hb)).trans hu) ⟨_, q⟩ ?_
  exact ⟨hz, its', _, hv, q⟩
theorem Inv.lnew {its : List Value} {t' : Nat} (I : Inv X pins σ H s) (hv : Vals ys its) (hz : ys.length ≤ sizeLine) :
    Inv X pins σ (upd H s.heap.objs.size (.lst ys)) { s with heap := s.heap.push { cls := .type "list", data := .seq its.toArray }, toks := t' } :=
  I.laid (fun _ _ q => Heap.get?_push_of_some _ q) (Nat.le_refl _) ⟨hz, its, 0, hv, Heap.get?_push_size _ rfl⟩
theorem Inv.fresh (I : Inv X pins σ H s) : H s.heap.objs.size = none := I.hok.fresh (Nat.le_refl _)
theorem Inv.lstM (I : Inv X pins σ H s) (hH : H l = some (.lst xs)) : xs.length ≤ sizeLine ∧ ∃ (its : List Value) (n : Nat), Vals xs its ∧ xs.length = its.length ∧ s.heap.get? l = some { cls := .type "list", data := .seq its.toArray n } := by
  obtain ⟨z, its, n, r, e⟩ := I.hok l _ hH
  exact ⟨z, its, n, r, r.length, e⟩
theorem notLongL {n : Nat} (h : n ≤ sizeLine) : Builtin.List.listTooLong n = false := by
  unfold Builtin.List.listTooLong
  exact decide_eq_false (by omega)
end
section
variable {X : Cx}
noncomputable def rAppend : V → List V → Hp → VK → Prop := fun x vs H Q => ∃ l xs y, x = .ref l ∧ vs = [y] ∧ H l = some (.lst xs) ∧ xs.length < sizeLine ∧ Q .non (upd H l (.lst (xs ++ [y])))
theorem mt_append : MtM X "list.append" rAppend := by
  intro pins s σ H x vs v us Q I rx rv h
  obtain ⟨l, xs, y, rfl, rfl, hH, hz, q⟩ := h
  cases rx
  obtain ⟨u, rfl, ru⟩ := rv.one
  obtain ⟨z, its, n, r, hl, e⟩ := I.lstM hH
  refine call_meets F.slot_list_append ⟨_, e, rfl⟩ F.entry_list_append (F.args_list_append_2 _ _) (PySem.list_append l its.toArray n u (by rw [List.size_toArray]; omega)) ⟨e, ?_⟩
  refine ⟨.non, _, I.lset (its' := its ++ [u]) hH e (by simp) (r.append (.cons ru .nil)) ?_, rfl, q⟩
  rw [List.length_append, List.length_singleton]
  omega
noncomputable def rExtend : V → List V → Hp → VK → Prop := fun x vs H Q => ∃ l b xs zs, x = .ref l ∧ vs = [.ref b] ∧ H l = some (.lst xs) ∧ H b = some (.lst zs) ∧ xs.length + zs.length ≤ sizeLine ∧ Q .non (upd H l (.lst (xs ++ zs)))
theorem mt_extend : MtM X "list.extend" rExtend := by
  intro pins s σ H x vs v us Q I rx rv h
  obtain ⟨l, b, xs, zs, rfl, rfl, hH, hB, hz, q⟩ := h
  cases rx
  obtain ⟨u, rfl, ru⟩ := rv.one
  cases ru
  obtain ⟨z, its, n, r, hl, e⟩ := I.lstM hH
  obtain ⟨z2, its2, n2, r2, hl2, e2⟩ := I.lstM hB
  have hsz : its.toArray.size + its2.toArray.size ≤ sizeLine := by rw [List.size_toArray, List.size_toArray]; omega
  have hlong : ¬ (!its.toArray.isEmpty && Builtin.List.listTooLong (its.toArray.size + its2.toArray.size)) = true := by
    rw [notLongL hsz, Bool.and_false]
    exact Bool.false_ne_true
  refine call_meets F.slot_list_extend ⟨_, e, rfl⟩ F.entry_list_extend (F.args_list_extend_2 _ _)
    (AutoSeq1.list_extend_list_list_0 l its.toArray n b its2.toArray n2 hlong (by rw [List.size_toArray]; omega) (by omega)) ⟨e, e2, ?_⟩
  refine ⟨.non, _, I.lset (its' := its ++ its2) hH e (by simp) (r.append r2) ?_, rfl, q⟩
  rw [List.length_append]
  omega
noncomputable def rPopAt : V → List V → Hp → VK → Prop := fun x vs H Q => ∃ l xs i k y, x = .ref l ∧ vs = [.int i] ∧ H l = some (.lst xs) ∧ -(2 ^ 63) ≤ i ∧ i < 2 ^ 63 ∧ seqIndex? i xs.length = some k ∧ xs[k]? = some y ∧ Q y (upd H l (.lst (xs.eraseIdx k)))
theorem mt_popAt : MtM X "list.pop" rPopAt := by
  intro pins s σ H x vs v us Q I rx rv h
  obtain ⟨l, xs, i, k, y, rfl, rfl, hH, h1, h2, hk, hy, q⟩ := h
  cases rx
  obtain ⟨u, rfl, ru⟩ := rv.one
  obtain ⟨t, rfl⟩ := ru
  obtain ⟨z, its, n, r, hl, e⟩ := I.lstM hH
  obtain ⟨w, hw, rw'⟩ := r.get hy
  refine call_meets F.slot_list_pop ⟨_, e, rfl⟩ F.entry_list_pop (F.args_list_pop_2 _ _)
    (MeetsSeq.list_pop_at l its.toArray n i t k w (fitsIndex_both h1 h2) (by rw [List.size_toArray, ← hl]; exact hk) (by rw [← Array.getElem?_toList]; exact hw) (by rw [List.size_toArray]; omega)) ⟨e, ?_⟩
  refine ⟨y, _, I.lset (its' := its.eraseIdx k) hH e ?_ (r.eraseIdx k) ?_, rw', q⟩
  · show its.toArray.eraseIdxIfInBounds k = (its.eraseIdx k).toArray
    rw [List.eraseIdxIfInBounds_toArray]
  · have := len_erase xs k
    omega
noncomputable def rCat : R2 := fun x y H Q => ∃ l b xs zs, x = .ref l ∧ y = .ref b ∧ H l = some (.lst xs) ∧ H b = some (.lst zs) ∧ xs.length + zs.length ≤ sizeLine ∧ ∀ p, H p = none → Q (.ref p) (upd H p (.lst (xs ++ zs)))
theorem op_cat : OpR X (binaryOp .Add) rCat := by
  intro pins s σ H x y v u Q I rx ry h
  obtain ⟨l, b, xs, zs, rfl, rfl, hH, hB, hz, q⟩ := h
  cases rx
  cases ry
  obtain ⟨z, its, n, r, hl, e⟩ := I.lstM hH
  obtain ⟨z2, its2, n2, r2, hl2, e2⟩ := I.lstM hB
  refine PySem.P.add_list e e2 ?_ (by rw [List.size_toArray, List.size_toArray]; omega)
  have ea : its.toArray ++ its2.toArray = (its ++ its2).toArray := by simp
  rw [ea]
  exact ⟨.ref _, _, I.lnew (t' := s.toks) (r.append r2) (by rw [List.length_append]; omega), rfl, q _ I.fresh⟩
noncomputable def rRep : R2 := fun x y H Q => ∃ l k xs, x = .ref l ∧ y = .int k ∧ H l = some (.lst xs) ∧ -(2 ^ 63) ≤ k ∧ k < 2 ^ 63 ∧ xs.length * k.toNat ≤ sizeLine ∧
  ∀ p, H p = none → Q (.ref p) (upd H p (.lst (List.replicate k.toNat xs).flatten))
theorem len_rep {α : Type} (xs : List α) (k : Nat) : (List.replicate k xs).flatten.length = k * xs.length := by
  induction k with
  | zero => simp
  | succ k ih => rw [List.replicate_succ, List.flatten_cons, List.length_append, ih, Nat.succ_mul, Nat.add_comm]
theorem op_rep : OpR X (binaryOp .Mult) rRep := by
  intro pins s σ H x y v u Q I rx ry h
  obtain ⟨l, k, xs, rfl, rfl, hH, h1, h2, hz, q⟩ := h
  cases rx
  obtain ⟨t, rfl⟩ := ry
  obtain ⟨z, its, n, r, hl, e⟩ := I.lstM hH
  have hlen : its.toArray.size * k.toNat ≤ sizeLine := by rw [List.size_toArray, ← hl]; exact hz
  have hcap : ¬ its.toArray.size * k.toNat > (2 ^ 63 - 1) / 8 := by
    have : (sizeLine : Nat) ≤ (2 ^ 63 - 1) / 8 := by decide
    omega
  have hfit : ¬ (!Builtin.List.listFitsIndex k) = true := by
    rw [fitsIndex_both h1 h2]
    exact Bool.false_ne_true
  have hlong : ¬ Builtin.List.listTooLong (its.toArray.size * k.toNat) = true := by
    rw [notLongL hlen]
    exact Bool.false_ne_true
  have hnew : List.foldl (fun x1 x2 => x1 ++ x2) #[] (List.replicate (if its.toArray.isEmpty = true then 0 else k.toNat) its.toArray) = (List.replicate k.toNat its).flatten.toArray := by
    have f0 : ∀ m : Nat, List.foldl (fun x1 x2 => x1 ++ x2) #[] (List.replicate m its.toArray) = (List.replicate m its).flatten.toArray := fun m => by
      have := foldl_rep its m []
      rw [List.nil_append] at this
      exact this
    rw [f0]
    cases its with
    | nil => simp
    | cons a r' => rw [if_neg (by simp)]
  refine wpAny_binaryOp_repeat_ref (T := "list") (U := "int") (by decide) ⟨_, e, rfl⟩ (fun s' => typeIs_int s' k t) noFill_list_mul F.fills_int_mul F.slot_int_rmul repeat_list F.slot_int_index.lookup
    (call_meets F.slot_int_rmul (typeIs_int s k t) F.entry_int_rmul (F.args_int_rmul_2 _ _) (int___rmul___int_list k t l its.toArray n)
      ⟨e, rfl, ⟨_, e, rfl⟩, call_meets F.slot_list_mul ⟨_, e, rfl⟩ F.entry_list_mul (F.args_list_mul_2 _ _) (AutoListH.list___mul___list_int_3 l its.toArray n k t hfit hcap hlong) ⟨e, ?_⟩⟩)
  rw [hnew]
  exact ⟨.ref _, _, I.lnew (t' := s.toks) (r.rep k.toNat) (by rw [len_rep, Nat.mul_comm]; exact hz), rfl, q _ I.fresh⟩
end
section
variable {prog : Program} {w : World} {A : Around} {E : Value → Shared → Prop} {s : Shared}
end
section
variable {X : Cx}
end
end L2
namespace Att
open PySem PySem.W PySem.Calls PyProof.Rows
theorem ints_of_wellAll {P : Params} {h : Heap} : ∀ (ns : List Int) (vs : List Value), WellAll P h vs (ns.map WData.int) → IntsAre vs ns := by
  intro ns
  induction ns with
  | nil =>
    intro vs w
    rw [List.map_nil] at w
    cases w
    exact .nil
  | cons n ns ih =>
    intro vs w
    rw [List.map_cons] at w
    cases w with
    | cons a b =>
      cases a
      exact .cons _ _ (ih _ b)
theorem script_of {l : OpenLaw} {n : Nat} (hn : l.most = some n) {P : Params} {h : Heap} {args : List WData} {vals : List Value}
    (hpre : l.row.toRowW.claim.pre args = true) (hwl : WellAll P h vals args) :
    ∃ a vs ns, vals = [Value.ref a] ∧ args = [WData.list (ns.map WData.int)] ∧ h.get? a = some { cls := .type "list", data := .seq vs.toArray } ∧ IntsAre vs ns ∧ ns.length ≤ n := by
  have hsh : WShape.hasAll [] args [.list .int] = true := (pre_splitW hpre).1
  have hc : l.pre.holds [] { args := args } = true := (pre_splitW hpre).2
  obtain ⟨d, r, rfl, h1, h2⟩ := hasAllW_cons hsh
  obtain rfl := hasAllW_nil h2
  obtain ⟨xs, rfl, h3⟩ := hasW_list h1
  obtain ⟨ns, rfl⟩ := items_int h3
  have hlen : ns.length ≤ n := by
    unfold OpenLaw.pre at hc
    have h4 : (WTm.not (.lt (.lit (.int (n : Int))) (.len (.arg 0)))).holds [] { args := [.list (ns.map .int)] } = true := by
      have h4 := (holds_andW hc).1
      rw [hn] at h4
      exact h4
    have h5 := condW_of h4 (w_not (w_lt w_lit (w_len_list (w_arg rfl))))
    rw [List.length_map] at h5
    refine Nat.le_of_not_lt fun q => ?_
    have q' : (n : Int) < ((ns.length : Nat) : Int) := by omega
    first
      | (rw [decide_eq_true q'] at h5; exact absurd h5 (by decide))
      | (simp at h5; omega)
  cases hwl with
  | cons w1 w2 =>
    cases w2
    cases w1 with
    | list ho hall => exact ⟨_, _, ns, rfl, rfl, ho, ints_of_wellAll ns _ hall, hlen⟩
theorem post_true (l : OpenLaw) (args : List WData) : l.row.toRowW.claim.post args (.bool true) args = true :=
  postW_of (r := l.row.toRowW) (X := (true == true))
    (show WShape.has [] (.bool true) .bool = true by first | rfl | decide | simp [WShape.has, WShape.arms, WShape.armsAll])
    (show (WTm.eq .res (.lit (.bool true))).value [] { args := args, res := some (.bool true), after := args } = some (.bool (true == true)) from w_eq_bool (w_res rfl) w_lit) rfl
theorem lay_bits {ns : List Int} (h : WData.layableAll [WData.list (ns.map WData.int)] = true) : ∀ x ∈ ns, Builtin.Int.intBits x ≤ 1048576 := by
  have h1 : WData.layable (WData.list (ns.map WData.int)) = true := by
    have h' : (WData.layable (WData.list (ns.map WData.int)) && true) = true := h
    rwa [Bool.and_true] at h'
  unfold WData.layable at h1
  rw [Bool.and_eq_true] at h1
  have h2 := of_decide_eq_true h1.2
  have h3 : WData.weightAll (ns.map WData.int) ≤ 2 ^ 20 := by
    have e : WData.weight (WData.list (ns.map WData.int)) = WData.weightAll (ns.map WData.int) := by simp only [WData.weight]
    rwa [e] at h2
  have h4 : ∀ (l : List Int), ∀ x ∈ l, WData.weight (WData.int x) ≤ WData.weightAll (l.map WData.int) := by
    intro l
    induction l with
    | nil => intro x hx; cases hx
    | cons y r ih =>
      intro x hx
      have e : WData.weightAll ((y :: r).map WData.int) = WData.weight (WData.int y) + 1 + WData.weightAll (r.map WData.int) := by
        rw [List.map_cons]; simp only [WData.weightAll]
      rw [e]
      rcases List.mem_cons.mp hx with z | z
      · subst z; omega
      · have := ih x z; omega
  intro x hx
  have h5 := Nat.le_trans (h4 ns x hx) h3
  have e : WData.weight (WData.int x) = Builtin.Int.intBits x := by
    simp only [WData.weight]
    unfold Builtin.Int.intBits
    by_cases hz : x = 0
    · subst hz; rfl
    · have hb : (x == 0) = false := by simpa using hz
      simp [hz]
  rw [e] at h5
  exact h5
theorem attach_call {l : OpenLaw} {n : Nat} {q : Program} {loose : List Str} {XP : (Str → Option Value) → Heap → Prop} {YP : World → Heap → Prop} {d : DefRec}
    (hn : l.most = some n) (hdf : d.params.defaults = [])
    (call : ∀ (w : World) (s₀ s₁ : Shared) (mg mb : Str → Option Value) (fa : Addr) (o : Obj) (pm cd doc : Value) (a : Addr) (vs : List Value) (ns : List Int),
      Ground q loose [] XP w s₀ mg mb s₁.heap → YP w s₁.heap →
      s₁.heap.get? fa = some o → o.data = .func (docDef d.name d.params d.body d.scope pm cd doc) → s₁.heap.CodeRec cd d.name → mg d.name = some (.ref fa) →
      s₁.heap.get? a = some { cls := .type "list", data := .seq vs.toArray } → IntsAre vs ns → ns.length ≤ n → (∀ x ∈ ns, Builtin.Int.intBits x ≤ 1048576) → s₁.gens = #[] →
      codeAny (model l.prog w) callerA (.call (.ref fa) ⟨[.ref a], []⟩) (fun r s' => r = .ok (.ret (.bool true)) ∧ OldK s₁.heap s'.heap ∧ s'.os = s₁.os ∧ AllBare s'.gens) s₁) :
    WalkO q loose XP YP l.row.toRowW d [] (fun f vs => PySem.call f vs) := by
  intro w s₀ s₁ mg mb G Y fa o pm cd doc dV kV ho hd hcd hD hmg hg args vals as hpre hlay hrd hwl hlo
  obtain rfl : dV = .none := Dflts.none hD hdf
  obtain rfl : kV = .none := Dflts.noKw hD
  obtain ⟨a, vs, ns, rfl, rfl, hobj, hints, hlen⟩ := script_of hn hpre hwl
  refine enter_call (codeAny_mono (call w s₀ s₁ mg mb fa o pm cd doc a vs ns G Y ho (fd_plain hd) hcd hmg hobj hints hlen (lay_bits hlay) hg) fun r s' hq => ?_)
  obtain ⟨rfl, h2, h3, h4⟩ := hq
  exact ⟨.inl ⟨.bool true, .bool true, [], rfl, fun _ => rfl, .bool true, post_true l _, fun _ => ⟨List.Pairwise.nil, fun _ hm => (nomatch hm)⟩⟩, h2, h3, h4⟩
section
variable {prog : Program} {w : World} {A : Around} {E : Value → Shared → Prop} {s : Shared} {K : Frag}
end
end Att
namespace L2
open PySem PySem.Spec PyProof.Rows
theorem vals_ints : ∀ {vs : List Value} {ns : List Int}, IntsAre vs ns → Vals (ns.map V.int) vs
  | _, _, .nil => .nil
  | _, _, .cons n t h => .cons ⟨t, rfl⟩ (vals_ints h)
noncomputable def Only (H : Hp) : Prop := ∀ b, H b = none ∨ ∃ o xs, H b = some (.frz o (.lst xs))
theorem law_call {P : Program} {w : World} {K : PySem.W.Frag} {mg mb : Str → Option Value} {CX : CXT} {k : Nat} {fa a : Addr} {fd : FuncData} {x : Str} {sp : Sp} {s₁ : Shared} {vs : List Value} {ns : List Int}
    (KX : K.In s₁.heap) (hns : s₁.heap.Ns mainGlobals mg) (hb : s₁.heap.Ns builtinsNs mb) (hbb : ∀ x : Str, x ≠ "__name__" → mb x = bootBuiltins x) (hlim : s₁.heap.NoLimit) (hsr : s₁.heap.NoSeer) (hg : s₁.gens = #[])
    (ha : s₁.heap.get? a = some { cls := .type "list", data := .seq vs.toArray }) (hi : IntsAre vs ns) (hl : ns.length ≤ sizeLine) (hr : Room k callerA)
    (F : ∀ base : Heap, K.In base → base.Ns mainGlobals mg → FnOk P w K mg base CX k fa fd [x] sp) (hbind : ∀ (s : Shared) (u : Value), BindsTo s fd ⟨[u], []⟩ [(x, u)])
    (hsp : ∀ H : Hp, Only H → SqL K H a (ns.map V.int) → sp [.ref a] H (fun v _ => v = .bl true) fun _ _ _ => False)
    (hCX : ∀ H e s', CX [] H s₁ (fun _ _ _ => False) e s' → False) :
    codeAny (model P w) callerA (.call (.ref fa) ⟨[.ref a], []⟩) (fun r s' => r = .ok (.ret (.bool true)) ∧ OldK s₁.heap s'.heap ∧ s'.os = s₁.os ∧ AllBare s'.gens) s₁ := by
  have rv := vals_ints hi
  have lenV := hi.length
  have core : ∀ H : Hp, Only H → SqL K H a (ns.map V.int) → HOk P w H s₁.heap → (∀ b, H b ≠ none → b = a) → (H a ≠ none → K.lookup a = none) →
      codeAny (model P w) callerA (.call (.ref fa) ⟨[.ref a], []⟩) (fun r s' => r = .ok (.ret (.bool true)) ∧ OldK s₁.heap s'.heap ∧ s'.os = s₁.os ∧ AllBare s'.gens) s₁ := by
    intro H hO hS hok hA hK
    have base_of : ∀ {b : Addr} {o : Obj}, s₁.heap.get? b = some o → H b = none → (hidT s₁.heap H).get? b = some o := fun e n => hidT_get e n
    have noA : ∀ {b : Addr} {o : Obj} {es : Array DictEntry} {ep : Nat}, s₁.heap.get? b = some o → o.data = .dict es ep → H b = none := fun {b o es ep} e d => by
      cases q : H b with
      | none => rfl
      | some u =>
        have e' : b = a := hA b (by rw [q]; simp)
        subst e'
        rw [ha] at e; cases e
        have d' : Data.seq vs.toArray _ = Data.dict es ep := d
        cases d'
    have nsK : ∀ {b : Addr} {m : Str → Option Value}, s₁.heap.Ns b m → (hidT s₁.heap H).Ns b m := fun {b m} ⟨o, es, ep, e, d, r⟩ => ⟨o, es, ep, base_of e (noA e d), d, r⟩
    have hKb : K.In (hidT s₁.heap H) := fun b o e => base_of (KX b o e) (by
      cases q : H b with
      | none => rfl
      | some u =>
        have e' : b = a := hA b (by rw [q]; simp)
        subst e'
        rw [hK (by rw [q]; simp)] at e; cases e)
    have noC : ∀ {b : Addr} {o : Obj}, s₁.heap.get? b = some o → o.cls ≠ .type "list" → H b = none := fun {b o} e d => by
      cases q : H b with
      | none => rfl
      | some u =>
        have e' : b = a := hA b (by rw [q]; simp)
        subst e'
        rw [ha] at e; cases e
        exact absurd rfl d
    have hSr : (hidT s₁.heap H).NoSeer := ⟨let ⟨mc, h1, h2⟩ := hsr.statics; ⟨mc, nsK h1, h2⟩, let ⟨mc, h1, h2⟩ := hsr.mods; ⟨mc, nsK h1, h2⟩, let ⟨mc, h1, h2⟩ := hsr.imp; ⟨mc, nsK h1, h2⟩,
      let ⟨mg', bm, ob, h1, h2, h3, h4, h5⟩ := hsr.main; ⟨mg', bm, ob, nsK h1, h2, base_of h3 (noC h3 (by rw [h4]; decide)), h4, h5⟩⟩
    have hM : Mod K mg (hidT s₁.heap H) := ⟨hKb, nsK hns, ⟨mb, nsK hb, hbb⟩, let ⟨mc, h1, h2⟩ := hlim; ⟨mc, nsK h1, h2⟩, hSr⟩
    have e0 : Env0 P w K mg (hidT s₁.heap H) callerA [] s₁ H := ⟨rfl, hM, fun b o e => of_hidT e, Nat.le_of_eq (hidT_size _ _), trivial, fun b hb => absurd (show b ∈ ([] : List Addr) from hb) (by simp), hok, .of_eq hg⟩
    refine codeAny_mono ((F _ hKb (nsK hns)).run callerA [] s₁ H ⟨[.ref a], []⟩ [.ref a] [.ref a] _ _ hr e0 (hbind s₁ (.ref a)) (.cons rfl .nil) (hsp H hO hS)) fun r s' h => ?_
    cases r with
    | error e => exact (hCX H e s' h).elim
    | ok fl =>
      cases fl with
      | next => exact False.elim h
      | brk => exact False.elim h
      | cont => exact False.elim h
      | ret u =>
        obtain ⟨v, H', os, bare, un, hok', r', q⟩ := h
        have q' : v = .bl true := q
        subst q'
        obtain rfl : u = Value.bool true := r'
        refine ⟨rfl, OldK.of_keep fun b o e => ?_, os, bare⟩
        cases q : H b with
        | none => exact un.keep b o e q (by intro z; exact absurd (show b ∈ ([] : List Addr) from z) (by simp)) (by simp)
        | some u =>
          rcases hO b with z | ⟨ob, xs, z⟩
          · rw [q] at z; cases z
          · have z2 := un.frzs b ob _ z
            obtain ⟨e1, _⟩ := hok b _ z
            obtain ⟨e2, _⟩ := hok' b _ z2
            rw [e] at e1; cases e1
            exact e2
  cases hk : K.lookup a with
  | some o =>
    have e := KX a o hk
    rw [ha] at e
    cases e
    refine core (fun _ => none) (fun _ => .inl rfl) (.inr ⟨_, vs.toArray, _, hk, rfl, rfl, rfl, by rw [List.size_toArray, lenV]; exact hl, by simpa using rv⟩) (fun b u z => by have z' : (none : Option HO) = some u := z; cases z') (fun b z => absurd rfl z) fun z => absurd rfl z
  | none =>
    refine core (fun b => if b = a then some (.frz { cls := .type "list", data := .seq vs.toArray } (.lst (ns.map V.int))) else none) (fun b => ?_) (.inl (.inr ⟨{ cls := .type "list", data := .seq vs.toArray }, if_pos rfl⟩)) (fun b u z => ?_) (fun b z => ?_) fun _ => hk
    · by_cases hb : b = a
      · exact .inr ⟨_, _, if_pos hb⟩
      · exact .inl (if_neg hb)
    · by_cases hb : b = a
      · have z' := (if_pos hb).symm.trans z
        cases z'
        subst hb
        exact ⟨ha, by rw [List.length_map]; exact hl, vs, _, rv, ha⟩
      · have z' := (if_neg hb).symm.trans z
        cases z'
    · by_cases hb : b = a
      · exact hb
      · exact absurd (if_neg hb) z
theorem walk_of {l : PySem.W.OpenLaw} {n k : Nat} {q : Program} {loose : List Str} {XP : (Str → Option Value) → Heap → Prop} {YP : World → Heap → Prop} {d : DefRec} {K : Params → PySem.W.Frag} {CX : World → CXT} {sp : World → Sp} {x : Str}
    (hn : l.most = some n) (hn2 : n ≤ sizeLine) (hdf : d.params.defaults = []) (hq : importsNone q = true) (hr : Room k callerA)
    (hY : ∀ (w : World) (h : Heap), YP w h → (K w.params).In h)
    (F : ∀ (w : World) (mg : Str → Option Value) (fa : Addr) (h : Heap), (K w.params).In h → h.Ns mainGlobals mg → mg d.name = some (.ref fa) →
      ∃ fd : FuncData, (∀ (s : Shared) (u : Value), BindsTo s fd ⟨[u], []⟩ [(x, u)]) ∧
        ∀ base : Heap, (K w.params).In base → base.Ns mainGlobals mg → FnOk l.prog w (K w.params) mg base (CX w) k fa fd [x] (sp w))
    (hsp : ∀ (w : World) (H : Hp) (a : Addr) (ns : List Int), ns.length ≤ n → (∀ x ∈ ns, Builtin.Int.intBits x ≤ 1048576) → Only H → SqL (K w.params) H a (ns.map V.int) → sp w [.ref a] H (fun v _ => v = .bl true) fun _ _ _ => False)
    (hCX : ∀ (w : World) (H : Hp) (s : Shared) (e : Value) (s' : Shared), CX w [] H s (fun _ _ _ => False) e s' → False) :
    PySem.W.WalkO q loose XP YP l.row.toRowW d [] (fun f vs => PySem.call f vs) := by
  refine Att.attach_call hn hdf fun w s₀ s₁ mg mb fa o pm cd doc a vs ns G Y ho hd hcd hmg hobj hints hlen hbt hg => ?_
  have KX := hY w _ Y
  obtain ⟨fd, hb, hF⟩ := F w mg fa _ KX G.T.g hmg
  exact law_call KX G.T.g G.T.b G.T.builtins G.T.nolimit (G.T.seer hq) hg hobj hints (Nat.le_trans hlen hn2) hr hF hb (fun H hO hS => hsp w H a ns hlen hbt hO hS) fun H e s' => hCX w H s₁ e s'
def inClass (s : Stmt) (j : Nat) : Stmt := match s with
  | .ClassDef _ _ _ body _ _ _ _ _ _ _ => body.getD j (.Pass ⟨0, 0, 0, 0⟩)
  | _ => .Pass ⟨0, 0, 0, 0⟩
noncomputable def defArgs (s : Stmt) : Arguments := match s with
  | .FunctionDef _ a _ _ _ _ _ _ _ _ => a
  | _ => { posonlyargs := [], args := [], vararg := none, kwonlyargs := [], kw_defaults := [], kwarg := none, defaults := [] }
noncomputable def defBody (s : Stmt) : List Stmt := match s with
  | .FunctionDef _ _ b _ _ _ _ _ _ _ => b
  | _ => []
noncomputable def defScope (s : Stmt) : Scope := match s with
  | .FunctionDef _ _ _ _ _ _ sc _ _ _ => sc
  | _ => { kind := .function, names := [], isGenerator := false, isCoroutine := false }
abbrev CX0 : CXT := fun _ _ _ _ _ _ => False
abbrev E0 : XK := fun _ _ _ => False
theorem pass0 {X : Cx} : Passes CX0 X E0 := fun _ _ _ _ _ _ _ h => h.elim
structure Fun (K : PySem.W.Frag) (x qual : Str) (st : Stmt) (f : Addr) (fd : FuncData) : Prop where
  ex : ∃ (oc : Value) (od : Option Addr) (kV doc pm : Value) (an : Option Addr) (cdv ct : Value) (osl : Array (Option Value)),
    fd = PySem.W.fnOf x qual (defArgs st) (defBody st) (defScope st) .none kV doc pm an cdv ct ∧ K.lookup f = some ⟨oc, od, .func fd, osl⟩ ∧ PySem.W.codeIn K cdv qual = true
  kp : PySem.W.keepIn K (.ref f) = true
section
variable {P : Program} {w : World} {K : PySem.W.Frag} {mg : Str → Option Value} {base : Heap}
theorem Fun.ok {x qual : Str} {st : Stmt} {f : Addr} {fd : FuncData} {N ps : List Str} {k : Nat} {sp : Sp} (F : Fun K x qual st f fd) (S : FnScope N ps (defScope st)) (len : ∀ vs H Q E, sp vs H Q E → vs.length = ps.length)
    (hbody : ∀ (cdv : Value) (A : Around) (outer : List Env) (s : Shared) (H : Hp) (vs : List V) (Q : VK) (E : XK), Room k (A.deeper (envOfC qual (defScope st) s.heap.objs.size f cdv)) → sp vs H Q E →
      ∃ t, PSs (cxOf CX0 P w K mg base N qual (defScope st) f cdv A outer s H E).nox (defBody st) t ∧ t { nx := fun _ H' => Q .non H', rt := Q } (start N vs) H) : FnOk P w K mg base CX0 (k + 1) f fd ps sp := by
  obtain ⟨oc, od, kV, doc, pm, an, cdv, ct, osl, rfl, lk, hcd⟩ := F.ex
  refine fn_of lk hcd S len fun A outer s H vs Q E hr hsp => ?_
  obtain ⟨t, h, q⟩ := hbody cdv A outer s H vs Q E hr hsp
  exact ⟨t, h.nox, q⟩
theorem Fun.binds {x qual : Str} {st : Stmt} {f : Addr} {fd : FuncData} {ps : List Str} (F : Fun K x qual st f fd)
    (h : ∀ (kV doc pm : Value) (an : Option Addr) (cdv ct : Value) (us : List Value), us.length = ps.length → bindArgs (PySem.W.fnOf x qual (defArgs st) (defBody st) (defScope st) .none kV doc pm an cdv ct) ⟨us, []⟩ = pure (ps.zip us)) : Binds K fd ps [] := by
  obtain ⟨oc, od, kV, doc, pm, an, cdv, ct, osl, rfl, lk, hcd⟩ := F.ex
  exact .all (h kV doc pm an cdv ct)
theorem fun_mk {x qual : Str} {st : Stmt} {f : Addr} {oc : Value} {od an : Option Addr} {osl : Array (Option Value)} {kV doc pm cdv ct : Value} (l : K.lookup f = some ⟨oc, od, .func (PySem.W.fnOf x qual (defArgs st) (defBody st) (defScope st) .none kV doc pm an cdv ct), osl⟩)
    (c : PySem.W.codeIn K cdv qual = true) (k : PySem.W.keepIn K (.ref f) = true) : Fun K x qual st f (PySem.W.fnOf x qual (defArgs st) (defBody st) (defScope st) .none kV doc pm an cdv ct) := ⟨⟨oc, od, kV, doc, pm, an, cdv, ct, osl, rfl, l, c⟩, k⟩
end
theorem hu_of {A : Around} {k : Nat} (hr : Room k A) : A.units + 1 < cLine := Nat.lt_of_le_of_lt (Nat.add_le_add_left (by decide : 1 ≤ 64) _) hr.units
theorem small1000 {n : Nat} (h : n ≤ 1000) : n < sizeLine := Nat.lt_of_le_of_lt h (by decide)
section
variable {X : Cx}
theorem pv (i : Nat) {x : Str} {pos : Pos} (hN : X.N[i]? = some x := by rfl) (hv : Vis X.env.scope x := by first | exact Or.inl rfl | exact Or.inr (Or.inl rfl) | exact Or.inr (Or.inr rfl)) (hd : (x == ("__debug__" : Str)) = false := by decide)
    (hcd : (x == ("__classdict__" : Str)) = false := by decide) : PE X (.Name x pos) (tVar i) := pe_var hN hv hd hcd
end
theorem iteF {A B : Prop} (h : B) : if false = true then A else B := by
  rw [if_neg Bool.false_ne_true]
  exact h
theorem iteT {A B : Prop} (h : A) : if true = true then A else B := by
  rw [if_pos rfl]
  exact h
theorem ite2 {c A B : Prop} [Decidable c] (h1 : c → A) (h2 : ¬ c → B) : if c then A else B := by
  by_cases h : c
  · rw [if_pos h]
    exact h1 h
  · rw [if_neg h]
    exact h2 h
noncomputable def Same (H H' : Hp) : Prop := ∀ b o, H b = some o → H' b = some o
theorem Same.refl (H : Hp) : Same H H := fun _ _ h => h
theorem Same.trans {H H1 H2 : Hp} (a : Same H H1) (b : Same H1 H2) : Same H H2 := fun c o h => b c o (a c o h)
theorem Same.free {H H' : Hp} (e : Same H H') {l : Addr} (h : H' l = Option.none) : H l = Option.none := by
  cases q : H l with
  | none => rfl
  | some o =>
    rw [e l o q] at h
    cases h
theorem Same.seq {K : PySem.W.Frag} {H H' : Hp} {a : Addr} {xs : List V} (e : Same H H') (h : SqL K H a xs) : SqL K H' a xs := by
  rcases h with (h | ⟨o, h⟩) | h
  · exact .inl (.inl (e _ _ h))
  · exact .inl (.inr ⟨o, e _ _ h⟩)
  · exact .inr h
section
variable {X : Cx}
noncomputable def zkB:R2:=fun x y H Q=>∃i j,x=.int i∧y=.int j∧Q (.int (i+j)) H
noncomputable def zkC:R2:=fun x y H Q=>∃i j,x=.int i∧y=.int j∧Q (.int (i-j)) H
theorem zx:OpR X (binaryOp .Add) zkB:=op_add
theorem qI:OpR X (binaryOp .Sub) zkC:=op_sub
noncomputable def zgv (i j:Int):Prop:=∃m n:Nat,Builtin.Int.intBits i≤m∧Builtin.Int.intBits j≤n∧m+n≤134217728
noncomputable def zkD:R2:=fun x y H Q=>∃i j,x=.int i∧y=.int j∧zgv i j∧Q (.int (i*j)) H
theorem qY:OpR X (binaryOp .Mult) zkD:=opI (C:=zgv) (g:=fun i j=>i*j) fun _ _ _ _ _ _ _ hc q=>by
 obtain⟨m,n,h1,h2,h3⟩:=hc
 exact mul_int q (IntMulOk.of_le h1 h2 h3)
noncomputable def zgw (j:Int):Prop:=0<j∧Builtin.Int.intBits j≤9000
noncomputable def zkE:R2:=fun x y H Q=>∃i j,x=.int i∧y=.int j∧zgw j∧Q (.int (i / j)) H
theorem yo:OpR X (binaryOp .FloorDiv) zkE:=opI (C:=fun _ j=>zgw j) (g:=fun i j=>i / j) fun i j _ _ _ _ _ hc q=>by
 have h1:(0:Int)<j:=hc.1
 have h3:j.natAbs.log2<9000:=(Nat.log2_lt (by omega)).mpr (intBits_le_iff.mp hc.2)
 exact floordiv_int (by omega) (by rw [Int.fdiv_eq_ediv_of_nonneg i (by omega)];exact q) (.inl (PyProof.noPylong_of_log2 h3))
noncomputable def zkF:R2:=fun x y H Q=>∃i j,x=.int i∧y=.int j∧0<j∧Q (.int (i % j)) H
theorem zF:OpR X (binaryOp .Mod) zkF:=op_mod
noncomputable def zkG:R2:=fun x y H Q=>∃i j,x=.int i∧y=.int j∧CPow i j∧Q (.int (i ^ j.toNat)) H
theorem zfy:OpR X (binaryOp .Pow) zkG:=op_pow
noncomputable def zkH:R2:=fun x y H Q=>∃i j,x=.int i∧y=.int j∧CPow i j∧Q (.int (i*2 ^ j.toNat)) H
theorem zfz:OpR X (binaryOp .LShift) zkH:=op_shl
noncomputable def zlG:R2:=fun x y H Q=>∃i j,x=.int i∧y=.int j∧Q (.bl (decide (i<j))) H
noncomputable def zlH:R2:=fun x y H Q=>∃i j,x=.int i∧y=.int j∧Q (.bl (decide (i≤j))) H
noncomputable def zlI:R2:=fun x y H Q=>∃i j,x=.int i∧y=.int j∧Q (.bl (decide (j<i))) H
noncomputable def zlJ:R2:=fun x y H Q=>∃i j,x=.int i∧y=.int j∧Q (.bl (decide (j≤i))) H
noncomputable def zlK:R2:=fun x y H Q=>∃i j:Int,x=.int i∧y=.int j∧Q (.bl (decide (i=j))) H
noncomputable def zlL:R2:=fun x y H Q=>∃i j:Int,x=.int i∧y=.int j∧Q (.bl (!decide (i=j))) H
theorem yV:OpR X (compareOp .Lt) zlG:=op_lt
theorem zeh:OpR X (compareOp .LtE) zlH:=op_le
theorem xG:OpR X (compareOp .Gt) zlI:=op_gt
theorem zaI:OpR X (compareOp .GtE) zlJ:=op_ge
theorem jG:OpR X (compareOp .Eq) zlK:=by
 intro pins s σ H x y v u Q I rx ry h
 obtain⟨i,j,rfl,rfl,q⟩:=h
 refine op_eq pins s σ H _ _ v u Q I rx ry ⟨rfl,?_⟩
 have e:decide (V.int i=V.int j)=decide (i=j):=decide_eq_decide.mpr ⟨fun z=>V.int.inj z,fun z=>by rw [z]⟩
 rw [e];exact q
theorem zcp:OpR X (compareOp .NotEq) zlL:=by
 intro pins s σ H x y v u Q I rx ry h
 obtain⟨i,j,rfl,rfl,q⟩:=h
 refine op_ne pins s σ H _ _ v u Q I rx ry ⟨rfl,?_⟩
 have e:decide (V.int i=V.int j)=decide (i=j):=decide_eq_decide.mpr ⟨fun z=>V.int.inj z,fun z=>by rw [z]⟩
 rw [e];exact q
noncomputable def zgx (X:Cx):Prop:=∀(pins:List (Addr×Obj)) (σ:St) (H:Hp) (s:Shared),Inv X pins σ H s→PylongRoom (model X.prog X.w) X.A s
noncomputable def zkI:R2:=fun x y H Q=>∃i j,x=.int i∧y=.int j∧0<j∧Q (.int (i / j)) H
theorem zby (hp:zgx X):OpR X (binaryOp .FloorDiv) zkI:=by
 intro pins s σ H x y v u Q I rx ry h
 obtain⟨i,j,rfl,rfl,hj,q⟩:=h
 obtain⟨t,rfl⟩:=rx
 obtain⟨t',rfl⟩:=ry
 refine floordiv_int (by omega) ?_ (.inr (hp pins σ H s I))
 rw [Int.fdiv_eq_ediv_of_nonneg i (by omega)]
 exact⟨.int (i / j),H,I.tok _,⟨_,rfl⟩,q⟩
theorem zei {CX:CXT}{P:Program}{w:World}{K:W.Frag}{mg:Str→Option Value}{base:Heap}{N ps:List Str}{qual:Str}{scope:Scope}{f:Addr}{cdv:Value}{A:Around}{outer:List Env}{s:Shared}{H:Hp}{E:XK}
  (hP:P.given.tree=none) (S:FnScope N ps scope) (hr:Room 35 (A.deeper (envOfC qual scope s.heap.objs.size f cdv))):zgx ((cxOf CX P w K mg base N qual scope f cdv A outer s H E).nox):=by
 intro pins σ H' s' I
 have I':=I.unwish
 refine PylongRoom.of I'.nolimit ?_ (SeerAt.of (I'.mod.seer.keeps I'.bk) hP I'.ok.frames S.gen S.co rfl rfl)
 have:=hr.dp
 show (A.deeper (envOfC qual scope s.heap.objs.size f cdv)).depth+100 < _
 omega
theorem WR:MtR X "int.bit_length" (fun x vs H Q=>∃i,x=.int i∧vs=[]∧Q (.int (Builtin.Int.intBits i:Nat)) H):=by
 intro pins s σ H x xs v us Q I rx rv h
 obtain⟨i,rfl,rfl,q⟩:=h
 obtain⟨t,rfl⟩:=rx
 cases rv
 exact call_int_bit_length ⟨.int _,H,I.tok _,⟨_,rfl⟩,q⟩
theorem jH:CallR X (.builtin "isinstance") (fun xs H Q=>∃x n t b,xs=[x,.ty n]∧TyOf X.K H x t∧W.kitOne X.K t (.type n)=some b∧Q (.bl b) H):=by
 intro pins s σ H xs us Q I r h
 obtain⟨x,n,t,b,rfl,ty,e,q⟩:=h
 obtain⟨u,c,rfl,rx,rc⟩:=vals2 r
 cases (show c=Value.type n from rc)
 exact isinst_ok I rx ty e fun tk=>⟨.bl b,H,I.tok tk,rfl,q⟩
end
theorem zbz (K:W.Frag):W.kitOne K (.type "int") (.type "int")=some true:=by with_unfolding_all rfl
theorem zaJ (K:W.Frag):W.kitOne K (.type "int") (.type "bool")=some false:=by with_unfolding_all rfl
noncomputable def Def (K:W.Frag) (mg:Str→Option Value) (x:Str) (st:Stmt) (ps:List Str):Prop:=
 ∃f fd,Fun K x x st f fd∧Binds K fd ps []∧mg x=some (.ref f)
noncomputable def Fn (P:Program) (w:World) (K:W.Frag) (mg:Str→Option Value) (base:Heap) (k:Nat) (x:Str) (ps:List Str) (sp:Sp):Prop:=
 ∃f fd,FnOk P w K mg base CX0 k f fd ps sp∧W.keepIn K (.ref f)=true∧Binds K fd ps []∧mg x=some (.ref f)
section
variable {P:Program}{w:World}{K:W.Frag}{mg:Str→Option Value}{base:Heap}
theorem Def.fn {x:Str}{st:Stmt}{N ps:List Str}{k:Nat}{sp:Sp} (D:Def K mg x st ps) (S:FnScope N ps (defScope st)) (len:∀vs H Q E,sp vs H Q E→vs.length=ps.length)
  (hbody:∀(f:Addr) (cdv:Value) (A:Around) (outer:List Env) (s:Shared) (H:Hp) (vs:List V) (Q:VK) (E:XK),Room k (A.deeper (envOfC x (defScope st) s.heap.objs.size f cdv))→sp vs H Q E →
   ∃t,PSs (cxOf CX0 P w K mg base N x (defScope st) f cdv A outer s H E).nox (defBody st) t∧t { nx:=fun _ H'=>Q .non H',rt:=Q } (start N vs) H):Fn P w K mg base (k+1) x ps sp:=by
 obtain⟨f,fd,F,b,m⟩:=D
 exact⟨f,fd,F.ok S len (fun cdv A outer s H vs Q E hr h=>hbody f cdv A outer s H vs Q E hr h),F.kp,b,m⟩
end
section
variable {X:Cx}{k:Nat}{x:Str}{ps:List Str}{sp:Sp}{p pos:Pos}{e:Expr}{es:List Expr}{t:TA}
noncomputable def tFn (sp:Sp) (t:TA):TE:=fun σ H Q=>t σ H fun vs H1=>sp vs H1 Q E0
theorem zq (F:Fn X.prog X.w X.K X.mg X.base k x ps sp) (hr:Room k X.A) (hg:Gl X x) (ha:PA X (e::es) t) (hdb:(x == ("__debug__":Str))=false:=by decide)
  (he:starEach (e::es) X.env=(false,eval e X.env)::starEach es X.env:=by rfl) (hpl:(backTo pos (starEach es X.env)).any (·.1)=false:=by rfl) :
  PE X (.Call (.Name x p) (e::es) [] pos) (tFn sp t):=by
 obtain⟨f,fd,F,kp,b,m⟩:=F
 have h:=pe_call (p:=p) (pos:=pos) (dvs:=[]) (ds:=[]) F hr hg m kp b .nil pass0 ha hdb he hpl
 intro pins s σ H Q I q
 refine h pins s σ H Q I ?_
 show t σ H fun vs H1=>sp (vs++[]) H1 Q E0
 have q':t σ H fun vs H1=>sp vs H1 Q E0:=q
 simpa only [List.append_nil] using q'
end
theorem ifD {c A B:Prop} [Decidable c] (h1:c→A) (h2:¬c→B):if decide c=true then A else B:=by
 by_cases h:c
 ·rw [if_pos (decide_eq_true h)];exact h1 h
 ·rw [if_neg (fun z=>h (of_decide_eq_true z))];exact h2 h
theorem zfA {c A B:Prop} [Decidable c] (h1:¬c→A) (h2:c→B):if (!decide c)=true then A else B:=by
 by_cases h:c
 ·rw [if_neg (by rw [decide_eq_true h];decide)];exact h2 h
 ·rw [if_pos (by rw [decide_eq_false h];decide)];exact h1 h
theorem ifT {c A B:Prop} [Decidable c] (h:c) (a:A):if decide c=true then A else B:=ifD (fun _=>a) (fun z=>absurd h z)
theorem ifF {c A B:Prop} [Decidable c] (h:¬c) (b:B):if decide c=true then A else B:=ifD (fun z=>absurd z h) (fun _=>b)
theorem zM:bootBuiltins "isinstance"=some (.builtin "isinstance"):=by decide +kernel
theorem zgy:bootBuiltins "int"=some (.type "int"):=by decide +kernel
theorem zgM:bootBuiltins "bool"=some (.type "bool"):=by decide +kernel
theorem zcq:bootBuiltins "list"=some (.type "list"):=by decide +kernel
theorem Jq:bootBuiltins "str"=some (.type "str"):=by decide +kernel
theorem xQ:bootBuiltins "len"=some (.builtin "len"):=by decide +kernel
theorem zkJ:bootBuiltins "max"=some (.builtin "max"):=by decide +kernel
theorem zkK:bootBuiltins "min"=some (.builtin "min"):=by decide +kernel
theorem zej:bootBuiltins "sorted"=some (.builtin "sorted"):=by decide +kernel
theorem zkL:bootBuiltins "all"=some (.builtin "all"):=by decide +kernel
theorem zbA:bootBuiltins "enumerate"=some (.type "enumerate"):=by decide +kernel
theorem zcr:bootBuiltins "reversed"=some (.type "reversed"):=by decide +kernel
theorem zaK:bootBuiltins "ValueError"=some (.type "ValueError"):=by decide +kernel
theorem Same.put {H H':Hp}{p:Addr}{o:HO} (s:Same H H') (h:H' p=Option.none):Same H (upd H' p o):=fun b u e=>by
 have e':=s b u e
 rw [upd_ne (ne_of_none e' h)]
 exact e'
theorem Same.new {H:Hp}{p:Addr}{o:HO} (h:H p=Option.none):Same H (upd H p o):=(Same.refl H).put h
noncomputable def zdQ (lo c:Int) (n:Nat):It:=⟨fun i _=>i<n,fun i H x H'=>H'=H∧x=.int (lo+i*c),fun i _=>n≤i⟩
theorem zbB {P:Program}{w:World}{K:PySem.W.Frag}{tg:Expr} (it:Addr) (lo c:Int) (n:Nat):Turn P w K tg (zdQ lo c n) [it] it (fun i h=>IsRangeIter h it (lo+(i:Nat)*c) ((n:Int)-(i:Nat)) c) where
 mem:=by simp
 obj:=fun i h st b hb=>by
  have e:b=it:=by simpa using hb
  subst e
  exact⟨_,st,fun v z=>by
   have z':Data.fields _=Data.cell v:=z
   cases z'⟩
 keep:=fun i h h' st k=>k it (by simp) _ st
 item:=by
  intro X hP hw hK hc i pins s σ H E I hf st hg
  subst hP hw hK
  obtain⟨f0,f1,f2,f3,f4,f5⟩:=hf it (by simp)
  have W:=Walks.range (prog:=X.prog) (w:=X.w) (I.ok.hd hc) it lo c n
  refine W.item i s _ _ hg st fun v h' tk hv st' kk=>?_
  obtain⟨t,rfl⟩:=hv
  have I1:Inv X pins σ H { s with heap:=h',toks:=tk }:=I.turned (fun b o hb e=>kk b o (by simpa using hb) e) f0 f1 f3 f4 f5
  exact⟨_,rfl,go_of (s:={ s with heap:=h',toks:=tk }) (n:="range_iterator") st' rfl rfl (by decide) ⟨.int (lo+i*c),H,I1,⟨t,rfl⟩,⟨rfl,rfl⟩,st',fun b hb=>(hf b hb).1⟩⟩
 done:=by
  intro X hP hw hK hc i pins s σ H E I hf st hg
  subst hP hw hK
  obtain⟨f0,f1,f2,f3,f4,f5⟩:=hf it (by simp)
  exact wpAny_pyNext_range_end (I.ok.hd hc) st (by have:n≤i:=hg;omega) fun h' eb=>⟨rfl,I.turned (t':=s.toks) (fun b o hb e=>eb b o hb e) f0 f1 f3 f4 f5⟩
 self:=fun _ _ _ _ _ st h=>wpAny_pyIter_rangeiter st h
section
variable {X:Cx}{tg:Expr}
noncomputable def zkM (ta:TA):TI:=fun σ H R=>ta σ H fun vs H1=>∃(i j c:Int) (n:Nat),vs=[.int i,.int j,.int c]∧(c≠0∧c.natAbs<1073741824∧Builtin.Range.small i j c=true∧Builtin.Range.rangeSize i j c=(n:Int))∧R (zdQ i c n) H1
theorem zac {a b c:Expr}{ta:TA}{p pos:Pos} (hg:Gl X "range") (hm:X.mg "range"=none) (ha:PA X [a,b,c] ta) (hs:starEach [a,b,c] X.env=(false,eval a X.env)::starEach [b,c] X.env:=by rfl) (hs2:(backTo pos (starEach [b,c] X.env)).any (·.1)=false:=by rfl) :
  PI X tg (.Call (.Name "range" p) [a,b,c] [] pos) (zkM ta):=by
 intro pins s σ H R I h
 refine Call_ (ld_blt I hg hm boot_range (PyProof.Rows.callWith_type1 (thn (ha pos pins s σ H _ I h) fun us s1 ⟨vs,H1,I1,r1,q1⟩=>?_) hs hs2))
 obtain⟨i,j,k,n,e,⟨q1,q2,q3,q4⟩,q⟩:=q1
 subst e
 cases r1 with
 | cons r rr=>
  cases rr with
  | cons r' rr=>
   cases rr with
   | cons r'' rr=>
    cases rr
    obtain⟨t,rfl⟩:=r
    obtain⟨t',rfl⟩:=r'
    obtain⟨t'',rfl⟩:=r''
    refine call_range_3 q1 ?_ (.inl (PyProof.noPylong_small q2))
    refine wpAny_pyIter_range (IsRange.new ..) q3 ?_
    have I2:Inv X pins σ H1 { s1 with heap:=s1.heap.push { cls:=.type "range",data:=.fields #[.int i t,.int j t',.int k t''] },toks:=s1.toks }:=I1.kept fun b o e=>Heap.get?_push_of_some _ e
    refine⟨(s1.heap.push { cls:=.type "range",data:=.fields #[.int i t,.int j t',.int k t''] }).objs.size,[(s1.heap.push { cls:=.type "range",data:=.fields #[.int i t,.int j t',.int k t''] }).objs.size],_,_,H1,rfl,
     I2.kept (t':=s1.toks) fun b o e=>Heap.get?_push_of_some _ e,zbB _ i k n,?_,fun b hb=>?_,q⟩
    ·have e1:i+((0:Nat):Int)*k=i:=by simp
     have e2:((n:Nat):Int)-((0:Nat):Int)=Builtin.Range.rangeSize i j k:=by rw [q4];simp
     show IsRangeIter _ _ (i+((0:Nat):Int)*k) (((n:Nat):Int)-((0:Nat):Int)) k
     rw [e1,e2]
     exact Heap.get?_push_size _ rfl
    ·have e:b=(s1.heap.push { cls:=.type "range",data:=.fields #[.int i t,.int j t',.int k t''] }).objs.size:=by simpa using hb
     subst e
     exact I2.fpOk (Nat.le_refl _) (I2.hok.fresh (Nat.le_refl _))
end
theorem zcs {lo c:Int}{n:Nat}{g:TG}{tb:TS}{D:Ends}{σ:St}{H:Hp} (Pv:Nat→St→Hp→Prop) (h0:Pv 0 σ H)
  (hs:∀i σ H,i<n→Pv i σ H→g (.int (lo+i*c)) σ H fun σ2 H2=>tb { D with nx:=Pv (i+1),ct:=Pv (i+1),bk:=D.nx } σ2 H2) (hd:∀σ H,Pv n σ H→D.nx σ H) :
  ∃W:Nat→Nat→St→Hp→Prop,(∃m,W 0 m σ H)∧∀i m σ H,W i m σ H →
   ((zdQ lo c n).stop i H∧D.nx σ H)∨((zdQ lo c n).go i H∧∃N:St→Hp→Prop,(∀σ' H',N σ' H'→∃m',m'<m∧W (i+1) m' σ' H')∧∀x H',(zdQ lo c n).yld i H x H'→g x σ H' fun σ2 H2=>tb { D with nx:=N,ct:=N,bk:=D.nx } σ2 H2):=by
 refine⟨fun i m σ H=>m=n-i∧i≤n∧Pv i σ H,⟨n,by simp,Nat.zero_le _,h0⟩,?_⟩
 rintro i m σ H ⟨rfl,hi,p⟩
 by_cases hlt:i<n
 ·refine .inr ⟨hlt,Pv (i+1),fun σ' H' p'=>⟨n-(i+1),by omega,rfl,hlt,p'⟩,fun x H' y=>?_⟩
  obtain⟨e,y⟩:=y
  subst e y
  exact hs i σ _ hlt p
 ·have e:i=n:=by omega
  subst e
  exact .inl ⟨Nat.le_refl _,hd σ H p⟩
def xX (env:Env):List (Str×NameKind)→List (Str×Addr)→List (Str×Addr)
 | [],acc=>acc
 | (n,k)::r,acc=>if k == .free then xX env r ((n,(env.cells.lookup n).getD 0)::acc) else xX env r acc
theorem KN {scope:Scope}{env:Env} (h:∀p∈scope.names,p.2=.free→∃c,env.cells.lookup p.1=some c):closureFor scope env=pure (xX env scope.names []):=by
 unfold closureFor
 have key:∀(names:List (Str×NameKind)) (acc:List (Str×Addr)),(∀p∈names,p.2=.free→∃c,env.cells.lookup p.1=some c) →
   (forIn names acc (fun(x:Str×NameKind) (cs:List (Str×Addr))=>match x with
    | (name,kind)=>if (kind == NameKind.free)=true then (cellOf env name >>= fun c=>pure (ForInStep.yield ((name,c)::cs))) else pure (ForInStep.yield cs)):Sem (List (Str×Addr)))=pure (xX env names acc):=by
  intro names
  induction names with
  | nil=>intro acc _;rfl
  | cons p r ih=>
   intro acc hp
   obtain⟨n,k⟩:=p
   have hr:∀p∈r,p.2=.free→∃c,env.cells.lookup p.1=some c:=fun p hm=>hp p (List.mem_cons_of_mem _ hm)
   rw [List.forIn_cons]
   by_cases hk:k=.free
   ·subst hk
    obtain⟨c,hc⟩:=hp (n,.free) List.mem_cons_self rfl
    have hc:env.cells.lookup n=some c:=hc
    have e1:cellOf env n=pure c:=by unfold cellOf;rw [hc]
    have e2:xX env ((n,.free)::r) acc=xX env r ((n,c)::acc):=by
     show xX env r ((n,(env.cells.lookup n).getD 0)::acc)=_
     rw [hc];rfl
    simp only [beq_self_eq_true,if_true,e1,pure_bind]
    rw [e2]
    exact ih _ hr
   ·have hb:(k == NameKind.free)=false:=by simpa using hk
    have e2:xX env ((n,k)::r) acc=xX env r acc:=by
     show (if (k == NameKind.free)=true then xX env r ((n,(env.cells.lookup n).getD 0)::acc) else xX env r acc)=_
     rw [hb];rfl
    simp only [hb,Bool.false_eq_true,if_false,pure_bind]
    rw [e2]
    exact ih _ hr
 have k0:=key scope.names [] h
 show (forIn scope.names ([]:List (Str×Addr)) _ >>= fun r=>pure r)=_
 refine Eq.trans (congrArg (fun m=>m >>= fun r=>pure r) k0) ?_
 rfl
theorem Va {env:Env}:∀{names:List (Str×NameKind)}{acc:List (Str×Addr)},(∀p∈names,p.2=.free→∃c,env.cells.lookup p.1=some c)→(∀x c,acc.lookup x=some c→env.cells.lookup x=some c) →
  ∀x c,(xX env names acc).lookup x=some c→env.cells.lookup x=some c
 | [],_,_,ha,x,c,h=>ha x c h
 | (n,k)::r,acc,hp,ha,x,c,h=>by
  have hr:∀p∈r,p.2=.free→∃c,env.cells.lookup p.1=some c:=fun p hm=>hp p (List.mem_cons_of_mem _ hm)
  by_cases hk:k=.free
  ·subst hk
   obtain⟨d,hd⟩:=hp (n,.free) List.mem_cons_self rfl
   have hd:env.cells.lookup n=some d:=hd
   have e2:xX env ((n,.free)::r) acc=xX env r ((n,d)::acc):=by
    show xX env r ((n,(env.cells.lookup n).getD 0)::acc)=_
    rw [hd];rfl
   rw [e2] at h
   refine Va hr (fun y e hy=>?_) x c h
   rw [List.lookup_cons] at hy
   cases hyn:y == n with
   | true=>rw [hyn] at hy;cases hy;rw [beq_iff_eq.mp hyn];exact hd
   | false=>rw [hyn] at hy;exact ha y e hy
  ·have hb:(k == NameKind.free)=false:=by simpa using hk
   have e2:xX env ((n,k)::r) acc=xX env r acc:=by
    show (if (k == NameKind.free)=true then xX env r ((n,(env.cells.lookup n).getD 0)::acc) else xX env r acc)=_
    rw [hb];rfl
   rw [e2] at h
   exact Va hr ha x c h
theorem Xm {env:Env}:∀{names:List (Str×NameKind)}{acc:List (Str×Addr)}{x:Str},((x,NameKind.free)∈names∨∃c,acc.lookup x=some c)→∃c,(xX env names acc).lookup x=some c
 | [],_,_,h=>h.elim (fun z=>nomatch z) id
 | (n,k)::r,acc,x,h=>by
  by_cases hk:k=.free
  ·subst hk
   show ∃c,(xX env r ((n,(env.cells.lookup n).getD 0)::acc)).lookup x=some c
   refine Xm ?_
   by_cases hx:x=n
   ·subst hx;exact .inr ⟨_,by rw [List.lookup_cons,beq_self_eq_true]⟩
   ·rcases h with h | ⟨c,h⟩
    ·rcases List.mem_cons.mp h with e | e
     ·cases e;exact absurd rfl hx
     ·exact .inl e
    ·exact .inr ⟨c,by rw [List.lookup_cons,beq_eq_false_iff_ne.mpr hx];exact h⟩
  ·have hb:(k == NameKind.free)=false:=by simpa using hk
   have e2:xX env ((n,k)::r) acc=xX env r acc:=by
    show (if (k == NameKind.free)=true then xX env r ((n,(env.cells.lookup n).getD 0)::acc) else xX env r acc)=_
    rw [hb];rfl
   rw [e2]
   refine Xm ?_
   rcases h with h | h
   ·rcases List.mem_cons.mp h with e | e
    ·cases e;exact absurd rfl hk
    ·exact .inl e
   ·exact .inr h
section
variable {prog:Program}{w:World}{A:Around}
theorem Qq {elt target iter:Expr}{ifs:List Expr}{scope:Scope}{pos:Pos}{it acc:Value}{env:Env}{s:Shared}{R:Result→Shared→Prop} (I:Nat→Shared→Prop)
  (turn:∀n s,I n s→wpAny (model prog w) A (pyNext it) (fun r s₁=>match r with
   | none=>R (.ok .next) s₁
   | some v=>wpAny (model prog w) A (letOwnedTupleGo target it v) (fun _ s₁'=>wpAny (model prog w) A (assign target env v) (fun _ s₂=>
     wpAny (model prog w) A (forIn ifs true fun c r=>if r=true then do let ok ← isTrue c env (eval c env);pure (ForInStep.yield ok) else pure (ForInStep.yield r)) (fun ok s₃=>
      if ok=true then wpAny (model prog w) A (eval elt env) (fun x s₄=>wpAny (model prog w) A (call (.builtin "list.append") [acc,x]) (fun _ s₅=>∃m,m<n∧I m s₅) (fun _ _=>False) s₄) (fun _ _=>False) s₃
      else ∃m,m<n∧I m s₃) (fun _ _=>False) s₂) (fun _ _=>False) s₁') (fun _ _=>False) s₁) (fun _ _=>False) s)
  (n:Nat) (h:I n s):codeAny (model prog w) A (.compLoop (.ListComp elt [⟨target,iter,ifs,0⟩] scope pos) 0 it acc env) R s:=by
 refine codeAny_loop rfl I (fun n s hI=>?_) n h
 show wpAny _ A ((compTurn (.ListComp elt [⟨target,iter,ifs,0⟩] scope pos) 0 it acc env).onRaise (fun x=>do noteFrame x env;theTreesLotGoes x)) _ _ s
 refine wpAny_noted ?_
 rw [compTurn_list]
 refine wpAny_bind (wpAny_standAt (wpAny_bind (wpAny_mono (turn n s hI) (fun r s₁ h₁=>?_) fun _ _ h'=>h'.elim)))
 cases r with
 | none=>exact wpAny_pure h₁
 | some v=>
  refine wpAny_bind (wpAny_mono h₁ (fun _ s₁' h₁'=>?_) fun _ _ h'=>h'.elim)
  refine wpAny_bind (wpAny_mono h₁' (fun _ s₂ h₂=>wpAny_bind (wpAny_mono h₂ (fun ok s₃ h₃=>?_) fun _ _ h'=>h'.elim)) fun _ _ h'=>h'.elim)
  cases ok with
  | false=>exact wpAny_pure ⟨rfl,h₃⟩
  | true=>exact wpAny_bind (wpAny_bind (wpAny_mono h₃ (fun x s₄ h₄=>wpAny_bind (wpAny_mono h₄ (fun _ s₅ h₅=>wpAny_pure (wpAny_pure ⟨rfl,h₅⟩)) fun _ _ h'=>h'.elim)) fun _ _ h'=>h'.elim))
end
abbrev qe (X:Cx) (pins:List (Addr×Obj)) (N:List Str) (scope:Scope) (C:Addr) (sF:Shared) (HF:Hp) (fp:List Addr):Cx where
 prog:=X.prog
 w:=X.w
 K:=X.K
 mg:=X.mg
 base:=X.base
 A:=X.A
 N:=N
 s₀:=sF
 H₀:=HF
 env:=compEnvC scope (xX X.env scope.names []) C X.env
 outer:=X.stack
 stack:=X.stack
 ex:=fp
 fn:=fun _=>false
 calm:=X.calm
 pn:=X.pn++pins
 xe:=fun _ _=>False
noncomputable def jk (own:Nat) (ix:List Nat) (σ:St):St:=List.replicate own none++ix.map fun i=>(σ[i]?).getD none
noncomputable def Qs (J:It) (own:Nat) (ix:List Nat) (g:TG) (tt:TT) (te:TE) (σ:St) (H1:Hp) (acc:Addr) (Q:VK):Prop:=
 ∃W:Nat→Nat→List V→Hp→Prop,(∃m,W 0 m [] (upd H1 acc (.lst [])))∧∀i m ys H2,W i m ys H2 →
  H2 acc=some (.lst ys)∧((J.stop i H2∧Q (.ref acc) H2)∨(J.go i H2∧ys.length<sizeLine∧∀x H3,J.yld i H2 x H3→g x (jk own ix σ) H3 fun σ4 H4=>σ4.drop own=ix.map (fun i=>(σ[i]?).getD none)∧tt σ4 H4 fun ok H5=>
   if ok=true then te σ4 H5 fun y H6=>H6 acc=some (.lst ys)∧∃m',m'<m∧W (i+1) m' (ys++[y]) (upd H6 acc (.lst (ys++[y])))
   else ∃m',m'<m∧W (i+1) m' ys H5))
noncomputable def zgz (wi:TI) (own:Nat) (ix:List Nat) (g:TG) (tt:TT) (te:TE):TE:=fun σ H Q=>wi σ H fun J H1=>∀acc,H1 acc=none→Qs J own ix g tt te σ H1 acc Q
noncomputable def yP:TT:=fun _ H Q=>Q true H
noncomputable def PTs (X:Cx) (ifs:List Expr) (t:TT):Prop:=
 ∀(pins:List (Addr×Obj)) (s:Shared) (σ:St) (H:Hp) (Q:Bool→Hp→Prop),Inv X pins σ H s→t σ H Q →
  wpAny (model X.prog X.w) X.A (forIn ifs true fun c r=>if r=true then do let ok ← isTrue c X.env (eval c X.env);pure (ForInStep.yield ok) else pure (ForInStep.yield r)) (TP X pins σ Q) X.xe s
theorem qJ {X:Cx}:PTs X [] yP:=fun _ _ _ H _ I h=>wpAny_tests_nil ⟨H,I,h⟩
structure zaL (X:Cx) (scope:Scope) (own:List Str) (fr:List Str) (ix:List Nat):Prop where
 kind:scope.kind=.function
 nocell:∀y∈scope.names,y.2≠.cell
 names:∀y∈scope.names,y.2=.local→scope.names.lookup y.1=some .local
 free:∀p∈scope.names,p.2=.free→∃c,X.env.cells.lookup p.1=some c
 frd:∀x∈fr,(x,NameKind.free)∈scope.names∧X.env.kindOf x=some .cell∧scope.names.lookup x=some .free
 len:fr.length=ix.length
 at_:∀(j:Nat) x i,fr[j]?=some x→ix[j]?=some i→X.N[i]?=some x
structure zaM (X:Cx) (scope:Scope) (own:List Str) (fr:List Str) (ix:List Nat):Prop where
 kind:scope.kind=.function
 nocell:(scope.names.all fun y=>y.2 != .cell)=true
 names:(scope.names.all fun y=>y.2 != .local || scope.names.lookup y.1 == some .local)=true
 free:(scope.names.all fun p=>p.2 != .free || X.env.kindOf p.1 == some .cell)=true
 frd:(fr.all fun x=>X.env.kindOf x == some .cell && scope.names.lookup x == some .free)=true
 at_:(ix.map fun i=>X.N[i]?)=fr.map some
theorem mem_of_lookup {x:Str}{k:NameKind}:∀{names:List (Str×NameKind)},names.lookup x=some k→(x,k)∈names
 | [],h=>by simp at h
 | (n,k')::r,h=>by
  rw [List.lookup_cons] at h
  cases hx:x == n with
  | true=>
   rw [hx] at h
   cases h
   rw [beq_iff_eq.mp hx]
   exact List.mem_cons_self
  | false=>
   rw [hx] at h
   exact List.mem_cons_of_mem _ (mem_of_lookup h)
theorem zaM.ok {X:Cx}{scope:Scope}{own fr:List Str}{ix:List Nat} (B:zaM X scope own fr ix) (ok:X.Ok):zaL X scope own fr ix where
 kind:=B.kind
 nocell:=fun y hy=>by simpa using List.all_eq_true.mp B.nocell y hy
 names:=fun y hy hl=>by
  have:=List.all_eq_true.mp B.names y hy
  rw [hl] at this
  simpa using this
 free:=fun p hp hf=>by
  have:=List.all_eq_true.mp B.free p hp
  rw [hf] at this
  exact ok.has p.1 (.inl (by simpa using this))
 frd:=fun x hx=>by
  have:=List.all_eq_true.mp B.frd x hx
  rw [Bool.and_eq_true] at this
  have h2:scope.names.lookup x=some .free:=by simpa using this.2
  exact⟨mem_of_lookup h2,by simpa using this.1,h2⟩
 len:=by
  have:=congrArg List.length B.at_
  simpa using this.symm
 at_:=fun j x i hx hi=>by
  have e:=congrArg (fun l=>l[j]?) B.at_
  simp only [List.getElem?_map,hx,hi,Option.map_some] at e
  exact Option.some.inj e
theorem Xn {env:Env} (hf:env.scope.kind=.function):∀{names:List (Str×NameKind)}{x:Str},names.lookup x=some .free→env.kindOf x=some .cell →
  (names.map fun(n,k)=>if (k == NameKind.free && env.scope.kind == .function && env.kindOf n == some .cell) then (n,NameKind.cell) else (n,k)).lookup x=some .cell
 | [],_,h,_=>by simp at h
 | (n,k)::r,x,h,hx=>by
  have ih:=@Xn env hf r x
  show List.lookup x ((if (k == NameKind.free && env.scope.kind == .function && env.kindOf n == some .cell)=true then (n,NameKind.cell) else (n,k))::_)=_
  cases hxn:x == n with
  | true=>
   have e:=beq_iff_eq.mp hxn
   subst e
   simp only [List.lookup_cons,hxn] at h
   cases h
   rw [if_pos (by rw [hf,hx];rfl)]
   simp only [List.lookup_cons,hxn]
  | false=>
   simp only [List.lookup_cons,hxn] at h
   by_cases hc:(k == NameKind.free && env.scope.kind == .function && env.kindOf n == some .cell)=true
   ·rw [if_pos hc];simp only [List.lookup_cons,hxn];exact ih h hx
   ·rw [if_neg hc];simp only [List.lookup_cons,hxn];exact ih h hx
theorem VP {env:Env}:∀{names:List (Str×NameKind)}{x:Str},(∀y∈names,y.2≠.cell) →
    ((names.map fun(n,k)=>if (k == NameKind.free && env.scope.kind == .function && env.kindOf n == some .cell) then (n,NameKind.cell) else (n,k)).lookup x=some .cell ∨
     (names.map fun(n,k)=>if (k == NameKind.free && env.scope.kind == .function && env.kindOf n == some .cell) then (n,NameKind.cell) else (n,k)).lookup x=some .free)→(x,NameKind.free)∈names
  | [],_,_,h=>by simp at h
  | (n,k)::r,x,hn,h=>by
    have ih:=@VP env r x (fun y hy=>hn y (List.mem_cons_of_mem _ hy))
    have hk:k≠.cell:=hn (n,k) List.mem_cons_self
    have h':List.lookup x ((if (k == NameKind.free && env.scope.kind == .function && env.kindOf n == some .cell)=true then (n,NameKind.cell) else (n,k))::r.map fun(n,k)=>if (k == NameKind.free && env.scope.kind == .function && env.kindOf n == some .cell) then (n,NameKind.cell) else (n,k))=some .cell ∨
      List.lookup x ((if (k == NameKind.free && env.scope.kind == .function && env.kindOf n == some .cell)=true then (n,NameKind.cell) else (n,k))::r.map fun(n,k)=>if (k == NameKind.free && env.scope.kind == .function && env.kindOf n == some .cell) then (n,NameKind.cell) else (n,k))=some .free:=h
    by_cases hc:(k == NameKind.free && env.scope.kind == .function && env.kindOf n == some .cell)=true
    · have hf:k=.free:=by
        rw [Bool.and_eq_true,Bool.and_eq_true] at hc
        exact beq_iff_eq.mp hc.1.1
      subst hf
      cases hxn:x == n with
      | true=>rw [beq_iff_eq.mp hxn];exact List.mem_cons_self
      | false=>
        rw [if_pos hc] at h'
        simp only [List.lookup_cons,hxn] at h'
        exact List.mem_cons_of_mem _ (ih h')
    · rw [if_neg hc] at h'
      cases hxn:x == n with
      | true=>
        simp only [List.lookup_cons,hxn] at h'
        rcases h' with e | e
        · cases e;exact absurd rfl hk
        · cases e;rw [beq_iff_eq.mp hxn];exact List.mem_cons_self
      | false=>
        simp only [List.lookup_cons,hxn] at h'
        exact List.mem_cons_of_mem _ (ih h')
section
variable {X:Cx}{pins:List (Addr×Obj)}{σ:St}{H:Hp}{s:Shared}
theorem zbC {scope:Scope}{own fr:List Str}{ix:List Nat}{C:Addr}{h₁:Heap}{tk:Nat}{fp:List Addr}{m:Str→Option Value} (I:Inv X pins σ H s) (B:zaL X scope own fr ix) (hC:C=s.heap.objs.size)
  (hf:∀b∈fp,FpOk X pins H b) (hb:∀b∈fp,∃o,s.heap.get? b=some o) (old:∀b o,s.heap.get? b=some o→h₁.get? b=some o) (hns:h₁.Ns C m) :
  Inv (qe X pins (own++fr) scope C s H fp) [] (jk own.length ix σ) H { s with heap:=h₁,toks:=tk }:=by
 have look:∀x c,(xX X.env scope.names []).lookup x=some c→X.env.cells.lookup x=some c:=Va B.free (fun _ _ z=>by cases z)
 have lt:∀b o,s.heap.get? b=some o→b≠C:=fun b o e=>by rw [hC];exact Nat.ne_of_lt (Heap.lt_size e)
 have ok:(qe X pins (own++fr) scope C s H fp).Ok:={
  mod:=I.ok.mod
  kind:=B.kind
  glob:=I.ok.glob
  blt:=I.ok.blt
  above:=by show s.heap.objs.size≤C;rw [hC];exact Nat.le_refl _
  inj:=fun x y c a b=>I.ok.inj x y c (look x c a) (look y c b)
  has:=fun x hx=>Xm (.inl (VP B.nocell hx))
  cab:=fun x c z=>nomatch z
  hd:=I.ok.hd
  frames:=I.ok.frames
  stk:=.inl rfl
  exf:=fun b hbf=>⟨by obtain⟨o,e⟩:=hb b hbf;exact lt b o e,fun x c e=>(hf b hbf).2.2.2.2.1 x c (look x c e)⟩
  bs:=I.bs
  bsz:=Nat.le_trans I.ok.bsz I.sz
  noex:=fun b o e hbf=>by
   rcases (hf b hbf).2.2.2.1 with z | z
   ·exact I.ok.noex b o e z
   ·exact absurd (Nat.lt_of_lt_of_le (Heap.lt_size e) (Nat.le_trans I.ok.bsz z)) (Nat.lt_irrefl _)
  exfs:=fun b hbf hs=>by
   rcases List.mem_cons.mp (I.stkSub b hs) with z | z
   ·exact(hf b hbf).2.1 z
   ·exact(hf b hbf).2.2.1 z
  funs:=I.stack
  frf:=I.stkFree }
 refine⟨ok,rfl,I.bare,Un.kept old,⟨m,hns,fun i x v e1 e2 e3=>?_⟩,fun x c e=>?_,?_,fun x c e=>I.freeC x c (look x c e),fun p hp=>?_,I.hok.kept old,?_⟩
 ·have e1:(own++fr)[i]?=some x:=e1
  have e2:(List.replicate own.length none++ix.map fun i=>(σ[i]?).getD none)[i]?=some (some v):=e2
  by_cases hi:i<own.length
  ·rw [List.getElem?_append_left (by rw [List.length_replicate];exact hi),List.getElem?_replicate,if_pos hi] at e2
   cases e2
  ·rw [List.getElem?_append_right (by omega)] at e1
   rw [List.getElem?_append_right (by rw [List.length_replicate];omega),List.length_replicate,List.getElem?_map] at e2
   obtain⟨i',hi',e4⟩:=Option.map_eq_some_iff.mp e2
   have e5:σ[i']?=some (some v):=by
    cases z:σ[i']? with
    | none=>rw [z] at e4;cases e4
    | some y=>rw [z] at e4;exact congrArg some e4
   have hm:x∈fr:=List.mem_of_getElem? e1
   obtain⟨f1,f2,f3⟩:=B.frd x hm
   obtain⟨mX,_,hl⟩:=I.loc
   obtain⟨u,r,l⟩:=hl i' x v (B.at_ _ x i' e1 hi') e5 (.inr (.inl f2))
   rcases l with ⟨l,_⟩ | ⟨_,c,ec,z⟩
   ·rw [f2] at l;cases l
   ·obtain⟨c',ec'⟩:=Xm (env:=X.env) (names:=scope.names) (acc:=[]) (x:=x) (.inl f1)
    have:=look x c' ec'
    rw [ec] at this
    cases this
    obtain⟨o,ho,hd⟩:=z
    exact⟨u,r,.inr ⟨.inl (Xn I.ok.kind f3 f2),c,ec',o,old _ _ ho,hd⟩⟩
 ·obtain⟨v,o,ho,hd⟩:=I.cell x c (look x c e)
  exact⟨v,o,old _ _ ho,hd⟩
 ·show H C=none
  rw [hC];exact I.hok.fresh (Nat.le_refl _)
 ·have hp':p∈X.pn++pins:=by simpa using hp
  obtain⟨e,n,ne,nf,d⟩:=I.pin p hp'
  refine⟨old _ _ e,n,lt _ _ e,fun z=>?_,d⟩
  rcases List.mem_cons.mp (I.stkSub _ z) with q | q
  ·exact ne q
  ·exact nf q
 ·show (List.replicate own.length none++ix.map fun i=>(σ[i]?).getD none).length=(own++fr).length
  rw [List.length_append,List.length_append,List.length_replicate,List.length_map,B.len]
theorem zad {N:List Str}{scope:Scope}{C:Addr}{fp:List Addr} {σ':St} {H':Hp} {s':Shared} {h'':Heap}{pl:List (Addr×Obj)} (I:Inv X pins σ H s) (hf:∀b∈fp,FpOk X pins H b) (hC:C=s.heap.objs.size)
  (J:Inv (qe X pins N scope C s H fp) pl σ' H' s') (hs:Heap.SameBut C s'.heap h''):Inv X pins σ H' { s' with heap:=h'' }:=by
 have u:=J.base
 have k:∀b o,b≠C→s'.heap.get? b=some o→h''.get? b=some o:=fun b o hb e=>hs.extBut b o hb e
 have hn:H' C=none:=J.free
 have lt:∀b o,s.heap.get? b=some o→b≠C:=fun b o e=>by rw [hC];exact Nat.ne_of_lt (Heap.lt_size e)
 refine I.call' (s':={ s' with heap:=h'' }) (ch:=fp) J.os ?_ ?_ J.bare fun b hb=>⟨(hf b hb).2.2.2.1,(hf b hb).2.1,(hf b hb).2.2.2.2.1,(hf b hb).2.2.2.2.2⟩
 ·exact⟨fun b o q n hb he=>k b o (lt b o q) (u.keep b o q n hb he),fun b o q n hb he=>by
    obtain⟨sl,e⟩:=u.slot b o q n hb he
    exact⟨sl,k b _ (lt b o q) e⟩,u.free,fun b o q he=>by
    obtain⟨o',e⟩:=u.there b o q he
    exact⟨o',k b _ (lt b o q) e⟩,u.tups,u.frzs,u.tbls⟩
 ·intro b o e
  have nit:∀b u,H' b=some u→b≠C:=fun b u e z=>by rw [z,hn] at e;cases e
  refine(J.hok b o e).stay (fun c v hc q=>k c v ?_ q) (fun _ q=>q) fun _ _ q=>q
  rcases hc with z | z
  ·rw [z];exact nit b o e
  ·exact nit c _ z
theorem KQ {tg iter elt:Expr}{ifs:List Expr}{scope:Scope}{own fr:List Str}{ix:List Nat}{g:TG}{tt:TT}{te:TE}{pos:Pos}{Q:VK}{sF:Shared}{HF:Hp}{C acc it:Addr}{h₁:Heap}{fp:List Addr}{tn:Nat→Heap→Prop}{J:It}{W:Nat→Nat→List V→Hp→Prop}{m:Str→Option Value}{m0:Nat}{RR:Result→Shared→Prop}
  (hc:X.calm=true) (B:zaL X scope own fr ix)
  (hg:∀pins C sF HF fp,PG (qe X pins (own++fr) scope C sF HF fp) tg g) (ht:∀pins C sF HF fp,PTs (qe X pins (own++fr) scope C sF HF fp) ifs tt) (he:∀pins C sF HF fp,PE (qe X pins (own++fr) scope C sF HF fp) elt te)
  (I3:Inv X pins σ HF sF) (T:Turn X.prog X.w X.K tg J fp it tn) (st3:tn 0 sF.heap) (f3:∀b∈fp,FpOk X pins HF b) (f3':∀b∈fp,∃o,sF.heap.get? b=some o) (hC:sF.heap.objs.size=C) (old:∀b o,sF.heap.get? b=some o→h₁.get? b=some o) (hns₁:h₁.Ns C m)
  (w0:W 0 m0 [] HF) (turn:∀i m ys H2,W i m ys H2→H2 acc=some (.lst ys)∧((J.stop i H2∧Q (.ref acc) H2)∨(J.go i H2∧ys.length<sizeLine∧∀x H3,J.yld i H2 x H3→g x (jk own.length ix σ) H3 fun σ4 H4=>σ4.drop own.length=ix.map (fun i=>(σ[i]?).getD none)∧tt σ4 H4 fun ok H5=>
   if ok=true then te σ4 H5 fun y H6=>H6 acc=some (.lst ys)∧∃m',m'<m∧W (i+1) m' (ys++[y]) (upd H6 acc (.lst (ys++[y])))
   else ∃m',m'<m∧W (i+1) m' ys H5)))
  (fin:∀s6 H5,Inv (qe X pins (own++fr) scope C sF HF fp) [] (jk own.length ix σ) H5 s6→Q (.ref acc) H5→RR (.ok .next) s6) :
  codeAny (model X.prog X.w) X.A (.compStart (.ListComp elt [⟨tg,iter,ifs,0⟩] scope pos) 0 (.ref it) (.ref acc) (compEnvC scope (xX X.env scope.names []) C X.env)) RR
   { sF with heap:=h₁,toks:=sF.toks+([]:List (Str×Value)).length }:=by
 have J0:Inv (qe X pins (own++fr) scope C sF HF fp) [] (jk own.length ix σ) HF { sF with heap:=h₁,toks:=sF.toks+([]:List (Str×Value)).length }:=zbC I3 B hC.symm f3 f3' old hns₁
 have st4:tn 0 h₁:=T.keep _ _ _ st3 fun b _ o e=>old b o e
 have fY:∀{pl:List (Addr×Obj)} {H':Hp},(∀b∈fp,H' b=none)→(∀p∈pl,p.1 ∉ fp)→∀b∈fp,FpOk (qe X pins (own++fr) scope C sF HF fp) pl H' b:=fun {pl H'} hn hp b hb=>by
  refine⟨hn b hb,(J0.ok.exf b hb).1,J0.ok.exfs b hb,.inl hb,(J0.ok.exf b hb).2,fun p hpm=>?_⟩
  rcases List.mem_append.mp hpm with z | z
  ·exact(f3 b hb).2.2.2.2.2 p z
  ·exact fun e=>hp p z (by rw [e];exact hb)
 have weak:∀{pl:List (Addr×Obj)}{σ4:St}{H4:Hp}{s4:Shared},Inv (qe X pins (own++fr) scope C sF HF fp) pl σ4 H4 s4→σ4.drop own.length=ix.map (fun i=>(σ[i]?).getD none)→Inv (qe X pins (own++fr) scope C sF HF fp) pl (jk own.length ix σ) H4 s4:=fun {pl σ4 H4 s4} J e=>by
  refine J.weak ?_ fun i v hv=>?_
  ·have:=J.len
   have:=J0.len
   omega
  ·have hv':(List.replicate own.length none++ix.map fun i=>(σ[i]?).getD none)[i]?=some (some v):=hv
   by_cases hi:i<own.length
   ·rw [List.getElem?_append_left (by rw [List.length_replicate];exact hi),List.getElem?_replicate,if_pos hi] at hv'
    cases hv'
   ·rw [List.getElem?_append_right (by rw [List.length_replicate];omega),List.length_replicate,← e,List.getElem?_drop] at hv'
    rw [show own.length+(i-own.length)=i by omega] at hv'
    exact hv'
 have loop:∀s4:Shared,s4={ sF with heap:=h₁,toks:=sF.toks+([]:List (Str×Value)).length } →
   codeAny (model X.prog X.w) X.A (.compLoop (.ListComp elt [⟨tg,iter,ifs,0⟩] scope pos) 0 (.ref it) (.ref acc) (compEnvC scope (xX X.env scope.names []) C X.env)) RR s4:=by
  rintro s4 rfl
  refine Qq (fun n s'=>∃i ys H',Inv (qe X pins (own++fr) scope C sF HF fp) [] (jk own.length ix σ) H' s'∧tn i s'.heap∧(∀b∈fp,H' b=none)∧W i n ys H') ?_ m0 ⟨0,[],HF,J0,st4,fun b hb=>(f3 b hb).1,w0⟩
  rintro n s5 ⟨i,ys,H5,J5,st5,fr5,w5⟩
  obtain⟨ha,hturn⟩:=turn i n ys H5 w5
  rcases hturn with ⟨stop,qn⟩ | ⟨go,hsz,step⟩
  ·refine thn (T.done (qe X pins (own++fr) scope C sF HF fp) rfl rfl rfl hc i [] s5 _ H5 (fun _ _=>False) J5 (fY fr5 (fun _ z=>by cases z)) st5 stop) fun r s6 ⟨hr,J6⟩=>?_
   subst hr
   exact fin s6 H5 J6 qn
  ·refine thn (T.item (qe X pins (own++fr) scope C sF HF fp) rfl rfl rfl hc i [] s5 _ H5 (fun _ _=>False) J5 (fY fr5 (fun _ z=>by cases z)) st5 go) fun r s6 ⟨u,hr,h6⟩=>?_
   subst hr
   refine thn h6 fun _ s7 ⟨x,H7,J7,r7,y7,st7,fr7⟩=>?_
   have J7':=J7.pinned (fY fr7 (fun _ z=>by cases z)) (T.obj _ _ st7)
   refine thn (hg pins C sF HF fp _ s7 _ H7 x u _ J7' r7 (step x H7 y7)) fun _ s8 ⟨σ8,H8,J8,k8,q8⟩=>?_
   have back:∀{s9:Shared}{H9:Hp},Inv (qe X pins (own++fr) scope C sF HF fp) ([]++pinsAt fp s7.heap) σ8 H9 s9→Inv (qe X pins (own++fr) scope C sF HF fp) [] (jk own.length ix σ) H9 s9∧tn (i+1) s9.heap∧∀b∈fp,H9 b=none:=fun {s9 H9} J9=>by
    refine⟨weak J9.unpinned k8,T.keep _ _ _ st7 fun b hb o e=>(J9.pin (b,o) (List.mem_append_right _ (List.mem_append_right _ (mem_pinsAt hb e)))).1,fun b hb=>?_⟩
    obtain⟨o,e,d⟩:=T.obj _ _ st7 b hb
    exact(J9.pin (b,o) (List.mem_append_right _ (List.mem_append_right _ (mem_pinsAt hb e)))).2.1
   refine thn (ht pins C sF HF fp _ s8 σ8 H8 _ J8 q8) fun ok s9 ⟨H9,J9,q9⟩=>?_
   cases ok with
   | false=>
    obtain⟨m',hm,w9⟩:=q9
    obtain⟨b1,b2,b3⟩:=back J9
    exact⟨m',hm,i+1,ys,H9,b1,b2,b3,w9⟩
   | true=>
    refine thn (he pins C sF HF fp _ s9 σ8 H9 _ J9 q9) fun v s10 ⟨y,H10,J10,r10,a10,m',hm,w10⟩=>?_
    refine thn (mt_append _ s10 σ8 H10 (.ref acc) [y] (.ref acc) [v] (fun _ H'=>H'=upd H10 acc (.lst (ys++[y]))) J10 rfl (.cons r10 .nil) ⟨acc,ys,y,rfl,rfl,a10,hsz,rfl⟩) fun _ s11 ⟨_,H11,J11,_,e11⟩=>?_
    subst e11
    obtain⟨b1,b2,b3⟩:=back J11
    exact⟨m',hm,i+1,ys++[y],_,b1,b2,b3,w10⟩
 exact codeAny_compStart_list (loop _ rfl) (T.self _ 0 _ _ _ st4 (loop _ rfl))
theorem jT {tg iter elt:Expr}{ifs:List Expr}{scope:Scope}{own fr:List Str}{ix:List Nat}{wi:TI}{g:TG}{tt:TT}{te:TE}{pos:Pos} (hc:X.calm=true) (BB:zaM X scope own fr ix) (hi:PI X tg iter wi)
  (hg:∀pins C sF HF fp,PG (qe X pins (own++fr) scope C sF HF fp) tg g) (ht:∀pins C sF HF fp,PTs (qe X pins (own++fr) scope C sF HF fp) ifs tt) (he:∀pins C sF HF fp,PE (qe X pins (own++fr) scope C sF HF fp) elt te)
  (hs:∀x,foldedSetIterable iter X.env x=pure x:=by intro _;rfl):PE X (.ListComp elt [⟨tg,iter,ifs,0⟩] scope pos) (zgz wi own.length ix g tt te):=by
 intro pins s σ H Q I h
 have B:=BB.ok I.ok
 rw [eval_ListComp]
 refine wpAny_comprehension_free (use:=none) rfl hs (KN B.free) B.kind B.names (thn (hi pins s σ H _ I h) fun xv s1 h1=>thn h1 fun itv s2 h2=>?_)
 obtain⟨it,fp,tn,J,H2,rfl,I2,T,st2,f2,R⟩:=h2
 refine wpAny_newObj_type (wpAny_newFunctionEnv B.nocell (by intro y hy;simp at hy) (fun h₁ hns₁ hsb₁=>?_) B.kind)
 dsimp only at hns₁ hsb₁
 have I3:=I2.lnew (t':=s2.toks) (its:=[]) (ys:=[]) .nil (Nat.zero_le _)
 obtain⟨W,⟨m0,w0⟩,turn⟩:=R _ I2.fresh
 have fF:∀b∈fp,∃o,s2.heap.get? b=some o:=fun b hb=>let ⟨o,e,_⟩:=T.obj _ _ st2 b hb;⟨o,e⟩
 have zfB:∀b∈fp,b≠s2.heap.objs.size:=fun b hb=>let ⟨o,e⟩:=fF b hb;Nat.ne_of_lt (Heap.lt_size e)
 have push:∀b o,s2.heap.get? b=some o→(s2.heap.push { cls:=.type "list",data:=.seq ([]:List Value).toArray }).get? b=some o:=fun b o e=>Heap.get?_push_of_some _ e
 exact KQ hc B hg ht he I3 T (T.keep _ _ _ st2 fun b _ o e=>push b o e) (fun b hb=>⟨by rw [upd_ne (zfB b hb)];exact(f2 b hb).1,(f2 b hb).2⟩) (fun b hb=>let ⟨o,e⟩:=fF b hb;⟨o,push b o e⟩) rfl
  (fun b o e=>hsb₁.extBut b o (Nat.ne_of_lt (Heap.lt_size e)) (Heap.get?_push_of_some _ e)) hns₁ w0 turn fun s6 H5 J6 qn=>by
   obtain⟨m6,hn6,_⟩:=J6.loc
   exact⟨m6,hn6,fun h' hs'=>⟨.ref _,H5,zad I3 (fun b hb=>⟨by rw [upd_ne (zfB b hb)];exact(f2 b hb).1,(f2 b hb).2⟩) rfl J6 hs',rfl,qn⟩⟩
theorem Xo {tg iter elt:Expr}{ifs:List Expr}{scope:Scope}{own fr:List Str}{ix:List Nat}{wi:TI}{g:TG}{tt:TT}{te:TE}{pos spos py:Pos}{k:Nat}{y:Str} (hc:X.calm=true) (hN:X.N.Nodup) (hk:X.N[k]?=some y) (hy:X.env.scope.names.lookup y=some .local) (BB:zaM X scope own fr ix) (hi:PI X tg iter wi)
  (hg:∀pins C sF HF fp,PG (qe X pins (own++fr) scope C sF HF fp) tg g) (ht:∀pins C sF HF fp,PTs (qe X pins (own++fr) scope C sF HF fp) ifs tt) (he:∀pins C sF HF fp,PE (qe X pins (own++fr) scope C sF HF fp) elt te)
  (hsw:swapsWith (.ListComp elt [⟨tg,iter,ifs,0⟩] scope pos) (some (.Name y py)) spos.line X.env=pure true:=by rfl)
  (hs:∀x,foldedSetIterable iter X.env x=pure x:=by intro _;rfl):PS X (.Assign [.Name y py] (.ListComp elt [⟨tg,iter,ifs,0⟩] scope pos) spos) (tAsg (zgz wi own.length ix g tt te) (gName k)):=by
 intro pins s σ H D I h
 have B:=BB.ok I.ok
 rw [exec_Assign_Name_used _ _ _ _ hsw]
 refine wpAny_bind (wpAny_standAt (wpAny_bind ?_))
 show wpAny _ X.A (do let _ ← comprehension (.ListComp elt [⟨tg,iter,ifs,0⟩] scope pos) scope X.env _ (newList []) false (eval iter X.env) (some (assign (.Name y py) X.env))) _ _ s
 refine wpAny_bind (wpAny_mono (wpAny_comprehension_free (use:=some (assign (.Name y py) X.env)) (Q:=fun _ s'=>SP X pins D .next s') rfl hs (KN B.free) B.kind B.names
  (thn (hi pins s σ H _ I h) fun xv s1 h1=>thn h1 fun itv s2 h2=>?_)) (fun _ s' hq=>wpAny_pure (wpAny_pure hq)) fun _ _ e=>e)
 obtain⟨it,fp,tn,J,H2,rfl,I2,T,st2,f2,R⟩:=h2
 refine wpAny_newObj_type (wpAny_newFunctionEnv B.nocell (by intro y hy;simp at hy) (fun h₁ hns₁ hsb₁=>?_) B.kind)
 dsimp only at hns₁ hsb₁
 have I3:=I2.lnew (t':=s2.toks) (its:=[]) (ys:=[]) .nil (Nat.zero_le _)
 obtain⟨W,⟨m0,w0⟩,turn⟩:=R _ I2.fresh
 have fF:∀b∈fp,∃o,s2.heap.get? b=some o:=fun b hb=>let ⟨o,e,_⟩:=T.obj _ _ st2 b hb;⟨o,e⟩
 have zfB:∀b∈fp,b≠s2.heap.objs.size:=fun b hb=>let ⟨o,e⟩:=fF b hb;Nat.ne_of_lt (Heap.lt_size e)
 have push:∀b o,s2.heap.get? b=some o→(s2.heap.push { cls:=.type "list",data:=.seq ([]:List Value).toArray }).get? b=some o:=fun b o e=>Heap.get?_push_of_some _ e
 have f3:∀b∈fp,FpOk X pins (upd H2 s2.heap.objs.size (.lst [])) b:=fun b hb=>⟨by rw [upd_ne (zfB b hb)];exact(f2 b hb).1,(f2 b hb).2⟩
 refine KQ (Q:=fun x H1=>gName k x σ H1 D.nx) hc B hg ht he I3 T (T.keep _ _ _ st2 fun b _ o e=>push b o e) f3 (fun b hb=>let ⟨o,e⟩:=fF b hb;⟨o,push b o e⟩) rfl
  (fun b o e=>hsb₁.extBut b o (Nat.ne_of_lt (Heap.lt_size e)) (Heap.get?_push_of_some _ e)) hns₁ w0 turn fun s6 H5 J6 qn=>?_
 have I6:Inv X pins σ H5 { s6 with heap:=s6.heap }:=zad I3 f3 rfl J6 (Heap.SameBut.refl ..)
 have I6:Inv X pins σ H5 s6:=I6
 obtain⟨m6,⟨o6,es6,ep6,ho6,rest6⟩,_⟩:=id J6.loc
 have sz:∀b o,(s2.heap.push { cls:=.type "list",data:=.seq ([]:List Value).toArray }).get? b=some o→b≠(s2.heap.push { cls:=.type "list",data:=.seq ([]:List Value).toArray }).objs.size:=fun b o e=>Nat.ne_of_lt (Heap.lt_size e)
 have hge:X.s₀.heap.objs.size≤(s2.heap.push { cls:=.type "list",data:=.seq ([]:List Value).toArray }).objs.size:=I3.sz
 have hloc:(s2.heap.push { cls:=.type "list",data:=.seq ([]:List Value).toArray }).objs.size≠X.env.locals:=fun z=>by
  have:=I3.lt
  rw [← z] at this
  exact Nat.lt_irrefl _ this
 have hfs:(s2.heap.push { cls:=.type "list",data:=.seq ([]:List Value).toArray }).objs.size ∉ X.fs:=I3.nofs (Nat.le_refl _)
 have hcell:∀x c,X.env.cells.lookup x=some c→c≠(s2.heap.push { cls:=.type "list",data:=.seq ([]:List Value).toArray }).objs.size:=fun x c e=>by
  obtain⟨v,ob,hob,_⟩:=I3.cell x c e
  exact sz _ _ hob
 have hpin:∀p∈X.pn++pins,p.1≠(s2.heap.push { cls:=.type "list",data:=.seq ([]:List Value).toArray }).objs.size:=fun p hp=>sz _ _ (I3.pin p hp).1
 have I7:Inv X (pins++[((s2.heap.push { cls:=.type "list",data:=.seq ([]:List Value).toArray }).objs.size,o6)]) σ H5 s6:=I6.pins_of fun p hp=>by
  rcases List.mem_append.mp hp with z | z
  ·exact I6.pin p (List.mem_append_right _ z)
  ·rw [List.mem_singleton.mp z]
   refine⟨ho6,J6.free,hloc,hfs,fun v z=>?_⟩
   rw [rest6.1] at z
   cases z
 refine wpAny_assign_Name (store_ok (v:=.ref s2.heap.objs.size) I7 hN hk (.inl hy) rfl (fun s8 I8=>?_) (.inr hy))
 have h8:=(I8.pin ((s2.heap.push { cls:=.type "list",data:=.seq ([]:List Value).toArray }).objs.size,o6) (List.mem_append_right _ (List.mem_append_right _ (List.mem_singleton.mpr rfl)))).1
 refine⟨m6,⟨o6,es6,ep6,h8,rest6⟩,fun h' hs'=>⟨_,H5,(I8.unpinned).turned (t':=s8.toks) (fun b o hb e=>hs'.extBut b o hb e) J6.free hloc (.inr hge) hcell hpin,qn⟩⟩
end
end L2
namespace L2
open PySem PySem.Spec PyProof.Rows PySem.SeqAt
section
variable {X:Cx}{pins:List (Addr×Obj)}{σ:St}{H:Hp}{s:Shared}
theorem Inv.ints (I:Inv X pins σ H s){a:Addr}{ns:List Int} (h:SqL X.K H a (ns.map V.int)):∃vs:List Value,s.heap.IsList a vs.toArray∧IntsAre vs ns∧ns.length≤sizeLine:=by
 obtain⟨its,r,p,z⟩:=I.list h
 exact⟨its,p.isList,intsAre_of r,by rwa [List.length_map] at z⟩
end
section
variable {X:Cx}
theorem zek (hc:X.calm=true):CallR X (.builtin "all") (fun xs H Q=>∃(p:Addr) (bs:List Bool),xs=[.ref p]∧SqL X.K H p (bs.map V.bl)∧Q (.bl (bs.all id)) H):=by
 intro pins s σ H xs us Q I r h
 obtain⟨p,bs,rfl,hq,q⟩:=h
 obtain⟨u,rfl,ru⟩:=vals1 r
 cases ru
 obtain⟨its,rv,pl,hz⟩:=I.list hq
 have hl:=pl.isList
 have hlt:p<s.heap.objs.size:=by obtain⟨_,e,_⟩:=hl;exact Heap.lt_size e
 refine call_all_walk (wpAny_pyIter_list hl ?_)
 refine⟨s.heap.objs.size,[s.heap.objs.size,p],[s.heap.objs.size],its.toArray.size,_,_,fun i=>(bs[i]?).getD true,rfl,Walks.list (A:=X.A.in1) (I.ok.hd hc) _ p (Nat.ne_of_lt hlt) its.toArray,
  ⟨⟨_,Heap.get?_push_size _ rfl,rfl,rfl⟩,hl.push _⟩,fun i v s' Q' E' hP hQ=>?_,fun h' tk hk=>?_⟩
 ·have hP':its[i]?=some v:=by simpa using hP
  have zgN:bs.length=its.length:=by have:=rv.length;rwa [List.length_map] at this
  have hi:i<bs.length:=by rw [zgN];exact(List.getElem?_eq_some_iff.mp hP').1
  obtain⟨w,ew,rw'⟩:=rv.get (x:=V.bl bs[i]) (i:=i) (by rw [List.getElem?_map,List.getElem?_eq_getElem hi];rfl)
  rw [hP'] at ew
  cases ew
  cases (show v=Value.bool bs[i] from rw')
  simp only [List.getElem?_eq_getElem hi,Option.getD_some] at hQ
  exact wpAny_truthy_bool hQ
 ·have e:((List.range its.toArray.size).all fun i=>(bs[i]?).getD true)=bs.all id:=by
   have zgN:bs.length=its.length:=by have:=rv.length;rwa [List.length_map] at this
   rw [List.size_toArray,← zgN];exact PyProof.Rows.LSm.range_all bs
  rw [e]
  exact⟨.bl _,H,I.kept (PyProof.Rows.LSm.kept_iter hk),rfl,q⟩
end
end L2
namespace L2
open PySem PySem.Spec PyProof.Rows
theorem Same.wr {H H':Hp}{p:Addr}{o:HO} (s:Same H H') (h:H p=Option.none):Same H (upd H' p o):=fun b u e=>by
 rw [upd_ne (ne_of_none e h)]
 exact s b u e
theorem zfC {A:Around}{k:Nat} (hr:Room k A):A.units+64<cLine:=hr.units
theorem Jr (K:W.Frag):W.kitOne K (.type "list") (.type "list")=some true:=by with_unfolding_all rfl
section
variable {X:Cx}
theorem KR (K:W.Frag) (hK:X.K=K:=by rfl):IxR X (rIxL K):=by subst hK;exact ix_list
theorem Kp (K:W.Frag) (hK:X.K=K:=by rfl):IxR X (rIxT K):=by subst hK;exact ix_tup
theorem zaN (K:W.Frag){es:List Expr}{k:Nat}{t:TGs}{n:Nat}{pos:Pos} (hc:X.calm=true) (h:PGs X es t) (hK:X.K=K:=by rfl)
  (hn:(assignEach es X.env).length=n:=by rfl) (hst:(assignEach es X.env).findIdx? (·.1)=none:=by rfl):PG X (.Tuple es k pos) (gTup K n t):=by subst hK;exact pg_tup hc h hn hst
end
theorem xH {K:W.Frag}{a acc:Addr}{xs:List V}{own:Nat}{ix:List Nat}{g:TG}{te:TE}{σ:St}{H1:Hp}{Q:VK} (f:Nat→V) (hq:SqL K H1 a xs) (hn:H1 acc=none) (hz:xs.length≤sizeLine)
  (step:∀i x H (R:VK),xs[i]?=some x→Same H1 H→R (f i) H→g x (jk own ix σ) H fun σ4 H4=>σ4.drop own=ix.map (fun i=>(σ[i]?).getD none)∧te σ4 H4 R)
  (hd:Q (.ref acc) (upd H1 acc (.lst ((List.range xs.length).map f)))) :
  Qs (Itl K a) own ix g yP te σ H1 acc Q:=by
 refine⟨fun i m ys H=>m=xs.length-i∧i≤xs.length∧ys=(List.range i).map f∧H=upd H1 acc (.lst ys),⟨xs.length,by simp,Nat.zero_le _,rfl,rfl⟩,?_⟩
 rintro i m ys H ⟨rfl,hi,rfl,rfl⟩
 have q:SqL K (upd H1 acc (.lst ((List.range i).map f))) a xs:=(Same.new hn).seq hq
 refine⟨upd_same,?_⟩
 by_cases hlt:i<xs.length
 ·refine .inr ⟨⟨xs,xs[i],q,by simp [hlt]⟩,by rw [List.length_map,List.length_range];omega,fun x H3 y=>?_⟩
  obtain⟨e,y⟩:=y
  subst e
  exact step i x _ _ (y xs q) (Same.new hn) ⟨upd_same,xs.length-(i+1),by omega,rfl,hlt,by rw [List.range_succ,List.map_append];rfl,by rw [upd_upd]⟩
 ·have e:i=xs.length:=by omega
  subst e
  exact .inl ⟨⟨xs,q,Nat.le_refl _⟩,hd⟩
theorem Inv.turns {X:Cx}{pins:List (Addr×Obj)}{σ:St}{H:Hp}{s:Shared} {h':Heap}{ch:List Addr} {t':Nat} (I:Inv X pins σ H s) (hf:∀b∈ch,FpOk X pins H b) (k:∀b o,b ∉ ch→s.heap.get? b=some o→h'.get? b=some o) :
  Inv X pins σ H { s with heap:=h',toks:=t' }:=by
 have nit:∀b u,H b=some u→b ∉ ch:=fun b u e z=>by rw [(hf b z).1] at e;cases e
 refine I.step (g':=s.gens) (d':=s.drawn) (ch:=ch) (fun b hb=>⟨(hf b hb).2.2.2.1,(hf b hb).2.1,(hf b hb).2.2.2.2.1,(hf b hb).2.2.2.2.2⟩) (fun b o _ _ hc e _=>k b o hc e) (fun b o _ _ hc e _=>⟨o.slots,k b o hc e⟩) (fun _ _ _ _ n=>n)
  (fun b o hc e=>⟨o,k b o hc e⟩) (fun _ _ e=>e) (fun _ _ _ e=>e) (fun b ps e=>⟨#[],by rw [e];simp⟩) (fun m hm=>?_) (fun b u e=>?_) I.bare
 ·obtain⟨o,es,ep,ho,r⟩:=hm
  exact⟨o,es,ep,k _ o (fun z=>(hf _ z).2.1 rfl) ho,r⟩
 ·refine(I.hok b u e).stay (fun c v hc q=>k c v ?_ q) (fun _ q=>q) fun _ _ q=>q
  rcases hc with z | z
  ·rw [z];exact nit b u e
  ·exact nit c _ z
theorem Inv.turnsT {X:Cx}{pins:List (Addr×Obj)}{σ:St}{H:Hp}{s:Shared} {h':Heap}{ch:List Addr} {t':Nat}{T:Addr}{xs:List V}{its:List Value} (I:Inv X pins σ H s) (hf:∀b∈ch,FpOk X pins H b) (k:∀b o,b ∉ ch→s.heap.get? b=some o→h'.get? b=some o)
  (hT:s.heap.objs.size≤T) (r:Vals xs its) (ht:IsTup h' T its.toArray) (hz:xs.length≤sizeLine):Inv X pins σ (upd H T (.tup xs)) { s with heap:=h',toks:=t' }:=by
 have hn:H T=none:=I.hok.fresh hT
 have nit:∀b u,H b=some u→b ∉ ch:=fun b u e z=>by rw [(hf b z).1] at e;cases e
 have lt:∀b o,s.heap.get? b=some o→b≠T:=fun b o e=>Nat.ne_of_lt (Nat.lt_of_lt_of_le (Heap.lt_size e) hT)
 refine I.step (g':=s.gens) (d':=s.drawn) (ch:=ch) (fun b hb=>⟨(hf b hb).2.2.2.1,(hf b hb).2.1,(hf b hb).2.2.2.2.1,(hf b hb).2.2.2.2.2⟩) (fun b o _ _ hc e _=>k b o hc e) (fun b o _ _ hc e _=>⟨o.slots,k b o hc e⟩) (fun b o _ e n=>by rw [upd_ne (lt b o e)];exact n)
  (fun b o hc e=>⟨o,k b o hc e⟩) (fun b ys e=>by rw [upd_ne (ne_of_none e hn)];exact e) (fun b o u e=>by rw [upd_ne (ne_of_none e hn)];exact e) (fun b ps e=>⟨#[],by rw [upd_ne (ne_of_none e hn),e];simp⟩) (fun m hm=>?_) (fun b u e=>?_) I.bare
 ·obtain⟨o,es,ep,ho,r⟩:=hm
  exact⟨o,es,ep,k _ o (fun z=>(hf _ z).2.1 rfl) ho,r⟩
 ·by_cases hb:b=T
  ·subst hb
   rw [upd_same] at e
   cases e
   exact⟨hz,its,r,ht⟩
  ·rw [upd_ne hb] at e
   refine(I.hok b u e).stay (fun c v hc q=>k c v ?_ q) (fun c q=>?_) fun c w q=>?_
   ·rcases hc with z | z
    ·rw [z];exact nit b u e
    ·exact nit c _ z
   ·rw [upd_ne (ne_of_none q hn)];exact q
   ·rw [upd_ne (ne_of_none q hn)];exact q
section
variable {X:Cx}
end
end L2
namespace Bw
noncomputable def C:Nat→Nat→Nat
 | _,0=>1
 | 0,_+1=>0
 | n+1,k+1=>C n k+C n (k+1)
theorem JD (n:Nat):C n 0=1:=by cases n <;> rfl
theorem zbD (k:Nat):C 0 (k+1)=0:=rfl
theorem yW (n k:Nat):C (n+1) (k+1)=C n k+C n (k+1):=rfl
theorem Q8:∀(n k:Nat),n<k→C n k=0
 | n,0,h=>absurd h (Nat.not_lt_zero _)
 | 0,_+1,_=>rfl
 | n+1,k+1,h=>by
  rw [yW,Q8 n k (by omega),Q8 n (k+1) (by omega)]
theorem zel:∀n:Nat,C n n=1
 | 0=>rfl
 | n+1=>by rw [yW,zel n,Q8 n (n+1) (by omega)]
theorem zem:∀n:Nat,C n 1=n
 | 0=>rfl
 | n+1=>by rw [yW,JD,zem n];omega
theorem zaO:∀(n k:Nat),(k+1)*C n (k+1)+k*C n k=n*C n k
 | 0,0=>by simp [C]
 | 0,k+1=>by simp [C]
 | n+1,0=>by rw [zem,JD];omega
 | n+1,k+1=>by
  have h1:=zaO n k
  have h2:=zaO n (k+1)
  rw [yW n (k+1),yW n k]
  have e1:(k+1+1)*(C n (k+1)+C n (k+1+1))=(k+1+1)*C n (k+1)+(k+1+1)*C n (k+1+1):=Nat.mul_add _ _ _
  have e2:(k+1)*(C n k+C n (k+1))=(k+1)*C n k+(k+1)*C n (k+1):=Nat.mul_add _ _ _
  have e3:(n+1)*(C n k+C n (k+1))=(n*C n k+C n k)+(n*C n (k+1)+C n (k+1)):=by rw [Nat.mul_add,Nat.succ_mul,Nat.succ_mul]
  have e4:(k+1+1)*C n (k+1)=(k+1)*C n (k+1)+C n (k+1):=Nat.succ_mul _ _
  have e5:(k+1)*C n k=k*C n k+C n k:=Nat.succ_mul _ _
  rw [e1,e2,e3,e4,e5]
  omega
theorem zdj {n k:Nat} (h:k≤n):(k+1)*C n (k+1)=C n k*(n-k):=by
 have e:=zaO n k
 have e2:C n k*(n-k)+k*C n k=n*C n k:=by
  rw [Nat.mul_comm (C n k),← Nat.add_mul,Nat.sub_add_cancel h]
 omega
theorem zgA {n k:Nat} (h:k≤n):C n k*(n-k) / (k+1)=C n (k+1):=by
 rw [← zdj h,Nat.mul_div_cancel_left _ (Nat.succ_pos k)]
theorem zbE:∀(n k:Nat),C n k≤n ^ k
 | n,0=>by rw [JD];exact Nat.le_refl _
 | n,k+1=>by
  have ih:=zbE n k
  by_cases h:k≤n
  ·rw [← zgA h,Nat.pow_succ]
   refine Nat.le_trans (Nat.div_le_self _ _) ?_
   exact Nat.mul_le_mul ih (Nat.sub_le _ _)
  ·rw [Q8 n (k+1) (by omega)];exact Nat.zero_le _
noncomputable def ch (n k:Int):Int:=(C n.toNat k.toNat:Nat)
theorem Vb (n k:Int):0≤ch n k:=Int.natCast_nonneg _
theorem JF (n k:Nat):ch (n:Int) (k:Int)=(C n k:Nat):=by
 unfold ch;rw [Int.toNat_natCast,Int.toNat_natCast]
theorem Xp {n k:Int} (h0:0≤n) (h:n<k):ch n k=0:=by
 unfold ch;rw [Q8 _ _ (by omega)];rfl
theorem ZM (n:Int):ch n 0=1:=by
 unfold ch;rw [show (0:Int).toNat=0 from rfl,JD];rfl
theorem zaP {n k:Int} (hn:0≤n) (hk:0≤k):ch (n+1) (k+1)=ch n k+ch n (k+1):=by
 unfold ch
 rw [show (n+1).toNat=n.toNat+1 by omega,show (k+1).toNat=k.toNat+1 by omega,yW]
 omega
theorem zfD {n:Int}{i:Nat} (hn:(i:Int)≤n):ch n i*(n-i) / ((i:Int)+1)=ch n ((i:Int)+1):=by
 unfold ch
 have e:n=((n.toNat:Nat):Int):=by omega
 have e1:((i:Int)+1).toNat=i+1:=by omega
 have e2:((i:Nat):Int).toNat=i:=by omega
 have e3:n-(i:Int)=((n.toNat-i:Nat):Int):=by omega
 rw [e1,e2,e3,← zgA (n:=n.toNat) (k:=i) (by omega)]
 have e4:((i:Int)+1)=((i+1:Nat):Int):=by omega
 rw [e4,← Int.natCast_mul,← Int.natCast_ediv]
noncomputable def fac:Nat→Int
 | 0=>1
 | i+1=>fac i*((i:Int)+1)
theorem KY (i:Nat):fac (i+1)=fac i*((i:Int)+1):=rfl
end Bw
namespace Bw
theorem zfE:∀(n k:Nat),C n k≤C (n+1) k
 | n,0=>by rw [JD,JD];exact Nat.le_refl _
 | n,k+1=>by rw [yW];omega
theorem zct {m n:Nat} (k:Nat) (h:m≤n):C m k≤C n k:=by
 induction h with
 | refl=>exact Nat.le_refl _
 | step _ ih=>exact Nat.le_trans ih (zfE _ _)
theorem zkN {n k:Nat} (h:k≤n):0<C n k:=by
 have:=zct k h
 rw [zel] at this
 omega
theorem KZ {n k:Nat} (h:0<C n k):k≤n:=by
 rcases Nat.lt_or_ge n k with z | z
 ·rw [Q8 n k z] at h;omega
 ·exact z
theorem zcu (n k:Nat):∀j:Nat,j≤n→C n (k+1)≤C (n-j) (k+1)+j*C (n-1) k
 | 0,_=>by simp
 | j+1,h=>by
  have ih:=zcu n k j (by omega)
  obtain⟨r,hr⟩:∃r,n-j=r+1:=⟨n-j-1,by omega⟩
  have e:n-(j+1)=r:=by omega
  have m:=zct (m:=r) (n:=n-1) k (by omega)
  rw [hr,yW] at ih
  rw [e,Nat.succ_mul]
  omega
theorem zdR {t k number:Nat} (h:number<C t (k+1)) (d:Nat) (hd:d=(C t (k+1)-number+C (t-1) k-1) / C (t-1) k) :
  0<C (t-1) k∧1≤d∧d≤t∧number<C (t-d+1) (k+1):=by
 have hk:k+1≤t:=KZ (by omega)
 have ho:0<C (t-1) k:=zkN (by omega)
 have hdm:d*C (t-1) k≤C t (k+1)-number+C (t-1) k-1:=by
  rw [hd];exact Nat.div_mul_le_self _ _
 have d1:1≤d:=by
  rw [hd];exact(Nat.le_div_iff_mul_le ho).mpr (by omega)
 have s:(d-1)*C (t-1) k+C (t-1) k=d*C (t-1) k:=by
  have e:d=d-1+1:=by omega
  conv=>rhs;rw [e,Nat.succ_mul]
 have lt:(d-1)*C (t-1) k<C t (k+1)-number:=by omega
 have dt:d-1≤t:=by
  rcases Nat.lt_or_ge t (d-1) with z | z
  ·have q:=zcu t k t (Nat.le_refl _)
   rw [Nat.sub_self,zbD] at q
   have w:t*C (t-1) k≤(d-1)*C (t-1) k:=Nat.mul_le_mul_right _ (by omega)
   omega
  ·exact z
 have q:=zcu t k (d-1) dt
 have gt:number<C (t-(d-1)) (k+1):=by omega
 have ge:=KZ (n:=t-(d-1)) (k:=k+1) (by omega)
 have e:t-d+1=t-(d-1):=by omega
 rw [e]
 exact⟨ho,d1,by omega,gt⟩
noncomputable def WT:Nat→Nat
 | 0=>1
 | i+1=>WT i*(i+1)
theorem zbF:∀{n k:Nat},k≤n→(n+1-k) ^ k≤C n k*WT k
 | n,0,_=>by rw [JD];exact Nat.le_refl _
 | n,k+1,h=>by
  have ih:=zbF (n:=n) (k:=k) (by omega)
  have st:=zdj (n:=n) (k:=k) (by omega)
  have e:C n (k+1)*WT (k+1)=C n k*WT k*(n-k):=by
   show C n (k+1)*(WT k*(k+1))=_
   rw [Nat.mul_comm (WT k),← Nat.mul_assoc,Nat.mul_comm (C n (k+1)),st,Nat.mul_assoc,Nat.mul_comm (n-k),← Nat.mul_assoc]
  rw [e]
  have e2:n+1-(k+1)=n-k:=by omega
  rw [e2,Nat.pow_succ]
  refine Nat.mul_le_mul_right _ (Nat.le_trans (Nat.pow_le_pow_left (by omega) k) ih)
theorem zbG {number k f:Nat} (h:number*WT k<2 ^ (f*k)):number<C (2 ^ f+k) k:=by
 rw [Nat.pow_mul] at h
 generalize 2 ^ f=p at h ⊢
 have q:=zbF (n:=p+k) (k:=k) (by omega)
 have e:p+k+1-k=p+1:=by omega
 rw [e] at q
 have r:p ^ k≤(p+1) ^ k:=Nat.pow_le_pow_left (by omega) k
 rcases Nat.lt_or_ge number (C (p+k) k) with z | z
 ·exact z
 ·have:=Nat.mul_le_mul_right (WT k) z
  omega
theorem zdk:∀i:Nat,fac i=(WT i:Nat)
 | 0=>rfl
 | i+1=>by
  rw [KY,zdk i]
  show _=((WT i*(i+1):Nat):Int)
  rw [Int.natCast_mul]
  rfl
structure zbH (k number t:Int):Prop where
 lo:k-1≤t
 le:ch t k≤number
 lt:number<ch (t+1) k
theorem Kq {m n k:Int} (h:m≤n):ch m k≤ch n k:=by
 unfold ch
 exact Int.ofNat_le.mpr (zct _ (by omega))
theorem zbH.unique {k number t u:Int} (a:zbH k number t) (b:zbH k number u):t=u:=by
 rcases (by omega:t=u∨t+1≤u∨u+1≤t) with e | e | e
 ·exact e
 ·have:=Kq (k:=k) e
  have h1:=a.lt
  have h2:=b.le
  omega
 ·have:=Kq (k:=k) e
  have h1:=b.lt
  have h2:=a.le
  omega
theorem zdS {n k:Int} (hn:0≤n) (h:0<ch n k):k≤n:=by
 rcases (by omega:k≤n∨n<k) with z | z
 ·exact z
 ·rw [Xp hn z] at h;omega
theorem zcv {t k number:Int} (hk:1≤k) (h0:0≤number) (ht:0≤t) (h:number<ch t k) (d:Int) (hd:d=(ch t k-number+ch (t-1) (k-1)-1) / ch (t-1) (k-1)) :
  k≤t∧0<ch (t-1) (k-1)∧1≤d∧k-1≤t-d∧number<ch (t-d+1) k:=by
 have kt:k≤t:=zdS ht (by omega)
 obtain⟨j,hj⟩:∃j:Nat,k=(j:Int)+1:=⟨(k-1).toNat,by omega⟩
 obtain⟨m,hm⟩:∃m:Nat,t=(m:Int):=⟨t.toNat,by omega⟩
 obtain⟨r,hr⟩:∃r:Nat,number=(r:Int):=⟨number.toNat,by omega⟩
 subst hj hm hr
 have e1:ch (m:Int) ((j:Int)+1)=(C m (j+1):Nat):=by
  rw [show ((j:Int)+1)=((j+1:Nat):Int) by omega,JF]
 have e2:ch ((m:Int)-1) ((j:Int)+1-1)=(C (m-1) j:Nat):=by
  rw [show ((m:Int)-1)=((m-1:Nat):Int) by omega,show ((j:Int)+1-1)=((j:Nat):Int) by omega,JF]
 rw [e1] at h
 rw [e1,e2] at hd
 have h':r<C m (j+1):=by omega
 obtain⟨s1,s2,s3,s4⟩:=zdR h' _ rfl
 have ed:d=(((C m (j+1)-r+C (m-1) j-1) / C (m-1) j:Nat):Int):=by
  rw [hd,Int.natCast_ediv]
  congr 1
  omega
 generalize (C m (j+1)-r+C (m-1) j-1) / C (m-1) j=dn at s2 s3 s4 ed
 subst ed
 have e3:ch ((m:Int)-(dn:Int)+1) ((j:Int)+1)=(C (m-dn+1) (j+1):Nat):=by
  rw [show ((m:Int)-(dn:Int)+1)=((m-dn+1:Nat):Int) by omega,show ((j:Int)+1)=((j+1:Nat):Int) by omega,JF]
 have le:=KZ (n:=m-dn+1) (k:=j+1) (by omega)
 rw [e2,e3]
 exact⟨kt,by omega,by omega,by omega,by omega⟩
theorem zgO {number k:Int}{F b:Nat} (hk:1≤k) (h0:0≤number) (hb:(number*fac k.toNat).natAbs<2 ^ b) (hF:(b:Int)≤(F:Int)*k):number<ch ((2:Int) ^ F+k-1+1) k:=by
 obtain⟨j,hj⟩:∃j:Nat,k=(j:Int):=⟨k.toNat,by omega⟩
 obtain⟨r,hr⟩:∃r:Nat,number=(r:Int):=⟨number.toNat,by omega⟩
 subst hj hr
 rw [Int.toNat_natCast,zdk,← Int.natCast_mul,Int.natAbs_natCast] at hb
 have hF':b≤F*j:=by
  have:((F*j:Nat):Int)=(F:Int)*(j:Int):=Int.natCast_mul _ _
  omega
 have s:=zbG (number:=r) (k:=j) (f:=F) (Nat.lt_of_lt_of_le hb (Nat.pow_le_pow_right (by decide) hF'))
 have e:(2:Int) ^ F+(j:Int)-1+1=((2 ^ F+j:Nat):Int):=by
  rw [Int.natCast_add,Int.natCast_pow]
  show _=(2:Int) ^ F+(j:Int)
  omega
 rw [e,JF]
 exact Int.ofNat_lt.mpr s
end Bw
namespace Bw
open PySem L2
open Builtin.Int (intBits)
variable {P:Program}{w:World}{K:W.Frag}{mg:Str→Option Value}{base:Heap}
noncomputable def Zu:Sp:=fun vs H Q _=>∃n k:Int,vs=[.int n,.int k]∧0≤n∧0≤k∧k≤1000∧intBits n≤100000∧Q (.int (ch n k)) H
noncomputable def zaQ:Sp:=fun vs H Q _=>∃a b:Int,vs=[.int a,.int b]∧0<b∧Q (.int ((a+b-1) / b)) H
noncomputable def zdl:Sp:=fun vs H Q _=>∃k number:Int,vs=[.int k,.int number]∧1≤k∧k≤60∧0≤number∧intBits number≤50000∧∀t:Int,k-1≤t→number<ch (t+1) k→intBits t≤60000→Q (.int t) H
theorem zP {x:Int}{m:Nat} (h1:0≤x) (h2:x<(2:Int) ^ m):intBits x≤m:=by
 refine intBits_le_iff.mpr ?_
 have e:((2 ^ m:Nat):Int)=(2:Int) ^ m:=by
  rw [Int.natCast_pow];rfl
 rw [← e] at h2
 omega
theorem zg {x:Int}{m n:Nat} (h:intBits x≤m) (hm:m≤n):intBits x≤n:=Nat.le_trans h hm
theorem Kr {n:Int}{k m:Nat} (h:intBits n≤m) (hn:0≤n):intBits (ch n k)≤m*k+1:=by
 refine intBits_le_of_natAbs (y:=n ^ k) ?_ (intBits_pow_le h k)
 unfold ch
 rw [Int.toNat_natCast]
 have e:n=((n.toNat:Nat):Int):=by omega
 have e2:(n ^ k).natAbs=n.toNat ^ k:=by
  rw [Int.natAbs_pow]
  congr 1
  omega
 rw [e2]
 have:=zbE n.toNat k
 omega
theorem zbI:∀i:Nat,i≤64→intBits (fac i)≤7*i+1
 | 0,_=>by decide
 | i+1,hi=>by
  rw [KY]
  exact zg (intBits_mul_le (m:=7*i+1) (n:=7) (zbI i (by omega)) (zP (by omega) (by omega))) (by omega)
end Bw
namespace L2
open PySem PySem.Spec PyProof.Rows
section
variable {X:Cx}
end
section
variable {prog:Program}{w:World}{A:Around}{E:Value→Shared→Prop}{s:Shared}
end
section
variable {X:Cx}
end
end L2
namespace L2
open PySem PySem.Spec PyProof.Rows
open PySem.W (hideAll of_hideAll hideAll_get)
noncomputable def CXE (P:Program) (w:World):CXT:=fun outer H s E e s'=>∃(x:Addr) (C a0:Value) (H':Hp) (B:Heap),e=.ref x∧s'.os=s.os∧AllBare s'.gens∧Heap.FlyingW B outer x C a0 s'.heap ∧
 (∀h3,B.StaysIn h3→s'.heap.UpToSlots h3→Un (frs outer) [] H H' s.heap h3∧HOk P w H' h3)∧s.heap.get? x=none∧H' x=none∧E C none H'
theorem zaR {K:W.Frag}{h:Heap}{C:Addr}{bmB:List Value}{newId:String} (X:K.In h) (q:W.excIn K C bmB newId=true) :
  ∃bm N nm q bs hdct sn sub ab col dd k0 k1 k2 k3 k5 mN,h.get? C=some (excClassObj nm q C N bs bm hdct sn sub ab col dd k0 k1 k2 k3 k5 newId)∧h.Ns N mN∧mN "__init__"=none∧OwnTail h bmB bm∧∀v b,W.mroIn K C v=some b→(Value.ref C::bm).contains v=b:=by
 unfold W.excIn at q
 split at q
 ·rename_i dd cd sl ho
  split at q
  ·rename_i C' bm k0 k1 k2 k3 n k5 hm hs
   simp only [Bool.and_eq_true,beq_iff_eq,Bool.not_eq_true'] at q
   obtain⟨⟨⟨⟨⟨rfl,rfl⟩,hdel⟩,ht⟩,hok⟩,hni⟩:=q
   obtain⟨nm,bs,mro,ns,qn,hd,sn,sub,ab,col,del⟩:=cd
   dsimp only at hm hdel hok hni
   subst hm hdel
   have hsl:sl=#[k0,k1,k2,k3,some (.builtin n),k5]:=by
    obtain⟨l⟩:=sl
    simp only at hs
    rw [hs]
   subst hsl
   exact⟨bm,ns,nm,qn,bs,hd,sn,sub,ab,col,dd,k0,k1,k2,k3,k5,_,X _ _ ho,.of_isNs (W.isNs_of_in X hok),W.nsMap_none_of_in X hok hni,W.tail_of_in X ht,fun v b e=>by
    unfold W.mroIn W.clsIn at e
    rw [ho] at e
    simpa using e⟩
  ·cases q
 ·cases q
theorem ObjOk.there {P:Program}{w:World}{H:Hp}{h:Heap}{a:Addr}{o:HO} (x:ObjOk P w H h a o):∃ob,h.get? a=some ob:=by
 cases o with
 | lst xs=>obtain⟨_,_,_,_,e⟩:=x;exact⟨_,e⟩
 | tup xs=>obtain⟨_,_,_,ob,e,_⟩:=x;exact⟨_,e⟩
 | dK kvs=>obtain⟨_,_,_,_,o,_,_,e,_⟩:=x;exact⟨_,e⟩
 | dT kvs=>obtain⟨_,_,_,_,o,_,_,e,_⟩:=x;exact⟨_,e⟩
 | set S n=>obtain⟨o,_,_,_,e,_⟩:=x;exact⟨_,e⟩
 | ins C dx fs=>obtain⟨_,_,_,e,_⟩:=x;exact⟨_,e⟩
 | own y=>obtain⟨_,e⟩:=x;exact⟨_,e⟩
 | xd fs=>obtain⟨_,⟨_,_,_,e,_⟩,_⟩:=x;exact⟨_,e⟩
 | rng lo hi=>obtain⟨_,_,_,e⟩:=x;exact⟨_,e⟩
 | frz ob u=>obtain⟨e,_⟩:=x;exact⟨_,e⟩
 | tbl ps=>exact⟨_,(show h.get? a=some _ from x)⟩
 | met f y=>exact⟨_,(show h.get? a=some _ from x)⟩
 | ext φ=>obtain⟨_,⟨_,e⟩,_⟩:=x;exact⟨_,e⟩
section
variable {P:Program}{w:World}{K:W.Frag}{mg:Str→Option Value}{base:Heap}{N:List Str}{qual:Str}{scope:Scope}{f:Addr}{cdv:Value}{A:Around}{outer:List Env}{s s2:Shared}{H H1:Hp}{E:XK}{pins:List (Addr×Obj)}{σ:St}
theorem stands (I:Inv (cxOf (CXE P w) P w K mg base N qual scope f cdv A outer s H E) pins σ H1 s2){h3:Heap} (hst:(hideAll s2.heap (frs (envOfC qual scope s.heap.objs.size f cdv::outer))).StaysIn h3) (up:s2.heap.UpToSlots h3) :
  Un (frs outer) [] H H1 s.heap h3∧HOk P w H1 h3:=by
 have kk:∀b o,s2.heap.get? b=some o→b ∉ frs (envOfC qual scope s.heap.objs.size f cdv::outer)→h3.get? b=some o:=fun b o e hb=>hst b o (hideAll_get _ e hb)
 have frz:∀b,b∈frs (envOfC qual scope s.heap.objs.size f cdv::outer)→b=s.heap.objs.size∨b∈frs outer:=fun b hb=>by
  unfold frs at hb
  rw [List.filterMap_cons] at hb
  exact List.mem_cons.mp hb
 have zlM:∀b o,s.heap.get? b=some o→b ∉ frs outer→b ∉ frs (envOfC qual scope s.heap.objs.size f cdv::outer):=fun b o e hb z=>by
  rcases frz b z with q | q
  ·exact absurd (Heap.lt_size e) (by rw [q];exact Nat.lt_irrefl _)
  ·exact hb q
 have U:=I.base
 have stk:=I.stack
 refine⟨⟨fun b o e n hb hx=>kk b o (U.keep b o e n hb hx) (zlM b o e hb),fun b o e n hb hx=>?_,fun b o e n hx=>U.free b o e n hx,fun b o e hx=>?_,U.tups,U.frzs,U.tbls⟩,fun a u e=>?_⟩
 ·obtain⟨sl,q⟩:=U.slot b o e n hb hx
  obtain⟨_,o2,ho2,hd2⟩:=I.ok.funs.mem hb
  have ho2':s.heap.get? b=some o2:=ho2
  rw [e] at ho2'
  cases ho2'
  obtain⟨sl2,q2⟩:=up b _ q hd2
  exact⟨sl2,q2⟩
 ·obtain⟨o2,q⟩:=U.there b o e hx
  by_cases hb:b∈frs (envOfC qual scope s.heap.objs.size f cdv::outer)
  ·obtain⟨_,o3,ho3,hd3⟩:=stk.mem hb
   obtain⟨sl,q3⟩:=up b _ ho3 hd3
   exact⟨_,q3⟩
  ·exact⟨_,kk b o2 q hb⟩
 ·refine(I.hok a u e).stay (fun b v hb q=>kk b v q fun z=>?_) (fun _ q=>q) fun _ _ q=>q
  have hn:=I.stkFree b z
  rcases hb with r | r
  ·rw [r] at hn;rw [hn] at e;cases e
  ·rw [hn] at r;cases r
theorem zfF {h':Heap}{e:Addr}{C:Value}{vs:List Value} (I:Inv (cxOf (CXE P w) P w K mg base N qual scope f cdv A outer s H E) pins σ H1 s2) (m:Heap.MadeExcOf s2.heap h' e C vs) (h:E C none H1) :
  (cxOf (CXE P w) P w K mg base N qual scope f cdv A outer s H E).xe (.ref e) { s2 with heap:=h' }:=by
 show wpAny (model P w) (A.deeper (envOfC qual scope s.heap.objs.size f cdv)) (leaving (envOfC qual scope s.heap.objs.size f cdv) (.ref e)) (fun _ s''=>CXE P w outer H s E (.ref e) s'') (fun e' s''=>CXE P w outer H s E e' s'') { s2 with heap:=h' }
 have stk:=I.stack
 refine wpAny_leaves_madeW (s:={ s2 with heap:=h' }) (base:=hideAll s2.heap (frs (envOfC qual scope s.heap.objs.size f cdv::outer))) (h:=s2.heap) I.ok.frames rfl (fun b o q=>of_hideAll _ q) (W.funFrames_hide stk fun env he b hb=>List.mem_filterMap.mpr ⟨env,he,hb⟩) m fun h'' t fl tup bt ups=>?_
 have up1:s2.heap.UpToSlots h'':=(Heap.UpToSlots.of_keeps m.keeps).trans ups
 refine⟨e,C,.ref t,H1,_,rfl,I.os,I.bare,fl,fun h3 st3 up3=>stands I st3 (up1.trans up3),?_,?_,h⟩
 ·have en:=m.new
  cases q:s.heap.get? e with
  | none=>rfl
  | some o=>
   obtain⟨o2,q2⟩:=I.base.there e o q (by show e ∉ ([]:List Addr);simp)
   rw [en] at q2;cases q2
 ·cases q:H1 e with
  | none=>rfl
  | some u=>
   obtain⟨ob,q2⟩:=ObjOk.there (I.hok e u q)
   rw [m.new] at q2;cases q2
theorem zkO {b:Addr}{o:Obj} (e:s.heap.get? b=some o) (hb:b ∉ frs outer):b ∉ frs (envOfC qual scope s.heap.objs.size f cdv::outer):=fun z=>by
 have z':b∈s.heap.objs.size::frs outer:=by
  unfold frs at z ⊢
  rw [List.filterMap_cons] at z
  exact z
 rcases List.mem_cons.mp z' with q | q
 ·exact absurd (Heap.lt_size e) (by rw [q];exact Nat.lt_irrefl _)
 ·exact hb q
theorem zfG {x:Addr} {s':Shared}{e:Value} {E':XK} (I:Inv (cxOf (CXE P w) P w K mg base N qual scope f cdv A outer s H E) pins σ H1 s2) (hx:CXE P w (envOfC qual scope s.heap.objs.size f cdv::outer) H1 s2 E' e s') (h:∀C H',E' C none H'→E C none H') :
  (cxOf (CXE P w) P w K mg base N qual scope f cdv A outer s H E).xe e s':=by
 obtain⟨x,C,a0,H',B,rfl,os,bare,fl,st,xn,xh,q⟩:=hx
 show wpAny (model P w) (A.deeper (envOfC qual scope s.heap.objs.size f cdv)) (leaving (envOfC qual scope s.heap.objs.size f cdv) (.ref x)) (fun _ s''=>CXE P w outer H s E (.ref x) s'') (fun e' s''=>CXE P w outer H s E e' s'') s'
 refine wpAny_leaves_onW I.ok.frames rfl fl fun h'' fl2 up=>?_
 have U:=I.base
 refine⟨x,C,a0,H',B,rfl,os.trans I.os,bare,fl2,fun h3 st3 up3=>?_,?_,xh,h C H' q⟩
 ·obtain⟨u,ok⟩:=st h3 st3 (up.trans up3)
  refine⟨⟨fun b o e n hb hx=>u.keep b o (U.keep b o e n hb hx) (U.free b o e n hx) (zkO e hb) hx,fun b o e n hb hx=>?_,fun b o e n hx=>?_,fun b o e hx=>?_,fun b xs e=>u.tups b xs (U.tups b xs e),fun b o v e=>u.frzs b o v (U.frzs b o v e),fun b ps e=>?_⟩,ok⟩
  ·obtain⟨sl,q1⟩:=U.slot b o e n hb hx
   have hb':b∈frs (envOfC qual scope s.heap.objs.size f cdv::outer):=by
    unfold frs;rw [List.filterMap_cons];exact List.mem_cons_of_mem _ hb
   obtain⟨sl2,q2⟩:=u.slot b _ q1 (U.free b o e n hx) hb' hx
   exact⟨sl2,q2⟩
  ·obtain⟨o2,q2⟩:=U.there b o e hx
   exact u.free b o2 q2 (U.free b o e n hx) hx
  ·obtain⟨o2,q2⟩:=U.there b o e hx
   exact u.there b o2 q2 hx
  ·obtain⟨m1,q1⟩:=U.tbls b ps e
   obtain⟨m2,q2⟩:=u.tbls b _ q1
   exact⟨m1++m2,by rw [q2,Array.append_assoc]⟩
 ·cases q1:s.heap.get? x with
  | none=>rfl
  | some o=>
   obtain⟨o2,q2⟩:=U.there x o q1 (by show x ∉ ([]:List Addr);simp)
   rw [xn] at q2;cases q2
end
section
variable {P:Program}{w:World}{K:W.Frag}{mg:Str→Option Value}{base:Heap}
noncomputable def FnE (P:Program) (w:World) (K:W.Frag) (mg:Str→Option Value) (base:Heap) (k:Nat) (x:Str) (ps:List Str) (sp:Sp):Prop:=
 ∃f fd,FnOk P w K mg base (CXE P w) k f fd ps sp∧W.keepIn K (.ref f)=true∧Binds K fd ps []∧mg x=some (.ref f)
noncomputable def zgP (C:Addr) (E:XK) (t:TA):TS:=fun _ σ H=>t σ H fun vs H1=>vs.length≤sizeLine∧E (.ref C) none H1
theorem qi {N:List Str}{qual:Str}{scope:Scope}{f:Addr}{cdv:Value}{A:Around}{outer:List Env}{s:Shared}{H:Hp}{E:XK}{xn:Str}{C:Addr}{bmB:List Value}{B newId initId:String}{e:Expr}{es:List Expr}{t:TA}{np cpos pos:Pos}
  (FB:ExcBaseFacts B newId initId bmB) (hq:W.excIn K C bmB newId=true) (hg:Gl (cxOf (CXE P w) P w K mg base N qual scope f cdv A outer s H E) xn) (hm:mg xn=some (.ref C)) (ha:PA (cxOf (CXE P w) P w K mg base N qual scope f cdv A outer s H E) (e::es) t)
  (hd:(xn == ("__debug__":Str))=false:=by decide)
  (he:starEach (e::es) (cxOf (CXE P w) P w K mg base N qual scope f cdv A outer s H E).env=(false,eval e (cxOf (CXE P w) P w K mg base N qual scope f cdv A outer s H E).env)::starEach es (cxOf (CXE P w) P w K mg base N qual scope f cdv A outer s H E).env:=by rfl)
  (hpl:(backTo cpos (starEach es (cxOf (CXE P w) P w K mg base N qual scope f cdv A outer s H E).env)).any (·.1)=false:=by rfl) :
  PS (cxOf (CXE P w) P w K mg base N qual scope f cdv A outer s H E) (.Raise (some (.Call (.Name xn np) (e::es) [] cpos)) none pos) (zgP C E t):=by
 intro pins s1 σ H0 D I h
 obtain⟨bm,N',nm,q,bs,hdct,sn,sub,ab,col,dd,k0,k1,k2,k3,k5,mN,hC,hN,hni,TL,_⟩:=zaR I.mod.kin hq
 refine wpAny_Raise_call_subT (C:=C) (nm:=nm) (q:=q) (N:=N') (bs:=bs) (bm:=bm) (hdct:=hdct) (sn:=sn) (sub:=sub) (ab:=ab) (col:=col) (dd:=dd) (k0:=k0) (k1:=k1) (k2:=k2) (k3:=k3) (k5:=k5)
  FB (mN:=mN) (TL.hasType FB.hasBase) (I.ok.hd rfl) (by rw [he];show (false || (backTo cpos (starEach es _)).any (·.1))=false;rw [hpl];rfl) hni (ld_glob I hg hm ⟨rfl,?_⟩ hd)
 have hs:=ha cpos pins s1 σ H0 _ I h
 rw [he] at hs ⊢
 exact Calls.evalArgs_plain (thn hs fun us s2 x=>by
  obtain⟨vs,H1,I1,r1,z,q1⟩:=x
  exact⟨rfl,by rw [← r1.length];exact z,I1.bk _ _ hC,hN.keeps I1.bk,TL.keeps I1.bk,fun h' x m=>zfF I1 m q1⟩)
theorem Fun.okE {x qual:Str}{st:Stmt}{f:Addr}{fd:FuncData}{N ps:List Str}{k:Nat}{sp:Sp} (F:Fun K x qual st f fd) (S:FnScope N ps (defScope st)) (len:∀vs H Q E,sp vs H Q E→vs.length=ps.length)
  (hbody:∀(cdv:Value) (A:Around) (outer:List Env) (s:Shared) (H:Hp) (vs:List V) (Q:VK) (E:XK),Room k (A.deeper (envOfC qual (defScope st) s.heap.objs.size f cdv))→sp vs H Q E →
   ∃t,PSs (cxOf (CXE P w) P w K mg base N qual (defScope st) f cdv A outer s H E) (defBody st) t∧t { nx:=fun _ H'=>Q .non H',rt:=Q } (start N vs) H):FnOk P w K mg base (CXE P w) (k+1) f fd ps sp:=by
 obtain⟨oc,od,kV,doc,pm,an,cdv,ct,osl,rfl,lk,hcd⟩:=F.ex
 exact fn_of lk hcd S len fun A outer s H vs Q E hr hsp=>hbody cdv A outer s H vs Q E hr hsp
theorem Def.fnE {x:Str}{st:Stmt}{N ps:List Str}{k:Nat}{sp:Sp} (D:Def K mg x st ps) (S:FnScope N ps (defScope st)) (len:∀vs H Q E,sp vs H Q E→vs.length=ps.length)
  (hbody:∀(f:Addr) (cdv:Value) (A:Around) (outer:List Env) (s:Shared) (H:Hp) (vs:List V) (Q:VK) (E:XK),Room k (A.deeper (envOfC x (defScope st) s.heap.objs.size f cdv))→sp vs H Q E →
   ∃t,PSs (cxOf (CXE P w) P w K mg base N x (defScope st) f cdv A outer s H E) (defBody st) t∧t { nx:=fun _ H'=>Q .non H',rt:=Q } (start N vs) H):FnE P w K mg base (k+1) x ps sp:=by
 obtain⟨f,fd,F,b,m⟩:=D
 exact⟨f,fd,F.okE S len (hbody f),F.kp,b,m⟩
end
section
variable {M:Model}{A:Around}{E:Value→Shared→Prop}{h:Heap}{g:Array GenState}{d:Drawn}{t:Nat}{os:OsState}
noncomputable def zbJ (h:Heap) (C:Addr) (bm:List Value):Prop:=∃N nm q bs hdct sn sub ab col dd k0 k1 k2 k3 k5 newId,h.get? C=some (excClassObj nm q C N bs bm hdct sn sub ab col dd k0 k1 k2 k3 k5 newId)∧bm.contains (.type "BaseException")=true
end
section
variable {X:Cx}{pins:List (Addr×Obj)}{σ:St}{H:Hp}{s:Shared}
theorem zdT {M:Model}{A:Around}{E:Value→Shared→Prop}{i:Nat}{x:Str}{v:V}{Q:Unit→Shared→Prop} (I:Inv X pins σ H s) (hN:X.N.Nodup) (hi:X.N[i]?=some x) (hk:X.env.kindOf x=some .local) (hs':X.env.scope.names.lookup x=some .local) (hv:σ[i]?=some (some v))
  (h:∀s',Inv X pins (σ.set i none) H s'→Q () s'):wpAny M A (unbindName X.env x) Q E s:=by
 obtain⟨m,hn,hl⟩:=id I.loc
 have hcls:(X.env.scope.kind == .class || (X.env.scope.kind == .module && X.env.locals != X.env.globals))=false:=by rw [I.ok.kind];rfl
 have hiσ:i < σ.length:=by rw [I.len];exact(List.getElem?_eq_some_iff.mp hi).1
 have cne:=I.cne
 obtain⟨u,_,lk⟩:=hl i x v hi hv (.inl hs')
 have mx:m x=some u:=by
  rcases lk with ⟨_,e⟩ | ⟨k,_⟩
  ·exact e
  ·rw [hk] at k;rcases k with k | k <;> cases k
 refine wpAny_unbindName_local hk hn mx hcls fun h' u' hn' hs=>?_
 obtain⟨oL,_,_,hoL,_⟩:=id hn
 refine h _ ⟨I.ok,I.os,I.bare,⟨fun b o e n hb hx=>?_,fun b o e n hb hx=>?_,I.base.free,fun b o e hx=>?_,I.base.tups,I.base.frzs,I.base.tbls⟩,⟨_,hn',fun j y v' e1 e2 e3=>?_⟩,fun y c e=>?_,I.free,I.freeC,fun p hp=>?_,fun b ob e=>?_,by simpa using I.len⟩
 ·exact(hs.2 b (Nat.ne_of_lt (Nat.lt_of_lt_of_le (Heap.lt_size e) I.ok.above))).trans (I.base.keep b o e n hb hx)
 ·obtain⟨sl,e1⟩:=I.base.slot b o e n hb hx
  exact⟨sl,(hs.2 b (Nat.ne_of_lt (Nat.lt_of_lt_of_le (Heap.lt_size e) I.ok.above))).trans e1⟩
 ·obtain⟨o',e1⟩:=I.base.there b o e hx
  exact⟨o',(hs.2 b (Nat.ne_of_lt (Nat.lt_of_lt_of_le (Heap.lt_size e) I.ok.above))).trans e1⟩
 ·by_cases hj:j=i
  ·subst hj
   rw [List.getElem?_set_self hiσ] at e2
   cases e2
  ·rw [List.getElem?_set_ne (Ne.symm hj)] at e2
   obtain⟨u2,r',q⟩:=hl j y v' e1 e2 e3
   refine⟨u2,r',?_⟩
   rcases q with ⟨k,e⟩ | ⟨k,c,e,z⟩
   ·refine .inl ⟨k,?_⟩
    have:y≠x:=fun e=>hj (nodup_ix hN e1 (e ▸ hi))
    simp [this,e]
   ·exact .inr ⟨k,c,e,z.sameBut hs (cne y c e)⟩
 ·obtain⟨w',z⟩:=I.cell y c e
  exact⟨w',z.sameBut hs (cne y c e)⟩
 ·obtain⟨a,b,c,d,e⟩:=I.pin p hp
  exact⟨(hs.2 p.1 c).trans a,b,c,d,e⟩
 ·refine(I.hok b ob e).stay (fun c w' hc q=>(hs.2 c ?_).trans q) (fun _ q=>q) fun _ _ q=>q
  rintro rfl
  rcases hc with rfl | hc
  ·rw [I.free] at e;cases e
  ·rw [I.free] at hc;cases hc
abbrev Cx.inX (X:Cx) (x:Addr):Cx:={ X with A:=X.A.mark (some (.ref x)),calm:=false,xe:=fun _ _=>False }
theorem Inv.inX (I:Inv X pins σ H s) (x:Addr):Inv (X.inX x) pins σ H s:=
 ⟨⟨I.ok.mod,I.ok.kind,I.ok.glob,I.ok.blt,I.ok.above,I.ok.inj,I.ok.has,I.ok.cab,fun z=>Bool.noConfusion z,I.ok.frames,I.ok.stk,I.ok.exf,I.ok.bs,I.ok.bsz,I.ok.noex,I.ok.exfs,I.ok.funs,I.ok.frf⟩,I.os,I.bare,I.base,I.loc,I.cell,I.free,I.freeC,I.pin,I.hok,I.len⟩
theorem Inv.outX {x:Addr} (hh:X.calm=true→X.A.handled=none) (I:Inv (X.inX x) pins σ H s):Inv X pins σ H s:=
 ⟨⟨I.ok.mod,I.ok.kind,I.ok.glob,I.ok.blt,I.ok.above,I.ok.inj,I.ok.has,I.ok.cab,hh,I.ok.frames,I.ok.stk,I.ok.exf,I.ok.bs,I.ok.bsz,I.ok.noex,I.ok.exfs,I.ok.funs,I.ok.frf⟩,I.os,I.bare,I.base,I.loc,I.cell,I.free,I.freeC,I.pin,I.hok,I.len⟩
noncomputable def yc (x:Addr) (C:Value):HO:=.ext fun h=>∃o,h.get? x=some o∧o.cls=C
theorem zcw {x:Addr}{C:Value} {H':Hp}{s6:Shared}{o:Obj} (I:Inv X pins σ H s) (ho:s6.os=s.os) (hg:AllBare s6.gens) (u:Un (frs X.stack) [] H H' s.heap s6.heap) (ok:HOk X.prog X.w H' s6.heap) (xn:s.heap.get? x=none) (xh:H' x=none) (he:s6.heap.get? x=some o) (hc:o.cls=C) :
  Inv X pins σ (upd H' x (yc x C)) s6:=by
 have ne:∀b q,s.heap.get? b=some q→b≠x:=fun b q e z=>by rw [z,xn] at e;cases e
 refine I.call' (ch:=[]) ho ⟨u.keep,u.slot,fun b q e n hx=>by rw [upd_ne (ne b q e)];exact u.free b q e n hx,u.there,fun b xs e=>by rw [upd_ne (ne_of_none (u.tups b xs e) xh)];exact u.tups b xs e,fun b q v e=>by rw [upd_ne (ne_of_none (u.frzs b q v e) xh)];exact u.frzs b q v e,fun b ps e=>?_⟩ ?_ hg (fun b z=>absurd z (by simp))
 ·obtain⟨more,q⟩:=u.tbls b ps e
  exact⟨more,by rw [upd_ne (ne_of_none q xh)];exact q⟩
 ·intro b v e
  by_cases hb:b=x
  ·subst hb
   rw [upd_same] at e
   cases e
   exact⟨⟨o,he,hc⟩,⟨o,he⟩,fun h1 h2 ⟨o1,e1,c1⟩ k=>⟨o1,k o1 e1,c1⟩⟩
  ·rw [upd_ne hb] at e
   exact(ok b v e).stay (fun _ _ _ q=>q) (fun c q=>by rw [upd_ne (ne_of_none q xh)];exact q) fun c xs q=>by rw [upd_ne (ne_of_none q xh)];exact q
end
end L2
namespace L2
open PySem PySem.Spec PyProof.Rows
noncomputable def Ite (K:W.Frag) (l:Addr) (N:Nat):It:=
  ⟨fun i H=>∃xs x,SqL K H l xs∧xs.length=N∧xs[i]?=some x,
   fun i H v H'=>∃t,H t=none∧v=.ref t∧∀xs x,SqL K H l xs→xs[i]?=some x→H'=upd H t (.tup [.int i,x]),
   fun i H=>i=N∧∃xs,SqL K H l xs∧xs.length=N⟩
theorem zcx {P:Program}{w:World}{K:W.Frag}{elts:List Expr}{x1:Nat}{tp:Pos} (l e it:Addr) (N:Nat) (hei:e≠it) (hle:l≠e) (hli:l≠it) :
  Turn P w K (.Tuple elts x1 tp) (Ite K l N) [e,it] e (fun i h=>(∃old,IsEnum h e it i old)∧h.IsListIter it l i) where
 mem:=by simp
 obj:=fun i h ⟨⟨old,h1⟩,h2⟩ c hc=>by
  simp only [List.mem_cons,List.not_mem_nil,or_false] at hc
  rcases hc with z | z
  ·subst z;exact⟨_,h1,fun v q=>by have q':Data.fields _=Data.cell v:=q;cases q'⟩
  ·subst z
   obtain⟨o,ho,_,hd⟩:=h2
   exact⟨o,ho,fun v q=>by rw [hd] at q;cases q⟩
 keep:=fun i h h' ⟨⟨old,h1⟩,h2⟩ k=>⟨⟨old,k e (by simp) _ h1⟩,h2.at fun o z=>k it (by simp) o z⟩
 item:=by
  intro X hP hw hK hc i pins s σ H E I hf ⟨⟨old,h1⟩,h2⟩ ⟨xs,x,q1,hN,hx⟩
  subst hP hw hK
  obtain⟨it1,v1,p1,z1⟩:=I.list q1
  have hl1:=v1.length
  have hsz:it1.toArray.size=N:=by rw [List.size_toArray];omega
  have hi:i<N:=by have:=(List.getElem?_eq_some_iff.mp hx).1;omega
  obtain⟨u1,e1,r1⟩:=v1.get hx
  have D:=Draws.list (prog:=X.prog) (w:=X.w) (A:=X.A.in1) (I.ok.hd hc) it l hli it1.toArray
  rw [hsz] at D
  refine wpAny_pyNext_enum_itemD D h1 ⟨h2,p1.isList⟩ hi hei (by simp only [List.mem_cons,List.not_mem_nil,or_false,not_or];exact⟨hei,Ne.symm hle⟩) fun u h' tk hu g1 gst gT gs k=>?_
  refine⟨_,rfl,wpAny_letOwnedTupleGo_enum g1 fun h'' g1' sb=>?_⟩
  have hzT:s.heap.objs.size≠e:=Nat.ne_of_gt (Heap.lt_size h1)
  have eu:u=u1:=by
   have hu':it1[i]?=some u:=by simpa using hu
   rw [e1] at hu'
   exact(Option.some.inj hu').symm
  subst eu
  have gT':IsTup h'' s.heap.objs.size [Value.int i tk,u].toArray:=⟨_,sb.extBut _ _ hzT gT,rfl,_,rfl⟩
  have hlz:∀{c:Addr}{o:Obj},c≠e→h'.get? c=some o→h''.get? c=some o:=fun hcz z=>sb.extBut _ _ hcz z
  refine⟨.ref s.heap.objs.size,upd H s.heap.objs.size (.tup [.int i,x]),I.turnsT (ch:=[e,it]) (t':=tk+1) (fun c hcm=>hf c hcm) (fun c o hcn z=>?_) (Nat.le_refl _) (.cons ⟨tk,rfl⟩ (.cons r1 .nil)) gT' (by show 2≤sizeLine;decide),rfl,
   ⟨_,I.hok.fresh (Nat.le_refl _),rfl,fun xs' x' w1 w2=>?_⟩,⟨⟨_,g1'⟩,gst.1.at fun o z=>hlz (Ne.symm hei) z⟩,fun c hcm=>?_⟩
  ·simp only [List.mem_cons,List.not_mem_nil,or_false,not_or] at hcn
   exact hlz hcn.1 (k c o hcn.1 hcn.2 z)
  ·have a1:=I.list_inj w1 q1
   subst a1
   rw [hx] at w2
   cases w2
   rfl
  ·obtain⟨o,z,_⟩:∃o,s.heap.get? c=some o∧True:=by
    simp only [List.mem_cons,List.not_mem_nil,or_false] at hcm
    rcases hcm with z | z
    ·subst z;exact⟨_,h1,trivial⟩
    ·subst z;obtain⟨o,ho,_⟩:=h2;exact⟨o,ho,trivial⟩
   rw [upd_ne (Nat.ne_of_lt (Heap.lt_size z))]
   exact(hf c hcm).1
 done:=by
  intro X hP hw hK hc i pins s σ H E I hf ⟨⟨old,h1⟩,h2⟩ ⟨hi,xs,q1,hN⟩
  subst hP hw hK hi
  obtain⟨it1,v1,p1,z1⟩:=I.list q1
  have hl1:=v1.length
  have hsz:it1.toArray.size=i:=by rw [List.size_toArray];omega
  have D:=Draws.list (prog:=X.prog) (w:=X.w) (A:=X.A.in1) (I.ok.hd hc) it l hli it1.toArray
  rw [hsz] at D
  refine wpAny_pyNext_enum_endD D h1 ⟨h2,p1.isList⟩ fun h' k=>⟨rfl,I.turns (ch:=[e,it]) (t':=s.toks) hf fun c o hcn z=>?_⟩
  simp only [List.mem_cons,List.not_mem_nil,or_false,not_or] at hcn
  exact k c o hcn.2 z
 self:=fun _ _ _ _ _ st h=>let ⟨⟨_,z⟩,_⟩:=st;wpAny_pyIter_enum z h
section
variable {X:Cx}
noncomputable def zgQ (K:W.Frag) (ta:TA):TI:=fun σ H R=>ta σ H fun vs H1=>∃a xs,vs=[.ref a]∧SqL K H1 a xs∧R (Ite K a xs.length) H1
theorem Xq {a:Expr}{ta:TA}{p pos:Pos}{elts:List Expr}{x1:Nat}{tp:Pos} (hg:Gl X "enumerate") (hm:X.mg "enumerate"=none) (ha:PA X [a] ta)
  (hs:starEach [a] X.env=(false,eval a X.env)::starEach [] X.env:=by rfl) (hs2:(backTo pos (starEach [] X.env)).any (·.1)=false:=by rfl) :
  PI X (.Tuple elts x1 tp) (.Call (.Name "enumerate" p) [a] [] pos) (zgQ X.K ta):=by
 intro pins s σ H R I h
 refine Call_ (ld_blt I hg hm zbA (PyProof.Rows.callWith_type1 (thn (ha pos pins s σ H _ I h) fun us s1 ⟨vs,H1,I1,r1,q1⟩=>?_) hs hs2))
 obtain⟨l,xs,e,q1,q⟩:=q1
 subst e
 obtain⟨u,rfl,w1⟩:=vals1 r1
 cases w1
 obtain⟨its,v1,p1,z1⟩:=I1.list q1
 have hl:l<s1.heap.objs.size:=by obtain⟨_,_,e,_⟩:=p1;exact Heap.lt_size e
 refine call_enumerate_list p1.isList fun h' g1 g2 gs k=>?_
 refine wpAny_pyIter_enum g1 ?_
 refine⟨s1.heap.objs.size+1,[s1.heap.objs.size+1,s1.heap.objs.size],_,_,H1,rfl,I1.kept (t':=s1.toks) k,zcx l _ s1.heap.objs.size xs.length ?_ ?_ ?_,⟨⟨_,g1⟩,g2⟩,fun c hcm=>?_,q⟩
 ·exact Nat.succ_ne_self _
 ·exact Nat.ne_of_lt (Nat.lt_succ_of_lt hl)
 ·exact Nat.ne_of_lt hl
 ·have hc:s1.heap.objs.size≤c:=by
   simp only [List.mem_cons,List.not_mem_nil,or_false] at hcm
   rcases hcm with e | e
   ·rw [e];exact Nat.le_succ _
   ·rw [e];exact Nat.le_refl _
  exact I1.fpOk hc (I1.hok.fresh hc)
theorem zbK (hc:X.calm=true):CallR X (.builtin "sum") (fun xs H Q=>∃(p:Addr) (ns:List Int),xs=[.ref p]∧SqL X.K H p (ns.map V.int)∧Q (.int ns.sum) H):=by
 intro pins s σ H xs us Q I r h
 obtain⟨p,ns,rfl,hq,q⟩:=h
 obtain⟨u,rfl,ru⟩:=vals1 r
 cases ru
 obtain⟨its,hl,hi,hz⟩:=I.ints hq
 obtain⟨xs,hx⟩:=hi.allInts.items
 have hl':s.heap.IsList p (intItems xs):=hx ▸ hl
 refine sum_intListG (I.ok.hd hc) hl' fun h' tk t' hk=>?_
 have e1:ns=xs.toList.map (·.1):=by
  rw [← nums_intItems,← hx]
  exact(show numsOf its.toArray.toList=ns from hi.numsOf).symm
 have e2:preSum (numAt xs) xs.size=ns.sum:=by
  rw [preSum_eq,List.take_of_length_le (by simp),e1]
 rw [e2]
 exact⟨.int _,H,I.kept (t':=tk) hk,⟨_,rfl⟩,q⟩
end
theorem zgB:bootBuiltins "sum"=some (.builtin "sum"):=by decide +kernel
theorem JG {K:W.Frag}{a acc:Addr}{xs:List V}{own:Nat}{ix:List Nat}{g:TG}{te:TE}{σ:St}{H1:Hp}{Q:VK} (f:Nat→V) (hq1:SqL K H1 a xs) (hn:H1 acc=none) (hz:xs.length≤sizeLine)
  (step:∀(i:Nat) (x:V) (t:Addr) (H:Hp) (R:VK),xs[i]?=some x→Same H1 H→H t=some (.tup [.int i,x])→R (f i) H→g (.ref t) (jk own ix σ) H fun σ4 H4=>σ4.drop own=ix.map (fun i=>(σ[i]?).getD none)∧te σ4 H4 R)
  (hd:∀H',Same H1 H'→H' acc=some (.lst ((List.range xs.length).map f))→Q (.ref acc) H'):Qs (Ite K a xs.length) own ix g yP te σ H1 acc Q:=by
 refine⟨fun i m ys H=>m=xs.length-i∧i≤xs.length∧ys=(List.range i).map f∧Same H1 H∧H acc=some (.lst ys),⟨xs.length,by simp,Nat.zero_le _,rfl,Same.new hn,upd_same⟩,?_⟩
 rintro i m zs H ⟨rfl,hi,rfl,sm,ha⟩
 refine⟨ha,?_⟩
 by_cases hlt:i<xs.length
 ·refine .inr ⟨⟨xs,xs[i],sm.seq hq1,rfl,List.getElem?_eq_getElem hlt⟩,by rw [List.length_map,List.length_range];omega,fun v H3 ⟨t,ht,hv,hy⟩=>?_⟩
  have e:=hy xs _ (sm.seq hq1) (List.getElem?_eq_getElem hlt)
  subst hv e
  have ha3:(upd H t (.tup [.int i,xs[i]])) acc=some (.lst ((List.range i).map f)):=by rw [upd_ne (ne_of_none ha ht)];exact ha
  exact step i _ t _ _ (List.getElem?_eq_getElem hlt) (sm.put ht) upd_same ⟨ha3,_,by omega,rfl,hlt,by rw [List.range_succ,List.map_append];rfl,(sm.put ht).wr hn,upd_same⟩
 ·have e:i=xs.length:=by omega
  subst e
  exact .inl ⟨⟨rfl,xs,sm.seq hq1,rfl⟩,hd H sm ha⟩
theorem zen {K:PySem.W.Frag}{a:Addr}{xs:List V}{g:TG}{tb:TS}{D:Ends}{σ:St}{H:Hp} (Pv:Nat→St→Hp→Prop) (h0:Pv 0 σ H) (hl:∀i σ H,Pv i σ H→SqL K H a xs)
  (hs:∀(i:Nat) x t σ H,xs[i]?=some x→Pv i σ H→H t=none→g (.ref t) σ (upd H t (.tup [.int i,x])) fun σ2 H2=>tb { D with nx:=Pv (i+1),ct:=Pv (i+1),bk:=D.nx } σ2 H2) (hd:∀σ H,Pv xs.length σ H→D.nx σ H) :
  ∃W:Nat→Nat→St→Hp→Prop,(∃m,W 0 m σ H)∧∀i m σ H,W i m σ H →
   ((Ite K a xs.length).stop i H∧D.nx σ H)∨((Ite K a xs.length).go i H∧∃N:St→Hp→Prop,(∀σ' H',N σ' H'→∃m',m'<m∧W (i+1) m' σ' H')∧∀x H',(Ite K a xs.length).yld i H x H'→g x σ H' fun σ2 H2=>tb { D with nx:=N,ct:=N,bk:=D.nx } σ2 H2):=by
 refine⟨fun i m σ H=>m=xs.length-i∧i≤xs.length∧Pv i σ H,⟨_,rfl,Nat.zero_le _,h0⟩,?_⟩
 rintro i m σ H ⟨rfl,hi,p⟩
 have q1:=hl i σ H p
 by_cases hlt:i<xs.length
 ·refine .inr ⟨⟨xs,xs[i],q1,rfl,List.getElem?_eq_getElem hlt⟩,Pv (i+1),fun σ' H' p'=>⟨_,by omega,rfl,hlt,p'⟩,fun v H3 ⟨t,ht,hv,hy⟩=>?_⟩
  have e:=hy xs _ q1 (List.getElem?_eq_getElem hlt)
  subst hv e
  exact hs i _ t σ H (List.getElem?_eq_getElem hlt) p ht
 ·have e:i=xs.length:=by omega
  subst e
  exact .inl ⟨⟨rfl,xs,q1,rfl⟩,hd σ H p⟩
theorem Qt {lo:Int}{n:Nat}{acc:Addr}{own:Nat}{ix:List Nat}{g:TG}{te:TE}{σ:St}{H1:Hp}{Q:VK} (Pr:Nat→V→Prop) (hn:H1 acc=none) (hz:n≤sizeLine)
  (step:∀(i:Nat) (H:Hp) (R:VK),i<n→Same H1 H→(∀v H',Same H H'→Pr i v→R v H')→g (.int (lo+i)) (jk own ix σ) H fun σ4 H4=>σ4.drop own=ix.map (fun i=>(σ[i]?).getD none)∧te σ4 H4 R)
  (hd:∀ys H',Same H1 H'→H' acc=some (.lst ys)→ys.length=n→(∀i v,ys[i]?=some v→Pr i v)→Q (.ref acc) H') :
  Qs (Itr lo n) own ix g yP te σ H1 acc Q:=by
 refine⟨fun i m ys H=>m=n-i∧i≤n∧ys.length=i∧(∀j v,ys[j]?=some v→Pr j v)∧Same H1 H∧H acc=some (.lst ys),⟨n,by simp,Nat.zero_le _,rfl,fun j v h=>by simp at h,Same.new hn,upd_same⟩,?_⟩
 rintro i m ys H ⟨rfl,hi,hl,pr,sm,ha⟩
 refine⟨ha,?_⟩
 by_cases hlt:i<n
 ·refine .inr ⟨hlt,by omega,fun x H3 y=>?_⟩
  obtain⟨e,y⟩:=y
  subst e y
  refine step i _ _ hlt sm fun v H' s' pv=>⟨s' _ _ ha,n-(i+1),by omega,rfl,hlt,by rw [List.length_append,hl];rfl,fun j u hj=>?_,(sm.trans s').wr hn,upd_same⟩
  by_cases hji:j<ys.length
  ·rw [List.getElem?_append_left hji] at hj
   exact pr j u hj
  ·have hj2:=(List.getElem?_eq_some_iff.mp hj).1
   rw [List.length_append,List.length_singleton] at hj2
   have ej:j=i:=by omega
   subst ej
   rw [List.getElem?_append_right (by omega),hl,Nat.sub_self] at hj
   have:v=u:=by simpa using hj
   subst this
   exact pv
 ·have e:i=n:=by omega
  subst e
  exact .inl ⟨Nat.le_refl _,hd ys H sm ha hl pr⟩
theorem zcy {K:W.Frag}{a acc:Addr}{xs:List V}{own:Nat}{ix:List Nat}{g:TG}{te:TE}{σ:St}{H1:Hp}{Q:VK} (Pr:Nat→V→Hp→Prop) (zkP:∀i v H H',Same H H'→Pr i v H→Pr i v H') (hacc:∀i v H o,H acc=some o→∀o',Pr i v H→Pr i v (upd H acc o'))
  (hq:SqL K H1 a xs) (hn:H1 acc=none) (hz:xs.length≤sizeLine)
  (step:∀(i:Nat) (x:V) (H:Hp) (R:VK),xs[i]?=some x→Same H1 H→(∀v H',Same H H'→Pr i v H'→R v H')→g x (jk own ix σ) H fun σ4 H4=>σ4.drop own=ix.map (fun i=>(σ[i]?).getD none)∧te σ4 H4 R)
  (hd:∀ys H',Same H1 H'→H' acc=some (.lst ys)→ys.length=xs.length→(∀i v,ys[i]?=some v→Pr i v H')→Q (.ref acc) H') :
  Qs (Itl K a) own ix g yP te σ H1 acc Q:=by
 refine⟨fun i m ys H=>m=xs.length-i∧i≤xs.length∧ys.length=i∧(∀j v,ys[j]?=some v→Pr j v H)∧Same H1 H∧H acc=some (.lst ys),⟨xs.length,by simp,Nat.zero_le _,rfl,fun j v h=>by simp at h,Same.new hn,upd_same⟩,?_⟩
 rintro i m ys H ⟨rfl,hi,hl,pr,sm,ha⟩
 refine⟨ha,?_⟩
 have q:=sm.seq hq
 by_cases hlt:i<xs.length
 ·refine .inr ⟨⟨xs,xs[i],q,by simp [hlt]⟩,by omega,fun x H3 y=>?_⟩
  obtain⟨e,y⟩:=y
  subst e
  refine step i x _ _ (y xs q) sm fun v H' s' pv=>⟨s' _ _ ha,xs.length-(i+1),by omega,rfl,hlt,by rw [List.length_append,hl];rfl,fun j u hj=>?_,(sm.trans s').wr hn,upd_same⟩
  by_cases hji:j<ys.length
  ·rw [List.getElem?_append_left hji] at hj
   exact hacc j u H' _ (s' _ _ ha) _ (zkP j u _ _ s' (pr j u hj))
  ·have hj2:=(List.getElem?_eq_some_iff.mp hj).1
   rw [List.length_append,List.length_singleton] at hj2
   have ej:j=i:=by omega
   subst ej
   rw [List.getElem?_append_right (by omega),hl,Nat.sub_self] at hj
   have:v=u:=by simpa using hj
   subst this
   exact hacc j v H' _ (s' _ _ ha) _ pv
 ·have e:i=xs.length:=by omega
  subst e
  exact .inl ⟨⟨xs,q,Nat.le_refl _⟩,hd ys H sm ha hl pr⟩
section
variable {X:Cx}
end
end L2
namespace L2
open PySem PySem.Spec PyProof.Rows PySem.W PySem.Calls
section
variable {prog:Program}{w:World}{A:Around}{E:Value→Shared→Prop}{s:Shared}{K:Frag}{x C:Addr}{ox:Obj}
structure ZP (K:Frag) (C:Addr):Prop where
 ga:findIn K (.ref C) "__getattribute__"=some (some (.builtin "BaseException.__getattribute__"))
 hk:findIn K (.ref C) "__getattr__"=some none
 cl:findIn K (.ref C) "__class__"=some (some (.builtin "object.__class__"))
 gt:specialIn K (.builtin "object.__class__") "__get__"=some (some (.builtin "getset_descriptor.__get__"))
 tk:takesIn K (.builtin "object.__class__")=some true
 mo:mroIn K C (.type "object")=some true
 mb:mroIn K C (.type "BaseException")=some true
open PySem.Builtin PySem.Builtin.ObjectAttr in
theorem zcz {M : Model} {h : Heap} (X : K.In h) (L : ZP K C) : Looks M h (find (.ref x) (.ref C) "__class__") (Found.bind (.builtin "getset_descriptor.__get__") (.builtin "object.__class__")) := by
  have L1 := looks_findIn (M := M) X L.cl
  have L2 : Looks M h (getOf (some (.builtin "object.__class__"))) (some (.builtin "getset_descriptor.__get__")) := looks_specialIn X L.gt
  have L3 := looks_takesIn (M := M) X L.tk
  exact L1.andThen (L2.andThen ((show Looks M h (dataDescriptor? (some (.builtin "object.__class__")) (some (.builtin "getset_descriptor.__get__"))) (some (.builtin "getset_descriptor.__get__", .builtin "object.__class__")) from L3.andThen .now).andThen (Looks.tag .now)))
theorem zeo {M:Model}{nameV:Value}{Q:Unit→Shared→Prop}{h:Heap}{g:Array GenState}{d:Drawn}{t:Nat}{os:OsState} (X:K.In h) (L:ZP K C) (hx:h.get? x=some ox) (hc:ox.cls=.ref C) (hq:Q () ⟨h,g,d,t,os⟩) :
  wpAny M A (checkBuiltinCall "BaseException.__getattribute__" ⟨[.ref x,nameV],[]⟩) Q E ⟨h,g,d,t,os⟩:=by
 have hk:builtinKind "BaseException.__getattribute__"=some .slot:=by decide +kernel
 have hsplit:splitId "BaseException.__getattribute__"=some ("BaseException","__getattribute__"):=by decide +kernel
 have ha:=F.args_bexc_ga (.ref x) nameV
 have LT:Looks M h (typeOf (.ref x)) (.ref C):=hc ▸ (Looks.ld hx).andThen .now
 have LI:Looks M h (isInstance (.ref x) (.type "BaseException")) true:=LT.andThen (looks_mroIn X L.mb)
 simp only [checkBuiltinCall,hk,hsplit]
 refine wpAny_bind (LI.at ?_)
 repeat (first | assumption | wp_step)
open PySem.Builtin PySem.Builtin.ObjectAttr PySem.Builtin.Getset_descriptor in
theorem zcA {tp : Value} {R : Result → Shared → Prop} (X : K.In s.heap) (L : ZP K C) (hx : s.heap.get? x = some ox) (hc : ox.cls = .ref C)
    (h : R (.ok (.ret (.ref C))) s) : codeAny (model prog w) A (.call (.builtin "getset_descriptor.__get__") ⟨[.builtin "object.__class__", .ref x, tp], []⟩) R s := by
  obtain ⟨hh, g, dr, t, os⟩ := s
  have L0 : Looks (model prog w) hh (typeOf (.ref x)) (.ref C) := hc ▸ (Looks.ld hx).andThen .now
  have L1 := looks_mroIn (M := model prog w) X L.mo
  refine codeAny_call_builtin KF.slot_gs.plain KF.entry_gs (KF.slot_gs.check _ _ _ _ _ _ _ _ KF.type_class (KF.args_gs _ _ _) ?_)
  unfold Builtin.«getset_descriptor.__get__» descrGet
  rw [dga_obj]
  refine wpAny_bind (wpAny_pure ?_)
  unfold descrGetter descrCheckInstance descrNameAndClass isInstance
  simp only [KF.owner_class]
  repeat lk
  refine ⟨Code.quiet_builtin _ (by decide +kernel), codeAny_builtin KF.entry_class ?_⟩
  unfold Builtin.«object.__class__» shownTypeOf
  repeat lk
  exact h
theorem zdU {Q:Option Value→Shared→Prop} (X:K.In s.heap) (L:ZP K C) (hx:s.heap.get? x=some ox) (hc:ox.cls=.ref C) (h:Q (some (.ref C)) { s with toks:=s.toks+1 }):wpAny (model prog w) A (getAttr? (.ref x) "__class__") Q E s:=by
 obtain⟨hh,g,d,t,os⟩:=s
 have L0:Looks (model prog w) hh (typeOf (.ref x)) (.ref C):=hc ▸ (Looks.ld hx).andThen .now
 have L1:=looks_findIn (M:=model prog w) X L.ga
 have L2:=looks_findIn (M:=model prog w) X L.hk
 unfold getAttr? getAttrBy? getAttrBy
 refine wpAny_bind (wpAny_mkText (wpAny_bind (wpAny_attempt (wpAny_holding (wpAny_bind (L0.at (wpAny_bind (L1.at ?_))))))))
 show wpAny _ _ (getAttrByItsOwn _ _ _ _ _ _) _ _ _
 unfold getAttrByItsOwn hookBefore
 refine wpAny_bind ?_
 show wpAny _ _ (typeLookup (.ref C) "__getattr__") _ _ _
 refine L2.at ?_
 refine wpAny_bind (wpAny_attempt (wpAny_holding ?_))
 show wpAny _ _ (boundAndCalled (.builtin "BaseException.__getattribute__") (.ref x) (.str "__class__" t)) _ _ _
 unfold boundAndCalled
 refine wpAny_bind (wpAny_of_eq (F.excAttr_ValueError.ga.bind (.ref x)) ?_)
 show wpAny _ _ (call (.builtin "BaseException.__getattribute__") [.ref x,.str "__class__" t]) _ _ _
 refine wpAny_call (codeAny_call_builtin F.excAttr_ValueError.ga.plain F.entry_bexc_ga (zeo (t:=t+1) X L hx hc ?_))
 unfold Builtin.«object.__getattribute__»
 refine wpAny_bind (wpAny_of_eq (a:=(Value.ref x,[Value.str "__class__" t])) rfl ?_)
 refine wpAny_bind (wpAny_of_eq (a:=Str.ofString "__class__") rfl ?_)
 refine wpAny_bind (L0.at (wpAny_bind ((zcz X L).at ?_)))
 show wpAny _ _ (holding [.builtin "object.__class__"] (call (.builtin "getset_descriptor.__get__") [.builtin "object.__class__",.ref x,.ref C]) >>= ret) _ _ _
 refine wpAny_bind (wpAny_holding (wpAny_call (zcA (s:=⟨hh,g,d,t+1,os⟩) X L hx hc (wpAny_pure ?_))))
 exact handed_on rfl (wpAny_pure h)
end
section
variable {K:Frag}{x C:Addr}
theorem zep (L:ZP K C):KitX K (.ref x) (.ref C) (fun h=>∃o,h.get? x=some o∧o.cls=.ref C) where
 ty:=fun M h _ p=>by
  obtain⟨o,h1,h2⟩:=p
  exact h2 ▸ (Looks.ld h1).andThen .now
 it:=fun _ _ X _=>by
  obtain⟨cd,hcd,_⟩:=Option.bind_eq_some_iff.mp (show (clsIn K C).bind _=some true from L.mo)
  unfold clsIn at hcd
  split at hcd
  ·rename_i c' d' cd' sl' ho
   intro A' Q' E' s' k q
   unfold isType loadHead
   exact wpAny_bind (wpAny_loadPart (k _ _ (X _ _ ho)) (wpAny_pure q))
  ·cases hcd
 ne:=fun h tp dd its n sl X htp=>by
  obtain⟨cd,hcd,_⟩:=Option.bind_eq_some_iff.mp (show (clsIn K C).bind _=some true from L.mo)
  refine Bool.eq_false_iff.mpr fun q=>?_
  have e:C=tp:=Value.ref.inj (beq_iff_eq.mp q)
  subst e
  unfold clsIn at hcd
  split at hcd
  ·rename_i c' d' cd' sl' ho
   have z:=(X _ _ ho).symm.trans htp
   cases z
  ·cases hcd
 ca:=fun X p k=>by
  obtain⟨o,h1,h2⟩:=p
  exact zdU X L h1 h2 k
end
inductive XTy (K:W.Frag) (H:Hp):V→Value→Prop where
 | of {x:V}{t:Value} (h:TyOf K H x t):XTy K H x t
 | exc {a C:Addr} (L:ZP K C) (h:H a=some (yc a (.ref C))):XTy K H (.ref a) (.ref C)
section
variable {X:Cx}
theorem qL:CallR X (.builtin "isinstance") (fun xs H Q=>∃(x c:V) (u t:Value) (b:Bool),xs=[x,c]∧(∀u',RelV c u'→u'=u)∧XTy X.K H x t∧kitOne X.K t u=some b∧Q (.bl b) H):=by
 intro pins s σ H xs us Q I r h
 obtain⟨x,c,u,t,b,rfl,hu,ty,e,q⟩:=h
 obtain⟨u1,u2,rfl,r1,r2⟩:=vals2 r
 have e2:=hu u2 r2
 subst e2
 cases ty with
 | of ty=>exact isinst_ok I r1 ty e fun tk=>⟨.bl b,H,I.tok tk,rfl,q⟩
 | @exc a C L hx=>
  cases (show u1=Value.ref a from r1)
  obtain⟨⟨o,ho,hc⟩,_,_⟩:=(show ObjOk X.prog X.w H s.heap a (yc a (.ref C)) from I.hok a _ hx)
  exact kia_one (zep L) I.kIn ⟨o,ho,hc⟩ e (fun z=>nomatch z) fun tk=>⟨.bl b,H,I.tok tk,rfl,q⟩
end
noncomputable def Ks (X:Cx) (G:St→Value→Hp→Prop):Prop:=∀(pins:List (Addr×Obj)) (σ:St) (H:Hp) (s:Shared) (e:Value) (s':Shared),Inv X pins σ H s→CXE X.prog X.w X.stack H s (fun C _ H'=>G σ C H') e s'→X.xe e s'
noncomputable def zlN (sp:Sp) (G:St→Value→Hp→Prop) (t:TA):TE:=fun σ H Q=>t σ H fun vs H1=>sp vs H1 Q fun C _ H'=>G σ C H'
section
variable {X:Cx}{k:Nat}{x:Str}{ps:List Str}{sp:Sp}{p pos:Pos}{e:Expr}{es:List Expr}{t:TA}{G:St→Value→Hp→Prop}
theorem qu (F:FnE X.prog X.w X.K X.mg X.base k x ps sp) (hr:Room k X.A) (hg:Gl X x) (hx:Ks X G) (ha:PA X (e::es) t) (hdb:(x == ("__debug__":Str))=false:=by decide)
  (he:starEach (e::es) X.env=(false,eval e X.env)::starEach es X.env:=by rfl) (hpl:(backTo pos (starEach es X.env)).any (·.1)=false:=by rfl) :
  PE X (.Call (.Name x p) (e::es) [] pos) (zlN sp G t):=by
 obtain⟨f,fd,F,kp,b,m⟩:=F
 intro pins s σ H Q I h
 refine wpAny_Call_Name_kw (ld_glob I hg m ?_ hdb)
 refine W.callWith_K (h₀:=X.base) I.ok.mod.kin kp (thn (ha pos pins s σ H _ I h) fun us s1 ⟨vs,H1,I1,r,q⟩=>⟨I1.kIn,?_⟩) he hpl
 have hl:us.length=ps.length:=by rw [← r.length];exact F.len _ _ _ _ q
 have bb:=b s1 us I1.kIn (by rw [List.append_nil];exact hl)
 rw [List.append_nil] at bb
 refine wpAny_call (codeAny_mono (F.run X.A X.stack s1 H1 ⟨us,[]⟩ us vs Q _ hr I1.env0 bb r q) fun rr s' hq=>?_)
 cases rr with
 | error e=>exact hx pins σ H1 s1 e s' I1 hq
 | ok fl=>
  cases fl with
  | ret u=>exact I1.after hq
  | next=>exact False.elim hq
  | brk=>exact False.elim hq
  | cont=>exact False.elim hq
end
theorem zQ {P:Program}{w:World}{K:W.Frag}{mg:Str→Option Value}{base:Heap}{N:List Str}{qual:Str}{scope:Scope}{f:Addr}{cdv:Value}{A:Around}{outer:List Env}{s:Shared}{H:Hp}{E:XK} :
  Ks (cxOf (CXE P w) P w K mg base N qual scope f cdv A outer s H E) (fun _ C H'=>E C none H'):=
 fun _ _ _ _ _ _ I h=>zfG (x:=0) I h fun _ _ z=>z
abbrev Cx.pinned (X:Cx) (pn:List (Addr×Obj)):Cx:={ X with pn:=pn }
theorem Inv.intoPn {X:Cx}{pins:List (Addr×Obj)}{σ:St}{H:Hp}{s:Shared} (I:Inv X pins σ H s):Inv (X.pinned (X.pn++pins)) [] σ H s:=
 ⟨⟨I.ok.mod,I.ok.kind,I.ok.glob,I.ok.blt,I.ok.above,I.ok.inj,I.ok.has,I.ok.cab,I.ok.hd,I.ok.frames,I.ok.stk,I.ok.exf,I.ok.bs,I.ok.bsz,I.ok.noex,I.ok.exfs,I.ok.funs,I.ok.frf⟩,I.os,I.bare,I.base,I.loc,I.cell,I.free,I.freeC,fun p hp=>I.pin p (by rw [List.append_nil] at hp;exact hp),I.hok,I.len⟩
theorem Inv.outPn {X:Cx}{pins zae:List (Addr×Obj)}{σ:St}{H:Hp}{s:Shared} (I:Inv (X.pinned (X.pn++pins)) zae σ H s):Inv X pins σ H s:=
 ⟨⟨I.ok.mod,I.ok.kind,I.ok.glob,I.ok.blt,I.ok.above,I.ok.inj,I.ok.has,I.ok.cab,I.ok.hd,I.ok.frames,I.ok.stk,I.ok.exf,I.ok.bs,I.ok.bsz,I.ok.noex,I.ok.exfs,I.ok.funs,I.ok.frf⟩,I.os,I.bare,I.base,I.loc,I.cell,I.free,I.freeC,fun p hp=>I.pin p (List.mem_append_left _ hp),I.hok,I.len⟩
theorem V6 {M:Model}{A:Around}{E:Value→Shared→Prop}{h:Heap}{g:Array GenState}{d:Drawn}{t:Nat}{os:OsState}{x C CB:Addr}{ox:Obj}{bm bm2:List Value}{Q:Bool→Shared→Prop} (hC:zbJ h C bm) (hB:zbJ h CB bm2) (hx:h.get? x=some ox) (hxc:ox.cls=.ref C)
  (hm:(Value.ref C::bm).contains (.ref CB)=true) (hq:Q true ⟨h,g,d,t,os⟩):wpAny M A (excMatches (.ref x) (.ref CB)) Q E ⟨h,g,d,t,os⟩:=by
 obtain⟨N,nm,q,bs,hdct,sn,sub,ab,col,dd,k0,k1,k2,k3,k5,newId,hC,hb⟩:=hC
 obtain⟨N',nm',q',bs',hdct',sn',sub',ab',col',dd',k0',k1',k2',k3',k5',newId',hB,hb'⟩:=hB
 have hcB:(Value.ref CB::bm2).contains (.type "BaseException")=true:=by rw [List.contains_cons,hb',Bool.or_true]
 have f:=tc_notTuple
 unfold excMatches
 repeat (first | (with_reducible refine wpAny_loadPart_at hx ?_;rw [hxc]) | with_reducible refine wpAny_loadPart_at hB ?_ | (with_reducible refine wpAny_isSubtype_exc hB ?_;rw [hcB]) | (with_reducible refine wpAny_isSubtype_exc hC ?_;rw [hm]) | wp_step)
 exact hq
noncomputable def zkQ (K:W.Frag) (CB:Addr) (i:Nat) (tb:(St→Value→Hp→Prop)→TS) (t2:TS):TS:=fun D σ H=>tb (fun σ1 Cv H'=>∃(C:Addr) (bmB:List Value) (newId:String),Cv=.ref C∧W.excIn K C bmB newId=true∧bmB.contains (.type "BaseException")=true∧W.mroIn K C (.ref CB)=some true ∧
 ∀x,H' x=none→t2 { nx:=fun σ3 H3=>D.nx ((σ3.set i (some .non)).set i none) H3,rt:=fun _ _=>False } (σ1.set i (some (.ref x))) (upd H' x (yc x (.ref C)))) D σ H
theorem zaS {X:Cx}{n xn:Str}{tb:(St→Value→Hp→Prop)→TS}{t2:TS}{CB:Addr}{i:Nat}{body:List Stmt}{b2:Stmt}{bs2:List Stmt}{np pos2 pos:Pos}{bmC:List Value}{idC:String}
  (hst:X.stack=X.env::X.outer) (hfr:X.env.frame=some X.env.locals) (hN:X.N.Nodup) (hi:X.N[i]?=some n) (hl:X.env.scope.names.lookup n=some .local) (hkl:X.env.kindOf n=some .local)
  (hgC:Gl X xn) (hmC:X.mg xn=some (.ref CB)) (hqB:W.excIn X.K CB bmC idC=true) (hbB:bmC.contains (.type "BaseException")=true)
  (hb:∀(pn:List (Addr×Obj)) (xe:Value→Shared→Prop) (G:St→Value→Hp→Prop),Ks ((X.pinned pn).wish xe) G→PSs ((X.pinned pn).wish xe) body (tb G)) (hb2:∀x,PSs (X.inX x) (b2::bs2) t2)
  (hdC:(xn == ("__debug__":Str))=false:=by decide) :
  PS X.nox (.Try body [.ExceptHandler (some (.Name xn np)) (some n) (b2::bs2) pos2] [] [] pos) (zkQ X.K CB i tb t2):=by
 intro pins s σ H D I h
 have I0:Inv X pins σ H s:=I.unwish
 refine wpAny_Try_except (wpAny_mono (hb (X.pn++pins) (fun e s'=>∃(zae:List (Addr×Obj)) (σ1:St) (H1:Hp) (s1:Shared),Inv (X.pinned (X.pn++pins)) zae σ1 H1 s1∧CXE X.prog X.w X.stack H1 s1 (fun Cv _ H'=>∃(C:Addr) (bmB:List Value) (newId:String),Cv=.ref C∧W.excIn X.K C bmB newId=true∧bmB.contains (.type "BaseException")=true∧W.mroIn X.K C (.ref CB)=some true ∧
   ∀x,H' x=none→t2 { nx:=fun σ3 H3=>D.nx ((σ3.set i (some .non)).set i none) H3,rt:=fun _ _=>False } (σ1.set i (some (.ref x))) (upd H' x (yc x (.ref C)))) e s') _ (fun zae σ1 H1 s1 e s' I1 z=>⟨zae,σ1,H1,s1,I1.unwish,z⟩) [] s σ H D (I0.intoPn.wish _) h) (fun fl s1 x=>?_) fun e s' x=>?_)
 ·cases fl with
  | next=>
   obtain⟨σ',H',I',q⟩:=x
   exact wpAny_execs_nil ⟨σ',H',I'.unwish.outPn.wish _,q⟩
  | brk=>
   obtain⟨σ',H',I',q⟩:=x
   exact⟨σ',H',I'.unwish.outPn.wish _,q⟩
  | cont=>
   obtain⟨σ',H',I',q⟩:=x
   exact⟨σ',H',I'.unwish.outPn.wish _,q⟩
  | ret u=>
   obtain⟨v,σ',H',I',r,q⟩:=x
   exact⟨v,σ',H',I'.unwish.outPn.wish _,r,q⟩
 ·obtain⟨zae,σ1,H1,s1,I1',x,Cv,a0,H',B,rfl,os,bare,fl,st,xn',xh,C,bmB,newId,rfl,hq,hbase,hmro,q2⟩:=x
  have I1:Inv X pins σ1 H1 s1:=I1'.outPn
  have fl':Heap.FlyingW B (X.env::X.outer) x (.ref C) a0 s'.heap:=by rw [← hst];exact fl
  have hfs:X.A.frames=some (X.env::X.outer):=by rw [← hst];exact I.ok.frames
  refine wpAny_looks_onW hfs hfr fl' fun h₄ held up4=>wpAny_landsW held fun h₅ fl5 up5=>?_
  have u05:=up4.trans up5
  obtain⟨un5,ok5⟩:=st h₅ fl5.1 u05
  have I5:Inv X pins σ1 H' { s' with heap:=h₅ }:=I1.call' (ch:=[]) os un5 ok5 bare (fun b z=>absurd z (by simp))
  obtain⟨ob,hob,hobc⟩:=fl5.there
  obtain⟨bm,N',nm,qn,bs,hdct,sn,sub,ab,col,dd,k0,k1,k2,k3,k5,mN,hC,hNs,hni,TL,mro⟩:=zaR I5.kIn hq
  obtain⟨bm',N'',nm',qn',bs',hdct',sn',sub',ab',col',dd',k0',k1',k2',k3',k5',mN',hB',hNs',hni',TL',mro'⟩:=zaR I5.kIn hqB
  refine wpAny_handleBy_cons (codeAny_handlers_test (Calls.Name_function_global I.ok.kind hgC (Calls.loadGlobal_global (by rw [I.ok.glob];exact(I.ok.mod.glob.keeps fun b o e=>I5.bk b o e)) hmC ?_) hdC)) (by intro q;cases q)
  refine V6 ⟨N',nm,qn,bs,hdct,sn,sub,ab,col,dd,k0,k1,k2,k3,k5,newId,hC,TL.hasType hbase⟩ ⟨N'',nm',qn',bs',hdct',sn',sub',ab',col',dd',k0',k1',k2',k3',k5',_,hB',TL'.hasType hbB⟩ hob hobc (mro _ _ hmro) (codeAny_handlers_suite_as ?_)
  refine lands_againW fl5 fun h₇ fl7 up7=>?_
  obtain⟨un7,ok7⟩:=st h₇ fl7.1 (u05.trans up7)
  obtain⟨ob7,hob7,hc7⟩:=fl7.there
  have I7:Inv X.nox pins σ1 (upd H' x (yc x (.ref C))) { s' with heap:=h₇ }:=zcw (I1.wish _) os bare un7 ok7 xn' xh hob7 hc7
  refine store_ok I7 hN hi (.inl hl) (v:=.ref x) rfl (fun s8 I8=>?_) (.inr hl)
  refine wpAny_mono (hb2 x pins s8 _ _ _ (I8.unwish.inX x) (q2 x xh)) (fun fl9 s9 x9=>?_) fun _ _ z=>False.elim z
  have hh:X.nox.calm=true→X.nox.A.handled=none:=I.ok.hd
  cases fl9 with
  | next=>
   obtain⟨σ3,H3,I9,q9⟩:=x9
   have I9':Inv X.nox pins σ3 H3 s9:=(Inv.outX (X:=X) hh I9).wish _
   have hi3:i < σ3.length:=by rw [I9'.len];exact(List.getElem?_eq_some_iff.mp hi).1
   refine wpAny_bind (wpAny_bindName (store_ok I9' hN hi (.inl hl) (v:=.non) (u:=.none) rfl (fun s10 I10=>?_) (.inr hl)))
   unfold unbindBehindTheSuite
   exact wpAny_onRaise (zdT I10 hN hi hkl hl (List.getElem?_set_self hi3) fun s11 I11=>⟨_,_,I11,q9⟩)
  | ret u=>obtain⟨_,_,_,_,_,z⟩:=x9;exact False.elim z
  | brk=>obtain⟨_,_,_,z⟩:=x9;exact False.elim z
  | cont=>obtain⟨_,_,_,z⟩:=x9;exact False.elim z
end L2
namespace L2
open PySem PySem.Spec PyProof.Rows
section
variable {X:Cx}
variable {a b:Expr}{ta tb:TE}{pos:Pos}
variable {tA tB':TT}{rest:List Expr}
end
section
variable {X:Cx}{CX:CXT}{k:Nat}{f C:Addr}{fd:FuncData}{ps ks:List Str}{sp:Sp}{E:XK}{x m:Str}{p pos apos kpos:Pos}{e o:Expr}{es:List Expr}{kws:List Keyword}{te ta:TE}{t tk:TA}{nm:Option Str}
variable {g:List Value→List Value→List Value}{gV:List V→List V→List V}
end
section
variable {κ:Type} [DecidableEq κ]
noncomputable def valV (kvs:List (κ×V)) (k:κ):Option V:=(kvs.find? fun kv=>decide (kv.1=k)).map (·.2)
noncomputable def putK (kvs:List (κ×V)) (k:κ) (v:V):List (κ×V):=
 if (kvs.any fun kv=>decide (kv.1=k))=true then kvs.map (fun kv=>if kv.1=k then (kv.1,v) else kv) else kvs++[(k,v)]
theorem valV_pos {p:κ×V}{r:List (κ×V)}{k:κ} (e:p.1=k):valV (p::r) k=some p.2:=by simp [valV,List.find?_cons,e]
theorem valV_neg {p:κ×V}{r:List (κ×V)}{k:κ} (e:¬p.1=k):valV (p::r) k=valV r k:=by simp [valV,List.find?_cons,e]
theorem valV_any (k:κ):∀kvs:List (κ×V),(kvs.any fun kv=>decide (kv.1=k))=(valV kvs k).isSome
 | []=>rfl
 | p::r=>by
  rw [List.any_cons]
  by_cases e:p.1=k
  ·simp only [valV_pos e,decide_eq_true e,Bool.true_or,Option.isSome_some]
  ·rw [valV_neg e,decide_eq_false e,Bool.false_or];exact valV_any k r
theorem valV_map (k j:κ) (y:V):∀kvs:List (κ×V),valV (kvs.map fun kv=>if kv.1=k then (kv.1,y) else kv) j=(valV kvs j).map fun x=>if j=k then y else x
 | []=>rfl
 | p::r=>by
  have ih:=valV_map k j y r
  rw [List.map_cons]
  by_cases h:p.1=k
  ·rw [if_pos h]
   by_cases e:p.1=j
   ·rw [valV_pos (p:=(p.1,y)) e,valV_pos e,Option.map_some,if_pos (e.symm.trans h)]
   ·rw [valV_neg (p:=(p.1,y)) e,valV_neg e,ih]
  ·rw [if_neg h]
   by_cases e:p.1=j
   ·rw [valV_pos (p:=p) e,valV_pos e,Option.map_some,if_neg (fun z=>h (e.trans z))]
   ·rw [valV_neg (p:=p) e,valV_neg e,ih]
theorem valV_snoc (k j:κ) (y:V):∀kvs:List (κ×V),valV kvs k=none→valV (kvs++[(k,y)]) j=if j=k then some y else valV kvs j
 | [],_=>by
  by_cases e:k=j
  ·rw [if_pos e.symm];exact valV_pos (p:=(k,y)) e
  ·rw [if_neg (fun z=>e z.symm)];exact valV_neg (p:=(k,y)) e
 | p::r,hn=>by
  rw [List.cons_append]
  have hk:¬p.1=k:=fun z=>by rw [valV_pos z] at hn;cases hn
  rw [valV_neg hk] at hn
  have ih:=valV_snoc k j y r hn
  by_cases e:p.1=j
  ·rw [valV_pos e,valV_pos e,if_neg (fun z=>hk (e.trans z))]
  ·rw [valV_neg e,valV_neg e,ih]
theorem valV_put (kvs:List (κ×V)) (k j:κ) (y:V):valV (putK kvs k y) j=if j=k then some y else valV kvs j:=by
 unfold putK
 by_cases a:(kvs.any fun kv=>decide (kv.1=k))=true
 ·rw [if_pos a,valV_map]
  rw [valV_any] at a
  by_cases e:j=k
  ·obtain⟨x,hx⟩:=Option.isSome_iff_exists.mp a
   rw [if_pos e,e,hx,Option.map_some,if_pos rfl]
  ·rw [if_neg e]
   cases valV kvs j with
   | none=>rfl
   | some x=>rw [Option.map_some,if_neg e]
 ·rw [if_neg a]
  refine valV_snoc k j y kvs ?_
  rw [valV_any] at a
  cases q:valV kvs k with
  | none=>rfl
  | some x=>rw [q] at a;exact(a rfl).elim
theorem length_putK (kvs:List (κ×V)) (k:κ) (v:V):(putK kvs k v).length≤kvs.length+1:=by
 unfold putK
 split
 ·rw [List.length_map];omega
 ·rw [List.length_append,List.length_cons,List.length_nil];omega
theorem putK_new {kvs:List (κ×V)}{k:κ} (v:V) (h:valV kvs k=none):putK kvs k v=kvs++[(k,v)]:=by
 unfold putK
 rw [valV_any,h]
 exact if_neg (by decide)
theorem RelO.isSome_eq {o:Option V}{u:Option Value} (r:RelO o u):o.isSome=u.isSome:=by
 cases o with
 | none=>cases u with
  | none=>rfl
  | some _=>exact(show False from r).elim
 | some _=>cases u with
  | none=>exact(show False from r).elim
  | some _=>rfl
theorem RelO.getD {o:Option V}{u:Option Value}{d:V} {d':Value} (r:RelO o u) (rd:RelV d d'):RelV (o.getD d) (u.getD d'):=by
 cases o with
 | none=>cases u with
  | none=>exact rd
  | some _=>exact(show False from r).elim
 | some _=>cases u with
  | none=>exact(show False from r).elim
  | some _=>exact r
theorem KV.val {kvs:List (κ×V)}{vs:List (κ×Value)} (r:KV kvs vs) (k:κ):RelO (valV kvs k) (valueAt vs k):=by
 unfold KV at r
 induction r with
 | nil=>exact True.intro
 | @cons p q ps qs h t ih=>
  obtain⟨h1,h2⟩:=h
  by_cases e:p.1=k
  ·have e':q.1=k:=h1.symm.trans e
   have b:valueAt (q::qs) k=some q.2:=by simp [valueAt,List.find?_cons,e']
   rw [valV_pos e,b];exact h2
  ·have e':¬q.1=k:=fun z=>e (h1.trans z)
   have b:valueAt (q::qs) k=valueAt qs k:=by simp [valueAt,List.find?_cons,e']
   rw [valV_neg e,b];exact ih
theorem KV.any {kvs:List (κ×V)}{vs:List (κ×Value)} (r:KV kvs vs) (k:κ):(kvs.any fun kv=>decide (kv.1=k))=vs.any fun kv=>decide (kv.1=k):=by
 unfold KV at r
 induction r with
 | nil=>rfl
 | cons h t ih=>rw [List.any_cons,List.any_cons,ih,h.1]
theorem KV.repl {kvs:List (κ×V)}{vs:List (κ×Value)} (r:KV kvs vs) (k:κ){y:V}{u:Value} (ry:RelV y u) :
  KV (kvs.map fun kv=>if kv.1=k then (kv.1,y) else kv) (vs.map fun kv=>if kv.1=k then (kv.1,u) else kv):=by
 unfold KV at r ⊢
 induction r with
 | nil=>exact .nil
 | @cons p q ps qs h t ih=>
  rw [List.map_cons,List.map_cons]
  refine .cons ?_ ih
  obtain⟨h1,h2⟩:=h
  by_cases e:p.1=k
  ·rw [if_pos e,if_pos (h1.symm.trans e)];exact⟨h1,ry⟩
  ·rw [if_neg e,if_neg (fun z=>e (h1.trans z))];exact⟨h1,h2⟩
theorem KV.put {kvs:List (κ×V)}{vs:List (κ×Value)} (r:KV kvs vs) (k:κ){y:V}{u:Value} (ry:RelV y u):KV (putK kvs k y) (stored vs k u):=by
 unfold putK stored
 rw [r.any k]
 by_cases e:(vs.any fun kv=>decide (kv.1=k))=true
 ·rw [if_pos e,if_pos e];exact r.repl k ry
 ·rw [if_neg e,if_neg e];exact Paired.snoc r ⟨rfl,ry⟩
theorem KV.length {kvs:List (κ×V)}{vs:List (κ×Value)} (r:KV kvs vs):kvs.length=vs.length:=Paired.length r
end
theorem kV_is {P:Program}{w:World}{k:Key}{u:Value} (r:RelV (kV k) u):(mixKind P w).is k u=true:=by
 cases k with
 | inl i=>obtain⟨t,e⟩:=(show ∃t,u=Value.int i t from r);subst e;exact mixKind_int P w i t
 | inr x=>obtain⟨t,e⟩:=(show ∃t,u=Value.str x t from r);subst e;exact mixKind_str P w x t
theorem items_are {P:Program}{w:World}:∀{ks:List Key}{us:List Value},Vals (ks.map kV) us→ItemsAre (mixKind P w) ks us
 | [],_,r=>by rw [List.map_nil] at r;cases r;exact .nil
 | k::ks,_,r=>by
  rw [List.map_cons] at r
  cases r with
  | cons h t=>exact .cons (kV_is h) (items_are t)
abbrev KT (H:Hp):List (List Key×V)→List (List Key×Addr×Value)→Prop:=Paired fun p q=>p.1=q.1∧H q.2.1=some (.tup (p.1.map kV))∧RelV p.2 q.2.2
theorem KT.val {H:Hp}{kvs:List (List Key×V)}{xs:List (List Key×Addr×Value)} (r:KT H kvs xs) (k:List Key):RelO (valV kvs k) ((atKey xs k).map (·.2)):=by
 induction r with
 | nil=>exact True.intro
 | @cons p q ps qs h t ih=>
  obtain⟨h1,_,h2⟩:=h
  by_cases e:p.1=k
  ·have e':q.1=k:=h1.symm.trans e
   have b:atKey (q::qs) k=some q.2:=by simp [atKey,List.find?_cons,e']
   rw [valV_pos e,b];exact h2
  ·have e':¬q.1=k:=fun z=>e (h1.trans z)
   have b:atKey (q::qs) k=atKey qs k:=by simp [atKey,List.find?_cons,e']
   rw [valV_neg e,b];exact ih
theorem KT.repl {H:Hp}{kvs:List (List Key×V)}{xs:List (List Key×Addr×Value)} (r:KT H kvs xs) (k:List Key){y:V}{u:Value} (ry:RelV y u) :
  KT H (kvs.map fun kv=>if kv.1=k then (kv.1,y) else kv) (xs.map (putAt k u)):=by
 induction r with
 | nil=>exact .nil
 | @cons p q ps qs h t ih=>
  rw [List.map_cons,List.map_cons]
  refine .cons ?_ ih
  obtain⟨h1,h2,h3⟩:=h
  unfold putAt
  by_cases e:p.1=k
  ·rw [if_pos e,if_pos (h1.symm.trans e)];exact⟨h1,h2,ry⟩
  ·rw [if_neg e,if_neg (fun z=>e (h1.trans z))];exact⟨h1,h2,h3⟩
theorem KT.put {H:Hp}{kvs:List (List Key×V)}{xs:List (List Key×Addr×Value)} (r:KT H kvs xs) (k:List Key){b:Addr}{y:V}{u:Value} (hb:H b=some (.tup (k.map kV))) (ry:RelV y u) :
  KT H (putK kvs k y) (storedH xs k b u):=by
 have e:(kvs.any fun kv=>decide (kv.1=k))=(atKey xs k).isSome:=by
  rw [valV_any,(r.val k).isSome_eq,Option.isSome_map]
 unfold putK storedH
 rw [e]
 by_cases q:(atKey xs k).isSome=true
 ·rw [if_pos q,if_pos q];exact r.repl k ry
 ·rw [if_neg q,if_neg q];exact Paired.snoc r ⟨rfl,hb,ry⟩
theorem KT.keeps {H H':Hp}{kvs:List (List Key×V)}{xs:List (List Key×Addr×Value)} (r:KT H kvs xs) (ht:∀b ys,H b=some (.tup ys)→H' b=some (.tup ys)):KT H' kvs xs:=
 Paired.mapP r fun _ _ z=>⟨z.1,ht _ _ z.2.1,z.2.2⟩
section
variable {P:Program}{w:World}{H:Hp}{h:Heap}{a:Addr}
theorem rd_of {u:HO} (ok:HOk P w H h) (e:Rd H a u):ObjOk P w H h a u:=e.ok ok
theorem dk_rd {kvs:List (Key×V)} (ok:HOk P w H h) (e:Rd H a (.dK kvs)):kvs.length≤sizeLine∧(a == sysModules)=false∧∃vs,KV kvs vs∧h.DictOf (mixKind P w) a vs:=
 show ObjOk P w H h a (.dK kvs) from rd_of ok e
theorem dk_of {kvs:List (Key×V)} (ok:HOk P w H h) (e:H a=some (.dK kvs)):kvs.length≤sizeLine∧(a == sysModules)=false∧∃vs,KV kvs vs∧h.DictOf (mixKind P w) a vs:=dk_rd ok (.inl e)
theorem key_of {ks:List Key} (ok:HOk P w H h) (e:H a=some (.tup (ks.map kV))):(tupleKind (mixKind P w)).is h ks a:=by
 obtain⟨_,its,r,o,h1,h2,n,h3⟩:=(show ObjOk P w H h a (.tup (ks.map kV)) from ok a _ e)
 exact⟨o,its.toArray,n,h1,h2,h3,by simpa using items_are r⟩
theorem dt_rd {kvs:List (List Key×V)} (ok:HOk P w H h) (e:Rd H a (.dT kvs)):kvs.length≤sizeLine∧(a == sysModules)=false ∧
  ∃xs,KT H kvs xs∧h.DictOfH (tupleKind (mixKind P w)) a xs:=by
 obtain⟨z,y,xs,r,o,es,ep,h1,h2,h3,h4,h5⟩:=(show ObjOk P w H h a (.dT kvs) from rd_of ok e)
 refine⟨z,y,xs,r,o,es,ep,h1,h2,h3,h4,fun x hx=>?_,h5⟩
 have all:∀{l:List (List Key×V)}{m:List (List Key×Addr×Value)},KT H l m→∀x∈m,(tupleKind (mixKind P w)).is h x.1 x.2.1:=by
  intro l m q
  induction q with
  | nil=>intro x hx;exact nomatch hx
  | @cons p q ps qs hq t ih=>
   intro x hx
   rcases List.mem_cons.mp hx with e | hx
   ·subst e
    exact key_of ok (by rw [← hq.1];exact hq.2.1)
   ·exact ih x hx
 exact all r x hx
theorem dt_of {kvs:List (List Key×V)} (ok:HOk P w H h) (e:H a=some (.dT kvs)):kvs.length≤sizeLine∧(a == sysModules)=false ∧
  ∃xs,KT H kvs xs∧h.DictOfH (tupleKind (mixKind P w)) a xs:=dt_rd ok (.inl e)
end
noncomputable def DGet (H:Hp) (a:Addr) (y:V) (r:Option V):Prop:=
 (∃kvs k,Rd H a (.dK kvs)∧y=kV k∧r=valV kvs k)∨∃kvs k b,Rd H a (.dT kvs)∧y=.ref b∧H b=some (.tup (k.map kV))∧r=valV kvs k
noncomputable def DPut (H:Hp) (a:Addr) (y v:V) (H':Hp):Prop:=
 (∃kvs k,H a=some (.dK kvs)∧y=kV k∧kvs.length<sizeLine∧H'=upd H a (.dK (putK kvs k v))) ∨
 ∃kvs k b,H a=some (.dT kvs)∧y=.ref b∧H b=some (.tup (k.map kV))∧kvs.length<sizeLine∧H'=upd H a (.dT (putK kvs k v))
theorem DGet.k {H:Hp}{a:Addr}{kvs:List (Key×V)}{k:Key} (e:H a=some (.dK kvs)):DGet H a (kV k) (valV kvs k):=.inl ⟨kvs,k,.inl e,rfl,rfl⟩
theorem DPut.k {H:Hp}{a:Addr}{kvs:List (Key×V)}{k:Key}{v:V} (e:H a=some (.dK kvs)) (hl:kvs.length<sizeLine):DPut H a (kV k) v (upd H a (.dK (putK kvs k v))):=.inl ⟨kvs,k,e,rfl,hl,rfl⟩
section
variable {X:Cx}{pins:List (Addr×Obj)}{σ:St}{H:Hp}{s:Shared}{a:Addr}{y v:V}{u r:Value}{o:Option V}{A:Around}{E:Value→Shared→Prop}
theorem Inv.big (I:Inv X pins σ H s):sysModules<s.heap.objs.size:=by
 have h:mainGlobals<s.heap.objs.size:=(I.mod.glob.keeps I.bk).lt
 exact Nat.lt_trans (by decide) h
theorem d_getItem {Q:Value→Shared→Prop} (hu:A.units+1<cLine) (I:Inv X pins σ H s) (g:DGet H a y (some v)) (ry:RelV y u) (h:∀w' s',Inv X pins σ H s'→RelV v w'→Q w' s') :
  wpAny (model X.prog X.w) A (getItem (.ref a) u) Q E s:=by
 rcases g with ⟨kvs,k,e,ey,l⟩ | ⟨kvs,k,b,e,ey,eb,l⟩
 ·subst ey
  obtain⟨z,hd,vs,rel,dd⟩:=dk_rd I.hok e
  obtain⟨w',hw,rw'⟩:=RelO.some_of (v:=v) (o:=valueAt vs k) (by rw [l];exact rel.val k)
  exact wpAny_getItem_of (kV_is ry) dd.mapOf hw (h w' _ (I.tok _) rw')
 ·subst ey
  cases (show u=Value.ref b from ry)
  obtain⟨z,hd,xs,rel,dd⟩:=dt_rd I.hok e
  obtain⟨w',hw,rw'⟩:=RelO.some_of (v:=v) (o:=(atKey xs k).map (·.2)) (by rw [l];exact rel.val k)
  obtain⟨p,hp,hp2⟩:=Option.map_eq_some_iff.mp hw
  refine wpAny_getItem_heap (tupleKind_room_in1 hu) (key_of I.hok eb) dd hp ?_
  rw [hp2]
  exact h w' _ (I.tok _) rw'
theorem d_notIn {Q:Value→Shared→Prop} (hu:A.units+1<cLine) (I:Inv X pins σ H s) (g:DGet H a y o) (ry:RelV y u) (h:∀s',Inv X pins σ H s'→Q (.bool (!o.isSome)) s') :
  wpAny (model X.prog X.w) A (compareOp .NotIn u (.ref a)) Q E s:=by
 rcases g with ⟨kvs,k,e,ey,l⟩ | ⟨kvs,k,b,e,ey,eb,l⟩
 ·subst ey
  obtain⟨z,hd,vs,rel,dd⟩:=dk_rd I.hok e
  refine wpAny_notIn_of (kV_is ry) hd dd.mapOf ?_
  rw [← (rel.val k).isSome_eq,← l]
  exact h _ (I.tok _)
 ·subst ey
  cases (show u=Value.ref b from ry)
  obtain⟨z,hd,xs,rel,dd⟩:=dt_rd I.hok e
  refine wpAny_notIn_heap (tupleKind_room_in1 hu) (key_of I.hok eb) hd dd ?_
  have q:=(rel.val k).isSome_eq
  rw [Option.isSome_map] at q
  rw [← q,← l]
  exact h _ (I.tok _)
theorem d_write {h':Heap} {t':Nat}{ob:HO} (I:Inv X pins σ H s) (mu:Mut (H a)) (hs:Heap.SameBut a s.heap h') (he:∃q,h'.get? a=some q) (new:ObjOk X.prog X.w (upd H a ob) h' a ob) :
  Inv X pins σ (upd H a ob) { s with heap:=h',toks:=t' }:=
 I.write (x:=a) (e:=a) mu (.inl rfl) (fun b q hb z=>(hs.2 b hb).trans z) he new
theorem dk_new {P:Program}{w:World} {H':Hp} {h':Heap}{kvs:List (Key×V)}{vs:List (Key×Value)} (z:kvs.length≤sizeLine) (hd:(a == sysModules)=false) (rel:KV kvs vs) (dd:h'.DictOf (mixKind P w) a vs) :
  ObjOk P w H' h' a (.dK kvs):=⟨z,hd,vs,rel,dd⟩
theorem d_setItem {H':Hp}{Q:Unit→Shared→Prop} (hu:A.units+1<cLine) (I:Inv X pins σ H s) (g:DPut H a y v H') (ry:RelV y u) (rv:RelV v r) (h:∀s',Inv X pins σ H' s'→Q () s') :
  wpAny (model X.prog X.w) A (setItem (.ref a) u r) Q E s:=by
 rcases g with ⟨kvs,k,e,ey,l,eH⟩ | ⟨kvs,k,b,e,ey,eb,l,eH⟩
 ·subst ey eH
  obtain⟨z,hd,vs,rel,dd⟩:=dk_of I.hok e
  have hz:vs.length≤sizeLine:=by rw [← rel.length];exact z
  have hl:(putK kvs k v).length≤sizeLine:=by have:=length_putK kvs k v;omega
  refine wpAny_setItem_pairs (hsz:=hz) (kV_is ry) dd fun h' dd' hs=>h _ ?_
  have he:∃q,h'.get? a=some q:=let ⟨q,_,_,hq,_⟩:=dd';⟨q,hq⟩
  exact d_write I (by rw [e];exact True.intro) hs he (dk_new hl hd (rel.put k rv) dd')
 ·subst ey eH
  cases (show u=Value.ref b from ry)
  obtain⟨z,hd,xs,rel,dd⟩:=dt_of I.hok e
  have hz:xs.length≤sizeLine:=by rw [← Paired.length rel];exact z
  have hl:(putK kvs k v).length≤sizeLine:=by have:=length_putK kvs k v;omega
  refine wpAny_setItem_heap (hsz:=hz) (tupleKind_room_in1 hu) (key_of I.hok eb) dd fun h' dd' hs=>h _ ?_
  obtain⟨q,es,ep,hq,h2,h3,h4,_,h5⟩:=dd'
  refine d_write I (by rw [e];exact True.intro) hs ⟨q,hq⟩ ⟨hl,hd,_,(rel.put k eb rv).keeps fun c ys ec=>?_,q,es,ep,hq,h2,h3,h4,h5⟩
  rw [upd_ne (ne_of ec e (fun z=>nomatch z))]
  exact ec
end
section
variable {X:Cx}{pins:List (Addr×Obj)}{σ:St}{H:Hp}{s:Shared}{a:Addr}{kvs:List (Key×V)}{k:Key}{u:Value}{A:Around}{E:Value→Shared→Prop}
end
noncomputable def NoSl (i:Expr):Prop:=∀ov iv,subscripted i false ov iv=operate [ov,iv] (getItem ov iv)
theorem subD_of {prog:Program}{w:World}{A:Around}{E:Value→Shared→Prop}{s:Shared}{env:Env}{value slice:Expr}{pos:Pos}{T id:String}{Q:Value→Shared→Prop}
  (hl:typeLookup (.type T) "__getitem__"=pure (some (.builtin id))) (hs:NoSl slice)
  (h:wpAny (model prog w) A (eval value env) (fun o s₁=>wpAny (model prog w) A (eval slice env) (fun i s₂=>s₂.TypeIs o T∧wpAny (model prog w) A (getItem o i) Q E s₂) E s₁) E s) :
  wpAny (model prog w) A (eval (.Subscript value slice pos) env) Q E s:=by
 refine Subscript_ (wpAny_mono h (fun o s₁ h₁=>wpAny_mono h₁ (fun i s₂ h₂=>?_) fun _ _ x=>x) fun _ _ x=>x)
 obtain⟨hT,h₂⟩:=h₂
 unfold subscriptTail
 refine wpAny_bind ?_
 rw [getitemInPython_of_ne hT.not_modules]
 refine wpAny_bind (wpAny_specialOf hT hl ?_)
 have fin:wpAny (model prog w) A (subscripted slice false o i) (fun r s₃=>wpAny (model prog w) A (letTemporaryGo value o r >>= fun _=>pure r) Q E s₃) E s₂:=by
  rw [hs o i]
  exact wpAny_operating (wpAny_mono h₂ (fun r s₃ h₃=>wpAny_bind (wpAny_letTemporaryGo (wpAny_pure h₃))) fun _ _ x=>x)
 first
  | exact wpAny_pure (wpAny_bind fin)
  | exact wpAny_bind (wpAny_pure (wpAny_bind fin))
  | exact wpAny_bind fin
theorem dict_typeIs {X:Cx}{pins:List (Addr×Obj)}{σ:St}{H:Hp}{s:Shared}{a:Addr}{y:V}{o:Option V} (I:Inv X pins σ H s) (g:DGet H a y o):s.TypeIs (.ref a) "dict":=by
 rcases g with ⟨kvs,k,e,_,_⟩ | ⟨kvs,k,b,e,_,_,_⟩
 ·obtain⟨_,_,vs,_,dd⟩:=dk_rd I.hok e
  exact dd.typeIs
 ·obtain⟨_,_,xs,_,dd⟩:=dt_rd I.hok e
  exact dd.typeIs
noncomputable def tDGet (td ty:TE):TE:=fun σ H Q=>td σ H fun x H1=>ty σ H1 fun y H2=>∃a v,x=.ref a∧DGet H2 a y (some v)∧Q v H2
noncomputable def tDNotIn (ty td:TE):TE:=fun σ H Q=>ty σ H fun y H1=>td σ H1 fun x H2=>∃a o,x=.ref a∧DGet H2 a y o∧Q (.bl (!o.isSome)) H2
noncomputable def sDPut (td ty tv:TE):TS:=fun D σ H=>tv σ H fun v H1=>td σ H1 fun x H2=>ty σ H2 fun y H3=>∃a H4,x=.ref a∧DPut H3 a y v H4∧D.nx σ H4
section
variable {X:Cx}{o i e value:Expr} {pos pos' tpos:Pos}{td ty tv:TE}
theorem pe_dget (hu:X.A.units+1<cLine) (ho:PE X o td) (hi:PE X i ty) (hs:NoSl i):PE X (.Subscript o i pos) (tDGet td ty):=by
 intro pins s σ H Q I h
 refine subD_of PySem.F.slot_dict_getitem.lookup hs (thn (ho pins s σ H _ I h) fun u s1 ⟨x,H1,I1,rx,q1⟩=>thn (hi pins s1 σ H1 _ I1 q1) fun iv s2 ⟨y,H2,I2,ry,a,v,ex,g,q2⟩=>?_)
 subst ex
 obtain rfl:u=Value.ref a:=rx
 exact⟨dict_typeIs I2 g,d_getItem hu I2 g ry fun w' s3 I3 rw'=>⟨v,H2,I3,rw',q2⟩⟩
theorem pc_dnotin (hu:X.A.units+1<cLine) (hi:PE X i ty) (ho:PE X o td):PC X .NotIn i o (tDNotIn ty td):=by
 intro pins s σ H Q I h
 refine thn (hi pins s σ H _ I h) fun iv s1 ⟨y,H1,I1,ry,q1⟩=>thn (ho pins s1 σ H1 _ I1 q1) fun u s2 ⟨x,H2,I2,rx,a,ov,ex,g,q2⟩=>?_
 subst ex
 obtain rfl:u=Value.ref a:=rx
 exact d_notIn hu I2 g ry fun s3 I3=>⟨.bl (!ov.isSome),H2,I3,rfl,q2⟩
theorem ps_dput (hu:X.A.units+1<cLine) (ho:PE X o td) (hi:PE X i ty) (hv:PE X value tv) (hs:swapsWith value (some (.Subscript o i pos')) pos.line X.env=pure false) :
  PS X (.Assign [.Subscript o i pos'] value pos) (sDPut td ty tv):=by
 intro pins s σ H D I h
 refine wpAny_Assign_Subscript (thn (hv pins s σ H _ I h) fun r s1 ⟨v,H1,I1,rv,q1⟩=>thn (ho pins s1 σ H1 _ I1 q1) fun u s2 ⟨x,H2,I2,rx,q2⟩=>thn (hi pins s2 σ H2 _ I2 q2) fun iv s3 ⟨y,H3,I3,ry,a,H4,ex,g,q3⟩=>?_) hs
 subst ex
 obtain rfl:u=Value.ref a:=rx
 exact d_setItem hu I3 g ry rv fun s4 I4=>⟨σ,H4,I4,q3⟩
end
theorem dk_empty {P:Program}{w:World}{H:Hp} (h:Heap) (hb:sysModules<h.objs.size):ObjOk P w H (h.push { cls:=.type "dict",data:=.dict #[] }) h.objs.size (.dK []):=
 ⟨Nat.zero_le _,beq_eq_false_iff_ne.mpr (Ne.symm (Nat.ne_of_lt hb)),[],.nil,Heap.DictOf.new h⟩
noncomputable def tDNewK:TE:=fun _ H Q=>∀p,H p=none→Q (.ref p) (upd H p (.dK []))
section
variable {X:Cx}{pos:Pos}
theorem pe_dnewK:PE X (.Dict [] [] pos) tDNewK:=fun pins s σ H Q I h=>
 wpAny_Dict_empty ⟨.ref s.heap.objs.size,_,I.laid (a:=s.heap.objs.size) (o:=.dK []) (t':=s.toks) (fun _ _ q=>Heap.get?_push_of_some _ q) (Nat.le_refl _) (dk_empty s.heap I.big),rfl,h _ (I.hok.fresh (Nat.le_refl _))⟩
end
structure M1 (X:Cx) (o:Expr) (m:Str) (apos:Pos) (e:Expr) (cpos:Pos):Prop where
 base:attributeBase o m X.env (eval o X.env)=eval o X.env
 few:((backTo cpos (starEach [e] X.env)).all (fun x=>!x.1) && (backToKw cpos (keywordEach [] X.env)).all (fun x=>x.1.isSome)
  && decide (([e]:List Expr).length+([]:List Keyword).length+(if ([]:List Keyword).isEmpty then 0 else 1)<30))=true
 line:(apos.endLine == cpos.line)=true
 trees:backTo cpos (starEach [e] X.env)=[(false,eval e X.env)]
structure M2 (X:Cx) (o:Expr) (m:Str) (apos:Pos) (e f:Expr) (cpos:Pos):Prop where
 base:attributeBase o m X.env (eval o X.env)=eval o X.env
 few:((backTo cpos (starEach [e,f] X.env)).all (fun x=>!x.1) && (backToKw cpos (keywordEach [] X.env)).all (fun x=>x.1.isSome)
  && decide (([e,f]:List Expr).length+([]:List Keyword).length+(if ([]:List Keyword).isEmpty then 0 else 1)<30))=true
 line:(apos.endLine == cpos.line)=true
 trees:backTo cpos (starEach [e,f] X.env)=[(false,eval e X.env),(false,eval f X.env)]
noncomputable def IsD (H:Hp) (a:Addr):Prop:=(∃kvs,Rd H a (.dK kvs))∨∃kvs,Rd H a (.dT kvs)
theorem isD_at {X:Cx}{pins:List (Addr×Obj)}{σ:St}{H:Hp}{s:Shared}{a:Addr} (I:Inv X pins σ H s) (d:IsD H a) :
  s.TypeIs (.ref a) "dict"∧(∀b,Value.ref a=.ref b→∃ob,s.heap.get? b=some ob∧ob.dict=none)∧(a == sysModules)=false:=by
 rcases d with ⟨kvs,e⟩ | ⟨kvs,e⟩
 ·obtain⟨_,hd,vs,_,dd⟩:=dk_rd I.hok e
  refine⟨dd.typeIs,fun b q=>?_,hd⟩
  cases q
  obtain⟨ob,_,_,h1,h2,_⟩:=dd
  exact⟨ob,h1,h2.2.1⟩
 ·obtain⟨_,hd,xs,_,dd⟩:=dt_rd I.hok e
  refine⟨dd.typeIs,fun b q=>?_,hd⟩
  cases q
  obtain⟨ob,_,_,h1,h2,_⟩:=dd
  exact⟨ob,h1,h2.2.1⟩
section
variable {X:Cx}{pins:List (Addr×Obj)}{σ:St}{H:Hp}{s:Shared}{a:Addr}{y d:V}{u r:Value}{o:Option V}{A:Around}{E:Value→Shared→Prop}
theorem d_get2 {Q:Value→Shared→Prop} (hu:A.units+1<cLine) (I:Inv X pins σ H s) (g:DGet H a y o) (ry:RelV y u) (rd:RelV d r) (h:∀w' s',Inv X pins σ H s'→RelV (o.getD d) w'→Q w' s') :
  wpAny (model X.prog X.w) A (call (.builtin "dict.get") [.ref a,u,r]) Q E s:=by
 rcases g with ⟨kvs,k,e,ey,l⟩ | ⟨kvs,k,b,e,ey,eb,l⟩
 ·subst ey
  obtain⟨z,hd,vs,rel,dd⟩:=dk_rd I.hok e
  refine call_meetsIn PySem.F.slot_dict_get dd.typeIs PySem.F.entry_dict_get (PySem.F.args_dict_get_3 _ _ _) (meets_dict_get_default (mixKind X.prog X.w) a (kV_is ry) hd r) ⟨_,dd.mapOf,h _ _ (I.tok _) ?_⟩
  rw [l]
  exact(rel.val k).getD rd
 ·subst ey
  cases (show u=Value.ref b from ry)
  obtain⟨z,hd,xs,rel,dd⟩:=dt_rd I.hok e
  refine call_meetsIn PySem.F.slot_dict_get dd.typeIs PySem.F.entry_dict_get (PySem.F.args_dict_get_3 _ _ _) (meetsH_dict_get_default (tupleKind (mixKind X.prog X.w)) a b hd r) ⟨tupleKind_room_in1 hu,k,xs,key_of I.hok eb,dd,h _ _ (I.tok _) ?_⟩
  rw [l]
  exact(rel.val k).getD rd
end
noncomputable def tDGet2 (td ty tx:TE):TE:=fun σ H Q=>td σ H fun x H1=>∃a,x=.ref a∧IsD H1 a∧ty σ H1 fun y H2=>tx σ H2 fun z H3=>∃o,DGet H3 a y o∧Q (o.getD z) H3
section
variable {X:Cx}{o e f:Expr}{apos cpos:Pos}{td ty tx:TE}
theorem pe_dget2 (hu:X.A.units+1<cLine) (ho:PE X o td) (he:PE X e ty) (hf:PE X f tx) (m:M2 X o "get" apos e f cpos):PE X (.Call (.Attribute o "get" apos) [e,f] [] cpos) (tDGet2 td ty tx):=by
 intro pins s σ H Q I h
 refine wpAny_Call_method m.base m.few m.line PySem.F.plainAttrs_dict PySem.F.slot_dict_get PySem.F.type_dict_get (thn (ho pins s σ H _ I h) fun u s1 ⟨x,H1,I1,rx,a,ex,d,q1⟩=>?_)
 subst ex
 obtain rfl:u=Value.ref a:=rx
 obtain⟨t1,t2,_⟩:=isD_at I1 d
 refine⟨t1,t2,?_⟩
 rw [m.trees]
 refine Calls.callWith_builtin rfl (Calls.evalArgs_plain (Calls.spliced_cons (thn (he pins s1 σ H1 _ I1 q1) fun iv s2 ⟨y,H2,I2,ry,q2⟩=>
  Calls.spliced_cons (thn (hf pins s2 σ H2 _ I2 q2) fun fv s3 ⟨z,H3,I3,rz,ov,g,q3⟩=>Calls.spliced_nil ?_))))
 exact d_get2 hu I3 g ry rz fun w' s4 I4 rw'=>⟨_,H3,I4,rw',q3⟩
end
section
variable {X:Cx}{pins:List (Addr×Obj)}{σ:St}{H:Hp}{s:Shared}{a:Addr}{kvs:List (Key×V)}{A:Around}{E:Value→Shared→Prop}
end
section
variable {X:Cx}{pins:List (Addr×Obj)}{σ:St}{H:Hp}{s:Shared}{a:Addr}{y:V}{u:Value}{A:Around}{E:Value→Shared→Prop}
end
end L2
namespace Att
open PySem PySem.W PySem.Calls PyProof.Rows
end Att
namespace L2
open PySem PySem.Spec PyProof.Rows
section
variable {X:Cx}
end
section
variable {κ:Type} [DecidableEq κ]
end
theorem zeq:typeLookup (.type "list_reverseiterator") (Str.ofString "__len__")=pure none:=by with_unfolding_all rfl
theorem zfH:typeLookup (.type "list_reverseiterator") (Str.ofString "__length_hint__")=pure (some (.builtin "list_reverseiterator.__length_hint__")):=by with_unfolding_all rfl
theorem zer:splitId "list_reverseiterator.__length_hint__"=some ("list_reverseiterator","__length_hint__"):=by with_unfolding_all rfl
theorem zgR:isSubtype (.type "list_reverseiterator") (.type "list_reverseiterator")=pure true:=by with_unfolding_all rfl
theorem zes {prog:Program}{w:World}{A:Around}{E:Value→Shared→Prop}{s:Shared}{I:Addr}{Q:Bool→Shared→Prop} (ty:s.TypeIs (.ref I) "list_reverseiterator") (q:Q false s):wpAny (model prog w) A (Builtin.List.listLengthHint (.ref I)) Q E s:=by
 unfold Builtin.List.listLengthHint
 refine wpAny_bind (wpAny_specialOf ty zeq ?_)
 dsimp only
 rw [if_neg (by with_unfolding_all decide)]
 simp only [Option.isSome_none,Bool.false_eq_true,↓reduceIte]
 refine wpAny_bind (wpAny_specialOf ty zfH ?_)
 dsimp only
 rw [zer]
 dsimp only
 refine wpAny_bind (wpAny_isInstance ty zgR ?_)
 simp only [Bool.not_true,Bool.false_eq_true,↓reduceIte]
 rw [if_pos (by with_unfolding_all decide),if_neg (by with_unfolding_all decide)]
 exact wpAny_pure q
section
variable {X:Cx}
theorem zfI:MtR X "str.find" (fun x vs H Q=>∃a b,x=.str a∧vs=[.str b]∧Q (.int (Txt.find a b)) H):=by
 intro pins s σ H x xs v us Q I rx rs h
 obtain⟨a,b,rfl,rfl,q⟩:=h
 obtain⟨t,rfl⟩:=rx
 obtain⟨u,rfl,w1⟩:=vals1 rs
 obtain⟨t',rfl⟩:=w1
 exact SC.find ⟨.int (Txt.find a b),H,I.tok _,⟨_,rfl⟩,q⟩
theorem K1 {ys:List Str}:∀{us:List Value},Vals (ys.map V.str) us→StrsAre us ys:=by
 induction ys with
 | nil=>intro us r;rw [List.map_nil] at r;cases r;exact .nil
 | cons n ns ih=>
  intro us r
  rw [List.map_cons] at r
  cases r with
  | cons r1 r2=>
   obtain⟨t,e⟩:=r1
   subst e
   exact .cons n t (ih r2)
noncomputable def rJoin (K:W.Frag):V→List V→Hp→VK→Prop:=fun x vs H Q=>∃a p ys,x=.str a∧vs=[.ref p]∧SqL K H p (ys.map V.str)∧(ys.map (·.length)).sum+ys.length*a.length≤16777216∧Q (.str (Txt.join a ys)) H
theorem ZQ:MtR X "str.join" (rJoin X.K):=by
 intro pins s σ H x xs v us Q I rx rs h
 obtain⟨a,p,ys,rfl,rfl,hq,hz,q⟩:=h
 obtain⟨t,rfl⟩:=rx
 obtain⟨u,rfl,w1⟩:=vals1 rs
 cases w1
 obtain⟨its,r,pl,_⟩:=I.list hq
 exact PyProof.Rows.join_list pl.isList (by simpa using K1 r) hz fun t' k=>⟨.str (Txt.join a ys),H,I.tok _,⟨_,rfl⟩,q⟩
theorem zfJ:OpR X (binaryOp .Mult) (fun x y H Q=>∃a n,x=.str a∧y=.int n∧MulOk a n∧Q (.str (Txt.mul a n)) H):=by
 intro pins s σ H x y v u Q I rx ry h
 obtain⟨a,n,rfl,rfl,ok,q⟩:=h
 obtain⟨t,rfl⟩:=rx
 obtain⟨t',rfl⟩:=ry
 exact SB.mul ok fun _ _=>⟨.str (Txt.mul a n),H,I.tok _,⟨_,rfl⟩,q⟩
noncomputable def Its (x:Str):It:=⟨fun i _=>i<x.cps.size,fun i H v H'=>H'=H∧∃c,x.cps[i]?=some c∧v=.str ⟨#[c]⟩,fun i _=>x.cps.size≤i⟩
theorem zaf {P:Program}{w:World}{K:PySem.W.Frag}{tg:Expr} (it:Addr) (x:Str) (t:Tok) (T:String) (hT:["enumerate","zip","dict_itemiterator","dict_reverseitemiterator","odict_iterator","itertools.zip_longest","itertools.pairwise"].contains T=false)
  (W:∀A:Around,A.handled=none→Walks P w A it [it] [it] x.cps.size (SignAt x) (fun i h=>h.IsStrIter it T x t i))
  (hself:∀(A:Around) (i:Nat) (s:Shared) (Q:Value→Shared→Prop) (E:Value→Shared→Prop),s.heap.IsStrIter it T x t i→Q (.ref it) s→wpAny (model P w) A (pyIter (.ref it)) Q E s) :
  Turn P w K tg (Its x) [it] it (fun i h=>i≤x.cps.size∧h.IsStrIter it T x t i) where
 mem:=by simp
 obj:=fun i h st b hb=>by
  have e:b=it:=by simpa using hb
  subst e
  obtain⟨_,o,e,c,d⟩:=st
  exact⟨o,e,fun v z=>by rw [d] at z;cases z⟩
 keep:=fun i h h' st k=>by
  obtain⟨hi,o,e,c,d⟩:=st
  exact⟨hi,o,k it (by simp) o e,c,d⟩
 item:=by
  intro X hP hw hK hc i pins s σ H E I hf st hg
  subst hP hw hK
  obtain⟨f0,f1,f2,f3,f4,f5⟩:=hf it (by simp)
  refine(W X.A (I.ok.hd hc)).item i s _ _ hg st.2 fun v h' tk hv st' kk=>?_
  obtain⟨c,u,hcc,rfl⟩:=hv
  have I1:Inv X pins σ H { s with heap:=h',toks:=tk }:=I.turned (fun b o hb e=>kk b o (by simpa using hb) e) f0 f1 f3 f4 f5
  obtain⟨o,e,cc,d⟩:=id st'
  exact⟨_,rfl,go_of (s:={ s with heap:=h',toks:=tk }) e cc d hT ⟨.str ⟨#[c]⟩,H,I1,⟨u,rfl⟩,⟨rfl,c,hcc,rfl⟩,⟨hg,st'⟩,fun b hb=>(hf b hb).1⟩⟩
 done:=by
  intro X hP hw hK hc i pins s σ H E I hf st hg
  subst hP hw hK
  obtain⟨f0,f1,f2,f3,f4,f5⟩:=hf it (by simp)
  have e:i=x.cps.size:=Nat.le_antisymm st.1 hg
  subst e
  exact(W X.A (I.ok.hd hc)).done s _ _ st.2 fun h' tk kk=>⟨rfl,I.turned (t':=tk) (fun b o hb e=>kk b o (by simpa using hb) e) f0 f1 f3 f4 f5⟩
 self:=fun A i s Q E st h=>hself A i s Q E st.2 h
noncomputable def zkR (tl:TE):TI:=fun σ H R=>tl σ H fun x H1=>∃a,x=.str a∧R (Its a) H1
theorem zdm {tg l:Expr}{tl:TE} (hl:PE X l tl):PI X tg l (zkR tl):=by
 intro pins s σ H R I h
 refine thn (hl pins s σ H _ I h) fun v s1 ⟨x,H1,I1,r1,q1⟩=>?_
 obtain⟨a,rfl,q⟩:=q1
 obtain⟨t,rfl⟩:=r1
 have fp:∀b∈[s1.heap.objs.size],FpOk X pins H1 b:=fun b hb=>by
  have e:b=s1.heap.objs.size:=by simpa using hb
  subst e
  exact I1.fpOk (Nat.le_refl _) (I1.hok.fresh (Nat.le_refl _))
 cases ha:a.cps.all (·<128)
 ·exact wpAny_pyIter_wide ha ⟨s1.heap.objs.size,[s1.heap.objs.size],_,_,H1,rfl,I1.kept (t':=s1.toks) fun b o e=>Heap.get?_push_of_some _ e,
   zaf _ a t "str_iterator" (by decide) (fun A hA=>Walks.strWide hA _ a t) (fun A i s Q E st h=>wpAny_pyIter_striter_wide st h),⟨Nat.zero_le _,_,Heap.get?_push_size _ rfl,rfl,rfl⟩,fp,q⟩
 ·exact wpAny_pyIter_ascii ha ⟨s1.heap.objs.size,[s1.heap.objs.size],_,_,H1,rfl,I1.kept (t':=s1.toks) fun b o e=>Heap.get?_push_of_some _ e,
   zaf _ a t "str_ascii_iterator" (by decide) (fun A hA=>Walks.strAscii hA _ a t) (fun A i s Q E st h=>wpAny_pyIter_striter_ascii st h),⟨Nat.zero_le _,_,Heap.get?_push_size _ rfl,rfl,rfl⟩,fp,q⟩
theorem zet {x:Str}{g:TG}{tb:TS}{D:Ends}{σ:St}{H:Hp} (Pv:Nat→St→Hp→Prop) (h0:Pv 0 σ H)
  (hs:∀i c σ H,x.cps[i]?=some c→Pv i σ H→g (.str ⟨#[c]⟩) σ H fun σ2 H2=>tb { D with nx:=Pv (i+1),ct:=Pv (i+1),bk:=D.nx } σ2 H2) (hd:∀σ H,Pv x.cps.size σ H→D.nx σ H) :
  ∃W:Nat→Nat→St→Hp→Prop,(∃m,W 0 m σ H)∧∀i m σ H,W i m σ H →
   ((Its x).stop i H∧D.nx σ H)∨((Its x).go i H∧∃N:St→Hp→Prop,(∀σ' H',N σ' H'→∃m',m'<m∧W (i+1) m' σ' H')∧∀v H',(Its x).yld i H v H'→g v σ H' fun σ2 H2=>tb { D with nx:=N,ct:=N,bk:=D.nx } σ2 H2):=by
 refine⟨fun i m σ H=>m=x.cps.size-i∧i≤x.cps.size∧Pv i σ H,⟨x.cps.size,by simp,Nat.zero_le _,h0⟩,?_⟩
 rintro i m σ H ⟨rfl,hi,p⟩
 by_cases hlt:i<x.cps.size
 ·refine .inr ⟨hlt,Pv (i+1),fun σ' H' p'=>⟨x.cps.size-(i+1),by omega,rfl,hlt,p'⟩,fun v H' y=>?_⟩
  obtain⟨e,c,hc,e2⟩:=y
  subst e e2
  exact hs i c σ _ hc p
 ·have e:i=x.cps.size:=by omega
  subst e
  exact .inl ⟨Nat.le_refl _,hd σ H p⟩
theorem part_of {v:Value}{o:Option Int} (p:IsPart v o):∃q:Option (Int×Tok),v=partValue q∧q.map (·.1)=o:=by
 cases p with
 | none=>exact⟨none,rfl,rfl⟩
 | int i t=>exact⟨some (i,t),rfl,rfl⟩
theorem K3:SlR X (fun x lo hi H Q=>∃a,x=.str a∧a.length≤sizeLine∧Q (.str (Txt.slice a lo hi)) H):=by
 intro pins s σ H x v vl vu lo hi sl Q I rx hs pl pu h
 obtain⟨a,rfl,hz,q⟩:=h
 obtain⟨t,rfl⟩:=rx
 obtain⟨l,rfl,rfl⟩:=part_of pl
 obtain⟨u,rfl,rfl⟩:=part_of pu
 refine⟨"str",_,PyProof.Rows.slot_str_getitem.lookup,typeIs_str s a t,?_⟩
 exact wpAny_getItem_str_slice (l:=l) (u:=u) (st:=none) hs rfl (post_val_or_str ⟨Nat.le_trans (Txt.slice_le a _ _) hz,fun t' k=>⟨.str (Txt.slice a (l.map (·.1)) (u.map (·.1))),H,I.tok _,⟨_,rfl⟩,q⟩⟩)
theorem zbL {prog:Program}{w:World}{A:Around}{E:Value→Shared→Prop}{s:Shared}{I:Addr}{fp wr:List Addr}{G:Array GenState→Array GenState→Prop}{n:Nat}{P:Nat→Value→Prop}{St:Nat→Shared→Prop}{Q:List Value→Shared→Prop}
  (W:WalksS prog w A.in1 I fp wr G n P St) (hT:∀i s,St i s→s.TypeIs (.ref I) "list_reverseiterator") (hst:St 0 s) (hfp:∀b∈fp,b<s.heap.objs.size) (hI:I∈fp)
  (hQ:∀s' acc,Moved wr G s s'→ItemsOf P acc n→Q acc.toList s') (hn:n≤sizeLine):wpAny (model prog w) A (collect (.ref I)) Q E s:=by
 have hSf:s.heap.objs.size ∉ fp:=fun hm=>Nat.lt_irrefl _ (hfp _ hm)
 have hSI:s.heap.objs.size≠I:=fun e=>hSf (e ▸ hI)
 unfold collect
 refine wpAny_bind (wpAny_runValue (codeAny_builtin F.entry_proto_collect ?_))
 rw [Around.under_plainId F.plain_proto_collect _]
 show wpAny _ A.in1 (newList [] >>= fun l=>again (.builtin "list.__iadd__" ⟨[l,.ref I],[]⟩)) _ _ s
 refine wpAny_bind (wpAny_newObj_type ?_)
 refine wpAny_pure ⟨plainId_quiet F.plain_list_iadd _,codeAny_builtin F.entry_list_iadd ?_⟩
 rw [Around.under_plainId F.plain_list_iadd _]
 have hst₁:=W.frame 0 s (s.heap.push { cls:=.type "list",data:=.seq ([]:List Value).toArray }) s.toks hst (Nat.le_refl _) fun b _ o e=>Heap.get?_push_of_some _ e
 have hS₁:(s.heap.push { cls:=.type "list",data:=.seq ([]:List Value).toArray }).get? s.heap.objs.size=some { cls:=.type "list",data:=.seq ([]:List Value).toArray }:=Heap.get?_push_size _ rfl
 have h1:Builtin.List.listSameRef (.ref s.heap.objs.size) (.ref I)=false:=by simp [Builtin.List.listSameRef,hSI]
 show wpAny _ A.in1 (Builtin.List.listExtendWith (.ref s.heap.objs.size) (.ref I) (.ref s.heap.objs.size)) _ _ _
 unfold Builtin.List.listExtendWith
 refine wpAny_bind (wpAny_typeOf (hT 0 _ hst₁) ?_)
 rw [if_neg (by rw [h1];decide)]
 refine wpAny_bind (W.self 0 _ _ _ hst₁ ?_)
 refine wpAny_bind (wpAny_holding (zes (hT 0 _ hst₁) ?_))
 rw [if_neg (by decide)]
 refine wpAny_pure ⟨plainId_quiet F.plain_extend_loop _,codeAny_extend_loopS W hn _ hSf _ n 0 _ _ _ rfl (Nat.zero_le _) hst₁ hS₁ (ItemsOf.nil P) fun s' acc' c' hm hS' hacc=>?_⟩
 show wpAny _ A (load s.heap.objs.size >>= _) _ _ s'
 refine wpAny_bind (wpAny_load hS' ?_)
 exact wpAny_pure (hQ s' acc' (Moved.drop_new (o:={ cls:=.type "list",data:=.seq ([]:List Value).toArray }) (tk:=s.toks) hm (Nat.le_refl _)) hacc)
theorem zeu {prog:Program}{w:World}{A:Around}{E:Value→Shared→Prop}{s:Shared}{x:Str}{t:Tok}{Q:Value→Shared→Prop}
 {I:Addr}{fp wr:List Addr}{G:Array GenState→Array GenState→Prop}{n:Nat}{P:Nat→Value→Prop}{St:Nat→Shared→Prop} (W:WalksS prog w A.in1.in1 I fp wr G n P St) (hT:∀i s,St i s→s.TypeIs (.ref I) "list_reverseiterator") (hst:St 0 s) (hfp:∀b∈fp,b<s.heap.objs.size) (hI:I∈fp)
  (hstr:∀i v,P i v→∃y u,v=Value.str y u)
  (hq:∀s' (l:List (Str×Tok)),Moved wr G s s'→ItemsOf P (strValues l).toArray n→JoinOk x (l.map (·.1))=true∧∀t' k,Q (.str (Txt.join x (l.map (·.1))) t') { s' with toks:=k })
  (hsz:n≤sizeLine) :
  wpAny (model prog w) A (call (.builtin "str.join") [.str x t,.ref I]) Q E s:=by
 refine wpAny_call (codeAny_call_builtin F.slot_str_join.plain F.entry_str_join (F.slot_str_join.check _ _ _ _ _ _ _ _ (typeIs_str _ _ _) (F.args_str_join_2 _ _) ?_))
 rw [join_tree_other]
 refine wpAny_bind (wpAny_typeOf (hT 0 s hst) ?_)
 show wpAny _ A.in1 ((pyIter (.ref I)).tryCatch _ >>= fun it=>collect it >>= fun items=>PySem.joinTail x items) _ _ s
 refine wpAny_bind (wpAny_tryCatch (W.of_in1.self 0 s _ _ hst ?_))
 refine wpAny_bind (zbL W hT hst hfp hI (fun s' acc hm hacc=>?_) hsz)
 obtain⟨l,hl⟩:=exists_strValues acc.toList fun v hv=>by
  obtain⟨j,hj,rfl⟩:=Array.mem_iff_getElem.mp (Array.mem_toList_iff.mp hv)
  exact hstr j _ (hacc.2 j _ (Array.getElem?_eq_getElem hj))
 rw [← hl]
 have hacc':ItemsOf P (strValues l).toArray n:=by rw [hl];simpa using hacc
 obtain⟨hok,hpost⟩:=hq s' l hm hacc'
 unfold JoinOk at hok
 rw [Bool.not_eq_true'] at hok
 have g:Gives (PySem.joinTail x (strValues l)) (joinMade x l):=by
  have g0:=gives_joinTail x l hok
  cases l with
  | nil=>exact g0
  | cons p r=>cases r with
   | nil=>exact g0
   | cons q r'=>exact g0
 exact g prog w A (wants Q E) s' (post_join l ⟨joinFit_length hok,hpost⟩)
noncomputable def zew (K:W.Frag) (to:TE) (ta:TA):TE:=fun σ H Q=>to σ H fun x H1=>ta σ H1 fun vs H2=>∃(sep:Str) (l:Addr) (ys:List Str),x=.str sep∧vs=[.ref l]∧SqL K H2 l (ys.map V.str)∧(ys.map (·.length)).sum+ys.length*sep.length≤16777216∧Q (.str (Txt.join sep ys.reverse)) H2
theorem zcB {o a:Expr}{to:TE}{ta:TA}{p2 pos2 apos cpos:Pos} (hc:X.calm=true) (hg2:Gl X "reversed") (hm2:X.mg "reversed"=none) (ho:PE X o to) (ht:∀σ H Q,to σ H Q→to σ H fun x H1=>(∃sep,x=.str sep)∧Q x H1) (ha:PA X [a] ta)
  (hbase:attributeBase o "join" X.env (eval o X.env)=eval o X.env:=by rfl)
  (hfew:((backTo cpos (starEach [.Call (.Name "reversed" p2) [a] [] pos2] X.env)).all (fun x=>!x.1) && (backToKw cpos (keywordEach [] X.env)).all (fun x=>x.1.isSome)
   && decide (([.Call (.Name "reversed" p2) [a] [] pos2]:List Expr).length+([]:List Keyword).length+(if ([]:List Keyword).isEmpty then 0 else 1)<30))=true:=by rfl)
  (hline:(apos.endLine == cpos.line)=true:=by rfl)
  (hs:starEach [.Call (.Name "reversed" p2) [a] [] pos2] X.env=(false,eval (.Call (.Name "reversed" p2) [a] [] pos2) X.env)::starEach [] X.env:=by rfl) (hs2:(backTo cpos (starEach [] X.env)).any (·.1)=false:=by rfl)
  (hs3:starEach [a] X.env=(false,eval a X.env)::starEach [] X.env:=by rfl) (hs4:(backTo pos2 (starEach [] X.env)).any (·.1)=false:=by rfl) :
  PE X (.Call (.Attribute o "join" apos) [.Call (.Name "reversed" p2) [a] [] pos2] [] cpos) (zew X.K to ta):=by
 intro pins s σ H Q I h
 refine wpAny_Call_method_late hbase hfew hline rfl (thn (ho pins s σ H _ I (ht σ H _ h)) fun v s1 ⟨x,H1,I1,r1,⟨sep0,esep⟩,q1⟩=>?_)
 subst esep
 obtain⟨t1,rfl⟩:=r1
 refine⟨"str","str.join",F.plainAttrs_str,F.slot_str_join,F.type_str_join,typeIs_str s1 sep0 t1,(fun b e=>nomatch e),?_⟩
 rw [hs]
 refine Calls.callWith_builtin (by show (false || (backTo cpos (starEach [] X.env)).any (·.1))=false;rw [hs2] <;> rfl) (Calls.evalArgs_plain ?_)
 show wpAny _ _ (spliced ((false,eval (.Call (.Name "reversed" p2) [a] [] pos2) X.env)::backTo cpos (starEach [] X.env))) _ _ s1
 refine Calls.spliced_cons (Call_ (ld_blt I1 hg2 hm2 zcr (PyProof.Rows.callWith_type1 (thn (ha pos2 pins s1 σ H1 _ I1 q1) fun us s2 ⟨vs,H2,I2,r2,q2⟩=>?_) hs3 hs4)))
 obtain⟨sep,l,ys,e0,e,hq,hz,q⟩:=q2
 cases e0
 subst e
 obtain⟨u,rfl,w1⟩:=vals1 r2
 cases w1
 obtain⟨its,v1,p1,z1⟩:=I2.list hq
 have hl:l<s2.heap.objs.size:=by obtain⟨_,_,e,_⟩:=p1;exact Heap.lt_size e
 have hlen:=v1.length
 refine call_reversed_list p1.isList ?_
 refine Calls.spliced_nil ?_
 have hne:l≠s2.heap.objs.size:=Nat.ne_of_lt hl
 have hsz:(s2.heap.push (revObj l ((its.toArray.size:Int)-1))).objs.size=s2.heap.objs.size+1:=Heap.size_push ..
 have hr:(s2.heap.push (revObj l ((its.toArray.size:Int)-1))).get? s2.heap.objs.size=some (revObj l ((its.toArray.size:Int)-1)):=Heap.get?_push_size _ rfl
 have W:=(PySem.Walks.listRev (prog:=X.prog) (w:=X.w) (A:=X.A.in1.in1) (I.ok.hd hc) s2.heap.objs.size l hne its.toArray).toS
 have SA:StrsAre its ys:=K1 v1
 obtain⟨ls,els,eys⟩:=strsAre_values SA
 refine zeu W (fun i s st=>st.2.1.typeIs) ⟨Nat.zero_le _,⟨_,hr,rfl,?_⟩,?_⟩ (fun b hb=>?_) (by simp) (fun i v hv=>?_) (fun s' lv m it=>?_) (by rw [List.size_toArray];omega)
 ·show Data.fields #[Value.ref l,rawInt ((its.toArray.size:Int)-1)]=Data.fields #[Value.ref l,rawInt ((its.toArray.size:Int)-1-((0:Nat):Int))]
  rw [show (its.toArray.size:Int)-1-((0:Nat):Int)=(its.toArray.size:Int)-1 by omega]
 ·obtain⟨o,ho,rr⟩:=p1.isList
  exact⟨o,Heap.get?_push_of_some _ ho,rr⟩
 ·show b<(s2.heap.push (revObj l ((its.toArray.size:Int)-1))).objs.size
  rw [hsz]
  simp only [List.mem_cons,List.not_mem_nil,or_false] at hb
  rcases hb with e | e
  ·rw [e];exact Nat.lt_succ_self _
  ·rw [e];exact Nat.lt_succ_of_lt hl
 ·have hm:=List.mem_of_getElem? (by simpa using hv:its[its.toArray.size-1-i]?=some v)
  rw [els] at hm
  obtain⟨pr,_,e⟩:=List.mem_map.mp hm
  exact⟨_,_,e.symm⟩
 ·have elv:strValues lv=its.reverse:=by
   apply List.ext_getElem?
   intro j
   have h1:=it.1
   by_cases hj:j<its.length
   ·have hj2:j<(strValues lv).length:=by have:(strValues lv).toArray.size=its.toArray.size:=h1;simp only [List.size_toArray] at this;omega
    have:=it.2 j (strValues lv)[j] (by simp [List.getElem?_eq_getElem hj2])
    rw [List.size_toArray] at this
    rw [List.getElem?_reverse hj,List.getElem?_eq_getElem hj2]
    simpa using this.symm
   ·have h2:(strValues lv).length=its.length:=by simpa using h1
    rw [List.getElem?_eq_none (by omega),List.getElem?_eq_none (by rw [List.length_reverse];omega)]
  have em:lv.map (·.1)=ys.reverse:=by
   have e1:strValues lv=strValues ls.reverse:=by rw [elv,els];simp [strValues]
   have e2:∀(a b:List (Str×Tok)),strValues a=strValues b→a.map (·.1)=b.map (·.1):=by
    intro a
    induction a with
    | nil=>intro b e;cases b with
     | nil=>rfl
     | cons _ _=>simp [strValues] at e
    | cons p r ih=>intro b e;cases b with
     | nil=>simp [strValues] at e
     | cons p' r'=>
      simp only [strValues,List.map_cons,List.cons.injEq] at e
      have e3:=e.1
      injection e3 with e4 _
      rw [List.map_cons,List.map_cons,e4,ih r' e.2]
   rw [e2 _ _ e1,List.map_reverse,eys]
  refine⟨by rw [em];exact joinOk_of (by rw [List.map_reverse,List.sum_reverse,List.length_reverse];exact hz),fun t' k=>?_⟩
  rw [em]
  have es:({ s' with toks:=k }:Shared)={ s2 with heap:=s'.heap,toks:=k }:=by
   have g:=m.gens
   have d:=m.drawn
   have o:=m.os
   cases s'
   simp only at g d o
   subst g d o
   rfl
  rw [es]
  have kp:∀b u,s2.heap.get? b=some u→s'.heap.get? b=some u:=fun b u e=>m.heap b u (by
   have:=Heap.lt_size e
   simp only [List.mem_cons,List.not_mem_nil,or_false]
   exact fun z=>by rw [z] at this;exact Nat.lt_irrefl _ this) (Heap.get?_push_of_some _ e)
  exact⟨.str (Txt.join sep0 ys.reverse),H2,I2.kept (t':=k) kp,⟨_,rfl⟩,q⟩
end
end L2
namespace L2
open PySem PySem.Spec PyProof.Rows PySem.SeqAt
noncomputable def dV:V→PyData
 | .bl b=>.bool b
 | .int i=>.int i
 | .str x=>.str x
 | _=>.none
noncomputable def okF:V→Bool
 | .non=>true
 | .bl _=>true
 | .int _=>true
 | .str x=>PyData.canLay0 (.str x)
 | _=>false
theorem zcC {h:Heap}{v:V}{u:Value} (r:RelV v u) (ok:okF v=true):Reads h u (dV v) []:=by
 cases v with
 | non=>cases r;exact .none
 | bl b=>cases r;exact .bool b
 | int i=>obtain⟨t,rfl⟩:=r;exact .int i t
 | str x=>obtain⟨t,rfl⟩:=r;exact .str x t
 | _=>cases ok
theorem Js {h:Heap}:∀{xs:List V}{us:List Value},Vals xs us→(∀v∈xs,okF v=true)→ReadsAll h us (xs.map dV) []
 | _,_,.nil,_=>.nil
 | _,_,.cons r1 r2,ok=>.cons (zcC r1 (ok _ (List.mem_cons_self ..))) (Js r2 fun v hv=>ok v (List.mem_cons_of_mem _ hv))
theorem VR:∀{xs:List V},(∀v∈xs,okF v=true)→PyData.canLayAll0 (xs.map dV)=true
 | [],_=>by simp [PyData.canLayAll0]
 | v::xs,ok=>by
  have h1:PyData.canLay0 (dV v)=true:=by
   have:=ok v (List.mem_cons_self ..)
   cases v <;> first | rfl | exact this | (simp [dV,PyData.canLay0];done) | cases this
  simp [PyData.canLayAll0,h1,VR fun v hv=>ok v (List.mem_cons_of_mem _ hv)]
theorem K4:∀xs:List V,PyData.depthAll (xs.map dV)≤1
 | []=>by simp [PyData.depthAll]
 | v::xs=>by
  have:=K4 xs
  have h1:PyData.depth (dV v)≤1:=by cases v <;> simp [dV,PyData.depth]
  simp only [List.map_cons,PyData.depthAll]
  omega
section
variable {X:Cx}
end
end L2
namespace L2
open PySem PySem.Spec PyProof.Rows
theorem zfK {X:Cx}{tb:TS}{body:List Stmt}{h₀:ExceptHandler}{hs:List ExceptHandler}{pos:Pos} (hb:PSs X.nox body tb):PS X (.Try body (h₀::hs) [] [] pos) tb:=by
 intro pins s σ H D I h
 refine wpAny_Try_except (wpAny_mono (hb pins s σ H D (I.wish _) h) (fun fl s1 x=>?_) fun e s' x=>x.elim)
 cases fl with
 | next=>
  obtain⟨σ',H',I',q⟩:=x
  exact wpAny_execs_nil ⟨σ',H',I'.unwish,q⟩
 | brk=>
  obtain⟨σ',H',I',q⟩:=x
  exact⟨σ',H',I'.unwish,q⟩
 | cont=>
  obtain⟨σ',H',I',q⟩:=x
  exact⟨σ',H',I'.unwish,q⟩
 | ret u=>
  obtain⟨v,σ',H',I',r,q⟩:=x
  exact⟨v,σ',H',I'.unwish,r,q⟩
structure Vc (K:W.Frag) (x qual:Str) (st:Stmt) (f:Addr) (fd:FuncData):Prop where
 ex:∃(oc:Value) (od:Option Addr) (dV kV doc pm:Value) (an:Option Addr) (cdv ct:Value) (osl:Array (Option Value)),fd=W.fnOf x qual (defArgs st) (defBody st) (defScope st) dV kV doc pm an cdv ct∧K.lookup f=some ⟨oc,od,.func fd,osl⟩∧W.codeIn K cdv qual=true
section
variable {P:Program}{w:World}{K:W.Frag}{mg:Str→Option Value}{base:Heap}
theorem Vc.ok {x qual:Str}{st:Stmt}{f:Addr}{fd:FuncData}{N ps:List Str}{k:Nat}{sp:Sp} (F:Vc K x qual st f fd) (S:FnScope N ps (defScope st)) (len:∀vs H Q E,sp vs H Q E→vs.length=ps.length)
  (hbody:∀(cdv:Value) (A:Around) (outer:List Env) (s:Shared) (H:Hp) (vs:List V) (Q:VK) (E:XK),Room k (A.deeper (envOfC qual (defScope st) s.heap.objs.size f cdv))→sp vs H Q E →
   ∃t,PSs (cxOf CX0 P w K mg base N qual (defScope st) f cdv A outer s H E).nox (defBody st) t∧t { nx:=fun _ H'=>Q .non H',rt:=Q } (start N vs) H):FnOk P w K mg base CX0 (k+1) f fd ps sp:=by
 obtain⟨oc,od,dV,kV,doc,pm,an,cdv,ct,osl,rfl,lk,hcd⟩:=F.ex
 refine fn_of lk hcd S len fun A outer s H vs Q E hr hsp=>?_
 obtain⟨t,h,q⟩:=hbody cdv A outer s H vs Q E hr hsp
 exact⟨t,fun pins s1 σ H1 D I h1=>wpAny_mono (h pins s1 σ H1 D (I.wish _) h1) (fun fl s2 x=>by
  cases fl with
  | next=>obtain⟨σ',H',I',q⟩:=x;exact⟨σ',H',I'.unwish,q⟩
  | brk=>obtain⟨σ',H',I',q⟩:=x;exact⟨σ',H',I'.unwish,q⟩
  | cont=>obtain⟨σ',H',I',q⟩:=x;exact⟨σ',H',I'.unwish,q⟩
  | ret u=>obtain⟨v,σ',H',I',r,q⟩:=x;exact⟨v,σ',H',I'.unwish,r,q⟩) fun _ _ z=>z.elim,q⟩
theorem Vc.okE {x qual:Str}{st:Stmt}{f:Addr}{fd:FuncData}{N ps:List Str}{k:Nat}{sp:Sp} (F:Vc K x qual st f fd) (S:FnScope N ps (defScope st)) (len:∀vs H Q E,sp vs H Q E→vs.length=ps.length)
  (hbody:∀(cdv:Value) (A:Around) (outer:List Env) (s:Shared) (H:Hp) (vs:List V) (Q:VK) (E:XK),Room k (A.deeper (envOfC qual (defScope st) s.heap.objs.size f cdv))→sp vs H Q E →
   ∃t,PSs (cxOf (CXE P w) P w K mg base N qual (defScope st) f cdv A outer s H E) (defBody st) t∧t { nx:=fun _ H'=>Q .non H',rt:=Q } (start N vs) H):FnOk P w K mg base (CXE P w) (k+1) f fd ps sp:=by
 obtain⟨oc,od,dV,kV,doc,pm,an,cdv,ct,osl,rfl,lk,hcd⟩:=F.ex
 exact fn_of lk hcd S len fun A outer s H vs Q E hr hsp=>hbody cdv A outer s H vs Q E hr hsp
theorem yQ {x qual:Str}{st:Stmt}{f:Addr}{oc:Value}{od an:Option Addr}{osl:Array (Option Value)}{dV kV doc pm cdv ct:Value} (l:K.lookup f=some ⟨oc,od,.func (W.fnOf x qual (defArgs st) (defBody st) (defScope st) dV kV doc pm an cdv ct),osl⟩)
  (c:W.codeIn K cdv qual=true):Vc K x qual st f (W.fnOf x qual (defArgs st) (defBody st) (defScope st) dV kV doc pm an cdv ct):=⟨⟨oc,od,dV,kV,doc,pm,an,cdv,ct,osl,rfl,l,c⟩⟩
end
noncomputable def zbM (K:W.Frag) (x qual:Str) (st:Stmt) (ps:List Str) (f:Addr):Prop:=∃fd,Vc K x qual st f fd∧Binds K fd ps []
noncomputable def MtX (CX:CXT) (P:Program) (w:World) (K:W.Frag) (mg:Str→Option Value) (base:Heap) (k:Nat) (C:Addr) (m:Str) (ps:List Str) (sp:Sp):Prop:=
 ∃f fd,FnOk P w K mg base CX k f fd ps sp∧Cls K C∧Meth K C m f∧Binds K fd ps []
abbrev MtE (P:Program) (w:World) (K:W.Frag) (mg:Str→Option Value) (base:Heap) (k:Nat) (C:Addr) (m:Str) (ps:List Str) (sp:Sp):Prop:=MtX (CXE P w) P w K mg base k C m ps sp
noncomputable def MkX (CX:CXT) (P:Program) (w:World) (K:W.Frag) (mg:Str→Option Value) (base:Heap) (k:Nat) (C:Addr) (ps:List Str) (sp:Sp):Prop:=
 ∃f fd,FnOk P w K mg base CX k f fd ps sp∧Mk K C f∧Binds K fd ps []
noncomputable def zlO (C:Addr) (m:Str) (sp:Sp) (G:St→Value→Hp→Prop) (ta:TE) (t:TA):TE:=fun σ H Q=>ta σ H fun x H1=>∃a dx fs,x=.ref a∧H1 a=some (.ins C dx fs)∧fs.lookup m=none∧t σ H1 fun vs H2=>sp (x::vs) H2 Q fun C _ H'=>G σ C H'
noncomputable def tMk (C:Addr) (sp:Sp) (t:TA):TE:=fun σ H Q=>t σ H fun vs H1=>∀x dx,H1 x=none→H1 dx=none→dx≠x→sp (.ref x::vs) (upd (upd H1 dx (.own x)) x (.ins C dx [])) (fun v H2=>v=.non∧Q (.ref x) H2) E0
section
variable {X:Cx}{CX:CXT}{k:Nat}{C:Addr}{x m:Str}{ps:List Str}{sp:Sp}{p pos apos:Pos}{e o:Expr}{es:List Expr}{ta:TE}{t:TA}{G:St→Value→Hp→Prop}
theorem zgS {f a:Addr}{fd:FuncData}{pins:List (Addr×Obj)}{σ:St}{H:Hp}{s:Shared}{Q:VK}{E:XK}{us:List Value}{vs:List V} (F:FnOk X.prog X.w X.K X.mg X.base CX k f fd ps sp) (hr:Room k X.A) (b:Binds X.K fd ps [])
  (hx:∀e s',CX X.stack H s E e s'→X.xe e s') (I:Inv X pins σ H s) (r:Vals vs us) (h:sp (.ref a::vs) H Q E):wpAny (model X.prog X.w) X.A (call (.ref f) (.ref a::us)) (EP X pins σ Q) X.xe s:=by
 have r2:Vals (V.ref a::vs) (Value.ref a::us):=.cons rfl r
 have hl:(Value.ref a::us).length=ps.length:=by rw [← r2.length];exact F.len _ _ _ _ h
 have bb:=b s (.ref a::us) I.kIn (by rw [List.append_nil];exact hl)
 rw [List.append_nil] at bb
 refine wpAny_call (codeAny_mono (F.run X.A X.stack s H ⟨.ref a::us,[]⟩ (.ref a::us) (.ref a::vs) Q E hr I.env0 bb r2 h) fun rr s' hq=>?_)
 cases rr with
 | error e=>exact hx e s' hq
 | ok fl=>
  cases fl with
  | ret u=>exact I.after hq
  | next=>exact False.elim hq
  | brk=>exact False.elim hq
  | cont=>exact False.elim hq
theorem JH {pl:Sem Bool} (he:PE X o ta) (F:MtE X.prog X.w X.K X.mg X.base k C m ps sp) (hr:Room k X.A) (hx:Ks X G) (ha:PA X (e::es) t)
  (hst:starEach (e::es) X.env=(false,eval e X.env)::starEach es X.env:=by rfl) (hpl:(backTo pos (starEach es X.env)).any (·.1)=false:=by rfl)
  (ht:eval (.Call (.Attribute o m apos) (e::es) [] pos) X.env=(do
   let ov ← eval o X.env
   standAt apos.atName
   let (f,first) ← holding [ov] (getMethod ov m pl)
   callWith pos f first (backTo pos (starEach (e::es) X.env)) (backToKw pos (keywordEach [] X.env))):=by rfl) :
  PE X (.Call (.Attribute o m apos) (e::es) [] pos) (zlO C m sp G ta t):=by
 obtain⟨f,fd,F,c,hm,b⟩:=F
 intro pins s σ H Q I h
 refine W.methodCall_KW (pl:=pl) (thn (he pins s σ H _ I h) fun u s1 ⟨x,H1,I1,rx,a,dx,fs,ex,ea,l,q⟩=>?_) ht
 subst ex
 obtain rfl:u=Value.ref a:=rx
 refine getmeth_ok I1 ea c hm l ?_
 refine W.callWith_K (first:=[.ref a]) (h₀:=X.base) I.ok.mod.kin hm.kp (thn (ha pos pins s1 σ H1 _ I1 q) fun us s2 ⟨vs,H2,I2,r,q2⟩=>⟨I2.kIn,?_⟩) hst hpl
 exact zgS F hr b (fun e s' z=>hx pins σ H2 s2 e s' I2 z) I2 r q2
theorem zex {f:Addr}{fd:FuncData}{pins:List (Addr×Obj)}{σ:St}{H:Hp}{s:Shared}{Q:VK}{E:XK}{us:List Value}{vs:List V} (M:Mk X.K C f) (F:FnOk X.prog X.w X.K X.mg X.base CX k f fd ps sp) (hr:Room (k+1) X.A) (hb:Binds X.K fd ps [])
  (hx:∀(H:Hp) (s:Shared) (e:Value) (s':Shared),Inv X pins σ H s→CX X.stack H s E e s'→X.xe e s') (I:Inv X pins σ H s) (r:Vals vs us)
  (h:∀x dx,H x=none→H dx=none→dx≠x→sp (.ref x::vs) (upd (upd H dx (.own x)) x (.ins C dx [])) (fun v H2=>v=.non∧Q (.ref x) H2) E) :
  wpAny (model X.prog X.w) X.A (call (.ref C) us) (EP X pins σ Q) X.xe s:=by
 have hq:=h (s.heap.objs.size+1) s.heap.objs.size (I.hok.fresh (Nat.le_succ _)) (I.hok.fresh (Nat.le_refl _)) (Nat.ne_of_lt (Nat.lt_succ_self _))
 have I2:=Inv.made (C:=C) I
 have r2:Vals (V.ref (s.heap.objs.size+1)::vs) (Value.ref (s.heap.objs.size+1)::us):=.cons rfl r
 have hl:(Value.ref (s.heap.objs.size+1)::us).length=ps.length:=by rw [← r2.length];exact F.len _ _ _ _ hq
 have bb:=hb _ (Value.ref (s.heap.objs.size+1)::us) I2.kIn (by rw [List.append_nil];exact hl)
 rw [List.append_nil] at bb
 refine wpAny_call (make_map (f:=f) I.kIn M.makes M.init (beq_iff_eq.mp M.fn) (codeAny_mono (F.run _ X.stack _ _ ⟨Value.ref (s.heap.objs.size+1)::us,[]⟩ (Value.ref (s.heap.objs.size+1)::us) _ _ E (hr.make C us [])
  (I2.env0.make C us []) bb r2 hq) fun r s' hq'=>?_))
 cases r with
 | error e=>exact hx _ _ e s' I2 hq'
 | ok fl=>
  cases fl with
  | ret u=>
   obtain⟨v,H',I3,rv,ev,q3⟩:=I2.after hq'
   subst ev
   exact⟨rv,⟨V.ref (s.heap.objs.size+1),H',I3,rfl,q3⟩⟩
  | next=>exact False.elim hq'
  | brk=>exact False.elim hq'
  | cont=>exact False.elim hq'
theorem zkS (F:MkX CX0 X.prog X.w X.K X.mg X.base k C ps sp) (hr:Room (k+1) X.A) (hg:Gl X x) (hm:X.mg x=some (.ref C)) (ha:PA X (e::es) t) (hdb:(x == ("__debug__":Str))=false:=by decide)
  (he:starEach (e::es) X.env=(false,eval e X.env)::starEach es X.env:=by rfl) (hpl:(backTo pos (starEach es X.env)).any (·.1)=false:=by rfl):PE X (.Call (.Name x p) (e::es) [] pos) (tMk C sp t):=by
 obtain⟨f,fd,F,M,b⟩:=F
 intro pins s σ H Q I h
 refine wpAny_Call_Name_kw (ld_glob I hg hm ?_ hdb)
 refine W.callWith_K (h₀:=X.base) I.ok.mod.kin M.kp (thn (ha pos pins s σ H _ I h) fun us s1 ⟨vs,H1,I1,r,q⟩=>⟨I1.kIn,?_⟩) he hpl
 exact zex M F hr b (fun _ _ _ _ _ z=>z.elim) I1 r q
end
end L2
namespace L2
open PySem PySem.Spec PyProof.Rows PySem.SeqAt
section
variable {X:Cx}{pins:List (Addr×Obj)}{σ:St}{H:Hp}{s:Shared}
end
section
variable {X:Cx}
end
theorem zag {K:W.Frag}{a acc:Addr}{xs:List V}{own:Nat}{ix:List Nat}{g:TG}{te:TE}{σ:St}{H1:Hp}{Q:VK} (f:Nat→V) (hq:H1 a=some (.tup xs)) (hn:H1 acc=none) (hz:xs.length≤sizeLine)
  (step:∀i x H (R:VK),xs[i]?=some x→Same H1 H→R (f i) H→g x (jk own ix σ) H fun σ4 H4=>σ4.drop own=ix.map (fun i=>(σ[i]?).getD none)∧te σ4 H4 R)
  (hd:Q (.ref acc) (upd H1 acc (.lst ((List.range xs.length).map f)))) :
  Qs (Itt K a) own ix g yP te σ H1 acc Q:=by
 refine⟨fun i m ys H=>m=xs.length-i∧i≤xs.length∧ys=(List.range i).map f∧H=upd H1 acc (.lst ys),⟨xs.length,by simp,Nat.zero_le _,rfl,rfl⟩,?_⟩
 rintro i m ys H ⟨rfl,hi,rfl,rfl⟩
 have q:SqT K (upd H1 acc (.lst ((List.range i).map f))) a xs:=SqT.of ((Same.new hn) _ _ hq)
 refine⟨upd_same,?_⟩
 by_cases hlt:i<xs.length
 ·refine .inr ⟨⟨xs,xs[i],q,by simp [hlt]⟩,by rw [List.length_map,List.length_range];omega,fun x H3 y=>?_⟩
  obtain⟨e,y⟩:=y
  subst e
  exact step i x _ _ (y xs q) (Same.new hn) ⟨upd_same,xs.length-(i+1),by omega,rfl,hlt,by rw [List.range_succ,List.map_append];rfl,by rw [upd_upd]⟩
 ·have e:i=xs.length:=by omega
  subst e
  exact .inl ⟨⟨xs,q,Nat.le_refl _⟩,hd⟩
end L2
namespace L2
open PySem PySem.NumText
abbrev cpl (x:Str):List Nat:=x.cps.toList
theorem yR {x y:Str} (h:cpl x=cpl y):x=y:=Str.ext' (Array.toList_inj.mp h)
theorem zN (x:Str):(cpl x).length=x.length:=Array.length_toList
theorem jD (x y:Str):cpl (x++y)=cpl x++cpl y:=by simp only [cpl,Str.cps_append,Array.toList_append]
noncomputable def yd (c:Nat):List (List Nat)→List Nat
 | []=>[]
 | [x]=>x
 | x::y::r=>x++c::yd c (y::r)
theorem Qu (c:Nat):∀ws:List Str,cpl (Str.join ⟨#[c]⟩ ws)=yd c (ws.map cpl)
 | []=>rfl
 | [x]=>rfl
 | x::y::r=>by
  show cpl (x++⟨#[c]⟩++Str.join ⟨#[c]⟩ (y::r))=cpl x++c::yd c (cpl y::r.map cpl)
  rw [jD,jD,Qu c (y::r),List.append_assoc]
  rfl
theorem zey {c:Nat}:∀{x y A B:List Nat},c ∉ x→c ∉ y→x++c::A=y++c::B→x=y∧A=B
 | [],[],_,_,_,_,h=>⟨rfl,(List.cons.inj h).2⟩
 | [],b::y,_,_,_,hy,h=>absurd (show c∈b::y by rw [(List.cons.inj h).1];exact List.mem_cons_self ..) hy
 | a::x,[],_,_,hx,_,h=>absurd (show c∈a::x by rw [← (List.cons.inj h).1];exact List.mem_cons_self ..) hx
 | a::x,b::y,A,B,hx,hy,h=>by
  obtain⟨h1,h2⟩:=List.cons.inj h
  obtain⟨e1,e2⟩:=zey (fun z=>hx (List.mem_cons_of_mem _ z)) (fun z=>hy (List.mem_cons_of_mem _ z)) h2
  exact⟨by rw [h1,e1],e2⟩
theorem zah {c:Nat}:∀{xs ys:List (List Nat)},xs≠[]→ys≠[]→(∀x∈xs,c ∉ x)→(∀y∈ys,c ∉ y)→yd c xs=yd c ys→xs=ys
 | [],_,h,_,_,_,_=>absurd rfl h
 | _,[],_,h,_,_,_=>absurd rfl h
 | [x],[y],_,_,_,_,h=>by rw [show x=y from h]
 | [x],y::y2::r,_,_,hx,_,h=>by
  have h:x=y++c::yd c (y2::r):=h
  exact absurd (by rw [h];exact List.mem_append_right _ (List.mem_cons_self ..)) (hx x (List.mem_cons_self ..))
 | x::x2::r,[y],_,_,_,hy,h=>by
  have h:x++c::yd c (x2::r)=y:=h
  exact absurd (by rw [← h];exact List.mem_append_right _ (List.mem_cons_self ..)) (hy y (List.mem_cons_self ..))
 | x::x2::r,y::y2::s,_,_,hx,hy,h=>by
  have h:x++c::yd c (x2::r)=y++c::yd c (y2::s):=h
  obtain⟨e1,e2⟩:=zey (hx x (List.mem_cons_self ..)) (hy y (List.mem_cons_self ..)) h
  have:=zah (by simp) (by simp) (fun z hz=>hx z (List.mem_cons_of_mem _ hz)) (fun z hz=>hy z (List.mem_cons_of_mem _ hz)) e2
  rw [e1,this]
theorem K5:∀{a b:List Str},a.map cpl=b.map cpl→a=b
 | [],[],_=>rfl
 | [],_::_,h=>by simp at h
 | _::_,[],h=>by simp at h
 | x::a,y::b,h=>by
  obtain⟨h1,h2⟩:=List.cons.inj h
  rw [yR h1,K5 h2]
theorem K6 (x y:Str):Txt.split x y≠[]:=by
 unfold Txt.split
 split
 ·simp
 ·split
  ·simp
  ·rw [StrLaws.partsBetween_eq]
   obtain⟨p,r,e⟩:=StrLaws.partsFrom_ne x y.length 0 (Builtin.Str.occurrences x y 0 x.length (x.length+1))
   rw [e]
   simp
abbrev sp:Str:=" "
theorem zbN:sp=⟨#[32]⟩:=by decide +kernel
theorem Xr (y:Str) (ws:List Str):Txt.join y ws=Str.join y ws:=by
 unfold Txt.join
 rw [StrLaws.glued_eq_join]
noncomputable def Qp (x:Str):Prop:=32 ∉ cpl x
theorem zcD {ws:List Str} (hn:ws≠[]) (hw:∀w∈ws,Qp w):Txt.split (Txt.join sp ws) sp=ws:=by
 have h1:=StrLaws.join_split (Txt.join sp ws) sp
 rw [Xr,zbN] at h1
 rw [Xr,zbN]
 have h2:=congrArg cpl h1
 rw [Qu,Qu] at h2
 refine K5 (zah (c:=32) ?_ ?_ ?_ ?_ h2)
 ·intro z
  exact K6 _ _ (List.map_eq_nil_iff.mp z)
 ·intro z
  exact hn (List.map_eq_nil_iff.mp z)
 ·intro x hx
  obtain⟨p,hp,rfl⟩:=List.mem_map.mp hx
  exact StrLaws.split_free _ 32 p hp
 ·intro x hx
  obtain⟨p,hp,rfl⟩:=List.mem_map.mp hx
  exact hw p hp
theorem zcE (x:Str):∀w∈Txt.split x sp,Qp w:=by
 rw [zbN]
 exact StrLaws.split_free x 32
theorem zbO (x:Str):Txt.join sp (Txt.split x sp)=x:=by rw [Xr,StrLaws.join_split]
structure Num (most:Nat) (x:Str):Prop where
 ne:1≤x.length
 le:x.length≤most
 dig:AllDigits (cpl x)
 led:(cpl x)[0]?=some 48→cpl x=[48]
noncomputable def jl (x:Str):Int:=((digitsVal (cpl x):Nat):Int)
theorem zfL (x:Str):0≤jl x:=Int.natCast_nonneg _
theorem Num.ne' {most:Nat}{x:Str} (h:Num most x):cpl x≠[]:=fun z=>by
 have:=h.ne
 rw [← zN,z] at this
 exact absurd this (by decide)
noncomputable def txt (n:Int):Str:=Str.ofString (toString n)
theorem zgT (s:String):cpl (Str.ofString s)=s.toList.map Char.toNat:=by
 exact PyProof.Rows.signs_ofString s
theorem Q9 (m:Nat):cpl (txt ((m:Nat):Int))=(Nat.toDigits 10 m).map Char.toNat:=by
 unfold txt
 rw [zgT]
 show (Nat.repr m).toList.map Char.toNat=_
 rw [Nat.toList_repr]
theorem WW (a b:List Nat):digitsVal (a++b)=b.foldl (fun acc c=>acc*10+(c-48)) (digitsVal a):=by
 unfold digitsVal
 rw [List.foldl_append]
theorem Zv:∀d:Nat,d<10→(Nat.digitChar d).toNat=48+d:=by decide
theorem zcF {m:Nat}:∀ch∈Nat.toDigits 10 m,48≤ch.toNat∧ch.toNat≤57:=by
 induction m using Nat.strongRecOn with
 | _ m ih=>
  intro ch hch
  by_cases h:m<10
  ·rw [Nat.toDigits_of_lt_base h] at hch
   rw [List.mem_singleton.mp hch,Zv m h]
   omega
  ·have hm:m % 10<10:=Nat.mod_lt m (by decide)
   have t:Nat.toDigits 10 (m / 10)++Nat.toDigits 10 (m % 10)=Nat.toDigits 10 (10*(m / 10)+m % 10):=Nat.toDigits_append_toDigits (by decide) (by omega) hm
   rw [Nat.div_add_mod] at t
   rw [← t] at hch
   rcases List.mem_append.mp hch with z | z
   ·exact ih (m / 10) (by omega) ch z
   ·rw [Nat.toDigits_of_lt_base hm] at z
    rw [List.mem_singleton.mp z,Zv _ hm]
    omega
theorem zaT (m:Nat):AllDigits (cpl (txt ((m:Nat):Int))):=by
 intro c hc
 rw [Q9] at hc
 obtain⟨ch,hch,e⟩:=List.mem_map.mp hc
 rw [← e]
 exact zcF ch hch
theorem zfM (m:Nat):digitsVal (cpl (txt ((m:Nat):Int)))=m:=by
 rw [Q9]
 induction m using Nat.strongRecOn with
 | _ m ih=>
  by_cases h:m<10
  ·rw [Nat.toDigits_of_lt_base h]
   show 0*10+((Nat.digitChar m).toNat-48)=m
   rw [Zv m h]
   omega
  ·have hm:m % 10<10:=Nat.mod_lt m (by decide)
   have t:Nat.toDigits 10 (m / 10)++Nat.toDigits 10 (m % 10)=Nat.toDigits 10 (10*(m / 10)+m % 10):=Nat.toDigits_append_toDigits (by decide) (by omega) hm
   rw [Nat.div_add_mod] at t
   rw [← t,List.map_append,Nat.toDigits_of_lt_base hm,WW,ih (m / 10) (by omega)]
   show m / 10*10+((Nat.digitChar (m % 10)).toNat-48)=m
   rw [Zv _ hm]
   omega
theorem zez (m:Nat):1≤(cpl (txt ((m:Nat):Int))).length:=by
 cases h:cpl (txt ((m:Nat):Int)) with
 | nil=>
  rw [Q9] at h
  have:=List.map_eq_nil_iff.mp h
  exact absurd this (Nat.toDigits_ne_nil)
 | cons a r=>exact Nat.succ_le_succ (Nat.zero_le _)
theorem zfN (m:Nat) (h:(cpl (txt ((m:Nat):Int)))[0]?=some 48):m=0:=by
 rw [Q9] at h
 induction m using Nat.strongRecOn with
 | _ m ih=>
  by_cases hm10:m<10
  ·rw [Nat.toDigits_of_lt_base hm10] at h
   have:(Nat.digitChar m).toNat=48:=by simpa using h
   rw [Zv m hm10] at this
   omega
  ·have hm:m % 10<10:=Nat.mod_lt m (by decide)
   have t:Nat.toDigits 10 (m / 10)++Nat.toDigits 10 (m % 10)=Nat.toDigits 10 (10*(m / 10)+m % 10):=Nat.toDigits_append_toDigits (by decide) (by omega) hm
   rw [Nat.div_add_mod] at t
   rw [← t,List.map_append,List.getElem?_append_left (by rw [← Q9];exact zez _)] at h
   have:=ih (m / 10) (by omega) h
   omega
theorem zfO {m k:Nat} (hk:1≤k) (h:m<10 ^ k):(cpl (txt ((m:Nat):Int))).length≤k:=by
 rw [Q9,List.length_map]
 induction k generalizing m with
 | zero=>exact absurd hk (by decide)
 | succ k ih=>
  by_cases hm10:m<10
  ·rw [Nat.toDigits_of_lt_base hm10]
   exact Nat.succ_le_succ (Nat.zero_le _)
  ·have hm:m % 10<10:=Nat.mod_lt m (by decide)
   have t:Nat.toDigits 10 (m / 10)++Nat.toDigits 10 (m % 10)=Nat.toDigits 10 (10*(m / 10)+m % 10):=Nat.toDigits_append_toDigits (by decide) (by omega) hm
   rw [Nat.div_add_mod] at t
   rw [← t,List.length_append,Nat.toDigits_of_lt_base hm,List.length_singleton]
   have h2:m / 10<10 ^ k:=Nat.div_lt_of_lt_mul (by rw [Nat.pow_succ,Nat.mul_comm] at h;exact h)
   have k1:1≤k:=by
    cases k with
    | zero=>simp at h2;omega
    | succ k=>omega
   have:=ih k1 h2
   omega
theorem ZR {n:Int}{k:Nat} (hk:1≤k) (h0:0≤n) (h1:n<10 ^ k):Num k (txt n):=by
 obtain⟨m,rfl⟩:=Int.eq_ofNat_of_zero_le h0
 have hm:m<10 ^ k:=by exact_mod_cast h1
 refine⟨by rw [← zN];exact zez m,by rw [← zN];exact zfO hk hm,zaT m,fun z=>?_⟩
 have:=zfN m z
 subst this
 rfl
theorem Xu {n:Int} (h0:0≤n):jl (txt n)=n:=by
 obtain⟨m,rfl⟩:=Int.eq_ofNat_of_zero_le h0
 unfold jl
 rw [zfM]
theorem zeA {x:Str} (h:AllDigits (cpl x)):Qp x:=fun z=>by
 have:=h 32 z
 omega
theorem zeB {n:Int} (h0:0≤n):Qp (txt n):=by
 obtain⟨m,rfl⟩:=Int.eq_ofNat_of_zero_le h0
 exact zeA (zaT m)
theorem num_reads {most:Nat}{x:Str} (h:Num most x) (hm:most≤4300):PySem.intText? x=some (jl x):=intText_digits h.dig h.ne' (Nat.le_trans h.le hm)
end L2
namespace L2
open PySem PySem.Spec PyProof.Rows
theorem Vd:∀(ws:List Str) (k:Nat),Vals (ws.map V.str) (strsFrom k ws)
 | [],_=>.nil
 | x::r,k=>.cons ⟨k,rfl⟩ (Vd r (k+1))
section
variable {X:Cx}
noncomputable def zgU:V→List V→Hp→VK→Prop:=fun x vs H Q=>∃a b,x=.str a∧vs=[.str b]∧(b.length == 0)=false∧a.length+2≤sizeLine∧∀l,H l=none→Q (.ref l) (upd H l (.lst ((Txt.split a b).map V.str)))
theorem zeC:MtR X "str.split" zgU:=by
 intro pins s σ H v vs u us Q I rx rs h
 obtain⟨x,y,rfl,rfl,hy,hz,q⟩:=h
 obtain⟨t,rfl⟩:=rx
 obtain⟨u1,rfl,w1⟩:=vals1 rs
 obtain⟨t',rfl⟩:=w1
 have hn:(Builtin.Str.partsBetween x (Builtin.Str.occurrences x y 0 x.length (x.length+1)) y.length).length≤sizeLine:=by
  have e1:=StrLaws.occ_length_le x y 0 x.length (x.length+1)
  rw [length_partsBetween]
  omega
 have q:=q _ I.fresh
 cases h1:(decide (x.length<y.length) || decide (Builtin.Str.strKind x<Builtin.Str.strKind y)) with
 | false=>
  cases hf:(Builtin.Str.occurrences x y 0 x.length (x.length+1)).isEmpty with
  | false=>
   have e:Txt.split x y=Builtin.Str.partsBetween x (Builtin.Str.occurrences x y 0 x.length (x.length+1)) y.length:=by
    unfold Txt.split
    rw [h1,hf]
    rfl
   rw [e] at q
   exact call_meets PySem.F.slot_str_split (typeIs_str _ _ _) PySem.F.entry_str_split (PySem.F.args_str_split_2 _ _) (meets_str_split_sep x y t t' h1 hy hf (by omega) hn) ⟨.ref _,_,I.lnew (Vd _ _) (by rw [List.length_map];exact hn),rfl,q⟩
  | true=>
   have e:Txt.split x y=[x]:=by
    unfold Txt.split
    rw [h1,hf]
    rfl
   rw [e] at q
   exact call_meets PySem.F.slot_str_split (typeIs_str _ _ _) PySem.F.entry_str_split (PySem.F.args_str_split_2 _ _) (meets_str_split_not_found x y t t' h1 hy hf) ⟨.ref _,_,I.lnew (its:=[.str x t]) (ys:=[V.str x]) (t':=s.toks) (.cons ⟨t,rfl⟩ .nil) (by show 1≤sizeLine;decide),rfl,q⟩
 | true=>
  have e:Txt.split x y=[x]:=by
   unfold Txt.split
   rw [h1]
   rfl
  rw [e] at q
  exact call_meets PySem.F.slot_str_split (typeIs_str _ _ _) PySem.F.entry_str_split (PySem.F.args_str_split_2 _ _) (meets_str_split_cannot_occur x y t t' h1) ⟨.ref _,_,I.lnew (its:=[.str x t]) (ys:=[V.str x]) (t':=s.toks) (.cons ⟨t,rfl⟩ .nil) (by show 1≤sizeLine;decide),rfl,q⟩
noncomputable def zdV:V→List V→Hp→VK→Prop:=fun x vs H Q=>∃a b k,x=.str a∧vs=[.str b,.int k]∧(decide (k < -(2 ^ 63:Int)) || decide (k ≥ 2 ^ 63))=false∧(b.length == 0)=false∧a.length+2≤sizeLine∧(Txt.splitMax a b k).length≤sizeLine∧∀l,H l=none→Q (.ref l) (upd H l (.lst ((Txt.splitMax a b k).map V.str)))
theorem zbP:MtR X "str.split" zdV:=by
 intro pins s σ H v vs u us Q I rx rs h
 obtain⟨x,y,k,rfl,rfl,hk,hy,hz,hn,q⟩:=h
 obtain⟨t,rfl⟩:=rx
 obtain⟨u1,u2,rfl,w1,w2⟩:=vals2 rs
 obtain⟨t',rfl⟩:=w1
 obtain⟨t2,rfl⟩:=w2
 have q:=q _ I.fresh
 cases h1:(decide (x.length<y.length) || decide (Builtin.Str.strKind x<Builtin.Str.strKind y)) with
 | false=>
  cases hf:(Builtin.Str.occurrences x y 0 x.length (limitOf x k)).isEmpty with
  | false=>
   have e:Txt.splitMax x y k=Builtin.Str.partsBetween x (Builtin.Str.occurrences x y 0 x.length (limitOf x k)) y.length:=by
    unfold Txt.splitMax
    rw [h1,hf]
    rfl
   rw [e] at q hn
   exact call_meets PySem.F.slot_str_split (typeIs_str _ _ _) PySem.F.entry_str_split (PySem.F.args_str_split_3 _ _ _) (meets_str_split_sep_max x y k t t' t2 hk h1 hy hf (by omega) hn) ⟨.ref _,_,I.lnew (Vd _ _) (by rw [List.length_map];exact hn),rfl,q⟩
  | true=>
   have e:Txt.splitMax x y k=[x]:=by
    unfold Txt.splitMax
    rw [h1,hf]
    rfl
   rw [e] at q
   exact call_meets PySem.F.slot_str_split (typeIs_str _ _ _) PySem.F.entry_str_split (PySem.F.args_str_split_3 _ _ _) (meets_str_split_max_not_found x y k t t' t2 hk h1 hy hf) ⟨.ref _,_,I.lnew (its:=[.str x t]) (ys:=[V.str x]) (t':=s.toks) (.cons ⟨t,rfl⟩ .nil) (by show 1≤sizeLine;decide),rfl,q⟩
 | true=>
  have e:Txt.splitMax x y k=[x]:=by
   unfold Txt.splitMax
   rw [h1]
   rfl
  rw [e] at q
  exact call_meets PySem.F.slot_str_split (typeIs_str _ _ _) PySem.F.entry_str_split (PySem.F.args_str_split_3 _ _ _) (meets_str_split_max_cannot_occur x y k t t' t2 hk h1) ⟨.ref _,_,I.lnew (its:=[.str x t]) (ys:=[V.str x]) (t':=s.toks) (.cons ⟨t,rfl⟩ .nil) (by show 1≤sizeLine;decide),rfl,q⟩
theorem zgV {k:Nat}{C:Addr}{x:Str}{ps:List Str}{sp:Sp}{p pos:Pos} (F:MkX CX0 X.prog X.w X.K X.mg X.base k C ps sp) (hr:Room (k+1) X.A) (hg:Gl X x) (hm:X.mg x=some (.ref C)) (hdb:(x == ("__debug__":Str))=false:=by decide) :
  PE X (.Call (.Name x p) [] [] pos) (tMk C sp tNil):=by
 obtain⟨f,fd,F,M,b⟩:=F
 intro pins s σ H Q I h
 refine wpAny_Call_Name_kw (ld_glob I hg hm ?_ hdb)
 exact W.callWith_K0 I.kIn M.kp (zex (us:=[]) (vs:=[]) M F hr b (fun _ _ _ _ _ z=>z.elim) I .nil h)
theorem zdW:CallR X (.type "int") (fun xs H Q=>∃x n,xs=[.str x]∧PySem.intText? x=some n∧x.length≤640∧Q (.int n) H):=by
 intro pins s σ H xs us Q I r h
 obtain⟨x,n,rfl,hn,hl,q⟩:=h
 obtain⟨u,rfl,t,rfl⟩:=vals1 r
 exact W.KIN.call_text hn hl ⟨.int n,H,I.tok _,⟨_,rfl⟩,q⟩
noncomputable def zlP (t:TE):TE:=fun σ H Q=>t σ H fun x H1=>∃i,x=.int i∧i.natAbs.log2<1920∧Q (.str (toString i)) H1
theorem zgW {e:Expr}{t:TE}{pos:Pos} (h:PE X e t):PE X (.FormattedValue e (-1) none pos) (zlP t):=by
 intro pins s σ H Q I hw
 refine FormattedValue_plain (thn (h pins s σ H _ I hw) fun v s1 ⟨x,H1,I1,r1,q1⟩=>?_)
 obtain⟨i,rfl,hi,q⟩:=q1
 obtain⟨t',rfl⟩:=r1
 exact formatField_int_small hi ⟨.str _,H1,I1.tok _,⟨_,rfl⟩,q⟩
noncomputable def tPs:List TE→Str→TE
 | [],acc=>fun _ H Q=>acc.length≤sizeLine∧Q (.str acc) H
 | t::ts,acc=>fun σ H Q=>t σ H fun x H1=>∃y,x=.str y∧(acc++y).length≤sizeLine∧tPs ts (acc++y) σ H1 Q
inductive PJs (X:Cx):List Expr→List TE→Prop where
 | nil:PJs X [] []
 | cons {e:Expr}{t:TE}{es:List Expr}{ts:List TE} (h:PE X e t) (r:PJs X es ts):PJs X (e::es) (t::ts)
theorem zeD:∀{es:List Expr}{ts:List TE},PJs X es ts→∀(acc:Str) (pins:List (Addr×Obj)) (s:Shared) (σ:St) (H:Hp) (Q:VK),Inv X pins σ H s→tPs ts acc σ H Q →
  wpAny (model X.prog X.w) X.A (joinParts acc (evalEach es X.env)) (EP X pins σ Q) X.xe s
 | _,_,.nil,acc,pins,s,σ,H,Q,I,h=>joinParts_nil ⟨.str acc,H,I.tok _,⟨_,rfl⟩,h.2⟩ h.1
 | _,_,.cons h r,acc,pins,s,σ,H,Q,I,hw=>by
  refine joinParts_cons (thn (h pins s σ H _ I hw) fun v s1 ⟨x,H1,I1,r1,q1⟩=>?_)
  obtain⟨y,rfl,hz,q⟩:=q1
  obtain⟨t',rfl⟩:=r1
  exact⟨hz,zeD r (acc++y) pins s1 σ H1 Q I1 q⟩
theorem zkT {e1 e2:Expr}{es:List Expr}{ts:List TE}{pos:Pos} (h:PJs X (e1::e2::es) ts):PE X (.JoinedStr (e1::e2::es) pos) (tPs ts Str.empty):=
 fun pins s σ H Q I hw=>JoinedStr_many (zeD h Str.empty pins s σ H Q I hw)
end
end L2
namespace SB
open PySem PyProof.Rows
abbrev kx (p:Keyed):Int:=numOf p.1
abbrev LE (x y:Keyed):Prop:=kx x≤kx y
structure MI (W out U V:List Keyed):Prop where
 so:out.Pairwise LE
 su:U.Pairwise LE
 sv:V.Pairwise LE
 ou:∀x∈out,∀y∈U,LE x y
 ov:∀x∈out,∀y∈V,LE x y
 pm:(out++U++V).Perm W
theorem MI.takeU {W out U1 U2 V:List Keyed} (h:MI W out (U1++U2) V) (c:∀x∈U1,∀y∈V,LE x y):MI W (out++U1) U2 V:=by
 obtain⟨so,su,sv,ou,ov,pm⟩:=h
 have s:=List.pairwise_append.mp su
 refine⟨List.pairwise_append.mpr ⟨so,s.1,fun x hx y hy=>ou x hx y (List.mem_append_left _ hy)⟩,s.2.1,sv,fun x hx y hy=>?_,fun x hx y hy=>?_,by simpa only [List.append_assoc] using pm⟩
 ·rcases List.mem_append.mp hx with z | z
  ·exact ou x z y (List.mem_append_right _ hy)
  ·exact s.2.2 x z y hy
 ·rcases List.mem_append.mp hx with z | z
  ·exact ov x z y hy
  ·exact c x z y hy
theorem MI.takeV {W out U V1 V2:List Keyed} (h:MI W out U (V1++V2)) (c:∀x∈V1,∀y∈U,LE x y):MI W (out++V1) U V2:=by
 obtain⟨so,su,sv,ou,ov,pm⟩:=h
 have s:=List.pairwise_append.mp sv
 refine⟨List.pairwise_append.mpr ⟨so,s.1,fun x hx y hy=>ov x hx y (List.mem_append_left _ hy)⟩,su,s.2.1,fun x hx y hy=>?_,fun x hx y hy=>?_,?_⟩
 ·rcases List.mem_append.mp hx with z | z
  ·exact ou x z y hy
  ·exact c x z y hy
 ·rcases List.mem_append.mp hx with z | z
  ·exact ov x z y (List.mem_append_right _ hy)
  ·exact s.2.2 x z y hy
 ·refine List.Perm.trans ?_ pm
  simp only [List.append_assoc]
  refine List.Perm.append_left _ ?_
  rw [← List.append_assoc,← List.append_assoc]
  exact List.Perm.append_right _ List.perm_append_comm
structure Mg (W m:List Keyed):Prop where
 so:m.Pairwise LE
 pm:m.Perm W
theorem MI.fin {W out U V:List Keyed} (h:MI W out U V) (c:∀x∈U,∀y∈V,LE x y):Mg W (out++U++V):=by
 obtain⟨so,su,sv,ou,ov,pm⟩:=h
 refine⟨List.pairwise_append.mpr ⟨List.pairwise_append.mpr ⟨so,su,ou⟩,sv,fun x hx y hy=>?_⟩,pm⟩
 rcases List.mem_append.mp hx with z | z
 ·exact ov x z y hy
 ·exact c x z y hy
theorem MI.fin' {W out U V:List Keyed} (h:MI W out U V) (c:∀x∈V,∀y∈U,LE x y):Mg W (out++V++U):=by
 obtain⟨so,su,sv,ou,ov,pm⟩:=h
 refine⟨List.pairwise_append.mpr ⟨List.pairwise_append.mpr ⟨so,sv,ov⟩,su,fun x hx y hy=>?_⟩,List.Perm.trans ?_ pm⟩
 ·rcases List.mem_append.mp hx with z | z
  ·exact ou x z y hy
  ·exact c x z y hy
 ·simp only [List.append_assoc]
  exact List.Perm.append_left _ List.perm_append_comm
structure MJ (W U V O:List Keyed):Prop where
 so:O.Pairwise LE
 su:U.Pairwise LE
 sv:V.Pairwise LE
 uo:∀x∈U,∀y∈O,LE x y
 vo:∀x∈V,∀y∈O,LE x y
 pm:(U++V++O).Perm W
theorem MJ.takeU {W U1 U2 V O:List Keyed} (h:MJ W (U1++U2) V O) (c:∀x∈V,∀y∈U2,LE x y):MJ W U1 V (U2++O):=by
 obtain⟨so,su,sv,uo,vo,pm⟩:=h
 have s:=List.pairwise_append.mp su
 refine⟨List.pairwise_append.mpr ⟨s.2.1,so,fun x hx y hy=>uo x (List.mem_append_right _ hx) y hy⟩,s.1,sv,fun x hx y hy=>?_,fun x hx y hy=>?_,?_⟩
 ·rcases List.mem_append.mp hy with z | z
  ·exact s.2.2 x hx y z
  ·exact uo x (List.mem_append_left _ hx) y z
 ·rcases List.mem_append.mp hy with z | z
  ·exact c x hx y z
  ·exact vo x hx y z
 ·refine List.Perm.trans ?_ pm
  simp only [List.append_assoc]
  refine List.Perm.append_left _ ?_
  rw [← List.append_assoc,← List.append_assoc]
  exact List.Perm.append_right _ List.perm_append_comm
theorem MJ.takeV {W U V1 V2 O:List Keyed} (h:MJ W U (V1++V2) O) (c:∀x∈U,∀y∈V2,LE x y):MJ W U V1 (V2++O):=by
 obtain⟨so,su,sv,uo,vo,pm⟩:=h
 have s:=List.pairwise_append.mp sv
 refine⟨List.pairwise_append.mpr ⟨s.2.1,so,fun x hx y hy=>vo x (List.mem_append_right _ hx) y hy⟩,su,s.1,fun x hx y hy=>?_,fun x hx y hy=>?_,by simpa only [List.append_assoc] using pm⟩
 ·rcases List.mem_append.mp hy with z | z
  ·exact c x hx y z
  ·exact uo x hx y z
 ·rcases List.mem_append.mp hy with z | z
  ·exact s.2.2 x hx y z
  ·exact vo x (List.mem_append_left _ hx) y z
theorem MJ.fin {W U V O:List Keyed} (h:MJ W U V O) (c:∀x∈U,∀y∈V,LE x y):Mg W (U++V++O):=by
 obtain⟨so,su,sv,uo,vo,pm⟩:=h
 refine⟨List.pairwise_append.mpr ⟨List.pairwise_append.mpr ⟨su,sv,c⟩,so,fun x hx y hy=>?_⟩,pm⟩
 rcases List.mem_append.mp hx with z | z
 ·exact uo x z y hy
 ·exact vo x z y hy
theorem MJ.fin' {W U V O:List Keyed} (h:MJ W U V O) (c:∀x∈V,∀y∈U,LE x y):Mg W (V++U++O):=by
 obtain⟨so,su,sv,uo,vo,pm⟩:=h
 refine⟨List.pairwise_append.mpr ⟨List.pairwise_append.mpr ⟨sv,su,c⟩,so,fun x hx y hy=>?_⟩,List.Perm.trans (List.Perm.append_right _ List.perm_append_comm) pm⟩
 rcases List.mem_append.mp hx with z | z
 ·exact vo x z y hy
 ·exact uo x z y hy
section
variable {prog:Program}{w:World}{A:Around}{E:Value→Shared→Prop}{s:Shared}
noncomputable def IK (x:Keyed):Prop:=∃n t,x.1=.int n t
theorem IK.eq {x:Keyed} (h:IK x):∃t,x=(.int (kx x) t,x.2):=by
 obtain⟨n,t,e⟩:=h
 refine⟨t,?_⟩
 unfold kx
 rw [e]
 exact Prod.ext e rfl
theorem zcG {st:SortSt}{x y:Keyed}{Q:Option Bool→SortSt→Prop} (hk:kindOf st=oneType') (hx:IK x) (hy:IK y) (h:Q (some (decide (kx x<kx y))) st):wpS (model prog w) A E s (lt' x y) Q st:=by
 obtain⟨t,ex⟩:=hx.eq
 obtain⟨u,ey⟩:=hy.eq
 rw [lt'_eq]
 refine wpS_bind (wpS_get ?_)
 rw [hk,ex,ey,keyLt'_oneType]
 refine wpS_bind (wpS_lift (wpAny_attempt (oneLt_int ⟨rfl,?_⟩)))
 exact wpS_pure h
theorem zaU {st:SortSt}{x y:Keyed}{Q:Option Bool→SortSt→Prop} (hk:kindOf st=oneType') (hx:IK x) (hy:IK y) (h:kx x<kx y→Q (some true) st) (h':¬kx x<kx y→Q (some false) st):wpS (model prog w) A E s (lt' x y) Q st:=by
 refine zcG hk hx hy ?_
 by_cases e:kx x<kx y
 ·rw [decide_eq_true e];exact h e
 ·rw [decide_eq_false e];exact h' e
theorem zR {st:SortSt}{arr:Array Keyed}{i:Nat}{x:Keyed}{Q:Keyed→SortSt→Prop} (hx:arr[i]?=some x) (h:Q x st):wpS (model prog w) A E s (elem' arr i) Q st:=by
 rw [elem'_eq,hx]
 exact wpS_pure h
noncomputable def yS:Bool→Keyed→Array Keyed→Nat→Nat→Nat→StateT SortSt Sem (Option Nat):=sortPriv% PySem.Builtin.gallop
noncomputable def K7:Array Keyed→Array Keyed→StateT SortSt Sem (Array Keyed):=sortPriv% PySem.Builtin.mergeLo
noncomputable def K8:Array Keyed→Array Keyed→StateT SortSt Sem (Array Keyed):=sortPriv% PySem.Builtin.mergeHi
noncomputable def Ja (left:Bool) (key:Keyed) (arr:Array Keyed) (base i:Nat):StateT SortSt Sem (Option Bool):=do
 let x ← elem' arr (base+i)
 if left then lt' x key else return (← lt' key x).map (!·)
theorem zcH (left:Bool) (key:Keyed) (arr:Array Keyed) (base n hint:Nat):yS left key arr base n hint=(do
 let mut la:=0
 let mut of:=1
 let mut lw:=0
 let mut hg:=0
 let some rg ← Ja left key arr base hint | return none
 if rg then
  let mx:=n-hint
  for _ in [0:n] do
   if of ≥ mx then break
   let some mo ← Ja left key arr base (hint+of) | return none
   if !mo then break
   la:=of
   of:=2*of+1
  lw:=hint+la+1
  hg:=hint+min of mx
 else
  let mx:=hint+1
  for _ in [0:n] do
   if of ≥ mx then break
   let some fo ← Ja left key arr base (hint-of) | return none
   if fo then break
   la:=of
   of:=2*of+1
  lw:=hint+1-min of mx
  hg:=hint-la
 for _ in [0:n] do
  if lw ≥ hg then break
  let m:=lw+(hg-lw) / 2
  let some mo ← Ja left key arr base m | return none
  if mo then lw:=m+1 else hg:=m
 return some hg):=rfl
noncomputable def bb (left:Bool) (key:Keyed) (arr:Array Keyed) (base i:Nat):Bool:=if left then decide (K arr (base+i)<kx key) else !decide (kx key<K arr (base+i))
theorem ZS {st:SortSt}{left:Bool}{key:Keyed}{arr:Array Keyed}{base i:Nat}{Q:Option Bool→SortSt→Prop} (hk:kindOf st=oneType') (hkey:IK key) (hx:∃x,arr[base+i]?=some x∧IK x) (h:Q (some (bb left key arr base i)) st):wpS (model prog w) A E s (Ja left key arr base i) Q st:=by
 obtain⟨x,hx,ix⟩:=hx
 unfold Ja
 refine wpS_bind (zR hx ?_)
 have e:K arr (base+i)=kx x:=by unfold K;rw [hx]
 cases left with
 | true=>
  rw [if_pos rfl]
  refine zcG hk ix hkey ?_
  unfold bb at h
  rw [e] at h
  exact h
 | false=>
  rw [if_neg (by decide)]
  refine wpS_bind (zcG hk hkey ix (wpS_pure ?_))
  unfold bb at h
  rw [e] at h
  exact h
theorem zfP {left:Bool}{key:Keyed}{arr:Array Keyed}{base n i j:Nat} (hs:∀i j,i≤j→j<n→K arr (base+i)≤K arr (base+j)) (hij:i≤j) (hj:j<n) (h:bb left key arr base j=true):bb left key arr base i=true:=by
 have:=hs i j hij hj
 unfold bb at h ⊢
 cases left with
 | true=>
  rw [if_pos rfl,decide_eq_true_eq] at h ⊢
  omega
 | false=>
  rw [if_neg (by decide),Bool.not_eq_true',decide_eq_false_iff_not] at h ⊢
  omega
theorem vY {st:SortSt}{left:Bool}{key:Keyed}{arr:Array Keyed}{base n hint:Nat}{Q:Option Nat→SortSt→Prop} (hk:kindOf st=oneType') (hkey:IK key) (hA:∀i,i<n→∃x,arr[base+i]?=some x∧IK x) (hs:∀i j,i≤j→j<n→K arr (base+i)≤K arr (base+j)) (hh:hint<n)
  (h:∀k,k≤n→(∀i,i<k→bb left key arr base i=true)→(∀i,k≤i→i<n→bb left key arr base i=false)→Q (some k) st):wpS (model prog w) A E s (yS left key arr base n hint) Q st:=by
 have mono:∀{i j},i≤j→j<n→bb left key arr base j=true→bb left key arr base i=true:=fun a b c=>zfP hs a b c
 have mono':∀{i j},i≤j→j<n→bb left key arr base i=false→bb left key arr base j=false:=fun {i j} a b c=>by
  cases hj:bb left key arr base j with
  | false=>rfl
  | true=>rw [mono a b hj] at c;cases c
 rw [zcH]
 refine wpS_bind (ZS hk hkey (hA _ hh) ?_)
 cases hb:bb left key arr base hint
 case' true=>
  dsimp only
  rw [if_pos rfl]
  refine wpS_bind (wpS_mono (wpS_forRange (I:=fun x c st'=>st'=st∧∃la of,c=(none,la,of)∧la<of∧x+1≤of∧hint+la<n∧bb left key arr base (hint+la)=true)
   (Q:=fun c st'=>st'=st∧∃la of,c=(none,la,of)∧la<of∧hint+la<n∧bb left key arr base (hint+la)=true∧(of ≥ n-hint∨bb left key arr base (hint+of)=false)) ?s1 ?f1 ⟨rfl,0,1,rfl,by decide,by decide,hh,hb⟩) ?p1)
  case s1=>
   rintro x c st' _ hx ⟨rfl,la,of,rfl,h1,h2,h3,h4⟩
   dsimp only
   by_cases hge:of ≥ n-hint
   ·rw [if_pos hge]
    exact wpS_pure ⟨rfl,_,_,rfl,h1,h3,h4,.inl hge⟩
   ·rw [if_neg hge]
    refine wpS_bind (ZS hk hkey (hA _ (by omega)) ?_)
    cases hb2:bb left key arr base (hint+of) with
    | true=>
     simp only [Bool.not_true,Bool.false_eq_true,if_false]
     exact wpS_pure ⟨rfl,_,_,rfl,by omega,by omega,by omega,hb2⟩
    | false=>
     simp only [Bool.not_false,if_true]
     exact wpS_pure ⟨rfl,_,_,rfl,h1,h3,h4,.inr hb2⟩
  case f1=>
   rintro c st' ⟨rfl,la,of,rfl,h1,h2,h3,h4⟩
   exact⟨rfl,_,_,rfl,h1,h3,h4,.inl (by omega)⟩
  rintro c st' ⟨rfl,la,of,rfl,h1,h3,h4,h5⟩
  dsimp only
  have g1:∀i,i<hint+la+1→bb left key arr base i=true:=fun i hi=>mono (by omega) h3 h4
  have g2:∀i,hint+min of (n-hint)≤i→i<n→bb left key arr base i=false:=fun i hi hin=>by
   rcases h5 with z | z
   ·omega
   ·by_cases y:of ≥ n-hint
    ·omega
    ·exact mono' (by omega) hin z
  have g3:hint+la+1≤hint+min of (n-hint):=by omega
  have g4:hint+min of (n-hint)≤n:=by omega
  generalize hint+la+1=lw at g1 g3 ⊢
  generalize hint+min of (n-hint)=hg at g2 g3 g4 ⊢
 case' false=>
  dsimp only
  rw [if_neg (by decide)]
  refine wpS_bind (wpS_mono (wpS_forRange (I:=fun x c st'=>st'=st∧∃la of,c=(none,la,of)∧la<of∧x+1≤of∧la≤hint∧bb left key arr base (hint-la)=false)
   (Q:=fun c st'=>st'=st∧∃la of,c=(none,la,of)∧la<of∧la≤hint∧bb left key arr base (hint-la)=false∧(of ≥ hint+1∨bb left key arr base (hint-of)=true)) ?s2 ?f2 ⟨rfl,0,1,rfl,by decide,by decide,by omega,hb⟩) ?p2)
  case s2=>
   rintro x c st' _ hx ⟨rfl,la,of,rfl,h1,h2,h3,h4⟩
   dsimp only
   by_cases hge:of ≥ hint+1
   ·rw [if_pos hge]
    exact wpS_pure ⟨rfl,_,_,rfl,h1,h3,h4,.inl hge⟩
   ·rw [if_neg hge]
    refine wpS_bind (ZS hk hkey (hA _ (by omega)) ?_)
    cases hb2:bb left key arr base (hint-of) with
    | true=>
     simp only [if_true]
     exact wpS_pure ⟨rfl,_,_,rfl,h1,h3,h4,.inr hb2⟩
    | false=>
     simp only [Bool.false_eq_true,if_false]
     exact wpS_pure ⟨rfl,_,_,rfl,by omega,by omega,by omega,hb2⟩
  case f2=>
   rintro c st' ⟨rfl,la,of,rfl,h1,h2,h3,h4⟩
   exact⟨rfl,_,_,rfl,h1,h3,h4,.inl (by omega)⟩
  rintro c st' ⟨rfl,la,of,rfl,h1,h3,h4,h5⟩
  dsimp only
  have g1:∀i,i<hint+1-min of (hint+1)→bb left key arr base i=true:=fun i hi=>by
   rcases h5 with z | z
   ·omega
   ·by_cases y:of ≥ hint+1
    ·omega
    ·exact mono (by omega) (by omega) z
  have g2:∀i,hint-la≤i→i<n→bb left key arr base i=false:=fun i hi hin=>mono' hi hin h4
  have g3:hint+1-min of (hint+1)≤hint-la:=by omega
  have g4:hint-la≤n:=by omega
  generalize hint+1-min of (hint+1)=lw at g1 g3 ⊢
  generalize hint-la=hg at g2 g3 g4 ⊢
 all_goals
  refine wpS_bind (wpS_mono (wpS_forRange (I:=fun x c st''=>st''=st'∧∃lw hg,c=(none,lw,hg)∧lw≤hg∧hg≤n∧hg-lw≤n-x∧(∀i,i<lw→bb left key arr base i=true)∧(∀i,hg≤i→i<n→bb left key arr base i=false))
   (Q:=fun c st''=>st''=st'∧∃lw hg,c=(none,lw,hg)∧hg≤n∧(∀i,i<hg→bb left key arr base i=true)∧(∀i,hg≤i→i<n→bb left key arr base i=false)) ?_ ?_ ⟨rfl,lw,hg,rfl,g3,g4,by omega,g1,g2⟩) ?_)
  ·rintro x c st'' _ hx ⟨rfl,lw,hg,rfl,hl,hn,hm,h1,h2⟩
   dsimp only
   by_cases hge:lw ≥ hg
   ·rw [if_pos hge]
    have:lw=hg:=by omega
    subst this
    exact wpS_pure ⟨rfl,_,_,rfl,hn,h1,h2⟩
   ·rw [if_neg hge]
    refine wpS_bind (ZS hk hkey (hA _ (by omega)) ?_)
    cases hb:bb left key arr base (lw+(hg-lw) / 2) with
    | true=>
     simp only [if_true]
     exact wpS_pure ⟨rfl,_,_,rfl,by omega,hn,by omega,fun i hi=>mono (by omega) (by omega) hb,h2⟩
    | false=>
     simp only [Bool.false_eq_true,if_false]
     exact wpS_pure ⟨rfl,_,_,rfl,by omega,by omega,by omega,h1,fun i hi hin=>mono' hi hin hb⟩
  ·rintro c st'' ⟨rfl,lw,hg,rfl,hl,hn,hm,h1,h2⟩
   have:lw=hg:=by omega
   subst this
   exact⟨rfl,_,_,rfl,hn,h1,h2⟩
  ·rintro c st'' ⟨rfl,lw,hg,rfl,hn,h1,h2⟩
   exact wpS_pure (h hg hn h1 h2)
end
noncomputable def zai:Nat→StateT SortSt Sem Unit:=sortPriv% PySem.Builtin.setMinGallop
theorem zeE (g:Nat):zai g=modify fun x=>SortSt.mk' (kindOf x) (arrOf x) (pendingOf x) g (failedOf x):=rfl
theorem zbQ (a b:Array Keyed):K7 a b=(do
 rule "list.sort.merge-lo"
 let tt:=a.size+b.size
 let dn (o:Array Keyed) (i j:Nat):=o++a.extract i a.size++b.extract j b.size
 let lA (o:Array Keyed) (i j:Nat):=o++b.extract j b.size++a.extract i a.size
 let mut o:Array Keyed:=#[← elem' b 0]
 let mut ia:=0
 let mut ib:=1
 if ib == b.size then return dn o ia ib
 if ia+1 == a.size then return lA o ia ib
 let mut mg:=gallopOf (← get)
 for _ in [0:tt] do
  let mut ac:=0
  let mut bc:=0
  for _ in [0:tt] do
   let some bW ← lt' (← elem' b ib) (← elem' a ia) | return dn o ia ib
   if bW then
    o:=o.push (← elem' b ib)
    ib:=ib+1
    bc:=bc+1
    ac:=0
    if ib == b.size then return dn o ia ib
    if bc ≥ mg then break
   else
    o:=o.push (← elem' a ia)
    ia:=ia+1
    ac:=ac+1
    bc:=0
    if ia+1 == a.size then return lA o ia ib
    if ac ≥ mg then break
  rule "list.sort.gallop"
  mg:=mg+1
  for _ in [0:tt] do
   if mg > 1 then mg:=mg-1
   zai mg
   let some k ← yS false (← elem' b ib) a ia (a.size-ia) 0 | return dn o ia ib
   ac:=k
   if k > 0 then
    o:=o++a.extract ia (ia+k)
    ia:=ia+k
    if ia+1 == a.size then return lA o ia ib
    if ia == a.size then return dn o ia ib
   o:=o.push (← elem' b ib)
   ib:=ib+1
   if ib == b.size then return dn o ia ib
   let some k ← yS true (← elem' a ia) b ib (b.size-ib) 0 | return dn o ia ib
   bc:=k
   if k > 0 then
    o:=o++b.extract ib (ib+k)
    ib:=ib+k
    if ib == b.size then return dn o ia ib
   o:=o.push (← elem' a ia)
   ia:=ia+1
   if ia+1 == a.size then return lA o ia ib
   if ac<7 && bc<7 then break
  mg:=mg+1
  zai mg
 unsupported "internal:list.sort.merge-bound"):=rfl
theorem zbR (a b:Array Keyed):K8 a b=(do
 rule "list.sort.merge-hi"
 let tt:=a.size+b.size
 let dn (o:Array Keyed) (i j:Nat):=a.extract 0 i++b.extract 0 j++o.reverse
 let fB (o:Array Keyed) (i j:Nat):=b.extract 0 j++a.extract 0 i++o.reverse
 let mut na:=a.size-1
 let mut nb:=b.size
 let mut o:Array Keyed:=#[← elem' a na]
 if na == 0 then return dn o na nb
 if nb == 1 then return fB o na nb
 let mut mg:=gallopOf (← get)
 for _ in [0:tt] do
  let mut ac:=0
  let mut bc:=0
  for _ in [0:tt] do
   let some aW ← lt' (← elem' b (nb-1)) (← elem' a (na-1)) | return dn o na nb
   if aW then
    na:=na-1
    o:=o.push (← elem' a na)
    ac:=ac+1
    bc:=0
    if na == 0 then return dn o na nb
    if ac ≥ mg then break
   else
    nb:=nb-1
    o:=o.push (← elem' b nb)
    bc:=bc+1
    ac:=0
    if nb == 1 then return fB o na nb
    if bc ≥ mg then break
  rule "list.sort.gallop"
  mg:=mg+1
  for _ in [0:tt] do
   if mg > 1 then mg:=mg-1
   zai mg
   let some p ← yS false (← elem' b (nb-1)) a 0 na (na-1) | return dn o na nb
   let k:=na-p
   ac:=k
   if k > 0 then
    o:=o++(a.extract p na).reverse
    na:=p
    if na == 0 then return dn o na nb
   nb:=nb-1
   o:=o.push (← elem' b nb)
   if nb == 1 then return fB o na nb
   let some p ← yS true (← elem' a (na-1)) b 0 nb (nb-1) | return dn o na nb
   let k:=nb-p
   bc:=k
   if k > 0 then
    o:=o++(b.extract p nb).reverse
    nb:=p
    if nb == 1 then return fB o na nb
    if nb == 0 then return dn o na nb
   na:=na-1
   o:=o.push (← elem' a na)
   if na == 0 then return dn o na nb
   if ac<7 && bc<7 then break
  mg:=mg+1
  zai mg
 unsupported "internal:list.sort.merge-bound"):=rfl
structure Pre (a b:Array Keyed):Prop where
 ka:∀x∈a.toList,IK x
 kb:∀x∈b.toList,IK x
 sa:a.toList.Pairwise LE
 sb:b.toList.Pairwise LE
 na:0<a.size
 nb:0<b.size
 lo:∀x,b[0]?=some x→∀y∈a.toList,LE x y
 hi:∀x,a[a.size-1]?=some x→∀y∈b.toList,LE y x
noncomputable def GS (st st':SortSt):Prop:=kindOf st'=kindOf st∧arrOf st'=arrOf st∧pendingOf st'=pendingOf st∧failedOf st'=failedOf st
theorem GS.refl (st:SortSt):GS st st:=⟨rfl,rfl,rfl,rfl⟩
theorem GS.trans {a b c:SortSt} (h:GS a b) (h':GS b c):GS a c:=⟨h'.1.trans h.1,h'.2.1.trans h.2.1,h'.2.2.1.trans h.2.2.1,h'.2.2.2.trans h.2.2.2⟩
theorem zcI {a:Array Keyed}{i:Nat}{x:Keyed} (h:a[i]?=some x):a.toList[i]?=some x:=by rw [Array.getElem?_toList];exact h
theorem zgC {a:Array Keyed}{i:Nat}{x:Keyed} (h:a[i]?=some x):a.toList.drop i=x::a.toList.drop (i+1):=by
 obtain⟨hi,e⟩:=List.getElem?_eq_some_iff.mp (zcI h)
 rw [List.drop_eq_getElem_cons hi,e]
theorem zgD {a:Array Keyed}{i:Nat}{x:Keyed} (h:a[i]?=some x):a.toList.take (i+1)=a.toList.take i++[x]:=by
 rw [List.take_add_one,zcI h]
 rfl
theorem zfQ {a:Array Keyed}{j:Nat}{y:Keyed} (h:y∈a.toList.drop j):∃i,j≤i∧i<a.size∧a[i]?=some y∧kx y=K a i:=by
 obtain⟨k,hk⟩:=List.getElem?_of_mem h
 rw [List.getElem?_drop] at hk
 have hl:=(List.getElem?_eq_some_iff.mp hk).1
 rw [Array.length_toList] at hl
 rw [Array.getElem?_toList] at hk
 exact⟨j+k,by omega,hl,hk,by unfold K;rw [hk]⟩
theorem zdn {a:Array Keyed}{j:Nat}{y:Keyed} (h:y∈a.toList.take j):∃i,i<j∧i<a.size∧a[i]?=some y∧kx y=K a i:=by
 obtain⟨k,hk⟩:=List.getElem?_of_mem h
 have hl:=(List.getElem?_eq_some_iff.mp hk).1
 rw [List.length_take,Array.length_toList] at hl
 rw [List.getElem?_take,if_pos (by omega),Array.getElem?_toList] at hk
 exact⟨k,by omega,by omega,hk,by unfold K;rw [hk]⟩
theorem Jb {a:Array Keyed} (h:a.toList.Pairwise LE){i j:Nat} (hij:i≤j) (hj:j<a.size):K a i≤K a j:=by
 rcases Nat.lt_or_eq_of_le hij with z | z
 ·have hi:i<a.size:=by omega
  have e1:K a i=kx a[i]:=K_eq hi
  have e2:K a j=kx a[j]:=K_eq hj
  rw [e1,e2]
  have:=List.pairwise_iff_getElem.mp h i j (by rw [Array.length_toList];omega) (by rw [Array.length_toList];omega) z
  exact this
 ·subst z;exact Int.le_refl _
theorem xR {a:Array Keyed} (h:∀x∈a.toList,IK x){i:Nat} (hi:i<a.size):∃x,a[i]?=some x∧IK x:=⟨a[i],getElem?_pos _ i hi,h _ (by simp)⟩
section
variable {W V:List Keyed}{o a b:Array Keyed}{ia ib k:Nat}{x:Keyed}
theorem zeF (h:MI W o.toList (a.toList.drop ia) V) (hx:a[ia]?=some x) (c:∀y∈V,LE x y):MI W (o.push x).toList (a.toList.drop (ia+1)) V:=by
 rw [zgC hx] at h
 rw [Array.toList_push]
 exact MI.takeU (U1:=[x]) h fun z hz y hy=>by rw [List.mem_singleton.mp hz];exact c y hy
theorem zcJ (h:MI W o.toList V (b.toList.drop ib)) (hx:b[ib]?=some x) (c:∀y∈V,LE x y):MI W (o.push x).toList V (b.toList.drop (ib+1)):=by
 rw [zgC hx] at h
 rw [Array.toList_push]
 exact MI.takeV (V1:=[x]) h fun z hz y hy=>by rw [List.mem_singleton.mp hz];exact c y hy
theorem Ve {a:Array Keyed}{i k:Nat}{z:Keyed} (hz:z∈(a.toList.drop i).take k):∃j,j<k∧i+j<a.size∧kx z=K a (i+j):=by
 obtain⟨j,hj⟩:=List.getElem?_of_mem hz
 have hl:=(List.getElem?_eq_some_iff.mp hj).1
 rw [List.length_take,List.length_drop,Array.length_toList] at hl
 rw [List.getElem?_take,if_pos (by omega),List.getElem?_drop,Array.getElem?_toList] at hj
 exact⟨j,by omega,by omega,by unfold K;rw [hj]⟩
theorem zbS (a:Array Keyed) (i k:Nat):(a.extract i (i+k)).toList=(a.toList.drop i).take k:=by
 rw [Array.toList_extract,List.extract_eq_take_drop,show i+k-i=k by omega]
theorem Jc (a:Array Keyed) (i:Nat):(a.extract i a.size).toList=a.toList.drop i:=by
 rw [Array.toList_extract,List.extract_eq_take_drop]
 exact List.take_of_length_le (by rw [List.length_drop,Array.length_toList];omega)
theorem Jd (a:Array Keyed) (i:Nat):(a.extract 0 i).toList=a.toList.take i:=by
 rw [Array.toList_extract,List.extract_eq_take_drop,List.drop_zero,Nat.sub_zero]
theorem zkU (h:MI W o.toList (a.toList.drop ia) V) (c:∀j,j<k→∀y∈V,K a (ia+j)≤kx y):MI W (o++a.extract ia (ia+k)).toList (a.toList.drop (ia+k)) V:=by
 rw [← List.take_append_drop k (a.toList.drop ia)] at h
 have:=MI.takeU h fun z hz y hy=>by
  obtain⟨j,hj,_,e⟩:=Ve hz
  show kx z≤kx y
  rw [e]
  exact c j hj y hy
 rw [List.drop_drop] at this
 rw [Array.toList_append,zbS]
 exact this
theorem zkV (h:MI W o.toList V (b.toList.drop ib)) (c:∀j,j<k→∀y∈V,K b (ib+j)≤kx y):MI W (o++b.extract ib (ib+k)).toList V (b.toList.drop (ib+k)):=by
 rw [← List.take_append_drop k (b.toList.drop ib)] at h
 have:=MI.takeV h fun z hz y hy=>by
  obtain⟨j,hj,_,e⟩:=Ve hz
  show kx z≤kx y
  rw [e]
  exact c j hj y hy
 rw [List.drop_drop] at this
 rw [Array.toList_append,zbS]
 exact this
theorem zdo (h:MI W o.toList (a.toList.drop ia) (b.toList.drop ib)) (e:ib=b.size):Mg W (o++a.extract ia a.size++b.extract ib b.size).toList:=by
 rw [Array.toList_append,Array.toList_append,Jc,Jc]
 refine h.fin fun x _ y hy=>?_
 rw [e,List.drop_of_length_le (by rw [Array.length_toList];exact Nat.le_refl _)] at hy
 cases hy
theorem zkW (h:MI W o.toList (a.toList.drop ia) (b.toList.drop ib)) (e:ia=a.size):Mg W (o++a.extract ia a.size++b.extract ib b.size).toList:=by
 rw [Array.toList_append,Array.toList_append,Jc,Jc]
 refine h.fin fun x hx y _=>?_
 rw [e,List.drop_of_length_le (by rw [Array.length_toList];exact Nat.le_refl _)] at hx
 cases hx
theorem zdp (pre:Pre a b) (h:MI W o.toList (a.toList.drop ia) (b.toList.drop ib)) (e:ia+1=a.size):Mg W (o++b.extract ib b.size++a.extract ia a.size).toList:=by
 rw [Array.toList_append,Array.toList_append,Jc,Jc]
 refine h.fin' fun x hx y hy=>?_
 obtain⟨i,hi1,hi2,hi3,_⟩:=zfQ hy
 have:i=a.size-1:=by omega
 subst this
 exact pre.hi y hi3 x (List.mem_of_mem_drop hx)
theorem Ku {a:Array Keyed} (h:a.toList.Pairwise LE){i:Nat}{x:Keyed} (hx:a[i]?=some x){y:Keyed} (hy:y∈a.toList.drop i):LE x y:=by
 obtain⟨j,h1,h2,h3,h4⟩:=zfQ hy
 show kx x≤kx y
 rw [h4,show kx x=K a i by unfold K;rw [hx]]
 exact Jb h h1 h2
end
section
variable {prog:Program}{w:World}{A:Around}{E:Value→Shared→Prop}{s:Shared}
theorem Je {st:SortSt}{g:Nat}{Q:Unit→SortSt→Prop} (h:∀st',GS st st'→Q () st'):wpS (model prog w) A E s (zai g) Q st:=by
 rw [zeE]
 exact wpS_modify (h _ ⟨rfl,rfl,rfl,rfl⟩)
noncomputable def LoI (a b o:Array Keyed) (ia ib:Nat):Prop:=MI (a.toList++b.toList) o.toList (a.toList.drop ia) (b.toList.drop ib)∧ia+1<a.size∧ib<b.size
theorem jn1 {P:Nat→Prop}{R:Prop} (g:(∀i,P i)→R) (b:∀i,P i):R:=g b
theorem jn {α:Type}{C P:α→Nat→Nat→Prop}{R:Prop} (g:(∀o i k,C o i k→P o i k)→R) (b:∀o i k,C o i k→P o i k):R:=g b
theorem zaj {left:Bool}{key:Keyed}{arr:Array Keyed}{base i:Nat} (h:bb left key arr base i=true):K arr (base+i)≤kx key:=by
 unfold bb at h
 split at h
 ·exact Int.le_of_lt (of_decide_eq_true h)
 ·exact Int.not_lt.mp (of_decide_eq_false (Bool.not_eq_true' _ ▸ h))
theorem zak {left:Bool}{key:Keyed}{arr:Array Keyed}{base i:Nat} (h:bb left key arr base i=false):kx key≤K arr (base+i):=by
 unfold bb at h
 split at h
 ·exact Int.not_lt.mp (of_decide_eq_false h)
 ·exact Int.le_of_lt (of_decide_eq_true (Bool.not_eq_false' _ ▸ h))
theorem jE {st:SortSt}{α:Type}{c:Prop} [Decidable c] {x y:StateT SortSt Sem α}{Q:α→SortSt→Prop} (h1:c→wpS (model prog w) A E s x Q st) (h2:¬c→wpS (model prog w) A E s y Q st):wpS (model prog w) A E s (if c then x else y) Q st:=by
 by_cases e:c
 ·rw [if_pos e];exact h1 e
 ·rw [if_neg e];exact h2 e
theorem qt {st:SortSt}{α:Type}{i j:Nat}{x y:StateT SortSt Sem α}{Q:α→SortSt→Prop} (h1:i=j→wpS (model prog w) A E s x Q st) (h2:i≠j→wpS (model prog w) A E s y Q st):wpS (model prog w) A E s (if (i == j)=true then x else y) Q st:=
 jE (fun e=>h1 (eq_of_beq e)) fun e=>h2 fun z=>e (beq_iff_eq.mpr z)
theorem zbT {st:SortSt}{a b:Array Keyed}{Q:Array Keyed→SortSt→Prop} (hk:kindOf st=oneType') (pre:Pre a b)
  (h:∀m st',Mg (a.toList++b.toList) m.toList→GS st st'→Q m st'):wpS (model prog w) A E s (K7 a b) Q st:=by
 rw [zbQ]
 refine wpS_bind (wpS_lift (wpAny_rule ⟨rfl,?_⟩))
 obtain⟨b0,hb0,_⟩:=xR pre.kb pre.nb
 refine wpS_bind (zR hb0 ?_)
 dsimp only
 have h0:MI (a.toList++b.toList) (#[]:Array Keyed).toList (a.toList.drop 0) (b.toList.drop 0):=⟨List.Pairwise.nil,pre.sa,pre.sb,(fun _ z=>nomatch z),(fun _ z=>nomatch z),List.Perm.refl _⟩
 have h1:MI (a.toList++b.toList) (#[b0]:Array Keyed).toList (a.toList.drop 0) (b.toList.drop 1):=zcJ h0 hb0 fun y hy=>pre.lo b0 hb0 y hy
 refine qt (fun e1=>wpS_pure (h _ _ (zdo h1 e1) (GS.refl _))) fun e1=>?_
 refine qt (fun e2=>wpS_pure (h _ _ (zdp pre h1 e2) (GS.refl _))) fun e2=>?_
 have na:=pre.na
 have nb:=pre.nb
 have L1:LoI a b #[b0] 0 1:=⟨h1,by omega,by omega⟩
 refine wpS_bind (wpS_get ?_)
 generalize gallopOf st=mg0
 refine wpS_bind (wpS_mono (wpS_forRange (I:=fun x c st'=>GS st st'∧∃o ia ib mg,c=(none,o,ia,ib,mg)∧LoI a b o ia ib∧x≤ia+ib)
  (Q:=fun c st'=>GS st st'∧∃m o ia ib mg,c=(some m,o,ia,ib,mg)∧Mg (a.toList++b.toList) m.toList) ?step ?fin ⟨GS.refl _,_,_,_,_,rfl,L1,by omega⟩) ?post)
 case post=>
  rintro c st' ⟨g,m,o,ia,ib,mg,rfl,hm⟩
  exact wpS_pure (h m st' hm g)
 case fin=>
  rintro c st' ⟨g,o,ia,ib,mg,rfl,⟨_,h2,h3⟩,hx⟩
  exfalso
  omega
 case step=>
  rintro x c st1 _ hx ⟨g1,o1,ia1,ib1,mg1,rfl,L1,p1⟩
  dsimp only
  have hk1:kindOf st1=oneType':=g1.1.trans hk
  refine wpS_bind (wpS_mono (wpS_forRange (I:=fun y c st'=>st'=st1∧∃o ia ib ac bc,c=(none,o,ia,ib,ac,bc)∧LoI a b o ia ib∧ia+ib=ia1+ib1+y)
   (Q:=fun c st'=>st'=st1∧((∃m o ia ib ac bc,c=(some m,o,ia,ib,ac,bc)∧Mg (a.toList++b.toList) m.toList)∨(∃o ia ib ac bc,c=(none,o,ia,ib,ac,bc)∧LoI a b o ia ib∧ia1+ib1+1≤ia+ib))) ?s2 ?f2 ⟨rfl,_,_,_,_,_,rfl,L1,by omega⟩) ?p2)
  case f2=>
   rintro c st' ⟨rfl,o,ia,ib,ac,bc,rfl,⟨m1,m2,m3⟩,hy⟩
   exfalso
   omega
  case s2=>
   rintro y c st' _ hy ⟨rfl,o,ia,ib,ac,bc,rfl,⟨m1,m2,m3⟩,hp⟩
   dsimp only
   obtain⟨bx,hbx,kbx⟩:=xR pre.kb m3
   obtain⟨ax,hax,kax⟩:=xR pre.ka (show ia<a.size by omega)
   refine wpS_bind (zR hbx (wpS_bind (zR hax (wpS_bind (zaU hk1 kbx kax (fun hw=>?_) fun hw=>?_)))))
   ·refine wpS_bind (zR hbx ?_)
    have M:=zcJ m1 hbx fun z hz=>Int.le_trans (Int.le_of_lt hw) (Ku pre.sa hax hz)
    refine qt (fun e1=>wpS_pure ⟨rfl,.inl ⟨_,_,_,_,_,_,rfl,zdo M e1⟩⟩) fun e1=>?_
    have L:LoI a b (o.push bx) ia (ib+1):=⟨M,m2,by omega⟩
    exact jE (fun _=>wpS_pure ⟨rfl,.inr ⟨_,_,_,_,_,rfl,L,by omega⟩⟩) fun _=>wpS_pure ⟨rfl,_,_,_,_,_,rfl,L,by omega⟩
   ·refine wpS_bind (zR hax ?_)
    have M:=zeF m1 hax fun z hz=>Int.le_trans (Int.not_lt.mp hw) (Ku pre.sb hbx hz)
    refine qt (fun e1=>wpS_pure ⟨rfl,.inl ⟨_,_,_,_,_,_,rfl,zdp pre M e1⟩⟩) fun e1=>?_
    have L:LoI a b (o.push ax) (ia+1) ib:=⟨M,by omega,m3⟩
    exact jE (fun _=>wpS_pure ⟨rfl,.inr ⟨_,_,_,_,_,rfl,L,by omega⟩⟩) fun _=>wpS_pure ⟨rfl,_,_,_,_,_,rfl,L,by omega⟩
  case p2=>
   rintro c st' ⟨rfl,⟨m,o,ia,ib,ac,bc,rfl,hm⟩ | ⟨o2,ia2,ib2,ac2,bc2,rfl,L2,p2⟩⟩
   ·exact wpS_pure ⟨g1,_,_,_,_,_,rfl,hm⟩
   ·dsimp only
    refine wpS_bind (wpS_lift (wpAny_rule ⟨rfl,?_⟩))
    refine wpS_bind (wpS_mono (wpS_forRange (I:=fun y c st''=>GS st st''∧∃o ia ib mg ac bc,c=(none,o,ia,ib,mg,ac,bc)∧LoI a b o ia ib∧ia2+ib2≤ia+ib)
     (Q:=fun c st''=>GS st st''∧((∃m o ia ib mg ac bc,c=(some m,o,ia,ib,mg,ac,bc)∧Mg (a.toList++b.toList) m.toList)∨(∃o ia ib mg ac bc,c=(none,o,ia,ib,mg,ac,bc)∧LoI a b o ia ib∧ia2+ib2≤ia+ib))) ?s3 (fun c st''=>.imp_right .inr) ⟨g1,_,_,_,_,_,_,rfl,L2,by omega⟩) ?p3)
    case p3=>
     rintro c st'' ⟨g,⟨m,o,ia,ib,mg,ac,bc,rfl,hm⟩ | ⟨o3,ia3,ib3,mg3,ac3,bc3,rfl,L3,p3⟩⟩
     ·exact wpS_pure ⟨g,_,_,_,_,_,rfl,hm⟩
     ·dsimp only
      exact wpS_bind (Je fun st3 g3=>wpS_pure ⟨g.trans g3,_,_,_,_,rfl,L3,by omega⟩)
    case s3=>
     rintro y c st'' _ hy ⟨g,o,ia,ib,mg,ac,bc,rfl,⟨m1,m2,m3⟩,hp⟩
     dsimp only
     obtain⟨bx,hbx,kbx⟩:=xR pre.kb m3
     apply jn1
     case g=>
      intro G
      refine jE (fun _=>?_) fun _=>?_
      ·generalize mg-1=m
       exact G m
      ·exact G mg
     case b=>
     intro m
     refine wpS_bind (Je fun st3 g3=>?_)
     have gg:=g.trans g3
     have hk3:kindOf st3=oneType':=gg.1.trans hk
     refine wpS_bind (zR hbx (wpS_bind (vY hk3 kbx (fun i hi=>xR pre.ka (by omega)) (fun i j hij hj=>Jb pre.sa (by omega) (by omega)) (by omega) fun k k1 k2 k3=>?_)))
     dsimp only
     have c2:∀z∈a.toList.drop (ia+k),LE bx z:=fun z hz=>by
      obtain⟨i,h1,h2,h3,h4⟩:=zfQ hz
      have:=zak (k3 (i-ia) (by omega) (by omega))
      rwa [show ia+(i-ia)=i by omega,← h4] at this
     have M:=zkU (k:=k) m1 fun j hj z hz=>Int.le_trans (zaj (k2 j hj)) (Ku pre.sb hbx hz)
     apply jn (C:=fun(o':Array Keyed) i' _=>MI (a.toList++b.toList) o'.toList (a.toList.drop i') (b.toList.drop ib)∧i'+1<a.size∧(∀z∈a.toList.drop i',LE bx z)∧ia2+ib2≤i'+ib)
     case g=>
      intro G
      refine jE (fun hkp=>?_) fun hkp=>?_
      ·refine qt (fun e1=>wpS_pure ⟨gg,.inl ⟨_,_,_,_,_,_,_,rfl,zdp pre M e1⟩⟩) fun e1=>?_
       refine qt (fun e2=>wpS_pure ⟨gg,.inl ⟨_,_,_,_,_,_,_,rfl,zkW M e2⟩⟩) fun e2=>?_
       have hia:ia+k+1<a.size:=by omega
       have hp':ia2+ib2≤ia+k+ib:=by omega
       have M':=M
       have c3:=c2
       generalize o++a.extract ia (ia+k)=o' at M' ⊢
       generalize ia+k=ia' at M' hia c3 hp' ⊢
       generalize k=k'
       exact G o' ia' k' ⟨M',hia,c3,hp'⟩
      ·exact G o ia k ⟨m1,m2,(by rw [show k=0 by omega] at c2;exact c2),hp⟩
     case b=>
     rintro o' ia' k' ⟨M',hia,c3,hp'⟩
     refine wpS_bind (zR hbx ?_)
     have N:=zcJ M' hbx c3
     refine qt (fun e1=>wpS_pure ⟨gg,.inl ⟨_,_,_,_,_,_,_,rfl,zdo N e1⟩⟩) fun e1=>?_
     obtain⟨ax,hax,kax⟩:=xR pre.ka (show ia'<a.size by omega)
     refine wpS_bind (zR hax (wpS_bind (vY hk3 kax (fun i hi=>xR pre.kb (by omega)) (fun i j hij hj=>Jb pre.sb (by omega) (by omega)) (by omega) fun kk q1 q2 q3=>?_)))
     dsimp only
     have d2:∀z∈b.toList.drop (ib+1+kk),LE ax z:=fun z hz=>by
      obtain⟨i,h1,h2,h3,h4⟩:=zfQ hz
      have:=zak (q3 (i-(ib+1)) (by omega) (by omega))
      rwa [show ib+1+(i-(ib+1))=i by omega,← h4] at this
     have R:=zkV (k:=kk) N fun j hj z hz=>Int.le_trans (zaj (q2 j hj)) (Ku pre.sa hax hz)
     apply jn (C:=fun(o':Array Keyed) i' _=>MI (a.toList++b.toList) o'.toList (a.toList.drop ia') (b.toList.drop i')∧i'<b.size∧(∀z∈b.toList.drop i',LE ax z)∧ia2+ib2≤ia'+i')
     case g=>
      intro G
      refine jE (fun hkq=>?_) fun hkq=>?_
      ·refine qt (fun e2=>wpS_pure ⟨gg,.inl ⟨_,_,_,_,_,_,_,rfl,zdo R e2⟩⟩) fun e2=>?_
       have hib:ib+1+kk<b.size:=by omega
       have hp2:ia2+ib2≤ia'+(ib+1+kk):=by omega
       have R':=R
       have d3:=d2
       generalize o'.push bx++b.extract (ib+1) (ib+1+kk)=o'' at R' ⊢
       generalize ib+1+kk=ib' at R' hib d3 hp2 ⊢
       generalize kk=k'
       exact G o'' ib' k' ⟨R',hib,d3,hp2⟩
      ·exact G _ _ kk ⟨N,by omega,(by rw [show kk=0 by omega] at d2;exact d2),by omega⟩
     case b=>
     rintro o'' ib' k'' ⟨R',hib,d3,hp2⟩
     refine wpS_bind (zR hax ?_)
     have F:=zeF R' hax d3
     refine qt (fun e1=>wpS_pure ⟨gg,.inl ⟨_,_,_,_,_,_,_,rfl,zdp pre F e1⟩⟩) fun e1=>?_
     have L:LoI a b (o''.push ax) (ia'+1) ib':=⟨F,by omega,hib⟩
     exact jE (fun _=>wpS_pure ⟨gg,.inr ⟨_,_,_,_,_,_,rfl,L,by omega⟩⟩) fun _=>wpS_pure ⟨gg,_,_,_,_,_,_,rfl,L,by omega⟩
end
section
variable {W V:List Keyed}{o a b:Array Keyed}{na nb p:Nat}{x:Keyed}
theorem zaV (h:MJ W (a.toList.take (na+1)) V o.toList.reverse) (hx:a[na]?=some x) (c:∀y∈V,LE y x):MJ W (a.toList.take na) V (o.push x).toList.reverse:=by
 rw [zgD hx] at h
 rw [Array.toList_push,List.reverse_append]
 exact MJ.takeU (U2:=[x]) h fun y hy z hz=>by rw [List.mem_singleton.mp hz];exact c y hy
theorem zdq (h:MJ W V (b.toList.take (nb+1)) o.toList.reverse) (hx:b[nb]?=some x) (c:∀y∈V,LE y x):MJ W V (b.toList.take nb) (o.push x).toList.reverse:=by
 rw [zgD hx] at h
 rw [Array.toList_push,List.reverse_append]
 exact MJ.takeV (V2:=[x]) h fun y hy z hz=>by rw [List.mem_singleton.mp hz];exact c y hy
theorem ZV {a:Array Keyed}{p n:Nat} (hp:p≤n):a.toList.take n=a.toList.take p++(a.extract p n).toList:=by
 rw [Array.toList_extract,List.extract_eq_take_drop,← List.drop_take]
 have:=List.take_append_drop p (a.toList.take n)
 rw [List.take_take,Nat.min_eq_left hp] at this
 exact this.symm
theorem part_mem {a:Array Keyed}{p n:Nat}{z:Keyed} (hz:z∈(a.extract p n).toList):∃i,p≤i∧i<n∧i<a.size∧kx z=K a i:=by
 rw [Array.toList_extract,List.extract_eq_take_drop] at hz
 obtain⟨j,h1,h2,h3⟩:=Ve hz
 exact⟨p+j,by omega,by omega,h2,h3⟩
theorem zgX (h:MJ W (a.toList.take na) V o.toList.reverse) (hp:p≤na) (c:∀i,p≤i→i<na→∀y∈V,kx y≤K a i):MJ W (a.toList.take p) V (o++(a.extract p na).reverse).toList.reverse:=by
 rw [ZV hp] at h
 rw [Array.toList_append,List.reverse_append,Array.toList_reverse,List.reverse_reverse]
 refine MJ.takeU h fun y hy z hz=>?_
 obtain⟨i,h1,h2,h3,h4⟩:=part_mem hz
 show kx y≤kx z
 rw [h4]
 exact c i h1 h2 y hy
theorem zgY (h:MJ W V (b.toList.take nb) o.toList.reverse) (hp:p≤nb) (c:∀i,p≤i→i<nb→∀y∈V,kx y≤K b i):MJ W V (b.toList.take p) (o++(b.extract p nb).reverse).toList.reverse:=by
 rw [ZV hp] at h
 rw [Array.toList_append,List.reverse_append,Array.toList_reverse,List.reverse_reverse]
 refine MJ.takeV h fun y hy z hz=>?_
 obtain⟨i,h1,h2,h3,h4⟩:=part_mem hz
 show kx y≤kx z
 rw [h4]
 exact c i h1 h2 y hy
theorem zaW (h:MJ W (a.toList.take na) (b.toList.take nb) o.toList.reverse) (e:na=0):Mg W (a.extract 0 na++b.extract 0 nb++o.reverse).toList:=by
 rw [Array.toList_append,Array.toList_append,Jd,Jd,Array.toList_reverse]
 refine h.fin fun x hx y _=>?_
 rw [e,List.take_zero] at hx
 cases hx
theorem zgZ (h:MJ W (a.toList.take na) (b.toList.take nb) o.toList.reverse) (e:nb=0):Mg W (a.extract 0 na++b.extract 0 nb++o.reverse).toList:=by
 rw [Array.toList_append,Array.toList_append,Jd,Jd,Array.toList_reverse]
 refine h.fin fun x _ y hy=>?_
 rw [e,List.take_zero] at hy
 cases hy
theorem zaX (pre:Pre a b) (h:MJ W (a.toList.take na) (b.toList.take nb) o.toList.reverse) (e:nb=1):Mg W (b.extract 0 nb++a.extract 0 na++o.reverse).toList:=by
 rw [Array.toList_append,Array.toList_append,Jd,Jd,Array.toList_reverse]
 refine h.fin' fun x hx y hy=>?_
 obtain⟨i,hi1,hi2,hi3,_⟩:=zdn hx
 have:i=0:=by omega
 subst this
 exact pre.lo x hi3 y (List.mem_of_mem_take hy)
theorem Kv {a:Array Keyed} (h:a.toList.Pairwise LE){i:Nat}{x:Keyed} (hx:a[i]?=some x){y:Keyed} (hy:y∈a.toList.take (i+1)):LE y x:=by
 obtain⟨j,h1,h2,h3,h4⟩:=zdn hy
 show kx y≤kx x
 rw [h4,show kx x=K a i by unfold K;rw [hx]]
 have hi:i<a.size:=by
  by_cases z:i<a.size
  ·exact z
  ·rw [getElem?_neg _ i z] at hx;cases hx
 exact Jb h (by omega) hi
end
section
variable {prog:Program}{w:World}{A:Around}{E:Value→Shared→Prop}{s:Shared}
noncomputable def HiI (a b o:Array Keyed) (na nb:Nat):Prop:=MJ (a.toList++b.toList) (a.toList.take na) (b.toList.take nb) o.toList.reverse∧1≤na∧na<a.size∧2≤nb∧nb≤b.size
theorem zbU {st:SortSt}{a b:Array Keyed}{Q:Array Keyed→SortSt→Prop} (hk:kindOf st=oneType') (pre:Pre a b)
  (h:∀m st',Mg (a.toList++b.toList) m.toList→GS st st'→Q m st'):wpS (model prog w) A E s (K8 a b) Q st:=by
 rw [zbR]
 refine wpS_bind (wpS_lift (wpAny_rule ⟨rfl,?_⟩))
 have na0:=pre.na
 have nb0:=pre.nb
 obtain⟨al,hal,_⟩:=xR pre.ka (show a.size-1<a.size by omega)
 refine wpS_bind (zR hal ?_)
 dsimp only
 have h0:MJ (a.toList++b.toList) (a.toList.take (a.size-1+1)) (b.toList.take b.size) (#[]:Array Keyed).toList.reverse:=by
  rw [show a.size-1+1=a.toList.length by rw [Array.length_toList];omega,List.take_length,show b.size=b.toList.length from (Array.length_toList).symm,List.take_length]
  exact⟨List.Pairwise.nil,pre.sa,pre.sb,(fun _ _ _ z=>nomatch z),(fun _ _ _ z=>nomatch z),by rw [show (#[]:Array Keyed).toList.reverse=[] from rfl,List.append_nil]⟩
 have h1:MJ (a.toList++b.toList) (a.toList.take (a.size-1)) (b.toList.take b.size) (#[al]:Array Keyed).toList.reverse:=zaV h0 hal fun y hy=>pre.hi al hal y (List.mem_of_mem_take hy)
 refine qt (fun e1=>wpS_pure (h _ _ (zaW h1 e1) (GS.refl _))) fun e1=>?_
 refine qt (fun e2=>wpS_pure (h _ _ (zaX pre h1 e2) (GS.refl _))) fun e2=>?_
 have L1:HiI a b #[al] (a.size-1) b.size:=⟨h1,by omega,by omega,by omega,Nat.le_refl _⟩
 refine wpS_bind (wpS_get ?_)
 generalize gallopOf st=mg0
 refine wpS_bind (wpS_mono (wpS_forRange (I:=fun x c st'=>GS st st'∧∃na nb o mg,c=(none,na,nb,o,mg)∧HiI a b o na nb∧na+nb+x≤a.size+b.size)
  (Q:=fun c st'=>GS st st'∧∃m na nb o mg,c=(some m,na,nb,o,mg)∧Mg (a.toList++b.toList) m.toList) ?step ?fin ⟨GS.refl _,_,_,_,_,rfl,L1,by omega⟩) ?post)
 case post=>
  rintro c st' ⟨g,m,na,nb,o,mg,rfl,hm⟩
  exact wpS_pure (h m st' hm g)
 case fin=>
  rintro c st' ⟨g,na,nb,o,mg,rfl,⟨_,h2,h3,h4,h5⟩,hx⟩
  exfalso
  omega
 case step=>
  rintro x c st1 _ hx ⟨g1,na1,nb1,o1,mg1,rfl,L1,p1⟩
  dsimp only
  have hk1:kindOf st1=oneType':=g1.1.trans hk
  refine wpS_bind (wpS_mono (wpS_forRange (I:=fun y c st'=>st'=st1∧∃na nb o ac bc,c=(none,na,nb,o,ac,bc)∧HiI a b o na nb∧na+nb+y=na1+nb1)
   (Q:=fun c st'=>st'=st1∧((∃m na nb o ac bc,c=(some m,na,nb,o,ac,bc)∧Mg (a.toList++b.toList) m.toList)∨(∃na nb o ac bc,c=(none,na,nb,o,ac,bc)∧HiI a b o na nb∧na+nb+1≤na1+nb1))) ?s2 ?f2 ⟨rfl,_,_,_,_,_,rfl,L1,by omega⟩) ?p2)
  case f2=>
   rintro c st' ⟨rfl,na,nb,o,ac,bc,rfl,⟨m1,m2,m3,m4,m5⟩,hy⟩
   obtain⟨_,n2,n3,n4,n5⟩:=L1
   exfalso
   omega
  case s2=>
   rintro y c st' _ hy ⟨rfl,na,nb,o,ac,bc,rfl,⟨m1,m2,m3,m4,m5⟩,hp⟩
   dsimp only
   obtain⟨n',rfl⟩:∃n',na=n'+1:=⟨na-1,by omega⟩
   obtain⟨k',rfl⟩:∃k',nb=k'+1:=⟨nb-1,by omega⟩
   simp only [Nat.add_sub_cancel]
   obtain⟨bx,hbx,kbx⟩:=xR pre.kb (show k'<b.size by omega)
   obtain⟨ax,hax,kax⟩:=xR pre.ka (show n'<a.size by omega)
   refine wpS_bind (zR hbx (wpS_bind (zR hax (wpS_bind (zaU hk1 kbx kax (fun hw=>?_) fun hw=>?_)))))
   ·refine wpS_bind (zR hax ?_)
    have M:=zaV m1 hax fun z hz=>Int.le_trans (Kv pre.sb hbx hz) (Int.le_of_lt hw)
    refine qt (fun e1=>wpS_pure ⟨rfl,.inl ⟨_,_,_,_,_,_,rfl,zaW M e1⟩⟩) fun e1=>?_
    have L:HiI a b (o.push ax) n' (k'+1):=⟨M,by omega,by omega,m4,m5⟩
    exact jE (fun _=>wpS_pure ⟨rfl,.inr ⟨_,_,_,_,_,rfl,L,by omega⟩⟩) fun _=>wpS_pure ⟨rfl,_,_,_,_,_,rfl,L,by omega⟩
   ·refine wpS_bind (zR hbx ?_)
    have M:=zdq m1 hbx fun z hz=>Int.le_trans (Kv pre.sa hax hz) (Int.not_lt.mp hw)
    refine qt (fun e1=>wpS_pure ⟨rfl,.inl ⟨_,_,_,_,_,_,rfl,zaX pre M e1⟩⟩) fun e1=>?_
    have L:HiI a b (o.push bx) (n'+1) k':=⟨M,m2,m3,by omega,by omega⟩
    exact jE (fun _=>wpS_pure ⟨rfl,.inr ⟨_,_,_,_,_,rfl,L,by omega⟩⟩) fun _=>wpS_pure ⟨rfl,_,_,_,_,_,rfl,L,by omega⟩
  case p2=>
   rintro c st' ⟨rfl,⟨m,na,nb,o,ac,bc,rfl,hm⟩ | ⟨na2,nb2,o2,ac2,bc2,rfl,L2,p2⟩⟩
   ·exact wpS_pure ⟨g1,_,_,_,_,_,rfl,hm⟩
   ·dsimp only
    refine wpS_bind (wpS_lift (wpAny_rule ⟨rfl,?_⟩))
    refine wpS_bind (wpS_mono (wpS_forRange (I:=fun y c st''=>GS st st''∧∃na nb o mg ac bc,c=(none,na,nb,o,mg,ac,bc)∧HiI a b o na nb∧na+nb≤na2+nb2)
     (Q:=fun c st''=>GS st st''∧((∃m na nb o mg ac bc,c=(some m,na,nb,o,mg,ac,bc)∧Mg (a.toList++b.toList) m.toList)∨(∃na nb o mg ac bc,c=(none,na,nb,o,mg,ac,bc)∧HiI a b o na nb∧na+nb≤na2+nb2))) ?s3 (fun c st''=>.imp_right .inr) ⟨g1,_,_,_,_,_,_,rfl,L2,by omega⟩) ?p3)
    case p3=>
     rintro c st'' ⟨g,⟨m,na,nb,o,mg,ac,bc,rfl,hm⟩ | ⟨na3,nb3,o3,mg3,ac3,bc3,rfl,L3,p3⟩⟩
     ·exact wpS_pure ⟨g,_,_,_,_,_,rfl,hm⟩
     ·dsimp only
      exact wpS_bind (Je fun st3 g3=>wpS_pure ⟨g.trans g3,_,_,_,_,rfl,L3,by omega⟩)
    case s3=>
     rintro y c st'' _ hy ⟨g,na,nb,o,mg,ac,bc,rfl,⟨m1,m2,m3,m4,m5⟩,hp⟩
     dsimp only
     obtain⟨k',rfl⟩:∃k',nb=k'+1:=⟨nb-1,by omega⟩
     simp only [Nat.add_sub_cancel]
     obtain⟨bx,hbx,kbx⟩:=xR pre.kb (show k'<b.size by omega)
     apply jn1
     case g=>
      intro G
      refine jE (fun _=>?_) fun _=>?_
      ·generalize mg-1=m
       exact G m
      ·exact G mg
     case b=>
     intro m
     refine wpS_bind (Je fun st3 g3=>?_)
     have gg:=g.trans g3
     have hk3:kindOf st3=oneType':=gg.1.trans hk
     refine wpS_bind (zR hbx (wpS_bind (vY hk3 kbx (fun i hi=>by rw [Nat.zero_add];exact xR pre.ka (by omega)) (fun i j hij hj=>by rw [Nat.zero_add,Nat.zero_add];exact Jb pre.sa hij (by omega)) (by omega) fun p q1 q2 q3=>?_)))
     dsimp only
     have c2:∀z∈a.toList.take p,LE z bx:=fun z hz=>by
      obtain⟨i,h1,h2,h3,h4⟩:=zdn hz
      have:=zaj (q2 i h1)
      rwa [Nat.zero_add,← h4] at this
     have M:=zgX (p:=p) m1 q1 fun i hi hin z hz=>Int.le_trans (Kv pre.sb hbx hz) (Nat.zero_add i ▸ zak (q3 i hi hin))
     apply jn (C:=fun(o':Array Keyed) i' _=>MJ (a.toList++b.toList) (a.toList.take i') (b.toList.take (k'+1)) o'.toList.reverse∧1≤i'∧i'<a.size∧(∀z∈a.toList.take i',LE z bx)∧i'+(k'+1)≤na2+nb2)
     case g=>
      intro G
      refine jE (fun hkp=>?_) fun hkp=>?_
      ·refine qt (fun e1=>wpS_pure ⟨gg,.inl ⟨_,_,_,_,_,_,_,rfl,zaW M e1⟩⟩) fun e1=>?_
       have hia:1≤p:=by omega
       have hib:p<a.size:=by omega
       have hp':p+(k'+1)≤na2+nb2:=by omega
       have M':=M
       generalize o++(a.extract p na).reverse=o',na-p=k at M' ⊢
       have c3:=c2
       generalize p=p' at M' hia hib c3 hp' ⊢
       exact G o' p' k ⟨M',hia,hib,c3,hp'⟩
      ·have k0:p=na:=by omega
       exact G o na _ ⟨m1,m2,m3,k0 ▸ c2,hp⟩
     case b=>
     rintro o' na' kp ⟨M',hia,hib,c3,hp'⟩
     refine wpS_bind (zR hbx ?_)
     have N:=zdq M' hbx c3
     refine qt (fun e1=>wpS_pure ⟨gg,.inl ⟨_,_,_,_,_,_,_,rfl,zaX pre N e1⟩⟩) fun e1=>?_
     obtain⟨n',rfl⟩:∃n',na'=n'+1:=⟨na'-1,by omega⟩
     simp only [Nat.add_sub_cancel]
     obtain⟨ax,hax,kax⟩:=xR pre.ka (show n'<a.size by omega)
     refine wpS_bind (zR hax (wpS_bind (vY hk3 kax (fun i hi=>by rw [Nat.zero_add];exact xR pre.kb (by omega)) (fun i j hij hj=>by rw [Nat.zero_add,Nat.zero_add];exact Jb pre.sb hij (by omega)) (by omega) fun r u1 u2 u3=>?_)))
     dsimp only
     have d2:∀z∈b.toList.take r,LE z ax:=fun z hz=>by
      obtain⟨i,h1,h2,h3,h4⟩:=zdn hz
      have:=zaj (u2 i h1)
      rwa [Nat.zero_add,← h4] at this
     have R:=zgY (p:=r) N u1 fun i hi hin z hz=>Int.le_trans (Kv pre.sa hax hz) (Nat.zero_add i ▸ zak (u3 i hi hin))
     apply jn (C:=fun(o':Array Keyed) i' _=>MJ (a.toList++b.toList) (a.toList.take (n'+1)) (b.toList.take i') o'.toList.reverse∧2≤i'∧i'≤b.size∧(∀z∈b.toList.take i',LE z ax)∧n'+1+i'≤na2+nb2)
     case g=>
      intro G
      refine jE (fun hkq=>?_) fun hkq=>?_
      ·refine qt (fun e2=>wpS_pure ⟨gg,.inl ⟨_,_,_,_,_,_,_,rfl,zaX pre R e2⟩⟩) fun e2=>?_
       refine qt (fun e4=>wpS_pure ⟨gg,.inl ⟨_,_,_,_,_,_,_,rfl,zgZ R e4⟩⟩) fun e4=>?_
       have hb2:2≤r:=by omega
       have hb3:r≤b.size:=by omega
       have hp2:n'+1+r≤na2+nb2:=by omega
       have R':=R
       generalize o'.push bx++(b.extract r k').reverse=o'',k'-r=k at R' ⊢
       have d3:=d2
       generalize r=r' at R' hb2 hb3 d3 hp2 ⊢
       exact G o'' r' k ⟨R',hb2,hb3,d3,hp2⟩
      ·have k0:r=k':=by omega
       exact G _ k' _ ⟨N,by omega,by omega,k0 ▸ d2,by omega⟩
     case b=>
     rintro o'' nb' kr ⟨R',hb2,hb3,d3,hp2⟩
     refine wpS_bind (zR hax ?_)
     have F:=zaV R' hax d3
     refine qt (fun e3=>wpS_pure ⟨gg,.inl ⟨_,_,_,_,_,_,_,rfl,zaW F e3⟩⟩) fun e3=>?_
     have L:HiI a b (o''.push ax) n' nb':=⟨F,by omega,by omega,hb2,hb3⟩
     exact jE (fun _=>wpS_pure ⟨gg,.inr ⟨_,_,_,_,_,_,rfl,L,by omega⟩⟩) fun _=>wpS_pure ⟨gg,_,_,_,_,_,_,rfl,L,by omega⟩
end
theorem zbV (i:Nat):mergeAt' i=(do
 let x ← get
 let (some (sa,na,pw),some (sb,nb,_)):=((pendingOf x)[i]?,(pendingOf x)[i+1]?) | unsupported "internal:list.sort.pending"
 set (setPending x (((pendingOf x).setIfInBounds i (sa,na+nb,pw)).eraseIdxIfInBounds (i+1)))
 let some k ← yS false (← elem' (arrOf x) sb) (arrOf x) sa na 0 | return false
 let (sa,na):=(sa+k,na-k)
 if na == 0 then return true
 let some nb ← yS true (← elem' (arrOf x) (sa+na-1)) (arrOf x) sb nb (nb-1) | return false
 if nb == 0 then return true
 let u:=(arrOf x).extract sa sb
 let v:=(arrOf x).extract sb (sb+nb)
 let m ← if na≤nb then K7 u v else K8 u v
 modify fun x=>setArr x (m.toList.zipIdx.foldl (fun c (p,j)=>c.setIfInBounds (sa+j) p) (arrOf x))
 return (failedOf (← get)).isNone):=rfl
theorem zbW (s:Nat):∀(l:List Keyed) (j0:Nat) (xs:Array Keyed),s+j0+l.length≤xs.size→((l.zipIdx j0).foldl (fun c p=>c.setIfInBounds (s+p.2) p.1) xs).toList=xs.toList.take (s+j0)++l++xs.toList.drop (s+j0+l.length)
 | [],j0,xs,_=>by simp
 | x::r,j0,xs,h=>by
  rw [List.length_cons] at h
  rw [List.zipIdx_cons,List.foldl_cons,zbW s r (j0+1) _ (by rw [Array.size_setIfInBounds];omega)]
  have e:(xs.setIfInBounds (s+j0) x).toList=xs.toList.set (s+j0) x:=Array.toList_setIfInBounds ..
  show List.take (s+(j0+1)) (xs.setIfInBounds (s+j0) x).toList++r++List.drop (s+(j0+1)+r.length) (xs.setIfInBounds (s+j0) x).toList=_
  rw [e,show s+(j0+1)=s+j0+1 by omega,List.take_add_one,List.getElem?_set_self (by rw [Array.length_toList];omega),List.take_set_of_le (Nat.le_refl _),List.drop_set_of_lt (by omega),List.length_cons,show s+j0+1+r.length=s+j0+(r.length+1) by omega]
  simp
noncomputable def zE (xs:Array Keyed) (lo hi:Nat):Prop:=∀i j,lo≤i→i≤j→j<hi→K xs i≤K xs j
noncomputable def V7 (xs ys:Array Keyed) (lo hi:Nat):Prop:=∀k,k<lo∨hi≤k→K ys k=K xs k
theorem zcK {xs:Array Keyed}{i:Nat}{x:Keyed} (h:xs.toList[i]?=some x):K xs i=kx x:=by
 rw [Array.getElem?_toList] at h
 unfold K
 rw [h]
theorem zgE {xs:Array Keyed}{lo hi j:Nat}{x:Keyed} (h:(xs.extract lo hi)[j]?=some x):kx x=K xs (lo+j):=by
 have h:=zcI h
 rw [Array.toList_extract,List.extract_eq_take_drop,List.getElem?_take] at h
 split at h
 ·rw [List.getElem?_drop] at h
  exact(zcK h).symm
 ·cases h
theorem K9 {xs:Array Keyed}{lo hi:Nat} (h:zE xs lo hi) (hb:hi≤xs.size):(xs.extract lo hi).toList.Pairwise LE:=by
 rw [Array.toList_extract,List.extract_eq_take_drop,List.pairwise_iff_getElem]
 intro i j hi' hj hij
 rw [List.length_take,List.length_drop,Array.length_toList] at hi' hj
 have e:∀k (hk:k<((xs.toList.drop lo).take (hi-lo)).length),kx ((xs.toList.drop lo).take (hi-lo))[k]=K xs (lo+k):=fun k hk=>by
  rw [List.length_take,List.length_drop,Array.length_toList] at hk
  refine(zcK ?_).symm
  rw [← List.getElem?_drop,List.getElem?_eq_getElem (by rw [List.length_drop,Array.length_toList];omega),List.getElem_take]
 show kx _≤kx _
 rw [e,e]
 exact h _ _ (by omega) (by omega) (by omega)
section
variable {prog:Program}{w:World}{A:Around}{E:Value→Shared→Prop}{s:Shared}
theorem zfR {st st':SortSt}{Q:PUnit→SortSt→Prop} (h:Q ⟨⟩ st'):wpS (model prog w) A E s (set st':StateT SortSt Sem PUnit) Q st:=by
 unfold wpS
 rw [StateT.run_set]
 exact wpAny_pure ⟨rfl,h⟩
theorem zbX {st:SortSt}{i sa na pw nb pw2:Nat}{Q:Bool→SortSt→Prop} (hk:kindOf st=oneType') (hf:failedOf st=none) (hI:∀x∈(arrOf st).toList,IK x)
  (hp1:(pendingOf st)[i]?=some (sa,na,pw)) (hp2:(pendingOf st)[i+1]?=some (sa+na,nb,pw2)) (n1:1≤na) (n2:1≤nb) (hb:sa+na+nb≤(arrOf st).size)
  (s1:zE (arrOf st) sa (sa+na)) (s2:zE (arrOf st) (sa+na) (sa+na+nb))
  (h:∀st',kindOf st'=oneType'→failedOf st'=none→(arrOf st').Perm (arrOf st)→V7 (arrOf st) (arrOf st') sa (sa+na+nb)→zE (arrOf st') sa (sa+na+nb)→pendingOf st'=((pendingOf st).setIfInBounds i (sa,na+nb,pw)).eraseIdxIfInBounds (i+1)→Q true st') :
  wpS (model prog w) A E s (mergeAt' i) Q st:=by
 rw [zbV]
 refine wpS_bind (wpS_get ?_)
 rw [hp1,hp2]
 dsimp only
 refine wpS_bind (zfR ?_)
 generalize hst:setPending st (((pendingOf st).setIfInBounds i (sa,na+nb,pw)).eraseIdxIfInBounds (i+1))=st1
 have k1:kindOf st1=oneType':=by rw [← hst];exact hk
 have f1:failedOf st1=none:=by rw [← hst];exact hf
 have a1:arrOf st1=arrOf st:=by rw [← hst]
 have p1:pendingOf st1=((pendingOf st).setIfInBounds i (sa,na+nb,pw)).eraseIdxIfInBounds (i+1):=by rw [← hst]
 clear hst
 generalize arrOf st=xs at *
 obtain⟨b0,hb0,kb0⟩:=xR hI (show sa+na<xs.size by omega)
 have eb0:K xs (sa+na)=kx b0:=zcK (zcI hb0)
 refine wpS_bind (zR hb0 (wpS_bind (vY k1 kb0 (fun j hj=>xR hI (by omega)) (fun j l hjl hl=>s1 _ _ (by omega) (by omega) (by omega)) (by omega) fun k q1 q2 q3=>?_)))
 dsimp only
 have zg0:∀u,sa≤u→u<sa+k→K xs u≤K xs (sa+na):=fun u h1 h2=>by
  have:=zaj (q2 (u-sa) (by omega))
  rwa [show sa+(u-sa)=u by omega,← eb0] at this
 have zgF:∀u,sa+k≤u→u<sa+na→K xs (sa+na)≤K xs u:=fun u h1 h2=>by
  have:=zak (q3 (u-sa) (by omega) (by omega))
  rwa [show sa+(u-sa)=u by omega,← eb0] at this
 have two:(∀u v,sa≤u→u<sa+na→sa+na≤v→v<sa+na+nb→K xs u≤K xs v)→wpS (model prog w) A E s (pure true) Q st1:=fun c=>by
  refine wpS_pure (h st1 k1 f1 (by rw [a1]) (by rw [a1];exact fun _ _=>rfl) ?_ p1)
  rw [a1]
  intro u v hu huv hv
  by_cases y1:v<sa+na
  ·exact s1 u v hu huv y1
  ·by_cases y2:sa+na≤u
   ·exact s2 u v y2 huv hv
   ·exact c u v hu (by omega) (by omega) hv
 refine qt (fun e1=>two fun u v h1 h2 h3 h4=>Int.le_trans (zg0 u h1 (by omega)) (s2 _ _ (Nat.le_refl _) h3 h4)) fun e1=>?_
 rw [show sa+k+(na-k)-1=sa+na-1 by omega]
 obtain⟨al,hal,kal⟩:=xR hI (show sa+na-1<xs.size by omega)
 have eal:K xs (sa+na-1)=kx al:=zcK (zcI hal)
 refine wpS_bind (zR hal (wpS_bind (vY k1 kal (fun j hj=>xR hI (by omega)) (fun j l hjl hl=>s2 _ _ (by omega) (by omega) (by omega)) (by omega) fun r u1 u2 u3=>?_)))
 dsimp only
 have zlQ:∀u,sa+na≤u→u<sa+na+r→K xs u≤K xs (sa+na-1):=fun u h1 h2=>by
  have:=zaj (u2 (u-(sa+na)) (by omega))
  rwa [show sa+na+(u-(sa+na))=u by omega,← eal] at this
 have zgG:∀u,sa+na+r≤u→u<sa+na+nb→K xs (sa+na-1)≤K xs u:=fun u h1 h2=>by
  have:=zak (u3 (u-(sa+na)) (by omega) (by omega))
  rwa [show sa+na+(u-(sa+na))=u by omega,← eal] at this
 refine qt (fun e2=>two fun u v h1 h2 h3 h4=>Int.le_trans (s1 u (sa+na-1) h1 (by omega) (by omega)) (zgG v (by omega) h4)) fun e2=>?_
 have szU:(xs.extract (sa+k) (sa+na)).size=na-k:=by rw [Array.size_extract];omega
 have szV:(xs.extract (sa+na) (sa+na+r)).size=r:=by rw [Array.size_extract];omega
 have pre:Pre (xs.extract (sa+k) (sa+na)) (xs.extract (sa+na) (sa+na+r)):=by
  refine⟨fun x hx=>hI x ?_,fun x hx=>hI x ?_,K9 (fun u v hu huv hv=>s1 u v (by omega) huv hv) (by omega),K9 (fun u v hu huv hv=>s2 u v hu huv (by omega)) (by omega),by omega,by omega,fun x hx y hy=>?_,fun x hx y hy=>?_⟩
  ·rw [Array.toList_extract,List.extract_eq_take_drop] at hx
   exact List.mem_of_mem_drop (List.mem_of_mem_take hx)
  ·rw [Array.toList_extract,List.extract_eq_take_drop] at hx
   exact List.mem_of_mem_drop (List.mem_of_mem_take hx)
  ·have ex:kx x=K xs (sa+na):=by have:=zgE (lo:=sa+na) (j:=0) hx;exact this
   obtain⟨j,h1,h2,_,h3⟩:=part_mem hy
   show kx x≤kx y
   rw [ex,h3]
   exact zgF j h1 h2
  ·have ex:kx x=K xs (sa+na-1):=by
    have:=zgE hx
    rw [szU,show sa+k+(na-k-1)=sa+na-1 by omega] at this
    exact this
   obtain⟨j,h1,h2,_,h3⟩:=part_mem hy
   show kx y≤kx x
   rw [ex,h3]
   exact zlQ j h1 h2
 have fin:∀(m:Array Keyed) (st2:SortSt),Mg ((xs.extract (sa+k) (sa+na)).toList++(xs.extract (sa+na) (sa+na+r)).toList) m.toList→GS st1 st2 →
   wpS (model prog w) A E s (do
    modify fun x=>setArr x (m.toList.zipIdx.foldl (fun c x=>c.setIfInBounds (sa+k+x.2) x.1) (arrOf x))
    let y ← get
    pure (failedOf y).isNone) Q st2:=by
  intro m st2 hm g
  refine wpS_bind (wpS_modify (wpS_bind (wpS_get ?_)))
  have ml:m.toList.length=na-k+r:=by rw [hm.pm.length_eq,List.length_append,Array.length_toList,Array.length_toList,szU,szV]
  have al2:arrOf st2=xs:=g.2.1.trans a1
  have ef:failedOf st2=none:=g.2.2.2.trans f1
  rw [al2]
  have L:(m.toList.zipIdx.foldl (fun c x=>c.setIfInBounds (sa+k+x.2) x.1) xs).toList=xs.toList.take (sa+k)++m.toList++xs.toList.drop (sa+na+r):=by
   have:=zbW (sa+k) m.toList 0 xs (by omega)
   rw [Nat.add_zero,ml,show sa+k+(na-k+r)=sa+na+r by omega] at this
   exact this
  generalize m.toList.zipIdx.foldl (fun c x=>c.setIfInBounds (sa+k+x.2) x.1) xs=ys at L ⊢
  have kL:∀j,j<sa+k→K ys j=K xs j:=fun j hj=>by
   refine K_congr ?_
   rw [← Array.getElem?_toList,L,← Array.getElem?_toList,List.append_assoc,List.getElem?_append_left (by rw [List.length_take,Array.length_toList];omega),List.getElem?_take,if_pos hj]
  have kR:∀j,sa+na+r≤j→K ys j=K xs j:=fun j hj=>by
   refine K_congr ?_
   have hl:(xs.toList.take (sa+k)++m.toList).length=sa+na+r:=by rw [List.length_append,List.length_take,Array.length_toList,ml];omega
   rw [← Array.getElem?_toList,L,← Array.getElem?_toList,List.getElem?_append_right (by omega),hl,List.getElem?_drop,show sa+na+r+(j-(sa+na+r))=j by omega]
  have kM:∀j,sa+k≤j→j<sa+na+r→∃z,m.toList[j-(sa+k)]?=some z∧K ys j=kx z:=fun j h1 h2=>by
   have hj:j-(sa+k)<m.toList.length:=by omega
   refine⟨_,List.getElem?_eq_getElem hj,zcK ?_⟩
   have hl:(xs.toList.take (sa+k)).length=sa+k:=by rw [List.length_take,Array.length_toList];omega
   rw [L,List.append_assoc,List.getElem?_append_right (by omega),hl,List.getElem?_append_left hj,List.getElem?_eq_getElem hj]
  have mb:∀z∈m.toList,K xs (sa+na)≤kx z∧∀j,sa+na+r≤j→j<sa+na+nb→kx z≤K xs j:=fun z hz=>by
   rcases List.mem_append.mp (hm.pm.mem_iff.mp hz) with y | y
   ·obtain⟨l,h1,h2,_,h3⟩:=part_mem y
    rw [h3]
    exact⟨zgF l h1 h2,fun j hj1 hj2=>Int.le_trans (s1 l (sa+na-1) (by omega) (by omega) (by omega)) (zgG j hj1 hj2)⟩
   ·obtain⟨l,h1,h2,_,h3⟩:=part_mem y
    rw [h3]
    exact⟨s2 _ l (Nat.le_refl _) h1 (by omega),fun j hj1 hj2=>s2 l j h1 (by omega) hj2⟩
  have zkX:ys.Perm xs:=by
   rw [Array.perm_iff_toList_perm,L]
   have e:xs.toList=xs.toList.take (sa+k)++((xs.extract (sa+k) (sa+na)).toList++(xs.extract (sa+na) (sa+na+r)).toList)++xs.toList.drop (sa+na+r):=by
    rw [← List.append_assoc,← ZV (show sa+k≤sa+na by omega),← ZV (show sa+na≤sa+na+r by omega),List.take_append_drop]
   refine List.Perm.trans ?_ (List.Perm.of_eq e.symm)
   exact List.Perm.append_right _ (List.Perm.append_left _ hm.pm)
  show wpS _ _ _ _ (pure (failedOf st2).isNone) _ _
  rw [ef]
  refine wpS_pure (h _ (g.1.trans k1) ef zkX ?_ ?_ (g.2.2.1.trans p1))
  ·intro j hj
   rcases hj with y | y
   ·exact kL j (by omega)
   ·exact kR j (by omega)
  ·intro u v hu huv hv
   by_cases c1:v<sa+k
   ·rw [kL u (by omega),kL v c1]
    exact s1 u v hu huv (by omega)
   by_cases c2:v<sa+na+r
   ·obtain⟨zv,hzv,ev⟩:=kM v (by omega) c2
    rw [ev]
    by_cases c3:u<sa+k
    ·rw [kL u c3]
     exact Int.le_trans (zg0 u hu c3) (mb zv (List.mem_of_getElem? hzv)).1
    ·obtain⟨zu,hzu,eu⟩:=kM u (by omega) (by omega)
     rw [eu]
     rcases Nat.lt_or_eq_of_le huv with y | y
     ·obtain⟨hu1,hu2⟩:=List.getElem?_eq_some_iff.mp hzu
      obtain⟨hv1,hv2⟩:=List.getElem?_eq_some_iff.mp hzv
      have:=List.pairwise_iff_getElem.mp hm.so _ _ hu1 hv1 (by omega)
      rw [hu2,hv2] at this
      exact this
     ·subst y
      rw [hzu] at hzv
      cases hzv
      exact Int.le_refl _
   ·rw [kR v (by omega)]
    by_cases c3:u<sa+k
    ·rw [kL u c3]
     exact Int.le_trans (zg0 u hu c3) (s2 _ _ (Nat.le_refl _) (by omega) hv)
    ·by_cases c4:u<sa+na+r
     ·obtain⟨zu,hzu,eu⟩:=kM u (by omega) c4
      rw [eu]
      exact(mb zu (List.mem_of_getElem? hzu)).2 v (by omega) hv
     ·rw [kR u (by omega)]
      exact s2 u v (by omega) huv hv
 exact jE (fun _=>wpS_bind (zbT k1 pre fin)) fun _=>wpS_bind (zbU k1 pre fin)
end
structure SG (a₀:Array Keyed) (p:Array (Nat×Nat×Nat)) (st:SortSt):Prop where
 perm:(arrOf st).Perm a₀
 kind:kindOf st=oneType'
 fail:failedOf st=none
 pend:pendingOf st=p
theorem SG.size {a₀:Array Keyed}{p:Array (Nat×Nat×Nat)}{st:SortSt} (h:SG a₀ p st):(arrOf st).size=a₀.size:=h.perm.size_eq
theorem SG.arr {a₀:Array Keyed}{p:Array (Nat×Nat×Nat)}{st:SortSt} (h:SG a₀ p st){xs:Array Keyed} (hp:xs.Perm (arrOf st)):SG a₀ p (setArr st xs):=⟨hp.trans h.perm,h.kind,h.fail,h.pend⟩
theorem SG.ik {a₀:Array Keyed}{p:Array (Nat×Nat×Nat)}{st:SortSt} (h:SG a₀ p st) (h0:IntKeys a₀):∀x∈(arrOf st).toList,IK x:=fun x hx=>h0 x ((Array.perm_iff_toList_perm.mp h.perm).mem_iff.mp hx)
noncomputable def Ql (xs:Array Keyed) (lo k:Nat):Prop:=∀i j,lo≤i→i≤j→j<lo+k→K xs j≤K xs i
section
variable {prog:Program}{w:World}{A:Around}{E:Value→Shared→Prop}{s:Shared}{a₀:Array Keyed}{p:Array (Nat×Nat×Nat)}
theorem Jf {st:SortSt}{i j:Nat}{Q:Option Bool→SortSt→Prop} (hB:SG a₀ p st) (h0:IntKeys a₀) (hi:i<a₀.size) (hj:j<a₀.size)
  (h:K (arrOf st) i<K (arrOf st) j→Q (some true) st) (h':¬K (arrOf st) i<K (arrOf st) j→Q (some false) st):wpS (model prog w) A E s (ltAt' i j) Q st:=by
 obtain⟨x,hx,kx1⟩:=xR (hB.ik h0) (show i<(arrOf st).size by rw [hB.size];exact hi)
 obtain⟨y,hy,kx2⟩:=xR (hB.ik h0) (show j<(arrOf st).size by rw [hB.size];exact hj)
 rw [ltAt'_eq]
 refine wpS_bind (wpS_get ?_)
 rw [zcK (zcI hx),zcK (zcI hy)] at h h'
 exact wpS_bind (zR hx (wpS_bind (zR hy (zaU hB.kind kx1 kx2 h h'))))
theorem Xv {st:SortSt}{i j:Nat}{Q:Unit→SortSt→Prop} (hB:SG a₀ p st) (h:∀st',SG a₀ p st'→arrOf st'=mirror (arrOf st) i j ((j-i) / 2)→Q () st'):wpS (model prog w) A E s (reverseSlice' i j) Q st:=wpS_reverse (h _ (hB.arr (mirror_perm _ _ _ _)) rfl)
theorem Ql.snoc {xs:Array Keyed}{lo x:Nat} (h:Ql xs lo x) (h1:K xs (lo+x)≤K xs (lo+x-1)):Ql xs lo (x+1):=fun i j hi hij hj=>by
 by_cases hjx:j<lo+x
 ·exact h i j hi hij hjx
 ·rw [show j=lo+x by omega]
  by_cases hi':i=lo+x
  ·subst hi';exact Int.le_refl _
  ·exact Int.le_trans h1 (h i (lo+x-1) hi (by omega) (by omega))
theorem WX {st:SortSt}{lo nrem:Nat}{Q:Option Nat→SortSt→Prop} (h0:IntKeys a₀) (hn:lo+nrem≤a₀.size) (h1:1≤nrem) (hB:SG a₀ p st)
  (h:∀m st',SG a₀ p st'→1≤m→m≤nrem→zE (arrOf st') lo (lo+m)→V7 (arrOf st) (arrOf st') lo (lo+nrem)→Q (some m) st') :
  wpS (model prog w) A E s (countRun' lo nrem) Q st:=by
 have asc:∀{xs:Array Keyed}{x:Nat},1≤x→zE xs lo (lo+x)→¬K xs (lo+x)<K xs (lo+x-1)→zE xs lo (lo+(x+1)):=by
  intro xs x hx hs hl i j hi hij hj
  by_cases hjx:j<lo+x
  ·exact hs i j hi hij hjx
  ·have hj':j=lo+x:=by omega
   subst hj'
   by_cases hi':i=lo+x
   ·subst hi';exact Int.le_refl _
   ·exact Int.le_trans (hs i (lo+x-1) hi (by omega) (by omega)) (Int.not_lt.mp hl)
 rw [countRun'_eq]
 refine wpS_bind (wpS_mono (wpS_forRange (I:=fun x c st'=>st'=st∧c=(none,x)∧zE (arrOf st) lo (lo+x))
  (Q:=fun c st'=>st'=st∧∃n,c=(none,n)∧1≤n∧n≤nrem∧zE (arrOf st) lo (lo+n)∧(n=nrem∨K (arrOf st) (lo+n)<K (arrOf st) (lo+n-1))) ?s1 ?f1 ⟨rfl,rfl,fun i j hi hij hj=>by rw [show i=j by omega];exact Int.le_refl _⟩) ?p1)
 case f1=>
  rintro c st' ⟨rfl,rfl,hs⟩
  rw [show max 1 nrem=nrem by omega] at hs ⊢
  exact⟨rfl,_,rfl,h1,Nat.le_refl _,hs,.inl rfl⟩
 case s1=>
  rintro x c st' hax hxn ⟨rfl,rfl,hs⟩
  dsimp only
  refine wpS_bind (Jf hB h0 (by omega) (by omega) (fun hl=>?_) fun hl=>?_)
  ·exact wpS_pure ⟨rfl,_,rfl,hax,by omega,hs,.inr hl⟩
  ·exact wpS_pure ⟨rfl,rfl,asc hax hs hl⟩
 case p1=>
  rintro c st' ⟨rfl,n,rfl,n1,n2,hs,hor⟩
  dsimp only
  by_cases hnn:n=nrem
  ·rw [if_pos (by simpa using hnn)]
   exact wpS_pure (h n st' hB n1 n2 hs (fun _ _=>rfl))
  rw [if_neg (by simpa using hnn)]
  have hlt:=hor.resolve_left hnn
  have sz:=hB.size
  obtain⟨xs0,hx0⟩:∃xs0,xs0=arrOf st':=⟨_,rfl⟩
  rw [← hx0] at h
  have hn1:n+1≤nrem:=by omega
  by_cases hgt:n > 1
  case' neg=>
   rw [if_neg hgt]
   have n1':n=1:=by omega
   have B2:SG a₀ p st':=hB
   have O2:V7 xs0 (arrOf st') lo (lo+nrem):=fun _ _=>by rw [hx0]
   have NI:Ql (arrOf st') lo (n+1):=Ql.snoc (fun i j hi hij hj=>by rw [show i=j by omega];exact Int.le_refl _) (Int.le_of_lt hlt)
   generalize st'=st2 at B2 O2 NI ⊢
  case' pos=>
   rw [if_pos hgt]
   refine wpS_bind (Jf hB h0 (by omega) (by omega) (fun hr=>?_) fun hr=>?_)
   ·exact wpS_pure (h n st' hB n1 n2 hs (fun _ _=>by rw [hx0]))
   have hall:∀k,lo≤k→k<lo+n→K (arrOf st') k=K (arrOf st') (lo+n-1):=fun k k1 k2=>by
    have a1:=hs lo k (Nat.le_refl _) k1 k2
    have a2:=hs k (lo+n-1) k1 (by omega) (by omega)
    omega
   refine wpS_bind (Xv hB fun st2 B2 e2=>?_)
   have hKm:=K_mirror_equal (xs:=arrOf st') (i:=lo) (j:=lo+n) (by omega) hall
   rw [← e2] at hKm
   have O2:V7 xs0 (arrOf st2) lo (lo+nrem):=fun k _=>by rw [hx0];exact hKm k
   have NI:Ql (arrOf st2) lo (n+1):=Ql.snoc (fun i j hi hij hj=>by rw [hKm,hKm,hall i hi (by omega),hall j (by omega) hj];exact Int.le_refl _) (by rw [hKm,hKm];exact Int.le_of_lt hlt)
  all_goals
   clear hB hs hor hlt sz hx0
   refine wpS_bind (wpS_lift (wpAny_rule ⟨rfl,?_⟩))
   refine wpS_bind (wpS_mono (wpS_forRange (I:=fun x c st3=>∃neq,c=(none,x,neq)∧SG a₀ p st3∧V7 xs0 (arrOf st3) lo (lo+nrem)∧Ql (arrOf st3) lo x∧neq+1≤x∧(∀i,lo+x-(neq+1)≤i→i<lo+x→K (arrOf st3) i=K (arrOf st3) (lo+x-1)))
    (Q:=fun c st3=>∃m neq,c=(none,m,neq)∧n+1≤m∧m≤nrem∧SG a₀ p st3∧V7 xs0 (arrOf st3) lo (lo+nrem)∧Ql (arrOf st3) lo m∧neq+1≤m∧(∀i,lo+m-(neq+1)≤i→i<lo+m→K (arrOf st3) i=K (arrOf st3) (lo+m-1))) ?_ ?_ ⟨0,rfl,B2,O2,NI,by omega,fun i z1 z2=>by rw [show i=lo+(n+1)-1 by omega]⟩) ?_)
   ·rintro x c st3 hax hxn ⟨neq,rfl,B3,O3,N3,q3,e3⟩
    dsimp only
    have sz3:=B3.size
    refine wpS_bind (Jf B3 h0 (by omega) (by omega) (fun hl=>?_) fun hl=>?_)
    ·have step1:∀xs:Array Keyed,(∀k,K xs k=K (arrOf st3) k)→Ql xs lo (x+1):=fun xs hk=>Ql.snoc (fun i j a b c=>by rw [hk,hk];exact N3 i j a b c) (by rw [hk,hk];exact Int.le_of_lt hl)
     by_cases hq:neq > 0
     ·rw [if_pos hq]
      have hKm:=K_mirror_equal (xs:=arrOf st3) (i:=lo+x-(neq+1)) (j:=lo+x) (by omega) e3
      exact wpS_bind (Xv B3 fun st4 B4 e4=>wpS_pure (by rw [← e4] at hKm;exact⟨0,rfl,B4,fun k hk=>(hKm k).trans (O3 k hk),step1 _ hKm,by omega,fun i z1 z2=>by rw [show i=lo+(x+1)-1 by omega]⟩))
     ·rw [if_neg hq]
      exact wpS_pure ⟨0,rfl,B3,O3,step1 _ (fun _=>rfl),by omega,fun i z1 z2=>by rw [show i=lo+(x+1)-1 by omega]⟩
    ·refine wpS_bind (Jf B3 h0 (by omega) (by omega) (fun hg=>?_) fun hg=>?_)
     ·exact wpS_pure ⟨_,_,rfl,hax,by omega,B3,O3,N3,q3,e3⟩
     ·have heq:K (arrOf st3) (lo+x)=K (arrOf st3) (lo+x-1):=by omega
      refine wpS_pure ⟨neq+1,rfl,B3,O3,N3.snoc (by omega),by omega,fun i z1 z2=>?_⟩
      rw [show lo+(x+1)-1=lo+x by omega]
      by_cases hix:i=lo+x
      ·subst hix;rfl
      ·rw [heq];exact e3 i (by omega) (by omega)
   ·rintro c st3 ⟨neq,rfl,B3,O3,N3,q3,e3⟩
    rw [show max (n+1) nrem=nrem by omega] at N3 q3 e3 ⊢
    exact⟨_,_,rfl,hn1,Nat.le_refl _,B3,O3,N3,q3,e3⟩
   ·rintro c st3 ⟨m,neq,rfl,hm1,hm2,B3,O3,N3,q3,e3⟩
    dsimp only
    have sz3:=B3.size
    by_cases hq:neq > 0
    case' pos=>
     rw [if_pos hq]
     refine wpS_bind (Xv B3 fun st4 B4 e4=>?_)
     have hKm:=K_mirror_equal (xs:=arrOf st3) (i:=lo+m-(neq+1)) (j:=lo+m) (by omega) e3
     rw [← e4] at hKm
     have O4:V7 xs0 (arrOf st4) lo (lo+nrem):=fun k hk=>(hKm k).trans (O3 k hk)
     have N4:Ql (arrOf st4) lo m:=fun i j hi hij hj=>by
      rw [hKm,hKm]
      exact N3 i j hi hij hj
     clear e4 hKm
    case' neg=>
     rw [if_neg hq]
     have B4:=B3
     have O4:=O3
     have N4:=N3
     generalize st3=st4 at B4 O4 N4 ⊢
    all_goals
     have sz4:=B4.size
     refine wpS_bind (Xv B4 fun st5 B5 e5=>?_)
     have hKr:∀k,K (arrOf st5) k=if lo≤k∧k<lo+m then K (arrOf st4) (lo+(lo+m)-1-k) else K (arrOf st4) k:=fun k=>by rw [e5];exact K_mirror (by omega) k
     have O5:V7 xs0 (arrOf st5) lo (lo+nrem):=fun k hk=>by
      rw [hKr,if_neg (by omega)]
      exact O4 k hk
     have S5:zE (arrOf st5) lo (lo+m):=fun i j hi hij hj=>by
      rw [hKr,hKr,if_pos (by omega),if_pos (by omega)]
      exact N4 _ _ (by omega) (by omega) (by omega)
     refine wpS_bind (wpS_mono (wpS_forRange (I:=fun x c st'=>st'=st5∧c=(none,x)∧zE (arrOf st5) lo (lo+x))
      (Q:=fun c st'=>st'=st5∧∃n,c=(none,n)∧1≤n∧n≤nrem∧zE (arrOf st5) lo (lo+n)) ?_ ?_ ⟨rfl,rfl,S5⟩) ?_)
     ·rintro x c st' hax hxn ⟨rfl,rfl,hs⟩
      dsimp only
      refine wpS_bind (Jf B5 h0 (by omega) (by omega) (fun hl=>?_) fun hl=>?_)
      ·exact wpS_pure ⟨rfl,_,rfl,by omega,by omega,hs⟩
      ·exact wpS_pure ⟨rfl,rfl,asc (by omega) hs hl⟩
     ·rintro c st' ⟨rfl,rfl,hs⟩
      rw [show max m nrem=nrem by omega] at hs ⊢
      exact⟨rfl,_,rfl,h1,Nat.le_refl _,hs⟩
     ·rintro c st' ⟨rfl,n5,rfl,z1,z2,hs⟩
      exact wpS_pure (h n5 st' B5 z1 z2 hs O5)
end
noncomputable def Runs (xs:Array Keyed):List (Nat×Nat×Nat)→Nat→Nat→Prop
 | [],a,b=>a=b
 | (s,n,_)::r,a,b=>s=a∧1≤n∧zE xs s (s+n)∧Runs xs r (s+n) b
theorem Runs.le {xs:Array Keyed}:∀{l:List (Nat×Nat×Nat)}{a b:Nat},Runs xs l a b→a+l.length≤b
 | [],a,b,h=>by cases h;simp
 | (s,n,_)::r,a,b,⟨h1,h2,_,h4⟩=>by
  have:=Runs.le h4
  rw [List.length_cons]
  omega
theorem zE.congr {xs ys:Array Keyed}{lo hi:Nat} (h:zE xs lo hi) (e:∀k,lo≤k→k<hi→K ys k=K xs k):zE ys lo hi:=fun i j hi' hij hj=>by
 rw [e i hi' (by omega),e j (by omega) hj]
 exact h i j hi' hij hj
theorem Runs.congr {xs ys:Array Keyed}:∀{l:List (Nat×Nat×Nat)}{a b:Nat},Runs xs l a b→(∀k,a≤k→k<b→K ys k=K xs k)→Runs ys l a b
 | [],_,_,h,_=>h
 | (s,n,_)::r,a,b,⟨h1,h2,h3,h4⟩,e=>by
  have:=h4.le
  exact⟨h1,h2,h3.congr fun k k1 k2=>e k (by omega) (by omega),Runs.congr h4 fun k k1 k2=>e k (by omega) k2⟩
theorem Runs.snoc {xs:Array Keyed}{q n:Nat}:∀{l:List (Nat×Nat×Nat)}{a b:Nat},Runs xs l a b→1≤n→zE xs b (b+n)→Runs xs (l++[(b,n,q)]) a (b+n)
 | [],a,b,h,h1,h2=>by cases h;exact⟨rfl,h1,h2,rfl⟩
 | (s,m,_)::r,a,b,⟨g1,g2,g3,g4⟩,h1,h2=>⟨g1,g2,g3,Runs.snoc g4 h1 h2⟩
theorem Runs.pow {xs:Array Keyed}{q:Nat}:∀{l:List (Nat×Nat×Nat)}{a b:Nat} (k:Nat),Runs xs l a b→Runs xs (l.modify k fun x=>(x.1,x.2.1,q)) a b
 | [],_,_,_,h=>by simpa using h
 | (s,m,z)::r,a,b,0,⟨g1,g2,g3,g4⟩=>by
  rw [List.modify_zero_cons]
  exact⟨g1,g2,g3,g4⟩
 | (s,m,z)::r,a,b,k+1,⟨g1,g2,g3,g4⟩=>by
  rw [List.modify_succ_cons]
  exact⟨g1,g2,g3,Runs.pow k g4⟩
theorem Runs.at {xs:Array Keyed}:∀{l:List (Nat×Nat×Nat)}{a b:Nat}{j:Nat},Runs xs l a b→j+1<l.length→∃s n pw m pw2,l[j]?=some (s,n,pw)∧l[j+1]?=some (s+n,m,pw2)∧1≤n∧1≤m∧a≤s∧s+n+m≤b∧zE xs s (s+n)∧zE xs (s+n) (s+n+m)∧∀ys:Array Keyed,V7 xs ys s (s+n+m)→zE ys s (s+n+m)→Runs ys ((l.set j (s,n+m,pw)).eraseIdx (j+1)) a b
 | [],_,_,_,_,h=>by simp at h
 | [_],_,_,j,_,h=>by simp at h
 | (s,n,pw)::(s2,m,pw2)::r,a,b,0,⟨g1,g2,g3,g4,g5,g6,g7⟩,_=>by
  subst g4
  have:=g7.le
  refine⟨s,n,pw,m,pw2,rfl,rfl,g2,g5,by omega,by omega,g3,g6,fun ys hy hs=>?_⟩
  show Runs ys ((s,n+m,pw)::r) a b
  refine⟨g1,by omega,by rw [show s+(n+m)=s+n+m by omega];exact hs,?_⟩
  rw [show s+(n+m)=s+n+m by omega]
  exact g7.congr fun k k1 k2=>hy k (.inr k1)
 | (s0,n0,p0)::y::r,a,b,j+1,⟨g1,g2,g3,g4⟩,hj=>by
  obtain⟨s,n,pw,m,pw2,e1,e2,h1,h2,h3,h4,h5,h6,h7⟩:=Runs.at (j:=j) g4 (by simpa using hj)
  refine⟨s,n,pw,m,pw2,by simpa using e1,by simpa using e2,h1,h2,by omega,h4,h5,h6,fun ys hy hs=>?_⟩
  have:=h7 ys hy hs
  show Runs ys ((s0,n0,p0)::(((y::r).set j (s,n+m,pw)).eraseIdx (j+1))) a b
  exact⟨g1,g2,g3.congr fun k k1 k2=>hy k (.inl (by omega)),this⟩
section
variable {prog:Program}{w:World}{A:Around}{E:Value→Shared→Prop}{s:Shared}{a₀:Array Keyed}{p:Array (Nat×Nat×Nat)}
theorem V8 {st:SortSt}{lo n ok:Nat}{Q:Bool→SortSt→Prop} (h0:IntKeys a₀) (hn:lo+n≤a₀.size) (hok:ok≤n) (hB:SG a₀ p st) (hs:zE (arrOf st) lo (lo+ok))
  (h:∀st',SG a₀ p st'→zE (arrOf st') lo (lo+n)→V7 (arrOf st) (arrOf st') lo (lo+n)→Q true st'):wpS (model prog w) A E s (binarySort' lo n ok) Q st:=by
 rw [binarySort'_eq]
 obtain⟨xs0,hx0⟩:∃xs0,xs0=arrOf st:=⟨_,rfl⟩
 rw [← hx0] at h
 refine wpS_bind (wpS_mono (wpS_forRange (I:=fun k c st'=>c=(none,())∧SG a₀ p st'∧V7 xs0 (arrOf st') lo (lo+n)∧zE (arrOf st') lo (lo+min k n))
  (Q:=fun c st'=>c=(none,())∧SG a₀ p st'∧V7 xs0 (arrOf st') lo (lo+n)∧zE (arrOf st') lo (lo+n)) ?step ?fin ?init) ?post)
 case post=>
  rintro c st' ⟨rfl,hB',hO,hs'⟩
  exact wpS_pure (h st' hB' hs' hO)
 case init=>
  refine⟨rfl,hB,fun _ _=>by rw [hx0],fun i j hi hij hj=>?_⟩
  by_cases e:ok=0
  ·rw [show i=j by omega];exact Int.le_refl _
  ·exact hs i j hi hij (by omega)
 case fin=>
  rintro c st' ⟨hc,hB',hO,hs'⟩
  refine⟨hc,hB',hO,?_⟩
  rwa [show min (max (max ok 1) n) n=n by omega] at hs'
 case step=>
  rintro k c st' hak hkn ⟨rfl,hB',hO,hs'⟩
  rw [show min k n=k by omega] at hs'
  have sz:=hB'.size
  refine wpS_bind (wpS_mono (wpS_forRange (I:=fun x c st''=>st''=st'∧∃l r,c=(none,l,r)∧l≤r∧r≤k∧r-l≤k-x ∧
    (∀i,i<l→K (arrOf st') (lo+i)≤K (arrOf st') (lo+k))∧(∀i,r≤i→i<k→K (arrOf st') (lo+k)<K (arrOf st') (lo+i)))
   (Q:=fun c st''=>st''=st'∧∃l r,c=(none,l,r)∧l≤k ∧
    (∀i,i<l→K (arrOf st') (lo+i)≤K (arrOf st') (lo+k))∧(∀i,l≤i→i<k→K (arrOf st') (lo+k)<K (arrOf st') (lo+i))) ?istep ?ifin ?iinit) ?ipost)
  case iinit=>exact⟨rfl,0,k,rfl,by omega,by omega,by omega,fun i hi=>by omega,fun i h1 h2=>by omega⟩
  case ifin=>
   rintro c st'' ⟨rfl,l,r,rfl,hlr,hrk,hm,hlo,hhi⟩
   have:l=r:=by omega
   subst this
   exact⟨rfl,l,l,rfl,hrk,hlo,hhi⟩
  case istep=>
   rintro x c st'' _ hxk ⟨rfl,l,r,rfl,hlr,hrk,hm,hlo,hhi⟩
   dsimp only
   by_cases hge:l ≥ r
   ·rw [if_pos hge]
    have:l=r:=by omega
    subst this
    exact wpS_pure ⟨rfl,l,l,rfl,hrk,hlo,hhi⟩
   ·rw [if_neg hge]
    refine wpS_bind (Jf hB' h0 (by omega) (by omega) (fun hl=>?_) fun hl=>?_)
    ·refine wpS_pure ⟨rfl,l,(l+r) / 2,rfl,by omega,by omega,by omega,hlo,fun i h1 h2=>?_⟩
     exact Int.lt_of_lt_of_le hl (hs' _ _ (by omega) (by omega) (by omega))
    ·refine wpS_pure ⟨rfl,(l+r) / 2+1,r,rfl,by omega,by omega,by omega,fun i h1=>?_,hhi⟩
     exact Int.le_trans (hs' (lo+i) (lo+(l+r) / 2) (by omega) (by omega) (by omega)) (Int.not_lt.mp hl)
  case ipost=>
   rintro c st'' ⟨rfl,l,r,rfl,hlk,hlo,hhi⟩
   show wpS _ _ _ _ (do moveDown' (lo+k) (lo+l);pure (ForInStep.yield (none,()))) _ _
   rw [moveDown'_eq]
   have kB:∀j,K (bubble (arrOf st'') (lo+k) (lo+k-(lo+l))) j=if j=lo+k-(lo+k-(lo+l)) then K (arrOf st'') (lo+k) else if lo+k-(lo+k-(lo+l))<j∧j≤lo+k then K (arrOf st'') (j-1) else K (arrOf st'') j:=fun j=>K_bubble (by omega) (by omega) j
   rw [show lo+k-(lo+k-(lo+l))=lo+l by omega] at kB
   refine wpS_bind (wpS_modify (wpS_pure ⟨rfl,hB'.arr (bubble_perm _ _ _),fun j hj=>?_,?_⟩))
   ·refine Eq.trans ?_ (hO j hj)
    show K (bubble _ _ _) j=_
    rw [kB,if_neg (by omega),if_neg (by omega)]
   ·rw [show min (k+1) n=k+1 by omega]
    intro i j hi hij hj
    show K (bubble _ _ _) i≤K (bubble _ _ _) j
    rw [kB,kB]
    by_cases i1:i=lo+l
    ·rw [if_pos i1]
     by_cases j1:j=lo+l
     ·rw [if_pos j1];exact Int.le_refl _
     ·rw [if_neg j1,if_pos (by omega)]
      have:=hhi (j-1-lo) (by omega) (by omega)
      rw [show lo+(j-1-lo)=j-1 by omega] at this
      exact Int.le_of_lt this
    ·rw [if_neg i1]
     by_cases i2:lo+l<i
     ·rw [if_pos (by omega),if_neg (by omega),if_pos (by omega)]
      exact hs' _ _ (by omega) (by omega) (by omega)
     ·rw [if_neg (by omega)]
      by_cases j1:j=lo+l
      ·rw [if_pos j1]
       have:=hlo (i-lo) (by omega)
       rw [show lo+(i-lo)=i by omega] at this
       exact this
      ·rw [if_neg j1]
       by_cases j2:lo+l<j
       ·rw [if_pos (by omega)]
        exact hs' _ _ (by omega) (by omega) (by omega)
       ·rw [if_neg (by omega)]
        exact hs' _ _ (by omega) (by omega) (by omega)
end
section
variable {prog:Program}{w:World}{A:Around}{E:Value→Shared→Prop}{s:Shared}{a₀:Array Keyed}
structure SR (a₀:Array Keyed) (st:SortSt) (lo:Nat):Prop where
 perm:(arrOf st).Perm a₀
 kind:kindOf st=oneType'
 fail:failedOf st=none
 runs:Runs (arrOf st) (pendingOf st).toList 0 lo
 le:lo≤a₀.size
theorem SR.sg {st:SortSt}{lo:Nat} (h:SR a₀ st lo):SG a₀ (pendingOf st) st:=⟨h.perm,h.kind,h.fail,rfl⟩
theorem SR.len {st:SortSt}{lo:Nat} (h:SR a₀ st lo):(pendingOf st).size≤lo:=by
 have:=h.runs.le
 rw [Array.length_toList] at this
 omega
theorem Wa {st:SortSt}{lo j hi:Nat}{Q:Bool→SortSt→Prop} (h0:IntKeys a₀) (hB:SR a₀ st lo) (hj:j+1<(pendingOf st).size) (hS:zE (arrOf st) lo hi)
  (h:∀st',SR a₀ st' lo→(pendingOf st').size+1=(pendingOf st).size→zE (arrOf st') lo hi→Q true st'):wpS (model prog w) A E s (mergeAt' j) Q st:=by
 obtain⟨sa,na,pw,nb,pw2,e1,e2,n1,n2,_,g4,g5,g6,g7⟩:=Runs.at (j:=j) hB.runs (by rw [Array.length_toList];exact hj)
 rw [Array.getElem?_toList] at e1 e2
 have sz:(arrOf st).size=a₀.size:=hB.perm.size_eq
 have hle:=hB.le
 refine zbX hB.kind hB.fail (hB.sg.ik h0) e1 e2 n1 n2 (by omega) g5 g6 fun st' k' f' p' o' s' pd'=>?_
 refine h st' ⟨p'.trans hB.perm,k',f',?_,hB.le⟩ ?_ (hS.congr fun k k1 k2=>o' k (.inr (by omega)))
 ·have:=g7 (arrOf st') o' s'
  rw [pd',Array.toList_eraseIdxIfInBounds,Array.toList_setIfInBounds]
  exact this
 ·have e:(pendingOf st').toList=((pendingOf st).toList.set j (sa,na+nb,pw)).eraseIdx (j+1):=by rw [pd',Array.toList_eraseIdxIfInBounds,Array.toList_setIfInBounds]
  have:=congrArg List.length e
  rw [Array.length_toList,List.length_eraseIdx,List.length_set,Array.length_toList,if_pos hj] at this
  omega
theorem WY {st:SortSt}{Q:Unit→SortSt→Prop} (h0:IntKeys a₀) (hB:SBase a₀ st) (h2:2≤a₀.size)
  (h:∀st',(arrOf st').Perm a₀→failedOf st'=none→SortedTo (arrOf st') a₀.size→Q () st'):wpS (model prog w) A E s sortRuns' Q st:=by
 have B0:SR a₀ st 0:=⟨hB.perm,hB.kind,hB.failed,by rw [hB.pend];rfl,Nat.zero_le _⟩
 rw [sortRuns'_eq]
 refine wpS_bind (wpS_get ?_)
 dsimp only
 simp only [hB.size]
 generalize minRun' a₀.size a₀.size 0=mr
 refine wpS_bind (wpS_mono (wpS_forRange (I:=fun x c st'=>∃lo,c=(none,lo)∧SR a₀ st' lo∧x≤lo)
  (Q:=fun c st'=>c=(none,a₀.size)∧SR a₀ st' a₀.size) ?step ?fin ⟨0,rfl,B0,Nat.le_refl _⟩) ?post)
 case fin=>
  rintro c st' ⟨lo,rfl,B,hx⟩
  have:=B.le
  have e:lo=a₀.size:=by omega
  subst e
  exact⟨rfl,B⟩
 case step=>
  rintro x c st1 _ hx ⟨lo,rfl,B,hxl⟩
  dsimp only
  have hle:=B.le
  by_cases hge:lo ≥ a₀.size
  ·rw [if_pos hge]
   have e:lo=a₀.size:=by omega
   subst e
   exact wpS_pure ⟨rfl,B⟩
  rw [if_neg hge]
  refine wpS_bind (WX h0 (by omega) (by omega) B.sg fun m st2 B2 m1 m2 S2 O2=>?_)
  dsimp only
  have R2:SR a₀ st2 lo:=⟨B2.perm,B2.kind,B2.fail,by rw [B2.pend];exact B.runs.congr fun k _ k2=>O2 k (.inl k2),hle⟩
  by_cases hlt:m<mr
  case' pos=>
   rw [if_pos hlt]
   refine wpS_bind (wpS_lift (wpAny_rule ⟨rfl,?_⟩))
   refine wpS_bind (V8 h0 (by omega) (by omega) R2.sg S2 fun st3 B3 S3 O3=>?_)
   simp only [Bool.not_true,Bool.false_eq_true,if_false]
   have R3:SR a₀ st3 lo:=⟨B3.perm,B3.kind,B3.fail,by rw [B3.pend];exact R2.runs.congr fun k _ k2=>O3 k (.inl k2),hle⟩
   have n1:1≤min (a₀.size-lo) mr:=by omega
   have n2:lo+min (a₀.size-lo) mr≤a₀.size:=by omega
   generalize min (a₀.size-lo) mr=n at S3 n1 n2 ⊢
  case' neg=>
   rw [if_neg hlt]
   have R3:=R2
   have S3:=S2
   have n1:=m1
   have n2:lo+m≤a₀.size:=by omega
   generalize st2=st3 at R3 S3 ⊢
   generalize m=n at S3 n1 n2 ⊢
  all_goals
   refine wpS_bind (wpS_get ?_)
   have push:∀st4:SortSt,SR a₀ st4 lo→zE (arrOf st4) lo (lo+n)→SR a₀ (setPending st4 ((pendingOf st4).push (lo,n,0))) (lo+n):=fun st4 R4 S4=>
    ⟨R4.perm,R4.kind,R4.fail,by show Runs (arrOf st4) ((pendingOf st4).push _).toList 0 _;rw [Array.toList_push];exact R4.runs.snoc n1 S4,n2⟩
   cases hbk:(pendingOf st3).back? with
   | none=>
    dsimp only
    exact wpS_bind (wpS_modify (wpS_pure ⟨_,rfl,push st3 R3 S3,by omega⟩))
   | some t=>
    obtain⟨s1,q1,z1⟩:=t
    dsimp only
    generalize power' a₀.size (2*s1+q1) (2*s1+q1+q1+n) a₀.size=pw
    refine wpS_bind (wpS_mono (wpS_forRange (I:=fun _ c st4=>c=(none,())∧SR a₀ st4 lo∧zE (arrOf st4) lo (lo+n))
     (Q:=fun c st4=>c=(none,())∧SR a₀ st4 lo∧zE (arrOf st4) lo (lo+n)) ?_ (fun _ _ y=>y) ⟨rfl,R3,S3⟩) ?_)
    ·rintro y c st4 _ hy ⟨rfl,R4,S4⟩
     refine wpS_bind (wpS_get ?_)
     by_cases hp:(pendingOf st4).size > 1
     ·rw [if_pos hp]
      cases hq:(pendingOf st4)[(pendingOf st4).size-2]? with
      | none=>
       dsimp only
       exact wpS_pure ⟨rfl,R4,S4⟩
      | some u=>
       obtain⟨u1,u2,older⟩:=u
       dsimp only
       by_cases ho:older≤pw
       ·rw [if_pos ho]
        exact wpS_pure ⟨rfl,R4,S4⟩
       ·rw [if_neg ho]
        refine wpS_bind (Wa h0 R4 (by omega) S4 fun st5 R5 _ S5=>?_)
        simp only [Bool.not_true,Bool.false_eq_true,if_false]
        exact wpS_pure ⟨rfl,R5,S5⟩
     ·rw [if_neg hp]
      dsimp only
      exact wpS_pure ⟨rfl,R4,S4⟩
    ·rintro c st4 ⟨rfl,R4,S4⟩
     dsimp only
     refine wpS_bind (wpS_modify ?_)
     have R5:SR a₀ (setPending st4 ((pendingOf st4).modify ((pendingOf st4).size-1) fun x=>(x.1,x.2.1,pw))) lo:=
      ⟨R4.perm,R4.kind,R4.fail,by show Runs (arrOf st4) ((pendingOf st4).modify _ _).toList 0 _;rw [Array.toList_modify];exact R4.runs.pow _,hle⟩
     exact wpS_bind (wpS_modify (wpS_pure ⟨_,rfl,push _ R5 S4,by omega⟩))
 case post=>
  rintro c st1 ⟨rfl,R1⟩
  dsimp only
  refine wpS_bind (wpS_mono (wpS_forRange (I:=fun x c st2=>c=(none,())∧SR a₀ st2 a₀.size∧(pendingOf st2).size≤max 1 (a₀.size-x))
   (Q:=fun c st2=>c=(none,())∧SR a₀ st2 a₀.size∧(pendingOf st2).size≤1) ?_ ?_ ⟨rfl,R1,by have:=R1.len;omega⟩) ?_)
  ·rintro x c st2 _ hx ⟨rfl,R2,p2⟩
   refine wpS_bind (wpS_get ?_)
   by_cases hp:(pendingOf st2).size≤1
   ·rw [if_pos hp]
    exact wpS_pure ⟨rfl,R2,hp⟩
   rw [if_neg hp]
   try dsimp only
   have hS:zE (arrOf st2) a₀.size a₀.size:=fun i j a b c=>by omega
   split
   all_goals
    refine wpS_bind (Wa h0 R2 (by split <;> omega) hS fun st3 R3 l3 _=>?_)
    simp only [Bool.not_true,Bool.false_eq_true,if_false]
    exact wpS_pure ⟨rfl,R3,by omega⟩
  ·rintro c st2 ⟨rfl,R2,p2⟩
   exact⟨rfl,R2,by omega⟩
  ·rintro c st2 ⟨rfl,R2,p2⟩
   refine wpS_pure (h st2 R2.perm R2.fail ?_)
   have hr:=R2.runs
   match hl:(pendingOf st2).toList,hr with
   | [],hr=>
    have:(0:Nat)=a₀.size:=hr
    omega
   | [(s1,n1,_)],⟨g1,g2,g3,g4⟩=>
    have e:s1+n1=a₀.size:=g4
    subst g1
    intro i j hij hj
    exact g3 i j (Nat.zero_le _) hij (by omega)
   | _::_::_,_=>
    have:(pendingOf st2).toList.length≤1:=by rw [Array.length_toList];exact p2
    rw [hl] at this
    simp at this
end
section
variable {prog:Program}{w:World}{A:Around}{E:Value→Shared→Prop}{s:Shared}
theorem zg1 {α:Type}:∀{l:List α},¬l.length<2→∃x y r,l=x::y::r
 | [],h=>absurd (by decide:(0:Nat)<2) h
 | [_],h=>absurd (by decide:(1:Nat)<2) h
 | x::y::r,_=>⟨x,y,r,rfl⟩
theorem zcL {a:Addr}{vs:List Value}{ns:List Int}{n:Nat}{P:Fin→Shared→Prop} (ho:s.heap.get? a=some (seqObj "list" vs.toArray n)) (hI:IntsAre vs ns) (hz:vs.length≤sizeLine)
  (h:∀(o:Array Value) (ms:List Int),IntsAre o.toList ms→ms.Perm ns→ms.Pairwise (·≤·)→P (.done (.ret .none)) { s with heap:=sortedHeap s.heap a vs o }) :
  wpAny (model prog w) A (Builtin.«list.sort» ⟨[.ref a],[]⟩) P E s:=by
 have ha:a<s.heap.objs.size:=Heap.lt_size ho
 obtain⟨e1,ho1⟩:∃e1,(s.heap.update a (Obj.mapSeq fun _=>(#[]:Array Value))).get? a=some (seqObj "list" #[] e1):=⟨_,get?_update_seq ho fun _=>#[]⟩
 rw [list_sort_plain]
 refine wpAny_bind (listItems_at ho rfl ?_)
 refine wpAny_bind (listUpdate_at ho rfl ?_ (by rw [List.size_toArray];exact hz) (Nat.zero_le _))
 refine wpAny_bind (seqEpoch_at ho1 rfl ?_)
 refine wpAny_bind (wpAny_newTuple ?_ (by show vs.length≤_;exact hz))
 refine wpAny_bind (wpAny_newList ?_ (Nat.zero_le _))
 refine wpAny_holding ?_
 show wpAny (model prog w) A _ P E { s with heap:=((s.heap.update a (Obj.mapSeq fun _=>(#[]:Array Value))).push (seqObj "tuple" vs.toArray 0)).push (seqObj "list" #[] 0) }
 dsimp only
 have ho6:(((s.heap.update a (Obj.mapSeq fun _=>(#[]:Array Value))).push (seqObj "tuple" vs.toArray 0)).push (seqObj "list" #[] 0)).get? a=some (seqObj "list" #[] e1):=Heap.get?_push_of_some _ (Heap.get?_push_of_some _ ho1)
 have fin:∀c:Array Keyed,c.Perm (pairsOf vs)→SortedTo c (pairsOf vs).size→P (.done (.ret .none)) { s with heap:=sortedHeap s.heap a vs (c.map (·.2)) }:=fun c hp hs=>by
  obtain⟨ms,h1,h2,h3⟩:=sorted_out hI hp hs
  exact h _ ms h1 h2 h3
 by_cases h2:vs.toArray.size<2
 ·rw [if_pos h2,if_pos h2]
  refine wpAny_bind (wpAny_pure ?_)
  rw [StateT.run_pure]
  refine wpAny_bind (wpAny_pure ?_)
  dsimp only
  refine wpAny_bind (seqEpoch_at ho6 rfl ?_)
  refine wpAny_bind (listUpdate_at ho6 rfl ?_ (Nat.zero_le _) (by rw [Array.size_map];show (pairsOf vs).size≤_;rw [pairsOf_size];exact Nat.le_succ_of_le hz))
  simp only [bne_self_eq_false,Bool.false_eq_true,if_false]
  rw [List.size_toArray] at h2
  refine wpAny_pure (fin (pairsOf vs) (Array.Perm.refl _) fun i j hij hj=>?_)
  rw [pairsOf_size] at hj
  rw [show i=j by omega]
  exact Int.le_refl _
 ·rw [if_neg h2,if_neg h2]
  rw [List.size_toArray] at h2
  have kk:keyKind' vs.toArray=pure oneType':=by
   obtain⟨x,y,r,rfl⟩:=zg1 h2
   exact keyKind_ints hI
  rw [kk]
  refine wpAny_bind (wpAny_pure ?_)
  refine wpAny_bind (wpAny_mono (WY (a₀:=pairsOf vs) (st:=SortSt.mk' oneType' (vs.toArray.zip vs.toArray) #[] 7 none)
   (Q:=fun _ st=>(arrOf st).Perm (pairsOf vs)∧failedOf st=none∧SortedTo (arrOf st) (pairsOf vs).size) hI.intKeys ⟨Array.Perm.refl _,rfl,rfl,rfl⟩ (by rw [pairsOf_size];omega) fun st c1 c2 c3=>⟨c1,c2,c3⟩) ?_ fun _ _ e=>e)
  rintro⟨⟨⟩,st⟩ s' ⟨rfl,hp,hf,hs⟩
  dsimp only
  refine wpAny_bind (seqEpoch_at ho6 rfl ?_)
  refine wpAny_bind (listUpdate_at ho6 rfl ?_ (Nat.zero_le _) (Nat.le_trans (Nat.le_of_eq ((Array.size_map ..).trans (hp.size_eq.trans (pairsOf_size _)))) (Nat.le_succ_of_le hz)))
  rw [hf]
  simp only [bne_self_eq_false,Bool.false_eq_true,if_false]
  exact wpAny_pure (fin (arrOf st) hp hs)
theorem sortedB {l:Addr}{vs:List Value}{ns:List Int}{Q:Value→Shared→Prop} (hl:s.heap.IsList l vs.toArray) (hI:IntsAre vs ns) (hz:vs.length≤sizeLine)
  (h:∀(o:Array Value) (ms:List Int),IntsAre o.toList ms→ms.Perm ns→ms.Pairwise (·≤·)→Q (.ref (s.heap.objs.size+1)) { s with heap:=sortedAll s.heap vs o }) :
  wpAny (model prog w) A (call (.builtin "sorted") [.ref l]) Q E s:=by
 refine Calls.call_function_entry kind_sorted plain_sorted entry_sorted (args_sorted1 _) ?_
 unfold Builtin.«sorted»
 refine wpAny_bind (m:=checkCount "sorted" 1 1 _) (wpAny_pure ?_)
 refine wpAny_bind (collect_list hl ?_ hz)
 refine wpAny_bind (wpAny_newList ?_ (by show vs.length≤_;exact hz))
 have hsz:((s.heap.push (seqObj "list" #[] 0)).update s.heap.objs.size (Obj.mapSeq (·++vs.toArray))).objs.size=s.heap.objs.size+1:=by
  rw [Heap.size_update,size_push']
 have hoL:(((s.heap.push (seqObj "list" #[] 0)).update s.heap.objs.size (Obj.mapSeq (·++vs.toArray))).push (seqObj "list" vs.toArray 0)).get? (s.heap.objs.size+1)=some (seqObj "list" vs.toArray 0):=by
  rw [← hsz];exact Heap.get?_push_size _ rfl
 show wpAny _ _ _ _ _ { s with heap:=((s.heap.push (seqObj "list" #[] 0)).update s.heap.objs.size (Obj.mapSeq (·++vs.toArray))).push (seqObj "list" vs.toArray 0) }
 rw [hsz]
 refine wpAny_bind (wpAny_holding (wpAny_call_entry slot_list_sort ⟨_,hoL,rfl⟩ entry_list_sort (zcL hoL hI hz fun o ms c1 c2 c3=>⟨_,rfl,?_⟩) (args_list_sort _)))
 exact wpAny_pure ⟨_,rfl,h o ms c1 c2 c3⟩
end
end SB
namespace L2
open PySem PyProof.Rows
section
variable {X:Cx}
theorem W0:CallR X (.builtin "sorted") (fun xs H Q=>∃(p:Addr) (ns:List Int),xs=[.ref p]∧SqL X.K H p (ns.map V.int)∧∀(l:Addr) (ms:List Int),H l=none→ms.Perm ns→ms.Pairwise (·≤·)→Q (.ref l) (upd H l (.lst (ms.map V.int)))):=by
 intro pins s σ H xs us Q I r h
 obtain⟨p,ns,rfl,hq,q⟩:=h
 obtain⟨u,rfl,ru⟩:=vals1 r
 cases ru
 obtain⟨vs,hl,hi,hz⟩:=I.ints hq
 refine SB.sortedB hl hi (by rw [hi.length];exact hz) fun out ms a1 a2 a3=>?_
 obtain⟨e,he⟩:=sortedAll_at s.heap vs out
 have new:ObjOk X.prog X.w (upd H (s.heap.objs.size+1) (.lst (ms.map V.int))) (sortedAll s.heap vs out) (s.heap.objs.size+1) (.lst (ms.map V.int)):=⟨by rw [List.length_map,a2.length_eq];exact hz,out.toList,e,vals_ints a1,by simpa [seqObj] using he⟩
 exact⟨.ref (s.heap.objs.size+1),_,I.laid (t':=s.toks) (fun _ _=>sortedAll_old) (Nat.le_succ _) new,rfl,q _ ms (I.hok.fresh (Nat.le_succ _)) a2 a3⟩
end
end L2
namespace Bw
open PySem L2
open Builtin.Int (intBits)
variable {P:Program}{w:World}{K:W.Frag}{mg:Str→Option Value}{base:Heap}
def top (i:Nat):Stmt:=PySem.Challenge.pw_bellwrite_k95_notes_at_the_desk.main.body.getD i (.Pass ⟨0,0,0,0⟩)
abbrev Zw:Stmt:=top 1
abbrev Vf:Stmt:=top 2
abbrev wG:Stmt:=top 3
abbrev xY:Stmt:=top 4
abbrev jY:Stmt:=top 5
abbrev Zx:Stmt:=top 16
abbrev wH:Stmt:=top 17
abbrev xZ:Stmt:=top 18
abbrev vd:Stmt:=top 19
abbrev qZ:Stmt:=top 20
abbrev vf:Stmt:=top 22
abbrev yX:Stmt:=top 23
abbrev Qv:Stmt:=top 25
abbrev jZ:Stmt:=top 27
abbrev qM:Stmt:=top 28
abbrev yq:Stmt:=top 29
abbrev Xw:Stmt:=top 30
abbrev yr:Stmt:=top 32
abbrev Wc:Stmt:=top 33
abbrev JK:Stmt:=top 34
abbrev qx:Stmt:=top 36
abbrev Xx:Stmt:=top 37
abbrev jJ:Stmt:=top 38
abbrev jK:Stmt:=top 43
abbrev yt:Stmt:=top 44
abbrev Qw:Stmt:=top 45
abbrev qy:Stmt:=top 46
abbrev Xy:Stmt:=top 47
abbrev wI:Stmt:=top 48
abbrev zY:Stmt:=top 49
abbrev j4:Stmt:=top 57
abbrev yu:Stmt:=top 58
abbrev j5:Stmt:=top 59
abbrev vg:Stmt:=top 60
abbrev yZ:Stmt:=top 61
abbrev wJ:Stmt:=top 62
abbrev wK:Stmt:=top 63
abbrev yw:Stmt:=top 64
abbrev j6:Stmt:=top 65
abbrev wL:Stmt:=top 69
abbrev j7:Stmt:=top 70
abbrev yx:Stmt:=top 71
abbrev vZ:Stmt:=top 72
abbrev jA:Stmt:=top 74
abbrev j8:Stmt:=top 75
abbrev j9:Stmt:=top 76
abbrev xf:Stmt:=top 77
abbrev vh:Stmt:=top 78
abbrev vp:Stmt:=top 79
abbrev vq:Stmt:=top 80
abbrev vz:Stmt:=top 81
abbrev jb:Stmt:=top 82
abbrev vA:Stmt:=top 83
abbrev vB:Stmt:=top 84
abbrev xg:Stmt:=top 85
abbrev Vg:Stmt:=top 86
abbrev qW:Stmt:=inClass (top 67) 0
abbrev jm:Stmt:=inClass (top 68) 0
abbrev jo:Stmt:=inClass (top 68) 1
abbrev jq:Stmt:=inClass (top 68) 2
abbrev vC:Stmt:=inClass (top 68) 3
abbrev qz:Stmt:=inClass (top 68) 4
abbrev z9:Stmt:=inClass (top 68) 5
abbrev jr:Stmt:=inClass (top 68) 6
structure Own (K:W.Frag) (zH zy:Addr):Prop where
 c_Frame:Cls K zH
 n_Frame_turns:NoAttr K zH "turns"
 n_Frame_bells:NoAttr K zH "bells"
 n_Frame_late:NoAttr K zH "late"
 n_Frame_frames:NoAttr K zH "frames"
 c_Desk:Cls K zy
 n_Desk_turns:NoAttr K zy "turns"
 n_Desk_bells:NoAttr K zy "bells"
 n_Desk_late:NoAttr K zy "late"
 n_Desk_frames:NoAttr K zy "frames"
 d_Frame_init:∃f,zbM K "__init__" "Frame.__init__" qW ["self","turns","bells","late"] f∧Mk K zH f
 d_Desk_init:∃f,zbM K "__init__" "Desk.__init__" jm ["self"] f∧Mk K zy f
 d_Desk_told:∃f,zbM K "told" "Desk.told" jo ["self","order"] f∧Meth K zy "told" f
 d_Desk_keep:∃f,zbM K "keep" "Desk.keep" jq ["self","words"] f∧Meth K zy "keep" f
 d_Desk_ring:∃f,zbM K "ring" "Desk.ring" vC ["self","words"] f∧Meth K zy "ring" f
 d_Desk_listen:∃f,zbM K "listen" "Desk.listen" qz ["self","words"] f∧Meth K zy "listen" f
 d_Desk_send_note:∃f,zbM K "send_note" "Desk.send_note" z9 ["self","words"] f∧Meth K zy "send_note" f
 d_Desk_kept:∃f,zbM K "kept" "Desk.kept" jr ["self","name"] f∧Meth K zy "kept" f
structure Txt (K:W.Frag) (mg:Str→Option Value):Prop where
 z_range:mg "range"=none
 z_isinstance:mg "isinstance"=none
 z_int:mg "int"=none
 z_bool:mg "bool"=none
 z_len:mg "len"=none
 z_list:mg "list"=none
 z_max:mg "max"=none
 z_min:mg "min"=none
 z_enumerate:mg "enumerate"=none
 z_sorted:mg "sorted"=none
 z_sum:mg "sum"=none
 z_all:mg "all"=none
 z_str:mg "str"=none
 zdr:mg "zip"=none
 z_reversed:mg "reversed"=none
 z_ValueError:mg "ValueError"=none
noncomputable def cellOf (ns:List Int) (k:Int):Int:=ns.getD k.toNat 0
noncomputable def zeG (K:W.Frag):Sp:=fun vs H Q _=>∃(a:Addr) (ns:List Int) (k:Int),vs=[.ref a,.int k]∧SqL K H a (ns.map V.int)∧0≤k∧Q (.int (cellOf ns k)) H
structure zl1 (row:List Int):Prop where
 inc:row.Pairwise (· < ·)
 nn:∀x∈row,0≤x
 sz:∀x∈row,x<2 ^ 200
theorem Wd {ns:List Int}{k:Nat}{x:Int} (h:ns[k]?=some x):atI (ns.map V.int) (k:Int)=some (V.int x):=atI_nat (by rw [List.getElem?_map,h];rfl)
noncomputable def zfS (ns:List Int) (lo hi:Option Int):List Int:=(ns.drop (HT.sIx ns.length 0 lo)).take (HT.sIx ns.length ns.length hi-HT.sIx ns.length 0 lo)
theorem zds (ns:List Int) (lo hi:Option Int):cutV (ns.map V.int) lo hi=(zfS ns lo hi).map V.int:=by
 unfold cutV zfS
 rw [List.length_map,List.map_take,List.map_drop]
theorem zeH (ns:List Int) (lo hi:Option Int):(zfS ns lo hi).length≤ns.length:=by
 have:=cutV_length (ns.map V.int) lo hi
 rwa [zds,List.length_map,List.length_map] at this
abbrev bmV:List Value:=[.type "ValueError",.type "Exception",.type "BaseException",.type "object"]
theorem zaY {P:Program}{w:World}{K:W.Frag}{mg:Str→Option Value}{base:Heap}{k:Nat}{x:Str}{ps:List Str}{sp:Sp} (F:FnE P w K mg base k x ps sp):Fn P w K mg base k x ps (fun vs H Q _=>sp vs H Q E0):=by
 obtain⟨f,fd,F,kp,b,m⟩:=F
 refine⟨f,fd,⟨fun vs H Q _ h=>F.len vs H Q E0 h,fun A outer s H args us vs Q E hr e0 hb r h=>codeAny_mono (F.run A outer s H args us vs Q E0 hr e0 hb r h) fun rr s' q=>?_⟩,kp,b,m⟩
 cases rr with
 | ok fl=>cases fl <;> exact q
 | error e=>
  obtain⟨_,_,_,_,_,_,_,_,_,_,_,_,z⟩:=q
  exact False.elim z
section
theorem V9:FnScope ["script","k"] ["script","k"] (defScope jA):=⟨rfl,rfl,rfl,by decide +kernel,rfl,by decide +kernel,by decide +kernel⟩
theorem zcM (D:Def K mg "_law_cell_at" jA ["script","k"]) (T:Txt K mg):Fn P w K mg base 1 "_law_cell_at" ["script","k"] (zeG K):=by
 refine D.fn V9 (fun vs H Q E h=>?_) (fun f cdv A outer s H vs Q E hr h=>?_)
 ·obtain⟨n,k,c,rfl,_⟩:=h
  rfl
 ·obtain⟨a,ns,k,rfl,hS,k0,q⟩:=h
  refine⟨_,(pss_cons (ps_if (pt_cmpR yV (pv 1) (pe_callB call_len_seq (by rfl) T.z_len xQ (pa_cons (pv 0) pa_nil)) (nomark _))
    (pss_one (ps_ret (pe_ix ix_list (pv 0) (pv 1) (fun _ _=>rfl))))
    pss_nil)
   (pss_one (ps_ret pe_int))),?_⟩
  refine⟨_,rfl,_,rfl,_,_,rfl,.inl hS,_,_,rfl,rfl,_,rfl,?_⟩
  rw [List.length_map]
  refine ifD (fun h=>?_) (fun h=>?_)
  ·have hk:k.toNat<ns.length:=by omega
   have e:atI (ns.map V.int) k=some (V.int (cellOf ns k)):=by
    have:=Wd (ns:=ns) (k:=k.toNat) (x:=cellOf ns k) (by unfold cellOf;rw [List.getD_eq_getElem?_getD,List.getElem?_eq_getElem hk];rfl)
    rwa [show ((k.toNat:Nat):Int)=k by omega] at this
   exact⟨_,rfl,_,rfl,_,_,_,_,rfl,rfl,hS,e,q⟩
  ·have e:cellOf ns k=0:=by
    unfold cellOf
    rw [List.getD_eq_getElem?_getD,List.getElem?_eq_none (by omega)]
    rfl
   rw [e] at q
   exact q
end
section
noncomputable def zcN:Sp:=fun vs H Q _=>∃c k:Int,vs=[.int c,.int k]∧intBits k≤100∧∀d:Int,0≤d→d<2 ^ 61→Q (.int d) H
theorem Za:FnScope ["cell","k","number"] ["cell","k"] (defScope j8):=⟨rfl,rfl,rfl,by decide +kernel,rfl,by decide +kernel,by decide +kernel⟩
theorem zkY (D:Def K mg "_law_drawn" j8 ["cell","k"]):Fn P w K mg base 1 "_law_drawn" ["cell","k"] zcN:=by
 refine D.fn Za (fun vs H Q E h=>?_) (fun f cdv A outer s H vs Q E hr h=>?_)
 ·obtain⟨c,k,rfl,_⟩:=h
  rfl
 ·obtain⟨c,k,rfl,kb,q⟩:=h
  refine⟨_,(pss_cons (ps_set (i:=2) Za.nd rfl (Or.inl rfl) (pe_op zF (pe_op qY (pe_op zx (pe_op zx (pe_op zF (pv 0) (pe_op zfy pe_int pe_int)) (pe_op qY pe_int (pv 1))) pe_int) pe_int) pe_int))
   (pss_cons (ps_set (i:=2) Za.nd rfl (Or.inl rfl) (pe_op zF (pe_op qY (pv 2) (pv 2)) pe_int))
   (pss_one (ps_ret (pe_op yo (pe_op zF (pe_op zx (pe_op qY (pv 2) pe_int) (pe_op qY (pv 1) (pv 1))) pe_int) pe_int))))),?_⟩
  have p40:(0:Int)<10 ^ (40:Int).toNat:=by decide
  have l40:(10:Int) ^ (40:Int).toNat<2 ^ 140:=by decide
  have c0:=Int.emod_nonneg c (show (10:Int) ^ (40:Int).toNat≠0 by decide)
  have c1:=Int.emod_lt_of_pos c p40
  have cb:intBits (c % 10 ^ (40:Int).toNat)≤140:=zP c0 (Int.lt_trans c1 l40)
  have kb7:intBits (7*k)≤103:=intBits_mul_le (m:=3) (n:=100) (by decide) kb
  have b1:intBits (c % 10 ^ (40:Int).toNat+7*k+1)≤142:=zg (intBits_add_le (m:=141) (n:=1) (zg (intBits_add_le cb kb7) (by decide)) (by decide)) (by decide)
  refine⟨_,rfl,_,_,rfl,rfl,⟨by decide,by decide,by decide⟩,_,_,rfl,rfl,p40,_,rfl,_,_,rfl,rfl,⟨3,100,by decide,kb,by decide⟩,_,_,rfl,rfl,_,_,rfl,rfl,_,_,rfl,rfl,⟨142,40,b1,by decide,by decide⟩,_,_,rfl,rfl,(by decide),?_⟩
  have n0:=Int.emod_nonneg ((c % 10 ^ (40:Int).toNat+7*k+1)*2654435769) (show (2305843009213693951:Int)≠0 by decide)
  have n1:=Int.emod_lt_of_pos ((c % 10 ^ (40:Int).toNat+7*k+1)*2654435769) (show (0:Int)<2305843009213693951 by decide)
  generalize (c % 10 ^ (40:Int).toNat+7*k+1)*2654435769 % 2305843009213693951=number at n0 n1 ⊢
  have nb:intBits number≤62:=zP n0 (by omega)
  refine⟨_,rfl,_,rfl,_,_,rfl,rfl,⟨62,62,nb,nb,by decide⟩,_,_,rfl,rfl,(by decide),?_⟩
  have m0:=Int.emod_nonneg (number*number) (show (2305843009213693951:Int)≠0 by decide)
  have m1:=Int.emod_lt_of_pos (number*number) (show (0:Int)<2305843009213693951 by decide)
  generalize number*number % 2305843009213693951=num at m0 m1 ⊢
  have mb:intBits num≤62:=zP m0 (by omega)
  have r0:=Int.emod_nonneg (num*40503+k*k) (show (2305843009213693951:Int)≠0 by decide)
  have r1:=Int.emod_lt_of_pos (num*40503+k*k) (show (0:Int)<2305843009213693951 by decide)
  refine⟨_,rfl,_,_,rfl,rfl,⟨62,20,mb,by decide,by decide⟩,_,rfl,_,rfl,_,_,rfl,rfl,⟨100,100,kb,kb,by decide⟩,_,_,rfl,rfl,_,_,rfl,rfl,(by decide),_,_,rfl,rfl,⟨by decide,by decide⟩,q _ ?_ ?_⟩
  ·omega
  ·omega
end
section
noncomputable def spLaw (K:W.Frag):Sp:=fun vs H Q _=>∃(a:Addr) (ns:List Int),vs=[.ref a]∧SqL K H a (ns.map V.int)∧ns.length≤63∧∀H',Q (.bl true) H'
end
section
theorem Jg:FnScope ["n","k","ways","taken"] ["n","k"] (defScope Zw):=⟨rfl,rfl,rfl,by decide +kernel,rfl,by decide +kernel,by decide +kernel⟩
theorem zdX (D:Def K mg "choose" Zw ["n","k"]) (T:Txt K mg):Fn P w K mg base 1 "choose" ["n","k"] Zu:=by
 refine D.fn Jg (fun vs H Q E h=>?_) (fun f cdv A outer s H vs Q E hr h=>?_)
 ·obtain⟨n,k,rfl,_⟩:=h
  rfl
 ·obtain⟨n,k,rfl,hn,hk,hk2,hb,q⟩:=h
  refine⟨_,(pss_cons (ps_if (pt_cmpR xG (pv 1) (pv 0) (nomark _))
    (pss_one (ps_ret pe_int))
    pss_nil)
   (pss_cons (ps_set (i:=2) Jg.nd rfl (Or.inl rfl) pe_int)
   (pss_cons (ps_for PassesOwn.never rfl (pi_range1 (by rfl) T.z_range (pa_cons (pv 1) pa_nil)) (pg_name (i:=3) Jg.nd rfl (Or.inl rfl))
    (pss_one (ps_set (i:=2) Jg.nd rfl (Or.inl rfl) (pe_op yo (pe_op qY (pv 2) (pe_op qI (pv 0) (pv 3))) (pe_op zx (pv 3) pe_int)))))
   (pss_one (ps_ret (pv 2)))))),?_⟩
  refine⟨_,rfl,_,rfl,_,_,rfl,rfl,_,rfl,?_⟩
  refine ite2 (fun h=>?_) (fun h=>?_)
  ·have h':n<k:=of_decide_eq_true h
   have e:=Xp hn h'
   rw [e] at q
   exact q
  ·have h':¬n<k:=fun z=>h (decide_eq_true z)
   refine⟨_,rfl,k,rfl,by omega,by omega,for_range (n:=k.toNat) (fun i σ H'=>∃v,σ=[some (.int n),some (.int k),some (.int (ch n i)),v]∧H'=H) ⟨none,?_,rfl⟩ ?_ ?_⟩
   ·have e:=ZM n
    show _=[some (V.int n),some (V.int k),some (V.int (ch n 0)),none]
    rw [e]
    rfl
   ·rintro i σ H' hi ⟨v,rfl,rfl⟩
    have hi':(i:Int)<k:=by omega
    refine⟨_,rfl,_,rfl,_,rfl,_,_,rfl,rfl,_,_,rfl,rfl,?_,_,rfl,_,_,rfl,rfl,_,_,rfl,rfl,?_,?_⟩
    ·refine⟨100000*i+1,100000,Kr hb hn,?_,by omega⟩
     exact intBits_le_of_natAbs (by omega) hb
    ·exact⟨by omega,zP (by omega) (by omega)⟩
    ·have e:=zfD (n:=n) (i:=i) (by omega)
     have e0:(0:Int)+(i:Int)=(i:Int):=by omega
     refine⟨some (.int (0+(i:Int))),?_,rfl⟩
     rw [e0,e]
     rfl
   ·rintro σ H' ⟨v,rfl,rfl⟩
    refine⟨_,rfl,?_⟩
    have e:((k.toNat:Nat):Int)=k:=by omega
    rw [e]
    exact q
end
section
theorem Jt:FnScope ["number","divisor"] ["number","divisor"] (defScope jY):=⟨rfl,rfl,rfl,by decide +kernel,rfl,by decide +kernel,by decide +kernel⟩
theorem W3 (D:Def K mg "rounded_up" jY ["number","divisor"]) (hP:P.given.tree=none):Fn P w K mg base 36 "rounded_up" ["number","divisor"] zaQ:=by
 refine D.fn Jt (fun vs H Q E h=>?_) (fun f cdv A outer s H vs Q E hr h=>?_)
 ·obtain⟨n,k,rfl,_⟩:=h
  rfl
 ·obtain⟨a,b,rfl,hb,q⟩:=h
  refine⟨_,(pss_one (ps_ret (pe_op (zby (zei hP Jt hr)) (pe_op qI (pe_op zx (pv 0) (pv 1)) pe_int) (pv 1)))),?_⟩
  exact⟨_,rfl,_,rfl,_,_,rfl,rfl,_,_,rfl,rfl,_,rfl,_,_,rfl,rfl,hb,q⟩
theorem vD:FnScope ["k","number","product","factor","figures"] ["k","number"] (defScope xY):=⟨rfl,rfl,rfl,by decide +kernel,rfl,by decide +kernel,by decide +kernel⟩
theorem zaZ (D:Def K mg "above_top" xY ["k","number"]) (T:Txt K mg) (ZW:Fn P w K mg base 36 "rounded_up" ["number","divisor"] zaQ):Fn P w K mg base 37 "above_top" ["k","number"] zdl:=by
 refine D.fn vD (fun vs H Q E h=>?_) (fun f cdv A outer s H vs Q E hr h=>?_)
 ·obtain⟨n,k,rfl,_⟩:=h
  rfl
 ·obtain⟨k,number,rfl,k1,k60,n0,nb,q⟩:=h
  refine⟨_,(pss_cons (ps_set (i:=2) vD.nd rfl (Or.inl rfl) (pv 1))
   (pss_cons (ps_for PassesOwn.never rfl (pi_range2 (by rfl) T.z_range (pa_cons pe_int (pa_cons (pe_op zx (pv 0) pe_int) pa_nil))) (pg_name (i:=3) vD.nd rfl (Or.inl rfl))
    (pss_one (ps_set (i:=2) vD.nd rfl (Or.inl rfl) (pe_op qY (pv 2) (pv 3)))))
   (pss_cons (ps_set (i:=4) vD.nd rfl (Or.inl rfl) (zq ZW (hr.mono (by decide)) (by rfl) (pa_cons (pe_bm0 PySem.F.plainAttrs_int PySem.F.slot_int_bit_length PySem.F.type_int_bit_length WR (pv 2)) (pa_cons (pv 0) pa_nil))))
   (pss_one (ps_ret (pe_op qI (pe_op zx (pe_op zfz pe_int (pv 4)) (pv 0)) pe_int)))))),?_⟩
  have ek:((k.toNat:Nat):Int)=k:=by omega
  have pb:∀i:Nat,(i:Int)≤60→intBits (number*fac i)≤50000+(7*i+1):=fun i hi=>intBits_mul_le nb (zbI i (by omega))
  refine⟨_,rfl,_,rfl,_,_,rfl,rfl,1,k+1,rfl,⟨by omega,by omega,by omega,by omega⟩,for_range (lo:=1) (n:=(k+1-1).toNat) (fun i σ H2=>∃v,σ=[some (.int k),some (.int number),some (.int (number*fac i)),v,none]∧H2=H) ⟨none,?_,rfl⟩ ?_ ?_⟩
  ·show _=[some (V.int k),some (V.int number),some (V.int (number*1)),none,none]
   rw [Int.mul_one]
   rfl
  ·rintro i σ H2 hi ⟨v,rfl,rfl⟩
   have hi':(i:Int)<k:=by omega
   refine⟨_,rfl,_,rfl,_,_,rfl,rfl,⟨_,64,pb i (by omega),zP (by omega) (by omega),by omega⟩,some (.int (1+(i:Int))),?_,rfl⟩
   rw [KY,← Int.mul_assoc,Int.add_comm (i:Int) 1]
   rfl
  ·rintro σ H2 ⟨v,rfl,rfl⟩
   have en:(k+1-1).toNat=k.toNat:=by omega
   rw [en]
   have pk:=pb k.toNat (by omega)
   have hsz:=intBits_le_iff.mp (Nat.le_refl (intBits (number*fac k.toNat)))
   refine⟨_,rfl,rfl,_,rfl,rfl,_,rfl,_,_,rfl,by omega,?_⟩
   generalize hbn:intBits (number*fac k.toNat)=b at pk hsz ⊢
   have d1:=Int.mul_ediv_add_emod ((b:Int)+k-1) k
   have d2:=Int.emod_nonneg ((b:Int)+k-1) (show k≠0 by omega)
   have d3:=Int.emod_lt_of_pos ((b:Int)+k-1) (show 0<k by omega)
   have f0:0≤((b:Int)+k-1) / k:=Int.ediv_nonneg (by omega) (by omega)
   have f1:((b:Int)+k-1) / k≤(b:Int)+k-1:=Int.ediv_le_self _ (by omega)
   generalize ((b:Int)+k-1) / k=fg at d1 f0 f1 ⊢
   generalize ((b:Int)+k-1) % k=r at d1 d2 d3
   refine⟨_,rfl,_,_,rfl,rfl,⟨f0,by omega,by decide⟩,_,rfl,_,_,rfl,rfl,_,_,rfl,rfl,?_⟩
   have ef:((fg.toNat:Nat):Int)=fg:=by omega
   have hp:(0:Int)<2 ^ fg.toNat:=Int.pow_pos (by decide)
   have ab:=zgO (F:=fg.toNat) (b:=b) k1 n0 hsz (by rw [ef,Int.mul_comm];omega)
   have e1:(1:Int)*2 ^ fg.toNat=2 ^ fg.toNat:=Int.one_mul _
   rw [e1]
   refine q _ (by omega) ab ?_
   have hb2:intBits ((2:Int) ^ fg.toNat)≤fg.toNat+1:=by
    refine intBits_le_iff.mpr ?_
    rw [Int.natAbs_pow]
    exact Nat.pow_lt_pow_right (by decide) (by omega)
   refine zg (intBits_sub_le (m:=50600) (n:=64) (zg (intBits_add_le (m:=50599) (n:=64) (zg hb2 (by omega)) (zP (by omega) (by omega))) (by decide)) (by decide)) (by decide)
theorem zeI (n k:Nat):(k+1)*C (n+1) (k+1)=(n+1)*C n k:=by
 have h:=zaO n k
 rw [yW,Nat.mul_add,Nat.add_mul,Nat.add_mul,Nat.one_mul,Nat.one_mul,Nat.add_mul n 1,Nat.one_mul]
 rw [Nat.add_mul] at h
 omega
theorem zdY {t k:Int} (hk:1≤k) (ht:1≤t):ch t k*k / t=ch (t-1) (k-1):=by
 obtain⟨j,hj⟩:∃j:Nat,k=(j:Int)+1:=⟨(k-1).toNat,by omega⟩
 obtain⟨m,hm⟩:∃m:Nat,t=(m:Int)+1:=⟨(t-1).toNat,by omega⟩
 subst hj hm
 have e1:ch ((m:Int)+1) ((j:Int)+1)=(C (m+1) (j+1):Nat):=by
  rw [show ((m:Int)+1)=((m+1:Nat):Int) by omega,show ((j:Int)+1)=((j+1:Nat):Int) by omega,JF]
 have e2:ch ((m:Int)+1-1) ((j:Int)+1-1)=(C m j:Nat):=by
  rw [show ((m:Int)+1-1)=((m:Nat):Int) by omega,show ((j:Int)+1-1)=((j:Nat):Int) by omega,JF]
 rw [e1,e2]
 have a:=zeI m j
 have a':((C (m+1) (j+1):Nat):Int)*((j:Int)+1)=((m:Int)+1)*((C m j:Nat):Int):=by
  rw [Int.mul_comm]
  exact_mod_cast a
 rw [a']
 exact Int.mul_ediv_cancel_left _ (by omega)
noncomputable def zal:Sp:=fun vs H Q _=>∃start k number:Int,vs=[.int start,.int k,.int number]∧1≤k∧k≤60∧0≤number∧k-1≤start∧number<ch (start+1) k∧intBits start≤60000∧∀t:Int,zbH k number t→intBits t≤60000→Q (.int t) H
theorem jj:FnScope ["start","k","number","top","ways","most_off","step"] ["start","k","number"] (defScope wG):=⟨rfl,rfl,rfl,by decide +kernel,rfl,by decide +kernel,by decide +kernel⟩
theorem zbY (D:Def K mg "top_from" wG ["start","k","number"]) (jc:Fn P w K mg base 1 "choose" ["n","k"] Zu) (ZW:Fn P w K mg base 36 "rounded_up" ["number","divisor"] zaQ) (hP:P.given.tree=none) :
  Fn P w K mg base 37 "top_from" ["start","k","number"] zal:=by
 refine D.fn jj (fun vs H Q E h=>?_) (fun f cdv A outer s H vs Q E hr h=>?_)
 ·obtain⟨a,n,k,rfl,_⟩:=h
  rfl
 ·obtain⟨t0,k,number,rfl,k1,k60,n0,t1,t2,t3,q⟩:=h
  refine⟨_,(pss_cons (ps_set (i:=3) jj.nd rfl (Or.inl rfl) (pv 0))
   (pss_cons (ps_set (i:=4) jj.nd rfl (Or.inl rfl) (zq jc (hr.mono (by decide)) (by rfl) (pa_cons (pv 3) (pa_cons (pv 1) pa_nil))))
   (pss_cons (ps_while PassesOwn.never (pt_cmpR xG (pv 4) (pv 2) (nomark _))
    (pss_cons (ps_set (i:=5) jj.nd rfl (Or.inl rfl) (pe_op (zby (zei hP jj (hr.mono (by decide)))) (pe_op qY (pv 4) (pv 1)) (pv 3)))
    (pss_cons (ps_set (i:=6) jj.nd rfl (Or.inl rfl) (zq ZW (hr.mono (by decide)) (by rfl) (pa_cons (pe_op qI (pv 4) (pv 2)) (pa_cons (pv 5) pa_nil))))
    (pss_cons (ps_set (i:=3) jj.nd rfl (Or.inl rfl) (pe_op qI (pv 3) (pv 6)))
    (pss_one (ps_set (i:=4) jj.nd rfl (Or.inl rfl) (pe_ifExp (pt_cmpR jG (pv 6) pe_int (nomark _)) (pe_op qI (pv 4) (pv 5)) (zq jc (hr.mono (by decide)) (by rfl) (pa_cons (pv 3) (pa_cons (pv 1) pa_nil))))))))))
   (pss_one (ps_ret (pv 3)))))),?_⟩
  refine⟨_,rfl,_,rfl,_,rfl,t0,k,rfl,by omega,by omega,by omega,zg t3 (by decide),?_⟩
  refine while_by (fun σ H2=>∃t v v',σ=[some (.int t0),some (.int k),some (.int number),some (.int t),some (.int (ch t k)),v,v']∧H2=H∧k-1≤t∧number<ch (t+1) k∧intBits t≤60000)
   (fun σ _=>match σ with | [_,_,_,some (.int t),_,_,_]=>t.toNat | _=>0) ⟨t0,none,none,rfl,rfl,t1,t2,t3⟩ ?_ ?_
  ·rintro σ H2 ⟨t,v,v',rfl,rfl,u1,u2,u3⟩
   refine⟨_,rfl,_,rfl,_,_,rfl,rfl,_,rfl,ifD (fun h=>?_) (fun h=>?_)⟩
   ·obtain⟨a1,a2,a3,a4,a5⟩:=zcv k1 n0 (by omega) h _ rfl
    have wb:intBits (ch t k)≤60000*60+1:=by
     have:=Kr (k:=k.toNat) u3 (by omega)
     rw [show ((k.toNat:Nat):Int)=k by omega] at this
     exact zg this (Nat.add_le_add_right (Nat.mul_le_mul_left _ (by omega)) _)
    refine⟨_,rfl,_,rfl,_,_,rfl,rfl,⟨_,64,wb,zP (by omega) (by omega),by decide⟩,_,rfl,_,_,rfl,rfl,by omega,?_⟩
    rw [zdY k1 (by omega)]
    have sb:ch (t-1) k=ch t k-ch (t-1) (k-1):=by
     have:=zaP (n:=t-1) (k:=k-1) (by omega) (by omega)
     rw [show t-1+1=t by omega,show k-1+1=k by omega] at this
     omega
    refine⟨_,rfl,_,rfl,_,_,rfl,rfl,_,rfl,ch t k-number,ch (t-1) (k-1),rfl,a2,?_⟩
    generalize (ch t k-number+ch (t-1) (k-1)-1) / ch (t-1) (k-1)=d at a3 a4 a5 ⊢
    have tb:intBits (t-d)≤60000:=intBits_le_of_natAbs (y:=t) (by omega) u3
    refine⟨_,rfl,_,rfl,_,_,rfl,rfl,_,rfl,_,_,rfl,rfl,_,rfl,ifD (fun e=>?_) (fun e=>?_)⟩
    ·subst e
     refine⟨_,rfl,_,rfl,_,_,rfl,rfl,⟨t-1,_,_,by rw [sb];rfl,rfl,a4,a5,tb⟩,?_⟩
     show (t-1).toNat<t.toNat
     omega
    ·refine⟨_,rfl,_,rfl,t-d,k,rfl,by omega,by omega,by omega,zg tb (by decide),?_⟩
     refine⟨⟨t-d,_,_,rfl,rfl,a4,a5,tb⟩,?_⟩
     show (t-d).toNat<t.toNat
     omega
   ·refine⟨_,rfl,q t ⟨u1,by omega,u2⟩ u3⟩
  ·intro σ H2 R R' m h
   obtain⟨v,e1,u,e2,i,j,e3,e4,b,e5,z⟩:=h
   exact⟨v,e1,u,e2,i,j,e3,e4,b,e5,m _ _ z⟩
end
theorem ints_of {Pd:Int→Prop}:∀{ys:List V},(∀(i:Nat) (v:V),ys[i]?=some v→∃d:Int,v=.int d∧Pd d)→∃ds:List Int,ys=ds.map V.int∧∀d∈ds,Pd d
 | [],_=>⟨[],rfl,fun _ z=>nomatch z⟩
 | y::ys,h=>by
  obtain⟨d,rfl,pd⟩:=h 0 y rfl
  obtain⟨ds,rfl,hd⟩:=ints_of (ys:=ys) fun i v hv=>h (i+1) v hv
  refine⟨d::ds,rfl,fun x hx=>?_⟩
  rcases List.mem_cons.mp hx with e | e
  ·rw [e];exact pd
  ·exact hd x e
noncomputable def vX (late:Int) (ns:List Int):List Int:=(List.range ns.length).map fun i=>(ns.getD i 0-(i:Int)) / (late+1)
noncomputable def qO (late:Int) (bs:List Int):List Int:=(List.range bs.length).map fun i=>bs.getD i 0*(late+1)+(i:Int)
theorem V0 (late:Int) (ns:List Int):(vX late ns).length=ns.length:=by unfold vX;simp
theorem ZX (late:Int) (ns:List Int):(qO late ns).length=ns.length:=by unfold qO;simp
theorem zeJ {late:Int}{ns:List Int}{i:Nat}{x:Int} (h:ns[i]?=some x):(vX late ns)[i]?=some ((x-(i:Int)) / (late+1)):=by
 have hi:=(List.getElem?_eq_some_iff.mp h).1
 unfold vX
 rw [List.getElem?_map,List.getElem?_range hi]
 simp [List.getD_eq_getElem?_getD,h]
theorem zdZ {late:Int}{ns:List Int}{i:Nat}{x:Int} (h:ns[i]?=some x):(qO late ns)[i]?=some (x*(late+1)+(i:Int)):=by
 have hi:=(List.getElem?_eq_some_iff.mp h).1
 unfold qO
 rw [List.getElem?_map,List.getElem?_range hi]
 simp [List.getD_eq_getElem?_getD,h]
theorem zd0 {late:Int}{ns:List Int}{i:Nat}{y:Int} (h:(vX late ns)[i]?=some y):∃x,ns[i]?=some x∧y=(x-(i:Int)) / (late+1):=by
 have hi:=(List.getElem?_eq_some_iff.mp h).1
 rw [V0] at hi
 have g:=zeJ (late:=late) (List.getElem?_eq_getElem hi)
 rw [g] at h
 exact⟨_,List.getElem?_eq_getElem hi,(Option.some.inj h).symm⟩
theorem zcO {late:Int}{ns:List Int}{i:Nat}{y:Int} (h:(qO late ns)[i]?=some y):∃x,ns[i]?=some x∧y=x*(late+1)+(i:Int):=by
 have hi:=(List.getElem?_eq_some_iff.mp h).1
 rw [ZX] at hi
 have g:=zdZ (late:=late) (List.getElem?_eq_getElem hi)
 rw [g] at h
 exact⟨_,List.getElem?_eq_getElem hi,(Option.some.inj h).symm⟩
structure zl2 (bs:List Int):Prop where
 inc:bs.Pairwise (·≤·)
 nn:∀x∈bs,0≤x
 sz:∀x∈bs,x<2 ^ 200
noncomputable def Szs (m:Nat) (ns:List Int):Prop:=∀x∈ns,intBits x≤m
section
noncomputable def zdt (K:W.Frag):Sp:=fun vs H Q _=>∃(a:Addr) (ns:List Int) (late:Int),vs=[.ref a,.int late]∧SqL K H a (ns.map V.int)∧ns.length≤1000∧0≤late∧intBits late≤8000 ∧
 ∀(p:Addr) (H':Hp),Same H H'→H p=none→H' p=some (.lst ((vX late ns).map V.int))→Q (.ref p) H'
end
section
theorem zd1:FnScope ["row","late"] ["row","late"] (defScope Zx):=⟨rfl,rfl,rfl,by decide +kernel,rfl,by decide +kernel,by decide +kernel⟩
theorem zd2 (D:Def K mg "box_of" Zx ["row","late"]) (T:Txt K mg):Fn P w K mg base 1 "box_of" ["row","late"] (zdt K):=by
 refine D.fn zd1 (fun vs H Q E h=>?_) (fun f cdv A outer s H vs Q E hr h=>?_)
 ·obtain⟨a,ns,late,rfl,_⟩:=h
  rfl
 ·obtain⟨a,ns,late,rfl,hA,hl,l0,lb,q⟩:=h
  refine⟨_,(pss_one (ps_ret (jT (own:=["place","turn"]) (fr:=["late"]) (ix:=[1]) rfl ⟨rfl,rfl,rfl,rfl,rfl,rfl⟩ (Xq (by rfl) T.z_enumerate (pa_cons (pv 0) pa_nil)) (fun _ _ _ _ _=>(zaN K (n:=2) rfl (pgs_cons (pg_name (i:=0) (show (["place","turn","late"]:List Str).Nodup by decide +kernel) rfl (Or.inl rfl)) (pgs_cons (pg_name (i:=1) (show (["place","turn","late"]:List Str).Nodup by decide +kernel) rfl (Or.inl rfl)) pgs_nil)))) (fun _ _ _ _ _=>qJ) (fun _ _ _ _ _=>(pe_op yo (pe_op qI (pv 1) (pv 0)) (pe_op zx (pv 2) pe_int)))))),?_⟩
  have lb1:intBits (late+1)≤9000:=zg (intBits_add_le (m:=8000) (n:=1) lb (by decide)) (by decide)
  refine⟨_,rfl,a,_,rfl,hA,fun acc hacc=>JG (K:=K) (a:=a) (xs:=ns.map V.int) (fun i=>V.int ((ns.getD i 0-(i:Int)) / (late+1))) hA hacc ?_ ?_ ?_⟩
  ·rw [List.length_map];exact Nat.le_of_lt (small1000 hl)
  ·intro i x t H2 R hx sm ht hR
   rw [List.getElem?_map] at hx
   obtain⟨x',hx',rfl⟩:=Option.map_eq_some_iff.mp hx
   simp only [List.getD_eq_getElem?_getD,hx',Option.getD_some] at hR
   exact⟨t,_,rfl,SqT.of ht,rfl,_,_,rfl,_,_,rfl,rfl,rfl,_,rfl,_,rfl,_,_,rfl,rfl,_,rfl,_,_,rfl,rfl,_,_,rfl,rfl,⟨by omega,lb1⟩,hR⟩
  ·intro H2 sm ha
   rw [List.length_map] at ha
   refine q acc H2 sm hacc ?_
   rw [ha]
   unfold vX
   rw [List.map_map]
   rfl
end
section
noncomputable def zam (K:W.Frag):Sp:=fun vs H Q _=>∃(a:Addr) (ns:List Int) (late:Int),vs=[.ref a,.int late]∧SqL K H a (ns.map V.int)∧ns.length≤1000∧intBits late≤8000∧Szs 70000 ns ∧
 ∀(p:Addr) (H':Hp),Same H H'→H p=none→H' p=some (.lst ((qO late ns).map V.int))→Q (.ref p) H'
theorem zbZ:FnScope ["box","late"] ["box","late"] (defScope wH):=⟨rfl,rfl,rfl,by decide +kernel,rfl,by decide +kernel,by decide +kernel⟩
theorem zb0 (D:Def K mg "bell_row" wH ["box","late"]) (T:Txt K mg):Fn P w K mg base 1 "bell_row" ["box","late"] (zam K):=by
 refine D.fn zbZ (fun vs H Q E h=>?_) (fun f cdv A outer s H vs Q E hr h=>?_)
 ·obtain⟨a,ns,late,rfl,_⟩:=h
  rfl
 ·obtain⟨a,ns,late,rfl,hA,hl,lb,hz,q⟩:=h
  refine⟨_,(pss_one (ps_ret (jT (own:=["place","part"]) (fr:=["late"]) (ix:=[1]) rfl ⟨rfl,rfl,rfl,rfl,rfl,rfl⟩ (Xq (by rfl) T.z_enumerate (pa_cons (pv 0) pa_nil)) (fun _ _ _ _ _=>(zaN K (n:=2) rfl (pgs_cons (pg_name (i:=0) (show (["place","part","late"]:List Str).Nodup by decide +kernel) rfl (Or.inl rfl)) (pgs_cons (pg_name (i:=1) (show (["place","part","late"]:List Str).Nodup by decide +kernel) rfl (Or.inl rfl)) pgs_nil)))) (fun _ _ _ _ _=>qJ) (fun _ _ _ _ _=>(pe_op zx (pe_op qY (pv 1) (pe_op zx (pv 2) pe_int)) (pv 0)))))),?_⟩
  have lb1:intBits (late+1)≤9000:=zg (intBits_add_le (m:=8000) (n:=1) lb (by decide)) (by decide)
  refine⟨_,rfl,a,_,rfl,hA,fun acc hacc=>JG (K:=K) (a:=a) (xs:=ns.map V.int) (fun i=>V.int (ns.getD i 0*(late+1)+(i:Int))) hA hacc ?_ ?_ ?_⟩
  ·rw [List.length_map];exact Nat.le_of_lt (small1000 hl)
  ·intro i x t H2 R hx sm ht hR
   rw [List.getElem?_map] at hx
   obtain⟨x',hx',rfl⟩:=Option.map_eq_some_iff.mp hx
   simp only [List.getD_eq_getElem?_getD,hx',Option.getD_some] at hR
   exact⟨t,_,rfl,SqT.of ht,rfl,_,_,rfl,_,_,rfl,rfl,rfl,_,rfl,_,rfl,_,_,rfl,rfl,_,_,rfl,rfl,⟨70000,9000,hz x' (List.mem_of_getElem? hx'),lb1,by decide⟩,_,rfl,_,_,rfl,rfl,hR⟩
  ·intro H2 sm ha
   rw [List.length_map] at ha
   refine q acc H2 sm hacc ?_
   rw [ha]
   unfold qO
   rw [List.map_map]
   rfl
end
noncomputable def jF (bs:List Int):Nat→Int
 | 0=>0
 | i+1=>jF bs i+ch (bs.getD i 0+(i:Int)) ((i:Int)+1)
noncomputable def Zy (bs:List Int):Int:=jF bs bs.length
structure jd (bs:List Int):Prop where
 inc:bs.Pairwise (·≤·)
 nn:∀x∈bs,0≤x
theorem W5 (f:Nat→Int) (n:Nat):((List.range (n+1)).map f).sum=((List.range n).map f).sum+f n:=by
 rw [List.range_succ,List.map_append,List.sum_append]
 simp
theorem zan (bs:List Int):∀n:Nat,jF bs n=((List.range n).map fun i=>ch (bs.getD i 0+(i:Int)) ((i:Int)+1)).sum
 | 0=>rfl
 | n+1=>by
  rw [W5,← zan bs n]
  rfl
theorem jd.get {bs:List Int} (B:jd bs){i j:Nat}{x y:Int} (h:i≤j) (hx:bs[i]?=some x) (hy:bs[j]?=some y):x≤y:=by
 obtain⟨h1,e1⟩:=List.getElem?_eq_some_iff.mp hx
 obtain⟨h2,e2⟩:=List.getElem?_eq_some_iff.mp hy
 rcases Nat.lt_or_eq_of_le h with z | z
 ·have:=List.pairwise_iff_getElem.mp B.inc i j h1 h2 z
  omega
 ·subst z;omega
theorem jd.nn' {bs:List Int} (B:jd bs){i:Nat}:0≤bs.getD i 0:=by
 rw [List.getD_eq_getElem?_getD]
 cases h:bs[i]? with
 | none=>exact Int.le_refl _
 | some x=>exact B.nn x (List.mem_of_getElem? h)
theorem jd.le' {bs:List Int} (B:jd bs){i j:Nat} (h:i≤j) (hj:j<bs.length):bs.getD i 0≤bs.getD j 0:=by
 have hi:i<bs.length:=by omega
 rw [List.getD_eq_getElem?_getD,List.getD_eq_getElem?_getD,List.getElem?_eq_getElem hi,List.getElem?_eq_getElem hj]
 exact B.get h (List.getElem?_eq_getElem hi) (List.getElem?_eq_getElem hj)
theorem vG (bs:List Int):∀n,0≤jF bs n
 | 0=>Int.le_refl _
 | n+1=>by
  have:=vG bs n
  have:=Vb (bs.getD n 0+(n:Int)) ((n:Int)+1)
  show 0≤jF bs n+_
  omega
theorem zb1 {bs:List Int} (B:jd bs):∀(i:Nat) (c:Int),i≤bs.length→0≤c→(∀j,j<i→bs.getD j 0≤c)→jF bs i<ch (c+(i:Int)) (i:Int)
 | 0,c,_,_,_=>by
  show (0:Int)<ch (c+((0:Nat):Int)) 0
  rw [ZM];decide
 | i+1,c,hi,hc,hb=>by
  have b0:=B.nn' (i:=i)
  have ih:=zb1 B i (bs.getD i 0) (by omega) b0 (fun j hj=>B.le' (by omega) (by omega))
  have p:=zaP (n:=bs.getD i 0+(i:Int)) (k:=(i:Int)) (by omega) (by omega)
  have m:=Kq (m:=bs.getD i 0+(i:Int)+1) (n:=c+((i+1:Nat):Int)) (k:=((i+1:Nat):Int)) (by have:=hb i (by omega);omega)
  rw [show ((i+1:Nat):Int)=(i:Int)+1 by omega] at m ⊢
  show jF bs i+ch (bs.getD i 0+(i:Int)) ((i:Int)+1) < _
  omega
theorem Vh {bs:List Int} (B:jd bs){i:Nat} (hi:i<bs.length):zbH ((i:Int)+1) (jF bs (i+1)) (bs.getD i 0+(i:Int)):=by
 have b0:=B.nn' (i:=i)
 have a:=zb1 B (i+1) (bs.getD i 0) hi b0 (fun j hj=>B.le' (by omega) hi)
 have n0:=vG bs i
 refine⟨by omega,?_,?_⟩
 ·show _≤jF bs i+_
  omega
 ·rw [show ((i+1:Nat):Int)=(i:Int)+1 by omega] at a
  rw [show bs.getD i 0+(i:Int)+1=bs.getD i 0+((i:Int)+1) by omega]
  exact a
theorem zao {as bs:List Int} (A:jd as) (B:jd bs):∀i:Nat,i≤as.length→i≤bs.length→jF as i=jF bs i→∀j,j<i→as.getD j 0=bs.getD j 0
 | 0,_,_,_,j,hj=>absurd hj (Nat.not_lt_zero _)
 | i+1,ha,hb,e,j,hj=>by
  have ta:=Vh A (i:=i) ha
  have tb:=Vh B (i:=i) hb
  rw [e] at ta
  have u:=ta.unique tb
  have u':as.getD i 0=bs.getD i 0:=by omega
  by_cases hji:j=i
  ·rw [hji];exact u'
  ·have e':jF as i+ch (as.getD i 0+(i:Int)) ((i:Int)+1)=jF bs i+ch (bs.getD i 0+(i:Int)) ((i:Int)+1):=e
   rw [u'] at e'
   exact zao A B i (by omega) (by omega) (by omega) j (by omega)
theorem zeK {as bs:List Int} (A:jd as) (B:jd bs) (hl:as.length=bs.length) (e:Zy as=Zy bs):as=bs:=by
 refine List.ext_getElem? fun i=>?_
 unfold Zy at e
 rw [hl] at e
 by_cases hi:i<as.length
 ·have:=zao A B bs.length (by omega) (Nat.le_refl _) e i (by omega)
  rw [List.getD_eq_getElem?_getD,List.getD_eq_getElem?_getD,List.getElem?_eq_getElem hi,List.getElem?_eq_getElem (by omega:i<bs.length)] at this
  rw [List.getElem?_eq_getElem hi,List.getElem?_eq_getElem (by omega:i<bs.length)]
  congr 1
 ·rw [List.getElem?_eq_none (by omega),List.getElem?_eq_none (by omega)]
section
noncomputable def zgH (K:W.Frag):Sp:=fun vs H Q _=>∃(a:Addr) (bs:List Int),vs=[.ref a]∧SqL K H a (bs.map V.int)∧bs.length≤900∧(∀x∈bs,0≤x)∧Szs 70000 bs ∧
 ∀H',Same H H'→Q (.int (Zy bs)) H'
theorem W6:FnScope ["box"] ["box"] (defScope jZ):=⟨rfl,rfl,rfl,by decide +kernel,rfl,by decide +kernel,by decide +kernel⟩
theorem W7 (D:Def K mg "box_number" jZ ["box"]) (T:Txt K mg) (jc:Fn P w K mg base 1 "choose" ["n","k"] Zu):Fn P w K mg base 2 "box_number" ["box"] (zgH K):=by
 refine D.fn W6 (fun vs H Q E h=>?_) (fun f cdv A outer s H vs Q E hr h=>?_)
 ·obtain⟨a,bs,rfl,_⟩:=h
  rfl
 ·obtain⟨a,bs,rfl,hA,hl,nn,sz,q⟩:=h
  refine⟨_,(pss_one (ps_ret (pe_callB (zbK rfl) (by rfl) T.z_sum zgB (pa_cons (jT (own:=["place","part"]) (fr:=[]) (ix:=[]) rfl ⟨rfl,rfl,rfl,rfl,rfl,rfl⟩ (Xq (by rfl) T.z_enumerate (pa_cons (pv 0) pa_nil)) (fun _ _ _ _ _=>(zaN K (n:=2) rfl (pgs_cons (pg_name (i:=0) (show (["place","part"]:List Str).Nodup by decide +kernel) rfl (Or.inl rfl)) (pgs_cons (pg_name (i:=1) (show (["place","part"]:List Str).Nodup by decide +kernel) rfl (Or.inl rfl)) pgs_nil)))) (fun _ _ _ _ _=>qJ) (fun _ _ _ _ _=>(zq jc (hr.mono (by decide)) (by rfl) (pa_cons (pe_op zx (pv 1) (pv 0)) (pa_cons (pe_op zx (pv 0) pe_int) pa_nil))))) pa_nil)))),?_⟩
  refine⟨_,rfl,a,_,rfl,hA,fun acc hacc=>JG (K:=K) (a:=a) (xs:=bs.map V.int) (fun i=>V.int (ch (bs.getD i 0+(i:Int)) ((i:Int)+1))) hA hacc ?_ ?_ ?_⟩
  ·rw [List.length_map];exact Nat.le_of_lt (small1000 (by omega))
  ·intro i x t H2 R hx sm ht hR
   rw [List.getElem?_map] at hx
   obtain⟨x',hx',rfl⟩:=Option.map_eq_some_iff.mp hx
   simp only [List.getD_eq_getElem?_getD,hx',Option.getD_some] at hR
   have hi:=(List.getElem?_eq_some_iff.mp hx').1
   have x0:=nn x' (List.mem_of_getElem? hx')
   have xb:=sz x' (List.mem_of_getElem? hx')
   exact⟨t,_,rfl,SqT.of ht,rfl,_,_,rfl,_,_,rfl,rfl,rfl,_,rfl,_,rfl,_,_,rfl,rfl,_,rfl,_,_,rfl,rfl,_,_,rfl,by omega,by omega,by omega,zg (intBits_add_le (m:=70000) (n:=64) xb (zP (by omega) (by omega))) (by decide),hR⟩
  ·intro H2 sm ha
   rw [List.length_map] at ha
   refine⟨acc,(List.range bs.length).map fun i=>ch (bs.getD i 0+(i:Int)) ((i:Int)+1),rfl,SqL.of ?_,?_⟩
   ·rw [ha,List.map_map];rfl
   ·rw [← zan]
    exact q H2 sm
end
noncomputable def W8:Int→List Int→Prop
 | _,[]=>True
 | b,x::r=>b≤x∧W8 x r
theorem We:∀{b:Int}{xs:List Int},W8 b xs→∀x∈xs,b≤x
 | _,[],_,_,z=>nomatch z
 | b,y::r,h,x,hx=>by
  rcases List.mem_cons.mp hx with e | e
  ·rw [e];exact h.1
  ·have:=We h.2 x e
   have:=h.1
   omega
theorem za0:∀{b:Int}{xs:List Int},W8 b xs→xs.Pairwise (·≤·)
 | _,[],_=>List.Pairwise.nil
 | _,_::_,h=>List.pairwise_cons.mpr ⟨We h.2,za0 h.2⟩
theorem za1:∀{b:Int}{xs:List Int},xs.Pairwise (·≤·)→(∀x∈xs,b≤x)→W8 b xs
 | _,[],_,_=>trivial
 | _,x::r,hp,h=>by
  obtain⟨p1,p2⟩:=List.pairwise_cons.mp hp
  exact⟨h x (by simp),za1 p2 p1⟩
theorem zd3 {bs:List Int}:jd bs↔W8 0 bs:=⟨fun h=>za1 h.inc h.nn,fun h=>⟨za0 h,We h⟩⟩
theorem zap {bs:List Int}{i:Nat}{x b:Int} (h:bs[i]?=some x):W8 b (bs.drop i)↔b≤x∧W8 x (bs.drop (i+1)):=by
 obtain⟨hi,e⟩:=List.getElem?_eq_some_iff.mp h
 rw [List.drop_eq_getElem_cons hi,e]
 exact Iff.rfl
section
noncomputable def zdu (K:W.Frag) (C:Addr):Sp:=fun vs H Q E=>∃(a:Addr) (ns:List Int) (late:Int),vs=[.ref a,.int late]∧SqL K H a (ns.map V.int)∧ns.length≤1000∧0≤late∧intBits late≤8000 ∧
 (jd (vX late ns)→∀(p:Addr) (H':Hp),Same H H'→H p=none→H' p=some (.lst ((vX late ns).map V.int))→Q (.ref p) H') ∧
 (¬jd (vX late ns)→∀H',Same H H'→E (.ref C) none H')
theorem vH:FnScope ["reading","late","box","before","part"] ["reading","late"] (defScope xZ):=⟨rfl,rfl,rfl,by decide +kernel,rfl,by decide +kernel,by decide +kernel⟩
theorem W9 {za:Addr} (D:Def K mg "heard_box" xZ ["reading","late"]) (T:Txt K mg) (zJ:mg "NoReading"=some (.ref za)) (zW:W.excIn K za bmV "ValueError.__new__"=true) (zeL:Fn P w K mg base 1 "box_of" ["row","late"] (zdt K)):FnE P w K mg base 2 "heard_box" ["reading","late"] (zdu K za):=by
 refine D.fnE vH (fun vs H Q E h=>?_) (fun f cdv A outer s H vs Q E hr h=>?_)
 ·obtain⟨a,ns,late,rfl,_⟩:=h
  rfl
 ·obtain⟨a,ns,late,rfl,hA,hl,l0,lb,q,q2⟩:=h
  refine⟨_,(pss_cons (ps_set (i:=2) vH.nd rfl (Or.inl rfl) (zq zeL (hr.mono (by decide)) (by rfl) (pa_cons (pv 0) (pa_cons (pv 1) pa_nil))))
   (pss_cons (ps_set (i:=3) vH.nd rfl (Or.inl rfl) pe_int)
   (pss_cons (ps_for PassesOwn.leaving rfl (pi_list (pv 2)) (pg_name (i:=4) vH.nd rfl (Or.inl rfl))
    (pss_cons (ps_if (pt_cmpR yV (pv 4) (pv 3) (nomark _))
     (pss_one (qi PySem.F.excBase_ValueError zW (by rfl) zJ (pa_cons pe_str pa_nil)))
     pss_nil)
    (pss_one (ps_set (i:=3) vH.nd rfl (Or.inl rfl) (pv 4)))))
   (pss_one (ps_ret (pv 2)))))),?_⟩
  refine⟨_,rfl,_,rfl,a,ns,late,rfl,hA,hl,l0,lb,fun p H1 s1 hp h1=>?_⟩
  generalize hbs:vX late ns=bs at h1 q q2
  refine⟨_,rfl,p,rfl,⟨_,SqL.of h1⟩,for_list (K:=K) (a:=p) (xs:=bs.map V.int) (fun i σ H2=>∃(before:Int) (v4:Option V),σ=[some (.ref a),some (.int late),some (.ref p),some (.int before),v4]∧H2=H1∧(jd bs↔W8 before (bs.drop i)))
   ⟨0,none,rfl,rfl,by rw [List.drop_zero];exact zd3⟩ (fun i σ H2 _ ⟨_,_,_,e,_⟩=>e ▸ SqL.of h1) ?_ ?_⟩
  ·rintro i y σ H2 hi ⟨before,v4,rfl,rfl,hb⟩
   rw [List.getElem?_map] at hi
   obtain⟨x,hx,rfl⟩:=Option.map_eq_some_iff.mp hi
   rw [zap hx] at hb
   refine⟨_,rfl,_,rfl,_,_,rfl,rfl,_,rfl,ifD (fun h=>?_) (fun h=>⟨_,rfl,x,_,rfl,rfl,hb.trans ⟨fun z=>z.2,fun z=>⟨by omega,z⟩⟩⟩)⟩
   exact⟨(by decide),q2 (fun B=>by have:=(hb.mp B).1;omega) _ s1⟩
  ·rintro σ H2 ⟨before,v4,rfl,rfl,hb⟩
   rw [List.length_map,List.drop_length] at hb
   exact⟨_,rfl,q (hb.mpr trivial) p _ s1 hp h1⟩
end
theorem Zz {bs:List Int}{i j:Nat}{v:Int} (hi:i<bs.length):(bs.set i v).getD j 0=if j=i then v else bs.getD j 0:=by
 rw [List.getD_eq_getElem?_getD,List.getD_eq_getElem?_getD,List.getElem?_set]
 by_cases h:i=j
 ·subst h;simp [hi]
 ·rw [if_neg h,if_neg (fun z=>h z.symm)]
theorem zaq {bs:List Int}{i:Nat}{v:Int} (hi:i<bs.length):∀n:Nat,jF (bs.set i v) n=jF bs n+if i<n then ch (v+(i:Int)) ((i:Int)+1)-ch (bs.getD i 0+(i:Int)) ((i:Int)+1) else 0
 | 0=>by rw [if_neg (Nat.not_lt_zero _)];rfl
 | n+1=>by
  show jF (bs.set i v) n+ch ((bs.set i v).getD n 0+(n:Int)) ((n:Int)+1)=jF bs n+ch (bs.getD n 0+(n:Int)) ((n:Int)+1)+_
  rw [zaq hi n,Zz hi]
  by_cases h1:n=i
  ·subst h1
   rw [if_pos rfl,if_neg (Nat.lt_irrefl _),if_pos (Nat.lt_succ_self _)]
   omega
  ·rw [if_neg h1]
   by_cases h2:i<n
   ·rw [if_pos h2,if_pos (by omega)];omega
   ·rw [if_neg h2,if_neg (by omega)];omega
theorem V3 (m:Nat):∀n:Nat,jF (List.replicate m 0) n=0
 | 0=>rfl
 | n+1=>by
  have e:(List.replicate m (0:Int)).getD n 0=0:=by
   rw [List.getD_eq_getElem?_getD,List.getElem?_replicate]
   split <;> rfl
  show jF (List.replicate m 0) n+ch ((List.replicate m (0:Int)).getD n 0+(n:Int)) ((n:Int)+1)=0
  rw [V3 m n,e,Xp (by omega) (by omega)]
  rfl
theorem Wf:∀n:Nat,(List.replicate n [V.int 0]).flatten=(List.replicate n (0:Int)).map V.int
 | 0=>rfl
 | n+1=>by
  rw [List.replicate_succ,List.flatten_cons,Wf n,List.replicate_succ,List.map_cons]
  rfl
theorem zeM {n:Nat} (h:n≤1000):(-1:Int)≠0∧(-1:Int).natAbs<1073741824∧Builtin.Range.small ((n:Int)-1) (-1) (-1)=true∧Builtin.Range.rangeSize ((n:Int)-1) (-1) (-1)=(n:Int):=by
 have hs:Builtin.Range.rangeSize ((n:Int)-1) (-1) (-1)=(n:Int):=by
  unfold Builtin.Range.rangeSize
  rw [if_neg (by decide)]
  by_cases z:n=0
  ·subst z;rfl
  ·rw [if_pos (by omega)]
   show ((n:Int)-1 - -1-1) / (- -1)+1=n
   rw [show (- -1:Int)=1 by decide,Int.ediv_one]
   omega
 refine⟨by decide,by decide,?_,hs⟩
 unfold Builtin.Range.small
 rw [hs]
 simp only [Builtin.Range.rangeFitsLong]
 simp
 omega
theorem zeN {bs:List Int} (h0:∀j,j<bs.length→0≤bs.getD j 0) (hm:∀j k,j≤k→k<bs.length→bs.getD j 0≤bs.getD k 0):jd bs:=by
 have eg:∀(j:Nat) (h:j<bs.length),bs.getD j 0=bs[j]:=fun j h=>by rw [List.getD_eq_getElem?_getD,List.getElem?_eq_getElem h];rfl
 refine⟨List.pairwise_iff_getElem.mpr fun i j hi hj hij=>?_,fun x hx=>?_⟩
 ·have:=hm i j (by omega) hj
  rw [eg i hi,eg j hj] at this
  exact this
 ·obtain⟨j,hj,rfl⟩:=List.getElem_of_mem hx
  rw [← eg j hj]
  exact h0 j hj
theorem zeO (m:Nat):∀n:Nat,m<C (m+(n+1)) (n+1)
 | 0=>by rw [zem];omega
 | n+1=>by
  have:=zeO m n
  rw [show m+(n+1+1)=(m+(n+1))+1 by omega,yW]
  omega
theorem zfT {m:Int}{n:Nat} (h0:0≤m) (hz:(n:Int)=0→m=0):m<ch (m+(n:Int)) (n:Int):=by
 cases n with
 | zero=>
  have:=hz rfl
  subst this
  rw [show ((0:Nat):Int)=0 from rfl,ZM]
  decide
 | succ n=>
  obtain⟨r,rfl⟩:∃r:Nat,m=(r:Int):=⟨m.toNat,by omega⟩
  rw [← Int.natCast_add,JF]
  have:=zeO r n
  omega
theorem top_lt {k a b c:Int} (h1:ch a k≤c) (h2:c<ch b k):a<b:=by
 rcases (by omega:a<b∨b≤a) with z | z
 ·exact z
 ·have:=Kq (k:=k) z
  omega
section
noncomputable def zeP (message bells:Int):Prop:=0≤message∧(bells=0→message=0)
noncomputable def zar (K:W.Frag) (C:Addr):Sp:=fun vs H Q E=>∃message bells:Int,vs=[.int message,.int bells]∧0≤bells∧bells≤60∧intBits message≤50000 ∧
 (zeP message bells→∀(p:Addr) (bs:List Int) (H':Hp),Same H H'→H p=none→H' p=some (.lst (bs.map V.int))→jd bs→bs.length=bells.toNat→Zy bs=message→Szs 60010 bs→Q (.ref p) H') ∧
 (¬zeP message bells→E (.ref C) none H)
theorem qb:FnScope ["message","bells","box","left","top","place"] ["message","bells"] (defScope qM):=⟨rfl,rfl,rfl,by decide +kernel,rfl,by decide +kernel,by decide +kernel⟩
theorem JL {zj:Addr} (D:Def K mg "box_of_message" qM ["message","bells"]) (T:Txt K mg) (zV:mg "TooGreat"=some (.ref zj)) (qj:W.excIn K zj bmV "ValueError.__new__"=true) (Qx:Fn P w K mg base 37 "above_top" ["k","number"] zdl) (JM:Fn P w K mg base 37 "top_from" ["start","k","number"] zal) (jc:Fn P w K mg base 1 "choose" ["n","k"] Zu) :
  FnE P w K mg base 39 "box_of_message" ["message","bells"] (zar K zj):=by
 refine D.fnE qb (fun vs H Q E h=>?_) (fun f cdv A outer s H vs Q E hr h=>?_)
 ·obtain⟨a,bs,rfl,_⟩:=h
  rfl
 ·obtain⟨message,bells,rfl,b0,b60,mb,q1,q2⟩:=h
  refine⟨_,(pss_cons (ps_if (pw_or (pt_cmpR yV (pv 0) pe_int (nomark _)) (pw_or1 (pw_and (pt_cmpR jG (pv 1) pe_int (nomark _)) (pw_and1 (pt_cmpR zcp (pv 0) pe_int (nomark _)))).pt)).pt
    (pss_one (qi PySem.F.excBase_ValueError qj (by rfl) zV (pa_cons pe_str pa_nil)))
    pss_nil)
   (pss_cons (ps_set (i:=2) qb.nd rfl (Or.inl rfl) (pe_op op_rep (pe_lst (pa_cons pe_int pa_nil)) (pv 1)))
   (pss_cons (ps_set (i:=3) qb.nd rfl (Or.inl rfl) (pv 0))
   (pss_cons (ps_set (i:=4) qb.nd rfl (Or.inl rfl) (pe_op zx (pv 0) (pv 1)))
   (pss_cons (ps_for PassesOwn.leaving rfl (zac (by rfl) T.z_range (pa_cons (pe_op qI (pv 1) pe_int) (pa_cons (pe_un un_neg pe_int) (pa_cons (pe_un un_neg pe_int) pa_nil)))) (pg_name (i:=5) qb.nd rfl (Or.inl rfl))
    (pss_cons (ps_set (i:=4) qb.nd rfl (Or.inl rfl) (zq JM (hr.mono (by decide)) (by rfl) (pa_cons (pe_callB (call_min2 rfl) (by rfl) T.z_min zkK (pa_cons (pe_op qI (pv 4) pe_int) (pa_cons (zq Qx (hr.mono (by decide)) (by rfl) (pa_cons (pe_op zx (pv 5) pe_int) (pa_cons (pv 3) pa_nil))) pa_nil))) (pa_cons (pe_op zx (pv 5) pe_int) (pa_cons (pv 3) pa_nil)))))
    (pss_cons (ps_asg (pe_op qI (pv 4) (pv 5)) (pg_sub (pv 2) (pv 5) set_list))
    (pss_one (ps_set (i:=3) qb.nd rfl (Or.inl rfl) (pe_op qI (pv 3) (zq jc (hr.mono (by decide)) (by rfl) (pa_cons (pv 4) (pa_cons (pe_op zx (pv 5) pe_int) pa_nil)))))))))
   (pss_one (ps_ret (pv 2)))))))),?_⟩
  obtain⟨n,rfl⟩:∃n:Nat,bells=(n:Int):=⟨bells.toNat,by omega⟩
  refine⟨_,rfl,_,_,rfl,rfl,_,rfl,ifD (fun h=>⟨(by decide),q2 (fun g=>by have:=g.1;omega)⟩) (fun h=>⟨_,rfl,_,_,rfl,rfl,_,rfl,?_⟩)⟩
  refine(fun(G:0≤message→((n:Int)=0→message=0)→_)=>ifD (fun z=>⟨_,rfl,_,_,rfl,rfl,_,rfl,zfA (fun e=>⟨(by decide),q2 (fun g=>e (g.2 z))⟩) (fun e=>G (by omega) (fun _=>by omega))⟩) (fun z=>G (by omega) (fun z'=>absurd z' z))) (fun m0 mz=>?_)
  have q:=q1 ⟨m0,mz⟩
  refine⟨(by decide),fun l hl=>⟨_,rfl,l,(n:Int),_,rfl,rfl,upd_same,by omega,by omega,?_,fun p hp=>?_⟩⟩
  ·show 1*((n:Int)).toNat≤sizeLine
   exact Nat.le_of_lt (small1000 (by omega))
  rw [show ((n:Int)).toNat=n by omega,Wf]
  have hp0:H p=none:=(Same.new hl).free hp
  have s1:Same H (upd (upd H l (.lst [V.int 0])) p (.lst ((List.replicate n (0:Int)).map V.int))):=(Same.new hl).put hp
  have h1:(upd (upd H l (.lst [V.int 0])) p (.lst ((List.replicate n (0:Int)).map V.int))) p=some (.lst ((List.replicate n (0:Int)).map V.int)):=upd_same
  generalize upd (upd H l (.lst [V.int 0])) p (.lst ((List.replicate n (0:Int)).map V.int))=H1 at s1 h1 ⊢
  have mb2:intBits (message+(n:Int))≤60000:=zg (intBits_add_le (m:=50000) (n:=64) mb (zP (by omega) (by omega))) (by decide)
  refine⟨_,rfl,_,rfl,_,rfl,_,_,rfl,rfl,_,rfl,_,_,rfl,rfl,1,rfl,1,rfl,(n:Int)-1,-1,-1,n,rfl,zeM (by omega),zcs (lo:=(n:Int)-1) (c:=-1) (n:=n) (fun i σ H2=>∃(bs:List Int) (left top:Int) (v5:Option V),σ=[some (.int message),some (.int (n:Int)),some (.ref p),some (.int left),some (.int top),v5]∧Same H H2∧H2 p=some (.lst (bs.map V.int))∧bs.length=n∧0≤left∧left≤message∧left+jF bs n=message∧(∀j,j<n-i→bs.getD j 0=0)∧(∀j,j<n→0≤bs.getD j 0)∧(∀j k,n-i≤j→j≤k→k<n→bs.getD j 0≤bs.getD k 0)∧left<ch top ((n-i:Nat):Int)∧((n-i:Nat):Int)≤top∧intBits top≤60000∧(0<i→top=bs.getD (n-i) 0+((n-i:Nat):Int))∧Szs 60010 bs)
   ⟨List.replicate n 0,message,message+(n:Int),none,rfl,s1,h1,by rw [List.length_replicate],m0,Int.le_refl _,by rw [V3];omega,fun j _=>?_,fun j _=>?_,fun j k h1 h2 h3=>by omega,by rw [Nat.sub_zero];exact zfT m0 mz,by omega,mb2,fun z=>absurd z (by omega),fun x hx=>?_⟩ ?_ ?_⟩
  ·rw [List.getD_eq_getElem?_getD,List.getElem?_replicate]
   split <;> rfl
  ·rw [List.getD_eq_getElem?_getD,List.getElem?_replicate]
   split <;> decide
  ·rw [(List.mem_replicate.mp hx).2];decide
  ·rintro i σ H2 hi ⟨bs,left,top,v5,rfl,sm,hB,hl2,l0,l1,sum,z0,nn,mono,lt,tge,tbb,teq,sz⟩
   obtain⟨pl,hpl⟩:∃pl:Nat,pl=n-1-i:=⟨_,rfl⟩
   have ep:(n:Int)-1+(i:Int)*-1=(pl:Int):=by omega
   rw [ep]
   have hpb:pl<bs.length:=by omega
   have hni:n-i=pl+1:=by omega
   rw [hni] at lt tge teq
   refine⟨_,rfl,_,_,rfl,rfl,_,rfl,_,_,rfl,rfl,_,rfl,(pl:Int)+1,left,rfl,by omega,by omega,l0,intBits_le_of_natAbs (y:=message) (by omega) mb,fun a a1 a2 a3=>⟨_,_,rfl,_,rfl,_,_,rfl,rfl,_,rfl,_,(pl:Int)+1,left,rfl,by omega,by omega,l0,?_,?_,?_,fun t tp tb=>?_⟩⟩
   ·split <;> omega
   ·split
    ·exact a2
    ·rw [show top-1+1=top by omega,show ((pl:Int)+1)=((pl+1:Nat):Int) by omega]
     exact lt
   ·split
    ·exact a3
    ·exact intBits_le_of_natAbs (y:=top) (by omega) tbb
   have t0:=tp.lo
   have t1:=tp.le
   have t2:=tp.lt
   refine⟨_,rfl,_,rfl,_,_,rfl,rfl,_,rfl,_,rfl,p,_,_,pl,rfl,rfl,hB,?_,?_⟩
   ·unfold ixN
    rw [List.length_map,if_pos (by omega),if_pos (by omega),Int.toNat_natCast]
   have pas:=zaP (n:=t) (k:=(pl:Int)) (by omega) (by omega)
   refine⟨_,rfl,_,rfl,_,rfl,_,_,rfl,rfl,t,(pl:Int)+1,rfl,by omega,by omega,by omega,zg tb (by decide),_,_,rfl,rfl,?_⟩
   have ge:=Vb t ((pl:Int)+1)
   refine⟨bs.set pl (t-(pl:Int)),left-ch t ((pl:Int)+1),t,_,rfl,sm.wr hp0,by rw [upd_same,List.map_set],by rw [List.length_set];exact hl2,by omega,by omega,?_,fun j hj=>?_,fun j hj=>?_,fun j k h1 h2 h3=>?_,?_,by omega,tb,fun _=>?_,fun x hx=>?_⟩
   ·rw [zaq hpb,if_pos (by omega),z0 pl (by omega),Xp (n:=0+(pl:Int)) (by omega) (by omega),show t-(pl:Int)+(pl:Int)=t by omega]
    omega
   ·rw [Zz hpb,if_neg (by omega)]
    exact z0 j (by omega)
   ·rw [Zz hpb]
    split
    ·omega
    ·exact nn j hj
   ·rw [Zz hpb,Zz hpb]
    by_cases e1:j=pl
    ·rw [if_pos e1]
     by_cases e2:k=pl
     ·rw [if_pos e2];exact Int.le_refl _
     ·rw [if_neg e2]
      have:=top_lt t1 (by rw [show ((pl:Int)+1)=((pl+1:Nat):Int) by omega];exact lt)
      have:=teq (by omega)
      have:=mono (pl+1) k (by omega) (by omega) h3
      omega
    ·rw [if_neg e1,if_neg (by omega)]
     exact mono j k (by omega) h2 h3
   ·rw [show n-(i+1)=pl by omega]
    omega
   ·rw [show n-(i+1)=pl by omega,Zz hpb,if_pos rfl,show t-(pl:Int)+(pl:Int)=t by omega]
   ·rcases List.mem_or_eq_of_mem_set hx with z | z
    ·exact sz x z
    ·rw [z]
     exact zg (intBits_sub_le (m:=60000) (n:=64) tb (zP (by omega) (by omega))) (by decide)
  ·rintro σ H2 ⟨bs,left,top,v5,rfl,sm,hB,hl2,l0,l1,sum,z0,nn,mono,lt,tge,tbb,teq,sz⟩
   rw [Nat.sub_self] at z0 mono lt
   have e0:left=0:=by
    by_cases hn:n=0
    ·subst hn
     have:message=0:=mz rfl
     omega
    ·rw [show ((0:Nat):Int)=0 from rfl,ZM] at lt
     omega
   refine⟨_,rfl,q p bs H2 sm hp0 hB (zeN (fun j hj=>nn j (by omega)) (fun j k h1 h2=>mono j k (Nat.zero_le _) h1 (by omega))) (by omega) ?_ sz⟩
   unfold Zy
   rw [hl2]
   omega
end
noncomputable def cnt (turns bells late:Int):Int:=if turns<bells then 0 else ch ((turns-bells) / (late+1)+bells) bells
noncomputable def yf:Sp:=fun vs H Q _=>∃turns bells late:Int,vs=[.int turns,.int bells,.int late]∧0≤bells∧bells≤1000∧0≤late∧intBits late≤8000∧intBits turns≤70000∧Q (.int (cnt turns bells late)) H
section
noncomputable def za2:Sp:=fun vs H Q _=>∃turns bells late:Int,vs=[.int turns,.int bells,.int late]∧0≤late∧intBits late≤8000∧Q (.int ((turns-bells) / (late+1))) H
theorem Vi:FnScope ["turns","bells","late"] ["turns","bells","late"] (defScope qZ):=⟨rfl,rfl,rfl,by decide +kernel,rfl,by decide +kernel,by decide +kernel⟩
theorem Vj (D:Def K mg "greatest_part" qZ ["turns","bells","late"]):Fn P w K mg base 1 "greatest_part" ["turns","bells","late"] za2:=by
 refine D.fn Vi (fun vs H Q E h=>?_) (fun f cdv A outer s H vs Q E hr h=>?_)
 ·obtain⟨a,b,c,rfl,_⟩:=h
  rfl
 ·obtain⟨turns,bells,late,rfl,l0,lb,q⟩:=h
  refine⟨_,(pss_one (ps_ret (pe_op yo (pe_op qI (pv 0) (pv 1)) (pe_op zx (pv 2) pe_int)))),?_⟩
  have lb1:intBits (late+1)≤9000:=zg (intBits_add_le (m:=8000) (n:=1) lb (by decide)) (by decide)
  exact⟨_,rfl,_,rfl,_,_,rfl,rfl,_,rfl,_,_,rfl,rfl,_,_,rfl,rfl,⟨by omega,lb1⟩,q⟩
theorem za3:FnScope ["turns","bells","late"] ["turns","bells","late"] (defScope vd):=⟨rfl,rfl,rfl,by decide +kernel,rfl,by decide +kernel,by decide +kernel⟩
theorem za4 (D:Def K mg "box_count" vd ["turns","bells","late"]) (T:Txt K mg) (wQ:Fn P w K mg base 1 "greatest_part" ["turns","bells","late"] za2) (jc:Fn P w K mg base 1 "choose" ["n","k"] Zu):Fn P w K mg base 2 "box_count" ["turns","bells","late"] yf:=by
 refine D.fn za3 (fun vs H Q E h=>?_) (fun f cdv A outer s H vs Q E hr h=>?_)
 ·obtain⟨a,b,c,rfl,_⟩:=h
  rfl
 ·obtain⟨turns,bells,late,rfl,b0,b1,l0,lb,tb,q⟩:=h
  refine⟨_,(pss_cons (ps_if (pt_cmpR xG (pv 1) (pv 0) (nomark _))
    (pss_one (ps_ret pe_int))
    pss_nil)
   (pss_one (ps_ret (zq jc (hr.mono (by decide)) (by rfl) (pa_cons (pe_op zx (zq wQ (hr.mono (by decide)) (by rfl) (pa_cons (pv 0) (pa_cons (pv 1) (pa_cons (pv 2) pa_nil)))) (pv 1)) (pa_cons (pv 1) pa_nil)))))),?_⟩
  unfold cnt at q
  refine⟨_,rfl,_,rfl,_,_,rfl,rfl,_,rfl,ifD (fun h=>?_) (fun h=>?_)⟩
  ·rw [if_pos h] at q
   exact q
  ·rw [if_neg h] at q
   have d0:0≤(turns-bells) / (late+1):=Int.ediv_nonneg (by omega) (by omega)
   have db:intBits ((turns-bells) / (late+1))≤70000:=by
    have h2:=Int.ediv_le_self (late+1) (show 0≤turns-bells by omega)
    exact intBits_le_of_natAbs (y:=turns) (by omega) tb
   refine⟨_,rfl,_,rfl,_,rfl,turns,bells,late,rfl,l0,lb,_,rfl,_,_,rfl,rfl,_,rfl,_,bells,rfl,by omega,b0,b1,?_,q⟩
   exact zg (intBits_add_le (m:=70000) (n:=64) db (zP b0 (by omega))) (by decide)
end
theorem JN (turns bells late:Int):0≤cnt turns bells late:=by
 unfold cnt
 split
 ·exact Int.le_refl _
 ·exact Vb _ _
theorem zb2 {turns bells late:Int}{m:Nat} (b0:0≤bells) (b1:bells≤61) (l0:0≤late) (t0:0≤turns) (tb:intBits turns≤m) (hm:7≤m):intBits (cnt turns bells late)≤(m+1)*61+1:=by
 unfold cnt
 split
 ·exact Nat.zero_le _
 ·have d0:0≤(turns-bells) / (late+1):=Int.ediv_nonneg (by omega) (by omega)
  have d1:(turns-bells) / (late+1)≤turns-bells:=Int.ediv_le_self _ (by omega)
  have nb:intBits ((turns-bells) / (late+1)+bells)≤m+1:=zg (intBits_le_of_natAbs (y:=turns) (by omega) tb) (by omega)
  have:=Kr (k:=bells.toNat) nb (by omega)
  rw [show ((bells.toNat:Nat):Int)=bells by omega] at this
  exact zg this (Nat.add_le_add_right (Nat.mul_le_mul_left _ (by omega)) _)
theorem Xz {x y:Int}{m:Nat} (h0:0≤x) (h1:x<y) (hy:intBits y≤m):intBits x≤m:=intBits_le_of_natAbs (y:=y) (by omega) hy
section
noncomputable def Wg (K:W.Frag) (C:Addr):Sp:=fun vs H Q E=>∃message turns bells late:Int,vs=[.int message,.int turns,.int bells,.int late]∧0≤bells∧bells≤60∧0≤late∧intBits late≤8000∧intBits turns≤70000∧intBits message≤50000 ∧
 ((0≤message∧message<cnt turns bells late)→∀(p:Addr) (bs:List Int) (H':Hp),Same H H'→H p=none→H' p=some (.lst ((qO late bs).map V.int))→jd bs→bs.length=bells.toNat→Zy bs=message→Szs 60010 bs→Q (.ref p) H') ∧
 (¬(0≤message∧message<cnt turns bells late)→E (.ref C) none H)
theorem za5 {message turns late:Int} (h0:0≤message) (h:message<cnt turns 0 late):message=0:=by
 unfold cnt at h
 split at h
 ·omega
 ·rw [ZM] at h;omega
theorem zcP:FnScope ["message","turns","bells","late"] ["message","turns","bells","late"] (defScope yq):=⟨rfl,rfl,rfl,by decide +kernel,rfl,by decide +kernel,by decide +kernel⟩
theorem zb3 {zj:Addr} (D:Def K mg "written" yq ["message","turns","bells","late"]) (T:Txt K mg) (zV:mg "TooGreat"=some (.ref zj)) (qj:W.excIn K zj bmV "ValueError.__new__"=true) (zA:Fn P w K mg base 2 "box_count" ["turns","bells","late"] yf) (vI:FnE P w K mg base 39 "box_of_message" ["message","bells"] (zar K zj)) (zcQ:Fn P w K mg base 1 "bell_row" ["box","late"] (zam K)) :
  FnE P w K mg base 40 "written" ["message","turns","bells","late"] (Wg K zj):=by
 refine D.fnE zcP (fun vs H Q E h=>?_) (fun f cdv A outer s H vs Q E hr h=>?_)
 ·obtain⟨a,b,c,d,rfl,_⟩:=h
  rfl
 ·obtain⟨message,turns,bells,late,rfl,b0,b60,l0,lb,tb,mb,q1,q2⟩:=h
  refine⟨_,(pss_cons (ps_if (pw_or (pt_cmpR yV (pv 0) pe_int (nomark _)) (pw_or1 (pt_cmpR zaI (pv 0) (zq zA (hr.mono (by decide)) (by rfl) (pa_cons (pv 1) (pa_cons (pv 2) (pa_cons (pv 3) pa_nil)))) (nomark _)))).pt
    (pss_one (qi PySem.F.excBase_ValueError qj (by rfl) zV (pa_cons pe_str pa_nil)))
    pss_nil)
   (pss_one (ps_ret (zq zcQ (hr.mono (by decide)) (by rfl) (pa_cons (qu vI (hr.mono (by decide)) (by rfl) zQ (pa_cons (pv 0) (pa_cons (pv 2) pa_nil))) (pa_cons (pv 3) pa_nil)))))),?_⟩
  refine⟨_,rfl,_,_,rfl,rfl,_,rfl,ifD (fun h=>⟨(by decide),q2 (fun g=>by omega)⟩) (fun h=>⟨_,rfl,_,rfl,_,rfl,_,rfl,turns,bells,late,rfl,b0,by omega,l0,lb,tb,_,_,rfl,rfl,_,rfl,ifD (fun h2=>⟨(by decide),q2 (fun g=>by omega)⟩) (fun h2=>?_)⟩)⟩
  have m0:0≤message:=by omega
  have m1:message<cnt turns bells late:=by omega
  have q:=q1 ⟨m0,m1⟩
  have gm:zeP message bells:=⟨m0,fun z=>za5 m0 (z ▸ m1)⟩
  refine⟨_,rfl,_,rfl,message,bells,rfl,b0,b60,mb,fun _ p bs H1 s1 hp h1 B hl hnum sz=>?_,fun nb=>absurd gm nb⟩
  refine⟨_,rfl,p,bs,late,rfl,SqL.of h1,by omega,lb,fun x hx=>zg (sz x hx) (by decide),fun p2 H2 s2 hp2 h2=>?_⟩
  exact q p2 bs H2 (s1.trans s2) (s1.free hp2) h2 B hl hnum sz
end
theorem zg2 {bs:List Int} (B:jd bs){turns late:Int}{i:Nat} (l0:0≤late) (h:Zy bs<cnt turns (bs.length:Int) late) (hi:i<bs.length):(bs.length:Int)≤turns∧bs.getD i 0*(late+1)≤turns-(bs.length:Int):=by
 unfold cnt at h
 have n0:=vG bs bs.length
 split at h
 ·have:Zy bs=jF bs bs.length:=rfl
  omega
 ·rename_i hle
  refine⟨by omega,?_⟩
  have tp:=Vh B (i:=bs.length-1) (by omega)
  have t1:=tp.le
  have e1:bs.length-1+1=bs.length:=by omega
  have e2:((bs.length-1:Nat):Int)+1=(bs.length:Int):=by omega
  rw [e1,e2] at t1
  have lt:=top_lt t1 (show jF bs bs.length < _ from h)
  have m:=B.le' (i:=i) (j:=bs.length-1) (by omega) (by omega)
  have d1:bs.getD i 0≤(turns-(bs.length:Int)) / (late+1):=by omega
  exact(Int.le_ediv_iff_mul_le (by omega)).mp d1
noncomputable def GoodR (turns bells late:Int) (ns:List Int):Prop:=(ns.length:Int)=bells∧jd (vX late ns)∧Zy (vX late ns)<cnt turns bells late
section
noncomputable def zdv (K:W.Frag) (C:Addr):Sp:=fun vs H Q E=>∃(a:Addr) (ns:List Int) (turns bells late:Int),vs=[.ref a,.int turns,.int bells,.int late]∧SqL K H a (ns.map V.int)∧0≤bells∧bells≤60∧0≤late∧intBits late≤8000∧intBits turns≤70000∧((ns.length:Int)=bells→Szs 70000 (vX late ns)) ∧
 (GoodR turns bells late ns→∀H',Same H H'→Q (.int (Zy (vX late ns))) H')∧(¬GoodR turns bells late ns→∀H',Same H H'→E (.ref C) none H')
theorem zdw:FnScope ["reading","turns","bells","late","message"] ["reading","turns","bells","late"] (defScope Xw):=⟨rfl,rfl,rfl,by decide +kernel,rfl,by decide +kernel,by decide +kernel⟩
theorem zeQ {za:Addr} (D:Def K mg "read" Xw ["reading","turns","bells","late"]) (T:Txt K mg) (zJ:mg "NoReading"=some (.ref za)) (zW:W.excIn K za bmV "ValueError.__new__"=true) (zA:Fn P w K mg base 2 "box_count" ["turns","bells","late"] yf) (ZZ:FnE P w K mg base 2 "heard_box" ["reading","late"] (zdu K za)) (za6:Fn P w K mg base 2 "box_number" ["box"] (zgH K)) :
  FnE P w K mg base 3 "read" ["reading","turns","bells","late"] (zdv K za):=by
 refine D.fnE zdw (fun vs H Q E h=>?_) (fun f cdv A outer s H vs Q E hr h=>?_)
 ·obtain⟨a,b,c,d,e,rfl,_⟩:=h
  rfl
 ·obtain⟨a,ns,turns,bells,late,rfl,hA,b0,b60,l0,lb,tb,sz,q1,q2⟩:=h
  refine⟨_,(pss_cons (ps_if (pt_cmpR zcp (pe_callB call_len_seq (by rfl) T.z_len xQ (pa_cons (pv 0) pa_nil)) (pv 2) (nomark _))
    (pss_one (qi PySem.F.excBase_ValueError zW (by rfl) zJ (pa_cons pe_str pa_nil)))
    pss_nil)
   (pss_cons (ps_set (i:=4) zdw.nd rfl (Or.inl rfl) (zq za6 (hr.mono (by decide)) (by rfl) (pa_cons (qu ZZ (hr.mono (by decide)) (by rfl) zQ (pa_cons (pv 0) (pa_cons (pv 3) pa_nil))) pa_nil)))
   (pss_cons (ps_if (pt_cmpR zaI (pv 4) (zq zA (hr.mono (by decide)) (by rfl) (pa_cons (pv 1) (pa_cons (pv 2) (pa_cons (pv 3) pa_nil)))) (nomark _))
    (pss_one (qi PySem.F.excBase_ValueError zW (by rfl) zJ (pa_cons pe_str pa_nil)))
    pss_nil)
   (pss_one (ps_ret (pv 4)))))),?_⟩
  refine⟨_,rfl,_,_,rfl,.inl hA,_,rfl,_,_,rfl,rfl,_,rfl,?_⟩
  rw [List.length_map]
  refine zfA (fun e=>⟨(by decide),q2 (fun g=>e g.1) _ (Same.refl _)⟩) (fun e=>?_)
  refine⟨_,rfl,_,rfl,a,ns,late,rfl,hA,by omega,l0,lb,fun B p H1 s1 hp h1=>?_,fun nB H1 s1=>q2 (fun g=>nB g.2.1) _ s1⟩
  refine⟨p,vX late ns,rfl,SqL.of h1,by rw [V0];omega,B.nn,sz e,fun H2 s2=>?_⟩
  refine⟨_,rfl,_,rfl,_,rfl,_,rfl,turns,bells,late,rfl,by omega,by omega,l0,lb,tb,_,_,rfl,rfl,_,rfl,ifD (fun h=>?_) (fun h=>?_)⟩
  ·exact⟨(by decide),q2 (fun g=>by have:=g.2.2;omega) _ (s1.trans s2)⟩
  ·exact⟨_,rfl,q1 ⟨e,B,by omega⟩ _ (s1.trans s2)⟩
end
noncomputable def zkZ (turns bells late:Int):Int:=if bells=0 then 0 else if turns=0 then 0 else cnt (turns-1) (bells-1) (2*late)
section
end
section
end
theorem Vk {c:TT}{tA tB R:TS}{D:Ends}{σ:St}{H:Hp} (Pre:St→Hp→Prop) (tail:∀σ H,Pre σ H→R D σ H) (h:∀N:St→Hp→Prop,(∀σ H,Pre σ H→N σ H)→tIfS c tA tB { D with nx:=N } σ H):tSeq (tIfS c tA tB) R D σ H:=h (fun σ H=>R D σ H) tail
theorem zfU {bs:List Int}{turns late:Int} (B:jd bs) (l0:0≤late) (h:Zy bs<cnt turns (bs.length:Int) late):∀x∈qO late bs,0≤x∧x<turns:=fun x hx=>by
 obtain⟨i,hi⟩:=List.getElem?_of_mem hx
 obtain⟨c,hc,rfl⟩:=zcO hi
 have il:=(List.getElem?_eq_some_iff.mp hc).1
 have:=zg2 B l0 h il
 rw [List.getD_eq_getElem?_getD,hc,Option.getD_some] at this
 have:=Int.mul_nonneg (B.2 c (List.mem_of_getElem? hc)) (show 0≤late+1 by omega)
 omega
theorem zcR {x:Str}{acc:Addr}{own:Nat}{ix:List Nat}{g:TG}{te:TE}{σ:St}{H1:Hp}{Q:VK} (f:Nat→V) (hn:H1 acc=none) (hz:x.length≤sizeLine)
  (step:∀(i c:Nat) (H:Hp) (R:VK),x.cps[i]?=some c→Same H1 H→R (f c) H→g (.str ⟨#[c]⟩) (jk own ix σ) H fun σ4 H4=>σ4.drop own=ix.map (fun i=>(σ[i]?).getD none)∧te σ4 H4 R)
  (hd:Q (.ref acc) (upd H1 acc (.lst ((cpl x).map f)))):Qs (Its x) own ix g yP te σ H1 acc Q:=by
 have sz:x.cps.size=(cpl x).length:=by simp [cpl]
 refine⟨fun i m ys H=>m=x.cps.size-i∧i≤x.cps.size∧ys=((cpl x).take i).map f∧H=upd H1 acc (.lst ys),⟨x.cps.size,by simp,Nat.zero_le _,rfl,rfl⟩,?_⟩
 rintro i m ys H ⟨rfl,hi,rfl,rfl⟩
 refine⟨upd_same,?_⟩
 by_cases hlt:i<x.cps.size
 ·refine .inr ⟨hlt,?_,fun v H3 y=>?_⟩
  ·rw [List.length_map,List.length_take]
   have:x.length=x.cps.size:=rfl
   omega
  obtain⟨e,c,hc,e2⟩:=y
  subst e e2
  refine step i c _ _ hc (Same.new hn) ⟨upd_same,x.cps.size-(i+1),by omega,rfl,hlt,?_,by rw [upd_upd]⟩
  have hc':(cpl x)[i]?=some c:=by rw [← hc];simp [cpl]
  rw [List.take_add_one,hc',List.map_append]
  rfl
 ·have e:i=x.cps.size:=by omega
  subst e
  rw [sz,List.take_length]
  exact .inl ⟨Nat.le_refl _,hd⟩
noncomputable def zcS (x s:Str) (most:Int):Prop:=1≤x.length∧(x.length:Int)≤most∧∀c∈cpl x,c∈cpl s
structure zK (x:Str):Prop where
 ne:1≤x.length
 le:x.length≤8
 let_:∀c∈cpl x,97≤c∧c≤122
theorem zdx:∀c:Nat,c∈cpl "abcdefghijklmnopqrstuvwxyz"↔97≤c∧c≤122:=fun c=>by
 have e:cpl "abcdefghijklmnopqrstuvwxyz"=(List.range 26).map (·+97):=by decide +kernel
 rw [e,List.mem_map]
 constructor
 ·rintro⟨i,hi,rfl⟩
  have:=List.mem_range.mp hi
  omega
 ·intro h
  exact⟨c-97,List.mem_range.mpr (by omega),by omega⟩
theorem zdy:∀c:Nat,c∈cpl "0123456789"↔48≤c∧c≤57:=fun c=>by
 have e:cpl "0123456789"=(List.range 10).map (·+48):=by decide +kernel
 rw [e,List.mem_map]
 constructor
 ·rintro⟨i,hi,rfl⟩
  have:=List.mem_range.mp hi
  omega
 ·intro h
  exact⟨c-48,List.mem_range.mpr (by omega),by omega⟩
theorem zd4 {x:Str}:zcS x "abcdefghijklmnopqrstuvwxyz" 8↔zK x:=by
 constructor
 ·rintro⟨h1,h2,h3⟩
  exact⟨h1,by omega,fun c hc=>(zdx c).mp (h3 c hc)⟩
 ·rintro⟨h1,h2,h3⟩
  exact⟨h1,by omega,fun c hc=>(zdx c).mpr (h3 c hc)⟩
theorem Jh {x:Str} (h:zK x):Qp x:=fun z=>by
 have:=h.let_ 32 z
 omega
theorem zeR:cpl "0"=[48]:=by decide +kernel
theorem XC {x:Str}{most:Nat}:Num most x↔zcS x "0123456789" (most:Int)∧¬((cpl x)[0]?=some 48∧x≠"0"):=by
 constructor
 ·intro h
  refine⟨⟨h.ne,by have:=h.le;omega,fun c hc=>(zdy c).mpr (h.dig c hc)⟩,fun z=>z.2 (yR ?_)⟩
  rw [h.led z.1,zeR]
 ·rintro⟨⟨h1,h2,h3⟩,h4⟩
  refine⟨h1,by omega,fun c hc=>(zdy c).mp (h3 c hc),fun z=>?_⟩
  have:x="0":=Classical.byContradiction fun n=>h4 ⟨z,n⟩
  rw [this,zeR]
section
noncomputable def za7:Sp:=fun vs H Q _=>∃(x s:Str) (most:Int),vs=[.str x,.str s,.int most]∧x.length≤1000000∧∀(b:Bool) (H':Hp),Same H H'→(b=true↔zcS x s most)→Q (.bl b) H'
theorem Yb:FnScope ["word","signs","most"] ["word","signs","most"] (defScope j4):=⟨rfl,rfl,rfl,by decide +kernel,rfl,by decide +kernel,by decide +kernel⟩
theorem zfV (D:Def K mg "is_made_of" j4 ["word","signs","most"]) (T:Txt K mg):Fn P w K mg base 1 "is_made_of" ["word","signs","most"] za7:=by
 refine D.fn Yb (fun vs H Q E h=>?_) (fun f cdv A outer s H vs Q E hr h=>?_)
 ·obtain⟨x,sg,most,rfl,_⟩:=h
  rfl
 ·obtain⟨x,sg,most,rfl,xl,q⟩:=h
  have xs:x.length≤sizeLine:=by rw [sizeLine_eq];omega
  refine⟨_,(pss_one (ps_ret (pe_and (pe_chain zeh zeh pe_int (pe_callB call_len_str (by rfl) T.z_len xQ (pa_cons (pv 0) pa_nil)) (pv 2)) (pe_one (pe_callB (zek rfl) (by rfl) T.z_all zkL (pa_cons (jT (own:=["sign"]) (fr:=["signs"]) (ix:=[1]) rfl ⟨rfl,rfl,rfl,rfl,rfl,rfl⟩ (zdm (pv 0)) (fun _ _ _ _ _=>(pg_name (i:=0) (show (["sign","signs"]:List Str).Nodup by decide +kernel) rfl (Or.inl rfl))) (fun _ _ _ _ _=>qJ) (fun _ _ _ _ _=>(pe_cmpR op_in_str (pv 0) (pv 1) (by with_unfolding_all rfl)))) pa_nil)))))),?_⟩
  refine⟨_,rfl,x,rfl,xs,_,_,rfl,rfl,_,rfl,ifD (fun h1=>⟨_,rfl,_,_,rfl,rfl,_,rfl,ifD (fun h2=>?_) (fun h2=>q false H (Same.refl _) ⟨(fun z=>nomatch z),fun z=>absurd z.2.1 h2⟩)⟩) (fun h1=>⟨_,rfl,iteF (q false H (Same.refl _) ⟨(fun z=>nomatch z),fun z=>absurd (show (1:Int)≤(x.length:Int) by have:=z.1;omega) h1⟩)⟩)⟩
  refine⟨_,rfl,x,rfl,fun acc hacc=>zcR (fun c=>V.bl (decide (c∈cpl sg))) hacc xs (fun i c H6 R hc s6 hR=>?_) ?_⟩
  ·refine⟨rfl,_,rfl,_,rfl,_,_,rfl,rfl,?_⟩
   rw [StrLaws.found_one]
   exact hR
  ·refine⟨acc,(cpl x).map (fun c=>decide (c∈cpl sg)),rfl,SqL.of (by rw [upd_same,List.map_map];rfl),q _ _ (Same.new hacc) ?_⟩
   rw [List.all_eq_true]
   constructor
   ·intro z
    exact⟨by omega,h2,fun c hc=>of_decide_eq_true (z _ (List.mem_map.mpr ⟨c,hc,rfl⟩))⟩
   ·rintro⟨_,_,z⟩ b hb
    obtain⟨c,hc,rfl⟩:=List.mem_map.mp hb
    exact decide_eq_true (z c hc)
noncomputable def Kw (C:Addr):Sp:=fun vs H Q E=>∃x:Str,vs=[.str x]∧x.length≤1000000∧(zK x→∀H',Same H H'→Q (.str x) H')∧(¬zK x→∀H',Same H H'→E (.ref C) none H')
theorem zcT:FnScope ["word"] ["word"] (defScope yu):=⟨rfl,rfl,rfl,by decide +kernel,rfl,by decide +kernel,by decide +kernel⟩
theorem zcU (D:Def K mg "name_in" yu ["word"]) (T:Txt K mg){zc:Addr} (zL:mg "NoOrder"=some (.ref zc)) (zT:W.excIn K zc bmV "ValueError.__new__"=true){ZC jL:Tok} (v8:mg "LETTERS"=some (.str "abcdefghijklmnopqrstuvwxyz" ZC)) (qC:mg "MOST_LETTERS"=some (.int 8 jL)) (jU:Fn P w K mg base 1 "is_made_of" ["word","signs","most"] za7):FnE P w K mg base 2 "name_in" ["word"] (Kw zc):=by
 refine D.fnE zcT (fun vs H Q E h=>?_) (fun f cdv A outer s H vs Q E hr h=>?_)
 ·obtain⟨x,rfl,_⟩:=h
  rfl
 ·obtain⟨x,rfl,xl,q1,q2⟩:=h
  refine⟨_,(pss_cons (ps_if (pt_not (pt_val (zq jU (hr.mono (by decide)) (by rfl) (pa_cons (pv 0) (pa_cons (pe_glob (v:=.str "abcdefghijklmnopqrstuvwxyz") (by rfl) v8 ⟨_,rfl⟩) (pa_cons (pe_glob (v:=.int 8) (by rfl) qC ⟨_,rfl⟩) pa_nil))))))
    (pss_one (qi PySem.F.excBase_ValueError zT (by rfl) zL (pa_cons pe_str pa_nil)))
    pss_nil)
   (pss_one (ps_ret (pv 0)))),?_⟩
  refine⟨_,rfl,x,_,8,rfl,xl,fun b H1 s1 hb=>?_⟩
  rw [zd4] at hb
  cases b
  ·exact⟨_,rfl,iteT ⟨(by decide),q2 (fun z=>by cases hb.mpr z) H1 s1⟩⟩
  ·exact⟨_,rfl,iteF ⟨_,rfl,q1 (hb.mp rfl) H1 s1⟩⟩
noncomputable def zeS (C:Addr):Sp:=fun vs H Q E=>∃(x:Str) (most:Nat),vs=[.str x,.int (most:Int)]∧x.length≤1000000∧most≤4300∧(Num most x→x.length≤640)∧(Num most x→∀H',Same H H'→Q (.int (jl x)) H')∧(¬Num most x→∀H',Same H H'→E (.ref C) none H')
theorem Yc:FnScope ["word","most"] ["word","most"] (defScope j5):=⟨rfl,rfl,rfl,by decide +kernel,rfl,by decide +kernel,by decide +kernel⟩
theorem Yd (D:Def K mg "figures_in" j5 ["word","most"]) (T:Txt K mg){zc:Addr} (zL:mg "NoOrder"=some (.ref zc)) (zT:W.excIn K zc bmV "ValueError.__new__"=true){ZD:Tok} (v9:mg "FIGURES"=some (.str "0123456789" ZD)) (jU:Fn P w K mg base 1 "is_made_of" ["word","signs","most"] za7):FnE P w K mg base 2 "figures_in" ["word","most"] (zeS zc):=by
 refine D.fnE Yc (fun vs H Q E h=>?_) (fun f cdv A outer s H vs Q E hr h=>?_)
 ·obtain⟨x,most,rfl,_⟩:=h
  rfl
 ·obtain⟨x,most,rfl,xl,ml,sz,q1,q2⟩:=h
  have xs:x.length≤sizeLine:=by rw [sizeLine_eq];omega
  refine⟨_,(pss_cons (ps_if (pw_or (pt_not (pt_val (zq jU (hr.mono (by decide)) (by rfl) (pa_cons (pv 0) (pa_cons (pe_glob (v:=.str "0123456789") (by rfl) v9 ⟨_,rfl⟩) (pa_cons (pv 1) pa_nil)))))) (pw_or1 (pw_and (pt_cmpR op_eq (pe_ix ix_str (pv 0) pe_int (fun _ _=>rfl)) pe_str (nomark _)) (pw_and1 (pt_cmpR op_ne (pv 0) pe_str (nomark _)))).pt)).pt
    (pss_one (qi PySem.F.excBase_ValueError zT (by rfl) zL (pa_cons pe_str pa_nil)))
    pss_nil)
   (pss_one (ps_ret (pe_callTy zdW (by rfl) T.z_int zgy (pa_cons (pv 0) pa_nil))))),?_⟩
  refine⟨_,rfl,_,rfl,x,_,_,rfl,xl,fun b H1 s1 hb=>?_⟩
  cases b
  ·exact⟨_,rfl,iteT (iteT ⟨(by decide),q2 (fun z=>by cases hb.mpr (XC.mp z).1) H1 s1⟩)⟩
  ·have hm:=hb.mp rfl
   refine⟨_,rfl,iteF ?_⟩
   obtain⟨c,r,hx⟩:∃c r,cpl x=c::r:=by
    cases e:cpl x with
    | nil=>
     have:=hm.1
     rw [← zN,e] at this
     exact absurd this (by decide)
    | cons c r=>exact⟨c,r,rfl⟩
   have e0:(cpl x)[0]?=some c:=by rw [hx];rfl
   have ha:atI x.cps.toList 0=some c:=by
    show atI (cpl x) 0=some c
    rw [hx]
    exact(show atI (c::r) ((0:Nat):Int)=some c from atI_nat rfl)
   refine⟨_,rfl,x,0,c,rfl,rfl,xs,ha,rfl,_,rfl,ifD (fun z=>?_) (fun z=>?_)⟩
   ·have z:(⟨#[c]⟩:Str)="0":=V.str.inj z
    have ec:c=48:=by
     have:=congrArg cpl z
     rw [zeR] at this
     simpa [cpl] using this
    subst ec
    refine⟨_,rfl,rfl,_,rfl,zfA (fun n=>⟨(by decide),q2 (fun y=>(XC.mp y).2 ⟨e0,fun k=>n (by rw [k])⟩) H1 s1⟩) (fun n=>?_)⟩
    have n:x="0":=V.str.inj n
    have y:Num most x:=XC.mpr ⟨hm,fun k=>k.2 n⟩
    exact⟨_,rfl,x,jl x,rfl,num_reads y ml,sz y,q1 y H1 s1⟩
   ·have y:Num most x:=XC.mpr ⟨hm,fun k=>z (by rw [e0] at k;cases k.1;rfl)⟩
    exact iteF ⟨_,rfl,x,jl x,rfl,num_reads y ml,sz y,q1 y H1 s1⟩
noncomputable def za8 (C:Addr) (most:Nat):Sp:=fun vs H Q E=>∃x:Str,vs=[.str x]∧x.length≤1000000∧(Num most x→x.length≤640)∧(Num most x→∀H',Same H H'→Q (.int (jl x)) H')∧(¬Num most x→∀H',Same H H'→E (.ref C) none H')
theorem za9:FnScope ["word"] ["word"] (defScope vg):=⟨rfl,rfl,rfl,by decide +kernel,rfl,by decide +kernel,by decide +kernel⟩
theorem zba (D:Def K mg "number_in" vg ["word"]) (T:Txt K mg){zc:Addr}{jM:Tok} (qD:mg "MOST_FIGURES"=some (.int 60 jM)) (Zb:FnE P w K mg base 2 "figures_in" ["word","most"] (zeS zc)):FnE P w K mg base 3 "number_in" ["word"] (za8 zc 60):=by
 refine D.fnE za9 (fun vs H Q E h=>?_) (fun f cdv A outer s H vs Q E hr h=>?_)
 ·obtain⟨x,rfl,_⟩:=h
  rfl
 ·obtain⟨x,rfl,xl,sz,q1,q2⟩:=h
  exact⟨_,(pss_one (ps_ret (qu Zb (hr.mono (by decide)) (by rfl) zQ (pa_cons (pv 0) (pa_cons (pe_glob (v:=.int 60) (by rfl) qD ⟨_,rfl⟩) pa_nil))))),_,rfl,x,60,rfl,xl,by decide,sz,q1,q2⟩
theorem zdz {x:Str} (h:Num 60 x):x.length≤640:=Nat.le_trans h.le (by decide)
noncomputable def Vl (x:Str):Prop:=Num 60 x∧jl x≤60
noncomputable def zb4 (C:Addr):Sp:=fun vs H Q E=>∃x:Str,vs=[.str x]∧x.length≤1000000∧(Vl x→∀H',Same H H'→Q (.int (jl x)) H')∧(¬Vl x→∀H',Same H H'→E (.ref C) none H')
theorem V4:FnScope ["word","bells"] ["word"] (defScope wJ):=⟨rfl,rfl,rfl,by decide +kernel,rfl,by decide +kernel,by decide +kernel⟩
theorem zb5 (D:Def K mg "bells_in" wJ ["word"]) (T:Txt K mg){zc:Addr} (zL:mg "NoOrder"=some (.ref zc)) (zT:W.excIn K zc bmV "ValueError.__new__"=true){vJ:Tok} (jt:mg "MOST_BELLS"=some (.int 60 vJ)) (ql:FnE P w K mg base 3 "number_in" ["word"] (za8 zc 60)):FnE P w K mg base 4 "bells_in" ["word"] (zb4 zc):=by
 refine D.fnE V4 (fun vs H Q E h=>?_) (fun f cdv A outer s H vs Q E hr h=>?_)
 ·obtain⟨x,rfl,_⟩:=h
  rfl
 ·obtain⟨x,rfl,xl,q1,q2⟩:=h
  refine⟨_,(pss_cons (ps_set (i:=1) V4.nd rfl (Or.inl rfl) (qu ql (hr.mono (by decide)) (by rfl) zQ (pa_cons (pv 0) pa_nil)))
   (pss_cons (ps_if (pt_cmpR xG (pv 1) (pe_glob (v:=.int 60) (by rfl) jt ⟨_,rfl⟩) (nomark _))
    (pss_one (qi PySem.F.excBase_ValueError zT (by rfl) zL (pa_cons pe_str pa_nil)))
    pss_nil)
   (pss_one (ps_ret (pv 1))))),?_⟩
  refine⟨_,rfl,x,rfl,xl,zdz,fun n H1 s1=>?_,fun n H1 s1=>q2 (fun z=>n z.1) H1 s1⟩
  exact⟨_,rfl,_,_,rfl,rfl,_,rfl,ifD (fun z=>⟨(by decide),q2 (fun y=>by have:=y.2;omega) H1 s1⟩) (fun z=>⟨_,rfl,q1 ⟨n,by omega⟩ H1 s1⟩)⟩
structure Vm (ws:List Str):Prop where
 num:∀x∈ws,Num 60 x
 inc:(ws.map jl).Pairwise (·≤·)
noncomputable def zb6 (K:W.Frag) (_:Addr):Sp:=fun vs H Q _=>∃(a:Addr) (ws:List Str),vs=[.ref a]∧SqL K H a (ws.map V.str)∧ws.length≤1000000∧(∀x∈ws,x.length≤1000000)∧Vm ws∧∀(p:Addr) (H':Hp),Same H H'→H p=none→H' p=some (.lst ((ws.map jl).map V.int))→Q (.ref p) H'
theorem wM:FnScope ["words","turns","before","turn"] ["words"] (defScope wK):=⟨rfl,rfl,rfl,by decide +kernel,rfl,by decide +kernel,by decide +kernel⟩
theorem zb7 (D:Def K mg "turns_in" wK ["words"]) (T:Txt K mg){zc:Addr} (zL:mg "NoOrder"=some (.ref zc)) (zT:W.excIn K zc bmV "ValueError.__new__"=true) (ql:FnE P w K mg base 3 "number_in" ["word"] (za8 zc 60)):FnE P w K mg base 4 "turns_in" ["words"] (zb6 K zc):=by
 have zb8:=zaY ql
 refine D.fnE wM (fun vs H Q E h=>?_) (fun f cdv A outer s H vs Q E hr h=>?_)
 ·obtain⟨a,ws,rfl,_⟩:=h
  rfl
 ·obtain⟨a,ws,rfl,hS,wl,wb,GT,q1⟩:=h
  refine⟨_,(pss_cons (Xo (k:=1) (own:=["word"]) (fr:=[]) (ix:=[]) rfl wM.nd rfl rfl ⟨rfl,rfl,rfl,rfl,rfl,rfl⟩ (pi_list (pv 0)) (fun _ _ _ _ _=>(pg_name (i:=0) (show (["word"]:List Str).Nodup by decide +kernel) rfl (Or.inl rfl))) (fun _ _ _ _ _=>qJ) (fun _ _ _ _ _=>(zq zb8 (hr.mono (by decide)) (by rfl) (pa_cons (pv 0) pa_nil))))
   (pss_cons (ps_set (i:=2) wM.nd rfl (Or.inl rfl) pe_int)
   (pss_cons (ps_for PassesOwn.leaving rfl (pi_list (pv 1)) (pg_name (i:=3) wM.nd rfl (Or.inl rfl))
    (pss_cons (ps_if (pt_cmpR yV (pv 3) (pv 2) (nomark _))
     (pss_one (qi PySem.F.excBase_ValueError zT (by rfl) zL (pa_cons pe_str pa_nil)))
     pss_nil)
    (pss_one (ps_set (i:=2) wM.nd rfl (Or.inl rfl) (pv 3)))))
   (pss_one (ps_ret (pv 1)))))),?_⟩
  refine⟨_,rfl,a,rfl,⟨_,hS⟩,fun acc hacc=>zcy (K:=K) (a:=a) (xs:=ws.map V.str) (fun i v _=>∃x,ws[i]?=some x∧Num 60 x∧v=V.int (jl x)) (fun _ _ _ _ _ h=>h) (fun _ _ _ _ _ _ h=>h) hS hacc (by rw [List.length_map,sizeLine_eq];omega) (fun i x H6 R hx s6 hR=>?_) ?_⟩
  ·rw [List.getElem?_map] at hx
   obtain⟨y,hy,rfl⟩:=Option.map_eq_some_iff.mp hx
   have ym:=List.mem_of_getElem? hy
   exact⟨rfl,_,rfl,y,rfl,wb y ym,zdz,fun n H7 s7=>hR _ _ s7 ⟨y,hy,n,rfl⟩,fun n=>absurd (GT.num y ym) n⟩
  intro ys H2 s2 hY yl yp
  rw [List.length_map] at yl
  have zl3:∀x∈ws,Num 60 x:=fun x hx=>by
   obtain⟨i,hi⟩:=List.getElem?_of_mem hx
   have il:=(List.getElem?_eq_some_iff.mp hi).1
   obtain⟨y,h1,h2,_⟩:=yp i _ (List.getElem?_eq_getElem (by omega))
   rw [hi] at h1
   cases h1
   exact h2
  have ey:ys=(ws.map jl).map V.int:=by
   apply List.ext_getElem?
   intro i
   rw [List.map_map,List.getElem?_map]
   by_cases hi:i<ys.length
   ·obtain⟨y,h1,_,h3⟩:=yp i _ (List.getElem?_eq_getElem hi)
    rw [List.getElem?_eq_getElem hi,h3,h1]
    rfl
   ·rw [List.getElem?_eq_none (by omega),List.getElem?_eq_none (by omega)]
    rfl
  rw [ey] at hY
  clear ey yp yl
  generalize hns:ws.map jl=ns at hY q1
  have nl:ns.length=ws.length:=by rw [← hns,List.length_map]
  have n0:∀x∈ns,0≤x:=fun x hx=>by
   rw [← hns] at hx
   obtain⟨y,_,rfl⟩:=List.mem_map.mp hx
   exact zfL y
  have zlR:ns.Pairwise (·≤·)↔W8 0 ns:=⟨fun h=>za1 h n0,za0⟩
  refine⟨_,rfl,acc,rfl,⟨_,SqL.of hY⟩,for_list (K:=K) (a:=acc) (xs:=ns.map V.int) (fun i σ H3=>∃(before:Int) (v3:Option V),σ=[some (.ref a),some (.ref acc),some (.int before),v3]∧H3=H2∧(ns.Pairwise (·≤·)↔W8 before (ns.drop i)))
   ⟨0,none,rfl,rfl,by rw [List.drop_zero];exact zlR⟩ (fun i σ H3 _ ⟨_,_,_,e,_⟩=>e ▸ SqL.of hY) ?_ ?_⟩
  ·rintro i y σ H3 hi ⟨before,v3,rfl,rfl,hb⟩
   rw [List.getElem?_map] at hi
   obtain⟨x,hx,rfl⟩:=Option.map_eq_some_iff.mp hi
   rw [zap hx] at hb
   refine⟨_,rfl,_,rfl,_,_,rfl,rfl,_,rfl,ifD (fun h=>False.elim ?_) (fun h=>⟨_,rfl,x,_,rfl,rfl,hb.trans ⟨fun z=>z.2,fun z=>⟨by omega,z⟩⟩⟩)⟩
   have gi:=GT.inc
   rw [hns] at gi
   have:=(hb.mp gi).1
   omega
  ·rintro σ H3 ⟨before,v3,rfl,rfl,hb⟩
   rw [List.length_map,List.drop_length] at hb
   exact⟨_,rfl,q1 acc _ s2 hacc hY⟩
theorem lg {n:Int} (h0:0≤n) (h1:n<10 ^ 500):n.natAbs.log2<1920:=by
 have h2:n.natAbs<2 ^ 1920:=by
  have:(10:Int) ^ 500≤2 ^ 1920:=by decide +kernel
  omega
 by_cases hz:n.natAbs=0
 ·rw [hz];decide
 ·exact(Nat.log2_lt hz).mpr h2
noncomputable def ZF (ns:List Int):Str:=if ns=[] then "none" else Txt.join " " (ns.map txt)
theorem Ji {ns:List Int} (h:∀n∈ns,0≤n∧n<10 ^ 500):((ns.map txt).map (·.length)).sum≤ns.length*500:=by
 induction ns with
 | nil=>exact Nat.le_refl _
 | cons n r ih=>
  have h1:=h n (List.mem_cons_self ..)
  have h2:=(ZR (k:=500) (by decide) h1.1 h1.2).le
  have h3:=ih fun m hm=>h m (List.mem_cons_of_mem _ hm)
  simp only [List.map_cons,List.sum_cons,List.length_cons]
  omega
theorem ZG (ns:List Int):(List.range (ns.map V.int).length).map (fun i=>V.str (txt (ns.getD i 0)))=(ns.map txt).map V.str:=by
 apply List.ext_getElem
 ·simp
 ·intro i h1 h2
  simp at h1 h2
  simp [List.getD_eq_getElem?_getD,h2]
noncomputable def wN (K:W.Frag):Sp:=fun vs H Q _=>∃(a:Addr) (ns:List Int),vs=[.ref a]∧SqL K H a (ns.map V.int)∧ns.length≤30000∧(∀n∈ns,0≤n∧n<10 ^ 500)∧∀H',Same H H'→Q (.str (ZF ns)) H'
theorem Ye:FnScope ["turns"] ["turns"] (defScope j6):=⟨rfl,rfl,rfl,by decide +kernel,rfl,by decide +kernel,by decide +kernel⟩
theorem Yg (D:Def K mg "turns_told" j6 ["turns"]) (T:Txt K mg):Fn P w K mg base 1 "turns_told" ["turns"] (wN K):=by
 refine D.fn Ye (fun vs H Q E h=>?_) (fun f cdv A outer s H vs Q E hr h=>?_)
 ·obtain⟨a,ns,rfl,_⟩:=h
  rfl
 ·obtain⟨a,ns,rfl,hS,nl,nb,q⟩:=h
  refine⟨_,(pss_one (ps_ret (pe_ifExp (pt_truth (pv 0) (fun _=>rfl)) (pe_bm PySem.F.plainAttrs_str PySem.F.slot_str_join PySem.F.type_str_join ZQ pe_str (pa_cons (jT (own:=["turn"]) (fr:=[]) (ix:=[]) rfl ⟨rfl,rfl,rfl,rfl,rfl,rfl⟩ (pi_list (pv 0)) (fun _ _ _ _ _=>(pg_name (i:=0) (show (["turn"]:List Str).Nodup by decide +kernel) rfl (Or.inl rfl))) (fun _ _ _ _ _=>qJ) (fun _ _ _ _ _=>(pe_callTy call_str_int (by rfl) T.z_str Jq (pa_cons (pv 0) pa_nil)))) pa_nil)) pe_str))),?_⟩
  refine⟨_,rfl,_,.inl ⟨_,hS,rfl⟩,?_⟩
  cases ns with
  | nil=>exact iteF (by have:=q H (Same.refl _);exact this)
  | cons n0 r=>
   refine iteT ⟨rfl,_,rfl,a,rfl,⟨_,hS⟩,fun acc hacc=>xH (K:=K) (a:=a) (xs:=(n0::r).map V.int) (fun i=>V.str (txt ((n0::r).getD i 0))) hS hacc (by rw [List.length_map,sizeLine_eq];omega) (fun i x H6 R hx s6 hR=>?_) ?_⟩
   ·rw [List.getElem?_map] at hx
    obtain⟨n,hn,rfl⟩:=Option.map_eq_some_iff.mp hx
    have b:=nb n (List.mem_of_getElem? hn)
    simp only [List.getD_eq_getElem?_getD,hn,Option.getD_some] at hR
    exact⟨rfl,_,rfl,n,rfl,lg b.1 b.2,hR⟩
   ·have e:=ZG (n0::r)
    rw [e]
    refine⟨" ",acc,(n0::r).map txt,rfl,rfl,SqL.of upd_same,?_,?_⟩
    ·have h1:=Ji nb
     have h2:(" ":Str).length=1:=by decide +kernel
     rw [h2,List.length_map]
     omega
    ·have:=q _ (Same.new (o:=.lst (((n0::r).map txt).map V.str)) hacc)
     unfold ZF at this
     rw [if_neg (by simp)] at this
     exact this
end
noncomputable def fl3 (t b l:Int):List (Str×V):=[("turns",.int t),("bells",.int b),("late",.int l)]
theorem zeT:¬(("turns":Str)="bells"):=by decide +kernel
theorem zg3:¬(("turns":Str)="late"):=by decide +kernel
theorem zg4:¬(("bells":Str)="turns"):=by decide +kernel
theorem zg5:¬(("bells":Str)="late"):=by decide +kernel
theorem zg6:¬(("late":Str)="turns"):=by decide +kernel
theorem zg7:¬(("late":Str)="bells"):=by decide +kernel
theorem Wh (t b l:Int):(fl3 t b l).lookup ("turns":Str)=some (V.int t):=by
 unfold fl3
 simp only [List.lookup_cons,beq_self_eq_true]
theorem Wi (t b l:Int):(fl3 t b l).lookup ("bells":Str)=some (V.int b):=by
 unfold fl3
 simp only [List.lookup_cons,show (("bells":Str) == "turns")=false from beq_eq_false_iff_ne.mpr zg4,beq_self_eq_true]
theorem zbb (t b l:Int):(fl3 t b l).lookup ("late":Str)=some (V.int l):=by
 unfold fl3
 simp only [List.lookup_cons,show (("late":Str) == "turns")=false from beq_eq_false_iff_ne.mpr zg6,show (("late":Str) == "bells")=false from beq_eq_false_iff_ne.mpr zg7,beq_self_eq_true]
theorem put3 (t b l:Int):putF "late" (V.int l) (putF "bells" (V.int b) (putF "turns" (V.int t) []))=fl3 t b l:=by
 unfold fl3
 simp only [putF,if_neg zeT,if_neg zg3,if_neg zg5]
noncomputable def fr1 (d:Addr):List (Str×V):=[("frames",.ref d)]
theorem JP (d:Addr):(fr1 d).lookup ("frames":Str)=some (V.ref d):=by
 unfold fr1
 simp only [List.lookup_cons,beq_self_eq_true]
theorem wR {d:Addr}{m:Str} (h:¬m="frames"):(fr1 d).lookup m=none:=by
 unfold fr1
 simp only [List.lookup_cons,List.lookup_nil,beq_eq_false_iff_ne.mpr h]
noncomputable def je (x:Addr) (H H':Hp):Prop:=∀a o,H a=some o→a≠x→H' a=some o
theorem je.of {x:Addr} {H H':Hp} (s:Same H H'):je x H H':=fun a o h _=>s a o h
theorem je.trans {x:Addr} {H H' H2:Hp} (s:je x H H') (s2:je x H' H2):je x H H2:=fun a o h n=>s2 a o (s a o h n) n
theorem je.put {x:Addr} {H H':Hp}{o:HO} (s:je x H H'):je x H (upd H' x o):=fun a v h n=>by rw [upd_ne n];exact s a v h n
structure DkT (K:W.Frag) (CD CF:Addr):Prop where
 cd:Cls K CD
 cf:Cls K CF
 n1:NoAttr K CF "turns"
 n2:NoAttr K CF "bells"
 n3:NoAttr K CF "late"
 n4:NoAttr K CD "frames"
structure zcV (t b l:Int):Prop where
 t0:0≤t
 t1:t<10 ^ 60
 b0:0≤b
 b1:b≤60
 l0:0≤l
 l1:l<10 ^ 60
 c1:cnt t b l<10 ^ 500
 k1:zkZ t b l<10 ^ 500
theorem p60:(10:Int) ^ 60≤2 ^ 200:=by decide +kernel
theorem Qy {x:Int} (h0:0≤x) (h1:x<10 ^ 60):intBits x≤200:=zP h0 (Int.lt_of_lt_of_le h1 p60)
noncomputable def zd5 (CF:Addr) (H:Hp) (p:Addr) (t b l:Int):Prop:=∃dx,H p=some (.ins CF dx (fl3 t b l))
structure qd (CD CF x d:Addr) (n:Nat) (fr:Str→Option (Int×Int×Int)) (H:Hp):Prop where
 self:∃dx,H x=some (.ins CD dx (fr1 d))
 dict:∃kvs,H d=some (.dK kvs)∧kvs.length≤n∧(∀nm,fr nm=none→valV kvs (Sum.inr nm)=none)∧∀nm t b l,fr nm=some (t,b,l)→∃p,valV kvs (Sum.inr nm)=some (.ref p)∧zd5 CF H p t b l
 ok:∀nm t b l,fr nm=some (t,b,l)→zcV t b l
theorem qd.mono {CD CF x d:Addr}{n:Nat}{fr:Str→Option (Int×Int×Int)} {H H':Hp} (s:Same H H') (h:qd CD CF x d n fr H):qd CD CF x d n fr H':=by
 obtain⟨⟨dx,h1⟩,⟨kvs,h2,h3,h4,h5⟩,h6⟩:=h
 exact⟨⟨dx,s _ _ h1⟩,⟨kvs,s _ _ h2,h3,h4,fun nm t b l e=>(h5 nm t b l e).imp fun p hp=>⟨hp.1,hp.2.imp fun dx h=>s _ _ h⟩⟩,h6⟩
theorem zb9 {κ:Type} [DecidableEq κ] (kvs:List (κ×V)) (k:κ) (v:V):(putK kvs k v).length≤kvs.length+1:=by
 unfold putK
 split <;> simp
section
variable {CD CF:Addr}
noncomputable def Wj (CF:Addr):Sp:=fun vs H Q _=>∃(x dx:Addr) (t b l:Int),vs=[.ref x,.int t,.int b,.int l]∧H x=some (.ins CF dx [])∧∀H',je x H H'→H' x=some (.ins CF dx (fl3 t b l))→Q .non H'
theorem Yh:FnScope ["self","turns","bells","late"] ["self","turns","bells","late"] (defScope qW):=⟨rfl,rfl,rfl,by decide +kernel,rfl,by decide +kernel,by decide +kernel⟩
theorem zd6 {f:Addr}{fd:FuncData} (F:Vc K "__init__" "Frame.__init__" qW f fd) (hT:DkT K CD CF):FnOk P w K mg base CX0 1 f fd ["self","turns","bells","late"] (Wj CF):=by
 refine F.ok Yh (fun vs H Q E h=>?_) (fun cdv A outer s H vs Q E hr h=>?_)
 ·obtain⟨x,dx,t,b,l,rfl,_⟩:=h
  rfl
 ·obtain⟨x,dx,t,b,l,rfl,hx,q⟩:=h
  refine⟨_,(pss_cons (ps_fld (pv 0) (pv 1) rfl)
   (pss_cons (ps_fld (pv 0) (pv 2) rfl)
   (pss_one (ps_fld (pv 0) (pv 3) rfl)))),?_⟩
  refine⟨_,rfl,_,rfl,x,CF,dx,_,rfl,hx,hT.cf,hT.n1,(by show 0<1000;decide),?_⟩
  refine⟨_,rfl,_,rfl,x,CF,dx,_,rfl,upd_same,hT.cf,hT.n2,(by show 1<1000;decide),?_⟩
  refine⟨_,rfl,_,rfl,x,CF,dx,_,rfl,upd_same,hT.cf,hT.n3,(by simp only [putF,if_neg zeT];show 2<1000;decide),?_⟩
  rw [put3]
  exact q _ ((je.of (Same.refl _)).put.put.put) upd_same
noncomputable def zca (CD CF:Addr):Sp:=fun vs H Q _=>∃(x dx:Addr),vs=[.ref x]∧H x=some (.ins CD dx [])∧∀d H',je x H H'→H d=none→qd CD CF x d 0 (fun _=>none) H'→Q .non H'
theorem zbc:FnScope ["self"] ["self"] (defScope jm):=⟨rfl,rfl,rfl,by decide +kernel,rfl,by decide +kernel,by decide +kernel⟩
theorem zd7 {f:Addr}{fd:FuncData} (F:Vc K "__init__" "Desk.__init__" jm f fd) (hT:DkT K CD CF):FnOk P w K mg base CX0 1 f fd ["self"] (zca CD CF):=by
 refine F.ok zbc (fun vs H Q E h=>?_) (fun cdv A outer s H vs Q E hr h=>?_)
 ·obtain⟨x,dx,rfl,_⟩:=h
  rfl
 ·obtain⟨x,dx,rfl,hx,q⟩:=h
  refine⟨_,(pss_one (ps_fld (pv 0) pe_dnewK rfl)),?_⟩
  refine fun d hd=>⟨_,rfl,x,CD,dx,_,rfl,(Same.new hd) _ _ hx,hT.cd,hT.n4,(by show 0<1000;decide),?_⟩
  have nd:d≠x:=fun e=>by rw [e,hx] at hd;cases hd
  refine q d _ ((je.of (Same.new hd)).put) hd ⟨⟨dx,upd_same⟩,⟨[],by rw [upd_ne nd,upd_same],Nat.le_refl _,fun _ _=>rfl,fun _ _ _ _ e=>nomatch e⟩,fun _ _ _ _ e=>nomatch e⟩
noncomputable def Vn (CF:Addr):Sp:=fun vs H Q _=>∃(p:Addr) (t b l:Int),vs=[.ref p]∧zd5 CF H p t b l∧zcV t b l∧Q (.int (cnt t b l)) H
theorem zcb:FnScope ["frame"] ["frame"] (defScope wL):=⟨rfl,rfl,rfl,by decide +kernel,rfl,by decide +kernel,by decide +kernel⟩
theorem zcc (D:Def K mg "count_of" wL ["frame"]) (hT:DkT K CD CF) (zA:Fn P w K mg base 2 "box_count" ["turns","bells","late"] yf):Fn P w K mg base 3 "count_of" ["frame"] (Vn CF):=by
 refine D.fn zcb (fun vs H Q E h=>?_) (fun f cdv A outer s H vs Q E hr h=>?_)
 ·obtain⟨p,t,b,l,rfl,_⟩:=h
  rfl
 ·obtain⟨p,t,b,l,rfl,⟨dx,hx⟩,ok,q⟩:=h
  refine⟨_,(pss_one (ps_ret (zq zA (hr.mono (by decide)) (by rfl) (pa_cons (pe_fld (pv 0) rfl) (pa_cons (pe_fld (pv 0) rfl) (pa_cons (pe_fld (pv 0) rfl) pa_nil)))))),?_⟩
  exact⟨_,rfl,p,CF,dx,_,_,rfl,hx,hT.cf,hT.n1,Wh ..,_,rfl,p,CF,dx,_,_,rfl,hx,hT.cf,hT.n2,Wi ..,_,rfl,p,CF,dx,_,_,rfl,hx,hT.cf,hT.n3,zbb ..,t,b,l,rfl,ok.b0,Int.le_trans ok.b1 (by decide),ok.l0,zg (Qy ok.l0 ok.l1) (by decide),zg (Qy ok.t0 ok.t1) (by decide),q⟩
noncomputable def zbd (CD CF CN:Addr):Sp:=fun vs H Q E=>∃(x d:Addr) (n:Nat) (fr:Str→Option (Int×Int×Int)) (nm:Str),vs=[.ref x,.str nm]∧qd CD CF x d n fr H∧(fr nm=none→E (.ref CN) none H)∧∀t b l,fr nm=some (t,b,l)→∀p,zd5 CF H p t b l→Q (.ref p) H
theorem zbe:FnScope ["self","name"] ["self","name"] (defScope jr):=⟨rfl,rfl,rfl,by decide +kernel,rfl,by decide +kernel,by decide +kernel⟩
theorem zfW {f:Addr}{fd:FuncData} (F:Vc K "kept" "Desk.kept" jr f fd) (hT:DkT K CD CF){zr:Addr} (xj:mg "NoName"=some (.ref zr)) (yz:W.excIn K zr bmV "ValueError.__new__"=true):FnOk P w K mg base (CXE P w) 1 f fd ["self","name"] (zbd CD CF zr):=by
 refine F.okE zbe (fun vs H Q E h=>?_) (fun cdv A outer s H vs Q E hr h=>?_)
 ·obtain⟨x,d,n,fr,nm,rfl,_⟩:=h
  rfl
 ·obtain⟨x,d,n,fr,nm,rfl,⟨⟨dx,hx⟩,⟨kvs,hd,_,k1,k2⟩,_⟩,q1,q2⟩:=h
  refine⟨_,(pss_cons (ps_if (pt_cmp (pc_dnotin (hu_of hr) (pv 1) (pe_fld (pv 0) rfl)))
    (pss_one (qi PySem.F.excBase_ValueError yz (by rfl) xj (pa_cons pe_str pa_nil)))
    pss_nil)
   (pss_one (ps_ret (pe_dget (hu_of hr) (pe_fld (pv 0) rfl) (pv 1) (fun _ _=>rfl))))),?_⟩
  refine⟨_,rfl,_,rfl,x,CD,dx,_,_,rfl,hx,hT.cd,hT.n4,JP d,d,_,rfl,DGet.k (k:=Sum.inr nm) hd,?_⟩
  cases e:fr nm with
  | none=>
   rw [k1 nm e]
   exact⟨_,rfl,iteT ⟨(by decide),q1 e⟩⟩
  | some z=>
   obtain⟨t,b,l⟩:=z
   obtain⟨p,hp,ip⟩:=k2 nm t b l e
   rw [hp]
   refine⟨_,rfl,iteF ⟨_,rfl,x,CD,dx,_,_,rfl,hx,hT.cd,hT.n4,JP d,_,rfl,d,V.ref p,rfl,?_,q2 t b l e p ip⟩⟩
   have:=DGet.k (k:=Sum.inr nm) hd
   rw [hp] at this
   exact this
end
noncomputable def Qm (fr:Str→Option (Int×Int×Int)) (nm:Str) (z:Int×Int×Int):Str→Option (Int×Int×Int):=fun m=>if m=nm then some z else fr m
section
variable {CD CF:Addr}
structure zcd (w1 w2 w3 w4:Str):Prop where
 a:zK w1
 b:Num 60 w2
 c:Vl w3
 d:Num 60 w4
noncomputable def zbf (CD CF CO:Addr):Sp:=fun vs H Q E=>∃(x a d:Addr) (n:Nat) (fr:Str→Option (Int×Int×Int)) (w0 w1 w2 w3 w4:Str),vs=[.ref x,.ref a]∧qd CD CF x d n fr H∧n<1000∧H a=some (.lst ([w0,w1,w2,w3,w4].map V.str))∧w1.length≤1000000∧w2.length≤1000000∧w3.length≤1000000∧w4.length≤1000000 ∧
 (¬zcd w1 w2 w3 w4→∀H',Same H H'→E (.ref CO) none H')∧(zcd w1 w2 w3 w4→zcV (jl w2) (jl w3) (jl w4)∧∀H',je d H H'→qd CD CF x d (n+1) (Qm fr w1 (jl w2,jl w3,jl w4)) H'→Q (.str ("messages "++txt (cnt (jl w2) (jl w3) (jl w4)))) H')
theorem yg:FnScope ["self","words","name","frame","count"] ["self","words"] (defScope jq):=⟨rfl,rfl,rfl,by decide +kernel,rfl,by decide +kernel,by decide +kernel⟩
theorem zfX {f:Addr}{fd:FuncData} (F:Vc K "keep" "Desk.keep" jq f fd) (hT:DkT K CD CF){zc:Addr} (Z0:mg "Frame"=some (.ref CF)) (ju:FnE P w K mg base 2 "name_in" ["word"] (Kw zc)) (ql:FnE P w K mg base 3 "number_in" ["word"] (za8 zc 60)) (Qz:FnE P w K mg base 4 "bells_in" ["word"] (zb4 zc)) (Wk:MkX CX0 P w K mg base 1 CF ["self","turns","bells","late"] (Wj CF)) (kh:Fn P w K mg base 3 "count_of" ["frame"] (Vn CF)):FnOk P w K mg base (CXE P w) 5 f fd ["self","words"] (zbf CD CF zc):=by
 refine F.okE yg (fun vs H Q E h=>?_) (fun cdv A outer s H vs Q E hr h=>?_)
 ·obtain⟨x,a,d,n,fr,w0,w1,w2,w3,w4,rfl,_⟩:=h
  rfl
 ·obtain⟨x,a,d,n,fr,w0,w1,w2,w3,w4,rfl,hD,hn,hA,l1,l2,l3,l4,q2,q1⟩:=h
  refine⟨_,(pss_cons (ps_set (i:=2) yg.nd rfl (Or.inl rfl) (qu ju (hr.mono (by decide)) (by rfl) zQ (pa_cons (pe_ix ix_list (pv 1) pe_int (fun _ _=>rfl)) pa_nil)))
   (pss_cons (ps_set (i:=3) yg.nd rfl (Or.inl rfl) (zkS Wk (hr.mono (by decide)) (by rfl) Z0 (pa_cons (qu ql (hr.mono (by decide)) (by rfl) zQ (pa_cons (pe_ix ix_list (pv 1) pe_int (fun _ _=>rfl)) pa_nil)) (pa_cons (qu Qz (hr.mono (by decide)) (by rfl) zQ (pa_cons (pe_ix ix_list (pv 1) pe_int (fun _ _=>rfl)) pa_nil)) (pa_cons (qu ql (hr.mono (by decide)) (by rfl) zQ (pa_cons (pe_ix ix_list (pv 1) pe_int (fun _ _=>rfl)) pa_nil)) pa_nil)))))
   (pss_cons (ps_dput (hu_of hr) (pe_fld (pv 0) rfl) (pv 2) (pv 3) rfl)
   (pss_cons (ps_set (i:=4) yg.nd rfl (Or.inl rfl) (zq kh (hr.mono (by decide)) (by rfl) (pa_cons (pv 3) pa_nil)))
   (pss_one (ps_ret (zkT (.cons pe_str (.cons (zgW (pv 4)) .nil))))))))),?_⟩
  refine⟨_,rfl,a,_,1,_,rfl,rfl,SqL.of hA,rfl,w1,rfl,l1,fun g1 H1 s1=>?_,fun g1 H1 s1=>q2 (fun z=>g1 z.a) H1 s1⟩
  have hA1:=s1 _ _ hA
  refine⟨_,rfl,a,_,2,_,rfl,rfl,SqL.of hA1,rfl,w2,rfl,l2,zdz,fun g2 H2 s2=>?_,fun g2 H2 s2=>q2 (fun z=>g2 z.b) H2 (s1.trans s2)⟩
  have hA2:=s2 _ _ hA1
  refine⟨_,rfl,a,_,3,_,rfl,rfl,SqL.of hA2,rfl,w3,rfl,l3,fun g3 H3 s3=>?_,fun g3 H3 s3=>q2 (fun z=>g3 z.c) H3 ((s1.trans s2).trans s3)⟩
  have hA3:=s3 _ _ hA2
  refine⟨_,rfl,a,_,4,_,rfl,rfl,SqL.of hA3,rfl,w4,rfl,l4,zdz,fun g4 H4 s4=>?_,fun g4 H4 s4=>q2 (fun z=>g4 z.d) H4 (((s1.trans s2).trans s3).trans s4)⟩
  have s04:=((s1.trans s2).trans s3).trans s4
  obtain⟨ok,q1⟩:=q1 ⟨g1,g2,g3,g4⟩
  refine fun p dx hp hdx ne=>⟨p,dx,_,_,_,rfl,upd_same,fun H5 s5 h5=>⟨rfl,?_⟩⟩
  have s45:Same H4 H5:=fun c o hc=>by
   have n1:c≠p:=fun e=>by rw [e,hp] at hc;cases hc
   have n2:c≠dx:=fun e=>by rw [e,hdx] at hc;cases hc
   exact s5 c o (by rw [upd_ne n1,upd_ne n2];exact hc) n1
  have s05:=s04.trans s45
  obtain⟨⟨dd,hx⟩,⟨kvs,hd,kl,k1,k2⟩,fo⟩:=hD.mono s05
  have np:p≠d:=fun e=>by
   obtain⟨kv0,hd0,_⟩:=hD.dict
   have:=s04 _ _ hd0
   rw [← e,hp] at this
   cases this
  refine⟨_,rfl,_,rfl,x,CD,dd,_,_,rfl,hx,hT.cd,hT.n4,JP d,_,rfl,d,_,rfl,DPut.k (k:=Sum.inr w1) hd (by rw [sizeLine_eq];omega),?_⟩
  have nx:x≠d:=fun e=>by rw [e,hd] at hx;cases hx
  have hp6:(upd H5 d (.dK (putK kvs (Sum.inr w1) (V.ref p)))) p=some (.ins CF dx (fl3 (jl w2) (jl w3) (jl w4))):=by rw [upd_ne np];exact h5
  refine⟨_,rfl,p,_,_,_,rfl,⟨dx,hp6⟩,ok,?_⟩
  have c0:=JN (jl w2) (jl w3) (jl w4)
  have em:Str.empty++("messages ":Str)="messages ":=by decide +kernel
  have lm:("messages ":Str).length=9:=by decide +kernel
  have lc:("messages "++txt (cnt (jl w2) (jl w3) (jl w4))).length≤sizeLine:=by
   have h2:=(ZR (k:=500) (by decide) c0 ok.c1).le
   rw [← zN,jD,List.length_append,zN,zN,lm,sizeLine_eq]
   omega
  refine⟨"messages ",rfl,by rw [em,lm,sizeLine_eq];decide,_,rfl,_,rfl,lg c0 ok.c1,txt (cnt (jl w2) (jl w3) (jl w4)),rfl,by rw [em];exact lc,by rw [em];exact lc,?_⟩
  rw [em]
  refine q1 _ ((je.of s05).put) ⟨⟨dd,by rw [upd_ne nx];exact hx⟩,⟨_,upd_same,?_,fun nm e=>?_,fun nm t b l e=>?_⟩,fun nm t b l e=>?_⟩
  ·have:=zb9 kvs (Sum.inr w1) (V.ref p)
   omega
  ·unfold Qm at e
   split at e
   ·cases e
   ·rename_i h
    rw [valV_put,if_neg (fun z=>h (Sum.inr.inj z))]
    exact k1 nm e
  ·unfold Qm at e
   rw [valV_put]
   split at e
   ·rename_i h
    cases e
    rw [if_pos (by rw [h])]
    exact⟨p,rfl,dx,hp6⟩
   ·rename_i h
    rw [if_neg (fun z=>h (Sum.inr.inj z))]
    obtain⟨r,hr1,dr,hr2⟩:=k2 nm t b l e
    have nr:r≠d:=fun z=>by rw [z,hd] at hr2;cases hr2
    exact⟨r,hr1,dr,by rw [upd_ne nr];exact hr2⟩
  ·unfold Qm at e
   split at e
   ·cases e
    exact ok
   ·exact fo nm t b l e
noncomputable def zbg (K:W.Frag) (CD CF CO CN:Addr) (SN:Sp):Sp:=fun vs H Q E=>∃(x a d:Addr) (n:Nat) (fr:Str→Option (Int×Int×Int)) (w0 w1 w2:Str),vs=[.ref x,.ref a]∧qd CD CF x d n fr H∧H a=some (.lst ([w0,w1,w2].map V.str))∧w1.length≤1000000 ∧
 (¬zK w1→∀H',Same H H'→E (.ref CO) none H')∧(zK w1→fr w1=none→∀H',Same H H'→E (.ref CN) none H') ∧
 (zK w1→∀t b l,fr w1=some (t,b,l)→∀H',Same H H'→SN [.str w2,.int t,.int b,.int l] H' (fun v H2=>wN K [v] H2 Q E0) (fun C _ H2=>E C none H2))
theorem yU:FnScope ["self","words","frame"] ["self","words"] (defScope z9):=⟨rfl,rfl,rfl,by decide +kernel,rfl,by decide +kernel,by decide +kernel⟩
theorem zce {f:Addr}{fd:FuncData} (F:Vc K "send_note" "Desk.send_note" z9 f fd) (hT:DkT K CD CF){zc zr:Addr}{SN:Sp} (ju:FnE P w K mg base 2 "name_in" ["word"] (Kw zc)) (Jj:MtE P w K mg base 1 CD "kept" ["self","name"] (zbd CD CF zr)) (Jk:FnE P w K mg base 44 "sent" ["note","turns","bells","late"] SN) (Z1:Fn P w K mg base 1 "turns_told" ["turns"] (wN K)):FnOk P w K mg base (CXE P w) 45 f fd ["self","words"] (zbg K CD CF zc zr SN):=by
 refine F.okE yU (fun vs H Q E h=>?_) (fun cdv A outer s H vs Q E hr h=>?_)
 ·obtain⟨x,a,d,n,fr,w0,w1,w2,rfl,_⟩:=h
  rfl
 ·obtain⟨x,a,d,n,fr,w0,w1,w2,rfl,hD,hA,l1,q1,q2,q3⟩:=h
  refine⟨_,(pss_cons (ps_set (i:=2) yU.nd rfl (Or.inl rfl) (JH (pv 0) Jj (hr.mono (by decide)) zQ (pa_cons (qu ju (hr.mono (by decide)) (by rfl) zQ (pa_cons (pe_ix ix_list (pv 1) pe_int (fun _ _=>rfl)) pa_nil)) pa_nil)))
   (pss_one (ps_ret (zq Z1 (hr.mono (by decide)) (by rfl) (pa_cons (qu Jk (hr.mono (by decide)) (by rfl) zQ (pa_cons (pe_ix ix_list (pv 1) pe_int (fun _ _=>rfl)) (pa_cons (pe_fld (pv 2) rfl) (pa_cons (pe_fld (pv 2) rfl) (pa_cons (pe_fld (pv 2) rfl) pa_nil))))) pa_nil))))),?_⟩
  obtain⟨dx,hx⟩:=hD.self
  refine⟨_,rfl,x,dx,_,rfl,hx,wR (by decide +kernel),_,rfl,a,_,1,_,rfl,rfl,SqL.of hA,rfl,w1,rfl,l1,fun g1 H1 s1=>?_,fun g1 H1 s1=>q1 g1 H1 s1⟩
  refine⟨x,d,n,fr,w1,rfl,hD.mono s1,fun e=>q2 g1 e H1 s1,fun t b l e p ip=>?_⟩
  obtain⟨pdx,hp⟩:=ip
  have hA1:=s1 _ _ hA
  exact⟨_,rfl,a,_,2,_,rfl,rfl,SqL.of hA1,rfl,_,rfl,p,CF,pdx,_,_,rfl,hp,hT.cf,hT.n1,Wh ..,_,rfl,p,CF,pdx,_,_,rfl,hp,hT.cf,hT.n2,Wi ..,_,rfl,p,CF,pdx,_,_,rfl,hp,hT.cf,hT.n3,zbb ..,q3 g1 t b l e H1 s1⟩
noncomputable def zcW (CD CO:Addr) (KP RG LS SN CT:Sp):Sp:=fun vs H Q E=>∃(x dx d:Addr) (o w0:Str) (ws:List Str),vs=[.ref x,.str o]∧H x=some (.ins CD dx (fr1 d))∧o.length+2≤sizeLine∧Txt.split o " "=w0::ws ∧
 (w0="frame"→ws.length=4→∀a H',Same H H'→H' a=some (.lst ((w0::ws).map V.str))→KP [.ref x,.ref a] H' Q (fun C _ H2=>E C none H2)) ∧
 (w0="write"∨w0="key"→ws.length=2→∀a H',Same H H'→H' a=some (.lst ((w0::ws).map V.str))→RG [.ref x,.ref a] H' Q (fun C _ H2=>E C none H2)) ∧
 (w0="read"∨w0="unkey"∨w0="hear"→1≤ws.length→∀a H',Same H H'→H' a=some (.lst ((w0::ws).map V.str))→LS [.ref x,.ref a] H' Q (fun C _ H2=>E C none H2)) ∧
 (w0="note"→2≤ws.length→(Txt.splitMax o " " 2).length≤sizeLine∧∀a H',Same H H'→H' a=some (.lst ((Txt.splitMax o " " 2).map V.str))→SN [.ref x,.ref a] H' Q (fun C _ H2=>E C none H2)) ∧
 (¬(w0="frame"∧ws.length=4)→¬((w0="write"∨w0="key")∧ws.length=2)→¬((w0="read"∨w0="unkey"∨w0="hear")∧1≤ws.length)→¬(w0="note"∧2≤ws.length)→∀a H',Same H H'→H' a=some (.lst ((w0::ws).map V.str))→CT [.ref a] H' Q (fun C _ H2=>E C none H2))
theorem zeU:((" ":Str).length == 0)=false:=by decide +kernel
theorem in2 {x a b:Str}:inV (.str x) [.str a,.str b]=decide (x=a∨x=b):=by
 rw [Bool.eq_iff_iff]
 simp only [inV,List.any_cons,List.any_nil,eqV,Bool.or_false,Bool.or_eq_true,beq_iff_eq,decide_eq_true_eq]
 exact⟨fun h=>h.imp Eq.symm Eq.symm,fun h=>h.imp Eq.symm Eq.symm⟩
theorem in3 {x a b c:Str}:inV (.str x) [.str a,.str b,.str c]=decide (x=a∨x=b∨x=c):=by
 rw [Bool.eq_iff_iff]
 simp only [inV,List.any_cons,List.any_nil,eqV,Bool.or_false,Bool.or_eq_true,beq_iff_eq,decide_eq_true_eq]
 exact⟨fun h=>h.imp Eq.symm fun h=>h.imp Eq.symm Eq.symm,fun h=>h.imp Eq.symm fun h=>h.imp Eq.symm Eq.symm⟩
theorem QB (K:W.Frag):W.kitOne K (.type "str") (.type "str")=some true:=by with_unfolding_all rfl
theorem XD:FnScope ["self","order","words"] ["self","order"] (defScope jo):=⟨rfl,rfl,rfl,by decide +kernel,rfl,by decide +kernel,by decide +kernel⟩
theorem zfY {f:Addr}{fd:FuncData} (F:Vc K "told" "Desk.told" jo f fd) (T:Txt K mg) (hT:DkT K CD CF){zc:Addr}{KP RG LS SN CT:Sp} (zL:mg "NoOrder"=some (.ref zc)) (zT:W.excIn K zc bmV "ValueError.__new__"=true) (zbh:MtE P w K mg base 45 CD "keep" ["self","words"] KP) (zbi:MtE P w K mg base 45 CD "ring" ["self","words"] RG) (Vo:MtE P w K mg base 45 CD "listen" ["self","words"] LS) (Z2:MtE P w K mg base 45 CD "send_note" ["self","words"] SN) (yC:FnE P w K mg base 45 "choice_told" ["words"] CT):FnOk P w K mg base (CXE P w) 46 f fd ["self","order"] (zcW CD zc KP RG LS SN CT):=by
 refine F.okE XD (fun vs H Q E h=>?_) (fun cdv A outer s H vs Q E hr h=>?_)
 ·obtain⟨x,dx,d,o,w0,ws,rfl,_⟩:=h
  rfl
 ·obtain⟨x,dx,d,o,w0,ws,rfl,hx,ol,es,q1,q2,q3,q4,q5⟩:=h
  refine⟨_,(pss_cons (ps_if (pt_not (pt_val (pe_callB jH (by rfl) T.z_isinstance zM (pa_cons (pv 1) (pa_cons (pe_bltn (v:=.ty "str") (by rfl) T.z_str Jq rfl) pa_nil)))))
    (pss_one (qi PySem.F.excBase_ValueError zT (by rfl) zL (pa_cons pe_str pa_nil)))
    pss_nil)
   (pss_cons (ps_set (i:=2) XD.nd rfl (Or.inl rfl) (pe_bm PySem.F.plainAttrs_str PySem.F.slot_str_split PySem.F.type_str_split zeC (pv 1) (pa_cons pe_str pa_nil)))
   (pss_cons (ps_if (pw_and (pt_cmpR op_eq (pe_ix ix_list (pv 2) pe_int (fun _ _=>rfl)) pe_str (nomark _)) (pw_and1 (pt_cmpR jG (pe_callB call_len_seq (by rfl) T.z_len xQ (pa_cons (pv 2) pa_nil)) pe_int (nomark _)))).pt
    (pss_one (ps_ret (JH (pv 0) zbh (hr.mono (by decide)) zQ (pa_cons (pv 2) pa_nil))))
    pss_nil)
   (pss_cons (ps_if (pw_and (pt_cmpR op_in_seq (pe_ix ix_list (pv 2) pe_int (fun _ _=>rfl)) (pe_tup (pa_cons pe_str (pa_cons pe_str pa_nil))) (by with_unfolding_all rfl)) (pw_and1 (pt_cmpR jG (pe_callB call_len_seq (by rfl) T.z_len xQ (pa_cons (pv 2) pa_nil)) pe_int (nomark _)))).pt
    (pss_one (ps_ret (JH (pv 0) zbi (hr.mono (by decide)) zQ (pa_cons (pv 2) pa_nil))))
    pss_nil)
   (pss_cons (ps_if (pw_and (pt_cmpR op_in_seq (pe_ix ix_list (pv 2) pe_int (fun _ _=>rfl)) (pe_tup (pa_cons pe_str (pa_cons pe_str (pa_cons pe_str pa_nil)))) (by with_unfolding_all rfl)) (pw_and1 (pt_cmpR zaI (pe_callB call_len_seq (by rfl) T.z_len xQ (pa_cons (pv 2) pa_nil)) pe_int (nomark _)))).pt
    (pss_one (ps_ret (JH (pv 0) Vo (hr.mono (by decide)) zQ (pa_cons (pv 2) pa_nil))))
    pss_nil)
   (pss_cons (ps_if (pw_and (pt_cmpR op_eq (pe_ix ix_list (pv 2) pe_int (fun _ _=>rfl)) pe_str (nomark _)) (pw_and1 (pt_cmpR zaI (pe_callB call_len_seq (by rfl) T.z_len xQ (pa_cons (pv 2) pa_nil)) pe_int (nomark _)))).pt
    (pss_one (ps_ret (JH (pv 0) Z2 (hr.mono (by decide)) zQ (pa_cons (pe_bm PySem.F.plainAttrs_str PySem.F.slot_str_split PySem.F.type_str_split zbP (pv 1) (pa_cons pe_str (pa_cons pe_int pa_nil))) pa_nil))))
    pss_nil)
   (pss_one (ps_ret (qu yC (hr.mono (by decide)) (by rfl) zQ (pa_cons (pv 2) pa_nil)))))))))),?_⟩
  refine⟨_,rfl,_,_,_,true,rfl,TyOf.str _,QB K,_,rfl,iteF ?_⟩
  refine⟨_,rfl,rfl,o," ",rfl,rfl,zeU,ol,fun a ha=>?_⟩
  rw [es]
  have sA:Same H (upd H a (.lst ((w0::ws).map V.str))):=Same.new ha
  have hA:(upd H a (.lst ((w0::ws).map V.str))) a=some (.lst ((w0::ws).map V.str)):=upd_same
  generalize upd H a (.lst ((w0::ws).map V.str))=H1 at sA hA ⊢
  have h0:atI ((w0::ws).map V.str) ((0:Nat):Int)=some (V.str w0):=atI_nat rfl
  have hx1:=sA _ _ hx
  have el:(((w0::ws).map V.str).length:Int)=(ws.length:Int)+1:=by rw [List.length_map,List.length_cons];omega
  dsimp only [gName]
  refine Vk (fun σ' H'=>σ'=[some (.ref x),some (.str o),some (.ref a)]∧H'=H1∧¬(w0="frame"∧ws.length=4)) ?_ (fun N hN=>?_)
  rotate_left
  ·refine⟨_,rfl,a,_,0,_,rfl,rfl,SqL.of hA,h0,rfl,_,rfl,ifD (fun z=>⟨_,rfl,_,_,rfl,.inl (SqL.of hA),_,_,rfl,rfl,_,rfl,?_⟩) (fun z=>iteF (hN _ _ ⟨rfl,rfl,fun y=>z (by rw [y.1])⟩))⟩
   rw [el]
   refine ifD (fun z2=>⟨_,rfl,x,dx,_,rfl,hx1,wR (by decide +kernel),_,rfl,?_⟩) (fun z2=>hN _ _ ⟨rfl,rfl,fun y=>by have:=y.2;omega⟩)
   exact q1 (V.str.inj z) (by omega) a H1 sA hA
  rintro σ' H' ⟨rfl,rfl,n1⟩
  refine Vk (fun σ' H2=>σ'=[some (.ref x),some (.str o),some (.ref a)]∧Same H' H2∧¬((w0="write"∨w0="key")∧ws.length=2)) ?_ (fun N hN=>?_)
  rotate_left
  ·refine⟨_,rfl,a,_,0,_,rfl,rfl,SqL.of hA,h0,(by show 2≤sizeLine;decide),fun tp htp=>⟨tp,_,rfl,.inr (SqT.of upd_same),rfl,rfl,?_⟩⟩
   have sT:Same H' (upd H' tp (.tup [V.str "write",V.str "key"])):=Same.new htp
   generalize upd H' tp (.tup [V.str "write",V.str "key"])=H3 at sT ⊢
   refine⟨inV (.str w0) [V.str "write",V.str "key"],rfl,?_⟩
   rw [in2]
   refine ifD (fun z=>⟨_,rfl,_,_,rfl,.inl (SqL.of (sT _ _ hA)),_,_,rfl,rfl,_,rfl,?_⟩) (fun z=>iteF (hN _ _ ⟨rfl,sT,fun y=>z y.1⟩))
   rw [el]
   refine ifD (fun z2=>⟨_,rfl,x,dx,_,rfl,sT _ _ hx1,wR (by decide +kernel),_,rfl,?_⟩) (fun z2=>hN _ _ ⟨rfl,sT,fun y=>by have:=y.2;omega⟩)
   exact q2 z (by omega) a H3 (sA.trans sT) (sT _ _ hA)
  rintro σ' H2 ⟨rfl,s2,n2⟩
  have sA2:=sA.trans s2
  have hA2:=s2 _ _ hA
  have hx2:=s2 _ _ hx1
  refine Vk (fun σ' H3=>σ'=[some (.ref x),some (.str o),some (.ref a)]∧Same H2 H3∧¬((w0="read"∨w0="unkey"∨w0="hear")∧1≤ws.length)) ?_ (fun N hN=>?_)
  rotate_left
  ·refine⟨_,rfl,a,_,0,_,rfl,rfl,SqL.of hA2,h0,(by show 3≤sizeLine;decide),fun tp htp=>⟨tp,_,rfl,.inr (SqT.of upd_same),rfl,rfl,?_⟩⟩
   have sT:Same H2 (upd H2 tp (.tup [V.str "read",V.str "unkey",V.str "hear"])):=Same.new htp
   generalize upd H2 tp (.tup [V.str "read",V.str "unkey",V.str "hear"])=H3 at sT ⊢
   refine⟨inV (.str w0) [V.str "read",V.str "unkey",V.str "hear"],rfl,?_⟩
   rw [in3]
   refine ifD (fun z=>⟨_,rfl,_,_,rfl,.inl (SqL.of (sT _ _ hA2)),_,_,rfl,rfl,_,rfl,?_⟩) (fun z=>iteF (hN _ _ ⟨rfl,sT,fun y=>z y.1⟩))
   rw [el]
   refine ifD (fun z2=>⟨_,rfl,x,dx,_,rfl,sT _ _ hx2,wR (by decide +kernel),_,rfl,?_⟩) (fun z2=>hN _ _ ⟨rfl,sT,fun y=>by have:=y.2;omega⟩)
   exact q3 z (by omega) a H3 (sA2.trans sT) (sT _ _ hA2)
  rintro σ' H3 ⟨rfl,s3,n3⟩
  have sA3:=sA2.trans s3
  have hA3:=s3 _ _ hA2
  have hx3:=s3 _ _ hx2
  refine Vk (fun σ' H4=>σ'=[some (.ref x),some (.str o),some (.ref a)]∧H4=H3∧¬(w0="note"∧2≤ws.length)) ?_ (fun N hN=>?_)
  rotate_left
  ·refine⟨_,rfl,a,_,0,_,rfl,rfl,SqL.of hA3,h0,rfl,_,rfl,ifD (fun z=>⟨_,rfl,_,_,rfl,.inl (SqL.of hA3),_,_,rfl,rfl,_,rfl,?_⟩) (fun z=>iteF (hN _ _ ⟨rfl,rfl,fun y=>z (by rw [y.1])⟩))⟩
   rw [el]
   refine ifD (fun z2=>⟨_,rfl,x,dx,_,rfl,hx3,wR (by decide +kernel),?_⟩) (fun z2=>hN _ _ ⟨rfl,rfl,fun y=>by have:=y.2;omega⟩)
   obtain⟨zl,q6⟩:=q4 (V.str.inj z) (by omega)
   exact⟨_,rfl,rfl,o," ",2,rfl,rfl,rfl,zeU,ol,zl,fun b hb=>q6 b _ (sA3.trans (Same.new hb)) upd_same⟩
  rintro σ' H4 ⟨rfl,rfl,n4⟩
  exact⟨_,rfl,q5 n1 n2 n3 n4 a H4 sA3 hA3⟩
end
theorem zcf (c:Nat):∀xs:List (List Nat),(yd c xs).length≤(xs.map List.length).sum+xs.length
 | []=>Nat.le_refl _
 | [x]=>by simp [yd]
 | x::y::r=>by
  have:=zcf c (y::r)
  show (x++c::yd c (y::r)).length≤_
  rw [List.length_append,List.length_cons,List.map_cons,List.sum_cons,List.length_cons]
  omega
theorem zeV (ws:List Str):(Txt.join " " ws).length≤(ws.map (·.length)).sum+ws.length:=by
 rw [Xr,← zN,show (" ":Str)=⟨#[32]⟩ by decide +kernel,Qu]
 have:=zcf 32 (ws.map cpl)
 rw [List.map_map,List.length_map] at this
 have e:(ws.map (List.length ∘ cpl))=ws.map (·.length):=List.map_congr_left fun x _=>zN x
 rw [e] at this
 exact this
theorem zcX:(" ":Str)=sp:=by decide +kernel
theorem kJ (a b:Str):(a++b).length=a.length+b.length:=by rw [← zN,jD,List.length_append,zN,zN]
theorem zas {t b l:Int} (b0:0≤b) (b6:b≤8) (t1:t<10 ^ 40) (l0:0≤l):cnt t b l<10 ^ 500:=by
 unfold cnt
 split
 ·exact(show (0:Int)<10 ^ 500 by decide +kernel)
 ·have h2:=Int.ediv_le_self (l+1) (show 0≤t-b by omega)
  have h3:0≤(t-b) / (l+1):=Int.ediv_nonneg (by omega) (by omega)
  have e40:(10:Int) ^ 40≤2 ^ 133:=by decide +kernel
  have nb:intBits ((t-b) / (l+1)+b)≤140:=zP (by omega) (by omega)
  have h4:=Kr (k:=b.toNat) nb (by omega)
  rw [show ((b.toNat:Nat):Int)=b by omega] at h4
  have h5:intBits (ch ((t-b) / (l+1)+b) b)≤1200:=zg h4 (by omega)
  have h6:=intBits_le_iff.mp h5
  have zl4:(2:Int) ^ 1200≤10 ^ 500:=by decide +kernel
  omega
theorem zeW {t b l:Int} (b0:0≤b) (b8:b≤8) (t0:0≤t) (t1:t<10 ^ 40) (l0:0≤l) (l1:l<10 ^ 40):zcV t b l:=by
 refine⟨t0,by omega,b0,by omega,l0,by omega,zas b0 b8 t1 l0,?_⟩
 unfold zkZ
 split
 ·exact(show (0:Int)<10 ^ 500 by decide +kernel)
 split
 ·exact(show (0:Int)<10 ^ 500 by decide +kernel)
 exact zas (by omega) (by omega) (by omega) (by omega)
theorem zdA {P:Program}{w:World}{K:W.Frag}{mg:Str→Option Value}{base:Heap}{k:Nat}{x:Str}{ps:List Str} {sp sp':Sp} (h:∀vs H Q E,sp' vs H Q E→sp vs H Q E) (F:Fn P w K mg base k x ps sp):Fn P w K mg base k x ps sp':=by
 obtain⟨f,fd,F,kp,b,m⟩:=F
 exact⟨f,fd,⟨fun vs H Q E hh=>F.len vs H Q E (h _ _ _ _ hh),fun A outer s H args us vs Q E hr e0 hb r hh=>F.run A outer s H args us vs Q E hr e0 hb r (h _ _ _ _ hh)⟩,kp,b,m⟩
noncomputable def zat (K:W.Frag):Sp:=fun vs H Q _=>∃message turns bells late:Int,vs=[.int message,.int turns,.int bells,.int late]∧0≤message∧message<cnt turns bells late∧0≤bells∧bells≤60∧0≤late∧intBits late≤8000∧intBits turns≤70000∧intBits message≤50000 ∧
 ∀(p:Addr) (bs:List Int) (H':Hp),Same H H'→H p=none→H' p=some (.lst ((qO late bs).map V.int))→jd bs→bs.length=bells.toNat→Zy bs=message→Szs 60010 bs→Q (.ref p) H'
theorem zcY {P:Program}{w:World}{K:W.Frag}{mg:Str→Option Value}{base:Heap}{k:Nat}{C:Addr} (G:FnE P w K mg base k "written" ["message","turns","bells","late"] (Wg K C)):Fn P w K mg base k "written" ["message","turns","bells","late"] (zat K):=
 zdA (fun vs H Q E h=>by
  obtain⟨m,t,b,l,rfl,m0,m1,b0,b60,l0,lb,tb,mb,q⟩:=h
  exact⟨m,t,b,l,rfl,b0,b60,l0,lb,tb,mb,fun _=>q,fun z=>absurd ⟨m0,m1⟩ z⟩) (zaY G)
theorem FnE.mono {P:Program}{w:World}{K:W.Frag}{mg:Str→Option Value}{base:Heap}{k j:Nat}{x:Str}{ps:List Str}{sp:Sp} (G:FnE P w K mg base k x ps sp) (h:k≤j):FnE P w K mg base j x ps sp:=by
 obtain⟨f,fd,F,r⟩:=G
 exact⟨f,fd,F.mono h,r⟩
theorem zfZ (x y:V) (r:List V):cutV (x::y::r) (some 2) none=r:=by
 unfold cutV
 have e:HT.sIx (x::y::r).length 0 (some 2)=min 2 (x::y::r).length:=HT.sIx_nat ..
 rw [e]
 show ((x::y::r).drop (min 2 (r.length+2))).take ((r.length+2)-min 2 (r.length+2))=r
 rw [show min 2 (r.length+2)=2 by omega]
 exact List.take_of_length_le (Nat.le_refl _)
theorem zg8:(10:Int) ^ 60≤10 ^ 500:=by decide +kernel
section
variable {CD CF:Addr}
noncomputable def Vp (CD CF CN:Addr) (NH:Sp):Sp:=fun vs H Q E=>∃(x a d:Addr) (n:Nat) (fr:Str→Option (Int×Int×Int)) (w1:Str) (ws:List Str),vs=[.ref x,.ref a]∧qd CD CF x d n fr H∧H a=some (.lst ((("hear":Str)::w1::ws).map V.str))∧zK w1∧Vm ws∧ws.length≤1000000∧(∀y∈ws,y.length≤1000000) ∧
 (fr w1=none→∀H',Same H H'→E (.ref CN) none H') ∧
 (∀t b l,fr w1=some (t,b,l)→∀r p H',Same H H'→H' r=some (.lst ((ws.map jl).map V.int))→zd5 CF H' p t b l→NH [.ref r,.ref p] H' (fun v H2=>∃i j:Str,V.str "note "=.str i∧v=.str j∧i.length+j.length≤sizeLine∧Q (.str (i++j)) H2) (fun C _ H2=>E C none H2))
theorem zk0:¬(V.str "hear"=V.str "read"):=fun z=>absurd (V.str.inj z) (by decide +kernel)
theorem zk1:¬(V.str "hear"=V.str "unkey"):=fun z=>absurd (V.str.inj z) (by decide +kernel)
theorem vK:FnScope ["self","words","name","reading","frame"] ["self","words"] (defScope qz):=⟨rfl,rfl,rfl,by decide +kernel,rfl,by decide +kernel,by decide +kernel⟩
theorem zcZ {f:Addr}{fd:FuncData} (F:Vc K "listen" "Desk.listen" qz f fd) (hT:DkT K CD CF){zc zr:Addr}{NH RD UK NT:Sp} (ju:FnE P w K mg base 2 "name_in" ["word"] (Kw zc)) (QC:FnE P w K mg base 4 "turns_in" ["words"] (zb6 K zc)) (Jj:MtE P w K mg base 1 CD "kept" ["self","name"] (zbd CD CF zr)) (Jl:FnE P w K mg base 3 "read" ["reading","turns","bells","late"] RD) (zc0:FnE P w K mg base 4 "unkeyed" ["reading","turns","bells","late"] UK) (Ju:Fn P w K mg base 1 "number_told" ["number"] NT) (Zc:FnE P w K mg base 44 "note_heard" ["reading","frame"] NH):FnOk P w K mg base (CXE P w) 45 f fd ["self","words"] (Vp CD CF zr NH):=by
 refine F.okE vK (fun vs H Q E h=>?_) (fun cdv A outer s H vs Q E hr h=>?_)
 ·obtain⟨x,a,d,n,fr,w1,ws,rfl,_⟩:=h
  rfl
 ·obtain⟨x,a,d,n,fr,w1,ws,rfl,hD,hA,g1,g2,l2,l3,q2,q3⟩:=h
  refine⟨_,(pss_cons (ps_set (i:=2) vK.nd rfl (Or.inl rfl) (qu ju (hr.mono (by decide)) (by rfl) zQ (pa_cons (pe_ix ix_list (pv 1) pe_int (fun _ _=>rfl)) pa_nil)))
   (pss_cons (ps_set (i:=3) vK.nd rfl (Or.inl rfl) (qu QC (hr.mono (by decide)) (by rfl) zQ (pa_cons (pe_slice sl_list (pv 1) (po_some pe_int) po_none) pa_nil)))
   (pss_cons (ps_set (i:=4) vK.nd rfl (Or.inl rfl) (JH (pv 0) Jj (hr.mono (by decide)) zQ (pa_cons (pv 2) pa_nil)))
   (pss_cons (ps_if (pt_cmpR op_eq (pe_ix ix_list (pv 1) pe_int (fun _ _=>rfl)) pe_str (nomark _))
    (pss_one (ps_ret (zq Ju (hr.mono (by decide)) (by rfl) (pa_cons (qu Jl (hr.mono (by decide)) (by rfl) zQ (pa_cons (pv 3) (pa_cons (pe_fld (pv 4) rfl) (pa_cons (pe_fld (pv 4) rfl) (pa_cons (pe_fld (pv 4) rfl) pa_nil))))) pa_nil))))
    pss_nil)
   (pss_cons (ps_if (pt_cmpR op_eq (pe_ix ix_list (pv 1) pe_int (fun _ _=>rfl)) pe_str (nomark _))
    (pss_one (ps_ret (zq Ju (hr.mono (by decide)) (by rfl) (pa_cons (qu zc0 (hr.mono (by decide)) (by rfl) zQ (pa_cons (pv 3) (pa_cons (pe_fld (pv 4) rfl) (pa_cons (pe_fld (pv 4) rfl) (pa_cons (pe_fld (pv 4) rfl) pa_nil))))) pa_nil))))
    pss_nil)
   (pss_one (ps_ret (pe_op op_add_str pe_str (qu Zc (hr.mono (by decide)) (by rfl) zQ (pa_cons (pv 3) (pa_cons (pv 4) pa_nil))))))))))),?_⟩
  refine⟨_,rfl,a,_,1,_,rfl,rfl,SqL.of hA,(show atI ((("hear":Str)::w1::ws).map V.str) ((1:Nat):Int)=some (V.str w1) from atI_nat rfl),w1,rfl,Nat.le_trans g1.le (by decide),fun _ H1 s1=>?_,fun z=>absurd g1 z⟩
  have hA1:=s1 _ _ hA
  refine⟨_,rfl,_,rfl,_,_,rfl,SqL.of hA1,fun pc hpc=>?_⟩
  have ec:cutV ((("hear":Str)::w1::ws).map V.str) (some 2) none=ws.map V.str:=zfZ ..
  rw [ec]
  refine⟨pc,ws,rfl,SqL.of upd_same,l2,l3,g2,fun rp H2 s2 _ h2=>?_⟩
  have s02:=(s1.trans (Same.new (o:=.lst (ws.map V.str)) hpc)).trans s2
  have hD2:=hD.mono s02
  have hA2:=s02 _ _ hA
  obtain⟨dx,hx⟩:=hD2.self
  refine⟨_,rfl,x,dx,_,rfl,hx,wR (by decide +kernel),_,rfl,x,d,n,fr,w1,rfl,hD2,fun e=>q2 e H2 s02,fun t b l e p ip=>?_⟩
  have h0:atI ((("hear":Str)::w1::ws).map V.str) ((0:Nat):Int)=some (V.str "hear"):=atI_nat rfl
  exact⟨_,rfl,a,_,0,_,rfl,rfl,SqL.of hA2,h0,rfl,_,rfl,ifF zk0 ⟨_,rfl,a,_,0,_,rfl,rfl,SqL.of hA2,h0,rfl,_,rfl,ifF zk1 ⟨_,rfl,_,rfl,q3 t b l e rp p H2 s02 h2 ip⟩⟩⟩
end
theorem zg9:cpl (" ":Str)=[32]:=by decide +kernel
theorem Jm (ws:List Str):cpl (Txt.join " " ws)=yd 32 (ws.map cpl):=by
 rw [Xr,show (" ":Str)=⟨#[32]⟩ by decide +kernel,Qu]
theorem join_one (x:Str):Txt.join " " [x]=x:=yR (by rw [Jm];rfl)
theorem Vq {x:Str}{r:List Str} (h:r≠[]):cpl (Txt.join " " (x::r))=cpl x++32::cpl (Txt.join " " r):=by
 cases r with
 | nil=>exact absurd rfl h
 | cons y r=>
  rw [Jm,Jm]
  rfl
theorem Vr {w0 nm:Str}{r:List Str} (h0:Qp w0) (h1:Qp nm) (h2:∀w∈r,Qp w):Txt.split (Txt.join " " (w0::nm::r)) " "=w0::nm::r:=by
 rw [zcX]
 refine zcD (by simp) fun w hw=>?_
 rcases List.mem_cons.mp hw with rfl | hw
 ·exact h0
 rcases List.mem_cons.mp hw with rfl | hw
 ·exact h1
 exact h2 w hw
theorem zau {ns:List Int} (h:∀n∈ns,0≤n):∀w∈ns.map txt,Qp w:=fun w hw=>by
 obtain⟨n,hn,rfl⟩:=List.mem_map.mp hw
 exact zeB (h n hn)
theorem zcg {ns:List Int} (h:∀n∈ns,0≤n):(ns.map txt).map jl=ns:=by
 rw [List.map_map]
 have:ns.map (jl ∘ txt)=ns.map id:=List.map_congr_left fun n hn=>Xu (h n hn)
 rw [this,List.map_id]
theorem zbj {w0 nm:Str}{ns:List Int} (h0:w0.length≤100) (h1:nm.length≤100) (hl:ns.length≤1000) (hb:∀n∈ns,0≤n∧n<10 ^ 500):(Txt.join " " (w0::nm::ns.map txt)).length+2≤sizeLine:=by
 have h2:=zeV (w0::nm::ns.map txt)
 have h3:=Ji hb
 simp only [List.map_cons,List.sum_cons,List.length_cons,List.length_map] at h2
 rw [sizeLine_eq]
 omega
theorem zd8 {ns:List Int} (h:∀n∈ns,0≤n∧n<10 ^ 60) (pw:ns.Pairwise (·≤·)):Vm (ns.map txt):=by
 refine⟨fun x hx=>?_,by rw [zcg fun n hn=>(h n hn).1];exact pw⟩
 obtain⟨n,hn,rfl⟩:=List.mem_map.mp hx
 exact ZR (by decide) (h n hn).1 (h n hn).2
theorem ZJ {n:Int} (h0:0≤n) (h1:n<10 ^ 500):(txt n).length≤500:=(ZR (k:=500) (by decide) h0 h1).le
section
variable {K:W.Frag}{CD CF CO:Addr}{RG LS SN CH:Sp}{x d:Addr}{n:Nat}{fr:Str→Option (Int×Int×Int)}{H:Hp}{Q:VK}{E:XK}
theorem zeX:Qp "frame":=by unfold Qp;decide +kernel
theorem Wl {nm:Str}{t b l:Int} (hD:qd CD CF x d n fr H) (hn:n<1000) (g:zK nm) (ok:zcV t b l)
  (q:∀H',je d H H'→qd CD CF x d (n+1) (Qm fr nm (t,b,l)) H'→Q (.str ("messages "++txt (cnt t b l))) H'):zcW CD CO (zbf CD CF CO) RG LS SN CH [.ref x,.str (Txt.join " " ("frame"::nm::[t,b,l].map txt))] H Q E:=by
 obtain⟨dx,hx⟩:=hD.self
 have b60:b<10 ^ 60:=Int.lt_of_le_of_lt ok.b1 (by decide)
 have hb:∀m∈[t,b,l],0≤m∧m<10 ^ 60:=fun m hm=>by
  rcases List.mem_cons.mp hm with rfl | hm
  ·exact⟨ok.t0,ok.t1⟩
  rcases List.mem_cons.mp hm with rfl | hm
  ·exact⟨ok.b0,b60⟩
  rw [List.mem_singleton.mp hm]
  exact⟨ok.l0,ok.l1⟩
 have hb5:∀m∈[t,b,l],0≤m∧m<10 ^ 500:=fun m hm=>⟨(hb m hm).1,Int.lt_of_lt_of_le (hb m hm).2 zg8⟩
 refine⟨x,dx,d,_,"frame",nm::[t,b,l].map txt,rfl,hx,zbj (by decide +kernel) (by have:=g.le;omega) (by show 3≤1000;decide) hb5,Vr zeX (Jh g) (zau fun m hm=>(hb m hm).1),fun _ _ a H' s h=>?_,fun z=>?_,fun z=>?_,fun z=>?_,fun z=>?_⟩
 ·have vt:=Xu ok.t0
  have vb:=Xu ok.b0
  have vl:=Xu ok.l0
  refine⟨x,a,d,n,fr,"frame",nm,txt t,txt b,txt l,rfl,hD.mono s,hn,h,by have:=g.le;omega,Nat.le_trans (ZJ ok.t0 (hb5 t (by simp)).2) (by decide),Nat.le_trans (ZJ ok.b0 (hb5 b (by simp)).2) (by decide),Nat.le_trans (ZJ ok.l0 (hb5 l (by simp)).2) (by decide),fun z=>?_,fun _=>?_⟩
  ·exact absurd ⟨g,ZR (by decide) ok.t0 ok.t1,⟨ZR (by decide) ok.b0 b60,by rw [vb];exact ok.b1⟩,ZR (by decide) ok.l0 ok.l1⟩ z
  ·rw [vt,vb,vl]
   exact⟨ok,fun H2 s2 h2=>q H2 ((je.of s).trans s2) h2⟩
 ·exact absurd z (by decide +kernel)
 ·exact absurd z (by decide +kernel)
 ·exact absurd z (by decide +kernel)
 ·exact absurd ⟨rfl,rfl⟩ z
end
section
open PySem.Spec PyProof.Rows
variable {X:Cx}{pins:List (Addr×Obj)}{σ:L2.St}{H:Hp}{s:Shared}{a:Addr}{kvs:List (Key×V)}{k:Key}{u r:Value}{v:V}{A:Around}{E:Value→Shared→Prop}
theorem zha {Q:Value→Shared→Prop} (I:L2.Inv X pins σ H s) (e:H a=some (.dK kvs)) (ry:RelV (kV k) u) (rv:RelV v r) (hl:kvs.length<sizeLine)
  (h1:∀v0 w' s',valV kvs k=some v0→L2.Inv X pins σ H s'→RelV v0 w'→Q w' s') (h2:∀s',valV kvs k=none→L2.Inv X pins σ (upd H a (.dK (putK kvs k v))) s'→Q r s') :
  wpAny (model X.prog X.w) A (call (.builtin "dict.setdefault") [.ref a,u,r]) Q E s:=by
 obtain⟨z,hd,vs,rel,dd⟩:=dk_of I.hok e
 have hz:vs.length≤sizeLine:=by rw [← rel.length];exact z
 have hl2:(putK kvs k v).length≤sizeLine:=by have:=length_putK kvs k v;omega
 refine call_meetsIn PySem.F.slot_dict_setdefault dd.typeIs PySem.F.entry_dict_setdefault (PySem.F.args_dict_setdefault_3 _ _ _) (kt_meets_setdefault (mixKind X.prog X.w) a (kV_is ry) hd r) ⟨vs,dd,hz,fun w' hw=>?_,fun hn h' dd' hs=>?_⟩
 ·have rr:=rel.val k
  rw [hw] at rr
  cases e2:valV kvs k with
  | none=>rw [e2] at rr;exact absurd rr (by intro z;cases z)
  | some v0=>
   rw [e2] at rr
   exact h1 v0 w' _ e2 (I.tok _) rr
 ·have hv:valV kvs k=none:=by
   have rr:=rel.val k
   rw [hn] at rr
   cases e2:valV kvs k with
   | none=>rfl
   | some v0=>rw [e2] at rr;exact absurd rr (by intro z;cases z)
  have he:∃q,h'.get? a=some q:=let ⟨q,_,_,hq,_⟩:=dd';⟨q,hq⟩
  exact h2 _ hv (d_write I (by rw [e];exact True.intro) hs he (dk_new hl2 hd (rel.put k rv) dd'))
end
section
open PySem.Spec PyProof.Rows
variable {X:Cx}{o e f:Expr}{apos cpos:Pos}{td ty tx:TE}
noncomputable def zhb (td ty tx:TE):TE:=fun σ H Q=>td σ H fun x H1=>∃a,x=.ref a∧IsD H1 a∧ty σ H1 fun y H2=>tx σ H2 fun z H3=>∃kvs k,H3 a=some (.dK kvs)∧y=kV k∧kvs.length<sizeLine ∧
 (∀v,valV kvs k=some v→Q v H3)∧(valV kvs k=none→Q z (upd H3 a (.dK (putK kvs k z))))
theorem zeY (ho:PE X o td) (he:PE X e ty) (hf:PE X f tx) (m:M2 X o "setdefault" apos e f cpos):PE X (.Call (.Attribute o "setdefault" apos) [e,f] [] cpos) (zhb td ty tx):=by
 intro pins s σ H Q I h
 refine wpAny_Call_method m.base m.few m.line PySem.F.plainAttrs_dict PySem.F.slot_dict_setdefault PySem.F.type_dict_setdefault (thn (ho pins s σ H _ I h) fun u s1 ⟨x,H1,I1,rx,a,ex,d,q1⟩=>?_)
 subst ex
 obtain rfl:u=Value.ref a:=rx
 obtain⟨t1,t2,_⟩:=isD_at I1 d
 refine⟨t1,t2,?_⟩
 rw [m.trees]
 refine Calls.callWith_builtin rfl (Calls.evalArgs_plain (Calls.spliced_cons (thn (he pins s1 σ H1 _ I1 q1) fun iv s2 ⟨y,H2,I2,ry,q2⟩=>
  Calls.spliced_cons (thn (hf pins s2 σ H2 _ I2 q2) fun fv s3 ⟨z,H3,I3,rz,kvs,k,e3,ey,hl,c1,c2⟩=>Calls.spliced_nil ?_))))
 subst ey
 exact zha I3 e3 ry rz hl (fun v0 w' s4 hv I4 rw'=>⟨v0,H3,I4,rw',c1 v0 hv⟩) (fun s4 hv I4=>⟨z,_,I4,rz,c2 hv⟩)
end
noncomputable def xT (L late:Int):Int→List (List Int)→List Int
 | _,[]=>[]
 | k,bs::r=>(qO late bs).map (fun x=>k*L+x)++xT L late (k+1) r
theorem JQ (L late:Int) (bs:List Int):∀(bss:List (List Int)) (k:Int),xT L late k (bss++[bs])=xT L late k bss++(qO late bs).map (fun x=>(k+(bss.length:Int))*L+x)
 | [],k=>by
  show (qO late bs).map (fun x=>k*L+x)++[]=[]++(qO late bs).map (fun x=>(k+((0:Nat):Int))*L+x)
  rw [List.append_nil,List.nil_append,show k+((0:Nat):Int)=k by omega]
 | b::r,k=>by
  show (qO late b).map (fun x=>k*L+x)++xT L late (k+1) (r++[bs])=(qO late b).map (fun x=>k*L+x)++xT L late (k+1) r++_
  rw [JQ L late bs r (k+1),List.append_assoc,List.length_cons,show k+1+(r.length:Int)=k+((r.length+1:Nat):Int) by omega]
noncomputable def grp (L k:Int) (ms:List Int):List Int:=(ms.filter (fun t=>decide (t / L=k))).map (fun t=>t % L)
theorem Z3 (L k:Int) (a b:List Int):grp L k (a++b)=grp L k a++grp L k b:=by
 unfold grp
 rw [List.filter_append,List.map_append]
theorem Z4 {L k t:Int} (h:t / L=k):grp L k [t]=[t % L]:=by
 unfold grp
 rw [List.filter_cons_of_pos (by rw [decide_eq_true h]),List.filter_nil]
 rfl
theorem Z5 {L k t:Int} (h:¬t / L=k):grp L k [t]=[]:=by
 unfold grp
 rw [List.filter_cons_of_neg (by rw [decide_eq_false h];decide),List.filter_nil]
 rfl
section
noncomputable def zch:Sp:=fun vs H Q _=>∃turns bells:Int,vs=[.int turns,.int bells]∧1≤bells∧bells≤turns∧Q .non H
theorem ZK:FnScope ["turns","bells"] ["turns","bells"] (defScope qx):=⟨rfl,rfl,rfl,by decide +kernel,rfl,by decide +kernel,by decide +kernel⟩
theorem Vs (D:Def K mg "refuse_silent" qx ["turns","bells"]) (T:Txt K mg):Fn P w K mg base 1 "refuse_silent" ["turns","bells"] zch:=by
 refine D.fn ZK (fun vs H Q E h=>?_) (fun f cdv A outer s H vs Q E hr h=>?_)
 ·obtain⟨a,b,rfl,_⟩:=h
  rfl
 ·obtain⟨turns,bells,rfl,b1,bt,q⟩:=h
  refine⟨_,(pss_one (ps_if (pw_or (pt_cmpR jG (pv 1) pe_int (nomark _)) (pw_or1 (pt_cmpR xG (pv 1) (pv 0) (nomark _)))).pt
    (pss_one (ps_never))
    pss_nil)),?_⟩
  exact⟨_,rfl,_,_,rfl,rfl,_,rfl,ifF (by omega) ⟨_,rfl,_,rfl,_,_,rfl,rfl,_,rfl,ifF (by omega) q⟩⟩
noncomputable def zc1 (K:W.Frag):Sp:=fun vs H Q _=>∃(a:Addr) (ms:List Int) (turns bells late:Int),vs=[.ref a,.int turns,.int bells,.int late]∧SqL K H a (ms.map V.int)∧ms.length≤400∧1≤bells∧bells≤60∧bells≤turns∧0≤late∧intBits late≤8000∧intBits turns≤60000∧(∀m∈ms,0≤m∧m<cnt turns bells late∧intBits m≤50000) ∧
 ∀(p:Addr) (bss:List (List Int)) (H':Hp),Same H H'→H p=none→H' p=some (.lst ((xT (turns+late) late 0 bss).map V.int))→bss.length=ms.length→(∀(i:Nat) (bs:List Int) (m:Int),bss[i]?=some bs→ms[i]?=some m→jd bs∧bs.length=bells.toNat∧Zy bs=m)→(∀bs∈bss,Szs 60010 bs)→Q (.ref p) H'
theorem XH:FnScope ["messages","turns","bells","late","talk","place","message","start"] ["messages","turns","bells","late"] (defScope Xx):=⟨rfl,rfl,rfl,by decide +kernel,rfl,by decide +kernel,by decide +kernel⟩
theorem zf0 (D:Def K mg "rung" Xx ["messages","turns","bells","late"]) (T:Txt K mg) (Ka:Fn P w K mg base 1 "refuse_silent" ["turns","bells"] zch) (zd9:Fn P w K mg base 40 "written" ["message","turns","bells","late"] (zat K)):Fn P w K mg base 41 "rung" ["messages","turns","bells","late"] (zc1 K):=by
 refine D.fn XH (fun vs H Q E h=>?_) (fun f cdv A outer s H vs Q E hr h=>?_)
 ·obtain⟨a,ms,b,c,d,rfl,_⟩:=h
  rfl
 ·obtain⟨a,ms,turns,bells,late,rfl,hS,hl,b1,b60,bt,l0,lb,tb,hm,q⟩:=h
  refine⟨_,(pss_cons (ps_expr (zq Ka (hr.mono (by decide)) (by rfl) (pa_cons (pv 1) (pa_cons (pv 2) pa_nil))))
   (pss_cons (ps_set (i:=4) XH.nd rfl (Or.inl rfl) (pe_lst pa_nil))
   (pss_cons (ps_for PassesOwn.never rfl (Xq (by rfl) T.z_enumerate (pa_cons (pv 0) pa_nil)) (pg_tup (n:=2) rfl (pgs_cons (pg_name (i:=5) XH.nd rfl (Or.inl rfl)) (pgs_cons (pg_name (i:=6) XH.nd rfl (Or.inl rfl)) pgs_nil)))
    (pss_cons (ps_set (i:=7) XH.nd rfl (Or.inr rfl) (pe_op qY (pv 5) (pe_op zx (pv 1) (pv 3))))
    (pss_one (ps_expr (pe_bm PySem.F.plainAttrs_list PySem.F.slot_list_extend PySem.F.type_list_extend mt_extend (pv 4) (pa_cons (jT (own:=["turn"]) (fr:=["start"]) (ix:=[7]) rfl ⟨rfl,rfl,rfl,rfl,rfl,rfl⟩ (pi_list (zq zd9 (hr.mono (by decide)) (by rfl) (pa_cons (pv 6) (pa_cons (pv 1) (pa_cons (pv 2) (pa_cons (pv 3) pa_nil)))))) (fun _ _ _ _ _=>(pg_name (i:=0) (show (["turn","start"]:List Str).Nodup by decide +kernel) rfl (Or.inl rfl))) (fun _ _ _ _ _=>qJ) (fun _ _ _ _ _=>(pe_op zx (pv 1) (pv 0)))) pa_nil))))))
   (pss_one (ps_ret (pv 4)))))),?_⟩
  refine⟨_,rfl,_,rfl,turns,bells,rfl,b1,bt,(by decide),fun p hp=>?_⟩
  have sb:intBits (turns+late)≤70000:=zg (intBits_add_le (m:=60000) (n:=60000) tb (zg lb (by decide))) (by decide)
  refine⟨_,rfl,a,ms.map V.int,rfl,(Same.new hp).seq hS,zen (K:=K) (a:=a) (xs:=ms.map V.int) (fun i σ H2=>∃(bss:List (List Int)) (v5 v6 v7:Option V),σ=[some (.ref a),some (.int turns),some (.int bells),some (.int late),some (.ref p),v5,v6,v7]∧Same H H2∧H2 p=some (.lst ((xT (turns+late) late 0 bss).map V.int))∧bss.length=i∧(xT (turns+late) late 0 bss).length≤i*60∧(∀(j:Nat) (bs:List Int) (m:Int),bss[j]?=some bs→ms[j]?=some m→jd bs∧bs.length=bells.toNat∧Zy bs=m)∧(∀bs∈bss,Szs 60010 bs))
   ⟨[],none,none,none,rfl,Same.new hp,upd_same,rfl,Nat.zero_le _,(fun j bs m h=>by simp at h),(fun _ z=>nomatch z)⟩ (fun i σ H2 ⟨_,_,_,_,_,sm,_⟩=>sm.seq hS) ?_ ?_⟩
  ·rintro i xv t σ H2 hx ⟨bss,v5,v6,v7,rfl,sm,hT,bl,rl,hb,hz⟩ ht
   have hil:i<ms.length:=by have:=(List.getElem?_eq_some_iff.mp hx).1;rwa [List.length_map] at this
   rw [List.getElem?_map] at hx
   obtain⟨m,hmi,rfl⟩:=Option.map_eq_some_iff.mp hx
   obtain⟨m0,m1,mb⟩:=hm m (List.mem_of_getElem? hmi)
   have s3:Same H (upd H2 t (.tup [.int i,.int m])):=sm.put ht
   have ht3:(upd H2 t (.tup [.int i,.int m])) t=some (.tup [.int i,.int m]):=upd_same
   have hT3:(upd H2 t (.tup [.int i,.int m])) p=some (.lst ((xT (turns+late) late 0 bss).map V.int)):=(Same.new ht) _ _ hT
   generalize upd H2 t (.tup [.int i,.int m])=H3 at s3 ht3 hT3 ⊢
   refine⟨t,_,rfl,SqT.of ht3,rfl,_,_,rfl,_,_,rfl,rfl,?_⟩
   refine⟨_,rfl,_,rfl,_,rfl,_,_,rfl,rfl,_,_,rfl,rfl,⟨64,70000,zP (by omega) (by omega),sb,by decide⟩,?_⟩
   refine⟨_,rfl,.inl ⟨rfl,_,SqL.of hT3⟩,_,rfl,_,rfl,_,rfl,_,rfl,m,turns,bells,late,rfl,m0,m1,by omega,b60,l0,lb,zg tb (by decide),mb,fun pw bs H4 s4 hpw hW B hbl hnum sz=>?_⟩
   have bll:(qO late bs).length≤60:=by rw [ZX,hbl];omega
   refine⟨pw,rfl,⟨_,SqL.of hW⟩,fun acc hacc=>xH (K:=K) (a:=pw) (xs:=(qO late bs).map V.int) (fun j=>V.int ((i:Int)*(turns+late)+(qO late bs).getD j 0)) (SqL.of hW) hacc (by rw [List.length_map];exact Nat.le_of_lt (small1000 (by omega))) (fun j x H6 R' hx s6 hR=>?_) ?_⟩
   ·rw [List.getElem?_map] at hx
    obtain⟨z,hz',rfl⟩:=Option.map_eq_some_iff.mp hx
    simp only [List.getD_eq_getElem?_getD,hz',Option.getD_some] at hR
    exact⟨rfl,_,rfl,_,rfl,_,_,rfl,rfl,hR⟩
   have eL:(List.range ((qO late bs).map V.int).length).map (fun j=>V.int ((i:Int)*(turns+late)+(qO late bs).getD j 0))=((qO late bs).map (fun x=>(0+(bss.length:Int))*(turns+late)+x)).map V.int:=by
    rw [bl,show (0:Int)+(i:Int)=(i:Int) by omega]
    apply List.ext_getElem
    ·simp
    ·intro j h1 h2
     simp at h1 h2
     simp [List.getD_eq_getElem?_getD,h2]
   rw [eL]
   have s5:Same H3 (upd H4 acc (.lst (((qO late bs).map (fun x=>(0+(bss.length:Int))*(turns+late)+x)).map V.int))):=s4.put hacc
   have h5:(upd H4 acc (.lst (((qO late bs).map (fun x=>(0+(bss.length:Int))*(turns+late)+x)).map V.int))) acc=some (.lst (((qO late bs).map (fun x=>(0+(bss.length:Int))*(turns+late)+x)).map V.int)):=upd_same
   generalize upd H4 acc (.lst (((qO late bs).map (fun x=>(0+(bss.length:Int))*(turns+late)+x)).map V.int))=H5 at s5 h5 ⊢
   refine⟨p,acc,_,_,rfl,rfl,s5 _ _ hT3,h5,?_,?_⟩
   ·rw [List.length_map,List.length_map,List.length_map,sizeLine_eq]
    omega
   refine⟨bss++[bs],_,_,_,rfl,(s3.trans s5).wr hp,?_,by rw [List.length_append,bl];rfl,?_,fun j c mm hj hmj=>?_,fun c hc=>?_⟩
   ·rw [upd_same,← List.map_append,← JQ]
   ·rw [JQ,List.length_append,List.length_map]
    omega
   ·by_cases hji:j<bss.length
    ·rw [List.getElem?_append_left hji] at hj
     exact hb j c mm hj hmj
    ·have hj2:=(List.getElem?_eq_some_iff.mp hj).1
     rw [List.length_append,List.length_singleton] at hj2
     have ej:j=i:=by omega
     subst ej
     rw [List.getElem?_append_right (by omega),bl,Nat.sub_self] at hj
     have:bs=c:=by simpa using hj
     subst this
     rw [hmi] at hmj
     cases hmj
     exact⟨B,hbl,hnum⟩
   ·rcases List.mem_append.mp hc with hc | hc
    ·exact hz c hc
    ·rw [List.mem_singleton.mp hc];exact sz
  ·rintro σ H2 ⟨bss,v5,v6,v7,rfl,sm,hT,bl,rl,hb,hz⟩
   rw [List.length_map] at bl
   exact⟨_,rfl,q p bss H2 sm hp hT bl hb hz⟩
end
section
structure ByM (L:Int) (rd:List Int) (kvs:List (Key×V)) (ks:List Int) (ad:Int→Addr) (H:Hp):Prop where
 nd:ks.Nodup
 len:kvs.length=ks.length
 val:∀k:Int,valV kvs (Sum.inl k)=if k∈ks then some (.ref (ad k)) else none
 ls:∀k∈ks,H (ad k)=some (.lst ((grp L k rd).map V.int))
 mem:∀k:Int,k∈ks↔grp L k rd≠[]
noncomputable def zk2 (K:W.Frag):Sp:=fun vs H Q _=>∃(a:Addr) (rd:List Int) (turns late:Int),vs=[.ref a,.int turns,.int late]∧SqL K H a (rd.map V.int)∧rd.length≤20000∧0<turns+late∧intBits (turns+late)≤9000 ∧
 ∀(d:Addr) (kvs:List (Key×V)) (ks:List Int) (ad:Int→Addr) (H':Hp),Same H H'→H' d=some (.dK kvs)→ByM (turns+late) rd kvs ks ad H'→Q (.ref d) H'
theorem vL:FnScope ["reading","turns","late","length","heard_of","turn"] ["reading","turns","late"] (defScope jJ):=⟨rfl,rfl,rfl,by decide +kernel,rfl,by decide +kernel,by decide +kernel⟩
theorem Wm (D:Def K mg "by_messages" jJ ["reading","turns","late"]) (T:Txt K mg):Fn P w K mg base 1 "by_messages" ["reading","turns","late"] (zk2 K):=by
 refine D.fn vL (fun vs H Q E h=>?_) (fun f cdv A outer s H vs Q E hr h=>?_)
 ·obtain⟨a,rd,t,l,rfl,_⟩:=h
  rfl
 ·obtain⟨a,rd,turns,late,rfl,hS,hl,hL,lb,q⟩:=h
  refine⟨_,(pss_cons (ps_set (i:=3) vL.nd rfl (Or.inl rfl) (pe_op zx (pv 1) (pv 2)))
   (pss_cons (ps_set (i:=4) vL.nd rfl (Or.inl rfl) pe_dnewK)
   (pss_cons (ps_for PassesOwn.never rfl (pi_list (pv 0)) (pg_name (i:=5) vL.nd rfl (Or.inl rfl))
    (pss_one (ps_expr (pe_bm PySem.F.plainAttrs_list PySem.F.slot_list_append PySem.F.type_list_append mt_append (zeY (pv 4) (pe_op yo (pv 5) (pv 3)) (pe_lst pa_nil) ⟨rfl,rfl,rfl,rfl⟩) (pa_cons (pe_op zF (pv 5) (pv 3)) pa_nil)))))
   (pss_one (ps_ret (pv 4)))))),?_⟩
  refine⟨_,rfl,_,rfl,_,_,rfl,rfl,fun d hd=>?_⟩
  generalize turns+late=L at hL lb q ⊢
  refine⟨_,rfl,a,rfl,⟨_,(Same.new hd).seq hS⟩,for_list (K:=K) (a:=a) (xs:=rd.map V.int) (fun i σ H2=>∃(kvs:List (Key×V)) (ks:List Int) (ad:Int→Addr) (v5:Option V),σ=[some (.ref a),some (.int turns),some (.int late),some (.int L),some (.ref d),v5]∧Same H H2∧H2 d=some (.dK kvs)∧i≤rd.length∧ks.length≤i∧ByM L (rd.take i) kvs ks ad H2∧(∀k∈ks,ad k≠d∧H (ad k)=none)∧(∀k∈ks,∀k'∈ks,ad k=ad k'→k=k'))
   ⟨[],[],fun _=>d,none,rfl,Same.new hd,upd_same,Nat.zero_le _,Nat.zero_le _,⟨List.nodup_nil,rfl,fun k=>rfl,(fun _ z=>nomatch z),fun k=>⟨(fun z=>nomatch z),(fun z=>absurd rfl z)⟩⟩,(fun _ z=>nomatch z),(fun _ z=>nomatch z)⟩ (fun i σ H2 _ ⟨_,_,_,_,_,sm,_⟩=>sm.seq hS) ?_ ?_⟩
  ·rintro i xv σ H2 hx ⟨kvs,ks,ad,v5,rfl,sm,hD,_,kl,M,fr,inj⟩
   have hil:i<rd.length:=by have:=(List.getElem?_eq_some_iff.mp hx).1;rwa [List.length_map] at this
   rw [List.getElem?_map] at hx
   obtain⟨t,hti,rfl⟩:=Option.map_eq_some_iff.mp hx
   have ert:rd.take (i+1)=rd.take i++[t]:=by rw [List.take_add_one,hti];rfl
   have zlS:kvs.length<sizeLine:=by rw [M.len,sizeLine_eq];omega
   have grl:∀k:Int,(grp L k (rd.take i)).length≤20000:=fun k=>by
    unfold grp
    rw [List.length_map]
    have h1:=List.length_filter_le (fun t=>decide (t / L=k)) (rd.take i)
    rw [List.length_take] at h1
    omega
   refine⟨_,rfl,d,rfl,.inl ⟨kvs,.inl hD⟩,_,rfl,_,rfl,_,_,rfl,rfl,⟨hL,lb⟩,(by decide),fun p hp=>⟨kvs,Sum.inl (t / L),(Same.new hp) _ _ hD,rfl,zlS,fun v hv=>?_,fun hv=>?_⟩⟩
   ·rw [M.val] at hv
    have hk:t / L∈ks:=by
     by_cases z:t / L∈ks
     ·exact z
     ·rw [if_neg z] at hv;cases hv
    rw [if_pos hk] at hv
    cases hv
    have s3:Same H (upd H2 p (.lst [])):=sm.put hp
    have s23:Same H2 (upd H2 p (.lst [])):=Same.new hp
    generalize upd H2 p (.lst [])=H3 at s3 s23 ⊢
    have hA:=s23 _ _ (M.ls _ hk)
    have fk:=fr _ hk
    refine⟨.inl ⟨rfl,_,SqL.of hA⟩,_,rfl,_,rfl,_,_,rfl,rfl,hL,ad (t / L),_,_,rfl,rfl,hA,?_,?_⟩
    ·rw [List.length_map,sizeLine_eq]
     have:=grl (t / L)
     omega
    refine⟨kvs,ks,ad,_,rfl,s3.wr fk.2,by rw [upd_ne fk.1.symm];exact s23 _ _ hD,hil,by omega,⟨M.nd,M.len,M.val,fun k hk'=>?_,fun k=>?_⟩,fr,inj⟩
    ·rw [ert,Z3]
     by_cases e:k=t / L
     ·subst e
      rw [upd_same,Z4 rfl,List.map_append]
      rfl
     ·rw [upd_ne (fun z=>e (inj k hk' _ hk z)),Z5 (fun z=>e z.symm),List.append_nil]
      exact s23 _ _ (M.ls k hk')
    ·rw [ert,Z3,M.mem]
     by_cases e:k=t / L
     ·subst e
      rw [Z4 rfl]
      exact⟨fun _ z=>by simp at z,fun _=>(M.mem _).mp hk⟩
     ·rw [Z5 (fun z=>e z.symm),List.append_nil]
   ·rw [M.val] at hv
    have hk:¬t / L∈ks:=fun z=>by rw [if_pos z] at hv;cases hv
    have pd:p≠d:=fun e=>by subst e;rw [hD] at hp;cases hp
    have pn:H p=none:=sm.free hp
    have hP:(upd (upd H2 p (.lst [])) d (.dK (putK kvs (Sum.inl (t / L)) (.ref p)))) p=some (.lst []):=by rw [upd_ne pd];exact upd_same
    have g0:grp L (t / L) (rd.take i)=[]:=by
     by_cases z:grp L (t / L) (rd.take i)=[]
     ·exact z
     ·exact absurd ((M.mem _).mpr z) hk
    refine⟨.inl ⟨rfl,_,SqL.of hP⟩,_,rfl,_,rfl,_,_,rfl,rfl,hL,p,_,_,rfl,rfl,hP,(by decide),?_⟩
    have s4:Same H (upd (upd H2 p (.lst [])) d (.dK (putK kvs (Sum.inl (t / L)) (.ref p)))):=(sm.put hp).wr hd
    have h4d:(upd (upd H2 p (.lst [])) d (.dK (putK kvs (Sum.inl (t / L)) (.ref p)))) d=some (.dK (putK kvs (Sum.inl (t / L)) (.ref p))):=upd_same
    have h4o:∀k∈ks,(upd (upd H2 p (.lst [])) d (.dK (putK kvs (Sum.inl (t / L)) (.ref p)))) (ad k)=some (.lst ((grp L k (rd.take i)).map V.int)):=fun k hk'=>by
     rw [upd_ne (fr k hk').1]
     exact(Same.new hp) _ _ (M.ls k hk')
    have adp:∀k∈ks,ad k≠p:=fun k hk' e=>by
     have:=M.ls k hk'
     rw [e,hp] at this
     cases this
    generalize upd (upd H2 p (.lst [])) d (.dK (putK kvs (Sum.inl (t / L)) (.ref p)))=H4 at s4 h4d h4o ⊢
    have hv0:valV kvs (Sum.inl (t / L))=none:=by rw [M.val,if_neg hk]
    refine⟨putK kvs (Sum.inl (t / L)) (.ref p),ks++[t / L],fun k=>if k=t / L then p else ad k,_,rfl,s4.wr pn,by rw [upd_ne pd.symm];exact h4d,hil,by rw [List.length_append,List.length_singleton];omega,⟨?_,?_,fun k=>?_,fun k hk'=>?_,fun k=>?_⟩,fun k hk'=>?_,fun k hk1 k' hk2 e=>?_⟩
    ·rw [List.nodup_append]
     refine⟨M.nd,by simp,fun a ha b hb=>?_⟩
     rw [List.mem_singleton.mp hb]
     exact fun e=>hk (e ▸ ha)
    ·rw [putK_new _ hv0,List.length_append,List.length_append,M.len]
     rfl
    ·rw [valV_put]
     by_cases e:k=t / L
     ·subst e
      rw [if_pos rfl,if_pos (by simp)]
      simp
     ·rw [if_neg (fun z=>e (Sum.inl.inj z)),M.val]
      by_cases z:k∈ks
      ·rw [if_pos z,if_pos (List.mem_append_left _ z),if_neg e]
      ·rw [if_neg z,if_neg (by intro y;rcases List.mem_append.mp y with y | y;exact z y;exact e (List.mem_singleton.mp y))]
    ·rw [ert,Z3]
     by_cases e:k=t / L
     ·subst e
      rw [if_pos rfl,upd_same,g0,Z4 rfl]
      rfl
     ·have hk2:k∈ks:=by
       rcases List.mem_append.mp hk' with y | y
       ·exact y
       ·exact absurd (List.mem_singleton.mp y) e
      rw [if_neg e,upd_ne (adp k hk2),Z5 (fun z=>e z.symm),List.append_nil]
      exact h4o k hk2
    ·rw [ert,Z3]
     by_cases e:k=t / L
     ·subst e
      rw [Z4 rfl]
      exact⟨fun _ z=>by simp at z,fun _=>by simp⟩
     ·rw [Z5 (fun z=>e z.symm),List.append_nil,← M.mem]
      exact⟨(fun y=>by rcases List.mem_append.mp y with y | y;exact y;exact absurd (List.mem_singleton.mp y) e),(fun y=>List.mem_append_left _ y)⟩
    ·show (if k=t / L then p else ad k)≠d∧H (if k=t / L then p else ad k)=none
     by_cases e:k=t / L
     ·rw [if_pos e];exact⟨pd,pn⟩
     ·rw [if_neg e]
      rcases List.mem_append.mp hk' with y | y
      ·exact fr k y
      ·exact absurd (List.mem_singleton.mp y) e
    ·have e:(if k=t / L then p else ad k)=(if k'=t / L then p else ad k'):=e
     have m1:k≠t / L→k∈ks:=fun z=>by
      rcases List.mem_append.mp hk1 with y | y
      ·exact y
      ·exact absurd (List.mem_singleton.mp y) z
     have m2:k'≠t / L→k'∈ks:=fun z=>by
      rcases List.mem_append.mp hk2 with y | y
      ·exact y
      ·exact absurd (List.mem_singleton.mp y) z
     by_cases e1:k=t / L
     ·by_cases e2:k'=t / L
      ·rw [e1,e2]
      ·rw [if_pos e1,if_neg e2] at e
       exact absurd e.symm (adp k' (m2 e2))
     ·by_cases e2:k'=t / L
      ·rw [if_neg e1,if_pos e2] at e
       exact absurd e (adp k (m1 e1))
      ·rw [if_neg e1,if_neg e2] at e
       exact inj k (m1 e1) k' (m2 e2) e
  ·rintro σ H2 ⟨kvs,ks,ad,v5,rfl,sm,hD,_,kl,M,fr,inj⟩
   rw [List.length_map,List.take_length] at M
   exact⟨_,rfl,q d kvs ks ad H2 sm hD M⟩
end
noncomputable def val (b:Int):List Int→Int
 | []=>0
 | x::xs=>x+b*val b xs
theorem JR (b x:Int):∀xs:List Int,val b (xs++[x])=val b xs+x*b ^ xs.length
 | []=>by show x+b*0=0+x*b ^ 0;rw [Int.mul_zero,Int.pow_zero,Int.mul_one];omega
 | y::ys=>by
  show y+b*val b (ys++[x])=y+b*val b ys+x*b ^ (ys.length+1)
  rw [JR b x ys,Int.mul_add,Int.pow_succ,Int.mul_left_comm b x,Int.mul_comm b (b ^ ys.length),← Int.add_assoc]
theorem yD {b:Int} (hb:0≤b):∀xs:List Int,(∀x∈xs,0≤x)→0≤val b xs
 | [],_=>Int.le_refl _
 | x::xs,h=>by
  have h1:=h x (List.mem_cons_self ..)
  have h2:=yD hb xs fun y hy=>h y (List.mem_cons_of_mem _ hy)
  have h3:=Int.mul_nonneg hb h2
  show 0≤x+b*val b xs
  omega
theorem zeZ {b:Int} (hb:1≤b):∀xs:List Int,(∀x∈xs,0≤x∧x<b)→val b xs<b ^ xs.length
 | [],_=>by show (0:Int)<b ^ 0;rw [Int.pow_zero];decide
 | x::xs,h=>by
  have h1:=h x (List.mem_cons_self ..)
  have h2:=zeZ hb xs fun y hy=>h y (List.mem_cons_of_mem _ hy)
  show x+b*val b xs<b ^ (xs.length+1)
  have h3:b*val b xs≤b*(b ^ xs.length-1):=Int.mul_le_mul_of_nonneg_left (by omega) (by omega)
  rw [Int.mul_sub,Int.mul_one] at h3
  rw [Int.pow_succ,Int.mul_comm (b ^ xs.length) b]
  omega
section
noncomputable def zdB:Sp:=fun vs H Q _=>∃n b:Int,vs=[.int n,.int b]∧0≤n∧2≤b∧n<2 ^ 8000∧intBits b≤8000 ∧
 ∀(p:Addr) (ys:List Int) (H':Hp),Same H H'→H p=none→H' p=some (.lst (ys.map V.int))→(∀y∈ys,0≤y∧y<b)→(∀y,ys.getLast?=some y→y≠0)→val b ys=n→ys.length≤8000→Q (.ref p) H'
theorem XJ:FnScope ["number","base","figures","left"] ["number","base"] (defScope Qw):=⟨rfl,rfl,rfl,by decide +kernel,rfl,by decide +kernel,by decide +kernel⟩
theorem ze0 (D:Def K mg "parts" Qw ["number","base"]) (T:Txt K mg):Fn P w K mg base 1 "parts" ["number","base"] zdB:=by
 refine D.fn XJ (fun vs H Q E h=>?_) (fun f cdv A outer s H vs Q E hr h=>?_)
 ·obtain⟨a,b,rfl,_⟩:=h
  rfl
 ·obtain⟨n,b,rfl,n0,b2,nb,bb,q⟩:=h
  refine⟨_,(pss_cons (ps_set (i:=2) XJ.nd rfl (Or.inl rfl) (pe_lst pa_nil))
   (pss_cons (ps_set (i:=3) XJ.nd rfl (Or.inl rfl) (pv 0))
   (pss_cons (ps_while PassesOwn.never (pt_cmpR xG (pv 3) pe_int (nomark _))
    (pss_cons (ps_expr (pe_bm PySem.F.plainAttrs_list PySem.F.slot_list_append PySem.F.type_list_append mt_append (pv 2) (pa_cons (pe_op zF (pv 3) (pv 1)) pa_nil)))
    (pss_one (ps_set (i:=3) XJ.nd rfl (Or.inl rfl) (pe_op yo (pv 3) (pv 1))))))
   (pss_one (ps_ret (pv 2)))))),?_⟩
  refine⟨(by decide),fun p hp=>⟨_,rfl,?_⟩⟩
  refine while_by (fun σ H2=>∃(ys:List Int) (left:Int) (k:Nat),σ=[some (.int n),some (.int b),some (.ref p),some (.int left)]∧Same H H2∧H2 p=some (.lst (ys.map V.int))∧0≤left∧left<2 ^ k∧ys.length+k=8000∧(∀y∈ys,0≤y∧y<b)∧(left=0→∀y,ys.getLast?=some y→y≠0)∧val b ys+left*b ^ ys.length=n)
   (fun σ _=>match σ with | [_,_,_,some (.int t)]=>t.toNat | _=>0) ⟨[],n,8000,rfl,Same.new hp,upd_same,n0,nb,rfl,(fun _ z=>nomatch z),(fun _ _ z=>nomatch z),?_⟩ ?_ ?_
  ·show 0+n*b ^ 0=n
   rw [Int.pow_zero];omega
  ·rintro σ H2 ⟨ys,left,k,rfl,sm,hH,l0,lk,yk,yb,yl,yv⟩
   refine⟨_,rfl,_,_,rfl,rfl,_,rfl,ifD (fun h=>?_) (fun h=>?_)⟩
   ·have r0:0≤left % b:=Int.emod_nonneg _ (by omega)
    have r1:left % b<b:=Int.emod_lt_of_pos _ (by omega)
    have d0:0≤left / b:=Int.ediv_nonneg l0 (by omega)
    have dm:=Int.mul_ediv_add_emod left b
    have k1:k≠0:=fun z=>by subst z;rw [Int.pow_zero] at lk;omega
    obtain⟨k',rfl⟩:∃k',k=k'+1:=⟨k-1,by omega⟩
    have d1:left / b<2 ^ k':=by
     have h2:2*(left / b)≤b*(left / b):=Int.mul_le_mul_of_nonneg_right b2 d0
     rw [Int.pow_succ] at lk
     omega
    have dl:left / b<left:=by
     have h2:2*(left / b)≤b*(left / b):=Int.mul_le_mul_of_nonneg_right b2 d0
     omega
    refine⟨_,rfl,.inl ⟨rfl,_,SqL.of hH⟩,_,rfl,_,rfl,_,_,rfl,rfl,by omega,_,_,_,rfl,rfl,hH,?_,?_⟩
    ·rw [List.length_map,sizeLine_eq];omega
    refine⟨_,rfl,_,rfl,_,_,rfl,rfl,⟨by omega,zg bb (by decide)⟩,⟨ys++[left % b],left / b,k',rfl,sm.wr hp,by rw [upd_same,List.map_append];rfl,d0,d1,by rw [List.length_append];simp;omega,fun y hy=>?_,fun z y hy=>?_,?_⟩,?_⟩
    ·rcases List.mem_append.mp hy with hy | hy
     ·exact yb y hy
     ·rw [List.mem_singleton.mp hy];exact⟨r0,r1⟩
    ·rw [List.getLast?_concat] at hy
     cases hy
     rw [z,Int.mul_zero] at dm
     omega
    ·rw [JR,List.length_append,Int.add_assoc]
     show val b ys+(left % b*b ^ ys.length+left / b*b ^ (ys.length+1))=n
     rw [Int.pow_succ,Int.mul_comm (b ^ ys.length) b,← Int.mul_assoc,← Int.add_mul,show left % b+left / b*b=left by rw [Int.mul_comm (left / b)];omega]
     exact yv
    ·show (left / b).toNat<left.toNat
     omega
   ·have e:left=0:=by omega
    subst e
    rw [Int.zero_mul,Int.add_zero] at yv
    exact⟨_,rfl,q p ys H2 sm hp hH yb (yl rfl) yv (by omega)⟩
  ·intro σ H2 R R' m h
   obtain⟨v,e1,i,j,e3,e4,b,e5,z⟩:=h
   exact⟨v,e1,i,j,e3,e4,b,e5,m _ _ z⟩
end
noncomputable def pairs (W:Int):List Int→List Int
 | a::b::r=>(a+b*W)::pairs W r
 | [a]=>[a]
 | []=>[]
theorem zav (W:Int):∀xs:List Int,val (W*W) (pairs W xs)=val W xs
 | []=>rfl
 | [a]=>by show a+W*W*0=a+W*0;rw [Int.mul_zero,Int.mul_zero]
 | a::b::r=>by
  show a+b*W+W*W*val (W*W) (pairs W r)=a+W*(b+W*val W r)
  rw [zav W r,Int.mul_add,Int.mul_assoc,Int.mul_comm b W]
  omega
theorem QD (W:Int):∀(n:Nat) (xs:List Int),xs.length=2*n→(List.range n).map (fun i=>V.int (xs.getD (2*i) 0+xs.getD (2*i+1) 0*W))=(pairs W xs).map V.int
 | 0,xs,h=>by
  have:xs=[]:=List.eq_nil_of_length_eq_zero (by omega)
  subst this
  rfl
 | n+1,xs,h=>by
  match xs,h with
  | a::b::r,h=>
   have ih:=QD W n r (by simp at h;omega)
   rw [List.range_succ_eq_map,List.map_cons,List.map_map]
   show V.int (a+b*W)::_=V.int (a+b*W)::(pairs W r).map V.int
   rw [← ih]
   congr 1
theorem pairs_len (W:Int):∀(n:Nat) (xs:List Int),xs.length=2*n→(pairs W xs).length=n
 | n,xs,h=>by
  have:=congrArg List.length (QD W n xs h)
  rw [List.length_map,List.length_range,List.length_map] at this
  exact this.symm
theorem zci {W:Int} (hW:1≤W):∀xs:List Int,(∀x∈xs,0≤x∧x<W)→∀x∈pairs W xs,0≤x∧x<W*W
 | [],_,x,hx=>nomatch hx
 | [a],h,x,hx=>by
  have e:x=a:=List.mem_singleton.mp hx
  subst e
  have h1:=h x (List.mem_cons_self ..)
  have h2:W*1≤W*W:=Int.mul_le_mul_of_nonneg_left hW (by omega)
  rw [Int.mul_one] at h2
  exact⟨h1.1,by omega⟩
 | a::b::r,h,x,hx=>by
  have h1:=h a (List.mem_cons_self ..)
  have h2:=h b (List.mem_cons_of_mem _ (List.mem_cons_self ..))
  rcases List.mem_cons.mp hx with e | hx
  ·subst e
   have h3:b*W≤(W-1)*W:=Int.mul_le_mul_of_nonneg_right (by omega) (by omega)
   have h4:0≤b*W:=Int.mul_nonneg h2.1 (by omega)
   rw [Int.sub_mul,Int.one_mul] at h3
   exact⟨by omega,by omega⟩
  ·exact zci hW r (fun y hy=>h y (List.mem_cons_of_mem _ (List.mem_cons_of_mem _ hy))) x hx
theorem zf1 (b:Int) (xs:List Int):val b (xs++[0])=val b xs:=by
 rw [JR,Int.zero_mul,Int.add_zero]
theorem ze1 {b:Int}{xs:List Int} (h:xs.length≤1):xs.sum=val b xs:=by
 match xs,h with
 | [],_=>rfl
 | [a],_=>show a+0=a+b*0;rw [Int.mul_zero]
theorem zf2 {n:Nat} (h:n≤100000):(2:Int)≠0∧(2:Int).natAbs<1073741824∧Builtin.Range.small 0 ((2*n:Nat):Int) 2=true∧Builtin.Range.rangeSize 0 ((2*n:Nat):Int) 2=(n:Int):=by
 have hs:Builtin.Range.rangeSize 0 ((2*n:Nat):Int) 2=(n:Int):=by
  unfold Builtin.Range.rangeSize
  rw [if_pos (by decide)]
  by_cases z:n=0
  ·subst z;rfl
  ·rw [if_pos (by omega)]
   omega
 refine⟨by decide,by decide,?_,hs⟩
 unfold Builtin.Range.small
 rw [hs]
 generalize hm:((2*n:Nat):Int)=m
 have m1:m≤200000:=by omega
 have m0:0≤m:=by omega
 simp only [Builtin.Range.rangeFitsLong]
 simp
 omega
theorem zbk {lo c:Int}{n:Nat}{acc:Addr}{own:Nat}{ix:List Nat}{g:TG}{te:TE}{σ:St}{H1:Hp}{Q:VK} (f:Nat→V) (hn:H1 acc=none) (hz:n≤sizeLine)
  (step:∀i H (R:VK),i<n→Same H1 H→R (f i) H→g (.int (lo+i*c)) (jk own ix σ) H fun σ4 H4=>σ4.drop own=ix.map (fun i=>(σ[i]?).getD none)∧te σ4 H4 R)
  (hd:Q (.ref acc) (upd H1 acc (.lst ((List.range n).map f)))) :
  Qs (zdQ lo c n) own ix g yP te σ H1 acc Q:=by
 refine⟨fun i m ys H=>m=n-i∧i≤n∧ys=(List.range i).map f∧H=upd H1 acc (.lst ys),⟨n,by simp,Nat.zero_le _,rfl,rfl⟩,?_⟩
 rintro i m ys H ⟨rfl,hi,rfl,rfl⟩
 refine⟨upd_same,?_⟩
 by_cases hlt:i<n
 ·refine .inr ⟨hlt,by rw [List.length_map,List.length_range];omega,fun x H3 y=>?_⟩
  obtain⟨e,y⟩:=y
  subst e y
  exact step i _ _ hlt (Same.new hn) ⟨upd_same,n-(i+1),by omega,rfl,hlt,by rw [List.range_succ,List.map_append];rfl,by rw [upd_upd]⟩
 ·have e:i=n:=by omega
  subst e
  exact .inl ⟨Nat.le_refl _,hd⟩
section
noncomputable def zk3 (K:W.Frag):Sp:=fun vs H Q _=>∃(a:Addr) (xs:List Int) (b:Int),vs=[.ref a,.int b]∧SqL K H a (xs.map V.int)∧xs.length≤8000∧2≤b∧intBits b≤8000∧(∀x∈xs,0≤x∧x<b)∧∀H',Same H H'→Q (.int (val b xs)) H'
theorem qF:FnScope ["figures","base","left","weight"] ["figures","base"] (defScope qy):=⟨rfl,rfl,rfl,by decide +kernel,rfl,by decide +kernel,by decide +kernel⟩
theorem JS (D:Def K mg "number_of_parts" qy ["figures","base"]) (T:Txt K mg):Fn P w K mg base 1 "number_of_parts" ["figures","base"] (zk3 K):=by
 refine D.fn qF (fun vs H Q E h=>?_) (fun f cdv A outer s H vs Q E hr h=>?_)
 ·obtain⟨a,xs,b,rfl,_⟩:=h
  rfl
 ·obtain⟨a,xs,b,rfl,hS,hl,b2,bb,xb,q⟩:=h
  refine⟨_,(pss_cons (ps_set (i:=2) qF.nd rfl (Or.inr rfl) (pe_callTy call_list_of (by rfl) T.z_list zcq (pa_cons (pv 0) pa_nil)))
   (pss_cons (ps_set (i:=3) qF.nd rfl (Or.inr rfl) (pv 1))
   (pss_cons (ps_while PassesOwn.never (pt_cmpR xG (pe_callB call_len_seq (by rfl) T.z_len xQ (pa_cons (pv 2) pa_nil)) pe_int (nomark _))
    (pss_cons (ps_if (pt_cmpR jG (pe_op zF (pe_callB call_len_seq (by rfl) T.z_len xQ (pa_cons (pv 2) pa_nil)) pe_int) pe_int (nomark _))
     (pss_one (ps_expr (pe_bm PySem.F.plainAttrs_list PySem.F.slot_list_append PySem.F.type_list_append mt_append (pv 2) (pa_cons pe_int pa_nil))))
     pss_nil)
    (pss_cons (ps_set (i:=2) qF.nd rfl (Or.inr rfl) (jT (own:=["place"]) (fr:=["left","weight"]) (ix:=[2,3]) rfl ⟨rfl,rfl,rfl,rfl,rfl,rfl⟩ (zac (by rfl) T.z_range (pa_cons pe_int (pa_cons (pe_callB call_len_seq (by rfl) T.z_len xQ (pa_cons (pv 2) pa_nil)) (pa_cons pe_int pa_nil)))) (fun _ _ _ _ _=>(pg_name (i:=0) (show (["place","left","weight"]:List Str).Nodup by decide +kernel) rfl (Or.inl rfl))) (fun _ _ _ _ _=>qJ) (fun _ _ _ _ _=>(pe_op zx (pe_ix (KR K) (pv 1) (pv 0) (fun _ _=>rfl)) (pe_op qY (pe_ix (KR K) (pv 1) (pe_op zx (pv 0) pe_int) (fun _ _=>rfl)) (pv 2))))))
    (pss_one (ps_set (i:=3) qF.nd rfl (Or.inr rfl) (pe_op qY (pv 3) (pv 3)))))))
   (pss_one (ps_ret (pe_callB (zbK rfl) (by rfl) T.z_sum zgB (pa_cons (pv 2) pa_nil))))))),?_⟩
  refine⟨_,rfl,_,_,rfl,.inl hS,fun p0 hp0=>⟨_,rfl,?_⟩⟩
  refine while_by (fun σ H2=>∃(p:Addr) (ys:List Int) (W:Int) (k:Nat),σ=[some (.ref a),some (.int b),some (.ref p),some (.int W)]∧Same H H2∧H p=none∧H2 p=some (.lst (ys.map V.int))∧2≤W∧intBits W≤8000*k∧k*(ys.length-1)<xs.length+1∧ys.length≤8000∧(∀y∈ys,0≤y∧y<W)∧val W ys=val b xs)
   (fun σ H2=>match σ with | [_,_,some (.ref p),_]=>(match H2 p with | some (.lst l)=>l.length | _=>0) | _=>0) ⟨p0,xs,b,1,rfl,Same.new hp0,hp0,upd_same,b2,by omega,by omega,hl,xb,rfl⟩ ?_ ?_
  ·rintro σ H2 ⟨p,ys,W,k,rfl,sm,hp,hH,W2,Wb,kb,yl,yb,yv⟩
   refine⟨_,rfl,_,_,rfl,.inl (SqL.of hH),_,_,rfl,rfl,_,rfl,?_⟩
   rw [List.length_map]
   refine ifD (fun h=>?_) (fun h=>?_)
   ·have kk:k≤8000:=by
     have h1:k*1≤k*(ys.length-1):=Nat.mul_le_mul_left _ (by omega)
     omega
    refine⟨_,rfl,_,_,rfl,.inl (SqL.of hH),_,_,rfl,rfl,(by decide),_,_,rfl,rfl,_,rfl,?_⟩
    rw [List.length_map]
    refine ifD (fun o=>?x1) (fun o=>?x2)
    case' x1=>
     refine⟨_,rfl,.inl ⟨rfl,_,SqL.of hH⟩,_,_,_,rfl,rfl,hH,by rw [List.length_map,sizeLine_eq];omega,?_⟩
     have sm3:Same H (upd H2 p (.lst (ys.map V.int++[V.int 0]))):=sm.wr hp
     obtain⟨zs,hzs⟩:∃zs,zs=ys++[(0:Int)]:=⟨_,rfl⟩
     have hH3:(upd H2 p (.lst (ys.map V.int++[V.int 0]))) p=some (.lst (zs.map V.int)):=by rw [upd_same,hzs,List.map_append];rfl
     obtain⟨n,hn⟩:∃n,n=(ys.length+1) / 2:=⟨_,rfl⟩
     have zl:zs.length=ys.length+1:=by rw [hzs,List.length_append];rfl
     have zn:zs.length=2*n:=by omega
     have n1:n<ys.length:=by omega
     have n2:2*(n-1)≤ys.length-1:=by omega
     have zb:∀y∈zs,0≤y∧y<W:=fun y hy=>by
      rw [hzs] at hy
      rcases List.mem_append.mp hy with hy | hy
      ·exact yb y hy
      ·rw [List.mem_singleton.mp hy];omega
     have zv:val W zs=val b xs:=by rw [hzs,zf1];exact yv
     generalize upd H2 p (.lst (ys.map V.int++[V.int 0]))=H3 at sm3 hH3 ⊢
    case' x2=>
     generalize hH30:H2=H3 at sm hH ⊢
     obtain⟨zs,hzs⟩:∃zs,zs=ys:=⟨_,rfl⟩
     have sm3:Same H H3:=sm
     have hH3:H3 p=some (.lst (zs.map V.int)):=by rw [hzs];exact hH
     obtain⟨n,hn⟩:∃n,n=ys.length / 2:=⟨_,rfl⟩
     have zn:zs.length=2*n:=by rw [hzs];omega
     have n1:n<ys.length:=by omega
     have n2:2*(n-1)≤ys.length-1:=by omega
     have zb:∀y∈zs,0≤y∧y<W:=by rw [hzs];exact yb
     have zv:val W zs=val b xs:=by rw [hzs];exact yv
    all_goals
     refine⟨_,rfl,_,_,rfl,.inl (SqL.of hH3),?_⟩
     rw [List.length_map,zn]
     refine⟨0,_,2,n,rfl,zf2 (by omega),fun pl hpl=>zbk (lo:=0) (c:=2) (n:=n) (fun i=>V.int (zs.getD (2*i) 0+zs.getD (2*i+1) 0*W)) hpl ?_ ?_ ?_⟩
     ·rw [sizeLine_eq];omega
     ·intro i H6 R' hi s6 hR
      have hi1:2*i<zs.length:=by omega
      have hi2:2*i+1<zs.length:=by omega
      have e0:(0:Int)+(i:Int)*2=((2*i:Nat):Int):=by omega
      rw [e0]
      have g1:=Wd (ns:=zs) (k:=2*i) (List.getElem?_eq_getElem hi1)
      have g2:atI (zs.map V.int) (((2*i:Nat):Int)+1)=some (V.int zs[2*i+1]):=Wd (ns:=zs) (k:=2*i+1) (List.getElem?_eq_getElem hi2)
      have x2:=zb _ (List.getElem_mem hi2)
      refine⟨rfl,_,rfl,_,rfl,_,_,_,_,rfl,rfl,SqL.of (s6 _ _ hH3),g1,_,rfl,_,rfl,_,_,rfl,rfl,_,_,_,_,rfl,rfl,SqL.of (s6 _ _ hH3),g2,_,rfl,_,_,rfl,rfl,⟨8000*k,8000*k,intBits_le_of_natAbs (y:=W) (by omega) Wb,Wb,by omega⟩,_,_,rfl,rfl,?_⟩
      simp only [List.getD_eq_getElem?_getD,List.getElem?_eq_getElem hi1,List.getElem?_eq_getElem hi2,Option.getD_some] at hR
      exact hR
     ·rw [QD W n zs zn]
      have pl':=pairs_len W n zs zn
      have W4:W*2≤W*W:=Int.mul_le_mul_of_nonneg_left W2 (by omega)
      refine⟨_,rfl,_,rfl,_,_,rfl,rfl,⟨8000*k,8000*k,Wb,Wb,by omega⟩,⟨pl,pairs W zs,W*W,2*k,rfl,sm3.put hpl,sm3.free hpl,upd_same,by omega,zg (intBits_mul_le Wb Wb) (by omega),?_,by omega,zci (by omega) zs zb,by rw [zav];exact zv⟩,?_⟩
      ·rw [pl',Nat.mul_comm 2 k,Nat.mul_assoc]
       exact Nat.lt_of_le_of_lt (Nat.mul_le_mul_left _ n2) kb
      ·simp only [List.set,upd_same,hH,List.length_map]
       omega
   ·have y1:ys.length≤1:=by omega
    refine⟨_,rfl,_,ys,rfl,SqL.of hH,?_⟩
    rw [ze1 (b:=W) y1,yv]
    exact q _ sm
  ·intro σ H2 R R' m h
   obtain⟨v,e1,p,l,e2,e3,i,j,e4,e5,c,e6,z⟩:=h
   exact⟨v,e1,p,l,e2,e3,i,j,e4,e5,c,e6,m _ _ z⟩
end
noncomputable def sg:List Nat:=[97,98,99,100,101,102,103,104,105,106,107,108,109,110,111,112,113,114,115,116,117,118,119,120,121,122,32]
noncomputable def SG:Str:="abcdefghijklmnopqrstuvwxyz "
noncomputable def dig (c:Nat):Int:=(sg.idxOf c:Nat)+1
theorem zc2:SG.cps.toList=sg:=by decide +kernel
theorem zf3:∀c∈sg,Txt.find SG ⟨#[c]⟩=dig c-1:=by decide +kernel
theorem zc3:∀c∈sg,1≤dig c∧dig c≤27:=by decide +kernel
theorem ze2:∀k:Fin 27,dig (sg.getD k.val 0)=(k.val:Int)+1∧sg.getD k.val 0∈sg:=by decide +kernel
noncomputable def nv (l:List Nat):Int:=val 27 (l.reverse.map dig)
theorem zf4 (l:List Nat) (c:Nat):nv (l++[c])=nv l*27+dig c:=by
 unfold nv
 rw [List.reverse_append,List.reverse_singleton,List.singleton_append,List.map_cons]
 show dig c+27*_=_
 omega
noncomputable def chs (n:Nat):List Nat:=if h:n=0 then [] else sg.getD ((n-1) % 27) 0::chs ((n-1) / 27)
termination_by n
decreasing_by omega
theorem Wn:chs 0=[]:=by rw [chs];rfl
theorem zbl {n:Nat} (h:0<n):chs n=sg.getD ((n-1) % 27) 0::chs ((n-1) / 27):=by rw [chs,dif_neg (by omega)]
theorem zf5:∀n:Nat,val 27 ((chs n).map dig)=n:=by
 intro n
 induction n using Nat.strongRecOn with
 | ind n ih=>
  by_cases h:n=0
  ·subst h;rw [Wn];rfl
  ·rw [zbl (by omega),List.map_cons]
   show dig _+27*val 27 _=_
   rw [ih ((n-1) / 27) (by omega),(ze2 ⟨(n-1) % 27,Nat.mod_lt _ (by decide)⟩).1]
   show ((n-1) % 27:Nat)+(1:Int)+27*((n-1) / 27:Nat)=n
   omega
theorem ze3:∀n:Nat,∀c∈chs n,c∈sg:=by
 intro n
 induction n using Nat.strongRecOn with
 | ind n ih=>
  by_cases h:n=0
  ·subst h;rw [Wn];intro c hc;cases hc
  ·rw [zbl (by omega)]
   intro c hc
   rcases List.mem_cons.mp hc with e | e
   ·subst e;exact(ze2 ⟨(n-1) % 27,Nat.mod_lt _ (by decide)⟩).2
   ·exact ih ((n-1) / 27) (by omega) c e
theorem XM:∀l:List Nat,(∀c∈l,c∈sg)→0≤val 27 (l.map dig):=fun l h=>yD (by decide) _ fun x hx=>by
 obtain⟨c,hc,rfl⟩:=List.mem_map.mp hx
 have:=zc3 c (h c hc)
 omega
noncomputable def ones (m:Nat):Int:=val 27 (List.replicate m 1)
noncomputable def tops (m:Nat):Int:=val 27 (List.replicate m 27)
theorem Vt (m:Nat):ones (m+1)=1+27*ones m:=rfl
theorem Vu (m:Nat):tops (m+1)=27+27*tops m:=rfl
theorem V5:∀m,0≤ones m
 | 0=>Int.le_refl _
 | m+1=>by have:=V5 m;rw [Vt];omega
theorem QF:∀m,0≤tops m
 | 0=>Int.le_refl _
 | m+1=>by have:=QF m;rw [Vu];omega
theorem zea {a b:Nat} (h:a≤b):ones a≤ones b:=by
 induction b with
 | zero=>
      have:a=0:=by omega
      subst this;exact Int.le_refl _
 | succ b ih=>
  by_cases e:a=b+1
  ·subst e;exact Int.le_refl _
  ·have:=ih (by omega)
   have:=V5 b
   rw [Vt]
   omega
theorem Vv {a b:Nat} (h:a≤b):tops a≤tops b:=by
 induction b with
 | zero=>
      have:a=0:=by omega
      subst this;exact Int.le_refl _
 | succ b ih=>
  by_cases e:a=b+1
  ·subst e;exact Int.le_refl _
  ·have:=ih (by omega)
   have:=QF b
   rw [Vu]
   omega
theorem QG:∀l:List Nat,(∀c∈l,c∈sg)→ones l.length≤val 27 (l.map dig)∧val 27 (l.map dig)≤tops l.length
 | [],_=>⟨Int.le_refl _,Int.le_refl _⟩
 | c::l,h=>by
  have b:=zc3 c (h c (List.mem_cons_self ..))
  have ih:=QG l fun y hy=>h y (List.mem_cons_of_mem c hy)
  rw [List.length_cons,Vt,Vu,List.map_cons]
  show _≤dig c+27*val 27 (l.map dig)∧dig c+27*val 27 (l.map dig)≤_
  omega
noncomputable def ye:Int:=79107246047630484352339332632946929510056524533256550444155472119763181086995847174200
theorem ze4:tops 60=ye:=by decide +kernel
theorem zc4:ones 61=ye+1:=by decide +kernel
theorem zbm {n:Nat} (h:(n:Int)≤ye):(chs n).length≤60:=by
 have h1:=(QG (chs n) (ze3 n)).1
 rw [zf5] at h1
 by_cases e:(chs n).length≤60
 ·exact e
 ·have:=zea (show 61≤(chs n).length by omega)
  rw [zc4] at this
  omega
theorem zgI {l:List Nat} (h:∀c∈l,c∈sg) (hl:l.length≤60):0≤nv l∧nv l≤ye:=by
 have hr:∀c∈l.reverse,c∈sg:=fun c hc=>h c (List.mem_reverse.mp hc)
 have h1:=QG l.reverse hr
 have h2:=Vv (show l.reverse.length≤60 by rw [List.length_reverse];exact hl)
 rw [ze4] at h2
 have h3:=XM l.reverse hr
 unfold nv
 omega
theorem zf6 {l:List Nat} (h:∀c∈l,c∈sg) (hl:l.length≤60):intBits (nv l)≤300:=by
 have:=zgI h hl
 have e:ye<2 ^ 300:=by decide +kernel
 exact zP this.1 (by omega)
noncomputable def tx (l:List Nat):Str:=⟨l.toArray⟩
theorem zbn (l:List Nat):(tx l).cps.toList=l:=by simp [tx]
theorem zc5 (l:List Nat):(tx l).length=l.length:=by simp [tx,Str.length]
noncomputable def Vw (c:Nat):Str:=⟨#[c]⟩
theorem zaw:∀(l:List Nat) (a:Array Nat),(l.map Vw).foldl (fun(acc:Array Nat) (p:Str)=>acc++("":Str).cps++p.cps) a=a++l.toArray
 | [],a=>by simp
 | c::l,a=>by
  rw [List.map_cons,List.foldl_cons,zaw l]
  have:("":Str).cps=#[]:=by decide +kernel
  rw [this]
  apply Array.ext'
  simp [Vw]
theorem join_ones (l:List Nat):Txt.join "" (l.map Vw)=tx l:=by
 unfold Txt.join Builtin.Str.glued tx
 cases l with
 | nil=>simp [Str.empty]
 | cons c l=>
  rw [List.map_cons,List.drop_succ_cons,List.drop_zero,zaw]
  congr 1
  apply Array.ext'
  simp [Vw]
theorem ze5 (l:List Nat):((l.map Vw).map (·.length)).sum=l.length:=by
 induction l with
 | nil=>rfl
 | cons c r ih=>
  simp only [List.map_cons,List.sum_cons,List.length_cons,ih]
  show 1+r.length=r.length+1
  omega
theorem zax {l:List Nat} (h:l.length≤1000):((l.map Vw).map (·.length)).sum+(l.map Vw).length*("":Str).length≤16777216:=by
 rw [ze5]
 have:("":Str).length=0:=by decide +kernel
 rw [this]
 omega
section
theorem Z6:SG.length=27:=by decide +kernel
theorem Wo:SG.length≤sizeLine:=by rw [Z6];exact Nat.le_of_lt (small1000 (by decide))
theorem blanks:Txt.mul (Str.ofString " ") 60=tx (List.replicate 60 32):=by decide +kernel
theorem zeb:MulOk (Str.ofString " ") 60:=by
 refine⟨by decide +kernel,fun _ _=>by decide +kernel,fun _ _=>by decide +kernel⟩
theorem zec:nv (List.replicate 60 32)=ye:=by decide +kernel
theorem zk4 (k:Nat) (h:k<27):atI SG.cps.toList (k:Int)=some (sg.getD k 0):=by
 rw [zc2]
 refine atI_nat ?_
 have:k<sg.length:=h
 rw [List.getD_eq_getElem?_getD,List.getElem?_eq_getElem this]
 rfl
end
theorem ze6 {c:Nat} (h:c ∉ sg):Txt.find SG ⟨#[c]⟩=-1:=by
 have h1:=StrLaws.found_one SG c
 rw [zc2,decide_eq_false h] at h1
 unfold Txt.find
 cases e:Builtin.Str.occurrences SG ⟨#[c]⟩ 0 SG.length 1 with
 | nil=>rfl
 | cons i r=>rw [e] at h1;cases h1
noncomputable def yE (x:Str):Prop:=(∀c∈x.cps.toList,c∈sg)∧x.cps.toList.length≤60
section
noncomputable def ze7 (K:W.Frag) (C:Addr):Sp:=fun vs H Q E=>∃v:V,vs=[v]∧((∃x:Str,v=.str x∧x.cps.toList.length≤900∧(yE x→Q (.int (nv x.cps.toList)) H)∧(¬yE x→E (.ref C) none H)) ∨
 (∃t,TyOf K H v t∧W.kitOne K t (.type "str")=some false∧E (.ref C) none H))
theorem jN:FnScope ["note","number","sign","place"] ["note"] (defScope jK):=⟨rfl,rfl,rfl,by decide +kernel,rfl,by decide +kernel,by decide +kernel⟩
theorem Kc {zp:Addr} (D:Def K mg "note_number" jK ["note"]) (T:Txt K mg){Z7 jw:Tok} (jV:mg "SIGNS"=some (.str "abcdefghijklmnopqrstuvwxyz " Z7)) (qm:mg "MOST_SIGNS"=some (.int 60 jw)) (qH:mg "NoNote"=some (.ref zp)) (jB:W.excIn K zp bmV "ValueError.__new__"=true):FnE P w K mg base 1 "note_number" ["note"] (ze7 K zp):=by
 refine D.fnE jN (fun vs H Q E h=>?_) (fun f cdv A outer s H vs Q E hr h=>?_)
 ·obtain⟨v,rfl,_⟩:=h
  rfl
 ·obtain⟨v,rfl,h⟩:=h
  refine⟨_,(pss_cons (ps_if (pw_or (pt_not (pt_val (pe_callB jH (by rfl) T.z_isinstance zM (pa_cons (pv 0) (pa_cons (pe_bltn (v:=.ty "str") (by rfl) T.z_str Jq rfl) pa_nil))))) (pw_or1 (pt_cmpR xG (pe_callB call_len_str (by rfl) T.z_len xQ (pa_cons (pv 0) pa_nil)) (pe_glob (v:=.int 60) (by rfl) qm ⟨_,rfl⟩) (nomark _)))).pt
    (pss_one (qi PySem.F.excBase_ValueError jB (by rfl) qH (pa_cons pe_str pa_nil)))
    pss_nil)
   (pss_cons (ps_set (i:=1) jN.nd rfl (Or.inl rfl) pe_int)
   (pss_cons (ps_for PassesOwn.leaving rfl (zdm (pv 0)) (pg_name (i:=2) jN.nd rfl (Or.inl rfl))
    (pss_cons (ps_set (i:=3) jN.nd rfl (Or.inl rfl) (pe_bm PySem.F.plainAttrs_str PySem.F.slot_str_find PySem.F.type_str_find zfI (pe_glob (v:=.str "abcdefghijklmnopqrstuvwxyz ") (by rfl) jV ⟨_,rfl⟩) (pa_cons (pv 2) pa_nil)))
    (pss_cons (ps_if (pt_cmpR jG (pv 3) (pe_un un_neg pe_int) (nomark _))
     (pss_one (qi PySem.F.excBase_ValueError jB (by rfl) qH (pa_cons pe_str pa_nil)))
     pss_nil)
    (pss_one (ps_set (i:=1) jN.nd rfl (Or.inl rfl) (pe_op zx (pe_op zx (pe_op qY (pv 1) (pe_callB call_len_str (by rfl) T.z_len xQ (pa_cons (pe_glob (v:=.str "abcdefghijklmnopqrstuvwxyz ") (by rfl) jV ⟨_,rfl⟩) pa_nil))) (pv 3)) pe_int))))))
   (pss_one (ps_ret (pv 1)))))),?_⟩
  rcases h with ⟨x,rfl,hl,q,q2⟩ | ⟨t,ty,kt,q2⟩
  ·have hlx:x.length=x.cps.toList.length:=by simp [Str.length]
   have hz:x.length≤sizeLine:=by rw [hlx];exact Nat.le_of_lt (small1000 (by omega))
   refine⟨_,rfl,_,_,_,true,rfl,TyOf.str _,QB K,_,rfl,iteF ⟨_,rfl,x,rfl,hz,_,_,rfl,rfl,_,rfl,ifD (fun z=>⟨(by decide),q2 fun g=>?_⟩) (fun z=>?_)⟩⟩
   ·have:=g.2;omega
   have l60:x.cps.toList.length≤60:=by omega
   refine⟨_,rfl,x,rfl,zet (x:=x) (fun i σ H'=>∃v v',σ=[some (.str x),some (.int (nv (x.cps.toList.take i))),v,v']∧H'=H∧∀d∈x.cps.toList.take i,d∈sg) ⟨none,none,rfl,rfl,fun _ z=>nomatch z⟩ ?_ ?_⟩
   ·rintro i c σ H' hc ⟨v,v',rfl,rfl,htk⟩
    have hc':x.cps.toList[i]?=some c:=by simpa using hc
    have hbn:=zf6 htk (Nat.le_trans (by rw [List.length_take];omega) l60)
    refine⟨rfl,_,rfl,SG,⟨#[c]⟩,rfl,rfl,?_⟩
    by_cases hm:c∈sg
    ·have hb:=zc3 c hm
     rw [zf3 c hm]
     refine⟨_,rfl,_,rfl,_,_,rfl,rfl,_,rfl,ifF (by omega) ?_⟩
     refine⟨_,rfl,SG,rfl,Wo,_,_,rfl,rfl,⟨300,5,hbn,by rw [Z6];decide,by decide⟩,_,rfl,_,_,rfl,rfl,_,_,rfl,rfl,some (.str ⟨#[c]⟩),some (.int (dig c-1)),?_,rfl,?_⟩
     ·have e:x.cps.toList.take (i+1)=x.cps.toList.take i++[c]:=by rw [List.take_add_one,hc'];rfl
      rw [e,zf4,Z6]
      have e2:nv (x.cps.toList.take i)*((27:Nat):Int)+(dig c-1)+1=nv (x.cps.toList.take i)*27+dig c:=by omega
      show [some (V.str x),some (V.int (nv (x.cps.toList.take i)*((27:Nat):Int)+(dig c-1)+1)),_,_]=_
      rw [e2]
     ·have e:x.cps.toList.take (i+1)=x.cps.toList.take i++[c]:=by rw [List.take_add_one,hc'];rfl
      rw [e]
      intro d hd
      rcases List.mem_append.mp hd with z | z
      ·exact htk d z
      ·rw [List.mem_singleton.mp z];exact hm
    ·rw [ze6 hm]
     exact⟨_,rfl,_,rfl,_,_,rfl,rfl,_,rfl,ifT rfl ⟨(by decide),q2 fun g=>hm (g.1 c (List.mem_of_getElem? hc'))⟩⟩
   ·rintro σ H' ⟨v,v',rfl,rfl,htk⟩
    refine⟨_,rfl,?_⟩
    have e:x.cps.toList.take x.cps.size=x.cps.toList:=by rw [← Array.length_toList,List.take_length]
    rw [e] at htk ⊢
    exact q ⟨htk,l60⟩
  ·exact⟨_,rfl,_,_,_,false,rfl,ty,kt,_,rfl,iteT ⟨(by decide),q2⟩⟩
end
section
noncomputable def zgJ (C:Addr):Sp:=fun vs H Q E=>∃n:Int,vs=[.int n]∧(0≤n∧n≤ye→∀H',Same H H'→Q (.str (tx (chs n.toNat).reverse)) H')∧(¬(0≤n∧n≤ye)→E (.ref C) none H)
theorem yF:FnScope ["number","signs","left"] ["number"] (defScope yt):=⟨rfl,rfl,rfl,by decide +kernel,rfl,by decide +kernel,by decide +kernel⟩
theorem zcj {zp:Addr} (D:Def K mg "note_of" yt ["number"]) (T:Txt K mg){Z7 jw:Tok} (jV:mg "SIGNS"=some (.str "abcdefghijklmnopqrstuvwxyz " Z7)) (qm:mg "MOST_SIGNS"=some (.int 60 jw)) (qH:mg "NoNote"=some (.ref zp)) (jB:W.excIn K zp bmV "ValueError.__new__"=true) (jf:FnE P w K mg base 1 "note_number" ["note"] (ze7 K zp)):FnE P w K mg base 2 "note_of" ["number"] (zgJ zp):=by
 refine D.fnE yF (fun vs H Q E h=>?_) (fun f cdv A outer s H vs Q E hr h=>?_)
 ·obtain⟨n,rfl,_⟩:=h
  rfl
 ·obtain⟨n,rfl,q,q2⟩:=h
  refine⟨_,(pss_cons (ps_if (pw_or (pt_not (pt_val (pe_callB jH (by rfl) T.z_isinstance zM (pa_cons (pv 0) (pa_cons (pe_bltn (v:=.ty "int") (by rfl) T.z_int zgy rfl) pa_nil))))) (pw_or1 (pt_val (pe_callB jH (by rfl) T.z_isinstance zM (pa_cons (pv 0) (pa_cons (pe_bltn (v:=.ty "bool") (by rfl) T.z_bool zgM rfl) pa_nil)))))).pt
    (pss_one (qi PySem.F.excBase_ValueError jB (by rfl) qH (pa_cons pe_str pa_nil)))
    pss_nil)
   (pss_cons (ps_if (pw_or (pt_cmpR yV (pv 0) pe_int (nomark _)) (pw_or1 (pt_cmpR xG (pv 0) (qu jf (hr.mono (by decide)) (by rfl) zQ (pa_cons (pe_op zfJ pe_str (pe_glob (v:=.int 60) (by rfl) qm ⟨_,rfl⟩)) pa_nil)) (nomark _)))).pt
    (pss_one (qi PySem.F.excBase_ValueError jB (by rfl) qH (pa_cons pe_str pa_nil)))
    pss_nil)
   (pss_cons (ps_set (i:=1) yF.nd rfl (Or.inl rfl) (pe_lst pa_nil))
   (pss_cons (ps_set (i:=2) yF.nd rfl (Or.inl rfl) (pv 0))
   (pss_cons (ps_while PassesOwn.leaving (pt_cmpR xG (pv 2) pe_int (nomark _))
    (pss_cons (ps_set (i:=2) yF.nd rfl (Or.inl rfl) (pe_op qI (pv 2) pe_int))
    (pss_cons (ps_expr (pe_bm PySem.F.plainAttrs_list PySem.F.slot_list_append PySem.F.type_list_append mt_append (pv 1) (pa_cons (pe_ix ix_str (pe_glob (v:=.str "abcdefghijklmnopqrstuvwxyz ") (by rfl) jV ⟨_,rfl⟩) (pe_op zF (pv 2) (pe_callB call_len_str (by rfl) T.z_len xQ (pa_cons (pe_glob (v:=.str "abcdefghijklmnopqrstuvwxyz ") (by rfl) jV ⟨_,rfl⟩) pa_nil))) (fun _ _=>rfl)) pa_nil)))
    (pss_one (ps_set (i:=2) yF.nd rfl (Or.inl rfl) (pe_op yo (pv 2) (pe_callB call_len_str (by rfl) T.z_len xQ (pa_cons (pe_glob (v:=.str "abcdefghijklmnopqrstuvwxyz ") (by rfl) jV ⟨_,rfl⟩) pa_nil))))))))
   (pss_one (ps_ret (zcB rfl (by rfl) T.z_reversed pe_str (fun _ _ _ h=>⟨⟨_,rfl⟩,h⟩) (pa_cons (pv 1) pa_nil))))))))),?_⟩
  refine⟨_,rfl,_,_,_,true,rfl,TyOf.int _,zbz K,_,rfl,iteF ⟨_,rfl,_,_,_,false,rfl,TyOf.int _,zaJ K,_,rfl,iteF ?_⟩⟩
  refine⟨_,rfl,_,_,rfl,rfl,_,rfl,ifD (fun z=>⟨(by decide),q2 (by omega)⟩) (fun n0=>⟨_,rfl,_,_,rfl,rfl,zeb,?_⟩)⟩
  rw [blanks]
  have gb:yE (tx (List.replicate 60 32)):=by
   refine⟨?_,?_⟩
   ·rw [zbn];intro c hc;rw [List.eq_of_mem_replicate hc];decide
   ·rw [zbn,List.length_replicate];exact Nat.le_refl _
  refine⟨_,rfl,.inl ⟨_,rfl,Nat.le_trans gb.2 (by decide),fun _=>?_,fun z=>absurd gb z⟩⟩
  rw [zbn,zec]
  refine⟨_,_,rfl,rfl,_,rfl,ifD (fun z=>⟨(by decide),q2 (by omega)⟩) (fun n1=>?_)⟩
  obtain⟨n,rfl⟩:∃k:Nat,n=(k:Int):=⟨n.toNat,by omega⟩
  have hn:(n:Int)≤ye:=by omega
  have q:=q ⟨by omega,hn⟩
  rw [Int.toNat_natCast] at q
  refine⟨(by decide),fun l hl=>⟨_,rfl,?_⟩⟩
  refine while_by (fun σ H'=>∃(m:Nat) (cs:List Nat),σ=[some (.int n),some (.ref l),some (.int m)]∧H' l=some (.lst ((cs.map Vw).map V.str))∧Same H H'∧cs++chs m=chs n∧(m:Int)≤ye) (fun(σ:L2.St) (_:Hp)=>match σ[2]? with | some (some (V.int m))=>m.toNat | _=>0) ⟨n,[],rfl,upd_same,Same.new hl,rfl,hn⟩ ?_ (fun σ H Q Q' m h=>?_)
  ·rintro σ H' ⟨m,cs,rfl,hH,sm,ec,hm⟩
   refine⟨_,rfl,_,_,rfl,rfl,_,rfl,ifD (fun z=>?_) (fun z=>?_)⟩
   ·have m0:0<m:=by omega
    have e1:(m:Int)-1=((m-1:Nat):Int):=by omega
    have zl5:cs.length≤60:=by
     have:=zbm hn
     rw [← ec,List.length_append] at this
     omega
    refine⟨_,rfl,_,_,rfl,rfl,?_⟩
    rw [e1]
    refine⟨_,rfl,.inl ⟨rfl,_,SqL.of hH⟩,_,rfl,SG,rfl,Wo,_,_,rfl,rfl,(by rw [Z6];decide),SG,((m-1) % 27:Nat),sg.getD ((m-1) % 27) 0,rfl,?_,Wo,zk4 _ (Nat.mod_lt _ (by decide)),l,_,_,rfl,rfl,hH,?_,?_⟩
    ·rw [Z6];rfl
    ·rw [List.length_map,List.length_map];exact small1000 (by omega)
    refine⟨_,rfl,SG,rfl,Wo,_,_,rfl,rfl,⟨by rw [Z6];decide,by rw [Z6];decide +kernel⟩,?_⟩
    refine⟨⟨(m-1) / 27,cs++[sg.getD ((m-1) % 27) 0],?_,?_,?_,?_,?_⟩,?_⟩
    ·rw [Z6];rfl
    ·rw [upd_same,List.map_append,List.map_append];rfl
    ·exact sm.wr hl
    ·rw [List.append_assoc,← ec,zbl m0];rfl
    ·omega
    ·rw [Z6]
     show ((((m-1:Nat):Int) / ((27:Nat):Int))).toNat<((m:Nat):Int).toNat
     omega
   ·have m0:m=0:=by omega
    subst m0
    rw [Wn,List.append_nil] at ec
    subst ec
    refine⟨_,rfl,"",l,(chs n).map Vw,rfl,rfl,SqL.of hH,zax (Nat.le_trans (zbm hn) (by decide)),?_⟩
    rw [← List.map_reverse,join_ones]
    exact q _ sm
  ·obtain⟨v,hv,a,b,e1,e2,c,e3,r⟩:=h
   exact⟨v,hv,a,b,e1,e2,c,e3,m _ _ r⟩
end
theorem zhc {L:Str}{ls:List Nat} (h:L.cps.toList=ls) (hl:ls.length=27) (n:Int):atI L.cps.toList (n % 27)=some (ls.getD (n % 27).toNat 0):=by
 have h0:0≤n % 27:=Int.emod_nonneg _ (by decide)
 have h1:n % 27<27:=Int.emod_lt_of_pos _ (by decide)
 have e:n % 27=(((n % 27).toNat:Nat):Int):=by omega
 rw [h]
 generalize (n % 27).toNat=k at e
 have hk:k<ls.length:=by omega
 rw [e]
 refine atI_nat ?_
 rw [List.getD_eq_getElem?_getD,List.getElem?_eq_getElem hk]
 rfl
theorem zhd {ls:List Nat} (h:∀k:Fin 27,ls.getD k.val 0∈sg) (n:Int):ls.getD (n % 27).toNat 0∈sg:=by
 have h0:0≤n % 27:=Int.emod_nonneg _ (by decide)
 have h1:n % 27<27:=Int.emod_lt_of_pos _ (by decide)
 exact h ⟨(n % 27).toNat,by omega⟩
theorem Ky {b:Int} (hb:2≤b):∀ys:List Int,(∀y∈ys,0≤y)→(∀y,ys.getLast?=some y→y≠0)→ys≠[]→(2:Int) ^ (ys.length-1)≤val b ys
 | [],_,_,h=>absurd rfl h
 | [a],h,l,_=>by
  have h1:=h a (List.mem_cons_self ..)
  have h2:=l a rfl
  show (2:Int) ^ 0≤a+b*0
  rw [Int.pow_zero,Int.mul_zero]
  omega
 | a::c::r,h,l,_=>by
  have h0:∀y∈c::r,0≤y:=fun y hy=>h y (List.mem_cons_of_mem _ hy)
  have ih:=Ky hb (c::r) h0 (fun y hy=>l y (by rw [List.getLast?_cons_cons];exact hy)) (by simp)
  have h1:=h a (List.mem_cons_self ..)
  have h2:=yD (show 0≤b by omega) (c::r) h0
  show (2:Int) ^ (r.length+1)≤a+b*val b (c::r)
  have e:(c::r).length-1=r.length:=rfl
  rw [e] at ih
  rw [Int.pow_succ]
  have h3:=Int.mul_le_mul_of_nonneg_right hb h2
  omega
theorem two_pow_pos (n:Nat):(0:Int)<2 ^ n:=by
 induction n with
 | zero=>decide
 | succ n ih=>rw [Int.pow_succ];omega
theorem XN {m n:Nat} (h:m≤n):(2:Int) ^ m≤2 ^ n:=by
 induction n with
 | zero=>
      have:m=0:=by omega
      subst this;exact Int.le_refl _
 | succ n ih=>
  by_cases e:m=n+1
  ·subst e;exact Int.le_refl _
  ·have:=ih (by omega)
   have:=two_pow_pos n
   rw [Int.pow_succ]
   omega
theorem zbo {b:Int} (hb:2≤b){ys:List Int} (h:∀y∈ys,0≤y∧y<b) (l:∀y,ys.getLast?=some y→y≠0){k:Nat} (hv:val b ys<2 ^ k):ys.length≤k:=by
 by_cases e:ys=[]
 ·subst e;exact Nat.zero_le _
 ·have h1:=Ky hb ys (fun y hy=>(h y hy).1) l e
  by_cases hk:ys.length≤k
  ·exact hk
  ·have:=XN (show k≤ys.length-1 by omega)
   omega
theorem zck {b:Int} (hb:2≤b):∀xs ys:List Int,(∀y∈xs,0≤y∧y<b)→(∀y∈ys,0≤y∧y<b)→(∀y,xs.getLast?=some y→y≠0)→(∀y,ys.getLast?=some y→y≠0)→val b xs=val b ys→xs=ys
 | [],[],_,_,_,_,_=>rfl
 | [],c::r,_,h,_,l,e=>by
  have h1:=Ky hb (c::r) (fun y hy=>(h y hy).1) l (by simp)
  have p:=two_pow_pos ((c::r).length-1)
  rw [← e] at h1
  have z:val b []=0:=rfl
  omega
 | c::r,[],h,_,l,_,e=>by
  have h1:=Ky hb (c::r) (fun y hy=>(h y hy).1) l (by simp)
  have p:=two_pow_pos ((c::r).length-1)
  rw [e] at h1
  have z:val b []=0:=rfl
  omega
 | x::r,y::q,hx,hy,lx,ly,e=>by
  have e:x+b*val b r=y+b*val b q:=e
  have x1:=hx x (List.mem_cons_self ..)
  have y1:=hy y (List.mem_cons_self ..)
  have m1:(x+b*val b r) % b=x:=by rw [Int.add_mul_emod_self_left,Int.emod_eq_of_lt x1.1 x1.2]
  have m2:(y+b*val b q) % b=y:=by rw [Int.add_mul_emod_self_left,Int.emod_eq_of_lt y1.1 y1.2]
  have exy:x=y:=by rw [← m1,e,m2]
  subst exy
  have ev:val b r=val b q:=Int.eq_of_mul_eq_mul_left (show b≠0 by omega) (by omega)
  have last:∀(c:Int) (l:List Int),(∀z,(c::l).getLast?=some z→z≠0)→∀z,l.getLast?=some z→z≠0:=fun c l h z hz=>h z (by
   cases l with
   | nil=>cases hz
   | cons d l=>rw [List.getLast?_cons_cons];exact hz)
  rw [zck hb r q (fun z hz=>hx z (List.mem_cons_of_mem _ hz)) (fun z hz=>hy z (List.mem_cons_of_mem _ hz)) (last _ _ lx) (last _ _ ly) ev]
theorem zf7:ye<2 ^ 300:=by decide +kernel
theorem zgK {l:List Nat} (h:∀c∈l,c∈sg) (hl:l.length≤60):0≤nv l∧nv l<2 ^ 300:=by
 have h1:=zgI h hl
 have h2:=zf7
 omega
theorem zed {bells late steps r:Int} (l0:0≤late) (s0:0≤steps) (r0:0≤r) (r1:r<late+1):cnt (bells+steps*(late+1)+r) bells late=ch (steps+bells) bells:=by
 have h:=Int.mul_nonneg s0 (show 0≤late+1 by omega)
 unfold cnt
 rw [if_neg (by omega),show bells+steps*(late+1)+r-bells=r+steps*(late+1) by omega,Int.add_mul_ediv_right _ _ (by omega),Int.ediv_eq_zero_of_lt r0 r1,Int.zero_add]
section
noncomputable def ze8 (C:Addr):Sp:=fun vs H Q E=>∃turns bells:Int,vs=[.int turns,.int bells]∧0≤bells∧((1≤bells∧bells≤turns)→Q .non H)∧(¬(1≤bells∧bells≤turns)→E (.ref C) none H)
theorem zc6 (D:Def K mg "refuse_silent" qx ["turns","bells"]) (T:Txt K mg){zG:Addr} (kO:mg "NoRow"=some (.ref zG)) (Z8:W.excIn K zG bmV "ValueError.__new__"=true):FnE P w K mg base 1 "refuse_silent" ["turns","bells"] (ze8 zG):=by
 refine D.fnE ZK (fun vs H Q E h=>?_) (fun f cdv A outer s H vs Q E hr h=>?_)
 ·obtain⟨a,b,rfl,_⟩:=h
  rfl
 ·obtain⟨turns,bells,rfl,b0,q1,q2⟩:=h
  refine⟨_,(pss_one (ps_if (pw_or (pt_cmpR jG (pv 1) pe_int (nomark _)) (pw_or1 (pt_cmpR xG (pv 1) (pv 0) (nomark _)))).pt
    (pss_one (qi PySem.F.excBase_ValueError Z8 (by rfl) kO (pa_cons pe_str pa_nil)))
    pss_nil)),?_⟩
  exact⟨_,rfl,_,_,rfl,rfl,_,rfl,ifD (fun z=>⟨(by decide),q2 (by omega)⟩) (fun z=>⟨_,rfl,_,rfl,_,_,rfl,rfl,_,rfl,ifD (fun z2=>⟨(by decide),q2 (by omega)⟩) (fun z2=>q1 (by omega))⟩)⟩
structure zc7 (x:Str) (turns bells late:Int) (ys:List Int) (bss:List (List Int)):Prop where
 bd:∀y∈ys,0≤y∧y<cnt turns bells late-1
 last:∀y,ys.getLast?=some y→y≠0
 num:val (cnt turns bells late-1) ys=nv x.cps.toList
 len:bss.length=ys.length+1
 box:∀(i:Nat) (bs:List Int) (m:Int),bss[i]?=some bs→(ys.map (·+1)++[0])[i]?=some m→jd bs∧bs.length=bells.toNat∧Zy bs=m
 sz:∀bs∈bss,Szs 60010 bs
noncomputable def XQ (CN CR CG:Addr):Sp:=fun vs H Q E=>∃(x:Str) (turns bells late:Int),vs=[.str x,.int turns,.int bells,.int late]∧x.cps.toList.length≤900∧0≤bells∧bells≤60∧0≤late∧intBits late≤100∧0≤turns∧intBits turns≤100 ∧
 (¬yE x→E (.ref CN) none H)∧(yE x→¬(1≤bells∧bells≤turns)→E (.ref CR) none H)∧(yE x→1≤bells→bells≤turns→cnt turns bells late<3→E (.ref CG) none H) ∧
 (yE x→1≤bells→bells≤turns→3≤cnt turns bells late→∀(p:Addr) (ys:List Int) (bss:List (List Int)) (H':Hp),Same H H'→H' p=some (.lst ((xT (turns+late) late 0 bss).map V.int))→zc7 x turns bells late ys bss→Q (.ref p) H')
theorem Kz:FnScope ["note","turns","bells","late","number","count","messages"] ["note","turns","bells","late"] (defScope Xy):=⟨rfl,rfl,rfl,by decide +kernel,rfl,by decide +kernel,by decide +kernel⟩
theorem ze9 (D:Def K mg "sent" Xy ["note","turns","bells","late"]) (T:Txt K mg){zp zG zj:Addr} (zV:mg "TooGreat"=some (.ref zj)) (qj:W.excIn K zj bmV "ValueError.__new__"=true){qX:Tok} (z8:mg "LEAST_COUNT"=some (.int 3 qX)) (jf:FnE P w K mg base 1 "note_number" ["note"] (ze7 K zp)) (Vx:FnE P w K mg base 1 "refuse_silent" ["turns","bells"] (ze8 zG)) (zA:Fn P w K mg base 2 "box_count" ["turns","bells","late"] yf) (zf8:Fn P w K mg base 1 "parts" ["number","base"] zdB) (zc8:Fn P w K mg base 41 "rung" ["messages","turns","bells","late"] (zc1 K)):FnE P w K mg base 42 "sent" ["note","turns","bells","late"] (XQ zp zG zj):=by
 refine D.fnE Kz (fun vs H Q E h=>?_) (fun f cdv A outer s H vs Q E hr h=>?_)
 ·obtain⟨x,t,b,l,rfl,_⟩:=h
  rfl
 ·obtain⟨x,turns,bells,late,rfl,xl,b0,b60,l0,lb,t0,tb,qN,qR,qG,q⟩:=h
  refine⟨_,(pss_cons (ps_set (i:=4) Kz.nd rfl (Or.inl rfl) (qu jf (hr.mono (by decide)) (by rfl) zQ (pa_cons (pv 0) pa_nil)))
   (pss_cons (ps_expr (qu Vx (hr.mono (by decide)) (by rfl) zQ (pa_cons (pv 1) (pa_cons (pv 2) pa_nil))))
   (pss_cons (ps_set (i:=5) Kz.nd rfl (Or.inl rfl) (zq zA (hr.mono (by decide)) (by rfl) (pa_cons (pv 1) (pa_cons (pv 2) (pa_cons (pv 3) pa_nil)))))
   (pss_cons (ps_if (pt_cmpR yV (pv 5) (pe_glob (v:=.int 3) (by rfl) z8 ⟨_,rfl⟩) (nomark _))
    (pss_one (qi PySem.F.excBase_ValueError qj (by rfl) zV (pa_cons pe_str pa_nil)))
    pss_nil)
   (pss_cons (Xo (k:=6) (own:=["figure"]) (fr:=[]) (ix:=[]) rfl Kz.nd rfl rfl ⟨rfl,rfl,rfl,rfl,rfl,rfl⟩ (pi_list (zq zf8 (hr.mono (by decide)) (by rfl) (pa_cons (pv 4) (pa_cons (pe_op qI (pv 5) pe_int) pa_nil)))) (fun _ _ _ _ _=>(pg_name (i:=0) (show (["figure"]:List Str).Nodup by decide +kernel) rfl (Or.inl rfl))) (fun _ _ _ _ _=>qJ) (fun _ _ _ _ _=>(pe_op zx (pv 0) pe_int)))
   (pss_one (ps_ret (zq zc8 (hr.mono (by decide)) (by rfl) (pa_cons (pe_op op_cat (pv 6) (pe_lst (pa_cons pe_int pa_nil))) (pa_cons (pv 1) (pa_cons (pv 2) (pa_cons (pv 3) pa_nil)))))))))))),?_⟩
  have lb8:intBits late≤8000:=zg lb (by decide)
  refine⟨_,rfl,.str x,rfl,.inl ⟨x,rfl,xl,fun g=>?_,qN⟩⟩
  refine⟨_,rfl,_,rfl,turns,bells,rfl,b0,fun gb=>?_,qR g⟩
  obtain⟨b1,bt⟩:=gb
  refine⟨_,rfl,_,rfl,_,rfl,turns,bells,late,rfl,b0,by omega,l0,lb8,zg tb (by decide),?_⟩
  refine⟨_,rfl,_,_,rfl,rfl,_,rfl,ifD (fun z=>⟨(by decide),qG g b1 bt z⟩) (fun z=>?_)⟩
  have q:=q g b1 bt (by omega)
  have cb:=zb2 (turns:=turns) (bells:=bells) (late:=late) (by omega) (by omega) l0 (by omega) tb (by decide)
  have cb':intBits (cnt turns bells late)≤50000:=zg cb (by decide)
  have nb:=zgK g.1 g.2
  have cb1:intBits (cnt turns bells late-1)≤50000:=Xz (y:=cnt turns bells late) (by omega) (by omega) cb'
  refine⟨_,rfl,_,rfl,_,_,rfl,rfl,_,_,rfl,nb.1,by omega,Int.lt_of_lt_of_le nb.2 (XN (by decide)),?_,fun p ys H1 s1 _ h1 yb yl yv _=>?_⟩
  ·exact Xz (y:=cnt turns bells late) (by omega) (by omega) (zg cb (by decide))
  have zk5:ys.length≤300:=zbo (by omega) yb yl (by rw [yv];exact nb.2)
  refine⟨p,rfl,⟨_,SqL.of h1⟩,fun acc hacc=>xH (K:=K) (a:=p) (xs:=ys.map V.int) (fun j=>V.int (ys.getD j 0+1)) (SqL.of h1) hacc (by rw [List.length_map];exact Nat.le_of_lt (small1000 (by omega))) (fun j v H6 R' hx s6 hR=>?_) ?_⟩
  ·rw [List.getElem?_map] at hx
   obtain⟨z,hz',rfl⟩:=Option.map_eq_some_iff.mp hx
   simp only [List.getD_eq_getElem?_getD,hz',Option.getD_some] at hR
   exact⟨rfl,_,rfl,_,_,rfl,rfl,hR⟩
  have eL:(List.range (ys.map V.int).length).map (fun j=>V.int (ys.getD j 0+1))=(ys.map (·+1)).map V.int:=by
   apply List.ext_getElem
   ·simp
   ·intro j h1 h2
    simp at h1 h2
    simp [List.getD_eq_getElem?_getD,h2]
  rw [eL]
  have s2:Same H (upd H1 acc (.lst ((ys.map (·+1)).map V.int))):=s1.put hacc
  have h2:(upd H1 acc (.lst ((ys.map (·+1)).map V.int))) acc=some (.lst ((ys.map (·+1)).map V.int)):=upd_same
  generalize upd H1 acc (.lst ((ys.map (·+1)).map V.int))=H2 at s2 h2 ⊢
  refine⟨_,rfl,(by show 1≤sizeLine;decide),fun p2 hp2=>⟨acc,p2,_,_,rfl,rfl,(Same.new hp2) _ _ h2,upd_same,?_,fun p3 hp3=>?_⟩⟩
  ·rw [List.length_map,List.length_map]
   exact Nat.le_of_lt (small1000 (by show ys.length+1≤1000;omega))
  have e3:(ys.map (·+1)).map V.int++[V.int 0]=(ys.map (·+1)++[0]).map V.int:=by rw [List.map_append];rfl
  rw [e3]
  have s3:=(s2.put (o:=.lst [V.int 0]) hp2).put (o:=.lst ((ys.map (·+1)++[0]).map V.int)) hp3
  refine⟨_,rfl,_,rfl,_,rfl,p3,ys.map (·+1)++[0],turns,bells,late,rfl,SqL.of upd_same,by rw [List.length_append,List.length_map];show ys.length+1≤400;omega,b1,b60,bt,l0,lb8,zg tb (by decide),fun m hm=>?_,fun p4 bss H4 s4 _ h4 bl hb hz=>q p4 ys bss H4 (s3.trans s4) h4 ⟨yb,yl,yv,by rw [bl,List.length_append,List.length_map];rfl,hb,hz⟩⟩
  have m01:0≤m∧m<cnt turns bells late:=by
   rcases List.mem_append.mp hm with z | z
   ·obtain⟨y,hy,rfl⟩:=List.mem_map.mp z
    have:=yb y hy
    omega
   ·rw [List.mem_singleton.mp z];omega
  exact⟨m01.1,m01.2,Xz m01.1 m01.2 cb'⟩
end
theorem zay {L late:Int}{b:Nat}:∀(bss:List (List Int)) (k:Int),(∀bs∈bss,bs.length=b)→(xT L late k bss).length=bss.length*b
 | [],_,_=>by simp [xT]
 | c::r,k,h=>by
  show ((qO late c).map (fun x=>k*L+x)++xT L late (k+1) r).length=_
  rw [List.length_append,List.length_map,ZX,h c (List.mem_cons_self ..),zay r (k+1) fun bs hb=>h bs (List.mem_cons_of_mem _ hb),List.length_cons,Nat.succ_mul]
  omega
theorem zhe {L k:Int} (hL:0<L){rd:List Int}:∀x∈grp L k rd,0≤x∧x<L:=fun x hx=>by
 unfold grp at hx
 obtain⟨t,_,rfl⟩:=List.mem_map.mp hx
 exact⟨Int.emod_nonneg _ (by omega),Int.emod_lt_of_pos _ hL⟩
theorem zdC {L k late:Int} (hL:0<L) (lb:intBits L≤9000){rd:List Int} (h60:(grp L k rd).length≤60):Szs 70000 (vX late (grp L k rd)):=fun y hy=>by
 obtain⟨i,hi⟩:=List.getElem?_of_mem hy
 obtain⟨x,hx,rfl⟩:=zd0 hi
 have hb:=zhe hL x (List.mem_of_getElem? hx)
 have il:=(List.getElem?_eq_some_iff.mp hx).1
 have ib:intBits (i:Int)≤64:=zP (by omega) (by omega)
 have xb:intBits x≤9000:=Xz hb.1 hb.2 lb
 have sb:=intBits_sub_le (m:=9000) (n:=64) xb ib
 exact zg (intBits_le_of_natAbs (y:=x-(i:Int)) (Int.natAbs_ediv_le_natAbs _ _) sb) (by decide)
noncomputable def jg (turns late:Int) (rd:List Int) (i:Nat):Int:=Zy (vX late (grp (turns+late) (i:Int) rd))
structure zhf (rd:List Int) (turns bells late:Int) (n:Nat):Prop where
 rl:rd.length≤1000
 b0:0≤bells
 b60:bells≤60
 l0:0≤late
 lb:intBits late≤100
 L0:0<turns+late
 t0:0≤turns
 tb:intBits turns≤100
 n100:n≤1000
 good:∀i:Nat,i<n→GoodR turns bells late (grp (turns+late) (i:Int) rd)∧jg turns late rd i≠0
theorem zdD {L:Int}{rd:List Int}{kvs:List (Key×V)}{ks:List Int}{ad:Int→Addr}{H H2:Hp} (M:ByM L rd kvs ks ad H) (s:Same H H2){p0:Addr} (hp0:H2 p0=none) (k:Int) :
  ∃q,(valV kvs (Sum.inl k)).getD (.ref p0)=.ref q∧(upd H2 p0 (.lst [])) q=some (.lst ((grp L k rd).map V.int)):=by
 rw [M.val]
 by_cases hk:k∈ks
 ·rw [if_pos hk]
  exact⟨ad k,rfl,(Same.new hp0) _ _ (s _ _ (M.ls k hk))⟩
 ·rw [if_neg hk]
  have g0:grp L k rd=[]:=by
   by_cases z:grp L k rd=[]
   ·exact z
   ·exact absurd ((M.mem k).mpr z) hk
  rw [g0]
  exact⟨p0,rfl,upd_same⟩
section
noncomputable def zgL (K:W.Frag) (C:Addr):Sp:=fun vs H Q E=>∃(a:Addr) (rd:List Int) (turns bells late:Int) (n:Nat),vs=[.ref a,.int turns,.int bells,.int late]∧SqL K H a (rd.map V.int)∧zhf rd turns bells late n ∧
 (GoodR turns bells late (grp (turns+late) (n:Int) rd)→jg turns late rd n=0∧∀(p:Addr) (H':Hp),Same H H'→H' p=some (.lst ((List.range n).map fun i=>V.int (jg turns late rd i)))→Q (.ref p) H') ∧
 (¬GoodR turns bells late (grp (turns+late) (n:Int) rd)→∀H',Same H H'→E (.ref C) none H')
theorem zZ:FnScope ["reading","turns","bells","late","heard_of","messages","message"] ["reading","turns","bells","late"] (defScope zY):=⟨rfl,rfl,rfl,by decide +kernel,rfl,by decide +kernel,by decide +kernel⟩
theorem zf9 {za:Addr} (D:Def K mg "messages_ahead_of_end" zY ["reading","turns","bells","late"]) (T:Txt K mg) (Yi:Fn P w K mg base 1 "by_messages" ["reading","turns","late"] (zk2 K)) (Jl:FnE P w K mg base 3 "read" ["reading","turns","bells","late"] (zdv K za)):FnE P w K mg base 4 "messages_ahead_of_end" ["reading","turns","bells","late"] (zgL K za):=by
 refine D.fnE zZ (fun vs H Q E h=>?_) (fun f cdv A outer s H vs Q E hr h=>?_)
 ·obtain⟨a,rd,t,b,l,n,rfl,_⟩:=h
  rfl
 ·obtain⟨a,rd,turns,bells,late,n,rfl,hS,R,q1,q2⟩:=h
  obtain⟨rl,b0,b60,l0,lb,L0,t0,tb,n100,good⟩:=R
  refine⟨_,(pss_cons (ps_set (i:=4) zZ.nd rfl (Or.inl rfl) (zq Yi (hr.mono (by decide)) (by rfl) (pa_cons (pv 0) (pa_cons (pv 1) (pa_cons (pv 3) pa_nil)))))
   (pss_cons (ps_set (i:=5) zZ.nd rfl (Or.inl rfl) (pe_lst pa_nil))
   (pss_cons (ps_set (i:=6) zZ.nd rfl (Or.inl rfl) (qu Jl (hr.mono (by decide)) (by rfl) zQ (pa_cons (pe_dget2 (hu_of hr) (pv 4) pe_int (pe_lst pa_nil) ⟨rfl,rfl,rfl,rfl⟩) (pa_cons (pv 1) (pa_cons (pv 2) (pa_cons (pv 3) pa_nil))))))
   (pss_cons (ps_while PassesOwn.leaving (pt_cmpR zcp (pv 6) pe_int (nomark _))
    (pss_cons (ps_expr (pe_bm PySem.F.plainAttrs_list PySem.F.slot_list_append PySem.F.type_list_append mt_append (pv 5) (pa_cons (pv 6) pa_nil)))
    (pss_one (ps_set (i:=6) zZ.nd rfl (Or.inl rfl) (qu Jl (hr.mono (by decide)) (by rfl) zQ (pa_cons (pe_dget2 (hu_of hr) (pv 4) (pe_callB call_len_seq (by rfl) T.z_len xQ (pa_cons (pv 5) pa_nil)) (pe_lst pa_nil) ⟨rfl,rfl,rfl,rfl⟩) (pa_cons (pv 1) (pa_cons (pv 2) (pa_cons (pv 3) pa_nil)))))))))
   (pss_one (ps_ret (pv 5))))))),?_⟩
  have lb8:intBits late≤8000:=zg lb (by decide)
  have Lb:intBits (turns+late)≤9000:=zg (intBits_add_le (m:=100) (n:=100) tb lb) (by decide)
  have bad:∀i:Nat,i≤n→¬GoodR turns bells late (grp (turns+late) (i:Int) rd)→i=n:=fun i hi ng=>by
   rcases Nat.lt_or_eq_of_le hi with z | z
   ·exact absurd (good i z).1 ng
   ·exact z
  refine⟨_,rfl,_,rfl,_,rfl,a,rd,turns,late,rfl,hS,by omega,L0,Lb,fun d kvs ks ad H1 s1 hD M=>?_⟩
  refine⟨(by decide),fun p hp=>?_⟩
  have s2:Same H1 (upd H1 p (.lst [])):=Same.new hp
  have h2:(upd H1 p (.lst [])) p=some (.lst []):=upd_same
  generalize upd H1 p (.lst [])=H2 at s2 h2 ⊢
  refine⟨_,rfl,d,rfl,.inl ⟨kvs,.inl (s2 _ _ hD)⟩,(by decide),fun p0 hp0=>⟨_,DGet.k (k:=Sum.inl 0) ((Same.new hp0) _ _ (s2 _ _ hD)),?_⟩⟩
  obtain⟨q0,e0,c0⟩:=zdD M s2 hp0 0
  rw [e0]
  have s3:=s2.put (o:=.lst []) hp0
  have s23:=Same.new (o:=.lst []) hp0
  generalize upd H2 p0 (.lst [])=H3 at s3 s23 c0 ⊢
  refine⟨_,rfl,_,rfl,_,rfl,q0,grp (turns+late) 0 rd,turns,bells,late,rfl,SqL.of c0,b0,b60,l0,lb8,zg tb (by decide),(fun el=>zdC L0 Lb (by omega)),fun g H4 s4=>?_,fun ng H4 s4=>?_⟩
  case refine_2=>
   have e:=bad 0 (Nat.zero_le _) ng
   subst e
   exact q2 ng H4 (s1.trans (s3.trans s4))
  refine while_by (fun σ H5=>∃i:Nat,i≤n∧σ=[some (.ref a),some (.int turns),some (.int bells),some (.int late),some (.ref d),some (.ref p),some (.int (jg turns late rd i))]∧Same H1 H5∧H5 p=some (.lst ((List.range i).map fun i=>V.int (jg turns late rd i)))∧GoodR turns bells late (grp (turns+late) (i:Int) rd))
   (fun _ H5=>match H5 p with | some (.lst xs)=>n-xs.length | _=>0) ⟨0,Nat.zero_le _,rfl,s3.trans s4,s4 _ _ (s23 _ _ h2),g⟩ ?_ ?_
  ·rintro σ H5 ⟨i,hi,rfl,s5,h5,gi⟩
   refine⟨_,rfl,_,_,rfl,rfl,_,rfl,zfA (fun z=>?_) (fun z=>?_)⟩
   ·have hin:i<n:=by
     rcases Nat.lt_or_eq_of_le hi with y | y
     ·exact y
     ·subst y
      exact absurd (q1 gi).1 z
    have zlT:((List.range i).map fun i=>V.int (jg turns late rd i)).length=i:=by rw [List.length_map,List.length_range]
    refine⟨_,rfl,.inl ⟨rfl,_,SqL.of h5⟩,_,rfl,_,_,_,rfl,rfl,h5,by rw [zlT];exact small1000 (by omega),?_⟩
    have s6:Same H1 (upd H5 p (.lst (((List.range i).map fun i=>V.int (jg turns late rd i))++[V.int (jg turns late rd i)]))):=s5.wr hp
    have h6:(upd H5 p (.lst (((List.range i).map fun i=>V.int (jg turns late rd i))++[V.int (jg turns late rd i)]))) p=some (.lst ((List.range (i+1)).map fun i=>V.int (jg turns late rd i))):=by
     rw [upd_same,List.range_succ,List.map_append]
     rfl
    generalize upd H5 p (.lst (((List.range i).map fun i=>V.int (jg turns late rd i))++[V.int (jg turns late rd i)]))=H6 at s6 h6 ⊢
    have zk6:(((List.range (i+1)).map fun i=>V.int (jg turns late rd i)).length:Int)=((i+1:Nat):Int):=by rw [List.length_map,List.length_range]
    refine⟨_,rfl,d,rfl,.inl ⟨kvs,.inl (s6 _ _ hD)⟩,_,rfl,_,_,rfl,.inl (SqL.of h6),?_⟩
    rw [zk6]
    refine⟨(by decide),fun p7 hp7=>⟨_,DGet.k (k:=Sum.inl ((i+1:Nat):Int)) ((Same.new hp7) _ _ (s6 _ _ hD)),?_⟩⟩
    obtain⟨q7,e7,c7⟩:=zdD M s6 hp7 ((i+1:Nat):Int)
    rw [e7]
    have s7:=s6.put (o:=.lst []) hp7
    have s67:=Same.new (o:=.lst []) hp7
    generalize upd H6 p7 (.lst [])=H7 at s7 s67 c7 ⊢
    refine⟨_,rfl,_,rfl,_,rfl,q7,grp (turns+late) ((i+1:Nat):Int) rd,turns,bells,late,rfl,SqL.of c7,b0,b60,l0,lb8,zg tb (by decide),(fun el=>zdC L0 Lb (by omega)),fun g8 H8 s8=>?_,fun ng H8 s8=>?_⟩
    ·refine⟨⟨i+1,hin,rfl,s7.trans s8,s8 _ _ (s67 _ _ h6),g8⟩,?_⟩
     show (match H8 p with | some (.lst xs)=>n-xs.length | _=>0)<(match H5 p with | some (.lst xs)=>n-xs.length | _=>0)
     rw [s8 _ _ (s67 _ _ h6),h5]
     show n-((List.range (i+1)).map fun i=>V.int (jg turns late rd i)).length<n-((List.range i).map fun i=>V.int (jg turns late rd i)).length
     rw [List.length_map,List.length_range,List.length_map,List.length_range]
     omega
    ·have e:=bad (i+1) hin ng
     subst e
     exact q2 ng H8 (s1.trans (s7.trans s8))
   ·have e:i=n:=by
     rcases Nat.lt_or_eq_of_le hi with y | y
     ·exact absurd z (good i y).2
     ·exact y
    subst e
    exact⟨_,rfl,(q1 gi).2 p H5 (s1.trans s5) h5⟩
  ·intro σ H Q Q' m h
   obtain⟨v,hv,a,b,e1,e2,c,e3,r⟩:=h
   exact⟨v,hv,a,b,e1,e2,c,e3,m _ _ r⟩
noncomputable def zc9 (K:W.Frag) (C:Addr):Sp:=fun vs H Q E=>∃(a:Addr) (rd:List Int) (turns bells late:Int) (n:Nat),vs=[.ref a,.int turns,.int bells,.int late]∧SqL K H a (rd.map V.int)∧zhf rd turns bells late n ∧
 (GoodR turns bells late (grp (turns+late) (n:Int) rd)→jg turns late rd n=0∧3≤cnt turns bells late∧val (cnt turns bells late-1) ((List.range n).map fun i=>jg turns late rd i-1)≤ye∧∀H',Same H H'→Q (.str (tx (chs (val (cnt turns bells late-1) ((List.range n).map fun i=>jg turns late rd i-1)).toNat).reverse)) H') ∧
 (¬GoodR turns bells late (grp (turns+late) (n:Int) rd)→∀H',Same H H'→E (.ref C) none H')
theorem QH:FnScope ["reading","turns","bells","late","figures","base","refusal"] ["reading","turns","bells","late"] (defScope wI):=⟨rfl,rfl,rfl,by decide +kernel,rfl,by decide +kernel,by decide +kernel⟩
theorem zbp {za:Addr}{zp:Addr} (D:Def K mg "received" wI ["reading","turns","bells","late"]) (T:Txt K mg) (Zd:FnE P w K mg base 4 "messages_ahead_of_end" ["reading","turns","bells","late"] (zgL K za)) (zA:Fn P w K mg base 2 "box_count" ["turns","bells","late"] yf) (XR:Fn P w K mg base 1 "number_of_parts" ["figures","base"] (zk3 K)) (JT:FnE P w K mg base 2 "note_of" ["number"] (zgJ zp)):FnE P w K mg base 5 "received" ["reading","turns","bells","late"] (zc9 K za):=by
 have zee:=zaY JT
 refine D.fnE QH (fun vs H Q E h=>?_) (fun f cdv A outer s H vs Q E hr h=>?_)
 ·obtain⟨a,rd,t,b,l,n,rfl,_⟩:=h
  rfl
 ·obtain⟨a,rd,turns,bells,late,n,rfl,hS,R,q1,q2⟩:=h
  have R':=R
  obtain⟨rl,b0,b60,l0,lb,L0,t0,tb,n100,good⟩:=R'
  refine⟨_,(pss_cons (Xo (k:=4) (own:=["message"]) (fr:=[]) (ix:=[]) rfl QH.nd rfl rfl ⟨rfl,rfl,rfl,rfl,rfl,rfl⟩ (pi_list (qu Zd (hr.mono (by decide)) (by rfl) zQ (pa_cons (pv 0) (pa_cons (pv 1) (pa_cons (pv 2) (pa_cons (pv 3) pa_nil)))))) (fun _ _ _ _ _=>(pg_name (i:=0) (show (["message"]:List Str).Nodup by decide +kernel) rfl (Or.inl rfl))) (fun _ _ _ _ _=>qJ) (fun _ _ _ _ _=>(pe_op qI (pv 0) pe_int)))
   (pss_cons (ps_set (i:=5) QH.nd rfl (Or.inl rfl) (pe_op qI (zq zA (hr.mono (by decide)) (by rfl) (pa_cons (pv 1) (pa_cons (pv 2) (pa_cons (pv 3) pa_nil)))) pe_int))
   (pss_one (zfK (pss_one (ps_ret (zq zee (hr.mono (by decide)) (by rfl) (pa_cons (zq XR (hr.mono (by decide)) (by rfl) (pa_cons (pv 4) (pa_cons (pv 5) pa_nil))) pa_nil)))))))),?_⟩
  have lb8:intBits late≤8000:=zg lb (by decide)
  have cb:intBits (cnt turns bells late)≤8000:=zg (zb2 (turns:=turns) (bells:=bells) (late:=late) (by omega) (by omega) l0 (by omega) tb (by decide)) (by decide)
  refine⟨_,rfl,_,rfl,_,rfl,_,rfl,a,rd,turns,bells,late,n,rfl,hS,R,fun g=>?_,q2⟩
  obtain⟨z0,c3,vm,q⟩:=q1 g
  refine⟨z0,fun p H1 s1 h1=>?_⟩
  have mb:∀i:Nat,i<n→1≤jg turns late rd i∧jg turns late rd i<cnt turns bells late:=fun i hi=>by
   obtain⟨g1,g2⟩:=good i hi
   have h1:=vG (vX late (grp (turns+late) (i:Int) rd)) (vX late (grp (turns+late) (i:Int) rd)).length
   have h2:Zy (vX late (grp (turns+late) (i:Int) rd))=jF (vX late (grp (turns+late) (i:Int) rd)) (vX late (grp (turns+late) (i:Int) rd)).length:=rfl
   have h3:=g1.2.2
   unfold jg at g2 ⊢
   omega
  refine⟨p,rfl,⟨_,SqL.of h1⟩,fun acc hacc=>xH (K:=K) (a:=p) (xs:=(List.range n).map fun i=>V.int (jg turns late rd i)) (fun i=>V.int (jg turns late rd i-1)) (SqL.of h1) hacc (by rw [List.length_map,List.length_range];exact Nat.le_of_lt (small1000 (by omega))) (fun i v H6 R' hx s6 hR=>?_) ?_⟩
  ·rw [List.getElem?_map] at hx
   obtain⟨j,hj,rfl⟩:=Option.map_eq_some_iff.mp hx
   have ej:j=i:=by
    have h3:=(List.getElem?_eq_some_iff.mp hj).2
    rw [List.getElem_range] at h3
    exact h3.symm
   subst ej
   exact⟨rfl,_,rfl,_,_,rfl,rfl,hR⟩
  rw [List.length_map,List.length_range]
  have ef:(List.range n).map (fun i=>V.int (jg turns late rd i-1))=((List.range n).map fun i=>jg turns late rd i-1).map V.int:=by rw [List.map_map];rfl
  rw [ef]
  have fb:∀x∈(List.range n).map (fun i=>jg turns late rd i-1),0≤x∧x<cnt turns bells late-1:=fun x hx=>by
   obtain⟨i,hi,rfl⟩:=List.mem_map.mp hx
   have:=mb i (List.mem_range.mp hi)
   omega
  have fl:((List.range n).map fun i=>jg turns late rd i-1).length≤8000:=by rw [List.length_map,List.length_range];omega
  have v0:=yD (show 0≤cnt turns bells late-1 by omega) _ (fun x hx=>(fb x hx).1)
  have s2:=s1.put (o:=.lst (((List.range n).map fun i=>jg turns late rd i-1).map V.int)) hacc
  have h2:(upd H1 acc (.lst (((List.range n).map fun i=>jg turns late rd i-1).map V.int))) acc=some (.lst (((List.range n).map fun i=>jg turns late rd i-1).map V.int)):=upd_same
  generalize upd H1 acc (.lst (((List.range n).map fun i=>jg turns late rd i-1).map V.int))=H2 at s2 h2 ⊢
  generalize (List.range n).map (fun i=>jg turns late rd i-1)=fs at fb fl v0 vm q h2 ⊢
  refine⟨_,rfl,_,rfl,_,rfl,turns,bells,late,rfl,b0,by omega,l0,lb8,zg tb (by decide),_,_,rfl,rfl,?_⟩
  exact⟨_,rfl,_,rfl,acc,fs,_,rfl,SqL.of h2,fl,by omega,Xz (y:=cnt turns bells late) (by omega) (by omega) cb,fb,fun H3 s3=>⟨_,rfl,fun _ H4 s4=>q _ ((s2.trans s3).trans s4),fun ng=>absurd ⟨v0,vm⟩ ng⟩⟩
end
theorem XS {P:Program}{w:World}{K:W.Frag}{mg:Str→Option Value}{base:Heap}{k:Nat}{x:Str}{st:Stmt}{ps:List Str} (D:Def K mg x st ps):FnE P w K mg base k x ps (fun _ _ _ _=>False):=by
 obtain⟨f,fd,F,b,m⟩:=D
 exact⟨f,fd,⟨fun _ _ _ _ h=>h.elim,fun _ _ _ _ _ _ _ _ _ _ _ _ _ h=>h.elim⟩,F.kp,b,m⟩
theorem je.seq {K:W.Frag}{d a:Addr} {H H':Hp}{xs:List V}{kvs:List (Key×V)} (hd:H d=some (.dK kvs)) (s:je d H H') (h:SqL K H a xs):SqL K H' a xs:=by
 rcases h with h | h
 ·rcases h with h | ⟨o,h⟩
  ·exact .inl (.inl (s _ _ h (fun e=>by rw [e,hd] at h;cases h)))
  ·exact .inl (.inr ⟨o,s _ _ h (fun e=>by rw [e,hd] at h;cases h)⟩)
 ·exact .inr h
theorem zcl (s sub:Str) (hi limit:Nat):∀(l:List Nat) (st:Array Nat×Nat),limit≤st.fst.size→forIn (m:=Id) l st (StrLaws.occBody s sub hi limit)=pure st
 | [],st,_=>rfl
 | a::l,st,h=>by
  rw [List.forIn_cons]
  unfold StrLaws.occBody
  rw [if_neg (by omega)]
  exact zcl s sub hi limit l _ h
theorem zdE {s:Str}{limit i free:Nat}{l:List Nat}{f:Array Nat} (hf:f.size<limit) (hi:free≤i) (h:(cpl s)[i]?=some 32):forIn (m:=Id) (i::l) (f,free) (StrLaws.occBody s sp s.length limit)=forIn (m:=Id) l (f.push i,i+1) (StrLaws.occBody s sp s.length limit):=by
 have h1:=(StrLaws.subAt_one s 32 i).mpr h
 rw [← zbN] at h1
 rw [List.forIn_cons]
 conv=>lhs;unfold StrLaws.occBody
 rw [if_pos ⟨⟨⟨hf,hi⟩,h1.1⟩,h1.2⟩]
 rfl
theorem zfa {s:Str}{limit i free c:Nat}{l:List Nat}{f:Array Nat} (h:(cpl s)[i]?=some c) (hc:c≠32):forIn (m:=Id) (i::l) (f,free) (StrLaws.occBody s sp s.length limit)=forIn (m:=Id) l (f,free) (StrLaws.occBody s sp s.length limit):=by
 have h1:¬(i+sp.length≤s.length∧Builtin.Str.subAt s sp i=true):=fun z=>by
  rw [zbN] at z
  have:=(StrLaws.subAt_one s 32 i).mp z
  rw [show s.cps.toList=cpl s from rfl,h] at this
  exact hc (Option.some.inj this)
 rw [List.forIn_cons]
 conv=>lhs;unfold StrLaws.occBody
 rw [if_neg (fun z=>h1 ⟨z.1.2,z.2⟩)]
 rfl
theorem zbq (s:Str) (i j:Nat):cpl (Builtin.Str.strSub s i j)=((cpl s).take j).drop i:=by
 unfold Builtin.Str.strSub cpl
 rw [Array.toList_extract,List.extract_eq_drop_take]
 simp [List.drop_take]
theorem zfb (x:Str):Builtin.Str.strKind sp≤Builtin.Str.strKind x:=by
 have h:Builtin.Str.strKind sp=1:=by decide +kernel
 rw [h]
 unfold Builtin.Str.strKind
 split
 ·exact Nat.le_refl _
 split <;> decide
theorem zga:Qp "note":=by unfold Qp;decide +kernel
theorem zcm {L late:Int} (L0:0≤L):∀(bss:List (List Int)) (k:Int),(∀bs∈bss,∀x∈qO late bs,0≤x∧x<L)→∀y∈xT L late k bss,k*L≤y∧y<(k+(bss.length:Int))*L
 | [],_,_,_,h=>nomatch h
 | bs::r,k,h,y,hy=>by
  rcases List.mem_append.mp hy with z | z
  ·obtain⟨x,hx,rfl⟩:=List.mem_map.mp z
   have hb:=h bs (List.mem_cons_self ..) x hx
   have e:(k+((bs::r).length:Int))*L=k*L+(((r.length:Int)+1)*L):=by rw [Int.add_mul,List.length_cons];rfl
   have m:L≤((r.length:Int)+1)*L:=by
    rw [Int.add_mul,Int.one_mul]
    have:=Int.mul_nonneg (Int.natCast_nonneg r.length) L0
    omega
   show k*L≤k*L+x∧k*L+x < _
   omega
  ·have ih:=zcm L0 r (k+1) (fun b hb=>h b (List.mem_cons_of_mem _ hb)) y z
   rw [show k+1+(r.length:Int)=k+((bs::r).length:Int) by rw [List.length_cons];omega,Int.add_mul,Int.one_mul] at ih
   omega
theorem zdF (L:Int) (n:Nat):∀rd:List Int,(rd.filter fun t=>decide (0≤t / L∧t / L<((n+1:Nat):Int))).length=(rd.filter fun t=>decide (0≤t / L∧t / L<(n:Int))).length+(grp L (n:Int) rd).length
 | []=>rfl
 | t::r=>by
  have ih:=zdF L n r
  unfold grp at ih ⊢
  rw [List.length_map] at ih ⊢
  by_cases e:t / L=(n:Int)
  ·rw [List.filter_cons_of_pos (by rw [decide_eq_true];omega),List.filter_cons_of_neg (by rw [decide_eq_true_eq];omega),List.filter_cons_of_pos (by rw [decide_eq_true e])]
   simp only [List.length_cons]
   omega
  ·rw [List.filter_cons_of_neg (a:=t) (p:=fun t=>decide (t / L=(n:Int))) (by rw [decide_eq_true_eq];exact e)]
   by_cases e2:0≤t / L∧t / L<(n:Int)
   ·rw [List.filter_cons_of_pos (by rw [decide_eq_true];omega),List.filter_cons_of_pos (by rw [decide_eq_true];omega)]
    simp only [List.length_cons]
    omega
   ·rw [List.filter_cons_of_neg (by rw [decide_eq_true_eq];omega),List.filter_cons_of_neg (by rw [decide_eq_true_eq];omega)]
    exact ih
theorem zaz {L:Int}{b:Nat}{rd:List Int}:∀n:Nat,(∀i:Nat,i<n→(grp L (i:Int) rd).length=b)→(rd.filter fun t=>decide (0≤t / L∧t / L<(n:Int))).length=n*b
 | 0,_=>by
  rw [Nat.zero_mul]
  have:rd.filter (fun t=>decide (0≤t / L∧t / L<((0:Nat):Int)))=[]:=List.filter_eq_nil_iff.mpr fun t _=>by rw [decide_eq_true_eq];omega
  rw [this]
  rfl
 | n+1,h=>by
  rw [zdF,zaz n fun i hi=>h i (by omega),h n (Nat.lt_succ_self n),Nat.succ_mul]
theorem zaA {P:Nat→Prop}:∀m:Nat,(∀i,i<m→P i)∨∃n,n<m∧(∀i,i<n→P i)∧¬P n
 | 0=>.inl fun _ h=>absurd h (Nat.not_lt_zero _)
 | m+1=>by
  rcases zaA (P:=P) m with h | ⟨n,h1,h2⟩
  ·by_cases z:P m
   ·exact .inl fun i hi=>by
     by_cases e:i=m
     ·rw [e];exact z
     ·exact h i (by omega)
   ·exact .inr ⟨m,Nat.lt_succ_self m,h,z⟩
  ·exact .inr ⟨n,by omega,h2⟩
theorem zk7 {rd:List Int}{t b l:Int} (b1:1≤b):∃n:Nat,(∀i:Nat,i<n→GoodR t b l (grp (t+l) (i:Int) rd)∧jg t l rd i≠0)∧(GoodR t b l (grp (t+l) (n:Int) rd)→jg t l rd n=0)∧n*b.toNat≤rd.length:=by
 have tot:∀n:Nat,(∀i:Nat,i<n→GoodR t b l (grp (t+l) (i:Int) rd)∧jg t l rd i≠0)→n*b.toNat≤rd.length:=fun n h=>by
  have e:=zaz (L:=t+l) (rd:=rd) (b:=b.toNat) n fun i hi=>by have:=(h i hi).1.1;omega
  rw [← e]
  exact List.length_filter_le _ _
 rcases zaA (P:=fun i=>GoodR t b l (grp (t+l) (i:Int) rd)∧jg t l rd i≠0) (rd.length+1) with h | ⟨n,_,h1,h2⟩
 ·have h3:=tot _ h
  have h4:=Nat.mul_le_mul_left (rd.length+1) (show 1≤b.toNat by omega)
  omega
 ·refine⟨n,h1,fun g=>?_,tot n h1⟩
  by_cases z:jg t l rd n=0
  ·exact z
  ·exact absurd ⟨g,z⟩ h2
theorem Wq {b:Int} (hb:1≤b){m n:Nat} (h:m≤n):b ^ m≤b ^ n:=by
 induction n with
 | zero=>
      have:m=0:=by omega
      subst this;exact Int.le_refl _
 | succ n ih=>
  by_cases e:m=n+1
  ·subst e;exact Int.le_refl _
  ·have h1:=ih (by omega)
   have p:0≤b ^ n:=Int.pow_nonneg (by omega)
   rw [Int.pow_succ]
   have:=Int.mul_le_mul_of_nonneg_left hb p
   omega
theorem zda {a b:Int} (ha:0≤a) (h:a≤b):∀n:Nat,a ^ n≤b ^ n
 | 0=>by rw [Int.pow_zero,Int.pow_zero];exact Int.le_refl _
 | n+1=>by
  rw [Int.pow_succ,Int.pow_succ]
  exact Int.mul_le_mul (zda ha h n) h ha (Int.pow_nonneg (by omega))
theorem zdG {b:Int} (hb:2≤b):∀ys:List Int,(∀y∈ys,0≤y)→(∀y,ys.getLast?=some y→y≠0)→ys≠[]→b ^ (ys.length-1)≤val b ys
 | [],_,_,h=>absurd rfl h
 | [a],h,l,_=>by
  have h1:=h a (List.mem_cons_self ..)
  have h2:=l a rfl
  show b ^ 0≤a+b*0
  rw [Int.pow_zero,Int.mul_zero]
  omega
 | a::c::r,h,l,_=>by
  have h0:∀y∈c::r,0≤y:=fun y hy=>h y (List.mem_cons_of_mem _ hy)
  have ih:=zdG hb (c::r) h0 (fun y hy=>l y (by rw [List.getLast?_cons_cons];exact hy)) (by simp)
  have h1:=h a (List.mem_cons_self ..)
  show b ^ (r.length+1)≤a+b*val b (c::r)
  have e:(c::r).length-1=r.length:=rfl
  rw [e] at ih
  rw [Int.pow_succ,Int.mul_comm]
  have:=Int.mul_le_mul_of_nonneg_left ih (show 0≤b by omega)
  omega
noncomputable def Few (t b l:Int) (len:Nat):Prop:=∀n:Nat,n*b.toNat≤len→(cnt t b l-1) ^ n≤ye
theorem zk8:tops 8*1000 ^ 3≤ye:=by decide +kernel
theorem zfc {t b l:Int} (b1:1≤b) (c3:3≤cnt t b l) (cm:cnt t b l≤1000){k:Nat} (hk:k≤9):Few t b l k:=fun n h=>by
 have h1:=Nat.mul_le_mul_left n (show 1≤b.toNat by omega)
 have h2:=Wq (b:=cnt t b l-1) (by omega) (show n≤9 by omega)
 have h3:(cnt t b l-1) ^ 9≤1000 ^ 9:=zda (by omega) (by omega) 9
 have h4:(1000:Int) ^ 9≤ye:=by decide +kernel
 omega
theorem zfd {x:Str}{t b l:Int}{ys:List Int}{bss:List (List Int)} (S:zc7 x t b l ys bss) (g:yE x) (x8:x.cps.toList.length≤8) (b1:1≤b) (c3:3≤cnt t b l) (cm:cnt t b l≤1000){k:Nat} (hk:k≤(ys.length+1)*b.toNat+1):Few t b l k:=fun n h=>by
 have hb1:1≤b.toNat:=by omega
 have n2:n≤ys.length+2:=by
  by_cases z:n≤ys.length+2
  ·exact z
  ·have h1:=Nat.mul_le_mul_right b.toNat (show ys.length+3≤n by omega)
   have e:(ys.length+3)*b.toNat=(ys.length+1)*b.toNat+2*b.toNat:=by rw [← Nat.add_mul]
   omega
 have h2:=Wq (b:=cnt t b l-1) (by omega) n2
 have h3:(cnt t b l-1) ^ 3≤1000 ^ 3:=zda (by omega) (by omega) 3
 have h4:=zk8
 have p3:0≤(cnt t b l-1) ^ 3:=Int.pow_nonneg (by omega)
 have hr:∀c∈x.cps.toList.reverse,c∈sg:=fun c hc=>g.1 c (List.mem_reverse.mp hc)
 have n0:=XM _ hr
 have n1:=(QG _ hr).2
 have n8:=Vv (show x.cps.toList.reverse.length≤8 by rw [List.length_reverse];exact x8)
 have en:nv x.cps.toList=val 27 (x.cps.toList.reverse.map dig):=rfl
 by_cases e:ys=[]
 ·subst e
  have h5:=Wq (b:=cnt t b l-1) (by omega) (show ([]:List Int).length+2≤3 by decide)
  have h6:(1000:Int) ^ 3≤ye:=by decide +kernel
  omega
 ·have lo:=zdG (b:=cnt t b l-1) (by omega) ys (fun y hy=>(S.bd y hy).1) S.last e
  rw [S.num] at lo
  have yl:ys.length-1+3=ys.length+2:=by
   have:=List.length_pos_iff.mpr e
   omega
  have ep:(cnt t b l-1) ^ (ys.length+2)=(cnt t b l-1) ^ (ys.length-1)*(cnt t b l-1) ^ 3:=by rw [← yl,Int.pow_add]
  have m1:=Int.mul_le_mul_of_nonneg_right (show (cnt t b l-1) ^ (ys.length-1)≤tops 8 by omega) p3
  have m2:=Int.mul_le_mul_of_nonneg_left h3 (QF 8)
  omega
structure Cs where
 nn:Addr
 tg:Addr
 nr:Addr
 nt:Addr
 rw:Addr
 od:Addr
 tm:Addr
 be:Addr
structure XF (K:W.Frag) (S:Cs) (C:Addr) (i:Fin 5):Prop where
 ex:W.excIn K C bmV "ValueError.__new__"=true
 mr:W.mroIn K C (.ref S.be)=some true
 xl:ZP K C
 i0:W.kitOne K (.ref C) (.ref S.nn)=some (decide (i=0))
 i1:W.kitOne K (.ref C) (.ref S.tg)=some (decide (i=1))
 i2:W.kitOne K (.ref C) (.ref S.nr)=some (decide (i=2))
 i3:W.kitOne K (.ref C) (.ref S.nt)=some (decide (i=3))
 i4:W.kitOne K (.ref C) (.ref S.rw)=some (decide (i=4))
 i5:W.kitOne K (.ref C) (.ref S.od)=some false
 i6:W.kitOne K (.ref C) (.ref S.tm)=some false
 iv:W.kitOne K (.ref C) (.type "ValueError")=some true
theorem xf_of {K:W.Frag}{nn tg nr nt rw od tm be C:Addr} (i:Fin 5) (b0 b1 b2 b3 b4:Bool) (h:(b0,b1,b2,b3,b4)=(decide (i=0),decide (i=1),decide (i=2),decide (i=3),decide (i=4))) (x:W.excIn K C bmV "ValueError.__new__"=true) (r0:W.mroIn K C (.ref be)=some true)
  (r1:W.findIn K (.ref C) "__getattribute__"=some (some (.builtin "BaseException.__getattribute__"))) (r2:W.findIn K (.ref C) "__getattr__"=some none) (r3:W.findIn K (.ref C) "__class__"=some (some (.builtin "object.__class__"))) (r4:W.specialIn K (.builtin "object.__class__") "__get__"=some (some (.builtin "getset_descriptor.__get__"))) (r5:W.takesIn K (.builtin "object.__class__")=some true) (r6:W.mroIn K C (.type "object")=some true) (r7:W.mroIn K C (.type "BaseException")=some true)
  (i0:W.kitOne K (.ref C) (.ref nn)=some b0) (i1:W.kitOne K (.ref C) (.ref tg)=some b1) (i2:W.kitOne K (.ref C) (.ref nr)=some b2) (i3:W.kitOne K (.ref C) (.ref nt)=some b3) (i4:W.kitOne K (.ref C) (.ref rw)=some b4) (i5:W.kitOne K (.ref C) (.ref od)=some false) (i6:W.kitOne K (.ref C) (.ref tm)=some false) (i7:W.kitOne K (.ref C) (.type "ValueError")=some true):XF K ⟨nn,tg,nr,nt,rw,od,tm,be⟩ C i:=by
 cases h
 exact⟨x,r0,⟨r1,r2,r3,r4,r5,r6,r7⟩,i0,i1,i2,i3,i4,i5,i6,i7⟩
noncomputable def kdN (i:Fin 5):Str:=([("NoName":Str),"TooGreat","NoReading","NoNote","NoRow"].getD i.val "")
noncomputable def jC (b:Bool) (nm:Str) (l:List Str):List Str:=if b then l++[nm] else l
theorem kd_all:∀i:Fin 5,jC (decide (i=4)) "NoRow" (jC (decide (i=3)) "NoNote" (jC (decide (i=2)) "NoReading" (jC (decide (i=1)) "TooGreat" (jC (decide (i=0)) "NoName" []))))=[kdN i]:=by decide +kernel
theorem zdH:∀i:Fin 5,Txt.join " " [kdN i]=kdN i∧([kdN i].map (·.length)).sum+[kdN i].length*(" ":Str).length≤16777216:=by decide +kernel
theorem QJ (b:Bool) (nm:Str) (l:List Str):(jC b nm l).length≤l.length+1:=by
 unfold jC
 split <;> simp
section
noncomputable def zfe (K:W.Frag) (S:Cs):Sp:=fun vs H Q _=>∃(x C:Addr) (i:Fin 5),vs=[.ref x]∧H x=some (yc x (.ref C))∧XF K S C i∧∀H',Same H H'→Q (.str (kdN i)) H'
theorem XX:FnScope ["e","kinds"] ["e"] (defScope vp):=⟨rfl,rfl,rfl,by decide +kernel,rfl,by decide +kernel,by decide +kernel⟩
theorem zgb (D:Def K mg "_law_kind" vp ["e"]) (T:Txt K mg){zr zj za zp zG zc zX zm:Addr} (xj:mg "NoName"=some (.ref zr)) (zV:mg "TooGreat"=some (.ref zj)) (zJ:mg "NoReading"=some (.ref za)) (qH:mg "NoNote"=some (.ref zp)) (kO:mg "NoRow"=some (.ref zG)) (zL:mg "NoOrder"=some (.ref zc)) (kj:mg "TooMany"=some (.ref zX)):Fn P w K mg base 1 "_law_kind" ["e"] (zfe K ⟨zr,zj,za,zp,zG,zc,zX,zm⟩):=by
 refine D.fn XX (fun vs H Q E h=>?_) (fun f cdv A outer s H vs Q E hr h=>?_)
 ·obtain⟨x,C,i,rfl,_⟩:=h
  rfl
 ·obtain⟨x,C,i,rfl,hx,F,q⟩:=h
  refine⟨_,(pss_cons (ps_set (i:=1) XX.nd rfl (Or.inl rfl) (pe_lst pa_nil))
   (pss_cons (ps_if (pt_val (pe_callB qL (by rfl) T.z_isinstance zM (pa_cons (pv 0) (pa_cons (pe_glob (v:=.ref zr) (by rfl) xj rfl) pa_nil))))
    (pss_one (ps_expr (pe_bm PySem.F.plainAttrs_list PySem.F.slot_list_append PySem.F.type_list_append mt_append (pv 1) (pa_cons pe_str pa_nil))))
    pss_nil)
   (pss_cons (ps_if (pt_val (pe_callB qL (by rfl) T.z_isinstance zM (pa_cons (pv 0) (pa_cons (pe_glob (v:=.ref zj) (by rfl) zV rfl) pa_nil))))
    (pss_one (ps_expr (pe_bm PySem.F.plainAttrs_list PySem.F.slot_list_append PySem.F.type_list_append mt_append (pv 1) (pa_cons pe_str pa_nil))))
    pss_nil)
   (pss_cons (ps_if (pt_val (pe_callB qL (by rfl) T.z_isinstance zM (pa_cons (pv 0) (pa_cons (pe_glob (v:=.ref za) (by rfl) zJ rfl) pa_nil))))
    (pss_one (ps_expr (pe_bm PySem.F.plainAttrs_list PySem.F.slot_list_append PySem.F.type_list_append mt_append (pv 1) (pa_cons pe_str pa_nil))))
    pss_nil)
   (pss_cons (ps_if (pt_val (pe_callB qL (by rfl) T.z_isinstance zM (pa_cons (pv 0) (pa_cons (pe_glob (v:=.ref zp) (by rfl) qH rfl) pa_nil))))
    (pss_one (ps_expr (pe_bm PySem.F.plainAttrs_list PySem.F.slot_list_append PySem.F.type_list_append mt_append (pv 1) (pa_cons pe_str pa_nil))))
    pss_nil)
   (pss_cons (ps_if (pt_val (pe_callB qL (by rfl) T.z_isinstance zM (pa_cons (pv 0) (pa_cons (pe_glob (v:=.ref zG) (by rfl) kO rfl) pa_nil))))
    (pss_one (ps_expr (pe_bm PySem.F.plainAttrs_list PySem.F.slot_list_append PySem.F.type_list_append mt_append (pv 1) (pa_cons pe_str pa_nil))))
    pss_nil)
   (pss_cons (ps_if (pw_or (pt_val (pe_callB qL (by rfl) T.z_isinstance zM (pa_cons (pv 0) (pa_cons (pe_glob (v:=.ref zc) (by rfl) zL rfl) pa_nil)))) (pw_or (pt_val (pe_callB qL (by rfl) T.z_isinstance zM (pa_cons (pv 0) (pa_cons (pe_glob (v:=.ref zX) (by rfl) kj rfl) pa_nil)))) (pw_or1 (pt_not (pt_val (pe_callB qL (by rfl) T.z_isinstance zM (pa_cons (pv 0) (pa_cons (pe_bltn (v:=.ty "ValueError") (by rfl) T.z_ValueError zaK rfl) pa_nil)))))))).pt
    (pss_one (ps_expr (pe_bm PySem.F.plainAttrs_list PySem.F.slot_list_append PySem.F.type_list_append mt_append (pv 1) (pa_cons pe_str pa_nil))))
    pss_nil)
   (pss_one (ps_ret (pe_bm PySem.F.plainAttrs_str PySem.F.slot_str_join PySem.F.type_str_join ZQ pe_str (pa_cons (pv 1) pa_nil))))))))))),?_⟩
  refine⟨(by decide),fun p hp=>?_⟩
  have npx:x≠p:=fun e=>by rw [e,hp] at hx;cases hx
  obtain⟨l,el,ll⟩:∃l:List Str,l=[]∧l.length≤0:=⟨[],rfl,Nat.le_refl _⟩
  have s1:Same H (upd H p (.lst (l.map V.str))):=Same.new hp
  have h1:(upd H p (.lst (l.map V.str))) p=some (.lst (l.map V.str)):=upd_same
  have hx1:=s1 _ _ hx
  rw [show (HO.lst []:HO)=.lst (l.map V.str) by rw [el];rfl]
  generalize upd H p (.lst (l.map V.str))=H1 at s1 h1 hx1 ⊢
  dsimp only [gName]
  refine Vk (fun σ' H'=>σ'=[some (.ref x),some (.ref p)]∧Same H H'∧H' p=some (.lst ((jC (decide (i=0)) "NoName" l).map V.str))∧H' x=some (yc x (.ref C))) ?_ (fun N hN=>?_)
  rotate_left
  ·refine⟨_,rfl,_,_,_,_,_,rfl,fun _ z=>z,.exc F.xl hx1,F.i0,_,rfl,ifD (fun z=>⟨_,rfl,.inl ⟨rfl,_,SqL.of h1⟩,p,_,_,rfl,rfl,h1,(by rw [List.length_map,sizeLine_eq];omega),hN _ _ ⟨rfl,s1.wr hp,by rw [upd_same,jC,if_pos (decide_eq_true z),List.map_append];rfl,by rw [upd_ne npx];exact hx1⟩⟩) (fun z=>hN _ _ ⟨rfl,s1,by rw [jC,if_neg (by rw [decide_eq_false z];decide)];exact h1,hx1⟩)⟩
  clear h1 s1 hx1
  rintro σ' H1 ⟨rfl,s1,h1,hx1⟩
  have ll:(jC (decide (i=0)) "NoName" l).length≤1:=Nat.le_trans (QJ ..) (by omega)
  have el:=congrArg (jC (decide (i=0)) "NoName") el
  generalize jC (decide (i=0)) "NoName" l=l at h1 ll el
  refine Vk (fun σ' H'=>σ'=[some (.ref x),some (.ref p)]∧Same H H'∧H' p=some (.lst ((jC (decide (i=1)) "TooGreat" l).map V.str))∧H' x=some (yc x (.ref C))) ?_ (fun N hN=>?_)
  rotate_left
  ·refine⟨_,rfl,_,_,_,_,_,rfl,fun _ z=>z,.exc F.xl hx1,F.i1,_,rfl,ifD (fun z=>⟨_,rfl,.inl ⟨rfl,_,SqL.of h1⟩,p,_,_,rfl,rfl,h1,(by rw [List.length_map,sizeLine_eq];omega),hN _ _ ⟨rfl,s1.wr hp,by rw [upd_same,jC,if_pos (decide_eq_true z),List.map_append];rfl,by rw [upd_ne npx];exact hx1⟩⟩) (fun z=>hN _ _ ⟨rfl,s1,by rw [jC,if_neg (by rw [decide_eq_false z];decide)];exact h1,hx1⟩)⟩
  clear h1 s1 hx1
  rintro σ' H1 ⟨rfl,s1,h1,hx1⟩
  have ll:(jC (decide (i=1)) "TooGreat" l).length≤2:=Nat.le_trans (QJ ..) (by omega)
  have el:=congrArg (jC (decide (i=1)) "TooGreat") el
  generalize jC (decide (i=1)) "TooGreat" l=l at h1 ll el
  refine Vk (fun σ' H'=>σ'=[some (.ref x),some (.ref p)]∧Same H H'∧H' p=some (.lst ((jC (decide (i=2)) "NoReading" l).map V.str))∧H' x=some (yc x (.ref C))) ?_ (fun N hN=>?_)
  rotate_left
  ·refine⟨_,rfl,_,_,_,_,_,rfl,fun _ z=>z,.exc F.xl hx1,F.i2,_,rfl,ifD (fun z=>⟨_,rfl,.inl ⟨rfl,_,SqL.of h1⟩,p,_,_,rfl,rfl,h1,(by rw [List.length_map,sizeLine_eq];omega),hN _ _ ⟨rfl,s1.wr hp,by rw [upd_same,jC,if_pos (decide_eq_true z),List.map_append];rfl,by rw [upd_ne npx];exact hx1⟩⟩) (fun z=>hN _ _ ⟨rfl,s1,by rw [jC,if_neg (by rw [decide_eq_false z];decide)];exact h1,hx1⟩)⟩
  clear h1 s1 hx1
  rintro σ' H1 ⟨rfl,s1,h1,hx1⟩
  have ll:(jC (decide (i=2)) "NoReading" l).length≤3:=Nat.le_trans (QJ ..) (by omega)
  have el:=congrArg (jC (decide (i=2)) "NoReading") el
  generalize jC (decide (i=2)) "NoReading" l=l at h1 ll el
  refine Vk (fun σ' H'=>σ'=[some (.ref x),some (.ref p)]∧Same H H'∧H' p=some (.lst ((jC (decide (i=3)) "NoNote" l).map V.str))∧H' x=some (yc x (.ref C))) ?_ (fun N hN=>?_)
  rotate_left
  ·refine⟨_,rfl,_,_,_,_,_,rfl,fun _ z=>z,.exc F.xl hx1,F.i3,_,rfl,ifD (fun z=>⟨_,rfl,.inl ⟨rfl,_,SqL.of h1⟩,p,_,_,rfl,rfl,h1,(by rw [List.length_map,sizeLine_eq];omega),hN _ _ ⟨rfl,s1.wr hp,by rw [upd_same,jC,if_pos (decide_eq_true z),List.map_append];rfl,by rw [upd_ne npx];exact hx1⟩⟩) (fun z=>hN _ _ ⟨rfl,s1,by rw [jC,if_neg (by rw [decide_eq_false z];decide)];exact h1,hx1⟩)⟩
  clear h1 s1 hx1
  rintro σ' H1 ⟨rfl,s1,h1,hx1⟩
  have ll:(jC (decide (i=3)) "NoNote" l).length≤4:=Nat.le_trans (QJ ..) (by omega)
  have el:=congrArg (jC (decide (i=3)) "NoNote") el
  generalize jC (decide (i=3)) "NoNote" l=l at h1 ll el
  refine Vk (fun σ' H'=>σ'=[some (.ref x),some (.ref p)]∧Same H H'∧H' p=some (.lst ((jC (decide (i=4)) "NoRow" l).map V.str))∧H' x=some (yc x (.ref C))) ?_ (fun N hN=>?_)
  rotate_left
  ·refine⟨_,rfl,_,_,_,_,_,rfl,fun _ z=>z,.exc F.xl hx1,F.i4,_,rfl,ifD (fun z=>⟨_,rfl,.inl ⟨rfl,_,SqL.of h1⟩,p,_,_,rfl,rfl,h1,(by rw [List.length_map,sizeLine_eq];omega),hN _ _ ⟨rfl,s1.wr hp,by rw [upd_same,jC,if_pos (decide_eq_true z),List.map_append];rfl,by rw [upd_ne npx];exact hx1⟩⟩) (fun z=>hN _ _ ⟨rfl,s1,by rw [jC,if_neg (by rw [decide_eq_false z];decide)];exact h1,hx1⟩)⟩
  clear h1 s1 hx1
  rintro σ' H1 ⟨rfl,s1,h1,hx1⟩
  have ll:(jC (decide (i=4)) "NoRow" l).length≤5:=Nat.le_trans (QJ ..) (by omega)
  have el:=congrArg (jC (decide (i=4)) "NoRow") el
  generalize jC (decide (i=4)) "NoRow" l=l at h1 ll el
  rw [kd_all i] at el
  subst el
  refine⟨_,rfl,_,_,_,_,false,rfl,fun _ z=>z,.exc F.xl hx1,F.i5,_,rfl,iteF ⟨_,rfl,_,_,_,_,false,rfl,fun _ z=>z,.exc F.xl hx1,F.i6,_,rfl,iteF ⟨_,rfl,_,_,_,_,true,rfl,fun _ z=>z,.exc F.xl hx1,F.iv,_,rfl,iteF ⟨rfl,_,rfl," ",p,[kdN i],rfl,rfl,SqL.of h1,(zdH i).2,?_⟩⟩⟩⟩
  rw [(zdH i).1]
  exact q H1 s1
noncomputable def zgc (TD:Sp) (vs:List V) (H:Hp) (A:V→Hp→Prop) (R:Value→Hp→Prop):Prop:=∀(Q:VK) (E:XK),(∀v H',A v H'→Q v H')→(∀C H',R C H'→E C none H')→TD vs H Q E
noncomputable def KC (K:W.Frag) (S:Cs) (CD:Addr) (TD:Sp):Sp:=fun vs H Q _=>∃(x dx:Addr) (fs:List (Str×V)) (o:Str) (A:V→Hp→Prop) (R:Value→Hp→Prop),vs=[.ref x,.str o]∧H x=some (.ins CD dx fs)∧fs.lookup ("told":Str)=none∧zgc TD [.ref x,.str o] H A R ∧
 (∀v H1,A v H1→∃r:Str,v=.str r∧∀p H',Same H1 H'→H' p=some (.tup [.str "told",.str r])→Q (.ref p) H') ∧
 (∀C H1,R C H1→∃(C':Addr) (i:Fin 5),C=.ref C'∧XF K S C' i∧∀p H',Same H1 H'→H' p=some (.tup [.str "refused",.str (kdN i)])→Q (.ref p) H')
theorem jW:FnScope ["desk","order","caught","found","e"] ["desk","order"] (defScope vq):=⟨rfl,rfl,rfl,by decide +kernel,rfl,by decide +kernel,by decide +kernel⟩
theorem zff (D:Def K mg "_law_told" vq ["desk","order"]) (T:Txt K mg){S:Cs}{zm:Addr} (eb:S.be=zm) (z6:mg "BellError"=some (.ref zm)) (z7:W.excIn K zm bmV "ValueError.__new__"=true){CD:Addr}{TD:Sp} (zbr:MtE P w K mg base 46 CD "told" ["self","order"] TD) (qP:Fn P w K mg base 1 "_law_kind" ["e"] (zfe K S)):Fn P w K mg base 47 "_law_told" ["desk","order"] (KC K S CD TD):=by
 refine D.fn jW (fun vs H Q E h=>?_) (fun f cdv A outer s H vs Q E hr h=>?_)
 ·obtain⟨x,dx,fs,o,A,R,rfl,_⟩:=h
  rfl
 ·obtain⟨x,dx,fs,o,Aw,Rw,rfl,hx,hl,td,qa,qr⟩:=h
  refine⟨_,(pss_cons (ps_set (i:=2) jW.nd rfl (Or.inl rfl) pe_non)
   (pss_cons (ps_set (i:=3) jW.nd rfl (Or.inl rfl) pe_non)
   (pss_cons (zaS (i:=4) rfl rfl jW.nd rfl rfl rfl (by rfl) z6 z7 (by decide) (fun pn xe G hx=>(pss_one (ps_set (i:=3) jW.nd rfl (Or.inl rfl) (JH (pv 0) zbr (hr.mono (by decide)) hx (pa_cons (pv 1) pa_nil))))) (fun x=>(pss_one (ps_set (i:=2) jW.nd rfl (Or.inl rfl) (pv 4)))))
   (pss_cons (ps_if (pt_cmpR op_notN (pv 2) pe_non (nomark _))
    (pss_one (ps_ret (pe_tup (pa_cons pe_str (pa_cons (zq qP (hr.mono (by decide)) (by rfl) (pa_cons (pv 2) pa_nil)) pa_nil)))))
    pss_nil)
   (pss_cons (ps_if (pt_val (pe_callB jH (by rfl) T.z_isinstance zM (pa_cons (pv 3) (pa_cons (pe_bltn (v:=.ty "str") (by rfl) T.z_str Jq rfl) pa_nil))))
    (pss_one (ps_ret (pe_tup (pa_cons pe_str (pa_cons (pv 3) pa_nil)))))
    pss_nil)
   (pss_one (ps_ret (pe_tup (pa_cons pe_str (pa_cons pe_str pa_nil)))))))))),?_⟩
  refine⟨_,rfl,x,dx,fs,rfl,hx,hl,_,rfl,td _ _ (fun v H1 a=>?_) (fun C H1 r=>?_)⟩
  ·obtain⟨r,rfl,q⟩:=qa v H1 a
   refine⟨_,rfl,rfl,_,rfl,iteF ⟨_,rfl,_,_,_,true,rfl,TyOf.str _,QB K,_,rfl,iteT ⟨_,rfl,(by show 2≤sizeLine;decide),fun p hp=>q p _ (Same.new hp) upd_same⟩⟩⟩
  ·obtain⟨C',i,rfl,F,q⟩:=qr C H1 r
   refine⟨C',bmV,_,rfl,F.ex,by decide,eb ▸ F.mr,fun y hy=>⟨_,rfl,?_⟩⟩
   have s2:Same H1 (upd H1 y (yc y (.ref C'))):=Same.new hy
   have h2:(upd H1 y (yc y (.ref C'))) y=some (yc y (.ref C')):=upd_same
   generalize upd H1 y (yc y (.ref C'))=H2 at s2 h2 ⊢
   refine⟨_,rfl,rfl,_,rfl,iteT ⟨_,rfl,y,C',i,rfl,h2,F,fun H3 s3=>⟨(by show 2≤sizeLine;decide),fun p hp=>q p _ ((s2.trans s3).trans (Same.new hp)) upd_same⟩⟩⟩
end
noncomputable def zfg (x:Str):Bool:=decide (1≤x.length) && decide (x.length≤8) && (cpl x).all fun c=>decide (97≤c) && decide (c≤122)
theorem zgd {x:Str} (h:zfg x=true):zK x:=by
 unfold zfg at h
 simp only [Bool.and_eq_true,decide_eq_true_eq,List.all_eq_true] at h
 exact⟨h.1.1,h.1.2,h.2⟩
noncomputable def Wr:List Str:=["","ab","aaaaaaa","zz"]
theorem zef:∀st∈Wr,∀k:Fin 8,k.val≤st.length→∀sgn∈([("a":Str),"b","q"]:List Str),zfg (Txt.slice st none (some (k.val:Int))++sgn++Txt.slice st (some (k.val:Int)) none)=true:=by decide +kernel
theorem zfh:∀(st:Fin 7) (b:Fin 5),ch ((st.val:Int)+(b.val:Int)) (b.val:Int)≤1000:=by decide +kernel
structure Jp (t b l:Int):Prop where
 ok:zcV t b l
 t1:t≤100
 b4:b≤4
 l3:l≤3
 cm:cnt t b l≤1000
theorem zge {b l st r:Int} (b0:0≤b) (b4:b≤4) (l0:0≤l) (l3:l≤3) (s0:0≤st) (s6:st≤6) (r0:0≤r) (r1:r<l+1):Jp (b+st*(l+1)+r) b l:=by
 have m0:0≤st*(l+1):=Int.mul_nonneg s0 (by omega)
 have m1:st*(l+1)≤6*4:=Int.mul_le_mul s6 (by omega) (by omega) (by decide)
 refine⟨zeW b0 (by omega) (by omega) (by omega) l0 (by omega),by omega,b4,l3,?_⟩
 rw [zed l0 s0 r0 r1]
 have:=zfh ⟨st.toNat,by omega⟩ ⟨b.toNat,by omega⟩
 rw [show (((⟨st.toNat,by omega⟩:Fin 7).val:Nat):Int)=st by show ((st.toNat:Nat):Int)=st;omega,show (((⟨b.toNat,by omega⟩:Fin 5).val:Nat):Int)=b by show ((b.toNat:Nat):Int)=b;omega] at this
 exact this
theorem zgf {t b l:Int} (t0:0≤t) (tb:t<b) (b4:b≤4) (l0:0≤l) (l3:l≤3):Jp t b l:=by
 refine⟨zeW (by omega) (by omega) t0 (by omega) l0 (by omega),by omega,b4,l3,?_⟩
 unfold cnt
 rw [if_pos tb]
 decide
theorem zhg {t l:Int} (t0:0≤t) (t1:t≤100) (l0:0≤l) (l3:l≤3):Jp t 0 l:=by
 refine⟨zeW (by omega) (by omega) t0 (by omega) l0 (by omega),t1,by omega,l3,?_⟩
 unfold cnt
 rw [if_neg (by omega),ZM]
 decide
theorem zk9:∀(ys:List V),(∀(i:Nat) (v:V),ys[i]?=some v→∃c,c∈sg∧v=.str (Vw c))→∃l:List Nat,l.length=ys.length∧(∀c∈l,c∈sg)∧ys=(l.map Vw).map V.str
 | [],_=>⟨[],rfl,(fun _ z=>nomatch z),rfl⟩
 | y::ys,f=>by
  obtain⟨c,hc,e⟩:=f 0 y rfl
  obtain⟨l,ll,hl,e2⟩:=zk9 ys fun i v hv=>f (i+1) v (by simpa using hv)
  refine⟨c::l,by simp [ll],fun z hz=>?_,by rw [e,e2];rfl⟩
  rcases List.mem_cons.mp hz with rfl | hz
  ·exact hc
  ·exact hl z hz
theorem zlU (n:Nat):(Builtin.Str.strSliceIndices none (some 8) 1 n).length≤8:=by
 unfold Builtin.Str.strSliceIndices sliceRange
 simp only [show (1:Int) > 0 by decide,if_true,List.length_map,List.length_range]
 split <;> (try split) <;> (try simp only [Int.ediv_one]) <;> omega
theorem zfi (x:Str):(Txt.slice x none (some 8)).length≤8:=by
 unfold Txt.slice
 have h:=zlU x.length
 split
 ·rename_i z
  simp only [Bool.and_eq_true,beq_iff_eq] at z
  omega
 ·show (List.filterMap _ _).toArray.size≤8
  rw [List.size_toArray]
  exact Nat.le_trans (List.length_filterMap_le _ _) h
theorem zhh (d:Int):∃c,atI ("A0.,-_\t!":Str).cps.toList (d % 8)=some c:=by
 have h:∀k:Fin 8,(atI ("A0.,-_\t!":Str).cps.toList (k.val:Int)).isSome=true:=by decide +kernel
 have:=h ⟨(d % 8).toNat,by omega⟩
 rw [show (((⟨(d % 8).toNat,by omega⟩:Fin 8).val:Nat):Int)=d % 8 by show (((d % 8).toNat:Nat):Int)=d % 8;omega] at this
 exact Option.isSome_iff_exists.mp this
section
noncomputable def zgg:Sp:=fun vs H Q _=>∃c:Int,vs=[.int c]∧∀(p:Addr) (a b d:Str) (H':Hp),Same H H'→H' p=some (.lst [.str a,.str b,.str d])→zK a→zK b→zK d→Q (.ref p) H'
theorem zfj:∀st∈Wr,st.length≤7:=by decide +kernel
theorem Ze:FnScope ["cell","stem","place"] ["cell"] (defScope j9):=⟨rfl,rfl,rfl,by decide +kernel,rfl,by decide +kernel,by decide +kernel⟩
theorem zfk (D:Def K mg "_law_names" j9 ["cell"]) (T:Txt K mg) (zf:Fn P w K mg base 1 "_law_drawn" ["cell","k"] zcN):Fn P w K mg base 2 "_law_names" ["cell"] zgg:=by
 refine D.fn Ze (fun vs H Q E h=>?_) (fun f cdv A outer s H vs Q E hr h=>?_)
 ·obtain⟨c,rfl,_⟩:=h
  rfl
 ·obtain⟨cell,rfl,q⟩:=h
  refine⟨_,(pss_cons (ps_set (i:=1) Ze.nd rfl (Or.inr rfl) (pe_ix ix_list (pe_lst (pa_cons pe_str (pa_cons pe_str (pa_cons pe_str (pa_cons pe_str pa_nil))))) (pe_op zF (zq zf (hr.mono (by decide)) (by rfl) (pa_cons (pv 0) (pa_cons pe_int pa_nil))) pe_int) (fun _ _=>rfl)))
   (pss_cons (ps_set (i:=2) Ze.nd rfl (Or.inr rfl) (pe_op zF (zq zf (hr.mono (by decide)) (by rfl) (pa_cons (pv 0) (pa_cons pe_int pa_nil))) (pe_op zx (pe_callB call_len_str (by rfl) T.z_len xQ (pa_cons (pv 1) pa_nil)) pe_int)))
   (pss_one (ps_ret (jT (own:=["sign"]) (fr:=["stem","place"]) (ix:=[1,2]) rfl ⟨rfl,rfl,rfl,rfl,rfl,rfl⟩ (pi_list (pe_lst (pa_cons pe_str (pa_cons pe_str (pa_cons pe_str pa_nil))))) (fun _ _ _ _ _=>(pg_name (i:=0) (show (["sign","stem","place"]:List Str).Nodup by decide +kernel) rfl (Or.inl rfl))) (fun _ _ _ _ _=>qJ) (fun _ _ _ _ _=>(pe_op op_add_str (pe_op op_add_str (pe_slice K3 (pv 1) po_none (po_some (pv 2))) (pv 0)) (pe_slice K3 (pv 1) (po_some (pv 2)) po_none)))))))),?_⟩
  refine⟨(by show 4≤sizeLine;decide),fun p0 hp0=>?_⟩
  have s0:Same H (upd H p0 (.lst [V.str "",V.str "ab",V.str "aaaaaaa",V.str "zz"])):=Same.new hp0
  have h0:(upd H p0 (.lst [V.str "",V.str "ab",V.str "aaaaaaa",V.str "zz"])) p0=some (.lst [V.str "",V.str "ab",V.str "aaaaaaa",V.str "zz"]):=upd_same
  generalize upd H p0 (.lst [V.str "",V.str "ab",V.str "aaaaaaa",V.str "zz"])=H0 at s0 h0 ⊢
  refine⟨_,rfl,cell,0,rfl,by decide,fun d0 d00 d01=>⟨_,_,rfl,rfl,(by decide),?_⟩⟩
  obtain⟨st,hst,e0⟩:∃st∈Wr,atI [V.str "",V.str "ab",V.str "aaaaaaa",V.str "zz"] (d0 % 4)=some (V.str st):=by
   rcases (by omega:d0 % 4=0∨d0 % 4=1∨d0 % 4=2∨d0 % 4=3) with z | z | z | z
   ·exact⟨"",by simp [Wr],by rw [z];rfl⟩
   ·exact⟨"ab",by simp [Wr],by rw [z];rfl⟩
   ·exact⟨"aaaaaaa",by simp [Wr],by rw [z];rfl⟩
   ·exact⟨"zz",by simp [Wr],by rw [z];rfl⟩
  have sl:=zfj st hst
  have fit:st.length≤sizeLine:=by rw [sizeLine_eq];omega
  refine⟨_,_,_,_,rfl,rfl,SqL.of h0,e0,?_⟩
  refine⟨_,rfl,cell,1,rfl,by decide,fun d1 d10 d11=>⟨_,rfl,st,rfl,fit,_,_,rfl,rfl,_,_,rfl,rfl,by omega,?_⟩⟩
  have k0:=Int.emod_nonneg d1 (show (st.length:Int)+1≠0 by omega)
  have k1:=Int.emod_lt_of_pos d1 (show 0<(st.length:Int)+1 by omega)
  generalize d1 % ((st.length:Int)+1)=k at k0 k1 ⊢
  have gd:∀sgn∈([("a":Str),"b","q"]:List Str),zK (Txt.slice st none (some k)++sgn++Txt.slice st (some k) none):=fun sgn hs=>by
   have:=zef st hst ⟨k.toNat,by omega⟩ (by show k.toNat≤_;omega) sgn hs
   rw [show ((⟨k.toNat,by omega⟩:Fin 8).val:Int)=k by show ((k.toNat:Nat):Int)=k;omega] at this
   exact zgd this
  refine⟨(by show 3≤sizeLine;decide),fun p1 hp1=>?_⟩
  have s1:Same H0 (upd H0 p1 (.lst [V.str "a",V.str "b",V.str "q"])):=Same.new hp1
  have h1:(upd H0 p1 (.lst [V.str "a",V.str "b",V.str "q"])) p1=some (.lst [V.str "a",V.str "b",V.str "q"]):=upd_same
  generalize upd H0 p1 (.lst [V.str "a",V.str "b",V.str "q"])=H1 at s1 h1 ⊢
  have sll:(Txt.slice st none (some k)).length≤7∧(Txt.slice st (some k) none).length≤7:=by
   have h:=(gd "a" (by simp)).le
   rw [← zN,jD,jD,List.length_append,List.length_append,zN,zN,zN,show ("a":Str).length=1 by decide +kernel] at h
   omega
  refine⟨p1,rfl,⟨_,SqL.of h1⟩,fun acc hacc=>xH (K:=K) (a:=p1) (xs:=[V.str "a",V.str "b",V.str "q"]) (fun i=>V.str (Txt.slice st none (some k)++([("a":Str),"b","q"].getD i "")++Txt.slice st (some k) none)) (SqL.of h1) hacc (by show 3≤sizeLine;decide) (fun i v H6 R hx s6 hR=>?_) ?_⟩
  ·obtain⟨sgn,e1,el,rfl⟩:∃sgn:Str,([("a":Str),"b","q"].getD i "")=sgn∧sgn.length=1∧v=.str sgn:=by
    match i with
    | 0=>cases hx;exact⟨"a",rfl,by decide +kernel,rfl⟩
    | 1=>cases hx;exact⟨"b",rfl,by decide +kernel,rfl⟩
    | 2=>cases hx;exact⟨"q",rfl,by decide +kernel,rfl⟩
    | i+3=>simp at hx
   rw [e1] at hR
   have f1:(Txt.slice st none (some k)).length+sgn.length≤sizeLine:=by rw [sizeLine_eq];omega
   have f2:(Txt.slice st none (some k)++sgn).length+(Txt.slice st (some k) none).length≤sizeLine:=by rw [← zN,jD,List.length_append,zN,zN,sizeLine_eq];omega
   exact⟨rfl,_,rfl,_,rfl,_,rfl,st,rfl,fit,_,rfl,_,_,rfl,rfl,f1,_,rfl,_,rfl,_,rfl,st,rfl,fit,_,_,rfl,rfl,f2,hR⟩
  ·exact q acc _ _ _ _ ((s0.trans s1).put hacc) upd_same (gd _ (by simp)) (gd _ (by simp)) (gd _ (by simp))
noncomputable def zfl:Sp:=fun vs H Q _=>∃c:Int,vs=[.int c]∧∀(p:Addr) (t b l:Int) (H':Hp),Same H H'→H' p=some (.tup [.int t,.int b,.int l])→Jp t b l→Q (.ref p) H'
theorem kW:FnScope ["cell","bells","late","turns"] ["cell"] (defScope xf):=⟨rfl,rfl,rfl,by decide +kernel,rfl,by decide +kernel,by decide +kernel⟩
theorem zfm (D:Def K mg "_law_frame" xf ["cell"]) (T:Txt K mg) (zf:Fn P w K mg base 1 "_law_drawn" ["cell","k"] zcN):Fn P w K mg base 2 "_law_frame" ["cell"] zfl:=by
 refine D.fn kW (fun vs H Q E h=>?_) (fun f cdv A outer s H vs Q E hr h=>?_)
 ·obtain⟨c,rfl,_⟩:=h
  rfl
 ·obtain⟨cell,rfl,q⟩:=h
  refine⟨_,(pss_cons (ps_set (i:=1) kW.nd rfl (Or.inl rfl) (pe_op zx pe_int (pe_op zF (zq zf (hr.mono (by decide)) (by rfl) (pa_cons (pv 0) (pa_cons pe_int pa_nil))) pe_int)))
   (pss_cons (ps_set (i:=2) kW.nd rfl (Or.inl rfl) (pe_op zF (zq zf (hr.mono (by decide)) (by rfl) (pa_cons (pv 0) (pa_cons pe_int pa_nil))) pe_int))
   (pss_cons (ps_set (i:=3) kW.nd rfl (Or.inl rfl) (pe_op zx (pe_op zx (pv 1) (pe_op qY (pe_op zF (zq zf (hr.mono (by decide)) (by rfl) (pa_cons (pv 0) (pa_cons pe_int pa_nil))) pe_int) (pe_op zx (pv 2) pe_int))) (pe_op zF (zq zf (hr.mono (by decide)) (by rfl) (pa_cons (pv 0) (pa_cons pe_int pa_nil))) (pe_op zx (pv 2) pe_int))))
   (pss_cons (ps_if (pt_cmpR jG (pe_op zF (zq zf (hr.mono (by decide)) (by rfl) (pa_cons (pv 0) (pa_cons pe_int pa_nil))) pe_int) pe_int (nomark _))
    (pss_one (ps_ret (pe_tup (pa_cons (pv 3) (pa_cons pe_int (pa_cons (pv 2) pa_nil))))))
    pss_nil)
   (pss_cons (ps_if (pt_cmpR jG (pe_op zF (zq zf (hr.mono (by decide)) (by rfl) (pa_cons (pv 0) (pa_cons pe_int pa_nil))) pe_int) pe_int (nomark _))
    (pss_one (ps_ret (pe_tup (pa_cons (pe_op zF (zq zf (hr.mono (by decide)) (by rfl) (pa_cons (pv 0) (pa_cons pe_int pa_nil))) (pv 1)) (pa_cons (pv 1) (pa_cons (pv 2) pa_nil))))))
    pss_nil)
   (pss_one (ps_ret (pe_tup (pa_cons (pv 3) (pa_cons (pv 1) (pa_cons (pv 2) pa_nil))))))))))),?_⟩
  refine⟨_,rfl,cell,2,rfl,by decide,fun d2 d20 d21=>⟨_,_,rfl,rfl,(by decide),_,_,rfl,rfl,?_⟩⟩
  have b1:1≤1+d2 % 4∧1+d2 % 4≤4:=by omega
  generalize 1+d2 % 4=b at b1 ⊢
  refine⟨_,rfl,cell,4,rfl,by decide,fun d4 d40 d41=>⟨_,_,rfl,rfl,(by decide),?_⟩⟩
  have l1:0≤d4 % 4∧d4 % 4≤3:=by omega
  generalize d4 % 4=l at l1 ⊢
  refine⟨_,rfl,_,rfl,cell,6,rfl,by decide,fun d6 d60 d61=>⟨_,_,rfl,rfl,(by decide),_,rfl,_,_,rfl,rfl,_,_,rfl,rfl,⟨10,10,zP (by omega) (by omega),zP (by omega) (by omega),by decide⟩,_,_,rfl,rfl,_,rfl,cell,9,rfl,by decide,fun d9 d90 d91=>⟨_,rfl,_,_,rfl,rfl,_,_,rfl,rfl,by omega,_,_,rfl,rfl,?_⟩⟩⟩
  have st:0≤d6 % 7∧d6 % 7≤6:=by omega
  generalize d6 % 7=st' at st ⊢
  have r0:=Int.emod_nonneg d9 (show l+1≠0 by omega)
  have r1:=Int.emod_lt_of_pos d9 (show 0<l+1 by omega)
  generalize d9 % (l+1)=r at r0 r1 ⊢
  have F:=zge (b:=b) (by omega) (by omega) l1.1 l1.2 st.1 st.2 r0 r1
  refine⟨_,rfl,cell,8,rfl,by decide,fun d8 d80 d81=>⟨_,_,rfl,rfl,(by decide),_,_,rfl,rfl,_,rfl,ifD (fun z=>?_) (fun z=>?_)⟩⟩
  ·exact⟨_,rfl,_,rfl,(by show 3≤sizeLine;decide),fun p hp=>q p _ 0 l _ (Same.new hp) upd_same (zhg F.ok.t0 F.t1 l1.1 l1.2)⟩
  refine⟨_,rfl,cell,8,rfl,by decide,fun d8' d80' d81'=>⟨_,_,rfl,rfl,(by decide),_,_,rfl,rfl,_,rfl,ifD (fun z=>?_) (fun z=>?_)⟩⟩
  ·exact⟨_,rfl,cell,6,rfl,by decide,fun d7 d70 d71=>⟨_,rfl,_,_,rfl,rfl,by omega,_,rfl,_,rfl,(by show 3≤sizeLine;decide),fun p hp=>q p _ b l _ (Same.new hp) upd_same (zgf (Int.emod_nonneg _ (by omega)) (Int.emod_lt_of_pos _ (by omega)) b1.2 l1.1 l1.2)⟩⟩
  ·exact⟨_,rfl,_,rfl,_,rfl,(by show 3≤sizeLine;decide),fun p hp=>q p _ b l _ (Same.new hp) upd_same F⟩
noncomputable def zdb:Sp:=fun vs H Q _=>∃c:Int,vs=[.int c]∧∀(x:Str) (H':Hp),Same H H'→x.length≤200→Q (.str x) H'
theorem qQ:FnScope ["cell","signs","many","text","at"] ["cell"] (defScope vh):=⟨rfl,rfl,rfl,by decide +kernel,rfl,by decide +kernel,by decide +kernel⟩
theorem zgh (D:Def K mg "_law_text" vh ["cell"]) (T:Txt K mg) (zf:Fn P w K mg base 1 "_law_drawn" ["cell","k"] zcN):Fn P w K mg base 2 "_law_text" ["cell"] zdb:=by
 refine D.fn qQ (fun vs H Q E h=>?_) (fun f cdv A outer s H vs Q E hr h=>?_)
 ·obtain⟨c,rfl,_⟩:=h
  rfl
 ·obtain⟨cell,rfl,q⟩:=h
  refine⟨_,(pss_cons (ps_set (i:=1) qQ.nd rfl (Or.inr rfl) pe_str)
   (pss_cons (ps_set (i:=2) qQ.nd rfl (Or.inl rfl) (pe_op zF (zq zf (hr.mono (by decide)) (by rfl) (pa_cons (pv 0) (pa_cons pe_int pa_nil))) pe_int))
   (pss_cons (ps_if (pt_cmpR xG (pe_op zF (zq zf (hr.mono (by decide)) (by rfl) (pa_cons (pv 0) (pa_cons pe_int pa_nil))) pe_int) pe_int (nomark _))
    (pss_one (ps_set (i:=2) qQ.nd rfl (Or.inl rfl) (pe_op zF (pv 2) pe_int)))
    pss_nil)
   (pss_cons (ps_if (pt_cmpR jG (pe_op zF (zq zf (hr.mono (by decide)) (by rfl) (pa_cons (pv 0) (pa_cons pe_int pa_nil))) pe_int) pe_int (nomark _))
    (pss_one (ps_set (i:=2) qQ.nd rfl (Or.inl rfl) (pe_op zx pe_int (pe_op zF (zq zf (hr.mono (by decide)) (by rfl) (pa_cons (pv 0) (pa_cons pe_int pa_nil))) pe_int))))
    pss_nil)
   (pss_cons (ps_set (i:=3) qQ.nd rfl (Or.inl rfl) (pe_bm PySem.F.plainAttrs_str PySem.F.slot_str_join PySem.F.type_str_join ZQ pe_str (pa_cons (jT (own:=["k"]) (fr:=["signs","cell"]) (ix:=[1,0]) rfl ⟨rfl,rfl,rfl,rfl,rfl,rfl⟩ (pi_range1 (by rfl) T.z_range (pa_cons (pv 2) pa_nil)) (fun _ _ _ _ _=>(pg_name (i:=0) (show (["k","signs","cell"]:List Str).Nodup by decide +kernel) rfl (Or.inl rfl))) (fun _ _ _ _ _=>qJ) (fun _ _ _ _ _=>(pe_ix ix_str (pv 1) (pe_op zF (zq zf (hr.mono (by decide)) (by rfl) (pa_cons (pv 2) (pa_cons (pe_op zx pe_int (pv 0)) pa_nil))) pe_int) (fun _ _=>rfl)))) pa_nil)))
   (pss_cons (ps_if (pt_cmpR jG (pe_op zF (zq zf (hr.mono (by decide)) (by rfl) (pa_cons (pv 0) (pa_cons pe_int pa_nil))) pe_int) pe_int (nomark _))
    (pss_cons (ps_set (i:=4) qQ.nd rfl (Or.inl rfl) (pe_op zF (zq zf (hr.mono (by decide)) (by rfl) (pa_cons (pv 0) (pa_cons pe_int pa_nil))) (pe_op zx (pe_callB call_len_str (by rfl) T.z_len xQ (pa_cons (pv 3) pa_nil)) pe_int)))
    (pss_one (ps_set (i:=3) qQ.nd rfl (Or.inl rfl) (pe_op op_add_str (pe_op op_add_str (pe_slice K3 (pv 3) po_none (po_some (pv 4))) (pe_ix ix_str pe_str (pe_op zF (zq zf (hr.mono (by decide)) (by rfl) (pa_cons (pv 0) (pa_cons pe_int pa_nil))) pe_int) (fun _ _=>rfl))) (pe_slice K3 (pv 3) (po_some (pe_op zx (pv 4) pe_int)) po_none)))))
    pss_nil)
   (pss_one (ps_ret (pv 3))))))))),?_⟩
  refine⟨_,rfl,cell,13,rfl,by decide,fun d3 d30 d31=>⟨_,_,rfl,rfl,(by decide),?_⟩⟩
  have m0:0≤d3 % 21∧d3 % 21≤61:=by omega
  generalize d3 % 21=many at m0 ⊢
  dsimp only [gName]
  refine Vk (fun σ' H'=>∃m:Int,σ'=[some (.int cell),some (.str SG),some (.int m),none,none]∧H'=H∧0≤m∧m≤61) ?_ (fun N hN=>?_)
  rotate_left
  ·exact⟨_,rfl,cell,14,rfl,by decide,fun d4 d40 d41=>⟨_,_,rfl,rfl,(by decide),_,_,rfl,rfl,_,rfl,ifD (fun z=>⟨_,rfl,_,_,rfl,rfl,(by decide),hN _ _ ⟨_,rfl,rfl,by omega,by omega⟩⟩) (fun z=>hN _ _ ⟨many,rfl,rfl,m0.1,m0.2⟩)⟩⟩
  clear m0 many
  rintro σ' H' ⟨many,rfl,rfl,m0⟩
  refine Vk (fun σ' H''=>∃m:Int,σ'=[some (.int cell),some (.str SG),some (.int m),none,none]∧H''=H'∧0≤m∧m≤61) ?_ (fun N hN=>?_)
  rotate_left
  ·exact⟨_,rfl,cell,14,rfl,by decide,fun d4 d40 d41=>⟨_,_,rfl,rfl,(by decide),_,_,rfl,rfl,_,rfl,ifD (fun z=>⟨_,rfl,cell,13,rfl,by decide,fun d5 d50 d51=>⟨_,_,rfl,rfl,(by decide),_,_,rfl,rfl,hN _ _ ⟨_,rfl,rfl,by omega,by omega⟩⟩⟩) (fun z=>hN _ _ ⟨many,rfl,rfl,m0.1,m0.2⟩)⟩⟩
  clear m0 many
  rintro σ' H'' ⟨many,rfl,rfl,m0⟩
  refine⟨rfl,_,rfl,many,rfl,by omega,by omega,fun acc hacc=>Qt (lo:=0) (n:=many.toNat) (fun _ v=>∃c,c∈sg∧v=.str (Vw c)) hacc (Nat.le_of_lt (small1000 (by omega))) ?_ ?_⟩
  ·intro i H6 R hi s6 hR
   refine⟨rfl,_,rfl,_,rfl,_,rfl,_,_,rfl,rfl,cell,_,rfl,zg (zP (m:=64) (by omega) (by omega)) (by decide),fun d d0 d1=>⟨_,_,rfl,rfl,(by decide),SG,_,sg.getD (d % 27).toNat 0,rfl,rfl,Wo,zhc zc2 (by decide) d,hR _ _ (Same.refl _) ⟨_,zhd (fun k=>(ze2 k).2) d,rfl⟩⟩⟩
  intro ys H2 s2 hY yl yp
  obtain⟨l,ll,hl,rfl⟩:=zk9 ys yp
  refine⟨"",acc,l.map Vw,rfl,rfl,SqL.of hY,zax (by omega),?_⟩
  rw [join_ones]
  have x61:(tx l).length≤61:=by rw [zc5];omega
  generalize tx l=x at x61 ⊢
  have fit:x.length≤sizeLine:=by rw [sizeLine_eq];omega
  dsimp only [gName]
  refine Vk (fun σ' H'=>∃(y:Str) (v4:Option V),σ'=[some (.int cell),some (.str SG),some (.int many),some (.str y),v4]∧H'=H2∧y.length≤200) ?_ (fun N hN=>?_)
  ·rintro σ' H' ⟨y,v4,rfl,rfl,yl⟩
   exact⟨_,rfl,q y _ s2 yl⟩
  refine⟨_,rfl,cell,15,rfl,by decide,fun d5 d50 d51=>⟨_,_,rfl,rfl,(by decide),_,_,rfl,rfl,_,rfl,ifD (fun z=>?_) (fun z=>hN _ _ ⟨x,none,rfl,rfl,by omega⟩)⟩⟩
  refine⟨_,rfl,cell,16,rfl,by decide,fun d6 d60 d61=>⟨_,rfl,x,rfl,fit,_,_,rfl,rfl,_,_,rfl,rfl,by omega,?_⟩⟩
  generalize d6 % ((x.length:Int)+1)=k
  have sa:=Txt.slice_le x none (some k)
  have sb:=Txt.slice_le x (some (k+1)) none
  refine⟨_,rfl,_,rfl,_,rfl,x,rfl,fit,_,rfl,cell,17,rfl,by decide,fun d7 d70 d71=>⟨_,_,rfl,rfl,(by decide),?_⟩⟩
  obtain⟨c,hc⟩:=zhh d7
  have c1:(⟨#[c]⟩:Str).length=1:=rfl
  refine⟨_,_,c,rfl,rfl,(by rw [sizeLine_eq];decide +kernel),hc,_,_,rfl,rfl,by rw [c1,sizeLine_eq];omega,_,rfl,_,rfl,_,_,rfl,rfl,_,rfl,x,rfl,fit,_,_,rfl,rfl,by rw [kJ,c1,sizeLine_eq];omega,hN _ _ ⟨_,_,rfl,rfl,by rw [kJ,kJ,c1];omega⟩⟩
end
section
open PySem.Spec PyProof.Rows PySem.SeqAt
variable {X:Cx}
theorem yh {xs:List V} (ok:∀v∈xs,okF v=true):shaped (.tuple (xs.map dV))=true:=by
 have h1:=K4 xs
 have h2:PyData.depth (.tuple (xs.map dV))≤64:=by simp only [PyData.depth];omega
 show (PyData.canLay0 (.tuple (xs.map dV)) && decide (PyData.depth (.tuple (xs.map dV))≤64))=true
 rw [Bool.and_eq_true]
 exact⟨by simp only [PyData.canLay0];exact VR ok,decide_eq_true h2⟩
theorem KD {pins:List (Addr×Obj)}{σ:L2.St}{H:Hp}{s:Shared} (I:Inv X pins σ H s){a:Addr}{xs:List V} (h:SqT X.K H a xs) (ok:∀v∈xs,okF v=true):∃bs,Reads s.heap (.ref a) (.tuple (xs.map dV)) bs:=by
 obtain⟨its,r,⟨o,ho,hc,n,hd⟩,z⟩:=I.tuple h
 exact⟨_,.tuple ho hc hd (by simpa using Js r ok)⟩
noncomputable def Zf (x:Str):Prop:=∀c∈cpl x,c<1114112
noncomputable def zla:R2:=fun x y H Q=>∃(a b:Addr) (i j:Str),x=.ref a∧y=.ref b∧H a=some (.tup [.str i,.str j])∧H b=some (.tup [.str i,.str j])∧Zf i∧Zf j∧Q (.bl true) H
theorem KH {x:Str} (h:Zf x):okF (.str x)=true:=by
 show (x.cps.all (·<0x110000))=true
 rw [Array.all_eq_true']
 intro c hc
 exact decide_eq_true (h c (Array.mem_toList_iff.mpr hc))
theorem KJ (hu:X.A.units+64<cLine):OpR X (compareOp .Eq) zla:=by
 intro pins s σ H x y v u Q I rx ry h
 obtain⟨a,b,i,j,rfl,rfl,h1,h2,o1,o2,q⟩:=h
 cases rx;cases ry
 have ok:∀v∈[V.str i,V.str j],okF v=true:=fun v hv=>by
  rcases List.mem_cons.mp hv with rfl | hv
  ·exact KH o1
  ·rw [List.mem_singleton.mp hv];exact KH o2
 obtain⟨_,r1⟩:=KD I (SqT.of h1) ok
 obtain⟨_,r2⟩:=KD I (SqT.of h2) ok
 refine eq_dataH_same r1 r2 (yh ok) (yh ok) hu ?_ ?_
 ·simp [noMix,noMixAll,dV]
 ·rw [show PySem.Spec.same (.tuple ([V.str i,V.str j].map dV)) (.tuple ([V.str i,V.str j].map dV))=true by simp [PySem.Spec.same,PySem.Spec.sameAll,dV]]
  exact⟨.bl _,H,I,rfl,q⟩
noncomputable def zlb:R2:=fun x y H Q=>∃(a b:Addr) (i j:Str),x=.ref a∧y=.ref b∧H a=some (.tup [.str i,.str j])∧H b=some (.tup [.str i,.str j])∧Zf i∧Zf j∧Q (.bl false) H
theorem zgi (hu:X.A.units+64<cLine):OpR X (compareOp .NotEq) zlb:=by
 intro pins s σ H x y v u Q I rx ry h
 obtain⟨a,b,i,j,rfl,rfl,h1,h2,o1,o2,q⟩:=h
 cases rx;cases ry
 have ok:∀v∈[V.str i,V.str j],okF v=true:=fun v hv=>by
  rcases List.mem_cons.mp hv with rfl | hv
  ·exact KH o1
  ·rw [List.mem_singleton.mp hv];exact KH o2
 obtain⟨_,r1⟩:=KD I (SqT.of h1) ok
 obtain⟨_,r2⟩:=KD I (SqT.of h2) ok
 refine ne_dataH_same r1 r2 (yh ok) (yh ok) hu ?_ ?_
 ·simp [noMix,noMixAll,dV]
 ·rw [show PySem.Spec.same (.tuple ([V.str i,V.str j].map dV)) (.tuple ([V.str i,V.str j].map dV))=true by simp [PySem.Spec.same,PySem.Spec.sameAll,dV]]
  exact⟨.bl _,H,I,rfl,q⟩
end
theorem zdI:∀{l:List (List Nat)},(∀x∈l,∀c∈x,c<1114112)→∀c∈yd 32 l,c<1114112
 | [],_,c,h=>absurd h (by simp [yd])
 | [x],hx,c,h=>hx x (by simp) c h
 | x::y::r,hx,c,h=>by
  have h:c∈x++32::yd 32 (y::r):=h
  rcases List.mem_append.mp h with h | h
  ·exact hx x (by simp) c h
  rcases List.mem_cons.mp h with rfl | h
  ·decide
  ·exact zdI (fun z hz=>hx z (List.mem_cons_of_mem _ hz)) c h
theorem Ws {n:Int} (h:0≤n):Zf (txt n):=fun c hc=>by
 obtain⟨m,rfl⟩:∃m:Nat,n=(m:Int):=⟨n.toNat,by omega⟩
 have:=zaT m c hc
 omega
theorem zdc {ns:List Int} (h:∀n∈ns,0≤n):Zf (ZF ns):=by
 unfold ZF
 split
 ·unfold Zf;decide +kernel
 ·intro c hc
  rw [Jm] at hc
  refine zdI (fun x hx=>?_) c hc
  obtain⟨y,hy,rfl⟩:=List.mem_map.mp hx
  obtain⟨n,hn,rfl⟩:=List.mem_map.mp hy
  exact Ws (h n hn)
theorem Wt {x y:Str} (h1:Zf x) (h2:Zf y):Zf (x++y):=fun c hc=>by
 rw [jD] at hc
 exact(List.mem_append.mp hc).elim (h1 c) (h2 c)
theorem Jo:Zf "told":=by unfold Zf;decide +kernel
theorem Z9:Zf "refused":=by unfold Zf;decide +kernel
theorem zbs:∀i:Fin 5,Zf (kdN i):=fun i=>by
 have:∀i:Fin 5,(cpl (kdN i)).all (fun c=>decide (c<1114112))=true:=by decide +kernel
 intro c hc
 exact of_decide_eq_true (List.all_eq_true.mp (this i) c hc)
theorem Jv:Zf "messages ":=by unfold Zf;decide +kernel
theorem zeg:Zf "note ":=by unfold Zf;decide +kernel
theorem zgj {l:List Nat} (h:∀c∈l,c∈sg):Zf (tx l):=fun c hc=>by
 rw [show cpl (tx l)=l from zbn l] at hc
 have:∀c∈sg,c<1114112:=by decide
 exact this c (h c hc)
theorem Wu {s:Str}{limit free:Nat}{f:Array Nat}:∀(k i m:Nat),(∀j,i≤j→j<i+k→∃c,(cpl s)[j]?=some c∧c≠32)→forIn (m:=Id) (List.range' i (k+m)) (f,free) (StrLaws.occBody s sp s.length limit)=forIn (m:=Id) (List.range' (i+k) m) (f,free) (StrLaws.occBody s sp s.length limit)
 | 0,i,m,_=>by rw [Nat.zero_add,Nat.add_zero]
 | k+1,i,m,h=>by
  obtain⟨c,h1,h2⟩:=h i (Nat.le_refl _) (by omega)
  rw [show k+1+m=(k+m)+1 by omega,List.range'_succ,zfa h1 h2,Wu k (i+1) m fun j h1 h2=>h j (by omega) (by omega),show i+1+k=i+(k+1) by omega]
theorem zhi (nm x:Str):cpl ((("note "++nm)++" ")++x)=([110,111,116,101,32]++cpl nm)++32::cpl x:=by
 rw [jD,jD,jD,zg9,show cpl ("note ":Str)=[110,111,116,101,32] by decide +kernel]
 simp only [List.append_assoc,List.cons_append,List.nil_append]
noncomputable def NtO (o nm x:Str):Prop:=cpl o=([110,111,116,101,32]++cpl nm)++32::cpl x
theorem zdd {o nm x:Str} (e:NtO o nm x):o.length=6+nm.length+x.length:=by
 rw [← zN,e]
 simp only [List.length_append,List.length_cons,List.length_nil,zN]
 omega
theorem zhj {o nm x:Str} (e:NtO o nm x) (hw:Qp nm):Builtin.Str.occurrences o sp 0 o.length 2=[4,5+nm.length]:=by
 rw [StrLaws.occ_eq]
 have el:=zdd e
 have e:cpl o=([110,111,116,101,32]++cpl nm)++32::cpl x:=e
 have g1:∀j,0≤j→j<0+4→∃c,(cpl o)[j]?=some c∧c≠32:=fun j _ hj=>by
  rw [e,List.getElem?_append_left (by rw [List.length_append];show j<5+_;omega),List.getElem?_append_left (by show j<5;omega)]
  match j,hj with
  | 0,_=>exact⟨110,rfl,by decide⟩
  | 1,_=>exact⟨111,rfl,by decide⟩
  | 2,_=>exact⟨116,rfl,by decide⟩
  | 3,_=>exact⟨101,rfl,by decide⟩
 have g2:(cpl o)[4]?=some 32:=by
  rw [e,List.getElem?_append_left (by rw [List.length_append];show 4<5+_;omega),List.getElem?_append_left (by decide)]
  rfl
 have g3:∀j,5≤j→j<5+nm.length→∃c,(cpl o)[j]?=some c∧c≠32:=fun j h1 h2=>by
  have hl:j-5<(cpl nm).length:=by rw [zN];omega
  rw [e,List.getElem?_append_left (by rw [List.length_append,zN];show j<5+_;omega),List.getElem?_append_right (by show 5≤j;omega)]
  refine⟨_,List.getElem?_eq_getElem hl,fun z=>hw ?_⟩
  have:=List.getElem_mem hl
  rwa [z] at this
 have g4:(cpl o)[5+nm.length]?=some 32:=by
  rw [e,List.getElem?_append_right (by rw [List.length_append,zN];exact Nat.le_refl _),List.length_append,zN]
  show (32::cpl x)[5+nm.length-(5+nm.length)]?=some 32
  rw [Nat.sub_self]
  rfl
 have er:o.length+1-0=4+((nm.length+(x.length+1+1))+1):=by omega
 rw [er,Wu 4 0 _ g1,show 0+4=4 from rfl,List.range'_succ,zdE (by decide) (by decide) g2,show 4+1=5 from rfl,Wu nm.length 5 _ g3,List.range'_succ,zdE (by decide) (by omega) g4,zcl _ _ _ _ _ _ (by simp)]
 rfl
theorem zgk {o nm x:Str} (e:NtO o nm x) (hw:Qp nm):Txt.splitMax o " " 2=[("note":Str),nm,x]:=by
 have el:=zdd e
 have hk:=zfb o
 have hl:sp.length=1:=by decide +kernel
 unfold Txt.splitMax
 rw [zcX,if_neg (by simp only [Bool.or_eq_true,decide_eq_true_eq];omega)]
 have lo:limitOf o 2=2:=by
  unfold limitOf
  simp
 rw [lo,zhj e hw,if_neg (by simp),StrLaws.partsBetween_eq]
 show [Builtin.Str.strSub o 0 4,Builtin.Str.strSub o (4+sp.length) (5+nm.length),Builtin.Str.strSub o (5+nm.length+sp.length) o.length]=_
 have e:cpl o=([110,111,116,101,32]++cpl nm)++32::cpl x:=e
 have l5:([110,111,116,101,32]++cpl nm:List Nat).length=5+nm.length:=by rw [List.length_append,zN];rfl
 have a1:Builtin.Str.strSub o 0 4="note":=yR (by rw [zbq,e,List.append_assoc];show _=cpl ("note":Str);rw [show cpl ("note":Str)=[110,111,116,101] by decide +kernel];rfl)
 have a2:Builtin.Str.strSub o (4+sp.length) (5+nm.length)=nm:=yR (by rw [zbq,e,hl,List.take_left' l5];rfl)
 have a3:Builtin.Str.strSub o (5+nm.length+sp.length) o.length=x:=yR (by
  rw [zbq,hl,List.take_of_length_le (by rw [zN];exact Nat.le_refl _),e,← List.drop_drop,List.drop_left' l5]
  rfl)
 rw [a1,a2,a3]
theorem zfn {o nm x:Str} (e:NtO o nm x) (hw:Qp nm):Txt.split o " "=("note":Str)::nm::Txt.split x sp:=by
 have eo:o=Txt.join " " (("note":Str)::nm::Txt.split x sp):=by
  apply yR
  rw [Vq (by simp),Vq (K6 x sp),zcX,zbO,e,show cpl ("note":Str)=[110,111,116,101] by decide +kernel]
  simp only [List.append_assoc,List.cons_append,List.nil_append]
 rw [eo]
 exact Vr zga hw (zcE x)
theorem zgl {K:W.Frag}{CR:Addr}{rd:List Int}{t b l:Int} (F:Jp t b l) (b1:1≤b) (c3:3≤cnt t b l) (rl:rd.length≤1000) (few:Few t b l rd.length):∃o:Option (List Nat),(∀cs,o=some cs→(∀c∈cs,c∈sg)∧cs.length≤60) ∧
  ∀(a:Addr) (H:Hp) (Q:VK) (E:XK),SqL K H a (rd.map V.int)→(∀cs,o=some cs→∀H',Same H H'→Q (.str (tx cs)) H')→(o=none→∀H',Same H H'→E (.ref CR) none H')→zc9 K CR [.ref a,.int t,.int b,.int l] H Q E:=by
 obtain⟨n,hg,hz,hn⟩:=zk7 (rd:=rd) (t:=t) (l:=l) b1
 have l0:=F.ok.l0
 have t0:=F.ok.t0
 have tb:intBits t≤100:=zP t0 (by have:=F.t1;omega)
 have lb:intBits l≤100:=zP l0 (by have:=F.l3;omega)
 have bt:b≤t:=by
  by_cases z:t<b
  ·unfold cnt at c3
   rw [if_pos z] at c3
   omega
  ·omega
 have n1:=Nat.mul_le_mul_left n (show 1≤b.toNat by omega)
 have R:zhf rd t b l n:=⟨rl,by omega,by have:=F.b4;omega,l0,lb,by omega,t0,tb,by omega,hg⟩
 by_cases g:GoodR t b l (grp (t+l) (n:Int) rd)
 ·have fb:∀x∈(List.range n).map (fun i=>jg t l rd i-1),0≤x∧x<cnt t b l-1:=fun x hx=>by
   obtain⟨i,hi,rfl⟩:=List.mem_map.mp hx
   obtain⟨g1,g2⟩:=hg i (List.mem_range.mp hi)
   have h1:=vG (vX l (grp (t+l) (i:Int) rd)) (vX l (grp (t+l) (i:Int) rd)).length
   have h2:Zy (vX l (grp (t+l) (i:Int) rd))=jF (vX l (grp (t+l) (i:Int) rd)) (vX l (grp (t+l) (i:Int) rd)).length:=rfl
   have h3:=g1.2.2
   unfold jg at g2 ⊢
   omega
  have v0:=yD (show 0≤cnt t b l-1 by omega) _ (fun x hx=>(fb x hx).1)
  have v1:=zeZ (show 1≤cnt t b l-1 by omega) _ fb
  rw [List.length_map,List.length_range] at v1
  have v2:=few n hn
  generalize ev:val (cnt t b l-1) ((List.range n).map fun i=>jg t l rd i-1)=v at v0 v1
  refine⟨some (chs v.toNat).reverse,fun cs e=>?_,fun a H Q E hS q1 _=>⟨a,rd,t,b,l,n,rfl,hS,R,fun _=>⟨hz g,c3,by rw [ev];omega,fun H' s=>by rw [ev];exact q1 _ rfl H' s⟩,fun z=>absurd g z⟩⟩
  cases e
  exact⟨fun c hc=>ze3 _ c (List.mem_reverse.mp hc),by rw [List.length_reverse];exact zbm (by omega)⟩
 ·exact⟨none,(fun _ e=>nomatch e),fun a H Q E hS _ q2=>⟨a,rd,t,b,l,n,rfl,hS,R,fun z=>absurd z g,fun _=>q2 rfl⟩⟩
section
variable {CD CF CO CN CR:Addr}
noncomputable def zfo (CF CR:Addr) (RC:Sp):Sp:=fun vs H Q E=>∃(r p:Addr) (t b l:Int),vs=[.ref r,.ref p]∧zd5 CF H p t b l∧zcV t b l∧(cnt t b l<3→E (.ref CR) none H)∧(3≤cnt t b l→RC [.ref r,.int t,.int b,.int l] H Q (fun C _ H2=>E C none H2))
theorem Yj:FnScope ["reading","frame"] ["reading","frame"] (defScope j7):=⟨rfl,rfl,rfl,by decide +kernel,rfl,by decide +kernel,by decide +kernel⟩
theorem Yk (D:Def K mg "note_heard" j7 ["reading","frame"]) (T:Txt K mg) (hT:DkT K CD CF){za:Addr}{RC:Sp} (zJ:mg "NoReading"=some (.ref za)) (zW:W.excIn K za bmV "ValueError.__new__"=true){qX:Tok} (z8:mg "LEAST_COUNT"=some (.int 3 qX)) (kh:Fn P w K mg base 3 "count_of" ["frame"] (Vn CF)) (xU:FnE P w K mg base 5 "received" ["reading","turns","bells","late"] RC):FnE P w K mg base 6 "note_heard" ["reading","frame"] (zfo CF za RC):=by
 refine D.fnE Yj (fun vs H Q E h=>?_) (fun f cdv A outer s H vs Q E hr h=>?_)
 ·obtain⟨r,p,t,b,l,rfl,_⟩:=h
  rfl
 ·obtain⟨r,p,t,b,l,rfl,ip,ok,q0,q⟩:=h
  refine⟨_,(pss_cons (ps_if (pt_cmpR yV (zq kh (hr.mono (by decide)) (by rfl) (pa_cons (pv 1) pa_nil)) (pe_glob (v:=.int 3) (by rfl) z8 ⟨_,rfl⟩) (nomark _))
    (pss_one (qi PySem.F.excBase_ValueError zW (by rfl) zJ (pa_cons pe_str pa_nil)))
    pss_nil)
   (pss_one (ps_ret (qu xU (hr.mono (by decide)) (by rfl) zQ (pa_cons (pv 0) (pa_cons (pe_fld (pv 1) rfl) (pa_cons (pe_fld (pv 1) rfl) (pa_cons (pe_fld (pv 1) rfl) pa_nil)))))))),?_⟩
  have ip':=ip
  obtain⟨pdx,hp⟩:=ip
  exact⟨_,rfl,p,t,b,l,rfl,ip',ok,_,_,rfl,rfl,_,rfl,ifD (fun z=>⟨(by decide),q0 z⟩) (fun z=>⟨_,rfl,_,rfl,p,CF,pdx,_,_,rfl,hp,hT.cf,hT.n1,Wh ..,_,rfl,p,CF,pdx,_,_,rfl,hp,hT.cf,hT.n2,Wi ..,_,rfl,p,CF,pdx,_,_,rfl,hp,hT.cf,hT.n3,zbb ..,q (by omega)⟩)⟩
end
section
variable {K:W.Frag}{CD CF CO CN CR:Addr}{NH SN:Sp}{x d:Addr}{n:Nat}{fr:Str→Option (Int×Int×Int)}{H:Hp}{Q:VK}{E:XK}
theorem zgm:Qp "hear":=by unfold Qp;decide +kernel
abbrev spD (K:W.Frag) (CD CF CO CN:Addr) (NH SN:Sp):Sp:=zcW CD CO (zbf CD CF CO) (fun _ _ _ _=>False) (Vp CD CF CN NH) (zbg K CD CF CO CN SN) (fun _ _ _ _=>False)
theorem zaB {o nm nt:Str} (e:NtO o nm nt) (hD:qd CD CF x d n fr H) (g:zK nm) (nl:nt.length≤1000)
  (q1:fr nm=none→∀H',Same H H'→E (.ref CN) none H')
  (q2:∀t b l,fr nm=some (t,b,l)→∀H',Same H H'→SN [.str nt,.int t,.int b,.int l] H' (fun v H2=>wN K [v] H2 Q E0) (fun C _ H2=>E C none H2)):spD K CD CF CO CN NH SN [.ref x,.str o] H Q E:=by
 obtain⟨dx,hx⟩:=hD.self
 have hl:=zdd e
 have gl:=g.le
 refine⟨x,dx,d,_,"note",nm::Txt.split nt sp,rfl,hx,by rw [hl,sizeLine_eq];omega,zfn e (Jh g),fun z=>?_,fun z=>?_,fun z=>?_,fun _ _=>?_,fun _ _ _ z=>?_⟩
 ·exact absurd z (by decide +kernel)
 ·exact absurd z (by decide +kernel)
 ·exact absurd z (by decide +kernel)
 ·rw [zgk e (Jh g)]
  refine⟨(by show 3≤sizeLine;decide),fun a H' s h=>?_⟩
  exact⟨x,a,d,n,fr,"note",nm,nt,rfl,hD.mono s,h,by omega,fun z=>absurd g z,fun _ z H2 s2=>q1 z H2 (s.trans s2),fun _ t b l e H2 s2=>q2 t b l e H2 (s.trans s2)⟩
 ·refine absurd ⟨rfl,?_⟩ z
  have:=K6 nt sp
  cases h:Txt.split nt sp with
  | nil=>exact absurd h this
  | cons y r=>simp
theorem zaC {nm:Str}{ms:List Int} (hD:qd CD CF x d n fr H) (g:zK nm) (ml:ms.length≤1000) (mb:∀y∈ms,0≤y∧y<10 ^ 60) (pw:ms.Pairwise (·≤·))
  (q1:fr nm=none→∀H',Same H H'→E (.ref CN) none H')
  (q2:∀t b l,fr nm=some (t,b,l)→∀r p H',Same H H'→H' r=some (.lst (ms.map V.int))→zd5 CF H' p t b l→NH [.ref r,.ref p] H' (fun v H2=>∃i j:Str,V.str "note "=.str i∧v=.str j∧i.length+j.length≤sizeLine∧Q (.str (i++j)) H2) (fun C _ H2=>E C none H2)):spD K CD CF CO CN NH SN [.ref x,.str (Txt.join " " ("hear"::nm::ms.map txt))] H Q E:=by
 obtain⟨dx,hx⟩:=hD.self
 have gl:=g.le
 have mb5:∀y∈ms,0≤y∧y<10 ^ 500:=fun y hy=>⟨(mb y hy).1,Int.lt_of_lt_of_le (mb y hy).2 zg8⟩
 have vm:=zcg fun y hy=>(mb y hy).1
 have gt:=zd8 mb pw
 refine⟨x,dx,d,_,"hear",nm::ms.map txt,rfl,hx,zbj (by decide +kernel) (by omega) ml mb5,Vr zgm (Jh g) (zau fun y hy=>(mb y hy).1),fun z=>?_,fun z=>?_,fun _ _ a H' s h=>?_,fun z=>?_,fun _ _ z=>?_⟩
 ·exact absurd z (by decide +kernel)
 ·exact absurd z (by decide +kernel)
 ·refine⟨x,a,d,n,fr,nm,ms.map txt,rfl,hD.mono s,h,g,gt,by rw [List.length_map];omega,fun y hy=>?_,fun z H2 s2=>q1 z H2 (s.trans s2),fun t b l e r p H2 s2 hr ip=>?_⟩
  ·obtain⟨u,hu,rfl⟩:=List.mem_map.mp hy
   exact Nat.le_trans (ZJ (mb5 u hu).1 (mb5 u hu).2) (by decide)
  rw [vm] at hr
  exact q2 t b l e r p H2 (s.trans s2) hr ip
 ·exact absurd z (by decide +kernel)
 ·refine absurd ⟨.inr (.inr rfl),?_⟩ z
  simp
end
theorem X5 (K:W.Frag):W.kitOne K (.type "str") (.type "list")=some false:=by with_unfolding_all rfl
theorem kd2:kdN 2="NoReading":=by decide +kernel
noncomputable def Wv (x:Str) (t b l:Int) (i:Fin 5):Prop:=(¬yE x∧i=3)∨(yE x∧¬(1≤b∧b≤t)∧i=4)∨(yE x∧1≤b∧b≤t∧cnt t b l<3∧i=1)
theorem zde {x:Str}{t b l:Int}{i j:Fin 5} (h1:Wv x t b l i) (h2:Wv x t b l j):i=j:=by
 rcases h1 with ⟨a,rfl⟩ | ⟨a,a2,rfl⟩ | ⟨a,a1,a2,a3,rfl⟩ <;> rcases h2 with ⟨b,rfl⟩ | ⟨b,b2,rfl⟩ | ⟨b,b1,b2,b3,rfl⟩ <;> first | rfl | exact absurd b a | exact absurd a b | exact absurd ⟨b1,b2⟩ a2 | exact absurd ⟨a1,a2⟩ b2
theorem zgn {x:Str}{t b l:Int} {ys ys':List Int}{bss zhk:List (List Int)} (S:zc7 x t b l ys bss) (S':zc7 x t b l ys' zhk) (c3:3≤cnt t b l):bss=zhk:=by
 have e:=zck (show 2≤cnt t b l-1 by omega) ys ys' S.bd S'.bd S.last S'.last (S.num.trans S'.num.symm)
 subst e
 apply List.ext_getElem
 ·rw [S.len,S'.len]
 ·intro i h1 h2
  have hm:i<(ys.map (·+1)++[0]).length:=by rw [List.length_append,List.length_map];have:=S.len;show i<ys.length+1;omega
  obtain⟨g1,g2,g3⟩:=S.box i _ _ (List.getElem?_eq_getElem h1) (List.getElem?_eq_getElem hm)
  obtain⟨k1,k2,k3⟩:=S'.box i _ _ (List.getElem?_eq_getElem h2) (List.getElem?_eq_getElem hm)
  exact zeK g1 k1 (g2.trans k2.symm) (g3.trans k3.symm)
theorem Vy {x:Str}{t b l:Int}{ys:List Int}{bss:List (List Int)} (S:zc7 x t b l ys bss) (g:yE x) (b1:1≤b) (bt:b≤t) (l0:0≤l) (c3:3≤cnt t b l) :
  ys.length≤300∧(xT (t+l) l 0 bss).length=(ys.length+1)*b.toNat∧∀y∈xT (t+l) l 0 bss,0≤y∧y<301*(t+l):=by
 have nb:=zgK g.1 g.2
 have zk5:ys.length≤300:=zbo (by omega) S.bd S.last (by rw [S.num];exact nb.2)
 have ml:(ys.map (·+1)++[0]).length=bss.length:=by rw [S.len,List.length_append,List.length_map];rfl
 have hall:∀bs∈bss,jd bs∧bs.length=b.toNat∧Zy bs<cnt t b l:=fun bs hbs=>by
  obtain⟨i,hi⟩:=List.getElem?_of_mem hbs
  have il:=(List.getElem?_eq_some_iff.mp hi).1
  have hm:(ys.map (·+1)++[0])[i]?=some (ys.map (·+1)++[0])[i]:=List.getElem?_eq_getElem (by rw [ml];exact il)
  obtain⟨g1,g2,g3⟩:=S.box i bs _ hi hm
  refine⟨g1,g2,?_⟩
  rw [g3]
  rcases List.mem_append.mp (List.mem_of_getElem? hm) with z | z
  ·obtain⟨y,hy,e⟩:=List.mem_map.mp z
   have:=S.bd y hy
   omega
  ·rw [List.mem_singleton.mp z];omega
 have hbl:∀bs∈bss,∀y∈qO l bs,0≤y∧y<t:=fun bs hbs y hy=>by
  obtain⟨g1,g2,g3⟩:=hall bs hbs
  exact zfU (turns:=t) g1 l0 (by rw [g2,show ((b.toNat:Nat):Int)=b by omega];exact g3) y hy
 refine⟨zk5,?_,fun y hy=>?_⟩
 ·rw [zay bss 0 fun bs hbs=>(hall bs hbs).2.1,S.len]
 ·have h1:=zcm (L:=t+l) (by omega) bss 0 (fun bs hbs z hz=>by have:=hbl bs hbs z hz;omega) y hy
  have h2:(0+(bss.length:Int))*(t+l)≤301*(t+l):=Int.mul_le_mul_of_nonneg_right (by rw [S.len];omega) (by omega)
  omega
section
noncomputable def zbt:Sp:=fun vs H Q _=>∃(x:Str) (p:Addr) (t b l:Int),vs=[.str x,.ref p]∧H p=some (.tup [.int t,.int b,.int l])∧Jp t b l∧x.length≤900 ∧
 (yE x→1≤b→b≤t→3≤cnt t b l→∀a ys bss H',Same H H'→H' a=some (.lst ((xT (t+l) l 0 bss).map V.int))→zc7 x t b l ys bss→Q (.ref a) H')∧(∀i H',Same H H'→Wv x t b l i→Q (.str (kdN i)) H')
theorem jX:FnScope ["text","frame","caught","found","e"] ["text","frame"] (defScope vz):=⟨rfl,rfl,rfl,by decide +kernel,rfl,by decide +kernel,by decide +kernel⟩
theorem zfp (D:Def K mg "_law_sent" vz ["text","frame"]) (T:Txt K mg){S:Cs}{zm zp zG zj:Addr} (eb:S.be=zm) (z6:mg "BellError"=some (.ref zm)) (z7:W.excIn K zm bmV "ValueError.__new__"=true) (F3:XF K S zp 3) (F4:XF K S zG 4) (F1:XF K S zj 1) (qP:Fn P w K mg base 1 "_law_kind" ["e"] (zfe K S)) (Jk:FnE P w K mg base 42 "sent" ["note","turns","bells","late"] (XQ zp zG zj)):Fn P w K mg base 43 "_law_sent" ["text","frame"] zbt:=by
 refine D.fn jX (fun vs H Q E h=>?_) (fun f cdv A outer s H vs Q E hr h=>?_)
 ·obtain⟨x,p,t,b,l,rfl,_⟩:=h
  rfl
 ·obtain⟨x,p,t,b,l,rfl,hp,F,xl,q1,q2⟩:=h
  refine⟨_,(pss_cons (ps_set (i:=2) jX.nd rfl (Or.inl rfl) pe_non)
   (pss_cons (ps_set (i:=3) jX.nd rfl (Or.inl rfl) pe_non)
   (pss_cons (zaS (i:=4) rfl rfl jX.nd rfl rfl rfl (by rfl) z6 z7 (by decide) (fun pn xe G hx=>(pss_one (ps_set (i:=3) jX.nd rfl (Or.inl rfl) (qu Jk (hr.mono (by decide)) (by rfl) hx (pa_cons (pv 0) (pa_cons (pe_ix (Kp K) (pv 1) pe_int (fun _ _=>rfl)) (pa_cons (pe_ix (Kp K) (pv 1) pe_int (fun _ _=>rfl)) (pa_cons (pe_ix (Kp K) (pv 1) pe_int (fun _ _=>rfl)) pa_nil)))))))) (fun x=>(pss_one (ps_set (i:=2) jX.nd rfl (Or.inl rfl) (pv 4)))))
   (pss_cons (ps_if (pt_cmpR op_isN (pv 2) pe_non (nomark _))
    (pss_one (ps_ret (pv 3)))
    pss_nil)
   (pss_one (ps_ret (zq qP (hr.mono (by decide)) (by rfl) (pa_cons (pv 2) pa_nil)))))))),?_⟩
  have A1:=SqT.of (K:=K) hp
  have tb:intBits t≤100:=zP F.ok.t0 (by have:=F.t1;omega)
  have lb:intBits l≤100:=zP F.ok.l0 (by have:=F.l3;omega)
  refine⟨_,rfl,_,rfl,p,_,0,_,rfl,rfl,A1,rfl,_,rfl,p,_,1,_,rfl,rfl,A1,rfl,_,rfl,p,_,2,_,rfl,rfl,A1,rfl,x,t,b,l,rfl,(by rw [show x.cps.toList=cpl x from rfl,zN];exact xl),F.ok.b0,F.ok.b1,F.ok.l0,lb,F.ok.t0,tb,fun ng=>?_,fun g ns=>?_,fun g b1 bt c=>?_,fun g b1 bt c3 a ys bss H1 s1 h1 S=>⟨_,rfl,rfl,_,rfl,iteT ⟨_,rfl,q1 g b1 bt c3 a ys bss H1 s1 h1 S⟩⟩⟩
  ·refine⟨zp,bmV,_,rfl,F3.ex,by decide,eb ▸ F3.mr,fun y hy=>⟨_,rfl,_,rfl,rfl,_,rfl,iteF ⟨_,rfl,y,zp,3,rfl,upd_same,F3,fun H3 s3=>q2 3 H3 ((Same.new hy).trans s3) (.inl ⟨ng,rfl⟩)⟩⟩⟩
  ·refine⟨zG,bmV,_,rfl,F4.ex,by decide,eb ▸ F4.mr,fun y hy=>⟨_,rfl,_,rfl,rfl,_,rfl,iteF ⟨_,rfl,y,zG,4,rfl,upd_same,F4,fun H3 s3=>q2 4 H3 ((Same.new hy).trans s3) (.inr (.inl ⟨g,ns,rfl⟩))⟩⟩⟩
  ·refine⟨zj,bmV,_,rfl,F1.ex,by decide,eb ▸ F1.mr,fun y hy=>⟨_,rfl,_,rfl,rfl,_,rfl,iteF ⟨_,rfl,y,zj,1,rfl,upd_same,F1,fun H3 s3=>q2 1 H3 ((Same.new hy).trans s3) (.inr (.inr ⟨g,b1,bt,c,rfl⟩))⟩⟩⟩
structure zgo (K:W.Frag) (CR:Addr) (RC:Sp) (rd:List Int) (t b l:Int) (o:Option (List Nat)):Prop where
 sg:∀cs,o=some cs→(∀c∈cs,c∈sg)∧cs.length≤60
 run:∀(a:Addr) (H:Hp) (Q:VK) (E:XK),SqL K H a (rd.map V.int)→(∀cs,o=some cs→∀H',Same H H'→Q (.str (tx cs)) H')→(o=none→∀H',Same H H'→E (.ref CR) none H')→RC [.ref a,.int t,.int b,.int l] H Q E
noncomputable def zlV:Option (List Nat)→List V
 | none=>[.str "refused",.str (kdN 2)]
 | some cs=>[.str "told",.str ("note "++tx cs)]
noncomputable def zfq (K:W.Frag) (CR:Addr) (RC:Sp):Sp:=fun vs H Q _=>∃(a p:Addr) (rd:List Int) (t b l:Int) (o:Option (List Nat)),vs=[.ref a,.ref p]∧SqL K H a (rd.map V.int)∧H p=some (.tup [.int t,.int b,.int l])∧Jp t b l∧(b=0∨b > t∨cnt t b l<3→o=none)∧(1≤b→3≤cnt t b l→zgo K CR RC rd t b l o)∧∀p' H',Same H H'→H' p'=some (.tup (zlV o))→Q (.ref p') H'
theorem nt5:("note ":Str).length=5:=by decide +kernel
theorem zU:FnScope ["reading","frame","turns","bells","late","caught","found","e"] ["reading","frame"] (defScope jb):=⟨rfl,rfl,rfl,by decide +kernel,rfl,by decide +kernel,by decide +kernel⟩
theorem zgp (D:Def K mg "_law_received" jb ["reading","frame"]) (T:Txt K mg){S:Cs}{zm za:Addr}{RC:Sp} (eb:S.be=zm) (z6:mg "BellError"=some (.ref zm)) (z7:W.excIn K zm bmV "ValueError.__new__"=true) (F2:XF K S za 2) (qP:Fn P w K mg base 1 "_law_kind" ["e"] (zfe K S)) (zA:Fn P w K mg base 2 "box_count" ["turns","bells","late"] yf) (xU:FnE P w K mg base 5 "received" ["reading","turns","bells","late"] RC):Fn P w K mg base 6 "_law_received" ["reading","frame"] (zfq K za RC):=by
 refine D.fn zU (fun vs H Q E h=>?_) (fun f cdv A outer s H vs Q E hr h=>?_)
 ·obtain⟨a,p,rd,t,b,l,o,rfl,_⟩:=h
  rfl
 ·obtain⟨a,p,rd,t,b,l,o,rfl,hS,hp,F,on,oo,q⟩:=h
  refine⟨_,(pss_cons (ps_asg (pv 1) (pg_tup (n:=3) rfl (pgs_cons (pg_name (i:=2) zU.nd rfl (Or.inl rfl)) (pgs_cons (pg_name (i:=3) zU.nd rfl (Or.inl rfl)) (pgs_cons (pg_name (i:=4) zU.nd rfl (Or.inl rfl)) pgs_nil)))))
   (pss_cons (ps_if (pw_or (pt_cmpR jG (pv 3) pe_int (nomark _)) (pw_or (pt_cmpR xG (pv 3) (pv 2) (nomark _)) (pw_or1 (pt_cmpR yV (zq zA (hr.mono (by decide)) (by rfl) (pa_cons (pv 2) (pa_cons (pv 3) (pa_cons (pv 4) pa_nil)))) pe_int (nomark _))))).pt
    (pss_one (ps_ret (pe_tup (pa_cons pe_str (pa_cons pe_str pa_nil)))))
    pss_nil)
   (pss_cons (ps_set (i:=5) zU.nd rfl (Or.inl rfl) pe_non)
   (pss_cons (ps_set (i:=6) zU.nd rfl (Or.inl rfl) pe_non)
   (pss_cons (zaS (i:=7) rfl rfl zU.nd rfl rfl rfl (by rfl) z6 z7 (by decide) (fun pn xe G hx=>(pss_one (ps_set (i:=6) zU.nd rfl (Or.inl rfl) (qu xU (hr.mono (by decide)) (by rfl) hx (pa_cons (pv 0) (pa_cons (pv 2) (pa_cons (pv 3) (pa_cons (pv 4) pa_nil)))))))) (fun x=>(pss_one (ps_set (i:=5) zU.nd rfl (Or.inl rfl) (pv 7)))))
   (pss_cons (ps_if (pt_cmpR op_isN (pv 5) pe_non (nomark _))
    (pss_one (ps_ret (pe_tup (pa_cons pe_str (pa_cons (pe_op op_add_str pe_str (pv 6)) pa_nil)))))
    pss_nil)
   (pss_one (ps_ret (pe_tup (pa_cons pe_str (pa_cons (zq qP (hr.mono (by decide)) (by rfl) (pa_cons (pv 5) pa_nil)) pa_nil))))))))))),?_⟩
  have tb:=Qy F.ok.t0 F.ok.t1
  have lb:=Qy F.ok.l0 F.ok.l1
  have b0:=F.ok.b0
  have b4:=F.b4
  refine⟨_,rfl,p,_,rfl,SqT.of hp,rfl,_,_,rfl,_,_,rfl,_,_,rfl,rfl,?_⟩
  refine(fun(G:o=none→_)=>⟨_,rfl,_,_,rfl,rfl,_,rfl,ifD (fun z=>G (on (.inl z))) (fun z=>⟨_,rfl,_,rfl,_,_,rfl,rfl,_,rfl,ifD (fun z2=>G (on (.inr (.inl z2)))) (fun z2=>⟨_,rfl,_,rfl,_,rfl,t,b,l,rfl,b0,by omega,F.ok.l0,zg lb (by decide),zg tb (by decide),_,_,rfl,rfl,_,rfl,ifD (fun z3=>G (on (.inr (.inr z3)))) (fun z3=>?_)⟩)⟩)⟩) (fun e=>?_)
  ·refine⟨(by show 2≤sizeLine;decide),fun p' hp'=>q p' _ (Same.new hp') ?_⟩
   rw [e,upd_same]
   show some (HO.tup [.str "refused",.str "NoReading"])=some (HO.tup [.str "refused",.str (kdN 2)])
   rw [kd2]
  clear G
  have R:=oo (by omega) (by omega)
  refine⟨_,rfl,_,rfl,_,rfl,_,rfl,R.run a _ _ _ hS (fun cs e H1 s1=>?_) (fun e H1 s1=>?_)⟩
  ·have cl:=(R.sg cs e).2
   refine⟨_,rfl,rfl,_,rfl,iteT ⟨_,rfl,_,_,rfl,rfl,(by rw [nt5,zc5,sizeLine_eq];omega),(by show 2≤sizeLine;decide),fun p' hp'=>q p' _ (s1.put hp') ?_⟩⟩
   rw [e,upd_same]
   rfl
  ·refine⟨za,bmV,_,rfl,F2.ex,by decide,eb ▸ F2.mr,fun y hy=>⟨_,rfl,_,rfl,rfl,_,rfl,iteF ⟨_,rfl,y,za,2,rfl,upd_same,F2,fun H3 s3=>⟨(by show 2≤sizeLine;decide),fun p' hp'=>q p' _ (((s1.put hy).trans s3).put hp') ?_⟩⟩⟩⟩
   rw [e,upd_same]
   rfl
end
theorem zaD {x:Str}{t b l:Int}{i:Fin 5} (h:Wv x t b l i) (g:yE x) (b1:1≤b) (bt:b≤t) (c3:3≤cnt t b l):False:=by
 rcases h with ⟨a,_⟩ | ⟨_,a,_⟩ | ⟨_,_,_,a,_⟩
 ·exact a g
 ·exact a ⟨b1,bt⟩
 ·omega
theorem bl1:(" ":Str).length=1:=by decide +kernel
section
variable {CD CF CO CN C1 C2 C3:Addr}{NH:Sp}{S:Cs}
theorem zaE {x d:Addr}{n:Nat}{fr:Str→Option (Int×Int×Int)}{nm nt:Str}{t b l:Int}{H:Hp} (hD:qd CD CF x d n fr H) (g:zK nm) (ef:fr nm=some (t,b,l)) (F:Jp t b l) (nl:nt.length≤900) (F3:XF K S C1 3) (F4:XF K S C2 4) (F1:XF K S C3 1) :
  zgc (spD K CD CF CO CN NH (XQ C1 C2 C3)) [.ref x,.str ((("note "++nm)++" ")++nt)] H (fun v H'=>yE nt∧1≤b∧b≤t∧3≤cnt t b l∧∃ys bss,Same H H'∧zc7 nt t b l ys bss∧v=.str (ZF (xT (t+l) l 0 bss))) (fun C H'=>Same H H'∧∃C' i,C=.ref C'∧XF K S C' i∧Wv nt t b l i):=by
 intro Q' E' qa qr
 have t1:=F.t1
 have l3:=F.l3
 have b4:=F.b4
 have tb:intBits t≤100:=zP F.ok.t0 (by omega)
 have lb:intBits l≤100:=zP F.ok.l0 (by omega)
 refine zaB (zhi nm nt) hD g (by omega) (fun z=>by rw [ef] at z;cases z) (fun t' b' l' z H1 s1=>?_)
 rw [ef] at z
 cases z
 refine⟨nt,t,b,l,rfl,(by rw [show nt.cps.toList=cpl nt from rfl,zN];exact nl),F.ok.b0,F.ok.b1,F.ok.l0,lb,F.ok.t0,tb,fun ng=>qr _ _ ⟨s1,C1,3,rfl,F3,.inl ⟨ng,rfl⟩⟩,fun gt ns=>qr _ _ ⟨s1,C2,4,rfl,F4,.inr (.inl ⟨gt,ns,rfl⟩)⟩,fun gt b1 bt c=>qr _ _ ⟨s1,C3,1,rfl,F1,.inr (.inr ⟨gt,b1,bt,c,rfl⟩)⟩,fun gt b1 bt c3 a ys bss H2 s2 h2 S=>?_⟩
 obtain⟨yl,rl,rb⟩:=Vy S gt b1 bt F.ok.l0 c3
 have r4:=Nat.mul_le_mul (show ys.length+1≤301 by omega) (show b.toNat≤4 by omega)
 exact⟨a,xT (t+l) l 0 bss,rfl,SqL.of h2,by omega,fun y hy=>by have:=rb y hy;omega,fun H3 s3=>qa _ _ ⟨gt,b1,bt,c3,ys,bss,s1.trans (s2.trans s3),S,rfl⟩⟩
noncomputable def zdJ (CD CF:Addr):Sp:=fun vs H Q _=>∃(x d p:Addr) (n:Nat) (fr:Str→Option (Int×Int×Int)) (nm:Str) (cell t b l:Int),vs=[.ref x,.str nm,.ref p,.int cell]∧qd CD CF x d n fr H∧zK nm∧fr nm=some (t,b,l)∧H p=some (.tup [.int t,.int b,.int l])∧Jp t b l∧∀H',Same H H'→Q (.bl true) H'
theorem vM:FnScope ["desk","name","frame","cell","text","found","due"] ["desk","name","frame","cell"] (defScope vA):=⟨rfl,rfl,rfl,by decide +kernel,rfl,by decide +kernel,by decide +kernel⟩
theorem zfr (D:Def K mg "_law_note" vA ["desk","name","frame","cell"]) (T:Txt K mg) (F3:XF K S C1 3) (F4:XF K S C2 4) (F1:XF K S C3 1) (xV:Fn P w K mg base 2 "_law_text" ["cell"] zdb) (xW:Fn P w K mg base 43 "_law_sent" ["text","frame"] zbt) (qp:Fn P w K mg base 47 "_law_told" ["desk","order"] (KC K S CD (spD K CD CF CO CN NH (XQ C1 C2 C3)))):Fn P w K mg base 48 "_law_note" ["desk","name","frame","cell"] (zdJ CD CF):=by
 refine D.fn vM (fun vs H Q E h=>?_) (fun f cdv A outer s H vs Q E hr h=>?_)
 ·obtain⟨x,d,p,n,fr,nm,cell,t,b,l,rfl,_⟩:=h
  rfl
 ·obtain⟨x,d,p,n,fr,nm,cell,t,b,l,rfl,hD,g,ef,hp,F,q⟩:=h
  have hu:=zfC hr
  have gl:=g.le
  have t1:=F.t1
  have l3:=F.l3
  have b4:=F.b4
  refine⟨_,(pss_cons (ps_set (i:=4) vM.nd rfl (Or.inl rfl) (zq xV (hr.mono (by decide)) (by rfl) (pa_cons (pv 3) pa_nil)))
   (pss_cons (ps_set (i:=5) vM.nd rfl (Or.inl rfl) (zq xW (hr.mono (by decide)) (by rfl) (pa_cons (pv 4) (pa_cons (pv 2) pa_nil))))
   (pss_cons (ps_set (i:=6) vM.nd rfl (Or.inl rfl) (pe_tup (pa_cons pe_str (pa_cons (pv 5) pa_nil))))
   (pss_cons (ps_if (pt_val (pe_callB jH (by rfl) T.z_isinstance zM (pa_cons (pv 5) (pa_cons (pe_bltn (v:=.ty "list") (by rfl) T.z_list zcq rfl) pa_nil))))
    (pss_one (ps_set (i:=6) vM.nd rfl (Or.inl rfl) (pe_tup (pa_cons pe_str (pa_cons (pe_bm PySem.F.plainAttrs_str PySem.F.slot_str_join PySem.F.type_str_join ZQ pe_str (pa_cons (jT (own:=["turn"]) (fr:=[]) (ix:=[]) rfl ⟨rfl,rfl,rfl,rfl,rfl,rfl⟩ (pi_list (pv 5)) (fun _ _ _ _ _=>(pg_name (i:=0) (show (["turn"]:List Str).Nodup by decide +kernel) rfl (Or.inl rfl))) (fun _ _ _ _ _=>qJ) (fun _ _ _ _ _=>(pe_callTy call_str_int (by rfl) T.z_str Jq (pa_cons (pv 0) pa_nil)))) pa_nil)) pa_nil)))))
    pss_nil)
   (pss_one (ps_ret (pe_cmpR (KJ hu) (zq qp (hr.mono (by decide)) (by rfl) (pa_cons (pv 0) (pa_cons (pe_op op_add_str (pe_op op_add_str (pe_op op_add_str pe_str (pv 1)) pe_str) (pv 4)) pa_nil))) (pv 6) (nomark _)))))))),?_⟩
  refine⟨_,rfl,cell,rfl,fun nt H1 s1 nl=>?_⟩
  refine⟨_,rfl,_,rfl,nt,p,t,b,l,rfl,s1 _ _ hp,F,by omega,fun gt b1 bt c3 a ys bss H2 s2 h2 S=>?_,fun i H2 s2 ns=>?_⟩
  ·obtain⟨yl,rl,rb⟩:=Vy S gt b1 bt F.ok.l0 c3
   have r4:=Nat.mul_le_mul (show ys.length+1≤301 by omega) (show b.toNat≤4 by omega)
   have r1:=Nat.mul_le_mul (show 1≤ys.length+1 by omega) (show 1≤b.toNat by omega)
   refine⟨_,rfl,(by show 2≤sizeLine;decide),fun pd hpd=>?_⟩
   have s3:Same H2 (upd H2 pd (.tup [V.str "refused",V.ref a])):=Same.new hpd
   generalize upd H2 pd (.tup [V.str "refused",V.ref a])=H3 at s3 ⊢
   have h3:=s3 _ _ h2
   generalize er:xT (t+l) l 0 bss=rs at rl rb h3
   have rb5:∀y∈rs,0≤y∧y<10 ^ 500:=fun y hy=>by have:=rb y hy;omega
   refine⟨_,rfl,_,_,_,true,rfl,TyOf.lst h3,Jr K,_,rfl,iteT ⟨rfl,_,rfl,a,rfl,⟨_,SqL.of h3⟩,fun ac hac=>xH (K:=K) (a:=a) (xs:=rs.map V.int) (fun i=>V.str (txt (rs.getD i 0))) (SqL.of h3) hac (by rw [List.length_map,sizeLine_eq];omega) (fun i v H6 R hx s6 hR=>?_) ?_⟩⟩
   ·rw [List.getElem?_map] at hx
    obtain⟨y,hy,rfl⟩:=Option.map_eq_some_iff.mp hx
    have yb:=rb5 y (List.mem_of_getElem? hy)
    simp only [List.getD_eq_getElem?_getD,hy,Option.getD_some] at hR
    exact⟨rfl,_,rfl,y,rfl,lg yb.1 yb.2,hR⟩
   rw [ZG rs]
   have sl:=Ji rb5
   refine⟨" ",ac,rs.map txt,rfl,rfl,SqL.of upd_same,(by rw [bl1,List.length_map];omega),(by show 2≤sizeLine;decide),fun pu hpu=>?_⟩
   have s4:=((s2.trans s3).put hac (o:=.lst ((rs.map txt).map V.str))).put hpu (o:=.tup [.str "told",.str (Txt.join " " (rs.map txt))])
   have h4:(upd (upd H3 ac (.lst ((rs.map txt).map V.str))) pu (.tup [.str "told",.str (Txt.join " " (rs.map txt))])) pu=some (.tup [.str "told",.str (Txt.join " " (rs.map txt))]):=upd_same
   generalize upd (upd H3 ac (.lst ((rs.map txt).map V.str))) pu (.tup [.str "told",.str (Txt.join " " (rs.map txt))])=H4 at s4 h4 ⊢
   have hD4:=hD.mono (s1.trans s4)
   obtain⟨dx,hx4⟩:=hD4.self
   refine⟨_,rfl,_,rfl,_,_,rfl,rfl,(by rw [nt5,sizeLine_eq];omega),_,_,rfl,rfl,(by rw [kJ,nt5,bl1,sizeLine_eq];omega),_,rfl,_,_,rfl,rfl,(by rw [kJ,kJ,nt5,bl1,sizeLine_eq];omega),x,dx,fr1 d,_,_,_,rfl,hx4,wR (by decide +kernel),zaE hD4 g ef F (by omega) F3 F4 F1,fun v H5 a5=>?_,fun C H5 r5=>?_⟩
   ·obtain⟨_,_,_,_,ys',zhk,s5,S',ev⟩:=a5
    have eb:=zgn S S' c3
    subst eb
    rw [er] at ev
    refine⟨_,ev,fun pt H6 s6 h6=>⟨_,rfl,pt,pu,_,_,rfl,rfl,h6,?_,Jo,zdc fun y hy=>(rb5 y hy).1,q H6 ((s1.trans s4).trans (s5.trans s6))⟩⟩
    rw [s6 _ _ (s5 _ _ h4)]
    unfold ZF
    rw [if_neg (fun z=>by rw [z] at rl;simp at rl;omega)]
   ·obtain⟨_,C',i,_,_,ns⟩:=r5
    exact(zaD ns gt b1 bt c3).elim
  ·refine⟨_,rfl,(by show 2≤sizeLine;decide),fun pu hpu=>?_⟩
   have s4:Same H2 (upd H2 pu (.tup [V.str "refused",V.str (kdN i)])):=Same.new hpu
   have h4:(upd H2 pu (.tup [V.str "refused",V.str (kdN i)])) pu=some (.tup [V.str "refused",V.str (kdN i)]):=upd_same
   generalize upd H2 pu (.tup [V.str "refused",V.str (kdN i)])=H4 at s4 h4 ⊢
   have hD4:=hD.mono (s1.trans (s2.trans s4))
   obtain⟨dx,hx4⟩:=hD4.self
   refine⟨_,rfl,_,_,_,false,rfl,TyOf.str _,X5 K,_,rfl,iteF ?_⟩
   refine⟨_,rfl,_,rfl,_,_,rfl,rfl,(by rw [nt5,sizeLine_eq];omega),_,_,rfl,rfl,(by rw [kJ,nt5,bl1,sizeLine_eq];omega),_,rfl,_,_,rfl,rfl,(by rw [kJ,kJ,nt5,bl1,sizeLine_eq];omega),x,dx,fr1 d,_,_,_,rfl,hx4,wR (by decide +kernel),zaE hD4 g ef F (by omega) F3 F4 F1,fun v H5 a5=>?_,fun C H5 r5=>?_⟩
   ·obtain⟨gt,b1,bt,c3,_⟩:=a5
    exact(zaD ns gt b1 bt c3).elim
   ·obtain⟨s5,C',j,eC,Fj,nj⟩:=r5
    have ej:=zde ns nj
    subst ej
    exact⟨C',i,eC,Fj,fun pt H6 s6 h6=>⟨_,rfl,pt,pu,_,_,rfl,rfl,h6,s6 _ _ (s5 _ _ h4),Z9,zbs i,q H6 ((s1.trans (s2.trans s4)).trans (s5.trans s6))⟩⟩
end
theorem zlW {t R:TS}{D:Ends}{σ:St}{H:Hp} (Pre:St→Hp→Prop) (tail:∀σ H,Pre σ H→R D σ H) (h:∀N:St→Hp→Prop,(∀σ H,Pre σ H→N σ H)→t { D with nx:=N } σ H):tSeq t R D σ H:=h (fun σ H=>R D σ H) tail
theorem zaF:∀(cs:List Int) (j:Nat),(cs.map V.int).eraseIdx j=(cs.eraseIdx j).map V.int
 | [],_=>rfl
 | _::_,0=>rfl
 | c::cs,j+1=>by
  show V.int c::(cs.map V.int).eraseIdx j=V.int c::(cs.eraseIdx j).map V.int
  rw [zaF cs j]
noncomputable def Fnd (t b l:Int) (v:V) (H:Hp):Prop:=(∃k:Str,v=.str k)∨∃(a:Addr) (rs:List Int),v=.ref a∧H a=some (.lst (rs.map V.int))∧1≤rs.length∧rs.length≤250∧(∀y∈rs,0≤y∧y<10 ^ 37)∧∀k,k≤rs.length+1→Few t b l k
theorem Fnd.mono {t b l:Int}{v:V} {H H':Hp} (s:Same H H') (h:Fnd t b l v H):Fnd t b l v H':=by
 rcases h with h | ⟨a,rs,e,h,r⟩
 ·exact .inl h
 ·exact .inr ⟨a,rs,e,s _ _ h,r⟩
theorem zgq:tops 8<2 ^ 60:=by decide +kernel
structure Cam (t b l:Int) (cs:List Int):Prop where
 le:cs.length≤300
 bd:∀y∈cs,0≤y∧y<10 ^ 40
 few:1≤b→3≤cnt t b l→Few t b l cs.length
section
variable {CD CF CO CN CR:Addr}{SN RC:Sp}{S:Cs}
theorem zfs {x d:Addr}{n:Nat}{fr:Str→Option (Int×Int×Int)}{nm:Str}{t b l:Int}{ms:List Int}{o:Option (List Nat)}{H:Hp} (hD:qd CD CF x d n fr H) (g:zK nm) (ef:fr nm=some (t,b,l)) (F:Jp t b l) (ml:ms.length≤1000) (mb:∀y∈ms,0≤y∧y<10 ^ 60) (pw:ms.Pairwise (·≤·)) (on:b=0∨b > t∨cnt t b l<3→o=none) (oo:1≤b→3≤cnt t b l→zgo K CR RC ms t b l o) :
  zgc (spD K CD CF CO CN (zfo CF CR RC) SN) [.ref x,.str (Txt.join " " ("hear"::nm::ms.map txt))] H (fun v H'=>Same H H'∧∃cs,o=some cs∧v=.str ("note "++tx cs)) (fun C H'=>Same H H'∧C=.ref CR∧o=none):=by
 intro Q' E' qa qr
 refine zaC hD g ml mb pw (fun z=>by rw [ef] at z;cases z) (fun t' b' l' z r p H1 s1 hr ip=>?_)
 rw [ef] at z
 cases z
 refine⟨r,p,t,b,l,rfl,ip,F.ok,fun c=>qr _ _ ⟨s1,rfl,on (.inr (.inr c))⟩,fun c3=>?_⟩
 by_cases b1:1≤b
 ·have R:=oo b1 c3
  refine R.run r H1 _ _ (SqL.of hr) (fun cs e H2 s2=>⟨"note ",tx cs,rfl,rfl,?_,qa _ _ ⟨s1.trans s2,cs,e,rfl⟩⟩) (fun e H2 s2=>qr _ _ ⟨s1.trans s2,rfl,e⟩)
  have:=(R.sg cs e).2
  rw [nt5,zc5,sizeLine_eq]
  omega
 ·have b0:b=0:=by have:=F.ok.b0;omega
  subst b0
  have t0:=F.ok.t0
  unfold cnt at c3
  rw [if_neg (by omega),ZM] at c3
  omega
noncomputable def zdK (CD CF:Addr):Sp:=fun vs H Q _=>∃(x d p:Addr) (n:Nat) (fr:Str→Option (Int×Int×Int)) (nm:Str) (cell t b l:Int),vs=[.ref x,.str nm,.ref p,.int cell]∧qd CD CF x d n fr H∧zK nm∧fr nm=some (t,b,l)∧H p=some (.tup [.int t,.int b,.int l])∧Jp t b l∧∀H',Same H H'→Q (.bl true) H'
theorem qT:FnScope ["desk","name","frame","cell","found","came","at","way","order"] ["desk","name","frame","cell"] (defScope vB):=⟨rfl,rfl,rfl,by decide +kernel,rfl,by decide +kernel,by decide +kernel⟩
theorem zft (D:Def K mg "_law_hear" vB ["desk","name","frame","cell"]) (T:Txt K mg) (F2:XF K S CR 2) (hRC:∀(rd:List Int) (t b l:Int),Jp t b l→1≤b→3≤cnt t b l→rd.length≤1000→Few t b l rd.length→∃o,zgo K CR RC rd t b l o) (zf:Fn P w K mg base 1 "_law_drawn" ["cell","k"] zcN) (xV:Fn P w K mg base 2 "_law_text" ["cell"] zdb) (xW:Fn P w K mg base 43 "_law_sent" ["text","frame"] zbt) (wU:Fn P w K mg base 6 "_law_received" ["reading","frame"] (zfq K CR RC)) (qp:Fn P w K mg base 47 "_law_told" ["desk","order"] (KC K S CD (spD K CD CF CO CN (zfo CF CR RC) SN))):Fn P w K mg base 48 "_law_hear" ["desk","name","frame","cell"] (zdK CD CF):=by
 refine D.fn qT (fun vs H Q E h=>?_) (fun f cdv A outer s H vs Q E hr h=>?_)
 ·obtain⟨x,d,p,n,fr,nm,cell,t,b,l,rfl,_⟩:=h
  rfl
 ·obtain⟨x,d,p,n,fr,nm,cell,t,b,l,rfl,hD,g,ef,hp,F,q⟩:=h
  have hu:=zfC hr
  have gl:=g.le
  have t1:=F.t1
  have l3:=F.l3
  have b4:=F.b4
  have l0:=F.ok.l0
  have t0:=F.ok.t0
  refine⟨_,(pss_cons (ps_set (i:=4) qT.nd rfl (Or.inr rfl) (zq xW (hr.mono (by decide)) (by rfl) (pa_cons (pe_slice K3 (zq xV (hr.mono (by decide)) (by rfl) (pa_cons (pe_op zx (pv 3) pe_int) pa_nil)) po_none (po_some pe_int)) (pa_cons (pv 2) pa_nil))))
   (pss_cons (Xo (k:=5) (own:=["k"]) (fr:=["cell"]) (ix:=[3]) rfl qT.nd rfl rfl ⟨rfl,rfl,rfl,rfl,rfl,rfl⟩ (pi_range1 (by rfl) T.z_range (pa_cons (pe_op zF (zq zf (hr.mono (by decide)) (by rfl) (pa_cons (pv 3) (pa_cons pe_int pa_nil))) pe_int) pa_nil)) (fun _ _ _ _ _=>(pg_name (i:=0) (show (["k","cell"]:List Str).Nodup by decide +kernel) rfl (Or.inl rfl))) (fun _ _ _ _ _=>qJ) (fun _ _ _ _ _=>(pe_op zF (zq zf (hr.mono (by decide)) (by rfl) (pa_cons (pv 1) (pa_cons (pe_op zx pe_int (pv 0)) pa_nil))) pe_int)))
   (pss_cons (ps_if (pw_and (pt_val (pe_callB jH (by rfl) T.z_isinstance zM (pa_cons (pv 4) (pa_cons (pe_bltn (v:=.ty "list") (by rfl) T.z_list zcq rfl) pa_nil)))) (pw_and1 (pt_cmpR xG (pe_op zF (zq zf (hr.mono (by decide)) (by rfl) (pa_cons (pv 3) (pa_cons pe_int pa_nil))) pe_int) pe_int (nomark _)))).pt
    (pss_cons (Xo (k:=5) (own:=["k"]) (fr:=["found","cell","frame"]) (ix:=[4,3,2]) rfl qT.nd rfl rfl ⟨rfl,rfl,rfl,rfl,rfl,rfl⟩ (pi_range1 (by rfl) T.z_range (pa_cons (pe_callB call_len_seq (by rfl) T.z_len xQ (pa_cons (pv 4) pa_nil)) pa_nil)) (fun _ _ _ _ _=>(pg_name (i:=0) (show (["k","found","cell","frame"]:List Str).Nodup by decide +kernel) rfl (Or.inl rfl))) (fun _ _ _ _ _=>qJ) (fun _ _ _ _ _=>(pe_op zx (pe_ix (KR K) (pv 1) (pv 0) (fun _ _=>rfl)) (pe_op zF (zq zf (hr.mono (by decide)) (by rfl) (pa_cons (pv 2) (pa_cons (pe_op zx pe_int (pv 0)) pa_nil))) (pe_op zx (pe_ix (Kp K) (pv 3) pe_int (fun _ _=>rfl)) pe_int)))))
    (pss_cons (ps_set (i:=6) qT.nd rfl (Or.inl rfl) (pe_op zF (zq zf (hr.mono (by decide)) (by rfl) (pa_cons (pv 3) (pa_cons pe_int pa_nil))) (pe_callB call_len_seq (by rfl) T.z_len xQ (pa_cons (pv 5) pa_nil))))
    (pss_cons (ps_set (i:=7) qT.nd rfl (Or.inl rfl) (pe_op zF (zq zf (hr.mono (by decide)) (by rfl) (pa_cons (pv 3) (pa_cons pe_int pa_nil))) pe_int))
    (pss_one (ps_if (pt_cmpR jG (pv 7) pe_int (nomark _))
     (pss_one (ps_asg (pe_callB (call_max2 rfl) (by rfl) T.z_max zkJ (pa_cons pe_int (pa_cons (pe_op qI (pe_op qI (pe_op zx (pe_ix ix_list (pv 5) (pv 6) (fun _ _=>rfl)) (pe_op zF (zq zf (hr.mono (by decide)) (by rfl) (pa_cons (pv 3) (pa_cons pe_int pa_nil))) (pe_op zx (pe_op qY pe_int (pe_ix ix_tup (pv 2) pe_int (fun _ _=>rfl))) pe_int))) (pe_op qY pe_int (pe_ix ix_tup (pv 2) pe_int (fun _ _=>rfl)))) pe_int) pa_nil))) (pg_sub (pv 5) (pv 6) set_list)))
     (pss_one (ps_if (pt_cmpR jG (pv 7) pe_int (nomark _))
      (pss_one (ps_expr (pe_bm PySem.F.plainAttrs_list PySem.F.slot_list_pop PySem.F.type_list_pop mt_popAt (pv 5) (pa_cons (pv 6) pa_nil))))
      (pss_one (ps_if (pt_cmpR jG (pv 7) pe_int (nomark _))
       (pss_one (ps_expr (pe_bm PySem.F.plainAttrs_list PySem.F.slot_list_append PySem.F.type_list_append mt_append (pv 5) (pa_cons (pe_ix ix_list (pv 5) (pv 6) (fun _ _=>rfl)) pa_nil))))
       pss_nil)))))))))
    pss_nil)
   (pss_cons (ps_set (i:=5) qT.nd rfl (Or.inl rfl) (pe_callB W0 (by rfl) T.z_sorted zej (pa_cons (pv 5) pa_nil)))
   (pss_cons (ps_set (i:=8) qT.nd rfl (Or.inl rfl) (pe_bm PySem.F.plainAttrs_str PySem.F.slot_str_join PySem.F.type_str_join ZQ pe_str (pa_cons (pe_op op_cat (pe_lst (pa_cons pe_str (pa_cons (pv 1) pa_nil))) (jT (own:=["turn"]) (fr:=[]) (ix:=[]) rfl ⟨rfl,rfl,rfl,rfl,rfl,rfl⟩ (pi_list (pv 5)) (fun _ _ _ _ _=>(pg_name (i:=0) (show (["turn"]:List Str).Nodup by decide +kernel) rfl (Or.inl rfl))) (fun _ _ _ _ _=>qJ) (fun _ _ _ _ _=>(pe_callTy call_str_int (by rfl) T.z_str Jq (pa_cons (pv 0) pa_nil))))) pa_nil)))
   (pss_one (ps_ret (pe_or (pe_cmpR xG (pe_callB call_len_str (by rfl) T.z_len xQ (pa_cons (pv 8) pa_nil)) pe_int (nomark _)) (pe_one (pe_cmpR (KJ hu) (zq qp (hr.mono (by decide)) (by rfl) (pa_cons (pv 0) (pa_cons (pv 8) pa_nil))) (zq wU (hr.mono (by decide)) (by rfl) (pa_cons (pv 5) (pa_cons (pv 2) pa_nil))) (nomark _))))))))))),?_⟩
  refine zlW (fun σ' H'=>∃fv,σ'=[some (.ref x),some (.str nm),some (.ref p),some (.int cell),some fv,none,none,none,none]∧Same H H'∧Fnd t b l fv H') ?_ (fun N hN=>?_)
  rotate_left
  ·refine⟨_,rfl,_,_,rfl,rfl,_,rfl,fun nt H1 s1 nl=>⟨_,rfl,nt,rfl,(by rw [sizeLine_eq];omega),_,rfl,Txt.slice nt none (some 8),p,t,b,l,rfl,s1 _ _ hp,F,(by have:=zfi nt;omega),fun gt b1 bt c3 a ys bss H2 s2 h2 S=>?_,fun i H2 s2 ns=>hN _ _ ⟨_,rfl,s1.trans s2,.inl ⟨_,rfl⟩⟩⟩⟩
   have x8:(Txt.slice nt none (some 8)).cps.toList.length≤8:=by rw [show (Txt.slice nt none (some 8)).cps.toList=cpl (Txt.slice nt none (some 8)) from rfl,zN];exact zfi nt
   generalize Txt.slice nt none (some 8)=y at gt S x8
   obtain⟨_,rl,rb⟩:=Vy S gt b1 bt l0 c3
   have hrv:∀c∈y.cps.toList.reverse,c∈sg:=fun c hc=>gt.1 c (List.mem_reverse.mp hc)
   have n1:=(QG _ hrv).2
   have n8:=Vv (show y.cps.toList.reverse.length≤8 by rw [List.length_reverse];exact x8)
   have yl:ys.length≤60:=zbo (by omega) S.bd S.last (by rw [S.num];have:=zgq;show val 27 (y.cps.toList.reverse.map dig) < _;omega)
   have r4:=Nat.mul_le_mul (show ys.length+1≤61 by omega) (show b.toNat≤4 by omega)
   have r1:=Nat.mul_le_mul (show 1≤ys.length+1 by omega) (show 1≤b.toNat by omega)
   refine hN _ _ ⟨_,rfl,s1.trans s2,.inr ⟨a,_,rfl,h2,by omega,by omega,fun z hz=>(by have:=rb z hz;omega),fun k hk=>zfd S gt x8 b1 c3 F.cm (by omega)⟩⟩
  rintro σ' H2 ⟨fv,rfl,s2,fnd⟩
  refine⟨_,rfl,cell,26,rfl,by decide,fun d6 d60 d61=>⟨_,_,rfl,rfl,(by decide),_,rfl,by omega,by omega,fun ac hac=>Qt (lo:=0) (n:=(d6 % 9).toNat) (fun _ v=>∃m:Int,v=V.int m∧0≤m∧m<10 ^ 40) hac (Nat.le_of_lt (small1000 (by omega))) (fun i H6 R' hi s6 hR=>?_) ?_⟩⟩
  ·exact⟨rfl,_,rfl,_,rfl,_,_,rfl,rfl,cell,_,rfl,zg (zP (m:=64) (by omega) (by omega)) (by decide),fun d9 d90 d91=>⟨_,_,rfl,rfl,(by decide),hR _ _ (Same.refl _) ⟨_,rfl,by omega,by omega⟩⟩⟩
  intro ys H3 s23 hC yl yp
  obtain⟨cs,rfl,cp⟩:=ints_of (Pd:=fun m=>0≤m∧m<10 ^ 40) (fun i v hv=>yp i v hv)
  rw [List.length_map] at yl
  have c8:cs.length≤8:=by omega
  have s3:=s2.trans s23
  have zlc:=fnd.mono s23
  clear fnd yp
  dsimp only [gName]
  refine Vk (fun σ' H'=>∃(a':Addr) (cs':List Int) (v6 v7:Option V),σ'=[some (.ref x),some (.str nm),some (.ref p),some (.int cell),some fv,some (.ref a'),v6,v7,none]∧Same H H'∧H' a'=some (.lst (cs'.map V.int))∧Cam t b l cs') ?_ (fun N hN=>?_)
  rotate_left
  ·have same:∀v6 v7,N [some (.ref x),some (.str nm),some (.ref p),some (.int cell),some fv,some (.ref ac),v6,v7,none] H3:=fun v6 v7=>hN _ _ ⟨ac,cs,v6,v7,rfl,s3,hC,by omega,cp,fun b1 c3=>zfc b1 c3 F.cm (by omega)⟩
   rcases zlc with ⟨k,rfl⟩ | ⟨a,rs,rfl,hF,r1,r2,rb,rf⟩
   ·exact⟨_,rfl,_,_,_,false,rfl,TyOf.str _,X5 K,_,rfl,iteF (same _ _)⟩
   refine⟨_,rfl,_,_,_,true,rfl,TyOf.lst hF,Jr K,_,rfl,iteT ⟨_,rfl,cell,25,rfl,by decide,fun d5 d50 d51=>⟨_,_,rfl,rfl,(by decide),_,_,rfl,rfl,_,rfl,ifD (fun z=>?_) (fun z=>same _ _)⟩⟩⟩
   have hp3:=s3 _ _ hp
   refine⟨_,rfl,_,_,rfl,.inl (SqL.of hF),_,rfl,by rw [List.length_map];omega,by rw [List.length_map];omega,fun a2 ha2=>Qt (lo:=0) (n:=((rs.map V.int).length:Int).toNat) (fun i v=>∃y:Int,v=.int y∧0≤y∧y<10 ^ 38) ha2 (by rw [List.length_map];exact Nat.le_of_lt (small1000 (by omega))) ?_ ?_⟩
   ·intro i H6 R hi s6 hR'
    rw [List.length_map] at hi
    have hi':i<rs.length:=by omega
    rw [show (0:Int)+(i:Int)=(i:Int) by omega]
    have gx:=Wd (ns:=rs) (k:=i) (x:=rs.getD i 0) (by rw [List.getD_eq_getElem?_getD,List.getElem?_eq_getElem hi'];rfl)
    have yb:=rb (rs.getD i 0) (by rw [List.getD_eq_getElem?_getD,List.getElem?_eq_getElem hi'];exact List.getElem_mem hi')
    refine⟨rfl,_,rfl,_,rfl,_,_,_,_,rfl,rfl,SqL.of (s6 _ _ hF),gx,_,rfl,_,rfl,_,_,rfl,rfl,cell,_,rfl,zg (zP (m:=64) (by omega) (by omega)) (by decide),fun d d0 d1=>⟨_,rfl,p,_,2,_,rfl,rfl,SqT.of (s6 _ _ hp3),rfl,_,_,rfl,rfl,_,_,rfl,rfl,by omega,_,_,rfl,rfl,?_⟩⟩
    have e0:=Int.emod_nonneg d (show l+1≠0 by omega)
    have e1:=Int.emod_lt_of_pos d (show 0<l+1 by omega)
    exact hR' _ _ (Same.refl _) ⟨_,rfl,by omega,by omega⟩
   intro ys H4 s34 hC4 yl4 yp4
   obtain⟨es,rfl,ep⟩:=ints_of (Pd:=fun m=>0≤m∧m<10 ^ 38) (fun i v hv=>yp4 i v hv)
   rw [List.length_map,List.length_map] at yl4
   have el:es.length=rs.length:=by omega
   have s4:=s3.trans s34
   have hp4:=s4 _ _ hp
   have hn4:H a2=none:=s3.free ha2
   refine⟨_,rfl,cell,29,rfl,by decide,fun d29 x0 x1=>⟨_,rfl,_,_,rfl,.inl (SqL.of hC4),?_⟩⟩
   rw [List.length_map]
   refine⟨_,_,rfl,rfl,by omega,?_⟩
   have at0:=Int.emod_nonneg d29 (show (es.length:Int)≠0 by omega)
   have at1:=Int.emod_lt_of_pos d29 (show 0<(es.length:Int) by omega)
   generalize d29 % (es.length:Int)=aat at at0 at1 ⊢
   obtain⟨j,rfl⟩:∃j:Nat,aat=(j:Int):=⟨aat.toNat,by omega⟩
   have hj:j<es.length:=by omega
   refine⟨_,rfl,cell,30,rfl,by decide,fun d30 y0 y1=>⟨_,_,rfl,rfl,(by decide),?_⟩⟩
   generalize d30 % 6=way
   have gx:=Wd (ns:=es) (k:=j) (x:=es.getD j 0) (by rw [List.getD_eq_getElem?_getD,List.getElem?_eq_getElem hj];rfl)
   have gb:=ep (es.getD j 0) (by rw [List.getD_eq_getElem?_getD,List.getElem?_eq_getElem hj];exact List.getElem_mem hj)
   have ixj:ixN (es.map V.int).length (j:Int)=some j:=by
    unfold ixN
    rw [List.length_map,if_pos (by omega),if_pos (by omega),Int.toNat_natCast]
   have cam:∀es':List Int,es'.length≤es.length+1→(∀y∈es',0≤y∧y<10 ^ 40)→Cam t b l es':=fun es' h1 h2=>⟨by omega,h2,fun _ _=>rf _ (by omega)⟩
   have lb:intBits l≤80:=zP l0 (by omega)
   refine⟨_,rfl,_,_,rfl,rfl,_,rfl,ifD (fun z=>?_) (fun z=>⟨_,rfl,_,_,rfl,rfl,_,rfl,ifD (fun z=>?_) (fun z=>⟨_,rfl,_,_,rfl,rfl,_,rfl,ifD (fun z=>?_) (fun z=>hN _ _ ⟨a2,es,_,_,rfl,s4,hC4,cam es (by omega) fun y hy=>(by have:=ep y hy;omega)⟩)⟩)⟩)⟩
   ·refine⟨_,rfl,_,rfl,_,_,_,_,rfl,rfl,SqL.of hC4,gx,_,rfl,cell,31,rfl,by decide,fun d d0 d1=>⟨_,rfl,p,_,2,_,rfl,rfl,SqT.of hp4,rfl,_,_,rfl,rfl,⟨10,80,by decide,lb,by decide⟩,_,_,rfl,rfl,_,_,rfl,rfl,by omega,_,_,rfl,rfl,_,rfl,p,_,2,_,rfl,rfl,SqT.of hp4,rfl,_,_,rfl,rfl,⟨10,80,by decide,lb,by decide⟩,_,_,rfl,rfl,_,_,rfl,rfl,_,_,rfl,_,rfl,_,rfl,a2,_,_,j,rfl,rfl,hC4,ixj,?_⟩⟩
    have e0:=Int.emod_nonneg d (show 4*l+5≠0 by omega)
    have e1:=Int.emod_lt_of_pos d (show 0<4*l+5 by omega)
    generalize d % (4*l+5)=dd at e0 e1 ⊢
    obtain⟨nv,env,nv0,nv1⟩:∃nv,(if es.getD j 0+dd-2*l-2 > 0 then es.getD j 0+dd-2*l-2 else 0)=nv∧0≤nv∧nv<10 ^ 40:=⟨_,rfl,by split <;> omega,by split <;> omega⟩
    refine hN _ _ ⟨a2,es.set j nv,_,_,rfl,s4.wr hn4,by rw [upd_same,env,List.map_set],cam _ (by rw [List.length_set];omega) fun y hy=>?_⟩
    rcases List.mem_or_eq_of_mem_set hy with hy | rfl
    ·have:=ep y hy;omega
    ·exact⟨nv0,nv1⟩
   ·refine⟨_,rfl,.inl ⟨rfl,_,SqL.of hC4⟩,_,rfl,a2,_,(j:Int),j,_,rfl,rfl,hC4,by omega,by omega,(ixN_seq ixj).1,(by rw [List.getElem?_map,List.getElem?_eq_getElem hj];rfl),hN _ _ ⟨a2,es.eraseIdx j,_,_,rfl,s4.wr hn4,by rw [upd_same,zaF],cam _ (by have:=List.length_eraseIdx_le es j;omega) fun y hy=>?_⟩⟩
    have:=ep y (List.mem_of_mem_eraseIdx hy)
    omega
   ·refine⟨_,rfl,.inl ⟨rfl,_,SqL.of hC4⟩,_,rfl,_,rfl,_,_,_,_,rfl,rfl,SqL.of hC4,gx,a2,_,_,rfl,rfl,hC4,(by rw [List.length_map,sizeLine_eq];omega),hN _ _ ⟨a2,es++[es.getD j 0],_,_,rfl,s4.wr hn4,by rw [upd_same,List.map_append];rfl,cam _ (by rw [List.length_append];exact Nat.le_refl _) fun y hy=>?_⟩⟩
    rcases List.mem_append.mp hy with hy | hy
    ·have:=ep y hy;omega
    ·rw [List.mem_singleton.mp hy];omega
  clear zlc hC cp c8 yl
  rintro σ' H4 ⟨ac',cs',v6,v7,rfl,s4,hC,CM⟩
  refine⟨_,rfl,ac',cs',rfl,SqL.of hC,fun pm ms hpm pms pw=>?_⟩
  have ml:ms.length=cs'.length:=pms.length_eq
  have mb:∀y∈ms,0≤y∧y<10 ^ 60:=fun y hy=>by have:=CM.bd y (pms.mem_iff.mp hy);omega
  have mb5:∀y∈ms,0≤y∧y<10 ^ 500:=fun y hy=>⟨(mb y hy).1,Int.lt_of_lt_of_le (mb y hy).2 zg8⟩
  have m3:=CM.le
  have few:=CM.few
  rw [← ml] at m3 few
  have s5:Same H (upd H4 pm (.lst (ms.map V.int))):=s4.put hpm
  have h5:(upd H4 pm (.lst (ms.map V.int))) pm=some (.lst (ms.map V.int)):=upd_same
  generalize upd H4 pm (.lst (ms.map V.int))=H5 at s5 h5 ⊢
  clear hC CM pms
  refine⟨rfl,_,rfl,(by show 2≤sizeLine;decide),fun pl hpl=>?_⟩
  have s6:Same H5 (upd H5 pl (.lst [V.str "hear",V.str nm])):=Same.new hpl
  have h6:(upd H5 pl (.lst [V.str "hear",V.str nm])) pl=some (.lst [V.str "hear",V.str nm]):=upd_same
  generalize upd H5 pl (.lst [V.str "hear",V.str nm])=H6 at s6 h6 ⊢
  have h56:=s6 _ _ h5
  refine⟨_,rfl,pm,rfl,⟨_,SqL.of h56⟩,fun ac hac=>xH (K:=K) (a:=pm) (xs:=ms.map V.int) (fun i=>V.str (txt (ms.getD i 0))) (SqL.of h56) hac (by rw [List.length_map,sizeLine_eq];omega) (fun i v H7 R hx s7 hR=>?_) ?_⟩
  ·rw [List.getElem?_map] at hx
   obtain⟨y,hy,rfl⟩:=Option.map_eq_some_iff.mp hx
   have yb:=mb5 y (List.mem_of_getElem? hy)
   simp only [List.getD_eq_getElem?_getD,hy,Option.getD_some] at hR
   exact⟨rfl,_,rfl,y,rfl,lg yb.1 yb.2,hR⟩
  rw [ZG ms]
  have s7:Same H6 (upd H6 ac (.lst ((ms.map txt).map V.str))):=Same.new hac
  have h7:(upd H6 ac (.lst ((ms.map txt).map V.str))) ac=some (.lst ((ms.map txt).map V.str)):=upd_same
  generalize upd H6 ac (.lst ((ms.map txt).map V.str))=H7 at s7 h7 ⊢
  have sl:=Ji mb5
  have h4l:("hear":Str).length=4:=by decide +kernel
  refine⟨pl,ac,_,_,rfl,rfl,s7 _ _ h6,h7,by rw [List.length_map,List.length_map,sizeLine_eq];show 2+ms.length≤_;omega,fun pj hpj=>⟨" ",pj,"hear"::nm::ms.map txt,rfl,rfl,SqL.of upd_same,?_,?_⟩⟩
  ·rw [bl1]
   simp only [List.map_cons,List.sum_cons,List.length_cons,List.length_map,h4l]
   omega
  have s8:=((s5.trans s6).trans s7).put hpj (o:=.lst ([V.str "hear",V.str nm]++(ms.map txt).map V.str))
  have h8:(upd H7 pj (.lst ([V.str "hear",V.str nm]++(ms.map txt).map V.str))) pm=some (.lst (ms.map V.int)):=((s6.trans s7).put hpj) _ _ h5
  generalize upd H7 pj (.lst ([V.str "hear",V.str nm]++(ms.map txt).map V.str))=H8 at s8 h8 ⊢
  have ol:=zbj (w0:="hear") (nm:=nm) (ns:=ms) (by decide +kernel) (by omega) (by omega) mb5
  obtain⟨o,on,oo⟩:∃o,(b=0∨b > t∨cnt t b l<3→o=none)∧(1≤b→3≤cnt t b l→zgo K CR RC ms t b l o):=by
   by_cases z:1≤b∧b≤t∧3≤cnt t b l
   ·obtain⟨o,R⟩:=hRC ms t b l F z.1 z.2.2 (by omega) (few z.1 z.2.2)
    exact⟨o,fun y=>by omega,fun _ _=>R⟩
   ·refine⟨none,fun _=>rfl,fun y1 y2=>?_⟩
    by_cases bt:b≤t
    ·exact absurd ⟨y1,bt,y2⟩ z
    ·unfold cnt at y2
     rw [if_pos (by omega)] at y2
     omega
  have hD8:=hD.mono s8
  obtain⟨dx,hx8⟩:=hD8.self
  refine⟨_,rfl,_,rfl,(by omega),_,_,rfl,rfl,_,rfl,?_⟩
  refine ifD (fun z=>q H8 s8) (fun z=>?_)
  refine⟨_,rfl,_,rfl,x,dx,fr1 d,_,_,_,rfl,hx8,wR (by decide +kernel),zfs hD8 g ef F (by omega) mb pw on oo,fun v H9 a9=>?_,fun C H9 r9=>?_⟩
  ·obtain⟨s9,cs,eo,ev⟩:=a9
   refine⟨_,ev,fun pt HA sA hA=>⟨_,rfl,_,rfl,pm,p,ms,t,b,l,o,rfl,SqL.of (sA _ _ (s9 _ _ h8)),sA _ _ (s9 _ _ (s8 _ _ hp)),F,on,oo,fun pu HB sB hB=>?_⟩⟩
   rw [eo] at hB
   have csg:∀c∈cs,c∈sg:=by
    by_cases z:1≤b∧3≤cnt t b l
    ·exact((oo z.1 z.2).sg cs eo).1
    ·have:=on (by have:=F.ok.b0;omega)
     rw [this] at eo
     cases eo
   exact⟨pt,pu,_,_,rfl,rfl,sB _ _ hA,hB,Jo,Wt zeg (zgj csg),q HB (s8.trans (s9.trans (sA.trans sB)))⟩
  ·obtain⟨s9,eC,eo⟩:=r9
   refine⟨CR,2,eC,F2,fun pt HA sA hA=>⟨_,rfl,_,rfl,pm,p,ms,t,b,l,o,rfl,SqL.of (sA _ _ (s9 _ _ h8)),sA _ _ (s9 _ _ (s8 _ _ hp)),F,on,oo,fun pu HB sB hB=>?_⟩⟩
   rw [eo] at hB
   exact⟨pt,pu,_,_,rfl,rfl,sB _ _ hA,hB,Z9,zbs 2,q HB (s8.trans (s9.trans (sA.trans sB)))⟩
end
structure QK (CD CF x d e:Addr) (n:Nat) (fr:Str→Option (Int×Int×Int)) (H:Hp):Prop where
 desk:qd CD CF x d n fr H
 ne:d≠e
 dict:∃kvs,H e=some (.dK kvs)∧kvs.length≤n∧(∀nm,fr nm=none→valV kvs (Sum.inr nm)=none)∧∀nm t b l,fr nm=some (t,b,l)→∃p,valV kvs (Sum.inr nm)=some (.ref p)∧H p=some (.tup [.int t,.int b,.int l])
 ok:∀nm t b l,fr nm=some (t,b,l)→Jp t b l
noncomputable def zaG (d e:Addr) (H H':Hp):Prop:=∀a o,H a=some o→a≠d→a≠e→H' a=some o
section
variable {CD CF x d e:Addr}{n:Nat}{fr:Str→Option (Int×Int×Int)} {H H':Hp}
theorem qd.more {n':Nat} (h:qd CD CF x d n fr H) (hn:n≤n'):qd CD CF x d n' fr H:=by
 obtain⟨h1,⟨kvs,h2,h3,h4,h5⟩,h6⟩:=h
 exact⟨h1,⟨kvs,h2,Nat.le_trans h3 hn,h4,h5⟩,h6⟩
theorem qd.keepX (h:qd CD CF x d n fr H) (s:∀a o,H a=some o→(∀kvs,o≠.dK kvs)∨a=d→H' a=some o):qd CD CF x d n fr H':=by
 obtain⟨⟨dx,h1⟩,⟨kvs,h2,h3,h4,h5⟩,h6⟩:=h
 refine⟨⟨dx,s _ _ h1 (.inl fun _ z=>nomatch z)⟩,⟨kvs,s _ _ h2 (.inr rfl),h3,h4,fun nm t b l q=>?_⟩,h6⟩
 obtain⟨p,hp,dx,hq⟩:=h5 nm t b l q
 exact⟨p,hp,dx,s _ _ hq (.inl fun _ z=>nomatch z)⟩
theorem QK.more (h:QK CD CF x d e n fr H):QK CD CF x d e (n+1) fr H:=by
 obtain⟨h1,h2,⟨kvs,h3,h4,h5⟩,h6⟩:=h
 exact⟨h1.more (Nat.le_succ n),h2,⟨kvs,h3,Nat.le_succ_of_le h4,h5⟩,h6⟩
theorem QK.keepX (h:QK CD CF x d e n fr H) (s:∀a o,H a=some o→(∀kvs,o≠.dK kvs)∨a=d∨a=e→H' a=some o):QK CD CF x d e n fr H':=by
 obtain⟨h1,h2,⟨kvs,h3,h4,h5,h6⟩,h7⟩:=h
 refine⟨h1.keepX fun a o q z=>s a o q (z.imp id .inl),h2,⟨kvs,s _ _ h3 (.inr (.inr rfl)),h4,h5,fun nm t b l q=>?_⟩,h7⟩
 obtain⟨p,hp,hq⟩:=h6 nm t b l q
 exact⟨p,hp,s _ _ hq (.inl fun _ z=>nomatch z)⟩
theorem QK.mono (s:Same H H') (h:QK CD CF x d e n fr H):QK CD CF x d e n fr H':=h.keepX fun a o q _=>s a o q
theorem zaG.of (s:Same H H'):zaG d e H H':=fun a o h _ _=>s a o h
end
section
variable {CD CF x d e:Addr}{n:Nat}{fr:Str→Option (Int×Int×Int)}{H:Hp}
theorem QK.put (BK:QK CD CF x d e n fr H):∃kvs,H e=some (.dK kvs)∧kvs.length≤n∧∀(nm:Str) (pf:Addr) (t b l:Int),H pf=some (.tup [.int t,.int b,.int l])→Jp t b l →
  qd CD CF x d n fr (upd H e (.dK (putK kvs (Sum.inr nm) (V.ref pf))))∧(upd H e (.dK (putK kvs (Sum.inr nm) (V.ref pf)))) pf=some (.tup [.int t,.int b,.int l])∧(∀a o,H a=some o→a≠e→(upd H e (.dK (putK kvs (Sum.inr nm) (V.ref pf)))) a=some o) ∧
  ∀H3 H4,Same (upd H e (.dK (putK kvs (Sum.inr nm) (V.ref pf)))) H3→je d H3 H4→qd CD CF x d (n+1) (Qm fr nm (t,b,l)) H4→QK CD CF x d e (n+1) (Qm fr nm (t,b,l)) H4∧zaG d e H H4:=by
 obtain⟨kvs,he,kl,k1,k2⟩:=BK.dict
 refine⟨kvs,he,kl,fun nm pf t b l hF fo=>?_⟩
 have hF2:(upd H e (.dK (putK kvs (Sum.inr nm) (V.ref pf)))) pf=some (.tup [.int t,.int b,.int l]):=by rw [upd_ne fun z=>by rw [z,he] at hF;cases hF];exact hF
 have he2:(upd H e (.dK (putK kvs (Sum.inr nm) (V.ref pf)))) e=some (.dK (putK kvs (Sum.inr nm) (V.ref pf))):=upd_same
 have y2:∀a o,H a=some o→a≠e→(upd H e (.dK (putK kvs (Sum.inr nm) (V.ref pf)))) a=some o:=fun a o h ne=>by rw [upd_ne ne];exact h
 generalize upd H e (.dK (putK kvs (Sum.inr nm) (V.ref pf)))=H2 at hF2 he2 y2 ⊢
 have hD2:qd CD CF x d n fr H2:=BK.desk.keepX fun a o h z=>y2 a o h fun w=>by
  rcases z with z | z
  ·rw [w,he] at h;cases h;exact z _ rfl
  ·exact BK.ne (z.symm.trans w)
 refine⟨hD2,hF2,y2,fun H3 H4 s3 s4 hD4=>?_⟩
 obtain⟨kvd,hd3,_⟩:=(hD2.mono s3).dict
 have hF3:=s3 _ _ hF2
 have hF4:=s4 _ _ hF3 fun z=>by rw [z,hd3] at hF3;cases hF3
 have he4:=s4 _ _ (s3 _ _ he2) (Ne.symm BK.ne)
 refine⟨⟨hD4,BK.ne,⟨_,he4,?_,fun nm' z=>?_,fun nm' t' b' l' z=>?_⟩,fun nm' t' b' l' z=>?_⟩,fun a o h n1 n2=>s4 _ _ (s3 _ _ (y2 _ _ h n2)) n1⟩
 ·have:=zb9 kvs (Sum.inr nm) (V.ref pf)
  omega
 ·unfold Qm at z
  split at z
  ·cases z
  ·rename_i h
   rw [valV_put,if_neg (fun z=>h (Sum.inr.inj z))]
   exact k1 nm' z
 ·unfold Qm at z
  rw [valV_put]
  split at z
  ·rename_i h
   cases z
   rw [if_pos (by rw [h])]
   exact⟨pf,rfl,hF4⟩
  ·rename_i h
   rw [if_neg (fun z=>h (Sum.inr.inj z))]
   obtain⟨r,hr1,hr2⟩:=k2 nm' t' b' l' z
   have hr3:=s3 _ _ (y2 _ _ hr2 fun z=>by rw [z,he] at hr2;cases hr2)
   exact⟨r,hr1,s4 _ _ hr3 fun z=>by rw [z,hd3] at hr3;cases hr3⟩
 ·unfold Qm at z
  split at z
  ·cases z
   exact fo
  ·exact BK.ok nm' t' b' l' z
end
theorem bl9:("messages ":Str).length=9:=by decide +kernel
theorem bl5:("frame":Str).length=5:=by decide +kernel
theorem ba2:(" a":Str).length=2:=by decide +kernel
theorem hr5:("hear ":Str).length=5:=by decide +kernel
theorem kd0:kdN 0="NoName":=by decide +kernel
theorem zfu (nm:Str):"hear "++nm=Txt.join " " ("hear"::nm::([]:List Int).map txt):=by
 apply yR
 rw [Vq (by simp),List.map_nil,join_one,jD,show cpl ("hear ":Str)=cpl "hear"++[32] by decide +kernel,List.append_assoc]
 rfl
theorem zfv (nm:Str):NtO (("note "++nm)++" a") nm "a":=by
 show cpl (("note "++nm)++" a")=_
 rw [jD,jD,show cpl (" a":Str)=32::cpl "a" by decide +kernel,show cpl ("note ":Str)=[110,111,116,101,32] by decide +kernel]
theorem Jp.b5 {t b l:Int} (F:Jp t b l):∀m∈[t,b,l],0≤m∧m<10 ^ 500:=fun m hm=>by
 have:=F.ok.t0
 have:=F.ok.b0
 have:=F.ok.l0
 have:=F.t1
 have:=F.b4
 have:=F.l3
 rcases List.mem_cons.mp hm with rfl | hm
 ·omega
 rcases List.mem_cons.mp hm with rfl | hm
 ·omega
 rw [List.mem_singleton.mp hm]
 omega
section
variable {CD CF CO CN:Addr}{NH SN:Sp}{S:Cs}
noncomputable def zgr (CD CF:Addr):Sp:=fun vs H Q _=>∃(x d e:Addr) (n:Nat) (fr:Str→Option (Int×Int×Int)) (nm:Str) (cell:Int),vs=[.ref x,.ref e,.str nm,.int cell]∧QK CD CF x d e n fr H∧n<1000∧zK nm∧∀fr' H',QK CD CF x d e (n+1) fr' H'→zaG d e H H'→Q (.bl true) H'
theorem xm:FnScope ["desk","frames","name","cell","head","frame","order","count"] ["desk","frames","name","cell"] (defScope xg):=⟨rfl,rfl,rfl,by decide +kernel,rfl,by decide +kernel,by decide +kernel⟩
theorem zfw (D:Def K mg "_law_order" xg ["desk","frames","name","cell"]) (T:Txt K mg) (F0:XF K S CN 0) (zf:Fn P w K mg base 1 "_law_drawn" ["cell","k"] zcN) (zA:Fn P w K mg base 2 "box_count" ["turns","bells","late"] yf) (yj:Fn P w K mg base 2 "_law_frame" ["cell"] zfl) (QL:Fn P w K mg base 48 "_law_note" ["desk","name","frame","cell"] (zdJ CD CF)) (QM:Fn P w K mg base 48 "_law_hear" ["desk","name","frame","cell"] (zdK CD CF)) (qp:Fn P w K mg base 47 "_law_told" ["desk","order"] (KC K S CD (spD K CD CF CO CN NH SN))):Fn P w K mg base 49 "_law_order" ["desk","frames","name","cell"] (zgr CD CF):=by
 refine D.fn xm (fun vs H Q E h=>?_) (fun f cdv A outer s H vs Q E hr h=>?_)
 ·obtain⟨x,d,e,n,fr,nm,cell,rfl,_⟩:=h
  rfl
 ·obtain⟨x,d,e,n,fr,nm,cell,rfl,BK,hn,g,q⟩:=h
  have hu:=zfC hr
  have gl:=g.le
  refine⟨_,(pss_cons (ps_set (i:=4) xm.nd rfl (Or.inl rfl) (pe_op zF (zq zf (hr.mono (by decide)) (by rfl) (pa_cons (pv 3) (pa_cons pe_int pa_nil))) pe_int))
   (pss_cons (ps_if (pt_cmpR jG (pv 4) pe_int (nomark _))
    (pss_cons (ps_set (i:=5) xm.nd rfl (Or.inl rfl) (zq yj (hr.mono (by decide)) (by rfl) (pa_cons (pv 3) pa_nil)))
    (pss_cons (ps_dput (hu_of hr) (pv 1) (pv 2) (pv 5) rfl)
    (pss_cons (ps_set (i:=6) xm.nd rfl (Or.inl rfl) (pe_bm PySem.F.plainAttrs_str PySem.F.slot_str_join PySem.F.type_str_join ZQ pe_str (pa_cons (pe_op op_cat (pe_lst (pa_cons pe_str (pa_cons (pv 2) pa_nil))) (jT (own:=["number"]) (fr:=[]) (ix:=[]) rfl ⟨rfl,rfl,rfl,rfl,rfl,rfl⟩ (pi_tup (pv 5)) (fun _ _ _ _ _=>(pg_name (i:=0) (show (["number"]:List Str).Nodup by decide +kernel) rfl (Or.inl rfl))) (fun _ _ _ _ _=>qJ) (fun _ _ _ _ _=>(pe_callTy call_str_int (by rfl) T.z_str Jq (pa_cons (pv 0) pa_nil))))) pa_nil)))
    (pss_cons (ps_set (i:=7) xm.nd rfl (Or.inl rfl) (zq zA (hr.mono (by decide)) (by rfl) (pa_cons (pe_ix ix_tup (pv 5) pe_int (fun _ _=>rfl)) (pa_cons (pe_ix ix_tup (pv 5) pe_int (fun _ _=>rfl)) (pa_cons (pe_ix ix_tup (pv 5) pe_int (fun _ _=>rfl)) pa_nil)))))
    (pss_one (ps_ret (pe_cmpR (KJ hu) (zq qp (hr.mono (by decide)) (by rfl) (pa_cons (pv 0) (pa_cons (pv 6) pa_nil))) (pe_tup (pa_cons pe_str (pa_cons (pe_op op_add_str pe_str (pe_callTy call_str_int (by rfl) T.z_str Jq (pa_cons (pv 7) pa_nil))) pa_nil))) (nomark _))))))))
    pss_nil)
   (pss_cons (ps_if (pt_cmp (pc_dnotin (hu_of hr) (pv 2) (pv 1)))
    (pss_one (ps_ret (pe_cmpR (KJ hu) (zq qp (hr.mono (by decide)) (by rfl) (pa_cons (pv 0) (pa_cons (pe_ix ix_list (pe_lst (pa_cons (pe_op op_add_str pe_str (pv 2)) (pa_cons (pe_op op_add_str (pe_op op_add_str pe_str (pv 2)) pe_str) pa_nil))) (pe_op zF (pv 4) pe_int) (fun _ _=>rfl)) pa_nil))) (pe_tup (pa_cons pe_str (pa_cons pe_str pa_nil))) (nomark _))))
    pss_nil)
   (pss_cons (ps_if (pt_cmpR yV (pv 4) pe_int (nomark _))
    (pss_one (ps_ret (zq QL (hr.mono (by decide)) (by rfl) (pa_cons (pv 0) (pa_cons (pv 2) (pa_cons (pe_dget (hu_of hr) (pv 1) (pv 2) (fun _ _=>rfl)) (pa_cons (pv 3) pa_nil)))))))
    pss_nil)
   (pss_one (ps_ret (zq QM (hr.mono (by decide)) (by rfl) (pa_cons (pv 0) (pa_cons (pv 2) (pa_cons (pe_dget (hu_of hr) (pv 1) (pv 2) (fun _ _=>rfl)) (pa_cons (pv 3) pa_nil))))))))))),?_⟩
  refine⟨_,rfl,cell,10,rfl,by decide,fun d10 x0 x1=>⟨_,_,rfl,rfl,(by decide),?_⟩⟩
  have h0:0≤d10 % 5:=by omega
  generalize d10 % 5=head at h0 ⊢
  refine⟨_,rfl,_,_,rfl,rfl,_,rfl,ifD (fun z=>?_) (fun z=>?_)⟩
  ·refine⟨_,rfl,cell,rfl,fun pf t b l H1 s1 hF fo=>?_⟩
   obtain⟨kvs,he,kl,kp⟩:=(BK.mono s1).put
   obtain⟨hD2,hF2,_,kb⟩:=kp nm pf t b l hF fo
   refine⟨_,rfl,_,rfl,_,rfl,e,_,rfl,DPut.k (k:=Sum.inr nm) he (by rw [sizeLine_eq];omega),?_⟩
   generalize upd H1 e (.dK (putK kvs (Sum.inr nm) (V.ref pf)))=H2 at hD2 hF2 kb ⊢
   have hb5:=fo.b5
   refine⟨rfl,_,rfl,(by show 2≤sizeLine;decide),fun pl hpl=>?_⟩
   have s3:Same H2 (upd H2 pl (.lst [V.str "frame",V.str nm])):=Same.new hpl
   have h3:(upd H2 pl (.lst [V.str "frame",V.str nm])) pl=some (.lst [V.str "frame",V.str nm]):=upd_same
   generalize upd H2 pl (.lst [V.str "frame",V.str nm])=H3 at s3 h3 ⊢
   have hF3:H3 pf=some (.tup ([t,b,l].map V.int)):=s3 _ _ hF2
   refine⟨_,rfl,pf,rfl,⟨_,SqT.of hF3⟩,fun ac hac=>zag (K:=K) (a:=pf) (xs:=[t,b,l].map V.int) (fun i=>V.str (txt ([t,b,l].getD i 0))) hF3 hac (by show 3≤sizeLine;decide) (fun i v H7 R hx s7 hR=>?_) ?_⟩
   ·rw [List.getElem?_map] at hx
    obtain⟨y,hy,rfl⟩:=Option.map_eq_some_iff.mp hx
    have yb:=hb5 y (List.mem_of_getElem? hy)
    simp only [List.getD_eq_getElem?_getD,hy,Option.getD_some] at hR
    exact⟨rfl,_,rfl,y,rfl,lg yb.1 yb.2,hR⟩
   rw [ZG [t,b,l]]
   have s4:Same H3 (upd H3 ac (.lst (([t,b,l].map txt).map V.str))):=Same.new hac
   have h4:(upd H3 ac (.lst (([t,b,l].map txt).map V.str))) ac=some (.lst (([t,b,l].map txt).map V.str)):=upd_same
   generalize upd H3 ac (.lst (([t,b,l].map txt).map V.str))=H4 at s4 h4 ⊢
   have sl:=Ji hb5
   refine⟨pl,ac,_,_,rfl,rfl,s4 _ _ h3,h4,(by show 2+3≤sizeLine;decide),fun pj hpj=>⟨" ",pj,"frame"::nm::[t,b,l].map txt,rfl,rfl,SqL.of upd_same,?_,?_⟩⟩
   ·rw [bl1,List.map_cons,List.map_cons,List.sum_cons,List.sum_cons,bl5]
    show 5+(nm.length+(([t,b,l].map txt).map (·.length)).sum)+5*1≤_
    have:[t,b,l].length=3:=rfl
    omega
   have s5:=(s3.trans s4).put hpj (o:=.lst ([V.str "frame",V.str nm]++([t,b,l].map txt).map V.str))
   generalize upd H4 pj (.lst ([V.str "frame",V.str nm]++([t,b,l].map txt).map V.str))=H5 at s5 ⊢
   have A1:=SqT.of (K:=K) (s5 _ _ hF2)
   have tb:=Qy fo.ok.t0 fo.ok.t1
   have lb:=Qy fo.ok.l0 fo.ok.l1
   have b4:=fo.b4
   refine⟨_,rfl,pf,_,0,_,rfl,rfl,A1,rfl,_,rfl,pf,_,1,_,rfl,rfl,A1,rfl,_,rfl,pf,_,2,_,rfl,rfl,A1,rfl,t,b,l,rfl,fo.ok.b0,by omega,fo.ok.l0,zg lb (by decide),zg tb (by decide),?_⟩
   have hD5:=hD2.mono s5
   obtain⟨dx,hx5⟩:=hD5.self
   have c0:=JN t b l
   have c1:=fo.ok.c1
   have tl:=ZJ c0 c1
   refine⟨_,rfl,_,rfl,x,dx,fr1 d,_,(fun v H'=>v=.str ("messages "++txt (cnt t b l))∧je d H5 H'∧qd CD CF x d (n+1) (Qm fr nm (t,b,l)) H'),(fun _ _=>False),rfl,hx5,wR (by decide +kernel),fun Q' E' qa qr=>Wl hD5 hn g fo.ok (fun H' s' h'=>qa _ _ ⟨rfl,s',h'⟩),fun v H6 a6=>?_,fun _ _ z=>z.elim⟩
   obtain⟨rfl,s6,hD6⟩:=a6
   obtain⟨B6,y6⟩:=kb H5 H6 s5 s6 hD6
   refine⟨_,rfl,fun pt H7 s7 h7=>⟨_,rfl,_,rfl,lg c0 c1,_,_,rfl,rfl,(by rw [bl9,sizeLine_eq];show 9+(txt (cnt t b l)).length≤_;omega),(by show 2≤sizeLine;decide),fun pu hpu=>?_⟩⟩
   exact⟨pt,pu,_,_,rfl,rfl,(Same.new hpu) _ _ h7,upd_same,Jo,Wt Jv (Ws c0),q _ _ (B6.mono (s7.put hpu)) fun a o h n1 n2=>(s7.put hpu) _ _ (y6 a o (s1 _ _ h) n1 n2)⟩
  obtain⟨kvs,he,kl,k1,k2⟩:=BK.dict
  obtain⟨dx,hx⟩:=BK.desk.self
  refine⟨_,rfl,_,rfl,e,_,rfl,DGet.k (k:=Sum.inr nm) he,?_⟩
  have fin:∀H',Same H H'→Q (.bl true) H':=fun H' s'=>q fr H' (BK.mono s').more (zaG.of s')
  cases ef:fr nm with
  | none=>
   rw [k1 nm ef]
   refine⟨_,rfl,iteT ?_⟩
   refine⟨_,rfl,_,rfl,_,_,rfl,rfl,(by rw [hr5,sizeLine_eq];omega),_,rfl,_,_,rfl,rfl,(by rw [nt5,sizeLine_eq];omega),_,_,rfl,rfl,(by rw [kJ,nt5,ba2,sizeLine_eq];omega),(by show 2≤sizeLine;decide),fun pl hpl=>?_⟩
   have s1:Same H (upd H pl (.lst [V.str ("hear "++nm),V.str (("note "++nm)++" a")])):=Same.new hpl
   have h1:(upd H pl (.lst [V.str ("hear "++nm),V.str (("note "++nm)++" a")])) pl=some (.lst [V.str ("hear "++nm),V.str (("note "++nm)++" a")]):=upd_same
   generalize upd H pl (.lst [V.str ("hear "++nm),V.str (("note "++nm)++" a")])=H1 at s1 h1 ⊢
   refine⟨_,rfl,_,_,rfl,rfl,(by decide),?_⟩
   have hD1:=BK.desk.mono s1
   obtain⟨o,eo,says⟩:∃o:Str,atI [V.str ("hear "++nm),V.str (("note "++nm)++" a")] (head % 2)=some (V.str o)∧zgc (spD K CD CF CO CN NH SN) [.ref x,.str o] H1 (fun _ _=>False) (fun C H'=>Same H1 H'∧C=.ref CN):=by
    rcases (by omega:head % 2=0∨head % 2=1) with z | z
    ·refine⟨"hear "++nm,by rw [z];rfl,?_⟩
     rw [zfu]
     exact fun Q' E' qa qr=>zaC hD1 g (by decide) (fun y hy=>nomatch hy) List.Pairwise.nil (fun _ H' s'=>qr _ _ ⟨s',rfl⟩) (fun t b l z=>by rw [ef] at z;cases z)
    ·refine⟨("note "++nm)++" a",by rw [z];rfl,?_⟩
     exact fun Q' E' qa qr=>zaB (zfv nm) hD1 g (by decide +kernel) (fun _ H' s'=>qr _ _ ⟨s',rfl⟩) (fun t b l z=>by rw [ef] at z;cases z)
   refine⟨_,_,_,_,rfl,rfl,SqL.of h1,eo,x,dx,fr1 d,_,_,_,rfl,s1 _ _ hx,wR (by decide +kernel),says,fun _ _ z=>z.elim,fun C H2 r=>?_⟩
   obtain⟨s2,rfl⟩:=r
   refine⟨_,0,rfl,F0,fun pt H3 s3 h3=>⟨(by show 2≤sizeLine;decide),fun pu hpu=>⟨pt,pu,_,_,rfl,rfl,(Same.new hpu) _ _ h3,?_,Z9,zbs 0,fin _ ((s1.trans (s2.trans s3)).put hpu)⟩⟩⟩
   rw [upd_same,kd0]
  | some zz=>
   obtain⟨t,b,l⟩:=zz
   obtain⟨p,hv,hp⟩:=k2 nm t b l ef
   have fo:=BK.ok nm t b l ef
   have dg:=DGet.k (k:=Sum.inr nm) he
   rw [hv] at dg ⊢
   refine⟨_,rfl,iteF ⟨_,rfl,_,_,rfl,rfl,_,rfl,ifD (fun z=>?_) (fun z=>?_)⟩⟩
   ·exact⟨_,rfl,_,rfl,_,rfl,_,rfl,e,V.ref p,rfl,dg,_,rfl,x,d,p,n,fr,nm,cell,t,b,l,rfl,BK.desk,g,ef,hp,fo,fin⟩
   ·exact⟨_,rfl,_,rfl,_,rfl,_,rfl,e,V.ref p,rfl,dg,_,rfl,x,d,p,n,fr,nm,cell,t,b,l,rfl,BK.desk,g,ef,hp,fo,fin⟩
end
theorem zfx {H H0:Hp}{x dx:Addr}{o1 o2:HO} (hx:H x=none) (hdx:H dx=none) (sx:je x (upd (upd H dx o1) x o2) H0):Same H H0:=fun c o hc=>by
 have n1:c≠x:=fun e=>by rw [e,hx] at hc;cases hc
 have n2:c≠dx:=fun e=>by rw [e,hdx] at hc;cases hc
 exact sx c o (by rw [upd_ne n1,upd_ne n2];exact hc) n1
theorem zcn {CD CF x d e a:Addr}{n:Nat} {H H':Hp}{xs:List V}{fr:Str→Option (Int×Int×Int)} (B:QK CD CF x d e n fr H) (s:zaG d e H H') (h:H a=some (.lst xs)):H' a=some (.lst xs):=by
 obtain⟨kd,hd,_⟩:=B.desk.dict
 obtain⟨ke,he,_⟩:=B.dict
 exact s a _ h (fun y=>by rw [y,hd] at h;cases h) (fun y=>by rw [y,he] at h;cases h)
theorem zlX {na nb nc:Str}{i:Int} (g1:zK na) (g2:zK nb) (g3:zK nc) (h:i=0∨i=1∨i=2):∃nm,atI [V.str na,V.str nb,V.str nc] i=some (V.str nm)∧zK nm:=by
 rcases h with rfl | rfl | rfl
 ·exact⟨na,rfl,g1⟩
 ·exact⟨nb,rfl,g2⟩
 ·exact⟨nc,rfl,g3⟩
theorem zlY {d:Int}:∃i:Int,atI [V.int 0,V.int 0,V.int 0,V.int 0,V.int 1,V.int 2] (d % 6)=some (V.int i)∧(i=0∨i=1∨i=2):=by
 rcases (by omega:d % 6=0∨d % 6=1∨d % 6=2∨d % 6=3∨d % 6=4∨d % 6=5) with z | z | z | z | z | z <;> rw [z]
 ·exact⟨0,rfl,.inl rfl⟩
 ·exact⟨0,rfl,.inl rfl⟩
 ·exact⟨0,rfl,.inl rfl⟩
 ·exact⟨0,rfl,.inl rfl⟩
 ·exact⟨1,rfl,.inr (.inl rfl)⟩
 ·exact⟨2,rfl,.inr (.inr rfl)⟩
theorem je.lst {d a:Addr} {H H':Hp}{xs:List V}{kd:List (Key×V)} (hd:H d=some (.dK kd)) (s:je d H H') (h:H a=some (.lst xs)):H' a=some (.lst xs):=s _ _ h fun z=>by rw [z,hd] at h;cases h
section
theorem QQ:FnScope ["script","desk","frames","names","frame","order","cell","name"] ["script"] (defScope Vg):=⟨rfl,rfl,rfl,by decide +kernel,rfl,by decide +kernel,by decide +kernel⟩
theorem ok_law (hP:P.given.tree=none){f:Addr}{fd:FuncData} (F:Fun K "law" "law" Vg f fd) (T:Txt K mg) (Ww:Def K mg "choose" Zw ["n","k"]) (zco:Def K mg "top_of" Vf ["k","number"]) (JV:Def K mg "top_from" wG ["start","k","number"]) (QR:Def K mg "above_top" xY ["k","number"]) (Qa:Def K mg "rounded_up" jY ["number","divisor"]) (Wx:Def K mg "box_of" Zx ["row","late"]) (JW:Def K mg "bell_row" wH ["box","late"]) (QS:Def K mg "heard_box" xZ ["reading","late"]) (QT:Def K mg "box_count" vd ["turns","bells","late"]) (wV:Def K mg "greatest_part" qZ ["turns","bells","late"]) (ZL:Def K mg "shortest_frame" vf ["bells","late","many"]) (X6:Def K mg "best_bells" yX ["turns","late","most"]) (Wy:Def K mg "cheapest" Qv ["many","late","turn_cost","bell_cost","most"]) (Qc:Def K mg "box_number" jZ ["box"]) (km:Def K mg "box_of_message" qM ["message","bells"]) (Vz:Def K mg "written" yq ["message","turns","bells","late"]) (zbu:Def K mg "read" Xw ["reading","turns","bells","late"]) (Jw:Def K mg "keyed_count" yr ["turns","bells","late"]) (zdL:Def K mg "keyed" Wc ["message","turns","bells","late"]) (VB:Def K mg "unkeyed" JK ["reading","turns","bells","late"]) (xr:Def K mg "refuse_silent" qx ["turns","bells"]) (zdf:Def K mg "rung" Xx ["messages","turns","bells","late"]) (Zg:Def K mg "by_messages" jJ ["reading","turns","late"]) (Zh:Def K mg "note_number" jK ["note"]) (VD:Def K mg "note_of" yt ["number"]) (zbv:Def K mg "parts" Qw ["number","base"]) (vN:Def K mg "number_of_parts" qy ["figures","base"]) (zdg:Def K mg "sent" Xy ["note","turns","bells","late"]) (JX:Def K mg "received" wI ["reading","turns","bells","late"]) (jh:Def K mg "messages_ahead_of_end" zY ["reading","turns","bells","late"]) (Qd:Def K mg "is_made_of" j4 ["word","signs","most"]) (VF:Def K mg "name_in" yu ["word"]) (Qe:Def K mg "figures_in" j5 ["word","most"]) (QV:Def K mg "number_in" vg ["word"]) (X7:Def K mg "message_in" yZ ["word"]) (JZ:Def K mg "bells_in" wJ ["word"]) (J1:Def K mg "turns_in" wK ["words"]) (Zi:Def K mg "number_told" yw ["number"]) (Qf:Def K mg "turns_told" j6 ["turns"]) (J2:Def K mg "count_of" wL ["frame"]) (Qg:Def K mg "note_heard" j7 ["reading","frame"]) (Zj:Def K mg "choice_told" yx ["words"]) (Qn:Def K mg "cheapest_told" vZ ["words"]) (yG:Def K mg "_law_cell_at" jA ["script","k"]) (Qh:Def K mg "_law_drawn" j8 ["cell","k"]) (Qi:Def K mg "_law_names" j9 ["cell"]) (Qj:Def K mg "_law_frame" xf ["cell"]) (QW:Def K mg "_law_text" vh ["cell"]) (QX:Def K mg "_law_kind" vp ["e"]) (QZ:Def K mg "_law_told" vq ["desk","order"]) (Q0:Def K mg "_law_sent" vz ["text","frame"]) (wW:Def K mg "_law_received" jb ["reading","frame"]) (Q3:Def K mg "_law_note" vA ["desk","name","frame","cell"]) (Q4:Def K mg "_law_hear" vB ["desk","name","frame","cell"]) (Qk:Def K mg "_law_order" xg ["desk","frames","name","cell"]){zm:Addr} (z6:mg "BellError"=some (.ref zm)){zG:Addr} (kO:mg "NoRow"=some (.ref zG)){za:Addr} (zJ:mg "NoReading"=some (.ref za)){zj:Addr} (zV:mg "TooGreat"=some (.ref zj)){zX:Addr} (kj:mg "TooMany"=some (.ref zX)){zp:Addr} (qH:mg "NoNote"=some (.ref zp)){zc:Addr} (zL:mg "NoOrder"=some (.ref zc)){zr:Addr} (xj:mg "NoName"=some (.ref zr)){zH:Addr} (Z0:mg "Frame"=some (.ref zH)){zy:Addr} (Wz:mg "Desk"=some (.ref zy)){ZC:Tok} (v8:mg "LETTERS"=some (.str "abcdefghijklmnopqrstuvwxyz" ZC)){jL:Tok} (qC:mg "MOST_LETTERS"=some (.int 8 jL)){ZD:Tok} (v9:mg "FIGURES"=some (.str "0123456789" ZD)){jM:Tok} (qD:mg "MOST_FIGURES"=some (.int 60 jM)){qK:Tok} (qg:mg "MOST_FIGURES_OF_MESSAGE"=some (.int 3000 qK)){vJ:Tok} (jt:mg "MOST_BELLS"=some (.int 60 vJ)){Z7:Tok} (jV:mg "SIGNS"=some (.str "abcdefghijklmnopqrstuvwxyz " Z7)){jw:Tok} (qm:mg "MOST_SIGNS"=some (.int 60 jw)){qX:Tok} (z8:mg "LEAST_COUNT"=some (.int 3 qX)) (z7:W.excIn K zm bmV "ValueError.__new__"=true) (Z8:W.excIn K zG bmV "ValueError.__new__"=true) (zW:W.excIn K za bmV "ValueError.__new__"=true) (qj:W.excIn K zj bmV "ValueError.__new__"=true) (zT:W.excIn K zc bmV "ValueError.__new__"=true) (yz:W.excIn K zr bmV "ValueError.__new__"=true) (jB:W.excIn K zp bmV "ValueError.__new__"=true) (Q5:XF K ⟨zr,zj,za,zp,zG,zc,zX,zm⟩ zr 0) (yH:XF K ⟨zr,zj,za,zp,zG,zc,zX,zm⟩ zj 1) (wO:XF K ⟨zr,zj,za,zp,zG,zc,zX,zm⟩ za 2) (Q6:XF K ⟨zr,zj,za,zp,zG,zc,zX,zm⟩ zp 3) (X8:XF K ⟨zr,zj,za,zp,zG,zc,zX,zm⟩ zG 4) (O:Own K zH zy):FnOk P w K mg base CX0 50 f fd ["script"] (spLaw K):=by
 have hT:DkT K zy zH:=⟨O.c_Desk,O.c_Frame,O.n_Frame_turns,O.n_Frame_bells,O.n_Frame_late,O.n_Desk_frames⟩
 have jc:Fn P w K mg base 1 "choose" ["n","k"] Zu:=zdX Ww T
 have wQ:Fn P w K mg base 1 "greatest_part" ["turns","bells","late"] za2:=Vj wV
 have zA:Fn P w K mg base 2 "box_count" ["turns","bells","late"] yf:=za4 QT T wQ jc
 have zaH:=W3 (w:=w) (base:=base) Qa hP
 have Qx:=zaZ QR T zaH
 have JM:=zbY JV jc zaH hP
 have vI:=JL km T zV qj Qx JM jc
 have zdh:=zb3 Vz T zV qj zA vI (zb0 JW T)
 have ZZ:=W9 QS T zJ zW (zd2 (P:=P) (w:=w) (base:=base) Wx T)
 have Jl:=zeQ zbu T zJ zW zA ZZ (W7 Qc T jc)
 have jU:Fn P w K mg base 1 "is_made_of" ["word","signs","most"] za7:=zfV Qd T
 have ju:=zcU VF T zL zT v8 qC jU
 have Zb:=Yd Qe T zL zT v9 jU
 have ql:=zba QV T qD Zb
 have Qz:=zb5 JZ T zL zT jt ql
 have QC:=zb7 J1 T zL zT ql
 have Z1:Fn P w K mg base 1 "turns_told" ["turns"] (wN K):=Yg Qf T
 have kh:=zcc J2 hT zA
 have jf:=Kc (P:=P) (w:=w) (base:=base) Zh T jV qm qH jB
 have JT:=zcj VD T jV qm qH jB jf
 have zc8:Fn P w K mg base 41 "rung" ["messages","turns","bells","late"] (zc1 K):=zf0 zdf T (Vs xr T) (zcY zdh)
 have Jk:FnE P w K mg base 42 "sent" ["note","turns","bells","late"] (XQ zp zG zj):=ze9 zdg T zV qj z8 jf (zc6 xr T kO Z8) zA (ze0 zbv T) zc8
 have xU:FnE P w K mg base 5 "received" ["reading","turns","bells","late"] (zc9 K za):=zbp JX T (zf9 jh T (Wm Zg T) Jl) zA (JS vN T) JT
 have Zc:=FnE.mono (Yk Qg T hT zJ zW z8 kh xU) (show 6≤44 by decide)
 have yC:FnE P w K mg base 45 "choice_told" ["words"] (fun _ _ _ _=>False):=XS Zj
 have zhl:FnE P w K mg base 4 "unkeyed" ["reading","turns","bells","late"] (fun _ _ _ _=>False):=XS VB
 have zhm:FnE P w K mg base 3 "read" ["reading","turns","bells","late"] (fun _ _ _ _=>False):=XS zbu
 have zld:Fn P w K mg base 1 "number_told" ["number"] (fun _ _ _ _=>False):=zdA (fun _ _ _ _ h=>h.elim) (zaY (XS (k:=1) Zi))
 obtain⟨f1,⟨fd1,F1',b1⟩,l1⟩:=O.d_Frame_init
 obtain⟨f2,⟨fd2,F2',b2⟩,l2⟩:=O.d_Desk_init
 obtain⟨f3,⟨fd3,F3',b3⟩,l3⟩:=O.d_Desk_told
 obtain⟨f4,⟨fd4,F4',b4⟩,l4⟩:=O.d_Desk_keep
 obtain⟨f5,⟨fd5,F5',b5⟩,l5⟩:=O.d_Desk_ring
 obtain⟨f6,⟨fd6,F6',b6⟩,l6⟩:=O.d_Desk_listen
 obtain⟨f7,⟨fd7,F7',b7⟩,l7⟩:=O.d_Desk_send_note
 obtain⟨f8,⟨fd8,F8',b8⟩,l8⟩:=O.d_Desk_kept
 have Wk:MkX CX0 P w K mg base 1 zH ["self","turns","bells","late"] (Wj zH):=⟨f1,fd1,zd6 F1' hT,l1,b1⟩
 have zgs:MkX CX0 P w K mg base 1 zy ["self"] (zca zy zH):=⟨f2,fd2,zd7 F2' hT,l2,b2⟩
 have Jj:MtE P w K mg base 1 zy "kept" ["self","name"] (zbd zy zH zr):=⟨f8,fd8,zfW F8' hT xj yz,hT.cd,l8,b8⟩
 have zbh:MtE P w K mg base 45 zy "keep" ["self","words"] (zbf zy zH zc):=⟨f4,fd4,(zfX F4' hT Z0 ju ql Qz Wk kh).mono (by decide),hT.cd,l4,b4⟩
 have zbi:MtE P w K mg base 45 zy "ring" ["self","words"] (fun _ _ _ _=>False):=⟨f5,fd5,⟨fun _ _ _ _ h=>h.elim,fun _ _ _ _ _ _ _ _ _ _ _ _ _ h=>h.elim⟩,hT.cd,l5,b5⟩
 have Vo:MtE P w K mg base 45 zy "listen" ["self","words"] (Vp zy zH zr _):=⟨f6,fd6,zcZ F6' hT ju QC Jj zhm zhl zld Zc,hT.cd,l6,b6⟩
 have Z2:MtE P w K mg base 45 zy "send_note" ["self","words"] (zbg K zy zH zc zr _):=⟨f7,fd7,zce F7' hT ju Jj (FnE.mono Jk (show 42≤44 by decide)) Z1,hT.cd,l7,b7⟩
 have zbr:MtE P w K mg base 46 zy "told" ["self","order"] (spD K zy zH zc zr _ _):=⟨f3,fd3,zfY F3' T hT zL zT zbh zbi Vo Z2 yC,hT.cd,l3,b3⟩
 let S:Cs:=⟨zr,zj,za,zp,zG,zc,zX,zm⟩
 have X0:XF K S zr 0:=Q5
 have X1:XF K S zj 1:=yH
 have X2:XF K S za 2:=wO
 have X3:XF K S zp 3:=Q6
 have X4:XF K S zG 4:=X8
 have yI:Fn P w K mg base 1 "_law_cell_at" ["script","k"] (zeG K):=zcM yG T
 have zf:Fn P w K mg base 1 "_law_drawn" ["cell","k"] zcN:=zkY Qh
 have yj:=zfm Qj T zf
 have zbw:=zfk Qi T zf
 have xV:=zgh QW T zf
 have qP:Fn P w K mg base 1 "_law_kind" ["e"] (zfe K S):=zgb QX T xj zV zJ qH kO zL kj
 have qp:=zff QZ T (S:=S) rfl z6 z7 zbr qP
 have xW:=zfp Q0 T (S:=S) rfl z6 z7 X3 X4 X1 qP Jk
 have wU:=zgp wW T (S:=S) rfl z6 z7 X2 qP zA xU
 have QL:=zfr Q3 T X3 X4 X1 xV xW qp
 have QM:=zft Q4 T X2 (fun rd t b l Fr b1 c3 rl few=>(zgl (K:=K) (CR:=za) Fr b1 c3 rl few).imp fun o h=>⟨h.1,h.2⟩) zf xV xW wU qp
 have zbx:=zfw Qk T X0 zf zA yj QL QM qp
 refine F.ok QQ (fun vs H Q E h=>?_) (fun cdv A outer s H vs Q E hr h=>?_)
 ·obtain⟨a,ns,rfl,_⟩:=h
  rfl
 ·obtain⟨a,ns,rfl,hS,hlen,q⟩:=h
  have hu:=zfC hr
  refine⟨_,(pss_cons (ps_set (i:=1) QQ.nd rfl (Or.inl rfl) (zgV zgs (hr.mono (by decide)) (by rfl) Wz))
   (pss_cons (ps_set (i:=2) QQ.nd rfl (Or.inl rfl) pe_dnewK)
   (pss_cons (ps_set (i:=3) QQ.nd rfl (Or.inl rfl) (zq zbw (hr.mono (by decide)) (by rfl) (pa_cons (zq yI (hr.mono (by decide)) (by rfl) (pa_cons (pv 0) (pa_cons pe_int pa_nil))) pa_nil)))
   (pss_cons (ps_set (i:=4) QQ.nd rfl (Or.inl rfl) (zq yj (hr.mono (by decide)) (by rfl) (pa_cons (zq yI (hr.mono (by decide)) (by rfl) (pa_cons (pv 0) (pa_cons pe_int pa_nil))) pa_nil)))
   (pss_cons (ps_dput (hu_of hr) (pv 2) (pe_ix ix_list (pv 3) pe_int (fun _ _=>rfl)) (pv 4) rfl)
   (pss_cons (ps_set (i:=5) QQ.nd rfl (Or.inl rfl) (pe_bm PySem.F.plainAttrs_str PySem.F.slot_str_join PySem.F.type_str_join ZQ pe_str (pa_cons (pe_op op_cat (pe_lst (pa_cons pe_str (pa_cons (pe_ix ix_list (pv 3) pe_int (fun _ _=>rfl)) pa_nil))) (jT (own:=["number"]) (fr:=[]) (ix:=[]) rfl ⟨rfl,rfl,rfl,rfl,rfl,rfl⟩ (pi_tup (pv 4)) (fun _ _ _ _ _=>(pg_name (i:=0) (show (["number"]:List Str).Nodup by decide +kernel) rfl (Or.inl rfl))) (fun _ _ _ _ _=>qJ) (fun _ _ _ _ _=>(pe_callTy call_str_int (by rfl) T.z_str Jq (pa_cons (pv 0) pa_nil))))) pa_nil)))
   (pss_cons (ps_if (pt_cmpR (zgi hu) (zq qp (hr.mono (by decide)) (by rfl) (pa_cons (pv 1) (pa_cons (pv 5) pa_nil))) (pe_tup (pa_cons pe_str (pa_cons (pe_op op_add_str pe_str (pe_callTy call_str_int (by rfl) T.z_str Jq (pa_cons (zq zA (hr.mono (by decide)) (by rfl) (pa_cons (pe_ix ix_tup (pv 4) pe_int (fun _ _=>rfl)) (pa_cons (pe_ix ix_tup (pv 4) pe_int (fun _ _=>rfl)) (pa_cons (pe_ix ix_tup (pv 4) pe_int (fun _ _=>rfl)) pa_nil)))) pa_nil))) pa_nil))) (nomark _))
    (pss_one (ps_ret pe_bl))
    pss_nil)
   (pss_cons (ps_for PassesOwn.never rfl (pi_list (pe_op op_cat (pe_lst (pa_cons (zq yI (hr.mono (by decide)) (by rfl) (pa_cons (pv 0) (pa_cons pe_int pa_nil))) pa_nil)) (pe_slice sl_list (pv 0) (po_some pe_int) (po_some pe_int)))) (pg_name (i:=6) QQ.nd rfl (Or.inl rfl))
    (pss_cons (ps_set (i:=7) QQ.nd rfl (Or.inl rfl) (pe_ix ix_list (pv 3) (pe_ix ix_list (pe_lst (pa_cons pe_int (pa_cons pe_int (pa_cons pe_int (pa_cons pe_int (pa_cons pe_int (pa_cons pe_int pa_nil))))))) (pe_op zF (zq zf (hr.mono (by decide)) (by rfl) (pa_cons (pv 6) (pa_cons pe_int pa_nil))) pe_int) (fun _ _=>rfl)) (fun _ _=>rfl)))
    (pss_one (ps_if (pt_not (pt_val (zq zbx (hr.mono (by decide)) (by rfl) (pa_cons (pv 1) (pa_cons (pv 2) (pa_cons (pv 7) (pa_cons (pv 6) pa_nil)))))))
     (pss_one (ps_ret pe_bl))
     pss_nil))))
   (pss_one (ps_ret pe_bl)))))))))),?_⟩
  refine fun x1 y1 hx1 hy1 ne1=>⟨x1,y1,rfl,upd_same,fun d1 H2 sx1 hd1 hD1=>⟨rfl,fun e1 he1=>?_⟩⟩
  have s2:=zfx hx1 hy1 sx1
  obtain⟨kd1,hkd1,_⟩:=hD1.dict
  have c1:d1≠e1:=fun z=>by rw [z,he1] at hkd1;cases hkd1
  have s23:Same H2 (upd H2 e1 (.dK [])):=Same.new he1
  have hE3:(upd H2 e1 (.dK [])) e1=some (.dK []):=upd_same
  generalize upd H2 e1 (.dK [])=H3 at s23 hE3 ⊢
  have BK3:QK zy zH x1 d1 e1 0 (fun _=>none) H3:=⟨hD1.mono s23,c1,⟨[],hE3,Nat.le_refl _,fun _ _=>rfl,fun _ _ _ _ z=>nomatch z⟩,fun _ _ _ _ z=>nomatch z⟩
  have s3:=s2.trans s23
  refine⟨_,rfl,a,ns,0,rfl,s3.seq hS,by decide,_,rfl,fun pn na nb nc H4 s34 hN g1 g2 g3=>?_⟩
  have s4:=s3.trans s34
  refine⟨_,rfl,a,ns,0,rfl,s4.seq hS,by decide,_,rfl,fun pf t b l H5 s45 hF fo=>?_⟩
  have hN5:=s45 _ _ hN
  have s5:=s4.trans s45
  have BK5:=BK3.mono (s34.trans s45)
  obtain⟨kvs,he,kl,kp⟩:=BK5.put
  obtain⟨hD6,hF6,y6,kb⟩:=kp na pf t b l hF fo
  have a30:atI [V.str na,V.str nb,V.str nc] 0=some (V.str na):=rfl
  have ne5:pn≠e1:=fun z=>by rw [z,he] at hN5;cases hN5
  have hN6:=y6 _ _ hN5 ne5
  have hS6:SqL K (upd H5 e1 (.dK (putK kvs (Sum.inr na) (V.ref pf)))) a (ns.map V.int):=by
   rcases s5.seq hS with h | h
   ·rcases h with h | ⟨o,h⟩
    ·exact .inl (.inl (y6 _ _ h (fun z=>by rw [z,he] at h;cases h)))
    ·exact .inl (.inr ⟨o,y6 _ _ h (fun z=>by rw [z,he] at h;cases h)⟩)
   ·exact .inr h
  refine⟨_,rfl,_,rfl,_,rfl,pn,_,0,_,rfl,rfl,SqL.of hN5,a30,e1,_,rfl,DPut.k (k:=Sum.inr na) he (by rw [sizeLine_eq];omega),?_⟩
  generalize upd H5 e1 (.dK (putK kvs (Sum.inr na) (V.ref pf)))=H6 at hD6 hF6 kb hN6 hS6 ⊢
  clear y6
  have hb5:=fo.b5
  have gl:=g1.le
  refine⟨rfl,_,rfl,pn,_,0,_,rfl,rfl,SqL.of hN6,a30,(by show 2≤sizeLine;decide),fun pl hpl=>?_⟩
  have s67:Same H6 (upd H6 pl (.lst [V.str "frame",V.str na])):=Same.new hpl
  have h7:(upd H6 pl (.lst [V.str "frame",V.str na])) pl=some (.lst [V.str "frame",V.str na]):=upd_same
  generalize upd H6 pl (.lst [V.str "frame",V.str na])=H7 at s67 h7 ⊢
  have hF7:H7 pf=some (.tup ([t,b,l].map V.int)):=s67 _ _ hF6
  refine⟨_,rfl,pf,rfl,⟨_,SqT.of hF7⟩,fun ac hac=>zag (K:=K) (a:=pf) (xs:=[t,b,l].map V.int) (fun i=>V.str (txt ([t,b,l].getD i 0))) hF7 hac (by show 3≤sizeLine;decide) (fun i v H9 R hx s9 hR=>?_) ?_⟩
  ·rw [List.getElem?_map] at hx
   obtain⟨y,hy,rfl⟩:=Option.map_eq_some_iff.mp hx
   have yb:=hb5 y (List.mem_of_getElem? hy)
   simp only [List.getD_eq_getElem?_getD,hy,Option.getD_some] at hR
   exact⟨rfl,_,rfl,y,rfl,lg yb.1 yb.2,hR⟩
  rw [ZG [t,b,l]]
  have s78:Same H7 (upd H7 ac (.lst (([t,b,l].map txt).map V.str))):=Same.new hac
  have h8:(upd H7 ac (.lst (([t,b,l].map txt).map V.str))) ac=some (.lst (([t,b,l].map txt).map V.str)):=upd_same
  generalize upd H7 ac (.lst (([t,b,l].map txt).map V.str))=H8 at s78 h8 ⊢
  have sl:=Ji hb5
  refine⟨pl,ac,_,_,rfl,rfl,s78 _ _ h7,h8,(by show 2+3≤sizeLine;decide),fun pj hpj=>⟨" ",pj,"frame"::na::[t,b,l].map txt,rfl,rfl,SqL.of upd_same,?_,?_⟩⟩
  ·rw [bl1,List.map_cons,List.map_cons,List.sum_cons,List.sum_cons,bl5]
   show 5+(na.length+(([t,b,l].map txt).map (·.length)).sum)+5*1≤_
   have:[t,b,l].length=3:=rfl
   omega
  have s9:=(s67.trans s78).put hpj (o:=.lst ([V.str "frame",V.str na]++([t,b,l].map txt).map V.str))
  generalize upd H8 pj (.lst ([V.str "frame",V.str na]++([t,b,l].map txt).map V.str))=H9 at s9 ⊢
  have tb:=Qy fo.ok.t0 fo.ok.t1
  have lb:=Qy fo.ok.l0 fo.ok.l1
  have b4':=fo.b4
  have hD9:=hD6.mono s9
  obtain⟨dx,hx9⟩:=hD9.self
  obtain⟨kd9,hkd9,_⟩:=hD9.dict
  have c0:=JN t b l
  have c1':=fo.ok.c1
  have tl:=ZJ c0 c1'
  refine⟨_,rfl,_,rfl,x1,dx,fr1 d1,_,(fun v H'=>v=.str ("messages "++txt (cnt t b l))∧je d1 H9 H'∧qd zy zH x1 d1 1 (Qm (fun _=>none) na (t,b,l)) H'),(fun _ _=>False),rfl,hx9,wR (by decide +kernel),fun Q' E' qa qr=>Wl hD9 (by decide) g1 fo.ok (fun H' s' h'=>qa _ _ ⟨rfl,s',h'⟩),fun v HA aA=>?_,fun _ _ z=>z.elim⟩
  obtain⟨rfl,s9A,hDA⟩:=aA
  obtain⟨BA,yA⟩:=kb H9 HA s9 s9A hDA
  have hNA:=je.lst hkd9 s9A (s9 _ _ hN6)
  have hSA:=je.seq hkd9 s9A (s9.seq hS6)
  have hF9:=s9 _ _ hF6
  have hFA:=s9A _ _ hF9 fun z=>by rw [z,hkd9] at hF9;cases hF9
  refine⟨_,rfl,fun pt HB sAB hB=>?_⟩
  have A1:=SqT.of (K:=K) (sAB _ _ hFA)
  refine⟨_,rfl,pf,_,0,_,rfl,rfl,A1,rfl,_,rfl,pf,_,1,_,rfl,rfl,A1,rfl,_,rfl,pf,_,2,_,rfl,rfl,A1,rfl,t,b,l,rfl,fo.ok.b0,by omega,fo.ok.l0,zg lb (by decide),zg tb (by decide),_,rfl,lg c0 c1',_,_,rfl,rfl,(by rw [bl9,sizeLine_eq];show 9+(txt (cnt t b l)).length≤_;omega),(by show 2≤sizeLine;decide),fun pu hpu=>?_⟩
  refine⟨pt,pu,_,_,rfl,rfl,(Same.new hpu) _ _ hB,upd_same,Jo,Wt Jv (Ws c0),_,rfl,iteF ?_⟩
  have sAC:=sAB.put hpu (o:=.tup [.str "told",.str ("messages "++Str.ofString (toString (cnt t b l)))])
  generalize upd HB pu (.tup [.str "told",.str ("messages "++Str.ofString (toString (cnt t b l)))])=HC at sAC ⊢
  have BC:=BA.mono sAC
  have hNC:=sAC _ _ hNA
  have hSC:=sAC.seq hSA
  clear BA hNA hSA hDA hFA kb hD9 hD6 hN6 hS6 BK5 BK3 hN5 hN
  refine⟨_,rfl,a,ns,0,rfl,hSC,by decide,(by show 1≤sizeLine;decide),fun pe hpe=>?_⟩
  have sD:Same HC (upd HC pe (.lst [V.int (cellOf ns 0)])):=Same.new hpe
  have hD:(upd HC pe (.lst [V.int (cellOf ns 0)])) pe=some (.lst [V.int (cellOf ns 0)]):=upd_same
  generalize upd HC pe (.lst [V.int (cellOf ns 0)])=HD at sD hD ⊢
  refine⟨_,rfl,_,rfl,_,rfl,_,_,rfl,sD.seq hSC,fun ps hps=>?_⟩
  rw [zds]
  have cl:=zeH ns (some 1) (some 9)
  generalize zfS ns (some 1) (some 9)=cs at cl
  have sE:Same HD (upd HD ps (.lst (cs.map V.int))):=Same.new hps
  have hE:(upd HD ps (.lst (cs.map V.int))) ps=some (.lst (cs.map V.int)):=upd_same
  generalize upd HD ps (.lst (cs.map V.int))=HE at sE hE ⊢
  refine⟨pe,ps,_,_,rfl,rfl,sE _ _ hD,hE,(by rw [List.length_map,sizeLine_eq];show 1+cs.length≤_;omega),fun pa hpa=>?_⟩
  have ec:[V.int (cellOf ns 0)]++cs.map V.int=(cellOf ns 0::cs).map V.int:=rfl
  rw [ec]
  have cl2:(cellOf ns 0::cs).length≤200:=by rw [List.length_cons];omega
  generalize cellOf ns 0::cs=cs2 at cl2
  have sF:Same HE (upd HE pa (.lst (cs2.map V.int))):=Same.new hpa
  have hFF:(upd HE pa (.lst (cs2.map V.int))) pa=some (.lst (cs2.map V.int)):=upd_same
  generalize upd HE pa (.lst (cs2.map V.int))=HF at sF hFF ⊢
  have sCF:=(sD.trans sE).trans sF
  have BF:=BC.mono sCF
  have hNF:=sCF _ _ hNC
  refine⟨pa,rfl,⟨_,SqL.of hFF⟩,for_list (K:=K) (a:=pa) (xs:=cs2.map V.int) (fun i σ Hn=>∃(n:Nat) (fr:Str→Option (Int×Int×Int)) (v6 v7:Option V),σ=[some (.ref a),some (.ref x1),some (.ref e1),some (.ref pn),some (.ref pf),some (.str (Txt.join " " ("frame"::na::[t,b,l].map txt))),v6,v7]∧n≤i+1∧QK zy zH x1 d1 e1 n fr Hn∧Hn pn=some (.lst [V.str na,V.str nb,V.str nc])∧Hn pa=some (.lst (cs2.map V.int))) ⟨1,_,none,none,rfl,Nat.le_refl _,BF,hNF,hFF⟩ (fun i σ Hn _ ⟨_,_,_,_,_,_,_,_,h⟩=>SqL.of h) ?_ ?_⟩
  ·rintro i y σ Hn hy ⟨n,fr,v6,v7,rfl,ni,BK,hNn,hPa⟩
   have il:=(List.getElem?_eq_some_iff.mp hy).1
   rw [List.length_map] at il
   rw [List.getElem?_map] at hy
   obtain⟨c,hc,rfl⟩:=Option.map_eq_some_iff.mp hy
   refine⟨_,rfl,(by show 6≤sizeLine;decide),fun p6 hp6=>?_⟩
   have s6:Same Hn (upd Hn p6 (.lst [V.int 0,V.int 0,V.int 0,V.int 0,V.int 1,V.int 2])):=Same.new hp6
   have h6:(upd Hn p6 (.lst [V.int 0,V.int 0,V.int 0,V.int 0,V.int 1,V.int 2])) p6=some (.lst [V.int 0,V.int 0,V.int 0,V.int 0,V.int 1,V.int 2]):=upd_same
   generalize upd Hn p6 (.lst [V.int 0,V.int 0,V.int 0,V.int 0,V.int 1,V.int 2])=Hm at s6 h6 ⊢
   refine⟨_,rfl,c,12,rfl,by decide,fun d12 w0 w1=>⟨_,_,rfl,rfl,(by decide),?_⟩⟩
   obtain⟨ix,e6,i3⟩:=zlY (d:=d12)
   obtain⟨nm,en,gn⟩:=zlX g1 g2 g3 i3
   refine⟨_,_,_,_,rfl,rfl,SqL.of h6,e6,_,_,_,_,rfl,rfl,SqL.of (s6 _ _ hNn),en,?_⟩
   have BKm:=BK.mono s6
   refine⟨_,rfl,_,rfl,_,rfl,_,rfl,x1,d1,e1,n,fr,nm,c,rfl,BKm,by omega,gn,fun fr' H' b' s'=>⟨_,rfl,iteF ⟨n+1,fr',_,_,rfl,by omega,b',zcn BKm s' (s6 _ _ hNn),zcn BKm s' (s6 _ _ hPa)⟩⟩⟩
  ·rintro σ Hn ⟨n,fr,v6,v7,rfl,ni,BK,hNn,hPa⟩
   exact q _
end
theorem zgt {α:Type}{F:List α→Prop}{us:List α} (h:us.length=0) (k:F []):F us:=by
 cases us with
 | nil=>exact k
 | cons a r=>cases h
theorem zdM {α:Type}{F:List α→Prop}{us:List α} (h:us.length=1) (k:∀a,F [a]):F us:=by
 cases us with
 | nil=>cases h
 | cons a r=>exact zgt (F:=fun r=>F (a::r)) (Nat.succ.inj h) (k a)
theorem zdN {α:Type}{F:List α→Prop}{us:List α} (h:us.length=2) (k:∀a b,F [a,b]):F us:=by
 cases us with
 | nil=>cases h
 | cons a r=>exact zdM (F:=fun r=>F (a::r)) (Nat.succ.inj h) (k a)
theorem zdO {α:Type}{F:List α→Prop}{us:List α} (h:us.length=3) (k:∀a b c,F [a,b,c]):F us:=by
 cases us with
 | nil=>cases h
 | cons a r=>exact zdN (F:=fun r=>F (a::r)) (Nat.succ.inj h) (k a)
theorem zdP {α:Type}{F:List α→Prop}{us:List α} (h:us.length=4) (k:∀a b c d,F [a,b,c,d]):F us:=by
 cases us with
 | nil=>cases h
 | cons a r=>exact zdO (F:=fun r=>F (a::r)) (Nat.succ.inj h) (k a)
theorem zgu {α:Type}{F:List α→Prop}{us:List α} (h:us.length=5) (k:∀a b c d e,F [a,b,c,d,e]):F us:=by
 cases us with
 | nil=>cases h
 | cons a r=>exact zdP (F:=fun r=>F (a::r)) (Nat.succ.inj h) (k a)
theorem zO {fd:FuncData}{ps:List Str}{us:List Value} (h:us.length=1) (k:∀a,bindArgs fd ⟨[a],[]⟩=pure (ps.zip [a])):bindArgs fd ⟨us,[]⟩=pure (ps.zip us):=zdM (F:=fun us=>bindArgs fd ⟨us,[]⟩=pure (ps.zip us)) h k
theorem zB {fd:FuncData}{ps:List Str}{us:List Value} (h:us.length=2) (k:∀a b,bindArgs fd ⟨[a,b],[]⟩=pure (ps.zip [a,b])):bindArgs fd ⟨us,[]⟩=pure (ps.zip us):=zdN (F:=fun us=>bindArgs fd ⟨us,[]⟩=pure (ps.zip us)) h k
theorem jO {fd:FuncData}{ps:List Str}{us:List Value} (h:us.length=3) (k:∀a b c,bindArgs fd ⟨[a,b,c],[]⟩=pure (ps.zip [a,b,c])):bindArgs fd ⟨us,[]⟩=pure (ps.zip us):=zdO (F:=fun us=>bindArgs fd ⟨us,[]⟩=pure (ps.zip us)) h k
theorem qw {fd:FuncData}{ps:List Str}{us:List Value} (h:us.length=4) (k:∀a b c d,bindArgs fd ⟨[a,b,c,d],[]⟩=pure (ps.zip [a,b,c,d])):bindArgs fd ⟨us,[]⟩=pure (ps.zip us):=zdP (F:=fun us=>bindArgs fd ⟨us,[]⟩=pure (ps.zip us)) h k
theorem zdi {fd:FuncData}{ps:List Str}{us:List Value} (h:us.length=5) (k:∀a b c d e,bindArgs fd ⟨[a,b,c,d,e],[]⟩=pure (ps.zip [a,b,c,d,e])):bindArgs fd ⟨us,[]⟩=pure (ps.zip us):=zgu (F:=fun us=>bindArgs fd ⟨us,[]⟩=pure (ps.zip us)) h k
noncomputable def DI (K:W.Frag) (x:Str) (st:Stmt) (f:Addr):Prop:=∃(oc:Value) (od:Option Addr) (sl:Array (Option Value)) (kV dc pm:Value) (an:Option Addr) (cd ct:Value),W.nsIn K mainGlobals x=some (some (.ref f))∧K.lookup f=some ⟨oc,od,.func (W.fnOf x x (defArgs st) (defBody st) (defScope st) .none kV dc pm an cd ct),sl⟩∧W.codeIn K cd x=true∧W.keepIn K (.ref f)=true
theorem DI.dd {K:W.Frag}{h:Heap}{mg:Str→Option Value}{x:Str}{st:Stmt}{f:Addr}{ps:List Str} (d:DI K x st f) (X:K.In h) (G:h.Ns mainGlobals mg) (hb:∀(kV dc pm:Value) (an:Option Addr) (cd ct:Value) (us:List Value),us.length=ps.length→bindArgs (W.fnOf x x (defArgs st) (defBody st) (defScope st) .none kV dc pm an cd ct) ⟨us,[]⟩=pure (ps.zip us)):Def K mg x st ps:=by
 obtain⟨oc,od,sl,kV,dc,pm,an,cd,ct,a,l,c,k⟩:=d
 exact⟨f,_,fun_mk l c k,(fun_mk (st:=st) l c k).binds (ps:=ps) hb,W.mg_of X G a⟩
theorem di_mk {K:W.Frag}{x:Str}{st:Stmt}{f:Addr}{oc:Value}{od:Option Addr}{sl:Array (Option Value)}{kV dc pm:Value}{an:Option Addr}{cd ct:Value} (a:W.nsIn K mainGlobals x=some (some (.ref f))) (l:K.lookup f=some ⟨oc,od,.func (W.fnOf x x (defArgs st) (defBody st) (defScope st) .none kV dc pm an cd ct),sl⟩) (c:W.codeIn K cd x=true) (k:W.keepIn K (.ref f)=true):DI K x st f:=⟨_,_,_,_,_,_,_,_,_,a,l,c,k⟩
theorem all_mk {l:W.OpenLaw} (hP:l.prog.given.tree=none){w:World}{K:W.Frag}{h:Heap}{mg:Str→Option Value}{fa:Addr} (X:K.In h) (G:h.Ns mainGlobals mg) (hfa:mg "law"=some (.ref fa))
  {f0:Addr} (d0:DI K "choose" Zw f0)
  {f1:Addr} (d1:DI K "top_of" Vf f1)
  {f2:Addr} (d2:DI K "top_from" wG f2)
  {f3:Addr} (d3:DI K "above_top" xY f3)
  {f4:Addr} (d4:DI K "rounded_up" jY f4)
  {f5:Addr} (d5:DI K "box_of" Zx f5)
  {f6:Addr} (d6:DI K "bell_row" wH f6)
  {f7:Addr} (d7:DI K "heard_box" xZ f7)
  {f8:Addr} (d8:DI K "box_count" vd f8)
  {f9:Addr} (d9:DI K "greatest_part" qZ f9)
  {f10:Addr} (d10:DI K "shortest_frame" vf f10)
  {f11:Addr} (d11:DI K "best_bells" yX f11)
  {f12:Addr} (d12:DI K "cheapest" Qv f12)
  {f13:Addr} (d13:DI K "box_number" jZ f13)
  {f14:Addr} (d14:DI K "box_of_message" qM f14)
  {f15:Addr} (d15:DI K "written" yq f15)
  {f16:Addr} (d16:DI K "read" Xw f16)
  {f17:Addr} (d17:DI K "keyed_count" yr f17)
  {f18:Addr} (d18:DI K "keyed" Wc f18)
  {f19:Addr} (d19:DI K "unkeyed" JK f19)
  {f20:Addr} (d20:DI K "refuse_silent" qx f20)
  {f21:Addr} (d21:DI K "rung" Xx f21)
  {f22:Addr} (d22:DI K "by_messages" jJ f22)
  {f23:Addr} (d23:DI K "note_number" jK f23)
  {f24:Addr} (d24:DI K "note_of" yt f24)
  {f25:Addr} (d25:DI K "parts" Qw f25)
  {f26:Addr} (d26:DI K "number_of_parts" qy f26)
  {f27:Addr} (d27:DI K "sent" Xy f27)
  {f28:Addr} (d28:DI K "received" wI f28)
  {f29:Addr} (d29:DI K "messages_ahead_of_end" zY f29)
  {f30:Addr} (d30:DI K "is_made_of" j4 f30)
  {f31:Addr} (d31:DI K "name_in" yu f31)
  {f32:Addr} (d32:DI K "figures_in" j5 f32)
  {f33:Addr} (d33:DI K "number_in" vg f33)
  {f34:Addr} (d34:DI K "message_in" yZ f34)
  {f35:Addr} (d35:DI K "bells_in" wJ f35)
  {f36:Addr} (d36:DI K "turns_in" wK f36)
  {f37:Addr} (d37:DI K "number_told" yw f37)
  {f38:Addr} (d38:DI K "turns_told" j6 f38)
  {f39:Addr} (d39:DI K "count_of" wL f39)
  {f40:Addr} (d40:DI K "note_heard" j7 f40)
  {f41:Addr} (d41:DI K "choice_told" yx f41)
  {f42:Addr} (d42:DI K "cheapest_told" vZ f42)
  {f43:Addr} (d43:DI K "_law_cell_at" jA f43)
  {f44:Addr} (d44:DI K "_law_drawn" j8 f44)
  {f45:Addr} (d45:DI K "_law_names" j9 f45)
  {f46:Addr} (d46:DI K "_law_frame" xf f46)
  {f47:Addr} (d47:DI K "_law_text" vh f47)
  {f48:Addr} (d48:DI K "_law_kind" vp f48)
  {f49:Addr} (d49:DI K "_law_told" vq f49)
  {f50:Addr} (d50:DI K "_law_sent" vz f50)
  {f51:Addr} (d51:DI K "_law_received" jb f51)
  {f52:Addr} (d52:DI K "_law_note" vA f52)
  {f53:Addr} (d53:DI K "_law_hear" vB f53)
  {f54:Addr} (d54:DI K "_law_order" xg f54)
  {f55:Addr} (d55:DI K "law" Vg f55)
  (z_range:W.nsIn K mainGlobals "range"=some none)
  (z_isinstance:W.nsIn K mainGlobals "isinstance"=some none)
  (z_int:W.nsIn K mainGlobals "int"=some none)
  (z_bool:W.nsIn K mainGlobals "bool"=some none)
  (z_len:W.nsIn K mainGlobals "len"=some none)
  (z_list:W.nsIn K mainGlobals "list"=some none)
  (z_max:W.nsIn K mainGlobals "max"=some none)
  (z_min:W.nsIn K mainGlobals "min"=some none)
  (z_enumerate:W.nsIn K mainGlobals "enumerate"=some none)
  (z_sorted:W.nsIn K mainGlobals "sorted"=some none)
  (z_sum:W.nsIn K mainGlobals "sum"=some none)
  (z_all:W.nsIn K mainGlobals "all"=some none)
  (z_str:W.nsIn K mainGlobals "str"=some none)
  (zdr:W.nsIn K mainGlobals "zip"=some none)
  (z_reversed:W.nsIn K mainGlobals "reversed"=some none)
  (z_ValueError:W.nsIn K mainGlobals "ValueError"=some none)
  {zm:Addr} (z6:W.nsIn K mainGlobals "BellError"=some (some (.ref zm)))
  {zG:Addr} (kO:W.nsIn K mainGlobals "NoRow"=some (some (.ref zG)))
  {za:Addr} (zJ:W.nsIn K mainGlobals "NoReading"=some (some (.ref za)))
  {zj:Addr} (zV:W.nsIn K mainGlobals "TooGreat"=some (some (.ref zj)))
  {zX:Addr} (kj:W.nsIn K mainGlobals "TooMany"=some (some (.ref zX)))
  {zp:Addr} (qH:W.nsIn K mainGlobals "NoNote"=some (some (.ref zp)))
  {zc:Addr} (zL:W.nsIn K mainGlobals "NoOrder"=some (some (.ref zc)))
  {zr:Addr} (xj:W.nsIn K mainGlobals "NoName"=some (some (.ref zr)))
  {zH:Addr} (Z0:W.nsIn K mainGlobals "Frame"=some (some (.ref zH)))
  {zy:Addr} (Wz:W.nsIn K mainGlobals "Desk"=some (some (.ref zy)))
  {ZC:Tok} (v8:W.nsIn K mainGlobals "LETTERS"=some (some (.str "abcdefghijklmnopqrstuvwxyz" ZC)))
  {jL:Tok} (qC:W.nsIn K mainGlobals "MOST_LETTERS"=some (some (.int 8 jL)))
  {ZD:Tok} (v9:W.nsIn K mainGlobals "FIGURES"=some (some (.str "0123456789" ZD)))
  {jM:Tok} (qD:W.nsIn K mainGlobals "MOST_FIGURES"=some (some (.int 60 jM)))
  {qK:Tok} (qg:W.nsIn K mainGlobals "MOST_FIGURES_OF_MESSAGE"=some (some (.int 3000 qK)))
  {vJ:Tok} (jt:W.nsIn K mainGlobals "MOST_BELLS"=some (some (.int 60 vJ)))
  {Z7:Tok} (jV:W.nsIn K mainGlobals "SIGNS"=some (some (.str "abcdefghijklmnopqrstuvwxyz " Z7)))
  {jw:Tok} (qm:W.nsIn K mainGlobals "MOST_SIGNS"=some (some (.int 60 jw)))
  {qX:Tok} (z8:W.nsIn K mainGlobals "LEAST_COUNT"=some (some (.int 3 qX)))
  (z7:W.excIn K zm bmV "ValueError.__new__"=true)
  (Z8:W.excIn K zG bmV "ValueError.__new__"=true)
  (zW:W.excIn K za bmV "ValueError.__new__"=true)
  (qj:W.excIn K zj bmV "ValueError.__new__"=true)
  (zT:W.excIn K zc bmV "ValueError.__new__"=true)
  (yz:W.excIn K zr bmV "ValueError.__new__"=true)
  (jB:W.excIn K zp bmV "ValueError.__new__"=true)
  (Q5:XF K ⟨zr,zj,za,zp,zG,zc,zX,zm⟩ zr 0)
  (yH:XF K ⟨zr,zj,za,zp,zG,zc,zX,zm⟩ zj 1)
  (wO:XF K ⟨zr,zj,za,zp,zG,zc,zX,zm⟩ za 2)
  (Q6:XF K ⟨zr,zj,za,zp,zG,zc,zX,zm⟩ zp 3)
  (X8:XF K ⟨zr,zj,za,zp,zG,zc,zX,zm⟩ zG 4)
  (J3:W.plainGet K zH Str.empty=true)
  (J4:W.hasDictIn K zH=true)
  (Xa:W.plainOver K zH=true)
  (Xb:W.findIn K (.ref zH) "__setattr__"=some (some (.builtin "object.__setattr__")))
  (Xc:W.makesIn K zH=true)
  (Xd:W.keepIn K (.ref zH)=true)
  (wX:W.findIn K (.ref zH) "turns"=some none)
  (wY:W.findIn K (.ref zH) "bells"=some none)
  (yJ:W.findIn K (.ref zH) "late"=some none)
  (kI:W.findIn K (.ref zH) "frames"=some none)
  (VG:W.plainGet K zy Str.empty=true)
  (VH:W.hasDictIn K zy=true)
  (VJ:W.plainOver K zy=true)
  (VL:W.findIn K (.ref zy) "__setattr__"=some (some (.builtin "object.__setattr__")))
  (VM:W.makesIn K zy=true)
  (VN:W.keepIn K (.ref zy)=true)
  (yK:W.findIn K (.ref zy) "turns"=some none)
  (yL:W.findIn K (.ref zy) "bells"=some none)
  (Zk:W.findIn K (.ref zy) "late"=some none)
  (wZ:W.findIn K (.ref zy) "frames"=some none)
  {xq:Addr}{WD WF:Option Addr}{WK:Array (Option Value)}{WL WM WN WP Q7 WQ:Value}
  (jP:W.findIn K (.ref zH) "__init__"=some (some (.ref xq)))
  (vO:K.lookup xq=some ⟨WL,WD,.func (W.fnOf "__init__" "Frame.__init__" (defArgs qW) (defBody qW) (defScope qW) .none WM WN WP WF Q7 WQ),WK⟩) (vP:W.codeIn K Q7 "Frame.__init__"=true) (yM:W.keepIn K (.ref xq)=true) (yN:W.isFn K (.ref xq)=true)
  {vQ:Addr}{Yl Ym:Option Addr}{Yn:Array (Option Value)}{Yo Yp Yq Yr Jx Ys:Value}
  (xJ:W.findIn K (.ref zy) "__init__"=some (some (.ref vQ)))
  (kY:K.lookup vQ=some ⟨Yo,Yl,.func (W.fnOf "__init__" "Desk.__init__" (defArgs jm) (defBody jm) (defScope jm) .none Yp Yq Yr Ym Jx Ys),Yn⟩) (kZ:W.codeIn K Jx "Desk.__init__"=true) (Zm:W.keepIn K (.ref vQ)=true) (Zn:W.isFn K (.ref vQ)=true)
  {vR:Addr}{Yt Yu:Option Addr}{Yv:Array (Option Value)}{Yw Yx Yy Yz Jy YB:Value}
  (xK:W.findIn K (.ref zy) "told"=some (some (.ref vR)))
  (wg:K.lookup vR=some ⟨Yw,Yt,.func (W.fnOf "told" "Desk.told" (defArgs jo) (defBody jo) (defScope jo) .none Yx Yy Yz Yu Jy YB),Yv⟩) (wj:W.codeIn K Jy "Desk.told"=true) (wk:W.keepIn K (.ref vR)=true) (Zo:W.isFn K (.ref vR)=true)
  {vU:Addr}{YC YD:Option Addr}{YF:Array (Option Value)}{YG YH YJ YK Jz YL:Value}
  (xM:W.findIn K (.ref zy) "keep"=some (some (.ref vU)))
  (wu:K.lookup vU=some ⟨YG,YC,.func (W.fnOf "keep" "Desk.keep" (defArgs jq) (defBody jq) (defScope jq) .none YH YJ YK YD Jz YL),YF⟩) (ww:W.codeIn K Jz "Desk.keep"=true) (wy:W.keepIn K (.ref vU)=true) (Zq:W.isFn K (.ref vU)=true)
  {vV:Addr}{YM YQ:Option Addr}{YS:Array (Option Value)}{YT YW YX YZ JB Y0:Value}
  (xN:W.findIn K (.ref zy) "ring"=some (some (.ref vV)))
  (wz:K.lookup vV=some ⟨YT,YM,.func (W.fnOf "ring" "Desk.ring" (defArgs vC) (defBody vC) (defScope vC) .none YW YX YZ YQ JB Y0),YS⟩) (wA:W.codeIn K JB "Desk.ring"=true) (wB:W.keepIn K (.ref vV)=true) (Zr:W.isFn K (.ref vV)=true)
  {jQ:Addr}{Kd Ke:Option Addr}{Kf:Array (Option Value)}{Kg Kh Kl Km Qo Ko:Value}
  (jR:W.findIn K (.ref zy) "listen"=some (some (.ref jQ)))
  (xu:K.lookup jQ=some ⟨Kg,Kd,.func (W.fnOf "listen" "Desk.listen" (defArgs qz) (defBody qz) (defScope qz) .none Kh Kl Km Ke Qo Ko),Kf⟩) (xx:W.codeIn K Qo "Desk.listen"=true) (xF:W.keepIn K (.ref jQ)=true) (w6:W.isFn K (.ref jQ)=true)
  {qU:Addr}{Xe Xf:Option Addr}{Xg:Array (Option Value)}{Xh Xi Xj Xk yO Xl:Value}
  (ji:W.findIn K (.ref zy) "send_note"=some (some (.ref qU)))
  (jx:K.lookup qU=some ⟨Xh,Xe,.func (W.fnOf "send_note" "Desk.send_note" (defArgs z9) (defBody z9) (defScope z9) .none Xi Xj Xk Xf yO Xl),Xg⟩) (jy:W.codeIn K yO "Desk.send_note"=true) (jz:W.keepIn K (.ref qU)=true) (xO:W.isFn K (.ref qU)=true)
  {vW:Addr}{Y4 Y5:Option Addr}{Y6:Array (Option Value)}{Y7 Y8 Y9 zaa JC zab:Value}
  (xP:W.findIn K (.ref zy) "kept"=some (some (.ref vW)))
  (wC:K.lookup vW=some ⟨Y7,Y4,.func (W.fnOf "kept" "Desk.kept" (defArgs jr) (defBody jr) (defScope jr) .none Y8 Y9 zaa Y5 JC zab),Y6⟩) (wD:W.codeIn K JC "Desk.kept"=true) (wF:W.keepIn K (.ref vW)=true) (Zt:W.isFn K (.ref vW)=true)
  : ∃fd:FuncData,(∀(s:Shared) (v:Value),BindsTo s fd ⟨[v],[]⟩ [("script",v)])∧∀base:Heap,K.In base→base.Ns mainGlobals mg→FnOk l.prog w K mg base CX0 50 fa fd ["script"] (spLaw K):=by
 obtain⟨_,_,_,kL,dL,pL,nL,cL,tL,aL,lL,eL,rL⟩:=d55
 have e:=hfa.symm.trans (W.mg_of X G aL)
 cases e
 have Ww:Def K mg "choose" Zw ["n","k"]:=d0.dd X G fun _ _ _ _ _ _ us hl=>zB hl fun _ _=>rfl
 have zco:Def K mg "top_of" Vf ["k","number"]:=d1.dd X G fun _ _ _ _ _ _ us hl=>zB hl fun _ _=>rfl
 have JV:Def K mg "top_from" wG ["start","k","number"]:=d2.dd X G fun _ _ _ _ _ _ us hl=>jO hl fun _ _ _=>rfl
 have QR:Def K mg "above_top" xY ["k","number"]:=d3.dd X G fun _ _ _ _ _ _ us hl=>zB hl fun _ _=>rfl
 have Qa:Def K mg "rounded_up" jY ["number","divisor"]:=d4.dd X G fun _ _ _ _ _ _ us hl=>zB hl fun _ _=>rfl
 have Wx:Def K mg "box_of" Zx ["row","late"]:=d5.dd X G fun _ _ _ _ _ _ us hl=>zB hl fun _ _=>rfl
 have JW:Def K mg "bell_row" wH ["box","late"]:=d6.dd X G fun _ _ _ _ _ _ us hl=>zB hl fun _ _=>rfl
 have QS:Def K mg "heard_box" xZ ["reading","late"]:=d7.dd X G fun _ _ _ _ _ _ us hl=>zB hl fun _ _=>rfl
 have QT:Def K mg "box_count" vd ["turns","bells","late"]:=d8.dd X G fun _ _ _ _ _ _ us hl=>jO hl fun _ _ _=>rfl
 have wV:Def K mg "greatest_part" qZ ["turns","bells","late"]:=d9.dd X G fun _ _ _ _ _ _ us hl=>jO hl fun _ _ _=>rfl
 have ZL:Def K mg "shortest_frame" vf ["bells","late","many"]:=d10.dd X G fun _ _ _ _ _ _ us hl=>jO hl fun _ _ _=>rfl
 have X6:Def K mg "best_bells" yX ["turns","late","most"]:=d11.dd X G fun _ _ _ _ _ _ us hl=>jO hl fun _ _ _=>rfl
 have Wy:Def K mg "cheapest" Qv ["many","late","turn_cost","bell_cost","most"]:=d12.dd X G fun _ _ _ _ _ _ us hl=>zdi hl fun _ _ _ _ _=>rfl
 have Qc:Def K mg "box_number" jZ ["box"]:=d13.dd X G fun _ _ _ _ _ _ us hl=>zO hl fun _=>rfl
 have km:Def K mg "box_of_message" qM ["message","bells"]:=d14.dd X G fun _ _ _ _ _ _ us hl=>zB hl fun _ _=>rfl
 have Vz:Def K mg "written" yq ["message","turns","bells","late"]:=d15.dd X G fun _ _ _ _ _ _ us hl=>qw hl fun _ _ _ _=>rfl
 have zbu:Def K mg "read" Xw ["reading","turns","bells","late"]:=d16.dd X G fun _ _ _ _ _ _ us hl=>qw hl fun _ _ _ _=>rfl
 have Jw:Def K mg "keyed_count" yr ["turns","bells","late"]:=d17.dd X G fun _ _ _ _ _ _ us hl=>jO hl fun _ _ _=>rfl
 have zdL:Def K mg "keyed" Wc ["message","turns","bells","late"]:=d18.dd X G fun _ _ _ _ _ _ us hl=>qw hl fun _ _ _ _=>rfl
 have VB:Def K mg "unkeyed" JK ["reading","turns","bells","late"]:=d19.dd X G fun _ _ _ _ _ _ us hl=>qw hl fun _ _ _ _=>rfl
 have xr:Def K mg "refuse_silent" qx ["turns","bells"]:=d20.dd X G fun _ _ _ _ _ _ us hl=>zB hl fun _ _=>rfl
 have zdf:Def K mg "rung" Xx ["messages","turns","bells","late"]:=d21.dd X G fun _ _ _ _ _ _ us hl=>qw hl fun _ _ _ _=>rfl
 have Zg:Def K mg "by_messages" jJ ["reading","turns","late"]:=d22.dd X G fun _ _ _ _ _ _ us hl=>jO hl fun _ _ _=>rfl
 have Zh:Def K mg "note_number" jK ["note"]:=d23.dd X G fun _ _ _ _ _ _ us hl=>zO hl fun _=>rfl
 have VD:Def K mg "note_of" yt ["number"]:=d24.dd X G fun _ _ _ _ _ _ us hl=>zO hl fun _=>rfl
 have zbv:Def K mg "parts" Qw ["number","base"]:=d25.dd X G fun _ _ _ _ _ _ us hl=>zB hl fun _ _=>rfl
 have vN:Def K mg "number_of_parts" qy ["figures","base"]:=d26.dd X G fun _ _ _ _ _ _ us hl=>zB hl fun _ _=>rfl
 have zdg:Def K mg "sent" Xy ["note","turns","bells","late"]:=d27.dd X G fun _ _ _ _ _ _ us hl=>qw hl fun _ _ _ _=>rfl
 have JX:Def K mg "received" wI ["reading","turns","bells","late"]:=d28.dd X G fun _ _ _ _ _ _ us hl=>qw hl fun _ _ _ _=>rfl
 have jh:Def K mg "messages_ahead_of_end" zY ["reading","turns","bells","late"]:=d29.dd X G fun _ _ _ _ _ _ us hl=>qw hl fun _ _ _ _=>rfl
 have Qd:Def K mg "is_made_of" j4 ["word","signs","most"]:=d30.dd X G fun _ _ _ _ _ _ us hl=>jO hl fun _ _ _=>rfl
 have VF:Def K mg "name_in" yu ["word"]:=d31.dd X G fun _ _ _ _ _ _ us hl=>zO hl fun _=>rfl
 have Qe:Def K mg "figures_in" j5 ["word","most"]:=d32.dd X G fun _ _ _ _ _ _ us hl=>zB hl fun _ _=>rfl
 have QV:Def K mg "number_in" vg ["word"]:=d33.dd X G fun _ _ _ _ _ _ us hl=>zO hl fun _=>rfl
 have X7:Def K mg "message_in" yZ ["word"]:=d34.dd X G fun _ _ _ _ _ _ us hl=>zO hl fun _=>rfl
 have JZ:Def K mg "bells_in" wJ ["word"]:=d35.dd X G fun _ _ _ _ _ _ us hl=>zO hl fun _=>rfl
 have J1:Def K mg "turns_in" wK ["words"]:=d36.dd X G fun _ _ _ _ _ _ us hl=>zO hl fun _=>rfl
 have Zi:Def K mg "number_told" yw ["number"]:=d37.dd X G fun _ _ _ _ _ _ us hl=>zO hl fun _=>rfl
 have Qf:Def K mg "turns_told" j6 ["turns"]:=d38.dd X G fun _ _ _ _ _ _ us hl=>zO hl fun _=>rfl
 have J2:Def K mg "count_of" wL ["frame"]:=d39.dd X G fun _ _ _ _ _ _ us hl=>zO hl fun _=>rfl
 have Qg:Def K mg "note_heard" j7 ["reading","frame"]:=d40.dd X G fun _ _ _ _ _ _ us hl=>zB hl fun _ _=>rfl
 have Zj:Def K mg "choice_told" yx ["words"]:=d41.dd X G fun _ _ _ _ _ _ us hl=>zO hl fun _=>rfl
 have Qn:Def K mg "cheapest_told" vZ ["words"]:=d42.dd X G fun _ _ _ _ _ _ us hl=>zO hl fun _=>rfl
 have yG:Def K mg "_law_cell_at" jA ["script","k"]:=d43.dd X G fun _ _ _ _ _ _ us hl=>zB hl fun _ _=>rfl
 have Qh:Def K mg "_law_drawn" j8 ["cell","k"]:=d44.dd X G fun _ _ _ _ _ _ us hl=>zB hl fun _ _=>rfl
 have Qi:Def K mg "_law_names" j9 ["cell"]:=d45.dd X G fun _ _ _ _ _ _ us hl=>zO hl fun _=>rfl
 have Qj:Def K mg "_law_frame" xf ["cell"]:=d46.dd X G fun _ _ _ _ _ _ us hl=>zO hl fun _=>rfl
 have QW:Def K mg "_law_text" vh ["cell"]:=d47.dd X G fun _ _ _ _ _ _ us hl=>zO hl fun _=>rfl
 have QX:Def K mg "_law_kind" vp ["e"]:=d48.dd X G fun _ _ _ _ _ _ us hl=>zO hl fun _=>rfl
 have QZ:Def K mg "_law_told" vq ["desk","order"]:=d49.dd X G fun _ _ _ _ _ _ us hl=>zB hl fun _ _=>rfl
 have Q0:Def K mg "_law_sent" vz ["text","frame"]:=d50.dd X G fun _ _ _ _ _ _ us hl=>zB hl fun _ _=>rfl
 have wW:Def K mg "_law_received" jb ["reading","frame"]:=d51.dd X G fun _ _ _ _ _ _ us hl=>zB hl fun _ _=>rfl
 have Q3:Def K mg "_law_note" vA ["desk","name","frame","cell"]:=d52.dd X G fun _ _ _ _ _ _ us hl=>qw hl fun _ _ _ _=>rfl
 have Q4:Def K mg "_law_hear" vB ["desk","name","frame","cell"]:=d53.dd X G fun _ _ _ _ _ _ us hl=>qw hl fun _ _ _ _=>rfl
 have Qk:Def K mg "_law_order" xg ["desk","frames","name","cell"]:=d54.dd X G fun _ _ _ _ _ _ us hl=>qw hl fun _ _ _ _=>rfl
 have O:Own K zH zy:=⟨⟨J3,J4,Xa,Xb⟩,wX,wY,yJ,kI,⟨VG,VH,VJ,VL⟩,yK,yL,Zk,wZ,⟨xq,⟨_,yQ vO vP,(fun_mk (st:=qW) vO vP yM).binds (ps:=["self","turns","bells","late"]) (fun _ _ _ _ _ _ us hl=>qw hl fun _ _ _ _=>rfl)⟩,⟨Xc,jP,yN,Xd⟩⟩,⟨vQ,⟨_,yQ kY kZ,(fun_mk (st:=jm) kY kZ Zm).binds (ps:=["self"]) (fun _ _ _ _ _ _ us hl=>zO hl fun _=>rfl)⟩,⟨VM,xJ,Zn,VN⟩⟩,⟨vR,⟨_,yQ wg wj,(fun_mk (st:=jo) wg wj wk).binds (ps:=["self","order"]) (fun _ _ _ _ _ _ us hl=>zB hl fun _ _=>rfl)⟩,⟨xK,Zo,wk⟩⟩,⟨vU,⟨_,yQ wu ww,(fun_mk (st:=jq) wu ww wy).binds (ps:=["self","words"]) (fun _ _ _ _ _ _ us hl=>zB hl fun _ _=>rfl)⟩,⟨xM,Zq,wy⟩⟩,⟨vV,⟨_,yQ wz wA,(fun_mk (st:=vC) wz wA wB).binds (ps:=["self","words"]) (fun _ _ _ _ _ _ us hl=>zB hl fun _ _=>rfl)⟩,⟨xN,Zr,wB⟩⟩,⟨jQ,⟨_,yQ xu xx,(fun_mk (st:=qz) xu xx xF).binds (ps:=["self","words"]) (fun _ _ _ _ _ _ us hl=>zB hl fun _ _=>rfl)⟩,⟨jR,w6,xF⟩⟩,⟨qU,⟨_,yQ jx jy,(fun_mk (st:=z9) jx jy jz).binds (ps:=["self","words"]) (fun _ _ _ _ _ _ us hl=>zB hl fun _ _=>rfl)⟩,⟨ji,xO,jz⟩⟩,⟨vW,⟨_,yQ wC wD,(fun_mk (st:=jr) wC wD wF).binds (ps:=["self","name"]) (fun _ _ _ _ _ _ us hl=>zB hl fun _ _=>rfl)⟩,⟨xP,Zt,wF⟩⟩⟩
 have T:Txt K mg:=⟨W.mg_none_of X G z_range,W.mg_none_of X G z_isinstance,W.mg_none_of X G z_int,W.mg_none_of X G z_bool,W.mg_none_of X G z_len,W.mg_none_of X G z_list,W.mg_none_of X G z_max,W.mg_none_of X G z_min,W.mg_none_of X G z_enumerate,W.mg_none_of X G z_sorted,W.mg_none_of X G z_sum,W.mg_none_of X G z_all,W.mg_none_of X G z_str,W.mg_none_of X G zdr,W.mg_none_of X G z_reversed,W.mg_none_of X G z_ValueError⟩
 exact⟨W.fnOf "law" "law" (defArgs Vg) (defBody Vg) (defScope Vg) .none kL dL pL nL cL tL,fun s v=>.of_eq rfl,fun base _ _=>ok_law hP (fun_mk lL eL rL) T Ww zco JV QR Qa Wx JW QS QT wV ZL X6 Wy Qc km Vz zbu Jw zdL VB xr zdf Zg Zh VD zbv vN zdg JX jh Qd VF Qe QV X7 JZ J1 Zi Qf J2 Qg Zj Qn yG Qh Qi Qj QW QX QZ Q0 wW Q3 Q4 Qk (W.mg_of X G z6) (W.mg_of X G kO) (W.mg_of X G zJ) (W.mg_of X G zV) (W.mg_of X G kj) (W.mg_of X G qH) (W.mg_of X G zL) (W.mg_of X G xj) (W.mg_of X G Z0) (W.mg_of X G Wz) (W.mg_of X G v8) (W.mg_of X G qC) (W.mg_of X G v9) (W.mg_of X G qD) (W.mg_of X G qg) (W.mg_of X G jt) (W.mg_of X G jV) (W.mg_of X G qm) (W.mg_of X G z8) z7 Z8 zW qj zT yz jB Q5 yH wO Q6 X8 O⟩
theorem walk {l:W.OpenLaw}{q:Program}{loose:List Str}{XP:(Str→Option Value)→Heap→Prop}{YP:World→Heap→Prop}{d:DefRec}{K:Params→W.Frag} (hn:l.most=some 63) (hdf:d.params.defaults=[]) (hq:PyProof.Rows.importsNone q=true)
  (hY:∀(w:World) (h:Heap),YP w h→(K w.params).In h)
  (F:∀(w:World) (mg:Str→Option Value) (fa:Addr) (h:Heap),(K w.params).In h→h.Ns mainGlobals mg→mg d.name=some (.ref fa) →
   ∃fd:FuncData,(∀(s:Shared) (u:Value),BindsTo s fd ⟨[u],[]⟩ [("script",u)])∧∀base:Heap,(K w.params).In base→base.Ns mainGlobals mg→FnOk l.prog w (K w.params) mg base CX0 50 fa fd ["script"] (spLaw (K w.params))) :
  W.WalkO q loose XP YP l.row.toRowW d [] (fun f vs=>PySem.call f vs):=
 L2.walk_of (n:=63) (k:=50) (x:="script") (CX:=fun _=>CX0) (sp:=fun w=>spLaw (K w.params)) hn (by decide) hdf hq ⟨rfl,by decide,by decide⟩ hY F (fun _ _ a ns hl hbt _ hS=>⟨a,ns,rfl,hS,hl,fun _=>rfl⟩) fun _ _ _ _ _ z=>z
end Bw
namespace Op
noncomputable section
open PySem PySem.W PyProof.Rows L2
noncomputable abbrev p:Program:=PySem.Challenge.pw_bellwrite_k95_notes_at_the_desk
noncomputable def t (i:Nat):Stmt:=p.main.body.getD i (.Pass ⟨0,0,0,0⟩)
noncomputable def u (i j:Nat):Stmt:=inClass (t i) j
noncomputable abbrev fd (s:Stmt) (nm qn:Str) (g:Addr) (cl:List (Str×Addr)) (d kd dc pm:Value) (an:Option Addr) (cd ct:Value) (bi:Addr):FuncData:=⟨nm,qn,defArgs s,.stmts (defBody s),defScope s,g,cl,d,kd,dc,pm,an,cd,ct,bi⟩
noncomputable abbrev e (P:Params) (s:Str) (k:Tok) (v:Value):DictEntry:=⟨PyData.keyHash P s,.str s k,v⟩
abbrev n:=BT.node
abbrev z:=BT.nil
abbrev vi (k:Int):Value:=.int k 0
abbrev vr (a:Addr):Value:=.ref a
abbrev vs (x:Str) (k:Tok):Value:=.str x k
abbrev vc (k:Tok):Value:=.str "/claim/cut.py" k
noncomputable abbrev b7 (P:Params):=boot_o_7 P
noncomputable abbrev y7 (P:Params):BT:=n (boot_o_7 P) z z
noncomputable abbrev b8 (P:Params):=boot_o_8 P
noncomputable abbrev y8 (P:Params):BT:=n (boot_o_8 P) z z
abbrev vy:=Value.type
abbrev vb:=Value.builtin
abbrev tp (xs:Array Value):Obj:=⟨vy "tuple",none,.seq xs 0,#[]⟩
abbrev co (xs:Array Value):Obj:=⟨vy "code",none,.fields xs,#[]⟩
noncomputable abbrev fo (x:Stmt) (nm qn:Str) (m:Value) (c:Addr):Obj:=⟨vy "function",none,.func (fd x nm qn 3 [] .none .none .none m none (.ref c) .none 0),#[]⟩
noncomputable abbrev go (x:Stmt) (nm qn:Str):Obj:=⟨.none,none,.func (fd x nm qn 0 [] .none .none .none .none none .none .none 0),#[]⟩
noncomputable def lf:Life:=⟨[],[],[],0,[],[],false,#[],[],0,false,false,false,0,[2000,10,10],false,0,true,[],[],0,false⟩
noncomputable def o1:Obj:=co #[(vs "<module>" 182),(vs "<module>" 183),(vc 184),(vi 1),(vi 0),(vi 0),(vi 0),(vi 0),(vr 11),(.bool false),(vi 181),(vr 12),.none,.none,.none,.none,(vi 185),(vi 1),(vc 186)]
noncomputable def o2:Obj:=⟨(vy "frame"),none,.plain,#[(some (vr 13)),(some (vr 3)),(some (vr 3)),none,(some (vs "__main__" 164)),none,(some (vr 0))]⟩
noncomputable def o3 (P:Params):Obj:=⟨(vy "dict"),none,(.dict #[e P "__name__" 165 (vs "law_bellwrite_k95_notes_at_the_desk" 849),e P "__doc__" 166 .none,e P "__package__" 167 .none,e P "__loader__" 168 (vb "__main__.__loader__#opaque"),e P "__spec__" 169 .none,e P "__annotations__" 170 (vr 6),e P "__builtins__" 171 (vr 4),e P "__file__" 173 (vc 172),e P "__cached__" 174 .none,e P "choose" 198 (vr 21),e P "top_of" 206 (vr 28),e P "top_from" 219 (vr 35),e P "above_top" 230 (vr 42),e P "rounded_up" 238 (vr 49),e P "BellError" 258 (vr 59),e P "NoRow" 274 (vr 72),e P "NoReading" 290 (vr 84),e P "TooGreat" 306 (vr 96),e P "TooMany" 322 (vr 108),e P "NoNote" 338 (vr 120),e P "NoOrder" 354 (vr 132),e P "NoName" 370 (vr 144),e P "box_of" 378 (vr 151),e P "bell_row" 384 (vr 156),e P "heard_box" 395 (vr 163),e P "box_count" 404 (vr 170),e P "greatest_part" 413 (vr 177),e P "shortest_frame" 425 (vr 184),e P "best_bells" 438 (vr 191),e P "cheapest" 455 (vr 198),e P "box_number" 463 (vr 203),e P "box_of_message" 475 (vr 210),e P "written" 485 (vr 217),e P "read" 496 (vr 224),e P "keyed_count" 507 (vr 231),e P "keyed" 513 (vr 236),e P "unkeyed" 519 (vr 241),e P "refuse_silent" 529 (vr 248),e P "rung" 535 (vr 253),e P "by_messages" 547 (vr 260),e P "SIGNS" 551 (vs "abcdefghijklmnopqrstuvwxyz " 550),e P "MOST_SIGNS" 553 (.int 60 552),e P "LEAST_COUNT" 555 (.int 3 554),e P "note_number" 565 (vr 267),e P "note_of" 574 (vr 274),e P "parts" 584 (vr 281),e P "number_of_parts" 590 (vr 286),e P "sent" 596 (vr 291),e P "received" 602 (vr 296),e P "messages_ahead_of_end" 615 (vr 303),e P "LETTERS" 619 (vs "abcdefghijklmnopqrstuvwxyz" 618),e P "MOST_LETTERS" 621 (.int 8 620),e P "FIGURES" 623 (vs "0123456789" 622),e P "MOST_FIGURES" 625 (.int 60 624),e P "MOST_FIGURES_OF_MESSAGE" 627 (.int 3000 626),e P "MOST_BELLS" 629 (.int 60 628),e P "is_made_of" 635 (vr 308),e P "name_in" 642 (vr 315),e P "figures_in" 650 (vr 322),e P "number_in" 657 (vr 329),e P "message_in" 664 (vr 336),e P "bells_in" 672 (vr 343),e P "turns_in" 678 (vr 348),e P "number_told" 685 (vr 355),e P "turns_told" 691 (vr 360),e P "Frame" 726 (vr 377),e P "Desk" 813 (vr 440),e P "count_of" 820 (vr 451),e P "note_heard" 828 (vr 458),e P "choice_told" 835 (vr 465),e P "cheapest_told" 848 (vr 472),e P "_law_cell_at" 858 (vr 479),e P "_law_drawn" 867 (vr 486),e P "_law_names" 873 (vr 491),e P "_law_frame" 883 (vr 498),e P "_law_text" 889 (vr 503),e P "_law_kind" 897 (vr 510)] 77),#[]⟩
noncomputable def o4:Obj:=⟨.none,none,(.fields #[(vi 2),(vi 0),(vr 20),(vi 9),(vi 0),(vr 27),(vi 11),(vi 0),(vr 34),(vi 20),(vi 0),(vr 41),(vi 26),(vi 0),(vr 48),(vi 29),(vi 0),(vr 55),(vi 31),(vi 0),(vr 68),(vi 33),(vi 0),(vr 80),(vi 35),(vi 0),(vr 92),(vi 37),(vi 0),(vr 104),(vi 39),(vi 0),(vr 116),(vi 41),(vi 0),(vr 128),(vi 43),(vi 0),(vr 140),(vi 46),(vi 0),(vr 150),(vi 48),(vi 0),(vr 155),(vi 50),(vi 0),(vr 162),(vi 58),(vi 0),(vr 169),(vi 62),(vi 0),(vr 176),(vi 65),(vi 0),(vr 183),(vi 72),(vi 0),(vr 190),(vi 82),(vi 0),(vr 197),(vi 92),(vi 0),(vr 202),(vi 94),(vi 0),(vr 209),(vi 105),(vi 0),(vr 216),(vi 109),(vi 0),(vr 223),(vi 117),(vi 0),(vr 230),(vi 121),(vi 0),(vr 235),(vi 126),(vi 0),(vr 240),(vi 133),(vi 0),(vr 247),(vi 136),(vi 0),(vr 252),(vi 143),(vi 0),(vr 259),(vi 153),(vi 0),(vr 266),(vi 163),(vi 0),(vr 273),(vi 175),(vi 0),(vr 280),(vi 182),(vi 0),(vr 285),(vi 191),(vi 0),(vr 290),(vi 199),(vi 0),(vr 295),(vi 206),(vi 0),(vr 302),(vi 221),(vi 0),(vr 307),(vi 223),(vi 0),(vr 314),(vi 227),(vi 0),(vr 321),(vi 231),(vi 0),(vr 328),(vi 233),(vi 0),(vr 335),(vi 235),(vi 0),(vr 342),(vi 240),(vi 0),(vr 347),(vi 248),(vi 0),(vr 354),(vi 250),(vi 0),(vr 359),(vi 253),(vi 0),(vr 366),(vi 259),(vi 0),(vr 387),(vi 311),(vi 0),(vr 450),(vi 313),(vi 0),(vr 457),(vi 317),(vi 0),(vr 464),(vi 325),(vi 0),(vr 471),(vi 336),(vi 0),(vr 478),(vi 340),(vi 0),(vr 485),(vi 344),(vi 0),(vr 490),(vi 348),(vi 0),(vr 497),(vi 357),(vi 0),(vr 502),(vi 369),(vi 0),(vr 509)]),#[]⟩
noncomputable def o5:Obj:=tp #[(vs "n" 192),(vs "k" 193),(vs "ways" 194),(vs "taken" 195)]
noncomputable def o6:Obj:=go (t 1) "choose" "choose"
noncomputable def o7:Obj:=co #[(vs "choose" 189),(vs "choose" 190),(vc 191),(vi 2),(vi 2),(vi 0),(vi 0),(vi 3),(vr 15),(.bool true),(vi 181),(vr 16),.none,(vr 17),(vr 18),(vr 19),(vi 196),(vi 2),(vc 197)]
noncomputable def o8:Obj:=fo (t 1) "choose" "choose" (vs "bellwrite.choices" 187) 20
noncomputable def o9:Obj:=tp #[(vs "k" 202),(vs "number" 203)]
noncomputable def o10:Obj:=go (t 2) "top_of" "top_of"
noncomputable def o11:Obj:=co #[(vs "top_of" 199),(vs "top_of" 200),(vc 201),(vi 9),(vi 2),(vi 0),(vi 0),(vi 3),(vr 22),(.bool true),(vi 181),(vr 23),.none,(vr 24),(vr 25),(vr 26),(vi 204),(vi 9),(vc 205)]
noncomputable def o12:Obj:=fo (t 2) "top_of" "top_of" (vs "bellwrite.choices" 187) 27
noncomputable def o13:Obj:=tp #[(vs "start" 210),(vs "k" 211),(vs "number" 212),(vs "top" 213),(vs "ways" 214),(vs "most_off" 215),(vs "step" 216)]
noncomputable def o14:Obj:=go (t 3) "top_from" "top_from"
noncomputable def o15:Obj:=co #[(vs "top_from" 207),(vs "top_from" 208),(vc 209),(vi 11),(vi 3),(vi 0),(vi 0),(vi 3),(vr 29),(.bool true),(vi 181),(vr 30),.none,(vr 31),(vr 32),(vr 33),(vi 217),(vi 11),(vc 218)]
noncomputable def o16:Obj:=fo (t 3) "top_from" "top_from" (vs "bellwrite.choices" 187) 34
noncomputable def o17:Obj:=tp #[(vs "k" 223),(vs "number" 224),(vs "product" 225),(vs "factor" 226),(vs "figures" 227)]
noncomputable def o18:Obj:=go (t 4) "above_top" "above_top"
noncomputable def o19:Obj:=co #[(vs "above_top" 220),(vs "above_top" 221),(vc 222),(vi 20),(vi 2),(vi 0),(vi 0),(vi 3),(vr 36),(.bool true),(vi 181),(vr 37),.none,(vr 38),(vr 39),(vr 40),(vi 228),(vi 20),(vc 229)]
noncomputable def o20:Obj:=fo (t 4) "above_top" "above_top" (vs "bellwrite.choices" 187) 41
noncomputable def o21:Obj:=tp #[(vs "number" 234),(vs "divisor" 235)]
noncomputable def o22:Obj:=go (t 5) "rounded_up" "rounded_up"
noncomputable def o23:Obj:=co #[(vs "rounded_up" 231),(vs "rounded_up" 232),(vc 233),(vi 26),(vi 2),(vi 0),(vi 0),(vi 3),(vr 43),(.bool true),(vi 181),(vr 44),.none,(vr 45),(vr 46),(vr 47),(vi 236),(vi 26),(vc 237)]
noncomputable def o24:Obj:=fo (t 5) "rounded_up" "rounded_up" (vs "bellwrite.choices" 187) 48
noncomputable def o25:Obj:=tp #[(vy "ValueError")]
noncomputable def o26:Obj:=⟨(vy "builtin_function_or_method"),none,(.fields #[(vb "type.__prepare__"),(vy "type")]),#[]⟩
noncomputable def o27 (P:Params):Obj:=⟨(vy "dict"),none,(.dict #[e P "__module__" 248 (vs "bellwrite.errors" 239),e P "__qualname__" 250 (vs "BellError" 249),e P "__firstlineno__" 252 (.int 29 251),e P "__static_attributes__" 253 (vr 57)] 4),#[]⟩
noncomputable def o28:Obj:=co #[(vs "BellError" 243),(vs "BellError" 244),(vc 245),(vi 29),(vi 0),(vi 0),(vi 0),(vi 0),(vr 53),(.bool false),(vi 181),(vr 54),.none,.none,.none,.none,(vi 246),(vi 29),(vc 247)]
noncomputable def o29:Obj:=⟨(vy "frame"),none,.plain,#[(some (vr 55)),(some (vr 3)),(some (vr 52)),none,(some (vs "bellwrite.errors" 239)),none,(some (vr 0))]⟩
noncomputable def o30 (P:Params):Obj:=⟨(vy "dict"),none,(.dict #[e P "__module__" 248 (vs "bellwrite.errors" 239),e P "__firstlineno__" 252 (.int 29 251),e P "__static_attributes__" 253 (vr 57),e P "__weakref__" 255 (vr 60),e P "__doc__" 256 .none] 3),#[]⟩
noncomputable def o31:Obj:=⟨(vy "type"),none,(.cls ⟨"BellError",[(vy "ValueError")],[(vr 59),(vy "ValueError"),(vy "Exception"),(vy "BaseException"),(vy "object")],58,"BellError",true,[],[(vr 72),(vr 84),(vr 96),(vr 108),(vr 120),(vr 132),(vr 144)],false,none,false⟩),#[(some (vr 50)),none,(some (vs "BellError" 241)),(some (vs "BellError" 249)),(some (vb "ValueError.__new__")),(some (.bool true))]⟩
noncomputable def o32:Obj:=⟨(vy "getset_descriptor"),none,(.fields #[(vs "__weakref__" 254),(vr 59),(vb "ExceptionGroup.__weakref__"),.none]),#[]⟩
noncomputable def o33:Obj:=⟨(vy "super"),none,(.fields #[(vr 59),(vr 59),(vr 59)]),#[]⟩
noncomputable def o34:Obj:=⟨(vy "builtin_function_or_method"),none,(.fields #[(vb "object.__init_subclass__"),(vr 59)]),#[]⟩
noncomputable def o35:Obj:=tp #[(vr 59)]
noncomputable def o36 (P:Params):Obj:=⟨(vy "dict"),none,(.dict #[e P "__module__" 266 (vs "bellwrite.errors" 239),e P "__qualname__" 268 (vs "NoRow" 267),e P "__firstlineno__" 270 (.int 31 269),e P "__static_attributes__" 271 (vr 70)] 4),#[]⟩
noncomputable def o37:Obj:=co #[(vs "NoRow" 261),(vs "NoRow" 262),(vc 263),(vi 31),(vi 0),(vi 0),(vi 0),(vi 0),(vr 66),(.bool false),(vi 181),(vr 67),.none,.none,.none,.none,(vi 264),(vi 31),(vc 265)]
noncomputable def o38:Obj:=⟨(vy "frame"),none,.plain,#[(some (vr 68)),(some (vr 3)),(some (vr 65)),none,(some (vs "bellwrite.errors" 239)),none,(some (vr 0))]⟩
noncomputable def o39 (P:Params):Obj:=⟨(vy "dict"),none,(.dict #[e P "__module__" 266 (vs "bellwrite.errors" 239),e P "__firstlineno__" 270 (.int 31 269),e P "__static_attributes__" 271 (vr 70),e P "__doc__" 272 .none] 2),#[]⟩
noncomputable def o40:Obj:=⟨(vy "type"),none,(.cls ⟨"NoRow",[(vr 59)],[(vr 72),(vr 59),(vy "ValueError"),(vy "Exception"),(vy "BaseException"),(vy "object")],71,"NoRow",true,[],[],false,none,false⟩),#[(some (vr 63)),none,(some (vs "NoRow" 259)),(some (vs "NoRow" 267)),(some (vb "ValueError.__new__")),(some (.bool true))]⟩
noncomputable def o41:Obj:=⟨(vy "super"),none,(.fields #[(vr 72),(vr 72),(vr 72)]),#[]⟩
noncomputable def o42:Obj:=⟨(vy "builtin_function_or_method"),none,(.fields #[(vb "object.__init_subclass__"),(vr 72)]),#[]⟩
noncomputable def o43 (P:Params):Obj:=⟨(vy "dict"),none,(.dict #[e P "__module__" 282 (vs "bellwrite.errors" 239),e P "__qualname__" 284 (vs "NoReading" 283),e P "__firstlineno__" 286 (.int 33 285),e P "__static_attributes__" 287 (vr 82)] 4),#[]⟩
noncomputable def o44:Obj:=co #[(vs "NoReading" 277),(vs "NoReading" 278),(vc 279),(vi 33),(vi 0),(vi 0),(vi 0),(vi 0),(vr 78),(.bool false),(vi 181),(vr 79),.none,.none,.none,.none,(vi 280),(vi 33),(vc 281)]
noncomputable def o45:Obj:=⟨(vy "frame"),none,.plain,#[(some (vr 80)),(some (vr 3)),(some (vr 77)),none,(some (vs "bellwrite.errors" 239)),none,(some (vr 0))]⟩
noncomputable def o46 (P:Params):Obj:=⟨(vy "dict"),none,(.dict #[e P "__module__" 282 (vs "bellwrite.errors" 239),e P "__firstlineno__" 286 (.int 33 285),e P "__static_attributes__" 287 (vr 82),e P "__doc__" 288 .none] 2),#[]⟩
noncomputable def o47:Obj:=⟨(vy "type"),none,(.cls ⟨"NoReading",[(vr 59)],[(vr 84),(vr 59),(vy "ValueError"),(vy "Exception"),(vy "BaseException"),(vy "object")],83,"NoReading",true,[],[],false,none,false⟩),#[(some (vr 75)),none,(some (vs "NoReading" 275)),(some (vs "NoReading" 283)),(some (vb "ValueError.__new__")),(some (.bool true))]⟩
noncomputable def o48:Obj:=⟨(vy "super"),none,(.fields #[(vr 84),(vr 84),(vr 84)]),#[]⟩
noncomputable def o49:Obj:=⟨(vy "builtin_function_or_method"),none,(.fields #[(vb "object.__init_subclass__"),(vr 84)]),#[]⟩
noncomputable def o50 (P:Params):Obj:=⟨(vy "dict"),none,(.dict #[e P "__module__" 298 (vs "bellwrite.errors" 239),e P "__qualname__" 300 (vs "TooGreat" 299),e P "__firstlineno__" 302 (.int 35 301),e P "__static_attributes__" 303 (vr 94)] 4),#[]⟩
noncomputable def o51:Obj:=co #[(vs "TooGreat" 293),(vs "TooGreat" 294),(vc 295),(vi 35),(vi 0),(vi 0),(vi 0),(vi 0),(vr 90),(.bool false),(vi 181),(vr 91),.none,.none,.none,.none,(vi 296),(vi 35),(vc 297)]
noncomputable def o52:Obj:=⟨(vy "frame"),none,.plain,#[(some (vr 92)),(some (vr 3)),(some (vr 89)),none,(some (vs "bellwrite.errors" 239)),none,(some (vr 0))]⟩
noncomputable def o53 (P:Params):Obj:=⟨(vy "dict"),none,(.dict #[e P "__module__" 298 (vs "bellwrite.errors" 239),e P "__firstlineno__" 302 (.int 35 301),e P "__static_attributes__" 303 (vr 94),e P "__doc__" 304 .none] 2),#[]⟩
noncomputable def o54:Obj:=⟨(vy "type"),none,(.cls ⟨"TooGreat",[(vr 59)],[(vr 96),(vr 59),(vy "ValueError"),(vy "Exception"),(vy "BaseException"),(vy "object")],95,"TooGreat",true,[],[],false,none,false⟩),#[(some (vr 87)),none,(some (vs "TooGreat" 291)),(some (vs "TooGreat" 299)),(some (vb "ValueError.__new__")),(some (.bool true))]⟩
noncomputable def o55:Obj:=⟨(vy "super"),none,(.fields #[(vr 96),(vr 96),(vr 96)]),#[]⟩
noncomputable def o56:Obj:=⟨(vy "builtin_function_or_method"),none,(.fields #[(vb "object.__init_subclass__"),(vr 96)]),#[]⟩
noncomputable def o57 (P:Params):Obj:=⟨(vy "dict"),none,(.dict #[e P "__module__" 314 (vs "bellwrite.errors" 239),e P "__qualname__" 316 (vs "TooMany" 315),e P "__firstlineno__" 318 (.int 37 317),e P "__static_attributes__" 319 (vr 106)] 4),#[]⟩
noncomputable def o58:Obj:=co #[(vs "TooMany" 309),(vs "TooMany" 310),(vc 311),(vi 37),(vi 0),(vi 0),(vi 0),(vi 0),(vr 102),(.bool false),(vi 181),(vr 103),.none,.none,.none,.none,(vi 312),(vi 37),(vc 313)]
noncomputable def o59:Obj:=⟨(vy "frame"),none,.plain,#[(some (vr 104)),(some (vr 3)),(some (vr 101)),none,(some (vs "bellwrite.errors" 239)),none,(some (vr 0))]⟩
noncomputable def o60 (P:Params):Obj:=⟨(vy "dict"),none,(.dict #[e P "__module__" 314 (vs "bellwrite.errors" 239),e P "__firstlineno__" 318 (.int 37 317),e P "__static_attributes__" 319 (vr 106),e P "__doc__" 320 .none] 2),#[]⟩
noncomputable def o61:Obj:=⟨(vy "type"),none,(.cls ⟨"TooMany",[(vr 59)],[(vr 108),(vr 59),(vy "ValueError"),(vy "Exception"),(vy "BaseException"),(vy "object")],107,"TooMany",true,[],[],false,none,false⟩),#[(some (vr 99)),none,(some (vs "TooMany" 307)),(some (vs "TooMany" 315)),(some (vb "ValueError.__new__")),(some (.bool true))]⟩
noncomputable def o62:Obj:=⟨(vy "super"),none,(.fields #[(vr 108),(vr 108),(vr 108)]),#[]⟩
noncomputable def o63:Obj:=⟨(vy "builtin_function_or_method"),none,(.fields #[(vb "object.__init_subclass__"),(vr 108)]),#[]⟩
noncomputable def o64 (P:Params):Obj:=⟨(vy "dict"),none,(.dict #[e P "__module__" 330 (vs "bellwrite.errors" 239),e P "__qualname__" 332 (vs "NoNote" 331),e P "__firstlineno__" 334 (.int 39 333),e P "__static_attributes__" 335 (vr 118)] 4),#[]⟩
noncomputable def o65:Obj:=co #[(vs "NoNote" 325),(vs "NoNote" 326),(vc 327),(vi 39),(vi 0),(vi 0),(vi 0),(vi 0),(vr 114),(.bool false),(vi 181),(vr 115),.none,.none,.none,.none,(vi 328),(vi 39),(vc 329)]
noncomputable def o66:Obj:=⟨(vy "frame"),none,.plain,#[(some (vr 116)),(some (vr 3)),(some (vr 113)),none,(some (vs "bellwrite.errors" 239)),none,(some (vr 0))]⟩
noncomputable def o67 (P:Params):Obj:=⟨(vy "dict"),none,(.dict #[e P "__module__" 330 (vs "bellwrite.errors" 239),e P "__firstlineno__" 334 (.int 39 333),e P "__static_attributes__" 335 (vr 118),e P "__doc__" 336 .none] 2),#[]⟩
noncomputable def o68:Obj:=⟨(vy "type"),none,(.cls ⟨"NoNote",[(vr 59)],[(vr 120),(vr 59),(vy "ValueError"),(vy "Exception"),(vy "BaseException"),(vy "object")],119,"NoNote",true,[],[],false,none,false⟩),#[(some (vr 111)),none,(some (vs "NoNote" 323)),(some (vs "NoNote" 331)),(some (vb "ValueError.__new__")),(some (.bool true))]⟩
noncomputable def o69:Obj:=⟨(vy "super"),none,(.fields #[(vr 120),(vr 120),(vr 120)]),#[]⟩
noncomputable def o70:Obj:=⟨(vy "builtin_function_or_method"),none,(.fields #[(vb "object.__init_subclass__"),(vr 120)]),#[]⟩
noncomputable def o71 (P:Params):Obj:=⟨(vy "dict"),none,(.dict #[e P "__module__" 346 (vs "bellwrite.errors" 239),e P "__qualname__" 348 (vs "NoOrder" 347),e P "__firstlineno__" 350 (.int 41 349),e P "__static_attributes__" 351 (vr 130)] 4),#[]⟩
noncomputable def o72:Obj:=co #[(vs "NoOrder" 341),(vs "NoOrder" 342),(vc 343),(vi 41),(vi 0),(vi 0),(vi 0),(vi 0),(vr 126),(.bool false),(vi 181),(vr 127),.none,.none,.none,.none,(vi 344),(vi 41),(vc 345)]
noncomputable def o73:Obj:=⟨(vy "frame"),none,.plain,#[(some (vr 128)),(some (vr 3)),(some (vr 125)),none,(some (vs "bellwrite.errors" 239)),none,(some (vr 0))]⟩
noncomputable def o74 (P:Params):Obj:=⟨(vy "dict"),none,(.dict #[e P "__module__" 346 (vs "bellwrite.errors" 239),e P "__firstlineno__" 350 (.int 41 349),e P "__static_attributes__" 351 (vr 130),e P "__doc__" 352 .none] 2),#[]⟩
noncomputable def o75:Obj:=⟨(vy "type"),none,(.cls ⟨"NoOrder",[(vr 59)],[(vr 132),(vr 59),(vy "ValueError"),(vy "Exception"),(vy "BaseException"),(vy "object")],131,"NoOrder",true,[],[],false,none,false⟩),#[(some (vr 123)),none,(some (vs "NoOrder" 339)),(some (vs "NoOrder" 347)),(some (vb "ValueError.__new__")),(some (.bool true))]⟩
noncomputable def o76:Obj:=⟨(vy "super"),none,(.fields #[(vr 132),(vr 132),(vr 132)]),#[]⟩
noncomputable def o77:Obj:=⟨(vy "builtin_function_or_method"),none,(.fields #[(vb "object.__init_subclass__"),(vr 132)]),#[]⟩
noncomputable def o78 (P:Params):Obj:=⟨(vy "dict"),none,(.dict #[e P "__module__" 362 (vs "bellwrite.errors" 239),e P "__qualname__" 364 (vs "NoName" 363),e P "__firstlineno__" 366 (.int 43 365),e P "__static_attributes__" 367 (vr 142)] 4),#[]⟩
noncomputable def o79:Obj:=co #[(vs "NoName" 357),(vs "NoName" 358),(vc 359),(vi 43),(vi 0),(vi 0),(vi 0),(vi 0),(vr 138),(.bool false),(vi 181),(vr 139),.none,.none,.none,.none,(vi 360),(vi 43),(vc 361)]
noncomputable def o80:Obj:=⟨(vy "frame"),none,.plain,#[(some (vr 140)),(some (vr 3)),(some (vr 137)),none,(some (vs "bellwrite.errors" 239)),none,(some (vr 0))]⟩
noncomputable def o81 (P:Params):Obj:=⟨(vy "dict"),none,(.dict #[e P "__module__" 362 (vs "bellwrite.errors" 239),e P "__firstlineno__" 366 (.int 43 365),e P "__static_attributes__" 367 (vr 142),e P "__doc__" 368 .none] 2),#[]⟩
noncomputable def o82:Obj:=⟨(vy "type"),none,(.cls ⟨"NoName",[(vr 59)],[(vr 144),(vr 59),(vy "ValueError"),(vy "Exception"),(vy "BaseException"),(vy "object")],143,"NoName",true,[],[],false,none,false⟩),#[(some (vr 135)),none,(some (vs "NoName" 355)),(some (vs "NoName" 363)),(some (vb "ValueError.__new__")),(some (.bool true))]⟩
noncomputable def o83:Obj:=⟨(vy "super"),none,(.fields #[(vr 144),(vr 144),(vr 144)]),#[]⟩
noncomputable def o84:Obj:=⟨(vy "builtin_function_or_method"),none,(.fields #[(vb "object.__init_subclass__"),(vr 144)]),#[]⟩
noncomputable def o85:Obj:=go (t 16) "box_of" "box_of"
noncomputable def o86:Obj:=co #[(vs "box_of" 373),(vs "box_of" 374),(vc 375),(vi 46),(vi 2),(vi 0),(vi 0),(vi 3),(vr 147),(.bool true),(vi 181),(vr 148),.none,.none,.none,(vr 149),(vi 376),(vi 46),(vc 377)]
noncomputable def o87:Obj:=fo (t 16) "box_of" "box_of" (vs "bellwrite.boxes" 371) 150
noncomputable def o88:Obj:=go (t 17) "bell_row" "bell_row"
noncomputable def o89:Obj:=co #[(vs "bell_row" 379),(vs "bell_row" 380),(vc 381),(vi 48),(vi 2),(vi 0),(vi 0),(vi 3),(vr 152),(.bool true),(vi 181),(vr 153),.none,.none,.none,(vr 154),(vi 382),(vi 48),(vc 383)]
noncomputable def o90:Obj:=fo (t 17) "bell_row" "bell_row" (vs "bellwrite.boxes" 371) 155
noncomputable def o91:Obj:=tp #[(vs "reading" 388),(vs "late" 389),(vs "box" 390),(vs "before" 391),(vs "part" 392)]
noncomputable def o92:Obj:=go (t 18) "heard_box" "heard_box"
noncomputable def o93:Obj:=co #[(vs "heard_box" 385),(vs "heard_box" 386),(vc 387),(vi 50),(vi 2),(vi 0),(vi 0),(vi 3),(vr 157),(.bool true),(vi 181),(vr 158),.none,(vr 159),(vr 160),(vr 161),(vi 393),(vi 50),(vc 394)]
noncomputable def o94:Obj:=fo (t 18) "heard_box" "heard_box" (vs "bellwrite.boxes" 371) 162
noncomputable def o95:Obj:=tp #[(vs "turns" 399),(vs "bells" 400),(vs "late" 401)]
noncomputable def o96:Obj:=go (t 19) "box_count" "box_count"
noncomputable def o97:Obj:=co #[(vs "box_count" 396),(vs "box_count" 397),(vc 398),(vi 58),(vi 3),(vi 0),(vi 0),(vi 3),(vr 164),(.bool true),(vi 181),(vr 165),.none,(vr 166),(vr 167),(vr 168),(vi 402),(vi 58),(vc 403)]
noncomputable def o98:Obj:=fo (t 19) "box_count" "box_count" (vs "bellwrite.boxes" 371) 169
noncomputable def o99:Obj:=tp #[(vs "turns" 408),(vs "bells" 409),(vs "late" 410)]
noncomputable def o100:Obj:=go (t 20) "greatest_part" "greatest_part"
noncomputable def zhn:Obj:=co #[(vs "greatest_part" 405),(vs "greatest_part" 406),(vc 407),(vi 62),(vi 3),(vi 0),(vi 0),(vi 3),(vr 171),(.bool true),(vi 181),(vr 172),.none,(vr 173),(vr 174),(vr 175),(vi 411),(vi 62),(vc 412)]
noncomputable def zho:Obj:=fo (t 20) "greatest_part" "greatest_part" (vs "bellwrite.boxes" 371) 176
noncomputable def zhp:Obj:=tp #[(vs "bells" 419),(vs "late" 420),(vs "many" 421),(vs "greatest" 422)]
noncomputable def zhq:Obj:=go (t 22) "shortest_frame" "shortest_frame"
noncomputable def zhr:Obj:=co #[(vs "shortest_frame" 416),(vs "shortest_frame" 417),(vc 418),(vi 65),(vi 3),(vi 0),(vi 0),(vi 3),(vr 178),(.bool true),(vi 181),(vr 179),.none,(vr 180),(vr 181),(vr 182),(vi 423),(vi 65),(vc 424)]
noncomputable def zhs:Obj:=fo (t 22) "shortest_frame" "shortest_frame" (vs "bellwrite.frames" 414) 183
noncomputable def zht:Obj:=tp #[(vs "turns" 429),(vs "late" 430),(vs "most" 431),(vs "best" 432),(vs "greatest" 433),(vs "bells" 434),(vs "many" 435)]
noncomputable def zhu:Obj:=go (t 23) "best_bells" "best_bells"
noncomputable def zhv:Obj:=co #[(vs "best_bells" 426),(vs "best_bells" 427),(vc 428),(vi 72),(vi 3),(vi 0),(vi 0),(vi 3),(vr 185),(.bool true),(vi 181),(vr 186),.none,(vr 187),(vr 188),(vr 189),(vi 436),(vi 72),(vc 437)]
noncomputable def zhw:Obj:=fo (t 23) "best_bells" "best_bells" (vs "bellwrite.frames" 414) 190
noncomputable def o111:Obj:=tp #[(vs "many" 444),(vs "late" 445),(vs "turn_cost" 446),(vs "bell_cost" 447),(vs "most" 448),(vs "best" 449),(vs "bells" 450),(vs "turns" 451),(vs "cost" 452)]
noncomputable def zhx:Obj:=go (t 25) "cheapest" "cheapest"
noncomputable def zhy:Obj:=co #[(vs "cheapest" 441),(vs "cheapest" 442),(vc 443),(vi 82),(vi 5),(vi 0),(vi 0),(vi 3),(vr 192),(.bool true),(vi 181),(vr 193),.none,(vr 194),(vr 195),(vr 196),(vi 453),(vi 82),(vc 454)]
noncomputable def zhz:Obj:=fo (t 25) "cheapest" "cheapest" (vs "bellwrite.costs" 439) 197
noncomputable def zhA:Obj:=go (t 27) "box_number" "box_number"
noncomputable def zhB:Obj:=co #[(vs "box_number" 458),(vs "box_number" 459),(vc 460),(vi 92),(vi 1),(vi 0),(vi 0),(vi 3),(vr 199),(.bool true),(vi 181),(vr 200),.none,.none,.none,(vr 201),(vi 461),(vi 92),(vc 462)]
noncomputable def zhC:Obj:=fo (t 27) "box_number" "box_number" (vs "bellwrite.messages" 456) 202
noncomputable def zhD:Obj:=tp #[(vs "message" 467),(vs "bells" 468),(vs "box" 469),(vs "left" 470),(vs "top" 471),(vs "place" 472)]
noncomputable def zhE:Obj:=go (t 28) "box_of_message" "box_of_message"
noncomputable def zhF:Obj:=co #[(vs "box_of_message" 464),(vs "box_of_message" 465),(vc 466),(vi 94),(vi 2),(vi 0),(vi 0),(vi 3),(vr 204),(.bool true),(vi 181),(vr 205),.none,(vr 206),(vr 207),(vr 208),(vi 473),(vi 94),(vc 474)]
noncomputable def zhG:Obj:=fo (t 28) "box_of_message" "box_of_message" (vs "bellwrite.messages" 456) 209
noncomputable def zhH:Obj:=tp #[(vs "message" 479),(vs "turns" 480),(vs "bells" 481),(vs "late" 482)]
noncomputable def zhI:Obj:=go (t 29) "written" "written"
noncomputable def zhJ:Obj:=co #[(vs "written" 476),(vs "written" 477),(vc 478),(vi 105),(vi 4),(vi 0),(vi 0),(vi 3),(vr 211),(.bool true),(vi 181),(vr 212),.none,(vr 213),(vr 214),(vr 215),(vi 483),(vi 105),(vc 484)]
noncomputable def zhK:Obj:=fo (t 29) "written" "written" (vs "bellwrite.messages" 456) 216
noncomputable def zhL:Obj:=tp #[(vs "reading" 489),(vs "turns" 490),(vs "bells" 491),(vs "late" 492),(vs "message" 493)]
noncomputable def zhM:Obj:=go (t 30) "read" "read"
noncomputable def zhN:Obj:=co #[(vs "read" 486),(vs "read" 487),(vc 488),(vi 109),(vi 4),(vi 0),(vi 0),(vi 3),(vr 218),(.bool true),(vi 181),(vr 219),.none,(vr 220),(vr 221),(vr 222),(vi 494),(vi 109),(vc 495)]
noncomputable def zhO:Obj:=fo (t 30) "read" "read" (vs "bellwrite.messages" 456) 223
noncomputable def zhP:Obj:=tp #[(vs "turns" 502),(vs "bells" 503),(vs "late" 504)]
noncomputable def zhQ:Obj:=go (t 32) "keyed_count" "keyed_count"
noncomputable def zhR:Obj:=co #[(vs "keyed_count" 499),(vs "keyed_count" 500),(vc 501),(vi 117),(vi 3),(vi 0),(vi 0),(vi 3),(vr 225),(.bool true),(vi 181),(vr 226),.none,(vr 227),(vr 228),(vr 229),(vi 505),(vi 117),(vc 506)]
noncomputable def zhS:Obj:=fo (t 32) "keyed_count" "keyed_count" (vs "bellwrite.lags" 497) 230
noncomputable def zhT:Obj:=go (t 33) "keyed" "keyed"
noncomputable def zhU:Obj:=co #[(vs "keyed" 508),(vs "keyed" 509),(vc 510),(vi 121),(vi 4),(vi 0),(vi 0),(vi 3),(vr 232),(.bool true),(vi 181),(vr 233),.none,.none,.none,(vr 234),(vi 511),(vi 121),(vc 512)]
noncomputable def zhV:Obj:=fo (t 33) "keyed" "keyed" (vs "bellwrite.lags" 497) 235
noncomputable def zhW:Obj:=go (t 34) "unkeyed" "unkeyed"
noncomputable def zhX:Obj:=co #[(vs "unkeyed" 514),(vs "unkeyed" 515),(vc 516),(vi 126),(vi 4),(vi 0),(vi 0),(vi 3),(vr 237),(.bool true),(vi 181),(vr 238),.none,.none,.none,(vr 239),(vi 517),(vi 126),(vc 518)]
noncomputable def zhY:Obj:=fo (t 34) "unkeyed" "unkeyed" (vs "bellwrite.lags" 497) 240
noncomputable def zhZ:Obj:=tp #[(vs "turns" 525),(vs "bells" 526)]
noncomputable def zh0:Obj:=go (t 36) "refuse_silent" "refuse_silent"
noncomputable def zh1:Obj:=co #[(vs "refuse_silent" 522),(vs "refuse_silent" 523),(vc 524),(vi 133),(vi 2),(vi 0),(vi 0),(vi 3),(vr 242),(.bool true),(vi 181),(vr 243),.none,(vr 244),(vr 245),(vr 246),(vi 527),(vi 133),(vc 528)]
noncomputable def zh2:Obj:=fo (t 36) "refuse_silent" "refuse_silent" (vs "bellwrite.talks" 520) 247
noncomputable def zh3:Obj:=go (t 37) "rung" "rung"
noncomputable def zh4:Obj:=co #[(vs "rung" 530),(vs "rung" 531),(vc 532),(vi 136),(vi 4),(vi 0),(vi 0),(vi 3),(vr 249),(.bool true),(vi 181),(vr 250),.none,.none,.none,(vr 251),(vi 533),(vi 136),(vc 534)]
noncomputable def zh5:Obj:=fo (t 37) "rung" "rung" (vs "bellwrite.talks" 520) 252
noncomputable def zh6:Obj:=tp #[(vs "reading" 539),(vs "turns" 540),(vs "late" 541),(vs "length" 542),(vs "heard_of" 543),(vs "turn" 544)]
noncomputable def zh7:Obj:=go (t 38) "by_messages" "by_messages"
noncomputable def zh8:Obj:=co #[(vs "by_messages" 536),(vs "by_messages" 537),(vc 538),(vi 143),(vi 3),(vi 0),(vi 0),(vi 3),(vr 254),(.bool true),(vi 181),(vr 255),.none,(vr 256),(vr 257),(vr 258),(vi 545),(vi 143),(vc 546)]
noncomputable def zh9:Obj:=fo (t 38) "by_messages" "by_messages" (vs "bellwrite.talks" 520) 259
noncomputable def zia:Obj:=tp #[(vs "note" 559),(vs "number" 560),(vs "sign" 561),(vs "place" 562)]
noncomputable def zib:Obj:=go (t 43) "note_number" "note_number"
noncomputable def zic:Obj:=co #[(vs "note_number" 556),(vs "note_number" 557),(vc 558),(vi 153),(vi 1),(vi 0),(vi 0),(vi 3),(vr 261),(.bool true),(vi 181),(vr 262),.none,(vr 263),(vr 264),(vr 265),(vi 563),(vi 153),(vc 564)]
noncomputable def zid:Obj:=fo (t 43) "note_number" "note_number" (vs "bellwrite.notes" 548) 266
noncomputable def zie:Obj:=tp #[(vs "number" 569),(vs "signs" 570),(vs "left" 571)]
noncomputable def zif:Obj:=go (t 44) "note_of" "note_of"
noncomputable def zig:Obj:=co #[(vs "note_of" 566),(vs "note_of" 567),(vc 568),(vi 163),(vi 1),(vi 0),(vi 0),(vi 3),(vr 268),(.bool true),(vi 181),(vr 269),.none,(vr 270),(vr 271),(vr 272),(vi 572),(vi 163),(vc 573)]
noncomputable def zih:Obj:=fo (t 44) "note_of" "note_of" (vs "bellwrite.notes" 548) 273
noncomputable def zii:Obj:=tp #[(vs "number" 578),(vs "base" 579),(vs "figures" 580),(vs "left" 581)]
noncomputable def zij:Obj:=go (t 45) "parts" "parts"
noncomputable def zik:Obj:=co #[(vs "parts" 575),(vs "parts" 576),(vc 577),(vi 175),(vi 2),(vi 0),(vi 0),(vi 3),(vr 275),(.bool true),(vi 181),(vr 276),.none,(vr 277),(vr 278),(vr 279),(vi 582),(vi 175),(vc 583)]
noncomputable def zil:Obj:=fo (t 45) "parts" "parts" (vs "bellwrite.notes" 548) 280
noncomputable def zim:Obj:=go (t 46) "number_of_parts" "number_of_parts"
noncomputable def zin:Obj:=co #[(vs "number_of_parts" 585),(vs "number_of_parts" 586),(vc 587),(vi 182),(vi 2),(vi 0),(vi 0),(vi 3),(vr 282),(.bool true),(vi 181),(vr 283),.none,.none,.none,(vr 284),(vi 588),(vi 182),(vc 589)]
noncomputable def zio:Obj:=fo (t 46) "number_of_parts" "number_of_parts" (vs "bellwrite.notes" 548) 285
noncomputable def ziq:Obj:=go (t 47) "sent" "sent"
noncomputable def zir:Obj:=co #[(vs "sent" 591),(vs "sent" 592),(vc 593),(vi 191),(vi 4),(vi 0),(vi 0),(vi 3),(vr 287),(.bool true),(vi 181),(vr 288),.none,.none,.none,(vr 289),(vi 594),(vi 191),(vc 595)]
noncomputable def zis:Obj:=fo (t 47) "sent" "sent" (vs "bellwrite.notes" 548) 290
noncomputable def zit:Obj:=go (t 48) "received" "received"
noncomputable def ziu:Obj:=co #[(vs "received" 597),(vs "received" 598),(vc 599),(vi 199),(vi 4),(vi 0),(vi 0),(vi 3),(vr 292),(.bool true),(vi 181),(vr 293),.none,.none,.none,(vr 294),(vi 600),(vi 199),(vc 601)]
noncomputable def ziv:Obj:=fo (t 48) "received" "received" (vs "bellwrite.notes" 548) 295
noncomputable def ziw:Obj:=tp #[(vs "reading" 606),(vs "turns" 607),(vs "bells" 608),(vs "late" 609),(vs "heard_of" 610),(vs "messages" 611),(vs "message" 612)]
noncomputable def zix:Obj:=go (t 49) "messages_ahead_of_end" "messages_ahead_of_end"
noncomputable def ziy:Obj:=co #[(vs "messages_ahead_of_end" 603),(vs "messages_ahead_of_end" 604),(vc 605),(vi 206),(vi 4),(vi 0),(vi 0),(vi 3),(vr 297),(.bool true),(vi 181),(vr 298),.none,(vr 299),(vr 300),(vr 301),(vi 613),(vi 206),(vc 614)]
noncomputable def ziz:Obj:=fo (t 49) "messages_ahead_of_end" "messages_ahead_of_end" (vs "bellwrite.notes" 548) 302
noncomputable def ziA:Obj:=go (t 57) "is_made_of" "is_made_of"
noncomputable def ziB:Obj:=co #[(vs "is_made_of" 630),(vs "is_made_of" 631),(vc 632),(vi 221),(vi 3),(vi 0),(vi 0),(vi 3),(vr 304),(.bool true),(vi 181),(vr 305),.none,.none,.none,(vr 306),(vi 633),(vi 221),(vc 634)]
noncomputable def ziC:Obj:=fo (t 57) "is_made_of" "is_made_of" (vs "bellwrite.words" 616) 307
noncomputable def ziD:Obj:=tp #[(vs "word" 639)]
noncomputable def ziE:Obj:=go (t 58) "name_in" "name_in"
noncomputable def ziF:Obj:=co #[(vs "name_in" 636),(vs "name_in" 637),(vc 638),(vi 223),(vi 1),(vi 0),(vi 0),(vi 3),(vr 309),(.bool true),(vi 181),(vr 310),.none,(vr 311),(vr 312),(vr 313),(vi 640),(vi 223),(vc 641)]
noncomputable def ziG:Obj:=fo (t 58) "name_in" "name_in" (vs "bellwrite.words" 616) 314
noncomputable def ziH:Obj:=tp #[(vs "word" 646),(vs "most" 647)]
noncomputable def ziI:Obj:=go (t 59) "figures_in" "figures_in"
noncomputable def ziJ:Obj:=co #[(vs "figures_in" 643),(vs "figures_in" 644),(vc 645),(vi 227),(vi 2),(vi 0),(vi 0),(vi 3),(vr 316),(.bool true),(vi 181),(vr 317),.none,(vr 318),(vr 319),(vr 320),(vi 648),(vi 227),(vc 649)]
noncomputable def ziK:Obj:=fo (t 59) "figures_in" "figures_in" (vs "bellwrite.words" 616) 321
noncomputable def ziL:Obj:=tp #[(vs "word" 654)]
noncomputable def ziM:Obj:=go (t 60) "number_in" "number_in"
noncomputable def ziN:Obj:=co #[(vs "number_in" 651),(vs "number_in" 652),(vc 653),(vi 231),(vi 1),(vi 0),(vi 0),(vi 3),(vr 323),(.bool true),(vi 181),(vr 324),.none,(vr 325),(vr 326),(vr 327),(vi 655),(vi 231),(vc 656)]
noncomputable def ziO:Obj:=fo (t 60) "number_in" "number_in" (vs "bellwrite.words" 616) 328
noncomputable def ziP:Obj:=tp #[(vs "word" 661)]
noncomputable def ziQ:Obj:=go (t 61) "message_in" "message_in"
noncomputable def ziR:Obj:=co #[(vs "message_in" 658),(vs "message_in" 659),(vc 660),(vi 233),(vi 1),(vi 0),(vi 0),(vi 3),(vr 330),(.bool true),(vi 181),(vr 331),.none,(vr 332),(vr 333),(vr 334),(vi 662),(vi 233),(vc 663)]
noncomputable def ziS:Obj:=fo (t 61) "message_in" "message_in" (vs "bellwrite.words" 616) 335
noncomputable def ziT:Obj:=tp #[(vs "word" 668),(vs "bells" 669)]
noncomputable def ziU:Obj:=go (t 62) "bells_in" "bells_in"
noncomputable def ziV:Obj:=co #[(vs "bells_in" 665),(vs "bells_in" 666),(vc 667),(vi 235),(vi 1),(vi 0),(vi 0),(vi 3),(vr 337),(.bool true),(vi 181),(vr 338),.none,(vr 339),(vr 340),(vr 341),(vi 670),(vi 235),(vc 671)]
noncomputable def ziW:Obj:=fo (t 62) "bells_in" "bells_in" (vs "bellwrite.words" 616) 342
noncomputable def ziX:Obj:=go (t 63) "turns_in" "turns_in"
noncomputable def o200:Obj:=co #[(vs "turns_in" 673),(vs "turns_in" 674),(vc 675),(vi 240),(vi 1),(vi 0),(vi 0),(vi 3),(vr 344),(.bool true),(vi 181),(vr 345),.none,.none,.none,(vr 346),(vi 676),(vi 240),(vc 677)]
noncomputable def ziY:Obj:=fo (t 63) "turns_in" "turns_in" (vs "bellwrite.words" 616) 347
noncomputable def ziZ:Obj:=tp #[(vs "number" 682)]
noncomputable def zi0:Obj:=go (t 64) "number_told" "number_told"
noncomputable def zi1:Obj:=co #[(vs "number_told" 679),(vs "number_told" 680),(vc 681),(vi 248),(vi 1),(vi 0),(vi 0),(vi 3),(vr 349),(.bool true),(vi 181),(vr 350),.none,(vr 351),(vr 352),(vr 353),(vi 683),(vi 248),(vc 684)]
noncomputable def zi2:Obj:=fo (t 64) "number_told" "number_told" (vs "bellwrite.words" 616) 354
noncomputable def zi3:Obj:=go (t 65) "turns_told" "turns_told"
noncomputable def zi4:Obj:=co #[(vs "turns_told" 686),(vs "turns_told" 687),(vc 688),(vi 250),(vi 1),(vi 0),(vi 0),(vi 3),(vr 356),(.bool true),(vi 181),(vr 357),.none,.none,.none,(vr 358),(vi 689),(vi 250),(vc 690)]
noncomputable def zi5:Obj:=fo (t 65) "turns_told" "turns_told" (vs "bellwrite.words" 616) 359
noncomputable def zi6 (P:Params):Obj:=⟨(vy "dict"),none,(.dict #[e P "__module__" 701 (vs "bellwrite.desk" 692),e P "__qualname__" 703 (vs "Frame" 702),e P "__firstlineno__" 705 (.int 253 704),e P "__init__" 715 (vr 374),e P "__static_attributes__" 719 (vr 375)] 5),#[]⟩
noncomputable def zi7:Obj:=⟨.none,none,(.fields #[(vi 255),(vi 4),(vr 373)]),#[]⟩
noncomputable def zi8:Obj:=co #[(vs "Frame" 696),(vs "Frame" 697),(vc 698),(vi 253),(vi 0),(vi 0),(vi 0),(vi 0),(vr 364),(.bool false),(vi 181),(vr 365),.none,.none,.none,.none,(vi 699),(vi 253),(vc 700)]
noncomputable def zi9:Obj:=⟨(vy "frame"),none,.plain,#[(some (vr 366)),(some (vr 3)),(some (vr 363)),none,(some (vs "bellwrite.desk" 692)),none,(some (vr 0))]⟩
noncomputable def zja:Obj:=tp #[(vs "self" 709),(vs "turns" 710),(vs "bells" 711),(vs "late" 712)]
noncomputable def zjb:Obj:=go (u 67 0) "__init__" "Frame.__init__"
noncomputable def zjc:Obj:=co #[(vs "__init__" 706),(vs "Frame.__init__" 707),(vc 708),(vi 255),(vi 4),(vi 0),(vi 0),(vi 3),(vr 368),(.bool true),(vi 181),(vr 369),.none,(vr 370),(vr 371),(vr 372),(vi 713),(vi 255),(vc 714)]
noncomputable def zjd:Obj:=fo (u 67 0) "__init__" "Frame.__init__" (vs "bellwrite.desk" 692) 373
noncomputable def zje:Obj:=tp #[(vs "bells" 716),(vs "late" 717),(vs "turns" 718)]
noncomputable def zjf (P:Params):Obj:=⟨(vy "dict"),none,(.dict #[e P "__module__" 701 (vs "bellwrite.desk" 692),e P "__firstlineno__" 705 (.int 253 704),e P "__init__" 715 (vr 374),e P "__static_attributes__" 719 (vr 375),e P "__dict__" 721 (vr 378),e P "__weakref__" 723 (vr 379),e P "__doc__" 724 .none] 4),#[]⟩
noncomputable def zjg:Obj:=⟨(vy "type"),none,(.cls ⟨"Frame",[(vy "object")],[(vr 377),(vy "object")],376,"Frame",true,[],[],false,none,false⟩),#[none,none,(some (vs "Frame" 694)),(some (vs "Frame" 702)),(some (vb "object.__new__")),(some (.bool true))]⟩
noncomputable def zjh:Obj:=⟨(vy "getset_descriptor"),none,(.fields #[(vs "__dict__" 720),(vr 377),(vb "function.__dict__"),(vb "function.__dict__#set")]),#[]⟩
noncomputable def zji:Obj:=⟨(vy "getset_descriptor"),none,(.fields #[(vs "__weakref__" 722),(vr 377),(vb "ExceptionGroup.__weakref__"),.none]),#[]⟩
noncomputable def zjj:Obj:=⟨(vy "super"),none,(.fields #[(vr 377),(vr 377),(vr 377)]),#[]⟩
noncomputable def zjk:Obj:=⟨(vy "builtin_function_or_method"),none,(.fields #[(vb "object.__init_subclass__"),(vr 377)]),#[]⟩
noncomputable def zjl (P:Params):Obj:=⟨(vy "dict"),none,(.dict #[e P "__module__" 734 (vs "bellwrite.desk" 692),e P "__qualname__" 736 (vs "Desk" 735),e P "__firstlineno__" 738 (.int 259 737),e P "__init__" 745 (vr 395),e P "told" 754 (vr 402),e P "keep" 765 (vr 409),e P "ring" 776 (vr 416),e P "listen" 787 (vr 423),e P "send_note" 796 (vr 430),e P "kept" 804 (vr 437),e P "__static_attributes__" 806 (vr 438)] 11),#[]⟩
noncomputable def zjm:Obj:=⟨.none,none,(.fields #[(vi 261),(vi 4),(vr 394),(vi 264),(vi 4),(vr 401),(vi 278),(vi 4),(vr 408),(vi 285),(vi 4),(vr 415),(vi 293),(vi 4),(vr 422),(vi 303),(vi 4),(vr 429),(vi 307),(vi 4),(vr 436)]),#[]⟩
noncomputable def zjn:Obj:=co #[(vs "Desk" 729),(vs "Desk" 730),(vc 731),(vi 259),(vi 0),(vi 0),(vi 0),(vi 0),(vr 385),(.bool false),(vi 181),(vr 386),.none,.none,.none,.none,(vi 732),(vi 259),(vc 733)]
noncomputable def zjo:Obj:=⟨(vy "frame"),none,.plain,#[(some (vr 387)),(some (vr 3)),(some (vr 384)),none,(some (vs "bellwrite.desk" 692)),none,(some (vr 0))]⟩
noncomputable def zjp:Obj:=tp #[(vs "self" 742)]
noncomputable def zjq:Obj:=go (u 68 0) "__init__" "Desk.__init__"
noncomputable def zjr:Obj:=co #[(vs "__init__" 739),(vs "Desk.__init__" 740),(vc 741),(vi 261),(vi 1),(vi 0),(vi 0),(vi 3),(vr 389),(.bool true),(vi 181),(vr 390),.none,(vr 391),(vr 392),(vr 393),(vi 743),(vi 261),(vc 744)]
noncomputable def zjs:Obj:=fo (u 68 0) "__init__" "Desk.__init__" (vs "bellwrite.desk" 692) 394
noncomputable def zjt:Obj:=tp #[(vs "self" 749),(vs "order" 750),(vs "words" 751)]
noncomputable def zju:Obj:=go (u 68 1) "told" "Desk.told"
noncomputable def zjv:Obj:=co #[(vs "told" 746),(vs "Desk.told" 747),(vc 748),(vi 264),(vi 2),(vi 0),(vi 0),(vi 3),(vr 396),(.bool true),(vi 181),(vr 397),.none,(vr 398),(vr 399),(vr 400),(vi 752),(vi 264),(vc 753)]
noncomputable def zjw:Obj:=fo (u 68 1) "told" "Desk.told" (vs "bellwrite.desk" 692) 401
noncomputable def zjx:Obj:=tp #[(vs "self" 758),(vs "words" 759),(vs "name" 760),(vs "frame" 761),(vs "count" 762)]
noncomputable def zjy:Obj:=go (u 68 2) "keep" "Desk.keep"
noncomputable def zjz:Obj:=co #[(vs "keep" 755),(vs "Desk.keep" 756),(vc 757),(vi 278),(vi 2),(vi 0),(vi 0),(vi 3),(vr 403),(.bool true),(vi 181),(vr 404),.none,(vr 405),(vr 406),(vr 407),(vi 763),(vi 278),(vc 764)]
noncomputable def zjA:Obj:=fo (u 68 2) "keep" "Desk.keep" (vs "bellwrite.desk" 692) 408
noncomputable def zjB:Obj:=tp #[(vs "self" 769),(vs "words" 770),(vs "name" 771),(vs "message" 772),(vs "frame" 773)]
noncomputable def zjC:Obj:=go (u 68 3) "ring" "Desk.ring"
noncomputable def zjD:Obj:=co #[(vs "ring" 766),(vs "Desk.ring" 767),(vc 768),(vi 285),(vi 2),(vi 0),(vi 0),(vi 3),(vr 410),(.bool true),(vi 181),(vr 411),.none,(vr 412),(vr 413),(vr 414),(vi 774),(vi 285),(vc 775)]
noncomputable def zjE:Obj:=fo (u 68 3) "ring" "Desk.ring" (vs "bellwrite.desk" 692) 415
noncomputable def zjF:Obj:=tp #[(vs "self" 780),(vs "words" 781),(vs "name" 782),(vs "reading" 783),(vs "frame" 784)]
noncomputable def zjG:Obj:=go (u 68 4) "listen" "Desk.listen"
noncomputable def zjH:Obj:=co #[(vs "listen" 777),(vs "Desk.listen" 778),(vc 779),(vi 293),(vi 2),(vi 0),(vi 0),(vi 3),(vr 417),(.bool true),(vi 181),(vr 418),.none,(vr 419),(vr 420),(vr 421),(vi 785),(vi 293),(vc 786)]
noncomputable def zjI:Obj:=fo (u 68 4) "listen" "Desk.listen" (vs "bellwrite.desk" 692) 422
noncomputable def zjJ:Obj:=tp #[(vs "self" 791),(vs "words" 792),(vs "frame" 793)]
noncomputable def zjK:Obj:=go (u 68 5) "send_note" "Desk.send_note"
noncomputable def zjL:Obj:=co #[(vs "send_note" 788),(vs "Desk.send_note" 789),(vc 790),(vi 303),(vi 2),(vi 0),(vi 0),(vi 3),(vr 424),(.bool true),(vi 181),(vr 425),.none,(vr 426),(vr 427),(vr 428),(vi 794),(vi 303),(vc 795)]
noncomputable def zjM:Obj:=fo (u 68 5) "send_note" "Desk.send_note" (vs "bellwrite.desk" 692) 429
noncomputable def zjN:Obj:=tp #[(vs "self" 800),(vs "name" 801)]
noncomputable def zjO:Obj:=go (u 68 6) "kept" "Desk.kept"
noncomputable def zjP:Obj:=co #[(vs "kept" 797),(vs "Desk.kept" 798),(vc 799),(vi 307),(vi 2),(vi 0),(vi 0),(vi 3),(vr 431),(.bool true),(vi 181),(vr 432),.none,(vr 433),(vr 434),(vr 435),(vi 802),(vi 307),(vc 803)]
noncomputable def zjQ:Obj:=fo (u 68 6) "kept" "Desk.kept" (vs "bellwrite.desk" 692) 436
noncomputable def zjR:Obj:=tp #[(vs "frames" 805)]
noncomputable def zjS (P:Params):Obj:=⟨(vy "dict"),none,(.dict #[e P "__module__" 734 (vs "bellwrite.desk" 692),e P "__firstlineno__" 738 (.int 259 737),e P "__init__" 745 (vr 395),e P "told" 754 (vr 402),e P "keep" 765 (vr 409),e P "ring" 776 (vr 416),e P "listen" 787 (vr 423),e P "send_note" 796 (vr 430),e P "kept" 804 (vr 437),e P "__static_attributes__" 806 (vr 438),e P "__dict__" 808 (vr 441),e P "__weakref__" 810 (vr 442),e P "__doc__" 811 .none] 4),#[]⟩
noncomputable def zjT:Obj:=⟨(vy "type"),none,(.cls ⟨"Desk",[(vy "object")],[(vr 440),(vy "object")],439,"Desk",true,[],[],false,none,false⟩),#[none,none,(some (vs "Desk" 727)),(some (vs "Desk" 735)),(some (vb "object.__new__")),(some (.bool true))]⟩
noncomputable def zjU:Obj:=⟨(vy "getset_descriptor"),none,(.fields #[(vs "__dict__" 807),(vr 440),(vb "function.__dict__"),(vb "function.__dict__#set")]),#[]⟩
noncomputable def zjV:Obj:=⟨(vy "getset_descriptor"),none,(.fields #[(vs "__weakref__" 809),(vr 440),(vb "ExceptionGroup.__weakref__"),.none]),#[]⟩
noncomputable def zjW:Obj:=⟨(vy "super"),none,(.fields #[(vr 440),(vr 440),(vr 440)]),#[]⟩
noncomputable def zjX:Obj:=⟨(vy "builtin_function_or_method"),none,(.fields #[(vb "object.__init_subclass__"),(vr 440)]),#[]⟩
noncomputable def zjY:Obj:=tp #[(vs "frame" 817)]
noncomputable def zjZ:Obj:=go (t 69) "count_of" "count_of"
noncomputable def zj0:Obj:=co #[(vs "count_of" 814),(vs "count_of" 815),(vc 816),(vi 311),(vi 1),(vi 0),(vi 0),(vi 3),(vr 445),(.bool true),(vi 181),(vr 446),.none,(vr 447),(vr 448),(vr 449),(vi 818),(vi 311),(vc 819)]
noncomputable def zj1:Obj:=fo (t 69) "count_of" "count_of" (vs "bellwrite.desk" 692) 450
noncomputable def zj2:Obj:=tp #[(vs "reading" 824),(vs "frame" 825)]
noncomputable def zj3:Obj:=go (t 70) "note_heard" "note_heard"
noncomputable def zj4:Obj:=co #[(vs "note_heard" 821),(vs "note_heard" 822),(vc 823),(vi 313),(vi 2),(vi 0),(vi 0),(vi 3),(vr 452),(.bool true),(vi 181),(vr 453),.none,(vr 454),(vr 455),(vr 456),(vi 826),(vi 313),(vc 827)]
noncomputable def zj5:Obj:=fo (t 70) "note_heard" "note_heard" (vs "bellwrite.desk" 692) 457
noncomputable def zj6:Obj:=tp #[(vs "words" 832)]
noncomputable def zj7:Obj:=go (t 71) "choice_told" "choice_told"
noncomputable def zj8:Obj:=co #[(vs "choice_told" 829),(vs "choice_told" 830),(vc 831),(vi 317),(vi 1),(vi 0),(vi 0),(vi 3),(vr 459),(.bool true),(vi 181),(vr 460),.none,(vr 461),(vr 462),(vr 463),(vi 833),(vi 317),(vc 834)]
noncomputable def zj9:Obj:=fo (t 71) "choice_told" "choice_told" (vs "bellwrite.desk" 692) 464
noncomputable def zka:Obj:=tp #[(vs "words" 839),(vs "many" 840),(vs "late" 841),(vs "found" 842),(vs "cost" 843),(vs "turns" 844),(vs "bells" 845)]
noncomputable def zkb:Obj:=go (t 72) "cheapest_told" "cheapest_told"
noncomputable def zkc:Obj:=co #[(vs "cheapest_told" 836),(vs "cheapest_told" 837),(vc 838),(vi 325),(vi 1),(vi 0),(vi 0),(vi 3),(vr 466),(.bool true),(vi 181),(vr 467),.none,(vr 468),(vr 469),(vr 470),(vi 846),(vi 325),(vc 847)]
noncomputable def zkd:Obj:=fo (t 72) "cheapest_told" "cheapest_told" (vs "bellwrite.desk" 692) 471
noncomputable def zke:Obj:=tp #[(vs "script" 854),(vs "k" 855)]
noncomputable def zkf:Obj:=go (t 74) "_law_cell_at" "_law_cell_at"
noncomputable def zkg:Obj:=co #[(vs "_law_cell_at" 851),(vs "_law_cell_at" 852),(vc 853),(vi 336),(vi 2),(vi 0),(vi 0),(vi 3),(vr 473),(.bool true),(vi 181),(vr 474),.none,(vr 475),(vr 476),(vr 477),(vi 856),(vi 336),(vc 857)]
noncomputable def zkh:Obj:=fo (t 74) "_law_cell_at" "_law_cell_at" (vs "law_bellwrite_k95_notes_at_the_desk" 849) 478
noncomputable def zki:Obj:=tp #[(vs "cell" 862),(vs "k" 863),(vs "number" 864)]
noncomputable def zkj:Obj:=go (t 75) "_law_drawn" "_law_drawn"
noncomputable def zkk:Obj:=co #[(vs "_law_drawn" 859),(vs "_law_drawn" 860),(vc 861),(vi 340),(vi 2),(vi 0),(vi 0),(vi 3),(vr 480),(.bool true),(vi 181),(vr 481),.none,(vr 482),(vr 483),(vr 484),(vi 865),(vi 340),(vc 866)]
noncomputable def zkl:Obj:=fo (t 75) "_law_drawn" "_law_drawn" (vs "law_bellwrite_k95_notes_at_the_desk" 849) 485
noncomputable def zkm:Obj:=go (t 76) "_law_names" "_law_names"
noncomputable def zkn:Obj:=co #[(vs "_law_names" 868),(vs "_law_names" 869),(vc 870),(vi 344),(vi 1),(vi 0),(vi 0),(vi 3),(vr 487),(.bool true),(vi 181),(vr 488),.none,.none,.none,(vr 489),(vi 871),(vi 344),(vc 872)]
noncomputable def zko:Obj:=fo (t 76) "_law_names" "_law_names" (vs "law_bellwrite_k95_notes_at_the_desk" 849) 490
noncomputable def zkp:Obj:=tp #[(vs "cell" 877),(vs "bells" 878),(vs "late" 879),(vs "turns" 880)]
noncomputable def zkq:Obj:=go (t 77) "_law_frame" "_law_frame"
noncomputable def zkr:Obj:=co #[(vs "_law_frame" 874),(vs "_law_frame" 875),(vc 876),(vi 348),(vi 1),(vi 0),(vi 0),(vi 3),(vr 492),(.bool true),(vi 181),(vr 493),.none,(vr 494),(vr 495),(vr 496),(vi 881),(vi 348),(vc 882)]
noncomputable def zks:Obj:=fo (t 77) "_law_frame" "_law_frame" (vs "law_bellwrite_k95_notes_at_the_desk" 849) 497
noncomputable def zkt:Obj:=go (t 78) "_law_text" "_law_text"
noncomputable def zku:Obj:=co #[(vs "_law_text" 884),(vs "_law_text" 885),(vc 886),(vi 357),(vi 1),(vi 0),(vi 0),(vi 3),(vr 499),(.bool true),(vi 181),(vr 500),.none,.none,.none,(vr 501),(vi 887),(vi 357),(vc 888)]
noncomputable def zkv:Obj:=fo (t 78) "_law_text" "_law_text" (vs "law_bellwrite_k95_notes_at_the_desk" 849) 502
noncomputable def zkw:Obj:=tp #[(vs "e" 893),(vs "kinds" 894)]
noncomputable def zkx:Obj:=go (t 79) "_law_kind" "_law_kind"
noncomputable def zky:Obj:=co #[(vs "_law_kind" 890),(vs "_law_kind" 891),(vc 892),(vi 369),(vi 1),(vi 0),(vi 0),(vi 3),(vr 504),(.bool true),(vi 181),(vr 505),.none,(vr 506),(vr 507),(vr 508),(vi 895),(vi 369),(vc 896)]
noncomputable def o300:Obj:=fo (t 79) "_law_kind" "_law_kind" (vs "law_bellwrite_k95_notes_at_the_desk" 849) 509
noncomputable def zle (P:Params):Obj:=⟨(vy "dict"),none,(.dict #[e P "__name__" 165 (vs "law_bellwrite_k95_notes_at_the_desk" 849),e P "__doc__" 166 .none,e P "__package__" 167 .none,e P "__loader__" 168 (vb "__main__.__loader__#opaque"),e P "__spec__" 169 .none,e P "__annotations__" 170 (vr 6),e P "__builtins__" 171 (vr 4),e P "__file__" 173 (vc 172),e P "__cached__" 174 .none,e P "choose" 198 (vr 21),e P "top_of" 206 (vr 28),e P "top_from" 219 (vr 35),e P "above_top" 230 (vr 42),e P "rounded_up" 238 (vr 49),e P "BellError" 258 (vr 59),e P "NoRow" 274 (vr 72),e P "NoReading" 290 (vr 84),e P "TooGreat" 306 (vr 96),e P "TooMany" 322 (vr 108),e P "NoNote" 338 (vr 120),e P "NoOrder" 354 (vr 132),e P "NoName" 370 (vr 144),e P "box_of" 378 (vr 151),e P "bell_row" 384 (vr 156),e P "heard_box" 395 (vr 163),e P "box_count" 404 (vr 170),e P "greatest_part" 413 (vr 177),e P "shortest_frame" 425 (vr 184),e P "best_bells" 438 (vr 191),e P "cheapest" 455 (vr 198),e P "box_number" 463 (vr 203),e P "box_of_message" 475 (vr 210),e P "written" 485 (vr 217),e P "read" 496 (vr 224),e P "keyed_count" 507 (vr 231),e P "keyed" 513 (vr 236),e P "unkeyed" 519 (vr 241),e P "refuse_silent" 529 (vr 248),e P "rung" 535 (vr 253),e P "by_messages" 547 (vr 260),e P "SIGNS" 551 (vs "abcdefghijklmnopqrstuvwxyz " 550),e P "MOST_SIGNS" 553 (.int 60 552),e P "LEAST_COUNT" 555 (.int 3 554),e P "note_number" 565 (vr 267),e P "note_of" 574 (vr 274),e P "parts" 584 (vr 281),e P "number_of_parts" 590 (vr 286),e P "sent" 596 (vr 291),e P "received" 602 (vr 296),e P "messages_ahead_of_end" 615 (vr 303),e P "LETTERS" 619 (vs "abcdefghijklmnopqrstuvwxyz" 618),e P "MOST_LETTERS" 621 (.int 8 620),e P "FIGURES" 623 (vs "0123456789" 622),e P "MOST_FIGURES" 625 (.int 60 624),e P "MOST_FIGURES_OF_MESSAGE" 627 (.int 3000 626),e P "MOST_BELLS" 629 (.int 60 628),e P "is_made_of" 635 (vr 308),e P "name_in" 642 (vr 315),e P "figures_in" 650 (vr 322),e P "number_in" 657 (vr 329),e P "message_in" 664 (vr 336),e P "bells_in" 672 (vr 343),e P "turns_in" 678 (vr 348),e P "number_told" 685 (vr 355),e P "turns_told" 691 (vr 360),e P "Frame" 726 (vr 377),e P "Desk" 813 (vr 440),e P "count_of" 820 (vr 451),e P "note_heard" 828 (vr 458),e P "choice_told" 835 (vr 465),e P "cheapest_told" 848 (vr 472),e P "_law_cell_at" 858 (vr 479),e P "_law_drawn" 867 (vr 486),e P "_law_names" 873 (vr 491),e P "_law_frame" 883 (vr 498),e P "_law_text" 889 (vr 503),e P "_law_kind" 897 (vr 510),e P "_law_told" 908 (vr 517),e P "_law_sent" 919 (vr 524),e P "_law_received" 933 (vr 531),e P "_law_note" 939 (vr 536),e P "_law_hear" 945 (vr 541),e P "_law_order" 951 (vr 546),e P "law" 957 (vr 551)] 84),#[]⟩
noncomputable def zlf:Obj:=⟨.none,none,(.fields #[(vi 2),(vi 0),(vr 20),(vi 9),(vi 0),(vr 27),(vi 11),(vi 0),(vr 34),(vi 20),(vi 0),(vr 41),(vi 26),(vi 0),(vr 48),(vi 29),(vi 0),(vr 55),(vi 31),(vi 0),(vr 68),(vi 33),(vi 0),(vr 80),(vi 35),(vi 0),(vr 92),(vi 37),(vi 0),(vr 104),(vi 39),(vi 0),(vr 116),(vi 41),(vi 0),(vr 128),(vi 43),(vi 0),(vr 140),(vi 46),(vi 0),(vr 150),(vi 48),(vi 0),(vr 155),(vi 50),(vi 0),(vr 162),(vi 58),(vi 0),(vr 169),(vi 62),(vi 0),(vr 176),(vi 65),(vi 0),(vr 183),(vi 72),(vi 0),(vr 190),(vi 82),(vi 0),(vr 197),(vi 92),(vi 0),(vr 202),(vi 94),(vi 0),(vr 209),(vi 105),(vi 0),(vr 216),(vi 109),(vi 0),(vr 223),(vi 117),(vi 0),(vr 230),(vi 121),(vi 0),(vr 235),(vi 126),(vi 0),(vr 240),(vi 133),(vi 0),(vr 247),(vi 136),(vi 0),(vr 252),(vi 143),(vi 0),(vr 259),(vi 153),(vi 0),(vr 266),(vi 163),(vi 0),(vr 273),(vi 175),(vi 0),(vr 280),(vi 182),(vi 0),(vr 285),(vi 191),(vi 0),(vr 290),(vi 199),(vi 0),(vr 295),(vi 206),(vi 0),(vr 302),(vi 221),(vi 0),(vr 307),(vi 223),(vi 0),(vr 314),(vi 227),(vi 0),(vr 321),(vi 231),(vi 0),(vr 328),(vi 233),(vi 0),(vr 335),(vi 235),(vi 0),(vr 342),(vi 240),(vi 0),(vr 347),(vi 248),(vi 0),(vr 354),(vi 250),(vi 0),(vr 359),(vi 253),(vi 0),(vr 366),(vi 259),(vi 0),(vr 387),(vi 311),(vi 0),(vr 450),(vi 313),(vi 0),(vr 457),(vi 317),(vi 0),(vr 464),(vi 325),(vi 0),(vr 471),(vi 336),(vi 0),(vr 478),(vi 340),(vi 0),(vr 485),(vi 344),(vi 0),(vr 490),(vi 348),(vi 0),(vr 497),(vi 357),(vi 0),(vr 502),(vi 369),(vi 0),(vr 509),(vi 384),(vi 0),(vr 516),(vi 396),(vi 0),(vr 523),(vi 406),(vi 0),(vr 530),(vi 419),(vi 0),(vr 535),(vi 426),(vi 0),(vr 540),(vi 442),(vi 0),(vr 545),(vi 455),(vi 0),(vr 550)]),#[]⟩
noncomputable def zlg:Obj:=tp #[(vs "desk" 901),(vs "order" 902),(vs "caught" 903),(vs "found" 904),(vs "e" 905)]
noncomputable def zlh:Obj:=go (t 80) "_law_told" "_law_told"
noncomputable def zli:Obj:=co #[(vs "_law_told" 898),(vs "_law_told" 899),(vc 900),(vi 384),(vi 2),(vi 0),(vi 0),(vi 3),(vr 511),(.bool true),(vi 181),(vr 512),.none,(vr 513),(vr 514),(vr 515),(vi 906),(vi 384),(vc 907)]
noncomputable def zlj:Obj:=fo (t 80) "_law_told" "_law_told" (vs "law_bellwrite_k95_notes_at_the_desk" 849) 516
noncomputable def zlk:Obj:=tp #[(vs "text" 912),(vs "frame" 913),(vs "caught" 914),(vs "found" 915),(vs "e" 916)]
noncomputable def zll:Obj:=go (t 81) "_law_sent" "_law_sent"
noncomputable def zlm:Obj:=co #[(vs "_law_sent" 909),(vs "_law_sent" 910),(vc 911),(vi 396),(vi 2),(vi 0),(vi 0),(vi 3),(vr 518),(.bool true),(vi 181),(vr 519),.none,(vr 520),(vr 521),(vr 522),(vi 917),(vi 396),(vc 918)]
noncomputable def zln:Obj:=fo (t 81) "_law_sent" "_law_sent" (vs "law_bellwrite_k95_notes_at_the_desk" 849) 523
noncomputable def zlo:Obj:=tp #[(vs "reading" 923),(vs "frame" 924),(vs "turns" 925),(vs "bells" 926),(vs "late" 927),(vs "caught" 928),(vs "found" 929),(vs "e" 930)]
noncomputable def zlp:Obj:=go (t 82) "_law_received" "_law_received"
noncomputable def zlq:Obj:=co #[(vs "_law_received" 920),(vs "_law_received" 921),(vc 922),(vi 406),(vi 2),(vi 0),(vi 0),(vi 3),(vr 525),(.bool true),(vi 181),(vr 526),.none,(vr 527),(vr 528),(vr 529),(vi 931),(vi 406),(vc 932)]
noncomputable def zlr:Obj:=fo (t 82) "_law_received" "_law_received" (vs "law_bellwrite_k95_notes_at_the_desk" 849) 530
noncomputable def zls:Obj:=go (t 83) "_law_note" "_law_note"
noncomputable def zlt:Obj:=co #[(vs "_law_note" 934),(vs "_law_note" 935),(vc 936),(vi 419),(vi 4),(vi 0),(vi 0),(vi 3),(vr 532),(.bool true),(vi 181),(vr 533),.none,.none,.none,(vr 534),(vi 937),(vi 419),(vc 938)]
noncomputable def zlu:Obj:=fo (t 83) "_law_note" "_law_note" (vs "law_bellwrite_k95_notes_at_the_desk" 849) 535
noncomputable def zlv:Obj:=go (t 84) "_law_hear" "_law_hear"
noncomputable def zlw:Obj:=co #[(vs "_law_hear" 940),(vs "_law_hear" 941),(vc 942),(vi 426),(vi 4),(vi 0),(vi 0),(vi 3),(vr 537),(.bool true),(vi 181),(vr 538),.none,.none,.none,(vr 539),(vi 943),(vi 426),(vc 944)]
noncomputable def zlx:Obj:=fo (t 84) "_law_hear" "_law_hear" (vs "law_bellwrite_k95_notes_at_the_desk" 849) 540
noncomputable def zly:Obj:=go (t 85) "_law_order" "_law_order"
noncomputable def zlz:Obj:=co #[(vs "_law_order" 946),(vs "_law_order" 947),(vc 948),(vi 442),(vi 4),(vi 0),(vi 0),(vi 3),(vr 542),(.bool true),(vi 181),(vr 543),.none,.none,.none,(vr 544),(vi 949),(vi 442),(vc 950)]
noncomputable def zlA:Obj:=fo (t 85) "_law_order" "_law_order" (vs "law_bellwrite_k95_notes_at_the_desk" 849) 545
noncomputable def zlB:Obj:=go (t 86) "law" "law"
noncomputable def zlC:Obj:=co #[(vs "law" 952),(vs "law" 953),(vc 954),(vi 455),(vi 1),(vi 0),(vi 0),(vi 3),(vr 547),(.bool true),(vi 181),(vr 548),.none,.none,.none,(vr 549),(vi 955),(vi 455),(vc 956)]
noncomputable def zlD:Obj:=fo (t 86) "law" "law" (vs "law_bellwrite_k95_notes_at_the_desk" 849) 550
noncomputable def hA (P:Params):Heap:=⟨#[boot_o_0 P,boot_o_1 P,boot_o_2 P,boot_o_3 P,boot_o_4 P,boot_o_5 P,boot_o_6 P,b7 P,b8 P,boot_o_9 P,boot_o_10 P,b7 P,b8 P,o1,o2],lf⟩
noncomputable def tr0 (P:Params):BT:=(n (boot_o_0 P) (n (boot_o_1 P) (n (boot_o_3 P) (y7 P) (y7 P)) (n (boot_o_5 P) (n (boot_o_9 P) z z) (n o1 z z))) (n (boot_o_2 P) (n (boot_o_4 P) (y8 P) (y8 P)) (n (boot_o_6 P) (n (boot_o_10 P) z z) (n o2 z z))))
noncomputable def tr1 (P:Params):BT:=(n (boot_o_0 P) (n (boot_o_1 P) (n (o3 P) (n (b7 P) (n (b7 P) (n o13 (n o35 (n (b8 P) (y8 P) (n o26 z z)) (n zhw (y7 P) (n zjY z z))) (n (o53 P) (n o91 (y7 P) (n zjD z z)) (n zhN (n ziZ z z) (n zkh z z)))) (n o22 (n (b8 P) (n (o81 P) (y7 P) (y7 P)) (n (b7 P) (n ziR z z) (n zj7 z z))) (n o35 (n o100 (n ziz z z) (y7 P)) (n zhW (n zi9 z z) (y7 P))))) (n (b8 P) (n (b7 P) (n (o39 P) (n o35 (n zia z z) (n zjp z z)) (n (b7 P) (n ziM z z) (y7 P))) (n (b8 P) (n (b7 P) (n ziu z z) (n zjI z z)) (n zhS (n zi4 z z) (y7 P)))) (n o28 (n o35 (n o87 (n zij z z) (n zjy z z)) (n zhI (n ziW z z) (n zkc z z))) (n (o67 P) (n zhr (n ziD z z) (n (zjS P) z z)) (n zh1 (n zje z z) (n zkv z z)))))) (n (b7 P) (n o6 (n o16 (n (b8 P) (n (o74 P) (n zh8 z z) (n zjn z z)) (n (b7 P) (y7 P) (n zj1 z z))) (n o35 (n o94 (n zis z z) (n zjF z z)) (n zhP (n zi2 z z) (y7 P)))) (n o26 (n (o46 P) (n (b7 P) (y7 P) (y7 P)) (n (b7 P) (n ziT z z) (y8 P))) (n (b8 P) (n (b8 P) (n ziB z z) (n zjO z z)) (n (b8 P) (y7 P) (y7 P))))) (n o11 (n (b7 P) (n o35 (n (b8 P) (n zid z z) (n zjs z z)) (n zhC (y8 P) (y7 P))) (n (o60 P) (n (b7 P) (n ziw z z) (y7 P)) (n zhU (n (zi6 P) z z) (n zko z z)))) (n o31 (n (b8 P) (n o89 (y8 P) (y8 P)) (n (b8 P) (n o200 z z) (n zke z z))) (n o35 (n zht (n ziG z z) (n zjW z z)) (n zh3 (n zji z z) (y7 P))))))) (n (boot_o_5 P) (n (boot_o_9 P) (n o5 (n o14 (n (o36 P) (n o73 (y7 P) (y7 P)) (n (b8 P) (n ziJ z z) (n zjZ z z))) (n o55 (n o92 (n ziq z z) (y7 P)) (n (b7 P) (n zi0 z z) (y8 P)))) (n o24 (n o45 (n o83 (n zig z z) (n zjv z z)) (n zhF (y7 P) (n zj9 z z))) (n (o64 P) (n zho (y8 P) (n zjN z z)) (n zhY (y8 P) (n zkr z z))))) (n (b7 P) (n o19 (n o41 (n (o78 P) (n zib z z) (n zjq z z)) (n zhA (n ziO z z) (n zj4 z z))) (n o59 (n o97 (y7 P) (y8 P)) (n (b8 P) (y7 P) (n zkm z z)))) (n (b7 P) (n (o50 P) (n (b8 P) (n zil z z) (n zjA z z)) (n zhK (y8 P) (y7 P))) (n o69 (n (b7 P) (n ziE z z) (n zjU z z)) (n (b7 P) (n zjg z z) (y8 P)))))) (n o1 (n o8 (n (b8 P) (n o38 (n o76 (y7 P) (y7 P)) (n zhy (n ziL z z) (y8 P))) (n (o57 P) (n (b8 P) (y8 P) (n zjG z z)) (n zhQ (y8 P) (n zkk z z)))) (n (b7 P) (n o48 (n o85 (n zii z z) (n zjx z z)) (n zhH (n ziU z z) (y7 P))) (n o66 (n (b7 P) (y7 P) (n zjQ z z)) (n (b7 P) (n zjc z z) (n zkt z z))))) (n (b7 P) (n o21 (n (o43 P) (n o80 (y8 P) (y8 P)) (n (b8 P) (y7 P) (n zj6 z z))) (n o62 (n o99 (n zix z z) (n zjL z z)) (n (b7 P) (n zi7 z z) (y8 P)))) (n o33 (n o52 (n (b7 P) (n zin z z) (y7 P)) (n (b7 P) (y7 P) (n zkf z z))) (n (o71 P) (n zhu (y8 P) (y7 P)) (n zh5 (n zjk z z) (n zky z z)))))))) (n (boot_o_2 P) (n (boot_o_4 P) (n (b8 P) (n (b8 P) (n (b7 P) (n o26 (n o72 (n zh6 z z) (n (zjl P) z z)) (n (b7 P) (n ziI z z) (y7 P))) (n o54 (n (b7 P) (y8 P) (n zjE z z)) (n zhO (y7 P) (y7 P)))) (n o23 (n o44 (n o82 (n zif z z) (n zju z z)) (n zhE (n ziS z z) (n zj8 z z))) (n o26 (n zhn (y7 P) (y8 P)) (n zhX (y7 P) (n zkq z z))))) (n o9 (n o18 (n o40 (n o26 (y7 P) (y7 P)) (n (b8 P) (n ziN z z) (n zj3 z z))) (n o58 (n o96 (n ziv z z) (y7 P)) (n (b7 P) (n zi5 z z) (y8 P)))) (n o29 (n o26 (n (b7 P) (n zik z z) (n zjz z z)) (n zhJ (y7 P) (n zkd z z))) (n o68 (n zhs (y7 P) (n zjT z z)) (n zh2 (n (zjf P) z z) (y7 P)))))) (n o4 (n o7 (n (b7 P) (n o37 (n o75 (n zh9 z z) (n zjo z z)) (n zhx (y8 P) (y7 P))) (n o26 (n (b7 P) (y7 P) (y7 P)) (n (b7 P) (y7 P) (n zkj z z)))) (n (o27 P) (n o47 (n (b8 P) (y8 P) (y8 P)) (n (b8 P) (y7 P) (n zka z z))) (n o65 (n zhp (n ziC z z) (n zjP z z)) (n zhZ (n zjb z z) (y8 P))))) (n o12 (n (b8 P) (n o26 (n o79 (y7 P) (y7 P)) (n (b7 P) (n ziP z z) (y8 P))) (n o61 (n (b8 P) (y7 P) (n zjK z z)) (n zhV (y7 P) (y7 P)))) (n o32 (n o51 (n o90 (n zim z z) (n zjB z z)) (n zhL (n ziY z z) (y7 P))) (n o26 (n (b7 P) (y7 P) (n zjX z z)) (n zh4 (n zjj z z) (n zkx z z))))))) (n (boot_o_6 P) (n (boot_o_10 P) (n (b7 P) (n o15 (n (b7 P) (n (b7 P) (n zh7 z z) (n zjm z z)) (n o111 (n ziK z z) (n zj0 z z))) (n o56 (n o93 (n zir z z) (y8 P)) (n (b8 P) (n zi1 z z) (n zki z z)))) (n o25 (n (b7 P) (n o84 (n zih z z) (n zjw z z)) (n zhG (y8 P) (y7 P))) (n (b7 P) (n (b7 P) (n ziA z z) (y7 P)) (n (b7 P) (n zja z z) (n zks z z))))) (n o10 (n o20 (n o42 (n (b7 P) (n zic z z) (n zjr z z)) (n zhB (y7 P) (n zj5 z z))) (n (b7 P) (n o98 (y8 P) (n zjJ z z)) (n zhT (n o26 z z) (n zkn z z)))) (n (o30 P) (n (b7 P) (n o88 (y7 P) (y7 P)) (n (b7 P) (n ziX z z) (y8 P))) (n o70 (n (b8 P) (n ziF z z) (n zjV z z)) (n (b8 P) (n zjh z z) (n zkw z z)))))) (n o2 (n (b7 P) (n o17 (n (b7 P) (n o77 (y8 P) (y8 P)) (n zhz (y7 P) (n zj2 z z))) (n (b7 P) (n o95 (n zit z z) (n zjH z z)) (n zhR (n zi3 z z) (n zkl z z)))) (n (b8 P) (n o49 (n o86 (y7 P) (y7 P)) (n (b7 P) (n ziV z z) (n zkb z z))) (n (b7 P) (n zhq (y8 P) (n zjR z z)) (n zh0 (n zjd z z) (n zku z z))))) (n (b8 P) (n (b7 P) (n (b7 P) (n (b7 P) (n zie z z) (n zjt z z)) (n zhD (n ziQ z z) (y7 P))) (n o63 (n (b7 P) (n ziy z z) (n zjM z z)) (n (b8 P) (n zi8 z z) (n zkp z z)))) (n o34 (n (b7 P) (n (b8 P) (n zio z z) (n zjC z z)) (n zhM (y8 P) (n zkg z z))) (n (b7 P) (n zhv (n ziH z z) (y8 P)) (n (b7 P) (y7 P) (n o300 z z)))))))))
noncomputable def tr2 (P:Params):BT:=(n (boot_o_0 P) (n (boot_o_1 P) (n (zle P) (n (b7 P) (n (b7 P) (n o13 (n o35 (n (b8 P) (n (b8 P) (y7 P) z) (n o26 z z)) (n zhw (y7 P) (n zjY z z))) (n (o53 P) (n o91 (n (b7 P) (y8 P) z) (n zjD z z)) (n zhN (n ziZ z z) (n zkh z z)))) (n o22 (n (b8 P) (n (o81 P) (n (b7 P) (n zlo z z) z) (y7 P)) (n (b7 P) (n ziR z z) (n zj7 z z))) (n o35 (n o100 (n ziz z z) (y7 P)) (n zhW (n zi9 z z) (y7 P))))) (n (b8 P) (n (b7 P) (n (o39 P) (n o35 (n zia (y8 P) z) (n zjp z z)) (n (b7 P) (n ziM z z) (y7 P))) (n (b8 P) (n (b7 P) (n ziu (n zlD z z) z) (n zjI z z)) (n zhS (n zi4 z z) (y7 P)))) (n o28 (n o35 (n o87 (n zij (n zlt z z) z) (n zjy z z)) (n zhI (n ziW z z) (n zkc z z))) (n (o67 P) (n zhr (n ziD z z) (n (zjS P) z z)) (n zh1 (n zje z z) (n zkv z z)))))) (n (b7 P) (n o6 (n o16 (n (b8 P) (n (o74 P) (n zh8 (n zlh z z) z) (n zjn z z)) (n (b7 P) (y7 P) (n zj1 z z))) (n o35 (n o94 (n zis (y7 P) z) (n zjF z z)) (n zhP (n zi2 z z) (y7 P)))) (n o26 (n (o46 P) (n (b7 P) (n (b7 P) (n zlr z z) z) (y7 P)) (n (b7 P) (n ziT z z) (y8 P))) (n (b8 P) (n (b8 P) (n ziB z z) (n zjO z z)) (n (b8 P) (y7 P) (y7 P))))) (n o11 (n (b7 P) (n o35 (n (b8 P) (n zid (n zlm z z) z) (n zjs z z)) (n zhC (y8 P) (y7 P))) (n (o60 P) (n (b7 P) (n ziw z z) (y7 P)) (n zhU (n (zi6 P) z z) (n zko z z)))) (n o31 (n (b8 P) (n o89 (n (b8 P) (n zlv z z) z) (y8 P)) (n (b8 P) (n o200 z z) (n zke z z))) (n o35 (n zht (n ziG z z) (n zjW z z)) (n zh3 (n zji z z) (y7 P))))))) (n (boot_o_5 P) (n (boot_o_9 P) (n o5 (n o14 (n (o36 P) (n o73 (n (b7 P) (n zlg z z) z) (y7 P)) (n (b8 P) (n ziJ z z) (n zjZ z z))) (n o55 (n o92 (n ziq (n zlz z z) z) (y7 P)) (n (b7 P) (n zi0 z z) (y8 P)))) (n o24 (n o45 (n o83 (n zig (n zlp z z) z) (n zjv z z)) (n zhF (y7 P) (n zj9 z z))) (n (o64 P) (n zho (y8 P) (n zjN z z)) (n zhY (y8 P) (n zkr z z))))) (n (b7 P) (n o19 (n o41 (n (o78 P) (n zib (y7 P) z) (n zjq z z)) (n zhA (n ziO z z) (n zj4 z z))) (n o59 (n o97 (y7 P) (y8 P)) (n (b8 P) (y7 P) (n zkm z z)))) (n (b7 P) (n (o50 P) (n (b8 P) (n zil (y7 P) z) (n zjA z z)) (n zhK (y8 P) (y7 P))) (n o69 (n (b7 P) (n ziE z z) (n zjU z z)) (n (b7 P) (n zjg z z) (y8 P)))))) (n o1 (n o8 (n (b8 P) (n o38 (n o76 (n (b7 P) (n zlj z z) z) (y7 P)) (n zhy (n ziL z z) (y8 P))) (n (o57 P) (n (b8 P) (n (b8 P) (n zlB z z) z) (n zjG z z)) (n zhQ (y8 P) (n zkk z z)))) (n (b7 P) (n o48 (n o85 (n zii (y8 P) z) (n zjx z z)) (n zhH (n ziU z z) (y7 P))) (n o66 (n (b7 P) (y7 P) (n zjQ z z)) (n (b7 P) (n zjc z z) (n zkt z z))))) (n (b7 P) (n o21 (n (o43 P) (n o80 (n (b8 P) (y7 P) z) (y8 P)) (n (b8 P) (y7 P) (n zj6 z z))) (n o62 (n o99 (n zix z z) (n zjL z z)) (n (b7 P) (n zi7 z z) (y8 P)))) (n o33 (n o52 (n (b7 P) (n zin (n zlx z z) z) (y7 P)) (n (b7 P) (y7 P) (n zkf z z))) (n (o71 P) (n zhu (y8 P) (y7 P)) (n zh5 (n zjk z z) (n zky z z)))))))) (n (boot_o_2 P) (n (boot_o_4 P) (n (b8 P) (n (b8 P) (n (b7 P) (n o26 (n o72 (n zh6 (y8 P) z) (n (zjl P) z z)) (n (b7 P) (n ziI z z) (y7 P))) (n o54 (n (b7 P) (n (b8 P) (n zly z z) z) (n zjE z z)) (n zhO (y7 P) (y7 P)))) (n o23 (n o44 (n o82 (n zif (y7 P) z) (n zju z z)) (n zhE (n ziS z z) (n zj8 z z))) (n o26 (n zhn (y7 P) (y8 P)) (n zhX (y7 P) (n zkq z z))))) (n o9 (n o18 (n o40 (n o26 (n (b7 P) (n zlk z z) z) (y7 P)) (n (b8 P) (n ziN z z) (n zj3 z z))) (n o58 (n o96 (n ziv z z) (y7 P)) (n (b7 P) (n zi5 z z) (y8 P)))) (n o29 (n o26 (n (b7 P) (n zik (n zlu z z) z) (n zjz z z)) (n zhJ (y7 P) (n zkd z z))) (n o68 (n zhs (y7 P) (n zjT z z)) (n zh2 (n (zjf P) z z) (y7 P)))))) (n zlf (n o7 (n (b7 P) (n o37 (n o75 (n zh9 (n zli z z) z) (n zjo z z)) (n zhx (y8 P) (y7 P))) (n o26 (n (b7 P) (n (b7 P) (y8 P) z) (y7 P)) (n (b7 P) (y7 P) (n zkj z z)))) (n (o27 P) (n o47 (n (b8 P) (n (b8 P) (y7 P) z) (y8 P)) (n (b8 P) (y7 P) (n zka z z))) (n o65 (n zhp (n ziC z z) (n zjP z z)) (n zhZ (n zjb z z) (y8 P))))) (n o12 (n (b8 P) (n o26 (n o79 (n (b7 P) (n zln z z) z) (y7 P)) (n (b7 P) (n ziP z z) (y8 P))) (n o61 (n (b8 P) (y7 P) (n zjK z z)) (n zhV (y7 P) (y7 P)))) (n o32 (n o51 (n o90 (n zim (n zlw z z) z) (n zjB z z)) (n zhL (n ziY z z) (y7 P))) (n o26 (n (b7 P) (y7 P) (n zjX z z)) (n zh4 (n zjj z z) (n zkx z z))))))) (n (boot_o_6 P) (n (boot_o_10 P) (n (b7 P) (n o15 (n (b7 P) (n (b7 P) (n zh7 (y7 P) z) (n zjm z z)) (n o111 (n ziK z z) (n zj0 z z))) (n o56 (n o93 (n zir (n zlA z z) z) (y8 P)) (n (b8 P) (n zi1 z z) (n zki z z)))) (n o25 (n (b7 P) (n o84 (n zih (n zlq z z) z) (n zjw z z)) (n zhG (y8 P) (y7 P))) (n (b7 P) (n (b7 P) (n ziA z z) (y7 P)) (n (b7 P) (n zja z z) (n zks z z))))) (n o10 (n o20 (n o42 (n (b7 P) (n zic (n zll z z) z) (n zjr z z)) (n zhB (y7 P) (n zj5 z z))) (n (b7 P) (n o98 (y8 P) (n zjJ z z)) (n zhT (n o26 z z) (n zkn z z)))) (n (o30 P) (n (b7 P) (n o88 (n (b7 P) (y8 P) z) (y7 P)) (n (b7 P) (n ziX z z) (y8 P))) (n o70 (n (b8 P) (n ziF z z) (n zjV z z)) (n (b8 P) (n zjh z z) (n zkw z z)))))) (n o2 (n (b7 P) (n o17 (n (b7 P) (n o77 (n (b8 P) (y7 P) z) (y8 P)) (n zhz (y7 P) (n zj2 z z))) (n (b7 P) (n o95 (n zit (n zlC z z) z) (n zjH z z)) (n zhR (n zi3 z z) (n zkl z z)))) (n (b8 P) (n o49 (n o86 (n (b7 P) (n zls z z) z) (y7 P)) (n (b7 P) (n ziV z z) (n zkb z z))) (n (b7 P) (n zhq (y8 P) (n zjR z z)) (n zh0 (n zjd z z) (n zku z z))))) (n (b8 P) (n (b7 P) (n (b7 P) (n (b7 P) (n zie (y8 P) z) (n zjt z z)) (n zhD (n ziQ z z) (y7 P))) (n o63 (n (b7 P) (n ziy z z) (n zjM z z)) (n (b8 P) (n zi8 z z) (n zkp z z)))) (n o34 (n (b7 P) (n (b8 P) (n zio (y7 P) z) (n zjC z z)) (n zhM (y8 P) (n zkg z z))) (n (b7 P) (n zhv (n ziH z z) (y8 P)) (n (b7 P) (y7 P) (n o300 z z)))))))))
noncomputable def hF (P:Params):Heap:=⟨#[boot_o_0 P,boot_o_1 P,boot_o_2 P,zle P,boot_o_4 P,boot_o_5 P,boot_o_6 P,b7 P,b8 P,boot_o_9 P,boot_o_10 P,b7 P,zlf,o1,o2,b7 P,b8 P,o5,b7 P,o6,o7,o8,b7 P,b8 P,o9,b7 P,o10,o11,o12,b7 P,b8 P,o13,b7 P,o14,o15,o16,b7 P,b8 P,o17,b7 P,o18,o19,o20,b7 P,b8 P,o21,b7 P,o22,o23,o24,o25,o26,o27 P,b7 P,b8 P,o28,o29,b7 P,o30 P,o31,o32,o33,o34,o35,o26,o36 P,b7 P,b8 P,o37,o38,b7 P,o39 P,o40,o41,o42,o35,o26,o43 P,b7 P,b8 P,o44,o45,b7 P,o46 P,o47,o48,o49,o35,o26,o50 P,b7 P,b8 P,o51,o52,b7 P,o53 P,o54,o55,o56,o35,o26,o57 P,b7 P,b8 P,o58,o59,b7 P,o60 P,o61,o62,o63,o35,o26,o64 P,b7 P,b8 P,o65,o66,b7 P,o67 P,o68,o69,o70,o35,o26,o71 P,b7 P,b8 P,o72,o73,b7 P,o74 P,o75,o76,o77,o35,o26,o78 P,b7 P,b8 P,o79,o80,b7 P,o81 P,o82,o83,o84,b7 P,b8 P,o85,o86,o87,b7 P,b8 P,o88,o89,o90,b7 P,b8 P,o91,b7 P,o92,o93,o94,b7 P,b8 P,o95,b7 P,o96,o97,o98,b7 P,b8 P,o99,b7 P,o100,zhn,zho,b7 P,b8 P,zhp,b7 P,zhq,zhr,zhs,b7 P,b8 P,zht,b7 P,zhu,zhv,zhw,b7 P,b8 P,o111,b7 P,zhx,zhy,zhz,b7 P,b8 P,zhA,zhB,zhC,b7 P,b8 P,zhD,b7 P,zhE,zhF,zhG,b7 P,b8 P,zhH,b7 P,zhI,zhJ,zhK,b7 P,b8 P,zhL,b7 P,zhM,zhN,zhO,b7 P,b8 P,zhP,b7 P,zhQ,zhR,zhS,b7 P,b8 P,zhT,zhU,zhV,b7 P,b8 P,zhW,zhX,zhY,b7 P,b8 P,zhZ,b7 P,zh0,zh1,zh2,b7 P,b8 P,zh3,zh4,zh5,b7 P,b8 P,zh6,b7 P,zh7,zh8,zh9,b7 P,b8 P,zia,b7 P,zib,zic,zid,b7 P,b8 P,zie,b7 P,zif,zig,zih,b7 P,b8 P,zii,b7 P,zij,zik,zil,b7 P,b8 P,zim,zin,zio,b7 P,b8 P,ziq,zir,zis,b7 P,b8 P,zit,ziu,ziv,b7 P,b8 P,ziw,b7 P,zix,ziy,ziz,b7 P,b8 P,ziA,ziB,ziC,b7 P,b8 P,ziD,b7 P,ziE,ziF,ziG,b7 P,b8 P,ziH,b7 P,ziI,ziJ,ziK,b7 P,b8 P,ziL,b7 P,ziM,ziN,ziO,b7 P,b8 P,ziP,b7 P,ziQ,ziR,ziS,b7 P,b8 P,ziT,b7 P,ziU,ziV,ziW,b7 P,b8 P,ziX,o200,ziY,b7 P,b8 P,ziZ,b7 P,zi0,zi1,zi2,b7 P,b8 P,zi3,zi4,zi5,b7 P,o26,zi6 P,b7 P,zi7,zi8,zi9,b7 P,b8 P,zja,b7 P,zjb,zjc,zjd,zje,zjf P,zjg,zjh,zji,zjj,zjk,b7 P,o26,zjl P,b7 P,zjm,zjn,zjo,b7 P,b8 P,zjp,b7 P,zjq,zjr,zjs,b7 P,b8 P,zjt,b7 P,zju,zjv,zjw,b7 P,b8 P,zjx,b7 P,zjy,zjz,zjA,b7 P,b8 P,zjB,b7 P,zjC,zjD,zjE,b7 P,b8 P,zjF,b7 P,zjG,zjH,zjI,b7 P,b8 P,zjJ,b7 P,zjK,zjL,zjM,b7 P,b8 P,zjN,b7 P,zjO,zjP,zjQ,zjR,zjS P,zjT,zjU,zjV,zjW,zjX,b7 P,b8 P,zjY,b7 P,zjZ,zj0,zj1,b7 P,b8 P,zj2,b7 P,zj3,zj4,zj5,b7 P,b8 P,zj6,b7 P,zj7,zj8,zj9,b7 P,b8 P,zka,b7 P,zkb,zkc,zkd,b7 P,b8 P,zke,b7 P,zkf,zkg,zkh,b7 P,b8 P,zki,b7 P,zkj,zkk,zkl,b7 P,b8 P,zkm,zkn,zko,b7 P,b8 P,zkp,b7 P,zkq,zkr,zks,b7 P,b8 P,zkt,zku,zkv,b7 P,b8 P,zkw,b7 P,zkx,zky,o300,b7 P,b8 P,zlg,b7 P,zlh,zli,zlj,b7 P,b8 P,zlk,b7 P,zll,zlm,zln,b7 P,b8 P,zlo,b7 P,zlp,zlq,zlr,b7 P,b8 P,zls,zlt,zlu,b7 P,b8 P,zlv,zlw,zlx,b7 P,b8 P,zly,zlz,zlA,b7 P,b8 P,zlB,zlC,zlD],lf⟩
noncomputable def view:Program:={ p with main:={ p.main with body:=[t 1,t 2,t 3,t 4,t 5,t 7,t 8,t 9,t 10,t 11,t 12,t 13,t 14,t 16,t 17,t 18,t 19,t 20,t 22,t 23,t 25,t 27,t 28,t 29,t 30,t 32,t 33,t 34,t 36,t 37,t 38,t 40,t 41,t 42,t 43,t 44,t 45,t 46,t 47,t 48,t 49,t 51,t 52,t 53,t 54,t 55,t 56,t 57,t 58,t 59,t 60,t 61,t 62,t 63,t 64,t 65,t 67,t 68,t 69,t 70,t 71,t 72,t 74,t 75,t 76,t 77,t 78,t 79,t 80,t 81,t 82,t 83,t 84,t 85,t 86] } }
noncomputable abbrev env:Env:={ scope:=p.main.scope,locals:=mainNs,globals:=mainNs,cells:=[],code:=(.ref 13),frame:=some 14 }
noncomputable abbrev cE:Code:=.body (behindTheImports p) env
noncomputable abbrev fq:Pos:=⟨0,0,0,0⟩
noncomputable abbrev an:Option Value:=(some (.ref 6))
noncomputable abbrev s0 (w:World) (os:OsState):Shared:=⟨boot_heap w.params,#[],boot_drawn,boot_toks,os⟩
noncomputable abbrev S (w:World) (os:OsState):Shared:=⟨hF w.params,#[],⟨0,0,0,0⟩,958,os⟩
theorem pre (w:World) (os:OsState):topGo treeTable p w 11 an 12 (s0 w os) (topStub p)=some ((⟨hA w.params,#[],⟨0,0,0,0⟩,187,os⟩:Shared),⟨denote treeTable cE,cE,⟨0,0,0,0⟩,[topFrame fq]⟩):=by
 rewrite [W.Fast.te15667345088766844465,W.Fast.te14364793385576792824,W.Fast.te11892475500146522536]
 kernel_rfl
theorem block (w:World) (os:OsState):segRun treeTable p w 11 an 1 1 (⟨hA w.params,#[],⟨0,0,0,0⟩,187,os⟩:Shared) (blockOf (behindTheImports p) env cE ⟨0,0,0,0⟩ [topFrame fq])=some (.next,(⟨tr0 w.params,15,lf,#[],⟨0,0,0,0⟩,187,os⟩:SharedT).abs,cE,⟨0,0,0,0⟩):=by
 rewrite [W.Fast.te14374325043358763698,W.Fast.te14364793385576792824]
 kernel_rfl
noncomputable def zkz:List Stmt:=[t 0,t 1,t 2,t 3,t 4,t 5,t 6,t 7,t 8,t 9,t 10,t 11,t 12,t 13,t 14,t 15,t 16,t 17,t 18,t 19,t 20,t 21,t 22,t 23,t 24,t 25,t 26,t 27,t 28,t 29,t 30,t 31,t 32,t 33,t 34,t 35,t 36,t 37,t 38,t 39,t 40,t 41,t 42,t 43,t 44,t 45,t 46,t 47,t 48,t 49,t 50,t 51,t 52,t 53,t 54,t 55,t 56,t 57,t 58,t 59,t 60,t 61,t 62,t 63,t 64,t 65,t 66,t 67,t 68,t 69,t 70,t 71,t 72,t 73,t 74,t 75,t 76,t 77,t 78,t 79]
theorem zlZ (w:World) (os:OsState):segRunT treeTable p w 11 an 1 3986 (⟨tr0 w.params,15,lf,#[],⟨0,0,0,0⟩,187,os⟩:SharedT) (piecesOf zkz env cE ⟨0,0,0,0⟩ [topFrame fq])=some (.next,(⟨tr1 w.params,511,lf,#[],⟨0,0,0,0⟩,898,os⟩:SharedT),cE,⟨369,0,383,26⟩):=by
 rewrite [W.Fast.te10110043849684766642,W.Fast.te14364793385576792824]
 kernel_rfl
noncomputable def zkA:List Stmt:=[t 80,t 81,t 82,t 83,t 84,t 85,t 86]
theorem zl0 (w:World) (os:OsState):segRunT treeTable p w 11 an 1 207 (⟨tr1 w.params,511,lf,#[],⟨0,0,0,0⟩,898,os⟩:SharedT) (piecesOf zkA env cE ⟨369,0,383,26⟩ [topFrame fq])=some (.next,(⟨tr2 w.params,552,lf,#[],⟨0,0,0,0⟩,958,os⟩:SharedT),cE,⟨455,0,468,15⟩):=by
 rewrite [W.Fast.te10110043849684766642,W.Fast.te14364793385576792824]
 kernel_rfl
theorem fin (w:World) (os:OsState):topRun treeTable p w 11 an 2 (⟨tr2 w.params,552,lf,#[],⟨0,0,0,0⟩,958,os⟩:SharedT).abs ⟨doneF .next,cE,⟨455,0,468,15⟩,[topFrame fq]⟩=some (S w os):=by
 rewrite [W.Fast.te14082659384304107361,W.Fast.te14364793385576792824]
 kernel_rfl
theorem parts:behindTheImports p=zkz++(zkA++[]):=by kernel_rfl
theorem rest (w:World) (os:OsState):topRun treeTable p w 11 an (3986+(207+(2))) (⟨tr0 w.params,15,lf,#[],⟨0,0,0,0⟩,187,os⟩:SharedT).abs (restOf (zkz++(zkA++[])) env cE ⟨0,0,0,0⟩ [topFrame fq])=some (S w os):=(piece_app (segRun_of (zlZ w os)) (piece_app (segRun_of (zl0 w os)) (piece_nil (fin w os))))
theorem rest' (w:World) (os:OsState):topRun treeTable p w 11 an (3986+(207+(2))) (⟨tr0 w.params,15,lf,#[],⟨0,0,0,0⟩,187,os⟩:SharedT).abs (restOf (behindTheImports p) env cE ⟨0,0,0,0⟩ [topFrame fq])=some (S w os):=(congrArg (fun l=>topRun treeTable p w 11 an (3986+(207+(2))) (⟨tr0 w.params,15,lf,#[],⟨0,0,0,0⟩,187,os⟩:SharedT).abs (restOf l env cE ⟨0,0,0,0⟩ [topFrame fq])) parts).trans (rest w os)
theorem run (w:World) (os:OsState):topRun treeTable p w 11 an (12+(1+(3986+(207+(2))))) (s0 w os) (topStub p)=some (S w os):=go_top (pre w os) (piece_block (block w os) (rest' w os))
theorem size (w:World):((boot_heap w.params).isNs mainGlobals && (#[]:Array GenState).size == 0,(boot_heap w.params).objs.size,(boot_heap w.params).nsMap mainGlobals "__annotations__")=(true,11,an):=by
 rewrite [W.Fast.te8920871248978507458]
 kernel_rfl
noncomputable abbrev Xt:Shared→Bool:=fun s=>xlAt view [] s && recOk PySem.Challenge.rw_bellwrite_k95_notes_at_the_desk.row.toRowW.records s
theorem zlE (w:World) (os:OsState):(staticsOk (importedModules p.main.body) (boot_heap w.params) (hF w.params) && namesBound p (hF w.params) && gensDone (S w os) && laidKept (boot_heap w.params) (hF w.params))=true:=by
 rewrite [W.Fast.te5923862056798008813]
 kernel_rfl
theorem zlF (w:World) (os:OsState):openSeen view [] (importedModules p.main.body) Xt true (S w os)=openGood view []:=by
 unfold openSeen openGood
 refine looks_pair ?_ (looks_pair ?_ (looks_pair ?_ (looks_pair ?_ (looks_pair ?_ (looks_pair ?_ (looks_pair ?_ (looks_pair ?_ ?_)))))))
 ·(try rewrite [W.Fast.te5160383126252970620]);(try rewrite [W.R.mapR_eq]);(try rewrite [W.Fast.te3399658132070893891]);(try rewrite [W.Fast.te5991557255702980513]);kernel_rfl
 ·kernel_rfl
 ·(try rewrite [W.Fast.te10880121769531294198]);(try rewrite [W.Fast.te821141287760084731]);(try rewrite [W.R.mapR_eq]);(try rewrite [W.Fast.te3399658132070893891]);(try rewrite [W.Fast.te7409074990110511671]);(try rewrite [W.Fast.te13664370479719496447]);(try rewrite [W.Fast.te14722251495701143533]);(try rewrite [W.Fast.te5923862056798008813]);(try rewrite [W.Fast.te10994771534591457954]);kernel_rfl
 ·(try rewrite [W.Fast.te479339242167458305]);kernel_rfl
 ·(try rewrite [W.Fast.te16090120013241838585]);(try rewrite [W.Fast.te3247288618530077131]);kernel_rfl
 ·(try rewrite [W.Fast.te2386780881361962483]);(try rewrite [W.Fast.te821141287760084731]);kernel_rfl
 ·(try rewrite [W.Fast.te11698064438423848299]);kernel_rfl
 ·(try rewrite [W.Fast.te7317090234206586261]);kernel_rfl
 ·(try rewrite [W.Fast.te7369524293546568484]);kernel_rfl
theorem left (H:Hook) (hk:∀(w:World) (os:OsState),H.obs (S w os)=H.val w):LeftO p view [] Xt H.obs H.val 20000:=
 LeftO.of_pieces (boot_open (by kernel_rfl) (by decide) (fun s=>by rfl)) size run (by decide) (fun w=>funext fun os=>looks_pair (zlE w os) (looks_pair (zlF w os) (hk w os)))
theorem said:PySem.Challenge.rw_bellwrite_k95_notes_at_the_desk.wellSaid=true:=by kernel_rfl
theorem opens {d:DefRec}{kwd:List (Str×Expr)} (H:Hook) (hk:∀(w:World) (os:OsState),H.obs (S w os)=H.val w) (h1:defOf view PySem.Challenge.rw_bellwrite_k95_notes_at_the_desk.row.name=some (d,kwd)) (h2:PySem.Challenge.rw_bellwrite_k95_notes_at_the_desk.row.prog.theDef PySem.Challenge.rw_bellwrite_k95_notes_at_the_desk.row.name=some (d.params,d.body,d.scope)) (h3:kwWritten? d.params.kwonlyargs d.params.kw_defaults=some kwd) (said:PySem.Challenge.rw_bellwrite_k95_notes_at_the_desk.row.wellSaid=true) (hw:PySem.Challenge.rw_bellwrite_k95_notes_at_the_desk.row.toRowW.promised)
  (hc:WalkO view [] (XL view []) H.says PySem.Challenge.rw_bellwrite_k95_notes_at_the_desk.row.toRowW d kwd fun f vs=>PySem.call f vs):PySem.Challenge.rw_bellwrite_k95_notes_at_the_desk.row.Holds:=by
 have ok:(chainsOk view && opensWell PySem.Challenge.rw_bellwrite_k95_notes_at_the_desk.row.prog && (frees PySem.Challenge.rw_bellwrite_k95_notes_at_the_desk.row.toRowW && PySem.Challenge.rw_bellwrite_k95_notes_at_the_desk.row.within.isEmpty))=true:=by kernel_rfl
 exact holds_open (Xt:=Xt) (N:=20000) (left H hk) H.of H.keeps (fun s y=>xl_of s (Bool.and_eq_true_iff.mp y).1) XL.keeps h1 h2 h3
  (fun s y=>recFacts_of (Bool.and_eq_true_iff.mp y).2) (by rfl) said ok ⟨rfl,rfl,rfl,rfl,rfl,by decide +kernel⟩ hw hc
end
end Op
open PySem PySem.W PyProof.Rows
local macro_rules
  | `(tactic| o_head $h) => `(tactic| refine Op.opens $h (fun w os => ?hk) (by rfl) (by rfl) (by rfl) (by assumption) ?hw ?hc)
set_option maxRecDepth 100000 in
set_option maxHeartbeats 0 in
theorem PySem.Challenge.cw_bellwrite_k95_notes_at_the_desk_holds : PySem.Challenge.rw_bellwrite_k95_notes_at_the_desk.Holds := by
  w_on; refine holds_law Op.said fun said => ?_; k_head; (case hk => kernel_rfl); (case hw => w_witness2)
  k_fill
  refine Bw.walk (l := PySem.Challenge.rw_bellwrite_k95_notes_at_the_desk) rfl rfl (by decide +kernel) (fun w h Y => W.kIn_of Y) ?F
  case F =>
    intro w mg fa h KX G hmg
    refine' Bw.all_mk (l := PySem.Challenge.rw_bellwrite_k95_notes_at_the_desk) rfl KX G hmg ?d0 ?d1 ?d2 ?d3 ?d4 ?d5 ?d6 ?d7 ?d8 ?d9 ?d10 ?d11 ?d12 ?d13 ?d14 ?d15 ?d16 ?d17 ?d18 ?d19 ?d20 ?d21 ?d22 ?d23 ?d24 ?d25 ?d26 ?d27 ?d28 ?d29 ?d30 ?d31 ?d32 ?d33 ?d34 ?d35 ?d36 ?d37 ?d38 ?d39 ?d40 ?d41 ?d42 ?d43 ?d44 ?d45 ?d46 ?d47 ?d48 ?d49 ?d50 ?d51 ?d52 ?d53 ?d54 ?d55 ?z_range ?z_isinstance ?z_int ?z_bool ?z_len ?z_list ?z_max ?z_min ?z_enumerate ?z_sorted ?z_sum ?z_all ?z_str ?zdr ?z_reversed ?z_ValueError ?z6 ?kO ?zJ ?zV ?kj ?qH ?zL ?xj ?Z0 ?Wz ?v8 ?qC ?v9 ?qD ?qg ?jt ?jV ?qm ?z8 ?z7 ?Z8 ?zW ?qj ?zT ?yz ?jB ?Q5 ?yH ?wO ?Q6 ?X8 ?J3 ?J4 ?Xa ?Xb ?Xc ?Xd ?wX ?wY ?yJ ?kI ?VG ?VH ?VJ ?VL ?VM ?VN ?yK ?yL ?Zk ?wZ ?jP ?vO ?vP ?yM ?yN ?xJ ?kY ?kZ ?Zm ?Zn ?xK ?wg ?wj ?wk ?Zo ?xM ?wu ?ww ?wy ?Zq ?xN ?wz ?wA ?wB ?Zr ?jR ?xu ?xx ?xF ?w6 ?ji ?jx ?jy ?jz ?xO ?xP ?wC ?wD ?wF ?Zt
    any_goals (refine' Bw.di_mk ?a ?l ?c ?k; (case a => k_is); (case l => k_is); (case c => k_is); (case k => k_is))
    (case z_range => k_is)
    (case z_isinstance => k_is)
    (case z_int => k_is)
    (case z_bool => k_is)
    (case z_len => k_is)
    (case z_list => k_is)
    (case z_max => k_is)
    (case z_min => k_is)
    (case z_enumerate => k_is)
    (case z_sorted => k_is)
    (case z_sum => k_is)
    (case z_all => k_is)
    (case z_str => k_is)
    (case zdr => k_is)
    (case z_reversed => k_is)
    (case z_ValueError => k_is)
    (case z6 => k_is)
    (case kO => k_is)
    (case zJ => k_is)
    (case zV => k_is)
    (case kj => k_is)
    (case qH => k_is)
    (case zL => k_is)
    (case xj => k_is)
    (case Z0 => k_is)
    (case Wz => k_is)
    (case v8 => k_is)
    (case qC => k_is)
    (case v9 => k_is)
    (case qD => k_is)
    (case qg => k_is)
    (case jt => k_is)
    (case jV => k_is)
    (case qm => k_is)
    (case z8 => k_is)
    (case z7 => k_exc)
    (case Z8 => k_exc)
    (case zW => k_exc)
    (case qj => k_exc)
    (case zT => k_exc)
    (case yz => k_exc)
    (case jB => k_exc)
    (case Q5 => refine' Bw.xf_of 0 true false false false false rfl ?a0 ?a1 ?a2 ?a3 ?a4 ?a5 ?a6 ?a7 ?a8 ?a9 ?a10 ?a11 ?a12 ?a13 ?a14 ?a15 ?a16; (case a0 => k_exc); (case a1 => k_is); (case a2 => k_is); (case a3 => k_is); (case a4 => k_is); (case a5 => k_is); (case a6 => k_is); (case a7 => k_is); (case a8 => k_is); (case a9 => kit_is); (case a10 => kit_is); (case a11 => kit_is); (case a12 => kit_is); (case a13 => kit_is); (case a14 => kit_is); (case a15 => kit_is); (case a16 => kit_is))
    (case yH => refine' Bw.xf_of 1 false true false false false rfl ?a0 ?a1 ?a2 ?a3 ?a4 ?a5 ?a6 ?a7 ?a8 ?a9 ?a10 ?a11 ?a12 ?a13 ?a14 ?a15 ?a16; (case a0 => k_exc); (case a1 => k_is); (case a2 => k_is); (case a3 => k_is); (case a4 => k_is); (case a5 => k_is); (case a6 => k_is); (case a7 => k_is); (case a8 => k_is); (case a9 => kit_is); (case a10 => kit_is); (case a11 => kit_is); (case a12 => kit_is); (case a13 => kit_is); (case a14 => kit_is); (case a15 => kit_is); (case a16 => kit_is))
    (case wO => refine' Bw.xf_of 2 false false true false false rfl ?a0 ?a1 ?a2 ?a3 ?a4 ?a5 ?a6 ?a7 ?a8 ?a9 ?a10 ?a11 ?a12 ?a13 ?a14 ?a15 ?a16; (case a0 => k_exc); (case a1 => k_is); (case a2 => k_is); (case a3 => k_is); (case a4 => k_is); (case a5 => k_is); (case a6 => k_is); (case a7 => k_is); (case a8 => k_is); (case a9 => kit_is); (case a10 => kit_is); (case a11 => kit_is); (case a12 => kit_is); (case a13 => kit_is); (case a14 => kit_is); (case a15 => kit_is); (case a16 => kit_is))
    (case Q6 => refine' Bw.xf_of 3 false false false true false rfl ?a0 ?a1 ?a2 ?a3 ?a4 ?a5 ?a6 ?a7 ?a8 ?a9 ?a10 ?a11 ?a12 ?a13 ?a14 ?a15 ?a16; (case a0 => k_exc); (case a1 => k_is); (case a2 => k_is); (case a3 => k_is); (case a4 => k_is); (case a5 => k_is); (case a6 => k_is); (case a7 => k_is); (case a8 => k_is); (case a9 => kit_is); (case a10 => kit_is); (case a11 => kit_is); (case a12 => kit_is); (case a13 => kit_is); (case a14 => kit_is); (case a15 => kit_is); (case a16 => kit_is))
    (case X8 => refine' Bw.xf_of 4 false false false false true rfl ?a0 ?a1 ?a2 ?a3 ?a4 ?a5 ?a6 ?a7 ?a8 ?a9 ?a10 ?a11 ?a12 ?a13 ?a14 ?a15 ?a16; (case a0 => k_exc); (case a1 => k_is); (case a2 => k_is); (case a3 => k_is); (case a4 => k_is); (case a5 => k_is); (case a6 => k_is); (case a7 => k_is); (case a8 => k_is); (case a9 => kit_is); (case a10 => kit_is); (case a11 => kit_is); (case a12 => kit_is); (case a13 => kit_is); (case a14 => kit_is); (case a15 => kit_is); (case a16 => kit_is))
    (case J3 => k_is)
    (case J4 => k_is)
    (case Xa => k_is)
    (case Xb => k_is)
    (case Xc => k_is)
    (case Xd => k_is)
    (case wX => k_is)
    (case wY => k_is)
    (case yJ => k_is)
    (case kI => k_is)
    (case VG => k_is)
    (case VH => k_is)
    (case VJ => k_is)
    (case VL => k_is)
    (case VM => k_is)
    (case VN => k_is)
    (case yK => k_is)
    (case yL => k_is)
    (case Zk => k_is)
    (case wZ => k_is)
    (case jP => k_is)
    (case vO => k_is)
    (case vP => k_is)
    (case yM => k_is)
    (case yN => k_is)
    (case xJ => k_is)
    (case kY => k_is)
    (case kZ => k_is)
    (case Zm => k_is)
    (case Zn => k_is)
    (case xK => k_is)
    (case wg => k_is)
    (case wj => k_is)
    (case wk => k_is)
    (case Zo => k_is)
    (case xM => k_is)
    (case wu => k_is)
    (case ww => k_is)
    (case wy => k_is)
    (case Zq => k_is)
    (case xN => k_is)
    (case wz => k_is)
    (case wA => k_is)
    (case wB => k_is)
    (case Zr => k_is)
    (case jR => k_is)
    (case xu => k_is)
    (case xx => k_is)
    (case xF => k_is)
    (case w6 => k_is)
    (case ji => k_is)
    (case jx => k_is)
    (case jy => k_is)
    (case jz => k_is)
    (case xO => k_is)
    (case xP => k_is)
    (case wC => k_is)
    (case wD => k_is)
    (case wF => k_is)
    (case Zt => k_is)