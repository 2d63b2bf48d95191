import PyProof.Rows.All
import Wide.All
import OpenK.AllK
import Wide.FinOn
import Lean
import PyProof.EqAt
import PyProof.EqKinds
import PyProof.TupleCall
import KE.IntBitsLaws
import PySem.Challenge.RW_bellwrite_k97_whole_from_desk_to_desk
set_option Elab.async false
set_option linter.all false
set_option maxRecDepth 100000
set_option maxHeartbeats 4000000
set_option genSizeOf false
namespace L2
open PySem PySem.Spec PyProof.Rows
abbrev Key := Sum Int Str
noncomputable def keyIs : Key → Value → Bool
  | .inl k, v => Value.isInt k v
  | .inr x, v => Value.isStrOf x v
noncomputable def keyH (w : World) : Key → Int
  | .inl k => hashInt k
  | .inr x => hashStr w x
theorem keyIs_shape : ∀ {k : Key} {v : Value}, keyIs k v = true → (∃ i t, k = Sum.inl i ∧ v = Value.int i t) ∨ (∃ x t, k = Sum.inr x ∧ v = Value.str x t)
  | .inl i, v, h => by
    obtain ⟨t, e⟩ := Value.isInt_shape (k := i) (v := v) h
    exact .inl ⟨i, t, rfl, e⟩
  | .inr x, v, h => by
    obtain ⟨t, e⟩ := Value.isStrOf_shape (x := x) (v := v) h
    exact .inr ⟨x, t, rfl, e⟩
theorem keyIs_int (i : Int) (t : Tok) : keyIs (.inl i) (.int i t) = true := by simp [keyIs, Value.isInt]
theorem keyIs_str (x : Str) (t : Tok) : keyIs (.inr x) (.str x t) = true := by simp [keyIs, Value.isStrOf]
theorem key_ll (a b : Int) : decide ((Sum.inl a : Key) = Sum.inl b) = (a == b) := by
  by_cases e : a = b
  · subst e; simp
  · have h : ¬ (Sum.inl a : Key) = Sum.inl b := fun q => e (Sum.inl.inj q)
    rw [decide_eq_false h]
    exact (beq_eq_false_iff_ne.mpr e).symm
theorem key_rr (a b : Str) : decide ((Sum.inr a : Key) = Sum.inr b) = decide (a = b) := by
  by_cases e : a = b
  · subst e; simp
  · have h : ¬ (Sum.inr a : Key) = Sum.inr b := fun q => e (Sum.inr.inj q)
    rw [decide_eq_false h, decide_eq_false e]
theorem key_lr (a : Int) (b : Str) : decide ((Sum.inl a : Key) = Sum.inr b) = false := decide_eq_false (fun q => nomatch q)
theorem key_rl (a : Str) (b : Int) : decide ((Sum.inr a : Key) = Sum.inl b) = false := decide_eq_false (fun q => nomatch q)
noncomputable def mixKind (prog : Program) (w : World) : PySem.KeyKind prog w Key where
  is := keyIs
  hash := keyH w
  inj := fun v a b ha hb => by
    rcases keyIs_shape ha with ⟨i, t, rfl, rfl⟩ | ⟨x, t, rfl, rfl⟩
    · rcases keyIs_shape hb with ⟨j, u, rfl, e⟩ | ⟨y, u, rfl, e⟩
      · injection e with e1 _; rw [e1]
      · exact nomatch e
    · rcases keyIs_shape hb with ⟨j, u, rfl, e⟩ | ⟨y, u, rfl, e⟩
      · exact nomatch e
      · injection e with e1 _; rw [e1]
  byValue := fun k v h => by
    rcases keyIs_shape h with ⟨i, t, rfl, rfl⟩ | ⟨x, t, rfl, rfl⟩ <;> rfl
  pyHash := fun hv h => by
    rcases keyIs_shape hv with ⟨i, t, rfl, rfl⟩ | ⟨x, t, rfl, rfl⟩
    · exact wpAny_pyHash_int h
    · exact wpAny_pyHash_str h
  eqBool := fun hu hv h => by
    rcases keyIs_shape hu with ⟨i, t, rfl, rfl⟩ | ⟨x, t, rfl, rfl⟩
    · rcases keyIs_shape hv with ⟨j, u, rfl, rfl⟩ | ⟨y, u, rfl, rfl⟩
      · rw [key_ll] at h; exact wpAny_eqBool_int h
      · rw [key_lr] at h; exact SeqAt.EqAt.int_str i t y u _ _ _ _ h
    · rcases keyIs_shape hv with ⟨j, u, rfl, rfl⟩ | ⟨y, u, rfl, rfl⟩
      · rw [key_rl] at h; exact SeqAt.EqAt.str_int x t j u _ _ _ _ h
      · rw [key_rr] at h; exact wpAny_eqBool_str h
  «strs» := fun k x t v h => by
    rcases keyIs_shape h with ⟨i, u, rfl, e⟩ | ⟨y, u, rfl, e⟩
    · exact nomatch e
    · injection e with e1 _
      subst e1
      cases v <;> rfl
theorem mixKind_int (prog : Program) (w : World) (i : Int) (t : Tok) : (mixKind prog w).is (.inl i) (.int i t) = true := keyIs_int i t
theorem mixKind_str (prog : Program) (w : World) (x : Str) (t : Tok) : (mixKind prog w).is (.inr x) (.str x t) = true := keyIs_str x t
end L2
namespace L2
open PySem PySem.Spec PyProof.Rows
inductive V where
  | non | bl (b : Bool) | int (i : Int) | str (x : Str) | byt (b : Array UInt8) | flt (b : UInt64) | ref (a : Addr) | ty (n : String)
  deriving DecidableEq
noncomputable def RelV : V → Value → Prop
  | .non, u => u = Value.none
  | .bl b, u => u = Value.bool b
  | .int i, u => ∃ t, u = Value.int i t
  | .str x, u => ∃ t, u = Value.str x t
  | .byt b, u => ∃ t, u = Value.bytes b t
  | .flt b, u => ∃ t, u = Value.float b t
  | .ref a, u => u = Value.ref a
  | .ty n, u => u = Value.type n
abbrev Vals : List V → List Value → Prop := Paired RelV
theorem Vals.length {xs : List V} {us : List Value} (r : Vals xs us) : xs.length = us.length := Paired.length r
theorem Vals.get : ∀ {xs : List V} {us : List Value} {i : Nat} {x : V}, Vals xs us → xs[i]? = some x → ∃ u, us[i]? = some u ∧ RelV x u
  | _, _, _, _, .nil, e => by simp at e
  | _, _, 0, _, .cons r _, e => by simp at e; subst e; exact ⟨_, rfl, r⟩
  | _, _, i + 1, x, .cons _ t, e => by
    obtain ⟨u, h1, h2⟩ := Vals.get (i := i) (x := x) t (by simpa using e)
    exact ⟨u, by simpa using h1, h2⟩
theorem Vals.set {x : V} {u : Value} (r : RelV x u) : ∀ {xs : List V} {us : List Value} (i : Nat), Vals xs us → Vals (xs.set i x) (us.set i u)
  | _, _, _, .nil => .nil
  | _, _, 0, .cons _ t => .cons r t
  | _, _, i + 1, .cons q t => .cons q (Vals.set r i t)
theorem Vals.append : ∀ {xs ys : List V} {us ws : List Value}, Vals xs us → Vals ys ws → Vals (xs ++ ys) (us ++ ws)
  | _, _, _, _, .nil, s => s
  | _, _, _, _, .cons r t, s => .cons r (Vals.append t s)
theorem Vals.take : ∀ {xs : List V} {us : List Value} (n : Nat), Vals xs us → Vals (xs.take n) (us.take n)
  | _, _, 0, _ => .nil
  | _, _, _ + 1, .nil => .nil
  | _, _, n + 1, .cons r t => .cons r (Vals.take n t)
theorem Vals.drop : ∀ {xs : List V} {us : List Value} (n : Nat), Vals xs us → Vals (xs.drop n) (us.drop n)
  | _, _, 0, r => r
  | _, _, _ + 1, .nil => .nil
  | _, _, n + 1, .cons _ t => Vals.drop n t
noncomputable def RelO : Option V → Option Value → Prop
  | some v, some u => RelV v u
  | none, none => True
  | _, _ => False
noncomputable def KV {κ : Type} : List (κ × V) → List (κ × Value) → Prop := Paired fun (p : κ × V) (q : κ × Value) => p.1 = q.1 ∧ RelV p.2 q.2
noncomputable def kV : Key → V
  | .inl i => .int i
  | .inr x => .str x
inductive HO where
  | lst (xs : List V)
  | tup (xs : List V)
  | dK (kvs : List (Key × V)) | dT (kvs : List (List Key × V))
  | set (S : Int → Bool) (n : Nat)
  | ins (C dx : Addr) (fs : List (Str × V))
  | own (x : Addr)
  | xd (fs : List (Str × V))
  | met (f x : Addr)
  | rng (lo hi : Int)
  | frz (o : Obj) (u : HO)
  | tbl (ps : Array Value)
  | ext (φ : Heap → Prop)
abbrev Hp := Addr → Option HO
noncomputable def upd (H : Hp) (a : Addr) (o : HO) : Hp := fun b => if b = a then some o else H b
theorem upd_same {H : Hp} {a : Addr} {o : HO} : upd H a o a = some o := by unfold upd; rw [if_pos rfl]
theorem upd_ne {H : Hp} {a b : Addr} {o : HO} (h : b ≠ a) : upd H a o b = H b := by unfold upd; rw [if_neg h]
theorem upd_upd {H : Hp} {a : Addr} {o u : HO} : upd (upd H a o) a u = upd H a u := by
  funext b; unfold upd; split <;> rfl
theorem ne_of {H : Hp} {a b : Addr} {o u : HO} (h : H a = some o) (h' : H b = some u) (d : o ≠ u) : a ≠ b := by
  intro e; subst e; rw [h] at h'; exact d (Option.some.inj h')
theorem ne_of_none {H : Hp} {a b : Addr} {o : HO} (h : H a = some o) (h' : H b = none) : a ≠ b := by
  intro e; subst e; rw [h] at h'; cases h'
section
variable (P : Program) (w : World)
noncomputable def ObjOk (H : Hp) (h : Heap) (a : Addr) : HO → Prop
  | .lst xs => xs.length ≤ sizeLine ∧ ∃ (its : List Value) (n : Nat), Vals xs its ∧ h.get? a = some { cls := .type "list", data := .seq its.toArray n }
  | .tup xs => xs.length ≤ sizeLine ∧ ∃ its : List Value, Vals xs its ∧ IsTup h a its.toArray
  | .dK kvs => kvs.length ≤ sizeLine ∧ (a == sysModules) = false ∧ ∃ vs, KV kvs vs ∧ h.DictOf (mixKind P w) a vs
  | .dT kvs => kvs.length ≤ sizeLine ∧ (a == sysModules) = false ∧ ∃ xs : List (List Key × Addr × Value),
      Paired (fun (p : List Key × V) (q : List Key × Addr × Value) => p.1 = q.1 ∧ H q.2.1 = some (.tup (p.1.map kV)) ∧ RelV p.2 q.2.2) kvs xs ∧
      ∃ o es ep, h.get? a = some o ∧ o.ExactDict ∧ o.data = .dict es ep ∧ es.toList = xs.map (entryOfKey (tupleKind (mixKind P w))) ∧ (xs.map (·.1)).Nodup
  | .set S n => h.SetOf (intKind P w) a S n
  | .ins C dx fs => H dx = some (.own a) ∧ fs.length ≤ 1000 ∧ dx ≠ a ∧ h.get? a = some (PySem.W.instObj C dx) ∧
      ∃ mA, h.Ns1 dx mA ∧ (∀ f, RelO (fs.lookup f) (mA f)) ∧ PySem.Within mA (fs.map (·.1))
  | .own _ => ∃ o, h.get? a = some o
  | .xd fs => ∃ mA, h.Ns1 a mA ∧ ∀ f, RelO (fs.lookup f) (mA f)
  | .rng lo hi => ∃ t u v, h.get? a = some { cls := .type "range", data := .fields #[.int lo t, .int hi u, .int 1 v] }
  | .frz o u => h.get? a = some o ∧ ObjOk H h a u
  | .tbl ps => h.get? a = some { cls := .none, data := .fields ps }
  | .met f x => h.get? a = some (PySem.W.methodObj (.ref f) (.ref x))
  | .ext φ => φ h ∧ (∃ o, h.get? a = some o) ∧ ∀ h1 h2 : Heap, φ h1 → (∀ o, h1.get? a = some o → h2.get? a = some o) → φ h2
noncomputable def HOk (H : Hp) (h : Heap) : Prop := ∀ a o, H a = some o → ObjOk P w H h a o
end
section
variable {P : Program} {w : World} {H H' : Hp} {h h' : Heap} {a : Addr} {o : HO}
theorem ObjOk.lt (x : ObjOk P w H h a o) : a < h.objs.size := by
  cases o with
  | lst xs => obtain ⟨_, _, _, _, e⟩ := x; exact Heap.lt_size e
  | tup xs => obtain ⟨_, _, _, p⟩ := x; exact p.lt
  | dK kvs => obtain ⟨_, _, _, _, o, _, _, e, _⟩ := x; exact Heap.lt_size e
  | dT kvs => obtain ⟨_, _, _, _, o, _, _, e, _⟩ := x; exact Heap.lt_size e
  | set S n => obtain ⟨o, _, _, _, e, _⟩ := x; exact Heap.lt_size e
  | ins C dx fs => obtain ⟨_, _, _, e, _⟩ := x; exact Heap.lt_size e
  | own y => obtain ⟨_, e⟩ := x; exact Heap.lt_size e
  | xd fs => obtain ⟨_, ⟨_, _, _, e, _⟩, _⟩ := x; exact Heap.lt_size e
  | rng lo hi => obtain ⟨_, _, _, e⟩ := x; exact Heap.lt_size e
  | frz ob u => obtain ⟨e, _⟩ := x; exact Heap.lt_size e
  | tbl ps => exact Heap.lt_size (show h.get? a = some _ from x)
  | met f y => exact Heap.lt_size (show h.get? a = some _ from x)
  | ext φ => obtain ⟨_, ⟨_, e⟩, _⟩ := x; exact Heap.lt_size e
theorem Paired.mapP {α β : Type} {F G : α → β → Prop} : ∀ {l₁ : List α} {l₂ : List β}, Paired F l₁ l₂ → (∀ a b, F a b → G a b) → Paired G l₁ l₂
  | _, _, .nil, _ => .nil
  | _, _, .cons r t, f => .cons (f _ _ r) (Paired.mapP t f)
theorem ObjOk.stay (x : ObjOk P w H h a o) (k : ∀ b u, (b = a ∨ H b = some (.own a)) → h.get? b = some u → h'.get? b = some u)
    (ho : ∀ b, H b = some (.own a) → H' b = some (.own a)) (ht : ∀ b xs, H b = some (.tup xs) → H' b = some (.tup xs)) : ObjOk P w H' h' a o := by
  induction o with
  | lst xs => obtain ⟨z, its, n, r, e⟩ := x; exact ⟨z, its, n, r, k _ _ (.inl rfl) e⟩
  | tup xs => obtain ⟨z, its, r, ob, e, c⟩ := x; exact ⟨z, its, r, ob, k _ _ (.inl rfl) e, c⟩
  | dK kvs => obtain ⟨z, y, vs, r, ob, es, ep, e, c⟩ := x; exact ⟨z, y, vs, r, ob, es, ep, k _ _ (.inl rfl) e, c⟩
  | dT kvs =>
    obtain ⟨z, y, xs, r, ob, es, ep, e, c⟩ := x
    exact ⟨z, y, xs, Paired.mapP r fun p q z => ⟨z.1, ht _ _ z.2.1, z.2.2⟩, ob, es, ep, k _ _ (.inl rfl) e, c⟩
  | set S n => obtain ⟨ob, es, ep, t, e, c⟩ := x; exact ⟨ob, es, ep, t, k _ _ (.inl rfl) e, c⟩
  | ins C dx fs =>
    obtain ⟨d, z, ne, e, mA, ⟨od, es, ep, e2, c⟩, r⟩ := x
    exact ⟨ho _ d, z, ne, k _ _ (.inl rfl) e, mA, ⟨od, es, ep, k _ _ (.inr d) e2, c⟩, r⟩
  | own y => obtain ⟨ob, e⟩ := x; exact ⟨ob, k _ _ (.inl rfl) e⟩
  | xd fs => obtain ⟨mA, ⟨od, es, ep, e, c⟩, r⟩ := x; exact ⟨mA, ⟨od, es, ep, k _ _ (.inl rfl) e, c⟩, r⟩
  | rng lo hi => obtain ⟨t, u, v, e⟩ := x; exact ⟨t, u, v, k _ _ (.inl rfl) e⟩
  | frz ob u ih => obtain ⟨e, q⟩ := x; exact ⟨k _ _ (.inl rfl) e, ih q⟩
  | tbl ps =>
    have e : h.get? a = some { cls := .none, data := .fields ps } := x
    show h'.get? a = some { cls := .none, data := .fields ps }
    exact k a _ (.inl rfl) e
  | met f y =>
    have e : h.get? a = some (PySem.W.methodObj (.ref f) (.ref y)) := x
    show h'.get? a = some (PySem.W.methodObj (.ref f) (.ref y))
    exact k a _ (.inl rfl) e
  | ext φ => obtain ⟨p, ⟨o, e⟩, st⟩ := x; exact ⟨st _ _ p fun o q => k _ _ (.inl rfl) q, ⟨o, k _ _ (.inl rfl) e⟩, st⟩
theorem HOk.lt (x : HOk P w H h) (e : H a = some o) : a < h.objs.size := (x a o e).lt
theorem HOk.fresh (x : HOk P w H h) (e : h.objs.size ≤ a) : H a = none := by
  cases q : H a with
  | none => rfl
  | some u => exact absurd (Nat.lt_of_lt_of_le (x.lt q) e) (Nat.lt_irrefl _)
theorem HOk.kept (x : HOk P w H h) (k : ∀ b u, h.get? b = some u → h'.get? b = some u) : HOk P w H h' := fun a o e =>
  (x a o e).stay (fun b u _ q => k b u q) (fun _ q => q) fun _ _ q => q
theorem HOk.laid (x : HOk P w H h) (k : ∀ b u, h.get? b = some u → h'.get? b = some u) (hp : h.objs.size ≤ a) (new : ObjOk P w (upd H a o) h' a o) : HOk P w (upd H a o) h' := fun b u e => by
  have hn := x.fresh hp
  by_cases hb : b = a
  · subst hb; rw [upd_same] at e; cases e; exact new
  · rw [upd_ne hb] at e
    exact (x b u e).stay (fun c v _ q => k c v q) (fun c q => by rw [upd_ne (ne_of_none q hn)]; exact q) fun c xs q => by rw [upd_ne (ne_of_none q hn)]; exact q
end
noncomputable def Rd (H : Hp) (a : Addr) (u : HO) : Prop := H a = some u ∨ ∃ o, H a = some (.frz o u)
theorem Rd.ok {P : Program} {w : World} {H : Hp} {h : Heap} {a : Addr} {u : HO} (r : Rd H a u) (x : HOk P w H h) : ObjOk P w H h a u := by
  rcases r with r | ⟨o, r⟩
  · exact x a u r
  · obtain ⟨_, q⟩ := x a _ r
    exact q
noncomputable def Mut : Option HO → Prop
  | some (.lst _) => True
  | some (.dK _) => True
  | some (.dT _) => True
  | some (.set _ _) => True
  | some (.ins _ _ _) => True
  | some (.ext _) => True
  | _ => False
section
variable {P : Program} {w : World} {H : Hp} {h h' : Heap} {x e : Addr} {o' : HO}
theorem HOk.write (ok : HOk P w H h) (mu : Mut (H x)) (he : e = x ∨ H e = some (.own x)) (k : ∀ b u, b ≠ e → h.get? b = some u → h'.get? b = some u) (heo : ∃ u, h'.get? e = some u)
    (new : ObjOk P w (upd H x o') h' x o') : HOk P w (upd H x o') h' := fun b u q => by
  have nown : ∀ c y, H c = some (.own y) → c ≠ x := fun c y r z => by subst z; rw [r] at mu; exact mu
  have ntup : ∀ c xs, H c = some (.tup xs) → c ≠ x := fun c xs r z => by subst z; rw [r] at mu; exact mu
  by_cases hb : b = x
  · subst hb; rw [upd_same] at q; cases q; exact new
  · rw [upd_ne hb] at q
    by_cases hbe : b = e
    · have q' : H b = some (.own x) := by
        rcases he with z | z
        · exact absurd (hbe.trans z) hb
        · rw [hbe]; exact z
      rw [q] at q'; cases q'
      obtain ⟨v, hv⟩ := heo
      exact ⟨v, by rw [hbe]; exact hv⟩
    · refine (ok b u q).stay (fun c v hc r => k c v ?_ r) (fun c r => by rw [upd_ne (nown c b r)]; exact r) fun c xs r => by rw [upd_ne (ntup c xs r)]; exact r
      rcases hc with rfl | hc
      · exact hbe
      · rintro rfl
        rcases he with z | z
        · exact nown c b hc z
        · rw [hc] at z; cases z; exact hb rfl
end
structure Un (fs ex : List Addr) (H H' : Hp) (h h' : Heap) : Prop where
  keep : ∀ b o, h.get? b = some o → H b = none → b ∉ fs → b ∉ ex → h'.get? b = some o
  slot : ∀ b o, h.get? b = some o → H b = none → b ∈ fs → b ∉ ex → ∃ sl, h'.get? b = some { o with slots := sl }
  free : ∀ b o, h.get? b = some o → H b = none → b ∉ ex → H' b = none
  there : ∀ b o, h.get? b = some o → b ∉ ex → ∃ o', h'.get? b = some o'
  tups : ∀ b xs, H b = some (.tup xs) → H' b = some (.tup xs)
  frzs : ∀ b o u, H b = some (.frz o u) → H' b = some (.frz o u)
  tbls : ∀ b ps, H b = some (.tbl ps) → ∃ more, H' b = some (.tbl (ps ++ more))
section
variable {fs fs' ex ex' : List Addr} {H H1 H2 : Hp} {h h1 h2 h' : Heap} {a x e : Addr} {o : HO}
theorem Un.any (u : Un fs ex H H1 h h1) {b : Addr} {ob : Obj} (q : h.get? b = some ob) (n : H b = none) (hx : b ∉ ex) : ∃ sl, h1.get? b = some { ob with slots := sl } := by
  by_cases hb : b ∈ fs
  · exact u.slot b ob q n hb hx
  · exact ⟨ob.slots, u.keep b ob q n hb hx⟩
theorem Un.kept (k : ∀ b u, h.get? b = some u → h'.get? b = some u) : Un fs ex H H h h' :=
  ⟨fun b ob q _ _ _ => k b ob q, fun b ob q _ _ _ => ⟨ob.slots, k b ob q⟩, fun _ _ _ n _ => n, fun b ob q _ => ⟨ob, k b ob q⟩, fun _ _ q => q, fun _ _ _ q => q, fun _ ps q => ⟨#[], by rw [q]; simp⟩⟩
theorem Un.refl : Un fs ex H H h h := Un.kept fun _ _ q => q
theorem Un.laid (k : ∀ b u, h.get? b = some u → h'.get? b = some u) (hp : h.objs.size ≤ a) (hn : H a = none) : Un fs ex H (upd H a o) h h' where
  keep := fun b u q _ _ _ => k b u q
  slot := fun b u q _ _ _ => ⟨u.slots, k b u q⟩
  free := fun b u q n _ => by rw [upd_ne (Nat.ne_of_lt (Nat.lt_of_lt_of_le (Heap.lt_size q) hp))]; exact n
  there := fun b u q _ => ⟨u, k b u q⟩
  tups := fun b xs q => by rw [upd_ne (ne_of_none q hn)]; exact q
  frzs := fun b u xs q => by rw [upd_ne (ne_of_none q hn)]; exact q
  tbls := fun b ps q => ⟨#[], by rw [upd_ne (ne_of_none q hn), q]; simp⟩
theorem Un.write (mu : Mut (H x)) (he : e = x ∨ H e = some (.own x)) (k : ∀ b u, b ≠ e → h.get? b = some u → h'.get? b = some u) (heo : ∃ u, h'.get? e = some u) : Un fs ex H (upd H x o) h h' := by
  have hx : ∀ b, H b = none → b ≠ x := fun b n z => by subst z; rw [n] at mu; exact mu
  have hb : ∀ b, H b = none → b ≠ e := fun b n z => by
    subst z
    rcases he with r | r
    · exact hx b n r
    · rw [n] at r; cases r
  have hm : ∀ b u, H b = some u → ¬ Mut (some u) → b ≠ x := fun b u q nm z => by subst z; rw [q] at mu; exact nm mu
  refine ⟨fun b u q n _ _ => k b u (hb b n) q, fun b u q n _ _ => ⟨u.slots, k b u (hb b n) q⟩, fun b u q n _ => by rw [upd_ne (hx b n)]; exact n, fun b u q _ => ?_,
    fun b xs q => by rw [upd_ne (hm b _ q fun z => z)]; exact q, fun b u xs q => by rw [upd_ne (hm b _ q fun z => z)]; exact q, fun b ps q => ⟨#[], by rw [upd_ne (hm b _ q fun z => z), q]; simp⟩⟩
  by_cases hbe : b = e
  · subst hbe; exact heo
  · exact ⟨u, k b u hbe q⟩
end
noncomputable def trk (h : Heap) (H : Hp) : List Addr := (List.range h.objs.size).filter fun a => (H a).isSome
noncomputable def hidT (h : Heap) (H : Hp) : Heap := PySem.W.hideAll h (trk h H)
theorem hidT_size (h : Heap) (H : Hp) : (hidT h H).objs.size = h.objs.size := PySem.W.hideAll_size _ _
theorem hidT_get {h : Heap} {H : Hp} {b : Addr} {o : Obj} (e : h.get? b = some o) (n : H b = none) : (hidT h H).get? b = some o :=
  PySem.W.hideAll_get _ e fun hm => by
    have q : (H b).isSome = true := (List.mem_filter.mp hm).2
    rw [n] at q; simp at q
theorem of_hidT {h : Heap} {H : Hp} {b : Addr} {o : Obj} (e : (hidT h H).get? b = some o) : h.get? b = some o ∧ H b = none := by
  have e' : h.get? b = some o := PySem.W.of_hideAll (trk h H) e
  refine ⟨e', ?_⟩
  cases q : H b with
  | none => rfl
  | some x =>
    have hm : b ∈ trk h H := List.mem_filter.mpr ⟨List.mem_range.mpr (Heap.lt_size e'), by simp [q]⟩
    have z : (hidT h H).get? b = none := PySem.W.hideAll_none (trk h H) hm
    rw [z] at e; cases e
end L2
namespace L2
open PySem PySem.Spec PyProof.Rows
structure Mod (K : PySem.W.Frag) (mg : Str → Option Value) (base : Heap) : Prop where
  kin : K.In base
  glob : base.Ns mainGlobals mg
  blt : ∃ mb, base.Ns builtinsNs mb ∧ ∀ x : Str, x ≠ "__name__" → mb x = bootBuiltins x
  nolimit : base.NoLimit
  seer : base.NoSeer
structure Cx where
  prog : Program
  w : World
  K : PySem.W.Frag
  mg : Str → Option Value
  base : Heap
  A : Around
  N : List Str
  s₀ : Shared
  H₀ : Hp
  env : Env
  outer : List Env
  stack : List Env
  ex : List Addr
  fn : Str → Bool
  calm : Bool
  pn : List (Addr × Obj)
  xe : Value → Shared → Prop
def frs (l : List Env) : List Addr := l.filterMap (·.frame)
abbrev Cx.fs (X : Cx) : List Addr := frs X.outer
noncomputable def Vis (sc : Scope) (x : Str) : Prop := sc.names.lookup x = some .local ∨ sc.names.lookup x = some .cell ∨ sc.names.lookup x = some .free
noncomputable def Loc (sc : Scope) (x : Str) : Prop := sc.names.lookup x = some .local ∨ sc.names.lookup x = some .cell
noncomputable def Look (env : Env) (h : Heap) (m : Str → Option Value) (x : Str) (u : Value) : Prop :=
  (env.kindOf x = some .local ∧ m x = some u) ∨ ((env.kindOf x = some .cell ∨ env.kindOf x = some .free) ∧ ∃ c, env.cells.lookup x = some c ∧ h.IsCell c (some u))
structure Cx.Ok (X : Cx) : Prop where
  mod : Mod X.K X.mg X.base
  kind : X.env.scope.kind = .function
  glob : X.env.globals = mainGlobals
  blt : X.env.builtins = builtinsNs
  above : X.s₀.heap.objs.size ≤ X.env.locals
  inj : ∀ x y c, X.env.cells.lookup x = some c → X.env.cells.lookup y = some c → x = y
  has : ∀ x, (X.env.kindOf x = some .cell ∨ X.env.kindOf x = some .free) → ∃ c, X.env.cells.lookup x = some c
  cab : ∀ x c, X.fn x = true → X.env.cells.lookup x = some c → X.s₀.heap.objs.size ≤ c
  hd : X.calm = true → X.A.handled = none
  frames : X.A.frames = some X.stack
  stk : X.stack = X.outer ∨ (X.stack = X.env :: X.outer ∧ X.env.frame = some X.env.locals)
  exf : ∀ b ∈ X.ex, b ≠ X.env.locals ∧ ∀ x c, X.env.cells.lookup x = some c → c ≠ b
  bs : ∀ b o, X.base.get? b = some o → X.s₀.heap.get? b = some o ∧ X.H₀ b = none
  bsz : X.base.objs.size ≤ X.s₀.heap.objs.size
  noex : ∀ b o, X.base.get? b = some o → b ∉ X.ex
  exfs : ∀ b ∈ X.ex, b ∉ X.fs
  funs : X.s₀.heap.FunFrames X.base X.outer
  frf : ∀ b ∈ X.fs, X.H₀ b = none
structure Inv (X : Cx) (pins : List (Addr × Obj)) (σ : List (Option V)) (H : Hp) (s : Shared) : Prop where
  ok : X.Ok
  os : s.os = X.s₀.os
  bare : AllBare s.gens
  base : Un X.fs X.ex X.H₀ H X.s₀.heap s.heap
  loc : ∃ m, s.heap.Ns X.env.locals m ∧ ∀ (i : Nat) (x : Str) (v : V), X.N[i]? = some x → σ[i]? = some (some v) → Vis X.env.scope x → ∃ u, RelV v u ∧ Look X.env s.heap m x u
  cell : ∀ x c, X.env.cells.lookup x = some c → ∃ v, s.heap.IsCell c v
  free : H X.env.locals = none
  freeC : ∀ x c, X.env.cells.lookup x = some c → H c = none
  pin : ∀ p ∈ X.pn ++ pins, s.heap.get? p.1 = some p.2 ∧ H p.1 = none ∧ p.1 ≠ X.env.locals ∧ p.1 ∉ X.fs ∧ ∀ v, p.2.data ≠ .cell v
  hok : HOk X.prog X.w H s.heap
  len : σ.length = X.N.length
section
variable {X : Cx} {pins : List (Addr × Obj)} {σ : List (Option V)} {H H' : Hp} {s : Shared} {h' : Heap}
theorem Cx.Ok.nofr (ok : X.Ok) {b : Addr} {o : Obj} (e : X.base.get? b = some o) : b ∉ X.fs := fun hb => by
  have := (ok.funs.mem hb).1
  rw [e] at this; cases this
theorem Inv.bs (I : Inv X pins σ H s) : ∀ b o, X.base.get? b = some o → s.heap.get? b = some o ∧ H b = none := fun b o e =>
  ⟨I.base.keep b o (I.ok.bs b o e).1 (I.ok.bs b o e).2 (I.ok.nofr e) (I.ok.noex b o e), I.base.free b o (I.ok.bs b o e).1 (I.ok.bs b o e).2 (I.ok.noex b o e)⟩
theorem Inv.bk (I : Inv X pins σ H s) : ∀ b o, X.base.get? b = some o → s.heap.get? b = some o := fun b o e => (I.bs b o e).1
theorem Inv.mod (I : Inv X pins σ H s) : Mod X.K X.mg X.base := I.ok.mod
theorem Inv.kIn (I : Inv X pins σ H s) : X.K.In s.heap := I.ok.mod.kin.keeps I.bk
theorem Inv.nolimit (I : Inv X pins σ H s) : s.heap.NoLimit := I.ok.mod.nolimit.keeps I.bk
theorem Inv.lt (I : Inv X pins σ H s) : X.env.locals < s.heap.objs.size := let ⟨_, hn, _⟩ := I.loc; hn.lt
theorem Inv.sz (I : Inv X pins σ H s) : X.s₀.heap.objs.size ≤ s.heap.objs.size := Nat.le_trans I.ok.above (Nat.le_of_lt I.lt)
theorem Inv.nofs (I : Inv X pins σ H s) {a : Addr} (h : s.heap.objs.size ≤ a) : a ∉ X.fs := fun hb => by
  obtain ⟨_, o, ho, _⟩ := I.ok.funs.mem hb
  exact absurd (Nat.lt_of_lt_of_le (Heap.lt_size ho) (Nat.le_trans I.sz h)) (Nat.lt_irrefl _)
theorem Inv.cne (I : Inv X pins σ H s) : ∀ x c, X.env.cells.lookup x = some c → c ≠ X.env.locals := fun x c e z => by
  obtain ⟨v, o, ho, hd⟩ := I.cell x c e
  obtain ⟨m, ⟨o', es, ep, ho', hd', _⟩, _⟩ := I.loc
  rw [z, ho'] at ho; cases ho; rw [hd'] at hd; cases hd
theorem Inv.funs (I : Inv X pins σ H s) : s.heap.FunFrames X.base X.outer := by
  have all : ∀ (l : List Env), (∀ b ∈ frs l, b ∈ X.fs) → X.s₀.heap.FunFrames X.base l → s.heap.FunFrames X.base l := by
    intro l
    induction l with
    | nil => intro _ _; trivial
    | cons env r ih =>
      intro hs hl
      obtain ⟨hk, ⟨L, o, hf, hn, ho, hd⟩, hr⟩ := hl
      have hL : L ∈ X.fs := hs L (by unfold frs; rw [List.filterMap_cons, hf]; exact List.mem_cons_self)
      obtain ⟨sl, e⟩ := I.base.slot L o ho (I.ok.frf L hL) hL fun z => I.ok.exfs L z hL
      exact ⟨hk, ⟨L, _, hf, hn, e, hd⟩, ih (fun b hb => hs b (by unfold frs; rw [List.filterMap_cons, hf]; exact List.mem_cons_of_mem _ hb)) hr⟩
  exact all X.outer (fun _ hb => hb) I.ok.funs
theorem Inv.stack (I : Inv X pins σ H s) : s.heap.FunFrames X.base X.stack := by
  rcases I.ok.stk with e | ⟨e, hf⟩
  · rw [e]; exact I.funs
  · rw [e]
    obtain ⟨m, hn, _⟩ := I.loc
    refine .cons (by rw [I.ok.kind]; decide) hf hn ?_ I.funs
    exact Heap.get?_none_of_le (Nat.le_trans I.ok.bsz I.ok.above)
theorem Inv.stkSub (I : Inv X pins σ H s) : ∀ b ∈ frs X.stack, b ∈ X.env.locals :: X.fs := fun b hb => by
  rcases I.ok.stk with e | ⟨e, hf⟩
  · rw [e] at hb; exact List.mem_cons_of_mem _ hb
  · rw [e] at hb
    unfold frs at hb
    rw [List.filterMap_cons, hf] at hb
    exact hb
theorem Inv.stkFree (I : Inv X pins σ H s) : ∀ b ∈ frs X.stack, H b = none := fun b hb => by
  rcases List.mem_cons.mp (I.stkSub b hb) with e | hb
  · rw [e]; exact I.free
  · obtain ⟨_, o, ho, _⟩ := I.ok.funs.mem hb
    exact I.base.free b o ho (I.ok.frf b hb) fun z => I.ok.exfs b z hb
theorem Inv.step {g' : Array GenState} {t' : Nat} {d' : Drawn} {ch : List Addr} (I : Inv X pins σ H s)
    (hch : ∀ b ∈ ch, (b ∈ X.ex ∨ X.s₀.heap.objs.size ≤ b) ∧ b ≠ X.env.locals ∧ (∀ x c, X.env.cells.lookup x = some c → c ≠ b) ∧ ∀ p ∈ X.pn ++ pins, p.1 ≠ b)
    (keep : ∀ b o, b ≠ X.env.locals → b ∉ X.fs → b ∉ ch → s.heap.get? b = some o → H b = none → h'.get? b = some o)
    (slot : ∀ b o, b ≠ X.env.locals → b ∈ X.fs → b ∉ ch → s.heap.get? b = some o → H b = none → ∃ sl, h'.get? b = some { o with slots := sl }) (free : ∀ b o, b ∉ ch → s.heap.get? b = some o → H b = none → H' b = none)
    (there : ∀ b o, b ∉ ch → s.heap.get? b = some o → ∃ o', h'.get? b = some o')
    (tups : ∀ b xs, H b = some (.tup xs) → H' b = some (.tup xs)) (frzs : ∀ b o u, H b = some (.frz o u) → H' b = some (.frz o u)) (tbls : ∀ b ps, H b = some (.tbl ps) → ∃ more, H' b = some (.tbl (ps ++ more)))
    (ns : ∀ m, s.heap.Ns X.env.locals m → h'.Ns X.env.locals m) (hok : HOk X.prog X.w H' h') (hg : AllBare g') :
    Inv X pins σ H' { s with heap := h', gens := g', drawn := d', toks := t' } := by
  have neL : ∀ b o, X.s₀.heap.get? b = some o → b ≠ X.env.locals := fun b o e => Nat.ne_of_lt (Nat.lt_of_lt_of_le (Heap.lt_size e) I.ok.above)
  have neC : ∀ b o, X.s₀.heap.get? b = some o → b ∉ X.ex → b ∉ ch := fun b o e hx hb => by
    rcases (hch b hb).1 with z | z
    · exact hx z
    · exact absurd (Nat.lt_of_lt_of_le (Heap.lt_size e) z) (Nat.lt_irrefl _)
  have cellK : ∀ x c, X.env.cells.lookup x = some c → ∀ v, s.heap.IsCell c v → h'.IsCell c v := fun x c e v ⟨o, ho, hd⟩ => by
    have nch : c ∉ ch := fun z => (hch c z).2.2.1 x c e rfl
    by_cases hc : c ∈ X.fs
    · obtain ⟨sl, q⟩ := slot c o (I.cne x c e) hc nch ho (I.freeC x c e)
      exact ⟨_, q, hd⟩
    · exact ⟨o, keep c o (I.cne x c e) hc nch ho (I.freeC x c e), hd⟩
  refine ⟨I.ok, I.os, hg, ⟨fun b o e n hb hx => ?_, fun b o e n hb hx => ?_, fun b o e n hx => ?_, fun b o e hx => ?_, fun b xs e => tups b xs (I.base.tups b xs e), fun b o xs e => frzs b o xs (I.base.frzs b o xs e), fun b ps e => ?_⟩, ?_, fun x c e => ?_, ?_, fun x c e => ?_, fun p hp => ?_, hok, I.len⟩
  · exact keep b o (neL b o e) hb (neC b o e hx) (I.base.keep b o e n hb hx) (I.base.free b o e n hx)
  · obtain ⟨sl, e1⟩ := I.base.slot b o e n hb hx
    obtain ⟨sl', e2⟩ := slot b _ (neL b o e) hb (neC b o e hx) e1 (I.base.free b o e n hx)
    exact ⟨sl', e2⟩
  · obtain ⟨o', e1⟩ := I.base.there b o e hx
    exact free b o' (neC b o e hx) e1 (I.base.free b o e n hx)
  · obtain ⟨o', e1⟩ := I.base.there b o e hx
    exact there b o' (neC b o e hx) e1
  · obtain ⟨m1, e1⟩ := I.base.tbls b ps e
    obtain ⟨m2, e2⟩ := tbls b _ e1
    exact ⟨m1 ++ m2, by rw [e2, Array.append_assoc]⟩
  · obtain ⟨m, hn, hl⟩ := I.loc
    refine ⟨m, ns m hn, fun i x v e1 e2 e3 => ?_⟩
    obtain ⟨u, r, l⟩ := hl i x v e1 e2 e3
    refine ⟨u, r, ?_⟩
    rcases l with l | ⟨k, c, e, z⟩
    · exact .inl l
    · exact .inr ⟨k, c, e, cellK x c e _ z⟩
  · obtain ⟨v, z⟩ := I.cell x c e
    exact ⟨v, cellK x c e v z⟩
  · obtain ⟨m, ⟨o, _, _, ho, _⟩, _⟩ := I.loc
    exact free _ o (fun z => (hch _ z).2.1 rfl) ho I.free
  · obtain ⟨v, o, ho, hd⟩ := I.cell x c e
    exact free c o (fun z => (hch c z).2.2.1 x c e rfl) ho (I.freeC x c e)
  · obtain ⟨e, n, ne, nf, d⟩ := I.pin p hp
    have nch : p.1 ∉ ch := fun z => (hch p.1 z).2.2.2 p hp rfl
    exact ⟨keep p.1 p.2 ne nf nch e n, free p.1 p.2 nch e n, ne, nf, d⟩
theorem Inv.un {t' : Nat} (I : Inv X pins σ H s) (u : Un X.fs [] H H' s.heap h') (hok : HOk X.prog X.w H' h') : Inv X pins σ H' { s with heap := h', toks := t' } := by
  obtain ⟨m, ⟨o, es, ep, ho, r⟩, _⟩ := id I.loc
  obtain ⟨sl, hL⟩ := u.any ho I.free (by simp)
  exact I.step (g' := s.gens) (d' := s.drawn) (ch := []) (fun _ z => nomatch z) (fun b o _ hb _ e n => u.keep b o e n hb (by simp)) (fun b o _ hb _ e n => u.slot b o e n hb (by simp)) (fun b o _ e n => u.free b o e n (by simp)) (fun b o _ e => u.there b o e (by simp)) u.tups u.frzs u.tbls (fun m' hm => by
    obtain ⟨o', es', ep', ho', r'⟩ := hm
    rw [ho] at ho'; cases ho'
    exact ⟨_, es', ep', hL, r'⟩) hok I.bare
theorem Inv.call {g' : Array GenState} {t' : Nat} {d' : Drawn} {ch : List Addr} (I : Inv X pins σ H s) (u : Un (frs X.stack) ch H H' s.heap h') (hok : HOk X.prog X.w H' h') (hg : AllBare g')
    (hch : ∀ b ∈ ch, (b ∈ X.ex ∨ X.s₀.heap.objs.size ≤ b) ∧ b ≠ X.env.locals ∧ (∀ x c, X.env.cells.lookup x = some c → c ≠ b) ∧ ∀ p ∈ X.pn ++ pins, p.1 ≠ b) :
    Inv X pins σ H' { s with heap := h', gens := g', drawn := d', toks := t' } := by
  obtain ⟨m, ⟨o, es, ep, ho, r⟩, _⟩ := id I.loc
  obtain ⟨sl, hL⟩ := u.any ho I.free fun z => (hch _ z).2.1 rfl
  exact I.step (ch := ch) hch (fun b o hL hb hc e n => u.keep b o e n (fun z => (List.mem_cons.mp (I.stkSub b z)).elim hL hb) hc) (fun b o _ _ hc e n => u.any e n hc) (fun b o hc e n => u.free b o e n hc) (fun b o hc e => u.there b o e hc) u.tups u.frzs u.tbls (fun m' hm => by
    obtain ⟨o', es', ep', ho', r'⟩ := hm
    rw [ho] at ho'; cases ho'
    exact ⟨_, es', ep', hL, r'⟩) hok hg
theorem Inv.turned {t' : Nat} {it : Addr} (I : Inv X pins σ H s) (k : ∀ b o, b ≠ it → s.heap.get? b = some o → h'.get? b = some o) (hn : H it = none) (hL : it ≠ X.env.locals)
    (h1 : it ∈ X.ex ∨ X.s₀.heap.objs.size ≤ it) (h2 : ∀ x c, X.env.cells.lookup x = some c → c ≠ it) (h3 : ∀ p ∈ X.pn ++ pins, p.1 ≠ it) : Inv X pins σ H { s with heap := h', toks := t' } := by
  have nit : ∀ b u, H b = some u → b ≠ it := fun b u e z => by rw [z, hn] at e; cases e
  refine I.step (g' := s.gens) (d' := s.drawn) (ch := [it]) (fun b hb => ?_) (fun b o _ _ hc e _ => k b o (fun z => hc (by simp [z])) e) (fun b o _ _ hc e _ => ⟨o.slots, k b o (fun z => hc (by simp [z])) e⟩) (fun _ _ _ _ n => n)
    (fun b o hc e => ⟨o, k b o (fun z => hc (by simp [z])) e⟩) (fun _ _ e => e) (fun _ _ _ e => e) (fun b ps e => ⟨#[], by rw [e]; simp⟩) (fun m hm => ?_) (fun b u e => ?_) I.bare
  · have e : b = it := by simpa using hb
    subst e
    exact ⟨h1, hL, h2, h3⟩
  · obtain ⟨o, es, ep, ho, r⟩ := hm
    exact ⟨o, es, ep, k _ o (Ne.symm hL) ho, r⟩
  · refine (I.hok b u e).stay (fun c v hc q => k c v ?_ q) (fun _ q => q) fun _ _ q => q
    rcases hc with z | z
    · rw [z]; exact nit b u e
    · exact nit c _ z
theorem Inv.tok (I : Inv X pins σ H s) (t : Nat) : Inv X pins σ H { s with toks := t } := I.un (h' := s.heap) (t' := t) Un.refl I.hok
theorem Inv.kept {t' : Nat} (I : Inv X pins σ H s) (k : ∀ b u, s.heap.get? b = some u → h'.get? b = some u) : Inv X pins σ H { s with heap := h', toks := t' } := I.un (Un.kept k) (I.hok.kept k)
theorem Inv.laid {a : Addr} {o : HO} {t' : Nat} (I : Inv X pins σ H s) (k : ∀ b u, s.heap.get? b = some u → h'.get? b = some u) (hp : s.heap.objs.size ≤ a) (new : ObjOk X.prog X.w (upd H a o) h' a o) :
    Inv X pins σ (upd H a o) { s with heap := h', toks := t' } := I.un (Un.laid k hp (I.hok.fresh hp)) (I.hok.laid k hp new)
theorem Inv.write {x e : Addr} {o : HO} {t' : Nat} (I : Inv X pins σ H s) (mu : Mut (H x)) (he : e = x ∨ H e = some (.own x)) (k : ∀ b u, b ≠ e → s.heap.get? b = some u → h'.get? b = some u) (heo : ∃ u, h'.get? e = some u)
    (new : ObjOk X.prog X.w (upd H x o) h' x o) : Inv X pins σ (upd H x o) { s with heap := h', toks := t' } := I.un (Un.write mu he k heo) (I.hok.write mu he k heo new)
theorem Inv.weak {σ' : List (Option V)} (I : Inv X pins σ H s) (hl : σ'.length = σ.length) (w : ∀ (i : Nat) v, σ'[i]? = some (some v) → σ[i]? = some (some v)) : Inv X pins σ' H s :=
  ⟨I.ok, I.os, I.bare, I.base, let ⟨m, hn, hl'⟩ := I.loc; ⟨m, hn, fun i x v e1 e2 e3 => hl' i x v e1 (w i v e2) e3⟩, I.cell, I.free, I.freeC, I.pin, I.hok, hl.trans I.len⟩
theorem Inv.pins_of {pins' : List (Addr × Obj)} (I : Inv X pins σ H s) (h : ∀ p ∈ pins', s.heap.get? p.1 = some p.2 ∧ H p.1 = none ∧ p.1 ≠ X.env.locals ∧ p.1 ∉ X.fs ∧ ∀ v, p.2.data ≠ .cell v) : Inv X pins' σ H s :=
  ⟨I.ok, I.os, I.bare, I.base, I.loc, I.cell, I.free, I.freeC, fun p hp => (List.mem_append.mp hp).elim (fun z => I.pin p (List.mem_append_left _ z)) (h p), I.hok, I.len⟩
theorem nodup_ix {N : List Str} (hN : N.Nodup) {i j : Nat} {x : Str} (a : N[i]? = some x) (b : N[j]? = some x) : i = j := by
  obtain ⟨h1, e1⟩ := List.getElem?_eq_some_iff.mp a
  obtain ⟨h2, e2⟩ := List.getElem?_eq_some_iff.mp b
  exact (List.getElem_inj hN).mp (e1.trans e2.symm)
theorem store_ok2 {M : Model} {A : Around} {E : Value → Shared → Prop} {i : Nat} {x : Str} {v : V} {u : Value} {Q : Unit → Shared → Prop} (I : Inv X pins σ H s) (hN : X.N.Nodup) (hi : X.N[i]? = some x) (hx : Loc X.env.scope x) (r : RelV v u)
    (h : ∀ s', Inv X pins (σ.set i (some v)) H s' → (∃ a, Heap.SameBut a s.heap s'.heap ∧ (a = X.env.locals ∨ X.env.cells.lookup x = some a)) → Q () s') (hf : X.fn x = true ∨ X.env.scope.names.lookup x = some .local := by first | exact .inl rfl | exact .inr rfl | assumption) : wpAny M A (storeName X.env x u) Q E s := by
  obtain ⟨m, hn, hl⟩ := id I.loc
  have hcls : (X.env.scope.kind == .class || (X.env.scope.kind == .module && X.env.locals != X.env.globals)) = false := by rw [I.ok.kind]; rfl
  have hiσ : i < σ.length := by rw [I.len]; exact (List.getElem?_eq_some_iff.mp hi).1
  have cne := I.cne
  have tracked : ∀ {a : Addr} {h' : Heap}, (∃ o, s.heap.get? a = some o ∧ H a = none) → Heap.SameBut a s.heap h' → HOk X.prog X.w H h' := fun {a h'} ha hs b ob e => by
    obtain ⟨_, _, hfree⟩ := ha
    refine (I.hok b ob e).stay (fun c w' hc q => (hs.2 c ?_).trans q) (fun _ q => q) fun _ _ q => q
    rintro rfl
    rcases hc with rfl | hc
    · rw [hfree] at e; cases e
    · rw [hfree] at hc; cases hc
  rcases hx with hk | hk
  · refine wpAny_storeName_local hk hn (fun h' hn' hs => ?_) hcls
    obtain ⟨oL, _, _, hoL, _⟩ := id hn
    refine h _ ⟨I.ok, I.os, I.bare, ⟨fun b o e n hb hx => ?_, fun b o e n hb hx => ?_, I.base.free, fun b o e hx => ?_, I.base.tups, I.base.frzs, I.base.tbls⟩, ⟨_, hn', fun j y v' e1 e2 e3 => ?_⟩, fun y c e => ?_, I.free, I.freeC, fun p hp => ?_, tracked ⟨oL, hoL, I.free⟩ hs, by simpa using I.len⟩ ⟨_, hs, .inl rfl⟩
    · exact (hs.2 b (Nat.ne_of_lt (Nat.lt_of_lt_of_le (Heap.lt_size e) I.ok.above))).trans (I.base.keep b o e n hb hx)
    · obtain ⟨sl, e1⟩ := I.base.slot b o e n hb hx
      exact ⟨sl, (hs.2 b (Nat.ne_of_lt (Nat.lt_of_lt_of_le (Heap.lt_size e) I.ok.above))).trans e1⟩
    · obtain ⟨o', e1⟩ := I.base.there b o e hx
      exact ⟨o', (hs.2 b (Nat.ne_of_lt (Nat.lt_of_lt_of_le (Heap.lt_size e) I.ok.above))).trans e1⟩
    · by_cases hj : j = i
      · subst hj
        rw [hi] at e1; cases e1
        rw [List.getElem?_set_self hiσ] at e2
        cases e2
        exact ⟨u, r, .inl ⟨hk, by simp⟩⟩
      · rw [List.getElem?_set_ne (Ne.symm hj)] at e2
        obtain ⟨u', r', q⟩ := hl j y v' e1 e2 e3
        refine ⟨u', r', ?_⟩
        rcases q with ⟨k, e⟩ | ⟨k, c, e, z⟩
        · refine .inl ⟨k, ?_⟩
          have : y ≠ x := fun e => hj (nodup_ix hN e1 (e ▸ hi))
          simp [this, e]
        · exact .inr ⟨k, c, e, z.sameBut hs (cne y c e)⟩
    · obtain ⟨w', z⟩ := I.cell y c e
      exact ⟨w', z.sameBut hs (cne y c e)⟩
    · obtain ⟨e, n, ne, nf, d⟩ := I.pin p hp
      exact ⟨(hs.2 p.1 ne).trans e, n, ne, nf, d⟩
  · have hfn : X.fn x = true := by
      rcases hf with z | z
      · exact z
      · rw [z] at hk; cases hk
    obtain ⟨c, hc⟩ := I.ok.has x (.inl hk)
    obtain ⟨w', z⟩ := I.cell x c hc
    refine wpAny_storeName_cell I.ok.kind hk hc z (fun h' hc' hs => ?_)
    obtain ⟨oc, hoc, hocd⟩ := id z
    refine h { s with heap := h' } ⟨I.ok, I.os, I.bare, ⟨fun b o e n hb hx => ?_, fun b o e n hb hx => ?_, I.base.free, fun b o e hx => ?_, I.base.tups, I.base.frzs, I.base.tbls⟩, ⟨m, hn.sameBut hs (Ne.symm (cne x c hc)), fun j y v' e1 e2 e3 => ?_⟩, fun y c' e => ?_, I.free, I.freeC, fun p hp => ?_, tracked ⟨oc, hoc, I.freeC x c hc⟩ hs, by simpa using I.len⟩ ⟨c, hs, .inr hc⟩
    · exact (hs.2 b (Nat.ne_of_lt (Nat.lt_of_lt_of_le (Heap.lt_size e) (I.ok.cab x c hfn hc)))).trans (I.base.keep b o e n hb hx)
    · obtain ⟨sl, e1⟩ := I.base.slot b o e n hb hx
      exact ⟨sl, (hs.2 b (Nat.ne_of_lt (Nat.lt_of_lt_of_le (Heap.lt_size e) (I.ok.cab x c hfn hc)))).trans e1⟩
    · obtain ⟨o', e1⟩ := I.base.there b o e hx
      exact ⟨o', (hs.2 b (Nat.ne_of_lt (Nat.lt_of_lt_of_le (Heap.lt_size e) (I.ok.cab x c hfn hc)))).trans e1⟩
    · by_cases hj : j = i
      · subst hj
        rw [hi] at e1; cases e1
        rw [List.getElem?_set_self hiσ] at e2
        cases e2
        exact ⟨u, r, .inr ⟨.inl hk, c, hc, hc'⟩⟩
      · rw [List.getElem?_set_ne (Ne.symm hj)] at e2
        obtain ⟨u', r', q⟩ := hl j y v' e1 e2 e3
        refine ⟨u', r', ?_⟩
        rcases q with q | ⟨k, c', e, z'⟩
        · exact .inl q
        · refine .inr ⟨k, c', e, z'.sameBut hs ?_⟩
          rintro rfl
          exact hj (nodup_ix hN e1 (I.ok.inj _ _ _ e hc ▸ hi))
    · by_cases hcc : c' = c
      · subst hcc; exact ⟨_, hc'⟩
      · obtain ⟨w2, z2⟩ := I.cell y c' e
        exact ⟨w2, z2.sameBut hs hcc⟩
    · obtain ⟨e, n, ne, nf, d⟩ := I.pin p hp
      refine ⟨(hs.2 p.1 ?_).trans e, n, ne, nf, d⟩
      intro q
      rw [q, hoc] at e
      have q' : oc = p.2 := Option.some.inj e
      exact d w' (by rw [← q']; exact hocd)
theorem store_ok {M : Model} {A : Around} {E : Value → Shared → Prop} {i : Nat} {x : Str} {v : V} {u : Value} {Q : Unit → Shared → Prop} (I : Inv X pins σ H s) (hN : X.N.Nodup) (hi : X.N[i]? = some x) (hx : Loc X.env.scope x) (r : RelV v u)
    (h : ∀ s', Inv X pins (σ.set i (some v)) H s' → Q () s') (hf : X.fn x = true ∨ X.env.scope.names.lookup x = some .local := by first | exact .inl rfl | exact .inr rfl | assumption) : wpAny M A (storeName X.env x u) Q E s :=
  store_ok2 I hN hi hx r (fun s' I' _ => h s' I') hf
theorem Inv.call' {s' : Shared} {ch : List Addr} (I : Inv X pins σ H s) (ho : s'.os = s.os) (u : Un (frs X.stack) ch H H' s.heap s'.heap) (hok : HOk X.prog X.w H' s'.heap) (hg : AllBare s'.gens)
    (hch : ∀ b ∈ ch, (b ∈ X.ex ∨ X.s₀.heap.objs.size ≤ b) ∧ b ≠ X.env.locals ∧ (∀ x c, X.env.cells.lookup x = some c → c ≠ b) ∧ ∀ p ∈ X.pn ++ pins, p.1 ≠ b) : Inv X pins σ H' s' := by
  obtain ⟨h', g', d', t', o'⟩ := s'
  have e : o' = s.os := ho
  subst e
  exact I.call (g' := g') (t' := t') (d' := d') u hok hg hch
end
abbrev XK := Value → Option Addr → Hp → Prop
abbrev St := List (Option V)
abbrev VK := V → Hp → Prop
abbrev TE := St → Hp → VK → Prop
abbrev TT := St → Hp → (Bool → Hp → Prop) → Prop
abbrev TA := St → Hp → (List V → Hp → Prop) → Prop
structure Ends where
  nx : St → Hp → Prop
  rt : VK
  bk : St → Hp → Prop := fun _ _ => False
  ct : St → Hp → Prop := fun _ _ => False
abbrev TS := Ends → St → Hp → Prop
noncomputable def EP (X : Cx) (pins : List (Addr × Obj)) (σ : St) (Q : VK) (u : Value) (s' : Shared) : Prop := ∃ v H', Inv X pins σ H' s' ∧ RelV v u ∧ Q v H'
noncomputable def TP (X : Cx) (pins : List (Addr × Obj)) (σ : St) (Q : Bool → Hp → Prop) (b : Bool) (s' : Shared) : Prop := ∃ H', Inv X pins σ H' s' ∧ Q b H'
noncomputable def AP (X : Cx) (pins : List (Addr × Obj)) (σ : St) (Q : List V → Hp → Prop) (us : List Value) (s' : Shared) : Prop := ∃ vs H', Inv X pins σ H' s' ∧ Vals vs us ∧ Q vs H'
noncomputable def SP (X : Cx) (pins : List (Addr × Obj)) (D : Ends) (f : Flow) (s' : Shared) : Prop :=
  match f with
  | .next => ∃ σ' H', Inv X pins σ' H' s' ∧ D.nx σ' H'
  | .brk => ∃ σ' H', Inv X pins σ' H' s' ∧ D.bk σ' H'
  | .cont => ∃ σ' H', Inv X pins σ' H' s' ∧ D.ct σ' H'
  | .ret u => ∃ v σ' H', Inv X pins σ' H' s' ∧ RelV v u ∧ D.rt v H'
noncomputable def PE (X : Cx) (e : Expr) (t : TE) : Prop :=
  ∀ (pins : List (Addr × Obj)) (s : Shared) (σ : St) (H : Hp) (Q : VK), Inv X pins σ H s → t σ H Q → wpAny (model X.prog X.w) X.A (eval e X.env) (EP X pins σ Q) X.xe s
noncomputable def PT (X : Cx) (e : Expr) (t : TT) : Prop :=
  ∀ (pins : List (Addr × Obj)) (s : Shared) (σ : St) (H : Hp) (Q : Bool → Hp → Prop), Inv X pins σ H s → t σ H Q → wpAny (model X.prog X.w) X.A (isTrue e X.env (eval e X.env)) (TP X pins σ Q) X.xe s
noncomputable def PW (X : Cx) (e : Expr) (t : TT) : Prop :=
  ∀ (whole : Sem Value) (pins : List (Addr × Obj)) (s : Shared) (σ : St) (H : Hp) (Q : Bool → Hp → Prop), Inv X pins σ H s → t σ H Q → wpAny (model X.prog X.w) X.A (isTrue e X.env whole) (TP X pins σ Q) X.xe s
theorem PW.pt {X : Cx} {e : Expr} {t : TT} (h : PW X e t) : PT X e t := h _
noncomputable def PA (X : Cx) (es : List Expr) (t : TA) : Prop :=
  ∀ (pos : Pos) (pins : List (Addr × Obj)) (s : Shared) (σ : St) (H : Hp) (Q : List V → Hp → Prop), Inv X pins σ H s → t σ H Q → wpAny (model X.prog X.w) X.A (spliced (backTo pos (starEach es X.env))) (AP X pins σ Q) X.xe s
noncomputable def PS (X : Cx) (st : Stmt) (t : TS) : Prop :=
  ∀ (pins : List (Addr × Obj)) (s : Shared) (σ : St) (H : Hp) (D : Ends), Inv X pins σ H s → t D σ H → wpAny (model X.prog X.w) X.A (exec st X.env) (SP X pins D) X.xe s
noncomputable def PSs (X : Cx) (st : List Stmt) (t : TS) : Prop :=
  ∀ (pins : List (Addr × Obj)) (s : Shared) (σ : St) (H : Hp) (D : Ends), Inv X pins σ H s → t D σ H → wpAny (model X.prog X.w) X.A (execs st X.env) (SP X pins D) X.xe s
theorem thn {α : Type} {t : Sem α} {Q Q' : α → Shared → Prop} {M : Model} {A : Around} {E : Value → Shared → Prop} {s : Shared} (h : wpAny M A t Q E s) (hQ : ∀ a s, Q a s → Q' a s) : wpAny M A t Q' E s := wpAny_mono h hQ fun _ _ x => x
end L2
namespace L2
open PySem PySem.Spec PyProof.Rows
section
variable {X : Cx}
noncomputable def tVar (i : Nat) : TE := fun σ H Q => ∃ v, σ[i]? = some (some v) ∧ Q v H
noncomputable def tC (v : V) : TE := fun _ H Q => Q v H
theorem pe_var {i : Nat} {x : Str} {pos : Pos} (hN : X.N[i]? = some x) (hv : Vis X.env.scope x) (hd : (x == ("__debug__" : Str)) = false := by decide) (hcd : (x == ("__classdict__" : Str)) = false := by decide) : PE X (.Name x pos) (tVar i) := by
  intro pins s σ H Q I h
  obtain ⟨v, e, h⟩ := h
  obtain ⟨m, hn, hl⟩ := I.loc
  obtain ⟨u, r, l⟩ := hl i x v hN e hv
  have fin : EP X pins σ Q u s := ⟨v, H, I, r, h⟩
  rcases l with ⟨hk, hm⟩ | ⟨hk, c, hc, hcell⟩
  · exact wpAny_Name (wpAny_loadName_local I.ok.kind hk hn hm fin) hd
  · rcases hk with hk | hk
    · exact wpAny_Name (wpAny_loadName_cell I.ok.kind hk hc hcell fin) hd
    · exact wpAny_Name (wpAny_loadName_free I.ok.kind hk hc hcell fin hcd) hd
theorem pe_int {i j pos} : PE X (.Constant (.int i) j pos) (tC (.int i)) := fun _ _ _ H _ I h => wpAny_Constant_int ⟨.int i, H, I.tok _, ⟨_, rfl⟩, h⟩
theorem pe_bl {b j pos} : PE X (.Constant (.bool b) j pos) (tC (.bl b)) := fun _ _ _ H _ I h => Constant_bool ⟨.bl b, H, I, rfl, h⟩
theorem pe_non {j pos} : PE X (.Constant .none j pos) (tC .non) := fun _ _ _ H _ I h => Constant_none ⟨.non, H, I, rfl, h⟩
theorem pe_str {x j pos} : PE X (.Constant (.str x) j pos) (tC (.str x)) := fun _ _ _ H _ I h => Calls.Constant_str ⟨.str x, H, I.tok _, ⟨_, rfl⟩, h⟩
noncomputable def Gl (X : Cx) (x : Str) : Prop := X.env.kindOf x = some .globalImplicit
theorem ld_glob {E : Value → Shared → Prop} {pins : List (Addr × Obj)} {s : Shared} {σ : St} {H : Hp} {x : Str} {u : Value} {pos : Pos} {Q : Value → Shared → Prop} (I : Inv X pins σ H s) (hg : Gl X x) (hm : X.mg x = some u) (h : Q u s)
    (hd : (x == ("__debug__" : Str)) = false := by decide) : wpAny (model X.prog X.w) X.A (eval (.Name x pos) X.env) Q E s :=
  Calls.Name_function_global I.ok.kind hg (Calls.loadGlobal_global (by rw [I.ok.glob]; exact I.mod.glob.keeps I.bk) hm h) hd
theorem ld_blt {E : Value → Shared → Prop} {pins : List (Addr × Obj)} {s : Shared} {σ : St} {H : Hp} {x : Str} {u : Value} {pos : Pos} {Q : Value → Shared → Prop} (I : Inv X pins σ H s) (hg : Gl X x) (hm : X.mg x = none) (hv : bootBuiltins x = some u) (h : Q u s)
    (hn : x ≠ "__name__" := by decide) (hd : (x == ("__debug__" : Str)) = false := by decide) : wpAny (model X.prog X.w) X.A (eval (.Name x pos) X.env) Q E s := by
  obtain ⟨mb, h1, h2⟩ := I.mod.blt
  exact Calls.Name_function_global I.ok.kind hg (Calls.loadGlobal_builtin (by rw [I.ok.glob]; exact I.mod.glob.keeps I.bk) hm (by rw [I.ok.blt]; exact h1.keeps I.bk) ((h2 x hn).trans hv) h) hd
theorem pe_glob {x : Str} {v : V} {u : Value} {pos : Pos} (hg : Gl X x) (hm : X.mg x = some u) (r : RelV v u) (hd : (x == ("__debug__" : Str)) = false := by decide) : PE X (.Name x pos) (tC v) :=
  fun _ _ _ H _ I h => ld_glob I hg hm ⟨v, H, I, r, h⟩ hd
theorem pe_bltn {x : Str} {v : V} {u : Value} {pos : Pos} (hg : Gl X x) (hm : X.mg x = none) (hv : bootBuiltins x = some u) (r : RelV v u) (hn : x ≠ "__name__" := by decide) (hd : (x == ("__debug__" : Str)) = false := by decide) : PE X (.Name x pos) (tC v) :=
  fun _ _ _ H _ I h => ld_blt I hg hm hv ⟨v, H, I, r, h⟩ hn hd
variable {a b : Expr} {ta tb : TE} {pos : Pos}
noncomputable def PC (X : Cx) (op : CmpOp) (a b : Expr) (t : TE) : Prop :=
  ∀ (pins : List (Addr × Obj)) (s : Shared) (σ : St) (H : Hp) (Q : VK), Inv X pins σ H s → t σ H Q →
    wpAny (model X.prog X.w) X.A (eval a X.env) (fun v s₁ => wpAny (model X.prog X.w) X.A (eval b X.env) (fun u s₂ => wpAny (model X.prog X.w) X.A (compareOp op v u) (EP X pins σ Q) X.xe s₂) X.xe s₁) X.xe s
noncomputable def tB (t : TE) : TT := fun σ H Q => t σ H fun x H1 => ∃ c, x = .bl c ∧ Q c H1
theorem pt_cmp {op : CmpOp} {t : TE} (h : PC X op a b t) (h1 : behindInMarks op b = false := by first | exact nobehind _ (by decide) (by decide) | rfl) : PT X (.Compare a [op] [b] pos) (tB t) := by
  intro pins s σ H Q I hw
  refine wpAny_isTrue_Compare1 (thn (h pins s σ H _ I hw) fun v s1 h1 => thn h1 fun u s2 h2 => thn h2 fun c s3 ⟨x, H1, I1, r1, q1⟩ => ?_) h1
  obtain ⟨d, rfl, q⟩ := q1
  cases r1
  exact wpAny_truthy_bool ⟨H1, I1, q⟩
theorem pt_val {e : Expr} {t : TE} (h : PE X e t) (he : ∀ whole, isTrue e X.env whole = (do let v ← whole; standAt e.pos; holding [v] (truthy v)) := by intro _; rfl) : PT X e (tB t) := by
  intro pins s σ H Q I hw
  refine isTrue_plain (thn (h pins s σ H _ I hw) fun v s1 ⟨x, H1, I1, r1, q1⟩ => ?_) (he _)
  obtain ⟨d, rfl, q⟩ := q1
  cases r1
  exact wpAny_truthy_bool ⟨H1, I1, q⟩
variable {tA tB' : TT} {rest : List Expr}
noncomputable def tAnd (t u : TT) : TT := fun σ H Q => t σ H fun c H1 => if c = true then u σ H1 Q else Q false H1
noncomputable def tOr (t u : TT) : TT := fun σ H Q => t σ H fun c H1 => if c = true then Q true H1 else u σ H1 Q
noncomputable def tNot (t : TT) : TT := fun σ H Q => t σ H fun c H1 => Q (!c) H1
theorem pw_and1 (ha : PT X a tA) : PW X (.BoolOp .And [a] pos) tA := by
  intro wh pins s σ H Q I h
  refine isTrue_and (thn (ha pins s σ H Q I h) fun c s1 e => ?_)
  cases c with
  | true => exact isTrue_and_nil e
  | false => exact e
theorem pw_or1 (ha : PT X a tA) : PW X (.BoolOp .Or [a] pos) tA := by
  intro wh pins s σ H Q I h
  refine isTrue_or (thn (ha pins s σ H Q I h) fun c s1 e => ?_)
  cases c with
  | false => exact isTrue_or_nil e
  | true => exact e
theorem pw_and (ha : PT X a tA) (hb : PW X (.BoolOp .And (b :: rest) pos) tB') : PW X (.BoolOp .And (a :: b :: rest) pos) (tAnd tA tB') := by
  intro wh pins s σ H Q I h
  refine isTrue_and (thn (ha pins s σ H _ I h) fun c s1 ⟨H1, I1, q1⟩ => ?_)
  cases c with
  | true => exact hb wh pins s1 σ H1 Q I1 q1
  | false => exact ⟨H1, I1, q1⟩
theorem pw_or (ha : PT X a tA) (hb : PW X (.BoolOp .Or (b :: rest) pos) tB') : PW X (.BoolOp .Or (a :: b :: rest) pos) (tOr tA tB') := by
  intro wh pins s σ H Q I h
  refine isTrue_or (thn (ha pins s σ H _ I h) fun c s1 ⟨H1, I1, q1⟩ => ?_)
  cases c with
  | true => exact ⟨H1, I1, q1⟩
  | false => exact hb wh pins s1 σ H1 Q I1 q1
theorem pt_not (ha : PT X a tA) : PT X (.UnaryOp .Not a pos) (tNot tA) := by
  intro pins s σ H Q I h
  exact isTrue_not (ha pins s σ H (fun c H1 => Q (!c) H1) I h)
noncomputable def tAndV (ta tb : TE) : TE := fun σ H Q => ta σ H fun x H1 => ∃ c, x = .bl c ∧ if c = true then tb σ H1 Q else Q (.bl false) H1
noncomputable def tOrV (ta tb : TE) : TE := fun σ H Q => ta σ H fun x H1 => ∃ c, x = .bl c ∧ if c = true then Q (.bl true) H1 else tb σ H1 Q
theorem pe_one {op} {t : TE} (h : PE X a t) : PE X (.BoolOp op [a] pos) t := fun pins s σ H Q I hw => BoolOp_one (h pins s σ H Q I hw)
theorem pe_and (ha : PE X a ta) (hb : PE X (.BoolOp .And (b :: rest) pos) tb) : PE X (.BoolOp .And (a :: b :: rest) pos) (tAndV ta tb) := by
  intro pins s σ H Q I h
  refine BoolOp_and (thn (ha pins s σ H _ I h) fun v s1 ⟨x, H1, I1, r1, q1⟩ => ?_)
  obtain ⟨c, rfl, q1⟩ := q1
  cases r1
  refine wpAny_truthy_bool ?_
  cases c with
  | true => exact hb pins s1 σ H1 Q I1 q1
  | false => exact ⟨.bl false, H1, I1, rfl, q1⟩
theorem pe_or (ha : PE X a ta) (hb : PE X (.BoolOp .Or (b :: rest) pos) tb) : PE X (.BoolOp .Or (a :: b :: rest) pos) (tOrV ta tb) := by
  intro pins s σ H Q I h
  refine BoolOp_or (thn (ha pins s σ H _ I h) fun v s1 ⟨x, H1, I1, r1, q1⟩ => ?_)
  obtain ⟨c, rfl, q1⟩ := q1
  cases r1
  refine wpAny_truthy_bool ?_
  cases c with
  | false => exact hb pins s1 σ H1 Q I1 q1
  | true => exact ⟨.bl true, H1, I1, rfl, q1⟩
noncomputable def tIf (t : TT) (ta tb : TE) : TE := fun σ H Q => t σ H fun c H1 => if c = true then ta σ H1 Q else tb σ H1 Q
theorem pe_ifExp {c : Expr} (hc : PT X c tA) (ha : PE X a ta) (hb : PE X b tb) : PE X (.IfExp c a b pos) (tIf tA ta tb) := by
  intro pins s σ H Q I h
  refine wpAny_IfExp (thn (hc pins s σ H _ I h) fun d s1 ⟨H1, I1, q1⟩ => ?_)
  cases d with
  | true => exact ha pins s1 σ H1 Q I1 q1
  | false => exact hb pins s1 σ H1 Q I1 q1
end
end L2
namespace L2
open PySem PySem.Spec PyProof.Rows
noncomputable def SqL (K : PySem.W.Frag) (H : Hp) (a : Addr) (xs : List V) : Prop :=
  Rd H a (.lst xs) ∨
    ∃ (o : Obj) (its : Array Value) (n : Nat), K.lookup a = some o ∧ o.cls = .type "list" ∧ o.dict = none ∧ o.data = .seq its n ∧ its.size ≤ sizeLine ∧ Vals xs its.toList
noncomputable def SqT (K : PySem.W.Frag) (H : Hp) (a : Addr) (xs : List V) : Prop :=
  Rd H a (.tup xs) ∨
    ∃ (o : Obj) (its : Array Value) (n : Nat), K.lookup a = some o ∧ o.cls = .type "tuple" ∧ o.data = .seq its n ∧ its.size ≤ sizeLine ∧ Vals xs its.toList
noncomputable def absV : Value → Option V
  | .none => some .non
  | .bool b => some (.bl b)
  | .int i _ => some (.int i)
  | .str x _ => some (.str x)
  | .bytes b _ => some (.byt b)
  | .float b _ => some (.flt b)
  | .ref a => some (.ref a)
  | .type n => some (.ty n)
  | _ => none
theorem RelV.abs {x : V} {u : Value} (r : RelV x u) : absV u = some x := by
  cases x with
  | non => cases r; rfl
  | bl _ => cases r; rfl
  | int _ => obtain ⟨t, rfl⟩ := r; rfl
  | str _ => obtain ⟨t, rfl⟩ := r; rfl
  | byt _ => obtain ⟨t, rfl⟩ := r; rfl
  | flt _ => obtain ⟨t, rfl⟩ := r; rfl
  | ref _ => cases r; rfl
  | ty _ => cases r; rfl
theorem RelV.inj {x y : V} {u : Value} (r : RelV x u) (q : RelV y u) : x = y := Option.some.inj (r.abs.symm.trans q.abs)
theorem Vals.inj : ∀ {xs ys : List V} {us : List Value}, Vals xs us → Vals ys us → xs = ys
  | _, _, _, .nil, .nil => rfl
  | _, _, _, .cons r t, .cons r' t' => by rw [r.inj r', Vals.inj t t']
section
variable {X : Cx} {pins : List (Addr × Obj)} {σ : St} {H : Hp} {s : Shared} {a : Addr} {xs ys : List V}
theorem SqL.of {K : PySem.W.Frag} (h : H a = some (.lst xs)) : SqL K H a xs := .inl (.inl h)
theorem SqT.of {K : PySem.W.Frag} (h : H a = some (.tup xs)) : SqT K H a xs := .inl (.inl h)
theorem Inv.list (I : Inv X pins σ H s) (h : SqL X.K H a xs) : ∃ its : List Value, Vals xs its ∧ PlainL s.heap a its.toArray ∧ xs.length ≤ sizeLine := by
  rcases h with h | ⟨o, its, n, hk, hc, hd, hs, hz, r⟩
  · obtain ⟨z, its, n, r, e⟩ := h.ok I.hok
    exact ⟨its, r, ⟨_, n, e, rfl, rfl, rfl⟩, z⟩
  · refine ⟨its.toList, r, ⟨o, n, I.kIn a o hk, hc, hd, by simpa using hs⟩, ?_⟩
    have e := r.length
    simp only [Array.length_toList] at e
    omega
theorem Inv.tuple (I : Inv X pins σ H s) (h : SqT X.K H a xs) : ∃ its : List Value, Vals xs its ∧ IsTup s.heap a its.toArray ∧ xs.length ≤ sizeLine := by
  rcases h with h | ⟨o, its, n, hk, hc, hs, hz, r⟩
  · obtain ⟨z, its, r, p⟩ := h.ok I.hok
    exact ⟨its, r, p, z⟩
  · refine ⟨its.toList, r, ⟨o, I.kIn a o hk, hc, n, by simpa using hs⟩, ?_⟩
    have e := r.length
    simp only [Array.length_toList] at e
    omega
theorem Inv.list_inj (I : Inv X pins σ H s) (h : SqL X.K H a xs) (h' : SqL X.K H a ys) : xs = ys := by
  obtain ⟨its, r, ⟨o, n, e, _, _, d⟩, _⟩ := I.list h
  obtain ⟨its', r', ⟨o', n', e', _, _, d'⟩, _⟩ := I.list h'
  rw [e] at e'; cases e'
  rw [d] at d'
  injection d' with d1 _
  have : its = its' := by simpa using congrArg Array.toList d1
  subst this
  exact r.inj r'
end
abbrev Cx.wish (X : Cx) (E : Value → Shared → Prop) : Cx := { X with xe := E }
abbrev Cx.nox (X : Cx) : Cx := X.wish fun _ _ => False
theorem Cx.Ok.wish {X : Cx} (ok : X.Ok) (E : Value → Shared → Prop) : (X.wish E).Ok :=
  ⟨ok.mod, ok.kind, ok.glob, ok.blt, ok.above, ok.inj, ok.has, ok.cab, ok.hd, ok.frames, ok.stk, ok.exf, ok.bs, ok.bsz, ok.noex, ok.exfs, ok.funs, ok.frf⟩
theorem Cx.Ok.unwish {X : Cx} {E : Value → Shared → Prop} (ok : (X.wish E).Ok) : X.Ok :=
  ⟨ok.mod, ok.kind, ok.glob, ok.blt, ok.above, ok.inj, ok.has, ok.cab, ok.hd, ok.frames, ok.stk, ok.exf, ok.bs, ok.bsz, ok.noex, ok.exfs, ok.funs, ok.frf⟩
section
variable {X : Cx} {pins : List (Addr × Obj)} {σ : St} {H : Hp} {s : Shared} {E : Value → Shared → Prop}
theorem Inv.wish (I : Inv X pins σ H s) (E : Value → Shared → Prop) : Inv (X.wish E) pins σ H s := ⟨I.ok.wish E, I.os, I.bare, I.base, I.loc, I.cell, I.free, I.freeC, I.pin, I.hok, I.len⟩
theorem Inv.unwish (I : Inv (X.wish E) pins σ H s) : Inv X pins σ H s := ⟨I.ok.unwish, I.os, I.bare, I.base, I.loc, I.cell, I.free, I.freeC, I.pin, I.hok, I.len⟩
theorem SP.unwish {D : Ends} {f : Flow} {s' : Shared} (h : SP (X.wish E) pins D f s') : SP X pins D f s' := by
  cases f with
  | next => obtain ⟨σ', H', I, q⟩ := h; exact ⟨σ', H', I.unwish, q⟩
  | brk => obtain ⟨σ', H', I, q⟩ := h; exact ⟨σ', H', I.unwish, q⟩
  | cont => obtain ⟨σ', H', I, q⟩ := h; exact ⟨σ', H', I.unwish, q⟩
  | ret u => obtain ⟨v, σ', H', I, r, q⟩ := h; exact ⟨v, σ', H', I.unwish, r, q⟩
theorem PSs.nox {st : List Stmt} {t : TS} (h : PSs X.nox st t) : PSs X st t := fun pins s σ H D I hw =>
  wpAny_mono (h pins s σ H D (I.wish _) hw) (fun _ _ q => q.unwish) fun _ _ z => False.elim z
end
section
variable {X : Cx} {st : Stmt} {rest : List Stmt} {t u : TS} {e : Expr} {te : TE} {pos : Pos}
noncomputable def tNext : TS := fun D σ H => D.nx σ H
noncomputable def tSeq (t u : TS) : TS := fun D σ H => t { D with nx := u D } σ H
theorem pss_nil : PSs X [] tNext := fun _ _ σ H _ I h => wpAny_execs_nil ⟨σ, H, I, h⟩
theorem pss_cons (h1 : PS X st t) (h2 : PSs X rest u) : PSs X (st :: rest) (tSeq t u) := by
  intro pins s σ H D I h
  refine wpAny_execs_cons (thn (h1 pins s σ H { D with nx := u D } I h) fun f s1 q => ?_)
  cases f with
  | next =>
    obtain ⟨σ', H', I', q⟩ := q
    exact h2 pins s1 σ' H' D I' q
  | ret v => exact q
  | brk => exact q
  | cont => exact q
theorem pss_one (h1 : PS X st t) : PSs X [st] t := by
  intro pins s σ H D I h
  refine wpAny_execs_cons (thn (h1 pins s σ H D I h) fun f s1 q => ?_)
  cases f with
  | next => exact wpAny_execs_nil q
  | ret v => exact q
  | brk => exact q
  | cont => exact q
theorem Inv.quiet {pins : List (Addr × Obj)} {σ : St} {H : Hp} {s : Shared} (I : Inv X pins σ H s) : interactive X.env = false := by simp [interactive, I.ok.kind]
noncomputable def tDrop (te : TE) : TS := fun D σ H => te σ H fun _ H1 => D.nx σ H1
theorem ps_expr (he : PE X e te) (hs : swapsWith e none pos.line X.env = pure false := by rfl) : PS X (.Expr e pos) (tDrop te) := by
  intro pins s σ H D I h
  exact wpAny_Expr_any (thn (he pins s σ H _ I h) fun v s1 ⟨x, H1, I1, r1, q1⟩ => ⟨σ, H1, I1, q1⟩) I.quiet hs
noncomputable def tRet (te : TE) : TS := fun D σ H => te σ H D.rt
theorem ps_ret (he : PE X e te) : PS X (.Return (some e) pos) (tRet te) := by
  intro pins s σ H D I h
  exact wpAny_Return_some (thn (he pins s σ H _ I h) fun v s1 ⟨x, H1, I1, r1, q1⟩ => ⟨x, σ, H1, I1, r1, q1⟩)
noncomputable def tIfS (c : TT) (t u : TS) : TS := fun D σ H => c σ H fun b H1 => if b = true then t D σ H1 else u D σ H1
theorem ps_if {c : Expr} {a b : List Stmt} {tc : TT} (hc : PT X c tc) (ha : PSs X a t) (hb : PSs X b u) : PS X (.If c a b pos) (tIfS tc t u) := by
  intro pins s σ H D I h
  refine wpAny_If (thn (hc pins s σ H _ I h) fun d s1 ⟨H1, I1, q1⟩ => ?_)
  cases d with
  | true => exact ha pins s1 σ H1 D I1 q1
  | false => exact hb pins s1 σ H1 D I1 q1
noncomputable def tNever : TS := fun _ _ _ => False
theorem ps_never : PS X st tNever := fun _ _ _ _ _ _ h => h.elim
end
abbrev TG := V → St → Hp → (St → Hp → Prop) → Prop
abbrev TGs := List V → St → Hp → (St → Hp → Prop) → Prop
noncomputable def PG (X : Cx) (target : Expr) (t : TG) : Prop :=
  ∀ (pins : List (Addr × Obj)) (s : Shared) (σ : St) (H : Hp) (v : V) (u : Value) (Q : St → Hp → Prop), Inv X pins σ H s → RelV v u → t v σ H Q →
    wpAny (model X.prog X.w) X.A (assign target X.env u) (fun _ s' => ∃ σ' H', Inv X pins σ' H' s' ∧ Q σ' H') X.xe s
noncomputable def PGs (X : Cx) (ts : List Expr) (t : TGs) : Prop :=
  ∀ (pins : List (Addr × Obj)) (s : Shared) (σ : St) (H : Hp) (vs : List V) (us : List Value) (Q : St → Hp → Prop), Inv X pins σ H s → Vals vs us → t vs σ H Q →
    wpAny (model X.prog X.w) X.A (assignInOrder ((assignEach ts X.env).map (·.2)) us) (fun _ s' => ∃ σ' H', Inv X pins σ' H' s' ∧ Q σ' H') X.xe s
abbrev TSet := V → V → V → Hp → (Hp → Prop) → Prop
noncomputable def PSet (X : Cx) (t : TSet) : Prop :=
  ∀ (pins : List (Addr × Obj)) (s : Shared) (σ : St) (H : Hp) (o i v : V) (ov iv u : Value) (Q : Hp → Prop), Inv X pins σ H s → RelV o ov → RelV i iv → RelV v u → t o i v H Q →
    wpAny (model X.prog X.w) X.A (setItem ov iv u) (fun _ s' => ∃ H', Inv X pins σ H' s' ∧ Q H') X.xe s
section
variable {X : Cx} {pos : Pos}
noncomputable def gName (i : Nat) : TG := fun v σ H Q => Q (σ.set i (some v)) H
theorem pg_name {i : Nat} {x : Str} (hN : X.N.Nodup) (hi : X.N[i]? = some x) (hx : Loc X.env.scope x) (hf : X.fn x = true ∨ X.env.scope.names.lookup x = some .local := by first | exact .inl rfl | exact .inr rfl | assumption) : PG X (.Name x pos) (gName i) := by
  intro pins s σ H v u Q I r h
  exact wpAny_assign_Name (store_ok I hN hi hx r (fun s' I' => ⟨_, H, I', h⟩) hf)
noncomputable def gNil : TGs := fun vs σ H Q => vs = [] ∧ Q σ H
noncomputable def gCons (t : TG) (u : TGs) : TGs := fun vs σ H Q => ∃ v r, vs = v :: r ∧ t v σ H fun σ' H' => u r σ' H' Q
theorem pgs_nil : PGs X [] gNil := by
  intro pins s σ H vs us Q I r h
  obtain ⟨e, h⟩ := h
  subst e
  cases r
  exact assignInOrder_nil ⟨σ, H, I, h⟩
theorem pgs_cons {e : Expr} {es : List Expr} {t : TG} {u : TGs} (h1 : PG X e t) (h2 : PGs X es u)
    (hs : (assignEach (e :: es) X.env).map (·.2) = assign e X.env :: (assignEach es X.env).map (·.2) := by rfl) : PGs X (e :: es) (gCons t u) := by
  intro pins s σ H vs us Q I r h
  obtain ⟨v, vr, e1, h⟩ := h
  subst e1
  cases r with
  | cons r rr =>
    rw [hs]
    refine assignInOrder_cons (thn (h1 pins s σ H _ _ _ I r h) fun _ s1 ⟨σ1, H1, I1, q1⟩ => ?_)
    exact h2 pins s1 σ1 H1 _ _ Q I1 rr q1
noncomputable def gTup (K : PySem.W.Frag) (n : Nat) (t : TGs) : TG := fun v σ H Q => ∃ a xs, v = .ref a ∧ SqT K H a xs ∧ xs.length = n ∧ t xs σ H Q
theorem pg_tup {es : List Expr} {k : Nat} {t : TGs} {n : Nat} (hc : X.calm = true) (h : PGs X es t)
    (hn : (assignEach es X.env).length = n := by rfl) (hst : (assignEach es X.env).findIdx? (·.1) = none := by rfl) : PG X (.Tuple es k pos) (gTup X.K n t) := by
  intro pins s σ H v u Q I r hw
  obtain ⟨a, xs, e1, hq, hl, hw⟩ := hw
  subst e1
  cases r
  obtain ⟨its, rv, ht, hz⟩ := I.tuple hq
  refine assign_Tuple_tuple (I.ok.hd hc) ht (by simp [hn, ← hl, rv.length]) hst fun h' hx => ?_
  have I1 : Inv X pins σ H { s with heap := h' } := I.kept (t' := s.toks) fun b o e => hx b o (Nat.ne_of_lt (Heap.lt_size e)) e
  exact h pins _ σ H xs _ Q I1 (by simpa using rv) hw
noncomputable def gSub (to ti : TE) (t : TSet) : TG := fun v σ H Q => to σ H fun o H1 => ti σ H1 fun i H2 => t o i v H2 fun H3 => Q σ H3
theorem pg_sub {o i : Expr} {to ti : TE} {t : TSet} (ho : PE X o to) (hi : PE X i ti) (hs : PSet X t)
    (ha : ∀ v, assign (.Subscript o i pos) X.env v = (do
      let ov ← holding [v] (eval o X.env)
      let iv ← holding [v, ov] (eval i X.env)
      standAt pos
      holding [v, ov, iv] (setItem ov iv v)
      release [v, ov, iv] []) := by intro _; rfl) : PG X (.Subscript o i pos) (gSub to ti t) := by
  intro pins s σ H v u Q I r h
  rw [ha]
  refine wpAny_bind (wpAny_holding (thn (ho pins s σ H _ I h) fun ov s1 ⟨x, H1, I1, r1, q1⟩ => ?_))
  refine wpAny_bind (wpAny_holding (thn (hi pins s1 σ H1 _ I1 q1) fun iv s2 ⟨y, H2, I2, r2, q2⟩ => ?_))
  refine wpAny_bind (wpAny_standAt (wpAny_bind (wpAny_holding (thn (hs pins s2 σ H2 x y v ov iv u _ I2 r1 r2 r q2) fun _ s3 ⟨H3, I3, q3⟩ => ?_))))
  exact wpAny_release ⟨σ, H3, I3, q3⟩
noncomputable def tAsg (te : TE) (g : TG) : TS := fun D σ H => te σ H fun x H1 => g x σ H1 D.nx
theorem ps_asg {tg e : Expr} {te : TE} {g : TG} (he : PE X e te) (hg : PG X tg g) (hs : swapsWithSole [tg] e pos.line X.env = pure false := by rfl) (hw : swappedStores [tg] e X.env = pure none := by rfl)
    (h1 : (assignEach [tg] X.env).map (·.2) = [assign tg X.env] := by rfl) : PS X (.Assign [tg] e pos) (tAsg te g) := by
  intro pins s σ H D I h
  refine wpAny_Assign_stores (thn (he pins s σ H _ I h) fun v s1 ⟨x, H1, I1, r1, q1⟩ => ?_) hs hw
  rw [h1]
  exact thn (hg pins s1 σ H1 x v _ I1 r1 q1) fun _ s2 q => q
theorem ps_set {i : Nat} {x : Str} {e : Expr} {te : TE} {pos' : Pos} (hN : X.N.Nodup) (hi : X.N[i]? = some x) (hx : Loc X.env.scope x) (he : PE X e te) (hs : swapsWith e (some (.Name x pos')) pos.line X.env = pure false := by rfl) (hf : X.fn x = true ∨ X.env.scope.names.lookup x = some .local := by first | exact .inl rfl | exact .inr rfl | assumption) :
    PS X (.Assign [.Name x pos'] e pos) (tAsg te (gName i)) := by
  intro pins s σ H D I h
  refine wpAny_Assign_Name (thn (he pins s σ H _ I h) fun v s1 ⟨y, H1, I1, r1, q1⟩ => ?_) hs
  exact store_ok I1 hN hi hx r1 (fun s2 I2 => ⟨_, H1, I2, q1⟩) hf
end
section
variable {X : Cx} {pos : Pos}
noncomputable def tWhile (c : TT) (tb : TS) : TS := fun D σ H => ∃ W : Nat → St → Hp → Prop, (∃ m, W m σ H) ∧ ∀ m σ H, W m σ H →
  c σ H fun b H1 => if b = true then ∃ N : St → Hp → Prop, (∀ σ' H', N σ' H' → ∃ m', m' < m ∧ W m' σ' H') ∧ tb { D with nx := N, ct := N, bk := D.nx } σ H1 else D.nx σ H1
theorem ps_while {c : Expr} {body : List Stmt} {tc : TT} {tb : TS} (hp : PassesOwn (model X.prog X.w) X.A X.env X.xe) (hc : PT X c tc) (hb : PSs X body tb) : PS X (.While c body [] pos) (tWhile tc tb) := by
  intro pins s σ H D I h
  obtain ⟨W, ⟨m0, w0⟩, turn⟩ := h
  refine wpAny_While (codeAny_whileLoop (fun n s' => ∃ σ' H', Inv X pins σ' H' s' ∧ W n σ' H') ?_ m0 ⟨σ, H, I, w0⟩)
  rintro n s1 ⟨σ1, H1, I1, w1⟩
  refine wpAny_passesOwn hp (thn (hc pins s1 σ1 H1 _ I1 (turn n σ1 H1 w1)) fun b s2 ⟨H2, I2, q2⟩ => ?_)
  cases b with
  | true =>
    obtain ⟨N, hN, q2⟩ := q2
    rw [if_pos rfl]
    refine wpAny_passesOwn hp (thn (hb pins s2 σ1 H2 _ I2 q2) fun f s3 q3 => ?_)
    cases f with
    | next =>
      obtain ⟨σ3, H3, I3, n3⟩ := q3
      obtain ⟨m', hm, w3⟩ := hN σ3 H3 n3
      exact ⟨m', hm, σ3, H3, I3, w3⟩
    | cont =>
      obtain ⟨σ3, H3, I3, n3⟩ := q3
      obtain ⟨m', hm, w3⟩ := hN σ3 H3 n3
      exact ⟨m', hm, σ3, H3, I3, w3⟩
    | brk => exact q3
    | ret v => exact q3
  | false =>
    rw [if_neg Bool.false_ne_true]
    exact wpAny_execs_nil ⟨σ1, H2, I2, q2⟩
end
structure It where
  go : Nat → Hp → Prop
  yld : Nat → Hp → V → Hp → Prop
  stop : Nat → Hp → Prop
noncomputable def FpOk (X : Cx) (pins : List (Addr × Obj)) (H : Hp) (b : Addr) : Prop :=
  H b = none ∧ b ≠ X.env.locals ∧ b ∉ X.fs ∧ (b ∈ X.ex ∨ X.s₀.heap.objs.size ≤ b) ∧ (∀ x c, X.env.cells.lookup x = some c → c ≠ b) ∧ ∀ p ∈ X.pn ++ pins, p.1 ≠ b
theorem Inv.fpOk {X : Cx} {pins : List (Addr × Obj)} {σ : St} {H H' : Hp} {s : Shared} {b : Addr} (I : Inv X pins σ H s) (hb : s.heap.objs.size ≤ b) (hn : H' b = none) : FpOk X pins H' b := by
  refine ⟨hn, Nat.ne_of_gt (Nat.lt_of_lt_of_le I.lt hb), I.nofs hb, .inr (Nat.le_trans I.sz hb), fun x c e z => ?_, fun p hp z => ?_⟩
  · obtain ⟨v, q⟩ := I.cell x c e
    exact absurd (Nat.lt_of_lt_of_le q.lt (by rw [z]; exact hb)) (Nat.lt_irrefl _)
  · exact absurd (Nat.lt_of_lt_of_le (Heap.lt_size (I.pin p hp).1) (by rw [z]; exact hb)) (Nat.lt_irrefl _)
structure Turn (P : Program) (w : World) (K : PySem.W.Frag) (tg : Expr) (J : It) (fp : List Addr) (it : Addr) (tn : Nat → Heap → Prop) : Prop where
  mem : it ∈ fp
  obj : ∀ i h, tn i h → ∀ b ∈ fp, ∃ o, h.get? b = some o ∧ ∀ v, o.data ≠ .cell v
  keep : ∀ i h h', tn i h → (∀ b ∈ fp, ∀ o, h.get? b = some o → h'.get? b = some o) → tn i h'
  item : ∀ (X : Cx), X.prog = P → X.w = w → X.K = K → X.calm = true → ∀ (i : Nat) (pins : List (Addr × Obj)) (s : Shared) (σ : St) (H : Hp) (E : Value → Shared → Prop), Inv X pins σ H s → (∀ b ∈ fp, FpOk X pins H b) → tn i s.heap → J.go i H →
    wpAny (model P w) X.A (pyNext (.ref it)) (fun r s1 => ∃ u, r = some u ∧
      wpAny (model P w) X.A (letOwnedTupleGo tg (.ref it) u) (fun _ s2 => ∃ x H', Inv X pins σ H' s2 ∧ RelV x u ∧ J.yld i H x H' ∧ tn (i + 1) s2.heap ∧ ∀ b ∈ fp, H' b = none) E s1) E s
  done : ∀ (X : Cx), X.prog = P → X.w = w → X.K = K → X.calm = true → ∀ (i : Nat) (pins : List (Addr × Obj)) (s : Shared) (σ : St) (H : Hp) (E : Value → Shared → Prop), Inv X pins σ H s → (∀ b ∈ fp, FpOk X pins H b) → tn i s.heap → J.stop i H →
    wpAny (model P w) X.A (pyNext (.ref it)) (fun r s1 => r = none ∧ Inv X pins σ H s1) E s
  self : ∀ (A : Around) (i : Nat) (s : Shared) (Q : Value → Shared → Prop) (E : Value → Shared → Prop), tn i s.heap → Q (.ref it) s → wpAny (model P w) A (pyIter (.ref it)) Q E s
abbrev TI := St → Hp → (It → Hp → Prop) → Prop
noncomputable def PIE (X : Cx) (pins : List (Addr × Obj)) (σ : St) (tg : Expr) (R : It → Hp → Prop) (itv : Value) (s2 : Shared) : Prop :=
  ∃ (it : Addr) (fp : List Addr) (tn : Nat → Heap → Prop) (J : It) (H' : Hp), itv = .ref it ∧ Inv X pins σ H' s2 ∧ Turn X.prog X.w X.K tg J fp it tn ∧ tn 0 s2.heap ∧ (∀ b ∈ fp, FpOk X pins H' b) ∧ R J H'
noncomputable def PI (X : Cx) (tg iter : Expr) (wi : TI) : Prop :=
  ∀ (pins : List (Addr × Obj)) (s : Shared) (σ : St) (H : Hp) (R : It → Hp → Prop), Inv X pins σ H s → wi σ H R →
    wpAny (model X.prog X.w) X.A (eval iter X.env) (fun v s1 => wpAny (model X.prog X.w) X.A (pyIter v) (PIE X pins σ tg R) X.xe s1) X.xe s
theorem go_of {M : Model} {A : Around} {E : Value → Shared → Prop} {s : Shared} {tg : Expr} {it : Addr} {u : Value} {o : Obj} {n : String} {vs : Array Value} {Q : Unit → Shared → Prop} (ho : s.heap.get? it = some o) (hc : o.cls = .type n) (hd : o.data = .fields vs)
    (hn : ["enumerate", "zip", "dict_itemiterator", "dict_reverseitemiterator", "odict_iterator", "itertools.zip_longest", "itertools.pairwise"].contains n = false) (hQ : Q () s) : wpAny M A (letOwnedTupleGo tg (.ref it) u) Q E s := by
  unfold letOwnedTupleGo
  cases tg <;> first
    | exact wpAny_pure hQ
    | (cases u <;> first
        | exact wpAny_pure hQ
        | (refine wpAny_bind (wpAny_load ho ?_)
           rw [hc, hd]
           show wpAny M A (if (["enumerate", "zip", "dict_itemiterator", "dict_reverseitemiterator", "odict_iterator", "itertools.zip_longest", "itertools.pairwise"].contains n && vs[0]? == some (rawInt _)) = true then _ else _) Q E s
           rw [if_neg (by intro h; rw [hn, Bool.false_and] at h; cases h)]
           exact wpAny_pure hQ))
noncomputable def Itl (K : PySem.W.Frag) (a : Addr) : It :=
  ⟨fun i H => ∃ xs x, SqL K H a xs ∧ xs[i]? = some x, fun i H x H' => H' = H ∧ ∀ xs, SqL K H a xs → xs[i]? = some x, fun i H => ∃ xs, SqL K H a xs ∧ xs.length ≤ i⟩
noncomputable def Itr (lo : Int) (n : Nat) : It := ⟨fun i _ => i < n, fun i H x H' => H' = H ∧ x = .int (lo + i), fun i _ => n ≤ i⟩
theorem turn_list {P : Program} {w : World} {K : PySem.W.Frag} {tg : Expr} (a it : Addr) : Turn P w K tg (Itl K a) [it] it (fun i h => h.IsListIter it a i) where
  mem := by simp
  obj := fun i h st b hb => by
    have e : b = it := by simpa using hb
    subst e
    obtain ⟨o, e, c, d⟩ := st
    exact ⟨o, e, fun v z => by rw [d] at z; cases z⟩
  keep := fun i h h' st k => st.at fun o e => k it (by simp) o e
  item := by
    intro X hP hw hK hc i pins s σ H E I hf st hg
    subst hP hw hK
    obtain ⟨xs, x, hq, hx⟩ := hg
    obtain ⟨its, rv, p, hz⟩ := I.list hq
    obtain ⟨u, hu, ru⟩ := rv.get hx
    obtain ⟨f0, f1, f2, f3, f4, f5⟩ := hf it (by simp)
    refine wpAny_pyNext_list_item st p.isList (x := u) (by simpa using hu) fun h' st' sb => ?_
    have I1 : Inv X pins σ H { s with heap := h' } := I.turned (t' := s.toks) (fun b o hb e => (sb.2 b hb).trans e) f0 f1 f3 f4 f5
    obtain ⟨o, e, c, d⟩ := id st'
    exact ⟨u, rfl, go_of (s := { s with heap := h' }) e c d (by decide) ⟨x, H, I1, ru, ⟨rfl, fun ys hy => by rw [I.list_inj hy hq]; exact hx⟩, st', fun b hb => (hf b hb).1⟩⟩
  done := by
    intro X hP hw hK hc i pins s σ H E I hf st hg
    subst hP hw hK
    obtain ⟨xs, hq, hx⟩ := hg
    obtain ⟨its, rv, p, hz⟩ := I.list hq
    obtain ⟨f0, f1, f2, f3, f4, f5⟩ := hf it (by simp)
    have hl := rv.length
    exact wpAny_pyNext_list_end (I.ok.hd hc) st p.isList (by simp; omega) fun h' eb => ⟨rfl, I.turned (t' := s.toks) (fun b o hb e => eb b o hb e) f0 f1 f3 f4 f5⟩
  self := fun _ _ _ _ _ st h => wpAny_pyIter_listiter st h
theorem turn_range {P : Program} {w : World} {K : PySem.W.Frag} {tg : Expr} (it : Addr) (lo : Int) (n : Nat) : Turn P w K tg (Itr lo n) [it] it (fun i h => IsRangeIter h it (lo + (i : Nat) * 1) ((n : Int) - (i : Nat)) 1) where
  mem := by simp
  obj := fun i h st b hb => by
    have e : b = it := by simpa using hb
    subst e
    exact ⟨_, st, fun v z => by
      have z' : Data.fields _ = Data.cell v := z
      cases z'⟩
  keep := fun i h h' st k => k it (by simp) _ st
  item := by
    intro X hP hw hK hc i pins s σ H E I hf st hg
    subst hP hw hK
    obtain ⟨f0, f1, f2, f3, f4, f5⟩ := hf it (by simp)
    have W := Walks.range (prog := X.prog) (w := X.w) (I.ok.hd hc) it lo 1 n
    refine W.item i s _ _ hg st fun v h' tk hv st' kk => ?_
    obtain ⟨t, rfl⟩ := hv
    have I1 : Inv X pins σ H { s with heap := h', toks := tk } := I.turned (fun b o hb e => kk b o (by simpa using hb) e) f0 f1 f3 f4 f5
    refine ⟨_, rfl, go_of (s := { s with heap := h', toks := tk }) (n := "range_iterator") st' rfl rfl (by decide) ⟨.int (lo + i), H, I1, ⟨t, ?_⟩, ⟨rfl, rfl⟩, st', fun b hb => (hf b hb).1⟩⟩
    rw [Int.mul_one]
  done := by
    intro X hP hw hK hc i pins s σ H E I hf st hg
    subst hP hw hK
    obtain ⟨f0, f1, f2, f3, f4, f5⟩ := hf it (by simp)
    exact wpAny_pyNext_range_end (I.ok.hd hc) st (by have : n ≤ i := hg; omega) fun h' eb => ⟨rfl, I.turned (t' := s.toks) (fun b o hb e => eb b o hb e) f0 f1 f3 f4 f5⟩
  self := fun _ _ _ _ _ st h => wpAny_pyIter_rangeiter st h
end L2
namespace L2
open PySem PySem.Spec PyProof.Rows
section
variable {X : Cx} {tg : Expr}
noncomputable def iList (K : PySem.W.Frag) (tl : TE) : TI := fun σ H R => tl σ H fun x H1 => ∃ a, x = .ref a ∧ (∃ xs, SqL K H1 a xs) ∧ R (Itl K a) H1
theorem pi_list {l : Expr} {tl : TE} (hl : PE X l tl) : PI X tg l (iList X.K tl) := by
  intro pins s σ H R I h
  refine thn (hl pins s σ H _ I h) fun v s1 ⟨x, H1, I1, r1, q1⟩ => ?_
  obtain ⟨a, e, ⟨xs, hq⟩, q⟩ := q1
  subst e
  cases r1
  obtain ⟨its, rv, p, hz⟩ := I1.list hq
  refine wpAny_pyIter_list p.isList ?_
  refine ⟨s1.heap.objs.size, [s1.heap.objs.size], _, _, H1, rfl, I1.kept (t' := s1.toks) fun b o e => Heap.get?_push_of_some _ e, turn_list a _, ⟨_, Heap.get?_push_size _ rfl, rfl, rfl⟩, fun b hb => ?_, q⟩
  have e : b = s1.heap.objs.size := by simpa using hb
  subst e
  exact I1.fpOk (Nat.le_refl _) (I1.hok.fresh (Nat.le_refl _))
theorem range_it {pins : List (Addr × Obj)} {σ : St} {H : Hp} {s : Shared} {R : It → Hp → Prop} {E : Value → Shared → Prop} {lo hi : Int} {t u v : Tok} {tk : Nat} (I : Inv X pins σ H s) (h1 : -(2 ^ 62) ≤ lo) (h2 : lo < 2 ^ 62) (h3 : -(2 ^ 62) ≤ hi) (h4 : hi < 2 ^ 62)
    (q : R (Itr lo (hi - lo).toNat) H) : wpAny (model X.prog X.w) X.A (pyIter (.ref s.heap.objs.size)) (PIE X pins σ tg R) E { s with heap := s.heap.push { cls := .type "range", data := .fields #[.int lo t, .int hi u, .int 1 v] }, toks := tk } := by
  refine wpAny_pyIter_range (IsRange.new ..) (small_one h1 h2 h3 h4) ?_
  have I1 : Inv X pins σ H { s with heap := s.heap.push { cls := .type "range", data := .fields #[.int lo t, .int hi u, .int 1 v] }, toks := tk } := I.kept fun b o e => Heap.get?_push_of_some _ e
  refine ⟨(s.heap.push { cls := .type "range", data := .fields #[.int lo t, .int hi u, .int 1 v] }).objs.size, [(s.heap.push { cls := .type "range", data := .fields #[.int lo t, .int hi u, .int 1 v] }).objs.size], _, _, H, rfl,
    I1.kept (t' := tk) fun b o e => Heap.get?_push_of_some _ e, turn_range _ lo (hi - lo).toNat, ?_, fun b hb => ?_, q⟩
  · have e1 : lo + ((0 : Nat) : Int) * 1 = lo := by simp
    have e2 : (((hi - lo).toNat : Nat) : Int) - ((0 : Nat) : Int) = Builtin.Range.rangeSize lo hi 1 := by rw [rangeSize_one]; split <;> omega
    show IsRangeIter _ _ (lo + ((0 : Nat) : Int) * 1) ((((hi - lo).toNat : Nat) : Int) - ((0 : Nat) : Int)) 1
    rw [e1, e2]
    exact Heap.get?_push_size _ rfl
  · have e : b = (s.heap.push { cls := .type "range", data := .fields #[.int lo t, .int hi u, .int 1 v] }).objs.size := by simpa using hb
    subst e
    exact I1.fpOk (Nat.le_refl _) (I1.hok.fresh (Nat.le_refl _))
noncomputable def iRng1 (ta : TA) : TI := fun σ H R => ta σ H fun vs H1 => ∃ j : Int, vs = [.int j] ∧ -(2 ^ 62) ≤ j ∧ j < 2 ^ 62 ∧ R (Itr 0 j.toNat) H1
noncomputable def iRng2 (ta : TA) : TI := fun σ H R => ta σ H fun vs H1 => ∃ i j : Int, vs = [.int i, .int j] ∧ (-(2 ^ 62) ≤ i ∧ i < 2 ^ 62 ∧ -(2 ^ 62) ≤ j ∧ j < 2 ^ 62) ∧ R (Itr i (j - i).toNat) H1
theorem pi_range1 {a : Expr} {ta : TA} {p pos : Pos} (hg : Gl X "range") (hm : X.mg "range" = none) (ha : PA X [a] ta) (hs : starEach [a] X.env = [(false, eval a X.env)] := by rfl) : PI X tg (.Call (.Name "range" p) [a] [] pos) (iRng1 ta) := by
  intro pins s σ H R I h
  refine Call_ (ld_blt I hg hm boot_range (PyProof.Rows.callWith_type1 (thn (ha pos pins s σ H _ I h) fun us s1 ⟨vs, H1, I1, r1, q1⟩ => ?_) hs rfl))
  obtain ⟨j, e, q1, q2, q⟩ := q1
  subst e
  cases r1 with
  | cons r rr =>
    cases rr
    obtain ⟨t, rfl⟩ := r
    exact call_range_1 (range_it I1 (by omega) (by omega) q1 q2 (by simpa using q))
theorem pi_range2 {a b : Expr} {ta : TA} {p pos : Pos} (hg : Gl X "range") (hm : X.mg "range" = none) (ha : PA X [a, b] ta) (hs : starEach [a, b] X.env = [(false, eval a X.env), (false, eval b X.env)] := by rfl) (hs2 : starEach [b] X.env = [(false, eval b X.env)] := by rfl) :
    PI X tg (.Call (.Name "range" p) [a, b] [] pos) (iRng2 ta) := by
  intro pins s σ H R I h
  refine Call_ (ld_blt I hg hm boot_range (PyProof.Rows.callWith_type1 (thn (ha pos pins s σ H _ I h) fun us s1 ⟨vs, H1, I1, r1, q1⟩ => ?_) (by rw [hs, hs2]) (by rw [hs2]; rfl)))
  obtain ⟨i, j, e, ⟨q1, q2, q3, q4⟩, q⟩ := q1
  subst e
  cases r1 with
  | cons r rr =>
    cases rr with
    | cons r' rr =>
      cases rr
      obtain ⟨t, rfl⟩ := r
      obtain ⟨t', rfl⟩ := r'
      exact call_range_2 (range_it I1 q1 q2 q3 q4 q)
noncomputable def tFor (wi : TI) (g : TG) (tb : TS) : TS := fun D σ H => wi σ H fun J H1 => ∃ W : Nat → Nat → St → Hp → Prop, (∃ m, W 0 m σ H1) ∧ ∀ i m σ H, W i m σ H →
  (J.stop i H ∧ D.nx σ H) ∨ (J.go i H ∧ ∃ N : St → Hp → Prop, (∀ σ' H', N σ' H' → ∃ m', m' < m ∧ W (i + 1) m' σ' H') ∧ ∀ x H', J.yld i H x H' → g x σ H' fun σ2 H2 => tb { D with nx := N, ct := N, bk := D.nx } σ2 H2)
noncomputable def pinsAt (fp : List Addr) (h : Heap) : List (Addr × Obj) := fp.filterMap fun b => (h.get? b).map fun o => (b, o)
theorem mem_pinsAt {fp : List Addr} {h : Heap} {b : Addr} {o : Obj} (hb : b ∈ fp) (e : h.get? b = some o) : (b, o) ∈ pinsAt fp h := List.mem_filterMap.mpr ⟨b, hb, by rw [e]; rfl⟩
theorem of_pinsAt {fp : List Addr} {h : Heap} {p : Addr × Obj} (hp : p ∈ pinsAt fp h) : p.1 ∈ fp ∧ h.get? p.1 = some p.2 := by
  obtain ⟨b, hb, e⟩ := List.mem_filterMap.mp hp
  cases q : h.get? b with
  | none => rw [q] at e; cases e
  | some o =>
    rw [q] at e
    have e' : (b, o) = p := Option.some.inj e
    subst e'
    exact ⟨hb, q⟩
theorem Inv.pinned {pins : List (Addr × Obj)} {σ : St} {H : Hp} {s : Shared} {fp : List Addr} (I : Inv X pins σ H s) (hf : ∀ b ∈ fp, FpOk X pins H b) (ho : ∀ b ∈ fp, ∃ o, s.heap.get? b = some o ∧ ∀ v, o.data ≠ .cell v) : Inv X (pins ++ pinsAt fp s.heap) σ H s :=
  I.pins_of fun p hp => (List.mem_append.mp hp).elim (fun z => I.pin p (List.mem_append_right _ z)) fun z => by
    obtain ⟨hb, e⟩ := of_pinsAt z
    obtain ⟨f0, f1, f2, _⟩ := hf p.1 hb
    obtain ⟨o, e', d⟩ := ho p.1 hb
    rw [e] at e'; cases e'
    exact ⟨e, f0, f1, f2, d⟩
theorem Inv.unpinned {pins pl : List (Addr × Obj)} {σ : St} {H : Hp} {s : Shared} (I : Inv X (pins ++ pl) σ H s) : Inv X pins σ H s := I.pins_of fun p hp => I.pin p (List.mem_append_right _ (List.mem_append_left _ hp))
theorem ps_for {iter : Expr} {body : List Stmt} {wi : TI} {g : TG} {tb : TS} {pos : Pos} (hp : PassesOwn (model X.prog X.w) X.A X.env X.xe) (hc : X.calm = true) (hi : PI X tg iter wi) (hg : PG X tg g) (hb : PSs X body tb)
    (hs : ∀ x, foldedSetIterable iter X.env x = pure x := by intro _; rfl) : PS X (.For tg iter body [] pos) (tFor wi g tb) := by
  intro pins s σ H D I h
  refine wpAny_For (thn (hi pins s σ H _ I h) fun v s1 h1 => thn h1 fun itv s2 h2 => ?_) hs
  obtain ⟨it, fp, tn, J, H2, e, I2, T, st2, f2, W, ⟨m0, w0⟩, turn⟩ := h2
  subst e
  have stat : ∀ {H' : Hp}, (∀ b ∈ fp, H' b = none) → ∀ b ∈ fp, FpOk X pins H' b := fun hn b hb => ⟨hn b hb, (f2 b hb).2⟩
  refine codeAny_forLoop_any (fun n s' => ∃ i σ' H', Inv X pins σ' H' s' ∧ tn i s'.heap ∧ (∀ b ∈ fp, H' b = none) ∧ W i n σ' H') ?_ m0 ⟨0, σ, H2, I2, st2, fun b hb => (f2 b hb).1, w0⟩
  rintro n s3 ⟨i, σ3, H3, I3, st3, fr3, w3⟩
  rcases turn i n σ3 H3 w3 with ⟨stop, qn⟩ | ⟨go, N, hN, step⟩
  · refine wpAny_passesOwn hp (thn (T.done X rfl rfl rfl hc i pins s3 σ3 H3 X.xe I3 (stat fr3) st3 stop) fun r s4 ⟨hr, I4⟩ => ?_)
    subst hr
    exact wpAny_execs_nil ⟨σ3, H3, I4, qn⟩
  · refine wpAny_passesOwn hp (thn (T.item X rfl rfl rfl hc i pins s3 σ3 H3 X.xe I3 (stat fr3) st3 go) fun r s4 ⟨u, hr, h4⟩ => ?_)
    subst hr
    refine wpAny_passesOwn hp (thn h4 fun _ s5 ⟨x, H5, I5, r5, y5, st5, fr5⟩ => ?_)
    have I5' := I5.pinned (stat fr5) (T.obj _ _ st5)
    refine wpAny_passesOwn hp (thn (hg _ s5 σ3 H5 x u _ I5' r5 (step x H5 y5)) fun _ s6 ⟨σ6, H6, I6, q6⟩ => ?_)
    refine wpAny_passesOwn hp (thn (hb _ s6 σ6 H6 _ I6 q6) fun f s7 q7 => ?_)
    have again : ∀ {σ7 : St} {H7 : Hp}, Inv X (pins ++ pinsAt fp s5.heap) σ7 H7 s7 → N σ7 H7 → ∃ m, m < n ∧ ∃ i σ' H', Inv X pins σ' H' s7 ∧ tn i s7.heap ∧ (∀ b ∈ fp, H' b = none) ∧ W i m σ' H' := fun {σ7 H7} I7 n7 => by
      obtain ⟨m', hm, w7⟩ := hN σ7 H7 n7
      refine ⟨m', hm, i + 1, σ7, H7, I7.unpinned, T.keep _ _ _ st5 fun b hb o e => (I7.pin (b, o) (List.mem_append_right _ (List.mem_append_right _ (mem_pinsAt hb e)))).1, fun b hb => ?_, w7⟩
      obtain ⟨o, e, d⟩ := T.obj _ _ st5 b hb
      exact (I7.pin (b, o) (List.mem_append_right _ (List.mem_append_right _ (mem_pinsAt hb e)))).2.1
    cases f with
    | next => obtain ⟨σ7, H7, I7, n7⟩ := q7; exact again I7 n7
    | cont => obtain ⟨σ7, H7, I7, n7⟩ := q7; exact again I7 n7
    | brk => obtain ⟨σ7, H7, I7, q7⟩ := q7; exact ⟨σ7, H7, I7.unpinned, q7⟩
    | ret v => obtain ⟨x7, σ7, H7, I7, r7, q7⟩ := q7; exact ⟨x7, σ7, H7, I7.unpinned, r7, q7⟩
end
theorem for_list {K : PySem.W.Frag} {a : Addr} {xs : List V} {g : TG} {tb : TS} {D : Ends} {σ : St} {H : Hp} (Pv : Nat → St → Hp → Prop) (h0 : Pv 0 σ H) (hl : ∀ i σ H, i ≤ xs.length → Pv i σ H → SqL K H a xs)
    (hs : ∀ i x σ H, xs[i]? = some x → Pv i σ H → g x σ H fun σ2 H2 => tb { D with nx := Pv (i + 1), ct := Pv (i + 1), bk := D.nx } σ2 H2) (hd : ∀ σ H, Pv xs.length σ H → D.nx σ H) :
    ∃ W : Nat → Nat → St → Hp → Prop, (∃ m, W 0 m σ H) ∧ ∀ i m σ H, W i m σ H →
      ((Itl K a).stop i H ∧ D.nx σ H) ∨ ((Itl K a).go i H ∧ ∃ N : St → Hp → Prop, (∀ σ' H', N σ' H' → ∃ m', m' < m ∧ W (i + 1) m' σ' H') ∧ ∀ x H', (Itl K a).yld i H x H' → g x σ H' fun σ2 H2 => tb { D with nx := N, ct := N, bk := D.nx } σ2 H2) := by
  refine ⟨fun i m σ H => m = xs.length - i ∧ i ≤ xs.length ∧ Pv i σ H, ⟨xs.length, by simp, Nat.zero_le _, h0⟩, ?_⟩
  rintro i m σ H ⟨rfl, hi, p⟩
  have q := hl i σ H hi p
  by_cases hlt : i < xs.length
  · refine .inr ⟨⟨xs, xs[i], q, by simp [hlt]⟩, Pv (i + 1), fun σ' H' p' => ⟨xs.length - (i + 1), by omega, rfl, hlt, p'⟩, fun x H' y => ?_⟩
    obtain ⟨e, y⟩ := y
    subst e
    exact hs i x σ _ (y xs q) p
  · have e : i = xs.length := by omega
    subst e
    exact .inl ⟨⟨xs, q, Nat.le_refl _⟩, hd σ H p⟩
theorem for_range {lo : Int} {n : Nat} {g : TG} {tb : TS} {D : Ends} {σ : St} {H : Hp} (Pv : Nat → St → Hp → Prop) (h0 : Pv 0 σ H)
    (hs : ∀ i σ H, i < n → Pv i σ H → g (.int (lo + i)) σ H fun σ2 H2 => tb { D with nx := Pv (i + 1), ct := Pv (i + 1), bk := D.nx } σ2 H2) (hd : ∀ σ H, Pv n σ H → D.nx σ H) :
    ∃ W : Nat → Nat → St → Hp → Prop, (∃ m, W 0 m σ H) ∧ ∀ i m σ H, W i m σ H →
      ((Itr lo n).stop i H ∧ D.nx σ H) ∨ ((Itr lo n).go i H ∧ ∃ N : St → Hp → Prop, (∀ σ' H', N σ' H' → ∃ m', m' < m ∧ W (i + 1) m' σ' H') ∧ ∀ x H', (Itr lo n).yld i H x H' → g x σ H' fun σ2 H2 => tb { D with nx := N, ct := N, bk := D.nx } σ2 H2) := by
  refine ⟨fun i m σ H => m = n - i ∧ i ≤ n ∧ Pv i σ H, ⟨n, by simp, Nat.zero_le _, h0⟩, ?_⟩
  rintro i m σ H ⟨rfl, hi, p⟩
  by_cases hlt : i < n
  · refine .inr ⟨hlt, Pv (i + 1), fun σ' H' p' => ⟨n - (i + 1), by omega, rfl, hlt, p'⟩, fun x H' y => ?_⟩
    obtain ⟨e, y⟩ := y
    subst e y
    exact hs i σ _ hlt p
  · have e : i = n := by omega
    subst e
    exact .inl ⟨Nat.le_refl _, hd σ H p⟩
theorem while_by {c : TT} {tb : TS} {D : Ends} {σ : St} {H : Hp} (Pv : St → Hp → Prop) (μ : St → Hp → Nat) (h0 : Pv σ H)
    (hs : ∀ σ H, Pv σ H → c σ H fun b H1 => if b = true then tb { D with nx := fun σ' H' => Pv σ' H' ∧ μ σ' H' < μ σ H, ct := fun σ' H' => Pv σ' H' ∧ μ σ' H' < μ σ H, bk := D.nx } σ H1 else D.nx σ H1)
    (mono : ∀ σ H Q Q', (∀ b H1, Q b H1 → Q' b H1) → c σ H Q → c σ H Q') : tWhile c tb D σ H := by
  refine ⟨fun m σ H => m = μ σ H ∧ Pv σ H, ⟨_, rfl, h0⟩, ?_⟩
  rintro m σ H ⟨rfl, p⟩
  refine mono σ H _ _ (fun b H1 q => ?_) (hs σ H p)
  cases b with
  | true => exact ⟨_, fun σ' H' ⟨p', l⟩ => ⟨_, l, rfl, p'⟩, q⟩
  | false => exact q
end L2
namespace L2
open PySem PySem.Spec PyProof.Rows
abbrev R2 := V → V → Hp → VK → Prop
noncomputable def OpR (X : Cx) (f : Value → Value → Sem Value) (r : R2) : Prop :=
  ∀ (pins : List (Addr × Obj)) (s : Shared) (σ : St) (H : Hp) (x y : V) (v u : Value) (Q : VK), Inv X pins σ H s → RelV x v → RelV y u → r x y H Q →
    wpAny (model X.prog X.w) X.A (f v u) (EP X pins σ Q) X.xe s
noncomputable def UnR (X : Cx) (f : Value → Sem Value) (r : V → Hp → VK → Prop) : Prop :=
  ∀ (pins : List (Addr × Obj)) (s : Shared) (σ : St) (H : Hp) (x : V) (v : Value) (Q : VK), Inv X pins σ H s → RelV x v → r x H Q →
    wpAny (model X.prog X.w) X.A (f v) (EP X pins σ Q) X.xe s
noncomputable def CallR (X : Cx) (f : Value) (r : List V → Hp → VK → Prop) : Prop :=
  ∀ (pins : List (Addr × Obj)) (s : Shared) (σ : St) (H : Hp) (xs : List V) (us : List Value) (Q : VK), Inv X pins σ H s → Vals xs us → r xs H Q →
    wpAny (model X.prog X.w) X.A (call f us) (EP X pins σ Q) X.xe s
noncomputable def TruR (X : Cx) (r : V → Hp → (Bool → Hp → Prop) → Prop) : Prop :=
  ∀ (pins : List (Addr × Obj)) (s : Shared) (σ : St) (H : Hp) (x : V) (v : Value) (Q : Bool → Hp → Prop), Inv X pins σ H s → RelV x v → r x H Q →
    wpAny (model X.prog X.w) X.A (truthy v) (TP X pins σ Q) X.xe s
noncomputable def tOp (r : R2) (ta tb : TE) : TE := fun σ H Q => ta σ H fun x H1 => tb σ H1 fun y H2 => r x y H2 Q
noncomputable def tUn (r : V → Hp → VK → Prop) (ta : TE) : TE := fun σ H Q => ta σ H fun x H1 => r x H1 Q
noncomputable def rI (C : Int → Int → Prop) (g : Int → Int → V) : R2 := fun x y H Q => ∃ i j, x = .int i ∧ y = .int j ∧ C i j ∧ Q (g i j) H
noncomputable def rI0 (g : Int → Int → V) : R2 := fun x y H Q => ∃ i j, x = .int i ∧ y = .int j ∧ Q (g i j) H
noncomputable def rU (g : Int → V) : V → Hp → VK → Prop := fun x H Q => ∃ i, x = .int i ∧ Q (g i) H
section
variable {X : Cx} {a b c : Expr} {ta tb tc : TE} {pos : Pos}
theorem binT (ha : PE X a ta) (hb : PE X b tb) {pins : List (Addr × Obj)} {s : Shared} {σ : St} {H : Hp} {R : V → V → Hp → Prop} (I : Inv X pins σ H s)
    (h : ta σ H fun x H1 => tb σ H1 fun y H2 => R x y H2) {Q : Value → Shared → Prop} {f : Value → Value → Sem Value}
    (hf : ∀ v u s2 x y H2, Inv X pins σ H2 s2 → RelV x v → RelV y u → R x y H2 → wpAny (model X.prog X.w) X.A (f v u) Q X.xe s2) :
    wpAny (model X.prog X.w) X.A (eval a X.env) (fun v s₁ => wpAny (model X.prog X.w) X.A (eval b X.env) (fun u s₂ => wpAny (model X.prog X.w) X.A (f v u) Q X.xe s₂) X.xe s₁) X.xe s := by
  refine thn (ha pins s σ H _ I h) fun v s1 ⟨x, H1, I1, r1, q1⟩ => ?_
  refine thn (hb pins s1 σ H1 _ I1 q1) fun u s2 ⟨y, H2, I2, r2, q2⟩ => ?_
  exact hf v u s2 x y H2 I2 r1 r2 q2
theorem pe_op {op : Operator} {r : R2} (ho : OpR X (binaryOp op) r) (ha : PE X a ta) (hb : PE X b tb) : PE X (.BinOp a op b pos) (tOp r ta tb) := by
  intro pins s σ H Q I h
  exact wpAny_BinOp (binT ha hb I h fun v u s2 x y H2 I2 rx ry q => ho pins s2 σ H2 x y v u Q I2 rx ry q)
theorem pe_un {op : UnaryOp} {r : V → Hp → VK → Prop} (ho : UnR X (unaryOp op) r) (ha : PE X a ta) : PE X (.UnaryOp op a pos) (tUn r ta) := by
  intro pins s σ H Q I h
  exact UnaryOp_ (thn (ha pins s σ H _ I h) fun v s1 ⟨x, H1, I1, r1, q1⟩ => ho pins s1 σ H1 x v Q I1 r1 q1)
theorem opI {f : Value → Value → Sem Value} {C : Int → Int → Prop} {g : Int → Int → Int}
    (rule : ∀ (i j : Int) (t u : Tok) (s : Shared) (Q : Value → Shared → Prop) (E : Value → Shared → Prop), C i j → Q (.int (g i j) s.toks) { s with toks := s.toks + 1 } → wpAny (model X.prog X.w) X.A (f (.int i t) (.int j u)) Q E s) :
    OpR X f (rI C fun i j => .int (g i j)) := by
  intro pins s σ H x y v u Q I rx ry h
  obtain ⟨i, j, rfl, rfl, hc, q⟩ := h
  obtain ⟨t, rfl⟩ := rx
  obtain ⟨t', rfl⟩ := ry
  exact rule i j t t' s _ _ hc ⟨.int (g i j), H, I.tok _, ⟨_, rfl⟩, q⟩
theorem opI0 {f : Value → Value → Sem Value} {g : Int → Int → Int}
    (rule : ∀ (i j : Int) (t u : Tok) (s : Shared) (Q : Value → Shared → Prop) (E : Value → Shared → Prop), Q (.int (g i j) s.toks) { s with toks := s.toks + 1 } → wpAny (model X.prog X.w) X.A (f (.int i t) (.int j u)) Q E s) :
    OpR X f (rI0 fun i j => .int (g i j)) := by
  intro pins s σ H x y v u Q I rx ry h
  obtain ⟨i, j, rfl, rfl, q⟩ := h
  obtain ⟨t, rfl⟩ := rx
  obtain ⟨t', rfl⟩ := ry
  exact rule i j t t' s _ _ ⟨.int (g i j), H, I.tok _, ⟨_, rfl⟩, q⟩
theorem opB0 {f : Value → Value → Sem Value} {g : Int → Int → Bool}
    (rule : ∀ (i j : Int) (t u : Tok) (s : Shared) (Q : Value → Shared → Prop) (E : Value → Shared → Prop), Q (.bool (g i j)) s → wpAny (model X.prog X.w) X.A (f (.int i t) (.int j u)) Q E s) :
    OpR X f (rI0 fun i j => .bl (g i j)) := by
  intro pins s σ H x y v u Q I rx ry h
  obtain ⟨i, j, rfl, rfl, q⟩ := h
  obtain ⟨t, rfl⟩ := rx
  obtain ⟨t', rfl⟩ := ry
  exact rule i j t t' s _ _ ⟨.bl (g i j), H, I, rfl, q⟩
noncomputable def CPow (i j : Int) : Prop := 0 ≤ j ∧ j ≤ 1000000 ∧ i.natAbs < 2 ^ 64
theorem op_add : OpR X (binaryOp .Add) (rI0 fun i j => .int (i + j)) := opI0 fun _ _ _ _ _ _ _ q => add_int q
theorem op_sub : OpR X (binaryOp .Sub) (rI0 fun i j => .int (i - j)) := opI0 fun _ _ _ _ _ _ _ q => sub_int q
theorem op_mod : OpR X (binaryOp .Mod) (rI (fun _ j => 0 < j) fun i j => .int (i % j)) := opI fun i j _ _ _ _ _ hc q => by
  have h1 : (0 : Int) < j := hc
  exact mod_int' (by omega) (by rw [Int.fmod_eq_emod_of_nonneg i (by omega)]; exact q)
theorem op_pow : OpR X (binaryOp .Pow) (rI CPow fun i j => .int (i ^ j.toNat)) := opI fun _ _ _ _ _ _ _ hc q => pow_int_small hc.1 hc.2.1 hc.2.2 q
theorem op_shl : OpR X (binaryOp .LShift) (rI CPow fun i j => .int (i * 2 ^ j.toNat)) := opI fun _ _ _ _ _ _ _ hc q => lshift_int_small hc.1 hc.2.1 hc.2.2 q
theorem unI {f : Value → Sem Value} {g : Int → Int}
    (rule : ∀ (i : Int) (t : Tok) (s : Shared) (Q : Value → Shared → Prop) (E : Value → Shared → Prop), Q (.int (g i) s.toks) { s with toks := s.toks + 1 } → wpAny (model X.prog X.w) X.A (f (.int i t)) Q E s) :
    UnR X f (rU fun i => .int (g i)) := by
  intro pins s σ H x v Q I rx h
  obtain ⟨i, rfl, q⟩ := h
  obtain ⟨t, rfl⟩ := rx
  exact rule i t s _ _ ⟨.int (g i), H, I.tok _, ⟨_, rfl⟩, q⟩
theorem un_neg : UnR X (unaryOp .USub) (rU fun i => .int (-i)) := unI fun _ _ _ _ _ q => neg_int q
end
noncomputable def scal : V → V → Bool
  | .non, .non => true | .non, .int _ => true | .int _, .non => true | .non, .bl _ => true | .bl _, .non => true | .non, .str _ => true | .str _, .non => true
  | .int _, .int _ => true | .bl _, .bl _ => true | .str _, .str _ => true | .byt _, .byt _ => true
  | .int _, .str _ => true | .str _, .int _ => true | .bl _, .str _ => true | .str _, .bl _ => true
  | _, _ => false
noncomputable def rEq : R2 := fun x y H Q => scal x y = true ∧ Q (.bl (decide (x = y))) H
noncomputable def rNe : R2 := fun x y H Q => scal x y = true ∧ Q (.bl (!decide (x = y))) H
theorem dec_int {i j : Int} : decide (V.int i = V.int j) = (i == j) := by
  rw [Bool.eq_iff_iff]
  simp
theorem dec_bl {i j : Bool} : decide (V.bl i = V.bl j) = (i == j) := by
  rw [Bool.eq_iff_iff]
  simp
theorem dec_str {i j : Str} : decide (V.str i = V.str j) = (i == j) := by
  rw [Bool.eq_iff_iff]
  simp
theorem dec_byt {i j : Array UInt8} : decide (V.byt i = V.byt j) = (i.toList == j.toList) := by
  rw [Bool.eq_iff_iff]
  cases i
  cases j
  simp
section
variable {X : Cx} {a b c : Expr} {ta tb tc : TE} {pos : Pos}
theorem fin_bl {pins : List (Addr × Obj)} {σ : St} {H : Hp} {s : Shared} {Q : VK} {k k' : Bool} (I : Inv X pins σ H s) (q : Q (.bl k) H) (e : k = k') : EP X pins σ Q (.bool k') s := by
  subst e
  exact ⟨.bl k, H, I, rfl, q⟩
theorem op_eq : OpR X (compareOp .Eq) rEq := by
  intro pins s σ H x y v u Q I rx ry h
  obtain ⟨hs, q⟩ := h
  cases x with
  | non =>
    cases rx
    cases y with
    | non => cases ry; exact PySem.EqNone.eq_none_none (fin_bl I q (by simp))
    | bl j => cases ry; exact PySem.EqNone.eq_none_bool (fin_bl I q (by simp))
    | int j => obtain ⟨t', rfl⟩ := ry; exact PySem.EqNone.eq_none_int (fin_bl I q (by simp))
    | str j => obtain ⟨t', rfl⟩ := ry; exact PySem.EqNone.eq_none_str (fin_bl I q (by simp))
    | _ => exact absurd (show false = true from hs) Bool.false_ne_true
  | bl i =>
    cases rx
    cases y with
    | non => cases ry; exact PySem.EqNone.eq_bool_none (fin_bl I q (by simp))
    | bl j => cases ry; exact eq_bool (fin_bl I q dec_bl)
    | str j => obtain ⟨t', rfl⟩ := ry; exact PySem.EqMixed.eq_bool_str (fin_bl I q (by simp))
    | _ => exact absurd (show false = true from hs) Bool.false_ne_true
  | int i =>
    obtain ⟨t, rfl⟩ := rx
    cases y with
    | non => cases ry; exact PySem.EqNone.eq_int_none (fin_bl I q (by simp))
    | int j => obtain ⟨t', rfl⟩ := ry; exact eq_int (fin_bl I q dec_int)
    | str j => obtain ⟨t', rfl⟩ := ry; exact PySem.EqMixed.eq_int_str (fin_bl I q (by simp))
    | _ => exact absurd (show false = true from hs) Bool.false_ne_true
  | str i =>
    obtain ⟨t, rfl⟩ := rx
    cases y with
    | non => cases ry; exact PySem.EqNone.eq_str_none (fin_bl I q (by simp))
    | bl j => cases ry; exact PySem.EqMixed.eq_str_bool (fin_bl I q (by simp))
    | int j => obtain ⟨t', rfl⟩ := ry; exact PySem.EqMixed.eq_str_int (fin_bl I q (by simp))
    | str j => obtain ⟨t', rfl⟩ := ry; exact eq_str (fin_bl I q dec_str)
    | _ => exact absurd (show false = true from hs) Bool.false_ne_true
  | byt i =>
    obtain ⟨t, rfl⟩ := rx
    cases y with
    | byt j => obtain ⟨t', rfl⟩ := ry; exact PySem.W.eq_bytes (fin_bl I q dec_byt)
    | _ => exact absurd (show false = true from hs) Bool.false_ne_true
  | _ => cases y <;> exact absurd (show false = true from hs) Bool.false_ne_true
theorem op_ne : OpR X (compareOp .NotEq) rNe := by
  intro pins s σ H x y v u Q I rx ry h
  obtain ⟨hs, q⟩ := h
  cases x with
  | non =>
    cases rx
    cases y with
    | non => cases ry; exact PySem.EqNone.ne_none_none (fin_bl I q (by simp))
    | bl j => cases ry; exact PySem.EqNone.ne_none_bool (fin_bl I q (by simp))
    | int j => obtain ⟨t', rfl⟩ := ry; exact PySem.EqNone.ne_none_int (fin_bl I q (by simp))
    | str j => obtain ⟨t', rfl⟩ := ry; exact PySem.EqNone.ne_none_str (fin_bl I q (by simp))
    | _ => exact absurd (show false = true from hs) Bool.false_ne_true
  | bl i =>
    cases rx
    cases y with
    | non => cases ry; exact PySem.EqNone.ne_bool_none (fin_bl I q (by simp))
    | bl j => cases ry; exact ne_bool (fin_bl I q (congrArg not dec_bl))
    | str j => obtain ⟨t', rfl⟩ := ry; exact PySem.EqMixed.ne_bool_str (fin_bl I q (by simp))
    | _ => exact absurd (show false = true from hs) Bool.false_ne_true
  | int i =>
    obtain ⟨t, rfl⟩ := rx
    cases y with
    | non => cases ry; exact PySem.EqNone.ne_int_none (fin_bl I q (by simp))
    | int j => obtain ⟨t', rfl⟩ := ry; exact ne_int (fin_bl I q (congrArg not dec_int))
    | str j => obtain ⟨t', rfl⟩ := ry; exact PySem.EqMixed.ne_int_str (fin_bl I q (by simp))
    | _ => exact absurd (show false = true from hs) Bool.false_ne_true
  | str i =>
    obtain ⟨t, rfl⟩ := rx
    cases y with
    | non => cases ry; exact PySem.EqNone.ne_str_none (fin_bl I q (by simp))
    | bl j => cases ry; exact PySem.EqMixed.ne_str_bool (fin_bl I q (by simp))
    | int j => obtain ⟨t', rfl⟩ := ry; exact PySem.EqMixed.ne_str_int (fin_bl I q (by simp))
    | str j => obtain ⟨t', rfl⟩ := ry; exact ne_str (fin_bl I q (congrArg not dec_str))
    | _ => exact absurd (show false = true from hs) Bool.false_ne_true
  | byt i =>
    obtain ⟨t, rfl⟩ := rx
    cases y with
    | byt j => obtain ⟨t', rfl⟩ := ry; exact PySem.W.ne_bytes (fin_bl I q (congrArg not dec_byt))
    | _ => exact absurd (show false = true from hs) Bool.false_ne_true
  | _ => cases y <;> exact absurd (show false = true from hs) Bool.false_ne_true
theorem op_lt : OpR X (compareOp .Lt) (rI0 fun i j => .bl (decide (i < j))) := opB0 fun _ _ _ _ _ _ _ q => lt_int q
theorem op_le : OpR X (compareOp .LtE) (rI0 fun i j => .bl (decide (i ≤ j))) := opB0 fun _ _ _ _ _ _ _ q => le_int q
theorem op_gt : OpR X (compareOp .Gt) (rI0 fun i j => .bl (decide (j < i))) := opB0 fun _ _ _ _ _ _ _ q => gt_int q
theorem op_ge : OpR X (compareOp .GtE) (rI0 fun i j => .bl (decide (j ≤ i))) := opB0 fun _ _ _ _ _ _ _ q => ge_int q
theorem op_in_str : OpR X (compareOp .In) (fun x y H Q => ∃ i j, x = .str i ∧ y = .str j ∧ Q (.bl (!(Builtin.Str.occurrences j i 0 j.length 1).isEmpty)) H) := by
  intro pins s σ H x y v u Q I rx ry h
  obtain ⟨i, j, rfl, rfl, q⟩ := h
  obtain ⟨t, rfl⟩ := rx
  obtain ⟨t', rfl⟩ := ry
  exact in_str (fin_bl I q rfl)
theorem op_isN : OpR X (compareOp .Is) (fun x y H Q => y = .non ∧ Q (.bl (decide (x = .non))) H) := by
  intro pins s σ H x y v u Q I rx ry h
  obtain ⟨rfl, q⟩ := h
  cases ry
  refine is_none_gen (fin_bl I q ?_)
  cases x <;> first
    | (cases rx; rfl)
    | (obtain ⟨t, rfl⟩ := rx; rfl)
theorem nomark (b : Expr) {op : CmpOp} (h : op ≠ .In := by decide) (h2 : op ≠ .NotIn := by decide) : behindInMarks op b = false := by
  have e1 : (op == CmpOp.In) = false := by cases op <;> first | rfl | exact absurd rfl h
  have e2 : (op == CmpOp.NotIn) = false := by cases op <;> first | rfl | exact absurd rfl h2
  cases b <;> simp [behindInMarks, e1, e2]
theorem pe_cmpR {op : CmpOp} {r : R2} (ho : OpR X (compareOp op) r) (ha : PE X a ta) (hb : PE X b tb) (hm : behindInMarks op b = false) : PE X (.Compare a [op] [b] pos) (tOp r ta tb) := by
  intro pins s σ H Q I h
  exact wpAny_Compare1 (binT ha hb I h fun v u s2 x y H2 I2 rx ry q => ho pins s2 σ H2 x y v u Q I2 rx ry q) hm
noncomputable def tTest (t : TE) : TT := fun σ H Q => t σ H fun x H' => ∃ k, x = .bl k ∧ Q k H'
theorem pt_cmpR {op : CmpOp} {r : R2} (ho : OpR X (compareOp op) r) (ha : PE X a ta) (hb : PE X b tb) (hm : behindInMarks op b = false) : PT X (.Compare a [op] [b] pos) (tTest (tOp r ta tb)) := by
  intro pins s σ H Q I h
  refine wpAny_isTrue_Compare1 (thn (ha pins s σ H _ I h) fun v s1 ⟨x, H1, I1, r1, q1⟩ => thn (hb pins s1 σ H1 _ I1 q1) fun u s2 ⟨y, H2, I2, r2, q2⟩ =>
    thn (ho pins s2 σ H2 x y v u _ I2 r1 r2 q2) fun c s3 ⟨z, H3, I3, r3, k, e, q3⟩ => ?_) hm
  subst e
  cases r3
  exact wpAny_truthy_bool ⟨H3, I3, q3⟩
noncomputable def tChain (r r' : R2) (ta tb tc : TE) : TE := fun σ H Q => ta σ H fun x H1 => tb σ H1 fun y H2 => r x y H2 fun z H3 => ∃ k, z = .bl k ∧
  (if k = true then tc σ H3 fun w' H4 => r' y w' H4 Q else Q (.bl false) H3)
theorem pe_chain {op op' : CmpOp} {r r' : R2} (ho : OpR X (compareOp op) r) (ho' : OpR X (compareOp op') r') (ha : PE X a ta) (hb : PE X b tb) (hc : PE X c tc)
    (hm : lastMarks [op, op'] [b, c] = false := by with_unfolding_all rfl) : PE X (.Compare a [op, op'] [b, c] pos) (tChain r r' ta tb tc) := by
  intro pins s σ H Q I h
  refine Compare_chain (thn (ha pins s σ H _ I h) fun v s1 ⟨x, H1, I1, r1, q1⟩ => chain_link (thn (hb pins s1 σ H1 _ I1 q1) fun u s2 ⟨y, H2, I2, r2, q2⟩ =>
    thn (ho pins s2 σ H2 x y v u _ I2 r1 r2 q2) fun d s3 ⟨z, H3, I3, r3, k, e, q3⟩ => ?_)) hm
  subst e
  cases r3
  refine wpAny_truthy_bool ?_
  cases k with
  | false => exact ite_ff ⟨.bl false, H3, I3, rfl, q3⟩
  | true => exact ite_tt (chain_last (thn (hc pins s3 σ H3 _ I3 q3) fun w' s4 ⟨z', H4, I4, r4, q4⟩ => ho' pins s4 σ H4 y z' u w' Q I4 r2 r4 q4))
noncomputable def TruV (K : PySem.W.Frag) (x : V) (H : Hp) (k : Bool) : Prop :=
  match x with
  | .non => k = false
  | .bl b => k = b
  | .int i => k = (i != 0)
  | .str y => y.length ≤ sizeLine ∧ k = ((y.length : Int) != 0)
  | .byt y => y.size ≤ sizeLine ∧ k = ((y.size : Int) != 0)
  | .ref p => (∃ xs, SqL K H p xs ∧ k = !xs.isEmpty) ∨ (∃ xs, SqT K H p xs ∧ k = !xs.isEmpty) ∨ ∃ kvs, H p = some (.dK kvs) ∧ k = !kvs.isEmpty
  | _ => False
theorem isEmpty_kv {κ : Type} {kvs : List (κ × V)} {vs : List (κ × Value)} (r : KV kvs vs) : (!vs.isEmpty) = !kvs.isEmpty := by
  cases r <;> rfl
theorem isEmpty_of {xs : List V} {its : List Value} (r : Vals xs its) : (!its.toArray.isEmpty) = !xs.isEmpty := by
  cases r <;> simp
theorem line63 : (sizeLine : Nat) < 2 ^ 63 := by rw [sizeLine_eq]; decide
theorem tru_ok : TruR X (fun x H Q => ∃ k, TruV X.K x H k ∧ Q k H) := by
  intro pins s σ H x v Q I rx h
  obtain ⟨k, e, q⟩ := h
  have hl := line63
  have hs : sizeLine = 16777216 := sizeLine_eq
  cases x with
  | non =>
    cases rx
    have e' : k = false := e
    subst e'
    exact truthy_none ⟨H, I, q⟩
  | bl b =>
    cases rx
    have e' : k = b := e
    subst e'
    exact wpAny_truthy_bool ⟨H, I, q⟩
  | int i =>
    obtain ⟨t, rfl⟩ := rx
    have e' : k = (i != 0) := e
    subst e'
    exact PySem.P.truthy_int ⟨H, I, q⟩
  | str y =>
    obtain ⟨t, rfl⟩ := rx
    obtain ⟨hy, e'⟩ : y.length ≤ sizeLine ∧ k = ((y.length : Int) != 0) := e
    subst e'
    exact PySem.P.truthy_str (by omega) ⟨H, I.tok _, q⟩
  | byt y =>
    obtain ⟨t, rfl⟩ := rx
    obtain ⟨hy, e'⟩ : y.size ≤ sizeLine ∧ k = ((y.size : Int) != 0) := e
    subst e'
    exact PySem.W.truthy_bytes (by omega) ⟨H, I.tok _, q⟩
  | ref p =>
    cases rx
    have e' : (∃ xs, SqL X.K H p xs ∧ k = !xs.isEmpty) ∨ (∃ xs, SqT X.K H p xs ∧ k = !xs.isEmpty) ∨ ∃ kvs, H p = some (.dK kvs) ∧ k = !kvs.isEmpty := e
    rcases e' with ⟨xs, hx, e'⟩ | ⟨xs, hx, e'⟩ | ⟨kvs, hx, e'⟩
    · subst e'
      obtain ⟨its, r, pl, hz⟩ := I.list hx
      have hlen := r.length
      exact wpAny_truthy_list pl.isList (by simp only [List.size_toArray]; omega) ⟨H, I.tok _, by rw [isEmpty_of r]; exact q⟩
    · subst e'
      obtain ⟨its, r, pl, hz⟩ := I.tuple hx
      have hlen := r.length
      exact truthy_tuple pl (by simp only [List.size_toArray]; omega) ⟨H, I.tok _, by rw [isEmpty_of r]; exact q⟩
    · subst e'
      obtain ⟨hz, hS, vs, r, m⟩ : kvs.length ≤ sizeLine ∧ (p == sysModules) = false ∧ ∃ vs, KV kvs vs ∧ s.heap.DictOf (mixKind X.prog X.w) p vs := I.hok p _ hx
      have hlen : kvs.length = vs.length := Paired.length r
      exact wpAny_truthy_dict hS m (by omega) ⟨H, I.tok _, by rw [isEmpty_kv r]; exact q⟩
  | _ => exact (show False from e).elim
theorem pt_truth (ha : PE X a ta) (he : ∀ whole, isTrue a X.env whole = (do let v ← whole; standAt a.pos; holding [v] (truthy v))) :
    PT X a (fun σ H Q => ta σ H fun x H' => ∃ k, TruV X.K x H' k ∧ Q k H') := by
  intro pins s σ H Q I h
  exact isTrue_plain (thn (ha pins s σ H _ I h) fun v s1 ⟨x, H1, I1, r1, q1⟩ => tru_ok pins s1 σ H1 x v Q I1 r1 q1) (he _)
theorem op_add_str : OpR X (binaryOp .Add) (fun x y H Q => ∃ i j, x = .str i ∧ y = .str j ∧ i.length + j.length ≤ sizeLine ∧ Q (.str (i ++ j)) H) := by
  intro pins s σ H x y v u Q I rx ry h
  obtain ⟨i, j, rfl, rfl, hz, q⟩ := h
  obtain ⟨t, rfl⟩ := rx
  obtain ⟨t', rfl⟩ := ry
  exact add_str (fun t' tk => ⟨.str (i ++ j), H, I.tok _, ⟨_, rfl⟩, q⟩) hz
theorem vals1 {x : V} {us : List Value} (r : Vals [x] us) : ∃ u, us = [u] ∧ RelV x u := by
  cases r with
  | cons r1 r2 => cases r2; exact ⟨_, rfl, r1⟩
theorem vals2 {x y : V} {us : List Value} (r : Vals [x, y] us) : ∃ u w', us = [u, w'] ∧ RelV x u ∧ RelV y w' := by
  cases r with
  | cons r1 r2 =>
    cases r2 with
    | cons r3 r4 => cases r4; exact ⟨_, _, rfl, r1, r3⟩
theorem call_min2 (hc : X.calm = true) : CallR X (.builtin "min") (fun xs H Q => ∃ i j, xs = [.int i, .int j] ∧ Q (.int (if j < i then j else i)) H) := by
  intro pins s σ H xs us Q I r h
  obtain ⟨i, j, rfl, q⟩ := h
  obtain ⟨u, w', rfl, ⟨t, rfl⟩, ⟨t', rfl⟩⟩ := vals2 r
  refine min_two_ints (I.ok.hd hc) fun h' tk k => ⟨_, H, I.kept k, ?_, q⟩
  by_cases hj : j < i
  · rw [if_pos hj, if_pos hj]; exact ⟨_, rfl⟩
  · rw [if_neg hj, if_neg hj]; exact ⟨_, rfl⟩
theorem call_str_int : CallR X (.type "str") (fun xs H Q => ∃ i, xs = [.int i] ∧ i.natAbs.log2 < 1920 ∧ Q (.str (toString i)) H) := by
  intro pins s σ H xs us Q I r h
  obtain ⟨i, rfl, hz, q⟩ := h
  obtain ⟨u, rfl, t, rfl⟩ := vals1 r
  exact PySem.P.str_of_int hz ⟨.str _, H, I.tok _, ⟨_, rfl⟩, q⟩
end
end L2
namespace L2
open PySem PySem.Spec PyProof.Rows
structure ObjM (h : Heap) (x dx C : Addr) (mA : Str → Option Value) : Prop where
  obj : h.get? x = some (PySem.W.instObj C dx)
  ns : h.Ns1 dx mA
  ne : dx ≠ x
theorem lookIn_ns {h : Heap} {dx : Addr} {mA : Str → Option Value} (n : h.Ns1 dx mA) : ∃ od, h.get? dx = some od ∧ ∀ name, PySem.W.lookIn name od = some (mA name) := by
  obtain ⟨o, es, ep, ho, hd, hk, _, hm⟩ := n
  refine ⟨o, ho, fun name => ?_⟩
  have e := hm name
  unfold nsFind findBy at e
  rw [← Array.find?_toList] at e
  unfold PySem.W.lookIn
  rw [hd]
  dsimp only
  split
  · rename_i y q
    rw [q] at e
    exact congrArg some e
  · rename_i q
    rw [q] at e
    have a : es.toList.any (·.refKey) = false := by
      rw [List.any_eq_false]
      intro y hy
      obtain ⟨z, t, hkey⟩ := hk y (Array.mem_toList_iff.mp hy)
      simp [DictEntry.refKey, hkey]
    have a' : ¬ es.toList.any (·.refKey) = true := by rw [a]; exact Bool.false_ne_true
    rw [if_neg a']
    exact congrArg some e
theorem ObjM.look {h : Heap} {x dx C : Addr} {mA : Str → Option Value} (I : ObjM h x dx C mA) : ∃ od, PySem.W.InstAt h x (PySem.W.instObj C dx) C (some od) ∧ ∀ name, PySem.W.lookIn name od = some (mA name) :=
  let ⟨od, ho, hl⟩ := lookIn_ns I.ns
  ⟨od, ⟨I.obj, rfl, rfl, ho⟩, hl⟩
section
variable {prog : Program} {w : World} {A : Around} {E : Value → Shared → Prop} {s : Shared} {K : PySem.W.Frag} {x dx C f : Addr} {mA : Str → Option Value} {name : Str} {v : Value}
theorem get_map {expr : Bool} {Q : Value → Shared → Prop} (X : K.In s.heap) (I : ObjM s.heap x dx C mA) (hg : PySem.W.plainGet K C name = true) (hh : PySem.W.hasDictIn K C = true)
    (ha : PySem.W.findIn K (.ref C) name = some none) (hv : mA name = some v) (hv' : PySem.W.handedIn v = true) (h : Q v { s with toks := s.toks + 1 }) :
    wpAny (model prog w) A (getAttr (.ref x) name expr) Q E s := by
  obtain ⟨od, J, hl⟩ := I.look
  exact PySem.W.get_value X J (PySem.W.plainGet_of hg).1 (PySem.W.findObj_own hh ha rfl (by rw [hl, hv])) hv' h
theorem get_meth {pl : Sem Bool} {Q : Value × List Value → Shared → Prop} (X : K.In s.heap) (I : ObjM s.heap x dx C mA) (hg : PySem.W.plainGet K C name = true)
    (hf : PySem.W.findIn K (.ref C) name = some (some (.ref f))) (ht : PySem.W.isFn K (.ref f) = true) (hv : mA name = none) (h : Q (.ref f, [.ref x]) s) :
    wpAny (model prog w) A (getMethod (.ref x) name pl) Q E s := by
  obtain ⟨od, J, hl⟩ := I.look
  exact PySem.W.method_fn X J (PySem.W.plainGet_of hg).1 (PySem.W.plainGet_of hg).2 hf (beq_iff_eq.mp ht) (by show (PySem.W.lookIn name od).map (·.isSome) = some false; rw [hl, hv]; rfl) h
theorem set_map {ns : List Str} {Q : Unit → Shared → Prop} (X : K.In s.heap) (I : ObjM s.heap x dx C mA)
    (hs : PySem.W.findIn K (.ref C) "__setattr__" = some (some (.builtin "object.__setattr__"))) (hp : PySem.W.plainOver K C = true) (ht : PySem.W.takerIn K C name = some none) (hh : PySem.W.hasDictIn K C = true)
    (hw : PySem.Within mA ns) (hsz : ns.length ≤ sizeLine)
    (h : ∀ h', ObjM h' x dx C (fun y => if y = name then some v else mA y) → Heap.SameBut dx s.heap h' → Q () { s with heap := h', toks := s.toks + 2 }) :
    wpAny (model prog w) A (setAttr (.ref x) name v) Q E s := by
  obtain ⟨od, J, hl⟩ := I.look
  refine PySem.W.set_plain X J hs (PySem.W.osa_open (s := { s with toks := s.toks + 1 }) (r := none) X J hp ht fun b => ?_)
  obtain ⟨cd, hc, hd'⟩ := PySem.W.any_some hh
  have hx : s.heap.get? x = some ⟨.ref C, some dx, .plain, #[]⟩ := I.obj
  refine wpAny_bind (wpAny_pure (wpAny_bind (wpAny_bind (wpAny_loadPart hx (wpAny_bind (PySem.W.Looks.here (s := { s with toks := s.toks + 1 }) (PySem.W.looks_clsIn X hc) ?_))))))
  rw [hd']
  refine wpAny_pure (a := some dx) (wpAny_bind (wpAny_pure (wpAny_bind ?_)))
  refine wpAny_nsSet1 (s := { s with toks := s.toks + 1 }) I.ns fun h' hn2 hs2 => ?_
  obtain ⟨oD, esD, epD, hoD, hdD, hcD⟩ := hn2.count (PySem.Within.cons name v hw)
  refine wpAny_bind (wpAny_lookBehind hoD (by rw [hdD]; exact pastItsLine_dict (Nat.le_trans hcD (by rw [List.length_cons]; omega))) ?_)
  exact wpAny_pure (h _ ⟨(hs2.2 _ (Ne.symm I.ne)).trans I.obj, hn2, I.ne⟩ hs2)
theorem make_map {R : Result → Shared → Prop} {vs : List Value} {kw : List (Str × Value)} (X : K.In s.heap) (hm : PySem.W.makesIn K C = true)
    (hi : PySem.W.findIn K (.ref C) "__init__" = some (some (.ref f))) (hf : PySem.W.typeIn K (.ref f) = some (.type "function"))
    (h : codeAny (model prog w) (A.under (.builtin "type.__call__" ⟨.ref C :: vs, kw⟩)) (.call (.ref f) ⟨.ref (s.heap.objs.size + 1) :: vs, kw⟩) (PySem.W.InitBack (s.heap.objs.size + 1) R)
      { s with heap := (s.heap.push PySem.W.emptyDict).push (PySem.W.instObj C s.heap.objs.size) }) :
    codeAny (model prog w) A (.call (.ref C) ⟨vs, kw⟩) R s := by
  obtain ⟨hh, g, d, t, os⟩ := s
  exact PySem.W.make_core (PySem.W.makes_of X hm) (PySem.W.looks_findIn X hi) (fun self => PySem.W.bind_fn X self hf) (.inl rfl) h
end
noncomputable def putF (f : Str) (v : V) : List (Str × V) → List (Str × V)
  | [] => [(f, v)]
  | (g, x) :: r => if g = f then (g, v) :: r else (g, x) :: putF f v r
theorem lookup_putF (f g : Str) (v : V) : ∀ fs : List (Str × V), (putF f v fs).lookup g = if g = f then some v else fs.lookup g
  | [] => by
    show List.lookup g [(f, v)] = _
    by_cases h : g = f
    · have hb : (g == f) = true := beq_iff_eq.mpr h
      simp only [List.lookup, hb, if_pos h]
    · have hb : (g == f) = false := beq_eq_false_iff_ne.mpr h
      simp only [List.lookup, hb, if_neg h]
  | (k, x) :: r => by
    have ih := lookup_putF f g v r
    rw [show putF f v ((k, x) :: r) = (if k = f then (k, v) :: r else (k, x) :: putF f v r) from rfl]
    by_cases hk : k = f
    · rw [if_pos hk]
      by_cases h : g = k
      · have hb : (g == k) = true := beq_iff_eq.mpr h
        simp only [List.lookup, hb, if_pos (h.trans hk)]
      · have hb : (g == k) = false := beq_eq_false_iff_ne.mpr h
        simp only [List.lookup, hb, if_neg (fun e : g = f => h (e.trans hk.symm))]
    · rw [if_neg hk]
      by_cases h : g = k
      · have hb : (g == k) = true := beq_iff_eq.mpr h
        simp only [List.lookup, hb, if_neg (fun e : g = f => hk (h.symm.trans e))]
      · have hb : (g == k) = false := beq_eq_false_iff_ne.mpr h
        simp only [List.lookup, hb]
        exact ih
theorem keys_putF (f : Str) (v : V) : ∀ fs : List (Str × V), f ∈ (putF f v fs).map (·.1) ∧ ∀ g, g ∈ fs.map (·.1) → g ∈ (putF f v fs).map (·.1)
  | [] => ⟨by simp [putF], fun g h => by simp at h⟩
  | (k, x) :: r => by
    obtain ⟨i1, i2⟩ := keys_putF f v r
    rw [show putF f v ((k, x) :: r) = (if k = f then (k, v) :: r else (k, x) :: putF f v r) from rfl]
    by_cases hk : k = f
    · rw [if_pos hk]
      subst hk
      exact ⟨by simp, fun g h => by simpa using h⟩
    · rw [if_neg hk]
      refine ⟨?_, fun g h => ?_⟩
      · rw [List.map_cons]
        exact List.mem_cons_of_mem _ i1
      · rw [List.map_cons] at h ⊢
        rcases List.mem_cons.mp h with e | e
        · exact List.mem_cons.mpr (.inl e)
        · exact List.mem_cons_of_mem _ (i2 g e)
theorem length_putF (f : Str) (v : V) : ∀ fs : List (Str × V), (putF f v fs).length ≤ fs.length + 1
  | [] => by simp [putF]
  | (k, x) :: r => by
    have ih := length_putF f v r
    rw [show putF f v ((k, x) :: r) = (if k = f then (k, v) :: r else (k, x) :: putF f v r) from rfl]
    by_cases hk : k = f
    · rw [if_pos hk, List.length_cons, List.length_cons]; omega
    · rw [if_neg hk, List.length_cons, List.length_cons]; omega
theorem RelO.some_of {v : V} {o : Option Value} (r : RelO (some v) o) : ∃ u, o = some u ∧ RelV v u := by
  cases o with
  | none => exact (show False from r).elim
  | some u => exact ⟨u, rfl, r⟩
theorem RelO.none_of {o : Option Value} (r : RelO none o) : o = none := by
  cases o with
  | none => rfl
  | some u => exact (show False from r).elim
theorem handed_of {v : V} {u : Value} (r : RelV v u) : PySem.W.handedIn u = true := by
  cases v with
  | non => cases (show u = Value.none from r); rfl
  | bl b => cases (show u = Value.bool b from r); rfl
  | int i => obtain ⟨t, e⟩ := (show ∃ t, u = Value.int i t from r); cases e; rfl
  | str x => obtain ⟨t, e⟩ := (show ∃ t, u = Value.str x t from r); cases e; rfl
  | byt b => obtain ⟨t, e⟩ := (show ∃ t, u = Value.bytes b t from r); cases e; rfl
  | flt b => obtain ⟨t, e⟩ := (show ∃ t, u = Value.float b t from r); cases e; rfl
  | ref a => cases (show u = Value.ref a from r); rfl
  | ty n => cases (show u = Value.type n from r); rfl
section
variable {P : Program} {w : World} {H H' : Hp} {h h' : Heap} {a C dx : Addr} {fs fs' : List (Str × V)}
theorem ins_get (hok : HOk P w H h) (e : H a = some (.ins C dx fs)) : ∃ mA, ObjM h a dx C mA ∧ (∀ f, RelO (fs.lookup f) (mA f)) ∧ PySem.Within mA (fs.map (·.1)) ∧ fs.length ≤ 1000 ∧ H dx = some (.own a) := by
  obtain ⟨d, z, ne, ob, mA, n, r, q⟩ := (show ObjOk P w H h a (.ins C dx fs) from hok a _ e)
  exact ⟨mA, ⟨ob, n, ne⟩, r, q, z, d⟩
end
structure Cls (K : PySem.W.Frag) (C : Addr) : Prop where
  pg : PySem.W.plainGet K C Str.empty = true
  hd : PySem.W.hasDictIn K C = true
  po : PySem.W.plainOver K C = true
  sa : PySem.W.findIn K (.ref C) "__setattr__" = some (some (.builtin "object.__setattr__"))
theorem Cls.get {K : PySem.W.Frag} {C : Addr} (c : Cls K C) (f : Str) : PySem.W.plainGet K C f = true := c.pg
noncomputable def NoAttr (K : PySem.W.Frag) (C : Addr) (f : Str) : Prop := PySem.W.findIn K (.ref C) f = some none
theorem NoAttr.taker {K : PySem.W.Frag} {C : Addr} {f : Str} (n : NoAttr K C f) : PySem.W.takerIn K C f = some none := by
  unfold PySem.W.takerIn
  rw [show PySem.W.findIn K (.ref C) f = some none from n]
  rfl
structure Con (K : PySem.W.Frag) (C : Addr) (f : Str) (v : V) (u : Value) : Prop where
  at_ : PySem.W.findIn K (.ref C) f = some (some u)
  rel : RelV v u
  get : PySem.W.specialIn K u "__get__" = some none
  cp : PySem.W.copiedNames.contains f = false
structure Meth (K : PySem.W.Frag) (C : Addr) (m : Str) (f : Addr) : Prop where
  at_ : PySem.W.findIn K (.ref C) m = some (some (.ref f))
  fn : PySem.W.isFn K (.ref f) = true
  kp : PySem.W.keepIn K (.ref f) = true
section
variable {X : Cx} {pins : List (Addr × Obj)} {σ : St} {H : Hp} {s : Shared} {a C dx : Addr} {fs : List (Str × V)} {f : Str} {v : V} {A : Around} {E : Value → Shared → Prop}
theorem getattr_ok {b : Bool} {Q : Value → Shared → Prop} (I : Inv X pins σ H s) (e : H a = some (.ins C dx fs)) (c : Cls X.K C) (n : NoAttr X.K C f) (l : fs.lookup f = some v)
    (h : ∀ u s', Inv X pins σ H s' → RelV v u → Q u s') : wpAny (model X.prog X.w) A (getAttr (.ref a) f b) Q E s := by
  obtain ⟨mA, O, r, _, _, _⟩ := ins_get I.hok e
  obtain ⟨u, hu, ru⟩ := RelO.some_of (v := v) (o := mA f) (by rw [← l]; exact r f)
  exact get_map I.kIn O (c.get f) c.hd n hu (handed_of ru) (h u _ (I.tok _) ru)
theorem getmeth_ok {m : Str} {g : Addr} {pl : Sem Bool} {Q : Value × List Value → Shared → Prop} (I : Inv X pins σ H s) (e : H a = some (.ins C dx fs)) (c : Cls X.K C) (k : Meth X.K C m g) (l : fs.lookup m = none)
    (h : Q (.ref g, [.ref a]) s) : wpAny (model X.prog X.w) A (getMethod (.ref a) m pl) Q E s := by
  obtain ⟨mA, O, r, _, _, _⟩ := ins_get I.hok e
  have hn : mA m = none := RelO.none_of (by rw [← l]; exact r m)
  exact get_meth I.kIn O (c.get m) k.at_ k.fn hn h
theorem setattr_ok {y : V} {u : Value} {Q : Unit → Shared → Prop} (I : Inv X pins σ H s) (e : H a = some (.ins C dx fs)) (c : Cls X.K C) (n : NoAttr X.K C f) (hl : fs.length < 1000) (ry : RelV y u)
    (h : ∀ s', Inv X pins σ (upd H a (.ins C dx (putF f y fs))) s' → Q () s') : wpAny (model X.prog X.w) A (setAttr (.ref a) f u) Q E s := by
  obtain ⟨mA, O, r, wi, _, ho⟩ := ins_get I.hok e
  have hz : (fs.map (·.1)).length ≤ sizeLine := by rw [List.length_map, sizeLine_eq]; omega
  refine set_map I.kIn O c.sa c.po n.taker c.hd wi hz fun h' O' sb => h _ ?_
  have hd : ∃ o, h'.get? dx = some o := let ⟨o, _, _, e', _⟩ := O'.ns; ⟨o, e'⟩
  refine I.write (x := a) (e := dx) (by rw [e]; exact True.intro) (.inr ho) (fun b q hb z => (sb.2 b hb).trans z) hd ?_
  refine ⟨by rw [upd_ne O.ne]; exact ho, ?_, O.ne, O'.obj, _, O'.ns, fun g => ?_, fun g hg => ?_⟩
  · have := length_putF f y fs; omega
  · show RelO ((putF f y fs).lookup g) (if g = f then some u else mA g)
    rw [lookup_putF]
    by_cases q : g = f
    · rw [if_pos q, if_pos q]; exact ry
    · rw [if_neg q, if_neg q]; exact r g
  · by_cases q : g = f
    · rw [q]; exact (keys_putF f y fs).1
    · refine (keys_putF f y fs).2 g (wi g fun z => hg ?_)
      show (if g = f then some u else mA g) = none
      rw [if_neg q]; exact z
theorem Inv.made (I : Inv X pins σ H s) : Inv X pins σ (upd (upd H s.heap.objs.size (.own (s.heap.objs.size + 1))) (s.heap.objs.size + 1) (.ins C s.heap.objs.size []))
    { s with heap := (s.heap.push PySem.W.emptyDict).push (PySem.W.instObj C s.heap.objs.size) } := by
  have e1 : (s.heap.push PySem.W.emptyDict).get? s.heap.objs.size = some PySem.W.emptyDict := Heap.get?_push_size s.heap rfl
  have e2 : ((s.heap.push PySem.W.emptyDict).push (PySem.W.instObj C s.heap.objs.size)).get? (s.heap.objs.size + 1) = some (PySem.W.instObj C s.heap.objs.size) := by
    have := Heap.get?_push_size (s.heap.push PySem.W.emptyDict) (o := PySem.W.instObj C s.heap.objs.size) rfl
    rwa [Heap.size_push] at this
  have e3 : (s.heap.push PySem.W.emptyDict).Ns s.heap.objs.size (fun _ => none) := ⟨PySem.W.emptyDict, #[], _, e1, rfl, (fun e he => absurd he (by simp)), fun _ => rfl⟩
  have I1 := I.laid (a := s.heap.objs.size) (o := .own (s.heap.objs.size + 1)) (h' := s.heap.push PySem.W.emptyDict) (t' := s.toks) (fun b u q => Heap.get?_push_of_some _ q) (Nat.le_refl _) ⟨_, e1⟩
  refine I1.laid (a := s.heap.objs.size + 1) (o := .ins C s.heap.objs.size []) (t' := s.toks) (fun b u q => Heap.get?_push_of_some _ q) (Nat.le_of_eq (Heap.size_push _ _)) ?_
  have ne : s.heap.objs.size ≠ s.heap.objs.size + 1 := Nat.ne_of_lt (Nat.lt_succ_self _)
  refine ⟨by rw [upd_ne ne, upd_same], Nat.zero_le _, ne, e2, fun _ => none, (Heap.Ns1.of_empty e3).at fun o q => Heap.get?_push_of_some _ q, fun _ => True.intro, fun y hy => absurd rfl hy⟩
theorem attr_of {prog : Program} {w : World} {env : Env} {e : Expr} {f : Str} {pos : Pos} {s : Shared} {Q : Value → Shared → Prop} (hb : attributeBase e f env (eval e env) = eval e env)
    (h : wpAny (model prog w) A (eval e env) (fun o s₁ => wpAny (model prog w) A (getAttr o f true) Q E s₁) E s) : wpAny (model prog w) A (eval (.Attribute e f pos) env) Q E s :=
  Attribute_any_ h (by rw [arm_eval_Attribute, hb])
end
noncomputable def tFld (K : PySem.W.Frag) (ta : TE) (f : Str) : TE := fun σ H Q => ta σ H fun x H1 => ∃ a C dx fs v, x = .ref a ∧ H1 a = some (.ins C dx fs) ∧ Cls K C ∧ NoAttr K C f ∧ fs.lookup f = some v ∧ Q v H1
noncomputable def sFld (K : PySem.W.Frag) (ta tv : TE) (f : Str) : TS := fun D σ H => tv σ H fun y H1 => ta σ H1 fun x H2 => ∃ a C dx fs, x = .ref a ∧ H2 a = some (.ins C dx fs) ∧ Cls K C ∧ NoAttr K C f ∧ fs.length < 1000 ∧
  D.nx σ (upd H2 a (.ins C dx (putF f y fs)))
section
variable {X : Cx} {o e value : Expr} {f : Str} {pos pos' tpos : Pos} {ta tv : TE}
theorem pe_fld (he : PE X e ta) (hb : attributeBase e f X.env (eval e X.env) = eval e X.env) : PE X (.Attribute e f pos) (tFld X.K ta f) := by
  intro pins s σ H Q I h
  refine attr_of hb (thn (he pins s σ H _ I h) fun u s1 ⟨x, H1, I1, rx, a, C, dx, fs, v, ex, ea, c, n, l, q⟩ => ?_)
  subst ex
  obtain rfl : u = Value.ref a := rx
  exact getattr_ok I1 ea c n l fun u' s2 I2 ru => ⟨v, H1, I2, ru, q⟩
theorem ps_fld (ha : PE X o ta) (hv : PE X value tv) (hs : swapsWith value (some (.Attribute o f pos')) pos.line X.env = pure false) : PS X (.Assign [.Attribute o f pos'] value pos) (sFld X.K ta tv f) := by
  intro pins s σ H D I h
  refine plainObj_wpAny_Assign_Attribute (thn (hv pins s σ H _ I h) fun u s1 ⟨y, H1, I1, ry, q⟩ => thn (ha pins s1 σ H1 _ I1 q) fun ov s2 ⟨x, H2, I2, rx, a, C, dx, fs, ex, ea, c, n, l, q2⟩ => ?_) hs
  subst ex
  obtain rfl : ov = Value.ref a := rx
  exact setattr_ok I2 ea c n l ry fun s3 I3 => ⟨σ, _, I3, q2⟩
end
section
variable {X : Cx} {pins : List (Addr × Obj)} {σ : St} {H : Hp} {s : Shared} {A : Around} {E : Value → Shared → Prop} {Q : Value → Shared → Prop} {c : Value} {b : Bool}
inductive TyOf (K : PySem.W.Frag) (H : Hp) : V → Value → Prop where
  | non : TyOf K H .non (.type "NoneType")
  | bl (x : Bool) : TyOf K H (.bl x) (.type "bool")
  | int (i : Int) : TyOf K H (.int i) (.type "int")
  | str (x : Str) : TyOf K H (.str x) (.type "str")
  | flt (x : UInt64) : TyOf K H (.flt x) (.type "float")
  | lst {a : Addr} {xs : List V} (e : H a = some (.lst xs)) : TyOf K H (.ref a) (.type "list")
  | frz {a : Addr} {o : Obj} {xs : List V} (e : H a = some (.frz o (.lst xs))) : TyOf K H (.ref a) (.type "list")
  | tup {a : Addr} {xs : List V} (e : H a = some (.tup xs)) : TyOf K H (.ref a) (.type "tuple")
  | dK {a : Addr} {kvs : List (Key × V)} (e : H a = some (.dK kvs)) : TyOf K H (.ref a) (.type "dict")
  | dT {a : Addr} {kvs : List (List Key × V)} (e : H a = some (.dT kvs)) : TyOf K H (.ref a) (.type "dict")
  | ins {a C dx : Addr} {fs : List (Str × V)} (e : H a = some (.ins C dx fs)) (cl : Cls K C) (ha : PySem.W.findIn K (.ref C) "__class__" = some (some (.builtin "object.__class__")))
      (hn : PySem.W.specialIn K (.builtin "object.__class__") "__get__" = some (some (.builtin "getset_descriptor.__get__"))) (htk : PySem.W.takesIn K (.builtin "object.__class__") = some true)
      (hm : PySem.W.mroIn K C (.type "object") = some true) : TyOf K H (.ref a) (.ref C)
theorem isinst_ok {x : V} {u t : Value} (I : Inv X pins σ H s) (rx : RelV x u) (ty : TyOf X.K H x t) (e : PySem.W.kitOne X.K t c = some b) (h : ∀ tk, Q (.bool b) { s with toks := tk }) :
    wpAny (model X.prog X.w) A (call (.builtin "isinstance") [u, c]) Q E s := by
  cases ty with
  | non => cases (show u = Value.none from rx); exact PySem.W.kia_one PySem.W.kitx_none I.kIn True.intro e (fun z => nomatch z) h
  | bl y => cases (show u = Value.bool y from rx); exact PySem.W.kia_one PySem.W.kitx_bool I.kIn True.intro e (fun z => nomatch z) h
  | int i => obtain ⟨t, q⟩ := (show ∃ t, u = Value.int i t from rx); cases q; exact PySem.W.kia_one PySem.W.kitx_int I.kIn True.intro e (fun z => nomatch z) h
  | str y => obtain ⟨t, q⟩ := (show ∃ t, u = Value.str y t from rx); cases q; exact PySem.W.kia_one PySem.W.kitx_str I.kIn True.intro e (fun z => nomatch z) h
  | flt y => obtain ⟨t, q⟩ := (show ∃ t, u = Value.float y t from rx); cases q; exact PySem.W.kia_one PySem.W.kitx_float I.kIn True.intro e (fun z => nomatch z) h
  | @lst a xs ea =>
    cases (show u = Value.ref a from rx)
    obtain ⟨_, _, n, _, h1⟩ := (show ObjOk X.prog X.w H s.heap a (.lst xs) from I.hok a _ ea)
    exact PySem.W.kia_one PySem.W.kitx_list I.kIn ⟨_, h1, rfl⟩ e (fun z => nomatch z) h
  | @frz a ob xs ea =>
    cases (show u = Value.ref a from rx)
    obtain ⟨_, _, _, n, _, h1⟩ := (show ObjOk X.prog X.w H s.heap a (.frz ob (.lst xs)) from I.hok a _ ea)
    exact PySem.W.kia_one PySem.W.kitx_list I.kIn ⟨_, h1, rfl⟩ e (fun z => nomatch z) h
  | @tup a xs ea =>
    cases (show u = Value.ref a from rx)
    obtain ⟨_, _, _, p⟩ := (show ObjOk X.prog X.w H s.heap a (.tup xs) from I.hok a _ ea)
    obtain ⟨o, h1, h2, _⟩ := p
    exact PySem.W.kia_one PySem.W.kitx_tuple I.kIn ⟨o, h1, h2⟩ e (fun z => nomatch z) h
  | @dK a kvs ea =>
    cases (show u = Value.ref a from rx)
    obtain ⟨_, _, vs, _, p⟩ := (show ObjOk X.prog X.w H s.heap a (.dK kvs) from I.hok a _ ea)
    obtain ⟨o, es, ep, h1, h2, _⟩ := p
    exact PySem.W.kia_one PySem.W.kitx_dict I.kIn ⟨o, h1, h2.1⟩ e (fun z => nomatch z) h
  | @dT a kvs ea =>
    cases (show u = Value.ref a from rx)
    obtain ⟨_, _, xs, _, o, es, ep, h1, h2, _⟩ := (show ObjOk X.prog X.w H s.heap a (.dT kvs) from I.hok a _ ea)
    exact PySem.W.kia_one PySem.W.kitx_dict I.kIn ⟨o, h1, h2.1⟩ e (fun z => nomatch z) h
  | @ins a C dx fs ea cl ha hn htk hm =>
    cases (show u = Value.ref a from rx)
    obtain ⟨mA, O, _⟩ := ins_get I.hok ea
    obtain ⟨od, J, _⟩ := O.look
    exact PySem.W.kia_one (PySem.W.kitx_own (cl.get _) cl.hd ha hn htk hm) I.kIn J e (fun z => nomatch z) h
end
end L2
namespace L2
open PySem PySem.Spec PyProof.Rows
structure Room (k : Nat) (A : Around) : Prop where
  hd : A.handled = none
  dp : A.depth + 3 * k + 5 < recursionLimit
  un : A.units + 16 * k + 200 < cLine
theorem Room.mono {j k : Nat} {A : Around} (r : Room k A) (h : j ≤ k) : Room j A := ⟨r.hd, by have := r.dp; omega, by have := r.un; omega⟩
theorem Room.deeper {k : Nat} {A : Around} (r : Room (k + 1) A) (env : Env) : Room k (A.deeper env) :=
  ⟨r.hd, by have := r.dp; show A.depth + 1 + 3 * k + 5 < _; omega, by have := r.un; show A.units + 3 + 16 * k + 200 < _; omega⟩
theorem make_depth {A : Around} {C : Addr} {us : List Value} {kw : List (Str × Value)} : (A.under (.builtin "type.__call__" ⟨.ref C :: us, kw⟩)).depth = A.depth + 1 := by
  first | rfl | simp [Around.under, Code.weight, Code.isCreation, Code.isGuard, Code.isCaller, Code.frames, Code.isFrame, guardIds]
theorem make_units {A : Around} {C : Addr} {us : List Value} {kw : List (Str × Value)} : (A.under (.builtin "type.__call__" ⟨.ref C :: us, kw⟩)).units = A.units + 1 := by
  first | rfl | simp [Around.under, Code.cUnits, Code.frames, Code.isFrame]
theorem Room.make {k : Nat} {A : Around} (r : Room (k + 1) A) (C : Addr) (us : List Value) (kw : List (Str × Value)) : Room k (A.under (.builtin "type.__call__" ⟨.ref C :: us, kw⟩)) :=
  ⟨r.hd, by have := r.dp; rw [make_depth]; omega, by have := r.un; rw [make_units]; omega⟩
theorem Room.depth {k : Nat} {A : Around} (r : Room k A) : A.depth < recursionLimit := by have := r.dp; omega
theorem Room.units {k : Nat} {A : Around} (r : Room k A) : A.units + 64 < cLine := by have := r.un; omega
noncomputable def tNil : TA := fun _ H Q => Q [] H
noncomputable def tCons (ta : TE) (tr : TA) : TA := fun σ H Q => ta σ H fun x H1 => tr σ H1 fun xs H2 => Q (x :: xs) H2
section
variable {X : Cx} {e : Expr} {es : List Expr} {te : TE} {t : TA} {pos : Pos}
theorem pa_nil : PA X [] tNil := fun _ _ _ _ H Q I h => Calls.spliced_nil ⟨[], H, I, .nil, h⟩
theorem pa_cons (ha : PE X e te) (hr : PA X es t) (hs : starEach (e :: es) X.env = (false, eval e X.env) :: starEach es X.env := by rfl) : PA X (e :: es) (tCons te t) := by
  intro pos pins s σ H Q I h
  rw [hs]
  show wpAny _ _ (spliced ((false, eval e X.env) :: backTo pos (starEach es X.env))) _ _ s
  refine Calls.spliced_cons (thn (ha pins s σ H _ I h) fun u s1 ⟨x, H1, I1, r1, q1⟩ => ?_)
  exact thn (hr pos pins s1 σ H1 _ I1 q1) fun us s2 ⟨xs, H2, I2, r2, q2⟩ => ⟨x :: xs, H2, I2, .cons r1 r2, q2⟩
noncomputable def tTup (t : TA) : TE := fun σ H Q => t σ H fun xs H1 => xs.length ≤ sizeLine ∧ ∀ p, H1 p = none → Q (.ref p) (upd H1 p (.tup xs))
noncomputable def tLst (t : TA) : TE := fun σ H Q => t σ H fun xs H1 => xs.length ≤ sizeLine ∧ ∀ p, H1 p = none → Q (.ref p) (upd H1 p (.lst xs))
theorem pe_tup {x1} (h : PA X es t) : PE X (.Tuple es x1 pos) (tTup t) := by
  intro pins s σ H Q I hq
  refine wpAny_Tuple_spliced (thn (h pos pins s σ H _ I hq) fun us s1 ⟨xs, H1, I1, r, z, q⟩ => ⟨by rw [← r.length]; exact z, ?_⟩)
  have hf : H1 s1.heap.objs.size = none := I1.hok.fresh (Nat.le_refl _)
  refine ⟨.ref s1.heap.objs.size, upd H1 s1.heap.objs.size (.tup xs), I1.laid (t' := s1.toks) (fun b u e => Heap.get?_push_of_some _ e) (Nat.le_refl _) ?_, rfl, q _ hf⟩
  exact ⟨z, us, r, ⟨_, Heap.get?_push_size _ rfl, rfl, _, rfl⟩⟩
theorem pe_lst (h : PA X es t) : PE X (.List es pos) (tLst t) := by
  intro pins s σ H Q I hq
  refine wpAny_List_spliced (thn (h pos pins s σ H _ I hq) fun us s1 ⟨xs, H1, I1, r, z, q⟩ => ⟨by rw [← r.length]; exact z, ?_⟩)
  have hf : H1 s1.heap.objs.size = none := I1.hok.fresh (Nat.le_refl _)
  refine ⟨.ref s1.heap.objs.size, upd H1 s1.heap.objs.size (.lst xs), I1.laid (t' := s1.toks) (fun b u e => Heap.get?_push_of_some _ e) (Nat.le_refl _) ?_, rfl, q _ hf⟩
  exact ⟨z, us, 0, r, Heap.get?_push_size _ rfl⟩
end
abbrev Sp := List V → Hp → VK → XK → Prop
abbrev CXT := List Env → Hp → Shared → XK → Value → Shared → Prop
structure Env0 (P : Program) (w : World) (K : PySem.W.Frag) (mg : Str → Option Value) (base : Heap) (A : Around) (outer : List Env) (s : Shared) (H : Hp) : Prop where
  frames : A.frames = some outer
  mod : Mod K mg base
  bs : ∀ b o, base.get? b = some o → s.heap.get? b = some o ∧ H b = none
  bsz : base.objs.size ≤ s.heap.objs.size
  funs : s.heap.FunFrames base outer
  frf : ∀ b ∈ frs outer, H b = none
  hok : HOk P w H s.heap
  bare : AllBare s.gens
noncomputable def CE (outer : List Env) (P : Program) (w : World) (H : Hp) (s : Shared) (Q : VK) (u : Value) (s' : Shared) : Prop :=
  ∃ v H', s'.os = s.os ∧ AllBare s'.gens ∧ Un (frs outer) [] H H' s.heap s'.heap ∧ HOk P w H' s'.heap ∧ RelV v u ∧ Q v H'
noncomputable def CR (CX : CXT) (outer : List Env) (P : Program) (w : World) (H : Hp) (s : Shared) (Q : VK) (E : XK) (r : Result) (s' : Shared) : Prop :=
  match r with
  | .ok (.ret u) => CE outer P w H s Q u s'
  | .ok _ => False
  | .error e => CX outer H s E e s'
structure FnOk (P : Program) (w : World) (K : PySem.W.Frag) (mg : Str → Option Value) (base : Heap) (CX : CXT) (k : Nat) (f : Addr) (fd : FuncData) (ps : List Str) (sp : Sp) : Prop where
  len : ∀ vs H Q E, sp vs H Q E → vs.length = ps.length
  run : ∀ (A : Around) (outer : List Env) (s : Shared) (H : Hp) (args : Args) (us : List Value) (vs : List V) (Q : VK) (E : XK), Room k A → Env0 P w K mg base A outer s H → BindsTo s fd args (ps.zip us) → Vals vs us → sp vs H Q E →
    codeAny (model P w) A (.call (.ref f) args) (CR CX outer P w H s Q E) s
theorem FnOk.mono {P : Program} {w : World} {K : PySem.W.Frag} {mg : Str → Option Value} {base : Heap} {CX : CXT} {j k : Nat} {f : Addr} {fd : FuncData} {ps : List Str} {sp : Sp} (F : FnOk P w K mg base CX j f fd ps sp) (h : j ≤ k) :
    FnOk P w K mg base CX k f fd ps sp := ⟨F.len, fun A outer s H args us vs Q E hr => F.run A outer s H args us vs Q E (hr.mono h)⟩
theorem Env0.make {P : Program} {w : World} {K : PySem.W.Frag} {mg : Str → Option Value} {base : Heap} {A : Around} {outer : List Env} {s : Shared} {H : Hp} (e : Env0 P w K mg base A outer s H) (C : Addr) (us : List Value) (kw : List (Str × Value)) :
    Env0 P w K mg base (A.under (.builtin "type.__call__" ⟨.ref C :: us, kw⟩)) outer s H := ⟨by first | exact e.frames | (simpa [Around.under, Code.envs, Code.isFrame, pushEnvs] using e.frames), e.mod, e.bs, e.bsz, e.funs, e.frf, e.hok, e.bare⟩
section
variable {X : Cx} {pins : List (Addr × Obj)} {σ : St} {H : Hp} {s s' : Shared}
theorem Inv.env0 (I : Inv X pins σ H s) : Env0 X.prog X.w X.K X.mg X.base X.A X.stack s H :=
  ⟨I.ok.frames, I.ok.mod, I.bs, Nat.le_trans I.ok.bsz I.sz, I.stack, I.stkFree, I.hok, I.bare⟩
theorem Inv.after {Q : VK} {u : Value} (I : Inv X pins σ H s) (h : CE X.stack X.prog X.w H s Q u s') : EP X pins σ Q u s' := by
  obtain ⟨v, H', os, bare, un, hok, r, q⟩ := h
  obtain ⟨hh, g, d, t, os'⟩ := s'
  obtain rfl : os' = s.os := os
  exact ⟨v, H', I.call (h' := hh) (g' := g) (d' := d) (t' := t) (ch := []) un hok bare (fun b z => absurd z (by simp)), r, q⟩
end
noncomputable def tCall (sp : Sp) (dvs : List V) (E : XK) (t : TA) : TE := fun σ H Q => t σ H fun vs H1 => sp (vs ++ dvs) H1 Q E
noncomputable def Binds (K : PySem.W.Frag) (fd : FuncData) (ps : List Str) (ds : List Value) : Prop :=
  ∀ (s : Shared) (us : List Value), K.In s.heap → (us ++ ds).length = ps.length → BindsTo s fd ⟨us, []⟩ (ps.zip (us ++ ds))
theorem Binds.all {K : PySem.W.Frag} {fd : FuncData} {ps : List Str} (h : ∀ us : List Value, us.length = ps.length → bindArgs fd ⟨us, []⟩ = pure (ps.zip us)) : Binds K fd ps [] := fun s us _ hl => by
  rw [List.append_nil] at hl ⊢
  exact .of_eq (h us hl)
noncomputable def Passes (CX : CXT) (X : Cx) (E : XK) : Prop := ∀ (pins : List (Addr × Obj)) (σ : St) (H : Hp) (s : Shared) (e : Value) (s' : Shared), Inv X pins σ H s → CX X.stack H s E e s' → X.xe e s'
section
variable {X : Cx} {CX : CXT} {k : Nat} {f C : Addr} {fd : FuncData} {ps : List Str} {sp : Sp} {dvs : List V} {ds : List Value} {E : XK} {x m : Str} {p pos apos : Pos} {e o : Expr} {es : List Expr} {ta : TE} {t : TA}
theorem run_fn {pins : List (Addr × Obj)} {σ : St} {H : Hp} {s : Shared} {Q : VK} {us : List Value} {vs : List V} (F : FnOk X.prog X.w X.K X.mg X.base CX k f fd ps sp) (hr : Room k X.A) (hb : Binds X.K fd ps ds) (hd : Vals dvs ds) (hx : Passes CX X E)
    (I : Inv X pins σ H s) (r : Vals vs us) (h : sp (vs ++ dvs) H Q E) : wpAny (model X.prog X.w) X.A (call (.ref f) us) (EP X pins σ Q) X.xe s := by
  have r2 : Vals (vs ++ dvs) (us ++ ds) := r.append hd
  have hl : (us ++ ds).length = ps.length := by rw [← r2.length]; exact F.len _ _ _ _ h
  refine wpAny_call (codeAny_mono (F.run X.A X.stack s H ⟨us, []⟩ (us ++ ds) (vs ++ dvs) Q E hr I.env0 (hb s us I.kIn hl) r2 h) fun r s' hq => ?_)
  cases r with
  | error e => exact hx pins σ H s e s' I hq
  | ok fl =>
    cases fl with
    | ret u => exact I.after hq
    | next => exact False.elim hq
    | brk => exact False.elim hq
    | cont => exact False.elim hq
theorem pe_call (F : FnOk X.prog X.w X.K X.mg X.base CX k f fd ps sp) (hr : Room k X.A) (hg : Gl X x) (hm : X.mg x = some (.ref f)) (hk : PySem.W.keepIn X.K (.ref f) = true) (hb : Binds X.K fd ps ds) (hd : Vals dvs ds) (hx : Passes CX X E)
    (ha : PA X (e :: es) t) (hdb : (x == ("__debug__" : Str)) = false := by decide) (he : starEach (e :: es) X.env = (false, eval e X.env) :: starEach es X.env := by rfl) (hpl : (backTo pos (starEach es X.env)).any (·.1) = false := by rfl) :
    PE X (.Call (.Name x p) (e :: es) [] pos) (tCall sp dvs E t) := by
  intro pins s σ H Q I h
  refine wpAny_Call_Name_kw (ld_glob I hg hm ?_ hdb)
  refine PySem.W.callWith_K (h₀ := X.base) I.ok.mod.kin hk (thn (ha pos pins s σ H _ I h) fun us s1 ⟨vs, H1, I1, r, q⟩ => ⟨I1.kIn, ?_⟩) he hpl
  exact run_fn F hr hb hd hx I1 r q
structure Mk (K : PySem.W.Frag) (C f : Addr) : Prop where
  makes : PySem.W.makesIn K C = true
  init : PySem.W.findIn K (.ref C) "__init__" = some (some (.ref f))
  fn : PySem.W.isFn K (.ref f) = true
  kp : PySem.W.keepIn K (.ref C) = true
end
section
variable {X : Cx} {CX : CXT} {k : Nat} {f C : Addr} {fd : FuncData} {ps ks : List Str} {sp : Sp} {E : XK} {x m : Str} {p pos apos kpos : Pos} {e o : Expr} {es : List Expr} {kws : List Keyword} {te ta : TE} {t tk : TA} {nm : Option Str}
structure KBinds (K : PySem.W.Frag) (fd : FuncData) (ps ks : List Str) (g : List Value → List Value → List Value) (gV : List V → List V → List V) : Prop where
  to : ∀ (s : Shared) (us ws : List Value), K.In s.heap → (g us ws).length = ps.length → BindsTo s fd ⟨us, ks.zip ws⟩ (ps.zip (g us ws))
  rel : ∀ {vs : List V} {us : List Value} {zs : List V} {ws : List Value}, Vals vs us → Vals zs ws → Vals (gV vs zs) (g us ws)
variable {g : List Value → List Value → List Value} {gV : List V → List V → List V}
end
structure FnScope (N P : List Str) (sc : Scope) : Prop where
  kind : sc.kind = .function
  co : sc.isCoroutine = false
  gen : sc.isGenerator = false
  nd : N.Nodup
  pre : N.take P.length = P
  par : ∀ x ∈ P, sc.names.lookup x = some .local ∨ sc.names.lookup x = some .cell
  nofree : ∀ y ∈ sc.names, y.2 ≠ .free
theorem bindL_out {kindOf : Str → Option NameKind} {x : Str} : ∀ {binds : List (Str × Value)} {m : Str → Option Value}, (∀ v, (x, v) ∉ binds) → bindL kindOf binds m x = m x
  | [], _, _ => rfl
  | (n, v) :: r, m, h => by
    unfold bindL
    rw [bindL_out fun w hw => h w (List.mem_cons_of_mem _ hw)]
    split
    · have : x ≠ n := by rintro rfl; exact h v List.mem_cons_self
      simp [this]
    · rfl
theorem bindC_out {kindOf : Str → Option NameKind} {x : Str} : ∀ {binds : List (Str × Value)} {m : Str → Option Value}, (∀ v, (x, v) ∉ binds) → bindC kindOf binds m x = m x
  | [], _, _ => rfl
  | (n, v) :: r, m, h => by
    unfold bindC
    rw [bindC_out fun w hw => h w (List.mem_cons_of_mem _ hw)]
    split
    · rfl
    · have : x ≠ n := by rintro rfl; exact h v List.mem_cons_self
      simp [this]
theorem bindL_get {kindOf : Str → Option NameKind} {x : Str} {v : Value} : ∀ {P : List Str} {vs : List Value} {i : Nat} {m : Str → Option Value}, P.Nodup → P[i]? = some x → vs[i]? = some v → kindOf x = some .local →
    bindL kindOf (P.zip vs) m x = some v
  | [], _, _, _, _, h, _, _ => by simp at h
  | _ :: _, [], _, _, _, _, h, _ => by simp at h
  | p :: P, w :: vs, 0, m, nd, h1, h2, hk => by
    simp at h1 h2; subst h1; subst h2
    show bindL kindOf ((p, w) :: P.zip vs) m p = _
    unfold bindL
    rw [bindL_out fun v hv => (List.nodup_cons.mp nd).1 (List.of_mem_zip hv).1, if_pos hk]
    simp
  | p :: P, w :: vs, i + 1, m, nd, h1, h2, hk => by
    show bindL kindOf ((p, w) :: P.zip vs) m x = _
    unfold bindL
    exact bindL_get (i := i) (List.nodup_cons.mp nd).2 (by simpa using h1) (by simpa using h2) hk
theorem bindC_get {kindOf : Str → Option NameKind} {x : Str} {v : Value} : ∀ {P : List Str} {vs : List Value} {i : Nat} {m : Str → Option Value}, P.Nodup → P[i]? = some x → vs[i]? = some v → kindOf x ≠ some .local →
    bindC kindOf (P.zip vs) m x = some v
  | [], _, _, _, _, h, _, _ => by simp at h
  | _ :: _, [], _, _, _, _, h, _ => by simp at h
  | p :: P, w :: vs, 0, m, nd, h1, h2, hk => by
    simp at h1 h2; subst h1; subst h2
    show bindC kindOf ((p, w) :: P.zip vs) m p = _
    unfold bindC
    rw [bindC_out fun v hv => (List.nodup_cons.mp nd).1 (List.of_mem_zip hv).1, if_neg hk]
    simp
  | p :: P, w :: vs, i + 1, m, nd, h1, h2, hk => by
    show bindC kindOf ((p, w) :: P.zip vs) m x = _
    unfold bindC
    exact bindC_get (i := i) (List.nodup_cons.mp nd).2 (by simpa using h1) (by simpa using h2) hk
noncomputable def start (N : List Str) (vs : List V) : St := vs.map some ++ List.replicate (N.length - vs.length) none
noncomputable def cxOf (CX : CXT) (P : Program) (w : World) (K : PySem.W.Frag) (mg : Str → Option Value) (base : Heap) (N : List Str) (qual : Str) (scope : Scope) (f : Addr) (cd : Value) (A : Around) (outer : List Env) (s : Shared) (H : Hp) (E : XK) : Cx where
  prog := P
  w := w
  K := K
  mg := mg
  base := base
  A := A.deeper (envOfC qual scope s.heap.objs.size f cd)
  N := N
  s₀ := s
  H₀ := H
  env := envOfC qual scope s.heap.objs.size f cd
  outer := outer
  stack := envOfC qual scope s.heap.objs.size f cd :: outer
  ex := []
  calm := true
  fn := fun _ => true
  pn := []
  xe := fun e s' => wpAny (model P w) (A.deeper (envOfC qual scope s.heap.objs.size f cd)) (leaving (envOfC qual scope s.heap.objs.size f cd) e) (fun _ s'' => CX outer H s E e s'') (fun e' s'' => CX outer H s E e' s'') s'
theorem cell_has {sc : Scope} {n : Nat} {x : Str} (h : sc.names.lookup x = some .cell) : ∃ c, (cellsFrom n sc.names []).lookup x = some c := by
  have q := PySem.W.cellsFrom_some sc.names n [] (.inl h)
  exact Option.isSome_iff_exists.mp q
theorem inv_start {CX : CXT} {P : Program} {w : World} {K : PySem.W.Frag} {mg : Str → Option Value} {base : Heap} {N ps : List Str} {qual : Str} {scope : Scope} {f : Addr} {cd : Value} {A : Around} {outer : List Env} {s s1 : Shared} {H : Hp} {E : XK} {us : List Value} {vs : List V}
    (S : FnScope N ps scope) (hd : A.handled = none) (e0 : Env0 P w K mg base A outer s H) (hl : vs.length = ps.length) (r : Vals vs us)
    (x : InCallC s s.heap.objs.size (bindL (envOfC qual scope s.heap.objs.size f cd).kindOf (ps.zip us) fun _ => none) (cellsFrom (s.heap.objs.size + 1) scope.names []) (bindC (envOfC qual scope s.heap.objs.size f cd).kindOf (ps.zip us) fun _ => none) s1) :
    Inv (cxOf CX P w K mg base N qual scope f cd A outer s H E) [] (start N vs) H s1 := by
  have hpl : ps.length ≤ N.length := by have := congrArg List.length S.pre; rw [List.length_take] at this; omega
  obtain ⟨h1, tk, rfl, hk⟩ := x.done
  have noA : ∀ b : Addr, b ∉ (cxOf CX P w K mg base N qual scope f cd A outer s H E).ex := fun b z => absurd (show b ∈ ([] : List Addr) from z) (by simp)
  refine ⟨⟨e0.mod, S.kind, rfl, rfl, Nat.le_refl _, fun y z c h1 h2 => ?_, fun y hy => ?_, fun y c _ h => ?_, fun _ => hd, Around.frames_deeper e0.frames, .inr ⟨rfl, rfl⟩, fun b z => absurd z (noA b), e0.bs, e0.bsz, fun b _ _ => noA b, fun b z => absurd z (noA b), e0.funs, e0.frf⟩,
    rfl, e0.bare, Un.kept hk, ⟨_, x.toInCall.ns, fun i y v h1 h2 h3 => ?_⟩, fun y c h => ⟨_, x.cell y c h⟩, e0.hok.fresh (Nat.le_refl _), fun y c h => ?_, fun p hp => absurd (show p ∈ ([] : List (Addr × Obj)) from hp) (by simp), e0.hok.kept hk, ?_⟩
  · exact name_of_addr x.apart (PySem.mem_of_lookup h1) (PySem.mem_of_lookup h2)
  · have hy : scope.names.lookup y = some .cell ∨ scope.names.lookup y = some .free := hy
    rcases hy with hy | hy
    · exact cell_has hy
    · exact absurd rfl (S.nofree _ (PySem.mem_of_lookup hy))
  · exact Nat.le_of_lt (x.above y c (PySem.mem_of_lookup h))
  · have hi : i < vs.length := by
      unfold start at h2
      by_cases hi : i < vs.length
      · exact hi
      · rw [List.getElem?_append_right (by simpa using hi)] at h2
        rw [List.getElem?_replicate] at h2
        split at h2 <;> cases h2
    have ha : vs[i]? = some v := by
      unfold start at h2
      rw [List.getElem?_append_left (by simpa using hi), List.getElem?_map] at h2
      cases e : vs[i]? with
      | none => rw [e] at h2; cases h2
      | some a => rw [e] at h2; cases h2; rfl
    obtain ⟨u, hu, rv⟩ := r.get ha
    have hp : ps[i]? = some y := by
      rw [← S.pre, List.getElem?_take_of_lt (by omega)]; exact h1
    have ndP : ps.Nodup := by rw [← S.pre]; exact S.nd.sublist (List.take_sublist _ _)
    refine ⟨u, rv, ?_⟩
    rcases S.par y (List.mem_of_getElem? hp) with k | k
    · exact .inl ⟨k, bindL_get ndP hp hu k⟩
    · obtain ⟨c, e⟩ := cell_has (n := s.heap.objs.size + 1) k
      refine .inr ⟨.inl k, c, e, ?_⟩
      have q := x.cell y c e
      rw [bindC_get ndP hp hu (by show scope.names.lookup y ≠ _; rw [k]; decide)] at q
      exact q
  · exact e0.hok.fresh (Nat.le_of_lt (x.above y c (PySem.mem_of_lookup h)))
  · unfold start
    show _ = N.length
    rw [List.length_append, List.length_map, List.length_replicate]
    omega
theorem fn_of {CX : CXT} {P : Program} {w : World} {K : PySem.W.Frag} {mg : Str → Option Value} {base : Heap} {k : Nat} {f : Addr} {name qual : Str} {params : Arguments} {body : List Stmt} {scope : Scope} {dV kV doc pm cdv ct oc : Value} {an od : Option Addr}
    {osl : Array (Option Value)} {N ps : List Str} {sp : Sp} (lk : K.lookup f = some ⟨oc, od, .func (PySem.W.fnOf name qual params body scope dV kV doc pm an cdv ct), osl⟩) (hcd : PySem.W.codeIn K cdv qual = true) (S : FnScope N ps scope)
    (len : ∀ vs H Q E, sp vs H Q E → vs.length = ps.length)
    (hbody : ∀ (A : Around) (outer : List Env) (s : Shared) (H : Hp) (vs : List V) (Q : VK) (E : XK), Room k (A.deeper (envOfC qual scope s.heap.objs.size f cdv)) → sp vs H Q E →
      ∃ t, PSs (cxOf CX P w K mg base N qual scope f cdv A outer s H E) body t ∧ t { nx := fun _ H' => Q .non H', rt := Q } (start N vs) H) :
    FnOk P w K mg base CX (k + 1) f (PySem.W.fnOf name qual params body scope dV kV doc pm an cdv ct) ps sp := by
  refine ⟨len, fun A outer s H args us vs Q E hr e0 hb r hsp => ?_⟩
  have hl := len _ _ _ _ hsp
  have KX : K.In s.heap := e0.mod.kin.keeps fun b o e => (e0.bs b o e).1
  have lim : s.heap.NoLimit := e0.mod.nolimit.keeps fun b o e => (e0.bs b o e).1
  have hkind : ∀ y ∈ ps.zip us, scope.names.lookup y.1 = some .local ∨ (scope.names.lookup y.1 = some .cell ∧ ((cellsFrom (s.heap.objs.size + 1) scope.names []).lookup y.1).isSome = true) := fun ⟨n, v⟩ hy => by
    rcases S.par n (List.of_mem_zip hy).1 with q | q
    · exact .inl q
    · exact .inr ⟨q, PySem.W.cellsFrom_some _ _ _ (.inl q)⟩
  refine codeAny_call_function hr.depth (KX _ _ lk) rfl S.co S.gen rfl (PySem.W.codeRec_of KX hcd) (hb _ _ _ _ ?_)
  refine wpAny_newFunctionEnv_cells S.kind hkind fun env he s1 x => ?_
  subst he
  refine ⟨lim.keeps x.toInCall.keep, codeAny_func ?_⟩
  obtain ⟨t, ht, hq⟩ := hbody A outer s H vs Q E (hr.deeper _) hsp
  have I : Inv (cxOf CX P w K mg base N qual scope f cdv A outer s H E) [] (start N vs) H s1 := inv_start S hr.hd e0 hl r x
  refine wpAny_mono (ht [] s1 (start N vs) H _ I hq) (fun fl s' hs => ?_) fun e s' hs => hs
  have fin : ∀ {σ' : St} {H' : Hp} {v : V} {u : Value}, Inv (cxOf CX P w K mg base N qual scope f cdv A outer s H E) [] σ' H' s' → RelV v u → Q v H' → CE outer P w H s Q u s' :=
    fun {σ' H' v u} J rv q => ⟨v, H', J.os, J.bare, J.base, J.hok, rv, q⟩
  cases fl with
  | ret u =>
    obtain ⟨v, σ', H', J, rv, q⟩ := hs
    exact fin J rv q
  | next =>
    obtain ⟨σ', H', J, q⟩ := hs
    exact fin (v := V.non) (u := Value.none) J rfl q
  | brk =>
    obtain ⟨_, _, _, q⟩ := hs
    exact False.elim q
  | cont =>
    obtain ⟨_, _, _, q⟩ := hs
    exact False.elim q
end L2
namespace L2
open PySem PySem.Spec PyProof.Rows
section
variable {X : Cx} {x : Str} {p pos : Pos} {e : Expr} {es : List Expr} {t : TA} {id T : String} {r : List V → Hp → VK → Prop}
noncomputable def tCB (r : List V → Hp → VK → Prop) (t : TA) : TE := fun σ H Q => t σ H fun vs H1 => r vs H1 Q
theorem pe_callB (hc : CallR X (.builtin id) r) (hg : Gl X x) (hm : X.mg x = none) (hv : bootBuiltins x = some (.builtin id)) (ha : PA X (e :: es) t) (hn : x ≠ "__name__" := by decide) (hdb : (x == ("__debug__" : Str)) = false := by decide)
    (he : starEach (e :: es) X.env = (false, eval e X.env) :: starEach es X.env := by rfl) (hpl : (backTo pos (starEach es X.env)).any (·.1) = false := by rfl) : PE X (.Call (.Name x p) (e :: es) [] pos) (tCB r t) := by
  intro pins s σ H Q I h
  refine wpAny_Call_Name_kw (ld_blt I hg hm hv ?_ hn hdb)
  exact PyProof.Rows.callWith_builtin1 (thn (ha pos pins s σ H _ I h) fun us s1 ⟨vs, H1, I1, r1, q1⟩ => hc pins s1 σ H1 vs us Q I1 r1 q1) he hpl
theorem pe_callTy (hc : CallR X (.type T) r) (hg : Gl X x) (hm : X.mg x = none) (hv : bootBuiltins x = some (.type T)) (ha : PA X (e :: es) t) (hn : x ≠ "__name__" := by decide) (hdb : (x == ("__debug__" : Str)) = false := by decide)
    (he : starEach (e :: es) X.env = (false, eval e X.env) :: starEach es X.env := by rfl) (hpl : (backTo pos (starEach es X.env)).any (·.1) = false := by rfl) : PE X (.Call (.Name x p) (e :: es) [] pos) (tCB r t) := by
  intro pins s σ H Q I h
  refine wpAny_Call_Name_kw (ld_blt I hg hm hv ?_ hn hdb)
  exact PyProof.Rows.callWith_type1 (thn (ha pos pins s σ H _ I h) fun us s1 ⟨vs, H1, I1, r1, q1⟩ => hc pins s1 σ H1 vs us Q I1 r1 q1) he hpl
end
end L2
namespace HT
open PySem PyProof.Rows
section
open PySem.SeqAt
open PySem.AutoSeq1 (wpAny_loadPart')
open PySem.MeetsSeq PySem.MeetsSeq2 PySem.MeetsSeq3
end
section
variable {prog : Program} {w : World} {A : Around} {E : Value → Shared → Prop} {s : Shared}
noncomputable def sIx (n d : Nat) : Option Int → Nat
  | none => d
  | some v => if v < 0 then (v + (n : Int)).toNat else min v.toNat n
theorem sIx_nat (n d k : Nat) : sIx n d (some (k : Int)) = min k n := by
  show (if (k : Int) < 0 then ((k : Int) + (n : Int)).toNat else min (k : Int).toNat n) = min k n
  rw [if_neg (by omega), Int.toNat_natCast]
end
end HT
namespace L2
open PySem PySem.Spec PyProof.Rows
abbrev TO := St → Hp → (Option Int → Hp → Prop) → Prop
noncomputable def PO (X : Cx) (e : Option Expr) (t : TO) : Prop :=
  ∀ (pins : List (Addr × Obj)) (s : Shared) (σ : St) (H : Hp) (Q : Option Int → Hp → Prop), Inv X pins σ H s → t σ H Q →
    wpAny (model X.prog X.w) X.A (evalPart e X.env) (fun u s' => ∃ o H', Inv X pins σ H' s' ∧ IsPart u o ∧ Q o H') X.xe s
noncomputable def tNoPart : TO := fun _ H Q => Q none H
noncomputable def tPart (t : TE) : TO := fun σ H Q => t σ H fun x H1 => ∃ i, x = .int i ∧ Q (some i) H1
theorem intsAre_of {ns : List Int} : ∀ {us : List Value}, Vals (ns.map V.int) us → IntsAre us ns := by
  induction ns with
  | nil => intro us r; rw [List.map_nil] at r; cases r; exact .nil
  | cons n ns ih =>
    intro us r
    rw [List.map_cons] at r
    cases r with
    | cons r1 r2 =>
      obtain ⟨t, e⟩ := r1
      subst e
      exact .cons n t (ih r2)
section
variable {X : Cx} {e : Expr} {te : TE} {lo hi : Option Expr} {tl th : TO} {pos p2 : Pos}
theorem po_none : PO X none tNoPart := by
  intro pins s σ H Q I h
  rw [evalPart_none]
  exact wpAny_pure ⟨none, H, I, .none, h⟩
theorem po_some (h : PE X e te) : PO X (some e) (tPart te) := by
  intro pins s σ H Q I hw
  rw [evalPart_some]
  refine thn (h pins s σ H _ I hw) fun u s1 ⟨x, H1, I1, r1, q1⟩ => ?_
  obtain ⟨i, rfl, q⟩ := q1
  obtain ⟨t, rfl⟩ := r1
  exact ⟨some i, H1, I1, .int i t, q⟩
noncomputable def SlR (X : Cx) (r : V → Option Int → Option Int → Hp → VK → Prop) : Prop :=
  ∀ (pins : List (Addr × Obj)) (s : Shared) (σ : St) (H : Hp) (x : V) (v vl vu : Value) (lo hi : Option Int) (sl : Addr) (Q : VK), Inv X pins σ H s → RelV x v → s.heap.IsSliceOf sl vl vu .none → IsPart vl lo → IsPart vu hi → r x lo hi H Q →
    ∃ T id, typeLookup (.type T) "__getitem__" = pure (some (.builtin id)) ∧ s.TypeIs v T ∧ wpAny (model X.prog X.w) X.A (getItem v (.ref sl)) (EP X pins σ Q) X.xe s
noncomputable def tSl (r : V → Option Int → Option Int → Hp → VK → Prop) (te : TE) (tl th : TO) : TE := fun σ H Q => te σ H fun x H1 => tl σ H1 fun l H2 => th σ H2 fun u H3 => r x l u H3 Q
theorem pe_slice {r : V → Option Int → Option Int → Hp → VK → Prop} (hr : SlR X r) (he : PE X e te) (hl : PO X lo tl) (hu : PO X hi th) : PE X (.Subscript e (.Slice lo hi none p2) pos) (tSl r te tl th) := by
  intro pins s σ H Q I h
  refine Subscript_ (thn (he pins s σ H _ I h) fun v s1 ⟨x, H1, I1, r1, q1⟩ => ?_)
  refine wpAny_Slice (thn (hl pins s1 σ H1 _ I1 q1) fun vl s2 ⟨l, H2, I2, pl, q2⟩ => thn (hu pins s2 σ H2 _ I2 q2) fun vu s3 ⟨u, H3, I3, pu, q3⟩ => ?_)
  rw [evalPart_none]
  refine wpAny_pure ?_
  have I4 : Inv X pins σ H3 { s3 with heap := s3.heap.push { cls := .type "slice", data := .fields #[vl, vu, .none] } } := I3.kept (t' := s3.toks) fun b ob q => Heap.get?_push_of_some _ q
  obtain ⟨T, id, hT, ht, hg⟩ := hr pins { s3 with heap := s3.heap.push { cls := .type "slice", data := .fields #[vl, vu, .none] } } σ H3 x v vl vu l u s3.heap.objs.size Q I4 r1 (Heap.IsSliceOf.new ..) pl pu q3
  show wpAny (model X.prog X.w) X.A (subscriptTail e (.Slice lo hi none p2) v (.ref s3.heap.objs.size)) (EP X pins σ Q) X.xe { s3 with heap := s3.heap.push { cls := .type "slice", data := .fields #[vl, vu, .none] } }
  exact tail_any (ops := [.ref s3.heap.objs.size, v]) ht hT hg (by with_unfolding_all rfl)
noncomputable def cutV (xs : List V) (lo hi : Option Int) : List V := (xs.drop (HT.sIx xs.length 0 lo)).take (HT.sIx xs.length xs.length hi - HT.sIx xs.length 0 lo)
theorem cutV_length (xs : List V) (lo hi : Option Int) : (cutV xs lo hi).length ≤ xs.length := by
  unfold cutV
  rw [List.length_take, List.length_drop]
  omega
end
end L2
namespace L2
open PySem PySem.Spec PyProof.Rows
noncomputable def ixN (n : Nat) (i : Int) : Option Nat := if 0 ≤ i then (if i < n then some i.toNat else none) else if -(n : Int) ≤ i then some (i + n).toNat else none
noncomputable def atI {α : Type} (xs : List α) (i : Int) : Option α := (ixN xs.length i).bind fun j => xs[j]?
theorem ixN_seq {n : Nat} {i : Int} {j : Nat} (h : ixN n i = some j) : seqIndex? i n = some j ∧ j < n ∧ -(n : Int) ≤ i ∧ i < n := by
  unfold ixN at h
  by_cases h0 : 0 ≤ i
  · rw [if_pos h0] at h
    by_cases h1 : i < n
    · rw [if_pos h1] at h
      have e : i.toNat = j := Option.some.inj h
      exact ⟨by rw [seqIndex_of h0 h1, e], by omega, by omega, h1⟩
    · rw [if_neg h1] at h; cases h
  · rw [if_neg h0] at h
    by_cases h1 : -(n : Int) ≤ i
    · rw [if_pos h1] at h
      have e : (i + n).toNat = j := Option.some.inj h
      exact ⟨by rw [seqIndex_neg (by omega) h1, e], by omega, h1, by omega⟩
    · rw [if_neg h1] at h; cases h
theorem atI_get {α : Type} {xs : List α} {i : Int} {v : α} (h : atI xs i = some v) : ∃ j, seqIndex? i xs.length = some j ∧ xs[j]? = some v ∧ j < xs.length ∧ -(xs.length : Int) ≤ i ∧ i < xs.length := by
  unfold atI at h
  cases e : ixN xs.length i with
  | none => rw [e] at h; cases h
  | some j =>
    rw [e] at h
    obtain ⟨h1, h2, h3, h4⟩ := ixN_seq e
    exact ⟨j, h1, h, h2, h3, h4⟩
theorem atI_nat {α : Type} {xs : List α} {j : Nat} {v : α} (h : xs[j]? = some v) : atI xs (j : Int) = some v := by
  have hj : j < xs.length := (List.getElem?_eq_some_iff.mp h).1
  have e : ixN xs.length (j : Int) = some j := by
    unfold ixN
    rw [if_pos (by omega), if_pos (by omega)]; simp
  unfold atI; rw [e]; exact h
noncomputable def PlainIx (b : Expr) : Prop := ∀ o i, subscripted b false o i = operate [o, i] (getItem o i)
noncomputable def IxR (X : Cx) (r : R2) : Prop :=
  ∀ (value slice : Expr) (pins : List (Addr × Obj)) (s : Shared) (σ : St) (H : Hp) (x y : V) (v u : Value) (Q : VK), Inv X pins σ H s → RelV x v → RelV y u → r x y H Q →
    subscripted slice false v u = operate [v, u] (getItem v u) → wpAny (model X.prog X.w) X.A (subscriptTail value slice v u) (EP X pins σ Q) X.xe s
noncomputable def MtR (X : Cx) (id : String) (r : V → List V → Hp → VK → Prop) : Prop :=
  ∀ (pins : List (Addr × Obj)) (s : Shared) (σ : St) (H : Hp) (x : V) (xs : List V) (v : Value) (us : List Value) (Q : VK), Inv X pins σ H s → RelV x v → Vals xs us → r x xs H Q →
    wpAny (model X.prog X.w) X.A (call (.builtin id) (v :: us)) (EP X pins σ Q) X.xe s
section
variable {X : Cx} {a b : Expr} {ta tb : TE} {pos : Pos}
theorem pe_ix {r : R2} (hr : IxR X r) (ha : PE X a ta) (hb : PE X b tb) (hs : PlainIx b) : PE X (.Subscript a b pos) (tOp r ta tb) := by
  intro pins s σ H Q I h
  exact Subscript_ (binT ha hb I h fun v u s2 x y H2 I2 rx ry q => hr a b pins s2 σ H2 x y v u Q I2 rx ry q (hs _ _))
noncomputable def rIxL (K : PySem.W.Frag) : R2 := fun x y H Q => ∃ p xs i v, x = .ref p ∧ y = .int i ∧ SqL K H p xs ∧ atI xs i = some v ∧ Q v H
noncomputable def rIxS : R2 := fun x y H Q => ∃ z i c, x = .str z ∧ y = .int i ∧ z.length ≤ sizeLine ∧ atI z.cps.toList i = some c ∧ Q (.str ⟨#[c]⟩) H
theorem ix_list : IxR X (rIxL X.K) := by
  intro value slice pins s σ H x y v u Q I rx ry h hs
  obtain ⟨p, xs, i, z, rfl, rfl, hq, he, q⟩ := h
  cases rx
  obtain ⟨t, rfl⟩ := ry
  obtain ⟨its, r, pl, hz⟩ := I.list hq
  obtain ⟨j, h1, h2, h3, h4, h5⟩ := atI_get he
  obtain ⟨w, ew, rw'⟩ := r.get h2
  have hl := r.length
  have hn := line63
  have fin : EP X pins σ Q w s := ⟨z, H, I, rw', q⟩
  by_cases h0 : 0 ≤ i
  · have hj : i.toNat = j := by
      rw [seqIndex_of h0 h5] at h1
      exact Option.some.inj h1
    exact item_listR pl.isList h0 (by omega) (by rw [hj]; simpa using ew) fin hs
  · have hj : (i + (its.toArray.size : Int)).toNat = j := by
      rw [seqIndex_neg (by omega) h4] at h1
      rw [List.size_toArray, ← hl]
      exact Option.some.inj h1
    exact subscriptTail_builtinR (x := w) pl.isList.typeIs slot_list_getitem.lookup
      (wpAny_getItem_list_neg (Q := fun r s' => r = w ∧ EP X pins σ Q r s') pl.isList (by omega) (by rw [List.size_toArray] <;> omega) (by omega) (by rw [hj]; simpa using ew) ⟨rfl, fin⟩) hs
theorem ix_str : IxR X rIxS := by
  intro value slice pins s σ H x y v u Q I rx ry h hs
  obtain ⟨z, i, c, rfl, rfl, hz, he, q⟩ := h
  obtain ⟨t, rfl⟩ := rx
  obtain ⟨t', rfl⟩ := ry
  obtain ⟨j, h1, h2, h3, h4, h5⟩ := atI_get he
  have hl : z.cps.toList.length = z.length := by simp [Str.length]
  rw [hl] at h1 h4 h5
  have hn := line63
  exact tail_any (typeIs_str s z t) slot_str_getitem.lookup (getItem_str (c := c) (by
    have e1 : decide (i < -(2 ^ 63 : Int)) = false := decide_eq_false (by omega)
    have e2 : decide (i ≥ 2 ^ 63) = false := decide_eq_false (by omega)
    rw [e1, e2, Bool.or_false]) (by rw [h1]; simpa using h2) ⟨.str ⟨#[c]⟩, H, I.tok _, ⟨_, rfl⟩, q⟩) hs
theorem mapSeq_set (its : List Value) (n j : Nat) (u : Value) : Obj.mapSeq (·.setIfInBounds j u) { cls := .type "list", data := .seq its.toArray n } = { cls := .type "list", data := .seq (its.set j u).toArray n } := by
  simp [Obj.mapSeq]
theorem Inv.lst {pins : List (Addr × Obj)} {σ : St} {H : Hp} {s : Shared} {p : Addr} {xs : List V} (I : Inv X pins σ H s) (h : H p = some (.lst xs)) :
    ∃ (its : List Value) (n : Nat), Vals xs its ∧ s.heap.get? p = some { cls := .type "list", data := .seq its.toArray n } ∧ xs.length ≤ sizeLine := by
  obtain ⟨z, its, n, r, e⟩ := I.hok p _ h
  exact ⟨its, n, r, e, z⟩
theorem Inv.lstUpd {pins : List (Addr × Obj)} {σ : St} {H : Hp} {s : Shared} {p : Addr} {xs ys : List V} {its its' : List Value} {n n' : Nat} {f : Obj → Obj} (I : Inv X pins σ H s) (h : H p = some (.lst xs))
    (ho : s.heap.get? p = some { cls := .type "list", data := .seq its.toArray n }) (hf : f { cls := .type "list", data := .seq its.toArray n } = { cls := .type "list", data := .seq its'.toArray n' }) (r : Vals ys its') (hz : ys.length ≤ sizeLine) (t : Nat) :
    Inv X pins σ (upd H p (.lst ys)) { s with heap := s.heap.update p f, toks := t } := by
  have e : (s.heap.update p f).get? p = some { cls := .type "list", data := .seq its'.toArray n' } := by
    rw [Heap.get?_update_self f ho (by rw [hf] <;> rfl), hf]
  refine I.write (x := p) (e := p) (by rw [h]; trivial) (.inl rfl) (fun b u hb q => (Heap.get?_update_other _ _ (Ne.symm hb)).trans q) ⟨_, e⟩ ?_
  exact ⟨hz, its', n', r, e⟩
noncomputable def rSetL : V → V → V → Hp → (Hp → Prop) → Prop := fun o i v H Q => ∃ p xs k j, o = .ref p ∧ i = .int k ∧ H p = some (.lst xs) ∧ ixN xs.length k = some j ∧ Q (upd H p (.lst (xs.set j v)))
theorem set_list : PSet X rSetL := by
  intro pins s σ H o i v ov iv u Q I ro ri rv h
  obtain ⟨p, xs, k, j, rfl, rfl, hp, hj, q⟩ := h
  cases ro
  obtain ⟨t, rfl⟩ := ri
  obtain ⟨its, n, r, ho, hz⟩ := I.lst hp
  obtain ⟨h1, h2, h3, h4⟩ := ixN_seq hj
  have hl := r.length
  have hn := line63
  have I' : Inv X pins σ (upd H p (.lst (xs.set j v))) { s with heap := s.heap.update p (Obj.mapSeq (·.setIfInBounds j u)) } :=
    I.lstUpd hp ho (mapSeq_set its n j u) (r.set rv j) (by rw [List.length_set]; exact hz) s.toks
  by_cases h0 : 0 ≤ k
  · have hk : k.toNat = j := by
      rw [seqIndex_of h0 h4] at h1
      exact Option.some.inj h1
    exact PySem.W.ki_setAt ho h0 (by omega) (by rw [List.size_toArray, ← hl]; exact h4) (by rw [hk]; exact ⟨_, I', q⟩)
  · have hk : (k + (its.toArray.size : Int)).toNat = j := by
      rw [seqIndex_neg (by omega) h3] at h1
      rw [List.size_toArray, ← hl]
      exact Option.some.inj h1
    exact PySem.W.ki_setBack ho (by omega) (by rw [List.size_toArray, ← hl]; exact h3) (by omega) (by rw [hk]; exact ⟨_, I', q⟩)
theorem slice_bounds (lo hi : Option Int) (n : Nat) : (sliceBounds lo hi none n).1 = ((HT.sIx n 0 lo : Nat) : Int) ∧ (sliceBounds lo hi none n).2.1 = ((HT.sIx n n hi : Nat) : Int) ∧ (sliceBounds lo hi none n).2.2 = 1 := by
  refine ⟨?_, ?_, rfl⟩
  · cases lo with
    | none => simp [sliceBounds, HT.sIx]
    | some i =>
      simp only [sliceBounds, HT.sIx, Option.getD_none, show (1 : Int) > 0 by decide, if_true]
      by_cases h : i < 0
      · simp only [h, if_true] <;> omega
      · simp only [h, if_false] <;> omega
  · cases hi with
    | none => simp [sliceBounds, HT.sIx]
    | some i =>
      simp only [sliceBounds, HT.sIx, Option.getD_none, show (1 : Int) > 0 by decide, if_true]
      by_cases h : i < 0
      · simp only [h, if_true] <;> omega
      · simp only [h, if_false] <;> omega
theorem slicePick_cut (its : List Value) (lo hi : Option Int) : slicePick its.toArray lo hi none = ((its.drop (HT.sIx its.length 0 lo)).take (HT.sIx its.length its.length hi - HT.sIx its.length 0 lo)).toArray := by
  obtain ⟨h1, h2, h3⟩ := slice_bounds lo hi its.toArray.size
  unfold slicePick
  rw [h1, h2, h3]
  simp only [sliceRange_one, pick_run, List.size_toArray] <;> rfl
noncomputable def rSlL (K : PySem.W.Frag) : V → Option Int → Option Int → Hp → VK → Prop := fun x lo hi H Q => ∃ a xs, x = .ref a ∧ SqL K H a xs ∧ ∀ p, H p = none → Q (.ref p) (upd H p (.lst (cutV xs lo hi)))
theorem sl_list : SlR X (rSlL X.K) := by
  intro pins s σ H x v vl vu lo hi sl Q I rx hs pl pu h
  obtain ⟨a, xs, rfl, hx, q⟩ := h
  cases rx
  obtain ⟨its, r, ht, hz⟩ := I.list hx
  have hlen := r.length
  refine ⟨"list", _, slot_list_getitem.lookup, ht.isList.typeIs, ?_⟩
  refine wpAny_getItem_list_slice ht.isList hs pl pu .none (by simp) ?_ (by rw [List.size_toArray] <;> omega)
  rw [slicePick_cut, ← hlen]
  refine ⟨.ref s.heap.objs.size, _, I.laid (t' := s.toks) (o := .lst (cutV xs lo hi)) (fun b ob q => Heap.get?_push_of_some _ q) (Nat.le_refl _) ?_, rfl, q _ (I.hok.fresh (Nat.le_refl _))⟩
  exact ⟨Nat.le_trans (cutV_length xs lo hi) hz, _, 0, (r.drop (HT.sIx xs.length 0 lo)).take (HT.sIx xs.length xs.length hi - HT.sIx xs.length 0 lo), Heap.get?_push_size _ rfl⟩
noncomputable def flatV : V → Bool
  | .non => true
  | .bl _ => true
  | .int _ => true
  | .str _ => true
  | _ => false
noncomputable def eqV : V → V → Bool
  | .non, .non => true
  | .bl a, .bl b => a == b
  | .bl a, .int b => (if a then 1 else 0) == b
  | .int a, .bl b => a == (if b then 1 else 0)
  | .int a, .int b => a == b
  | .str a, .str b => a == b
  | _, _ => false
theorem eqAt_V {A : Around} {s : Shared} {y x : V} {u v : Value} (ry : RelV y u) (rx : RelV x v) (fy : flatV y = true) (fx : flatV x = true) : SeqAt.EqAt A s u v (eqV y x) := by
  cases y with
  | non =>
    cases ry
    cases x with
    | non => cases rx; exact SeqAt.EqAt.same _
    | bl b => cases rx; exact SeqAt.EqAt.none_bool b
    | int b => obtain ⟨t, rfl⟩ := rx; exact SeqAt.EqAt.none_int b t
    | str b => obtain ⟨t, rfl⟩ := rx; exact SeqAt.EqAt.none_str b t
    | _ => exact absurd (show false = true from fx) Bool.false_ne_true
  | bl a =>
    cases ry
    cases x with
    | non => cases rx; exact SeqAt.EqAt.bool_none a
    | bl b => cases rx; exact SeqAt.EqAt.bool_bool a b
    | int b => obtain ⟨t, rfl⟩ := rx; exact SeqAt.EqAt.bool_int a b t
    | str b => obtain ⟨t, rfl⟩ := rx; exact SeqAt.EqAt.bool_str a b t
    | _ => exact absurd (show false = true from fx) Bool.false_ne_true
  | int a =>
    obtain ⟨t', rfl⟩ := ry
    cases x with
    | non => cases rx; exact SeqAt.EqAt.int_none a t'
    | bl b => cases rx; exact SeqAt.EqAt.int_bool a t' b
    | int b => obtain ⟨t, rfl⟩ := rx; exact SeqAt.EqAt.int_int a t' b t
    | str b => obtain ⟨t, rfl⟩ := rx; exact SeqAt.EqAt.int_str a t' b t
    | _ => exact absurd (show false = true from fx) Bool.false_ne_true
  | str a =>
    obtain ⟨t', rfl⟩ := ry
    cases x with
    | non => cases rx; exact SeqAt.EqAt.str_none a t'
    | bl b => cases rx; exact SeqAt.EqAt.str_bool a t' b
    | int b => obtain ⟨t, rfl⟩ := rx; exact SeqAt.EqAt.str_int a t' b t
    | str b => obtain ⟨t, rfl⟩ := rx; exact SeqAt.EqAt.str_str a t' b t
    | _ => exact absurd (show false = true from fx) Bool.false_ne_true
  | _ => exact absurd (show false = true from fy) Bool.false_ne_true
noncomputable def eqU (x : V) (u : Value) : Bool := match u with
  | .none => eqV .non x
  | .bool b => eqV (.bl b) x
  | .int i _ => eqV (.int i) x
  | .str z _ => eqV (.str z) x
  | _ => false
theorem eqU_of {x y : V} {u : Value} (r : RelV y u) (f : flatV y = true) : eqU x u = eqV y x := by
  cases y with
  | non => cases r; rfl
  | bl b => cases r; rfl
  | int i => obtain ⟨t, rfl⟩ := r; rfl
  | str z => obtain ⟨t, rfl⟩ := r; rfl
  | _ => exact absurd (show false = true from f) Bool.false_ne_true
theorem any_eqU {x : V} : ∀ {xs : List V} {us : List Value}, Vals xs us → xs.all flatV = true → us.any (eqU x) = xs.any fun y => eqV y x
  | _, _, .nil, _ => rfl
  | y :: xs, u :: us, .cons r t, f => by
    rw [List.all_cons, Bool.and_eq_true] at f
    rw [List.any_cons, List.any_cons, eqU_of r f.1, any_eqU t f.2]
theorem mem_eqAt {A : Around} {s : Shared} {x : V} {v : Value} (rx : RelV x v) (fx : flatV x = true) : ∀ {xs : List V} {us : List Value}, Vals xs us → xs.all flatV = true → ∀ u ∈ us, SeqAt.EqAt A s u v (eqU x u)
  | _, _, .nil, _ => fun u hu => by cases hu
  | y :: xs, u :: us, .cons r t, f => fun u' hu => by
    rw [List.all_cons, Bool.and_eq_true] at f
    rcases List.mem_cons.mp hu with rfl | hu
    · rw [eqU_of r f.1]; exact eqAt_V r rx f.1 fx
    · exact mem_eqAt rx fx t f.2 u' hu
noncomputable def inV (x : V) (xs : List V) : Bool := xs.any fun y => eqV y x
noncomputable def rIn (K : PySem.W.Frag) (neg : Bool) : R2 := fun x y H Q => ∃ p xs, y = .ref p ∧ (SqL K H p xs ∨ SqT K H p xs) ∧ flatV x = true ∧ xs.all flatV = true ∧ Q (.bl (if neg then !inV x xs else inV x xs)) H
theorem op_in_seq : OpR X (compareOp .In) (rIn X.K false) := by
  intro pins s σ H x y v u Q I rx ry h
  obtain ⟨p, xs, rfl, hq, fx, fs, q⟩ := h
  cases ry
  rcases hq with hq | hq
  · obtain ⟨its, r, pl, hz⟩ := I.list hq
    refine SeqAt.in_listAt (eqU x) pl.isList (fun w hw => mem_eqAt rx fx r fs w (by simpa using hw)) ⟨.bl _, H, I, rfl, ?_⟩
    rw [show its.toArray.any (eqU x) = its.any (eqU x) by simp, any_eqU r fs]
    exact q
  · obtain ⟨its, r, pl, hz⟩ := I.tuple hq
    refine SeqAt.in_tupleAt (eqU x) pl (fun w hw => mem_eqAt rx fx r fs w (by simpa using hw)) ⟨.bl _, H, I, rfl, ?_⟩
    rw [show its.toArray.any (eqU x) = its.any (eqU x) by simp, any_eqU r fs]
    exact q
theorem call_len_seq : CallR X (.builtin "len") (fun xs H Q => ∃ p ys, xs = [.ref p] ∧ (SqL X.K H p ys ∨ SqT X.K H p ys) ∧ Q (.int ys.length) H) := by
  intro pins s σ H xs us Q I r h
  obtain ⟨p, ys, rfl, hq, q⟩ := h
  obtain ⟨u, rfl, rx⟩ := vals1 r
  cases rx
  have hn := line63
  rcases hq with hq | hq
  · obtain ⟨its, r', pl, hz⟩ := I.list hq
    have hlen := r'.length
    exact Calls.call_len_list pl.isList (by simp only [List.size_toArray] <;> omega) ⟨.int ys.length, H, I.tok _, ⟨s.toks + 1, by rw [List.size_toArray, hlen]⟩, q⟩
  · obtain ⟨its, r', pl, hz⟩ := I.tuple hq
    have hlen := r'.length
    exact len_tuple pl (by simp only [List.size_toArray] <;> omega) ⟨.int ys.length, H, I.tok _, ⟨s.toks + 1, by rw [List.size_toArray, hlen]⟩, q⟩
theorem call_len_str : CallR X (.builtin "len") (fun xs H Q => ∃ z, xs = [.str z] ∧ z.length ≤ sizeLine ∧ Q (.int z.length) H) := by
  intro pins s σ H xs us Q I r h
  obtain ⟨z, rfl, hz, q⟩ := h
  obtain ⟨u, rfl, t, rfl⟩ := vals1 r
  have hn := line63
  exact len_str (by omega) ⟨.int z.length, H, I.tok _, ⟨_, rfl⟩, q⟩
theorem call_list_of : CallR X (.type "list") (fun xs H Q => ∃ p ys, xs = [.ref p] ∧ (SqL X.K H p ys ∨ SqT X.K H p ys) ∧ ∀ l, H l = none → Q (.ref l) (upd H l (.lst ys))) := by
  intro pins s σ H xs us Q I r h
  obtain ⟨p, ys, rfl, hq, q⟩ := h
  obtain ⟨u, rfl, rx⟩ := vals1 r
  cases rx
  have fin : ∀ (its : List Value), Vals ys its → ys.length ≤ sizeLine → ∀ (h' : Heap) (c' : Nat), (∀ b o', s.heap.get? b = some o' → h'.get? b = some o') →
      h'.get? s.heap.objs.size = some { cls := .type "list", dict := none, data := .seq its.toArray c', slots := #[] } → EP X pins σ Q (.ref s.heap.objs.size) { s with heap := h' } := fun its r' hz h' c' kp e =>
    ⟨.ref s.heap.objs.size, _, I.laid (t' := s.toks) kp (Nat.le_refl _) (show ObjOk X.prog X.w _ h' _ (.lst ys) from ⟨hz, its, c', r', e⟩), rfl, q _ (I.hok.fresh (Nat.le_refl _))⟩
  rcases hq with hq | hq
  · obtain ⟨its, r', pl, hz⟩ := I.list hq
    have hlen := r'.length
    obtain ⟨o, ho, hc, n, hd⟩ := pl.isList
    exact call_list_seq p (.inl rfl) ho hc hd (fun h' c' kp e => fin its r' hz h' c' kp e) (by simp only [List.size_toArray] <;> omega)
  · obtain ⟨its, r', pl, hz⟩ := I.tuple hq
    have hlen := r'.length
    obtain ⟨o, ho, hc, n, hd⟩ := pl
    exact call_list_seq p (.inr rfl) ho hc hd (fun h' c' kp e => fin its r' hz h' c' kp e) (by simp only [List.size_toArray] <;> omega)
noncomputable def tyV (K : PySem.W.Frag) (T : String) (x : V) (H : Hp) : Prop := match x with
  | .str _ => T = "str"
  | .int _ => T = "int"
  | .ref p => (T = "list" ∧ ∃ xs, SqL K H p xs) ∨ (T = "tuple" ∧ ∃ o, K.lookup p = some o ∧ o.cls = .type "tuple" ∧ o.dict = none) ∨
      (T = "dict" ∧ ((∃ kvs, H p = some (.dK kvs)) ∨ ∃ kvs, H p = some (.dT kvs))) ∨ (T = "set" ∧ ∃ S n, H p = some (.set S n))
  | _ => False
theorem tyV_is {pins : List (Addr × Obj)} {σ : St} {H : Hp} {s : Shared} {T : String} {x : V} {v : Value} (I : Inv X pins σ H s) (r : RelV x v) (ty : tyV X.K T x H) :
    s.TypeIs v T ∧ ∀ a, v = .ref a → ∃ ob, s.heap.get? a = some ob ∧ ob.dict = none := by
  cases x with
  | str z =>
    obtain ⟨t, rfl⟩ := r
    cases (show T = "str" from ty)
    exact ⟨typeIs_str s z t, fun _ e => nomatch e⟩
  | int i =>
    obtain ⟨t, rfl⟩ := r
    cases (show T = "int" from ty)
    exact ⟨typeIs_int s i t, fun _ e => nomatch e⟩
  | ref p =>
    cases r
    rcases ty with ⟨rfl, xs, hq⟩ | ⟨rfl, o, hk, hc, hd⟩ | ⟨rfl, hk⟩ | ⟨rfl, S, n, hk⟩
    · obtain ⟨its, _, pl, _⟩ := I.list hq
      refine ⟨pl.isList.typeIs, fun a e => ?_⟩
      cases e
      obtain ⟨o, n, e, c, hd, _⟩ := pl
      exact ⟨o, e, hd⟩
    · refine ⟨⟨o, I.kIn p o hk, hc⟩, fun a e => ?_⟩
      cases e
      exact ⟨o, I.kIn _ o hk, hd⟩
    · have z : ∃ o, s.heap.get? p = some o ∧ o.ExactDict := by
        rcases hk with ⟨kvs, hk⟩ | ⟨kvs, hk⟩
        · obtain ⟨_, _, _, _, o, _, _, e, ex, _⟩ := I.hok p _ hk
          exact ⟨o, e, ex⟩
        · obtain ⟨_, _, _, _, o, _, _, e, ex, _⟩ := I.hok p _ hk
          exact ⟨o, e, ex⟩
      obtain ⟨o, e, ex⟩ := z
      refine ⟨⟨o, e, ex.1⟩, fun a e2 => ?_⟩
      cases e2
      exact ⟨o, e, ex.2.1⟩
    · obtain ⟨o, _, _, _, e, ex, _⟩ := I.hok p _ hk
      refine ⟨⟨o, e, ex.1⟩, fun a e2 => ?_⟩
      cases e2
      exact ⟨o, e, ex.2.1⟩
  | _ => exact False.elim ty
noncomputable def tBM0 (K : PySem.W.Frag) (T : String) (r : V → List V → Hp → VK → Prop) (to : TE) : TE := fun σ H Q => to σ H fun x H1 => tyV K T x H1 ∧ r x [] H1 Q
noncomputable def tBM (K : PySem.W.Frag) (T : String) (r : V → List V → Hp → VK → Prop) (to : TE) (t : TA) : TE := fun σ H Q => to σ H fun x H1 => tyV K T x H1 ∧ t σ H1 fun xs H2 => r x xs H2 Q
variable {o e : Expr} {es : List Expr} {to : TE} {t : TA} {name : Str} {apos cpos : Pos} {T id : String} {r : V → List V → Hp → VK → Prop}
theorem pe_bm0 (pa : PlainAttrs T) (slot : Slot T name id) (hty : typeOf (.builtin id) = pure (.type "method_descriptor")) (hm : MtR X id r) (ho : PE X o to)
    (hbase : attributeBase o name X.env (eval o X.env) = eval o X.env := by rfl) (hline : (apos.endLine == cpos.line) = true := by rfl) : PE X (.Call (.Attribute o name apos) [] [] cpos) (tBM0 X.K T r to) := by
  intro pins s σ H Q I h
  refine wpAny_Call_method0_late hbase hline (thn (ho pins s σ H _ I h) fun v s1 ⟨x, H1, I1, r1, ty, q1⟩ => ?_)
  obtain ⟨h1, h2⟩ := tyV_is I1 r1 ty
  exact ⟨T, id, pa, slot, hty, h1, h2, Calls.callWith_builtin rfl (PySem.evalArgs_none (hm pins s1 σ H1 x [] v [] Q I1 r1 .nil q1))⟩
theorem pe_bm (pa : PlainAttrs T) (slot : Slot T name id) (hty : typeOf (.builtin id) = pure (.type "method_descriptor")) (hm : MtR X id r) (ho : PE X o to) (ha : PA X (e :: es) t)
    (hbase : attributeBase o name X.env (eval o X.env) = eval o X.env := by rfl)
    (hfew : ((backTo cpos (starEach (e :: es) X.env)).all (fun x => !x.1) && (backToKw cpos (keywordEach [] X.env)).all (fun x => x.1.isSome)
      && decide ((e :: es).length + ([] : List Keyword).length + (if ([] : List Keyword).isEmpty then 0 else 1) < 30)) = true := by rfl)
    (hline : (apos.endLine == cpos.line) = true := by rfl) (hs : starEach (e :: es) X.env = (false, eval e X.env) :: starEach es X.env := by rfl) (hplain : (backTo cpos (starEach es X.env)).any (·.1) = false := by rfl) :
    PE X (.Call (.Attribute o name apos) (e :: es) [] cpos) (tBM X.K T r to t) := by
  intro pins s σ H Q I h
  refine wpAny_Call_method_late hbase hfew hline rfl (thn (ho pins s σ H _ I h) fun v s1 ⟨x, H1, I1, r1, ty, q1⟩ => ?_)
  obtain ⟨h1, h2⟩ := tyV_is I1 r1 ty
  refine ⟨T, id, pa, slot, hty, h1, h2, ?_⟩
  have hA := ha cpos pins s1 σ H1 _ I1 q1
  rw [hs] at hA ⊢
  refine Calls.callWith_builtin (by show (false || (backTo cpos (starEach es X.env)).any (·.1)) = false; rw [hplain] <;> rfl) (Calls.evalArgs_plain ?_)
  exact thn hA fun us s2 ⟨vs, H2, I2, r2, q2⟩ => hm pins s2 σ H2 x vs v us Q I2 r1 r2 q2
end
end L2
namespace L2
open PySem PySem.Spec PyProof.Rows
noncomputable def MtM (X : Cx) (id : String) (r : V → List V → Hp → VK → Prop) : Prop :=
  ∀ (pins : List (Addr × Obj)) (s : Shared) (σ : St) (H : Hp) (x : V) (xs : List V) (v : Value) (us : List Value) (Q : VK), Inv X pins σ H s → RelV x v → Vals xs us → r x xs H Q →
    wpAny (model X.prog X.w) X.A (call (.builtin id) (v :: us)) (EP X pins σ Q) X.xe s
theorem Vals.one : ∀ {x : V} {us : List Value}, Vals [x] us → ∃ u, us = [u] ∧ RelV x u
  | _, _, .cons r .nil => ⟨_, rfl, r⟩
theorem Vals.rep {xs : List V} {us : List Value} (h : Vals xs us) : ∀ k : Nat, Vals (List.replicate k xs).flatten (List.replicate k us).flatten
  | 0 => .nil
  | k + 1 => by
    rw [List.replicate_succ, List.replicate_succ, List.flatten_cons, List.flatten_cons]
    exact Vals.append h (Vals.rep h k)
theorem foldl_rep (its : List Value) : ∀ (k : Nat) (acc : List Value),
    List.foldl (fun x1 x2 => x1 ++ x2) acc.toArray (List.replicate k its.toArray) = (acc ++ (List.replicate k its).flatten).toArray
  | 0, acc => by simp
  | k + 1, acc => by
    have e : acc.toArray ++ its.toArray = (acc ++ its).toArray := by simp
    have e2 : (acc ++ its) ++ (List.replicate k its).flatten = acc ++ (List.replicate (k + 1) its).flatten := by
      rw [List.replicate_succ, List.flatten_cons, List.append_assoc]
    rw [← e2, ← foldl_rep its k (acc ++ its), ← e, List.replicate_succ, List.foldl_cons]
section
variable {X : Cx} {pins : List (Addr × Obj)} {σ : St} {H : Hp} {s : Shared} {l b : Addr} {xs ys zs : List V}
theorem Inv.lset {its its' : List Value} {n : Nat} {f : Array Value → Array Value} {t' : Nat} (I : Inv X pins σ H s) (hH : H l = some (.lst xs))
    (e : s.heap.get? l = some { cls := .type "list", data := .seq its.toArray n }) (hf : f its.toArray = its'.toArray) (hv : Vals ys its') (hz : ys.length ≤ sizeLine) :
    Inv X pins σ (upd H l (.lst ys)) { s with heap := s.heap.update l (Obj.mapSeq f), toks := t' } := by
  have q := PySem.IsL.update e f
  rw [hf] at q
  refine I.write (x := l) (e := l) (by rw [hH]; exact trivial) (.inl rfl) (fun b' u hb hu => (Heap.get?_update_other s.heap (Obj.mapSeq f) (Ne.symm hb)).trans hu) ⟨_, q⟩ ?_
  exact ⟨hz, its', _, hv, q⟩
theorem Inv.lnew {its : List Value} {t' : Nat} (I : Inv X pins σ H s) (hv : Vals ys its) (hz : ys.length ≤ sizeLine) :
    Inv X pins σ (upd H s.heap.objs.size (.lst ys)) { s with heap := s.heap.push { cls := .type "list", data := .seq its.toArray }, toks := t' } :=
  I.laid (fun _ _ q => Heap.get?_push_of_some _ q) (Nat.le_refl _) ⟨hz, its, 0, hv, Heap.get?_push_size _ rfl⟩
theorem Inv.fresh (I : Inv X pins σ H s) : H s.heap.objs.size = none := I.hok.fresh (Nat.le_refl _)
theorem Inv.lstM (I : Inv X pins σ H s) (hH : H l = some (.lst xs)) : xs.length ≤ sizeLine ∧ ∃ (its : List Value) (n : Nat), Vals xs its ∧ xs.length = its.length ∧ s.heap.get? l = some { cls := .type "list", data := .seq its.toArray n } := by
  obtain ⟨z, its, n, r, e⟩ := I.hok l _ hH
  exact ⟨z, its, n, r, r.length, e⟩
theorem notLongL {n : Nat} (h : n ≤ sizeLine) : Builtin.List.listTooLong n = false := by
  unfold Builtin.List.listTooLong
  exact decide_eq_false (by omega)
end
section
variable {X : Cx}
noncomputable def rAppend : V → List V → Hp → VK → Prop := fun x vs H Q => ∃ l xs y, x = .ref l ∧ vs = [y] ∧ H l = some (.lst xs) ∧ xs.length < sizeLine ∧ Q .non (upd H l (.lst (xs ++ [y])))
theorem mt_append : MtM X "list.append" rAppend := by
  intro pins s σ H x vs v us Q I rx rv h
  obtain ⟨l, xs, y, rfl, rfl, hH, hz, q⟩ := h
  cases rx
  obtain ⟨u, rfl, ru⟩ := rv.one
  obtain ⟨z, its, n, r, hl, e⟩ := I.lstM hH
  refine call_meets F.slot_list_append ⟨_, e, rfl⟩ F.entry_list_append (F.args_list_append_2 _ _) (PySem.list_append l its.toArray n u (by rw [List.size_toArray]; omega)) ⟨e, ?_⟩
  refine ⟨.non, _, I.lset (its' := its ++ [u]) hH e (by simp) (r.append (.cons ru .nil)) ?_, rfl, q⟩
  rw [List.length_append, List.length_singleton]
  omega
noncomputable def rExtend : V → List V → Hp → VK → Prop := fun x vs H Q => ∃ l b xs zs, x = .ref l ∧ vs = [.ref b] ∧ H l = some (.lst xs) ∧ H b = some (.lst zs) ∧ xs.length + zs.length ≤ sizeLine ∧ Q .non (upd H l (.lst (xs ++ zs)))
theorem mt_extend : MtM X "list.extend" rExtend := by
  intro pins s σ H x vs v us Q I rx rv h
  obtain ⟨l, b, xs, zs, rfl, rfl, hH, hB, hz, q⟩ := h
  cases rx
  obtain ⟨u, rfl, ru⟩ := rv.one
  cases ru
  obtain ⟨z, its, n, r, hl, e⟩ := I.lstM hH
  obtain ⟨z2, its2, n2, r2, hl2, e2⟩ := I.lstM hB
  have hsz : its.toArray.size + its2.toArray.size ≤ sizeLine := by rw [List.size_toArray, List.size_toArray]; omega
  have hlong : ¬ (!its.toArray.isEmpty && Builtin.List.listTooLong (its.toArray.size + its2.toArray.size)) = true := by
    rw [notLongL hsz, Bool.and_false]
    exact Bool.false_ne_true
  refine call_meets F.slot_list_extend ⟨_, e, rfl⟩ F.entry_list_extend (F.args_list_extend_2 _ _)
    (AutoSeq1.list_extend_list_list_0 l its.toArray n b its2.toArray n2 hlong (by rw [List.size_toArray]; omega) (by omega)) ⟨e, e2, ?_⟩
  refine ⟨.non, _, I.lset (its' := its ++ its2) hH e (by simp) (r.append r2) ?_, rfl, q⟩
  rw [List.length_append]
  omega
noncomputable def rCat : R2 := fun x y H Q => ∃ l b xs zs, x = .ref l ∧ y = .ref b ∧ H l = some (.lst xs) ∧ H b = some (.lst zs) ∧ xs.length + zs.length ≤ sizeLine ∧ ∀ p, H p = none → Q (.ref p) (upd H p (.lst (xs ++ zs)))
theorem op_cat : OpR X (binaryOp .Add) rCat := by
  intro pins s σ H x y v u Q I rx ry h
  obtain ⟨l, b, xs, zs, rfl, rfl, hH, hB, hz, q⟩ := h
  cases rx
  cases ry
  obtain ⟨z, its, n, r, hl, e⟩ := I.lstM hH
  obtain ⟨z2, its2, n2, r2, hl2, e2⟩ := I.lstM hB
  refine PySem.P.add_list e e2 ?_ (by rw [List.size_toArray, List.size_toArray]; omega)
  have ea : its.toArray ++ its2.toArray = (its ++ its2).toArray := by simp
  rw [ea]
  exact ⟨.ref _, _, I.lnew (t' := s.toks) (r.append r2) (by rw [List.length_append]; omega), rfl, q _ I.fresh⟩
noncomputable def rRep : R2 := fun x y H Q => ∃ l k xs, x = .ref l ∧ y = .int k ∧ H l = some (.lst xs) ∧ -(2 ^ 63) ≤ k ∧ k < 2 ^ 63 ∧ xs.length * k.toNat ≤ sizeLine ∧
  ∀ p, H p = none → Q (.ref p) (upd H p (.lst (List.replicate k.toNat xs).flatten))
theorem len_rep {α : Type} (xs : List α) (k : Nat) : (List.replicate k xs).flatten.length = k * xs.length := by
  induction k with
  | zero => simp
  | succ k ih => rw [List.replicate_succ, List.flatten_cons, List.length_append, ih, Nat.succ_mul, Nat.add_comm]
theorem op_rep : OpR X (binaryOp .Mult) rRep := by
  intro pins s σ H x y v u Q I rx ry h
  obtain ⟨l, k, xs, rfl, rfl, hH, h1, h2, hz, q⟩ := h
  cases rx
  obtain ⟨t, rfl⟩ := ry
  obtain ⟨z, its, n, r, hl, e⟩ := I.lstM hH
  have hlen : its.toArray.size * k.toNat ≤ sizeLine := by rw [List.size_toArray, ← hl]; exact hz
  have hcap : ¬ its.toArray.size * k.toNat > (2 ^ 63 - 1) / 8 := by
    have : (sizeLine : Nat) ≤ (2 ^ 63 - 1) / 8 := by decide
    omega
  have hfit : ¬ (!Builtin.List.listFitsIndex k) = true := by
    rw [fitsIndex_both h1 h2]
    exact Bool.false_ne_true
  have hlong : ¬ Builtin.List.listTooLong (its.toArray.size * k.toNat) = true := by
    rw [notLongL hlen]
    exact Bool.false_ne_true
  have hnew : List.foldl (fun x1 x2 => x1 ++ x2) #[] (List.replicate (if its.toArray.isEmpty = true then 0 else k.toNat) its.toArray) = (List.replicate k.toNat its).flatten.toArray := by
    have f0 : ∀ m : Nat, List.foldl (fun x1 x2 => x1 ++ x2) #[] (List.replicate m its.toArray) = (List.replicate m its).flatten.toArray := fun m => by
      have := foldl_rep its m []
      rw [List.nil_append] at this
      exact this
    rw [f0]
    cases its with
    | nil => simp
    | cons a r' => rw [if_neg (by simp)]
  refine wpAny_binaryOp_repeat_ref (T := "list") (U := "int") (by decide) ⟨_, e, rfl⟩ (fun s' => typeIs_int s' k t) noFill_list_mul F.fills_int_mul F.slot_int_rmul repeat_list F.slot_int_index.lookup
    (call_meets F.slot_int_rmul (typeIs_int s k t) F.entry_int_rmul (F.args_int_rmul_2 _ _) (int___rmul___int_list k t l its.toArray n)
      ⟨e, rfl, ⟨_, e, rfl⟩, call_meets F.slot_list_mul ⟨_, e, rfl⟩ F.entry_list_mul (F.args_list_mul_2 _ _) (AutoListH.list___mul___list_int_3 l its.toArray n k t hfit hcap hlong) ⟨e, ?_⟩⟩)
  rw [hnew]
  exact ⟨.ref _, _, I.lnew (t' := s.toks) (r.rep k.toNat) (by rw [len_rep, Nat.mul_comm]; exact hz), rfl, q _ I.fresh⟩
end
section
variable {prog : Program} {w : World} {A : Around} {E : Value → Shared → Prop} {s : Shared}
end
section
variable {X : Cx}
end
end L2
namespace Att
open PySem PySem.W PySem.Calls PyProof.Rows
theorem ints_of_wellAll {P : Params} {h : Heap} : ∀ (ns : List Int) (vs : List Value), WellAll P h vs (ns.map WData.int) → IntsAre vs ns := by
  intro ns
  induction ns with
  | nil =>
    intro vs w
    rw [List.map_nil] at w
    cases w
    exact .nil
  | cons n ns ih =>
    intro vs w
    rw [List.map_cons] at w
    cases w with
    | cons a b =>
      cases a
      exact .cons _ _ (ih _ b)
theorem script_of {l : OpenLaw} {n : Nat} (hn : l.most = some n) {P : Params} {h : Heap} {args : List WData} {vals : List Value}
    (hpre : l.row.toRowW.claim.pre args = true) (hwl : WellAll P h vals args) :
    ∃ a vs ns, vals = [Value.ref a] ∧ args = [WData.list (ns.map WData.int)] ∧ h.get? a = some { cls := .type "list", data := .seq vs.toArray } ∧ IntsAre vs ns ∧ ns.length ≤ n := by
  have hsh : WShape.hasAll [] args [.list .int] = true := (pre_splitW hpre).1
  have hc : l.pre.holds [] { args := args } = true := (pre_splitW hpre).2
  obtain ⟨d, r, rfl, h1, h2⟩ := hasAllW_cons hsh
  obtain rfl := hasAllW_nil h2
  obtain ⟨xs, rfl, h3⟩ := hasW_list h1
  obtain ⟨ns, rfl⟩ := items_int h3
  have hlen : ns.length ≤ n := by
    unfold OpenLaw.pre at hc
    have h4 : (WTm.not (.lt (.lit (.int (n : Int))) (.len (.arg 0)))).holds [] { args := [.list (ns.map .int)] } = true := by
      have h4 := (holds_andW hc).1
      rw [hn] at h4
      exact h4
    have h5 := condW_of h4 (w_not (w_lt w_lit (w_len_list (w_arg rfl))))
    rw [List.length_map] at h5
    refine Nat.le_of_not_lt fun q => ?_
    have q' : (n : Int) < ((ns.length : Nat) : Int) := by omega
    first
      | (rw [decide_eq_true q'] at h5; exact absurd h5 (by decide))
      | (simp at h5; omega)
  cases hwl with
  | cons w1 w2 =>
    cases w2
    cases w1 with
    | list ho hall => exact ⟨_, _, ns, rfl, rfl, ho, ints_of_wellAll ns _ hall, hlen⟩
theorem post_true (l : OpenLaw) (args : List WData) : l.row.toRowW.claim.post args (.bool true) args = true :=
  postW_of (r := l.row.toRowW) (X := (true == true))
    (show WShape.has [] (.bool true) .bool = true by first | rfl | decide | simp [WShape.has, WShape.arms, WShape.armsAll])
    (show (WTm.eq .res (.lit (.bool true))).value [] { args := args, res := some (.bool true), after := args } = some (.bool (true == true)) from w_eq_bool (w_res rfl) w_lit) rfl
theorem lay_bits {ns : List Int} (h : WData.layableAll [WData.list (ns.map WData.int)] = true) : ∀ x ∈ ns, Builtin.Int.intBits x ≤ 1048576 := by
  have h1 : WData.layable (WData.list (ns.map WData.int)) = true := by
    have h' : (WData.layable (WData.list (ns.map WData.int)) && true) = true := h
    rwa [Bool.and_true] at h'
  unfold WData.layable at h1
  rw [Bool.and_eq_true] at h1
  have h2 := of_decide_eq_true h1.2
  have h3 : WData.weightAll (ns.map WData.int) ≤ 2 ^ 20 := by
    have e : WData.weight (WData.list (ns.map WData.int)) = WData.weightAll (ns.map WData.int) := by simp only [WData.weight]
    rwa [e] at h2
  have h4 : ∀ (l : List Int), ∀ x ∈ l, WData.weight (WData.int x) ≤ WData.weightAll (l.map WData.int) := by
    intro l
    induction l with
    | nil => intro x hx; cases hx
    | cons y r ih =>
      intro x hx
      have e : WData.weightAll ((y :: r).map WData.int) = WData.weight (WData.int y) + 1 + WData.weightAll (r.map WData.int) := by
        rw [List.map_cons]; simp only [WData.weightAll]
      rw [e]
      rcases List.mem_cons.mp hx with z | z
      · subst z; omega
      · have := ih x z; omega
  intro x hx
  have h5 := Nat.le_trans (h4 ns x hx) h3
  have e : WData.weight (WData.int x) = Builtin.Int.intBits x := by
    simp only [WData.weight]
    unfold Builtin.Int.intBits
    by_cases hz : x = 0
    · subst hz; rfl
    · have hb : (x == 0) = false := by simpa using hz
      simp [hz]
  rw [e] at h5
  exact h5
theorem attach_call {l : OpenLaw} {n : Nat} {q : Program} {loose : List Str} {XP : (Str → Option Value) → Heap → Prop} {YP : World → Heap → Prop} {d : DefRec}
    (hn : l.most = some n) (hdf : d.params.defaults = [])
    (call : ∀ (w : World) (s₀ s₁ : Shared) (mg mb : Str → Option Value) (fa : Addr) (o : Obj) (pm cd doc : Value) (a : Addr) (vs : List Value) (ns : List Int),
      Ground q loose [] XP w s₀ mg mb s₁.heap → YP w s₁.heap →
      s₁.heap.get? fa = some o → o.data = .func (docDef d.name d.params d.body d.scope pm cd doc) → s₁.heap.CodeRec cd d.name → mg d.name = some (.ref fa) →
      s₁.heap.get? a = some { cls := .type "list", data := .seq vs.toArray } → IntsAre vs ns → ns.length ≤ n → (∀ x ∈ ns, Builtin.Int.intBits x ≤ 1048576) → s₁.gens = #[] →
      codeAny (model l.prog w) callerA (.call (.ref fa) ⟨[.ref a], []⟩) (fun r s' => r = .ok (.ret (.bool true)) ∧ OldK s₁.heap s'.heap ∧ s'.os = s₁.os ∧ AllBare s'.gens) s₁) :
    WalkO q loose XP YP l.row.toRowW d [] (fun f vs => PySem.call f vs) := by
  intro w s₀ s₁ mg mb G Y fa o pm cd doc dV kV ho hd hcd hD hmg hg args vals as hpre hlay hrd hwl hlo
  obtain rfl : dV = .none := Dflts.none hD hdf
  obtain rfl : kV = .none := Dflts.noKw hD
  obtain ⟨a, vs, ns, rfl, rfl, hobj, hints, hlen⟩ := script_of hn hpre hwl
  refine enter_call (codeAny_mono (call w s₀ s₁ mg mb fa o pm cd doc a vs ns G Y ho (fd_plain hd) hcd hmg hobj hints hlen (lay_bits hlay) hg) fun r s' hq => ?_)
  obtain ⟨rfl, h2, h3, h4⟩ := hq
  exact ⟨.inl ⟨.bool true, .bool true, [], rfl, fun _ => rfl, .bool true, post_true l _, fun _ => ⟨List.Pairwise.nil, fun _ hm => (nomatch hm)⟩⟩, h2, h3, h4⟩
section
variable {prog : Program} {w : World} {A : Around} {E : Value → Shared → Prop} {s : Shared} {K : Frag}
end
end Att
namespace L2
open PySem PySem.Spec PyProof.Rows
theorem vals_ints : ∀ {vs : List Value} {ns : List Int}, IntsAre vs ns → Vals (ns.map V.int) vs
  | _, _, .nil => .nil
  | _, _, .cons n t h => .cons ⟨t, rfl⟩ (vals_ints h)
noncomputable def Only (H : Hp) : Prop := ∀ b, H b = none ∨ ∃ o xs, H b = some (.frz o (.lst xs))
theorem law_call {P : Program} {w : World} {K : PySem.W.Frag} {mg mb : Str → Option Value} {CX : CXT} {k : Nat} {fa a : Addr} {fd : FuncData} {x : Str} {sp : Sp} {s₁ : Shared} {vs : List Value} {ns : List Int}
    (KX : K.In s₁.heap) (hns : s₁.heap.Ns mainGlobals mg) (hb : s₁.heap.Ns builtinsNs mb) (hbb : ∀ x : Str, x ≠ "__name__" → mb x = bootBuiltins x) (hlim : s₁.heap.NoLimit) (hsr : s₁.heap.NoSeer) (hg : s₁.gens = #[])
    (ha : s₁.heap.get? a = some { cls := .type "list", data := .seq vs.toArray }) (hi : IntsAre vs ns) (hl : ns.length ≤ sizeLine) (hr : Room k callerA)
    (F : ∀ base : Heap, K.In base → base.Ns mainGlobals mg → FnOk P w K mg base CX k fa fd [x] sp) (hbind : ∀ (s : Shared) (u : Value), BindsTo s fd ⟨[u], []⟩ [(x, u)])
    (hsp : ∀ H : Hp, Only H → SqL K H a (ns.map V.int) → sp [.ref a] H (fun v _ => v = .bl true) fun _ _ _ => False)
    (hCX : ∀ H e s', CX [] H s₁ (fun _ _ _ => False) e s' → False) :
    codeAny (model P w) callerA (.call (.ref fa) ⟨[.ref a], []⟩) (fun r s' => r = .ok (.ret (.bool true)) ∧ OldK s₁.heap s'.heap ∧ s'.os = s₁.os ∧ AllBare s'.gens) s₁ := by
  have rv := vals_ints hi
  have lenV := hi.length
  have core : ∀ H : Hp, Only H → SqL K H a (ns.map V.int) → HOk P w H s₁.heap → (∀ b, H b ≠ none → b = a) → (H a ≠ none → K.lookup a = none) →
      codeAny (model P w) callerA (.call (.ref fa) ⟨[.ref a], []⟩) (fun r s' => r = .ok (.ret (.bool true)) ∧ OldK s₁.heap s'.heap ∧ s'.os = s₁.os ∧ AllBare s'.gens) s₁ := by
    intro H hO hS hok hA hK
    have base_of : ∀ {b : Addr} {o : Obj}, s₁.heap.get? b = some o → H b = none → (hidT s₁.heap H).get? b = some o := fun e n => hidT_get e n
    have noA : ∀ {b : Addr} {o : Obj} {es : Array DictEntry} {ep : Nat}, s₁.heap.get? b = some o → o.data = .dict es ep → H b = none := fun {b o es ep} e d => by
      cases q : H b with
      | none => rfl
      | some u =>
        have e' : b = a := hA b (by rw [q]; simp)
        subst e'
        rw [ha] at e; cases e
        have d' : Data.seq vs.toArray _ = Data.dict es ep := d
        cases d'
    have nsK : ∀ {b : Addr} {m : Str → Option Value}, s₁.heap.Ns b m → (hidT s₁.heap H).Ns b m := fun {b m} ⟨o, es, ep, e, d, r⟩ => ⟨o, es, ep, base_of e (noA e d), d, r⟩
    have hKb : K.In (hidT s₁.heap H) := fun b o e => base_of (KX b o e) (by
      cases q : H b with
      | none => rfl
      | some u =>
        have e' : b = a := hA b (by rw [q]; simp)
        subst e'
        rw [hK (by rw [q]; simp)] at e; cases e)
    have noC : ∀ {b : Addr} {o : Obj}, s₁.heap.get? b = some o → o.cls ≠ .type "list" → H b = none := fun {b o} e d => by
      cases q : H b with
      | none => rfl
      | some u =>
        have e' : b = a := hA b (by rw [q]; simp)
        subst e'
        rw [ha] at e; cases e
        exact absurd rfl d
    have hSr : (hidT s₁.heap H).NoSeer := ⟨let ⟨mc, h1, h2⟩ := hsr.statics; ⟨mc, nsK h1, h2⟩, let ⟨mc, h1, h2⟩ := hsr.mods; ⟨mc, nsK h1, h2⟩, let ⟨mc, h1, h2⟩ := hsr.imp; ⟨mc, nsK h1, h2⟩,
      let ⟨mg', bm, ob, h1, h2, h3, h4, h5⟩ := hsr.main; ⟨mg', bm, ob, nsK h1, h2, base_of h3 (noC h3 (by rw [h4]; decide)), h4, h5⟩⟩
    have hM : Mod K mg (hidT s₁.heap H) := ⟨hKb, nsK hns, ⟨mb, nsK hb, hbb⟩, let ⟨mc, h1, h2⟩ := hlim; ⟨mc, nsK h1, h2⟩, hSr⟩
    have e0 : Env0 P w K mg (hidT s₁.heap H) callerA [] s₁ H := ⟨rfl, hM, fun b o e => of_hidT e, Nat.le_of_eq (hidT_size _ _), trivial, fun b hb => absurd (show b ∈ ([] : List Addr) from hb) (by simp), hok, .of_eq hg⟩
    refine codeAny_mono ((F _ hKb (nsK hns)).run callerA [] s₁ H ⟨[.ref a], []⟩ [.ref a] [.ref a] _ _ hr e0 (hbind s₁ (.ref a)) (.cons rfl .nil) (hsp H hO hS)) fun r s' h => ?_
    cases r with
    | error e => exact (hCX H e s' h).elim
    | ok fl =>
      cases fl with
      | next => exact False.elim h
      | brk => exact False.elim h
      | cont => exact False.elim h
      | ret u =>
        obtain ⟨v, H', os, bare, un, hok', r', q⟩ := h
        have q' : v = .bl true := q
        subst q'
        obtain rfl : u = Value.bool true := r'
        refine ⟨rfl, OldK.of_keep fun b o e => ?_, os, bare⟩
        cases q : H b with
        | none => exact un.keep b o e q (by intro z; exact absurd (show b ∈ ([] : List Addr) from z) (by simp)) (by simp)
        | some u =>
          rcases hO b with z | ⟨ob, xs, z⟩
          · rw [q] at z; cases z
          · have z2 := un.frzs b ob _ z
            obtain ⟨e1, _⟩ := hok b _ z
            obtain ⟨e2, _⟩ := hok' b _ z2
            rw [e] at e1; cases e1
            exact e2
  cases hk : K.lookup a with
  | some o =>
    have e := KX a o hk
    rw [ha] at e
    cases e
    refine core (fun _ => none) (fun _ => .inl rfl) (.inr ⟨_, vs.toArray, _, hk, rfl, rfl, rfl, by rw [List.size_toArray, lenV]; exact hl, by simpa using rv⟩) (fun b u z => by have z' : (none : Option HO) = some u := z; cases z') (fun b z => absurd rfl z) fun z => absurd rfl z
  | none =>
    refine core (fun b => if b = a then some (.frz { cls := .type "list", data := .seq vs.toArray } (.lst (ns.map V.int))) else none) (fun b => ?_) (.inl (.inr ⟨{ cls := .type "list", data := .seq vs.toArray }, if_pos rfl⟩)) (fun b u z => ?_) (fun b z => ?_) fun _ => hk
    · by_cases hb : b = a
      · exact .inr ⟨_, _, if_pos hb⟩
      · exact .inl (if_neg hb)
    · by_cases hb : b = a
      · have z' := (if_pos hb).symm.trans z
        cases z'
        subst hb
        exact ⟨ha, by rw [List.length_map]; exact hl, vs, _, rv, ha⟩
      · have z' := (if_neg hb).symm.trans z
        cases z'
    · by_cases hb : b = a
      · exact hb
      · exact absurd (if_neg hb) z
end L2
namespace L2
open PySem PySem.Spec PyProof.Rows
theorem walk_of {l : PySem.W.OpenLaw} {n k : Nat} {q : Program} {loose : List Str} {XP : (Str → Option Value) → Heap → Prop} {YP : World → Heap → Prop} {d : DefRec} {K : Params → PySem.W.Frag} {CX : World → CXT} {sp : World → Sp} {x : Str}
    (hn : l.most = some n) (hn2 : n ≤ sizeLine) (hdf : d.params.defaults = []) (hq : importsNone q = true) (hr : Room k callerA)
    (hY : ∀ (w : World) (h : Heap), YP w h → (K w.params).In h)
    (F : ∀ (w : World) (mg : Str → Option Value) (fa : Addr) (h : Heap), (K w.params).In h → h.Ns mainGlobals mg → mg d.name = some (.ref fa) →
      ∃ fd : FuncData, (∀ (s : Shared) (u : Value), BindsTo s fd ⟨[u], []⟩ [(x, u)]) ∧
        ∀ base : Heap, (K w.params).In base → base.Ns mainGlobals mg → FnOk l.prog w (K w.params) mg base (CX w) k fa fd [x] (sp w))
    (hsp : ∀ (w : World) (H : Hp) (a : Addr) (ns : List Int), ns.length ≤ n → (∀ x ∈ ns, Builtin.Int.intBits x ≤ 1048576) → Only H → SqL (K w.params) H a (ns.map V.int) → sp w [.ref a] H (fun v _ => v = .bl true) fun _ _ _ => False)
    (hCX : ∀ (w : World) (H : Hp) (s : Shared) (e : Value) (s' : Shared), CX w [] H s (fun _ _ _ => False) e s' → False) :
    PySem.W.WalkO q loose XP YP l.row.toRowW d [] (fun f vs => PySem.call f vs) := by
  refine Att.attach_call hn hdf fun w s₀ s₁ mg mb fa o pm cd doc a vs ns G Y ho hd hcd hmg hobj hints hlen hbt hg => ?_
  have KX := hY w _ Y
  obtain ⟨fd, hb, hF⟩ := F w mg fa _ KX G.T.g hmg
  exact law_call KX G.T.g G.T.b G.T.builtins G.T.nolimit (G.T.seer hq) hg hobj hints (Nat.le_trans hlen hn2) hr hF hb (fun H hO hS => hsp w H a ns hlen hbt hO hS) fun H e s' => hCX w H s₁ e s'
end L2
namespace L2
open PySem PySem.Spec PyProof.Rows
def inClass (s : Stmt) (j : Nat) : Stmt := match s with
  | .ClassDef _ _ _ body _ _ _ _ _ _ _ => body.getD j (.Pass ⟨0, 0, 0, 0⟩)
  | _ => .Pass ⟨0, 0, 0, 0⟩
noncomputable def defArgs (s : Stmt) : Arguments := match s with
  | .FunctionDef _ a _ _ _ _ _ _ _ _ => a
  | _ => { posonlyargs := [], args := [], vararg := none, kwonlyargs := [], kw_defaults := [], kwarg := none, defaults := [] }
noncomputable def defBody (s : Stmt) : List Stmt := match s with
  | .FunctionDef _ _ b _ _ _ _ _ _ _ => b
  | _ => []
noncomputable def defScope (s : Stmt) : Scope := match s with
  | .FunctionDef _ _ _ _ _ _ sc _ _ _ => sc
  | _ => { kind := .function, names := [], isGenerator := false, isCoroutine := false }
abbrev CX0 : CXT := fun _ _ _ _ _ _ => False
abbrev E0 : XK := fun _ _ _ => False
theorem pass0 {X : Cx} : Passes CX0 X E0 := fun _ _ _ _ _ _ _ h => h.elim
structure Fun (K : PySem.W.Frag) (x qual : Str) (st : Stmt) (f : Addr) (fd : FuncData) : Prop where
  ex : ∃ (oc : Value) (od : Option Addr) (kV doc pm : Value) (an : Option Addr) (cdv ct : Value) (osl : Array (Option Value)),
    fd = PySem.W.fnOf x qual (defArgs st) (defBody st) (defScope st) .none kV doc pm an cdv ct ∧ K.lookup f = some ⟨oc, od, .func fd, osl⟩ ∧ PySem.W.codeIn K cdv qual = true
  kp : PySem.W.keepIn K (.ref f) = true
section
variable {P : Program} {w : World} {K : PySem.W.Frag} {mg : Str → Option Value} {base : Heap}
theorem Fun.ok {x qual : Str} {st : Stmt} {f : Addr} {fd : FuncData} {N ps : List Str} {k : Nat} {sp : Sp} (F : Fun K x qual st f fd) (S : FnScope N ps (defScope st)) (len : ∀ vs H Q E, sp vs H Q E → vs.length = ps.length)
    (hbody : ∀ (cdv : Value) (A : Around) (outer : List Env) (s : Shared) (H : Hp) (vs : List V) (Q : VK) (E : XK), Room k (A.deeper (envOfC qual (defScope st) s.heap.objs.size f cdv)) → sp vs H Q E →
      ∃ t, PSs (cxOf CX0 P w K mg base N qual (defScope st) f cdv A outer s H E).nox (defBody st) t ∧ t { nx := fun _ H' => Q .non H', rt := Q } (start N vs) H) : FnOk P w K mg base CX0 (k + 1) f fd ps sp := by
  obtain ⟨oc, od, kV, doc, pm, an, cdv, ct, osl, rfl, lk, hcd⟩ := F.ex
  refine fn_of lk hcd S len fun A outer s H vs Q E hr hsp => ?_
  obtain ⟨t, h, q⟩ := hbody cdv A outer s H vs Q E hr hsp
  exact ⟨t, h.nox, q⟩
theorem Fun.binds {x qual : Str} {st : Stmt} {f : Addr} {fd : FuncData} {ps : List Str} (F : Fun K x qual st f fd)
    (h : ∀ (kV doc pm : Value) (an : Option Addr) (cdv ct : Value) (us : List Value), us.length = ps.length → bindArgs (PySem.W.fnOf x qual (defArgs st) (defBody st) (defScope st) .none kV doc pm an cdv ct) ⟨us, []⟩ = pure (ps.zip us)) : Binds K fd ps [] := by
  obtain ⟨oc, od, kV, doc, pm, an, cdv, ct, osl, rfl, lk, hcd⟩ := F.ex
  exact .all (h kV doc pm an cdv ct)
theorem fun_mk {x qual : Str} {st : Stmt} {f : Addr} {oc : Value} {od an : Option Addr} {osl : Array (Option Value)} {kV doc pm cdv ct : Value} (l : K.lookup f = some ⟨oc, od, .func (PySem.W.fnOf x qual (defArgs st) (defBody st) (defScope st) .none kV doc pm an cdv ct), osl⟩)
    (c : PySem.W.codeIn K cdv qual = true) (k : PySem.W.keepIn K (.ref f) = true) : Fun K x qual st f (PySem.W.fnOf x qual (defArgs st) (defBody st) (defScope st) .none kV doc pm an cdv ct) := ⟨⟨oc, od, kV, doc, pm, an, cdv, ct, osl, rfl, l, c⟩, k⟩
end
theorem hu_of {A : Around} {k : Nat} (hr : Room k A) : A.units + 1 < cLine := Nat.lt_of_le_of_lt (Nat.add_le_add_left (by decide : 1 ≤ 64) _) hr.units
theorem small1000 {n : Nat} (h : n ≤ 1000) : n < sizeLine := Nat.lt_of_le_of_lt h (by decide)
section
variable {X : Cx}
theorem pv (i : Nat) {x : Str} {pos : Pos} (hN : X.N[i]? = some x := by rfl) (hv : Vis X.env.scope x := by first | exact Or.inl rfl | exact Or.inr (Or.inl rfl) | exact Or.inr (Or.inr rfl)) (hd : (x == ("__debug__" : Str)) = false := by decide)
    (hcd : (x == ("__classdict__" : Str)) = false := by decide) : PE X (.Name x pos) (tVar i) := pe_var hN hv hd hcd
end
theorem iteF {A B : Prop} (h : B) : if false = true then A else B := by
  rw [if_neg Bool.false_ne_true]
  exact h
theorem iteT {A B : Prop} (h : A) : if true = true then A else B := by
  rw [if_pos rfl]
  exact h
theorem ite2 {c A B : Prop} [Decidable c] (h1 : c → A) (h2 : ¬ c → B) : if c then A else B := by
  by_cases h : c
  · rw [if_pos h]
    exact h1 h
  · rw [if_neg h]
    exact h2 h
noncomputable def Same (H H' : Hp) : Prop := ∀ b o, H b = some o → H' b = some o
theorem Same.refl (H : Hp) : Same H H := fun _ _ h => h
theorem Same.trans {H H1 H2 : Hp} (a : Same H H1) (b : Same H1 H2) : Same H H2 := fun c o h => b c o (a c o h)
theorem Same.free {H H' : Hp} (e : Same H H') {l : Addr} (h : H' l = Option.none) : H l = Option.none := by
  cases q : H l with
  | none => rfl
  | some o =>
    rw [e l o q] at h
    cases h
theorem Same.seq {K : PySem.W.Frag} {H H' : Hp} {a : Addr} {xs : List V} (e : Same H H') (h : SqL K H a xs) : SqL K H' a xs := by
  rcases h with (h | ⟨o, h⟩) | h
  · exact .inl (.inl (e _ _ h))
  · exact .inl (.inr ⟨o, e _ _ h⟩)
  · exact .inr h
end L2
namespace L2
open PySem PySem.Spec PyProof.Rows
section
variable {X : Cx}
noncomputable def zgZ:R2:=fun x y H Q=>∃i j,x=.int i∧y=.int j∧Q (.int (i+j)) H
noncomputable def zg0:R2:=fun x y H Q=>∃i j,x=.int i∧y=.int j∧Q (.int (i-j)) H
theorem zx:OpR X (binaryOp .Add) zgZ:=op_add
theorem zO:OpR X (binaryOp .Sub) zg0:=op_sub
noncomputable def zfZ (i j:Int):Prop:=∃m n:Nat,Builtin.Int.intBits i≤m∧Builtin.Int.intBits j≤n∧m+n≤134217728
noncomputable def zg1:R2:=fun x y H Q=>∃i j,x=.int i∧y=.int j∧zfZ i j∧Q (.int (i*j)) H
theorem qj:OpR X (binaryOp .Mult) zg1:=opI (C:=zfZ) (g:=fun i j=>i*j) fun _ _ _ _ _ _ _ hc q=>by
 obtain⟨m,n,h1,h2,h3⟩:=hc
 exact mul_int q (IntMulOk.of_le h1 h2 h3)
noncomputable def zf0 (j:Int):Prop:=0<j∧Builtin.Int.intBits j≤9000
noncomputable def zg2:R2:=fun x y H Q=>∃i j,x=.int i∧y=.int j∧zf0 j∧Q (.int (i / j)) H
theorem yr:OpR X (binaryOp .FloorDiv) zg2:=opI (C:=fun _ j=>zf0 j) (g:=fun i j=>i / j) fun i j _ _ _ _ _ hc q=>by
 have h1:(0:Int)<j:=hc.1
 have h3:j.natAbs.log2<9000:=(Nat.log2_lt (by omega)).mpr (intBits_le_iff.mp hc.2)
 exact floordiv_int (by omega) (by rw [Int.fdiv_eq_ediv_of_nonneg i (by omega)];exact q) (.inl (PyProof.noPylong_of_log2 h3))
noncomputable def zg3:R2:=fun x y H Q=>∃i j,x=.int i∧y=.int j∧0<j∧Q (.int (i % j)) H
theorem qe:OpR X (binaryOp .Mod) zg3:=op_mod
noncomputable def zg4:R2:=fun x y H Q=>∃i j,x=.int i∧y=.int j∧CPow i j∧Q (.int (i ^ j.toNat)) H
theorem QW:OpR X (binaryOp .Pow) zg4:=op_pow
noncomputable def zg5:R2:=fun x y H Q=>∃i j,x=.int i∧y=.int j∧CPow i j∧Q (.int (i*2 ^ j.toNat)) H
theorem zfe:OpR X (binaryOp .LShift) zg5:=op_shl
noncomputable def zkY:R2:=fun x y H Q=>∃i j,x=.int i∧y=.int j∧Q (.bl (decide (i<j))) H
noncomputable def zkZ:R2:=fun x y H Q=>∃i j,x=.int i∧y=.int j∧Q (.bl (decide (i≤j))) H
noncomputable def zk0:R2:=fun x y H Q=>∃i j,x=.int i∧y=.int j∧Q (.bl (decide (j<i))) H
noncomputable def zk1:R2:=fun x y H Q=>∃i j,x=.int i∧y=.int j∧Q (.bl (decide (j≤i))) H
noncomputable def zk2:R2:=fun x y H Q=>∃i j:Int,x=.int i∧y=.int j∧Q (.bl (decide (i=j))) H
noncomputable def zk3:R2:=fun x y H Q=>∃i j:Int,x=.int i∧y=.int j∧Q (.bl (!decide (i=j))) H
theorem yt:OpR X (compareOp .Lt) zkY:=op_lt
theorem zd9:OpR X (compareOp .LtE) zkZ:=op_le
theorem vP:OpR X (compareOp .Gt) zk0:=op_gt
theorem Kc:OpR X (compareOp .GtE) zk1:=op_ge
theorem xP:OpR X (compareOp .Eq) zk2:=by
 intro pins s σ H x y v u Q I rx ry h
 obtain⟨i,j,rfl,rfl,q⟩:=h
 refine op_eq pins s σ H _ _ v u Q I rx ry ⟨rfl,?_⟩
 have e:decide (V.int i=V.int j)=decide (i=j):=decide_eq_decide.mpr ⟨fun z=>V.int.inj z,fun z=>by rw [z]⟩
 rw [e];exact q
theorem Xz:OpR X (compareOp .NotEq) zk3:=by
 intro pins s σ H x y v u Q I rx ry h
 obtain⟨i,j,rfl,rfl,q⟩:=h
 refine op_ne pins s σ H _ _ v u Q I rx ry ⟨rfl,?_⟩
 have e:decide (V.int i=V.int j)=decide (i=j):=decide_eq_decide.mpr ⟨fun z=>V.int.inj z,fun z=>by rw [z]⟩
 rw [e];exact q
noncomputable def zf1 (X:Cx):Prop:=∀(pins:List (Addr×Obj)) (σ:St) (H:Hp) (s:Shared),Inv X pins σ H s→PylongRoom (model X.prog X.w) X.A s
noncomputable def zg6:R2:=fun x y H Q=>∃i j,x=.int i∧y=.int j∧0<j∧Q (.int (i / j)) H
theorem zbe (hp:zf1 X):OpR X (binaryOp .FloorDiv) zg6:=by
 intro pins s σ H x y v u Q I rx ry h
 obtain⟨i,j,rfl,rfl,hj,q⟩:=h
 obtain⟨t,rfl⟩:=rx
 obtain⟨t',rfl⟩:=ry
 refine floordiv_int (by omega) ?_ (.inr (hp pins σ H s I))
 rw [Int.fdiv_eq_ediv_of_nonneg i (by omega)]
 exact⟨.int (i / j),H,I.tok _,⟨_,rfl⟩,q⟩
theorem zea {CX:CXT}{P:Program}{w:World}{K:PySem.W.Frag}{mg:Str→Option Value}{base:Heap}{N ps:List Str}{qual:Str}{scope:Scope}{f:Addr}{cdv:Value}{A:Around}{outer:List Env}{s:Shared}{H:Hp}{E:XK}
  (hP:P.given.tree=none) (S:FnScope N ps scope) (hr:Room 35 (A.deeper (envOfC qual scope s.heap.objs.size f cdv))):zf1 ((cxOf CX P w K mg base N qual scope f cdv A outer s H E).nox):=by
 intro pins σ H' s' I
 have I':=I.unwish
 refine PylongRoom.of I'.nolimit ?_ (SeerAt.of (I'.mod.seer.keeps I'.bk) hP I'.ok.frames S.gen S.co rfl rfl)
 have:=hr.dp
 show (A.deeper (envOfC qual scope s.heap.objs.size f cdv)).depth+100 < _
 omega
theorem Wx:MtR X "int.bit_length" (fun x vs H Q=>∃i,x=.int i∧vs=[]∧Q (.int (Builtin.Int.intBits i:Nat)) H):=by
 intro pins s σ H x xs v us Q I rx rv h
 obtain⟨i,rfl,rfl,q⟩:=h
 obtain⟨t,rfl⟩:=rx
 cases rv
 exact call_int_bit_length ⟨.int _,H,I.tok _,⟨_,rfl⟩,q⟩
theorem Za:CallR X (.builtin "isinstance") (fun xs H Q=>∃x n t b,xs=[x,.ty n]∧TyOf X.K H x t∧PySem.W.kitOne X.K t (.type n)=some b∧Q (.bl b) H):=by
 intro pins s σ H xs us Q I r h
 obtain⟨x,n,t,b,rfl,ty,e,q⟩:=h
 obtain⟨u,c,rfl,rx,rc⟩:=vals2 r
 cases (show c=Value.type n from rc)
 exact isinst_ok I rx ty e fun tk=>⟨.bl b,H,I.tok tk,rfl,q⟩
end
theorem zbf (K:PySem.W.Frag):PySem.W.kitOne K (.type "int") (.type "int")=some true:=by with_unfolding_all rfl
theorem zav (K:PySem.W.Frag):PySem.W.kitOne K (.type "int") (.type "bool")=some false:=by with_unfolding_all rfl
noncomputable def Def (K:PySem.W.Frag) (mg:Str→Option Value) (x:Str) (st:Stmt) (ps:List Str):Prop:=
 ∃f fd,Fun K x x st f fd∧Binds K fd ps []∧mg x=some (.ref f)
noncomputable def Fn (P:Program) (w:World) (K:PySem.W.Frag) (mg:Str→Option Value) (base:Heap) (k:Nat) (x:Str) (ps:List Str) (sp:Sp):Prop:=
 ∃f fd,FnOk P w K mg base CX0 k f fd ps sp∧PySem.W.keepIn K (.ref f)=true∧Binds K fd ps []∧mg x=some (.ref f)
section
variable {P:Program}{w:World}{K:PySem.W.Frag}{mg:Str→Option Value}{base:Heap}
theorem Def.fn {x:Str}{st:Stmt}{N ps:List Str}{k:Nat}{sp:Sp} (D:Def K mg x st ps) (S:FnScope N ps (defScope st)) (len:∀vs H Q E,sp vs H Q E→vs.length=ps.length)
  (hbody:∀(f:Addr) (cdv:Value) (A:Around) (outer:List Env) (s:Shared) (H:Hp) (vs:List V) (Q:VK) (E:XK),Room k (A.deeper (envOfC x (defScope st) s.heap.objs.size f cdv))→sp vs H Q E →
   ∃t,PSs (cxOf CX0 P w K mg base N x (defScope st) f cdv A outer s H E).nox (defBody st) t∧t { nx:=fun _ H'=>Q .non H',rt:=Q } (start N vs) H):Fn P w K mg base (k+1) x ps sp:=by
 obtain⟨f,fd,F,b,m⟩:=D
 exact⟨f,fd,F.ok S len (fun cdv A outer s H vs Q E hr h=>hbody f cdv A outer s H vs Q E hr h),F.kp,b,m⟩
end
section
variable {X:Cx}{k:Nat}{x:Str}{ps:List Str}{sp:Sp}{p pos:Pos}{e:Expr}{es:List Expr}{t:TA}
noncomputable def tFn (sp:Sp) (t:TA):TE:=fun σ H Q=>t σ H fun vs H1=>sp vs H1 Q E0
theorem zr (F:Fn X.prog X.w X.K X.mg X.base k x ps sp) (hr:Room k X.A) (hg:Gl X x) (ha:PA X (e::es) t) (hdb:(x == ("__debug__":Str))=false:=by decide)
  (he:starEach (e::es) X.env=(false,eval e X.env)::starEach es X.env:=by rfl) (hpl:(backTo pos (starEach es X.env)).any (·.1)=false:=by rfl) :
  PE X (.Call (.Name x p) (e::es) [] pos) (tFn sp t):=by
 obtain⟨f,fd,F,kp,b,m⟩:=F
 have h:=pe_call (p:=p) (pos:=pos) (dvs:=[]) (ds:=[]) F hr hg m kp b .nil pass0 ha hdb he hpl
 intro pins s σ H Q I q
 refine h pins s σ H Q I ?_
 show t σ H fun vs H1=>sp (vs++[]) H1 Q E0
 have q':t σ H fun vs H1=>sp vs H1 Q E0:=q
 simpa only [List.append_nil] using q'
end
theorem ifD {c A B:Prop} [Decidable c] (h1:c→A) (h2:¬c→B):if decide c=true then A else B:=by
 by_cases h:c
 ·rw [if_pos (decide_eq_true h)];exact h1 h
 ·rw [if_neg (fun z=>h (of_decide_eq_true z))];exact h2 h
theorem zbg {c A B:Prop} [Decidable c] (h1:¬c→A) (h2:c→B):if (!decide c)=true then A else B:=by
 by_cases h:c
 ·rw [if_neg (by rw [decide_eq_true h];decide)];exact h2 h
 ·rw [if_pos (by rw [decide_eq_false h];decide)];exact h1 h
theorem ifT {c A B:Prop} [Decidable c] (h:c) (a:A):if decide c=true then A else B:=ifD (fun _=>a) (fun z=>absurd h z)
theorem ifF {c A B:Prop} [Decidable c] (h:¬c) (b:B):if decide c=true then A else B:=ifD (fun z=>absurd z h) (fun _=>b)
theorem wX:bootBuiltins "isinstance"=some (.builtin "isinstance"):=by decide +kernel
theorem zc3:bootBuiltins "int"=some (.type "int"):=by decide +kernel
theorem zgh:bootBuiltins "bool"=some (.type "bool"):=by decide +kernel
theorem zgi:bootBuiltins "list"=some (.type "list"):=by decide +kernel
theorem Jd:bootBuiltins "str"=some (.type "str"):=by decide +kernel
theorem xQ:bootBuiltins "len"=some (.builtin "len"):=by decide +kernel
theorem zg7:bootBuiltins "min"=some (.builtin "min"):=by decide +kernel
theorem zeb:bootBuiltins "sorted"=some (.builtin "sorted"):=by decide +kernel
theorem zg8:bootBuiltins "all"=some (.builtin "all"):=by decide +kernel
theorem zbh:bootBuiltins "enumerate"=some (.type "enumerate"):=by decide +kernel
theorem zcj:bootBuiltins "reversed"=some (.type "reversed"):=by decide +kernel
theorem Same.put {H H':Hp}{p:Addr}{o:HO} (s:Same H H') (h:H' p=Option.none):Same H (upd H' p o):=fun b u e=>by
 have e':=s b u e
 rw [upd_ne (ne_of_none e' h)]
 exact e'
theorem Same.new {H:Hp}{p:Addr}{o:HO} (h:H p=Option.none):Same H (upd H p o):=(Same.refl H).put h
end L2
namespace L2
open PySem PySem.Spec PyProof.Rows
noncomputable def zdG (lo c:Int) (n:Nat):It:=⟨fun i _=>i<n,fun i H x H'=>H'=H∧x=.int (lo+i*c),fun i _=>n≤i⟩
theorem zbi {P:Program}{w:World}{K:PySem.W.Frag}{tg:Expr} (it:Addr) (lo c:Int) (n:Nat):Turn P w K tg (zdG lo c n) [it] it (fun i h=>IsRangeIter h it (lo+(i:Nat)*c) ((n:Int)-(i:Nat)) c) where
 mem:=by simp
 obj:=fun i h st b hb=>by
  have e:b=it:=by simpa using hb
  subst e
  exact⟨_,st,fun v z=>by
   have z':Data.fields _=Data.cell v:=z
   cases z'⟩
 keep:=fun i h h' st k=>k it (by simp) _ st
 item:=by
  intro X hP hw hK hc i pins s σ H E I hf st hg
  subst hP hw hK
  obtain⟨f0,f1,f2,f3,f4,f5⟩:=hf it (by simp)
  have W:=Walks.range (prog:=X.prog) (w:=X.w) (I.ok.hd hc) it lo c n
  refine W.item i s _ _ hg st fun v h' tk hv st' kk=>?_
  obtain⟨t,rfl⟩:=hv
  have I1:Inv X pins σ H { s with heap:=h',toks:=tk }:=I.turned (fun b o hb e=>kk b o (by simpa using hb) e) f0 f1 f3 f4 f5
  exact⟨_,rfl,go_of (s:={ s with heap:=h',toks:=tk }) (n:="range_iterator") st' rfl rfl (by decide) ⟨.int (lo+i*c),H,I1,⟨t,rfl⟩,⟨rfl,rfl⟩,st',fun b hb=>(hf b hb).1⟩⟩
 done:=by
  intro X hP hw hK hc i pins s σ H E I hf st hg
  subst hP hw hK
  obtain⟨f0,f1,f2,f3,f4,f5⟩:=hf it (by simp)
  exact wpAny_pyNext_range_end (I.ok.hd hc) st (by have:n≤i:=hg;omega) fun h' eb=>⟨rfl,I.turned (t':=s.toks) (fun b o hb e=>eb b o hb e) f0 f1 f3 f4 f5⟩
 self:=fun _ _ _ _ _ st h=>wpAny_pyIter_rangeiter st h
section
variable {X:Cx}{tg:Expr}
noncomputable def zg9 (ta:TA):TI:=fun σ H R=>ta σ H fun vs H1=>∃(i j c:Int) (n:Nat),vs=[.int i,.int j,.int c]∧(c≠0∧c.natAbs<1073741824∧Builtin.Range.small i j c=true∧Builtin.Range.rangeSize i j c=(n:Int))∧R (zdG i c n) H1
theorem Y5 {a b c:Expr}{ta:TA}{p pos:Pos} (hg:Gl X "range") (hm:X.mg "range"=none) (ha:PA X [a,b,c] ta) (hs:starEach [a,b,c] X.env=(false,eval a X.env)::starEach [b,c] X.env:=by rfl) (hs2:(backTo pos (starEach [b,c] X.env)).any (·.1)=false:=by rfl) :
  PI X tg (.Call (.Name "range" p) [a,b,c] [] pos) (zg9 ta):=by
 intro pins s σ H R I h
 refine Call_ (ld_blt I hg hm boot_range (PyProof.Rows.callWith_type1 (thn (ha pos pins s σ H _ I h) fun us s1 ⟨vs,H1,I1,r1,q1⟩=>?_) hs hs2))
 obtain⟨i,j,k,n,e,⟨q1,q2,q3,q4⟩,q⟩:=q1
 subst e
 cases r1 with
 | cons r rr=>
  cases rr with
  | cons r' rr=>
   cases rr with
   | cons r'' rr=>
    cases rr
    obtain⟨t,rfl⟩:=r
    obtain⟨t',rfl⟩:=r'
    obtain⟨t'',rfl⟩:=r''
    refine call_range_3 q1 ?_ (.inl (PyProof.noPylong_small q2))
    refine wpAny_pyIter_range (IsRange.new ..) q3 ?_
    have I2:Inv X pins σ H1 { s1 with heap:=s1.heap.push { cls:=.type "range",data:=.fields #[.int i t,.int j t',.int k t''] },toks:=s1.toks }:=I1.kept fun b o e=>Heap.get?_push_of_some _ e
    refine⟨(s1.heap.push { cls:=.type "range",data:=.fields #[.int i t,.int j t',.int k t''] }).objs.size,[(s1.heap.push { cls:=.type "range",data:=.fields #[.int i t,.int j t',.int k t''] }).objs.size],_,_,H1,rfl,
     I2.kept (t':=s1.toks) fun b o e=>Heap.get?_push_of_some _ e,zbi _ i k n,?_,fun b hb=>?_,q⟩
    ·have e1:i+((0:Nat):Int)*k=i:=by simp
     have e2:((n:Nat):Int)-((0:Nat):Int)=Builtin.Range.rangeSize i j k:=by rw [q4];simp
     show IsRangeIter _ _ (i+((0:Nat):Int)*k) (((n:Nat):Int)-((0:Nat):Int)) k
     rw [e1,e2]
     exact Heap.get?_push_size _ rfl
    ·have e:b=(s1.heap.push { cls:=.type "range",data:=.fields #[.int i t,.int j t',.int k t''] }).objs.size:=by simpa using hb
     subst e
     exact I2.fpOk (Nat.le_refl _) (I2.hok.fresh (Nat.le_refl _))
end
theorem zck {lo c:Int}{n:Nat}{g:TG}{tb:TS}{D:Ends}{σ:St}{H:Hp} (Pv:Nat→St→Hp→Prop) (h0:Pv 0 σ H)
  (hs:∀i σ H,i<n→Pv i σ H→g (.int (lo+i*c)) σ H fun σ2 H2=>tb { D with nx:=Pv (i+1),ct:=Pv (i+1),bk:=D.nx } σ2 H2) (hd:∀σ H,Pv n σ H→D.nx σ H) :
  ∃W:Nat→Nat→St→Hp→Prop,(∃m,W 0 m σ H)∧∀i m σ H,W i m σ H →
   ((zdG lo c n).stop i H∧D.nx σ H)∨((zdG lo c n).go i H∧∃N:St→Hp→Prop,(∀σ' H',N σ' H'→∃m',m'<m∧W (i+1) m' σ' H')∧∀x H',(zdG lo c n).yld i H x H'→g x σ H' fun σ2 H2=>tb { D with nx:=N,ct:=N,bk:=D.nx } σ2 H2):=by
 refine⟨fun i m σ H=>m=n-i∧i≤n∧Pv i σ H,⟨n,by simp,Nat.zero_le _,h0⟩,?_⟩
 rintro i m σ H ⟨rfl,hi,p⟩
 by_cases hlt:i<n
 ·refine .inr ⟨hlt,Pv (i+1),fun σ' H' p'=>⟨n-(i+1),by omega,rfl,hlt,p'⟩,fun x H' y=>?_⟩
  obtain⟨e,y⟩:=y
  subst e y
  exact hs i σ _ hlt p
 ·have e:i=n:=by omega
  subst e
  exact .inl ⟨Nat.le_refl _,hd σ H p⟩
end L2
namespace L2
open PySem PySem.Spec PyProof.Rows
def xR (env:Env):List (Str×NameKind)→List (Str×Addr)→List (Str×Addr)
 | [],acc=>acc
 | (n,k)::r,acc=>if k == .free then xR env r ((n,(env.cells.lookup n).getD 0)::acc) else xR env r acc
theorem Kd {scope:Scope}{env:Env} (h:∀p∈scope.names,p.2=.free→∃c,env.cells.lookup p.1=some c):closureFor scope env=pure (xR env scope.names []):=by
 unfold closureFor
 have key:∀(names:List (Str×NameKind)) (acc:List (Str×Addr)),(∀p∈names,p.2=.free→∃c,env.cells.lookup p.1=some c) →
   (forIn names acc (fun(x:Str×NameKind) (cs:List (Str×Addr))=>match x with
    | (name,kind)=>if (kind == NameKind.free)=true then (cellOf env name >>= fun c=>pure (ForInStep.yield ((name,c)::cs))) else pure (ForInStep.yield cs)):Sem (List (Str×Addr)))=pure (xR env names acc):=by
  intro names
  induction names with
  | nil=>intro acc _;rfl
  | cons p r ih=>
   intro acc hp
   obtain⟨n,k⟩:=p
   have hr:∀p∈r,p.2=.free→∃c,env.cells.lookup p.1=some c:=fun p hm=>hp p (List.mem_cons_of_mem _ hm)
   rw [List.forIn_cons]
   by_cases hk:k=.free
   ·subst hk
    obtain⟨c,hc⟩:=hp (n,.free) List.mem_cons_self rfl
    have hc:env.cells.lookup n=some c:=hc
    have e1:cellOf env n=pure c:=by unfold cellOf;rw [hc]
    have e2:xR env ((n,.free)::r) acc=xR env r ((n,c)::acc):=by
     show xR env r ((n,(env.cells.lookup n).getD 0)::acc)=_
     rw [hc];rfl
    simp only [beq_self_eq_true,if_true,e1,pure_bind]
    rw [e2]
    exact ih _ hr
   ·have hb:(k == NameKind.free)=false:=by simpa using hk
    have e2:xR env ((n,k)::r) acc=xR env r acc:=by
     show (if (k == NameKind.free)=true then xR env r ((n,(env.cells.lookup n).getD 0)::acc) else xR env r acc)=_
     rw [hb];rfl
    simp only [hb,Bool.false_eq_true,if_false,pure_bind]
    rw [e2]
    exact ih _ hr
 have k0:=key scope.names [] h
 show (forIn scope.names ([]:List (Str×Addr)) _ >>= fun r=>pure r)=_
 refine Eq.trans (congrArg (fun m=>m >>= fun r=>pure r) k0) ?_
 rfl
theorem XC {env:Env}:∀{names:List (Str×NameKind)}{acc:List (Str×Addr)},(∀p∈names,p.2=.free→∃c,env.cells.lookup p.1=some c)→(∀x c,acc.lookup x=some c→env.cells.lookup x=some c) →
  ∀x c,(xR env names acc).lookup x=some c→env.cells.lookup x=some c
 | [],_,_,ha,x,c,h=>ha x c h
 | (n,k)::r,acc,hp,ha,x,c,h=>by
  have hr:∀p∈r,p.2=.free→∃c,env.cells.lookup p.1=some c:=fun p hm=>hp p (List.mem_cons_of_mem _ hm)
  by_cases hk:k=.free
  ·subst hk
   obtain⟨d,hd⟩:=hp (n,.free) List.mem_cons_self rfl
   have hd:env.cells.lookup n=some d:=hd
   have e2:xR env ((n,.free)::r) acc=xR env r ((n,d)::acc):=by
    show xR env r ((n,(env.cells.lookup n).getD 0)::acc)=_
    rw [hd];rfl
   rw [e2] at h
   refine XC hr (fun y e hy=>?_) x c h
   rw [List.lookup_cons] at hy
   cases hyn:y == n with
   | true=>rw [hyn] at hy;cases hy;rw [beq_iff_eq.mp hyn];exact hd
   | false=>rw [hyn] at hy;exact ha y e hy
  ·have hb:(k == NameKind.free)=false:=by simpa using hk
   have e2:xR env ((n,k)::r) acc=xR env r acc:=by
    show (if (k == NameKind.free)=true then xR env r ((n,(env.cells.lookup n).getD 0)::acc) else xR env r acc)=_
    rw [hb];rfl
   rw [e2] at h
   exact XC hr ha x c h
theorem Xb {env:Env}:∀{names:List (Str×NameKind)}{acc:List (Str×Addr)}{x:Str},((x,NameKind.free)∈names∨∃c,acc.lookup x=some c)→∃c,(xR env names acc).lookup x=some c
 | [],_,_,h=>h.elim (fun z=>nomatch z) id
 | (n,k)::r,acc,x,h=>by
  by_cases hk:k=.free
  ·subst hk
   show ∃c,(xR env r ((n,(env.cells.lookup n).getD 0)::acc)).lookup x=some c
   refine Xb ?_
   by_cases hx:x=n
   ·subst hx;exact .inr ⟨_,by rw [List.lookup_cons,beq_self_eq_true]⟩
   ·rcases h with h | ⟨c,h⟩
    ·rcases List.mem_cons.mp h with e | e
     ·cases e;exact absurd rfl hx
     ·exact .inl e
    ·exact .inr ⟨c,by rw [List.lookup_cons,beq_eq_false_iff_ne.mpr hx];exact h⟩
  ·have hb:(k == NameKind.free)=false:=by simpa using hk
   have e2:xR env ((n,k)::r) acc=xR env r acc:=by
    show (if (k == NameKind.free)=true then xR env r ((n,(env.cells.lookup n).getD 0)::acc) else xR env r acc)=_
    rw [hb];rfl
   rw [e2]
   refine Xb ?_
   rcases h with h | h
   ·rcases List.mem_cons.mp h with e | e
    ·cases e;exact absurd rfl hk
    ·exact .inl e
   ·exact .inr h
section
variable {prog:Program}{w:World}{A:Around}
theorem Qn {elt target iter:Expr}{ifs:List Expr}{scope:Scope}{pos:Pos}{it acc:Value}{env:Env}{s:Shared}{R:Result→Shared→Prop} (I:Nat→Shared→Prop)
  (turn:∀n s,I n s→wpAny (model prog w) A (pyNext it) (fun r s₁=>match r with
   | none=>R (.ok .next) s₁
   | some v=>wpAny (model prog w) A (letOwnedTupleGo target it v) (fun _ s₁'=>wpAny (model prog w) A (assign target env v) (fun _ s₂=>
     wpAny (model prog w) A (forIn ifs true fun c r=>if r=true then do let ok ← isTrue c env (eval c env);pure (ForInStep.yield ok) else pure (ForInStep.yield r)) (fun ok s₃=>
      if ok=true then wpAny (model prog w) A (eval elt env) (fun x s₄=>wpAny (model prog w) A (call (.builtin "list.append") [acc,x]) (fun _ s₅=>∃m,m<n∧I m s₅) (fun _ _=>False) s₄) (fun _ _=>False) s₃
      else ∃m,m<n∧I m s₃) (fun _ _=>False) s₂) (fun _ _=>False) s₁') (fun _ _=>False) s₁) (fun _ _=>False) s)
  (n:Nat) (h:I n s):codeAny (model prog w) A (.compLoop (.ListComp elt [⟨target,iter,ifs,0⟩] scope pos) 0 it acc env) R s:=by
 refine codeAny_loop rfl I (fun n s hI=>?_) n h
 show wpAny _ A ((compTurn (.ListComp elt [⟨target,iter,ifs,0⟩] scope pos) 0 it acc env).onRaise (fun x=>do noteFrame x env;theTreesLotGoes x)) _ _ s
 refine wpAny_noted ?_
 rw [compTurn_list]
 refine wpAny_bind (wpAny_standAt (wpAny_bind (wpAny_mono (turn n s hI) (fun r s₁ h₁=>?_) fun _ _ h'=>h'.elim)))
 cases r with
 | none=>exact wpAny_pure h₁
 | some v=>
  refine wpAny_bind (wpAny_mono h₁ (fun _ s₁' h₁'=>?_) fun _ _ h'=>h'.elim)
  refine wpAny_bind (wpAny_mono h₁' (fun _ s₂ h₂=>wpAny_bind (wpAny_mono h₂ (fun ok s₃ h₃=>?_) fun _ _ h'=>h'.elim)) fun _ _ h'=>h'.elim)
  cases ok with
  | false=>exact wpAny_pure ⟨rfl,h₃⟩
  | true=>exact wpAny_bind (wpAny_bind (wpAny_mono h₃ (fun x s₄ h₄=>wpAny_bind (wpAny_mono h₄ (fun _ s₅ h₅=>wpAny_pure (wpAny_pure ⟨rfl,h₅⟩)) fun _ _ h'=>h'.elim)) fun _ _ h'=>h'.elim))
end
abbrev qg (X:Cx) (pins:List (Addr×Obj)) (N:List Str) (scope:Scope) (C:Addr) (sF:Shared) (HF:Hp) (fp:List Addr):Cx where
 prog:=X.prog
 w:=X.w
 K:=X.K
 mg:=X.mg
 base:=X.base
 A:=X.A
 N:=N
 s₀:=sF
 H₀:=HF
 env:=compEnvC scope (xR X.env scope.names []) C X.env
 outer:=X.stack
 stack:=X.stack
 ex:=fp
 fn:=fun _=>false
 calm:=X.calm
 pn:=X.pn++pins
 xe:=fun _ _=>False
noncomputable def jy (own:Nat) (ix:List Nat) (σ:St):St:=List.replicate own none++ix.map fun i=>(σ[i]?).getD none
noncomputable def Jm (J:It) (own:Nat) (ix:List Nat) (g:TG) (tt:TT) (te:TE) (σ:St) (H1:Hp) (acc:Addr) (Q:VK):Prop:=
 ∃W:Nat→Nat→List V→Hp→Prop,(∃m,W 0 m [] (upd H1 acc (.lst [])))∧∀i m ys H2,W i m ys H2 →
  H2 acc=some (.lst ys)∧((J.stop i H2∧Q (.ref acc) H2)∨(J.go i H2∧ys.length<sizeLine∧∀x H3,J.yld i H2 x H3→g x (jy own ix σ) H3 fun σ4 H4=>σ4.drop own=ix.map (fun i=>(σ[i]?).getD none)∧tt σ4 H4 fun ok H5=>
   if ok=true then te σ4 H5 fun y H6=>H6 acc=some (.lst ys)∧∃m',m'<m∧W (i+1) m' (ys++[y]) (upd H6 acc (.lst (ys++[y])))
   else ∃m',m'<m∧W (i+1) m' ys H5))
noncomputable def zf2 (wi:TI) (own:Nat) (ix:List Nat) (g:TG) (tt:TT) (te:TE):TE:=fun σ H Q=>wi σ H fun J H1=>∀acc,H1 acc=none→Jm J own ix g tt te σ H1 acc Q
noncomputable def ZV:TT:=fun _ H Q=>Q true H
noncomputable def PTs (X:Cx) (ifs:List Expr) (t:TT):Prop:=
 ∀(pins:List (Addr×Obj)) (s:Shared) (σ:St) (H:Hp) (Q:Bool→Hp→Prop),Inv X pins σ H s→t σ H Q →
  wpAny (model X.prog X.w) X.A (forIn ifs true fun c r=>if r=true then do let ok ← isTrue c X.env (eval c X.env);pure (ForInStep.yield ok) else pure (ForInStep.yield r)) (TP X pins σ Q) X.xe s
theorem qZ {X:Cx}:PTs X [] ZV:=fun _ _ _ H _ I h=>wpAny_tests_nil ⟨H,I,h⟩
structure zaw (X:Cx) (scope:Scope) (own:List Str) (fr:List Str) (ix:List Nat):Prop where
 kind:scope.kind=.function
 nocell:∀y∈scope.names,y.2≠.cell
 names:∀y∈scope.names,y.2=.local→scope.names.lookup y.1=some .local
 free:∀p∈scope.names,p.2=.free→∃c,X.env.cells.lookup p.1=some c
 frd:∀x∈fr,(x,NameKind.free)∈scope.names∧X.env.kindOf x=some .cell∧scope.names.lookup x=some .free
 len:fr.length=ix.length
 at_:∀(j:Nat) x i,fr[j]?=some x→ix[j]?=some i→X.N[i]?=some x
structure zax (X:Cx) (scope:Scope) (own:List Str) (fr:List Str) (ix:List Nat):Prop where
 kind:scope.kind=.function
 nocell:(scope.names.all fun y=>y.2 != .cell)=true
 names:(scope.names.all fun y=>y.2 != .local || scope.names.lookup y.1 == some .local)=true
 free:(scope.names.all fun p=>p.2 != .free || X.env.kindOf p.1 == some .cell)=true
 frd:(fr.all fun x=>X.env.kindOf x == some .cell && scope.names.lookup x == some .free)=true
 at_:(ix.map fun i=>X.N[i]?)=fr.map some
theorem mem_of_lookup {x:Str}{k:NameKind}:∀{names:List (Str×NameKind)},names.lookup x=some k→(x,k)∈names
 | [],h=>by simp at h
 | (n,k')::r,h=>by
  rw [List.lookup_cons] at h
  cases hx:x == n with
  | true=>
   rw [hx] at h
   cases h
   rw [beq_iff_eq.mp hx]
   exact List.mem_cons_self
  | false=>
   rw [hx] at h
   exact List.mem_cons_of_mem _ (mem_of_lookup h)
theorem zax.ok {X:Cx}{scope:Scope}{own fr:List Str}{ix:List Nat} (B:zax X scope own fr ix) (ok:X.Ok):zaw X scope own fr ix where
 kind:=B.kind
 nocell:=fun y hy=>by simpa using List.all_eq_true.mp B.nocell y hy
 names:=fun y hy hl=>by
  have:=List.all_eq_true.mp B.names y hy
  rw [hl] at this
  simpa using this
 free:=fun p hp hf=>by
  have:=List.all_eq_true.mp B.free p hp
  rw [hf] at this
  exact ok.has p.1 (.inl (by simpa using this))
 frd:=fun x hx=>by
  have:=List.all_eq_true.mp B.frd x hx
  rw [Bool.and_eq_true] at this
  have h2:scope.names.lookup x=some .free:=by simpa using this.2
  exact⟨mem_of_lookup h2,by simpa using this.1,h2⟩
 len:=by
  have:=congrArg List.length B.at_
  simpa using this.symm
 at_:=fun j x i hx hi=>by
  have e:=congrArg (fun l=>l[j]?) B.at_
  simp only [List.getElem?_map,hx,hi,Option.map_some] at e
  exact Option.some.inj e
theorem Xc {env:Env} (hf:env.scope.kind=.function):∀{names:List (Str×NameKind)}{x:Str},names.lookup x=some .free→env.kindOf x=some .cell →
  (names.map fun(n,k)=>if (k == NameKind.free && env.scope.kind == .function && env.kindOf n == some .cell) then (n,NameKind.cell) else (n,k)).lookup x=some .cell
 | [],_,h,_=>by simp at h
 | (n,k)::r,x,h,hx=>by
  have ih:=@Xc env hf r x
  show List.lookup x ((if (k == NameKind.free && env.scope.kind == .function && env.kindOf n == some .cell)=true then (n,NameKind.cell) else (n,k))::_)=_
  cases hxn:x == n with
  | true=>
   have e:=beq_iff_eq.mp hxn
   subst e
   simp only [List.lookup_cons,hxn] at h
   cases h
   rw [if_pos (by rw [hf,hx];rfl)]
   simp only [List.lookup_cons,hxn]
  | false=>
   simp only [List.lookup_cons,hxn] at h
   by_cases hc:(k == NameKind.free && env.scope.kind == .function && env.kindOf n == some .cell)=true
   ·rw [if_pos hc];simp only [List.lookup_cons,hxn];exact ih h hx
   ·rw [if_neg hc];simp only [List.lookup_cons,hxn];exact ih h hx
theorem Vp {env:Env}:∀{names:List (Str×NameKind)}{x:Str},(∀y∈names,y.2≠.cell) →
    ((names.map fun(n,k)=>if (k == NameKind.free && env.scope.kind == .function && env.kindOf n == some .cell) then (n,NameKind.cell) else (n,k)).lookup x=some .cell ∨
     (names.map fun(n,k)=>if (k == NameKind.free && env.scope.kind == .function && env.kindOf n == some .cell) then (n,NameKind.cell) else (n,k)).lookup x=some .free)→(x,NameKind.free)∈names
  | [],_,_,h=>by simp at h
  | (n,k)::r,x,hn,h=>by
    have ih:=@Vp env r x (fun y hy=>hn y (List.mem_cons_of_mem _ hy))
    have hk:k≠.cell:=hn (n,k) List.mem_cons_self
    have h':List.lookup x ((if (k == NameKind.free && env.scope.kind == .function && env.kindOf n == some .cell)=true then (n,NameKind.cell) else (n,k))::r.map fun(n,k)=>if (k == NameKind.free && env.scope.kind == .function && env.kindOf n == some .cell) then (n,NameKind.cell) else (n,k))=some .cell ∨
      List.lookup x ((if (k == NameKind.free && env.scope.kind == .function && env.kindOf n == some .cell)=true then (n,NameKind.cell) else (n,k))::r.map fun(n,k)=>if (k == NameKind.free && env.scope.kind == .function && env.kindOf n == some .cell) then (n,NameKind.cell) else (n,k))=some .free:=h
    by_cases hc:(k == NameKind.free && env.scope.kind == .function && env.kindOf n == some .cell)=true
    · have hf:k=.free:=by
        rw [Bool.and_eq_true,Bool.and_eq_true] at hc
        exact beq_iff_eq.mp hc.1.1
      subst hf
      cases hxn:x == n with
      | true=>rw [beq_iff_eq.mp hxn];exact List.mem_cons_self
      | false=>
        rw [if_pos hc] at h'
        simp only [List.lookup_cons,hxn] at h'
        exact List.mem_cons_of_mem _ (ih h')
    · rw [if_neg hc] at h'
      cases hxn:x == n with
      | true=>
        simp only [List.lookup_cons,hxn] at h'
        rcases h' with e | e
        · cases e;exact absurd rfl hk
        · cases e;rw [beq_iff_eq.mp hxn];exact List.mem_cons_self
      | false=>
        simp only [List.lookup_cons,hxn] at h'
        exact List.mem_cons_of_mem _ (ih h')
section
variable {X:Cx}{pins:List (Addr×Obj)}{σ:St}{H:Hp}{s:Shared}
theorem zbj {scope:Scope}{own fr:List Str}{ix:List Nat}{C:Addr}{h₁:Heap}{tk:Nat}{fp:List Addr}{m:Str→Option Value} (I:Inv X pins σ H s) (B:zaw X scope own fr ix) (hC:C=s.heap.objs.size)
  (hf:∀b∈fp,FpOk X pins H b) (hb:∀b∈fp,∃o,s.heap.get? b=some o) (old:∀b o,s.heap.get? b=some o→h₁.get? b=some o) (hns:h₁.Ns C m) :
  Inv (qg X pins (own++fr) scope C s H fp) [] (jy own.length ix σ) H { s with heap:=h₁,toks:=tk }:=by
 have look:∀x c,(xR X.env scope.names []).lookup x=some c→X.env.cells.lookup x=some c:=XC B.free (fun _ _ z=>by cases z)
 have lt:∀b o,s.heap.get? b=some o→b≠C:=fun b o e=>by rw [hC];exact Nat.ne_of_lt (Heap.lt_size e)
 have ok:(qg X pins (own++fr) scope C s H fp).Ok:={
  mod:=I.ok.mod
  kind:=B.kind
  glob:=I.ok.glob
  blt:=I.ok.blt
  above:=by show s.heap.objs.size≤C;rw [hC];exact Nat.le_refl _
  inj:=fun x y c a b=>I.ok.inj x y c (look x c a) (look y c b)
  has:=fun x hx=>Xb (.inl (Vp B.nocell hx))
  cab:=fun x c z=>nomatch z
  hd:=I.ok.hd
  frames:=I.ok.frames
  stk:=.inl rfl
  exf:=fun b hbf=>⟨by obtain⟨o,e⟩:=hb b hbf;exact lt b o e,fun x c e=>(hf b hbf).2.2.2.2.1 x c (look x c e)⟩
  bs:=I.bs
  bsz:=Nat.le_trans I.ok.bsz I.sz
  noex:=fun b o e hbf=>by
   rcases (hf b hbf).2.2.2.1 with z | z
   ·exact I.ok.noex b o e z
   ·exact absurd (Nat.lt_of_lt_of_le (Heap.lt_size e) (Nat.le_trans I.ok.bsz z)) (Nat.lt_irrefl _)
  exfs:=fun b hbf hs=>by
   rcases List.mem_cons.mp (I.stkSub b hs) with z | z
   ·exact(hf b hbf).2.1 z
   ·exact(hf b hbf).2.2.1 z
  funs:=I.stack
  frf:=I.stkFree }
 refine⟨ok,rfl,I.bare,Un.kept old,⟨m,hns,fun i x v e1 e2 e3=>?_⟩,fun x c e=>?_,?_,fun x c e=>I.freeC x c (look x c e),fun p hp=>?_,I.hok.kept old,?_⟩
 ·have e1:(own++fr)[i]?=some x:=e1
  have e2:(List.replicate own.length none++ix.map fun i=>(σ[i]?).getD none)[i]?=some (some v):=e2
  by_cases hi:i<own.length
  ·rw [List.getElem?_append_left (by rw [List.length_replicate];exact hi),List.getElem?_replicate,if_pos hi] at e2
   cases e2
  ·rw [List.getElem?_append_right (by omega)] at e1
   rw [List.getElem?_append_right (by rw [List.length_replicate];omega),List.length_replicate,List.getElem?_map] at e2
   obtain⟨i',hi',e4⟩:=Option.map_eq_some_iff.mp e2
   have e5:σ[i']?=some (some v):=by
    cases z:σ[i']? with
    | none=>rw [z] at e4;cases e4
    | some y=>rw [z] at e4;exact congrArg some e4
   have hm:x∈fr:=List.mem_of_getElem? e1
   obtain⟨f1,f2,f3⟩:=B.frd x hm
   obtain⟨mX,_,hl⟩:=I.loc
   obtain⟨u,r,l⟩:=hl i' x v (B.at_ _ x i' e1 hi') e5 (.inr (.inl f2))
   rcases l with ⟨l,_⟩ | ⟨_,c,ec,z⟩
   ·rw [f2] at l;cases l
   ·obtain⟨c',ec'⟩:=Xb (env:=X.env) (names:=scope.names) (acc:=[]) (x:=x) (.inl f1)
    have:=look x c' ec'
    rw [ec] at this
    cases this
    obtain⟨o,ho,hd⟩:=z
    exact⟨u,r,.inr ⟨.inl (Xc I.ok.kind f3 f2),c,ec',o,old _ _ ho,hd⟩⟩
 ·obtain⟨v,o,ho,hd⟩:=I.cell x c (look x c e)
  exact⟨v,o,old _ _ ho,hd⟩
 ·show H C=none
  rw [hC];exact I.hok.fresh (Nat.le_refl _)
 ·have hp':p∈X.pn++pins:=by simpa using hp
  obtain⟨e,n,ne,nf,d⟩:=I.pin p hp'
  refine⟨old _ _ e,n,lt _ _ e,fun z=>?_,d⟩
  rcases List.mem_cons.mp (I.stkSub _ z) with q | q
  ·exact ne q
  ·exact nf q
 ·show (List.replicate own.length none++ix.map fun i=>(σ[i]?).getD none).length=(own++fr).length
  rw [List.length_append,List.length_append,List.length_replicate,List.length_map,B.len]
theorem Y6 {N:List Str}{scope:Scope}{C:Addr}{fp:List Addr} {σ':St} {H':Hp} {s':Shared} {h'':Heap}{pl:List (Addr×Obj)} (I:Inv X pins σ H s) (hf:∀b∈fp,FpOk X pins H b) (hC:C=s.heap.objs.size)
  (J:Inv (qg X pins N scope C s H fp) pl σ' H' s') (hs:Heap.SameBut C s'.heap h''):Inv X pins σ H' { s' with heap:=h'' }:=by
 have u:=J.base
 have k:∀b o,b≠C→s'.heap.get? b=some o→h''.get? b=some o:=fun b o hb e=>hs.extBut b o hb e
 have hn:H' C=none:=J.free
 have lt:∀b o,s.heap.get? b=some o→b≠C:=fun b o e=>by rw [hC];exact Nat.ne_of_lt (Heap.lt_size e)
 refine I.call' (s':={ s' with heap:=h'' }) (ch:=fp) J.os ?_ ?_ J.bare fun b hb=>⟨(hf b hb).2.2.2.1,(hf b hb).2.1,(hf b hb).2.2.2.2.1,(hf b hb).2.2.2.2.2⟩
 ·exact⟨fun b o q n hb he=>k b o (lt b o q) (u.keep b o q n hb he),fun b o q n hb he=>by
    obtain⟨sl,e⟩:=u.slot b o q n hb he
    exact⟨sl,k b _ (lt b o q) e⟩,u.free,fun b o q he=>by
    obtain⟨o',e⟩:=u.there b o q he
    exact⟨o',k b _ (lt b o q) e⟩,u.tups,u.frzs,u.tbls⟩
 ·intro b o e
  have nit:∀b u,H' b=some u→b≠C:=fun b u e z=>by rw [z,hn] at e;cases e
  refine(J.hok b o e).stay (fun c v hc q=>k c v ?_ q) (fun _ q=>q) fun _ _ q=>q
  rcases hc with z | z
  ·rw [z];exact nit b o e
  ·exact nit c _ z
theorem Ke {tg iter elt:Expr}{ifs:List Expr}{scope:Scope}{own fr:List Str}{ix:List Nat}{g:TG}{tt:TT}{te:TE}{pos:Pos}{Q:VK}{sF:Shared}{HF:Hp}{C acc it:Addr}{h₁:Heap}{fp:List Addr}{tn:Nat→Heap→Prop}{J:It}{W:Nat→Nat→List V→Hp→Prop}{m:Str→Option Value}{m0:Nat}{RR:Result→Shared→Prop}
  (hc:X.calm=true) (B:zaw X scope own fr ix)
  (hg:∀pins C sF HF fp,PG (qg X pins (own++fr) scope C sF HF fp) tg g) (ht:∀pins C sF HF fp,PTs (qg X pins (own++fr) scope C sF HF fp) ifs tt) (he:∀pins C sF HF fp,PE (qg X pins (own++fr) scope C sF HF fp) elt te)
  (I3:Inv X pins σ HF sF) (T:Turn X.prog X.w X.K tg J fp it tn) (st3:tn 0 sF.heap) (f3:∀b∈fp,FpOk X pins HF b) (f3':∀b∈fp,∃o,sF.heap.get? b=some o) (hC:sF.heap.objs.size=C) (old:∀b o,sF.heap.get? b=some o→h₁.get? b=some o) (hns₁:h₁.Ns C m)
  (w0:W 0 m0 [] HF) (turn:∀i m ys H2,W i m ys H2→H2 acc=some (.lst ys)∧((J.stop i H2∧Q (.ref acc) H2)∨(J.go i H2∧ys.length<sizeLine∧∀x H3,J.yld i H2 x H3→g x (jy own.length ix σ) H3 fun σ4 H4=>σ4.drop own.length=ix.map (fun i=>(σ[i]?).getD none)∧tt σ4 H4 fun ok H5=>
   if ok=true then te σ4 H5 fun y H6=>H6 acc=some (.lst ys)∧∃m',m'<m∧W (i+1) m' (ys++[y]) (upd H6 acc (.lst (ys++[y])))
   else ∃m',m'<m∧W (i+1) m' ys H5)))
  (fin:∀s6 H5,Inv (qg X pins (own++fr) scope C sF HF fp) [] (jy own.length ix σ) H5 s6→Q (.ref acc) H5→RR (.ok .next) s6) :
  codeAny (model X.prog X.w) X.A (.compStart (.ListComp elt [⟨tg,iter,ifs,0⟩] scope pos) 0 (.ref it) (.ref acc) (compEnvC scope (xR X.env scope.names []) C X.env)) RR
   { sF with heap:=h₁,toks:=sF.toks+([]:List (Str×Value)).length }:=by
 have J0:Inv (qg X pins (own++fr) scope C sF HF fp) [] (jy own.length ix σ) HF { sF with heap:=h₁,toks:=sF.toks+([]:List (Str×Value)).length }:=zbj I3 B hC.symm f3 f3' old hns₁
 have st4:tn 0 h₁:=T.keep _ _ _ st3 fun b _ o e=>old b o e
 have fY:∀{pl:List (Addr×Obj)} {H':Hp},(∀b∈fp,H' b=none)→(∀p∈pl,p.1 ∉ fp)→∀b∈fp,FpOk (qg X pins (own++fr) scope C sF HF fp) pl H' b:=fun {pl H'} hn hp b hb=>by
  refine⟨hn b hb,(J0.ok.exf b hb).1,J0.ok.exfs b hb,.inl hb,(J0.ok.exf b hb).2,fun p hpm=>?_⟩
  rcases List.mem_append.mp hpm with z | z
  ·exact(f3 b hb).2.2.2.2.2 p z
  ·exact fun e=>hp p z (by rw [e];exact hb)
 have weak:∀{pl:List (Addr×Obj)}{σ4:St}{H4:Hp}{s4:Shared},Inv (qg X pins (own++fr) scope C sF HF fp) pl σ4 H4 s4→σ4.drop own.length=ix.map (fun i=>(σ[i]?).getD none)→Inv (qg X pins (own++fr) scope C sF HF fp) pl (jy own.length ix σ) H4 s4:=fun {pl σ4 H4 s4} J e=>by
  refine J.weak ?_ fun i v hv=>?_
  ·have:=J.len
   have:=J0.len
   omega
  ·have hv':(List.replicate own.length none++ix.map fun i=>(σ[i]?).getD none)[i]?=some (some v):=hv
   by_cases hi:i<own.length
   ·rw [List.getElem?_append_left (by rw [List.length_replicate];exact hi),List.getElem?_replicate,if_pos hi] at hv'
    cases hv'
   ·rw [List.getElem?_append_right (by rw [List.length_replicate];omega),List.length_replicate,← e,List.getElem?_drop] at hv'
    rw [show own.length+(i-own.length)=i by omega] at hv'
    exact hv'
 have loop:∀s4:Shared,s4={ sF with heap:=h₁,toks:=sF.toks+([]:List (Str×Value)).length } →
   codeAny (model X.prog X.w) X.A (.compLoop (.ListComp elt [⟨tg,iter,ifs,0⟩] scope pos) 0 (.ref it) (.ref acc) (compEnvC scope (xR X.env scope.names []) C X.env)) RR s4:=by
  rintro s4 rfl
  refine Qn (fun n s'=>∃i ys H',Inv (qg X pins (own++fr) scope C sF HF fp) [] (jy own.length ix σ) H' s'∧tn i s'.heap∧(∀b∈fp,H' b=none)∧W i n ys H') ?_ m0 ⟨0,[],HF,J0,st4,fun b hb=>(f3 b hb).1,w0⟩
  rintro n s5 ⟨i,ys,H5,J5,st5,fr5,w5⟩
  obtain⟨ha,hturn⟩:=turn i n ys H5 w5
  rcases hturn with ⟨stop,qn⟩ | ⟨go,hsz,step⟩
  ·refine thn (T.done (qg X pins (own++fr) scope C sF HF fp) rfl rfl rfl hc i [] s5 _ H5 (fun _ _=>False) J5 (fY fr5 (fun _ z=>by cases z)) st5 stop) fun r s6 ⟨hr,J6⟩=>?_
   subst hr
   exact fin s6 H5 J6 qn
  ·refine thn (T.item (qg X pins (own++fr) scope C sF HF fp) rfl rfl rfl hc i [] s5 _ H5 (fun _ _=>False) J5 (fY fr5 (fun _ z=>by cases z)) st5 go) fun r s6 ⟨u,hr,h6⟩=>?_
   subst hr
   refine thn h6 fun _ s7 ⟨x,H7,J7,r7,y7,st7,fr7⟩=>?_
   have J7':=J7.pinned (fY fr7 (fun _ z=>by cases z)) (T.obj _ _ st7)
   refine thn (hg pins C sF HF fp _ s7 _ H7 x u _ J7' r7 (step x H7 y7)) fun _ s8 ⟨σ8,H8,J8,k8,q8⟩=>?_
   have back:∀{s9:Shared}{H9:Hp},Inv (qg X pins (own++fr) scope C sF HF fp) ([]++pinsAt fp s7.heap) σ8 H9 s9→Inv (qg X pins (own++fr) scope C sF HF fp) [] (jy own.length ix σ) H9 s9∧tn (i+1) s9.heap∧∀b∈fp,H9 b=none:=fun {s9 H9} J9=>by
    refine⟨weak J9.unpinned k8,T.keep _ _ _ st7 fun b hb o e=>(J9.pin (b,o) (List.mem_append_right _ (List.mem_append_right _ (mem_pinsAt hb e)))).1,fun b hb=>?_⟩
    obtain⟨o,e,d⟩:=T.obj _ _ st7 b hb
    exact(J9.pin (b,o) (List.mem_append_right _ (List.mem_append_right _ (mem_pinsAt hb e)))).2.1
   refine thn (ht pins C sF HF fp _ s8 σ8 H8 _ J8 q8) fun ok s9 ⟨H9,J9,q9⟩=>?_
   cases ok with
   | false=>
    obtain⟨m',hm,w9⟩:=q9
    obtain⟨b1,b2,b3⟩:=back J9
    exact⟨m',hm,i+1,ys,H9,b1,b2,b3,w9⟩
   | true=>
    refine thn (he pins C sF HF fp _ s9 σ8 H9 _ J9 q9) fun v s10 ⟨y,H10,J10,r10,a10,m',hm,w10⟩=>?_
    refine thn (mt_append _ s10 σ8 H10 (.ref acc) [y] (.ref acc) [v] (fun _ H'=>H'=upd H10 acc (.lst (ys++[y]))) J10 rfl (.cons r10 .nil) ⟨acc,ys,y,rfl,rfl,a10,hsz,rfl⟩) fun _ s11 ⟨_,H11,J11,_,e11⟩=>?_
    subst e11
    obtain⟨b1,b2,b3⟩:=back J11
    exact⟨m',hm,i+1,ys++[y],_,b1,b2,b3,w10⟩
 exact codeAny_compStart_list (loop _ rfl) (T.self _ 0 _ _ _ st4 (loop _ rfl))
theorem j9 {tg iter elt:Expr}{ifs:List Expr}{scope:Scope}{own fr:List Str}{ix:List Nat}{wi:TI}{g:TG}{tt:TT}{te:TE}{pos:Pos} (hc:X.calm=true) (BB:zax X scope own fr ix) (hi:PI X tg iter wi)
  (hg:∀pins C sF HF fp,PG (qg X pins (own++fr) scope C sF HF fp) tg g) (ht:∀pins C sF HF fp,PTs (qg X pins (own++fr) scope C sF HF fp) ifs tt) (he:∀pins C sF HF fp,PE (qg X pins (own++fr) scope C sF HF fp) elt te)
  (hs:∀x,foldedSetIterable iter X.env x=pure x:=by intro _;rfl):PE X (.ListComp elt [⟨tg,iter,ifs,0⟩] scope pos) (zf2 wi own.length ix g tt te):=by
 intro pins s σ H Q I h
 have B:=BB.ok I.ok
 rw [eval_ListComp]
 refine wpAny_comprehension_free (use:=none) rfl hs (Kd B.free) B.kind B.names (thn (hi pins s σ H _ I h) fun xv s1 h1=>thn h1 fun itv s2 h2=>?_)
 obtain⟨it,fp,tn,J,H2,rfl,I2,T,st2,f2,R⟩:=h2
 refine wpAny_newObj_type (wpAny_newFunctionEnv B.nocell (by intro y hy;simp at hy) (fun h₁ hns₁ hsb₁=>?_) B.kind)
 dsimp only at hns₁ hsb₁
 have I3:=I2.lnew (t':=s2.toks) (its:=[]) (ys:=[]) .nil (Nat.zero_le _)
 obtain⟨W,⟨m0,w0⟩,turn⟩:=R _ I2.fresh
 have fF:∀b∈fp,∃o,s2.heap.get? b=some o:=fun b hb=>let ⟨o,e,_⟩:=T.obj _ _ st2 b hb;⟨o,e⟩
 have zff:∀b∈fp,b≠s2.heap.objs.size:=fun b hb=>let ⟨o,e⟩:=fF b hb;Nat.ne_of_lt (Heap.lt_size e)
 have push:∀b o,s2.heap.get? b=some o→(s2.heap.push { cls:=.type "list",data:=.seq ([]:List Value).toArray }).get? b=some o:=fun b o e=>Heap.get?_push_of_some _ e
 exact Ke hc B hg ht he I3 T (T.keep _ _ _ st2 fun b _ o e=>push b o e) (fun b hb=>⟨by rw [upd_ne (zff b hb)];exact(f2 b hb).1,(f2 b hb).2⟩) (fun b hb=>let ⟨o,e⟩:=fF b hb;⟨o,push b o e⟩) rfl
  (fun b o e=>hsb₁.extBut b o (Nat.ne_of_lt (Heap.lt_size e)) (Heap.get?_push_of_some _ e)) hns₁ w0 turn fun s6 H5 J6 qn=>by
   obtain⟨m6,hn6,_⟩:=J6.loc
   exact⟨m6,hn6,fun h' hs'=>⟨.ref _,H5,Y6 I3 (fun b hb=>⟨by rw [upd_ne (zff b hb)];exact(f2 b hb).1,(f2 b hb).2⟩) rfl J6 hs',rfl,qn⟩⟩
theorem VR {tg iter elt:Expr}{ifs:List Expr}{scope:Scope}{own fr:List Str}{ix:List Nat}{wi:TI}{g:TG}{tt:TT}{te:TE}{pos spos py:Pos}{k:Nat}{y:Str} (hc:X.calm=true) (hN:X.N.Nodup) (hk:X.N[k]?=some y) (hy:X.env.scope.names.lookup y=some .local) (BB:zax X scope own fr ix) (hi:PI X tg iter wi)
  (hg:∀pins C sF HF fp,PG (qg X pins (own++fr) scope C sF HF fp) tg g) (ht:∀pins C sF HF fp,PTs (qg X pins (own++fr) scope C sF HF fp) ifs tt) (he:∀pins C sF HF fp,PE (qg X pins (own++fr) scope C sF HF fp) elt te)
  (hsw:swapsWith (.ListComp elt [⟨tg,iter,ifs,0⟩] scope pos) (some (.Name y py)) spos.line X.env=pure true:=by rfl)
  (hs:∀x,foldedSetIterable iter X.env x=pure x:=by intro _;rfl):PS X (.Assign [.Name y py] (.ListComp elt [⟨tg,iter,ifs,0⟩] scope pos) spos) (tAsg (zf2 wi own.length ix g tt te) (gName k)):=by
 intro pins s σ H D I h
 have B:=BB.ok I.ok
 rw [exec_Assign_Name_used _ _ _ _ hsw]
 refine wpAny_bind (wpAny_standAt (wpAny_bind ?_))
 show wpAny _ X.A (do let _ ← comprehension (.ListComp elt [⟨tg,iter,ifs,0⟩] scope pos) scope X.env _ (newList []) false (eval iter X.env) (some (assign (.Name y py) X.env))) _ _ s
 refine wpAny_bind (wpAny_mono (wpAny_comprehension_free (use:=some (assign (.Name y py) X.env)) (Q:=fun _ s'=>SP X pins D .next s') rfl hs (Kd B.free) B.kind B.names
  (thn (hi pins s σ H _ I h) fun xv s1 h1=>thn h1 fun itv s2 h2=>?_)) (fun _ s' hq=>wpAny_pure (wpAny_pure hq)) fun _ _ e=>e)
 obtain⟨it,fp,tn,J,H2,rfl,I2,T,st2,f2,R⟩:=h2
 refine wpAny_newObj_type (wpAny_newFunctionEnv B.nocell (by intro y hy;simp at hy) (fun h₁ hns₁ hsb₁=>?_) B.kind)
 dsimp only at hns₁ hsb₁
 have I3:=I2.lnew (t':=s2.toks) (its:=[]) (ys:=[]) .nil (Nat.zero_le _)
 obtain⟨W,⟨m0,w0⟩,turn⟩:=R _ I2.fresh
 have fF:∀b∈fp,∃o,s2.heap.get? b=some o:=fun b hb=>let ⟨o,e,_⟩:=T.obj _ _ st2 b hb;⟨o,e⟩
 have zff:∀b∈fp,b≠s2.heap.objs.size:=fun b hb=>let ⟨o,e⟩:=fF b hb;Nat.ne_of_lt (Heap.lt_size e)
 have push:∀b o,s2.heap.get? b=some o→(s2.heap.push { cls:=.type "list",data:=.seq ([]:List Value).toArray }).get? b=some o:=fun b o e=>Heap.get?_push_of_some _ e
 have f3:∀b∈fp,FpOk X pins (upd H2 s2.heap.objs.size (.lst [])) b:=fun b hb=>⟨by rw [upd_ne (zff b hb)];exact(f2 b hb).1,(f2 b hb).2⟩
 refine Ke (Q:=fun x H1=>gName k x σ H1 D.nx) hc B hg ht he I3 T (T.keep _ _ _ st2 fun b _ o e=>push b o e) f3 (fun b hb=>let ⟨o,e⟩:=fF b hb;⟨o,push b o e⟩) rfl
  (fun b o e=>hsb₁.extBut b o (Nat.ne_of_lt (Heap.lt_size e)) (Heap.get?_push_of_some _ e)) hns₁ w0 turn fun s6 H5 J6 qn=>?_
 have I6:Inv X pins σ H5 { s6 with heap:=s6.heap }:=Y6 I3 f3 rfl J6 (Heap.SameBut.refl ..)
 have I6:Inv X pins σ H5 s6:=I6
 obtain⟨m6,⟨o6,es6,ep6,ho6,rest6⟩,_⟩:=id J6.loc
 have sz:∀b o,(s2.heap.push { cls:=.type "list",data:=.seq ([]:List Value).toArray }).get? b=some o→b≠(s2.heap.push { cls:=.type "list",data:=.seq ([]:List Value).toArray }).objs.size:=fun b o e=>Nat.ne_of_lt (Heap.lt_size e)
 have hge:X.s₀.heap.objs.size≤(s2.heap.push { cls:=.type "list",data:=.seq ([]:List Value).toArray }).objs.size:=I3.sz
 have hloc:(s2.heap.push { cls:=.type "list",data:=.seq ([]:List Value).toArray }).objs.size≠X.env.locals:=fun z=>by
  have:=I3.lt
  rw [← z] at this
  exact Nat.lt_irrefl _ this
 have hfs:(s2.heap.push { cls:=.type "list",data:=.seq ([]:List Value).toArray }).objs.size ∉ X.fs:=I3.nofs (Nat.le_refl _)
 have hcell:∀x c,X.env.cells.lookup x=some c→c≠(s2.heap.push { cls:=.type "list",data:=.seq ([]:List Value).toArray }).objs.size:=fun x c e=>by
  obtain⟨v,ob,hob,_⟩:=I3.cell x c e
  exact sz _ _ hob
 have hpin:∀p∈X.pn++pins,p.1≠(s2.heap.push { cls:=.type "list",data:=.seq ([]:List Value).toArray }).objs.size:=fun p hp=>sz _ _ (I3.pin p hp).1
 have I7:Inv X (pins++[((s2.heap.push { cls:=.type "list",data:=.seq ([]:List Value).toArray }).objs.size,o6)]) σ H5 s6:=I6.pins_of fun p hp=>by
  rcases List.mem_append.mp hp with z | z
  ·exact I6.pin p (List.mem_append_right _ z)
  ·rw [List.mem_singleton.mp z]
   refine⟨ho6,J6.free,hloc,hfs,fun v z=>?_⟩
   rw [rest6.1] at z
   cases z
 refine wpAny_assign_Name (store_ok (v:=.ref s2.heap.objs.size) I7 hN hk (.inl hy) rfl (fun s8 I8=>?_) (.inr hy))
 have h8:=(I8.pin ((s2.heap.push { cls:=.type "list",data:=.seq ([]:List Value).toArray }).objs.size,o6) (List.mem_append_right _ (List.mem_append_right _ (List.mem_singleton.mpr rfl)))).1
 refine⟨m6,⟨o6,es6,ep6,h8,rest6⟩,fun h' hs'=>⟨_,H5,(I8.unpinned).turned (t':=s8.toks) (fun b o hb e=>hs'.extBut b o hb e) J6.free hloc (.inr hge) hcell hpin,qn⟩⟩
end
end L2
namespace L2
open PySem PySem.Spec PyProof.Rows PySem.SeqAt
section
variable {X:Cx}{pins:List (Addr×Obj)}{σ:St}{H:Hp}{s:Shared}
theorem Inv.ints (I:Inv X pins σ H s){a:Addr}{ns:List Int} (h:SqL X.K H a (ns.map V.int)):∃vs:List Value,s.heap.IsList a vs.toArray∧IntsAre vs ns∧ns.length≤sizeLine:=by
 obtain⟨its,r,p,z⟩:=I.list h
 exact⟨its,p.isList,intsAre_of r,by rwa [List.length_map] at z⟩
end
section
variable {X:Cx}
theorem zec (hc:X.calm=true):CallR X (.builtin "all") (fun xs H Q=>∃(p:Addr) (bs:List Bool),xs=[.ref p]∧SqL X.K H p (bs.map V.bl)∧Q (.bl (bs.all id)) H):=by
 intro pins s σ H xs us Q I r h
 obtain⟨p,bs,rfl,hq,q⟩:=h
 obtain⟨u,rfl,ru⟩:=vals1 r
 cases ru
 obtain⟨its,rv,pl,hz⟩:=I.list hq
 have hl:=pl.isList
 have hlt:p<s.heap.objs.size:=by obtain⟨_,e,_⟩:=hl;exact Heap.lt_size e
 refine call_all_walk (wpAny_pyIter_list hl ?_)
 refine⟨s.heap.objs.size,[s.heap.objs.size,p],[s.heap.objs.size],its.toArray.size,_,_,fun i=>(bs[i]?).getD true,rfl,Walks.list (A:=X.A.in1) (I.ok.hd hc) _ p (Nat.ne_of_lt hlt) its.toArray,
  ⟨⟨_,Heap.get?_push_size _ rfl,rfl,rfl⟩,hl.push _⟩,fun i v s' Q' E' hP hQ=>?_,fun h' tk hk=>?_⟩
 ·have hP':its[i]?=some v:=by simpa using hP
  have zgj:bs.length=its.length:=by have:=rv.length;rwa [List.length_map] at this
  have hi:i<bs.length:=by rw [zgj];exact(List.getElem?_eq_some_iff.mp hP').1
  obtain⟨w,ew,rw'⟩:=rv.get (x:=V.bl bs[i]) (i:=i) (by rw [List.getElem?_map,List.getElem?_eq_getElem hi];rfl)
  rw [hP'] at ew
  cases ew
  cases (show v=Value.bool bs[i] from rw')
  simp only [List.getElem?_eq_getElem hi,Option.getD_some] at hQ
  exact wpAny_truthy_bool hQ
 ·have e:((List.range its.toArray.size).all fun i=>(bs[i]?).getD true)=bs.all id:=by
   have zgj:bs.length=its.length:=by have:=rv.length;rwa [List.length_map] at this
   rw [List.size_toArray,← zgj];exact PyProof.Rows.LSm.range_all bs
  rw [e]
  exact⟨.bl _,H,I.kept (PyProof.Rows.LSm.kept_iter hk),rfl,q⟩
end
end L2
namespace L2
open PySem PySem.Spec PyProof.Rows
theorem Same.wr {H H':Hp}{p:Addr}{o:HO} (s:Same H H') (h:H p=Option.none):Same H (upd H' p o):=fun b u e=>by
 rw [upd_ne (ne_of_none e h)]
 exact s b u e
theorem zk4 {A:Around}{k:Nat} (hr:Room k A):A.units+64<cLine:=hr.units
section
variable {X:Cx}
theorem Kf (K:PySem.W.Frag) (hK:X.K=K:=by rfl):IxR X (rIxL K):=by subst hK;exact ix_list
theorem zay (K:PySem.W.Frag){es:List Expr}{k:Nat}{t:TGs}{n:Nat}{pos:Pos} (hc:X.calm=true) (h:PGs X es t) (hK:X.K=K:=by rfl)
  (hn:(assignEach es X.env).length=n:=by rfl) (hst:(assignEach es X.env).findIdx? (·.1)=none:=by rfl):PG X (.Tuple es k pos) (gTup K n t):=by subst hK;exact pg_tup hc h hn hst
end
theorem jA {K:PySem.W.Frag}{a acc:Addr}{xs:List V}{own:Nat}{ix:List Nat}{g:TG}{te:TE}{σ:St}{H1:Hp}{Q:VK} (f:Nat→V) (hq:SqL K H1 a xs) (hn:H1 acc=none) (hz:xs.length≤sizeLine)
  (step:∀i x H (R:VK),xs[i]?=some x→Same H1 H→R (f i) H→g x (jy own ix σ) H fun σ4 H4=>σ4.drop own=ix.map (fun i=>(σ[i]?).getD none)∧te σ4 H4 R)
  (hd:Q (.ref acc) (upd H1 acc (.lst ((List.range xs.length).map f)))) :
  Jm (Itl K a) own ix g ZV te σ H1 acc Q:=by
 refine⟨fun i m ys H=>m=xs.length-i∧i≤xs.length∧ys=(List.range i).map f∧H=upd H1 acc (.lst ys),⟨xs.length,by simp,Nat.zero_le _,rfl,rfl⟩,?_⟩
 rintro i m ys H ⟨rfl,hi,rfl,rfl⟩
 have q:SqL K (upd H1 acc (.lst ((List.range i).map f))) a xs:=(Same.new hn).seq hq
 refine⟨upd_same,?_⟩
 by_cases hlt:i<xs.length
 ·refine .inr ⟨⟨xs,xs[i],q,by simp [hlt]⟩,by rw [List.length_map,List.length_range];omega,fun x H3 y=>?_⟩
  obtain⟨e,y⟩:=y
  subst e
  exact step i x _ _ (y xs q) (Same.new hn) ⟨upd_same,xs.length-(i+1),by omega,rfl,hlt,by rw [List.range_succ,List.map_append];rfl,by rw [upd_upd]⟩
 ·have e:i=xs.length:=by omega
  subst e
  exact .inl ⟨⟨xs,q,Nat.le_refl _⟩,hd⟩
end L2
namespace L2
open PySem PySem.Spec PyProof.Rows
theorem Inv.turns {X:Cx}{pins:List (Addr×Obj)}{σ:St}{H:Hp}{s:Shared} {h':Heap}{ch:List Addr} {t':Nat} (I:Inv X pins σ H s) (hf:∀b∈ch,FpOk X pins H b) (k:∀b o,b ∉ ch→s.heap.get? b=some o→h'.get? b=some o) :
  Inv X pins σ H { s with heap:=h',toks:=t' }:=by
 have nit:∀b u,H b=some u→b ∉ ch:=fun b u e z=>by rw [(hf b z).1] at e;cases e
 refine I.step (g':=s.gens) (d':=s.drawn) (ch:=ch) (fun b hb=>⟨(hf b hb).2.2.2.1,(hf b hb).2.1,(hf b hb).2.2.2.2.1,(hf b hb).2.2.2.2.2⟩) (fun b o _ _ hc e _=>k b o hc e) (fun b o _ _ hc e _=>⟨o.slots,k b o hc e⟩) (fun _ _ _ _ n=>n)
  (fun b o hc e=>⟨o,k b o hc e⟩) (fun _ _ e=>e) (fun _ _ _ e=>e) (fun b ps e=>⟨#[],by rw [e];simp⟩) (fun m hm=>?_) (fun b u e=>?_) I.bare
 ·obtain⟨o,es,ep,ho,r⟩:=hm
  exact⟨o,es,ep,k _ o (fun z=>(hf _ z).2.1 rfl) ho,r⟩
 ·refine(I.hok b u e).stay (fun c v hc q=>k c v ?_ q) (fun _ q=>q) fun _ _ q=>q
  rcases hc with z | z
  ·rw [z];exact nit b u e
  ·exact nit c _ z
theorem Inv.turnsT {X:Cx}{pins:List (Addr×Obj)}{σ:St}{H:Hp}{s:Shared} {h':Heap}{ch:List Addr} {t':Nat}{T:Addr}{xs:List V}{its:List Value} (I:Inv X pins σ H s) (hf:∀b∈ch,FpOk X pins H b) (k:∀b o,b ∉ ch→s.heap.get? b=some o→h'.get? b=some o)
  (hT:s.heap.objs.size≤T) (r:Vals xs its) (ht:IsTup h' T its.toArray) (hz:xs.length≤sizeLine):Inv X pins σ (upd H T (.tup xs)) { s with heap:=h',toks:=t' }:=by
 have hn:H T=none:=I.hok.fresh hT
 have nit:∀b u,H b=some u→b ∉ ch:=fun b u e z=>by rw [(hf b z).1] at e;cases e
 have lt:∀b o,s.heap.get? b=some o→b≠T:=fun b o e=>Nat.ne_of_lt (Nat.lt_of_lt_of_le (Heap.lt_size e) hT)
 refine I.step (g':=s.gens) (d':=s.drawn) (ch:=ch) (fun b hb=>⟨(hf b hb).2.2.2.1,(hf b hb).2.1,(hf b hb).2.2.2.2.1,(hf b hb).2.2.2.2.2⟩) (fun b o _ _ hc e _=>k b o hc e) (fun b o _ _ hc e _=>⟨o.slots,k b o hc e⟩) (fun b o _ e n=>by rw [upd_ne (lt b o e)];exact n)
  (fun b o hc e=>⟨o,k b o hc e⟩) (fun b ys e=>by rw [upd_ne (ne_of_none e hn)];exact e) (fun b o u e=>by rw [upd_ne (ne_of_none e hn)];exact e) (fun b ps e=>⟨#[],by rw [upd_ne (ne_of_none e hn),e];simp⟩) (fun m hm=>?_) (fun b u e=>?_) I.bare
 ·obtain⟨o,es,ep,ho,r⟩:=hm
  exact⟨o,es,ep,k _ o (fun z=>(hf _ z).2.1 rfl) ho,r⟩
 ·by_cases hb:b=T
  ·subst hb
   rw [upd_same] at e
   cases e
   exact⟨hz,its,r,ht⟩
  ·rw [upd_ne hb] at e
   refine(I.hok b u e).stay (fun c v hc q=>k c v ?_ q) (fun c q=>?_) fun c w q=>?_
   ·rcases hc with z | z
    ·rw [z];exact nit b u e
    ·exact nit c _ z
   ·rw [upd_ne (ne_of_none q hn)];exact q
   ·rw [upd_ne (ne_of_none q hn)];exact q
section
variable {X:Cx}
end
end L2
namespace Bw
noncomputable def C:Nat→Nat→Nat
 | _,0=>1
 | 0,_+1=>0
 | n+1,k+1=>C n k+C n (k+1)
theorem Jo (n:Nat):C n 0=1:=by cases n <;> rfl
theorem zbk (k:Nat):C 0 (k+1)=0:=rfl
theorem Zf (n k:Nat):C (n+1) (k+1)=C n k+C n (k+1):=rfl
theorem QX:∀(n k:Nat),n<k→C n k=0
 | n,0,h=>absurd h (Nat.not_lt_zero _)
 | 0,_+1,_=>rfl
 | n+1,k+1,h=>by
  rw [Zf,QX n k (by omega),QX n (k+1) (by omega)]
theorem zed:∀n:Nat,C n n=1
 | 0=>rfl
 | n+1=>by rw [Zf,zed n,QX n (n+1) (by omega)]
theorem zee:∀n:Nat,C n 1=n
 | 0=>rfl
 | n+1=>by rw [Zf,Jo,zee n];omega
theorem zaz:∀(n k:Nat),(k+1)*C n (k+1)+k*C n k=n*C n k
 | 0,0=>by simp [C]
 | 0,k+1=>by simp [C]
 | n+1,0=>by rw [zee,Jo];omega
 | n+1,k+1=>by
  have h1:=zaz n k
  have h2:=zaz n (k+1)
  rw [Zf n (k+1),Zf n k]
  have e1:(k+1+1)*(C n (k+1)+C n (k+1+1))=(k+1+1)*C n (k+1)+(k+1+1)*C n (k+1+1):=Nat.mul_add _ _ _
  have e2:(k+1)*(C n k+C n (k+1))=(k+1)*C n k+(k+1)*C n (k+1):=Nat.mul_add _ _ _
  have e3:(n+1)*(C n k+C n (k+1))=(n*C n k+C n k)+(n*C n (k+1)+C n (k+1)):=by rw [Nat.mul_add,Nat.succ_mul,Nat.succ_mul]
  have e4:(k+1+1)*C n (k+1)=(k+1)*C n (k+1)+C n (k+1):=Nat.succ_mul _ _
  have e5:(k+1)*C n k=k*C n k+C n k:=Nat.succ_mul _ _
  rw [e1,e2,e3,e4,e5]
  omega
theorem zc4 {n k:Nat} (h:k≤n):(k+1)*C n (k+1)=C n k*(n-k):=by
 have e:=zaz n k
 have e2:C n k*(n-k)+k*C n k=n*C n k:=by
  rw [Nat.mul_comm (C n k),← Nat.add_mul,Nat.sub_add_cancel h]
 omega
theorem zf3 {n k:Nat} (h:k≤n):C n k*(n-k) / (k+1)=C n (k+1):=by
 rw [← zc4 h,Nat.mul_div_cancel_left _ (Nat.succ_pos k)]
theorem zbl:∀(n k:Nat),C n k≤n ^ k
 | n,0=>by rw [Jo];exact Nat.le_refl _
 | n,k+1=>by
  have ih:=zbl n k
  by_cases h:k≤n
  ·rw [← zf3 h,Nat.pow_succ]
   refine Nat.le_trans (Nat.div_le_self _ _) ?_
   exact Nat.mul_le_mul ih (Nat.sub_le _ _)
  ·rw [QX n (k+1) (by omega)];exact Nat.zero_le _
noncomputable def ch (n k:Int):Int:=(C n.toNat k.toNat:Nat)
theorem XD (n k:Int):0≤ch n k:=Int.natCast_nonneg _
theorem Jp (n k:Nat):ch (n:Int) (k:Int)=(C n k:Nat):=by
 unfold ch;rw [Int.toNat_natCast,Int.toNat_natCast]
theorem Xd {n k:Int} (h0:0≤n) (h:n<k):ch n k=0:=by
 unfold ch;rw [QX _ _ (by omega)];rfl
theorem Xe (n:Int):ch n 0=1:=by
 unfold ch;rw [show (0:Int).toNat=0 from rfl,Jo];rfl
theorem zaA {n k:Int} (hn:0≤n) (hk:0≤k):ch (n+1) (k+1)=ch n k+ch n (k+1):=by
 unfold ch
 rw [show (n+1).toNat=n.toNat+1 by omega,show (k+1).toNat=k.toNat+1 by omega,Zf]
 omega
theorem zfg {n:Int}{i:Nat} (hn:(i:Int)≤n):ch n i*(n-i) / ((i:Int)+1)=ch n ((i:Int)+1):=by
 unfold ch
 have e:n=((n.toNat:Nat):Int):=by omega
 have e1:((i:Int)+1).toNat=i+1:=by omega
 have e2:((i:Nat):Int).toNat=i:=by omega
 have e3:n-(i:Int)=((n.toNat-i:Nat):Int):=by omega
 rw [e1,e2,e3,← zf3 (n:=n.toNat) (k:=i) (by omega)]
 have e4:((i:Int)+1)=((i+1:Nat):Int):=by omega
 rw [e4,← Int.natCast_mul,← Int.natCast_ediv]
noncomputable def fac:Nat→Int
 | 0=>1
 | i+1=>fac i*((i:Int)+1)
theorem Kg (i:Nat):fac (i+1)=fac i*((i:Int)+1):=rfl
end Bw
namespace Bw
theorem zfh:∀(n k:Nat),C n k≤C (n+1) k
 | n,0=>by rw [Jo,Jo];exact Nat.le_refl _
 | n,k+1=>by rw [Zf];omega
theorem zcl {m n:Nat} (k:Nat) (h:m≤n):C m k≤C n k:=by
 induction h with
 | refl=>exact Nat.le_refl _
 | step _ ih=>exact Nat.le_trans ih (zfh _ _)
theorem zf4 {n k:Nat} (h:k≤n):0<C n k:=by
 have:=zcl k h
 rw [zed] at this
 omega
theorem Kh {n k:Nat} (h:0<C n k):k≤n:=by
 rcases Nat.lt_or_ge n k with z | z
 ·rw [QX n k z] at h;omega
 ·exact z
theorem zcm (n k:Nat):∀j:Nat,j≤n→C n (k+1)≤C (n-j) (k+1)+j*C (n-1) k
 | 0,_=>by simp
 | j+1,h=>by
  have ih:=zcm n k j (by omega)
  obtain⟨r,hr⟩:∃r,n-j=r+1:=⟨n-j-1,by omega⟩
  have e:n-(j+1)=r:=by omega
  have m:=zcl (m:=r) (n:=n-1) k (by omega)
  rw [hr,Zf] at ih
  rw [e,Nat.succ_mul]
  omega
theorem zdH {t k number:Nat} (h:number<C t (k+1)) (d:Nat) (hd:d=(C t (k+1)-number+C (t-1) k-1) / C (t-1) k) :
  0<C (t-1) k∧1≤d∧d≤t∧number<C (t-d+1) (k+1):=by
 have hk:k+1≤t:=Kh (by omega)
 have ho:0<C (t-1) k:=zf4 (by omega)
 have hdm:d*C (t-1) k≤C t (k+1)-number+C (t-1) k-1:=by
  rw [hd];exact Nat.div_mul_le_self _ _
 have d1:1≤d:=by
  rw [hd];exact(Nat.le_div_iff_mul_le ho).mpr (by omega)
 have s:(d-1)*C (t-1) k+C (t-1) k=d*C (t-1) k:=by
  have e:d=d-1+1:=by omega
  conv=>rhs;rw [e,Nat.succ_mul]
 have lt:(d-1)*C (t-1) k<C t (k+1)-number:=by omega
 have dt:d-1≤t:=by
  rcases Nat.lt_or_ge t (d-1) with z | z
  ·have q:=zcm t k t (Nat.le_refl _)
   rw [Nat.sub_self,zbk] at q
   have w:t*C (t-1) k≤(d-1)*C (t-1) k:=Nat.mul_le_mul_right _ (by omega)
   omega
  ·exact z
 have q:=zcm t k (d-1) dt
 have gt:number<C (t-(d-1)) (k+1):=by omega
 have ge:=Kh (n:=t-(d-1)) (k:=k+1) (by omega)
 have e:t-d+1=t-(d-1):=by omega
 rw [e]
 exact⟨ho,d1,by omega,gt⟩
noncomputable def Wy:Nat→Nat
 | 0=>1
 | i+1=>Wy i*(i+1)
theorem zbm:∀{n k:Nat},k≤n→(n+1-k) ^ k≤C n k*Wy k
 | n,0,_=>by rw [Jo];exact Nat.le_refl _
 | n,k+1,h=>by
  have ih:=zbm (n:=n) (k:=k) (by omega)
  have st:=zc4 (n:=n) (k:=k) (by omega)
  have e:C n (k+1)*Wy (k+1)=C n k*Wy k*(n-k):=by
   show C n (k+1)*(Wy k*(k+1))=_
   rw [Nat.mul_comm (Wy k),← Nat.mul_assoc,Nat.mul_comm (C n (k+1)),st,Nat.mul_assoc,Nat.mul_comm (n-k),← Nat.mul_assoc]
  rw [e]
  have e2:n+1-(k+1)=n-k:=by omega
  rw [e2,Nat.pow_succ]
  refine Nat.mul_le_mul_right _ (Nat.le_trans (Nat.pow_le_pow_left (by omega) k) ih)
theorem zbn {number k f:Nat} (h:number*Wy k<2 ^ (f*k)):number<C (2 ^ f+k) k:=by
 rw [Nat.pow_mul] at h
 generalize 2 ^ f=p at h ⊢
 have q:=zbm (n:=p+k) (k:=k) (by omega)
 have e:p+k+1-k=p+1:=by omega
 rw [e] at q
 have r:p ^ k≤(p+1) ^ k:=Nat.pow_le_pow_left (by omega) k
 rcases Nat.lt_or_ge number (C (p+k) k) with z | z
 ·exact z
 ·have:=Nat.mul_le_mul_right (Wy k) z
  omega
theorem zc5:∀i:Nat,fac i=(Wy i:Nat)
 | 0=>rfl
 | i+1=>by
  rw [Kg,zc5 i]
  show _=((Wy i*(i+1):Nat):Int)
  rw [Int.natCast_mul]
  rfl
structure zf5 (k number t:Int):Prop where
 lo:k-1≤t
 le:ch t k≤number
 lt:number<ch (t+1) k
theorem zc6 {m n k:Int} (h:m≤n):ch m k≤ch n k:=by
 unfold ch
 exact Int.ofNat_le.mpr (zcl _ (by omega))
theorem zdI {n k:Int} (hn:0≤n) (h:0<ch n k):k≤n:=by
 rcases (by omega:k≤n∨n<k) with z | z
 ·exact z
 ·rw [Xd hn z] at h;omega
theorem zgk {n k:Int} (hk:0≤k) (h:k≤n):0<ch n k:=by
 unfold ch
 exact Int.ofNat_lt.mpr (zf4 (by omega))
theorem zcn {t k number:Int} (hk:1≤k) (h0:0≤number) (ht:0≤t) (h:number<ch t k) (d:Int) (hd:d=(ch t k-number+ch (t-1) (k-1)-1) / ch (t-1) (k-1)) :
  k≤t∧0<ch (t-1) (k-1)∧1≤d∧k-1≤t-d∧number<ch (t-d+1) k:=by
 have kt:k≤t:=zdI ht (by omega)
 obtain⟨j,hj⟩:∃j:Nat,k=(j:Int)+1:=⟨(k-1).toNat,by omega⟩
 obtain⟨m,hm⟩:∃m:Nat,t=(m:Int):=⟨t.toNat,by omega⟩
 obtain⟨r,hr⟩:∃r:Nat,number=(r:Int):=⟨number.toNat,by omega⟩
 subst hj hm hr
 have e1:ch (m:Int) ((j:Int)+1)=(C m (j+1):Nat):=by
  rw [show ((j:Int)+1)=((j+1:Nat):Int) by omega,Jp]
 have e2:ch ((m:Int)-1) ((j:Int)+1-1)=(C (m-1) j:Nat):=by
  rw [show ((m:Int)-1)=((m-1:Nat):Int) by omega,show ((j:Int)+1-1)=((j:Nat):Int) by omega,Jp]
 rw [e1] at h
 rw [e1,e2] at hd
 have h':r<C m (j+1):=by omega
 obtain⟨s1,s2,s3,s4⟩:=zdH h' _ rfl
 have ed:d=(((C m (j+1)-r+C (m-1) j-1) / C (m-1) j:Nat):Int):=by
  rw [hd,Int.natCast_ediv]
  congr 1
  omega
 generalize (C m (j+1)-r+C (m-1) j-1) / C (m-1) j=dn at s2 s3 s4 ed
 subst ed
 have e3:ch ((m:Int)-(dn:Int)+1) ((j:Int)+1)=(C (m-dn+1) (j+1):Nat):=by
  rw [show ((m:Int)-(dn:Int)+1)=((m-dn+1:Nat):Int) by omega,show ((j:Int)+1)=((j+1:Nat):Int) by omega,Jp]
 have le:=Kh (n:=m-dn+1) (k:=j+1) (by omega)
 rw [e2,e3]
 exact⟨kt,by omega,by omega,by omega,by omega⟩
theorem zgl {number k:Int}{F b:Nat} (hk:1≤k) (h0:0≤number) (hb:(number*fac k.toNat).natAbs<2 ^ b) (hF:(b:Int)≤(F:Int)*k):number<ch ((2:Int) ^ F+k-1+1) k:=by
 obtain⟨j,hj⟩:∃j:Nat,k=(j:Int):=⟨k.toNat,by omega⟩
 obtain⟨r,hr⟩:∃r:Nat,number=(r:Int):=⟨number.toNat,by omega⟩
 subst hj hr
 rw [Int.toNat_natCast,zc5,← Int.natCast_mul,Int.natAbs_natCast] at hb
 have hF':b≤F*j:=by
  have:((F*j:Nat):Int)=(F:Int)*(j:Int):=Int.natCast_mul _ _
  omega
 have s:=zbn (number:=r) (k:=j) (f:=F) (Nat.lt_of_lt_of_le hb (Nat.pow_le_pow_right (by decide) hF'))
 have e:(2:Int) ^ F+(j:Int)-1+1=((2 ^ F+j:Nat):Int):=by
  rw [Int.natCast_add,Int.natCast_pow]
  show _=(2:Int) ^ F+(j:Int)
  omega
 rw [e,Jp]
 exact Int.ofNat_lt.mpr s
end Bw
namespace Bw
open PySem L2
open Builtin.Int (intBits)
noncomputable def ZG:Sp:=fun vs H Q _=>∃n k:Int,vs=[.int n,.int k]∧0≤n∧0≤k∧k≤1000∧intBits n≤100000∧Q (.int (ch n k)) H
noncomputable def zaB:Sp:=fun vs H Q _=>∃a b:Int,vs=[.int a,.int b]∧0<b∧Q (.int ((a+b-1) / b)) H
noncomputable def zc7:Sp:=fun vs H Q _=>∃k number:Int,vs=[.int k,.int number]∧1≤k∧k≤60∧0≤number∧intBits number≤50000∧∀t:Int,k-1≤t→number<ch (t+1) k→intBits t≤60000→Q (.int t) H
theorem zK {x:Int}{m:Nat} (h1:0≤x) (h2:x<(2:Int) ^ m):intBits x≤m:=by
 refine intBits_le_iff.mpr ?_
 have e:((2 ^ m:Nat):Int)=(2:Int) ^ m:=by
  rw [Int.natCast_pow];rfl
 rw [← e] at h2
 omega
theorem za {x:Int}{m n:Nat} (h:intBits x≤m) (hm:m≤n):intBits x≤n:=Nat.le_trans h hm
theorem V0 {n:Int}{k m:Nat} (h:intBits n≤m) (hn:0≤n):intBits (ch n k)≤m*k+1:=by
 refine intBits_le_of_natAbs (y:=n ^ k) ?_ (intBits_pow_le h k)
 unfold ch
 rw [Int.toNat_natCast]
 have e:n=((n.toNat:Nat):Int):=by omega
 have e2:(n ^ k).natAbs=n.toNat ^ k:=by
  rw [Int.natAbs_pow]
  congr 1
  omega
 rw [e2]
 have:=zbl n.toNat k
 omega
theorem zbo:∀i:Nat,i≤64→intBits (fac i)≤7*i+1
 | 0,_=>by decide
 | i+1,hi=>by
  rw [Kg]
  exact za (intBits_mul_le (m:=7*i+1) (n:=7) (zbo i (by omega)) (zK (by omega) (by omega))) (by omega)
end Bw
namespace L2
open PySem PySem.Spec PyProof.Rows
section
variable {X:Cx}
end
end L2
namespace L2
open PySem PySem.Spec PyProof.Rows
end L2
namespace L2
open PySem PySem.Spec PyProof.Rows
section
variable {prog:Program}{w:World}{A:Around}{E:Value→Shared→Prop}{s:Shared}
end
section
variable {X:Cx}
end
end L2
namespace L2
open PySem PySem.Spec PyProof.Rows
open PySem.W (hideAll of_hideAll hideAll_get)
noncomputable def CXE (P:Program) (w:World):CXT:=fun outer H s E e s'=>∃(x:Addr) (C a0:Value) (H':Hp) (B:Heap),e=.ref x∧s'.os=s.os∧AllBare s'.gens∧Heap.FlyingW B outer x C a0 s'.heap ∧
 (∀h3,B.StaysIn h3→s'.heap.UpToSlots h3→Un (frs outer) [] H H' s.heap h3∧HOk P w H' h3)∧s.heap.get? x=none∧H' x=none∧E C none H'
theorem zfi {K:PySem.W.Frag}{h:Heap}{C:Addr}{bmB:List Value}{newId:String} (X:K.In h) (q:PySem.W.excIn K C bmB newId=true) :
  ∃bm N nm q bs hdct sn sub ab col dd k0 k1 k2 k3 k5 mN,h.get? C=some (excClassObj nm q C N bs bm hdct sn sub ab col dd k0 k1 k2 k3 k5 newId)∧h.Ns N mN∧mN "__init__"=none∧OwnTail h bmB bm∧∀v b,PySem.W.mroIn K C v=some b→(Value.ref C::bm).contains v=b:=by
 unfold PySem.W.excIn at q
 split at q
 ·rename_i dd cd sl ho
  split at q
  ·rename_i C' bm k0 k1 k2 k3 n k5 hm hs
   simp only [Bool.and_eq_true,beq_iff_eq,Bool.not_eq_true'] at q
   obtain⟨⟨⟨⟨⟨rfl,rfl⟩,hdel⟩,ht⟩,hok⟩,hni⟩:=q
   obtain⟨nm,bs,mro,ns,qn,hd,sn,sub,ab,col,del⟩:=cd
   dsimp only at hm hdel hok hni
   subst hm hdel
   have hsl:sl=#[k0,k1,k2,k3,some (.builtin n),k5]:=by
    obtain⟨l⟩:=sl
    simp only at hs
    rw [hs]
   subst hsl
   exact⟨bm,ns,nm,qn,bs,hd,sn,sub,ab,col,dd,k0,k1,k2,k3,k5,_,X _ _ ho,.of_isNs (PySem.W.isNs_of_in X hok),PySem.W.nsMap_none_of_in X hok hni,PySem.W.tail_of_in X ht,fun v b e=>by
    unfold PySem.W.mroIn PySem.W.clsIn at e
    rw [ho] at e
    simpa using e⟩
  ·cases q
 ·cases q
theorem ObjOk.there {P:Program}{w:World}{H:Hp}{h:Heap}{a:Addr}{o:HO} (x:ObjOk P w H h a o):∃ob,h.get? a=some ob:=by
 cases o with
 | lst xs=>obtain⟨_,_,_,_,e⟩:=x;exact⟨_,e⟩
 | tup xs=>obtain⟨_,_,_,ob,e,_⟩:=x;exact⟨_,e⟩
 | dK kvs=>obtain⟨_,_,_,_,o,_,_,e,_⟩:=x;exact⟨_,e⟩
 | dT kvs=>obtain⟨_,_,_,_,o,_,_,e,_⟩:=x;exact⟨_,e⟩
 | set S n=>obtain⟨o,_,_,_,e,_⟩:=x;exact⟨_,e⟩
 | ins C dx fs=>obtain⟨_,_,_,e,_⟩:=x;exact⟨_,e⟩
 | own y=>obtain⟨_,e⟩:=x;exact⟨_,e⟩
 | xd fs=>obtain⟨_,⟨_,_,_,e,_⟩,_⟩:=x;exact⟨_,e⟩
 | rng lo hi=>obtain⟨_,_,_,e⟩:=x;exact⟨_,e⟩
 | frz ob u=>obtain⟨e,_⟩:=x;exact⟨_,e⟩
 | tbl ps=>exact⟨_,(show h.get? a=some _ from x)⟩
 | met f y=>exact⟨_,(show h.get? a=some _ from x)⟩
 | ext φ=>obtain⟨_,⟨_,e⟩,_⟩:=x;exact⟨_,e⟩
section
variable {P:Program}{w:World}{K:PySem.W.Frag}{mg:Str→Option Value}{base:Heap}{N:List Str}{qual:Str}{scope:Scope}{f:Addr}{cdv:Value}{A:Around}{outer:List Env}{s s2:Shared}{H H1:Hp}{E:XK}{pins:List (Addr×Obj)}{σ:St}
theorem stands (I:Inv (cxOf (CXE P w) P w K mg base N qual scope f cdv A outer s H E) pins σ H1 s2){h3:Heap} (hst:(hideAll s2.heap (frs (envOfC qual scope s.heap.objs.size f cdv::outer))).StaysIn h3) (up:s2.heap.UpToSlots h3) :
  Un (frs outer) [] H H1 s.heap h3∧HOk P w H1 h3:=by
 have kk:∀b o,s2.heap.get? b=some o→b ∉ frs (envOfC qual scope s.heap.objs.size f cdv::outer)→h3.get? b=some o:=fun b o e hb=>hst b o (hideAll_get _ e hb)
 have frz:∀b,b∈frs (envOfC qual scope s.heap.objs.size f cdv::outer)→b=s.heap.objs.size∨b∈frs outer:=fun b hb=>by
  unfold frs at hb
  rw [List.filterMap_cons] at hb
  exact List.mem_cons.mp hb
 have zk5:∀b o,s.heap.get? b=some o→b ∉ frs outer→b ∉ frs (envOfC qual scope s.heap.objs.size f cdv::outer):=fun b o e hb z=>by
  rcases frz b z with q | q
  ·exact absurd (Heap.lt_size e) (by rw [q];exact Nat.lt_irrefl _)
  ·exact hb q
 have U:=I.base
 have stk:=I.stack
 refine⟨⟨fun b o e n hb hx=>kk b o (U.keep b o e n hb hx) (zk5 b o e hb),fun b o e n hb hx=>?_,fun b o e n hx=>U.free b o e n hx,fun b o e hx=>?_,U.tups,U.frzs,U.tbls⟩,fun a u e=>?_⟩
 ·obtain⟨sl,q⟩:=U.slot b o e n hb hx
  obtain⟨_,o2,ho2,hd2⟩:=I.ok.funs.mem hb
  have ho2':s.heap.get? b=some o2:=ho2
  rw [e] at ho2'
  cases ho2'
  obtain⟨sl2,q2⟩:=up b _ q hd2
  exact⟨sl2,q2⟩
 ·obtain⟨o2,q⟩:=U.there b o e hx
  by_cases hb:b∈frs (envOfC qual scope s.heap.objs.size f cdv::outer)
  ·obtain⟨_,o3,ho3,hd3⟩:=stk.mem hb
   obtain⟨sl,q3⟩:=up b _ ho3 hd3
   exact⟨_,q3⟩
  ·exact⟨_,kk b o2 q hb⟩
 ·refine(I.hok a u e).stay (fun b v hb q=>kk b v q fun z=>?_) (fun _ q=>q) fun _ _ q=>q
  have hn:=I.stkFree b z
  rcases hb with r | r
  ·rw [r] at hn;rw [hn] at e;cases e
  ·rw [hn] at r;cases r
theorem zfj {h':Heap}{e:Addr}{C:Value}{vs:List Value} (I:Inv (cxOf (CXE P w) P w K mg base N qual scope f cdv A outer s H E) pins σ H1 s2) (m:Heap.MadeExcOf s2.heap h' e C vs) (h:E C none H1) :
  (cxOf (CXE P w) P w K mg base N qual scope f cdv A outer s H E).xe (.ref e) { s2 with heap:=h' }:=by
 show wpAny (model P w) (A.deeper (envOfC qual scope s.heap.objs.size f cdv)) (leaving (envOfC qual scope s.heap.objs.size f cdv) (.ref e)) (fun _ s''=>CXE P w outer H s E (.ref e) s'') (fun e' s''=>CXE P w outer H s E e' s'') { s2 with heap:=h' }
 have stk:=I.stack
 refine wpAny_leaves_madeW (s:={ s2 with heap:=h' }) (base:=hideAll s2.heap (frs (envOfC qual scope s.heap.objs.size f cdv::outer))) (h:=s2.heap) I.ok.frames rfl (fun b o q=>of_hideAll _ q) (PySem.W.funFrames_hide stk fun env he b hb=>List.mem_filterMap.mpr ⟨env,he,hb⟩) m fun h'' t fl tup bt ups=>?_
 have up1:s2.heap.UpToSlots h'':=(Heap.UpToSlots.of_keeps m.keeps).trans ups
 refine⟨e,C,.ref t,H1,_,rfl,I.os,I.bare,fl,fun h3 st3 up3=>stands I st3 (up1.trans up3),?_,?_,h⟩
 ·have en:=m.new
  cases q:s.heap.get? e with
  | none=>rfl
  | some o=>
   obtain⟨o2,q2⟩:=I.base.there e o q (by show e ∉ ([]:List Addr);simp)
   rw [en] at q2;cases q2
 ·cases q:H1 e with
  | none=>rfl
  | some u=>
   obtain⟨ob,q2⟩:=ObjOk.there (I.hok e u q)
   rw [m.new] at q2;cases q2
theorem zha {b:Addr}{o:Obj} (e:s.heap.get? b=some o) (hb:b ∉ frs outer):b ∉ frs (envOfC qual scope s.heap.objs.size f cdv::outer):=fun z=>by
 have z':b∈s.heap.objs.size::frs outer:=by
  unfold frs at z ⊢
  rw [List.filterMap_cons] at z
  exact z
 rcases List.mem_cons.mp z' with q | q
 ·exact absurd (Heap.lt_size e) (by rw [q];exact Nat.lt_irrefl _)
 ·exact hb q
theorem zfk {x:Addr} {s':Shared}{e:Value} {E':XK} (I:Inv (cxOf (CXE P w) P w K mg base N qual scope f cdv A outer s H E) pins σ H1 s2) (hx:CXE P w (envOfC qual scope s.heap.objs.size f cdv::outer) H1 s2 E' e s') (h:∀C H',E' C none H'→E C none H') :
  (cxOf (CXE P w) P w K mg base N qual scope f cdv A outer s H E).xe e s':=by
 obtain⟨x,C,a0,H',B,rfl,os,bare,fl,st,xn,xh,q⟩:=hx
 show wpAny (model P w) (A.deeper (envOfC qual scope s.heap.objs.size f cdv)) (leaving (envOfC qual scope s.heap.objs.size f cdv) (.ref x)) (fun _ s''=>CXE P w outer H s E (.ref x) s'') (fun e' s''=>CXE P w outer H s E e' s'') s'
 refine wpAny_leaves_onW I.ok.frames rfl fl fun h'' fl2 up=>?_
 have U:=I.base
 refine⟨x,C,a0,H',B,rfl,os.trans I.os,bare,fl2,fun h3 st3 up3=>?_,?_,xh,h C H' q⟩
 ·obtain⟨u,ok⟩:=st h3 st3 (up.trans up3)
  refine⟨⟨fun b o e n hb hx=>u.keep b o (U.keep b o e n hb hx) (U.free b o e n hx) (zha e hb) hx,fun b o e n hb hx=>?_,fun b o e n hx=>?_,fun b o e hx=>?_,fun b xs e=>u.tups b xs (U.tups b xs e),fun b o v e=>u.frzs b o v (U.frzs b o v e),fun b ps e=>?_⟩,ok⟩
  ·obtain⟨sl,q1⟩:=U.slot b o e n hb hx
   have hb':b∈frs (envOfC qual scope s.heap.objs.size f cdv::outer):=by
    unfold frs;rw [List.filterMap_cons];exact List.mem_cons_of_mem _ hb
   obtain⟨sl2,q2⟩:=u.slot b _ q1 (U.free b o e n hx) hb' hx
   exact⟨sl2,q2⟩
  ·obtain⟨o2,q2⟩:=U.there b o e hx
   exact u.free b o2 q2 (U.free b o e n hx) hx
  ·obtain⟨o2,q2⟩:=U.there b o e hx
   exact u.there b o2 q2 hx
  ·obtain⟨m1,q1⟩:=U.tbls b ps e
   obtain⟨m2,q2⟩:=u.tbls b _ q1
   exact⟨m1++m2,by rw [q2,Array.append_assoc]⟩
 ·cases q1:s.heap.get? x with
  | none=>rfl
  | some o=>
   obtain⟨o2,q2⟩:=U.there x o q1 (by show x ∉ ([]:List Addr);simp)
   rw [xn] at q2;cases q2
end
section
variable {P:Program}{w:World}{K:PySem.W.Frag}{mg:Str→Option Value}{base:Heap}
noncomputable def FnE (P:Program) (w:World) (K:PySem.W.Frag) (mg:Str→Option Value) (base:Heap) (k:Nat) (x:Str) (ps:List Str) (sp:Sp):Prop:=
 ∃f fd,FnOk P w K mg base (CXE P w) k f fd ps sp∧PySem.W.keepIn K (.ref f)=true∧Binds K fd ps []∧mg x=some (.ref f)
noncomputable def zgm (C:Addr) (E:XK) (t:TA):TS:=fun _ σ H=>t σ H fun vs H1=>vs.length≤sizeLine∧E (.ref C) none H1
theorem zY {N:List Str}{qual:Str}{scope:Scope}{f:Addr}{cdv:Value}{A:Around}{outer:List Env}{s:Shared}{H:Hp}{E:XK}{xn:Str}{C:Addr}{bmB:List Value}{B newId initId:String}{e:Expr}{es:List Expr}{t:TA}{np cpos pos:Pos}
  (FB:ExcBaseFacts B newId initId bmB) (hq:PySem.W.excIn K C bmB newId=true) (hg:Gl (cxOf (CXE P w) P w K mg base N qual scope f cdv A outer s H E) xn) (hm:mg xn=some (.ref C)) (ha:PA (cxOf (CXE P w) P w K mg base N qual scope f cdv A outer s H E) (e::es) t)
  (hd:(xn == ("__debug__":Str))=false:=by decide)
  (he:starEach (e::es) (cxOf (CXE P w) P w K mg base N qual scope f cdv A outer s H E).env=(false,eval e (cxOf (CXE P w) P w K mg base N qual scope f cdv A outer s H E).env)::starEach es (cxOf (CXE P w) P w K mg base N qual scope f cdv A outer s H E).env:=by rfl)
  (hpl:(backTo cpos (starEach es (cxOf (CXE P w) P w K mg base N qual scope f cdv A outer s H E).env)).any (·.1)=false:=by rfl) :
  PS (cxOf (CXE P w) P w K mg base N qual scope f cdv A outer s H E) (.Raise (some (.Call (.Name xn np) (e::es) [] cpos)) none pos) (zgm C E t):=by
 intro pins s1 σ H0 D I h
 obtain⟨bm,N',nm,q,bs,hdct,sn,sub,ab,col,dd,k0,k1,k2,k3,k5,mN,hC,hN,hni,TL,_⟩:=zfi I.mod.kin hq
 refine wpAny_Raise_call_subT (C:=C) (nm:=nm) (q:=q) (N:=N') (bs:=bs) (bm:=bm) (hdct:=hdct) (sn:=sn) (sub:=sub) (ab:=ab) (col:=col) (dd:=dd) (k0:=k0) (k1:=k1) (k2:=k2) (k3:=k3) (k5:=k5)
  FB (mN:=mN) (TL.hasType FB.hasBase) (I.ok.hd rfl) (by rw [he];show (false || (backTo cpos (starEach es _)).any (·.1))=false;rw [hpl];rfl) hni (ld_glob I hg hm ⟨rfl,?_⟩ hd)
 have hs:=ha cpos pins s1 σ H0 _ I h
 rw [he] at hs ⊢
 exact Calls.evalArgs_plain (thn hs fun us s2 x=>by
  obtain⟨vs,H1,I1,r1,z,q1⟩:=x
  exact⟨rfl,by rw [← r1.length];exact z,I1.bk _ _ hC,hN.keeps I1.bk,TL.keeps I1.bk,fun h' x m=>zfj I1 m q1⟩)
end
section
variable {P:Program}{w:World}{K:PySem.W.Frag}{mg:Str→Option Value}{base:Heap}
theorem Fun.okE {x qual:Str}{st:Stmt}{f:Addr}{fd:FuncData}{N ps:List Str}{k:Nat}{sp:Sp} (F:Fun K x qual st f fd) (S:FnScope N ps (defScope st)) (len:∀vs H Q E,sp vs H Q E→vs.length=ps.length)
  (hbody:∀(cdv:Value) (A:Around) (outer:List Env) (s:Shared) (H:Hp) (vs:List V) (Q:VK) (E:XK),Room k (A.deeper (envOfC qual (defScope st) s.heap.objs.size f cdv))→sp vs H Q E →
   ∃t,PSs (cxOf (CXE P w) P w K mg base N qual (defScope st) f cdv A outer s H E) (defBody st) t∧t { nx:=fun _ H'=>Q .non H',rt:=Q } (start N vs) H):FnOk P w K mg base (CXE P w) (k+1) f fd ps sp:=by
 obtain⟨oc,od,kV,doc,pm,an,cdv,ct,osl,rfl,lk,hcd⟩:=F.ex
 exact fn_of lk hcd S len fun A outer s H vs Q E hr hsp=>hbody cdv A outer s H vs Q E hr hsp
theorem Def.fnE {x:Str}{st:Stmt}{N ps:List Str}{k:Nat}{sp:Sp} (D:Def K mg x st ps) (S:FnScope N ps (defScope st)) (len:∀vs H Q E,sp vs H Q E→vs.length=ps.length)
  (hbody:∀(f:Addr) (cdv:Value) (A:Around) (outer:List Env) (s:Shared) (H:Hp) (vs:List V) (Q:VK) (E:XK),Room k (A.deeper (envOfC x (defScope st) s.heap.objs.size f cdv))→sp vs H Q E →
   ∃t,PSs (cxOf (CXE P w) P w K mg base N x (defScope st) f cdv A outer s H E) (defBody st) t∧t { nx:=fun _ H'=>Q .non H',rt:=Q } (start N vs) H):FnE P w K mg base (k+1) x ps sp:=by
 obtain⟨f,fd,F,b,m⟩:=D
 exact⟨f,fd,F.okE S len (hbody f),F.kp,b,m⟩
end
section
variable {M:Model}{A:Around}{E:Value→Shared→Prop}{h:Heap}{g:Array GenState}{d:Drawn}{t:Nat}{os:OsState}
end
section
variable {X:Cx}{pins:List (Addr×Obj)}{σ:St}{H:Hp}{s:Shared}
noncomputable def zhb (x:Addr) (C:Value):HO:=.ext fun h=>∃o,h.get? x=some o∧o.cls=C
end
section
variable {X:Cx}{pins:List (Addr×Obj)}{σ:St}{H:Hp}{s:Shared}
end
end L2
namespace L2
open PySem PySem.Spec PyProof.Rows
noncomputable def Ite (K:PySem.W.Frag) (l:Addr) (N:Nat):It:=
  ⟨fun i H=>∃xs x,SqL K H l xs∧xs.length=N∧xs[i]?=some x,
   fun i H v H'=>∃t,H t=none∧v=.ref t∧∀xs x,SqL K H l xs→xs[i]?=some x→H'=upd H t (.tup [.int i,x]),
   fun i H=>i=N∧∃xs,SqL K H l xs∧xs.length=N⟩
theorem zco {P:Program}{w:World}{K:PySem.W.Frag}{elts:List Expr}{x1:Nat}{tp:Pos} (l e it:Addr) (N:Nat) (hei:e≠it) (hle:l≠e) (hli:l≠it) :
  Turn P w K (.Tuple elts x1 tp) (Ite K l N) [e,it] e (fun i h=>(∃old,IsEnum h e it i old)∧h.IsListIter it l i) where
 mem:=by simp
 obj:=fun i h ⟨⟨old,h1⟩,h2⟩ c hc=>by
  simp only [List.mem_cons,List.not_mem_nil,or_false] at hc
  rcases hc with z | z
  ·subst z;exact⟨_,h1,fun v q=>by have q':Data.fields _=Data.cell v:=q;cases q'⟩
  ·subst z
   obtain⟨o,ho,_,hd⟩:=h2
   exact⟨o,ho,fun v q=>by rw [hd] at q;cases q⟩
 keep:=fun i h h' ⟨⟨old,h1⟩,h2⟩ k=>⟨⟨old,k e (by simp) _ h1⟩,h2.at fun o z=>k it (by simp) o z⟩
 item:=by
  intro X hP hw hK hc i pins s σ H E I hf ⟨⟨old,h1⟩,h2⟩ ⟨xs,x,q1,hN,hx⟩
  subst hP hw hK
  obtain⟨it1,v1,p1,z1⟩:=I.list q1
  have hl1:=v1.length
  have hsz:it1.toArray.size=N:=by rw [List.size_toArray];omega
  have hi:i<N:=by have:=(List.getElem?_eq_some_iff.mp hx).1;omega
  obtain⟨u1,e1,r1⟩:=v1.get hx
  have D:=Draws.list (prog:=X.prog) (w:=X.w) (A:=X.A.in1) (I.ok.hd hc) it l hli it1.toArray
  rw [hsz] at D
  refine wpAny_pyNext_enum_itemD D h1 ⟨h2,p1.isList⟩ hi hei (by simp only [List.mem_cons,List.not_mem_nil,or_false,not_or];exact⟨hei,Ne.symm hle⟩) fun u h' tk hu g1 gst gT gs k=>?_
  refine⟨_,rfl,wpAny_letOwnedTupleGo_enum g1 fun h'' g1' sb=>?_⟩
  have hzT:s.heap.objs.size≠e:=Nat.ne_of_gt (Heap.lt_size h1)
  have eu:u=u1:=by
   have hu':it1[i]?=some u:=by simpa using hu
   rw [e1] at hu'
   exact(Option.some.inj hu').symm
  subst eu
  have gT':IsTup h'' s.heap.objs.size [Value.int i tk,u].toArray:=⟨_,sb.extBut _ _ hzT gT,rfl,_,rfl⟩
  have hlz:∀{c:Addr}{o:Obj},c≠e→h'.get? c=some o→h''.get? c=some o:=fun hcz z=>sb.extBut _ _ hcz z
  refine⟨.ref s.heap.objs.size,upd H s.heap.objs.size (.tup [.int i,x]),I.turnsT (ch:=[e,it]) (t':=tk+1) (fun c hcm=>hf c hcm) (fun c o hcn z=>?_) (Nat.le_refl _) (.cons ⟨tk,rfl⟩ (.cons r1 .nil)) gT' (by show 2≤sizeLine;decide),rfl,
   ⟨_,I.hok.fresh (Nat.le_refl _),rfl,fun xs' x' w1 w2=>?_⟩,⟨⟨_,g1'⟩,gst.1.at fun o z=>hlz (Ne.symm hei) z⟩,fun c hcm=>?_⟩
  ·simp only [List.mem_cons,List.not_mem_nil,or_false,not_or] at hcn
   exact hlz hcn.1 (k c o hcn.1 hcn.2 z)
  ·have a1:=I.list_inj w1 q1
   subst a1
   rw [hx] at w2
   cases w2
   rfl
  ·obtain⟨o,z,_⟩:∃o,s.heap.get? c=some o∧True:=by
    simp only [List.mem_cons,List.not_mem_nil,or_false] at hcm
    rcases hcm with z | z
    ·subst z;exact⟨_,h1,trivial⟩
    ·subst z;obtain⟨o,ho,_⟩:=h2;exact⟨o,ho,trivial⟩
   rw [upd_ne (Nat.ne_of_lt (Heap.lt_size z))]
   exact(hf c hcm).1
 done:=by
  intro X hP hw hK hc i pins s σ H E I hf ⟨⟨old,h1⟩,h2⟩ ⟨hi,xs,q1,hN⟩
  subst hP hw hK hi
  obtain⟨it1,v1,p1,z1⟩:=I.list q1
  have hl1:=v1.length
  have hsz:it1.toArray.size=i:=by rw [List.size_toArray];omega
  have D:=Draws.list (prog:=X.prog) (w:=X.w) (A:=X.A.in1) (I.ok.hd hc) it l hli it1.toArray
  rw [hsz] at D
  refine wpAny_pyNext_enum_endD D h1 ⟨h2,p1.isList⟩ fun h' k=>⟨rfl,I.turns (ch:=[e,it]) (t':=s.toks) hf fun c o hcn z=>?_⟩
  simp only [List.mem_cons,List.not_mem_nil,or_false,not_or] at hcn
  exact k c o hcn.2 z
 self:=fun _ _ _ _ _ st h=>let ⟨⟨_,z⟩,_⟩:=st;wpAny_pyIter_enum z h
section
variable {X:Cx}
noncomputable def zgn (K:PySem.W.Frag) (ta:TA):TI:=fun σ H R=>ta σ H fun vs H1=>∃a xs,vs=[.ref a]∧SqL K H1 a xs∧R (Ite K a xs.length) H1
theorem Xf {a:Expr}{ta:TA}{p pos:Pos}{elts:List Expr}{x1:Nat}{tp:Pos} (hg:Gl X "enumerate") (hm:X.mg "enumerate"=none) (ha:PA X [a] ta)
  (hs:starEach [a] X.env=(false,eval a X.env)::starEach [] X.env:=by rfl) (hs2:(backTo pos (starEach [] X.env)).any (·.1)=false:=by rfl) :
  PI X (.Tuple elts x1 tp) (.Call (.Name "enumerate" p) [a] [] pos) (zgn X.K ta):=by
 intro pins s σ H R I h
 refine Call_ (ld_blt I hg hm zbh (PyProof.Rows.callWith_type1 (thn (ha pos pins s σ H _ I h) fun us s1 ⟨vs,H1,I1,r1,q1⟩=>?_) hs hs2))
 obtain⟨l,xs,e,q1,q⟩:=q1
 subst e
 obtain⟨u,rfl,w1⟩:=vals1 r1
 cases w1
 obtain⟨its,v1,p1,z1⟩:=I1.list q1
 have hl:l<s1.heap.objs.size:=by obtain⟨_,_,e,_⟩:=p1;exact Heap.lt_size e
 refine call_enumerate_list p1.isList fun h' g1 g2 gs k=>?_
 refine wpAny_pyIter_enum g1 ?_
 refine⟨s1.heap.objs.size+1,[s1.heap.objs.size+1,s1.heap.objs.size],_,_,H1,rfl,I1.kept (t':=s1.toks) k,zco l _ s1.heap.objs.size xs.length ?_ ?_ ?_,⟨⟨_,g1⟩,g2⟩,fun c hcm=>?_,q⟩
 ·exact Nat.succ_ne_self _
 ·exact Nat.ne_of_lt (Nat.lt_succ_of_lt hl)
 ·exact Nat.ne_of_lt hl
 ·have hc:s1.heap.objs.size≤c:=by
   simp only [List.mem_cons,List.not_mem_nil,or_false] at hcm
   rcases hcm with e | e
   ·rw [e];exact Nat.le_succ _
   ·rw [e];exact Nat.le_refl _
  exact I1.fpOk hc (I1.hok.fresh hc)
theorem zbp (hc:X.calm=true):CallR X (.builtin "sum") (fun xs H Q=>∃(p:Addr) (ns:List Int),xs=[.ref p]∧SqL X.K H p (ns.map V.int)∧Q (.int ns.sum) H):=by
 intro pins s σ H xs us Q I r h
 obtain⟨p,ns,rfl,hq,q⟩:=h
 obtain⟨u,rfl,ru⟩:=vals1 r
 cases ru
 obtain⟨its,hl,hi,hz⟩:=I.ints hq
 obtain⟨xs,hx⟩:=hi.allInts.items
 have hl':s.heap.IsList p (intItems xs):=hx ▸ hl
 refine sum_intListG (I.ok.hd hc) hl' fun h' tk t' hk=>?_
 have e1:ns=xs.toList.map (·.1):=by
  rw [← nums_intItems,← hx]
  exact(show numsOf its.toArray.toList=ns from hi.numsOf).symm
 have e2:preSum (numAt xs) xs.size=ns.sum:=by
  rw [preSum_eq,List.take_of_length_le (by simp),e1]
 rw [e2]
 exact⟨.int _,H,I.kept (t':=tk) hk,⟨_,rfl⟩,q⟩
end
theorem zf6:bootBuiltins "sum"=some (.builtin "sum"):=by decide +kernel
theorem Jq {K:PySem.W.Frag}{a acc:Addr}{xs:List V}{own:Nat}{ix:List Nat}{g:TG}{te:TE}{σ:St}{H1:Hp}{Q:VK} (f:Nat→V) (hq1:SqL K H1 a xs) (hn:H1 acc=none) (hz:xs.length≤sizeLine)
  (step:∀(i:Nat) (x:V) (t:Addr) (H:Hp) (R:VK),xs[i]?=some x→Same H1 H→H t=some (.tup [.int i,x])→R (f i) H→g (.ref t) (jy own ix σ) H fun σ4 H4=>σ4.drop own=ix.map (fun i=>(σ[i]?).getD none)∧te σ4 H4 R)
  (hd:∀H',Same H1 H'→H' acc=some (.lst ((List.range xs.length).map f))→Q (.ref acc) H'):Jm (Ite K a xs.length) own ix g ZV te σ H1 acc Q:=by
 refine⟨fun i m ys H=>m=xs.length-i∧i≤xs.length∧ys=(List.range i).map f∧Same H1 H∧H acc=some (.lst ys),⟨xs.length,by simp,Nat.zero_le _,rfl,Same.new hn,upd_same⟩,?_⟩
 rintro i m zs H ⟨rfl,hi,rfl,sm,ha⟩
 refine⟨ha,?_⟩
 by_cases hlt:i<xs.length
 ·refine .inr ⟨⟨xs,xs[i],sm.seq hq1,rfl,List.getElem?_eq_getElem hlt⟩,by rw [List.length_map,List.length_range];omega,fun v H3 ⟨t,ht,hv,hy⟩=>?_⟩
  have e:=hy xs _ (sm.seq hq1) (List.getElem?_eq_getElem hlt)
  subst hv e
  have ha3:(upd H t (.tup [.int i,xs[i]])) acc=some (.lst ((List.range i).map f)):=by rw [upd_ne (ne_of_none ha ht)];exact ha
  exact step i _ t _ _ (List.getElem?_eq_getElem hlt) (sm.put ht) upd_same ⟨ha3,_,by omega,rfl,hlt,by rw [List.range_succ,List.map_append];rfl,(sm.put ht).wr hn,upd_same⟩
 ·have e:i=xs.length:=by omega
  subst e
  exact .inl ⟨⟨rfl,xs,sm.seq hq1,rfl⟩,hd H sm ha⟩
theorem zef {K:PySem.W.Frag}{a:Addr}{xs:List V}{g:TG}{tb:TS}{D:Ends}{σ:St}{H:Hp} (Pv:Nat→St→Hp→Prop) (h0:Pv 0 σ H) (hl:∀i σ H,Pv i σ H→SqL K H a xs)
  (hs:∀(i:Nat) x t σ H,xs[i]?=some x→Pv i σ H→H t=none→g (.ref t) σ (upd H t (.tup [.int i,x])) fun σ2 H2=>tb { D with nx:=Pv (i+1),ct:=Pv (i+1),bk:=D.nx } σ2 H2) (hd:∀σ H,Pv xs.length σ H→D.nx σ H) :
  ∃W:Nat→Nat→St→Hp→Prop,(∃m,W 0 m σ H)∧∀i m σ H,W i m σ H →
   ((Ite K a xs.length).stop i H∧D.nx σ H)∨((Ite K a xs.length).go i H∧∃N:St→Hp→Prop,(∀σ' H',N σ' H'→∃m',m'<m∧W (i+1) m' σ' H')∧∀x H',(Ite K a xs.length).yld i H x H'→g x σ H' fun σ2 H2=>tb { D with nx:=N,ct:=N,bk:=D.nx } σ2 H2):=by
 refine⟨fun i m σ H=>m=xs.length-i∧i≤xs.length∧Pv i σ H,⟨_,rfl,Nat.zero_le _,h0⟩,?_⟩
 rintro i m σ H ⟨rfl,hi,p⟩
 have q1:=hl i σ H p
 by_cases hlt:i<xs.length
 ·refine .inr ⟨⟨xs,xs[i],q1,rfl,List.getElem?_eq_getElem hlt⟩,Pv (i+1),fun σ' H' p'=>⟨_,by omega,rfl,hlt,p'⟩,fun v H3 ⟨t,ht,hv,hy⟩=>?_⟩
  have e:=hy xs _ q1 (List.getElem?_eq_getElem hlt)
  subst hv e
  exact hs i _ t σ H (List.getElem?_eq_getElem hlt) p ht
 ·have e:i=xs.length:=by omega
  subst e
  exact .inl ⟨⟨rfl,xs,q1,rfl⟩,hd σ H p⟩
end L2
namespace L2
open PySem PySem.Spec PyProof.Rows
theorem Vq {lo:Int}{n:Nat}{acc:Addr}{own:Nat}{ix:List Nat}{g:TG}{te:TE}{σ:St}{H1:Hp}{Q:VK} (Pr:Nat→V→Prop) (hn:H1 acc=none) (hz:n≤sizeLine)
  (step:∀(i:Nat) (H:Hp) (R:VK),i<n→Same H1 H→(∀v H',Same H H'→Pr i v→R v H')→g (.int (lo+i)) (jy own ix σ) H fun σ4 H4=>σ4.drop own=ix.map (fun i=>(σ[i]?).getD none)∧te σ4 H4 R)
  (hd:∀ys H',Same H1 H'→H' acc=some (.lst ys)→ys.length=n→(∀i v,ys[i]?=some v→Pr i v)→Q (.ref acc) H') :
  Jm (Itr lo n) own ix g ZV te σ H1 acc Q:=by
 refine⟨fun i m ys H=>m=n-i∧i≤n∧ys.length=i∧(∀j v,ys[j]?=some v→Pr j v)∧Same H1 H∧H acc=some (.lst ys),⟨n,by simp,Nat.zero_le _,rfl,fun j v h=>by simp at h,Same.new hn,upd_same⟩,?_⟩
 rintro i m ys H ⟨rfl,hi,hl,pr,sm,ha⟩
 refine⟨ha,?_⟩
 by_cases hlt:i<n
 ·refine .inr ⟨hlt,by omega,fun x H3 y=>?_⟩
  obtain⟨e,y⟩:=y
  subst e y
  refine step i _ _ hlt sm fun v H' s' pv=>⟨s' _ _ ha,n-(i+1),by omega,rfl,hlt,by rw [List.length_append,hl];rfl,fun j u hj=>?_,(sm.trans s').wr hn,upd_same⟩
  by_cases hji:j<ys.length
  ·rw [List.getElem?_append_left hji] at hj
   exact pr j u hj
  ·have hj2:=(List.getElem?_eq_some_iff.mp hj).1
   rw [List.length_append,List.length_singleton] at hj2
   have ej:j=i:=by omega
   subst ej
   rw [List.getElem?_append_right (by omega),hl,Nat.sub_self] at hj
   have:v=u:=by simpa using hj
   subst this
   exact pv
 ·have e:i=n:=by omega
  subst e
  exact .inl ⟨Nat.le_refl _,hd ys H sm ha hl pr⟩
theorem zcp {K:PySem.W.Frag}{a acc:Addr}{xs:List V}{own:Nat}{ix:List Nat}{g:TG}{te:TE}{σ:St}{H1:Hp}{Q:VK} (Pr:Nat→V→Hp→Prop) (zhc:∀i v H H',Same H H'→Pr i v H→Pr i v H') (hacc:∀i v H o,H acc=some o→∀o',Pr i v H→Pr i v (upd H acc o'))
  (hq:SqL K H1 a xs) (hn:H1 acc=none) (hz:xs.length≤sizeLine)
  (step:∀(i:Nat) (x:V) (H:Hp) (R:VK),xs[i]?=some x→Same H1 H→(∀v H',Same H H'→Pr i v H'→R v H')→g x (jy own ix σ) H fun σ4 H4=>σ4.drop own=ix.map (fun i=>(σ[i]?).getD none)∧te σ4 H4 R)
  (hd:∀ys H',Same H1 H'→H' acc=some (.lst ys)→ys.length=xs.length→(∀i v,ys[i]?=some v→Pr i v H')→Q (.ref acc) H') :
  Jm (Itl K a) own ix g ZV te σ H1 acc Q:=by
 refine⟨fun i m ys H=>m=xs.length-i∧i≤xs.length∧ys.length=i∧(∀j v,ys[j]?=some v→Pr j v H)∧Same H1 H∧H acc=some (.lst ys),⟨xs.length,by simp,Nat.zero_le _,rfl,fun j v h=>by simp at h,Same.new hn,upd_same⟩,?_⟩
 rintro i m ys H ⟨rfl,hi,hl,pr,sm,ha⟩
 refine⟨ha,?_⟩
 have q:=sm.seq hq
 by_cases hlt:i<xs.length
 ·refine .inr ⟨⟨xs,xs[i],q,by simp [hlt]⟩,by omega,fun x H3 y=>?_⟩
  obtain⟨e,y⟩:=y
  subst e
  refine step i x _ _ (y xs q) sm fun v H' s' pv=>⟨s' _ _ ha,xs.length-(i+1),by omega,rfl,hlt,by rw [List.length_append,hl];rfl,fun j u hj=>?_,(sm.trans s').wr hn,upd_same⟩
  by_cases hji:j<ys.length
  ·rw [List.getElem?_append_left hji] at hj
   exact hacc j u H' _ (s' _ _ ha) _ (zhc j u _ _ s' (pr j u hj))
  ·have hj2:=(List.getElem?_eq_some_iff.mp hj).1
   rw [List.length_append,List.length_singleton] at hj2
   have ej:j=i:=by omega
   subst ej
   rw [List.getElem?_append_right (by omega),hl,Nat.sub_self] at hj
   have:v=u:=by simpa using hj
   subst this
   exact hacc j v H' _ (s' _ _ ha) _ pv
 ·have e:i=xs.length:=by omega
  subst e
  exact .inl ⟨⟨xs,q,Nat.le_refl _⟩,hd ys H sm ha hl pr⟩
section
variable {X:Cx}
end
end L2
namespace L2
open PySem PySem.Spec PyProof.Rows PySem.W PySem.Calls
section
variable {prog:Program}{w:World}{A:Around}{E:Value→Shared→Prop}{s:Shared}{K:Frag}{x C:Addr}{ox:Obj}
structure zfl (K:Frag) (C:Addr):Prop where
 ga:findIn K (.ref C) "__getattribute__"=some (some (.builtin "BaseException.__getattribute__"))
 hk:findIn K (.ref C) "__getattr__"=some none
 cl:findIn K (.ref C) "__class__"=some (some (.builtin "object.__class__"))
 gt:specialIn K (.builtin "object.__class__") "__get__"=some (some (.builtin "getset_descriptor.__get__"))
 tk:takesIn K (.builtin "object.__class__")=some true
 mo:mroIn K C (.type "object")=some true
 mb:mroIn K C (.type "BaseException")=some true
end
section
variable {K:Frag}{x C:Addr}
end
inductive XTy (K:PySem.W.Frag) (H:Hp):V→Value→Prop where
 | of {x:V}{t:Value} (h:TyOf K H x t):XTy K H x t
 | exc {a C:Addr} (L:zfl K C) (h:H a=some (zhb a (.ref C))):XTy K H (.ref a) (.ref C)
section
variable {X:Cx}
end
noncomputable def zaC (X:Cx) (G:St→Value→Hp→Prop):Prop:=∀(pins:List (Addr×Obj)) (σ:St) (H:Hp) (s:Shared) (e:Value) (s':Shared),Inv X pins σ H s→CXE X.prog X.w X.stack H s (fun C _ H'=>G σ C H') e s'→X.xe e s'
noncomputable def zk6 (sp:Sp) (G:St→Value→Hp→Prop) (t:TA):TE:=fun σ H Q=>t σ H fun vs H1=>sp vs H1 Q fun C _ H'=>G σ C H'
section
variable {X:Cx}{k:Nat}{x:Str}{ps:List Str}{sp:Sp}{p pos:Pos}{e:Expr}{es:List Expr}{t:TA}{G:St→Value→Hp→Prop}
theorem zZ (F:FnE X.prog X.w X.K X.mg X.base k x ps sp) (hr:Room k X.A) (hg:Gl X x) (hx:zaC X G) (ha:PA X (e::es) t) (hdb:(x == ("__debug__":Str))=false:=by decide)
  (he:starEach (e::es) X.env=(false,eval e X.env)::starEach es X.env:=by rfl) (hpl:(backTo pos (starEach es X.env)).any (·.1)=false:=by rfl) :
  PE X (.Call (.Name x p) (e::es) [] pos) (zk6 sp G t):=by
 obtain⟨f,fd,F,kp,b,m⟩:=F
 intro pins s σ H Q I h
 refine wpAny_Call_Name_kw (ld_glob I hg m ?_ hdb)
 refine PySem.W.callWith_K (h₀:=X.base) I.ok.mod.kin kp (thn (ha pos pins s σ H _ I h) fun us s1 ⟨vs,H1,I1,r,q⟩=>⟨I1.kIn,?_⟩) he hpl
 have hl:us.length=ps.length:=by rw [← r.length];exact F.len _ _ _ _ q
 have bb:=b s1 us I1.kIn (by rw [List.append_nil];exact hl)
 rw [List.append_nil] at bb
 refine wpAny_call (codeAny_mono (F.run X.A X.stack s1 H1 ⟨us,[]⟩ us vs Q _ hr I1.env0 bb r q) fun rr s' hq=>?_)
 cases rr with
 | error e=>exact hx pins σ H1 s1 e s' I1 hq
 | ok fl=>
  cases fl with
  | ret u=>exact I1.after hq
  | next=>exact False.elim hq
  | brk=>exact False.elim hq
  | cont=>exact False.elim hq
end
theorem zy {P:Program}{w:World}{K:PySem.W.Frag}{mg:Str→Option Value}{base:Heap}{N:List Str}{qual:Str}{scope:Scope}{f:Addr}{cdv:Value}{A:Around}{outer:List Env}{s:Shared}{H:Hp}{E:XK} :
  zaC (cxOf (CXE P w) P w K mg base N qual scope f cdv A outer s H E) (fun _ C H'=>E C none H'):=
 fun _ _ _ _ _ _ I h=>zfk (x:=0) I h fun _ _ z=>z
end L2
namespace L2
open PySem PySem.Spec PyProof.Rows
end L2
namespace L2
open PySem PySem.Spec PyProof.Rows
end L2
namespace L2
open PySem PySem.Spec PyProof.Rows
end L2
namespace L2
open PySem PySem.Spec PyProof.Rows
section
variable {X:Cx}
variable {a b:Expr}{ta tb:TE}{pos:Pos}
variable {tA tB':TT}{rest:List Expr}
end
end L2
namespace L2
open PySem PySem.Spec PyProof.Rows
end L2
namespace L2
open PySem PySem.Spec PyProof.Rows
end L2
namespace L2
open PySem PySem.Spec PyProof.Rows
end L2
namespace L2
open PySem PySem.Spec PyProof.Rows
end L2
namespace L2
open PySem PySem.Spec PyProof.Rows
section
variable {X:Cx}{CX:CXT}{k:Nat}{f C:Addr}{fd:FuncData}{ps ks:List Str}{sp:Sp}{E:XK}{x m:Str}{p pos apos kpos:Pos}{e o:Expr}{es:List Expr}{kws:List Keyword}{te ta:TE}{t tk:TA}{nm:Option Str}
variable {g:List Value→List Value→List Value}{gV:List V→List V→List V}
end
end L2
namespace L2
open PySem PySem.Spec PyProof.Rows
end L2
namespace L2
open PySem PySem.Spec PyProof.Rows
section
variable {κ:Type} [DecidableEq κ]
noncomputable def valV (kvs:List (κ×V)) (k:κ):Option V:=(kvs.find? fun kv=>decide (kv.1=k)).map (·.2)
noncomputable def putK (kvs:List (κ×V)) (k:κ) (v:V):List (κ×V):=
 if (kvs.any fun kv=>decide (kv.1=k))=true then kvs.map (fun kv=>if kv.1=k then (kv.1,v) else kv) else kvs++[(k,v)]
theorem valV_pos {p:κ×V}{r:List (κ×V)}{k:κ} (e:p.1=k):valV (p::r) k=some p.2:=by simp [valV,List.find?_cons,e]
theorem valV_neg {p:κ×V}{r:List (κ×V)}{k:κ} (e:¬p.1=k):valV (p::r) k=valV r k:=by simp [valV,List.find?_cons,e]
theorem valV_any (k:κ):∀kvs:List (κ×V),(kvs.any fun kv=>decide (kv.1=k))=(valV kvs k).isSome
 | []=>rfl
 | p::r=>by
  rw [List.any_cons]
  by_cases e:p.1=k
  ·simp only [valV_pos e,decide_eq_true e,Bool.true_or,Option.isSome_some]
  ·rw [valV_neg e,decide_eq_false e,Bool.false_or];exact valV_any k r
theorem valV_map (k j:κ) (y:V):∀kvs:List (κ×V),valV (kvs.map fun kv=>if kv.1=k then (kv.1,y) else kv) j=(valV kvs j).map fun x=>if j=k then y else x
 | []=>rfl
 | p::r=>by
  have ih:=valV_map k j y r
  rw [List.map_cons]
  by_cases h:p.1=k
  ·rw [if_pos h]
   by_cases e:p.1=j
   ·rw [valV_pos (p:=(p.1,y)) e,valV_pos e,Option.map_some,if_pos (e.symm.trans h)]
   ·rw [valV_neg (p:=(p.1,y)) e,valV_neg e,ih]
  ·rw [if_neg h]
   by_cases e:p.1=j
   ·rw [valV_pos (p:=p) e,valV_pos e,Option.map_some,if_neg (fun z=>h (e.trans z))]
   ·rw [valV_neg (p:=p) e,valV_neg e,ih]
theorem valV_snoc (k j:κ) (y:V):∀kvs:List (κ×V),valV kvs k=none→valV (kvs++[(k,y)]) j=if j=k then some y else valV kvs j
 | [],_=>by
  by_cases e:k=j
  ·rw [if_pos e.symm];exact valV_pos (p:=(k,y)) e
  ·rw [if_neg (fun z=>e z.symm)];exact valV_neg (p:=(k,y)) e
 | p::r,hn=>by
  rw [List.cons_append]
  have hk:¬p.1=k:=fun z=>by rw [valV_pos z] at hn;cases hn
  rw [valV_neg hk] at hn
  have ih:=valV_snoc k j y r hn
  by_cases e:p.1=j
  ·rw [valV_pos e,valV_pos e,if_neg (fun z=>hk (e.trans z))]
  ·rw [valV_neg e,valV_neg e,ih]
theorem valV_put (kvs:List (κ×V)) (k j:κ) (y:V):valV (putK kvs k y) j=if j=k then some y else valV kvs j:=by
 unfold putK
 by_cases a:(kvs.any fun kv=>decide (kv.1=k))=true
 ·rw [if_pos a,valV_map]
  rw [valV_any] at a
  by_cases e:j=k
  ·obtain⟨x,hx⟩:=Option.isSome_iff_exists.mp a
   rw [if_pos e,e,hx,Option.map_some,if_pos rfl]
  ·rw [if_neg e]
   cases valV kvs j with
   | none=>rfl
   | some x=>rw [Option.map_some,if_neg e]
 ·rw [if_neg a]
  refine valV_snoc k j y kvs ?_
  rw [valV_any] at a
  cases q:valV kvs k with
  | none=>rfl
  | some x=>rw [q] at a;exact(a rfl).elim
theorem length_putK (kvs:List (κ×V)) (k:κ) (v:V):(putK kvs k v).length≤kvs.length+1:=by
 unfold putK
 split
 ·rw [List.length_map];omega
 ·rw [List.length_append,List.length_cons,List.length_nil];omega
theorem putK_new {kvs:List (κ×V)}{k:κ} (v:V) (h:valV kvs k=none):putK kvs k v=kvs++[(k,v)]:=by
 unfold putK
 rw [valV_any,h]
 exact if_neg (by decide)
theorem RelO.isSome_eq {o:Option V}{u:Option Value} (r:RelO o u):o.isSome=u.isSome:=by
 cases o with
 | none=>cases u with
  | none=>rfl
  | some _=>exact(show False from r).elim
 | some _=>cases u with
  | none=>exact(show False from r).elim
  | some _=>rfl
theorem RelO.getD {o:Option V}{u:Option Value}{d:V} {d':Value} (r:RelO o u) (rd:RelV d d'):RelV (o.getD d) (u.getD d'):=by
 cases o with
 | none=>cases u with
  | none=>exact rd
  | some _=>exact(show False from r).elim
 | some _=>cases u with
  | none=>exact(show False from r).elim
  | some _=>exact r
theorem KV.val {kvs:List (κ×V)}{vs:List (κ×Value)} (r:KV kvs vs) (k:κ):RelO (valV kvs k) (valueAt vs k):=by
 unfold KV at r
 induction r with
 | nil=>exact True.intro
 | @cons p q ps qs h t ih=>
  obtain⟨h1,h2⟩:=h
  by_cases e:p.1=k
  ·have e':q.1=k:=h1.symm.trans e
   have b:valueAt (q::qs) k=some q.2:=by simp [valueAt,List.find?_cons,e']
   rw [valV_pos e,b];exact h2
  ·have e':¬q.1=k:=fun z=>e (h1.trans z)
   have b:valueAt (q::qs) k=valueAt qs k:=by simp [valueAt,List.find?_cons,e']
   rw [valV_neg e,b];exact ih
theorem KV.any {kvs:List (κ×V)}{vs:List (κ×Value)} (r:KV kvs vs) (k:κ):(kvs.any fun kv=>decide (kv.1=k))=vs.any fun kv=>decide (kv.1=k):=by
 unfold KV at r
 induction r with
 | nil=>rfl
 | cons h t ih=>rw [List.any_cons,List.any_cons,ih,h.1]
theorem KV.repl {kvs:List (κ×V)}{vs:List (κ×Value)} (r:KV kvs vs) (k:κ){y:V}{u:Value} (ry:RelV y u) :
  KV (kvs.map fun kv=>if kv.1=k then (kv.1,y) else kv) (vs.map fun kv=>if kv.1=k then (kv.1,u) else kv):=by
 unfold KV at r ⊢
 induction r with
 | nil=>exact .nil
 | @cons p q ps qs h t ih=>
  rw [List.map_cons,List.map_cons]
  refine .cons ?_ ih
  obtain⟨h1,h2⟩:=h
  by_cases e:p.1=k
  ·rw [if_pos e,if_pos (h1.symm.trans e)];exact⟨h1,ry⟩
  ·rw [if_neg e,if_neg (fun z=>e (h1.trans z))];exact⟨h1,h2⟩
theorem KV.put {kvs:List (κ×V)}{vs:List (κ×Value)} (r:KV kvs vs) (k:κ){y:V}{u:Value} (ry:RelV y u):KV (putK kvs k y) (stored vs k u):=by
 unfold putK stored
 rw [r.any k]
 by_cases e:(vs.any fun kv=>decide (kv.1=k))=true
 ·rw [if_pos e,if_pos e];exact r.repl k ry
 ·rw [if_neg e,if_neg e];exact Paired.snoc r ⟨rfl,ry⟩
theorem KV.length {kvs:List (κ×V)}{vs:List (κ×Value)} (r:KV kvs vs):kvs.length=vs.length:=Paired.length r
end
theorem kV_is {P:Program}{w:World}{k:Key}{u:Value} (r:RelV (kV k) u):(mixKind P w).is k u=true:=by
 cases k with
 | inl i=>obtain⟨t,e⟩:=(show ∃t,u=Value.int i t from r);subst e;exact mixKind_int P w i t
 | inr x=>obtain⟨t,e⟩:=(show ∃t,u=Value.str x t from r);subst e;exact mixKind_str P w x t
theorem items_are {P:Program}{w:World}:∀{ks:List Key}{us:List Value},Vals (ks.map kV) us→ItemsAre (mixKind P w) ks us
 | [],_,r=>by rw [List.map_nil] at r;cases r;exact .nil
 | k::ks,_,r=>by
  rw [List.map_cons] at r
  cases r with
  | cons h t=>exact .cons (kV_is h) (items_are t)
abbrev KT (H:Hp):List (List Key×V)→List (List Key×Addr×Value)→Prop:=Paired fun p q=>p.1=q.1∧H q.2.1=some (.tup (p.1.map kV))∧RelV p.2 q.2.2
theorem KT.val {H:Hp}{kvs:List (List Key×V)}{xs:List (List Key×Addr×Value)} (r:KT H kvs xs) (k:List Key):RelO (valV kvs k) ((atKey xs k).map (·.2)):=by
 induction r with
 | nil=>exact True.intro
 | @cons p q ps qs h t ih=>
  obtain⟨h1,_,h2⟩:=h
  by_cases e:p.1=k
  ·have e':q.1=k:=h1.symm.trans e
   have b:atKey (q::qs) k=some q.2:=by simp [atKey,List.find?_cons,e']
   rw [valV_pos e,b];exact h2
  ·have e':¬q.1=k:=fun z=>e (h1.trans z)
   have b:atKey (q::qs) k=atKey qs k:=by simp [atKey,List.find?_cons,e']
   rw [valV_neg e,b];exact ih
theorem KT.repl {H:Hp}{kvs:List (List Key×V)}{xs:List (List Key×Addr×Value)} (r:KT H kvs xs) (k:List Key){y:V}{u:Value} (ry:RelV y u) :
  KT H (kvs.map fun kv=>if kv.1=k then (kv.1,y) else kv) (xs.map (putAt k u)):=by
 induction r with
 | nil=>exact .nil
 | @cons p q ps qs h t ih=>
  rw [List.map_cons,List.map_cons]
  refine .cons ?_ ih
  obtain⟨h1,h2,h3⟩:=h
  unfold putAt
  by_cases e:p.1=k
  ·rw [if_pos e,if_pos (h1.symm.trans e)];exact⟨h1,h2,ry⟩
  ·rw [if_neg e,if_neg (fun z=>e (h1.trans z))];exact⟨h1,h2,h3⟩
theorem KT.put {H:Hp}{kvs:List (List Key×V)}{xs:List (List Key×Addr×Value)} (r:KT H kvs xs) (k:List Key){b:Addr}{y:V}{u:Value} (hb:H b=some (.tup (k.map kV))) (ry:RelV y u) :
  KT H (putK kvs k y) (storedH xs k b u):=by
 have e:(kvs.any fun kv=>decide (kv.1=k))=(atKey xs k).isSome:=by
  rw [valV_any,(r.val k).isSome_eq,Option.isSome_map]
 unfold putK storedH
 rw [e]
 by_cases q:(atKey xs k).isSome=true
 ·rw [if_pos q,if_pos q];exact r.repl k ry
 ·rw [if_neg q,if_neg q];exact Paired.snoc r ⟨rfl,hb,ry⟩
theorem KT.keeps {H H':Hp}{kvs:List (List Key×V)}{xs:List (List Key×Addr×Value)} (r:KT H kvs xs) (ht:∀b ys,H b=some (.tup ys)→H' b=some (.tup ys)):KT H' kvs xs:=
 Paired.mapP r fun _ _ z=>⟨z.1,ht _ _ z.2.1,z.2.2⟩
section
variable {P:Program}{w:World}{H:Hp}{h:Heap}{a:Addr}
theorem rd_of {u:HO} (ok:HOk P w H h) (e:Rd H a u):ObjOk P w H h a u:=e.ok ok
theorem dk_rd {kvs:List (Key×V)} (ok:HOk P w H h) (e:Rd H a (.dK kvs)):kvs.length≤sizeLine∧(a == sysModules)=false∧∃vs,KV kvs vs∧h.DictOf (mixKind P w) a vs:=
 show ObjOk P w H h a (.dK kvs) from rd_of ok e
theorem dk_of {kvs:List (Key×V)} (ok:HOk P w H h) (e:H a=some (.dK kvs)):kvs.length≤sizeLine∧(a == sysModules)=false∧∃vs,KV kvs vs∧h.DictOf (mixKind P w) a vs:=dk_rd ok (.inl e)
theorem key_of {ks:List Key} (ok:HOk P w H h) (e:H a=some (.tup (ks.map kV))):(tupleKind (mixKind P w)).is h ks a:=by
 obtain⟨_,its,r,o,h1,h2,n,h3⟩:=(show ObjOk P w H h a (.tup (ks.map kV)) from ok a _ e)
 exact⟨o,its.toArray,n,h1,h2,h3,by simpa using items_are r⟩
theorem dt_rd {kvs:List (List Key×V)} (ok:HOk P w H h) (e:Rd H a (.dT kvs)):kvs.length≤sizeLine∧(a == sysModules)=false ∧
  ∃xs,KT H kvs xs∧h.DictOfH (tupleKind (mixKind P w)) a xs:=by
 obtain⟨z,y,xs,r,o,es,ep,h1,h2,h3,h4,h5⟩:=(show ObjOk P w H h a (.dT kvs) from rd_of ok e)
 refine⟨z,y,xs,r,o,es,ep,h1,h2,h3,h4,fun x hx=>?_,h5⟩
 have all:∀{l:List (List Key×V)}{m:List (List Key×Addr×Value)},KT H l m→∀x∈m,(tupleKind (mixKind P w)).is h x.1 x.2.1:=by
  intro l m q
  induction q with
  | nil=>intro x hx;exact nomatch hx
  | @cons p q ps qs hq t ih=>
   intro x hx
   rcases List.mem_cons.mp hx with e | hx
   ·subst e
    exact key_of ok (by rw [← hq.1];exact hq.2.1)
   ·exact ih x hx
 exact all r x hx
theorem dt_of {kvs:List (List Key×V)} (ok:HOk P w H h) (e:H a=some (.dT kvs)):kvs.length≤sizeLine∧(a == sysModules)=false ∧
  ∃xs,KT H kvs xs∧h.DictOfH (tupleKind (mixKind P w)) a xs:=dt_rd ok (.inl e)
end
noncomputable def DGet (H:Hp) (a:Addr) (y:V) (r:Option V):Prop:=
 (∃kvs k,Rd H a (.dK kvs)∧y=kV k∧r=valV kvs k)∨∃kvs k b,Rd H a (.dT kvs)∧y=.ref b∧H b=some (.tup (k.map kV))∧r=valV kvs k
noncomputable def DPut (H:Hp) (a:Addr) (y v:V) (H':Hp):Prop:=
 (∃kvs k,H a=some (.dK kvs)∧y=kV k∧kvs.length<sizeLine∧H'=upd H a (.dK (putK kvs k v))) ∨
 ∃kvs k b,H a=some (.dT kvs)∧y=.ref b∧H b=some (.tup (k.map kV))∧kvs.length<sizeLine∧H'=upd H a (.dT (putK kvs k v))
theorem DGet.k {H:Hp}{a:Addr}{kvs:List (Key×V)}{k:Key} (e:H a=some (.dK kvs)):DGet H a (kV k) (valV kvs k):=.inl ⟨kvs,k,.inl e,rfl,rfl⟩
theorem DPut.k {H:Hp}{a:Addr}{kvs:List (Key×V)}{k:Key}{v:V} (e:H a=some (.dK kvs)) (hl:kvs.length<sizeLine):DPut H a (kV k) v (upd H a (.dK (putK kvs k v))):=.inl ⟨kvs,k,e,rfl,hl,rfl⟩
section
variable {X:Cx}{pins:List (Addr×Obj)}{σ:St}{H:Hp}{s:Shared}{a:Addr}{y v:V}{u r:Value}{o:Option V}{A:Around}{E:Value→Shared→Prop}
theorem Inv.big (I:Inv X pins σ H s):sysModules<s.heap.objs.size:=by
 have h:mainGlobals<s.heap.objs.size:=(I.mod.glob.keeps I.bk).lt
 exact Nat.lt_trans (by decide) h
theorem d_getItem {Q:Value→Shared→Prop} (hu:A.units+1<cLine) (I:Inv X pins σ H s) (g:DGet H a y (some v)) (ry:RelV y u) (h:∀w' s',Inv X pins σ H s'→RelV v w'→Q w' s') :
  wpAny (model X.prog X.w) A (getItem (.ref a) u) Q E s:=by
 rcases g with ⟨kvs,k,e,ey,l⟩ | ⟨kvs,k,b,e,ey,eb,l⟩
 ·subst ey
  obtain⟨z,hd,vs,rel,dd⟩:=dk_rd I.hok e
  obtain⟨w',hw,rw'⟩:=RelO.some_of (v:=v) (o:=valueAt vs k) (by rw [l];exact rel.val k)
  exact wpAny_getItem_of (kV_is ry) dd.mapOf hw (h w' _ (I.tok _) rw')
 ·subst ey
  cases (show u=Value.ref b from ry)
  obtain⟨z,hd,xs,rel,dd⟩:=dt_rd I.hok e
  obtain⟨w',hw,rw'⟩:=RelO.some_of (v:=v) (o:=(atKey xs k).map (·.2)) (by rw [l];exact rel.val k)
  obtain⟨p,hp,hp2⟩:=Option.map_eq_some_iff.mp hw
  refine wpAny_getItem_heap (tupleKind_room_in1 hu) (key_of I.hok eb) dd hp ?_
  rw [hp2]
  exact h w' _ (I.tok _) rw'
theorem d_notIn {Q:Value→Shared→Prop} (hu:A.units+1<cLine) (I:Inv X pins σ H s) (g:DGet H a y o) (ry:RelV y u) (h:∀s',Inv X pins σ H s'→Q (.bool (!o.isSome)) s') :
  wpAny (model X.prog X.w) A (compareOp .NotIn u (.ref a)) Q E s:=by
 rcases g with ⟨kvs,k,e,ey,l⟩ | ⟨kvs,k,b,e,ey,eb,l⟩
 ·subst ey
  obtain⟨z,hd,vs,rel,dd⟩:=dk_rd I.hok e
  refine wpAny_notIn_of (kV_is ry) hd dd.mapOf ?_
  rw [← (rel.val k).isSome_eq,← l]
  exact h _ (I.tok _)
 ·subst ey
  cases (show u=Value.ref b from ry)
  obtain⟨z,hd,xs,rel,dd⟩:=dt_rd I.hok e
  refine wpAny_notIn_heap (tupleKind_room_in1 hu) (key_of I.hok eb) hd dd ?_
  have q:=(rel.val k).isSome_eq
  rw [Option.isSome_map] at q
  rw [← q,← l]
  exact h _ (I.tok _)
theorem d_write {h':Heap} {t':Nat}{ob:HO} (I:Inv X pins σ H s) (mu:Mut (H a)) (hs:Heap.SameBut a s.heap h') (he:∃q,h'.get? a=some q) (new:ObjOk X.prog X.w (upd H a ob) h' a ob) :
  Inv X pins σ (upd H a ob) { s with heap:=h',toks:=t' }:=
 I.write (x:=a) (e:=a) mu (.inl rfl) (fun b q hb z=>(hs.2 b hb).trans z) he new
theorem dk_new {P:Program}{w:World} {H':Hp} {h':Heap}{kvs:List (Key×V)}{vs:List (Key×Value)} (z:kvs.length≤sizeLine) (hd:(a == sysModules)=false) (rel:KV kvs vs) (dd:h'.DictOf (mixKind P w) a vs) :
  ObjOk P w H' h' a (.dK kvs):=⟨z,hd,vs,rel,dd⟩
theorem d_setItem {H':Hp}{Q:Unit→Shared→Prop} (hu:A.units+1<cLine) (I:Inv X pins σ H s) (g:DPut H a y v H') (ry:RelV y u) (rv:RelV v r) (h:∀s',Inv X pins σ H' s'→Q () s') :
  wpAny (model X.prog X.w) A (setItem (.ref a) u r) Q E s:=by
 rcases g with ⟨kvs,k,e,ey,l,eH⟩ | ⟨kvs,k,b,e,ey,eb,l,eH⟩
 ·subst ey eH
  obtain⟨z,hd,vs,rel,dd⟩:=dk_of I.hok e
  have hz:vs.length≤sizeLine:=by rw [← rel.length];exact z
  have hl:(putK kvs k v).length≤sizeLine:=by have:=length_putK kvs k v;omega
  refine wpAny_setItem_pairs (hsz:=hz) (kV_is ry) dd fun h' dd' hs=>h _ ?_
  have he:∃q,h'.get? a=some q:=let ⟨q,_,_,hq,_⟩:=dd';⟨q,hq⟩
  exact d_write I (by rw [e];exact True.intro) hs he (dk_new hl hd (rel.put k rv) dd')
 ·subst ey eH
  cases (show u=Value.ref b from ry)
  obtain⟨z,hd,xs,rel,dd⟩:=dt_of I.hok e
  have hz:xs.length≤sizeLine:=by rw [← Paired.length rel];exact z
  have hl:(putK kvs k v).length≤sizeLine:=by have:=length_putK kvs k v;omega
  refine wpAny_setItem_heap (hsz:=hz) (tupleKind_room_in1 hu) (key_of I.hok eb) dd fun h' dd' hs=>h _ ?_
  obtain⟨q,es,ep,hq,h2,h3,h4,_,h5⟩:=dd'
  refine d_write I (by rw [e];exact True.intro) hs ⟨q,hq⟩ ⟨hl,hd,_,(rel.put k eb rv).keeps fun c ys ec=>?_,q,es,ep,hq,h2,h3,h4,h5⟩
  rw [upd_ne (ne_of ec e (fun z=>nomatch z))]
  exact ec
end
section
variable {X:Cx}{pins:List (Addr×Obj)}{σ:St}{H:Hp}{s:Shared}{a:Addr}{kvs:List (Key×V)}{k:Key}{u:Value}{A:Around}{E:Value→Shared→Prop}
end
noncomputable def NoSl (i:Expr):Prop:=∀ov iv,subscripted i false ov iv=operate [ov,iv] (getItem ov iv)
theorem subD_of {prog:Program}{w:World}{A:Around}{E:Value→Shared→Prop}{s:Shared}{env:Env}{value slice:Expr}{pos:Pos}{T id:String}{Q:Value→Shared→Prop}
  (hl:typeLookup (.type T) "__getitem__"=pure (some (.builtin id))) (hs:NoSl slice)
  (h:wpAny (model prog w) A (eval value env) (fun o s₁=>wpAny (model prog w) A (eval slice env) (fun i s₂=>s₂.TypeIs o T∧wpAny (model prog w) A (getItem o i) Q E s₂) E s₁) E s) :
  wpAny (model prog w) A (eval (.Subscript value slice pos) env) Q E s:=by
 refine Subscript_ (wpAny_mono h (fun o s₁ h₁=>wpAny_mono h₁ (fun i s₂ h₂=>?_) fun _ _ x=>x) fun _ _ x=>x)
 obtain⟨hT,h₂⟩:=h₂
 unfold subscriptTail
 refine wpAny_bind ?_
 rw [getitemInPython_of_ne hT.not_modules]
 refine wpAny_bind (wpAny_specialOf hT hl ?_)
 have fin:wpAny (model prog w) A (subscripted slice false o i) (fun r s₃=>wpAny (model prog w) A (letTemporaryGo value o r >>= fun _=>pure r) Q E s₃) E s₂:=by
  rw [hs o i]
  exact wpAny_operating (wpAny_mono h₂ (fun r s₃ h₃=>wpAny_bind (wpAny_letTemporaryGo (wpAny_pure h₃))) fun _ _ x=>x)
 first
  | exact wpAny_pure (wpAny_bind fin)
  | exact wpAny_bind (wpAny_pure (wpAny_bind fin))
  | exact wpAny_bind fin
theorem dict_typeIs {X:Cx}{pins:List (Addr×Obj)}{σ:St}{H:Hp}{s:Shared}{a:Addr}{y:V}{o:Option V} (I:Inv X pins σ H s) (g:DGet H a y o):s.TypeIs (.ref a) "dict":=by
 rcases g with ⟨kvs,k,e,_,_⟩ | ⟨kvs,k,b,e,_,_,_⟩
 ·obtain⟨_,_,vs,_,dd⟩:=dk_rd I.hok e
  exact dd.typeIs
 ·obtain⟨_,_,xs,_,dd⟩:=dt_rd I.hok e
  exact dd.typeIs
noncomputable def tDGet (td ty:TE):TE:=fun σ H Q=>td σ H fun x H1=>ty σ H1 fun y H2=>∃a v,x=.ref a∧DGet H2 a y (some v)∧Q v H2
noncomputable def tDNotIn (ty td:TE):TE:=fun σ H Q=>ty σ H fun y H1=>td σ H1 fun x H2=>∃a o,x=.ref a∧DGet H2 a y o∧Q (.bl (!o.isSome)) H2
noncomputable def sDPut (td ty tv:TE):TS:=fun D σ H=>tv σ H fun v H1=>td σ H1 fun x H2=>ty σ H2 fun y H3=>∃a H4,x=.ref a∧DPut H3 a y v H4∧D.nx σ H4
section
variable {X:Cx}{o i e value:Expr} {pos pos' tpos:Pos}{td ty tv:TE}
theorem pe_dget (hu:X.A.units+1<cLine) (ho:PE X o td) (hi:PE X i ty) (hs:NoSl i):PE X (.Subscript o i pos) (tDGet td ty):=by
 intro pins s σ H Q I h
 refine subD_of PySem.F.slot_dict_getitem.lookup hs (thn (ho pins s σ H _ I h) fun u s1 ⟨x,H1,I1,rx,q1⟩=>thn (hi pins s1 σ H1 _ I1 q1) fun iv s2 ⟨y,H2,I2,ry,a,v,ex,g,q2⟩=>?_)
 subst ex
 obtain rfl:u=Value.ref a:=rx
 exact⟨dict_typeIs I2 g,d_getItem hu I2 g ry fun w' s3 I3 rw'=>⟨v,H2,I3,rw',q2⟩⟩
theorem pc_dnotin (hu:X.A.units+1<cLine) (hi:PE X i ty) (ho:PE X o td):PC X .NotIn i o (tDNotIn ty td):=by
 intro pins s σ H Q I h
 refine thn (hi pins s σ H _ I h) fun iv s1 ⟨y,H1,I1,ry,q1⟩=>thn (ho pins s1 σ H1 _ I1 q1) fun u s2 ⟨x,H2,I2,rx,a,ov,ex,g,q2⟩=>?_
 subst ex
 obtain rfl:u=Value.ref a:=rx
 exact d_notIn hu I2 g ry fun s3 I3=>⟨.bl (!ov.isSome),H2,I3,rfl,q2⟩
theorem ps_dput (hu:X.A.units+1<cLine) (ho:PE X o td) (hi:PE X i ty) (hv:PE X value tv) (hs:swapsWith value (some (.Subscript o i pos')) pos.line X.env=pure false) :
  PS X (.Assign [.Subscript o i pos'] value pos) (sDPut td ty tv):=by
 intro pins s σ H D I h
 refine wpAny_Assign_Subscript (thn (hv pins s σ H _ I h) fun r s1 ⟨v,H1,I1,rv,q1⟩=>thn (ho pins s1 σ H1 _ I1 q1) fun u s2 ⟨x,H2,I2,rx,q2⟩=>thn (hi pins s2 σ H2 _ I2 q2) fun iv s3 ⟨y,H3,I3,ry,a,H4,ex,g,q3⟩=>?_) hs
 subst ex
 obtain rfl:u=Value.ref a:=rx
 exact d_setItem hu I3 g ry rv fun s4 I4=>⟨σ,H4,I4,q3⟩
end
theorem dk_empty {P:Program}{w:World}{H:Hp} (h:Heap) (hb:sysModules<h.objs.size):ObjOk P w H (h.push { cls:=.type "dict",data:=.dict #[] }) h.objs.size (.dK []):=
 ⟨Nat.zero_le _,beq_eq_false_iff_ne.mpr (Ne.symm (Nat.ne_of_lt hb)),[],.nil,Heap.DictOf.new h⟩
noncomputable def tDNewK:TE:=fun _ H Q=>∀p,H p=none→Q (.ref p) (upd H p (.dK []))
section
variable {X:Cx}{pos:Pos}
theorem pe_dnewK:PE X (.Dict [] [] pos) tDNewK:=fun pins s σ H Q I h=>
 wpAny_Dict_empty ⟨.ref s.heap.objs.size,_,I.laid (a:=s.heap.objs.size) (o:=.dK []) (t':=s.toks) (fun _ _ q=>Heap.get?_push_of_some _ q) (Nat.le_refl _) (dk_empty s.heap I.big),rfl,h _ (I.hok.fresh (Nat.le_refl _))⟩
end
structure M1 (X:Cx) (o:Expr) (m:Str) (apos:Pos) (e:Expr) (cpos:Pos):Prop where
 base:attributeBase o m X.env (eval o X.env)=eval o X.env
 few:((backTo cpos (starEach [e] X.env)).all (fun x=>!x.1) && (backToKw cpos (keywordEach [] X.env)).all (fun x=>x.1.isSome)
  && decide (([e]:List Expr).length+([]:List Keyword).length+(if ([]:List Keyword).isEmpty then 0 else 1)<30))=true
 line:(apos.endLine == cpos.line)=true
 trees:backTo cpos (starEach [e] X.env)=[(false,eval e X.env)]
structure M2 (X:Cx) (o:Expr) (m:Str) (apos:Pos) (e f:Expr) (cpos:Pos):Prop where
 base:attributeBase o m X.env (eval o X.env)=eval o X.env
 few:((backTo cpos (starEach [e,f] X.env)).all (fun x=>!x.1) && (backToKw cpos (keywordEach [] X.env)).all (fun x=>x.1.isSome)
  && decide (([e,f]:List Expr).length+([]:List Keyword).length+(if ([]:List Keyword).isEmpty then 0 else 1)<30))=true
 line:(apos.endLine == cpos.line)=true
 trees:backTo cpos (starEach [e,f] X.env)=[(false,eval e X.env),(false,eval f X.env)]
noncomputable def IsD (H:Hp) (a:Addr):Prop:=(∃kvs,Rd H a (.dK kvs))∨∃kvs,Rd H a (.dT kvs)
theorem isD_at {X:Cx}{pins:List (Addr×Obj)}{σ:St}{H:Hp}{s:Shared}{a:Addr} (I:Inv X pins σ H s) (d:IsD H a) :
  s.TypeIs (.ref a) "dict"∧(∀b,Value.ref a=.ref b→∃ob,s.heap.get? b=some ob∧ob.dict=none)∧(a == sysModules)=false:=by
 rcases d with ⟨kvs,e⟩ | ⟨kvs,e⟩
 ·obtain⟨_,hd,vs,_,dd⟩:=dk_rd I.hok e
  refine⟨dd.typeIs,fun b q=>?_,hd⟩
  cases q
  obtain⟨ob,_,_,h1,h2,_⟩:=dd
  exact⟨ob,h1,h2.2.1⟩
 ·obtain⟨_,hd,xs,_,dd⟩:=dt_rd I.hok e
  refine⟨dd.typeIs,fun b q=>?_,hd⟩
  cases q
  obtain⟨ob,_,_,h1,h2,_⟩:=dd
  exact⟨ob,h1,h2.2.1⟩
section
variable {X:Cx}{pins:List (Addr×Obj)}{σ:St}{H:Hp}{s:Shared}{a:Addr}{y d:V}{u r:Value}{o:Option V}{A:Around}{E:Value→Shared→Prop}
theorem d_get2 {Q:Value→Shared→Prop} (hu:A.units+1<cLine) (I:Inv X pins σ H s) (g:DGet H a y o) (ry:RelV y u) (rd:RelV d r) (h:∀w' s',Inv X pins σ H s'→RelV (o.getD d) w'→Q w' s') :
  wpAny (model X.prog X.w) A (call (.builtin "dict.get") [.ref a,u,r]) Q E s:=by
 rcases g with ⟨kvs,k,e,ey,l⟩ | ⟨kvs,k,b,e,ey,eb,l⟩
 ·subst ey
  obtain⟨z,hd,vs,rel,dd⟩:=dk_rd I.hok e
  refine call_meetsIn PySem.F.slot_dict_get dd.typeIs PySem.F.entry_dict_get (PySem.F.args_dict_get_3 _ _ _) (meets_dict_get_default (mixKind X.prog X.w) a (kV_is ry) hd r) ⟨_,dd.mapOf,h _ _ (I.tok _) ?_⟩
  rw [l]
  exact(rel.val k).getD rd
 ·subst ey
  cases (show u=Value.ref b from ry)
  obtain⟨z,hd,xs,rel,dd⟩:=dt_rd I.hok e
  refine call_meetsIn PySem.F.slot_dict_get dd.typeIs PySem.F.entry_dict_get (PySem.F.args_dict_get_3 _ _ _) (meetsH_dict_get_default (tupleKind (mixKind X.prog X.w)) a b hd r) ⟨tupleKind_room_in1 hu,k,xs,key_of I.hok eb,dd,h _ _ (I.tok _) ?_⟩
  rw [l]
  exact(rel.val k).getD rd
end
noncomputable def tDGet2 (td ty tx:TE):TE:=fun σ H Q=>td σ H fun x H1=>∃a,x=.ref a∧IsD H1 a∧ty σ H1 fun y H2=>tx σ H2 fun z H3=>∃o,DGet H3 a y o∧Q (o.getD z) H3
section
variable {X:Cx}{o e f:Expr}{apos cpos:Pos}{td ty tx:TE}
theorem pe_dget2 (hu:X.A.units+1<cLine) (ho:PE X o td) (he:PE X e ty) (hf:PE X f tx) (m:M2 X o "get" apos e f cpos):PE X (.Call (.Attribute o "get" apos) [e,f] [] cpos) (tDGet2 td ty tx):=by
 intro pins s σ H Q I h
 refine wpAny_Call_method m.base m.few m.line PySem.F.plainAttrs_dict PySem.F.slot_dict_get PySem.F.type_dict_get (thn (ho pins s σ H _ I h) fun u s1 ⟨x,H1,I1,rx,a,ex,d,q1⟩=>?_)
 subst ex
 obtain rfl:u=Value.ref a:=rx
 obtain⟨t1,t2,_⟩:=isD_at I1 d
 refine⟨t1,t2,?_⟩
 rw [m.trees]
 refine Calls.callWith_builtin rfl (Calls.evalArgs_plain (Calls.spliced_cons (thn (he pins s1 σ H1 _ I1 q1) fun iv s2 ⟨y,H2,I2,ry,q2⟩=>
  Calls.spliced_cons (thn (hf pins s2 σ H2 _ I2 q2) fun fv s3 ⟨z,H3,I3,rz,ov,g,q3⟩=>Calls.spliced_nil ?_))))
 exact d_get2 hu I3 g ry rz fun w' s4 I4 rw'=>⟨_,H3,I4,rw',q3⟩
end
section
variable {X:Cx}{pins:List (Addr×Obj)}{σ:St}{H:Hp}{s:Shared}{a:Addr}{kvs:List (Key×V)}{A:Around}{E:Value→Shared→Prop}
end
section
variable {X:Cx}{pins:List (Addr×Obj)}{σ:St}{H:Hp}{s:Shared}{a:Addr}{y:V}{u:Value}{A:Around}{E:Value→Shared→Prop}
end
end L2
namespace Att
open PySem PySem.W PySem.Calls PyProof.Rows
end Att
namespace L2
open PySem PySem.Spec PyProof.Rows
end L2
namespace L2
open PySem PySem.Spec PyProof.Rows
end L2
namespace L2
open PySem PySem.Spec PyProof.Rows
section
variable {X:Cx}
end
section
variable {κ:Type} [DecidableEq κ]
end
end L2
namespace L2
open PySem PySem.Spec PyProof.Rows
theorem zeg:typeLookup (.type "list_reverseiterator") (Str.ofString "__len__")=pure none:=by with_unfolding_all rfl
theorem zfm:typeLookup (.type "list_reverseiterator") (Str.ofString "__length_hint__")=pure (some (.builtin "list_reverseiterator.__length_hint__")):=by with_unfolding_all rfl
theorem zeh:splitId "list_reverseiterator.__length_hint__"=some ("list_reverseiterator","__length_hint__"):=by with_unfolding_all rfl
theorem zgo:isSubtype (.type "list_reverseiterator") (.type "list_reverseiterator")=pure true:=by with_unfolding_all rfl
theorem zei {prog:Program}{w:World}{A:Around}{E:Value→Shared→Prop}{s:Shared}{I:Addr}{Q:Bool→Shared→Prop} (ty:s.TypeIs (.ref I) "list_reverseiterator") (q:Q false s):wpAny (model prog w) A (Builtin.List.listLengthHint (.ref I)) Q E s:=by
 unfold Builtin.List.listLengthHint
 refine wpAny_bind (wpAny_specialOf ty zeg ?_)
 dsimp only
 rw [if_neg (by with_unfolding_all decide)]
 simp only [Option.isSome_none,Bool.false_eq_true,↓reduceIte]
 refine wpAny_bind (wpAny_specialOf ty zfm ?_)
 dsimp only
 rw [zeh]
 dsimp only
 refine wpAny_bind (wpAny_isInstance ty zgo ?_)
 simp only [Bool.not_true,Bool.false_eq_true,↓reduceIte]
 rw [if_pos (by with_unfolding_all decide),if_neg (by with_unfolding_all decide)]
 exact wpAny_pure q
section
variable {X:Cx}
end
end L2
namespace L2
open PySem PySem.Spec PyProof.Rows
section
variable {X:Cx}
theorem zfn:MtR X "str.find" (fun x vs H Q=>∃a b,x=.str a∧vs=[.str b]∧Q (.int (Txt.find a b)) H):=by
 intro pins s σ H x xs v us Q I rx rs h
 obtain⟨a,b,rfl,rfl,q⟩:=h
 obtain⟨t,rfl⟩:=rx
 obtain⟨u,rfl,w1⟩:=vals1 rs
 obtain⟨t',rfl⟩:=w1
 exact SC.find ⟨.int (Txt.find a b),H,I.tok _,⟨_,rfl⟩,q⟩
theorem Kl {ys:List Str}:∀{us:List Value},Vals (ys.map V.str) us→StrsAre us ys:=by
 induction ys with
 | nil=>intro us r;rw [List.map_nil] at r;cases r;exact .nil
 | cons n ns ih=>
  intro us r
  rw [List.map_cons] at r
  cases r with
  | cons r1 r2=>
   obtain⟨t,e⟩:=r1
   subst e
   exact .cons n t (ih r2)
noncomputable def rJoin (K:PySem.W.Frag):V→List V→Hp→VK→Prop:=fun x vs H Q=>∃a p ys,x=.str a∧vs=[.ref p]∧SqL K H p (ys.map V.str)∧(ys.map (·.length)).sum+ys.length*a.length≤16777216∧Q (.str (Txt.join a ys)) H
theorem V3:MtR X "str.join" (rJoin X.K):=by
 intro pins s σ H x xs v us Q I rx rs h
 obtain⟨a,p,ys,rfl,rfl,hq,hz,q⟩:=h
 obtain⟨t,rfl⟩:=rx
 obtain⟨u,rfl,w1⟩:=vals1 rs
 cases w1
 obtain⟨its,r,pl,_⟩:=I.list hq
 exact PyProof.Rows.join_list pl.isList (by simpa using Kl r) hz fun t' k=>⟨.str (Txt.join a ys),H,I.tok _,⟨_,rfl⟩,q⟩
theorem zfo:OpR X (binaryOp .Mult) (fun x y H Q=>∃a n,x=.str a∧y=.int n∧MulOk a n∧Q (.str (Txt.mul a n)) H):=by
 intro pins s σ H x y v u Q I rx ry h
 obtain⟨a,n,rfl,rfl,ok,q⟩:=h
 obtain⟨t,rfl⟩:=rx
 obtain⟨t',rfl⟩:=ry
 exact SB.mul ok fun _ _=>⟨.str (Txt.mul a n),H,I.tok _,⟨_,rfl⟩,q⟩
noncomputable def Its (x:Str):It:=⟨fun i _=>i<x.cps.size,fun i H v H'=>H'=H∧∃c,x.cps[i]?=some c∧v=.str ⟨#[c]⟩,fun i _=>x.cps.size≤i⟩
theorem Y7 {P:Program}{w:World}{K:PySem.W.Frag}{tg:Expr} (it:Addr) (x:Str) (t:Tok) (T:String) (hT:["enumerate","zip","dict_itemiterator","dict_reverseitemiterator","odict_iterator","itertools.zip_longest","itertools.pairwise"].contains T=false)
  (W:∀A:Around,A.handled=none→Walks P w A it [it] [it] x.cps.size (SignAt x) (fun i h=>h.IsStrIter it T x t i))
  (hself:∀(A:Around) (i:Nat) (s:Shared) (Q:Value→Shared→Prop) (E:Value→Shared→Prop),s.heap.IsStrIter it T x t i→Q (.ref it) s→wpAny (model P w) A (pyIter (.ref it)) Q E s) :
  Turn P w K tg (Its x) [it] it (fun i h=>i≤x.cps.size∧h.IsStrIter it T x t i) where
 mem:=by simp
 obj:=fun i h st b hb=>by
  have e:b=it:=by simpa using hb
  subst e
  obtain⟨_,o,e,c,d⟩:=st
  exact⟨o,e,fun v z=>by rw [d] at z;cases z⟩
 keep:=fun i h h' st k=>by
  obtain⟨hi,o,e,c,d⟩:=st
  exact⟨hi,o,k it (by simp) o e,c,d⟩
 item:=by
  intro X hP hw hK hc i pins s σ H E I hf st hg
  subst hP hw hK
  obtain⟨f0,f1,f2,f3,f4,f5⟩:=hf it (by simp)
  refine(W X.A (I.ok.hd hc)).item i s _ _ hg st.2 fun v h' tk hv st' kk=>?_
  obtain⟨c,u,hcc,rfl⟩:=hv
  have I1:Inv X pins σ H { s with heap:=h',toks:=tk }:=I.turned (fun b o hb e=>kk b o (by simpa using hb) e) f0 f1 f3 f4 f5
  obtain⟨o,e,cc,d⟩:=id st'
  exact⟨_,rfl,go_of (s:={ s with heap:=h',toks:=tk }) e cc d hT ⟨.str ⟨#[c]⟩,H,I1,⟨u,rfl⟩,⟨rfl,c,hcc,rfl⟩,⟨hg,st'⟩,fun b hb=>(hf b hb).1⟩⟩
 done:=by
  intro X hP hw hK hc i pins s σ H E I hf st hg
  subst hP hw hK
  obtain⟨f0,f1,f2,f3,f4,f5⟩:=hf it (by simp)
  have e:i=x.cps.size:=Nat.le_antisymm st.1 hg
  subst e
  exact(W X.A (I.ok.hd hc)).done s _ _ st.2 fun h' tk kk=>⟨rfl,I.turned (t':=tk) (fun b o hb e=>kk b o (by simpa using hb) e) f0 f1 f3 f4 f5⟩
 self:=fun A i s Q E st h=>hself A i s Q E st.2 h
noncomputable def zhd (tl:TE):TI:=fun σ H R=>tl σ H fun x H1=>∃a,x=.str a∧R (Its a) H1
theorem zc8 {tg l:Expr}{tl:TE} (hl:PE X l tl):PI X tg l (zhd tl):=by
 intro pins s σ H R I h
 refine thn (hl pins s σ H _ I h) fun v s1 ⟨x,H1,I1,r1,q1⟩=>?_
 obtain⟨a,rfl,q⟩:=q1
 obtain⟨t,rfl⟩:=r1
 have fp:∀b∈[s1.heap.objs.size],FpOk X pins H1 b:=fun b hb=>by
  have e:b=s1.heap.objs.size:=by simpa using hb
  subst e
  exact I1.fpOk (Nat.le_refl _) (I1.hok.fresh (Nat.le_refl _))
 cases ha:a.cps.all (·<128)
 ·exact wpAny_pyIter_wide ha ⟨s1.heap.objs.size,[s1.heap.objs.size],_,_,H1,rfl,I1.kept (t':=s1.toks) fun b o e=>Heap.get?_push_of_some _ e,
   Y7 _ a t "str_iterator" (by decide) (fun A hA=>Walks.strWide hA _ a t) (fun A i s Q E st h=>wpAny_pyIter_striter_wide st h),⟨Nat.zero_le _,_,Heap.get?_push_size _ rfl,rfl,rfl⟩,fp,q⟩
 ·exact wpAny_pyIter_ascii ha ⟨s1.heap.objs.size,[s1.heap.objs.size],_,_,H1,rfl,I1.kept (t':=s1.toks) fun b o e=>Heap.get?_push_of_some _ e,
   Y7 _ a t "str_ascii_iterator" (by decide) (fun A hA=>Walks.strAscii hA _ a t) (fun A i s Q E st h=>wpAny_pyIter_striter_ascii st h),⟨Nat.zero_le _,_,Heap.get?_push_size _ rfl,rfl,rfl⟩,fp,q⟩
theorem zej {x:Str}{g:TG}{tb:TS}{D:Ends}{σ:St}{H:Hp} (Pv:Nat→St→Hp→Prop) (h0:Pv 0 σ H)
  (hs:∀i c σ H,x.cps[i]?=some c→Pv i σ H→g (.str ⟨#[c]⟩) σ H fun σ2 H2=>tb { D with nx:=Pv (i+1),ct:=Pv (i+1),bk:=D.nx } σ2 H2) (hd:∀σ H,Pv x.cps.size σ H→D.nx σ H) :
  ∃W:Nat→Nat→St→Hp→Prop,(∃m,W 0 m σ H)∧∀i m σ H,W i m σ H →
   ((Its x).stop i H∧D.nx σ H)∨((Its x).go i H∧∃N:St→Hp→Prop,(∀σ' H',N σ' H'→∃m',m'<m∧W (i+1) m' σ' H')∧∀v H',(Its x).yld i H v H'→g v σ H' fun σ2 H2=>tb { D with nx:=N,ct:=N,bk:=D.nx } σ2 H2):=by
 refine⟨fun i m σ H=>m=x.cps.size-i∧i≤x.cps.size∧Pv i σ H,⟨x.cps.size,by simp,Nat.zero_le _,h0⟩,?_⟩
 rintro i m σ H ⟨rfl,hi,p⟩
 by_cases hlt:i<x.cps.size
 ·refine .inr ⟨hlt,Pv (i+1),fun σ' H' p'=>⟨x.cps.size-(i+1),by omega,rfl,hlt,p'⟩,fun v H' y=>?_⟩
  obtain⟨e,c,hc,e2⟩:=y
  subst e e2
  exact hs i c σ _ hc p
 ·have e:i=x.cps.size:=by omega
  subst e
  exact .inl ⟨Nat.le_refl _,hd σ H p⟩
theorem zbq {prog:Program}{w:World}{A:Around}{E:Value→Shared→Prop}{s:Shared}{I:Addr}{fp wr:List Addr}{G:Array GenState→Array GenState→Prop}{n:Nat}{P:Nat→Value→Prop}{St:Nat→Shared→Prop}{Q:List Value→Shared→Prop}
  (W:WalksS prog w A.in1 I fp wr G n P St) (hT:∀i s,St i s→s.TypeIs (.ref I) "list_reverseiterator") (hst:St 0 s) (hfp:∀b∈fp,b<s.heap.objs.size) (hI:I∈fp)
  (hQ:∀s' acc,Moved wr G s s'→ItemsOf P acc n→Q acc.toList s') (hn:n≤sizeLine):wpAny (model prog w) A (collect (.ref I)) Q E s:=by
 have hSf:s.heap.objs.size ∉ fp:=fun hm=>Nat.lt_irrefl _ (hfp _ hm)
 have hSI:s.heap.objs.size≠I:=fun e=>hSf (e ▸ hI)
 unfold collect
 refine wpAny_bind (wpAny_runValue (codeAny_builtin F.entry_proto_collect ?_))
 rw [Around.under_plainId F.plain_proto_collect _]
 show wpAny _ A.in1 (newList [] >>= fun l=>again (.builtin "list.__iadd__" ⟨[l,.ref I],[]⟩)) _ _ s
 refine wpAny_bind (wpAny_newObj_type ?_)
 refine wpAny_pure ⟨plainId_quiet F.plain_list_iadd _,codeAny_builtin F.entry_list_iadd ?_⟩
 rw [Around.under_plainId F.plain_list_iadd _]
 have hst₁:=W.frame 0 s (s.heap.push { cls:=.type "list",data:=.seq ([]:List Value).toArray }) s.toks hst (Nat.le_refl _) fun b _ o e=>Heap.get?_push_of_some _ e
 have hS₁:(s.heap.push { cls:=.type "list",data:=.seq ([]:List Value).toArray }).get? s.heap.objs.size=some { cls:=.type "list",data:=.seq ([]:List Value).toArray }:=Heap.get?_push_size _ rfl
 have h1:Builtin.List.listSameRef (.ref s.heap.objs.size) (.ref I)=false:=by simp [Builtin.List.listSameRef,hSI]
 show wpAny _ A.in1 (Builtin.List.listExtendWith (.ref s.heap.objs.size) (.ref I) (.ref s.heap.objs.size)) _ _ _
 unfold Builtin.List.listExtendWith
 refine wpAny_bind (wpAny_typeOf (hT 0 _ hst₁) ?_)
 rw [if_neg (by rw [h1];decide)]
 refine wpAny_bind (W.self 0 _ _ _ hst₁ ?_)
 refine wpAny_bind (wpAny_holding (zei (hT 0 _ hst₁) ?_))
 rw [if_neg (by decide)]
 refine wpAny_pure ⟨plainId_quiet F.plain_extend_loop _,codeAny_extend_loopS W hn _ hSf _ n 0 _ _ _ rfl (Nat.zero_le _) hst₁ hS₁ (ItemsOf.nil P) fun s' acc' c' hm hS' hacc=>?_⟩
 show wpAny _ A (load s.heap.objs.size >>= _) _ _ s'
 refine wpAny_bind (wpAny_load hS' ?_)
 exact wpAny_pure (hQ s' acc' (Moved.drop_new (o:={ cls:=.type "list",data:=.seq ([]:List Value).toArray }) (tk:=s.toks) hm (Nat.le_refl _)) hacc)
theorem zek {prog:Program}{w:World}{A:Around}{E:Value→Shared→Prop}{s:Shared}{x:Str}{t:Tok}{Q:Value→Shared→Prop}
 {I:Addr}{fp wr:List Addr}{G:Array GenState→Array GenState→Prop}{n:Nat}{P:Nat→Value→Prop}{St:Nat→Shared→Prop} (W:WalksS prog w A.in1.in1 I fp wr G n P St) (hT:∀i s,St i s→s.TypeIs (.ref I) "list_reverseiterator") (hst:St 0 s) (hfp:∀b∈fp,b<s.heap.objs.size) (hI:I∈fp)
  (hstr:∀i v,P i v→∃y u,v=Value.str y u)
  (hq:∀s' (l:List (Str×Tok)),Moved wr G s s'→ItemsOf P (strValues l).toArray n→JoinOk x (l.map (·.1))=true∧∀t' k,Q (.str (Txt.join x (l.map (·.1))) t') { s' with toks:=k })
  (hsz:n≤sizeLine) :
  wpAny (model prog w) A (call (.builtin "str.join") [.str x t,.ref I]) Q E s:=by
 refine wpAny_call (codeAny_call_builtin F.slot_str_join.plain F.entry_str_join (F.slot_str_join.check _ _ _ _ _ _ _ _ (typeIs_str _ _ _) (F.args_str_join_2 _ _) ?_))
 rw [join_tree_other]
 refine wpAny_bind (wpAny_typeOf (hT 0 s hst) ?_)
 show wpAny _ A.in1 ((pyIter (.ref I)).tryCatch _ >>= fun it=>collect it >>= fun items=>PySem.joinTail x items) _ _ s
 refine wpAny_bind (wpAny_tryCatch (W.of_in1.self 0 s _ _ hst ?_))
 refine wpAny_bind (zbq W hT hst hfp hI (fun s' acc hm hacc=>?_) hsz)
 obtain⟨l,hl⟩:=exists_strValues acc.toList fun v hv=>by
  obtain⟨j,hj,rfl⟩:=Array.mem_iff_getElem.mp (Array.mem_toList_iff.mp hv)
  exact hstr j _ (hacc.2 j _ (Array.getElem?_eq_getElem hj))
 rw [← hl]
 have hacc':ItemsOf P (strValues l).toArray n:=by rw [hl];simpa using hacc
 obtain⟨hok,hpost⟩:=hq s' l hm hacc'
 unfold JoinOk at hok
 rw [Bool.not_eq_true'] at hok
 have g:Gives (PySem.joinTail x (strValues l)) (joinMade x l):=by
  have g0:=gives_joinTail x l hok
  cases l with
  | nil=>exact g0
  | cons p r=>cases r with
   | nil=>exact g0
   | cons q r'=>exact g0
 exact g prog w A (wants Q E) s' (post_join l ⟨joinFit_length hok,hpost⟩)
noncomputable def zel (K:PySem.W.Frag) (to:TE) (ta:TA):TE:=fun σ H Q=>to σ H fun x H1=>ta σ H1 fun vs H2=>∃(sep:Str) (l:Addr) (ys:List Str),x=.str sep∧vs=[.ref l]∧SqL K H2 l (ys.map V.str)∧(ys.map (·.length)).sum+ys.length*sep.length≤16777216∧Q (.str (Txt.join sep ys.reverse)) H2
theorem zcq {o a:Expr}{to:TE}{ta:TA}{p2 pos2 apos cpos:Pos} (hc:X.calm=true) (hg2:Gl X "reversed") (hm2:X.mg "reversed"=none) (ho:PE X o to) (ht:∀σ H Q,to σ H Q→to σ H fun x H1=>(∃sep,x=.str sep)∧Q x H1) (ha:PA X [a] ta)
  (hbase:attributeBase o "join" X.env (eval o X.env)=eval o X.env:=by rfl)
  (hfew:((backTo cpos (starEach [.Call (.Name "reversed" p2) [a] [] pos2] X.env)).all (fun x=>!x.1) && (backToKw cpos (keywordEach [] X.env)).all (fun x=>x.1.isSome)
   && decide (([.Call (.Name "reversed" p2) [a] [] pos2]:List Expr).length+([]:List Keyword).length+(if ([]:List Keyword).isEmpty then 0 else 1)<30))=true:=by rfl)
  (hline:(apos.endLine == cpos.line)=true:=by rfl)
  (hs:starEach [.Call (.Name "reversed" p2) [a] [] pos2] X.env=(false,eval (.Call (.Name "reversed" p2) [a] [] pos2) X.env)::starEach [] X.env:=by rfl) (hs2:(backTo cpos (starEach [] X.env)).any (·.1)=false:=by rfl)
  (hs3:starEach [a] X.env=(false,eval a X.env)::starEach [] X.env:=by rfl) (hs4:(backTo pos2 (starEach [] X.env)).any (·.1)=false:=by rfl) :
  PE X (.Call (.Attribute o "join" apos) [.Call (.Name "reversed" p2) [a] [] pos2] [] cpos) (zel X.K to ta):=by
 intro pins s σ H Q I h
 refine wpAny_Call_method_late hbase hfew hline rfl (thn (ho pins s σ H _ I (ht σ H _ h)) fun v s1 ⟨x,H1,I1,r1,⟨sep0,esep⟩,q1⟩=>?_)
 subst esep
 obtain⟨t1,rfl⟩:=r1
 refine⟨"str","str.join",F.plainAttrs_str,F.slot_str_join,F.type_str_join,typeIs_str s1 sep0 t1,(fun b e=>nomatch e),?_⟩
 rw [hs]
 refine Calls.callWith_builtin (by show (false || (backTo cpos (starEach [] X.env)).any (·.1))=false;rw [hs2] <;> rfl) (Calls.evalArgs_plain ?_)
 show wpAny _ _ (spliced ((false,eval (.Call (.Name "reversed" p2) [a] [] pos2) X.env)::backTo cpos (starEach [] X.env))) _ _ s1
 refine Calls.spliced_cons (Call_ (ld_blt I1 hg2 hm2 zcj (PyProof.Rows.callWith_type1 (thn (ha pos2 pins s1 σ H1 _ I1 q1) fun us s2 ⟨vs,H2,I2,r2,q2⟩=>?_) hs3 hs4)))
 obtain⟨sep,l,ys,e0,e,hq,hz,q⟩:=q2
 cases e0
 subst e
 obtain⟨u,rfl,w1⟩:=vals1 r2
 cases w1
 obtain⟨its,v1,p1,z1⟩:=I2.list hq
 have hl:l<s2.heap.objs.size:=by obtain⟨_,_,e,_⟩:=p1;exact Heap.lt_size e
 have hlen:=v1.length
 refine call_reversed_list p1.isList ?_
 refine Calls.spliced_nil ?_
 have hne:l≠s2.heap.objs.size:=Nat.ne_of_lt hl
 have hsz:(s2.heap.push (revObj l ((its.toArray.size:Int)-1))).objs.size=s2.heap.objs.size+1:=Heap.size_push ..
 have hr:(s2.heap.push (revObj l ((its.toArray.size:Int)-1))).get? s2.heap.objs.size=some (revObj l ((its.toArray.size:Int)-1)):=Heap.get?_push_size _ rfl
 have W:=(PySem.Walks.listRev (prog:=X.prog) (w:=X.w) (A:=X.A.in1.in1) (I.ok.hd hc) s2.heap.objs.size l hne its.toArray).toS
 have SA:StrsAre its ys:=Kl v1
 obtain⟨ls,els,eys⟩:=strsAre_values SA
 refine zek W (fun i s st=>st.2.1.typeIs) ⟨Nat.zero_le _,⟨_,hr,rfl,?_⟩,?_⟩ (fun b hb=>?_) (by simp) (fun i v hv=>?_) (fun s' lv m it=>?_) (by rw [List.size_toArray];omega)
 ·show Data.fields #[Value.ref l,rawInt ((its.toArray.size:Int)-1)]=Data.fields #[Value.ref l,rawInt ((its.toArray.size:Int)-1-((0:Nat):Int))]
  rw [show (its.toArray.size:Int)-1-((0:Nat):Int)=(its.toArray.size:Int)-1 by omega]
 ·obtain⟨o,ho,rr⟩:=p1.isList
  exact⟨o,Heap.get?_push_of_some _ ho,rr⟩
 ·show b<(s2.heap.push (revObj l ((its.toArray.size:Int)-1))).objs.size
  rw [hsz]
  simp only [List.mem_cons,List.not_mem_nil,or_false] at hb
  rcases hb with e | e
  ·rw [e];exact Nat.lt_succ_self _
  ·rw [e];exact Nat.lt_succ_of_lt hl
 ·have hm:=List.mem_of_getElem? (by simpa using hv:its[its.toArray.size-1-i]?=some v)
  rw [els] at hm
  obtain⟨pr,_,e⟩:=List.mem_map.mp hm
  exact⟨_,_,e.symm⟩
 ·have elv:strValues lv=its.reverse:=by
   apply List.ext_getElem?
   intro j
   have h1:=it.1
   by_cases hj:j<its.length
   ·have hj2:j<(strValues lv).length:=by have:(strValues lv).toArray.size=its.toArray.size:=h1;simp only [List.size_toArray] at this;omega
    have:=it.2 j (strValues lv)[j] (by simp [List.getElem?_eq_getElem hj2])
    rw [List.size_toArray] at this
    rw [List.getElem?_reverse hj,List.getElem?_eq_getElem hj2]
    simpa using this.symm
   ·have h2:(strValues lv).length=its.length:=by simpa using h1
    rw [List.getElem?_eq_none (by omega),List.getElem?_eq_none (by rw [List.length_reverse];omega)]
  have em:lv.map (·.1)=ys.reverse:=by
   have e1:strValues lv=strValues ls.reverse:=by rw [elv,els];simp [strValues]
   have e2:∀(a b:List (Str×Tok)),strValues a=strValues b→a.map (·.1)=b.map (·.1):=by
    intro a
    induction a with
    | nil=>intro b e;cases b with
     | nil=>rfl
     | cons _ _=>simp [strValues] at e
    | cons p r ih=>intro b e;cases b with
     | nil=>simp [strValues] at e
     | cons p' r'=>
      simp only [strValues,List.map_cons,List.cons.injEq] at e
      have e3:=e.1
      injection e3 with e4 _
      rw [List.map_cons,List.map_cons,e4,ih r' e.2]
   rw [e2 _ _ e1,List.map_reverse,eys]
  refine⟨by rw [em];exact joinOk_of (by rw [List.map_reverse,List.sum_reverse,List.length_reverse];exact hz),fun t' k=>?_⟩
  rw [em]
  have es:({ s' with toks:=k }:Shared)={ s2 with heap:=s'.heap,toks:=k }:=by
   have g:=m.gens
   have d:=m.drawn
   have o:=m.os
   cases s'
   simp only at g d o
   subst g d o
   rfl
  rw [es]
  have kp:∀b u,s2.heap.get? b=some u→s'.heap.get? b=some u:=fun b u e=>m.heap b u (by
   have:=Heap.lt_size e
   simp only [List.mem_cons,List.not_mem_nil,or_false]
   exact fun z=>by rw [z] at this;exact Nat.lt_irrefl _ this) (Heap.get?_push_of_some _ e)
  exact⟨.str (Txt.join sep0 ys.reverse),H2,I2.kept (t':=k) kp,⟨_,rfl⟩,q⟩
end
end L2
namespace L2
open PySem PySem.Spec PyProof.Rows PySem.SeqAt
section
variable {X:Cx}
end
end L2
namespace L2
open PySem PySem.Spec PyProof.Rows
theorem zfp {X:Cx}{tb:TS}{body:List Stmt}{h₀:ExceptHandler}{hs:List ExceptHandler}{pos:Pos} (hb:PSs X.nox body tb):PS X (.Try body (h₀::hs) [] [] pos) tb:=by
 intro pins s σ H D I h
 refine wpAny_Try_except (wpAny_mono (hb pins s σ H D (I.wish _) h) (fun fl s1 x=>?_) fun e s' x=>x.elim)
 cases fl with
 | next=>
  obtain⟨σ',H',I',q⟩:=x
  exact wpAny_execs_nil ⟨σ',H',I'.unwish,q⟩
 | brk=>
  obtain⟨σ',H',I',q⟩:=x
  exact⟨σ',H',I'.unwish,q⟩
 | cont=>
  obtain⟨σ',H',I',q⟩:=x
  exact⟨σ',H',I'.unwish,q⟩
 | ret u=>
  obtain⟨v,σ',H',I',r,q⟩:=x
  exact⟨v,σ',H',I'.unwish,r,q⟩
end L2
namespace L2
open PySem PySem.Spec PyProof.Rows
structure Xg (K:PySem.W.Frag) (x qual:Str) (st:Stmt) (f:Addr) (fd:FuncData):Prop where
 ex:∃(oc:Value) (od:Option Addr) (dV kV doc pm:Value) (an:Option Addr) (cdv ct:Value) (osl:Array (Option Value)),fd=PySem.W.fnOf x qual (defArgs st) (defBody st) (defScope st) dV kV doc pm an cdv ct∧K.lookup f=some ⟨oc,od,.func fd,osl⟩∧PySem.W.codeIn K cdv qual=true
section
variable {P:Program}{w:World}{K:PySem.W.Frag}{mg:Str→Option Value}{base:Heap}
theorem Xg.ok {x qual:Str}{st:Stmt}{f:Addr}{fd:FuncData}{N ps:List Str}{k:Nat}{sp:Sp} (F:Xg K x qual st f fd) (S:FnScope N ps (defScope st)) (len:∀vs H Q E,sp vs H Q E→vs.length=ps.length)
  (hbody:∀(cdv:Value) (A:Around) (outer:List Env) (s:Shared) (H:Hp) (vs:List V) (Q:VK) (E:XK),Room k (A.deeper (envOfC qual (defScope st) s.heap.objs.size f cdv))→sp vs H Q E →
   ∃t,PSs (cxOf CX0 P w K mg base N qual (defScope st) f cdv A outer s H E).nox (defBody st) t∧t { nx:=fun _ H'=>Q .non H',rt:=Q } (start N vs) H):FnOk P w K mg base CX0 (k+1) f fd ps sp:=by
 obtain⟨oc,od,dV,kV,doc,pm,an,cdv,ct,osl,rfl,lk,hcd⟩:=F.ex
 refine fn_of lk hcd S len fun A outer s H vs Q E hr hsp=>?_
 obtain⟨t,h,q⟩:=hbody cdv A outer s H vs Q E hr hsp
 exact⟨t,fun pins s1 σ H1 D I h1=>wpAny_mono (h pins s1 σ H1 D (I.wish _) h1) (fun fl s2 x=>by
  cases fl with
  | next=>obtain⟨σ',H',I',q⟩:=x;exact⟨σ',H',I'.unwish,q⟩
  | brk=>obtain⟨σ',H',I',q⟩:=x;exact⟨σ',H',I'.unwish,q⟩
  | cont=>obtain⟨σ',H',I',q⟩:=x;exact⟨σ',H',I'.unwish,q⟩
  | ret u=>obtain⟨v,σ',H',I',r,q⟩:=x;exact⟨v,σ',H',I'.unwish,r,q⟩) fun _ _ z=>z.elim,q⟩
theorem Xg.okE {x qual:Str}{st:Stmt}{f:Addr}{fd:FuncData}{N ps:List Str}{k:Nat}{sp:Sp} (F:Xg K x qual st f fd) (S:FnScope N ps (defScope st)) (len:∀vs H Q E,sp vs H Q E→vs.length=ps.length)
  (hbody:∀(cdv:Value) (A:Around) (outer:List Env) (s:Shared) (H:Hp) (vs:List V) (Q:VK) (E:XK),Room k (A.deeper (envOfC qual (defScope st) s.heap.objs.size f cdv))→sp vs H Q E →
   ∃t,PSs (cxOf (CXE P w) P w K mg base N qual (defScope st) f cdv A outer s H E) (defBody st) t∧t { nx:=fun _ H'=>Q .non H',rt:=Q } (start N vs) H):FnOk P w K mg base (CXE P w) (k+1) f fd ps sp:=by
 obtain⟨oc,od,dV,kV,doc,pm,an,cdv,ct,osl,rfl,lk,hcd⟩:=F.ex
 exact fn_of lk hcd S len fun A outer s H vs Q E hr hsp=>hbody cdv A outer s H vs Q E hr hsp
theorem Zb {x qual:Str}{st:Stmt}{f:Addr}{oc:Value}{od an:Option Addr}{osl:Array (Option Value)}{dV kV doc pm cdv ct:Value} (l:K.lookup f=some ⟨oc,od,.func (PySem.W.fnOf x qual (defArgs st) (defBody st) (defScope st) dV kV doc pm an cdv ct),osl⟩)
  (c:PySem.W.codeIn K cdv qual=true):Xg K x qual st f (PySem.W.fnOf x qual (defArgs st) (defBody st) (defScope st) dV kV doc pm an cdv ct):=⟨⟨oc,od,dV,kV,doc,pm,an,cdv,ct,osl,rfl,l,c⟩⟩
end
noncomputable def zbr (K:PySem.W.Frag) (x qual:Str) (st:Stmt) (ps:List Str) (f:Addr):Prop:=∃fd,Xg K x qual st f fd∧Binds K fd ps []
noncomputable def MtX (CX:CXT) (P:Program) (w:World) (K:PySem.W.Frag) (mg:Str→Option Value) (base:Heap) (k:Nat) (C:Addr) (m:Str) (ps:List Str) (sp:Sp):Prop:=
 ∃f fd,FnOk P w K mg base CX k f fd ps sp∧Cls K C∧Meth K C m f∧Binds K fd ps []
abbrev Mt (P:Program) (w:World) (K:PySem.W.Frag) (mg:Str→Option Value) (base:Heap) (k:Nat) (C:Addr) (m:Str) (ps:List Str) (sp:Sp):Prop:=MtX CX0 P w K mg base k C m ps sp
abbrev MtE (P:Program) (w:World) (K:PySem.W.Frag) (mg:Str→Option Value) (base:Heap) (k:Nat) (C:Addr) (m:Str) (ps:List Str) (sp:Sp):Prop:=MtX (CXE P w) P w K mg base k C m ps sp
noncomputable def MkX (CX:CXT) (P:Program) (w:World) (K:PySem.W.Frag) (mg:Str→Option Value) (base:Heap) (k:Nat) (C:Addr) (ps:List Str) (sp:Sp):Prop:=
 ∃f fd,FnOk P w K mg base CX k f fd ps sp∧Mk K C f∧Binds K fd ps []
noncomputable def tMt (C:Addr) (m:Str) (sp:Sp) (ta:TE) (t:TA):TE:=fun σ H Q=>ta σ H fun x H1=>∃a dx fs,x=.ref a∧H1 a=some (.ins C dx fs)∧fs.lookup m=none∧t σ H1 fun vs H2=>sp (x::vs) H2 Q E0
noncomputable def zk7 (C:Addr) (m:Str) (sp:Sp) (G:St→Value→Hp→Prop) (ta:TE) (t:TA):TE:=fun σ H Q=>ta σ H fun x H1=>∃a dx fs,x=.ref a∧H1 a=some (.ins C dx fs)∧fs.lookup m=none∧t σ H1 fun vs H2=>sp (x::vs) H2 Q fun C _ H'=>G σ C H'
noncomputable def tMk (C:Addr) (sp:Sp) (t:TA):TE:=fun σ H Q=>t σ H fun vs H1=>∀x dx,H1 x=none→H1 dx=none→dx≠x→sp (.ref x::vs) (upd (upd H1 dx (.own x)) x (.ins C dx [])) (fun v H2=>v=.non∧Q (.ref x) H2) E0
section
variable {X:Cx}{CX:CXT}{k:Nat}{C:Addr}{x m:Str}{ps:List Str}{sp:Sp}{p pos apos:Pos}{e o:Expr}{es:List Expr}{ta:TE}{t:TA}{G:St→Value→Hp→Prop}
theorem zem {f a:Addr}{fd:FuncData}{pins:List (Addr×Obj)}{σ:St}{H:Hp}{s:Shared}{Q:VK}{E:XK}{us:List Value}{vs:List V} (F:FnOk X.prog X.w X.K X.mg X.base CX k f fd ps sp) (hr:Room k X.A) (b:Binds X.K fd ps [])
  (hx:∀e s',CX X.stack H s E e s'→X.xe e s') (I:Inv X pins σ H s) (r:Vals vs us) (h:sp (.ref a::vs) H Q E):wpAny (model X.prog X.w) X.A (call (.ref f) (.ref a::us)) (EP X pins σ Q) X.xe s:=by
 have r2:Vals (V.ref a::vs) (Value.ref a::us):=.cons rfl r
 have hl:(Value.ref a::us).length=ps.length:=by rw [← r2.length];exact F.len _ _ _ _ h
 have bb:=b s (.ref a::us) I.kIn (by rw [List.append_nil];exact hl)
 rw [List.append_nil] at bb
 refine wpAny_call (codeAny_mono (F.run X.A X.stack s H ⟨.ref a::us,[]⟩ (.ref a::us) (.ref a::vs) Q E hr I.env0 bb r2 h) fun rr s' hq=>?_)
 cases rr with
 | error e=>exact hx e s' hq
 | ok fl=>
  cases fl with
  | ret u=>exact I.after hq
  | next=>exact False.elim hq
  | brk=>exact False.elim hq
  | cont=>exact False.elim hq
theorem Km {pl:Sem Bool} (he:PE X o ta) (F:Mt X.prog X.w X.K X.mg X.base k C m ps sp) (hr:Room k X.A) (ha:PA X (e::es) t)
  (hst:starEach (e::es) X.env=(false,eval e X.env)::starEach es X.env:=by rfl) (hpl:(backTo pos (starEach es X.env)).any (·.1)=false:=by rfl)
  (ht:eval (.Call (.Attribute o m apos) (e::es) [] pos) X.env=(do
   let ov ← eval o X.env
   standAt apos.atName
   let (f,first) ← holding [ov] (getMethod ov m pl)
   callWith pos f first (backTo pos (starEach (e::es) X.env)) (backToKw pos (keywordEach [] X.env))):=by rfl) :
  PE X (.Call (.Attribute o m apos) (e::es) [] pos) (tMt C m sp ta t):=by
 obtain⟨f,fd,F,c,hm,b⟩:=F
 intro pins s σ H Q I h
 refine PySem.W.methodCall_KW (pl:=pl) (thn (he pins s σ H _ I h) fun u s1 ⟨x,H1,I1,rx,a,dx,fs,ex,ea,l,q⟩=>?_) ht
 subst ex
 obtain rfl:u=Value.ref a:=rx
 refine getmeth_ok I1 ea c hm l ?_
 refine PySem.W.callWith_K (first:=[.ref a]) (h₀:=X.base) I.ok.mod.kin hm.kp (thn (ha pos pins s1 σ H1 _ I1 q) fun us s2 ⟨vs,H2,I2,r,q2⟩=>⟨I2.kIn,?_⟩) hst hpl
 exact zem F hr b (fun _ _ z=>z.elim) I2 r q2
theorem Jr {pl:Sem Bool} (he:PE X o ta) (F:MtE X.prog X.w X.K X.mg X.base k C m ps sp) (hr:Room k X.A) (hx:zaC X G) (ha:PA X (e::es) t)
  (hst:starEach (e::es) X.env=(false,eval e X.env)::starEach es X.env:=by rfl) (hpl:(backTo pos (starEach es X.env)).any (·.1)=false:=by rfl)
  (ht:eval (.Call (.Attribute o m apos) (e::es) [] pos) X.env=(do
   let ov ← eval o X.env
   standAt apos.atName
   let (f,first) ← holding [ov] (getMethod ov m pl)
   callWith pos f first (backTo pos (starEach (e::es) X.env)) (backToKw pos (keywordEach [] X.env))):=by rfl) :
  PE X (.Call (.Attribute o m apos) (e::es) [] pos) (zk7 C m sp G ta t):=by
 obtain⟨f,fd,F,c,hm,b⟩:=F
 intro pins s σ H Q I h
 refine PySem.W.methodCall_KW (pl:=pl) (thn (he pins s σ H _ I h) fun u s1 ⟨x,H1,I1,rx,a,dx,fs,ex,ea,l,q⟩=>?_) ht
 subst ex
 obtain rfl:u=Value.ref a:=rx
 refine getmeth_ok I1 ea c hm l ?_
 refine PySem.W.callWith_K (first:=[.ref a]) (h₀:=X.base) I.ok.mod.kin hm.kp (thn (ha pos pins s1 σ H1 _ I1 q) fun us s2 ⟨vs,H2,I2,r,q2⟩=>⟨I2.kIn,?_⟩) hst hpl
 exact zem F hr b (fun e s' z=>hx pins σ H2 s2 e s' I2 z) I2 r q2
theorem zen {f:Addr}{fd:FuncData}{pins:List (Addr×Obj)}{σ:St}{H:Hp}{s:Shared}{Q:VK}{E:XK}{us:List Value}{vs:List V} (M:Mk X.K C f) (F:FnOk X.prog X.w X.K X.mg X.base CX k f fd ps sp) (hr:Room (k+1) X.A) (hb:Binds X.K fd ps [])
  (hx:∀(H:Hp) (s:Shared) (e:Value) (s':Shared),Inv X pins σ H s→CX X.stack H s E e s'→X.xe e s') (I:Inv X pins σ H s) (r:Vals vs us)
  (h:∀x dx,H x=none→H dx=none→dx≠x→sp (.ref x::vs) (upd (upd H dx (.own x)) x (.ins C dx [])) (fun v H2=>v=.non∧Q (.ref x) H2) E) :
  wpAny (model X.prog X.w) X.A (call (.ref C) us) (EP X pins σ Q) X.xe s:=by
 have hq:=h (s.heap.objs.size+1) s.heap.objs.size (I.hok.fresh (Nat.le_succ _)) (I.hok.fresh (Nat.le_refl _)) (Nat.ne_of_lt (Nat.lt_succ_self _))
 have I2:=Inv.made (C:=C) I
 have r2:Vals (V.ref (s.heap.objs.size+1)::vs) (Value.ref (s.heap.objs.size+1)::us):=.cons rfl r
 have hl:(Value.ref (s.heap.objs.size+1)::us).length=ps.length:=by rw [← r2.length];exact F.len _ _ _ _ hq
 have bb:=hb _ (Value.ref (s.heap.objs.size+1)::us) I2.kIn (by rw [List.append_nil];exact hl)
 rw [List.append_nil] at bb
 refine wpAny_call (make_map (f:=f) I.kIn M.makes M.init (beq_iff_eq.mp M.fn) (codeAny_mono (F.run _ X.stack _ _ ⟨Value.ref (s.heap.objs.size+1)::us,[]⟩ (Value.ref (s.heap.objs.size+1)::us) _ _ E (hr.make C us [])
  (I2.env0.make C us []) bb r2 hq) fun r s' hq'=>?_))
 cases r with
 | error e=>exact hx _ _ e s' I2 hq'
 | ok fl=>
  cases fl with
  | ret u=>
   obtain⟨v,H',I3,rv,ev,q3⟩:=I2.after hq'
   subst ev
   exact⟨rv,⟨V.ref (s.heap.objs.size+1),H',I3,rfl,q3⟩⟩
  | next=>exact False.elim hq'
  | brk=>exact False.elim hq'
  | cont=>exact False.elim hq'
theorem zhe (F:MkX CX0 X.prog X.w X.K X.mg X.base k C ps sp) (hr:Room (k+1) X.A) (hg:Gl X x) (hm:X.mg x=some (.ref C)) (ha:PA X (e::es) t) (hdb:(x == ("__debug__":Str))=false:=by decide)
  (he:starEach (e::es) X.env=(false,eval e X.env)::starEach es X.env:=by rfl) (hpl:(backTo pos (starEach es X.env)).any (·.1)=false:=by rfl):PE X (.Call (.Name x p) (e::es) [] pos) (tMk C sp t):=by
 obtain⟨f,fd,F,M,b⟩:=F
 intro pins s σ H Q I h
 refine wpAny_Call_Name_kw (ld_glob I hg hm ?_ hdb)
 refine PySem.W.callWith_K (h₀:=X.base) I.ok.mod.kin M.kp (thn (ha pos pins s σ H _ I h) fun us s1 ⟨vs,H1,I1,r,q⟩=>⟨I1.kIn,?_⟩) he hpl
 exact zen M F hr b (fun _ _ _ _ _ z=>z.elim) I1 r q
end
end L2
namespace L2
open PySem PySem.Spec PyProof.Rows PySem.SeqAt
section
variable {X:Cx}{pins:List (Addr×Obj)}{σ:St}{H:Hp}{s:Shared}
end
section
variable {X:Cx}
end
end L2
namespace L2
open PySem PySem.NumText
abbrev cpl (x:Str):List Nat:=x.cps.toList
theorem v9 {x y:Str} (h:cpl x=cpl y):x=y:=Str.ext' (Array.toList_inj.mp h)
theorem qt (x:Str):(cpl x).length=x.length:=Array.length_toList
theorem wY (x y:Str):cpl (x++y)=cpl x++cpl y:=by simp only [cpl,Str.cps_append,Array.toList_append]
noncomputable def wV (c:Nat):List (List Nat)→List Nat
 | []=>[]
 | [x]=>x
 | x::y::r=>x++c::wV c (y::r)
theorem Qo (c:Nat):∀ws:List Str,cpl (Str.join ⟨#[c]⟩ ws)=wV c (ws.map cpl)
 | []=>rfl
 | [x]=>rfl
 | x::y::r=>by
  show cpl (x++⟨#[c]⟩++Str.join ⟨#[c]⟩ (y::r))=cpl x++c::wV c (cpl y::r.map cpl)
  rw [wY,wY,Qo c (y::r),List.append_assoc]
  rfl
theorem zeo {c:Nat}:∀{x y A B:List Nat},c ∉ x→c ∉ y→x++c::A=y++c::B→x=y∧A=B
 | [],[],_,_,_,_,h=>⟨rfl,(List.cons.inj h).2⟩
 | [],b::y,_,_,_,hy,h=>absurd (show c∈b::y by rw [(List.cons.inj h).1];exact List.mem_cons_self ..) hy
 | a::x,[],_,_,hx,_,h=>absurd (show c∈a::x by rw [← (List.cons.inj h).1];exact List.mem_cons_self ..) hx
 | a::x,b::y,A,B,hx,hy,h=>by
  obtain⟨h1,h2⟩:=List.cons.inj h
  obtain⟨e1,e2⟩:=zeo (fun z=>hx (List.mem_cons_of_mem _ z)) (fun z=>hy (List.mem_cons_of_mem _ z)) h2
  exact⟨by rw [h1,e1],e2⟩
theorem Y8 {c:Nat}:∀{xs ys:List (List Nat)},xs≠[]→ys≠[]→(∀x∈xs,c ∉ x)→(∀y∈ys,c ∉ y)→wV c xs=wV c ys→xs=ys
 | [],_,h,_,_,_,_=>absurd rfl h
 | _,[],_,h,_,_,_=>absurd rfl h
 | [x],[y],_,_,_,_,h=>by rw [show x=y from h]
 | [x],y::y2::r,_,_,hx,_,h=>by
  have h:x=y++c::wV c (y2::r):=h
  exact absurd (by rw [h];exact List.mem_append_right _ (List.mem_cons_self ..)) (hx x (List.mem_cons_self ..))
 | x::x2::r,[y],_,_,_,hy,h=>by
  have h:x++c::wV c (x2::r)=y:=h
  exact absurd (by rw [← h];exact List.mem_append_right _ (List.mem_cons_self ..)) (hy y (List.mem_cons_self ..))
 | x::x2::r,y::y2::s,_,_,hx,hy,h=>by
  have h:x++c::wV c (x2::r)=y++c::wV c (y2::s):=h
  obtain⟨e1,e2⟩:=zeo (hx x (List.mem_cons_self ..)) (hy y (List.mem_cons_self ..)) h
  have:=Y8 (by simp) (by simp) (fun z hz=>hx z (List.mem_cons_of_mem _ hz)) (fun z hz=>hy z (List.mem_cons_of_mem _ hz)) e2
  rw [e1,this]
theorem Ko:∀{a b:List Str},a.map cpl=b.map cpl→a=b
 | [],[],_=>rfl
 | [],_::_,h=>by simp at h
 | _::_,[],h=>by simp at h
 | x::a,y::b,h=>by
  obtain⟨h1,h2⟩:=List.cons.inj h
  rw [v9 h1,Ko h2]
theorem Kp (x y:Str):Txt.split x y≠[]:=by
 unfold Txt.split
 split
 ·simp
 ·split
  ·simp
  ·rw [StrLaws.partsBetween_eq]
   obtain⟨p,r,e⟩:=StrLaws.partsFrom_ne x y.length 0 (Builtin.Str.occurrences x y 0 x.length (x.length+1))
   rw [e]
   simp
abbrev sp:Str:=" "
theorem zbs:sp=⟨#[32]⟩:=by decide +kernel
theorem Xh (y:Str) (ws:List Str):Txt.join y ws=Str.join y ws:=by
 unfold Txt.join
 rw [StrLaws.glued_eq_join]
noncomputable def vQ (x:Str):Prop:=32 ∉ cpl x
theorem yu {ws:List Str} (hn:ws≠[]) (hw:∀w∈ws,vQ w):Txt.split (Txt.join sp ws) sp=ws:=by
 have h1:=StrLaws.join_split (Txt.join sp ws) sp
 rw [Xh,zbs] at h1
 rw [Xh,zbs]
 have h2:=congrArg cpl h1
 rw [Qo,Qo] at h2
 refine Ko (Y8 (c:=32) ?_ ?_ ?_ ?_ h2)
 ·intro z
  exact Kp _ _ (List.map_eq_nil_iff.mp z)
 ·intro z
  exact hn (List.map_eq_nil_iff.mp z)
 ·intro x hx
  obtain⟨p,hp,rfl⟩:=List.mem_map.mp hx
  exact StrLaws.split_free _ 32 p hp
 ·intro x hx
  obtain⟨p,hp,rfl⟩:=List.mem_map.mp hx
  exact hw p hp
theorem zcr (x:Str):∀w∈Txt.split x sp,vQ w:=by
 rw [zbs]
 exact StrLaws.split_free x 32
theorem zbt (x:Str):Txt.join sp (Txt.split x sp)=x:=by rw [Xh,StrLaws.join_split]
structure Num (most:Nat) (x:Str):Prop where
 ne:1≤x.length
 le:x.length≤most
 dig:AllDigits (cpl x)
 led:(cpl x)[0]?=some 48→cpl x=[48]
noncomputable def z6 (x:Str):Int:=((digitsVal (cpl x):Nat):Int)
theorem zaD (x:Str):0≤z6 x:=Int.natCast_nonneg _
theorem Num.ne' {most:Nat}{x:Str} (h:Num most x):cpl x≠[]:=fun z=>by
 have:=h.ne
 rw [← qt,z] at this
 exact absurd this (by decide)
theorem zaE:∀(cs:List Nat),AllDigits cs→digitsVal cs<10 ^ cs.length:=by
 intro cs
 have key:∀(cs:List Nat) (a:Nat),AllDigits cs→cs.foldl (fun acc c=>acc*10+(c-48)) a<(a+1)*10 ^ cs.length:=by
  intro cs
  induction cs with
  | nil=>intro a _;simp
  | cons c r ih=>
   intro a h
   have hc:=h.head
   have:=ih (a*10+(c-48)) h.tail
   rw [List.foldl_cons,List.length_cons,Nat.pow_succ]
   refine Nat.lt_of_lt_of_le this ?_
   rw [Nat.mul_comm (10 ^ r.length) 10,← Nat.mul_assoc]
   exact Nat.mul_le_mul_right _ (by omega)
 intro h
 have:=key cs 0 h
 simpa [digitsVal] using this
theorem zc9 {most:Nat}{x:Str} (h:Num most x):z6 x<10 ^ most:=by
 have h1:=zaE _ h.dig
 have h2:10 ^ (cpl x).length≤10 ^ most:=Nat.pow_le_pow_right (by decide) (by rw [qt];exact h.le)
 unfold z6
 have:digitsVal (cpl x)<10 ^ most:=by omega
 exact_mod_cast this
noncomputable def txt (n:Int):Str:=Str.ofString (toString n)
theorem zgp (s:String):cpl (Str.ofString s)=s.toList.map Char.toNat:=by
 exact PyProof.Rows.signs_ofString s
theorem QZ (m:Nat):cpl (txt ((m:Nat):Int))=(Nat.toDigits 10 m).map Char.toNat:=by
 unfold txt
 rw [zgp]
 show (Nat.repr m).toList.map Char.toNat=_
 rw [Nat.toList_repr]
theorem Wz (a b:List Nat):digitsVal (a++b)=b.foldl (fun acc c=>acc*10+(c-48)) (digitsVal a):=by
 unfold digitsVal
 rw [List.foldl_append]
theorem ZJ:∀d:Nat,d<10→(Nat.digitChar d).toNat=48+d:=by decide
theorem zcs {m:Nat}:∀ch∈Nat.toDigits 10 m,48≤ch.toNat∧ch.toNat≤57:=by
 induction m using Nat.strongRecOn with
 | _ m ih=>
  intro ch hch
  by_cases h:m<10
  ·rw [Nat.toDigits_of_lt_base h] at hch
   rw [List.mem_singleton.mp hch,ZJ m h]
   omega
  ·have hm:m % 10<10:=Nat.mod_lt m (by decide)
   have t:Nat.toDigits 10 (m / 10)++Nat.toDigits 10 (m % 10)=Nat.toDigits 10 (10*(m / 10)+m % 10):=Nat.toDigits_append_toDigits (by decide) (by omega) hm
   rw [Nat.div_add_mod] at t
   rw [← t] at hch
   rcases List.mem_append.mp hch with z | z
   ·exact ih (m / 10) (by omega) ch z
   ·rw [Nat.toDigits_of_lt_base hm] at z
    rw [List.mem_singleton.mp z,ZJ _ hm]
    omega
theorem zaF (m:Nat):AllDigits (cpl (txt ((m:Nat):Int))):=by
 intro c hc
 rw [QZ] at hc
 obtain⟨ch,hch,e⟩:=List.mem_map.mp hc
 rw [← e]
 exact zcs ch hch
theorem zfq (m:Nat):digitsVal (cpl (txt ((m:Nat):Int)))=m:=by
 rw [QZ]
 induction m using Nat.strongRecOn with
 | _ m ih=>
  by_cases h:m<10
  ·rw [Nat.toDigits_of_lt_base h]
   show 0*10+((Nat.digitChar m).toNat-48)=m
   rw [ZJ m h]
   omega
  ·have hm:m % 10<10:=Nat.mod_lt m (by decide)
   have t:Nat.toDigits 10 (m / 10)++Nat.toDigits 10 (m % 10)=Nat.toDigits 10 (10*(m / 10)+m % 10):=Nat.toDigits_append_toDigits (by decide) (by omega) hm
   rw [Nat.div_add_mod] at t
   rw [← t,List.map_append,Nat.toDigits_of_lt_base hm,Wz,ih (m / 10) (by omega)]
   show m / 10*10+((Nat.digitChar (m % 10)).toNat-48)=m
   rw [ZJ _ hm]
   omega
theorem zep (m:Nat):1≤(cpl (txt ((m:Nat):Int))).length:=by
 cases h:cpl (txt ((m:Nat):Int)) with
 | nil=>
  rw [QZ] at h
  have:=List.map_eq_nil_iff.mp h
  exact absurd this (Nat.toDigits_ne_nil)
 | cons a r=>exact Nat.succ_le_succ (Nat.zero_le _)
theorem zfr (m:Nat) (h:(cpl (txt ((m:Nat):Int)))[0]?=some 48):m=0:=by
 rw [QZ] at h
 induction m using Nat.strongRecOn with
 | _ m ih=>
  by_cases hm10:m<10
  ·rw [Nat.toDigits_of_lt_base hm10] at h
   have:(Nat.digitChar m).toNat=48:=by simpa using h
   rw [ZJ m hm10] at this
   omega
  ·have hm:m % 10<10:=Nat.mod_lt m (by decide)
   have t:Nat.toDigits 10 (m / 10)++Nat.toDigits 10 (m % 10)=Nat.toDigits 10 (10*(m / 10)+m % 10):=Nat.toDigits_append_toDigits (by decide) (by omega) hm
   rw [Nat.div_add_mod] at t
   rw [← t,List.map_append,List.getElem?_append_left (by rw [← QZ];exact zep _)] at h
   have:=ih (m / 10) (by omega) h
   omega
theorem zfs {m k:Nat} (hk:1≤k) (h:m<10 ^ k):(cpl (txt ((m:Nat):Int))).length≤k:=by
 rw [QZ,List.length_map]
 induction k generalizing m with
 | zero=>exact absurd hk (by decide)
 | succ k ih=>
  by_cases hm10:m<10
  ·rw [Nat.toDigits_of_lt_base hm10]
   exact Nat.succ_le_succ (Nat.zero_le _)
  ·have hm:m % 10<10:=Nat.mod_lt m (by decide)
   have t:Nat.toDigits 10 (m / 10)++Nat.toDigits 10 (m % 10)=Nat.toDigits 10 (10*(m / 10)+m % 10):=Nat.toDigits_append_toDigits (by decide) (by omega) hm
   rw [Nat.div_add_mod] at t
   rw [← t,List.length_append,Nat.toDigits_of_lt_base hm,List.length_singleton]
   have h2:m / 10<10 ^ k:=Nat.div_lt_of_lt_mul (by rw [Nat.pow_succ,Nat.mul_comm] at h;exact h)
   have k1:1≤k:=by
    cases k with
    | zero=>simp at h2;omega
    | succ k=>omega
   have:=ih k1 h2
   omega
theorem xT {n:Int}{k:Nat} (hk:1≤k) (h0:0≤n) (h1:n<10 ^ k):Num k (txt n):=by
 obtain⟨m,rfl⟩:=Int.eq_ofNat_of_zero_le h0
 have hm:m<10 ^ k:=by exact_mod_cast h1
 refine⟨by rw [← qt];exact zep m,by rw [← qt];exact zfs hk hm,zaF m,fun z=>?_⟩
 have:=zfr m z
 subst this
 rfl
theorem yw {n:Int} (h0:0≤n):z6 (txt n)=n:=by
 obtain⟨m,rfl⟩:=Int.eq_ofNat_of_zero_le h0
 unfold z6
 rw [zfq]
theorem zeq {x:Str} (h:AllDigits (cpl x)):vQ x:=fun z=>by
 have:=h 32 z
 omega
theorem zbu {n:Int} (h0:0≤n):vQ (txt n):=by
 obtain⟨m,rfl⟩:=Int.eq_ofNat_of_zero_le h0
 exact zeq (zaF m)
theorem num_reads {most:Nat}{x:Str} (h:Num most x) (hm:most≤4300):PySem.intText? x=some (z6 x):=intText_digits h.dig h.ne' (Nat.le_trans h.le hm)
end L2
namespace L2
open PySem PySem.Spec PyProof.Rows
theorem XF:∀(ws:List Str) (k:Nat),Vals (ws.map V.str) (strsFrom k ws)
 | [],_=>.nil
 | x::r,k=>.cons ⟨k,rfl⟩ (XF r (k+1))
section
variable {X:Cx}
noncomputable def zgq:V→List V→Hp→VK→Prop:=fun x vs H Q=>∃a b,x=.str a∧vs=[.str b]∧(b.length == 0)=false∧a.length+2≤sizeLine∧∀l,H l=none→Q (.ref l) (upd H l (.lst ((Txt.split a b).map V.str)))
theorem Kq:MtR X "str.split" zgq:=by
 intro pins s σ H v vs u us Q I rx rs h
 obtain⟨x,y,rfl,rfl,hy,hz,q⟩:=h
 obtain⟨t,rfl⟩:=rx
 obtain⟨u1,rfl,w1⟩:=vals1 rs
 obtain⟨t',rfl⟩:=w1
 have hn:(Builtin.Str.partsBetween x (Builtin.Str.occurrences x y 0 x.length (x.length+1)) y.length).length≤sizeLine:=by
  have e1:=StrLaws.occ_length_le x y 0 x.length (x.length+1)
  rw [length_partsBetween]
  omega
 have q:=q _ I.fresh
 cases h1:(decide (x.length<y.length) || decide (Builtin.Str.strKind x<Builtin.Str.strKind y)) with
 | false=>
  cases hf:(Builtin.Str.occurrences x y 0 x.length (x.length+1)).isEmpty with
  | false=>
   have e:Txt.split x y=Builtin.Str.partsBetween x (Builtin.Str.occurrences x y 0 x.length (x.length+1)) y.length:=by
    unfold Txt.split
    rw [h1,hf]
    rfl
   rw [e] at q
   exact call_meets PySem.F.slot_str_split (typeIs_str _ _ _) PySem.F.entry_str_split (PySem.F.args_str_split_2 _ _) (meets_str_split_sep x y t t' h1 hy hf (by omega) hn) ⟨.ref _,_,I.lnew (XF _ _) (by rw [List.length_map];exact hn),rfl,q⟩
  | true=>
   have e:Txt.split x y=[x]:=by
    unfold Txt.split
    rw [h1,hf]
    rfl
   rw [e] at q
   exact call_meets PySem.F.slot_str_split (typeIs_str _ _ _) PySem.F.entry_str_split (PySem.F.args_str_split_2 _ _) (meets_str_split_not_found x y t t' h1 hy hf) ⟨.ref _,_,I.lnew (its:=[.str x t]) (ys:=[V.str x]) (t':=s.toks) (.cons ⟨t,rfl⟩ .nil) (by show 1≤sizeLine;decide),rfl,q⟩
 | true=>
  have e:Txt.split x y=[x]:=by
   unfold Txt.split
   rw [h1]
   rfl
  rw [e] at q
  exact call_meets PySem.F.slot_str_split (typeIs_str _ _ _) PySem.F.entry_str_split (PySem.F.args_str_split_2 _ _) (meets_str_split_cannot_occur x y t t' h1) ⟨.ref _,_,I.lnew (its:=[.str x t]) (ys:=[V.str x]) (t':=s.toks) (.cons ⟨t,rfl⟩ .nil) (by show 1≤sizeLine;decide),rfl,q⟩
noncomputable def zdJ:V→List V→Hp→VK→Prop:=fun x vs H Q=>∃a b k,x=.str a∧vs=[.str b,.int k]∧(decide (k < -(2 ^ 63:Int)) || decide (k ≥ 2 ^ 63))=false∧(b.length == 0)=false∧a.length+2≤sizeLine∧(Txt.splitMax a b k).length≤sizeLine∧∀l,H l=none→Q (.ref l) (upd H l (.lst ((Txt.splitMax a b k).map V.str)))
theorem zbv:MtR X "str.split" zdJ:=by
 intro pins s σ H v vs u us Q I rx rs h
 obtain⟨x,y,k,rfl,rfl,hk,hy,hz,hn,q⟩:=h
 obtain⟨t,rfl⟩:=rx
 obtain⟨u1,u2,rfl,w1,w2⟩:=vals2 rs
 obtain⟨t',rfl⟩:=w1
 obtain⟨t2,rfl⟩:=w2
 have q:=q _ I.fresh
 cases h1:(decide (x.length<y.length) || decide (Builtin.Str.strKind x<Builtin.Str.strKind y)) with
 | false=>
  cases hf:(Builtin.Str.occurrences x y 0 x.length (limitOf x k)).isEmpty with
  | false=>
   have e:Txt.splitMax x y k=Builtin.Str.partsBetween x (Builtin.Str.occurrences x y 0 x.length (limitOf x k)) y.length:=by
    unfold Txt.splitMax
    rw [h1,hf]
    rfl
   rw [e] at q hn
   exact call_meets PySem.F.slot_str_split (typeIs_str _ _ _) PySem.F.entry_str_split (PySem.F.args_str_split_3 _ _ _) (meets_str_split_sep_max x y k t t' t2 hk h1 hy hf (by omega) hn) ⟨.ref _,_,I.lnew (XF _ _) (by rw [List.length_map];exact hn),rfl,q⟩
  | true=>
   have e:Txt.splitMax x y k=[x]:=by
    unfold Txt.splitMax
    rw [h1,hf]
    rfl
   rw [e] at q
   exact call_meets PySem.F.slot_str_split (typeIs_str _ _ _) PySem.F.entry_str_split (PySem.F.args_str_split_3 _ _ _) (meets_str_split_max_not_found x y k t t' t2 hk h1 hy hf) ⟨.ref _,_,I.lnew (its:=[.str x t]) (ys:=[V.str x]) (t':=s.toks) (.cons ⟨t,rfl⟩ .nil) (by show 1≤sizeLine;decide),rfl,q⟩
 | true=>
  have e:Txt.splitMax x y k=[x]:=by
   unfold Txt.splitMax
   rw [h1]
   rfl
  rw [e] at q
  exact call_meets PySem.F.slot_str_split (typeIs_str _ _ _) PySem.F.entry_str_split (PySem.F.args_str_split_3 _ _ _) (meets_str_split_max_cannot_occur x y k t t' t2 hk h1) ⟨.ref _,_,I.lnew (its:=[.str x t]) (ys:=[V.str x]) (t':=s.toks) (.cons ⟨t,rfl⟩ .nil) (by show 1≤sizeLine;decide),rfl,q⟩
theorem zer {k:Nat}{C:Addr}{x:Str}{ps:List Str}{sp:Sp}{p pos:Pos} (F:MkX CX0 X.prog X.w X.K X.mg X.base k C ps sp) (hr:Room (k+1) X.A) (hg:Gl X x) (hm:X.mg x=some (.ref C)) (hdb:(x == ("__debug__":Str))=false:=by decide) :
  PE X (.Call (.Name x p) [] [] pos) (tMk C sp tNil):=by
 obtain⟨f,fd,F,M,b⟩:=F
 intro pins s σ H Q I h
 refine wpAny_Call_Name_kw (ld_glob I hg hm ?_ hdb)
 exact PySem.W.callWith_K0 I.kIn M.kp (zen (us:=[]) (vs:=[]) M F hr b (fun _ _ _ _ _ z=>z.elim) I .nil h)
theorem XH:CallR X (.type "int") (fun xs H Q=>∃x n,xs=[.str x]∧PySem.intText? x=some n∧x.length≤640∧Q (.int n) H):=by
 intro pins s σ H xs us Q I r h
 obtain⟨x,n,rfl,hn,hl,q⟩:=h
 obtain⟨u,rfl,t,rfl⟩:=vals1 r
 exact PySem.W.KIN.call_text hn hl ⟨.int n,H,I.tok _,⟨_,rfl⟩,q⟩
noncomputable def zk8 (t:TE):TE:=fun σ H Q=>t σ H fun x H1=>∃i,x=.int i∧i.natAbs.log2<1920∧Q (.str (toString i)) H1
theorem zgr {e:Expr}{t:TE}{pos:Pos} (h:PE X e t):PE X (.FormattedValue e (-1) none pos) (zk8 t):=by
 intro pins s σ H Q I hw
 refine FormattedValue_plain (thn (h pins s σ H _ I hw) fun v s1 ⟨x,H1,I1,r1,q1⟩=>?_)
 obtain⟨i,rfl,hi,q⟩:=q1
 obtain⟨t',rfl⟩:=r1
 exact formatField_int_small hi ⟨.str _,H1,I1.tok _,⟨_,rfl⟩,q⟩
noncomputable def tPs:List TE→Str→TE
 | [],acc=>fun _ H Q=>acc.length≤sizeLine∧Q (.str acc) H
 | t::ts,acc=>fun σ H Q=>t σ H fun x H1=>∃y,x=.str y∧(acc++y).length≤sizeLine∧tPs ts (acc++y) σ H1 Q
inductive PJs (X:Cx):List Expr→List TE→Prop where
 | nil:PJs X [] []
 | cons {e:Expr}{t:TE}{es:List Expr}{ts:List TE} (h:PE X e t) (r:PJs X es ts):PJs X (e::es) (t::ts)
theorem zes:∀{es:List Expr}{ts:List TE},PJs X es ts→∀(acc:Str) (pins:List (Addr×Obj)) (s:Shared) (σ:St) (H:Hp) (Q:VK),Inv X pins σ H s→tPs ts acc σ H Q →
  wpAny (model X.prog X.w) X.A (joinParts acc (evalEach es X.env)) (EP X pins σ Q) X.xe s
 | _,_,.nil,acc,pins,s,σ,H,Q,I,h=>joinParts_nil ⟨.str acc,H,I.tok _,⟨_,rfl⟩,h.2⟩ h.1
 | _,_,.cons h r,acc,pins,s,σ,H,Q,I,hw=>by
  refine joinParts_cons (thn (h pins s σ H _ I hw) fun v s1 ⟨x,H1,I1,r1,q1⟩=>?_)
  obtain⟨y,rfl,hz,q⟩:=q1
  obtain⟨t',rfl⟩:=r1
  exact⟨hz,zes r (acc++y) pins s1 σ H1 Q I1 q⟩
theorem zhf {e1 e2:Expr}{es:List Expr}{ts:List TE}{pos:Pos} (h:PJs X (e1::e2::es) ts):PE X (.JoinedStr (e1::e2::es) pos) (tPs ts Str.empty):=
 fun pins s σ H Q I hw=>JoinedStr_many (zes h Str.empty pins s σ H Q I hw)
end
end L2
namespace SB
open PySem PyProof.Rows
abbrev kx (p:Keyed):Int:=numOf p.1
abbrev LE (x y:Keyed):Prop:=kx x≤kx y
structure MI (W out U V:List Keyed):Prop where
 so:out.Pairwise LE
 su:U.Pairwise LE
 sv:V.Pairwise LE
 ou:∀x∈out,∀y∈U,LE x y
 ov:∀x∈out,∀y∈V,LE x y
 pm:(out++U++V).Perm W
theorem MI.takeU {W out U1 U2 V:List Keyed} (h:MI W out (U1++U2) V) (c:∀x∈U1,∀y∈V,LE x y):MI W (out++U1) U2 V:=by
 obtain⟨so,su,sv,ou,ov,pm⟩:=h
 have s:=List.pairwise_append.mp su
 refine⟨List.pairwise_append.mpr ⟨so,s.1,fun x hx y hy=>ou x hx y (List.mem_append_left _ hy)⟩,s.2.1,sv,fun x hx y hy=>?_,fun x hx y hy=>?_,by simpa only [List.append_assoc] using pm⟩
 ·rcases List.mem_append.mp hx with z | z
  ·exact ou x z y (List.mem_append_right _ hy)
  ·exact s.2.2 x z y hy
 ·rcases List.mem_append.mp hx with z | z
  ·exact ov x z y hy
  ·exact c x z y hy
theorem MI.takeV {W out U V1 V2:List Keyed} (h:MI W out U (V1++V2)) (c:∀x∈V1,∀y∈U,LE x y):MI W (out++V1) U V2:=by
 obtain⟨so,su,sv,ou,ov,pm⟩:=h
 have s:=List.pairwise_append.mp sv
 refine⟨List.pairwise_append.mpr ⟨so,s.1,fun x hx y hy=>ov x hx y (List.mem_append_left _ hy)⟩,su,s.2.1,fun x hx y hy=>?_,fun x hx y hy=>?_,?_⟩
 ·rcases List.mem_append.mp hx with z | z
  ·exact ou x z y hy
  ·exact c x z y hy
 ·rcases List.mem_append.mp hx with z | z
  ·exact ov x z y (List.mem_append_right _ hy)
  ·exact s.2.2 x z y hy
 ·refine List.Perm.trans ?_ pm
  simp only [List.append_assoc]
  refine List.Perm.append_left _ ?_
  rw [← List.append_assoc,← List.append_assoc]
  exact List.Perm.append_right _ List.perm_append_comm
structure Mg (W m:List Keyed):Prop where
 so:m.Pairwise LE
 pm:m.Perm W
theorem MI.fin {W out U V:List Keyed} (h:MI W out U V) (c:∀x∈U,∀y∈V,LE x y):Mg W (out++U++V):=by
 obtain⟨so,su,sv,ou,ov,pm⟩:=h
 refine⟨List.pairwise_append.mpr ⟨List.pairwise_append.mpr ⟨so,su,ou⟩,sv,fun x hx y hy=>?_⟩,pm⟩
 rcases List.mem_append.mp hx with z | z
 ·exact ov x z y hy
 ·exact c x z y hy
theorem MI.fin' {W out U V:List Keyed} (h:MI W out U V) (c:∀x∈V,∀y∈U,LE x y):Mg W (out++V++U):=by
 obtain⟨so,su,sv,ou,ov,pm⟩:=h
 refine⟨List.pairwise_append.mpr ⟨List.pairwise_append.mpr ⟨so,sv,ov⟩,su,fun x hx y hy=>?_⟩,List.Perm.trans ?_ pm⟩
 ·rcases List.mem_append.mp hx with z | z
  ·exact ou x z y hy
  ·exact c x z y hy
 ·simp only [List.append_assoc]
  exact List.Perm.append_left _ List.perm_append_comm
structure MJ (W U V O:List Keyed):Prop where
 so:O.Pairwise LE
 su:U.Pairwise LE
 sv:V.Pairwise LE
 uo:∀x∈U,∀y∈O,LE x y
 vo:∀x∈V,∀y∈O,LE x y
 pm:(U++V++O).Perm W
theorem MJ.takeU {W U1 U2 V O:List Keyed} (h:MJ W (U1++U2) V O) (c:∀x∈V,∀y∈U2,LE x y):MJ W U1 V (U2++O):=by
 obtain⟨so,su,sv,uo,vo,pm⟩:=h
 have s:=List.pairwise_append.mp su
 refine⟨List.pairwise_append.mpr ⟨s.2.1,so,fun x hx y hy=>uo x (List.mem_append_right _ hx) y hy⟩,s.1,sv,fun x hx y hy=>?_,fun x hx y hy=>?_,?_⟩
 ·rcases List.mem_append.mp hy with z | z
  ·exact s.2.2 x hx y z
  ·exact uo x (List.mem_append_left _ hx) y z
 ·rcases List.mem_append.mp hy with z | z
  ·exact c x hx y z
  ·exact vo x hx y z
 ·refine List.Perm.trans ?_ pm
  simp only [List.append_assoc]
  refine List.Perm.append_left _ ?_
  rw [← List.append_assoc,← List.append_assoc]
  exact List.Perm.append_right _ List.perm_append_comm
theorem MJ.takeV {W U V1 V2 O:List Keyed} (h:MJ W U (V1++V2) O) (c:∀x∈U,∀y∈V2,LE x y):MJ W U V1 (V2++O):=by
 obtain⟨so,su,sv,uo,vo,pm⟩:=h
 have s:=List.pairwise_append.mp sv
 refine⟨List.pairwise_append.mpr ⟨s.2.1,so,fun x hx y hy=>vo x (List.mem_append_right _ hx) y hy⟩,su,s.1,fun x hx y hy=>?_,fun x hx y hy=>?_,by simpa only [List.append_assoc] using pm⟩
 ·rcases List.mem_append.mp hy with z | z
  ·exact c x hx y z
  ·exact uo x hx y z
 ·rcases List.mem_append.mp hy with z | z
  ·exact s.2.2 x hx y z
  ·exact vo x (List.mem_append_left _ hx) y z
theorem MJ.fin {W U V O:List Keyed} (h:MJ W U V O) (c:∀x∈U,∀y∈V,LE x y):Mg W (U++V++O):=by
 obtain⟨so,su,sv,uo,vo,pm⟩:=h
 refine⟨List.pairwise_append.mpr ⟨List.pairwise_append.mpr ⟨su,sv,c⟩,so,fun x hx y hy=>?_⟩,pm⟩
 rcases List.mem_append.mp hx with z | z
 ·exact uo x z y hy
 ·exact vo x z y hy
theorem MJ.fin' {W U V O:List Keyed} (h:MJ W U V O) (c:∀x∈V,∀y∈U,LE x y):Mg W (V++U++O):=by
 obtain⟨so,su,sv,uo,vo,pm⟩:=h
 refine⟨List.pairwise_append.mpr ⟨List.pairwise_append.mpr ⟨sv,su,c⟩,so,fun x hx y hy=>?_⟩,List.Perm.trans (List.Perm.append_right _ List.perm_append_comm) pm⟩
 rcases List.mem_append.mp hx with z | z
 ·exact vo x z y hy
 ·exact uo x z y hy
section
variable {prog:Program}{w:World}{A:Around}{E:Value→Shared→Prop}{s:Shared}
noncomputable def IK (x:Keyed):Prop:=∃n t,x.1=.int n t
theorem IK.eq {x:Keyed} (h:IK x):∃t,x=(.int (kx x) t,x.2):=by
 obtain⟨n,t,e⟩:=h
 refine⟨t,?_⟩
 unfold kx
 rw [e]
 exact Prod.ext e rfl
theorem Kr {st:SortSt}{x y:Keyed}{Q:Option Bool→SortSt→Prop} (hk:kindOf st=oneType') (hx:IK x) (hy:IK y) (h:Q (some (decide (kx x<kx y))) st):wpS (model prog w) A E s (lt' x y) Q st:=by
 obtain⟨t,ex⟩:=hx.eq
 obtain⟨u,ey⟩:=hy.eq
 rw [lt'_eq]
 refine wpS_bind (wpS_get ?_)
 rw [hk,ex,ey,keyLt'_oneType]
 refine wpS_bind (wpS_lift (wpAny_attempt (oneLt_int ⟨rfl,?_⟩)))
 exact wpS_pure h
theorem zN {st:SortSt}{arr:Array Keyed}{i:Nat}{x:Keyed}{Q:Keyed→SortSt→Prop} (hx:arr[i]?=some x) (h:Q x st):wpS (model prog w) A E s (elem' arr i) Q st:=by
 rw [elem'_eq,hx]
 exact wpS_pure h
noncomputable def Zc:Bool→Keyed→Array Keyed→Nat→Nat→Nat→StateT SortSt Sem (Option Nat):=sortPriv% PySem.Builtin.gallop
noncomputable def Ks:Array Keyed→Array Keyed→StateT SortSt Sem (Array Keyed):=sortPriv% PySem.Builtin.mergeLo
noncomputable def Ku:Array Keyed→Array Keyed→StateT SortSt Sem (Array Keyed):=sortPriv% PySem.Builtin.mergeHi
noncomputable def Q0 (left:Bool) (key:Keyed) (arr:Array Keyed) (base i:Nat):StateT SortSt Sem (Option Bool):=do
 let x ← elem' arr (base+i)
 if left then lt' x key else return (← lt' key x).map (!·)
theorem zct (left:Bool) (key:Keyed) (arr:Array Keyed) (base n hint:Nat):Zc left key arr base n hint=(do
 let mut la:=0
 let mut of:=1
 let mut lw:=0
 let mut hg:=0
 let some rg ← Q0 left key arr base hint | return none
 if rg then
  let mx:=n-hint
  for _ in [0:n] do
   if of ≥ mx then break
   let some mo ← Q0 left key arr base (hint+of) | return none
   if !mo then break
   la:=of
   of:=2*of+1
  lw:=hint+la+1
  hg:=hint+min of mx
 else
  let mx:=hint+1
  for _ in [0:n] do
   if of ≥ mx then break
   let some fo ← Q0 left key arr base (hint-of) | return none
   if fo then break
   la:=of
   of:=2*of+1
  lw:=hint+1-min of mx
  hg:=hint-la
 for _ in [0:n] do
  if lw ≥ hg then break
  let m:=lw+(hg-lw) / 2
  let some mo ← Q0 left key arr base m | return none
  if mo then lw:=m+1 else hg:=m
 return some hg):=rfl
end
end SB
namespace SB
open PySem PyProof.Rows
section
variable {prog:Program}{w:World}{A:Around}{E:Value→Shared→Prop}{s:Shared}
noncomputable def bb (left:Bool) (key:Keyed) (arr:Array Keyed) (base i:Nat):Bool:=if left then decide (K arr (base+i)<kx key) else !decide (kx key<K arr (base+i))
theorem ZW {st:SortSt}{left:Bool}{key:Keyed}{arr:Array Keyed}{base i:Nat}{Q:Option Bool→SortSt→Prop} (hk:kindOf st=oneType') (hkey:IK key) (hx:∃x,arr[base+i]?=some x∧IK x) (h:Q (some (bb left key arr base i)) st):wpS (model prog w) A E s (Q0 left key arr base i) Q st:=by
 obtain⟨x,hx,ix⟩:=hx
 unfold Q0
 refine wpS_bind (zN hx ?_)
 have e:K arr (base+i)=kx x:=by unfold K;rw [hx]
 cases left with
 | true=>
  rw [if_pos rfl]
  refine Kr hk ix hkey ?_
  unfold bb at h
  rw [e] at h
  exact h
 | false=>
  rw [if_neg (by decide)]
  refine wpS_bind (Kr hk hkey ix (wpS_pure ?_))
  unfold bb at h
  rw [e] at h
  exact h
theorem zft {left:Bool}{key:Keyed}{arr:Array Keyed}{base n i j:Nat} (hs:∀i j,i≤j→j<n→K arr (base+i)≤K arr (base+j)) (hij:i≤j) (hj:j<n) (h:bb left key arr base j=true):bb left key arr base i=true:=by
 have:=hs i j hij hj
 unfold bb at h ⊢
 cases left with
 | true=>
  rw [if_pos rfl,decide_eq_true_eq] at h ⊢
  omega
 | false=>
  rw [if_neg (by decide),Bool.not_eq_true',decide_eq_false_iff_not] at h ⊢
  omega
theorem vR {st:SortSt}{left:Bool}{key:Keyed}{arr:Array Keyed}{base n hint:Nat}{Q:Option Nat→SortSt→Prop} (hk:kindOf st=oneType') (hkey:IK key) (hA:∀i,i<n→∃x,arr[base+i]?=some x∧IK x) (hs:∀i j,i≤j→j<n→K arr (base+i)≤K arr (base+j)) (hh:hint<n)
  (h:∀k,k≤n→(∀i,i<k→bb left key arr base i=true)→(∀i,k≤i→i<n→bb left key arr base i=false)→Q (some k) st):wpS (model prog w) A E s (Zc left key arr base n hint) Q st:=by
 have mono:∀{i j},i≤j→j<n→bb left key arr base j=true→bb left key arr base i=true:=fun a b c=>zft hs a b c
 have mono':∀{i j},i≤j→j<n→bb left key arr base i=false→bb left key arr base j=false:=fun {i j} a b c=>by
  cases hj:bb left key arr base j with
  | false=>rfl
  | true=>rw [mono a b hj] at c;cases c
 rw [zct]
 refine wpS_bind (ZW hk hkey (hA _ hh) ?_)
 cases hb:bb left key arr base hint
 case' true=>
  dsimp only
  rw [if_pos rfl]
  refine wpS_bind (wpS_mono (wpS_forRange (I:=fun x c st'=>st'=st∧∃la of,c=(none,la,of)∧la<of∧x+1≤of∧hint+la<n∧bb left key arr base (hint+la)=true)
   (Q:=fun c st'=>st'=st∧∃la of,c=(none,la,of)∧la<of∧hint+la<n∧bb left key arr base (hint+la)=true∧(of ≥ n-hint∨bb left key arr base (hint+of)=false)) ?s1 ?f1 ⟨rfl,0,1,rfl,by decide,by decide,hh,hb⟩) ?p1)
  case s1=>
   rintro x c st' _ hx ⟨rfl,la,of,rfl,h1,h2,h3,h4⟩
   dsimp only
   by_cases hge:of ≥ n-hint
   ·rw [if_pos hge]
    exact wpS_pure ⟨rfl,_,_,rfl,h1,h3,h4,.inl hge⟩
   ·rw [if_neg hge]
    refine wpS_bind (ZW hk hkey (hA _ (by omega)) ?_)
    cases hb2:bb left key arr base (hint+of) with
    | true=>
     simp only [Bool.not_true,Bool.false_eq_true,if_false]
     exact wpS_pure ⟨rfl,_,_,rfl,by omega,by omega,by omega,hb2⟩
    | false=>
     simp only [Bool.not_false,if_true]
     exact wpS_pure ⟨rfl,_,_,rfl,h1,h3,h4,.inr hb2⟩
  case f1=>
   rintro c st' ⟨rfl,la,of,rfl,h1,h2,h3,h4⟩
   exact⟨rfl,_,_,rfl,h1,h3,h4,.inl (by omega)⟩
  rintro c st' ⟨rfl,la,of,rfl,h1,h3,h4,h5⟩
  dsimp only
  have g1:∀i,i<hint+la+1→bb left key arr base i=true:=fun i hi=>mono (by omega) h3 h4
  have g2:∀i,hint+min of (n-hint)≤i→i<n→bb left key arr base i=false:=fun i hi hin=>by
   rcases h5 with z | z
   ·omega
   ·by_cases y:of ≥ n-hint
    ·omega
    ·exact mono' (by omega) hin z
  have g3:hint+la+1≤hint+min of (n-hint):=by omega
  have g4:hint+min of (n-hint)≤n:=by omega
  generalize hint+la+1=lw at g1 g3 ⊢
  generalize hint+min of (n-hint)=hg at g2 g3 g4 ⊢
 case' false=>
  dsimp only
  rw [if_neg (by decide)]
  refine wpS_bind (wpS_mono (wpS_forRange (I:=fun x c st'=>st'=st∧∃la of,c=(none,la,of)∧la<of∧x+1≤of∧la≤hint∧bb left key arr base (hint-la)=false)
   (Q:=fun c st'=>st'=st∧∃la of,c=(none,la,of)∧la<of∧la≤hint∧bb left key arr base (hint-la)=false∧(of ≥ hint+1∨bb left key arr base (hint-of)=true)) ?s2 ?f2 ⟨rfl,0,1,rfl,by decide,by decide,by omega,hb⟩) ?p2)
  case s2=>
   rintro x c st' _ hx ⟨rfl,la,of,rfl,h1,h2,h3,h4⟩
   dsimp only
   by_cases hge:of ≥ hint+1
   ·rw [if_pos hge]
    exact wpS_pure ⟨rfl,_,_,rfl,h1,h3,h4,.inl hge⟩
   ·rw [if_neg hge]
    refine wpS_bind (ZW hk hkey (hA _ (by omega)) ?_)
    cases hb2:bb left key arr base (hint-of) with
    | true=>
     simp only [if_true]
     exact wpS_pure ⟨rfl,_,_,rfl,h1,h3,h4,.inr hb2⟩
    | false=>
     simp only [Bool.false_eq_true,if_false]
     exact wpS_pure ⟨rfl,_,_,rfl,by omega,by omega,by omega,hb2⟩
  case f2=>
   rintro c st' ⟨rfl,la,of,rfl,h1,h2,h3,h4⟩
   exact⟨rfl,_,_,rfl,h1,h3,h4,.inl (by omega)⟩
  rintro c st' ⟨rfl,la,of,rfl,h1,h3,h4,h5⟩
  dsimp only
  have g1:∀i,i<hint+1-min of (hint+1)→bb left key arr base i=true:=fun i hi=>by
   rcases h5 with z | z
   ·omega
   ·by_cases y:of ≥ hint+1
    ·omega
    ·exact mono (by omega) (by omega) z
  have g2:∀i,hint-la≤i→i<n→bb left key arr base i=false:=fun i hi hin=>mono' hi hin h4
  have g3:hint+1-min of (hint+1)≤hint-la:=by omega
  have g4:hint-la≤n:=by omega
  generalize hint+1-min of (hint+1)=lw at g1 g3 ⊢
  generalize hint-la=hg at g2 g3 g4 ⊢
 all_goals
  refine wpS_bind (wpS_mono (wpS_forRange (I:=fun x c st''=>st''=st'∧∃lw hg,c=(none,lw,hg)∧lw≤hg∧hg≤n∧hg-lw≤n-x∧(∀i,i<lw→bb left key arr base i=true)∧(∀i,hg≤i→i<n→bb left key arr base i=false))
   (Q:=fun c st''=>st''=st'∧∃lw hg,c=(none,lw,hg)∧hg≤n∧(∀i,i<hg→bb left key arr base i=true)∧(∀i,hg≤i→i<n→bb left key arr base i=false)) ?_ ?_ ⟨rfl,lw,hg,rfl,g3,g4,by omega,g1,g2⟩) ?_)
  ·rintro x c st'' _ hx ⟨rfl,lw,hg,rfl,hl,hn,hm,h1,h2⟩
   dsimp only
   by_cases hge:lw ≥ hg
   ·rw [if_pos hge]
    have:lw=hg:=by omega
    subst this
    exact wpS_pure ⟨rfl,_,_,rfl,hn,h1,h2⟩
   ·rw [if_neg hge]
    refine wpS_bind (ZW hk hkey (hA _ (by omega)) ?_)
    cases hb:bb left key arr base (lw+(hg-lw) / 2) with
    | true=>
     simp only [if_true]
     exact wpS_pure ⟨rfl,_,_,rfl,by omega,hn,by omega,fun i hi=>mono (by omega) (by omega) hb,h2⟩
    | false=>
     simp only [Bool.false_eq_true,if_false]
     exact wpS_pure ⟨rfl,_,_,rfl,by omega,by omega,by omega,h1,fun i hi hin=>mono' hi hin hb⟩
  ·rintro c st'' ⟨rfl,lw,hg,rfl,hl,hn,hm,h1,h2⟩
   have:lw=hg:=by omega
   subst this
   exact⟨rfl,_,_,rfl,hn,h1,h2⟩
  ·rintro c st'' ⟨rfl,lw,hg,rfl,hn,h1,h2⟩
   exact wpS_pure (h hg hn h1 h2)
end
end SB
namespace SB
open PySem PyProof.Rows
noncomputable def Y9:Nat→StateT SortSt Sem Unit:=sortPriv% PySem.Builtin.setMinGallop
theorem zet (g:Nat):Y9 g=modify fun x=>SortSt.mk' (kindOf x) (arrOf x) (pendingOf x) g (failedOf x):=rfl
theorem zbw (a b:Array Keyed):Ks a b=(do
 rule "list.sort.merge-lo"
 let tt:=a.size+b.size
 let dn (o:Array Keyed) (i j:Nat):=o++a.extract i a.size++b.extract j b.size
 let lA (o:Array Keyed) (i j:Nat):=o++b.extract j b.size++a.extract i a.size
 let mut o:Array Keyed:=#[← elem' b 0]
 let mut ia:=0
 let mut ib:=1
 if ib == b.size then return dn o ia ib
 if ia+1 == a.size then return lA o ia ib
 let mut mg:=gallopOf (← get)
 for _ in [0:tt] do
  let mut ac:=0
  let mut bc:=0
  for _ in [0:tt] do
   let some bW ← lt' (← elem' b ib) (← elem' a ia) | return dn o ia ib
   if bW then
    o:=o.push (← elem' b ib)
    ib:=ib+1
    bc:=bc+1
    ac:=0
    if ib == b.size then return dn o ia ib
    if bc ≥ mg then break
   else
    o:=o.push (← elem' a ia)
    ia:=ia+1
    ac:=ac+1
    bc:=0
    if ia+1 == a.size then return lA o ia ib
    if ac ≥ mg then break
  rule "list.sort.gallop"
  mg:=mg+1
  for _ in [0:tt] do
   if mg > 1 then mg:=mg-1
   Y9 mg
   let some k ← Zc false (← elem' b ib) a ia (a.size-ia) 0 | return dn o ia ib
   ac:=k
   if k > 0 then
    o:=o++a.extract ia (ia+k)
    ia:=ia+k
    if ia+1 == a.size then return lA o ia ib
    if ia == a.size then return dn o ia ib
   o:=o.push (← elem' b ib)
   ib:=ib+1
   if ib == b.size then return dn o ia ib
   let some k ← Zc true (← elem' a ia) b ib (b.size-ib) 0 | return dn o ia ib
   bc:=k
   if k > 0 then
    o:=o++b.extract ib (ib+k)
    ib:=ib+k
    if ib == b.size then return dn o ia ib
   o:=o.push (← elem' a ia)
   ia:=ia+1
   if ia+1 == a.size then return lA o ia ib
   if ac<7 && bc<7 then break
  mg:=mg+1
  Y9 mg
 unsupported "internal:list.sort.merge-bound"):=rfl
theorem zbx (a b:Array Keyed):Ku a b=(do
 rule "list.sort.merge-hi"
 let tt:=a.size+b.size
 let dn (o:Array Keyed) (i j:Nat):=a.extract 0 i++b.extract 0 j++o.reverse
 let fB (o:Array Keyed) (i j:Nat):=b.extract 0 j++a.extract 0 i++o.reverse
 let mut na:=a.size-1
 let mut nb:=b.size
 let mut o:Array Keyed:=#[← elem' a na]
 if na == 0 then return dn o na nb
 if nb == 1 then return fB o na nb
 let mut mg:=gallopOf (← get)
 for _ in [0:tt] do
  let mut ac:=0
  let mut bc:=0
  for _ in [0:tt] do
   let some aW ← lt' (← elem' b (nb-1)) (← elem' a (na-1)) | return dn o na nb
   if aW then
    na:=na-1
    o:=o.push (← elem' a na)
    ac:=ac+1
    bc:=0
    if na == 0 then return dn o na nb
    if ac ≥ mg then break
   else
    nb:=nb-1
    o:=o.push (← elem' b nb)
    bc:=bc+1
    ac:=0
    if nb == 1 then return fB o na nb
    if bc ≥ mg then break
  rule "list.sort.gallop"
  mg:=mg+1
  for _ in [0:tt] do
   if mg > 1 then mg:=mg-1
   Y9 mg
   let some p ← Zc false (← elem' b (nb-1)) a 0 na (na-1) | return dn o na nb
   let k:=na-p
   ac:=k
   if k > 0 then
    o:=o++(a.extract p na).reverse
    na:=p
    if na == 0 then return dn o na nb
   nb:=nb-1
   o:=o.push (← elem' b nb)
   if nb == 1 then return fB o na nb
   let some p ← Zc true (← elem' a (na-1)) b 0 nb (nb-1) | return dn o na nb
   let k:=nb-p
   bc:=k
   if k > 0 then
    o:=o++(b.extract p nb).reverse
    nb:=p
    if nb == 1 then return fB o na nb
    if nb == 0 then return dn o na nb
   na:=na-1
   o:=o.push (← elem' a na)
   if na == 0 then return dn o na nb
   if ac<7 && bc<7 then break
  mg:=mg+1
  Y9 mg
 unsupported "internal:list.sort.merge-bound"):=rfl
end SB
namespace SB
open PySem PyProof.Rows
structure Pre (a b:Array Keyed):Prop where
 ka:∀x∈a.toList,IK x
 kb:∀x∈b.toList,IK x
 sa:a.toList.Pairwise LE
 sb:b.toList.Pairwise LE
 na:0<a.size
 nb:0<b.size
 lo:∀x,b[0]?=some x→∀y∈a.toList,LE x y
 hi:∀x,a[a.size-1]?=some x→∀y∈b.toList,LE y x
noncomputable def GS (st st':SortSt):Prop:=kindOf st'=kindOf st∧arrOf st'=arrOf st∧pendingOf st'=pendingOf st∧failedOf st'=failedOf st
theorem GS.refl (st:SortSt):GS st st:=⟨rfl,rfl,rfl,rfl⟩
theorem GS.trans {a b c:SortSt} (h:GS a b) (h':GS b c):GS a c:=⟨h'.1.trans h.1,h'.2.1.trans h.2.1,h'.2.2.1.trans h.2.2.1,h'.2.2.2.trans h.2.2.2⟩
theorem zcu {a:Array Keyed}{i:Nat}{x:Keyed} (h:a[i]?=some x):a.toList[i]?=some x:=by rw [Array.getElem?_toList];exact h
theorem zf7 {a:Array Keyed}{i:Nat}{x:Keyed} (h:a[i]?=some x):a.toList.drop i=x::a.toList.drop (i+1):=by
 obtain⟨hi,e⟩:=List.getElem?_eq_some_iff.mp (zcu h)
 rw [List.drop_eq_getElem_cons hi,e]
theorem zf8 {a:Array Keyed}{i:Nat}{x:Keyed} (h:a[i]?=some x):a.toList.take (i+1)=a.toList.take i++[x]:=by
 rw [List.take_add_one,zcu h]
 rfl
theorem zfu {a:Array Keyed}{j:Nat}{y:Keyed} (h:y∈a.toList.drop j):∃i,j≤i∧i<a.size∧a[i]?=some y∧kx y=K a i:=by
 obtain⟨k,hk⟩:=List.getElem?_of_mem h
 rw [List.getElem?_drop] at hk
 have hl:=(List.getElem?_eq_some_iff.mp hk).1
 rw [Array.length_toList] at hl
 rw [Array.getElem?_toList] at hk
 exact⟨j+k,by omega,hl,hk,by unfold K;rw [hk]⟩
theorem zda {a:Array Keyed}{j:Nat}{y:Keyed} (h:y∈a.toList.take j):∃i,i<j∧i<a.size∧a[i]?=some y∧kx y=K a i:=by
 obtain⟨k,hk⟩:=List.getElem?_of_mem h
 have hl:=(List.getElem?_eq_some_iff.mp hk).1
 rw [List.length_take,Array.length_toList] at hl
 rw [List.getElem?_take,if_pos (by omega),Array.getElem?_toList] at hk
 exact⟨k,by omega,by omega,hk,by unfold K;rw [hk]⟩
theorem Q3 {a:Array Keyed} (h:a.toList.Pairwise LE){i j:Nat} (hij:i≤j) (hj:j<a.size):K a i≤K a j:=by
 rcases Nat.lt_or_eq_of_le hij with z | z
 ·have hi:i<a.size:=by omega
  have e1:K a i=kx a[i]:=K_eq hi
  have e2:K a j=kx a[j]:=K_eq hj
  rw [e1,e2]
  have:=List.pairwise_iff_getElem.mp h i j (by rw [Array.length_toList];omega) (by rw [Array.length_toList];omega) z
  exact this
 ·subst z;exact Int.le_refl _
theorem xM {a:Array Keyed} (h:∀x∈a.toList,IK x){i:Nat} (hi:i<a.size):∃x,a[i]?=some x∧IK x:=⟨a[i],getElem?_pos _ i hi,h _ (by simp)⟩
section
variable {W V:List Keyed}{o a b:Array Keyed}{ia ib k:Nat}{x:Keyed}
theorem zeu (h:MI W o.toList (a.toList.drop ia) V) (hx:a[ia]?=some x) (c:∀y∈V,LE x y):MI W (o.push x).toList (a.toList.drop (ia+1)) V:=by
 rw [zf7 hx] at h
 rw [Array.toList_push]
 exact MI.takeU (U1:=[x]) h fun z hz y hy=>by rw [List.mem_singleton.mp hz];exact c y hy
theorem zcv (h:MI W o.toList V (b.toList.drop ib)) (hx:b[ib]?=some x) (c:∀y∈V,LE x y):MI W (o.push x).toList V (b.toList.drop (ib+1)):=by
 rw [zf7 hx] at h
 rw [Array.toList_push]
 exact MI.takeV (V1:=[x]) h fun z hz y hy=>by rw [List.mem_singleton.mp hz];exact c y hy
theorem XJ {a:Array Keyed}{i k:Nat}{z:Keyed} (hz:z∈(a.toList.drop i).take k):∃j,j<k∧i+j<a.size∧kx z=K a (i+j):=by
 obtain⟨j,hj⟩:=List.getElem?_of_mem hz
 have hl:=(List.getElem?_eq_some_iff.mp hj).1
 rw [List.length_take,List.length_drop,Array.length_toList] at hl
 rw [List.getElem?_take,if_pos (by omega),List.getElem?_drop,Array.getElem?_toList] at hj
 exact⟨j,by omega,by omega,by unfold K;rw [hj]⟩
theorem zby (a:Array Keyed) (i k:Nat):(a.extract i (i+k)).toList=(a.toList.drop i).take k:=by
 rw [Array.toList_extract,List.extract_eq_take_drop,show i+k-i=k by omega]
theorem Q4 (a:Array Keyed) (i:Nat):(a.extract i a.size).toList=a.toList.drop i:=by
 rw [Array.toList_extract,List.extract_eq_take_drop]
 exact List.take_of_length_le (by rw [List.length_drop,Array.length_toList];omega)
theorem Q5 (a:Array Keyed) (i:Nat):(a.extract 0 i).toList=a.toList.take i:=by
 rw [Array.toList_extract,List.extract_eq_take_drop,List.drop_zero,Nat.sub_zero]
theorem zhg (h:MI W o.toList (a.toList.drop ia) V) (c:∀j,j<k→∀y∈V,K a (ia+j)≤kx y):MI W (o++a.extract ia (ia+k)).toList (a.toList.drop (ia+k)) V:=by
 rw [← List.take_append_drop k (a.toList.drop ia)] at h
 have:=MI.takeU h fun z hz y hy=>by
  obtain⟨j,hj,_,e⟩:=XJ hz
  show kx z≤kx y
  rw [e]
  exact c j hj y hy
 rw [List.drop_drop] at this
 rw [Array.toList_append,zby]
 exact this
theorem zhh (h:MI W o.toList V (b.toList.drop ib)) (c:∀j,j<k→∀y∈V,K b (ib+j)≤kx y):MI W (o++b.extract ib (ib+k)).toList V (b.toList.drop (ib+k)):=by
 rw [← List.take_append_drop k (b.toList.drop ib)] at h
 have:=MI.takeV h fun z hz y hy=>by
  obtain⟨j,hj,_,e⟩:=XJ hz
  show kx z≤kx y
  rw [e]
  exact c j hj y hy
 rw [List.drop_drop] at this
 rw [Array.toList_append,zby]
 exact this
theorem zdb (h:MI W o.toList (a.toList.drop ia) (b.toList.drop ib)) (e:ib=b.size):Mg W (o++a.extract ia a.size++b.extract ib b.size).toList:=by
 rw [Array.toList_append,Array.toList_append,Q4,Q4]
 refine h.fin fun x _ y hy=>?_
 rw [e,List.drop_of_length_le (by rw [Array.length_toList];exact Nat.le_refl _)] at hy
 cases hy
theorem zhi (h:MI W o.toList (a.toList.drop ia) (b.toList.drop ib)) (e:ia=a.size):Mg W (o++a.extract ia a.size++b.extract ib b.size).toList:=by
 rw [Array.toList_append,Array.toList_append,Q4,Q4]
 refine h.fin fun x hx y _=>?_
 rw [e,List.drop_of_length_le (by rw [Array.length_toList];exact Nat.le_refl _)] at hx
 cases hx
theorem zdc (pre:Pre a b) (h:MI W o.toList (a.toList.drop ia) (b.toList.drop ib)) (e:ia+1=a.size):Mg W (o++b.extract ib b.size++a.extract ia a.size).toList:=by
 rw [Array.toList_append,Array.toList_append,Q4,Q4]
 refine h.fin' fun x hx y hy=>?_
 obtain⟨i,hi1,hi2,hi3,_⟩:=zfu hy
 have:i=a.size-1:=by omega
 subst this
 exact pre.hi y hi3 x (List.mem_of_mem_drop hx)
theorem V4 {a:Array Keyed} (h:a.toList.Pairwise LE){i:Nat}{x:Keyed} (hx:a[i]?=some x){y:Keyed} (hy:y∈a.toList.drop i):LE x y:=by
 obtain⟨j,h1,h2,h3,h4⟩:=zfu hy
 show kx x≤kx y
 rw [h4,show kx x=K a i by unfold K;rw [hx]]
 exact Q3 h h1 h2
end
section
variable {prog:Program}{w:World}{A:Around}{E:Value→Shared→Prop}{s:Shared}
theorem Q6 {st:SortSt}{g:Nat}{Q:Unit→SortSt→Prop} (h:∀st',GS st st'→Q () st'):wpS (model prog w) A E s (Y9 g) Q st:=by
 rw [zet]
 exact wpS_modify (h _ ⟨rfl,rfl,rfl,rfl⟩)
end
end SB
namespace SB
open PySem PyProof.Rows
section
variable {prog:Program}{w:World}{A:Around}{E:Value→Shared→Prop}{s:Shared}
noncomputable def LoI (a b o:Array Keyed) (ia ib:Nat):Prop:=MI (a.toList++b.toList) o.toList (a.toList.drop ia) (b.toList.drop ib)∧ia+1<a.size∧ib<b.size
theorem zbz {st:SortSt}{a b:Array Keyed}{Q:Array Keyed→SortSt→Prop} (hk:kindOf st=oneType') (pre:Pre a b)
  (h:∀m st',Mg (a.toList++b.toList) m.toList→GS st st'→Q m st'):wpS (model prog w) A E s (Ks a b) Q st:=by
 rw [zbw]
 refine wpS_bind (wpS_lift (wpAny_rule ⟨rfl,?_⟩))
 obtain⟨b0,hb0,_⟩:=xM pre.kb pre.nb
 refine wpS_bind (zN hb0 ?_)
 dsimp only
 have h0:MI (a.toList++b.toList) (#[]:Array Keyed).toList (a.toList.drop 0) (b.toList.drop 0):=⟨List.Pairwise.nil,pre.sa,pre.sb,(fun _ z=>nomatch z),(fun _ z=>nomatch z),List.Perm.refl _⟩
 have h1:MI (a.toList++b.toList) (#[b0]:Array Keyed).toList (a.toList.drop 0) (b.toList.drop 1):=zcv h0 hb0 fun y hy=>pre.lo b0 hb0 y hy
 by_cases e1:1=b.size
 ·rw [if_pos (by simpa using e1)]
  exact wpS_pure (h _ _ (zdb h1 e1) (GS.refl _))
 rw [if_neg (by simpa using e1)]
 by_cases e2:0+1=a.size
 ·rw [if_pos (by simpa using e2)]
  exact wpS_pure (h _ _ (zdc pre h1 e2) (GS.refl _))
 rw [if_neg (by simpa using e2)]
 have na:=pre.na
 have nb:=pre.nb
 have L1:LoI a b #[b0] 0 1:=⟨h1,by omega,by omega⟩
 refine wpS_bind (wpS_get ?_)
 generalize gallopOf st=mg0
 refine wpS_bind (wpS_mono (wpS_forRange (I:=fun x c st'=>GS st st'∧∃o ia ib mg,c=(none,o,ia,ib,mg)∧LoI a b o ia ib∧x≤ia+ib)
  (Q:=fun c st'=>GS st st'∧∃m o ia ib mg,c=(some m,o,ia,ib,mg)∧Mg (a.toList++b.toList) m.toList) ?step ?fin ⟨GS.refl _,_,_,_,_,rfl,L1,by omega⟩) ?post)
 case post=>
  rintro c st' ⟨g,m,o,ia,ib,mg,rfl,hm⟩
  exact wpS_pure (h m st' hm g)
 case fin=>
  rintro c st' ⟨g,o,ia,ib,mg,rfl,⟨_,h2,h3⟩,hx⟩
  exfalso
  omega
 case step=>
  rintro x c st1 _ hx ⟨g1,o1,ia1,ib1,mg1,rfl,L1,p1⟩
  dsimp only
  have hk1:kindOf st1=oneType':=g1.1.trans hk
  refine wpS_bind (wpS_mono (wpS_forRange (I:=fun y c st'=>st'=st1∧∃o ia ib ac bc,c=(none,o,ia,ib,ac,bc)∧LoI a b o ia ib∧ia+ib=ia1+ib1+y)
   (Q:=fun c st'=>st'=st1∧((∃m o ia ib ac bc,c=(some m,o,ia,ib,ac,bc)∧Mg (a.toList++b.toList) m.toList)∨(∃o ia ib ac bc,c=(none,o,ia,ib,ac,bc)∧LoI a b o ia ib∧ia1+ib1+1≤ia+ib))) ?s2 ?f2 ⟨rfl,_,_,_,_,_,rfl,L1,by omega⟩) ?p2)
  case f2=>
   rintro c st' ⟨rfl,o,ia,ib,ac,bc,rfl,⟨m1,m2,m3⟩,hy⟩
   exfalso
   omega
  case s2=>
   rintro y c st' _ hy ⟨rfl,o,ia,ib,ac,bc,rfl,⟨m1,m2,m3⟩,hp⟩
   dsimp only
   obtain⟨bx,hbx,kbx⟩:=xM pre.kb m3
   obtain⟨ax,hax,kax⟩:=xM pre.ka (show ia<a.size by omega)
   refine wpS_bind (zN hbx (wpS_bind (zN hax (wpS_bind (Kr hk1 kbx kax ?_)))))
   by_cases hw:kx bx<kx ax
   ·simp only [hw,decide_true,if_true]
    refine wpS_bind (zN hbx ?_)
    have M:MI (a.toList++b.toList) (o.push bx).toList (a.toList.drop ia) (b.toList.drop (ib+1)):=zcv m1 hbx fun z hz=>Int.le_trans (Int.le_of_lt hw) (V4 pre.sa hax hz)
    by_cases e1:ib+1=b.size
    ·rw [if_pos (by simpa using e1)]
     exact wpS_pure ⟨rfl,.inl ⟨_,_,_,_,_,_,rfl,zdb M e1⟩⟩
    rw [if_neg (by simpa using e1)]
    by_cases e2:bc+1 ≥ mg1
    ·rw [if_pos e2]
     exact wpS_pure ⟨rfl,.inr ⟨_,_,_,_,_,rfl,⟨M,m2,by omega⟩,by omega⟩⟩
    ·rw [if_neg e2]
     exact wpS_pure ⟨rfl,_,_,_,_,_,rfl,⟨M,m2,by omega⟩,by omega⟩
   ·simp only [hw,decide_false,Bool.false_eq_true,if_false]
    refine wpS_bind (zN hax ?_)
    have M:MI (a.toList++b.toList) (o.push ax).toList (a.toList.drop (ia+1)) (b.toList.drop ib):=zeu m1 hax fun z hz=>Int.le_trans (Int.not_lt.mp hw) (V4 pre.sb hbx hz)
    by_cases e1:ia+1+1=a.size
    ·rw [if_pos (by simpa using e1)]
     exact wpS_pure ⟨rfl,.inl ⟨_,_,_,_,_,_,rfl,zdc pre M e1⟩⟩
    rw [if_neg (by simpa using e1)]
    by_cases e2:ac+1 ≥ mg1
    ·rw [if_pos e2]
     exact wpS_pure ⟨rfl,.inr ⟨_,_,_,_,_,rfl,⟨M,by omega,m3⟩,by omega⟩⟩
    ·rw [if_neg e2]
     exact wpS_pure ⟨rfl,_,_,_,_,_,rfl,⟨M,by omega,m3⟩,by omega⟩
  case p2=>
   rintro c st' ⟨rfl,⟨m,o,ia,ib,ac,bc,rfl,hm⟩ | ⟨o2,ia2,ib2,ac2,bc2,rfl,L2,p2⟩⟩
   ·dsimp only
    exact wpS_pure ⟨g1,_,_,_,_,_,rfl,hm⟩
   ·dsimp only
    refine wpS_bind (wpS_lift (wpAny_rule ⟨rfl,?_⟩))
    refine wpS_bind (wpS_mono (wpS_forRange (I:=fun y c st''=>GS st st''∧∃o ia ib mg ac bc,c=(none,o,ia,ib,mg,ac,bc)∧LoI a b o ia ib∧ia2+ib2≤ia+ib)
     (Q:=fun c st''=>GS st st''∧((∃m o ia ib mg ac bc,c=(some m,o,ia,ib,mg,ac,bc)∧Mg (a.toList++b.toList) m.toList)∨(∃o ia ib mg ac bc,c=(none,o,ia,ib,mg,ac,bc)∧LoI a b o ia ib∧ia2+ib2≤ia+ib))) ?s3 ?f3 ⟨g1,_,_,_,_,_,_,rfl,L2,by omega⟩) ?p3)
    case f3=>
     rintro c st'' ⟨g,o,ia,ib,mg,ac,bc,rfl,L,hp⟩
     exact⟨g,.inr ⟨_,_,_,_,_,_,rfl,L,hp⟩⟩
    case p3=>
     rintro c st'' ⟨g,⟨m,o,ia,ib,mg,ac,bc,rfl,hm⟩ | ⟨o3,ia3,ib3,mg3,ac3,bc3,rfl,L3,p3⟩⟩
     ·dsimp only
      exact wpS_pure ⟨g,_,_,_,_,_,rfl,hm⟩
     ·dsimp only
      refine wpS_bind (Q6 fun st3 g3=>wpS_pure ⟨g.trans g3,_,_,_,_,rfl,L3,by omega⟩)
    case s3=>
     rintro y c st'' _ hy ⟨g,o,ia,ib,mg,ac,bc,rfl,⟨m1,m2,m3⟩,hp⟩
     dsimp only
     have hkk:∀{st3:SortSt},GS st'' st3→kindOf st3=oneType':=fun g3=>(g3.1.trans g.1).trans hk
     obtain⟨bx,hbx,kbx⟩:=xM pre.kb m3
     have sA:∀i j,i≤j→j<a.size-ia→K a (ia+i)≤K a (ia+j):=fun i j hij hj=>Q3 pre.sa (by omega) (by omega)
     by_cases hmg:mg > 1
     case' pos=>rw [if_pos hmg]
     case' neg=>rw [if_neg hmg]
     all_goals
      refine wpS_bind (Q6 fun st3 g3=>?_)
      have hk3:=hkk g3
      have gg:=g.trans g3
      refine wpS_bind (zN hbx (wpS_bind (vR hk3 kbx (fun i hi=>xM pre.ka (by omega)) sA (by omega) fun k k1 k2 k3=>?_)))
      dsimp only
      have c1:∀j,j<k→∀z∈b.toList.drop ib,K a (ia+j)≤kx z:=fun j hj z hz=>by
       have:=k2 j hj
       unfold bb at this
       rw [if_neg (by decide),Bool.not_eq_true',decide_eq_false_iff_not] at this
       have:=V4 pre.sb hbx hz
       omega
      have c2:∀z∈a.toList.drop (ia+k),LE bx z:=fun z hz=>by
       obtain⟨i,h1,h2,h3,h4⟩:=zfu hz
       have:=k3 (i-ia) (by omega) (by omega)
       unfold bb at this
       rw [if_neg (by decide),Bool.not_eq_false',decide_eq_true_eq,show ia+(i-ia)=i by omega,← h4] at this
       exact Int.le_of_lt this
      have M:=zhg (k:=k) m1 c1
      by_cases hkp:k > 0
      case' neg=>
       rw [if_neg hkp]
       have k0:k=0:=by omega
       subst k0
       have M':MI (a.toList++b.toList) o.toList (a.toList.drop ia) (b.toList.drop ib):=m1
       have hia:ia+1<a.size:=m2
       have c3:∀z∈a.toList.drop ia,LE bx z:=c2
       have hp':ia2+ib2≤ia+ib:=hp
       generalize o=o',ia=ia' at M' hia c3 hp' ⊢
      case' pos=>
       rw [if_pos hkp]
       by_cases e1:ia+k+1=a.size
       ·rw [if_pos (by simpa using e1)]
        exact wpS_pure ⟨gg,.inl ⟨_,_,_,_,_,_,_,rfl,zdc pre M e1⟩⟩
       rw [if_neg (by simpa using e1)]
       by_cases e2:ia+k=a.size
       ·rw [if_pos (by simpa using e2)]
        exact wpS_pure ⟨gg,.inl ⟨_,_,_,_,_,_,_,rfl,zhi M e2⟩⟩
       rw [if_neg (by simpa using e2)]
       have M':=M
       have hia:ia+k+1<a.size:=by omega
       have c3:=c2
       have hp':ia2+ib2≤(ia+k)+ib:=by omega
       generalize o++a.extract ia (ia+k)=o',ia+k=ia' at M' hia c3 hp' ⊢
      all_goals
       refine wpS_bind (zN hbx ?_)
       have N:=zcv M' hbx c3
       by_cases e1:ib+1=b.size
       ·rw [if_pos (by simpa using e1)]
        exact wpS_pure ⟨gg,.inl ⟨_,_,_,_,_,_,_,rfl,zdb N e1⟩⟩
       rw [if_neg (by simpa using e1)]
       obtain⟨ax,hax,kax⟩:=xM pre.ka (show ia'<a.size by omega)
       refine wpS_bind (zN hax (wpS_bind (vR hk3 kax (fun i hi=>xM pre.kb (by omega)) (fun i j hij hj=>Q3 pre.sb (by omega) (by omega)) (by omega) fun kk q1 q2 q3=>?_)))
       dsimp only
       have d1:∀j,j<kk→∀z∈a.toList.drop ia',K b (ib+1+j)≤kx z:=fun j hj z hz=>by
        have:=q2 j hj
        unfold bb at this
        rw [if_pos rfl,decide_eq_true_eq] at this
        have:=V4 pre.sa hax hz
        omega
       have d2:∀z∈b.toList.drop (ib+1+kk),LE ax z:=fun z hz=>by
        obtain⟨i,h1,h2,h3,h4⟩:=zfu hz
        have:=q3 (i-(ib+1)) (by omega) (by omega)
        unfold bb at this
        rw [if_pos rfl,decide_eq_false_iff_not,show ib+1+(i-(ib+1))=i by omega,← h4] at this
        exact Int.not_lt.mp this
       have R:=zhh (k:=kk) N d1
       by_cases hkq:kk > 0
       case' neg=>
        rw [if_neg hkq]
        have k0:kk=0:=by omega
        subst k0
        have R':=N
        have hib:ib+1<b.size:=by omega
        have d3:∀z∈b.toList.drop (ib+1),LE ax z:=d2
        have hp2:ia2+ib2≤ia'+(ib+1):=by omega
        generalize o'.push bx=o'',ib+1=ib' at R' hib d3 hp2 ⊢
       case' pos=>
        rw [if_pos hkq]
        by_cases e2:ib+1+kk=b.size
        ·rw [if_pos (by simpa using e2)]
         exact wpS_pure ⟨gg,.inl ⟨_,_,_,_,_,_,_,rfl,zdb R e2⟩⟩
        rw [if_neg (by simpa using e2)]
        have R':=R
        have hib:ib+1+kk<b.size:=by omega
        have d3:=d2
        have hp2:ia2+ib2≤ia'+(ib+1+kk):=by omega
        generalize o'.push bx++b.extract (ib+1) (ib+1+kk)=o'',ib+1+kk=ib' at R' hib d3 hp2 ⊢
       all_goals
        refine wpS_bind (zN hax ?_)
        have F:=zeu R' hax d3
        by_cases e3:ia'+1+1=a.size
        ·rw [if_pos (by simpa using e3)]
         exact wpS_pure ⟨gg,.inl ⟨_,_,_,_,_,_,_,rfl,zdc pre F e3⟩⟩
        rw [if_neg (by simpa using e3)]
        split
        ·exact wpS_pure ⟨gg,.inr ⟨_,_,_,_,_,_,rfl,⟨F,by omega,hib⟩,by omega⟩⟩
        ·exact wpS_pure ⟨gg,_,_,_,_,_,_,rfl,⟨F,by omega,hib⟩,by omega⟩
end
end SB
namespace SB
open PySem PyProof.Rows
section
variable {W V:List Keyed}{o a b:Array Keyed}{na nb p:Nat}{x:Keyed}
theorem zaG (h:MJ W (a.toList.take (na+1)) V o.toList.reverse) (hx:a[na]?=some x) (c:∀y∈V,LE y x):MJ W (a.toList.take na) V (o.push x).toList.reverse:=by
 rw [zf8 hx] at h
 rw [Array.toList_push,List.reverse_append]
 exact MJ.takeU (U2:=[x]) h fun y hy z hz=>by rw [List.mem_singleton.mp hz];exact c y hy
theorem zdd (h:MJ W V (b.toList.take (nb+1)) o.toList.reverse) (hx:b[nb]?=some x) (c:∀y∈V,LE y x):MJ W V (b.toList.take nb) (o.push x).toList.reverse:=by
 rw [zf8 hx] at h
 rw [Array.toList_push,List.reverse_append]
 exact MJ.takeV (V2:=[x]) h fun y hy z hz=>by rw [List.mem_singleton.mp hz];exact c y hy
theorem ZX {a:Array Keyed}{p n:Nat} (hp:p≤n):a.toList.take n=a.toList.take p++(a.extract p n).toList:=by
 rw [Array.toList_extract,List.extract_eq_take_drop,← List.drop_take]
 have:=List.take_append_drop p (a.toList.take n)
 rw [List.take_take,Nat.min_eq_left hp] at this
 exact this.symm
theorem part_mem {a:Array Keyed}{p n:Nat}{z:Keyed} (hz:z∈(a.extract p n).toList):∃i,p≤i∧i<n∧i<a.size∧kx z=K a i:=by
 rw [Array.toList_extract,List.extract_eq_take_drop] at hz
 obtain⟨j,h1,h2,h3⟩:=XJ hz
 exact⟨p+j,by omega,by omega,h2,h3⟩
theorem zgs (h:MJ W (a.toList.take na) V o.toList.reverse) (hp:p≤na) (c:∀i,p≤i→i<na→∀y∈V,kx y≤K a i):MJ W (a.toList.take p) V (o++(a.extract p na).reverse).toList.reverse:=by
 rw [ZX hp] at h
 rw [Array.toList_append,List.reverse_append,Array.toList_reverse,List.reverse_reverse]
 refine MJ.takeU h fun y hy z hz=>?_
 obtain⟨i,h1,h2,h3,h4⟩:=part_mem hz
 show kx y≤kx z
 rw [h4]
 exact c i h1 h2 y hy
theorem zgt (h:MJ W V (b.toList.take nb) o.toList.reverse) (hp:p≤nb) (c:∀i,p≤i→i<nb→∀y∈V,kx y≤K b i):MJ W V (b.toList.take p) (o++(b.extract p nb).reverse).toList.reverse:=by
 rw [ZX hp] at h
 rw [Array.toList_append,List.reverse_append,Array.toList_reverse,List.reverse_reverse]
 refine MJ.takeV h fun y hy z hz=>?_
 obtain⟨i,h1,h2,h3,h4⟩:=part_mem hz
 show kx y≤kx z
 rw [h4]
 exact c i h1 h2 y hy
theorem zaH (h:MJ W (a.toList.take na) (b.toList.take nb) o.toList.reverse) (e:na=0):Mg W (a.extract 0 na++b.extract 0 nb++o.reverse).toList:=by
 rw [Array.toList_append,Array.toList_append,Q5,Q5,Array.toList_reverse]
 refine h.fin fun x hx y _=>?_
 rw [e,List.take_zero] at hx
 cases hx
theorem zgu (h:MJ W (a.toList.take na) (b.toList.take nb) o.toList.reverse) (e:nb=0):Mg W (a.extract 0 na++b.extract 0 nb++o.reverse).toList:=by
 rw [Array.toList_append,Array.toList_append,Q5,Q5,Array.toList_reverse]
 refine h.fin fun x _ y hy=>?_
 rw [e,List.take_zero] at hy
 cases hy
theorem zaI (pre:Pre a b) (h:MJ W (a.toList.take na) (b.toList.take nb) o.toList.reverse) (e:nb=1):Mg W (b.extract 0 nb++a.extract 0 na++o.reverse).toList:=by
 rw [Array.toList_append,Array.toList_append,Q5,Q5,Array.toList_reverse]
 refine h.fin' fun x hx y hy=>?_
 obtain⟨i,hi1,hi2,hi3,_⟩:=zda hx
 have:i=0:=by omega
 subst this
 exact pre.lo x hi3 y (List.mem_of_mem_take hy)
theorem V5 {a:Array Keyed} (h:a.toList.Pairwise LE){i:Nat}{x:Keyed} (hx:a[i]?=some x){y:Keyed} (hy:y∈a.toList.take (i+1)):LE y x:=by
 obtain⟨j,h1,h2,h3,h4⟩:=zda hy
 show kx y≤kx x
 rw [h4,show kx x=K a i by unfold K;rw [hx]]
 have hi:i<a.size:=by
  by_cases z:i<a.size
  ·exact z
  ·rw [getElem?_neg _ i z] at hx;cases hx
 exact Q3 h (by omega) hi
end
section
variable {prog:Program}{w:World}{A:Around}{E:Value→Shared→Prop}{s:Shared}
noncomputable def HiI (a b o:Array Keyed) (na nb:Nat):Prop:=MJ (a.toList++b.toList) (a.toList.take na) (b.toList.take nb) o.toList.reverse∧1≤na∧na<a.size∧2≤nb∧nb≤b.size
theorem zbA {st:SortSt}{a b:Array Keyed}{Q:Array Keyed→SortSt→Prop} (hk:kindOf st=oneType') (pre:Pre a b)
  (h:∀m st',Mg (a.toList++b.toList) m.toList→GS st st'→Q m st'):wpS (model prog w) A E s (Ku a b) Q st:=by
 rw [zbx]
 refine wpS_bind (wpS_lift (wpAny_rule ⟨rfl,?_⟩))
 have na0:=pre.na
 have nb0:=pre.nb
 obtain⟨al,hal,_⟩:=xM pre.ka (show a.size-1<a.size by omega)
 refine wpS_bind (zN hal ?_)
 dsimp only
 have h0:MJ (a.toList++b.toList) (a.toList.take (a.size-1+1)) (b.toList.take b.size) (#[]:Array Keyed).toList.reverse:=by
  rw [show a.size-1+1=a.toList.length by rw [Array.length_toList];omega,List.take_length,show b.size=b.toList.length from (Array.length_toList).symm,List.take_length]
  exact⟨List.Pairwise.nil,pre.sa,pre.sb,(fun _ _ _ z=>nomatch z),(fun _ _ _ z=>nomatch z),by rw [show (#[]:Array Keyed).toList.reverse=[] from rfl,List.append_nil]⟩
 have h1:MJ (a.toList++b.toList) (a.toList.take (a.size-1)) (b.toList.take b.size) (#[al]:Array Keyed).toList.reverse:=zaG h0 hal fun y hy=>pre.hi al hal y (List.mem_of_mem_take hy)
 by_cases e1:a.size-1=0
 ·rw [if_pos (by simpa using e1)]
  exact wpS_pure (h _ _ (zaH h1 e1) (GS.refl _))
 rw [if_neg (by simpa using e1)]
 by_cases e2:b.size=1
 ·rw [if_pos (by simpa using e2)]
  exact wpS_pure (h _ _ (zaI pre h1 e2) (GS.refl _))
 rw [if_neg (by simpa using e2)]
 have L1:HiI a b #[al] (a.size-1) b.size:=⟨h1,by omega,by omega,by omega,Nat.le_refl _⟩
 refine wpS_bind (wpS_get ?_)
 generalize gallopOf st=mg0
 refine wpS_bind (wpS_mono (wpS_forRange (I:=fun x c st'=>GS st st'∧∃na nb o mg,c=(none,na,nb,o,mg)∧HiI a b o na nb∧na+nb+x≤a.size+b.size)
  (Q:=fun c st'=>GS st st'∧∃m na nb o mg,c=(some m,na,nb,o,mg)∧Mg (a.toList++b.toList) m.toList) ?step ?fin ⟨GS.refl _,_,_,_,_,rfl,L1,by omega⟩) ?post)
 case post=>
  rintro c st' ⟨g,m,na,nb,o,mg,rfl,hm⟩
  exact wpS_pure (h m st' hm g)
 case fin=>
  rintro c st' ⟨g,na,nb,o,mg,rfl,⟨_,h2,h3,h4,h5⟩,hx⟩
  exfalso
  omega
 case step=>
  rintro x c st1 _ hx ⟨g1,na1,nb1,o1,mg1,rfl,L1,p1⟩
  dsimp only
  have hk1:kindOf st1=oneType':=g1.1.trans hk
  refine wpS_bind (wpS_mono (wpS_forRange (I:=fun y c st'=>st'=st1∧∃na nb o ac bc,c=(none,na,nb,o,ac,bc)∧HiI a b o na nb∧na+nb+y=na1+nb1)
   (Q:=fun c st'=>st'=st1∧((∃m na nb o ac bc,c=(some m,na,nb,o,ac,bc)∧Mg (a.toList++b.toList) m.toList)∨(∃na nb o ac bc,c=(none,na,nb,o,ac,bc)∧HiI a b o na nb∧na+nb+1≤na1+nb1))) ?s2 ?f2 ⟨rfl,_,_,_,_,_,rfl,L1,by omega⟩) ?p2)
  case f2=>
   rintro c st' ⟨rfl,na,nb,o,ac,bc,rfl,⟨m1,m2,m3,m4,m5⟩,hy⟩
   obtain⟨_,n2,n3,n4,n5⟩:=L1
   exfalso
   omega
  case s2=>
   rintro y c st' _ hy ⟨rfl,na,nb,o,ac,bc,rfl,⟨m1,m2,m3,m4,m5⟩,hp⟩
   dsimp only
   obtain⟨n',rfl⟩:∃n',na=n'+1:=⟨na-1,by omega⟩
   obtain⟨k',rfl⟩:∃k',nb=k'+1:=⟨nb-1,by omega⟩
   simp only [Nat.add_sub_cancel]
   obtain⟨bx,hbx,kbx⟩:=xM pre.kb (show k'<b.size by omega)
   obtain⟨ax,hax,kax⟩:=xM pre.ka (show n'<a.size by omega)
   refine wpS_bind (zN hbx (wpS_bind (zN hax (wpS_bind (Kr hk1 kbx kax ?_)))))
   by_cases hw:kx bx<kx ax
   ·simp only [hw,decide_true,if_true]
    refine wpS_bind (zN hax ?_)
    have M:=zaG m1 hax fun z hz=>Int.le_trans (V5 pre.sb hbx hz) (Int.le_of_lt hw)
    by_cases e1:n'=0
    ·rw [if_pos (by simpa using e1)]
     exact wpS_pure ⟨rfl,.inl ⟨_,_,_,_,_,_,rfl,zaH M e1⟩⟩
    rw [if_neg (by simpa using e1)]
    by_cases e2:ac+1 ≥ mg1
    ·rw [if_pos e2]
     exact wpS_pure ⟨rfl,.inr ⟨_,_,_,_,_,rfl,⟨M,by omega,by omega,m4,m5⟩,by omega⟩⟩
    ·rw [if_neg e2]
     exact wpS_pure ⟨rfl,_,_,_,_,_,rfl,⟨M,by omega,by omega,m4,m5⟩,by omega⟩
   ·simp only [hw,decide_false,Bool.false_eq_true,if_false]
    refine wpS_bind (zN hbx ?_)
    have M:=zdd m1 hbx fun z hz=>Int.le_trans (V5 pre.sa hax hz) (Int.not_lt.mp hw)
    by_cases e1:k'=1
    ·rw [if_pos (by simpa using e1)]
     exact wpS_pure ⟨rfl,.inl ⟨_,_,_,_,_,_,rfl,zaI pre M e1⟩⟩
    rw [if_neg (by simpa using e1)]
    by_cases e2:bc+1 ≥ mg1
    ·rw [if_pos e2]
     exact wpS_pure ⟨rfl,.inr ⟨_,_,_,_,_,rfl,⟨M,m2,m3,by omega,by omega⟩,by omega⟩⟩
    ·rw [if_neg e2]
     exact wpS_pure ⟨rfl,_,_,_,_,_,rfl,⟨M,m2,m3,by omega,by omega⟩,by omega⟩
  case p2=>
   rintro c st' ⟨rfl,⟨m,na,nb,o,ac,bc,rfl,hm⟩ | ⟨na2,nb2,o2,ac2,bc2,rfl,L2,p2⟩⟩
   ·dsimp only
    exact wpS_pure ⟨g1,_,_,_,_,_,rfl,hm⟩
   ·dsimp only
    refine wpS_bind (wpS_lift (wpAny_rule ⟨rfl,?_⟩))
    refine wpS_bind (wpS_mono (wpS_forRange (I:=fun y c st''=>GS st st''∧∃na nb o mg ac bc,c=(none,na,nb,o,mg,ac,bc)∧HiI a b o na nb∧na+nb≤na2+nb2)
     (Q:=fun c st''=>GS st st''∧((∃m na nb o mg ac bc,c=(some m,na,nb,o,mg,ac,bc)∧Mg (a.toList++b.toList) m.toList)∨(∃na nb o mg ac bc,c=(none,na,nb,o,mg,ac,bc)∧HiI a b o na nb∧na+nb≤na2+nb2))) ?s3 ?f3 ⟨g1,_,_,_,_,_,_,rfl,L2,by omega⟩) ?p3)
    case f3=>
     rintro c st'' ⟨g,na,nb,o,mg,ac,bc,rfl,L,hp⟩
     exact⟨g,.inr ⟨_,_,_,_,_,_,rfl,L,hp⟩⟩
    case p3=>
     rintro c st'' ⟨g,⟨m,na,nb,o,mg,ac,bc,rfl,hm⟩ | ⟨na3,nb3,o3,mg3,ac3,bc3,rfl,L3,p3⟩⟩
     ·dsimp only
      exact wpS_pure ⟨g,_,_,_,_,_,rfl,hm⟩
     ·dsimp only
      refine wpS_bind (Q6 fun st3 g3=>wpS_pure ⟨g.trans g3,_,_,_,_,rfl,L3,by omega⟩)
    case s3=>
     rintro y c st'' _ hy ⟨g,na,nb,o,mg,ac,bc,rfl,⟨m1,m2,m3,m4,m5⟩,hp⟩
     dsimp only
     have hkk:∀{st3:SortSt},GS st'' st3→kindOf st3=oneType':=fun g3=>(g3.1.trans g.1).trans hk
     obtain⟨k',rfl⟩:∃k',nb=k'+1:=⟨nb-1,by omega⟩
     simp only [Nat.add_sub_cancel]
     obtain⟨bx,hbx,kbx⟩:=xM pre.kb (show k'<b.size by omega)
     by_cases hmg:mg > 1
     case' pos=>rw [if_pos hmg]
     case' neg=>rw [if_neg hmg]
     all_goals
      refine wpS_bind (Q6 fun st3 g3=>?_)
      have hk3:=hkk g3
      have gg:=g.trans g3
      refine wpS_bind (zN hbx (wpS_bind (vR hk3 kbx (fun i hi=>by rw [Nat.zero_add];exact xM pre.ka (by omega)) (fun i j hij hj=>by rw [Nat.zero_add,Nat.zero_add];exact Q3 pre.sa hij (by omega)) (by omega) fun p q1 q2 q3=>?_)))
      dsimp only
      have c1:∀i,p≤i→i<na→∀z∈b.toList.take (k'+1),kx z≤K a i:=fun i hi hin z hz=>by
       have:=q3 i hi hin
       unfold bb at this
       rw [if_neg (by decide),Bool.not_eq_false',decide_eq_true_eq,Nat.zero_add] at this
       have:=V5 pre.sb hbx hz
       omega
      have c2:∀z∈a.toList.take p,LE z bx:=fun z hz=>by
       obtain⟨i,h1,h2,h3,h4⟩:=zda hz
       have:=q2 i h1
       unfold bb at this
       rw [if_neg (by decide),Bool.not_eq_true',decide_eq_false_iff_not,Nat.zero_add,← h4] at this
       exact Int.not_lt.mp this
      have M:=zgs (p:=p) m1 q1 c1
      by_cases hkp:na-p > 0
      case' neg=>
       rw [if_neg hkp]
       have k0:p=na:=by omega
       subst k0
       have M':MJ (a.toList++b.toList) (a.toList.take p) (b.toList.take (k'+1)) o.toList.reverse:=m1
       have hia:1≤p:=m2
       have hib:p<a.size:=m3
       have c3:∀z∈a.toList.take p,LE z bx:=c2
       have hp':p+(k'+1)≤na2+nb2:=hp
       generalize o=o',p=na' at M' hia hib c3 hp' ⊢
      case' pos=>
       rw [if_pos hkp]
       by_cases e1:p=0
       ·rw [if_pos (by simpa using e1)]
        exact wpS_pure ⟨gg,.inl ⟨_,_,_,_,_,_,_,rfl,zaH M e1⟩⟩
       rw [if_neg (by simpa using e1)]
       have M':=M
       have hia:1≤p:=by omega
       have hib:p<a.size:=by omega
       have c3:=c2
       have hp':p+(k'+1)≤na2+nb2:=by omega
       generalize o++(a.extract p na).reverse=o',p=na' at M' hia hib c3 hp' ⊢
      all_goals
       refine wpS_bind (zN hbx ?_)
       have N:=zdd M' hbx c3
       by_cases e1:k'=1
       ·rw [if_pos (by simpa using e1)]
        exact wpS_pure ⟨gg,.inl ⟨_,_,_,_,_,_,_,rfl,zaI pre N e1⟩⟩
       rw [if_neg (by simpa using e1)]
       obtain⟨n',rfl⟩:∃n',na'=n'+1:=⟨na'-1,by omega⟩
       simp only [Nat.add_sub_cancel]
       obtain⟨ax,hax,kax⟩:=xM pre.ka (show n'<a.size by omega)
       refine wpS_bind (zN hax (wpS_bind (vR hk3 kax (fun i hi=>by rw [Nat.zero_add];exact xM pre.kb (by omega)) (fun i j hij hj=>by rw [Nat.zero_add,Nat.zero_add];exact Q3 pre.sb hij (by omega)) (by omega) fun r u1 u2 u3=>?_)))
       dsimp only
       have d1:∀i,r≤i→i<k'→∀z∈a.toList.take (n'+1),kx z≤K b i:=fun i hi hin z hz=>by
        have:=u3 i hi hin
        unfold bb at this
        rw [if_pos rfl,decide_eq_false_iff_not,Nat.zero_add] at this
        have:=V5 pre.sa hax hz
        omega
       have d2:∀z∈b.toList.take r,LE z ax:=fun z hz=>by
        obtain⟨i,h1,h2,h3,h4⟩:=zda hz
        have:=u2 i h1
        unfold bb at this
        rw [if_pos rfl,decide_eq_true_eq,Nat.zero_add,← h4] at this
        exact Int.le_of_lt this
       have R:=zgt (p:=r) N u1 d1
       by_cases hkq:k'-r > 0
       case' neg=>
        rw [if_neg hkq]
        have k0:r=k':=by omega
        subst k0
        have R':=N
        have hb2:2≤r:=by omega
        have hb3:r≤b.size:=by omega
        have d3:∀z∈b.toList.take r,LE z ax:=d2
        have hp2:n'+1+r≤na2+nb2:=by omega
        generalize o'.push bx=o'',r=nb' at R' hb2 hb3 d3 hp2 ⊢
       case' pos=>
        rw [if_pos hkq]
        by_cases e2:r=1
        ·rw [if_pos (by simpa using e2)]
         exact wpS_pure ⟨gg,.inl ⟨_,_,_,_,_,_,_,rfl,zaI pre R e2⟩⟩
        rw [if_neg (by simpa using e2)]
        by_cases e4:r=0
        ·rw [if_pos (by simpa using e4)]
         exact wpS_pure ⟨gg,.inl ⟨_,_,_,_,_,_,_,rfl,zgu R e4⟩⟩
        rw [if_neg (by simpa using e4)]
        have R':=R
        have hb2:2≤r:=by omega
        have hb3:r≤b.size:=by omega
        have d3:=d2
        have hp2:n'+1+r≤na2+nb2:=by omega
        generalize o'.push bx++(b.extract r k').reverse=o'',r=nb' at R' hb2 hb3 d3 hp2 ⊢
       all_goals
        refine wpS_bind (zN hax ?_)
        have F:=zaG R' hax d3
        by_cases e3:n'=0
        ·rw [if_pos (by simpa using e3)]
         exact wpS_pure ⟨gg,.inl ⟨_,_,_,_,_,_,_,rfl,zaH F e3⟩⟩
        rw [if_neg (by simpa using e3)]
        split
        ·exact wpS_pure ⟨gg,.inr ⟨_,_,_,_,_,_,rfl,⟨F,by omega,by omega,hb2,hb3⟩,by omega⟩⟩
        ·exact wpS_pure ⟨gg,_,_,_,_,_,_,rfl,⟨F,by omega,by omega,hb2,hb3⟩,by omega⟩
end
end SB
namespace SB
open PySem PyProof.Rows
theorem zbB (i:Nat):mergeAt' i=(do
 let x ← get
 let (some (sa,na,pw),some (sb,nb,_)):=((pendingOf x)[i]?,(pendingOf x)[i+1]?) | unsupported "internal:list.sort.pending"
 set (setPending x (((pendingOf x).setIfInBounds i (sa,na+nb,pw)).eraseIdxIfInBounds (i+1)))
 let some k ← Zc false (← elem' (arrOf x) sb) (arrOf x) sa na 0 | return false
 let (sa,na):=(sa+k,na-k)
 if na == 0 then return true
 let some nb ← Zc true (← elem' (arrOf x) (sa+na-1)) (arrOf x) sb nb (nb-1) | return false
 if nb == 0 then return true
 let u:=(arrOf x).extract sa sb
 let v:=(arrOf x).extract sb (sb+nb)
 let m ← if na≤nb then Ks u v else Ku u v
 modify fun x=>setArr x (m.toList.zipIdx.foldl (fun c (p,j)=>c.setIfInBounds (sa+j) p) (arrOf x))
 return (failedOf (← get)).isNone):=rfl
theorem zbC (s:Nat):∀(l:List Keyed) (j0:Nat) (xs:Array Keyed),s+j0+l.length≤xs.size→((l.zipIdx j0).foldl (fun c p=>c.setIfInBounds (s+p.2) p.1) xs).toList=xs.toList.take (s+j0)++l++xs.toList.drop (s+j0+l.length)
 | [],j0,xs,_=>by simp
 | x::r,j0,xs,h=>by
  rw [List.length_cons] at h
  rw [List.zipIdx_cons,List.foldl_cons,zbC s r (j0+1) _ (by rw [Array.size_setIfInBounds];omega)]
  have e:(xs.setIfInBounds (s+j0) x).toList=xs.toList.set (s+j0) x:=Array.toList_setIfInBounds ..
  show List.take (s+(j0+1)) (xs.setIfInBounds (s+j0) x).toList++r++List.drop (s+(j0+1)+r.length) (xs.setIfInBounds (s+j0) x).toList=_
  rw [e,show s+(j0+1)=s+j0+1 by omega,List.take_add_one,List.getElem?_set_self (by rw [Array.length_toList];omega),List.take_set_of_le (Nat.le_refl _),List.drop_set_of_lt (by omega),List.length_cons,show s+j0+1+r.length=s+j0+(r.length+1) by omega]
  simp
noncomputable def zz (xs:Array Keyed) (lo hi:Nat):Prop:=∀i j,lo≤i→i≤j→j<hi→K xs i≤K xs j
noncomputable def Vx (xs ys:Array Keyed) (lo hi:Nat):Prop:=∀k,k<lo∨hi≤k→K ys k=K xs k
theorem zcw {xs:Array Keyed}{i:Nat}{x:Keyed} (h:xs.toList[i]?=some x):K xs i=kx x:=by
 rw [Array.getElem?_toList] at h
 unfold K
 rw [h]
theorem zf9 {xs:Array Keyed}{lo hi j:Nat}{x:Keyed} (h:(xs.extract lo hi)[j]?=some x):kx x=K xs (lo+j):=by
 have h:=zcu h
 rw [Array.toList_extract,List.extract_eq_take_drop,List.getElem?_take] at h
 split at h
 ·rw [List.getElem?_drop] at h
  exact(zcw h).symm
 ·cases h
theorem Kv {xs:Array Keyed}{lo hi:Nat} (h:zz xs lo hi) (hb:hi≤xs.size):(xs.extract lo hi).toList.Pairwise LE:=by
 rw [Array.toList_extract,List.extract_eq_take_drop,List.pairwise_iff_getElem]
 intro i j hi' hj hij
 rw [List.length_take,List.length_drop,Array.length_toList] at hi' hj
 have e:∀k (hk:k<((xs.toList.drop lo).take (hi-lo)).length),kx ((xs.toList.drop lo).take (hi-lo))[k]=K xs (lo+k):=fun k hk=>by
  rw [List.length_take,List.length_drop,Array.length_toList] at hk
  refine(zcw ?_).symm
  rw [← List.getElem?_drop,List.getElem?_eq_getElem (by rw [List.length_drop,Array.length_toList];omega),List.getElem_take]
 show kx _≤kx _
 rw [e,e]
 exact h _ _ (by omega) (by omega) (by omega)
section
variable {prog:Program}{w:World}{A:Around}{E:Value→Shared→Prop}{s:Shared}
theorem zfv {st st':SortSt}{Q:PUnit→SortSt→Prop} (h:Q ⟨⟩ st'):wpS (model prog w) A E s (set st':StateT SortSt Sem PUnit) Q st:=by
 unfold wpS
 rw [StateT.run_set]
 exact wpAny_pure ⟨rfl,h⟩
theorem zbD {st:SortSt}{i sa na pw nb pw2:Nat}{Q:Bool→SortSt→Prop} (hk:kindOf st=oneType') (hf:failedOf st=none) (hI:∀x∈(arrOf st).toList,IK x)
  (hp1:(pendingOf st)[i]?=some (sa,na,pw)) (hp2:(pendingOf st)[i+1]?=some (sa+na,nb,pw2)) (n1:1≤na) (n2:1≤nb) (hb:sa+na+nb≤(arrOf st).size)
  (s1:zz (arrOf st) sa (sa+na)) (s2:zz (arrOf st) (sa+na) (sa+na+nb))
  (h:∀st',kindOf st'=oneType'→failedOf st'=none→(arrOf st').Perm (arrOf st)→Vx (arrOf st) (arrOf st') sa (sa+na+nb)→zz (arrOf st') sa (sa+na+nb)→pendingOf st'=((pendingOf st).setIfInBounds i (sa,na+nb,pw)).eraseIdxIfInBounds (i+1)→Q true st') :
  wpS (model prog w) A E s (mergeAt' i) Q st:=by
 rw [zbB]
 refine wpS_bind (wpS_get ?_)
 rw [hp1,hp2]
 dsimp only
 refine wpS_bind (zfv ?_)
 generalize hst:setPending st (((pendingOf st).setIfInBounds i (sa,na+nb,pw)).eraseIdxIfInBounds (i+1))=st1
 have k1:kindOf st1=oneType':=by rw [← hst];exact hk
 have f1:failedOf st1=none:=by rw [← hst];exact hf
 have a1:arrOf st1=arrOf st:=by rw [← hst]
 have p1:pendingOf st1=((pendingOf st).setIfInBounds i (sa,na+nb,pw)).eraseIdxIfInBounds (i+1):=by rw [← hst]
 clear hst
 generalize arrOf st=xs at *
 obtain⟨b0,hb0,kb0⟩:=xM hI (show sa+na<xs.size by omega)
 have eb0:K xs (sa+na)=kx b0:=zcw (zcu hb0)
 refine wpS_bind (zN hb0 (wpS_bind (vR k1 kb0 (fun j hj=>xM hI (by omega)) (fun j l hjl hl=>s1 _ _ (by omega) (by omega) (by omega)) (by omega) fun k q1 q2 q3=>?_)))
 dsimp only
 have zgv:∀j,j<k→K xs (sa+j)≤K xs (sa+na):=fun j hj=>by
  have:=q2 j hj
  unfold bb at this
  rw [if_neg (by decide),Bool.not_eq_true',decide_eq_false_iff_not] at this
  omega
 have zga:∀j,k≤j→j<na→K xs (sa+na)<K xs (sa+j):=fun j hj hjn=>by
  have:=q3 j hj hjn
  unfold bb at this
  rw [if_neg (by decide),Bool.not_eq_false',decide_eq_true_eq] at this
  omega
 by_cases e1:na-k=0
 ·rw [if_pos (by simpa using e1)]
  refine wpS_pure (h st1 k1 f1 (by rw [a1]) (by rw [a1];exact fun _ _=>rfl) ?_ p1)
  rw [a1]
  intro u v hu huv hv
  by_cases y1:v<sa+na
  ·exact s1 u v hu huv y1
  ·by_cases y2:sa+na≤u
   ·exact s2 u v y2 huv hv
   ·have z1:=zgv (u-sa) (by omega)
    rw [show sa+(u-sa)=u by omega] at z1
    exact Int.le_trans z1 (s2 _ _ (Nat.le_refl _) (by omega) hv)
 rw [if_neg (by simpa using e1)]
 rw [show sa+k+(na-k)-1=sa+na-1 by omega]
 obtain⟨al,hal,kal⟩:=xM hI (show sa+na-1<xs.size by omega)
 have eal:K xs (sa+na-1)=kx al:=zcw (zcu hal)
 refine wpS_bind (zN hal (wpS_bind (vR k1 kal (fun j hj=>xM hI (by omega)) (fun j l hjl hl=>s2 _ _ (by omega) (by omega) (by omega)) (by omega) fun r u1 u2 u3=>?_)))
 dsimp only
 have zk9:∀j,j<r→K xs (sa+na+j)<K xs (sa+na-1):=fun j hj=>by
  have:=u2 j hj
  unfold bb at this
  rw [if_pos rfl,decide_eq_true_eq] at this
  omega
 have zgb:∀j,r≤j→j<nb→K xs (sa+na-1)≤K xs (sa+na+j):=fun j hj hjn=>by
  have:=u3 j hj hjn
  unfold bb at this
  rw [if_pos rfl,decide_eq_false_iff_not] at this
  omega
 by_cases e2:r=0
 ·rw [if_pos (by simpa using e2)]
  refine wpS_pure (h st1 k1 f1 (by rw [a1]) (by rw [a1];exact fun _ _=>rfl) ?_ p1)
  rw [a1]
  intro u v hu huv hv
  by_cases y1:v<sa+na
  ·exact s1 u v hu huv y1
  ·by_cases y2:sa+na≤u
   ·exact s2 u v y2 huv hv
   ·have z1:=zgb (v-(sa+na)) (by omega) (by omega)
    rw [show sa+na+(v-(sa+na))=v by omega] at z1
    exact Int.le_trans (s1 u (sa+na-1) hu (by omega) (by omega)) z1
 rw [if_neg (by simpa using e2)]
 have zhj:∀z∈(xs.extract (sa+k) (sa+na)).toList,∃j,sa+k≤j∧j<sa+na∧kx z=K xs j:=fun z hz=>by
  obtain⟨j,h1,h2,h3,h4⟩:=part_mem hz
  exact⟨j,h1,h2,h4⟩
 have zhk:∀z∈(xs.extract (sa+na) (sa+na+r)).toList,∃j,sa+na≤j∧j<sa+na+r∧kx z=K xs j:=fun z hz=>by
  obtain⟨j,h1,h2,h3,h4⟩:=part_mem hz
  exact⟨j,h1,h2,h4⟩
 have szU:(xs.extract (sa+k) (sa+na)).size=na-k:=by rw [Array.size_extract];omega
 have szV:(xs.extract (sa+na) (sa+na+r)).size=r:=by rw [Array.size_extract];omega
 have pre:Pre (xs.extract (sa+k) (sa+na)) (xs.extract (sa+na) (sa+na+r)):=by
  refine⟨fun x hx=>hI x ?_,fun x hx=>hI x ?_,Kv (fun u v hu huv hv=>s1 u v (by omega) huv hv) (by omega),Kv (fun u v hu huv hv=>s2 u v hu huv (by omega)) (by omega),by omega,by omega,fun x hx y hy=>?_,fun x hx y hy=>?_⟩
  ·rw [Array.toList_extract,List.extract_eq_take_drop] at hx
   exact List.mem_of_mem_drop (List.mem_of_mem_take hx)
  ·rw [Array.toList_extract,List.extract_eq_take_drop] at hx
   exact List.mem_of_mem_drop (List.mem_of_mem_take hx)
  ·have ex:kx x=K xs (sa+na):=by have:=zf9 (lo:=sa+na) (j:=0) hx;exact this
   obtain⟨j,h1,h2,h3⟩:=zhj y hy
   have:=zga (j-sa) (by omega) (by omega)
   rw [show sa+(j-sa)=j by omega] at this
   show kx x≤kx y
   omega
  ·have ex:kx x=K xs (sa+na-1):=by
    have:=zf9 hx
    rw [szU,show sa+k+(na-k-1)=sa+na-1 by omega] at this
    exact this
   obtain⟨j,h1,h2,h3⟩:=zhk y hy
   have:=zk9 (j-(sa+na)) (by omega)
   rw [show sa+na+(j-(sa+na))=j by omega] at this
   show kx y≤kx x
   omega
 have fin:∀(m:Array Keyed) (st2:SortSt),Mg ((xs.extract (sa+k) (sa+na)).toList++(xs.extract (sa+na) (sa+na+r)).toList) m.toList→GS st1 st2 →
   wpS (model prog w) A E s (do
    modify fun x=>setArr x (m.toList.zipIdx.foldl (fun c x=>c.setIfInBounds (sa+k+x.2) x.1) (arrOf x))
    let y ← get
    pure (failedOf y).isNone) Q st2:=by
  intro m st2 hm g
  refine wpS_bind (wpS_modify (wpS_bind (wpS_get ?_)))
  have ml:m.toList.length=na-k+r:=by rw [hm.pm.length_eq,List.length_append,Array.length_toList,Array.length_toList,szU,szV]
  have al2:arrOf st2=xs:=g.2.1.trans a1
  have ef:failedOf st2=none:=g.2.2.2.trans f1
  have L:(m.toList.zipIdx.foldl (fun c x=>c.setIfInBounds (sa+k+x.2) x.1) xs).toList=xs.toList.take (sa+k)++m.toList++xs.toList.drop (sa+na+r):=by
   have:=zbC (sa+k) m.toList 0 xs (by omega)
   rw [Nat.add_zero,ml,show sa+k+(na-k+r)=sa+na+r by omega] at this
   exact this
  have kL:∀j,j<sa+k→K (m.toList.zipIdx.foldl (fun c x=>c.setIfInBounds (sa+k+x.2) x.1) xs) j=K xs j:=fun j hj=>by
   refine K_congr ?_
   rw [← Array.getElem?_toList,L,← Array.getElem?_toList,List.append_assoc,List.getElem?_append_left (by rw [List.length_take,Array.length_toList];omega),List.getElem?_take,if_pos hj]
  have kR:∀j,sa+na+r≤j→K (m.toList.zipIdx.foldl (fun c x=>c.setIfInBounds (sa+k+x.2) x.1) xs) j=K xs j:=fun j hj=>by
   refine K_congr ?_
   have hl:(xs.toList.take (sa+k)++m.toList).length=sa+na+r:=by rw [List.length_append,List.length_take,Array.length_toList,ml];omega
   rw [← Array.getElem?_toList,L,← Array.getElem?_toList,List.getElem?_append_right (by omega),hl,List.getElem?_drop,show sa+na+r+(j-(sa+na+r))=j by omega]
  have kM:∀j,sa+k≤j→j<sa+na+r→∃z,m.toList[j-(sa+k)]?=some z∧K (m.toList.zipIdx.foldl (fun c x=>c.setIfInBounds (sa+k+x.2) x.1) xs) j=kx z:=fun j h1 h2=>by
   have hj:j-(sa+k)<m.toList.length:=by omega
   refine⟨_,List.getElem?_eq_getElem hj,zcw ?_⟩
   have hl:(xs.toList.take (sa+k)).length=sa+k:=by rw [List.length_take,Array.length_toList];omega
   rw [L,List.append_assoc,List.getElem?_append_right (by omega),hl,List.getElem?_append_left hj,List.getElem?_eq_getElem hj]
  have mb:∀z∈m.toList,K xs (sa+na)≤kx z∧∀j,sa+na+r≤j→j<sa+na+nb→kx z≤K xs j:=fun z hz=>by
   rcases List.mem_append.mp (hm.pm.mem_iff.mp hz) with y | y
   ·obtain⟨l,h1,h2,h3⟩:=zhj z y
    have q:=zga (l-sa) (by omega) (by omega)
    rw [show sa+(l-sa)=l by omega] at q
    refine⟨by omega,fun j hj1 hj2=>?_⟩
    have q2:=s1 l (sa+na-1) (by omega) (by omega) (by omega)
    have q3:=zgb (j-(sa+na)) (by omega) (by omega)
    rw [show sa+na+(j-(sa+na))=j by omega] at q3
    omega
   ·obtain⟨l,h1,h2,h3⟩:=zhk z y
    have q:=s2 (sa+na) l (Nat.le_refl _) h1 (by omega)
    refine⟨by omega,fun j hj1 hj2=>?_⟩
    have q2:=s2 l j h1 (by omega) hj2
    omega
  have zhl:(m.toList.zipIdx.foldl (fun c x=>c.setIfInBounds (sa+k+x.2) x.1) xs).Perm xs:=by
   rw [Array.perm_iff_toList_perm,L]
   have e:xs.toList=xs.toList.take (sa+k)++((xs.extract (sa+k) (sa+na)).toList++(xs.extract (sa+na) (sa+na+r)).toList)++xs.toList.drop (sa+na+r):=by
    rw [← List.append_assoc,← ZX (show sa+k≤sa+na by omega),← ZX (show sa+na≤sa+na+r by omega),List.take_append_drop]
   refine List.Perm.trans ?_ (List.Perm.of_eq e.symm)
   exact List.Perm.append_right _ (List.Perm.append_left _ hm.pm)
  rw [al2]
  show wpS _ _ _ _ (pure (failedOf st2).isNone) _ _
  rw [ef]
  refine wpS_pure (h _ (g.1.trans k1) ef zhl ?_ ?_ (g.2.2.1.trans p1))
  ·intro j hj
   rcases hj with y | y
   ·exact kL j (by omega)
   ·exact kR j (by omega)
  ·intro u v hu huv hv
   by_cases c1:v<sa+k
   ·rw [kL u (by omega),kL v c1]
    exact s1 u v hu huv (by omega)
   by_cases c2:v<sa+na+r
   ·obtain⟨zv,hzv,ev⟩:=kM v (by omega) c2
    rw [ev]
    by_cases c3:u<sa+k
    ·rw [kL u c3]
     have q:=zgv (u-sa) (by omega)
     rw [show sa+(u-sa)=u by omega] at q
     exact Int.le_trans q (mb zv (List.mem_of_getElem? hzv)).1
    ·obtain⟨zu,hzu,eu⟩:=kM u (by omega) (by omega)
     rw [eu]
     rcases Nat.lt_or_eq_of_le huv with y | y
     ·obtain⟨hu1,hu2⟩:=List.getElem?_eq_some_iff.mp hzu
      obtain⟨hv1,hv2⟩:=List.getElem?_eq_some_iff.mp hzv
      have:=List.pairwise_iff_getElem.mp hm.so _ _ hu1 hv1 (by omega)
      rw [hu2,hv2] at this
      exact this
     ·subst y
      rw [hzu] at hzv
      cases hzv
      exact Int.le_refl _
   ·rw [kR v (by omega)]
    by_cases c3:u<sa+k
    ·rw [kL u c3]
     have q:=zgv (u-sa) (by omega)
     rw [show sa+(u-sa)=u by omega] at q
     exact Int.le_trans q (s2 _ _ (Nat.le_refl _) (by omega) hv)
    ·by_cases c4:u<sa+na+r
     ·obtain⟨zu,hzu,eu⟩:=kM u (by omega) c4
      rw [eu]
      exact(mb zu (List.mem_of_getElem? hzu)).2 v (by omega) hv
     ·rw [kR u (by omega)]
      exact s2 u v (by omega) huv hv
 by_cases e3:na-k≤r
 ·rw [if_pos e3]
  exact wpS_bind (zbz k1 pre fin)
 ·rw [if_neg e3]
  exact wpS_bind (zbA k1 pre fin)
end
end SB
namespace SB
open PySem PyProof.Rows
structure SG (a₀:Array Keyed) (p:Array (Nat×Nat×Nat)) (st:SortSt):Prop where
 perm:(arrOf st).Perm a₀
 kind:kindOf st=oneType'
 fail:failedOf st=none
 pend:pendingOf st=p
theorem SG.size {a₀:Array Keyed}{p:Array (Nat×Nat×Nat)}{st:SortSt} (h:SG a₀ p st):(arrOf st).size=a₀.size:=h.perm.size_eq
theorem SG.arr {a₀:Array Keyed}{p:Array (Nat×Nat×Nat)}{st:SortSt} (h:SG a₀ p st){xs:Array Keyed} (hp:xs.Perm (arrOf st)):SG a₀ p (setArr st xs):=⟨hp.trans h.perm,h.kind,h.fail,h.pend⟩
theorem SG.ik {a₀:Array Keyed}{p:Array (Nat×Nat×Nat)}{st:SortSt} (h:SG a₀ p st) (h0:IntKeys a₀):∀x∈(arrOf st).toList,IK x:=fun x hx=>h0 x ((Array.perm_iff_toList_perm.mp h.perm).mem_iff.mp hx)
noncomputable def zaa (xs:Array Keyed) (lo k:Nat):Prop:=∀i j,lo≤i→i≤j→j<lo+k→K xs j≤K xs i
section
variable {prog:Program}{w:World}{A:Around}{E:Value→Shared→Prop}{s:Shared}{a₀:Array Keyed}{p:Array (Nat×Nat×Nat)}
theorem Q7 {st:SortSt}{i j:Nat}{Q:Option Bool→SortSt→Prop} (hB:SG a₀ p st) (h0:IntKeys a₀) (hi:i<a₀.size) (hj:j<a₀.size)
  (h:Q (some (decide (K (arrOf st) i<K (arrOf st) j))) st):wpS (model prog w) A E s (ltAt' i j) Q st:=by
 obtain⟨x,hx,kx1⟩:=xM (hB.ik h0) (show i<(arrOf st).size by rw [hB.size];exact hi)
 obtain⟨y,hy,kx2⟩:=xM (hB.ik h0) (show j<(arrOf st).size by rw [hB.size];exact hj)
 rw [ltAt'_eq]
 refine wpS_bind (wpS_get ?_)
 refine wpS_bind (zN hx (wpS_bind (zN hy (Kr hB.kind kx1 kx2 ?_))))
 rw [zcw (zcu hx),zcw (zcu hy)] at h
 exact h
theorem WD {st:SortSt}{lo nrem:Nat}{Q:Option Nat→SortSt→Prop} (h0:IntKeys a₀) (hn:lo+nrem≤a₀.size) (h1:1≤nrem) (hB:SG a₀ p st)
  (h:∀m st',SG a₀ p st'→1≤m→m≤nrem→zz (arrOf st') lo (lo+m)→Vx (arrOf st) (arrOf st') lo (lo+nrem)→Q (some m) st') :
  wpS (model prog w) A E s (countRun' lo nrem) Q st:=by
 have asc:∀{xs:Array Keyed}{x:Nat},1≤x→zz xs lo (lo+x)→¬K xs (lo+x)<K xs (lo+x-1)→zz xs lo (lo+(x+1)):=by
  intro xs x hx hs hl i j hi hij hj
  by_cases hjx:j<lo+x
  ·exact hs i j hi hij hjx
  ·have hj':j=lo+x:=by omega
   subst hj'
   by_cases hi':i=lo+x
   ·subst hi';exact Int.le_refl _
   ·exact Int.le_trans (hs i (lo+x-1) hi (by omega) (by omega)) (Int.not_lt.mp hl)
 rw [countRun'_eq]
 refine wpS_bind (wpS_mono (wpS_forRange (I:=fun x c st'=>st'=st∧c=(none,x)∧zz (arrOf st) lo (lo+x))
  (Q:=fun c st'=>st'=st∧∃n,c=(none,n)∧1≤n∧n≤nrem∧zz (arrOf st) lo (lo+n)∧(n=nrem∨K (arrOf st) (lo+n)<K (arrOf st) (lo+n-1))) ?s1 ?f1 ⟨rfl,rfl,fun i j hi hij hj=>by rw [show i=j by omega];exact Int.le_refl _⟩) ?p1)
 case f1=>
  rintro c st' ⟨rfl,rfl,hs⟩
  rw [show max 1 nrem=nrem by omega] at hs ⊢
  exact⟨rfl,_,rfl,h1,Nat.le_refl _,hs,.inl rfl⟩
 case s1=>
  rintro x c st' hax hxn ⟨rfl,rfl,hs⟩
  dsimp only
  refine wpS_bind (Q7 hB h0 (by omega) (by omega) ?_)
  by_cases hl:K (arrOf st') (lo+x)<K (arrOf st') (lo+x-1)
  ·simp only [hl,decide_true,if_true]
   exact wpS_pure ⟨rfl,_,rfl,hax,by omega,hs,.inr hl⟩
  ·simp only [hl,decide_false,Bool.false_eq_true,if_false]
   exact wpS_pure ⟨rfl,rfl,asc hax hs hl⟩
 case p1=>
  rintro c st' ⟨rfl,n,rfl,n1,n2,hs,hor⟩
  dsimp only
  by_cases hnn:n=nrem
  ·rw [if_pos (by simpa using hnn)]
   exact wpS_pure (h n st' hB n1 n2 hs (fun _ _=>rfl))
  rw [if_neg (by simpa using hnn)]
  have hlt:=hor.resolve_left hnn
  have sz:=hB.size
  obtain⟨xs0,hx0⟩:∃xs0,xs0=arrOf st':=⟨_,rfl⟩
  rw [← hx0] at h
  have hn1:n+1≤nrem:=by omega
  by_cases hgt:n > 1
  case' neg=>
   rw [if_neg hgt]
   have n1':n=1:=by omega
   have B2:SG a₀ p st':=hB
   have O2:Vx xs0 (arrOf st') lo (lo+nrem):=fun _ _=>by rw [hx0]
   have NI:zaa (arrOf st') lo (n+1):=fun i j hi hij hj=>by
    by_cases hi':i=j
    ·subst hi';exact Int.le_refl _
    ·have e1:i=lo+n-1:=by omega
     have e2:j=lo+n:=by omega
     rw [e1,e2]
     exact Int.le_of_lt hlt
   generalize st'=st2 at B2 O2 NI ⊢
  case' pos=>
   rw [if_pos hgt]
   refine wpS_bind (Q7 hB h0 (by omega) (by omega) ?_)
   by_cases hr:K (arrOf st') lo<K (arrOf st') (lo+n-1)
   ·simp only [hr,decide_true,if_true]
    exact wpS_pure (h n st' hB n1 n2 hs (fun _ _=>by rw [hx0]))
   simp only [hr,decide_false,Bool.false_eq_true,if_false]
   have hall:∀k,lo≤k→k<lo+n→K (arrOf st') k=K (arrOf st') (lo+n-1):=fun k k1 k2=>by
    have a1:=hs lo k (Nat.le_refl _) k1 k2
    have a2:=hs k (lo+n-1) k1 (by omega) (by omega)
    omega
   refine wpS_bind (wpS_reverse ?_)
   have hKm:=K_mirror_equal (xs:=arrOf st') (i:=lo) (j:=lo+n) (by omega) hall
   have B2:SG a₀ p (setArr st' (mirror (arrOf st') lo (lo+n) ((lo+n-lo) / 2))):=hB.arr (mirror_perm _ _ _ _)
   have O2:Vx xs0 (arrOf (setArr st' (mirror (arrOf st') lo (lo+n) ((lo+n-lo) / 2)))) lo (lo+nrem):=fun k _=>by rw [hx0];exact hKm k
   have NI:zaa (arrOf (setArr st' (mirror (arrOf st') lo (lo+n) ((lo+n-lo) / 2)))) lo (n+1):=fun i j hi hij hj=>by
    show K (mirror (arrOf st') lo (lo+n) _) j≤K (mirror (arrOf st') lo (lo+n) _) i
    rw [hKm,hKm]
    by_cases hjn:j<lo+n
    ·rw [hall i hi (by omega),hall j (by omega) hjn];exact Int.le_refl _
    ·have hj':j=lo+n:=by omega
     subst hj'
     by_cases hi':i=lo+n
     ·subst hi';exact Int.le_refl _
     ·rw [hall i hi (by omega)];exact Int.le_of_lt hlt
   generalize setArr st' (mirror (arrOf st') lo (lo+n) ((lo+n-lo) / 2))=st2 at B2 O2 NI ⊢
  all_goals
   clear hB hs hor hlt sz hx0
   refine wpS_bind (wpS_lift (wpAny_rule ⟨rfl,?_⟩))
   refine wpS_bind (wpS_mono (wpS_forRange (I:=fun x c st3=>∃neq,c=(none,x,neq)∧SG a₀ p st3∧Vx xs0 (arrOf st3) lo (lo+nrem)∧zaa (arrOf st3) lo x∧neq+1≤x∧(∀i,lo+x-(neq+1)≤i→i<lo+x→K (arrOf st3) i=K (arrOf st3) (lo+x-1)))
    (Q:=fun c st3=>∃m neq,c=(none,m,neq)∧n+1≤m∧m≤nrem∧SG a₀ p st3∧Vx xs0 (arrOf st3) lo (lo+nrem)∧zaa (arrOf st3) lo m∧neq+1≤m∧(∀i,lo+m-(neq+1)≤i→i<lo+m→K (arrOf st3) i=K (arrOf st3) (lo+m-1))) ?_ ?_ ⟨0,rfl,B2,O2,NI,by omega,fun i z1 z2=>by rw [show i=lo+(n+1)-1 by omega]⟩) ?_)
   ·rintro x c st3 hax hxn ⟨neq,rfl,B3,O3,N3,q3,e3⟩
    dsimp only
    have sz3:=B3.size
    refine wpS_bind (Q7 B3 h0 (by omega) (by omega) ?_)
    by_cases hl:K (arrOf st3) (lo+x)<K (arrOf st3) (lo+x-1)
    ·simp only [hl,decide_true,if_true]
     have step1:∀xs:Array Keyed,(∀k,K xs k=K (arrOf st3) k)→zaa xs lo (x+1):=fun xs hk i j hi hij hj=>by
      rw [hk,hk]
      by_cases hjx:j<lo+x
      ·exact N3 i j hi hij hjx
      ·have hj':j=lo+x:=by omega
       subst hj'
       by_cases hi':i=lo+x
       ·subst hi';exact Int.le_refl _
       ·exact Int.le_trans (Int.le_of_lt hl) (N3 i (lo+x-1) hi (by omega) (by omega))
     by_cases hq:neq > 0
     ·rw [if_pos hq]
      have hKm:=K_mirror_equal (xs:=arrOf st3) (i:=lo+x-(neq+1)) (j:=lo+x) (by omega) e3
      exact wpS_bind (wpS_reverse (wpS_pure ⟨0,rfl,B3.arr (mirror_perm _ _ _ _),fun k hk=>(hKm k).trans (O3 k hk),step1 _ hKm,by omega,fun i z1 z2=>by rw [show i=lo+(x+1)-1 by omega]⟩))
     ·rw [if_neg hq]
      exact wpS_pure ⟨0,rfl,B3,O3,step1 _ (fun _=>rfl),by omega,fun i z1 z2=>by rw [show i=lo+(x+1)-1 by omega]⟩
    ·simp only [hl,decide_false,Bool.false_eq_true,if_false]
     refine wpS_bind (Q7 B3 h0 (by omega) (by omega) ?_)
     by_cases hg:K (arrOf st3) (lo+x-1)<K (arrOf st3) (lo+x)
     ·simp only [hg,decide_true,if_true]
      exact wpS_pure ⟨_,_,rfl,hax,by omega,B3,O3,N3,q3,e3⟩
     ·simp only [hg,decide_false,Bool.false_eq_true,if_false]
      have heq:K (arrOf st3) (lo+x)=K (arrOf st3) (lo+x-1):=by omega
      refine wpS_pure ⟨neq+1,rfl,B3,O3,fun i j hi hij hj=>?_,by omega,fun i z1 z2=>?_⟩
      ·by_cases hjx:j<lo+x
       ·exact N3 i j hi hij hjx
       ·have hj':j=lo+x:=by omega
        subst hj'
        by_cases hi':i=lo+x
        ·subst hi';exact Int.le_refl _
        ·rw [heq];exact N3 i (lo+x-1) hi (by omega) (by omega)
      ·rw [show lo+(x+1)-1=lo+x by omega]
       by_cases hix:i=lo+x
       ·subst hix;rfl
       ·rw [heq];exact e3 i (by omega) (by omega)
   ·rintro c st3 ⟨neq,rfl,B3,O3,N3,q3,e3⟩
    rw [show max (n+1) nrem=nrem by omega] at N3 q3 e3 ⊢
    exact⟨_,_,rfl,hn1,Nat.le_refl _,B3,O3,N3,q3,e3⟩
   ·rintro c st3 ⟨m,neq,rfl,hm1,hm2,B3,O3,N3,q3,e3⟩
    dsimp only
    have sz3:=B3.size
    by_cases hq:neq > 0
    case' pos=>
     rw [if_pos hq]
     refine wpS_bind (wpS_reverse ?_)
     have hKm:=K_mirror_equal (xs:=arrOf st3) (i:=lo+m-(neq+1)) (j:=lo+m) (by omega) e3
     have B4:SG a₀ p (setArr st3 (mirror (arrOf st3) (lo+m-(neq+1)) (lo+m) ((lo+m-(lo+m-(neq+1))) / 2))):=B3.arr (mirror_perm _ _ _ _)
     have O4:Vx xs0 (arrOf (setArr st3 (mirror (arrOf st3) (lo+m-(neq+1)) (lo+m) ((lo+m-(lo+m-(neq+1))) / 2)))) lo (lo+nrem):=fun k hk=>(hKm k).trans (O3 k hk)
     have N4:zaa (arrOf (setArr st3 (mirror (arrOf st3) (lo+m-(neq+1)) (lo+m) ((lo+m-(lo+m-(neq+1))) / 2)))) lo m:=fun i j hi hij hj=>by
      show K (mirror _ _ _ _) j≤K (mirror _ _ _ _) i
      rw [hKm,hKm]
      exact N3 i j hi hij hj
     generalize setArr st3 (mirror (arrOf st3) (lo+m-(neq+1)) (lo+m) ((lo+m-(lo+m-(neq+1))) / 2))=st4 at B4 O4 N4 ⊢
    case' neg=>
     rw [if_neg hq]
     have B4:=B3
     have O4:=O3
     have N4:=N3
     generalize st3=st4 at B4 O4 N4 ⊢
    all_goals
     have sz4:=B4.size
     refine wpS_bind (wpS_reverse ?_)
     have hKr:∀k,K (mirror (arrOf st4) lo (lo+m) ((lo+m-lo) / 2)) k=if lo≤k∧k<lo+m then K (arrOf st4) (lo+(lo+m)-1-k) else K (arrOf st4) k:=fun k=>K_mirror (by omega) k
     have B5:SG a₀ p (setArr st4 (mirror (arrOf st4) lo (lo+m) ((lo+m-lo) / 2))):=B4.arr (mirror_perm _ _ _ _)
     have O5:Vx xs0 (arrOf (setArr st4 (mirror (arrOf st4) lo (lo+m) ((lo+m-lo) / 2)))) lo (lo+nrem):=fun k hk=>by
      refine Eq.trans ?_ (O4 k hk)
      show K (mirror _ _ _ _) k=_
      rw [hKr,if_neg (by omega)]
     have S5:zz (arrOf (setArr st4 (mirror (arrOf st4) lo (lo+m) ((lo+m-lo) / 2)))) lo (lo+m):=fun i j hi hij hj=>by
      show K (mirror _ _ _ _) i≤K (mirror _ _ _ _) j
      rw [hKr,hKr,if_pos (by omega),if_pos (by omega)]
      exact N4 _ _ (by omega) (by omega) (by omega)
     generalize setArr st4 (mirror (arrOf st4) lo (lo+m) ((lo+m-lo) / 2))=st5 at B5 O5 S5 ⊢
     refine wpS_bind (wpS_mono (wpS_forRange (I:=fun x c st'=>st'=st5∧c=(none,x)∧zz (arrOf st5) lo (lo+x))
      (Q:=fun c st'=>st'=st5∧∃n,c=(none,n)∧1≤n∧n≤nrem∧zz (arrOf st5) lo (lo+n)) ?_ ?_ ⟨rfl,rfl,S5⟩) ?_)
     ·rintro x c st' hax hxn ⟨rfl,rfl,hs⟩
      dsimp only
      refine wpS_bind (Q7 B5 h0 (by omega) (by omega) ?_)
      by_cases hl:K (arrOf st') (lo+x)<K (arrOf st') (lo+x-1)
      ·simp only [hl,decide_true,if_true]
       exact wpS_pure ⟨rfl,_,rfl,by omega,by omega,hs⟩
      ·simp only [hl,decide_false,Bool.false_eq_true,if_false]
       exact wpS_pure ⟨rfl,rfl,asc (by omega) hs hl⟩
     ·rintro c st' ⟨rfl,rfl,hs⟩
      rw [show max m nrem=nrem by omega] at hs ⊢
      exact⟨rfl,_,rfl,h1,Nat.le_refl _,hs⟩
     ·rintro c st' ⟨rfl,n5,rfl,z1,z2,hs⟩
      exact wpS_pure (h n5 st' B5 z1 z2 hs O5)
end
end SB
namespace SB
open PySem PyProof.Rows
noncomputable def Runs (xs:Array Keyed):List (Nat×Nat×Nat)→Nat→Nat→Prop
 | [],a,b=>a=b
 | (s,n,_)::r,a,b=>s=a∧1≤n∧zz xs s (s+n)∧Runs xs r (s+n) b
theorem Runs.le {xs:Array Keyed}:∀{l:List (Nat×Nat×Nat)}{a b:Nat},Runs xs l a b→a+l.length≤b
 | [],a,b,h=>by cases h;simp
 | (s,n,_)::r,a,b,⟨h1,h2,_,h4⟩=>by
  have:=Runs.le h4
  rw [List.length_cons]
  omega
theorem zz.congr {xs ys:Array Keyed}{lo hi:Nat} (h:zz xs lo hi) (e:∀k,lo≤k→k<hi→K ys k=K xs k):zz ys lo hi:=fun i j hi' hij hj=>by
 rw [e i hi' (by omega),e j (by omega) hj]
 exact h i j hi' hij hj
theorem Runs.congr {xs ys:Array Keyed}:∀{l:List (Nat×Nat×Nat)}{a b:Nat},Runs xs l a b→(∀k,a≤k→k<b→K ys k=K xs k)→Runs ys l a b
 | [],_,_,h,_=>h
 | (s,n,_)::r,a,b,⟨h1,h2,h3,h4⟩,e=>by
  have:=h4.le
  exact⟨h1,h2,h3.congr fun k k1 k2=>e k (by omega) (by omega),Runs.congr h4 fun k k1 k2=>e k (by omega) k2⟩
theorem Runs.snoc {xs:Array Keyed}{q n:Nat}:∀{l:List (Nat×Nat×Nat)}{a b:Nat},Runs xs l a b→1≤n→zz xs b (b+n)→Runs xs (l++[(b,n,q)]) a (b+n)
 | [],a,b,h,h1,h2=>by cases h;exact⟨rfl,h1,h2,rfl⟩
 | (s,m,_)::r,a,b,⟨g1,g2,g3,g4⟩,h1,h2=>⟨g1,g2,g3,Runs.snoc g4 h1 h2⟩
theorem Runs.pow {xs:Array Keyed}{q:Nat}:∀{l:List (Nat×Nat×Nat)}{a b:Nat} (k:Nat),Runs xs l a b→Runs xs (l.modify k fun x=>(x.1,x.2.1,q)) a b
 | [],_,_,_,h=>by simpa using h
 | (s,m,z)::r,a,b,0,⟨g1,g2,g3,g4⟩=>by
  rw [List.modify_zero_cons]
  exact⟨g1,g2,g3,g4⟩
 | (s,m,z)::r,a,b,k+1,⟨g1,g2,g3,g4⟩=>by
  rw [List.modify_succ_cons]
  exact⟨g1,g2,g3,Runs.pow k g4⟩
theorem Runs.at {xs:Array Keyed}:∀{l:List (Nat×Nat×Nat)}{a b:Nat}{j:Nat},Runs xs l a b→j+1<l.length→∃s n pw m pw2,l[j]?=some (s,n,pw)∧l[j+1]?=some (s+n,m,pw2)∧1≤n∧1≤m∧a≤s∧s+n+m≤b∧zz xs s (s+n)∧zz xs (s+n) (s+n+m)∧∀ys:Array Keyed,Vx xs ys s (s+n+m)→zz ys s (s+n+m)→Runs ys ((l.set j (s,n+m,pw)).eraseIdx (j+1)) a b
 | [],_,_,_,_,h=>by simp at h
 | [_],_,_,j,_,h=>by simp at h
 | (s,n,pw)::(s2,m,pw2)::r,a,b,0,⟨g1,g2,g3,g4,g5,g6,g7⟩,_=>by
  subst g4
  have:=g7.le
  refine⟨s,n,pw,m,pw2,rfl,rfl,g2,g5,by omega,by omega,g3,g6,fun ys hy hs=>?_⟩
  show Runs ys ((s,n+m,pw)::r) a b
  refine⟨g1,by omega,by rw [show s+(n+m)=s+n+m by omega];exact hs,?_⟩
  rw [show s+(n+m)=s+n+m by omega]
  exact g7.congr fun k k1 k2=>hy k (.inr k1)
 | (s0,n0,p0)::y::r,a,b,j+1,⟨g1,g2,g3,g4⟩,hj=>by
  obtain⟨s,n,pw,m,pw2,e1,e2,h1,h2,h3,h4,h5,h6,h7⟩:=Runs.at (j:=j) g4 (by simpa using hj)
  refine⟨s,n,pw,m,pw2,by simpa using e1,by simpa using e2,h1,h2,by omega,h4,h5,h6,fun ys hy hs=>?_⟩
  have:=h7 ys hy hs
  show Runs ys ((s0,n0,p0)::(((y::r).set j (s,n+m,pw)).eraseIdx (j+1))) a b
  exact⟨g1,g2,g3.congr fun k k1 k2=>hy k (.inl (by omega)),this⟩
section
variable {prog:Program}{w:World}{A:Around}{E:Value→Shared→Prop}{s:Shared}{a₀:Array Keyed}{p:Array (Nat×Nat×Nat)}
theorem Vy {st:SortSt}{lo n ok:Nat}{Q:Bool→SortSt→Prop} (h0:IntKeys a₀) (hn:lo+n≤a₀.size) (hok:ok≤n) (hB:SG a₀ p st) (hs:zz (arrOf st) lo (lo+ok))
  (h:∀st',SG a₀ p st'→zz (arrOf st') lo (lo+n)→Vx (arrOf st) (arrOf st') lo (lo+n)→Q true st'):wpS (model prog w) A E s (binarySort' lo n ok) Q st:=by
 rw [binarySort'_eq]
 obtain⟨xs0,hx0⟩:∃xs0,xs0=arrOf st:=⟨_,rfl⟩
 rw [← hx0] at h
 refine wpS_bind (wpS_mono (wpS_forRange (I:=fun k c st'=>c=(none,())∧SG a₀ p st'∧Vx xs0 (arrOf st') lo (lo+n)∧zz (arrOf st') lo (lo+min k n))
  (Q:=fun c st'=>c=(none,())∧SG a₀ p st'∧Vx xs0 (arrOf st') lo (lo+n)∧zz (arrOf st') lo (lo+n)) ?step ?fin ?init) ?post)
 case post=>
  rintro c st' ⟨rfl,hB',hO,hs'⟩
  exact wpS_pure (h st' hB' hs' hO)
 case init=>
  refine⟨rfl,hB,fun _ _=>by rw [hx0],fun i j hi hij hj=>?_⟩
  by_cases e:ok=0
  ·rw [show i=j by omega];exact Int.le_refl _
  ·exact hs i j hi hij (by omega)
 case fin=>
  rintro c st' ⟨hc,hB',hO,hs'⟩
  refine⟨hc,hB',hO,?_⟩
  rwa [show min (max (max ok 1) n) n=n by omega] at hs'
 case step=>
  rintro k c st' hak hkn ⟨rfl,hB',hO,hs'⟩
  rw [show min k n=k by omega] at hs'
  have sz:=hB'.size
  refine wpS_bind (wpS_mono (wpS_forRange (I:=fun x c st''=>st''=st'∧∃l r,c=(none,l,r)∧l≤r∧r≤k∧r-l≤k-x ∧
    (∀i,i<l→K (arrOf st') (lo+i)≤K (arrOf st') (lo+k))∧(∀i,r≤i→i<k→K (arrOf st') (lo+k)<K (arrOf st') (lo+i)))
   (Q:=fun c st''=>st''=st'∧∃l r,c=(none,l,r)∧l≤k ∧
    (∀i,i<l→K (arrOf st') (lo+i)≤K (arrOf st') (lo+k))∧(∀i,l≤i→i<k→K (arrOf st') (lo+k)<K (arrOf st') (lo+i))) ?istep ?ifin ?iinit) ?ipost)
  case iinit=>exact⟨rfl,0,k,rfl,by omega,by omega,by omega,fun i hi=>by omega,fun i h1 h2=>by omega⟩
  case ifin=>
   rintro c st'' ⟨rfl,l,r,rfl,hlr,hrk,hm,hlo,hhi⟩
   have:l=r:=by omega
   subst this
   exact⟨rfl,l,l,rfl,hrk,hlo,hhi⟩
  case istep=>
   rintro x c st'' _ hxk ⟨rfl,l,r,rfl,hlr,hrk,hm,hlo,hhi⟩
   dsimp only
   by_cases hge:l ≥ r
   ·rw [if_pos hge]
    have:l=r:=by omega
    subst this
    exact wpS_pure ⟨rfl,l,l,rfl,hrk,hlo,hhi⟩
   ·rw [if_neg hge]
    refine wpS_bind (Q7 hB' h0 (by omega) (by omega) ?_)
    by_cases hl:K (arrOf st'') (lo+k)<K (arrOf st'') (lo+(l+r) / 2)
    ·simp only [hl,decide_true,if_true]
     refine wpS_pure ⟨rfl,l,(l+r) / 2,rfl,by omega,by omega,by omega,hlo,fun i h1 h2=>?_⟩
     exact Int.lt_of_lt_of_le hl (hs' _ _ (by omega) (by omega) (by omega))
    ·simp only [hl,decide_false,Bool.false_eq_true,if_false]
     refine wpS_pure ⟨rfl,(l+r) / 2+1,r,rfl,by omega,by omega,by omega,fun i h1=>?_,hhi⟩
     exact Int.le_trans (hs' (lo+i) (lo+(l+r) / 2) (by omega) (by omega) (by omega)) (Int.not_lt.mp hl)
  case ipost=>
   rintro c st'' ⟨rfl,l,r,rfl,hlk,hlo,hhi⟩
   show wpS _ _ _ _ (do moveDown' (lo+k) (lo+l);pure (ForInStep.yield (none,()))) _ _
   rw [moveDown'_eq]
   have kB:∀j,K (bubble (arrOf st'') (lo+k) (lo+k-(lo+l))) j=if j=lo+k-(lo+k-(lo+l)) then K (arrOf st'') (lo+k) else if lo+k-(lo+k-(lo+l))<j∧j≤lo+k then K (arrOf st'') (j-1) else K (arrOf st'') j:=fun j=>K_bubble (by omega) (by omega) j
   rw [show lo+k-(lo+k-(lo+l))=lo+l by omega] at kB
   refine wpS_bind (wpS_modify (wpS_pure ⟨rfl,hB'.arr (bubble_perm _ _ _),fun j hj=>?_,?_⟩))
   ·refine Eq.trans ?_ (hO j hj)
    show K (bubble _ _ _) j=_
    rw [kB,if_neg (by omega),if_neg (by omega)]
   ·rw [show min (k+1) n=k+1 by omega]
    intro i j hi hij hj
    show K (bubble _ _ _) i≤K (bubble _ _ _) j
    rw [kB,kB]
    by_cases i1:i=lo+l
    ·rw [if_pos i1]
     by_cases j1:j=lo+l
     ·rw [if_pos j1];exact Int.le_refl _
     ·rw [if_neg j1,if_pos (by omega)]
      have:=hhi (j-1-lo) (by omega) (by omega)
      rw [show lo+(j-1-lo)=j-1 by omega] at this
      exact Int.le_of_lt this
    ·rw [if_neg i1]
     by_cases i2:lo+l<i
     ·rw [if_pos (by omega),if_neg (by omega),if_pos (by omega)]
      exact hs' _ _ (by omega) (by omega) (by omega)
     ·rw [if_neg (by omega)]
      by_cases j1:j=lo+l
      ·rw [if_pos j1]
       have:=hlo (i-lo) (by omega)
       rw [show lo+(i-lo)=i by omega] at this
       exact this
      ·rw [if_neg j1]
       by_cases j2:lo+l<j
       ·rw [if_pos (by omega)]
        exact hs' _ _ (by omega) (by omega) (by omega)
       ·rw [if_neg (by omega)]
        exact hs' _ _ (by omega) (by omega) (by omega)
end
end SB
namespace SB
open PySem PyProof.Rows
section
variable {prog:Program}{w:World}{A:Around}{E:Value→Shared→Prop}{s:Shared}{a₀:Array Keyed}
structure SR (a₀:Array Keyed) (st:SortSt) (lo:Nat):Prop where
 perm:(arrOf st).Perm a₀
 kind:kindOf st=oneType'
 fail:failedOf st=none
 runs:Runs (arrOf st) (pendingOf st).toList 0 lo
 le:lo≤a₀.size
theorem SR.sg {st:SortSt}{lo:Nat} (h:SR a₀ st lo):SG a₀ (pendingOf st) st:=⟨h.perm,h.kind,h.fail,rfl⟩
theorem SR.len {st:SortSt}{lo:Nat} (h:SR a₀ st lo):(pendingOf st).size≤lo:=by
 have:=h.runs.le
 rw [Array.length_toList] at this
 omega
theorem Kw {st:SortSt}{lo j hi:Nat}{Q:Bool→SortSt→Prop} (h0:IntKeys a₀) (hB:SR a₀ st lo) (hj:j+1<(pendingOf st).size) (hS:zz (arrOf st) lo hi)
  (h:∀st',SR a₀ st' lo→(pendingOf st').size+1=(pendingOf st).size→zz (arrOf st') lo hi→Q true st'):wpS (model prog w) A E s (mergeAt' j) Q st:=by
 obtain⟨sa,na,pw,nb,pw2,e1,e2,n1,n2,_,g4,g5,g6,g7⟩:=Runs.at (j:=j) hB.runs (by rw [Array.length_toList];exact hj)
 rw [Array.getElem?_toList] at e1 e2
 have sz:(arrOf st).size=a₀.size:=hB.perm.size_eq
 have hle:=hB.le
 refine zbD hB.kind hB.fail (hB.sg.ik h0) e1 e2 n1 n2 (by omega) g5 g6 fun st' k' f' p' o' s' pd'=>?_
 refine h st' ⟨p'.trans hB.perm,k',f',?_,hB.le⟩ ?_ (hS.congr fun k k1 k2=>o' k (.inr (by omega)))
 ·have:=g7 (arrOf st') o' s'
  rw [pd',Array.toList_eraseIdxIfInBounds,Array.toList_setIfInBounds]
  exact this
 ·have e:(pendingOf st').toList=((pendingOf st).toList.set j (sa,na+nb,pw)).eraseIdx (j+1):=by rw [pd',Array.toList_eraseIdxIfInBounds,Array.toList_setIfInBounds]
  have:=congrArg List.length e
  rw [Array.length_toList,List.length_eraseIdx,List.length_set,Array.length_toList,if_pos hj] at this
  omega
theorem WF {st:SortSt}{Q:Unit→SortSt→Prop} (h0:IntKeys a₀) (hB:SBase a₀ st) (h2:2≤a₀.size)
  (h:∀st',(arrOf st').Perm a₀→failedOf st'=none→SortedTo (arrOf st') a₀.size→Q () st'):wpS (model prog w) A E s sortRuns' Q st:=by
 have B0:SR a₀ st 0:=⟨hB.perm,hB.kind,hB.failed,by rw [hB.pend];rfl,Nat.zero_le _⟩
 rw [sortRuns'_eq]
 refine wpS_bind (wpS_get ?_)
 dsimp only
 simp only [hB.size]
 generalize minRun' a₀.size a₀.size 0=mr
 refine wpS_bind (wpS_mono (wpS_forRange (I:=fun x c st'=>∃lo,c=(none,lo)∧SR a₀ st' lo∧x≤lo)
  (Q:=fun c st'=>c=(none,a₀.size)∧SR a₀ st' a₀.size) ?step ?fin ⟨0,rfl,B0,Nat.le_refl _⟩) ?post)
 case fin=>
  rintro c st' ⟨lo,rfl,B,hx⟩
  have:=B.le
  have e:lo=a₀.size:=by omega
  subst e
  exact⟨rfl,B⟩
 case step=>
  rintro x c st1 _ hx ⟨lo,rfl,B,hxl⟩
  dsimp only
  have hle:=B.le
  by_cases hge:lo ≥ a₀.size
  ·rw [if_pos hge]
   have e:lo=a₀.size:=by omega
   subst e
   exact wpS_pure ⟨rfl,B⟩
  rw [if_neg hge]
  refine wpS_bind (WD h0 (by omega) (by omega) B.sg fun m st2 B2 m1 m2 S2 O2=>?_)
  dsimp only
  have R2:SR a₀ st2 lo:=⟨B2.perm,B2.kind,B2.fail,by rw [B2.pend];exact B.runs.congr fun k _ k2=>O2 k (.inl k2),hle⟩
  by_cases hlt:m<mr
  case' pos=>
   rw [if_pos hlt]
   refine wpS_bind (wpS_lift (wpAny_rule ⟨rfl,?_⟩))
   refine wpS_bind (Vy h0 (by omega) (by omega) R2.sg S2 fun st3 B3 S3 O3=>?_)
   simp only [Bool.not_true,Bool.false_eq_true,if_false]
   have R3:SR a₀ st3 lo:=⟨B3.perm,B3.kind,B3.fail,by rw [B3.pend];exact R2.runs.congr fun k _ k2=>O3 k (.inl k2),hle⟩
   have n1:1≤min (a₀.size-lo) mr:=by omega
   have n2:lo+min (a₀.size-lo) mr≤a₀.size:=by omega
   generalize min (a₀.size-lo) mr=n at S3 n1 n2 ⊢
  case' neg=>
   rw [if_neg hlt]
   have R3:=R2
   have S3:=S2
   have n1:=m1
   have n2:lo+m≤a₀.size:=by omega
   generalize st2=st3 at R3 S3 ⊢
   generalize m=n at S3 n1 n2 ⊢
  all_goals
   refine wpS_bind (wpS_get ?_)
   have push:∀st4:SortSt,SR a₀ st4 lo→zz (arrOf st4) lo (lo+n)→SR a₀ (setPending st4 ((pendingOf st4).push (lo,n,0))) (lo+n):=fun st4 R4 S4=>
    ⟨R4.perm,R4.kind,R4.fail,by show Runs (arrOf st4) ((pendingOf st4).push _).toList 0 _;rw [Array.toList_push];exact R4.runs.snoc n1 S4,n2⟩
   cases hbk:(pendingOf st3).back? with
   | none=>
    dsimp only
    exact wpS_bind (wpS_modify (wpS_pure ⟨_,rfl,push st3 R3 S3,by omega⟩))
   | some t=>
    obtain⟨s1,q1,z1⟩:=t
    dsimp only
    generalize power' a₀.size (2*s1+q1) (2*s1+q1+q1+n) a₀.size=pw
    refine wpS_bind (wpS_mono (wpS_forRange (I:=fun _ c st4=>c=(none,())∧SR a₀ st4 lo∧zz (arrOf st4) lo (lo+n))
     (Q:=fun c st4=>c=(none,())∧SR a₀ st4 lo∧zz (arrOf st4) lo (lo+n)) ?_ (fun _ _ y=>y) ⟨rfl,R3,S3⟩) ?_)
    ·rintro y c st4 _ hy ⟨rfl,R4,S4⟩
     refine wpS_bind (wpS_get ?_)
     by_cases hp:(pendingOf st4).size > 1
     ·rw [if_pos hp]
      cases hq:(pendingOf st4)[(pendingOf st4).size-2]? with
      | none=>
       dsimp only
       exact wpS_pure ⟨rfl,R4,S4⟩
      | some u=>
       obtain⟨u1,u2,older⟩:=u
       dsimp only
       by_cases ho:older≤pw
       ·rw [if_pos ho]
        exact wpS_pure ⟨rfl,R4,S4⟩
       ·rw [if_neg ho]
        refine wpS_bind (Kw h0 R4 (by omega) S4 fun st5 R5 _ S5=>?_)
        simp only [Bool.not_true,Bool.false_eq_true,if_false]
        exact wpS_pure ⟨rfl,R5,S5⟩
     ·rw [if_neg hp]
      dsimp only
      exact wpS_pure ⟨rfl,R4,S4⟩
    ·rintro c st4 ⟨rfl,R4,S4⟩
     dsimp only
     refine wpS_bind (wpS_modify ?_)
     have R5:SR a₀ (setPending st4 ((pendingOf st4).modify ((pendingOf st4).size-1) fun x=>(x.1,x.2.1,pw))) lo:=
      ⟨R4.perm,R4.kind,R4.fail,by show Runs (arrOf st4) ((pendingOf st4).modify _ _).toList 0 _;rw [Array.toList_modify];exact R4.runs.pow _,hle⟩
     exact wpS_bind (wpS_modify (wpS_pure ⟨_,rfl,push _ R5 S4,by omega⟩))
 case post=>
  rintro c st1 ⟨rfl,R1⟩
  dsimp only
  refine wpS_bind (wpS_mono (wpS_forRange (I:=fun x c st2=>c=(none,())∧SR a₀ st2 a₀.size∧(pendingOf st2).size≤max 1 (a₀.size-x))
   (Q:=fun c st2=>c=(none,())∧SR a₀ st2 a₀.size∧(pendingOf st2).size≤1) ?_ ?_ ⟨rfl,R1,by have:=R1.len;omega⟩) ?_)
  ·rintro x c st2 _ hx ⟨rfl,R2,p2⟩
   refine wpS_bind (wpS_get ?_)
   by_cases hp:(pendingOf st2).size≤1
   ·rw [if_pos hp]
    exact wpS_pure ⟨rfl,R2,hp⟩
   rw [if_neg hp]
   try dsimp only
   have hS:zz (arrOf st2) a₀.size a₀.size:=fun i j a b c=>by omega
   split
   all_goals
    refine wpS_bind (Kw h0 R2 (by split <;> omega) hS fun st3 R3 l3 _=>?_)
    simp only [Bool.not_true,Bool.false_eq_true,if_false]
    exact wpS_pure ⟨rfl,R3,by omega⟩
  ·rintro c st2 ⟨rfl,R2,p2⟩
   exact⟨rfl,R2,by omega⟩
  ·rintro c st2 ⟨rfl,R2,p2⟩
   refine wpS_pure (h st2 R2.perm R2.fail ?_)
   have hr:=R2.runs
   match hl:(pendingOf st2).toList,hr with
   | [],hr=>
    have:(0:Nat)=a₀.size:=hr
    omega
   | [(s1,n1,_)],⟨g1,g2,g3,g4⟩=>
    have e:s1+n1=a₀.size:=g4
    subst g1
    intro i j hij hj
    exact g3 i j (Nat.zero_le _) hij (by omega)
   | _::_::_,_=>
    have:(pendingOf st2).toList.length≤1:=by rw [Array.length_toList];exact p2
    rw [hl] at this
    simp at this
end
end SB
namespace SB
open PySem PyProof.Rows
section
variable {prog:Program}{w:World}{A:Around}{E:Value→Shared→Prop}{s:Shared}
theorem zgw {α:Type}:∀{l:List α},¬l.length<2→∃x y r,l=x::y::r
 | [],h=>absurd (by decide:(0:Nat)<2) h
 | [_],h=>absurd (by decide:(1:Nat)<2) h
 | x::y::r,_=>⟨x,y,r,rfl⟩
theorem zcx {a:Addr}{vs:List Value}{ns:List Int}{n:Nat}{P:Fin→Shared→Prop} (ho:s.heap.get? a=some (seqObj "list" vs.toArray n)) (hI:IntsAre vs ns) (hz:vs.length≤sizeLine)
  (h:∀(o:Array Value) (ms:List Int),IntsAre o.toList ms→ms.Perm ns→ms.Pairwise (·≤·)→P (.done (.ret .none)) { s with heap:=sortedHeap s.heap a vs o }) :
  wpAny (model prog w) A (Builtin.«list.sort» ⟨[.ref a],[]⟩) P E s:=by
 have ha:a<s.heap.objs.size:=Heap.lt_size ho
 obtain⟨e1,ho1⟩:∃e1,(s.heap.update a (Obj.mapSeq fun _=>(#[]:Array Value))).get? a=some (seqObj "list" #[] e1):=⟨_,get?_update_seq ho fun _=>#[]⟩
 rw [list_sort_plain]
 refine wpAny_bind (listItems_at ho rfl ?_)
 refine wpAny_bind (listUpdate_at ho rfl ?_ (by rw [List.size_toArray];exact hz) (Nat.zero_le _))
 refine wpAny_bind (seqEpoch_at ho1 rfl ?_)
 refine wpAny_bind (wpAny_newTuple ?_ (by show vs.length≤_;exact hz))
 refine wpAny_bind (wpAny_newList ?_ (Nat.zero_le _))
 refine wpAny_holding ?_
 show wpAny (model prog w) A _ P E { s with heap:=((s.heap.update a (Obj.mapSeq fun _=>(#[]:Array Value))).push (seqObj "tuple" vs.toArray 0)).push (seqObj "list" #[] 0) }
 dsimp only
 have ho6:(((s.heap.update a (Obj.mapSeq fun _=>(#[]:Array Value))).push (seqObj "tuple" vs.toArray 0)).push (seqObj "list" #[] 0)).get? a=some (seqObj "list" #[] e1):=Heap.get?_push_of_some _ (Heap.get?_push_of_some _ ho1)
 have fin:∀c:Array Keyed,c.Perm (pairsOf vs)→SortedTo c (pairsOf vs).size→P (.done (.ret .none)) { s with heap:=sortedHeap s.heap a vs (c.map (·.2)) }:=fun c hp hs=>by
  obtain⟨ms,h1,h2,h3⟩:=sorted_out hI hp hs
  exact h _ ms h1 h2 h3
 by_cases h2:vs.toArray.size<2
 ·rw [if_pos h2,if_pos h2]
  refine wpAny_bind (wpAny_pure ?_)
  rw [StateT.run_pure]
  refine wpAny_bind (wpAny_pure ?_)
  dsimp only
  refine wpAny_bind (seqEpoch_at ho6 rfl ?_)
  refine wpAny_bind (listUpdate_at ho6 rfl ?_ (Nat.zero_le _) (by rw [Array.size_map];show (pairsOf vs).size≤_;rw [pairsOf_size];exact Nat.le_succ_of_le hz))
  simp only [bne_self_eq_false,Bool.false_eq_true,if_false]
  rw [List.size_toArray] at h2
  refine wpAny_pure (fin (pairsOf vs) (Array.Perm.refl _) fun i j hij hj=>?_)
  rw [pairsOf_size] at hj
  rw [show i=j by omega]
  exact Int.le_refl _
 ·rw [if_neg h2,if_neg h2]
  rw [List.size_toArray] at h2
  have kk:keyKind' vs.toArray=pure oneType':=by
   obtain⟨x,y,r,rfl⟩:=zgw h2
   exact keyKind_ints hI
  rw [kk]
  refine wpAny_bind (wpAny_pure ?_)
  refine wpAny_bind (wpAny_mono (WF (a₀:=pairsOf vs) (st:=SortSt.mk' oneType' (vs.toArray.zip vs.toArray) #[] 7 none)
   (Q:=fun _ st=>(arrOf st).Perm (pairsOf vs)∧failedOf st=none∧SortedTo (arrOf st) (pairsOf vs).size) hI.intKeys ⟨Array.Perm.refl _,rfl,rfl,rfl⟩ (by rw [pairsOf_size];omega) fun st c1 c2 c3=>⟨c1,c2,c3⟩) ?_ fun _ _ e=>e)
  rintro⟨⟨⟩,st⟩ s' ⟨rfl,hp,hf,hs⟩
  dsimp only
  refine wpAny_bind (seqEpoch_at ho6 rfl ?_)
  refine wpAny_bind (listUpdate_at ho6 rfl ?_ (Nat.zero_le _) (Nat.le_trans (Nat.le_of_eq ((Array.size_map ..).trans (hp.size_eq.trans (pairsOf_size _)))) (Nat.le_succ_of_le hz)))
  rw [hf]
  simp only [bne_self_eq_false,Bool.false_eq_true,if_false]
  exact wpAny_pure (fin (arrOf st) hp hs)
theorem sortedB {l:Addr}{vs:List Value}{ns:List Int}{Q:Value→Shared→Prop} (hl:s.heap.IsList l vs.toArray) (hI:IntsAre vs ns) (hz:vs.length≤sizeLine)
  (h:∀(o:Array Value) (ms:List Int),IntsAre o.toList ms→ms.Perm ns→ms.Pairwise (·≤·)→Q (.ref (s.heap.objs.size+1)) { s with heap:=sortedAll s.heap vs o }) :
  wpAny (model prog w) A (call (.builtin "sorted") [.ref l]) Q E s:=by
 refine Calls.call_function_entry kind_sorted plain_sorted entry_sorted (args_sorted1 _) ?_
 unfold Builtin.«sorted»
 refine wpAny_bind (m:=checkCount "sorted" 1 1 _) (wpAny_pure ?_)
 refine wpAny_bind (collect_list hl ?_ hz)
 refine wpAny_bind (wpAny_newList ?_ (by show vs.length≤_;exact hz))
 have hsz:((s.heap.push (seqObj "list" #[] 0)).update s.heap.objs.size (Obj.mapSeq (·++vs.toArray))).objs.size=s.heap.objs.size+1:=by
  rw [Heap.size_update,size_push']
 have hoL:(((s.heap.push (seqObj "list" #[] 0)).update s.heap.objs.size (Obj.mapSeq (·++vs.toArray))).push (seqObj "list" vs.toArray 0)).get? (s.heap.objs.size+1)=some (seqObj "list" vs.toArray 0):=by
  rw [← hsz];exact Heap.get?_push_size _ rfl
 show wpAny _ _ _ _ _ { s with heap:=((s.heap.push (seqObj "list" #[] 0)).update s.heap.objs.size (Obj.mapSeq (·++vs.toArray))).push (seqObj "list" vs.toArray 0) }
 rw [hsz]
 refine wpAny_bind (wpAny_holding (wpAny_call_entry slot_list_sort ⟨_,hoL,rfl⟩ entry_list_sort (zcx hoL hI hz fun o ms c1 c2 c3=>⟨_,rfl,?_⟩) (args_list_sort _)))
 exact wpAny_pure ⟨_,rfl,h o ms c1 c2 c3⟩
end
end SB
namespace L2
open PySem PyProof.Rows
section
variable {X:Cx}
theorem WK:CallR X (.builtin "sorted") (fun xs H Q=>∃(p:Addr) (ns:List Int),xs=[.ref p]∧SqL X.K H p (ns.map V.int)∧∀(l:Addr) (ms:List Int),H l=none→ms.Perm ns→ms.Pairwise (·≤·)→Q (.ref l) (upd H l (.lst (ms.map V.int)))):=by
 intro pins s σ H xs us Q I r h
 obtain⟨p,ns,rfl,hq,q⟩:=h
 obtain⟨u,rfl,ru⟩:=vals1 r
 cases ru
 obtain⟨vs,hl,hi,hz⟩:=I.ints hq
 refine SB.sortedB hl hi (by rw [hi.length];exact hz) fun out ms a1 a2 a3=>?_
 obtain⟨e,he⟩:=sortedAll_at s.heap vs out
 have new:ObjOk X.prog X.w (upd H (s.heap.objs.size+1) (.lst (ms.map V.int))) (sortedAll s.heap vs out) (s.heap.objs.size+1) (.lst (ms.map V.int)):=⟨by rw [List.length_map,a2.length_eq];exact hz,out.toList,e,vals_ints a1,by simpa [seqObj] using he⟩
 exact⟨.ref (s.heap.objs.size+1),_,I.laid (t':=s.toks) (fun _ _=>sortedAll_old) (Nat.le_succ _) new,rfl,q _ ms (I.hok.fresh (Nat.le_succ _)) a2 a3⟩
end
end L2
namespace Bw
open PySem L2
open Builtin.Int (intBits)
def top (i:Nat):Stmt:=PySem.Challenge.pw_bellwrite_k97_whole_from_desk_to_desk.main.body.getD i (.Pass ⟨0,0,0,0⟩)
abbrev ZK:Stmt:=top 1
abbrev XM:Stmt:=top 2
abbrev wB:Stmt:=top 3
abbrev xU:Stmt:=top 4
abbrev jU:Stmt:=top 5
abbrev ZL:Stmt:=top 15
abbrev wC:Stmt:=top 16
abbrev xV:Stmt:=top 17
abbrev xW:Stmt:=top 18
abbrev jb:Stmt:=top 19
abbrev xX:Stmt:=top 21
abbrev Zg:Stmt:=top 22
abbrev Qp:Stmt:=top 24
abbrev jV:Stmt:=top 26
abbrev qP:Stmt:=top 27
abbrev yx:Stmt:=top 28
abbrev Xi:Stmt:=top 29
abbrev jB:Stmt:=top 31
abbrev Qq:Stmt:=top 32
abbrev yz:Stmt:=top 33
abbrev qF:Stmt:=top 35
abbrev Xj:Stmt:=top 36
abbrev jC:Stmt:=top 37
abbrev jD:Stmt:=top 42
abbrev yC:Stmt:=top 43
abbrev Qs:Stmt:=top 44
abbrev qH:Stmt:=top 45
abbrev Xk:Stmt:=top 46
abbrev wD:Stmt:=top 47
abbrev zT:Stmt:=top 48
abbrev jW:Stmt:=top 56
abbrev yD:Stmt:=top 57
abbrev jX:Stmt:=top 58
abbrev xY:Stmt:=top 59
abbrev jY:Stmt:=top 60
abbrev wF:Stmt:=top 61
abbrev wG:Stmt:=top 62
abbrev jE:Stmt:=top 63
abbrev jZ:Stmt:=top 64
abbrev wH:Stmt:=top 68
abbrev j4:Stmt:=top 69
abbrev yE:Stmt:=top 70
abbrev vU:Stmt:=top 71
abbrev jw:Stmt:=top 73
abbrev j5:Stmt:=top 74
abbrev j6:Stmt:=top 75
abbrev j7:Stmt:=top 76
abbrev xZ:Stmt:=top 77
abbrev jF:Stmt:=top 78
abbrev vd:Stmt:=top 79
abbrev vf:Stmt:=top 80
abbrev XN:Stmt:=top 81
abbrev qW:Stmt:=inClass (top 66) 0
abbrev ji:Stmt:=inClass (top 67) 0
abbrev jj:Stmt:=inClass (top 67) 1
abbrev jk:Stmt:=inClass (top 67) 2
abbrev jl:Stmt:=inClass (top 67) 3
abbrev qI:Stmt:=inClass (top 67) 4
abbrev z8:Stmt:=inClass (top 67) 5
abbrev jm:Stmt:=inClass (top 67) 6
structure Own (K:PySem.W.Frag) (zA zp:Addr):Prop where
 c_Frame:Cls K zA
 n_Frame_turns:NoAttr K zA "turns"
 n_Frame_bells:NoAttr K zA "bells"
 n_Frame_late:NoAttr K zA "late"
 n_Frame_frames:NoAttr K zA "frames"
 c_Desk:Cls K zp
 n_Desk_turns:NoAttr K zp "turns"
 n_Desk_bells:NoAttr K zp "bells"
 n_Desk_late:NoAttr K zp "late"
 n_Desk_frames:NoAttr K zp "frames"
 d_Frame_init:∃f,zbr K "__init__" "Frame.__init__" qW ["self","turns","bells","late"] f∧Mk K zA f
 d_Desk_init:∃f,zbr K "__init__" "Desk.__init__" ji ["self"] f∧Mk K zp f
 d_Desk_told:∃f,zbr K "told" "Desk.told" jj ["self","order"] f∧Meth K zp "told" f
 d_Desk_keep:∃f,zbr K "keep" "Desk.keep" jk ["self","words"] f∧Meth K zp "keep" f
 d_Desk_ring:∃f,zbr K "ring" "Desk.ring" jl ["self","words"] f∧Meth K zp "ring" f
 d_Desk_listen:∃f,zbr K "listen" "Desk.listen" qI ["self","words"] f∧Meth K zp "listen" f
 d_Desk_send_note:∃f,zbr K "send_note" "Desk.send_note" z8 ["self","words"] f∧Meth K zp "send_note" f
 d_Desk_kept:∃f,zbr K "kept" "Desk.kept" jm ["self","name"] f∧Meth K zp "kept" f
structure Txt (K:PySem.W.Frag) (mg:Str→Option Value):Prop where
 z_range:mg "range"=none
 z_isinstance:mg "isinstance"=none
 z_int:mg "int"=none
 z_bool:mg "bool"=none
 z_len:mg "len"=none
 z_list:mg "list"=none
 zde:mg "max"=none
 z_min:mg "min"=none
 z_enumerate:mg "enumerate"=none
 z_sorted:mg "sorted"=none
 z_sum:mg "sum"=none
 z_all:mg "all"=none
 z_str:mg "str"=none
 zdf:mg "zip"=none
 z_reversed:mg "reversed"=none
 wZ:mg "ValueError"=none
noncomputable def cellOf (ns:List Int) (k:Int):Int:=ns.getD k.toNat 0
noncomputable def zew (K:PySem.W.Frag):Sp:=fun vs H Q _=>∃(a:Addr) (ns:List Int) (k:Int),vs=[.ref a,.int k]∧SqL K H a (ns.map V.int)∧0≤k∧Q (.int (cellOf ns k)) H
structure zlk (row:List Int):Prop where
 inc:row.Pairwise (· < ·)
 nn:∀x∈row,0≤x
 sz:∀x∈row,x<2 ^ 200
theorem Ky {ns:List Int}{k:Nat}{x:Int} (h:ns[k]?=some x):atI (ns.map V.int) (k:Int)=some (V.int x):=atI_nat (by rw [List.getElem?_map,h];rfl)
noncomputable def zdK (ns:List Int) (lo hi:Option Int):List Int:=(ns.drop (HT.sIx ns.length 0 lo)).take (HT.sIx ns.length ns.length hi-HT.sIx ns.length 0 lo)
theorem zaJ (ns:List Int) (lo hi:Option Int):cutV (ns.map V.int) lo hi=(zdK ns lo hi).map V.int:=by
 unfold cutV zdK
 rw [List.length_map,List.map_take,List.map_drop]
theorem zex (ns:List Int) (lo hi:Option Int):(zdK ns lo hi).length≤ns.length:=by
 have:=cutV_length (ns.map V.int) lo hi
 rwa [zaJ,List.length_map,List.length_map] at this
abbrev bmV:List Value:=[.type "ValueError",.type "Exception",.type "BaseException",.type "object"]
theorem zcy {P:Program}{w:World}{K:PySem.W.Frag}{mg:Str→Option Value}{base:Heap}{k:Nat}{x:Str}{ps:List Str}{sp:Sp} (F:FnE P w K mg base k x ps sp):Fn P w K mg base k x ps (fun vs H Q _=>sp vs H Q E0):=by
 obtain⟨f,fd,F,kp,b,m⟩:=F
 refine⟨f,fd,⟨fun vs H Q _ h=>F.len vs H Q E0 h,fun A outer s H args us vs Q E hr e0 hb r h=>codeAny_mono (F.run A outer s H args us vs Q E0 hr e0 hb r h) fun rr s' q=>?_⟩,kp,b,m⟩
 cases rr with
 | ok fl=>cases fl <;> exact q
 | error e=>
  obtain⟨_,_,_,_,_,_,_,_,_,_,_,_,z⟩:=q
  exact False.elim z
section
variable {P:Program}{w:World}{K:PySem.W.Frag}{mg:Str→Option Value}{base:Heap}
theorem Vz:FnScope ["script","k"] ["script","k"] (defScope jw):=⟨rfl,rfl,rfl,by decide +kernel,rfl,by decide +kernel,by decide +kernel⟩
theorem zcz (D:Def K mg "_law_cell_at" jw ["script","k"]) (T:Txt K mg):Fn P w K mg base 1 "_law_cell_at" ["script","k"] (zew K):=by
 refine D.fn Vz (fun vs H Q E h=>?_) (fun f cdv A outer s H vs Q E hr h=>?_)
 ·obtain⟨n,k,c,rfl,_⟩:=h
  rfl
 ·obtain⟨a,ns,k,rfl,hS,k0,q⟩:=h
  refine⟨_,(pss_cons (ps_if (pt_cmpR yt (pv 1) (pe_callB call_len_seq (by rfl) T.z_len xQ (pa_cons (pv 0) pa_nil)) (nomark _))
    (pss_one (ps_ret (pe_ix ix_list (pv 0) (pv 1) (fun _ _=>rfl))))
    pss_nil)
   (pss_one (ps_ret pe_int))),?_⟩
  refine⟨_,rfl,_,rfl,_,_,rfl,.inl hS,_,_,rfl,rfl,_,rfl,?_⟩
  rw [List.length_map]
  refine ifD (fun h=>?_) (fun h=>?_)
  ·have hk:k.toNat<ns.length:=by omega
   have e:atI (ns.map V.int) k=some (V.int (cellOf ns k)):=by
    have:=Ky (ns:=ns) (k:=k.toNat) (x:=cellOf ns k) (by unfold cellOf;rw [List.getD_eq_getElem?_getD,List.getElem?_eq_getElem hk];rfl)
    rwa [show ((k.toNat:Nat):Int)=k by omega] at this
   exact⟨_,rfl,_,rfl,_,_,_,_,rfl,rfl,hS,e,q⟩
  ·have e:cellOf ns k=0:=by
    unfold cellOf
    rw [List.getD_eq_getElem?_getD,List.getElem?_eq_none (by omega)]
    rfl
   rw [e] at q
   exact q
end
section
variable {P:Program}{w:World}{K:PySem.W.Frag}{mg:Str→Option Value}{base:Heap}
noncomputable def zcA:Sp:=fun vs H Q _=>∃c k:Int,vs=[.int c,.int k]∧intBits k≤100∧∀d:Int,0≤d→d<2 ^ 61→Q (.int d) H
theorem Zh:FnScope ["cell","k","number"] ["cell","k"] (defScope j5):=⟨rfl,rfl,rfl,by decide +kernel,rfl,by decide +kernel,by decide +kernel⟩
theorem zhm (D:Def K mg "_law_drawn" j5 ["cell","k"]):Fn P w K mg base 1 "_law_drawn" ["cell","k"] zcA:=by
 refine D.fn Zh (fun vs H Q E h=>?_) (fun f cdv A outer s H vs Q E hr h=>?_)
 ·obtain⟨c,k,rfl,_⟩:=h
  rfl
 ·obtain⟨c,k,rfl,kb,q⟩:=h
  refine⟨_,(pss_cons (ps_set (i:=2) Zh.nd rfl (Or.inl rfl) (pe_op qe (pe_op qj (pe_op zx (pe_op zx (pe_op qe (pv 0) (pe_op QW pe_int pe_int)) (pe_op qj pe_int (pv 1))) pe_int) pe_int) pe_int))
   (pss_cons (ps_set (i:=2) Zh.nd rfl (Or.inl rfl) (pe_op qe (pe_op qj (pv 2) (pv 2)) pe_int))
   (pss_one (ps_ret (pe_op yr (pe_op qe (pe_op zx (pe_op qj (pv 2) pe_int) (pe_op qj (pv 1) (pv 1))) pe_int) pe_int))))),?_⟩
  have p40:(0:Int)<10 ^ (40:Int).toNat:=by decide
  have l40:(10:Int) ^ (40:Int).toNat<2 ^ 140:=by decide
  have c0:=Int.emod_nonneg c (show (10:Int) ^ (40:Int).toNat≠0 by decide)
  have c1:=Int.emod_lt_of_pos c p40
  have cb:intBits (c % 10 ^ (40:Int).toNat)≤140:=zK c0 (Int.lt_trans c1 l40)
  have kb7:intBits (7*k)≤103:=intBits_mul_le (m:=3) (n:=100) (by decide) kb
  have b1:intBits (c % 10 ^ (40:Int).toNat+7*k+1)≤142:=za (intBits_add_le (m:=141) (n:=1) (za (intBits_add_le cb kb7) (by decide)) (by decide)) (by decide)
  refine⟨_,rfl,_,_,rfl,rfl,⟨by decide,by decide,by decide⟩,_,_,rfl,rfl,p40,_,rfl,_,_,rfl,rfl,⟨3,100,by decide,kb,by decide⟩,_,_,rfl,rfl,_,_,rfl,rfl,_,_,rfl,rfl,⟨142,40,b1,by decide,by decide⟩,_,_,rfl,rfl,(by decide),?_⟩
  have n0:=Int.emod_nonneg ((c % 10 ^ (40:Int).toNat+7*k+1)*2654435769) (show (2305843009213693951:Int)≠0 by decide)
  have n1:=Int.emod_lt_of_pos ((c % 10 ^ (40:Int).toNat+7*k+1)*2654435769) (show (0:Int)<2305843009213693951 by decide)
  generalize (c % 10 ^ (40:Int).toNat+7*k+1)*2654435769 % 2305843009213693951=number at n0 n1 ⊢
  have nb:intBits number≤62:=zK n0 (by omega)
  refine⟨_,rfl,_,rfl,_,_,rfl,rfl,⟨62,62,nb,nb,by decide⟩,_,_,rfl,rfl,(by decide),?_⟩
  have m0:=Int.emod_nonneg (number*number) (show (2305843009213693951:Int)≠0 by decide)
  have m1:=Int.emod_lt_of_pos (number*number) (show (0:Int)<2305843009213693951 by decide)
  generalize number*number % 2305843009213693951=num at m0 m1 ⊢
  have mb:intBits num≤62:=zK m0 (by omega)
  have r0:=Int.emod_nonneg (num*40503+k*k) (show (2305843009213693951:Int)≠0 by decide)
  have r1:=Int.emod_lt_of_pos (num*40503+k*k) (show (0:Int)<2305843009213693951 by decide)
  refine⟨_,rfl,_,_,rfl,rfl,⟨62,20,mb,by decide,by decide⟩,_,rfl,_,rfl,_,_,rfl,rfl,⟨100,100,kb,kb,by decide⟩,_,_,rfl,rfl,_,_,rfl,rfl,(by decide),_,_,rfl,rfl,⟨by decide,by decide⟩,q _ ?_ ?_⟩
  ·omega
  ·omega
end
section
noncomputable def spLaw (K:PySem.W.Frag):Sp:=fun vs H Q _=>∃(a:Addr) (ns:List Int),vs=[.ref a]∧SqL K H a (ns.map V.int)∧ns.length≤63∧∀H',Q (.bl true) H'
end
theorem zbE {a b:Int}{m:Nat} (h:intBits a≤m) (hb:0<b):intBits (a / b)≤m:=by
 refine intBits_le_of_natAbs (y:=a) ?_ h
 rcases (by omega:0≤a∨a<0) with z | z
 ·have h1:=Int.ediv_nonneg z (by omega:0≤b)
  have h2:=Int.ediv_le_self b z
  omega
 ·have h1:=Int.ediv_neg_of_neg_of_pos z hb
  have h2:a≤a / b:=by
   refine(Int.le_ediv_iff_mul_le hb).mpr ?_
   have:=Int.mul_le_mul_of_nonpos_left (a:=a) (b:=b) (c:=1) (by omega) (by omega)
   omega
  omega
section
variable {P:Program}{w:World}{K:PySem.W.Frag}{mg:Str→Option Value}{base:Heap}
theorem Q8:FnScope ["n","k","ways","taken"] ["n","k"] (defScope ZK):=⟨rfl,rfl,rfl,by decide +kernel,rfl,by decide +kernel,by decide +kernel⟩
theorem zdL (D:Def K mg "choose" ZK ["n","k"]) (T:Txt K mg):Fn P w K mg base 1 "choose" ["n","k"] ZG:=by
 refine D.fn Q8 (fun vs H Q E h=>?_) (fun f cdv A outer s H vs Q E hr h=>?_)
 ·obtain⟨n,k,rfl,_⟩:=h
  rfl
 ·obtain⟨n,k,rfl,hn,hk,hk2,hb,q⟩:=h
  refine⟨_,(pss_cons (ps_if (pt_cmpR vP (pv 1) (pv 0) (nomark _))
    (pss_one (ps_ret pe_int))
    pss_nil)
   (pss_cons (ps_set (i:=2) Q8.nd rfl (Or.inl rfl) pe_int)
   (pss_cons (ps_for PassesOwn.never rfl (pi_range1 (by rfl) T.z_range (pa_cons (pv 1) pa_nil)) (pg_name (i:=3) Q8.nd rfl (Or.inl rfl))
    (pss_one (ps_set (i:=2) Q8.nd rfl (Or.inl rfl) (pe_op yr (pe_op qj (pv 2) (pe_op zO (pv 0) (pv 3))) (pe_op zx (pv 3) pe_int)))))
   (pss_one (ps_ret (pv 2)))))),?_⟩
  refine⟨_,rfl,_,rfl,_,_,rfl,rfl,_,rfl,?_⟩
  refine ite2 (fun h=>?_) (fun h=>?_)
  ·have h':n<k:=of_decide_eq_true h
   have e:=Xd hn h'
   rw [e] at q
   exact q
  ·have h':¬n<k:=fun z=>h (decide_eq_true z)
   refine⟨_,rfl,k,rfl,by omega,by omega,for_range (n:=k.toNat) (fun i σ H'=>∃v,σ=[some (.int n),some (.int k),some (.int (ch n i)),v]∧H'=H) ⟨none,?_,rfl⟩ ?_ ?_⟩
   ·have e:=Xe n
    show _=[some (V.int n),some (V.int k),some (V.int (ch n 0)),none]
    rw [e]
    rfl
   ·rintro i σ H' hi ⟨v,rfl,rfl⟩
    have hi':(i:Int)<k:=by omega
    refine⟨_,rfl,_,rfl,_,rfl,_,_,rfl,rfl,_,_,rfl,rfl,?_,_,rfl,_,_,rfl,rfl,_,_,rfl,rfl,?_,?_⟩
    ·refine⟨100000*i+1,100000,V0 hb hn,?_,by omega⟩
     exact intBits_le_of_natAbs (by omega) hb
    ·exact⟨by omega,zK (by omega) (by omega)⟩
    ·have e:=zfg (n:=n) (i:=i) (by omega)
     have e0:(0:Int)+(i:Int)=(i:Int):=by omega
     refine⟨some (.int (0+(i:Int))),?_,rfl⟩
     rw [e0,e]
     rfl
   ·rintro σ H' ⟨v,rfl,rfl⟩
    refine⟨_,rfl,?_⟩
    have e:((k.toNat:Nat):Int)=k:=by omega
    rw [e]
    exact q
end
section
variable {P:Program}{w:World}{K:PySem.W.Frag}{mg:Str→Option Value}{base:Heap}
theorem Je:FnScope ["number","divisor"] ["number","divisor"] (defScope jU):=⟨rfl,rfl,rfl,by decide +kernel,rfl,by decide +kernel,by decide +kernel⟩
theorem WL (D:Def K mg "rounded_up" jU ["number","divisor"]) (hP:P.given.tree=none):Fn P w K mg base 36 "rounded_up" ["number","divisor"] zaB:=by
 refine D.fn Je (fun vs H Q E h=>?_) (fun f cdv A outer s H vs Q E hr h=>?_)
 ·obtain⟨n,k,rfl,_⟩:=h
  rfl
 ·obtain⟨a,b,rfl,hb,q⟩:=h
  refine⟨_,(pss_one (ps_ret (pe_op (zbe (zea hP Je hr)) (pe_op zO (pe_op zx (pv 0) (pv 1)) pe_int) (pv 1)))),?_⟩
  exact⟨_,rfl,_,rfl,_,_,rfl,rfl,_,_,rfl,rfl,_,rfl,_,_,rfl,rfl,hb,q⟩
theorem vg:FnScope ["k","number","product","factor","figures"] ["k","number"] (defScope xU):=⟨rfl,rfl,rfl,by decide +kernel,rfl,by decide +kernel,by decide +kernel⟩
theorem zaK (D:Def K mg "above_top" xU ["k","number"]) (T:Txt K mg) (ZZ:Fn P w K mg base 36 "rounded_up" ["number","divisor"] zaB):Fn P w K mg base 37 "above_top" ["k","number"] zc7:=by
 refine D.fn vg (fun vs H Q E h=>?_) (fun f cdv A outer s H vs Q E hr h=>?_)
 ·obtain⟨n,k,rfl,_⟩:=h
  rfl
 ·obtain⟨k,number,rfl,k1,k60,n0,nb,q⟩:=h
  refine⟨_,(pss_cons (ps_set (i:=2) vg.nd rfl (Or.inl rfl) (pv 1))
   (pss_cons (ps_for PassesOwn.never rfl (pi_range2 (by rfl) T.z_range (pa_cons pe_int (pa_cons (pe_op zx (pv 0) pe_int) pa_nil))) (pg_name (i:=3) vg.nd rfl (Or.inl rfl))
    (pss_one (ps_set (i:=2) vg.nd rfl (Or.inl rfl) (pe_op qj (pv 2) (pv 3)))))
   (pss_cons (ps_set (i:=4) vg.nd rfl (Or.inl rfl) (zr ZZ (hr.mono (by decide)) (by rfl) (pa_cons (pe_bm0 PySem.F.plainAttrs_int PySem.F.slot_int_bit_length PySem.F.type_int_bit_length Wx (pv 2)) (pa_cons (pv 0) pa_nil))))
   (pss_one (ps_ret (pe_op zO (pe_op zx (pe_op zfe pe_int (pv 4)) (pv 0)) pe_int)))))),?_⟩
  have ek:((k.toNat:Nat):Int)=k:=by omega
  have pb:∀i:Nat,(i:Int)≤60→intBits (number*fac i)≤50000+(7*i+1):=fun i hi=>intBits_mul_le nb (zbo i (by omega))
  refine⟨_,rfl,_,rfl,_,_,rfl,rfl,1,k+1,rfl,⟨by omega,by omega,by omega,by omega⟩,for_range (lo:=1) (n:=(k+1-1).toNat) (fun i σ H2=>∃v,σ=[some (.int k),some (.int number),some (.int (number*fac i)),v,none]∧H2=H) ⟨none,?_,rfl⟩ ?_ ?_⟩
  ·show _=[some (V.int k),some (V.int number),some (V.int (number*1)),none,none]
   rw [Int.mul_one]
   rfl
  ·rintro i σ H2 hi ⟨v,rfl,rfl⟩
   have hi':(i:Int)<k:=by omega
   refine⟨_,rfl,_,rfl,_,_,rfl,rfl,⟨_,64,pb i (by omega),zK (by omega) (by omega),by omega⟩,some (.int (1+(i:Int))),?_,rfl⟩
   rw [Kg,← Int.mul_assoc,Int.add_comm (i:Int) 1]
   rfl
  ·rintro σ H2 ⟨v,rfl,rfl⟩
   have en:(k+1-1).toNat=k.toNat:=by omega
   rw [en]
   have pk:=pb k.toNat (by omega)
   have hsz:=intBits_le_iff.mp (Nat.le_refl (intBits (number*fac k.toNat)))
   refine⟨_,rfl,rfl,_,rfl,rfl,_,rfl,_,_,rfl,by omega,?_⟩
   generalize hbn:intBits (number*fac k.toNat)=b at pk hsz ⊢
   have d1:=Int.mul_ediv_add_emod ((b:Int)+k-1) k
   have d2:=Int.emod_nonneg ((b:Int)+k-1) (show k≠0 by omega)
   have d3:=Int.emod_lt_of_pos ((b:Int)+k-1) (show 0<k by omega)
   have f0:0≤((b:Int)+k-1) / k:=Int.ediv_nonneg (by omega) (by omega)
   have f1:((b:Int)+k-1) / k≤(b:Int)+k-1:=Int.ediv_le_self _ (by omega)
   generalize ((b:Int)+k-1) / k=fg at d1 f0 f1 ⊢
   generalize ((b:Int)+k-1) % k=r at d1 d2 d3
   refine⟨_,rfl,_,_,rfl,rfl,⟨f0,by omega,by decide⟩,_,rfl,_,_,rfl,rfl,_,_,rfl,rfl,?_⟩
   have ef:((fg.toNat:Nat):Int)=fg:=by omega
   have hp:(0:Int)<2 ^ fg.toNat:=Int.pow_pos (by decide)
   have ab:=zgl (F:=fg.toNat) (b:=b) k1 n0 hsz (by rw [ef,Int.mul_comm];omega)
   have e1:(1:Int)*2 ^ fg.toNat=2 ^ fg.toNat:=Int.one_mul _
   rw [e1]
   refine q _ (by omega) ab ?_
   have hb2:intBits ((2:Int) ^ fg.toNat)≤fg.toNat+1:=by
    refine intBits_le_iff.mpr ?_
    rw [Int.natAbs_pow]
    exact Nat.pow_lt_pow_right (by decide) (by omega)
   refine za (intBits_sub_le (m:=50600) (n:=64) (za (intBits_add_le (m:=50599) (n:=64) (za hb2 (by omega)) (zK (by omega) (by omega))) (by decide)) (by decide)) (by decide)
theorem zey (n k:Nat):(k+1)*C (n+1) (k+1)=(n+1)*C n k:=by
 have h:=zaz n k
 rw [Zf,Nat.mul_add,Nat.add_mul,Nat.add_mul,Nat.one_mul,Nat.one_mul,Nat.add_mul n 1,Nat.one_mul]
 rw [Nat.add_mul] at h
 omega
theorem zdM {t k:Int} (hk:1≤k) (ht:1≤t):ch t k*k / t=ch (t-1) (k-1):=by
 obtain⟨j,hj⟩:∃j:Nat,k=(j:Int)+1:=⟨(k-1).toNat,by omega⟩
 obtain⟨m,hm⟩:∃m:Nat,t=(m:Int)+1:=⟨(t-1).toNat,by omega⟩
 subst hj hm
 have e1:ch ((m:Int)+1) ((j:Int)+1)=(C (m+1) (j+1):Nat):=by
  rw [show ((m:Int)+1)=((m+1:Nat):Int) by omega,show ((j:Int)+1)=((j+1:Nat):Int) by omega,Jp]
 have e2:ch ((m:Int)+1-1) ((j:Int)+1-1)=(C m j:Nat):=by
  rw [show ((m:Int)+1-1)=((m:Nat):Int) by omega,show ((j:Int)+1-1)=((j:Nat):Int) by omega,Jp]
 rw [e1,e2]
 have a:=zey m j
 have a':((C (m+1) (j+1):Nat):Int)*((j:Int)+1)=((m:Int)+1)*((C m j:Nat):Int):=by
  rw [Int.mul_comm]
  exact_mod_cast a
 rw [a']
 exact Int.mul_ediv_cancel_left _ (by omega)
noncomputable def zab:Sp:=fun vs H Q _=>∃start k number:Int,vs=[.int start,.int k,.int number]∧1≤k∧k≤60∧0≤number∧k-1≤start∧number<ch (start+1) k∧intBits start≤60000∧∀t:Int,zf5 k number t→intBits t≤60000→Q (.int t) H
theorem jg:FnScope ["start","k","number","top","ways","most_off","step"] ["start","k","number"] (defScope wB):=⟨rfl,rfl,rfl,by decide +kernel,rfl,by decide +kernel,by decide +kernel⟩
theorem zbF (D:Def K mg "top_from" wB ["start","k","number"]) (jc:Fn P w K mg base 1 "choose" ["n","k"] ZG) (ZZ:Fn P w K mg base 36 "rounded_up" ["number","divisor"] zaB) (hP:P.given.tree=none) :
  Fn P w K mg base 37 "top_from" ["start","k","number"] zab:=by
 refine D.fn jg (fun vs H Q E h=>?_) (fun f cdv A outer s H vs Q E hr h=>?_)
 ·obtain⟨a,n,k,rfl,_⟩:=h
  rfl
 ·obtain⟨t0,k,number,rfl,k1,k60,n0,t1,t2,t3,q⟩:=h
  refine⟨_,(pss_cons (ps_set (i:=3) jg.nd rfl (Or.inl rfl) (pv 0))
   (pss_cons (ps_set (i:=4) jg.nd rfl (Or.inl rfl) (zr jc (hr.mono (by decide)) (by rfl) (pa_cons (pv 3) (pa_cons (pv 1) pa_nil))))
   (pss_cons (ps_while PassesOwn.never (pt_cmpR vP (pv 4) (pv 2) (nomark _))
    (pss_cons (ps_set (i:=5) jg.nd rfl (Or.inl rfl) (pe_op (zbe (zea hP jg (hr.mono (by decide)))) (pe_op qj (pv 4) (pv 1)) (pv 3)))
    (pss_cons (ps_set (i:=6) jg.nd rfl (Or.inl rfl) (zr ZZ (hr.mono (by decide)) (by rfl) (pa_cons (pe_op zO (pv 4) (pv 2)) (pa_cons (pv 5) pa_nil))))
    (pss_cons (ps_set (i:=3) jg.nd rfl (Or.inl rfl) (pe_op zO (pv 3) (pv 6)))
    (pss_one (ps_set (i:=4) jg.nd rfl (Or.inl rfl) (pe_ifExp (pt_cmpR xP (pv 6) pe_int (nomark _)) (pe_op zO (pv 4) (pv 5)) (zr jc (hr.mono (by decide)) (by rfl) (pa_cons (pv 3) (pa_cons (pv 1) pa_nil))))))))))
   (pss_one (ps_ret (pv 3)))))),?_⟩
  refine⟨_,rfl,_,rfl,_,rfl,t0,k,rfl,by omega,by omega,by omega,za t3 (by decide),?_⟩
  refine while_by (fun σ H2=>∃t v v',σ=[some (.int t0),some (.int k),some (.int number),some (.int t),some (.int (ch t k)),v,v']∧H2=H∧k-1≤t∧number<ch (t+1) k∧intBits t≤60000)
   (fun σ _=>match σ with | [_,_,_,some (.int t),_,_,_]=>t.toNat | _=>0) ⟨t0,none,none,rfl,rfl,t1,t2,t3⟩ ?_ ?_
  ·rintro σ H2 ⟨t,v,v',rfl,rfl,u1,u2,u3⟩
   refine⟨_,rfl,_,rfl,_,_,rfl,rfl,_,rfl,ifD (fun h=>?_) (fun h=>?_)⟩
   ·obtain⟨a1,a2,a3,a4,a5⟩:=zcn k1 n0 (by omega) h _ rfl
    have wb:intBits (ch t k)≤60000*60+1:=by
     have:=V0 (k:=k.toNat) u3 (by omega)
     rw [show ((k.toNat:Nat):Int)=k by omega] at this
     exact za this (Nat.add_le_add_right (Nat.mul_le_mul_left _ (by omega)) _)
    refine⟨_,rfl,_,rfl,_,_,rfl,rfl,⟨_,64,wb,zK (by omega) (by omega),by decide⟩,_,rfl,_,_,rfl,rfl,by omega,?_⟩
    rw [zdM k1 (by omega)]
    have sb:ch (t-1) k=ch t k-ch (t-1) (k-1):=by
     have:=zaA (n:=t-1) (k:=k-1) (by omega) (by omega)
     rw [show t-1+1=t by omega,show k-1+1=k by omega] at this
     omega
    refine⟨_,rfl,_,rfl,_,_,rfl,rfl,_,rfl,ch t k-number,ch (t-1) (k-1),rfl,a2,?_⟩
    generalize (ch t k-number+ch (t-1) (k-1)-1) / ch (t-1) (k-1)=d at a3 a4 a5 ⊢
    have tb:intBits (t-d)≤60000:=intBits_le_of_natAbs (y:=t) (by omega) u3
    refine⟨_,rfl,_,rfl,_,_,rfl,rfl,_,rfl,_,_,rfl,rfl,_,rfl,ifD (fun e=>?_) (fun e=>?_)⟩
    ·subst e
     refine⟨_,rfl,_,rfl,_,_,rfl,rfl,⟨t-1,_,_,by rw [sb];rfl,rfl,a4,a5,tb⟩,?_⟩
     show (t-1).toNat<t.toNat
     omega
    ·refine⟨_,rfl,_,rfl,t-d,k,rfl,by omega,by omega,by omega,za tb (by decide),?_⟩
     refine⟨⟨t-d,_,_,rfl,rfl,a4,a5,tb⟩,?_⟩
     show (t-d).toNat<t.toNat
     omega
   ·refine⟨_,rfl,q t ⟨u1,by omega,u2⟩ u3⟩
  ·intro σ H2 R R' m h
   obtain⟨v,e1,u,e2,i,j,e3,e4,b,e5,z⟩:=h
   exact⟨v,e1,u,e2,i,j,e3,e4,b,e5,m _ _ z⟩
end
noncomputable def Fits (ns ms:List Int) (late:Int):Prop:=ns.length=ms.length∧∀(i:Nat) (x y:Int),ns[i]?=some x→ms[i]?=some y→x≤y∧y≤x+late
noncomputable def Al (l:Int):List Int→List Int→Prop
 | [],[]=>True
 | n::ns,z::zs=>n≤z∧z≤n+l∧Al l ns zs
 | _,_=>False
theorem zcB (l:Int):∀ns zs,Al l ns zs↔Fits ns zs l
 | [],[]=>⟨fun _=>⟨rfl,fun i x y h=>by simp at h⟩,fun _=>trivial⟩
 | [],_::_=>⟨fun h=>h.elim,fun h=>by have:=h.1;simp at this⟩
 | _::_,[]=>⟨fun h=>h.elim,fun h=>by have:=h.1;simp at this⟩
 | n::ns,z::zs=>by
  have ih:=zcB l ns zs
  constructor
  ·rintro⟨h1,h2,h3⟩
   obtain⟨e,f⟩:=ih.mp h3
   refine⟨by simp [e],fun i x y hx hy=>?_⟩
   cases i with
   | zero=>
    simp only [List.getElem?_cons_zero,Option.some.injEq] at hx hy
    subst hx hy
    exact⟨h1,h2⟩
   | succ i=>
    rw [List.getElem?_cons_succ] at hx hy
    exact f i x y hx hy
  ·rintro⟨e,f⟩
   have h0:=f 0 n z rfl rfl
   exact⟨h0.1,h0.2,ih.mpr ⟨by simpa using e,fun i x y hx hy=>f (i+1) x y (by simpa using hx) (by simpa using hy)⟩⟩
theorem zdg {l n z m:Int} (hm:m≤z) (hz:z≤n+l):∀(ns zs:List Int),(∀x∈ns,n≤x)→Al l ns zs→m∈zs→∃ws,Al l ns ws∧(z::zs).Perm (m::ws)
 | [],[],_,_,h=>nomatch h
 | [],_::_,_,h,_=>h.elim
 | _::_,[],_,h,_=>h.elim
 | a::ns,b::zs,hn,⟨h1,h2,h3⟩,h=>by
  have ha:=hn a (by simp)
  by_cases e:m=b
  ·subst e
   exact⟨z::zs,⟨by omega,by omega,h3⟩,.swap ..⟩
  ·have h':m∈zs:=by
    rcases List.mem_cons.mp h with x | x
    ·exact absurd x e
    ·exact x
   obtain⟨ws,w1,w2⟩:=zdg hm hz ns zs (fun x hx=>hn x (by simp [hx])) h3 h'
   exact⟨b::ws,⟨h1,h2,w1⟩,((List.Perm.swap b z zs).trans (w2.cons b)).trans (.swap ..)⟩
theorem zez {l:Int}{n:Int}:∀{ns zs:List Int},(∀x∈ns,n≤x)→Al l ns zs→∀z∈zs,n≤z
 | [],[],_,_,_,h=>nomatch h
 | [],_::_,_,h,_,_=>h.elim
 | _::_,[],_,h,_,_=>h.elim
 | a::ns,b::zs,hn,⟨h1,_,h3⟩,z,hz=>by
  have:=hn a (by simp)
  rcases List.mem_cons.mp hz with e | e
  ·omega
  ·exact zez (fun x hx=>hn x (by simp [hx])) h3 z e
theorem V6 {l:Int}:∀{ns zs ms:List Int},ns.Pairwise (·≤·)→Al l ns zs→ms.Perm zs→ms.Pairwise (·≤·)→Al l ns ms
 | [],[],ms,_,_,p,_=>by rw [List.perm_nil.mp p];trivial
 | [],_::_,_,_,h,_,_=>h.elim
 | _::_,[],_,_,h,_,_=>h.elim
 | n::ns,z::zs,ms,hs,⟨h1,h2,h3⟩,p,q=>by
  obtain⟨hn,hs'⟩:=List.pairwise_cons.mp hs
  cases ms with
  | nil=>exact absurd (List.nil_perm.mp p) (by simp)
  | cons m ms=>
   obtain⟨hm,q'⟩:=List.pairwise_cons.mp q
   have mz:m≤z:=by
    rcases List.mem_cons.mp (p.mem_iff.mpr (by simp:z∈z::zs)) with e | e
    ·omega
    ·exact hm z e
   have mm:m∈z::zs:=p.mem_iff.mp (by simp)
   have nm:n≤m:=by
    rcases List.mem_cons.mp mm with e | e
    ·omega
    ·exact zez (fun x hx=>hn x hx) h3 m e
   refine⟨nm,by omega,?_⟩
   rcases List.mem_cons.mp mm with e | e
   ·subst e
    exact V6 hs' h3 (List.Perm.cons_inv p) q'
   ·obtain⟨ws,w1,w2⟩:=zdg mz h2 ns zs hn h3 e
    exact V6 hs' w1 (List.Perm.cons_inv (p.trans w2)) q'
noncomputable def sums (ns ds:List Int):List Int:=List.zipWith (·+·) ns ds
theorem Vr (ns ds:List Int) (h:ns.length=ds.length):(sums ns ds).length=ns.length:=by
 unfold sums;rw [List.length_zipWith];omega
theorem zaL {late:Int}:∀{ns ds:List Int},ns.length=ds.length→(∀d∈ds,0≤d∧d≤late)→Al late ns (sums ns ds)
 | [],[],_,_=>trivial
 | [],_::_,h,_=>by simp at h
 | _::_,[],h,_=>by simp at h
 | n::ns,d::ds,h,hd=>by
  have h1:=hd d (by simp)
  refine⟨by show n≤n+d;omega,by show n+d≤n+late;omega,?_⟩
  exact zaL (by simpa using h) (fun x hx=>hd x (by simp [hx]))
theorem Kz {l:Int}{ns ms:List Int} (h:Al l ns ms):ms.length=ns.length:=((zcB _ _ _).mp h).1.symm
noncomputable def jG (late:Int) (ns:List Int):List Int:=(List.range ns.length).map fun i=>(ns.getD i 0-(i:Int)) / (late+1)
noncomputable def zq (late:Int) (bs:List Int):List Int:=(List.range bs.length).map fun i=>bs.getD i 0*(late+1)+(i:Int)
theorem Qt (late:Int) (ns:List Int):(jG late ns).length=ns.length:=by unfold jG;simp
theorem ql (late:Int) (ns:List Int):(zq late ns).length=ns.length:=by unfold zq;simp
theorem zbG {late:Int}{ns:List Int}{i:Nat}{x:Int} (h:ns[i]?=some x):(jG late ns)[i]?=some ((x-(i:Int)) / (late+1)):=by
 have hi:=(List.getElem?_eq_some_iff.mp h).1
 unfold jG
 rw [List.getElem?_map,List.getElem?_range hi]
 simp [List.getD_eq_getElem?_getD,h]
theorem zac {late:Int}{ns:List Int}{i:Nat}{x:Int} (h:ns[i]?=some x):(zq late ns)[i]?=some (x*(late+1)+(i:Int)):=by
 have hi:=(List.getElem?_eq_some_iff.mp h).1
 unfold zq
 rw [List.getElem?_map,List.getElem?_range hi]
 simp [List.getD_eq_getElem?_getD,h]
theorem XQ {late:Int}{ns:List Int}{i:Nat}{y:Int} (h:(jG late ns)[i]?=some y):∃x,ns[i]?=some x∧y=(x-(i:Int)) / (late+1):=by
 have hi:=(List.getElem?_eq_some_iff.mp h).1
 rw [Qt] at hi
 have g:=zbG (late:=late) (List.getElem?_eq_getElem hi)
 rw [g] at h
 exact⟨_,List.getElem?_eq_getElem hi,(Option.some.inj h).symm⟩
theorem xq {late:Int}{ns:List Int}{i:Nat}{y:Int} (h:(zq late ns)[i]?=some y):∃x,ns[i]?=some x∧y=x*(late+1)+(i:Int):=by
 have hi:=(List.getElem?_eq_some_iff.mp h).1
 rw [ql] at hi
 have g:=zac (late:=late) (List.getElem?_eq_getElem hi)
 rw [g] at h
 exact⟨_,List.getElem?_eq_getElem hi,(Option.some.inj h).symm⟩
structure zll (bs:List Int):Prop where
 inc:bs.Pairwise (·≤·)
 nn:∀x∈bs,0≤x
 sz:∀x∈bs,x<2 ^ 200
noncomputable def Szs (m:Nat) (ns:List Int):Prop:=∀x∈ns,intBits x≤m
section
variable {P:Program}{w:World}{K:PySem.W.Frag}{mg:Str→Option Value}{base:Heap}
noncomputable def zdh (K:PySem.W.Frag):Sp:=fun vs H Q _=>∃(a:Addr) (ns:List Int) (late:Int),vs=[.ref a,.int late]∧SqL K H a (ns.map V.int)∧ns.length≤1000∧0≤late∧intBits late≤8000 ∧
 ∀(p:Addr) (H':Hp),Same H H'→H p=none→H' p=some (.lst ((jG late ns).map V.int))→Q (.ref p) H'
end
section
variable {P:Program}{w:World}{K:PySem.W.Frag}{mg:Str→Option Value}{base:Heap}
theorem zdN:FnScope ["row","late"] ["row","late"] (defScope ZL):=⟨rfl,rfl,rfl,by decide +kernel,rfl,by decide +kernel,by decide +kernel⟩
theorem zdO (D:Def K mg "box_of" ZL ["row","late"]) (T:Txt K mg):Fn P w K mg base 1 "box_of" ["row","late"] (zdh K):=by
 refine D.fn zdN (fun vs H Q E h=>?_) (fun f cdv A outer s H vs Q E hr h=>?_)
 ·obtain⟨a,ns,late,rfl,_⟩:=h
  rfl
 ·obtain⟨a,ns,late,rfl,hA,hl,l0,lb,q⟩:=h
  refine⟨_,(pss_one (ps_ret (j9 (own:=["place","turn"]) (fr:=["late"]) (ix:=[1]) rfl ⟨rfl,rfl,rfl,rfl,rfl,rfl⟩ (Xf (by rfl) T.z_enumerate (pa_cons (pv 0) pa_nil)) (fun _ _ _ _ _=>(zay K (n:=2) rfl (pgs_cons (pg_name (i:=0) (show (["place","turn","late"]:List Str).Nodup by decide +kernel) rfl (Or.inl rfl)) (pgs_cons (pg_name (i:=1) (show (["place","turn","late"]:List Str).Nodup by decide +kernel) rfl (Or.inl rfl)) pgs_nil)))) (fun _ _ _ _ _=>qZ) (fun _ _ _ _ _=>(pe_op yr (pe_op zO (pv 1) (pv 0)) (pe_op zx (pv 2) pe_int)))))),?_⟩
  have lb1:intBits (late+1)≤9000:=za (intBits_add_le (m:=8000) (n:=1) lb (by decide)) (by decide)
  refine⟨_,rfl,a,_,rfl,hA,fun acc hacc=>Jq (K:=K) (a:=a) (xs:=ns.map V.int) (fun i=>V.int ((ns.getD i 0-(i:Int)) / (late+1))) hA hacc ?_ ?_ ?_⟩
  ·rw [List.length_map];exact Nat.le_of_lt (small1000 hl)
  ·intro i x t H2 R hx sm ht hR
   rw [List.getElem?_map] at hx
   obtain⟨x',hx',rfl⟩:=Option.map_eq_some_iff.mp hx
   simp only [List.getD_eq_getElem?_getD,hx',Option.getD_some] at hR
   exact⟨t,_,rfl,SqT.of ht,rfl,_,_,rfl,_,_,rfl,rfl,rfl,_,rfl,_,rfl,_,_,rfl,rfl,_,rfl,_,_,rfl,rfl,_,_,rfl,rfl,⟨by omega,lb1⟩,hR⟩
  ·intro H2 sm ha
   rw [List.length_map] at ha
   refine q acc H2 sm hacc ?_
   rw [ha]
   unfold jG
   rw [List.map_map]
   rfl
end
section
variable {P:Program}{w:World}{K:PySem.W.Frag}{mg:Str→Option Value}{base:Heap}
noncomputable def zad (K:PySem.W.Frag):Sp:=fun vs H Q _=>∃(a:Addr) (ns:List Int) (late:Int),vs=[.ref a,.int late]∧SqL K H a (ns.map V.int)∧ns.length≤1000∧intBits late≤8000∧Szs 70000 ns ∧
 ∀(p:Addr) (H':Hp),Same H H'→H p=none→H' p=some (.lst ((zq late ns).map V.int))→Q (.ref p) H'
theorem zbH:FnScope ["box","late"] ["box","late"] (defScope wC):=⟨rfl,rfl,rfl,by decide +kernel,rfl,by decide +kernel,by decide +kernel⟩
theorem zbI (D:Def K mg "bell_row" wC ["box","late"]) (T:Txt K mg):Fn P w K mg base 1 "bell_row" ["box","late"] (zad K):=by
 refine D.fn zbH (fun vs H Q E h=>?_) (fun f cdv A outer s H vs Q E hr h=>?_)
 ·obtain⟨a,ns,late,rfl,_⟩:=h
  rfl
 ·obtain⟨a,ns,late,rfl,hA,hl,lb,hz,q⟩:=h
  refine⟨_,(pss_one (ps_ret (j9 (own:=["place","part"]) (fr:=["late"]) (ix:=[1]) rfl ⟨rfl,rfl,rfl,rfl,rfl,rfl⟩ (Xf (by rfl) T.z_enumerate (pa_cons (pv 0) pa_nil)) (fun _ _ _ _ _=>(zay K (n:=2) rfl (pgs_cons (pg_name (i:=0) (show (["place","part","late"]:List Str).Nodup by decide +kernel) rfl (Or.inl rfl)) (pgs_cons (pg_name (i:=1) (show (["place","part","late"]:List Str).Nodup by decide +kernel) rfl (Or.inl rfl)) pgs_nil)))) (fun _ _ _ _ _=>qZ) (fun _ _ _ _ _=>(pe_op zx (pe_op qj (pv 1) (pe_op zx (pv 2) pe_int)) (pv 0)))))),?_⟩
  have lb1:intBits (late+1)≤9000:=za (intBits_add_le (m:=8000) (n:=1) lb (by decide)) (by decide)
  refine⟨_,rfl,a,_,rfl,hA,fun acc hacc=>Jq (K:=K) (a:=a) (xs:=ns.map V.int) (fun i=>V.int (ns.getD i 0*(late+1)+(i:Int))) hA hacc ?_ ?_ ?_⟩
  ·rw [List.length_map];exact Nat.le_of_lt (small1000 hl)
  ·intro i x t H2 R hx sm ht hR
   rw [List.getElem?_map] at hx
   obtain⟨x',hx',rfl⟩:=Option.map_eq_some_iff.mp hx
   simp only [List.getD_eq_getElem?_getD,hx',Option.getD_some] at hR
   exact⟨t,_,rfl,SqT.of ht,rfl,_,_,rfl,_,_,rfl,rfl,rfl,_,rfl,_,rfl,_,_,rfl,rfl,_,_,rfl,rfl,⟨70000,9000,hz x' (List.mem_of_getElem? hx'),lb1,by decide⟩,_,rfl,_,_,rfl,rfl,hR⟩
  ·intro H2 sm ha
   rw [List.length_map] at ha
   refine q acc H2 sm hacc ?_
   rw [ha]
   unfold zq
   rw [List.map_map]
   rfl
end
noncomputable def vh (bs:List Int):Nat→Int
 | 0=>0
 | i+1=>vh bs i+ch (bs.getD i 0+(i:Int)) ((i:Int)+1)
noncomputable def jH (bs:List Int):Int:=vh bs bs.length
structure qi (bs:List Int):Prop where
 inc:bs.Pairwise (·≤·)
 nn:∀x∈bs,0≤x
theorem WM (f:Nat→Int) (n:Nat):((List.range (n+1)).map f).sum=((List.range n).map f).sum+f n:=by
 rw [List.range_succ,List.map_append,List.sum_append]
 simp
theorem zae (bs:List Int):∀n:Nat,vh bs n=((List.range n).map fun i=>ch (bs.getD i 0+(i:Int)) ((i:Int)+1)).sum
 | 0=>rfl
 | n+1=>by
  rw [WM,← zae bs n]
  rfl
theorem qi.get {bs:List Int} (B:qi bs){i j:Nat}{x y:Int} (h:i≤j) (hx:bs[i]?=some x) (hy:bs[j]?=some y):x≤y:=by
 obtain⟨h1,e1⟩:=List.getElem?_eq_some_iff.mp hx
 obtain⟨h2,e2⟩:=List.getElem?_eq_some_iff.mp hy
 rcases Nat.lt_or_eq_of_le h with z | z
 ·have:=List.pairwise_iff_getElem.mp B.inc i j h1 h2 z
  omega
 ·subst z;omega
theorem qi.nn' {bs:List Int} (B:qi bs){i:Nat}:0≤bs.getD i 0:=by
 rw [List.getD_eq_getElem?_getD]
 cases h:bs[i]? with
 | none=>exact Int.le_refl _
 | some x=>exact B.nn x (List.mem_of_getElem? h)
theorem qi.le' {bs:List Int} (B:qi bs){i j:Nat} (h:i≤j) (hj:j<bs.length):bs.getD i 0≤bs.getD j 0:=by
 have hi:i<bs.length:=by omega
 rw [List.getD_eq_getElem?_getD,List.getD_eq_getElem?_getD,List.getElem?_eq_getElem hi,List.getElem?_eq_getElem hj]
 exact B.get h (List.getElem?_eq_getElem hi) (List.getElem?_eq_getElem hj)
theorem vp (bs:List Int):∀n,0≤vh bs n
 | 0=>Int.le_refl _
 | n+1=>by
  have:=vp bs n
  have:=XD (bs.getD n 0+(n:Int)) ((n:Int)+1)
  show 0≤vh bs n+_
  omega
theorem zbJ {bs:List Int} (B:qi bs):∀(i:Nat) (c:Int),i≤bs.length→0≤c→(∀j,j<i→bs.getD j 0≤c)→vh bs i<ch (c+(i:Int)) (i:Int)
 | 0,c,_,_,_=>by
  show (0:Int)<ch (c+((0:Nat):Int)) 0
  rw [Xe];decide
 | i+1,c,hi,hc,hb=>by
  have b0:=B.nn' (i:=i)
  have ih:=zbJ B i (bs.getD i 0) (by omega) b0 (fun j hj=>B.le' (by omega) (by omega))
  have p:=zaA (n:=bs.getD i 0+(i:Int)) (k:=(i:Int)) (by omega) (by omega)
  have m:=zc6 (m:=bs.getD i 0+(i:Int)+1) (n:=c+((i+1:Nat):Int)) (k:=((i+1:Nat):Int)) (by have:=hb i (by omega);omega)
  rw [show ((i+1:Nat):Int)=(i:Int)+1 by omega] at m ⊢
  show vh bs i+ch (bs.getD i 0+(i:Int)) ((i:Int)+1) < _
  omega
theorem zdP {bs:List Int} (B:qi bs){i:Nat} (hi:i<bs.length):zf5 ((i:Int)+1) (vh bs (i+1)) (bs.getD i 0+(i:Int)):=by
 have b0:=B.nn' (i:=i)
 have a:=zbJ B (i+1) (bs.getD i 0) hi b0 (fun j hj=>B.le' (by omega) hi)
 have n0:=vp bs i
 refine⟨by omega,?_,?_⟩
 ·show _≤vh bs i+_
  omega
 ·rw [show ((i+1:Nat):Int)=(i:Int)+1 by omega] at a
  rw [show bs.getD i 0+(i:Int)+1=bs.getD i 0+((i:Int)+1) by omega]
  exact a
section
variable {P:Program}{w:World}{K:PySem.W.Frag}{mg:Str→Option Value}{base:Heap}
noncomputable def zgc (K:PySem.W.Frag):Sp:=fun vs H Q _=>∃(a:Addr) (bs:List Int),vs=[.ref a]∧SqL K H a (bs.map V.int)∧bs.length≤900∧(∀x∈bs,0≤x)∧Szs 70000 bs ∧
 ∀H',Same H H'→Q (.int (jH bs)) H'
theorem WN:FnScope ["box"] ["box"] (defScope jV):=⟨rfl,rfl,rfl,by decide +kernel,rfl,by decide +kernel,by decide +kernel⟩
theorem WP (D:Def K mg "box_number" jV ["box"]) (T:Txt K mg) (jc:Fn P w K mg base 1 "choose" ["n","k"] ZG):Fn P w K mg base 2 "box_number" ["box"] (zgc K):=by
 refine D.fn WN (fun vs H Q E h=>?_) (fun f cdv A outer s H vs Q E hr h=>?_)
 ·obtain⟨a,bs,rfl,_⟩:=h
  rfl
 ·obtain⟨a,bs,rfl,hA,hl,nn,sz,q⟩:=h
  refine⟨_,(pss_one (ps_ret (pe_callB (zbp rfl) (by rfl) T.z_sum zf6 (pa_cons (j9 (own:=["place","part"]) (fr:=[]) (ix:=[]) rfl ⟨rfl,rfl,rfl,rfl,rfl,rfl⟩ (Xf (by rfl) T.z_enumerate (pa_cons (pv 0) pa_nil)) (fun _ _ _ _ _=>(zay K (n:=2) rfl (pgs_cons (pg_name (i:=0) (show (["place","part"]:List Str).Nodup by decide +kernel) rfl (Or.inl rfl)) (pgs_cons (pg_name (i:=1) (show (["place","part"]:List Str).Nodup by decide +kernel) rfl (Or.inl rfl)) pgs_nil)))) (fun _ _ _ _ _=>qZ) (fun _ _ _ _ _=>(zr jc (hr.mono (by decide)) (by rfl) (pa_cons (pe_op zx (pv 1) (pv 0)) (pa_cons (pe_op zx (pv 0) pe_int) pa_nil))))) pa_nil)))),?_⟩
  refine⟨_,rfl,a,_,rfl,hA,fun acc hacc=>Jq (K:=K) (a:=a) (xs:=bs.map V.int) (fun i=>V.int (ch (bs.getD i 0+(i:Int)) ((i:Int)+1))) hA hacc ?_ ?_ ?_⟩
  ·rw [List.length_map];exact Nat.le_of_lt (small1000 (by omega))
  ·intro i x t H2 R hx sm ht hR
   rw [List.getElem?_map] at hx
   obtain⟨x',hx',rfl⟩:=Option.map_eq_some_iff.mp hx
   simp only [List.getD_eq_getElem?_getD,hx',Option.getD_some] at hR
   have hi:=(List.getElem?_eq_some_iff.mp hx').1
   have x0:=nn x' (List.mem_of_getElem? hx')
   have xb:=sz x' (List.mem_of_getElem? hx')
   exact⟨t,_,rfl,SqT.of ht,rfl,_,_,rfl,_,_,rfl,rfl,rfl,_,rfl,_,rfl,_,_,rfl,rfl,_,rfl,_,_,rfl,rfl,_,_,rfl,by omega,by omega,by omega,za (intBits_add_le (m:=70000) (n:=64) xb (zK (by omega) (by omega))) (by decide),hR⟩
  ·intro H2 sm ha
   rw [List.length_map] at ha
   refine⟨acc,(List.range bs.length).map fun i=>ch (bs.getD i 0+(i:Int)) ((i:Int)+1),rfl,SqL.of ?_,?_⟩
   ·rw [ha,List.map_map];rfl
   ·rw [← zae]
    exact q H2 sm
end
noncomputable def WQ:Int→List Int→Prop
 | _,[]=>True
 | b,x::r=>b≤x∧WQ x r
theorem KC:∀{b:Int}{xs:List Int},WQ b xs→∀x∈xs,b≤x
 | _,[],_,_,z=>nomatch z
 | b,y::r,h,x,hx=>by
  rcases List.mem_cons.mp hx with e | e
  ·rw [e];exact h.1
  ·have:=KC h.2 x e
   have:=h.1
   omega
theorem zaM:∀{b:Int}{xs:List Int},WQ b xs→xs.Pairwise (·≤·)
 | _,[],_=>List.Pairwise.nil
 | _,_::_,h=>List.pairwise_cons.mpr ⟨KC h.2,zaM h.2⟩
theorem zaN:∀{b:Int}{xs:List Int},xs.Pairwise (·≤·)→(∀x∈xs,b≤x)→WQ b xs
 | _,[],_,_=>trivial
 | _,x::r,hp,h=>by
  obtain⟨p1,p2⟩:=List.pairwise_cons.mp hp
  exact⟨h x (by simp),zaN p2 p1⟩
theorem zdQ {bs:List Int}:qi bs↔WQ 0 bs:=⟨fun h=>zaN h.inc h.nn,fun h=>⟨zaM h,KC h⟩⟩
theorem zaf {bs:List Int}{i:Nat}{x b:Int} (h:bs[i]?=some x):WQ b (bs.drop i)↔b≤x∧WQ x (bs.drop (i+1)):=by
 obtain⟨hi,e⟩:=List.getElem?_eq_some_iff.mp h
 rw [List.drop_eq_getElem_cons hi,e]
 exact Iff.rfl
section
variable {P:Program}{w:World}{K:PySem.W.Frag}{mg:Str→Option Value}{base:Heap}
noncomputable def zdi (K:PySem.W.Frag) (C:Addr):Sp:=fun vs H Q E=>∃(a:Addr) (ns:List Int) (late:Int),vs=[.ref a,.int late]∧SqL K H a (ns.map V.int)∧ns.length≤1000∧0≤late∧intBits late≤8000 ∧
 (qi (jG late ns)→∀(p:Addr) (H':Hp),Same H H'→H p=none→H' p=some (.lst ((jG late ns).map V.int))→Q (.ref p) H') ∧
 (¬qi (jG late ns)→∀H',Same H H'→E (.ref C) none H')
theorem vq:FnScope ["reading","late","box","before","part"] ["reading","late"] (defScope xV):=⟨rfl,rfl,rfl,by decide +kernel,rfl,by decide +kernel,by decide +kernel⟩
theorem WR {zf:Addr} (D:Def K mg "heard_box" xV ["reading","late"]) (T:Txt K mg) (zF:mg "NoReading"=some (.ref zf)) (zG:PySem.W.excIn K zf bmV "ValueError.__new__"=true) (zeA:Fn P w K mg base 1 "box_of" ["row","late"] (zdh K)):FnE P w K mg base 2 "heard_box" ["reading","late"] (zdi K zf):=by
 refine D.fnE vq (fun vs H Q E h=>?_) (fun f cdv A outer s H vs Q E hr h=>?_)
 ·obtain⟨a,ns,late,rfl,_⟩:=h
  rfl
 ·obtain⟨a,ns,late,rfl,hA,hl,l0,lb,q,q2⟩:=h
  refine⟨_,(pss_cons (ps_set (i:=2) vq.nd rfl (Or.inl rfl) (zr zeA (hr.mono (by decide)) (by rfl) (pa_cons (pv 0) (pa_cons (pv 1) pa_nil))))
   (pss_cons (ps_set (i:=3) vq.nd rfl (Or.inl rfl) pe_int)
   (pss_cons (ps_for PassesOwn.leaving rfl (pi_list (pv 2)) (pg_name (i:=4) vq.nd rfl (Or.inl rfl))
    (pss_cons (ps_if (pt_cmpR yt (pv 4) (pv 3) (nomark _))
     (pss_one (zY PySem.F.excBase_ValueError zG (by rfl) zF (pa_cons pe_str pa_nil)))
     pss_nil)
    (pss_one (ps_set (i:=3) vq.nd rfl (Or.inl rfl) (pv 4)))))
   (pss_one (ps_ret (pv 2)))))),?_⟩
  refine⟨_,rfl,_,rfl,a,ns,late,rfl,hA,hl,l0,lb,fun p H1 s1 hp h1=>?_⟩
  generalize hbs:jG late ns=bs at h1 q q2
  refine⟨_,rfl,p,rfl,⟨_,SqL.of h1⟩,for_list (K:=K) (a:=p) (xs:=bs.map V.int) (fun i σ H2=>∃(before:Int) (v4:Option V),σ=[some (.ref a),some (.int late),some (.ref p),some (.int before),v4]∧H2=H1∧(qi bs↔WQ before (bs.drop i)))
   ⟨0,none,rfl,rfl,by rw [List.drop_zero];exact zdQ⟩ (fun i σ H2 _ ⟨_,_,_,e,_⟩=>e ▸ SqL.of h1) ?_ ?_⟩
  ·rintro i y σ H2 hi ⟨before,v4,rfl,rfl,hb⟩
   rw [List.getElem?_map] at hi
   obtain⟨x,hx,rfl⟩:=Option.map_eq_some_iff.mp hi
   rw [zaf hx] at hb
   refine⟨_,rfl,_,rfl,_,_,rfl,rfl,_,rfl,ifD (fun h=>?_) (fun h=>⟨_,rfl,x,_,rfl,rfl,hb.trans ⟨fun z=>z.2,fun z=>⟨by omega,z⟩⟩⟩)⟩
   exact⟨(by decide),q2 (fun B=>by have:=(hb.mp B).1;omega) _ s1⟩
  ·rintro σ H2 ⟨before,v4,rfl,rfl,hb⟩
   rw [List.length_map,List.drop_length] at hb
   exact⟨_,rfl,q (hb.mpr trivial) p _ s1 hp h1⟩
end
theorem KD {late:Int}{bs ms:List Int} (l0:0≤late) (h:Al late (zq late bs) ms):jG late ms=bs:=by
 obtain⟨hl,hf⟩:=(zcB _ _ _).mp h
 rw [ql] at hl
 refine List.ext_getElem? fun i=>?_
 by_cases hi:i<bs.length
 ·have hm:i<ms.length:=by omega
  have gb:=zac (late:=late) (List.getElem?_eq_getElem hi)
  have gm:=List.getElem?_eq_getElem hm
  obtain⟨f1,f2⟩:=hf i _ _ gb gm
  rw [zbG gm,List.getElem?_eq_getElem hi]
  congr 1
  generalize bs[i]=b at gb f1 f2
  generalize ms[i]=m at gm f1 f2
  have e:m-(i:Int)=(m-(i:Int)-b*(late+1))+b*(late+1):=by omega
  rw [e,Int.add_mul_ediv_right _ _ (by omega),Int.ediv_eq_zero_of_lt (by omega) (by omega)]
  omega
 ·rw [List.getElem?_eq_none (by rw [Qt];omega),List.getElem?_eq_none (by omega)]
theorem Qu {late:Int}{bs:List Int} (l0:0≤late) (B:qi bs):(zq late bs).Pairwise (·≤·):=by
 refine List.pairwise_iff_getElem.mpr fun i j hi hj hij=>?_
 obtain⟨x,hx,ex⟩:=xq (List.getElem?_eq_getElem hi)
 obtain⟨y,hy,ey⟩:=xq (List.getElem?_eq_getElem hj)
 rw [ex,ey]
 have:=Int.mul_le_mul_of_nonneg_right (B.get (by omega) hx hy) (show 0≤late+1 by omega)
 omega
theorem ZM {bs:List Int}{i j:Nat}{v:Int} (hi:i<bs.length):(bs.set i v).getD j 0=if j=i then v else bs.getD j 0:=by
 rw [List.getD_eq_getElem?_getD,List.getD_eq_getElem?_getD,List.getElem?_set]
 by_cases h:i=j
 ·subst h;simp [hi]
 ·rw [if_neg h,if_neg (fun z=>h z.symm)]
theorem zag {bs:List Int}{i:Nat}{v:Int} (hi:i<bs.length):∀n:Nat,vh (bs.set i v) n=vh bs n+if i<n then ch (v+(i:Int)) ((i:Int)+1)-ch (bs.getD i 0+(i:Int)) ((i:Int)+1) else 0
 | 0=>by rw [if_neg (Nat.not_lt_zero _)];rfl
 | n+1=>by
  show vh (bs.set i v) n+ch ((bs.set i v).getD n 0+(n:Int)) ((n:Int)+1)=vh bs n+ch (bs.getD n 0+(n:Int)) ((n:Int)+1)+_
  rw [zag hi n,ZM hi]
  by_cases h1:n=i
  ·subst h1
   rw [if_pos rfl,if_neg (Nat.lt_irrefl _),if_pos (Nat.lt_succ_self _)]
   omega
  ·rw [if_neg h1]
   by_cases h2:i<n
   ·rw [if_pos h2,if_pos (by omega)];omega
   ·rw [if_neg h2,if_neg (by omega)];omega
theorem Vs (m:Nat):∀n:Nat,vh (List.replicate m 0) n=0
 | 0=>rfl
 | n+1=>by
  have e:(List.replicate m (0:Int)).getD n 0=0:=by
   rw [List.getD_eq_getElem?_getD,List.getElem?_replicate]
   split <;> rfl
  show vh (List.replicate m 0) n+ch ((List.replicate m (0:Int)).getD n 0+(n:Int)) ((n:Int)+1)=0
  rw [Vs m n,e,Xd (by omega) (by omega)]
  rfl
theorem KH:∀n:Nat,(List.replicate n [V.int 0]).flatten=(List.replicate n (0:Int)).map V.int
 | 0=>rfl
 | n+1=>by
  rw [List.replicate_succ,List.flatten_cons,KH n,List.replicate_succ,List.map_cons]
  rfl
theorem zeB {n:Nat} (h:n≤1000):(-1:Int)≠0∧(-1:Int).natAbs<1073741824∧Builtin.Range.small ((n:Int)-1) (-1) (-1)=true∧Builtin.Range.rangeSize ((n:Int)-1) (-1) (-1)=(n:Int):=by
 have hs:Builtin.Range.rangeSize ((n:Int)-1) (-1) (-1)=(n:Int):=by
  unfold Builtin.Range.rangeSize
  rw [if_neg (by decide)]
  by_cases z:n=0
  ·subst z;rfl
  ·rw [if_pos (by omega)]
   show ((n:Int)-1 - -1-1) / (- -1)+1=n
   rw [show (- -1:Int)=1 by decide,Int.ediv_one]
   omega
 refine⟨by decide,by decide,?_,hs⟩
 unfold Builtin.Range.small
 rw [hs]
 simp only [Builtin.Range.rangeFitsLong]
 simp
 omega
theorem zeC {bs:List Int} (h0:∀j,j<bs.length→0≤bs.getD j 0) (hm:∀j k,j≤k→k<bs.length→bs.getD j 0≤bs.getD k 0):qi bs:=by
 have eg:∀(j:Nat) (h:j<bs.length),bs.getD j 0=bs[j]:=fun j h=>by rw [List.getD_eq_getElem?_getD,List.getElem?_eq_getElem h];rfl
 refine⟨List.pairwise_iff_getElem.mpr fun i j hi hj hij=>?_,fun x hx=>?_⟩
 ·have:=hm i j (by omega) hj
  rw [eg i hi,eg j hj] at this
  exact this
 ·obtain⟨j,hj,rfl⟩:=List.getElem_of_mem hx
  rw [← eg j hj]
  exact h0 j hj
theorem zeD (m:Nat):∀n:Nat,m<C (m+(n+1)) (n+1)
 | 0=>by rw [zee];omega
 | n+1=>by
  have:=zeD m n
  rw [show m+(n+1+1)=(m+(n+1))+1 by omega,Zf]
  omega
theorem zfw {m:Int}{n:Nat} (h0:0≤m) (hz:(n:Int)=0→m=0):m<ch (m+(n:Int)) (n:Int):=by
 cases n with
 | zero=>
  have:=hz rfl
  subst this
  rw [show ((0:Nat):Int)=0 from rfl,Xe]
  decide
 | succ n=>
  obtain⟨r,rfl⟩:∃r:Nat,m=(r:Int):=⟨m.toNat,by omega⟩
  rw [← Int.natCast_add,Jp]
  have:=zeD r n
  omega
theorem top_lt {k a b c:Int} (h1:ch a k≤c) (h2:c<ch b k):a<b:=by
 rcases (by omega:a<b∨b≤a) with z | z
 ·exact z
 ·have:=zc6 (k:=k) z
  omega
section
variable {P:Program}{w:World}{K:PySem.W.Frag}{mg:Str→Option Value}{base:Heap}
noncomputable def zeE (message bells:Int):Prop:=0≤message∧(bells=0→message=0)
noncomputable def zah (K:PySem.W.Frag) (C:Addr):Sp:=fun vs H Q E=>∃message bells:Int,vs=[.int message,.int bells]∧0≤bells∧bells≤60∧intBits message≤50000 ∧
 (zeE message bells→∀(p:Addr) (bs:List Int) (H':Hp),Same H H'→H p=none→H' p=some (.lst (bs.map V.int))→qi bs→bs.length=bells.toNat→jH bs=message→Szs 60010 bs→Q (.ref p) H') ∧
 (¬zeE message bells→E (.ref C) none H)
theorem z9:FnScope ["message","bells","box","left","top","place"] ["message","bells"] (defScope qP):=⟨rfl,rfl,rfl,by decide +kernel,rfl,by decide +kernel,by decide +kernel⟩
theorem Js {zj:Addr} (D:Def K mg "box_of_message" qP ["message","bells"]) (T:Txt K mg) (zP:mg "TooGreat"=some (.ref zj)) (zQ:PySem.W.excIn K zj bmV "ValueError.__new__"=true) (Qv:Fn P w K mg base 37 "above_top" ["k","number"] zc7) (Jt:Fn P w K mg base 37 "top_from" ["start","k","number"] zab) (jc:Fn P w K mg base 1 "choose" ["n","k"] ZG) :
  FnE P w K mg base 39 "box_of_message" ["message","bells"] (zah K zj):=by
 refine D.fnE z9 (fun vs H Q E h=>?_) (fun f cdv A outer s H vs Q E hr h=>?_)
 ·obtain⟨a,bs,rfl,_⟩:=h
  rfl
 ·obtain⟨message,bells,rfl,b0,b60,mb,q1,q2⟩:=h
  refine⟨_,(pss_cons (ps_if (pw_or (pt_cmpR yt (pv 0) pe_int (nomark _)) (pw_or1 (pw_and (pt_cmpR xP (pv 1) pe_int (nomark _)) (pw_and1 (pt_cmpR Xz (pv 0) pe_int (nomark _)))).pt)).pt
    (pss_one (zY PySem.F.excBase_ValueError zQ (by rfl) zP (pa_cons pe_str pa_nil)))
    pss_nil)
   (pss_cons (ps_set (i:=2) z9.nd rfl (Or.inl rfl) (pe_op op_rep (pe_lst (pa_cons pe_int pa_nil)) (pv 1)))
   (pss_cons (ps_set (i:=3) z9.nd rfl (Or.inl rfl) (pv 0))
   (pss_cons (ps_set (i:=4) z9.nd rfl (Or.inl rfl) (pe_op zx (pv 0) (pv 1)))
   (pss_cons (ps_for PassesOwn.leaving rfl (Y5 (by rfl) T.z_range (pa_cons (pe_op zO (pv 1) pe_int) (pa_cons (pe_un un_neg pe_int) (pa_cons (pe_un un_neg pe_int) pa_nil)))) (pg_name (i:=5) z9.nd rfl (Or.inl rfl))
    (pss_cons (ps_set (i:=4) z9.nd rfl (Or.inl rfl) (zr Jt (hr.mono (by decide)) (by rfl) (pa_cons (pe_callB (call_min2 rfl) (by rfl) T.z_min zg7 (pa_cons (pe_op zO (pv 4) pe_int) (pa_cons (zr Qv (hr.mono (by decide)) (by rfl) (pa_cons (pe_op zx (pv 5) pe_int) (pa_cons (pv 3) pa_nil))) pa_nil))) (pa_cons (pe_op zx (pv 5) pe_int) (pa_cons (pv 3) pa_nil)))))
    (pss_cons (ps_asg (pe_op zO (pv 4) (pv 5)) (pg_sub (pv 2) (pv 5) set_list))
    (pss_one (ps_set (i:=3) z9.nd rfl (Or.inl rfl) (pe_op zO (pv 3) (zr jc (hr.mono (by decide)) (by rfl) (pa_cons (pv 4) (pa_cons (pe_op zx (pv 5) pe_int) pa_nil)))))))))
   (pss_one (ps_ret (pv 2)))))))),?_⟩
  obtain⟨n,rfl⟩:∃n:Nat,bells=(n:Int):=⟨bells.toNat,by omega⟩
  refine⟨_,rfl,_,_,rfl,rfl,_,rfl,ifD (fun h=>⟨(by decide),q2 (fun g=>by have:=g.1;omega)⟩) (fun h=>⟨_,rfl,_,_,rfl,rfl,_,rfl,?_⟩)⟩
  refine(fun(G:0≤message→((n:Int)=0→message=0)→_)=>ifD (fun z=>⟨_,rfl,_,_,rfl,rfl,_,rfl,zbg (fun e=>⟨(by decide),q2 (fun g=>e (g.2 z))⟩) (fun e=>G (by omega) (fun _=>by omega))⟩) (fun z=>G (by omega) (fun z'=>absurd z' z))) (fun m0 mz=>?_)
  have q:=q1 ⟨m0,mz⟩
  refine⟨(by decide),fun l hl=>⟨_,rfl,l,(n:Int),_,rfl,rfl,upd_same,by omega,by omega,?_,fun p hp=>?_⟩⟩
  ·show 1*((n:Int)).toNat≤sizeLine
   exact Nat.le_of_lt (small1000 (by omega))
  rw [show ((n:Int)).toNat=n by omega,KH]
  have hp0:H p=none:=(Same.new hl).free hp
  have s1:Same H (upd (upd H l (.lst [V.int 0])) p (.lst ((List.replicate n (0:Int)).map V.int))):=(Same.new hl).put hp
  have h1:(upd (upd H l (.lst [V.int 0])) p (.lst ((List.replicate n (0:Int)).map V.int))) p=some (.lst ((List.replicate n (0:Int)).map V.int)):=upd_same
  generalize upd (upd H l (.lst [V.int 0])) p (.lst ((List.replicate n (0:Int)).map V.int))=H1 at s1 h1 ⊢
  have mb2:intBits (message+(n:Int))≤60000:=za (intBits_add_le (m:=50000) (n:=64) mb (zK (by omega) (by omega))) (by decide)
  refine⟨_,rfl,_,rfl,_,rfl,_,_,rfl,rfl,_,rfl,_,_,rfl,rfl,1,rfl,1,rfl,(n:Int)-1,-1,-1,n,rfl,zeB (by omega),zck (lo:=(n:Int)-1) (c:=-1) (n:=n) (fun i σ H2=>∃(bs:List Int) (left top:Int) (v5:Option V),σ=[some (.int message),some (.int (n:Int)),some (.ref p),some (.int left),some (.int top),v5]∧Same H H2∧H2 p=some (.lst (bs.map V.int))∧bs.length=n∧0≤left∧left≤message∧left+vh bs n=message∧(∀j,j<n-i→bs.getD j 0=0)∧(∀j,j<n→0≤bs.getD j 0)∧(∀j k,n-i≤j→j≤k→k<n→bs.getD j 0≤bs.getD k 0)∧left<ch top ((n-i:Nat):Int)∧((n-i:Nat):Int)≤top∧intBits top≤60000∧(0<i→top=bs.getD (n-i) 0+((n-i:Nat):Int))∧Szs 60010 bs)
   ⟨List.replicate n 0,message,message+(n:Int),none,rfl,s1,h1,by rw [List.length_replicate],m0,Int.le_refl _,by rw [Vs];omega,fun j _=>?_,fun j _=>?_,fun j k h1 h2 h3=>by omega,by rw [Nat.sub_zero];exact zfw m0 mz,by omega,mb2,fun z=>absurd z (by omega),fun x hx=>?_⟩ ?_ ?_⟩
  ·rw [List.getD_eq_getElem?_getD,List.getElem?_replicate]
   split <;> rfl
  ·rw [List.getD_eq_getElem?_getD,List.getElem?_replicate]
   split <;> decide
  ·rw [(List.mem_replicate.mp hx).2];decide
  ·rintro i σ H2 hi ⟨bs,left,top,v5,rfl,sm,hB,hl2,l0,l1,sum,z0,nn,mono,lt,tge,tbb,teq,sz⟩
   obtain⟨pl,hpl⟩:∃pl:Nat,pl=n-1-i:=⟨_,rfl⟩
   have ep:(n:Int)-1+(i:Int)*-1=(pl:Int):=by omega
   rw [ep]
   have hpb:pl<bs.length:=by omega
   have hni:n-i=pl+1:=by omega
   rw [hni] at lt tge teq
   refine⟨_,rfl,_,_,rfl,rfl,_,rfl,_,_,rfl,rfl,_,rfl,(pl:Int)+1,left,rfl,by omega,by omega,l0,intBits_le_of_natAbs (y:=message) (by omega) mb,fun a a1 a2 a3=>⟨_,_,rfl,_,rfl,_,_,rfl,rfl,_,rfl,_,(pl:Int)+1,left,rfl,by omega,by omega,l0,?_,?_,?_,fun t tp tb=>?_⟩⟩
   ·split <;> omega
   ·split
    ·exact a2
    ·rw [show top-1+1=top by omega,show ((pl:Int)+1)=((pl+1:Nat):Int) by omega]
     exact lt
   ·split
    ·exact a3
    ·exact intBits_le_of_natAbs (y:=top) (by omega) tbb
   have t0:=tp.lo
   have t1:=tp.le
   have t2:=tp.lt
   refine⟨_,rfl,_,rfl,_,_,rfl,rfl,_,rfl,_,rfl,p,_,_,pl,rfl,rfl,hB,?_,?_⟩
   ·unfold ixN
    rw [List.length_map,if_pos (by omega),if_pos (by omega),Int.toNat_natCast]
   have pas:=zaA (n:=t) (k:=(pl:Int)) (by omega) (by omega)
   refine⟨_,rfl,_,rfl,_,rfl,_,_,rfl,rfl,t,(pl:Int)+1,rfl,by omega,by omega,by omega,za tb (by decide),_,_,rfl,rfl,?_⟩
   have ge:=XD t ((pl:Int)+1)
   refine⟨bs.set pl (t-(pl:Int)),left-ch t ((pl:Int)+1),t,_,rfl,sm.wr hp0,by rw [upd_same,List.map_set],by rw [List.length_set];exact hl2,by omega,by omega,?_,fun j hj=>?_,fun j hj=>?_,fun j k h1 h2 h3=>?_,?_,by omega,tb,fun _=>?_,fun x hx=>?_⟩
   ·rw [zag hpb,if_pos (by omega),z0 pl (by omega),Xd (n:=0+(pl:Int)) (by omega) (by omega),show t-(pl:Int)+(pl:Int)=t by omega]
    omega
   ·rw [ZM hpb,if_neg (by omega)]
    exact z0 j (by omega)
   ·rw [ZM hpb]
    split
    ·omega
    ·exact nn j hj
   ·rw [ZM hpb,ZM hpb]
    by_cases e1:j=pl
    ·rw [if_pos e1]
     by_cases e2:k=pl
     ·rw [if_pos e2];exact Int.le_refl _
     ·rw [if_neg e2]
      have:=top_lt t1 (by rw [show ((pl:Int)+1)=((pl+1:Nat):Int) by omega];exact lt)
      have:=teq (by omega)
      have:=mono (pl+1) k (by omega) (by omega) h3
      omega
    ·rw [if_neg e1,if_neg (by omega)]
     exact mono j k (by omega) h2 h3
   ·rw [show n-(i+1)=pl by omega]
    omega
   ·rw [show n-(i+1)=pl by omega,ZM hpb,if_pos rfl,show t-(pl:Int)+(pl:Int)=t by omega]
   ·rcases List.mem_or_eq_of_mem_set hx with z | z
    ·exact sz x z
    ·rw [z]
     exact za (intBits_sub_le (m:=60000) (n:=64) tb (zK (by omega) (by omega))) (by decide)
  ·rintro σ H2 ⟨bs,left,top,v5,rfl,sm,hB,hl2,l0,l1,sum,z0,nn,mono,lt,tge,tbb,teq,sz⟩
   rw [Nat.sub_self] at z0 mono lt
   have e0:left=0:=by
    by_cases hn:n=0
    ·subst hn
     have:message=0:=mz rfl
     omega
    ·rw [show ((0:Nat):Int)=0 from rfl,Xe] at lt
     omega
   refine⟨_,rfl,q p bs H2 sm hp0 hB (zeC (fun j hj=>nn j (by omega)) (fun j k h1 h2=>mono j k (Nat.zero_le _) h1 (by omega))) (by omega) ?_ sz⟩
   unfold jH
   rw [hl2]
   omega
end
noncomputable def cnt (turns bells late:Int):Int:=if turns<bells then 0 else ch ((turns-bells) / (late+1)+bells) bells
noncomputable def Zd:Sp:=fun vs H Q _=>∃turns bells late:Int,vs=[.int turns,.int bells,.int late]∧0≤bells∧bells≤1000∧0≤late∧intBits late≤8000∧intBits turns≤70000∧Q (.int (cnt turns bells late)) H
section
variable {P:Program}{w:World}{K:PySem.W.Frag}{mg:Str→Option Value}{base:Heap}
noncomputable def zaO:Sp:=fun vs H Q _=>∃turns bells late:Int,vs=[.int turns,.int bells,.int late]∧0≤late∧intBits late≤8000∧Q (.int ((turns-bells) / (late+1))) H
theorem XR:FnScope ["turns","bells","late"] ["turns","bells","late"] (defScope jb):=⟨rfl,rfl,rfl,by decide +kernel,rfl,by decide +kernel,by decide +kernel⟩
theorem XS (D:Def K mg "greatest_part" jb ["turns","bells","late"]):Fn P w K mg base 1 "greatest_part" ["turns","bells","late"] zaO:=by
 refine D.fn XR (fun vs H Q E h=>?_) (fun f cdv A outer s H vs Q E hr h=>?_)
 ·obtain⟨a,b,c,rfl,_⟩:=h
  rfl
 ·obtain⟨turns,bells,late,rfl,l0,lb,q⟩:=h
  refine⟨_,(pss_one (ps_ret (pe_op yr (pe_op zO (pv 0) (pv 1)) (pe_op zx (pv 2) pe_int)))),?_⟩
  have lb1:intBits (late+1)≤9000:=za (intBits_add_le (m:=8000) (n:=1) lb (by decide)) (by decide)
  exact⟨_,rfl,_,rfl,_,_,rfl,rfl,_,rfl,_,_,rfl,rfl,_,_,rfl,rfl,⟨by omega,lb1⟩,q⟩
theorem zaP:FnScope ["turns","bells","late"] ["turns","bells","late"] (defScope xW):=⟨rfl,rfl,rfl,by decide +kernel,rfl,by decide +kernel,by decide +kernel⟩
theorem zaQ (D:Def K mg "box_count" xW ["turns","bells","late"]) (T:Txt K mg) (wL:Fn P w K mg base 1 "greatest_part" ["turns","bells","late"] zaO) (jc:Fn P w K mg base 1 "choose" ["n","k"] ZG):Fn P w K mg base 2 "box_count" ["turns","bells","late"] Zd:=by
 refine D.fn zaP (fun vs H Q E h=>?_) (fun f cdv A outer s H vs Q E hr h=>?_)
 ·obtain⟨a,b,c,rfl,_⟩:=h
  rfl
 ·obtain⟨turns,bells,late,rfl,b0,b1,l0,lb,tb,q⟩:=h
  refine⟨_,(pss_cons (ps_if (pt_cmpR vP (pv 1) (pv 0) (nomark _))
    (pss_one (ps_ret pe_int))
    pss_nil)
   (pss_one (ps_ret (zr jc (hr.mono (by decide)) (by rfl) (pa_cons (pe_op zx (zr wL (hr.mono (by decide)) (by rfl) (pa_cons (pv 0) (pa_cons (pv 1) (pa_cons (pv 2) pa_nil)))) (pv 1)) (pa_cons (pv 1) pa_nil)))))),?_⟩
  unfold cnt at q
  refine⟨_,rfl,_,rfl,_,_,rfl,rfl,_,rfl,ifD (fun h=>?_) (fun h=>?_)⟩
  ·rw [if_pos h] at q
   exact q
  ·rw [if_neg h] at q
   have d0:0≤(turns-bells) / (late+1):=Int.ediv_nonneg (by omega) (by omega)
   have db:intBits ((turns-bells) / (late+1))≤70000:=by
    have h2:=Int.ediv_le_self (late+1) (show 0≤turns-bells by omega)
    exact intBits_le_of_natAbs (y:=turns) (by omega) tb
   refine⟨_,rfl,_,rfl,_,rfl,turns,bells,late,rfl,l0,lb,_,rfl,_,_,rfl,rfl,_,rfl,_,bells,rfl,by omega,b0,b1,?_,q⟩
   exact za (intBits_add_le (m:=70000) (n:=64) db (zK b0 (by omega))) (by decide)
end
theorem zdj {turns bells late:Int} (b0:0≤bells) (h:bells≤turns) (l0:0≤late):0<cnt turns bells late:=by
 unfold cnt
 rw [if_neg (by omega)]
 have d0:0≤(turns-bells) / (late+1):=Int.ediv_nonneg (by omega) (by omega)
 exact zgk b0 (by omega)
theorem KJ (turns bells late:Int):0≤cnt turns bells late:=by
 unfold cnt
 split
 ·exact Int.le_refl _
 ·exact XD _ _
theorem zbK {turns bells late:Int}{m:Nat} (b0:0≤bells) (b1:bells≤61) (l0:0≤late) (t0:0≤turns) (tb:intBits turns≤m) (hm:7≤m):intBits (cnt turns bells late)≤(m+1)*61+1:=by
 unfold cnt
 split
 ·exact Nat.zero_le _
 ·have d0:0≤(turns-bells) / (late+1):=Int.ediv_nonneg (by omega) (by omega)
  have d1:(turns-bells) / (late+1)≤turns-bells:=Int.ediv_le_self _ (by omega)
  have nb:intBits ((turns-bells) / (late+1)+bells)≤m+1:=za (intBits_le_of_natAbs (y:=turns) (by omega) tb) (by omega)
  have:=V0 (k:=bells.toNat) nb (by omega)
  rw [show ((bells.toNat:Nat):Int)=bells by omega] at this
  exact za this (Nat.add_le_add_right (Nat.mul_le_mul_left _ (by omega)) _)
theorem Xl {x y:Int}{m:Nat} (h0:0≤x) (h1:x<y) (hy:intBits y≤m):intBits x≤m:=intBits_le_of_natAbs (y:=y) (by omega) hy
section
variable {P:Program}{w:World}{K:PySem.W.Frag}{mg:Str→Option Value}{base:Heap}
noncomputable def Z0 (K:PySem.W.Frag) (C:Addr):Sp:=fun vs H Q E=>∃message turns bells late:Int,vs=[.int message,.int turns,.int bells,.int late]∧0≤bells∧bells≤60∧0≤late∧intBits late≤8000∧intBits turns≤70000∧intBits message≤50000 ∧
 ((0≤message∧message<cnt turns bells late)→∀(p:Addr) (bs:List Int) (H':Hp),Same H H'→H p=none→H' p=some (.lst ((zq late bs).map V.int))→qi bs→bs.length=bells.toNat→jH bs=message→Szs 60010 bs→Q (.ref p) H') ∧
 (¬(0≤message∧message<cnt turns bells late)→E (.ref C) none H)
theorem zaR {message turns late:Int} (h0:0≤message) (h:message<cnt turns 0 late):message=0:=by
 unfold cnt at h
 split at h
 ·omega
 ·rw [Xe] at h;omega
theorem zcC:FnScope ["message","turns","bells","late"] ["message","turns","bells","late"] (defScope yx):=⟨rfl,rfl,rfl,by decide +kernel,rfl,by decide +kernel,by decide +kernel⟩
theorem zbL {zj:Addr} (D:Def K mg "written" yx ["message","turns","bells","late"]) (T:Txt K mg) (zP:mg "TooGreat"=some (.ref zj)) (zQ:PySem.W.excIn K zj bmV "ValueError.__new__"=true) (zH:Fn P w K mg base 2 "box_count" ["turns","bells","late"] Zd) (vz:FnE P w K mg base 39 "box_of_message" ["message","bells"] (zah K zj)) (zcD:Fn P w K mg base 1 "bell_row" ["box","late"] (zad K)) :
  FnE P w K mg base 40 "written" ["message","turns","bells","late"] (Z0 K zj):=by
 refine D.fnE zcC (fun vs H Q E h=>?_) (fun f cdv A outer s H vs Q E hr h=>?_)
 ·obtain⟨a,b,c,d,rfl,_⟩:=h
  rfl
 ·obtain⟨message,turns,bells,late,rfl,b0,b60,l0,lb,tb,mb,q1,q2⟩:=h
  refine⟨_,(pss_cons (ps_if (pw_or (pt_cmpR yt (pv 0) pe_int (nomark _)) (pw_or1 (pt_cmpR Kc (pv 0) (zr zH (hr.mono (by decide)) (by rfl) (pa_cons (pv 1) (pa_cons (pv 2) (pa_cons (pv 3) pa_nil)))) (nomark _)))).pt
    (pss_one (zY PySem.F.excBase_ValueError zQ (by rfl) zP (pa_cons pe_str pa_nil)))
    pss_nil)
   (pss_one (ps_ret (zr zcD (hr.mono (by decide)) (by rfl) (pa_cons (zZ vz (hr.mono (by decide)) (by rfl) zy (pa_cons (pv 0) (pa_cons (pv 2) pa_nil))) (pa_cons (pv 3) pa_nil)))))),?_⟩
  refine⟨_,rfl,_,_,rfl,rfl,_,rfl,ifD (fun h=>⟨(by decide),q2 (fun g=>by omega)⟩) (fun h=>⟨_,rfl,_,rfl,_,rfl,_,rfl,turns,bells,late,rfl,b0,by omega,l0,lb,tb,_,_,rfl,rfl,_,rfl,ifD (fun h2=>⟨(by decide),q2 (fun g=>by omega)⟩) (fun h2=>?_)⟩)⟩
  have m0:0≤message:=by omega
  have m1:message<cnt turns bells late:=by omega
  have q:=q1 ⟨m0,m1⟩
  have gm:zeE message bells:=⟨m0,fun z=>zaR m0 (z ▸ m1)⟩
  refine⟨_,rfl,_,rfl,message,bells,rfl,b0,b60,mb,fun _ p bs H1 s1 hp h1 B hl hnum sz=>?_,fun nb=>absurd gm nb⟩
  refine⟨_,rfl,p,bs,late,rfl,SqL.of h1,by omega,lb,fun x hx=>za (sz x hx) (by decide),fun p2 H2 s2 hp2 h2=>?_⟩
  exact q p2 bs H2 (s1.trans s2) (s1.free hp2) h2 B hl hnum sz
end
theorem zeF {bs:List Int} (B:qi bs){turns late:Int}{i:Nat} (l0:0≤late) (h:jH bs<cnt turns (bs.length:Int) late) (hi:i<bs.length):(bs.length:Int)≤turns∧bs.getD i 0*(late+1)≤turns-(bs.length:Int):=by
 unfold cnt at h
 have n0:=vp bs bs.length
 split at h
 ·have:jH bs=vh bs bs.length:=rfl
  omega
 ·rename_i hle
  refine⟨by omega,?_⟩
  have tp:=zdP B (i:=bs.length-1) (by omega)
  have t1:=tp.le
  have e1:bs.length-1+1=bs.length:=by omega
  have e2:((bs.length-1:Nat):Int)+1=(bs.length:Int):=by omega
  rw [e1,e2] at t1
  have lt:=top_lt t1 (show vh bs bs.length < _ from h)
  have m:=B.le' (i:=i) (j:=bs.length-1) (by omega) (by omega)
  have d1:bs.getD i 0≤(turns-(bs.length:Int)) / (late+1):=by omega
  exact(Int.le_ediv_iff_mul_le (by omega)).mp d1
noncomputable def GoodR (turns bells late:Int) (ns:List Int):Prop:=(ns.length:Int)=bells∧qi (jG late ns)∧jH (jG late ns)<cnt turns bells late
section
variable {P:Program}{w:World}{K:PySem.W.Frag}{mg:Str→Option Value}{base:Heap}
noncomputable def V7 (K:PySem.W.Frag) (C:Addr):Sp:=fun vs H Q E=>∃(a:Addr) (ns:List Int) (turns bells late:Int),vs=[.ref a,.int turns,.int bells,.int late]∧SqL K H a (ns.map V.int)∧ns.length≤60∧0≤bells∧bells≤60∧0≤late∧intBits late≤8000∧intBits turns≤70000∧Szs 70000 (jG late ns) ∧
 (GoodR turns bells late ns→∀H',Same H H'→Q (.int (jH (jG late ns))) H')∧(¬GoodR turns bells late ns→∀H',Same H H'→E (.ref C) none H')
theorem zdk:FnScope ["reading","turns","bells","late","message"] ["reading","turns","bells","late"] (defScope Xi):=⟨rfl,rfl,rfl,by decide +kernel,rfl,by decide +kernel,by decide +kernel⟩
theorem zeG {zf:Addr} (D:Def K mg "read" Xi ["reading","turns","bells","late"]) (T:Txt K mg) (zF:mg "NoReading"=some (.ref zf)) (zG:PySem.W.excIn K zf bmV "ValueError.__new__"=true) (zH:Fn P w K mg base 2 "box_count" ["turns","bells","late"] Zd) (Z1:FnE P w K mg base 2 "heard_box" ["reading","late"] (zdi K zf)) (zaS:Fn P w K mg base 2 "box_number" ["box"] (zgc K)) :
  FnE P w K mg base 3 "read" ["reading","turns","bells","late"] (V7 K zf):=by
 refine D.fnE zdk (fun vs H Q E h=>?_) (fun f cdv A outer s H vs Q E hr h=>?_)
 ·obtain⟨a,b,c,d,e,rfl,_⟩:=h
  rfl
 ·obtain⟨a,ns,turns,bells,late,rfl,hA,hl,b0,b60,l0,lb,tb,sz,q1,q2⟩:=h
  refine⟨_,(pss_cons (ps_if (pt_cmpR Xz (pe_callB call_len_seq (by rfl) T.z_len xQ (pa_cons (pv 0) pa_nil)) (pv 2) (nomark _))
    (pss_one (zY PySem.F.excBase_ValueError zG (by rfl) zF (pa_cons pe_str pa_nil)))
    pss_nil)
   (pss_cons (ps_set (i:=4) zdk.nd rfl (Or.inl rfl) (zr zaS (hr.mono (by decide)) (by rfl) (pa_cons (zZ Z1 (hr.mono (by decide)) (by rfl) zy (pa_cons (pv 0) (pa_cons (pv 3) pa_nil))) pa_nil)))
   (pss_cons (ps_if (pt_cmpR Kc (pv 4) (zr zH (hr.mono (by decide)) (by rfl) (pa_cons (pv 1) (pa_cons (pv 2) (pa_cons (pv 3) pa_nil)))) (nomark _))
    (pss_one (zY PySem.F.excBase_ValueError zG (by rfl) zF (pa_cons pe_str pa_nil)))
    pss_nil)
   (pss_one (ps_ret (pv 4)))))),?_⟩
  refine⟨_,rfl,_,_,rfl,.inl hA,_,rfl,_,_,rfl,rfl,_,rfl,?_⟩
  rw [List.length_map]
  refine zbg (fun e=>⟨(by decide),q2 (fun g=>e g.1) _ (Same.refl _)⟩) (fun e=>?_)
  refine⟨_,rfl,_,rfl,a,ns,late,rfl,hA,by omega,l0,lb,fun B p H1 s1 hp h1=>?_,fun nB H1 s1=>q2 (fun g=>nB g.2.1) _ s1⟩
  refine⟨p,jG late ns,rfl,SqL.of h1,by rw [Qt];omega,B.nn,sz,fun H2 s2=>?_⟩
  refine⟨_,rfl,_,rfl,_,rfl,_,rfl,turns,bells,late,rfl,by omega,by omega,l0,lb,tb,_,_,rfl,rfl,_,rfl,ifD (fun h=>?_) (fun h=>?_)⟩
  ·exact⟨(by decide),q2 (fun g=>by have:=g.2.2;omega) _ (s1.trans s2)⟩
  ·exact⟨_,rfl,q1 ⟨e,B,by omega⟩ _ (s1.trans s2)⟩
end
noncomputable def yZ (turns bells late:Int):Int:=if bells=0 then 0 else if turns=0 then 0 else cnt (turns-1) (bells-1) (2*late)
noncomputable def KN:Sp:=fun vs H Q _=>∃turns bells late:Int,vs=[.int turns,.int bells,.int late]∧0≤bells∧bells≤1000∧0≤late∧intBits late≤7000∧0≤turns∧intBits turns≤60000∧Q (.int (yZ turns bells late)) H
section
variable {P:Program}{w:World}{K:PySem.W.Frag}{mg:Str→Option Value}{base:Heap}
theorem KQ:FnScope ["turns","bells","late"] ["turns","bells","late"] (defScope jB):=⟨rfl,rfl,rfl,by decide +kernel,rfl,by decide +kernel,by decide +kernel⟩
theorem KR (D:Def K mg "keyed_count" jB ["turns","bells","late"]) (T:Txt K mg) (zH:Fn P w K mg base 2 "box_count" ["turns","bells","late"] Zd):Fn P w K mg base 3 "keyed_count" ["turns","bells","late"] KN:=by
 refine D.fn KQ (fun vs H Q E h=>?_) (fun f cdv A outer s H vs Q E hr h=>?_)
 ·obtain⟨a,b,c,rfl,_⟩:=h
  rfl
 ·obtain⟨turns,bells,late,rfl,b0,b1,l0,lb,t0,tb,q⟩:=h
  refine⟨_,(pss_cons (ps_if (pw_or (pt_cmpR xP (pv 1) pe_int (nomark _)) (pw_or1 (pt_cmpR xP (pv 0) pe_int (nomark _)))).pt
    (pss_one (ps_ret pe_int))
    pss_nil)
   (pss_one (ps_ret (zr zH (hr.mono (by decide)) (by rfl) (pa_cons (pe_op zO (pv 0) pe_int) (pa_cons (pe_op zO (pv 1) pe_int) (pa_cons (pe_op qj pe_int (pv 2)) pa_nil))))))),?_⟩
  unfold yZ at q
  refine⟨_,rfl,_,_,rfl,rfl,_,rfl,ifD (fun z=>?_) (fun z=>⟨_,rfl,_,_,rfl,rfl,_,rfl,ifD (fun z2=>?_) (fun z2=>?_)⟩)⟩
  ·rw [if_pos z] at q
   exact q
  ·rw [if_neg z,if_pos z2] at q
   exact q
  ·rw [if_neg z,if_neg z2] at q
   refine⟨_,rfl,_,_,rfl,rfl,_,rfl,_,_,rfl,rfl,_,rfl,_,_,rfl,rfl,⟨2,7000,by decide,lb,by decide⟩,turns-1,bells-1,2*late,rfl,by omega,by omega,by omega,?_,?_,q⟩
   ·exact za (intBits_mul_le (m:=2) (n:=7000) (by decide) lb) (by decide)
   ·exact intBits_le_of_natAbs (y:=turns) (by omega) (za tb (by decide))
end
noncomputable def Z2 (late:Int) (bs:List Int):List Int:=0::(zq (2*late) bs).map (·+1)
theorem Qw (late:Int) (bs:List Int):(Z2 late bs).length=bs.length+1:=by
 unfold Z2
 rw [List.length_cons,List.length_map,ql]
theorem zaT {m turns bells late:Int} (h0:0≤m) (h:m<yZ turns bells late):bells≠0∧turns≠0∧m<cnt (turns-1) (bells-1) (2*late):=by
 unfold yZ at h
 split at h
 ·omega
 ·split at h
  ·omega
  ·exact⟨by assumption,by assumption,h⟩
noncomputable def unL (late:Int) (ns:List Int):List Int:=ns.tail.map (fun t=>t-(ns.headD 0-late+1))
theorem Ju (late:Int) (ns:List Int):(unL late ns).length=ns.length-1:=by
 unfold unL
 rw [List.length_map,List.length_tail]
theorem zeH (ns:List Int):zdK ns (some 1) none=ns.tail:=by
 unfold zdK
 have e:HT.sIx ns.length 0 (some 1)=min 1 ns.length:=HT.sIx_nat ..
 rw [e]
 cases ns with
 | nil=>rfl
 | cons x r=>
  show ((x::r).drop (min 1 (r.length+1))).take ((r.length+1)-min 1 (r.length+1))=r
  rw [show min 1 (r.length+1)=1 by omega]
  simp
theorem zcE {late:Int}{bs:List Int} (l0:0≤late) (B:qi bs) (lag:Int):((Z2 late bs).map (·+lag)).Pairwise (·≤·):=by
 have h:(Z2 late bs).Pairwise (·≤·):=by
  unfold Z2
  refine List.pairwise_cons.mpr ⟨fun x hx=>?_,?_⟩
  ·obtain⟨y,hy,rfl⟩:=List.mem_map.mp hx
   obtain⟨i,hi,e⟩:=List.getElem_of_mem hy
   obtain⟨z,hz,ez⟩:=xq (List.getElem?_eq_getElem hi)
   have z0:=B.nn z (List.mem_of_getElem? hz)
   have:=Int.mul_nonneg z0 (show 0≤2*late+1 by omega)
   rw [e] at ez
   show 0≤y+1
   omega
  ·exact List.Pairwise.map _ (fun a b h=>by omega) (Qu (late:=2*late) (by omega) B)
 exact List.Pairwise.map _ (fun a b h=>by omega) h
theorem zdR {late lag:Int}{bs ms:List Int} (l0:0≤late) (h:Al late ((Z2 late bs).map (·+lag)) ms):jG (2*late) (unL late ms)=bs:=by
 refine KD (by omega) ?_
 cases ms with
 | nil=>exact absurd h (by unfold Z2;rw [List.map_cons];exact id)
 | cons m ms=>
  unfold Z2 at h
  rw [List.map_cons] at h
  obtain⟨h1,h2,h3⟩:=h
  have c1:0+lag≤m:=h1
  have c2:m≤0+lag+late:=h2
  unfold unL
  show Al (2*late) (zq (2*late) bs) (ms.map fun t=>t-(m-late+1))
  generalize zq (2*late) bs=xs at h3
  have key:∀(xs ms:List Int),Al late ((xs.map (·+1)).map (·+lag)) ms→Al (2*late) xs (ms.map fun t=>t-(m-late+1)):=by
   intro xs
   induction xs with
   | nil=>
    intro ms h
    cases ms with
    | nil=>trivial
    | cons _ _=>exact h.elim
   | cons x xs ih=>
    intro ms h
    cases ms with
    | nil=>exact h.elim
    | cons y ms=>
     obtain⟨a1,a2,a3⟩:=h
     have b1:x+1+lag≤y:=a1
     have b2:y≤x+1+lag+late:=a2
     exact⟨show x≤y-(m-late+1) by omega,show y-(m-late+1)≤x+2*late by omega,ih ms a3⟩
  exact key xs ms h3
section
variable {P:Program}{w:World}{K:PySem.W.Frag}{mg:Str→Option Value}{base:Heap}
noncomputable def zbM (K:PySem.W.Frag) (C:Addr):Sp:=fun vs H Q E=>∃message turns bells late:Int,vs=[.int message,.int turns,.int bells,.int late]∧0≤bells∧bells≤60∧0≤late∧intBits late≤7000∧0≤turns∧intBits turns≤60000∧intBits message≤50000 ∧
 ((0≤message∧message<yZ turns bells late)→∀(p:Addr) (bs:List Int) (H':Hp),Same H H'→H p=none→H' p=some (.lst ((Z2 late bs).map V.int))→qi bs→bs.length=(bells-1).toNat→jH bs=message→Szs 60010 bs→Q (.ref p) H') ∧
 (¬(0≤message∧message<yZ turns bells late)→E (.ref C) none H)
theorem zbN:FnScope ["message","turns","bells","late","behind_key"] ["message","turns","bells","late"] (defScope Qq):=⟨rfl,rfl,rfl,by decide +kernel,rfl,by decide +kernel,by decide +kernel⟩
theorem zdS {zj:Addr} (D:Def K mg "keyed" Qq ["message","turns","bells","late"]) (T:Txt K mg) (zP:mg "TooGreat"=some (.ref zj)) (zQ:PySem.W.excIn K zj bmV "ValueError.__new__"=true) (Zi:Fn P w K mg base 3 "keyed_count" ["turns","bells","late"] KN) (xr:FnE P w K mg base 40 "written" ["message","turns","bells","late"] (Z0 K zj)) :
  FnE P w K mg base 41 "keyed" ["message","turns","bells","late"] (zbM K zj):=by
 refine D.fnE zbN (fun vs H Q E h=>?_) (fun f cdv A outer s H vs Q E hr h=>?_)
 ·obtain⟨a,b,c,d,rfl,_⟩:=h
  rfl
 ·obtain⟨message,turns,bells,late,rfl,b0,b60,l0,lb,t0,tb,mb,q1,q2⟩:=h
  refine⟨_,(pss_cons (ps_if (pw_or (pt_cmpR yt (pv 0) pe_int (nomark _)) (pw_or1 (pt_cmpR Kc (pv 0) (zr Zi (hr.mono (by decide)) (by rfl) (pa_cons (pv 1) (pa_cons (pv 2) (pa_cons (pv 3) pa_nil)))) (nomark _)))).pt
    (pss_one (zY PySem.F.excBase_ValueError zQ (by rfl) zP (pa_cons pe_str pa_nil)))
    pss_nil)
   (pss_cons (ps_set (i:=4) zbN.nd rfl (Or.inl rfl) (zZ xr (hr.mono (by decide)) (by rfl) zy (pa_cons (pv 0) (pa_cons (pe_op zO (pv 1) pe_int) (pa_cons (pe_op zO (pv 2) pe_int) (pa_cons (pe_op qj pe_int (pv 3)) pa_nil))))))
   (pss_one (ps_ret (pe_op op_cat (pe_lst (pa_cons pe_int pa_nil)) (j9 (own:=["turn"]) (fr:=[]) (ix:=[]) rfl ⟨rfl,rfl,rfl,rfl,rfl,rfl⟩ (pi_list (pv 4)) (fun _ _ _ _ _=>(pg_name (i:=0) (show (["turn"]:List Str).Nodup by decide +kernel) rfl (Or.inl rfl))) (fun _ _ _ _ _=>qZ) (fun _ _ _ _ _=>(pe_op zx (pv 0) pe_int)))))))),?_⟩
  refine⟨_,rfl,_,_,rfl,rfl,_,rfl,ifD (fun h=>⟨(by decide),q2 (fun g=>by omega)⟩) (fun h=>⟨_,rfl,_,rfl,_,rfl,_,rfl,turns,bells,late,rfl,b0,by omega,l0,lb,t0,tb,_,_,rfl,rfl,_,rfl,ifD (fun h2=>⟨(by decide),q2 (fun g=>by omega)⟩) (fun h2=>?_)⟩)⟩
  have m0:0≤message:=by omega
  have m1:message<yZ turns bells late:=by omega
  have q:=q1 ⟨m0,m1⟩
  obtain⟨bz,tz,mlt⟩:=zaT m0 m1
  refine⟨_,rfl,_,rfl,_,_,rfl,rfl,_,rfl,_,_,rfl,rfl,_,rfl,_,_,rfl,rfl,⟨2,7000,by decide,lb,by decide⟩,message,turns-1,bells-1,2*late,rfl,by omega,by omega,by omega,za (intBits_mul_le (m:=2) (n:=7000) (by decide) lb) (by decide),intBits_le_of_natAbs (y:=turns) (by omega) (za tb (by decide)),mb,fun _ p bs H1 s1 hp h1 B hl hnum sz=>?_,fun nb=>absurd ⟨m0,mlt⟩ nb⟩
  have bl:(zq (2*late) bs).length=bs.length:=ql _ _
  refine⟨(by decide),fun p0 hp0=>?_⟩
  have s2:Same H1 (upd H1 p0 (.lst [V.int 0])):=Same.new hp0
  have h2:(upd H1 p0 (.lst [V.int 0])) p0=some (.lst [V.int 0]):=upd_same
  generalize upd H1 p0 (.lst [V.int 0])=H2 at s2 h2 ⊢
  have h12:=s2 _ _ h1
  refine⟨_,rfl,p,rfl,⟨_,SqL.of h12⟩,fun acc hacc=>jA (K:=K) (a:=p) (xs:=(zq (2*late) bs).map V.int) (fun j=>V.int ((zq (2*late) bs).getD j 0+1)) (SqL.of h12) hacc (by rw [List.length_map];exact Nat.le_of_lt (small1000 (by omega))) (fun j v H6 R' hx s6 hR=>?_) ?_⟩
  ·rw [List.getElem?_map] at hx
   obtain⟨z,hz',rfl⟩:=Option.map_eq_some_iff.mp hx
   simp only [List.getD_eq_getElem?_getD,hz',Option.getD_some] at hR
   exact⟨rfl,_,rfl,_,_,rfl,rfl,hR⟩
  have eL:(List.range ((zq (2*late) bs).map V.int).length).map (fun j=>V.int ((zq (2*late) bs).getD j 0+1))=((zq (2*late) bs).map (·+1)).map V.int:=by
   apply List.ext_getElem
   ·simp
   ·intro j h1 h2
    simp at h1 h2
    simp [List.getD_eq_getElem?_getD,h2]
  rw [eL]
  refine⟨p0,acc,_,_,rfl,rfl,(Same.new hacc) _ _ h2,upd_same,?_,fun pr hpr=>?_⟩
  ·rw [List.length_map,List.length_map]
   exact Nat.le_of_lt (small1000 (by show 1+_≤1000;omega))
  ·exact q pr bs _ (((s1.trans s2).put hacc).put hpr) (((s1.trans s2).put hacc).free hpr) upd_same B hl hnum sz
end
theorem zeI {c:TT}{tA tB R:TS}{D:Ends}{σ:St}{H:Hp} (Pre:St→Hp→Prop) (tail:∀σ H,Pre σ H→R D σ H) (h:∀N:St→Hp→Prop,(∀σ H,Pre σ H→N σ H)→tIfS c tA tB { D with nx:=N } σ H):tSeq (tIfS c tA tB) R D σ H:=h (fun σ H=>R D σ H) tail
noncomputable def zai (turns bells late:Int) (ns:List Int):Prop:=bells≠0∧turns≠0∧(ns.length:Int)=bells∧GoodR (turns-1) (bells-1) (2*late) (unL late ns)
section
variable {P:Program}{w:World}{K:PySem.W.Frag}{mg:Str→Option Value}{base:Heap}
noncomputable def KY (K:PySem.W.Frag) (C:Addr):Sp:=fun vs H Q E=>∃(a:Addr) (ns:List Int) (turns bells late:Int),vs=[.ref a,.int turns,.int bells,.int late]∧SqL K H a (ns.map V.int)∧ns.length≤60∧0≤bells∧bells≤60∧0≤late∧intBits late≤7000∧0≤turns∧intBits turns≤60000∧Szs 70000 (jG (2*late) (unL late ns)) ∧
 (zai turns bells late ns→∀H',Same H H'→Q (.int (jH (jG (2*late) (unL late ns)))) H')∧(¬zai turns bells late ns→∀H',Same H H'→E (.ref C) none H')
theorem Jv:FnScope ["reading","turns","bells","late","start","behind_key"] ["reading","turns","bells","late"] (defScope yz):=⟨rfl,rfl,rfl,by decide +kernel,rfl,by decide +kernel,by decide +kernel⟩
theorem zbO {zf:Addr} (D:Def K mg "unkeyed" yz ["reading","turns","bells","late"]) (T:Txt K mg) (zF:mg "NoReading"=some (.ref zf)) (zG:PySem.W.excIn K zf bmV "ValueError.__new__"=true) (kh:FnE P w K mg base 3 "read" ["reading","turns","bells","late"] (V7 K zf)) :
  FnE P w K mg base 4 "unkeyed" ["reading","turns","bells","late"] (KY K zf):=by
 refine D.fnE Jv (fun vs H Q E h=>?_) (fun f cdv A outer s H vs Q E hr h=>?_)
 ·obtain⟨a,b,c,d,e,rfl,_⟩:=h
  rfl
 ·obtain⟨a,ns,turns,bells,late,rfl,hA,hl,b0,b60,l0,lb,t0,tb,sz,q1,q2⟩:=h
  refine⟨_,(pss_cons (ps_if (pw_or (pt_cmpR xP (pv 2) pe_int (nomark _)) (pw_or (pt_cmpR xP (pv 1) pe_int (nomark _)) (pw_or1 (pt_cmpR Xz (pe_callB call_len_seq (by rfl) T.z_len xQ (pa_cons (pv 0) pa_nil)) (pv 2) (nomark _))))).pt
    (pss_one (zY PySem.F.excBase_ValueError zG (by rfl) zF (pa_cons pe_str pa_nil)))
    pss_nil)
   (pss_cons (ps_set (i:=4) Jv.nd rfl (Or.inr rfl) (pe_op zx (pe_op zO (pe_ix ix_list (pv 0) pe_int (fun _ _=>rfl)) (pv 3)) pe_int))
   (pss_cons (VR (k:=5) (own:=["turn"]) (fr:=["start"]) (ix:=[4]) rfl Jv.nd rfl rfl ⟨rfl,rfl,rfl,rfl,rfl,rfl⟩ (pi_list (pe_slice sl_list (pv 0) (po_some pe_int) po_none)) (fun _ _ _ _ _=>(pg_name (i:=0) (show (["turn","start"]:List Str).Nodup by decide +kernel) rfl (Or.inl rfl))) (fun _ _ _ _ _=>qZ) (fun _ _ _ _ _=>(pe_op zO (pv 0) (pv 1))))
   (pss_one (ps_ret (zZ kh (hr.mono (by decide)) (by rfl) zy (pa_cons (pv 5) (pa_cons (pe_op zO (pv 1) pe_int) (pa_cons (pe_op zO (pv 2) pe_int) (pa_cons (pe_op qj pe_int (pv 3)) pa_nil)))))))))),?_⟩
  refine⟨_,rfl,_,_,rfl,rfl,_,rfl,ifD (fun z=>⟨(by decide),q2 (fun g=>g.1 z) _ (Same.refl _)⟩) (fun z=>⟨_,rfl,_,_,rfl,rfl,_,rfl,ifD (fun z2=>⟨(by decide),q2 (fun g=>g.2.1 z2) _ (Same.refl _)⟩) (fun z2=>⟨_,rfl,_,_,rfl,.inl hA,_,rfl,_,_,rfl,rfl,_,rfl,?_⟩)⟩)⟩
  rw [List.length_map]
  refine zbg (fun e=>⟨(by decide),q2 (fun g=>e g.2.2.1) _ (Same.refl _)⟩) (fun e=>?_)
  have g0:atI (ns.map V.int) 0=some (V.int (ns.headD 0)):=by
   cases ns with
   | nil=>exact absurd e (by simp;omega)
   | cons x r=>exact Ky (ns:=x::r) (k:=0) rfl
  refine⟨_,rfl,_,_,_,_,rfl,rfl,hA,g0,_,rfl,_,_,rfl,rfl,_,_,rfl,rfl,?_⟩
  refine⟨_,rfl,_,rfl,_,_,rfl,hA,fun pc hpc=>?_⟩
  rw [zaJ,zeH]
  have s2:Same H (upd H pc (.lst (ns.tail.map V.int))):=Same.new hpc
  have h2:(upd H pc (.lst (ns.tail.map V.int))) pc=some (.lst (ns.tail.map V.int)):=upd_same
  generalize upd H pc (.lst (ns.tail.map V.int))=H2 at s2 h2 ⊢
  refine⟨pc,rfl,⟨_,SqL.of h2⟩,fun acc hacc=>jA (K:=K) (a:=pc) (xs:=ns.tail.map V.int) (fun j=>V.int (ns.tail.getD j 0-(ns.headD 0-late+1))) (SqL.of h2) hacc (by rw [List.length_map,List.length_tail];exact Nat.le_of_lt (small1000 (by omega))) (fun j v H6 R' hx s6 hR=>?_) ?_⟩
  ·rw [List.getElem?_map] at hx
   obtain⟨z,hz',rfl⟩:=Option.map_eq_some_iff.mp hx
   simp only [List.getD_eq_getElem?_getD,hz',Option.getD_some] at hR
   exact⟨rfl,_,rfl,_,rfl,_,_,rfl,rfl,hR⟩
  have eL:(List.range (ns.tail.map V.int).length).map (fun j=>V.int (ns.tail.getD j 0-(ns.headD 0-late+1)))=(unL late ns).map V.int:=by
   unfold unL
   apply List.ext_getElem
   ·simp
   ·intro j h1 h2
    simp at h1 h2
    simp [List.getD_eq_getElem?_getD,h2]
    rw [List.getElem?_eq_getElem (by omega)]
    rfl
  rw [eL]
  refine⟨_,rfl,_,rfl,_,_,rfl,rfl,_,rfl,_,_,rfl,rfl,_,rfl,_,_,rfl,rfl,⟨2,7000,by decide,lb,by decide⟩,acc,unL late ns,turns-1,bells-1,2*late,rfl,SqL.of upd_same,by rw [Ju];omega,by omega,by omega,by omega,za (intBits_mul_le (m:=2) (n:=7000) (by decide) lb) (by decide),intBits_le_of_natAbs (y:=turns) (by omega) (za tb (by decide)),sz,fun G H' s'=>q1 ⟨z,z2,e,G⟩ _ ((s2.put hacc).trans s'),fun nG H' s'=>q2 (fun g=>nG g.2.2.2) _ ((s2.put hacc).trans s')⟩
end
theorem zaU {bs:List Int}{turns late:Int} (B:qi bs) (l0:0≤late) (h:jH bs<cnt turns (bs.length:Int) late):∀x∈zq late bs,0≤x∧x<turns:=fun x hx=>by
 obtain⟨i,hi⟩:=List.getElem?_of_mem hx
 obtain⟨c,hc,rfl⟩:=xq hi
 have il:=(List.getElem?_eq_some_iff.mp hc).1
 have:=zeF B l0 h il
 rw [List.getD_eq_getElem?_getD,hc,Option.getD_some] at this
 have:=Int.mul_nonneg (B.2 c (List.mem_of_getElem? hc)) (show 0≤late+1 by omega)
 omega
theorem zbP {late turns:Int}{bs:List Int} (l0:0≤late) (B:qi bs) (h:jH bs<cnt (turns-1) (bs.length:Int) (2*late)) (t0:0<turns){i:Nat}{x:Int} (hx:(Z2 late bs)[i]?=some x):x<turns∧-1<x∧∀y,(Z2 late bs)[i+1]?=some y→x<y:=by
 have low:∀(j:Nat) (z:Int),(Z2 late bs)[j+1]?=some z→∃b,bs[j]?=some b∧z=b*(2*late+1)+(j:Int)+1:=by
  intro j z hz
  unfold Z2 at hz
  rw [List.getElem?_cons_succ,List.getElem?_map] at hz
  obtain⟨u,hu,rfl⟩:=Option.map_eq_some_iff.mp hz
  obtain⟨b,hb,e⟩:=xq hu
  exact⟨b,hb,by rw [e]⟩
 have nnb:∀(j:Nat) (b:Int),bs[j]?=some b→0≤b*(2*late+1):=fun j b hb=>Int.mul_nonneg (B.nn b (List.mem_of_getElem? hb)) (by omega)
 cases i with
 | zero=>
  have e:x=0:=by
   unfold Z2 at hx
   rw [List.getElem?_cons_zero] at hx
   exact(Option.some.inj hx).symm
  subst e
  refine⟨t0,by decide,fun y hy=>?_⟩
  obtain⟨b,hb,e⟩:=low 0 y hy
  have:=nnb 0 b hb
  omega
 | succ j=>
  obtain⟨b,hb,e⟩:=low j x hx
  have hj:=(List.getElem?_eq_some_iff.mp hb).1
  have eg:bs.getD j 0=b:=by rw [List.getD_eq_getElem?_getD,hb];rfl
  obtain⟨g1,g2⟩:=zeF B (i:=j) (show 0≤2*late by omega) h hj
  rw [eg] at g2
  have:=nnb j b hb
  refine⟨by omega,by omega,fun y hy=>?_⟩
  obtain⟨c,hc,e2⟩:=low (j+1) y hy
  have:=Int.mul_le_mul_of_nonneg_right (B.get (by omega) hb hc) (show 0≤2*late+1 by omega)
  omega
noncomputable def Bd (m:Nat) (ns:List Int):Prop:=∀x∈ns,0≤x∧x<2 ^ m
theorem zfx {ns:List Int}{late:Int} (h:Bd 200 ns) (hl:ns.length≤100) (l0:0≤late):Szs 70000 (jG late ns):=fun y hy=>by
 obtain⟨i,hi⟩:=List.getElem?_of_mem hy
 obtain⟨x,hx,rfl⟩:=XQ hi
 have hb:=h x (List.mem_of_getElem? hx)
 have hi':=(List.getElem?_eq_some_iff.mp hx).1
 refine za (zbE (m:=300) ?_ (by omega)) (by decide)
 refine intBits_le_of_natAbs (y:=2 ^ 200) ?_ (by decide)
 have e1:((2:Int) ^ 200).natAbs=2 ^ 200:=by decide
 rw [e1]
 have h1:=hb.1
 have h2:=hb.2
 omega
theorem zgx {ns:List Int}{late:Int} (h:Bd 200 ns) (hl:ns.length≤100) (l0:0≤late) (l1:late<2 ^ 200):Szs 70000 (jG (2*late) (unL late ns)):=fun y hy=>by
 obtain⟨i,hi⟩:=List.getElem?_of_mem hy
 obtain⟨x,hx,rfl⟩:=XQ hi
 have hi':=(List.getElem?_eq_some_iff.mp hx).1
 rw [Ju] at hi'
 unfold unL at hx
 rw [List.getElem?_map] at hx
 obtain⟨z,hz,rfl⟩:=Option.map_eq_some_iff.mp hx
 have hz0:=h z (List.mem_of_mem_tail (List.mem_of_getElem? hz))
 have hd:0≤ns.headD 0∧ns.headD 0<2 ^ 200:=by
  cases ns with
  | nil=>exact⟨by decide,by decide⟩
  | cons a r=>exact h a (List.mem_cons_self ..)
 refine za (zbE (m:=300) ?_ (by omega)) (by decide)
 refine intBits_le_of_natAbs (y:=2 ^ 210) ?_ (by decide)
 have e1:((2:Int) ^ 210).natAbs=2 ^ 210:=by decide
 rw [e1]
 obtain⟨h1,h2⟩:=hz0
 obtain⟨h3,h4⟩:=hd
 omega
theorem zcF {x:Str}{acc:Addr}{own:Nat}{ix:List Nat}{g:TG}{te:TE}{σ:St}{H1:Hp}{Q:VK} (f:Nat→V) (hn:H1 acc=none) (hz:x.length≤sizeLine)
  (step:∀(i c:Nat) (H:Hp) (R:VK),x.cps[i]?=some c→Same H1 H→R (f c) H→g (.str ⟨#[c]⟩) (jy own ix σ) H fun σ4 H4=>σ4.drop own=ix.map (fun i=>(σ[i]?).getD none)∧te σ4 H4 R)
  (hd:Q (.ref acc) (upd H1 acc (.lst ((cpl x).map f)))):Jm (Its x) own ix g ZV te σ H1 acc Q:=by
 have sz:x.cps.size=(cpl x).length:=by simp [cpl]
 refine⟨fun i m ys H=>m=x.cps.size-i∧i≤x.cps.size∧ys=((cpl x).take i).map f∧H=upd H1 acc (.lst ys),⟨x.cps.size,by simp,Nat.zero_le _,rfl,rfl⟩,?_⟩
 rintro i m ys H ⟨rfl,hi,rfl,rfl⟩
 refine⟨upd_same,?_⟩
 by_cases hlt:i<x.cps.size
 ·refine .inr ⟨hlt,?_,fun v H3 y=>?_⟩
  ·rw [List.length_map,List.length_take]
   have:x.length=x.cps.size:=rfl
   omega
  obtain⟨e,c,hc,e2⟩:=y
  subst e e2
  refine step i c _ _ hc (Same.new hn) ⟨upd_same,x.cps.size-(i+1),by omega,rfl,hlt,?_,by rw [upd_upd]⟩
  have hc':(cpl x)[i]?=some c:=by rw [← hc];simp [cpl]
  rw [List.take_add_one,hc',List.map_append]
  rfl
 ·have e:i=x.cps.size:=by omega
  subst e
  rw [sz,List.take_length]
  exact .inl ⟨Nat.le_refl _,hd⟩
noncomputable def zcG (x s:Str) (most:Int):Prop:=1≤x.length∧(x.length:Int)≤most∧∀c∈cpl x,c∈cpl s
structure zU (x:Str):Prop where
 ne:1≤x.length
 le:x.length≤8
 let_:∀c∈cpl x,97≤c∧c≤122
theorem zdl:∀c:Nat,c∈cpl "abcdefghijklmnopqrstuvwxyz"↔97≤c∧c≤122:=fun c=>by
 have e:cpl "abcdefghijklmnopqrstuvwxyz"=(List.range 26).map (·+97):=by decide +kernel
 rw [e,List.mem_map]
 constructor
 ·rintro⟨i,hi,rfl⟩
  have:=List.mem_range.mp hi
  omega
 ·intro h
  exact⟨c-97,List.mem_range.mpr (by omega),by omega⟩
theorem zdm:∀c:Nat,c∈cpl "0123456789"↔48≤c∧c≤57:=fun c=>by
 have e:cpl "0123456789"=(List.range 10).map (·+48):=by decide +kernel
 rw [e,List.mem_map]
 constructor
 ·rintro⟨i,hi,rfl⟩
  have:=List.mem_range.mp hi
  omega
 ·intro h
  exact⟨c-48,List.mem_range.mpr (by omega),by omega⟩
theorem zdT {x:Str}:zcG x "abcdefghijklmnopqrstuvwxyz" 8↔zU x:=by
 constructor
 ·rintro⟨h1,h2,h3⟩
  exact⟨h1,by omega,fun c hc=>(zdl c).mp (h3 c hc)⟩
 ·rintro⟨h1,h2,h3⟩
  exact⟨h1,by omega,fun c hc=>(zdl c).mpr (h3 c hc)⟩
theorem Q9 {x:Str} (h:zU x):vQ x:=fun z=>by
 have:=h.let_ 32 z
 omega
theorem zeJ:cpl "0"=[48]:=by decide +kernel
theorem Xm {x:Str}{most:Nat}:Num most x↔zcG x "0123456789" (most:Int)∧¬((cpl x)[0]?=some 48∧x≠"0"):=by
 constructor
 ·intro h
  refine⟨⟨h.ne,by have:=h.le;omega,fun c hc=>(zdm c).mpr (h.dig c hc)⟩,fun z=>z.2 (v9 ?_)⟩
  rw [h.led z.1,zeJ]
 ·rintro⟨⟨h1,h2,h3⟩,h4⟩
  refine⟨h1,by omega,fun c hc=>(zdm c).mp (h3 c hc),fun z=>?_⟩
  have:x="0":=Classical.byContradiction fun n=>h4 ⟨z,n⟩
  rw [this,zeJ]
section
variable {P:Program}{w:World}{K:PySem.W.Frag}{mg:Str→Option Value}{base:Heap}
noncomputable def zaV:Sp:=fun vs H Q _=>∃(x s:Str) (most:Int),vs=[.str x,.str s,.int most]∧x.length≤1000000∧∀(b:Bool) (H':Hp),Same H H'→(b=true↔zcG x s most)→Q (.bl b) H'
theorem WT:FnScope ["word","signs","most"] ["word","signs","most"] (defScope jW):=⟨rfl,rfl,rfl,by decide +kernel,rfl,by decide +kernel,by decide +kernel⟩
theorem zfy (D:Def K mg "is_made_of" jW ["word","signs","most"]) (T:Txt K mg):Fn P w K mg base 1 "is_made_of" ["word","signs","most"] zaV:=by
 refine D.fn WT (fun vs H Q E h=>?_) (fun f cdv A outer s H vs Q E hr h=>?_)
 ·obtain⟨x,sg,most,rfl,_⟩:=h
  rfl
 ·obtain⟨x,sg,most,rfl,xl,q⟩:=h
  have xs:x.length≤sizeLine:=by rw [sizeLine_eq];omega
  refine⟨_,(pss_one (ps_ret (pe_and (pe_chain zd9 zd9 pe_int (pe_callB call_len_str (by rfl) T.z_len xQ (pa_cons (pv 0) pa_nil)) (pv 2)) (pe_one (pe_callB (zec rfl) (by rfl) T.z_all zg8 (pa_cons (j9 (own:=["sign"]) (fr:=["signs"]) (ix:=[1]) rfl ⟨rfl,rfl,rfl,rfl,rfl,rfl⟩ (zc8 (pv 0)) (fun _ _ _ _ _=>(pg_name (i:=0) (show (["sign","signs"]:List Str).Nodup by decide +kernel) rfl (Or.inl rfl))) (fun _ _ _ _ _=>qZ) (fun _ _ _ _ _=>(pe_cmpR op_in_str (pv 0) (pv 1) (by with_unfolding_all rfl)))) pa_nil)))))),?_⟩
  refine⟨_,rfl,x,rfl,xs,_,_,rfl,rfl,_,rfl,ifD (fun h1=>⟨_,rfl,_,_,rfl,rfl,_,rfl,ifD (fun h2=>?_) (fun h2=>q false H (Same.refl _) ⟨(fun z=>nomatch z),fun z=>absurd z.2.1 h2⟩)⟩) (fun h1=>⟨_,rfl,iteF (q false H (Same.refl _) ⟨(fun z=>nomatch z),fun z=>absurd (show (1:Int)≤(x.length:Int) by have:=z.1;omega) h1⟩)⟩)⟩
  refine⟨_,rfl,x,rfl,fun acc hacc=>zcF (fun c=>V.bl (decide (c∈cpl sg))) hacc xs (fun i c H6 R hc s6 hR=>?_) ?_⟩
  ·refine⟨rfl,_,rfl,_,rfl,_,_,rfl,rfl,?_⟩
   rw [StrLaws.found_one]
   exact hR
  ·refine⟨acc,(cpl x).map (fun c=>decide (c∈cpl sg)),rfl,SqL.of (by rw [upd_same,List.map_map];rfl),q _ _ (Same.new hacc) ?_⟩
   rw [List.all_eq_true]
   constructor
   ·intro z
    exact⟨by omega,h2,fun c hc=>of_decide_eq_true (z _ (List.mem_map.mpr ⟨c,hc,rfl⟩))⟩
   ·rintro⟨_,_,z⟩ b hb
    obtain⟨c,hc,rfl⟩:=List.mem_map.mp hb
    exact decide_eq_true (z c hc)
noncomputable def Xn (C:Addr):Sp:=fun vs H Q E=>∃x:Str,vs=[.str x]∧x.length≤1000000∧(zU x→∀H',Same H H'→Q (.str x) H')∧(¬zU x→∀H',Same H H'→E (.ref C) none H')
theorem zcH:FnScope ["word"] ["word"] (defScope yD):=⟨rfl,rfl,rfl,by decide +kernel,rfl,by decide +kernel,by decide +kernel⟩
theorem zcI (D:Def K mg "name_in" yD ["word"]) (T:Txt K mg){zc:Addr} (zL:mg "NoOrder"=some (.ref zc)) (zM:PySem.W.excIn K zc bmV "ValueError.__new__"=true){vV qJ:Tok} (jP:mg "LETTERS"=some (.str "abcdefghijklmnopqrstuvwxyz" vV)) (qb:mg "MOST_LETTERS"=some (.int 8 qJ)) (jQ:Fn P w K mg base 1 "is_made_of" ["word","signs","most"] zaV):FnE P w K mg base 2 "name_in" ["word"] (Xn zc):=by
 refine D.fnE zcH (fun vs H Q E h=>?_) (fun f cdv A outer s H vs Q E hr h=>?_)
 ·obtain⟨x,rfl,_⟩:=h
  rfl
 ·obtain⟨x,rfl,xl,q1,q2⟩:=h
  refine⟨_,(pss_cons (ps_if (pt_not (pt_val (zr jQ (hr.mono (by decide)) (by rfl) (pa_cons (pv 0) (pa_cons (pe_glob (v:=.str "abcdefghijklmnopqrstuvwxyz") (by rfl) jP ⟨_,rfl⟩) (pa_cons (pe_glob (v:=.int 8) (by rfl) qb ⟨_,rfl⟩) pa_nil))))))
    (pss_one (zY PySem.F.excBase_ValueError zM (by rfl) zL (pa_cons pe_str pa_nil)))
    pss_nil)
   (pss_one (ps_ret (pv 0)))),?_⟩
  refine⟨_,rfl,x,_,8,rfl,xl,fun b H1 s1 hb=>?_⟩
  rw [zdT] at hb
  cases b
  ·exact⟨_,rfl,iteT ⟨(by decide),q2 (fun z=>by cases hb.mpr z) H1 s1⟩⟩
  ·exact⟨_,rfl,iteF ⟨_,rfl,q1 (hb.mp rfl) H1 s1⟩⟩
noncomputable def zcJ (C:Addr):Sp:=fun vs H Q E=>∃(x:Str) (most:Nat),vs=[.str x,.int (most:Int)]∧x.length≤1000000∧most≤4300∧(Num most x→x.length≤640)∧(Num most x→∀H',Same H H'→Q (.int (z6 x)) H')∧(¬Num most x→∀H',Same H H'→E (.ref C) none H')
theorem WW:FnScope ["word","most"] ["word","most"] (defScope jX):=⟨rfl,rfl,rfl,by decide +kernel,rfl,by decide +kernel,by decide +kernel⟩
theorem WX (D:Def K mg "figures_in" jX ["word","most"]) (T:Txt K mg){zc:Addr} (zL:mg "NoOrder"=some (.ref zc)) (zM:PySem.W.excIn K zc bmV "ValueError.__new__"=true){vW:Tok} (jR:mg "FIGURES"=some (.str "0123456789" vW)) (jQ:Fn P w K mg base 1 "is_made_of" ["word","signs","most"] zaV):FnE P w K mg base 2 "figures_in" ["word","most"] (zcJ zc):=by
 refine D.fnE WW (fun vs H Q E h=>?_) (fun f cdv A outer s H vs Q E hr h=>?_)
 ·obtain⟨x,most,rfl,_⟩:=h
  rfl
 ·obtain⟨x,most,rfl,xl,ml,sz,q1,q2⟩:=h
  have xs:x.length≤sizeLine:=by rw [sizeLine_eq];omega
  refine⟨_,(pss_cons (ps_if (pw_or (pt_not (pt_val (zr jQ (hr.mono (by decide)) (by rfl) (pa_cons (pv 0) (pa_cons (pe_glob (v:=.str "0123456789") (by rfl) jR ⟨_,rfl⟩) (pa_cons (pv 1) pa_nil)))))) (pw_or1 (pw_and (pt_cmpR op_eq (pe_ix ix_str (pv 0) pe_int (fun _ _=>rfl)) pe_str (nomark _)) (pw_and1 (pt_cmpR op_ne (pv 0) pe_str (nomark _)))).pt)).pt
    (pss_one (zY PySem.F.excBase_ValueError zM (by rfl) zL (pa_cons pe_str pa_nil)))
    pss_nil)
   (pss_one (ps_ret (pe_callTy XH (by rfl) T.z_int zc3 (pa_cons (pv 0) pa_nil))))),?_⟩
  refine⟨_,rfl,_,rfl,x,_,_,rfl,xl,fun b H1 s1 hb=>?_⟩
  cases b
  ·exact⟨_,rfl,iteT (iteT ⟨(by decide),q2 (fun z=>by cases hb.mpr (Xm.mp z).1) H1 s1⟩)⟩
  ·have hm:=hb.mp rfl
   refine⟨_,rfl,iteF ?_⟩
   obtain⟨c,r,hx⟩:∃c r,cpl x=c::r:=by
    cases e:cpl x with
    | nil=>
     have:=hm.1
     rw [← qt,e] at this
     exact absurd this (by decide)
    | cons c r=>exact⟨c,r,rfl⟩
   have e0:(cpl x)[0]?=some c:=by rw [hx];rfl
   have ha:atI x.cps.toList 0=some c:=by
    show atI (cpl x) 0=some c
    rw [hx]
    exact(show atI (c::r) ((0:Nat):Int)=some c from atI_nat rfl)
   refine⟨_,rfl,x,0,c,rfl,rfl,xs,ha,rfl,_,rfl,ifD (fun z=>?_) (fun z=>?_)⟩
   ·have z:(⟨#[c]⟩:Str)="0":=V.str.inj z
    have ec:c=48:=by
     have:=congrArg cpl z
     rw [zeJ] at this
     simpa [cpl] using this
    subst ec
    refine⟨_,rfl,rfl,_,rfl,zbg (fun n=>⟨(by decide),q2 (fun y=>(Xm.mp y).2 ⟨e0,fun k=>n (by rw [k])⟩) H1 s1⟩) (fun n=>?_)⟩
    have n:x="0":=V.str.inj n
    have y:Num most x:=Xm.mpr ⟨hm,fun k=>k.2 n⟩
    exact⟨_,rfl,x,z6 x,rfl,num_reads y ml,sz y,q1 y H1 s1⟩
   ·have y:Num most x:=Xm.mpr ⟨hm,fun k=>z (by rw [e0] at k;cases k.1;rfl)⟩
    exact iteF ⟨_,rfl,x,z6 x,rfl,num_reads y ml,sz y,q1 y H1 s1⟩
noncomputable def XX (C:Addr) (most:Nat):Sp:=fun vs H Q E=>∃x:Str,vs=[.str x]∧x.length≤1000000∧(Num most x→x.length≤640)∧(Num most x→∀H',Same H H'→Q (.int (z6 x)) H')∧(¬Num most x→∀H',Same H H'→E (.ref C) none H')
theorem zaW:FnScope ["word"] ["word"] (defScope xY):=⟨rfl,rfl,rfl,by decide +kernel,rfl,by decide +kernel,by decide +kernel⟩
theorem zaX (D:Def K mg "number_in" xY ["word"]) (T:Txt K mg){zc:Addr}{qK:Tok} (qd:mg "MOST_FIGURES"=some (.int 60 qK)) (jx:FnE P w K mg base 2 "figures_in" ["word","most"] (zcJ zc)):FnE P w K mg base 3 "number_in" ["word"] (XX zc 60):=by
 refine D.fnE zaW (fun vs H Q E h=>?_) (fun f cdv A outer s H vs Q E hr h=>?_)
 ·obtain⟨x,rfl,_⟩:=h
  rfl
 ·obtain⟨x,rfl,xl,sz,q1,q2⟩:=h
  exact⟨_,(pss_one (ps_ret (zZ jx (hr.mono (by decide)) (by rfl) zy (pa_cons (pv 0) (pa_cons (pe_glob (v:=.int 60) (by rfl) qd ⟨_,rfl⟩) pa_nil))))),_,rfl,x,60,rfl,xl,by decide,sz,q1,q2⟩
theorem WY:FnScope ["word"] ["word"] (defScope jY):=⟨rfl,rfl,rfl,by decide +kernel,rfl,by decide +kernel,by decide +kernel⟩
theorem W0 (D:Def K mg "message_in" jY ["word"]) (T:Txt K mg){zc:Addr}{zB:Tok} (zm:mg "MOST_FIGURES_OF_MESSAGE"=some (.int 3000 zB)) (jx:FnE P w K mg base 2 "figures_in" ["word","most"] (zcJ zc)):FnE P w K mg base 3 "message_in" ["word"] (XX zc 3000):=by
 refine D.fnE WY (fun vs H Q E h=>?_) (fun f cdv A outer s H vs Q E hr h=>?_)
 ·obtain⟨x,rfl,_⟩:=h
  rfl
 ·obtain⟨x,rfl,xl,sz,q1,q2⟩:=h
  exact⟨_,(pss_one (ps_ret (zZ jx (hr.mono (by decide)) (by rfl) zy (pa_cons (pv 0) (pa_cons (pe_glob (v:=.int 3000) (by rfl) zm ⟨_,rfl⟩) pa_nil))))),_,rfl,x,3000,rfl,xl,by decide,sz,q1,q2⟩
theorem zdn {x:Str} (h:Num 60 x):x.length≤640:=Nat.le_trans h.le (by decide)
noncomputable def X3 (x:Str):Prop:=Num 60 x∧z6 x≤60
noncomputable def zbQ (C:Addr):Sp:=fun vs H Q E=>∃x:Str,vs=[.str x]∧x.length≤1000000∧(X3 x→∀H',Same H H'→Q (.int (z6 x)) H')∧(¬X3 x→∀H',Same H H'→E (.ref C) none H')
theorem Vt:FnScope ["word","bells"] ["word"] (defScope wF):=⟨rfl,rfl,rfl,by decide +kernel,rfl,by decide +kernel,by decide +kernel⟩
theorem zbR (D:Def K mg "bells_in" wF ["word"]) (T:Txt K mg){zc:Addr} (zL:mg "NoOrder"=some (.ref zc)) (zM:PySem.W.excIn K zc bmV "ValueError.__new__"=true){jn:Tok} (qz:mg "MOST_BELLS"=some (.int 60 jn)) (qm:FnE P w K mg base 3 "number_in" ["word"] (XX zc 60)):FnE P w K mg base 4 "bells_in" ["word"] (zbQ zc):=by
 refine D.fnE Vt (fun vs H Q E h=>?_) (fun f cdv A outer s H vs Q E hr h=>?_)
 ·obtain⟨x,rfl,_⟩:=h
  rfl
 ·obtain⟨x,rfl,xl,q1,q2⟩:=h
  refine⟨_,(pss_cons (ps_set (i:=1) Vt.nd rfl (Or.inl rfl) (zZ qm (hr.mono (by decide)) (by rfl) zy (pa_cons (pv 0) pa_nil)))
   (pss_cons (ps_if (pt_cmpR vP (pv 1) (pe_glob (v:=.int 60) (by rfl) qz ⟨_,rfl⟩) (nomark _))
    (pss_one (zY PySem.F.excBase_ValueError zM (by rfl) zL (pa_cons pe_str pa_nil)))
    pss_nil)
   (pss_one (ps_ret (pv 1))))),?_⟩
  refine⟨_,rfl,x,rfl,xl,zdn,fun n H1 s1=>?_,fun n H1 s1=>q2 (fun z=>n z.1) H1 s1⟩
  exact⟨_,rfl,_,_,rfl,rfl,_,rfl,ifD (fun z=>⟨(by decide),q2 (fun y=>by have:=y.2;omega) H1 s1⟩) (fun z=>⟨_,rfl,q1 ⟨n,by omega⟩ H1 s1⟩)⟩
structure vX (ws:List Str):Prop where
 num:∀x∈ws,Num 60 x
 inc:(ws.map z6).Pairwise (·≤·)
noncomputable def zbS (K:PySem.W.Frag) (_:Addr):Sp:=fun vs H Q _=>∃(a:Addr) (ws:List Str),vs=[.ref a]∧SqL K H a (ws.map V.str)∧ws.length≤1000000∧(∀x∈ws,x.length≤1000000)∧vX ws∧∀(p:Addr) (H':Hp),Same H H'→H p=none→H' p=some (.lst ((ws.map z6).map V.int))→Q (.ref p) H'
theorem wI:FnScope ["words","turns","before","turn"] ["words"] (defScope wG):=⟨rfl,rfl,rfl,by decide +kernel,rfl,by decide +kernel,by decide +kernel⟩
theorem zbT (D:Def K mg "turns_in" wG ["words"]) (T:Txt K mg){zc:Addr} (zL:mg "NoOrder"=some (.ref zc)) (zM:PySem.W.excIn K zc bmV "ValueError.__new__"=true) (qm:FnE P w K mg base 3 "number_in" ["word"] (XX zc 60)):FnE P w K mg base 4 "turns_in" ["words"] (zbS K zc):=by
 have zbU:=zcy qm
 refine D.fnE wI (fun vs H Q E h=>?_) (fun f cdv A outer s H vs Q E hr h=>?_)
 ·obtain⟨a,ws,rfl,_⟩:=h
  rfl
 ·obtain⟨a,ws,rfl,hS,wl,wb,GT,q1⟩:=h
  refine⟨_,(pss_cons (VR (k:=1) (own:=["word"]) (fr:=[]) (ix:=[]) rfl wI.nd rfl rfl ⟨rfl,rfl,rfl,rfl,rfl,rfl⟩ (pi_list (pv 0)) (fun _ _ _ _ _=>(pg_name (i:=0) (show (["word"]:List Str).Nodup by decide +kernel) rfl (Or.inl rfl))) (fun _ _ _ _ _=>qZ) (fun _ _ _ _ _=>(zr zbU (hr.mono (by decide)) (by rfl) (pa_cons (pv 0) pa_nil))))
   (pss_cons (ps_set (i:=2) wI.nd rfl (Or.inl rfl) pe_int)
   (pss_cons (ps_for PassesOwn.leaving rfl (pi_list (pv 1)) (pg_name (i:=3) wI.nd rfl (Or.inl rfl))
    (pss_cons (ps_if (pt_cmpR yt (pv 3) (pv 2) (nomark _))
     (pss_one (zY PySem.F.excBase_ValueError zM (by rfl) zL (pa_cons pe_str pa_nil)))
     pss_nil)
    (pss_one (ps_set (i:=2) wI.nd rfl (Or.inl rfl) (pv 3)))))
   (pss_one (ps_ret (pv 1)))))),?_⟩
  refine⟨_,rfl,a,rfl,⟨_,hS⟩,fun acc hacc=>zcp (K:=K) (a:=a) (xs:=ws.map V.str) (fun i v _=>∃x,ws[i]?=some x∧Num 60 x∧v=V.int (z6 x)) (fun _ _ _ _ _ h=>h) (fun _ _ _ _ _ _ h=>h) hS hacc (by rw [List.length_map,sizeLine_eq];omega) (fun i x H6 R hx s6 hR=>?_) ?_⟩
  ·rw [List.getElem?_map] at hx
   obtain⟨y,hy,rfl⟩:=Option.map_eq_some_iff.mp hx
   have ym:=List.mem_of_getElem? hy
   exact⟨rfl,_,rfl,y,rfl,wb y ym,zdn,fun n H7 s7=>hR _ _ s7 ⟨y,hy,n,rfl⟩,fun n=>absurd (GT.num y ym) n⟩
  intro ys H2 s2 hY yl yp
  rw [List.length_map] at yl
  have zlm:∀x∈ws,Num 60 x:=fun x hx=>by
   obtain⟨i,hi⟩:=List.getElem?_of_mem hx
   have il:=(List.getElem?_eq_some_iff.mp hi).1
   obtain⟨y,h1,h2,_⟩:=yp i _ (List.getElem?_eq_getElem (by omega))
   rw [hi] at h1
   cases h1
   exact h2
  have ey:ys=(ws.map z6).map V.int:=by
   apply List.ext_getElem?
   intro i
   rw [List.map_map,List.getElem?_map]
   by_cases hi:i<ys.length
   ·obtain⟨y,h1,_,h3⟩:=yp i _ (List.getElem?_eq_getElem hi)
    rw [List.getElem?_eq_getElem hi,h3,h1]
    rfl
   ·rw [List.getElem?_eq_none (by omega),List.getElem?_eq_none (by omega)]
    rfl
  rw [ey] at hY
  clear ey yp yl
  generalize hns:ws.map z6=ns at hY q1
  have nl:ns.length=ws.length:=by rw [← hns,List.length_map]
  have n0:∀x∈ns,0≤x:=fun x hx=>by
   rw [← hns] at hx
   obtain⟨y,_,rfl⟩:=List.mem_map.mp hx
   exact zaD y
  have zla:ns.Pairwise (·≤·)↔WQ 0 ns:=⟨fun h=>zaN h n0,zaM⟩
  refine⟨_,rfl,acc,rfl,⟨_,SqL.of hY⟩,for_list (K:=K) (a:=acc) (xs:=ns.map V.int) (fun i σ H3=>∃(before:Int) (v3:Option V),σ=[some (.ref a),some (.ref acc),some (.int before),v3]∧H3=H2∧(ns.Pairwise (·≤·)↔WQ before (ns.drop i)))
   ⟨0,none,rfl,rfl,by rw [List.drop_zero];exact zla⟩ (fun i σ H3 _ ⟨_,_,_,e,_⟩=>e ▸ SqL.of hY) ?_ ?_⟩
  ·rintro i y σ H3 hi ⟨before,v3,rfl,rfl,hb⟩
   rw [List.getElem?_map] at hi
   obtain⟨x,hx,rfl⟩:=Option.map_eq_some_iff.mp hi
   rw [zaf hx] at hb
   refine⟨_,rfl,_,rfl,_,_,rfl,rfl,_,rfl,ifD (fun h=>False.elim ?_) (fun h=>⟨_,rfl,x,_,rfl,rfl,hb.trans ⟨fun z=>z.2,fun z=>⟨by omega,z⟩⟩⟩)⟩
   have gi:=GT.inc
   rw [hns] at gi
   have:=(hb.mp gi).1
   omega
  ·rintro σ H3 ⟨before,v3,rfl,rfl,hb⟩
   rw [List.length_map,List.drop_length] at hb
   exact⟨_,rfl,q1 acc _ s2 hacc hY⟩
theorem lg {n:Int} (h0:0≤n) (h1:n<10 ^ 500):n.natAbs.log2<1920:=by
 have h2:n.natAbs<2 ^ 1920:=by
  have:(10:Int) ^ 500≤2 ^ 1920:=by decide +kernel
  omega
 by_cases hz:n.natAbs=0
 ·rw [hz];decide
 ·exact(Nat.log2_lt hz).mpr h2
noncomputable def X4:Sp:=fun vs H Q _=>∃v:V,vs=[v]∧((v=.non∧Q (.str "none") H)∨∃n:Int,v=.int n∧0≤n∧n<10 ^ 500∧Q (.str (txt n)) H)
theorem KZ:FnScope ["number"] ["number"] (defScope jE):=⟨rfl,rfl,rfl,by decide +kernel,rfl,by decide +kernel,by decide +kernel⟩
theorem K1 (D:Def K mg "number_told" jE ["number"]) (T:Txt K mg):Fn P w K mg base 1 "number_told" ["number"] X4:=by
 refine D.fn KZ (fun vs H Q E h=>?_) (fun f cdv A outer s H vs Q E hr h=>?_)
 ·obtain⟨v,rfl,_⟩:=h
  rfl
 ·obtain⟨v,rfl,h⟩:=h
  refine⟨_,(pss_one (ps_ret (pe_ifExp (pt_cmpR op_isN (pv 0) pe_non (nomark _)) pe_str (pe_callTy call_str_int (by rfl) T.z_str Jd (pa_cons (pv 0) pa_nil))))),?_⟩
  rcases h with ⟨rfl,q⟩ | ⟨n,rfl,h0,h1,q⟩
  ·exact⟨_,rfl,rfl,_,rfl,iteT q⟩
  ·exact⟨_,rfl,rfl,_,rfl,iteF ⟨_,rfl,n,rfl,lg h0 h1,q⟩⟩
noncomputable def yF (ns:List Int):Str:=if ns=[] then "none" else Txt.join " " (ns.map txt)
theorem zaY {ns:List Int} (h:∀n∈ns,0≤n∧n<10 ^ 500):((ns.map txt).map (·.length)).sum≤ns.length*500:=by
 induction ns with
 | nil=>exact Nat.le_refl _
 | cons n r ih=>
  have h1:=h n (List.mem_cons_self ..)
  have h2:=(xT (k:=500) (by decide) h1.1 h1.2).le
  have h3:=ih fun m hm=>h m (List.mem_cons_of_mem _ hm)
  simp only [List.map_cons,List.sum_cons,List.length_cons]
  omega
theorem zdU (ns:List Int):(List.range (ns.map V.int).length).map (fun i=>V.str (txt (ns.getD i 0)))=(ns.map txt).map V.str:=by
 apply List.ext_getElem
 ·simp
 ·intro i h1 h2
  simp at h1 h2
  simp [List.getD_eq_getElem?_getD,h2]
noncomputable def wJ (K:PySem.W.Frag):Sp:=fun vs H Q _=>∃(a:Addr) (ns:List Int),vs=[.ref a]∧SqL K H a (ns.map V.int)∧ns.length≤30000∧(∀n∈ns,0≤n∧n<10 ^ 500)∧∀H',Same H H'→Q (.str (yF ns)) H'
theorem W5:FnScope ["turns"] ["turns"] (defScope jZ):=⟨rfl,rfl,rfl,by decide +kernel,rfl,by decide +kernel,by decide +kernel⟩
theorem W6 (D:Def K mg "turns_told" jZ ["turns"]) (T:Txt K mg):Fn P w K mg base 1 "turns_told" ["turns"] (wJ K):=by
 refine D.fn W5 (fun vs H Q E h=>?_) (fun f cdv A outer s H vs Q E hr h=>?_)
 ·obtain⟨a,ns,rfl,_⟩:=h
  rfl
 ·obtain⟨a,ns,rfl,hS,nl,nb,q⟩:=h
  refine⟨_,(pss_one (ps_ret (pe_ifExp (pt_truth (pv 0) (fun _=>rfl)) (pe_bm PySem.F.plainAttrs_str PySem.F.slot_str_join PySem.F.type_str_join V3 pe_str (pa_cons (j9 (own:=["turn"]) (fr:=[]) (ix:=[]) rfl ⟨rfl,rfl,rfl,rfl,rfl,rfl⟩ (pi_list (pv 0)) (fun _ _ _ _ _=>(pg_name (i:=0) (show (["turn"]:List Str).Nodup by decide +kernel) rfl (Or.inl rfl))) (fun _ _ _ _ _=>qZ) (fun _ _ _ _ _=>(pe_callTy call_str_int (by rfl) T.z_str Jd (pa_cons (pv 0) pa_nil)))) pa_nil)) pe_str))),?_⟩
  refine⟨_,rfl,_,.inl ⟨_,hS,rfl⟩,?_⟩
  cases ns with
  | nil=>exact iteF (by have:=q H (Same.refl _);exact this)
  | cons n0 r=>
   refine iteT ⟨rfl,_,rfl,a,rfl,⟨_,hS⟩,fun acc hacc=>jA (K:=K) (a:=a) (xs:=(n0::r).map V.int) (fun i=>V.str (txt ((n0::r).getD i 0))) hS hacc (by rw [List.length_map,sizeLine_eq];omega) (fun i x H6 R hx s6 hR=>?_) ?_⟩
   ·rw [List.getElem?_map] at hx
    obtain⟨n,hn,rfl⟩:=Option.map_eq_some_iff.mp hx
    have b:=nb n (List.mem_of_getElem? hn)
    simp only [List.getD_eq_getElem?_getD,hn,Option.getD_some] at hR
    exact⟨rfl,_,rfl,n,rfl,lg b.1 b.2,hR⟩
   ·have e:=zdU (n0::r)
    rw [e]
    refine⟨" ",acc,(n0::r).map txt,rfl,rfl,SqL.of upd_same,?_,?_⟩
    ·have h1:=zaY nb
     have h2:(" ":Str).length=1:=by decide +kernel
     rw [h2,List.length_map]
     omega
    ·have:=q _ (Same.new (o:=.lst (((n0::r).map txt).map V.str)) hacc)
     unfold yF at this
     rw [if_neg (by simp)] at this
     exact this
end
noncomputable def fl3 (t b l:Int):List (Str×V):=[("turns",.int t),("bells",.int b),("late",.int l)]
theorem zeK:¬(("turns":Str)="bells"):=by decide +kernel
theorem zgy:¬(("turns":Str)="late"):=by decide +kernel
theorem zgz:¬(("bells":Str)="turns"):=by decide +kernel
theorem zgA:¬(("bells":Str)="late"):=by decide +kernel
theorem zgB:¬(("late":Str)="turns"):=by decide +kernel
theorem zgC:¬(("late":Str)="bells"):=by decide +kernel
theorem yG (t b l:Int):(fl3 t b l).lookup ("turns":Str)=some (V.int t):=by
 unfold fl3
 simp only [List.lookup_cons,beq_self_eq_true]
theorem yH (t b l:Int):(fl3 t b l).lookup ("bells":Str)=some (V.int b):=by
 unfold fl3
 simp only [List.lookup_cons,show (("bells":Str) == "turns")=false from beq_eq_false_iff_ne.mpr zgz,beq_self_eq_true]
theorem Z3 (t b l:Int):(fl3 t b l).lookup ("late":Str)=some (V.int l):=by
 unfold fl3
 simp only [List.lookup_cons,show (("late":Str) == "turns")=false from beq_eq_false_iff_ne.mpr zgB,show (("late":Str) == "bells")=false from beq_eq_false_iff_ne.mpr zgC,beq_self_eq_true]
theorem put3 (t b l:Int):putF "late" (V.int l) (putF "bells" (V.int b) (putF "turns" (V.int t) []))=fl3 t b l:=by
 unfold fl3
 simp only [putF,if_neg zeK,if_neg zgy,if_neg zgA]
noncomputable def fr1 (d:Addr):List (Str×V):=[("frames",.ref d)]
theorem Jw (d:Addr):(fr1 d).lookup ("frames":Str)=some (V.ref d):=by
 unfold fr1
 simp only [List.lookup_cons,beq_self_eq_true]
theorem vA {d:Addr}{m:Str} (h:¬m="frames"):(fr1 d).lookup m=none:=by
 unfold fr1
 simp only [List.lookup_cons,List.lookup_nil,beq_eq_false_iff_ne.mpr h]
noncomputable def jT (x:Addr) (H H':Hp):Prop:=∀a o,H a=some o→a≠x→H' a=some o
theorem jT.of {x:Addr} {H H':Hp} (s:Same H H'):jT x H H':=fun a o h _=>s a o h
theorem jT.trans {x:Addr} {H H' H2:Hp} (s:jT x H H') (s2:jT x H' H2):jT x H H2:=fun a o h n=>s2 a o (s a o h n) n
theorem jT.put {x:Addr} {H H':Hp}{o:HO} (s:jT x H H'):jT x H (upd H' x o):=fun a v h n=>by rw [upd_ne n];exact s a v h n
structure DkT (K:PySem.W.Frag) (CD CF:Addr):Prop where
 cd:Cls K CD
 cf:Cls K CF
 n1:NoAttr K CF "turns"
 n2:NoAttr K CF "bells"
 n3:NoAttr K CF "late"
 n4:NoAttr K CD "frames"
structure K3 (t b l:Int):Prop where
 t0:0≤t
 t1:t<10 ^ 60
 b0:0≤b
 b1:b≤60
 l0:0≤l
 l1:l<10 ^ 60
 c1:cnt t b l<10 ^ 500
 k1:yZ t b l<10 ^ 500
theorem p60:(10:Int) ^ 60≤2 ^ 200:=by decide +kernel
theorem Zj {x:Int} (h0:0≤x) (h1:x<10 ^ 60):intBits x≤200:=zK h0 (Int.lt_of_lt_of_le h1 p60)
noncomputable def zeL (CF:Addr) (H:Hp) (p:Addr) (t b l:Int):Prop:=∃dx,H p=some (.ins CF dx (fl3 t b l))
structure qp (CD CF x d:Addr) (n:Nat) (fr:Str→Option (Int×Int×Int)) (H:Hp):Prop where
 self:∃dx,H x=some (.ins CD dx (fr1 d))
 dict:∃kvs,H d=some (.dK kvs)∧kvs.length≤n∧(∀nm,fr nm=none→valV kvs (Sum.inr nm)=none)∧∀nm t b l,fr nm=some (t,b,l)→∃p,valV kvs (Sum.inr nm)=some (.ref p)∧zeL CF H p t b l
 ok:∀nm t b l,fr nm=some (t,b,l)→K3 t b l
theorem qp.mono {CD CF x d:Addr}{n:Nat}{fr:Str→Option (Int×Int×Int)} {H H':Hp} (s:Same H H') (h:qp CD CF x d n fr H):qp CD CF x d n fr H':=by
 obtain⟨⟨dx,h1⟩,⟨kvs,h2,h3,h4,h5⟩,h6⟩:=h
 exact⟨⟨dx,s _ _ h1⟩,⟨kvs,s _ _ h2,h3,h4,fun nm t b l e=>(h5 nm t b l e).imp fun p hp=>⟨hp.1,hp.2.imp fun dx h=>s _ _ h⟩⟩,h6⟩
theorem zeM {κ:Type} [DecidableEq κ] (kvs:List (κ×V)) (k:κ) (v:V):(putK kvs k v).length≤kvs.length+1:=by
 unfold putK
 split <;> simp
section
variable {P:Program}{w:World}{K:PySem.W.Frag}{mg:Str→Option Value}{base:Heap}{CD CF:Addr}
noncomputable def K4 (CF:Addr):Sp:=fun vs H Q _=>∃(x dx:Addr) (t b l:Int),vs=[.ref x,.int t,.int b,.int l]∧H x=some (.ins CF dx [])∧∀H',jT x H H'→H' x=some (.ins CF dx (fl3 t b l))→Q .non H'
theorem W7:FnScope ["self","turns","bells","late"] ["self","turns","bells","late"] (defScope qW):=⟨rfl,rfl,rfl,by decide +kernel,rfl,by decide +kernel,by decide +kernel⟩
theorem zdV {f:Addr}{fd:FuncData} (F:Xg K "__init__" "Frame.__init__" qW f fd) (hT:DkT K CD CF):FnOk P w K mg base CX0 1 f fd ["self","turns","bells","late"] (K4 CF):=by
 refine F.ok W7 (fun vs H Q E h=>?_) (fun cdv A outer s H vs Q E hr h=>?_)
 ·obtain⟨x,dx,t,b,l,rfl,_⟩:=h
  rfl
 ·obtain⟨x,dx,t,b,l,rfl,hx,q⟩:=h
  refine⟨_,(pss_cons (ps_fld (pv 0) (pv 1) rfl)
   (pss_cons (ps_fld (pv 0) (pv 2) rfl)
   (pss_one (ps_fld (pv 0) (pv 3) rfl)))),?_⟩
  refine⟨_,rfl,_,rfl,x,CF,dx,_,rfl,hx,hT.cf,hT.n1,(by show 0<1000;decide),?_⟩
  refine⟨_,rfl,_,rfl,x,CF,dx,_,rfl,upd_same,hT.cf,hT.n2,(by show 1<1000;decide),?_⟩
  refine⟨_,rfl,_,rfl,x,CF,dx,_,rfl,upd_same,hT.cf,hT.n3,(by simp only [putF,if_neg zeK];show 2<1000;decide),?_⟩
  rw [put3]
  exact q _ ((jT.of (Same.refl _)).put.put.put) upd_same
noncomputable def zbV (CD CF:Addr):Sp:=fun vs H Q _=>∃(x dx:Addr),vs=[.ref x]∧H x=some (.ins CD dx [])∧∀d H',jT x H H'→H d=none→qp CD CF x d 0 (fun _=>none) H'→Q .non H'
theorem zaZ:FnScope ["self"] ["self"] (defScope ji):=⟨rfl,rfl,rfl,by decide +kernel,rfl,by decide +kernel,by decide +kernel⟩
theorem zdW {f:Addr}{fd:FuncData} (F:Xg K "__init__" "Desk.__init__" ji f fd) (hT:DkT K CD CF):FnOk P w K mg base CX0 1 f fd ["self"] (zbV CD CF):=by
 refine F.ok zaZ (fun vs H Q E h=>?_) (fun cdv A outer s H vs Q E hr h=>?_)
 ·obtain⟨x,dx,rfl,_⟩:=h
  rfl
 ·obtain⟨x,dx,rfl,hx,q⟩:=h
  refine⟨_,(pss_one (ps_fld (pv 0) pe_dnewK rfl)),?_⟩
  refine fun d hd=>⟨_,rfl,x,CD,dx,_,rfl,(Same.new hd) _ _ hx,hT.cd,hT.n4,(by show 0<1000;decide),?_⟩
  have nd:d≠x:=fun e=>by rw [e,hx] at hd;cases hd
  refine q d _ ((jT.of (Same.new hd)).put) hd ⟨⟨dx,upd_same⟩,⟨[],by rw [upd_ne nd,upd_same],Nat.le_refl _,fun _ _=>rfl,fun _ _ _ _ e=>nomatch e⟩,fun _ _ _ _ e=>nomatch e⟩
noncomputable def X5 (CF:Addr):Sp:=fun vs H Q _=>∃(p:Addr) (t b l:Int),vs=[.ref p]∧zeL CF H p t b l∧K3 t b l∧Q (.int (cnt t b l)) H
theorem zbW:FnScope ["frame"] ["frame"] (defScope wH):=⟨rfl,rfl,rfl,by decide +kernel,rfl,by decide +kernel,by decide +kernel⟩
theorem zbX (D:Def K mg "count_of" wH ["frame"]) (hT:DkT K CD CF) (zH:Fn P w K mg base 2 "box_count" ["turns","bells","late"] Zd):Fn P w K mg base 3 "count_of" ["frame"] (X5 CF):=by
 refine D.fn zbW (fun vs H Q E h=>?_) (fun f cdv A outer s H vs Q E hr h=>?_)
 ·obtain⟨p,t,b,l,rfl,_⟩:=h
  rfl
 ·obtain⟨p,t,b,l,rfl,⟨dx,hx⟩,ok,q⟩:=h
  refine⟨_,(pss_one (ps_ret (zr zH (hr.mono (by decide)) (by rfl) (pa_cons (pe_fld (pv 0) rfl) (pa_cons (pe_fld (pv 0) rfl) (pa_cons (pe_fld (pv 0) rfl) pa_nil)))))),?_⟩
  exact⟨_,rfl,p,CF,dx,_,_,rfl,hx,hT.cf,hT.n1,yG ..,_,rfl,p,CF,dx,_,_,rfl,hx,hT.cf,hT.n2,yH ..,_,rfl,p,CF,dx,_,_,rfl,hx,hT.cf,hT.n3,Z3 ..,t,b,l,rfl,ok.b0,Int.le_trans ok.b1 (by decide),ok.l0,za (Zj ok.l0 ok.l1) (by decide),za (Zj ok.t0 ok.t1) (by decide),q⟩
noncomputable def K5 (CD CF CN:Addr):Sp:=fun vs H Q E=>∃(x d:Addr) (n:Nat) (fr:Str→Option (Int×Int×Int)) (nm:Str),vs=[.ref x,.str nm]∧qp CD CF x d n fr H∧(fr nm=none→E (.ref CN) none H)∧∀t b l,fr nm=some (t,b,l)→∀p,zeL CF H p t b l→Q (.ref p) H
theorem za0:FnScope ["self","name"] ["self","name"] (defScope jm):=⟨rfl,rfl,rfl,by decide +kernel,rfl,by decide +kernel,by decide +kernel⟩
theorem zfz {f:Addr}{fd:FuncData} (F:Xg K "kept" "Desk.kept" jm f fd) (hT:DkT K CD CF){zJ:Addr} (vB:mg "NoName"=some (.ref zJ)) (vC:PySem.W.excIn K zJ bmV "ValueError.__new__"=true):FnOk P w K mg base (CXE P w) 1 f fd ["self","name"] (K5 CD CF zJ):=by
 refine F.okE za0 (fun vs H Q E h=>?_) (fun cdv A outer s H vs Q E hr h=>?_)
 ·obtain⟨x,d,n,fr,nm,rfl,_⟩:=h
  rfl
 ·obtain⟨x,d,n,fr,nm,rfl,⟨⟨dx,hx⟩,⟨kvs,hd,_,k1,k2⟩,_⟩,q1,q2⟩:=h
  refine⟨_,(pss_cons (ps_if (pt_cmp (pc_dnotin (hu_of hr) (pv 1) (pe_fld (pv 0) rfl)))
    (pss_one (zY PySem.F.excBase_ValueError vC (by rfl) vB (pa_cons pe_str pa_nil)))
    pss_nil)
   (pss_one (ps_ret (pe_dget (hu_of hr) (pe_fld (pv 0) rfl) (pv 1) (fun _ _=>rfl))))),?_⟩
  refine⟨_,rfl,_,rfl,x,CD,dx,_,_,rfl,hx,hT.cd,hT.n4,Jw d,d,_,rfl,DGet.k (k:=Sum.inr nm) hd,?_⟩
  cases e:fr nm with
  | none=>
   rw [k1 nm e]
   exact⟨_,rfl,iteT ⟨(by decide),q1 e⟩⟩
  | some z=>
   obtain⟨t,b,l⟩:=z
   obtain⟨p,hp,ip⟩:=k2 nm t b l e
   rw [hp]
   refine⟨_,rfl,iteF ⟨_,rfl,x,CD,dx,_,_,rfl,hx,hT.cd,hT.n4,Jw d,_,rfl,d,V.ref p,rfl,?_,q2 t b l e p ip⟩⟩
   have:=DGet.k (k:=Sum.inr nm) hd
   rw [hp] at this
   exact this
end
noncomputable def K6 (fr:Str→Option (Int×Int×Int)) (nm:Str) (z:Int×Int×Int):Str→Option (Int×Int×Int):=fun m=>if m=nm then some z else fr m
section
variable {P:Program}{w:World}{K:PySem.W.Frag}{mg:Str→Option Value}{base:Heap}{CD CF:Addr}
structure zbY (w1 w2 w3 w4:Str):Prop where
 a:zU w1
 b:Num 60 w2
 c:X3 w3
 d:Num 60 w4
noncomputable def zcK (CD CF CO:Addr):Sp:=fun vs H Q E=>∃(x a d:Addr) (n:Nat) (fr:Str→Option (Int×Int×Int)) (w0 w1 w2 w3 w4:Str),vs=[.ref x,.ref a]∧qp CD CF x d n fr H∧n<1000∧H a=some (.lst ([w0,w1,w2,w3,w4].map V.str))∧w1.length≤1000000∧w2.length≤1000000∧w3.length≤1000000∧w4.length≤1000000 ∧
 (¬zbY w1 w2 w3 w4→∀H',Same H H'→E (.ref CO) none H')∧(zbY w1 w2 w3 w4→K3 (z6 w2) (z6 w3) (z6 w4)∧∀H',jT d H H'→qp CD CF x d (n+1) (K6 fr w1 (z6 w2,z6 w3,z6 w4)) H'→Q (.str ("messages "++txt (cnt (z6 w2) (z6 w3) (z6 w4)))) H')
theorem w6:FnScope ["self","words","name","frame","count"] ["self","words"] (defScope jk):=⟨rfl,rfl,rfl,by decide +kernel,rfl,by decide +kernel,by decide +kernel⟩
theorem zfA {f:Addr}{fd:FuncData} (F:Xg K "keep" "Desk.keep" jk f fd) (hT:DkT K CD CF){zc:Addr} (yc:mg "Frame"=some (.ref CF)) (qy:FnE P w K mg base 2 "name_in" ["word"] (Xn zc)) (qm:FnE P w K mg base 3 "number_in" ["word"] (XX zc 60)) (Qx:FnE P w K mg base 4 "bells_in" ["word"] (zbQ zc)) (K7:MkX CX0 P w K mg base 1 CF ["self","turns","bells","late"] (K4 CF)) (vY:Fn P w K mg base 3 "count_of" ["frame"] (X5 CF)):FnOk P w K mg base (CXE P w) 5 f fd ["self","words"] (zcK CD CF zc):=by
 refine F.okE w6 (fun vs H Q E h=>?_) (fun cdv A outer s H vs Q E hr h=>?_)
 ·obtain⟨x,a,d,n,fr,w0,w1,w2,w3,w4,rfl,_⟩:=h
  rfl
 ·obtain⟨x,a,d,n,fr,w0,w1,w2,w3,w4,rfl,hD,hn,hA,l1,l2,l3,l4,q2,q1⟩:=h
  refine⟨_,(pss_cons (ps_set (i:=2) w6.nd rfl (Or.inl rfl) (zZ qy (hr.mono (by decide)) (by rfl) zy (pa_cons (pe_ix ix_list (pv 1) pe_int (fun _ _=>rfl)) pa_nil)))
   (pss_cons (ps_set (i:=3) w6.nd rfl (Or.inl rfl) (zhe K7 (hr.mono (by decide)) (by rfl) yc (pa_cons (zZ qm (hr.mono (by decide)) (by rfl) zy (pa_cons (pe_ix ix_list (pv 1) pe_int (fun _ _=>rfl)) pa_nil)) (pa_cons (zZ Qx (hr.mono (by decide)) (by rfl) zy (pa_cons (pe_ix ix_list (pv 1) pe_int (fun _ _=>rfl)) pa_nil)) (pa_cons (zZ qm (hr.mono (by decide)) (by rfl) zy (pa_cons (pe_ix ix_list (pv 1) pe_int (fun _ _=>rfl)) pa_nil)) pa_nil)))))
   (pss_cons (ps_dput (hu_of hr) (pe_fld (pv 0) rfl) (pv 2) (pv 3) rfl)
   (pss_cons (ps_set (i:=4) w6.nd rfl (Or.inl rfl) (zr vY (hr.mono (by decide)) (by rfl) (pa_cons (pv 3) pa_nil)))
   (pss_one (ps_ret (zhf (.cons pe_str (.cons (zgr (pv 4)) .nil))))))))),?_⟩
  refine⟨_,rfl,a,_,1,_,rfl,rfl,SqL.of hA,rfl,w1,rfl,l1,fun g1 H1 s1=>?_,fun g1 H1 s1=>q2 (fun z=>g1 z.a) H1 s1⟩
  have hA1:=s1 _ _ hA
  refine⟨_,rfl,a,_,2,_,rfl,rfl,SqL.of hA1,rfl,w2,rfl,l2,zdn,fun g2 H2 s2=>?_,fun g2 H2 s2=>q2 (fun z=>g2 z.b) H2 (s1.trans s2)⟩
  have hA2:=s2 _ _ hA1
  refine⟨_,rfl,a,_,3,_,rfl,rfl,SqL.of hA2,rfl,w3,rfl,l3,fun g3 H3 s3=>?_,fun g3 H3 s3=>q2 (fun z=>g3 z.c) H3 ((s1.trans s2).trans s3)⟩
  have hA3:=s3 _ _ hA2
  refine⟨_,rfl,a,_,4,_,rfl,rfl,SqL.of hA3,rfl,w4,rfl,l4,zdn,fun g4 H4 s4=>?_,fun g4 H4 s4=>q2 (fun z=>g4 z.d) H4 (((s1.trans s2).trans s3).trans s4)⟩
  have s04:=((s1.trans s2).trans s3).trans s4
  obtain⟨ok,q1⟩:=q1 ⟨g1,g2,g3,g4⟩
  refine fun p dx hp hdx ne=>⟨p,dx,_,_,_,rfl,upd_same,fun H5 s5 h5=>⟨rfl,?_⟩⟩
  have s45:Same H4 H5:=fun c o hc=>by
   have n1:c≠p:=fun e=>by rw [e,hp] at hc;cases hc
   have n2:c≠dx:=fun e=>by rw [e,hdx] at hc;cases hc
   exact s5 c o (by rw [upd_ne n1,upd_ne n2];exact hc) n1
  have s05:=s04.trans s45
  obtain⟨⟨dd,hx⟩,⟨kvs,hd,kl,k1,k2⟩,fo⟩:=hD.mono s05
  have np:p≠d:=fun e=>by
   obtain⟨kv0,hd0,_⟩:=hD.dict
   have:=s04 _ _ hd0
   rw [← e,hp] at this
   cases this
  refine⟨_,rfl,_,rfl,x,CD,dd,_,_,rfl,hx,hT.cd,hT.n4,Jw d,_,rfl,d,_,rfl,DPut.k (k:=Sum.inr w1) hd (by rw [sizeLine_eq];omega),?_⟩
  have nx:x≠d:=fun e=>by rw [e,hd] at hx;cases hx
  have hp6:(upd H5 d (.dK (putK kvs (Sum.inr w1) (V.ref p)))) p=some (.ins CF dx (fl3 (z6 w2) (z6 w3) (z6 w4))):=by rw [upd_ne np];exact h5
  refine⟨_,rfl,p,_,_,_,rfl,⟨dx,hp6⟩,ok,?_⟩
  have c0:=KJ (z6 w2) (z6 w3) (z6 w4)
  have em:Str.empty++("messages ":Str)="messages ":=by decide +kernel
  have lm:("messages ":Str).length=9:=by decide +kernel
  have lc:("messages "++txt (cnt (z6 w2) (z6 w3) (z6 w4))).length≤sizeLine:=by
   have h2:=(xT (k:=500) (by decide) c0 ok.c1).le
   rw [← qt,wY,List.length_append,qt,qt,lm,sizeLine_eq]
   omega
  refine⟨"messages ",rfl,by rw [em,lm,sizeLine_eq];decide,_,rfl,_,rfl,lg c0 ok.c1,txt (cnt (z6 w2) (z6 w3) (z6 w4)),rfl,by rw [em];exact lc,by rw [em];exact lc,?_⟩
  rw [em]
  refine q1 _ ((jT.of s05).put) ⟨⟨dd,by rw [upd_ne nx];exact hx⟩,⟨_,upd_same,?_,fun nm e=>?_,fun nm t b l e=>?_⟩,fun nm t b l e=>?_⟩
  ·have:=zeM kvs (Sum.inr w1) (V.ref p)
   omega
  ·unfold K6 at e
   split at e
   ·cases e
   ·rename_i h
    rw [valV_put,if_neg (fun z=>h (Sum.inr.inj z))]
    exact k1 nm e
  ·unfold K6 at e
   rw [valV_put]
   split at e
   ·rename_i h
    cases e
    rw [if_pos (by rw [h])]
    exact⟨p,rfl,dx,hp6⟩
   ·rename_i h
    rw [if_neg (fun z=>h (Sum.inr.inj z))]
    obtain⟨r,hr1,dr,hr2⟩:=k2 nm t b l e
    have nr:r≠d:=fun z=>by rw [z,hd] at hr2;cases hr2
    exact⟨r,hr1,dr,by rw [upd_ne nr];exact hr2⟩
  ·unfold K6 at e
   split at e
   ·cases e
    exact ok
   ·exact fo nm t b l e
end
theorem zfB (x y:V) (r:List V):cutV (x::y::r) (some 2) none=r:=by
 unfold cutV
 have e:HT.sIx (x::y::r).length 0 (some 2)=min 2 (x::y::r).length:=HT.sIx_nat ..
 rw [e]
 show ((x::y::r).drop (min 2 (r.length+2))).take ((r.length+2)-min 2 (r.length+2))=r
 rw [show min 2 (r.length+2)=2 by omega]
 exact List.take_of_length_le (Nat.le_refl _)
theorem zhn:(10:Int) ^ 3000≤2 ^ 10000:=by decide +kernel
theorem zbZ:(10:Int) ^ 60≤10 ^ 500:=by decide +kernel
section
variable {P:Program}{w:World}{K:PySem.W.Frag}{mg:Str→Option Value}{base:Heap}{CD CF:Addr}
noncomputable def zcL (CD CF CO CN CT:Addr):Sp:=fun vs H Q E=>∃(x a d:Addr) (n:Nat) (fr:Str→Option (Int×Int×Int)) (w0 w1 w2:Str),vs=[.ref x,.ref a]∧qp CD CF x d n fr H∧H a=some (.lst ([w0,w1,w2].map V.str))∧w1.length≤1000000∧w2.length≤1000000∧(Num 3000 w2→w2.length≤640) ∧
 (¬(zU w1∧Num 3000 w2)→∀H',Same H H'→E (.ref CO) none H')∧(zU w1→Num 3000 w2→fr w1=none→∀H',Same H H'→E (.ref CN) none H') ∧
 (zU w1→Num 3000 w2→∀t b l,fr w1=some (t,b,l) →
  (w0="key"→(z6 w2<yZ t b l→∀bs H',Same H H'→qi bs→bs.length=(b-1).toNat→jH bs=z6 w2→Szs 60010 bs→Q (.str (yF (Z2 l bs))) H')∧(¬z6 w2<yZ t b l→∀H',Same H H'→E (.ref CT) none H')) ∧
  (w0≠"key"→(z6 w2<cnt t b l→∀bs H',Same H H'→qi bs→bs.length=b.toNat→jH bs=z6 w2→Szs 60010 bs→Q (.str (yF (zq l bs))) H')∧(¬z6 w2<cnt t b l→∀H',Same H H'→E (.ref CT) none H')))
theorem yd:FnScope ["self","words","name","message","frame"] ["self","words"] (defScope jl):=⟨rfl,rfl,rfl,by decide +kernel,rfl,by decide +kernel,by decide +kernel⟩
theorem zfC {f:Addr}{fd:FuncData} (F:Xg K "ring" "Desk.ring" jl f fd) (hT:DkT K CD CF){zc zJ zj:Addr} (qy:FnE P w K mg base 2 "name_in" ["word"] (Xn zc)) (Zk:FnE P w K mg base 3 "message_in" ["word"] (XX zc 3000)) (ye:MtE P w K mg base 1 CD "kept" ["self","name"] (K5 CD CF zJ)) (xr:FnE P w K mg base 40 "written" ["message","turns","bells","late"] (Z0 K zj)) (K8:FnE P w K mg base 41 "keyed" ["message","turns","bells","late"] (zbM K zj)) (jo:Fn P w K mg base 1 "turns_told" ["turns"] (wJ K)):FnOk P w K mg base (CXE P w) 45 f fd ["self","words"] (zcL CD CF zc zJ zj):=by
 refine F.okE yd (fun vs H Q E h=>?_) (fun cdv A outer s H vs Q E hr h=>?_)
 ·obtain⟨x,a,d,n,fr,w0,w1,w2,rfl,_⟩:=h
  rfl
 ·obtain⟨x,a,d,n,fr,w0,w1,w2,rfl,hD,hA,l1,l2,l3,q1,q2,q3⟩:=h
  refine⟨_,(pss_cons (ps_set (i:=2) yd.nd rfl (Or.inl rfl) (zZ qy (hr.mono (by decide)) (by rfl) zy (pa_cons (pe_ix ix_list (pv 1) pe_int (fun _ _=>rfl)) pa_nil)))
   (pss_cons (ps_set (i:=3) yd.nd rfl (Or.inl rfl) (zZ Zk (hr.mono (by decide)) (by rfl) zy (pa_cons (pe_ix ix_list (pv 1) pe_int (fun _ _=>rfl)) pa_nil)))
   (pss_cons (ps_set (i:=4) yd.nd rfl (Or.inl rfl) (Jr (pv 0) ye (hr.mono (by decide)) zy (pa_cons (pv 2) pa_nil)))
   (pss_cons (ps_if (pt_cmpR op_eq (pe_ix ix_list (pv 1) pe_int (fun _ _=>rfl)) pe_str (nomark _))
    (pss_one (ps_ret (zr jo (hr.mono (by decide)) (by rfl) (pa_cons (zZ K8 (hr.mono (by decide)) (by rfl) zy (pa_cons (pv 3) (pa_cons (pe_fld (pv 4) rfl) (pa_cons (pe_fld (pv 4) rfl) (pa_cons (pe_fld (pv 4) rfl) pa_nil))))) pa_nil))))
    pss_nil)
   (pss_one (ps_ret (zr jo (hr.mono (by decide)) (by rfl) (pa_cons (zZ xr (hr.mono (by decide)) (by rfl) zy (pa_cons (pv 3) (pa_cons (pe_fld (pv 4) rfl) (pa_cons (pe_fld (pv 4) rfl) (pa_cons (pe_fld (pv 4) rfl) pa_nil))))) pa_nil)))))))),?_⟩
  refine⟨_,rfl,a,_,1,_,rfl,rfl,SqL.of hA,rfl,w1,rfl,l1,fun g1 H1 s1=>?_,fun g1 H1 s1=>q1 (fun z=>g1 z.1) H1 s1⟩
  have hA1:=s1 _ _ hA
  refine⟨_,rfl,a,_,2,_,rfl,rfl,SqL.of hA1,rfl,w2,rfl,l2,l3,fun g2 H2 s2=>?_,fun g2 H2 s2=>q1 (fun z=>g2 z.2) H2 (s1.trans s2)⟩
  have s02:=s1.trans s2
  have hD2:=hD.mono s02
  have hA2:=s2 _ _ hA1
  obtain⟨dx,hx⟩:=hD2.self
  refine⟨_,rfl,x,dx,_,rfl,hx,vA (by decide +kernel),_,rfl,x,d,n,fr,w1,rfl,hD2,fun e=>q2 g1 g2 e H2 s02,fun t b l e p ip=>?_⟩
  obtain⟨pdx,hp⟩:=ip
  have ok:=hD.ok w1 t b l e
  obtain⟨qk,qw⟩:=q3 g1 g2 t b l e
  have m0:=zaD w2
  have mb:intBits (z6 w2)≤50000:=za (zK m0 (Int.lt_of_lt_of_le (zc9 g2) zhn)) (by decide)
  refine⟨_,rfl,a,_,0,_,rfl,rfl,SqL.of hA2,rfl,rfl,_,rfl,ifD (fun z=>?_) (fun z=>?_)⟩
  ·obtain⟨q4,q5⟩:=qk (V.str.inj z)
   refine⟨_,rfl,_,rfl,p,CF,pdx,_,_,rfl,hp,hT.cf,hT.n1,yG ..,_,rfl,p,CF,pdx,_,_,rfl,hp,hT.cf,hT.n2,yH ..,_,rfl,p,CF,pdx,_,_,rfl,hp,hT.cf,hT.n3,Z3 ..,z6 w2,t,b,l,rfl,ok.b0,ok.b1,ok.l0,za (Zj ok.l0 ok.l1) (by decide),ok.t0,za (Zj ok.t0 ok.t1) (by decide),mb,fun g r bs H3 s3 _ h3 B bl nb sz=>?_,fun g=>q5 (fun y=>g ⟨m0,y⟩) H2 s02⟩
   obtain⟨bz,tz,mlt⟩:=zaT g.1 g.2
   have b0:=ok.b0
   have t0:=ok.t0
   have eb:(bs.length:Int)=b-1:=by omega
   refine⟨r,Z2 l bs,rfl,SqL.of h3,by rw [Qw];have:=ok.b1;omega,fun y hy=>?_,fun H4 s4=>q4 g.2 bs H4 ((s02.trans s3).trans s4) B bl nb sz⟩
   obtain⟨i,hi⟩:=List.getElem?_of_mem hy
   obtain⟨k1,k2,_⟩:=zbP ok.l0 B (by rw [nb,eb];exact mlt) (by omega) hi
   exact⟨by omega,Int.lt_trans k1 (Int.lt_of_lt_of_le ok.t1 zbZ)⟩
  ·obtain⟨q4,q5⟩:=qw (fun y=>z (by rw [y]))
   refine⟨_,rfl,_,rfl,p,CF,pdx,_,_,rfl,hp,hT.cf,hT.n1,yG ..,_,rfl,p,CF,pdx,_,_,rfl,hp,hT.cf,hT.n2,yH ..,_,rfl,p,CF,pdx,_,_,rfl,hp,hT.cf,hT.n3,Z3 ..,z6 w2,t,b,l,rfl,ok.b0,ok.b1,ok.l0,za (Zj ok.l0 ok.l1) (by decide),za (Zj ok.t0 ok.t1) (by decide),mb,fun g r bs H3 s3 _ h3 B bl nb sz=>?_,fun g=>q5 (fun y=>g ⟨m0,y⟩) H2 s02⟩
   have b0:=ok.b0
   have eb:(bs.length:Int)=b:=by omega
   refine⟨r,zq l bs,rfl,SqL.of h3,by rw [ql];have:=ok.b1;omega,fun y hy=>?_,fun H4 s4=>q4 g.2 bs H4 ((s02.trans s3).trans s4) B bl nb sz⟩
   obtain⟨k2,k1⟩:=zaU B ok.l0 (by rw [nb,eb];exact g.2) y hy
   exact⟨k2,Int.lt_trans k1 (Int.lt_of_lt_of_le ok.t1 zbZ)⟩
noncomputable def K9 (CD CF CO CN CR:Addr) (NH:Sp):Sp:=fun vs H Q E=>∃(x a d:Addr) (n:Nat) (fr:Str→Option (Int×Int×Int)) (w0 w1:Str) (ws:List Str),vs=[.ref x,.ref a]∧qp CD CF x d n fr H∧H a=some (.lst ((w0::w1::ws).map V.str))∧w1.length≤1000000∧ws.length≤1000000∧(∀y∈ws,y.length≤1000000)∧(vX ws→(fr w1).isSome→w0="read"∨w0="unkey"→ws.length≤60)∧vX ws ∧
 (¬(zU w1∧vX ws)→∀H',Same H H'→E (.ref CO) none H')∧(zU w1→vX ws→fr w1=none→∀H',Same H H'→E (.ref CN) none H') ∧
 (zU w1→vX ws→∀t b l,fr w1=some (t,b,l) →
  (w0="read"→(GoodR t b l (ws.map z6)→∀H',Same H H'→Q (.str (txt (jH (jG l (ws.map z6))))) H')∧(¬GoodR t b l (ws.map z6)→∀H',Same H H'→E (.ref CR) none H')) ∧
  (w0="unkey"→(zai t b l (ws.map z6)→∀H',Same H H'→Q (.str (txt (jH (jG (2*l) (unL l (ws.map z6)))))) H')∧(¬zai t b l (ws.map z6)→∀H',Same H H'→E (.ref CR) none H')) ∧
  (w0≠"read"→w0≠"unkey"→∀r p H',Same H H'→H' r=some (.lst ((ws.map z6).map V.int))→zeL CF H' p t b l→NH [.ref r,.ref p] H' (fun v H2=>∃i j:Str,V.str "note "=.str i∧v=.str j∧i.length+j.length≤sizeLine∧Q (.str (i++j)) H2) (fun C _ H2=>E C none H2)))
theorem zdo {bs:List Int} (B:qi bs):0≤jH bs:=vp bs _
theorem vD:FnScope ["self","words","name","reading","frame"] ["self","words"] (defScope qI):=⟨rfl,rfl,rfl,by decide +kernel,rfl,by decide +kernel,by decide +kernel⟩
theorem zdX {f:Addr}{fd:FuncData} (F:Xg K "listen" "Desk.listen" qI f fd) (hT:DkT K CD CF){zc zJ zf:Addr}{NH:Sp} (qy:FnE P w K mg base 2 "name_in" ["word"] (Xn zc)) (Qy:FnE P w K mg base 4 "turns_in" ["words"] (zbS K zc)) (ye:MtE P w K mg base 1 CD "kept" ["self","name"] (K5 CD CF zJ)) (kh:FnE P w K mg base 3 "read" ["reading","turns","bells","late"] (V7 K zf)) (Jx:FnE P w K mg base 4 "unkeyed" ["reading","turns","bells","late"] (KY K zf)) (kj:Fn P w K mg base 1 "number_told" ["number"] X4) (Zm:FnE P w K mg base 44 "note_heard" ["reading","frame"] NH):FnOk P w K mg base (CXE P w) 45 f fd ["self","words"] (K9 CD CF zc zJ zf NH):=by
 refine F.okE vD (fun vs H Q E h=>?_) (fun cdv A outer s H vs Q E hr h=>?_)
 ·obtain⟨x,a,d,n,fr,w0,w1,ws,rfl,_⟩:=h
  rfl
 ·obtain⟨x,a,d,n,fr,w0,w1,ws,rfl,hD,hA,l1,l2,l3,l4,g2,q1,q2,q3⟩:=h
  refine⟨_,(pss_cons (ps_set (i:=2) vD.nd rfl (Or.inl rfl) (zZ qy (hr.mono (by decide)) (by rfl) zy (pa_cons (pe_ix ix_list (pv 1) pe_int (fun _ _=>rfl)) pa_nil)))
   (pss_cons (ps_set (i:=3) vD.nd rfl (Or.inl rfl) (zZ Qy (hr.mono (by decide)) (by rfl) zy (pa_cons (pe_slice sl_list (pv 1) (po_some pe_int) po_none) pa_nil)))
   (pss_cons (ps_set (i:=4) vD.nd rfl (Or.inl rfl) (Jr (pv 0) ye (hr.mono (by decide)) zy (pa_cons (pv 2) pa_nil)))
   (pss_cons (ps_if (pt_cmpR op_eq (pe_ix ix_list (pv 1) pe_int (fun _ _=>rfl)) pe_str (nomark _))
    (pss_one (ps_ret (zr kj (hr.mono (by decide)) (by rfl) (pa_cons (zZ kh (hr.mono (by decide)) (by rfl) zy (pa_cons (pv 3) (pa_cons (pe_fld (pv 4) rfl) (pa_cons (pe_fld (pv 4) rfl) (pa_cons (pe_fld (pv 4) rfl) pa_nil))))) pa_nil))))
    pss_nil)
   (pss_cons (ps_if (pt_cmpR op_eq (pe_ix ix_list (pv 1) pe_int (fun _ _=>rfl)) pe_str (nomark _))
    (pss_one (ps_ret (zr kj (hr.mono (by decide)) (by rfl) (pa_cons (zZ Jx (hr.mono (by decide)) (by rfl) zy (pa_cons (pv 3) (pa_cons (pe_fld (pv 4) rfl) (pa_cons (pe_fld (pv 4) rfl) (pa_cons (pe_fld (pv 4) rfl) pa_nil))))) pa_nil))))
    pss_nil)
   (pss_one (ps_ret (pe_op op_add_str pe_str (zZ Zm (hr.mono (by decide)) (by rfl) zy (pa_cons (pv 3) (pa_cons (pv 4) pa_nil))))))))))),?_⟩
  refine⟨_,rfl,a,_,1,_,rfl,rfl,SqL.of hA,(show atI ((w0::w1::ws).map V.str) ((1:Nat):Int)=some (V.str w1) from atI_nat rfl),w1,rfl,l1,fun g1 H1 s1=>?_,fun g1 H1 s1=>q1 (fun z=>g1 z.1) H1 s1⟩
  have hA1:=s1 _ _ hA
  refine⟨_,rfl,_,rfl,_,_,rfl,SqL.of hA1,fun pc hpc=>?_⟩
  have ec:cutV ((w0::w1::ws).map V.str) (some 2) none=ws.map V.str:=zfB ..
  rw [ec]
  refine⟨pc,ws,rfl,SqL.of upd_same,l2,l3,g2,fun rp H2 s2 _ h2=>?_⟩
  have s02:=(s1.trans (Same.new (o:=.lst (ws.map V.str)) hpc)).trans s2
  have hD2:=hD.mono s02
  have hA2:=s02 _ _ hA
  obtain⟨dx,hx⟩:=hD2.self
  refine⟨_,rfl,x,dx,_,rfl,hx,vA (by decide +kernel),_,rfl,x,d,n,fr,w1,rfl,hD2,fun e=>q2 g1 g2 e H2 s02,fun t b l e p ip=>?_⟩
  have ip':=ip
  obtain⟨pdx,hp⟩:=ip
  have ok:=hD.ok w1 t b l e
  obtain⟨qr,qu,qn⟩:=q3 g1 g2 t b l e
  have hb:Bd 200 (ws.map z6):=fun y hy=>by
   obtain⟨z,hz,rfl⟩:=List.mem_map.mp hy
   exact⟨zaD z,Int.lt_of_lt_of_le (zc9 (g2.num z hz)) p60⟩
  refine⟨_,rfl,a,_,0,_,rfl,rfl,SqL.of hA2,(show atI ((w0::w1::ws).map V.str) ((0:Nat):Int)=some (V.str w0) from atI_nat rfl),rfl,_,rfl,ifD (fun z=>?_) (fun z=>?_)⟩
  ·obtain⟨q4,q5⟩:=qr (V.str.inj z)
   have wl:=l4 g2 (by rw [e];rfl) (.inl (V.str.inj z))
   refine⟨_,rfl,_,rfl,p,CF,pdx,_,_,rfl,hp,hT.cf,hT.n1,yG ..,_,rfl,p,CF,pdx,_,_,rfl,hp,hT.cf,hT.n2,yH ..,_,rfl,p,CF,pdx,_,_,rfl,hp,hT.cf,hT.n3,Z3 ..,rp,ws.map z6,t,b,l,rfl,SqL.of h2,by rw [List.length_map];exact wl,ok.b0,ok.b1,ok.l0,za (Zj ok.l0 ok.l1) (by decide),za (Zj ok.t0 ok.t1) (by decide),zfx hb (by rw [List.length_map];omega) ok.l0,fun g H3 s3=>?_,fun g H3 s3=>q5 g H3 (s02.trans s3)⟩
   exact⟨_,rfl,.inr ⟨_,rfl,zdo g.2.1,Int.lt_trans g.2.2 ok.c1,q4 g H3 (s02.trans s3)⟩⟩
  ·refine⟨_,rfl,a,_,0,_,rfl,rfl,SqL.of hA2,(show atI ((w0::w1::ws).map V.str) ((0:Nat):Int)=some (V.str w0) from atI_nat rfl),rfl,_,rfl,ifD (fun z2=>?_) (fun z2=>?_)⟩
   ·obtain⟨q4,q5⟩:=qu (V.str.inj z2)
    have wl:=l4 g2 (by rw [e];rfl) (.inr (V.str.inj z2))
    refine⟨_,rfl,_,rfl,p,CF,pdx,_,_,rfl,hp,hT.cf,hT.n1,yG ..,_,rfl,p,CF,pdx,_,_,rfl,hp,hT.cf,hT.n2,yH ..,_,rfl,p,CF,pdx,_,_,rfl,hp,hT.cf,hT.n3,Z3 ..,rp,ws.map z6,t,b,l,rfl,SqL.of h2,by rw [List.length_map];exact wl,ok.b0,ok.b1,ok.l0,za (Zj ok.l0 ok.l1) (by decide),ok.t0,za (Zj ok.t0 ok.t1) (by decide),zgx hb (by rw [List.length_map];omega) ok.l0 (Int.lt_of_lt_of_le ok.l1 p60),fun g H3 s3=>?_,fun g H3 s3=>q5 g H3 (s02.trans s3)⟩
    refine⟨_,rfl,.inr ⟨_,rfl,zdo g.2.2.2.2.1,Int.lt_trans g.2.2.2.2.2 ?_,q4 g H3 (s02.trans s3)⟩⟩
    have:=ok.k1
    unfold yZ at this
    rw [if_neg g.1,if_neg g.2.1] at this
    exact this
   ·have q6:=qn (fun y=>z (by rw [y])) (fun y=>z2 (by rw [y])) rp p H2 s02 h2 ip'
    exact⟨_,rfl,_,rfl,q6⟩
end
section
variable {P:Program}{w:World}{K:PySem.W.Frag}{mg:Str→Option Value}{base:Heap}{CD CF:Addr}
noncomputable def za1 (K:PySem.W.Frag) (CD CF CO CN:Addr) (SN:Sp):Sp:=fun vs H Q E=>∃(x a d:Addr) (n:Nat) (fr:Str→Option (Int×Int×Int)) (w0 w1 w2:Str),vs=[.ref x,.ref a]∧qp CD CF x d n fr H∧H a=some (.lst ([w0,w1,w2].map V.str))∧w1.length≤1000000 ∧
 (¬zU w1→∀H',Same H H'→E (.ref CO) none H')∧(zU w1→fr w1=none→∀H',Same H H'→E (.ref CN) none H') ∧
 (zU w1→∀t b l,fr w1=some (t,b,l)→∀H',Same H H'→SN [.str w2,.int t,.int b,.int l] H' (fun v H2=>wJ K [v] H2 Q E0) (fun C _ H2=>E C none H2))
theorem Ze:FnScope ["self","words","frame"] ["self","words"] (defScope z8):=⟨rfl,rfl,rfl,by decide +kernel,rfl,by decide +kernel,by decide +kernel⟩
theorem zb0 {f:Addr}{fd:FuncData} (F:Xg K "send_note" "Desk.send_note" z8 f fd) (hT:DkT K CD CF){zc zJ:Addr}{SN:Sp} (qy:FnE P w K mg base 2 "name_in" ["word"] (Xn zc)) (ye:MtE P w K mg base 1 CD "kept" ["self","name"] (K5 CD CF zJ)) (za2:FnE P w K mg base 44 "sent" ["note","turns","bells","late"] SN) (jo:Fn P w K mg base 1 "turns_told" ["turns"] (wJ K)):FnOk P w K mg base (CXE P w) 45 f fd ["self","words"] (za1 K CD CF zc zJ SN):=by
 refine F.okE Ze (fun vs H Q E h=>?_) (fun cdv A outer s H vs Q E hr h=>?_)
 ·obtain⟨x,a,d,n,fr,w0,w1,w2,rfl,_⟩:=h
  rfl
 ·obtain⟨x,a,d,n,fr,w0,w1,w2,rfl,hD,hA,l1,q1,q2,q3⟩:=h
  refine⟨_,(pss_cons (ps_set (i:=2) Ze.nd rfl (Or.inl rfl) (Jr (pv 0) ye (hr.mono (by decide)) zy (pa_cons (zZ qy (hr.mono (by decide)) (by rfl) zy (pa_cons (pe_ix ix_list (pv 1) pe_int (fun _ _=>rfl)) pa_nil)) pa_nil)))
   (pss_one (ps_ret (zr jo (hr.mono (by decide)) (by rfl) (pa_cons (zZ za2 (hr.mono (by decide)) (by rfl) zy (pa_cons (pe_ix ix_list (pv 1) pe_int (fun _ _=>rfl)) (pa_cons (pe_fld (pv 2) rfl) (pa_cons (pe_fld (pv 2) rfl) (pa_cons (pe_fld (pv 2) rfl) pa_nil))))) pa_nil))))),?_⟩
  obtain⟨dx,hx⟩:=hD.self
  refine⟨_,rfl,x,dx,_,rfl,hx,vA (by decide +kernel),_,rfl,a,_,1,_,rfl,rfl,SqL.of hA,rfl,w1,rfl,l1,fun g1 H1 s1=>?_,fun g1 H1 s1=>q1 g1 H1 s1⟩
  refine⟨x,d,n,fr,w1,rfl,hD.mono s1,fun e=>q2 g1 e H1 s1,fun t b l e p ip=>?_⟩
  obtain⟨pdx,hp⟩:=ip
  have hA1:=s1 _ _ hA
  exact⟨_,rfl,a,_,2,_,rfl,rfl,SqL.of hA1,rfl,_,rfl,p,CF,pdx,_,_,rfl,hp,hT.cf,hT.n1,yG ..,_,rfl,p,CF,pdx,_,_,rfl,hp,hT.cf,hT.n2,yH ..,_,rfl,p,CF,pdx,_,_,rfl,hp,hT.cf,hT.n3,Z3 ..,q3 g1 t b l e H1 s1⟩
noncomputable def zeN (CD CO:Addr) (KP RG LS SN CT:Sp):Sp:=fun vs H Q E=>∃(x dx d:Addr) (o w0:Str) (ws:List Str),vs=[.ref x,.str o]∧H x=some (.ins CD dx (fr1 d))∧o.length+2≤sizeLine∧Txt.split o " "=w0::ws ∧
 (w0="frame"→ws.length=4→∀a H',Same H H'→H' a=some (.lst ((w0::ws).map V.str))→KP [.ref x,.ref a] H' Q (fun C _ H2=>E C none H2)) ∧
 (w0="write"∨w0="key"→ws.length=2→∀a H',Same H H'→H' a=some (.lst ((w0::ws).map V.str))→RG [.ref x,.ref a] H' Q (fun C _ H2=>E C none H2)) ∧
 (w0="read"∨w0="unkey"∨w0="hear"→1≤ws.length→∀a H',Same H H'→H' a=some (.lst ((w0::ws).map V.str))→LS [.ref x,.ref a] H' Q (fun C _ H2=>E C none H2)) ∧
 (w0="note"→2≤ws.length→(Txt.splitMax o " " 2).length≤sizeLine∧∀a H',Same H H'→H' a=some (.lst ((Txt.splitMax o " " 2).map V.str))→SN [.ref x,.ref a] H' Q (fun C _ H2=>E C none H2)) ∧
 (¬(w0="frame"∧ws.length=4)→¬((w0="write"∨w0="key")∧ws.length=2)→¬((w0="read"∨w0="unkey"∨w0="hear")∧1≤ws.length)→¬(w0="note"∧2≤ws.length)→∀a H',Same H H'→H' a=some (.lst ((w0::ws).map V.str))→CT [.ref a] H' Q (fun C _ H2=>E C none H2))
theorem za3:((" ":Str).length == 0)=false:=by decide +kernel
theorem in2 {x a b:Str}:inV (.str x) [.str a,.str b]=decide (x=a∨x=b):=by
 rw [Bool.eq_iff_iff]
 simp only [inV,List.any_cons,List.any_nil,eqV,Bool.or_false,Bool.or_eq_true,beq_iff_eq,decide_eq_true_eq]
 exact⟨fun h=>h.imp Eq.symm Eq.symm,fun h=>h.imp Eq.symm Eq.symm⟩
theorem in3 {x a b c:Str}:inV (.str x) [.str a,.str b,.str c]=decide (x=a∨x=b∨x=c):=by
 rw [Bool.eq_iff_iff]
 simp only [inV,List.any_cons,List.any_nil,eqV,Bool.or_false,Bool.or_eq_true,beq_iff_eq,decide_eq_true_eq]
 exact⟨fun h=>h.imp Eq.symm fun h=>h.imp Eq.symm Eq.symm,fun h=>h.imp Eq.symm fun h=>h.imp Eq.symm Eq.symm⟩
theorem Vu (K:PySem.W.Frag):PySem.W.kitOne K (.type "str") (.type "str")=some true:=by with_unfolding_all rfl
theorem Xo:FnScope ["self","order","words"] ["self","order"] (defScope jj):=⟨rfl,rfl,rfl,by decide +kernel,rfl,by decide +kernel,by decide +kernel⟩
theorem zfD {f:Addr}{fd:FuncData} (F:Xg K "told" "Desk.told" jj f fd) (T:Txt K mg) (hT:DkT K CD CF){zc:Addr}{KP RG LS SN CT:Sp} (zL:mg "NoOrder"=some (.ref zc)) (zM:PySem.W.excIn K zc bmV "ValueError.__new__"=true) (za4:MtE P w K mg base 45 CD "keep" ["self","words"] KP) (za5:MtE P w K mg base 45 CD "ring" ["self","words"] RG) (X6:MtE P w K mg base 45 CD "listen" ["self","words"] LS) (Z4:MtE P w K mg base 45 CD "send_note" ["self","words"] SN) (yI:FnE P w K mg base 45 "choice_told" ["words"] CT):FnOk P w K mg base (CXE P w) 46 f fd ["self","order"] (zeN CD zc KP RG LS SN CT):=by
 refine F.okE Xo (fun vs H Q E h=>?_) (fun cdv A outer s H vs Q E hr h=>?_)
 ·obtain⟨x,dx,d,o,w0,ws,rfl,_⟩:=h
  rfl
 ·obtain⟨x,dx,d,o,w0,ws,rfl,hx,ol,es,q1,q2,q3,q4,q5⟩:=h
  refine⟨_,(pss_cons (ps_if (pt_not (pt_val (pe_callB Za (by rfl) T.z_isinstance wX (pa_cons (pv 1) (pa_cons (pe_bltn (v:=.ty "str") (by rfl) T.z_str Jd rfl) pa_nil)))))
    (pss_one (zY PySem.F.excBase_ValueError zM (by rfl) zL (pa_cons pe_str pa_nil)))
    pss_nil)
   (pss_cons (ps_set (i:=2) Xo.nd rfl (Or.inl rfl) (pe_bm PySem.F.plainAttrs_str PySem.F.slot_str_split PySem.F.type_str_split Kq (pv 1) (pa_cons pe_str pa_nil)))
   (pss_cons (ps_if (pw_and (pt_cmpR op_eq (pe_ix ix_list (pv 2) pe_int (fun _ _=>rfl)) pe_str (nomark _)) (pw_and1 (pt_cmpR xP (pe_callB call_len_seq (by rfl) T.z_len xQ (pa_cons (pv 2) pa_nil)) pe_int (nomark _)))).pt
    (pss_one (ps_ret (Jr (pv 0) za4 (hr.mono (by decide)) zy (pa_cons (pv 2) pa_nil))))
    pss_nil)
   (pss_cons (ps_if (pw_and (pt_cmpR op_in_seq (pe_ix ix_list (pv 2) pe_int (fun _ _=>rfl)) (pe_tup (pa_cons pe_str (pa_cons pe_str pa_nil))) (by with_unfolding_all rfl)) (pw_and1 (pt_cmpR xP (pe_callB call_len_seq (by rfl) T.z_len xQ (pa_cons (pv 2) pa_nil)) pe_int (nomark _)))).pt
    (pss_one (ps_ret (Jr (pv 0) za5 (hr.mono (by decide)) zy (pa_cons (pv 2) pa_nil))))
    pss_nil)
   (pss_cons (ps_if (pw_and (pt_cmpR op_in_seq (pe_ix ix_list (pv 2) pe_int (fun _ _=>rfl)) (pe_tup (pa_cons pe_str (pa_cons pe_str (pa_cons pe_str pa_nil)))) (by with_unfolding_all rfl)) (pw_and1 (pt_cmpR Kc (pe_callB call_len_seq (by rfl) T.z_len xQ (pa_cons (pv 2) pa_nil)) pe_int (nomark _)))).pt
    (pss_one (ps_ret (Jr (pv 0) X6 (hr.mono (by decide)) zy (pa_cons (pv 2) pa_nil))))
    pss_nil)
   (pss_cons (ps_if (pw_and (pt_cmpR op_eq (pe_ix ix_list (pv 2) pe_int (fun _ _=>rfl)) pe_str (nomark _)) (pw_and1 (pt_cmpR Kc (pe_callB call_len_seq (by rfl) T.z_len xQ (pa_cons (pv 2) pa_nil)) pe_int (nomark _)))).pt
    (pss_one (ps_ret (Jr (pv 0) Z4 (hr.mono (by decide)) zy (pa_cons (pe_bm PySem.F.plainAttrs_str PySem.F.slot_str_split PySem.F.type_str_split zbv (pv 1) (pa_cons pe_str (pa_cons pe_int pa_nil))) pa_nil))))
    pss_nil)
   (pss_one (ps_ret (zZ yI (hr.mono (by decide)) (by rfl) zy (pa_cons (pv 2) pa_nil)))))))))),?_⟩
  refine⟨_,rfl,_,_,_,true,rfl,TyOf.str _,Vu K,_,rfl,iteF ?_⟩
  refine⟨_,rfl,rfl,o," ",rfl,rfl,za3,ol,fun a ha=>?_⟩
  rw [es]
  have sA:Same H (upd H a (.lst ((w0::ws).map V.str))):=Same.new ha
  have hA:(upd H a (.lst ((w0::ws).map V.str))) a=some (.lst ((w0::ws).map V.str)):=upd_same
  generalize upd H a (.lst ((w0::ws).map V.str))=H1 at sA hA ⊢
  have h0:atI ((w0::ws).map V.str) ((0:Nat):Int)=some (V.str w0):=atI_nat rfl
  have hx1:=sA _ _ hx
  have el:(((w0::ws).map V.str).length:Int)=(ws.length:Int)+1:=by rw [List.length_map,List.length_cons];omega
  dsimp only [gName]
  refine zeI (fun σ' H'=>σ'=[some (.ref x),some (.str o),some (.ref a)]∧H'=H1∧¬(w0="frame"∧ws.length=4)) ?_ (fun N hN=>?_)
  rotate_left
  ·refine⟨_,rfl,a,_,0,_,rfl,rfl,SqL.of hA,h0,rfl,_,rfl,ifD (fun z=>⟨_,rfl,_,_,rfl,.inl (SqL.of hA),_,_,rfl,rfl,_,rfl,?_⟩) (fun z=>iteF (hN _ _ ⟨rfl,rfl,fun y=>z (by rw [y.1])⟩))⟩
   rw [el]
   refine ifD (fun z2=>⟨_,rfl,x,dx,_,rfl,hx1,vA (by decide +kernel),_,rfl,?_⟩) (fun z2=>hN _ _ ⟨rfl,rfl,fun y=>by have:=y.2;omega⟩)
   exact q1 (V.str.inj z) (by omega) a H1 sA hA
  rintro σ' H' ⟨rfl,rfl,n1⟩
  refine zeI (fun σ' H2=>σ'=[some (.ref x),some (.str o),some (.ref a)]∧Same H' H2∧¬((w0="write"∨w0="key")∧ws.length=2)) ?_ (fun N hN=>?_)
  rotate_left
  ·refine⟨_,rfl,a,_,0,_,rfl,rfl,SqL.of hA,h0,(by show 2≤sizeLine;decide),fun tp htp=>⟨tp,_,rfl,.inr (SqT.of upd_same),rfl,rfl,?_⟩⟩
   have sT:Same H' (upd H' tp (.tup [V.str "write",V.str "key"])):=Same.new htp
   generalize upd H' tp (.tup [V.str "write",V.str "key"])=H3 at sT ⊢
   refine⟨inV (.str w0) [V.str "write",V.str "key"],rfl,?_⟩
   rw [in2]
   refine ifD (fun z=>⟨_,rfl,_,_,rfl,.inl (SqL.of (sT _ _ hA)),_,_,rfl,rfl,_,rfl,?_⟩) (fun z=>iteF (hN _ _ ⟨rfl,sT,fun y=>z y.1⟩))
   rw [el]
   refine ifD (fun z2=>⟨_,rfl,x,dx,_,rfl,sT _ _ hx1,vA (by decide +kernel),_,rfl,?_⟩) (fun z2=>hN _ _ ⟨rfl,sT,fun y=>by have:=y.2;omega⟩)
   exact q2 z (by omega) a H3 (sA.trans sT) (sT _ _ hA)
  rintro σ' H2 ⟨rfl,s2,n2⟩
  have sA2:=sA.trans s2
  have hA2:=s2 _ _ hA
  have hx2:=s2 _ _ hx1
  refine zeI (fun σ' H3=>σ'=[some (.ref x),some (.str o),some (.ref a)]∧Same H2 H3∧¬((w0="read"∨w0="unkey"∨w0="hear")∧1≤ws.length)) ?_ (fun N hN=>?_)
  rotate_left
  ·refine⟨_,rfl,a,_,0,_,rfl,rfl,SqL.of hA2,h0,(by show 3≤sizeLine;decide),fun tp htp=>⟨tp,_,rfl,.inr (SqT.of upd_same),rfl,rfl,?_⟩⟩
   have sT:Same H2 (upd H2 tp (.tup [V.str "read",V.str "unkey",V.str "hear"])):=Same.new htp
   generalize upd H2 tp (.tup [V.str "read",V.str "unkey",V.str "hear"])=H3 at sT ⊢
   refine⟨inV (.str w0) [V.str "read",V.str "unkey",V.str "hear"],rfl,?_⟩
   rw [in3]
   refine ifD (fun z=>⟨_,rfl,_,_,rfl,.inl (SqL.of (sT _ _ hA2)),_,_,rfl,rfl,_,rfl,?_⟩) (fun z=>iteF (hN _ _ ⟨rfl,sT,fun y=>z y.1⟩))
   rw [el]
   refine ifD (fun z2=>⟨_,rfl,x,dx,_,rfl,sT _ _ hx2,vA (by decide +kernel),_,rfl,?_⟩) (fun z2=>hN _ _ ⟨rfl,sT,fun y=>by have:=y.2;omega⟩)
   exact q3 z (by omega) a H3 (sA2.trans sT) (sT _ _ hA2)
  rintro σ' H3 ⟨rfl,s3,n3⟩
  have sA3:=sA2.trans s3
  have hA3:=s3 _ _ hA2
  have hx3:=s3 _ _ hx2
  refine zeI (fun σ' H4=>σ'=[some (.ref x),some (.str o),some (.ref a)]∧H4=H3∧¬(w0="note"∧2≤ws.length)) ?_ (fun N hN=>?_)
  rotate_left
  ·refine⟨_,rfl,a,_,0,_,rfl,rfl,SqL.of hA3,h0,rfl,_,rfl,ifD (fun z=>⟨_,rfl,_,_,rfl,.inl (SqL.of hA3),_,_,rfl,rfl,_,rfl,?_⟩) (fun z=>iteF (hN _ _ ⟨rfl,rfl,fun y=>z (by rw [y.1])⟩))⟩
   rw [el]
   refine ifD (fun z2=>⟨_,rfl,x,dx,_,rfl,hx3,vA (by decide +kernel),?_⟩) (fun z2=>hN _ _ ⟨rfl,rfl,fun y=>by have:=y.2;omega⟩)
   obtain⟨zl,q6⟩:=q4 (V.str.inj z) (by omega)
   exact⟨_,rfl,rfl,o," ",2,rfl,rfl,rfl,za3,ol,zl,fun b hb=>q6 b _ (sA3.trans (Same.new hb)) upd_same⟩
  rintro σ' H4 ⟨rfl,rfl,n4⟩
  exact⟨_,rfl,q5 n1 n2 n3 n4 a H4 sA3 hA3⟩
end
theorem zb1 (c:Nat):∀xs:List (List Nat),(wV c xs).length≤(xs.map List.length).sum+xs.length
 | []=>Nat.le_refl _
 | [x]=>by simp [wV]
 | x::y::r=>by
  have:=zb1 c (y::r)
  show (x++c::wV c (y::r)).length≤_
  rw [List.length_append,List.length_cons,List.map_cons,List.sum_cons,List.length_cons]
  omega
theorem zb2 (ws:List Str):(Txt.join " " ws).length≤(ws.map (·.length)).sum+ws.length:=by
 rw [Xh,← qt,show (" ":Str)=⟨#[32]⟩ by decide +kernel,Qo]
 have:=zb1 32 (ws.map cpl)
 rw [List.map_map,List.length_map] at this
 have e:(ws.map (List.length ∘ cpl))=ws.map (·.length):=List.map_congr_left fun x _=>qt x
 rw [e] at this
 exact this
theorem Jy:(" ":Str)=sp:=by decide +kernel
theorem zdp (a b:Str):(a++b).length=a.length+b.length:=by rw [← qt,wY,List.length_append,qt,qt]
theorem zaj {t b l:Int} (b0:0≤b) (b6:b≤8) (t1:t<10 ^ 40) (l0:0≤l):cnt t b l<10 ^ 500:=by
 unfold cnt
 split
 ·exact(show (0:Int)<10 ^ 500 by decide +kernel)
 ·have h2:=Int.ediv_le_self (l+1) (show 0≤t-b by omega)
  have h3:0≤(t-b) / (l+1):=Int.ediv_nonneg (by omega) (by omega)
  have e40:(10:Int) ^ 40≤2 ^ 133:=by decide +kernel
  have nb:intBits ((t-b) / (l+1)+b)≤140:=zK (by omega) (by omega)
  have h4:=V0 (k:=b.toNat) nb (by omega)
  rw [show ((b.toNat:Nat):Int)=b by omega] at h4
  have h5:intBits (ch ((t-b) / (l+1)+b) b)≤1200:=za h4 (by omega)
  have h6:=intBits_le_iff.mp h5
  have zlb:(2:Int) ^ 1200≤10 ^ 500:=by decide +kernel
  omega
theorem zfE {t b l:Int} (b1:1≤b) (bt:b≤t):yZ t b l=cnt (t-1) (b-1) (2*l):=by
 unfold yZ
 rw [if_neg (by omega),if_neg (by omega)]
theorem zgd {t b l:Int} (b0:0≤b) (b8:b≤8) (t0:0≤t) (t1:t<10 ^ 40) (l0:0≤l) (l1:l<10 ^ 40):K3 t b l:=by
 refine⟨t0,by omega,b0,by omega,l0,by omega,zaj b0 b8 t1 l0,?_⟩
 unfold yZ
 split
 ·exact(show (0:Int)<10 ^ 500 by decide +kernel)
 split
 ·exact(show (0:Int)<10 ^ 500 by decide +kernel)
 exact zaj (by omega) (by omega) (by omega) (by omega)
theorem zfF {P:Program}{w:World}{K:PySem.W.Frag}{mg:Str→Option Value}{base:Heap}{k:Nat}{x:Str}{ps:List Str} {sp sp':Sp} (h:∀vs H Q E,sp' vs H Q E→sp vs H Q E) (F:Fn P w K mg base k x ps sp):Fn P w K mg base k x ps sp':=by
 obtain⟨f,fd,F,kp,b,m⟩:=F
 exact⟨f,fd,⟨fun vs H Q E hh=>F.len vs H Q E (h _ _ _ _ hh),fun A outer s H args us vs Q E hr e0 hb r hh=>F.run A outer s H args us vs Q E hr e0 hb r (h _ _ _ _ hh)⟩,kp,b,m⟩
noncomputable def zak (K:PySem.W.Frag):Sp:=fun vs H Q _=>∃message turns bells late:Int,vs=[.int message,.int turns,.int bells,.int late]∧0≤message∧message<cnt turns bells late∧0≤bells∧bells≤60∧0≤late∧intBits late≤8000∧intBits turns≤70000∧intBits message≤50000 ∧
 ∀(p:Addr) (bs:List Int) (H':Hp),Same H H'→H p=none→H' p=some (.lst ((zq late bs).map V.int))→qi bs→bs.length=bells.toNat→jH bs=message→Szs 60010 bs→Q (.ref p) H'
theorem zcM {P:Program}{w:World}{K:PySem.W.Frag}{mg:Str→Option Value}{base:Heap}{k:Nat}{C:Addr} (G:FnE P w K mg base k "written" ["message","turns","bells","late"] (Z0 K C)):Fn P w K mg base k "written" ["message","turns","bells","late"] (zak K):=
 zfF (fun vs H Q E h=>by
  obtain⟨m,t,b,l,rfl,m0,m1,b0,b60,l0,lb,tb,mb,q⟩:=h
  exact⟨m,t,b,l,rfl,b0,b60,l0,lb,tb,mb,fun _=>q,fun z=>absurd ⟨m0,m1⟩ z⟩) (zcy G)
theorem FnE.mono {P:Program}{w:World}{K:PySem.W.Frag}{mg:Str→Option Value}{base:Heap}{k j:Nat}{x:Str}{ps:List Str}{sp:Sp} (G:FnE P w K mg base k x ps sp) (h:k≤j):FnE P w K mg base j x ps sp:=by
 obtain⟨f,fd,F,r⟩:=G
 exact⟨f,fd,F.mono h,r⟩
theorem zgD:cpl (" ":Str)=[32]:=by decide +kernel
theorem Ja (ws:List Str):cpl (Txt.join " " ws)=wV 32 (ws.map cpl):=by
 rw [Xh,show (" ":Str)=⟨#[32]⟩ by decide +kernel,Qo]
theorem join_one (x:Str):Txt.join " " [x]=x:=v9 (by rw [Ja];rfl)
theorem ZP {x:Str}{r:List Str} (h:r≠[]):cpl (Txt.join " " (x::r))=cpl x++32::cpl (Txt.join " " r):=by
 cases r with
 | nil=>exact absurd rfl h
 | cons y r=>
  rw [Ja,Ja]
  rfl
theorem ZQ {w0 nm:Str}{r:List Str} (h0:vQ w0) (h1:vQ nm) (h2:∀w∈r,vQ w):Txt.split (Txt.join " " (w0::nm::r)) " "=w0::nm::r:=by
 rw [Jy]
 refine yu (by simp) fun w hw=>?_
 rcases List.mem_cons.mp hw with rfl | hw
 ·exact h0
 rcases List.mem_cons.mp hw with rfl | hw
 ·exact h1
 exact h2 w hw
theorem yq {ns:List Int} (h:∀n∈ns,0≤n):∀w∈ns.map txt,vQ w:=fun w hw=>by
 obtain⟨n,hn,rfl⟩:=List.mem_map.mp hw
 exact zbu (h n hn)
theorem Wa {ns:List Int} (h:∀n∈ns,0≤n):(ns.map txt).map z6=ns:=by
 rw [List.map_map]
 have:ns.map (z6 ∘ txt)=ns.map id:=List.map_congr_left fun n hn=>yw (h n hn)
 rw [this,List.map_id]
theorem V8 {w0 nm:Str}{ns:List Int} (h0:w0.length≤100) (h1:nm.length≤100) (hl:ns.length≤1000) (hb:∀n∈ns,0≤n∧n<10 ^ 500):(Txt.join " " (w0::nm::ns.map txt)).length+2≤sizeLine:=by
 have h2:=zb2 (w0::nm::ns.map txt)
 have h3:=zaY hb
 simp only [List.map_cons,List.sum_cons,List.length_cons,List.length_map] at h2
 rw [sizeLine_eq]
 omega
theorem zal {ns:List Int} (h:∀n∈ns,0≤n∧n<10 ^ 60) (pw:ns.Pairwise (·≤·)):vX (ns.map txt):=by
 refine⟨fun x hx=>?_,by rw [Wa fun n hn=>(h n hn).1];exact pw⟩
 obtain⟨n,hn,rfl⟩:=List.mem_map.mp hx
 exact xT (by decide) (h n hn).1 (h n hn).2
theorem qL {n:Int} (h0:0≤n) (h1:n<10 ^ 500):(txt n).length≤500:=(xT (k:=500) (by decide) h0 h1).le
theorem zfG {n:Int} (h0:0≤n) (h1:n<10 ^ 500):Num 3000 (txt n):=by
 have h:=xT (k:=500) (by decide) h0 h1
 exact⟨h.ne,Nat.le_trans h.le (by decide),h.dig,h.led⟩
section
variable {K:PySem.W.Frag}{CD CF CO CN CT CR:Addr}{NH SN CH:Sp}{x d:Addr}{n:Nat}{fr:Str→Option (Int×Int×Int)}{H:Hp}{Q:VK}
abbrev xu (K:PySem.W.Frag) (CD CF CO CN CT CR:Addr) (NH SN CH:Sp):Sp:=zeN CD CO (zcK CD CF CO) (zcL CD CF CO CN CT) (K9 CD CF CO CN CR NH) (za1 K CD CF CO CN SN) CH
theorem zeO:vQ "frame":=by unfold vQ;decide +kernel
theorem zeP:vQ "write":=by unfold vQ;decide +kernel
theorem zgE:vQ "key":=by unfold vQ;decide +kernel
theorem zfH:vQ "read":=by unfold vQ;decide +kernel
theorem zeQ:vQ "unkey":=by unfold vQ;decide +kernel
theorem zcN {nm:Str}{t b l:Int} (hD:qp CD CF x d n fr H) (hn:n<1000) (g:zU nm) (ok:K3 t b l)
  (q:∀H',jT d H H'→qp CD CF x d (n+1) (K6 fr nm (t,b,l)) H'→Q (.str ("messages "++txt (cnt t b l))) H'):xu K CD CF CO CN CT CR NH SN CH [.ref x,.str (Txt.join " " ("frame"::nm::[t,b,l].map txt))] H Q E0:=by
 obtain⟨dx,hx⟩:=hD.self
 have b60:b<10 ^ 60:=Int.lt_of_le_of_lt ok.b1 (by decide)
 have hb:∀m∈[t,b,l],0≤m∧m<10 ^ 60:=fun m hm=>by
  rcases List.mem_cons.mp hm with rfl | hm
  ·exact⟨ok.t0,ok.t1⟩
  rcases List.mem_cons.mp hm with rfl | hm
  ·exact⟨ok.b0,b60⟩
  rw [List.mem_singleton.mp hm]
  exact⟨ok.l0,ok.l1⟩
 have hb5:∀m∈[t,b,l],0≤m∧m<10 ^ 500:=fun m hm=>⟨(hb m hm).1,Int.lt_of_lt_of_le (hb m hm).2 zbZ⟩
 refine⟨x,dx,d,_,"frame",nm::[t,b,l].map txt,rfl,hx,V8 (by decide +kernel) (by have:=g.le;omega) (by show 3≤1000;decide) hb5,ZQ zeO (Q9 g) (yq fun m hm=>(hb m hm).1),fun _ _ a H' s h=>?_,fun z=>?_,fun z=>?_,fun z=>?_,fun z=>?_⟩
 ·have vt:=yw ok.t0
  have vb:=yw ok.b0
  have vl:=yw ok.l0
  refine⟨x,a,d,n,fr,"frame",nm,txt t,txt b,txt l,rfl,hD.mono s,hn,h,by have:=g.le;omega,Nat.le_trans (qL ok.t0 (hb5 t (by simp)).2) (by decide),Nat.le_trans (qL ok.b0 (hb5 b (by simp)).2) (by decide),Nat.le_trans (qL ok.l0 (hb5 l (by simp)).2) (by decide),fun z=>?_,fun _=>?_⟩
  ·exact absurd ⟨g,xT (by decide) ok.t0 ok.t1,⟨xT (by decide) ok.b0 b60,by rw [vb];exact ok.b1⟩,xT (by decide) ok.l0 ok.l1⟩ z
  ·rw [vt,vb,vl]
   exact⟨ok,fun H2 s2 h2=>q H2 ((jT.of s).trans s2) h2⟩
 ·exact absurd z (by decide +kernel)
 ·exact absurd z (by decide +kernel)
 ·exact absurd z (by decide +kernel)
 ·exact absurd ⟨rfl,rfl⟩ z
structure zeR (k:Bool) (t b l m:Int) (rs:List Int):Prop where
 len:(rs.length:Int)=b
 bd:∀y∈rs,0≤y∧y<t
 inc:∀(i:Nat) (y z:Int),rs[i]?=some y→rs[i+1]?=some z→y<z
 srt:rs.Pairwise (·≤·)
 hear:∀lag ms,(k=false→lag=0)→Al l (rs.map (·+lag)) ms→(k=false→GoodR t b l ms∧jH (jG l ms)=m)∧(k=true→zai t b l ms∧jH (jG (2*l) (unL l ms))=m)
theorem zeS {late:Int}{bs:List Int} (l0:0≤late) (B:qi bs) (i:Nat) (y z:Int) (hy:(zq late bs)[i]?=some y) (hz:(zq late bs)[i+1]?=some z):y<z:=by
 obtain⟨c,hc,rfl⟩:=xq hy
 obtain⟨e,he,rfl⟩:=xq hz
 have:=Int.mul_le_mul_of_nonneg_right (B.get (Nat.le_succ i) hc he) (show 0≤late+1 by omega)
 omega
theorem Wc (rs:List Int):rs.map (·+0)=rs:=by
 have:(fun y:Int=>y+0)=id:=funext fun y=>by simp
 rw [this,List.map_id]
theorem zho {t b l m:Int}{bs:List Int} (ok:K3 t b l) (B:qi bs) (bl:bs.length=b.toNat) (nb:jH bs=m) (hm:m<cnt t b l):zeR false t b l m (zq l bs):=by
 have b0:=ok.b0
 have eb:(bs.length:Int)=b:=by omega
 have hc:jH bs<cnt t (bs.length:Int) l:=by rw [nb,eb];exact hm
 refine⟨by rw [ql];exact eb,zaU B ok.l0 hc,fun i y z=>zeS ok.l0 B i y z,Qu ok.l0 B,fun lag ms h0 al=>⟨fun _=>?_,fun z=>nomatch z⟩⟩
 rw [h0 rfl,Wc] at al
 have e:=KD ok.l0 al
 have ml:=Kz al
 rw [ql] at ml
 exact⟨⟨by omega,by rw [e];exact B,by rw [e,nb];exact hm⟩,by rw [e,nb]⟩
theorem zhp {t b l m:Int}{bs:List Int} (ok:K3 t b l) (B:qi bs) (bl:bs.length=(b-1).toNat) (nb:jH bs=m) (m0:0≤m) (hm:m<yZ t b l):zeR true t b l m (Z2 l bs):=by
 obtain⟨bz,tz,mlt⟩:=zaT m0 hm
 have b0:=ok.b0
 have t0:=ok.t0
 have eb:(bs.length:Int)=b-1:=by omega
 have hc:jH bs<cnt (t-1) (bs.length:Int) (2*l):=by rw [nb,eb];exact mlt
 have kr:∀{i:Nat}{y:Int},(Z2 l bs)[i]?=some y→y<t∧-1<y∧∀z,(Z2 l bs)[i+1]?=some z→y<z:=fun h=>zbP ok.l0 B hc (by omega) h
 refine⟨by rw [Qw];omega,fun y hy=>?_,fun i y z hy hz=>(kr hy).2.2 z hz,?_,fun lag ms _ al=>⟨(fun z=>nomatch z),fun _=>?_⟩⟩
 ·obtain⟨i,hi⟩:=List.getElem?_of_mem hy
  have:=kr hi
  omega
 ·have:=zcE ok.l0 B 0
  rw [Wc] at this
  exact this
 ·have e:=zdR ok.l0 al
  have ml:=Kz al
  rw [List.length_map,Qw] at ml
  exact⟨⟨bz,tz,by omega,by rw [Ju];omega,by rw [e];exact B,by rw [e,nb];exact mlt⟩,by rw [e,nb]⟩
noncomputable def wW (k:Bool):Str:=if k then "key" else "write"
noncomputable def wR (k:Bool):Str:=if k then "unkey" else "read"
theorem zb3 {k:Bool}{nm:Str}{t b l m:Int} (hD:qp CD CF x d n fr H) (g:zU nm) (e:fr nm=some (t,b,l)) (b1:1≤b) (m0:0≤m) (hm:m<if k then yZ t b l else cnt t b l)
  (q:∀rs H',Same H H'→zeR k t b l m rs→Q (.str (Txt.join " " (rs.map txt))) H'):xu K CD CF CO CN CT CR NH SN CH [.ref x,.str (Txt.join " " (wW k::nm::[m].map txt))] H Q E0:=by
 obtain⟨dx,hx⟩:=hD.self
 have ok:=hD.ok nm t b l e
 have m5:m<10 ^ 500:=by
  have h1:=ok.c1
  have h2:=ok.k1
  cases k
  ·exact Int.lt_trans hm h1
  ·exact Int.lt_trans hm h2
 have hb5:∀y∈[m],0≤y∧y<10 ^ 500:=fun y hy=>by rw [List.mem_singleton.mp hy];exact⟨m0,m5⟩
 have vm:=yw m0
 have tx:∀{rs:List Int},zeR k t b l m rs→yF rs=Txt.join " " (rs.map txt):=fun {rs} h=>by
  unfold yF
  rw [if_neg (fun z=>by have:=h.len;rw [z] at this;simp at this;omega)]
 refine⟨x,dx,d,_,wW k,nm::[m].map txt,rfl,hx,V8 (by cases k <;> decide +kernel) (by have:=g.le;omega) (by show 1≤1000;decide) hb5,ZQ (by cases k;exact zeP;exact zgE) (Q9 g) (yq fun y hy=>(hb5 y hy).1),fun z=>?_,fun _ _ a H' s h=>?_,fun z=>?_,fun z=>?_,fun _ z=>?_⟩
 ·cases k <;> exact absurd z (by decide +kernel)
 ·refine⟨x,a,d,n,fr,wW k,nm,txt m,rfl,hD.mono s,h,by have:=g.le;omega,Nat.le_trans (qL m0 m5) (by decide),fun _=>Nat.le_trans (qL m0 m5) (by decide),fun z=>absurd ⟨g,zfG m0 m5⟩ z,(fun _ _ z=>by rw [e] at z;cases z),fun _ _ t' b' l' e'=>?_⟩
  rw [e] at e'
  cases e'
  rw [vm]
  refine⟨fun z=>?_,fun z=>?_⟩
  ·have hk:k=true:=by
    cases k
    ·exact absurd z (by decide +kernel)
    ·rfl
   subst hk
   refine⟨fun _ bs H2 s2 B bl nb _=>?_,fun z=>absurd hm z⟩
   have R:=zhp ok B bl nb m0 hm
   rw [tx R]
   exact q _ H2 (s.trans s2) R
  ·have hk:k=false:=by
    cases k
    ·rfl
    ·exact absurd rfl z
   subst hk
   refine⟨fun _ bs H2 s2 B bl nb _=>?_,fun z=>absurd hm z⟩
   have R:=zho ok B bl nb hm
   rw [tx R]
   exact q _ H2 (s.trans s2) R
 ·cases k <;> exact absurd z (by decide +kernel)
 ·cases k <;> exact absurd z (by decide +kernel)
 ·refine absurd ⟨?_,rfl⟩ z
  cases k
  ·exact .inl rfl
  ·exact .inr rfl
theorem zam {k:Bool}{nm:Str}{t b l m:Int}{ms:List Int} (hD:qp CD CF x d n fr H) (g:zU nm) (e:fr nm=some (t,b,l)) (ml:1≤ms.length) (mu:ms.length≤60) (mb:∀y∈ms,0≤y∧y<10 ^ 60) (pw:ms.Pairwise (·≤·))
  (hh:(k=false→GoodR t b l ms∧jH (jG l ms)=m)∧(k=true→zai t b l ms∧jH (jG (2*l) (unL l ms))=m))
  (q:∀H',Same H H'→Q (.str (txt m)) H'):xu K CD CF CO CN CT CR NH SN CH [.ref x,.str (Txt.join " " (wR k::nm::ms.map txt))] H Q E0:=by
 obtain⟨dx,hx⟩:=hD.self
 have ok:=hD.ok nm t b l e
 have mb5:∀y∈ms,0≤y∧y<10 ^ 500:=fun y hy=>⟨(mb y hy).1,Int.lt_of_lt_of_le (mb y hy).2 zbZ⟩
 have vm:=Wa fun y hy=>(mb y hy).1
 have gt:=zal mb pw
 refine⟨x,dx,d,_,wR k,nm::ms.map txt,rfl,hx,V8 (by cases k <;> decide +kernel) (by have:=g.le;omega) (by omega) mb5,ZQ (by cases k;exact zfH;exact zeQ) (Q9 g) (yq fun y hy=>(mb y hy).1),fun z=>?_,fun z=>?_,fun _ _ a H' s h=>?_,fun z=>?_,fun _ _ z=>?_⟩
 ·cases k <;> exact absurd z (by decide +kernel)
 ·cases k <;> exact absurd z (by decide +kernel)
 ·refine⟨x,a,d,n,fr,wR k,nm,ms.map txt,rfl,hD.mono s,h,by have:=g.le;omega,by rw [List.length_map];omega,fun y hy=>?_,fun _ _ _=>by rw [List.length_map];exact mu,gt,fun z=>absurd ⟨g,gt⟩ z,(fun _ _ z=>by rw [e] at z;cases z),fun _ _ t' b' l' e'=>?_⟩
  ·obtain⟨u,hu,rfl⟩:=List.mem_map.mp hy
   exact Nat.le_trans (qL (mb5 u hu).1 (mb5 u hu).2) (by decide)
  rw [e] at e'
  cases e'
  rw [vm]
  refine⟨fun z=>?_,fun z=>?_,fun z1 z2=>?_⟩
  ·have hk:k=false:=by
    cases k
    ·rfl
    ·exact absurd z (by decide +kernel)
   obtain⟨h1,h2⟩:=hh.1 hk
   exact⟨fun _ H2 s2=>by rw [h2];exact q H2 (s.trans s2),fun z=>absurd h1 z⟩
  ·have hk:k=true:=by
    cases k
    ·exact absurd z (by decide +kernel)
    ·rfl
   obtain⟨h1,h2⟩:=hh.2 hk
   exact⟨fun _ H2 s2=>by rw [h2];exact q H2 (s.trans s2),fun z=>absurd h1 z⟩
  ·cases k
   ·exact absurd rfl z1
   ·exact absurd rfl z2
 ·cases k <;> exact absurd z (by decide +kernel)
 ·refine absurd ⟨?_,?_⟩ z
  ·cases k
   ·exact .inl rfl
   ·exact .inr (.inl rfl)
  ·simp
end
section
open PySem.Spec PyProof.Rows
variable {X:Cx}{pins:List (Addr×Obj)}{σ:L2.St}{H:Hp}{s:Shared}{a:Addr}{kvs:List (Key×V)}{k:Key}{u r:Value}{v:V}{A:Around}{E:Value→Shared→Prop}
theorem zgF {Q:Value→Shared→Prop} (I:L2.Inv X pins σ H s) (e:H a=some (.dK kvs)) (ry:RelV (kV k) u) (rv:RelV v r) (hl:kvs.length<sizeLine)
  (h1:∀v0 w' s',valV kvs k=some v0→L2.Inv X pins σ H s'→RelV v0 w'→Q w' s') (h2:∀s',valV kvs k=none→L2.Inv X pins σ (upd H a (.dK (putK kvs k v))) s'→Q r s') :
  wpAny (model X.prog X.w) A (call (.builtin "dict.setdefault") [.ref a,u,r]) Q E s:=by
 obtain⟨z,hd,vs,rel,dd⟩:=dk_of I.hok e
 have hz:vs.length≤sizeLine:=by rw [← rel.length];exact z
 have hl2:(putK kvs k v).length≤sizeLine:=by have:=length_putK kvs k v;omega
 refine call_meetsIn PySem.F.slot_dict_setdefault dd.typeIs PySem.F.entry_dict_setdefault (PySem.F.args_dict_setdefault_3 _ _ _) (kt_meets_setdefault (mixKind X.prog X.w) a (kV_is ry) hd r) ⟨vs,dd,hz,fun w' hw=>?_,fun hn h' dd' hs=>?_⟩
 ·have rr:=rel.val k
  rw [hw] at rr
  cases e2:valV kvs k with
  | none=>rw [e2] at rr;exact absurd rr (by intro z;cases z)
  | some v0=>
   rw [e2] at rr
   exact h1 v0 w' _ e2 (I.tok _) rr
 ·have hv:valV kvs k=none:=by
   have rr:=rel.val k
   rw [hn] at rr
   cases e2:valV kvs k with
   | none=>rfl
   | some v0=>rw [e2] at rr;exact absurd rr (by intro z;cases z)
  have he:∃q,h'.get? a=some q:=let ⟨q,_,_,hq,_⟩:=dd';⟨q,hq⟩
  exact h2 _ hv (d_write I (by rw [e];exact True.intro) hs he (dk_new hl2 hd (rel.put k rv) dd'))
end
section
open PySem.Spec PyProof.Rows
variable {X:Cx}{o e f:Expr}{apos cpos:Pos}{td ty tx:TE}
noncomputable def zgG (td ty tx:TE):TE:=fun σ H Q=>td σ H fun x H1=>∃a,x=.ref a∧IsD H1 a∧ty σ H1 fun y H2=>tx σ H2 fun z H3=>∃kvs k,H3 a=some (.dK kvs)∧y=kV k∧kvs.length<sizeLine ∧
 (∀v,valV kvs k=some v→Q v H3)∧(valV kvs k=none→Q z (upd H3 a (.dK (putK kvs k z))))
theorem zeT (ho:PE X o td) (he:PE X e ty) (hf:PE X f tx) (m:M2 X o "setdefault" apos e f cpos):PE X (.Call (.Attribute o "setdefault" apos) [e,f] [] cpos) (zgG td ty tx):=by
 intro pins s σ H Q I h
 refine wpAny_Call_method m.base m.few m.line PySem.F.plainAttrs_dict PySem.F.slot_dict_setdefault PySem.F.type_dict_setdefault (thn (ho pins s σ H _ I h) fun u s1 ⟨x,H1,I1,rx,a,ex,d,q1⟩=>?_)
 subst ex
 obtain rfl:u=Value.ref a:=rx
 obtain⟨t1,t2,_⟩:=isD_at I1 d
 refine⟨t1,t2,?_⟩
 rw [m.trees]
 refine Calls.callWith_builtin rfl (Calls.evalArgs_plain (Calls.spliced_cons (thn (he pins s1 σ H1 _ I1 q1) fun iv s2 ⟨y,H2,I2,ry,q2⟩=>
  Calls.spliced_cons (thn (hf pins s2 σ H2 _ I2 q2) fun fv s3 ⟨z,H3,I3,rz,kvs,k,e3,ey,hl,c1,c2⟩=>Calls.spliced_nil ?_))))
 subst ey
 exact zgF I3 e3 ry rz hl (fun v0 w' s4 hv I4 rw'=>⟨v0,H3,I4,rw',c1 v0 hv⟩) (fun s4 hv I4=>⟨z,_,I4,rz,c2 hv⟩)
end
noncomputable def qx (L late:Int):Int→List (List Int)→List Int
 | _,[]=>[]
 | k,bs::r=>(zq late bs).map (fun x=>k*L+x)++qx L late (k+1) r
theorem Jz (L late:Int) (bs:List Int):∀(bss:List (List Int)) (k:Int),qx L late k (bss++[bs])=qx L late k bss++(zq late bs).map (fun x=>(k+(bss.length:Int))*L+x)
 | [],k=>by
  show (zq late bs).map (fun x=>k*L+x)++[]=[]++(zq late bs).map (fun x=>(k+((0:Nat):Int))*L+x)
  rw [List.append_nil,List.nil_append,show k+((0:Nat):Int)=k by omega]
 | b::r,k=>by
  show (zq late b).map (fun x=>k*L+x)++qx L late (k+1) (r++[bs])=(zq late b).map (fun x=>k*L+x)++qx L late (k+1) r++_
  rw [Jz L late bs r (k+1),List.append_assoc,List.length_cons,show k+1+(r.length:Int)=k+((r.length+1:Nat):Int) by omega]
noncomputable def grp (L k:Int) (ms:List Int):List Int:=(ms.filter (fun t=>decide (t / L=k))).map (fun t=>t % L)
theorem jJ (L k:Int) (a b:List Int):grp L k (a++b)=grp L k a++grp L k b:=by
 unfold grp
 rw [List.filter_append,List.map_append]
theorem yJ {L k t:Int} (h:t / L=k):grp L k [t]=[t % L]:=by
 unfold grp
 rw [List.filter_cons_of_pos (by rw [decide_eq_true h]),List.filter_nil]
 rfl
theorem yK {L k t:Int} (h:¬t / L=k):grp L k [t]=[]:=by
 unfold grp
 rw [List.filter_cons_of_neg (by rw [decide_eq_false h];decide),List.filter_nil]
 rfl
theorem zeU {L k:Int}{a b:List Int} (h:a.Perm b):(grp L k a).Perm (grp L k b):=(h.filter _).map _
theorem zcO {L k:Int} (hL:0<L){a:List Int} (h:a.Pairwise (·≤·)):(grp L k a).Pairwise (·≤·):=by
 unfold grp
 rw [List.pairwise_map]
 have h1:=h.filter (fun t=>decide (t / L=k))
 refine List.Pairwise.imp_of_mem ?_ h1
 intro x y hx hy hxy
 have ex:=of_decide_eq_true (List.mem_filter.mp hx).2
 have ey:=of_decide_eq_true (List.mem_filter.mp hy).2
 have d1:=Int.mul_ediv_add_emod x L
 have d2:=Int.mul_ediv_add_emod y L
 rw [ex] at d1
 rw [ey] at d2
 omega
theorem Jb {L k j:Int} (hL:0<L):∀(ys:List Int),(∀y∈ys,0≤y∧y<L)→grp L k (ys.map (fun x=>j*L+x))=if j=k then ys else []
 | [],_=>by split <;> rfl
 | y::ys,h=>by
  have h1:=h y (List.mem_cons_self ..)
  have ih:=Jb (k:=k) (j:=j) hL ys fun z hz=>h z (List.mem_cons_of_mem _ hz)
  have ed:(j*L+y) / L=j:=by
   rw [Int.add_comm,Int.add_mul_ediv_right _ _ (by omega),Int.ediv_eq_zero_of_lt h1.1 h1.2]
   omega
  have em:(j*L+y) % L=y:=by
   rw [Int.add_comm,Int.add_mul_emod_self_right,Int.emod_eq_of_lt h1.1 h1.2]
  rw [List.map_cons,show (j*L+y)::ys.map (fun x=>j*L+x)=[j*L+y]++ys.map (fun x=>j*L+x) from rfl,jJ,ih]
  by_cases e:j=k
  ·rw [yJ (by rw [ed,e]),em,if_pos e,if_pos e]
   rfl
  ·rw [yK (by rw [ed];exact e),if_neg e,if_neg e]
   rfl
theorem zb4 (a b:List Int):∀(ds:List Int),sums (a++b) ds=sums a (ds.take a.length)++sums b (ds.drop a.length):=by
 induction a with
 | nil=>intro ds;rfl
 | cons x a ih=>
  intro ds
  cases ds with
  | nil=>
   unfold sums
   simp
  | cons d ds=>
   have:=ih ds
   unfold sums at this ⊢
   simp only [List.cons_append,List.zipWith_cons_cons,List.length_cons,List.take_succ_cons,List.drop_succ_cons,this]
theorem Wd (c:Int):∀(a ds:List Int),sums (a.map (fun x=>c+x)) ds=(sums a ds).map (fun x=>c+x)
 | [],_=>rfl
 | x::a,[]=>rfl
 | x::a,d::ds=>by
  have:=Wd c a ds
  unfold sums at this ⊢
  simp only [List.map_cons,List.zipWith_cons_cons,this,Int.add_assoc]
theorem zb5 {L late:Int} (hL:0<L) (l0:0≤late):∀(bss:List (List Int)) (j:Int) (ds:List Int),(∀bs∈bss,∀x∈zq late bs,0≤x∧x+late<L)→ds.length=(qx L late j bss).length→(∀d∈ds,0≤d∧d≤late) →
  (∀k:Int,k<j→grp L k (sums (qx L late j bss) ds)=[])∧∀(i:Nat),(∀bs,bss[i]?=some bs→∃es:List Int,(zq late bs).length=es.length∧(∀d∈es,0≤d∧d≤late)∧grp L (j+(i:Int)) (sums (qx L late j bss) ds)=sums (zq late bs) es)∧(bss[i]?=none→grp L (j+(i:Int)) (sums (qx L late j bss) ds)=[])
 | [],j,ds,_,_,_=>⟨fun k _=>by show grp L k (sums [] ds)=[];unfold sums;rfl,fun i=>⟨fun bs h=>by simp at h,fun _=>by show grp L _ (sums [] ds)=[];unfold sums;rfl⟩⟩
 | b::r,j,ds,hb,hd,dd=>by
  have el:((zq late b).map (fun x=>j*L+x)).length=(zq late b).length:=List.length_map ..
  have e0:sums (qx L late j (b::r)) ds=(sums (zq late b) (ds.take (zq late b).length)).map (fun x=>j*L+x)++sums (qx L late (j+1) r) (ds.drop (zq late b).length):=by
   show sums ((zq late b).map (fun x=>j*L+x)++qx L late (j+1) r) ds=_
   rw [zb4,el,Wd]
  have hd':ds.length=(zq late b).length+(qx L late (j+1) r).length:=by
   have:(qx L late j (b::r)).length=((zq late b).map (fun x=>j*L+x)++qx L late (j+1) r).length:=rfl
   rw [this,List.length_append,el] at hd
   exact hd
  have tl:(zq late b).length=(ds.take (zq late b).length).length:=by rw [List.length_take];omega
  have td:∀d∈ds.take (zq late b).length,0≤d∧d≤late:=fun d h=>dd d (List.mem_of_mem_take h)
  have bd:∀y∈sums (zq late b) (ds.take (zq late b).length),0≤y∧y<L:=fun y hy=>by
   obtain⟨i,hi⟩:=List.getElem?_of_mem hy
   unfold sums at hi
   rw [List.getElem?_zipWith] at hi
   cases ex:(zq late b)[i]? with
   | none=>rw [ex] at hi;simp at hi
   | some x=>
    cases ed:(ds.take (zq late b).length)[i]? with
    | none=>rw [ex,ed] at hi;simp at hi
    | some d=>
     rw [ex,ed] at hi
     have hy':x+d=y:=by simpa using hi
     have h1:=hb b (List.mem_cons_self ..) x (List.mem_of_getElem? ex)
     have h2:=td d (List.mem_of_getElem? ed)
     omega
  obtain⟨ih1,ih2⟩:=zb5 hL l0 r (j+1) (ds.drop (zq late b).length) (fun bs h=>hb bs (List.mem_cons_of_mem _ h)) (by rw [List.length_drop];omega) (fun d h=>dd d (List.mem_of_mem_drop h))
  refine⟨fun k hk=>?_,fun i=>?_⟩
  ·rw [e0,jJ,Jb hL _ bd,if_neg (by omega),ih1 k (by omega)]
   rfl
  ·cases i with
   | zero=>
    refine⟨fun bs h=>?_,fun h=>by simp at h⟩
    have eb:b=bs:=by simpa using h
    subst eb
    refine⟨_,tl,td,?_⟩
    rw [show j+((0:Nat):Int)=j by omega,e0,jJ,Jb hL _ bd,if_pos rfl,ih1 j (by omega),List.append_nil]
   | succ i=>
    have ej:j+((i+1:Nat):Int)=j+1+(i:Int):=by omega
    have eg:grp L (j+((i+1:Nat):Int)) (sums (qx L late j (b::r)) ds)=grp L (j+1+(i:Int)) (sums (qx L late (j+1) r) (ds.drop (zq late b).length)):=by
     rw [e0,jJ,Jb hL _ bd,if_neg (by omega),List.nil_append,ej]
    rw [eg]
    exact⟨fun bs h=>(ih2 i).1 bs (by simpa using h),fun h=>(ih2 i).2 (by simpa using h)⟩
section
variable {P:Program}{w:World}{K:PySem.W.Frag}{mg:Str→Option Value}{base:Heap}
noncomputable def zb6:Sp:=fun vs H Q _=>∃turns bells:Int,vs=[.int turns,.int bells]∧1≤bells∧bells≤turns∧Q .non H
theorem ZR:FnScope ["turns","bells"] ["turns","bells"] (defScope qF):=⟨rfl,rfl,rfl,by decide +kernel,rfl,by decide +kernel,by decide +kernel⟩
theorem X7 (D:Def K mg "refuse_silent" qF ["turns","bells"]) (T:Txt K mg):Fn P w K mg base 1 "refuse_silent" ["turns","bells"] zb6:=by
 refine D.fn ZR (fun vs H Q E h=>?_) (fun f cdv A outer s H vs Q E hr h=>?_)
 ·obtain⟨a,b,rfl,_⟩:=h
  rfl
 ·obtain⟨turns,bells,rfl,b1,bt,q⟩:=h
  refine⟨_,(pss_one (ps_if (pw_or (pt_cmpR xP (pv 1) pe_int (nomark _)) (pw_or1 (pt_cmpR vP (pv 1) (pv 0) (nomark _)))).pt
    (pss_one (ps_never))
    pss_nil)),?_⟩
  exact⟨_,rfl,_,_,rfl,rfl,_,rfl,ifF (by omega) ⟨_,rfl,_,rfl,_,_,rfl,rfl,_,rfl,ifF (by omega) q⟩⟩
noncomputable def zcP (K:PySem.W.Frag):Sp:=fun vs H Q _=>∃(a:Addr) (ms:List Int) (turns bells late:Int),vs=[.ref a,.int turns,.int bells,.int late]∧SqL K H a (ms.map V.int)∧ms.length≤100∧1≤bells∧bells≤60∧bells≤turns∧0≤late∧intBits late≤8000∧intBits turns≤60000∧(∀m∈ms,0≤m∧m<cnt turns bells late∧intBits m≤50000) ∧
 ∀(p:Addr) (bss:List (List Int)) (H':Hp),Same H H'→H p=none→H' p=some (.lst ((qx (turns+late) late 0 bss).map V.int))→bss.length=ms.length→(∀(i:Nat) (bs:List Int) (m:Int),bss[i]?=some bs→ms[i]?=some m→qi bs∧bs.length=bells.toNat∧jH bs=m)→(∀bs∈bss,Szs 60010 bs)→Q (.ref p) H'
theorem Xp:FnScope ["messages","turns","bells","late","talk","place","message","start"] ["messages","turns","bells","late"] (defScope Xj):=⟨rfl,rfl,rfl,by decide +kernel,rfl,by decide +kernel,by decide +kernel⟩
theorem zfI (D:Def K mg "rung" Xj ["messages","turns","bells","late"]) (T:Txt K mg) (VB:Fn P w K mg base 1 "refuse_silent" ["turns","bells"] zb6) (zdY:Fn P w K mg base 40 "written" ["message","turns","bells","late"] (zak K)):Fn P w K mg base 41 "rung" ["messages","turns","bells","late"] (zcP K):=by
 refine D.fn Xp (fun vs H Q E h=>?_) (fun f cdv A outer s H vs Q E hr h=>?_)
 ·obtain⟨a,ms,b,c,d,rfl,_⟩:=h
  rfl
 ·obtain⟨a,ms,turns,bells,late,rfl,hS,hl,b1,b60,bt,l0,lb,tb,hm,q⟩:=h
  refine⟨_,(pss_cons (ps_expr (zr VB (hr.mono (by decide)) (by rfl) (pa_cons (pv 1) (pa_cons (pv 2) pa_nil))))
   (pss_cons (ps_set (i:=4) Xp.nd rfl (Or.inl rfl) (pe_lst pa_nil))
   (pss_cons (ps_for PassesOwn.never rfl (Xf (by rfl) T.z_enumerate (pa_cons (pv 0) pa_nil)) (pg_tup (n:=2) rfl (pgs_cons (pg_name (i:=5) Xp.nd rfl (Or.inl rfl)) (pgs_cons (pg_name (i:=6) Xp.nd rfl (Or.inl rfl)) pgs_nil)))
    (pss_cons (ps_set (i:=7) Xp.nd rfl (Or.inr rfl) (pe_op qj (pv 5) (pe_op zx (pv 1) (pv 3))))
    (pss_one (ps_expr (pe_bm PySem.F.plainAttrs_list PySem.F.slot_list_extend PySem.F.type_list_extend mt_extend (pv 4) (pa_cons (j9 (own:=["turn"]) (fr:=["start"]) (ix:=[7]) rfl ⟨rfl,rfl,rfl,rfl,rfl,rfl⟩ (pi_list (zr zdY (hr.mono (by decide)) (by rfl) (pa_cons (pv 6) (pa_cons (pv 1) (pa_cons (pv 2) (pa_cons (pv 3) pa_nil)))))) (fun _ _ _ _ _=>(pg_name (i:=0) (show (["turn","start"]:List Str).Nodup by decide +kernel) rfl (Or.inl rfl))) (fun _ _ _ _ _=>qZ) (fun _ _ _ _ _=>(pe_op zx (pv 1) (pv 0)))) pa_nil))))))
   (pss_one (ps_ret (pv 4)))))),?_⟩
  refine⟨_,rfl,_,rfl,turns,bells,rfl,b1,bt,(by decide),fun p hp=>?_⟩
  have sb:intBits (turns+late)≤70000:=za (intBits_add_le (m:=60000) (n:=60000) tb (za lb (by decide))) (by decide)
  refine⟨_,rfl,a,ms.map V.int,rfl,(Same.new hp).seq hS,zef (K:=K) (a:=a) (xs:=ms.map V.int) (fun i σ H2=>∃(bss:List (List Int)) (v5 v6 v7:Option V),σ=[some (.ref a),some (.int turns),some (.int bells),some (.int late),some (.ref p),v5,v6,v7]∧Same H H2∧H2 p=some (.lst ((qx (turns+late) late 0 bss).map V.int))∧bss.length=i∧(qx (turns+late) late 0 bss).length≤i*60∧(∀(j:Nat) (bs:List Int) (m:Int),bss[j]?=some bs→ms[j]?=some m→qi bs∧bs.length=bells.toNat∧jH bs=m)∧(∀bs∈bss,Szs 60010 bs))
   ⟨[],none,none,none,rfl,Same.new hp,upd_same,rfl,Nat.zero_le _,(fun j bs m h=>by simp at h),(fun _ z=>nomatch z)⟩ (fun i σ H2 ⟨_,_,_,_,_,sm,_⟩=>sm.seq hS) ?_ ?_⟩
  ·rintro i xv t σ H2 hx ⟨bss,v5,v6,v7,rfl,sm,hT,bl,rl,hb,hz⟩ ht
   have hil:i<ms.length:=by have:=(List.getElem?_eq_some_iff.mp hx).1;rwa [List.length_map] at this
   rw [List.getElem?_map] at hx
   obtain⟨m,hmi,rfl⟩:=Option.map_eq_some_iff.mp hx
   obtain⟨m0,m1,mb⟩:=hm m (List.mem_of_getElem? hmi)
   have s3:Same H (upd H2 t (.tup [.int i,.int m])):=sm.put ht
   have ht3:(upd H2 t (.tup [.int i,.int m])) t=some (.tup [.int i,.int m]):=upd_same
   have hT3:(upd H2 t (.tup [.int i,.int m])) p=some (.lst ((qx (turns+late) late 0 bss).map V.int)):=(Same.new ht) _ _ hT
   generalize upd H2 t (.tup [.int i,.int m])=H3 at s3 ht3 hT3 ⊢
   refine⟨t,_,rfl,SqT.of ht3,rfl,_,_,rfl,_,_,rfl,rfl,?_⟩
   refine⟨_,rfl,_,rfl,_,rfl,_,_,rfl,rfl,_,_,rfl,rfl,⟨64,70000,zK (by omega) (by omega),sb,by decide⟩,?_⟩
   refine⟨_,rfl,.inl ⟨rfl,_,SqL.of hT3⟩,_,rfl,_,rfl,_,rfl,_,rfl,m,turns,bells,late,rfl,m0,m1,by omega,b60,l0,lb,za tb (by decide),mb,fun pw bs H4 s4 hpw hW B hbl hnum sz=>?_⟩
   have bll:(zq late bs).length≤60:=by rw [ql,hbl];omega
   refine⟨pw,rfl,⟨_,SqL.of hW⟩,fun acc hacc=>jA (K:=K) (a:=pw) (xs:=(zq late bs).map V.int) (fun j=>V.int ((i:Int)*(turns+late)+(zq late bs).getD j 0)) (SqL.of hW) hacc (by rw [List.length_map];exact Nat.le_of_lt (small1000 (by omega))) (fun j x H6 R' hx s6 hR=>?_) ?_⟩
   ·rw [List.getElem?_map] at hx
    obtain⟨z,hz',rfl⟩:=Option.map_eq_some_iff.mp hx
    simp only [List.getD_eq_getElem?_getD,hz',Option.getD_some] at hR
    exact⟨rfl,_,rfl,_,rfl,_,_,rfl,rfl,hR⟩
   have eL:(List.range ((zq late bs).map V.int).length).map (fun j=>V.int ((i:Int)*(turns+late)+(zq late bs).getD j 0))=((zq late bs).map (fun x=>(0+(bss.length:Int))*(turns+late)+x)).map V.int:=by
    rw [bl,show (0:Int)+(i:Int)=(i:Int) by omega]
    apply List.ext_getElem
    ·simp
    ·intro j h1 h2
     simp at h1 h2
     simp [List.getD_eq_getElem?_getD,h2]
   rw [eL]
   have s5:Same H3 (upd H4 acc (.lst (((zq late bs).map (fun x=>(0+(bss.length:Int))*(turns+late)+x)).map V.int))):=s4.put hacc
   have h5:(upd H4 acc (.lst (((zq late bs).map (fun x=>(0+(bss.length:Int))*(turns+late)+x)).map V.int))) acc=some (.lst (((zq late bs).map (fun x=>(0+(bss.length:Int))*(turns+late)+x)).map V.int)):=upd_same
   generalize upd H4 acc (.lst (((zq late bs).map (fun x=>(0+(bss.length:Int))*(turns+late)+x)).map V.int))=H5 at s5 h5 ⊢
   refine⟨p,acc,_,_,rfl,rfl,s5 _ _ hT3,h5,?_,?_⟩
   ·rw [List.length_map,List.length_map,List.length_map,sizeLine_eq]
    omega
   refine⟨bss++[bs],_,_,_,rfl,(s3.trans s5).wr hp,?_,by rw [List.length_append,bl];rfl,?_,fun j c mm hj hmj=>?_,fun c hc=>?_⟩
   ·rw [upd_same,← List.map_append,← Jz]
   ·rw [Jz,List.length_append,List.length_map]
    omega
   ·by_cases hji:j<bss.length
    ·rw [List.getElem?_append_left hji] at hj
     exact hb j c mm hj hmj
    ·have hj2:=(List.getElem?_eq_some_iff.mp hj).1
     rw [List.length_append,List.length_singleton] at hj2
     have ej:j=i:=by omega
     subst ej
     rw [List.getElem?_append_right (by omega),bl,Nat.sub_self] at hj
     have:bs=c:=by simpa using hj
     subst this
     rw [hmi] at hmj
     cases hmj
     exact⟨B,hbl,hnum⟩
   ·rcases List.mem_append.mp hc with hc | hc
    ·exact hz c hc
    ·rw [List.mem_singleton.mp hc];exact sz
  ·rintro σ H2 ⟨bss,v5,v6,v7,rfl,sm,hT,bl,rl,hb,hz⟩
   rw [List.length_map] at bl
   exact⟨_,rfl,q p bss H2 sm hp hT bl hb hz⟩
end
section
variable {P:Program}{w:World}{K:PySem.W.Frag}{mg:Str→Option Value}{base:Heap}
structure ByM (L:Int) (rd:List Int) (kvs:List (Key×V)) (ks:List Int) (ad:Int→Addr) (H:Hp):Prop where
 nd:ks.Nodup
 len:kvs.length=ks.length
 val:∀k:Int,valV kvs (Sum.inl k)=if k∈ks then some (.ref (ad k)) else none
 ls:∀k∈ks,H (ad k)=some (.lst ((grp L k rd).map V.int))
 mem:∀k:Int,k∈ks↔grp L k rd≠[]
noncomputable def zhq (K:PySem.W.Frag):Sp:=fun vs H Q _=>∃(a:Addr) (rd:List Int) (turns late:Int),vs=[.ref a,.int turns,.int late]∧SqL K H a (rd.map V.int)∧rd.length≤20000∧0<turns+late∧intBits (turns+late)≤9000 ∧
 ∀(d:Addr) (kvs:List (Key×V)) (ks:List Int) (ad:Int→Addr) (H':Hp),Same H H'→H' d=some (.dK kvs)→ByM (turns+late) rd kvs ks ad H'→Q (.ref d) H'
theorem vG:FnScope ["reading","turns","late","length","heard_of","turn"] ["reading","turns","late"] (defScope jC):=⟨rfl,rfl,rfl,by decide +kernel,rfl,by decide +kernel,by decide +kernel⟩
theorem We (D:Def K mg "by_messages" jC ["reading","turns","late"]) (T:Txt K mg):Fn P w K mg base 1 "by_messages" ["reading","turns","late"] (zhq K):=by
 refine D.fn vG (fun vs H Q E h=>?_) (fun f cdv A outer s H vs Q E hr h=>?_)
 ·obtain⟨a,rd,t,l,rfl,_⟩:=h
  rfl
 ·obtain⟨a,rd,turns,late,rfl,hS,hl,hL,lb,q⟩:=h
  refine⟨_,(pss_cons (ps_set (i:=3) vG.nd rfl (Or.inl rfl) (pe_op zx (pv 1) (pv 2)))
   (pss_cons (ps_set (i:=4) vG.nd rfl (Or.inl rfl) pe_dnewK)
   (pss_cons (ps_for PassesOwn.never rfl (pi_list (pv 0)) (pg_name (i:=5) vG.nd rfl (Or.inl rfl))
    (pss_one (ps_expr (pe_bm PySem.F.plainAttrs_list PySem.F.slot_list_append PySem.F.type_list_append mt_append (zeT (pv 4) (pe_op yr (pv 5) (pv 3)) (pe_lst pa_nil) ⟨rfl,rfl,rfl,rfl⟩) (pa_cons (pe_op qe (pv 5) (pv 3)) pa_nil)))))
   (pss_one (ps_ret (pv 4)))))),?_⟩
  refine⟨_,rfl,_,rfl,_,_,rfl,rfl,fun d hd=>?_⟩
  generalize turns+late=L at hL lb q ⊢
  refine⟨_,rfl,a,rfl,⟨_,(Same.new hd).seq hS⟩,for_list (K:=K) (a:=a) (xs:=rd.map V.int) (fun i σ H2=>∃(kvs:List (Key×V)) (ks:List Int) (ad:Int→Addr) (v5:Option V),σ=[some (.ref a),some (.int turns),some (.int late),some (.int L),some (.ref d),v5]∧Same H H2∧H2 d=some (.dK kvs)∧i≤rd.length∧ks.length≤i∧ByM L (rd.take i) kvs ks ad H2∧(∀k∈ks,ad k≠d∧H (ad k)=none)∧(∀k∈ks,∀k'∈ks,ad k=ad k'→k=k'))
   ⟨[],[],fun _=>d,none,rfl,Same.new hd,upd_same,Nat.zero_le _,Nat.zero_le _,⟨List.nodup_nil,rfl,fun k=>rfl,(fun _ z=>nomatch z),fun k=>⟨(fun z=>nomatch z),(fun z=>absurd rfl z)⟩⟩,(fun _ z=>nomatch z),(fun _ z=>nomatch z)⟩ (fun i σ H2 _ ⟨_,_,_,_,_,sm,_⟩=>sm.seq hS) ?_ ?_⟩
  ·rintro i xv σ H2 hx ⟨kvs,ks,ad,v5,rfl,sm,hD,_,kl,M,fr,inj⟩
   have hil:i<rd.length:=by have:=(List.getElem?_eq_some_iff.mp hx).1;rwa [List.length_map] at this
   rw [List.getElem?_map] at hx
   obtain⟨t,hti,rfl⟩:=Option.map_eq_some_iff.mp hx
   have ert:rd.take (i+1)=rd.take i++[t]:=by rw [List.take_add_one,hti];rfl
   have zlc:kvs.length<sizeLine:=by rw [M.len,sizeLine_eq];omega
   have grl:∀k:Int,(grp L k (rd.take i)).length≤20000:=fun k=>by
    unfold grp
    rw [List.length_map]
    have h1:=List.length_filter_le (fun t=>decide (t / L=k)) (rd.take i)
    rw [List.length_take] at h1
    omega
   refine⟨_,rfl,d,rfl,.inl ⟨kvs,.inl hD⟩,_,rfl,_,rfl,_,_,rfl,rfl,⟨hL,lb⟩,(by decide),fun p hp=>⟨kvs,Sum.inl (t / L),(Same.new hp) _ _ hD,rfl,zlc,fun v hv=>?_,fun hv=>?_⟩⟩
   ·rw [M.val] at hv
    have hk:t / L∈ks:=by
     by_cases z:t / L∈ks
     ·exact z
     ·rw [if_neg z] at hv;cases hv
    rw [if_pos hk] at hv
    cases hv
    have s3:Same H (upd H2 p (.lst [])):=sm.put hp
    have s23:Same H2 (upd H2 p (.lst [])):=Same.new hp
    generalize upd H2 p (.lst [])=H3 at s3 s23 ⊢
    have hA:=s23 _ _ (M.ls _ hk)
    have fk:=fr _ hk
    refine⟨.inl ⟨rfl,_,SqL.of hA⟩,_,rfl,_,rfl,_,_,rfl,rfl,hL,ad (t / L),_,_,rfl,rfl,hA,?_,?_⟩
    ·rw [List.length_map,sizeLine_eq]
     have:=grl (t / L)
     omega
    refine⟨kvs,ks,ad,_,rfl,s3.wr fk.2,by rw [upd_ne fk.1.symm];exact s23 _ _ hD,hil,by omega,⟨M.nd,M.len,M.val,fun k hk'=>?_,fun k=>?_⟩,fr,inj⟩
    ·rw [ert,jJ]
     by_cases e:k=t / L
     ·subst e
      rw [upd_same,yJ rfl,List.map_append]
      rfl
     ·rw [upd_ne (fun z=>e (inj k hk' _ hk z)),yK (fun z=>e z.symm),List.append_nil]
      exact s23 _ _ (M.ls k hk')
    ·rw [ert,jJ,M.mem]
     by_cases e:k=t / L
     ·subst e
      rw [yJ rfl]
      exact⟨fun _ z=>by simp at z,fun _=>(M.mem _).mp hk⟩
     ·rw [yK (fun z=>e z.symm),List.append_nil]
   ·rw [M.val] at hv
    have hk:¬t / L∈ks:=fun z=>by rw [if_pos z] at hv;cases hv
    have pd:p≠d:=fun e=>by subst e;rw [hD] at hp;cases hp
    have pn:H p=none:=sm.free hp
    have hP:(upd (upd H2 p (.lst [])) d (.dK (putK kvs (Sum.inl (t / L)) (.ref p)))) p=some (.lst []):=by rw [upd_ne pd];exact upd_same
    have g0:grp L (t / L) (rd.take i)=[]:=by
     by_cases z:grp L (t / L) (rd.take i)=[]
     ·exact z
     ·exact absurd ((M.mem _).mpr z) hk
    refine⟨.inl ⟨rfl,_,SqL.of hP⟩,_,rfl,_,rfl,_,_,rfl,rfl,hL,p,_,_,rfl,rfl,hP,(by decide),?_⟩
    have s4:Same H (upd (upd H2 p (.lst [])) d (.dK (putK kvs (Sum.inl (t / L)) (.ref p)))):=(sm.put hp).wr hd
    have h4d:(upd (upd H2 p (.lst [])) d (.dK (putK kvs (Sum.inl (t / L)) (.ref p)))) d=some (.dK (putK kvs (Sum.inl (t / L)) (.ref p))):=upd_same
    have h4o:∀k∈ks,(upd (upd H2 p (.lst [])) d (.dK (putK kvs (Sum.inl (t / L)) (.ref p)))) (ad k)=some (.lst ((grp L k (rd.take i)).map V.int)):=fun k hk'=>by
     rw [upd_ne (fr k hk').1]
     exact(Same.new hp) _ _ (M.ls k hk')
    have adp:∀k∈ks,ad k≠p:=fun k hk' e=>by
     have:=M.ls k hk'
     rw [e,hp] at this
     cases this
    generalize upd (upd H2 p (.lst [])) d (.dK (putK kvs (Sum.inl (t / L)) (.ref p)))=H4 at s4 h4d h4o ⊢
    have hv0:valV kvs (Sum.inl (t / L))=none:=by rw [M.val,if_neg hk]
    refine⟨putK kvs (Sum.inl (t / L)) (.ref p),ks++[t / L],fun k=>if k=t / L then p else ad k,_,rfl,s4.wr pn,by rw [upd_ne pd.symm];exact h4d,hil,by rw [List.length_append,List.length_singleton];omega,⟨?_,?_,fun k=>?_,fun k hk'=>?_,fun k=>?_⟩,fun k hk'=>?_,fun k hk1 k' hk2 e=>?_⟩
    ·rw [List.nodup_append]
     refine⟨M.nd,by simp,fun a ha b hb=>?_⟩
     rw [List.mem_singleton.mp hb]
     exact fun e=>hk (e ▸ ha)
    ·rw [putK_new _ hv0,List.length_append,List.length_append,M.len]
     rfl
    ·rw [valV_put]
     by_cases e:k=t / L
     ·subst e
      rw [if_pos rfl,if_pos (by simp)]
      simp
     ·rw [if_neg (fun z=>e (Sum.inl.inj z)),M.val]
      by_cases z:k∈ks
      ·rw [if_pos z,if_pos (List.mem_append_left _ z),if_neg e]
      ·rw [if_neg z,if_neg (by intro y;rcases List.mem_append.mp y with y | y;exact z y;exact e (List.mem_singleton.mp y))]
    ·rw [ert,jJ]
     by_cases e:k=t / L
     ·subst e
      rw [if_pos rfl,upd_same,g0,yJ rfl]
      rfl
     ·have hk2:k∈ks:=by
       rcases List.mem_append.mp hk' with y | y
       ·exact y
       ·exact absurd (List.mem_singleton.mp y) e
      rw [if_neg e,upd_ne (adp k hk2),yK (fun z=>e z.symm),List.append_nil]
      exact h4o k hk2
    ·rw [ert,jJ]
     by_cases e:k=t / L
     ·subst e
      rw [yJ rfl]
      exact⟨fun _ z=>by simp at z,fun _=>by simp⟩
     ·rw [yK (fun z=>e z.symm),List.append_nil,← M.mem]
      exact⟨(fun y=>by rcases List.mem_append.mp y with y | y;exact y;exact absurd (List.mem_singleton.mp y) e),(fun y=>List.mem_append_left _ y)⟩
    ·show (if k=t / L then p else ad k)≠d∧H (if k=t / L then p else ad k)=none
     by_cases e:k=t / L
     ·rw [if_pos e];exact⟨pd,pn⟩
     ·rw [if_neg e]
      rcases List.mem_append.mp hk' with y | y
      ·exact fr k y
      ·exact absurd (List.mem_singleton.mp y) e
    ·have e:(if k=t / L then p else ad k)=(if k'=t / L then p else ad k'):=e
     have m1:k≠t / L→k∈ks:=fun z=>by
      rcases List.mem_append.mp hk1 with y | y
      ·exact y
      ·exact absurd (List.mem_singleton.mp y) z
     have m2:k'≠t / L→k'∈ks:=fun z=>by
      rcases List.mem_append.mp hk2 with y | y
      ·exact y
      ·exact absurd (List.mem_singleton.mp y) z
     by_cases e1:k=t / L
     ·by_cases e2:k'=t / L
      ·rw [e1,e2]
      ·rw [if_pos e1,if_neg e2] at e
       exact absurd e.symm (adp k' (m2 e2))
     ·by_cases e2:k'=t / L
      ·rw [if_neg e1,if_pos e2] at e
       exact absurd e (adp k (m1 e1))
      ·rw [if_neg e1,if_neg e2] at e
       exact inj k (m1 e1) k' (m2 e2) e
  ·rintro σ H2 ⟨kvs,ks,ad,v5,rfl,sm,hD,_,kl,M,fr,inj⟩
   rw [List.length_map,List.take_length] at M
   exact⟨_,rfl,q d kvs ks ad H2 sm hD M⟩
end
noncomputable def val (b:Int):List Int→Int
 | []=>0
 | x::xs=>x+b*val b xs
theorem JB (b x:Int):∀xs:List Int,val b (xs++[x])=val b xs+x*b ^ xs.length
 | []=>by show x+b*0=0+x*b ^ 0;rw [Int.mul_zero,Int.pow_zero,Int.mul_one];omega
 | y::ys=>by
  show y+b*val b (ys++[x])=y+b*val b ys+x*b ^ (ys.length+1)
  rw [JB b x ys,Int.mul_add,Int.pow_succ,Int.mul_left_comm b x,Int.mul_comm b (b ^ ys.length),← Int.add_assoc]
theorem Z5 {b:Int} (hb:0≤b):∀xs:List Int,(∀x∈xs,0≤x)→0≤val b xs
 | [],_=>Int.le_refl _
 | x::xs,h=>by
  have h1:=h x (List.mem_cons_self ..)
  have h2:=Z5 hb xs fun y hy=>h y (List.mem_cons_of_mem _ hy)
  have h3:=Int.mul_nonneg hb h2
  show 0≤x+b*val b xs
  omega
section
variable {P:Program}{w:World}{K:PySem.W.Frag}{mg:Str→Option Value}{base:Heap}
noncomputable def zdq:Sp:=fun vs H Q _=>∃n b:Int,vs=[.int n,.int b]∧0≤n∧2≤b∧n<2 ^ 8000∧intBits b≤8000 ∧
 ∀(p:Addr) (ys:List Int) (H':Hp),Same H H'→H p=none→H' p=some (.lst (ys.map V.int))→(∀y∈ys,0≤y∧y<b)→(∀y,ys.getLast?=some y→y≠0)→val b ys=n→ys.length≤8000→Q (.ref p) H'
theorem Xq:FnScope ["number","base","figures","left"] ["number","base"] (defScope Qs):=⟨rfl,rfl,rfl,by decide +kernel,rfl,by decide +kernel,by decide +kernel⟩
theorem zeV (D:Def K mg "parts" Qs ["number","base"]) (T:Txt K mg):Fn P w K mg base 1 "parts" ["number","base"] zdq:=by
 refine D.fn Xq (fun vs H Q E h=>?_) (fun f cdv A outer s H vs Q E hr h=>?_)
 ·obtain⟨a,b,rfl,_⟩:=h
  rfl
 ·obtain⟨n,b,rfl,n0,b2,nb,bb,q⟩:=h
  refine⟨_,(pss_cons (ps_set (i:=2) Xq.nd rfl (Or.inl rfl) (pe_lst pa_nil))
   (pss_cons (ps_set (i:=3) Xq.nd rfl (Or.inl rfl) (pv 0))
   (pss_cons (ps_while PassesOwn.never (pt_cmpR vP (pv 3) pe_int (nomark _))
    (pss_cons (ps_expr (pe_bm PySem.F.plainAttrs_list PySem.F.slot_list_append PySem.F.type_list_append mt_append (pv 2) (pa_cons (pe_op qe (pv 3) (pv 1)) pa_nil)))
    (pss_one (ps_set (i:=3) Xq.nd rfl (Or.inl rfl) (pe_op yr (pv 3) (pv 1))))))
   (pss_one (ps_ret (pv 2)))))),?_⟩
  refine⟨(by decide),fun p hp=>⟨_,rfl,?_⟩⟩
  refine while_by (fun σ H2=>∃(ys:List Int) (left:Int) (k:Nat),σ=[some (.int n),some (.int b),some (.ref p),some (.int left)]∧Same H H2∧H2 p=some (.lst (ys.map V.int))∧0≤left∧left<2 ^ k∧ys.length+k=8000∧(∀y∈ys,0≤y∧y<b)∧(left=0→∀y,ys.getLast?=some y→y≠0)∧val b ys+left*b ^ ys.length=n)
   (fun σ _=>match σ with | [_,_,_,some (.int t)]=>t.toNat | _=>0) ⟨[],n,8000,rfl,Same.new hp,upd_same,n0,nb,rfl,(fun _ z=>nomatch z),(fun _ _ z=>nomatch z),?_⟩ ?_ ?_
  ·show 0+n*b ^ 0=n
   rw [Int.pow_zero];omega
  ·rintro σ H2 ⟨ys,left,k,rfl,sm,hH,l0,lk,yk,yb,yl,yv⟩
   refine⟨_,rfl,_,_,rfl,rfl,_,rfl,ifD (fun h=>?_) (fun h=>?_)⟩
   ·have r0:0≤left % b:=Int.emod_nonneg _ (by omega)
    have r1:left % b<b:=Int.emod_lt_of_pos _ (by omega)
    have d0:0≤left / b:=Int.ediv_nonneg l0 (by omega)
    have dm:=Int.mul_ediv_add_emod left b
    have k1:k≠0:=fun z=>by subst z;rw [Int.pow_zero] at lk;omega
    obtain⟨k',rfl⟩:∃k',k=k'+1:=⟨k-1,by omega⟩
    have d1:left / b<2 ^ k':=by
     have h2:2*(left / b)≤b*(left / b):=Int.mul_le_mul_of_nonneg_right b2 d0
     rw [Int.pow_succ] at lk
     omega
    have dl:left / b<left:=by
     have h2:2*(left / b)≤b*(left / b):=Int.mul_le_mul_of_nonneg_right b2 d0
     omega
    refine⟨_,rfl,.inl ⟨rfl,_,SqL.of hH⟩,_,rfl,_,rfl,_,_,rfl,rfl,by omega,_,_,_,rfl,rfl,hH,?_,?_⟩
    ·rw [List.length_map,sizeLine_eq];omega
    refine⟨_,rfl,_,rfl,_,_,rfl,rfl,⟨by omega,za bb (by decide)⟩,⟨ys++[left % b],left / b,k',rfl,sm.wr hp,by rw [upd_same,List.map_append];rfl,d0,d1,by rw [List.length_append];simp;omega,fun y hy=>?_,fun z y hy=>?_,?_⟩,?_⟩
    ·rcases List.mem_append.mp hy with hy | hy
     ·exact yb y hy
     ·rw [List.mem_singleton.mp hy];exact⟨r0,r1⟩
    ·rw [List.getLast?_concat] at hy
     cases hy
     rw [z,Int.mul_zero] at dm
     omega
    ·rw [JB,List.length_append,Int.add_assoc]
     show val b ys+(left % b*b ^ ys.length+left / b*b ^ (ys.length+1))=n
     rw [Int.pow_succ,Int.mul_comm (b ^ ys.length) b,← Int.mul_assoc,← Int.add_mul,show left % b+left / b*b=left by rw [Int.mul_comm (left / b)];omega]
     exact yv
    ·show (left / b).toNat<left.toNat
     omega
   ·have e:left=0:=by omega
    subst e
    rw [Int.zero_mul,Int.add_zero] at yv
    exact⟨_,rfl,q p ys H2 sm hp hH yb (yl rfl) yv (by omega)⟩
  ·intro σ H2 R R' m h
   obtain⟨v,e1,i,j,e3,e4,b,e5,z⟩:=h
   exact⟨v,e1,i,j,e3,e4,b,e5,m _ _ z⟩
end
noncomputable def pairs (W:Int):List Int→List Int
 | a::b::r=>(a+b*W)::pairs W r
 | [a]=>[a]
 | []=>[]
theorem zan (W:Int):∀xs:List Int,val (W*W) (pairs W xs)=val W xs
 | []=>rfl
 | [a]=>by show a+W*W*0=a+W*0;rw [Int.mul_zero,Int.mul_zero]
 | a::b::r=>by
  show a+b*W+W*W*val (W*W) (pairs W r)=a+W*(b+W*val W r)
  rw [zan W r,Int.mul_add,Int.mul_assoc,Int.mul_comm b W]
  omega
theorem Qz (W:Int):∀(n:Nat) (xs:List Int),xs.length=2*n→(List.range n).map (fun i=>V.int (xs.getD (2*i) 0+xs.getD (2*i+1) 0*W))=(pairs W xs).map V.int
 | 0,xs,h=>by
  have:xs=[]:=List.eq_nil_of_length_eq_zero (by omega)
  subst this
  rfl
 | n+1,xs,h=>by
  match xs,h with
  | a::b::r,h=>
   have ih:=Qz W n r (by simp at h;omega)
   rw [List.range_succ_eq_map,List.map_cons,List.map_map]
   show V.int (a+b*W)::_=V.int (a+b*W)::(pairs W r).map V.int
   rw [← ih]
   congr 1
theorem pairs_len (W:Int):∀(n:Nat) (xs:List Int),xs.length=2*n→(pairs W xs).length=n
 | n,xs,h=>by
  have:=congrArg List.length (Qz W n xs h)
  rw [List.length_map,List.length_range,List.length_map] at this
  exact this.symm
theorem zb7 {W:Int} (hW:1≤W):∀xs:List Int,(∀x∈xs,0≤x∧x<W)→∀x∈pairs W xs,0≤x∧x<W*W
 | [],_,x,hx=>nomatch hx
 | [a],h,x,hx=>by
  have e:x=a:=List.mem_singleton.mp hx
  subst e
  have h1:=h x (List.mem_cons_self ..)
  have h2:W*1≤W*W:=Int.mul_le_mul_of_nonneg_left hW (by omega)
  rw [Int.mul_one] at h2
  exact⟨h1.1,by omega⟩
 | a::b::r,h,x,hx=>by
  have h1:=h a (List.mem_cons_self ..)
  have h2:=h b (List.mem_cons_of_mem _ (List.mem_cons_self ..))
  rcases List.mem_cons.mp hx with e | hx
  ·subst e
   have h3:b*W≤(W-1)*W:=Int.mul_le_mul_of_nonneg_right (by omega) (by omega)
   have h4:0≤b*W:=Int.mul_nonneg h2.1 (by omega)
   rw [Int.sub_mul,Int.one_mul] at h3
   exact⟨by omega,by omega⟩
  ·exact zb7 hW r (fun y hy=>h y (List.mem_cons_of_mem _ (List.mem_cons_of_mem _ hy))) x hx
theorem zfJ (b:Int) (xs:List Int):val b (xs++[0])=val b xs:=by
 rw [JB,Int.zero_mul,Int.add_zero]
theorem zeW {b:Int}{xs:List Int} (h:xs.length≤1):xs.sum=val b xs:=by
 match xs,h with
 | [],_=>rfl
 | [a],_=>show a+0=a+b*0;rw [Int.mul_zero]
theorem zfK {n:Nat} (h:n≤100000):(2:Int)≠0∧(2:Int).natAbs<1073741824∧Builtin.Range.small 0 ((2*n:Nat):Int) 2=true∧Builtin.Range.rangeSize 0 ((2*n:Nat):Int) 2=(n:Int):=by
 have hs:Builtin.Range.rangeSize 0 ((2*n:Nat):Int) 2=(n:Int):=by
  unfold Builtin.Range.rangeSize
  rw [if_pos (by decide)]
  by_cases z:n=0
  ·subst z;rfl
  ·rw [if_pos (by omega)]
   omega
 refine⟨by decide,by decide,?_,hs⟩
 unfold Builtin.Range.small
 rw [hs]
 generalize hm:((2*n:Nat):Int)=m
 have m1:m≤200000:=by omega
 have m0:0≤m:=by omega
 simp only [Builtin.Range.rangeFitsLong]
 simp
 omega
theorem za6 {lo c:Int}{n:Nat}{acc:Addr}{own:Nat}{ix:List Nat}{g:TG}{te:TE}{σ:St}{H1:Hp}{Q:VK} (f:Nat→V) (hn:H1 acc=none) (hz:n≤sizeLine)
  (step:∀i H (R:VK),i<n→Same H1 H→R (f i) H→g (.int (lo+i*c)) (jy own ix σ) H fun σ4 H4=>σ4.drop own=ix.map (fun i=>(σ[i]?).getD none)∧te σ4 H4 R)
  (hd:Q (.ref acc) (upd H1 acc (.lst ((List.range n).map f)))) :
  Jm (zdG lo c n) own ix g ZV te σ H1 acc Q:=by
 refine⟨fun i m ys H=>m=n-i∧i≤n∧ys=(List.range i).map f∧H=upd H1 acc (.lst ys),⟨n,by simp,Nat.zero_le _,rfl,rfl⟩,?_⟩
 rintro i m ys H ⟨rfl,hi,rfl,rfl⟩
 refine⟨upd_same,?_⟩
 by_cases hlt:i<n
 ·refine .inr ⟨hlt,by rw [List.length_map,List.length_range];omega,fun x H3 y=>?_⟩
  obtain⟨e,y⟩:=y
  subst e y
  exact step i _ _ hlt (Same.new hn) ⟨upd_same,n-(i+1),by omega,rfl,hlt,by rw [List.range_succ,List.map_append];rfl,by rw [upd_upd]⟩
 ·have e:i=n:=by omega
  subst e
  exact .inl ⟨Nat.le_refl _,hd⟩
section
variable {P:Program}{w:World}{K:PySem.W.Frag}{mg:Str→Option Value}{base:Heap}
noncomputable def zhr (K:PySem.W.Frag):Sp:=fun vs H Q _=>∃(a:Addr) (xs:List Int) (b:Int),vs=[.ref a,.int b]∧SqL K H a (xs.map V.int)∧xs.length≤8000∧2≤b∧intBits b≤8000∧(∀x∈xs,0≤x∧x<b)∧∀H',Same H H'→Q (.int (val b xs)) H'
theorem qM:FnScope ["figures","base","left","weight"] ["figures","base"] (defScope qH):=⟨rfl,rfl,rfl,by decide +kernel,rfl,by decide +kernel,by decide +kernel⟩
theorem JC (D:Def K mg "number_of_parts" qH ["figures","base"]) (T:Txt K mg):Fn P w K mg base 1 "number_of_parts" ["figures","base"] (zhr K):=by
 refine D.fn qM (fun vs H Q E h=>?_) (fun f cdv A outer s H vs Q E hr h=>?_)
 ·obtain⟨a,xs,b,rfl,_⟩:=h
  rfl
 ·obtain⟨a,xs,b,rfl,hS,hl,b2,bb,xb,q⟩:=h
  refine⟨_,(pss_cons (ps_set (i:=2) qM.nd rfl (Or.inr rfl) (pe_callTy call_list_of (by rfl) T.z_list zgi (pa_cons (pv 0) pa_nil)))
   (pss_cons (ps_set (i:=3) qM.nd rfl (Or.inr rfl) (pv 1))
   (pss_cons (ps_while PassesOwn.never (pt_cmpR vP (pe_callB call_len_seq (by rfl) T.z_len xQ (pa_cons (pv 2) pa_nil)) pe_int (nomark _))
    (pss_cons (ps_if (pt_cmpR xP (pe_op qe (pe_callB call_len_seq (by rfl) T.z_len xQ (pa_cons (pv 2) pa_nil)) pe_int) pe_int (nomark _))
     (pss_one (ps_expr (pe_bm PySem.F.plainAttrs_list PySem.F.slot_list_append PySem.F.type_list_append mt_append (pv 2) (pa_cons pe_int pa_nil))))
     pss_nil)
    (pss_cons (ps_set (i:=2) qM.nd rfl (Or.inr rfl) (j9 (own:=["place"]) (fr:=["left","weight"]) (ix:=[2,3]) rfl ⟨rfl,rfl,rfl,rfl,rfl,rfl⟩ (Y5 (by rfl) T.z_range (pa_cons pe_int (pa_cons (pe_callB call_len_seq (by rfl) T.z_len xQ (pa_cons (pv 2) pa_nil)) (pa_cons pe_int pa_nil)))) (fun _ _ _ _ _=>(pg_name (i:=0) (show (["place","left","weight"]:List Str).Nodup by decide +kernel) rfl (Or.inl rfl))) (fun _ _ _ _ _=>qZ) (fun _ _ _ _ _=>(pe_op zx (pe_ix (Kf K) (pv 1) (pv 0) (fun _ _=>rfl)) (pe_op qj (pe_ix (Kf K) (pv 1) (pe_op zx (pv 0) pe_int) (fun _ _=>rfl)) (pv 2))))))
    (pss_one (ps_set (i:=3) qM.nd rfl (Or.inr rfl) (pe_op qj (pv 3) (pv 3)))))))
   (pss_one (ps_ret (pe_callB (zbp rfl) (by rfl) T.z_sum zf6 (pa_cons (pv 2) pa_nil))))))),?_⟩
  refine⟨_,rfl,_,_,rfl,.inl hS,fun p0 hp0=>⟨_,rfl,?_⟩⟩
  refine while_by (fun σ H2=>∃(p:Addr) (ys:List Int) (W:Int) (k:Nat),σ=[some (.ref a),some (.int b),some (.ref p),some (.int W)]∧Same H H2∧H p=none∧H2 p=some (.lst (ys.map V.int))∧2≤W∧intBits W≤8000*k∧k*(ys.length-1)<xs.length+1∧ys.length≤8000∧(∀y∈ys,0≤y∧y<W)∧val W ys=val b xs)
   (fun σ H2=>match σ with | [_,_,some (.ref p),_]=>(match H2 p with | some (.lst l)=>l.length | _=>0) | _=>0) ⟨p0,xs,b,1,rfl,Same.new hp0,hp0,upd_same,b2,by omega,by omega,hl,xb,rfl⟩ ?_ ?_
  ·rintro σ H2 ⟨p,ys,W,k,rfl,sm,hp,hH,W2,Wb,kb,yl,yb,yv⟩
   refine⟨_,rfl,_,_,rfl,.inl (SqL.of hH),_,_,rfl,rfl,_,rfl,?_⟩
   rw [List.length_map]
   refine ifD (fun h=>?_) (fun h=>?_)
   ·have kk:k≤8000:=by
     have h1:k*1≤k*(ys.length-1):=Nat.mul_le_mul_left _ (by omega)
     omega
    refine⟨_,rfl,_,_,rfl,.inl (SqL.of hH),_,_,rfl,rfl,(by decide),_,_,rfl,rfl,_,rfl,?_⟩
    rw [List.length_map]
    refine ifD (fun o=>?x1) (fun o=>?x2)
    case' x1=>
     refine⟨_,rfl,.inl ⟨rfl,_,SqL.of hH⟩,_,_,_,rfl,rfl,hH,by rw [List.length_map,sizeLine_eq];omega,?_⟩
     have sm3:Same H (upd H2 p (.lst (ys.map V.int++[V.int 0]))):=sm.wr hp
     obtain⟨zs,hzs⟩:∃zs,zs=ys++[(0:Int)]:=⟨_,rfl⟩
     have hH3:(upd H2 p (.lst (ys.map V.int++[V.int 0]))) p=some (.lst (zs.map V.int)):=by rw [upd_same,hzs,List.map_append];rfl
     obtain⟨n,hn⟩:∃n,n=(ys.length+1) / 2:=⟨_,rfl⟩
     have zl:zs.length=ys.length+1:=by rw [hzs,List.length_append];rfl
     have zn:zs.length=2*n:=by omega
     have n1:n<ys.length:=by omega
     have n2:2*(n-1)≤ys.length-1:=by omega
     have zb:∀y∈zs,0≤y∧y<W:=fun y hy=>by
      rw [hzs] at hy
      rcases List.mem_append.mp hy with hy | hy
      ·exact yb y hy
      ·rw [List.mem_singleton.mp hy];omega
     have zv:val W zs=val b xs:=by rw [hzs,zfJ];exact yv
     generalize upd H2 p (.lst (ys.map V.int++[V.int 0]))=H3 at sm3 hH3 ⊢
    case' x2=>
     generalize hH30:H2=H3 at sm hH ⊢
     obtain⟨zs,hzs⟩:∃zs,zs=ys:=⟨_,rfl⟩
     have sm3:Same H H3:=sm
     have hH3:H3 p=some (.lst (zs.map V.int)):=by rw [hzs];exact hH
     obtain⟨n,hn⟩:∃n,n=ys.length / 2:=⟨_,rfl⟩
     have zn:zs.length=2*n:=by rw [hzs];omega
     have n1:n<ys.length:=by omega
     have n2:2*(n-1)≤ys.length-1:=by omega
     have zb:∀y∈zs,0≤y∧y<W:=by rw [hzs];exact yb
     have zv:val W zs=val b xs:=by rw [hzs];exact yv
    all_goals
     refine⟨_,rfl,_,_,rfl,.inl (SqL.of hH3),?_⟩
     rw [List.length_map,zn]
     refine⟨0,_,2,n,rfl,zfK (by omega),fun pl hpl=>za6 (lo:=0) (c:=2) (n:=n) (fun i=>V.int (zs.getD (2*i) 0+zs.getD (2*i+1) 0*W)) hpl ?_ ?_ ?_⟩
     ·rw [sizeLine_eq];omega
     ·intro i H6 R' hi s6 hR
      have hi1:2*i<zs.length:=by omega
      have hi2:2*i+1<zs.length:=by omega
      have e0:(0:Int)+(i:Int)*2=((2*i:Nat):Int):=by omega
      rw [e0]
      have g1:=Ky (ns:=zs) (k:=2*i) (List.getElem?_eq_getElem hi1)
      have g2:atI (zs.map V.int) (((2*i:Nat):Int)+1)=some (V.int zs[2*i+1]):=Ky (ns:=zs) (k:=2*i+1) (List.getElem?_eq_getElem hi2)
      have x2:=zb _ (List.getElem_mem hi2)
      refine⟨rfl,_,rfl,_,rfl,_,_,_,_,rfl,rfl,SqL.of (s6 _ _ hH3),g1,_,rfl,_,rfl,_,_,rfl,rfl,_,_,_,_,rfl,rfl,SqL.of (s6 _ _ hH3),g2,_,rfl,_,_,rfl,rfl,⟨8000*k,8000*k,intBits_le_of_natAbs (y:=W) (by omega) Wb,Wb,by omega⟩,_,_,rfl,rfl,?_⟩
      simp only [List.getD_eq_getElem?_getD,List.getElem?_eq_getElem hi1,List.getElem?_eq_getElem hi2,Option.getD_some] at hR
      exact hR
     ·rw [Qz W n zs zn]
      have pl':=pairs_len W n zs zn
      have W4:W*2≤W*W:=Int.mul_le_mul_of_nonneg_left W2 (by omega)
      refine⟨_,rfl,_,rfl,_,_,rfl,rfl,⟨8000*k,8000*k,Wb,Wb,by omega⟩,⟨pl,pairs W zs,W*W,2*k,rfl,sm3.put hpl,sm3.free hpl,upd_same,by omega,za (intBits_mul_le Wb Wb) (by omega),?_,by omega,zb7 (by omega) zs zb,by rw [zan];exact zv⟩,?_⟩
      ·rw [pl',Nat.mul_comm 2 k,Nat.mul_assoc]
       exact Nat.lt_of_le_of_lt (Nat.mul_le_mul_left _ n2) kb
      ·simp only [List.set,upd_same,hH,List.length_map]
       omega
   ·have y1:ys.length≤1:=by omega
    refine⟨_,rfl,_,ys,rfl,SqL.of hH,?_⟩
    rw [zeW (b:=W) y1,yv]
    exact q _ sm
  ·intro σ H2 R R' m h
   obtain⟨v,e1,p,l,e2,e3,i,j,e4,e5,c,e6,z⟩:=h
   exact⟨v,e1,p,l,e2,e3,i,j,e4,e5,c,e6,m _ _ z⟩
end
noncomputable def sg:List Nat:=[97,98,99,100,101,102,103,104,105,106,107,108,109,110,111,112,113,114,115,116,117,118,119,120,121,122,32]
noncomputable def SG:Str:="abcdefghijklmnopqrstuvwxyz "
noncomputable def dig (c:Nat):Int:=(sg.idxOf c:Nat)+1
theorem zcQ:SG.cps.toList=sg:=by decide +kernel
theorem zfL:∀c∈sg,Txt.find SG ⟨#[c]⟩=dig c-1:=by decide +kernel
theorem za7:∀c∈sg,1≤dig c∧dig c≤27:=by decide +kernel
theorem zeX:∀k:Fin 27,dig (sg.getD k.val 0)=(k.val:Int)+1∧sg.getD k.val 0∈sg:=by decide +kernel
theorem zgH:∀c∈sg,sg.getD (dig c-1).toNat 0=c:=by decide +kernel
noncomputable def nv (l:List Nat):Int:=val 27 (l.reverse.map dig)
theorem zfM (l:List Nat) (c:Nat):nv (l++[c])=nv l*27+dig c:=by
 unfold nv
 rw [List.reverse_append,List.reverse_singleton,List.singleton_append,List.map_cons]
 show dig c+27*_=_
 omega
noncomputable def chs (n:Nat):List Nat:=if h:n=0 then [] else sg.getD ((n-1) % 27) 0::chs ((n-1) / 27)
termination_by n
decreasing_by omega
theorem Xr:chs 0=[]:=by rw [chs];rfl
theorem V9 {n:Nat} (h:0<n):chs n=sg.getD ((n-1) % 27) 0::chs ((n-1) / 27):=by rw [chs,dif_neg (by omega)]
theorem zfN:∀n:Nat,val 27 ((chs n).map dig)=n:=by
 intro n
 induction n using Nat.strongRecOn with
 | ind n ih=>
  by_cases h:n=0
  ·subst h;rw [Xr];rfl
  ·rw [V9 (by omega),List.map_cons]
   show dig _+27*val 27 _=_
   rw [ih ((n-1) / 27) (by omega),(zeX ⟨(n-1) % 27,Nat.mod_lt _ (by decide)⟩).1]
   show ((n-1) % 27:Nat)+(1:Int)+27*((n-1) / 27:Nat)=n
   omega
theorem zgI:∀n:Nat,∀c∈chs n,c∈sg:=by
 intro n
 induction n using Nat.strongRecOn with
 | ind n ih=>
  by_cases h:n=0
  ·subst h;rw [Xr];intro c hc;cases hc
  ·rw [V9 (by omega)]
   intro c hc
   rcases List.mem_cons.mp hc with e | e
   ·subst e;exact(zeX ⟨(n-1) % 27,Nat.mod_lt _ (by decide)⟩).2
   ·exact ih ((n-1) / 27) (by omega) c e
theorem yf:∀l:List Nat,(∀c∈l,c∈sg)→0≤val 27 (l.map dig):=fun l h=>Z5 (by decide) _ fun x hx=>by
 obtain⟨c,hc,rfl⟩:=List.mem_map.mp hx
 have:=za7 c (h c hc)
 omega
theorem zdr:∀l:List Nat,(∀c∈l,c∈sg)→chs (val 27 (l.map dig)).toNat=l
 | [],_=>Xr
 | c::l,h=>by
  have h1:=h c (List.mem_cons_self ..)
  have h2:=fun y hy=>h y (List.mem_cons_of_mem c hy)
  have b:=za7 c h1
  have z:=yf l h2
  have ih:=zdr l h2
  rw [List.map_cons]
  show chs (dig c+27*val 27 (l.map dig)).toNat=_
  rw [V9 (by omega)]
  have e1:((dig c+27*val 27 (l.map dig)).toNat-1) % 27=(dig c-1).toNat:=by omega
  have e2:((dig c+27*val 27 (l.map dig)).toNat-1) / 27=(val 27 (l.map dig)).toNat:=by omega
  rw [e1,e2,ih,zgH c h1]
noncomputable def ones (m:Nat):Int:=val 27 (List.replicate m 1)
noncomputable def tops (m:Nat):Int:=val 27 (List.replicate m 27)
theorem X8 (m:Nat):ones (m+1)=1+27*ones m:=rfl
theorem Va (m:Nat):tops (m+1)=27+27*tops m:=rfl
theorem Vv:∀m,0≤ones m
 | 0=>Int.le_refl _
 | m+1=>by have:=Vv m;rw [X8];omega
theorem Vw:∀m,0≤tops m
 | 0=>Int.le_refl _
 | m+1=>by have:=Vw m;rw [Va];omega
theorem zdZ {a b:Nat} (h:a≤b):ones a≤ones b:=by
 induction b with
 | zero=>
      have:a=0:=by omega
      subst this;exact Int.le_refl _
 | succ b ih=>
  by_cases e:a=b+1
  ·subst e;exact Int.le_refl _
  ·have:=ih (by omega)
   have:=Vv b
   rw [X8]
   omega
theorem Vb {a b:Nat} (h:a≤b):tops a≤tops b:=by
 induction b with
 | zero=>
      have:a=0:=by omega
      subst this;exact Int.le_refl _
 | succ b ih=>
  by_cases e:a=b+1
  ·subst e;exact Int.le_refl _
  ·have:=ih (by omega)
   have:=Vw b
   rw [Va]
   omega
theorem QB:∀l:List Nat,(∀c∈l,c∈sg)→ones l.length≤val 27 (l.map dig)∧val 27 (l.map dig)≤tops l.length
 | [],_=>⟨Int.le_refl _,Int.le_refl _⟩
 | c::l,h=>by
  have b:=za7 c (h c (List.mem_cons_self ..))
  have ih:=QB l fun y hy=>h y (List.mem_cons_of_mem c hy)
  rw [List.length_cons,X8,Va,List.map_cons]
  show _≤dig c+27*val 27 (l.map dig)∧dig c+27*val 27 (l.map dig)≤_
  omega
noncomputable def QC:Int:=79107246047630484352339332632946929510056524533256550444155472119763181086995847174200
theorem zeY:tops 60=QC:=by decide +kernel
theorem zcR:ones 61=QC+1:=by decide +kernel
theorem zds {n:Nat} (h:(n:Int)≤QC):(chs n).length≤60:=by
 have h1:=(QB (chs n) (zgI n)).1
 rw [zfN] at h1
 by_cases e:(chs n).length≤60
 ·exact e
 ·have:=zdZ (show 61≤(chs n).length by omega)
  rw [zcR] at this
  omega
theorem zge {l:List Nat} (h:∀c∈l,c∈sg) (hl:l.length≤60):0≤nv l∧nv l≤QC:=by
 have hr:∀c∈l.reverse,c∈sg:=fun c hc=>h c (List.mem_reverse.mp hc)
 have h1:=QB l.reverse hr
 have h2:=Vb (show l.reverse.length≤60 by rw [List.length_reverse];exact hl)
 rw [zeY] at h2
 have h3:=yf l.reverse hr
 unfold nv
 omega
theorem zfO {l:List Nat} (h:∀c∈l,c∈sg) (hl:l.length≤60):intBits (nv l)≤300:=by
 have:=zge h hl
 have e:QC<2 ^ 300:=by decide +kernel
 exact zK this.1 (by omega)
theorem zgJ {l:List Nat} (h:∀c∈l,c∈sg):(chs (nv l).toNat).reverse=l:=by
 unfold nv
 rw [zdr l.reverse (fun c hc=>h c (List.mem_reverse.mp hc)),List.reverse_reverse]
noncomputable def tx (l:List Nat):Str:=⟨l.toArray⟩
theorem Vc (l:List Nat):(tx l).cps.toList=l:=by simp [tx]
theorem zgK (l:List Nat):(tx l).length=l.length:=by simp [tx,Str.length]
noncomputable def Vd (c:Nat):Str:=⟨#[c]⟩
theorem zao:∀(l:List Nat) (a:Array Nat),(l.map Vd).foldl (fun(acc:Array Nat) (p:Str)=>acc++("":Str).cps++p.cps) a=a++l.toArray
 | [],a=>by simp
 | c::l,a=>by
  rw [List.map_cons,List.foldl_cons,zao l]
  have:("":Str).cps=#[]:=by decide +kernel
  rw [this]
  apply Array.ext'
  simp [Vd]
theorem join_ones (l:List Nat):Txt.join "" (l.map Vd)=tx l:=by
 unfold Txt.join Builtin.Str.glued tx
 cases l with
 | nil=>simp [Str.empty]
 | cons c l=>
  rw [List.map_cons,List.drop_succ_cons,List.drop_zero,zao]
  congr 1
  apply Array.ext'
  simp [Vd]
theorem zeZ (l:List Nat):((l.map Vd).map (·.length)).sum=l.length:=by
 induction l with
 | nil=>rfl
 | cons c r ih=>
  simp only [List.map_cons,List.sum_cons,List.length_cons,ih]
  show 1+r.length=r.length+1
  omega
theorem zap {l:List Nat} (h:l.length≤1000):((l.map Vd).map (·.length)).sum+(l.map Vd).length*("":Str).length≤16777216:=by
 rw [zeZ]
 have:("":Str).length=0:=by decide +kernel
 rw [this]
 omega
section
theorem Z6:SG.length=27:=by decide +kernel
theorem Wf:SG.length≤sizeLine:=by rw [Z6];exact Nat.le_of_lt (small1000 (by decide))
theorem blanks:Txt.mul (Str.ofString " ") 60=tx (List.replicate 60 32):=by decide +kernel
theorem zd0:MulOk (Str.ofString " ") 60:=by
 refine⟨by decide +kernel,fun _ _=>by decide +kernel,fun _ _=>by decide +kernel⟩
theorem zd1:nv (List.replicate 60 32)=QC:=by decide +kernel
theorem zhs (k:Nat) (h:k<27):atI SG.cps.toList (k:Int)=some (sg.getD k 0):=by
 rw [zcQ]
 refine atI_nat ?_
 have:k<sg.length:=h
 rw [List.getD_eq_getElem?_getD,List.getElem?_eq_getElem this]
 rfl
end
theorem ze0 {c:Nat} (h:c ∉ sg):Txt.find SG ⟨#[c]⟩=-1:=by
 have h1:=StrLaws.found_one SG c
 rw [zcQ,decide_eq_false h] at h1
 unfold Txt.find
 cases e:Builtin.Str.occurrences SG ⟨#[c]⟩ 0 SG.length 1 with
 | nil=>rfl
 | cons i r=>rw [e] at h1;cases h1
noncomputable def Qk (x:Str):Prop:=(∀c∈x.cps.toList,c∈sg)∧x.cps.toList.length≤60
section
variable {P:Program}{w:World}{K:PySem.W.Frag}{mg:Str→Option Value}{base:Heap}
noncomputable def ze1 (K:PySem.W.Frag) (C:Addr):Sp:=fun vs H Q E=>∃v:V,vs=[v]∧((∃x:Str,v=.str x∧x.cps.toList.length≤900∧(Qk x→Q (.int (nv x.cps.toList)) H)∧(¬Qk x→E (.ref C) none H)) ∨
 (∃t,TyOf K H v t∧PySem.W.kitOne K t (.type "str")=some false∧E (.ref C) none H))
theorem jK:FnScope ["note","number","sign","place"] ["note"] (defScope jD):=⟨rfl,rfl,rfl,by decide +kernel,rfl,by decide +kernel,by decide +kernel⟩
theorem VD {zV:Addr} (D:Def K mg "note_number" jD ["note"]) (T:Txt K mg){yg qC:Tok} (jq:mg "SIGNS"=some (.str "abcdefghijklmnopqrstuvwxyz " yg)) (zX:mg "MOST_SIGNS"=some (.int 60 qC)) (qQ:mg "NoNote"=some (.ref zV)) (qT:PySem.W.excIn K zV bmV "ValueError.__new__"=true):FnE P w K mg base 1 "note_number" ["note"] (ze1 K zV):=by
 refine D.fnE jK (fun vs H Q E h=>?_) (fun f cdv A outer s H vs Q E hr h=>?_)
 ·obtain⟨v,rfl,_⟩:=h
  rfl
 ·obtain⟨v,rfl,h⟩:=h
  refine⟨_,(pss_cons (ps_if (pw_or (pt_not (pt_val (pe_callB Za (by rfl) T.z_isinstance wX (pa_cons (pv 0) (pa_cons (pe_bltn (v:=.ty "str") (by rfl) T.z_str Jd rfl) pa_nil))))) (pw_or1 (pt_cmpR vP (pe_callB call_len_str (by rfl) T.z_len xQ (pa_cons (pv 0) pa_nil)) (pe_glob (v:=.int 60) (by rfl) zX ⟨_,rfl⟩) (nomark _)))).pt
    (pss_one (zY PySem.F.excBase_ValueError qT (by rfl) qQ (pa_cons pe_str pa_nil)))
    pss_nil)
   (pss_cons (ps_set (i:=1) jK.nd rfl (Or.inl rfl) pe_int)
   (pss_cons (ps_for PassesOwn.leaving rfl (zc8 (pv 0)) (pg_name (i:=2) jK.nd rfl (Or.inl rfl))
    (pss_cons (ps_set (i:=3) jK.nd rfl (Or.inl rfl) (pe_bm PySem.F.plainAttrs_str PySem.F.slot_str_find PySem.F.type_str_find zfn (pe_glob (v:=.str "abcdefghijklmnopqrstuvwxyz ") (by rfl) jq ⟨_,rfl⟩) (pa_cons (pv 2) pa_nil)))
    (pss_cons (ps_if (pt_cmpR xP (pv 3) (pe_un un_neg pe_int) (nomark _))
     (pss_one (zY PySem.F.excBase_ValueError qT (by rfl) qQ (pa_cons pe_str pa_nil)))
     pss_nil)
    (pss_one (ps_set (i:=1) jK.nd rfl (Or.inl rfl) (pe_op zx (pe_op zx (pe_op qj (pv 1) (pe_callB call_len_str (by rfl) T.z_len xQ (pa_cons (pe_glob (v:=.str "abcdefghijklmnopqrstuvwxyz ") (by rfl) jq ⟨_,rfl⟩) pa_nil))) (pv 3)) pe_int))))))
   (pss_one (ps_ret (pv 1)))))),?_⟩
  rcases h with ⟨x,rfl,hl,q,q2⟩ | ⟨t,ty,kt,q2⟩
  ·have hlx:x.length=x.cps.toList.length:=by simp [Str.length]
   have hz:x.length≤sizeLine:=by rw [hlx];exact Nat.le_of_lt (small1000 (by omega))
   refine⟨_,rfl,_,_,_,true,rfl,TyOf.str _,Vu K,_,rfl,iteF ⟨_,rfl,x,rfl,hz,_,_,rfl,rfl,_,rfl,ifD (fun z=>⟨(by decide),q2 fun g=>?_⟩) (fun z=>?_)⟩⟩
   ·have:=g.2;omega
   have l60:x.cps.toList.length≤60:=by omega
   refine⟨_,rfl,x,rfl,zej (x:=x) (fun i σ H'=>∃v v',σ=[some (.str x),some (.int (nv (x.cps.toList.take i))),v,v']∧H'=H∧∀d∈x.cps.toList.take i,d∈sg) ⟨none,none,rfl,rfl,fun _ z=>nomatch z⟩ ?_ ?_⟩
   ·rintro i c σ H' hc ⟨v,v',rfl,rfl,htk⟩
    have hc':x.cps.toList[i]?=some c:=by simpa using hc
    have hbn:=zfO htk (Nat.le_trans (by rw [List.length_take];omega) l60)
    refine⟨rfl,_,rfl,SG,⟨#[c]⟩,rfl,rfl,?_⟩
    by_cases hm:c∈sg
    ·have hb:=za7 c hm
     rw [zfL c hm]
     refine⟨_,rfl,_,rfl,_,_,rfl,rfl,_,rfl,ifF (by omega) ?_⟩
     refine⟨_,rfl,SG,rfl,Wf,_,_,rfl,rfl,⟨300,5,hbn,by rw [Z6];decide,by decide⟩,_,rfl,_,_,rfl,rfl,_,_,rfl,rfl,some (.str ⟨#[c]⟩),some (.int (dig c-1)),?_,rfl,?_⟩
     ·have e:x.cps.toList.take (i+1)=x.cps.toList.take i++[c]:=by rw [List.take_add_one,hc'];rfl
      rw [e,zfM,Z6]
      have e2:nv (x.cps.toList.take i)*((27:Nat):Int)+(dig c-1)+1=nv (x.cps.toList.take i)*27+dig c:=by omega
      show [some (V.str x),some (V.int (nv (x.cps.toList.take i)*((27:Nat):Int)+(dig c-1)+1)),_,_]=_
      rw [e2]
     ·have e:x.cps.toList.take (i+1)=x.cps.toList.take i++[c]:=by rw [List.take_add_one,hc'];rfl
      rw [e]
      intro d hd
      rcases List.mem_append.mp hd with z | z
      ·exact htk d z
      ·rw [List.mem_singleton.mp z];exact hm
    ·rw [ze0 hm]
     exact⟨_,rfl,_,rfl,_,_,rfl,rfl,_,rfl,ifT rfl ⟨(by decide),q2 fun g=>hm (g.1 c (List.mem_of_getElem? hc'))⟩⟩
   ·rintro σ H' ⟨v,v',rfl,rfl,htk⟩
    refine⟨_,rfl,?_⟩
    have e:x.cps.toList.take x.cps.size=x.cps.toList:=by rw [← Array.length_toList,List.take_length]
    rw [e] at htk ⊢
    exact q ⟨htk,l60⟩
  ·exact⟨_,rfl,_,_,_,false,rfl,ty,kt,_,rfl,iteT ⟨(by decide),q2⟩⟩
end
section
variable {P:Program}{w:World}{K:PySem.W.Frag}{mg:Str→Option Value}{base:Heap}
noncomputable def zgf (C:Addr):Sp:=fun vs H Q E=>∃n:Int,vs=[.int n]∧(0≤n∧n≤QC→∀H',Same H H'→Q (.str (tx (chs n.toNat).reverse)) H')∧(¬(0≤n∧n≤QC)→E (.ref C) none H)
theorem yL:FnScope ["number","signs","left"] ["number"] (defScope yC):=⟨rfl,rfl,rfl,by decide +kernel,rfl,by decide +kernel,by decide +kernel⟩
theorem zb8 {zV:Addr} (D:Def K mg "note_of" yC ["number"]) (T:Txt K mg){yg qC:Tok} (jq:mg "SIGNS"=some (.str "abcdefghijklmnopqrstuvwxyz " yg)) (zX:mg "MOST_SIGNS"=some (.int 60 qC)) (qQ:mg "NoNote"=some (.ref zV)) (qT:PySem.W.excIn K zV bmV "ValueError.__new__"=true) (jd:FnE P w K mg base 1 "note_number" ["note"] (ze1 K zV)):FnE P w K mg base 2 "note_of" ["number"] (zgf zV):=by
 refine D.fnE yL (fun vs H Q E h=>?_) (fun f cdv A outer s H vs Q E hr h=>?_)
 ·obtain⟨n,rfl,_⟩:=h
  rfl
 ·obtain⟨n,rfl,q,q2⟩:=h
  refine⟨_,(pss_cons (ps_if (pw_or (pt_not (pt_val (pe_callB Za (by rfl) T.z_isinstance wX (pa_cons (pv 0) (pa_cons (pe_bltn (v:=.ty "int") (by rfl) T.z_int zc3 rfl) pa_nil))))) (pw_or1 (pt_val (pe_callB Za (by rfl) T.z_isinstance wX (pa_cons (pv 0) (pa_cons (pe_bltn (v:=.ty "bool") (by rfl) T.z_bool zgh rfl) pa_nil)))))).pt
    (pss_one (zY PySem.F.excBase_ValueError qT (by rfl) qQ (pa_cons pe_str pa_nil)))
    pss_nil)
   (pss_cons (ps_if (pw_or (pt_cmpR yt (pv 0) pe_int (nomark _)) (pw_or1 (pt_cmpR vP (pv 0) (zZ jd (hr.mono (by decide)) (by rfl) zy (pa_cons (pe_op zfo pe_str (pe_glob (v:=.int 60) (by rfl) zX ⟨_,rfl⟩)) pa_nil)) (nomark _)))).pt
    (pss_one (zY PySem.F.excBase_ValueError qT (by rfl) qQ (pa_cons pe_str pa_nil)))
    pss_nil)
   (pss_cons (ps_set (i:=1) yL.nd rfl (Or.inl rfl) (pe_lst pa_nil))
   (pss_cons (ps_set (i:=2) yL.nd rfl (Or.inl rfl) (pv 0))
   (pss_cons (ps_while PassesOwn.leaving (pt_cmpR vP (pv 2) pe_int (nomark _))
    (pss_cons (ps_set (i:=2) yL.nd rfl (Or.inl rfl) (pe_op zO (pv 2) pe_int))
    (pss_cons (ps_expr (pe_bm PySem.F.plainAttrs_list PySem.F.slot_list_append PySem.F.type_list_append mt_append (pv 1) (pa_cons (pe_ix ix_str (pe_glob (v:=.str "abcdefghijklmnopqrstuvwxyz ") (by rfl) jq ⟨_,rfl⟩) (pe_op qe (pv 2) (pe_callB call_len_str (by rfl) T.z_len xQ (pa_cons (pe_glob (v:=.str "abcdefghijklmnopqrstuvwxyz ") (by rfl) jq ⟨_,rfl⟩) pa_nil))) (fun _ _=>rfl)) pa_nil)))
    (pss_one (ps_set (i:=2) yL.nd rfl (Or.inl rfl) (pe_op yr (pv 2) (pe_callB call_len_str (by rfl) T.z_len xQ (pa_cons (pe_glob (v:=.str "abcdefghijklmnopqrstuvwxyz ") (by rfl) jq ⟨_,rfl⟩) pa_nil))))))))
   (pss_one (ps_ret (zcq rfl (by rfl) T.z_reversed pe_str (fun _ _ _ h=>⟨⟨_,rfl⟩,h⟩) (pa_cons (pv 1) pa_nil))))))))),?_⟩
  refine⟨_,rfl,_,_,_,true,rfl,TyOf.int _,zbf K,_,rfl,iteF ⟨_,rfl,_,_,_,false,rfl,TyOf.int _,zav K,_,rfl,iteF ?_⟩⟩
  refine⟨_,rfl,_,_,rfl,rfl,_,rfl,ifD (fun z=>⟨(by decide),q2 (by omega)⟩) (fun n0=>⟨_,rfl,_,_,rfl,rfl,zd0,?_⟩)⟩
  rw [blanks]
  have gb:Qk (tx (List.replicate 60 32)):=by
   refine⟨?_,?_⟩
   ·rw [Vc];intro c hc;rw [List.eq_of_mem_replicate hc];decide
   ·rw [Vc,List.length_replicate];exact Nat.le_refl _
  refine⟨_,rfl,.inl ⟨_,rfl,Nat.le_trans gb.2 (by decide),fun _=>?_,fun z=>absurd gb z⟩⟩
  rw [Vc,zd1]
  refine⟨_,_,rfl,rfl,_,rfl,ifD (fun z=>⟨(by decide),q2 (by omega)⟩) (fun n1=>?_)⟩
  obtain⟨n,rfl⟩:∃k:Nat,n=(k:Int):=⟨n.toNat,by omega⟩
  have hn:(n:Int)≤QC:=by omega
  have q:=q ⟨by omega,hn⟩
  rw [Int.toNat_natCast] at q
  refine⟨(by decide),fun l hl=>⟨_,rfl,?_⟩⟩
  refine while_by (fun σ H'=>∃(m:Nat) (cs:List Nat),σ=[some (.int n),some (.ref l),some (.int m)]∧H' l=some (.lst ((cs.map Vd).map V.str))∧Same H H'∧cs++chs m=chs n∧(m:Int)≤QC) (fun(σ:L2.St) (_:Hp)=>match σ[2]? with | some (some (V.int m))=>m.toNat | _=>0) ⟨n,[],rfl,upd_same,Same.new hl,rfl,hn⟩ ?_ (fun σ H Q Q' m h=>?_)
  ·rintro σ H' ⟨m,cs,rfl,hH,sm,ec,hm⟩
   refine⟨_,rfl,_,_,rfl,rfl,_,rfl,ifD (fun z=>?_) (fun z=>?_)⟩
   ·have m0:0<m:=by omega
    have e1:(m:Int)-1=((m-1:Nat):Int):=by omega
    have zln:cs.length≤60:=by
     have:=zds hn
     rw [← ec,List.length_append] at this
     omega
    refine⟨_,rfl,_,_,rfl,rfl,?_⟩
    rw [e1]
    refine⟨_,rfl,.inl ⟨rfl,_,SqL.of hH⟩,_,rfl,SG,rfl,Wf,_,_,rfl,rfl,(by rw [Z6];decide),SG,((m-1) % 27:Nat),sg.getD ((m-1) % 27) 0,rfl,?_,Wf,zhs _ (Nat.mod_lt _ (by decide)),l,_,_,rfl,rfl,hH,?_,?_⟩
    ·rw [Z6];rfl
    ·rw [List.length_map,List.length_map];exact small1000 (by omega)
    refine⟨_,rfl,SG,rfl,Wf,_,_,rfl,rfl,⟨by rw [Z6];decide,by rw [Z6];decide +kernel⟩,?_⟩
    refine⟨⟨(m-1) / 27,cs++[sg.getD ((m-1) % 27) 0],?_,?_,?_,?_,?_⟩,?_⟩
    ·rw [Z6];rfl
    ·rw [upd_same,List.map_append,List.map_append];rfl
    ·exact sm.wr hl
    ·rw [List.append_assoc,← ec,V9 m0];rfl
    ·omega
    ·rw [Z6]
     show ((((m-1:Nat):Int) / ((27:Nat):Int))).toNat<((m:Nat):Int).toNat
     omega
   ·have m0:m=0:=by omega
    subst m0
    rw [Xr,List.append_nil] at ec
    subst ec
    refine⟨_,rfl,"",l,(chs n).map Vd,rfl,rfl,SqL.of hH,zap (Nat.le_trans (zds hn) (by decide)),?_⟩
    rw [← List.map_reverse,join_ones]
    exact q _ sm
  ·obtain⟨v,hv,a,b,e1,e2,c,e3,r⟩:=h
   exact⟨v,hv,a,b,e1,e2,c,e3,m _ _ r⟩
end
theorem zgL {L:Str}{ls:List Nat} (h:L.cps.toList=ls) (hl:ls.length=27) (n:Int):atI L.cps.toList (n % 27)=some (ls.getD (n % 27).toNat 0):=by
 have h0:0≤n % 27:=Int.emod_nonneg _ (by decide)
 have h1:n % 27<27:=Int.emod_lt_of_pos _ (by decide)
 have e:n % 27=(((n % 27).toNat:Nat):Int):=by omega
 rw [h]
 generalize (n % 27).toNat=k at e
 have hk:k<ls.length:=by omega
 rw [e]
 refine atI_nat ?_
 rw [List.getD_eq_getElem?_getD,List.getElem?_eq_getElem hk]
 rfl
theorem zgM {ls:List Nat} (h:∀k:Fin 27,ls.getD k.val 0∈sg) (n:Int):ls.getD (n % 27).toNat 0∈sg:=by
 have h0:0≤n % 27:=Int.emod_nonneg _ (by decide)
 have h1:n % 27<27:=Int.emod_lt_of_pos _ (by decide)
 exact h ⟨(n % 27).toNat,by omega⟩
theorem zdt {b:Int} (hb:2≤b):∀ys:List Int,(∀y∈ys,0≤y)→(∀y,ys.getLast?=some y→y≠0)→ys≠[]→(2:Int) ^ (ys.length-1)≤val b ys
 | [],_,_,h=>absurd rfl h
 | [a],h,l,_=>by
  have h1:=h a (List.mem_cons_self ..)
  have h2:=l a rfl
  show (2:Int) ^ 0≤a+b*0
  rw [Int.pow_zero,Int.mul_zero]
  omega
 | a::c::r,h,l,_=>by
  have h0:∀y∈c::r,0≤y:=fun y hy=>h y (List.mem_cons_of_mem _ hy)
  have ih:=zdt hb (c::r) h0 (fun y hy=>l y (by rw [List.getLast?_cons_cons];exact hy)) (by simp)
  have h1:=h a (List.mem_cons_self ..)
  have h2:=Z5 (show 0≤b by omega) (c::r) h0
  show (2:Int) ^ (r.length+1)≤a+b*val b (c::r)
  have e:(c::r).length-1=r.length:=rfl
  rw [e] at ih
  rw [Int.pow_succ]
  have h3:=Int.mul_le_mul_of_nonneg_right hb h2
  omega
theorem two_pow_pos (n:Nat):(0:Int)<2 ^ n:=by
 induction n with
 | zero=>decide
 | succ n ih=>rw [Int.pow_succ];omega
theorem Xu {m n:Nat} (h:m≤n):(2:Int) ^ m≤2 ^ n:=by
 induction n with
 | zero=>
      have:m=0:=by omega
      subst this;exact Int.le_refl _
 | succ n ih=>
  by_cases e:m=n+1
  ·subst e;exact Int.le_refl _
  ·have:=ih (by omega)
   have:=two_pow_pos n
   rw [Int.pow_succ]
   omega
theorem zdu {b:Int} (hb:2≤b){ys:List Int} (h:∀y∈ys,0≤y∧y<b) (l:∀y,ys.getLast?=some y→y≠0){k:Nat} (hv:val b ys<2 ^ k):ys.length≤k:=by
 by_cases e:ys=[]
 ·subst e;exact Nat.zero_le _
 ·have h1:=zdt hb ys (fun y hy=>(h y hy).1) l e
  by_cases hk:ys.length≤k
  ·exact hk
  ·have:=Xu (show k≤ys.length-1 by omega)
   omega
theorem zgN:tops 12<2 ^ 60:=by decide +kernel
theorem zht {l:List Nat} (h:∀c∈l,c∈sg) (hl:l.length≤12):0≤nv l∧nv l<2 ^ 60:=by
 have hr:∀c∈l.reverse,c∈sg:=fun c hc=>h c (List.mem_reverse.mp hc)
 have h1:=QB l.reverse hr
 have h2:=Vb (show l.reverse.length≤12 by rw [List.length_reverse];exact hl)
 have h3:=yf l.reverse hr
 have h4:=zgN
 unfold nv
 omega
section
variable {P:Program}{w:World}{K:PySem.W.Frag}{mg:Str→Option Value}{base:Heap}
noncomputable def ze2 (C:Addr):Sp:=fun vs H Q E=>∃turns bells:Int,vs=[.int turns,.int bells]∧0≤bells∧((1≤bells∧bells≤turns)→Q .non H)∧(¬(1≤bells∧bells≤turns)→E (.ref C) none H)
theorem zcS (D:Def K mg "refuse_silent" qF ["turns","bells"]) (T:Txt K mg){jz:Addr} (yh:mg "NoRow"=some (.ref jz)) (yj:PySem.W.excIn K jz bmV "ValueError.__new__"=true):FnE P w K mg base 1 "refuse_silent" ["turns","bells"] (ze2 jz):=by
 refine D.fnE ZR (fun vs H Q E h=>?_) (fun f cdv A outer s H vs Q E hr h=>?_)
 ·obtain⟨a,b,rfl,_⟩:=h
  rfl
 ·obtain⟨turns,bells,rfl,b0,q1,q2⟩:=h
  refine⟨_,(pss_one (ps_if (pw_or (pt_cmpR xP (pv 1) pe_int (nomark _)) (pw_or1 (pt_cmpR vP (pv 1) (pv 0) (nomark _)))).pt
    (pss_one (zY PySem.F.excBase_ValueError yj (by rfl) yh (pa_cons pe_str pa_nil)))
    pss_nil)),?_⟩
  exact⟨_,rfl,_,_,rfl,rfl,_,rfl,ifD (fun z=>⟨(by decide),q2 (by omega)⟩) (fun z=>⟨_,rfl,_,rfl,_,_,rfl,rfl,_,rfl,ifD (fun z2=>⟨(by decide),q2 (by omega)⟩) (fun z2=>q1 (by omega))⟩)⟩
structure ze3 (x:Str) (turns bells late:Int) (ys:List Int) (bss:List (List Int)):Prop where
 bd:∀y∈ys,0≤y∧y<cnt turns bells late-1
 last:∀y,ys.getLast?=some y→y≠0
 num:val (cnt turns bells late-1) ys=nv x.cps.toList
 len:bss.length=ys.length+1
 box:∀(i:Nat) (bs:List Int) (m:Int),bss[i]?=some bs→(ys.map (·+1)++[0])[i]?=some m→qi bs∧bs.length=bells.toNat∧jH bs=m
 sz:∀bs∈bss,Szs 60010 bs
noncomputable def yo (CN CR CG:Addr):Sp:=fun vs H Q E=>∃(x:Str) (turns bells late:Int),vs=[.str x,.int turns,.int bells,.int late]∧x.cps.toList.length≤900∧0≤bells∧bells≤60∧0≤late∧intBits late≤100∧0≤turns∧intBits turns≤100 ∧
 (¬Qk x→E (.ref CN) none H)∧(Qk x→¬(1≤bells∧bells≤turns)→E (.ref CR) none H)∧(Qk x→1≤bells→bells≤turns→cnt turns bells late<3→E (.ref CG) none H) ∧
 (Qk x→1≤bells→bells≤turns→3≤cnt turns bells late→x.cps.toList.length≤12∧∀(p:Addr) (ys:List Int) (bss:List (List Int)) (H':Hp),Same H H'→H' p=some (.lst ((qx (turns+late) late 0 bss).map V.int))→ze3 x turns bells late ys bss→Q (.ref p) H')
theorem Ka:FnScope ["note","turns","bells","late","number","count","messages"] ["note","turns","bells","late"] (defScope Xk):=⟨rfl,rfl,rfl,by decide +kernel,rfl,by decide +kernel,by decide +kernel⟩
theorem ze4 (D:Def K mg "sent" Xk ["note","turns","bells","late"]) (T:Txt K mg){jh:Addr} (xN:mg "BellError"=some (.ref jh)){jz:Addr} (yh:mg "NoRow"=some (.ref jz)){zf:Addr} (zF:mg "NoReading"=some (.ref zf)){zj:Addr} (zP:mg "TooGreat"=some (.ref zj)){zV:Addr} (qQ:mg "NoNote"=some (.ref zV)){zc:Addr} (zL:mg "NoOrder"=some (.ref zc)){zJ:Addr} (vB:mg "NoName"=some (.ref zJ)){zA:Addr} (yc:mg "Frame"=some (.ref zA)){zp:Addr} (QD:mg "Desk"=some (.ref zp)){vV:Tok} (jP:mg "LETTERS"=some (.str "abcdefghijklmnopqrstuvwxyz" vV)){qJ:Tok} (qb:mg "MOST_LETTERS"=some (.int 8 qJ)){vW:Tok} (jR:mg "FIGURES"=some (.str "0123456789" vW)){qK:Tok} (qd:mg "MOST_FIGURES"=some (.int 60 qK)){zB:Tok} (zm:mg "MOST_FIGURES_OF_MESSAGE"=some (.int 3000 zB)){jn:Tok} (qz:mg "MOST_BELLS"=some (.int 60 jn)){yg:Tok} (jq:mg "SIGNS"=some (.str "abcdefghijklmnopqrstuvwxyz " yg)){qC:Tok} (zX:mg "MOST_SIGNS"=some (.int 60 qC)){qX:Tok} (z7:mg "LEAST_COUNT"=some (.int 3 qX)) (xO:PySem.W.excIn K jh bmV "ValueError.__new__"=true) (yj:PySem.W.excIn K jz bmV "ValueError.__new__"=true) (zG:PySem.W.excIn K zf bmV "ValueError.__new__"=true) (zQ:PySem.W.excIn K zj bmV "ValueError.__new__"=true) (zM:PySem.W.excIn K zc bmV "ValueError.__new__"=true) (vC:PySem.W.excIn K zJ bmV "ValueError.__new__"=true) (qT:PySem.W.excIn K zV bmV "ValueError.__new__"=true) (jd:FnE P w K mg base 1 "note_number" ["note"] (ze1 K zV)) (Ve:FnE P w K mg base 1 "refuse_silent" ["turns","bells"] (ze2 jz)) (zH:Fn P w K mg base 2 "box_count" ["turns","bells","late"] Zd) (zfP:Fn P w K mg base 1 "parts" ["number","base"] zdq) (zcT:Fn P w K mg base 41 "rung" ["messages","turns","bells","late"] (zcP K)):FnE P w K mg base 42 "sent" ["note","turns","bells","late"] (yo zV jz zj):=by
 refine D.fnE Ka (fun vs H Q E h=>?_) (fun f cdv A outer s H vs Q E hr h=>?_)
 ·obtain⟨x,t,b,l,rfl,_⟩:=h
  rfl
 ·obtain⟨x,turns,bells,late,rfl,xl,b0,b60,l0,lb,t0,tb,qN,qR,qG,q⟩:=h
  refine⟨_,(pss_cons (ps_set (i:=4) Ka.nd rfl (Or.inl rfl) (zZ jd (hr.mono (by decide)) (by rfl) zy (pa_cons (pv 0) pa_nil)))
   (pss_cons (ps_expr (zZ Ve (hr.mono (by decide)) (by rfl) zy (pa_cons (pv 1) (pa_cons (pv 2) pa_nil))))
   (pss_cons (ps_set (i:=5) Ka.nd rfl (Or.inl rfl) (zr zH (hr.mono (by decide)) (by rfl) (pa_cons (pv 1) (pa_cons (pv 2) (pa_cons (pv 3) pa_nil)))))
   (pss_cons (ps_if (pt_cmpR yt (pv 5) (pe_glob (v:=.int 3) (by rfl) z7 ⟨_,rfl⟩) (nomark _))
    (pss_one (zY PySem.F.excBase_ValueError zQ (by rfl) zP (pa_cons pe_str pa_nil)))
    pss_nil)
   (pss_cons (VR (k:=6) (own:=["figure"]) (fr:=[]) (ix:=[]) rfl Ka.nd rfl rfl ⟨rfl,rfl,rfl,rfl,rfl,rfl⟩ (pi_list (zr zfP (hr.mono (by decide)) (by rfl) (pa_cons (pv 4) (pa_cons (pe_op zO (pv 5) pe_int) pa_nil)))) (fun _ _ _ _ _=>(pg_name (i:=0) (show (["figure"]:List Str).Nodup by decide +kernel) rfl (Or.inl rfl))) (fun _ _ _ _ _=>qZ) (fun _ _ _ _ _=>(pe_op zx (pv 0) pe_int)))
   (pss_one (ps_ret (zr zcT (hr.mono (by decide)) (by rfl) (pa_cons (pe_op op_cat (pv 6) (pe_lst (pa_cons pe_int pa_nil))) (pa_cons (pv 1) (pa_cons (pv 2) (pa_cons (pv 3) pa_nil)))))))))))),?_⟩
  have lb8:intBits late≤8000:=za lb (by decide)
  refine⟨_,rfl,.str x,rfl,.inl ⟨x,rfl,xl,fun g=>?_,qN⟩⟩
  refine⟨_,rfl,_,rfl,turns,bells,rfl,b0,fun gb=>?_,qR g⟩
  obtain⟨b1,bt⟩:=gb
  refine⟨_,rfl,_,rfl,_,rfl,turns,bells,late,rfl,b0,by omega,l0,lb8,za tb (by decide),?_⟩
  refine⟨_,rfl,_,_,rfl,rfl,_,rfl,ifD (fun z=>⟨(by decide),qG g b1 bt z⟩) (fun z=>?_)⟩
  obtain⟨x12,q⟩:=q g b1 bt (by omega)
  have cb:=zbK (turns:=turns) (bells:=bells) (late:=late) (by omega) (by omega) l0 (by omega) tb (by decide)
  have cb':intBits (cnt turns bells late)≤50000:=za cb (by decide)
  have nb:=zht g.1 x12
  have cb1:intBits (cnt turns bells late-1)≤50000:=Xl (y:=cnt turns bells late) (by omega) (by omega) cb'
  refine⟨_,rfl,_,rfl,_,_,rfl,rfl,_,_,rfl,nb.1,by omega,Int.lt_of_lt_of_le nb.2 (Xu (by decide)),?_,fun p ys H1 s1 _ h1 yb yl yv _=>?_⟩
  ·exact Xl (y:=cnt turns bells late) (by omega) (by omega) (za cb (by decide))
  have zgO:ys.length≤60:=zdu (by omega) yb yl (by rw [yv];exact nb.2)
  refine⟨p,rfl,⟨_,SqL.of h1⟩,fun acc hacc=>jA (K:=K) (a:=p) (xs:=ys.map V.int) (fun j=>V.int (ys.getD j 0+1)) (SqL.of h1) hacc (by rw [List.length_map];exact Nat.le_of_lt (small1000 (by omega))) (fun j v H6 R' hx s6 hR=>?_) ?_⟩
  ·rw [List.getElem?_map] at hx
   obtain⟨z,hz',rfl⟩:=Option.map_eq_some_iff.mp hx
   simp only [List.getD_eq_getElem?_getD,hz',Option.getD_some] at hR
   exact⟨rfl,_,rfl,_,_,rfl,rfl,hR⟩
  have eL:(List.range (ys.map V.int).length).map (fun j=>V.int (ys.getD j 0+1))=(ys.map (·+1)).map V.int:=by
   apply List.ext_getElem
   ·simp
   ·intro j h1 h2
    simp at h1 h2
    simp [List.getD_eq_getElem?_getD,h2]
  rw [eL]
  have s2:Same H (upd H1 acc (.lst ((ys.map (·+1)).map V.int))):=s1.put hacc
  have h2:(upd H1 acc (.lst ((ys.map (·+1)).map V.int))) acc=some (.lst ((ys.map (·+1)).map V.int)):=upd_same
  generalize upd H1 acc (.lst ((ys.map (·+1)).map V.int))=H2 at s2 h2 ⊢
  refine⟨_,rfl,(by show 1≤sizeLine;decide),fun p2 hp2=>⟨acc,p2,_,_,rfl,rfl,(Same.new hp2) _ _ h2,upd_same,?_,fun p3 hp3=>?_⟩⟩
  ·rw [List.length_map,List.length_map]
   exact Nat.le_of_lt (small1000 (by show ys.length+1≤1000;omega))
  have e3:(ys.map (·+1)).map V.int++[V.int 0]=(ys.map (·+1)++[0]).map V.int:=by rw [List.map_append];rfl
  rw [e3]
  have s3:=(s2.put (o:=.lst [V.int 0]) hp2).put (o:=.lst ((ys.map (·+1)++[0]).map V.int)) hp3
  refine⟨_,rfl,_,rfl,_,rfl,p3,ys.map (·+1)++[0],turns,bells,late,rfl,SqL.of upd_same,by rw [List.length_append,List.length_map];show ys.length+1≤100;omega,b1,b60,bt,l0,lb8,za tb (by decide),fun m hm=>?_,fun p4 bss H4 s4 _ h4 bl hb hz=>q p4 ys bss H4 (s3.trans s4) h4 ⟨yb,yl,yv,by rw [bl,List.length_append,List.length_map];rfl,hb,hz⟩⟩
  have m01:0≤m∧m<cnt turns bells late:=by
   rcases List.mem_append.mp hm with z | z
   ·obtain⟨y,hy,rfl⟩:=List.mem_map.mp z
    have:=yb y hy
    omega
   ·rw [List.mem_singleton.mp z];omega
  exact⟨m01.1,m01.2,Xl m01.1 m01.2 cb'⟩
end
theorem zaq {L late:Int}{b:Nat}:∀(bss:List (List Int)) (k:Int),(∀bs∈bss,bs.length=b)→(qx L late k bss).length=bss.length*b
 | [],_,_=>by simp [qx]
 | c::r,k,h=>by
  show ((zq late c).map (fun x=>k*L+x)++qx L late (k+1) r).length=_
  rw [List.length_append,List.length_map,ql,h c (List.mem_cons_self ..),zaq r (k+1) fun bs hb=>h bs (List.mem_cons_of_mem _ hb),List.length_cons,Nat.succ_mul]
  omega
theorem zgP {L k:Int} (hL:0<L){rd:List Int}:∀x∈grp L k rd,0≤x∧x<L:=fun x hx=>by
 unfold grp at hx
 obtain⟨t,_,rfl⟩:=List.mem_map.mp hx
 exact⟨Int.emod_nonneg _ (by omega),Int.emod_lt_of_pos _ hL⟩
theorem zdv {L k late:Int} (hL:0<L) (lb:intBits L≤9000){rd:List Int} (h60:(grp L k rd).length≤60):Szs 70000 (jG late (grp L k rd)):=fun y hy=>by
 obtain⟨i,hi⟩:=List.getElem?_of_mem hy
 obtain⟨x,hx,rfl⟩:=XQ hi
 have hb:=zgP hL x (List.mem_of_getElem? hx)
 have il:=(List.getElem?_eq_some_iff.mp hx).1
 have ib:intBits (i:Int)≤64:=zK (by omega) (by omega)
 have xb:intBits x≤9000:=Xl hb.1 hb.2 lb
 have sb:=intBits_sub_le (m:=9000) (n:=64) xb ib
 exact za (intBits_le_of_natAbs (y:=x-(i:Int)) (Int.natAbs_ediv_le_natAbs _ _) sb) (by decide)
noncomputable def qY (turns late:Int) (rd:List Int) (i:Nat):Int:=jH (jG late (grp (turns+late) (i:Int) rd))
structure zgQ (rd:List Int) (turns bells late:Int) (n:Nat):Prop where
 rl:rd.length≤1000
 b0:0≤bells
 b60:bells≤60
 l0:0≤late
 lb:intBits late≤100
 L0:0<turns+late
 t0:0≤turns
 tb:intBits turns≤100
 n100:n≤100
 len:∀i:Nat,i≤n→(grp (turns+late) (i:Int) rd).length≤60
 good:∀i:Nat,i<n→GoodR turns bells late (grp (turns+late) (i:Int) rd)∧qY turns late rd i≠0
theorem zdw {L:Int}{rd:List Int}{kvs:List (Key×V)}{ks:List Int}{ad:Int→Addr}{H H2:Hp} (M:ByM L rd kvs ks ad H) (s:Same H H2){p0:Addr} (hp0:H2 p0=none) (k:Int) :
  ∃q,(valV kvs (Sum.inl k)).getD (.ref p0)=.ref q∧(upd H2 p0 (.lst [])) q=some (.lst ((grp L k rd).map V.int)):=by
 rw [M.val]
 by_cases hk:k∈ks
 ·rw [if_pos hk]
  exact⟨ad k,rfl,(Same.new hp0) _ _ (s _ _ (M.ls k hk))⟩
 ·rw [if_neg hk]
  have g0:grp L k rd=[]:=by
   by_cases z:grp L k rd=[]
   ·exact z
   ·exact absurd ((M.mem k).mpr z) hk
  rw [g0]
  exact⟨p0,rfl,upd_same⟩
structure zar (rd:List Int) (turns bells late:Int) (ms:List Int):Prop where
 part:∀(i:Nat) (m:Int),ms[i]?=some m→GoodR turns bells late (grp (turns+late) (i:Int) rd)∧qY turns late rd i=m
 out:∀k:Int,¬(0≤k∧k<(ms.length:Int))→grp (turns+late) k rd=[]
structure Fr0 (turns bells late:Int):Prop where
 b1:1≤bells
 b4:bells≤8
 l0:0≤late
 lb:intBits late≤100
 bt:bells≤turns
 tb:intBits turns≤100
theorem zb9 {ys:List Int}{i:Nat} (h:i≤ys.length):∃m,(ys.map (·+1)++[0])[i]?=some m∧(i<ys.length→m=ys.getD i 0+1)∧(i=ys.length→m=0):=by
 by_cases e:i<ys.length
 ·refine⟨ys.getD i 0+1,?_,fun _=>rfl,fun z=>by omega⟩
  rw [List.getElem?_append_left (by rw [List.length_map];exact e),List.getElem?_map,List.getD_eq_getElem?_getD,List.getElem?_eq_getElem e]
  rfl
 ·have e':i=ys.length:=by omega
  refine⟨0,?_,fun z=>absurd z e,fun _=>rfl⟩
  rw [List.getElem?_append_right (by rw [List.length_map];omega),List.length_map,e',Nat.sub_self]
  rfl
theorem zar.ok {rd rd':List Int}{turns bells late:Int}{ys:List Int} (hd:zar rd turns bells late (ys.map (·+1)++[0])) (Fr:Fr0 turns bells late) (yb:∀y∈ys,0≤y) (y99:ys.length≤99) (rl:rd'.length≤1000) (j:Nat) (hj:j≤ys.length) (e:∀i:Nat,i<j→grp (turns+late) (i:Int) rd'=grp (turns+late) (i:Int) rd) (h60:(grp (turns+late) (j:Int) rd').length≤60):zgQ rd' turns bells late j:=by
 have b1:=Fr.b1
 have b4:=Fr.b4
 have l0:=Fr.l0
 have bt:=Fr.bt
 refine⟨rl,by omega,by omega,l0,Fr.lb,by omega,by omega,Fr.tb,by omega,fun i hi=>?_,fun i hi=>?_⟩
 ·by_cases z:i=j
  ·rw [z];exact h60
  ·rw [e i (by omega)]
   obtain⟨m,hm,_⟩:=zb9 (ys:=ys) (i:=i) (by omega)
   have:=(hd.part i m hm).1.1
   omega
 ·obtain⟨m,hm,hm1,_⟩:=zb9 (ys:=ys) (i:=i) (by omega)
  have hp:=hd.part i m hm
  have em:qY turns late rd' i=qY turns late rd i:=by unfold qY;rw [e i hi]
  rw [e i hi,em,hp.2,hm1 (by omega)]
  refine⟨hp.1,?_⟩
  have hil:i<ys.length:=by omega
  have:=yb _ (List.getElem_mem hil)
  rw [List.getD_eq_getElem?_getD,List.getElem?_eq_getElem hil,Option.getD_some]
  omega
theorem zar.all {rd rd':List Int}{turns bells late:Int}{ys:List Int} (hd:zar rd turns bells late (ys.map (·+1)++[0])) (e:∀i:Nat,i≤ys.length→grp (turns+late) (i:Int) rd'=grp (turns+late) (i:Int) rd):GoodR turns bells late (grp (turns+late) (ys.length:Int) rd')∧qY turns late rd' ys.length=0∧(List.range ys.length).map (fun i=>qY turns late rd' i-1)=ys:=by
 have em:∀i:Nat,i≤ys.length→qY turns late rd' i=qY turns late rd i:=fun i hi=>by unfold qY;rw [e i hi]
 obtain⟨m,hm,_,hm2⟩:=zb9 (ys:=ys) (i:=ys.length) (Nat.le_refl _)
 have hp:=hd.part _ m hm
 rw [e _ (Nat.le_refl _),em _ (Nat.le_refl _),hp.2,hm2 rfl]
 refine⟨hp.1,rfl,?_⟩
 apply List.ext_getElem
 ·simp
 ·intro i h1 h2
  obtain⟨m,hm,hm1,_⟩:=zb9 (ys:=ys) (i:=i) (by omega)
  have hq:=hd.part i m hm
  rw [List.getElem_map,List.getElem_range,em i (by omega),hq.2,hm1 h2,List.getD_eq_getElem?_getD,List.getElem?_eq_getElem h2,Option.getD_some]
  omega
section
variable {P:Program}{w:World}{K:PySem.W.Frag}{mg:Str→Option Value}{base:Heap}
noncomputable def zgg (K:PySem.W.Frag) (C:Addr):Sp:=fun vs H Q E=>∃(a:Addr) (rd:List Int) (turns bells late:Int) (n:Nat),vs=[.ref a,.int turns,.int bells,.int late]∧SqL K H a (rd.map V.int)∧zgQ rd turns bells late n ∧
 (GoodR turns bells late (grp (turns+late) (n:Int) rd)→qY turns late rd n=0∧∀(p:Addr) (H':Hp),Same H H'→H' p=some (.lst ((List.range n).map fun i=>V.int (qY turns late rd i)))→Q (.ref p) H') ∧
 (¬GoodR turns bells late (grp (turns+late) (n:Int) rd)→∀H',Same H H'→E (.ref C) none H')
theorem zW:FnScope ["reading","turns","bells","late","heard_of","messages","message"] ["reading","turns","bells","late"] (defScope zT):=⟨rfl,rfl,rfl,by decide +kernel,rfl,by decide +kernel,by decide +kernel⟩
theorem zfQ {zf:Addr} (D:Def K mg "messages_ahead_of_end" zT ["reading","turns","bells","late"]) (T:Txt K mg) (W8:Fn P w K mg base 1 "by_messages" ["reading","turns","late"] (zhq K)) (kh:FnE P w K mg base 3 "read" ["reading","turns","bells","late"] (V7 K zf)):FnE P w K mg base 4 "messages_ahead_of_end" ["reading","turns","bells","late"] (zgg K zf):=by
 refine D.fnE zW (fun vs H Q E h=>?_) (fun f cdv A outer s H vs Q E hr h=>?_)
 ·obtain⟨a,rd,t,b,l,n,rfl,_⟩:=h
  rfl
 ·obtain⟨a,rd,turns,bells,late,n,rfl,hS,R,q1,q2⟩:=h
  obtain⟨rl,b0,b60,l0,lb,L0,t0,tb,n100,len,good⟩:=R
  refine⟨_,(pss_cons (ps_set (i:=4) zW.nd rfl (Or.inl rfl) (zr W8 (hr.mono (by decide)) (by rfl) (pa_cons (pv 0) (pa_cons (pv 1) (pa_cons (pv 3) pa_nil)))))
   (pss_cons (ps_set (i:=5) zW.nd rfl (Or.inl rfl) (pe_lst pa_nil))
   (pss_cons (ps_set (i:=6) zW.nd rfl (Or.inl rfl) (zZ kh (hr.mono (by decide)) (by rfl) zy (pa_cons (pe_dget2 (hu_of hr) (pv 4) pe_int (pe_lst pa_nil) ⟨rfl,rfl,rfl,rfl⟩) (pa_cons (pv 1) (pa_cons (pv 2) (pa_cons (pv 3) pa_nil))))))
   (pss_cons (ps_while PassesOwn.leaving (pt_cmpR Xz (pv 6) pe_int (nomark _))
    (pss_cons (ps_expr (pe_bm PySem.F.plainAttrs_list PySem.F.slot_list_append PySem.F.type_list_append mt_append (pv 5) (pa_cons (pv 6) pa_nil)))
    (pss_one (ps_set (i:=6) zW.nd rfl (Or.inl rfl) (zZ kh (hr.mono (by decide)) (by rfl) zy (pa_cons (pe_dget2 (hu_of hr) (pv 4) (pe_callB call_len_seq (by rfl) T.z_len xQ (pa_cons (pv 5) pa_nil)) (pe_lst pa_nil) ⟨rfl,rfl,rfl,rfl⟩) (pa_cons (pv 1) (pa_cons (pv 2) (pa_cons (pv 3) pa_nil)))))))))
   (pss_one (ps_ret (pv 5))))))),?_⟩
  have lb8:intBits late≤8000:=za lb (by decide)
  have Lb:intBits (turns+late)≤9000:=za (intBits_add_le (m:=100) (n:=100) tb lb) (by decide)
  have bad:∀i:Nat,i≤n→¬GoodR turns bells late (grp (turns+late) (i:Int) rd)→i=n:=fun i hi ng=>by
   rcases Nat.lt_or_eq_of_le hi with z | z
   ·exact absurd (good i z).1 ng
   ·exact z
  refine⟨_,rfl,_,rfl,_,rfl,a,rd,turns,late,rfl,hS,by omega,L0,Lb,fun d kvs ks ad H1 s1 hD M=>?_⟩
  refine⟨(by decide),fun p hp=>?_⟩
  have s2:Same H1 (upd H1 p (.lst [])):=Same.new hp
  have h2:(upd H1 p (.lst [])) p=some (.lst []):=upd_same
  generalize upd H1 p (.lst [])=H2 at s2 h2 ⊢
  refine⟨_,rfl,d,rfl,.inl ⟨kvs,.inl (s2 _ _ hD)⟩,(by decide),fun p0 hp0=>⟨_,DGet.k (k:=Sum.inl 0) ((Same.new hp0) _ _ (s2 _ _ hD)),?_⟩⟩
  obtain⟨q0,e0,c0⟩:=zdw M s2 hp0 0
  rw [e0]
  have s3:=s2.put (o:=.lst []) hp0
  have s23:=Same.new (o:=.lst []) hp0
  generalize upd H2 p0 (.lst [])=H3 at s3 s23 c0 ⊢
  refine⟨_,rfl,_,rfl,_,rfl,q0,grp (turns+late) 0 rd,turns,bells,late,rfl,SqL.of c0,len 0 (Nat.zero_le _),b0,b60,l0,lb8,za tb (by decide),zdv L0 Lb (len 0 (Nat.zero_le _)),fun g H4 s4=>?_,fun ng H4 s4=>?_⟩
  case refine_2=>
   have e:=bad 0 (Nat.zero_le _) ng
   subst e
   exact q2 ng H4 (s1.trans (s3.trans s4))
  refine while_by (fun σ H5=>∃i:Nat,i≤n∧σ=[some (.ref a),some (.int turns),some (.int bells),some (.int late),some (.ref d),some (.ref p),some (.int (qY turns late rd i))]∧Same H1 H5∧H5 p=some (.lst ((List.range i).map fun i=>V.int (qY turns late rd i)))∧GoodR turns bells late (grp (turns+late) (i:Int) rd))
   (fun _ H5=>match H5 p with | some (.lst xs)=>n-xs.length | _=>0) ⟨0,Nat.zero_le _,rfl,s3.trans s4,s4 _ _ (s23 _ _ h2),g⟩ ?_ ?_
  ·rintro σ H5 ⟨i,hi,rfl,s5,h5,gi⟩
   refine⟨_,rfl,_,_,rfl,rfl,_,rfl,zbg (fun z=>?_) (fun z=>?_)⟩
   ·have hin:i<n:=by
     rcases Nat.lt_or_eq_of_le hi with y | y
     ·exact y
     ·subst y
      exact absurd (q1 gi).1 z
    have zld:((List.range i).map fun i=>V.int (qY turns late rd i)).length=i:=by rw [List.length_map,List.length_range]
    refine⟨_,rfl,.inl ⟨rfl,_,SqL.of h5⟩,_,rfl,_,_,_,rfl,rfl,h5,by rw [zld];exact small1000 (by omega),?_⟩
    have s6:Same H1 (upd H5 p (.lst (((List.range i).map fun i=>V.int (qY turns late rd i))++[V.int (qY turns late rd i)]))):=s5.wr hp
    have h6:(upd H5 p (.lst (((List.range i).map fun i=>V.int (qY turns late rd i))++[V.int (qY turns late rd i)]))) p=some (.lst ((List.range (i+1)).map fun i=>V.int (qY turns late rd i))):=by
     rw [upd_same,List.range_succ,List.map_append]
     rfl
    generalize upd H5 p (.lst (((List.range i).map fun i=>V.int (qY turns late rd i))++[V.int (qY turns late rd i)]))=H6 at s6 h6 ⊢
    have zhu:(((List.range (i+1)).map fun i=>V.int (qY turns late rd i)).length:Int)=((i+1:Nat):Int):=by rw [List.length_map,List.length_range]
    refine⟨_,rfl,d,rfl,.inl ⟨kvs,.inl (s6 _ _ hD)⟩,_,rfl,_,_,rfl,.inl (SqL.of h6),?_⟩
    rw [zhu]
    refine⟨(by decide),fun p7 hp7=>⟨_,DGet.k (k:=Sum.inl ((i+1:Nat):Int)) ((Same.new hp7) _ _ (s6 _ _ hD)),?_⟩⟩
    obtain⟨q7,e7,c7⟩:=zdw M s6 hp7 ((i+1:Nat):Int)
    rw [e7]
    have s7:=s6.put (o:=.lst []) hp7
    have s67:=Same.new (o:=.lst []) hp7
    generalize upd H6 p7 (.lst [])=H7 at s7 s67 c7 ⊢
    refine⟨_,rfl,_,rfl,_,rfl,q7,grp (turns+late) ((i+1:Nat):Int) rd,turns,bells,late,rfl,SqL.of c7,len (i+1) hin,b0,b60,l0,lb8,za tb (by decide),zdv L0 Lb (len (i+1) hin),fun g8 H8 s8=>?_,fun ng H8 s8=>?_⟩
    ·refine⟨⟨i+1,hin,rfl,s7.trans s8,s8 _ _ (s67 _ _ h6),g8⟩,?_⟩
     show (match H8 p with | some (.lst xs)=>n-xs.length | _=>0)<(match H5 p with | some (.lst xs)=>n-xs.length | _=>0)
     rw [s8 _ _ (s67 _ _ h6),h5]
     show n-((List.range (i+1)).map fun i=>V.int (qY turns late rd i)).length<n-((List.range i).map fun i=>V.int (qY turns late rd i)).length
     rw [List.length_map,List.length_range,List.length_map,List.length_range]
     omega
    ·have e:=bad (i+1) hin ng
     subst e
     exact q2 ng H8 (s1.trans (s7.trans s8))
   ·have e:i=n:=by
     rcases Nat.lt_or_eq_of_le hi with y | y
     ·exact absurd z (good i y).2
     ·exact y
    subst e
    exact⟨_,rfl,(q1 gi).2 p H5 (s1.trans s5) h5⟩
  ·intro σ H Q Q' m h
   obtain⟨v,hv,a,b,e1,e2,c,e3,r⟩:=h
   exact⟨v,hv,a,b,e1,e2,c,e3,m _ _ r⟩
noncomputable def zcU (K:PySem.W.Frag) (C:Addr):Sp:=fun vs H Q E=>∃(a:Addr) (rd:List Int) (turns bells late:Int) (n:Nat),vs=[.ref a,.int turns,.int bells,.int late]∧SqL K H a (rd.map V.int)∧zgQ rd turns bells late n ∧
 (GoodR turns bells late (grp (turns+late) (n:Int) rd)→qY turns late rd n=0∧3≤cnt turns bells late∧val (cnt turns bells late-1) ((List.range n).map fun i=>qY turns late rd i-1)≤QC∧∀H',Same H H'→Q (.str (tx (chs (val (cnt turns bells late-1) ((List.range n).map fun i=>qY turns late rd i-1)).toNat).reverse)) H') ∧
 (¬GoodR turns bells late (grp (turns+late) (n:Int) rd)→∀H',Same H H'→E (.ref C) none H')
theorem QF:FnScope ["reading","turns","bells","late","figures","base","refusal"] ["reading","turns","bells","late"] (defScope wD):=⟨rfl,rfl,rfl,by decide +kernel,rfl,by decide +kernel,by decide +kernel⟩
theorem za8 {zf:Addr}{zV:Addr} (D:Def K mg "received" wD ["reading","turns","bells","late"]) (T:Txt K mg) (Zn:FnE P w K mg base 4 "messages_ahead_of_end" ["reading","turns","bells","late"] (zgg K zf)) (zH:Fn P w K mg base 2 "box_count" ["turns","bells","late"] Zd) (Xv:Fn P w K mg base 1 "number_of_parts" ["figures","base"] (zhr K)) (JD:FnE P w K mg base 2 "note_of" ["number"] (zgf zV)):FnE P w K mg base 5 "received" ["reading","turns","bells","late"] (zcU K zf):=by
 have zd2:=zcy JD
 refine D.fnE QF (fun vs H Q E h=>?_) (fun f cdv A outer s H vs Q E hr h=>?_)
 ·obtain⟨a,rd,t,b,l,n,rfl,_⟩:=h
  rfl
 ·obtain⟨a,rd,turns,bells,late,n,rfl,hS,R,q1,q2⟩:=h
  have R':=R
  obtain⟨rl,b0,b60,l0,lb,L0,t0,tb,n100,len,good⟩:=R'
  refine⟨_,(pss_cons (VR (k:=4) (own:=["message"]) (fr:=[]) (ix:=[]) rfl QF.nd rfl rfl ⟨rfl,rfl,rfl,rfl,rfl,rfl⟩ (pi_list (zZ Zn (hr.mono (by decide)) (by rfl) zy (pa_cons (pv 0) (pa_cons (pv 1) (pa_cons (pv 2) (pa_cons (pv 3) pa_nil)))))) (fun _ _ _ _ _=>(pg_name (i:=0) (show (["message"]:List Str).Nodup by decide +kernel) rfl (Or.inl rfl))) (fun _ _ _ _ _=>qZ) (fun _ _ _ _ _=>(pe_op zO (pv 0) pe_int)))
   (pss_cons (ps_set (i:=5) QF.nd rfl (Or.inl rfl) (pe_op zO (zr zH (hr.mono (by decide)) (by rfl) (pa_cons (pv 1) (pa_cons (pv 2) (pa_cons (pv 3) pa_nil)))) pe_int))
   (pss_one (zfp (pss_one (ps_ret (zr zd2 (hr.mono (by decide)) (by rfl) (pa_cons (zr Xv (hr.mono (by decide)) (by rfl) (pa_cons (pv 4) (pa_cons (pv 5) pa_nil))) pa_nil)))))))),?_⟩
  have lb8:intBits late≤8000:=za lb (by decide)
  have cb:intBits (cnt turns bells late)≤8000:=za (zbK (turns:=turns) (bells:=bells) (late:=late) (by omega) (by omega) l0 (by omega) tb (by decide)) (by decide)
  refine⟨_,rfl,_,rfl,_,rfl,_,rfl,a,rd,turns,bells,late,n,rfl,hS,R,fun g=>?_,q2⟩
  obtain⟨z0,c3,vm,q⟩:=q1 g
  refine⟨z0,fun p H1 s1 h1=>?_⟩
  have mb:∀i:Nat,i<n→1≤qY turns late rd i∧qY turns late rd i<cnt turns bells late:=fun i hi=>by
   obtain⟨g1,g2⟩:=good i hi
   have h1:=vp (jG late (grp (turns+late) (i:Int) rd)) (jG late (grp (turns+late) (i:Int) rd)).length
   have h2:jH (jG late (grp (turns+late) (i:Int) rd))=vh (jG late (grp (turns+late) (i:Int) rd)) (jG late (grp (turns+late) (i:Int) rd)).length:=rfl
   have h3:=g1.2.2
   unfold qY at g2 ⊢
   omega
  refine⟨p,rfl,⟨_,SqL.of h1⟩,fun acc hacc=>jA (K:=K) (a:=p) (xs:=(List.range n).map fun i=>V.int (qY turns late rd i)) (fun i=>V.int (qY turns late rd i-1)) (SqL.of h1) hacc (by rw [List.length_map,List.length_range];exact Nat.le_of_lt (small1000 (by omega))) (fun i v H6 R' hx s6 hR=>?_) ?_⟩
  ·rw [List.getElem?_map] at hx
   obtain⟨j,hj,rfl⟩:=Option.map_eq_some_iff.mp hx
   have ej:j=i:=by
    have h3:=(List.getElem?_eq_some_iff.mp hj).2
    rw [List.getElem_range] at h3
    exact h3.symm
   subst ej
   exact⟨rfl,_,rfl,_,_,rfl,rfl,hR⟩
  rw [List.length_map,List.length_range]
  have ef:(List.range n).map (fun i=>V.int (qY turns late rd i-1))=((List.range n).map fun i=>qY turns late rd i-1).map V.int:=by rw [List.map_map];rfl
  rw [ef]
  have fb:∀x∈(List.range n).map (fun i=>qY turns late rd i-1),0≤x∧x<cnt turns bells late-1:=fun x hx=>by
   obtain⟨i,hi,rfl⟩:=List.mem_map.mp hx
   have:=mb i (List.mem_range.mp hi)
   omega
  have fl:((List.range n).map fun i=>qY turns late rd i-1).length≤8000:=by rw [List.length_map,List.length_range];omega
  have v0:=Z5 (show 0≤cnt turns bells late-1 by omega) _ (fun x hx=>(fb x hx).1)
  have s2:=s1.put (o:=.lst (((List.range n).map fun i=>qY turns late rd i-1).map V.int)) hacc
  have h2:(upd H1 acc (.lst (((List.range n).map fun i=>qY turns late rd i-1).map V.int))) acc=some (.lst (((List.range n).map fun i=>qY turns late rd i-1).map V.int)):=upd_same
  generalize upd H1 acc (.lst (((List.range n).map fun i=>qY turns late rd i-1).map V.int))=H2 at s2 h2 ⊢
  generalize (List.range n).map (fun i=>qY turns late rd i-1)=fs at fb fl v0 vm q h2 ⊢
  refine⟨_,rfl,_,rfl,_,rfl,turns,bells,late,rfl,b0,by omega,l0,lb8,za tb (by decide),_,_,rfl,rfl,?_⟩
  exact⟨_,rfl,_,rfl,acc,fs,_,rfl,SqL.of h2,fl,by omega,Xl (y:=cnt turns bells late) (by omega) (by omega) cb,fb,fun H3 s3=>⟨_,rfl,fun _ H4 s4=>q _ ((s2.trans s3).trans s4),fun ng=>absurd ⟨v0,vm⟩ ng⟩⟩
end
theorem Mt.plain {P:Program}{w:World}{K:PySem.W.Frag}{mg:Str→Option Value}{base:Heap}{k:Nat}{C:Addr}{m:Str}{ps:List Str}{sp:Sp} (F:MtE P w K mg base k C m ps sp):Mt P w K mg base k C m ps (fun vs H Q _=>sp vs H Q E0):=by
 obtain⟨f,fd,F,r⟩:=F
 refine⟨f,fd,⟨fun vs H Q _ h=>F.len vs H Q E0 h,fun A outer s H args us vs Q E hr e0 hb rv h=>codeAny_mono (F.run A outer s H args us vs Q E0 hr e0 hb rv h) fun rr s' q=>?_⟩,r⟩
 cases rr with
 | ok fl=>cases fl <;> exact q
 | error e=>
  obtain⟨_,_,_,_,_,_,_,_,_,_,_,_,z⟩:=q
  exact z.elim
theorem ze5 {P:Program}{w:World}{K:PySem.W.Frag}{mg:Str→Option Value}{base:Heap}{k:Nat}{x:Str}{st:Stmt}{ps:List Str} (D:Def K mg x st ps):FnE P w K mg base k x ps (fun _ _ _ _=>False):=by
 obtain⟨f,fd,F,b,m⟩:=D
 exact⟨f,fd,⟨fun _ _ _ _ h=>h.elim,fun _ _ _ _ _ _ _ _ _ _ _ _ _ h=>h.elim⟩,F.kp,b,m⟩
theorem zca (s sub:Str) (hi limit:Nat):∀(l:List Nat) (st:Array Nat×Nat),limit≤st.fst.size→forIn (m:=Id) l st (StrLaws.occBody s sub hi limit)=pure st
 | [],st,_=>rfl
 | a::l,st,h=>by
  rw [List.forIn_cons]
  unfold StrLaws.occBody
  rw [if_neg (by omega)]
  exact zca s sub hi limit l _ h
theorem zdx {s:Str}{limit i free:Nat}{l:List Nat}{f:Array Nat} (hf:f.size<limit) (hi:free≤i) (h:(cpl s)[i]?=some 32):forIn (m:=Id) (i::l) (f,free) (StrLaws.occBody s sp s.length limit)=forIn (m:=Id) l (f.push i,i+1) (StrLaws.occBody s sp s.length limit):=by
 have h1:=(StrLaws.subAt_one s 32 i).mpr h
 rw [← zbs] at h1
 rw [List.forIn_cons]
 conv=>lhs;unfold StrLaws.occBody
 rw [if_pos ⟨⟨⟨hf,hi⟩,h1.1⟩,h1.2⟩]
 rfl
theorem yM {s:Str}{limit i free c:Nat}{l:List Nat}{f:Array Nat} (h:(cpl s)[i]?=some c) (hc:c≠32):forIn (m:=Id) (i::l) (f,free) (StrLaws.occBody s sp s.length limit)=forIn (m:=Id) l (f,free) (StrLaws.occBody s sp s.length limit):=by
 have h1:¬(i+sp.length≤s.length∧Builtin.Str.subAt s sp i=true):=fun z=>by
  rw [zbs] at z
  have:=(StrLaws.subAt_one s 32 i).mp z
  rw [show s.cps.toList=cpl s from rfl,h] at this
  exact hc (Option.some.inj this)
 rw [List.forIn_cons]
 conv=>lhs;unfold StrLaws.occBody
 rw [if_neg (fun z=>h1 ⟨z.1.2,z.2⟩)]
 rfl
theorem zgR:cpl ("note one ":Str)=[110,111,116,101,32,111,110,101,32]:=by decide +kernel
theorem yN (x:Str):cpl ("note one "++x)=[110,111,116,101,32,111,110,101,32]++cpl x:=by rw [wY,zgR]
theorem Wg (x:Str):("note one "++x).length=9+x.length:=by rw [← qt,yN,List.length_append,qt];rfl
theorem ze6 (x:Str):Builtin.Str.occurrences ("note one "++x) sp 0 ("note one "++x).length 2=[4,8]:=by
 rw [StrLaws.occ_eq]
 have e:=yN x
 have el:=Wg x
 have g:∀i:Nat,i<9→(cpl ("note one "++x))[i]?=([110,111,116,101,32,111,110,101,32]:List Nat)[i]?:=fun i hi=>by rw [e];exact List.getElem?_append_left hi
 have er:List.range' 0 (("note one "++x).length+1-0)=0::1::2::3::4::5::6::7::8::List.range' 9 (x.length+1):=by
  rw [el,show 9+x.length+1-0=x.length+1+1+1+1+1+1+1+1+1+1 by omega]
  rfl
 rw [er,yM (c:=110) (g 0 (by decide)) (by decide),yM (c:=111) (g 1 (by decide)) (by decide),yM (c:=116) (g 2 (by decide)) (by decide),yM (c:=101) (g 3 (by decide)) (by decide),zdx (by decide) (by decide) (g 4 (by decide)),yM (c:=111) (g 5 (by decide)) (by decide),yM (c:=110) (g 6 (by decide)) (by decide),yM (c:=101) (g 7 (by decide)) (by decide),zdx (by decide) (by decide) (g 8 (by decide)),zca _ _ _ _ _ _ (by decide)]
 rfl
theorem za9 (s:Str) (i j:Nat):cpl (Builtin.Str.strSub s i j)=((cpl s).take j).drop i:=by
 unfold Builtin.Str.strSub cpl
 rw [Array.toList_extract,List.extract_eq_drop_take]
 simp [List.drop_take]
theorem ze7 (x:Str):Builtin.Str.strKind sp≤Builtin.Str.strKind x:=by
 have h:Builtin.Str.strKind sp=1:=by decide +kernel
 rw [h]
 unfold Builtin.Str.strKind
 split
 ·exact Nat.le_refl _
 split <;> decide
theorem zd3 (x:Str):Txt.splitMax ("note one "++x) " " 2=[("note":Str),"one",x]:=by
 have el:=Wg x
 have hk:=ze7 ("note one "++x)
 have hl:sp.length=1:=by decide +kernel
 unfold Txt.splitMax
 rw [Jy,if_neg (by simp only [Bool.or_eq_true,decide_eq_true_eq];omega)]
 have lo:limitOf ("note one "++x) 2=2:=by
  unfold limitOf
  simp
 rw [lo,ze6,if_neg (by decide),StrLaws.partsBetween_eq]
 show [Builtin.Str.strSub ("note one "++x) 0 4,Builtin.Str.strSub ("note one "++x) (4+sp.length) 8,Builtin.Str.strSub ("note one "++x) (8+sp.length) ("note one "++x).length]=_
 have a1:Builtin.Str.strSub ("note one "++x) 0 4="note":=v9 (by rw [za9,yN];show _=cpl ("note":Str);rw [show cpl ("note":Str)=[110,111,116,101] by decide +kernel];rfl)
 have a2:Builtin.Str.strSub ("note one "++x) (4+sp.length) 8="one":=v9 (by rw [za9,yN,hl,show cpl ("one":Str)=[111,110,101] by decide +kernel];rfl)
 have a3:Builtin.Str.strSub ("note one "++x) (8+sp.length) ("note one "++x).length=x:=v9 (by
  rw [za9,yN,hl,List.take_of_length_le (by rw [← yN,qt];exact Nat.le_refl _)]
  rfl)
 rw [a1,a2,a3]
theorem zfR:vQ "note":=by unfold vQ;decide +kernel
theorem zgS:vQ "one":=by unfold vQ;decide +kernel
theorem zcV (x:Str):Txt.split ("note one "++x) " "=("note":Str)::("one":Str)::Txt.split x sp:=by
 have e:("note one "++x:Str)=Txt.join " " (("note":Str)::("one":Str)::Txt.split x sp):=by
  apply v9
  rw [ZP (by simp),ZP (Kp x sp),Jy,zbt,yN,show cpl ("note":Str)=[110,111,116,101] by decide +kernel,show cpl ("one":Str)=[111,110,101] by decide +kernel]
  rfl
 rw [e]
 exact ZQ zfR zgS (zcr x)
theorem zas:∀(ws:List Str) (a:Array Nat),(ws.foldl (fun(acc:Array Nat) (p:Str)=>acc++("":Str).cps++p.cps) a).toList=a.toList++(ws.map cpl).flatten
 | [],a=>by simp
 | x::ws,a=>by
  have:("":Str).cps=#[]:=by decide +kernel
  rw [List.foldl_cons,zas ws,this]
  simp [cpl]
theorem zd4 (ws:List Str):cpl (Txt.join "" ws)=(ws.map cpl).flatten:=by
 unfold Txt.join Builtin.Str.glued
 cases ws with
 | nil=>rfl
 | cons x ws=>
  show Array.toList (List.foldl _ _ _)=_
  rw [List.drop_succ_cons,List.drop_zero,zas]
  rfl
noncomputable def came (ms:List Int):Str:=Txt.join "" (ms.map fun n=>" "++txt n)
theorem zcb (ms:List Int):cpl (came ms)=(ms.map fun n=>32::cpl (txt n)).flatten:=by
 unfold came
 rw [zd4,List.map_map]
 congr 1
 refine List.map_congr_left fun n _=>?_
 show cpl (" "++txt n)=_
 rw [wY,zgD]
 rfl
theorem zat (x:List Nat):∀ys:List (List Nat),wV 32 (x::ys)=x++(ys.map fun y=>32::y).flatten
 | []=>by simp [wV]
 | y::ys=>by
  show x++32::wV 32 (y::ys)=_
  rw [zat y ys]
  simp
theorem Wh {h w0 nm:Str} (e:cpl h=cpl w0++32::cpl nm) (ms:List Int):h++came ms=Txt.join " " (w0::nm::ms.map txt):=by
 apply v9
 rw [wY,e,zcb,Ja,List.map_cons,zat,List.map_cons,List.map_cons,List.flatten_cons,List.map_map,List.map_map]
 simp [Function.comp_def]
theorem Wi {ms:List Int} (hb:∀n∈ms,0≤n∧n<10 ^ 60):(came ms).length≤ms.length*61:=by
 rw [← qt,zcb]
 induction ms with
 | nil=>exact Nat.le_refl _
 | cons n ms ih=>
  have h1:=hb n (List.mem_cons_self ..)
  have h2:=(xT (k:=60) (by decide) h1.1 h1.2).le
  rw [List.map_cons,List.flatten_cons,List.length_append,List.length_cons,qt,List.length_cons]
  have:=ih fun m hm=>hb m (List.mem_cons_of_mem _ hm)
  omega
theorem zcc {L late:Int} (L0:0≤L):∀(bss:List (List Int)) (k:Int),(∀bs∈bss,∀x∈zq late bs,0≤x∧x<L)→∀y∈qx L late k bss,k*L≤y∧y<(k+(bss.length:Int))*L
 | [],_,_,_,h=>nomatch h
 | bs::r,k,h,y,hy=>by
  rcases List.mem_append.mp hy with z | z
  ·obtain⟨x,hx,rfl⟩:=List.mem_map.mp z
   have hb:=h bs (List.mem_cons_self ..) x hx
   have e:(k+((bs::r).length:Int))*L=k*L+(((r.length:Int)+1)*L):=by rw [Int.add_mul,List.length_cons];rfl
   have m:L≤((r.length:Int)+1)*L:=by
    rw [Int.add_mul,Int.one_mul]
    have:=Int.mul_nonneg (Int.natCast_nonneg r.length) L0
    omega
   show k*L≤k*L+x∧k*L+x < _
   omega
  ·have ih:=zcc L0 r (k+1) (fun b hb=>h b (List.mem_cons_of_mem _ hb)) y z
   rw [show k+1+(r.length:Int)=k+((bs::r).length:Int) by rw [List.length_cons];omega,Int.add_mul,Int.one_mul] at ih
   omega
theorem zhv:tops 6<2 ^ 29:=by decide +kernel
theorem zle {l:List Nat} (h:∀c∈l,c∈sg) (hl:l.length≤6):0≤nv l∧nv l<2 ^ 29:=by
 have hr:∀c∈l.reverse,c∈sg:=fun c hc=>h c (List.mem_reverse.mp hc)
 have h1:=yf _ hr
 have h2:=(QB _ hr).2
 have h3:=Vb (show l.reverse.length≤6 by rw [List.length_reverse];exact hl)
 have h4:=zhv
 have e:nv l=val 27 (l.reverse.map dig):=rfl
 omega
theorem qp.monoX {CD CF x d e:Addr}{n:Nat}{fr:Str→Option (Int×Int×Int)} {H H':Hp}{kv:List (Key×V)} (he:H e=some (.dK kv)) (ne:d≠e) (s:jT e H H') (h:qp CD CF x d n fr H):qp CD CF x d n fr H':=by
 obtain⟨⟨dx,h1⟩,⟨kvs,h2,h3,h4,h5⟩,h6⟩:=h
 refine⟨⟨dx,s _ _ h1 (fun z=>by rw [z,he] at h1;cases h1)⟩,⟨kvs,s _ _ h2 ne,h3,h4,fun nm t b l q=>(h5 nm t b l q).imp fun p hp=>⟨hp.1,hp.2.imp fun dx h=>s _ _ h (fun z=>by rw [z,he] at h;cases h)⟩⟩,h6⟩
theorem Xw:zU "one":=⟨by decide +kernel,by decide +kernel,by decide +kernel⟩
theorem yO:zU "other":=⟨by decide +kernel,by decide +kernel,by decide +kernel⟩
theorem zcd:zU "lesser":=⟨by decide +kernel,by decide +kernel,by decide +kernel⟩
theorem zgT (x:Str):tx x.cps.toList=x:=Str.ext' (by simp [tx])
theorem Jc {x:Str}{t b l:Int}{ys:List Int}{bss:List (List Int)} (S:ze3 x t b l ys bss) (g:Qk x) (n6:x.cps.toList.length≤6) (b1:1≤b) (bt:b≤t) (l0:0≤l) (c3:3≤cnt t b l) :
  ys.length≤29∧(∀(i:Nat) (bs:List Int),bss[i]?=some bs→∃m,(ys.map (·+1)++[0])[i]?=some m∧m<cnt t b l∧qi bs∧bs.length=b.toNat∧jH bs=m)∧(∀bs∈bss,qi bs∧bs.length=b.toNat∧jH bs<cnt t b l)∧(qx (t+l) l 0 bss).length=(ys.length+1)*b.toNat∧(∀bs∈bss,∀y∈zq l bs,0≤y∧y<t)∧∀y∈qx (t+l) l 0 bss,0≤y∧y<30*(t+l):=by
 have nb:=zle g.1 n6
 have zgO:ys.length≤29:=zdu (by omega) S.bd S.last (by rw [S.num];exact nb.2)
 have ml:(ys.map (·+1)++[0]).length=bss.length:=by rw [S.len,List.length_append,List.length_map];rfl
 have mlt:∀m∈ys.map (·+1)++[0],m<cnt t b l:=fun m hm=>by
  rcases List.mem_append.mp hm with z | z
  ·obtain⟨y,hy,rfl⟩:=List.mem_map.mp z
   have:=S.bd y hy
   omega
  ·rw [List.mem_singleton.mp z];omega
 have zfS:∀(i:Nat) (bs:List Int),bss[i]?=some bs→∃m,(ys.map (·+1)++[0])[i]?=some m∧m<cnt t b l∧qi bs∧bs.length=b.toNat∧jH bs=m:=fun i bs hi=>by
  have il:=(List.getElem?_eq_some_iff.mp hi).1
  have hm:(ys.map (·+1)++[0])[i]?=some (ys.map (·+1)++[0])[i]:=List.getElem?_eq_getElem (by rw [ml];exact il)
  exact⟨_,hm,mlt _ (List.mem_of_getElem? hm),S.box i bs _ hi hm⟩
 have hall:∀bs∈bss,qi bs∧bs.length=b.toNat∧jH bs<cnt t b l:=fun bs hbs=>by
  obtain⟨i,hi⟩:=List.getElem?_of_mem hbs
  obtain⟨m,hm,hlt,g1,g2,g3⟩:=zfS i bs hi
  exact⟨g1,g2,by omega⟩
 have hbl:∀bs∈bss,∀y∈zq l bs,0≤y∧y<t:=fun bs hbs y hy=>by
  obtain⟨g1,g2,g3⟩:=hall bs hbs
  exact zaU (turns:=t) g1 l0 (by rw [g2,show ((b.toNat:Nat):Int)=b by omega];exact g3) y hy
 refine⟨zgO,zfS,hall,?_,hbl,fun y hy=>?_⟩
 ·rw [zaq bss 0 fun bs hbs=>(hall bs hbs).2.1,S.len]
 ·have h1:=zcc (L:=t+l) (by omega) bss 0 (fun bs hbs z hz=>by have:=hbl bs hbs z hz;omega) y hy
  have h2:(0+(bss.length:Int))*(t+l)≤30*(t+l):=Int.mul_le_mul_of_nonneg_right (by rw [S.len];omega) (by omega)
  omega
theorem zcW {x:Str}{t b l:Int}{ys rd ds:List Int}{bss:List (List Int)} (S:ze3 x t b l ys bss) (g:Qk x) (n6:x.cps.toList.length≤6) (b1:1≤b) (bt:b≤t) (l0:0≤l) (c3:3≤cnt t b l)
  (dl:(qx (t+l) l 0 bss).length=ds.length) (db:∀d∈ds,0≤d∧d≤l) (pmr:rd.Perm (sums (qx (t+l) l 0 bss) ds)) (pw:rd.Pairwise (·≤·)):zar rd t b l (ys.map (·+1)++[0]):=by
 obtain⟨zgO,zfS,hall,rl,hbl,_⟩:=Jc S g n6 b1 bt l0 c3
 have ml:(ys.map (·+1)++[0]).length=bss.length:=by rw [S.len,List.length_append,List.length_map];rfl
 have hL:0<t+l:=by omega
 have gr:=zb5 (L:=t+l) (late:=l) hL l0 bss 0 ds (fun bs hbs y hy=>by have:=hbl bs hbs y hy;omega) dl.symm db
 have gp:∀k:Int,(grp (t+l) k rd).Perm (grp (t+l) k (sums (qx (t+l) l 0 bss) ds)):=fun k=>zeU pmr
 refine⟨fun i m hm=>?_,fun k hk=>?_⟩
 ·have il:i<bss.length:=by rw [← ml];exact(List.getElem?_eq_some_iff.mp hm).1
  have hi:=List.getElem?_eq_getElem il
  obtain⟨m',hm',hlt,g1,g2,g3⟩:=zfS i _ hi
  rw [hm] at hm'
  cases hm'
  obtain⟨es,el,ed,eg⟩:=(gr.2 i).1 _ hi
  rw [show (0:Int)+(i:Int)=(i:Int) by omega] at eg
  have pi:=gp (i:Int)
  rw [eg] at pi
  have al:=V6 (Qu l0 g1) (zaL el ed) pi (zcO hL pw)
  have ll:=Kz al
  rw [ql,g2] at ll
  have eb:=KD l0 al
  refine⟨⟨by rw [ll];omega,by rw [eb];exact g1,by rw [eb,g3];exact hlt⟩,?_⟩
  unfold qY
  rw [eb,g3]
 ·rcases (by omega:k<0∨(0≤k∧k<((ys.map (·+1)++[0]).length:Int))∨((ys.map (·+1)++[0]).length:Int)≤k) with z | z | z
  ·have:=gp k
   rw [gr.1 k z] at this
   exact List.Perm.eq_nil this
  ·exact absurd z hk
  ·rw [ml] at z
   have h0:=(gr.2 k.toNat).2 (List.getElem?_eq_none (by omega))
   rw [show (0:Int)+((k.toNat:Nat):Int)=k by omega] at h0
   have:=gp k
   rw [h0] at this
   exact List.Perm.eq_nil this
section
variable {P:Program}{w:World}{K:PySem.W.Frag}{mg:Str→Option Value}{base:Heap}{CD CF CO CN CT CR:Addr}
noncomputable def zba (K:PySem.W.Frag) (CF CR:Addr):Sp:=fun vs H Q E=>∃(r p:Addr) (t b l:Int),vs=[.ref r,.ref p]∧zeL CF H p t b l∧K3 t b l∧3≤cnt t b l∧zcU K CR [.ref r,.int t,.int b,.int l] H Q E
theorem Yb:FnScope ["reading","frame"] ["reading","frame"] (defScope j4):=⟨rfl,rfl,rfl,by decide +kernel,rfl,by decide +kernel,by decide +kernel⟩
theorem Yc (D:Def K mg "note_heard" j4 ["reading","frame"]) (T:Txt K mg) (hT:DkT K CD CF){zf:Addr} (zF:mg "NoReading"=some (.ref zf)) (zG:PySem.W.excIn K zf bmV "ValueError.__new__"=true){qX:Tok} (z7:mg "LEAST_COUNT"=some (.int 3 qX)) (vY:Fn P w K mg base 3 "count_of" ["frame"] (X5 CF)) (QG:FnE P w K mg base 5 "received" ["reading","turns","bells","late"] (zcU K zf)):FnE P w K mg base 6 "note_heard" ["reading","frame"] (zba K CF zf):=by
 refine D.fnE Yb (fun vs H Q E h=>?_) (fun f cdv A outer s H vs Q E hr h=>?_)
 ·obtain⟨r,p,t,b,l,rfl,_⟩:=h
  rfl
 ·obtain⟨r,p,t,b,l,rfl,ip,ok,c3,q⟩:=h
  refine⟨_,(pss_cons (ps_if (pt_cmpR yt (zr vY (hr.mono (by decide)) (by rfl) (pa_cons (pv 1) pa_nil)) (pe_glob (v:=.int 3) (by rfl) z7 ⟨_,rfl⟩) (nomark _))
    (pss_one (zY PySem.F.excBase_ValueError zG (by rfl) zF (pa_cons pe_str pa_nil)))
    pss_nil)
   (pss_one (ps_ret (zZ QG (hr.mono (by decide)) (by rfl) zy (pa_cons (pv 0) (pa_cons (pe_fld (pv 1) rfl) (pa_cons (pe_fld (pv 1) rfl) (pa_cons (pe_fld (pv 1) rfl) pa_nil)))))))),?_⟩
  have ip':=ip
  obtain⟨pdx,hp⟩:=ip
  exact⟨_,rfl,p,t,b,l,rfl,ip',ok,_,_,rfl,rfl,_,rfl,ifF (by omega) ⟨_,rfl,_,rfl,p,CF,pdx,_,_,rfl,hp,hT.cf,hT.n1,yG ..,_,rfl,p,CF,pdx,_,_,rfl,hp,hT.cf,hT.n2,yH ..,_,rfl,p,CF,pdx,_,_,rfl,hp,hT.cf,hT.n3,Z3 ..,q⟩⟩
end
section
variable {K:PySem.W.Frag}{CD CF CO CN CT CR C1 C2 C3:Addr}{NH SN CH:Sp}{x d:Addr}{n:Nat}{fr:Str→Option (Int×Int×Int)}{H:Hp}{Q:VK}
theorem zfT:vQ "hear":=by unfold vQ;decide +kernel
structure zce (t b l:Int):Prop where
 b1:1≤b
 b8:b≤8
 bt:b≤t
 t1:t<10 ^ 26
 l0:0≤l
 l1:l<10 ^ 15
theorem zce.ok {t b l:Int} (F:zce t b l):K3 t b l:=by
 obtain⟨b1,b8,bt,t1,l0,l1⟩:=F
 exact zgd (by omega) b8 (by omega) (by omega) l0 (by omega)
theorem zce.bits {t b l:Int} (F:zce t b l):intBits t≤100∧intBits l≤100:=by
 obtain⟨b1,b8,bt,t1,l0,l1⟩:=F
 exact⟨zK (by omega) (by omega),zK (by omega) (by omega)⟩
theorem zd5 {nt:Str}{t b l:Int} (hD:qp CD CF x d n fr H) (e:fr "one"=some (t,b,l)) (F:zce t b l) (g:Qk nt) (n6:nt.cps.toList.length≤6) (c3:3≤cnt t b l)
  (q:∀ys bss H',Same H H'→ze3 nt t b l ys bss→Q (.str (Txt.join " " ((qx (t+l) l 0 bss).map txt))) H'):xu K CD CF CO CN CT CR NH (yo C1 C2 C3) CH [.ref x,.str ("note one "++nt)] H Q E0:=by
 obtain⟨dx,hx⟩:=hD.self
 have Fb:=F.bits
 obtain⟨b1,b8,bt,t1,l0,l1⟩:=F
 have nl:nt.length≤6:=by rw [← qt];exact n6
 have hl:=Wg nt
 refine⟨x,dx,d,_,"note","one"::Txt.split nt sp,rfl,hx,by rw [hl,sizeLine_eq];omega,zcV nt,fun z=>?_,fun z=>?_,fun z=>?_,fun _ _=>?_,fun _ _ _ z=>?_⟩
 ·exact absurd z (by decide +kernel)
 ·exact absurd z (by decide +kernel)
 ·exact absurd z (by decide +kernel)
 ·rw [zd3]
  refine⟨(by show 3≤sizeLine;decide),fun a H' s h=>?_⟩
  refine⟨x,a,d,n,fr,"note","one",nt,rfl,hD.mono s,h,by decide +kernel,fun z=>absurd Xw z,(fun _ z=>by rw [e] at z;cases z),fun _ t' b' l' e' H2 s2=>?_⟩
  rw [e] at e'
  cases e'
  refine⟨nt,t,b,l,rfl,by omega,by omega,by omega,l0,Fb.2,by omega,Fb.1,fun z=>absurd g z,fun _ z=>absurd ⟨b1,bt⟩ z,fun _ _ _ z=>by omega,fun _ _ _ _=>⟨by omega,fun p ys bss H3 s3 h3 S=>?_⟩⟩
  obtain⟨yl,_,_,rl,_,rb⟩:=Jc S g n6 b1 bt l0 c3
  have r8:=Nat.mul_le_mul (show ys.length+1≤30 by omega) (show b.toNat≤8 by omega)
  have r1:=Nat.mul_le_mul (show 1≤ys.length+1 by omega) (show 1≤b.toNat by omega)
  have zlb:(30:Int)*(10 ^ 26+10 ^ 15)≤10 ^ 500:=by decide +kernel
  refine⟨p,qx (t+l) l 0 bss,rfl,SqL.of h3,by omega,fun y hy=>by have:=rb y hy;omega,fun H4 s4=>?_⟩
  unfold yF
  rw [if_neg (fun z=>by rw [z] at rl;simp at rl;omega)]
  exact q ys bss H4 ((s.trans s2).trans (s3.trans s4)) S
 ·refine absurd ⟨rfl,?_⟩ z
  have:=Kp nt sp
  cases h:Txt.split nt sp with
  | nil=>exact absurd h this
  | cons y r=>simp
theorem zcX {nt:Str}{t b l:Int}{ys ms:List Int}{bss:List (List Int)} (hD:qp CD CF x d n fr H) (e:fr "other"=some (t,b,l)) (F:zce t b l) (g:Qk nt) (n6:nt.cps.toList.length≤6) (c3:3≤cnt t b l) (S:ze3 nt t b l ys bss) (ml:ms.length≤240) (mb:∀y∈ms,0≤y∧y<10 ^ 60) (pw:ms.Pairwise (·≤·)) (hd:zar ms t b l (ys.map (·+1)++[0]))
  (q:∀H',Same H H'→Q (.str ("note "++nt)) H'):xu K CD CF CO CN CT CR (zba K CF CR) SN CH [.ref x,.str (Txt.join " " ("hear"::"other"::ms.map txt))] H Q E0:=by
 obtain⟨dx,hx⟩:=hD.self
 have ok:=F.ok
 have Fb:=F.bits
 obtain⟨b1,b8,bt,t1,l0,l1⟩:=F
 have yl:=(Jc S g n6 b1 bt l0 c3).1
 have mb5:∀y∈ms,0≤y∧y<10 ^ 500:=fun y hy=>⟨(mb y hy).1,Int.lt_of_lt_of_le (mb y hy).2 zbZ⟩
 have vm:=Wa fun y hy=>(mb y hy).1
 have gt:=zal mb pw
 refine⟨x,dx,d,_,"hear","other"::ms.map txt,rfl,hx,V8 (by decide +kernel) (by decide +kernel) (by omega) mb5,ZQ zfT (Q9 yO) (yq fun y hy=>(mb y hy).1),fun z=>?_,fun z=>?_,fun _ _ a H' s h=>?_,fun z=>?_,fun _ _ z=>?_⟩
 ·exact absurd z (by decide +kernel)
 ·exact absurd z (by decide +kernel)
 ·refine⟨x,a,d,n,fr,"hear","other",ms.map txt,rfl,hD.mono s,h,by decide +kernel,by rw [List.length_map];omega,fun y hy=>?_,fun _ _ z=>absurd z (by decide +kernel),gt,fun z=>absurd ⟨yO,gt⟩ z,(fun _ _ z=>by rw [e] at z;cases z),fun _ _ t' b' l' e'=>?_⟩
  ·obtain⟨u,hu,rfl⟩:=List.mem_map.mp hy
   exact Nat.le_trans (qL (mb5 u hu).1 (mb5 u hu).2) (by decide)
  rw [e] at e'
  cases e'
  rw [vm]
  refine⟨fun z=>absurd z (by decide +kernel),fun z=>absurd z (by decide +kernel),fun _ _ r p H2 s2 hr ip=>?_⟩
  refine⟨r,p,t,b,l,rfl,ip,ok,c3,r,ms,t,b,l,ys.length,rfl,SqL.of hr,?_,fun _=>?_,fun ng=>?_⟩
  ·obtain⟨m,hm,_⟩:=zb9 (ys:=ys) (i:=ys.length) (Nat.le_refl _)
   have h60:=(hd.part _ m hm).1.1
   exact hd.ok ⟨b1,b8,l0,Fb.2,bt,Fb.1⟩ (fun y hy=>(S.bd y hy).1) (by omega) (by omega) ys.length (Nat.le_refl _) (fun _ _=>rfl) (by omega)
  ·obtain⟨h1,h2,h3⟩:=hd.all (rd':=ms) (fun _ _=>rfl)
   rw [h3,S.num]
   refine⟨h2,c3,(zge g.1 g.2).2,fun H3 s3=>?_⟩
   rw [zgJ g.1,zgT]
   have nl:nt.length≤6:=by rw [← qt];exact n6
   exact⟨"note ",nt,rfl,rfl,by rw [show ("note ":Str).length=5 by decide +kernel,sizeLine_eq];omega,q H3 ((s.trans s2).trans s3)⟩
  ·exact absurd (hd.all (rd':=ms) (fun _ _=>rfl)).1 ng
 ·exact absurd z (by decide +kernel)
 ·refine absurd ⟨.inr (.inr rfl),?_⟩ z
  simp
end
theorem zlf:intBits ((7:Int) ^ (40:Int).toNat)≤120:=by decide
theorem zlg:intBits ((7:Int) ^ (20:Int).toNat)≤60:=by decide
theorem zhw {late lag:Int}:∀(rs:List Int) (ys:List V),ys.length=rs.length→(∀(i:Nat) (v:V),ys[i]?=some v→∃d,v=.int (rs.getD i 0+lag+d)∧0≤d∧d≤late)→∃ds:List Int,rs.length=ds.length∧(∀d∈ds,0≤d∧d≤late)∧ys=(sums (rs.map (·+lag)) ds).map V.int
 | [],[],_,_=>⟨[],rfl,(fun _ z=>nomatch z),rfl⟩
 | [],_::_,h,_=>by simp at h
 | _::_,[],h,_=>by simp at h
 | r::rs,y::ys,h,f=>by
  obtain⟨d,e,d0,d1⟩:=f 0 y rfl
  obtain⟨ds,dl,db,e2⟩:=zhw rs ys (by simpa using h) fun i v hv=>f (i+1) v (by simpa using hv)
  refine⟨d::ds,by simp [dl],fun z hz=>?_,?_⟩
  ·rcases List.mem_cons.mp hz with rfl | hz
   ·exact⟨d0,d1⟩
   ·exact db z hz
  ·rw [e,e2]
   rfl
theorem zhx:∀(ys:List V),(∀(i:Nat) (v:V),ys[i]?=some v→∃c,c∈sg∧v=.str (Vd c))→∃l:List Nat,l.length=ys.length∧(∀c∈l,c∈sg)∧ys=(l.map Vd).map V.str
 | [],_=>⟨[],rfl,(fun _ z=>nomatch z),rfl⟩
 | y::ys,f=>by
  obtain⟨c,hc,e⟩:=f 0 y rfl
  obtain⟨l,ll,hl,e2⟩:=zhx ys fun i v hv=>f (i+1) v (by simpa using hv)
  refine⟨c::l,by simp [ll],fun z hz=>?_,by rw [e,e2];rfl⟩
  rcases List.mem_cons.mp hz with rfl | hz
  ·exact hc
  ·exact hl z hz
theorem zd6 {c:Int} (c0:0≤c):Txt.split ("messages "++txt c) " "=[("messages":Str),txt c]:=by
 have e:("messages "++txt c:Str)=Txt.join " " [("messages":Str),txt c]:=by
  apply v9
  rw [ZP (by simp),join_one,wY,show cpl ("messages ":Str)=cpl "messages"++[32] by decide +kernel,List.append_assoc]
  rfl
 rw [e,Jy]
 refine yu (by simp) fun w hw=>?_
 rcases List.mem_cons.mp hw with rfl | hw
 ·unfold vQ;decide +kernel
 ·rw [List.mem_singleton.mp hw]
  exact zbu c0
theorem ze8 {rs:List Int} (ne:rs≠[]) (h:∀n∈rs,0≤n):Txt.join " " (rs.map txt)≠"none":=fun z=>by
 have h1:Txt.split (Txt.join " " (rs.map txt)) " "=rs.map txt:=by
  rw [Jy]
  exact yu (by simpa using ne) (yq h)
 have h2:Txt.split "none" " "=[("none":Str)]:=by
  have:=yu (ws:=[("none":Str)]) (by simp) (fun w hw=>by rw [List.mem_singleton.mp hw];unfold vQ;decide +kernel)
  rwa [← Jy,join_one] at this
 rw [z,h2] at h1
 cases rs with
 | nil=>exact ne rfl
 | cons n r=>
  have e:("none":Str)=txt n:=(List.cons.inj h1).1
  have hn:=h n (List.mem_cons_self ..)
  obtain⟨m,rfl⟩:∃m:Nat,n=(m:Int):=⟨n.toNat,by omega⟩
  have hd:=zaF m
  rw [← e] at hd
  exact absurd hd (by
   intro hd
   have:=hd 110 (by decide +kernel)
   omega)
section
variable {P:Program}{w:World}{K:PySem.W.Frag}{mg:Str→Option Value}{base:Heap}{CD CF CO CN CT CR:Addr}{NH SN CH:Sp}
noncomputable def zgU:Sp:=fun vs H Q _=>∃c:Int,vs=[.int c]∧∀(p:Addr) (t b l:Int) (H':Hp),Same H H'→H' p=some (.tup [.int t,.int b,.int l])→zce t b l→Q (.ref p) H'
theorem km:FnScope ["cell","bells","late","steps"] ["cell"] (defScope j6):=⟨rfl,rfl,rfl,by decide +kernel,rfl,by decide +kernel,by decide +kernel⟩
theorem ze9 (D:Def K mg "_law_frame" j6 ["cell"]) (T:Txt K mg) (zg:Fn P w K mg base 1 "_law_drawn" ["cell","k"] zcA):Fn P w K mg base 2 "_law_frame" ["cell"] zgU:=by
 refine D.fn km (fun vs H Q E h=>?_) (fun f cdv A outer s H vs Q E hr h=>?_)
 ·obtain⟨c,rfl,_⟩:=h
  rfl
 ·obtain⟨cell,rfl,q⟩:=h
  refine⟨_,(pss_cons (ps_set (i:=1) km.nd rfl (Or.inl rfl) (pe_op zx pe_int (pe_op qe (zr zg (hr.mono (by decide)) (by rfl) (pa_cons (pv 0) (pa_cons pe_int pa_nil))) pe_int)))
   (pss_cons (ps_set (i:=2) km.nd rfl (Or.inl rfl) (pe_op qe (zr zg (hr.mono (by decide)) (by rfl) (pa_cons (pv 0) (pa_cons pe_int pa_nil))) (pe_ix ix_list (pe_lst (pa_cons pe_int (pa_cons (pe_op QW pe_int pe_int) pa_nil))) (pe_op qe (zr zg (hr.mono (by decide)) (by rfl) (pa_cons (pv 0) (pa_cons pe_int pa_nil))) pe_int) (fun _ _=>rfl))))
   (pss_cons (ps_set (i:=3) km.nd rfl (Or.inl rfl) (pe_op qe (zr zg (hr.mono (by decide)) (by rfl) (pa_cons (pv 0) (pa_cons pe_int pa_nil))) (pe_ix ix_list (pe_lst (pa_cons pe_int (pa_cons pe_int (pa_cons (pe_op QW pe_int pe_int) pa_nil)))) (pe_op qe (zr zg (hr.mono (by decide)) (by rfl) (pa_cons (pv 0) (pa_cons pe_int pa_nil))) pe_int) (fun _ _=>rfl))))
   (pss_one (ps_ret (pe_tup (pa_cons (pe_op zx (pe_op zx (pv 1) (pe_op qj (pv 3) (pe_op zx (pv 2) pe_int))) (pe_op qe (zr zg (hr.mono (by decide)) (by rfl) (pa_cons (pv 0) (pa_cons pe_int pa_nil))) (pe_op zx (pv 2) pe_int))) (pa_cons (pv 1) (pa_cons (pv 2) pa_nil))))))))),?_⟩
  refine⟨_,rfl,cell,0,rfl,by decide,fun d0 d00 d01=>⟨_,_,rfl,rfl,(by decide),_,_,rfl,rfl,?_⟩⟩
  have bb:1≤1+d0 % 8∧1+d0 % 8≤8:=by omega
  generalize 1+d0 % 8=b at bb ⊢
  refine⟨_,rfl,cell,1,rfl,by decide,fun d1 d10 d11=>⟨_,_,rfl,rfl,⟨by decide,by decide,by decide⟩,(by show 2≤sizeLine;decide),fun pl hpl=>?_⟩⟩
  have sA:Same H (upd H pl (.lst [V.int 7,V.int (10 ^ (15:Int).toNat)])):=Same.new hpl
  have hA:(upd H pl (.lst [V.int 7,V.int (10 ^ (15:Int).toNat)])) pl=some (.lst [V.int 7,V.int (10 ^ (15:Int).toNat)]):=upd_same
  generalize upd H pl (.lst [V.int 7,V.int (10 ^ (15:Int).toNat)])=H1 at sA hA ⊢
  refine⟨_,rfl,cell,2,rfl,by decide,fun d2 d20 d21=>⟨_,_,rfl,rfl,(by decide),?_⟩⟩
  obtain⟨m1,e1,hm1⟩:∃m1:Int,atI [V.int 7,V.int (10 ^ (15:Int).toNat)] (d2 % 2)=some (V.int m1)∧0<m1∧m1≤10 ^ 15:=by
   rcases (by omega:d2 % 2=0∨d2 % 2=1) with z | z
   ·exact⟨7,by rw [z];rfl,by decide⟩
   ·exact⟨10 ^ (15:Int).toNat,by rw [z];rfl,by decide⟩
  refine⟨_,_,_,_,rfl,rfl,SqL.of hA,e1,_,_,rfl,rfl,by omega,?_⟩
  have l0:=Int.emod_nonneg d1 (show m1≠0 by omega)
  have l1:=Int.emod_lt_of_pos d1 hm1.1
  have ll:0≤d1 % m1∧d1 % m1<10 ^ 15:=by omega
  generalize d1 % m1=l at ll ⊢
  refine⟨_,rfl,cell,3,rfl,by decide,fun d3 d30 d31=>⟨_,_,rfl,rfl,⟨by decide,by decide,by decide⟩,(by show 3≤sizeLine;decide),fun pl2 hpl2=>?_⟩⟩
  have sB:Same H1 (upd H1 pl2 (.lst [V.int 7,V.int 7,V.int (10 ^ (9:Int).toNat)])):=Same.new hpl2
  have hB:(upd H1 pl2 (.lst [V.int 7,V.int 7,V.int (10 ^ (9:Int).toNat)])) pl2=some (.lst [V.int 7,V.int 7,V.int (10 ^ (9:Int).toNat)]):=upd_same
  generalize upd H1 pl2 (.lst [V.int 7,V.int 7,V.int (10 ^ (9:Int).toNat)])=H2 at sB hB ⊢
  refine⟨_,rfl,cell,4,rfl,by decide,fun d4 d40 d41=>⟨_,_,rfl,rfl,(by decide),?_⟩⟩
  obtain⟨m2,e2,hm2⟩:∃m2:Int,atI [V.int 7,V.int 7,V.int (10 ^ (9:Int).toNat)] (d4 % 3)=some (V.int m2)∧0<m2∧m2≤10 ^ 9:=by
   rcases (by omega:d4 % 3=0∨d4 % 3=1∨d4 % 3=2) with z | z | z
   ·exact⟨7,by rw [z];rfl,by decide⟩
   ·exact⟨7,by rw [z];rfl,by decide⟩
   ·exact⟨10 ^ (9:Int).toNat,by rw [z];rfl,by decide⟩
  refine⟨_,_,_,_,rfl,rfl,SqL.of hB,e2,_,_,rfl,rfl,by omega,?_⟩
  have s0:=Int.emod_nonneg d3 (show m2≠0 by omega)
  have s1:=Int.emod_lt_of_pos d3 hm2.1
  have ss:0≤d3 % m2∧d3 % m2<10 ^ 9:=by omega
  generalize d3 % m2=st at ss ⊢
  have lb:intBits (l+1)≤60:=zK (by omega) (by omega)
  refine⟨_,rfl,_,rfl,_,rfl,_,_,rfl,rfl,_,_,rfl,rfl,⟨60,60,zK ss.1 (by omega),lb,by decide⟩,_,_,rfl,rfl,_,rfl,cell,5,rfl,by decide,fun d5 d50 d51=>⟨_,rfl,_,_,rfl,rfl,_,_,rfl,rfl,by omega,_,_,rfl,rfl,?_⟩⟩
  have r0:=Int.emod_nonneg d5 (show l+1≠0 by omega)
  have r1:=Int.emod_lt_of_pos d5 (show 0<l+1 by omega)
  generalize d5 % (l+1)=r at r0 r1 ⊢
  have sm:0≤st*(l+1)∧st*(l+1)≤10 ^ 9*10 ^ 15:=⟨Int.mul_nonneg ss.1 (by omega),Int.mul_le_mul (by omega) (by omega) (by omega) (by decide)⟩
  generalize st*(l+1)=u at sm ⊢
  refine⟨_,rfl,_,rfl,(by show 3≤sizeLine;decide),fun pt hpt=>?_⟩
  exact q pt _ b l _ ((sA.trans sB).put hpt) upd_same ⟨bb.1,bb.2,by omega,by omega,ll.1,ll.2⟩
noncomputable def zlh (CD CF:Addr):Sp:=fun vs H Q _=>∃(x d:Addr) (n:Nat) (fr:Str→Option (Int×Int×Int)) (nm:Str) (t b l:Int),vs=[.ref x,.str nm,.int t,.int b,.int l]∧qp CD CF x d n fr H∧n<1000∧zU nm∧K3 t b l∧∀H',jT d H H'→qp CD CF x d (n+1) (K6 fr nm (t,b,l)) H'→Q (.int (cnt t b l)) H'
theorem Jf:FnScope ["desk","name","turns","bells","late","words"] ["desk","name","turns","bells","late"] (defScope j7):=⟨rfl,rfl,rfl,by decide +kernel,rfl,by decide +kernel,by decide +kernel⟩
theorem zd7 (D:Def K mg "_law_count" j7 ["desk","name","turns","bells","late"]) (T:Txt K mg) (yP:Mt P w K mg base 46 CD "told" ["self","order"] (fun vs H Q _=>xu K CD CF CO CN CT CR NH SN CH vs H Q E0)):Fn P w K mg base 47 "_law_count" ["desk","name","turns","bells","late"] (zlh CD CF):=by
 refine D.fn Jf (fun vs H Q E h=>?_) (fun f cdv A outer s H vs Q E hr h=>?_)
 ·obtain⟨x,d,n,fr,nm,t,b,l,rfl,_⟩:=h
  rfl
 ·obtain⟨x,d,n,fr,nm,t,b,l,rfl,hD,hn,g,ok,q⟩:=h
  refine⟨_,(pss_cons (ps_set (i:=5) Jf.nd rfl (Or.inl rfl) (pe_bm PySem.F.plainAttrs_str PySem.F.slot_str_split PySem.F.type_str_split Kq (Km (pv 0) yP (hr.mono (by decide)) (pa_cons (pe_bm PySem.F.plainAttrs_str PySem.F.slot_str_join PySem.F.type_str_join V3 pe_str (pa_cons (pe_lst (pa_cons pe_str (pa_cons (pv 1) (pa_cons (pe_callTy call_str_int (by rfl) T.z_str Jd (pa_cons (pv 2) pa_nil)) (pa_cons (pe_callTy call_str_int (by rfl) T.z_str Jd (pa_cons (pv 3) pa_nil)) (pa_cons (pe_callTy call_str_int (by rfl) T.z_str Jd (pa_cons (pv 4) pa_nil)) pa_nil)))))) pa_nil)) pa_nil)) (pa_cons pe_str pa_nil)))
   (pss_cons (ps_if (pw_or (pt_cmpR op_ne (pe_ix ix_list (pv 5) pe_int (fun _ _=>rfl)) pe_str (nomark _)) (pw_or1 (pt_cmpR Xz (pe_callB call_len_seq (by rfl) T.z_len xQ (pa_cons (pv 5) pa_nil)) pe_int (nomark _)))).pt
    (pss_one (ps_ret pe_int))
    pss_nil)
   (pss_one (ps_ret (pe_callTy XH (by rfl) T.z_int zc3 (pa_cons (pe_ix ix_list (pv 5) pe_int (fun _ _=>rfl)) pa_nil)))))),?_⟩
  obtain⟨dx,hx⟩:=hD.self
  have t5:t<10 ^ 500:=Int.lt_of_lt_of_le ok.t1 zbZ
  have b5:b<10 ^ 500:=Int.lt_of_le_of_lt ok.b1 (by decide +kernel)
  have l5:l<10 ^ 500:=Int.lt_of_lt_of_le ok.l1 zbZ
  refine⟨_,rfl,x,dx,_,rfl,hx,vA (by decide +kernel),rfl,_,rfl,_,rfl,t,rfl,lg ok.t0 t5,_,rfl,b,rfl,lg ok.b0 b5,_,rfl,l,rfl,lg ok.l0 l5,(by show 5≤sizeLine;decide),fun pl hpl=>?_⟩
  have sA:Same H (upd H pl (.lst (([("frame":Str),nm,txt t,txt b,txt l]).map V.str))):=Same.new hpl
  refine⟨" ",pl,[("frame":Str),nm,txt t,txt b,txt l],rfl,rfl,SqL.of upd_same,?_,?_⟩
  ·have h1:=qL ok.t0 t5
   have h2:=qL ok.b0 b5
   have h3:=qL ok.l0 l5
   have h4:=g.le
   have h5:("frame":Str).length=5:=by decide +kernel
   have h6:(" ":Str).length=1:=by decide +kernel
   simp only [List.map_cons,List.map_nil,List.sum_cons,List.sum_nil,List.length_cons,List.length_nil,h5,h6]
   omega
  show xu K CD CF CO CN CT CR NH SN CH [.ref x,.str (Txt.join " " ("frame"::nm::[t,b,l].map txt))] (upd H pl (.lst (([("frame":Str),nm,txt t,txt b,txt l]).map V.str))) _ E0
  refine zcN (hD.mono sA) hn g ok fun H2 s2 hD2=>?_
  have c0:=KJ t b l
  have cl:=qL c0 ok.c1
  refine⟨rfl,_," ",rfl,rfl,za3,by rw [zdp,show ("messages ":Str).length=9 by decide +kernel,sizeLine_eq];omega,fun a ha=>?_⟩
  rw [zd6 c0]
  have s3:Same H2 (upd H2 a (.lst ([("messages":Str),txt (cnt t b l)].map V.str))):=Same.new ha
  have h3:(upd H2 a (.lst ([("messages":Str),txt (cnt t b l)].map V.str))) a=some (.lst ([("messages":Str),txt (cnt t b l)].map V.str)):=upd_same
  generalize upd H2 a (.lst ([("messages":Str),txt (cnt t b l)].map V.str))=H3 at s3 h3 ⊢
  refine⟨_,rfl,a,_,0,_,rfl,rfl,SqL.of h3,(show atI ([("messages":Str),txt (cnt t b l)].map V.str) ((0:Nat):Int)=some (V.str "messages") from atI_nat rfl),rfl,_,rfl,zbg (fun z=>absurd rfl z) (fun _=>⟨_,rfl,_,_,rfl,.inl (SqL.of h3),_,_,rfl,rfl,_,rfl,zbg (fun z=>absurd rfl z) (fun _=>?_)⟩)⟩
  have N:=xT (k:=500) (by decide) c0 ok.c1
  refine⟨_,rfl,a,_,1,_,rfl,rfl,SqL.of h3,(show atI ([("messages":Str),txt (cnt t b l)].map V.str) ((1:Nat):Int)=some (V.str (txt (cnt t b l))) from atI_nat rfl),txt (cnt t b l),z6 (txt (cnt t b l)),rfl,num_reads N (by decide),Nat.le_trans N.le (by decide),?_⟩
  rw [yw c0]
  exact q H3 (((jT.of sA).trans s2).trans (jT.of s3)) (hD2.mono s3)
noncomputable def zhy:Sp:=fun vs H Q _=>∃cell count:Int,vs=[.int cell,.int count]∧0<count∧∀(m:Int) (H':Hp),Same H H'→0≤m→m<count→Q (.int m) H'
theorem Wj:FnScope ["cell","count"] ["cell","count"] (defScope jF):=⟨rfl,rfl,rfl,by decide +kernel,rfl,by decide +kernel,by decide +kernel⟩
theorem zcY (D:Def K mg "_law_number" jF ["cell","count"]) (T:Txt K mg) (zg:Fn P w K mg base 1 "_law_drawn" ["cell","k"] zcA):Fn P w K mg base 2 "_law_number" ["cell","count"] zhy:=by
 refine D.fn Wj (fun vs H Q E h=>?_) (fun f cdv A outer s H vs Q E hr h=>?_)
 ·obtain⟨a,b,rfl,_⟩:=h
  rfl
 ·obtain⟨cell,count,rfl,c0,q⟩:=h
  refine⟨_,(pss_one (ps_ret (pe_ix ix_list (pe_lst (pa_cons pe_int (pa_cons (pe_op zO (pv 1) pe_int) (pa_cons (pe_op qe (pe_op qj (pe_op qj (zr zg (hr.mono (by decide)) (by rfl) (pa_cons (pv 0) (pa_cons pe_int pa_nil))) (zr zg (hr.mono (by decide)) (by rfl) (pa_cons (pv 0) (pa_cons pe_int pa_nil)))) (pe_op QW pe_int pe_int)) (pv 1)) pa_nil)))) (pe_op qe (zr zg (hr.mono (by decide)) (by rfl) (pa_cons (pv 0) (pa_cons pe_int pa_nil))) pe_int) (fun _ _=>rfl)))),?_⟩
  refine⟨_,rfl,_,_,rfl,rfl,_,rfl,cell,6,rfl,by decide,fun d6 d60 d61=>⟨_,rfl,cell,7,rfl,by decide,fun d7 d70 d71=>⟨_,_,rfl,rfl,⟨62,62,zK d60 (by omega),zK d70 (by omega),by decide⟩,_,_,rfl,rfl,⟨by decide,by decide,by decide⟩,_,_,rfl,rfl,⟨124,120,intBits_mul_le (m:=62) (n:=62) (zK d60 (by omega)) (zK d70 (by omega)),zlf,by decide⟩,_,rfl,_,_,rfl,rfl,c0,(by show 3≤sizeLine;decide),fun pl hpl=>?_⟩⟩⟩
  have m0:=Int.emod_nonneg (d6*d7*7 ^ (40:Int).toNat) (show count≠0 by omega)
  have m1:=Int.emod_lt_of_pos (d6*d7*7 ^ (40:Int).toNat) c0
  generalize d6*d7*7 ^ (40:Int).toNat % count=m at m0 m1 ⊢
  have sA:Same H (upd H pl (.lst [V.int 0,V.int (count-1),V.int m])):=Same.new hpl
  have hA:(upd H pl (.lst [V.int 0,V.int (count-1),V.int m])) pl=some (.lst [V.int 0,V.int (count-1),V.int m]):=upd_same
  generalize upd H pl (.lst [V.int 0,V.int (count-1),V.int m])=H1 at sA hA ⊢
  refine⟨_,rfl,cell,8,rfl,by decide,fun d8 d80 d81=>⟨_,_,rfl,rfl,(by decide),?_⟩⟩
  obtain⟨z,e,z0,z1⟩:∃z:Int,atI [V.int 0,V.int (count-1),V.int m] (d8 % 3)=some (V.int z)∧0≤z∧z<count:=by
   rcases (by omega:d8 % 3=0∨d8 % 3=1∨d8 % 3=2) with z | z | z
   ·exact⟨0,by rw [z];rfl,by omega⟩
   ·exact⟨count-1,by rw [z];rfl,by omega⟩
   ·exact⟨m,by rw [z];rfl,m0,m1⟩
  exact⟨_,_,_,_,rfl,rfl,SqL.of hA,e,q z H1 sA z0 z1⟩
noncomputable def zdy:Sp:=fun vs H Q _=>∃cell:Int,vs=[.int cell]∧∀(l:List Nat) (H':Hp),Same H H'→(∀c∈l,c∈sg)→l.length≤6→Q (.str (tx l)) H'
theorem Xx:FnScope ["cell","signs"] ["cell"] (defScope vd):=⟨rfl,rfl,rfl,by decide +kernel,rfl,by decide +kernel,by decide +kernel⟩
theorem zfa (D:Def K mg "_law_note" vd ["cell"]) (T:Txt K mg) (zg:Fn P w K mg base 1 "_law_drawn" ["cell","k"] zcA):Fn P w K mg base 2 "_law_note" ["cell"] zdy:=by
 refine D.fn Xx (fun vs H Q E h=>?_) (fun f cdv A outer s H vs Q E hr h=>?_)
 ·obtain⟨a,rfl,_⟩:=h
  rfl
 ·obtain⟨cell,rfl,q⟩:=h
  refine⟨_,(pss_cons (ps_set (i:=1) Xx.nd rfl (Or.inr rfl) pe_str)
   (pss_one (ps_ret (pe_bm PySem.F.plainAttrs_str PySem.F.slot_str_join PySem.F.type_str_join V3 pe_str (pa_cons (j9 (own:=["k"]) (fr:=["signs","cell"]) (ix:=[1,0]) rfl ⟨rfl,rfl,rfl,rfl,rfl,rfl⟩ (pi_range1 (by rfl) T.z_range (pa_cons (pe_op qe (zr zg (hr.mono (by decide)) (by rfl) (pa_cons (pv 0) (pa_cons pe_int pa_nil))) pe_int) pa_nil)) (fun _ _ _ _ _=>(pg_name (i:=0) (show (["k","signs","cell"]:List Str).Nodup by decide +kernel) rfl (Or.inl rfl))) (fun _ _ _ _ _=>qZ) (fun _ _ _ _ _=>(pe_ix ix_str (pv 1) (pe_op qe (zr zg (hr.mono (by decide)) (by rfl) (pa_cons (pv 2) (pa_cons (pe_op zx pe_int (pv 0)) pa_nil))) pe_int) (fun _ _=>rfl)))) pa_nil))))),?_⟩
  refine⟨rfl,_,rfl,cell,9,rfl,by decide,fun d9 d90 d91=>⟨_,_,rfl,rfl,(by decide),_,rfl,by omega,by omega,fun acc hacc=>Vq (lo:=0) (n:=(d9 % 7).toNat) (fun _ v=>∃c,c∈sg∧v=.str (Vd c)) hacc (Nat.le_of_lt (small1000 (by omega))) ?_ ?_⟩⟩
  ·intro i H6 R hi s6 hR
   have hi':i<7:=by omega
   refine⟨rfl,_,rfl,_,rfl,_,rfl,_,_,rfl,rfl,cell,_,rfl,zK (by omega) (by omega),fun d d0 d1=>⟨_,_,rfl,rfl,(by decide),SG,_,sg.getD (d % 27).toNat 0,rfl,rfl,Wf,zgL zcQ (by decide) d,hR _ _ (Same.refl _) ⟨_,zgM (fun k=>(zeX k).2) d,rfl⟩⟩⟩
  ·intro ys H2 s2 hY yl yp
   obtain⟨l,ll,hl,rfl⟩:=zhx ys yp
   refine⟨"",acc,l.map Vd,rfl,rfl,SqL.of hY,zap (by omega),?_⟩
   rw [join_ones]
   exact q l H2 s2 hl (by omega)
noncomputable def zfb (K:PySem.W.Frag):Sp:=fun vs H Q _=>∃(cell late lag:Int) (rs:List Int),vs=[.int cell,.str (Txt.join " " (rs.map txt)),.int late,.int lag]∧rs≠[]∧rs.length≤800∧(∀n∈rs,0≤n∧n<10 ^ 50)∧0≤late∧late<10 ^ 50∧0≤lag∧lag<10 ^ 50 ∧
 ∀(ds ms:List Int) (H':Hp),Same H H'→(rs.map (·+lag)).length=ds.length→(∀d∈ds,0≤d∧d≤late)→ms.Perm (sums (rs.map (·+lag)) ds)→ms.Pairwise (·≤·)→(∀n∈ms,0≤n∧n<10 ^ 60)→Q (.str (came ms)) H'
theorem Z7:FnScope ["cell","answer","late","lag","turns","came"] ["cell","answer","late","lag"] (defScope xZ):=⟨rfl,rfl,rfl,by decide +kernel,rfl,by decide +kernel,by decide +kernel⟩
theorem zfU (D:Def K mg "_law_road" xZ ["cell","answer","late","lag"]) (T:Txt K mg) (zg:Fn P w K mg base 1 "_law_drawn" ["cell","k"] zcA):Fn P w K mg base 2 "_law_road" ["cell","answer","late","lag"] (zfb K):=by
 refine D.fn Z7 (fun vs H Q E h=>?_) (fun f cdv A outer s H vs Q E hr h=>?_)
 ·obtain⟨c,l,g,rs,rfl,_⟩:=h
  rfl
 ·obtain⟨cell,late,lag,rs,rfl,ne,rl,rb,l0,l1,g0,g1,q⟩:=h
  refine⟨_,(pss_cons (ps_if (pt_cmpR op_eq (pv 1) pe_str (nomark _))
    (pss_one (ps_ret pe_str))
    pss_nil)
   (pss_cons (ps_set (i:=4) Z7.nd rfl (Or.inr rfl) (j9 (own:=["word"]) (fr:=[]) (ix:=[]) rfl ⟨rfl,rfl,rfl,rfl,rfl,rfl⟩ (pi_list (pe_bm PySem.F.plainAttrs_str PySem.F.slot_str_split PySem.F.type_str_split Kq (pv 1) (pa_cons pe_str pa_nil))) (fun _ _ _ _ _=>(pg_name (i:=0) (show (["word"]:List Str).Nodup by decide +kernel) rfl (Or.inl rfl))) (fun _ _ _ _ _=>qZ) (fun _ _ _ _ _=>(pe_callTy XH (by rfl) T.z_int zc3 (pa_cons (pv 0) pa_nil)))))
   (pss_cons (ps_set (i:=5) Z7.nd rfl (Or.inl rfl) (pe_callB WK (by rfl) T.z_sorted zeb (pa_cons (j9 (own:=["k"]) (fr:=["lag","turns","cell","late"]) (ix:=[3,4,0,2]) rfl ⟨rfl,rfl,rfl,rfl,rfl,rfl⟩ (pi_range1 (by rfl) T.z_range (pa_cons (pe_callB call_len_seq (by rfl) T.z_len xQ (pa_cons (pv 4) pa_nil)) pa_nil)) (fun _ _ _ _ _=>(pg_name (i:=0) (show (["k","lag","turns","cell","late"]:List Str).Nodup by decide +kernel) rfl (Or.inl rfl))) (fun _ _ _ _ _=>qZ) (fun _ _ _ _ _=>(pe_op zx (pe_op zx (pe_ix (Kf K) (pv 2) (pv 0) (fun _ _=>rfl)) (pv 1)) (pe_op qe (zr zg (hr.mono (by decide)) (by rfl) (pa_cons (pv 3) (pa_cons (pe_op zx pe_int (pv 0)) pa_nil))) (pe_op zx (pv 4) pe_int))))) pa_nil)))
   (pss_one (ps_ret (pe_bm PySem.F.plainAttrs_str PySem.F.slot_str_join PySem.F.type_str_join V3 pe_str (pa_cons (j9 (own:=["turn"]) (fr:=[]) (ix:=[]) rfl ⟨rfl,rfl,rfl,rfl,rfl,rfl⟩ (pi_list (pv 5)) (fun _ _ _ _ _=>(pg_name (i:=0) (show (["turn"]:List Str).Nodup by decide +kernel) rfl (Or.inl rfl))) (fun _ _ _ _ _=>qZ) (fun _ _ _ _ _=>(pe_op op_add_str pe_str (pe_callTy call_str_int (by rfl) T.z_str Jd (pa_cons (pv 0) pa_nil))))) pa_nil))))))),?_⟩
  have rb5:∀n∈rs,0≤n∧n<10 ^ 500:=fun n hn=>⟨(rb n hn).1,Int.lt_trans (rb n hn).2 (by decide +kernel)⟩
  have e60:(10:Int) ^ 50*4≤10 ^ 60:=by decide +kernel
  have hsp:Txt.split (Txt.join " " (rs.map txt)) " "=rs.map txt:=by
   rw [Jy]
   exact yu (by simpa using ne) (yq fun n hn=>(rb n hn).1)
  have hlen:(Txt.join " " (rs.map txt)).length+2≤sizeLine:=by
   have h1:=zb2 (rs.map txt)
   have h2:=zaY rb5
   rw [List.length_map] at h1
   rw [sizeLine_eq]
   omega
  refine⟨_,rfl,rfl,_,rfl,ifF (fun z=>ze8 ne (fun n hn=>(rb n hn).1) (V.str.inj z)) ?_⟩
  refine⟨_,rfl,rfl,_," ",rfl,rfl,za3,hlen,fun a ha=>?_⟩
  rw [hsp]
  have sA:Same H (upd H a (.lst ((rs.map txt).map V.str))):=Same.new ha
  have hA:(upd H a (.lst ((rs.map txt).map V.str))) a=some (.lst ((rs.map txt).map V.str)):=upd_same
  generalize upd H a (.lst ((rs.map txt).map V.str))=H1 at sA hA ⊢
  refine⟨a,rfl,⟨_,SqL.of hA⟩,fun acc hacc=>jA (K:=K) (a:=a) (xs:=(rs.map txt).map V.str) (fun i=>V.int (rs.getD i 0)) (SqL.of hA) hacc (by rw [List.length_map,List.length_map,sizeLine_eq];omega) (fun i v H6 R hx s6 hR=>?_) ?_⟩
  ·rw [List.map_map,List.getElem?_map] at hx
   obtain⟨n,hn,rfl⟩:=Option.map_eq_some_iff.mp hx
   have b:=rb5 n (List.mem_of_getElem? hn)
   have N:=xT (k:=500) (by decide) b.1 b.2
   simp only [List.getD_eq_getElem?_getD,hn,Option.getD_some] at hR
   refine⟨rfl,_,rfl,txt n,z6 (txt n),rfl,num_reads N (by decide),Nat.le_trans N.le (by decide),?_⟩
   rw [yw b.1]
   exact hR
  have eR:(List.range ((rs.map txt).map V.str).length).map (fun i=>V.int (rs.getD i 0))=rs.map V.int:=by
   apply List.ext_getElem
   ·simp
   ·intro j h1 h2
    simp at h1 h2
    simp [List.getD_eq_getElem?_getD,h2]
  rw [eR]
  have sB:Same H (upd H1 acc (.lst (rs.map V.int))):=sA.put hacc
  have hB:(upd H1 acc (.lst (rs.map V.int))) acc=some (.lst (rs.map V.int)):=upd_same
  generalize upd H1 acc (.lst (rs.map V.int))=H2 at sB hB ⊢
  refine⟨_,rfl,_,_,rfl,.inl (SqL.of hB),_,rfl,by rw [List.length_map];omega,by rw [List.length_map];omega,fun ac hac=>Vq (lo:=0) (n:=((rs.map V.int).length:Int).toNat) (fun i v=>∃d,v=.int (rs.getD i 0+lag+d)∧0≤d∧d≤late) hac (by rw [List.length_map];exact Nat.le_of_lt (small1000 (by omega))) ?_ ?_⟩
  ·intro i H6 R hi s6 hR
   rw [List.length_map] at hi
   have hi':i<rs.length:=by omega
   rw [show (0:Int)+(i:Int)=(i:Int) by omega]
   have gx:=Ky (ns:=rs) (k:=i) (x:=rs.getD i 0) (by rw [List.getD_eq_getElem?_getD,List.getElem?_eq_getElem hi'];rfl)
   refine⟨rfl,_,rfl,_,rfl,_,_,_,_,rfl,rfl,SqL.of (s6 _ _ hB),gx,_,rfl,_,_,rfl,rfl,_,rfl,_,rfl,_,_,rfl,rfl,cell,_,rfl,zK (m:=64) (by omega) (by omega) |> fun h=>za h (by decide),fun d d0 d1=>⟨_,rfl,_,_,rfl,rfl,_,_,rfl,rfl,by omega,_,_,rfl,rfl,?_⟩⟩
   exact hR _ _ (Same.refl _) ⟨_,rfl,Int.emod_nonneg d (by omega),by have:=Int.emod_lt_of_pos d (show 0<late+1 by omega);omega⟩
  ·intro ys H3 s3 hY yl yp
   rw [List.length_map] at yl
   obtain⟨ds,dl,db,rfl⟩:=zhw rs ys (by omega) yp
   refine⟨ac,sums (rs.map (·+lag)) ds,rfl,SqL.of hY,fun pm ms hpm pms pw=>?_⟩
   have s4:Same H (upd H3 pm (.lst (ms.map V.int))):=(sB.trans s3).put hpm
   have h4:(upd H3 pm (.lst (ms.map V.int))) pm=some (.lst (ms.map V.int)):=upd_same
   generalize upd H3 pm (.lst (ms.map V.int))=H4 at s4 h4 ⊢
   have dl':(rs.map (·+lag)).length=ds.length:=by rw [List.length_map];exact dl
   have ml:ms.length=rs.length:=by rw [pms.length_eq,Vr _ _ dl',List.length_map]
   have mb:∀n∈ms,0≤n∧n<10 ^ 60:=fun n hn=>by
    have hs:=pms.mem_iff.mp hn
    obtain⟨i,hi⟩:=List.getElem?_of_mem hs
    unfold sums at hi
    rw [List.getElem?_zipWith,List.getElem?_map] at hi
    cases e1:rs[i]? with
    | none=>rw [e1] at hi;cases hi
    | some r=>
     cases e2:ds[i]? with
     | none=>rw [e1,e2] at hi;cases hi
     | some dd=>
      rw [e1,e2] at hi
      have hi:r+lag+dd=n:=Option.some.inj hi
      have h1:=rb r (List.mem_of_getElem? e1)
      have h2:=db dd (List.mem_of_getElem? e2)
      omega
   have mb5:∀n∈ms,0≤n∧n<10 ^ 500:=fun n hn=>⟨(mb n hn).1,Int.lt_of_lt_of_le (mb n hn).2 zbZ⟩
   have hl1:(" ":Str).length=1:=by decide +kernel
   refine⟨rfl,_,rfl,pm,rfl,⟨_,SqL.of h4⟩,fun ak hak=>jA (K:=K) (a:=pm) (xs:=ms.map V.int) (fun i=>V.str (" "++txt (ms.getD i 0))) (SqL.of h4) hak (by rw [List.length_map,sizeLine_eq];omega) (fun i v H6 R hx s6 hR=>?_) ?_⟩
   ·rw [List.getElem?_map] at hx
    obtain⟨n,hn,rfl⟩:=Option.map_eq_some_iff.mp hx
    have b:=mb5 n (List.mem_of_getElem? hn)
    have tl:=qL b.1 b.2
    simp only [List.getD_eq_getElem?_getD,hn,Option.getD_some] at hR
    exact⟨rfl,_,rfl,n,rfl,lg b.1 b.2,_,_,rfl,rfl,by rw [hl1,sizeLine_eq];show 1+(txt n).length≤_;omega,hR⟩
   have eM:(List.range (ms.map V.int).length).map (fun i=>V.str (" "++txt (ms.getD i 0)))=(ms.map fun n=>" "++txt n).map V.str:=by
    apply List.ext_getElem
    ·simp
    ·intro j h1 h2
     simp at h1 h2
     simp [List.getD_eq_getElem?_getD,h2]
   rw [eM]
   have s5:Same H (upd H4 ak (.lst ((ms.map fun n=>" "++txt n).map V.str))):=s4.put hak
   refine⟨"",ak,ms.map fun n=>" "++txt n,rfl,rfl,SqL.of upd_same,?_,q ds ms _ s5 dl' db pms pw mb⟩
   have h0:("":Str).length=0:=by decide +kernel
   have cl:((ms.map fun n=>" "++txt n).map (·.length)).sum≤ms.length*501:=by
    clear eM h4 s4 ml pms pw q mb s5 hak
    induction ms with
    | nil=>exact Nat.le_refl _
    | cons n ms ih=>
     have tl:=qL (mb5 n (List.mem_cons_self ..)).1 (mb5 n (List.mem_cons_self ..)).2
     have:=ih fun m hm=>mb5 m (List.mem_cons_of_mem _ hm)
     simp only [List.map_cons,List.sum_cons,List.length_cons,zdp,hl1] at this ⊢
     omega
   rw [h0]
   omega
end
theorem zdz {h w0 nm:Str} (e:cpl h=cpl w0++32::(cpl nm++[32])){r:List Str} (hr:r≠[]):h++Txt.join " " r=Txt.join " " (w0::nm::r):=by
 apply v9
 rw [ZP (by simp),ZP hr,wY,e]
 simp only [List.append_assoc,List.cons_append,List.nil_append]
theorem zhz (k:Bool):cpl (if k then ("key one ":Str) else "write one ")=cpl (wW k)++32::(cpl ("one":Str)++[32]):=by cases k <;> decide +kernel
theorem zhA (k:Bool):cpl (if k then ("unkey other":Str) else "read other")=cpl (wR k)++32::cpl ("other":Str):=by cases k <;> decide +kernel
theorem zli:cpl ("hear other":Str)=cpl ("hear":Str)++32::cpl ("other":Str):=by decide +kernel
theorem zdA {k:Bool}{t b l m lag:Int}{rs ds ms:List Int} (R:zeR k t b l m rs) (dl:(rs.map (·+lag)).length=ds.length) (db:∀d∈ds,0≤d∧d≤l) (pm:ms.Perm (sums (rs.map (·+lag)) ds)) (pw:ms.Pairwise (·≤·)):Al l (rs.map (·+lag)) ms:=
 V6 (R.srt.map _ fun a b h=>by show a+lag≤b+lag;omega) (zaL dl db) pm pw
theorem zcZ (x y:V):atI [x,y] 0=some x:=rfl
theorem zd8 (x y:V):atI [x,y] 1=some y:=rfl
section
variable {P:Program}{w:World}{K:PySem.W.Frag}{mg:Str→Option Value}{base:Heap}{CD CF CO CN CT CR C1 C2 C3:Addr}{CH:Sp}
structure Two (CD CF pd pc x1 d1 x2 d2:Addr) (n1 n2:Nat) (f1 f2:Str→Option (Int×Int×Int)) (t b l:Int) (H:Hp):Prop where
 ds:H pd=some (.lst [.ref x1,.ref x2])
 cs:H pc=some (.lst [.int (cnt t b l),.int (yZ t b l)])
 D1:qp CD CF x1 d1 n1 f1 H
 D2:qp CD CF x2 d2 n2 f2 H
 e1:f1 "one"=some (t,b,l)
 e2:f2 "other"=some (t,b,l)
 fr:zce t b l
theorem Two.mono {CD CF pd pc x1 d1 x2 d2:Addr}{n1 n2:Nat}{f1 f2:Str→Option (Int×Int×Int)}{t b l:Int} {H H':Hp} (s:Same H H') (h:Two CD CF pd pc x1 d1 x2 d2 n1 n2 f1 f2 t b l H):Two CD CF pd pc x1 d1 x2 d2 n1 n2 f1 f2 t b l H':=
 ⟨s _ _ h.ds,s _ _ h.cs,h.D1.mono s,h.D2.mono s,h.e1,h.e2,h.fr⟩
noncomputable def zfV (CD CF:Addr):Sp:=fun vs H Q _=>∃(pd pc x1 d1 x2 d2:Addr) (n1 n2:Nat) (f1 f2:Str→Option (Int×Int×Int)) (cell t b l:Int),vs=[.ref pd,.int cell,.int l,.ref pc]∧Two CD CF pd pc x1 d1 x2 d2 n1 n2 f1 f2 t b l H∧∀H',Same H H'→Q (.bl true) H'
theorem qD:FnScope ["desks","cell","late","counts","way","message","came","lag","note"] ["desks","cell","late","counts"] (defScope vf):=⟨rfl,rfl,rfl,by decide +kernel,rfl,by decide +kernel,by decide +kernel⟩
theorem zfc (D:Def K mg "_law_sent" vf ["desks","cell","late","counts"]) (T:Txt K mg) (zg:Fn P w K mg base 1 "_law_drawn" ["cell","k"] zcA) (Jg:Fn P w K mg base 2 "_law_number" ["cell","count"] zhy) (zcf:Fn P w K mg base 2 "_law_note" ["cell"] zdy) (QH:Fn P w K mg base 2 "_law_road" ["cell","answer","late","lag"] (zfb K)) (yP:Mt P w K mg base 46 CD "told" ["self","order"] (fun vs H Q _=>xu K CD CF CO CN CT CR (zba K CF CR) (yo C1 C2 C3) CH vs H Q E0)):Fn P w K mg base 47 "_law_sent" ["desks","cell","late","counts"] (zfV CD CF):=by
 refine D.fn qD (fun vs H Q E h=>?_) (fun f cdv A outer s H vs Q E hr h=>?_)
 ·obtain⟨pd,pc,x1,d1,x2,d2,n1,n2,f1,f2,cell,t,b,l,rfl,_⟩:=h
  rfl
 ·obtain⟨pd,pc,x1,d1,x2,d2,n1,n2,f1,f2,cell,t,b,l,rfl,W,q⟩:=h
  have F:=W.fr
  have ok:=F.ok
  obtain⟨b1,b8,bt,t1,l0,l1⟩:=F
  have cp:0<cnt t b l:=zdj (by omega) bt l0
  have hl1:("write one ":Str).length=10:=by decide +kernel
  have hl2:("key one ":Str).length=8:=by decide +kernel
  have hl3:("read other":Str).length=10:=by decide +kernel
  have hl4:("unkey other":Str).length=11:=by decide +kernel
  have hl5:("note one ":Str).length=9:=by decide +kernel
  have hl6:("hear other":Str).length=10:=by decide +kernel
  have hl7:("note ":Str).length=5:=by decide +kernel
  refine⟨_,(pss_cons (ps_set (i:=4) qD.nd rfl (Or.inl rfl) (pe_op qe (zr zg (hr.mono (by decide)) (by rfl) (pa_cons (pv 1) (pa_cons pe_int pa_nil))) pe_int))
   (pss_cons (ps_if (pt_cmpR xP (pv 4) pe_int (nomark _))
    (pss_cons (ps_set (i:=5) qD.nd rfl (Or.inl rfl) (pe_callTy call_str_int (by rfl) T.z_str Jd (pa_cons (zr Jg (hr.mono (by decide)) (by rfl) (pa_cons (pv 1) (pa_cons (pe_ix ix_list (pv 3) pe_int (fun _ _=>rfl)) pa_nil))) pa_nil)))
    (pss_cons (ps_set (i:=6) qD.nd rfl (Or.inl rfl) (zr QH (hr.mono (by decide)) (by rfl) (pa_cons (pv 1) (pa_cons (Km (pe_ix ix_list (pv 0) pe_int (fun _ _=>rfl)) yP (hr.mono (by decide)) (pa_cons (pe_op op_add_str pe_str (pv 5)) pa_nil)) (pa_cons (pv 2) (pa_cons pe_int pa_nil))))))
    (pss_one (ps_ret (pe_cmpR op_eq (Km (pe_ix ix_list (pv 0) pe_int (fun _ _=>rfl)) yP (hr.mono (by decide)) (pa_cons (pe_op op_add_str pe_str (pv 6)) pa_nil)) (pv 5) (nomark _))))))
    pss_nil)
   (pss_cons (ps_if (pw_and (pt_cmpR xP (pv 4) pe_int (nomark _)) (pw_and1 (pt_cmpR vP (pe_ix ix_list (pv 3) pe_int (fun _ _=>rfl)) pe_int (nomark _)))).pt
    (pss_cons (ps_set (i:=5) qD.nd rfl (Or.inl rfl) (pe_callTy call_str_int (by rfl) T.z_str Jd (pa_cons (zr Jg (hr.mono (by decide)) (by rfl) (pa_cons (pv 1) (pa_cons (pe_ix ix_list (pv 3) pe_int (fun _ _=>rfl)) pa_nil))) pa_nil)))
    (pss_cons (ps_set (i:=7) qD.nd rfl (Or.inl rfl) (pe_op qe (pe_op qj (zr zg (hr.mono (by decide)) (by rfl) (pa_cons (pv 1) (pa_cons pe_int pa_nil))) (pe_op QW pe_int pe_int)) (pe_ix ix_list (pe_lst (pa_cons pe_int (pa_cons pe_int (pa_cons (pe_op QW pe_int pe_int) pa_nil)))) (pe_op qe (zr zg (hr.mono (by decide)) (by rfl) (pa_cons (pv 1) (pa_cons pe_int pa_nil))) pe_int) (fun _ _=>rfl))))
    (pss_cons (ps_set (i:=6) qD.nd rfl (Or.inl rfl) (zr QH (hr.mono (by decide)) (by rfl) (pa_cons (pv 1) (pa_cons (Km (pe_ix ix_list (pv 0) pe_int (fun _ _=>rfl)) yP (hr.mono (by decide)) (pa_cons (pe_op op_add_str pe_str (pv 5)) pa_nil)) (pa_cons (pv 2) (pa_cons (pv 7) pa_nil))))))
    (pss_one (ps_ret (pe_cmpR op_eq (Km (pe_ix ix_list (pv 0) pe_int (fun _ _=>rfl)) yP (hr.mono (by decide)) (pa_cons (pe_op op_add_str pe_str (pv 6)) pa_nil)) (pv 5) (nomark _)))))))
    pss_nil)
   (pss_cons (ps_if (pt_cmpR yt (pe_ix ix_list (pv 3) pe_int (fun _ _=>rfl)) pe_int (nomark _))
    (pss_one (ps_ret pe_bl))
    pss_nil)
   (pss_cons (ps_set (i:=8) qD.nd rfl (Or.inl rfl) (zr zcf (hr.mono (by decide)) (by rfl) (pa_cons (pv 1) pa_nil)))
   (pss_cons (ps_set (i:=6) qD.nd rfl (Or.inl rfl) (zr QH (hr.mono (by decide)) (by rfl) (pa_cons (pv 1) (pa_cons (Km (pe_ix ix_list (pv 0) pe_int (fun _ _=>rfl)) yP (hr.mono (by decide)) (pa_cons (pe_op op_add_str pe_str (pv 8)) pa_nil)) (pa_cons (pv 2) (pa_cons pe_int pa_nil))))))
   (pss_one (ps_ret (pe_or (pe_cmpR vP (pe_callB call_len_str (by rfl) T.z_len xQ (pa_cons (pv 6) pa_nil)) pe_int (nomark _)) (pe_one (pe_cmpR op_eq (Km (pe_ix ix_list (pv 0) pe_int (fun _ _=>rfl)) yP (hr.mono (by decide)) (pa_cons (pe_op op_add_str pe_str (pv 6)) pa_nil)) (pe_op op_add_str pe_str (pv 8)) (nomark _)))))))))))),?_⟩
  refine⟨_,rfl,cell,10,rfl,by decide,fun d10 a0 a1=>⟨_,_,rfl,rfl,(by decide),?_⟩⟩
  generalize d10 % 3=way
  refine⟨_,rfl,_,_,rfl,rfl,_,rfl,ifD (fun z=>?_) (fun z=>?_)⟩
  ·refine⟨_,rfl,_,rfl,pc,_,0,_,rfl,rfl,SqL.of W.cs,zcZ ..,cell,cnt t b l,rfl,cp,fun m H1 s1 m0 m1=>?_⟩
   have m5:=Int.lt_trans m1 ok.c1
   have ml:=qL m0 m5
   have W1:=W.mono s1
   obtain⟨dx1,hx1⟩:=W1.D1.self
   refine⟨m,rfl,lg m0 m5,_,rfl,_,rfl,pd,_,0,_,rfl,rfl,SqL.of W1.ds,zcZ ..,x1,dx1,_,rfl,hx1,vA (by decide +kernel),_,rfl,_,_,rfl,rfl,(by rw [hl1,sizeLine_eq];show 10+(txt m).length≤_;omega),?_⟩
   have eo:=zdz (zhz false) (r:=[txt m]) (by simp)
   rw [join_one] at eo
   show xu K CD CF CO CN CT CR (zba K CF CR) (yo C1 C2 C3) CH [.ref x1,.str ("write one "++txt m)] H1 _ E0
   rw [show ("write one "++txt m:Str)=Txt.join " " (wW false::"one"::[m].map txt) from eo]
   refine zb3 (k:=false) W1.D1 Xw W1.e1 b1 m0 m1 fun rs H2 s2 R=>?_
   have rl:=R.len
   refine⟨_,rfl,cell,l,0,rs,rfl,fun y=>by rw [y] at rl;simp at rl;omega,by omega,fun y hy=>(by have:=R.bd y hy;omega),l0,by omega,by decide,by decide,fun ds ms H3 s3 dl db pm pw mb=>?_⟩
   have al:=zdA R dl db pm pw
   have zfd:=Kz al
   rw [List.length_map] at zfd
   have s03:=(s1.trans s2).trans s3
   have W3:=W.mono s03
   obtain⟨dx2,hx2⟩:=W3.D2.self
   have cl:=Wi mb
   refine⟨_,rfl,pd,_,1,_,rfl,rfl,SqL.of W3.ds,zd8 ..,x2,dx2,_,rfl,hx2,vA (by decide +kernel),_,rfl,_,_,rfl,rfl,(by rw [hl3,sizeLine_eq];omega),?_⟩
   show xu K CD CF CO CN CT CR (zba K CF CR) (yo C1 C2 C3) CH [.ref x2,.str ("read other"++came ms)] H3 _ E0
   rw [show ("read other"++came ms:Str)=Txt.join " " (wR false::"other"::ms.map txt) from Wh (zhA false) ms]
   refine zam (k:=false) W3.D2 yO W3.e2 (by omega) (by omega) mb pw (R.hear 0 ms (fun _=>rfl) al) fun H4 s4=>?_
   refine⟨_,rfl,rfl,?_⟩
   rw [show decide (V.str (txt m)=V.str (toString m))=true from decide_eq_true rfl]
   exact q H4 (s03.trans s4)
  dsimp only [tNext,gName]
  refine zeI (fun σ' H'=>σ'=[some (.ref pd),some (.int cell),some (.int l),some (.ref pc),some (.int way),none,none,none,none]∧H'=H) ?_ (fun N hN=>?_)
  rotate_left
  ·refine⟨_,rfl,_,_,rfl,rfl,_,rfl,ifD (fun z1=>?_) (fun _=>iteF (hN _ _ ⟨rfl,rfl⟩))⟩
   refine⟨_,rfl,pc,_,1,_,rfl,rfl,SqL.of W.cs,zd8 ..,_,_,rfl,rfl,_,rfl,ifD (fun kp=>?_) (fun _=>hN _ _ ⟨rfl,rfl⟩)⟩
   have kp:0<yZ t b l:=kp
   refine⟨_,rfl,_,rfl,pc,_,1,_,rfl,rfl,SqL.of W.cs,zd8 ..,cell,yZ t b l,rfl,kp,fun m H1 s1 m0 m1=>?_⟩
   have m5:=Int.lt_trans m1 ok.k1
   have ml:=qL m0 m5
   refine⟨m,rfl,lg m0 m5,_,rfl,cell,11,rfl,by decide,fun d11 e0 e1=>⟨_,_,rfl,rfl,⟨by decide,by decide,by decide⟩,_,_,rfl,rfl,⟨62,60,zK e0 (by omega),zlg,by decide⟩,_,_,rfl,rfl,⟨by decide,by decide,by decide⟩,(by show 3≤sizeLine;decide),fun pl hpl=>?_⟩⟩
   have sA:Same H1 (upd H1 pl (.lst [V.int 1,V.int 9,V.int (10 ^ (20:Int).toNat)])):=Same.new hpl
   have hA:(upd H1 pl (.lst [V.int 1,V.int 9,V.int (10 ^ (20:Int).toNat)])) pl=some (.lst [V.int 1,V.int 9,V.int (10 ^ (20:Int).toNat)]):=upd_same
   generalize upd H1 pl (.lst [V.int 1,V.int 9,V.int (10 ^ (20:Int).toNat)])=H1' at sA hA ⊢
   refine⟨_,rfl,cell,12,rfl,by decide,fun d12 c0 c1=>⟨_,_,rfl,rfl,(by decide),?_⟩⟩
   obtain⟨mm,em,hm1,hm2⟩:∃mm:Int,atI [V.int 1,V.int 9,V.int (10 ^ (20:Int).toNat)] (d12 % 3)=some (V.int mm)∧0<mm∧mm≤10 ^ 20:=by
    rcases (by omega:d12 % 3=0∨d12 % 3=1∨d12 % 3=2) with z | z | z
    ·exact⟨1,by rw [z];rfl,by decide⟩
    ·exact⟨9,by rw [z];rfl,by decide⟩
    ·exact⟨10 ^ (20:Int).toNat,by rw [z];rfl,by decide⟩
   refine⟨_,_,_,_,rfl,rfl,SqL.of hA,em,_,_,rfl,rfl,hm1,?_⟩
   have g0:=Int.emod_nonneg (d11*7 ^ (20:Int).toNat) (show mm≠0 by omega)
   have g1:=Int.emod_lt_of_pos (d11*7 ^ (20:Int).toNat) hm1
   generalize d11*7 ^ (20:Int).toNat % mm=lag at g0 g1 ⊢
   have s01:=s1.trans sA
   have W1:=W.mono s01
   obtain⟨dx1,hx1⟩:=W1.D1.self
   refine⟨_,rfl,_,rfl,pd,_,0,_,rfl,rfl,SqL.of W1.ds,zcZ ..,x1,dx1,_,rfl,hx1,vA (by decide +kernel),_,rfl,_,_,rfl,rfl,(by rw [hl2,sizeLine_eq];show 8+(txt m).length≤_;omega),?_⟩
   have eo:=zdz (zhz true) (r:=[txt m]) (by simp)
   rw [join_one] at eo
   show xu K CD CF CO CN CT CR (zba K CF CR) (yo C1 C2 C3) CH [.ref x1,.str ("key one "++txt m)] H1' _ E0
   rw [show ("key one "++txt m:Str)=Txt.join " " (wW true::"one"::[m].map txt) from eo]
   refine zb3 (k:=true) W1.D1 Xw W1.e1 b1 m0 m1 fun rs H2 s2 R=>?_
   have rl:=R.len
   refine⟨_,rfl,_,rfl,cell,l,lag,rs,rfl,fun y=>by rw [y] at rl;simp at rl;omega,by omega,fun y hy=>(by have:=R.bd y hy;omega),l0,by omega,g0,by omega,fun ds ms H3 s3 dl db pm pw mb=>?_⟩
   have al:=zdA R dl db pm pw
   have zfd:=Kz al
   rw [List.length_map] at zfd
   have s03:=(s01.trans s2).trans s3
   have W3:=W.mono s03
   obtain⟨dx2,hx2⟩:=W3.D2.self
   have cl:=Wi mb
   refine⟨_,rfl,pd,_,1,_,rfl,rfl,SqL.of W3.ds,zd8 ..,x2,dx2,_,rfl,hx2,vA (by decide +kernel),_,rfl,_,_,rfl,rfl,(by rw [hl4,sizeLine_eq];omega),?_⟩
   show xu K CD CF CO CN CT CR (zba K CF CR) (yo C1 C2 C3) CH [.ref x2,.str ("unkey other"++came ms)] H3 _ E0
   rw [show ("unkey other"++came ms:Str)=Txt.join " " (wR true::"other"::ms.map txt) from Wh (zhA true) ms]
   refine zam (k:=true) W3.D2 yO W3.e2 (by omega) (by omega) mb pw (R.hear lag ms (fun z=>nomatch z) al) fun H4 s4=>?_
   refine⟨_,rfl,rfl,?_⟩
   rw [show decide (V.str (txt m)=V.str (toString m))=true from decide_eq_true rfl]
   exact q H4 (s03.trans s4)
  rintro σ' H' ⟨rfl,rfl⟩
  refine⟨_,rfl,pc,_,0,_,rfl,rfl,SqL.of W.cs,zcZ ..,_,_,rfl,rfl,_,rfl,ifD (fun _=>q _ (Same.refl _)) (fun c3=>?_)⟩
  have c3:3≤cnt t b l:=Int.not_lt.mp c3
  refine⟨_,rfl,cell,rfl,fun nl H1 s1 hsg n6=>?_⟩
  have g:Qk (tx nl):=⟨by rw [Vc];exact hsg,by rw [Vc];omega⟩
  have x6:(tx nl).cps.toList.length≤6:=by rw [Vc];exact n6
  have xl:(tx nl).length≤6:=by rw [zgK];exact n6
  generalize tx nl=nt at g x6 xl
  have W1:=W.mono s1
  obtain⟨dx1,hx1⟩:=W1.D1.self
  refine⟨_,rfl,_,rfl,pd,_,0,_,rfl,rfl,SqL.of W1.ds,zcZ ..,x1,dx1,_,rfl,hx1,vA (by decide +kernel),_,rfl,_,_,rfl,rfl,(by rw [hl5,sizeLine_eq];omega),?_⟩
  show xu K CD CF CO CN CT CR (zba K CF CR) (yo C1 C2 C3) CH [.ref x1,.str ("note one "++nt)] H1 _ E0
  refine zd5 W1.D1 W1.e1 W.fr g x6 c3 fun ys bss H2 s2 S=>?_
  obtain⟨yl,_,_,rl,_,rb⟩:=Jc S g x6 b1 bt l0 c3
  have r8:=Nat.mul_le_mul (show ys.length+1≤30 by omega) (show b.toNat≤8 by omega)
  have r1:=Nat.mul_le_mul (show 1≤ys.length+1 by omega) (show 1≤b.toNat by omega)
  refine⟨_,rfl,cell,l,0,qx (t+l) l 0 bss,rfl,fun y=>by rw [y] at rl;simp at rl;omega,by omega,fun y hy=>(by have:=rb y hy;omega),l0,by omega,by decide,by decide,fun ds ms H3 s3 dl db pm pw mb=>?_⟩
  rw [Wc] at dl pm
  have hd:=zcW S g x6 b1 bt l0 c3 dl db pm pw
  have zfd:ms.length≤240:=by rw [pm.length_eq,Vr _ _ dl];omega
  have s03:=(s1.trans s2).trans s3
  have W3:=W.mono s03
  obtain⟨dx2,hx2⟩:=W3.D2.self
  have cl:=Wi mb
  refine⟨_,rfl,_,rfl,by rw [sizeLine_eq];omega,_,_,rfl,rfl,_,rfl,ifD (fun _=>q _ s03) (fun _=>?_)⟩
  refine⟨_,rfl,pd,_,1,_,rfl,rfl,SqL.of W3.ds,zd8 ..,x2,dx2,_,rfl,hx2,vA (by decide +kernel),_,rfl,_,_,rfl,rfl,(by rw [hl6,sizeLine_eq];omega),?_⟩
  show xu K CD CF CO CN CT CR (zba K CF CR) (yo C1 C2 C3) CH [.ref x2,.str ("hear other"++came ms)] H3 _ E0
  rw [Wh zli ms]
  refine zcX W3.D2 W3.e2 W.fr g x6 c3 S zfd mb pw hd fun H4 s4=>?_
  refine⟨_,rfl,_,_,rfl,rfl,(by rw [hl7,sizeLine_eq];omega),rfl,?_⟩
  rw [show decide (V.str ("note "++nt)=V.str ("note "++nt))=true from decide_eq_true rfl]
  exact q H4 (s03.trans s4)
end
noncomputable def wK (d e:Addr) (H H':Hp):Prop:=∀a o,H a=some o→a≠d→a≠e→H' a=some o
theorem wK.of {d e:Addr} {H H':Hp} (s:Same H H'):wK d e H H':=fun a o h _ _=>s a o h
theorem wK.trans {d e:Addr} {H H' H2:Hp} (s:wK d e H H') (s2:wK d e H' H2):wK d e H H2:=fun a o h n m=>s2 a o (s a o h n m) n m
theorem wK.wr {d e p:Addr} {H H':Hp}{o:HO} (s:wK d e H H') (hp:H p=none):wK d e H (upd H' p o):=fun a v h n m=>by
 have np:a≠p:=fun z=>by rw [z,hp] at h;cases h
 rw [upd_ne np]
 exact s a v h n m
theorem wK.seq {K:PySem.W.Frag}{d e a:Addr} {H H':Hp}{xs:List V}{kd ke:List (Key×V)} (hd:H d=some (.dK kd)) (he:H e=some (.dK ke)) (s:wK d e H H') (h:SqL K H a xs):SqL K H' a xs:=by
 rcases h with h | h
 ·rcases h with h | ⟨o,h⟩
  ·exact .inl (.inl (s _ _ h (fun z=>by rw [z,hd] at h;cases h) (fun z=>by rw [z,he] at h;cases h)))
  ·exact .inl (.inr ⟨o,s _ _ h (fun z=>by rw [z,hd] at h;cases h) (fun z=>by rw [z,he] at h;cases h)⟩)
 ·exact .inr h
theorem qp.monoL {CD CF x d e:Addr}{n:Nat}{fr:Str→Option (Int×Int×Int)}{H:Hp}{xs:List V}{o:HO} (he:H e=some (.lst xs)) (h:qp CD CF x d n fr H):qp CD CF x d n fr (upd H e o):=by
 obtain⟨⟨dx,h1⟩,⟨kvs,h2,h3,h4,h5⟩,h6⟩:=h
 refine⟨⟨dx,by rw [upd_ne (fun z=>by rw [z,he] at h1;cases h1)];exact h1⟩,⟨kvs,by rw [upd_ne (fun z=>by rw [z,he] at h2;cases h2)];exact h2,h3,h4,fun nm t b l q=>(h5 nm t b l q).imp fun p hp=>⟨hp.1,hp.2.imp fun dx h=>by rw [upd_ne (fun z=>by rw [z,he] at h;cases h)];exact h⟩⟩,h6⟩
theorem zcg {H H0:Hp}{x dx:Addr}{o1 o2:HO} (hx:H x=none) (hdx:H dx=none) (sx:jT x (upd (upd H dx o1) x o2) H0):Same H H0:=fun c o hc=>by
 have n1:c≠x:=fun e=>by rw [e,hx] at hc;cases hc
 have n2:c≠dx:=fun e=>by rw [e,hdx] at hc;cases hc
 exact sx c o (by rw [upd_ne n1,upd_ne n2];exact hc) n1
theorem zhB (x:V):atI [x] 0=some x:=rfl
section
variable {P:Program}{w:World}{K:PySem.W.Frag}{mg:Str→Option Value}{base:Heap}
theorem JF:FnScope ["script","turns","bells","late","desks","counts","cell"] ["script"] (defScope XN):=⟨rfl,rfl,rfl,by decide +kernel,rfl,by decide +kernel,by decide +kernel⟩
theorem ok_law (hP:P.given.tree=none){f:Addr}{fd:FuncData} (F:Fun K "law" "law" XN f fd) (T:Txt K mg) (Wk:Def K mg "choose" ZK ["n","k"]) (zch:Def K mg "top_of" XM ["k","number"]) (JG:Def K mg "top_from" wB ["start","k","number"]) (QJ:Def K mg "above_top" xU ["k","number"]) (Z8:Def K mg "rounded_up" jU ["number","divisor"]) (Wl:Def K mg "box_of" ZL ["row","late"]) (JH:Def K mg "bell_row" wC ["box","late"]) (QK:Def K mg "heard_box" xV ["reading","late"]) (QL:Def K mg "box_count" xW ["turns","bells","late"]) (wM:Def K mg "greatest_part" jb ["turns","bells","late"]) (ZS:Def K mg "shortest_frame" xX ["bells","late","many"]) (Xy:Def K mg "best_bells" Zg ["turns","late","most"]) (Wm:Def K mg "cheapest" Qp ["many","late","turn_cost","bell_cost","most"]) (Z9:Def K mg "box_number" jV ["box"]) (vZ:Def K mg "box_of_message" qP ["message","bells"]) (Vf:Def K mg "written" yx ["message","turns","bells","late"]) (zc0:Def K mg "read" Xi ["reading","turns","bells","late"]) (Zo:Def K mg "keyed_count" jB ["turns","bells","late"]) (zbb:Def K mg "keyed" Qq ["message","turns","bells","late"]) (Vg:Def K mg "unkeyed" yz ["reading","turns","bells","late"]) (xf:Def K mg "refuse_silent" qF ["turns","bells"]) (zc1:Def K mg "rung" Xj ["messages","turns","bells","late"]) (Zq:Def K mg "by_messages" jC ["reading","turns","late"]) (Zr:Def K mg "note_number" jD ["note"]) (Vh:Def K mg "note_of" yC ["number"]) (zbc:Def K mg "parts" Qs ["number","base"]) (vH:Def K mg "number_of_parts" qH ["figures","base"]) (zc2:Def K mg "sent" Xk ["note","turns","bells","late"]) (JK:Def K mg "received" wD ["reading","turns","bells","late"]) (je:Def K mg "messages_ahead_of_end" zT ["reading","turns","bells","late"]) (Qa:Def K mg "is_made_of" jW ["word","signs","most"]) (Vi:Def K mg "name_in" yD ["word"]) (Qc:Def K mg "figures_in" jX ["word","most"]) (QM:Def K mg "number_in" xY ["word"]) (Qd:Def K mg "message_in" jY ["word"]) (JL:Def K mg "bells_in" wF ["word"]) (JM:Def K mg "turns_in" wG ["words"]) (Zt:Def K mg "number_told" jE ["number"]) (Qe:Def K mg "turns_told" jZ ["turns"]) (JN:Def K mg "count_of" wH ["frame"]) (Qf:Def K mg "note_heard" j4 ["reading","frame"]) (Zu:Def K mg "choice_told" yE ["words"]) (Ql:Def K mg "cheapest_told" vU ["words"]) (yQ:Def K mg "_law_cell_at" jw ["script","k"]) (Qg:Def K mg "_law_drawn" j5 ["cell","k"]) (Qh:Def K mg "_law_frame" j6 ["cell"]) (Qi:Def K mg "_law_count" j7 ["desk","name","turns","bells","late"]) (QQ:Def K mg "_law_road" xZ ["cell","answer","late","lag"]) (Zv:Def K mg "_law_number" jF ["cell","count"]) (QR:Def K mg "_law_note" vd ["cell"]) (QS:Def K mg "_law_sent" vf ["desks","cell","late","counts"]){jh:Addr} (xN:mg "BellError"=some (.ref jh)){jz:Addr} (yh:mg "NoRow"=some (.ref jz)){zf:Addr} (zF:mg "NoReading"=some (.ref zf)){zj:Addr} (zP:mg "TooGreat"=some (.ref zj)){zV:Addr} (qQ:mg "NoNote"=some (.ref zV)){zc:Addr} (zL:mg "NoOrder"=some (.ref zc)){zJ:Addr} (vB:mg "NoName"=some (.ref zJ)){zA:Addr} (yc:mg "Frame"=some (.ref zA)){zp:Addr} (QD:mg "Desk"=some (.ref zp)){vV:Tok} (jP:mg "LETTERS"=some (.str "abcdefghijklmnopqrstuvwxyz" vV)){qJ:Tok} (qb:mg "MOST_LETTERS"=some (.int 8 qJ)){vW:Tok} (jR:mg "FIGURES"=some (.str "0123456789" vW)){qK:Tok} (qd:mg "MOST_FIGURES"=some (.int 60 qK)){zB:Tok} (zm:mg "MOST_FIGURES_OF_MESSAGE"=some (.int 3000 zB)){jn:Tok} (qz:mg "MOST_BELLS"=some (.int 60 jn)){yg:Tok} (jq:mg "SIGNS"=some (.str "abcdefghijklmnopqrstuvwxyz " yg)){qC:Tok} (zX:mg "MOST_SIGNS"=some (.int 60 qC)){qX:Tok} (z7:mg "LEAST_COUNT"=some (.int 3 qX)) (xO:PySem.W.excIn K jh bmV "ValueError.__new__"=true) (yj:PySem.W.excIn K jz bmV "ValueError.__new__"=true) (zG:PySem.W.excIn K zf bmV "ValueError.__new__"=true) (zQ:PySem.W.excIn K zj bmV "ValueError.__new__"=true) (zM:PySem.W.excIn K zc bmV "ValueError.__new__"=true) (vC:PySem.W.excIn K zJ bmV "ValueError.__new__"=true) (qT:PySem.W.excIn K zV bmV "ValueError.__new__"=true) (O:Own K zA zp):FnOk P w K mg base CX0 50 f fd ["script"] (spLaw K):=by
 have hT:DkT K zp zA:=⟨O.c_Desk,O.c_Frame,O.n_Frame_turns,O.n_Frame_bells,O.n_Frame_late,O.n_Desk_frames⟩
 have jc:Fn P w K mg base 1 "choose" ["n","k"] ZG:=zdL Wk T
 have wL:Fn P w K mg base 1 "greatest_part" ["turns","bells","late"] zaO:=XS wM
 have zH:Fn P w K mg base 2 "box_count" ["turns","bells","late"] Zd:=zaQ QL T wL jc
 have zau:=WL (w:=w) (base:=base) Z8 hP
 have Qv:=zaK QJ T zau
 have Jt:=zbF JG jc zau hP
 have vz:=Js vZ T zP zQ Qv Jt jc
 have xr:=zbL Vf T zP zQ zH vz (zbI JH T)
 have Z1:=WR QK T zF zG (zdO (P:=P) (w:=w) (base:=base) Wl T)
 have kh:=zeG zc0 T zF zG zH Z1 (WP Z9 T jc)
 have Zi:Fn P w K mg base 3 "keyed_count" ["turns","bells","late"] KN:=KR Zo T zH
 have K8:=zdS zbb T zP zQ Zi xr
 have Jx:=zbO Vg T zF zG kh
 have jQ:Fn P w K mg base 1 "is_made_of" ["word","signs","most"] zaV:=zfy Qa T
 have qy:=zcI Vi T zL zM jP qb jQ
 have jx:=WX Qc T zL zM jR jQ
 have qm:=zaX QM T qd jx
 have Zk:=W0 Qd T zm jx
 have Qx:=zbR JL T zL zM qz qm
 have Qy:=zbT JM T zL zM qm
 have kj:Fn P w K mg base 1 "number_told" ["number"] X4:=K1 Zt T
 have jo:Fn P w K mg base 1 "turns_told" ["turns"] (wJ K):=W6 Qe T
 have vY:=zbX JN hT zH
 have jd:=VD (P:=P) (w:=w) (base:=base) Zr T jq zX qQ qT
 have JD:=zb8 Vh T jq zX qQ qT jd
 have zcT:Fn P w K mg base 41 "rung" ["messages","turns","bells","late"] (zcP K):=zfI zc1 T (X7 xf T) (zcM xr)
 have za2:=FnE.mono (ze4 zc2 T xN yh zF zP qQ zL vB yc QD jP qb jR qd zm qz jq zX z7 xO yj zG zQ zM vC qT jd (zcS xf T yh yj) zH (zeV zbc T) zcT) (show 42≤44 by decide)
 have QG:=za8 JK T (zfQ je T (We Zq T) kh) zH (JC vH T) JD
 have Zm:=FnE.mono (Yc Qf T hT zF zG z7 vY QG) (show 6≤44 by decide)
 have yI:FnE P w K mg base 45 "choice_told" ["words"] (fun _ _ _ _=>False):=ze5 Zu
 obtain⟨f1,⟨fd1,F1,b1⟩,l1⟩:=O.d_Frame_init
 obtain⟨f2,⟨fd2,F2,b2⟩,l2⟩:=O.d_Desk_init
 obtain⟨f3,⟨fd3,F3,b3⟩,l3⟩:=O.d_Desk_told
 obtain⟨f4,⟨fd4,F4,b4⟩,l4⟩:=O.d_Desk_keep
 obtain⟨f5,⟨fd5,F5,b5⟩,l5⟩:=O.d_Desk_ring
 obtain⟨f6,⟨fd6,F6,b6⟩,l6⟩:=O.d_Desk_listen
 obtain⟨f7,⟨fd7,F7,b7⟩,l7⟩:=O.d_Desk_send_note
 obtain⟨f8,⟨fd8,F8,b8⟩,l8⟩:=O.d_Desk_kept
 have K7:MkX CX0 P w K mg base 1 zA ["self","turns","bells","late"] (K4 zA):=⟨f1,fd1,zdV F1 hT,l1,b1⟩
 have zdB:MkX CX0 P w K mg base 1 zp ["self"] (zbV zp zA):=⟨f2,fd2,zdW F2 hT,l2,b2⟩
 have ye:MtE P w K mg base 1 zp "kept" ["self","name"] (K5 zp zA zJ):=⟨f8,fd8,zfz F8 hT vB vC,hT.cd,l8,b8⟩
 have za4:MtE P w K mg base 45 zp "keep" ["self","words"] (zcK zp zA zc):=⟨f4,fd4,(zfA F4 hT yc qy qm Qx K7 vY).mono (by decide),hT.cd,l4,b4⟩
 have za5:MtE P w K mg base 45 zp "ring" ["self","words"] (zcL zp zA zc zJ zj):=⟨f5,fd5,zfC F5 hT qy Zk ye xr K8 jo,hT.cd,l5,b5⟩
 have X6:MtE P w K mg base 45 zp "listen" ["self","words"] (K9 zp zA zc zJ zf _):=⟨f6,fd6,zdX F6 hT qy Qy ye kh Jx kj Zm,hT.cd,l6,b6⟩
 have Z4:MtE P w K mg base 45 zp "send_note" ["self","words"] (za1 K zp zA zc zJ _):=⟨f7,fd7,zb0 F7 hT qy ye za2 jo,hT.cd,l7,b7⟩
 have zfW:MtE P w K mg base 46 zp "told" ["self","order"] (xu K zp zA zc zJ zj zf _ _ _):=⟨f3,fd3,zfD F3 T hT zL zM za4 za5 X6 Z4 yI,hT.cd,l3,b3⟩
 have yP:=Mt.plain zfW
 have QT:Fn P w K mg base 1 "_law_cell_at" ["script","k"] (zew K):=zcz yQ T
 have zg:Fn P w K mg base 1 "_law_drawn" ["cell","k"] zcA:=zhm Qg
 have zbd:=ze9 Qh T zg
 have Qj:=zd7 Qi T yP
 have zci:=zfc QS T zg (zcY Zv T zg) (zfa QR T zg) (zfU QQ T zg) yP
 refine F.ok JF (fun vs H Q E h=>?_) (fun cdv A outer s H vs Q E hr h=>?_)
 ·obtain⟨a,ns,rfl,_⟩:=h
  rfl
 ·obtain⟨a,ns,rfl,hS,hlen,q⟩:=h
  have hu:=zk4 hr
  refine⟨_,(pss_cons (ps_asg (zr zbd (hr.mono (by decide)) (by rfl) (pa_cons (zr QT (hr.mono (by decide)) (by rfl) (pa_cons (pv 0) (pa_cons pe_int pa_nil))) pa_nil)) (pg_tup (n:=3) rfl (pgs_cons (pg_name (i:=1) JF.nd rfl (Or.inl rfl)) (pgs_cons (pg_name (i:=2) JF.nd rfl (Or.inl rfl)) (pgs_cons (pg_name (i:=3) JF.nd rfl (Or.inl rfl)) pgs_nil)))))
   (pss_cons (ps_set (i:=4) JF.nd rfl (Or.inl rfl) (pe_lst (pa_cons (zer zdB (hr.mono (by decide)) (by rfl) QD) (pa_cons (zer zdB (hr.mono (by decide)) (by rfl) QD) pa_nil))))
   (pss_cons (ps_set (i:=5) JF.nd rfl (Or.inl rfl) (pe_lst (pa_cons (zr Qj (hr.mono (by decide)) (by rfl) (pa_cons (pe_ix ix_list (pv 4) pe_int (fun _ _=>rfl)) (pa_cons pe_str (pa_cons (pv 1) (pa_cons (pv 2) (pa_cons (pv 3) pa_nil)))))) pa_nil)))
   (pss_cons (ps_if (pw_or (pt_cmpR yt (pe_ix ix_list (pv 5) pe_int (fun _ _=>rfl)) pe_int (nomark _)) (pw_or1 (pt_cmpR Xz (zr Qj (hr.mono (by decide)) (by rfl) (pa_cons (pe_ix ix_list (pv 4) pe_int (fun _ _=>rfl)) (pa_cons pe_str (pa_cons (pv 1) (pa_cons (pv 2) (pa_cons (pv 3) pa_nil)))))) (pe_ix ix_list (pv 5) pe_int (fun _ _=>rfl)) (nomark _)))).pt
    (pss_one (ps_ret pe_bl))
    pss_nil)
   (pss_cons (ps_expr (pe_bm PySem.F.plainAttrs_list PySem.F.slot_list_append PySem.F.type_list_append mt_append (pv 5) (pa_cons (zr Qj (hr.mono (by decide)) (by rfl) (pa_cons (pe_ix ix_list (pv 4) pe_int (fun _ _=>rfl)) (pa_cons pe_str (pa_cons (pe_op zO (pv 1) pe_int) (pa_cons (pe_op zO (pv 2) pe_int) (pa_cons (pe_op qj pe_int (pv 3)) pa_nil)))))) pa_nil)))
   (pss_cons (ps_for PassesOwn.never rfl (pi_list (pe_op op_cat (pe_lst (pa_cons (zr QT (hr.mono (by decide)) (by rfl) (pa_cons (pv 0) (pa_cons pe_int pa_nil))) pa_nil)) (pe_slice sl_list (pv 0) (po_some pe_int) (po_some pe_int)))) (pg_name (i:=6) JF.nd rfl (Or.inl rfl))
    (pss_one (ps_if (pt_not (pt_val (zr zci (hr.mono (by decide)) (by rfl) (pa_cons (pv 4) (pa_cons (pv 6) (pa_cons (pv 3) (pa_cons (pv 5) pa_nil)))))))
     (pss_one (ps_ret pe_bl))
     pss_nil)))
   (pss_one (ps_ret pe_bl)))))))),?_⟩
  refine⟨_,rfl,a,ns,0,rfl,hS,by decide,_,rfl,fun pf t b l H1 s1 h1 F97=>⟨pf,_,rfl,SqT.of h1,rfl,_,_,rfl,_,_,rfl,_,_,rfl,rfl,?_⟩⟩
  have ok:=F97.ok
  have F7:=F97
  obtain⟨b1,b8,bt,t1,l0,l1⟩:=F7
  have cp:0<cnt t b l:=zdj (by omega) bt l0
  refine fun x1 y1 hx1 hy1 ne1=>⟨x1,y1,rfl,upd_same,fun d1 H2 sx1 hd1 hD1=>⟨rfl,fun x2 y2 hx2 hy2 ne2=>⟨x2,y2,rfl,upd_same,fun d2 H3 sx2 hd2 hD2=>⟨rfl,(by show 2≤sizeLine;decide),fun pd hpd=>?_⟩⟩⟩⟩
  have s12:=zcg hx1 hy1 sx1
  have s23:=zcg hx2 hy2 sx2
  obtain⟨kv0,hk0,_⟩:=hD1.dict
  have n12:d1≠d2:=fun e=>by
   have n1:d1≠x2:=fun e=>by rw [e,hx2] at hk0;cases hk0
   have n2:d1≠y2:=fun e=>by rw [e,hy2] at hk0;cases hk0
   rw [← e,upd_ne n1,upd_ne n2,hk0] at hd2
   cases hd2
  have hD1:=hD1.mono s23
  have s34:Same H3 (upd H3 pd (.lst [V.ref x1,V.ref x2])):=Same.new hpd
  have hP4:(upd H3 pd (.lst [V.ref x1,V.ref x2])) pd=some (.lst [V.ref x1,V.ref x2]):=upd_same
  generalize upd H3 pd (.lst [V.ref x1,V.ref x2])=H4 at s34 hP4 ⊢
  have hD1:=hD1.mono s34
  have hD2:=hD2.mono s34
  have hS4:=(((s1.trans s12).trans s23).trans s34).seq hS
  obtain⟨k1,hk1,_⟩:=hD1.dict
  obtain⟨k2,hk2,_⟩:=hD2.dict
  have np1:pd≠d1:=fun e=>by rw [e,hk1] at hP4;cases hP4
  have np2:pd≠d2:=fun e=>by rw [e,hk2] at hP4;cases hP4
  refine⟨_,rfl,pd,_,0,_,rfl,rfl,SqL.of hP4,zcZ ..,_,rfl,_,rfl,_,rfl,x1,d1,0,_,"one",t,b,l,rfl,hD1,by decide,Xw,ok,fun H5 s45 hD15=>⟨(by show 1≤sizeLine;decide),fun pc hpc=>?_⟩⟩
  have zhC:=hD2.monoX hk1 n12.symm s45
  have hP5:=s45 _ _ hP4 np1
  have z45:wK d1 d2 H4 H5:=fun c o h n _=>s45 c o h n
  have s56:Same H5 (upd H5 pc (.lst [V.int (cnt t b l)])):=Same.new hpc
  have hC6:(upd H5 pc (.lst [V.int (cnt t b l)])) pc=some (.lst [V.int (cnt t b l)]):=upd_same
  generalize upd H5 pc (.lst [V.int (cnt t b l)])=H6 at s56 hC6 ⊢
  have zgV:=hD15.mono s56
  have zgW:=zhC.mono s56
  have hP6:=s56 _ _ hP5
  obtain⟨k16,hk16,_⟩:=zgV.dict
  obtain⟨k26,hk26,_⟩:=zgW.dict
  have nc1:pc≠d1:=fun e=>by rw [e,hk16] at hC6;cases hC6
  have nc2:pc≠d2:=fun e=>by rw [e,hk26] at hC6;cases hC6
  refine⟨_,rfl,pc,_,0,_,rfl,rfl,SqL.of hC6,zhB ..,_,_,rfl,rfl,_,rfl,ifF (by omega) ⟨_,rfl,pd,_,1,_,rfl,rfl,SqL.of hP6,zd8 ..,_,rfl,_,rfl,_,rfl,x2,d2,0,_,"other",t,b,l,rfl,zgW,by decide,yO,ok,fun H7 s67 hD27=>?_⟩⟩
  have zgX:=zgV.monoX hk26 n12 s67
  have hP7:=s67 _ _ hP6 np2
  have hC7:=s67 _ _ hC6 nc2
  have z67:wK d1 d2 H6 H7:=fun c o h _ n=>s67 c o h n
  refine⟨_,rfl,pc,_,0,_,rfl,rfl,SqL.of hC7,zhB ..,_,_,rfl,rfl,_,rfl,zbg (fun z=>absurd rfl z) (fun _=>?_)⟩
  have ok':K3 (t-1) (b-1) (2*l):=zgd (by omega) (by omega) (by omega) (by omega) (by omega) (by omega)
  refine⟨_,rfl,.inl ⟨rfl,_,SqL.of hC7⟩,_,rfl,pd,_,0,_,rfl,rfl,SqL.of hP7,zcZ ..,_,rfl,_,_,rfl,rfl,_,rfl,_,_,rfl,rfl,_,rfl,_,_,rfl,rfl,⟨10,60,by decide,zK l0 (by omega),by decide⟩,x1,d1,1,_,"lesser",t-1,b-1,2*l,rfl,zgX,by decide,zcd,ok',fun H8 s78 hD18=>?_⟩
  obtain⟨k17,hk17,_⟩:=zgX.dict
  have zhD:=hD27.monoX hk17 n12.symm s78
  have hP8:=s78 _ _ hP7 np1
  have hC8:=s78 _ _ hC7 nc1
  have z78:wK d1 d2 H7 H8:=fun c o h n _=>s78 c o h n
  refine⟨pc,_,_,rfl,rfl,hC8,(by show 1<sizeLine;decide),?_⟩
  rw [← zfE b1 bt]
  have z48:wK d1 d2 H4 H8:=((z45.trans (wK.of s56)).trans z67).trans z78
  have zhE:H4 pc=none:=by
   cases e:H4 pc with
   | none=>rfl
   | some o=>
    have:=z45 pc o e nc1 nc2
    rw [hpc] at this
    cases this
  have z49:wK d1 d2 H4 (upd H8 pc (.lst ([V.int (cnt t b l)]++[V.int (yZ t b l)]))):=z48.wr zhE
  have hS9:=z49.seq hk1 hk2 hS4
  have npc:pd≠pc:=fun e=>by rw [e,zhE] at hP4;cases hP4
  have W9:Two zp zA pd pc x1 d1 x2 d2 2 1 _ _ t b l (upd H8 pc (.lst ([V.int (cnt t b l)]++[V.int (yZ t b l)]))):=⟨by rw [upd_ne npc];exact hP8,upd_same,hD18.monoL hC8,zhD.monoL hC8,by unfold K6;rw [if_neg (by decide +kernel),if_pos rfl],if_pos rfl,F97⟩
  generalize upd H8 pc (.lst ([V.int (cnt t b l)]++[V.int (yZ t b l)]))=H9 at W9 hS9 ⊢
  clear z49 z48 z78 z67 z45 hD18 zhD zgX hD27 zgV zgW hD15 zhC
  refine⟨_,rfl,a,ns,0,rfl,hS9,by decide,(by show 1≤sizeLine;decide),fun pe hpe=>?_⟩
  have sA:Same H9 (upd H9 pe (.lst [V.int (cellOf ns 0)])):=Same.new hpe
  have hA:(upd H9 pe (.lst [V.int (cellOf ns 0)])) pe=some (.lst [V.int (cellOf ns 0)]):=upd_same
  generalize upd H9 pe (.lst [V.int (cellOf ns 0)])=HA at sA hA ⊢
  refine⟨_,rfl,_,rfl,_,rfl,_,_,rfl,sA.seq hS9,fun ps hps=>?_⟩
  rw [zaJ]
  have cl:=zex ns (some 1) (some 11)
  generalize zdK ns (some 1) (some 11)=cs at cl
  have sB:Same HA (upd HA ps (.lst (cs.map V.int))):=Same.new hps
  have hB:(upd HA ps (.lst (cs.map V.int))) ps=some (.lst (cs.map V.int)):=upd_same
  generalize upd HA ps (.lst (cs.map V.int))=HB at sB hB ⊢
  refine⟨pe,ps,_,_,rfl,rfl,sB _ _ hA,hB,(by rw [List.length_map,sizeLine_eq];show 1+cs.length≤_;omega),fun pa hpa=>?_⟩
  have ec:[V.int (cellOf ns 0)]++cs.map V.int=(cellOf ns 0::cs).map V.int:=rfl
  rw [ec]
  generalize cellOf ns 0::cs=cs2
  have sC:Same HB (upd HB pa (.lst (cs2.map V.int))):=Same.new hpa
  have hC:(upd HB pa (.lst (cs2.map V.int))) pa=some (.lst (cs2.map V.int)):=upd_same
  generalize upd HB pa (.lst (cs2.map V.int))=HC at sC hC ⊢
  have W10:=W9.mono ((sA.trans sB).trans sC)
  refine⟨pa,rfl,⟨_,SqL.of hC⟩,for_list (K:=K) (a:=pa) (xs:=cs2.map V.int) (fun i σ Hn=>∃v6:Option V,σ=[some (.ref a),some (.int t),some (.int b),some (.int l),some (.ref pd),some (.ref pc),v6]∧Same HC Hn) ⟨none,rfl,Same.refl _⟩ (fun i σ Hn _ ⟨_,_,sn⟩=>SqL.of (sn _ _ hC)) ?_ ?_⟩
  ·rintro i y σ Hn hy ⟨v6,rfl,sn⟩
   rw [List.getElem?_map] at hy
   obtain⟨c,hc,rfl⟩:=Option.map_eq_some_iff.mp hy
   exact⟨_,rfl,_,rfl,_,rfl,_,rfl,pd,pc,x1,d1,x2,d2,_,_,_,_,c,t,b,l,rfl,W10.mono sn,fun H12 s12=>⟨_,rfl,iteF ⟨_,rfl,sn.trans s12⟩⟩⟩
  ·rintro σ Hn ⟨v6,rfl,sn⟩
   exact q _
end
theorem zfX {α:Type}{F:List α→Prop}{us:List α} (h:us.length=0) (k:F []):F us:=by
 cases us with
 | nil=>exact k
 | cons a r=>cases h
theorem zdC {α:Type}{F:List α→Prop}{us:List α} (h:us.length=1) (k:∀a,F [a]):F us:=by
 cases us with
 | nil=>cases h
 | cons a r=>exact zfX (F:=fun r=>F (a::r)) (Nat.succ.inj h) (k a)
theorem zdD {α:Type}{F:List α→Prop}{us:List α} (h:us.length=2) (k:∀a b,F [a,b]):F us:=by
 cases us with
 | nil=>cases h
 | cons a r=>exact zdC (F:=fun r=>F (a::r)) (Nat.succ.inj h) (k a)
theorem zdE {α:Type}{F:List α→Prop}{us:List α} (h:us.length=3) (k:∀a b c,F [a,b,c]):F us:=by
 cases us with
 | nil=>cases h
 | cons a r=>exact zdD (F:=fun r=>F (a::r)) (Nat.succ.inj h) (k a)
theorem zdF {α:Type}{F:List α→Prop}{us:List α} (h:us.length=4) (k:∀a b c d,F [a,b,c,d]):F us:=by
 cases us with
 | nil=>cases h
 | cons a r=>exact zdE (F:=fun r=>F (a::r)) (Nat.succ.inj h) (k a)
theorem zfY {α:Type}{F:List α→Prop}{us:List α} (h:us.length=5) (k:∀a b c d e,F [a,b,c,d,e]):F us:=by
 cases us with
 | nil=>cases h
 | cons a r=>exact zdF (F:=fun r=>F (a::r)) (Nat.succ.inj h) (k a)
theorem zR {fd:FuncData}{ps:List Str}{us:List Value} (h:us.length=1) (k:∀a,bindArgs fd ⟨[a],[]⟩=pure (ps.zip [a])):bindArgs fd ⟨us,[]⟩=pure (ps.zip us):=zdC (F:=fun us=>bindArgs fd ⟨us,[]⟩=pure (ps.zip us)) h k
theorem zE {fd:FuncData}{ps:List Str}{us:List Value} (h:us.length=2) (k:∀a b,bindArgs fd ⟨[a,b],[]⟩=pure (ps.zip [a,b])):bindArgs fd ⟨us,[]⟩=pure (ps.zip us):=zdD (F:=fun us=>bindArgs fd ⟨us,[]⟩=pure (ps.zip us)) h k
theorem jL {fd:FuncData}{ps:List Str}{us:List Value} (h:us.length=3) (k:∀a b c,bindArgs fd ⟨[a,b,c],[]⟩=pure (ps.zip [a,b,c])):bindArgs fd ⟨us,[]⟩=pure (ps.zip us):=zdE (F:=fun us=>bindArgs fd ⟨us,[]⟩=pure (ps.zip us)) h k
theorem qO {fd:FuncData}{ps:List Str}{us:List Value} (h:us.length=4) (k:∀a b c d,bindArgs fd ⟨[a,b,c,d],[]⟩=pure (ps.zip [a,b,c,d])):bindArgs fd ⟨us,[]⟩=pure (ps.zip us):=zdF (F:=fun us=>bindArgs fd ⟨us,[]⟩=pure (ps.zip us)) h k
theorem Wn {fd:FuncData}{ps:List Str}{us:List Value} (h:us.length=5) (k:∀a b c d e,bindArgs fd ⟨[a,b,c,d,e],[]⟩=pure (ps.zip [a,b,c,d,e])):bindArgs fd ⟨us,[]⟩=pure (ps.zip us):=zfY (F:=fun us=>bindArgs fd ⟨us,[]⟩=pure (ps.zip us)) h k
noncomputable def DI (K:PySem.W.Frag) (x:Str) (st:Stmt) (f:Addr):Prop:=∃(oc:Value) (od:Option Addr) (sl:Array (Option Value)) (kV dc pm:Value) (an:Option Addr) (cd ct:Value),PySem.W.nsIn K mainGlobals x=some (some (.ref f))∧K.lookup f=some ⟨oc,od,.func (PySem.W.fnOf x x (defArgs st) (defBody st) (defScope st) .none kV dc pm an cd ct),sl⟩∧PySem.W.codeIn K cd x=true∧PySem.W.keepIn K (.ref f)=true
theorem DI.dd {K:PySem.W.Frag}{h:Heap}{mg:Str→Option Value}{x:Str}{st:Stmt}{f:Addr}{ps:List Str} (d:DI K x st f) (X:K.In h) (G:h.Ns mainGlobals mg) (hb:∀(kV dc pm:Value) (an:Option Addr) (cd ct:Value) (us:List Value),us.length=ps.length→bindArgs (PySem.W.fnOf x x (defArgs st) (defBody st) (defScope st) .none kV dc pm an cd ct) ⟨us,[]⟩=pure (ps.zip us)):Def K mg x st ps:=by
 obtain⟨oc,od,sl,kV,dc,pm,an,cd,ct,a,l,c,k⟩:=d
 exact⟨f,_,fun_mk l c k,(fun_mk (st:=st) l c k).binds (ps:=ps) hb,PySem.W.mg_of X G a⟩
theorem di_mk {K:PySem.W.Frag}{x:Str}{st:Stmt}{f:Addr}{oc:Value}{od:Option Addr}{sl:Array (Option Value)}{kV dc pm:Value}{an:Option Addr}{cd ct:Value} (a:PySem.W.nsIn K mainGlobals x=some (some (.ref f))) (l:K.lookup f=some ⟨oc,od,.func (PySem.W.fnOf x x (defArgs st) (defBody st) (defScope st) .none kV dc pm an cd ct),sl⟩) (c:PySem.W.codeIn K cd x=true) (k:PySem.W.keepIn K (.ref f)=true):DI K x st f:=⟨_,_,_,_,_,_,_,_,_,a,l,c,k⟩
theorem all_mk {l:PySem.W.OpenLaw} (hP:l.prog.given.tree=none){w:World}{K:PySem.W.Frag}{h:Heap}{mg:Str→Option Value}{fa:Addr} (X:K.In h) (G:h.Ns mainGlobals mg) (hfa:mg "law"=some (.ref fa))
  {f0:Addr} (d0:DI K "choose" ZK f0)
  {f1:Addr} (d1:DI K "top_of" XM f1)
  {f2:Addr} (d2:DI K "top_from" wB f2)
  {f3:Addr} (d3:DI K "above_top" xU f3)
  {f4:Addr} (d4:DI K "rounded_up" jU f4)
  {f5:Addr} (d5:DI K "box_of" ZL f5)
  {f6:Addr} (d6:DI K "bell_row" wC f6)
  {f7:Addr} (d7:DI K "heard_box" xV f7)
  {f8:Addr} (d8:DI K "box_count" xW f8)
  {f9:Addr} (d9:DI K "greatest_part" jb f9)
  {f10:Addr} (d10:DI K "shortest_frame" xX f10)
  {f11:Addr} (d11:DI K "best_bells" Zg f11)
  {f12:Addr} (d12:DI K "cheapest" Qp f12)
  {f13:Addr} (d13:DI K "box_number" jV f13)
  {f14:Addr} (d14:DI K "box_of_message" qP f14)
  {f15:Addr} (d15:DI K "written" yx f15)
  {f16:Addr} (d16:DI K "read" Xi f16)
  {f17:Addr} (d17:DI K "keyed_count" jB f17)
  {f18:Addr} (d18:DI K "keyed" Qq f18)
  {f19:Addr} (d19:DI K "unkeyed" yz f19)
  {f20:Addr} (d20:DI K "refuse_silent" qF f20)
  {f21:Addr} (d21:DI K "rung" Xj f21)
  {f22:Addr} (d22:DI K "by_messages" jC f22)
  {f23:Addr} (d23:DI K "note_number" jD f23)
  {f24:Addr} (d24:DI K "note_of" yC f24)
  {f25:Addr} (d25:DI K "parts" Qs f25)
  {f26:Addr} (d26:DI K "number_of_parts" qH f26)
  {f27:Addr} (d27:DI K "sent" Xk f27)
  {f28:Addr} (d28:DI K "received" wD f28)
  {f29:Addr} (d29:DI K "messages_ahead_of_end" zT f29)
  {f30:Addr} (d30:DI K "is_made_of" jW f30)
  {f31:Addr} (d31:DI K "name_in" yD f31)
  {f32:Addr} (d32:DI K "figures_in" jX f32)
  {f33:Addr} (d33:DI K "number_in" xY f33)
  {f34:Addr} (d34:DI K "message_in" jY f34)
  {f35:Addr} (d35:DI K "bells_in" wF f35)
  {f36:Addr} (d36:DI K "turns_in" wG f36)
  {f37:Addr} (d37:DI K "number_told" jE f37)
  {f38:Addr} (d38:DI K "turns_told" jZ f38)
  {f39:Addr} (d39:DI K "count_of" wH f39)
  {f40:Addr} (d40:DI K "note_heard" j4 f40)
  {f41:Addr} (d41:DI K "choice_told" yE f41)
  {f42:Addr} (d42:DI K "cheapest_told" vU f42)
  {f43:Addr} (d43:DI K "_law_cell_at" jw f43)
  {f44:Addr} (d44:DI K "_law_drawn" j5 f44)
  {f45:Addr} (d45:DI K "_law_frame" j6 f45)
  {f46:Addr} (d46:DI K "_law_count" j7 f46)
  {f47:Addr} (d47:DI K "_law_road" xZ f47)
  {f48:Addr} (d48:DI K "_law_number" jF f48)
  {f49:Addr} (d49:DI K "_law_note" vd f49)
  {f50:Addr} (d50:DI K "_law_sent" vf f50)
  {f51:Addr} (d51:DI K "law" XN f51)
  (z_range:PySem.W.nsIn K mainGlobals "range"=some none)
  (z_isinstance:PySem.W.nsIn K mainGlobals "isinstance"=some none)
  (z_int:PySem.W.nsIn K mainGlobals "int"=some none)
  (z_bool:PySem.W.nsIn K mainGlobals "bool"=some none)
  (z_len:PySem.W.nsIn K mainGlobals "len"=some none)
  (z_list:PySem.W.nsIn K mainGlobals "list"=some none)
  (zde:PySem.W.nsIn K mainGlobals "max"=some none)
  (z_min:PySem.W.nsIn K mainGlobals "min"=some none)
  (z_enumerate:PySem.W.nsIn K mainGlobals "enumerate"=some none)
  (z_sorted:PySem.W.nsIn K mainGlobals "sorted"=some none)
  (z_sum:PySem.W.nsIn K mainGlobals "sum"=some none)
  (z_all:PySem.W.nsIn K mainGlobals "all"=some none)
  (z_str:PySem.W.nsIn K mainGlobals "str"=some none)
  (zdf:PySem.W.nsIn K mainGlobals "zip"=some none)
  (z_reversed:PySem.W.nsIn K mainGlobals "reversed"=some none)
  (wZ:PySem.W.nsIn K mainGlobals "ValueError"=some none)
  {jh:Addr} (xN:PySem.W.nsIn K mainGlobals "BellError"=some (some (.ref jh)))
  {jz:Addr} (yh:PySem.W.nsIn K mainGlobals "NoRow"=some (some (.ref jz)))
  {zf:Addr} (zF:PySem.W.nsIn K mainGlobals "NoReading"=some (some (.ref zf)))
  {zj:Addr} (zP:PySem.W.nsIn K mainGlobals "TooGreat"=some (some (.ref zj)))
  {zV:Addr} (qQ:PySem.W.nsIn K mainGlobals "NoNote"=some (some (.ref zV)))
  {zc:Addr} (zL:PySem.W.nsIn K mainGlobals "NoOrder"=some (some (.ref zc)))
  {zJ:Addr} (vB:PySem.W.nsIn K mainGlobals "NoName"=some (some (.ref zJ)))
  {zA:Addr} (yc:PySem.W.nsIn K mainGlobals "Frame"=some (some (.ref zA)))
  {zp:Addr} (QD:PySem.W.nsIn K mainGlobals "Desk"=some (some (.ref zp)))
  {vV:Tok} (jP:PySem.W.nsIn K mainGlobals "LETTERS"=some (some (.str "abcdefghijklmnopqrstuvwxyz" vV)))
  {qJ:Tok} (qb:PySem.W.nsIn K mainGlobals "MOST_LETTERS"=some (some (.int 8 qJ)))
  {vW:Tok} (jR:PySem.W.nsIn K mainGlobals "FIGURES"=some (some (.str "0123456789" vW)))
  {qK:Tok} (qd:PySem.W.nsIn K mainGlobals "MOST_FIGURES"=some (some (.int 60 qK)))
  {zB:Tok} (zm:PySem.W.nsIn K mainGlobals "MOST_FIGURES_OF_MESSAGE"=some (some (.int 3000 zB)))
  {jn:Tok} (qz:PySem.W.nsIn K mainGlobals "MOST_BELLS"=some (some (.int 60 jn)))
  {yg:Tok} (jq:PySem.W.nsIn K mainGlobals "SIGNS"=some (some (.str "abcdefghijklmnopqrstuvwxyz " yg)))
  {qC:Tok} (zX:PySem.W.nsIn K mainGlobals "MOST_SIGNS"=some (some (.int 60 qC)))
  {qX:Tok} (z7:PySem.W.nsIn K mainGlobals "LEAST_COUNT"=some (some (.int 3 qX)))
  (xO:PySem.W.excIn K jh bmV "ValueError.__new__"=true)
  (yj:PySem.W.excIn K jz bmV "ValueError.__new__"=true)
  (zG:PySem.W.excIn K zf bmV "ValueError.__new__"=true)
  (zQ:PySem.W.excIn K zj bmV "ValueError.__new__"=true)
  (zM:PySem.W.excIn K zc bmV "ValueError.__new__"=true)
  (vC:PySem.W.excIn K zJ bmV "ValueError.__new__"=true)
  (qT:PySem.W.excIn K zV bmV "ValueError.__new__"=true)
  (JP:PySem.W.plainGet K zA Str.empty=true)
  (JQ:PySem.W.hasDictIn K zA=true)
  (JR:PySem.W.plainOver K zA=true)
  (JS:PySem.W.findIn K (.ref zA) "__setattr__"=some (some (.builtin "object.__setattr__")))
  (JT:PySem.W.makesIn K zA=true)
  (JV:PySem.W.keepIn K (.ref zA)=true)
  (wN:PySem.W.findIn K (.ref zA) "turns"=some none)
  (wO:PySem.W.findIn K (.ref zA) "bells"=some none)
  (yR:PySem.W.findIn K (.ref zA) "late"=some none)
  (v8:PySem.W.findIn K (.ref zA) "frames"=some none)
  (Vj:PySem.W.plainGet K zp Str.empty=true)
  (Vk:PySem.W.hasDictIn K zp=true)
  (Vl:PySem.W.plainOver K zp=true)
  (Vm:PySem.W.findIn K (.ref zp) "__setattr__"=some (some (.builtin "object.__setattr__")))
  (Vn:PySem.W.makesIn K zp=true)
  (Vo:PySem.W.keepIn K (.ref zp)=true)
  (yS:PySem.W.findIn K (.ref zp) "turns"=some none)
  (yU:PySem.W.findIn K (.ref zp) "bells"=some none)
  (Zw:PySem.W.findIn K (.ref zp) "late"=some none)
  (wQ:PySem.W.findIn K (.ref zp) "frames"=some none)
  {j8:Addr}{Wo Wq:Option Addr}{Wr:Array (Option Value)}{Ws Wt Wu Wv QV Ww:Value}
  (jM:PySem.W.findIn K (.ref zA) "__init__"=some (some (.ref j8)))
  (vI:K.lookup j8=some ⟨Ws,Wo,.func (PySem.W.fnOf "__init__" "Frame.__init__" (defArgs qW) (defBody qW) (defScope qW) .none Wt Wu Wv Wq QV Ww),Wr⟩) (vJ:PySem.W.codeIn K QV "Frame.__init__"=true) (yV:PySem.W.keepIn K (.ref j8)=true) (yW:PySem.W.isFn K (.ref j8)=true)
  {vK:Addr}{Yd Ye:Option Addr}{Yg:Array (Option Value)}{Yh Yi Yj Yk Jh Yl:Value}
  (xx:PySem.W.findIn K (.ref zp) "__init__"=some (some (.ref vK)))
  (kI:K.lookup vK=some ⟨Yh,Yd,.func (PySem.W.fnOf "__init__" "Desk.__init__" (defArgs ji) (defBody ji) (defScope ji) .none Yi Yj Yk Ye Jh Yl),Yg⟩) (kJ:PySem.W.codeIn K Jh "Desk.__init__"=true) (Zx:PySem.W.keepIn K (.ref vK)=true) (Zy:PySem.W.isFn K (.ref vK)=true)
  {vL:Addr}{Ym Yn:Option Addr}{Yo:Array (Option Value)}{Yp Yq Yr Ys Ji Yt:Value}
  (xF:PySem.W.findIn K (.ref zp) "told"=some (some (.ref vL)))
  (kO:K.lookup vL=some ⟨Yp,Ym,.func (PySem.W.fnOf "told" "Desk.told" (defArgs jj) (defBody jj) (defScope jj) .none Yq Yr Ys Yn Ji Yt),Yo⟩) (kW:PySem.W.codeIn K Ji "Desk.told"=true) (kY:PySem.W.keepIn K (.ref vL)=true) (Zz:PySem.W.isFn K (.ref vL)=true)
  {vM:Addr}{Yu Yv:Option Addr}{Yw:Array (Option Value)}{Yx Yy Yz YB Jj YC:Value}
  (xG:PySem.W.findIn K (.ref zp) "keep"=some (some (.ref vM)))
  (kZ:K.lookup vM=some ⟨Yx,Yu,.func (PySem.W.fnOf "keep" "Desk.keep" (defArgs jk) (defBody jk) (defScope jk) .none Yy Yz YB Yv Jj YC),Yw⟩) (wg:PySem.W.codeIn K Jj "Desk.keep"=true) (wj:PySem.W.keepIn K (.ref vM)=true) (ZC:PySem.W.isFn K (.ref vM)=true)
  {vN:Addr}{YD YF:Option Addr}{YG:Array (Option Value)}{YH YJ YK YL Jk YM:Value}
  (xH:PySem.W.findIn K (.ref zp) "ring"=some (some (.ref vN)))
  (wk:K.lookup vN=some ⟨YH,YD,.func (PySem.W.fnOf "ring" "Desk.ring" (defArgs jl) (defBody jl) (defScope jl) .none YJ YK YL YF Jk YM),YG⟩) (wu:PySem.W.codeIn K Jk "Desk.ring"=true) (ww:PySem.W.keepIn K (.ref vN)=true) (ZD:PySem.W.isFn K (.ref vN)=true)
  {jN:Addr}{VF VG:Option Addr}{VH:Array (Option Value)}{VJ VL VM VN Qm VP:Value}
  (jO:PySem.W.findIn K (.ref zp) "listen"=some (some (.ref jN)))
  (xg:K.lookup jN=some ⟨VJ,VF,.func (PySem.W.fnOf "listen" "Desk.listen" (defArgs qI) (defBody qI) (defScope qI) .none VL VM VN VG Qm VP),VH⟩) (xj:PySem.W.codeIn K Qm "Desk.listen"=true) (xm:PySem.W.keepIn K (.ref jN)=true) (wU:PySem.W.isFn K (.ref jN)=true)
  {qU:Addr}{JW JX:Option Addr}{JZ:Array (Option Value)}{J1 J2 J3 J4 yX Xa:Value}
  (jf:PySem.W.findIn K (.ref zp) "send_note"=some (some (.ref qU)))
  (jr:K.lookup qU=some ⟨J1,JW,.func (PySem.W.fnOf "send_note" "Desk.send_note" (defArgs z8) (defBody z8) (defScope z8) .none J2 J3 J4 JX yX Xa),JZ⟩) (jt:PySem.W.codeIn K yX "Desk.send_note"=true) (ju:PySem.W.keepIn K (.ref qU)=true) (xJ:PySem.W.isFn K (.ref qU)=true)
  {vO:Addr}{YQ YS:Option Addr}{YT:Array (Option Value)}{YW YX YZ Y0 Jl Y4:Value}
  (xK:PySem.W.findIn K (.ref zp) "kept"=some (some (.ref vO)))
  (wy:K.lookup vO=some ⟨YW,YQ,.func (PySem.W.fnOf "kept" "Desk.kept" (defArgs jm) (defBody jm) (defScope jm) .none YX YZ Y0 YS Jl Y4),YT⟩) (wz:PySem.W.codeIn K Jl "Desk.kept"=true) (wA:PySem.W.keepIn K (.ref vO)=true) (ZF:PySem.W.isFn K (.ref vO)=true)
  : ∃fd:FuncData,(∀(s:Shared) (v:Value),BindsTo s fd ⟨[v],[]⟩ [("script",v)])∧∀base:Heap,K.In base→base.Ns mainGlobals mg→FnOk l.prog w K mg base CX0 50 fa fd ["script"] (spLaw K):=by
 obtain⟨_,_,_,kL,dL,pL,nL,cL,tL,aL,lL,eL,rL⟩:=d51
 have e:=hfa.symm.trans (PySem.W.mg_of X G aL)
 cases e
 have Wk:Def K mg "choose" ZK ["n","k"]:=d0.dd X G fun _ _ _ _ _ _ us hl=>zE hl fun _ _=>rfl
 have zch:Def K mg "top_of" XM ["k","number"]:=d1.dd X G fun _ _ _ _ _ _ us hl=>zE hl fun _ _=>rfl
 have JG:Def K mg "top_from" wB ["start","k","number"]:=d2.dd X G fun _ _ _ _ _ _ us hl=>jL hl fun _ _ _=>rfl
 have QJ:Def K mg "above_top" xU ["k","number"]:=d3.dd X G fun _ _ _ _ _ _ us hl=>zE hl fun _ _=>rfl
 have Z8:Def K mg "rounded_up" jU ["number","divisor"]:=d4.dd X G fun _ _ _ _ _ _ us hl=>zE hl fun _ _=>rfl
 have Wl:Def K mg "box_of" ZL ["row","late"]:=d5.dd X G fun _ _ _ _ _ _ us hl=>zE hl fun _ _=>rfl
 have JH:Def K mg "bell_row" wC ["box","late"]:=d6.dd X G fun _ _ _ _ _ _ us hl=>zE hl fun _ _=>rfl
 have QK:Def K mg "heard_box" xV ["reading","late"]:=d7.dd X G fun _ _ _ _ _ _ us hl=>zE hl fun _ _=>rfl
 have QL:Def K mg "box_count" xW ["turns","bells","late"]:=d8.dd X G fun _ _ _ _ _ _ us hl=>jL hl fun _ _ _=>rfl
 have wM:Def K mg "greatest_part" jb ["turns","bells","late"]:=d9.dd X G fun _ _ _ _ _ _ us hl=>jL hl fun _ _ _=>rfl
 have ZS:Def K mg "shortest_frame" xX ["bells","late","many"]:=d10.dd X G fun _ _ _ _ _ _ us hl=>jL hl fun _ _ _=>rfl
 have Xy:Def K mg "best_bells" Zg ["turns","late","most"]:=d11.dd X G fun _ _ _ _ _ _ us hl=>jL hl fun _ _ _=>rfl
 have Wm:Def K mg "cheapest" Qp ["many","late","turn_cost","bell_cost","most"]:=d12.dd X G fun _ _ _ _ _ _ us hl=>Wn hl fun _ _ _ _ _=>rfl
 have Z9:Def K mg "box_number" jV ["box"]:=d13.dd X G fun _ _ _ _ _ _ us hl=>zR hl fun _=>rfl
 have vZ:Def K mg "box_of_message" qP ["message","bells"]:=d14.dd X G fun _ _ _ _ _ _ us hl=>zE hl fun _ _=>rfl
 have Vf:Def K mg "written" yx ["message","turns","bells","late"]:=d15.dd X G fun _ _ _ _ _ _ us hl=>qO hl fun _ _ _ _=>rfl
 have zc0:Def K mg "read" Xi ["reading","turns","bells","late"]:=d16.dd X G fun _ _ _ _ _ _ us hl=>qO hl fun _ _ _ _=>rfl
 have Zo:Def K mg "keyed_count" jB ["turns","bells","late"]:=d17.dd X G fun _ _ _ _ _ _ us hl=>jL hl fun _ _ _=>rfl
 have zbb:Def K mg "keyed" Qq ["message","turns","bells","late"]:=d18.dd X G fun _ _ _ _ _ _ us hl=>qO hl fun _ _ _ _=>rfl
 have Vg:Def K mg "unkeyed" yz ["reading","turns","bells","late"]:=d19.dd X G fun _ _ _ _ _ _ us hl=>qO hl fun _ _ _ _=>rfl
 have xf:Def K mg "refuse_silent" qF ["turns","bells"]:=d20.dd X G fun _ _ _ _ _ _ us hl=>zE hl fun _ _=>rfl
 have zc1:Def K mg "rung" Xj ["messages","turns","bells","late"]:=d21.dd X G fun _ _ _ _ _ _ us hl=>qO hl fun _ _ _ _=>rfl
 have Zq:Def K mg "by_messages" jC ["reading","turns","late"]:=d22.dd X G fun _ _ _ _ _ _ us hl=>jL hl fun _ _ _=>rfl
 have Zr:Def K mg "note_number" jD ["note"]:=d23.dd X G fun _ _ _ _ _ _ us hl=>zR hl fun _=>rfl
 have Vh:Def K mg "note_of" yC ["number"]:=d24.dd X G fun _ _ _ _ _ _ us hl=>zR hl fun _=>rfl
 have zbc:Def K mg "parts" Qs ["number","base"]:=d25.dd X G fun _ _ _ _ _ _ us hl=>zE hl fun _ _=>rfl
 have vH:Def K mg "number_of_parts" qH ["figures","base"]:=d26.dd X G fun _ _ _ _ _ _ us hl=>zE hl fun _ _=>rfl
 have zc2:Def K mg "sent" Xk ["note","turns","bells","late"]:=d27.dd X G fun _ _ _ _ _ _ us hl=>qO hl fun _ _ _ _=>rfl
 have JK:Def K mg "received" wD ["reading","turns","bells","late"]:=d28.dd X G fun _ _ _ _ _ _ us hl=>qO hl fun _ _ _ _=>rfl
 have je:Def K mg "messages_ahead_of_end" zT ["reading","turns","bells","late"]:=d29.dd X G fun _ _ _ _ _ _ us hl=>qO hl fun _ _ _ _=>rfl
 have Qa:Def K mg "is_made_of" jW ["word","signs","most"]:=d30.dd X G fun _ _ _ _ _ _ us hl=>jL hl fun _ _ _=>rfl
 have Vi:Def K mg "name_in" yD ["word"]:=d31.dd X G fun _ _ _ _ _ _ us hl=>zR hl fun _=>rfl
 have Qc:Def K mg "figures_in" jX ["word","most"]:=d32.dd X G fun _ _ _ _ _ _ us hl=>zE hl fun _ _=>rfl
 have QM:Def K mg "number_in" xY ["word"]:=d33.dd X G fun _ _ _ _ _ _ us hl=>zR hl fun _=>rfl
 have Qd:Def K mg "message_in" jY ["word"]:=d34.dd X G fun _ _ _ _ _ _ us hl=>zR hl fun _=>rfl
 have JL:Def K mg "bells_in" wF ["word"]:=d35.dd X G fun _ _ _ _ _ _ us hl=>zR hl fun _=>rfl
 have JM:Def K mg "turns_in" wG ["words"]:=d36.dd X G fun _ _ _ _ _ _ us hl=>zR hl fun _=>rfl
 have Zt:Def K mg "number_told" jE ["number"]:=d37.dd X G fun _ _ _ _ _ _ us hl=>zR hl fun _=>rfl
 have Qe:Def K mg "turns_told" jZ ["turns"]:=d38.dd X G fun _ _ _ _ _ _ us hl=>zR hl fun _=>rfl
 have JN:Def K mg "count_of" wH ["frame"]:=d39.dd X G fun _ _ _ _ _ _ us hl=>zR hl fun _=>rfl
 have Qf:Def K mg "note_heard" j4 ["reading","frame"]:=d40.dd X G fun _ _ _ _ _ _ us hl=>zE hl fun _ _=>rfl
 have Zu:Def K mg "choice_told" yE ["words"]:=d41.dd X G fun _ _ _ _ _ _ us hl=>zR hl fun _=>rfl
 have Ql:Def K mg "cheapest_told" vU ["words"]:=d42.dd X G fun _ _ _ _ _ _ us hl=>zR hl fun _=>rfl
 have yQ:Def K mg "_law_cell_at" jw ["script","k"]:=d43.dd X G fun _ _ _ _ _ _ us hl=>zE hl fun _ _=>rfl
 have Qg:Def K mg "_law_drawn" j5 ["cell","k"]:=d44.dd X G fun _ _ _ _ _ _ us hl=>zE hl fun _ _=>rfl
 have Qh:Def K mg "_law_frame" j6 ["cell"]:=d45.dd X G fun _ _ _ _ _ _ us hl=>zR hl fun _=>rfl
 have Qi:Def K mg "_law_count" j7 ["desk","name","turns","bells","late"]:=d46.dd X G fun _ _ _ _ _ _ us hl=>Wn hl fun _ _ _ _ _=>rfl
 have QQ:Def K mg "_law_road" xZ ["cell","answer","late","lag"]:=d47.dd X G fun _ _ _ _ _ _ us hl=>qO hl fun _ _ _ _=>rfl
 have Zv:Def K mg "_law_number" jF ["cell","count"]:=d48.dd X G fun _ _ _ _ _ _ us hl=>zE hl fun _ _=>rfl
 have QR:Def K mg "_law_note" vd ["cell"]:=d49.dd X G fun _ _ _ _ _ _ us hl=>zR hl fun _=>rfl
 have QS:Def K mg "_law_sent" vf ["desks","cell","late","counts"]:=d50.dd X G fun _ _ _ _ _ _ us hl=>qO hl fun _ _ _ _=>rfl
 have O:Own K zA zp:=⟨⟨JP,JQ,JR,JS⟩,wN,wO,yR,v8,⟨Vj,Vk,Vl,Vm⟩,yS,yU,Zw,wQ,⟨j8,⟨_,Zb vI vJ,(fun_mk (st:=qW) vI vJ yV).binds (ps:=["self","turns","bells","late"]) (fun _ _ _ _ _ _ us hl=>qO hl fun _ _ _ _=>rfl)⟩,⟨JT,jM,yW,JV⟩⟩,⟨vK,⟨_,Zb kI kJ,(fun_mk (st:=ji) kI kJ Zx).binds (ps:=["self"]) (fun _ _ _ _ _ _ us hl=>zR hl fun _=>rfl)⟩,⟨Vn,xx,Zy,Vo⟩⟩,⟨vL,⟨_,Zb kO kW,(fun_mk (st:=jj) kO kW kY).binds (ps:=["self","order"]) (fun _ _ _ _ _ _ us hl=>zE hl fun _ _=>rfl)⟩,⟨xF,Zz,kY⟩⟩,⟨vM,⟨_,Zb kZ wg,(fun_mk (st:=jk) kZ wg wj).binds (ps:=["self","words"]) (fun _ _ _ _ _ _ us hl=>zE hl fun _ _=>rfl)⟩,⟨xG,ZC,wj⟩⟩,⟨vN,⟨_,Zb wk wu,(fun_mk (st:=jl) wk wu ww).binds (ps:=["self","words"]) (fun _ _ _ _ _ _ us hl=>zE hl fun _ _=>rfl)⟩,⟨xH,ZD,ww⟩⟩,⟨jN,⟨_,Zb xg xj,(fun_mk (st:=qI) xg xj xm).binds (ps:=["self","words"]) (fun _ _ _ _ _ _ us hl=>zE hl fun _ _=>rfl)⟩,⟨jO,wU,xm⟩⟩,⟨qU,⟨_,Zb jr jt,(fun_mk (st:=z8) jr jt ju).binds (ps:=["self","words"]) (fun _ _ _ _ _ _ us hl=>zE hl fun _ _=>rfl)⟩,⟨jf,xJ,ju⟩⟩,⟨vO,⟨_,Zb wy wz,(fun_mk (st:=jm) wy wz wA).binds (ps:=["self","name"]) (fun _ _ _ _ _ _ us hl=>zE hl fun _ _=>rfl)⟩,⟨xK,ZF,wA⟩⟩⟩
 have T:Txt K mg:=⟨PySem.W.mg_none_of X G z_range,PySem.W.mg_none_of X G z_isinstance,PySem.W.mg_none_of X G z_int,PySem.W.mg_none_of X G z_bool,PySem.W.mg_none_of X G z_len,PySem.W.mg_none_of X G z_list,PySem.W.mg_none_of X G zde,PySem.W.mg_none_of X G z_min,PySem.W.mg_none_of X G z_enumerate,PySem.W.mg_none_of X G z_sorted,PySem.W.mg_none_of X G z_sum,PySem.W.mg_none_of X G z_all,PySem.W.mg_none_of X G z_str,PySem.W.mg_none_of X G zdf,PySem.W.mg_none_of X G z_reversed,PySem.W.mg_none_of X G wZ⟩
 exact⟨PySem.W.fnOf "law" "law" (defArgs XN) (defBody XN) (defScope XN) .none kL dL pL nL cL tL,fun s v=>.of_eq rfl,fun base _ _=>ok_law hP (fun_mk lL eL rL) T Wk zch JG QJ Z8 Wl JH QK QL wM ZS Xy Wm Z9 vZ Vf zc0 Zo zbb Vg xf zc1 Zq Zr Vh zbc vH zc2 JK je Qa Vi Qc QM Qd JL JM Zt Qe JN Qf Zu Ql yQ Qg Qh Qi QQ Zv QR QS (PySem.W.mg_of X G xN) (PySem.W.mg_of X G yh) (PySem.W.mg_of X G zF) (PySem.W.mg_of X G zP) (PySem.W.mg_of X G qQ) (PySem.W.mg_of X G zL) (PySem.W.mg_of X G vB) (PySem.W.mg_of X G yc) (PySem.W.mg_of X G QD) (PySem.W.mg_of X G jP) (PySem.W.mg_of X G qb) (PySem.W.mg_of X G jR) (PySem.W.mg_of X G qd) (PySem.W.mg_of X G zm) (PySem.W.mg_of X G qz) (PySem.W.mg_of X G jq) (PySem.W.mg_of X G zX) (PySem.W.mg_of X G z7) xO yj zG zQ zM vC qT O⟩
theorem walk {l:PySem.W.OpenLaw}{q:Program}{loose:List Str}{XP:(Str→Option Value)→Heap→Prop}{YP:World→Heap→Prop}{d:DefRec}{K:Params→PySem.W.Frag} (hn:l.most=some 63) (hdf:d.params.defaults=[]) (hq:PyProof.Rows.importsNone q=true)
  (hY:∀(w:World) (h:Heap),YP w h→(K w.params).In h)
  (F:∀(w:World) (mg:Str→Option Value) (fa:Addr) (h:Heap),(K w.params).In h→h.Ns mainGlobals mg→mg d.name=some (.ref fa) →
   ∃fd:FuncData,(∀(s:Shared) (u:Value),BindsTo s fd ⟨[u],[]⟩ [("script",u)])∧∀base:Heap,(K w.params).In base→base.Ns mainGlobals mg→FnOk l.prog w (K w.params) mg base CX0 50 fa fd ["script"] (spLaw (K w.params))) :
  PySem.W.WalkO q loose XP YP l.row.toRowW d [] (fun f vs=>PySem.call f vs):=
 L2.walk_of (n:=63) (k:=50) (x:="script") (CX:=fun _=>CX0) (sp:=fun w=>spLaw (K w.params)) hn (by decide) hdf hq ⟨rfl,by decide,by decide⟩ hY F (fun _ _ a ns hl hbt _ hS=>⟨a,ns,rfl,hS,hl,fun _=>rfl⟩) fun _ _ _ _ _ z=>z
end Bw
namespace Op
noncomputable section
open PySem PySem.W PyProof.Rows L2
noncomputable abbrev p:Program:=PySem.Challenge.pw_bellwrite_k97_whole_from_desk_to_desk
noncomputable def t (i:Nat):Stmt:=p.main.body.getD i (.Pass ⟨0,0,0,0⟩)
noncomputable def u (i j:Nat):Stmt:=inClass (t i) j
noncomputable abbrev fd (s:Stmt) (nm qn:Str) (g:Addr) (cl:List (Str×Addr)) (d kd dc pm:Value) (an:Option Addr) (cd ct:Value) (bi:Addr):FuncData:=⟨nm,qn,defArgs s,.stmts (defBody s),defScope s,g,cl,d,kd,dc,pm,an,cd,ct,bi⟩
noncomputable abbrev e (P:Params) (s:Str) (k:Tok) (v:Value):DictEntry:=⟨PyData.keyHash P s,.str s k,v⟩
abbrev n:=BT.node
abbrev z:=BT.nil
abbrev vi (k:Int):Value:=.int k 0
abbrev vr (a:Addr):Value:=.ref a
abbrev vs (x:Str) (k:Tok):Value:=.str x k
abbrev vy:=Value.type
abbrev vb:=Value.builtin
abbrev tp (xs:Array Value):Obj:=⟨vy "tuple",none,.seq xs 0,#[]⟩
abbrev co (xs:Array Value):Obj:=⟨vy "code",none,.fields xs,#[]⟩
noncomputable abbrev fo (x:Stmt) (nm qn:Str) (m:Value) (c:Addr):Obj:=⟨vy "function",none,.func (fd x nm qn 3 [] .none .none .none m none (.ref c) .none 0),#[]⟩
noncomputable abbrev go (x:Stmt) (nm qn:Str):Obj:=⟨.none,none,.func (fd x nm qn 0 [] .none .none .none .none none .none .none 0),#[]⟩
noncomputable def lf:Life:=⟨[],[],[],0,[],[],false,#[],[],0,false,false,false,0,[2000,10,10],false,0,true,[],[],0,false⟩
noncomputable def o1:Obj:=co #[(vs "<module>" 182),(vs "<module>" 183),(vs "/claim/cut.py" 184),(vi 1),(vi 0),(vi 0),(vi 0),(vi 0),(vr 11),(.bool false),(vi 181),(vr 12),.none,.none,.none,.none,(vi 185),(vi 1),(vs "/claim/cut.py" 186)]
noncomputable def o2:Obj:=⟨(vy "frame"),none,.plain,#[(some (vr 13)),(some (vr 3)),(some (vr 3)),none,(some (vs "__main__" 164)),none,(some (vr 0))]⟩
noncomputable def o3 (P:Params):Obj:=⟨(vy "dict"),none,(.dict #[e P "__name__" 165 (vs "law_bellwrite_k97_whole_from_desk_to_desk" 833),e P "__doc__" 166 .none,e P "__package__" 167 .none,e P "__loader__" 168 (vb "__main__.__loader__#opaque"),e P "__spec__" 169 .none,e P "__annotations__" 170 (vr 6),e P "__builtins__" 171 (vr 4),e P "__file__" 173 (vs "/claim/cut.py" 172),e P "__cached__" 174 .none,e P "choose" 198 (vr 21),e P "top_of" 206 (vr 28),e P "top_from" 219 (vr 35),e P "above_top" 230 (vr 42),e P "rounded_up" 238 (vr 49),e P "BellError" 258 (vr 59),e P "NoRow" 274 (vr 72),e P "NoReading" 290 (vr 84),e P "TooGreat" 306 (vr 96),e P "NoNote" 322 (vr 108),e P "NoOrder" 338 (vr 120),e P "NoName" 354 (vr 132),e P "box_of" 362 (vr 139),e P "bell_row" 368 (vr 144),e P "heard_box" 379 (vr 151),e P "box_count" 388 (vr 158),e P "greatest_part" 397 (vr 165),e P "shortest_frame" 409 (vr 172),e P "best_bells" 422 (vr 179),e P "cheapest" 439 (vr 186),e P "box_number" 447 (vr 191),e P "box_of_message" 459 (vr 198),e P "written" 469 (vr 205),e P "read" 480 (vr 212),e P "keyed_count" 491 (vr 219),e P "keyed" 497 (vr 224),e P "unkeyed" 503 (vr 229),e P "refuse_silent" 513 (vr 236),e P "rung" 519 (vr 241),e P "by_messages" 531 (vr 248),e P "SIGNS" 535 (vs "abcdefghijklmnopqrstuvwxyz " 534),e P "MOST_SIGNS" 537 (.int 60 536),e P "LEAST_COUNT" 539 (.int 3 538),e P "note_number" 549 (vr 255),e P "note_of" 558 (vr 262),e P "parts" 568 (vr 269),e P "number_of_parts" 574 (vr 274),e P "sent" 580 (vr 279),e P "received" 586 (vr 284),e P "messages_ahead_of_end" 599 (vr 291),e P "LETTERS" 603 (vs "abcdefghijklmnopqrstuvwxyz" 602),e P "MOST_LETTERS" 605 (.int 8 604),e P "FIGURES" 607 (vs "0123456789" 606),e P "MOST_FIGURES" 609 (.int 60 608),e P "MOST_FIGURES_OF_MESSAGE" 611 (.int 3000 610),e P "MOST_BELLS" 613 (.int 60 612),e P "is_made_of" 619 (vr 296),e P "name_in" 626 (vr 303),e P "figures_in" 634 (vr 310),e P "number_in" 641 (vr 317),e P "message_in" 648 (vr 324),e P "bells_in" 656 (vr 331),e P "turns_in" 662 (vr 336),e P "number_told" 669 (vr 343),e P "turns_told" 675 (vr 348),e P "Frame" 710 (vr 365),e P "Desk" 797 (vr 428),e P "count_of" 804 (vr 439),e P "note_heard" 812 (vr 446),e P "choice_told" 819 (vr 453),e P "cheapest_told" 832 (vr 460),e P "_law_cell_at" 842 (vr 467),e P "_law_drawn" 851 (vr 474),e P "_law_frame" 861 (vr 481),e P "_law_count" 873 (vr 488),e P "_law_road" 879 (vr 493),e P "_law_number" 887 (vr 500),e P "_law_note" 893 (vr 505),e P "_law_sent" 908 (vr 512),e P "law" 921 (vr 519)] 79),#[]⟩
noncomputable def o4:Obj:=⟨.none,none,(.fields #[(vi 2),(vi 0),(vr 20),(vi 9),(vi 0),(vr 27),(vi 11),(vi 0),(vr 34),(vi 20),(vi 0),(vr 41),(vi 26),(vi 0),(vr 48),(vi 29),(vi 0),(vr 55),(vi 31),(vi 0),(vr 68),(vi 33),(vi 0),(vr 80),(vi 35),(vi 0),(vr 92),(vi 37),(vi 0),(vr 104),(vi 39),(vi 0),(vr 116),(vi 41),(vi 0),(vr 128),(vi 44),(vi 0),(vr 138),(vi 46),(vi 0),(vr 143),(vi 48),(vi 0),(vr 150),(vi 56),(vi 0),(vr 157),(vi 60),(vi 0),(vr 164),(vi 63),(vi 0),(vr 171),(vi 70),(vi 0),(vr 178),(vi 80),(vi 0),(vr 185),(vi 90),(vi 0),(vr 190),(vi 92),(vi 0),(vr 197),(vi 103),(vi 0),(vr 204),(vi 107),(vi 0),(vr 211),(vi 115),(vi 0),(vr 218),(vi 119),(vi 0),(vr 223),(vi 124),(vi 0),(vr 228),(vi 131),(vi 0),(vr 235),(vi 134),(vi 0),(vr 240),(vi 141),(vi 0),(vr 247),(vi 151),(vi 0),(vr 254),(vi 161),(vi 0),(vr 261),(vi 173),(vi 0),(vr 268),(vi 180),(vi 0),(vr 273),(vi 189),(vi 0),(vr 278),(vi 197),(vi 0),(vr 283),(vi 204),(vi 0),(vr 290),(vi 219),(vi 0),(vr 295),(vi 221),(vi 0),(vr 302),(vi 225),(vi 0),(vr 309),(vi 229),(vi 0),(vr 316),(vi 231),(vi 0),(vr 323),(vi 233),(vi 0),(vr 330),(vi 238),(vi 0),(vr 335),(vi 246),(vi 0),(vr 342),(vi 248),(vi 0),(vr 347),(vi 251),(vi 0),(vr 354),(vi 257),(vi 0),(vr 375),(vi 309),(vi 0),(vr 438),(vi 311),(vi 0),(vr 445),(vi 315),(vi 0),(vr 452),(vi 323),(vi 0),(vr 459),(vi 334),(vi 0),(vr 466),(vi 338),(vi 0),(vr 473),(vi 342),(vi 0),(vr 480),(vi 347),(vi 0),(vr 487),(vi 352),(vi 0),(vr 492),(vi 358),(vi 0),(vr 499),(vi 360),(vi 0),(vr 504),(vi 363),(vi 0),(vr 511),(vi 379),(vi 0),(vr 518)]),#[]⟩
noncomputable def o5:Obj:=tp #[(vs "n" 192),(vs "k" 193),(vs "ways" 194),(vs "taken" 195)]
noncomputable def o6:Obj:=go (t 1) "choose" "choose"
noncomputable def o7:Obj:=co #[(vs "choose" 189),(vs "choose" 190),(vs "/claim/cut.py" 191),(vi 2),(vi 2),(vi 0),(vi 0),(vi 3),(vr 15),(.bool true),(vi 181),(vr 16),.none,(vr 17),(vr 18),(vr 19),(vi 196),(vi 2),(vs "/claim/cut.py" 197)]
noncomputable def o8:Obj:=fo (t 1) "choose" "choose" (vs "bellwrite.choices" 187) 20
noncomputable def o9:Obj:=tp #[(vs "k" 202),(vs "number" 203)]
noncomputable def o10:Obj:=go (t 2) "top_of" "top_of"
noncomputable def o11:Obj:=co #[(vs "top_of" 199),(vs "top_of" 200),(vs "/claim/cut.py" 201),(vi 9),(vi 2),(vi 0),(vi 0),(vi 3),(vr 22),(.bool true),(vi 181),(vr 23),.none,(vr 24),(vr 25),(vr 26),(vi 204),(vi 9),(vs "/claim/cut.py" 205)]
noncomputable def o12:Obj:=fo (t 2) "top_of" "top_of" (vs "bellwrite.choices" 187) 27
noncomputable def o13:Obj:=tp #[(vs "start" 210),(vs "k" 211),(vs "number" 212),(vs "top" 213),(vs "ways" 214),(vs "most_off" 215),(vs "step" 216)]
noncomputable def o14:Obj:=go (t 3) "top_from" "top_from"
noncomputable def o15:Obj:=co #[(vs "top_from" 207),(vs "top_from" 208),(vs "/claim/cut.py" 209),(vi 11),(vi 3),(vi 0),(vi 0),(vi 3),(vr 29),(.bool true),(vi 181),(vr 30),.none,(vr 31),(vr 32),(vr 33),(vi 217),(vi 11),(vs "/claim/cut.py" 218)]
noncomputable def o16:Obj:=fo (t 3) "top_from" "top_from" (vs "bellwrite.choices" 187) 34
noncomputable def o17:Obj:=tp #[(vs "k" 223),(vs "number" 224),(vs "product" 225),(vs "factor" 226),(vs "figures" 227)]
noncomputable def o18:Obj:=go (t 4) "above_top" "above_top"
noncomputable def o19:Obj:=co #[(vs "above_top" 220),(vs "above_top" 221),(vs "/claim/cut.py" 222),(vi 20),(vi 2),(vi 0),(vi 0),(vi 3),(vr 36),(.bool true),(vi 181),(vr 37),.none,(vr 38),(vr 39),(vr 40),(vi 228),(vi 20),(vs "/claim/cut.py" 229)]
noncomputable def o20:Obj:=fo (t 4) "above_top" "above_top" (vs "bellwrite.choices" 187) 41
noncomputable def o21:Obj:=tp #[(vs "number" 234),(vs "divisor" 235)]
noncomputable def o22:Obj:=go (t 5) "rounded_up" "rounded_up"
noncomputable def o23:Obj:=co #[(vs "rounded_up" 231),(vs "rounded_up" 232),(vs "/claim/cut.py" 233),(vi 26),(vi 2),(vi 0),(vi 0),(vi 3),(vr 43),(.bool true),(vi 181),(vr 44),.none,(vr 45),(vr 46),(vr 47),(vi 236),(vi 26),(vs "/claim/cut.py" 237)]
noncomputable def o24:Obj:=fo (t 5) "rounded_up" "rounded_up" (vs "bellwrite.choices" 187) 48
noncomputable def o25:Obj:=tp #[(vy "ValueError")]
noncomputable def o26:Obj:=⟨(vy "builtin_function_or_method"),none,(.fields #[(vb "type.__prepare__"),(vy "type")]),#[]⟩
noncomputable def o27 (P:Params):Obj:=⟨(vy "dict"),none,(.dict #[e P "__module__" 248 (vs "bellwrite.errors" 239),e P "__qualname__" 250 (vs "BellError" 249),e P "__firstlineno__" 252 (.int 29 251),e P "__static_attributes__" 253 (vr 57)] 4),#[]⟩
noncomputable def o28:Obj:=co #[(vs "BellError" 243),(vs "BellError" 244),(vs "/claim/cut.py" 245),(vi 29),(vi 0),(vi 0),(vi 0),(vi 0),(vr 53),(.bool false),(vi 181),(vr 54),.none,.none,.none,.none,(vi 246),(vi 29),(vs "/claim/cut.py" 247)]
noncomputable def o29:Obj:=⟨(vy "frame"),none,.plain,#[(some (vr 55)),(some (vr 3)),(some (vr 52)),none,(some (vs "bellwrite.errors" 239)),none,(some (vr 0))]⟩
noncomputable def o30 (P:Params):Obj:=⟨(vy "dict"),none,(.dict #[e P "__module__" 248 (vs "bellwrite.errors" 239),e P "__firstlineno__" 252 (.int 29 251),e P "__static_attributes__" 253 (vr 57),e P "__weakref__" 255 (vr 60),e P "__doc__" 256 .none] 3),#[]⟩
noncomputable def o31:Obj:=⟨(vy "type"),none,(.cls ⟨"BellError",[(vy "ValueError")],[(vr 59),(vy "ValueError"),(vy "Exception"),(vy "BaseException"),(vy "object")],58,"BellError",true,[],[(vr 72),(vr 84),(vr 96),(vr 108),(vr 120),(vr 132)],false,none,false⟩),#[(some (vr 50)),none,(some (vs "BellError" 241)),(some (vs "BellError" 249)),(some (vb "ValueError.__new__")),(some (.bool true))]⟩
noncomputable def o32:Obj:=⟨(vy "getset_descriptor"),none,(.fields #[(vs "__weakref__" 254),(vr 59),(vb "ExceptionGroup.__weakref__"),.none]),#[]⟩
noncomputable def o33:Obj:=⟨(vy "super"),none,(.fields #[(vr 59),(vr 59),(vr 59)]),#[]⟩
noncomputable def o34:Obj:=⟨(vy "builtin_function_or_method"),none,(.fields #[(vb "object.__init_subclass__"),(vr 59)]),#[]⟩
noncomputable def o35:Obj:=tp #[(vr 59)]
noncomputable def o36 (P:Params):Obj:=⟨(vy "dict"),none,(.dict #[e P "__module__" 266 (vs "bellwrite.errors" 239),e P "__qualname__" 268 (vs "NoRow" 267),e P "__firstlineno__" 270 (.int 31 269),e P "__static_attributes__" 271 (vr 70)] 4),#[]⟩
noncomputable def o37:Obj:=co #[(vs "NoRow" 261),(vs "NoRow" 262),(vs "/claim/cut.py" 263),(vi 31),(vi 0),(vi 0),(vi 0),(vi 0),(vr 66),(.bool false),(vi 181),(vr 67),.none,.none,.none,.none,(vi 264),(vi 31),(vs "/claim/cut.py" 265)]
noncomputable def o38:Obj:=⟨(vy "frame"),none,.plain,#[(some (vr 68)),(some (vr 3)),(some (vr 65)),none,(some (vs "bellwrite.errors" 239)),none,(some (vr 0))]⟩
noncomputable def o39 (P:Params):Obj:=⟨(vy "dict"),none,(.dict #[e P "__module__" 266 (vs "bellwrite.errors" 239),e P "__firstlineno__" 270 (.int 31 269),e P "__static_attributes__" 271 (vr 70),e P "__doc__" 272 .none] 2),#[]⟩
noncomputable def o40:Obj:=⟨(vy "type"),none,(.cls ⟨"NoRow",[(vr 59)],[(vr 72),(vr 59),(vy "ValueError"),(vy "Exception"),(vy "BaseException"),(vy "object")],71,"NoRow",true,[],[],false,none,false⟩),#[(some (vr 63)),none,(some (vs "NoRow" 259)),(some (vs "NoRow" 267)),(some (vb "ValueError.__new__")),(some (.bool true))]⟩
noncomputable def o41:Obj:=⟨(vy "super"),none,(.fields #[(vr 72),(vr 72),(vr 72)]),#[]⟩
noncomputable def o42:Obj:=⟨(vy "builtin_function_or_method"),none,(.fields #[(vb "object.__init_subclass__"),(vr 72)]),#[]⟩
noncomputable def o43 (P:Params):Obj:=⟨(vy "dict"),none,(.dict #[e P "__module__" 282 (vs "bellwrite.errors" 239),e P "__qualname__" 284 (vs "NoReading" 283),e P "__firstlineno__" 286 (.int 33 285),e P "__static_attributes__" 287 (vr 82)] 4),#[]⟩
noncomputable def o44:Obj:=co #[(vs "NoReading" 277),(vs "NoReading" 278),(vs "/claim/cut.py" 279),(vi 33),(vi 0),(vi 0),(vi 0),(vi 0),(vr 78),(.bool false),(vi 181),(vr 79),.none,.none,.none,.none,(vi 280),(vi 33),(vs "/claim/cut.py" 281)]
noncomputable def o45:Obj:=⟨(vy "frame"),none,.plain,#[(some (vr 80)),(some (vr 3)),(some (vr 77)),none,(some (vs "bellwrite.errors" 239)),none,(some (vr 0))]⟩
noncomputable def o46 (P:Params):Obj:=⟨(vy "dict"),none,(.dict #[e P "__module__" 282 (vs "bellwrite.errors" 239),e P "__firstlineno__" 286 (.int 33 285),e P "__static_attributes__" 287 (vr 82),e P "__doc__" 288 .none] 2),#[]⟩
noncomputable def o47:Obj:=⟨(vy "type"),none,(.cls ⟨"NoReading",[(vr 59)],[(vr 84),(vr 59),(vy "ValueError"),(vy "Exception"),(vy "BaseException"),(vy "object")],83,"NoReading",true,[],[],false,none,false⟩),#[(some (vr 75)),none,(some (vs "NoReading" 275)),(some (vs "NoReading" 283)),(some (vb "ValueError.__new__")),(some (.bool true))]⟩
noncomputable def o48:Obj:=⟨(vy "super"),none,(.fields #[(vr 84),(vr 84),(vr 84)]),#[]⟩
noncomputable def o49:Obj:=⟨(vy "builtin_function_or_method"),none,(.fields #[(vb "object.__init_subclass__"),(vr 84)]),#[]⟩
noncomputable def o50 (P:Params):Obj:=⟨(vy "dict"),none,(.dict #[e P "__module__" 298 (vs "bellwrite.errors" 239),e P "__qualname__" 300 (vs "TooGreat" 299),e P "__firstlineno__" 302 (.int 35 301),e P "__static_attributes__" 303 (vr 94)] 4),#[]⟩
noncomputable def o51:Obj:=co #[(vs "TooGreat" 293),(vs "TooGreat" 294),(vs "/claim/cut.py" 295),(vi 35),(vi 0),(vi 0),(vi 0),(vi 0),(vr 90),(.bool false),(vi 181),(vr 91),.none,.none,.none,.none,(vi 296),(vi 35),(vs "/claim/cut.py" 297)]
noncomputable def o52:Obj:=⟨(vy "frame"),none,.plain,#[(some (vr 92)),(some (vr 3)),(some (vr 89)),none,(some (vs "bellwrite.errors" 239)),none,(some (vr 0))]⟩
noncomputable def o53 (P:Params):Obj:=⟨(vy "dict"),none,(.dict #[e P "__module__" 298 (vs "bellwrite.errors" 239),e P "__firstlineno__" 302 (.int 35 301),e P "__static_attributes__" 303 (vr 94),e P "__doc__" 304 .none] 2),#[]⟩
noncomputable def o54:Obj:=⟨(vy "type"),none,(.cls ⟨"TooGreat",[(vr 59)],[(vr 96),(vr 59),(vy "ValueError"),(vy "Exception"),(vy "BaseException"),(vy "object")],95,"TooGreat",true,[],[],false,none,false⟩),#[(some (vr 87)),none,(some (vs "TooGreat" 291)),(some (vs "TooGreat" 299)),(some (vb "ValueError.__new__")),(some (.bool true))]⟩
noncomputable def o55:Obj:=⟨(vy "super"),none,(.fields #[(vr 96),(vr 96),(vr 96)]),#[]⟩
noncomputable def o56:Obj:=⟨(vy "builtin_function_or_method"),none,(.fields #[(vb "object.__init_subclass__"),(vr 96)]),#[]⟩
noncomputable def o57 (P:Params):Obj:=⟨(vy "dict"),none,(.dict #[e P "__module__" 314 (vs "bellwrite.errors" 239),e P "__qualname__" 316 (vs "NoNote" 315),e P "__firstlineno__" 318 (.int 37 317),e P "__static_attributes__" 319 (vr 106)] 4),#[]⟩
noncomputable def o58:Obj:=co #[(vs "NoNote" 309),(vs "NoNote" 310),(vs "/claim/cut.py" 311),(vi 37),(vi 0),(vi 0),(vi 0),(vi 0),(vr 102),(.bool false),(vi 181),(vr 103),.none,.none,.none,.none,(vi 312),(vi 37),(vs "/claim/cut.py" 313)]
noncomputable def o59:Obj:=⟨(vy "frame"),none,.plain,#[(some (vr 104)),(some (vr 3)),(some (vr 101)),none,(some (vs "bellwrite.errors" 239)),none,(some (vr 0))]⟩
noncomputable def o60 (P:Params):Obj:=⟨(vy "dict"),none,(.dict #[e P "__module__" 314 (vs "bellwrite.errors" 239),e P "__firstlineno__" 318 (.int 37 317),e P "__static_attributes__" 319 (vr 106),e P "__doc__" 320 .none] 2),#[]⟩
noncomputable def o61:Obj:=⟨(vy "type"),none,(.cls ⟨"NoNote",[(vr 59)],[(vr 108),(vr 59),(vy "ValueError"),(vy "Exception"),(vy "BaseException"),(vy "object")],107,"NoNote",true,[],[],false,none,false⟩),#[(some (vr 99)),none,(some (vs "NoNote" 307)),(some (vs "NoNote" 315)),(some (vb "ValueError.__new__")),(some (.bool true))]⟩
noncomputable def o62:Obj:=⟨(vy "super"),none,(.fields #[(vr 108),(vr 108),(vr 108)]),#[]⟩
noncomputable def o63:Obj:=⟨(vy "builtin_function_or_method"),none,(.fields #[(vb "object.__init_subclass__"),(vr 108)]),#[]⟩
noncomputable def o64 (P:Params):Obj:=⟨(vy "dict"),none,(.dict #[e P "__module__" 330 (vs "bellwrite.errors" 239),e P "__qualname__" 332 (vs "NoOrder" 331),e P "__firstlineno__" 334 (.int 39 333),e P "__static_attributes__" 335 (vr 118)] 4),#[]⟩
noncomputable def o65:Obj:=co #[(vs "NoOrder" 325),(vs "NoOrder" 326),(vs "/claim/cut.py" 327),(vi 39),(vi 0),(vi 0),(vi 0),(vi 0),(vr 114),(.bool false),(vi 181),(vr 115),.none,.none,.none,.none,(vi 328),(vi 39),(vs "/claim/cut.py" 329)]
noncomputable def o66:Obj:=⟨(vy "frame"),none,.plain,#[(some (vr 116)),(some (vr 3)),(some (vr 113)),none,(some (vs "bellwrite.errors" 239)),none,(some (vr 0))]⟩
noncomputable def o67 (P:Params):Obj:=⟨(vy "dict"),none,(.dict #[e P "__module__" 330 (vs "bellwrite.errors" 239),e P "__firstlineno__" 334 (.int 39 333),e P "__static_attributes__" 335 (vr 118),e P "__doc__" 336 .none] 2),#[]⟩
noncomputable def o68:Obj:=⟨(vy "type"),none,(.cls ⟨"NoOrder",[(vr 59)],[(vr 120),(vr 59),(vy "ValueError"),(vy "Exception"),(vy "BaseException"),(vy "object")],119,"NoOrder",true,[],[],false,none,false⟩),#[(some (vr 111)),none,(some (vs "NoOrder" 323)),(some (vs "NoOrder" 331)),(some (vb "ValueError.__new__")),(some (.bool true))]⟩
noncomputable def o69:Obj:=⟨(vy "super"),none,(.fields #[(vr 120),(vr 120),(vr 120)]),#[]⟩
noncomputable def o70:Obj:=⟨(vy "builtin_function_or_method"),none,(.fields #[(vb "object.__init_subclass__"),(vr 120)]),#[]⟩
noncomputable def o71 (P:Params):Obj:=⟨(vy "dict"),none,(.dict #[e P "__module__" 346 (vs "bellwrite.errors" 239),e P "__qualname__" 348 (vs "NoName" 347),e P "__firstlineno__" 350 (.int 41 349),e P "__static_attributes__" 351 (vr 130)] 4),#[]⟩
noncomputable def o72:Obj:=co #[(vs "NoName" 341),(vs "NoName" 342),(vs "/claim/cut.py" 343),(vi 41),(vi 0),(vi 0),(vi 0),(vi 0),(vr 126),(.bool false),(vi 181),(vr 127),.none,.none,.none,.none,(vi 344),(vi 41),(vs "/claim/cut.py" 345)]
noncomputable def o73:Obj:=⟨(vy "frame"),none,.plain,#[(some (vr 128)),(some (vr 3)),(some (vr 125)),none,(some (vs "bellwrite.errors" 239)),none,(some (vr 0))]⟩
noncomputable def o74 (P:Params):Obj:=⟨(vy "dict"),none,(.dict #[e P "__module__" 346 (vs "bellwrite.errors" 239),e P "__firstlineno__" 350 (.int 41 349),e P "__static_attributes__" 351 (vr 130),e P "__doc__" 352 .none] 2),#[]⟩
noncomputable def o75:Obj:=⟨(vy "type"),none,(.cls ⟨"NoName",[(vr 59)],[(vr 132),(vr 59),(vy "ValueError"),(vy "Exception"),(vy "BaseException"),(vy "object")],131,"NoName",true,[],[],false,none,false⟩),#[(some (vr 123)),none,(some (vs "NoName" 339)),(some (vs "NoName" 347)),(some (vb "ValueError.__new__")),(some (.bool true))]⟩
noncomputable def o76:Obj:=⟨(vy "super"),none,(.fields #[(vr 132),(vr 132),(vr 132)]),#[]⟩
noncomputable def o77:Obj:=⟨(vy "builtin_function_or_method"),none,(.fields #[(vb "object.__init_subclass__"),(vr 132)]),#[]⟩
noncomputable def o78:Obj:=go (t 15) "box_of" "box_of"
noncomputable def o79:Obj:=co #[(vs "box_of" 357),(vs "box_of" 358),(vs "/claim/cut.py" 359),(vi 44),(vi 2),(vi 0),(vi 0),(vi 3),(vr 135),(.bool true),(vi 181),(vr 136),.none,.none,.none,(vr 137),(vi 360),(vi 44),(vs "/claim/cut.py" 361)]
noncomputable def o80:Obj:=fo (t 15) "box_of" "box_of" (vs "bellwrite.boxes" 355) 138
noncomputable def o81:Obj:=go (t 16) "bell_row" "bell_row"
noncomputable def o82:Obj:=co #[(vs "bell_row" 363),(vs "bell_row" 364),(vs "/claim/cut.py" 365),(vi 46),(vi 2),(vi 0),(vi 0),(vi 3),(vr 140),(.bool true),(vi 181),(vr 141),.none,.none,.none,(vr 142),(vi 366),(vi 46),(vs "/claim/cut.py" 367)]
noncomputable def o83:Obj:=fo (t 16) "bell_row" "bell_row" (vs "bellwrite.boxes" 355) 143
noncomputable def o84:Obj:=tp #[(vs "reading" 372),(vs "late" 373),(vs "box" 374),(vs "before" 375),(vs "part" 376)]
noncomputable def o85:Obj:=go (t 17) "heard_box" "heard_box"
noncomputable def o86:Obj:=co #[(vs "heard_box" 369),(vs "heard_box" 370),(vs "/claim/cut.py" 371),(vi 48),(vi 2),(vi 0),(vi 0),(vi 3),(vr 145),(.bool true),(vi 181),(vr 146),.none,(vr 147),(vr 148),(vr 149),(vi 377),(vi 48),(vs "/claim/cut.py" 378)]
noncomputable def o87:Obj:=fo (t 17) "heard_box" "heard_box" (vs "bellwrite.boxes" 355) 150
noncomputable def o88:Obj:=tp #[(vs "turns" 383),(vs "bells" 384),(vs "late" 385)]
noncomputable def o89:Obj:=go (t 18) "box_count" "box_count"
noncomputable def o90:Obj:=co #[(vs "box_count" 380),(vs "box_count" 381),(vs "/claim/cut.py" 382),(vi 56),(vi 3),(vi 0),(vi 0),(vi 3),(vr 152),(.bool true),(vi 181),(vr 153),.none,(vr 154),(vr 155),(vr 156),(vi 386),(vi 56),(vs "/claim/cut.py" 387)]
noncomputable def o91:Obj:=fo (t 18) "box_count" "box_count" (vs "bellwrite.boxes" 355) 157
noncomputable def o92:Obj:=tp #[(vs "turns" 392),(vs "bells" 393),(vs "late" 394)]
noncomputable def o93:Obj:=go (t 19) "greatest_part" "greatest_part"
noncomputable def o94:Obj:=co #[(vs "greatest_part" 389),(vs "greatest_part" 390),(vs "/claim/cut.py" 391),(vi 60),(vi 3),(vi 0),(vi 0),(vi 3),(vr 159),(.bool true),(vi 181),(vr 160),.none,(vr 161),(vr 162),(vr 163),(vi 395),(vi 60),(vs "/claim/cut.py" 396)]
noncomputable def o95:Obj:=fo (t 19) "greatest_part" "greatest_part" (vs "bellwrite.boxes" 355) 164
noncomputable def o96:Obj:=tp #[(vs "bells" 403),(vs "late" 404),(vs "many" 405),(vs "greatest" 406)]
noncomputable def o97:Obj:=go (t 21) "shortest_frame" "shortest_frame"
noncomputable def o98:Obj:=co #[(vs "shortest_frame" 400),(vs "shortest_frame" 401),(vs "/claim/cut.py" 402),(vi 63),(vi 3),(vi 0),(vi 0),(vi 3),(vr 166),(.bool true),(vi 181),(vr 167),.none,(vr 168),(vr 169),(vr 170),(vi 407),(vi 63),(vs "/claim/cut.py" 408)]
noncomputable def o99:Obj:=fo (t 21) "shortest_frame" "shortest_frame" (vs "bellwrite.frames" 398) 171
noncomputable def o100:Obj:=tp #[(vs "turns" 413),(vs "late" 414),(vs "most" 415),(vs "best" 416),(vs "greatest" 417),(vs "bells" 418),(vs "many" 419)]
noncomputable def zhF:Obj:=go (t 22) "best_bells" "best_bells"
noncomputable def zhG:Obj:=co #[(vs "best_bells" 410),(vs "best_bells" 411),(vs "/claim/cut.py" 412),(vi 70),(vi 3),(vi 0),(vi 0),(vi 3),(vr 173),(.bool true),(vi 181),(vr 174),.none,(vr 175),(vr 176),(vr 177),(vi 420),(vi 70),(vs "/claim/cut.py" 421)]
noncomputable def zhH:Obj:=fo (t 22) "best_bells" "best_bells" (vs "bellwrite.frames" 398) 178
noncomputable def zhI:Obj:=tp #[(vs "many" 428),(vs "late" 429),(vs "turn_cost" 430),(vs "bell_cost" 431),(vs "most" 432),(vs "best" 433),(vs "bells" 434),(vs "turns" 435),(vs "cost" 436)]
noncomputable def zhJ:Obj:=go (t 24) "cheapest" "cheapest"
noncomputable def zhK:Obj:=co #[(vs "cheapest" 425),(vs "cheapest" 426),(vs "/claim/cut.py" 427),(vi 80),(vi 5),(vi 0),(vi 0),(vi 3),(vr 180),(.bool true),(vi 181),(vr 181),.none,(vr 182),(vr 183),(vr 184),(vi 437),(vi 80),(vs "/claim/cut.py" 438)]
noncomputable def zhL:Obj:=fo (t 24) "cheapest" "cheapest" (vs "bellwrite.costs" 423) 185
noncomputable def zhM:Obj:=go (t 26) "box_number" "box_number"
noncomputable def zhN:Obj:=co #[(vs "box_number" 442),(vs "box_number" 443),(vs "/claim/cut.py" 444),(vi 90),(vi 1),(vi 0),(vi 0),(vi 3),(vr 187),(.bool true),(vi 181),(vr 188),.none,.none,.none,(vr 189),(vi 445),(vi 90),(vs "/claim/cut.py" 446)]
noncomputable def zhO:Obj:=fo (t 26) "box_number" "box_number" (vs "bellwrite.messages" 440) 190
noncomputable def o111:Obj:=tp #[(vs "message" 451),(vs "bells" 452),(vs "box" 453),(vs "left" 454),(vs "top" 455),(vs "place" 456)]
noncomputable def zhP:Obj:=go (t 27) "box_of_message" "box_of_message"
noncomputable def zhQ:Obj:=co #[(vs "box_of_message" 448),(vs "box_of_message" 449),(vs "/claim/cut.py" 450),(vi 92),(vi 2),(vi 0),(vi 0),(vi 3),(vr 192),(.bool true),(vi 181),(vr 193),.none,(vr 194),(vr 195),(vr 196),(vi 457),(vi 92),(vs "/claim/cut.py" 458)]
noncomputable def zhR:Obj:=fo (t 27) "box_of_message" "box_of_message" (vs "bellwrite.messages" 440) 197
noncomputable def zhS:Obj:=tp #[(vs "message" 463),(vs "turns" 464),(vs "bells" 465),(vs "late" 466)]
noncomputable def zhT:Obj:=go (t 28) "written" "written"
noncomputable def zhU:Obj:=co #[(vs "written" 460),(vs "written" 461),(vs "/claim/cut.py" 462),(vi 103),(vi 4),(vi 0),(vi 0),(vi 3),(vr 199),(.bool true),(vi 181),(vr 200),.none,(vr 201),(vr 202),(vr 203),(vi 467),(vi 103),(vs "/claim/cut.py" 468)]
noncomputable def zhV:Obj:=fo (t 28) "written" "written" (vs "bellwrite.messages" 440) 204
noncomputable def zhW:Obj:=tp #[(vs "reading" 473),(vs "turns" 474),(vs "bells" 475),(vs "late" 476),(vs "message" 477)]
noncomputable def zhX:Obj:=go (t 29) "read" "read"
noncomputable def zhY:Obj:=co #[(vs "read" 470),(vs "read" 471),(vs "/claim/cut.py" 472),(vi 107),(vi 4),(vi 0),(vi 0),(vi 3),(vr 206),(.bool true),(vi 181),(vr 207),.none,(vr 208),(vr 209),(vr 210),(vi 478),(vi 107),(vs "/claim/cut.py" 479)]
noncomputable def zhZ:Obj:=fo (t 29) "read" "read" (vs "bellwrite.messages" 440) 211
noncomputable def zh0:Obj:=tp #[(vs "turns" 486),(vs "bells" 487),(vs "late" 488)]
noncomputable def zh1:Obj:=go (t 31) "keyed_count" "keyed_count"
noncomputable def zh2:Obj:=co #[(vs "keyed_count" 483),(vs "keyed_count" 484),(vs "/claim/cut.py" 485),(vi 115),(vi 3),(vi 0),(vi 0),(vi 3),(vr 213),(.bool true),(vi 181),(vr 214),.none,(vr 215),(vr 216),(vr 217),(vi 489),(vi 115),(vs "/claim/cut.py" 490)]
noncomputable def zh3:Obj:=fo (t 31) "keyed_count" "keyed_count" (vs "bellwrite.lags" 481) 218
noncomputable def zh4:Obj:=go (t 32) "keyed" "keyed"
noncomputable def zh5:Obj:=co #[(vs "keyed" 492),(vs "keyed" 493),(vs "/claim/cut.py" 494),(vi 119),(vi 4),(vi 0),(vi 0),(vi 3),(vr 220),(.bool true),(vi 181),(vr 221),.none,.none,.none,(vr 222),(vi 495),(vi 119),(vs "/claim/cut.py" 496)]
noncomputable def zh6:Obj:=fo (t 32) "keyed" "keyed" (vs "bellwrite.lags" 481) 223
noncomputable def zh7:Obj:=go (t 33) "unkeyed" "unkeyed"
noncomputable def zh8:Obj:=co #[(vs "unkeyed" 498),(vs "unkeyed" 499),(vs "/claim/cut.py" 500),(vi 124),(vi 4),(vi 0),(vi 0),(vi 3),(vr 225),(.bool true),(vi 181),(vr 226),.none,.none,.none,(vr 227),(vi 501),(vi 124),(vs "/claim/cut.py" 502)]
noncomputable def zh9:Obj:=fo (t 33) "unkeyed" "unkeyed" (vs "bellwrite.lags" 481) 228
noncomputable def zia:Obj:=tp #[(vs "turns" 509),(vs "bells" 510)]
noncomputable def zib:Obj:=go (t 35) "refuse_silent" "refuse_silent"
noncomputable def zic:Obj:=co #[(vs "refuse_silent" 506),(vs "refuse_silent" 507),(vs "/claim/cut.py" 508),(vi 131),(vi 2),(vi 0),(vi 0),(vi 3),(vr 230),(.bool true),(vi 181),(vr 231),.none,(vr 232),(vr 233),(vr 234),(vi 511),(vi 131),(vs "/claim/cut.py" 512)]
noncomputable def zid:Obj:=fo (t 35) "refuse_silent" "refuse_silent" (vs "bellwrite.talks" 504) 235
noncomputable def zie:Obj:=go (t 36) "rung" "rung"
noncomputable def zif:Obj:=co #[(vs "rung" 514),(vs "rung" 515),(vs "/claim/cut.py" 516),(vi 134),(vi 4),(vi 0),(vi 0),(vi 3),(vr 237),(.bool true),(vi 181),(vr 238),.none,.none,.none,(vr 239),(vi 517),(vi 134),(vs "/claim/cut.py" 518)]
noncomputable def zig:Obj:=fo (t 36) "rung" "rung" (vs "bellwrite.talks" 504) 240
noncomputable def zih:Obj:=tp #[(vs "reading" 523),(vs "turns" 524),(vs "late" 525),(vs "length" 526),(vs "heard_of" 527),(vs "turn" 528)]
noncomputable def zii:Obj:=go (t 37) "by_messages" "by_messages"
noncomputable def zij:Obj:=co #[(vs "by_messages" 520),(vs "by_messages" 521),(vs "/claim/cut.py" 522),(vi 141),(vi 3),(vi 0),(vi 0),(vi 3),(vr 242),(.bool true),(vi 181),(vr 243),.none,(vr 244),(vr 245),(vr 246),(vi 529),(vi 141),(vs "/claim/cut.py" 530)]
noncomputable def zik:Obj:=fo (t 37) "by_messages" "by_messages" (vs "bellwrite.talks" 504) 247
noncomputable def zil:Obj:=tp #[(vs "note" 543),(vs "number" 544),(vs "sign" 545),(vs "place" 546)]
noncomputable def zim:Obj:=go (t 42) "note_number" "note_number"
noncomputable def zin:Obj:=co #[(vs "note_number" 540),(vs "note_number" 541),(vs "/claim/cut.py" 542),(vi 151),(vi 1),(vi 0),(vi 0),(vi 3),(vr 249),(.bool true),(vi 181),(vr 250),.none,(vr 251),(vr 252),(vr 253),(vi 547),(vi 151),(vs "/claim/cut.py" 548)]
noncomputable def zio:Obj:=fo (t 42) "note_number" "note_number" (vs "bellwrite.notes" 532) 254
noncomputable def ziq:Obj:=tp #[(vs "number" 553),(vs "signs" 554),(vs "left" 555)]
noncomputable def zir:Obj:=go (t 43) "note_of" "note_of"
noncomputable def zis:Obj:=co #[(vs "note_of" 550),(vs "note_of" 551),(vs "/claim/cut.py" 552),(vi 161),(vi 1),(vi 0),(vi 0),(vi 3),(vr 256),(.bool true),(vi 181),(vr 257),.none,(vr 258),(vr 259),(vr 260),(vi 556),(vi 161),(vs "/claim/cut.py" 557)]
noncomputable def zit:Obj:=fo (t 43) "note_of" "note_of" (vs "bellwrite.notes" 532) 261
noncomputable def ziu:Obj:=tp #[(vs "number" 562),(vs "base" 563),(vs "figures" 564),(vs "left" 565)]
noncomputable def ziv:Obj:=go (t 44) "parts" "parts"
noncomputable def ziw:Obj:=co #[(vs "parts" 559),(vs "parts" 560),(vs "/claim/cut.py" 561),(vi 173),(vi 2),(vi 0),(vi 0),(vi 3),(vr 263),(.bool true),(vi 181),(vr 264),.none,(vr 265),(vr 266),(vr 267),(vi 566),(vi 173),(vs "/claim/cut.py" 567)]
noncomputable def zix:Obj:=fo (t 44) "parts" "parts" (vs "bellwrite.notes" 532) 268
noncomputable def ziy:Obj:=go (t 45) "number_of_parts" "number_of_parts"
noncomputable def ziz:Obj:=co #[(vs "number_of_parts" 569),(vs "number_of_parts" 570),(vs "/claim/cut.py" 571),(vi 180),(vi 2),(vi 0),(vi 0),(vi 3),(vr 270),(.bool true),(vi 181),(vr 271),.none,.none,.none,(vr 272),(vi 572),(vi 180),(vs "/claim/cut.py" 573)]
noncomputable def ziA:Obj:=fo (t 45) "number_of_parts" "number_of_parts" (vs "bellwrite.notes" 532) 273
noncomputable def ziB:Obj:=go (t 46) "sent" "sent"
noncomputable def ziC:Obj:=co #[(vs "sent" 575),(vs "sent" 576),(vs "/claim/cut.py" 577),(vi 189),(vi 4),(vi 0),(vi 0),(vi 3),(vr 275),(.bool true),(vi 181),(vr 276),.none,.none,.none,(vr 277),(vi 578),(vi 189),(vs "/claim/cut.py" 579)]
noncomputable def ziD:Obj:=fo (t 46) "sent" "sent" (vs "bellwrite.notes" 532) 278
noncomputable def ziE:Obj:=go (t 47) "received" "received"
noncomputable def ziF:Obj:=co #[(vs "received" 581),(vs "received" 582),(vs "/claim/cut.py" 583),(vi 197),(vi 4),(vi 0),(vi 0),(vi 3),(vr 280),(.bool true),(vi 181),(vr 281),.none,.none,.none,(vr 282),(vi 584),(vi 197),(vs "/claim/cut.py" 585)]
noncomputable def ziG:Obj:=fo (t 47) "received" "received" (vs "bellwrite.notes" 532) 283
noncomputable def ziH:Obj:=tp #[(vs "reading" 590),(vs "turns" 591),(vs "bells" 592),(vs "late" 593),(vs "heard_of" 594),(vs "messages" 595),(vs "message" 596)]
noncomputable def ziI:Obj:=go (t 48) "messages_ahead_of_end" "messages_ahead_of_end"
noncomputable def ziJ:Obj:=co #[(vs "messages_ahead_of_end" 587),(vs "messages_ahead_of_end" 588),(vs "/claim/cut.py" 589),(vi 204),(vi 4),(vi 0),(vi 0),(vi 3),(vr 285),(.bool true),(vi 181),(vr 286),.none,(vr 287),(vr 288),(vr 289),(vi 597),(vi 204),(vs "/claim/cut.py" 598)]
noncomputable def ziK:Obj:=fo (t 48) "messages_ahead_of_end" "messages_ahead_of_end" (vs "bellwrite.notes" 532) 290
noncomputable def ziL:Obj:=go (t 56) "is_made_of" "is_made_of"
noncomputable def ziM:Obj:=co #[(vs "is_made_of" 614),(vs "is_made_of" 615),(vs "/claim/cut.py" 616),(vi 219),(vi 3),(vi 0),(vi 0),(vi 3),(vr 292),(.bool true),(vi 181),(vr 293),.none,.none,.none,(vr 294),(vi 617),(vi 219),(vs "/claim/cut.py" 618)]
noncomputable def ziN:Obj:=fo (t 56) "is_made_of" "is_made_of" (vs "bellwrite.words" 600) 295
noncomputable def ziO:Obj:=tp #[(vs "word" 623)]
noncomputable def ziP:Obj:=go (t 57) "name_in" "name_in"
noncomputable def ziQ:Obj:=co #[(vs "name_in" 620),(vs "name_in" 621),(vs "/claim/cut.py" 622),(vi 221),(vi 1),(vi 0),(vi 0),(vi 3),(vr 297),(.bool true),(vi 181),(vr 298),.none,(vr 299),(vr 300),(vr 301),(vi 624),(vi 221),(vs "/claim/cut.py" 625)]
noncomputable def ziR:Obj:=fo (t 57) "name_in" "name_in" (vs "bellwrite.words" 600) 302
noncomputable def ziS:Obj:=tp #[(vs "word" 630),(vs "most" 631)]
noncomputable def ziT:Obj:=go (t 58) "figures_in" "figures_in"
noncomputable def ziU:Obj:=co #[(vs "figures_in" 627),(vs "figures_in" 628),(vs "/claim/cut.py" 629),(vi 225),(vi 2),(vi 0),(vi 0),(vi 3),(vr 304),(.bool true),(vi 181),(vr 305),.none,(vr 306),(vr 307),(vr 308),(vi 632),(vi 225),(vs "/claim/cut.py" 633)]
noncomputable def ziV:Obj:=fo (t 58) "figures_in" "figures_in" (vs "bellwrite.words" 600) 309
noncomputable def ziW:Obj:=tp #[(vs "word" 638)]
noncomputable def ziX:Obj:=go (t 59) "number_in" "number_in"
noncomputable def ziY:Obj:=co #[(vs "number_in" 635),(vs "number_in" 636),(vs "/claim/cut.py" 637),(vi 229),(vi 1),(vi 0),(vi 0),(vi 3),(vr 311),(.bool true),(vi 181),(vr 312),.none,(vr 313),(vr 314),(vr 315),(vi 639),(vi 229),(vs "/claim/cut.py" 640)]
noncomputable def ziZ:Obj:=fo (t 59) "number_in" "number_in" (vs "bellwrite.words" 600) 316
noncomputable def zi0:Obj:=tp #[(vs "word" 645)]
noncomputable def zi1:Obj:=go (t 60) "message_in" "message_in"
noncomputable def zi2:Obj:=co #[(vs "message_in" 642),(vs "message_in" 643),(vs "/claim/cut.py" 644),(vi 231),(vi 1),(vi 0),(vi 0),(vi 3),(vr 318),(.bool true),(vi 181),(vr 319),.none,(vr 320),(vr 321),(vr 322),(vi 646),(vi 231),(vs "/claim/cut.py" 647)]
noncomputable def zi3:Obj:=fo (t 60) "message_in" "message_in" (vs "bellwrite.words" 600) 323
noncomputable def zi4:Obj:=tp #[(vs "word" 652),(vs "bells" 653)]
noncomputable def zi5:Obj:=go (t 61) "bells_in" "bells_in"
noncomputable def zi6:Obj:=co #[(vs "bells_in" 649),(vs "bells_in" 650),(vs "/claim/cut.py" 651),(vi 233),(vi 1),(vi 0),(vi 0),(vi 3),(vr 325),(.bool true),(vi 181),(vr 326),.none,(vr 327),(vr 328),(vr 329),(vi 654),(vi 233),(vs "/claim/cut.py" 655)]
noncomputable def zi7:Obj:=fo (t 61) "bells_in" "bells_in" (vs "bellwrite.words" 600) 330
noncomputable def zi8:Obj:=go (t 62) "turns_in" "turns_in"
noncomputable def zi9:Obj:=co #[(vs "turns_in" 657),(vs "turns_in" 658),(vs "/claim/cut.py" 659),(vi 238),(vi 1),(vi 0),(vi 0),(vi 3),(vr 332),(.bool true),(vi 181),(vr 333),.none,.none,.none,(vr 334),(vi 660),(vi 238),(vs "/claim/cut.py" 661)]
noncomputable def zja:Obj:=fo (t 62) "turns_in" "turns_in" (vs "bellwrite.words" 600) 335
noncomputable def zjb:Obj:=tp #[(vs "number" 666)]
noncomputable def zjc:Obj:=go (t 63) "number_told" "number_told"
noncomputable def zjd:Obj:=co #[(vs "number_told" 663),(vs "number_told" 664),(vs "/claim/cut.py" 665),(vi 246),(vi 1),(vi 0),(vi 0),(vi 3),(vr 337),(.bool true),(vi 181),(vr 338),.none,(vr 339),(vr 340),(vr 341),(vi 667),(vi 246),(vs "/claim/cut.py" 668)]
noncomputable def zje:Obj:=fo (t 63) "number_told" "number_told" (vs "bellwrite.words" 600) 342
noncomputable def zjf:Obj:=go (t 64) "turns_told" "turns_told"
noncomputable def o200:Obj:=co #[(vs "turns_told" 670),(vs "turns_told" 671),(vs "/claim/cut.py" 672),(vi 248),(vi 1),(vi 0),(vi 0),(vi 3),(vr 344),(.bool true),(vi 181),(vr 345),.none,.none,.none,(vr 346),(vi 673),(vi 248),(vs "/claim/cut.py" 674)]
noncomputable def zjg:Obj:=fo (t 64) "turns_told" "turns_told" (vs "bellwrite.words" 600) 347
noncomputable def zjh (P:Params):Obj:=⟨(vy "dict"),none,(.dict #[e P "__module__" 685 (vs "bellwrite.desk" 676),e P "__qualname__" 687 (vs "Frame" 686),e P "__firstlineno__" 689 (.int 251 688),e P "__init__" 699 (vr 362),e P "__static_attributes__" 703 (vr 363)] 5),#[]⟩
noncomputable def zji:Obj:=⟨.none,none,(.fields #[(vi 253),(vi 4),(vr 361)]),#[]⟩
noncomputable def zjj:Obj:=co #[(vs "Frame" 680),(vs "Frame" 681),(vs "/claim/cut.py" 682),(vi 251),(vi 0),(vi 0),(vi 0),(vi 0),(vr 352),(.bool false),(vi 181),(vr 353),.none,.none,.none,.none,(vi 683),(vi 251),(vs "/claim/cut.py" 684)]
noncomputable def zjk:Obj:=⟨(vy "frame"),none,.plain,#[(some (vr 354)),(some (vr 3)),(some (vr 351)),none,(some (vs "bellwrite.desk" 676)),none,(some (vr 0))]⟩
noncomputable def zjl:Obj:=tp #[(vs "self" 693),(vs "turns" 694),(vs "bells" 695),(vs "late" 696)]
noncomputable def zjm:Obj:=go (u 66 0) "__init__" "Frame.__init__"
noncomputable def zjn:Obj:=co #[(vs "__init__" 690),(vs "Frame.__init__" 691),(vs "/claim/cut.py" 692),(vi 253),(vi 4),(vi 0),(vi 0),(vi 3),(vr 356),(.bool true),(vi 181),(vr 357),.none,(vr 358),(vr 359),(vr 360),(vi 697),(vi 253),(vs "/claim/cut.py" 698)]
noncomputable def zjo:Obj:=fo (u 66 0) "__init__" "Frame.__init__" (vs "bellwrite.desk" 676) 361
noncomputable def zjp:Obj:=tp #[(vs "bells" 700),(vs "late" 701),(vs "turns" 702)]
noncomputable def zjq (P:Params):Obj:=⟨(vy "dict"),none,(.dict #[e P "__module__" 685 (vs "bellwrite.desk" 676),e P "__firstlineno__" 689 (.int 251 688),e P "__init__" 699 (vr 362),e P "__static_attributes__" 703 (vr 363),e P "__dict__" 705 (vr 366),e P "__weakref__" 707 (vr 367),e P "__doc__" 708 .none] 4),#[]⟩
noncomputable def zjr:Obj:=⟨(vy "type"),none,(.cls ⟨"Frame",[(vy "object")],[(vr 365),(vy "object")],364,"Frame",true,[],[],false,none,false⟩),#[none,none,(some (vs "Frame" 678)),(some (vs "Frame" 686)),(some (vb "object.__new__")),(some (.bool true))]⟩
noncomputable def zjs:Obj:=⟨(vy "getset_descriptor"),none,(.fields #[(vs "__dict__" 704),(vr 365),(vb "function.__dict__"),(vb "function.__dict__#set")]),#[]⟩
noncomputable def zjt:Obj:=⟨(vy "getset_descriptor"),none,(.fields #[(vs "__weakref__" 706),(vr 365),(vb "ExceptionGroup.__weakref__"),.none]),#[]⟩
noncomputable def zju:Obj:=⟨(vy "super"),none,(.fields #[(vr 365),(vr 365),(vr 365)]),#[]⟩
noncomputable def zjv:Obj:=⟨(vy "builtin_function_or_method"),none,(.fields #[(vb "object.__init_subclass__"),(vr 365)]),#[]⟩
noncomputable def zjw (P:Params):Obj:=⟨(vy "dict"),none,(.dict #[e P "__module__" 718 (vs "bellwrite.desk" 676),e P "__qualname__" 720 (vs "Desk" 719),e P "__firstlineno__" 722 (.int 257 721),e P "__init__" 729 (vr 383),e P "told" 738 (vr 390),e P "keep" 749 (vr 397),e P "ring" 760 (vr 404),e P "listen" 771 (vr 411),e P "send_note" 780 (vr 418),e P "kept" 788 (vr 425),e P "__static_attributes__" 790 (vr 426)] 11),#[]⟩
noncomputable def zjx:Obj:=⟨.none,none,(.fields #[(vi 259),(vi 4),(vr 382),(vi 262),(vi 4),(vr 389),(vi 276),(vi 4),(vr 396),(vi 283),(vi 4),(vr 403),(vi 291),(vi 4),(vr 410),(vi 301),(vi 4),(vr 417),(vi 305),(vi 4),(vr 424)]),#[]⟩
noncomputable def zjy:Obj:=co #[(vs "Desk" 713),(vs "Desk" 714),(vs "/claim/cut.py" 715),(vi 257),(vi 0),(vi 0),(vi 0),(vi 0),(vr 373),(.bool false),(vi 181),(vr 374),.none,.none,.none,.none,(vi 716),(vi 257),(vs "/claim/cut.py" 717)]
noncomputable def zjz:Obj:=⟨(vy "frame"),none,.plain,#[(some (vr 375)),(some (vr 3)),(some (vr 372)),none,(some (vs "bellwrite.desk" 676)),none,(some (vr 0))]⟩
noncomputable def zjA:Obj:=tp #[(vs "self" 726)]
noncomputable def zjB:Obj:=go (u 67 0) "__init__" "Desk.__init__"
noncomputable def zjC:Obj:=co #[(vs "__init__" 723),(vs "Desk.__init__" 724),(vs "/claim/cut.py" 725),(vi 259),(vi 1),(vi 0),(vi 0),(vi 3),(vr 377),(.bool true),(vi 181),(vr 378),.none,(vr 379),(vr 380),(vr 381),(vi 727),(vi 259),(vs "/claim/cut.py" 728)]
noncomputable def zjD:Obj:=fo (u 67 0) "__init__" "Desk.__init__" (vs "bellwrite.desk" 676) 382
noncomputable def zjE:Obj:=tp #[(vs "self" 733),(vs "order" 734),(vs "words" 735)]
noncomputable def zjF:Obj:=go (u 67 1) "told" "Desk.told"
noncomputable def zjG:Obj:=co #[(vs "told" 730),(vs "Desk.told" 731),(vs "/claim/cut.py" 732),(vi 262),(vi 2),(vi 0),(vi 0),(vi 3),(vr 384),(.bool true),(vi 181),(vr 385),.none,(vr 386),(vr 387),(vr 388),(vi 736),(vi 262),(vs "/claim/cut.py" 737)]
noncomputable def zjH:Obj:=fo (u 67 1) "told" "Desk.told" (vs "bellwrite.desk" 676) 389
noncomputable def zjI:Obj:=tp #[(vs "self" 742),(vs "words" 743),(vs "name" 744),(vs "frame" 745),(vs "count" 746)]
noncomputable def zjJ:Obj:=go (u 67 2) "keep" "Desk.keep"
noncomputable def zjK:Obj:=co #[(vs "keep" 739),(vs "Desk.keep" 740),(vs "/claim/cut.py" 741),(vi 276),(vi 2),(vi 0),(vi 0),(vi 3),(vr 391),(.bool true),(vi 181),(vr 392),.none,(vr 393),(vr 394),(vr 395),(vi 747),(vi 276),(vs "/claim/cut.py" 748)]
noncomputable def zjL:Obj:=fo (u 67 2) "keep" "Desk.keep" (vs "bellwrite.desk" 676) 396
noncomputable def zjM:Obj:=tp #[(vs "self" 753),(vs "words" 754),(vs "name" 755),(vs "message" 756),(vs "frame" 757)]
noncomputable def zjN:Obj:=go (u 67 3) "ring" "Desk.ring"
noncomputable def zjO:Obj:=co #[(vs "ring" 750),(vs "Desk.ring" 751),(vs "/claim/cut.py" 752),(vi 283),(vi 2),(vi 0),(vi 0),(vi 3),(vr 398),(.bool true),(vi 181),(vr 399),.none,(vr 400),(vr 401),(vr 402),(vi 758),(vi 283),(vs "/claim/cut.py" 759)]
noncomputable def zjP:Obj:=fo (u 67 3) "ring" "Desk.ring" (vs "bellwrite.desk" 676) 403
noncomputable def zjQ:Obj:=tp #[(vs "self" 764),(vs "words" 765),(vs "name" 766),(vs "reading" 767),(vs "frame" 768)]
noncomputable def zjR:Obj:=go (u 67 4) "listen" "Desk.listen"
noncomputable def zjS:Obj:=co #[(vs "listen" 761),(vs "Desk.listen" 762),(vs "/claim/cut.py" 763),(vi 291),(vi 2),(vi 0),(vi 0),(vi 3),(vr 405),(.bool true),(vi 181),(vr 406),.none,(vr 407),(vr 408),(vr 409),(vi 769),(vi 291),(vs "/claim/cut.py" 770)]
noncomputable def zjT:Obj:=fo (u 67 4) "listen" "Desk.listen" (vs "bellwrite.desk" 676) 410
noncomputable def zjU:Obj:=tp #[(vs "self" 775),(vs "words" 776),(vs "frame" 777)]
noncomputable def zjV:Obj:=go (u 67 5) "send_note" "Desk.send_note"
noncomputable def zjW:Obj:=co #[(vs "send_note" 772),(vs "Desk.send_note" 773),(vs "/claim/cut.py" 774),(vi 301),(vi 2),(vi 0),(vi 0),(vi 3),(vr 412),(.bool true),(vi 181),(vr 413),.none,(vr 414),(vr 415),(vr 416),(vi 778),(vi 301),(vs "/claim/cut.py" 779)]
noncomputable def zjX:Obj:=fo (u 67 5) "send_note" "Desk.send_note" (vs "bellwrite.desk" 676) 417
noncomputable def zjY:Obj:=tp #[(vs "self" 784),(vs "name" 785)]
noncomputable def zjZ:Obj:=go (u 67 6) "kept" "Desk.kept"
noncomputable def zj0:Obj:=co #[(vs "kept" 781),(vs "Desk.kept" 782),(vs "/claim/cut.py" 783),(vi 305),(vi 2),(vi 0),(vi 0),(vi 3),(vr 419),(.bool true),(vi 181),(vr 420),.none,(vr 421),(vr 422),(vr 423),(vi 786),(vi 305),(vs "/claim/cut.py" 787)]
noncomputable def zj1:Obj:=fo (u 67 6) "kept" "Desk.kept" (vs "bellwrite.desk" 676) 424
noncomputable def zj2:Obj:=tp #[(vs "frames" 789)]
noncomputable def zj3 (P:Params):Obj:=⟨(vy "dict"),none,(.dict #[e P "__module__" 718 (vs "bellwrite.desk" 676),e P "__firstlineno__" 722 (.int 257 721),e P "__init__" 729 (vr 383),e P "told" 738 (vr 390),e P "keep" 749 (vr 397),e P "ring" 760 (vr 404),e P "listen" 771 (vr 411),e P "send_note" 780 (vr 418),e P "kept" 788 (vr 425),e P "__static_attributes__" 790 (vr 426),e P "__dict__" 792 (vr 429),e P "__weakref__" 794 (vr 430),e P "__doc__" 795 .none] 4),#[]⟩
noncomputable def zj4:Obj:=⟨(vy "type"),none,(.cls ⟨"Desk",[(vy "object")],[(vr 428),(vy "object")],427,"Desk",true,[],[],false,none,false⟩),#[none,none,(some (vs "Desk" 711)),(some (vs "Desk" 719)),(some (vb "object.__new__")),(some (.bool true))]⟩
noncomputable def zj5:Obj:=⟨(vy "getset_descriptor"),none,(.fields #[(vs "__dict__" 791),(vr 428),(vb "function.__dict__"),(vb "function.__dict__#set")]),#[]⟩
noncomputable def zj6:Obj:=⟨(vy "getset_descriptor"),none,(.fields #[(vs "__weakref__" 793),(vr 428),(vb "ExceptionGroup.__weakref__"),.none]),#[]⟩
noncomputable def zj7:Obj:=⟨(vy "super"),none,(.fields #[(vr 428),(vr 428),(vr 428)]),#[]⟩
noncomputable def zj8:Obj:=⟨(vy "builtin_function_or_method"),none,(.fields #[(vb "object.__init_subclass__"),(vr 428)]),#[]⟩
noncomputable def zj9:Obj:=tp #[(vs "frame" 801)]
noncomputable def zka:Obj:=go (t 68) "count_of" "count_of"
noncomputable def zkb:Obj:=co #[(vs "count_of" 798),(vs "count_of" 799),(vs "/claim/cut.py" 800),(vi 309),(vi 1),(vi 0),(vi 0),(vi 3),(vr 433),(.bool true),(vi 181),(vr 434),.none,(vr 435),(vr 436),(vr 437),(vi 802),(vi 309),(vs "/claim/cut.py" 803)]
noncomputable def zkc:Obj:=fo (t 68) "count_of" "count_of" (vs "bellwrite.desk" 676) 438
noncomputable def zkd:Obj:=tp #[(vs "reading" 808),(vs "frame" 809)]
noncomputable def zke:Obj:=go (t 69) "note_heard" "note_heard"
noncomputable def zkf:Obj:=co #[(vs "note_heard" 805),(vs "note_heard" 806),(vs "/claim/cut.py" 807),(vi 311),(vi 2),(vi 0),(vi 0),(vi 3),(vr 440),(.bool true),(vi 181),(vr 441),.none,(vr 442),(vr 443),(vr 444),(vi 810),(vi 311),(vs "/claim/cut.py" 811)]
noncomputable def zkg:Obj:=fo (t 69) "note_heard" "note_heard" (vs "bellwrite.desk" 676) 445
noncomputable def zkh:Obj:=tp #[(vs "words" 816)]
noncomputable def zki:Obj:=go (t 70) "choice_told" "choice_told"
noncomputable def zkj:Obj:=co #[(vs "choice_told" 813),(vs "choice_told" 814),(vs "/claim/cut.py" 815),(vi 315),(vi 1),(vi 0),(vi 0),(vi 3),(vr 447),(.bool true),(vi 181),(vr 448),.none,(vr 449),(vr 450),(vr 451),(vi 817),(vi 315),(vs "/claim/cut.py" 818)]
noncomputable def zkk:Obj:=fo (t 70) "choice_told" "choice_told" (vs "bellwrite.desk" 676) 452
noncomputable def zkl:Obj:=tp #[(vs "words" 823),(vs "many" 824),(vs "late" 825),(vs "found" 826),(vs "cost" 827),(vs "turns" 828),(vs "bells" 829)]
noncomputable def zkm:Obj:=go (t 71) "cheapest_told" "cheapest_told"
noncomputable def zkn:Obj:=co #[(vs "cheapest_told" 820),(vs "cheapest_told" 821),(vs "/claim/cut.py" 822),(vi 323),(vi 1),(vi 0),(vi 0),(vi 3),(vr 454),(.bool true),(vi 181),(vr 455),.none,(vr 456),(vr 457),(vr 458),(vi 830),(vi 323),(vs "/claim/cut.py" 831)]
noncomputable def zko:Obj:=fo (t 71) "cheapest_told" "cheapest_told" (vs "bellwrite.desk" 676) 459
noncomputable def zkp:Obj:=tp #[(vs "script" 838),(vs "k" 839)]
noncomputable def zkq:Obj:=go (t 73) "_law_cell_at" "_law_cell_at"
noncomputable def zkr:Obj:=co #[(vs "_law_cell_at" 835),(vs "_law_cell_at" 836),(vs "/claim/cut.py" 837),(vi 334),(vi 2),(vi 0),(vi 0),(vi 3),(vr 461),(.bool true),(vi 181),(vr 462),.none,(vr 463),(vr 464),(vr 465),(vi 840),(vi 334),(vs "/claim/cut.py" 841)]
noncomputable def zks:Obj:=fo (t 73) "_law_cell_at" "_law_cell_at" (vs "law_bellwrite_k97_whole_from_desk_to_desk" 833) 466
noncomputable def zkt:Obj:=tp #[(vs "cell" 846),(vs "k" 847),(vs "number" 848)]
noncomputable def zku:Obj:=go (t 74) "_law_drawn" "_law_drawn"
noncomputable def zkv:Obj:=co #[(vs "_law_drawn" 843),(vs "_law_drawn" 844),(vs "/claim/cut.py" 845),(vi 338),(vi 2),(vi 0),(vi 0),(vi 3),(vr 468),(.bool true),(vi 181),(vr 469),.none,(vr 470),(vr 471),(vr 472),(vi 849),(vi 338),(vs "/claim/cut.py" 850)]
noncomputable def zkw:Obj:=fo (t 74) "_law_drawn" "_law_drawn" (vs "law_bellwrite_k97_whole_from_desk_to_desk" 833) 473
noncomputable def zkx:Obj:=tp #[(vs "cell" 855),(vs "bells" 856),(vs "late" 857),(vs "steps" 858)]
noncomputable def zky:Obj:=go (t 75) "_law_frame" "_law_frame"
noncomputable def zkz:Obj:=co #[(vs "_law_frame" 852),(vs "_law_frame" 853),(vs "/claim/cut.py" 854),(vi 342),(vi 1),(vi 0),(vi 0),(vi 3),(vr 475),(.bool true),(vi 181),(vr 476),.none,(vr 477),(vr 478),(vr 479),(vi 859),(vi 342),(vs "/claim/cut.py" 860)]
noncomputable def zkA:Obj:=fo (t 75) "_law_frame" "_law_frame" (vs "law_bellwrite_k97_whole_from_desk_to_desk" 833) 480
noncomputable def zkB:Obj:=tp #[(vs "desk" 865),(vs "name" 866),(vs "turns" 867),(vs "bells" 868),(vs "late" 869),(vs "words" 870)]
noncomputable def zkC:Obj:=go (t 76) "_law_count" "_law_count"
noncomputable def zkD:Obj:=co #[(vs "_law_count" 862),(vs "_law_count" 863),(vs "/claim/cut.py" 864),(vi 347),(vi 5),(vi 0),(vi 0),(vi 3),(vr 482),(.bool true),(vi 181),(vr 483),.none,(vr 484),(vr 485),(vr 486),(vi 871),(vi 347),(vs "/claim/cut.py" 872)]
noncomputable def zkE:Obj:=fo (t 76) "_law_count" "_law_count" (vs "law_bellwrite_k97_whole_from_desk_to_desk" 833) 487
noncomputable def zkF:Obj:=go (t 77) "_law_road" "_law_road"
noncomputable def zkG:Obj:=co #[(vs "_law_road" 874),(vs "_law_road" 875),(vs "/claim/cut.py" 876),(vi 352),(vi 4),(vi 0),(vi 0),(vi 3),(vr 489),(.bool true),(vi 181),(vr 490),.none,.none,.none,(vr 491),(vi 877),(vi 352),(vs "/claim/cut.py" 878)]
noncomputable def zkH:Obj:=fo (t 77) "_law_road" "_law_road" (vs "law_bellwrite_k97_whole_from_desk_to_desk" 833) 492
noncomputable def zkI:Obj:=tp #[(vs "cell" 883),(vs "count" 884)]
noncomputable def zkJ:Obj:=go (t 78) "_law_number" "_law_number"
noncomputable def zkK:Obj:=co #[(vs "_law_number" 880),(vs "_law_number" 881),(vs "/claim/cut.py" 882),(vi 358),(vi 2),(vi 0),(vi 0),(vi 3),(vr 494),(.bool true),(vi 181),(vr 495),.none,(vr 496),(vr 497),(vr 498),(vi 885),(vi 358),(vs "/claim/cut.py" 886)]
noncomputable def zkL:Obj:=fo (t 78) "_law_number" "_law_number" (vs "law_bellwrite_k97_whole_from_desk_to_desk" 833) 499
noncomputable def zkM:Obj:=go (t 79) "_law_note" "_law_note"
noncomputable def zkN:Obj:=co #[(vs "_law_note" 888),(vs "_law_note" 889),(vs "/claim/cut.py" 890),(vi 360),(vi 1),(vi 0),(vi 0),(vi 3),(vr 501),(.bool true),(vi 181),(vr 502),.none,.none,.none,(vr 503),(vi 891),(vi 360),(vs "/claim/cut.py" 892)]
noncomputable def zkO:Obj:=fo (t 79) "_law_note" "_law_note" (vs "law_bellwrite_k97_whole_from_desk_to_desk" 833) 504
noncomputable def zkP:Obj:=tp #[(vs "desks" 897),(vs "cell" 898),(vs "late" 899),(vs "counts" 900),(vs "way" 901),(vs "message" 902),(vs "came" 903),(vs "lag" 904),(vs "note" 905)]
noncomputable def zkQ:Obj:=go (t 80) "_law_sent" "_law_sent"
noncomputable def o300:Obj:=co #[(vs "_law_sent" 894),(vs "_law_sent" 895),(vs "/claim/cut.py" 896),(vi 363),(vi 4),(vi 0),(vi 0),(vi 3),(vr 506),(.bool true),(vi 181),(vr 507),.none,(vr 508),(vr 509),(vr 510),(vi 906),(vi 363),(vs "/claim/cut.py" 907)]
noncomputable def zkR:Obj:=fo (t 80) "_law_sent" "_law_sent" (vs "law_bellwrite_k97_whole_from_desk_to_desk" 833) 511
noncomputable def zkS:Obj:=tp #[(vs "script" 912),(vs "turns" 913),(vs "bells" 914),(vs "late" 915),(vs "desks" 916),(vs "counts" 917),(vs "cell" 918)]
noncomputable def zkT:Obj:=go (t 81) "law" "law"
noncomputable def zkU:Obj:=co #[(vs "law" 909),(vs "law" 910),(vs "/claim/cut.py" 911),(vi 379),(vi 1),(vi 0),(vi 0),(vi 3),(vr 513),(.bool true),(vi 181),(vr 514),.none,(vr 515),(vr 516),(vr 517),(vi 919),(vi 379),(vs "/claim/cut.py" 920)]
noncomputable def zkV:Obj:=fo (t 81) "law" "law" (vs "law_bellwrite_k97_whole_from_desk_to_desk" 833) 518
noncomputable def hA (P:Params):Heap:=⟨#[boot_o_0 P,boot_o_1 P,boot_o_2 P,boot_o_3 P,boot_o_4 P,boot_o_5 P,boot_o_6 P,boot_o_7 P,boot_o_8 P,boot_o_9 P,boot_o_10 P,boot_o_7 P,boot_o_8 P,o1,o2],lf⟩
noncomputable def tr0 (P:Params):BT:=(n (boot_o_0 P) (n (boot_o_1 P) (n (boot_o_3 P) (n (boot_o_7 P) z z) (n (boot_o_7 P) z z)) (n (boot_o_5 P) (n (boot_o_9 P) z z) (n o1 z z))) (n (boot_o_2 P) (n (boot_o_4 P) (n (boot_o_8 P) z z) (n (boot_o_8 P) z z)) (n (boot_o_6 P) (n (boot_o_10 P) z z) (n o2 z z))))
noncomputable def tr1 (P:Params):BT:=(n (boot_o_0 P) (n (boot_o_1 P) (n (o3 P) (n (boot_o_7 P) (n (boot_o_7 P) (n o13 (n o35 (n (boot_o_8 P) (n zio (n o300 z z) z) (n zjD z z)) (n zhO (n (boot_o_8 P) z z) (n (boot_o_7 P) z z))) (n (o53 P) (n (boot_o_7 P) (n ziH z z) (n (boot_o_7 P) z z)) (n zh5 (n (zjh P) z z) (n zky z z)))) (n o22 (n (boot_o_8 P) (n o82 (n (boot_o_8 P) z z) (n (boot_o_8 P) z z)) (n (boot_o_8 P) (n zi9 z z) (n zkp z z))) (n o35 (n o100 (n ziR z z) (n zj7 z z)) (n zie (n zjt z z) (n (boot_o_8 P) z z))))) (n (boot_o_8 P) (n (boot_o_7 P) (n (o39 P) (n (boot_o_7 P) (n (boot_o_7 P) (n zkV z z) z) (n (boot_o_7 P) z z)) (n (boot_o_7 P) (n zi4 z z) (n (boot_o_8 P) z z))) (n (boot_o_8 P) (n (boot_o_8 P) (n ziM z z) (n zjZ z z)) (n (boot_o_8 P) (n (boot_o_7 P) z z) (n zkD z z)))) (n o28 (n o35 (n o87 (n ziD z z) (n zjQ z z)) (n zh0 (n zje z z) (n (boot_o_7 P) z z))) (n (o67 P) (n (boot_o_7 P) (n (boot_o_7 P) z z) (n zkc z z)) (n zij (n zjy z z) (n zkM z z)))))) (n (boot_o_7 P) (n o6 (n o16 (n (boot_o_8 P) (n (o74 P) (n (boot_o_7 P) (n zkS z z) z) (n (boot_o_7 P) z z)) (n (boot_o_7 P) (n zi2 z z) (n zki z z))) (n o35 (n o93 (n ziK z z) (n (boot_o_7 P) z z)) (n zh7 (n zjk z z) (n (boot_o_8 P) z z)))) (n o26 (n (o46 P) (n o84 (n (boot_o_7 P) z z) (n zjO z z)) (n zhY (n zjb z z) (n zks z z))) (n (boot_o_8 P) (n zhH (n (boot_o_7 P) z z) (n zj9 z z)) (n (boot_o_8 P) (n o26 z z) (n zkK z z))))) (n o11 (n (boot_o_7 P) (n o35 (n o80 (n ziv z z) (n zjJ z z)) (n zhT (n zi7 z z) (n zkn z z))) (n (o60 P) (n o98 (n ziO z z) (n (zj3 P) z z)) (n zic (n zjp z z) (n zkF z z)))) (n o31 (n (boot_o_8 P) (n (boot_o_7 P) (n ziF z z) (n zjT z z)) (n zh3 (n o200 z z) (n (boot_o_7 P) z z))) (n o35 (n (boot_o_7 P) (n ziX z z) (n (boot_o_7 P) z z)) (n zil (n zjA z z) (n (boot_o_8 P) z z))))))) (n (boot_o_5 P) (n (boot_o_9 P) (n o5 (n o14 (n (o36 P) (n o73 (n (boot_o_8 P) (n (boot_o_7 P) z z) z) (n (boot_o_8 P) z z)) (n (boot_o_8 P) (n (boot_o_7 P) z z) (n zkh z z))) (n o55 (n o92 (n ziI z z) (n zjW z z)) (n (boot_o_7 P) (n zji z z) (n zkA z z)))) (n o24 (n o45 (n (boot_o_7 P) (n ziz z z) (n (boot_o_7 P) z z)) (n (boot_o_7 P) (n (boot_o_7 P) z z) (n zkq z z))) (n (o64 P) (n zhF (n (boot_o_8 P) z z) (n (boot_o_7 P) z z)) (n zig (n zjv z z) (n (boot_o_7 P) z z))))) (n (boot_o_7 P) (n o19 (n o41 (n o78 (n ziu z z) (n zjI z z)) (n zhS (n zi5 z z) (n (boot_o_7 P) z z))) (n o59 (n (boot_o_7 P) (n (boot_o_7 P) z z) (n zj1 z z)) (n (boot_o_7 P) (n zjn z z) (n (boot_o_7 P) z z)))) (n (boot_o_7 P) (n (o50 P) (n (boot_o_8 P) (n (boot_o_8 P) z z) (n zjR z z)) (n zh1 (n (boot_o_8 P) z z) (n zkv z z))) (n o69 (n zhK (n ziW z z) (n (boot_o_8 P) z z)) (n (boot_o_7 P) (n (boot_o_7 P) z z) (n zkO z z)))))) (n o1 (n o8 (n (boot_o_8 P) (n o38 (n o76 (n zis (n zkT z z) z) (n zjG z z)) (n zhQ (n (boot_o_7 P) z z) (n zkk z z))) (n (o57 P) (n o95 (n (boot_o_8 P) z z) (n zjY z z)) (n zh9 (n (boot_o_8 P) z z) (n (boot_o_7 P) z z)))) (n (boot_o_7 P) (n o48 (n o85 (n ziB z z) (n (boot_o_7 P) z z)) (n (boot_o_7 P) (n zjc z z) (n (boot_o_8 P) z z))) (n o66 (n (boot_o_8 P) (n ziU z z) (n zka z z)) (n (boot_o_7 P) (n (boot_o_7 P) z z) (n (boot_o_7 P) z z))))) (n (boot_o_7 P) (n o21 (n (o43 P) (n (boot_o_8 P) (n zix z z) (n zjL z z)) (n zhV (n (boot_o_8 P) z z) (n (boot_o_7 P) z z))) (n o62 (n (boot_o_7 P) (n ziP z z) (n zj5 z z)) (n (boot_o_7 P) (n zjr z z) (n zkH z z)))) (n o33 (n o52 (n o90 (n (boot_o_7 P) z z) (n (boot_o_8 P) z z)) (n (boot_o_8 P) (n (boot_o_7 P) z z) (n zkx z z))) (n (o71 P) (n zhM (n ziZ z z) (n zkf z z)) (n zim (n zjB z z) (n (boot_o_7 P) z z)))))))) (n (boot_o_2 P) (n (boot_o_4 P) (n (boot_o_8 P) (n (boot_o_8 P) (n (boot_o_7 P) (n o26 (n o72 (n (boot_o_7 P) (n zkR z z) z) (n (boot_o_7 P) z z)) (n (boot_o_7 P) (n zi0 z z) (n (boot_o_8 P) z z))) (n o54 (n (boot_o_8 P) (n (boot_o_7 P) z z) (n zjV z z)) (n zh6 (n (boot_o_7 P) z z) (n zkz z z)))) (n o23 (n o44 (n o83 (n ziy z z) (n zjM z z)) (n zhW (n zja z z) (n (boot_o_7 P) z z))) (n o26 (n (boot_o_7 P) (n (boot_o_7 P) z z) (n zj8 z z)) (n zif (n zju z z) (n zkI z z))))) (n o9 (n o18 (n o40 (n (boot_o_8 P) (n (boot_o_8 P) z z) (n (boot_o_8 P) z z)) (n (boot_o_8 P) (n (boot_o_7 P) z z) (n zkl z z))) (n o58 (n o96 (n ziN z z) (n zj0 z z)) (n zia (n zjm z z) (n zkE z z)))) (n o29 (n o26 (n (boot_o_7 P) (n (boot_o_7 P) z z) (n (boot_o_7 P) z z)) (n (boot_o_7 P) (n (boot_o_7 P) z z) (n zku z z))) (n o68 (n zhJ (n (boot_o_8 P) z z) (n (boot_o_7 P) z z)) (n zik (n zjz z z) (n zkN z z)))))) (n o4 (n o7 (n (boot_o_7 P) (n o37 (n o75 (n zir (n (boot_o_7 P) z z) z) (n zjF z z)) (n zhP (n zi3 z z) (n zkj z z))) (n o26 (n o94 (n (boot_o_7 P) z z) (n (boot_o_8 P) z z)) (n zh8 (n (boot_o_7 P) z z) (n zkB z z)))) (n (o27 P) (n o47 (n (boot_o_7 P) (n (boot_o_8 P) z z) (n zjP z z)) (n zhZ (n (boot_o_7 P) z z) (n (boot_o_7 P) z z))) (n o65 (n (boot_o_7 P) (n ziT z z) (n (boot_o_7 P) z z)) (n zih (n (zjw P) z z) (n zkL z z))))) (n o12 (n (boot_o_8 P) (n o26 (n (boot_o_7 P) (n ziw z z) (n zjK z z)) (n zhU (n (boot_o_7 P) z z) (n zko z z))) (n o61 (n o99 (n (boot_o_7 P) z z) (n zj4 z z)) (n zid (n (zjq P) z z) (n zkG z z)))) (n o32 (n o51 (n o89 (n ziG z z) (n (boot_o_7 P) z z)) (n (boot_o_7 P) (n zjg z z) (n (boot_o_8 P) z z))) (n o26 (n (boot_o_8 P) (n ziY z z) (n zke z z)) (n (boot_o_7 P) (n (boot_o_7 P) z z) (n zkP z z))))))) (n (boot_o_6 P) (n (boot_o_10 P) (n (boot_o_7 P) (n o15 (n (boot_o_7 P) (n (boot_o_7 P) (n ziq (n (boot_o_8 P) z z) z) (n zjE z z)) (n o111 (n zi1 z z) (n (boot_o_7 P) z z))) (n o56 (n (boot_o_7 P) (n ziJ z z) (n zjX z z)) (n (boot_o_8 P) (n zjj z z) (n (boot_o_7 P) z z)))) (n o25 (n (boot_o_7 P) (n (boot_o_8 P) (n ziA z z) (n zjN z z)) (n zhX (n (boot_o_8 P) z z) (n zkr z z))) (n (boot_o_7 P) (n zhG (n ziS z z) (n (boot_o_8 P) z z)) (n (boot_o_7 P) (n (boot_o_7 P) z z) (n zkJ z z))))) (n o10 (n o20 (n o42 (n o79 (n (boot_o_7 P) z z) (n (boot_o_7 P) z z)) (n (boot_o_7 P) (n zi6 z z) (n zkm z z))) (n (boot_o_7 P) (n o97 (n (boot_o_8 P) z z) (n zj2 z z)) (n zib (n zjo z z) (n (boot_o_8 P) z z)))) (n (o30 P) (n (boot_o_7 P) (n o88 (n ziE z z) (n zjS z z)) (n zh2 (n zjf z z) (n zkw z z))) (n o70 (n zhL (n (boot_o_7 P) z z) (n zkd z z)) (n (boot_o_8 P) (n (boot_o_8 P) z z) (n (boot_o_7 P) z z)))))) (n o2 (n (boot_o_7 P) (n o17 (n (boot_o_7 P) (n o77 (n zit (n zkU z z) z) (n zjH z z)) (n zhR (n (boot_o_8 P) z z) (n (boot_o_7 P) z z))) (n (boot_o_7 P) (n (boot_o_7 P) (n ziL z z) (n (boot_o_7 P) z z)) (n (boot_o_7 P) (n zjl z z) (n zkC z z)))) (n (boot_o_8 P) (n o49 (n o86 (n ziC z z) (n (boot_o_8 P) z z)) (n (boot_o_8 P) (n zjd z z) (n zkt z z))) (n (boot_o_7 P) (n zhI (n ziV z z) (n zkb z z)) (n zii (n zjx z z) (n (boot_o_8 P) z z))))) (n (boot_o_8 P) (n (boot_o_7 P) (n (boot_o_7 P) (n o81 (n (boot_o_7 P) z z) (n (boot_o_7 P) z z)) (n (boot_o_7 P) (n zi8 z z) (n (boot_o_8 P) z z))) (n o63 (n (boot_o_8 P) (n ziQ z z) (n zj6 z z)) (n (boot_o_8 P) (n zjs z z) (n (boot_o_7 P) z z)))) (n o34 (n (boot_o_7 P) (n o91 (n (boot_o_8 P) z z) (n zjU z z)) (n zh4 (n o26 z z) (n (boot_o_7 P) z z))) (n (boot_o_7 P) (n zhN (n (boot_o_7 P) z z) (n zkg z z)) (n zin (n zjC z z) (n zkQ z z)))))))))
noncomputable def hF (P:Params):Heap:=⟨#[boot_o_0 P,boot_o_1 P,boot_o_2 P,o3 P,boot_o_4 P,boot_o_5 P,boot_o_6 P,boot_o_7 P,boot_o_8 P,boot_o_9 P,boot_o_10 P,boot_o_7 P,o4,o1,o2,boot_o_7 P,boot_o_8 P,o5,boot_o_7 P,o6,o7,o8,boot_o_7 P,boot_o_8 P,o9,boot_o_7 P,o10,o11,o12,boot_o_7 P,boot_o_8 P,o13,boot_o_7 P,o14,o15,o16,boot_o_7 P,boot_o_8 P,o17,boot_o_7 P,o18,o19,o20,boot_o_7 P,boot_o_8 P,o21,boot_o_7 P,o22,o23,o24,o25,o26,o27 P,boot_o_7 P,boot_o_8 P,o28,o29,boot_o_7 P,o30 P,o31,o32,o33,o34,o35,o26,o36 P,boot_o_7 P,boot_o_8 P,o37,o38,boot_o_7 P,o39 P,o40,o41,o42,o35,o26,o43 P,boot_o_7 P,boot_o_8 P,o44,o45,boot_o_7 P,o46 P,o47,o48,o49,o35,o26,o50 P,boot_o_7 P,boot_o_8 P,o51,o52,boot_o_7 P,o53 P,o54,o55,o56,o35,o26,o57 P,boot_o_7 P,boot_o_8 P,o58,o59,boot_o_7 P,o60 P,o61,o62,o63,o35,o26,o64 P,boot_o_7 P,boot_o_8 P,o65,o66,boot_o_7 P,o67 P,o68,o69,o70,o35,o26,o71 P,boot_o_7 P,boot_o_8 P,o72,o73,boot_o_7 P,o74 P,o75,o76,o77,boot_o_7 P,boot_o_8 P,o78,o79,o80,boot_o_7 P,boot_o_8 P,o81,o82,o83,boot_o_7 P,boot_o_8 P,o84,boot_o_7 P,o85,o86,o87,boot_o_7 P,boot_o_8 P,o88,boot_o_7 P,o89,o90,o91,boot_o_7 P,boot_o_8 P,o92,boot_o_7 P,o93,o94,o95,boot_o_7 P,boot_o_8 P,o96,boot_o_7 P,o97,o98,o99,boot_o_7 P,boot_o_8 P,o100,boot_o_7 P,zhF,zhG,zhH,boot_o_7 P,boot_o_8 P,zhI,boot_o_7 P,zhJ,zhK,zhL,boot_o_7 P,boot_o_8 P,zhM,zhN,zhO,boot_o_7 P,boot_o_8 P,o111,boot_o_7 P,zhP,zhQ,zhR,boot_o_7 P,boot_o_8 P,zhS,boot_o_7 P,zhT,zhU,zhV,boot_o_7 P,boot_o_8 P,zhW,boot_o_7 P,zhX,zhY,zhZ,boot_o_7 P,boot_o_8 P,zh0,boot_o_7 P,zh1,zh2,zh3,boot_o_7 P,boot_o_8 P,zh4,zh5,zh6,boot_o_7 P,boot_o_8 P,zh7,zh8,zh9,boot_o_7 P,boot_o_8 P,zia,boot_o_7 P,zib,zic,zid,boot_o_7 P,boot_o_8 P,zie,zif,zig,boot_o_7 P,boot_o_8 P,zih,boot_o_7 P,zii,zij,zik,boot_o_7 P,boot_o_8 P,zil,boot_o_7 P,zim,zin,zio,boot_o_7 P,boot_o_8 P,ziq,boot_o_7 P,zir,zis,zit,boot_o_7 P,boot_o_8 P,ziu,boot_o_7 P,ziv,ziw,zix,boot_o_7 P,boot_o_8 P,ziy,ziz,ziA,boot_o_7 P,boot_o_8 P,ziB,ziC,ziD,boot_o_7 P,boot_o_8 P,ziE,ziF,ziG,boot_o_7 P,boot_o_8 P,ziH,boot_o_7 P,ziI,ziJ,ziK,boot_o_7 P,boot_o_8 P,ziL,ziM,ziN,boot_o_7 P,boot_o_8 P,ziO,boot_o_7 P,ziP,ziQ,ziR,boot_o_7 P,boot_o_8 P,ziS,boot_o_7 P,ziT,ziU,ziV,boot_o_7 P,boot_o_8 P,ziW,boot_o_7 P,ziX,ziY,ziZ,boot_o_7 P,boot_o_8 P,zi0,boot_o_7 P,zi1,zi2,zi3,boot_o_7 P,boot_o_8 P,zi4,boot_o_7 P,zi5,zi6,zi7,boot_o_7 P,boot_o_8 P,zi8,zi9,zja,boot_o_7 P,boot_o_8 P,zjb,boot_o_7 P,zjc,zjd,zje,boot_o_7 P,boot_o_8 P,zjf,o200,zjg,boot_o_7 P,o26,zjh P,boot_o_7 P,zji,zjj,zjk,boot_o_7 P,boot_o_8 P,zjl,boot_o_7 P,zjm,zjn,zjo,zjp,zjq P,zjr,zjs,zjt,zju,zjv,boot_o_7 P,o26,zjw P,boot_o_7 P,zjx,zjy,zjz,boot_o_7 P,boot_o_8 P,zjA,boot_o_7 P,zjB,zjC,zjD,boot_o_7 P,boot_o_8 P,zjE,boot_o_7 P,zjF,zjG,zjH,boot_o_7 P,boot_o_8 P,zjI,boot_o_7 P,zjJ,zjK,zjL,boot_o_7 P,boot_o_8 P,zjM,boot_o_7 P,zjN,zjO,zjP,boot_o_7 P,boot_o_8 P,zjQ,boot_o_7 P,zjR,zjS,zjT,boot_o_7 P,boot_o_8 P,zjU,boot_o_7 P,zjV,zjW,zjX,boot_o_7 P,boot_o_8 P,zjY,boot_o_7 P,zjZ,zj0,zj1,zj2,zj3 P,zj4,zj5,zj6,zj7,zj8,boot_o_7 P,boot_o_8 P,zj9,boot_o_7 P,zka,zkb,zkc,boot_o_7 P,boot_o_8 P,zkd,boot_o_7 P,zke,zkf,zkg,boot_o_7 P,boot_o_8 P,zkh,boot_o_7 P,zki,zkj,zkk,boot_o_7 P,boot_o_8 P,zkl,boot_o_7 P,zkm,zkn,zko,boot_o_7 P,boot_o_8 P,zkp,boot_o_7 P,zkq,zkr,zks,boot_o_7 P,boot_o_8 P,zkt,boot_o_7 P,zku,zkv,zkw,boot_o_7 P,boot_o_8 P,zkx,boot_o_7 P,zky,zkz,zkA,boot_o_7 P,boot_o_8 P,zkB,boot_o_7 P,zkC,zkD,zkE,boot_o_7 P,boot_o_8 P,zkF,zkG,zkH,boot_o_7 P,boot_o_8 P,zkI,boot_o_7 P,zkJ,zkK,zkL,boot_o_7 P,boot_o_8 P,zkM,zkN,zkO,boot_o_7 P,boot_o_8 P,zkP,boot_o_7 P,zkQ,o300,zkR,boot_o_7 P,boot_o_8 P,zkS,boot_o_7 P,zkT,zkU,zkV],lf⟩
noncomputable def view:Program:={ p with main:={ p.main with body:=[t 1,t 2,t 3,t 4,t 5,t 7,t 8,t 9,t 10,t 11,t 12,t 13,t 15,t 16,t 17,t 18,t 19,t 21,t 22,t 24,t 26,t 27,t 28,t 29,t 31,t 32,t 33,t 35,t 36,t 37,t 39,t 40,t 41,t 42,t 43,t 44,t 45,t 46,t 47,t 48,t 50,t 51,t 52,t 53,t 54,t 55,t 56,t 57,t 58,t 59,t 60,t 61,t 62,t 63,t 64,t 66,t 67,t 68,t 69,t 70,t 71,t 73,t 74,t 75,t 76,t 77,t 78,t 79,t 80,t 81] } }
noncomputable abbrev env:Env:={ scope:=p.main.scope,locals:=mainNs,globals:=mainNs,cells:=[],code:=(.ref 13),frame:=some 14 }
noncomputable abbrev cE:Code:=.body (behindTheImports p) env
noncomputable abbrev fq:Pos:=⟨0,0,0,0⟩
noncomputable abbrev an:Option Value:=(some (.ref 6))
noncomputable abbrev s0 (w:World) (os:OsState):Shared:=⟨boot_heap w.params,#[],boot_drawn,boot_toks,os⟩
noncomputable abbrev S (w:World) (os:OsState):Shared:=⟨hF w.params,#[],⟨0,0,0,0⟩,922,os⟩
theorem pre (w:World) (os:OsState):topGo treeTable p w 11 an 12 (s0 w os) (topStub p)=some ((⟨hA w.params,#[],⟨0,0,0,0⟩,187,os⟩:Shared),⟨denote treeTable cE,cE,⟨0,0,0,0⟩,[topFrame fq]⟩):=by
 rewrite [PySem.W.Fast.te15667345088766844465,PySem.W.Fast.te14364793385576792824,PySem.W.Fast.te11892475500146522536]
 kernel_rfl
theorem block (w:World) (os:OsState):segRun treeTable p w 11 an 1 1 (⟨hA w.params,#[],⟨0,0,0,0⟩,187,os⟩:Shared) (blockOf (behindTheImports p) env cE ⟨0,0,0,0⟩ [topFrame fq])=some (.next,(⟨tr0 w.params,15,lf,#[],⟨0,0,0,0⟩,187,os⟩:SharedT).abs,cE,⟨0,0,0,0⟩):=by
 rewrite [PySem.W.Fast.te14374325043358763698,PySem.W.Fast.te14364793385576792824]
 kernel_rfl
noncomputable def zgY:List Stmt:=[t 0,t 1,t 2,t 3,t 4,t 5,t 6,t 7,t 8,t 9,t 10,t 11,t 12,t 13,t 14,t 15,t 16,t 17,t 18,t 19,t 20,t 21,t 22,t 23,t 24,t 25,t 26,t 27,t 28,t 29,t 30,t 31,t 32,t 33,t 34,t 35,t 36,t 37,t 38,t 39,t 40,t 41,t 42,t 43,t 44,t 45,t 46,t 47,t 48,t 49,t 50,t 51,t 52,t 53,t 54,t 55,t 56,t 57,t 58,t 59,t 60,t 61,t 62,t 63,t 64,t 65,t 66,t 67,t 68,t 69,t 70,t 71,t 72,t 73,t 74,t 75,t 76,t 77,t 78,t 79,t 80,t 81]
theorem zlj (w:World) (os:OsState):segRunT treeTable p w 11 an 1 3879 (⟨tr0 w.params,15,lf,#[],⟨0,0,0,0⟩,187,os⟩:SharedT) (piecesOf zgY env cE ⟨0,0,0,0⟩ [topFrame fq])=some (.next,(⟨tr1 w.params,520,lf,#[],⟨0,0,0,0⟩,922,os⟩:SharedT),cE,⟨379,0,389,15⟩):=by
 rewrite [PySem.W.Fast.te10110043849684766642,PySem.W.Fast.te14364793385576792824]
 kernel_rfl
theorem fin (w:World) (os:OsState):topRun treeTable p w 11 an 2 (⟨tr1 w.params,520,lf,#[],⟨0,0,0,0⟩,922,os⟩:SharedT).abs ⟨doneF .next,cE,⟨379,0,389,15⟩,[topFrame fq]⟩=some (S w os):=by
 rewrite [PySem.W.Fast.te14082659384304107361,PySem.W.Fast.te14364793385576792824]
 kernel_rfl
theorem parts:behindTheImports p=zgY++[]:=by kernel_rfl
theorem rest (w:World) (os:OsState):topRun treeTable p w 11 an (3879+(2)) (⟨tr0 w.params,15,lf,#[],⟨0,0,0,0⟩,187,os⟩:SharedT).abs (restOf (zgY++[]) env cE ⟨0,0,0,0⟩ [topFrame fq])=some (S w os):=(piece_app (segRun_of (zlj w os)) (piece_nil (fin w os)))
theorem rest' (w:World) (os:OsState):topRun treeTable p w 11 an (3879+(2)) (⟨tr0 w.params,15,lf,#[],⟨0,0,0,0⟩,187,os⟩:SharedT).abs (restOf (behindTheImports p) env cE ⟨0,0,0,0⟩ [topFrame fq])=some (S w os):=(congrArg (fun l=>topRun treeTable p w 11 an (3879+(2)) (⟨tr0 w.params,15,lf,#[],⟨0,0,0,0⟩,187,os⟩:SharedT).abs (restOf l env cE ⟨0,0,0,0⟩ [topFrame fq])) parts).trans (rest w os)
theorem run (w:World) (os:OsState):topRun treeTable p w 11 an (12+(1+(3879+(2)))) (s0 w os) (topStub p)=some (S w os):=go_top (pre w os) (piece_block (block w os) (rest' w os))
theorem size (w:World):((boot_heap w.params).isNs mainGlobals && (#[]:Array GenState).size == 0,(boot_heap w.params).objs.size,(boot_heap w.params).nsMap mainGlobals "__annotations__")=(true,11,an):=by
 rewrite [PySem.W.Fast.te8920871248978507458]
 kernel_rfl
noncomputable abbrev Xt:Shared→Bool:=fun s=>xlAt view [] s && recOk PySem.Challenge.rw_bellwrite_k97_whole_from_desk_to_desk.row.toRowW.records s
theorem zkW (w:World) (os:OsState):(staticsOk (importedModules p.main.body) (boot_heap w.params) (hF w.params) && namesBound p (hF w.params) && gensDone (S w os) && laidKept (boot_heap w.params) (hF w.params))=true:=by
 rewrite [PySem.W.Fast.te5923862056798008813]
 kernel_rfl
theorem zkX (w:World) (os:OsState):openSeen view [] (importedModules p.main.body) Xt true (S w os)=openGood view []:=by
 unfold openSeen openGood
 refine looks_pair ?_ (looks_pair ?_ (looks_pair ?_ (looks_pair ?_ (looks_pair ?_ (looks_pair ?_ (looks_pair ?_ (looks_pair ?_ ?_)))))))
 ·(try rewrite [PySem.W.Fast.te5160383126252970620]);(try rewrite [PySem.W.R.mapR_eq]);(try rewrite [PySem.W.Fast.te3399658132070893891]);(try rewrite [PySem.W.Fast.te5991557255702980513]);kernel_rfl
 ·kernel_rfl
 ·(try rewrite [PySem.W.Fast.te10880121769531294198]);(try rewrite [PySem.W.Fast.te821141287760084731]);(try rewrite [PySem.W.R.mapR_eq]);(try rewrite [PySem.W.Fast.te3399658132070893891]);(try rewrite [PySem.W.Fast.te7409074990110511671]);(try rewrite [PySem.W.Fast.te13664370479719496447]);(try rewrite [PySem.W.Fast.te14722251495701143533]);(try rewrite [PySem.W.Fast.te5923862056798008813]);(try rewrite [PySem.W.Fast.te10994771534591457954]);kernel_rfl
 ·(try rewrite [PySem.W.Fast.te479339242167458305]);kernel_rfl
 ·(try rewrite [PySem.W.Fast.te16090120013241838585]);(try rewrite [PySem.W.Fast.te3247288618530077131]);kernel_rfl
 ·(try rewrite [PySem.W.Fast.te2386780881361962483]);(try rewrite [PySem.W.Fast.te821141287760084731]);kernel_rfl
 ·(try rewrite [PySem.W.Fast.te11698064438423848299]);kernel_rfl
 ·(try rewrite [PySem.W.Fast.te7317090234206586261]);kernel_rfl
 ·(try rewrite [PySem.W.Fast.te7369524293546568484]);kernel_rfl
theorem left (H:Hook) (hk:∀(w:World) (os:OsState),H.obs (S w os)=H.val w):LeftO p view [] Xt H.obs H.val 20000:=
 LeftO.of_pieces (boot_open (by kernel_rfl) (by decide) (fun s=>by rfl)) size run (by decide) (fun w=>funext fun os=>looks_pair (zkW w os) (looks_pair (zkX w os) (hk w os)))
theorem opens {d:DefRec}{kwd:List (Str×Expr)} (H:Hook) (hk:∀(w:World) (os:OsState),H.obs (S w os)=H.val w) (h1:defOf view PySem.Challenge.rw_bellwrite_k97_whole_from_desk_to_desk.row.name=some (d,kwd)) (h2:PySem.Challenge.rw_bellwrite_k97_whole_from_desk_to_desk.row.prog.theDef PySem.Challenge.rw_bellwrite_k97_whole_from_desk_to_desk.row.name=some (d.params,d.body,d.scope)) (h3:kwWritten? d.params.kwonlyargs d.params.kw_defaults=some kwd) (said:PySem.Challenge.rw_bellwrite_k97_whole_from_desk_to_desk.row.wellSaid=true) (hw:PySem.Challenge.rw_bellwrite_k97_whole_from_desk_to_desk.row.toRowW.promised)
  (hc:WalkO view [] (XL view []) H.says PySem.Challenge.rw_bellwrite_k97_whole_from_desk_to_desk.row.toRowW d kwd fun f vs=>PySem.call f vs):PySem.Challenge.rw_bellwrite_k97_whole_from_desk_to_desk.row.Holds:=by
 have ok:(chainsOk view && opensWell PySem.Challenge.rw_bellwrite_k97_whole_from_desk_to_desk.row.prog && (frees PySem.Challenge.rw_bellwrite_k97_whole_from_desk_to_desk.row.toRowW && PySem.Challenge.rw_bellwrite_k97_whole_from_desk_to_desk.row.within.isEmpty))=true:=by kernel_rfl
 exact holds_open (Xt:=Xt) (N:=20000) (left H hk) H.of H.keeps (fun s y=>xl_of s (Bool.and_eq_true_iff.mp y).1) XL.keeps h1 h2 h3
  (fun s y=>recFacts_of (Bool.and_eq_true_iff.mp y).2) (by rfl) said ok ⟨rfl,rfl,rfl,rfl,rfl,by decide +kernel⟩ hw hc
end
end Op
open PySem PySem.W PyProof.Rows
local macro_rules
  | `(tactic| o_head $h) => `(tactic| refine Op.opens $h (fun w os => ?hk) (by rfl) (by rfl) (by rfl) (by assumption) ?hw ?hc)
set_option maxRecDepth 100000 in
set_option maxHeartbeats 0 in
theorem PySem.Challenge.cw_bellwrite_k97_whole_from_desk_to_desk_holds : PySem.Challenge.rw_bellwrite_k97_whole_from_desk_to_desk.Holds := by
  w_on; o_law; k_head; (case hk => kernel_rfl); (case hw => w_witness2)
  k_fill
  refine Bw.walk (l := PySem.Challenge.rw_bellwrite_k97_whole_from_desk_to_desk) rfl rfl (by decide +kernel) (fun w h Y => PySem.W.kIn_of Y) ?F
  case F =>
    intro w mg fa h KX G hmg
    refine' Bw.all_mk (l := PySem.Challenge.rw_bellwrite_k97_whole_from_desk_to_desk) rfl KX G hmg ?d0 ?d1 ?d2 ?d3 ?d4 ?d5 ?d6 ?d7 ?d8 ?d9 ?d10 ?d11 ?d12 ?d13 ?d14 ?d15 ?d16 ?d17 ?d18 ?d19 ?d20 ?d21 ?d22 ?d23 ?d24 ?d25 ?d26 ?d27 ?d28 ?d29 ?d30 ?d31 ?d32 ?d33 ?d34 ?d35 ?d36 ?d37 ?d38 ?d39 ?d40 ?d41 ?d42 ?d43 ?d44 ?d45 ?d46 ?d47 ?d48 ?d49 ?d50 ?d51 ?z_range ?z_isinstance ?z_int ?z_bool ?z_len ?z_list ?zde ?z_min ?z_enumerate ?z_sorted ?z_sum ?z_all ?z_str ?zdf ?z_reversed ?wZ ?xN ?yh ?zF ?zP ?qQ ?zL ?vB ?yc ?QD ?jP ?qb ?jR ?qd ?zm ?qz ?jq ?zX ?z7 ?xO ?yj ?zG ?zQ ?zM ?vC ?qT ?JP ?JQ ?JR ?JS ?JT ?JV ?wN ?wO ?yR ?v8 ?Vj ?Vk ?Vl ?Vm ?Vn ?Vo ?yS ?yU ?Zw ?wQ ?jM ?vI ?vJ ?yV ?yW ?xx ?kI ?kJ ?Zx ?Zy ?xF ?kO ?kW ?kY ?Zz ?xG ?kZ ?wg ?wj ?ZC ?xH ?wk ?wu ?ww ?ZD ?jO ?xg ?xj ?xm ?wU ?jf ?jr ?jt ?ju ?xJ ?xK ?wy ?wz ?wA ?ZF
    any_goals (refine' Bw.di_mk ?a ?l ?c ?k; (case a => k_is); (case l => k_is); (case c => k_is); (case k => k_is))
    (case z_range => k_is)
    (case z_isinstance => k_is)
    (case z_int => k_is)
    (case z_bool => k_is)
    (case z_len => k_is)
    (case z_list => k_is)
    (case zde => k_is)
    (case z_min => k_is)
    (case z_enumerate => k_is)
    (case z_sorted => k_is)
    (case z_sum => k_is)
    (case z_all => k_is)
    (case z_str => k_is)
    (case zdf => k_is)
    (case z_reversed => k_is)
    (case wZ => k_is)
    (case xN => k_is)
    (case yh => k_is)
    (case zF => k_is)
    (case zP => k_is)
    (case qQ => k_is)
    (case zL => k_is)
    (case vB => k_is)
    (case yc => k_is)
    (case QD => k_is)
    (case jP => k_is)
    (case qb => k_is)
    (case jR => k_is)
    (case qd => k_is)
    (case zm => k_is)
    (case qz => k_is)
    (case jq => k_is)
    (case zX => k_is)
    (case z7 => k_is)
    (case xO => k_exc)
    (case yj => k_exc)
    (case zG => k_exc)
    (case zQ => k_exc)
    (case zM => k_exc)
    (case vC => k_exc)
    (case qT => k_exc)
    (case JP => k_is)
    (case JQ => k_is)
    (case JR => k_is)
    (case JS => k_is)
    (case JT => k_is)
    (case JV => k_is)
    (case wN => k_is)
    (case wO => k_is)
    (case yR => k_is)
    (case v8 => k_is)
    (case Vj => k_is)
    (case Vk => k_is)
    (case Vl => k_is)
    (case Vm => k_is)
    (case Vn => k_is)
    (case Vo => k_is)
    (case yS => k_is)
    (case yU => k_is)
    (case Zw => k_is)
    (case wQ => k_is)
    (case jM => k_is)
    (case vI => k_is)
    (case vJ => k_is)
    (case yV => k_is)
    (case yW => k_is)
    (case xx => k_is)
    (case kI => k_is)
    (case kJ => k_is)
    (case Zx => k_is)
    (case Zy => k_is)
    (case xF => k_is)
    (case kO => k_is)
    (case kW => k_is)
    (case kY => k_is)
    (case Zz => k_is)
    (case xG => k_is)
    (case kZ => k_is)
    (case wg => k_is)
    (case wj => k_is)
    (case ZC => k_is)
    (case xH => k_is)
    (case wk => k_is)
    (case wu => k_is)
    (case ww => k_is)
    (case ZD => k_is)
    (case jO => k_is)
    (case xg => k_is)
    (case xj => k_is)
    (case xm => k_is)
    (case wU => k_is)
    (case jf => k_is)
    (case jr => k_is)
    (case jt => k_is)
    (case ju => k_is)
    (case xJ => k_is)
    (case xK => k_is)
    (case wy => k_is)
    (case wz => k_is)
    (case wA => k_is)
    (case ZF => k_is)