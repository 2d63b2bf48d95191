import PyProof.Rows.All
import Wide.All
import OpenK.AllK
import Wide.FinOn
import Lean
import PyProof.EqAt
import PyProof.EqKinds
import PyProof.TupleCall
import KE.IntBitsLaws
import PySem.Challenge.RW_bellwrite_k63_talks_refused
set_option Elab.async false
set_option linter.all false
set_option maxRecDepth 100000
set_option maxHeartbeats 4000000
set_option genSizeOf false
namespace L2
open PySem PySem.Spec PyProof.Rows
abbrev Key := Sum Int Str
noncomputable def keyIs : Key → Value → Bool
  | .inl k, v => Value.isInt k v
  | .inr x, v => Value.isStrOf x v
noncomputable def keyH (w : World) : Key → Int
  | .inl k => hashInt k
  | .inr x => hashStr w x
theorem keyIs_shape : ∀ {k : Key} {v : Value}, keyIs k v = true → (∃ i t, k = Sum.inl i ∧ v = Value.int i t) ∨ (∃ x t, k = Sum.inr x ∧ v = Value.str x t)
  | .inl i, v, h => by
    obtain ⟨t, e⟩ := Value.isInt_shape (k := i) (v := v) h
    exact .inl ⟨i, t, rfl, e⟩
  | .inr x, v, h => by
    obtain ⟨t, e⟩ := Value.isStrOf_shape (x := x) (v := v) h
    exact .inr ⟨x, t, rfl, e⟩
theorem keyIs_int (i : Int) (t : Tok) : keyIs (.inl i) (.int i t) = true := by simp [keyIs, Value.isInt]
theorem keyIs_str (x : Str) (t : Tok) : keyIs (.inr x) (.str x t) = true := by simp [keyIs, Value.isStrOf]
theorem key_ll (a b : Int) : decide ((Sum.inl a : Key) = Sum.inl b) = (a == b) := by
  by_cases e : a = b
  · subst e; simp
  · have h : ¬ (Sum.inl a : Key) = Sum.inl b := fun q => e (Sum.inl.inj q)
    rw [decide_eq_false h]
    exact (beq_eq_false_iff_ne.mpr e).symm
theorem key_rr (a b : Str) : decide ((Sum.inr a : Key) = Sum.inr b) = decide (a = b) := by
  by_cases e : a = b
  · subst e; simp
  · have h : ¬ (Sum.inr a : Key) = Sum.inr b := fun q => e (Sum.inr.inj q)
    rw [decide_eq_false h, decide_eq_false e]
theorem key_lr (a : Int) (b : Str) : decide ((Sum.inl a : Key) = Sum.inr b) = false := decide_eq_false (fun q => nomatch q)
theorem key_rl (a : Str) (b : Int) : decide ((Sum.inr a : Key) = Sum.inl b) = false := decide_eq_false (fun q => nomatch q)
noncomputable def mixKind (prog : Program) (w : World) : PySem.KeyKind prog w Key where
  is := keyIs
  hash := keyH w
  inj := fun v a b ha hb => by
    rcases keyIs_shape ha with ⟨i, t, rfl, rfl⟩ | ⟨x, t, rfl, rfl⟩
    · rcases keyIs_shape hb with ⟨j, u, rfl, e⟩ | ⟨y, u, rfl, e⟩
      · injection e with e1 _; rw [e1]
      · exact nomatch e
    · rcases keyIs_shape hb with ⟨j, u, rfl, e⟩ | ⟨y, u, rfl, e⟩
      · exact nomatch e
      · injection e with e1 _; rw [e1]
  byValue := fun k v h => by
    rcases keyIs_shape h with ⟨i, t, rfl, rfl⟩ | ⟨x, t, rfl, rfl⟩ <;> rfl
  pyHash := fun hv h => by
    rcases keyIs_shape hv with ⟨i, t, rfl, rfl⟩ | ⟨x, t, rfl, rfl⟩
    · exact wpAny_pyHash_int h
    · exact wpAny_pyHash_str h
  eqBool := fun hu hv h => by
    rcases keyIs_shape hu with ⟨i, t, rfl, rfl⟩ | ⟨x, t, rfl, rfl⟩
    · rcases keyIs_shape hv with ⟨j, u, rfl, rfl⟩ | ⟨y, u, rfl, rfl⟩
      · rw [key_ll] at h; exact wpAny_eqBool_int h
      · rw [key_lr] at h; exact SeqAt.EqAt.int_str i t y u _ _ _ _ h
    · rcases keyIs_shape hv with ⟨j, u, rfl, rfl⟩ | ⟨y, u, rfl, rfl⟩
      · rw [key_rl] at h; exact SeqAt.EqAt.str_int x t j u _ _ _ _ h
      · rw [key_rr] at h; exact wpAny_eqBool_str h
  «strs» := fun k x t v h => by
    rcases keyIs_shape h with ⟨i, u, rfl, e⟩ | ⟨y, u, rfl, e⟩
    · exact nomatch e
    · injection e with e1 _
      subst e1
      cases v <;> rfl
theorem mixKind_int (prog : Program) (w : World) (i : Int) (t : Tok) : (mixKind prog w).is (.inl i) (.int i t) = true := keyIs_int i t
theorem mixKind_str (prog : Program) (w : World) (x : Str) (t : Tok) : (mixKind prog w).is (.inr x) (.str x t) = true := keyIs_str x t
end L2
namespace L2
open PySem PySem.Spec PyProof.Rows
inductive V where
  | non | bl (b : Bool) | int (i : Int) | str (x : Str) | byt (b : Array UInt8) | flt (b : UInt64) | ref (a : Addr) | ty (n : String)
  deriving DecidableEq
noncomputable def RelV : V → Value → Prop
  | .non, u => u = Value.none
  | .bl b, u => u = Value.bool b
  | .int i, u => ∃ t, u = Value.int i t
  | .str x, u => ∃ t, u = Value.str x t
  | .byt b, u => ∃ t, u = Value.bytes b t
  | .flt b, u => ∃ t, u = Value.float b t
  | .ref a, u => u = Value.ref a
  | .ty n, u => u = Value.type n
abbrev Vals : List V → List Value → Prop := Paired RelV
theorem Vals.length {xs : List V} {us : List Value} (r : Vals xs us) : xs.length = us.length := Paired.length r
theorem Vals.get : ∀ {xs : List V} {us : List Value} {i : Nat} {x : V}, Vals xs us → xs[i]? = some x → ∃ u, us[i]? = some u ∧ RelV x u
  | _, _, _, _, .nil, e => by simp at e
  | _, _, 0, _, .cons r _, e => by simp at e; subst e; exact ⟨_, rfl, r⟩
  | _, _, i + 1, x, .cons _ t, e => by
    obtain ⟨u, h1, h2⟩ := Vals.get (i := i) (x := x) t (by simpa using e)
    exact ⟨u, by simpa using h1, h2⟩
theorem Vals.set {x : V} {u : Value} (r : RelV x u) : ∀ {xs : List V} {us : List Value} (i : Nat), Vals xs us → Vals (xs.set i x) (us.set i u)
  | _, _, _, .nil => .nil
  | _, _, 0, .cons _ t => .cons r t
  | _, _, i + 1, .cons q t => .cons q (Vals.set r i t)
theorem Vals.append : ∀ {xs ys : List V} {us ws : List Value}, Vals xs us → Vals ys ws → Vals (xs ++ ys) (us ++ ws)
  | _, _, _, _, .nil, s => s
  | _, _, _, _, .cons r t, s => .cons r (Vals.append t s)
theorem Vals.take : ∀ {xs : List V} {us : List Value} (n : Nat), Vals xs us → Vals (xs.take n) (us.take n)
  | _, _, 0, _ => .nil
  | _, _, _ + 1, .nil => .nil
  | _, _, n + 1, .cons r t => .cons r (Vals.take n t)
theorem Vals.drop : ∀ {xs : List V} {us : List Value} (n : Nat), Vals xs us → Vals (xs.drop n) (us.drop n)
  | _, _, 0, r => r
  | _, _, _ + 1, .nil => .nil
  | _, _, n + 1, .cons _ t => Vals.drop n t
theorem Vals.none_of : ∀ {xs : List V} {us : List Value} {i : Nat}, Vals xs us → xs[i]? = none → us[i]? = none := fun {xs us i} r e => by
  have h1 := r.length
  have h2 : xs.length ≤ i := List.getElem?_eq_none_iff.mp e
  exact List.getElem?_eq_none_iff.mpr (by omega)
noncomputable def RelO : Option V → Option Value → Prop
  | some v, some u => RelV v u
  | none, none => True
  | _, _ => False
noncomputable def KV {κ : Type} : List (κ × V) → List (κ × Value) → Prop := Paired fun (p : κ × V) (q : κ × Value) => p.1 = q.1 ∧ RelV p.2 q.2
noncomputable def kV : Key → V
  | .inl i => .int i
  | .inr x => .str x
inductive HO where
  | lst (xs : List V)
  | tup (xs : List V)
  | dK (kvs : List (Key × V)) | dT (kvs : List (List Key × V))
  | set (S : Int → Bool) (n : Nat)
  | ins (C dx : Addr) (fs : List (Str × V))
  | own (x : Addr)
  | xd (fs : List (Str × V))
  | met (f x : Addr)
  | rng (lo hi : Int)
  | frz (o : Obj) (u : HO)
  | tbl (ps : Array Value)
  | ext (φ : Heap → Prop)
abbrev Hp := Addr → Option HO
noncomputable def upd (H : Hp) (a : Addr) (o : HO) : Hp := fun b => if b = a then some o else H b
theorem upd_same {H : Hp} {a : Addr} {o : HO} : upd H a o a = some o := by unfold upd; rw [if_pos rfl]
theorem upd_ne {H : Hp} {a b : Addr} {o : HO} (h : b ≠ a) : upd H a o b = H b := by unfold upd; rw [if_neg h]
theorem upd_upd {H : Hp} {a : Addr} {o u : HO} : upd (upd H a o) a u = upd H a u := by
  funext b; unfold upd; split <;> rfl
theorem ne_of_none {H : Hp} {a b : Addr} {o : HO} (h : H a = some o) (h' : H b = none) : a ≠ b := by
  intro e; subst e; rw [h] at h'; cases h'
section
variable (P : Program) (w : World)
noncomputable def ObjOk (H : Hp) (h : Heap) (a : Addr) : HO → Prop
  | .lst xs => xs.length ≤ sizeLine ∧ ∃ (its : List Value) (n : Nat), Vals xs its ∧ h.get? a = some { cls := .type "list", data := .seq its.toArray n }
  | .tup xs => xs.length ≤ sizeLine ∧ ∃ its : List Value, Vals xs its ∧ IsTup h a its.toArray
  | .dK kvs => kvs.length ≤ sizeLine ∧ (a == sysModules) = false ∧ ∃ vs, KV kvs vs ∧ h.DictOf (mixKind P w) a vs
  | .dT kvs => kvs.length ≤ sizeLine ∧ (a == sysModules) = false ∧ ∃ xs : List (List Key × Addr × Value),
      Paired (fun (p : List Key × V) (q : List Key × Addr × Value) => p.1 = q.1 ∧ H q.2.1 = some (.tup (p.1.map kV)) ∧ RelV p.2 q.2.2) kvs xs ∧
      ∃ o es ep, h.get? a = some o ∧ o.ExactDict ∧ o.data = .dict es ep ∧ es.toList = xs.map (entryOfKey (tupleKind (mixKind P w))) ∧ (xs.map (·.1)).Nodup
  | .set S n => h.SetOf (intKind P w) a S n
  | .ins C dx fs => H dx = some (.own a) ∧ fs.length ≤ 1000 ∧ dx ≠ a ∧ h.get? a = some (PySem.W.instObj C dx) ∧
      ∃ mA, h.Ns1 dx mA ∧ (∀ f, RelO (fs.lookup f) (mA f)) ∧ PySem.Within mA (fs.map (·.1))
  | .own _ => ∃ o, h.get? a = some o
  | .xd fs => ∃ mA, h.Ns1 a mA ∧ ∀ f, RelO (fs.lookup f) (mA f)
  | .rng lo hi => ∃ t u v, h.get? a = some { cls := .type "range", data := .fields #[.int lo t, .int hi u, .int 1 v] }
  | .frz o u => h.get? a = some o ∧ ObjOk H h a u
  | .tbl ps => h.get? a = some { cls := .none, data := .fields ps }
  | .met f x => h.get? a = some (PySem.W.methodObj (.ref f) (.ref x))
  | .ext φ => φ h ∧ (∃ o, h.get? a = some o) ∧ ∀ h1 h2 : Heap, φ h1 → (∀ o, h1.get? a = some o → h2.get? a = some o) → φ h2
noncomputable def HOk (H : Hp) (h : Heap) : Prop := ∀ a o, H a = some o → ObjOk P w H h a o
end
section
variable {P : Program} {w : World} {H H' : Hp} {h h' : Heap} {a : Addr} {o : HO}
theorem ObjOk.lt (x : ObjOk P w H h a o) : a < h.objs.size := by
  cases o with
  | lst xs => obtain ⟨_, _, _, _, e⟩ := x; exact Heap.lt_size e
  | tup xs => obtain ⟨_, _, _, p⟩ := x; exact p.lt
  | dK kvs => obtain ⟨_, _, _, _, o, _, _, e, _⟩ := x; exact Heap.lt_size e
  | dT kvs => obtain ⟨_, _, _, _, o, _, _, e, _⟩ := x; exact Heap.lt_size e
  | set S n => obtain ⟨o, _, _, _, e, _⟩ := x; exact Heap.lt_size e
  | ins C dx fs => obtain ⟨_, _, _, e, _⟩ := x; exact Heap.lt_size e
  | own y => obtain ⟨_, e⟩ := x; exact Heap.lt_size e
  | xd fs => obtain ⟨_, ⟨_, _, _, e, _⟩, _⟩ := x; exact Heap.lt_size e
  | rng lo hi => obtain ⟨_, _, _, e⟩ := x; exact Heap.lt_size e
  | frz ob u => obtain ⟨e, _⟩ := x; exact Heap.lt_size e
  | tbl ps => exact Heap.lt_size (show h.get? a = some _ from x)
  | met f y => exact Heap.lt_size (show h.get? a = some _ from x)
  | ext φ => obtain ⟨_, ⟨_, e⟩, _⟩ := x; exact Heap.lt_size e
theorem Paired.mapP {α β : Type} {F G : α → β → Prop} : ∀ {l₁ : List α} {l₂ : List β}, Paired F l₁ l₂ → (∀ a b, F a b → G a b) → Paired G l₁ l₂
  | _, _, .nil, _ => .nil
  | _, _, .cons r t, f => .cons (f _ _ r) (Paired.mapP t f)
theorem Paired.imp' {α β : Type} {F G : α → β → Prop} (f : ∀ a b, F a b → G a b) {l₁ : List α} {l₂ : List β} (r : Paired F l₁ l₂) : Paired G l₁ l₂ := Paired.mapP r f
theorem ObjOk.stay (x : ObjOk P w H h a o) (k : ∀ b u, (b = a ∨ H b = some (.own a)) → h.get? b = some u → h'.get? b = some u)
    (ho : ∀ b, H b = some (.own a) → H' b = some (.own a)) (ht : ∀ b xs, H b = some (.tup xs) → H' b = some (.tup xs)) : ObjOk P w H' h' a o := by
  induction o with
  | lst xs => obtain ⟨z, its, n, r, e⟩ := x; exact ⟨z, its, n, r, k _ _ (.inl rfl) e⟩
  | tup xs => obtain ⟨z, its, r, ob, e, c⟩ := x; exact ⟨z, its, r, ob, k _ _ (.inl rfl) e, c⟩
  | dK kvs => obtain ⟨z, y, vs, r, ob, es, ep, e, c⟩ := x; exact ⟨z, y, vs, r, ob, es, ep, k _ _ (.inl rfl) e, c⟩
  | dT kvs =>
    obtain ⟨z, y, xs, r, ob, es, ep, e, c⟩ := x
    exact ⟨z, y, xs, Paired.mapP r fun p q z => ⟨z.1, ht _ _ z.2.1, z.2.2⟩, ob, es, ep, k _ _ (.inl rfl) e, c⟩
  | set S n => obtain ⟨ob, es, ep, t, e, c⟩ := x; exact ⟨ob, es, ep, t, k _ _ (.inl rfl) e, c⟩
  | ins C dx fs =>
    obtain ⟨d, z, ne, e, mA, ⟨od, es, ep, e2, c⟩, r⟩ := x
    exact ⟨ho _ d, z, ne, k _ _ (.inl rfl) e, mA, ⟨od, es, ep, k _ _ (.inr d) e2, c⟩, r⟩
  | own y => obtain ⟨ob, e⟩ := x; exact ⟨ob, k _ _ (.inl rfl) e⟩
  | xd fs => obtain ⟨mA, ⟨od, es, ep, e, c⟩, r⟩ := x; exact ⟨mA, ⟨od, es, ep, k _ _ (.inl rfl) e, c⟩, r⟩
  | rng lo hi => obtain ⟨t, u, v, e⟩ := x; exact ⟨t, u, v, k _ _ (.inl rfl) e⟩
  | frz ob u ih => obtain ⟨e, q⟩ := x; exact ⟨k _ _ (.inl rfl) e, ih q⟩
  | tbl ps =>
    have e : h.get? a = some { cls := .none, data := .fields ps } := x
    show h'.get? a = some { cls := .none, data := .fields ps }
    exact k a _ (.inl rfl) e
  | met f y =>
    have e : h.get? a = some (PySem.W.methodObj (.ref f) (.ref y)) := x
    show h'.get? a = some (PySem.W.methodObj (.ref f) (.ref y))
    exact k a _ (.inl rfl) e
  | ext φ => obtain ⟨p, ⟨o, e⟩, st⟩ := x; exact ⟨st _ _ p fun o q => k _ _ (.inl rfl) q, ⟨o, k _ _ (.inl rfl) e⟩, st⟩
theorem HOk.lt (x : HOk P w H h) (e : H a = some o) : a < h.objs.size := (x a o e).lt
theorem HOk.fresh (x : HOk P w H h) (e : h.objs.size ≤ a) : H a = none := by
  cases q : H a with
  | none => rfl
  | some u => exact absurd (Nat.lt_of_lt_of_le (x.lt q) e) (Nat.lt_irrefl _)
theorem HOk.kept (x : HOk P w H h) (k : ∀ b u, h.get? b = some u → h'.get? b = some u) : HOk P w H h' := fun a o e =>
  (x a o e).stay (fun b u _ q => k b u q) (fun _ q => q) fun _ _ q => q
theorem HOk.laid (x : HOk P w H h) (k : ∀ b u, h.get? b = some u → h'.get? b = some u) (hp : h.objs.size ≤ a) (new : ObjOk P w (upd H a o) h' a o) : HOk P w (upd H a o) h' := fun b u e => by
  have hn := x.fresh hp
  by_cases hb : b = a
  · subst hb; rw [upd_same] at e; cases e; exact new
  · rw [upd_ne hb] at e
    exact (x b u e).stay (fun c v _ q => k c v q) (fun c q => by rw [upd_ne (ne_of_none q hn)]; exact q) fun c xs q => by rw [upd_ne (ne_of_none q hn)]; exact q
end
noncomputable def Rd (H : Hp) (a : Addr) (u : HO) : Prop := H a = some u ∨ ∃ o, H a = some (.frz o u)
theorem Rd.of {H : Hp} {a : Addr} {u : HO} (h : H a = some u) : Rd H a u := .inl h
theorem Rd.ok {P : Program} {w : World} {H : Hp} {h : Heap} {a : Addr} {u : HO} (r : Rd H a u) (x : HOk P w H h) : ObjOk P w H h a u := by
  rcases r with r | ⟨o, r⟩
  · exact x a u r
  · obtain ⟨_, q⟩ := x a _ r
    exact q
noncomputable def Mut : Option HO → Prop
  | some (.lst _) => True
  | some (.dK _) => True
  | some (.dT _) => True
  | some (.set _ _) => True
  | some (.ins _ _ _) => True
  | some (.ext _) => True
  | _ => False
section
variable {P : Program} {w : World} {H : Hp} {h h' : Heap} {x e : Addr} {o' : HO}
theorem HOk.write (ok : HOk P w H h) (mu : Mut (H x)) (he : e = x ∨ H e = some (.own x)) (k : ∀ b u, b ≠ e → h.get? b = some u → h'.get? b = some u) (heo : ∃ u, h'.get? e = some u)
    (new : ObjOk P w (upd H x o') h' x o') : HOk P w (upd H x o') h' := fun b u q => by
  have nown : ∀ c y, H c = some (.own y) → c ≠ x := fun c y r z => by subst z; rw [r] at mu; exact mu
  have ntup : ∀ c xs, H c = some (.tup xs) → c ≠ x := fun c xs r z => by subst z; rw [r] at mu; exact mu
  by_cases hb : b = x
  · subst hb; rw [upd_same] at q; cases q; exact new
  · rw [upd_ne hb] at q
    by_cases hbe : b = e
    · have q' : H b = some (.own x) := by
        rcases he with z | z
        · exact absurd (hbe.trans z) hb
        · rw [hbe]; exact z
      rw [q] at q'; cases q'
      obtain ⟨v, hv⟩ := heo
      exact ⟨v, by rw [hbe]; exact hv⟩
    · refine (ok b u q).stay (fun c v hc r => k c v ?_ r) (fun c r => by rw [upd_ne (nown c b r)]; exact r) fun c xs r => by rw [upd_ne (ntup c xs r)]; exact r
      rcases hc with rfl | hc
      · exact hbe
      · rintro rfl
        rcases he with z | z
        · exact nown c b hc z
        · rw [hc] at z; cases z; exact hb rfl
end
structure Un (fs ex : List Addr) (H H' : Hp) (h h' : Heap) : Prop where
  keep : ∀ b o, h.get? b = some o → H b = none → b ∉ fs → b ∉ ex → h'.get? b = some o
  slot : ∀ b o, h.get? b = some o → H b = none → b ∈ fs → b ∉ ex → ∃ sl, h'.get? b = some { o with slots := sl }
  free : ∀ b o, h.get? b = some o → H b = none → b ∉ ex → H' b = none
  there : ∀ b o, h.get? b = some o → b ∉ ex → ∃ o', h'.get? b = some o'
  tups : ∀ b xs, H b = some (.tup xs) → H' b = some (.tup xs)
  frzs : ∀ b o u, H b = some (.frz o u) → H' b = some (.frz o u)
  tbls : ∀ b ps, H b = some (.tbl ps) → ∃ more, H' b = some (.tbl (ps ++ more))
section
variable {fs fs' ex ex' : List Addr} {H H1 H2 : Hp} {h h1 h2 h' : Heap} {a x e : Addr} {o : HO}
theorem Un.any (u : Un fs ex H H1 h h1) {b : Addr} {ob : Obj} (q : h.get? b = some ob) (n : H b = none) (hx : b ∉ ex) : ∃ sl, h1.get? b = some { ob with slots := sl } := by
  by_cases hb : b ∈ fs
  · exact u.slot b ob q n hb hx
  · exact ⟨ob.slots, u.keep b ob q n hb hx⟩
theorem Un.trans (a : Un fs ex H H1 h h1) (b : Un fs ex H1 H2 h1 h2) : Un fs ex H H2 h h2 where
  keep := fun c ob q n hc hx => b.keep c ob (a.keep c ob q n hc hx) (a.free c ob q n hx) hc hx
  slot := fun c ob q n hc hx => by
    obtain ⟨sl, e1⟩ := a.slot c ob q n hc hx
    obtain ⟨sl', e2⟩ := b.slot c _ e1 (a.free c ob q n hx) hc hx
    exact ⟨sl', e2⟩
  free := fun c ob q n hx => by
    obtain ⟨o', e1⟩ := a.there c ob q hx
    exact b.free c o' e1 (a.free c ob q n hx) hx
  there := fun c ob q hx => by
    obtain ⟨o', e1⟩ := a.there c ob q hx
    exact b.there c o' e1 hx
  tups := fun c xs q => b.tups c xs (a.tups c xs q)
  frzs := fun c ob xs q => b.frzs c ob xs (a.frzs c ob xs q)
  tbls := fun c ps q => by
    obtain ⟨m1, e1⟩ := a.tbls c ps q
    obtain ⟨m2, e2⟩ := b.tbls c _ e1
    exact ⟨m1 ++ m2, by rw [e2, Array.append_assoc]⟩
theorem Un.kept (k : ∀ b u, h.get? b = some u → h'.get? b = some u) : Un fs ex H H h h' :=
  ⟨fun b ob q _ _ _ => k b ob q, fun b ob q _ _ _ => ⟨ob.slots, k b ob q⟩, fun _ _ _ n _ => n, fun b ob q _ => ⟨ob, k b ob q⟩, fun _ _ q => q, fun _ _ _ q => q, fun _ ps q => ⟨#[], by rw [q]; simp⟩⟩
theorem Un.refl : Un fs ex H H h h := Un.kept fun _ _ q => q
theorem Un.laid (k : ∀ b u, h.get? b = some u → h'.get? b = some u) (hp : h.objs.size ≤ a) (hn : H a = none) : Un fs ex H (upd H a o) h h' where
  keep := fun b u q _ _ _ => k b u q
  slot := fun b u q _ _ _ => ⟨u.slots, k b u q⟩
  free := fun b u q n _ => by rw [upd_ne (Nat.ne_of_lt (Nat.lt_of_lt_of_le (Heap.lt_size q) hp))]; exact n
  there := fun b u q _ => ⟨u, k b u q⟩
  tups := fun b xs q => by rw [upd_ne (ne_of_none q hn)]; exact q
  frzs := fun b u xs q => by rw [upd_ne (ne_of_none q hn)]; exact q
  tbls := fun b ps q => ⟨#[], by rw [upd_ne (ne_of_none q hn), q]; simp⟩
theorem Un.write (mu : Mut (H x)) (he : e = x ∨ H e = some (.own x)) (k : ∀ b u, b ≠ e → h.get? b = some u → h'.get? b = some u) (heo : ∃ u, h'.get? e = some u) : Un fs ex H (upd H x o) h h' := by
  have hx : ∀ b, H b = none → b ≠ x := fun b n z => by subst z; rw [n] at mu; exact mu
  have hb : ∀ b, H b = none → b ≠ e := fun b n z => by
    subst z
    rcases he with r | r
    · exact hx b n r
    · rw [n] at r; cases r
  have hm : ∀ b u, H b = some u → ¬ Mut (some u) → b ≠ x := fun b u q nm z => by subst z; rw [q] at mu; exact nm mu
  refine ⟨fun b u q n _ _ => k b u (hb b n) q, fun b u q n _ _ => ⟨u.slots, k b u (hb b n) q⟩, fun b u q n _ => by rw [upd_ne (hx b n)]; exact n, fun b u q _ => ?_,
    fun b xs q => by rw [upd_ne (hm b _ q fun z => z)]; exact q, fun b u xs q => by rw [upd_ne (hm b _ q fun z => z)]; exact q, fun b ps q => ⟨#[], by rw [upd_ne (hm b _ q fun z => z), q]; simp⟩⟩
  by_cases hbe : b = e
  · subst hbe; exact heo
  · exact ⟨u, k b u hbe q⟩
theorem Un.mono (u : Un fs ex H H1 h h1) (hs : ∀ b ∈ fs, b ∈ fs') (hx : ∀ b ∈ ex, b ∈ ex') : Un fs' ex' H H1 h h1 :=
  ⟨fun b ob q n hb he => u.keep b ob q n (fun z => hb (hs b z)) fun z => he (hx b z), fun _ _ q n _ he => u.any q n fun z => he (hx _ z), fun b ob q n he => u.free b ob q n fun z => he (hx b z), fun b ob q he => u.there b ob q fun z => he (hx b z), u.tups, u.frzs, u.tbls⟩
end
noncomputable def trk (h : Heap) (H : Hp) : List Addr := (List.range h.objs.size).filter fun a => (H a).isSome
noncomputable def hidT (h : Heap) (H : Hp) : Heap := PySem.W.hideAll h (trk h H)
theorem hidT_size (h : Heap) (H : Hp) : (hidT h H).objs.size = h.objs.size := PySem.W.hideAll_size _ _
theorem hidT_get {h : Heap} {H : Hp} {b : Addr} {o : Obj} (e : h.get? b = some o) (n : H b = none) : (hidT h H).get? b = some o :=
  PySem.W.hideAll_get _ e fun hm => by
    have q : (H b).isSome = true := (List.mem_filter.mp hm).2
    rw [n] at q; simp at q
theorem of_hidT {h : Heap} {H : Hp} {b : Addr} {o : Obj} (e : (hidT h H).get? b = some o) : h.get? b = some o ∧ H b = none := by
  have e' : h.get? b = some o := PySem.W.of_hideAll (trk h H) e
  refine ⟨e', ?_⟩
  cases q : H b with
  | none => rfl
  | some x =>
    have hm : b ∈ trk h H := List.mem_filter.mpr ⟨List.mem_range.mpr (Heap.lt_size e'), by simp [q]⟩
    have z : (hidT h H).get? b = none := PySem.W.hideAll_none (trk h H) hm
    rw [z] at e; cases e
noncomputable def allNews (g h : Heap) (L : Addr) : List (Addr × Obj) := (List.range h.objs.size).filterMap fun a => if a = L ∨ (g.get? a).isSome = true then none else (h.get? a).map fun o => (a, o)
noncomputable def rest (g h : Heap) (L d : Addr) : List (Addr × Obj) := (allNews g h L).filter fun p => decide (p.1 ≠ d)
end L2
namespace L2
open PySem PySem.Spec PyProof.Rows
structure Mod (K : PySem.W.Frag) (mg : Str → Option Value) (base : Heap) : Prop where
  kin : K.In base
  glob : base.Ns mainGlobals mg
  blt : ∃ mb, base.Ns builtinsNs mb ∧ ∀ x : Str, x ≠ "__name__" → mb x = bootBuiltins x
  nolimit : base.NoLimit
  seer : base.NoSeer
structure Cx where
  prog : Program
  w : World
  K : PySem.W.Frag
  mg : Str → Option Value
  base : Heap
  A : Around
  N : List Str
  s₀ : Shared
  H₀ : Hp
  env : Env
  outer : List Env
  stack : List Env
  ex : List Addr
  fn : Str → Bool
  calm : Bool
  pn : List (Addr × Obj)
  xe : Value → Shared → Prop
def frs (l : List Env) : List Addr := l.filterMap (·.frame)
abbrev Cx.fs (X : Cx) : List Addr := frs X.outer
noncomputable def Vis (sc : Scope) (x : Str) : Prop := sc.names.lookup x = some .local ∨ sc.names.lookup x = some .cell ∨ sc.names.lookup x = some .free
noncomputable def Loc (sc : Scope) (x : Str) : Prop := sc.names.lookup x = some .local ∨ sc.names.lookup x = some .cell
noncomputable def Look (env : Env) (h : Heap) (m : Str → Option Value) (x : Str) (u : Value) : Prop :=
  (env.kindOf x = some .local ∧ m x = some u) ∨ ((env.kindOf x = some .cell ∨ env.kindOf x = some .free) ∧ ∃ c, env.cells.lookup x = some c ∧ h.IsCell c (some u))
structure Cx.Ok (X : Cx) : Prop where
  mod : Mod X.K X.mg X.base
  kind : X.env.scope.kind = .function
  glob : X.env.globals = mainGlobals
  blt : X.env.builtins = builtinsNs
  above : X.s₀.heap.objs.size ≤ X.env.locals
  inj : ∀ x y c, X.env.cells.lookup x = some c → X.env.cells.lookup y = some c → x = y
  has : ∀ x, (X.env.kindOf x = some .cell ∨ X.env.kindOf x = some .free) → ∃ c, X.env.cells.lookup x = some c
  cab : ∀ x c, X.fn x = true → X.env.cells.lookup x = some c → X.s₀.heap.objs.size ≤ c
  hd : X.calm = true → X.A.handled = none
  frames : X.A.frames = some X.stack
  stk : X.stack = X.outer ∨ (X.stack = X.env :: X.outer ∧ X.env.frame = some X.env.locals)
  exf : ∀ b ∈ X.ex, b ≠ X.env.locals ∧ ∀ x c, X.env.cells.lookup x = some c → c ≠ b
  bs : ∀ b o, X.base.get? b = some o → X.s₀.heap.get? b = some o ∧ X.H₀ b = none
  bsz : X.base.objs.size ≤ X.s₀.heap.objs.size
  noex : ∀ b o, X.base.get? b = some o → b ∉ X.ex
  exfs : ∀ b ∈ X.ex, b ∉ X.fs
  funs : X.s₀.heap.FunFrames X.base X.outer
  frf : ∀ b ∈ X.fs, X.H₀ b = none
structure Inv (X : Cx) (pins : List (Addr × Obj)) (σ : List (Option V)) (H : Hp) (s : Shared) : Prop where
  ok : X.Ok
  os : s.os = X.s₀.os
  bare : AllBare s.gens
  base : Un X.fs X.ex X.H₀ H X.s₀.heap s.heap
  loc : ∃ m, s.heap.Ns X.env.locals m ∧ ∀ (i : Nat) (x : Str) (v : V), X.N[i]? = some x → σ[i]? = some (some v) → Vis X.env.scope x → ∃ u, RelV v u ∧ Look X.env s.heap m x u
  cell : ∀ x c, X.env.cells.lookup x = some c → ∃ v, s.heap.IsCell c v
  free : H X.env.locals = none
  freeC : ∀ x c, X.env.cells.lookup x = some c → H c = none
  pin : ∀ p ∈ X.pn ++ pins, s.heap.get? p.1 = some p.2 ∧ H p.1 = none ∧ p.1 ≠ X.env.locals ∧ p.1 ∉ X.fs ∧ ∀ v, p.2.data ≠ .cell v
  hok : HOk X.prog X.w H s.heap
  len : σ.length = X.N.length
section
variable {X : Cx} {pins : List (Addr × Obj)} {σ : List (Option V)} {H H' : Hp} {s : Shared} {h' : Heap}
theorem Cx.Ok.nofr (ok : X.Ok) {b : Addr} {o : Obj} (e : X.base.get? b = some o) : b ∉ X.fs := fun hb => by
  have := (ok.funs.mem hb).1
  rw [e] at this; cases this
theorem Inv.bs (I : Inv X pins σ H s) : ∀ b o, X.base.get? b = some o → s.heap.get? b = some o ∧ H b = none := fun b o e =>
  ⟨I.base.keep b o (I.ok.bs b o e).1 (I.ok.bs b o e).2 (I.ok.nofr e) (I.ok.noex b o e), I.base.free b o (I.ok.bs b o e).1 (I.ok.bs b o e).2 (I.ok.noex b o e)⟩
theorem Inv.bk (I : Inv X pins σ H s) : ∀ b o, X.base.get? b = some o → s.heap.get? b = some o := fun b o e => (I.bs b o e).1
theorem Inv.mod (I : Inv X pins σ H s) : Mod X.K X.mg X.base := I.ok.mod
theorem Inv.kIn (I : Inv X pins σ H s) : X.K.In s.heap := I.ok.mod.kin.keeps I.bk
theorem Inv.nolimit (I : Inv X pins σ H s) : s.heap.NoLimit := I.ok.mod.nolimit.keeps I.bk
theorem Inv.fr (I : Inv X pins σ H s) : ∃ m, Fr X.base X.env.locals s.heap m :=
  let ⟨m, hn, _⟩ := I.loc
  ⟨m, hn, I.bk, Nat.le_trans I.ok.bsz I.ok.above⟩
theorem Inv.lt (I : Inv X pins σ H s) : X.env.locals < s.heap.objs.size := let ⟨_, hn, _⟩ := I.loc; hn.lt
theorem Inv.sz (I : Inv X pins σ H s) : X.s₀.heap.objs.size ≤ s.heap.objs.size := Nat.le_trans I.ok.above (Nat.le_of_lt I.lt)
theorem Inv.nofs (I : Inv X pins σ H s) {a : Addr} (h : s.heap.objs.size ≤ a) : a ∉ X.fs := fun hb => by
  obtain ⟨_, o, ho, _⟩ := I.ok.funs.mem hb
  exact absurd (Nat.lt_of_lt_of_le (Heap.lt_size ho) (Nat.le_trans I.sz h)) (Nat.lt_irrefl _)
theorem Inv.cne (I : Inv X pins σ H s) : ∀ x c, X.env.cells.lookup x = some c → c ≠ X.env.locals := fun x c e z => by
  obtain ⟨v, o, ho, hd⟩ := I.cell x c e
  obtain ⟨m, ⟨o', es, ep, ho', hd', _⟩, _⟩ := I.loc
  rw [z, ho'] at ho; cases ho; rw [hd'] at hd; cases hd
theorem Inv.funs (I : Inv X pins σ H s) : s.heap.FunFrames X.base X.outer := by
  have all : ∀ (l : List Env), (∀ b ∈ frs l, b ∈ X.fs) → X.s₀.heap.FunFrames X.base l → s.heap.FunFrames X.base l := by
    intro l
    induction l with
    | nil => intro _ _; trivial
    | cons env r ih =>
      intro hs hl
      obtain ⟨hk, ⟨L, o, hf, hn, ho, hd⟩, hr⟩ := hl
      have hL : L ∈ X.fs := hs L (by unfold frs; rw [List.filterMap_cons, hf]; exact List.mem_cons_self)
      obtain ⟨sl, e⟩ := I.base.slot L o ho (I.ok.frf L hL) hL fun z => I.ok.exfs L z hL
      exact ⟨hk, ⟨L, _, hf, hn, e, hd⟩, ih (fun b hb => hs b (by unfold frs; rw [List.filterMap_cons, hf]; exact List.mem_cons_of_mem _ hb)) hr⟩
  exact all X.outer (fun _ hb => hb) I.ok.funs
theorem Inv.stack (I : Inv X pins σ H s) : s.heap.FunFrames X.base X.stack := by
  rcases I.ok.stk with e | ⟨e, hf⟩
  · rw [e]; exact I.funs
  · rw [e]
    obtain ⟨m, hn, _⟩ := I.loc
    refine .cons (by rw [I.ok.kind]; decide) hf hn ?_ I.funs
    exact Heap.get?_none_of_le (Nat.le_trans I.ok.bsz I.ok.above)
theorem Inv.stkSub (I : Inv X pins σ H s) : ∀ b ∈ frs X.stack, b ∈ X.env.locals :: X.fs := fun b hb => by
  rcases I.ok.stk with e | ⟨e, hf⟩
  · rw [e] at hb; exact List.mem_cons_of_mem _ hb
  · rw [e] at hb
    unfold frs at hb
    rw [List.filterMap_cons, hf] at hb
    exact hb
theorem Inv.stkFree (I : Inv X pins σ H s) : ∀ b ∈ frs X.stack, H b = none := fun b hb => by
  rcases List.mem_cons.mp (I.stkSub b hb) with e | hb
  · rw [e]; exact I.free
  · obtain ⟨_, o, ho, _⟩ := I.ok.funs.mem hb
    exact I.base.free b o ho (I.ok.frf b hb) fun z => I.ok.exfs b z hb
theorem Inv.step {g' : Array GenState} {t' : Nat} {d' : Drawn} {ch : List Addr} (I : Inv X pins σ H s)
    (hch : ∀ b ∈ ch, (b ∈ X.ex ∨ X.s₀.heap.objs.size ≤ b) ∧ b ≠ X.env.locals ∧ (∀ x c, X.env.cells.lookup x = some c → c ≠ b) ∧ ∀ p ∈ X.pn ++ pins, p.1 ≠ b)
    (keep : ∀ b o, b ≠ X.env.locals → b ∉ X.fs → b ∉ ch → s.heap.get? b = some o → H b = none → h'.get? b = some o)
    (slot : ∀ b o, b ≠ X.env.locals → b ∈ X.fs → b ∉ ch → s.heap.get? b = some o → H b = none → ∃ sl, h'.get? b = some { o with slots := sl }) (free : ∀ b o, b ∉ ch → s.heap.get? b = some o → H b = none → H' b = none)
    (there : ∀ b o, b ∉ ch → s.heap.get? b = some o → ∃ o', h'.get? b = some o')
    (tups : ∀ b xs, H b = some (.tup xs) → H' b = some (.tup xs)) (frzs : ∀ b o u, H b = some (.frz o u) → H' b = some (.frz o u)) (tbls : ∀ b ps, H b = some (.tbl ps) → ∃ more, H' b = some (.tbl (ps ++ more)))
    (ns : ∀ m, s.heap.Ns X.env.locals m → h'.Ns X.env.locals m) (hok : HOk X.prog X.w H' h') (hg : AllBare g') :
    Inv X pins σ H' { s with heap := h', gens := g', drawn := d', toks := t' } := by
  have neL : ∀ b o, X.s₀.heap.get? b = some o → b ≠ X.env.locals := fun b o e => Nat.ne_of_lt (Nat.lt_of_lt_of_le (Heap.lt_size e) I.ok.above)
  have neC : ∀ b o, X.s₀.heap.get? b = some o → b ∉ X.ex → b ∉ ch := fun b o e hx hb => by
    rcases (hch b hb).1 with z | z
    · exact hx z
    · exact absurd (Nat.lt_of_lt_of_le (Heap.lt_size e) z) (Nat.lt_irrefl _)
  have cellK : ∀ x c, X.env.cells.lookup x = some c → ∀ v, s.heap.IsCell c v → h'.IsCell c v := fun x c e v ⟨o, ho, hd⟩ => by
    have nch : c ∉ ch := fun z => (hch c z).2.2.1 x c e rfl
    by_cases hc : c ∈ X.fs
    · obtain ⟨sl, q⟩ := slot c o (I.cne x c e) hc nch ho (I.freeC x c e)
      exact ⟨_, q, hd⟩
    · exact ⟨o, keep c o (I.cne x c e) hc nch ho (I.freeC x c e), hd⟩
  refine ⟨I.ok, I.os, hg, ⟨fun b o e n hb hx => ?_, fun b o e n hb hx => ?_, fun b o e n hx => ?_, fun b o e hx => ?_, fun b xs e => tups b xs (I.base.tups b xs e), fun b o xs e => frzs b o xs (I.base.frzs b o xs e), fun b ps e => ?_⟩, ?_, fun x c e => ?_, ?_, fun x c e => ?_, fun p hp => ?_, hok, I.len⟩
  · exact keep b o (neL b o e) hb (neC b o e hx) (I.base.keep b o e n hb hx) (I.base.free b o e n hx)
  · obtain ⟨sl, e1⟩ := I.base.slot b o e n hb hx
    obtain ⟨sl', e2⟩ := slot b _ (neL b o e) hb (neC b o e hx) e1 (I.base.free b o e n hx)
    exact ⟨sl', e2⟩
  · obtain ⟨o', e1⟩ := I.base.there b o e hx
    exact free b o' (neC b o e hx) e1 (I.base.free b o e n hx)
  · obtain ⟨o', e1⟩ := I.base.there b o e hx
    exact there b o' (neC b o e hx) e1
  · obtain ⟨m1, e1⟩ := I.base.tbls b ps e
    obtain ⟨m2, e2⟩ := tbls b _ e1
    exact ⟨m1 ++ m2, by rw [e2, Array.append_assoc]⟩
  · obtain ⟨m, hn, hl⟩ := I.loc
    refine ⟨m, ns m hn, fun i x v e1 e2 e3 => ?_⟩
    obtain ⟨u, r, l⟩ := hl i x v e1 e2 e3
    refine ⟨u, r, ?_⟩
    rcases l with l | ⟨k, c, e, z⟩
    · exact .inl l
    · exact .inr ⟨k, c, e, cellK x c e _ z⟩
  · obtain ⟨v, z⟩ := I.cell x c e
    exact ⟨v, cellK x c e v z⟩
  · obtain ⟨m, ⟨o, _, _, ho, _⟩, _⟩ := I.loc
    exact free _ o (fun z => (hch _ z).2.1 rfl) ho I.free
  · obtain ⟨v, o, ho, hd⟩ := I.cell x c e
    exact free c o (fun z => (hch c z).2.2.1 x c e rfl) ho (I.freeC x c e)
  · obtain ⟨e, n, ne, nf, d⟩ := I.pin p hp
    have nch : p.1 ∉ ch := fun z => (hch p.1 z).2.2.2 p hp rfl
    exact ⟨keep p.1 p.2 ne nf nch e n, free p.1 p.2 nch e n, ne, nf, d⟩
theorem Inv.un {t' : Nat} (I : Inv X pins σ H s) (u : Un X.fs [] H H' s.heap h') (hok : HOk X.prog X.w H' h') : Inv X pins σ H' { s with heap := h', toks := t' } := by
  obtain ⟨m, ⟨o, es, ep, ho, r⟩, _⟩ := id I.loc
  obtain ⟨sl, hL⟩ := u.any ho I.free (by simp)
  exact I.step (g' := s.gens) (d' := s.drawn) (ch := []) (fun _ z => nomatch z) (fun b o _ hb _ e n => u.keep b o e n hb (by simp)) (fun b o _ hb _ e n => u.slot b o e n hb (by simp)) (fun b o _ e n => u.free b o e n (by simp)) (fun b o _ e => u.there b o e (by simp)) u.tups u.frzs u.tbls (fun m' hm => by
    obtain ⟨o', es', ep', ho', r'⟩ := hm
    rw [ho] at ho'; cases ho'
    exact ⟨_, es', ep', hL, r'⟩) hok I.bare
theorem Inv.call {g' : Array GenState} {t' : Nat} {d' : Drawn} {ch : List Addr} (I : Inv X pins σ H s) (u : Un (frs X.stack) ch H H' s.heap h') (hok : HOk X.prog X.w H' h') (hg : AllBare g')
    (hch : ∀ b ∈ ch, (b ∈ X.ex ∨ X.s₀.heap.objs.size ≤ b) ∧ b ≠ X.env.locals ∧ (∀ x c, X.env.cells.lookup x = some c → c ≠ b) ∧ ∀ p ∈ X.pn ++ pins, p.1 ≠ b) :
    Inv X pins σ H' { s with heap := h', gens := g', drawn := d', toks := t' } := by
  obtain ⟨m, ⟨o, es, ep, ho, r⟩, _⟩ := id I.loc
  obtain ⟨sl, hL⟩ := u.any ho I.free fun z => (hch _ z).2.1 rfl
  exact I.step (ch := ch) hch (fun b o hL hb hc e n => u.keep b o e n (fun z => (List.mem_cons.mp (I.stkSub b z)).elim hL hb) hc) (fun b o _ _ hc e n => u.any e n hc) (fun b o hc e n => u.free b o e n hc) (fun b o hc e => u.there b o e hc) u.tups u.frzs u.tbls (fun m' hm => by
    obtain ⟨o', es', ep', ho', r'⟩ := hm
    rw [ho] at ho'; cases ho'
    exact ⟨_, es', ep', hL, r'⟩) hok hg
theorem Inv.turned {t' : Nat} {it : Addr} (I : Inv X pins σ H s) (k : ∀ b o, b ≠ it → s.heap.get? b = some o → h'.get? b = some o) (hn : H it = none) (hL : it ≠ X.env.locals)
    (h1 : it ∈ X.ex ∨ X.s₀.heap.objs.size ≤ it) (h2 : ∀ x c, X.env.cells.lookup x = some c → c ≠ it) (h3 : ∀ p ∈ X.pn ++ pins, p.1 ≠ it) : Inv X pins σ H { s with heap := h', toks := t' } := by
  have nit : ∀ b u, H b = some u → b ≠ it := fun b u e z => by rw [z, hn] at e; cases e
  refine I.step (g' := s.gens) (d' := s.drawn) (ch := [it]) (fun b hb => ?_) (fun b o _ _ hc e _ => k b o (fun z => hc (by simp [z])) e) (fun b o _ _ hc e _ => ⟨o.slots, k b o (fun z => hc (by simp [z])) e⟩) (fun _ _ _ _ n => n)
    (fun b o hc e => ⟨o, k b o (fun z => hc (by simp [z])) e⟩) (fun _ _ e => e) (fun _ _ _ e => e) (fun b ps e => ⟨#[], by rw [e]; simp⟩) (fun m hm => ?_) (fun b u e => ?_) I.bare
  · have e : b = it := by simpa using hb
    subst e
    exact ⟨h1, hL, h2, h3⟩
  · obtain ⟨o, es, ep, ho, r⟩ := hm
    exact ⟨o, es, ep, k _ o (Ne.symm hL) ho, r⟩
  · refine (I.hok b u e).stay (fun c v hc q => k c v ?_ q) (fun _ q => q) fun _ _ q => q
    rcases hc with z | z
    · rw [z]; exact nit b u e
    · exact nit c _ z
theorem Inv.tok (I : Inv X pins σ H s) (t : Nat) : Inv X pins σ H { s with toks := t } := I.un (h' := s.heap) (t' := t) Un.refl I.hok
theorem Inv.kept {t' : Nat} (I : Inv X pins σ H s) (k : ∀ b u, s.heap.get? b = some u → h'.get? b = some u) : Inv X pins σ H { s with heap := h', toks := t' } := I.un (Un.kept k) (I.hok.kept k)
theorem Inv.laid {a : Addr} {o : HO} {t' : Nat} (I : Inv X pins σ H s) (k : ∀ b u, s.heap.get? b = some u → h'.get? b = some u) (hp : s.heap.objs.size ≤ a) (new : ObjOk X.prog X.w (upd H a o) h' a o) :
    Inv X pins σ (upd H a o) { s with heap := h', toks := t' } := I.un (Un.laid k hp (I.hok.fresh hp)) (I.hok.laid k hp new)
theorem Inv.write {x e : Addr} {o : HO} {t' : Nat} (I : Inv X pins σ H s) (mu : Mut (H x)) (he : e = x ∨ H e = some (.own x)) (k : ∀ b u, b ≠ e → s.heap.get? b = some u → h'.get? b = some u) (heo : ∃ u, h'.get? e = some u)
    (new : ObjOk X.prog X.w (upd H x o) h' x o) : Inv X pins σ (upd H x o) { s with heap := h', toks := t' } := I.un (Un.write mu he k heo) (I.hok.write mu he k heo new)
theorem Inv.weak {σ' : List (Option V)} (I : Inv X pins σ H s) (hl : σ'.length = σ.length) (w : ∀ (i : Nat) v, σ'[i]? = some (some v) → σ[i]? = some (some v)) : Inv X pins σ' H s :=
  ⟨I.ok, I.os, I.bare, I.base, let ⟨m, hn, hl'⟩ := I.loc; ⟨m, hn, fun i x v e1 e2 e3 => hl' i x v e1 (w i v e2) e3⟩, I.cell, I.free, I.freeC, I.pin, I.hok, hl.trans I.len⟩
theorem Inv.pins_of {pins' : List (Addr × Obj)} (I : Inv X pins σ H s) (h : ∀ p ∈ pins', s.heap.get? p.1 = some p.2 ∧ H p.1 = none ∧ p.1 ≠ X.env.locals ∧ p.1 ∉ X.fs ∧ ∀ v, p.2.data ≠ .cell v) : Inv X pins' σ H s :=
  ⟨I.ok, I.os, I.bare, I.base, I.loc, I.cell, I.free, I.freeC, fun p hp => (List.mem_append.mp hp).elim (fun z => I.pin p (List.mem_append_left _ z)) (h p), I.hok, I.len⟩
theorem nodup_ix {N : List Str} (hN : N.Nodup) {i j : Nat} {x : Str} (a : N[i]? = some x) (b : N[j]? = some x) : i = j := by
  obtain ⟨h1, e1⟩ := List.getElem?_eq_some_iff.mp a
  obtain ⟨h2, e2⟩ := List.getElem?_eq_some_iff.mp b
  exact (List.getElem_inj hN).mp (e1.trans e2.symm)
theorem store_ok2 {M : Model} {A : Around} {E : Value → Shared → Prop} {i : Nat} {x : Str} {v : V} {u : Value} {Q : Unit → Shared → Prop} (I : Inv X pins σ H s) (hN : X.N.Nodup) (hi : X.N[i]? = some x) (hx : Loc X.env.scope x) (r : RelV v u)
    (h : ∀ s', Inv X pins (σ.set i (some v)) H s' → (∃ a, Heap.SameBut a s.heap s'.heap ∧ (a = X.env.locals ∨ X.env.cells.lookup x = some a)) → Q () s') (hf : X.fn x = true ∨ X.env.scope.names.lookup x = some .local := by first | exact .inl rfl | exact .inr rfl | assumption) : wpAny M A (storeName X.env x u) Q E s := by
  obtain ⟨m, hn, hl⟩ := id I.loc
  have hcls : (X.env.scope.kind == .class || (X.env.scope.kind == .module && X.env.locals != X.env.globals)) = false := by rw [I.ok.kind]; rfl
  have hiσ : i < σ.length := by rw [I.len]; exact (List.getElem?_eq_some_iff.mp hi).1
  have cne := I.cne
  have tracked : ∀ {a : Addr} {h' : Heap}, (∃ o, s.heap.get? a = some o ∧ H a = none) → Heap.SameBut a s.heap h' → HOk X.prog X.w H h' := fun {a h'} ha hs b ob e => by
    obtain ⟨_, _, hfree⟩ := ha
    refine (I.hok b ob e).stay (fun c w' hc q => (hs.2 c ?_).trans q) (fun _ q => q) fun _ _ q => q
    rintro rfl
    rcases hc with rfl | hc
    · rw [hfree] at e; cases e
    · rw [hfree] at hc; cases hc
  rcases hx with hk | hk
  · refine wpAny_storeName_local hk hn (fun h' hn' hs => ?_) hcls
    obtain ⟨oL, _, _, hoL, _⟩ := id hn
    refine h _ ⟨I.ok, I.os, I.bare, ⟨fun b o e n hb hx => ?_, fun b o e n hb hx => ?_, I.base.free, fun b o e hx => ?_, I.base.tups, I.base.frzs, I.base.tbls⟩, ⟨_, hn', fun j y v' e1 e2 e3 => ?_⟩, fun y c e => ?_, I.free, I.freeC, fun p hp => ?_, tracked ⟨oL, hoL, I.free⟩ hs, by simpa using I.len⟩ ⟨_, hs, .inl rfl⟩
    · exact (hs.2 b (Nat.ne_of_lt (Nat.lt_of_lt_of_le (Heap.lt_size e) I.ok.above))).trans (I.base.keep b o e n hb hx)
    · obtain ⟨sl, e1⟩ := I.base.slot b o e n hb hx
      exact ⟨sl, (hs.2 b (Nat.ne_of_lt (Nat.lt_of_lt_of_le (Heap.lt_size e) I.ok.above))).trans e1⟩
    · obtain ⟨o', e1⟩ := I.base.there b o e hx
      exact ⟨o', (hs.2 b (Nat.ne_of_lt (Nat.lt_of_lt_of_le (Heap.lt_size e) I.ok.above))).trans e1⟩
    · by_cases hj : j = i
      · subst hj
        rw [hi] at e1; cases e1
        rw [List.getElem?_set_self hiσ] at e2
        cases e2
        exact ⟨u, r, .inl ⟨hk, by simp⟩⟩
      · rw [List.getElem?_set_ne (Ne.symm hj)] at e2
        obtain ⟨u', r', q⟩ := hl j y v' e1 e2 e3
        refine ⟨u', r', ?_⟩
        rcases q with ⟨k, e⟩ | ⟨k, c, e, z⟩
        · refine .inl ⟨k, ?_⟩
          have : y ≠ x := fun e => hj (nodup_ix hN e1 (e ▸ hi))
          simp [this, e]
        · exact .inr ⟨k, c, e, z.sameBut hs (cne y c e)⟩
    · obtain ⟨w', z⟩ := I.cell y c e
      exact ⟨w', z.sameBut hs (cne y c e)⟩
    · obtain ⟨e, n, ne, nf, d⟩ := I.pin p hp
      exact ⟨(hs.2 p.1 ne).trans e, n, ne, nf, d⟩
  · have hfn : X.fn x = true := by
      rcases hf with z | z
      · exact z
      · rw [z] at hk; cases hk
    obtain ⟨c, hc⟩ := I.ok.has x (.inl hk)
    obtain ⟨w', z⟩ := I.cell x c hc
    refine wpAny_storeName_cell I.ok.kind hk hc z (fun h' hc' hs => ?_)
    obtain ⟨oc, hoc, hocd⟩ := id z
    refine h { s with heap := h' } ⟨I.ok, I.os, I.bare, ⟨fun b o e n hb hx => ?_, fun b o e n hb hx => ?_, I.base.free, fun b o e hx => ?_, I.base.tups, I.base.frzs, I.base.tbls⟩, ⟨m, hn.sameBut hs (Ne.symm (cne x c hc)), fun j y v' e1 e2 e3 => ?_⟩, fun y c' e => ?_, I.free, I.freeC, fun p hp => ?_, tracked ⟨oc, hoc, I.freeC x c hc⟩ hs, by simpa using I.len⟩ ⟨c, hs, .inr hc⟩
    · exact (hs.2 b (Nat.ne_of_lt (Nat.lt_of_lt_of_le (Heap.lt_size e) (I.ok.cab x c hfn hc)))).trans (I.base.keep b o e n hb hx)
    · obtain ⟨sl, e1⟩ := I.base.slot b o e n hb hx
      exact ⟨sl, (hs.2 b (Nat.ne_of_lt (Nat.lt_of_lt_of_le (Heap.lt_size e) (I.ok.cab x c hfn hc)))).trans e1⟩
    · obtain ⟨o', e1⟩ := I.base.there b o e hx
      exact ⟨o', (hs.2 b (Nat.ne_of_lt (Nat.lt_of_lt_of_le (Heap.lt_size e) (I.ok.cab x c hfn hc)))).trans e1⟩
    · by_cases hj : j = i
      · subst hj
        rw [hi] at e1; cases e1
        rw [List.getElem?_set_self hiσ] at e2
        cases e2
        exact ⟨u, r, .inr ⟨.inl hk, c, hc, hc'⟩⟩
      · rw [List.getElem?_set_ne (Ne.symm hj)] at e2
        obtain ⟨u', r', q⟩ := hl j y v' e1 e2 e3
        refine ⟨u', r', ?_⟩
        rcases q with q | ⟨k, c', e, z'⟩
        · exact .inl q
        · refine .inr ⟨k, c', e, z'.sameBut hs ?_⟩
          rintro rfl
          exact hj (nodup_ix hN e1 (I.ok.inj _ _ _ e hc ▸ hi))
    · by_cases hcc : c' = c
      · subst hcc; exact ⟨_, hc'⟩
      · obtain ⟨w2, z2⟩ := I.cell y c' e
        exact ⟨w2, z2.sameBut hs hcc⟩
    · obtain ⟨e, n, ne, nf, d⟩ := I.pin p hp
      refine ⟨(hs.2 p.1 ?_).trans e, n, ne, nf, d⟩
      intro q
      rw [q, hoc] at e
      have q' : oc = p.2 := Option.some.inj e
      exact d w' (by rw [← q']; exact hocd)
theorem store_ok {M : Model} {A : Around} {E : Value → Shared → Prop} {i : Nat} {x : Str} {v : V} {u : Value} {Q : Unit → Shared → Prop} (I : Inv X pins σ H s) (hN : X.N.Nodup) (hi : X.N[i]? = some x) (hx : Loc X.env.scope x) (r : RelV v u)
    (h : ∀ s', Inv X pins (σ.set i (some v)) H s' → Q () s') (hf : X.fn x = true ∨ X.env.scope.names.lookup x = some .local := by first | exact .inl rfl | exact .inr rfl | assumption) : wpAny M A (storeName X.env x u) Q E s :=
  store_ok2 I hN hi hx r (fun s' I' _ => h s' I') hf
theorem Inv.call' {s' : Shared} {ch : List Addr} (I : Inv X pins σ H s) (ho : s'.os = s.os) (u : Un (frs X.stack) ch H H' s.heap s'.heap) (hok : HOk X.prog X.w H' s'.heap) (hg : AllBare s'.gens)
    (hch : ∀ b ∈ ch, (b ∈ X.ex ∨ X.s₀.heap.objs.size ≤ b) ∧ b ≠ X.env.locals ∧ (∀ x c, X.env.cells.lookup x = some c → c ≠ b) ∧ ∀ p ∈ X.pn ++ pins, p.1 ≠ b) : Inv X pins σ H' s' := by
  obtain ⟨h', g', d', t', o'⟩ := s'
  have e : o' = s.os := ho
  subst e
  exact I.call (g' := g') (t' := t') (d' := d') u hok hg hch
end
abbrev XK := Value → Option Addr → Hp → Prop
abbrev St := List (Option V)
abbrev VK := V → Hp → Prop
abbrev TE := St → Hp → VK → Prop
abbrev TT := St → Hp → (Bool → Hp → Prop) → Prop
abbrev TA := St → Hp → (List V → Hp → Prop) → Prop
structure Ends where
  nx : St → Hp → Prop
  rt : VK
  bk : St → Hp → Prop := fun _ _ => False
  ct : St → Hp → Prop := fun _ _ => False
abbrev TS := Ends → St → Hp → Prop
noncomputable def EP (X : Cx) (pins : List (Addr × Obj)) (σ : St) (Q : VK) (u : Value) (s' : Shared) : Prop := ∃ v H', Inv X pins σ H' s' ∧ RelV v u ∧ Q v H'
noncomputable def TP (X : Cx) (pins : List (Addr × Obj)) (σ : St) (Q : Bool → Hp → Prop) (b : Bool) (s' : Shared) : Prop := ∃ H', Inv X pins σ H' s' ∧ Q b H'
noncomputable def AP (X : Cx) (pins : List (Addr × Obj)) (σ : St) (Q : List V → Hp → Prop) (us : List Value) (s' : Shared) : Prop := ∃ vs H', Inv X pins σ H' s' ∧ Vals vs us ∧ Q vs H'
noncomputable def SP (X : Cx) (pins : List (Addr × Obj)) (D : Ends) (f : Flow) (s' : Shared) : Prop :=
  match f with
  | .next => ∃ σ' H', Inv X pins σ' H' s' ∧ D.nx σ' H'
  | .brk => ∃ σ' H', Inv X pins σ' H' s' ∧ D.bk σ' H'
  | .cont => ∃ σ' H', Inv X pins σ' H' s' ∧ D.ct σ' H'
  | .ret u => ∃ v σ' H', Inv X pins σ' H' s' ∧ RelV v u ∧ D.rt v H'
noncomputable def PE (X : Cx) (e : Expr) (t : TE) : Prop :=
  ∀ (pins : List (Addr × Obj)) (s : Shared) (σ : St) (H : Hp) (Q : VK), Inv X pins σ H s → t σ H Q → wpAny (model X.prog X.w) X.A (eval e X.env) (EP X pins σ Q) X.xe s
noncomputable def PT (X : Cx) (e : Expr) (t : TT) : Prop :=
  ∀ (pins : List (Addr × Obj)) (s : Shared) (σ : St) (H : Hp) (Q : Bool → Hp → Prop), Inv X pins σ H s → t σ H Q → wpAny (model X.prog X.w) X.A (isTrue e X.env (eval e X.env)) (TP X pins σ Q) X.xe s
noncomputable def PW (X : Cx) (e : Expr) (t : TT) : Prop :=
  ∀ (whole : Sem Value) (pins : List (Addr × Obj)) (s : Shared) (σ : St) (H : Hp) (Q : Bool → Hp → Prop), Inv X pins σ H s → t σ H Q → wpAny (model X.prog X.w) X.A (isTrue e X.env whole) (TP X pins σ Q) X.xe s
theorem PW.pt {X : Cx} {e : Expr} {t : TT} (h : PW X e t) : PT X e t := h _
noncomputable def PA (X : Cx) (es : List Expr) (t : TA) : Prop :=
  ∀ (pos : Pos) (pins : List (Addr × Obj)) (s : Shared) (σ : St) (H : Hp) (Q : List V → Hp → Prop), Inv X pins σ H s → t σ H Q → wpAny (model X.prog X.w) X.A (spliced (backTo pos (starEach es X.env))) (AP X pins σ Q) X.xe s
noncomputable def PS (X : Cx) (st : Stmt) (t : TS) : Prop :=
  ∀ (pins : List (Addr × Obj)) (s : Shared) (σ : St) (H : Hp) (D : Ends), Inv X pins σ H s → t D σ H → wpAny (model X.prog X.w) X.A (exec st X.env) (SP X pins D) X.xe s
noncomputable def PSs (X : Cx) (st : List Stmt) (t : TS) : Prop :=
  ∀ (pins : List (Addr × Obj)) (s : Shared) (σ : St) (H : Hp) (D : Ends), Inv X pins σ H s → t D σ H → wpAny (model X.prog X.w) X.A (execs st X.env) (SP X pins D) X.xe s
theorem thn {α : Type} {t : Sem α} {Q Q' : α → Shared → Prop} {M : Model} {A : Around} {E : Value → Shared → Prop} {s : Shared} (h : wpAny M A t Q E s) (hQ : ∀ a s, Q a s → Q' a s) : wpAny M A t Q' E s := wpAny_mono h hQ fun _ _ x => x
end L2
namespace L2
open PySem PySem.Spec PyProof.Rows
section
variable {X : Cx}
noncomputable def tVar (i : Nat) : TE := fun σ H Q => ∃ v, σ[i]? = some (some v) ∧ Q v H
noncomputable def tC (v : V) : TE := fun _ H Q => Q v H
theorem pe_var {i : Nat} {x : Str} {pos : Pos} (hN : X.N[i]? = some x) (hv : Vis X.env.scope x) (hd : (x == ("__debug__" : Str)) = false := by decide) (hcd : (x == ("__classdict__" : Str)) = false := by decide) : PE X (.Name x pos) (tVar i) := by
  intro pins s σ H Q I h
  obtain ⟨v, e, h⟩ := h
  obtain ⟨m, hn, hl⟩ := I.loc
  obtain ⟨u, r, l⟩ := hl i x v hN e hv
  have fin : EP X pins σ Q u s := ⟨v, H, I, r, h⟩
  rcases l with ⟨hk, hm⟩ | ⟨hk, c, hc, hcell⟩
  · exact wpAny_Name (wpAny_loadName_local I.ok.kind hk hn hm fin) hd
  · rcases hk with hk | hk
    · exact wpAny_Name (wpAny_loadName_cell I.ok.kind hk hc hcell fin) hd
    · exact wpAny_Name (wpAny_loadName_free I.ok.kind hk hc hcell fin hcd) hd
theorem pe_int {i j pos} : PE X (.Constant (.int i) j pos) (tC (.int i)) := fun _ _ _ H _ I h => wpAny_Constant_int ⟨.int i, H, I.tok _, ⟨_, rfl⟩, h⟩
theorem pe_bl {b j pos} : PE X (.Constant (.bool b) j pos) (tC (.bl b)) := fun _ _ _ H _ I h => Constant_bool ⟨.bl b, H, I, rfl, h⟩
theorem pe_non {j pos} : PE X (.Constant .none j pos) (tC .non) := fun _ _ _ H _ I h => Constant_none ⟨.non, H, I, rfl, h⟩
theorem pe_str {x j pos} : PE X (.Constant (.str x) j pos) (tC (.str x)) := fun _ _ _ H _ I h => Calls.Constant_str ⟨.str x, H, I.tok _, ⟨_, rfl⟩, h⟩
noncomputable def Gl (X : Cx) (x : Str) : Prop := X.env.kindOf x = some .globalImplicit
theorem ld_glob {E : Value → Shared → Prop} {pins : List (Addr × Obj)} {s : Shared} {σ : St} {H : Hp} {x : Str} {u : Value} {pos : Pos} {Q : Value → Shared → Prop} (I : Inv X pins σ H s) (hg : Gl X x) (hm : X.mg x = some u) (h : Q u s)
    (hd : (x == ("__debug__" : Str)) = false := by decide) : wpAny (model X.prog X.w) X.A (eval (.Name x pos) X.env) Q E s :=
  Calls.Name_function_global I.ok.kind hg (Calls.loadGlobal_global (by rw [I.ok.glob]; exact I.mod.glob.keeps I.bk) hm h) hd
theorem ld_blt {E : Value → Shared → Prop} {pins : List (Addr × Obj)} {s : Shared} {σ : St} {H : Hp} {x : Str} {u : Value} {pos : Pos} {Q : Value → Shared → Prop} (I : Inv X pins σ H s) (hg : Gl X x) (hm : X.mg x = none) (hv : bootBuiltins x = some u) (h : Q u s)
    (hn : x ≠ "__name__" := by decide) (hd : (x == ("__debug__" : Str)) = false := by decide) : wpAny (model X.prog X.w) X.A (eval (.Name x pos) X.env) Q E s := by
  obtain ⟨mb, h1, h2⟩ := I.mod.blt
  exact Calls.Name_function_global I.ok.kind hg (Calls.loadGlobal_builtin (by rw [I.ok.glob]; exact I.mod.glob.keeps I.bk) hm (by rw [I.ok.blt]; exact h1.keeps I.bk) ((h2 x hn).trans hv) h) hd
theorem pe_glob {x : Str} {v : V} {u : Value} {pos : Pos} (hg : Gl X x) (hm : X.mg x = some u) (r : RelV v u) (hd : (x == ("__debug__" : Str)) = false := by decide) : PE X (.Name x pos) (tC v) :=
  fun _ _ _ H _ I h => ld_glob I hg hm ⟨v, H, I, r, h⟩ hd
theorem pe_bltn {x : Str} {v : V} {u : Value} {pos : Pos} (hg : Gl X x) (hm : X.mg x = none) (hv : bootBuiltins x = some u) (r : RelV v u) (hn : x ≠ "__name__" := by decide) (hd : (x == ("__debug__" : Str)) = false := by decide) : PE X (.Name x pos) (tC v) :=
  fun _ _ _ H _ I h => ld_blt I hg hm hv ⟨v, H, I, r, h⟩ hn hd
variable {a b : Expr} {ta tb : TE} {pos : Pos}
noncomputable def tB (t : TE) : TT := fun σ H Q => t σ H fun x H1 => ∃ c, x = .bl c ∧ Q c H1
theorem pt_val {e : Expr} {t : TE} (h : PE X e t) (he : ∀ whole, isTrue e X.env whole = (do let v ← whole; standAt e.pos; holding [v] (truthy v)) := by intro _; rfl) : PT X e (tB t) := by
  intro pins s σ H Q I hw
  refine isTrue_plain (thn (h pins s σ H _ I hw) fun v s1 ⟨x, H1, I1, r1, q1⟩ => ?_) (he _)
  obtain ⟨d, rfl, q⟩ := q1
  cases r1
  exact wpAny_truthy_bool ⟨H1, I1, q⟩
variable {tA tB' : TT} {rest : List Expr}
noncomputable def tAnd (t u : TT) : TT := fun σ H Q => t σ H fun c H1 => if c = true then u σ H1 Q else Q false H1
noncomputable def tOr (t u : TT) : TT := fun σ H Q => t σ H fun c H1 => if c = true then Q true H1 else u σ H1 Q
noncomputable def tNot (t : TT) : TT := fun σ H Q => t σ H fun c H1 => Q (!c) H1
theorem pw_and1 (ha : PT X a tA) : PW X (.BoolOp .And [a] pos) tA := by
  intro wh pins s σ H Q I h
  refine isTrue_and (thn (ha pins s σ H Q I h) fun c s1 e => ?_)
  cases c with
  | true => exact isTrue_and_nil e
  | false => exact e
theorem pw_or1 (ha : PT X a tA) : PW X (.BoolOp .Or [a] pos) tA := by
  intro wh pins s σ H Q I h
  refine isTrue_or (thn (ha pins s σ H Q I h) fun c s1 e => ?_)
  cases c with
  | false => exact isTrue_or_nil e
  | true => exact e
theorem pw_and (ha : PT X a tA) (hb : PW X (.BoolOp .And (b :: rest) pos) tB') : PW X (.BoolOp .And (a :: b :: rest) pos) (tAnd tA tB') := by
  intro wh pins s σ H Q I h
  refine isTrue_and (thn (ha pins s σ H _ I h) fun c s1 ⟨H1, I1, q1⟩ => ?_)
  cases c with
  | true => exact hb wh pins s1 σ H1 Q I1 q1
  | false => exact ⟨H1, I1, q1⟩
theorem pw_or (ha : PT X a tA) (hb : PW X (.BoolOp .Or (b :: rest) pos) tB') : PW X (.BoolOp .Or (a :: b :: rest) pos) (tOr tA tB') := by
  intro wh pins s σ H Q I h
  refine isTrue_or (thn (ha pins s σ H _ I h) fun c s1 ⟨H1, I1, q1⟩ => ?_)
  cases c with
  | true => exact ⟨H1, I1, q1⟩
  | false => exact hb wh pins s1 σ H1 Q I1 q1
theorem pt_not (ha : PT X a tA) : PT X (.UnaryOp .Not a pos) (tNot tA) := by
  intro pins s σ H Q I h
  exact isTrue_not (ha pins s σ H (fun c H1 => Q (!c) H1) I h)
noncomputable def tIf (t : TT) (ta tb : TE) : TE := fun σ H Q => t σ H fun c H1 => if c = true then ta σ H1 Q else tb σ H1 Q
theorem pe_ifExp {c : Expr} (hc : PT X c tA) (ha : PE X a ta) (hb : PE X b tb) : PE X (.IfExp c a b pos) (tIf tA ta tb) := by
  intro pins s σ H Q I h
  refine wpAny_IfExp (thn (hc pins s σ H _ I h) fun d s1 ⟨H1, I1, q1⟩ => ?_)
  cases d with
  | true => exact ha pins s1 σ H1 Q I1 q1
  | false => exact hb pins s1 σ H1 Q I1 q1
end
end L2
namespace L2
open PySem PySem.Spec PyProof.Rows
noncomputable def SqL (K : PySem.W.Frag) (H : Hp) (a : Addr) (xs : List V) : Prop :=
  Rd H a (.lst xs) ∨
    ∃ (o : Obj) (its : Array Value) (n : Nat), K.lookup a = some o ∧ o.cls = .type "list" ∧ o.dict = none ∧ o.data = .seq its n ∧ its.size ≤ sizeLine ∧ Vals xs its.toList
noncomputable def SqT (K : PySem.W.Frag) (H : Hp) (a : Addr) (xs : List V) : Prop :=
  Rd H a (.tup xs) ∨
    ∃ (o : Obj) (its : Array Value) (n : Nat), K.lookup a = some o ∧ o.cls = .type "tuple" ∧ o.data = .seq its n ∧ its.size ≤ sizeLine ∧ Vals xs its.toList
noncomputable def absV : Value → Option V
  | .none => some .non
  | .bool b => some (.bl b)
  | .int i _ => some (.int i)
  | .str x _ => some (.str x)
  | .bytes b _ => some (.byt b)
  | .float b _ => some (.flt b)
  | .ref a => some (.ref a)
  | .type n => some (.ty n)
  | _ => none
theorem RelV.abs {x : V} {u : Value} (r : RelV x u) : absV u = some x := by
  cases x with
  | non => cases r; rfl
  | bl _ => cases r; rfl
  | int _ => obtain ⟨t, rfl⟩ := r; rfl
  | str _ => obtain ⟨t, rfl⟩ := r; rfl
  | byt _ => obtain ⟨t, rfl⟩ := r; rfl
  | flt _ => obtain ⟨t, rfl⟩ := r; rfl
  | ref _ => cases r; rfl
  | ty _ => cases r; rfl
theorem RelV.inj {x y : V} {u : Value} (r : RelV x u) (q : RelV y u) : x = y := Option.some.inj (r.abs.symm.trans q.abs)
theorem Vals.inj : ∀ {xs ys : List V} {us : List Value}, Vals xs us → Vals ys us → xs = ys
  | _, _, _, .nil, .nil => rfl
  | _, _, _, .cons r t, .cons r' t' => by rw [r.inj r', Vals.inj t t']
section
variable {X : Cx} {pins : List (Addr × Obj)} {σ : St} {H : Hp} {s : Shared} {a : Addr} {xs ys : List V}
theorem SqL.of {K : PySem.W.Frag} (h : H a = some (.lst xs)) : SqL K H a xs := .inl (.inl h)
theorem SqT.of {K : PySem.W.Frag} (h : H a = some (.tup xs)) : SqT K H a xs := .inl (.inl h)
theorem Inv.list (I : Inv X pins σ H s) (h : SqL X.K H a xs) : ∃ its : List Value, Vals xs its ∧ PlainL s.heap a its.toArray ∧ xs.length ≤ sizeLine := by
  rcases h with h | ⟨o, its, n, hk, hc, hd, hs, hz, r⟩
  · obtain ⟨z, its, n, r, e⟩ := h.ok I.hok
    exact ⟨its, r, ⟨_, n, e, rfl, rfl, rfl⟩, z⟩
  · refine ⟨its.toList, r, ⟨o, n, I.kIn a o hk, hc, hd, by simpa using hs⟩, ?_⟩
    have e := r.length
    simp only [Array.length_toList] at e
    omega
theorem Inv.tuple (I : Inv X pins σ H s) (h : SqT X.K H a xs) : ∃ its : List Value, Vals xs its ∧ IsTup s.heap a its.toArray ∧ xs.length ≤ sizeLine := by
  rcases h with h | ⟨o, its, n, hk, hc, hs, hz, r⟩
  · obtain ⟨z, its, r, p⟩ := h.ok I.hok
    exact ⟨its, r, p, z⟩
  · refine ⟨its.toList, r, ⟨o, I.kIn a o hk, hc, n, by simpa using hs⟩, ?_⟩
    have e := r.length
    simp only [Array.length_toList] at e
    omega
theorem Inv.list_inj (I : Inv X pins σ H s) (h : SqL X.K H a xs) (h' : SqL X.K H a ys) : xs = ys := by
  obtain ⟨its, r, ⟨o, n, e, _, _, d⟩, _⟩ := I.list h
  obtain ⟨its', r', ⟨o', n', e', _, _, d'⟩, _⟩ := I.list h'
  rw [e] at e'; cases e'
  rw [d] at d'
  injection d' with d1 _
  have : its = its' := by simpa using congrArg Array.toList d1
  subst this
  exact r.inj r'
end
abbrev Cx.wish (X : Cx) (E : Value → Shared → Prop) : Cx := { X with xe := E }
abbrev Cx.nox (X : Cx) : Cx := X.wish fun _ _ => False
theorem Cx.Ok.wish {X : Cx} (ok : X.Ok) (E : Value → Shared → Prop) : (X.wish E).Ok :=
  ⟨ok.mod, ok.kind, ok.glob, ok.blt, ok.above, ok.inj, ok.has, ok.cab, ok.hd, ok.frames, ok.stk, ok.exf, ok.bs, ok.bsz, ok.noex, ok.exfs, ok.funs, ok.frf⟩
theorem Cx.Ok.unwish {X : Cx} {E : Value → Shared → Prop} (ok : (X.wish E).Ok) : X.Ok :=
  ⟨ok.mod, ok.kind, ok.glob, ok.blt, ok.above, ok.inj, ok.has, ok.cab, ok.hd, ok.frames, ok.stk, ok.exf, ok.bs, ok.bsz, ok.noex, ok.exfs, ok.funs, ok.frf⟩
section
variable {X : Cx} {pins : List (Addr × Obj)} {σ : St} {H : Hp} {s : Shared} {E : Value → Shared → Prop}
theorem Inv.wish (I : Inv X pins σ H s) (E : Value → Shared → Prop) : Inv (X.wish E) pins σ H s := ⟨I.ok.wish E, I.os, I.bare, I.base, I.loc, I.cell, I.free, I.freeC, I.pin, I.hok, I.len⟩
theorem Inv.unwish (I : Inv (X.wish E) pins σ H s) : Inv X pins σ H s := ⟨I.ok.unwish, I.os, I.bare, I.base, I.loc, I.cell, I.free, I.freeC, I.pin, I.hok, I.len⟩
theorem SP.unwish {D : Ends} {f : Flow} {s' : Shared} (h : SP (X.wish E) pins D f s') : SP X pins D f s' := by
  cases f with
  | next => obtain ⟨σ', H', I, q⟩ := h; exact ⟨σ', H', I.unwish, q⟩
  | brk => obtain ⟨σ', H', I, q⟩ := h; exact ⟨σ', H', I.unwish, q⟩
  | cont => obtain ⟨σ', H', I, q⟩ := h; exact ⟨σ', H', I.unwish, q⟩
  | ret u => obtain ⟨v, σ', H', I, r, q⟩ := h; exact ⟨v, σ', H', I.unwish, r, q⟩
theorem PE.nox {e : Expr} {t : TE} (h : PE X.nox e t) : PE X e t := fun pins s σ H Q I hw =>
  wpAny_mono (h pins s σ H Q (I.wish _) hw) (fun _ _ ⟨v, H', I', r, q⟩ => ⟨v, H', I'.unwish, r, q⟩) fun _ _ z => False.elim z
theorem PT.nox {e : Expr} {t : TT} (h : PT X.nox e t) : PT X e t := fun pins s σ H Q I hw =>
  wpAny_mono (h pins s σ H Q (I.wish _) hw) (fun _ _ ⟨H', I', q⟩ => ⟨H', I'.unwish, q⟩) fun _ _ z => False.elim z
theorem PSs.nox {st : List Stmt} {t : TS} (h : PSs X.nox st t) : PSs X st t := fun pins s σ H D I hw =>
  wpAny_mono (h pins s σ H D (I.wish _) hw) (fun _ _ q => q.unwish) fun _ _ z => False.elim z
end
section
variable {X : Cx} {st : Stmt} {rest : List Stmt} {t u : TS} {e : Expr} {te : TE} {pos : Pos}
noncomputable def tNext : TS := fun D σ H => D.nx σ H
noncomputable def tSeq (t u : TS) : TS := fun D σ H => t { D with nx := u D } σ H
theorem pss_nil : PSs X [] tNext := fun _ _ σ H _ I h => wpAny_execs_nil ⟨σ, H, I, h⟩
theorem pss_cons (h1 : PS X st t) (h2 : PSs X rest u) : PSs X (st :: rest) (tSeq t u) := by
  intro pins s σ H D I h
  refine wpAny_execs_cons (thn (h1 pins s σ H { D with nx := u D } I h) fun f s1 q => ?_)
  cases f with
  | next =>
    obtain ⟨σ', H', I', q⟩ := q
    exact h2 pins s1 σ' H' D I' q
  | ret v => exact q
  | brk => exact q
  | cont => exact q
theorem pss_one (h1 : PS X st t) : PSs X [st] t := by
  intro pins s σ H D I h
  refine wpAny_execs_cons (thn (h1 pins s σ H D I h) fun f s1 q => ?_)
  cases f with
  | next => exact wpAny_execs_nil q
  | ret v => exact q
  | brk => exact q
  | cont => exact q
theorem Inv.quiet {pins : List (Addr × Obj)} {σ : St} {H : Hp} {s : Shared} (I : Inv X pins σ H s) : interactive X.env = false := by simp [interactive, I.ok.kind]
noncomputable def tDrop (te : TE) : TS := fun D σ H => te σ H fun _ H1 => D.nx σ H1
theorem ps_expr (he : PE X e te) (hs : swapsWith e none pos.line X.env = pure false := by rfl) : PS X (.Expr e pos) (tDrop te) := by
  intro pins s σ H D I h
  exact wpAny_Expr_any (thn (he pins s σ H _ I h) fun v s1 ⟨x, H1, I1, r1, q1⟩ => ⟨σ, H1, I1, q1⟩) I.quiet hs
noncomputable def tRet (te : TE) : TS := fun D σ H => te σ H D.rt
theorem ps_ret (he : PE X e te) : PS X (.Return (some e) pos) (tRet te) := by
  intro pins s σ H D I h
  exact wpAny_Return_some (thn (he pins s σ H _ I h) fun v s1 ⟨x, H1, I1, r1, q1⟩ => ⟨x, σ, H1, I1, r1, q1⟩)
noncomputable def tIfS (c : TT) (t u : TS) : TS := fun D σ H => c σ H fun b H1 => if b = true then t D σ H1 else u D σ H1
theorem ps_if {c : Expr} {a b : List Stmt} {tc : TT} (hc : PT X c tc) (ha : PSs X a t) (hb : PSs X b u) : PS X (.If c a b pos) (tIfS tc t u) := by
  intro pins s σ H D I h
  refine wpAny_If (thn (hc pins s σ H _ I h) fun d s1 ⟨H1, I1, q1⟩ => ?_)
  cases d with
  | true => exact ha pins s1 σ H1 D I1 q1
  | false => exact hb pins s1 σ H1 D I1 q1
end
abbrev TG := V → St → Hp → (St → Hp → Prop) → Prop
abbrev TGs := List V → St → Hp → (St → Hp → Prop) → Prop
noncomputable def PG (X : Cx) (target : Expr) (t : TG) : Prop :=
  ∀ (pins : List (Addr × Obj)) (s : Shared) (σ : St) (H : Hp) (v : V) (u : Value) (Q : St → Hp → Prop), Inv X pins σ H s → RelV v u → t v σ H Q →
    wpAny (model X.prog X.w) X.A (assign target X.env u) (fun _ s' => ∃ σ' H', Inv X pins σ' H' s' ∧ Q σ' H') X.xe s
noncomputable def PGs (X : Cx) (ts : List Expr) (t : TGs) : Prop :=
  ∀ (pins : List (Addr × Obj)) (s : Shared) (σ : St) (H : Hp) (vs : List V) (us : List Value) (Q : St → Hp → Prop), Inv X pins σ H s → Vals vs us → t vs σ H Q →
    wpAny (model X.prog X.w) X.A (assignInOrder ((assignEach ts X.env).map (·.2)) us) (fun _ s' => ∃ σ' H', Inv X pins σ' H' s' ∧ Q σ' H') X.xe s
abbrev TSet := V → V → V → Hp → (Hp → Prop) → Prop
noncomputable def PSet (X : Cx) (t : TSet) : Prop :=
  ∀ (pins : List (Addr × Obj)) (s : Shared) (σ : St) (H : Hp) (o i v : V) (ov iv u : Value) (Q : Hp → Prop), Inv X pins σ H s → RelV o ov → RelV i iv → RelV v u → t o i v H Q →
    wpAny (model X.prog X.w) X.A (setItem ov iv u) (fun _ s' => ∃ H', Inv X pins σ H' s' ∧ Q H') X.xe s
section
variable {X : Cx} {pos : Pos}
noncomputable def gName (i : Nat) : TG := fun v σ H Q => Q (σ.set i (some v)) H
theorem pg_name {i : Nat} {x : Str} (hN : X.N.Nodup) (hi : X.N[i]? = some x) (hx : Loc X.env.scope x) (hf : X.fn x = true ∨ X.env.scope.names.lookup x = some .local := by first | exact .inl rfl | exact .inr rfl | assumption) : PG X (.Name x pos) (gName i) := by
  intro pins s σ H v u Q I r h
  exact wpAny_assign_Name (store_ok I hN hi hx r (fun s' I' => ⟨_, H, I', h⟩) hf)
noncomputable def gNil : TGs := fun vs σ H Q => vs = [] ∧ Q σ H
noncomputable def gCons (t : TG) (u : TGs) : TGs := fun vs σ H Q => ∃ v r, vs = v :: r ∧ t v σ H fun σ' H' => u r σ' H' Q
theorem pgs_nil : PGs X [] gNil := by
  intro pins s σ H vs us Q I r h
  obtain ⟨e, h⟩ := h
  subst e
  cases r
  exact assignInOrder_nil ⟨σ, H, I, h⟩
theorem pgs_cons {e : Expr} {es : List Expr} {t : TG} {u : TGs} (h1 : PG X e t) (h2 : PGs X es u)
    (hs : (assignEach (e :: es) X.env).map (·.2) = assign e X.env :: (assignEach es X.env).map (·.2) := by rfl) : PGs X (e :: es) (gCons t u) := by
  intro pins s σ H vs us Q I r h
  obtain ⟨v, vr, e1, h⟩ := h
  subst e1
  cases r with
  | cons r rr =>
    rw [hs]
    refine assignInOrder_cons (thn (h1 pins s σ H _ _ _ I r h) fun _ s1 ⟨σ1, H1, I1, q1⟩ => ?_)
    exact h2 pins s1 σ1 H1 _ _ Q I1 rr q1
noncomputable def gTup (K : PySem.W.Frag) (n : Nat) (t : TGs) : TG := fun v σ H Q => ∃ a xs, v = .ref a ∧ SqT K H a xs ∧ xs.length = n ∧ t xs σ H Q
theorem pg_tup {es : List Expr} {k : Nat} {t : TGs} {n : Nat} (hc : X.calm = true) (h : PGs X es t)
    (hn : (assignEach es X.env).length = n := by rfl) (hst : (assignEach es X.env).findIdx? (·.1) = none := by rfl) : PG X (.Tuple es k pos) (gTup X.K n t) := by
  intro pins s σ H v u Q I r hw
  obtain ⟨a, xs, e1, hq, hl, hw⟩ := hw
  subst e1
  cases r
  obtain ⟨its, rv, ht, hz⟩ := I.tuple hq
  refine assign_Tuple_tuple (I.ok.hd hc) ht (by simp [hn, ← hl, rv.length]) hst fun h' hx => ?_
  have I1 : Inv X pins σ H { s with heap := h' } := I.kept (t' := s.toks) fun b o e => hx b o (Nat.ne_of_lt (Heap.lt_size e)) e
  exact h pins _ σ H xs _ Q I1 (by simpa using rv) hw
noncomputable def gSub (to ti : TE) (t : TSet) : TG := fun v σ H Q => to σ H fun o H1 => ti σ H1 fun i H2 => t o i v H2 fun H3 => Q σ H3
theorem pg_sub {o i : Expr} {to ti : TE} {t : TSet} (ho : PE X o to) (hi : PE X i ti) (hs : PSet X t)
    (ha : ∀ v, assign (.Subscript o i pos) X.env v = (do
      let ov ← holding [v] (eval o X.env)
      let iv ← holding [v, ov] (eval i X.env)
      standAt pos
      holding [v, ov, iv] (setItem ov iv v)
      release [v, ov, iv] []) := by intro _; rfl) : PG X (.Subscript o i pos) (gSub to ti t) := by
  intro pins s σ H v u Q I r h
  rw [ha]
  refine wpAny_bind (wpAny_holding (thn (ho pins s σ H _ I h) fun ov s1 ⟨x, H1, I1, r1, q1⟩ => ?_))
  refine wpAny_bind (wpAny_holding (thn (hi pins s1 σ H1 _ I1 q1) fun iv s2 ⟨y, H2, I2, r2, q2⟩ => ?_))
  refine wpAny_bind (wpAny_standAt (wpAny_bind (wpAny_holding (thn (hs pins s2 σ H2 x y v ov iv u _ I2 r1 r2 r q2) fun _ s3 ⟨H3, I3, q3⟩ => ?_))))
  exact wpAny_release ⟨σ, H3, I3, q3⟩
noncomputable def tAsg (te : TE) (g : TG) : TS := fun D σ H => te σ H fun x H1 => g x σ H1 D.nx
theorem ps_asg {tg e : Expr} {te : TE} {g : TG} (he : PE X e te) (hg : PG X tg g) (hs : swapsWithSole [tg] e pos.line X.env = pure false := by rfl) (hw : swappedStores [tg] e X.env = pure none := by rfl)
    (h1 : (assignEach [tg] X.env).map (·.2) = [assign tg X.env] := by rfl) : PS X (.Assign [tg] e pos) (tAsg te g) := by
  intro pins s σ H D I h
  refine wpAny_Assign_stores (thn (he pins s σ H _ I h) fun v s1 ⟨x, H1, I1, r1, q1⟩ => ?_) hs hw
  rw [h1]
  exact thn (hg pins s1 σ H1 x v _ I1 r1 q1) fun _ s2 q => q
theorem ps_set {i : Nat} {x : Str} {e : Expr} {te : TE} {pos' : Pos} (hN : X.N.Nodup) (hi : X.N[i]? = some x) (hx : Loc X.env.scope x) (he : PE X e te) (hs : swapsWith e (some (.Name x pos')) pos.line X.env = pure false := by rfl) (hf : X.fn x = true ∨ X.env.scope.names.lookup x = some .local := by first | exact .inl rfl | exact .inr rfl | assumption) :
    PS X (.Assign [.Name x pos'] e pos) (tAsg te (gName i)) := by
  intro pins s σ H D I h
  refine wpAny_Assign_Name (thn (he pins s σ H _ I h) fun v s1 ⟨y, H1, I1, r1, q1⟩ => ?_) hs
  exact store_ok I1 hN hi hx r1 (fun s2 I2 => ⟨_, H1, I2, q1⟩) hf
end
section
variable {X : Cx} {pos : Pos}
noncomputable def tWhile (c : TT) (tb : TS) : TS := fun D σ H => ∃ W : Nat → St → Hp → Prop, (∃ m, W m σ H) ∧ ∀ m σ H, W m σ H →
  c σ H fun b H1 => if b = true then ∃ N : St → Hp → Prop, (∀ σ' H', N σ' H' → ∃ m', m' < m ∧ W m' σ' H') ∧ tb { D with nx := N, ct := N, bk := D.nx } σ H1 else D.nx σ H1
theorem ps_while {c : Expr} {body : List Stmt} {tc : TT} {tb : TS} (hp : PassesOwn (model X.prog X.w) X.A X.env X.xe) (hc : PT X c tc) (hb : PSs X body tb) : PS X (.While c body [] pos) (tWhile tc tb) := by
  intro pins s σ H D I h
  obtain ⟨W, ⟨m0, w0⟩, turn⟩ := h
  refine wpAny_While (codeAny_whileLoop (fun n s' => ∃ σ' H', Inv X pins σ' H' s' ∧ W n σ' H') ?_ m0 ⟨σ, H, I, w0⟩)
  rintro n s1 ⟨σ1, H1, I1, w1⟩
  refine wpAny_passesOwn hp (thn (hc pins s1 σ1 H1 _ I1 (turn n σ1 H1 w1)) fun b s2 ⟨H2, I2, q2⟩ => ?_)
  cases b with
  | true =>
    obtain ⟨N, hN, q2⟩ := q2
    rw [if_pos rfl]
    refine wpAny_passesOwn hp (thn (hb pins s2 σ1 H2 _ I2 q2) fun f s3 q3 => ?_)
    cases f with
    | next =>
      obtain ⟨σ3, H3, I3, n3⟩ := q3
      obtain ⟨m', hm, w3⟩ := hN σ3 H3 n3
      exact ⟨m', hm, σ3, H3, I3, w3⟩
    | cont =>
      obtain ⟨σ3, H3, I3, n3⟩ := q3
      obtain ⟨m', hm, w3⟩ := hN σ3 H3 n3
      exact ⟨m', hm, σ3, H3, I3, w3⟩
    | brk => exact q3
    | ret v => exact q3
  | false =>
    rw [if_neg Bool.false_ne_true]
    exact wpAny_execs_nil ⟨σ1, H2, I2, q2⟩
end
structure It where
  go : Nat → Hp → Prop
  yld : Nat → Hp → V → Hp → Prop
  stop : Nat → Hp → Prop
noncomputable def FpOk (X : Cx) (pins : List (Addr × Obj)) (H : Hp) (b : Addr) : Prop :=
  H b = none ∧ b ≠ X.env.locals ∧ b ∉ X.fs ∧ (b ∈ X.ex ∨ X.s₀.heap.objs.size ≤ b) ∧ (∀ x c, X.env.cells.lookup x = some c → c ≠ b) ∧ ∀ p ∈ X.pn ++ pins, p.1 ≠ b
theorem Inv.fpOk {X : Cx} {pins : List (Addr × Obj)} {σ : St} {H H' : Hp} {s : Shared} {b : Addr} (I : Inv X pins σ H s) (hb : s.heap.objs.size ≤ b) (hn : H' b = none) : FpOk X pins H' b := by
  refine ⟨hn, Nat.ne_of_gt (Nat.lt_of_lt_of_le I.lt hb), I.nofs hb, .inr (Nat.le_trans I.sz hb), fun x c e z => ?_, fun p hp z => ?_⟩
  · obtain ⟨v, q⟩ := I.cell x c e
    exact absurd (Nat.lt_of_lt_of_le q.lt (by rw [z]; exact hb)) (Nat.lt_irrefl _)
  · exact absurd (Nat.lt_of_lt_of_le (Heap.lt_size (I.pin p hp).1) (by rw [z]; exact hb)) (Nat.lt_irrefl _)
structure Turn (P : Program) (w : World) (K : PySem.W.Frag) (tg : Expr) (J : It) (fp : List Addr) (it : Addr) (tn : Nat → Heap → Prop) : Prop where
  mem : it ∈ fp
  obj : ∀ i h, tn i h → ∀ b ∈ fp, ∃ o, h.get? b = some o ∧ ∀ v, o.data ≠ .cell v
  keep : ∀ i h h', tn i h → (∀ b ∈ fp, ∀ o, h.get? b = some o → h'.get? b = some o) → tn i h'
  item : ∀ (X : Cx), X.prog = P → X.w = w → X.K = K → X.calm = true → ∀ (i : Nat) (pins : List (Addr × Obj)) (s : Shared) (σ : St) (H : Hp) (E : Value → Shared → Prop), Inv X pins σ H s → (∀ b ∈ fp, FpOk X pins H b) → tn i s.heap → J.go i H →
    wpAny (model P w) X.A (pyNext (.ref it)) (fun r s1 => ∃ u, r = some u ∧
      wpAny (model P w) X.A (letOwnedTupleGo tg (.ref it) u) (fun _ s2 => ∃ x H', Inv X pins σ H' s2 ∧ RelV x u ∧ J.yld i H x H' ∧ tn (i + 1) s2.heap ∧ ∀ b ∈ fp, H' b = none) E s1) E s
  done : ∀ (X : Cx), X.prog = P → X.w = w → X.K = K → X.calm = true → ∀ (i : Nat) (pins : List (Addr × Obj)) (s : Shared) (σ : St) (H : Hp) (E : Value → Shared → Prop), Inv X pins σ H s → (∀ b ∈ fp, FpOk X pins H b) → tn i s.heap → J.stop i H →
    wpAny (model P w) X.A (pyNext (.ref it)) (fun r s1 => r = none ∧ Inv X pins σ H s1) E s
  self : ∀ (A : Around) (i : Nat) (s : Shared) (Q : Value → Shared → Prop) (E : Value → Shared → Prop), tn i s.heap → Q (.ref it) s → wpAny (model P w) A (pyIter (.ref it)) Q E s
abbrev TI := St → Hp → (It → Hp → Prop) → Prop
noncomputable def PIE (X : Cx) (pins : List (Addr × Obj)) (σ : St) (tg : Expr) (R : It → Hp → Prop) (itv : Value) (s2 : Shared) : Prop :=
  ∃ (it : Addr) (fp : List Addr) (tn : Nat → Heap → Prop) (J : It) (H' : Hp), itv = .ref it ∧ Inv X pins σ H' s2 ∧ Turn X.prog X.w X.K tg J fp it tn ∧ tn 0 s2.heap ∧ (∀ b ∈ fp, FpOk X pins H' b) ∧ R J H'
noncomputable def PI (X : Cx) (tg iter : Expr) (wi : TI) : Prop :=
  ∀ (pins : List (Addr × Obj)) (s : Shared) (σ : St) (H : Hp) (R : It → Hp → Prop), Inv X pins σ H s → wi σ H R →
    wpAny (model X.prog X.w) X.A (eval iter X.env) (fun v s1 => wpAny (model X.prog X.w) X.A (pyIter v) (PIE X pins σ tg R) X.xe s1) X.xe s
theorem go_of {M : Model} {A : Around} {E : Value → Shared → Prop} {s : Shared} {tg : Expr} {it : Addr} {u : Value} {o : Obj} {n : String} {vs : Array Value} {Q : Unit → Shared → Prop} (ho : s.heap.get? it = some o) (hc : o.cls = .type n) (hd : o.data = .fields vs)
    (hn : ["enumerate", "zip", "dict_itemiterator", "dict_reverseitemiterator", "odict_iterator", "itertools.zip_longest", "itertools.pairwise"].contains n = false) (hQ : Q () s) : wpAny M A (letOwnedTupleGo tg (.ref it) u) Q E s := by
  unfold letOwnedTupleGo
  cases tg <;> first
    | exact wpAny_pure hQ
    | (cases u <;> first
        | exact wpAny_pure hQ
        | (refine wpAny_bind (wpAny_load ho ?_)
           rw [hc, hd]
           show wpAny M A (if (["enumerate", "zip", "dict_itemiterator", "dict_reverseitemiterator", "odict_iterator", "itertools.zip_longest", "itertools.pairwise"].contains n && vs[0]? == some (rawInt _)) = true then _ else _) Q E s
           rw [if_neg (by intro h; rw [hn, Bool.false_and] at h; cases h)]
           exact wpAny_pure hQ))
noncomputable def Itl (K : PySem.W.Frag) (a : Addr) : It :=
  ⟨fun i H => ∃ xs x, SqL K H a xs ∧ xs[i]? = some x, fun i H x H' => H' = H ∧ ∀ xs, SqL K H a xs → xs[i]? = some x, fun i H => ∃ xs, SqL K H a xs ∧ xs.length ≤ i⟩
noncomputable def Itr (lo : Int) (n : Nat) : It := ⟨fun i _ => i < n, fun i H x H' => H' = H ∧ x = .int (lo + i), fun i _ => n ≤ i⟩
theorem turn_list {P : Program} {w : World} {K : PySem.W.Frag} {tg : Expr} (a it : Addr) : Turn P w K tg (Itl K a) [it] it (fun i h => h.IsListIter it a i) where
  mem := by simp
  obj := fun i h st b hb => by
    have e : b = it := by simpa using hb
    subst e
    obtain ⟨o, e, c, d⟩ := st
    exact ⟨o, e, fun v z => by rw [d] at z; cases z⟩
  keep := fun i h h' st k => st.at fun o e => k it (by simp) o e
  item := by
    intro X hP hw hK hc i pins s σ H E I hf st hg
    subst hP hw hK
    obtain ⟨xs, x, hq, hx⟩ := hg
    obtain ⟨its, rv, p, hz⟩ := I.list hq
    obtain ⟨u, hu, ru⟩ := rv.get hx
    obtain ⟨f0, f1, f2, f3, f4, f5⟩ := hf it (by simp)
    refine wpAny_pyNext_list_item st p.isList (x := u) (by simpa using hu) fun h' st' sb => ?_
    have I1 : Inv X pins σ H { s with heap := h' } := I.turned (t' := s.toks) (fun b o hb e => (sb.2 b hb).trans e) f0 f1 f3 f4 f5
    obtain ⟨o, e, c, d⟩ := id st'
    exact ⟨u, rfl, go_of (s := { s with heap := h' }) e c d (by decide) ⟨x, H, I1, ru, ⟨rfl, fun ys hy => by rw [I.list_inj hy hq]; exact hx⟩, st', fun b hb => (hf b hb).1⟩⟩
  done := by
    intro X hP hw hK hc i pins s σ H E I hf st hg
    subst hP hw hK
    obtain ⟨xs, hq, hx⟩ := hg
    obtain ⟨its, rv, p, hz⟩ := I.list hq
    obtain ⟨f0, f1, f2, f3, f4, f5⟩ := hf it (by simp)
    have hl := rv.length
    exact wpAny_pyNext_list_end (I.ok.hd hc) st p.isList (by simp; omega) fun h' eb => ⟨rfl, I.turned (t' := s.toks) (fun b o hb e => eb b o hb e) f0 f1 f3 f4 f5⟩
  self := fun _ _ _ _ _ st h => wpAny_pyIter_listiter st h
theorem turn_range {P : Program} {w : World} {K : PySem.W.Frag} {tg : Expr} (it : Addr) (lo : Int) (n : Nat) : Turn P w K tg (Itr lo n) [it] it (fun i h => IsRangeIter h it (lo + (i : Nat) * 1) ((n : Int) - (i : Nat)) 1) where
  mem := by simp
  obj := fun i h st b hb => by
    have e : b = it := by simpa using hb
    subst e
    exact ⟨_, st, fun v z => by
      have z' : Data.fields _ = Data.cell v := z
      cases z'⟩
  keep := fun i h h' st k => k it (by simp) _ st
  item := by
    intro X hP hw hK hc i pins s σ H E I hf st hg
    subst hP hw hK
    obtain ⟨f0, f1, f2, f3, f4, f5⟩ := hf it (by simp)
    have W := Walks.range (prog := X.prog) (w := X.w) (I.ok.hd hc) it lo 1 n
    refine W.item i s _ _ hg st fun v h' tk hv st' kk => ?_
    obtain ⟨t, rfl⟩ := hv
    have I1 : Inv X pins σ H { s with heap := h', toks := tk } := I.turned (fun b o hb e => kk b o (by simpa using hb) e) f0 f1 f3 f4 f5
    refine ⟨_, rfl, go_of (s := { s with heap := h', toks := tk }) (n := "range_iterator") st' rfl rfl (by decide) ⟨.int (lo + i), H, I1, ⟨t, ?_⟩, ⟨rfl, rfl⟩, st', fun b hb => (hf b hb).1⟩⟩
    rw [Int.mul_one]
  done := by
    intro X hP hw hK hc i pins s σ H E I hf st hg
    subst hP hw hK
    obtain ⟨f0, f1, f2, f3, f4, f5⟩ := hf it (by simp)
    exact wpAny_pyNext_range_end (I.ok.hd hc) st (by have : n ≤ i := hg; omega) fun h' eb => ⟨rfl, I.turned (t' := s.toks) (fun b o hb e => eb b o hb e) f0 f1 f3 f4 f5⟩
  self := fun _ _ _ _ _ st h => wpAny_pyIter_rangeiter st h
end L2
namespace L2
open PySem PySem.Spec PyProof.Rows
section
variable {X : Cx} {tg : Expr}
noncomputable def iList (K : PySem.W.Frag) (tl : TE) : TI := fun σ H R => tl σ H fun x H1 => ∃ a, x = .ref a ∧ (∃ xs, SqL K H1 a xs) ∧ R (Itl K a) H1
theorem pi_list {l : Expr} {tl : TE} (hl : PE X l tl) : PI X tg l (iList X.K tl) := by
  intro pins s σ H R I h
  refine thn (hl pins s σ H _ I h) fun v s1 ⟨x, H1, I1, r1, q1⟩ => ?_
  obtain ⟨a, e, ⟨xs, hq⟩, q⟩ := q1
  subst e
  cases r1
  obtain ⟨its, rv, p, hz⟩ := I1.list hq
  refine wpAny_pyIter_list p.isList ?_
  refine ⟨s1.heap.objs.size, [s1.heap.objs.size], _, _, H1, rfl, I1.kept (t' := s1.toks) fun b o e => Heap.get?_push_of_some _ e, turn_list a _, ⟨_, Heap.get?_push_size _ rfl, rfl, rfl⟩, fun b hb => ?_, q⟩
  have e : b = s1.heap.objs.size := by simpa using hb
  subst e
  exact I1.fpOk (Nat.le_refl _) (I1.hok.fresh (Nat.le_refl _))
theorem range_it {pins : List (Addr × Obj)} {σ : St} {H : Hp} {s : Shared} {R : It → Hp → Prop} {E : Value → Shared → Prop} {lo hi : Int} {t u v : Tok} {tk : Nat} (I : Inv X pins σ H s) (h1 : -(2 ^ 62) ≤ lo) (h2 : lo < 2 ^ 62) (h3 : -(2 ^ 62) ≤ hi) (h4 : hi < 2 ^ 62)
    (q : R (Itr lo (hi - lo).toNat) H) : wpAny (model X.prog X.w) X.A (pyIter (.ref s.heap.objs.size)) (PIE X pins σ tg R) E { s with heap := s.heap.push { cls := .type "range", data := .fields #[.int lo t, .int hi u, .int 1 v] }, toks := tk } := by
  refine wpAny_pyIter_range (IsRange.new ..) (small_one h1 h2 h3 h4) ?_
  have I1 : Inv X pins σ H { s with heap := s.heap.push { cls := .type "range", data := .fields #[.int lo t, .int hi u, .int 1 v] }, toks := tk } := I.kept fun b o e => Heap.get?_push_of_some _ e
  refine ⟨(s.heap.push { cls := .type "range", data := .fields #[.int lo t, .int hi u, .int 1 v] }).objs.size, [(s.heap.push { cls := .type "range", data := .fields #[.int lo t, .int hi u, .int 1 v] }).objs.size], _, _, H, rfl,
    I1.kept (t' := tk) fun b o e => Heap.get?_push_of_some _ e, turn_range _ lo (hi - lo).toNat, ?_, fun b hb => ?_, q⟩
  · have e1 : lo + ((0 : Nat) : Int) * 1 = lo := by simp
    have e2 : (((hi - lo).toNat : Nat) : Int) - ((0 : Nat) : Int) = Builtin.Range.rangeSize lo hi 1 := by rw [rangeSize_one]; split <;> omega
    show IsRangeIter _ _ (lo + ((0 : Nat) : Int) * 1) ((((hi - lo).toNat : Nat) : Int) - ((0 : Nat) : Int)) 1
    rw [e1, e2]
    exact Heap.get?_push_size _ rfl
  · have e : b = (s.heap.push { cls := .type "range", data := .fields #[.int lo t, .int hi u, .int 1 v] }).objs.size := by simpa using hb
    subst e
    exact I1.fpOk (Nat.le_refl _) (I1.hok.fresh (Nat.le_refl _))
noncomputable def iRng1 (ta : TA) : TI := fun σ H R => ta σ H fun vs H1 => ∃ j : Int, vs = [.int j] ∧ -(2 ^ 62) ≤ j ∧ j < 2 ^ 62 ∧ R (Itr 0 j.toNat) H1
noncomputable def iRng2 (ta : TA) : TI := fun σ H R => ta σ H fun vs H1 => ∃ i j : Int, vs = [.int i, .int j] ∧ (-(2 ^ 62) ≤ i ∧ i < 2 ^ 62 ∧ -(2 ^ 62) ≤ j ∧ j < 2 ^ 62) ∧ R (Itr i (j - i).toNat) H1
theorem pi_range1 {a : Expr} {ta : TA} {p pos : Pos} (hg : Gl X "range") (hm : X.mg "range" = none) (ha : PA X [a] ta) (hs : starEach [a] X.env = [(false, eval a X.env)] := by rfl) : PI X tg (.Call (.Name "range" p) [a] [] pos) (iRng1 ta) := by
  intro pins s σ H R I h
  refine Call_ (ld_blt I hg hm boot_range (PyProof.Rows.callWith_type1 (thn (ha pos pins s σ H _ I h) fun us s1 ⟨vs, H1, I1, r1, q1⟩ => ?_) hs rfl))
  obtain ⟨j, e, q1, q2, q⟩ := q1
  subst e
  cases r1 with
  | cons r rr =>
    cases rr
    obtain ⟨t, rfl⟩ := r
    exact call_range_1 (range_it I1 (by omega) (by omega) q1 q2 (by simpa using q))
theorem pi_range2 {a b : Expr} {ta : TA} {p pos : Pos} (hg : Gl X "range") (hm : X.mg "range" = none) (ha : PA X [a, b] ta) (hs : starEach [a, b] X.env = [(false, eval a X.env), (false, eval b X.env)] := by rfl) (hs2 : starEach [b] X.env = [(false, eval b X.env)] := by rfl) :
    PI X tg (.Call (.Name "range" p) [a, b] [] pos) (iRng2 ta) := by
  intro pins s σ H R I h
  refine Call_ (ld_blt I hg hm boot_range (PyProof.Rows.callWith_type1 (thn (ha pos pins s σ H _ I h) fun us s1 ⟨vs, H1, I1, r1, q1⟩ => ?_) (by rw [hs, hs2]) (by rw [hs2]; rfl)))
  obtain ⟨i, j, e, ⟨q1, q2, q3, q4⟩, q⟩ := q1
  subst e
  cases r1 with
  | cons r rr =>
    cases rr with
    | cons r' rr =>
      cases rr
      obtain ⟨t, rfl⟩ := r
      obtain ⟨t', rfl⟩ := r'
      exact call_range_2 (range_it I1 q1 q2 q3 q4 q)
noncomputable def tFor (wi : TI) (g : TG) (tb : TS) : TS := fun D σ H => wi σ H fun J H1 => ∃ W : Nat → Nat → St → Hp → Prop, (∃ m, W 0 m σ H1) ∧ ∀ i m σ H, W i m σ H →
  (J.stop i H ∧ D.nx σ H) ∨ (J.go i H ∧ ∃ N : St → Hp → Prop, (∀ σ' H', N σ' H' → ∃ m', m' < m ∧ W (i + 1) m' σ' H') ∧ ∀ x H', J.yld i H x H' → g x σ H' fun σ2 H2 => tb { D with nx := N, ct := N, bk := D.nx } σ2 H2)
noncomputable def pinsAt (fp : List Addr) (h : Heap) : List (Addr × Obj) := fp.filterMap fun b => (h.get? b).map fun o => (b, o)
theorem mem_pinsAt {fp : List Addr} {h : Heap} {b : Addr} {o : Obj} (hb : b ∈ fp) (e : h.get? b = some o) : (b, o) ∈ pinsAt fp h := List.mem_filterMap.mpr ⟨b, hb, by rw [e]; rfl⟩
theorem of_pinsAt {fp : List Addr} {h : Heap} {p : Addr × Obj} (hp : p ∈ pinsAt fp h) : p.1 ∈ fp ∧ h.get? p.1 = some p.2 := by
  obtain ⟨b, hb, e⟩ := List.mem_filterMap.mp hp
  cases q : h.get? b with
  | none => rw [q] at e; cases e
  | some o =>
    rw [q] at e
    have e' : (b, o) = p := Option.some.inj e
    subst e'
    exact ⟨hb, q⟩
theorem Inv.pinned {pins : List (Addr × Obj)} {σ : St} {H : Hp} {s : Shared} {fp : List Addr} (I : Inv X pins σ H s) (hf : ∀ b ∈ fp, FpOk X pins H b) (ho : ∀ b ∈ fp, ∃ o, s.heap.get? b = some o ∧ ∀ v, o.data ≠ .cell v) : Inv X (pins ++ pinsAt fp s.heap) σ H s :=
  I.pins_of fun p hp => (List.mem_append.mp hp).elim (fun z => I.pin p (List.mem_append_right _ z)) fun z => by
    obtain ⟨hb, e⟩ := of_pinsAt z
    obtain ⟨f0, f1, f2, _⟩ := hf p.1 hb
    obtain ⟨o, e', d⟩ := ho p.1 hb
    rw [e] at e'; cases e'
    exact ⟨e, f0, f1, f2, d⟩
theorem Inv.unpinned {pins pl : List (Addr × Obj)} {σ : St} {H : Hp} {s : Shared} (I : Inv X (pins ++ pl) σ H s) : Inv X pins σ H s := I.pins_of fun p hp => I.pin p (List.mem_append_right _ (List.mem_append_left _ hp))
theorem ps_for {iter : Expr} {body : List Stmt} {wi : TI} {g : TG} {tb : TS} {pos : Pos} (hp : PassesOwn (model X.prog X.w) X.A X.env X.xe) (hc : X.calm = true) (hi : PI X tg iter wi) (hg : PG X tg g) (hb : PSs X body tb)
    (hs : ∀ x, foldedSetIterable iter X.env x = pure x := by intro _; rfl) : PS X (.For tg iter body [] pos) (tFor wi g tb) := by
  intro pins s σ H D I h
  refine wpAny_For (thn (hi pins s σ H _ I h) fun v s1 h1 => thn h1 fun itv s2 h2 => ?_) hs
  obtain ⟨it, fp, tn, J, H2, e, I2, T, st2, f2, W, ⟨m0, w0⟩, turn⟩ := h2
  subst e
  have stat : ∀ {H' : Hp}, (∀ b ∈ fp, H' b = none) → ∀ b ∈ fp, FpOk X pins H' b := fun hn b hb => ⟨hn b hb, (f2 b hb).2⟩
  refine codeAny_forLoop_any (fun n s' => ∃ i σ' H', Inv X pins σ' H' s' ∧ tn i s'.heap ∧ (∀ b ∈ fp, H' b = none) ∧ W i n σ' H') ?_ m0 ⟨0, σ, H2, I2, st2, fun b hb => (f2 b hb).1, w0⟩
  rintro n s3 ⟨i, σ3, H3, I3, st3, fr3, w3⟩
  rcases turn i n σ3 H3 w3 with ⟨stop, qn⟩ | ⟨go, N, hN, step⟩
  · refine wpAny_passesOwn hp (thn (T.done X rfl rfl rfl hc i pins s3 σ3 H3 X.xe I3 (stat fr3) st3 stop) fun r s4 ⟨hr, I4⟩ => ?_)
    subst hr
    exact wpAny_execs_nil ⟨σ3, H3, I4, qn⟩
  · refine wpAny_passesOwn hp (thn (T.item X rfl rfl rfl hc i pins s3 σ3 H3 X.xe I3 (stat fr3) st3 go) fun r s4 ⟨u, hr, h4⟩ => ?_)
    subst hr
    refine wpAny_passesOwn hp (thn h4 fun _ s5 ⟨x, H5, I5, r5, y5, st5, fr5⟩ => ?_)
    have I5' := I5.pinned (stat fr5) (T.obj _ _ st5)
    refine wpAny_passesOwn hp (thn (hg _ s5 σ3 H5 x u _ I5' r5 (step x H5 y5)) fun _ s6 ⟨σ6, H6, I6, q6⟩ => ?_)
    refine wpAny_passesOwn hp (thn (hb _ s6 σ6 H6 _ I6 q6) fun f s7 q7 => ?_)
    have again : ∀ {σ7 : St} {H7 : Hp}, Inv X (pins ++ pinsAt fp s5.heap) σ7 H7 s7 → N σ7 H7 → ∃ m, m < n ∧ ∃ i σ' H', Inv X pins σ' H' s7 ∧ tn i s7.heap ∧ (∀ b ∈ fp, H' b = none) ∧ W i m σ' H' := fun {σ7 H7} I7 n7 => by
      obtain ⟨m', hm, w7⟩ := hN σ7 H7 n7
      refine ⟨m', hm, i + 1, σ7, H7, I7.unpinned, T.keep _ _ _ st5 fun b hb o e => (I7.pin (b, o) (List.mem_append_right _ (List.mem_append_right _ (mem_pinsAt hb e)))).1, fun b hb => ?_, w7⟩
      obtain ⟨o, e, d⟩ := T.obj _ _ st5 b hb
      exact (I7.pin (b, o) (List.mem_append_right _ (List.mem_append_right _ (mem_pinsAt hb e)))).2.1
    cases f with
    | next => obtain ⟨σ7, H7, I7, n7⟩ := q7; exact again I7 n7
    | cont => obtain ⟨σ7, H7, I7, n7⟩ := q7; exact again I7 n7
    | brk => obtain ⟨σ7, H7, I7, q7⟩ := q7; exact ⟨σ7, H7, I7.unpinned, q7⟩
    | ret v => obtain ⟨x7, σ7, H7, I7, r7, q7⟩ := q7; exact ⟨x7, σ7, H7, I7.unpinned, r7, q7⟩
end
theorem for_list {K : PySem.W.Frag} {a : Addr} {xs : List V} {g : TG} {tb : TS} {D : Ends} {σ : St} {H : Hp} (Pv : Nat → St → Hp → Prop) (h0 : Pv 0 σ H) (hl : ∀ i σ H, i ≤ xs.length → Pv i σ H → SqL K H a xs)
    (hs : ∀ i x σ H, xs[i]? = some x → Pv i σ H → g x σ H fun σ2 H2 => tb { D with nx := Pv (i + 1), ct := Pv (i + 1), bk := D.nx } σ2 H2) (hd : ∀ σ H, Pv xs.length σ H → D.nx σ H) :
    ∃ W : Nat → Nat → St → Hp → Prop, (∃ m, W 0 m σ H) ∧ ∀ i m σ H, W i m σ H →
      ((Itl K a).stop i H ∧ D.nx σ H) ∨ ((Itl K a).go i H ∧ ∃ N : St → Hp → Prop, (∀ σ' H', N σ' H' → ∃ m', m' < m ∧ W (i + 1) m' σ' H') ∧ ∀ x H', (Itl K a).yld i H x H' → g x σ H' fun σ2 H2 => tb { D with nx := N, ct := N, bk := D.nx } σ2 H2) := by
  refine ⟨fun i m σ H => m = xs.length - i ∧ i ≤ xs.length ∧ Pv i σ H, ⟨xs.length, by simp, Nat.zero_le _, h0⟩, ?_⟩
  rintro i m σ H ⟨rfl, hi, p⟩
  have q := hl i σ H hi p
  by_cases hlt : i < xs.length
  · refine .inr ⟨⟨xs, xs[i], q, by simp [hlt]⟩, Pv (i + 1), fun σ' H' p' => ⟨xs.length - (i + 1), by omega, rfl, hlt, p'⟩, fun x H' y => ?_⟩
    obtain ⟨e, y⟩ := y
    subst e
    exact hs i x σ _ (y xs q) p
  · have e : i = xs.length := by omega
    subst e
    exact .inl ⟨⟨xs, q, Nat.le_refl _⟩, hd σ H p⟩
theorem for_range {lo : Int} {n : Nat} {g : TG} {tb : TS} {D : Ends} {σ : St} {H : Hp} (Pv : Nat → St → Hp → Prop) (h0 : Pv 0 σ H)
    (hs : ∀ i σ H, i < n → Pv i σ H → g (.int (lo + i)) σ H fun σ2 H2 => tb { D with nx := Pv (i + 1), ct := Pv (i + 1), bk := D.nx } σ2 H2) (hd : ∀ σ H, Pv n σ H → D.nx σ H) :
    ∃ W : Nat → Nat → St → Hp → Prop, (∃ m, W 0 m σ H) ∧ ∀ i m σ H, W i m σ H →
      ((Itr lo n).stop i H ∧ D.nx σ H) ∨ ((Itr lo n).go i H ∧ ∃ N : St → Hp → Prop, (∀ σ' H', N σ' H' → ∃ m', m' < m ∧ W (i + 1) m' σ' H') ∧ ∀ x H', (Itr lo n).yld i H x H' → g x σ H' fun σ2 H2 => tb { D with nx := N, ct := N, bk := D.nx } σ2 H2) := by
  refine ⟨fun i m σ H => m = n - i ∧ i ≤ n ∧ Pv i σ H, ⟨n, by simp, Nat.zero_le _, h0⟩, ?_⟩
  rintro i m σ H ⟨rfl, hi, p⟩
  by_cases hlt : i < n
  · refine .inr ⟨hlt, Pv (i + 1), fun σ' H' p' => ⟨n - (i + 1), by omega, rfl, hlt, p'⟩, fun x H' y => ?_⟩
    obtain ⟨e, y⟩ := y
    subst e y
    exact hs i σ _ hlt p
  · have e : i = n := by omega
    subst e
    exact .inl ⟨Nat.le_refl _, hd σ H p⟩
theorem while_by {c : TT} {tb : TS} {D : Ends} {σ : St} {H : Hp} (Pv : St → Hp → Prop) (μ : St → Hp → Nat) (h0 : Pv σ H)
    (hs : ∀ σ H, Pv σ H → c σ H fun b H1 => if b = true then tb { D with nx := fun σ' H' => Pv σ' H' ∧ μ σ' H' < μ σ H, ct := fun σ' H' => Pv σ' H' ∧ μ σ' H' < μ σ H, bk := D.nx } σ H1 else D.nx σ H1)
    (mono : ∀ σ H Q Q', (∀ b H1, Q b H1 → Q' b H1) → c σ H Q → c σ H Q') : tWhile c tb D σ H := by
  refine ⟨fun m σ H => m = μ σ H ∧ Pv σ H, ⟨_, rfl, h0⟩, ?_⟩
  rintro m σ H ⟨rfl, p⟩
  refine mono σ H _ _ (fun b H1 q => ?_) (hs σ H p)
  cases b with
  | true => exact ⟨_, fun σ' H' ⟨p', l⟩ => ⟨_, l, rfl, p'⟩, q⟩
  | false => exact q
end L2
namespace L2
open PySem PySem.Spec PyProof.Rows
abbrev R2 := V → V → Hp → VK → Prop
noncomputable def OpR (X : Cx) (f : Value → Value → Sem Value) (r : R2) : Prop :=
  ∀ (pins : List (Addr × Obj)) (s : Shared) (σ : St) (H : Hp) (x y : V) (v u : Value) (Q : VK), Inv X pins σ H s → RelV x v → RelV y u → r x y H Q →
    wpAny (model X.prog X.w) X.A (f v u) (EP X pins σ Q) X.xe s
noncomputable def UnR (X : Cx) (f : Value → Sem Value) (r : V → Hp → VK → Prop) : Prop :=
  ∀ (pins : List (Addr × Obj)) (s : Shared) (σ : St) (H : Hp) (x : V) (v : Value) (Q : VK), Inv X pins σ H s → RelV x v → r x H Q →
    wpAny (model X.prog X.w) X.A (f v) (EP X pins σ Q) X.xe s
noncomputable def CallR (X : Cx) (f : Value) (r : List V → Hp → VK → Prop) : Prop :=
  ∀ (pins : List (Addr × Obj)) (s : Shared) (σ : St) (H : Hp) (xs : List V) (us : List Value) (Q : VK), Inv X pins σ H s → Vals xs us → r xs H Q →
    wpAny (model X.prog X.w) X.A (call f us) (EP X pins σ Q) X.xe s
noncomputable def tOp (r : R2) (ta tb : TE) : TE := fun σ H Q => ta σ H fun x H1 => tb σ H1 fun y H2 => r x y H2 Q
noncomputable def tUn (r : V → Hp → VK → Prop) (ta : TE) : TE := fun σ H Q => ta σ H fun x H1 => r x H1 Q
noncomputable def rI (C : Int → Int → Prop) (g : Int → Int → V) : R2 := fun x y H Q => ∃ i j, x = .int i ∧ y = .int j ∧ C i j ∧ Q (g i j) H
noncomputable def rI0 (g : Int → Int → V) : R2 := fun x y H Q => ∃ i j, x = .int i ∧ y = .int j ∧ Q (g i j) H
noncomputable def rU (g : Int → V) : V → Hp → VK → Prop := fun x H Q => ∃ i, x = .int i ∧ Q (g i) H
section
variable {X : Cx} {a b c : Expr} {ta tb tc : TE} {pos : Pos}
theorem binT (ha : PE X a ta) (hb : PE X b tb) {pins : List (Addr × Obj)} {s : Shared} {σ : St} {H : Hp} {R : V → V → Hp → Prop} (I : Inv X pins σ H s)
    (h : ta σ H fun x H1 => tb σ H1 fun y H2 => R x y H2) {Q : Value → Shared → Prop} {f : Value → Value → Sem Value}
    (hf : ∀ v u s2 x y H2, Inv X pins σ H2 s2 → RelV x v → RelV y u → R x y H2 → wpAny (model X.prog X.w) X.A (f v u) Q X.xe s2) :
    wpAny (model X.prog X.w) X.A (eval a X.env) (fun v s₁ => wpAny (model X.prog X.w) X.A (eval b X.env) (fun u s₂ => wpAny (model X.prog X.w) X.A (f v u) Q X.xe s₂) X.xe s₁) X.xe s := by
  refine thn (ha pins s σ H _ I h) fun v s1 ⟨x, H1, I1, r1, q1⟩ => ?_
  refine thn (hb pins s1 σ H1 _ I1 q1) fun u s2 ⟨y, H2, I2, r2, q2⟩ => ?_
  exact hf v u s2 x y H2 I2 r1 r2 q2
theorem pe_op {op : Operator} {r : R2} (ho : OpR X (binaryOp op) r) (ha : PE X a ta) (hb : PE X b tb) : PE X (.BinOp a op b pos) (tOp r ta tb) := by
  intro pins s σ H Q I h
  exact wpAny_BinOp (binT ha hb I h fun v u s2 x y H2 I2 rx ry q => ho pins s2 σ H2 x y v u Q I2 rx ry q)
theorem pe_un {op : UnaryOp} {r : V → Hp → VK → Prop} (ho : UnR X (unaryOp op) r) (ha : PE X a ta) : PE X (.UnaryOp op a pos) (tUn r ta) := by
  intro pins s σ H Q I h
  exact UnaryOp_ (thn (ha pins s σ H _ I h) fun v s1 ⟨x, H1, I1, r1, q1⟩ => ho pins s1 σ H1 x v Q I1 r1 q1)
theorem opI {f : Value → Value → Sem Value} {C : Int → Int → Prop} {g : Int → Int → Int}
    (rule : ∀ (i j : Int) (t u : Tok) (s : Shared) (Q : Value → Shared → Prop) (E : Value → Shared → Prop), C i j → Q (.int (g i j) s.toks) { s with toks := s.toks + 1 } → wpAny (model X.prog X.w) X.A (f (.int i t) (.int j u)) Q E s) :
    OpR X f (rI C fun i j => .int (g i j)) := by
  intro pins s σ H x y v u Q I rx ry h
  obtain ⟨i, j, rfl, rfl, hc, q⟩ := h
  obtain ⟨t, rfl⟩ := rx
  obtain ⟨t', rfl⟩ := ry
  exact rule i j t t' s _ _ hc ⟨.int (g i j), H, I.tok _, ⟨_, rfl⟩, q⟩
theorem opI0 {f : Value → Value → Sem Value} {g : Int → Int → Int}
    (rule : ∀ (i j : Int) (t u : Tok) (s : Shared) (Q : Value → Shared → Prop) (E : Value → Shared → Prop), Q (.int (g i j) s.toks) { s with toks := s.toks + 1 } → wpAny (model X.prog X.w) X.A (f (.int i t) (.int j u)) Q E s) :
    OpR X f (rI0 fun i j => .int (g i j)) := by
  intro pins s σ H x y v u Q I rx ry h
  obtain ⟨i, j, rfl, rfl, q⟩ := h
  obtain ⟨t, rfl⟩ := rx
  obtain ⟨t', rfl⟩ := ry
  exact rule i j t t' s _ _ ⟨.int (g i j), H, I.tok _, ⟨_, rfl⟩, q⟩
theorem opB0 {f : Value → Value → Sem Value} {g : Int → Int → Bool}
    (rule : ∀ (i j : Int) (t u : Tok) (s : Shared) (Q : Value → Shared → Prop) (E : Value → Shared → Prop), Q (.bool (g i j)) s → wpAny (model X.prog X.w) X.A (f (.int i t) (.int j u)) Q E s) :
    OpR X f (rI0 fun i j => .bl (g i j)) := by
  intro pins s σ H x y v u Q I rx ry h
  obtain ⟨i, j, rfl, rfl, q⟩ := h
  obtain ⟨t, rfl⟩ := rx
  obtain ⟨t', rfl⟩ := ry
  exact rule i j t t' s _ _ ⟨.bl (g i j), H, I, rfl, q⟩
noncomputable def CPow (i j : Int) : Prop := 0 ≤ j ∧ j ≤ 1000000 ∧ i.natAbs < 2 ^ 64
noncomputable def CMul (i j : Int) : Prop := (-(2 ^ 64) < i ∧ i < 2 ^ 64) ∨ (-(2 ^ 64) < j ∧ j < 2 ^ 64)
theorem CMul.ok {i j : Int} (h : CMul i j) : IntMulOk i j := by
  rcases h with ⟨h1, h2⟩ | ⟨h1, h2⟩
  · exact .of_left (intBits_le_64 h1 h2)
  · exact .of_right (intBits_le_64 h1 h2)
theorem op_add : OpR X (binaryOp .Add) (rI0 fun i j => .int (i + j)) := opI0 fun _ _ _ _ _ _ _ q => add_int q
theorem op_sub : OpR X (binaryOp .Sub) (rI0 fun i j => .int (i - j)) := opI0 fun _ _ _ _ _ _ _ q => sub_int q
theorem op_mod : OpR X (binaryOp .Mod) (rI (fun _ j => 0 < j) fun i j => .int (i % j)) := opI fun i j _ _ _ _ _ hc q => by
  have h1 : (0 : Int) < j := hc
  exact mod_int' (by omega) (by rw [Int.fmod_eq_emod_of_nonneg i (by omega)]; exact q)
theorem op_pow : OpR X (binaryOp .Pow) (rI CPow fun i j => .int (i ^ j.toNat)) := opI fun _ _ _ _ _ _ _ hc q => pow_int_small hc.1 hc.2.1 hc.2.2 q
theorem op_shl : OpR X (binaryOp .LShift) (rI CPow fun i j => .int (i * 2 ^ j.toNat)) := opI fun _ _ _ _ _ _ _ hc q => lshift_int_small hc.1 hc.2.1 hc.2.2 q
theorem unI {f : Value → Sem Value} {g : Int → Int}
    (rule : ∀ (i : Int) (t : Tok) (s : Shared) (Q : Value → Shared → Prop) (E : Value → Shared → Prop), Q (.int (g i) s.toks) { s with toks := s.toks + 1 } → wpAny (model X.prog X.w) X.A (f (.int i t)) Q E s) :
    UnR X f (rU fun i => .int (g i)) := by
  intro pins s σ H x v Q I rx h
  obtain ⟨i, rfl, q⟩ := h
  obtain ⟨t, rfl⟩ := rx
  exact rule i t s _ _ ⟨.int (g i), H, I.tok _, ⟨_, rfl⟩, q⟩
theorem un_neg : UnR X (unaryOp .USub) (rU fun i => .int (-i)) := unI fun _ _ _ _ _ q => neg_int q
end
noncomputable def scal : V → V → Bool
  | .non, .non => true | .non, .int _ => true | .int _, .non => true | .non, .bl _ => true | .bl _, .non => true | .non, .str _ => true | .str _, .non => true
  | .int _, .int _ => true | .bl _, .bl _ => true | .str _, .str _ => true | .byt _, .byt _ => true
  | .int _, .str _ => true | .str _, .int _ => true | .bl _, .str _ => true | .str _, .bl _ => true
  | _, _ => false
noncomputable def rEq : R2 := fun x y H Q => scal x y = true ∧ Q (.bl (decide (x = y))) H
noncomputable def rNe : R2 := fun x y H Q => scal x y = true ∧ Q (.bl (!decide (x = y))) H
theorem dec_int {i j : Int} : decide (V.int i = V.int j) = (i == j) := by
  rw [Bool.eq_iff_iff]
  simp
theorem dec_bl {i j : Bool} : decide (V.bl i = V.bl j) = (i == j) := by
  rw [Bool.eq_iff_iff]
  simp
theorem dec_str {i j : Str} : decide (V.str i = V.str j) = (i == j) := by
  rw [Bool.eq_iff_iff]
  simp
theorem dec_byt {i j : Array UInt8} : decide (V.byt i = V.byt j) = (i.toList == j.toList) := by
  rw [Bool.eq_iff_iff]
  cases i
  cases j
  simp
section
variable {X : Cx} {a b c : Expr} {ta tb tc : TE} {pos : Pos}
theorem fin_bl {pins : List (Addr × Obj)} {σ : St} {H : Hp} {s : Shared} {Q : VK} {k k' : Bool} (I : Inv X pins σ H s) (q : Q (.bl k) H) (e : k = k') : EP X pins σ Q (.bool k') s := by
  subst e
  exact ⟨.bl k, H, I, rfl, q⟩
theorem op_eq : OpR X (compareOp .Eq) rEq := by
  intro pins s σ H x y v u Q I rx ry h
  obtain ⟨hs, q⟩ := h
  cases x with
  | non =>
    cases rx
    cases y with
    | non => cases ry; exact PySem.EqNone.eq_none_none (fin_bl I q (by simp))
    | bl j => cases ry; exact PySem.EqNone.eq_none_bool (fin_bl I q (by simp))
    | int j => obtain ⟨t', rfl⟩ := ry; exact PySem.EqNone.eq_none_int (fin_bl I q (by simp))
    | str j => obtain ⟨t', rfl⟩ := ry; exact PySem.EqNone.eq_none_str (fin_bl I q (by simp))
    | _ => exact absurd (show false = true from hs) Bool.false_ne_true
  | bl i =>
    cases rx
    cases y with
    | non => cases ry; exact PySem.EqNone.eq_bool_none (fin_bl I q (by simp))
    | bl j => cases ry; exact eq_bool (fin_bl I q dec_bl)
    | str j => obtain ⟨t', rfl⟩ := ry; exact PySem.EqMixed.eq_bool_str (fin_bl I q (by simp))
    | _ => exact absurd (show false = true from hs) Bool.false_ne_true
  | int i =>
    obtain ⟨t, rfl⟩ := rx
    cases y with
    | non => cases ry; exact PySem.EqNone.eq_int_none (fin_bl I q (by simp))
    | int j => obtain ⟨t', rfl⟩ := ry; exact eq_int (fin_bl I q dec_int)
    | str j => obtain ⟨t', rfl⟩ := ry; exact PySem.EqMixed.eq_int_str (fin_bl I q (by simp))
    | _ => exact absurd (show false = true from hs) Bool.false_ne_true
  | str i =>
    obtain ⟨t, rfl⟩ := rx
    cases y with
    | non => cases ry; exact PySem.EqNone.eq_str_none (fin_bl I q (by simp))
    | bl j => cases ry; exact PySem.EqMixed.eq_str_bool (fin_bl I q (by simp))
    | int j => obtain ⟨t', rfl⟩ := ry; exact PySem.EqMixed.eq_str_int (fin_bl I q (by simp))
    | str j => obtain ⟨t', rfl⟩ := ry; exact eq_str (fin_bl I q dec_str)
    | _ => exact absurd (show false = true from hs) Bool.false_ne_true
  | byt i =>
    obtain ⟨t, rfl⟩ := rx
    cases y with
    | byt j => obtain ⟨t', rfl⟩ := ry; exact PySem.W.eq_bytes (fin_bl I q dec_byt)
    | _ => exact absurd (show false = true from hs) Bool.false_ne_true
  | _ => cases y <;> exact absurd (show false = true from hs) Bool.false_ne_true
theorem op_ne : OpR X (compareOp .NotEq) rNe := by
  intro pins s σ H x y v u Q I rx ry h
  obtain ⟨hs, q⟩ := h
  cases x with
  | non =>
    cases rx
    cases y with
    | non => cases ry; exact PySem.EqNone.ne_none_none (fin_bl I q (by simp))
    | bl j => cases ry; exact PySem.EqNone.ne_none_bool (fin_bl I q (by simp))
    | int j => obtain ⟨t', rfl⟩ := ry; exact PySem.EqNone.ne_none_int (fin_bl I q (by simp))
    | str j => obtain ⟨t', rfl⟩ := ry; exact PySem.EqNone.ne_none_str (fin_bl I q (by simp))
    | _ => exact absurd (show false = true from hs) Bool.false_ne_true
  | bl i =>
    cases rx
    cases y with
    | non => cases ry; exact PySem.EqNone.ne_bool_none (fin_bl I q (by simp))
    | bl j => cases ry; exact ne_bool (fin_bl I q (congrArg not dec_bl))
    | str j => obtain ⟨t', rfl⟩ := ry; exact PySem.EqMixed.ne_bool_str (fin_bl I q (by simp))
    | _ => exact absurd (show false = true from hs) Bool.false_ne_true
  | int i =>
    obtain ⟨t, rfl⟩ := rx
    cases y with
    | non => cases ry; exact PySem.EqNone.ne_int_none (fin_bl I q (by simp))
    | int j => obtain ⟨t', rfl⟩ := ry; exact ne_int (fin_bl I q (congrArg not dec_int))
    | str j => obtain ⟨t', rfl⟩ := ry; exact PySem.EqMixed.ne_int_str (fin_bl I q (by simp))
    | _ => exact absurd (show false = true from hs) Bool.false_ne_true
  | str i =>
    obtain ⟨t, rfl⟩ := rx
    cases y with
    | non => cases ry; exact PySem.EqNone.ne_str_none (fin_bl I q (by simp))
    | bl j => cases ry; exact PySem.EqMixed.ne_str_bool (fin_bl I q (by simp))
    | int j => obtain ⟨t', rfl⟩ := ry; exact PySem.EqMixed.ne_str_int (fin_bl I q (by simp))
    | str j => obtain ⟨t', rfl⟩ := ry; exact ne_str (fin_bl I q (congrArg not dec_str))
    | _ => exact absurd (show false = true from hs) Bool.false_ne_true
  | byt i =>
    obtain ⟨t, rfl⟩ := rx
    cases y with
    | byt j => obtain ⟨t', rfl⟩ := ry; exact PySem.W.ne_bytes (fin_bl I q (congrArg not dec_byt))
    | _ => exact absurd (show false = true from hs) Bool.false_ne_true
  | _ => cases y <;> exact absurd (show false = true from hs) Bool.false_ne_true
theorem op_lt : OpR X (compareOp .Lt) (rI0 fun i j => .bl (decide (i < j))) := opB0 fun _ _ _ _ _ _ _ q => lt_int q
theorem op_gt : OpR X (compareOp .Gt) (rI0 fun i j => .bl (decide (j < i))) := opB0 fun _ _ _ _ _ _ _ q => gt_int q
theorem op_ge : OpR X (compareOp .GtE) (rI0 fun i j => .bl (decide (j ≤ i))) := opB0 fun _ _ _ _ _ _ _ q => ge_int q
theorem op_isN : OpR X (compareOp .Is) (fun x y H Q => y = .non ∧ Q (.bl (decide (x = .non))) H) := by
  intro pins s σ H x y v u Q I rx ry h
  obtain ⟨rfl, q⟩ := h
  cases ry
  refine is_none_gen (fin_bl I q ?_)
  cases x <;> first
    | (cases rx; rfl)
    | (obtain ⟨t, rfl⟩ := rx; rfl)
theorem op_notN : OpR X (compareOp .IsNot) (fun x y H Q => y = .non ∧ Q (.bl (!decide (x = .non))) H) := by
  intro pins s σ H x y v u Q I rx ry h
  obtain ⟨rfl, q⟩ := h
  cases ry
  refine isnot_none_gen (fin_bl I q ?_)
  cases x <;> first
    | (cases rx; rfl)
    | (obtain ⟨t, rfl⟩ := rx; rfl)
theorem OpR.or {f : Value → Value → Sem Value} {r r' : R2} (h : OpR X f r) (h' : OpR X f r') : OpR X f (fun x y H Q => r x y H Q ∨ r' x y H Q) := by
  intro pins s σ H x y v u Q I rx ry q
  rcases q with q | q
  · exact h pins s σ H x y v u Q I rx ry q
  · exact h' pins s σ H x y v u Q I rx ry q
theorem nomark (b : Expr) {op : CmpOp} (h : op ≠ .In := by decide) (h2 : op ≠ .NotIn := by decide) : behindInMarks op b = false := by
  have e1 : (op == CmpOp.In) = false := by cases op <;> first | rfl | exact absurd rfl h
  have e2 : (op == CmpOp.NotIn) = false := by cases op <;> first | rfl | exact absurd rfl h2
  cases b <;> simp [behindInMarks, e1, e2]
theorem pe_cmpR {op : CmpOp} {r : R2} (ho : OpR X (compareOp op) r) (ha : PE X a ta) (hb : PE X b tb) (hm : behindInMarks op b = false) : PE X (.Compare a [op] [b] pos) (tOp r ta tb) := by
  intro pins s σ H Q I h
  exact wpAny_Compare1 (binT ha hb I h fun v u s2 x y H2 I2 rx ry q => ho pins s2 σ H2 x y v u Q I2 rx ry q) hm
noncomputable def tTest (t : TE) : TT := fun σ H Q => t σ H fun x H' => ∃ k, x = .bl k ∧ Q k H'
theorem pt_cmpR {op : CmpOp} {r : R2} (ho : OpR X (compareOp op) r) (ha : PE X a ta) (hb : PE X b tb) (hm : behindInMarks op b = false) : PT X (.Compare a [op] [b] pos) (tTest (tOp r ta tb)) := by
  intro pins s σ H Q I h
  refine wpAny_isTrue_Compare1 (thn (ha pins s σ H _ I h) fun v s1 ⟨x, H1, I1, r1, q1⟩ => thn (hb pins s1 σ H1 _ I1 q1) fun u s2 ⟨y, H2, I2, r2, q2⟩ =>
    thn (ho pins s2 σ H2 x y v u _ I2 r1 r2 q2) fun c s3 ⟨z, H3, I3, r3, k, e, q3⟩ => ?_) hm
  subst e
  cases r3
  exact wpAny_truthy_bool ⟨H3, I3, q3⟩
theorem line63 : (sizeLine : Nat) < 2 ^ 63 := by rw [sizeLine_eq]; decide
theorem vals1 {x : V} {us : List Value} (r : Vals [x] us) : ∃ u, us = [u] ∧ RelV x u := by
  cases r with
  | cons r1 r2 => cases r2; exact ⟨_, rfl, r1⟩
theorem vals2 {x y : V} {us : List Value} (r : Vals [x, y] us) : ∃ u w', us = [u, w'] ∧ RelV x u ∧ RelV y w' := by
  cases r with
  | cons r1 r2 =>
    cases r2 with
    | cons r3 r4 => cases r4; exact ⟨_, _, rfl, r1, r3⟩
theorem call_max2 (hc : X.calm = true) : CallR X (.builtin "max") (fun xs H Q => ∃ i j, xs = [.int i, .int j] ∧ Q (.int (if j > i then j else i)) H) := by
  intro pins s σ H xs us Q I r h
  obtain ⟨i, j, rfl, q⟩ := h
  obtain ⟨u, w', rfl, ⟨t, rfl⟩, ⟨t', rfl⟩⟩ := vals2 r
  refine max_two_ints (I.ok.hd hc) fun h' tk k => ⟨_, H, I.kept k, ?_, q⟩
  by_cases hj : j > i
  · rw [if_pos hj, if_pos hj]; exact ⟨_, rfl⟩
  · rw [if_neg hj, if_neg hj]; exact ⟨_, rfl⟩
theorem call_min2 (hc : X.calm = true) : CallR X (.builtin "min") (fun xs H Q => ∃ i j, xs = [.int i, .int j] ∧ Q (.int (if j < i then j else i)) H) := by
  intro pins s σ H xs us Q I r h
  obtain ⟨i, j, rfl, q⟩ := h
  obtain ⟨u, w', rfl, ⟨t, rfl⟩, ⟨t', rfl⟩⟩ := vals2 r
  refine min_two_ints (I.ok.hd hc) fun h' tk k => ⟨_, H, I.kept k, ?_, q⟩
  by_cases hj : j < i
  · rw [if_pos hj, if_pos hj]; exact ⟨_, rfl⟩
  · rw [if_neg hj, if_neg hj]; exact ⟨_, rfl⟩
theorem call_int1 : CallR X (.type "int") (fun xs H Q => (∃ i, xs = [.int i] ∧ Q (.int i) H) ∨ ∃ k, xs = [.bl k] ∧ Q (.int (if k then 1 else 0)) H) := by
  intro pins s σ H xs us Q I r h
  rcases h with ⟨i, rfl, q⟩ | ⟨k, rfl, q⟩
  · obtain ⟨u, rfl, t, rfl⟩ := vals1 r
    exact call_int_int ⟨.int i, H, I, ⟨_, rfl⟩, q⟩
  · obtain ⟨u, rfl, r1⟩ := vals1 r
    cases r1
    exact call_int_bool ⟨.int (if k then 1 else 0), H, I.tok _, ⟨_, rfl⟩, q⟩
end
end L2
namespace L2
open PySem PySem.Spec PyProof.Rows
structure ObjM (h : Heap) (x dx C : Addr) (mA : Str → Option Value) : Prop where
  obj : h.get? x = some (PySem.W.instObj C dx)
  ns : h.Ns1 dx mA
  ne : dx ≠ x
theorem lookIn_ns {h : Heap} {dx : Addr} {mA : Str → Option Value} (n : h.Ns1 dx mA) : ∃ od, h.get? dx = some od ∧ ∀ name, PySem.W.lookIn name od = some (mA name) := by
  obtain ⟨o, es, ep, ho, hd, hk, _, hm⟩ := n
  refine ⟨o, ho, fun name => ?_⟩
  have e := hm name
  unfold nsFind findBy at e
  rw [← Array.find?_toList] at e
  unfold PySem.W.lookIn
  rw [hd]
  dsimp only
  split
  · rename_i y q
    rw [q] at e
    exact congrArg some e
  · rename_i q
    rw [q] at e
    have a : es.toList.any (·.refKey) = false := by
      rw [List.any_eq_false]
      intro y hy
      obtain ⟨z, t, hkey⟩ := hk y (Array.mem_toList_iff.mp hy)
      simp [DictEntry.refKey, hkey]
    have a' : ¬ es.toList.any (·.refKey) = true := by rw [a]; exact Bool.false_ne_true
    rw [if_neg a']
    exact congrArg some e
theorem ObjM.look {h : Heap} {x dx C : Addr} {mA : Str → Option Value} (I : ObjM h x dx C mA) : ∃ od, PySem.W.InstAt h x (PySem.W.instObj C dx) C (some od) ∧ ∀ name, PySem.W.lookIn name od = some (mA name) :=
  let ⟨od, ho, hl⟩ := lookIn_ns I.ns
  ⟨od, ⟨I.obj, rfl, rfl, ho⟩, hl⟩
section
variable {prog : Program} {w : World} {A : Around} {E : Value → Shared → Prop} {s : Shared} {K : PySem.W.Frag} {x dx C f : Addr} {mA : Str → Option Value} {name : Str} {v : Value}
end
theorem RelO.none_of {o : Option Value} (r : RelO none o) : o = none := by
  cases o with
  | none => rfl
  | some u => exact (show False from r).elim
section
variable {P : Program} {w : World} {H H' : Hp} {h h' : Heap} {a C dx : Addr} {fs fs' : List (Str × V)}
theorem ins_get (hok : HOk P w H h) (e : H a = some (.ins C dx fs)) : ∃ mA, ObjM h a dx C mA ∧ (∀ f, RelO (fs.lookup f) (mA f)) ∧ PySem.Within mA (fs.map (·.1)) ∧ fs.length ≤ 1000 ∧ H dx = some (.own a) := by
  obtain ⟨d, z, ne, ob, mA, n, r, q⟩ := (show ObjOk P w H h a (.ins C dx fs) from hok a _ e)
  exact ⟨mA, ⟨ob, n, ne⟩, r, q, z, d⟩
end
structure Cls (K : PySem.W.Frag) (C : Addr) : Prop where
  pg : PySem.W.plainGet K C Str.empty = true
  hd : PySem.W.hasDictIn K C = true
  po : PySem.W.plainOver K C = true
  sa : PySem.W.findIn K (.ref C) "__setattr__" = some (some (.builtin "object.__setattr__"))
theorem Cls.get {K : PySem.W.Frag} {C : Addr} (c : Cls K C) (f : Str) : PySem.W.plainGet K C f = true := c.pg
structure Con (K : PySem.W.Frag) (C : Addr) (f : Str) (v : V) (u : Value) : Prop where
  at_ : PySem.W.findIn K (.ref C) f = some (some u)
  rel : RelV v u
  get : PySem.W.specialIn K u "__get__" = some none
  cp : PySem.W.copiedNames.contains f = false
structure Meth (K : PySem.W.Frag) (C : Addr) (m : Str) (f : Addr) : Prop where
  at_ : PySem.W.findIn K (.ref C) m = some (some (.ref f))
  fn : PySem.W.isFn K (.ref f) = true
  kp : PySem.W.keepIn K (.ref f) = true
section
variable {X : Cx} {pins : List (Addr × Obj)} {σ : St} {H : Hp} {s : Shared} {a C dx : Addr} {fs : List (Str × V)} {f : Str} {v : V} {A : Around} {E : Value → Shared → Prop}
end
section
variable {X : Cx} {o e value : Expr} {f : Str} {pos pos' tpos : Pos} {ta tv : TE}
end
section
variable {X : Cx} {pins : List (Addr × Obj)} {σ : St} {H : Hp} {s : Shared} {A : Around} {E : Value → Shared → Prop} {Q : Value → Shared → Prop} {c : Value} {b : Bool}
inductive TyOf (K : PySem.W.Frag) (H : Hp) : V → Value → Prop where
  | non : TyOf K H .non (.type "NoneType")
  | bl (x : Bool) : TyOf K H (.bl x) (.type "bool")
  | int (i : Int) : TyOf K H (.int i) (.type "int")
  | str (x : Str) : TyOf K H (.str x) (.type "str")
  | flt (x : UInt64) : TyOf K H (.flt x) (.type "float")
  | lst {a : Addr} {xs : List V} (e : H a = some (.lst xs)) : TyOf K H (.ref a) (.type "list")
  | frz {a : Addr} {o : Obj} {xs : List V} (e : H a = some (.frz o (.lst xs))) : TyOf K H (.ref a) (.type "list")
  | tup {a : Addr} {xs : List V} (e : H a = some (.tup xs)) : TyOf K H (.ref a) (.type "tuple")
  | dK {a : Addr} {kvs : List (Key × V)} (e : H a = some (.dK kvs)) : TyOf K H (.ref a) (.type "dict")
  | dT {a : Addr} {kvs : List (List Key × V)} (e : H a = some (.dT kvs)) : TyOf K H (.ref a) (.type "dict")
  | ins {a C dx : Addr} {fs : List (Str × V)} (e : H a = some (.ins C dx fs)) (cl : Cls K C) (ha : PySem.W.findIn K (.ref C) "__class__" = some (some (.builtin "object.__class__")))
      (hn : PySem.W.specialIn K (.builtin "object.__class__") "__get__" = some (some (.builtin "getset_descriptor.__get__"))) (htk : PySem.W.takesIn K (.builtin "object.__class__") = some true)
      (hm : PySem.W.mroIn K C (.type "object") = some true) : TyOf K H (.ref a) (.ref C)
theorem isinst_ok {x : V} {u t : Value} (I : Inv X pins σ H s) (rx : RelV x u) (ty : TyOf X.K H x t) (e : PySem.W.kitOne X.K t c = some b) (h : ∀ tk, Q (.bool b) { s with toks := tk }) :
    wpAny (model X.prog X.w) A (call (.builtin "isinstance") [u, c]) Q E s := by
  cases ty with
  | non => cases (show u = Value.none from rx); exact PySem.W.kia_one PySem.W.kitx_none I.kIn True.intro e (fun z => nomatch z) h
  | bl y => cases (show u = Value.bool y from rx); exact PySem.W.kia_one PySem.W.kitx_bool I.kIn True.intro e (fun z => nomatch z) h
  | int i => obtain ⟨t, q⟩ := (show ∃ t, u = Value.int i t from rx); cases q; exact PySem.W.kia_one PySem.W.kitx_int I.kIn True.intro e (fun z => nomatch z) h
  | str y => obtain ⟨t, q⟩ := (show ∃ t, u = Value.str y t from rx); cases q; exact PySem.W.kia_one PySem.W.kitx_str I.kIn True.intro e (fun z => nomatch z) h
  | flt y => obtain ⟨t, q⟩ := (show ∃ t, u = Value.float y t from rx); cases q; exact PySem.W.kia_one PySem.W.kitx_float I.kIn True.intro e (fun z => nomatch z) h
  | @lst a xs ea =>
    cases (show u = Value.ref a from rx)
    obtain ⟨_, _, n, _, h1⟩ := (show ObjOk X.prog X.w H s.heap a (.lst xs) from I.hok a _ ea)
    exact PySem.W.kia_one PySem.W.kitx_list I.kIn ⟨_, h1, rfl⟩ e (fun z => nomatch z) h
  | @frz a ob xs ea =>
    cases (show u = Value.ref a from rx)
    obtain ⟨_, _, _, n, _, h1⟩ := (show ObjOk X.prog X.w H s.heap a (.frz ob (.lst xs)) from I.hok a _ ea)
    exact PySem.W.kia_one PySem.W.kitx_list I.kIn ⟨_, h1, rfl⟩ e (fun z => nomatch z) h
  | @tup a xs ea =>
    cases (show u = Value.ref a from rx)
    obtain ⟨_, _, _, p⟩ := (show ObjOk X.prog X.w H s.heap a (.tup xs) from I.hok a _ ea)
    obtain ⟨o, h1, h2, _⟩ := p
    exact PySem.W.kia_one PySem.W.kitx_tuple I.kIn ⟨o, h1, h2⟩ e (fun z => nomatch z) h
  | @dK a kvs ea =>
    cases (show u = Value.ref a from rx)
    obtain ⟨_, _, vs, _, p⟩ := (show ObjOk X.prog X.w H s.heap a (.dK kvs) from I.hok a _ ea)
    obtain ⟨o, es, ep, h1, h2, _⟩ := p
    exact PySem.W.kia_one PySem.W.kitx_dict I.kIn ⟨o, h1, h2.1⟩ e (fun z => nomatch z) h
  | @dT a kvs ea =>
    cases (show u = Value.ref a from rx)
    obtain ⟨_, _, xs, _, o, es, ep, h1, h2, _⟩ := (show ObjOk X.prog X.w H s.heap a (.dT kvs) from I.hok a _ ea)
    exact PySem.W.kia_one PySem.W.kitx_dict I.kIn ⟨o, h1, h2.1⟩ e (fun z => nomatch z) h
  | @ins a C dx fs ea cl ha hn htk hm =>
    cases (show u = Value.ref a from rx)
    obtain ⟨mA, O, _⟩ := ins_get I.hok ea
    obtain ⟨od, J, _⟩ := O.look
    exact PySem.W.kia_one (PySem.W.kitx_own (cl.get _) cl.hd ha hn htk hm) I.kIn J e (fun z => nomatch z) h
end
end L2
namespace L2
open PySem PySem.Spec PyProof.Rows
structure Room (k : Nat) (A : Around) : Prop where
  hd : A.handled = none
  dp : A.depth + 3 * k + 5 < recursionLimit
  un : A.units + 16 * k + 200 < cLine
theorem Room.mono {j k : Nat} {A : Around} (r : Room k A) (h : j ≤ k) : Room j A := ⟨r.hd, by have := r.dp; omega, by have := r.un; omega⟩
theorem Room.deeper {k : Nat} {A : Around} (r : Room (k + 1) A) (env : Env) : Room k (A.deeper env) :=
  ⟨r.hd, by have := r.dp; show A.depth + 1 + 3 * k + 5 < _; omega, by have := r.un; show A.units + 3 + 16 * k + 200 < _; omega⟩
theorem Room.in1 {k : Nat} {A : Around} (r : Room (k + 1) A) : Room k A.in1 :=
  ⟨r.hd, by have := r.dp; show A.depth + 3 * k + 5 < _; omega, by have := r.un; show A.units + 1 + 16 * k + 200 < _; omega⟩
theorem make_depth {A : Around} {C : Addr} {us : List Value} {kw : List (Str × Value)} : (A.under (.builtin "type.__call__" ⟨.ref C :: us, kw⟩)).depth = A.depth + 1 := by
  first | rfl | simp [Around.under, Code.weight, Code.isCreation, Code.isGuard, Code.isCaller, Code.frames, Code.isFrame, guardIds]
theorem make_units {A : Around} {C : Addr} {us : List Value} {kw : List (Str × Value)} : (A.under (.builtin "type.__call__" ⟨.ref C :: us, kw⟩)).units = A.units + 1 := by
  first | rfl | simp [Around.under, Code.cUnits, Code.frames, Code.isFrame]
theorem Room.make {k : Nat} {A : Around} (r : Room (k + 1) A) (C : Addr) (us : List Value) (kw : List (Str × Value)) : Room k (A.under (.builtin "type.__call__" ⟨.ref C :: us, kw⟩)) :=
  ⟨r.hd, by have := r.dp; rw [make_depth]; omega, by have := r.un; rw [make_units]; omega⟩
theorem Room.depth {k : Nat} {A : Around} (r : Room k A) : A.depth < recursionLimit := by have := r.dp; omega
theorem Room.units {k : Nat} {A : Around} (r : Room k A) : A.units + 64 < cLine := by have := r.un; omega
noncomputable def tNil : TA := fun _ H Q => Q [] H
noncomputable def tCons (ta : TE) (tr : TA) : TA := fun σ H Q => ta σ H fun x H1 => tr σ H1 fun xs H2 => Q (x :: xs) H2
section
variable {X : Cx} {e : Expr} {es : List Expr} {te : TE} {t : TA} {pos : Pos}
theorem pa_nil : PA X [] tNil := fun _ _ _ _ H Q I h => Calls.spliced_nil ⟨[], H, I, .nil, h⟩
theorem pa_cons (ha : PE X e te) (hr : PA X es t) (hs : starEach (e :: es) X.env = (false, eval e X.env) :: starEach es X.env := by rfl) : PA X (e :: es) (tCons te t) := by
  intro pos pins s σ H Q I h
  rw [hs]
  show wpAny _ _ (spliced ((false, eval e X.env) :: backTo pos (starEach es X.env))) _ _ s
  refine Calls.spliced_cons (thn (ha pins s σ H _ I h) fun u s1 ⟨x, H1, I1, r1, q1⟩ => ?_)
  exact thn (hr pos pins s1 σ H1 _ I1 q1) fun us s2 ⟨xs, H2, I2, r2, q2⟩ => ⟨x :: xs, H2, I2, .cons r1 r2, q2⟩
noncomputable def tTup (t : TA) : TE := fun σ H Q => t σ H fun xs H1 => xs.length ≤ sizeLine ∧ ∀ p, H1 p = none → Q (.ref p) (upd H1 p (.tup xs))
noncomputable def tLst (t : TA) : TE := fun σ H Q => t σ H fun xs H1 => xs.length ≤ sizeLine ∧ ∀ p, H1 p = none → Q (.ref p) (upd H1 p (.lst xs))
theorem pe_tup {x1} (h : PA X es t) : PE X (.Tuple es x1 pos) (tTup t) := by
  intro pins s σ H Q I hq
  refine wpAny_Tuple_spliced (thn (h pos pins s σ H _ I hq) fun us s1 ⟨xs, H1, I1, r, z, q⟩ => ⟨by rw [← r.length]; exact z, ?_⟩)
  have hf : H1 s1.heap.objs.size = none := I1.hok.fresh (Nat.le_refl _)
  refine ⟨.ref s1.heap.objs.size, upd H1 s1.heap.objs.size (.tup xs), I1.laid (t' := s1.toks) (fun b u e => Heap.get?_push_of_some _ e) (Nat.le_refl _) ?_, rfl, q _ hf⟩
  exact ⟨z, us, r, ⟨_, Heap.get?_push_size _ rfl, rfl, _, rfl⟩⟩
theorem pe_lst (h : PA X es t) : PE X (.List es pos) (tLst t) := by
  intro pins s σ H Q I hq
  refine wpAny_List_spliced (thn (h pos pins s σ H _ I hq) fun us s1 ⟨xs, H1, I1, r, z, q⟩ => ⟨by rw [← r.length]; exact z, ?_⟩)
  have hf : H1 s1.heap.objs.size = none := I1.hok.fresh (Nat.le_refl _)
  refine ⟨.ref s1.heap.objs.size, upd H1 s1.heap.objs.size (.lst xs), I1.laid (t' := s1.toks) (fun b u e => Heap.get?_push_of_some _ e) (Nat.le_refl _) ?_, rfl, q _ hf⟩
  exact ⟨z, us, 0, r, Heap.get?_push_size _ rfl⟩
end
abbrev Sp := List V → Hp → VK → XK → Prop
abbrev CXT := List Env → Hp → Shared → XK → Value → Shared → Prop
structure Env0 (P : Program) (w : World) (K : PySem.W.Frag) (mg : Str → Option Value) (base : Heap) (A : Around) (outer : List Env) (s : Shared) (H : Hp) : Prop where
  frames : A.frames = some outer
  mod : Mod K mg base
  bs : ∀ b o, base.get? b = some o → s.heap.get? b = some o ∧ H b = none
  bsz : base.objs.size ≤ s.heap.objs.size
  funs : s.heap.FunFrames base outer
  frf : ∀ b ∈ frs outer, H b = none
  hok : HOk P w H s.heap
  bare : AllBare s.gens
noncomputable def CE (outer : List Env) (P : Program) (w : World) (H : Hp) (s : Shared) (Q : VK) (u : Value) (s' : Shared) : Prop :=
  ∃ v H', s'.os = s.os ∧ AllBare s'.gens ∧ Un (frs outer) [] H H' s.heap s'.heap ∧ HOk P w H' s'.heap ∧ RelV v u ∧ Q v H'
noncomputable def CR (CX : CXT) (outer : List Env) (P : Program) (w : World) (H : Hp) (s : Shared) (Q : VK) (E : XK) (r : Result) (s' : Shared) : Prop :=
  match r with
  | .ok (.ret u) => CE outer P w H s Q u s'
  | .ok _ => False
  | .error e => CX outer H s E e s'
structure FnOk (P : Program) (w : World) (K : PySem.W.Frag) (mg : Str → Option Value) (base : Heap) (CX : CXT) (k : Nat) (f : Addr) (fd : FuncData) (ps : List Str) (sp : Sp) : Prop where
  len : ∀ vs H Q E, sp vs H Q E → vs.length = ps.length
  run : ∀ (A : Around) (outer : List Env) (s : Shared) (H : Hp) (args : Args) (us : List Value) (vs : List V) (Q : VK) (E : XK), Room k A → Env0 P w K mg base A outer s H → BindsTo s fd args (ps.zip us) → Vals vs us → sp vs H Q E →
    codeAny (model P w) A (.call (.ref f) args) (CR CX outer P w H s Q E) s
theorem FnOk.mono {P : Program} {w : World} {K : PySem.W.Frag} {mg : Str → Option Value} {base : Heap} {CX : CXT} {j k : Nat} {f : Addr} {fd : FuncData} {ps : List Str} {sp : Sp} (F : FnOk P w K mg base CX j f fd ps sp) (h : j ≤ k) :
    FnOk P w K mg base CX k f fd ps sp := ⟨F.len, fun A outer s H args us vs Q E hr => F.run A outer s H args us vs Q E (hr.mono h)⟩
theorem FnOk.imp {P : Program} {w : World} {K : PySem.W.Frag} {mg : Str → Option Value} {base : Heap} {CX : CXT} {k : Nat} {f : Addr} {fd : FuncData} {ps : List Str} {sp sp' : Sp} (F : FnOk P w K mg base CX k f fd ps sp)
    (h : ∀ vs H Q E, sp' vs H Q E → sp vs H Q E) : FnOk P w K mg base CX k f fd ps sp' :=
  ⟨fun vs H Q E q => F.len vs H Q E (h _ _ _ _ q), fun A outer s H args us vs Q E hr he hb hv hs => F.run A outer s H args us vs Q E hr he hb hv (h _ _ _ _ hs)⟩
theorem Env0.make {P : Program} {w : World} {K : PySem.W.Frag} {mg : Str → Option Value} {base : Heap} {A : Around} {outer : List Env} {s : Shared} {H : Hp} (e : Env0 P w K mg base A outer s H) (C : Addr) (us : List Value) (kw : List (Str × Value)) :
    Env0 P w K mg base (A.under (.builtin "type.__call__" ⟨.ref C :: us, kw⟩)) outer s H := ⟨by first | exact e.frames | (simpa [Around.under, Code.envs, Code.isFrame, pushEnvs] using e.frames), e.mod, e.bs, e.bsz, e.funs, e.frf, e.hok, e.bare⟩
theorem Env0.in1 {P : Program} {w : World} {K : PySem.W.Frag} {mg : Str → Option Value} {base : Heap} {A : Around} {outer : List Env} {s : Shared} {H : Hp} (e : Env0 P w K mg base A outer s H) :
    Env0 P w K mg base A.in1 outer s H := ⟨e.frames, e.mod, e.bs, e.bsz, e.funs, e.frf, e.hok, e.bare⟩
section
variable {X : Cx} {pins : List (Addr × Obj)} {σ : St} {H : Hp} {s s' : Shared}
theorem Inv.env0 (I : Inv X pins σ H s) : Env0 X.prog X.w X.K X.mg X.base X.A X.stack s H :=
  ⟨I.ok.frames, I.ok.mod, I.bs, Nat.le_trans I.ok.bsz I.sz, I.stack, I.stkFree, I.hok, I.bare⟩
theorem Inv.after {Q : VK} {u : Value} (I : Inv X pins σ H s) (h : CE X.stack X.prog X.w H s Q u s') : EP X pins σ Q u s' := by
  obtain ⟨v, H', os, bare, un, hok, r, q⟩ := h
  obtain ⟨hh, g, d, t, os'⟩ := s'
  obtain rfl : os' = s.os := os
  exact ⟨v, H', I.call (h' := hh) (g' := g) (d' := d) (t' := t) (ch := []) un hok bare (fun b z => absurd z (by simp)), r, q⟩
end
noncomputable def tCall (sp : Sp) (dvs : List V) (E : XK) (t : TA) : TE := fun σ H Q => t σ H fun vs H1 => sp (vs ++ dvs) H1 Q E
noncomputable def Binds (K : PySem.W.Frag) (fd : FuncData) (ps : List Str) (ds : List Value) : Prop :=
  ∀ (s : Shared) (us : List Value), K.In s.heap → (us ++ ds).length = ps.length → BindsTo s fd ⟨us, []⟩ (ps.zip (us ++ ds))
theorem Binds.all {K : PySem.W.Frag} {fd : FuncData} {ps : List Str} (h : ∀ us : List Value, us.length = ps.length → bindArgs fd ⟨us, []⟩ = pure (ps.zip us)) : Binds K fd ps [] := fun s us _ hl => by
  rw [List.append_nil] at hl ⊢
  exact .of_eq (h us hl)
noncomputable def Passes (CX : CXT) (X : Cx) (E : XK) : Prop := ∀ (pins : List (Addr × Obj)) (σ : St) (H : Hp) (s : Shared) (e : Value) (s' : Shared), Inv X pins σ H s → CX X.stack H s E e s' → X.xe e s'
section
variable {X : Cx} {CX : CXT} {k : Nat} {f C : Addr} {fd : FuncData} {ps : List Str} {sp : Sp} {dvs : List V} {ds : List Value} {E : XK} {x m : Str} {p pos apos : Pos} {e o : Expr} {es : List Expr} {ta : TE} {t : TA}
theorem run_fn {pins : List (Addr × Obj)} {σ : St} {H : Hp} {s : Shared} {Q : VK} {us : List Value} {vs : List V} (F : FnOk X.prog X.w X.K X.mg X.base CX k f fd ps sp) (hr : Room k X.A) (hb : Binds X.K fd ps ds) (hd : Vals dvs ds) (hx : Passes CX X E)
    (I : Inv X pins σ H s) (r : Vals vs us) (h : sp (vs ++ dvs) H Q E) : wpAny (model X.prog X.w) X.A (call (.ref f) us) (EP X pins σ Q) X.xe s := by
  have r2 : Vals (vs ++ dvs) (us ++ ds) := r.append hd
  have hl : (us ++ ds).length = ps.length := by rw [← r2.length]; exact F.len _ _ _ _ h
  refine wpAny_call (codeAny_mono (F.run X.A X.stack s H ⟨us, []⟩ (us ++ ds) (vs ++ dvs) Q E hr I.env0 (hb s us I.kIn hl) r2 h) fun r s' hq => ?_)
  cases r with
  | error e => exact hx pins σ H s e s' I hq
  | ok fl =>
    cases fl with
    | ret u => exact I.after hq
    | next => exact False.elim hq
    | brk => exact False.elim hq
    | cont => exact False.elim hq
theorem pe_call (F : FnOk X.prog X.w X.K X.mg X.base CX k f fd ps sp) (hr : Room k X.A) (hg : Gl X x) (hm : X.mg x = some (.ref f)) (hk : PySem.W.keepIn X.K (.ref f) = true) (hb : Binds X.K fd ps ds) (hd : Vals dvs ds) (hx : Passes CX X E)
    (ha : PA X (e :: es) t) (hdb : (x == ("__debug__" : Str)) = false := by decide) (he : starEach (e :: es) X.env = (false, eval e X.env) :: starEach es X.env := by rfl) (hpl : (backTo pos (starEach es X.env)).any (·.1) = false := by rfl) :
    PE X (.Call (.Name x p) (e :: es) [] pos) (tCall sp dvs E t) := by
  intro pins s σ H Q I h
  refine wpAny_Call_Name_kw (ld_glob I hg hm ?_ hdb)
  refine PySem.W.callWith_K (h₀ := X.base) I.ok.mod.kin hk (thn (ha pos pins s σ H _ I h) fun us s1 ⟨vs, H1, I1, r, q⟩ => ⟨I1.kIn, ?_⟩) he hpl
  exact run_fn F hr hb hd hx I1 r q
structure Mk (K : PySem.W.Frag) (C f : Addr) : Prop where
  makes : PySem.W.makesIn K C = true
  init : PySem.W.findIn K (.ref C) "__init__" = some (some (.ref f))
  fn : PySem.W.isFn K (.ref f) = true
  kp : PySem.W.keepIn K (.ref C) = true
end
section
variable {X : Cx} {CX : CXT} {k : Nat} {f C : Addr} {fd : FuncData} {ps ks : List Str} {sp : Sp} {E : XK} {x m : Str} {p pos apos kpos : Pos} {e o : Expr} {es : List Expr} {kws : List Keyword} {te ta : TE} {t tk : TA} {nm : Option Str}
structure KBinds (K : PySem.W.Frag) (fd : FuncData) (ps ks : List Str) (g : List Value → List Value → List Value) (gV : List V → List V → List V) : Prop where
  to : ∀ (s : Shared) (us ws : List Value), K.In s.heap → (g us ws).length = ps.length → BindsTo s fd ⟨us, ks.zip ws⟩ (ps.zip (g us ws))
  rel : ∀ {vs : List V} {us : List Value} {zs : List V} {ws : List Value}, Vals vs us → Vals zs ws → Vals (gV vs zs) (g us ws)
variable {g : List Value → List Value → List Value} {gV : List V → List V → List V}
end
structure FnScope (N P : List Str) (sc : Scope) : Prop where
  kind : sc.kind = .function
  co : sc.isCoroutine = false
  gen : sc.isGenerator = false
  nd : N.Nodup
  pre : N.take P.length = P
  par : ∀ x ∈ P, sc.names.lookup x = some .local ∨ sc.names.lookup x = some .cell
  nofree : ∀ y ∈ sc.names, y.2 ≠ .free
theorem bindL_out {kindOf : Str → Option NameKind} {x : Str} : ∀ {binds : List (Str × Value)} {m : Str → Option Value}, (∀ v, (x, v) ∉ binds) → bindL kindOf binds m x = m x
  | [], _, _ => rfl
  | (n, v) :: r, m, h => by
    unfold bindL
    rw [bindL_out fun w hw => h w (List.mem_cons_of_mem _ hw)]
    split
    · have : x ≠ n := by rintro rfl; exact h v List.mem_cons_self
      simp [this]
    · rfl
theorem bindC_out {kindOf : Str → Option NameKind} {x : Str} : ∀ {binds : List (Str × Value)} {m : Str → Option Value}, (∀ v, (x, v) ∉ binds) → bindC kindOf binds m x = m x
  | [], _, _ => rfl
  | (n, v) :: r, m, h => by
    unfold bindC
    rw [bindC_out fun w hw => h w (List.mem_cons_of_mem _ hw)]
    split
    · rfl
    · have : x ≠ n := by rintro rfl; exact h v List.mem_cons_self
      simp [this]
theorem bindL_get {kindOf : Str → Option NameKind} {x : Str} {v : Value} : ∀ {P : List Str} {vs : List Value} {i : Nat} {m : Str → Option Value}, P.Nodup → P[i]? = some x → vs[i]? = some v → kindOf x = some .local →
    bindL kindOf (P.zip vs) m x = some v
  | [], _, _, _, _, h, _, _ => by simp at h
  | _ :: _, [], _, _, _, _, h, _ => by simp at h
  | p :: P, w :: vs, 0, m, nd, h1, h2, hk => by
    simp at h1 h2; subst h1; subst h2
    show bindL kindOf ((p, w) :: P.zip vs) m p = _
    unfold bindL
    rw [bindL_out fun v hv => (List.nodup_cons.mp nd).1 (List.of_mem_zip hv).1, if_pos hk]
    simp
  | p :: P, w :: vs, i + 1, m, nd, h1, h2, hk => by
    show bindL kindOf ((p, w) :: P.zip vs) m x = _
    unfold bindL
    exact bindL_get (i := i) (List.nodup_cons.mp nd).2 (by simpa using h1) (by simpa using h2) hk
theorem bindC_get {kindOf : Str → Option NameKind} {x : Str} {v : Value} : ∀ {P : List Str} {vs : List Value} {i : Nat} {m : Str → Option Value}, P.Nodup → P[i]? = some x → vs[i]? = some v → kindOf x ≠ some .local →
    bindC kindOf (P.zip vs) m x = some v
  | [], _, _, _, _, h, _, _ => by simp at h
  | _ :: _, [], _, _, _, _, h, _ => by simp at h
  | p :: P, w :: vs, 0, m, nd, h1, h2, hk => by
    simp at h1 h2; subst h1; subst h2
    show bindC kindOf ((p, w) :: P.zip vs) m p = _
    unfold bindC
    rw [bindC_out fun v hv => (List.nodup_cons.mp nd).1 (List.of_mem_zip hv).1, if_neg hk]
    simp
  | p :: P, w :: vs, i + 1, m, nd, h1, h2, hk => by
    show bindC kindOf ((p, w) :: P.zip vs) m x = _
    unfold bindC
    exact bindC_get (i := i) (List.nodup_cons.mp nd).2 (by simpa using h1) (by simpa using h2) hk
noncomputable def start (N : List Str) (vs : List V) : St := vs.map some ++ List.replicate (N.length - vs.length) none
noncomputable def cxOf (CX : CXT) (P : Program) (w : World) (K : PySem.W.Frag) (mg : Str → Option Value) (base : Heap) (N : List Str) (qual : Str) (scope : Scope) (f : Addr) (cd : Value) (A : Around) (outer : List Env) (s : Shared) (H : Hp) (E : XK) : Cx where
  prog := P
  w := w
  K := K
  mg := mg
  base := base
  A := A.deeper (envOfC qual scope s.heap.objs.size f cd)
  N := N
  s₀ := s
  H₀ := H
  env := envOfC qual scope s.heap.objs.size f cd
  outer := outer
  stack := envOfC qual scope s.heap.objs.size f cd :: outer
  ex := []
  calm := true
  fn := fun _ => true
  pn := []
  xe := fun e s' => wpAny (model P w) (A.deeper (envOfC qual scope s.heap.objs.size f cd)) (leaving (envOfC qual scope s.heap.objs.size f cd) e) (fun _ s'' => CX outer H s E e s'') (fun e' s'' => CX outer H s E e' s'') s'
theorem cell_has {sc : Scope} {n : Nat} {x : Str} (h : sc.names.lookup x = some .cell) : ∃ c, (cellsFrom n sc.names []).lookup x = some c := by
  have q := PySem.W.cellsFrom_some sc.names n [] (.inl h)
  exact Option.isSome_iff_exists.mp q
theorem inv_start {CX : CXT} {P : Program} {w : World} {K : PySem.W.Frag} {mg : Str → Option Value} {base : Heap} {N ps : List Str} {qual : Str} {scope : Scope} {f : Addr} {cd : Value} {A : Around} {outer : List Env} {s s1 : Shared} {H : Hp} {E : XK} {us : List Value} {vs : List V}
    (S : FnScope N ps scope) (hd : A.handled = none) (e0 : Env0 P w K mg base A outer s H) (hl : vs.length = ps.length) (r : Vals vs us)
    (x : InCallC s s.heap.objs.size (bindL (envOfC qual scope s.heap.objs.size f cd).kindOf (ps.zip us) fun _ => none) (cellsFrom (s.heap.objs.size + 1) scope.names []) (bindC (envOfC qual scope s.heap.objs.size f cd).kindOf (ps.zip us) fun _ => none) s1) :
    Inv (cxOf CX P w K mg base N qual scope f cd A outer s H E) [] (start N vs) H s1 := by
  have hpl : ps.length ≤ N.length := by have := congrArg List.length S.pre; rw [List.length_take] at this; omega
  obtain ⟨h1, tk, rfl, hk⟩ := x.done
  have noA : ∀ b : Addr, b ∉ (cxOf CX P w K mg base N qual scope f cd A outer s H E).ex := fun b z => absurd (show b ∈ ([] : List Addr) from z) (by simp)
  refine ⟨⟨e0.mod, S.kind, rfl, rfl, Nat.le_refl _, fun y z c h1 h2 => ?_, fun y hy => ?_, fun y c _ h => ?_, fun _ => hd, Around.frames_deeper e0.frames, .inr ⟨rfl, rfl⟩, fun b z => absurd z (noA b), e0.bs, e0.bsz, fun b _ _ => noA b, fun b z => absurd z (noA b), e0.funs, e0.frf⟩,
    rfl, e0.bare, Un.kept hk, ⟨_, x.toInCall.ns, fun i y v h1 h2 h3 => ?_⟩, fun y c h => ⟨_, x.cell y c h⟩, e0.hok.fresh (Nat.le_refl _), fun y c h => ?_, fun p hp => absurd (show p ∈ ([] : List (Addr × Obj)) from hp) (by simp), e0.hok.kept hk, ?_⟩
  · exact name_of_addr x.apart (PySem.mem_of_lookup h1) (PySem.mem_of_lookup h2)
  · have hy : scope.names.lookup y = some .cell ∨ scope.names.lookup y = some .free := hy
    rcases hy with hy | hy
    · exact cell_has hy
    · exact absurd rfl (S.nofree _ (PySem.mem_of_lookup hy))
  · exact Nat.le_of_lt (x.above y c (PySem.mem_of_lookup h))
  · have hi : i < vs.length := by
      unfold start at h2
      by_cases hi : i < vs.length
      · exact hi
      · rw [List.getElem?_append_right (by simpa using hi)] at h2
        rw [List.getElem?_replicate] at h2
        split at h2 <;> cases h2
    have ha : vs[i]? = some v := by
      unfold start at h2
      rw [List.getElem?_append_left (by simpa using hi), List.getElem?_map] at h2
      cases e : vs[i]? with
      | none => rw [e] at h2; cases h2
      | some a => rw [e] at h2; cases h2; rfl
    obtain ⟨u, hu, rv⟩ := r.get ha
    have hp : ps[i]? = some y := by
      rw [← S.pre, List.getElem?_take_of_lt (by omega)]; exact h1
    have ndP : ps.Nodup := by rw [← S.pre]; exact S.nd.sublist (List.take_sublist _ _)
    refine ⟨u, rv, ?_⟩
    rcases S.par y (List.mem_of_getElem? hp) with k | k
    · exact .inl ⟨k, bindL_get ndP hp hu k⟩
    · obtain ⟨c, e⟩ := cell_has (n := s.heap.objs.size + 1) k
      refine .inr ⟨.inl k, c, e, ?_⟩
      have q := x.cell y c e
      rw [bindC_get ndP hp hu (by show scope.names.lookup y ≠ _; rw [k]; decide)] at q
      exact q
  · exact e0.hok.fresh (Nat.le_of_lt (x.above y c (PySem.mem_of_lookup h)))
  · unfold start
    show _ = N.length
    rw [List.length_append, List.length_map, List.length_replicate]
    omega
theorem fn_of {CX : CXT} {P : Program} {w : World} {K : PySem.W.Frag} {mg : Str → Option Value} {base : Heap} {k : Nat} {f : Addr} {name qual : Str} {params : Arguments} {body : List Stmt} {scope : Scope} {dV kV doc pm cdv ct oc : Value} {an od : Option Addr}
    {osl : Array (Option Value)} {N ps : List Str} {sp : Sp} (lk : K.lookup f = some ⟨oc, od, .func (PySem.W.fnOf name qual params body scope dV kV doc pm an cdv ct), osl⟩) (hcd : PySem.W.codeIn K cdv qual = true) (S : FnScope N ps scope)
    (len : ∀ vs H Q E, sp vs H Q E → vs.length = ps.length)
    (hbody : ∀ (A : Around) (outer : List Env) (s : Shared) (H : Hp) (vs : List V) (Q : VK) (E : XK), Room k (A.deeper (envOfC qual scope s.heap.objs.size f cdv)) → sp vs H Q E →
      ∃ t, PSs (cxOf CX P w K mg base N qual scope f cdv A outer s H E) body t ∧ t { nx := fun _ H' => Q .non H', rt := Q } (start N vs) H) :
    FnOk P w K mg base CX (k + 1) f (PySem.W.fnOf name qual params body scope dV kV doc pm an cdv ct) ps sp := by
  refine ⟨len, fun A outer s H args us vs Q E hr e0 hb r hsp => ?_⟩
  have hl := len _ _ _ _ hsp
  have KX : K.In s.heap := e0.mod.kin.keeps fun b o e => (e0.bs b o e).1
  have lim : s.heap.NoLimit := e0.mod.nolimit.keeps fun b o e => (e0.bs b o e).1
  have hkind : ∀ y ∈ ps.zip us, scope.names.lookup y.1 = some .local ∨ (scope.names.lookup y.1 = some .cell ∧ ((cellsFrom (s.heap.objs.size + 1) scope.names []).lookup y.1).isSome = true) := fun ⟨n, v⟩ hy => by
    rcases S.par n (List.of_mem_zip hy).1 with q | q
    · exact .inl q
    · exact .inr ⟨q, PySem.W.cellsFrom_some _ _ _ (.inl q)⟩
  refine codeAny_call_function hr.depth (KX _ _ lk) rfl S.co S.gen rfl (PySem.W.codeRec_of KX hcd) (hb _ _ _ _ ?_)
  refine wpAny_newFunctionEnv_cells S.kind hkind fun env he s1 x => ?_
  subst he
  refine ⟨lim.keeps x.toInCall.keep, codeAny_func ?_⟩
  obtain ⟨t, ht, hq⟩ := hbody A outer s H vs Q E (hr.deeper _) hsp
  have I : Inv (cxOf CX P w K mg base N qual scope f cdv A outer s H E) [] (start N vs) H s1 := inv_start S hr.hd e0 hl r x
  refine wpAny_mono (ht [] s1 (start N vs) H _ I hq) (fun fl s' hs => ?_) fun e s' hs => hs
  have fin : ∀ {σ' : St} {H' : Hp} {v : V} {u : Value}, Inv (cxOf CX P w K mg base N qual scope f cdv A outer s H E) [] σ' H' s' → RelV v u → Q v H' → CE outer P w H s Q u s' :=
    fun {σ' H' v u} J rv q => ⟨v, H', J.os, J.bare, J.base, J.hok, rv, q⟩
  cases fl with
  | ret u =>
    obtain ⟨v, σ', H', J, rv, q⟩ := hs
    exact fin J rv q
  | next =>
    obtain ⟨σ', H', J, q⟩ := hs
    exact fin (v := V.non) (u := Value.none) J rfl q
  | brk =>
    obtain ⟨_, _, _, q⟩ := hs
    exact False.elim q
  | cont =>
    obtain ⟨_, _, _, q⟩ := hs
    exact False.elim q
end L2
namespace L2
open PySem PySem.Spec PyProof.Rows
section
variable {X : Cx} {x : Str} {p pos : Pos} {e : Expr} {es : List Expr} {t : TA} {id T : String} {r : List V → Hp → VK → Prop}
noncomputable def tCB (r : List V → Hp → VK → Prop) (t : TA) : TE := fun σ H Q => t σ H fun vs H1 => r vs H1 Q
theorem pe_callB (hc : CallR X (.builtin id) r) (hg : Gl X x) (hm : X.mg x = none) (hv : bootBuiltins x = some (.builtin id)) (ha : PA X (e :: es) t) (hn : x ≠ "__name__" := by decide) (hdb : (x == ("__debug__" : Str)) = false := by decide)
    (he : starEach (e :: es) X.env = (false, eval e X.env) :: starEach es X.env := by rfl) (hpl : (backTo pos (starEach es X.env)).any (·.1) = false := by rfl) : PE X (.Call (.Name x p) (e :: es) [] pos) (tCB r t) := by
  intro pins s σ H Q I h
  refine wpAny_Call_Name_kw (ld_blt I hg hm hv ?_ hn hdb)
  exact PyProof.Rows.callWith_builtin1 (thn (ha pos pins s σ H _ I h) fun us s1 ⟨vs, H1, I1, r1, q1⟩ => hc pins s1 σ H1 vs us Q I1 r1 q1) he hpl
theorem pe_callTy (hc : CallR X (.type T) r) (hg : Gl X x) (hm : X.mg x = none) (hv : bootBuiltins x = some (.type T)) (ha : PA X (e :: es) t) (hn : x ≠ "__name__" := by decide) (hdb : (x == ("__debug__" : Str)) = false := by decide)
    (he : starEach (e :: es) X.env = (false, eval e X.env) :: starEach es X.env := by rfl) (hpl : (backTo pos (starEach es X.env)).any (·.1) = false := by rfl) : PE X (.Call (.Name x p) (e :: es) [] pos) (tCB r t) := by
  intro pins s σ H Q I h
  refine wpAny_Call_Name_kw (ld_blt I hg hm hv ?_ hn hdb)
  exact PyProof.Rows.callWith_type1 (thn (ha pos pins s σ H _ I h) fun us s1 ⟨vs, H1, I1, r1, q1⟩ => hc pins s1 σ H1 vs us Q I1 r1 q1) he hpl
end
end L2
namespace HT
open PySem PyProof.Rows
section
open PySem.SeqAt
open PySem.AutoSeq1 (wpAny_loadPart')
open PySem.MeetsSeq PySem.MeetsSeq2 PySem.MeetsSeq3
end
section
variable {prog : Program} {w : World} {A : Around} {E : Value → Shared → Prop} {s : Shared}
end
end HT
namespace L2
open PySem PySem.Spec PyProof.Rows
abbrev TO := St → Hp → (Option Int → Hp → Prop) → Prop
theorem intsAre_of {ns : List Int} : ∀ {us : List Value}, Vals (ns.map V.int) us → IntsAre us ns := by
  induction ns with
  | nil => intro us r; rw [List.map_nil] at r; cases r; exact .nil
  | cons n ns ih =>
    intro us r
    rw [List.map_cons] at r
    cases r with
    | cons r1 r2 =>
      obtain ⟨t, e⟩ := r1
      subst e
      exact .cons n t (ih r2)
section
variable {X : Cx} {e : Expr} {te : TE} {lo hi : Option Expr} {tl th : TO} {pos p2 : Pos}
noncomputable def SlR (X : Cx) (r : V → Option Int → Option Int → Hp → VK → Prop) : Prop :=
  ∀ (pins : List (Addr × Obj)) (s : Shared) (σ : St) (H : Hp) (x : V) (v vl vu : Value) (lo hi : Option Int) (sl : Addr) (Q : VK), Inv X pins σ H s → RelV x v → s.heap.IsSliceOf sl vl vu .none → IsPart vl lo → IsPart vu hi → r x lo hi H Q →
    ∃ T id, typeLookup (.type T) "__getitem__" = pure (some (.builtin id)) ∧ s.TypeIs v T ∧ wpAny (model X.prog X.w) X.A (getItem v (.ref sl)) (EP X pins σ Q) X.xe s
theorem SlR.or {r r' : V → Option Int → Option Int → Hp → VK → Prop} (h : SlR X r) (h' : SlR X r') : SlR X (fun x lo hi H Q => r x lo hi H Q ∨ r' x lo hi H Q) := by
  intro pins s σ H x v vl vu lo hi sl Q I rx hs pl pu q
  rcases q with q | q
  · exact h pins s σ H x v vl vu lo hi sl Q I rx hs pl pu q
  · exact h' pins s σ H x v vl vu lo hi sl Q I rx hs pl pu q
end
end L2
namespace L2
open PySem PySem.Spec PyProof.Rows
noncomputable def ixN (n : Nat) (i : Int) : Option Nat := if 0 ≤ i then (if i < n then some i.toNat else none) else if -(n : Int) ≤ i then some (i + n).toNat else none
noncomputable def atI {α : Type} (xs : List α) (i : Int) : Option α := (ixN xs.length i).bind fun j => xs[j]?
theorem ixN_seq {n : Nat} {i : Int} {j : Nat} (h : ixN n i = some j) : seqIndex? i n = some j ∧ j < n ∧ -(n : Int) ≤ i ∧ i < n := by
  unfold ixN at h
  by_cases h0 : 0 ≤ i
  · rw [if_pos h0] at h
    by_cases h1 : i < n
    · rw [if_pos h1] at h
      have e : i.toNat = j := Option.some.inj h
      exact ⟨by rw [seqIndex_of h0 h1, e], by omega, by omega, h1⟩
    · rw [if_neg h1] at h; cases h
  · rw [if_neg h0] at h
    by_cases h1 : -(n : Int) ≤ i
    · rw [if_pos h1] at h
      have e : (i + n).toNat = j := Option.some.inj h
      exact ⟨by rw [seqIndex_neg (by omega) h1, e], by omega, h1, by omega⟩
    · rw [if_neg h1] at h; cases h
theorem atI_get {α : Type} {xs : List α} {i : Int} {v : α} (h : atI xs i = some v) : ∃ j, seqIndex? i xs.length = some j ∧ xs[j]? = some v ∧ j < xs.length ∧ -(xs.length : Int) ≤ i ∧ i < xs.length := by
  unfold atI at h
  cases e : ixN xs.length i with
  | none => rw [e] at h; cases h
  | some j =>
    rw [e] at h
    obtain ⟨h1, h2, h3, h4⟩ := ixN_seq e
    exact ⟨j, h1, h, h2, h3, h4⟩
theorem atI_nat {α : Type} {xs : List α} {j : Nat} {v : α} (h : xs[j]? = some v) : atI xs (j : Int) = some v := by
  have hj : j < xs.length := (List.getElem?_eq_some_iff.mp h).1
  have e : ixN xs.length (j : Int) = some j := by
    unfold ixN
    rw [if_pos (by omega), if_pos (by omega)]; simp
  unfold atI; rw [e]; exact h
noncomputable def PlainIx (b : Expr) : Prop := ∀ o i, subscripted b false o i = operate [o, i] (getItem o i)
noncomputable def IxR (X : Cx) (r : R2) : Prop :=
  ∀ (value slice : Expr) (pins : List (Addr × Obj)) (s : Shared) (σ : St) (H : Hp) (x y : V) (v u : Value) (Q : VK), Inv X pins σ H s → RelV x v → RelV y u → r x y H Q →
    subscripted slice false v u = operate [v, u] (getItem v u) → wpAny (model X.prog X.w) X.A (subscriptTail value slice v u) (EP X pins σ Q) X.xe s
noncomputable def MtR (X : Cx) (id : String) (r : V → List V → Hp → VK → Prop) : Prop :=
  ∀ (pins : List (Addr × Obj)) (s : Shared) (σ : St) (H : Hp) (x : V) (xs : List V) (v : Value) (us : List Value) (Q : VK), Inv X pins σ H s → RelV x v → Vals xs us → r x xs H Q →
    wpAny (model X.prog X.w) X.A (call (.builtin id) (v :: us)) (EP X pins σ Q) X.xe s
section
variable {X : Cx} {a b : Expr} {ta tb : TE} {pos : Pos}
theorem IxR.or {r r' : R2} (h : IxR X r) (h' : IxR X r') : IxR X (fun x y H Q => r x y H Q ∨ r' x y H Q) := by
  intro value slice pins s σ H x y v u Q I rx ry q hs
  rcases q with q | q
  · exact h value slice pins s σ H x y v u Q I rx ry q hs
  · exact h' value slice pins s σ H x y v u Q I rx ry q hs
theorem MtR.or {id : String} {r r' : V → List V → Hp → VK → Prop} (h : MtR X id r) (h' : MtR X id r') : MtR X id (fun x xs H Q => r x xs H Q ∨ r' x xs H Q) := by
  intro pins s σ H x xs v us Q I rx rs q
  rcases q with q | q
  · exact h pins s σ H x xs v us Q I rx rs q
  · exact h' pins s σ H x xs v us Q I rx rs q
theorem pe_ix {r : R2} (hr : IxR X r) (ha : PE X a ta) (hb : PE X b tb) (hs : PlainIx b) : PE X (.Subscript a b pos) (tOp r ta tb) := by
  intro pins s σ H Q I h
  exact Subscript_ (binT ha hb I h fun v u s2 x y H2 I2 rx ry q => hr a b pins s2 σ H2 x y v u Q I2 rx ry q (hs _ _))
noncomputable def rIxL (K : PySem.W.Frag) : R2 := fun x y H Q => ∃ p xs i v, x = .ref p ∧ y = .int i ∧ SqL K H p xs ∧ atI xs i = some v ∧ Q v H
noncomputable def rIxT (K : PySem.W.Frag) : R2 := fun x y H Q => ∃ p xs i v, x = .ref p ∧ y = .int i ∧ SqT K H p xs ∧ atI xs i = some v ∧ Q v H
theorem ix_list : IxR X (rIxL X.K) := by
  intro value slice pins s σ H x y v u Q I rx ry h hs
  obtain ⟨p, xs, i, z, rfl, rfl, hq, he, q⟩ := h
  cases rx
  obtain ⟨t, rfl⟩ := ry
  obtain ⟨its, r, pl, hz⟩ := I.list hq
  obtain ⟨j, h1, h2, h3, h4, h5⟩ := atI_get he
  obtain ⟨w, ew, rw'⟩ := r.get h2
  have hl := r.length
  have hn := line63
  have fin : EP X pins σ Q w s := ⟨z, H, I, rw', q⟩
  by_cases h0 : 0 ≤ i
  · have hj : i.toNat = j := by
      rw [seqIndex_of h0 h5] at h1
      exact Option.some.inj h1
    exact item_listR pl.isList h0 (by omega) (by rw [hj]; simpa using ew) fin hs
  · have hj : (i + (its.toArray.size : Int)).toNat = j := by
      rw [seqIndex_neg (by omega) h4] at h1
      rw [List.size_toArray, ← hl]
      exact Option.some.inj h1
    exact subscriptTail_builtinR (x := w) pl.isList.typeIs slot_list_getitem.lookup
      (wpAny_getItem_list_neg (Q := fun r s' => r = w ∧ EP X pins σ Q r s') pl.isList (by omega) (by rw [List.size_toArray] <;> omega) (by omega) (by rw [hj]; simpa using ew) ⟨rfl, fin⟩) hs
theorem ix_tup : IxR X (rIxT X.K) := by
  intro value slice pins s σ H x y v u Q I rx ry h hs
  obtain ⟨p, xs, i, z, rfl, rfl, hq, he, q⟩ := h
  cases rx
  obtain ⟨t, rfl⟩ := ry
  obtain ⟨its, r, pl, hz⟩ := I.tuple hq
  obtain ⟨j, h1, h2, h3, h4, h5⟩ := atI_get he
  obtain ⟨w, ew, rw'⟩ := r.get h2
  have hl := r.length
  have hn := line63
  have fin : EP X pins σ Q w s := ⟨z, H, I, rw', q⟩
  exact subscriptTail_builtinR (x := w) pl.typeIs slot_tuple_getitem.lookup
    (getItem_tuple (j := j) (Q := fun r s' => r = w ∧ EP X pins σ Q r s') pl (by omega) (by omega) (by rw [List.size_toArray, ← hl]; exact h1) (by simpa using ew) ⟨rfl, fin⟩) hs
theorem mapSeq_set (its : List Value) (n j : Nat) (u : Value) : Obj.mapSeq (·.setIfInBounds j u) { cls := .type "list", data := .seq its.toArray n } = { cls := .type "list", data := .seq (its.set j u).toArray n } := by
  simp [Obj.mapSeq]
theorem Inv.lst {pins : List (Addr × Obj)} {σ : St} {H : Hp} {s : Shared} {p : Addr} {xs : List V} (I : Inv X pins σ H s) (h : H p = some (.lst xs)) :
    ∃ (its : List Value) (n : Nat), Vals xs its ∧ s.heap.get? p = some { cls := .type "list", data := .seq its.toArray n } ∧ xs.length ≤ sizeLine := by
  obtain ⟨z, its, n, r, e⟩ := I.hok p _ h
  exact ⟨its, n, r, e, z⟩
theorem Inv.lstUpd {pins : List (Addr × Obj)} {σ : St} {H : Hp} {s : Shared} {p : Addr} {xs ys : List V} {its its' : List Value} {n n' : Nat} {f : Obj → Obj} (I : Inv X pins σ H s) (h : H p = some (.lst xs))
    (ho : s.heap.get? p = some { cls := .type "list", data := .seq its.toArray n }) (hf : f { cls := .type "list", data := .seq its.toArray n } = { cls := .type "list", data := .seq its'.toArray n' }) (r : Vals ys its') (hz : ys.length ≤ sizeLine) (t : Nat) :
    Inv X pins σ (upd H p (.lst ys)) { s with heap := s.heap.update p f, toks := t } := by
  have e : (s.heap.update p f).get? p = some { cls := .type "list", data := .seq its'.toArray n' } := by
    rw [Heap.get?_update_self f ho (by rw [hf] <;> rfl), hf]
  refine I.write (x := p) (e := p) (by rw [h]; trivial) (.inl rfl) (fun b u hb q => (Heap.get?_update_other _ _ (Ne.symm hb)).trans q) ⟨_, e⟩ ?_
  exact ⟨hz, its', n', r, e⟩
noncomputable def rSetL : V → V → V → Hp → (Hp → Prop) → Prop := fun o i v H Q => ∃ p xs k j, o = .ref p ∧ i = .int k ∧ H p = some (.lst xs) ∧ ixN xs.length k = some j ∧ Q (upd H p (.lst (xs.set j v)))
theorem set_list : PSet X rSetL := by
  intro pins s σ H o i v ov iv u Q I ro ri rv h
  obtain ⟨p, xs, k, j, rfl, rfl, hp, hj, q⟩ := h
  cases ro
  obtain ⟨t, rfl⟩ := ri
  obtain ⟨its, n, r, ho, hz⟩ := I.lst hp
  obtain ⟨h1, h2, h3, h4⟩ := ixN_seq hj
  have hl := r.length
  have hn := line63
  have I' : Inv X pins σ (upd H p (.lst (xs.set j v))) { s with heap := s.heap.update p (Obj.mapSeq (·.setIfInBounds j u)) } :=
    I.lstUpd hp ho (mapSeq_set its n j u) (r.set rv j) (by rw [List.length_set]; exact hz) s.toks
  by_cases h0 : 0 ≤ k
  · have hk : k.toNat = j := by
      rw [seqIndex_of h0 h4] at h1
      exact Option.some.inj h1
    exact PySem.W.ki_setAt ho h0 (by omega) (by rw [List.size_toArray, ← hl]; exact h4) (by rw [hk]; exact ⟨_, I', q⟩)
  · have hk : (k + (its.toArray.size : Int)).toNat = j := by
      rw [seqIndex_neg (by omega) h3] at h1
      rw [List.size_toArray, ← hl]
      exact Option.some.inj h1
    exact PySem.W.ki_setBack ho (by omega) (by rw [List.size_toArray, ← hl]; exact h3) (by omega) (by rw [hk]; exact ⟨_, I', q⟩)
theorem call_len_seq : CallR X (.builtin "len") (fun xs H Q => ∃ p ys, xs = [.ref p] ∧ (SqL X.K H p ys ∨ SqT X.K H p ys) ∧ Q (.int ys.length) H) := by
  intro pins s σ H xs us Q I r h
  obtain ⟨p, ys, rfl, hq, q⟩ := h
  obtain ⟨u, rfl, rx⟩ := vals1 r
  cases rx
  have hn := line63
  rcases hq with hq | hq
  · obtain ⟨its, r', pl, hz⟩ := I.list hq
    have hlen := r'.length
    exact Calls.call_len_list pl.isList (by simp only [List.size_toArray] <;> omega) ⟨.int ys.length, H, I.tok _, ⟨s.toks + 1, by rw [List.size_toArray, hlen]⟩, q⟩
  · obtain ⟨its, r', pl, hz⟩ := I.tuple hq
    have hlen := r'.length
    exact len_tuple pl (by simp only [List.size_toArray] <;> omega) ⟨.int ys.length, H, I.tok _, ⟨s.toks + 1, by rw [List.size_toArray, hlen]⟩, q⟩
theorem CallR.or {f : Value} {r r' : List V → Hp → VK → Prop} (h : CallR X f r) (h' : CallR X f r') : CallR X f (fun xs H Q => r xs H Q ∨ r' xs H Q) := by
  intro pins s σ H xs us Q I rs q
  rcases q with q | q
  · exact h pins s σ H xs us Q I rs q
  · exact h' pins s σ H xs us Q I rs q
theorem call_list_of : CallR X (.type "list") (fun xs H Q => ∃ p ys, xs = [.ref p] ∧ (SqL X.K H p ys ∨ SqT X.K H p ys) ∧ ∀ l, H l = none → Q (.ref l) (upd H l (.lst ys))) := by
  intro pins s σ H xs us Q I r h
  obtain ⟨p, ys, rfl, hq, q⟩ := h
  obtain ⟨u, rfl, rx⟩ := vals1 r
  cases rx
  have fin : ∀ (its : List Value), Vals ys its → ys.length ≤ sizeLine → ∀ (h' : Heap) (c' : Nat), (∀ b o', s.heap.get? b = some o' → h'.get? b = some o') →
      h'.get? s.heap.objs.size = some { cls := .type "list", dict := none, data := .seq its.toArray c', slots := #[] } → EP X pins σ Q (.ref s.heap.objs.size) { s with heap := h' } := fun its r' hz h' c' kp e =>
    ⟨.ref s.heap.objs.size, _, I.laid (t' := s.toks) kp (Nat.le_refl _) (show ObjOk X.prog X.w _ h' _ (.lst ys) from ⟨hz, its, c', r', e⟩), rfl, q _ (I.hok.fresh (Nat.le_refl _))⟩
  rcases hq with hq | hq
  · obtain ⟨its, r', pl, hz⟩ := I.list hq
    have hlen := r'.length
    obtain ⟨o, ho, hc, n, hd⟩ := pl.isList
    exact call_list_seq p (.inl rfl) ho hc hd (fun h' c' kp e => fin its r' hz h' c' kp e) (by simp only [List.size_toArray] <;> omega)
  · obtain ⟨its, r', pl, hz⟩ := I.tuple hq
    have hlen := r'.length
    obtain ⟨o, ho, hc, n, hd⟩ := pl
    exact call_list_seq p (.inr rfl) ho hc hd (fun h' c' kp e => fin its r' hz h' c' kp e) (by simp only [List.size_toArray] <;> omega)
noncomputable def tyV (K : PySem.W.Frag) (T : String) (x : V) (H : Hp) : Prop := match x with
  | .str _ => T = "str"
  | .int _ => T = "int"
  | .ref p => (T = "list" ∧ ∃ xs, SqL K H p xs) ∨ (T = "tuple" ∧ ∃ o, K.lookup p = some o ∧ o.cls = .type "tuple" ∧ o.dict = none) ∨
      (T = "dict" ∧ ((∃ kvs, H p = some (.dK kvs)) ∨ ∃ kvs, H p = some (.dT kvs))) ∨ (T = "set" ∧ ∃ S n, H p = some (.set S n))
  | _ => False
theorem tyV_is {pins : List (Addr × Obj)} {σ : St} {H : Hp} {s : Shared} {T : String} {x : V} {v : Value} (I : Inv X pins σ H s) (r : RelV x v) (ty : tyV X.K T x H) :
    s.TypeIs v T ∧ ∀ a, v = .ref a → ∃ ob, s.heap.get? a = some ob ∧ ob.dict = none := by
  cases x with
  | str z =>
    obtain ⟨t, rfl⟩ := r
    cases (show T = "str" from ty)
    exact ⟨typeIs_str s z t, fun _ e => nomatch e⟩
  | int i =>
    obtain ⟨t, rfl⟩ := r
    cases (show T = "int" from ty)
    exact ⟨typeIs_int s i t, fun _ e => nomatch e⟩
  | ref p =>
    cases r
    rcases ty with ⟨rfl, xs, hq⟩ | ⟨rfl, o, hk, hc, hd⟩ | ⟨rfl, hk⟩ | ⟨rfl, S, n, hk⟩
    · obtain ⟨its, _, pl, _⟩ := I.list hq
      refine ⟨pl.isList.typeIs, fun a e => ?_⟩
      cases e
      obtain ⟨o, n, e, c, hd, _⟩ := pl
      exact ⟨o, e, hd⟩
    · refine ⟨⟨o, I.kIn p o hk, hc⟩, fun a e => ?_⟩
      cases e
      exact ⟨o, I.kIn _ o hk, hd⟩
    · have z : ∃ o, s.heap.get? p = some o ∧ o.ExactDict := by
        rcases hk with ⟨kvs, hk⟩ | ⟨kvs, hk⟩
        · obtain ⟨_, _, _, _, o, _, _, e, ex, _⟩ := I.hok p _ hk
          exact ⟨o, e, ex⟩
        · obtain ⟨_, _, _, _, o, _, _, e, ex, _⟩ := I.hok p _ hk
          exact ⟨o, e, ex⟩
      obtain ⟨o, e, ex⟩ := z
      refine ⟨⟨o, e, ex.1⟩, fun a e2 => ?_⟩
      cases e2
      exact ⟨o, e, ex.2.1⟩
    · obtain ⟨o, _, _, _, e, ex, _⟩ := I.hok p _ hk
      refine ⟨⟨o, e, ex.1⟩, fun a e2 => ?_⟩
      cases e2
      exact ⟨o, e, ex.2.1⟩
  | _ => exact False.elim ty
noncomputable def tBM0 (K : PySem.W.Frag) (T : String) (r : V → List V → Hp → VK → Prop) (to : TE) : TE := fun σ H Q => to σ H fun x H1 => tyV K T x H1 ∧ r x [] H1 Q
noncomputable def tBM (K : PySem.W.Frag) (T : String) (r : V → List V → Hp → VK → Prop) (to : TE) (t : TA) : TE := fun σ H Q => to σ H fun x H1 => tyV K T x H1 ∧ t σ H1 fun xs H2 => r x xs H2 Q
variable {o e : Expr} {es : List Expr} {to : TE} {t : TA} {name : Str} {apos cpos : Pos} {T id : String} {r : V → List V → Hp → VK → Prop}
theorem pe_bm0 (pa : PlainAttrs T) (slot : Slot T name id) (hty : typeOf (.builtin id) = pure (.type "method_descriptor")) (hm : MtR X id r) (ho : PE X o to)
    (hbase : attributeBase o name X.env (eval o X.env) = eval o X.env := by rfl) (hline : (apos.endLine == cpos.line) = true := by rfl) : PE X (.Call (.Attribute o name apos) [] [] cpos) (tBM0 X.K T r to) := by
  intro pins s σ H Q I h
  refine wpAny_Call_method0_late hbase hline (thn (ho pins s σ H _ I h) fun v s1 ⟨x, H1, I1, r1, ty, q1⟩ => ?_)
  obtain ⟨h1, h2⟩ := tyV_is I1 r1 ty
  exact ⟨T, id, pa, slot, hty, h1, h2, Calls.callWith_builtin rfl (PySem.evalArgs_none (hm pins s1 σ H1 x [] v [] Q I1 r1 .nil q1))⟩
theorem pe_bm (pa : PlainAttrs T) (slot : Slot T name id) (hty : typeOf (.builtin id) = pure (.type "method_descriptor")) (hm : MtR X id r) (ho : PE X o to) (ha : PA X (e :: es) t)
    (hbase : attributeBase o name X.env (eval o X.env) = eval o X.env := by rfl)
    (hfew : ((backTo cpos (starEach (e :: es) X.env)).all (fun x => !x.1) && (backToKw cpos (keywordEach [] X.env)).all (fun x => x.1.isSome)
      && decide ((e :: es).length + ([] : List Keyword).length + (if ([] : List Keyword).isEmpty then 0 else 1) < 30)) = true := by rfl)
    (hline : (apos.endLine == cpos.line) = true := by rfl) (hs : starEach (e :: es) X.env = (false, eval e X.env) :: starEach es X.env := by rfl) (hplain : (backTo cpos (starEach es X.env)).any (·.1) = false := by rfl) :
    PE X (.Call (.Attribute o name apos) (e :: es) [] cpos) (tBM X.K T r to t) := by
  intro pins s σ H Q I h
  refine wpAny_Call_method_late hbase hfew hline rfl (thn (ho pins s σ H _ I h) fun v s1 ⟨x, H1, I1, r1, ty, q1⟩ => ?_)
  obtain ⟨h1, h2⟩ := tyV_is I1 r1 ty
  refine ⟨T, id, pa, slot, hty, h1, h2, ?_⟩
  have hA := ha cpos pins s1 σ H1 _ I1 q1
  rw [hs] at hA ⊢
  refine Calls.callWith_builtin (by show (false || (backTo cpos (starEach es X.env)).any (·.1)) = false; rw [hplain] <;> rfl) (Calls.evalArgs_plain ?_)
  exact thn hA fun us s2 ⟨vs, H2, I2, r2, q2⟩ => hm pins s2 σ H2 x vs v us Q I2 r1 r2 q2
end
end L2
namespace L2
open PySem PySem.Spec PyProof.Rows
noncomputable def MtM (X : Cx) (id : String) (r : V → List V → Hp → VK → Prop) : Prop :=
  ∀ (pins : List (Addr × Obj)) (s : Shared) (σ : St) (H : Hp) (x : V) (xs : List V) (v : Value) (us : List Value) (Q : VK), Inv X pins σ H s → RelV x v → Vals xs us → r x xs H Q →
    wpAny (model X.prog X.w) X.A (call (.builtin id) (v :: us)) (EP X pins σ Q) X.xe s
theorem Vals.one : ∀ {x : V} {us : List Value}, Vals [x] us → ∃ u, us = [u] ∧ RelV x u
  | _, _, .cons r .nil => ⟨_, rfl, r⟩
theorem Vals.zero : ∀ {us : List Value}, Vals [] us → us = []
  | _, .nil => rfl
theorem Vals.eraseIdx : ∀ {xs : List V} {us : List Value} (i : Nat), Vals xs us → Vals (xs.eraseIdx i) (us.eraseIdx i)
  | _, _, _, .nil => .nil
  | _, _, 0, .cons _ t => t
  | _, _, i + 1, .cons r t => .cons r (Vals.eraseIdx i t)
theorem Vals.reverse {xs : List V} {us : List Value} (h : Vals xs us) : Vals xs.reverse us.reverse := by
  induction h with
  | nil => exact .nil
  | cons r t ih => rw [List.reverse_cons, List.reverse_cons]; exact Vals.append ih (.cons r .nil)
theorem Vals.rep {xs : List V} {us : List Value} (h : Vals xs us) : ∀ k : Nat, Vals (List.replicate k xs).flatten (List.replicate k us).flatten
  | 0 => .nil
  | k + 1 => by
    rw [List.replicate_succ, List.replicate_succ, List.flatten_cons, List.flatten_cons]
    exact Vals.append h (Vals.rep h k)
theorem len_erase {α : Type} : ∀ (l : List α) (i : Nat), (l.eraseIdx i).length ≤ l.length
  | [], _ => Nat.le_refl _
  | _ :: _, 0 => Nat.le_succ _
  | _ :: r, i + 1 => Nat.succ_le_succ (len_erase r i)
theorem foldl_rep (its : List Value) : ∀ (k : Nat) (acc : List Value),
    List.foldl (fun x1 x2 => x1 ++ x2) acc.toArray (List.replicate k its.toArray) = (acc ++ (List.replicate k its).flatten).toArray
  | 0, acc => by simp
  | k + 1, acc => by
    have e : acc.toArray ++ its.toArray = (acc ++ its).toArray := by simp
    have e2 : (acc ++ its) ++ (List.replicate k its).flatten = acc ++ (List.replicate (k + 1) its).flatten := by
      rw [List.replicate_succ, List.flatten_cons, List.append_assoc]
    rw [← e2, ← foldl_rep its k (acc ++ its), ← e, List.replicate_succ, List.foldl_cons]
section
variable {X : Cx} {pins : List (Addr × Obj)} {σ : St} {H : Hp} {s : Shared} {l b : Addr} {xs ys zs : List V}
theorem Inv.lset {its its' : List Value} {n : Nat} {f : Array Value → Array Value} {t' : Nat} (I : Inv X pins σ H s) (hH : H l = some (.lst xs))
    (e : s.heap.get? l = some { cls := .type "list", data := .seq its.toArray n }) (hf : f its.toArray = its'.toArray) (hv : Vals ys its') (hz : ys.length ≤ sizeLine) :
    Inv X pins σ (upd H l (.lst ys)) { s with heap := s.heap.update l (Obj.mapSeq f), toks := t' } := by
  have q := PySem.IsL.update e f
  rw [hf] at q
  refine I.write (x := l) (e := l) (by rw [hH]; exact trivial) (.inl rfl) (fun b' u hb hu => (Heap.get?_update_other s.heap (Obj.mapSeq f) (Ne.symm hb)).trans hu) ⟨_, q⟩ ?_
  exact ⟨hz, its', _, hv, q⟩
theorem Inv.lnew {its : List Value} {t' : Nat} (I : Inv X pins σ H s) (hv : Vals ys its) (hz : ys.length ≤ sizeLine) :
    Inv X pins σ (upd H s.heap.objs.size (.lst ys)) { s with heap := s.heap.push { cls := .type "list", data := .seq its.toArray }, toks := t' } :=
  I.laid (fun _ _ q => Heap.get?_push_of_some _ q) (Nat.le_refl _) ⟨hz, its, 0, hv, Heap.get?_push_size _ rfl⟩
theorem Inv.fresh (I : Inv X pins σ H s) : H s.heap.objs.size = none := I.hok.fresh (Nat.le_refl _)
theorem Inv.lstM (I : Inv X pins σ H s) (hH : H l = some (.lst xs)) : xs.length ≤ sizeLine ∧ ∃ (its : List Value) (n : Nat), Vals xs its ∧ xs.length = its.length ∧ s.heap.get? l = some { cls := .type "list", data := .seq its.toArray n } := by
  obtain ⟨z, its, n, r, e⟩ := I.hok l _ hH
  exact ⟨z, its, n, r, r.length, e⟩
theorem notLongL {n : Nat} (h : n ≤ sizeLine) : Builtin.List.listTooLong n = false := by
  unfold Builtin.List.listTooLong
  exact decide_eq_false (by omega)
end
section
variable {X : Cx}
noncomputable def rAppend : V → List V → Hp → VK → Prop := fun x vs H Q => ∃ l xs y, x = .ref l ∧ vs = [y] ∧ H l = some (.lst xs) ∧ xs.length < sizeLine ∧ Q .non (upd H l (.lst (xs ++ [y])))
theorem mt_append : MtM X "list.append" rAppend := by
  intro pins s σ H x vs v us Q I rx rv h
  obtain ⟨l, xs, y, rfl, rfl, hH, hz, q⟩ := h
  cases rx
  obtain ⟨u, rfl, ru⟩ := rv.one
  obtain ⟨z, its, n, r, hl, e⟩ := I.lstM hH
  refine call_meets F.slot_list_append ⟨_, e, rfl⟩ F.entry_list_append (F.args_list_append_2 _ _) (PySem.list_append l its.toArray n u (by rw [List.size_toArray]; omega)) ⟨e, ?_⟩
  refine ⟨.non, _, I.lset (its' := its ++ [u]) hH e (by simp) (r.append (.cons ru .nil)) ?_, rfl, q⟩
  rw [List.length_append, List.length_singleton]
  omega
noncomputable def rExtend : V → List V → Hp → VK → Prop := fun x vs H Q => ∃ l b xs zs, x = .ref l ∧ vs = [.ref b] ∧ H l = some (.lst xs) ∧ H b = some (.lst zs) ∧ xs.length + zs.length ≤ sizeLine ∧ Q .non (upd H l (.lst (xs ++ zs)))
theorem mt_extend : MtM X "list.extend" rExtend := by
  intro pins s σ H x vs v us Q I rx rv h
  obtain ⟨l, b, xs, zs, rfl, rfl, hH, hB, hz, q⟩ := h
  cases rx
  obtain ⟨u, rfl, ru⟩ := rv.one
  cases ru
  obtain ⟨z, its, n, r, hl, e⟩ := I.lstM hH
  obtain ⟨z2, its2, n2, r2, hl2, e2⟩ := I.lstM hB
  have hsz : its.toArray.size + its2.toArray.size ≤ sizeLine := by rw [List.size_toArray, List.size_toArray]; omega
  have hlong : ¬ (!its.toArray.isEmpty && Builtin.List.listTooLong (its.toArray.size + its2.toArray.size)) = true := by
    rw [notLongL hsz, Bool.and_false]
    exact Bool.false_ne_true
  refine call_meets F.slot_list_extend ⟨_, e, rfl⟩ F.entry_list_extend (F.args_list_extend_2 _ _)
    (AutoSeq1.list_extend_list_list_0 l its.toArray n b its2.toArray n2 hlong (by rw [List.size_toArray]; omega) (by omega)) ⟨e, e2, ?_⟩
  refine ⟨.non, _, I.lset (its' := its ++ its2) hH e (by simp) (r.append r2) ?_, rfl, q⟩
  rw [List.length_append]
  omega
noncomputable def rPopAt : V → List V → Hp → VK → Prop := fun x vs H Q => ∃ l xs i k y, x = .ref l ∧ vs = [.int i] ∧ H l = some (.lst xs) ∧ -(2 ^ 63) ≤ i ∧ i < 2 ^ 63 ∧ seqIndex? i xs.length = some k ∧ xs[k]? = some y ∧ Q y (upd H l (.lst (xs.eraseIdx k)))
theorem mt_popAt : MtM X "list.pop" rPopAt := by
  intro pins s σ H x vs v us Q I rx rv h
  obtain ⟨l, xs, i, k, y, rfl, rfl, hH, h1, h2, hk, hy, q⟩ := h
  cases rx
  obtain ⟨u, rfl, ru⟩ := rv.one
  obtain ⟨t, rfl⟩ := ru
  obtain ⟨z, its, n, r, hl, e⟩ := I.lstM hH
  obtain ⟨w, hw, rw'⟩ := r.get hy
  refine call_meets F.slot_list_pop ⟨_, e, rfl⟩ F.entry_list_pop (F.args_list_pop_2 _ _)
    (MeetsSeq.list_pop_at l its.toArray n i t k w (fitsIndex_both h1 h2) (by rw [List.size_toArray, ← hl]; exact hk) (by rw [← Array.getElem?_toList]; exact hw) (by rw [List.size_toArray]; omega)) ⟨e, ?_⟩
  refine ⟨y, _, I.lset (its' := its.eraseIdx k) hH e ?_ (r.eraseIdx k) ?_, rw', q⟩
  · show its.toArray.eraseIdxIfInBounds k = (its.eraseIdx k).toArray
    rw [List.eraseIdxIfInBounds_toArray]
  · have := len_erase xs k
    omega
noncomputable def rRep : R2 := fun x y H Q => ∃ l k xs, x = .ref l ∧ y = .int k ∧ H l = some (.lst xs) ∧ -(2 ^ 63) ≤ k ∧ k < 2 ^ 63 ∧ xs.length * k.toNat ≤ sizeLine ∧
  ∀ p, H p = none → Q (.ref p) (upd H p (.lst (List.replicate k.toNat xs).flatten))
theorem len_rep {α : Type} (xs : List α) (k : Nat) : (List.replicate k xs).flatten.length = k * xs.length := by
  induction k with
  | zero => simp
  | succ k ih => rw [List.replicate_succ, List.flatten_cons, List.length_append, ih, Nat.succ_mul, Nat.add_comm]
theorem op_rep : OpR X (binaryOp .Mult) rRep := by
  intro pins s σ H x y v u Q I rx ry h
  obtain ⟨l, k, xs, rfl, rfl, hH, h1, h2, hz, q⟩ := h
  cases rx
  obtain ⟨t, rfl⟩ := ry
  obtain ⟨z, its, n, r, hl, e⟩ := I.lstM hH
  have hlen : its.toArray.size * k.toNat ≤ sizeLine := by rw [List.size_toArray, ← hl]; exact hz
  have hcap : ¬ its.toArray.size * k.toNat > (2 ^ 63 - 1) / 8 := by
    have : (sizeLine : Nat) ≤ (2 ^ 63 - 1) / 8 := by decide
    omega
  have hfit : ¬ (!Builtin.List.listFitsIndex k) = true := by
    rw [fitsIndex_both h1 h2]
    exact Bool.false_ne_true
  have hlong : ¬ Builtin.List.listTooLong (its.toArray.size * k.toNat) = true := by
    rw [notLongL hlen]
    exact Bool.false_ne_true
  have hnew : List.foldl (fun x1 x2 => x1 ++ x2) #[] (List.replicate (if its.toArray.isEmpty = true then 0 else k.toNat) its.toArray) = (List.replicate k.toNat its).flatten.toArray := by
    have f0 : ∀ m : Nat, List.foldl (fun x1 x2 => x1 ++ x2) #[] (List.replicate m its.toArray) = (List.replicate m its).flatten.toArray := fun m => by
      have := foldl_rep its m []
      rw [List.nil_append] at this
      exact this
    rw [f0]
    cases its with
    | nil => simp
    | cons a r' => rw [if_neg (by simp)]
  refine wpAny_binaryOp_repeat_ref (T := "list") (U := "int") (by decide) ⟨_, e, rfl⟩ (fun s' => typeIs_int s' k t) noFill_list_mul F.fills_int_mul F.slot_int_rmul repeat_list F.slot_int_index.lookup
    (call_meets F.slot_int_rmul (typeIs_int s k t) F.entry_int_rmul (F.args_int_rmul_2 _ _) (int___rmul___int_list k t l its.toArray n)
      ⟨e, rfl, ⟨_, e, rfl⟩, call_meets F.slot_list_mul ⟨_, e, rfl⟩ F.entry_list_mul (F.args_list_mul_2 _ _) (AutoListH.list___mul___list_int_3 l its.toArray n k t hfit hcap hlong) ⟨e, ?_⟩⟩)
  rw [hnew]
  exact ⟨.ref _, _, I.lnew (t' := s.toks) (r.rep k.toNat) (by rw [len_rep, Nat.mul_comm]; exact hz), rfl, q _ I.fresh⟩
end
section
variable {prog : Program} {w : World} {A : Around} {E : Value → Shared → Prop} {s : Shared}
end
section
variable {X : Cx}
end
end L2
namespace Att
open PySem PySem.W PySem.Calls PyProof.Rows
theorem ints_of_wellAll {P : Params} {h : Heap} : ∀ (ns : List Int) (vs : List Value), WellAll P h vs (ns.map WData.int) → IntsAre vs ns := by
  intro ns
  induction ns with
  | nil =>
    intro vs w
    rw [List.map_nil] at w
    cases w
    exact .nil
  | cons n ns ih =>
    intro vs w
    rw [List.map_cons] at w
    cases w with
    | cons a b =>
      cases a
      exact .cons _ _ (ih _ b)
theorem script_of {l : OpenLaw} {n : Nat} (hn : l.most = some n) {P : Params} {h : Heap} {args : List WData} {vals : List Value}
    (hpre : l.row.toRowW.claim.pre args = true) (hwl : WellAll P h vals args) :
    ∃ a vs ns, vals = [Value.ref a] ∧ args = [WData.list (ns.map WData.int)] ∧ h.get? a = some { cls := .type "list", data := .seq vs.toArray } ∧ IntsAre vs ns ∧ ns.length ≤ n := by
  have hsh : WShape.hasAll [] args [.list .int] = true := (pre_splitW hpre).1
  have hc : l.pre.holds [] { args := args } = true := (pre_splitW hpre).2
  obtain ⟨d, r, rfl, h1, h2⟩ := hasAllW_cons hsh
  obtain rfl := hasAllW_nil h2
  obtain ⟨xs, rfl, h3⟩ := hasW_list h1
  obtain ⟨ns, rfl⟩ := items_int h3
  have hlen : ns.length ≤ n := by
    unfold OpenLaw.pre at hc
    have h4 : (WTm.not (.lt (.lit (.int (n : Int))) (.len (.arg 0)))).holds [] { args := [.list (ns.map .int)] } = true := by
      have h4 := (holds_andW hc).1
      rw [hn] at h4
      exact h4
    have h5 := condW_of h4 (w_not (w_lt w_lit (w_len_list (w_arg rfl))))
    rw [List.length_map] at h5
    refine Nat.le_of_not_lt fun q => ?_
    have q' : (n : Int) < ((ns.length : Nat) : Int) := by omega
    first
      | (rw [decide_eq_true q'] at h5; exact absurd h5 (by decide))
      | (simp at h5; omega)
  cases hwl with
  | cons w1 w2 =>
    cases w2
    cases w1 with
    | list ho hall => exact ⟨_, _, ns, rfl, rfl, ho, ints_of_wellAll ns _ hall, hlen⟩
theorem post_true (l : OpenLaw) (args : List WData) : l.row.toRowW.claim.post args (.bool true) args = true :=
  postW_of (r := l.row.toRowW) (X := (true == true))
    (show WShape.has [] (.bool true) .bool = true by first | rfl | decide | simp [WShape.has, WShape.arms, WShape.armsAll])
    (show (WTm.eq .res (.lit (.bool true))).value [] { args := args, res := some (.bool true), after := args } = some (.bool (true == true)) from w_eq_bool (w_res rfl) w_lit) rfl
theorem lay_bits {ns : List Int} (h : WData.layableAll [WData.list (ns.map WData.int)] = true) : ∀ x ∈ ns, Builtin.Int.intBits x ≤ 1048576 := by
  have h1 : WData.layable (WData.list (ns.map WData.int)) = true := by
    have h' : (WData.layable (WData.list (ns.map WData.int)) && true) = true := h
    rwa [Bool.and_true] at h'
  unfold WData.layable at h1
  rw [Bool.and_eq_true] at h1
  have h2 := of_decide_eq_true h1.2
  have h3 : WData.weightAll (ns.map WData.int) ≤ 2 ^ 20 := by
    have e : WData.weight (WData.list (ns.map WData.int)) = WData.weightAll (ns.map WData.int) := by simp only [WData.weight]
    rwa [e] at h2
  have h4 : ∀ (l : List Int), ∀ x ∈ l, WData.weight (WData.int x) ≤ WData.weightAll (l.map WData.int) := by
    intro l
    induction l with
    | nil => intro x hx; cases hx
    | cons y r ih =>
      intro x hx
      have e : WData.weightAll ((y :: r).map WData.int) = WData.weight (WData.int y) + 1 + WData.weightAll (r.map WData.int) := by
        rw [List.map_cons]; simp only [WData.weightAll]
      rw [e]
      rcases List.mem_cons.mp hx with z | z
      · subst z; omega
      · have := ih x z; omega
  intro x hx
  have h5 := Nat.le_trans (h4 ns x hx) h3
  have e : WData.weight (WData.int x) = Builtin.Int.intBits x := by
    simp only [WData.weight]
    unfold Builtin.Int.intBits
    by_cases hz : x = 0
    · subst hz; rfl
    · have hb : (x == 0) = false := by simpa using hz
      simp [hz]
  rw [e] at h5
  exact h5
theorem attach_call {l : OpenLaw} {n : Nat} {q : Program} {loose : List Str} {XP : (Str → Option Value) → Heap → Prop} {YP : World → Heap → Prop} {d : DefRec}
    (hn : l.most = some n) (hdf : d.params.defaults = [])
    (call : ∀ (w : World) (s₀ s₁ : Shared) (mg mb : Str → Option Value) (fa : Addr) (o : Obj) (pm cd doc : Value) (a : Addr) (vs : List Value) (ns : List Int),
      Ground q loose [] XP w s₀ mg mb s₁.heap → YP w s₁.heap →
      s₁.heap.get? fa = some o → o.data = .func (docDef d.name d.params d.body d.scope pm cd doc) → s₁.heap.CodeRec cd d.name → mg d.name = some (.ref fa) →
      s₁.heap.get? a = some { cls := .type "list", data := .seq vs.toArray } → IntsAre vs ns → ns.length ≤ n → (∀ x ∈ ns, Builtin.Int.intBits x ≤ 1048576) → s₁.gens = #[] →
      codeAny (model l.prog w) callerA (.call (.ref fa) ⟨[.ref a], []⟩) (fun r s' => r = .ok (.ret (.bool true)) ∧ OldK s₁.heap s'.heap ∧ s'.os = s₁.os ∧ AllBare s'.gens) s₁) :
    WalkO q loose XP YP l.row.toRowW d [] (fun f vs => PySem.call f vs) := by
  intro w s₀ s₁ mg mb G Y fa o pm cd doc dV kV ho hd hcd hD hmg hg args vals as hpre hlay hrd hwl hlo
  obtain rfl : dV = .none := Dflts.none hD hdf
  obtain rfl : kV = .none := Dflts.noKw hD
  obtain ⟨a, vs, ns, rfl, rfl, hobj, hints, hlen⟩ := script_of hn hpre hwl
  refine enter_call (codeAny_mono (call w s₀ s₁ mg mb fa o pm cd doc a vs ns G Y ho (fd_plain hd) hcd hmg hobj hints hlen (lay_bits hlay) hg) fun r s' hq => ?_)
  obtain ⟨rfl, h2, h3, h4⟩ := hq
  exact ⟨.inl ⟨.bool true, .bool true, [], rfl, fun _ => rfl, .bool true, post_true l _, fun _ => ⟨List.Pairwise.nil, fun _ hm => (nomatch hm)⟩⟩, h2, h3, h4⟩
section
variable {prog : Program} {w : World} {A : Around} {E : Value → Shared → Prop} {s : Shared} {K : Frag}
end
end Att
namespace L2
open PySem PySem.Spec PyProof.Rows
theorem vals_ints : ∀ {vs : List Value} {ns : List Int}, IntsAre vs ns → Vals (ns.map V.int) vs
  | _, _, .nil => .nil
  | _, _, .cons n t h => .cons ⟨t, rfl⟩ (vals_ints h)
noncomputable def Only (H : Hp) : Prop := ∀ b, H b = none ∨ ∃ o xs, H b = some (.frz o (.lst xs))
theorem law_call {P : Program} {w : World} {K : PySem.W.Frag} {mg mb : Str → Option Value} {CX : CXT} {k : Nat} {fa a : Addr} {fd : FuncData} {x : Str} {sp : Sp} {s₁ : Shared} {vs : List Value} {ns : List Int}
    (KX : K.In s₁.heap) (hns : s₁.heap.Ns mainGlobals mg) (hb : s₁.heap.Ns builtinsNs mb) (hbb : ∀ x : Str, x ≠ "__name__" → mb x = bootBuiltins x) (hlim : s₁.heap.NoLimit) (hsr : s₁.heap.NoSeer) (hg : s₁.gens = #[])
    (ha : s₁.heap.get? a = some { cls := .type "list", data := .seq vs.toArray }) (hi : IntsAre vs ns) (hl : ns.length ≤ sizeLine) (hr : Room k callerA)
    (F : ∀ base : Heap, K.In base → base.Ns mainGlobals mg → FnOk P w K mg base CX k fa fd [x] sp) (hbind : ∀ (s : Shared) (u : Value), BindsTo s fd ⟨[u], []⟩ [(x, u)])
    (hsp : ∀ H : Hp, Only H → SqL K H a (ns.map V.int) → sp [.ref a] H (fun v _ => v = .bl true) fun _ _ _ => False)
    (hCX : ∀ H e s', CX [] H s₁ (fun _ _ _ => False) e s' → False) :
    codeAny (model P w) callerA (.call (.ref fa) ⟨[.ref a], []⟩) (fun r s' => r = .ok (.ret (.bool true)) ∧ OldK s₁.heap s'.heap ∧ s'.os = s₁.os ∧ AllBare s'.gens) s₁ := by
  have rv := vals_ints hi
  have lenV := hi.length
  have core : ∀ H : Hp, Only H → SqL K H a (ns.map V.int) → HOk P w H s₁.heap → (∀ b, H b ≠ none → b = a) → (H a ≠ none → K.lookup a = none) →
      codeAny (model P w) callerA (.call (.ref fa) ⟨[.ref a], []⟩) (fun r s' => r = .ok (.ret (.bool true)) ∧ OldK s₁.heap s'.heap ∧ s'.os = s₁.os ∧ AllBare s'.gens) s₁ := by
    intro H hO hS hok hA hK
    have base_of : ∀ {b : Addr} {o : Obj}, s₁.heap.get? b = some o → H b = none → (hidT s₁.heap H).get? b = some o := fun e n => hidT_get e n
    have noA : ∀ {b : Addr} {o : Obj} {es : Array DictEntry} {ep : Nat}, s₁.heap.get? b = some o → o.data = .dict es ep → H b = none := fun {b o es ep} e d => by
      cases q : H b with
      | none => rfl
      | some u =>
        have e' : b = a := hA b (by rw [q]; simp)
        subst e'
        rw [ha] at e; cases e
        have d' : Data.seq vs.toArray _ = Data.dict es ep := d
        cases d'
    have nsK : ∀ {b : Addr} {m : Str → Option Value}, s₁.heap.Ns b m → (hidT s₁.heap H).Ns b m := fun {b m} ⟨o, es, ep, e, d, r⟩ => ⟨o, es, ep, base_of e (noA e d), d, r⟩
    have hKb : K.In (hidT s₁.heap H) := fun b o e => base_of (KX b o e) (by
      cases q : H b with
      | none => rfl
      | some u =>
        have e' : b = a := hA b (by rw [q]; simp)
        subst e'
        rw [hK (by rw [q]; simp)] at e; cases e)
    have noC : ∀ {b : Addr} {o : Obj}, s₁.heap.get? b = some o → o.cls ≠ .type "list" → H b = none := fun {b o} e d => by
      cases q : H b with
      | none => rfl
      | some u =>
        have e' : b = a := hA b (by rw [q]; simp)
        subst e'
        rw [ha] at e; cases e
        exact absurd rfl d
    have hSr : (hidT s₁.heap H).NoSeer := ⟨let ⟨mc, h1, h2⟩ := hsr.statics; ⟨mc, nsK h1, h2⟩, let ⟨mc, h1, h2⟩ := hsr.mods; ⟨mc, nsK h1, h2⟩, let ⟨mc, h1, h2⟩ := hsr.imp; ⟨mc, nsK h1, h2⟩,
      let ⟨mg', bm, ob, h1, h2, h3, h4, h5⟩ := hsr.main; ⟨mg', bm, ob, nsK h1, h2, base_of h3 (noC h3 (by rw [h4]; decide)), h4, h5⟩⟩
    have hM : Mod K mg (hidT s₁.heap H) := ⟨hKb, nsK hns, ⟨mb, nsK hb, hbb⟩, let ⟨mc, h1, h2⟩ := hlim; ⟨mc, nsK h1, h2⟩, hSr⟩
    have e0 : Env0 P w K mg (hidT s₁.heap H) callerA [] s₁ H := ⟨rfl, hM, fun b o e => of_hidT e, Nat.le_of_eq (hidT_size _ _), trivial, fun b hb => absurd (show b ∈ ([] : List Addr) from hb) (by simp), hok, .of_eq hg⟩
    refine codeAny_mono ((F _ hKb (nsK hns)).run callerA [] s₁ H ⟨[.ref a], []⟩ [.ref a] [.ref a] _ _ hr e0 (hbind s₁ (.ref a)) (.cons rfl .nil) (hsp H hO hS)) fun r s' h => ?_
    cases r with
    | error e => exact (hCX H e s' h).elim
    | ok fl =>
      cases fl with
      | next => exact False.elim h
      | brk => exact False.elim h
      | cont => exact False.elim h
      | ret u =>
        obtain ⟨v, H', os, bare, un, hok', r', q⟩ := h
        have q' : v = .bl true := q
        subst q'
        obtain rfl : u = Value.bool true := r'
        refine ⟨rfl, OldK.of_keep fun b o e => ?_, os, bare⟩
        cases q : H b with
        | none => exact un.keep b o e q (by intro z; exact absurd (show b ∈ ([] : List Addr) from z) (by simp)) (by simp)
        | some u =>
          rcases hO b with z | ⟨ob, xs, z⟩
          · rw [q] at z; cases z
          · have z2 := un.frzs b ob _ z
            obtain ⟨e1, _⟩ := hok b _ z
            obtain ⟨e2, _⟩ := hok' b _ z2
            rw [e] at e1; cases e1
            exact e2
  cases hk : K.lookup a with
  | some o =>
    have e := KX a o hk
    rw [ha] at e
    cases e
    refine core (fun _ => none) (fun _ => .inl rfl) (.inr ⟨_, vs.toArray, _, hk, rfl, rfl, rfl, by rw [List.size_toArray, lenV]; exact hl, by simpa using rv⟩) (fun b u z => by have z' : (none : Option HO) = some u := z; cases z') (fun b z => absurd rfl z) fun z => absurd rfl z
  | none =>
    refine core (fun b => if b = a then some (.frz { cls := .type "list", data := .seq vs.toArray } (.lst (ns.map V.int))) else none) (fun b => ?_) (.inl (.inr ⟨{ cls := .type "list", data := .seq vs.toArray }, if_pos rfl⟩)) (fun b u z => ?_) (fun b z => ?_) fun _ => hk
    · by_cases hb : b = a
      · exact .inr ⟨_, _, if_pos hb⟩
      · exact .inl (if_neg hb)
    · by_cases hb : b = a
      · have z' := (if_pos hb).symm.trans z
        cases z'
        subst hb
        exact ⟨ha, by rw [List.length_map]; exact hl, vs, _, rv, ha⟩
      · have z' := (if_neg hb).symm.trans z
        cases z'
    · by_cases hb : b = a
      · exact hb
      · exact absurd (if_neg hb) z
end L2
namespace L2
open PySem PySem.Spec PyProof.Rows
theorem walk_of {l : PySem.W.OpenLaw} {n k : Nat} {q : Program} {loose : List Str} {XP : (Str → Option Value) → Heap → Prop} {YP : World → Heap → Prop} {d : DefRec} {K : Params → PySem.W.Frag} {CX : World → CXT} {sp : World → Sp} {x : Str}
    (hn : l.most = some n) (hn2 : n ≤ sizeLine) (hdf : d.params.defaults = []) (hq : importsNone q = true) (hr : Room k callerA)
    (hY : ∀ (w : World) (h : Heap), YP w h → (K w.params).In h)
    (F : ∀ (w : World) (mg : Str → Option Value) (fa : Addr) (h : Heap), (K w.params).In h → h.Ns mainGlobals mg → mg d.name = some (.ref fa) →
      ∃ fd : FuncData, (∀ (s : Shared) (u : Value), BindsTo s fd ⟨[u], []⟩ [(x, u)]) ∧
        ∀ base : Heap, (K w.params).In base → base.Ns mainGlobals mg → FnOk l.prog w (K w.params) mg base (CX w) k fa fd [x] (sp w))
    (hsp : ∀ (w : World) (H : Hp) (a : Addr) (ns : List Int), ns.length ≤ n → (∀ x ∈ ns, Builtin.Int.intBits x ≤ 1048576) → Only H → SqL (K w.params) H a (ns.map V.int) → sp w [.ref a] H (fun v _ => v = .bl true) fun _ _ _ => False)
    (hCX : ∀ (w : World) (H : Hp) (s : Shared) (e : Value) (s' : Shared), CX w [] H s (fun _ _ _ => False) e s' → False) :
    PySem.W.WalkO q loose XP YP l.row.toRowW d [] (fun f vs => PySem.call f vs) := by
  refine Att.attach_call hn hdf fun w s₀ s₁ mg mb fa o pm cd doc a vs ns G Y ho hd hcd hmg hobj hints hlen hbt hg => ?_
  have KX := hY w _ Y
  obtain ⟨fd, hb, hF⟩ := F w mg fa _ KX G.T.g hmg
  exact law_call KX G.T.g G.T.b G.T.builtins G.T.nolimit (G.T.seer hq) hg hobj hints (Nat.le_trans hlen hn2) hr hF hb (fun H hO hS => hsp w H a ns hlen hbt hO hS) fun H e s' => hCX w H s₁ e s'
end L2
namespace L2
open PySem PySem.Spec PyProof.Rows
noncomputable def defArgs (s : Stmt) : Arguments := match s with
  | .FunctionDef _ a _ _ _ _ _ _ _ _ => a
  | _ => { posonlyargs := [], args := [], vararg := none, kwonlyargs := [], kw_defaults := [], kwarg := none, defaults := [] }
noncomputable def defBody (s : Stmt) : List Stmt := match s with
  | .FunctionDef _ _ b _ _ _ _ _ _ _ => b
  | _ => []
noncomputable def defScope (s : Stmt) : Scope := match s with
  | .FunctionDef _ _ _ _ _ _ sc _ _ _ => sc
  | _ => { kind := .function, names := [], isGenerator := false, isCoroutine := false }
abbrev CX0 : CXT := fun _ _ _ _ _ _ => False
abbrev E0 : XK := fun _ _ _ => False
theorem pass0 {X : Cx} : Passes CX0 X E0 := fun _ _ _ _ _ _ _ h => h.elim
structure Fun (K : PySem.W.Frag) (x qual : Str) (st : Stmt) (f : Addr) (fd : FuncData) : Prop where
  ex : ∃ (oc : Value) (od : Option Addr) (kV doc pm : Value) (an : Option Addr) (cdv ct : Value) (osl : Array (Option Value)),
    fd = PySem.W.fnOf x qual (defArgs st) (defBody st) (defScope st) .none kV doc pm an cdv ct ∧ K.lookup f = some ⟨oc, od, .func fd, osl⟩ ∧ PySem.W.codeIn K cdv qual = true
  kp : PySem.W.keepIn K (.ref f) = true
section
variable {P : Program} {w : World} {K : PySem.W.Frag} {mg : Str → Option Value} {base : Heap}
theorem Fun.ok {x qual : Str} {st : Stmt} {f : Addr} {fd : FuncData} {N ps : List Str} {k : Nat} {sp : Sp} (F : Fun K x qual st f fd) (S : FnScope N ps (defScope st)) (len : ∀ vs H Q E, sp vs H Q E → vs.length = ps.length)
    (hbody : ∀ (cdv : Value) (A : Around) (outer : List Env) (s : Shared) (H : Hp) (vs : List V) (Q : VK) (E : XK), Room k (A.deeper (envOfC qual (defScope st) s.heap.objs.size f cdv)) → sp vs H Q E →
      ∃ t, PSs (cxOf CX0 P w K mg base N qual (defScope st) f cdv A outer s H E).nox (defBody st) t ∧ t { nx := fun _ H' => Q .non H', rt := Q } (start N vs) H) : FnOk P w K mg base CX0 (k + 1) f fd ps sp := by
  obtain ⟨oc, od, kV, doc, pm, an, cdv, ct, osl, rfl, lk, hcd⟩ := F.ex
  refine fn_of lk hcd S len fun A outer s H vs Q E hr hsp => ?_
  obtain ⟨t, h, q⟩ := hbody cdv A outer s H vs Q E hr hsp
  exact ⟨t, h.nox, q⟩
theorem Fun.binds {x qual : Str} {st : Stmt} {f : Addr} {fd : FuncData} {ps : List Str} (F : Fun K x qual st f fd)
    (h : ∀ (kV doc pm : Value) (an : Option Addr) (cdv ct : Value) (us : List Value), us.length = ps.length → bindArgs (PySem.W.fnOf x qual (defArgs st) (defBody st) (defScope st) .none kV doc pm an cdv ct) ⟨us, []⟩ = pure (ps.zip us)) : Binds K fd ps [] := by
  obtain ⟨oc, od, kV, doc, pm, an, cdv, ct, osl, rfl, lk, hcd⟩ := F.ex
  exact .all (h kV doc pm an cdv ct)
theorem fun_mk {x qual : Str} {st : Stmt} {f : Addr} {oc : Value} {od an : Option Addr} {osl : Array (Option Value)} {kV doc pm cdv ct : Value} (l : K.lookup f = some ⟨oc, od, .func (PySem.W.fnOf x qual (defArgs st) (defBody st) (defScope st) .none kV doc pm an cdv ct), osl⟩)
    (c : PySem.W.codeIn K cdv qual = true) (k : PySem.W.keepIn K (.ref f) = true) : Fun K x qual st f (PySem.W.fnOf x qual (defArgs st) (defBody st) (defScope st) .none kV doc pm an cdv ct) := ⟨⟨oc, od, kV, doc, pm, an, cdv, ct, osl, rfl, l, c⟩, k⟩
end
theorem hu_of {A : Around} {k : Nat} (hr : Room k A) : A.units + 1 < cLine := Nat.lt_of_le_of_lt (Nat.add_le_add_left (by decide : 1 ≤ 64) _) hr.units
theorem small1000 {n : Nat} (h : n ≤ 1000) : n < sizeLine := Nat.lt_of_le_of_lt h (by decide)
section
variable {X : Cx}
theorem pv (i : Nat) {x : Str} {pos : Pos} (hN : X.N[i]? = some x := by rfl) (hv : Vis X.env.scope x := by first | exact Or.inl rfl | exact Or.inr (Or.inl rfl) | exact Or.inr (Or.inr rfl)) (hd : (x == ("__debug__" : Str)) = false := by decide)
    (hcd : (x == ("__classdict__" : Str)) = false := by decide) : PE X (.Name x pos) (tVar i) := pe_var hN hv hd hcd
end
theorem iteF {A B : Prop} (h : B) : if false = true then A else B := by
  rw [if_neg Bool.false_ne_true]
  exact h
theorem iteT {A B : Prop} (h : A) : if true = true then A else B := by
  rw [if_pos rfl]
  exact h
theorem ite2 {c A B : Prop} [Decidable c] (h1 : c → A) (h2 : ¬ c → B) : if c then A else B := by
  by_cases h : c
  · rw [if_pos h]
    exact h1 h
  · rw [if_neg h]
    exact h2 h
theorem iteNS {c A B : Prop} [Decidable c] (hc : c) (h : B) : if (!decide c) = true then A else B := by
  rw [decide_eq_true hc]
  exact iteF h
noncomputable def Same (H H' : Hp) : Prop := ∀ b o, H b = some o → H' b = some o
theorem Same.refl (H : Hp) : Same H H := fun _ _ h => h
theorem Same.trans {H H1 H2 : Hp} (a : Same H H1) (b : Same H1 H2) : Same H H2 := fun c o h => b c o (a c o h)
theorem Same.free {H H' : Hp} (e : Same H H') {l : Addr} (h : H' l = Option.none) : H l = Option.none := by
  cases q : H l with
  | none => rfl
  | some o =>
    rw [e l o q] at h
    cases h
theorem Same.seq {K : PySem.W.Frag} {H H' : Hp} {a : Addr} {xs : List V} (e : Same H H') (h : SqL K H a xs) : SqL K H' a xs := by
  rcases h with (h | ⟨o, h⟩) | h
  · exact .inl (.inl (e _ _ h))
  · exact .inl (.inr ⟨o, e _ _ h⟩)
  · exact .inr h
end L2
namespace L2
open PySem PySem.Spec PyProof.Rows
section
variable {X : Cx}
noncomputable def rAddI : R2 := fun x y H Q => ∃ i j, x = .int i ∧ y = .int j ∧ Q (.int (i + j)) H
noncomputable def rSubI : R2 := fun x y H Q => ∃ i j, x = .int i ∧ y = .int j ∧ Q (.int (i - j)) H
theorem op_addI : OpR X (binaryOp .Add) rAddI := op_add
theorem op_subI : OpR X (binaryOp .Sub) rSubI := op_sub
noncomputable def CMulB (i j : Int) : Prop := ∃ m n : Nat, Builtin.Int.intBits i ≤ m ∧ Builtin.Int.intBits j ≤ n ∧ m + n ≤ 134217728
noncomputable def rMulB : R2 := fun x y H Q => ∃ i j, x = .int i ∧ y = .int j ∧ CMulB i j ∧ Q (.int (i * j)) H
theorem op_mulB : OpR X (binaryOp .Mult) rMulB := opI (C := CMulB) (g := fun i j => i * j) fun _ _ _ _ _ _ _ hc q => by
  obtain ⟨m, n, h1, h2, h3⟩ := hc
  exact mul_int q (IntMulOk.of_le h1 h2 h3)
noncomputable def CDivB (j : Int) : Prop := 0 < j ∧ Builtin.Int.intBits j ≤ 9000
noncomputable def rDivB : R2 := fun x y H Q => ∃ i j, x = .int i ∧ y = .int j ∧ CDivB j ∧ Q (.int (i / j)) H
theorem op_fdivB : OpR X (binaryOp .FloorDiv) rDivB := opI (C := fun _ j => CDivB j) (g := fun i j => i / j) fun i j _ _ _ _ _ hc q => by
  have h1 : (0 : Int) < j := hc.1
  have h3 : j.natAbs.log2 < 9000 := (Nat.log2_lt (by omega)).mpr (intBits_le_iff.mp hc.2)
  exact floordiv_int (by omega) (by rw [Int.fdiv_eq_ediv_of_nonneg i (by omega)]; exact q) (.inl (PyProof.noPylong_of_log2 h3))
noncomputable def rModB : R2 := fun x y H Q => ∃ i j, x = .int i ∧ y = .int j ∧ 0 < j ∧ Q (.int (i % j)) H
theorem op_modB : OpR X (binaryOp .Mod) rModB := op_mod
noncomputable def rPowB : R2 := fun x y H Q => ∃ i j, x = .int i ∧ y = .int j ∧ CPow i j ∧ Q (.int (i ^ j.toNat)) H
theorem op_powB : OpR X (binaryOp .Pow) rPowB := op_pow
noncomputable def rShlB : R2 := fun x y H Q => ∃ i j, x = .int i ∧ y = .int j ∧ CPow i j ∧ Q (.int (i * 2 ^ j.toNat)) H
theorem op_shlB : OpR X (binaryOp .LShift) rShlB := op_shl
noncomputable def rLtI : R2 := fun x y H Q => ∃ i j, x = .int i ∧ y = .int j ∧ Q (.bl (decide (i < j))) H
noncomputable def rGtI : R2 := fun x y H Q => ∃ i j, x = .int i ∧ y = .int j ∧ Q (.bl (decide (j < i))) H
noncomputable def rGeI : R2 := fun x y H Q => ∃ i j, x = .int i ∧ y = .int j ∧ Q (.bl (decide (j ≤ i))) H
noncomputable def rEqI : R2 := fun x y H Q => ∃ i j : Int, x = .int i ∧ y = .int j ∧ Q (.bl (decide (i = j))) H
noncomputable def rNeI : R2 := fun x y H Q => ∃ i j : Int, x = .int i ∧ y = .int j ∧ Q (.bl (!decide (i = j))) H
theorem op_ltI : OpR X (compareOp .Lt) rLtI := op_lt
theorem op_gtI : OpR X (compareOp .Gt) rGtI := op_gt
theorem op_geI : OpR X (compareOp .GtE) rGeI := op_ge
theorem op_eqI : OpR X (compareOp .Eq) rEqI := by
  intro pins s σ H x y v u Q I rx ry h
  obtain ⟨i, j, rfl, rfl, q⟩ := h
  refine op_eq pins s σ H _ _ v u Q I rx ry ⟨rfl, ?_⟩
  have e : decide (V.int i = V.int j) = decide (i = j) := decide_eq_decide.mpr ⟨fun z => V.int.inj z, fun z => by rw [z]⟩
  rw [e]; exact q
theorem op_neI : OpR X (compareOp .NotEq) rNeI := by
  intro pins s σ H x y v u Q I rx ry h
  obtain ⟨i, j, rfl, rfl, q⟩ := h
  refine op_ne pins s σ H _ _ v u Q I rx ry ⟨rfl, ?_⟩
  have e : decide (V.int i = V.int j) = decide (i = j) := decide_eq_decide.mpr ⟨fun z => V.int.inj z, fun z => by rw [z]⟩
  rw [e]; exact q
noncomputable def PylOk (X : Cx) : Prop := ∀ (pins : List (Addr × Obj)) (σ : St) (H : Hp) (s : Shared), Inv X pins σ H s → PylongRoom (model X.prog X.w) X.A s
noncomputable def rDivP : R2 := fun x y H Q => ∃ i j, x = .int i ∧ y = .int j ∧ 0 < j ∧ Q (.int (i / j)) H
theorem op_fdivP (hp : PylOk X) : OpR X (binaryOp .FloorDiv) rDivP := by
  intro pins s σ H x y v u Q I rx ry h
  obtain ⟨i, j, rfl, rfl, hj, q⟩ := h
  obtain ⟨t, rfl⟩ := rx
  obtain ⟨t', rfl⟩ := ry
  refine floordiv_int (by omega) ?_ (.inr (hp pins σ H s I))
  rw [Int.fdiv_eq_ediv_of_nonneg i (by omega)]
  exact ⟨.int (i / j), H, I.tok _, ⟨_, rfl⟩, q⟩
theorem pyl_ok {CX : CXT} {P : Program} {w : World} {K : PySem.W.Frag} {mg : Str → Option Value} {base : Heap} {N ps : List Str} {qual : Str} {scope : Scope} {f : Addr} {cdv : Value} {A : Around} {outer : List Env} {s : Shared} {H : Hp} {E : XK}
    (hP : P.given.tree = none) (S : FnScope N ps scope) (hr : Room 35 (A.deeper (envOfC qual scope s.heap.objs.size f cdv))) : PylOk ((cxOf CX P w K mg base N qual scope f cdv A outer s H E).nox) := by
  intro pins σ H' s' I
  have I' := I.unwish
  refine PylongRoom.of I'.nolimit ?_ (SeerAt.of (I'.mod.seer.keeps I'.bk) hP I'.ok.frames S.gen S.co rfl rfl)
  have := hr.dp
  show (A.deeper (envOfC qual scope s.heap.objs.size f cdv)).depth + 100 < _
  omega
theorem mt_bit_length : MtR X "int.bit_length" (fun x vs H Q => ∃ i, x = .int i ∧ vs = [] ∧ Q (.int (Builtin.Int.intBits i : Nat)) H) := by
  intro pins s σ H x xs v us Q I rx rv h
  obtain ⟨i, rfl, rfl, q⟩ := h
  obtain ⟨t, rfl⟩ := rx
  cases rv
  exact call_int_bit_length ⟨.int _, H, I.tok _, ⟨_, rfl⟩, q⟩
end
noncomputable def Def (K : PySem.W.Frag) (mg : Str → Option Value) (x : Str) (st : Stmt) (ps : List Str) : Prop :=
  ∃ f fd, Fun K x x st f fd ∧ Binds K fd ps [] ∧ mg x = some (.ref f)
noncomputable def Fn (P : Program) (w : World) (K : PySem.W.Frag) (mg : Str → Option Value) (base : Heap) (k : Nat) (x : Str) (ps : List Str) (sp : Sp) : Prop :=
  ∃ f fd, FnOk P w K mg base CX0 k f fd ps sp ∧ PySem.W.keepIn K (.ref f) = true ∧ Binds K fd ps [] ∧ mg x = some (.ref f)
section
variable {P : Program} {w : World} {K : PySem.W.Frag} {mg : Str → Option Value} {base : Heap}
theorem Def.fn {x : Str} {st : Stmt} {N ps : List Str} {k : Nat} {sp : Sp} (D : Def K mg x st ps) (S : FnScope N ps (defScope st)) (len : ∀ vs H Q E, sp vs H Q E → vs.length = ps.length)
    (hbody : ∀ (f : Addr) (cdv : Value) (A : Around) (outer : List Env) (s : Shared) (H : Hp) (vs : List V) (Q : VK) (E : XK), Room k (A.deeper (envOfC x (defScope st) s.heap.objs.size f cdv)) → sp vs H Q E →
      ∃ t, PSs (cxOf CX0 P w K mg base N x (defScope st) f cdv A outer s H E).nox (defBody st) t ∧ t { nx := fun _ H' => Q .non H', rt := Q } (start N vs) H) : Fn P w K mg base (k + 1) x ps sp := by
  obtain ⟨f, fd, F, b, m⟩ := D
  exact ⟨f, fd, F.ok S len (fun cdv A outer s H vs Q E hr h => hbody f cdv A outer s H vs Q E hr h), F.kp, b, m⟩
theorem Fn.mono {j k : Nat} {x : Str} {ps : List Str} {sp : Sp} (F : Fn P w K mg base j x ps sp) (h : j ≤ k) : Fn P w K mg base k x ps sp := by
  obtain ⟨f, fd, F, r⟩ := F
  exact ⟨f, fd, F.mono h, r⟩
theorem Fn.imp {k : Nat} {x : Str} {ps : List Str} {sp sp' : Sp} (F : Fn P w K mg base k x ps sp) (h : ∀ vs H Q E, sp' vs H Q E → sp vs H Q E) : Fn P w K mg base k x ps sp' := by
  obtain ⟨f, fd, F, r⟩ := F
  exact ⟨f, fd, F.imp h, r⟩
end
section
variable {X : Cx} {k : Nat} {x : Str} {ps : List Str} {sp : Sp} {p pos : Pos} {e : Expr} {es : List Expr} {t : TA}
noncomputable def tFn (sp : Sp) (t : TA) : TE := fun σ H Q => t σ H fun vs H1 => sp vs H1 Q E0
theorem pe_fn (F : Fn X.prog X.w X.K X.mg X.base k x ps sp) (hr : Room k X.A) (hg : Gl X x) (ha : PA X (e :: es) t) (hdb : (x == ("__debug__" : Str)) = false := by decide)
    (he : starEach (e :: es) X.env = (false, eval e X.env) :: starEach es X.env := by rfl) (hpl : (backTo pos (starEach es X.env)).any (·.1) = false := by rfl) :
    PE X (.Call (.Name x p) (e :: es) [] pos) (tFn sp t) := by
  obtain ⟨f, fd, F, kp, b, m⟩ := F
  have h := pe_call (p := p) (pos := pos) (dvs := []) (ds := []) F hr hg m kp b .nil pass0 ha hdb he hpl
  intro pins s σ H Q I q
  refine h pins s σ H Q I ?_
  show t σ H fun vs H1 => sp (vs ++ []) H1 Q E0
  have q' : t σ H fun vs H1 => sp vs H1 Q E0 := q
  simpa only [List.append_nil] using q'
end
theorem ifD {c A B : Prop} [Decidable c] (h1 : c → A) (h2 : ¬ c → B) : if decide c = true then A else B := by
  by_cases h : c
  · rw [if_pos (decide_eq_true h)]; exact h1 h
  · rw [if_neg (fun z => h (of_decide_eq_true z))]; exact h2 h
theorem ifND {c A B : Prop} [Decidable c] (h1 : ¬ c → A) (h2 : c → B) : if (!decide c) = true then A else B := by
  by_cases h : c
  · rw [if_neg (by rw [decide_eq_true h]; decide)]; exact h2 h
  · rw [if_pos (by rw [decide_eq_false h]; decide)]; exact h1 h
theorem b_isinstance : bootBuiltins "isinstance" = some (.builtin "isinstance") := by decide +kernel
theorem b_int : bootBuiltins "int" = some (.type "int") := by decide +kernel
theorem b_list : bootBuiltins "list" = some (.type "list") := by decide +kernel
theorem b_len : bootBuiltins "len" = some (.builtin "len") := by decide +kernel
theorem b_max : bootBuiltins "max" = some (.builtin "max") := by decide +kernel
theorem b_min : bootBuiltins "min" = some (.builtin "min") := by decide +kernel
theorem b_sorted : bootBuiltins "sorted" = some (.builtin "sorted") := by decide +kernel
theorem b_enumerate : bootBuiltins "enumerate" = some (.type "enumerate") := by decide +kernel
theorem b_ValueError : bootBuiltins "ValueError" = some (.type "ValueError") := by decide +kernel
theorem at2 {α : Type} (a b : α) {i : Int} (h0 : 0 ≤ i) (h1 : i < 2) : ∃ v, atI [a, b] i = some v ∧ (v = a ∨ v = b) := by
  rcases (by omega : i = 0 ∨ i = 1) with rfl | rfl
  · exact ⟨a, rfl, .inl rfl⟩
  · exact ⟨b, rfl, .inr rfl⟩
theorem Same.put {H H' : Hp} {p : Addr} {o : HO} (s : Same H H') (h : H' p = Option.none) : Same H (upd H' p o) := fun b u e => by
  have e' := s b u e
  rw [upd_ne (ne_of_none e' h)]
  exact e'
theorem Same.new {H : Hp} {p : Addr} {o : HO} (h : H p = Option.none) : Same H (upd H p o) := (Same.refl H).put h
end L2
namespace L2
open PySem PySem.Spec PyProof.Rows
noncomputable def Itr3 (lo c : Int) (n : Nat) : It := ⟨fun i _ => i < n, fun i H x H' => H' = H ∧ x = .int (lo + i * c), fun i _ => n ≤ i⟩
theorem turn_range3 {P : Program} {w : World} {K : PySem.W.Frag} {tg : Expr} (it : Addr) (lo c : Int) (n : Nat) : Turn P w K tg (Itr3 lo c n) [it] it (fun i h => IsRangeIter h it (lo + (i : Nat) * c) ((n : Int) - (i : Nat)) c) where
  mem := by simp
  obj := fun i h st b hb => by
    have e : b = it := by simpa using hb
    subst e
    exact ⟨_, st, fun v z => by
      have z' : Data.fields _ = Data.cell v := z
      cases z'⟩
  keep := fun i h h' st k => k it (by simp) _ st
  item := by
    intro X hP hw hK hc i pins s σ H E I hf st hg
    subst hP hw hK
    obtain ⟨f0, f1, f2, f3, f4, f5⟩ := hf it (by simp)
    have W := Walks.range (prog := X.prog) (w := X.w) (I.ok.hd hc) it lo c n
    refine W.item i s _ _ hg st fun v h' tk hv st' kk => ?_
    obtain ⟨t, rfl⟩ := hv
    have I1 : Inv X pins σ H { s with heap := h', toks := tk } := I.turned (fun b o hb e => kk b o (by simpa using hb) e) f0 f1 f3 f4 f5
    exact ⟨_, rfl, go_of (s := { s with heap := h', toks := tk }) (n := "range_iterator") st' rfl rfl (by decide) ⟨.int (lo + i * c), H, I1, ⟨t, rfl⟩, ⟨rfl, rfl⟩, st', fun b hb => (hf b hb).1⟩⟩
  done := by
    intro X hP hw hK hc i pins s σ H E I hf st hg
    subst hP hw hK
    obtain ⟨f0, f1, f2, f3, f4, f5⟩ := hf it (by simp)
    exact wpAny_pyNext_range_end (I.ok.hd hc) st (by have : n ≤ i := hg; omega) fun h' eb => ⟨rfl, I.turned (t' := s.toks) (fun b o hb e => eb b o hb e) f0 f1 f3 f4 f5⟩
  self := fun _ _ _ _ _ st h => wpAny_pyIter_rangeiter st h
section
variable {X : Cx} {tg : Expr}
noncomputable def iRng3 (ta : TA) : TI := fun σ H R => ta σ H fun vs H1 => ∃ (i j c : Int) (n : Nat), vs = [.int i, .int j, .int c] ∧ (c ≠ 0 ∧ c.natAbs < 1073741824 ∧ Builtin.Range.small i j c = true ∧ Builtin.Range.rangeSize i j c = (n : Int)) ∧ R (Itr3 i c n) H1
theorem pi_range3 {a b c : Expr} {ta : TA} {p pos : Pos} (hg : Gl X "range") (hm : X.mg "range" = none) (ha : PA X [a, b, c] ta) (hs : starEach [a, b, c] X.env = (false, eval a X.env) :: starEach [b, c] X.env := by rfl) (hs2 : (backTo pos (starEach [b, c] X.env)).any (·.1) = false := by rfl) :
    PI X tg (.Call (.Name "range" p) [a, b, c] [] pos) (iRng3 ta) := by
  intro pins s σ H R I h
  refine Call_ (ld_blt I hg hm boot_range (PyProof.Rows.callWith_type1 (thn (ha pos pins s σ H _ I h) fun us s1 ⟨vs, H1, I1, r1, q1⟩ => ?_) hs hs2))
  obtain ⟨i, j, k, n, e, ⟨q1, q2, q3, q4⟩, q⟩ := q1
  subst e
  cases r1 with
  | cons r rr =>
    cases rr with
    | cons r' rr =>
      cases rr with
      | cons r'' rr =>
        cases rr
        obtain ⟨t, rfl⟩ := r
        obtain ⟨t', rfl⟩ := r'
        obtain ⟨t'', rfl⟩ := r''
        refine call_range_3 q1 ?_ (.inl (PyProof.noPylong_small q2))
        refine wpAny_pyIter_range (IsRange.new ..) q3 ?_
        have I2 : Inv X pins σ H1 { s1 with heap := s1.heap.push { cls := .type "range", data := .fields #[.int i t, .int j t', .int k t''] }, toks := s1.toks } := I1.kept fun b o e => Heap.get?_push_of_some _ e
        refine ⟨(s1.heap.push { cls := .type "range", data := .fields #[.int i t, .int j t', .int k t''] }).objs.size, [(s1.heap.push { cls := .type "range", data := .fields #[.int i t, .int j t', .int k t''] }).objs.size], _, _, H1, rfl,
          I2.kept (t' := s1.toks) fun b o e => Heap.get?_push_of_some _ e, turn_range3 _ i k n, ?_, fun b hb => ?_, q⟩
        · have e1 : i + ((0 : Nat) : Int) * k = i := by simp
          have e2 : ((n : Nat) : Int) - ((0 : Nat) : Int) = Builtin.Range.rangeSize i j k := by rw [q4]; simp
          show IsRangeIter _ _ (i + ((0 : Nat) : Int) * k) (((n : Nat) : Int) - ((0 : Nat) : Int)) k
          rw [e1, e2]
          exact Heap.get?_push_size _ rfl
        · have e : b = (s1.heap.push { cls := .type "range", data := .fields #[.int i t, .int j t', .int k t''] }).objs.size := by simpa using hb
          subst e
          exact I2.fpOk (Nat.le_refl _) (I2.hok.fresh (Nat.le_refl _))
end
theorem for_range3 {lo c : Int} {n : Nat} {g : TG} {tb : TS} {D : Ends} {σ : St} {H : Hp} (Pv : Nat → St → Hp → Prop) (h0 : Pv 0 σ H)
    (hs : ∀ i σ H, i < n → Pv i σ H → g (.int (lo + i * c)) σ H fun σ2 H2 => tb { D with nx := Pv (i + 1), ct := Pv (i + 1), bk := D.nx } σ2 H2) (hd : ∀ σ H, Pv n σ H → D.nx σ H) :
    ∃ W : Nat → Nat → St → Hp → Prop, (∃ m, W 0 m σ H) ∧ ∀ i m σ H, W i m σ H →
      ((Itr3 lo c n).stop i H ∧ D.nx σ H) ∨ ((Itr3 lo c n).go i H ∧ ∃ N : St → Hp → Prop, (∀ σ' H', N σ' H' → ∃ m', m' < m ∧ W (i + 1) m' σ' H') ∧ ∀ x H', (Itr3 lo c n).yld i H x H' → g x σ H' fun σ2 H2 => tb { D with nx := N, ct := N, bk := D.nx } σ2 H2) := by
  refine ⟨fun i m σ H => m = n - i ∧ i ≤ n ∧ Pv i σ H, ⟨n, by simp, Nat.zero_le _, h0⟩, ?_⟩
  rintro i m σ H ⟨rfl, hi, p⟩
  by_cases hlt : i < n
  · refine .inr ⟨hlt, Pv (i + 1), fun σ' H' p' => ⟨n - (i + 1), by omega, rfl, hlt, p'⟩, fun x H' y => ?_⟩
    obtain ⟨e, y⟩ := y
    subst e y
    exact hs i σ _ hlt p
  · have e : i = n := by omega
    subst e
    exact .inl ⟨Nat.le_refl _, hd σ H p⟩
end L2
namespace L2
open PySem PySem.Spec PyProof.Rows
def clOf (env : Env) : List (Str × NameKind) → List (Str × Addr) → List (Str × Addr)
  | [], acc => acc
  | (n, k) :: r, acc => if k == .free then clOf env r ((n, (env.cells.lookup n).getD 0) :: acc) else clOf env r acc
theorem closure_eq {scope : Scope} {env : Env} (h : ∀ p ∈ scope.names, p.2 = .free → ∃ c, env.cells.lookup p.1 = some c) : closureFor scope env = pure (clOf env scope.names []) := by
  unfold closureFor
  have key : ∀ (names : List (Str × NameKind)) (acc : List (Str × Addr)), (∀ p ∈ names, p.2 = .free → ∃ c, env.cells.lookup p.1 = some c) →
      (forIn names acc (fun (x : Str × NameKind) (cs : List (Str × Addr)) => match x with
        | (name, kind) => if (kind == NameKind.free) = true then (cellOf env name >>= fun c => pure (ForInStep.yield ((name, c) :: cs))) else pure (ForInStep.yield cs)) : Sem (List (Str × Addr))) = pure (clOf env names acc) := by
    intro names
    induction names with
    | nil => intro acc _; rfl
    | cons p r ih =>
      intro acc hp
      obtain ⟨n, k⟩ := p
      have hr : ∀ p ∈ r, p.2 = .free → ∃ c, env.cells.lookup p.1 = some c := fun p hm => hp p (List.mem_cons_of_mem _ hm)
      rw [List.forIn_cons]
      by_cases hk : k = .free
      · subst hk
        obtain ⟨c, hc⟩ := hp (n, .free) List.mem_cons_self rfl
        have hc : env.cells.lookup n = some c := hc
        have e1 : cellOf env n = pure c := by unfold cellOf; rw [hc]
        have e2 : clOf env ((n, .free) :: r) acc = clOf env r ((n, c) :: acc) := by
          show clOf env r ((n, (env.cells.lookup n).getD 0) :: acc) = _
          rw [hc]; rfl
        simp only [beq_self_eq_true, if_true, e1, pure_bind]
        rw [e2]
        exact ih _ hr
      · have hb : (k == NameKind.free) = false := by simpa using hk
        have e2 : clOf env ((n, k) :: r) acc = clOf env r acc := by
          show (if (k == NameKind.free) = true then clOf env r ((n, (env.cells.lookup n).getD 0) :: acc) else clOf env r acc) = _
          rw [hb]; rfl
        simp only [hb, Bool.false_eq_true, if_false, pure_bind]
        rw [e2]
        exact ih _ hr
  have k0 := key scope.names [] h
  show (forIn scope.names ([] : List (Str × Addr)) _ >>= fun r => pure r) = _
  refine Eq.trans (congrArg (fun m => m >>= fun r => pure r) k0) ?_
  rfl
theorem clOf_look {env : Env} : ∀ {names : List (Str × NameKind)} {acc : List (Str × Addr)}, (∀ p ∈ names, p.2 = .free → ∃ c, env.cells.lookup p.1 = some c) → (∀ x c, acc.lookup x = some c → env.cells.lookup x = some c) →
    ∀ x c, (clOf env names acc).lookup x = some c → env.cells.lookup x = some c
  | [], _, _, ha, x, c, h => ha x c h
  | (n, k) :: r, acc, hp, ha, x, c, h => by
    have hr : ∀ p ∈ r, p.2 = .free → ∃ c, env.cells.lookup p.1 = some c := fun p hm => hp p (List.mem_cons_of_mem _ hm)
    by_cases hk : k = .free
    · subst hk
      obtain ⟨d, hd⟩ := hp (n, .free) List.mem_cons_self rfl
      have hd : env.cells.lookup n = some d := hd
      have e2 : clOf env ((n, .free) :: r) acc = clOf env r ((n, d) :: acc) := by
        show clOf env r ((n, (env.cells.lookup n).getD 0) :: acc) = _
        rw [hd]; rfl
      rw [e2] at h
      refine clOf_look hr (fun y e hy => ?_) x c h
      rw [List.lookup_cons] at hy
      cases hyn : y == n with
      | true => rw [hyn] at hy; cases hy; rw [beq_iff_eq.mp hyn]; exact hd
      | false => rw [hyn] at hy; exact ha y e hy
    · have hb : (k == NameKind.free) = false := by simpa using hk
      have e2 : clOf env ((n, k) :: r) acc = clOf env r acc := by
        show (if (k == NameKind.free) = true then clOf env r ((n, (env.cells.lookup n).getD 0) :: acc) else clOf env r acc) = _
        rw [hb]; rfl
      rw [e2] at h
      exact clOf_look hr ha x c h
theorem clOf_has {env : Env} : ∀ {names : List (Str × NameKind)} {acc : List (Str × Addr)} {x : Str}, ((x, NameKind.free) ∈ names ∨ ∃ c, acc.lookup x = some c) → ∃ c, (clOf env names acc).lookup x = some c
  | [], _, _, h => h.elim (fun z => nomatch z) id
  | (n, k) :: r, acc, x, h => by
    by_cases hk : k = .free
    · subst hk
      show ∃ c, (clOf env r ((n, (env.cells.lookup n).getD 0) :: acc)).lookup x = some c
      refine clOf_has ?_
      by_cases hx : x = n
      · subst hx; exact .inr ⟨_, by rw [List.lookup_cons, beq_self_eq_true]⟩
      · rcases h with h | ⟨c, h⟩
        · rcases List.mem_cons.mp h with e | e
          · cases e; exact absurd rfl hx
          · exact .inl e
        · exact .inr ⟨c, by rw [List.lookup_cons, beq_eq_false_iff_ne.mpr hx]; exact h⟩
    · have hb : (k == NameKind.free) = false := by simpa using hk
      have e2 : clOf env ((n, k) :: r) acc = clOf env r acc := by
        show (if (k == NameKind.free) = true then clOf env r ((n, (env.cells.lookup n).getD 0) :: acc) else clOf env r acc) = _
        rw [hb]; rfl
      rw [e2]
      refine clOf_has ?_
      rcases h with h | h
      · rcases List.mem_cons.mp h with e | e
        · cases e; exact absurd rfl hk
        · exact .inl e
      · exact .inr h
section
variable {prog : Program} {w : World} {A : Around}
theorem codeAny_compLoop_gen {elt target iter : Expr} {ifs : List Expr} {scope : Scope} {pos : Pos} {it acc : Value} {env : Env} {s : Shared} {R : Result → Shared → Prop} (I : Nat → Shared → Prop)
    (turn : ∀ n s, I n s → wpAny (model prog w) A (pyNext it) (fun r s₁ => match r with
      | none => R (.ok .next) s₁
      | some v => wpAny (model prog w) A (letOwnedTupleGo target it v) (fun _ s₁' => wpAny (model prog w) A (assign target env v) (fun _ s₂ =>
          wpAny (model prog w) A (forIn ifs true fun c r => if r = true then do let ok ← isTrue c env (eval c env); pure (ForInStep.yield ok) else pure (ForInStep.yield r)) (fun ok s₃ =>
            if ok = true then wpAny (model prog w) A (eval elt env) (fun x s₄ => wpAny (model prog w) A (call (.builtin "list.append") [acc, x]) (fun _ s₅ => ∃ m, m < n ∧ I m s₅) (fun _ _ => False) s₄) (fun _ _ => False) s₃
            else ∃ m, m < n ∧ I m s₃) (fun _ _ => False) s₂) (fun _ _ => False) s₁') (fun _ _ => False) s₁) (fun _ _ => False) s)
    (n : Nat) (h : I n s) : codeAny (model prog w) A (.compLoop (.ListComp elt [⟨target, iter, ifs, 0⟩] scope pos) 0 it acc env) R s := by
  refine codeAny_loop rfl I (fun n s hI => ?_) n h
  show wpAny _ A ((compTurn (.ListComp elt [⟨target, iter, ifs, 0⟩] scope pos) 0 it acc env).onRaise (fun x => do noteFrame x env; theTreesLotGoes x)) _ _ s
  refine wpAny_noted ?_
  rw [compTurn_list]
  refine wpAny_bind (wpAny_standAt (wpAny_bind (wpAny_mono (turn n s hI) (fun r s₁ h₁ => ?_) fun _ _ h' => h'.elim)))
  cases r with
  | none => exact wpAny_pure h₁
  | some v =>
    refine wpAny_bind (wpAny_mono h₁ (fun _ s₁' h₁' => ?_) fun _ _ h' => h'.elim)
    refine wpAny_bind (wpAny_mono h₁' (fun _ s₂ h₂ => wpAny_bind (wpAny_mono h₂ (fun ok s₃ h₃ => ?_) fun _ _ h' => h'.elim)) fun _ _ h' => h'.elim)
    cases ok with
    | false => exact wpAny_pure ⟨rfl, h₃⟩
    | true => exact wpAny_bind (wpAny_bind (wpAny_mono h₃ (fun x s₄ h₄ => wpAny_bind (wpAny_mono h₄ (fun _ s₅ h₅ => wpAny_pure (wpAny_pure ⟨rfl, h₅⟩)) fun _ _ h' => h'.elim)) fun _ _ h' => h'.elim))
end
abbrev blockCx (X : Cx) (pins : List (Addr × Obj)) (N : List Str) (scope : Scope) (C : Addr) (sF : Shared) (HF : Hp) (fp : List Addr) : Cx where
  prog := X.prog
  w := X.w
  K := X.K
  mg := X.mg
  base := X.base
  A := X.A
  N := N
  s₀ := sF
  H₀ := HF
  env := compEnvC scope (clOf X.env scope.names []) C X.env
  outer := X.stack
  stack := X.stack
  ex := fp
  fn := fun _ => false
  calm := X.calm
  pn := X.pn ++ pins
  xe := fun _ _ => False
noncomputable def blockSt (own : Nat) (ix : List Nat) (σ : St) : St := List.replicate own none ++ ix.map fun i => (σ[i]?).getD none
noncomputable def CompGo (J : It) (own : Nat) (ix : List Nat) (g : TG) (tt : TT) (te : TE) (σ : St) (H1 : Hp) (acc : Addr) (Q : VK) : Prop :=
  ∃ W : Nat → Nat → List V → Hp → Prop, (∃ m, W 0 m [] (upd H1 acc (.lst []))) ∧ ∀ i m ys H2, W i m ys H2 →
    H2 acc = some (.lst ys) ∧ ((J.stop i H2 ∧ Q (.ref acc) H2) ∨ (J.go i H2 ∧ ys.length < sizeLine ∧ ∀ x H3, J.yld i H2 x H3 → g x (blockSt own ix σ) H3 fun σ4 H4 => σ4.drop own = ix.map (fun i => (σ[i]?).getD none) ∧ tt σ4 H4 fun ok H5 =>
      if ok = true then te σ4 H5 fun y H6 => H6 acc = some (.lst ys) ∧ ∃ m', m' < m ∧ W (i + 1) m' (ys ++ [y]) (upd H6 acc (.lst (ys ++ [y])))
      else ∃ m', m' < m ∧ W (i + 1) m' ys H5))
noncomputable def tComp (wi : TI) (own : Nat) (ix : List Nat) (g : TG) (tt : TT) (te : TE) : TE := fun σ H Q => wi σ H fun J H1 => ∀ acc, H1 acc = none → CompGo J own ix g tt te σ H1 acc Q
noncomputable def tNoTest : TT := fun _ H Q => Q true H
noncomputable def PTs (X : Cx) (ifs : List Expr) (t : TT) : Prop :=
  ∀ (pins : List (Addr × Obj)) (s : Shared) (σ : St) (H : Hp) (Q : Bool → Hp → Prop), Inv X pins σ H s → t σ H Q →
    wpAny (model X.prog X.w) X.A (forIn ifs true fun c r => if r = true then do let ok ← isTrue c X.env (eval c X.env); pure (ForInStep.yield ok) else pure (ForInStep.yield r)) (TP X pins σ Q) X.xe s
theorem pts_nil {X : Cx} : PTs X [] tNoTest := fun _ _ _ H _ I h => wpAny_tests_nil ⟨H, I, h⟩
theorem pts_one {X : Cx} {c : Expr} {t : TT} (hc : PT X c t) : PTs X [c] t := fun pins s σ H Q I h => wpAny_tests_one (hc pins s σ H Q I h)
structure BlockOk (X : Cx) (scope : Scope) (own : List Str) (fr : List Str) (ix : List Nat) : Prop where
  kind : scope.kind = .function
  nocell : ∀ y ∈ scope.names, y.2 ≠ .cell
  names : ∀ y ∈ scope.names, y.2 = .local → scope.names.lookup y.1 = some .local
  free : ∀ p ∈ scope.names, p.2 = .free → ∃ c, X.env.cells.lookup p.1 = some c
  frd : ∀ x ∈ fr, (x, NameKind.free) ∈ scope.names ∧ X.env.kindOf x = some .cell ∧ scope.names.lookup x = some .free
  len : fr.length = ix.length
  at_ : ∀ (j : Nat) x i, fr[j]? = some x → ix[j]? = some i → X.N[i]? = some x
structure BlockB (X : Cx) (scope : Scope) (own : List Str) (fr : List Str) (ix : List Nat) : Prop where
  kind : scope.kind = .function
  nocell : (scope.names.all fun y => y.2 != .cell) = true
  names : (scope.names.all fun y => y.2 != .local || scope.names.lookup y.1 == some .local) = true
  free : (scope.names.all fun p => p.2 != .free || X.env.kindOf p.1 == some .cell) = true
  frd : (fr.all fun x => X.env.kindOf x == some .cell && scope.names.lookup x == some .free) = true
  at_ : (ix.map fun i => X.N[i]?) = fr.map some
theorem mem_of_lookup {x : Str} {k : NameKind} : ∀ {names : List (Str × NameKind)}, names.lookup x = some k → (x, k) ∈ names
  | [], h => by simp at h
  | (n, k') :: r, h => by
    rw [List.lookup_cons] at h
    cases hx : x == n with
    | true =>
      rw [hx] at h
      cases h
      rw [beq_iff_eq.mp hx]
      exact List.mem_cons_self
    | false =>
      rw [hx] at h
      exact List.mem_cons_of_mem _ (mem_of_lookup h)
theorem BlockB.ok {X : Cx} {scope : Scope} {own fr : List Str} {ix : List Nat} (B : BlockB X scope own fr ix) (ok : X.Ok) : BlockOk X scope own fr ix where
  kind := B.kind
  nocell := fun y hy => by simpa using List.all_eq_true.mp B.nocell y hy
  names := fun y hy hl => by
    have := List.all_eq_true.mp B.names y hy
    rw [hl] at this
    simpa using this
  free := fun p hp hf => by
    have := List.all_eq_true.mp B.free p hp
    rw [hf] at this
    exact ok.has p.1 (.inl (by simpa using this))
  frd := fun x hx => by
    have := List.all_eq_true.mp B.frd x hx
    rw [Bool.and_eq_true] at this
    have h2 : scope.names.lookup x = some .free := by simpa using this.2
    exact ⟨mem_of_lookup h2, by simpa using this.1, h2⟩
  len := by
    have := congrArg List.length B.at_
    simpa using this.symm
  at_ := fun j x i hx hi => by
    have e := congrArg (fun l => l[j]?) B.at_
    simp only [List.getElem?_map, hx, hi, Option.map_some] at e
    exact Option.some.inj e
theorem relabel_free {env : Env} (hf : env.scope.kind = .function) : ∀ {names : List (Str × NameKind)} {x : Str}, names.lookup x = some .free → env.kindOf x = some .cell →
    (names.map fun (n, k) => if (k == NameKind.free && env.scope.kind == .function && env.kindOf n == some .cell) then (n, NameKind.cell) else (n, k)).lookup x = some .cell
  | [], _, h, _ => by simp at h
  | (n, k) :: r, x, h, hx => by
    have ih := @relabel_free env hf r x
    show List.lookup x ((if (k == NameKind.free && env.scope.kind == .function && env.kindOf n == some .cell) = true then (n, NameKind.cell) else (n, k)) :: _) = _
    cases hxn : x == n with
    | true =>
      have e := beq_iff_eq.mp hxn
      subst e
      simp only [List.lookup_cons, hxn] at h
      cases h
      rw [if_pos (by rw [hf, hx]; rfl)]
      simp only [List.lookup_cons, hxn]
    | false =>
      simp only [List.lookup_cons, hxn] at h
      by_cases hc : (k == NameKind.free && env.scope.kind == .function && env.kindOf n == some .cell) = true
      · rw [if_pos hc]; simp only [List.lookup_cons, hxn]; exact ih h hx
      · rw [if_neg hc]; simp only [List.lookup_cons, hxn]; exact ih h hx
theorem relabel_has {env : Env} : ∀ {names : List (Str × NameKind)} {x : Str}, (∀ y ∈ names, y.2 ≠ .cell) →
    ((names.map fun (n, k) => if (k == NameKind.free && env.scope.kind == .function && env.kindOf n == some .cell) then (n, NameKind.cell) else (n, k)).lookup x = some .cell ∨
     (names.map fun (n, k) => if (k == NameKind.free && env.scope.kind == .function && env.kindOf n == some .cell) then (n, NameKind.cell) else (n, k)).lookup x = some .free) → (x, NameKind.free) ∈ names
  | [], _, _, h => by simp at h
  | (n, k) :: r, x, hn, h => by
    have ih := @relabel_has env r x (fun y hy => hn y (List.mem_cons_of_mem _ hy))
    have hk : k ≠ .cell := hn (n, k) List.mem_cons_self
    have h' : List.lookup x ((if (k == NameKind.free && env.scope.kind == .function && env.kindOf n == some .cell) = true then (n, NameKind.cell) else (n, k)) :: r.map fun (n, k) => if (k == NameKind.free && env.scope.kind == .function && env.kindOf n == some .cell) then (n, NameKind.cell) else (n, k)) = some .cell ∨
      List.lookup x ((if (k == NameKind.free && env.scope.kind == .function && env.kindOf n == some .cell) = true then (n, NameKind.cell) else (n, k)) :: r.map fun (n, k) => if (k == NameKind.free && env.scope.kind == .function && env.kindOf n == some .cell) then (n, NameKind.cell) else (n, k)) = some .free := h
    by_cases hc : (k == NameKind.free && env.scope.kind == .function && env.kindOf n == some .cell) = true
    · have hf : k = .free := by
        rw [Bool.and_eq_true, Bool.and_eq_true] at hc
        exact beq_iff_eq.mp hc.1.1
      subst hf
      cases hxn : x == n with
      | true => rw [beq_iff_eq.mp hxn]; exact List.mem_cons_self
      | false =>
        rw [if_pos hc] at h'
        simp only [List.lookup_cons, hxn] at h'
        exact List.mem_cons_of_mem _ (ih h')
    · rw [if_neg hc] at h'
      cases hxn : x == n with
      | true =>
        simp only [List.lookup_cons, hxn] at h'
        rcases h' with e | e
        · cases e; exact absurd rfl hk
        · cases e; rw [beq_iff_eq.mp hxn]; exact List.mem_cons_self
      | false =>
        simp only [List.lookup_cons, hxn] at h'
        exact List.mem_cons_of_mem _ (ih h')
section
variable {X : Cx} {pins : List (Addr × Obj)} {σ : St} {H : Hp} {s : Shared}
theorem block_start {scope : Scope} {own fr : List Str} {ix : List Nat} {C : Addr} {h₁ : Heap} {tk : Nat} {fp : List Addr} {m : Str → Option Value} (I : Inv X pins σ H s) (B : BlockOk X scope own fr ix) (hC : C = s.heap.objs.size)
    (hf : ∀ b ∈ fp, FpOk X pins H b) (hb : ∀ b ∈ fp, ∃ o, s.heap.get? b = some o) (old : ∀ b o, s.heap.get? b = some o → h₁.get? b = some o) (hns : h₁.Ns C m) :
    Inv (blockCx X pins (own ++ fr) scope C s H fp) [] (blockSt own.length ix σ) H { s with heap := h₁, toks := tk } := by
  have look : ∀ x c, (clOf X.env scope.names []).lookup x = some c → X.env.cells.lookup x = some c := clOf_look B.free (fun _ _ z => by cases z)
  have lt : ∀ b o, s.heap.get? b = some o → b ≠ C := fun b o e => by rw [hC]; exact Nat.ne_of_lt (Heap.lt_size e)
  have ok : (blockCx X pins (own ++ fr) scope C s H fp).Ok := {
    mod := I.ok.mod
    kind := B.kind
    glob := I.ok.glob
    blt := I.ok.blt
    above := by show s.heap.objs.size ≤ C; rw [hC]; exact Nat.le_refl _
    inj := fun x y c a b => I.ok.inj x y c (look x c a) (look y c b)
    has := fun x hx => clOf_has (.inl (relabel_has B.nocell hx))
    cab := fun x c z => nomatch z
    hd := I.ok.hd
    frames := I.ok.frames
    stk := .inl rfl
    exf := fun b hbf => ⟨by obtain ⟨o, e⟩ := hb b hbf; exact lt b o e, fun x c e => (hf b hbf).2.2.2.2.1 x c (look x c e)⟩
    bs := I.bs
    bsz := Nat.le_trans I.ok.bsz I.sz
    noex := fun b o e hbf => by
      rcases (hf b hbf).2.2.2.1 with z | z
      · exact I.ok.noex b o e z
      · exact absurd (Nat.lt_of_lt_of_le (Heap.lt_size e) (Nat.le_trans I.ok.bsz z)) (Nat.lt_irrefl _)
    exfs := fun b hbf hs => by
      rcases List.mem_cons.mp (I.stkSub b hs) with z | z
      · exact (hf b hbf).2.1 z
      · exact (hf b hbf).2.2.1 z
    funs := I.stack
    frf := I.stkFree }
  refine ⟨ok, rfl, I.bare, Un.kept old, ⟨m, hns, fun i x v e1 e2 e3 => ?_⟩, fun x c e => ?_, ?_, fun x c e => I.freeC x c (look x c e), fun p hp => ?_, I.hok.kept old, ?_⟩
  · have e1 : (own ++ fr)[i]? = some x := e1
    have e2 : (List.replicate own.length none ++ ix.map fun i => (σ[i]?).getD none)[i]? = some (some v) := e2
    by_cases hi : i < own.length
    · rw [List.getElem?_append_left (by rw [List.length_replicate]; exact hi), List.getElem?_replicate, if_pos hi] at e2
      cases e2
    · rw [List.getElem?_append_right (by omega)] at e1
      rw [List.getElem?_append_right (by rw [List.length_replicate]; omega), List.length_replicate, List.getElem?_map] at e2
      obtain ⟨i', hi', e4⟩ := Option.map_eq_some_iff.mp e2
      have e5 : σ[i']? = some (some v) := by
        cases z : σ[i']? with
        | none => rw [z] at e4; cases e4
        | some y => rw [z] at e4; exact congrArg some e4
      have hm : x ∈ fr := List.mem_of_getElem? e1
      obtain ⟨f1, f2, f3⟩ := B.frd x hm
      obtain ⟨mX, _, hl⟩ := I.loc
      obtain ⟨u, r, l⟩ := hl i' x v (B.at_ _ x i' e1 hi') e5 (.inr (.inl f2))
      rcases l with ⟨l, _⟩ | ⟨_, c, ec, z⟩
      · rw [f2] at l; cases l
      · obtain ⟨c', ec'⟩ := clOf_has (env := X.env) (names := scope.names) (acc := []) (x := x) (.inl f1)
        have := look x c' ec'
        rw [ec] at this
        cases this
        obtain ⟨o, ho, hd⟩ := z
        exact ⟨u, r, .inr ⟨.inl (relabel_free I.ok.kind f3 f2), c, ec', o, old _ _ ho, hd⟩⟩
  · obtain ⟨v, o, ho, hd⟩ := I.cell x c (look x c e)
    exact ⟨v, o, old _ _ ho, hd⟩
  · show H C = none
    rw [hC]; exact I.hok.fresh (Nat.le_refl _)
  · have hp' : p ∈ X.pn ++ pins := by simpa using hp
    obtain ⟨e, n, ne, nf, d⟩ := I.pin p hp'
    refine ⟨old _ _ e, n, lt _ _ e, fun z => ?_, d⟩
    rcases List.mem_cons.mp (I.stkSub _ z) with q | q
    · exact ne q
    · exact nf q
  · show (List.replicate own.length none ++ ix.map fun i => (σ[i]?).getD none).length = (own ++ fr).length
    rw [List.length_append, List.length_append, List.length_replicate, List.length_map, B.len]
theorem block_end {N : List Str} {scope : Scope} {C : Addr} {fp : List Addr} {σ' : St} {H' : Hp} {s' : Shared} {h'' : Heap} {pl : List (Addr × Obj)} (I : Inv X pins σ H s) (hf : ∀ b ∈ fp, FpOk X pins H b) (hC : C = s.heap.objs.size)
    (J : Inv (blockCx X pins N scope C s H fp) pl σ' H' s') (hs : Heap.SameBut C s'.heap h'') : Inv X pins σ H' { s' with heap := h'' } := by
  have u := J.base
  have k : ∀ b o, b ≠ C → s'.heap.get? b = some o → h''.get? b = some o := fun b o hb e => hs.extBut b o hb e
  have hn : H' C = none := J.free
  have lt : ∀ b o, s.heap.get? b = some o → b ≠ C := fun b o e => by rw [hC]; exact Nat.ne_of_lt (Heap.lt_size e)
  refine I.call' (s' := { s' with heap := h'' }) (ch := fp) J.os ?_ ?_ J.bare fun b hb => ⟨(hf b hb).2.2.2.1, (hf b hb).2.1, (hf b hb).2.2.2.2.1, (hf b hb).2.2.2.2.2⟩
  · exact ⟨fun b o q n hb he => k b o (lt b o q) (u.keep b o q n hb he), fun b o q n hb he => by
        obtain ⟨sl, e⟩ := u.slot b o q n hb he
        exact ⟨sl, k b _ (lt b o q) e⟩, u.free, fun b o q he => by
        obtain ⟨o', e⟩ := u.there b o q he
        exact ⟨o', k b _ (lt b o q) e⟩, u.tups, u.frzs, u.tbls⟩
  · intro b o e
    have nit : ∀ b u, H' b = some u → b ≠ C := fun b u e z => by rw [z, hn] at e; cases e
    refine (J.hok b o e).stay (fun c v hc q => k c v ?_ q) (fun _ q => q) fun _ _ q => q
    rcases hc with z | z
    · rw [z]; exact nit b o e
    · exact nit c _ z
theorem comp_block {tg iter elt : Expr} {ifs : List Expr} {scope : Scope} {own fr : List Str} {ix : List Nat} {g : TG} {tt : TT} {te : TE} {pos : Pos} {Q : VK} {sF : Shared} {HF : Hp} {C acc it : Addr} {h₁ : Heap} {fp : List Addr} {tn : Nat → Heap → Prop} {J : It} {W : Nat → Nat → List V → Hp → Prop} {m : Str → Option Value} {m0 : Nat} {RR : Result → Shared → Prop}
    (hc : X.calm = true) (B : BlockOk X scope own fr ix)
    (hg : ∀ pins C sF HF fp, PG (blockCx X pins (own ++ fr) scope C sF HF fp) tg g) (ht : ∀ pins C sF HF fp, PTs (blockCx X pins (own ++ fr) scope C sF HF fp) ifs tt) (he : ∀ pins C sF HF fp, PE (blockCx X pins (own ++ fr) scope C sF HF fp) elt te)
    (I3 : Inv X pins σ HF sF) (T : Turn X.prog X.w X.K tg J fp it tn) (st3 : tn 0 sF.heap) (f3 : ∀ b ∈ fp, FpOk X pins HF b) (f3' : ∀ b ∈ fp, ∃ o, sF.heap.get? b = some o) (hC : sF.heap.objs.size = C) (old : ∀ b o, sF.heap.get? b = some o → h₁.get? b = some o) (hns₁ : h₁.Ns C m)
    (w0 : W 0 m0 [] HF) (turn : ∀ i m ys H2, W i m ys H2 → H2 acc = some (.lst ys) ∧ ((J.stop i H2 ∧ Q (.ref acc) H2) ∨ (J.go i H2 ∧ ys.length < sizeLine ∧ ∀ x H3, J.yld i H2 x H3 → g x (blockSt own.length ix σ) H3 fun σ4 H4 => σ4.drop own.length = ix.map (fun i => (σ[i]?).getD none) ∧ tt σ4 H4 fun ok H5 =>
      if ok = true then te σ4 H5 fun y H6 => H6 acc = some (.lst ys) ∧ ∃ m', m' < m ∧ W (i + 1) m' (ys ++ [y]) (upd H6 acc (.lst (ys ++ [y])))
      else ∃ m', m' < m ∧ W (i + 1) m' ys H5)))
    (fin : ∀ s6 H5, Inv (blockCx X pins (own ++ fr) scope C sF HF fp) [] (blockSt own.length ix σ) H5 s6 → Q (.ref acc) H5 → RR (.ok .next) s6) :
    codeAny (model X.prog X.w) X.A (.compStart (.ListComp elt [⟨tg, iter, ifs, 0⟩] scope pos) 0 (.ref it) (.ref acc) (compEnvC scope (clOf X.env scope.names []) C X.env)) RR
      { sF with heap := h₁, toks := sF.toks + ([] : List (Str × Value)).length } := by
  have J0 : Inv (blockCx X pins (own ++ fr) scope C sF HF fp) [] (blockSt own.length ix σ) HF { sF with heap := h₁, toks := sF.toks + ([] : List (Str × Value)).length } := block_start I3 B hC.symm f3 f3' old hns₁
  have st4 : tn 0 h₁ := T.keep _ _ _ st3 fun b _ o e => old b o e
  have fY : ∀ {pl : List (Addr × Obj)} {H' : Hp}, (∀ b ∈ fp, H' b = none) → (∀ p ∈ pl, p.1 ∉ fp) → ∀ b ∈ fp, FpOk (blockCx X pins (own ++ fr) scope C sF HF fp) pl H' b := fun {pl H'} hn hp b hb => by
    refine ⟨hn b hb, (J0.ok.exf b hb).1, J0.ok.exfs b hb, .inl hb, (J0.ok.exf b hb).2, fun p hpm => ?_⟩
    rcases List.mem_append.mp hpm with z | z
    · exact (f3 b hb).2.2.2.2.2 p z
    · exact fun e => hp p z (by rw [e]; exact hb)
  have weak : ∀ {pl : List (Addr × Obj)} {σ4 : St} {H4 : Hp} {s4 : Shared}, Inv (blockCx X pins (own ++ fr) scope C sF HF fp) pl σ4 H4 s4 → σ4.drop own.length = ix.map (fun i => (σ[i]?).getD none) → Inv (blockCx X pins (own ++ fr) scope C sF HF fp) pl (blockSt own.length ix σ) H4 s4 := fun {pl σ4 H4 s4} J e => by
    refine J.weak ?_ fun i v hv => ?_
    · have := J.len
      have := J0.len
      omega
    · have hv' : (List.replicate own.length none ++ ix.map fun i => (σ[i]?).getD none)[i]? = some (some v) := hv
      by_cases hi : i < own.length
      · rw [List.getElem?_append_left (by rw [List.length_replicate]; exact hi), List.getElem?_replicate, if_pos hi] at hv'
        cases hv'
      · rw [List.getElem?_append_right (by rw [List.length_replicate]; omega), List.length_replicate, ← e, List.getElem?_drop] at hv'
        rw [show own.length + (i - own.length) = i by omega] at hv'
        exact hv'
  have loop : ∀ s4 : Shared, s4 = { sF with heap := h₁, toks := sF.toks + ([] : List (Str × Value)).length } →
      codeAny (model X.prog X.w) X.A (.compLoop (.ListComp elt [⟨tg, iter, ifs, 0⟩] scope pos) 0 (.ref it) (.ref acc) (compEnvC scope (clOf X.env scope.names []) C X.env)) RR s4 := by
    rintro s4 rfl
    refine codeAny_compLoop_gen (fun n s' => ∃ i ys H', Inv (blockCx X pins (own ++ fr) scope C sF HF fp) [] (blockSt own.length ix σ) H' s' ∧ tn i s'.heap ∧ (∀ b ∈ fp, H' b = none) ∧ W i n ys H') ?_ m0 ⟨0, [], HF, J0, st4, fun b hb => (f3 b hb).1, w0⟩
    rintro n s5 ⟨i, ys, H5, J5, st5, fr5, w5⟩
    obtain ⟨ha, hturn⟩ := turn i n ys H5 w5
    rcases hturn with ⟨stop, qn⟩ | ⟨go, hsz, step⟩
    · refine thn (T.done (blockCx X pins (own ++ fr) scope C sF HF fp) rfl rfl rfl hc i [] s5 _ H5 (fun _ _ => False) J5 (fY fr5 (fun _ z => by cases z)) st5 stop) fun r s6 ⟨hr, J6⟩ => ?_
      subst hr
      exact fin s6 H5 J6 qn
    · refine thn (T.item (blockCx X pins (own ++ fr) scope C sF HF fp) rfl rfl rfl hc i [] s5 _ H5 (fun _ _ => False) J5 (fY fr5 (fun _ z => by cases z)) st5 go) fun r s6 ⟨u, hr, h6⟩ => ?_
      subst hr
      refine thn h6 fun _ s7 ⟨x, H7, J7, r7, y7, st7, fr7⟩ => ?_
      have J7' := J7.pinned (fY fr7 (fun _ z => by cases z)) (T.obj _ _ st7)
      refine thn (hg pins C sF HF fp _ s7 _ H7 x u _ J7' r7 (step x H7 y7)) fun _ s8 ⟨σ8, H8, J8, k8, q8⟩ => ?_
      have back : ∀ {s9 : Shared} {H9 : Hp}, Inv (blockCx X pins (own ++ fr) scope C sF HF fp) ([] ++ pinsAt fp s7.heap) σ8 H9 s9 → Inv (blockCx X pins (own ++ fr) scope C sF HF fp) [] (blockSt own.length ix σ) H9 s9 ∧ tn (i + 1) s9.heap ∧ ∀ b ∈ fp, H9 b = none := fun {s9 H9} J9 => by
        refine ⟨weak J9.unpinned k8, T.keep _ _ _ st7 fun b hb o e => (J9.pin (b, o) (List.mem_append_right _ (List.mem_append_right _ (mem_pinsAt hb e)))).1, fun b hb => ?_⟩
        obtain ⟨o, e, d⟩ := T.obj _ _ st7 b hb
        exact (J9.pin (b, o) (List.mem_append_right _ (List.mem_append_right _ (mem_pinsAt hb e)))).2.1
      refine thn (ht pins C sF HF fp _ s8 σ8 H8 _ J8 q8) fun ok s9 ⟨H9, J9, q9⟩ => ?_
      cases ok with
      | false =>
        obtain ⟨m', hm, w9⟩ := q9
        obtain ⟨b1, b2, b3⟩ := back J9
        exact ⟨m', hm, i + 1, ys, H9, b1, b2, b3, w9⟩
      | true =>
        refine thn (he pins C sF HF fp _ s9 σ8 H9 _ J9 q9) fun v s10 ⟨y, H10, J10, r10, a10, m', hm, w10⟩ => ?_
        refine thn (mt_append _ s10 σ8 H10 (.ref acc) [y] (.ref acc) [v] (fun _ H' => H' = upd H10 acc (.lst (ys ++ [y]))) J10 rfl (.cons r10 .nil) ⟨acc, ys, y, rfl, rfl, a10, hsz, rfl⟩) fun _ s11 ⟨_, H11, J11, _, e11⟩ => ?_
        subst e11
        obtain ⟨b1, b2, b3⟩ := back J11
        exact ⟨m', hm, i + 1, ys ++ [y], _, b1, b2, b3, w10⟩
  exact codeAny_compStart_list (loop _ rfl) (T.self _ 0 _ _ _ st4 (loop _ rfl))
theorem pe_comp {tg iter elt : Expr} {ifs : List Expr} {scope : Scope} {own fr : List Str} {ix : List Nat} {wi : TI} {g : TG} {tt : TT} {te : TE} {pos : Pos} (hc : X.calm = true) (BB : BlockB X scope own fr ix) (hi : PI X tg iter wi)
    (hg : ∀ pins C sF HF fp, PG (blockCx X pins (own ++ fr) scope C sF HF fp) tg g) (ht : ∀ pins C sF HF fp, PTs (blockCx X pins (own ++ fr) scope C sF HF fp) ifs tt) (he : ∀ pins C sF HF fp, PE (blockCx X pins (own ++ fr) scope C sF HF fp) elt te)
    (hs : ∀ x, foldedSetIterable iter X.env x = pure x := by intro _; rfl) : PE X (.ListComp elt [⟨tg, iter, ifs, 0⟩] scope pos) (tComp wi own.length ix g tt te) := by
  intro pins s σ H Q I h
  have B := BB.ok I.ok
  rw [eval_ListComp]
  refine wpAny_comprehension_free (use := none) rfl hs (closure_eq B.free) B.kind B.names (thn (hi pins s σ H _ I h) fun xv s1 h1 => thn h1 fun itv s2 h2 => ?_)
  obtain ⟨it, fp, tn, J, H2, rfl, I2, T, st2, f2, R⟩ := h2
  refine wpAny_newObj_type (wpAny_newFunctionEnv B.nocell (by intro y hy; simp at hy) (fun h₁ hns₁ hsb₁ => ?_) B.kind)
  dsimp only at hns₁ hsb₁
  have I3 := I2.lnew (t' := s2.toks) (its := []) (ys := []) .nil (Nat.zero_le _)
  obtain ⟨W, ⟨m0, w0⟩, turn⟩ := R _ I2.fresh
  have fF : ∀ b ∈ fp, ∃ o, s2.heap.get? b = some o := fun b hb => let ⟨o, e, _⟩ := T.obj _ _ st2 b hb; ⟨o, e⟩
  have nacc : ∀ b ∈ fp, b ≠ s2.heap.objs.size := fun b hb => let ⟨o, e⟩ := fF b hb; Nat.ne_of_lt (Heap.lt_size e)
  have push : ∀ b o, s2.heap.get? b = some o → (s2.heap.push { cls := .type "list", data := .seq ([] : List Value).toArray }).get? b = some o := fun b o e => Heap.get?_push_of_some _ e
  exact comp_block hc B hg ht he I3 T (T.keep _ _ _ st2 fun b _ o e => push b o e) (fun b hb => ⟨by rw [upd_ne (nacc b hb)]; exact (f2 b hb).1, (f2 b hb).2⟩) (fun b hb => let ⟨o, e⟩ := fF b hb; ⟨o, push b o e⟩) rfl
    (fun b o e => hsb₁.extBut b o (Nat.ne_of_lt (Heap.lt_size e)) (Heap.get?_push_of_some _ e)) hns₁ w0 turn fun s6 H5 J6 qn => by
      obtain ⟨m6, hn6, _⟩ := J6.loc
      exact ⟨m6, hn6, fun h' hs' => ⟨.ref _, H5, block_end I3 (fun b hb => ⟨by rw [upd_ne (nacc b hb)]; exact (f2 b hb).1, (f2 b hb).2⟩) rfl J6 hs', rfl, qn⟩⟩
theorem ps_setC {tg iter elt : Expr} {ifs : List Expr} {scope : Scope} {own fr : List Str} {ix : List Nat} {wi : TI} {g : TG} {tt : TT} {te : TE} {pos spos py : Pos} {k : Nat} {y : Str} (hc : X.calm = true) (hN : X.N.Nodup) (hk : X.N[k]? = some y) (hy : X.env.scope.names.lookup y = some .local) (BB : BlockB X scope own fr ix) (hi : PI X tg iter wi)
    (hg : ∀ pins C sF HF fp, PG (blockCx X pins (own ++ fr) scope C sF HF fp) tg g) (ht : ∀ pins C sF HF fp, PTs (blockCx X pins (own ++ fr) scope C sF HF fp) ifs tt) (he : ∀ pins C sF HF fp, PE (blockCx X pins (own ++ fr) scope C sF HF fp) elt te)
    (hsw : swapsWith (.ListComp elt [⟨tg, iter, ifs, 0⟩] scope pos) (some (.Name y py)) spos.line X.env = pure true := by rfl)
    (hs : ∀ x, foldedSetIterable iter X.env x = pure x := by intro _; rfl) : PS X (.Assign [.Name y py] (.ListComp elt [⟨tg, iter, ifs, 0⟩] scope pos) spos) (tAsg (tComp wi own.length ix g tt te) (gName k)) := by
  intro pins s σ H D I h
  have B := BB.ok I.ok
  rw [exec_Assign_Name_used _ _ _ _ hsw]
  refine wpAny_bind (wpAny_standAt (wpAny_bind ?_))
  show wpAny _ X.A (do let _ ← comprehension (.ListComp elt [⟨tg, iter, ifs, 0⟩] scope pos) scope X.env _ (newList []) false (eval iter X.env) (some (assign (.Name y py) X.env))) _ _ s
  refine wpAny_bind (wpAny_mono (wpAny_comprehension_free (use := some (assign (.Name y py) X.env)) (Q := fun _ s' => SP X pins D .next s') rfl hs (closure_eq B.free) B.kind B.names
    (thn (hi pins s σ H _ I h) fun xv s1 h1 => thn h1 fun itv s2 h2 => ?_)) (fun _ s' hq => wpAny_pure (wpAny_pure hq)) fun _ _ e => e)
  obtain ⟨it, fp, tn, J, H2, rfl, I2, T, st2, f2, R⟩ := h2
  refine wpAny_newObj_type (wpAny_newFunctionEnv B.nocell (by intro y hy; simp at hy) (fun h₁ hns₁ hsb₁ => ?_) B.kind)
  dsimp only at hns₁ hsb₁
  have I3 := I2.lnew (t' := s2.toks) (its := []) (ys := []) .nil (Nat.zero_le _)
  obtain ⟨W, ⟨m0, w0⟩, turn⟩ := R _ I2.fresh
  have fF : ∀ b ∈ fp, ∃ o, s2.heap.get? b = some o := fun b hb => let ⟨o, e, _⟩ := T.obj _ _ st2 b hb; ⟨o, e⟩
  have nacc : ∀ b ∈ fp, b ≠ s2.heap.objs.size := fun b hb => let ⟨o, e⟩ := fF b hb; Nat.ne_of_lt (Heap.lt_size e)
  have push : ∀ b o, s2.heap.get? b = some o → (s2.heap.push { cls := .type "list", data := .seq ([] : List Value).toArray }).get? b = some o := fun b o e => Heap.get?_push_of_some _ e
  have f3 : ∀ b ∈ fp, FpOk X pins (upd H2 s2.heap.objs.size (.lst [])) b := fun b hb => ⟨by rw [upd_ne (nacc b hb)]; exact (f2 b hb).1, (f2 b hb).2⟩
  refine comp_block (Q := fun x H1 => gName k x σ H1 D.nx) hc B hg ht he I3 T (T.keep _ _ _ st2 fun b _ o e => push b o e) f3 (fun b hb => let ⟨o, e⟩ := fF b hb; ⟨o, push b o e⟩) rfl
    (fun b o e => hsb₁.extBut b o (Nat.ne_of_lt (Heap.lt_size e)) (Heap.get?_push_of_some _ e)) hns₁ w0 turn fun s6 H5 J6 qn => ?_
  have I6 : Inv X pins σ H5 { s6 with heap := s6.heap } := block_end I3 f3 rfl J6 (Heap.SameBut.refl ..)
  have I6 : Inv X pins σ H5 s6 := I6
  obtain ⟨m6, ⟨o6, es6, ep6, ho6, rest6⟩, _⟩ := id J6.loc
  have sz : ∀ b o, (s2.heap.push { cls := .type "list", data := .seq ([] : List Value).toArray }).get? b = some o → b ≠ (s2.heap.push { cls := .type "list", data := .seq ([] : List Value).toArray }).objs.size := fun b o e => Nat.ne_of_lt (Heap.lt_size e)
  have hge : X.s₀.heap.objs.size ≤ (s2.heap.push { cls := .type "list", data := .seq ([] : List Value).toArray }).objs.size := I3.sz
  have hloc : (s2.heap.push { cls := .type "list", data := .seq ([] : List Value).toArray }).objs.size ≠ X.env.locals := fun z => by
    have := I3.lt
    rw [← z] at this
    exact Nat.lt_irrefl _ this
  have hfs : (s2.heap.push { cls := .type "list", data := .seq ([] : List Value).toArray }).objs.size ∉ X.fs := I3.nofs (Nat.le_refl _)
  have hcell : ∀ x c, X.env.cells.lookup x = some c → c ≠ (s2.heap.push { cls := .type "list", data := .seq ([] : List Value).toArray }).objs.size := fun x c e => by
    obtain ⟨v, ob, hob, _⟩ := I3.cell x c e
    exact sz _ _ hob
  have hpin : ∀ p ∈ X.pn ++ pins, p.1 ≠ (s2.heap.push { cls := .type "list", data := .seq ([] : List Value).toArray }).objs.size := fun p hp => sz _ _ (I3.pin p hp).1
  have I7 : Inv X (pins ++ [((s2.heap.push { cls := .type "list", data := .seq ([] : List Value).toArray }).objs.size, o6)]) σ H5 s6 := I6.pins_of fun p hp => by
    rcases List.mem_append.mp hp with z | z
    · exact I6.pin p (List.mem_append_right _ z)
    · rw [List.mem_singleton.mp z]
      refine ⟨ho6, J6.free, hloc, hfs, fun v z => ?_⟩
      rw [rest6.1] at z
      cases z
  refine wpAny_assign_Name (store_ok (v := .ref s2.heap.objs.size) I7 hN hk (.inl hy) rfl (fun s8 I8 => ?_) (.inr hy))
  have h8 := (I8.pin ((s2.heap.push { cls := .type "list", data := .seq ([] : List Value).toArray }).objs.size, o6) (List.mem_append_right _ (List.mem_append_right _ (List.mem_singleton.mpr rfl)))).1
  refine ⟨m6, ⟨o6, es6, ep6, h8, rest6⟩, fun h' hs' => ⟨_, H5, (I8.unpinned).turned (t' := s8.toks) (fun b o hb e => hs'.extBut b o hb e) J6.free hloc (.inr hge) hcell hpin, qn⟩⟩
end
end L2
namespace L2
open PySem PySem.Spec PyProof.Rows PySem.SeqAt
noncomputable def SqLL (K : PySem.W.Frag) (H : Hp) (a : Addr) (nss : List (List Int)) : Prop := ∃ as : List Addr, SqL K H a (as.map V.ref) ∧ Paired (fun b ns => SqL K H b (ns.map V.int)) as nss
theorem SqLL.same {K : PySem.W.Frag} {H H' : Hp} {a : Addr} {nss : List (List Int)} (e : Same H H') (h : SqLL K H a nss) : SqLL K H' a nss := by
  obtain ⟨as, h1, h2⟩ := h
  exact ⟨as, e.seq h1, Paired.imp' (fun b ns z => e.seq z) h2⟩
abbrev dI (ns : List Int) : PyData := .list (ns.map PyData.int)
theorem depth_dI (ns : List Int) : PyData.depth (dI ns) ≤ 2 := by
  have := PySem.W.depthAll_ints ns
  simp only [PyData.depth]
  omega
theorem noMix_dI (ns ms : List Int) : noMix (dI ns) (dI ms) = true := by
  simp only [noMix]; exact PySem.W.noMix_ints ns ms
theorem same_dI (ns ms : List Int) : PySem.Spec.same (dI ns) (dI ms) = decide (ns = ms) := by
  simp only [PySem.Spec.same]; exact PySem.W.same_ints ns ms
section
variable {X : Cx} {pins : List (Addr × Obj)} {σ : St} {H : Hp} {s : Shared}
theorem Inv.ints (I : Inv X pins σ H s) {a : Addr} {ns : List Int} (h : SqL X.K H a (ns.map V.int)) : ∃ vs : List Value, s.heap.IsList a vs.toArray ∧ IntsAre vs ns ∧ ns.length ≤ sizeLine := by
  obtain ⟨its, r, p, z⟩ := I.list h
  exact ⟨its, p.isList, intsAre_of r, by rwa [List.length_map] at z⟩
theorem Inv.reads (I : Inv X pins σ H s) {a : Addr} {ns : List Int} (h : SqL X.K H a (ns.map V.int)) : Reads s.heap (.ref a) (dI ns) [a] := by
  obtain ⟨vs, l, i, _⟩ := I.ints h
  exact PySem.W.reads_of_ints l i
end
section
variable {X : Cx}
noncomputable def rNeL (K : PySem.W.Frag) : R2 := fun x y H Q => ∃ (a b : Addr) (ns ms : List Int), x = .ref a ∧ y = .ref b ∧ SqL K H a (ns.map V.int) ∧ SqL K H b (ms.map V.int) ∧ Q (.bl (!decide (ns = ms))) H
theorem op_neL (hu : X.A.units + 64 < cLine) : OpR X (compareOp .NotEq) (rNeL X.K) := by
  intro pins s σ H x y v u Q I rx ry h
  obtain ⟨a, b, ns, ms, rfl, rfl, h1, h2, q⟩ := h
  cases rx; cases ry
  exact ne_dataH_same (I.reads h1) (I.reads h2) (PySem.W.shaped_ints ns) (PySem.W.shaped_ints ms) hu (noMix_dI ns ms) (by rw [same_dI]; exact ⟨.bl _, H, I, rfl, q⟩)
theorem erase_map : ∀ (ns : List Int) (j : Nat), (ns.map V.int).eraseIdx j = (ns.eraseIdx j).map V.int
  | [], _ => by simp
  | _ :: _, 0 => by simp
  | n :: r, j + 1 => by simp [erase_map r j]
theorem call_sortedI : CallR X (.builtin "sorted") (fun xs H Q => ∃ (p : Addr) (ns : List Int), xs = [.ref p] ∧ SqL X.K H p (ns.map V.int) ∧ ns.length < 64 ∧ ∀ (l : Addr) (ms : List Int), H l = none → ms.Perm ns → ms.Pairwise (· ≤ ·) → Q (.ref l) (upd H l (.lst (ms.map V.int)))) := by
  intro pins s σ H xs us Q I r h
  obtain ⟨p, ns, rfl, hq, h64, q⟩ := h
  obtain ⟨u, rfl, ru⟩ := vals1 r
  cases ru
  obtain ⟨vs, hl, hi, hz⟩ := I.ints hq
  refine sorted_ints hl hi (by rw [hi.length]; exact h64) fun out ms a1 a2 a3 => ?_
  obtain ⟨e, he⟩ := sortedAll_at s.heap vs out
  have new : ObjOk X.prog X.w (upd H (s.heap.objs.size + 1) (.lst (ms.map V.int))) (sortedAll s.heap vs out) (s.heap.objs.size + 1) (.lst (ms.map V.int)) := ⟨by rw [List.length_map, a2.length_eq]; exact hz, out.toList, e, vals_ints a1, by simpa [seqObj] using he⟩
  exact ⟨.ref (s.heap.objs.size + 1), _, I.laid (t' := s.toks) (fun _ _ => sortedAll_old) (Nat.le_succ _) new, rfl, q _ ms (I.hok.fresh (Nat.le_succ _)) a2 a3⟩
end
end L2
namespace L2
open PySem PySem.Spec PyProof.Rows
theorem Same.wr {H H' : Hp} {p : Addr} {o : HO} (s : Same H H') (h : H p = Option.none) : Same H (upd H' p o) := fun b u e => by
  rw [upd_ne (ne_of_none e h)]
  exact s b u e
theorem hu64 {A : Around} {k : Nat} (hr : Room k A) : A.units + 64 < cLine := hr.units
theorem hu65 {A : Around} {k : Nat} (hr : Room k A) : A.units + 65 < cLine := by have := hr.un; omega
section
variable {X : Cx}
theorem ix_tupK (K : PySem.W.Frag) (hK : X.K = K := by rfl) : IxR X (rIxT K) := by subst hK; exact ix_tup
theorem pg_tupK (K : PySem.W.Frag) {es : List Expr} {k : Nat} {t : TGs} {n : Nat} {pos : Pos} (hc : X.calm = true) (h : PGs X es t) (hK : X.K = K := by rfl)
    (hn : (assignEach es X.env).length = n := by rfl) (hst : (assignEach es X.env).findIdx? (·.1) = none := by rfl) : PG X (.Tuple es k pos) (gTup K n t) := by subst hK; exact pg_tup hc h hn hst
end
theorem comp_listP {K : PySem.W.Frag} {a acc : Addr} {xs : List V} {own : Nat} {ix : List Nat} {g : TG} {te : TE} {σ : St} {H1 : Hp} {Q : VK} (f : Nat → V) (hq : SqL K H1 a xs) (hn : H1 acc = none) (hz : xs.length ≤ sizeLine)
    (step : ∀ i x H (R : VK), xs[i]? = some x → Same H1 H → R (f i) H → g x (blockSt own ix σ) H fun σ4 H4 => σ4.drop own = ix.map (fun i => (σ[i]?).getD none) ∧ te σ4 H4 R)
    (hd : Q (.ref acc) (upd H1 acc (.lst ((List.range xs.length).map f)))) :
    CompGo (Itl K a) own ix g tNoTest te σ H1 acc Q := by
  refine ⟨fun i m ys H => m = xs.length - i ∧ i ≤ xs.length ∧ ys = (List.range i).map f ∧ H = upd H1 acc (.lst ys), ⟨xs.length, by simp, Nat.zero_le _, rfl, rfl⟩, ?_⟩
  rintro i m ys H ⟨rfl, hi, rfl, rfl⟩
  have q : SqL K (upd H1 acc (.lst ((List.range i).map f))) a xs := (Same.new hn).seq hq
  refine ⟨upd_same, ?_⟩
  by_cases hlt : i < xs.length
  · refine .inr ⟨⟨xs, xs[i], q, by simp [hlt]⟩, by rw [List.length_map, List.length_range]; omega, fun x H3 y => ?_⟩
    obtain ⟨e, y⟩ := y
    subst e
    exact step i x _ _ (y xs q) (Same.new hn) ⟨upd_same, xs.length - (i + 1), by omega, rfl, hlt, by rw [List.range_succ, List.map_append]; rfl, by rw [upd_upd]⟩
  · have e : i = xs.length := by omega
    subst e
    exact .inl ⟨⟨xs, q, Nat.le_refl _⟩, hd⟩
end L2
namespace L2
open PySem PySem.Spec PyProof.Rows
theorem Inv.turns {X : Cx} {pins : List (Addr × Obj)} {σ : St} {H : Hp} {s : Shared} {h' : Heap} {ch : List Addr} {t' : Nat} (I : Inv X pins σ H s) (hf : ∀ b ∈ ch, FpOk X pins H b) (k : ∀ b o, b ∉ ch → s.heap.get? b = some o → h'.get? b = some o) :
    Inv X pins σ H { s with heap := h', toks := t' } := by
  have nit : ∀ b u, H b = some u → b ∉ ch := fun b u e z => by rw [(hf b z).1] at e; cases e
  refine I.step (g' := s.gens) (d' := s.drawn) (ch := ch) (fun b hb => ⟨(hf b hb).2.2.2.1, (hf b hb).2.1, (hf b hb).2.2.2.2.1, (hf b hb).2.2.2.2.2⟩) (fun b o _ _ hc e _ => k b o hc e) (fun b o _ _ hc e _ => ⟨o.slots, k b o hc e⟩) (fun _ _ _ _ n => n)
    (fun b o hc e => ⟨o, k b o hc e⟩) (fun _ _ e => e) (fun _ _ _ e => e) (fun b ps e => ⟨#[], by rw [e]; simp⟩) (fun m hm => ?_) (fun b u e => ?_) I.bare
  · obtain ⟨o, es, ep, ho, r⟩ := hm
    exact ⟨o, es, ep, k _ o (fun z => (hf _ z).2.1 rfl) ho, r⟩
  · refine (I.hok b u e).stay (fun c v hc q => k c v ?_ q) (fun _ q => q) fun _ _ q => q
    rcases hc with z | z
    · rw [z]; exact nit b u e
    · exact nit c _ z
theorem Inv.turnsT {X : Cx} {pins : List (Addr × Obj)} {σ : St} {H : Hp} {s : Shared} {h' : Heap} {ch : List Addr} {t' : Nat} {T : Addr} {xs : List V} {its : List Value} (I : Inv X pins σ H s) (hf : ∀ b ∈ ch, FpOk X pins H b) (k : ∀ b o, b ∉ ch → s.heap.get? b = some o → h'.get? b = some o)
    (hT : s.heap.objs.size ≤ T) (r : Vals xs its) (ht : IsTup h' T its.toArray) (hz : xs.length ≤ sizeLine) : Inv X pins σ (upd H T (.tup xs)) { s with heap := h', toks := t' } := by
  have hn : H T = none := I.hok.fresh hT
  have nit : ∀ b u, H b = some u → b ∉ ch := fun b u e z => by rw [(hf b z).1] at e; cases e
  have lt : ∀ b o, s.heap.get? b = some o → b ≠ T := fun b o e => Nat.ne_of_lt (Nat.lt_of_lt_of_le (Heap.lt_size e) hT)
  refine I.step (g' := s.gens) (d' := s.drawn) (ch := ch) (fun b hb => ⟨(hf b hb).2.2.2.1, (hf b hb).2.1, (hf b hb).2.2.2.2.1, (hf b hb).2.2.2.2.2⟩) (fun b o _ _ hc e _ => k b o hc e) (fun b o _ _ hc e _ => ⟨o.slots, k b o hc e⟩) (fun b o _ e n => by rw [upd_ne (lt b o e)]; exact n)
    (fun b o hc e => ⟨o, k b o hc e⟩) (fun b ys e => by rw [upd_ne (ne_of_none e hn)]; exact e) (fun b o u e => by rw [upd_ne (ne_of_none e hn)]; exact e) (fun b ps e => ⟨#[], by rw [upd_ne (ne_of_none e hn), e]; simp⟩) (fun m hm => ?_) (fun b u e => ?_) I.bare
  · obtain ⟨o, es, ep, ho, r⟩ := hm
    exact ⟨o, es, ep, k _ o (fun z => (hf _ z).2.1 rfl) ho, r⟩
  · by_cases hb : b = T
    · subst hb
      rw [upd_same] at e
      cases e
      exact ⟨hz, its, r, ht⟩
    · rw [upd_ne hb] at e
      refine (I.hok b u e).stay (fun c v hc q => k c v ?_ q) (fun c q => ?_) fun c w q => ?_
      · rcases hc with z | z
        · rw [z]; exact nit b u e
        · exact nit c _ z
      · rw [upd_ne (ne_of_none q hn)]; exact q
      · rw [upd_ne (ne_of_none q hn)]; exact q
section
variable {X : Cx}
end
end L2
namespace Bw
noncomputable def C : Nat → Nat → Nat
  | _, 0 => 1
  | 0, _ + 1 => 0
  | n + 1, k + 1 => C n k + C n (k + 1)
theorem C_zero (n : Nat) : C n 0 = 1 := by cases n <;> rfl
theorem C_zero_succ (k : Nat) : C 0 (k + 1) = 0 := rfl
theorem C_succ (n k : Nat) : C (n + 1) (k + 1) = C n k + C n (k + 1) := rfl
theorem C_above : ∀ (n k : Nat), n < k → C n k = 0
  | n, 0, h => absurd h (Nat.not_lt_zero _)
  | 0, _ + 1, _ => rfl
  | n + 1, k + 1, h => by
    rw [C_succ, C_above n k (by omega), C_above n (k + 1) (by omega)]
theorem C_self : ∀ n : Nat, C n n = 1
  | 0 => rfl
  | n + 1 => by rw [C_succ, C_self n, C_above n (n + 1) (by omega)]
theorem C_one : ∀ n : Nat, C n 1 = n
  | 0 => rfl
  | n + 1 => by rw [C_succ, C_zero, C_one n]; omega
theorem C_step : ∀ (n k : Nat), (k + 1) * C n (k + 1) + k * C n k = n * C n k
  | 0, 0 => by simp [C]
  | 0, k + 1 => by simp [C]
  | n + 1, 0 => by rw [C_one, C_zero]; omega
  | n + 1, k + 1 => by
    have h1 := C_step n k
    have h2 := C_step n (k + 1)
    rw [C_succ n (k + 1), C_succ n k]
    have e1 : (k + 1 + 1) * (C n (k + 1) + C n (k + 1 + 1)) = (k + 1 + 1) * C n (k + 1) + (k + 1 + 1) * C n (k + 1 + 1) := Nat.mul_add _ _ _
    have e2 : (k + 1) * (C n k + C n (k + 1)) = (k + 1) * C n k + (k + 1) * C n (k + 1) := Nat.mul_add _ _ _
    have e3 : (n + 1) * (C n k + C n (k + 1)) = (n * C n k + C n k) + (n * C n (k + 1) + C n (k + 1)) := by rw [Nat.mul_add, Nat.succ_mul, Nat.succ_mul]
    have e4 : (k + 1 + 1) * C n (k + 1) = (k + 1) * C n (k + 1) + C n (k + 1) := Nat.succ_mul _ _
    have e5 : (k + 1) * C n k = k * C n k + C n k := Nat.succ_mul _ _
    rw [e1, e2, e3, e4, e5]
    omega
theorem C_step' {n k : Nat} (h : k ≤ n) : (k + 1) * C n (k + 1) = C n k * (n - k) := by
  have e := C_step n k
  have e2 : C n k * (n - k) + k * C n k = n * C n k := by
    rw [Nat.mul_comm (C n k), ← Nat.add_mul, Nat.sub_add_cancel h]
  omega
theorem C_div {n k : Nat} (h : k ≤ n) : C n k * (n - k) / (k + 1) = C n (k + 1) := by
  rw [← C_step' h, Nat.mul_div_cancel_left _ (Nat.succ_pos k)]
theorem C_le_pow : ∀ (n k : Nat), C n k ≤ n ^ k
  | n, 0 => by rw [C_zero]; exact Nat.le_refl _
  | n, k + 1 => by
    have ih := C_le_pow n k
    by_cases h : k ≤ n
    · rw [← C_div h, Nat.pow_succ]
      refine Nat.le_trans (Nat.div_le_self _ _) ?_
      exact Nat.mul_le_mul ih (Nat.sub_le _ _)
    · rw [C_above n (k + 1) (by omega)]; exact Nat.zero_le _
noncomputable def ch (n k : Int) : Int := (C n.toNat k.toNat : Nat)
theorem ch_nonneg (n k : Int) : 0 ≤ ch n k := Int.natCast_nonneg _
theorem ch_nat (n k : Nat) : ch (n : Int) (k : Int) = (C n k : Nat) := by
  unfold ch; rw [Int.toNat_natCast, Int.toNat_natCast]
theorem ch_above {n k : Int} (h0 : 0 ≤ n) (h : n < k) : ch n k = 0 := by
  unfold ch; rw [C_above _ _ (by omega)]; rfl
theorem ch_zero (n : Int) : ch n 0 = 1 := by
  unfold ch; rw [show (0 : Int).toNat = 0 from rfl, C_zero]; rfl
theorem ch_succ {n k : Int} (hn : 0 ≤ n) (hk : 0 ≤ k) : ch (n + 1) (k + 1) = ch n k + ch n (k + 1) := by
  unfold ch
  rw [show (n + 1).toNat = n.toNat + 1 by omega, show (k + 1).toNat = k.toNat + 1 by omega, C_succ]
  omega
theorem ch_step {n : Int} {i : Nat} (hn : (i : Int) ≤ n) : ch n i * (n - i) / ((i : Int) + 1) = ch n ((i : Int) + 1) := by
  unfold ch
  have e : n = ((n.toNat : Nat) : Int) := by omega
  have e1 : ((i : Int) + 1).toNat = i + 1 := by omega
  have e2 : ((i : Nat) : Int).toNat = i := by omega
  have e3 : n - (i : Int) = ((n.toNat - i : Nat) : Int) := by omega
  rw [e1, e2, e3, ← C_div (n := n.toNat) (k := i) (by omega)]
  have e4 : ((i : Int) + 1) = ((i + 1 : Nat) : Int) := by omega
  rw [e4, ← Int.natCast_mul, ← Int.natCast_ediv]
noncomputable def ff (n : Int) : Nat → Int
  | 0 => 1
  | i + 1 => ff n i * (n - i)
noncomputable def fac : Nat → Int
  | 0 => 1
  | i + 1 => fac i * ((i : Int) + 1)
theorem fac_succ (i : Nat) : fac (i + 1) = fac i * ((i : Int) + 1) := rfl
end Bw
namespace Bw
theorem C_mono1 : ∀ (n k : Nat), C n k ≤ C (n + 1) k
  | n, 0 => by rw [C_zero, C_zero]; exact Nat.le_refl _
  | n, k + 1 => by rw [C_succ]; omega
theorem C_mono {m n : Nat} (k : Nat) (h : m ≤ n) : C m k ≤ C n k := by
  induction h with
  | refl => exact Nat.le_refl _
  | step _ ih => exact Nat.le_trans ih (C_mono1 _ _)
theorem C_pos {n k : Nat} (h : k ≤ n) : 0 < C n k := by
  have := C_mono k h
  rw [C_self] at this
  omega
theorem C_pos_le {n k : Nat} (h : 0 < C n k) : k ≤ n := by
  rcases Nat.lt_or_ge n k with z | z
  · rw [C_above n k z] at h; omega
  · exact z
theorem C_drop (n k : Nat) : ∀ j : Nat, j ≤ n → C n (k + 1) ≤ C (n - j) (k + 1) + j * C (n - 1) k
  | 0, _ => by simp
  | j + 1, h => by
    have ih := C_drop n k j (by omega)
    obtain ⟨r, hr⟩ : ∃ r, n - j = r + 1 := ⟨n - j - 1, by omega⟩
    have e : n - (j + 1) = r := by omega
    have m := C_mono (m := r) (n := n - 1) k (by omega)
    rw [hr, C_succ] at ih
    rw [e, Nat.succ_mul]
    omega
theorem step_down {t k number : Nat} (h : number < C t (k + 1)) (d : Nat) (hd : d = (C t (k + 1) - number + C (t - 1) k - 1) / C (t - 1) k) :
    0 < C (t - 1) k ∧ 1 ≤ d ∧ d ≤ t ∧ number < C (t - d + 1) (k + 1) := by
  have hk : k + 1 ≤ t := C_pos_le (by omega)
  have ho : 0 < C (t - 1) k := C_pos (by omega)
  have hdm : d * C (t - 1) k ≤ C t (k + 1) - number + C (t - 1) k - 1 := by
    rw [hd]; exact Nat.div_mul_le_self _ _
  have d1 : 1 ≤ d := by
    rw [hd]; exact (Nat.le_div_iff_mul_le ho).mpr (by omega)
  have s : (d - 1) * C (t - 1) k + C (t - 1) k = d * C (t - 1) k := by
    have e : d = d - 1 + 1 := by omega
    conv => rhs; rw [e, Nat.succ_mul]
  have lt : (d - 1) * C (t - 1) k < C t (k + 1) - number := by omega
  have dt : d - 1 ≤ t := by
    rcases Nat.lt_or_ge t (d - 1) with z | z
    · have q := C_drop t k t (Nat.le_refl _)
      rw [Nat.sub_self, C_zero_succ] at q
      have w : t * C (t - 1) k ≤ (d - 1) * C (t - 1) k := Nat.mul_le_mul_right _ (by omega)
      omega
    · exact z
  have q := C_drop t k (d - 1) dt
  have gt : number < C (t - (d - 1)) (k + 1) := by omega
  have ge := C_pos_le (n := t - (d - 1)) (k := k + 1) (by omega)
  have e : t - d + 1 = t - (d - 1) := by omega
  rw [e]
  exact ⟨ho, d1, by omega, gt⟩
noncomputable def facN : Nat → Nat
  | 0 => 1
  | i + 1 => facN i * (i + 1)
theorem C_fac_ge : ∀ {n k : Nat}, k ≤ n → (n + 1 - k) ^ k ≤ C n k * facN k
  | n, 0, _ => by rw [C_zero]; exact Nat.le_refl _
  | n, k + 1, h => by
    have ih := C_fac_ge (n := n) (k := k) (by omega)
    have st := C_step' (n := n) (k := k) (by omega)
    have e : C n (k + 1) * facN (k + 1) = C n k * facN k * (n - k) := by
      show C n (k + 1) * (facN k * (k + 1)) = _
      rw [Nat.mul_comm (facN k), ← Nat.mul_assoc, Nat.mul_comm (C n (k + 1)), st, Nat.mul_assoc, Nat.mul_comm (n - k), ← Nat.mul_assoc]
    rw [e]
    have e2 : n + 1 - (k + 1) = n - k := by omega
    rw [e2, Nat.pow_succ]
    refine Nat.mul_le_mul_right _ (Nat.le_trans (Nat.pow_le_pow_left (by omega) k) ih)
theorem start_above {number k f : Nat} (h : number * facN k < 2 ^ (f * k)) : number < C (2 ^ f + k) k := by
  rw [Nat.pow_mul] at h
  generalize 2 ^ f = p at h ⊢
  have q := C_fac_ge (n := p + k) (k := k) (by omega)
  have e : p + k + 1 - k = p + 1 := by omega
  rw [e] at q
  have r : p ^ k ≤ (p + 1) ^ k := Nat.pow_le_pow_left (by omega) k
  rcases Nat.lt_or_ge number (C (p + k) k) with z | z
  · exact z
  · have := Nat.mul_le_mul_right (facN k) z
    omega
theorem fac_nat : ∀ i : Nat, fac i = (facN i : Nat)
  | 0 => rfl
  | i + 1 => by
    rw [fac_succ, fac_nat i]
    show _ = ((facN i * (i + 1) : Nat) : Int)
    rw [Int.natCast_mul]
    rfl
structure IsTop (k number t : Int) : Prop where
  lo : k - 1 ≤ t
  le : ch t k ≤ number
  lt : number < ch (t + 1) k
theorem ch_mono {m n k : Int} (h : m ≤ n) : ch m k ≤ ch n k := by
  unfold ch
  exact Int.ofNat_le.mpr (C_mono _ (by omega))
theorem ch_pos_le {n k : Int} (hn : 0 ≤ n) (h : 0 < ch n k) : k ≤ n := by
  rcases (by omega : k ≤ n ∨ n < k) with z | z
  · exact z
  · rw [ch_above hn z] at h; omega
theorem ch_pos {n k : Int} (hk : 0 ≤ k) (h : k ≤ n) : 0 < ch n k := by
  unfold ch
  exact Int.ofNat_lt.mpr (C_pos (by omega))
theorem step_downI {t k number : Int} (hk : 1 ≤ k) (h0 : 0 ≤ number) (ht : 0 ≤ t) (h : number < ch t k) (d : Int) (hd : d = (ch t k - number + ch (t - 1) (k - 1) - 1) / ch (t - 1) (k - 1)) :
    k ≤ t ∧ 0 < ch (t - 1) (k - 1) ∧ 1 ≤ d ∧ k - 1 ≤ t - d ∧ number < ch (t - d + 1) k := by
  have kt : k ≤ t := ch_pos_le ht (by omega)
  obtain ⟨j, hj⟩ : ∃ j : Nat, k = (j : Int) + 1 := ⟨(k - 1).toNat, by omega⟩
  obtain ⟨m, hm⟩ : ∃ m : Nat, t = (m : Int) := ⟨t.toNat, by omega⟩
  obtain ⟨r, hr⟩ : ∃ r : Nat, number = (r : Int) := ⟨number.toNat, by omega⟩
  subst hj hm hr
  have e1 : ch (m : Int) ((j : Int) + 1) = (C m (j + 1) : Nat) := by
    rw [show ((j : Int) + 1) = ((j + 1 : Nat) : Int) by omega, ch_nat]
  have e2 : ch ((m : Int) - 1) ((j : Int) + 1 - 1) = (C (m - 1) j : Nat) := by
    rw [show ((m : Int) - 1) = ((m - 1 : Nat) : Int) by omega, show ((j : Int) + 1 - 1) = ((j : Nat) : Int) by omega, ch_nat]
  rw [e1] at h
  rw [e1, e2] at hd
  have h' : r < C m (j + 1) := by omega
  obtain ⟨s1, s2, s3, s4⟩ := step_down h' _ rfl
  have ed : d = (((C m (j + 1) - r + C (m - 1) j - 1) / C (m - 1) j : Nat) : Int) := by
    rw [hd, Int.natCast_ediv]
    congr 1
    omega
  generalize (C m (j + 1) - r + C (m - 1) j - 1) / C (m - 1) j = dn at s2 s3 s4 ed
  subst ed
  have e3 : ch ((m : Int) - (dn : Int) + 1) ((j : Int) + 1) = (C (m - dn + 1) (j + 1) : Nat) := by
    rw [show ((m : Int) - (dn : Int) + 1) = ((m - dn + 1 : Nat) : Int) by omega, show ((j : Int) + 1) = ((j + 1 : Nat) : Int) by omega, ch_nat]
  have le := C_pos_le (n := m - dn + 1) (k := j + 1) (by omega)
  rw [e2, e3]
  exact ⟨kt, by omega, by omega, by omega, by omega⟩
theorem aboveI {number k : Int} {F b : Nat} (hk : 1 ≤ k) (h0 : 0 ≤ number) (hb : (number * fac k.toNat).natAbs < 2 ^ b) (hF : (b : Int) ≤ (F : Int) * k) : number < ch ((2 : Int) ^ F + k - 1 + 1) k := by
  obtain ⟨j, hj⟩ : ∃ j : Nat, k = (j : Int) := ⟨k.toNat, by omega⟩
  obtain ⟨r, hr⟩ : ∃ r : Nat, number = (r : Int) := ⟨number.toNat, by omega⟩
  subst hj hr
  rw [Int.toNat_natCast, fac_nat, ← Int.natCast_mul, Int.natAbs_natCast] at hb
  have hF' : b ≤ F * j := by
    have : ((F * j : Nat) : Int) = (F : Int) * (j : Int) := Int.natCast_mul _ _
    omega
  have s := start_above (number := r) (k := j) (f := F) (Nat.lt_of_lt_of_le hb (Nat.pow_le_pow_right (by decide) hF'))
  have e : (2 : Int) ^ F + (j : Int) - 1 + 1 = ((2 ^ F + j : Nat) : Int) := by
    rw [Int.natCast_add, Int.natCast_pow]
    show _ = (2 : Int) ^ F + (j : Int)
    omega
  rw [e, ch_nat]
  exact Int.ofNat_lt.mpr s
end Bw
namespace Bw
open PySem L2
open Builtin.Int (intBits)
noncomputable def spChoose : Sp := fun vs H Q _ => ∃ n k : Int, vs = [.int n, .int k] ∧ 0 ≤ n ∧ 0 ≤ k ∧ k ≤ 1000 ∧ intBits n ≤ 100000 ∧ Q (.int (ch n k)) H
noncomputable def spRound : Sp := fun vs H Q _ => ∃ a b : Int, vs = [.int a, .int b] ∧ 0 < b ∧ Q (.int ((a + b - 1) / b)) H
noncomputable def spAbove : Sp := fun vs H Q _ => ∃ k number : Int, vs = [.int k, .int number] ∧ 1 ≤ k ∧ k ≤ 60 ∧ 0 ≤ number ∧ intBits number ≤ 50000 ∧ ∀ t : Int, k - 1 ≤ t → number < ch (t + 1) k → intBits t ≤ 60000 → Q (.int t) H
theorem bits_of {x : Int} {m : Nat} (h1 : 0 ≤ x) (h2 : x < (2 : Int) ^ m) : intBits x ≤ m := by
  refine intBits_le_iff.mpr ?_
  have e : ((2 ^ m : Nat) : Int) = (2 : Int) ^ m := by
    rw [Int.natCast_pow]; rfl
  rw [← e] at h2
  omega
theorem bits_mono {x : Int} {m n : Nat} (h : intBits x ≤ m) (hm : m ≤ n) : intBits x ≤ n := Nat.le_trans h hm
theorem bits_ch {n : Int} {k m : Nat} (h : intBits n ≤ m) (hn : 0 ≤ n) : intBits (ch n k) ≤ m * k + 1 := by
  refine intBits_le_of_natAbs (y := n ^ k) ?_ (intBits_pow_le h k)
  unfold ch
  rw [Int.toNat_natCast]
  have e : n = ((n.toNat : Nat) : Int) := by omega
  have e2 : (n ^ k).natAbs = n.toNat ^ k := by
    rw [Int.natAbs_pow]
    congr 1
    omega
  rw [e2]
  have := C_le_pow n.toNat k
  omega
theorem bits_fac : ∀ i : Nat, i ≤ 64 → intBits (fac i) ≤ 7 * i + 1
  | 0, _ => by decide
  | i + 1, hi => by
    rw [fac_succ]
    exact bits_mono (intBits_mul_le (m := 7 * i + 1) (n := 7) (bits_fac i (by omega)) (bits_of (by omega) (by omega))) (by omega)
end Bw
namespace L2
open PySem PySem.Spec PyProof.Rows
section
variable {X : Cx}
end
theorem take_succ_filter {f : V → Bool} {xs : List V} {i : Nat} {x : V} (h : xs[i]? = some x) : (xs.take (i + 1)).filter f = (xs.take i).filter f ++ (if f x = true then [x] else []) := by
  rw [List.take_add_one, h, List.filter_append]
  cases e : f x <;> simp [e]
end L2
namespace L2
open PySem PySem.Spec PyProof.Rows
noncomputable def LL (H : Hp) (p : Addr) (nss : List (List Int)) : Prop := ∃ as : List Addr, H p = some (.lst (as.map V.ref)) ∧ Paired (fun b (ns : List Int) => H b = some (.lst (ns.map V.int))) as nss
noncomputable def LLm (H : Hp) (p : Addr) (nss : List (List Int)) : Prop := ∃ as : List Addr, H p = some (.lst (as.map V.ref)) ∧ Paired (fun b (ns : List Int) => b ≠ p ∧ H b = some (.lst (ns.map V.int))) as nss
theorem paired_imp {α β : Type} {F G : α → β → Prop} (h : ∀ a b, F a b → G a b) : ∀ {as : List α} {bs : List β}, Paired F as bs → Paired G as bs
  | _, _, .nil => .nil
  | _, _, .cons x y => .cons (h _ _ x) (paired_imp h y)
theorem paired_len {α β : Type} {F : α → β → Prop} : ∀ {as : List α} {bs : List β}, Paired F as bs → as.length = bs.length
  | _, _, .nil => rfl
  | _, _, .cons _ y => by simp [paired_len y]
theorem paired_get {α β : Type} {F : α → β → Prop} : ∀ {as : List α} {bs : List β} {i : Nat} {a : α}, Paired F as bs → as[i]? = some a → ∃ b, bs[i]? = some b ∧ F a b
  | _, _, _, _, .nil, h => by simp at h
  | _, _, 0, _, .cons x _, h => by
    simp only [List.getElem?_cons_zero, Option.some.injEq] at h
    subst h
    exact ⟨_, rfl, x⟩
  | _, _, i + 1, _, .cons _ y, h => by
    rw [List.getElem?_cons_succ] at h
    obtain ⟨b, e, f⟩ := paired_get y h
    exact ⟨b, by rw [List.getElem?_cons_succ]; exact e, f⟩
theorem LL.same {H H' : Hp} {p : Addr} {nss : List (List Int)} (s : Same H H') (h : LL H p nss) : LL H' p nss := by
  obtain ⟨as, e, q⟩ := h
  exact ⟨as, s _ _ e, paired_imp (fun _ _ z => s _ _ z) q⟩
theorem LLm.push {H H' : Hp} {pm t : Addr} {bs : List Addr} {nss : List (List Int)} {ns : List Int} (h2 : Paired (fun b (ns : List Int) => b ≠ pm ∧ H b = some (.lst (ns.map V.int))) bs nss) (sm : Same H H') (ht : H' t = some (.lst (ns.map V.int))) (hne : t ≠ pm) :
    LLm (upd H' pm (.lst (bs.map V.ref ++ [V.ref t]))) pm (nss ++ [ns]) := by
  refine ⟨bs ++ [t], by rw [upd_same, List.map_append]; rfl, Paired.snoc (paired_imp (fun b n z => ⟨z.1, by rw [upd_ne z.1]; exact sm _ _ z.2⟩) h2) ⟨hne, ?_⟩⟩
  · rw [upd_ne hne]; exact ht
end L2
namespace L2
open PySem PySem.Spec PyProof.Rows
section
variable {prog : Program} {w : World} {A : Around} {E : Value → Shared → Prop} {s : Shared}
end
section
variable {X : Cx}
end
end L2
namespace L2
open PySem PySem.Spec PyProof.Rows
open PySem.W (hideAll of_hideAll hideAll_get)
noncomputable def CXE (P : Program) (w : World) : CXT := fun outer H s E e s' => ∃ (x : Addr) (C a0 : Value) (H' : Hp) (B : Heap), e = .ref x ∧ s'.os = s.os ∧ AllBare s'.gens ∧ Heap.FlyingW B outer x C a0 s'.heap ∧
  (∀ h3, B.StaysIn h3 → s'.heap.UpToSlots h3 → Un (frs outer) [] H H' s.heap h3 ∧ HOk P w H' h3) ∧ s.heap.get? x = none ∧ H' x = none ∧ E C none H'
theorem own_obj {K : PySem.W.Frag} {h : Heap} {C : Addr} {bmB : List Value} {newId : String} (X : K.In h) (q : PySem.W.excIn K C bmB newId = true) :
    ∃ bm N nm q bs hdct sn sub ab col dd k0 k1 k2 k3 k5 mN, h.get? C = some (excClassObj nm q C N bs bm hdct sn sub ab col dd k0 k1 k2 k3 k5 newId) ∧ h.Ns N mN ∧ mN "__init__" = none ∧ OwnTail h bmB bm ∧ ∀ v b, PySem.W.mroIn K C v = some b → (Value.ref C :: bm).contains v = b := by
  unfold PySem.W.excIn at q
  split at q
  · rename_i dd cd sl ho
    split at q
    · rename_i C' bm k0 k1 k2 k3 n k5 hm hs
      simp only [Bool.and_eq_true, beq_iff_eq, Bool.not_eq_true'] at q
      obtain ⟨⟨⟨⟨⟨rfl, rfl⟩, hdel⟩, ht⟩, hok⟩, hni⟩ := q
      obtain ⟨nm, bs, mro, ns, qn, hd, sn, sub, ab, col, del⟩ := cd
      dsimp only at hm hdel hok hni
      subst hm hdel
      have hsl : sl = #[k0, k1, k2, k3, some (.builtin n), k5] := by
        obtain ⟨l⟩ := sl
        simp only at hs
        rw [hs]
      subst hsl
      exact ⟨bm, ns, nm, qn, bs, hd, sn, sub, ab, col, dd, k0, k1, k2, k3, k5, _, X _ _ ho, .of_isNs (PySem.W.isNs_of_in X hok), PySem.W.nsMap_none_of_in X hok hni, PySem.W.tail_of_in X ht, fun v b e => by
        unfold PySem.W.mroIn PySem.W.clsIn at e
        rw [ho] at e
        simpa using e⟩
    · cases q
  · cases q
theorem ObjOk.there {P : Program} {w : World} {H : Hp} {h : Heap} {a : Addr} {o : HO} (x : ObjOk P w H h a o) : ∃ ob, h.get? a = some ob := by
  cases o with
  | lst xs => obtain ⟨_, _, _, _, e⟩ := x; exact ⟨_, e⟩
  | tup xs => obtain ⟨_, _, _, ob, e, _⟩ := x; exact ⟨_, e⟩
  | dK kvs => obtain ⟨_, _, _, _, o, _, _, e, _⟩ := x; exact ⟨_, e⟩
  | dT kvs => obtain ⟨_, _, _, _, o, _, _, e, _⟩ := x; exact ⟨_, e⟩
  | set S n => obtain ⟨o, _, _, _, e, _⟩ := x; exact ⟨_, e⟩
  | ins C dx fs => obtain ⟨_, _, _, e, _⟩ := x; exact ⟨_, e⟩
  | own y => obtain ⟨_, e⟩ := x; exact ⟨_, e⟩
  | xd fs => obtain ⟨_, ⟨_, _, _, e, _⟩, _⟩ := x; exact ⟨_, e⟩
  | rng lo hi => obtain ⟨_, _, _, e⟩ := x; exact ⟨_, e⟩
  | frz ob u => obtain ⟨e, _⟩ := x; exact ⟨_, e⟩
  | tbl ps => exact ⟨_, (show h.get? a = some _ from x)⟩
  | met f y => exact ⟨_, (show h.get? a = some _ from x)⟩
  | ext φ => obtain ⟨_, ⟨_, e⟩, _⟩ := x; exact ⟨_, e⟩
section
variable {P : Program} {w : World} {K : PySem.W.Frag} {mg : Str → Option Value} {base : Heap} {N : List Str} {qual : Str} {scope : Scope} {f : Addr} {cdv : Value} {A : Around} {outer : List Env} {s s2 : Shared} {H H1 : Hp} {E : XK} {pins : List (Addr × Obj)} {σ : St}
theorem stands (I : Inv (cxOf (CXE P w) P w K mg base N qual scope f cdv A outer s H E) pins σ H1 s2) {h3 : Heap} (hst : (hideAll s2.heap (frs (envOfC qual scope s.heap.objs.size f cdv :: outer))).StaysIn h3) (up : s2.heap.UpToSlots h3) :
    Un (frs outer) [] H H1 s.heap h3 ∧ HOk P w H1 h3 := by
  have kk : ∀ b o, s2.heap.get? b = some o → b ∉ frs (envOfC qual scope s.heap.objs.size f cdv :: outer) → h3.get? b = some o := fun b o e hb => hst b o (hideAll_get _ e hb)
  have frz : ∀ b, b ∈ frs (envOfC qual scope s.heap.objs.size f cdv :: outer) → b = s.heap.objs.size ∨ b ∈ frs outer := fun b hb => by
    unfold frs at hb
    rw [List.filterMap_cons] at hb
    exact List.mem_cons.mp hb
  have notL : ∀ b o, s.heap.get? b = some o → b ∉ frs outer → b ∉ frs (envOfC qual scope s.heap.objs.size f cdv :: outer) := fun b o e hb z => by
    rcases frz b z with q | q
    · exact absurd (Heap.lt_size e) (by rw [q]; exact Nat.lt_irrefl _)
    · exact hb q
  have U := I.base
  have stk := I.stack
  refine ⟨⟨fun b o e n hb hx => kk b o (U.keep b o e n hb hx) (notL b o e hb), fun b o e n hb hx => ?_, fun b o e n hx => U.free b o e n hx, fun b o e hx => ?_, U.tups, U.frzs, U.tbls⟩, fun a u e => ?_⟩
  · obtain ⟨sl, q⟩ := U.slot b o e n hb hx
    obtain ⟨_, o2, ho2, hd2⟩ := I.ok.funs.mem hb
    have ho2' : s.heap.get? b = some o2 := ho2
    rw [e] at ho2'
    cases ho2'
    obtain ⟨sl2, q2⟩ := up b _ q hd2
    exact ⟨sl2, q2⟩
  · obtain ⟨o2, q⟩ := U.there b o e hx
    by_cases hb : b ∈ frs (envOfC qual scope s.heap.objs.size f cdv :: outer)
    · obtain ⟨_, o3, ho3, hd3⟩ := stk.mem hb
      obtain ⟨sl, q3⟩ := up b _ ho3 hd3
      exact ⟨_, q3⟩
    · exact ⟨_, kk b o2 q hb⟩
  · refine (I.hok a u e).stay (fun b v hb q => kk b v q fun z => ?_) (fun _ q => q) fun _ _ q => q
    have hn := I.stkFree b z
    rcases hb with r | r
    · rw [r] at hn; rw [hn] at e; cases e
    · rw [hn] at r; cases r
theorem xe_made {h' : Heap} {e : Addr} {C : Value} {vs : List Value} (I : Inv (cxOf (CXE P w) P w K mg base N qual scope f cdv A outer s H E) pins σ H1 s2) (m : Heap.MadeExcOf s2.heap h' e C vs) (h : E C none H1) :
    (cxOf (CXE P w) P w K mg base N qual scope f cdv A outer s H E).xe (.ref e) { s2 with heap := h' } := by
  show wpAny (model P w) (A.deeper (envOfC qual scope s.heap.objs.size f cdv)) (leaving (envOfC qual scope s.heap.objs.size f cdv) (.ref e)) (fun _ s'' => CXE P w outer H s E (.ref e) s'') (fun e' s'' => CXE P w outer H s E e' s'') { s2 with heap := h' }
  have stk := I.stack
  refine wpAny_leaves_madeW (s := { s2 with heap := h' }) (base := hideAll s2.heap (frs (envOfC qual scope s.heap.objs.size f cdv :: outer))) (h := s2.heap) I.ok.frames rfl (fun b o q => of_hideAll _ q) (PySem.W.funFrames_hide stk fun env he b hb => List.mem_filterMap.mpr ⟨env, he, hb⟩) m fun h'' t fl tup bt ups => ?_
  have up1 : s2.heap.UpToSlots h'' := (Heap.UpToSlots.of_keeps m.keeps).trans ups
  refine ⟨e, C, .ref t, H1, _, rfl, I.os, I.bare, fl, fun h3 st3 up3 => stands I st3 (up1.trans up3), ?_, ?_, h⟩
  · have en := m.new
    cases q : s.heap.get? e with
    | none => rfl
    | some o =>
      obtain ⟨o2, q2⟩ := I.base.there e o q (by show e ∉ ([] : List Addr); simp)
      rw [en] at q2; cases q2
  · cases q : H1 e with
    | none => rfl
    | some u =>
      obtain ⟨ob, q2⟩ := ObjOk.there (I.hok e u q)
      rw [m.new] at q2; cases q2
theorem notL2 {b : Addr} {o : Obj} (e : s.heap.get? b = some o) (hb : b ∉ frs outer) : b ∉ frs (envOfC qual scope s.heap.objs.size f cdv :: outer) := fun z => by
  have z' : b ∈ s.heap.objs.size :: frs outer := by
    unfold frs at z ⊢
    rw [List.filterMap_cons] at z
    exact z
  rcases List.mem_cons.mp z' with q | q
  · exact absurd (Heap.lt_size e) (by rw [q]; exact Nat.lt_irrefl _)
  · exact hb q
theorem xe_pass {x : Addr} {s' : Shared} {e : Value} {E' : XK} (I : Inv (cxOf (CXE P w) P w K mg base N qual scope f cdv A outer s H E) pins σ H1 s2) (hx : CXE P w (envOfC qual scope s.heap.objs.size f cdv :: outer) H1 s2 E' e s') (h : ∀ C H', E' C none H' → E C none H') :
    (cxOf (CXE P w) P w K mg base N qual scope f cdv A outer s H E).xe e s' := by
  obtain ⟨x, C, a0, H', B, rfl, os, bare, fl, st, xn, xh, q⟩ := hx
  show wpAny (model P w) (A.deeper (envOfC qual scope s.heap.objs.size f cdv)) (leaving (envOfC qual scope s.heap.objs.size f cdv) (.ref x)) (fun _ s'' => CXE P w outer H s E (.ref x) s'') (fun e' s'' => CXE P w outer H s E e' s'') s'
  refine wpAny_leaves_onW I.ok.frames rfl fl fun h'' fl2 up => ?_
  have U := I.base
  refine ⟨x, C, a0, H', B, rfl, os.trans I.os, bare, fl2, fun h3 st3 up3 => ?_, ?_, xh, h C H' q⟩
  · obtain ⟨u, ok⟩ := st h3 st3 (up.trans up3)
    refine ⟨⟨fun b o e n hb hx => u.keep b o (U.keep b o e n hb hx) (U.free b o e n hx) (notL2 e hb) hx, fun b o e n hb hx => ?_, fun b o e n hx => ?_, fun b o e hx => ?_, fun b xs e => u.tups b xs (U.tups b xs e), fun b o v e => u.frzs b o v (U.frzs b o v e), fun b ps e => ?_⟩, ok⟩
    · obtain ⟨sl, q1⟩ := U.slot b o e n hb hx
      have hb' : b ∈ frs (envOfC qual scope s.heap.objs.size f cdv :: outer) := by
        unfold frs; rw [List.filterMap_cons]; exact List.mem_cons_of_mem _ hb
      obtain ⟨sl2, q2⟩ := u.slot b _ q1 (U.free b o e n hx) hb' hx
      exact ⟨sl2, q2⟩
    · obtain ⟨o2, q2⟩ := U.there b o e hx
      exact u.free b o2 q2 (U.free b o e n hx) hx
    · obtain ⟨o2, q2⟩ := U.there b o e hx
      exact u.there b o2 q2 hx
    · obtain ⟨m1, q1⟩ := U.tbls b ps e
      obtain ⟨m2, q2⟩ := u.tbls b _ q1
      exact ⟨m1 ++ m2, by rw [q2, Array.append_assoc]⟩
  · cases q1 : s.heap.get? x with
    | none => rfl
    | some o =>
      obtain ⟨o2, q2⟩ := U.there x o q1 (by show x ∉ ([] : List Addr); simp)
      rw [xn] at q2; cases q2
end
section
variable {P : Program} {w : World} {K : PySem.W.Frag} {mg : Str → Option Value} {base : Heap}
noncomputable def FnE (P : Program) (w : World) (K : PySem.W.Frag) (mg : Str → Option Value) (base : Heap) (k : Nat) (x : Str) (ps : List Str) (sp : Sp) : Prop :=
  ∃ f fd, FnOk P w K mg base (CXE P w) k f fd ps sp ∧ PySem.W.keepIn K (.ref f) = true ∧ Binds K fd ps [] ∧ mg x = some (.ref f)
noncomputable def tRaise (C : Addr) (E : XK) (t : TA) : TS := fun _ σ H => t σ H fun vs H1 => vs.length ≤ sizeLine ∧ E (.ref C) none H1
theorem ps_raise {N : List Str} {qual : Str} {scope : Scope} {f : Addr} {cdv : Value} {A : Around} {outer : List Env} {s : Shared} {H : Hp} {E : XK} {xn : Str} {C : Addr} {bmB : List Value} {B newId initId : String} {e : Expr} {es : List Expr} {t : TA} {np cpos pos : Pos}
    (FB : ExcBaseFacts B newId initId bmB) (hq : PySem.W.excIn K C bmB newId = true) (hg : Gl (cxOf (CXE P w) P w K mg base N qual scope f cdv A outer s H E) xn) (hm : mg xn = some (.ref C)) (ha : PA (cxOf (CXE P w) P w K mg base N qual scope f cdv A outer s H E) (e :: es) t)
    (hd : (xn == ("__debug__" : Str)) = false := by decide)
    (he : starEach (e :: es) (cxOf (CXE P w) P w K mg base N qual scope f cdv A outer s H E).env = (false, eval e (cxOf (CXE P w) P w K mg base N qual scope f cdv A outer s H E).env) :: starEach es (cxOf (CXE P w) P w K mg base N qual scope f cdv A outer s H E).env := by rfl)
    (hpl : (backTo cpos (starEach es (cxOf (CXE P w) P w K mg base N qual scope f cdv A outer s H E).env)).any (·.1) = false := by rfl) :
    PS (cxOf (CXE P w) P w K mg base N qual scope f cdv A outer s H E) (.Raise (some (.Call (.Name xn np) (e :: es) [] cpos)) none pos) (tRaise C E t) := by
  intro pins s1 σ H0 D I h
  obtain ⟨bm, N', nm, q, bs, hdct, sn, sub, ab, col, dd, k0, k1, k2, k3, k5, mN, hC, hN, hni, TL, _⟩ := own_obj I.mod.kin hq
  refine wpAny_Raise_call_subT (C := C) (nm := nm) (q := q) (N := N') (bs := bs) (bm := bm) (hdct := hdct) (sn := sn) (sub := sub) (ab := ab) (col := col) (dd := dd) (k0 := k0) (k1 := k1) (k2 := k2) (k3 := k3) (k5 := k5)
    FB (mN := mN) (TL.hasType FB.hasBase) (I.ok.hd rfl) (by rw [he]; show (false || (backTo cpos (starEach es _)).any (·.1)) = false; rw [hpl]; rfl) hni (ld_glob I hg hm ⟨rfl, ?_⟩ hd)
  have hs := ha cpos pins s1 σ H0 _ I h
  rw [he] at hs ⊢
  exact Calls.evalArgs_plain (thn hs fun us s2 x => by
    obtain ⟨vs, H1, I1, r1, z, q1⟩ := x
    exact ⟨rfl, by rw [← r1.length]; exact z, I1.bk _ _ hC, hN.keeps I1.bk, TL.keeps I1.bk, fun h' x m => xe_made I1 m q1⟩)
end
section
variable {P : Program} {w : World} {K : PySem.W.Frag} {mg : Str → Option Value} {base : Heap}
theorem Fun.okE {x qual : Str} {st : Stmt} {f : Addr} {fd : FuncData} {N ps : List Str} {k : Nat} {sp : Sp} (F : Fun K x qual st f fd) (S : FnScope N ps (defScope st)) (len : ∀ vs H Q E, sp vs H Q E → vs.length = ps.length)
    (hbody : ∀ (cdv : Value) (A : Around) (outer : List Env) (s : Shared) (H : Hp) (vs : List V) (Q : VK) (E : XK), Room k (A.deeper (envOfC qual (defScope st) s.heap.objs.size f cdv)) → sp vs H Q E →
      ∃ t, PSs (cxOf (CXE P w) P w K mg base N qual (defScope st) f cdv A outer s H E) (defBody st) t ∧ t { nx := fun _ H' => Q .non H', rt := Q } (start N vs) H) : FnOk P w K mg base (CXE P w) (k + 1) f fd ps sp := by
  obtain ⟨oc, od, kV, doc, pm, an, cdv, ct, osl, rfl, lk, hcd⟩ := F.ex
  exact fn_of lk hcd S len fun A outer s H vs Q E hr hsp => hbody cdv A outer s H vs Q E hr hsp
theorem Def.fnE {x : Str} {st : Stmt} {N ps : List Str} {k : Nat} {sp : Sp} (D : Def K mg x st ps) (S : FnScope N ps (defScope st)) (len : ∀ vs H Q E, sp vs H Q E → vs.length = ps.length)
    (hbody : ∀ (f : Addr) (cdv : Value) (A : Around) (outer : List Env) (s : Shared) (H : Hp) (vs : List V) (Q : VK) (E : XK), Room k (A.deeper (envOfC x (defScope st) s.heap.objs.size f cdv)) → sp vs H Q E →
      ∃ t, PSs (cxOf (CXE P w) P w K mg base N x (defScope st) f cdv A outer s H E) (defBody st) t ∧ t { nx := fun _ H' => Q .non H', rt := Q } (start N vs) H) : FnE P w K mg base (k + 1) x ps sp := by
  obtain ⟨f, fd, F, b, m⟩ := D
  exact ⟨f, fd, F.okE S len (hbody f), F.kp, b, m⟩
end
section
variable {M : Model} {A : Around} {E : Value → Shared → Prop} {h : Heap} {g : Array GenState} {d : Drawn} {t : Nat} {os : OsState}
noncomputable def IsExcCls (h : Heap) (C : Addr) (bm : List Value) : Prop := ∃ N nm q bs hdct sn sub ab col dd k0 k1 k2 k3 k5 newId, h.get? C = some (excClassObj nm q C N bs bm hdct sn sub ab col dd k0 k1 k2 k3 k5 newId) ∧ bm.contains (.type "BaseException") = true
end
section
variable {X : Cx} {pins : List (Addr × Obj)} {σ : St} {H : Hp} {s : Shared}
theorem unbind_ok {M : Model} {A : Around} {E : Value → Shared → Prop} {i : Nat} {x : Str} {v : V} {Q : Unit → Shared → Prop} (I : Inv X pins σ H s) (hN : X.N.Nodup) (hi : X.N[i]? = some x) (hk : X.env.kindOf x = some .local) (hs' : X.env.scope.names.lookup x = some .local) (hv : σ[i]? = some (some v))
    (h : ∀ s', Inv X pins (σ.set i none) H s' → Q () s') : wpAny M A (unbindName X.env x) Q E s := by
  obtain ⟨m, hn, hl⟩ := id I.loc
  have hcls : (X.env.scope.kind == .class || (X.env.scope.kind == .module && X.env.locals != X.env.globals)) = false := by rw [I.ok.kind]; rfl
  have hiσ : i < σ.length := by rw [I.len]; exact (List.getElem?_eq_some_iff.mp hi).1
  have cne := I.cne
  obtain ⟨u, _, lk⟩ := hl i x v hi hv (.inl hs')
  have mx : m x = some u := by
    rcases lk with ⟨_, e⟩ | ⟨k, _⟩
    · exact e
    · rw [hk] at k; rcases k with k | k <;> cases k
  refine wpAny_unbindName_local hk hn mx hcls fun h' u' hn' hs => ?_
  obtain ⟨oL, _, _, hoL, _⟩ := id hn
  refine h _ ⟨I.ok, I.os, I.bare, ⟨fun b o e n hb hx => ?_, fun b o e n hb hx => ?_, I.base.free, fun b o e hx => ?_, I.base.tups, I.base.frzs, I.base.tbls⟩, ⟨_, hn', fun j y v' e1 e2 e3 => ?_⟩, fun y c e => ?_, I.free, I.freeC, fun p hp => ?_, fun b ob e => ?_, by simpa using I.len⟩
  · exact (hs.2 b (Nat.ne_of_lt (Nat.lt_of_lt_of_le (Heap.lt_size e) I.ok.above))).trans (I.base.keep b o e n hb hx)
  · obtain ⟨sl, e1⟩ := I.base.slot b o e n hb hx
    exact ⟨sl, (hs.2 b (Nat.ne_of_lt (Nat.lt_of_lt_of_le (Heap.lt_size e) I.ok.above))).trans e1⟩
  · obtain ⟨o', e1⟩ := I.base.there b o e hx
    exact ⟨o', (hs.2 b (Nat.ne_of_lt (Nat.lt_of_lt_of_le (Heap.lt_size e) I.ok.above))).trans e1⟩
  · by_cases hj : j = i
    · subst hj
      rw [List.getElem?_set_self hiσ] at e2
      cases e2
    · rw [List.getElem?_set_ne (Ne.symm hj)] at e2
      obtain ⟨u2, r', q⟩ := hl j y v' e1 e2 e3
      refine ⟨u2, r', ?_⟩
      rcases q with ⟨k, e⟩ | ⟨k, c, e, z⟩
      · refine .inl ⟨k, ?_⟩
        have : y ≠ x := fun e => hj (nodup_ix hN e1 (e ▸ hi))
        simp [this, e]
      · exact .inr ⟨k, c, e, z.sameBut hs (cne y c e)⟩
  · obtain ⟨w', z⟩ := I.cell y c e
    exact ⟨w', z.sameBut hs (cne y c e)⟩
  · obtain ⟨a, b, c, d, e⟩ := I.pin p hp
    exact ⟨(hs.2 p.1 c).trans a, b, c, d, e⟩
  · refine (I.hok b ob e).stay (fun c w' hc q => (hs.2 c ?_).trans q) (fun _ q => q) fun _ _ q => q
    rintro rfl
    rcases hc with rfl | hc
    · rw [I.free] at e; cases e
    · rw [I.free] at hc; cases hc
abbrev Cx.inX (X : Cx) (x : Addr) : Cx := { X with A := X.A.mark (some (.ref x)), calm := false, xe := fun _ _ => False }
theorem Inv.inX (I : Inv X pins σ H s) (x : Addr) : Inv (X.inX x) pins σ H s :=
  ⟨⟨I.ok.mod, I.ok.kind, I.ok.glob, I.ok.blt, I.ok.above, I.ok.inj, I.ok.has, I.ok.cab, fun z => Bool.noConfusion z, I.ok.frames, I.ok.stk, I.ok.exf, I.ok.bs, I.ok.bsz, I.ok.noex, I.ok.exfs, I.ok.funs, I.ok.frf⟩, I.os, I.bare, I.base, I.loc, I.cell, I.free, I.freeC, I.pin, I.hok, I.len⟩
theorem Inv.outX {x : Addr} (hh : X.calm = true → X.A.handled = none) (I : Inv (X.inX x) pins σ H s) : Inv X pins σ H s :=
  ⟨⟨I.ok.mod, I.ok.kind, I.ok.glob, I.ok.blt, I.ok.above, I.ok.inj, I.ok.has, I.ok.cab, hh, I.ok.frames, I.ok.stk, I.ok.exf, I.ok.bs, I.ok.bsz, I.ok.noex, I.ok.exfs, I.ok.funs, I.ok.frf⟩, I.os, I.bare, I.base, I.loc, I.cell, I.free, I.freeC, I.pin, I.hok, I.len⟩
noncomputable def excIs (x : Addr) (C : Value) : HO := .ext fun h => ∃ o, h.get? x = some o ∧ o.cls = C
theorem caught_inv {x : Addr} {C : Value} {H' : Hp} {s6 : Shared} {o : Obj} (I : Inv X pins σ H s) (ho : s6.os = s.os) (hg : AllBare s6.gens) (u : Un (frs X.stack) [] H H' s.heap s6.heap) (ok : HOk X.prog X.w H' s6.heap) (xn : s.heap.get? x = none) (xh : H' x = none) (he : s6.heap.get? x = some o) (hc : o.cls = C) :
    Inv X pins σ (upd H' x (excIs x C)) s6 := by
  have ne : ∀ b q, s.heap.get? b = some q → b ≠ x := fun b q e z => by rw [z, xn] at e; cases e
  refine I.call' (ch := []) ho ⟨u.keep, u.slot, fun b q e n hx => by rw [upd_ne (ne b q e)]; exact u.free b q e n hx, u.there, fun b xs e => by rw [upd_ne (ne_of_none (u.tups b xs e) xh)]; exact u.tups b xs e, fun b q v e => by rw [upd_ne (ne_of_none (u.frzs b q v e) xh)]; exact u.frzs b q v e, fun b ps e => ?_⟩ ?_ hg (fun b z => absurd z (by simp))
  · obtain ⟨more, q⟩ := u.tbls b ps e
    exact ⟨more, by rw [upd_ne (ne_of_none q xh)]; exact q⟩
  · intro b v e
    by_cases hb : b = x
    · subst hb
      rw [upd_same] at e
      cases e
      exact ⟨⟨o, he, hc⟩, ⟨o, he⟩, fun h1 h2 ⟨o1, e1, c1⟩ k => ⟨o1, k o1 e1, c1⟩⟩
    · rw [upd_ne hb] at e
      exact (ok b v e).stay (fun _ _ _ q => q) (fun c q => by rw [upd_ne (ne_of_none q xh)]; exact q) fun c xs q => by rw [upd_ne (ne_of_none q xh)]; exact q
end
section
variable {X : Cx} {pins : List (Addr × Obj)} {σ : St} {H : Hp} {s : Shared}
end
end L2
namespace L2
open PySem PySem.Spec PyProof.Rows
noncomputable def Ite (K : PySem.W.Frag) (l : Addr) (N : Nat) : It :=
  ⟨fun i H => ∃ xs x, SqL K H l xs ∧ xs.length = N ∧ xs[i]? = some x,
   fun i H v H' => ∃ t, H t = none ∧ v = .ref t ∧ ∀ xs x, SqL K H l xs → xs[i]? = some x → H' = upd H t (.tup [.int i, x]),
   fun i H => i = N ∧ ∃ xs, SqL K H l xs ∧ xs.length = N⟩
theorem turn_enumL {P : Program} {w : World} {K : PySem.W.Frag} {elts : List Expr} {x1 : Nat} {tp : Pos} (l e it : Addr) (N : Nat) (hei : e ≠ it) (hle : l ≠ e) (hli : l ≠ it) :
    Turn P w K (.Tuple elts x1 tp) (Ite K l N) [e, it] e (fun i h => (∃ old, IsEnum h e it i old) ∧ h.IsListIter it l i) where
  mem := by simp
  obj := fun i h ⟨⟨old, h1⟩, h2⟩ c hc => by
    simp only [List.mem_cons, List.not_mem_nil, or_false] at hc
    rcases hc with z | z
    · subst z; exact ⟨_, h1, fun v q => by have q' : Data.fields _ = Data.cell v := q; cases q'⟩
    · subst z
      obtain ⟨o, ho, _, hd⟩ := h2
      exact ⟨o, ho, fun v q => by rw [hd] at q; cases q⟩
  keep := fun i h h' ⟨⟨old, h1⟩, h2⟩ k => ⟨⟨old, k e (by simp) _ h1⟩, h2.at fun o z => k it (by simp) o z⟩
  item := by
    intro X hP hw hK hc i pins s σ H E I hf ⟨⟨old, h1⟩, h2⟩ ⟨xs, x, q1, hN, hx⟩
    subst hP hw hK
    obtain ⟨it1, v1, p1, z1⟩ := I.list q1
    have hl1 := v1.length
    have hsz : it1.toArray.size = N := by rw [List.size_toArray]; omega
    have hi : i < N := by have := (List.getElem?_eq_some_iff.mp hx).1; omega
    obtain ⟨u1, e1, r1⟩ := v1.get hx
    have D := Draws.list (prog := X.prog) (w := X.w) (A := X.A.in1) (I.ok.hd hc) it l hli it1.toArray
    rw [hsz] at D
    refine wpAny_pyNext_enum_itemD D h1 ⟨h2, p1.isList⟩ hi hei (by simp only [List.mem_cons, List.not_mem_nil, or_false, not_or]; exact ⟨hei, Ne.symm hle⟩) fun u h' tk hu g1 gst gT gs k => ?_
    refine ⟨_, rfl, wpAny_letOwnedTupleGo_enum g1 fun h'' g1' sb => ?_⟩
    have hzT : s.heap.objs.size ≠ e := Nat.ne_of_gt (Heap.lt_size h1)
    have eu : u = u1 := by
      have hu' : it1[i]? = some u := by simpa using hu
      rw [e1] at hu'
      exact (Option.some.inj hu').symm
    subst eu
    have gT' : IsTup h'' s.heap.objs.size [Value.int i tk, u].toArray := ⟨_, sb.extBut _ _ hzT gT, rfl, _, rfl⟩
    have hlz : ∀ {c : Addr} {o : Obj}, c ≠ e → h'.get? c = some o → h''.get? c = some o := fun hcz z => sb.extBut _ _ hcz z
    refine ⟨.ref s.heap.objs.size, upd H s.heap.objs.size (.tup [.int i, x]), I.turnsT (ch := [e, it]) (t' := tk + 1) (fun c hcm => hf c hcm) (fun c o hcn z => ?_) (Nat.le_refl _) (.cons ⟨tk, rfl⟩ (.cons r1 .nil)) gT' (by show 2 ≤ sizeLine; decide), rfl,
      ⟨_, I.hok.fresh (Nat.le_refl _), rfl, fun xs' x' w1 w2 => ?_⟩, ⟨⟨_, g1'⟩, gst.1.at fun o z => hlz (Ne.symm hei) z⟩, fun c hcm => ?_⟩
    · simp only [List.mem_cons, List.not_mem_nil, or_false, not_or] at hcn
      exact hlz hcn.1 (k c o hcn.1 hcn.2 z)
    · have a1 := I.list_inj w1 q1
      subst a1
      rw [hx] at w2
      cases w2
      rfl
    · obtain ⟨o, z, _⟩ : ∃ o, s.heap.get? c = some o ∧ True := by
        simp only [List.mem_cons, List.not_mem_nil, or_false] at hcm
        rcases hcm with z | z
        · subst z; exact ⟨_, h1, trivial⟩
        · subst z; obtain ⟨o, ho, _⟩ := h2; exact ⟨o, ho, trivial⟩
      rw [upd_ne (Nat.ne_of_lt (Heap.lt_size z))]
      exact (hf c hcm).1
  done := by
    intro X hP hw hK hc i pins s σ H E I hf ⟨⟨old, h1⟩, h2⟩ ⟨hi, xs, q1, hN⟩
    subst hP hw hK hi
    obtain ⟨it1, v1, p1, z1⟩ := I.list q1
    have hl1 := v1.length
    have hsz : it1.toArray.size = i := by rw [List.size_toArray]; omega
    have D := Draws.list (prog := X.prog) (w := X.w) (A := X.A.in1) (I.ok.hd hc) it l hli it1.toArray
    rw [hsz] at D
    refine wpAny_pyNext_enum_endD D h1 ⟨h2, p1.isList⟩ fun h' k => ⟨rfl, I.turns (ch := [e, it]) (t' := s.toks) hf fun c o hcn z => ?_⟩
    simp only [List.mem_cons, List.not_mem_nil, or_false, not_or] at hcn
    exact k c o hcn.2 z
  self := fun _ _ _ _ _ st h => let ⟨⟨_, z⟩, _⟩ := st; wpAny_pyIter_enum z h
section
variable {X : Cx}
noncomputable def iEnumL (K : PySem.W.Frag) (ta : TA) : TI := fun σ H R => ta σ H fun vs H1 => ∃ a xs, vs = [.ref a] ∧ SqL K H1 a xs ∧ R (Ite K a xs.length) H1
theorem pi_enumL {a : Expr} {ta : TA} {p pos : Pos} {elts : List Expr} {x1 : Nat} {tp : Pos} (hg : Gl X "enumerate") (hm : X.mg "enumerate" = none) (ha : PA X [a] ta)
    (hs : starEach [a] X.env = (false, eval a X.env) :: starEach [] X.env := by rfl) (hs2 : (backTo pos (starEach [] X.env)).any (·.1) = false := by rfl) :
    PI X (.Tuple elts x1 tp) (.Call (.Name "enumerate" p) [a] [] pos) (iEnumL X.K ta) := by
  intro pins s σ H R I h
  refine Call_ (ld_blt I hg hm b_enumerate (PyProof.Rows.callWith_type1 (thn (ha pos pins s σ H _ I h) fun us s1 ⟨vs, H1, I1, r1, q1⟩ => ?_) hs hs2))
  obtain ⟨l, xs, e, q1, q⟩ := q1
  subst e
  obtain ⟨u, rfl, w1⟩ := vals1 r1
  cases w1
  obtain ⟨its, v1, p1, z1⟩ := I1.list q1
  have hl : l < s1.heap.objs.size := by obtain ⟨_, _, e, _⟩ := p1; exact Heap.lt_size e
  refine call_enumerate_list p1.isList fun h' g1 g2 gs k => ?_
  refine wpAny_pyIter_enum g1 ?_
  refine ⟨s1.heap.objs.size + 1, [s1.heap.objs.size + 1, s1.heap.objs.size], _, _, H1, rfl, I1.kept (t' := s1.toks) k, turn_enumL l _ s1.heap.objs.size xs.length ?_ ?_ ?_, ⟨⟨_, g1⟩, g2⟩, fun c hcm => ?_, q⟩
  · exact Nat.succ_ne_self _
  · exact Nat.ne_of_lt (Nat.lt_succ_of_lt hl)
  · exact Nat.ne_of_lt hl
  · have hc : s1.heap.objs.size ≤ c := by
      simp only [List.mem_cons, List.not_mem_nil, or_false] at hcm
      rcases hcm with e | e
      · rw [e]; exact Nat.le_succ _
      · rw [e]; exact Nat.le_refl _
    exact I1.fpOk hc (I1.hok.fresh hc)
theorem call_sum (hc : X.calm = true) : CallR X (.builtin "sum") (fun xs H Q => ∃ (p : Addr) (ns : List Int), xs = [.ref p] ∧ SqL X.K H p (ns.map V.int) ∧ Q (.int ns.sum) H) := by
  intro pins s σ H xs us Q I r h
  obtain ⟨p, ns, rfl, hq, q⟩ := h
  obtain ⟨u, rfl, ru⟩ := vals1 r
  cases ru
  obtain ⟨its, hl, hi, hz⟩ := I.ints hq
  obtain ⟨xs, hx⟩ := hi.allInts.items
  have hl' : s.heap.IsList p (intItems xs) := hx ▸ hl
  refine sum_intListG (I.ok.hd hc) hl' fun h' tk t' hk => ?_
  have e1 : ns = xs.toList.map (·.1) := by
    rw [← nums_intItems, ← hx]
    exact (show numsOf its.toArray.toList = ns from hi.numsOf).symm
  have e2 : preSum (numAt xs) xs.size = ns.sum := by
    rw [preSum_eq, List.take_of_length_le (by simp), e1]
  rw [e2]
  exact ⟨.int _, H, I.kept (t' := tk) hk, ⟨_, rfl⟩, q⟩
end
theorem b_sum : bootBuiltins "sum" = some (.builtin "sum") := by decide +kernel
theorem comp_enumP {K : PySem.W.Frag} {a acc : Addr} {xs : List V} {own : Nat} {ix : List Nat} {g : TG} {te : TE} {σ : St} {H1 : Hp} {Q : VK} (f : Nat → V) (hq1 : SqL K H1 a xs) (hn : H1 acc = none) (hz : xs.length ≤ sizeLine)
    (step : ∀ (i : Nat) (x : V) (t : Addr) (H : Hp) (R : VK), xs[i]? = some x → Same H1 H → H t = some (.tup [.int i, x]) → R (f i) H → g (.ref t) (blockSt own ix σ) H fun σ4 H4 => σ4.drop own = ix.map (fun i => (σ[i]?).getD none) ∧ te σ4 H4 R)
    (hd : ∀ H', Same H1 H' → H' acc = some (.lst ((List.range xs.length).map f)) → Q (.ref acc) H') : CompGo (Ite K a xs.length) own ix g tNoTest te σ H1 acc Q := by
  refine ⟨fun i m ys H => m = xs.length - i ∧ i ≤ xs.length ∧ ys = (List.range i).map f ∧ Same H1 H ∧ H acc = some (.lst ys), ⟨xs.length, by simp, Nat.zero_le _, rfl, Same.new hn, upd_same⟩, ?_⟩
  rintro i m zs H ⟨rfl, hi, rfl, sm, ha⟩
  refine ⟨ha, ?_⟩
  by_cases hlt : i < xs.length
  · refine .inr ⟨⟨xs, xs[i], sm.seq hq1, rfl, List.getElem?_eq_getElem hlt⟩, by rw [List.length_map, List.length_range]; omega, fun v H3 ⟨t, ht, hv, hy⟩ => ?_⟩
    have e := hy xs _ (sm.seq hq1) (List.getElem?_eq_getElem hlt)
    subst hv e
    have ha3 : (upd H t (.tup [.int i, xs[i]])) acc = some (.lst ((List.range i).map f)) := by rw [upd_ne (ne_of_none ha ht)]; exact ha
    exact step i _ t _ _ (List.getElem?_eq_getElem hlt) (sm.put ht) upd_same ⟨ha3, _, by omega, rfl, hlt, by rw [List.range_succ, List.map_append]; rfl, (sm.put ht).wr hn, upd_same⟩
  · have e : i = xs.length := by omega
    subst e
    exact .inl ⟨⟨rfl, xs, sm.seq hq1, rfl⟩, hd H sm ha⟩
theorem for_enum {K : PySem.W.Frag} {a : Addr} {xs : List V} {g : TG} {tb : TS} {D : Ends} {σ : St} {H : Hp} (Pv : Nat → St → Hp → Prop) (h0 : Pv 0 σ H) (hl : ∀ i σ H, Pv i σ H → SqL K H a xs)
    (hs : ∀ (i : Nat) x t σ H, xs[i]? = some x → Pv i σ H → H t = none → g (.ref t) σ (upd H t (.tup [.int i, x])) fun σ2 H2 => tb { D with nx := Pv (i + 1), ct := Pv (i + 1), bk := D.nx } σ2 H2) (hd : ∀ σ H, Pv xs.length σ H → D.nx σ H) :
    ∃ W : Nat → Nat → St → Hp → Prop, (∃ m, W 0 m σ H) ∧ ∀ i m σ H, W i m σ H →
      ((Ite K a xs.length).stop i H ∧ D.nx σ H) ∨ ((Ite K a xs.length).go i H ∧ ∃ N : St → Hp → Prop, (∀ σ' H', N σ' H' → ∃ m', m' < m ∧ W (i + 1) m' σ' H') ∧ ∀ x H', (Ite K a xs.length).yld i H x H' → g x σ H' fun σ2 H2 => tb { D with nx := N, ct := N, bk := D.nx } σ2 H2) := by
  refine ⟨fun i m σ H => m = xs.length - i ∧ i ≤ xs.length ∧ Pv i σ H, ⟨_, rfl, Nat.zero_le _, h0⟩, ?_⟩
  rintro i m σ H ⟨rfl, hi, p⟩
  have q1 := hl i σ H p
  by_cases hlt : i < xs.length
  · refine .inr ⟨⟨xs, xs[i], q1, rfl, List.getElem?_eq_getElem hlt⟩, Pv (i + 1), fun σ' H' p' => ⟨_, by omega, rfl, hlt, p'⟩, fun v H3 ⟨t, ht, hv, hy⟩ => ?_⟩
    have e := hy xs _ q1 (List.getElem?_eq_getElem hlt)
    subst hv e
    exact hs i _ t σ H (List.getElem?_eq_getElem hlt) p ht
  · have e : i = xs.length := by omega
    subst e
    exact .inl ⟨⟨rfl, xs, q1, rfl⟩, hd σ H p⟩
end L2
namespace L2
open PySem PySem.Spec PyProof.Rows
theorem comp_rangeG {lo : Int} {n : Nat} {acc : Addr} {own : Nat} {ix : List Nat} {g : TG} {te : TE} {σ : St} {H1 : Hp} {Q : VK} (Pr : Nat → V → Prop) (hn : H1 acc = none) (hz : n ≤ sizeLine)
    (step : ∀ (i : Nat) (H : Hp) (R : VK), i < n → Same H1 H → (∀ v H', Same H H' → Pr i v → R v H') → g (.int (lo + i)) (blockSt own ix σ) H fun σ4 H4 => σ4.drop own = ix.map (fun i => (σ[i]?).getD none) ∧ te σ4 H4 R)
    (hd : ∀ ys H', Same H1 H' → H' acc = some (.lst ys) → ys.length = n → (∀ i v, ys[i]? = some v → Pr i v) → Q (.ref acc) H') :
    CompGo (Itr lo n) own ix g tNoTest te σ H1 acc Q := by
  refine ⟨fun i m ys H => m = n - i ∧ i ≤ n ∧ ys.length = i ∧ (∀ j v, ys[j]? = some v → Pr j v) ∧ Same H1 H ∧ H acc = some (.lst ys), ⟨n, by simp, Nat.zero_le _, rfl, fun j v h => by simp at h, Same.new hn, upd_same⟩, ?_⟩
  rintro i m ys H ⟨rfl, hi, hl, pr, sm, ha⟩
  refine ⟨ha, ?_⟩
  by_cases hlt : i < n
  · refine .inr ⟨hlt, by omega, fun x H3 y => ?_⟩
    obtain ⟨e, y⟩ := y
    subst e y
    refine step i _ _ hlt sm fun v H' s' pv => ⟨s' _ _ ha, n - (i + 1), by omega, rfl, hlt, by rw [List.length_append, hl]; rfl, fun j u hj => ?_, (sm.trans s').wr hn, upd_same⟩
    by_cases hji : j < ys.length
    · rw [List.getElem?_append_left hji] at hj
      exact pr j u hj
    · have hj2 := (List.getElem?_eq_some_iff.mp hj).1
      rw [List.length_append, List.length_singleton] at hj2
      have ej : j = i := by omega
      subst ej
      rw [List.getElem?_append_right (by omega), hl, Nat.sub_self] at hj
      have : v = u := by simpa using hj
      subst this
      exact pv
  · have e : i = n := by omega
    subst e
    exact .inl ⟨Nat.le_refl _, hd ys H sm ha hl pr⟩
theorem comp_listG {K : PySem.W.Frag} {a acc : Addr} {xs : List V} {own : Nat} {ix : List Nat} {g : TG} {te : TE} {σ : St} {H1 : Hp} {Q : VK} (Pr : Nat → V → Hp → Prop) (hmono : ∀ i v H H', Same H H' → Pr i v H → Pr i v H') (hacc : ∀ i v H o, H acc = some o → ∀ o', Pr i v H → Pr i v (upd H acc o'))
    (hq : SqL K H1 a xs) (hn : H1 acc = none) (hz : xs.length ≤ sizeLine)
    (step : ∀ (i : Nat) (x : V) (H : Hp) (R : VK), xs[i]? = some x → Same H1 H → (∀ v H', Same H H' → Pr i v H' → R v H') → g x (blockSt own ix σ) H fun σ4 H4 => σ4.drop own = ix.map (fun i => (σ[i]?).getD none) ∧ te σ4 H4 R)
    (hd : ∀ ys H', Same H1 H' → H' acc = some (.lst ys) → ys.length = xs.length → (∀ i v, ys[i]? = some v → Pr i v H') → Q (.ref acc) H') :
    CompGo (Itl K a) own ix g tNoTest te σ H1 acc Q := by
  refine ⟨fun i m ys H => m = xs.length - i ∧ i ≤ xs.length ∧ ys.length = i ∧ (∀ j v, ys[j]? = some v → Pr j v H) ∧ Same H1 H ∧ H acc = some (.lst ys), ⟨xs.length, by simp, Nat.zero_le _, rfl, fun j v h => by simp at h, Same.new hn, upd_same⟩, ?_⟩
  rintro i m ys H ⟨rfl, hi, hl, pr, sm, ha⟩
  refine ⟨ha, ?_⟩
  have q := sm.seq hq
  by_cases hlt : i < xs.length
  · refine .inr ⟨⟨xs, xs[i], q, by simp [hlt]⟩, by omega, fun x H3 y => ?_⟩
    obtain ⟨e, y⟩ := y
    subst e
    refine step i x _ _ (y xs q) sm fun v H' s' pv => ⟨s' _ _ ha, xs.length - (i + 1), by omega, rfl, hlt, by rw [List.length_append, hl]; rfl, fun j u hj => ?_, (sm.trans s').wr hn, upd_same⟩
    by_cases hji : j < ys.length
    · rw [List.getElem?_append_left hji] at hj
      exact hacc j u H' _ (s' _ _ ha) _ (hmono j u _ _ s' (pr j u hj))
    · have hj2 := (List.getElem?_eq_some_iff.mp hj).1
      rw [List.length_append, List.length_singleton] at hj2
      have ej : j = i := by omega
      subst ej
      rw [List.getElem?_append_right (by omega), hl, Nat.sub_self] at hj
      have : v = u := by simpa using hj
      subst this
      exact hacc j v H' _ (s' _ _ ha) _ pv
  · have e : i = xs.length := by omega
    subst e
    exact .inl ⟨⟨xs, q, Nat.le_refl _⟩, hd ys H sm ha hl pr⟩
section
variable {X : Cx}
end
end L2
namespace L2
open PySem PySem.Spec PyProof.Rows PySem.W PySem.Calls
section
variable {prog : Program} {w : World} {A : Around} {E : Value → Shared → Prop} {s : Shared} {K : Frag} {x C : Addr} {ox : Obj}
structure ExcLook (K : Frag) (C : Addr) : Prop where
  ga : findIn K (.ref C) "__getattribute__" = some (some (.builtin "BaseException.__getattribute__"))
  hk : findIn K (.ref C) "__getattr__" = some none
  cl : findIn K (.ref C) "__class__" = some (some (.builtin "object.__class__"))
  gt : specialIn K (.builtin "object.__class__") "__get__" = some (some (.builtin "getset_descriptor.__get__"))
  tk : takesIn K (.builtin "object.__class__") = some true
  mo : mroIn K C (.type "object") = some true
  mb : mroIn K C (.type "BaseException") = some true
open PySem.Builtin PySem.Builtin.ObjectAttr in
theorem looks_data {M : Model} {h : Heap} (X : K.In h) (L : ExcLook K C) : Looks M h (find (.ref x) (.ref C) "__class__") (Found.bind (.builtin "getset_descriptor.__get__") (.builtin "object.__class__")) := by
  have L1 := looks_findIn (M := M) X L.cl
  have L2 : Looks M h (getOf (some (.builtin "object.__class__"))) (some (.builtin "getset_descriptor.__get__")) := looks_specialIn X L.gt
  have L3 := looks_takesIn (M := M) X L.tk
  exact L1.andThen (L2.andThen ((show Looks M h (dataDescriptor? (some (.builtin "object.__class__")) (some (.builtin "getset_descriptor.__get__"))) (some (.builtin "getset_descriptor.__get__", .builtin "object.__class__")) from L3.andThen .now).andThen (Looks.tag .now)))
theorem check_ga {M : Model} {nameV : Value} {Q : Unit → Shared → Prop} {h : Heap} {g : Array GenState} {d : Drawn} {t : Nat} {os : OsState} (X : K.In h) (L : ExcLook K C) (hx : h.get? x = some ox) (hc : ox.cls = .ref C) (hq : Q () ⟨h, g, d, t, os⟩) :
    wpAny M A (checkBuiltinCall "BaseException.__getattribute__" ⟨[.ref x, nameV], []⟩) Q E ⟨h, g, d, t, os⟩ := by
  have hk : builtinKind "BaseException.__getattribute__" = some .slot := by decide +kernel
  have hsplit : splitId "BaseException.__getattribute__" = some ("BaseException", "__getattribute__") := by decide +kernel
  have ha := F.args_bexc_ga (.ref x) nameV
  have LT : Looks M h (typeOf (.ref x)) (.ref C) := hc ▸ (Looks.ld hx).andThen .now
  have LI : Looks M h (isInstance (.ref x) (.type "BaseException")) true := LT.andThen (looks_mroIn X L.mb)
  simp only [checkBuiltinCall, hk, hsplit]
  refine wpAny_bind (LI.at ?_)
  repeat (first | assumption | wp_step)
open PySem.Builtin PySem.Builtin.ObjectAttr PySem.Builtin.Getset_descriptor in
theorem class_getE {tp : Value} {R : Result → Shared → Prop} (X : K.In s.heap) (L : ExcLook K C) (hx : s.heap.get? x = some ox) (hc : ox.cls = .ref C)
    (h : R (.ok (.ret (.ref C))) s) : codeAny (model prog w) A (.call (.builtin "getset_descriptor.__get__") ⟨[.builtin "object.__class__", .ref x, tp], []⟩) R s := by
  obtain ⟨hh, g, dr, t, os⟩ := s
  have L0 : Looks (model prog w) hh (typeOf (.ref x)) (.ref C) := hc ▸ (Looks.ld hx).andThen .now
  have L1 := looks_mroIn (M := model prog w) X L.mo
  refine codeAny_call_builtin KF.slot_gs.plain KF.entry_gs (KF.slot_gs.check _ _ _ _ _ _ _ _ KF.type_class (KF.args_gs _ _ _) ?_)
  unfold Builtin.«getset_descriptor.__get__» descrGet
  rw [dga_obj]
  refine wpAny_bind (wpAny_pure ?_)
  unfold descrGetter descrCheckInstance descrNameAndClass isInstance
  simp only [KF.owner_class]
  repeat lk
  refine ⟨Code.quiet_builtin _ (by decide +kernel), codeAny_builtin KF.entry_class ?_⟩
  unfold Builtin.«object.__class__» shownTypeOf
  repeat lk
  exact h
theorem exc_class {Q : Option Value → Shared → Prop} (X : K.In s.heap) (L : ExcLook K C) (hx : s.heap.get? x = some ox) (hc : ox.cls = .ref C) (h : Q (some (.ref C)) { s with toks := s.toks + 1 }) : wpAny (model prog w) A (getAttr? (.ref x) "__class__") Q E s := by
  obtain ⟨hh, g, d, t, os⟩ := s
  have L0 : Looks (model prog w) hh (typeOf (.ref x)) (.ref C) := hc ▸ (Looks.ld hx).andThen .now
  have L1 := looks_findIn (M := model prog w) X L.ga
  have L2 := looks_findIn (M := model prog w) X L.hk
  unfold getAttr? getAttrBy? getAttrBy
  refine wpAny_bind (wpAny_mkText (wpAny_bind (wpAny_attempt (wpAny_holding (wpAny_bind (L0.at (wpAny_bind (L1.at ?_))))))))
  show wpAny _ _ (getAttrByItsOwn _ _ _ _ _ _) _ _ _
  unfold getAttrByItsOwn hookBefore
  refine wpAny_bind ?_
  show wpAny _ _ (typeLookup (.ref C) "__getattr__") _ _ _
  refine L2.at ?_
  refine wpAny_bind (wpAny_attempt (wpAny_holding ?_))
  show wpAny _ _ (boundAndCalled (.builtin "BaseException.__getattribute__") (.ref x) (.str "__class__" t)) _ _ _
  unfold boundAndCalled
  refine wpAny_bind (wpAny_of_eq (F.excAttr_ValueError.ga.bind (.ref x)) ?_)
  show wpAny _ _ (call (.builtin "BaseException.__getattribute__") [.ref x, .str "__class__" t]) _ _ _
  refine wpAny_call (codeAny_call_builtin F.excAttr_ValueError.ga.plain F.entry_bexc_ga (check_ga (t := t + 1) X L hx hc ?_))
  unfold Builtin.«object.__getattribute__»
  refine wpAny_bind (wpAny_of_eq (a := (Value.ref x, [Value.str "__class__" t])) rfl ?_)
  refine wpAny_bind (wpAny_of_eq (a := Str.ofString "__class__") rfl ?_)
  refine wpAny_bind (L0.at (wpAny_bind ((looks_data X L).at ?_)))
  show wpAny _ _ (holding [.builtin "object.__class__"] (call (.builtin "getset_descriptor.__get__") [.builtin "object.__class__", .ref x, .ref C]) >>= ret) _ _ _
  refine wpAny_bind (wpAny_holding (wpAny_call (class_getE (s := ⟨hh, g, d, t + 1, os⟩) X L hx hc (wpAny_pure ?_))))
  exact handed_on rfl (wpAny_pure h)
end
section
variable {K : Frag} {x C : Addr}
theorem kitx_exc (L : ExcLook K C) : KitX K (.ref x) (.ref C) (fun h => ∃ o, h.get? x = some o ∧ o.cls = .ref C) where
  ty := fun M h _ p => by
    obtain ⟨o, h1, h2⟩ := p
    exact h2 ▸ (Looks.ld h1).andThen .now
  it := fun _ _ X _ => by
    obtain ⟨cd, hcd, _⟩ := Option.bind_eq_some_iff.mp (show (clsIn K C).bind _ = some true from L.mo)
    unfold clsIn at hcd
    split at hcd
    · rename_i c' d' cd' sl' ho
      intro A' Q' E' s' k q
      unfold isType loadHead
      exact wpAny_bind (wpAny_loadPart (k _ _ (X _ _ ho)) (wpAny_pure q))
    · cases hcd
  ne := fun h tp dd its n sl X htp => by
    obtain ⟨cd, hcd, _⟩ := Option.bind_eq_some_iff.mp (show (clsIn K C).bind _ = some true from L.mo)
    refine Bool.eq_false_iff.mpr fun q => ?_
    have e : C = tp := Value.ref.inj (beq_iff_eq.mp q)
    subst e
    unfold clsIn at hcd
    split at hcd
    · rename_i c' d' cd' sl' ho
      have z := (X _ _ ho).symm.trans htp
      cases z
    · cases hcd
  ca := fun X p k => by
    obtain ⟨o, h1, h2⟩ := p
    exact exc_class X L h1 h2 k
end
inductive XTy (K : PySem.W.Frag) (H : Hp) : V → Value → Prop where
  | of {x : V} {t : Value} (h : TyOf K H x t) : XTy K H x t
  | exc {a C : Addr} (L : ExcLook K C) (h : H a = some (excIs a (.ref C))) : XTy K H (.ref a) (.ref C)
section
variable {X : Cx}
theorem call_isinstC : CallR X (.builtin "isinstance") (fun xs H Q => ∃ (x c : V) (u t : Value) (b : Bool), xs = [x, c] ∧ (∀ u', RelV c u' → u' = u) ∧ XTy X.K H x t ∧ kitOne X.K t u = some b ∧ Q (.bl b) H) := by
  intro pins s σ H xs us Q I r h
  obtain ⟨x, c, u, t, b, rfl, hu, ty, e, q⟩ := h
  obtain ⟨u1, u2, rfl, r1, r2⟩ := vals2 r
  have e2 := hu u2 r2
  subst e2
  cases ty with
  | of ty => exact isinst_ok I r1 ty e fun tk => ⟨.bl b, H, I.tok tk, rfl, q⟩
  | @exc a C L hx =>
    cases (show u1 = Value.ref a from r1)
    obtain ⟨⟨o, ho, hc⟩, _, _⟩ := (show ObjOk X.prog X.w H s.heap a (excIs a (.ref C)) from I.hok a _ hx)
    exact kia_one (kitx_exc L) I.kIn ⟨o, ho, hc⟩ e (fun z => nomatch z) fun tk => ⟨.bl b, H, I.tok tk, rfl, q⟩
end
noncomputable def PassesG (X : Cx) (G : St → Value → Hp → Prop) : Prop := ∀ (pins : List (Addr × Obj)) (σ : St) (H : Hp) (s : Shared) (e : Value) (s' : Shared), Inv X pins σ H s → CXE X.prog X.w X.stack H s (fun C _ H' => G σ C H') e s' → X.xe e s'
noncomputable def tFnG (sp : Sp) (G : St → Value → Hp → Prop) (t : TA) : TE := fun σ H Q => t σ H fun vs H1 => sp vs H1 Q fun C _ H' => G σ C H'
section
variable {X : Cx} {k : Nat} {x : Str} {ps : List Str} {sp : Sp} {p pos : Pos} {e : Expr} {es : List Expr} {t : TA} {G : St → Value → Hp → Prop}
theorem pe_fnG (F : FnE X.prog X.w X.K X.mg X.base k x ps sp) (hr : Room k X.A) (hg : Gl X x) (hx : PassesG X G) (ha : PA X (e :: es) t) (hdb : (x == ("__debug__" : Str)) = false := by decide)
    (he : starEach (e :: es) X.env = (false, eval e X.env) :: starEach es X.env := by rfl) (hpl : (backTo pos (starEach es X.env)).any (·.1) = false := by rfl) :
    PE X (.Call (.Name x p) (e :: es) [] pos) (tFnG sp G t) := by
  obtain ⟨f, fd, F, kp, b, m⟩ := F
  intro pins s σ H Q I h
  refine wpAny_Call_Name_kw (ld_glob I hg m ?_ hdb)
  refine PySem.W.callWith_K (h₀ := X.base) I.ok.mod.kin kp (thn (ha pos pins s σ H _ I h) fun us s1 ⟨vs, H1, I1, r, q⟩ => ⟨I1.kIn, ?_⟩) he hpl
  have hl : us.length = ps.length := by rw [← r.length]; exact F.len _ _ _ _ q
  have bb := b s1 us I1.kIn (by rw [List.append_nil]; exact hl)
  rw [List.append_nil] at bb
  refine wpAny_call (codeAny_mono (F.run X.A X.stack s1 H1 ⟨us, []⟩ us vs Q _ hr I1.env0 bb r q) fun rr s' hq => ?_)
  cases rr with
  | error e => exact hx pins σ H1 s1 e s' I1 hq
  | ok fl =>
    cases fl with
    | ret u => exact I1.after hq
    | next => exact False.elim hq
    | brk => exact False.elim hq
    | cont => exact False.elim hq
end
theorem passesE {P : Program} {w : World} {K : PySem.W.Frag} {mg : Str → Option Value} {base : Heap} {N : List Str} {qual : Str} {scope : Scope} {f : Addr} {cdv : Value} {A : Around} {outer : List Env} {s : Shared} {H : Hp} {E : XK} :
    PassesG (cxOf (CXE P w) P w K mg base N qual scope f cdv A outer s H E) (fun _ C H' => E C none H') :=
  fun _ _ _ _ _ _ I h => xe_pass (x := 0) I h fun _ _ z => z
abbrev Cx.pinned (X : Cx) (pn : List (Addr × Obj)) : Cx := { X with pn := pn }
theorem Inv.intoPn {X : Cx} {pins : List (Addr × Obj)} {σ : St} {H : Hp} {s : Shared} (I : Inv X pins σ H s) : Inv (X.pinned (X.pn ++ pins)) [] σ H s :=
  ⟨⟨I.ok.mod, I.ok.kind, I.ok.glob, I.ok.blt, I.ok.above, I.ok.inj, I.ok.has, I.ok.cab, I.ok.hd, I.ok.frames, I.ok.stk, I.ok.exf, I.ok.bs, I.ok.bsz, I.ok.noex, I.ok.exfs, I.ok.funs, I.ok.frf⟩, I.os, I.bare, I.base, I.loc, I.cell, I.free, I.freeC, fun p hp => I.pin p (by rw [List.append_nil] at hp; exact hp), I.hok, I.len⟩
theorem Inv.outPn {X : Cx} {pins pins1 : List (Addr × Obj)} {σ : St} {H : Hp} {s : Shared} (I : Inv (X.pinned (X.pn ++ pins)) pins1 σ H s) : Inv X pins σ H s :=
  ⟨⟨I.ok.mod, I.ok.kind, I.ok.glob, I.ok.blt, I.ok.above, I.ok.inj, I.ok.has, I.ok.cab, I.ok.hd, I.ok.frames, I.ok.stk, I.ok.exf, I.ok.bs, I.ok.bsz, I.ok.noex, I.ok.exfs, I.ok.funs, I.ok.frf⟩, I.os, I.bare, I.base, I.loc, I.cell, I.free, I.freeC, fun p hp => I.pin p (List.mem_append_left _ hp), I.hok, I.len⟩
theorem excMatches_base {M : Model} {A : Around} {E : Value → Shared → Prop} {h : Heap} {g : Array GenState} {d : Drawn} {t : Nat} {os : OsState} {x C CB : Addr} {ox : Obj} {bm bm2 : List Value} {Q : Bool → Shared → Prop} (hC : IsExcCls h C bm) (hB : IsExcCls h CB bm2) (hx : h.get? x = some ox) (hxc : ox.cls = .ref C)
    (hm : (Value.ref C :: bm).contains (.ref CB) = true) (hq : Q true ⟨h, g, d, t, os⟩) : wpAny M A (excMatches (.ref x) (.ref CB)) Q E ⟨h, g, d, t, os⟩ := by
  obtain ⟨N, nm, q, bs, hdct, sn, sub, ab, col, dd, k0, k1, k2, k3, k5, newId, hC, hb⟩ := hC
  obtain ⟨N', nm', q', bs', hdct', sn', sub', ab', col', dd', k0', k1', k2', k3', k5', newId', hB, hb'⟩ := hB
  have hcB : (Value.ref CB :: bm2).contains (.type "BaseException") = true := by rw [List.contains_cons, hb', Bool.or_true]
  have f := tc_notTuple
  unfold excMatches
  repeat (first | (with_reducible refine wpAny_loadPart_at hx ?_; rw [hxc]) | with_reducible refine wpAny_loadPart_at hB ?_ | (with_reducible refine wpAny_isSubtype_exc hB ?_; rw [hcB]) | (with_reducible refine wpAny_isSubtype_exc hC ?_; rw [hm]) | wp_step)
  exact hq
noncomputable def tTryG (K : PySem.W.Frag) (CB : Addr) (i : Nat) (tb : (St → Value → Hp → Prop) → TS) (t2 : TS) : TS := fun D σ H => tb (fun σ1 Cv H' => ∃ (C : Addr) (bmB : List Value) (newId : String), Cv = .ref C ∧ PySem.W.excIn K C bmB newId = true ∧ bmB.contains (.type "BaseException") = true ∧ PySem.W.mroIn K C (.ref CB) = some true ∧
  ∀ x, H' x = none → t2 { nx := fun σ3 H3 => D.nx ((σ3.set i (some .non)).set i none) H3, rt := fun _ _ => False } (σ1.set i (some (.ref x))) (upd H' x (excIs x (.ref C)))) D σ H
theorem ps_tryG {X : Cx} {n xn : Str} {tb : (St → Value → Hp → Prop) → TS} {t2 : TS} {CB : Addr} {i : Nat} {body : List Stmt} {b2 : Stmt} {bs2 : List Stmt} {np pos2 pos : Pos} {bmC : List Value} {idC : String}
    (hst : X.stack = X.env :: X.outer) (hfr : X.env.frame = some X.env.locals) (hN : X.N.Nodup) (hi : X.N[i]? = some n) (hl : X.env.scope.names.lookup n = some .local) (hkl : X.env.kindOf n = some .local)
    (hgC : Gl X xn) (hmC : X.mg xn = some (.ref CB)) (hqB : PySem.W.excIn X.K CB bmC idC = true) (hbB : bmC.contains (.type "BaseException") = true)
    (hb : ∀ (pn : List (Addr × Obj)) (xe : Value → Shared → Prop) (G : St → Value → Hp → Prop), PassesG ((X.pinned pn).wish xe) G → PSs ((X.pinned pn).wish xe) body (tb G)) (hb2 : ∀ x, PSs (X.inX x) (b2 :: bs2) t2)
    (hdC : (xn == ("__debug__" : Str)) = false := by decide) :
    PS X.nox (.Try body [.ExceptHandler (some (.Name xn np)) (some n) (b2 :: bs2) pos2] [] [] pos) (tTryG X.K CB i tb t2) := by
  intro pins s σ H D I h
  have I0 : Inv X pins σ H s := I.unwish
  refine wpAny_Try_except (wpAny_mono (hb (X.pn ++ pins) (fun e s' => ∃ (pins1 : List (Addr × Obj)) (σ1 : St) (H1 : Hp) (s1 : Shared), Inv (X.pinned (X.pn ++ pins)) pins1 σ1 H1 s1 ∧ CXE X.prog X.w X.stack H1 s1 (fun Cv _ H' => ∃ (C : Addr) (bmB : List Value) (newId : String), Cv = .ref C ∧ PySem.W.excIn X.K C bmB newId = true ∧ bmB.contains (.type "BaseException") = true ∧ PySem.W.mroIn X.K C (.ref CB) = some true ∧
      ∀ x, H' x = none → t2 { nx := fun σ3 H3 => D.nx ((σ3.set i (some .non)).set i none) H3, rt := fun _ _ => False } (σ1.set i (some (.ref x))) (upd H' x (excIs x (.ref C)))) e s') _ (fun pins1 σ1 H1 s1 e s' I1 z => ⟨pins1, σ1, H1, s1, I1.unwish, z⟩) [] s σ H D (I0.intoPn.wish _) h) (fun fl s1 x => ?_) fun e s' x => ?_)
  · cases fl with
    | next =>
      obtain ⟨σ', H', I', q⟩ := x
      exact wpAny_execs_nil ⟨σ', H', I'.unwish.outPn.wish _, q⟩
    | brk =>
      obtain ⟨σ', H', I', q⟩ := x
      exact ⟨σ', H', I'.unwish.outPn.wish _, q⟩
    | cont =>
      obtain ⟨σ', H', I', q⟩ := x
      exact ⟨σ', H', I'.unwish.outPn.wish _, q⟩
    | ret u =>
      obtain ⟨v, σ', H', I', r, q⟩ := x
      exact ⟨v, σ', H', I'.unwish.outPn.wish _, r, q⟩
  · obtain ⟨pins1, σ1, H1, s1, I1', x, Cv, a0, H', B, rfl, os, bare, fl, st, xn', xh, C, bmB, newId, rfl, hq, hbase, hmro, q2⟩ := x
    have I1 : Inv X pins σ1 H1 s1 := I1'.outPn
    have fl' : Heap.FlyingW B (X.env :: X.outer) x (.ref C) a0 s'.heap := by rw [← hst]; exact fl
    have hfs : X.A.frames = some (X.env :: X.outer) := by rw [← hst]; exact I.ok.frames
    refine wpAny_looks_onW hfs hfr fl' fun h₄ held up4 => wpAny_landsW held fun h₅ fl5 up5 => ?_
    have u05 := up4.trans up5
    obtain ⟨un5, ok5⟩ := st h₅ fl5.1 u05
    have I5 : Inv X pins σ1 H' { s' with heap := h₅ } := I1.call' (ch := []) os un5 ok5 bare (fun b z => absurd z (by simp))
    obtain ⟨ob, hob, hobc⟩ := fl5.there
    obtain ⟨bm, N', nm, qn, bs, hdct, sn, sub, ab, col, dd, k0, k1, k2, k3, k5, mN, hC, hNs, hni, TL, mro⟩ := own_obj I5.kIn hq
    obtain ⟨bm', N'', nm', qn', bs', hdct', sn', sub', ab', col', dd', k0', k1', k2', k3', k5', mN', hB', hNs', hni', TL', mro'⟩ := own_obj I5.kIn hqB
    refine wpAny_handleBy_cons (codeAny_handlers_test (Calls.Name_function_global I.ok.kind hgC (Calls.loadGlobal_global (by rw [I.ok.glob]; exact (I.ok.mod.glob.keeps fun b o e => I5.bk b o e)) hmC ?_) hdC)) (by intro q; cases q)
    refine excMatches_base ⟨N', nm, qn, bs, hdct, sn, sub, ab, col, dd, k0, k1, k2, k3, k5, newId, hC, TL.hasType hbase⟩ ⟨N'', nm', qn', bs', hdct', sn', sub', ab', col', dd', k0', k1', k2', k3', k5', _, hB', TL'.hasType hbB⟩ hob hobc (mro _ _ hmro) (codeAny_handlers_suite_as ?_)
    refine lands_againW fl5 fun h₇ fl7 up7 => ?_
    obtain ⟨un7, ok7⟩ := st h₇ fl7.1 (u05.trans up7)
    obtain ⟨ob7, hob7, hc7⟩ := fl7.there
    have I7 : Inv X.nox pins σ1 (upd H' x (excIs x (.ref C))) { s' with heap := h₇ } := caught_inv (I1.wish _) os bare un7 ok7 xn' xh hob7 hc7
    refine store_ok I7 hN hi (.inl hl) (v := .ref x) rfl (fun s8 I8 => ?_) (.inr hl)
    refine wpAny_mono (hb2 x pins s8 _ _ _ (I8.unwish.inX x) (q2 x xh)) (fun fl9 s9 x9 => ?_) fun _ _ z => False.elim z
    have hh : X.nox.calm = true → X.nox.A.handled = none := I.ok.hd
    cases fl9 with
    | next =>
      obtain ⟨σ3, H3, I9, q9⟩ := x9
      have I9' : Inv X.nox pins σ3 H3 s9 := (Inv.outX (X := X) hh I9).wish _
      have hi3 : i < σ3.length := by rw [I9'.len]; exact (List.getElem?_eq_some_iff.mp hi).1
      refine wpAny_bind (wpAny_bindName (store_ok I9' hN hi (.inl hl) (v := .non) (u := .none) rfl (fun s10 I10 => ?_) (.inr hl)))
      unfold unbindBehindTheSuite
      exact wpAny_onRaise (unbind_ok I10 hN hi hkl hl (List.getElem?_set_self hi3) fun s11 I11 => ⟨_, _, I11, q9⟩)
    | ret u => obtain ⟨_, _, _, _, _, z⟩ := x9; exact False.elim z
    | brk => obtain ⟨_, _, _, z⟩ := x9; exact False.elim z
    | cont => obtain ⟨_, _, _, z⟩ := x9; exact False.elim z
end L2
namespace L2
open PySem PySem.Spec PyProof.Rows
end L2
namespace L2
open PySem PySem.Spec PyProof.Rows
end L2
namespace L2
open PySem PySem.Spec PyProof.Rows
end L2
namespace L2
open PySem PySem.Spec PyProof.Rows
section
variable {X : Cx}
variable {a b : Expr} {ta tb : TE} {pos : Pos}
variable {tA tB' : TT} {rest : List Expr}
end
end L2
namespace L2
open PySem PySem.Spec PyProof.Rows
end L2
namespace L2
open PySem PySem.Spec PyProof.Rows
end L2
namespace L2
open PySem PySem.Spec PyProof.Rows
end L2
namespace L2
open PySem PySem.Spec PyProof.Rows
end L2
namespace L2
open PySem PySem.Spec PyProof.Rows
section
variable {X : Cx} {CX : CXT} {k : Nat} {f C : Addr} {fd : FuncData} {ps ks : List Str} {sp : Sp} {E : XK} {x m : Str} {p pos apos kpos : Pos} {e o : Expr} {es : List Expr} {kws : List Keyword} {te ta : TE} {t tk : TA} {nm : Option Str}
variable {g : List Value → List Value → List Value} {gV : List V → List V → List V}
end
end L2
namespace L2
open PySem PySem.Spec PyProof.Rows
end L2
namespace L2
open PySem PySem.Spec PyProof.Rows
section
variable {κ : Type} [DecidableEq κ]
noncomputable def valV (kvs : List (κ × V)) (k : κ) : Option V := (kvs.find? fun kv => decide (kv.1 = k)).map (·.2)
noncomputable def putK (kvs : List (κ × V)) (k : κ) (v : V) : List (κ × V) :=
  if (kvs.any fun kv => decide (kv.1 = k)) = true then kvs.map (fun kv => if kv.1 = k then (kv.1, v) else kv) else kvs ++ [(k, v)]
noncomputable def dropK (kvs : List (κ × V)) (k : κ) : List (κ × V) := kvs.filter fun kv => decide (kv.1 ≠ k)
theorem valV_pos {p : κ × V} {r : List (κ × V)} {k : κ} (e : p.1 = k) : valV (p :: r) k = some p.2 := by simp [valV, List.find?_cons, e]
theorem valV_neg {p : κ × V} {r : List (κ × V)} {k : κ} (e : ¬ p.1 = k) : valV (p :: r) k = valV r k := by simp [valV, List.find?_cons, e]
theorem valV_any (k : κ) : ∀ kvs : List (κ × V), (kvs.any fun kv => decide (kv.1 = k)) = (valV kvs k).isSome
  | [] => rfl
  | p :: r => by
    rw [List.any_cons]
    by_cases e : p.1 = k
    · simp only [valV_pos e, decide_eq_true e, Bool.true_or, Option.isSome_some]
    · rw [valV_neg e, decide_eq_false e, Bool.false_or]; exact valV_any k r
theorem valV_map (k j : κ) (y : V) : ∀ kvs : List (κ × V), valV (kvs.map fun kv => if kv.1 = k then (kv.1, y) else kv) j = (valV kvs j).map fun x => if j = k then y else x
  | [] => rfl
  | p :: r => by
    have ih := valV_map k j y r
    rw [List.map_cons]
    by_cases h : p.1 = k
    · rw [if_pos h]
      by_cases e : p.1 = j
      · rw [valV_pos (p := (p.1, y)) e, valV_pos e, Option.map_some, if_pos (e.symm.trans h)]
      · rw [valV_neg (p := (p.1, y)) e, valV_neg e, ih]
    · rw [if_neg h]
      by_cases e : p.1 = j
      · rw [valV_pos (p := p) e, valV_pos e, Option.map_some, if_neg (fun z => h (e.trans z))]
      · rw [valV_neg (p := p) e, valV_neg e, ih]
theorem valV_snoc (k j : κ) (y : V) : ∀ kvs : List (κ × V), valV kvs k = none → valV (kvs ++ [(k, y)]) j = if j = k then some y else valV kvs j
  | [], _ => by
    by_cases e : k = j
    · rw [if_pos e.symm]; exact valV_pos (p := (k, y)) e
    · rw [if_neg (fun z => e z.symm)]; exact valV_neg (p := (k, y)) e
  | p :: r, hn => by
    rw [List.cons_append]
    have hk : ¬ p.1 = k := fun z => by rw [valV_pos z] at hn; cases hn
    rw [valV_neg hk] at hn
    have ih := valV_snoc k j y r hn
    by_cases e : p.1 = j
    · rw [valV_pos e, valV_pos e, if_neg (fun z => hk (e.trans z))]
    · rw [valV_neg e, valV_neg e, ih]
theorem valV_put (kvs : List (κ × V)) (k j : κ) (y : V) : valV (putK kvs k y) j = if j = k then some y else valV kvs j := by
  unfold putK
  by_cases a : (kvs.any fun kv => decide (kv.1 = k)) = true
  · rw [if_pos a, valV_map]
    rw [valV_any] at a
    by_cases e : j = k
    · obtain ⟨x, hx⟩ := Option.isSome_iff_exists.mp a
      rw [if_pos e, e, hx, Option.map_some, if_pos rfl]
    · rw [if_neg e]
      cases valV kvs j with
      | none => rfl
      | some x => rw [Option.map_some, if_neg e]
  · rw [if_neg a]
    refine valV_snoc k j y kvs ?_
    rw [valV_any] at a
    cases q : valV kvs k with
    | none => rfl
    | some x => rw [q] at a; exact (a rfl).elim
theorem length_putK (kvs : List (κ × V)) (k : κ) (v : V) : (putK kvs k v).length ≤ kvs.length + 1 := by
  unfold putK
  split
  · rw [List.length_map]; omega
  · rw [List.length_append, List.length_cons, List.length_nil]; omega
theorem putK_new {kvs : List (κ × V)} {k : κ} (v : V) (h : valV kvs k = none) : putK kvs k v = kvs ++ [(k, v)] := by
  unfold putK
  rw [valV_any, h]
  exact if_neg (by decide)
theorem RelO.isSome_eq {o : Option V} {u : Option Value} (r : RelO o u) : o.isSome = u.isSome := by
  cases o with
  | none => cases u with
    | none => rfl
    | some _ => exact (show False from r).elim
  | some _ => cases u with
    | none => exact (show False from r).elim
    | some _ => rfl
theorem RelO.getD {o : Option V} {u : Option Value} {d : V} {d' : Value} (r : RelO o u) (rd : RelV d d') : RelV (o.getD d) (u.getD d') := by
  cases o with
  | none => cases u with
    | none => exact rd
    | some _ => exact (show False from r).elim
  | some _ => cases u with
    | none => exact (show False from r).elim
    | some _ => exact r
theorem KV.val {kvs : List (κ × V)} {vs : List (κ × Value)} (r : KV kvs vs) (k : κ) : RelO (valV kvs k) (valueAt vs k) := by
  unfold KV at r
  induction r with
  | nil => exact True.intro
  | @cons p q ps qs h t ih =>
    obtain ⟨h1, h2⟩ := h
    by_cases e : p.1 = k
    · have e' : q.1 = k := h1.symm.trans e
      have b : valueAt (q :: qs) k = some q.2 := by simp [valueAt, List.find?_cons, e']
      rw [valV_pos e, b]; exact h2
    · have e' : ¬ q.1 = k := fun z => e (h1.trans z)
      have b : valueAt (q :: qs) k = valueAt qs k := by simp [valueAt, List.find?_cons, e']
      rw [valV_neg e, b]; exact ih
theorem KV.any {kvs : List (κ × V)} {vs : List (κ × Value)} (r : KV kvs vs) (k : κ) : (kvs.any fun kv => decide (kv.1 = k)) = vs.any fun kv => decide (kv.1 = k) := by
  unfold KV at r
  induction r with
  | nil => rfl
  | cons h t ih => rw [List.any_cons, List.any_cons, ih, h.1]
theorem KV.repl {kvs : List (κ × V)} {vs : List (κ × Value)} (r : KV kvs vs) (k : κ) {y : V} {u : Value} (ry : RelV y u) :
    KV (kvs.map fun kv => if kv.1 = k then (kv.1, y) else kv) (vs.map fun kv => if kv.1 = k then (kv.1, u) else kv) := by
  unfold KV at r ⊢
  induction r with
  | nil => exact .nil
  | @cons p q ps qs h t ih =>
    rw [List.map_cons, List.map_cons]
    refine .cons ?_ ih
    obtain ⟨h1, h2⟩ := h
    by_cases e : p.1 = k
    · rw [if_pos e, if_pos (h1.symm.trans e)]; exact ⟨h1, ry⟩
    · rw [if_neg e, if_neg (fun z => e (h1.trans z))]; exact ⟨h1, h2⟩
theorem KV.put {kvs : List (κ × V)} {vs : List (κ × Value)} (r : KV kvs vs) (k : κ) {y : V} {u : Value} (ry : RelV y u) : KV (putK kvs k y) (stored vs k u) := by
  unfold putK stored
  rw [r.any k]
  by_cases e : (vs.any fun kv => decide (kv.1 = k)) = true
  · rw [if_pos e, if_pos e]; exact r.repl k ry
  · rw [if_neg e, if_neg e]; exact Paired.snoc r ⟨rfl, ry⟩
theorem KV.drop {kvs : List (κ × V)} {vs : List (κ × Value)} (r : KV kvs vs) (k : κ) : KV (dropK kvs k) (without vs k) := by
  unfold KV at r ⊢
  unfold dropK without
  induction r with
  | nil => exact .nil
  | @cons p q ps qs h t ih =>
    obtain ⟨h1, h2⟩ := h
    rw [List.filter_cons, List.filter_cons]
    by_cases e : p.1 = k
    · have a : ¬ decide (p.1 ≠ k) = true := by simp [e]
      have b : ¬ decide (q.1 ≠ k) = true := by simp [h1.symm.trans e]
      rw [if_neg a, if_neg b]; exact ih
    · have e' : ¬ q.1 = k := fun z => e (h1.trans z)
      have a : decide (p.1 ≠ k) = true := by simp [e]
      have b : decide (q.1 ≠ k) = true := by simp [e']
      rw [if_pos a, if_pos b]; exact .cons ⟨h1, h2⟩ ih
theorem KV.length {kvs : List (κ × V)} {vs : List (κ × Value)} (r : KV kvs vs) : kvs.length = vs.length := Paired.length r
end
theorem kV_is {P : Program} {w : World} {k : Key} {u : Value} (r : RelV (kV k) u) : (mixKind P w).is k u = true := by
  cases k with
  | inl i => obtain ⟨t, e⟩ := (show ∃ t, u = Value.int i t from r); subst e; exact mixKind_int P w i t
  | inr x => obtain ⟨t, e⟩ := (show ∃ t, u = Value.str x t from r); subst e; exact mixKind_str P w x t
theorem items_are {P : Program} {w : World} : ∀ {ks : List Key} {us : List Value}, Vals (ks.map kV) us → ItemsAre (mixKind P w) ks us
  | [], _, r => by rw [List.map_nil] at r; cases r; exact .nil
  | k :: ks, _, r => by
    rw [List.map_cons] at r
    cases r with
    | cons h t => exact .cons (kV_is h) (items_are t)
abbrev KT (H : Hp) : List (List Key × V) → List (List Key × Addr × Value) → Prop := Paired fun p q => p.1 = q.1 ∧ H q.2.1 = some (.tup (p.1.map kV)) ∧ RelV p.2 q.2.2
theorem KT.val {H : Hp} {kvs : List (List Key × V)} {xs : List (List Key × Addr × Value)} (r : KT H kvs xs) (k : List Key) : RelO (valV kvs k) ((atKey xs k).map (·.2)) := by
  induction r with
  | nil => exact True.intro
  | @cons p q ps qs h t ih =>
    obtain ⟨h1, _, h2⟩ := h
    by_cases e : p.1 = k
    · have e' : q.1 = k := h1.symm.trans e
      have b : atKey (q :: qs) k = some q.2 := by simp [atKey, List.find?_cons, e']
      rw [valV_pos e, b]; exact h2
    · have e' : ¬ q.1 = k := fun z => e (h1.trans z)
      have b : atKey (q :: qs) k = atKey qs k := by simp [atKey, List.find?_cons, e']
      rw [valV_neg e, b]; exact ih
theorem KT.repl {H : Hp} {kvs : List (List Key × V)} {xs : List (List Key × Addr × Value)} (r : KT H kvs xs) (k : List Key) {y : V} {u : Value} (ry : RelV y u) :
    KT H (kvs.map fun kv => if kv.1 = k then (kv.1, y) else kv) (xs.map (putAt k u)) := by
  induction r with
  | nil => exact .nil
  | @cons p q ps qs h t ih =>
    rw [List.map_cons, List.map_cons]
    refine .cons ?_ ih
    obtain ⟨h1, h2, h3⟩ := h
    unfold putAt
    by_cases e : p.1 = k
    · rw [if_pos e, if_pos (h1.symm.trans e)]; exact ⟨h1, h2, ry⟩
    · rw [if_neg e, if_neg (fun z => e (h1.trans z))]; exact ⟨h1, h2, h3⟩
theorem KT.put {H : Hp} {kvs : List (List Key × V)} {xs : List (List Key × Addr × Value)} (r : KT H kvs xs) (k : List Key) {b : Addr} {y : V} {u : Value} (hb : H b = some (.tup (k.map kV))) (ry : RelV y u) :
    KT H (putK kvs k y) (storedH xs k b u) := by
  have e : (kvs.any fun kv => decide (kv.1 = k)) = (atKey xs k).isSome := by
    rw [valV_any, (r.val k).isSome_eq, Option.isSome_map]
  unfold putK storedH
  rw [e]
  by_cases q : (atKey xs k).isSome = true
  · rw [if_pos q, if_pos q]; exact r.repl k ry
  · rw [if_neg q, if_neg q]; exact Paired.snoc r ⟨rfl, hb, ry⟩
theorem KT.keeps {H H' : Hp} {kvs : List (List Key × V)} {xs : List (List Key × Addr × Value)} (r : KT H kvs xs) (ht : ∀ b ys, H b = some (.tup ys) → H' b = some (.tup ys)) : KT H' kvs xs :=
  Paired.mapP r fun _ _ z => ⟨z.1, ht _ _ z.2.1, z.2.2⟩
section
variable {P : Program} {w : World} {H : Hp} {h : Heap} {a : Addr}
theorem rd_of {u : HO} (ok : HOk P w H h) (e : Rd H a u) : ObjOk P w H h a u := e.ok ok
theorem dk_rd {kvs : List (Key × V)} (ok : HOk P w H h) (e : Rd H a (.dK kvs)) : kvs.length ≤ sizeLine ∧ (a == sysModules) = false ∧ ∃ vs, KV kvs vs ∧ h.DictOf (mixKind P w) a vs :=
  show ObjOk P w H h a (.dK kvs) from rd_of ok e
theorem dk_of {kvs : List (Key × V)} (ok : HOk P w H h) (e : H a = some (.dK kvs)) : kvs.length ≤ sizeLine ∧ (a == sysModules) = false ∧ ∃ vs, KV kvs vs ∧ h.DictOf (mixKind P w) a vs := dk_rd ok (.inl e)
theorem key_of {ks : List Key} (ok : HOk P w H h) (e : H a = some (.tup (ks.map kV))) : (tupleKind (mixKind P w)).is h ks a := by
  obtain ⟨_, its, r, o, h1, h2, n, h3⟩ := (show ObjOk P w H h a (.tup (ks.map kV)) from ok a _ e)
  exact ⟨o, its.toArray, n, h1, h2, h3, by simpa using items_are r⟩
theorem dt_rd {kvs : List (List Key × V)} (ok : HOk P w H h) (e : Rd H a (.dT kvs)) : kvs.length ≤ sizeLine ∧ (a == sysModules) = false ∧
    ∃ xs, KT H kvs xs ∧ h.DictOfH (tupleKind (mixKind P w)) a xs := by
  obtain ⟨z, y, xs, r, o, es, ep, h1, h2, h3, h4, h5⟩ := (show ObjOk P w H h a (.dT kvs) from rd_of ok e)
  refine ⟨z, y, xs, r, o, es, ep, h1, h2, h3, h4, fun x hx => ?_, h5⟩
  have all : ∀ {l : List (List Key × V)} {m : List (List Key × Addr × Value)}, KT H l m → ∀ x ∈ m, (tupleKind (mixKind P w)).is h x.1 x.2.1 := by
    intro l m q
    induction q with
    | nil => intro x hx; exact nomatch hx
    | @cons p q ps qs hq t ih =>
      intro x hx
      rcases List.mem_cons.mp hx with e | hx
      · subst e
        exact key_of ok (by rw [← hq.1]; exact hq.2.1)
      · exact ih x hx
  exact all r x hx
end
noncomputable def DGet (H : Hp) (a : Addr) (y : V) (r : Option V) : Prop :=
  (∃ kvs k, Rd H a (.dK kvs) ∧ y = kV k ∧ r = valV kvs k) ∨ ∃ kvs k b, Rd H a (.dT kvs) ∧ y = .ref b ∧ H b = some (.tup (k.map kV)) ∧ r = valV kvs k
noncomputable def DPut (H : Hp) (a : Addr) (y v : V) (H' : Hp) : Prop :=
  (∃ kvs k, H a = some (.dK kvs) ∧ y = kV k ∧ kvs.length < sizeLine ∧ H' = upd H a (.dK (putK kvs k v))) ∨
  ∃ kvs k b, H a = some (.dT kvs) ∧ y = .ref b ∧ H b = some (.tup (k.map kV)) ∧ kvs.length < sizeLine ∧ H' = upd H a (.dT (putK kvs k v))
theorem DGet.k {H : Hp} {a : Addr} {kvs : List (Key × V)} {k : Key} (e : H a = some (.dK kvs)) : DGet H a (kV k) (valV kvs k) := .inl ⟨kvs, k, .inl e, rfl, rfl⟩
theorem DGet.t {H : Hp} {a b : Addr} {kvs : List (List Key × V)} {k : List Key} (e : H a = some (.dT kvs)) (eb : H b = some (.tup (k.map kV))) : DGet H a (.ref b) (valV kvs k) := .inr ⟨kvs, k, b, .inl e, rfl, eb, rfl⟩
theorem DPut.k {H : Hp} {a : Addr} {kvs : List (Key × V)} {k : Key} {v : V} (e : H a = some (.dK kvs)) (hl : kvs.length < sizeLine) : DPut H a (kV k) v (upd H a (.dK (putK kvs k v))) := .inl ⟨kvs, k, e, rfl, hl, rfl⟩
theorem DPut.t {H : Hp} {a b : Addr} {kvs : List (List Key × V)} {k : List Key} {v : V} (e : H a = some (.dT kvs)) (eb : H b = some (.tup (k.map kV))) (hl : kvs.length < sizeLine) :
    DPut H a (.ref b) v (upd H a (.dT (putK kvs k v))) := .inr ⟨kvs, k, b, e, rfl, eb, hl, rfl⟩
section
variable {X : Cx} {pins : List (Addr × Obj)} {σ : St} {H : Hp} {s : Shared} {a : Addr} {y v : V} {u r : Value} {o : Option V} {A : Around} {E : Value → Shared → Prop}
theorem Inv.big (I : Inv X pins σ H s) : sysModules < s.heap.objs.size := by
  have h : mainGlobals < s.heap.objs.size := (I.mod.glob.keeps I.bk).lt
  exact Nat.lt_trans (by decide) h
theorem d_write {h' : Heap} {t' : Nat} {ob : HO} (I : Inv X pins σ H s) (mu : Mut (H a)) (hs : Heap.SameBut a s.heap h') (he : ∃ q, h'.get? a = some q) (new : ObjOk X.prog X.w (upd H a ob) h' a ob) :
    Inv X pins σ (upd H a ob) { s with heap := h', toks := t' } :=
  I.write (x := a) (e := a) mu (.inl rfl) (fun b q hb z => (hs.2 b hb).trans z) he new
theorem dk_new {P : Program} {w : World} {H' : Hp} {h' : Heap} {kvs : List (Key × V)} {vs : List (Key × Value)} (z : kvs.length ≤ sizeLine) (hd : (a == sysModules) = false) (rel : KV kvs vs) (dd : h'.DictOf (mixKind P w) a vs) :
    ObjOk P w H' h' a (.dK kvs) := ⟨z, hd, vs, rel, dd⟩
end
section
variable {X : Cx} {pins : List (Addr × Obj)} {σ : St} {H : Hp} {s : Shared} {a : Addr} {kvs : List (Key × V)} {k : Key} {u : Value} {A : Around} {E : Value → Shared → Prop}
theorem d_len {Q : Value → Shared → Prop} (I : Inv X pins σ H s) (e : Rd H a (.dK kvs)) (h : ∀ t s', Inv X pins σ H s' → Q (.int kvs.length t) s') : wpAny (model X.prog X.w) A (call (.builtin "len") [.ref a]) Q E s := by
  obtain ⟨z, hd, vs, rel, dd⟩ := dk_rd I.hok e
  refine call_len_dict hd dd (by rw [← rel.length]; rw [sizeLine_eq] at z; omega) ?_
  rw [← rel.length]
  exact h _ _ (I.tok _)
end
section
variable {X : Cx} {o i e value : Expr} {pos pos' tpos : Pos} {td ty tv : TE}
end
theorem dk_empty {P : Program} {w : World} {H : Hp} (h : Heap) (hb : sysModules < h.objs.size) : ObjOk P w H (h.push { cls := .type "dict", data := .dict #[] }) h.objs.size (.dK []) :=
  ⟨Nat.zero_le _, beq_eq_false_iff_ne.mpr (Ne.symm (Nat.ne_of_lt hb)), [], .nil, Heap.DictOf.new h⟩
noncomputable def tDNewK : TE := fun _ H Q => ∀ p, H p = none → Q (.ref p) (upd H p (.dK []))
section
variable {X : Cx} {pos : Pos}
theorem pe_dnewK : PE X (.Dict [] [] pos) tDNewK := fun pins s σ H Q I h =>
  wpAny_Dict_empty ⟨.ref s.heap.objs.size, _, I.laid (a := s.heap.objs.size) (o := .dK []) (t' := s.toks) (fun _ _ q => Heap.get?_push_of_some _ q) (Nat.le_refl _) (dk_empty s.heap I.big), rfl, h _ (I.hok.fresh (Nat.le_refl _))⟩
end
structure M1 (X : Cx) (o : Expr) (m : Str) (apos : Pos) (e : Expr) (cpos : Pos) : Prop where
  base : attributeBase o m X.env (eval o X.env) = eval o X.env
  few : ((backTo cpos (starEach [e] X.env)).all (fun x => !x.1) && (backToKw cpos (keywordEach [] X.env)).all (fun x => x.1.isSome)
    && decide (([e] : List Expr).length + ([] : List Keyword).length + (if ([] : List Keyword).isEmpty then 0 else 1) < 30)) = true
  line : (apos.endLine == cpos.line) = true
  trees : backTo cpos (starEach [e] X.env) = [(false, eval e X.env)]
structure M2 (X : Cx) (o : Expr) (m : Str) (apos : Pos) (e f : Expr) (cpos : Pos) : Prop where
  base : attributeBase o m X.env (eval o X.env) = eval o X.env
  few : ((backTo cpos (starEach [e, f] X.env)).all (fun x => !x.1) && (backToKw cpos (keywordEach [] X.env)).all (fun x => x.1.isSome)
    && decide (([e, f] : List Expr).length + ([] : List Keyword).length + (if ([] : List Keyword).isEmpty then 0 else 1) < 30)) = true
  line : (apos.endLine == cpos.line) = true
  trees : backTo cpos (starEach [e, f] X.env) = [(false, eval e X.env), (false, eval f X.env)]
noncomputable def IsD (H : Hp) (a : Addr) : Prop := (∃ kvs, Rd H a (.dK kvs)) ∨ ∃ kvs, Rd H a (.dT kvs)
theorem isD_at {X : Cx} {pins : List (Addr × Obj)} {σ : St} {H : Hp} {s : Shared} {a : Addr} (I : Inv X pins σ H s) (d : IsD H a) :
    s.TypeIs (.ref a) "dict" ∧ (∀ b, Value.ref a = .ref b → ∃ ob, s.heap.get? b = some ob ∧ ob.dict = none) ∧ (a == sysModules) = false := by
  rcases d with ⟨kvs, e⟩ | ⟨kvs, e⟩
  · obtain ⟨_, hd, vs, _, dd⟩ := dk_rd I.hok e
    refine ⟨dd.typeIs, fun b q => ?_, hd⟩
    cases q
    obtain ⟨ob, _, _, h1, h2, _⟩ := dd
    exact ⟨ob, h1, h2.2.1⟩
  · obtain ⟨_, hd, xs, _, dd⟩ := dt_rd I.hok e
    refine ⟨dd.typeIs, fun b q => ?_, hd⟩
    cases q
    obtain ⟨ob, _, _, h1, h2, _⟩ := dd
    exact ⟨ob, h1, h2.2.1⟩
section
variable {X : Cx} {pins : List (Addr × Obj)} {σ : St} {H : Hp} {s : Shared} {a : Addr} {y d : V} {u r : Value} {o : Option V} {A : Around} {E : Value → Shared → Prop}
theorem d_get2 {Q : Value → Shared → Prop} (hu : A.units + 1 < cLine) (I : Inv X pins σ H s) (g : DGet H a y o) (ry : RelV y u) (rd : RelV d r) (h : ∀ w' s', Inv X pins σ H s' → RelV (o.getD d) w' → Q w' s') :
    wpAny (model X.prog X.w) A (call (.builtin "dict.get") [.ref a, u, r]) Q E s := by
  rcases g with ⟨kvs, k, e, ey, l⟩ | ⟨kvs, k, b, e, ey, eb, l⟩
  · subst ey
    obtain ⟨z, hd, vs, rel, dd⟩ := dk_rd I.hok e
    refine call_meetsIn PySem.F.slot_dict_get dd.typeIs PySem.F.entry_dict_get (PySem.F.args_dict_get_3 _ _ _) (meets_dict_get_default (mixKind X.prog X.w) a (kV_is ry) hd r) ⟨_, dd.mapOf, h _ _ (I.tok _) ?_⟩
    rw [l]
    exact (rel.val k).getD rd
  · subst ey
    cases (show u = Value.ref b from ry)
    obtain ⟨z, hd, xs, rel, dd⟩ := dt_rd I.hok e
    refine call_meetsIn PySem.F.slot_dict_get dd.typeIs PySem.F.entry_dict_get (PySem.F.args_dict_get_3 _ _ _) (meetsH_dict_get_default (tupleKind (mixKind X.prog X.w)) a b hd r) ⟨tupleKind_room_in1 hu, k, xs, key_of I.hok eb, dd, h _ _ (I.tok _) ?_⟩
    rw [l]
    exact (rel.val k).getD rd
end
noncomputable def tDGet2 (td ty tx : TE) : TE := fun σ H Q => td σ H fun x H1 => ∃ a, x = .ref a ∧ IsD H1 a ∧ ty σ H1 fun y H2 => tx σ H2 fun z H3 => ∃ o, DGet H3 a y o ∧ Q (o.getD z) H3
section
variable {X : Cx} {o e f : Expr} {apos cpos : Pos} {td ty tx : TE}
theorem pe_dget2 (hu : X.A.units + 1 < cLine) (ho : PE X o td) (he : PE X e ty) (hf : PE X f tx) (m : M2 X o "get" apos e f cpos) : PE X (.Call (.Attribute o "get" apos) [e, f] [] cpos) (tDGet2 td ty tx) := by
  intro pins s σ H Q I h
  refine wpAny_Call_method m.base m.few m.line PySem.F.plainAttrs_dict PySem.F.slot_dict_get PySem.F.type_dict_get (thn (ho pins s σ H _ I h) fun u s1 ⟨x, H1, I1, rx, a, ex, d, q1⟩ => ?_)
  subst ex
  obtain rfl : u = Value.ref a := rx
  obtain ⟨t1, t2, _⟩ := isD_at I1 d
  refine ⟨t1, t2, ?_⟩
  rw [m.trees]
  refine Calls.callWith_builtin rfl (Calls.evalArgs_plain (Calls.spliced_cons (thn (he pins s1 σ H1 _ I1 q1) fun iv s2 ⟨y, H2, I2, ry, q2⟩ =>
    Calls.spliced_cons (thn (hf pins s2 σ H2 _ I2 q2) fun fv s3 ⟨z, H3, I3, rz, ov, g, q3⟩ => Calls.spliced_nil ?_))))
  exact d_get2 hu I3 g ry rz fun w' s4 I4 rw' => ⟨_, H3, I4, rw', q3⟩
end
section
variable {X : Cx} {pins : List (Addr × Obj)} {σ : St} {H : Hp} {s : Shared} {a : Addr} {kvs : List (Key × V)} {A : Around} {E : Value → Shared → Prop}
end
section
variable {X : Cx} {pins : List (Addr × Obj)} {σ : St} {H : Hp} {s : Shared} {a : Addr} {y : V} {u : Value} {A : Around} {E : Value → Shared → Prop}
end
end L2
namespace Att
open PySem PySem.W PySem.Calls PyProof.Rows
end Att
namespace L2
open PySem PySem.Spec PyProof.Rows
end L2
namespace L2
open PySem PySem.Spec PyProof.Rows
end L2
namespace L2
open PySem PySem.Spec PyProof.Rows
section
variable {X : Cx}
theorem call_lenD : CallR X (.builtin "len") (fun xs H Q => ∃ a kvs, xs = [V.ref a] ∧ H a = some (.dK kvs) ∧ Q (.int kvs.length) H) := by
  intro pins s σ H xs us Q I r h
  obtain ⟨a, kvs, rfl, ha, q⟩ := h
  obtain ⟨u, rfl, ru⟩ := vals1 r
  cases ru
  exact d_len I (.inl ha) fun t s' I' => ⟨.int kvs.length, H, I', ⟨t, rfl⟩, q⟩
end
section
variable {κ : Type} [DecidableEq κ]
end
end L2
namespace L2
open PySem PySem.Spec PyProof.Rows
section
variable {X : Cx}
theorem strsAre_of {ys : List Str} : ∀ {us : List Value}, Vals (ys.map V.str) us → StrsAre us ys := by
  induction ys with
  | nil => intro us r; rw [List.map_nil] at r; cases r; exact .nil
  | cons n ns ih =>
    intro us r
    rw [List.map_cons] at r
    cases r with
    | cons r1 r2 =>
      obtain ⟨t, e⟩ := r1
      subst e
      exact .cons n t (ih r2)
noncomputable def rJoin (K : PySem.W.Frag) : V → List V → Hp → VK → Prop := fun x vs H Q => ∃ a p ys, x = .str a ∧ vs = [.ref p] ∧ SqL K H p (ys.map V.str) ∧ (ys.map (·.length)).sum + ys.length * a.length ≤ 16777216 ∧ Q (.str (Txt.join a ys)) H
theorem mt_join : MtR X "str.join" (rJoin X.K) := by
  intro pins s σ H x xs v us Q I rx rs h
  obtain ⟨a, p, ys, rfl, rfl, hq, hz, q⟩ := h
  obtain ⟨t, rfl⟩ := rx
  obtain ⟨u, rfl, w1⟩ := vals1 rs
  cases w1
  obtain ⟨its, r, pl, _⟩ := I.list hq
  exact PyProof.Rows.join_list pl.isList (by simpa using strsAre_of r) hz fun t' k => ⟨.str (Txt.join a ys), H, I.tok _, ⟨_, rfl⟩, q⟩
end
end L2
namespace L2
open PySem PySem.Spec PyProof.Rows PySem.SeqAt
noncomputable def dV : V → PyData
  | .bl b => .bool b
  | .int i => .int i
  | .str x => .str x
  | _ => .none
noncomputable def okF : V → Bool
  | .non => true
  | .bl _ => true
  | .int _ => true
  | .str x => PyData.canLay0 (.str x)
  | _ => false
theorem reads_flat {h : Heap} {v : V} {u : Value} (r : RelV v u) (ok : okF v = true) : Reads h u (dV v) [] := by
  cases v with
  | non => cases r; exact .none
  | bl b => cases r; exact .bool b
  | int i => obtain ⟨t, rfl⟩ := r; exact .int i t
  | str x => obtain ⟨t, rfl⟩ := r; exact .str x t
  | _ => cases ok
theorem readsAll_flat {h : Heap} : ∀ {xs : List V} {us : List Value}, Vals xs us → (∀ v ∈ xs, okF v = true) → ReadsAll h us (xs.map dV) []
  | _, _, .nil, _ => .nil
  | _, _, .cons r1 r2, ok => .cons (reads_flat r1 (ok _ (List.mem_cons_self ..))) (readsAll_flat r2 fun v hv => ok v (List.mem_cons_of_mem _ hv))
theorem canLay_flat : ∀ {xs : List V}, (∀ v ∈ xs, okF v = true) → PyData.canLayAll0 (xs.map dV) = true
  | [], _ => by simp [PyData.canLayAll0]
  | v :: xs, ok => by
    have h1 : PyData.canLay0 (dV v) = true := by
      have := ok v (List.mem_cons_self ..)
      cases v <;> first | rfl | exact this | (simp [dV, PyData.canLay0]; done) | cases this
    simp [PyData.canLayAll0, h1, canLay_flat fun v hv => ok v (List.mem_cons_of_mem _ hv)]
theorem depth_flat : ∀ xs : List V, PyData.depthAll (xs.map dV) ≤ 1
  | [] => by simp [PyData.depthAll]
  | v :: xs => by
    have := depth_flat xs
    have h1 : PyData.depth (dV v) ≤ 1 := by cases v <;> simp [dV, PyData.depth]
    simp only [List.map_cons, PyData.depthAll]
    omega
section
variable {X : Cx}
end
end L2
namespace L2
open PySem PySem.Spec PyProof.Rows
abbrev blockCxC (X : Cx) (pins : List (Addr × Obj)) (N : List Str) (scope : Scope) (C : Addr) (sF : Shared) (HF : Hp) (fp : List Addr) (y : Str) : Cx where
  prog := X.prog
  w := X.w
  K := X.K
  mg := X.mg
  base := X.base
  A := X.A
  N := N
  s₀ := sF
  H₀ := HF
  env := compEnvC scope ((y, C + 1) :: clOf X.env scope.names []) C X.env
  outer := X.stack
  stack := X.stack
  ex := fp
  fn := fun x => x == y
  calm := X.calm
  pn := X.pn ++ pins
  xe := fun _ _ => False
structure BlockOkC (X : Cx) (scope : Scope) (own : List Str) (fr : List Str) (ix : List Nat) (y : Str) : Prop where
  kind : scope.kind = .function
  one : ∀ a cl, cellsFrom a scope.names cl = (y, a) :: cl
  lay : ∀ h, pushCells h scope.names = h.push { cls := .type "cell", data := .cell none }
  only : ∀ p ∈ scope.names, p.2 = .cell → p.1 = y
  isc : scope.names.lookup y = some .cell
  names : ∀ z ∈ scope.names, z.2 = .local → scope.names.lookup z.1 = some .local
  free : ∀ p ∈ scope.names, p.2 = .free → ∃ c, X.env.cells.lookup p.1 = some c
  frd : ∀ x ∈ fr, (x, NameKind.free) ∈ scope.names ∧ X.env.kindOf x = some .cell ∧ scope.names.lookup x = some .free
  len : fr.length = ix.length
  at_ : ∀ (j : Nat) x i, fr[j]? = some x → ix[j]? = some i → X.N[i]? = some x
structure BlockBC (X : Cx) (scope : Scope) (own : List Str) (fr : List Str) (ix : List Nat) (y : Str) : Prop where
  kind : scope.kind = .function
  one : ∀ a cl, cellsFrom a scope.names cl = (y, a) :: cl
  lay : ∀ h, pushCells h scope.names = h.push { cls := .type "cell", data := .cell none }
  only : (scope.names.all fun p => p.2 != .cell || p.1 == y) = true
  isc : scope.names.lookup y = some .cell
  names : (scope.names.all fun z => z.2 != .local || scope.names.lookup z.1 == some .local) = true
  free : (scope.names.all fun p => p.2 != .free || X.env.kindOf p.1 == some .cell) = true
  frd : (fr.all fun x => X.env.kindOf x == some .cell && scope.names.lookup x == some .free) = true
  at_ : (ix.map fun i => X.N[i]?) = fr.map some
theorem BlockBC.ok {X : Cx} {scope : Scope} {own fr : List Str} {ix : List Nat} {y : Str} (B : BlockBC X scope own fr ix y) (ok : X.Ok) : BlockOkC X scope own fr ix y where
  kind := B.kind
  one := B.one
  lay := B.lay
  only := fun p hp hc => by
    have := List.all_eq_true.mp B.only p hp
    rw [hc] at this
    simpa using this
  isc := B.isc
  names := fun z hz hl => by
    have := List.all_eq_true.mp B.names z hz
    rw [hl] at this
    simpa using this
  free := fun p hp hf => by
    have := List.all_eq_true.mp B.free p hp
    rw [hf] at this
    exact ok.has p.1 (.inl (by simpa using this))
  frd := fun x hx => by
    have := List.all_eq_true.mp B.frd x hx
    rw [Bool.and_eq_true] at this
    have h2 : scope.names.lookup x = some .free := by simpa using this.2
    exact ⟨mem_of_lookup h2, by simpa using this.1, h2⟩
  len := by
    have := congrArg List.length B.at_
    simpa using this.symm
  at_ := fun j x i hx hi => by
    have e := congrArg (fun l => l[j]?) B.at_
    simp only [List.getElem?_map, hx, hi, Option.map_some] at e
    exact Option.some.inj e
theorem relabel_hasC {env : Env} {y : Str} : ∀ {names : List (Str × NameKind)} {x : Str}, (∀ p ∈ names, p.2 = .cell → p.1 = y) →
    ((names.map fun (n, k) => if (k == NameKind.free && env.scope.kind == .function && env.kindOf n == some .cell) then (n, NameKind.cell) else (n, k)).lookup x = some .cell ∨
     (names.map fun (n, k) => if (k == NameKind.free && env.scope.kind == .function && env.kindOf n == some .cell) then (n, NameKind.cell) else (n, k)).lookup x = some .free) → x = y ∨ (x, NameKind.free) ∈ names
  | [], _, _, h => by simp at h
  | (n, k) :: r, x, hn, h => by
    have ih := @relabel_hasC env y r x (fun p hp => hn p (List.mem_cons_of_mem _ hp))
    have h' : List.lookup x ((if (k == NameKind.free && env.scope.kind == .function && env.kindOf n == some .cell) = true then (n, NameKind.cell) else (n, k)) :: r.map fun (n, k) => if (k == NameKind.free && env.scope.kind == .function && env.kindOf n == some .cell) then (n, NameKind.cell) else (n, k)) = some .cell ∨
      List.lookup x ((if (k == NameKind.free && env.scope.kind == .function && env.kindOf n == some .cell) = true then (n, NameKind.cell) else (n, k)) :: r.map fun (n, k) => if (k == NameKind.free && env.scope.kind == .function && env.kindOf n == some .cell) then (n, NameKind.cell) else (n, k)) = some .free := h
    have more : x = y ∨ (x, NameKind.free) ∈ r → x = y ∨ (x, NameKind.free) ∈ (n, k) :: r := fun z => z.imp id (List.mem_cons_of_mem _)
    cases hxn : x == n with
    | false =>
      by_cases hc : (k == NameKind.free && env.scope.kind == .function && env.kindOf n == some .cell) = true
      · rw [if_pos hc] at h'
        simp only [List.lookup_cons, hxn] at h'
        exact more (ih h')
      · rw [if_neg hc] at h'
        simp only [List.lookup_cons, hxn] at h'
        exact more (ih h')
    | true =>
      have e := beq_iff_eq.mp hxn
      subst e
      by_cases hk : k = .free
      · subst hk
        exact .inr List.mem_cons_self
      · have hb : (k == NameKind.free) = false := by simpa using hk
        rw [hb] at h'
        simp only [Bool.false_and, Bool.false_eq_true, if_false, List.lookup_cons, hxn] at h'
        rcases h' with z | z
        · exact .inl (hn (x, k) List.mem_cons_self (Option.some.inj z))
        · exact absurd (Option.some.inj z) hk
section
variable {M : Model} {A : Around} {E : Value → Shared → Prop} {s : Shared}
theorem newEnv_cell {X : Cx} {scope : Scope} {own fr : List Str} {ix : List Nat} {y : Str} {globals : Addr} {closure : List (Str × Addr)} {qual : Str} {outer : Env} {Q : Env → Shared → Prop} (B : BlockOkC X scope own fr ix y)
    (h : Q (newEnv scope s.heap.objs.size globals ((y, s.heap.objs.size + 1) :: closure) qual none .none (some outer) builtinsNs) { s with heap := (s.heap.push { cls := .type "dict", data := .dict #[] }).push { cls := .type "cell", data := .cell none } }) :
    wpAny M A (newFunctionEnv scope globals closure [] qual none .none (some outer)) Q E s := by
  simp only [newFunctionEnv, Option.isSome_some, if_true]
  refine wpAny_bind (wpAny_alloc (wpAny_bind (wpAny_layCells _ ?hf _ _ _ _ ?fin)))
  case hf =>
    intro n k c
    cases e : k == NameKind.cell <;> simp [e]
  case fin =>
    rw [B.one, B.lay, List.forIn_nil]
    refine wpAny_bind (wpAny_pure (wpAny_pure ?_))
    have e : ({ s with heap := s.heap.push { cls := .type "dict", data := .dict #[] } } : Shared).heap.objs.size = s.heap.objs.size + 1 := Heap.size_push ..
    rw [e]
    exact h
end
section
variable {X : Cx} {pins : List (Addr × Obj)} {σ : St} {H : Hp} {s : Shared}
theorem block_startC {scope : Scope} {own fr : List Str} {ix : List Nat} {y : Str} {C : Addr} {h₁ : Heap} {tk : Nat} {fp : List Addr} {m : Str → Option Value} (I : Inv X pins σ H s) (B : BlockOkC X scope own fr ix y) (hC : C = s.heap.objs.size)
    (hf : ∀ b ∈ fp, FpOk X pins H b) (hb : ∀ b ∈ fp, ∃ o, s.heap.get? b = some o) (old : ∀ b o, s.heap.get? b = some o → h₁.get? b = some o) (hns : h₁.Ns C m) (hcl : h₁.IsCell (C + 1) none) :
    Inv (blockCxC X pins (own ++ fr) scope C s H fp y) [] (blockSt own.length ix σ) H { s with heap := h₁, toks := tk } := by
  have look : ∀ x c, (clOf X.env scope.names []).lookup x = some c → X.env.cells.lookup x = some c := clOf_look B.free (fun _ _ z => by cases z)
  have lt : ∀ b o, s.heap.get? b = some o → b < C := fun b o e => by rw [hC]; exact Heap.lt_size e
  have lookC : ∀ x c, ((y, C + 1) :: clOf X.env scope.names []).lookup x = some c → (x = y ∧ c = C + 1) ∨ (x ≠ y ∧ X.env.cells.lookup x = some c) := fun x c e => by
    rw [List.lookup_cons] at e
    cases hx : x == y with
    | true =>
      rw [hx] at e
      exact .inl ⟨beq_iff_eq.mp hx, (Option.some.inj e).symm⟩
    | false =>
      rw [hx] at e
      exact .inr ⟨beq_eq_false_iff_ne.mp hx, look x c e⟩
  have ltc : ∀ x c, X.env.cells.lookup x = some c → c < C := fun x c e => by
    obtain ⟨v, o, ho, _⟩ := I.cell x c e
    exact lt c o ho
  have ok : (blockCxC X pins (own ++ fr) scope C s H fp y).Ok := {
    mod := I.ok.mod
    kind := B.kind
    glob := I.ok.glob
    blt := I.ok.blt
    above := by show s.heap.objs.size ≤ C; rw [hC]; exact Nat.le_refl _
    inj := fun x z c a b => by
      rcases lookC x c a with ⟨a1, a2⟩ | ⟨a1, a2⟩
      · rcases lookC z c b with ⟨b1, b2⟩ | ⟨b1, b2⟩
        · rw [a1, b1]
        · exact absurd (show C + 1 < C by rw [← a2]; exact ltc z c b2) (Nat.not_lt.mpr (Nat.le_succ C))
      · rcases lookC z c b with ⟨b1, b2⟩ | ⟨b1, b2⟩
        · exact absurd (show C + 1 < C by rw [← b2]; exact ltc x c a2) (Nat.not_lt.mpr (Nat.le_succ C))
        · exact I.ok.inj x z c a2 b2
    has := fun x hx => by
      show ∃ c, ((y, C + 1) :: clOf X.env scope.names []).lookup x = some c
      rw [List.lookup_cons]
      cases hxy : x == y with
      | true => exact ⟨_, rfl⟩
      | false =>
        rcases relabel_hasC B.only hx with z | z
        · exact absurd z (beq_eq_false_iff_ne.mp hxy)
        · exact clOf_has (.inl z)
    cab := fun x c z e => by
      rcases lookC x c e with ⟨_, a2⟩ | ⟨a1, _⟩
      · show s.heap.objs.size ≤ c
        rw [a2, hC]
        exact Nat.le_succ _
      · exact absurd (beq_iff_eq.mp z) a1
    hd := I.ok.hd
    frames := I.ok.frames
    stk := .inl rfl
    exf := fun b hbf => by
      obtain ⟨o, e⟩ := hb b hbf
      have bl := lt b o e
      refine ⟨Nat.ne_of_lt bl, fun x c ec => ?_⟩
      rcases lookC x c ec with ⟨_, a2⟩ | ⟨_, a2⟩
      · rw [a2]
        exact Nat.ne_of_gt (Nat.lt_succ_of_lt bl)
      · exact (hf b hbf).2.2.2.2.1 x c a2
    bs := I.bs
    bsz := Nat.le_trans I.ok.bsz I.sz
    noex := fun b o e hbf => by
      rcases (hf b hbf).2.2.2.1 with z | z
      · exact I.ok.noex b o e z
      · exact absurd (Nat.lt_of_lt_of_le (Heap.lt_size e) (Nat.le_trans I.ok.bsz z)) (Nat.lt_irrefl _)
    exfs := fun b hbf hs => by
      rcases List.mem_cons.mp (I.stkSub b hs) with z | z
      · exact (hf b hbf).2.1 z
      · exact (hf b hbf).2.2.1 z
    funs := I.stack
    frf := I.stkFree }
  refine ⟨ok, rfl, I.bare, Un.kept old, ⟨m, hns, fun i x v e1 e2 e3 => ?_⟩, fun x c e => ?_, ?_, fun x c e => ?_, fun p hp => ?_, I.hok.kept old, ?_⟩
  · have e1 : (own ++ fr)[i]? = some x := e1
    have e2 : (List.replicate own.length none ++ ix.map fun i => (σ[i]?).getD none)[i]? = some (some v) := e2
    by_cases hi : i < own.length
    · rw [List.getElem?_append_left (by rw [List.length_replicate]; exact hi), List.getElem?_replicate, if_pos hi] at e2
      cases e2
    · rw [List.getElem?_append_right (by omega)] at e1
      rw [List.getElem?_append_right (by rw [List.length_replicate]; omega), List.length_replicate, List.getElem?_map] at e2
      obtain ⟨i', hi', e4⟩ := Option.map_eq_some_iff.mp e2
      have e5 : σ[i']? = some (some v) := by
        cases z : σ[i']? with
        | none => rw [z] at e4; cases e4
        | some y => rw [z] at e4; exact congrArg some e4
      have hm : x ∈ fr := List.mem_of_getElem? e1
      obtain ⟨f1, f2, f3⟩ := B.frd x hm
      have hxy : (x == y) = false := beq_eq_false_iff_ne.mpr fun z => by rw [z, B.isc] at f3; cases f3
      obtain ⟨mX, _, hl⟩ := I.loc
      obtain ⟨u, r, l⟩ := hl i' x v (B.at_ _ x i' e1 hi') e5 (.inr (.inl f2))
      rcases l with ⟨l, _⟩ | ⟨_, c, ec, z⟩
      · rw [f2] at l; cases l
      · obtain ⟨c', ec'⟩ := clOf_has (env := X.env) (names := scope.names) (acc := []) (x := x) (.inl f1)
        have := look x c' ec'
        rw [ec] at this
        cases this
        obtain ⟨o, ho, hd⟩ := z
        exact ⟨u, r, .inr ⟨.inl (relabel_free I.ok.kind f3 f2), c, by show ((y, C + 1) :: clOf X.env scope.names []).lookup x = some c; rw [List.lookup_cons, hxy]; exact ec', o, old _ _ ho, hd⟩⟩
  · rcases lookC x c e with ⟨_, a2⟩ | ⟨_, a2⟩
    · rw [a2]; exact ⟨none, hcl⟩
    · obtain ⟨v, o, ho, hd⟩ := I.cell x c a2
      exact ⟨v, o, old _ _ ho, hd⟩
  · show H C = none
    rw [hC]; exact I.hok.fresh (Nat.le_refl _)
  · rcases lookC x c e with ⟨_, a2⟩ | ⟨_, a2⟩
    · rw [a2, hC]; exact I.hok.fresh (Nat.le_succ _)
    · exact I.freeC x c a2
  · have hp' : p ∈ X.pn ++ pins := by simpa using hp
    obtain ⟨e, n, ne, nf, d⟩ := I.pin p hp'
    refine ⟨old _ _ e, n, Nat.ne_of_lt (lt _ _ e), fun z => ?_, d⟩
    rcases List.mem_cons.mp (I.stkSub _ z) with q | q
    · exact ne q
    · exact nf q
  · show (List.replicate own.length none ++ ix.map fun i => (σ[i]?).getD none).length = (own ++ fr).length
    rw [List.length_append, List.length_append, List.length_replicate, List.length_map, B.len]
theorem block_endC {N : List Str} {y : Str} {scope : Scope} {C : Addr} {fp : List Addr} {σ' : St} {H' : Hp} {s' : Shared} {h'' : Heap} {pl : List (Addr × Obj)} (I : Inv X pins σ H s) (hf : ∀ b ∈ fp, FpOk X pins H b) (hC : C = s.heap.objs.size)
    (J : Inv (blockCxC X pins N scope C s H fp y) pl σ' H' s') (hs : Heap.SameBut C s'.heap h'') : Inv X pins σ H' { s' with heap := h'' } := by
  have u := J.base
  have k : ∀ b o, b ≠ C → s'.heap.get? b = some o → h''.get? b = some o := fun b o hb e => hs.extBut b o hb e
  have hn : H' C = none := J.free
  have lt : ∀ b o, s.heap.get? b = some o → b ≠ C := fun b o e => by rw [hC]; exact Nat.ne_of_lt (Heap.lt_size e)
  refine I.call' (s' := { s' with heap := h'' }) (ch := fp) J.os ?_ ?_ J.bare fun b hb => ⟨(hf b hb).2.2.2.1, (hf b hb).2.1, (hf b hb).2.2.2.2.1, (hf b hb).2.2.2.2.2⟩
  · exact ⟨fun b o q n hb he => k b o (lt b o q) (u.keep b o q n hb he), fun b o q n hb he => by
        obtain ⟨sl, e⟩ := u.slot b o q n hb he
        exact ⟨sl, k b _ (lt b o q) e⟩, u.free, fun b o q he => by
        obtain ⟨o', e⟩ := u.there b o q he
        exact ⟨o', k b _ (lt b o q) e⟩, u.tups, u.frzs, u.tbls⟩
  · intro b o e
    have nit : ∀ b u, H' b = some u → b ≠ C := fun b u e z => by rw [z, hn] at e; cases e
    refine (J.hok b o e).stay (fun c v hc q => k c v ?_ q) (fun _ q => q) fun _ _ q => q
    rcases hc with z | z
    · rw [z]; exact nit b o e
    · exact nit c _ z
theorem comp_blockC {tg iter elt : Expr} {ifs : List Expr} {scope : Scope} {own fr : List Str} {y : Str} {ix : List Nat} {g : TG} {tt : TT} {te : TE} {pos : Pos} {Q : VK} {sF : Shared} {HF : Hp} {C acc it : Addr} {h₁ : Heap} {fp : List Addr} {tn : Nat → Heap → Prop} {J : It} {W : Nat → Nat → List V → Hp → Prop} {m : Str → Option Value} {m0 : Nat} {RR : Result → Shared → Prop}
    (hc : X.calm = true) (B : BlockOkC X scope own fr ix y)
    (hg : ∀ pins C sF HF fp, PG (blockCxC X pins (own ++ fr) scope C sF HF fp y) tg g) (ht : ∀ pins C sF HF fp, PTs (blockCxC X pins (own ++ fr) scope C sF HF fp y) ifs tt) (he : ∀ pins C sF HF fp, PE (blockCxC X pins (own ++ fr) scope C sF HF fp y) elt te)
    (I3 : Inv X pins σ HF sF) (T : Turn X.prog X.w X.K tg J fp it tn) (st3 : tn 0 sF.heap) (f3 : ∀ b ∈ fp, FpOk X pins HF b) (f3' : ∀ b ∈ fp, ∃ o, sF.heap.get? b = some o) (hC : sF.heap.objs.size = C) (old : ∀ b o, sF.heap.get? b = some o → h₁.get? b = some o) (hns₁ : h₁.Ns C m) (hcl₁ : h₁.IsCell (C + 1) none)
    (w0 : W 0 m0 [] HF) (turn : ∀ i m ys H2, W i m ys H2 → H2 acc = some (.lst ys) ∧ ((J.stop i H2 ∧ Q (.ref acc) H2) ∨ (J.go i H2 ∧ ys.length < sizeLine ∧ ∀ x H3, J.yld i H2 x H3 → g x (blockSt own.length ix σ) H3 fun σ4 H4 => σ4.drop own.length = ix.map (fun i => (σ[i]?).getD none) ∧ tt σ4 H4 fun ok H5 =>
      if ok = true then te σ4 H5 fun z H6 => H6 acc = some (.lst ys) ∧ ∃ m', m' < m ∧ W (i + 1) m' (ys ++ [z]) (upd H6 acc (.lst (ys ++ [z])))
      else ∃ m', m' < m ∧ W (i + 1) m' ys H5)))
    (fin : ∀ s6 H5, Inv (blockCxC X pins (own ++ fr) scope C sF HF fp y) [] (blockSt own.length ix σ) H5 s6 → Q (.ref acc) H5 → RR (.ok .next) s6) :
    codeAny (model X.prog X.w) X.A (.compStart (.ListComp elt [⟨tg, iter, ifs, 0⟩] scope pos) 0 (.ref it) (.ref acc) (compEnvC scope ((y, C + 1) :: clOf X.env scope.names []) C X.env)) RR
      { sF with heap := h₁, toks := sF.toks } := by
  have J0 : Inv (blockCxC X pins (own ++ fr) scope C sF HF fp y) [] (blockSt own.length ix σ) HF { sF with heap := h₁, toks := sF.toks } := block_startC I3 B hC.symm f3 f3' old hns₁ hcl₁
  have st4 : tn 0 h₁ := T.keep _ _ _ st3 fun b _ o e => old b o e
  have fY : ∀ {pl : List (Addr × Obj)} {H' : Hp}, (∀ b ∈ fp, H' b = none) → (∀ p ∈ pl, p.1 ∉ fp) → ∀ b ∈ fp, FpOk (blockCxC X pins (own ++ fr) scope C sF HF fp y) pl H' b := fun {pl H'} hn hp b hb => by
    refine ⟨hn b hb, (J0.ok.exf b hb).1, J0.ok.exfs b hb, .inl hb, (J0.ok.exf b hb).2, fun p hpm => ?_⟩
    rcases List.mem_append.mp hpm with z | z
    · exact (f3 b hb).2.2.2.2.2 p z
    · exact fun e => hp p z (by rw [e]; exact hb)
  have weak : ∀ {pl : List (Addr × Obj)} {σ4 : St} {H4 : Hp} {s4 : Shared}, Inv (blockCxC X pins (own ++ fr) scope C sF HF fp y) pl σ4 H4 s4 → σ4.drop own.length = ix.map (fun i => (σ[i]?).getD none) → Inv (blockCxC X pins (own ++ fr) scope C sF HF fp y) pl (blockSt own.length ix σ) H4 s4 := fun {pl σ4 H4 s4} J e => by
    refine J.weak ?_ fun i v hv => ?_
    · have := J.len
      have := J0.len
      omega
    · have hv' : (List.replicate own.length none ++ ix.map fun i => (σ[i]?).getD none)[i]? = some (some v) := hv
      by_cases hi : i < own.length
      · rw [List.getElem?_append_left (by rw [List.length_replicate]; exact hi), List.getElem?_replicate, if_pos hi] at hv'
        cases hv'
      · rw [List.getElem?_append_right (by rw [List.length_replicate]; omega), List.length_replicate, ← e, List.getElem?_drop] at hv'
        rw [show own.length + (i - own.length) = i by omega] at hv'
        exact hv'
  have loop : ∀ s4 : Shared, s4 = { sF with heap := h₁, toks := sF.toks } →
      codeAny (model X.prog X.w) X.A (.compLoop (.ListComp elt [⟨tg, iter, ifs, 0⟩] scope pos) 0 (.ref it) (.ref acc) (compEnvC scope ((y, C + 1) :: clOf X.env scope.names []) C X.env)) RR s4 := by
    rintro s4 rfl
    refine codeAny_compLoop_gen (fun n s' => ∃ i ys H', Inv (blockCxC X pins (own ++ fr) scope C sF HF fp y) [] (blockSt own.length ix σ) H' s' ∧ tn i s'.heap ∧ (∀ b ∈ fp, H' b = none) ∧ W i n ys H') ?_ m0 ⟨0, [], HF, J0, st4, fun b hb => (f3 b hb).1, w0⟩
    rintro n s5 ⟨i, ys, H5, J5, st5, fr5, w5⟩
    obtain ⟨ha, hturn⟩ := turn i n ys H5 w5
    rcases hturn with ⟨stop, qn⟩ | ⟨go, hsz, step⟩
    · refine thn (T.done (blockCxC X pins (own ++ fr) scope C sF HF fp y) rfl rfl rfl hc i [] s5 _ H5 (fun _ _ => False) J5 (fY fr5 (fun _ z => by cases z)) st5 stop) fun r s6 ⟨hr, J6⟩ => ?_
      subst hr
      exact fin s6 H5 J6 qn
    · refine thn (T.item (blockCxC X pins (own ++ fr) scope C sF HF fp y) rfl rfl rfl hc i [] s5 _ H5 (fun _ _ => False) J5 (fY fr5 (fun _ z => by cases z)) st5 go) fun r s6 ⟨u, hr, h6⟩ => ?_
      subst hr
      refine thn h6 fun _ s7 ⟨x, H7, J7, r7, y7, st7, fr7⟩ => ?_
      have J7' := J7.pinned (fY fr7 (fun _ z => by cases z)) (T.obj _ _ st7)
      refine thn (hg pins C sF HF fp _ s7 _ H7 x u _ J7' r7 (step x H7 y7)) fun _ s8 ⟨σ8, H8, J8, k8, q8⟩ => ?_
      have back : ∀ {s9 : Shared} {H9 : Hp}, Inv (blockCxC X pins (own ++ fr) scope C sF HF fp y) ([] ++ pinsAt fp s7.heap) σ8 H9 s9 → Inv (blockCxC X pins (own ++ fr) scope C sF HF fp y) [] (blockSt own.length ix σ) H9 s9 ∧ tn (i + 1) s9.heap ∧ ∀ b ∈ fp, H9 b = none := fun {s9 H9} J9 => by
        refine ⟨weak J9.unpinned k8, T.keep _ _ _ st7 fun b hb o e => (J9.pin (b, o) (List.mem_append_right _ (List.mem_append_right _ (mem_pinsAt hb e)))).1, fun b hb => ?_⟩
        obtain ⟨o, e, d⟩ := T.obj _ _ st7 b hb
        exact (J9.pin (b, o) (List.mem_append_right _ (List.mem_append_right _ (mem_pinsAt hb e)))).2.1
      refine thn (ht pins C sF HF fp _ s8 σ8 H8 _ J8 q8) fun ok s9 ⟨H9, J9, q9⟩ => ?_
      cases ok with
      | false =>
        obtain ⟨m', hm, w9⟩ := q9
        obtain ⟨b1, b2, b3⟩ := back J9
        exact ⟨m', hm, i + 1, ys, H9, b1, b2, b3, w9⟩
      | true =>
        refine thn (he pins C sF HF fp _ s9 σ8 H9 _ J9 q9) fun v s10 ⟨zz, H10, J10, r10, a10, m', hm, w10⟩ => ?_
        refine thn (mt_append _ s10 σ8 H10 (.ref acc) [zz] (.ref acc) [v] (fun _ H' => H' = upd H10 acc (.lst (ys ++ [zz]))) J10 rfl (.cons r10 .nil) ⟨acc, ys, zz, rfl, rfl, a10, hsz, rfl⟩) fun _ s11 ⟨_, H11, J11, _, e11⟩ => ?_
        subst e11
        obtain ⟨b1, b2, b3⟩ := back J11
        exact ⟨m', hm, i + 1, ys ++ [zz], _, b1, b2, b3, w10⟩
  exact codeAny_compStart_list (loop _ rfl) (T.self _ 0 _ _ _ st4 (loop _ rfl))
theorem ps_setCC {tg iter elt : Expr} {ifs : List Expr} {scope : Scope} {own fr : List Str} {z : Str} {ix : List Nat} {wi : TI} {g : TG} {tt : TT} {te : TE} {pos spos py : Pos} {k : Nat} {y : Str} (hc : X.calm = true) (hN : X.N.Nodup) (hk : X.N[k]? = some y) (hy : X.env.scope.names.lookup y = some .local) (BB : BlockBC X scope own fr ix z) (hi : PI X tg iter wi)
    (hg : ∀ pins C sF HF fp, PG (blockCxC X pins (own ++ fr) scope C sF HF fp z) tg g) (ht : ∀ pins C sF HF fp, PTs (blockCxC X pins (own ++ fr) scope C sF HF fp z) ifs tt) (he : ∀ pins C sF HF fp, PE (blockCxC X pins (own ++ fr) scope C sF HF fp z) elt te)
    (hsw : swapsWith (.ListComp elt [⟨tg, iter, ifs, 0⟩] scope pos) (some (.Name y py)) spos.line X.env = pure true := by rfl)
    (hs : ∀ x, foldedSetIterable iter X.env x = pure x := by intro _; rfl) : PS X (.Assign [.Name y py] (.ListComp elt [⟨tg, iter, ifs, 0⟩] scope pos) spos) (tAsg (tComp wi own.length ix g tt te) (gName k)) := by
  intro pins s σ H D I h
  have B := BB.ok I.ok
  rw [exec_Assign_Name_used _ _ _ _ hsw]
  refine wpAny_bind (wpAny_standAt (wpAny_bind ?_))
  show wpAny _ X.A (do let _ ← comprehension (.ListComp elt [⟨tg, iter, ifs, 0⟩] scope pos) scope X.env _ (newList []) false (eval iter X.env) (some (assign (.Name y py) X.env))) _ _ s
  refine wpAny_bind (wpAny_mono (wpAny_comprehension_free (use := some (assign (.Name y py) X.env)) (Q := fun _ s' => SP X pins D .next s') rfl hs (closure_eq B.free) B.kind B.names
    (thn (hi pins s σ H _ I h) fun xv s1 h1 => thn h1 fun itv s2 h2 => ?_)) (fun _ s' hq => wpAny_pure (wpAny_pure hq)) fun _ _ e => e)
  obtain ⟨it, fp, tn, J, H2, rfl, I2, T, st2, f2, R⟩ := h2
  refine wpAny_newObj_type (newEnv_cell B ?_)
  have I3 := I2.lnew (t' := s2.toks) (its := []) (ys := []) .nil (Nat.zero_le _)
  obtain ⟨W, ⟨m0, w0⟩, turn⟩ := R _ I2.fresh
  have fF : ∀ b ∈ fp, ∃ o, s2.heap.get? b = some o := fun b hb => let ⟨o, e, _⟩ := T.obj _ _ st2 b hb; ⟨o, e⟩
  have nacc : ∀ b ∈ fp, b ≠ s2.heap.objs.size := fun b hb => let ⟨o, e⟩ := fF b hb; Nat.ne_of_lt (Heap.lt_size e)
  have push : ∀ b o, s2.heap.get? b = some o → (s2.heap.push { cls := .type "list", data := .seq ([] : List Value).toArray }).get? b = some o := fun b o e => Heap.get?_push_of_some _ e
  have f3 : ∀ b ∈ fp, FpOk X pins (upd H2 s2.heap.objs.size (.lst [])) b := fun b hb => ⟨by rw [upd_ne (nacc b hb)]; exact (f2 b hb).1, (f2 b hb).2⟩
  have hcl : (((s2.heap.push { cls := .type "list", data := .seq ([] : List Value).toArray }).push { cls := .type "dict", data := .dict #[] }).push { cls := .type "cell", data := .cell none }).get? ((s2.heap.push { cls := .type "list", data := .seq ([] : List Value).toArray }).objs.size + 1) = some { cls := .type "cell", data := .cell none } := by
    have e2 := Heap.size_push (s2.heap.push { cls := .type "list", data := .seq ([] : List Value).toArray }) { cls := .type "dict", data := .dict #[] }
    have e3 := Heap.get?_push_size ((s2.heap.push { cls := .type "list", data := .seq ([] : List Value).toArray }).push { cls := .type "dict", data := .dict #[] }) (o := { cls := .type "cell", data := .cell none }) rfl
    rw [e2] at e3
    exact e3
  refine comp_blockC (m := fun _ => none) (Q := fun x H1 => gName k x σ H1 D.nx) hc B hg ht he I3 T (T.keep _ _ _ st2 fun b _ o e => push b o e) f3 (fun b hb => let ⟨o, e⟩ := fF b hb; ⟨o, push b o e⟩) rfl
    (fun b o e => Heap.get?_push_of_some _ (Heap.get?_push_of_some _ e)) ((Heap.Ns.new _ _).keeps fun b o e => Heap.get?_push_of_some _ e) ⟨_, hcl, rfl⟩ w0 turn fun s6 H5 J6 qn => ?_
  have I6 : Inv X pins σ H5 { s6 with heap := s6.heap } := block_endC I3 f3 rfl J6 (Heap.SameBut.refl ..)
  have I6 : Inv X pins σ H5 s6 := I6
  obtain ⟨m6, ⟨o6, es6, ep6, ho6, rest6⟩, _⟩ := id J6.loc
  have sz : ∀ b o, (s2.heap.push { cls := .type "list", data := .seq ([] : List Value).toArray }).get? b = some o → b ≠ (s2.heap.push { cls := .type "list", data := .seq ([] : List Value).toArray }).objs.size := fun b o e => Nat.ne_of_lt (Heap.lt_size e)
  have hge : X.s₀.heap.objs.size ≤ (s2.heap.push { cls := .type "list", data := .seq ([] : List Value).toArray }).objs.size := I3.sz
  have hloc : (s2.heap.push { cls := .type "list", data := .seq ([] : List Value).toArray }).objs.size ≠ X.env.locals := fun z => by
    have := I3.lt
    rw [← z] at this
    exact Nat.lt_irrefl _ this
  have hfs : (s2.heap.push { cls := .type "list", data := .seq ([] : List Value).toArray }).objs.size ∉ X.fs := I3.nofs (Nat.le_refl _)
  have hcell : ∀ x c, X.env.cells.lookup x = some c → c ≠ (s2.heap.push { cls := .type "list", data := .seq ([] : List Value).toArray }).objs.size := fun x c e => by
    obtain ⟨v, ob, hob, _⟩ := I3.cell x c e
    exact sz _ _ hob
  have hpin : ∀ p ∈ X.pn ++ pins, p.1 ≠ (s2.heap.push { cls := .type "list", data := .seq ([] : List Value).toArray }).objs.size := fun p hp => sz _ _ (I3.pin p hp).1
  have I7 : Inv X (pins ++ [((s2.heap.push { cls := .type "list", data := .seq ([] : List Value).toArray }).objs.size, o6)]) σ H5 s6 := I6.pins_of fun p hp => by
    rcases List.mem_append.mp hp with z | z
    · exact I6.pin p (List.mem_append_right _ z)
    · rw [List.mem_singleton.mp z]
      refine ⟨ho6, J6.free, hloc, hfs, fun v z => ?_⟩
      rw [rest6.1] at z
      cases z
  refine wpAny_assign_Name (store_ok (v := .ref s2.heap.objs.size) I7 hN hk (.inl hy) rfl (fun s8 I8 => ?_) (.inr hy))
  have h8 := (I8.pin ((s2.heap.push { cls := .type "list", data := .seq ([] : List Value).toArray }).objs.size, o6) (List.mem_append_right _ (List.mem_append_right _ (List.mem_singleton.mpr rfl)))).1
  refine ⟨m6, ⟨o6, es6, ep6, h8, rest6⟩, fun h' hs' => ⟨_, H5, (I8.unpinned).turned (t' := s8.toks) (fun b o hb e => hs'.extBut b o hb e) J6.free hloc (.inr hge) hcell hpin, qn⟩⟩
end
end L2
namespace L2
open PySem PySem.Spec PyProof.Rows PySem.SeqAt
noncomputable def dNL : Option (List Int) → PyData
  | none => .none
  | some ns => dI ns
theorem canLay_dNL : ∀ os : List (Option (List Int)), PyData.canLayAll0 (os.map dNL) = true
  | [] => by simp [PyData.canLayAll0]
  | none :: r => by simp [PyData.canLayAll0, PyData.canLay0, dNL, canLay_dNL r]
  | some n :: r => by simp [PyData.canLayAll0, PyData.canLay0, dNL, PySem.W.canLayAll0_ints, canLay_dNL r]
theorem depthAll_dNL : ∀ os : List (Option (List Int)), PyData.depthAll (os.map dNL) ≤ 2
  | [] => by simp [PyData.depthAll]
  | none :: r => by
    have := depthAll_dNL r
    simp only [List.map_cons, PyData.depthAll, dNL, PyData.depth]
    omega
  | some n :: r => by
    have h1 := depthAll_dNL r
    have h2 := depth_dI n
    have e : (some n :: r).map dNL = dI n :: r.map dNL := rfl
    rw [e, PyData.depthAll]
    omega
theorem shaped_dNL (os : List (Option (List Int))) : shaped (.list (os.map dNL)) = true := by
  have h1 := depthAll_dNL os
  have h2 : PyData.depth (.list (os.map dNL)) ≤ 64 := by simp only [PyData.depth]; omega
  show (PyData.canLay0 (.list (os.map dNL)) && decide (PyData.depth (.list (os.map dNL)) ≤ 64)) = true
  rw [Bool.and_eq_true]
  exact ⟨by simp only [PyData.canLay0]; exact canLay_dNL os, decide_eq_true h2⟩
theorem any_none : ∀ os : List (Option (List Int)), (os.map dNL).any (fun d => PyData.eqv d .none) = decide (none ∈ os)
  | [] => by simp
  | none :: r => by
    rw [List.map_cons, List.any_cons, any_none r, ← same_eq_eqv _ _ (by simp [dNL, noMix])]
    simp [dNL, PySem.Spec.same]
  | some n :: r => by
    rw [List.map_cons, List.any_cons, any_none r, ← same_eq_eqv _ _ (by simp [dNL, noMix])]
    simp [dNL, PySem.Spec.same]
noncomputable def IsNL (K : PySem.W.Frag) (H : Hp) (v : V) : Option (List Int) → Prop
  | none => v = .non
  | some ns => ∃ c, v = .ref c ∧ SqL K H c (ns.map V.int)
section
variable {X : Cx}
theorem Inv.readsNL {pins : List (Addr × Obj)} {σ : St} {H : Hp} {s : Shared} (I : Inv X pins σ H s) : ∀ {vs : List V} {us : List Value} {os : List (Option (List Int))}, Vals vs us → Paired (IsNL X.K H) vs os → ∃ bs, ReadsAll s.heap us (os.map dNL) bs
  | [], _, _, r, p => by
    cases r; cases p
    exact ⟨_, .nil⟩
  | v :: vs, _, _, r, p => by
    cases p with
    | @cons _ o _ _ p1 p2 =>
      cases r with
      | cons r1 r2 =>
        obtain ⟨bs, h⟩ := I.readsNL r2 p2
        cases o with
        | none =>
          have p1 : v = .non := p1
          subst p1
          cases r1
          exact ⟨_, .cons .none h⟩
        | some ns =>
          obtain ⟨c, rfl, hc⟩ := p1
          cases r1
          exact ⟨_, .cons (I.reads hc) h⟩
noncomputable def rInN (K : PySem.W.Frag) : R2 := fun x y H Q => ∃ (b : Addr) (vs : List V) (os : List (Option (List Int))), x = .non ∧ y = .ref b ∧ SqL K H b vs ∧ Paired (IsNL K H) vs os ∧ Q (.bl (decide (none ∈ os))) H
theorem op_inNL (hu : X.A.units + 65 < cLine) : OpR X (compareOp .In) (rInN X.K) := by
  intro pins s σ H x y v u Q I rx ry h
  obtain ⟨b, vs, os, rfl, rfl, h1, h2, q⟩ := h
  cases rx; cases ry
  obtain ⟨its, r, ⟨o, n, ho, hc, hd0, hd⟩, z⟩ := I.list h1
  obtain ⟨bs, hb⟩ := I.readsNL r h2
  have r2 : Reads s.heap (.ref b) (.list (os.map dNL)) _ := .list ho hc hd (by simpa using hb)
  refine in_list_reads r2 (.none) (canLay_of_shaped (shaped_dNL os)) (canLay_of_shaped (by decide)) (room_in_shaped (by decide) hu) ?_
  rw [any_none]
  exact ⟨.bl _, H, I, rfl, q⟩
theorem shaped_flatT {xs : List V} (ok : ∀ v ∈ xs, okF v = true) : shaped (.tuple (xs.map dV)) = true := by
  have h1 := depth_flat xs
  have h2 : PyData.depth (.tuple (xs.map dV)) ≤ 64 := by simp only [PyData.depth]; omega
  show (PyData.canLay0 (.tuple (xs.map dV)) && decide (PyData.depth (.tuple (xs.map dV)) ≤ 64)) = true
  rw [Bool.and_eq_true]
  exact ⟨by simp only [PyData.canLay0]; exact canLay_flat ok, decide_eq_true h2⟩
theorem Inv.readsTF {pins : List (Addr × Obj)} {σ : St} {H : Hp} {s : Shared} (I : Inv X pins σ H s) {a : Addr} {xs : List V} (h : SqT X.K H a xs) (ok : ∀ v ∈ xs, okF v = true) : ∃ bs, Reads s.heap (.ref a) (.tuple (xs.map dV)) bs := by
  obtain ⟨its, r, ⟨o, ho, hc, n, hd⟩, z⟩ := I.tuple h
  exact ⟨_, .tuple ho hc hd (by simpa using readsAll_flat r ok)⟩
noncomputable def rNeM (K : PySem.W.Frag) : R2 := fun x y H Q => rNeL K x y H Q ∨ ∃ (a b : Addr) (xs ys : List V), x = .ref a ∧ y = .ref b ∧ SqT K H a xs ∧ SqT K H b ys ∧ (∀ v ∈ xs, okF v = true) ∧ (∀ v ∈ ys, okF v = true) ∧ noMixAll (xs.map dV) (ys.map dV) = true ∧ Q (.bl (!PySem.Spec.sameAll (xs.map dV) (ys.map dV))) H
theorem op_neM (hu : X.A.units + 64 < cLine) : OpR X (compareOp .NotEq) (rNeM X.K) := by
  intro pins s σ H x y v u Q I rx ry h
  rcases h with h | ⟨a, b, xs, ys, rfl, rfl, h1, h2, o1, o2, hm, q⟩
  · exact op_neL hu pins s σ H x y v u Q I rx ry h
  · cases rx; cases ry
    obtain ⟨_, r1⟩ := I.readsTF h1 o1
    obtain ⟨_, r2⟩ := I.readsTF h2 o2
    exact ne_dataH_same r1 r2 (shaped_flatT o1) (shaped_flatT o2) hu (by simp only [noMix]; exact hm) (by simp only [PySem.Spec.same]; exact ⟨.bl _, H, I, rfl, q⟩)
end
end L2
namespace L2
open PySem PySem.Spec PyProof.Rows
open PySem.W (hideAll of_hideAll hideAll_get)
section
variable {M : Model} {A : Around} {E : Value → Shared → Prop} {s : Shared} {env : Env}
noncomputable def compEnd (M : Model) (A : Around) (E : Value → Shared → Prop) (use : Option (Value → Sem Unit)) (Q : Value → Shared → Prop) (acc : Value) (cenv : Env) (r : Result) (s' : Shared) : Prop :=
  match r with
  | .error x => ∃ m, s'.heap.Ns cenv.locals m ∧ ∀ h' m', h'.Ns cenv.locals m' → Heap.SameBut cenv.locals s'.heap h' → wpAny M A (PySem.passOn "comprehension.variables-let-go" x cenv : Sem Value) (fun _ _ => False) E { s' with heap := h' }
  | .ok f => compPost M A E use Q acc cenv.locals (.ok f) s'
theorem comp_runE {e : Expr} {scope : Scope} {pos : Pos} {newAcc first : Sem Value} {g : Comprehension} {gs : List Comprehension} {cl : List (Str × Addr)} {use : Option (Value → Sem Unit)} {Q : Value → Shared → Prop}
    (hcl : clausesOf e = g :: gs) (hs : ∀ x, foldedSetIterable g.iter env x = pure x) (hclos : closureFor scope env = pure cl) (hkind : scope.kind = .function) (hnames : ∀ y ∈ scope.names, y.2 = .local → scope.names.lookup y.1 = some .local)
    (h : wpAny M A first (fun x s1 => wpAny M A (pyIter x) (fun it s2 => wpAny M A newAcc (fun acc s3 => wpAny M A (newFunctionEnv scope env.globals cl [] env.qual none .none (some env)) (fun cenv s4 =>
      codeAny M A (.compStart e 0 it acc { cenv with scope := relabel scope env }) (compEnd M A E use Q acc { cenv with scope := relabel scope env }) s4) E s3) E s2) E s1) E s) :
    wpAny M A (comprehension e scope env pos newAcc false first use) Q E s := by
  unfold comprehension
  rw [hclos, hcl]
  refine wpAny_bind (wpAny_mono h (fun x s1 h1 => ?_) fun _ _ z => z)
  refine wpAny_bind (wpAny_standAt (wpAny_bind (wpAny_of_eq (hs x) (wpAny_bind (wpAny_holding ?_)))))
  refine wpAny_mono h1 (fun it s2 h2 => wpAny_standIf ?_) fun _ _ z => z
  refine wpAny_bind (wpAny_mono h2 (fun acc s3 h3 => wpAny_bind (wpAny_pure (wpAny_bind ?_))) fun _ _ z => z)
  refine wpAny_mono h3 (fun cenv s4 h4 => ?_) fun _ _ z => z
  dsimp only
  have hv : ∀ l : List (Str × NameKind), (∀ y ∈ l, y ∈ scope.names) → ∀ y ∈ l, y.2 = .local → Env.kindOf { cenv with scope := relabel scope env } y.1 = some .local := fun l hl y hy hk => lookup_relabel_local (hnames y (hl y hy) hk)
  have mem : ∀ (p : Str × NameKind → Bool) (y : Str × NameKind), y ∈ (scope.names.filter p).reverse → y ∈ scope.names := fun p y hy => (List.mem_filter.mp (List.mem_reverse.mp hy)).1
  have mem2 : ∀ (p : Str × NameKind → Bool) (y : Str × NameKind), y ∈ (scope.names.filter p).reverse.drop 1 ++ (scope.names.filter p).reverse.take 1 → y ∈ scope.names := fun p y hy =>
    (List.mem_append.mp hy).elim (fun z => mem p y (List.mem_of_mem_drop z)) fun z => mem p y (List.mem_of_mem_take z)
  refine wpAny_holding (wpAny_bind (wpAny_attempt (wpAny_holding (wpAny_run (codeAny_mono h4 fun r s' hr => ?_)))))
  cases r with
  | ok f =>
    cases use with
    | none =>
      obtain ⟨m, hn, hq⟩ := (show ∃ m, s'.heap.Ns cenv.locals m ∧ ∀ h', Heap.SameBut cenv.locals s'.heap h' → Q acc { s' with heap := h' } from hr)
      refine wpAny_bind (wpAny_holding (wpAny_comp_letGo (cenv := { cenv with scope := relabel scope env }) hkind _ s' m ?_ hn fun h' m' _ hs' => wpAny_pure (hq h' hs')))
      exact hv _ (mem _)
    | some u =>
      have hr : wpAny M A (u acc) (fun _ s'' => ∃ m, s''.heap.Ns cenv.locals m ∧ ∀ h', Heap.SameBut cenv.locals s''.heap h' → Q .none { s'' with heap := h' }) E s' := hr
      refine wpAny_bind (wpAny_rule (wpAny_bind (wpAny_holding (wpAny_mono hr (fun _ s'' ⟨m, hn, hq⟩ => ?_) fun _ _ z => z))))
      refine wpAny_bind (wpAny_comp_letGo (cenv := { cenv with scope := relabel scope env }) hkind _ s'' m ?_ hn fun h' m' _ hs' => wpAny_pure (hq h' hs'))
      exact hv _ (mem2 _)
  | error x =>
    obtain ⟨m, hn, hq⟩ := hr
    refine wpAny_bind (wpAny_holding (wpAny_comp_letGo (cenv := { cenv with scope := relabel scope env }) hkind _ s' m ?_ hn fun h' m' hn' hs' => wpAny_mono (hq h' m' hn' hs') (fun _ _ z => z.elim) fun _ _ z => z))
    exact hv _ (mem _)
theorem setFlight_any {base : Heap} {l : List Env} {e L : Addr} {cls a0 fl : Value} {Q : Unit → Shared → Prop} (kb : base.StaysIn s.heap) (ne : base.get? e = none) (ff : s.heap.FunFrames base l) (tr : s.heap.TracedAtW base e cls a0 fl)
    (h : ∀ h', Heap.HeldW base l e cls a0 L h' → s.heap.UpToSlots h' → Q () { s with heap := h' }) : wpAny M A (setFlight (.ref e) (some L)) Q E s := by
  obtain ⟨oe, vs, T, oT, ts, he, hc, hd, h1, nT, Te, hT, dT, h3⟩ := tr
  have z3 : 3 < ts.size := (Array.getElem?_eq_some_iff.mp h3).1
  have sb := Heap.SameBut.update s.heap T (Obj.mapFields (·.setIfInBounds 3 ((some L).elim Value.none fun f => rawInt f)))
  have up : ∀ b o, s.heap.get? b = some o → (∀ us, o.data ≠ .fields us) → (s.heap.update T (Obj.mapFields (·.setIfInBounds 3 ((some L).elim Value.none fun f => rawInt f)))).get? b = some o := fun b o q nf =>
    (sb.2 b fun z => by subst z; rw [hT] at q; cases q; exact nf ts dT).trans q
  unfold setFlight
  refine wpAny_bind (wpAny_field he hd h1 ?_)
  rw [if_pos (by simp)]
  refine wpAny_setField hT dT z3 (h _ ⟨fun b o q => (sb.2 b fun z => by subst z; rw [nT] at q; cases q).trans (kb b o q), ne, ff.of_keeps fun b o q nf => ⟨o, up b o q nf, rfl⟩, ?_⟩ fun b o q nf => ⟨o.slots, up b o q nf⟩)
  exact ⟨oe, vs, T, _, _, (sb.2 e (Ne.symm Te)).trans he, hc, hd, h1, nT, Te, Heap.get?_update_self _ hT (Obj.isFreed_of_fields (Obj.data_mapFields dT _)), Obj.data_mapFields dT _, by simp [z3]⟩
end
theorem funFrames_off {h h' B : Heap} {C : Addr} (k : ∀ b o, b ≠ C → h.get? b = some o → h'.get? b = some o) : ∀ {l : List Env}, C ∉ frs l → h.FunFrames B l → h'.FunFrames (hideAll B [C]) l
  | [], _, _ => trivial
  | env :: r, hc, ⟨hk, ⟨L, o, hf, hn, ho, hd⟩, hr⟩ => by
    have hm : frs (env :: r) = L :: frs r := by unfold frs; rw [List.filterMap_cons, hf]
    rw [hm] at hc
    refine ⟨hk, ⟨L, o, hf, ?_, k L o (fun z => hc (by rw [z]; exact List.mem_cons_self)) ho, hd⟩, funFrames_off k (fun z => hc (List.mem_cons_of_mem _ z)) hr⟩
    cases q : (hideAll B [C]).get? L with
    | none => rfl
    | some u =>
      have := of_hideAll _ q
      rw [hn] at this
      cases this
section
variable {P : Program} {w : World} {K : PySem.W.Frag} {mg : Str → Option Value} {base : Heap} {N : List Str} {qual : Str} {scope : Scope} {f : Addr} {cdv : Value} {A : Around} {outer : List Env} {s s2 : Shared} {H H1 : Hp} {E : XK} {pins : List (Addr × Obj)} {σ : St}
theorem xe_held {fp : List Addr} {x : Addr} {s' : Shared} {C a0 : Value} {H' : Hp} {B : Heap} (I : Inv (cxOf (CXE P w) P w K mg base N qual scope f cdv A outer s H E) pins σ H1 s2) (hfp : ∀ b ∈ fp, s.heap.objs.size ≤ b) (os : s'.os = s2.os) (bare : AllBare s'.gens)
    (hh : Heap.HeldW B (envOfC qual scope s.heap.objs.size f cdv :: outer) x C a0 s.heap.objs.size s'.heap)
    (st : ∀ h3, B.StaysIn h3 → s'.heap.UpToSlots h3 → Un (frs (envOfC qual scope s.heap.objs.size f cdv :: outer)) fp H1 H' s2.heap h3 ∧ HOk P w H' h3) (xn : s.heap.get? x = none) (xh : H' x = none) (h : E C none H') :
    (cxOf (CXE P w) P w K mg base N qual scope f cdv A outer s H E).xe (.ref x) s' := by
  show wpAny (model P w) (A.deeper (envOfC qual scope s.heap.objs.size f cdv)) (leaving (envOfC qual scope s.heap.objs.size f cdv) (.ref x)) (fun _ s'' => CXE P w outer H s E (.ref x) s'') (fun e' s'' => CXE P w outer H s E e' s'') s'
  unfold leaving
  refine wpAny_bind (wpAny_noteFrame_againW rfl hh.2.2.2 (wpAny_landsW hh fun h'' fl up => ?_))
  obtain ⟨f1, f2, ⟨_, _, f3⟩, f4⟩ := fl
  have U := I.base
  have nfp : ∀ b o, s.heap.get? b = some o → b ∉ fp := fun b o e z => absurd (Nat.lt_of_lt_of_le (Heap.lt_size e) (hfp b z)) (Nat.lt_irrefl _)
  refine ⟨x, C, a0, H', B, rfl, os.trans I.os, bare, ⟨f1, f2, f3, f4⟩, fun h3 st3 up3 => ?_, xn, xh, h⟩
  · obtain ⟨u, ok⟩ := st h3 st3 (up.trans up3)
    refine ⟨⟨fun b o e n hb hx => u.keep b o (U.keep b o e n hb hx) (U.free b o e n hx) (notL2 e hb) (nfp b o e), fun b o e n hb hx => ?_, fun b o e n hx => ?_, fun b o e hx => ?_, fun b xs e => u.tups b xs (U.tups b xs e), fun b o v e => u.frzs b o v (U.frzs b o v e), fun b ps e => ?_⟩, ok⟩
    · obtain ⟨sl, q1⟩ := U.slot b o e n hb hx
      have hb' : b ∈ frs (envOfC qual scope s.heap.objs.size f cdv :: outer) := by
        unfold frs; rw [List.filterMap_cons]; exact List.mem_cons_of_mem _ hb
      obtain ⟨sl2, q2⟩ := u.slot b _ q1 (U.free b o e n hx) hb' (nfp b o e)
      exact ⟨sl2, q2⟩
    · obtain ⟨o2, q2⟩ := U.there b o e hx
      exact u.free b o2 q2 (U.free b o e n hx) (nfp b o e)
    · obtain ⟨o2, q2⟩ := U.there b o e hx
      exact u.there b o2 q2 (nfp b o e)
    · obtain ⟨m1, q1⟩ := U.tbls b ps e
      obtain ⟨m2, q2⟩ := u.tbls b _ q1
      exact ⟨m1 ++ m2, by rw [q2, Array.append_assoc]⟩
end
noncomputable def blockXe (X : Cx) (C : Addr) (fp : List Addr) (sF : Shared) (HF : Hp) (G : Value → Hp → Prop) : Value → Shared → Prop := fun e s' => ∃ (s1 : Shared) (H1 : Hp) (m : Str → Option Value), s1.os = sF.os ∧ Un (frs X.stack) fp HF H1 sF.heap s1.heap ∧ s1.heap.Ns C m ∧ H1 C = none ∧
  CXE X.prog X.w X.stack H1 s1 (fun Cv _ H' => G Cv H') e s'
abbrev blockCxE (X : Cx) (pins : List (Addr × Obj)) (N : List Str) (scope : Scope) (C : Addr) (sF : Shared) (HF : Hp) (fp : List Addr) (G : Value → Hp → Prop) : Cx := (blockCx X pins N scope C sF HF fp).wish (blockXe X C fp sF HF G)
theorem passesB {X : Cx} {pins : List (Addr × Obj)} {N : List Str} {scope : Scope} {C : Addr} {sF : Shared} {HF : Hp} {fp : List Addr} {G : Value → Hp → Prop} : PassesG (blockCxE X pins N scope C sF HF fp G) (fun _ Cv H' => G Cv H') := fun pl σ H s e s' I h => by
  obtain ⟨m, hn, _⟩ := I.loc
  exact ⟨s, H, m, I.os, I.base, hn, I.free, h⟩
section
variable {prog : Program} {w : World} {A : Around}
theorem compLoop_genE {elt target iter : Expr} {ifs : List Expr} {scope : Scope} {pos : Pos} {it acc : Value} {env : Env} {s : Shared} {R : Result → Shared → Prop} {EE : Value → Shared → Prop} (hE : ∀ x s', EE x s' → notedBy (model prog w) A env (fun e s'' => R (.error e) s'') x s') (I : Nat → Shared → Prop)
    (turn : ∀ n s, I n s → wpAny (model prog w) A (pyNext it) (fun r s1 => match r with
      | none => R (.ok .next) s1
      | some v => wpAny (model prog w) A (letOwnedTupleGo target it v) (fun _ s1' => wpAny (model prog w) A (assign target env v) (fun _ s2 =>
          wpAny (model prog w) A (forIn ifs true fun c r => if r = true then do let ok ← isTrue c env (eval c env); pure (ForInStep.yield ok) else pure (ForInStep.yield r)) (fun ok s3 =>
            if ok = true then wpAny (model prog w) A (eval elt env) (fun x s4 => wpAny (model prog w) A (call (.builtin "list.append") [acc, x]) (fun _ s5 => ∃ m, m < n ∧ I m s5) EE s4) EE s3
            else ∃ m, m < n ∧ I m s3) EE s2) EE s1') EE s1) EE s)
    (n : Nat) (h : I n s) : codeAny (model prog w) A (.compLoop (.ListComp elt [⟨target, iter, ifs, 0⟩] scope pos) 0 it acc env) R s := by
  refine codeAny_loop rfl I (fun n s hI => ?_) n h
  show wpAny _ A ((compTurn (.ListComp elt [⟨target, iter, ifs, 0⟩] scope pos) 0 it acc env).onRaise (fun x => do noteFrame x env; theTreesLotGoes x)) _ _ s
  refine wpAny_noted ?_
  rw [compTurn_list]
  refine wpAny_bind (wpAny_standAt (wpAny_bind (wpAny_mono (turn n s hI) (fun r s1 h1 => ?_) hE)))
  cases r with
  | none => exact wpAny_pure h1
  | some v =>
    refine wpAny_bind (wpAny_mono h1 (fun _ s1' h1' => ?_) hE)
    refine wpAny_bind (wpAny_mono h1' (fun _ s2 h2 => wpAny_bind (wpAny_mono h2 (fun ok s3 h3 => ?_) hE)) hE)
    cases ok with
    | false => exact wpAny_pure ⟨rfl, h3⟩
    | true => exact wpAny_bind (wpAny_bind (wpAny_mono h3 (fun x s4 h4 => wpAny_bind (wpAny_mono h4 (fun _ s5 h5 => wpAny_pure (wpAny_pure ⟨rfl, h5⟩)) hE)) hE))
end
section
variable {X : Cx} {pins : List (Addr × Obj)} {σ : St}
theorem comp_blockE {tg iter elt : Expr} {ifs : List Expr} {scope : Scope} {own fr : List Str} {ix : List Nat} {g : TG} {tt : TT} {te : TE} {pos : Pos} {Q : VK} {sF : Shared} {HF : Hp} {C acc it : Addr} {h₁ : Heap} {fp : List Addr} {tn : Nat → Heap → Prop} {J : It} {W : Nat → Nat → List V → Hp → Prop} {m : Str → Option Value} {m0 : Nat} {RR : Result → Shared → Prop} {G : Value → Hp → Prop}
    (hc : X.calm = true) (B : BlockOk X scope own fr ix)
    (hg : ∀ pins C sF HF fp, PG (blockCxE X pins (own ++ fr) scope C sF HF fp G) tg g) (ht : ∀ pins C sF HF fp, PTs (blockCxE X pins (own ++ fr) scope C sF HF fp G) ifs tt) (he : ∀ pins C sF HF fp, PE (blockCxE X pins (own ++ fr) scope C sF HF fp G) elt te)
    (I3 : Inv X pins σ HF sF) (T : Turn X.prog X.w X.K tg J fp it tn) (st3 : tn 0 sF.heap) (f3 : ∀ b ∈ fp, FpOk X pins HF b) (f3' : ∀ b ∈ fp, ∃ o, sF.heap.get? b = some o) (hC : sF.heap.objs.size = C) (old : ∀ b o, sF.heap.get? b = some o → h₁.get? b = some o) (hns₁ : h₁.Ns C m)
    (w0 : W 0 m0 [] HF) (turn : ∀ i m ys H2, W i m ys H2 → H2 acc = some (.lst ys) ∧ ((J.stop i H2 ∧ Q (.ref acc) H2) ∨ (J.go i H2 ∧ ys.length < sizeLine ∧ ∀ x H3, J.yld i H2 x H3 → g x (blockSt own.length ix σ) H3 fun σ4 H4 => σ4.drop own.length = ix.map (fun i => (σ[i]?).getD none) ∧ tt σ4 H4 fun ok H5 =>
      if ok = true then te σ4 H5 fun y H6 => H6 acc = some (.lst ys) ∧ ∃ m', m' < m ∧ W (i + 1) m' (ys ++ [y]) (upd H6 acc (.lst (ys ++ [y])))
      else ∃ m', m' < m ∧ W (i + 1) m' ys H5)))
    (hE : ∀ x s', blockXe X C fp sF HF G x s' → notedBy (model X.prog X.w) X.A (compEnvC scope (clOf X.env scope.names []) C X.env) (fun e s'' => RR (.error e) s'') x s')
    (fin : ∀ s6 H5, Inv (blockCx X pins (own ++ fr) scope C sF HF fp) [] (blockSt own.length ix σ) H5 s6 → Q (.ref acc) H5 → RR (.ok .next) s6) :
    codeAny (model X.prog X.w) X.A (.compStart (.ListComp elt [⟨tg, iter, ifs, 0⟩] scope pos) 0 (.ref it) (.ref acc) (compEnvC scope (clOf X.env scope.names []) C X.env)) RR
      { sF with heap := h₁, toks := sF.toks + ([] : List (Str × Value)).length } := by
  have J0 : Inv (blockCxE X pins (own ++ fr) scope C sF HF fp G) [] (blockSt own.length ix σ) HF { sF with heap := h₁, toks := sF.toks + ([] : List (Str × Value)).length } := (block_start I3 B hC.symm f3 f3' old hns₁).wish _
  have st4 : tn 0 h₁ := T.keep _ _ _ st3 fun b _ o e => old b o e
  have fY : ∀ {pl : List (Addr × Obj)} {H' : Hp}, (∀ b ∈ fp, H' b = none) → (∀ p ∈ pl, p.1 ∉ fp) → ∀ b ∈ fp, FpOk (blockCxE X pins (own ++ fr) scope C sF HF fp G) pl H' b := fun {pl H'} hn hp b hb => by
    refine ⟨hn b hb, (J0.ok.exf b hb).1, J0.ok.exfs b hb, .inl hb, (J0.ok.exf b hb).2, fun p hpm => ?_⟩
    rcases List.mem_append.mp hpm with z | z
    · exact (f3 b hb).2.2.2.2.2 p z
    · exact fun e => hp p z (by rw [e]; exact hb)
  have weak : ∀ {pl : List (Addr × Obj)} {σ4 : St} {H4 : Hp} {s4 : Shared}, Inv (blockCxE X pins (own ++ fr) scope C sF HF fp G) pl σ4 H4 s4 → σ4.drop own.length = ix.map (fun i => (σ[i]?).getD none) → Inv (blockCxE X pins (own ++ fr) scope C sF HF fp G) pl (blockSt own.length ix σ) H4 s4 := fun {pl σ4 H4 s4} J e => by
    refine J.weak ?_ fun i v hv => ?_
    · have := J.len
      have := J0.len
      omega
    · have hv' : (List.replicate own.length none ++ ix.map fun i => (σ[i]?).getD none)[i]? = some (some v) := hv
      by_cases hi : i < own.length
      · rw [List.getElem?_append_left (by rw [List.length_replicate]; exact hi), List.getElem?_replicate, if_pos hi] at hv'
        cases hv'
      · rw [List.getElem?_append_right (by rw [List.length_replicate]; omega), List.length_replicate, ← e, List.getElem?_drop] at hv'
        rw [show own.length + (i - own.length) = i by omega] at hv'
        exact hv'
  have loop : ∀ s4 : Shared, s4 = { sF with heap := h₁, toks := sF.toks + ([] : List (Str × Value)).length } →
      codeAny (model X.prog X.w) X.A (.compLoop (.ListComp elt [⟨tg, iter, ifs, 0⟩] scope pos) 0 (.ref it) (.ref acc) (compEnvC scope (clOf X.env scope.names []) C X.env)) RR s4 := by
    rintro s4 rfl
    refine compLoop_genE hE (fun n s' => ∃ i ys H', Inv (blockCxE X pins (own ++ fr) scope C sF HF fp G) [] (blockSt own.length ix σ) H' s' ∧ tn i s'.heap ∧ (∀ b ∈ fp, H' b = none) ∧ W i n ys H') ?_ m0 ⟨0, [], HF, J0, st4, fun b hb => (f3 b hb).1, w0⟩
    rintro n s5 ⟨i, ys, H5, J5, st5, fr5, w5⟩
    obtain ⟨ha, hturn⟩ := turn i n ys H5 w5
    rcases hturn with ⟨stop, qn⟩ | ⟨go, hsz, step⟩
    · refine thn (T.done (blockCxE X pins (own ++ fr) scope C sF HF fp G) rfl rfl rfl hc i [] s5 _ H5 _ J5 (fY fr5 (fun _ z => by cases z)) st5 stop) fun r s6 ⟨hr, J6⟩ => ?_
      subst hr
      exact fin s6 H5 J6.unwish qn
    · refine thn (T.item (blockCxE X pins (own ++ fr) scope C sF HF fp G) rfl rfl rfl hc i [] s5 _ H5 _ J5 (fY fr5 (fun _ z => by cases z)) st5 go) fun r s6 ⟨u, hr, h6⟩ => ?_
      subst hr
      refine thn h6 fun _ s7 ⟨x, H7, J7, r7, y7, st7, fr7⟩ => ?_
      have J7' := J7.pinned (fY fr7 (fun _ z => by cases z)) (T.obj _ _ st7)
      refine thn (hg pins C sF HF fp _ s7 _ H7 x u _ J7' r7 (step x H7 y7)) fun _ s8 ⟨σ8, H8, J8, k8, q8⟩ => ?_
      have back : ∀ {s9 : Shared} {H9 : Hp}, Inv (blockCxE X pins (own ++ fr) scope C sF HF fp G) ([] ++ pinsAt fp s7.heap) σ8 H9 s9 → Inv (blockCxE X pins (own ++ fr) scope C sF HF fp G) [] (blockSt own.length ix σ) H9 s9 ∧ tn (i + 1) s9.heap ∧ ∀ b ∈ fp, H9 b = none := fun {s9 H9} J9 => by
        refine ⟨weak J9.unpinned k8, T.keep _ _ _ st7 fun b hb o e => (J9.pin (b, o) (List.mem_append_right _ (List.mem_append_right _ (mem_pinsAt hb e)))).1, fun b hb => ?_⟩
        obtain ⟨o, e, d⟩ := T.obj _ _ st7 b hb
        exact (J9.pin (b, o) (List.mem_append_right _ (List.mem_append_right _ (mem_pinsAt hb e)))).2.1
      refine thn (ht pins C sF HF fp _ s8 σ8 H8 _ J8 q8) fun ok s9 ⟨H9, J9, q9⟩ => ?_
      cases ok with
      | false =>
        obtain ⟨m', hm, w9⟩ := q9
        obtain ⟨b1, b2, b3⟩ := back J9
        exact ⟨m', hm, i + 1, ys, H9, b1, b2, b3, w9⟩
      | true =>
        refine thn (he pins C sF HF fp _ s9 σ8 H9 _ J9 q9) fun v s10 ⟨y, H10, J10, r10, a10, m', hm, w10⟩ => ?_
        refine thn (mt_append (X := blockCxE X pins (own ++ fr) scope C sF HF fp G) _ s10 σ8 H10 (.ref acc) [y] (.ref acc) [v] (fun _ H' => H' = upd H10 acc (.lst (ys ++ [y]))) J10 rfl (.cons r10 .nil) ⟨acc, ys, y, rfl, rfl, a10, hsz, rfl⟩) fun _ s11 ⟨_, H11, J11, _, e11⟩ => ?_
        subst e11
        obtain ⟨b1, b2, b3⟩ := back J11
        exact ⟨m', hm, i + 1, ys ++ [y], _, b1, b2, b3, w10⟩
  exact codeAny_compStart_list (loop _ rfl) (T.self _ 0 _ _ _ st4 (loop _ rfl))
end
section
variable {P : Program} {w : World} {K : PySem.W.Frag} {mg : Str → Option Value} {base : Heap} {N : List Str} {qual : Str} {scope : Scope} {f : Addr} {cdv : Value} {A : Around} {outer : List Env} {s0 : Shared} {H0 : Hp} {E : XK} {pins : List (Addr × Obj)} {σ : St}
theorem block_raised {sF : Shared} {HF : Hp} {C : Addr} {fp : List Addr} {bs : Scope} {cl : List (Str × Addr)} {use : Option (Value → Sem Unit)} {Q : Value → Shared → Prop} {acc e : Value} {s' : Shared} (I3 : Inv (cxOf (CXE P w) P w K mg base N qual scope f cdv A outer s0 H0 E) pins σ HF sF) (hC : sF.heap.objs.size = C) (hfp : ∀ b ∈ fp, s0.heap.objs.size ≤ b)
    (hx : blockXe (cxOf (CXE P w) P w K mg base N qual scope f cdv A outer s0 H0 E) C fp sF HF (fun Cv H' => E Cv none H') e s') :
    notedBy (model P w) (A.deeper (envOfC qual scope s0.heap.objs.size f cdv)) (compEnvC bs cl C (envOfC qual scope s0.heap.objs.size f cdv)) (fun e s'' => compEnd (model P w) (A.deeper (envOfC qual scope s0.heap.objs.size f cdv)) (cxOf (CXE P w) P w K mg base N qual scope f cdv A outer s0 H0 E).xe use Q acc (compEnvC bs cl C (envOfC qual scope s0.heap.objs.size f cdv)) (.error e) s'') e s' := by
  obtain ⟨s1, H1, m, os1, U2, ⟨oC, es, ep, hoC, dC, rest⟩, hCn, x, Cv, a0, H', B, rfl, os', bare, fl, st, xn, xh, q⟩ := hx
  show wpAny (model P w) _ (noteFrame (.ref x) (envOfC qual scope s0.heap.objs.size f cdv)) _ _ s'
  refine wpAny_looks_onW (L := s0.heap.objs.size) I3.ok.frames rfl fl fun h2 hh up => ?_
  have Cnf : C ∉ frs (envOfC qual scope s0.heap.objs.size f cdv :: outer) := fun z => by
    obtain ⟨_, o, ho, _⟩ := (show sF.heap.FunFrames base (envOfC qual scope s0.heap.objs.size f cdv :: outer) from I3.stack).mem z
    exact absurd (Heap.lt_size ho) (by rw [hC]; exact Nat.lt_irrefl _)
  have h2C : h2.get? C = some oC := (st h2 hh.1 up).1.keep C oC hoC hCn Cnf (by simp)
  refine ⟨m, ⟨oC, es, ep, h2C, dC, rest⟩, fun h' m' hn' sb => ?_⟩
  have hn' : h'.Ns C m' := hn'
  have sb : Heap.SameBut C h2 h' := sb
  have sb' : ∀ b o, b ≠ C → h2.get? b = some o → h'.get? b = some o := fun b o hb z => (sb.2 b hb).trans z
  obtain ⟨k1, k2, k3, oe, vs, T, oT, ts, he, hcl, hd, h1, nT, Te, hT, dT, h3⟩ := hh
  have xC : x ≠ C := fun z => by rw [z, hoC] at xn; cases xn
  have TC : T ≠ C := fun z => by rw [z, h2C] at hT; cases hT; rw [dC] at dT; cases dT
  have none' : ∀ b, B.get? b = none → (hideAll B [C]).get? b = none := fun b hb => by
    cases z : (hideAll B [C]).get? b with
    | none => rfl
    | some u => have := of_hideAll _ z; rw [hb] at this; cases this
  have BC : (hideAll B [C]).get? C = none := PySem.W.hideAll_none [C] List.mem_cons_self
  have K1 : (hideAll B [C]).StaysIn h' := fun b o z => sb' b o (fun y => by rw [y, BC] at z; cases z) (k1 b o (of_hideAll _ z))
  have he' := sb' x oe xC he
  show wpAny (model P w) _ (PySem.passOn "comprehension.variables-let-go" (.ref x) (envOfC qual scope s0.heap.objs.size f cdv) : Sem Value) _ _ _
  unfold PySem.passOn
  refine wpAny_bind (wpAny_field he' hd h1 ?_)
  rw [if_neg (by simp)]
  have fin : wpAny (model P w) (A.deeper (envOfC qual scope s0.heap.objs.size f cdv)) (setFlight (.ref x) (some s0.heap.objs.size)) (fun _ s4 => (cxOf (CXE P w) P w K mg base N qual scope f cdv A outer s0 H0 E).xe (.ref x) s4) (cxOf (CXE P w) P w K mg base N qual scope f cdv A outer s0 H0 E).xe { s' with heap := h' } := by
    refine setFlight_any (s := { s' with heap := h' }) K1 (none' x k2) (funFrames_off sb' Cnf k3) ⟨oe, vs, T, oT, ts, he', hcl, hd, h1, none' T nT, Te, sb' T oT TC hT, dT, h3⟩ fun h5 hh5 up5 => ?_
    refine xe_held (s' := { s' with heap := h5 }) (fp := fp) (H' := H') (C := Cv) I3 hfp (os'.trans os1) bare hh5 (fun h6 st6 up6 => ?_) ?_ xh q
    · obtain ⟨oC', _, _, hoC', dC', _⟩ := hn'
      obtain ⟨sl, h6C⟩ := (up5.trans up6) C oC' hoC' (fun us z => by rw [dC'] at z; cases z)
      have nf : oC.isFreed = false := (Heap.get?_some_iff.mp h2C).2
      have r1 : (h6.update C fun _ => oC).get? C = some oC := Heap.get?_update_self (fun _ => oC) h6C nf
      have r2 : ∀ b, b ≠ C → (h6.update C fun _ => oC).get? b = h6.get? b := fun b hb => Heap.get?_update_other _ _ (Ne.symm hb)
      obtain ⟨u3, ok3⟩ := st (h6.update C fun _ => oC) (fun b o z => by
        by_cases hb : b = C
        · subst hb
          have := k1 _ _ z
          rw [h2C] at this
          cases this
          exact r1
        · exact (r2 b hb).trans (st6 b o (hideAll_get _ z (by simpa using hb)))) (fun b o z nfd => by
        obtain ⟨sl2, z2⟩ := up b o z nfd
        by_cases hb : b = C
        · subst hb
          rw [h2C] at z2
          cases z2
          exact ⟨_, r1⟩
        · obtain ⟨sl3, z3⟩ := (up5.trans up6) b _ (sb' b _ hb z2) nfd
          exact ⟨sl3, (r2 b hb).trans z3⟩)
      have hC' : H' C = none := u3.free C oC hoC hCn (by simp)
      have U : Un (frs (envOfC qual scope s0.heap.objs.size f cdv :: outer)) fp HF H' sF.heap (h6.update C fun _ => oC) := Un.trans U2 (Un.mono u3 (fun _ z => z) (fun _ z => nomatch z))
      have tr : ∀ b o v, sF.heap.get? b = some o → (h6.update C fun _ => oC).get? b = some v → h6.get? b = some v := fun b o v z y => (r2 b (by rw [← hC]; exact Nat.ne_of_lt (Heap.lt_size z))).symm.trans y
      refine ⟨⟨fun b o z n hb hx => tr b o _ z (U.keep b o z n hb hx), fun b o z n hb hx => ?_, U.free, fun b o z hx => ?_, U.tups, U.frzs, U.tbls⟩, fun b u z => ?_⟩
      · obtain ⟨sl4, y⟩ := U.slot b o z n hb hx
        exact ⟨sl4, tr b o _ z y⟩
      · obtain ⟨o4, y⟩ := U.there b o z hx
        exact ⟨o4, tr b o _ z y⟩
      · have nit : ∀ c v, H' c = some v → c ≠ C := fun c v y zz => by rw [zz, hC'] at y; cases y
        refine (ok3 b u z).stay (fun c v hc y => (r2 c ?_).symm.trans y) (fun _ y => y) fun _ _ y => y
        rcases hc with y | y
        · rw [y]; exact nit b u z
        · exact nit c _ y
    · cases z : s0.heap.get? x with
      | none => rfl
      | some o =>
        obtain ⟨o1, z1⟩ := I3.base.there x o z (by show x ∉ ([] : List Addr); simp)
        obtain ⟨o2, z2⟩ := U2.there x o1 z1 fun y => absurd (Nat.lt_of_lt_of_le (Heap.lt_size z) (hfp x y)) (Nat.lt_irrefl _)
        rw [xn] at z2; cases z2
  first
    | exact wpAny_bind (wpAny_pure (wpAny_bind (wpAny_mono fin (fun _ _ z => wpAny_throw z) fun _ _ z => z)))
    | exact wpAny_bind (wpAny_mono fin (fun _ _ z => wpAny_throw z) fun _ _ z => z)
theorem pe_compE {tg iter elt : Expr} {ifs : List Expr} {bsc : Scope} {own fr : List Str} {ix : List Nat} {wi : TI} {g : TG} {tt : TT} {te : TE} {pos : Pos} (BB : BlockB (cxOf (CXE P w) P w K mg base N qual scope f cdv A outer s0 H0 E) bsc own fr ix) (hi : PI (cxOf (CXE P w) P w K mg base N qual scope f cdv A outer s0 H0 E) tg iter wi)
    (hg : ∀ pins C sF HF fp, PG (blockCxE (cxOf (CXE P w) P w K mg base N qual scope f cdv A outer s0 H0 E) pins (own ++ fr) bsc C sF HF fp (fun Cv H' => E Cv none H')) tg g) (ht : ∀ pins C sF HF fp, PTs (blockCxE (cxOf (CXE P w) P w K mg base N qual scope f cdv A outer s0 H0 E) pins (own ++ fr) bsc C sF HF fp (fun Cv H' => E Cv none H')) ifs tt)
    (he : ∀ pins C sF HF fp, PE (blockCxE (cxOf (CXE P w) P w K mg base N qual scope f cdv A outer s0 H0 E) pins (own ++ fr) bsc C sF HF fp (fun Cv H' => E Cv none H')) elt te)
    (hs : ∀ x, foldedSetIterable iter (envOfC qual scope s0.heap.objs.size f cdv) x = pure x := by intro _; rfl) : PE (cxOf (CXE P w) P w K mg base N qual scope f cdv A outer s0 H0 E) (.ListComp elt [⟨tg, iter, ifs, 0⟩] bsc pos) (tComp wi own.length ix g tt te) := by
  intro pins s σ H Q I h
  have B := BB.ok I.ok
  rw [eval_ListComp]
  refine comp_runE (use := none) rfl hs (closure_eq B.free) B.kind B.names (thn (hi pins s σ H _ I h) fun xv s1 h1 => thn h1 fun itv s2 h2 => ?_)
  obtain ⟨it, fp, tn, J, H2, rfl, I2, T, st2, f2, R⟩ := h2
  refine wpAny_newObj_type (wpAny_newFunctionEnv B.nocell (by intro y hy; simp at hy) (fun h₁ hns₁ hsb₁ => ?_) B.kind)
  dsimp only at hns₁ hsb₁
  have I3 := I2.lnew (t' := s2.toks) (its := []) (ys := []) .nil (Nat.zero_le _)
  obtain ⟨W, ⟨m0, w0⟩, turn⟩ := R _ I2.fresh
  have fF : ∀ b ∈ fp, ∃ o, s2.heap.get? b = some o := fun b hb => let ⟨o, e, _⟩ := T.obj _ _ st2 b hb; ⟨o, e⟩
  have nacc : ∀ b ∈ fp, b ≠ s2.heap.objs.size := fun b hb => let ⟨o, e⟩ := fF b hb; Nat.ne_of_lt (Heap.lt_size e)
  have push : ∀ b o, s2.heap.get? b = some o → (s2.heap.push { cls := .type "list", data := .seq ([] : List Value).toArray }).get? b = some o := fun b o e => Heap.get?_push_of_some _ e
  refine comp_blockE (G := fun Cv H' => E Cv none H') rfl B hg ht he I3 T (T.keep _ _ _ st2 fun b _ o e => push b o e) (fun b hb => ⟨by rw [upd_ne (nacc b hb)]; exact (f2 b hb).1, (f2 b hb).2⟩) (fun b hb => let ⟨o, e⟩ := fF b hb; ⟨o, push b o e⟩) rfl
    (fun b o e => hsb₁.extBut b o (Nat.ne_of_lt (Heap.lt_size e)) (Heap.get?_push_of_some _ e)) hns₁ w0 turn (fun x s' hx => block_raised I3 rfl (fun b hb => ?_) hx) fun s6 H5 J6 qn => ?_
  · exact (f2 b hb).2.2.2.1.elim (fun z => absurd (show b ∈ ([] : List Addr) from z) (by simp)) fun z => z
  · obtain ⟨m6, hn6, _⟩ := J6.loc
    exact ⟨m6, hn6, fun h' hs' => ⟨.ref _, H5, block_end I3 (fun b hb => ⟨by rw [upd_ne (nacc b hb)]; exact (f2 b hb).1, (f2 b hb).2⟩) rfl J6 hs', rfl, qn⟩⟩
end
end L2
namespace Bw
open PySem L2
open Builtin.Int (intBits)
def top (i : Nat) : Stmt := PySem.Challenge.pw_bellwrite_k63_talks_refused.main.body.getD i (.Pass ⟨0, 0, 0, 0⟩)
abbrev st_choose : Stmt := top 8
abbrev st_top_from : Stmt := top 9
abbrev st_above_top : Stmt := top 10
abbrev st_rounded_up : Stmt := top 11
abbrev st_box_of : Stmt := top 13
abbrev st_bell_row : Stmt := top 14
abbrev st_heard_box : Stmt := top 15
abbrev st_box_count : Stmt := top 16
abbrev st_greatest_part : Stmt := top 17
abbrev st_box_number : Stmt := top 19
abbrev st_box_of_message : Stmt := top 20
abbrev st_written : Stmt := top 21
abbrev st_read : Stmt := top 22
abbrev st_refuse_silent : Stmt := top 24
abbrev st_rung : Stmt := top 25
abbrev st_by_messages : Stmt := top 26
abbrev st_talk_heard : Stmt := top 27
abbrev st__law_cell_at : Stmt := top 29
abbrev st__law_drawn : Stmt := top 30
abbrev st__law_frame : Stmt := top 31
abbrev st__law_changed : Stmt := top 32
abbrev st__law_part : Stmt := top 33
abbrev st__law_due : Stmt := top 34
abbrev st__law_kind : Stmt := top 35
abbrev st__law_heard : Stmt := top 36
abbrev st__law_rung : Stmt := top 37
abbrev st_law : Stmt := top 38
structure Txt (K : PySem.W.Frag) (mg : Str → Option Value) : Prop where
  z_range : mg "range" = none
  z_isinstance : mg "isinstance" = none
  z_int : mg "int" = none
  z_bool : mg "bool" = none
  z_len : mg "len" = none
  z_list : mg "list" = none
  z_max : mg "max" = none
  z_min : mg "min" = none
  z_enumerate : mg "enumerate" = none
  z_sorted : mg "sorted" = none
  z_sum : mg "sum" = none
  z_ValueError : mg "ValueError" = none
noncomputable def cellOf (ns : List Int) (k : Int) : Int := ns.getD k.toNat 0
noncomputable def spCell (K : PySem.W.Frag) : Sp := fun vs H Q _ => ∃ (a : Addr) (ns : List Int) (k : Int), vs = [.ref a, .int k] ∧ SqL K H a (ns.map V.int) ∧ 0 ≤ k ∧ Q (.int (cellOf ns k)) H
structure RowL (row : List Int) : Prop where
  inc : row.Pairwise (· < ·)
  nn : ∀ x ∈ row, 0 ≤ x
  sz : ∀ x ∈ row, x < 2 ^ 200
theorem at_map {ns : List Int} {k : Nat} {x : Int} (h : ns[k]? = some x) : atI (ns.map V.int) (k : Int) = some (V.int x) := atI_nat (by rw [List.getElem?_map, h]; rfl)
abbrev bmV : List Value := [.type "ValueError", .type "Exception", .type "BaseException", .type "object"]
theorem fnE_fn {P : Program} {w : World} {K : PySem.W.Frag} {mg : Str → Option Value} {base : Heap} {k : Nat} {x : Str} {ps : List Str} {sp : Sp} (F : FnE P w K mg base k x ps sp) : Fn P w K mg base k x ps (fun vs H Q _ => sp vs H Q E0) := by
  obtain ⟨f, fd, F, kp, b, m⟩ := F
  refine ⟨f, fd, ⟨fun vs H Q _ h => F.len vs H Q E0 h, fun A outer s H args us vs Q E hr e0 hb r h => codeAny_mono (F.run A outer s H args us vs Q E0 hr e0 hb r h) fun rr s' q => ?_⟩, kp, b, m⟩
  cases rr with
  | ok fl => cases fl <;> exact q
  | error e =>
    obtain ⟨_, _, _, _, _, _, _, _, _, _, _, _, z⟩ := q
    exact False.elim z
theorem comp_rangeI {lo : Int} {n : Nat} {acc : Addr} {own : Nat} {ix : List Nat} {g : TG} {te : TE} {σ : St} {H1 : Hp} {Q : VK} (Pv : Nat → List V → Hp → Prop) (hz : n ≤ sizeLine) (h0 : Pv 0 [] (upd H1 acc (.lst [])))
    (ha : ∀ i ys H, Pv i ys H → H acc = some (.lst ys) ∧ ys.length ≤ i)
    (step : ∀ (i : Nat) (ys : List V) (H : Hp) (R : VK), i < n → Pv i ys H → (∀ y H6, H6 acc = some (.lst ys) → Pv (i + 1) (ys ++ [y]) (upd H6 acc (.lst (ys ++ [y]))) → R y H6) → g (.int (lo + i)) (blockSt own ix σ) H fun σ4 H4 => σ4.drop own = ix.map (fun i => (σ[i]?).getD none) ∧ te σ4 H4 R)
    (hd : ∀ ys H, Pv n ys H → Q (.ref acc) H) : CompGo (Itr lo n) own ix g tNoTest te σ H1 acc Q := by
  refine ⟨fun i m ys H => m = n - i ∧ i ≤ n ∧ Pv i ys H, ⟨n, by simp, Nat.zero_le _, h0⟩, ?_⟩
  rintro i m ys H ⟨rfl, hi, p⟩
  obtain ⟨a1, a2⟩ := ha i ys H p
  refine ⟨a1, ?_⟩
  by_cases hlt : i < n
  · refine .inr ⟨hlt, by omega, fun x H3 y => ?_⟩
    obtain ⟨e, y⟩ := y
    subst e y
    exact step i ys _ _ hlt p fun y H6 e q => ⟨e, n - (i + 1), by omega, rfl, hlt, q⟩
  · have e : i = n := by omega
    subst e
    exact .inl ⟨Nat.le_refl _, hd ys H p⟩
section
variable {P : Program} {w : World} {K : PySem.W.Frag} {mg : Str → Option Value} {base : Heap}
theorem sc__law_cell_at : FnScope ["script", "k"] ["script", "k"] (defScope st__law_cell_at) := ⟨rfl, rfl, rfl, by decide +kernel, rfl, by decide +kernel, by decide +kernel⟩
theorem ok_cell_at (D : Def K mg "_law_cell_at" st__law_cell_at ["script", "k"]) (T : Txt K mg) : Fn P w K mg base 1 "_law_cell_at" ["script", "k"] (spCell K) := by
  refine D.fn sc__law_cell_at (fun vs H Q E h => ?_) (fun f cdv A outer s H vs Q E hr h => ?_)
  · obtain ⟨n, k, c, rfl, _⟩ := h
    rfl
  · obtain ⟨a, ns, k, rfl, hS, k0, q⟩ := h
    refine ⟨_, (pss_cons (ps_if (pt_cmpR op_ltI (pv 1) (pe_callB call_len_seq (by rfl) T.z_len b_len (pa_cons (pv 0) pa_nil)) (nomark _))
        (pss_one (ps_ret (pe_ix ix_list (pv 0) (pv 1) (fun _ _ => rfl))))
        pss_nil)
      (pss_one (ps_ret pe_int))), ?_⟩
    refine ⟨_, rfl, _, rfl, _, _, rfl, .inl hS, _, _, rfl, rfl, _, rfl, ?_⟩
    rw [List.length_map]
    refine ifD (fun h => ?_) (fun h => ?_)
    · have hk : k.toNat < ns.length := by omega
      have e : atI (ns.map V.int) k = some (V.int (cellOf ns k)) := by
        have := at_map (ns := ns) (k := k.toNat) (x := cellOf ns k) (by unfold cellOf; rw [List.getD_eq_getElem?_getD, List.getElem?_eq_getElem hk]; rfl)
        rwa [show ((k.toNat : Nat) : Int) = k by omega] at this
      exact ⟨_, rfl, _, rfl, _, _, _, _, rfl, rfl, hS, e, q⟩
    · have e : cellOf ns k = 0 := by
        unfold cellOf
        rw [List.getD_eq_getElem?_getD, List.getElem?_eq_none (by omega)]
        rfl
      rw [e] at q
      exact q
end
section
noncomputable def spLaw (K : PySem.W.Frag) : Sp := fun vs H Q _ => ∃ (a : Addr) (ns : List Int), vs = [.ref a] ∧ SqL K H a (ns.map V.int) ∧ ns.length ≤ 63 ∧ ∀ H', Q (.bl true) H'
end
section
variable {P : Program} {w : World} {K : PySem.W.Frag} {mg : Str → Option Value} {base : Heap}
noncomputable def spDr : Sp := fun vs H Q _ => ∃ c k : Int, vs = [.int c, .int k] ∧ intBits k ≤ 100 ∧ ∀ d : Int, 0 ≤ d → d < 2 ^ 61 → Q (.int d) H
theorem sc__law_drawn : FnScope ["cell", "k", "number"] ["cell", "k"] (defScope st__law_drawn) := ⟨rfl, rfl, rfl, by decide +kernel, rfl, by decide +kernel, by decide +kernel⟩
theorem ok_dr (D : Def K mg "_law_drawn" st__law_drawn ["cell", "k"]) : Fn P w K mg base 1 "_law_drawn" ["cell", "k"] spDr := by
  refine D.fn sc__law_drawn (fun vs H Q E h => ?_) (fun f cdv A outer s H vs Q E hr h => ?_)
  · obtain ⟨c, k, rfl, _⟩ := h
    rfl
  · obtain ⟨c, k, rfl, kb, q⟩ := h
    refine ⟨_, (pss_cons (ps_set (i := 2) sc__law_drawn.nd rfl (Or.inl rfl) (pe_op op_modB (pe_op op_mulB (pe_op op_addI (pe_op op_addI (pe_op op_modB (pv 0) (pe_op op_powB pe_int pe_int)) (pe_op op_mulB pe_int (pv 1))) pe_int) pe_int) pe_int))
      (pss_cons (ps_set (i := 2) sc__law_drawn.nd rfl (Or.inl rfl) (pe_op op_modB (pe_op op_mulB (pv 2) (pv 2)) pe_int))
      (pss_one (ps_ret (pe_op op_fdivB (pe_op op_modB (pe_op op_addI (pe_op op_mulB (pv 2) pe_int) (pe_op op_mulB (pv 1) (pv 1))) pe_int) pe_int))))), ?_⟩
    have p40 : (0 : Int) < 10 ^ (40 : Int).toNat := by decide
    have l40 : (10 : Int) ^ (40 : Int).toNat < 2 ^ 140 := by decide
    have c0 := Int.emod_nonneg c (show (10 : Int) ^ (40 : Int).toNat ≠ 0 by decide)
    have c1 := Int.emod_lt_of_pos c p40
    have cb : intBits (c % 10 ^ (40 : Int).toNat) ≤ 140 := bits_of c0 (Int.lt_trans c1 l40)
    have kb7 : intBits (7 * k) ≤ 103 := intBits_mul_le (m := 3) (n := 100) (by decide) kb
    have b1 : intBits (c % 10 ^ (40 : Int).toNat + 7 * k + 1) ≤ 142 := bits_mono (intBits_add_le (m := 141) (n := 1) (bits_mono (intBits_add_le cb kb7) (by decide)) (by decide)) (by decide)
    refine ⟨_, rfl, _, _, rfl, rfl, ⟨by decide, by decide, by decide⟩, _, _, rfl, rfl, p40, _, rfl, _, _, rfl, rfl, ⟨3, 100, by decide, kb, by decide⟩, _, _, rfl, rfl, _, _, rfl, rfl, _, _, rfl, rfl, ⟨142, 40, b1, by decide, by decide⟩, _, _, rfl, rfl, (by decide), ?_⟩
    have n0 := Int.emod_nonneg ((c % 10 ^ (40 : Int).toNat + 7 * k + 1) * 2654435769) (show (2305843009213693951 : Int) ≠ 0 by decide)
    have n1 := Int.emod_lt_of_pos ((c % 10 ^ (40 : Int).toNat + 7 * k + 1) * 2654435769) (show (0 : Int) < 2305843009213693951 by decide)
    generalize (c % 10 ^ (40 : Int).toNat + 7 * k + 1) * 2654435769 % 2305843009213693951 = number at n0 n1 ⊢
    have nb : intBits number ≤ 62 := bits_of n0 (by omega)
    refine ⟨_, rfl, _, rfl, _, _, rfl, rfl, ⟨62, 62, nb, nb, by decide⟩, _, _, rfl, rfl, (by decide), ?_⟩
    have m0 := Int.emod_nonneg (number * number) (show (2305843009213693951 : Int) ≠ 0 by decide)
    have m1 := Int.emod_lt_of_pos (number * number) (show (0 : Int) < 2305843009213693951 by decide)
    generalize number * number % 2305843009213693951 = num at m0 m1 ⊢
    have mb : intBits num ≤ 62 := bits_of m0 (by omega)
    have r0 := Int.emod_nonneg (num * 40503 + k * k) (show (2305843009213693951 : Int) ≠ 0 by decide)
    have r1 := Int.emod_lt_of_pos (num * 40503 + k * k) (show (0 : Int) < 2305843009213693951 by decide)
    refine ⟨_, rfl, _, _, rfl, rfl, ⟨62, 20, mb, by decide, by decide⟩, _, rfl, _, rfl, _, _, rfl, rfl, ⟨100, 100, kb, kb, by decide⟩, _, _, rfl, rfl, _, _, rfl, rfl, (by decide), _, _, rfl, rfl, ⟨by decide, by decide⟩, q _ ?_ ?_⟩
    · omega
    · omega
end
theorem bits_div {a b : Int} {m : Nat} (h : intBits a ≤ m) (hb : 0 < b) : intBits (a / b) ≤ m := by
  refine intBits_le_of_natAbs (y := a) ?_ h
  rcases (by omega : 0 ≤ a ∨ a < 0) with z | z
  · have h1 := Int.ediv_nonneg z (by omega : 0 ≤ b)
    have h2 := Int.ediv_le_self b z
    omega
  · have h1 := Int.ediv_neg_of_neg_of_pos z hb
    have h2 : a ≤ a / b := by
      refine (Int.le_ediv_iff_mul_le hb).mpr ?_
      have := Int.mul_le_mul_of_nonpos_left (a := a) (b := b) (c := 1) (by omega) (by omega)
      omega
    omega
section
variable {P : Program} {w : World} {K : PySem.W.Frag} {mg : Str → Option Value} {base : Heap}
theorem sc_choose : FnScope ["n", "k", "ways", "taken"] ["n", "k"] (defScope st_choose) := ⟨rfl, rfl, rfl, by decide +kernel, rfl, by decide +kernel, by decide +kernel⟩
theorem ok_choose (D : Def K mg "choose" st_choose ["n", "k"]) (T : Txt K mg) : Fn P w K mg base 1 "choose" ["n", "k"] spChoose := by
  refine D.fn sc_choose (fun vs H Q E h => ?_) (fun f cdv A outer s H vs Q E hr h => ?_)
  · obtain ⟨n, k, rfl, _⟩ := h
    rfl
  · obtain ⟨n, k, rfl, hn, hk, hk2, hb, q⟩ := h
    refine ⟨_, (pss_cons (ps_if (pt_cmpR op_gtI (pv 1) (pv 0) (nomark _))
        (pss_one (ps_ret pe_int))
        pss_nil)
      (pss_cons (ps_set (i := 2) sc_choose.nd rfl (Or.inl rfl) pe_int)
      (pss_cons (ps_for PassesOwn.never rfl (pi_range1 (by rfl) T.z_range (pa_cons (pv 1) pa_nil)) (pg_name (i := 3) sc_choose.nd rfl (Or.inl rfl))
        (pss_one (ps_set (i := 2) sc_choose.nd rfl (Or.inl rfl) (pe_op op_fdivB (pe_op op_mulB (pv 2) (pe_op op_subI (pv 0) (pv 3))) (pe_op op_addI (pv 3) pe_int)))))
      (pss_one (ps_ret (pv 2)))))), ?_⟩
    refine ⟨_, rfl, _, rfl, _, _, rfl, rfl, _, rfl, ?_⟩
    refine ite2 (fun h => ?_) (fun h => ?_)
    · have h' : n < k := of_decide_eq_true h
      have e := ch_above hn h'
      rw [e] at q
      exact q
    · have h' : ¬ n < k := fun z => h (decide_eq_true z)
      refine ⟨_, rfl, k, rfl, by omega, by omega, for_range (n := k.toNat) (fun i σ H' => ∃ v, σ = [some (.int n), some (.int k), some (.int (ch n i)), v] ∧ H' = H) ⟨none, ?_, rfl⟩ ?_ ?_⟩
      · have e := ch_zero n
        show _ = [some (V.int n), some (V.int k), some (V.int (ch n 0)), none]
        rw [e]
        rfl
      · rintro i σ H' hi ⟨v, rfl, rfl⟩
        have hi' : (i : Int) < k := by omega
        refine ⟨_, rfl, _, rfl, _, rfl, _, _, rfl, rfl, _, _, rfl, rfl, ?_, _, rfl, _, _, rfl, rfl, _, _, rfl, rfl, ?_, ?_⟩
        · refine ⟨100000 * i + 1, 100000, bits_ch hb hn, ?_, by omega⟩
          exact intBits_le_of_natAbs (by omega) hb
        · exact ⟨by omega, bits_of (by omega) (by omega)⟩
        · have e := ch_step (n := n) (i := i) (by omega)
          have e0 : (0 : Int) + (i : Int) = (i : Int) := by omega
          refine ⟨some (.int (0 + (i : Int))), ?_, rfl⟩
          rw [e0, e]
          rfl
      · rintro σ H' ⟨v, rfl, rfl⟩
        refine ⟨_, rfl, ?_⟩
        have e : ((k.toNat : Nat) : Int) = k := by omega
        rw [e]
        exact q
end
section
variable {P : Program} {w : World} {K : PySem.W.Frag} {mg : Str → Option Value} {base : Heap}
theorem sc_rounded_up : FnScope ["number", "divisor"] ["number", "divisor"] (defScope st_rounded_up) := ⟨rfl, rfl, rfl, by decide +kernel, rfl, by decide +kernel, by decide +kernel⟩
theorem ok_rounded_up (D : Def K mg "rounded_up" st_rounded_up ["number", "divisor"]) (hP : P.given.tree = none) : Fn P w K mg base 36 "rounded_up" ["number", "divisor"] spRound := by
  refine D.fn sc_rounded_up (fun vs H Q E h => ?_) (fun f cdv A outer s H vs Q E hr h => ?_)
  · obtain ⟨n, k, rfl, _⟩ := h
    rfl
  · obtain ⟨a, b, rfl, hb, q⟩ := h
    refine ⟨_, (pss_one (ps_ret (pe_op (op_fdivP (pyl_ok hP sc_rounded_up hr)) (pe_op op_subI (pe_op op_addI (pv 0) (pv 1)) pe_int) (pv 1)))), ?_⟩
    exact ⟨_, rfl, _, rfl, _, _, rfl, rfl, _, _, rfl, rfl, _, rfl, _, _, rfl, rfl, hb, q⟩
theorem sc_above_top : FnScope ["k", "number", "product", "factor", "figures"] ["k", "number"] (defScope st_above_top) := ⟨rfl, rfl, rfl, by decide +kernel, rfl, by decide +kernel, by decide +kernel⟩
theorem ok_above_top (D : Def K mg "above_top" st_above_top ["k", "number"]) (T : Txt K mg) (G_rounded_up : Fn P w K mg base 36 "rounded_up" ["number", "divisor"] spRound) : Fn P w K mg base 37 "above_top" ["k", "number"] spAbove := by
  refine D.fn sc_above_top (fun vs H Q E h => ?_) (fun f cdv A outer s H vs Q E hr h => ?_)
  · obtain ⟨n, k, rfl, _⟩ := h
    rfl
  · obtain ⟨k, number, rfl, k1, k60, n0, nb, q⟩ := h
    refine ⟨_, (pss_cons (ps_set (i := 2) sc_above_top.nd rfl (Or.inl rfl) (pv 1))
      (pss_cons (ps_for PassesOwn.never rfl (pi_range2 (by rfl) T.z_range (pa_cons pe_int (pa_cons (pe_op op_addI (pv 0) pe_int) pa_nil))) (pg_name (i := 3) sc_above_top.nd rfl (Or.inl rfl))
        (pss_one (ps_set (i := 2) sc_above_top.nd rfl (Or.inl rfl) (pe_op op_mulB (pv 2) (pv 3)))))
      (pss_cons (ps_set (i := 4) sc_above_top.nd rfl (Or.inl rfl) (pe_fn G_rounded_up (hr.mono (by decide)) (by rfl) (pa_cons (pe_bm0 PySem.F.plainAttrs_int PySem.F.slot_int_bit_length PySem.F.type_int_bit_length mt_bit_length (pv 2)) (pa_cons (pv 0) pa_nil))))
      (pss_one (ps_ret (pe_op op_subI (pe_op op_addI (pe_op op_shlB pe_int (pv 4)) (pv 0)) pe_int)))))), ?_⟩
    have ek : ((k.toNat : Nat) : Int) = k := by omega
    have pb : ∀ i : Nat, (i : Int) ≤ 60 → intBits (number * fac i) ≤ 50000 + (7 * i + 1) := fun i hi => intBits_mul_le nb (bits_fac i (by omega))
    refine ⟨_, rfl, _, rfl, _, _, rfl, rfl, 1, k + 1, rfl, ⟨by omega, by omega, by omega, by omega⟩, for_range (lo := 1) (n := (k + 1 - 1).toNat) (fun i σ H2 => ∃ v, σ = [some (.int k), some (.int number), some (.int (number * fac i)), v, none] ∧ H2 = H) ⟨none, ?_, rfl⟩ ?_ ?_⟩
    · show _ = [some (V.int k), some (V.int number), some (V.int (number * 1)), none, none]
      rw [Int.mul_one]
      rfl
    · rintro i σ H2 hi ⟨v, rfl, rfl⟩
      have hi' : (i : Int) < k := by omega
      refine ⟨_, rfl, _, rfl, _, _, rfl, rfl, ⟨_, 64, pb i (by omega), bits_of (by omega) (by omega), by omega⟩, some (.int (1 + (i : Int))), ?_, rfl⟩
      rw [fac_succ, ← Int.mul_assoc, Int.add_comm (i : Int) 1]
      rfl
    · rintro σ H2 ⟨v, rfl, rfl⟩
      have en : (k + 1 - 1).toNat = k.toNat := by omega
      rw [en]
      have pk := pb k.toNat (by omega)
      have hsz := intBits_le_iff.mp (Nat.le_refl (intBits (number * fac k.toNat)))
      refine ⟨_, rfl, rfl, _, rfl, rfl, _, rfl, _, _, rfl, by omega, ?_⟩
      generalize hbn : intBits (number * fac k.toNat) = b at pk hsz ⊢
      have d1 := Int.mul_ediv_add_emod ((b : Int) + k - 1) k
      have d2 := Int.emod_nonneg ((b : Int) + k - 1) (show k ≠ 0 by omega)
      have d3 := Int.emod_lt_of_pos ((b : Int) + k - 1) (show 0 < k by omega)
      have f0 : 0 ≤ ((b : Int) + k - 1) / k := Int.ediv_nonneg (by omega) (by omega)
      have f1 : ((b : Int) + k - 1) / k ≤ (b : Int) + k - 1 := Int.ediv_le_self _ (by omega)
      generalize ((b : Int) + k - 1) / k = fg at d1 f0 f1 ⊢
      generalize ((b : Int) + k - 1) % k = r at d1 d2 d3
      refine ⟨_, rfl, _, _, rfl, rfl, ⟨f0, by omega, by decide⟩, _, rfl, _, _, rfl, rfl, _, _, rfl, rfl, ?_⟩
      have ef : ((fg.toNat : Nat) : Int) = fg := by omega
      have hp : (0 : Int) < 2 ^ fg.toNat := Int.pow_pos (by decide)
      have ab := aboveI (F := fg.toNat) (b := b) k1 n0 hsz (by rw [ef, Int.mul_comm]; omega)
      have e1 : (1 : Int) * 2 ^ fg.toNat = 2 ^ fg.toNat := Int.one_mul _
      rw [e1]
      refine q _ (by omega) ab ?_
      have hb2 : intBits ((2 : Int) ^ fg.toNat) ≤ fg.toNat + 1 := by
        refine intBits_le_iff.mpr ?_
        rw [Int.natAbs_pow]
        exact Nat.pow_lt_pow_right (by decide) (by omega)
      refine bits_mono (intBits_sub_le (m := 50600) (n := 64) (bits_mono (intBits_add_le (m := 50599) (n := 64) (bits_mono hb2 (by omega)) (bits_of (by omega) (by omega))) (by decide)) (by decide)) (by decide)
theorem C_absorb (n k : Nat) : (k + 1) * C (n + 1) (k + 1) = (n + 1) * C n k := by
  have h := C_step n k
  rw [C_succ, Nat.mul_add, Nat.add_mul, Nat.add_mul, Nat.one_mul, Nat.one_mul, Nat.add_mul n 1, Nat.one_mul]
  rw [Nat.add_mul] at h
  omega
theorem ch_absorb {t k : Int} (hk : 1 ≤ k) (ht : 1 ≤ t) : ch t k * k / t = ch (t - 1) (k - 1) := by
  obtain ⟨j, hj⟩ : ∃ j : Nat, k = (j : Int) + 1 := ⟨(k - 1).toNat, by omega⟩
  obtain ⟨m, hm⟩ : ∃ m : Nat, t = (m : Int) + 1 := ⟨(t - 1).toNat, by omega⟩
  subst hj hm
  have e1 : ch ((m : Int) + 1) ((j : Int) + 1) = (C (m + 1) (j + 1) : Nat) := by
    rw [show ((m : Int) + 1) = ((m + 1 : Nat) : Int) by omega, show ((j : Int) + 1) = ((j + 1 : Nat) : Int) by omega, ch_nat]
  have e2 : ch ((m : Int) + 1 - 1) ((j : Int) + 1 - 1) = (C m j : Nat) := by
    rw [show ((m : Int) + 1 - 1) = ((m : Nat) : Int) by omega, show ((j : Int) + 1 - 1) = ((j : Nat) : Int) by omega, ch_nat]
  rw [e1, e2]
  have a := C_absorb m j
  have a' : ((C (m + 1) (j + 1) : Nat) : Int) * ((j : Int) + 1) = ((m : Int) + 1) * ((C m j : Nat) : Int) := by
    rw [Int.mul_comm]
    exact_mod_cast a
  rw [a']
  exact Int.mul_ediv_cancel_left _ (by omega)
noncomputable def spTopFrom : Sp := fun vs H Q _ => ∃ start k number : Int, vs = [.int start, .int k, .int number] ∧ 1 ≤ k ∧ k ≤ 60 ∧ 0 ≤ number ∧ k - 1 ≤ start ∧ number < ch (start + 1) k ∧ intBits start ≤ 60000 ∧ ∀ t : Int, IsTop k number t → intBits t ≤ 60000 → Q (.int t) H
theorem sc_top_from : FnScope ["start", "k", "number", "top", "ways", "most_off", "step"] ["start", "k", "number"] (defScope st_top_from) := ⟨rfl, rfl, rfl, by decide +kernel, rfl, by decide +kernel, by decide +kernel⟩
theorem ok_top_from (D : Def K mg "top_from" st_top_from ["start", "k", "number"]) (G_choose : Fn P w K mg base 1 "choose" ["n", "k"] spChoose) (G_rounded_up : Fn P w K mg base 36 "rounded_up" ["number", "divisor"] spRound) (hP : P.given.tree = none) :
    Fn P w K mg base 37 "top_from" ["start", "k", "number"] spTopFrom := by
  refine D.fn sc_top_from (fun vs H Q E h => ?_) (fun f cdv A outer s H vs Q E hr h => ?_)
  · obtain ⟨a, n, k, rfl, _⟩ := h
    rfl
  · obtain ⟨t0, k, number, rfl, k1, k60, n0, t1, t2, t3, q⟩ := h
    refine ⟨_, (pss_cons (ps_set (i := 3) sc_top_from.nd rfl (Or.inl rfl) (pv 0))
      (pss_cons (ps_set (i := 4) sc_top_from.nd rfl (Or.inl rfl) (pe_fn G_choose (hr.mono (by decide)) (by rfl) (pa_cons (pv 3) (pa_cons (pv 1) pa_nil))))
      (pss_cons (ps_while PassesOwn.never (pt_cmpR op_gtI (pv 4) (pv 2) (nomark _))
        (pss_cons (ps_set (i := 5) sc_top_from.nd rfl (Or.inl rfl) (pe_op (op_fdivP (pyl_ok hP sc_top_from (hr.mono (by decide)))) (pe_op op_mulB (pv 4) (pv 1)) (pv 3)))
        (pss_cons (ps_set (i := 6) sc_top_from.nd rfl (Or.inl rfl) (pe_fn G_rounded_up (hr.mono (by decide)) (by rfl) (pa_cons (pe_op op_subI (pv 4) (pv 2)) (pa_cons (pv 5) pa_nil))))
        (pss_cons (ps_set (i := 3) sc_top_from.nd rfl (Or.inl rfl) (pe_op op_subI (pv 3) (pv 6)))
        (pss_one (ps_set (i := 4) sc_top_from.nd rfl (Or.inl rfl) (pe_ifExp (pt_cmpR op_eqI (pv 6) pe_int (nomark _)) (pe_op op_subI (pv 4) (pv 5)) (pe_fn G_choose (hr.mono (by decide)) (by rfl) (pa_cons (pv 3) (pa_cons (pv 1) pa_nil))))))))))
      (pss_one (ps_ret (pv 3)))))), ?_⟩
    refine ⟨_, rfl, _, rfl, _, rfl, t0, k, rfl, by omega, by omega, by omega, bits_mono t3 (by decide), ?_⟩
    refine while_by (fun σ H2 => ∃ t v v', σ = [some (.int t0), some (.int k), some (.int number), some (.int t), some (.int (ch t k)), v, v'] ∧ H2 = H ∧ k - 1 ≤ t ∧ number < ch (t + 1) k ∧ intBits t ≤ 60000)
      (fun σ _ => match σ with | [_, _, _, some (.int t), _, _, _] => t.toNat | _ => 0) ⟨t0, none, none, rfl, rfl, t1, t2, t3⟩ ?_ ?_
    · rintro σ H2 ⟨t, v, v', rfl, rfl, u1, u2, u3⟩
      refine ⟨_, rfl, _, rfl, _, _, rfl, rfl, _, rfl, ifD (fun h => ?_) (fun h => ?_)⟩
      · obtain ⟨a1, a2, a3, a4, a5⟩ := step_downI k1 n0 (by omega) h _ rfl
        have wb : intBits (ch t k) ≤ 60000 * 60 + 1 := by
          have := bits_ch (k := k.toNat) u3 (by omega)
          rw [show ((k.toNat : Nat) : Int) = k by omega] at this
          exact bits_mono this (Nat.add_le_add_right (Nat.mul_le_mul_left _ (by omega)) _)
        refine ⟨_, rfl, _, rfl, _, _, rfl, rfl, ⟨_, 64, wb, bits_of (by omega) (by omega), by decide⟩, _, rfl, _, _, rfl, rfl, by omega, ?_⟩
        rw [ch_absorb k1 (by omega)]
        have sb : ch (t - 1) k = ch t k - ch (t - 1) (k - 1) := by
          have := ch_succ (n := t - 1) (k := k - 1) (by omega) (by omega)
          rw [show t - 1 + 1 = t by omega, show k - 1 + 1 = k by omega] at this
          omega
        refine ⟨_, rfl, _, rfl, _, _, rfl, rfl, _, rfl, ch t k - number, ch (t - 1) (k - 1), rfl, a2, ?_⟩
        generalize (ch t k - number + ch (t - 1) (k - 1) - 1) / ch (t - 1) (k - 1) = d at a3 a4 a5 ⊢
        have tb : intBits (t - d) ≤ 60000 := intBits_le_of_natAbs (y := t) (by omega) u3
        refine ⟨_, rfl, _, rfl, _, _, rfl, rfl, _, rfl, _, _, rfl, rfl, _, rfl, ifD (fun e => ?_) (fun e => ?_)⟩
        · subst e
          refine ⟨_, rfl, _, rfl, _, _, rfl, rfl, ⟨t - 1, _, _, by rw [sb]; rfl, rfl, a4, a5, tb⟩, ?_⟩
          show (t - 1).toNat < t.toNat
          omega
        · refine ⟨_, rfl, _, rfl, t - d, k, rfl, by omega, by omega, by omega, bits_mono tb (by decide), ?_⟩
          refine ⟨⟨t - d, _, _, rfl, rfl, a4, a5, tb⟩, ?_⟩
          show (t - d).toNat < t.toNat
          omega
      · refine ⟨_, rfl, q t ⟨u1, by omega, u2⟩ u3⟩
    · intro σ H2 R R' m h
      obtain ⟨v, e1, u, e2, i, j, e3, e4, b, e5, z⟩ := h
      exact ⟨v, e1, u, e2, i, j, e3, e4, b, e5, m _ _ z⟩
end
noncomputable def boxL (late : Int) (ns : List Int) : List Int := (List.range ns.length).map fun i => (ns.getD i 0 - (i : Int)) / (late + 1)
noncomputable def bellL (late : Int) (bs : List Int) : List Int := (List.range bs.length).map fun i => bs.getD i 0 * (late + 1) + (i : Int)
theorem boxL_length (late : Int) (ns : List Int) : (boxL late ns).length = ns.length := by unfold boxL; simp
theorem bellL_length (late : Int) (ns : List Int) : (bellL late ns).length = ns.length := by unfold bellL; simp
theorem boxL_get {late : Int} {ns : List Int} {i : Nat} {x : Int} (h : ns[i]? = some x) : (boxL late ns)[i]? = some ((x - (i : Int)) / (late + 1)) := by
  have hi := (List.getElem?_eq_some_iff.mp h).1
  unfold boxL
  rw [List.getElem?_map, List.getElem?_range hi]
  simp [List.getD_eq_getElem?_getD, h]
theorem bellL_get {late : Int} {ns : List Int} {i : Nat} {x : Int} (h : ns[i]? = some x) : (bellL late ns)[i]? = some (x * (late + 1) + (i : Int)) := by
  have hi := (List.getElem?_eq_some_iff.mp h).1
  unfold bellL
  rw [List.getElem?_map, List.getElem?_range hi]
  simp [List.getD_eq_getElem?_getD, h]
theorem boxL_get' {late : Int} {ns : List Int} {i : Nat} {y : Int} (h : (boxL late ns)[i]? = some y) : ∃ x, ns[i]? = some x ∧ y = (x - (i : Int)) / (late + 1) := by
  have hi := (List.getElem?_eq_some_iff.mp h).1
  rw [boxL_length] at hi
  have g := boxL_get (late := late) (List.getElem?_eq_getElem hi)
  rw [g] at h
  exact ⟨_, List.getElem?_eq_getElem hi, (Option.some.inj h).symm⟩
theorem bellL_get' {late : Int} {ns : List Int} {i : Nat} {y : Int} (h : (bellL late ns)[i]? = some y) : ∃ x, ns[i]? = some x ∧ y = x * (late + 1) + (i : Int) := by
  have hi := (List.getElem?_eq_some_iff.mp h).1
  rw [bellL_length] at hi
  have g := bellL_get (late := late) (List.getElem?_eq_getElem hi)
  rw [g] at h
  exact ⟨_, List.getElem?_eq_getElem hi, (Option.some.inj h).symm⟩
structure BoxL (bs : List Int) : Prop where
  inc : bs.Pairwise (· ≤ ·)
  nn : ∀ x ∈ bs, 0 ≤ x
  sz : ∀ x ∈ bs, x < 2 ^ 200
noncomputable def Szs (m : Nat) (ns : List Int) : Prop := ∀ x ∈ ns, intBits x ≤ m
theorem BoxL.szs {bs : List Int} (h : BoxL bs) : Szs 200 bs := fun x hx => bits_of (h.nn x hx) (h.sz x hx)
theorem RowL.szs {bs : List Int} (h : RowL bs) : Szs 200 bs := fun x hx => bits_of (h.nn x hx) (h.sz x hx)
section
variable {P : Program} {w : World} {K : PySem.W.Frag} {mg : Str → Option Value} {base : Heap}
noncomputable def spBoxOf (K : PySem.W.Frag) : Sp := fun vs H Q _ => ∃ (a : Addr) (ns : List Int) (late : Int), vs = [.ref a, .int late] ∧ SqL K H a (ns.map V.int) ∧ ns.length ≤ 1000 ∧ 0 ≤ late ∧ intBits late ≤ 8000 ∧
  ∀ (p : Addr) (H' : Hp), Same H H' → H p = none → H' p = some (.lst ((boxL late ns).map V.int)) → Q (.ref p) H'
end
section
variable {P : Program} {w : World} {K : PySem.W.Frag} {mg : Str → Option Value} {base : Heap}
theorem sc_box_of : FnScope ["row", "late"] ["row", "late"] (defScope st_box_of) := ⟨rfl, rfl, rfl, by decide +kernel, rfl, by decide +kernel, by decide +kernel⟩
theorem ok_box_of (D : Def K mg "box_of" st_box_of ["row", "late"]) (T : Txt K mg) : Fn P w K mg base 1 "box_of" ["row", "late"] (spBoxOf K) := by
  refine D.fn sc_box_of (fun vs H Q E h => ?_) (fun f cdv A outer s H vs Q E hr h => ?_)
  · obtain ⟨a, ns, late, rfl, _⟩ := h
    rfl
  · obtain ⟨a, ns, late, rfl, hA, hl, l0, lb, q⟩ := h
    refine ⟨_, (pss_one (ps_ret (pe_comp (own := ["place", "turn"]) (fr := ["late"]) (ix := [1]) rfl ⟨rfl, rfl, rfl, rfl, rfl, rfl⟩ (pi_enumL (by rfl) T.z_enumerate (pa_cons (pv 0) pa_nil)) (fun _ _ _ _ _ => (pg_tupK K (n := 2) rfl (pgs_cons (pg_name (i := 0) (show (["place", "turn", "late"] : List Str).Nodup by decide +kernel) rfl (Or.inl rfl)) (pgs_cons (pg_name (i := 1) (show (["place", "turn", "late"] : List Str).Nodup by decide +kernel) rfl (Or.inl rfl)) pgs_nil)))) (fun _ _ _ _ _ => pts_nil) (fun _ _ _ _ _ => (pe_op op_fdivB (pe_op op_subI (pv 1) (pv 0)) (pe_op op_addI (pv 2) pe_int)))))), ?_⟩
    have lb1 : intBits (late + 1) ≤ 9000 := bits_mono (intBits_add_le (m := 8000) (n := 1) lb (by decide)) (by decide)
    refine ⟨_, rfl, a, _, rfl, hA, fun acc hacc => comp_enumP (K := K) (a := a) (xs := ns.map V.int) (fun i => V.int ((ns.getD i 0 - (i : Int)) / (late + 1))) hA hacc ?_ ?_ ?_⟩
    · rw [List.length_map]; exact Nat.le_of_lt (small1000 hl)
    · intro i x t H2 R hx sm ht hR
      rw [List.getElem?_map] at hx
      obtain ⟨x', hx', rfl⟩ := Option.map_eq_some_iff.mp hx
      simp only [List.getD_eq_getElem?_getD, hx', Option.getD_some] at hR
      exact ⟨t, _, rfl, SqT.of ht, rfl, _, _, rfl, _, _, rfl, rfl, rfl, _, rfl, _, rfl, _, _, rfl, rfl, _, rfl, _, _, rfl, rfl, _, _, rfl, rfl, ⟨by omega, lb1⟩, hR⟩
    · intro H2 sm ha
      rw [List.length_map] at ha
      refine q acc H2 sm hacc ?_
      rw [ha]
      unfold boxL
      rw [List.map_map]
      rfl
end
section
variable {P : Program} {w : World} {K : PySem.W.Frag} {mg : Str → Option Value} {base : Heap}
noncomputable def spBellRow (K : PySem.W.Frag) : Sp := fun vs H Q _ => ∃ (a : Addr) (ns : List Int) (late : Int), vs = [.ref a, .int late] ∧ SqL K H a (ns.map V.int) ∧ ns.length ≤ 1000 ∧ intBits late ≤ 8000 ∧ Szs 70000 ns ∧
  ∀ (p : Addr) (H' : Hp), Same H H' → H p = none → H' p = some (.lst ((bellL late ns).map V.int)) → Q (.ref p) H'
theorem sc_bell_row : FnScope ["box", "late"] ["box", "late"] (defScope st_bell_row) := ⟨rfl, rfl, rfl, by decide +kernel, rfl, by decide +kernel, by decide +kernel⟩
theorem ok_bell_row (D : Def K mg "bell_row" st_bell_row ["box", "late"]) (T : Txt K mg) : Fn P w K mg base 1 "bell_row" ["box", "late"] (spBellRow K) := by
  refine D.fn sc_bell_row (fun vs H Q E h => ?_) (fun f cdv A outer s H vs Q E hr h => ?_)
  · obtain ⟨a, ns, late, rfl, _⟩ := h
    rfl
  · obtain ⟨a, ns, late, rfl, hA, hl, lb, hz, q⟩ := h
    refine ⟨_, (pss_one (ps_ret (pe_comp (own := ["place", "part"]) (fr := ["late"]) (ix := [1]) rfl ⟨rfl, rfl, rfl, rfl, rfl, rfl⟩ (pi_enumL (by rfl) T.z_enumerate (pa_cons (pv 0) pa_nil)) (fun _ _ _ _ _ => (pg_tupK K (n := 2) rfl (pgs_cons (pg_name (i := 0) (show (["place", "part", "late"] : List Str).Nodup by decide +kernel) rfl (Or.inl rfl)) (pgs_cons (pg_name (i := 1) (show (["place", "part", "late"] : List Str).Nodup by decide +kernel) rfl (Or.inl rfl)) pgs_nil)))) (fun _ _ _ _ _ => pts_nil) (fun _ _ _ _ _ => (pe_op op_addI (pe_op op_mulB (pv 1) (pe_op op_addI (pv 2) pe_int)) (pv 0)))))), ?_⟩
    have lb1 : intBits (late + 1) ≤ 9000 := bits_mono (intBits_add_le (m := 8000) (n := 1) lb (by decide)) (by decide)
    refine ⟨_, rfl, a, _, rfl, hA, fun acc hacc => comp_enumP (K := K) (a := a) (xs := ns.map V.int) (fun i => V.int (ns.getD i 0 * (late + 1) + (i : Int))) hA hacc ?_ ?_ ?_⟩
    · rw [List.length_map]; exact Nat.le_of_lt (small1000 hl)
    · intro i x t H2 R hx sm ht hR
      rw [List.getElem?_map] at hx
      obtain ⟨x', hx', rfl⟩ := Option.map_eq_some_iff.mp hx
      simp only [List.getD_eq_getElem?_getD, hx', Option.getD_some] at hR
      exact ⟨t, _, rfl, SqT.of ht, rfl, _, _, rfl, _, _, rfl, rfl, rfl, _, rfl, _, rfl, _, _, rfl, rfl, _, _, rfl, rfl, ⟨70000, 9000, hz x' (List.mem_of_getElem? hx'), lb1, by decide⟩, _, rfl, _, _, rfl, rfl, hR⟩
    · intro H2 sm ha
      rw [List.length_map] at ha
      refine q acc H2 sm hacc ?_
      rw [ha]
      unfold bellL
      rw [List.map_map]
      rfl
end
noncomputable def numTo (bs : List Int) : Nat → Int
  | 0 => 0
  | i + 1 => numTo bs i + ch (bs.getD i 0 + (i : Int)) ((i : Int) + 1)
noncomputable def numB (bs : List Int) : Int := numTo bs bs.length
structure IsBox (bs : List Int) : Prop where
  inc : bs.Pairwise (· ≤ ·)
  nn : ∀ x ∈ bs, 0 ≤ x
theorem BoxL.is {bs : List Int} (h : BoxL bs) : IsBox bs := ⟨h.inc, h.nn⟩
theorem sum_map_range (f : Nat → Int) (n : Nat) : ((List.range (n + 1)).map f).sum = ((List.range n).map f).sum + f n := by
  rw [List.range_succ, List.map_append, List.sum_append]
  simp
theorem numTo_sum (bs : List Int) : ∀ n : Nat, numTo bs n = ((List.range n).map fun i => ch (bs.getD i 0 + (i : Int)) ((i : Int) + 1)).sum
  | 0 => rfl
  | n + 1 => by
    rw [sum_map_range, ← numTo_sum bs n]
    rfl
theorem IsBox.get {bs : List Int} (B : IsBox bs) {i j : Nat} {x y : Int} (h : i ≤ j) (hx : bs[i]? = some x) (hy : bs[j]? = some y) : x ≤ y := by
  obtain ⟨h1, e1⟩ := List.getElem?_eq_some_iff.mp hx
  obtain ⟨h2, e2⟩ := List.getElem?_eq_some_iff.mp hy
  rcases Nat.lt_or_eq_of_le h with z | z
  · have := List.pairwise_iff_getElem.mp B.inc i j h1 h2 z
    omega
  · subst z; omega
theorem IsBox.nn' {bs : List Int} (B : IsBox bs) {i : Nat} : 0 ≤ bs.getD i 0 := by
  rw [List.getD_eq_getElem?_getD]
  cases h : bs[i]? with
  | none => exact Int.le_refl _
  | some x => exact B.nn x (List.mem_of_getElem? h)
theorem IsBox.le' {bs : List Int} (B : IsBox bs) {i j : Nat} (h : i ≤ j) (hj : j < bs.length) : bs.getD i 0 ≤ bs.getD j 0 := by
  have hi : i < bs.length := by omega
  rw [List.getD_eq_getElem?_getD, List.getD_eq_getElem?_getD, List.getElem?_eq_getElem hi, List.getElem?_eq_getElem hj]
  exact B.get h (List.getElem?_eq_getElem hi) (List.getElem?_eq_getElem hj)
theorem numTo_nonneg (bs : List Int) : ∀ n, 0 ≤ numTo bs n
  | 0 => Int.le_refl _
  | n + 1 => by
    have := numTo_nonneg bs n
    have := ch_nonneg (bs.getD n 0 + (n : Int)) ((n : Int) + 1)
    show 0 ≤ numTo bs n + _
    omega
theorem numTo_lt {bs : List Int} (B : IsBox bs) : ∀ (i : Nat) (c : Int), i ≤ bs.length → 0 ≤ c → (∀ j, j < i → bs.getD j 0 ≤ c) → numTo bs i < ch (c + (i : Int)) (i : Int)
  | 0, c, _, _, _ => by
    show (0 : Int) < ch (c + ((0 : Nat) : Int)) 0
    rw [ch_zero]; decide
  | i + 1, c, hi, hc, hb => by
    have b0 := B.nn' (i := i)
    have ih := numTo_lt B i (bs.getD i 0) (by omega) b0 (fun j hj => B.le' (by omega) (by omega))
    have p := ch_succ (n := bs.getD i 0 + (i : Int)) (k := (i : Int)) (by omega) (by omega)
    have m := ch_mono (m := bs.getD i 0 + (i : Int) + 1) (n := c + ((i + 1 : Nat) : Int)) (k := ((i + 1 : Nat) : Int)) (by have := hb i (by omega); omega)
    rw [show ((i + 1 : Nat) : Int) = (i : Int) + 1 by omega] at m ⊢
    show numTo bs i + ch (bs.getD i 0 + (i : Int)) ((i : Int) + 1) < _
    omega
theorem numTo_top {bs : List Int} (B : IsBox bs) {i : Nat} (hi : i < bs.length) : IsTop ((i : Int) + 1) (numTo bs (i + 1)) (bs.getD i 0 + (i : Int)) := by
  have b0 := B.nn' (i := i)
  have a := numTo_lt B (i + 1) (bs.getD i 0) hi b0 (fun j hj => B.le' (by omega) hi)
  have n0 := numTo_nonneg bs i
  refine ⟨by omega, ?_, ?_⟩
  · show _ ≤ numTo bs i + _
    omega
  · rw [show ((i + 1 : Nat) : Int) = (i : Int) + 1 by omega] at a
    rw [show bs.getD i 0 + (i : Int) + 1 = bs.getD i 0 + ((i : Int) + 1) by omega]
    exact a
section
variable {P : Program} {w : World} {K : PySem.W.Frag} {mg : Str → Option Value} {base : Heap}
noncomputable def spNum (K : PySem.W.Frag) : Sp := fun vs H Q _ => ∃ (a : Addr) (bs : List Int), vs = [.ref a] ∧ SqL K H a (bs.map V.int) ∧ bs.length ≤ 900 ∧ (∀ x ∈ bs, 0 ≤ x) ∧ Szs 70000 bs ∧
  ∀ H', Same H H' → Q (.int (numB bs)) H'
theorem sc_box_number : FnScope ["box"] ["box"] (defScope st_box_number) := ⟨rfl, rfl, rfl, by decide +kernel, rfl, by decide +kernel, by decide +kernel⟩
theorem ok_box_number (D : Def K mg "box_number" st_box_number ["box"]) (T : Txt K mg) (G_choose : Fn P w K mg base 1 "choose" ["n", "k"] spChoose) : Fn P w K mg base 2 "box_number" ["box"] (spNum K) := by
  refine D.fn sc_box_number (fun vs H Q E h => ?_) (fun f cdv A outer s H vs Q E hr h => ?_)
  · obtain ⟨a, bs, rfl, _⟩ := h
    rfl
  · obtain ⟨a, bs, rfl, hA, hl, nn, sz, q⟩ := h
    refine ⟨_, (pss_one (ps_ret (pe_callB (call_sum rfl) (by rfl) T.z_sum b_sum (pa_cons (pe_comp (own := ["place", "part"]) (fr := []) (ix := []) rfl ⟨rfl, rfl, rfl, rfl, rfl, rfl⟩ (pi_enumL (by rfl) T.z_enumerate (pa_cons (pv 0) pa_nil)) (fun _ _ _ _ _ => (pg_tupK K (n := 2) rfl (pgs_cons (pg_name (i := 0) (show (["place", "part"] : List Str).Nodup by decide +kernel) rfl (Or.inl rfl)) (pgs_cons (pg_name (i := 1) (show (["place", "part"] : List Str).Nodup by decide +kernel) rfl (Or.inl rfl)) pgs_nil)))) (fun _ _ _ _ _ => pts_nil) (fun _ _ _ _ _ => (pe_fn G_choose (hr.mono (by decide)) (by rfl) (pa_cons (pe_op op_addI (pv 1) (pv 0)) (pa_cons (pe_op op_addI (pv 0) pe_int) pa_nil))))) pa_nil)))), ?_⟩
    refine ⟨_, rfl, a, _, rfl, hA, fun acc hacc => comp_enumP (K := K) (a := a) (xs := bs.map V.int) (fun i => V.int (ch (bs.getD i 0 + (i : Int)) ((i : Int) + 1))) hA hacc ?_ ?_ ?_⟩
    · rw [List.length_map]; exact Nat.le_of_lt (small1000 (by omega))
    · intro i x t H2 R hx sm ht hR
      rw [List.getElem?_map] at hx
      obtain ⟨x', hx', rfl⟩ := Option.map_eq_some_iff.mp hx
      simp only [List.getD_eq_getElem?_getD, hx', Option.getD_some] at hR
      have hi := (List.getElem?_eq_some_iff.mp hx').1
      have x0 := nn x' (List.mem_of_getElem? hx')
      have xb := sz x' (List.mem_of_getElem? hx')
      exact ⟨t, _, rfl, SqT.of ht, rfl, _, _, rfl, _, _, rfl, rfl, rfl, _, rfl, _, rfl, _, _, rfl, rfl, _, rfl, _, _, rfl, rfl, _, _, rfl, by omega, by omega, by omega, bits_mono (intBits_add_le (m := 70000) (n := 64) xb (bits_of (by omega) (by omega))) (by decide), hR⟩
    · intro H2 sm ha
      rw [List.length_map] at ha
      refine ⟨acc, (List.range bs.length).map fun i => ch (bs.getD i 0 + (i : Int)) ((i : Int) + 1), rfl, SqL.of ?_, ?_⟩
      · rw [ha, List.map_map]; rfl
      · rw [← numTo_sum]
        exact q H2 sm
end
noncomputable def AscB : Int → List Int → Prop
  | _, [] => True
  | b, x :: r => b ≤ x ∧ AscB x r
theorem ascb_all : ∀ {b : Int} {xs : List Int}, AscB b xs → ∀ x ∈ xs, b ≤ x
  | _, [], _, _, z => nomatch z
  | b, y :: r, h, x, hx => by
    rcases List.mem_cons.mp hx with e | e
    · rw [e]; exact h.1
    · have := ascb_all h.2 x e
      have := h.1
      omega
theorem ascb_pw : ∀ {b : Int} {xs : List Int}, AscB b xs → xs.Pairwise (· ≤ ·)
  | _, [], _ => List.Pairwise.nil
  | _, _ :: _, h => List.pairwise_cons.mpr ⟨ascb_all h.2, ascb_pw h.2⟩
theorem ascb_of : ∀ {b : Int} {xs : List Int}, xs.Pairwise (· ≤ ·) → (∀ x ∈ xs, b ≤ x) → AscB b xs
  | _, [], _, _ => trivial
  | _, x :: r, hp, h => by
    obtain ⟨p1, p2⟩ := List.pairwise_cons.mp hp
    exact ⟨h x (by simp), ascb_of p2 p1⟩
theorem isBox_asc {bs : List Int} : IsBox bs ↔ AscB 0 bs := ⟨fun h => ascb_of h.inc h.nn, fun h => ⟨ascb_pw h, ascb_all h⟩⟩
theorem ascb_drop {bs : List Int} {i : Nat} {x b : Int} (h : bs[i]? = some x) : AscB b (bs.drop i) ↔ b ≤ x ∧ AscB x (bs.drop (i + 1)) := by
  obtain ⟨hi, e⟩ := List.getElem?_eq_some_iff.mp h
  rw [List.drop_eq_getElem_cons hi, e]
  exact Iff.rfl
section
variable {P : Program} {w : World} {K : PySem.W.Frag} {mg : Str → Option Value} {base : Heap}
noncomputable def spHBoxE (K : PySem.W.Frag) (C : Addr) : Sp := fun vs H Q E => ∃ (a : Addr) (ns : List Int) (late : Int), vs = [.ref a, .int late] ∧ SqL K H a (ns.map V.int) ∧ ns.length ≤ 1000 ∧ 0 ≤ late ∧ intBits late ≤ 8000 ∧
  (IsBox (boxL late ns) → ∀ (p : Addr) (H' : Hp), Same H H' → H p = none → H' p = some (.lst ((boxL late ns).map V.int)) → Q (.ref p) H') ∧
  (¬ IsBox (boxL late ns) → ∀ H', Same H H' → E (.ref C) none H')
theorem sc_heard_box : FnScope ["reading", "late", "box", "before", "part"] ["reading", "late"] (defScope st_heard_box) := ⟨rfl, rfl, rfl, by decide +kernel, rfl, by decide +kernel, by decide +kernel⟩
theorem ok_heard_boxE {C_NoReading : Addr} (D : Def K mg "heard_box" st_heard_box ["reading", "late"]) (T : Txt K mg) (m_NoReading : mg "NoReading" = some (.ref C_NoReading)) (x_NoReading : PySem.W.excIn K C_NoReading bmV "ValueError.__new__" = true) (G_box_of : Fn P w K mg base 1 "box_of" ["row", "late"] (spBoxOf K)) : FnE P w K mg base 2 "heard_box" ["reading", "late"] (spHBoxE K C_NoReading) := by
  refine D.fnE sc_heard_box (fun vs H Q E h => ?_) (fun f cdv A outer s H vs Q E hr h => ?_)
  · obtain ⟨a, ns, late, rfl, _⟩ := h
    rfl
  · obtain ⟨a, ns, late, rfl, hA, hl, l0, lb, q, q2⟩ := h
    refine ⟨_, (pss_cons (ps_set (i := 2) sc_heard_box.nd rfl (Or.inl rfl) (pe_fn G_box_of (hr.mono (by decide)) (by rfl) (pa_cons (pv 0) (pa_cons (pv 1) pa_nil))))
      (pss_cons (ps_set (i := 3) sc_heard_box.nd rfl (Or.inl rfl) pe_int)
      (pss_cons (ps_for PassesOwn.leaving rfl (pi_list (pv 2)) (pg_name (i := 4) sc_heard_box.nd rfl (Or.inl rfl))
        (pss_cons (ps_if (pt_cmpR op_ltI (pv 4) (pv 3) (nomark _))
          (pss_one (ps_raise PySem.F.excBase_ValueError x_NoReading (by rfl) m_NoReading (pa_cons pe_str pa_nil)))
          pss_nil)
        (pss_one (ps_set (i := 3) sc_heard_box.nd rfl (Or.inl rfl) (pv 4)))))
      (pss_one (ps_ret (pv 2)))))), ?_⟩
    refine ⟨_, rfl, _, rfl, a, ns, late, rfl, hA, hl, l0, lb, fun p H1 s1 hp h1 => ?_⟩
    generalize hbs : boxL late ns = bs at h1 q q2
    refine ⟨_, rfl, p, rfl, ⟨_, SqL.of h1⟩, for_list (K := K) (a := p) (xs := bs.map V.int) (fun i σ H2 => ∃ (before : Int) (v4 : Option V), σ = [some (.ref a), some (.int late), some (.ref p), some (.int before), v4] ∧ H2 = H1 ∧ (IsBox bs ↔ AscB before (bs.drop i)))
      ⟨0, none, rfl, rfl, by rw [List.drop_zero]; exact isBox_asc⟩ (fun i σ H2 _ ⟨_, _, _, e, _⟩ => e ▸ SqL.of h1) ?_ ?_⟩
    · rintro i y σ H2 hi ⟨before, v4, rfl, rfl, hb⟩
      rw [List.getElem?_map] at hi
      obtain ⟨x, hx, rfl⟩ := Option.map_eq_some_iff.mp hi
      rw [ascb_drop hx] at hb
      refine ⟨_, rfl, _, rfl, _, _, rfl, rfl, _, rfl, ifD (fun h => ?_) (fun h => ⟨_, rfl, x, _, rfl, rfl, hb.trans ⟨fun z => z.2, fun z => ⟨by omega, z⟩⟩⟩)⟩
      exact ⟨(by decide), q2 (fun B => by have := (hb.mp B).1; omega) _ s1⟩
    · rintro σ H2 ⟨before, v4, rfl, rfl, hb⟩
      rw [List.length_map, List.drop_length] at hb
      exact ⟨_, rfl, q (hb.mpr trivial) p _ s1 hp h1⟩
end
theorem getD_set {bs : List Int} {i j : Nat} {v : Int} (hi : i < bs.length) : (bs.set i v).getD j 0 = if j = i then v else bs.getD j 0 := by
  rw [List.getD_eq_getElem?_getD, List.getD_eq_getElem?_getD, List.getElem?_set]
  by_cases h : i = j
  · subst h; simp [hi]
  · rw [if_neg h, if_neg (fun z => h z.symm)]
theorem numTo_set {bs : List Int} {i : Nat} {v : Int} (hi : i < bs.length) : ∀ n : Nat, numTo (bs.set i v) n = numTo bs n + if i < n then ch (v + (i : Int)) ((i : Int) + 1) - ch (bs.getD i 0 + (i : Int)) ((i : Int) + 1) else 0
  | 0 => by rw [if_neg (Nat.not_lt_zero _)]; rfl
  | n + 1 => by
    show numTo (bs.set i v) n + ch ((bs.set i v).getD n 0 + (n : Int)) ((n : Int) + 1) = numTo bs n + ch (bs.getD n 0 + (n : Int)) ((n : Int) + 1) + _
    rw [numTo_set hi n, getD_set hi]
    by_cases h1 : n = i
    · subst h1
      rw [if_pos rfl, if_neg (Nat.lt_irrefl _), if_pos (Nat.lt_succ_self _)]
      omega
    · rw [if_neg h1]
      by_cases h2 : i < n
      · rw [if_pos h2, if_pos (by omega)]; omega
      · rw [if_neg h2, if_neg (by omega)]; omega
theorem numTo_zeros (m : Nat) : ∀ n : Nat, numTo (List.replicate m 0) n = 0
  | 0 => rfl
  | n + 1 => by
    have e : (List.replicate m (0 : Int)).getD n 0 = 0 := by
      rw [List.getD_eq_getElem?_getD, List.getElem?_replicate]
      split <;> rfl
    show numTo (List.replicate m 0) n + ch ((List.replicate m (0 : Int)).getD n 0 + (n : Int)) ((n : Int) + 1) = 0
    rw [numTo_zeros m n, e, ch_above (by omega) (by omega)]
    rfl
theorem flat_zeros : ∀ n : Nat, (List.replicate n [V.int 0]).flatten = (List.replicate n (0 : Int)).map V.int
  | 0 => rfl
  | n + 1 => by
    rw [List.replicate_succ, List.flatten_cons, flat_zeros n, List.replicate_succ, List.map_cons]
    rfl
theorem rng_down {n : Nat} (h : n ≤ 1000) : (-1 : Int) ≠ 0 ∧ (-1 : Int).natAbs < 1073741824 ∧ Builtin.Range.small ((n : Int) - 1) (-1) (-1) = true ∧ Builtin.Range.rangeSize ((n : Int) - 1) (-1) (-1) = (n : Int) := by
  have hs : Builtin.Range.rangeSize ((n : Int) - 1) (-1) (-1) = (n : Int) := by
    unfold Builtin.Range.rangeSize
    rw [if_neg (by decide)]
    by_cases z : n = 0
    · subst z; rfl
    · rw [if_pos (by omega)]
      show ((n : Int) - 1 - -1 - 1) / (- -1) + 1 = n
      rw [show (- -1 : Int) = 1 by decide, Int.ediv_one]
      omega
  refine ⟨by decide, by decide, ?_, hs⟩
  unfold Builtin.Range.small
  rw [hs]
  simp only [Builtin.Range.rangeFitsLong]
  simp
  omega
theorem isBox_of {bs : List Int} (h0 : ∀ j, j < bs.length → 0 ≤ bs.getD j 0) (hm : ∀ j k, j ≤ k → k < bs.length → bs.getD j 0 ≤ bs.getD k 0) : IsBox bs := by
  have eg : ∀ (j : Nat) (h : j < bs.length), bs.getD j 0 = bs[j] := fun j h => by rw [List.getD_eq_getElem?_getD, List.getElem?_eq_getElem h]; rfl
  refine ⟨List.pairwise_iff_getElem.mpr fun i j hi hj hij => ?_, fun x hx => ?_⟩
  · have := hm i j (by omega) hj
    rw [eg i hi, eg j hj] at this
    exact this
  · obtain ⟨j, hj, rfl⟩ := List.getElem_of_mem hx
    rw [← eg j hj]
    exact h0 j hj
theorem C_more (m : Nat) : ∀ n : Nat, m < C (m + (n + 1)) (n + 1)
  | 0 => by rw [C_one]; omega
  | n + 1 => by
    have := C_more m n
    rw [show m + (n + 1 + 1) = (m + (n + 1)) + 1 by omega, C_succ]
    omega
theorem ch_more {m : Int} {n : Nat} (h0 : 0 ≤ m) (hz : (n : Int) = 0 → m = 0) : m < ch (m + (n : Int)) (n : Int) := by
  cases n with
  | zero =>
    have := hz rfl
    subst this
    rw [show ((0 : Nat) : Int) = 0 from rfl, ch_zero]
    decide
  | succ n =>
    obtain ⟨r, rfl⟩ : ∃ r : Nat, m = (r : Int) := ⟨m.toNat, by omega⟩
    rw [← Int.natCast_add, ch_nat]
    have := C_more r n
    omega
theorem top_lt {k a b c : Int} (h1 : ch a k ≤ c) (h2 : c < ch b k) : a < b := by
  rcases (by omega : a < b ∨ b ≤ a) with z | z
  · exact z
  · have := ch_mono (k := k) z
    omega
section
variable {P : Program} {w : World} {K : PySem.W.Frag} {mg : Str → Option Value} {base : Heap}
noncomputable def GoodM (message bells : Int) : Prop := 0 ≤ message ∧ (bells = 0 → message = 0)
noncomputable def spBoxMsgE (K : PySem.W.Frag) (C : Addr) : Sp := fun vs H Q E => ∃ message bells : Int, vs = [.int message, .int bells] ∧ 0 ≤ bells ∧ bells ≤ 60 ∧ intBits message ≤ 50000 ∧
  (GoodM message bells → ∀ (p : Addr) (bs : List Int) (H' : Hp), Same H H' → H p = none → H' p = some (.lst (bs.map V.int)) → IsBox bs → bs.length = bells.toNat → numB bs = message → Szs 60010 bs → Q (.ref p) H') ∧
  (¬ GoodM message bells → E (.ref C) none H)
theorem sc_box_of_message : FnScope ["message", "bells", "box", "left", "top", "place"] ["message", "bells"] (defScope st_box_of_message) := ⟨rfl, rfl, rfl, by decide +kernel, rfl, by decide +kernel, by decide +kernel⟩
theorem ok_box_of_messageE {C_TooGreat : Addr} (D : Def K mg "box_of_message" st_box_of_message ["message", "bells"]) (T : Txt K mg) (m_TooGreat : mg "TooGreat" = some (.ref C_TooGreat)) (x_TooGreat : PySem.W.excIn K C_TooGreat bmV "ValueError.__new__" = true) (G_above_top : Fn P w K mg base 37 "above_top" ["k", "number"] spAbove) (G_top_from : Fn P w K mg base 37 "top_from" ["start", "k", "number"] spTopFrom) (G_choose : Fn P w K mg base 1 "choose" ["n", "k"] spChoose) :
    FnE P w K mg base 39 "box_of_message" ["message", "bells"] (spBoxMsgE K C_TooGreat) := by
  refine D.fnE sc_box_of_message (fun vs H Q E h => ?_) (fun f cdv A outer s H vs Q E hr h => ?_)
  · obtain ⟨a, bs, rfl, _⟩ := h
    rfl
  · obtain ⟨message, bells, rfl, b0, b60, mb, q1, q2⟩ := h
    refine ⟨_, (pss_cons (ps_if (pw_or (pt_cmpR op_ltI (pv 0) pe_int (nomark _)) (pw_or1 (pw_and (pt_cmpR op_eqI (pv 1) pe_int (nomark _)) (pw_and1 (pt_cmpR op_neI (pv 0) pe_int (nomark _)))).pt)).pt
        (pss_one (ps_raise PySem.F.excBase_ValueError x_TooGreat (by rfl) m_TooGreat (pa_cons pe_str pa_nil)))
        pss_nil)
      (pss_cons (ps_set (i := 2) sc_box_of_message.nd rfl (Or.inl rfl) (pe_op op_rep (pe_lst (pa_cons pe_int pa_nil)) (pv 1)))
      (pss_cons (ps_set (i := 3) sc_box_of_message.nd rfl (Or.inl rfl) (pv 0))
      (pss_cons (ps_set (i := 4) sc_box_of_message.nd rfl (Or.inl rfl) (pe_op op_addI (pv 0) (pv 1)))
      (pss_cons (ps_for PassesOwn.leaving rfl (pi_range3 (by rfl) T.z_range (pa_cons (pe_op op_subI (pv 1) pe_int) (pa_cons (pe_un un_neg pe_int) (pa_cons (pe_un un_neg pe_int) pa_nil)))) (pg_name (i := 5) sc_box_of_message.nd rfl (Or.inl rfl))
        (pss_cons (ps_set (i := 4) sc_box_of_message.nd rfl (Or.inl rfl) (pe_fn G_top_from (hr.mono (by decide)) (by rfl) (pa_cons (pe_callB (call_min2 rfl) (by rfl) T.z_min b_min (pa_cons (pe_op op_subI (pv 4) pe_int) (pa_cons (pe_fn G_above_top (hr.mono (by decide)) (by rfl) (pa_cons (pe_op op_addI (pv 5) pe_int) (pa_cons (pv 3) pa_nil))) pa_nil))) (pa_cons (pe_op op_addI (pv 5) pe_int) (pa_cons (pv 3) pa_nil)))))
        (pss_cons (ps_asg (pe_op op_subI (pv 4) (pv 5)) (pg_sub (pv 2) (pv 5) set_list))
        (pss_one (ps_set (i := 3) sc_box_of_message.nd rfl (Or.inl rfl) (pe_op op_subI (pv 3) (pe_fn G_choose (hr.mono (by decide)) (by rfl) (pa_cons (pv 4) (pa_cons (pe_op op_addI (pv 5) pe_int) pa_nil)))))))))
      (pss_one (ps_ret (pv 2)))))))), ?_⟩
    obtain ⟨n, rfl⟩ : ∃ n : Nat, bells = (n : Int) := ⟨bells.toNat, by omega⟩
    refine ⟨_, rfl, _, _, rfl, rfl, _, rfl, ifD (fun h => ⟨(by decide), q2 (fun g => by have := g.1; omega)⟩) (fun h => ⟨_, rfl, _, _, rfl, rfl, _, rfl, ?_⟩)⟩
    refine ifD (fun z => ⟨_, rfl, _, _, rfl, rfl, _, rfl, ifND (fun e => ⟨(by decide), q2 (fun g => e (g.2 z))⟩) (fun e => ?x1)⟩) (fun z => ?x2)
    all_goals
      have m0 : 0 ≤ message := by omega
      have mz : (n : Int) = 0 → message = 0 := fun z' => by omega
      have q := q1 ⟨m0, mz⟩
      refine ⟨(by decide), fun l hl => ⟨_, rfl, l, (n : Int), _, rfl, rfl, upd_same, by omega, by omega, ?_, fun p hp => ?_⟩⟩
      · show 1 * ((n : Int)).toNat ≤ sizeLine
        exact Nat.le_of_lt (small1000 (by omega))
      rw [show ((n : Int)).toNat = n by omega, flat_zeros]
      have hp0 : H p = none := (Same.new hl).free hp
      have s1 : Same H (upd (upd H l (.lst [V.int 0])) p (.lst ((List.replicate n (0 : Int)).map V.int))) := (Same.new hl).put hp
      have h1 : (upd (upd H l (.lst [V.int 0])) p (.lst ((List.replicate n (0 : Int)).map V.int))) p = some (.lst ((List.replicate n (0 : Int)).map V.int)) := upd_same
      generalize upd (upd H l (.lst [V.int 0])) p (.lst ((List.replicate n (0 : Int)).map V.int)) = H1 at s1 h1 ⊢
      have mb2 : intBits (message + (n : Int)) ≤ 60000 := bits_mono (intBits_add_le (m := 50000) (n := 64) mb (bits_of (by omega) (by omega))) (by decide)
      refine ⟨_, rfl, _, rfl, _, rfl, _, _, rfl, rfl, _, rfl, _, _, rfl, rfl, 1, rfl, 1, rfl, (n : Int) - 1, -1, -1, n, rfl, rng_down (by omega), for_range3 (lo := (n : Int) - 1) (c := -1) (n := n) (fun i σ H2 => ∃ (bs : List Int) (left top : Int) (v5 : Option V), σ = [some (.int message), some (.int (n : Int)), some (.ref p), some (.int left), some (.int top), v5] ∧ Same H H2 ∧ H2 p = some (.lst (bs.map V.int)) ∧ bs.length = n ∧ 0 ≤ left ∧ left ≤ message ∧ left + numTo bs n = message ∧ (∀ j, j < n - i → bs.getD j 0 = 0) ∧ (∀ j, j < n → 0 ≤ bs.getD j 0) ∧ (∀ j k, n - i ≤ j → j ≤ k → k < n → bs.getD j 0 ≤ bs.getD k 0) ∧ left < ch top ((n - i : Nat) : Int) ∧ ((n - i : Nat) : Int) ≤ top ∧ intBits top ≤ 60000 ∧ (0 < i → top = bs.getD (n - i) 0 + ((n - i : Nat) : Int)) ∧ Szs 60010 bs)
        ⟨List.replicate n 0, message, message + (n : Int), none, rfl, s1, h1, by rw [List.length_replicate], m0, Int.le_refl _, by rw [numTo_zeros]; omega, fun j _ => ?_, fun j _ => ?_, fun j k h1 h2 h3 => by omega, by rw [Nat.sub_zero]; exact ch_more m0 mz, by omega, mb2, fun z => absurd z (by omega), fun x hx => ?_⟩ ?_ ?_⟩
      · rw [List.getD_eq_getElem?_getD, List.getElem?_replicate]
        split <;> rfl
      · rw [List.getD_eq_getElem?_getD, List.getElem?_replicate]
        split <;> decide
      · rw [(List.mem_replicate.mp hx).2]; decide
      · rintro i σ H2 hi ⟨bs, left, top, v5, rfl, sm, hB, hl2, l0, l1, sum, z0, nn, mono, lt, tge, tbb, teq, sz⟩
        obtain ⟨pl, hpl⟩ : ∃ pl : Nat, pl = n - 1 - i := ⟨_, rfl⟩
        have ep : (n : Int) - 1 + (i : Int) * -1 = (pl : Int) := by omega
        rw [ep]
        have hpb : pl < bs.length := by omega
        have hni : n - i = pl + 1 := by omega
        rw [hni] at lt tge teq
        refine ⟨_, rfl, _, _, rfl, rfl, _, rfl, _, _, rfl, rfl, _, rfl, (pl : Int) + 1, left, rfl, by omega, by omega, l0, intBits_le_of_natAbs (y := message) (by omega) mb, fun a a1 a2 a3 => ⟨_, _, rfl, _, rfl, _, _, rfl, rfl, _, rfl, _, (pl : Int) + 1, left, rfl, by omega, by omega, l0, ?_, ?_, ?_, fun t tp tb => ?_⟩⟩
        · split <;> omega
        · split
          · exact a2
          · rw [show top - 1 + 1 = top by omega, show ((pl : Int) + 1) = ((pl + 1 : Nat) : Int) by omega]
            exact lt
        · split
          · exact a3
          · exact intBits_le_of_natAbs (y := top) (by omega) tbb
        have t0 := tp.lo
        have t1 := tp.le
        have t2 := tp.lt
        refine ⟨_, rfl, _, rfl, _, _, rfl, rfl, _, rfl, _, rfl, p, _, _, pl, rfl, rfl, hB, ?_, ?_⟩
        · unfold ixN
          rw [List.length_map, if_pos (by omega), if_pos (by omega), Int.toNat_natCast]
        have pas := ch_succ (n := t) (k := (pl : Int)) (by omega) (by omega)
        refine ⟨_, rfl, _, rfl, _, rfl, _, _, rfl, rfl, t, (pl : Int) + 1, rfl, by omega, by omega, by omega, bits_mono tb (by decide), _, _, rfl, rfl, ?_⟩
        have ge := ch_nonneg t ((pl : Int) + 1)
        refine ⟨bs.set pl (t - (pl : Int)), left - ch t ((pl : Int) + 1), t, _, rfl, sm.wr hp0, by rw [upd_same, List.map_set], by rw [List.length_set]; exact hl2, by omega, by omega, ?_, fun j hj => ?_, fun j hj => ?_, fun j k h1 h2 h3 => ?_, ?_, by omega, tb, fun _ => ?_, fun x hx => ?_⟩
        · rw [numTo_set hpb, if_pos (by omega), z0 pl (by omega), ch_above (n := 0 + (pl : Int)) (by omega) (by omega), show t - (pl : Int) + (pl : Int) = t by omega]
          omega
        · rw [getD_set hpb, if_neg (by omega)]
          exact z0 j (by omega)
        · rw [getD_set hpb]
          split
          · omega
          · exact nn j hj
        · rw [getD_set hpb, getD_set hpb]
          by_cases e1 : j = pl
          · rw [if_pos e1]
            by_cases e2 : k = pl
            · rw [if_pos e2]; exact Int.le_refl _
            · rw [if_neg e2]
              have := top_lt t1 (by rw [show ((pl : Int) + 1) = ((pl + 1 : Nat) : Int) by omega]; exact lt)
              have := teq (by omega)
              have := mono (pl + 1) k (by omega) (by omega) h3
              omega
          · rw [if_neg e1, if_neg (by omega)]
            exact mono j k (by omega) h2 h3
        · rw [show n - (i + 1) = pl by omega]
          omega
        · rw [show n - (i + 1) = pl by omega, getD_set hpb, if_pos rfl, show t - (pl : Int) + (pl : Int) = t by omega]
        · rcases List.mem_or_eq_of_mem_set hx with z | z
          · exact sz x z
          · rw [z]
            exact bits_mono (intBits_sub_le (m := 60000) (n := 64) tb (bits_of (by omega) (by omega))) (by decide)
      · rintro σ H2 ⟨bs, left, top, v5, rfl, sm, hB, hl2, l0, l1, sum, z0, nn, mono, lt, tge, tbb, teq, sz⟩
        rw [Nat.sub_self] at z0 mono lt
        have e0 : left = 0 := by
          by_cases hn : n = 0
          · subst hn
            have : message = 0 := mz rfl
            omega
          · rw [show ((0 : Nat) : Int) = 0 from rfl, ch_zero] at lt
            omega
        refine ⟨_, rfl, q p bs H2 sm hp0 hB (isBox_of (fun j hj => nn j (by omega)) (fun j k h1 h2 => mono j k (Nat.zero_le _) h1 (by omega))) (by omega) ?_ sz⟩
        unfold numB
        rw [hl2]
        omega
end
noncomputable def cnt (turns bells late : Int) : Int := if turns < bells then 0 else ch ((turns - bells) / (late + 1) + bells) bells
noncomputable def spCount : Sp := fun vs H Q _ => ∃ turns bells late : Int, vs = [.int turns, .int bells, .int late] ∧ 0 ≤ bells ∧ bells ≤ 1000 ∧ 0 ≤ late ∧ intBits late ≤ 8000 ∧ intBits turns ≤ 70000 ∧ Q (.int (cnt turns bells late)) H
section
variable {P : Program} {w : World} {K : PySem.W.Frag} {mg : Str → Option Value} {base : Heap}
noncomputable def spGreat : Sp := fun vs H Q _ => ∃ turns bells late : Int, vs = [.int turns, .int bells, .int late] ∧ 0 ≤ late ∧ intBits late ≤ 8000 ∧ Q (.int ((turns - bells) / (late + 1))) H
theorem sc_greatest_part : FnScope ["turns", "bells", "late"] ["turns", "bells", "late"] (defScope st_greatest_part) := ⟨rfl, rfl, rfl, by decide +kernel, rfl, by decide +kernel, by decide +kernel⟩
theorem ok_greatest_part (D : Def K mg "greatest_part" st_greatest_part ["turns", "bells", "late"]) : Fn P w K mg base 1 "greatest_part" ["turns", "bells", "late"] spGreat := by
  refine D.fn sc_greatest_part (fun vs H Q E h => ?_) (fun f cdv A outer s H vs Q E hr h => ?_)
  · obtain ⟨a, b, c, rfl, _⟩ := h
    rfl
  · obtain ⟨turns, bells, late, rfl, l0, lb, q⟩ := h
    refine ⟨_, (pss_one (ps_ret (pe_op op_fdivB (pe_op op_subI (pv 0) (pv 1)) (pe_op op_addI (pv 2) pe_int)))), ?_⟩
    have lb1 : intBits (late + 1) ≤ 9000 := bits_mono (intBits_add_le (m := 8000) (n := 1) lb (by decide)) (by decide)
    exact ⟨_, rfl, _, rfl, _, _, rfl, rfl, _, rfl, _, _, rfl, rfl, _, _, rfl, rfl, ⟨by omega, lb1⟩, q⟩
theorem sc_box_count : FnScope ["turns", "bells", "late"] ["turns", "bells", "late"] (defScope st_box_count) := ⟨rfl, rfl, rfl, by decide +kernel, rfl, by decide +kernel, by decide +kernel⟩
theorem ok_box_count (D : Def K mg "box_count" st_box_count ["turns", "bells", "late"]) (T : Txt K mg) (G_greatest_part : Fn P w K mg base 1 "greatest_part" ["turns", "bells", "late"] spGreat) (G_choose : Fn P w K mg base 1 "choose" ["n", "k"] spChoose) : Fn P w K mg base 2 "box_count" ["turns", "bells", "late"] spCount := by
  refine D.fn sc_box_count (fun vs H Q E h => ?_) (fun f cdv A outer s H vs Q E hr h => ?_)
  · obtain ⟨a, b, c, rfl, _⟩ := h
    rfl
  · obtain ⟨turns, bells, late, rfl, b0, b1, l0, lb, tb, q⟩ := h
    refine ⟨_, (pss_cons (ps_if (pt_cmpR op_gtI (pv 1) (pv 0) (nomark _))
        (pss_one (ps_ret pe_int))
        pss_nil)
      (pss_one (ps_ret (pe_fn G_choose (hr.mono (by decide)) (by rfl) (pa_cons (pe_op op_addI (pe_fn G_greatest_part (hr.mono (by decide)) (by rfl) (pa_cons (pv 0) (pa_cons (pv 1) (pa_cons (pv 2) pa_nil)))) (pv 1)) (pa_cons (pv 1) pa_nil)))))), ?_⟩
    unfold cnt at q
    refine ⟨_, rfl, _, rfl, _, _, rfl, rfl, _, rfl, ifD (fun h => ?_) (fun h => ?_)⟩
    · rw [if_pos h] at q
      exact q
    · rw [if_neg h] at q
      have d0 : 0 ≤ (turns - bells) / (late + 1) := Int.ediv_nonneg (by omega) (by omega)
      have db : intBits ((turns - bells) / (late + 1)) ≤ 70000 := by
        have h2 := Int.ediv_le_self (late + 1) (show 0 ≤ turns - bells by omega)
        exact intBits_le_of_natAbs (y := turns) (by omega) tb
      refine ⟨_, rfl, _, rfl, _, rfl, turns, bells, late, rfl, l0, lb, _, rfl, _, _, rfl, rfl, _, rfl, _, bells, rfl, by omega, b0, b1, ?_, q⟩
      exact bits_mono (intBits_add_le (m := 70000) (n := 64) db (bits_of b0 (by omega))) (by decide)
end
theorem cnt_pos {turns bells late : Int} (b0 : 0 ≤ bells) (h : bells ≤ turns) (l0 : 0 ≤ late) : 0 < cnt turns bells late := by
  unfold cnt
  rw [if_neg (by omega)]
  have d0 : 0 ≤ (turns - bells) / (late + 1) := Int.ediv_nonneg (by omega) (by omega)
  exact ch_pos b0 (by omega)
theorem cnt_bits {turns bells late : Int} {m : Nat} (b0 : 0 ≤ bells) (b1 : bells ≤ 61) (l0 : 0 ≤ late) (t0 : 0 ≤ turns) (tb : intBits turns ≤ m) (hm : 7 ≤ m) : intBits (cnt turns bells late) ≤ (m + 1) * 61 + 1 := by
  unfold cnt
  split
  · exact Nat.zero_le _
  · have d0 : 0 ≤ (turns - bells) / (late + 1) := Int.ediv_nonneg (by omega) (by omega)
    have d1 : (turns - bells) / (late + 1) ≤ turns - bells := Int.ediv_le_self _ (by omega)
    have nb : intBits ((turns - bells) / (late + 1) + bells) ≤ m + 1 := bits_mono (intBits_le_of_natAbs (y := turns) (by omega) tb) (by omega)
    have := bits_ch (k := bells.toNat) nb (by omega)
    rw [show ((bells.toNat : Nat) : Int) = bells by omega] at this
    exact bits_mono this (Nat.add_le_add_right (Nat.mul_le_mul_left _ (by omega)) _)
theorem bits_lt {x y : Int} {m : Nat} (h0 : 0 ≤ x) (h1 : x < y) (hy : intBits y ≤ m) : intBits x ≤ m := intBits_le_of_natAbs (y := y) (by omega) hy
section
variable {P : Program} {w : World} {K : PySem.W.Frag} {mg : Str → Option Value} {base : Heap}
noncomputable def spWrittenE (K : PySem.W.Frag) (C : Addr) : Sp := fun vs H Q E => ∃ message turns bells late : Int, vs = [.int message, .int turns, .int bells, .int late] ∧ 0 ≤ bells ∧ bells ≤ 60 ∧ 0 ≤ late ∧ intBits late ≤ 8000 ∧ intBits turns ≤ 70000 ∧ intBits message ≤ 50000 ∧
  ((0 ≤ message ∧ message < cnt turns bells late) → ∀ (p : Addr) (bs : List Int) (H' : Hp), Same H H' → H p = none → H' p = some (.lst ((bellL late bs).map V.int)) → IsBox bs → bs.length = bells.toNat → numB bs = message → Szs 60010 bs → Q (.ref p) H') ∧
  (¬ (0 ≤ message ∧ message < cnt turns bells late) → E (.ref C) none H)
theorem cnt_no_bells {message turns late : Int} (h0 : 0 ≤ message) (h : message < cnt turns 0 late) : message = 0 := by
  unfold cnt at h
  split at h
  · omega
  · rw [ch_zero] at h; omega
theorem sc_written : FnScope ["message", "turns", "bells", "late"] ["message", "turns", "bells", "late"] (defScope st_written) := ⟨rfl, rfl, rfl, by decide +kernel, rfl, by decide +kernel, by decide +kernel⟩
theorem ok_writtenE {C_TooGreat : Addr} (D : Def K mg "written" st_written ["message", "turns", "bells", "late"]) (T : Txt K mg) (m_TooGreat : mg "TooGreat" = some (.ref C_TooGreat)) (x_TooGreat : PySem.W.excIn K C_TooGreat bmV "ValueError.__new__" = true) (G_box_count : Fn P w K mg base 2 "box_count" ["turns", "bells", "late"] spCount) (GE_box_of_message : FnE P w K mg base 39 "box_of_message" ["message", "bells"] (spBoxMsgE K C_TooGreat)) (G_bell_row : Fn P w K mg base 1 "bell_row" ["box", "late"] (spBellRow K)) :
    FnE P w K mg base 40 "written" ["message", "turns", "bells", "late"] (spWrittenE K C_TooGreat) := by
  refine D.fnE sc_written (fun vs H Q E h => ?_) (fun f cdv A outer s H vs Q E hr h => ?_)
  · obtain ⟨a, b, c, d, rfl, _⟩ := h
    rfl
  · obtain ⟨message, turns, bells, late, rfl, b0, b60, l0, lb, tb, mb, q1, q2⟩ := h
    refine ⟨_, (pss_cons (ps_if (pw_or (pt_cmpR op_ltI (pv 0) pe_int (nomark _)) (pw_or1 (pt_cmpR op_geI (pv 0) (pe_fn G_box_count (hr.mono (by decide)) (by rfl) (pa_cons (pv 1) (pa_cons (pv 2) (pa_cons (pv 3) pa_nil)))) (nomark _)))).pt
        (pss_one (ps_raise PySem.F.excBase_ValueError x_TooGreat (by rfl) m_TooGreat (pa_cons pe_str pa_nil)))
        pss_nil)
      (pss_one (ps_ret (pe_fn G_bell_row (hr.mono (by decide)) (by rfl) (pa_cons (pe_fnG GE_box_of_message (hr.mono (by decide)) (by rfl) passesE (pa_cons (pv 0) (pa_cons (pv 2) pa_nil))) (pa_cons (pv 3) pa_nil)))))), ?_⟩
    refine ⟨_, rfl, _, _, rfl, rfl, _, rfl, ifD (fun h => ⟨(by decide), q2 (fun g => by omega)⟩) (fun h => ⟨_, rfl, _, rfl, _, rfl, _, rfl, turns, bells, late, rfl, b0, by omega, l0, lb, tb, _, _, rfl, rfl, _, rfl, ifD (fun h2 => ⟨(by decide), q2 (fun g => by omega)⟩) (fun h2 => ?_)⟩)⟩
    have m0 : 0 ≤ message := by omega
    have m1 : message < cnt turns bells late := by omega
    have q := q1 ⟨m0, m1⟩
    have gm : GoodM message bells := ⟨m0, fun z => cnt_no_bells m0 (z ▸ m1)⟩
    refine ⟨_, rfl, _, rfl, message, bells, rfl, b0, b60, mb, fun _ p bs H1 s1 hp h1 B hl hnum sz => ?_, fun nb => absurd gm nb⟩
    refine ⟨_, rfl, p, bs, late, rfl, SqL.of h1, by omega, lb, fun x hx => bits_mono (sz x hx) (by decide), fun p2 H2 s2 hp2 h2 => ?_⟩
    exact q p2 bs H2 (s1.trans s2) (s1.free hp2) h2 B hl hnum sz
end
theorem box_le {bs : List Int} (B : IsBox bs) {turns late : Int} {i : Nat} (l0 : 0 ≤ late) (h : numB bs < cnt turns (bs.length : Int) late) (hi : i < bs.length) : (bs.length : Int) ≤ turns ∧ bs.getD i 0 * (late + 1) ≤ turns - (bs.length : Int) := by
  unfold cnt at h
  have n0 := numTo_nonneg bs bs.length
  split at h
  · have : numB bs = numTo bs bs.length := rfl
    omega
  · rename_i hle
    refine ⟨by omega, ?_⟩
    have tp := numTo_top B (i := bs.length - 1) (by omega)
    have t1 := tp.le
    have e1 : bs.length - 1 + 1 = bs.length := by omega
    have e2 : ((bs.length - 1 : Nat) : Int) + 1 = (bs.length : Int) := by omega
    rw [e1, e2] at t1
    have lt := top_lt t1 (show numTo bs bs.length < _ from h)
    have m := B.le' (i := i) (j := bs.length - 1) (by omega) (by omega)
    have d1 : bs.getD i 0 ≤ (turns - (bs.length : Int)) / (late + 1) := by omega
    exact (Int.le_ediv_iff_mul_le (by omega)).mp d1
noncomputable def GoodR (turns bells late : Int) (ns : List Int) : Prop := (ns.length : Int) = bells ∧ IsBox (boxL late ns) ∧ numB (boxL late ns) < cnt turns bells late
theorem num_lt_cnt {bs : List Int} (B : IsBox bs) {turns late : Int} (l0 : 0 ≤ late) (ht : (bs.length : Int) ≤ turns) (h : ∀ x ∈ bs, x ≤ (turns - (bs.length : Int)) / (late + 1)) : numB bs < cnt turns (bs.length : Int) late := by
  unfold cnt numB
  rw [if_neg (by omega)]
  refine numTo_lt B bs.length _ (Nat.le_refl _) (Int.ediv_nonneg (by omega) (by omega)) fun j hj => ?_
  rw [List.getD_eq_getElem?_getD, List.getElem?_eq_getElem hj]
  exact h _ (List.getElem_mem hj)
theorem cnt_le_num {bs : List Int} (B : IsBox bs) {turns late x : Int} {r : List Int} (l0 : 0 ≤ late) (hb : bs = r ++ [x]) (h : (turns - (bs.length : Int)) / (late + 1) < x) : cnt turns (bs.length : Int) late ≤ numB bs := by
  unfold cnt
  split
  · exact numTo_nonneg _ _
  · have hl : bs.length = r.length + 1 := by rw [hb, List.length_append]; rfl
    have tp := (numTo_top B (i := r.length) (by omega)).le
    have hx : bs.getD r.length 0 = x := by rw [hb, List.getD_eq_getElem?_getD, List.getElem?_append_right (Nat.le_refl _), Nat.sub_self]; rfl
    rw [hx] at tp
    have d0 : 0 ≤ (turns - (bs.length : Int)) / (late + 1) := Int.ediv_nonneg (by omega) (by omega)
    unfold numB
    rw [hl] at h d0 ⊢
    refine Int.le_trans (ch_mono (m := (turns - ((r.length + 1 : Nat) : Int)) / (late + 1) + ((r.length + 1 : Nat) : Int)) (n := x + (r.length : Int)) (k := ((r.length + 1 : Nat) : Int)) (by omega)) ?_
    rw [show ((r.length + 1 : Nat) : Int) = (r.length : Int) + 1 by omega]
    exact tp
section
variable {P : Program} {w : World} {K : PySem.W.Frag} {mg : Str → Option Value} {base : Heap}
noncomputable def spReadE (K : PySem.W.Frag) (C : Addr) : Sp := fun vs H Q E => ∃ (a : Addr) (ns : List Int) (turns bells late : Int), vs = [.ref a, .int turns, .int bells, .int late] ∧ SqL K H a (ns.map V.int) ∧ ns.length ≤ 60 ∧ 0 ≤ bells ∧ bells ≤ 60 ∧ 0 ≤ late ∧ intBits late ≤ 8000 ∧ intBits turns ≤ 70000 ∧ Szs 70000 (boxL late ns) ∧
  (GoodR turns bells late ns → ∀ H', Same H H' → Q (.int (numB (boxL late ns))) H') ∧ (¬ GoodR turns bells late ns → ∀ H', Same H H' → E (.ref C) none H')
theorem sc_read : FnScope ["reading", "turns", "bells", "late", "message"] ["reading", "turns", "bells", "late"] (defScope st_read) := ⟨rfl, rfl, rfl, by decide +kernel, rfl, by decide +kernel, by decide +kernel⟩
theorem ok_readE {C_NoReading : Addr} (D : Def K mg "read" st_read ["reading", "turns", "bells", "late"]) (T : Txt K mg) (m_NoReading : mg "NoReading" = some (.ref C_NoReading)) (x_NoReading : PySem.W.excIn K C_NoReading bmV "ValueError.__new__" = true) (G_box_count : Fn P w K mg base 2 "box_count" ["turns", "bells", "late"] spCount) (GE_heard_box : FnE P w K mg base 2 "heard_box" ["reading", "late"] (spHBoxE K C_NoReading)) (G_box_number : Fn P w K mg base 2 "box_number" ["box"] (spNum K)) :
    FnE P w K mg base 3 "read" ["reading", "turns", "bells", "late"] (spReadE K C_NoReading) := by
  refine D.fnE sc_read (fun vs H Q E h => ?_) (fun f cdv A outer s H vs Q E hr h => ?_)
  · obtain ⟨a, b, c, d, e, rfl, _⟩ := h
    rfl
  · obtain ⟨a, ns, turns, bells, late, rfl, hA, hl, b0, b60, l0, lb, tb, sz, q1, q2⟩ := h
    refine ⟨_, (pss_cons (ps_if (pt_cmpR op_neI (pe_callB call_len_seq (by rfl) T.z_len b_len (pa_cons (pv 0) pa_nil)) (pv 2) (nomark _))
        (pss_one (ps_raise PySem.F.excBase_ValueError x_NoReading (by rfl) m_NoReading (pa_cons pe_str pa_nil)))
        pss_nil)
      (pss_cons (ps_set (i := 4) sc_read.nd rfl (Or.inl rfl) (pe_fn G_box_number (hr.mono (by decide)) (by rfl) (pa_cons (pe_fnG GE_heard_box (hr.mono (by decide)) (by rfl) passesE (pa_cons (pv 0) (pa_cons (pv 3) pa_nil))) pa_nil)))
      (pss_cons (ps_if (pt_cmpR op_geI (pv 4) (pe_fn G_box_count (hr.mono (by decide)) (by rfl) (pa_cons (pv 1) (pa_cons (pv 2) (pa_cons (pv 3) pa_nil)))) (nomark _))
        (pss_one (ps_raise PySem.F.excBase_ValueError x_NoReading (by rfl) m_NoReading (pa_cons pe_str pa_nil)))
        pss_nil)
      (pss_one (ps_ret (pv 4)))))), ?_⟩
    refine ⟨_, rfl, _, _, rfl, .inl hA, _, rfl, _, _, rfl, rfl, _, rfl, ?_⟩
    rw [List.length_map]
    refine ifND (fun e => ⟨(by decide), q2 (fun g => e g.1) _ (Same.refl _)⟩) (fun e => ?_)
    refine ⟨_, rfl, _, rfl, a, ns, late, rfl, hA, by omega, l0, lb, fun B p H1 s1 hp h1 => ?_, fun nB H1 s1 => q2 (fun g => nB g.2.1) _ s1⟩
    refine ⟨p, boxL late ns, rfl, SqL.of h1, by rw [boxL_length]; omega, B.nn, sz, fun H2 s2 => ?_⟩
    refine ⟨_, rfl, _, rfl, _, rfl, _, rfl, turns, bells, late, rfl, by omega, by omega, l0, lb, tb, _, _, rfl, rfl, _, rfl, ifD (fun h => ?_) (fun h => ?_)⟩
    · exact ⟨(by decide), q2 (fun g => by have := g.2.2; omega) _ (s1.trans s2)⟩
    · exact ⟨_, rfl, q1 ⟨e, B, by omega⟩ _ (s1.trans s2)⟩
end
noncomputable def Bd (m : Nat) (ns : List Int) : Prop := ∀ x ∈ ns, 0 ≤ x ∧ x < 2 ^ m
theorem box_szs {ns : List Int} {late : Int} (h : Bd 200 ns) (hl : ns.length ≤ 100) (l0 : 0 ≤ late) : Szs 70000 (boxL late ns) := fun y hy => by
  obtain ⟨i, hi⟩ := List.getElem?_of_mem hy
  obtain ⟨x, hx, rfl⟩ := boxL_get' hi
  have hb := h x (List.mem_of_getElem? hx)
  have hi' := (List.getElem?_eq_some_iff.mp hx).1
  refine bits_mono (bits_div (m := 300) ?_ (by omega)) (by decide)
  refine intBits_le_of_natAbs (y := 2 ^ 200) ?_ (by decide)
  have e1 : ((2 : Int) ^ 200).natAbs = 2 ^ 200 := by decide
  rw [e1]
  have h1 := hb.1
  have h2 := hb.2
  omega
section
variable {P : Program} {w : World} {K : PySem.W.Frag} {mg : Str → Option Value} {base : Heap}
theorem sc_refuse_silent : FnScope ["turns", "bells"] ["turns", "bells"] (defScope st_refuse_silent) := ⟨rfl, rfl, rfl, by decide +kernel, rfl, by decide +kernel, by decide +kernel⟩
noncomputable def spSilE (C : Addr) : Sp := fun vs H Q E => ∃ turns bells : Int, vs = [.int turns, .int bells] ∧ 0 ≤ bells ∧ ((1 ≤ bells ∧ bells ≤ turns) → Q .non H) ∧ (¬ (1 ≤ bells ∧ bells ≤ turns) → E (.ref C) none H)
theorem ok_silentE (D : Def K mg "refuse_silent" st_refuse_silent ["turns", "bells"]) (T : Txt K mg) {C_NoRow : Addr} (m_NoRow : mg "NoRow" = some (.ref C_NoRow)) (x_NoRow : PySem.W.excIn K C_NoRow bmV "ValueError.__new__" = true) : FnE P w K mg base 1 "refuse_silent" ["turns", "bells"] (spSilE C_NoRow) := by
  refine D.fnE sc_refuse_silent (fun vs H Q E h => ?_) (fun f cdv A outer s H vs Q E hr h => ?_)
  · obtain ⟨a, b, rfl, _⟩ := h
    rfl
  · obtain ⟨turns, bells, rfl, b0, q1, q2⟩ := h
    refine ⟨_, (pss_one (ps_if (pw_or (pt_cmpR op_eqI (pv 1) pe_int (nomark _)) (pw_or1 (pt_cmpR op_gtI (pv 1) (pv 0) (nomark _)))).pt
        (pss_one (ps_raise PySem.F.excBase_ValueError x_NoRow (by rfl) m_NoRow (pa_cons pe_str pa_nil)))
        pss_nil)), ?_⟩
    exact ⟨_, rfl, _, _, rfl, rfl, _, rfl, ifD (fun z => ⟨(by decide), q2 (by omega)⟩) (fun z => ⟨_, rfl, _, rfl, _, _, rfl, rfl, _, rfl, ifD (fun z2 => ⟨(by decide), q2 (by omega)⟩) (fun z2 => q1 (by omega))⟩)⟩
end
theorem ints_of {Pd : Int → Prop} : ∀ {ys : List V}, (∀ (i : Nat) (v : V), ys[i]? = some v → ∃ d : Int, v = .int d ∧ Pd d) → ∃ ds : List Int, ys = ds.map V.int ∧ ∀ d ∈ ds, Pd d
  | [], _ => ⟨[], rfl, fun _ z => nomatch z⟩
  | y :: ys, h => by
    obtain ⟨d, rfl, pd⟩ := h 0 y rfl
    obtain ⟨ds, rfl, hd⟩ := ints_of (ys := ys) fun i v hv => h (i + 1) v hv
    refine ⟨d :: ds, rfl, fun x hx => ?_⟩
    rcases List.mem_cons.mp hx with e | e
    · rw [e]; exact pd
    · exact hd x e
section
open PySem.Spec PyProof.Rows
variable {X : Cx} {pins : List (Addr × Obj)} {σ : L2.St} {H : Hp} {s : Shared} {a : Addr} {kvs : List (Key × V)} {k : Key} {u r : Value} {v : V} {A : Around} {E : Value → Shared → Prop}
theorem d_setd {Q : Value → Shared → Prop} (I : L2.Inv X pins σ H s) (e : H a = some (.dK kvs)) (ry : RelV (kV k) u) (rv : RelV v r) (hl : kvs.length < sizeLine)
    (h1 : ∀ v0 w' s', valV kvs k = some v0 → L2.Inv X pins σ H s' → RelV v0 w' → Q w' s') (h2 : ∀ s', valV kvs k = none → L2.Inv X pins σ (upd H a (.dK (putK kvs k v))) s' → Q r s') :
    wpAny (model X.prog X.w) A (call (.builtin "dict.setdefault") [.ref a, u, r]) Q E s := by
  obtain ⟨z, hd, vs, rel, dd⟩ := dk_of I.hok e
  have hz : vs.length ≤ sizeLine := by rw [← rel.length]; exact z
  have hl2 : (putK kvs k v).length ≤ sizeLine := by have := length_putK kvs k v; omega
  refine call_meetsIn PySem.F.slot_dict_setdefault dd.typeIs PySem.F.entry_dict_setdefault (PySem.F.args_dict_setdefault_3 _ _ _) (kt_meets_setdefault (mixKind X.prog X.w) a (kV_is ry) hd r) ⟨vs, dd, hz, fun w' hw => ?_, fun hn h' dd' hs => ?_⟩
  · have rr := rel.val k
    rw [hw] at rr
    cases e2 : valV kvs k with
    | none => rw [e2] at rr; exact absurd rr (by intro z; cases z)
    | some v0 =>
      rw [e2] at rr
      exact h1 v0 w' _ e2 (I.tok _) rr
  · have hv : valV kvs k = none := by
      have rr := rel.val k
      rw [hn] at rr
      cases e2 : valV kvs k with
      | none => rfl
      | some v0 => rw [e2] at rr; exact absurd rr (by intro z; cases z)
    have he : ∃ q, h'.get? a = some q := let ⟨q, _, _, hq, _⟩ := dd'; ⟨q, hq⟩
    exact h2 _ hv (d_write I (by rw [e]; exact True.intro) hs he (dk_new hl2 hd (rel.put k rv) dd'))
end
section
open PySem.Spec PyProof.Rows
variable {X : Cx} {o e f : Expr} {apos cpos : Pos} {td ty tx : TE}
noncomputable def tDSetd (td ty tx : TE) : TE := fun σ H Q => td σ H fun x H1 => ∃ a, x = .ref a ∧ IsD H1 a ∧ ty σ H1 fun y H2 => tx σ H2 fun z H3 => ∃ kvs k, H3 a = some (.dK kvs) ∧ y = kV k ∧ kvs.length < sizeLine ∧
  (∀ v, valV kvs k = some v → Q v H3) ∧ (valV kvs k = none → Q z (upd H3 a (.dK (putK kvs k z))))
theorem pe_dsetd (ho : PE X o td) (he : PE X e ty) (hf : PE X f tx) (m : M2 X o "setdefault" apos e f cpos) : PE X (.Call (.Attribute o "setdefault" apos) [e, f] [] cpos) (tDSetd td ty tx) := by
  intro pins s σ H Q I h
  refine wpAny_Call_method m.base m.few m.line PySem.F.plainAttrs_dict PySem.F.slot_dict_setdefault PySem.F.type_dict_setdefault (thn (ho pins s σ H _ I h) fun u s1 ⟨x, H1, I1, rx, a, ex, d, q1⟩ => ?_)
  subst ex
  obtain rfl : u = Value.ref a := rx
  obtain ⟨t1, t2, _⟩ := isD_at I1 d
  refine ⟨t1, t2, ?_⟩
  rw [m.trees]
  refine Calls.callWith_builtin rfl (Calls.evalArgs_plain (Calls.spliced_cons (thn (he pins s1 σ H1 _ I1 q1) fun iv s2 ⟨y, H2, I2, ry, q2⟩ =>
    Calls.spliced_cons (thn (hf pins s2 σ H2 _ I2 q2) fun fv s3 ⟨z, H3, I3, rz, kvs, k, e3, ey, hl, c1, c2⟩ => Calls.spliced_nil ?_))))
  subst ey
  exact d_setd I3 e3 ry rz hl (fun v0 w' s4 hv I4 rw' => ⟨v0, H3, I4, rw', c1 v0 hv⟩) (fun s4 hv I4 => ⟨z, _, I4, rz, c2 hv⟩)
end
noncomputable def ringL (L late : Int) : Int → List (List Int) → List Int
  | _, [] => []
  | k, bs :: r => (bellL late bs).map (fun x => k * L + x) ++ ringL L late (k + 1) r
theorem ringL_snoc (L late : Int) (bs : List Int) : ∀ (bss : List (List Int)) (k : Int), ringL L late k (bss ++ [bs]) = ringL L late k bss ++ (bellL late bs).map (fun x => (k + (bss.length : Int)) * L + x)
  | [], k => by
    show (bellL late bs).map (fun x => k * L + x) ++ [] = [] ++ (bellL late bs).map (fun x => (k + ((0 : Nat) : Int)) * L + x)
    rw [List.append_nil, List.nil_append, show k + ((0 : Nat) : Int) = k by omega]
  | b :: r, k => by
    show (bellL late b).map (fun x => k * L + x) ++ ringL L late (k + 1) (r ++ [bs]) = (bellL late b).map (fun x => k * L + x) ++ ringL L late (k + 1) r ++ _
    rw [ringL_snoc L late bs r (k + 1), List.append_assoc, List.length_cons, show k + 1 + (r.length : Int) = k + ((r.length + 1 : Nat) : Int) by omega]
noncomputable def grp (L k : Int) (ms : List Int) : List Int := (ms.filter (fun t => decide (t / L = k))).map (fun t => t % L)
theorem grp_append (L k : Int) (a b : List Int) : grp L k (a ++ b) = grp L k a ++ grp L k b := by
  unfold grp
  rw [List.filter_append, List.map_append]
theorem grp_one_eq {L k t : Int} (h : t / L = k) : grp L k [t] = [t % L] := by
  unfold grp
  rw [List.filter_cons_of_pos (by rw [decide_eq_true h]), List.filter_nil]
  rfl
theorem grp_one_ne {L k t : Int} (h : ¬ t / L = k) : grp L k [t] = [] := by
  unfold grp
  rw [List.filter_cons_of_neg (by rw [decide_eq_false h]; decide), List.filter_nil]
  rfl
theorem nodup_le : ∀ {l m : List Int}, l.Nodup → (∀ a ∈ l, a ∈ m) → l.length ≤ m.length
  | [], m, _, _ => Nat.zero_le _
  | a :: l, m, nd, h => by
    have ha := h a (List.mem_cons_self ..)
    have nd' := List.nodup_cons.mp nd
    have ih := nodup_le (l := l) (m := m.erase a) nd'.2 fun b hb => by
      have hne : b ≠ a := fun e => nd'.1 (e ▸ hb)
      exact (List.mem_erase_of_ne hne).mpr (h b (List.mem_cons_of_mem _ hb))
    have el := List.length_erase_of_mem ha
    have hp : 0 < m.length := List.length_pos_of_mem ha
    rw [List.length_cons]
    omega
theorem nodup_len {l m : List Int} (h1 : l.Nodup) (h2 : m.Nodup) (h : ∀ a, a ∈ l ↔ a ∈ m) : l.length = m.length := Nat.le_antisymm (nodup_le h1 fun a ha => (h a).mp ha) (nodup_le h2 fun a ha => (h a).mpr ha)
section
variable {P : Program} {w : World} {K : PySem.W.Frag} {mg : Str → Option Value} {base : Heap}
noncomputable def spRungE (K : PySem.W.Frag) (CN CT : Addr) : Sp := fun vs H Q E => ∃ (a : Addr) (ms : List Int) (turns bells late : Int), vs = [.ref a, .int turns, .int bells, .int late] ∧ SqL K H a (ms.map V.int) ∧ ms.length ≤ 100 ∧ 0 ≤ bells ∧ bells ≤ 60 ∧ 0 ≤ late ∧ intBits late ≤ 8000 ∧ intBits turns ≤ 60000 ∧ (∀ m ∈ ms, intBits m ≤ 50000) ∧
  ((1 ≤ bells ∧ bells ≤ turns) → (∀ m ∈ ms, 0 ≤ m ∧ m < cnt turns bells late) → ∀ (p : Addr) (bss : List (List Int)) (H' : Hp), Same H H' → H p = none → H' p = some (.lst ((ringL (turns + late) late 0 bss).map V.int)) → bss.length = ms.length → (∀ (i : Nat) (bs : List Int) (m : Int), bss[i]? = some bs → ms[i]? = some m → IsBox bs ∧ bs.length = bells.toNat ∧ numB bs = m) → (∀ bs ∈ bss, Szs 60010 bs) → Q (.ref p) H') ∧
  (¬ (1 ≤ bells ∧ bells ≤ turns) → E (.ref CN) none H) ∧ ((1 ≤ bells ∧ bells ≤ turns) → ¬ (∀ m ∈ ms, 0 ≤ m ∧ m < cnt turns bells late) → ∀ H', Same H H' → E (.ref CT) none H')
theorem sc_rung : FnScope ["messages", "turns", "bells", "late", "talk", "place", "message", "start"] ["messages", "turns", "bells", "late"] (defScope st_rung) := ⟨rfl, rfl, rfl, by decide +kernel, rfl, by decide +kernel, by decide +kernel⟩
theorem ok_rungE {C_NoRow C_TooGreat : Addr} (D : Def K mg "rung" st_rung ["messages", "turns", "bells", "late"]) (T : Txt K mg) (GE_refuse_silent : FnE P w K mg base 1 "refuse_silent" ["turns", "bells"] (spSilE C_NoRow)) (GE_written : FnE P w K mg base 40 "written" ["message", "turns", "bells", "late"] (spWrittenE K C_TooGreat)) : FnE P w K mg base 41 "rung" ["messages", "turns", "bells", "late"] (spRungE K C_NoRow C_TooGreat) := by
  refine D.fnE sc_rung (fun vs H Q E h => ?_) (fun f cdv A outer s H vs Q E hr h => ?_)
  · obtain ⟨a, ms, b, c, d, rfl, _⟩ := h
    rfl
  · obtain ⟨a, ms, turns, bells, late, rfl, hS, hl, b0, b60, l0, lb, tb, hmb, q, qn, qt⟩ := h
    refine ⟨_, (pss_cons (ps_expr (pe_fnG GE_refuse_silent (hr.mono (by decide)) (by rfl) passesE (pa_cons (pv 1) (pa_cons (pv 2) pa_nil))))
      (pss_cons (ps_set (i := 4) sc_rung.nd rfl (Or.inl rfl) (pe_lst pa_nil))
      (pss_cons (ps_for PassesOwn.leaving rfl (pi_enumL (by rfl) T.z_enumerate (pa_cons (pv 0) pa_nil)) (pg_tup (n := 2) rfl (pgs_cons (pg_name (i := 5) sc_rung.nd rfl (Or.inl rfl)) (pgs_cons (pg_name (i := 6) sc_rung.nd rfl (Or.inl rfl)) pgs_nil)))
        (pss_cons (ps_set (i := 7) sc_rung.nd rfl (Or.inr rfl) (pe_op op_mulB (pv 5) (pe_op op_addI (pv 1) (pv 3))))
        (pss_one (ps_expr (pe_bm PySem.F.plainAttrs_list PySem.F.slot_list_extend PySem.F.type_list_extend mt_extend (pv 4) (pa_cons (pe_comp (own := ["turn"]) (fr := ["start"]) (ix := [7]) rfl ⟨rfl, rfl, rfl, rfl, rfl, rfl⟩ (pi_list (pe_fnG GE_written (hr.mono (by decide)) (by rfl) passesE (pa_cons (pv 6) (pa_cons (pv 1) (pa_cons (pv 2) (pa_cons (pv 3) pa_nil)))))) (fun _ _ _ _ _ => (pg_name (i := 0) (show (["turn", "start"] : List Str).Nodup by decide +kernel) rfl (Or.inl rfl))) (fun _ _ _ _ _ => pts_nil) (fun _ _ _ _ _ => (pe_op op_addI (pv 1) (pv 0)))) pa_nil))))))
      (pss_one (ps_ret (pv 4)))))), ?_⟩
    refine ⟨_, rfl, _, rfl, turns, bells, rfl, b0, fun gb => ?_, fun nb => qn nb⟩
    obtain ⟨b1, bt⟩ := gb
    refine ⟨(by decide), fun p hp => ?_⟩
    have sb : intBits (turns + late) ≤ 70000 := bits_mono (intBits_add_le (m := 60000) (n := 60000) tb (bits_mono lb (by decide))) (by decide)
    refine ⟨_, rfl, a, ms.map V.int, rfl, (Same.new hp).seq hS, for_enum (K := K) (a := a) (xs := ms.map V.int) (fun i σ H2 => ∃ (bss : List (List Int)) (v5 v6 v7 : Option V), σ = [some (.ref a), some (.int turns), some (.int bells), some (.int late), some (.ref p), v5, v6, v7] ∧ Same H H2 ∧ H2 p = some (.lst ((ringL (turns + late) late 0 bss).map V.int)) ∧ bss.length = i ∧ (ringL (turns + late) late 0 bss).length ≤ i * 60 ∧ (∀ (j : Nat) (bs : List Int) (m : Int), bss[j]? = some bs → ms[j]? = some m → IsBox bs ∧ bs.length = bells.toNat ∧ numB bs = m) ∧ (∀ bs ∈ bss, Szs 60010 bs) ∧ (∀ (j : Nat) (m : Int), j < i → ms[j]? = some m → 0 ≤ m ∧ m < cnt turns bells late))
      ⟨[], none, none, none, rfl, Same.new hp, upd_same, rfl, Nat.zero_le _, (fun j bs m h => by simp at h), (fun _ z => nomatch z), (fun j m h => absurd h (Nat.not_lt_zero j))⟩ (fun i σ H2 ⟨_, _, _, _, _, sm, _⟩ => sm.seq hS) ?_ ?_⟩
    · rintro i xv t σ H2 hx ⟨bss, v5, v6, v7, rfl, sm, hT, bl, rl, hb, hz, hgd⟩ ht
      have hil : i < ms.length := by have := (List.getElem?_eq_some_iff.mp hx).1; rwa [List.length_map] at this
      rw [List.getElem?_map] at hx
      obtain ⟨m, hmi, rfl⟩ := Option.map_eq_some_iff.mp hx
      have mb := hmb m (List.mem_of_getElem? hmi)
      have s3 : Same H (upd H2 t (.tup [.int i, .int m])) := sm.put ht
      have ht3 : (upd H2 t (.tup [.int i, .int m])) t = some (.tup [.int i, .int m]) := upd_same
      have hT3 : (upd H2 t (.tup [.int i, .int m])) p = some (.lst ((ringL (turns + late) late 0 bss).map V.int)) := (Same.new ht) _ _ hT
      generalize upd H2 t (.tup [.int i, .int m]) = H3 at s3 ht3 hT3 ⊢
      refine ⟨t, _, rfl, SqT.of ht3, rfl, _, _, rfl, _, _, rfl, rfl, ?_⟩
      refine ⟨_, rfl, _, rfl, _, rfl, _, _, rfl, rfl, _, _, rfl, rfl, ⟨64, 70000, bits_of (by omega) (by omega), sb, by decide⟩, ?_⟩
      refine ⟨_, rfl, .inl ⟨rfl, _, SqL.of hT3⟩, _, rfl, _, rfl, _, rfl, _, rfl, m, turns, bells, late, rfl, b0, b60, l0, lb, bits_mono tb (by decide), mb, fun gm pw bs H4 s4 hpw hW B hbl hnum sz => ?_, fun nm => qt ⟨b1, bt⟩ (fun all => nm (all m (List.mem_of_getElem? hmi))) _ s3⟩
      have bll : (bellL late bs).length ≤ 60 := by rw [bellL_length, hbl]; omega
      refine ⟨pw, rfl, ⟨_, SqL.of hW⟩, fun acc hacc => comp_listP (K := K) (a := pw) (xs := (bellL late bs).map V.int) (fun j => V.int ((i : Int) * (turns + late) + (bellL late bs).getD j 0)) (SqL.of hW) hacc (by rw [List.length_map]; exact Nat.le_of_lt (small1000 (by omega))) (fun j x H6 R' hx s6 hR => ?_) ?_⟩
      · rw [List.getElem?_map] at hx
        obtain ⟨z, hz', rfl⟩ := Option.map_eq_some_iff.mp hx
        simp only [List.getD_eq_getElem?_getD, hz', Option.getD_some] at hR
        exact ⟨rfl, _, rfl, _, rfl, _, _, rfl, rfl, hR⟩
      have eL : (List.range ((bellL late bs).map V.int).length).map (fun j => V.int ((i : Int) * (turns + late) + (bellL late bs).getD j 0)) = ((bellL late bs).map (fun x => (0 + (bss.length : Int)) * (turns + late) + x)).map V.int := by
        rw [bl, show (0 : Int) + (i : Int) = (i : Int) by omega]
        apply List.ext_getElem
        · simp
        · intro j h1 h2
          simp at h1 h2
          simp [List.getD_eq_getElem?_getD, h2]
      rw [eL]
      have s5 : Same H3 (upd H4 acc (.lst (((bellL late bs).map (fun x => (0 + (bss.length : Int)) * (turns + late) + x)).map V.int))) := s4.put hacc
      have h5 : (upd H4 acc (.lst (((bellL late bs).map (fun x => (0 + (bss.length : Int)) * (turns + late) + x)).map V.int))) acc = some (.lst (((bellL late bs).map (fun x => (0 + (bss.length : Int)) * (turns + late) + x)).map V.int)) := upd_same
      generalize upd H4 acc (.lst (((bellL late bs).map (fun x => (0 + (bss.length : Int)) * (turns + late) + x)).map V.int)) = H5 at s5 h5 ⊢
      refine ⟨p, acc, _, _, rfl, rfl, s5 _ _ hT3, h5, ?_, ?_⟩
      · rw [List.length_map, List.length_map, List.length_map, sizeLine_eq]
        omega
      refine ⟨bss ++ [bs], _, _, _, rfl, (s3.trans s5).wr hp, ?_, by rw [List.length_append, bl]; rfl, ?_, fun j c mm hj hmj => ?_, fun c hc => ?_, fun j mm hj hmj => ?_⟩
      · rw [upd_same, ← List.map_append, ← ringL_snoc]
      · rw [ringL_snoc, List.length_append, List.length_map]
        omega
      · by_cases hji : j < bss.length
        · rw [List.getElem?_append_left hji] at hj
          exact hb j c mm hj hmj
        · have hj2 := (List.getElem?_eq_some_iff.mp hj).1
          rw [List.length_append, List.length_singleton] at hj2
          have ej : j = i := by omega
          subst ej
          rw [List.getElem?_append_right (by omega), bl, Nat.sub_self] at hj
          have : bs = c := by simpa using hj
          subst this
          rw [hmi] at hmj
          cases hmj
          exact ⟨B, hbl, hnum⟩
      · rcases List.mem_append.mp hc with hc | hc
        · exact hz c hc
        · rw [List.mem_singleton.mp hc]; exact sz
      · by_cases hji : j < i
        · exact hgd j mm hji hmj
        · have ej : j = i := by omega
          subst ej
          rw [hmi] at hmj
          cases hmj
          exact gm
    · rintro σ H2 ⟨bss, v5, v6, v7, rfl, sm, hT, bl, rl, hb, hz, hgd⟩
      rw [List.length_map] at bl hgd
      refine ⟨_, rfl, q ⟨b1, bt⟩ (fun m hm => ?_) p bss H2 sm hp hT bl hb hz⟩
      obtain ⟨j, hj⟩ := List.getElem?_of_mem hm
      exact hgd j m (List.getElem?_eq_some_iff.mp hj).1 hj
end
section
variable {P : Program} {w : World} {K : PySem.W.Frag} {mg : Str → Option Value} {base : Heap}
structure ByM (L : Int) (rd : List Int) (kvs : List (Key × V)) (ks : List Int) (ad : Int → Addr) (H : Hp) : Prop where
  nd : ks.Nodup
  len : kvs.length = ks.length
  val : ∀ k : Int, valV kvs (Sum.inl k) = if k ∈ ks then some (.ref (ad k)) else none
  ls : ∀ k ∈ ks, H (ad k) = some (.lst ((grp L k rd).map V.int))
  mem : ∀ k : Int, k ∈ ks ↔ grp L k rd ≠ []
noncomputable def spBy (K : PySem.W.Frag) : Sp := fun vs H Q _ => ∃ (a : Addr) (rd : List Int) (turns late : Int), vs = [.ref a, .int turns, .int late] ∧ SqL K H a (rd.map V.int) ∧ rd.length ≤ 20000 ∧ 0 < turns + late ∧ intBits (turns + late) ≤ 9000 ∧
  ∀ (d : Addr) (kvs : List (Key × V)) (ks : List Int) (ad : Int → Addr) (H' : Hp), Same H H' → H' d = some (.dK kvs) → ByM (turns + late) rd kvs ks ad H' → Q (.ref d) H'
theorem sc_by_messages : FnScope ["reading", "turns", "late", "length", "heard_of", "turn"] ["reading", "turns", "late"] (defScope st_by_messages) := ⟨rfl, rfl, rfl, by decide +kernel, rfl, by decide +kernel, by decide +kernel⟩
theorem ok_by_messages (D : Def K mg "by_messages" st_by_messages ["reading", "turns", "late"]) (T : Txt K mg) : Fn P w K mg base 1 "by_messages" ["reading", "turns", "late"] (spBy K) := by
  refine D.fn sc_by_messages (fun vs H Q E h => ?_) (fun f cdv A outer s H vs Q E hr h => ?_)
  · obtain ⟨a, rd, t, l, rfl, _⟩ := h
    rfl
  · obtain ⟨a, rd, turns, late, rfl, hS, hl, hL, lb, q⟩ := h
    refine ⟨_, (pss_cons (ps_set (i := 3) sc_by_messages.nd rfl (Or.inl rfl) (pe_op op_addI (pv 1) (pv 2)))
      (pss_cons (ps_set (i := 4) sc_by_messages.nd rfl (Or.inl rfl) pe_dnewK)
      (pss_cons (ps_for PassesOwn.never rfl (pi_list (pv 0)) (pg_name (i := 5) sc_by_messages.nd rfl (Or.inl rfl))
        (pss_one (ps_expr (pe_bm PySem.F.plainAttrs_list PySem.F.slot_list_append PySem.F.type_list_append mt_append (pe_dsetd (pv 4) (pe_op op_fdivB (pv 5) (pv 3)) (pe_lst pa_nil) ⟨rfl, rfl, rfl, rfl⟩) (pa_cons (pe_op op_modB (pv 5) (pv 3)) pa_nil)))))
      (pss_one (ps_ret (pv 4)))))), ?_⟩
    refine ⟨_, rfl, _, rfl, _, _, rfl, rfl, fun d hd => ?_⟩
    generalize turns + late = L at hL lb q ⊢
    refine ⟨_, rfl, a, rfl, ⟨_, (Same.new hd).seq hS⟩, for_list (K := K) (a := a) (xs := rd.map V.int) (fun i σ H2 => ∃ (kvs : List (Key × V)) (ks : List Int) (ad : Int → Addr) (v5 : Option V), σ = [some (.ref a), some (.int turns), some (.int late), some (.int L), some (.ref d), v5] ∧ Same H H2 ∧ H2 d = some (.dK kvs) ∧ i ≤ rd.length ∧ ks.length ≤ i ∧ ByM L (rd.take i) kvs ks ad H2 ∧ (∀ k ∈ ks, ad k ≠ d ∧ H (ad k) = none) ∧ (∀ k ∈ ks, ∀ k' ∈ ks, ad k = ad k' → k = k'))
      ⟨[], [], fun _ => d, none, rfl, Same.new hd, upd_same, Nat.zero_le _, Nat.zero_le _, ⟨List.nodup_nil, rfl, fun k => rfl, (fun _ z => nomatch z), fun k => ⟨(fun z => nomatch z), (fun z => absurd rfl z)⟩⟩, (fun _ z => nomatch z), (fun _ z => nomatch z)⟩ (fun i σ H2 _ ⟨_, _, _, _, _, sm, _⟩ => sm.seq hS) ?_ ?_⟩
    · rintro i xv σ H2 hx ⟨kvs, ks, ad, v5, rfl, sm, hD, _, kl, M, fr, inj⟩
      have hil : i < rd.length := by have := (List.getElem?_eq_some_iff.mp hx).1; rwa [List.length_map] at this
      rw [List.getElem?_map] at hx
      obtain ⟨t, hti, rfl⟩ := Option.map_eq_some_iff.mp hx
      have ert : rd.take (i + 1) = rd.take i ++ [t] := by rw [List.take_add_one, hti]; rfl
      have klen : kvs.length < sizeLine := by rw [M.len, sizeLine_eq]; omega
      have grl : ∀ k : Int, (grp L k (rd.take i)).length ≤ 20000 := fun k => by
        unfold grp
        rw [List.length_map]
        have h1 := List.length_filter_le (fun t => decide (t / L = k)) (rd.take i)
        rw [List.length_take] at h1
        omega
      refine ⟨_, rfl, d, rfl, .inl ⟨kvs, .inl hD⟩, _, rfl, _, rfl, _, _, rfl, rfl, ⟨hL, lb⟩, (by decide), fun p hp => ⟨kvs, Sum.inl (t / L), (Same.new hp) _ _ hD, rfl, klen, fun v hv => ?_, fun hv => ?_⟩⟩
      · rw [M.val] at hv
        have hk : t / L ∈ ks := by
          by_cases z : t / L ∈ ks
          · exact z
          · rw [if_neg z] at hv; cases hv
        rw [if_pos hk] at hv
        cases hv
        have s3 : Same H (upd H2 p (.lst [])) := sm.put hp
        have s23 : Same H2 (upd H2 p (.lst [])) := Same.new hp
        generalize upd H2 p (.lst []) = H3 at s3 s23 ⊢
        have hA := s23 _ _ (M.ls _ hk)
        have fk := fr _ hk
        refine ⟨.inl ⟨rfl, _, SqL.of hA⟩, _, rfl, _, rfl, _, _, rfl, rfl, hL, ad (t / L), _, _, rfl, rfl, hA, ?_, ?_⟩
        · rw [List.length_map, sizeLine_eq]
          have := grl (t / L)
          omega
        refine ⟨kvs, ks, ad, _, rfl, s3.wr fk.2, by rw [upd_ne fk.1.symm]; exact s23 _ _ hD, hil, by omega, ⟨M.nd, M.len, M.val, fun k hk' => ?_, fun k => ?_⟩, fr, inj⟩
        · rw [ert, grp_append]
          by_cases e : k = t / L
          · subst e
            rw [upd_same, grp_one_eq rfl, List.map_append]
            rfl
          · rw [upd_ne (fun z => e (inj k hk' _ hk z)), grp_one_ne (fun z => e z.symm), List.append_nil]
            exact s23 _ _ (M.ls k hk')
        · rw [ert, grp_append, M.mem]
          by_cases e : k = t / L
          · subst e
            rw [grp_one_eq rfl]
            exact ⟨fun _ z => by simp at z, fun _ => (M.mem _).mp hk⟩
          · rw [grp_one_ne (fun z => e z.symm), List.append_nil]
      · rw [M.val] at hv
        have hk : ¬ t / L ∈ ks := fun z => by rw [if_pos z] at hv; cases hv
        have pd : p ≠ d := fun e => by subst e; rw [hD] at hp; cases hp
        have pn : H p = none := sm.free hp
        have hP : (upd (upd H2 p (.lst [])) d (.dK (putK kvs (Sum.inl (t / L)) (.ref p)))) p = some (.lst []) := by rw [upd_ne pd]; exact upd_same
        have g0 : grp L (t / L) (rd.take i) = [] := by
          by_cases z : grp L (t / L) (rd.take i) = []
          · exact z
          · exact absurd ((M.mem _).mpr z) hk
        refine ⟨.inl ⟨rfl, _, SqL.of hP⟩, _, rfl, _, rfl, _, _, rfl, rfl, hL, p, _, _, rfl, rfl, hP, (by decide), ?_⟩
        have s4 : Same H (upd (upd H2 p (.lst [])) d (.dK (putK kvs (Sum.inl (t / L)) (.ref p)))) := (sm.put hp).wr hd
        have h4d : (upd (upd H2 p (.lst [])) d (.dK (putK kvs (Sum.inl (t / L)) (.ref p)))) d = some (.dK (putK kvs (Sum.inl (t / L)) (.ref p))) := upd_same
        have h4o : ∀ k ∈ ks, (upd (upd H2 p (.lst [])) d (.dK (putK kvs (Sum.inl (t / L)) (.ref p)))) (ad k) = some (.lst ((grp L k (rd.take i)).map V.int)) := fun k hk' => by
          rw [upd_ne (fr k hk').1]
          exact (Same.new hp) _ _ (M.ls k hk')
        have adp : ∀ k ∈ ks, ad k ≠ p := fun k hk' e => by
          have := M.ls k hk'
          rw [e, hp] at this
          cases this
        generalize upd (upd H2 p (.lst [])) d (.dK (putK kvs (Sum.inl (t / L)) (.ref p))) = H4 at s4 h4d h4o ⊢
        have hv0 : valV kvs (Sum.inl (t / L)) = none := by rw [M.val, if_neg hk]
        refine ⟨putK kvs (Sum.inl (t / L)) (.ref p), ks ++ [t / L], fun k => if k = t / L then p else ad k, _, rfl, s4.wr pn, by rw [upd_ne pd.symm]; exact h4d, hil, by rw [List.length_append, List.length_singleton]; omega, ⟨?_, ?_, fun k => ?_, fun k hk' => ?_, fun k => ?_⟩, fun k hk' => ?_, fun k hk1 k' hk2 e => ?_⟩
        · rw [List.nodup_append]
          refine ⟨M.nd, by simp, fun a ha b hb => ?_⟩
          rw [List.mem_singleton.mp hb]
          exact fun e => hk (e ▸ ha)
        · rw [putK_new _ hv0, List.length_append, List.length_append, M.len]
          rfl
        · rw [valV_put]
          by_cases e : k = t / L
          · subst e
            rw [if_pos rfl, if_pos (by simp)]
            simp
          · rw [if_neg (fun z => e (Sum.inl.inj z)), M.val]
            by_cases z : k ∈ ks
            · rw [if_pos z, if_pos (List.mem_append_left _ z), if_neg e]
            · rw [if_neg z, if_neg (by intro y; rcases List.mem_append.mp y with y | y; exact z y; exact e (List.mem_singleton.mp y))]
        · rw [ert, grp_append]
          by_cases e : k = t / L
          · subst e
            rw [if_pos rfl, upd_same, g0, grp_one_eq rfl]
            rfl
          · have hk2 : k ∈ ks := by
              rcases List.mem_append.mp hk' with y | y
              · exact y
              · exact absurd (List.mem_singleton.mp y) e
            rw [if_neg e, upd_ne (adp k hk2), grp_one_ne (fun z => e z.symm), List.append_nil]
            exact h4o k hk2
        · rw [ert, grp_append]
          by_cases e : k = t / L
          · subst e
            rw [grp_one_eq rfl]
            exact ⟨fun _ z => by simp at z, fun _ => by simp⟩
          · rw [grp_one_ne (fun z => e z.symm), List.append_nil, ← M.mem]
            exact ⟨(fun y => by rcases List.mem_append.mp y with y | y; exact y; exact absurd (List.mem_singleton.mp y) e), (fun y => List.mem_append_left _ y)⟩
        · show (if k = t / L then p else ad k) ≠ d ∧ H (if k = t / L then p else ad k) = none
          by_cases e : k = t / L
          · rw [if_pos e]; exact ⟨pd, pn⟩
          · rw [if_neg e]
            rcases List.mem_append.mp hk' with y | y
            · exact fr k y
            · exact absurd (List.mem_singleton.mp y) e
        · have e : (if k = t / L then p else ad k) = (if k' = t / L then p else ad k') := e
          have m1 : k ≠ t / L → k ∈ ks := fun z => by
            rcases List.mem_append.mp hk1 with y | y
            · exact y
            · exact absurd (List.mem_singleton.mp y) z
          have m2 : k' ≠ t / L → k' ∈ ks := fun z => by
            rcases List.mem_append.mp hk2 with y | y
            · exact y
            · exact absurd (List.mem_singleton.mp y) z
          by_cases e1 : k = t / L
          · by_cases e2 : k' = t / L
            · rw [e1, e2]
            · rw [if_pos e1, if_neg e2] at e
              exact absurd e.symm (adp k' (m2 e2))
          · by_cases e2 : k' = t / L
            · rw [if_neg e1, if_pos e2] at e
              exact absurd e (adp k (m1 e1))
            · rw [if_neg e1, if_neg e2] at e
              exact inj k (m1 e1) k' (m2 e2) e
    · rintro σ H2 ⟨kvs, ks, ad, v5, rfl, sm, hD, _, kl, M, fr, inj⟩
      rw [List.length_map, List.take_length] at M
      exact ⟨_, rfl, q d kvs ks ad H2 sm hD M⟩
end
theorem ringL_len {L late : Int} {b : Nat} : ∀ (bss : List (List Int)) (k : Int), (∀ bs ∈ bss, bs.length = b) → (ringL L late k bss).length = bss.length * b
  | [], _, _ => by simp [ringL]
  | c :: r, k, h => by
    show ((bellL late c).map (fun x => k * L + x) ++ ringL L late (k + 1) r).length = _
    rw [List.length_append, List.length_map, bellL_length, h c (List.mem_cons_self ..), ringL_len r (k + 1) fun bs hb => h bs (List.mem_cons_of_mem _ hb), List.length_cons, Nat.succ_mul]
    omega
theorem bell_lt {bs : List Int} {turns late : Int} (B : IsBox bs) (l0 : 0 ≤ late) (h : numB bs < cnt turns (bs.length : Int) late) : ∀ x ∈ bellL late bs, 0 ≤ x ∧ x < turns := fun x hx => by
  obtain ⟨i, hi⟩ := List.getElem?_of_mem hx
  obtain ⟨c, hc, rfl⟩ := bellL_get' hi
  have il := (List.getElem?_eq_some_iff.mp hc).1
  have := box_le B l0 h il
  rw [List.getD_eq_getElem?_getD, hc, Option.getD_some] at this
  have := Int.mul_nonneg (B.2 c (List.mem_of_getElem? hc)) (show 0 ≤ late + 1 by omega)
  omega
theorem grp_ne {L k : Int} {rd : List Int} : grp L k rd ≠ [] ↔ ∃ t ∈ rd, t / L = k := by
  unfold grp
  constructor
  · intro h
    obtain ⟨x, hx⟩ := List.exists_mem_of_ne_nil _ h
    obtain ⟨t, ht, _⟩ := List.mem_map.mp hx
    obtain ⟨h1, h2⟩ := List.mem_filter.mp ht
    exact ⟨t, h1, of_decide_eq_true h2⟩
  · rintro ⟨t, h1, h2⟩ z
    have : t % L ∈ (rd.filter (fun t => decide (t / L = k))).map (fun t => t % L) := List.mem_map.mpr ⟨t, List.mem_filter.mpr ⟨h1, decide_eq_true h2⟩, rfl⟩
    rw [z] at this
    exact nomatch this
theorem grp_len_le (L k : Int) (rd : List Int) : (grp L k rd).length ≤ rd.length := by
  unfold grp
  rw [List.length_map]
  exact List.length_filter_le _ _
theorem grp_mem {L k x : Int} {rd : List Int} (hL : 0 < L) (h : x ∈ grp L k rd) : 0 ≤ x ∧ x < L := by
  unfold grp at h
  obtain ⟨t, _, rfl⟩ := List.mem_map.mp h
  exact ⟨Int.emod_nonneg _ (by omega), Int.emod_lt_of_pos _ hL⟩
theorem keys_len2 {ks : List Int} {n : Int} (n0 : 0 ≤ n) (nd : ks.Nodup) (h : ∀ k : Int, k ∈ ks ↔ 0 ≤ k ∧ k < n) : (ks.length : Int) = n := by
  have e := nodup_len (m := (List.range n.toNat).map (fun i => ((i : Nat) : Int))) nd (by
    unfold List.Nodup
    rw [List.pairwise_map]
    exact List.nodup_range.imp fun {a b} hab e => hab (by omega)) (fun a => by
      rw [h a, List.mem_map]
      constructor
      · intro z
        exact ⟨a.toNat, List.mem_range.mpr (by omega), by omega⟩
      · rintro ⟨i, hi, rfl⟩
        have := List.mem_range.mp hi
        omega)
  rw [e, List.length_map, List.length_range]
  omega
theorem keys_in {ks : List Int} {n : Int} (n0 : 0 ≤ n) (hl : (ks.length : Int) = n) (h : ∀ k : Int, 0 ≤ k → k < n → k ∈ ks) : ∀ k ∈ ks, 0 ≤ k ∧ k < n := fun k hk => by
  refine Classical.byContradiction fun nk => ?_
  have nd : (k :: (List.range n.toNat).map (fun i => ((i : Nat) : Int))).Nodup := by
    rw [List.nodup_cons]
    refine ⟨fun z => ?_, ?_⟩
    · obtain ⟨i, hi, e⟩ := List.mem_map.mp z
      have := List.mem_range.mp hi
      exact nk (by omega)
    · unfold List.Nodup
      rw [List.pairwise_map]
      exact List.nodup_range.imp fun {a b} hab e => hab (by omega)
  have := nodup_le (m := ks) nd fun a ha => by
    rcases List.mem_cons.mp ha with z | z
    · rw [z]; exact hk
    · obtain ⟨i, hi, e⟩ := List.mem_map.mp z
      have := List.mem_range.mp hi
      exact h a (by omega) (by omega)
  rw [List.length_cons, List.length_map, List.length_range] at this
  omega
structure TalkGood (rd : List Int) (many turns bells late : Int) : Prop where
  part : ∀ k : Int, 0 ≤ k → k < many → GoodR turns bells late (grp (turns + late) k rd)
  ins : ∀ t ∈ rd, 0 ≤ t / (turns + late) ∧ t / (turns + late) < many
theorem TalkGood.len {rd ks : List Int} {many turns bells late : Int} (G : TalkGood rd many turns bells late) (m0 : 0 ≤ many) (b1 : 1 ≤ bells) (nd : ks.Nodup) (mem : ∀ k : Int, k ∈ ks ↔ grp (turns + late) k rd ≠ []) : (ks.length : Int) = many := by
  refine keys_len2 m0 nd fun k => (mem k).trans ⟨fun h => ?_, fun h z => ?_⟩
  · obtain ⟨t, ht, rfl⟩ := grp_ne.mp h
    exact G.ins t ht
  · have := (G.part k h.1 h.2).1
    rw [z] at this
    simp at this
    omega
theorem talkGood_of {rd ks : List Int} {many turns bells late : Int} (m0 : 0 ≤ many) (b1 : 1 ≤ bells) (hl : (ks.length : Int) = many) (mem : ∀ k : Int, k ∈ ks ↔ grp (turns + late) k rd ≠ []) (part : ∀ k : Int, 0 ≤ k → k < many → GoodR turns bells late (grp (turns + late) k rd)) : TalkGood rd many turns bells late :=
  ⟨part, fun t ht => keys_in m0 hl (fun k h0 h1 => (mem k).mpr fun z => by
    have := (part k h0 h1).1
    rw [z] at this
    simp at this
    omega) _ ((mem _).mpr (grp_ne.mpr ⟨t, ht, rfl⟩))⟩
section
variable {P : Program} {w : World} {K : PySem.W.Frag} {mg : Str → Option Value} {base : Heap}
noncomputable def told63 (rd : List Int) (many turns late : Int) : List Int := (List.range many.toNat).map fun (k : Nat) => numB (boxL late (grp (turns + late) (k : Int) rd))
noncomputable def spTalkF (K : PySem.W.Frag) (C : Addr) : Sp := fun vs H Q E => ∃ (a : Addr) (rd : List Int) (many turns bells late : Int), vs = [.ref a, .int many, .int turns, .int bells, .int late] ∧ SqL K H a (rd.map V.int) ∧ rd.length ≤ 60 ∧ 0 ≤ many ∧ many ≤ 1000 ∧ 1 ≤ bells ∧ bells ≤ 60 ∧ bells ≤ turns ∧ 0 ≤ late ∧ intBits late ≤ 8000 ∧ intBits turns ≤ 8000 ∧ turns + late < 2 ^ 200 ∧
  (TalkGood rd many turns bells late → ∀ (p : Addr) (H' : Hp), Same H H' → H p = none → H' p = some (.lst ((told63 rd many turns late).map V.int)) → Q (.ref p) H') ∧ (¬ TalkGood rd many turns bells late → ∀ H', Same H H' → E (.ref C) none H')
theorem sc_talk_heard : FnScope ["reading", "many", "turns", "bells", "late", "heard_of"] ["reading", "many", "turns", "bells", "late"] (defScope st_talk_heard) := ⟨rfl, rfl, rfl, by decide +kernel, rfl, by decide +kernel, by decide +kernel⟩
theorem ok_talk_heardF {C_NoReading : Addr} (D : Def K mg "talk_heard" st_talk_heard ["reading", "many", "turns", "bells", "late"]) (T : Txt K mg) (m_NoReading : mg "NoReading" = some (.ref C_NoReading)) (x_NoReading : PySem.W.excIn K C_NoReading bmV "ValueError.__new__" = true) (G_by_messages : Fn P w K mg base 1 "by_messages" ["reading", "turns", "late"] (spBy K)) (GE_read : FnE P w K mg base 3 "read" ["reading", "turns", "bells", "late"] (spReadE K C_NoReading)) :
    FnE P w K mg base 4 "talk_heard" ["reading", "many", "turns", "bells", "late"] (spTalkF K C_NoReading) := by
  refine D.fnE sc_talk_heard (fun vs H Q E h => ?_) (fun f cdv A outer s H vs Q E hr h => ?_)
  · obtain ⟨a, rd, m, t, b, l, rfl, _⟩ := h
    rfl
  · obtain ⟨a, rd, many, turns, bells, late, rfl, hS, hl, m0, m1, b1, b60, bt, l0, lb, tb, L2, q1, q2⟩ := h
    refine ⟨_, (pss_cons (ps_set (i := 5) sc_talk_heard.nd rfl (Or.inr rfl) (pe_fn G_by_messages (hr.mono (by decide)) (by rfl) (pa_cons (pv 0) (pa_cons (pv 2) (pa_cons (pv 4) pa_nil)))))
      (pss_cons (ps_if (pt_cmpR op_neI (pe_callB call_lenD (by rfl) T.z_len b_len (pa_cons (pv 5) pa_nil)) (pv 1) (nomark _))
        (pss_one (ps_raise PySem.F.excBase_ValueError x_NoReading (by rfl) m_NoReading (pa_cons pe_str pa_nil)))
        pss_nil)
      (pss_one (ps_ret (pe_compE (own := ["place"]) (fr := ["turns", "bells", "late", "heard_of"]) (ix := [2, 3, 4, 5]) ⟨rfl, rfl, rfl, rfl, rfl, rfl⟩ (pi_range1 (by rfl) T.z_range (pa_cons (pv 1) pa_nil)) (fun _ _ _ _ _ => (pg_name (i := 0) (show (["place", "turns", "bells", "late", "heard_of"] : List Str).Nodup by decide +kernel) rfl (Or.inl rfl))) (fun _ _ _ _ _ => pts_nil) (fun _ _ _ _ _ => (pe_fnG GE_read (hr.mono (by decide)) (by rfl) passesB (pa_cons (pe_dget2 (hu_of hr) (pv 4) (pv 0) (pe_lst pa_nil) ⟨rfl, rfl, rfl, rfl⟩) (pa_cons (pv 1) (pa_cons (pv 2) (pa_cons (pv 3) pa_nil))))))))))), ?_⟩
    refine ⟨_, rfl, _, rfl, _, rfl, a, rd, turns, late, rfl, hS, by omega, by omega, bits_mono (intBits_add_le (m := 8000) (n := 8000) tb lb) (by decide), fun d kvs ks ad H1 s1 hD M => ?_⟩
    refine ⟨_, rfl, d, kvs, rfl, hD, _, rfl, _, _, rfl, rfl, _, rfl, ifND (fun e => ⟨(by decide), q2 (fun G => e (by rw [M.len]; exact G.len m0 b1 M.nd M.mem)) H1 s1⟩) (fun e => ?_)⟩
    have em : (ks.length : Int) = many := by rw [← M.len]; exact e
    refine ⟨_, rfl, many, rfl, by omega, by omega, fun acc hacc => comp_rangeG (lo := 0) (n := many.toNat) (fun i v => GoodR turns bells late (grp (turns + late) (i : Int) rd) ∧ v = V.int (numB (boxL late (grp (turns + late) (i : Int) rd)))) hacc (Nat.le_of_lt (small1000 (by omega))) ?_ ?_⟩
    · intro i H6 R' hi s6 hR
      rw [show (0 : Int) + (i : Int) = (i : Int) by omega]
      have gl : (grp (turns + late) (i : Int) rd).length ≤ 60 := Nat.le_trans (grp_len_le _ _ _) hl
      have sz : Szs 70000 (boxL late (grp (turns + late) (i : Int) rd)) := box_szs (fun x hx => by
        have := grp_mem (show 0 < turns + late by omega) hx
        omega) (by omega) l0
      refine ⟨rfl, _, rfl, d, rfl, .inl ⟨kvs, .inl (s6 _ _ hD)⟩, _, rfl, (by decide), fun p hp => ⟨_, DGet.k (k := Sum.inl (i : Int)) ((Same.new hp) _ _ (s6 _ _ hD)), ?_⟩⟩
      have bad : ¬ GoodR turns bells late (grp (turns + late) (i : Int) rd) → ∀ H', Same H6 H' → E (.ref C_NoReading) none H' := fun nb H' s' => q2 (fun G => nb (G.part _ (by omega) (by omega))) H' ((s1.trans s6).trans s')
      by_cases hk : (i : Int) ∈ ks
      · have hv : valV kvs (Sum.inl (i : Int)) = some (.ref (ad (i : Int))) := by rw [M.val, if_pos hk]
        rw [hv]
        have hA : (upd H6 p (.lst [])) (ad (i : Int)) = some (.lst ((grp (turns + late) (i : Int) rd).map V.int)) := (Same.new hp) _ _ (s6 _ _ (M.ls _ hk))
        exact ⟨_, rfl, _, rfl, _, rfl, ad (i : Int), grp (turns + late) (i : Int) rd, turns, bells, late, rfl, SqL.of hA, gl, by omega, b60, l0, lb, bits_mono tb (by decide), sz, fun g H7 s7 => hR _ _ ((Same.new hp).trans s7) ⟨g, rfl⟩, fun nb H7 s7 => bad nb H7 ((Same.new hp).trans s7)⟩
      · have hv : valV kvs (Sum.inl (i : Int)) = none := by rw [M.val, if_neg hk]
        rw [hv]
        have ge : grp (turns + late) (i : Int) rd = [] := Classical.byContradiction fun z => hk ((M.mem _).mpr z)
        rw [ge] at gl sz
        have nb : ¬ GoodR turns bells late (grp (turns + late) (i : Int) rd) := fun g => by
          have := g.1
          rw [ge] at this
          simp at this
          omega
        refine ⟨_, rfl, _, rfl, _, rfl, p, [], turns, bells, late, rfl, SqL.of upd_same, gl, by omega, b60, l0, lb, bits_mono tb (by decide), sz, fun g H7 s7 => absurd (by rw [ge]; exact g) nb, fun _ H7 s7 => bad nb H7 ((Same.new hp).trans s7)⟩
    · intro ys H2 s2 hY yl yp
      have G : TalkGood rd many turns bells late := talkGood_of m0 b1 em M.mem fun k h0 h1 => by
        have hi : k.toNat < ys.length := by omega
        have := (yp k.toNat _ (List.getElem?_eq_getElem hi)).1
        rwa [show ((k.toNat : Nat) : Int) = k by omega] at this
      have ey : ys = (told63 rd many turns late).map V.int := by
        unfold told63
        apply List.ext_getElem?
        intro i
        rw [List.map_map, List.getElem?_map]
        by_cases hi : i < ys.length
        · rw [List.getElem?_eq_getElem hi, (yp i _ (List.getElem?_eq_getElem hi)).2, List.getElem?_eq_getElem (by rw [List.length_range]; omega), List.getElem_range]
          rfl
        · rw [List.getElem?_eq_none (by omega), List.getElem?_eq_none (by rw [List.length_range]; omega)]
          rfl
      rw [ey] at hY
      exact q1 G acc H2 (s1.trans s2) (s1.free hacc) hY
end
theorem comp_filterM {K : PySem.W.Frag} {a acc : Addr} {xs : List V} {own : Nat} {ix : List Nat} {g : TG} {tt : TT} {te : TE} {σ : St} {H1 : Hp} {Q : VK} (f : V → Bool) (h : V → V) (hq : SqL K H1 a xs) (hn : H1 acc = none) (hz : xs.length ≤ sizeLine)
    (step : ∀ (i : Nat) (x : V) (H : Hp) (R1 : VK) (R2 : Hp → Prop), xs[i]? = some x → Same H1 H → (f x = true → R1 (h x) H) → (f x = false → R2 H) → g x (blockSt own ix σ) H fun σ4 H4 => σ4.drop own = ix.map (fun i => (σ[i]?).getD none) ∧ tt σ4 H4 fun ok H5 => if ok = true then te σ4 H5 R1 else R2 H5)
    (hd : Q (.ref acc) (upd H1 acc (.lst ((xs.filter f).map h)))) :
    CompGo (Itl K a) own ix g tt te σ H1 acc Q := by
  refine ⟨fun i m ys H => m = xs.length - i ∧ i ≤ xs.length ∧ ys = ((xs.take i).filter f).map h ∧ H = upd H1 acc (.lst ys), ⟨xs.length, by simp, Nat.zero_le _, rfl, rfl⟩, ?_⟩
  rintro i m ys H ⟨rfl, hi, rfl, rfl⟩
  have q : SqL K (upd H1 acc (.lst (((xs.take i).filter f).map h))) a xs := (Same.new hn).seq hq
  refine ⟨upd_same, ?_⟩
  by_cases hlt : i < xs.length
  · refine .inr ⟨⟨xs, xs[i], q, by simp [hlt]⟩, ?_, fun x H3 y => ?_⟩
    · have h1 := List.length_filter_le f (xs.take i)
      have h2 : (xs.take i).length = i := by rw [List.length_take]; omega
      rw [List.length_map]
      omega
    obtain ⟨e, y⟩ := y
    subst e
    have hx := y xs q
    refine step i x _ _ _ hx (Same.new hn) (fun fx => ⟨upd_same, xs.length - (i + 1), by omega, rfl, hlt, ?_, by rw [upd_upd]⟩) (fun fx => ⟨xs.length - (i + 1), by omega, rfl, hlt, ?_, rfl⟩)
    · rw [take_succ_filter hx, if_pos fx, List.map_append]
      rfl
    · rw [take_succ_filter hx, if_neg (by rw [fx]; decide), List.append_nil]
  · have e : i = xs.length := by omega
    subst e
    rw [List.take_length] at q ⊢
    exact .inl ⟨⟨xs, q, Nat.le_refl _⟩, hd⟩
theorem comp_listH {K : PySem.W.Frag} {a acc : Addr} {xs : List V} {own : Nat} {ix : List Nat} {g : TG} {te : TE} {σ : St} {H1 : Hp} {Q : VK} (Pr : Nat → V → Hp → Prop) (hmono : ∀ i v H H', Same H H' → Pr i v H → Pr i v H') (hacc : ∀ i v H o, H acc = some o → ∀ o', Pr i v H → Pr i v (upd H acc o'))
    (hq : SqL K H1 a xs) (hn : H1 acc = none) (hz : xs.length ≤ sizeLine)
    (step : ∀ (i : Nat) (x : V) (H : Hp) (R : VK), xs[i]? = some x → Same H1 H → (∃ o, H acc = some o) → (∀ v H', Same H H' → Pr i v H' → R v H') → g x (blockSt own ix σ) H fun σ4 H4 => σ4.drop own = ix.map (fun i => (σ[i]?).getD none) ∧ te σ4 H4 R)
    (hd : ∀ ys H', Same H1 H' → H' acc = some (.lst ys) → ys.length = xs.length → (∀ i v, ys[i]? = some v → Pr i v H') → Q (.ref acc) H') :
    CompGo (Itl K a) own ix g tNoTest te σ H1 acc Q := by
  refine ⟨fun i m ys H => m = xs.length - i ∧ i ≤ xs.length ∧ ys.length = i ∧ (∀ j v, ys[j]? = some v → Pr j v H) ∧ Same H1 H ∧ H acc = some (.lst ys), ⟨xs.length, by simp, Nat.zero_le _, rfl, fun j v h => by simp at h, Same.new hn, upd_same⟩, ?_⟩
  rintro i m ys H ⟨rfl, hi, hl, pr, sm, ha⟩
  refine ⟨ha, ?_⟩
  have q := sm.seq hq
  by_cases hlt : i < xs.length
  · refine .inr ⟨⟨xs, xs[i], q, by simp [hlt]⟩, by omega, fun x H3 y => ?_⟩
    obtain ⟨e, y⟩ := y
    subst e
    refine step i x _ _ (y xs q) sm ⟨_, ha⟩ fun v H' s' pv => ⟨s' _ _ ha, xs.length - (i + 1), by omega, rfl, hlt, by rw [List.length_append, hl]; rfl, fun j u hj => ?_, (sm.trans s').wr hn, upd_same⟩
    by_cases hji : j < ys.length
    · rw [List.getElem?_append_left hji] at hj
      exact hacc j u H' _ (s' _ _ ha) _ (hmono j u _ _ s' (pr j u hj))
    · have hj2 := (List.getElem?_eq_some_iff.mp hj).1
      rw [List.length_append, List.length_singleton] at hj2
      have ej : j = i := by omega
      subst ej
      rw [List.getElem?_append_right (by omega), hl, Nat.sub_self] at hj
      have : v = u := by simpa using hj
      subst this
      exact hacc j v H' _ (s' _ _ ha) _ pv
  · have e : i = xs.length := by omega
    subst e
    exact .inl ⟨⟨xs, q, Nat.le_refl _⟩, hd ys H sm ha hl pr⟩
theorem pi_listK {X : Cx} {tg l : Expr} {tl : TE} (K : PySem.W.Frag) (hl : PE X l tl) (hK : X.K = K := by rfl) : PI X tg l (iList K tl) := by subst hK; exact pi_list hl
theorem e20 : (10 : Int) ^ (20 : Int).toNat = 100000000000000000000 := by decide
theorem b740 : intBits ((7 : Int) ^ (40 : Int).toNat) ≤ 120 := by decide
theorem b760 : intBits ((7 : Int) ^ (60 : Int).toNat) ≤ 180 := by decide +kernel
section
variable {P : Program} {w : World} {K : PySem.W.Frag} {mg : Str → Option Value} {base : Heap}
structure Frame63 (turns bells late : Int) : Prop where
  b1 : 1 ≤ bells
  b4 : bells ≤ 4
  l0 : 0 ≤ late
  l1 : late < 100000000000000000000
  bt : bells ≤ turns
  t1 : turns < 1100000000000000000000
noncomputable def spFrame : Sp := fun vs H Q _ => ∃ c : Int, vs = [.int c] ∧ ∀ (p : Addr) (turns bells late : Int) (H' : Hp), Same H H' → H' p = some (.tup [.int turns, .int bells, .int late]) → Frame63 turns bells late → Q (.ref p) H'
theorem sc__law_frame : FnScope ["cell", "bells", "late", "steps"] ["cell"] (defScope st__law_frame) := ⟨rfl, rfl, rfl, by decide +kernel, rfl, by decide +kernel, by decide +kernel⟩
theorem ok_frame (D : Def K mg "_law_frame" st__law_frame ["cell"]) (T : Txt K mg) (G__law_drawn : Fn P w K mg base 1 "_law_drawn" ["cell", "k"] spDr) : Fn P w K mg base 2 "_law_frame" ["cell"] spFrame := by
  refine D.fn sc__law_frame (fun vs H Q E h => ?_) (fun f cdv A outer s H vs Q E hr h => ?_)
  · obtain ⟨c, rfl, _⟩ := h
    rfl
  · obtain ⟨cell, rfl, q⟩ := h
    refine ⟨_, (pss_cons (ps_set (i := 1) sc__law_frame.nd rfl (Or.inl rfl) (pe_op op_addI pe_int (pe_op op_modB (pe_fn G__law_drawn (hr.mono (by decide)) (by rfl) (pa_cons (pv 0) (pa_cons pe_int pa_nil))) pe_int)))
      (pss_cons (ps_set (i := 2) sc__law_frame.nd rfl (Or.inl rfl) (pe_ix ix_list (pe_lst (pa_cons (pe_op op_modB (pe_fn G__law_drawn (hr.mono (by decide)) (by rfl) (pa_cons (pv 0) (pa_cons pe_int pa_nil))) pe_int) (pa_cons (pe_op op_modB (pe_op op_mulB (pe_fn G__law_drawn (hr.mono (by decide)) (by rfl) (pa_cons (pv 0) (pa_cons pe_int pa_nil))) (pe_op op_powB pe_int pe_int)) (pe_op op_powB pe_int pe_int)) pa_nil))) (pe_op op_modB (pe_fn G__law_drawn (hr.mono (by decide)) (by rfl) (pa_cons (pv 0) (pa_cons pe_int pa_nil))) pe_int) (fun _ _ => rfl)))
      (pss_cons (ps_set (i := 3) sc__law_frame.nd rfl (Or.inl rfl) (pe_op op_modB (pe_fn G__law_drawn (hr.mono (by decide)) (by rfl) (pa_cons (pv 0) (pa_cons pe_int pa_nil))) pe_int))
      (pss_one (ps_ret (pe_tup (pa_cons (pe_op op_addI (pe_op op_addI (pv 1) (pe_op op_mulB (pv 3) (pe_op op_addI (pv 2) pe_int))) (pe_op op_modB (pe_op op_mulB (pe_fn G__law_drawn (hr.mono (by decide)) (by rfl) (pa_cons (pv 0) (pa_cons pe_int pa_nil))) (pe_op op_powB pe_int pe_int)) (pe_op op_addI (pv 2) pe_int))) (pa_cons (pv 1) (pa_cons (pv 2) pa_nil))))))))), ?_⟩
    refine ⟨_, rfl, cell, 0, rfl, by decide, fun d1 d10 d11 => ⟨_, _, rfl, rfl, (by decide), _, _, rfl, rfl, ?_⟩⟩
    have b0 := Int.emod_nonneg d1 (show (4 : Int) ≠ 0 by decide)
    have b1 := Int.emod_lt_of_pos d1 (show (0 : Int) < 4 by decide)
    have B1 : 1 ≤ 1 + d1 % 4 := by omega
    have B4 : 1 + d1 % 4 ≤ 4 := by omega
    clear b0 b1
    generalize 1 + d1 % 4 = bells at B1 B4 ⊢
    refine ⟨_, rfl, cell, 1, rfl, by decide, fun d2 d20 d21 => ⟨_, _, rfl, rfl, (by decide), _, rfl, cell, 1, rfl, by decide, fun d3 d30 d31 => ⟨_, _, rfl, rfl, ⟨by decide, by decide, by decide⟩, _, _, rfl, rfl, ⟨62, 120, bits_of d30 (by omega), b740, by decide⟩, _, _, rfl, rfl, ⟨by decide, by decide, by decide⟩, _, _, rfl, rfl, (by decide), (by show 2 ≤ sizeLine; decide), fun p1 hp1 => ⟨_, rfl, cell, 2, rfl, by decide, fun d4 d40 d41 => ⟨_, _, rfl, rfl, (by decide), ?_⟩⟩⟩⟩⟩
    have m0 := Int.emod_nonneg (d3 * 7 ^ (40 : Int).toNat) (show (10 : Int) ^ (20 : Int).toNat ≠ 0 by decide)
    have m1 := Int.emod_lt_of_pos (d3 * 7 ^ (40 : Int).toNat) (show (0 : Int) < 10 ^ (20 : Int).toNat by decide)
    generalize d3 * 7 ^ (40 : Int).toNat % 10 ^ (20 : Int).toNat = g3 at m0 m1 ⊢
    rw [e20] at m1
    obtain ⟨v, hv, e⟩ := at2 (V.int (d2 % 7)) (V.int g3) (Int.emod_nonneg d4 (by decide : (2 : Int) ≠ 0)) (Int.emod_lt_of_pos d4 (by decide))
    obtain ⟨late, rfl, l0, l1⟩ : ∃ late : Int, v = .int late ∧ 0 ≤ late ∧ late < 100000000000000000000 := by
      rcases e with rfl | rfl
      · exact ⟨_, rfl, Int.emod_nonneg _ (by decide), by have := Int.emod_lt_of_pos d2 (show (0 : Int) < 7 by decide); omega⟩
      · exact ⟨_, rfl, m0, m1⟩
    have lb1 : intBits (late + 1) ≤ 100 := bits_of (by omega) (by omega)
    refine ⟨_, _, _, _, rfl, rfl, SqL.of upd_same, hv, ?_⟩
    have s1 : Same H (upd H p1 (.lst [V.int (d2 % 7), V.int g3])) := Same.new hp1
    generalize upd H p1 (.lst [V.int (d2 % 7), V.int g3]) = H1 at s1 ⊢
    refine ⟨_, rfl, cell, 3, rfl, by decide, fun d5 d50 d51 => ⟨_, _, rfl, rfl, (by decide), ?_⟩⟩
    have S0 := Int.emod_nonneg d5 (show (10 : Int) ≠ 0 by decide)
    have S1 := Int.emod_lt_of_pos d5 (show (0 : Int) < 10 by decide)
    generalize d5 % 10 = st at S0 S1 ⊢
    refine ⟨_, rfl, _, rfl, _, rfl, _, _, rfl, rfl, _, _, rfl, rfl, ⟨60, 100, bits_of S0 (by omega), lb1, by decide⟩, _, _, rfl, rfl, _, rfl, cell, 5, rfl, by decide, fun d8 d80 d81 => ⟨_, _, rfl, rfl, ⟨by decide, by decide, by decide⟩, _, _, rfl, rfl, ⟨62, 120, bits_of d80 (by omega), b740, by decide⟩, _, rfl, _, _, rfl, rfl, _, _, rfl, rfl, by omega, _, _, rfl, rfl, _, rfl, _, rfl, (by show 3 ≤ sizeLine; decide), fun p hp => ?_⟩⟩
    have r0 := Int.emod_nonneg (d8 * 7 ^ (40 : Int).toNat) (show late + 1 ≠ 0 by omega)
    have r1 := Int.emod_lt_of_pos (d8 * 7 ^ (40 : Int).toNat) (show 0 < late + 1 by omega)
    generalize d8 * 7 ^ (40 : Int).toNat % (late + 1) = r at r0 r1 ⊢
    have x0 : 0 ≤ st * (late + 1) := Int.mul_nonneg S0 (by omega)
    have x1 : st * (late + 1) ≤ 9 * 100000000000000000000 := Int.mul_le_mul (by omega) (by omega) (by omega) (by decide)
    exact q p _ bells late _ (s1.put hp) upd_same ⟨B1, B4, l0, l1, by omega, by omega⟩
noncomputable def spChg63 (K : PySem.W.Frag) : Sp := fun vs H Q _ => ∃ (a b pf : Addr) (ns tl : List Int) (many turns bells late : Int), vs = [.ref a, .ref b, .ref pf, .int many] ∧ SqL K H a (ns.map V.int) ∧ SqL K H b (tl.map V.int) ∧ H pf = some (.tup [.int turns, .int bells, .int late]) ∧ tl.length ≤ 24 ∧ (∀ x ∈ tl, 0 ≤ x ∧ x < 2 ^ 100) ∧ 1 ≤ many ∧ many ≤ 6 ∧ Frame63 turns bells late ∧
  ∀ (p : Addr) (rd : List Int) (H' : Hp), Same H H' → H p = none → H' p = some (.lst (rd.map V.int)) → rd.Pairwise (· ≤ ·) → rd.length ≤ 27 → (∀ x ∈ rd, 0 ≤ x ∧ x < 2 ^ 161) → Q (.ref p) H'
theorem b45 : (0 : Int) < 10 ^ (45 : Int).toNat ∧ (10 : Int) ^ (45 : Int).toNat < 2 ^ 150 := by decide +kernel
theorem mem_set {cs : List Int} {i : Nat} {v : Int} {F : Int → Prop} (h : ∀ x ∈ cs, F x) (hv : F v) : ∀ x ∈ cs.set i v, F x := fun x hx => (List.mem_or_eq_of_mem_set hx).elim (h x) fun e => e ▸ hv
theorem at01 {a b : V} (k : Bool) : ∃ v, atI [a, b] (if k = true then 1 else 0) = some v ∧ (v = a ∨ v = b) := by
  cases k
  · exact ⟨a, rfl, .inl rfl⟩
  · exact ⟨b, rfl, .inr rfl⟩
theorem sc__law_changed : FnScope ["script", "talk", "frame", "many", "turns", "bells", "late", "came", "k", "cell", "at", "way", "off", "far"] ["script", "talk", "frame", "many"] (defScope st__law_changed) := ⟨rfl, rfl, rfl, by decide +kernel, rfl, by decide +kernel, by decide +kernel⟩
theorem ok_changed (D : Def K mg "_law_changed" st__law_changed ["script", "talk", "frame", "many"]) (T : Txt K mg) (G__law_cell_at : Fn P w K mg base 1 "_law_cell_at" ["script", "k"] (spCell K)) (G__law_drawn : Fn P w K mg base 1 "_law_drawn" ["cell", "k"] spDr) : Fn P w K mg base 2 "_law_changed" ["script", "talk", "frame", "many"] (spChg63 K) := by
  refine D.fn sc__law_changed (fun vs H Q E h => ?_) (fun f cdv A outer s H vs Q E hr h => ?_)
  · obtain ⟨a, b, pf, ns, tl, m, t, b2, l, rfl, _⟩ := h
    rfl
  · obtain ⟨a, b, pf, ns, tl, many, turns, bells, late, rfl, hS, hB, hF, tll, tlb, n1, n6, Fr, q⟩ := h
    obtain ⟨B1, B4, l0, l1, bt, t1⟩ := Fr
    have hu := hu64 hr
    have lb : intBits late ≤ 100 := bits_of l0 (by omega)
    refine ⟨_, (pss_cons (ps_asg (pv 2) (pg_tup (n := 3) rfl (pgs_cons (pg_name (i := 4) sc__law_changed.nd rfl (Or.inl rfl)) (pgs_cons (pg_name (i := 5) sc__law_changed.nd rfl (Or.inl rfl)) (pgs_cons (pg_name (i := 6) sc__law_changed.nd rfl (Or.inl rfl)) pgs_nil)))))
      (pss_cons (ps_set (i := 7) sc__law_changed.nd rfl (Or.inl rfl) (pe_lst pa_nil))
      (pss_cons (ps_for PassesOwn.never rfl (pi_range1 (by rfl) T.z_range (pa_cons (pe_callB call_len_seq (by rfl) T.z_len b_len (pa_cons (pv 1) pa_nil)) pa_nil)) (pg_name (i := 8) sc__law_changed.nd rfl (Or.inl rfl))
        (pss_one (ps_expr (pe_bm PySem.F.plainAttrs_list PySem.F.slot_list_append PySem.F.type_list_append mt_append (pv 7) (pa_cons (pe_op op_addI (pe_ix ix_list (pv 1) (pv 8) (fun _ _ => rfl)) (pe_op op_modB (pe_op op_mulB (pe_fn G__law_drawn (hr.mono (by decide)) (by rfl) (pa_cons (pe_fn G__law_cell_at (hr.mono (by decide)) (by rfl) (pa_cons (pv 0) (pa_cons (pe_op op_addI pe_int (pv 8)) pa_nil))) (pa_cons pe_int pa_nil))) (pe_op op_powB pe_int pe_int)) (pe_op op_addI (pv 6) pe_int))) pa_nil)))))
      (pss_cons (ps_for PassesOwn.never rfl (pi_range1 (by rfl) T.z_range (pa_cons (pe_op op_addI pe_int (pe_op op_modB (pe_fn G__law_drawn (hr.mono (by decide)) (by rfl) (pa_cons (pe_fn G__law_cell_at (hr.mono (by decide)) (by rfl) (pa_cons (pv 0) (pa_cons pe_int pa_nil))) (pa_cons pe_int pa_nil))) pe_int)) pa_nil)) (pg_name (i := 8) sc__law_changed.nd rfl (Or.inl rfl))
        (pss_cons (ps_set (i := 9) sc__law_changed.nd rfl (Or.inl rfl) (pe_fn G__law_cell_at (hr.mono (by decide)) (by rfl) (pa_cons (pv 0) (pa_cons (pe_op op_addI pe_int (pv 8)) pa_nil))))
        (pss_cons (ps_set (i := 10) sc__law_changed.nd rfl (Or.inl rfl) (pe_op op_modB (pe_fn G__law_drawn (hr.mono (by decide)) (by rfl) (pa_cons (pv 9) (pa_cons pe_int pa_nil))) (pe_callB (call_max2 rfl) (by rfl) T.z_max b_max (pa_cons pe_int (pa_cons (pe_callB call_len_seq (by rfl) T.z_len b_len (pa_cons (pv 7) pa_nil)) pa_nil)))))
        (pss_cons (ps_set (i := 11) sc__law_changed.nd rfl (Or.inl rfl) (pe_op op_modB (pe_fn G__law_drawn (hr.mono (by decide)) (by rfl) (pa_cons (pv 9) (pa_cons pe_int pa_nil))) pe_int))
        (pss_cons (ps_set (i := 12) sc__law_changed.nd rfl (Or.inl rfl) (pe_op op_subI (pe_op op_subI (pe_op op_modB (pe_op op_mulB (pe_fn G__law_drawn (hr.mono (by decide)) (by rfl) (pa_cons (pv 9) (pa_cons pe_int pa_nil))) (pe_op op_powB pe_int pe_int)) (pe_op op_addI (pe_op op_mulB pe_int (pv 6)) pe_int)) (pe_op op_mulB pe_int (pv 6))) pe_int))
        (pss_one (ps_if (pw_and (pt_cmpR op_eqI (pv 11) pe_int (nomark _)) (pw_and1 (pt_cmpR (op_neL hu) (pv 7) (pe_lst pa_nil) (nomark _)))).pt
          (pss_one (ps_expr (pe_bm PySem.F.plainAttrs_list PySem.F.slot_list_pop PySem.F.type_list_pop mt_popAt (pv 7) (pa_cons (pv 10) pa_nil))))
          (pss_one (ps_if (pt_cmpR op_eqI (pv 11) pe_int (nomark _))
            (pss_cons (ps_set (i := 13) sc__law_changed.nd rfl (Or.inl rfl) (pe_ix ix_list (pe_lst (pa_cons (pe_op op_mulB (pe_op op_addI (pv 3) pe_int) (pe_op op_addI (pv 4) (pv 6))) (pa_cons (pe_op op_powB pe_int pe_int) pa_nil))) (pe_callTy call_int1 (by rfl) T.z_int b_int (pa_cons (pe_cmpR op_eqI (pe_op op_modB (pe_fn G__law_drawn (hr.mono (by decide)) (by rfl) (pa_cons (pv 9) (pa_cons pe_int pa_nil))) pe_int) pe_int (nomark _)) pa_nil)) (fun _ _ => rfl)))
            (pss_one (ps_expr (pe_bm PySem.F.plainAttrs_list PySem.F.slot_list_append PySem.F.type_list_append mt_append (pv 7) (pa_cons (pe_op op_modB (pe_op op_mulB (pe_fn G__law_drawn (hr.mono (by decide)) (by rfl) (pa_cons (pv 9) (pa_cons pe_int pa_nil))) (pe_op op_powB pe_int pe_int)) (pv 13)) pa_nil)))))
            (pss_one (ps_if (pw_and (pt_cmpR op_eqI (pv 11) pe_int (nomark _)) (pw_and1 (pt_cmpR (op_neL hu) (pv 7) (pe_lst pa_nil) (nomark _)))).pt
              (pss_one (ps_expr (pe_bm PySem.F.plainAttrs_list PySem.F.slot_list_append PySem.F.type_list_append mt_append (pv 7) (pa_cons (pe_ix ix_list (pv 7) (pv 10) (fun _ _ => rfl)) pa_nil))))
              (pss_one (ps_if (pt_cmpR (op_neL hu) (pv 7) (pe_lst pa_nil) (nomark _))
                (pss_one (ps_asg (pe_callB (call_max2 rfl) (by rfl) T.z_max b_max (pa_cons pe_int (pa_cons (pe_op op_addI (pe_ix ix_list (pv 7) (pv 10) (fun _ _ => rfl)) (pv 12)) pa_nil))) (pg_sub (pv 7) (pv 10) set_list)))
                pss_nil)))))))))))))
      (pss_one (ps_ret (pe_callB call_sortedI (by rfl) T.z_sorted b_sorted (pa_cons (pv 7) pa_nil)))))))), ?_⟩
    refine ⟨_, rfl, pf, _, rfl, SqT.of hF, rfl, _, _, rfl, _, _, rfl, _, _, rfl, rfl, ?_⟩
    refine ⟨(by decide), fun pc hpc => ⟨_, rfl, _, _, rfl, .inl ((Same.new hpc).seq hB), _, rfl, by rw [List.length_map]; omega, by rw [List.length_map]; omega, for_range (n := ((tl.map V.int).length : Int).toNat) (fun i σ H2 => ∃ (cs : List Int) (v8 v9 v10 v11 v12 v13 : Option V), σ = [some (.ref a), some (.ref b), some (.ref pf), some (.int many), some (.int turns), some (.int bells), some (.int late), some (.ref pc), v8, v9, v10, v11, v12, v13] ∧ Same H H2 ∧ H2 pc = some (.lst (cs.map V.int)) ∧ cs.length = i ∧ ∀ x ∈ cs, 0 ≤ x ∧ x < 2 ^ 160) ⟨[], none, none, none, none, none, none, rfl, Same.new hpc, upd_same, rfl, (fun _ z => nomatch z)⟩ ?_ ?_⟩⟩
    · rintro i σ H2 hi ⟨cs, v8, v9, v10, v11, v12, v13, rfl, sm, hC, cl, cb⟩
      rw [List.length_map] at hi
      have hit : i < tl.length := by omega
      rw [show (0 : Int) + (i : Int) = (i : Int) by omega]
      have g := at_map (ns := tl) (k := i) (List.getElem?_eq_getElem hit)
      have tb := tlb _ (List.getElem_mem hit)
      generalize tl[i] = x at g tb
      refine ⟨_, rfl, .inl ⟨rfl, _, SqL.of hC⟩, _, rfl, _, rfl, _, _, _, _, rfl, rfl, sm.seq hB, g, _, rfl, _, rfl, _, _, rfl, rfl, a, ns, 1 + (i : Int), rfl, sm.seq hS, by omega, _, 50, rfl, by decide, fun d1 d10 d11 => ⟨_, _, rfl, rfl, ⟨by decide, by decide, by decide⟩, _, _, rfl, rfl, ⟨61, 120, bits_of d10 d11, b740, by decide⟩, _, rfl, _, _, rfl, rfl, _, _, rfl, rfl, by omega, ?_⟩⟩
      have r0 := Int.emod_nonneg (d1 * 7 ^ (40 : Int).toNat) (show late + 1 ≠ 0 by omega)
      have r1 := Int.emod_lt_of_pos (d1 * 7 ^ (40 : Int).toNat) (show 0 < late + 1 by omega)
      generalize d1 * 7 ^ (40 : Int).toNat % (late + 1) = r at r0 r1 ⊢
      refine ⟨_, _, rfl, rfl, pc, _, _, rfl, rfl, hC, by rw [List.length_map, cl]; exact small1000 (by omega), cs ++ [x + r], _, _, _, _, _, _, rfl, sm.wr hpc, by rw [upd_same, List.map_append]; rfl, by rw [List.length_append, cl]; rfl, fun y hy => ?_⟩
      rcases List.mem_append.mp hy with z | z
      · exact cb y z
      · rw [List.mem_singleton.mp z]
        omega
    rintro σ H2 ⟨cs0, v8, v9, v10, v11, v12, v13, rfl, sm, hC, cl, cb⟩
    rw [List.length_map, show ((tl.length : Nat) : Int).toNat = tl.length by omega] at cl
    refine ⟨_, rfl, a, ns, 0, rfl, sm.seq hS, by decide, _, 41, rfl, by decide, fun d1 d10 d11 => ⟨_, _, rfl, rfl, (by decide), _, _, rfl, rfl, ?_⟩⟩
    have m0 := Int.emod_nonneg d1 (show (3 : Int) ≠ 0 by decide)
    have m3 := Int.emod_lt_of_pos d1 (show (0 : Int) < 3 by decide)
    generalize d1 % 3 = dm at m0 m3 ⊢
    refine ⟨1 + dm, rfl, by omega, by omega, for_range (n := (1 + dm).toNat) (fun k σ H3 => ∃ (cs : List Int) (v8 v9 v10 v11 v12 v13 : Option V), σ = [some (.ref a), some (.ref b), some (.ref pf), some (.int many), some (.int turns), some (.int bells), some (.int late), some (.ref pc), v8, v9, v10, v11, v12, v13] ∧ Same H H3 ∧ H3 pc = some (.lst (cs.map V.int)) ∧ cs.length ≤ 24 + k ∧ ∀ x ∈ cs, 0 ≤ x ∧ x < 2 ^ 160 + (k : Int) * 2 ^ 80) ⟨cs0, _, _, _, _, _, _, rfl, sm, hC, by omega, fun x hx => by have := cb x hx; omega⟩ ?_ ?_⟩
    · rintro k σ H3 hk ⟨cs, v8, v9, v10, v11, v12, v13, rfl, s3, h3, cl3, cb3⟩
      rw [show (0 : Int) + (k : Int) = (k : Int) by omega]
      have k3 : (k : Int) ≤ 2 := by omega
      refine ⟨_, rfl, _, rfl, _, _, rfl, rfl, a, ns, 30 + (k : Int), rfl, s3.seq hS, by omega, ?_⟩
      generalize cellOf ns (30 + (k : Int)) = cell
      have mm : 0 < (if ((cs.map V.int).length : Int) > 1 then ((cs.map V.int).length : Int) else 1) := by split <;> omega
      refine ⟨_, rfl, cell, 42, rfl, by decide, fun e1 e10 e11 => ⟨_, rfl, _, _, rfl, .inl (SqL.of h3), _, _, rfl, _, _, rfl, rfl, mm, ?_⟩⟩
      have at0 := Int.emod_nonneg e1 (show (if ((cs.map V.int).length : Int) > 1 then ((cs.map V.int).length : Int) else 1) ≠ 0 by omega)
      have at1 := Int.emod_lt_of_pos e1 mm
      obtain ⟨i, hi⟩ : ∃ i : Nat, (i : Int) = e1 % (if ((cs.map V.int).length : Int) > 1 then ((cs.map V.int).length : Int) else 1) := ⟨_, Int.toNat_of_nonneg at0⟩
      rw [← hi] at at0 at1 ⊢
      have iin : cs ≠ [] → i < cs.length := fun hne => by
        have n0 : 0 < cs.length := List.length_pos_iff.mpr hne
        rw [List.length_map] at at1
        split at at1 <;> omega
      clear hi at0 at1 mm e10 e11
      refine ⟨_, rfl, cell, 43, rfl, by decide, fun e2 e20 e21 => ⟨_, _, rfl, rfl, (by decide), ?_⟩⟩
      generalize e2 % 5 = way
      refine ⟨_, rfl, cell, 44, rfl, by decide, fun e3 e30 e31 => ⟨_, _, rfl, rfl, ⟨by decide, by decide, by decide⟩, _, _, rfl, rfl, ⟨61, 120, bits_of e30 e31, b740, by decide⟩, _, rfl, _, _, rfl, rfl, ⟨3, 100, by decide, lb, by decide⟩, _, _, rfl, rfl, _, _, rfl, rfl, by omega, _, rfl, _, _, rfl, rfl, ⟨2, 100, by decide, lb, by decide⟩, _, _, rfl, rfl, _, _, rfl, rfl, ?_⟩⟩
      have f0 := Int.emod_nonneg (e3 * 7 ^ (40 : Int).toNat) (show 4 * late + 5 ≠ 0 by omega)
      have f1 := Int.emod_lt_of_pos (e3 * 7 ^ (40 : Int).toNat) (show 0 < 4 * late + 5 by omega)
      obtain ⟨off, ho, o0, o1⟩ : ∃ off : Int, e3 * 7 ^ (40 : Int).toNat % (4 * late + 5) - 2 * late - 2 = off ∧ -(2 ^ 70) < off ∧ off < 2 ^ 70 := ⟨_, rfl, by omega, by omega⟩
      rw [ho]
      clear ho f0 f1
      have cb4 : ∀ x ∈ cs, 0 ≤ x ∧ x < 2 ^ 160 + ((k + 1 : Nat) : Int) * 2 ^ 80 := fun x hx => by have := cb3 x hx; omega
      refine ⟨_, rfl, _, _, rfl, rfl, _, rfl, ifD (fun w0 => ⟨_, rfl, (by decide), fun pe hpe => ⟨pc, pe, cs, [], rfl, rfl, SqL.of ((Same.new hpe) _ _ h3), SqL.of upd_same, _, rfl, ifND (fun ne => ?pop) (fun em => ?els1)⟩⟩) (fun w0 => iteF ?els2)⟩
      case pop =>
        have il := iin ne
        have h4 := (Same.new (o := .lst []) hpe) _ _ h3
        refine ⟨_, rfl, .inl ⟨rfl, _, SqL.of h4⟩, _, rfl, pc, _, (i : Int), i, V.int cs[i], rfl, rfl, h4, by omega, by omega, (ixN_seq (n := (cs.map V.int).length) (i := (i : Int)) (j := i) ?_).1, by rw [List.getElem?_map, List.getElem?_eq_getElem il]; rfl, cs.eraseIdx i, _, _, _, _, _, _, rfl, (s3.put hpe).wr hpc, by rw [upd_same, erase_map], ?_, fun x hx => cb4 x (List.mem_of_mem_eraseIdx hx)⟩
        · unfold ixN
          rw [List.length_map, if_pos (by omega), if_pos (by omega), Int.toNat_natCast]
        · rw [List.length_eraseIdx]
          split <;> omega
      case' els1 =>
        have s5 : Same H (upd H3 pe (.lst [])) := s3.put hpe
        have h5 := (Same.new (o := .lst []) hpe) _ _ h3
        generalize upd H3 pe (.lst []) = H5 at s5 h5 ⊢
        clear w0 em
      case' els2 =>
        have s5 := s3
        have h5 := h3
        clear w0
      all_goals
        refine ⟨_, rfl, _, _, rfl, rfl, _, rfl, ifD (fun w1 => ?_) (fun w1 => ?_)⟩
        · refine ⟨_, rfl, _, _, rfl, rfl, _, rfl, _, rfl, _, _, rfl, rfl, _, _, rfl, rfl, ⟨8, 80, bits_of (by omega) (by omega), bits_of (by omega) (by omega), by decide⟩, _, _, rfl, rfl, ⟨by decide, by decide, by decide⟩, (by show 2 ≤ sizeLine; decide), fun p2 hp2 => ⟨_, rfl, cell, 45, rfl, by decide, fun e4 e40 e41 => ⟨_, _, rfl, rfl, (by decide), _, _, rfl, rfl, .inr ⟨_, rfl, ?_⟩⟩⟩⟩
          obtain ⟨v, hv, ev⟩ := at01 (a := V.int ((many + 1) * (turns + late))) (b := V.int (10 ^ (45 : Int).toNat)) (decide (e4 % 4 = 0))
          have p0 : 0 < (many + 1) * (turns + late) := Int.mul_pos (by omega) (by omega)
          have p1 : (many + 1) * (turns + late) ≤ 7 * 1200000000000000000000 := Int.mul_le_mul (by omega) (by omega) (by omega) (by decide)
          obtain ⟨far, rfl, fr0, fr1⟩ : ∃ far : Int, v = .int far ∧ 0 < far ∧ far < 2 ^ 150 := by
            rcases ev with rfl | rfl
            · exact ⟨_, rfl, p0, by omega⟩
            · exact ⟨_, rfl, b45.1, b45.2⟩
          refine ⟨_, _, _, _, rfl, rfl, SqL.of upd_same, hv, ?_⟩
          have h6 := (Same.new (o := .lst [V.int ((many + 1) * (turns + late)), V.int (10 ^ (45 : Int).toNat)]) hp2) _ _ h5
          have s6 := s5.put (o := .lst [V.int ((many + 1) * (turns + late)), V.int (10 ^ (45 : Int).toNat)]) hp2
          refine ⟨_, rfl, .inl ⟨rfl, _, SqL.of h6⟩, _, rfl, cell, 44, rfl, by decide, fun e5 e50 e51 => ⟨_, _, rfl, rfl, ⟨by decide, by decide, by decide⟩, _, _, rfl, rfl, ⟨61, 180, bits_of e50 e51, b760, by decide⟩, _, rfl, _, _, rfl, rfl, fr0, ?_⟩⟩
          have g0 := Int.emod_nonneg (e5 * 7 ^ (60 : Int).toNat) (show far ≠ 0 by omega)
          have g1 := Int.emod_lt_of_pos (e5 * 7 ^ (60 : Int).toNat) fr0
          generalize e5 * 7 ^ (60 : Int).toNat % far = y at g0 g1 ⊢
          refine ⟨pc, _, _, rfl, rfl, h6, by rw [List.length_map]; exact small1000 (by omega), cs ++ [y], _, _, _, _, _, _, rfl, s6.wr hpc, by rw [upd_same, List.map_append]; rfl, by rw [List.length_append, List.length_singleton]; omega, fun x hx => ?_⟩
          rcases List.mem_append.mp hx with z | z
          · exact cb4 x z
          · rw [List.mem_singleton.mp z]
            omega
        refine ⟨_, rfl, _, _, rfl, rfl, _, rfl, ifD (fun w2 => ⟨_, rfl, (by decide), fun pg hpg => ⟨pc, pg, cs, [], rfl, rfl, SqL.of ((Same.new hpg) _ _ h5), SqL.of upd_same, _, rfl, ifND (fun ne => ?_) (fun em => ?_)⟩⟩) (fun w2 => iteF ?_)⟩
        · have il := iin ne
          have h6 := (Same.new (o := .lst []) hpg) _ _ h5
          refine ⟨_, rfl, .inl ⟨rfl, _, SqL.of h6⟩, _, rfl, _, rfl, _, _, _, _, rfl, rfl, SqL.of h6, at_map (List.getElem?_eq_getElem il), pc, _, _, rfl, rfl, h6, by rw [List.length_map]; exact small1000 (by omega), cs ++ [cs[i]], _, _, _, _, _, _, rfl, (s5.put hpg).wr hpc, by rw [upd_same, List.map_append]; rfl, by rw [List.length_append, List.length_singleton]; omega, fun x hx => ?_⟩
          rcases List.mem_append.mp hx with z | z
          · exact cb4 x z
          · rw [List.mem_singleton.mp z]
            exact cb4 _ (List.getElem_mem il)
        · have s7 := s5.put (o := .lst []) hpg
          have h7 := (Same.new (o := .lst []) hpg) _ _ h5
          refine ⟨_, rfl, (by decide), fun pq hpq => ⟨pc, pq, cs, [], rfl, rfl, SqL.of ((Same.new hpq) _ _ h7), SqL.of upd_same, _, rfl, ifND (fun ne => absurd em ne) (fun _ => ?_)⟩⟩
          exact ⟨cs, _, _, _, _, _, _, rfl, s7.put hpq, (Same.new hpq) _ _ h7, by omega, cb4⟩
        refine ⟨_, rfl, (by decide), fun pq hpq => ⟨pc, pq, cs, [], rfl, rfl, SqL.of ((Same.new hpq) _ _ h5), SqL.of upd_same, _, rfl, ifND (fun ne => ?_) (fun _ => ?_)⟩⟩
        · have il := iin ne
          have h6 := (Same.new (o := .lst []) hpq) _ _ h5
          have xb := cb3 _ (List.getElem_mem il)
          refine ⟨_, rfl, _, rfl, _, _, _, _, rfl, rfl, SqL.of h6, at_map (List.getElem?_eq_getElem il), _, rfl, _, _, rfl, rfl, _, _, rfl, _, rfl, _, rfl, pc, _, _, i, rfl, rfl, h6, ?_, cs.set i (if cs[i] + off > 0 then cs[i] + off else 0), _, _, _, _, _, _, rfl, (s5.put hpq).wr hpc, by rw [upd_same, List.map_set], by rw [List.length_set]; omega, mem_set cb4 ?_⟩
          · unfold ixN
            rw [List.length_map, if_pos (by omega), if_pos (by omega), Int.toNat_natCast]
          · split <;> omega
        · exact ⟨cs, _, _, _, _, _, _, rfl, s5.put hpq, (Same.new hpq) _ _ h5, by omega, cb4⟩
    · rintro σ H3 ⟨cs, v8, v9, v10, v11, v12, v13, rfl, s3, h3, cl3, cb3⟩
      refine ⟨_, rfl, pc, cs, rfl, SqL.of h3, by omega, fun l ms hl pm pw => ?_⟩
      refine q l ms _ (s3.put hl) (s3.free hl) upd_same pw (by rw [pm.length_eq]; omega) fun x hx => ?_
      have := cb3 x (pm.mem_iff.mp hx)
      have k3 : ((1 + dm).toNat : Int) ≤ 3 := by omega
      omega
end
theorem last_le {bs : List Int} {x : Int} {i : Nat} (B : IsBox bs) (h : bs[i]? = some x) (hl : i + 1 = bs.length) : ∀ y ∈ bs, y ≤ x := fun y hy => by
  obtain ⟨j, hj⟩ := List.getElem?_of_mem hy
  have jl := (List.getElem?_eq_some_iff.mp hj).1
  exact B.get (by omega) hj h
theorem good_iff {ns : List Int} {turns bells late last : Int} (l0 : 0 ≤ late) (b1 : 1 ≤ bells) (bt : bells ≤ turns) (B : IsBox (boxL late ns)) (hl : (ns.length : Int) = bells) (h : (boxL late ns)[ns.length - 1]? = some last) : GoodR turns bells late ns ↔ last ≤ (turns - bells) / (late + 1) := by
  have el : (boxL late ns).length = ns.length := boxL_length late ns
  constructor
  · intro g
    refine Classical.byContradiction fun z => ?_
    have n0 : 0 < (boxL late ns).length := by omega
    obtain ⟨r, x, e⟩ : ∃ (r : List Int) (x : Int), boxL late ns = r ++ [x] := by
      have hne : boxL late ns ≠ [] := List.length_pos_iff.mp n0
      exact ⟨_, _, (List.dropLast_concat_getLast hne).symm⟩
    have rl : r.length = ns.length - 1 := by
      have := congrArg List.length e
      rw [List.length_append, List.length_singleton, el] at this
      omega
    rw [e, List.getElem?_append_right (by omega), rl, Nat.sub_self] at h
    have ex : x = last := by simpa using h
    have := cnt_le_num B (turns := turns) (late := late) l0 e (by rw [el, hl, ex]; omega)
    have g3 := g.2.2
    rw [el, hl] at this
    omega
  · intro z
    refine ⟨hl, B, ?_⟩
    have := num_lt_cnt B (turns := turns) (late := late) l0 (by omega) (fun y hy => by
      have := last_le B h (by omega) y hy
      rw [el, hl]
      omega)
    rw [el, hl] at this
    exact this
section
variable {P : Program} {w : World} {K : PySem.W.Frag} {mg : Str → Option Value} {base : Heap}
noncomputable def spPart (K : PySem.W.Frag) : Sp := fun vs H Q _ => ∃ (a pf : Addr) (ns : List Int) (turns bells late : Int), vs = [.ref a, .ref pf] ∧ SqL K H a (ns.map V.int) ∧ H pf = some (.tup [.int turns, .int bells, .int late]) ∧ ns.length ≤ 60 ∧ Frame63 turns bells late ∧
  (GoodR turns bells late ns → ∀ (p : Addr) (H' : Hp), Same H H' → H p = none → H' p = some (.lst ((boxL late ns).map V.int)) → Q (.ref p) H') ∧ (¬ GoodR turns bells late ns → ∀ H', Same H H' → Q .non H')
theorem sc__law_part : FnScope ["part", "frame", "turns", "bells", "late", "box", "last", "i"] ["part", "frame"] (defScope st__law_part) := ⟨rfl, rfl, rfl, by decide +kernel, rfl, by decide +kernel, by decide +kernel⟩
theorem ok_part (D : Def K mg "_law_part" st__law_part ["part", "frame"]) (T : Txt K mg) : Fn P w K mg base 1 "_law_part" ["part", "frame"] (spPart K) := by
  refine D.fn sc__law_part (fun vs H Q E h => ?_) (fun f cdv A outer s H vs Q E hr h => ?_)
  · obtain ⟨a, pf, ns, t, b, l, rfl, _⟩ := h
    rfl
  · obtain ⟨a, pf, ns, turns, bells, late, rfl, hS, hF, hl, Fr, q1, q2⟩ := h
    obtain ⟨B1, B4, l0, l1, bt, t1⟩ := Fr
    have lb1 : intBits (late + 1) ≤ 9000 := bits_mono (bits_of (m := 100) (by omega) (by omega)) (by decide)
    refine ⟨_, (pss_cons (ps_asg (pv 1) (pg_tup (n := 3) rfl (pgs_cons (pg_name (i := 2) sc__law_part.nd rfl (Or.inl rfl)) (pgs_cons (pg_name (i := 3) sc__law_part.nd rfl (Or.inl rfl)) (pgs_cons (pg_name (i := 4) sc__law_part.nd rfl (Or.inl rfl)) pgs_nil)))))
      (pss_cons (ps_set (i := 5) sc__law_part.nd rfl (Or.inl rfl) (pe_lst pa_nil))
      (pss_cons (ps_set (i := 6) sc__law_part.nd rfl (Or.inl rfl) pe_int)
      (pss_cons (ps_for PassesOwn.never rfl (pi_range1 (by rfl) T.z_range (pa_cons (pe_callB call_len_seq (by rfl) T.z_len b_len (pa_cons (pv 0) pa_nil)) pa_nil)) (pg_name (i := 7) sc__law_part.nd rfl (Or.inl rfl))
        (pss_cons (ps_if (pw_or (pt_cmpR op_ltI (pe_ix ix_list (pv 0) (pv 7) (fun _ _ => rfl)) (pv 7) (nomark _)) (pw_or1 (pt_cmpR op_ltI (pe_op op_fdivB (pe_op op_subI (pe_ix ix_list (pv 0) (pv 7) (fun _ _ => rfl)) (pv 7)) (pe_op op_addI (pv 4) pe_int)) (pv 6) (nomark _)))).pt
          (pss_one (ps_ret pe_non))
          pss_nil)
        (pss_cons (ps_set (i := 6) sc__law_part.nd rfl (Or.inl rfl) (pe_op op_fdivB (pe_op op_subI (pe_ix ix_list (pv 0) (pv 7) (fun _ _ => rfl)) (pv 7)) (pe_op op_addI (pv 4) pe_int)))
        (pss_one (ps_expr (pe_bm PySem.F.plainAttrs_list PySem.F.slot_list_append PySem.F.type_list_append mt_append (pv 5) (pa_cons (pv 6) pa_nil)))))))
      (pss_cons (ps_if (pw_or (pt_cmpR op_neI (pe_callB call_len_seq (by rfl) T.z_len b_len (pa_cons (pv 0) pa_nil)) (pv 3) (nomark _)) (pw_or1 (pt_cmpR op_gtI (pv 6) (pe_op op_fdivB (pe_op op_subI (pv 2) (pv 3)) (pe_op op_addI (pv 4) pe_int)) (nomark _)))).pt
        (pss_one (ps_ret pe_non))
        pss_nil)
      (pss_one (ps_ret (pv 5)))))))), ?_⟩
    refine ⟨_, rfl, pf, _, rfl, SqT.of hF, rfl, _, _, rfl, _, _, rfl, _, _, rfl, rfl, ?_⟩
    refine ⟨(by decide), fun pb hpb => ?_⟩
    generalize hbs : boxL late ns = bs at q1
    have bl : bs.length = ns.length := by rw [← hbs, boxL_length]
    refine ⟨_, rfl, _, _, rfl, .inl ((Same.new hpb).seq hS), _, rfl, by rw [List.length_map]; omega, by rw [List.length_map]; omega, for_range (n := ((ns.map V.int).length : Int).toNat) (fun i σ H2 => ∃ (last : Int) (v7 : Option V), σ = [some (.ref a), some (.ref pf), some (.int turns), some (.int bells), some (.int late), some (.ref pb), some (.int last), v7] ∧ Same H H2 ∧ H2 pb = some (.lst ((bs.take i).map V.int)) ∧ 0 ≤ last ∧ (IsBox bs ↔ AscB last (bs.drop i)) ∧ (i ≠ 0 → bs[i - 1]? = some last))
      ⟨0, none, rfl, Same.new hpb, upd_same, Int.le_refl _, by rw [List.drop_zero]; exact isBox_asc, fun z => absurd rfl z⟩ ?_ ?_⟩
    · rintro i σ H2 hi ⟨last, v7, rfl, sm, hB, la0, asc, _⟩
      rw [List.length_map] at hi
      have hin : i < ns.length := by omega
      rw [show (0 : Int) + (i : Int) = (i : Int) by omega]
      have g := at_map (ns := ns) (k := i) (List.getElem?_eq_getElem hin)
      have hx : bs[i]? = some ((ns[i] - (i : Int)) / (late + 1)) := by rw [← hbs]; exact boxL_get (List.getElem?_eq_getElem hin)
      generalize ns[i] = x at g hx
      rw [ascb_drop hx] at asc
      have SA := sm.seq hS
      have neg : x < (i : Int) → (x - (i : Int)) / (late + 1) < 0 := fun z => Int.ediv_neg_of_neg_of_pos (by omega) (by omega)
      refine ⟨_, rfl, _, rfl, _, _, _, _, rfl, rfl, SA, g, _, rfl, _, _, rfl, rfl, _, rfl, ifD (fun z => iteT ?_) (fun z => ⟨_, rfl, _, rfl, _, _, _, _, rfl, rfl, SA, g, _, rfl, _, _, rfl, rfl, _, rfl, _, _, rfl, rfl, _, _, rfl, rfl, ⟨by omega, lb1⟩, _, rfl, _, _, rfl, rfl, _, rfl, ifD (fun z2 => ?_) (fun z2 => ?_)⟩)⟩
      · exact q2 (fun gd => by have := (asc.mp (by rw [← hbs]; exact gd.2.1)).1; have := neg z; omega) _ sm
      · exact q2 (fun gd => by have := (asc.mp (by rw [← hbs]; exact gd.2.1)).1; omega) _ sm
      · refine ⟨_, rfl, _, rfl, _, _, _, _, rfl, rfl, SA, g, _, rfl, _, _, rfl, rfl, _, rfl, _, _, rfl, rfl, _, _, rfl, rfl, ⟨by omega, lb1⟩, ?_⟩
        refine ⟨_, rfl, .inl ⟨rfl, _, SqL.of hB⟩, _, rfl, pb, _, _, rfl, rfl, hB, by rw [List.length_map, List.length_take]; exact small1000 (by omega), ?_⟩
        refine ⟨_, _, rfl, sm.wr hpb, by rw [upd_same, List.take_add_one, hx, List.map_append]; rfl, by omega, asc.trans ⟨fun y => y.2, fun y => ⟨by omega, y⟩⟩, fun _ => hx⟩
    · rintro σ H2 ⟨last, v7, rfl, sm, hB, la0, asc, hlast⟩
      rw [List.length_map, show ((ns.length : Nat) : Int).toNat = ns.length by omega] at hB asc hlast
      rw [← bl, List.drop_length] at asc
      rw [List.take_of_length_le (by omega)] at hB
      have Bx : IsBox bs := asc.mpr trivial
      refine ⟨_, rfl, _, _, rfl, .inl (sm.seq hS), _, rfl, _, _, rfl, rfl, _, rfl, ?_⟩
      rw [List.length_map]
      refine ifND (fun z => iteT (q2 (fun gd => z gd.1) _ sm)) (fun z => ?_)
      have n0 : ns.length ≠ 0 := by omega
      have gi := good_iff (turns := turns) (last := last) l0 B1 bt (by rw [hbs]; exact Bx) z (by rw [hbs]; exact hlast n0)
      refine ⟨_, rfl, _, rfl, _, rfl, _, _, rfl, rfl, _, rfl, _, _, rfl, rfl, _, _, rfl, rfl, ⟨by omega, lb1⟩, _, _, rfl, rfl, _, rfl, ifD (fun y => q2 (fun gd => by have := gi.mp gd; omega) _ sm) (fun y => ?_)⟩
      exact ⟨_, rfl, q1 (gi.mpr (by omega)) pb H2 sm hpb hB⟩
open Classical in
noncomputable def optOf (turns bells late : Int) (ns : List Int) : Option (List Int) := if GoodR turns bells late ns then some (boxL late ns) else none
theorem optOf_good {turns bells late : Int} {ns : List Int} (h : GoodR turns bells late ns) : optOf turns bells late ns = some (boxL late ns) := by unfold optOf; rw [if_pos h]
theorem optOf_bad {turns bells late : Int} {ns : List Int} (h : ¬ GoodR turns bells late ns) : optOf turns bells late ns = none := by unfold optOf; rw [if_neg h]
noncomputable def grps (L : Int) (rd : List Int) (n : Nat) : List (List Int) := (List.range n).map fun (k : Nat) => grp L (k : Int) rd
theorem grp_eq {L k : Int} (hL : 0 < L) (rd : List Int) : ((rd.map V.int).filter fun v => match v with | .int t => decide (t / L = k) | _ => false).map (fun v => match v with | .int t => V.int (t - k * L) | v => v) = (grp L k rd).map V.int := by
  unfold grp
  induction rd with
  | nil => rfl
  | cons t r ih =>
    rw [List.map_cons, List.filter_cons, List.filter_cons]
    by_cases e : t / L = k
    · simp only [e, decide_true, if_true, List.map_cons]
      rw [ih]
      have em := Int.emod_def t L
      have : t - k * L = t % L := by rw [em, e, Int.mul_comm]
      rw [this]
    · simp only [e, decide_false, Bool.false_eq_true, if_false]
      exact ih
theorem paired_opt {K : PySem.W.Frag} {H : Hp} {turns bells late : Int} : ∀ (nss : List (List Int)) (ys : List V), ys.length = nss.length → (∀ (i : Nat) (v : V) (ns : List Int), ys[i]? = some v → nss[i]? = some ns → (GoodR turns bells late ns → ∃ c, v = .ref c ∧ SqL K H c ((boxL late ns).map V.int)) ∧ (¬ GoodR turns bells late ns → v = .non)) → Paired (IsNL K H) ys (nss.map (optOf turns bells late))
  | [], [], _, _ => .nil
  | [], _ :: _, h, _ => by simp at h
  | _ :: _, [], h, _ => by simp at h
  | ns :: nss, y :: ys, hl, h => by
    refine .cons ?_ (paired_opt nss ys (by simpa using hl) fun i v n h1 h2 => h (i + 1) v n (by simpa using h1) (by simpa using h2))
    obtain ⟨h1, h2⟩ := h 0 y ns rfl rfl
    by_cases g : GoodR turns bells late ns
    · rw [optOf_good g]; exact h1 g
    · rw [optOf_bad g]; exact h2 g
noncomputable def spDue63 (K : PySem.W.Frag) : Sp := fun vs H Q _ => ∃ (a pf : Addr) (rd : List Int) (many turns bells late : Int), vs = [.ref a, .int many, .ref pf] ∧ SqL K H a (rd.map V.int) ∧ H pf = some (.tup [.int turns, .int bells, .int late]) ∧ rd.length ≤ 60 ∧ rd.Pairwise (· ≤ ·) ∧ (∀ x ∈ rd, 0 ≤ x) ∧ 1 ≤ many ∧ many ≤ 6 ∧ Frame63 turns bells late ∧
  (TalkGood rd many turns bells late → ∀ (p : Addr) (H' : Hp), Same H H' → H p = none → H' p = some (.lst ((told63 rd many turns late).map V.int)) → Q (.ref p) H') ∧ (¬ TalkGood rd many turns bells late → ∀ H', Same H H' → Q .non H')
theorem sc__law_due : FnScope ["reading", "many", "frame", "whole", "pieces", "boxes"] ["reading", "many", "frame"] (defScope st__law_due) := ⟨rfl, rfl, rfl, by decide +kernel, rfl, by decide +kernel, by decide +kernel⟩
theorem ok_due63 (D : Def K mg "_law_due" st__law_due ["reading", "many", "frame"]) (T : Txt K mg) (G__law_part : Fn P w K mg base 1 "_law_part" ["part", "frame"] (spPart K)) (G_box_number : Fn P w K mg base 2 "box_number" ["box"] (spNum K)) : Fn P w K mg base 3 "_law_due" ["reading", "many", "frame"] (spDue63 K) := by
  refine D.fn sc__law_due (fun vs H Q E h => ?_) (fun f cdv A outer s H vs Q E hr h => ?_)
  · obtain ⟨a, pf, rd, m, t, b, l, rfl, _⟩ := h
    rfl
  · obtain ⟨a, pf, rd, many, turns, bells, late, rfl, hS, hF, hl, pw, rd0, n1, n6, Fr, q1, q2⟩ := h
    have Fr' := Fr
    obtain ⟨B1, B4, l0, l1, bt, t1⟩ := Fr'
    have hu := hu64 hr
    have hL : 0 < turns + late := by omega
    have Lb : intBits (turns + late) ≤ 100 := bits_of (by omega) (by omega)
    refine ⟨_, (pss_cons (ps_set (i := 3) sc__law_due.nd rfl (Or.inr rfl) (pe_op op_addI (pe_ix ix_tup (pv 2) pe_int (fun _ _ => rfl)) (pe_ix ix_tup (pv 2) pe_int (fun _ _ => rfl))))
      (pss_cons (ps_setCC (k := 4) (own := ["k"]) (fr := ["reading", "whole"]) (ix := [0, 3]) rfl sc__law_due.nd rfl rfl ⟨rfl, (fun _ _ => rfl), (fun _ => rfl), rfl, rfl, rfl, rfl, rfl, rfl⟩ (pi_range1 (by rfl) T.z_range (pa_cons (pv 1) pa_nil)) (fun _ _ _ _ _ => (pg_name (i := 0) (show (["k", "reading", "whole"] : List Str).Nodup by decide +kernel) rfl (Or.inr rfl))) (fun _ _ _ _ _ => pts_nil) (fun _ _ _ _ _ => (pe_comp (own := ["turn"]) (fr := ["k", "whole"]) (ix := [0, 2]) rfl ⟨rfl, rfl, rfl, rfl, rfl, rfl⟩ (pi_listK K (pv 1)) (fun _ _ _ _ _ => (pg_name (i := 0) (show (["turn", "k", "whole"] : List Str).Nodup by decide +kernel) rfl (Or.inl rfl))) (fun _ _ _ _ _ => pts_one (pt_cmpR op_eqI (pe_op op_fdivB (pv 0) (pv 2)) (pv 1) (nomark _))) (fun _ _ _ _ _ => (pe_op op_subI (pv 0) (pe_op op_mulB (pv 1) (pv 2)))))))
      (pss_cons (ps_setC (k := 5) (own := ["part"]) (fr := ["frame"]) (ix := [2]) rfl sc__law_due.nd rfl rfl ⟨rfl, rfl, rfl, rfl, rfl, rfl⟩ (pi_list (pv 4)) (fun _ _ _ _ _ => (pg_name (i := 0) (show (["part", "frame"] : List Str).Nodup by decide +kernel) rfl (Or.inl rfl))) (fun _ _ _ _ _ => pts_nil) (fun _ _ _ _ _ => (pe_fn G__law_part (hr.mono (by decide)) (by rfl) (pa_cons (pv 0) (pa_cons (pv 1) pa_nil)))))
      (pss_cons (ps_if (pw_or (pt_cmpR (op_inNL (hu65 hr)) pe_non (pv 5) (by with_unfolding_all rfl)) (pw_or1 (pw_and (pt_cmpR (op_neL hu) (pv 0) (pe_lst pa_nil) (nomark _)) (pw_and1 (pt_cmpR op_geI (pe_ix ix_list (pv 0) (pe_un un_neg pe_int) (fun _ _ => rfl)) (pe_op op_mulB (pv 1) (pv 3)) (nomark _)))).pt)).pt
        (pss_one (ps_ret pe_non))
        pss_nil)
      (pss_one (ps_ret (pe_comp (own := ["box"]) (fr := []) (ix := []) rfl ⟨rfl, rfl, rfl, rfl, rfl, rfl⟩ (pi_list (pv 5)) (fun _ _ _ _ _ => (pg_name (i := 0) (show (["box"] : List Str).Nodup by decide +kernel) rfl (Or.inl rfl))) (fun _ _ _ _ _ => pts_nil) (fun _ _ _ _ _ => (pe_fn G_box_number (hr.mono (by decide)) (by rfl) (pa_cons (pv 0) pa_nil)))))))))), ?_⟩
    refine ⟨_, rfl, _, _, _, _, rfl, rfl, SqT.of hF, rfl, _, rfl, _, _, _, _, rfl, rfl, SqT.of hF, rfl, _, _, rfl, rfl, ?_⟩
    generalize hLL : turns + late = L at hL Lb
    refine ⟨_, rfl, many, rfl, by omega, by omega, fun acc hacc => comp_rangeI (lo := 0) (n := many.toNat) (fun i ys H2 => Same H H2 ∧ ∃ as : List Addr, ys = as.map V.ref ∧ H2 acc = some (.lst ys) ∧ Paired (fun b (ns : List Int) => b ≠ acc ∧ H2 b = some (.lst (ns.map V.int))) as (grps L rd i)) (Nat.le_of_lt (small1000 (by omega))) ⟨Same.new hacc, [], rfl, upd_same, .nil⟩ (fun i ys H2 ⟨_, as, e, h2, pr⟩ => ⟨h2, by rw [e, List.length_map, paired_len pr]; unfold grps; rw [List.length_map, List.length_range]; exact Nat.le_refl _⟩) ?_ ?_⟩
    · rintro i ys H2 R hi ⟨sm, as, rfl, h2, pr⟩ hR
      rw [show (0 : Int) + (i : Int) = (i : Int) by omega]
      refine ⟨rfl, _, rfl, a, rfl, ⟨_, sm.seq hS⟩, fun ac2 hac2 => comp_filterM (K := K) (a := a) (xs := rd.map V.int) (fun v => match v with | .int t => decide (t / L = (i : Int)) | _ => false) (fun v => match v with | .int t => V.int (t - (i : Int) * L) | v => v) (sm.seq hS) hac2 (by rw [List.length_map]; exact Nat.le_of_lt (small1000 (by omega))) (fun j x H6 R1 R2 hx s6 r1 r2 => ?_) ?_⟩
      · rw [List.getElem?_map] at hx
        obtain ⟨t, ht, rfl⟩ := Option.map_eq_some_iff.mp hx
        refine ⟨rfl, _, rfl, _, rfl, _, _, rfl, rfl, ⟨hL, bits_mono Lb (by decide)⟩, _, rfl, _, _, rfl, rfl, _, rfl, ifD (fun e => ⟨_, rfl, _, rfl, _, rfl, _, _, rfl, rfl, ⟨64, 100, bits_of (by omega) (by omega), Lb, by decide⟩, _, _, rfl, rfl, r1 (decide_eq_true e)⟩) (fun e => r2 (decide_eq_false e))⟩
      · rw [grp_eq hL]
        have ne : ac2 ≠ acc := fun z => by rw [z, h2] at hac2; cases hac2
        have s3 : Same H2 (upd H2 ac2 (.lst ((grp L (i : Int) rd).map V.int))) := Same.new hac2
        have h3 : (upd H2 ac2 (.lst ((grp L (i : Int) rd).map V.int))) ac2 = some (.lst ((grp L (i : Int) rd).map V.int)) := upd_same
        generalize upd H2 ac2 (.lst ((grp L (i : Int) rd).map V.int)) = H3 at s3 h3
        refine hR _ H3 (s3 _ _ h2) ⟨(sm.trans s3).wr hacc, as ++ [ac2], by rw [List.map_append]; rfl, upd_same, ?_⟩
        have eg : grps L rd (i + 1) = grps L rd i ++ [grp L (i : Int) rd] := by unfold grps; rw [List.range_succ, List.map_append]; rfl
        rw [eg]
        exact Paired.snoc (paired_imp (fun b n z => ⟨z.1, by rw [upd_ne z.1]; exact s3 _ _ z.2⟩) pr) ⟨ne, by rw [upd_ne ne]; exact h3⟩
    rintro ys H2 ⟨sm, as, rfl, h2, pr⟩
    have asl : as.length = many.toNat := by rw [paired_len pr]; unfold grps; rw [List.length_map, List.length_range]
    have hF2 := sm _ _ hF
    refine ⟨_, rfl, acc, rfl, ⟨_, SqL.of h2⟩, fun pb hpb => comp_listH (K := K) (a := acc) (xs := as.map V.ref) (fun i v H3 => ∀ ns : List Int, (grps L rd many.toNat)[i]? = some ns → (GoodR turns bells late ns → ∃ c, v = .ref c ∧ c ≠ pb ∧ H3 c = some (.lst ((boxL late ns).map V.int))) ∧ (¬ GoodR turns bells late ns → v = .non)) (fun i v H3 H4 s34 h ns hns => ⟨fun g => by obtain ⟨c, e, n, z⟩ := (h ns hns).1 g; exact ⟨c, e, n, s34 _ _ z⟩, (h ns hns).2⟩) (fun i v H3 o _ o' h ns hns => ⟨fun g => by obtain ⟨c, e, n, z⟩ := (h ns hns).1 g; exact ⟨c, e, n, by rw [upd_ne n]; exact z⟩, (h ns hns).2⟩) (SqL.of h2) hpb (by rw [List.length_map]; exact Nat.le_of_lt (small1000 (by omega))) (fun i x H3 R hx s3 hpb3 hR => ?_) ?_⟩
    · rw [List.getElem?_map] at hx
      obtain ⟨c, hc, rfl⟩ := Option.map_eq_some_iff.mp hx
      obtain ⟨ns, hns, c1, c2⟩ := paired_get pr hc
      have gl : ns.length ≤ 60 := by
        unfold grps at hns
        rw [List.getElem?_map] at hns
        obtain ⟨k, _, rfl⟩ := Option.map_eq_some_iff.mp hns
        exact Nat.le_trans (grp_len_le _ _ _) hl
      refine ⟨rfl, _, rfl, _, rfl, c, pf, ns, turns, bells, late, rfl, SqL.of (s3 _ _ c2), s3 _ _ hF2, gl, Fr, fun g p H4 s4 hp h4 => hR _ _ s4 fun ns' hns' => ?_, fun nb H4 s4 => hR _ _ s4 fun ns' hns' => ?_⟩
      · rw [hns] at hns'
        cases hns'
        refine ⟨fun _ => ⟨p, rfl, fun z => ?_, h4⟩, fun nb => absurd g nb⟩
        obtain ⟨o, ho⟩ := hpb3
        rw [z, ho] at hp
        cases hp
      · rw [hns] at hns'
        cases hns'
        exact ⟨fun g => absurd g nb, fun _ => rfl⟩
    intro bsv H3 s3 h3 bl bp
    rw [List.length_map, asl] at bl
    have sm3 := sm.trans s3
    have gget : ∀ (k : Nat), k < many.toNat → (grps L rd many.toNat)[k]? = some (grp L (k : Int) rd) := fun k hk => by
      unfold grps
      rw [List.getElem?_map, List.getElem?_range hk]
      rfl
    have pro := paired_opt (K := K) (H := H3) (turns := turns) (bells := bells) (late := late) (grps L rd many.toNat) bsv (by rw [bl]; unfold grps; rw [List.length_map, List.length_range]) fun i v ns h1 h2 => by
      obtain ⟨y1, y2⟩ := bp i v h1 ns h2
      exact ⟨fun g => by obtain ⟨c, e, _, z⟩ := y1 g; exact ⟨c, e, SqL.of z⟩, y2⟩
    have allg : (none ∈ (grps L rd many.toNat).map (optOf turns bells late)) ↔ ¬ ∀ k : Int, 0 ≤ k → k < many → GoodR turns bells late (grp L k rd) := by
      constructor
      · intro h all
        obtain ⟨ns, hns, e⟩ := List.mem_map.mp h
        unfold grps at hns
        obtain ⟨k, hk, rfl⟩ := List.mem_map.mp hns
        have := List.mem_range.mp hk
        rw [optOf_good (all (k : Int) (by omega) (by omega))] at e
        cases e
      · intro h
        refine Classical.byContradiction fun nh => h fun k k0 k1 => Classical.byContradiction fun nb => nh ?_
        refine List.mem_map.mpr ⟨grp L k rd, ?_, optOf_bad nb⟩
        unfold grps
        exact List.mem_map.mpr ⟨k.toNat, List.mem_range.mpr (by omega), by rw [show ((k.toNat : Nat) : Int) = k by omega]⟩
    refine ⟨_, rfl, pb, bsv, _, rfl, rfl, SqL.of h3, pro, _, rfl, ifD (fun z => iteT (q2 (fun G => ?_) _ sm3)) (fun z => ?_)⟩
    · exact allg.mp z fun k k0 k1 => by have := G.part k k0 k1; rwa [hLL] at this
    have all : ∀ k : Int, 0 ≤ k → k < many → GoodR turns bells late (grp L k rd) := Classical.byContradiction fun nh => z (allg.mpr nh)
    have n0 : rd ≠ [] := fun z0 => by
      have := (all 0 (Int.le_refl _) (by omega)).1
      rw [z0] at this
      have e : grp L 0 ([] : List Int) = [] := rfl
      rw [e] at this
      simp at this
      omega
    obtain ⟨r, x, hrx⟩ : ∃ (r : List Int) (x : Int), rd = r ++ [x] := ⟨_, _, (List.dropLast_concat_getLast n0).symm⟩
    have xat : atI (rd.map V.int) (-1) = some (V.int x) := by
      unfold atI ixN
      rw [List.length_map, hrx, List.length_append, List.length_singleton, if_neg (by decide), if_pos (by omega)]
      show ((r ++ [x]).map V.int)[(-1 + ((r.length + 1 : Nat) : Int)).toNat]? = _
      rw [show (-1 + ((r.length + 1 : Nat) : Int)).toNat = r.length by omega, List.getElem?_map, List.getElem?_append_right (Nat.le_refl _), Nat.sub_self]
      rfl
    have xm : x ∈ rd := by rw [hrx]; exact List.mem_append_right _ (List.mem_singleton.mpr rfl)
    have xle : ∀ t ∈ rd, t ≤ x := fun t ht => by
      rw [hrx] at ht pw
      rcases List.mem_append.mp ht with y | y
      · exact (List.pairwise_append.mp pw).2.2 t y x (List.mem_singleton.mpr rfl)
      · rw [List.mem_singleton.mp y]; exact Int.le_refl _
    refine ⟨_, rfl, (by decide), fun pe hpe => ⟨a, pe, rd, [], rfl, rfl, (sm3.put hpe).seq hS, SqL.of upd_same, _, rfl, ifND (fun _ => ?_) (fun em => absurd em n0)⟩⟩
    have s4 : Same H (upd H3 pe (.lst [])) := sm3.put hpe
    have s34 : Same H3 (upd H3 pe (.lst [])) := Same.new hpe
    generalize upd H3 pe (.lst []) = H4 at s4 s34 ⊢
    refine ⟨_, rfl, _, rfl, _, _, _, _, rfl, rfl, s4.seq hS, xat, _, rfl, _, rfl, _, _, rfl, rfl, ⟨8, 100, bits_of (by omega) (by omega), Lb, by decide⟩, _, _, rfl, rfl, _, rfl, ifD (fun y => q2 (fun G => ?_) _ s4) (fun y => ?_)⟩
    · have := (G.ins x xm).2
      rw [hLL] at this
      have h1 := (Int.ediv_lt_iff_lt_mul hL).mp this
      omega
    have G : TalkGood rd many turns bells late := ⟨fun k k0 k1 => by rw [hLL]; exact all k k0 k1, fun t ht => by
      rw [hLL]
      exact ⟨Int.ediv_nonneg (rd0 t ht) (by omega), (Int.ediv_lt_iff_lt_mul hL).mpr (by have := xle t ht; omega)⟩⟩
    have h4 := s34 _ _ h3
    refine ⟨_, rfl, pb, rfl, ⟨_, SqL.of h4⟩, fun pn hpn => comp_listG (K := K) (a := pb) (xs := bsv) (fun i v _ => v = V.int (numB (boxL late (grp L (i : Int) rd)))) (fun _ _ _ _ _ h => h) (fun _ _ _ _ _ _ h => h) (SqL.of h4) hpn (by rw [bl]; exact Nat.le_of_lt (small1000 (by omega))) (fun i v H5 R hv s5 hR => ?_) ?_⟩
    · have il : i < many.toNat := by rw [← bl]; exact (List.getElem?_eq_some_iff.mp hv).1
      have gd := all (i : Int) (by omega) (by omega)
      obtain ⟨c, rfl, _, hc⟩ := (bp i v hv _ (gget i il)).1 gd
      refine ⟨rfl, _, rfl, c, boxL late (grp L (i : Int) rd), rfl, SqL.of (s5 _ _ (s34 _ _ hc)), ?_, gd.2.1.nn, ?_, fun H6 s6 => hR _ _ s6 rfl⟩
      · rw [boxL_length]
        exact Nat.le_trans (grp_len_le _ _ _) (by omega)
      · exact box_szs (fun y hy => by
          have := grp_mem hL hy
          omega) (Nat.le_trans (grp_len_le _ _ _) (by omega)) l0
    · intro zs H5 s5 h5 zl zp
      have ez : zs = (told63 rd many turns late).map V.int := by
        unfold told63
        rw [hLL]
        apply List.ext_getElem?
        intro i
        rw [List.map_map, List.getElem?_map]
        by_cases hi : i < zs.length
        · rw [List.getElem?_eq_getElem hi, zp i _ (List.getElem?_eq_getElem hi), List.getElem?_eq_getElem (by rw [List.length_range]; omega), List.getElem_range]
          rfl
        · rw [List.getElem?_eq_none (by omega), List.getElem?_eq_none (by rw [List.length_range]; omega)]
          rfl
      rw [ez] at h5
      exact q1 G pn H5 (s4.trans s5) (s4.free hpn) h5
end
section
variable {P : Program} {w : World} {K : PySem.W.Frag} {mg : Str → Option Value} {base : Heap}
noncomputable def spKind63 (CR CN CG : Addr) : Sp := fun vs H Q _ => ∃ (x C : Addr) (t : Str), vs = [.ref x] ∧ H x = some (excIs x (.ref C)) ∧ ((C = CR ∧ t = "reading") ∨ (C = CN ∧ t = "row") ∨ (C = CG ∧ t = "great")) ∧ ∀ H', Same H H' → Q (.str t) H'
theorem join1 (t : Str) : Txt.join " " [t] = t := by
  show Txt.join " " [t] = t
  unfold Txt.join
  rw [StrLaws.glued_eq_join]
  rfl
theorem sc__law_kind : FnScope ["e", "kinds"] ["e"] (defScope st__law_kind) := ⟨rfl, rfl, rfl, by decide +kernel, rfl, by decide +kernel, by decide +kernel⟩
theorem ok_kind63 (D : Def K mg "_law_kind" st__law_kind ["e"]) (T : Txt K mg) {C_BellError : Addr} (m_BellError : mg "BellError" = some (.ref C_BellError)) {C_NoRow : Addr} (m_NoRow : mg "NoRow" = some (.ref C_NoRow)) {C_NoReading : Addr} (m_NoReading : mg "NoReading" = some (.ref C_NoReading)) {C_TooGreat : Addr} (m_TooGreat : mg "TooGreat" = some (.ref C_TooGreat)) {C_TooMany : Addr} (m_TooMany : mg "TooMany" = some (.ref C_TooMany)) {C_NoNote : Addr} (m_NoNote : mg "NoNote" = some (.ref C_NoNote))  (x_BellError : PySem.W.excIn K C_BellError bmV "ValueError.__new__" = true) (x_NoRow : PySem.W.excIn K C_NoRow bmV "ValueError.__new__" = true) (x_NoReading : PySem.W.excIn K C_NoReading bmV "ValueError.__new__" = true) (x_TooGreat : PySem.W.excIn K C_TooGreat bmV "ValueError.__new__" = true) (r_mroNoRow : PySem.W.mroIn K C_NoRow (.ref C_BellError) = some true) (r_gaNoRow : PySem.W.findIn K (.ref C_NoRow) "__getattribute__" = some (some (.builtin "BaseException.__getattribute__"))) (r_hkNoRow : PySem.W.findIn K (.ref C_NoRow) "__getattr__" = some none) (r_clNoRow : PySem.W.findIn K (.ref C_NoRow) "__class__" = some (some (.builtin "object.__class__"))) (r_moNoRow : PySem.W.mroIn K C_NoRow (.type "object") = some true) (r_mbNoRow : PySem.W.mroIn K C_NoRow (.type "BaseException") = some true) (i_NoRow_NoReading : PySem.W.kitOne K (.ref C_NoRow) (.ref C_NoReading) = some false) (i_NoRow_NoRow : PySem.W.kitOne K (.ref C_NoRow) (.ref C_NoRow) = some true) (i_NoRow_TooGreat : PySem.W.kitOne K (.ref C_NoRow) (.ref C_TooGreat) = some false) (i_NoRow_NoNote : PySem.W.kitOne K (.ref C_NoRow) (.ref C_NoNote) = some false) (i_NoRow_TooMany : PySem.W.kitOne K (.ref C_NoRow) (.ref C_TooMany) = some false) (i_NoRow_V : PySem.W.kitOne K (.ref C_NoRow) (.type "ValueError") = some true) (r_mroNoReading : PySem.W.mroIn K C_NoReading (.ref C_BellError) = some true) (r_gaNoReading : PySem.W.findIn K (.ref C_NoReading) "__getattribute__" = some (some (.builtin "BaseException.__getattribute__"))) (r_hkNoReading : PySem.W.findIn K (.ref C_NoReading) "__getattr__" = some none) (r_clNoReading : PySem.W.findIn K (.ref C_NoReading) "__class__" = some (some (.builtin "object.__class__"))) (r_moNoReading : PySem.W.mroIn K C_NoReading (.type "object") = some true) (r_mbNoReading : PySem.W.mroIn K C_NoReading (.type "BaseException") = some true) (i_NoReading_NoReading : PySem.W.kitOne K (.ref C_NoReading) (.ref C_NoReading) = some true) (i_NoReading_NoRow : PySem.W.kitOne K (.ref C_NoReading) (.ref C_NoRow) = some false) (i_NoReading_TooGreat : PySem.W.kitOne K (.ref C_NoReading) (.ref C_TooGreat) = some false) (i_NoReading_NoNote : PySem.W.kitOne K (.ref C_NoReading) (.ref C_NoNote) = some false) (i_NoReading_TooMany : PySem.W.kitOne K (.ref C_NoReading) (.ref C_TooMany) = some false) (i_NoReading_V : PySem.W.kitOne K (.ref C_NoReading) (.type "ValueError") = some true) (r_mroTooGreat : PySem.W.mroIn K C_TooGreat (.ref C_BellError) = some true) (r_gaTooGreat : PySem.W.findIn K (.ref C_TooGreat) "__getattribute__" = some (some (.builtin "BaseException.__getattribute__"))) (r_hkTooGreat : PySem.W.findIn K (.ref C_TooGreat) "__getattr__" = some none) (r_clTooGreat : PySem.W.findIn K (.ref C_TooGreat) "__class__" = some (some (.builtin "object.__class__"))) (r_moTooGreat : PySem.W.mroIn K C_TooGreat (.type "object") = some true) (r_mbTooGreat : PySem.W.mroIn K C_TooGreat (.type "BaseException") = some true) (i_TooGreat_NoReading : PySem.W.kitOne K (.ref C_TooGreat) (.ref C_NoReading) = some false) (i_TooGreat_NoRow : PySem.W.kitOne K (.ref C_TooGreat) (.ref C_NoRow) = some false) (i_TooGreat_TooGreat : PySem.W.kitOne K (.ref C_TooGreat) (.ref C_TooGreat) = some true) (i_TooGreat_NoNote : PySem.W.kitOne K (.ref C_TooGreat) (.ref C_NoNote) = some false) (i_TooGreat_TooMany : PySem.W.kitOne K (.ref C_TooGreat) (.ref C_TooMany) = some false) (i_TooGreat_V : PySem.W.kitOne K (.ref C_TooGreat) (.type "ValueError") = some true) (r_gt : PySem.W.specialIn K (.builtin "object.__class__") "__get__" = some (some (.builtin "getset_descriptor.__get__"))) (r_tk : PySem.W.takesIn K (.builtin "object.__class__") = some true) : Fn P w K mg base 1 "_law_kind" ["e"] (spKind63 C_NoReading C_NoRow C_TooGreat) := by
  refine D.fn sc__law_kind (fun vs H Q E h => ?_) (fun f cdv A outer s H vs Q E hr h => ?_)
  · obtain ⟨x, C, t, rfl, _⟩ := h
    rfl
  · obtain ⟨x, C, t, rfl, hx, hC, q⟩ := h
    have XR : ExcLook K C_NoReading := ⟨r_gaNoReading, r_hkNoReading, r_clNoReading, r_gt, r_tk, r_moNoReading, r_mbNoReading⟩
    have XN : ExcLook K C_NoRow := ⟨r_gaNoRow, r_hkNoRow, r_clNoRow, r_gt, r_tk, r_moNoRow, r_mbNoRow⟩
    have XG : ExcLook K C_TooGreat := ⟨r_gaTooGreat, r_hkTooGreat, r_clTooGreat, r_gt, r_tk, r_moTooGreat, r_mbTooGreat⟩
    refine ⟨_, (pss_cons (ps_set (i := 1) sc__law_kind.nd rfl (Or.inl rfl) (pe_lst pa_nil))
      (pss_cons (ps_if (pt_val (pe_callB call_isinstC (by rfl) T.z_isinstance b_isinstance (pa_cons (pv 0) (pa_cons (pe_glob (v := .ref C_NoReading) (by rfl) m_NoReading rfl) pa_nil))))
        (pss_one (ps_expr (pe_bm PySem.F.plainAttrs_list PySem.F.slot_list_append PySem.F.type_list_append mt_append (pv 1) (pa_cons pe_str pa_nil))))
        pss_nil)
      (pss_cons (ps_if (pt_val (pe_callB call_isinstC (by rfl) T.z_isinstance b_isinstance (pa_cons (pv 0) (pa_cons (pe_glob (v := .ref C_NoRow) (by rfl) m_NoRow rfl) pa_nil))))
        (pss_one (ps_expr (pe_bm PySem.F.plainAttrs_list PySem.F.slot_list_append PySem.F.type_list_append mt_append (pv 1) (pa_cons pe_str pa_nil))))
        pss_nil)
      (pss_cons (ps_if (pt_val (pe_callB call_isinstC (by rfl) T.z_isinstance b_isinstance (pa_cons (pv 0) (pa_cons (pe_glob (v := .ref C_TooGreat) (by rfl) m_TooGreat rfl) pa_nil))))
        (pss_one (ps_expr (pe_bm PySem.F.plainAttrs_list PySem.F.slot_list_append PySem.F.type_list_append mt_append (pv 1) (pa_cons pe_str pa_nil))))
        pss_nil)
      (pss_cons (ps_if (pw_or (pt_val (pe_callB call_isinstC (by rfl) T.z_isinstance b_isinstance (pa_cons (pv 0) (pa_cons (pe_glob (v := .ref C_NoNote) (by rfl) m_NoNote rfl) pa_nil)))) (pw_or (pt_val (pe_callB call_isinstC (by rfl) T.z_isinstance b_isinstance (pa_cons (pv 0) (pa_cons (pe_glob (v := .ref C_TooMany) (by rfl) m_TooMany rfl) pa_nil)))) (pw_or1 (pt_not (pt_val (pe_callB call_isinstC (by rfl) T.z_isinstance b_isinstance (pa_cons (pv 0) (pa_cons (pe_bltn (v := .ty "ValueError") (by rfl) T.z_ValueError b_ValueError rfl) pa_nil)))))))).pt
        (pss_one (ps_expr (pe_bm PySem.F.plainAttrs_list PySem.F.slot_list_append PySem.F.type_list_append mt_append (pv 1) (pa_cons pe_str pa_nil))))
        pss_nil)
      (pss_one (ps_ret (pe_bm PySem.F.plainAttrs_str PySem.F.slot_str_join PySem.F.type_str_join mt_join pe_str (pa_cons (pv 1) pa_nil))))))))), ?_⟩
    refine ⟨(by decide), fun pk hpk => ?_⟩
    have s1 : Same H (upd H pk (.lst [])) := Same.new hpk
    have hk : (upd H pk (.lst [])) pk = some (.lst []) := upd_same
    generalize upd H pk (.lst []) = H1 at s1 hk ⊢
    have h1 := s1 _ _ hx
    rcases hC with ⟨rfl, rfl⟩ | ⟨rfl, rfl⟩ | ⟨rfl, rfl⟩
    · refine ⟨_, rfl, _, _, _, _, true, rfl, fun _ z => z, .exc XR h1, i_NoReading_NoReading, _, rfl, iteT ⟨_, rfl, .inl ⟨rfl, _, SqL.of hk⟩, pk, _, _, rfl, rfl, hk, (by decide), ?_⟩⟩
      have s2 : Same H (upd H1 pk (.lst ([] ++ [V.str "reading"]))) := s1.wr hpk
      have h2 := s2 _ _ hx
      have k2 : (upd H1 pk (.lst ([] ++ [V.str "reading"]))) pk = some (.lst ((["reading"] : List Str).map V.str)) := upd_same
      generalize upd H1 pk (.lst ([] ++ [V.str "reading"])) = H2 at s2 h2 k2 ⊢
      refine ⟨_, rfl, _, _, _, _, false, rfl, fun _ z => z, .exc XR h2, i_NoReading_NoRow, _, rfl, iteF ⟨_, rfl, _, _, _, _, false, rfl, fun _ z => z, .exc XR h2, i_NoReading_TooGreat, _, rfl, iteF ⟨_, rfl, _, _, _, _, false, rfl, fun _ z => z, .exc XR h2, i_NoReading_NoNote, _, rfl, iteF ⟨_, rfl, _, _, _, _, false, rfl, fun _ z => z, .exc XR h2, i_NoReading_TooMany, _, rfl, iteF ⟨_, rfl, _, _, _, _, true, rfl, fun _ z => z, .exc XR h2, i_NoReading_V, _, rfl, iteF ?_⟩⟩⟩⟩⟩
      exact ⟨rfl, _, rfl, _, pk, ["reading"], rfl, rfl, SqL.of k2, by decide, by rw [join1]; exact q _ s2⟩
    · refine ⟨_, rfl, _, _, _, _, false, rfl, fun _ z => z, .exc XN h1, i_NoRow_NoReading, _, rfl, iteF ⟨_, rfl, _, _, _, _, true, rfl, fun _ z => z, .exc XN h1, i_NoRow_NoRow, _, rfl, iteT ⟨_, rfl, .inl ⟨rfl, _, SqL.of hk⟩, pk, _, _, rfl, rfl, hk, (by decide), ?_⟩⟩⟩
      have s2 : Same H (upd H1 pk (.lst ([] ++ [V.str "row"]))) := s1.wr hpk
      have h2 := s2 _ _ hx
      have k2 : (upd H1 pk (.lst ([] ++ [V.str "row"]))) pk = some (.lst ((["row"] : List Str).map V.str)) := upd_same
      generalize upd H1 pk (.lst ([] ++ [V.str "row"])) = H2 at s2 h2 k2 ⊢
      refine ⟨_, rfl, _, _, _, _, false, rfl, fun _ z => z, .exc XN h2, i_NoRow_TooGreat, _, rfl, iteF ⟨_, rfl, _, _, _, _, false, rfl, fun _ z => z, .exc XN h2, i_NoRow_NoNote, _, rfl, iteF ⟨_, rfl, _, _, _, _, false, rfl, fun _ z => z, .exc XN h2, i_NoRow_TooMany, _, rfl, iteF ⟨_, rfl, _, _, _, _, true, rfl, fun _ z => z, .exc XN h2, i_NoRow_V, _, rfl, iteF ?_⟩⟩⟩⟩
      exact ⟨rfl, _, rfl, _, pk, ["row"], rfl, rfl, SqL.of k2, by decide, by rw [join1]; exact q _ s2⟩
    · refine ⟨_, rfl, _, _, _, _, false, rfl, fun _ z => z, .exc XG h1, i_TooGreat_NoReading, _, rfl, iteF ⟨_, rfl, _, _, _, _, false, rfl, fun _ z => z, .exc XG h1, i_TooGreat_NoRow, _, rfl, iteF ⟨_, rfl, _, _, _, _, true, rfl, fun _ z => z, .exc XG h1, i_TooGreat_TooGreat, _, rfl, iteT ⟨_, rfl, .inl ⟨rfl, _, SqL.of hk⟩, pk, _, _, rfl, rfl, hk, (by decide), ?_⟩⟩⟩⟩
      have s2 : Same H (upd H1 pk (.lst ([] ++ [V.str "great"]))) := s1.wr hpk
      have h2 := s2 _ _ hx
      have k2 : (upd H1 pk (.lst ([] ++ [V.str "great"]))) pk = some (.lst ((["great"] : List Str).map V.str)) := upd_same
      generalize upd H1 pk (.lst ([] ++ [V.str "great"])) = H2 at s2 h2 k2 ⊢
      refine ⟨_, rfl, _, _, _, _, false, rfl, fun _ z => z, .exc XG h2, i_TooGreat_NoNote, _, rfl, iteF ⟨_, rfl, _, _, _, _, false, rfl, fun _ z => z, .exc XG h2, i_TooGreat_TooMany, _, rfl, iteF ⟨_, rfl, _, _, _, _, true, rfl, fun _ z => z, .exc XG h2, i_TooGreat_V, _, rfl, iteF ?_⟩⟩⟩
      exact ⟨rfl, _, rfl, _, pk, ["great"], rfl, rfl, SqL.of k2, by decide, by rw [join1]; exact q _ s2⟩
noncomputable def spHeard63 (K : PySem.W.Frag) : Sp := fun vs H Q _ => ∃ (a pf : Addr) (rd : List Int) (many turns bells late : Int), vs = [.ref a, .int many, .ref pf] ∧ SqL K H a (rd.map V.int) ∧ H pf = some (.tup [.int turns, .int bells, .int late]) ∧ rd.length ≤ 60 ∧ 1 ≤ many ∧ many ≤ 6 ∧ Frame63 turns bells late ∧
  (TalkGood rd many turns bells late → ∀ (p : Addr) (H' : Hp), Same H H' → H p = none → H' p = some (.lst ((told63 rd many turns late).map V.int)) → Q (.ref p) H') ∧ (¬ TalkGood rd many turns bells late → ∀ (p : Addr) (H' : Hp), Same H H' → H' p = some (.tup [.str "refused", .str "reading"]) → Q (.ref p) H')
theorem sc__law_heard : FnScope ["reading", "many", "frame", "caught", "found", "e"] ["reading", "many", "frame"] (defScope st__law_heard) := ⟨rfl, rfl, rfl, by decide +kernel, rfl, by decide +kernel, by decide +kernel⟩
theorem ok_heard63 (D : Def K mg "_law_heard" st__law_heard ["reading", "many", "frame"]) (T : Txt K mg) {C_BellError : Addr} (m_BellError : mg "BellError" = some (.ref C_BellError)) {C_NoRow : Addr} (m_NoRow : mg "NoRow" = some (.ref C_NoRow)) {C_NoReading : Addr} (m_NoReading : mg "NoReading" = some (.ref C_NoReading)) {C_TooGreat : Addr} (m_TooGreat : mg "TooGreat" = some (.ref C_TooGreat)) {C_TooMany : Addr} (m_TooMany : mg "TooMany" = some (.ref C_TooMany)) {C_NoNote : Addr} (m_NoNote : mg "NoNote" = some (.ref C_NoNote))  (x_BellError : PySem.W.excIn K C_BellError bmV "ValueError.__new__" = true) (x_NoRow : PySem.W.excIn K C_NoRow bmV "ValueError.__new__" = true) (x_NoReading : PySem.W.excIn K C_NoReading bmV "ValueError.__new__" = true) (x_TooGreat : PySem.W.excIn K C_TooGreat bmV "ValueError.__new__" = true) (r_mroNoRow : PySem.W.mroIn K C_NoRow (.ref C_BellError) = some true) (r_gaNoRow : PySem.W.findIn K (.ref C_NoRow) "__getattribute__" = some (some (.builtin "BaseException.__getattribute__"))) (r_hkNoRow : PySem.W.findIn K (.ref C_NoRow) "__getattr__" = some none) (r_clNoRow : PySem.W.findIn K (.ref C_NoRow) "__class__" = some (some (.builtin "object.__class__"))) (r_moNoRow : PySem.W.mroIn K C_NoRow (.type "object") = some true) (r_mbNoRow : PySem.W.mroIn K C_NoRow (.type "BaseException") = some true) (i_NoRow_NoReading : PySem.W.kitOne K (.ref C_NoRow) (.ref C_NoReading) = some false) (i_NoRow_NoRow : PySem.W.kitOne K (.ref C_NoRow) (.ref C_NoRow) = some true) (i_NoRow_TooGreat : PySem.W.kitOne K (.ref C_NoRow) (.ref C_TooGreat) = some false) (i_NoRow_NoNote : PySem.W.kitOne K (.ref C_NoRow) (.ref C_NoNote) = some false) (i_NoRow_TooMany : PySem.W.kitOne K (.ref C_NoRow) (.ref C_TooMany) = some false) (i_NoRow_V : PySem.W.kitOne K (.ref C_NoRow) (.type "ValueError") = some true) (r_mroNoReading : PySem.W.mroIn K C_NoReading (.ref C_BellError) = some true) (r_gaNoReading : PySem.W.findIn K (.ref C_NoReading) "__getattribute__" = some (some (.builtin "BaseException.__getattribute__"))) (r_hkNoReading : PySem.W.findIn K (.ref C_NoReading) "__getattr__" = some none) (r_clNoReading : PySem.W.findIn K (.ref C_NoReading) "__class__" = some (some (.builtin "object.__class__"))) (r_moNoReading : PySem.W.mroIn K C_NoReading (.type "object") = some true) (r_mbNoReading : PySem.W.mroIn K C_NoReading (.type "BaseException") = some true) (i_NoReading_NoReading : PySem.W.kitOne K (.ref C_NoReading) (.ref C_NoReading) = some true) (i_NoReading_NoRow : PySem.W.kitOne K (.ref C_NoReading) (.ref C_NoRow) = some false) (i_NoReading_TooGreat : PySem.W.kitOne K (.ref C_NoReading) (.ref C_TooGreat) = some false) (i_NoReading_NoNote : PySem.W.kitOne K (.ref C_NoReading) (.ref C_NoNote) = some false) (i_NoReading_TooMany : PySem.W.kitOne K (.ref C_NoReading) (.ref C_TooMany) = some false) (i_NoReading_V : PySem.W.kitOne K (.ref C_NoReading) (.type "ValueError") = some true) (r_mroTooGreat : PySem.W.mroIn K C_TooGreat (.ref C_BellError) = some true) (r_gaTooGreat : PySem.W.findIn K (.ref C_TooGreat) "__getattribute__" = some (some (.builtin "BaseException.__getattribute__"))) (r_hkTooGreat : PySem.W.findIn K (.ref C_TooGreat) "__getattr__" = some none) (r_clTooGreat : PySem.W.findIn K (.ref C_TooGreat) "__class__" = some (some (.builtin "object.__class__"))) (r_moTooGreat : PySem.W.mroIn K C_TooGreat (.type "object") = some true) (r_mbTooGreat : PySem.W.mroIn K C_TooGreat (.type "BaseException") = some true) (i_TooGreat_NoReading : PySem.W.kitOne K (.ref C_TooGreat) (.ref C_NoReading) = some false) (i_TooGreat_NoRow : PySem.W.kitOne K (.ref C_TooGreat) (.ref C_NoRow) = some false) (i_TooGreat_TooGreat : PySem.W.kitOne K (.ref C_TooGreat) (.ref C_TooGreat) = some true) (i_TooGreat_NoNote : PySem.W.kitOne K (.ref C_TooGreat) (.ref C_NoNote) = some false) (i_TooGreat_TooMany : PySem.W.kitOne K (.ref C_TooGreat) (.ref C_TooMany) = some false) (i_TooGreat_V : PySem.W.kitOne K (.ref C_TooGreat) (.type "ValueError") = some true) (r_gt : PySem.W.specialIn K (.builtin "object.__class__") "__get__" = some (some (.builtin "getset_descriptor.__get__"))) (r_tk : PySem.W.takesIn K (.builtin "object.__class__") = some true) (GE_talk_heard : FnE P w K mg base 4 "talk_heard" ["reading", "many", "turns", "bells", "late"] (spTalkF K C_NoReading)) (G__law_kind : Fn P w K mg base 1 "_law_kind" ["e"] (spKind63 C_NoReading C_NoRow C_TooGreat)) : Fn P w K mg base 5 "_law_heard" ["reading", "many", "frame"] (spHeard63 K) := by
  refine D.fn sc__law_heard (fun vs H Q E h => ?_) (fun f cdv A outer s H vs Q E hr h => ?_)
  · obtain ⟨a, pf, rd, m, t, b, l, rfl, _⟩ := h
    rfl
  · obtain ⟨a, pf, rd, many, turns, bells, late, rfl, hS, hF, hl, n1, n6, Fr, q1, q2⟩ := h
    obtain ⟨B1, B4, l0, l1, bt, t1⟩ := Fr
    refine ⟨_, (pss_cons (ps_set (i := 3) sc__law_heard.nd rfl (Or.inl rfl) pe_non)
      (pss_cons (ps_set (i := 4) sc__law_heard.nd rfl (Or.inl rfl) pe_non)
      (pss_cons (ps_tryG (i := 5) rfl rfl sc__law_heard.nd rfl rfl rfl (by rfl) m_BellError x_BellError (by decide) (fun pn xe G hx => (pss_one (ps_set (i := 4) sc__law_heard.nd rfl (Or.inl rfl) (pe_fnG GE_talk_heard (hr.mono (by decide)) (by rfl) hx (pa_cons (pv 0) (pa_cons (pv 1) (pa_cons (pe_ix (ix_tupK K) (pv 2) pe_int (fun _ _ => rfl)) (pa_cons (pe_ix (ix_tupK K) (pv 2) pe_int (fun _ _ => rfl)) (pa_cons (pe_ix (ix_tupK K) (pv 2) pe_int (fun _ _ => rfl)) pa_nil))))))))) (fun x => (pss_one (ps_set (i := 3) sc__law_heard.nd rfl (Or.inl rfl) (pv 5)))))
      (pss_cons (ps_if (pt_cmpR op_notN (pv 3) pe_non (nomark _))
        (pss_one (ps_ret (pe_tup (pa_cons pe_str (pa_cons (pe_fn G__law_kind (hr.mono (by decide)) (by rfl) (pa_cons (pv 3) pa_nil)) pa_nil)))))
        pss_nil)
      (pss_one (ps_ret (pv 4))))))), ?_⟩
    refine ⟨_, rfl, _, rfl, _, rfl, _, _, _, _, rfl, rfl, SqT.of hF, rfl, _, rfl, _, _, _, _, rfl, rfl, SqT.of hF, rfl, _, rfl, _, _, _, _, rfl, rfl, SqT.of hF, rfl, a, rd, many, turns, bells, late, rfl, hS, hl, by omega, by omega, B1, by omega, bt, l0, bits_mono (bits_of (m := 100) l0 (by omega)) (by decide), bits_mono (bits_of (m := 100) (by omega) (by omega)) (by decide), by omega, fun G p H1 s1 hp h1 => ?_, fun nG H1 s1 => ⟨C_NoReading, bmV, _, rfl, x_NoReading, by decide, r_mroNoReading, fun x hx => ?_⟩⟩
    · refine ⟨_, rfl, rfl, _, rfl, iteF ⟨_, rfl, q1 G p H1 s1 hp h1⟩⟩
    · have s2 : Same H (upd H1 x (excIs x (.ref C_NoReading))) := s1.put hx
      have h4 : (upd H1 x (excIs x (.ref C_NoReading))) x = some (excIs x (.ref C_NoReading)) := upd_same
      generalize upd H1 x (excIs x (.ref C_NoReading)) = H4 at h4 s2 ⊢
      refine ⟨_, rfl, ?_⟩
      refine ⟨_, rfl, rfl, _, rfl, iteT ⟨_, rfl, x, C_NoReading, "reading", rfl, h4, .inl ⟨rfl, rfl⟩, fun H5 s5 => ⟨(by decide), fun p hp => q2 nG p _ ((s2.trans s5).put hp) upd_same⟩⟩⟩
noncomputable def spRung63 (K : PySem.W.Frag) : Sp := fun vs H Q _ => ∃ (a : Addr) (ms : List Int) (turns bells late : Int), vs = [.ref a, .int turns, .int bells, .int late] ∧ SqL K H a (ms.map V.int) ∧ ms.length ≤ 100 ∧ 0 ≤ bells ∧ bells ≤ 60 ∧ 0 ≤ late ∧ intBits late ≤ 8000 ∧ intBits turns ≤ 60000 ∧ (∀ m ∈ ms, intBits m ≤ 50000) ∧
  ((¬ (1 ≤ bells ∧ bells ≤ turns) ∧ ∀ H', Same H H' → Q (.str "row") H') ∨ ((1 ≤ bells ∧ bells ≤ turns) ∧ ¬ (∀ m ∈ ms, 0 ≤ m ∧ m < cnt turns bells late) ∧ ∀ H', Same H H' → Q (.str "great") H'))
theorem sc__law_rung : FnScope ["messages", "turns", "bells", "late", "caught", "e"] ["messages", "turns", "bells", "late"] (defScope st__law_rung) := ⟨rfl, rfl, rfl, by decide +kernel, rfl, by decide +kernel, by decide +kernel⟩
theorem ok_rung63 (D : Def K mg "_law_rung" st__law_rung ["messages", "turns", "bells", "late"]) (T : Txt K mg) {C_BellError : Addr} (m_BellError : mg "BellError" = some (.ref C_BellError)) {C_NoRow : Addr} (m_NoRow : mg "NoRow" = some (.ref C_NoRow)) {C_NoReading : Addr} (m_NoReading : mg "NoReading" = some (.ref C_NoReading)) {C_TooGreat : Addr} (m_TooGreat : mg "TooGreat" = some (.ref C_TooGreat)) {C_TooMany : Addr} (m_TooMany : mg "TooMany" = some (.ref C_TooMany)) {C_NoNote : Addr} (m_NoNote : mg "NoNote" = some (.ref C_NoNote))  (x_BellError : PySem.W.excIn K C_BellError bmV "ValueError.__new__" = true) (x_NoRow : PySem.W.excIn K C_NoRow bmV "ValueError.__new__" = true) (x_NoReading : PySem.W.excIn K C_NoReading bmV "ValueError.__new__" = true) (x_TooGreat : PySem.W.excIn K C_TooGreat bmV "ValueError.__new__" = true) (r_mroNoRow : PySem.W.mroIn K C_NoRow (.ref C_BellError) = some true) (r_gaNoRow : PySem.W.findIn K (.ref C_NoRow) "__getattribute__" = some (some (.builtin "BaseException.__getattribute__"))) (r_hkNoRow : PySem.W.findIn K (.ref C_NoRow) "__getattr__" = some none) (r_clNoRow : PySem.W.findIn K (.ref C_NoRow) "__class__" = some (some (.builtin "object.__class__"))) (r_moNoRow : PySem.W.mroIn K C_NoRow (.type "object") = some true) (r_mbNoRow : PySem.W.mroIn K C_NoRow (.type "BaseException") = some true) (i_NoRow_NoReading : PySem.W.kitOne K (.ref C_NoRow) (.ref C_NoReading) = some false) (i_NoRow_NoRow : PySem.W.kitOne K (.ref C_NoRow) (.ref C_NoRow) = some true) (i_NoRow_TooGreat : PySem.W.kitOne K (.ref C_NoRow) (.ref C_TooGreat) = some false) (i_NoRow_NoNote : PySem.W.kitOne K (.ref C_NoRow) (.ref C_NoNote) = some false) (i_NoRow_TooMany : PySem.W.kitOne K (.ref C_NoRow) (.ref C_TooMany) = some false) (i_NoRow_V : PySem.W.kitOne K (.ref C_NoRow) (.type "ValueError") = some true) (r_mroNoReading : PySem.W.mroIn K C_NoReading (.ref C_BellError) = some true) (r_gaNoReading : PySem.W.findIn K (.ref C_NoReading) "__getattribute__" = some (some (.builtin "BaseException.__getattribute__"))) (r_hkNoReading : PySem.W.findIn K (.ref C_NoReading) "__getattr__" = some none) (r_clNoReading : PySem.W.findIn K (.ref C_NoReading) "__class__" = some (some (.builtin "object.__class__"))) (r_moNoReading : PySem.W.mroIn K C_NoReading (.type "object") = some true) (r_mbNoReading : PySem.W.mroIn K C_NoReading (.type "BaseException") = some true) (i_NoReading_NoReading : PySem.W.kitOne K (.ref C_NoReading) (.ref C_NoReading) = some true) (i_NoReading_NoRow : PySem.W.kitOne K (.ref C_NoReading) (.ref C_NoRow) = some false) (i_NoReading_TooGreat : PySem.W.kitOne K (.ref C_NoReading) (.ref C_TooGreat) = some false) (i_NoReading_NoNote : PySem.W.kitOne K (.ref C_NoReading) (.ref C_NoNote) = some false) (i_NoReading_TooMany : PySem.W.kitOne K (.ref C_NoReading) (.ref C_TooMany) = some false) (i_NoReading_V : PySem.W.kitOne K (.ref C_NoReading) (.type "ValueError") = some true) (r_mroTooGreat : PySem.W.mroIn K C_TooGreat (.ref C_BellError) = some true) (r_gaTooGreat : PySem.W.findIn K (.ref C_TooGreat) "__getattribute__" = some (some (.builtin "BaseException.__getattribute__"))) (r_hkTooGreat : PySem.W.findIn K (.ref C_TooGreat) "__getattr__" = some none) (r_clTooGreat : PySem.W.findIn K (.ref C_TooGreat) "__class__" = some (some (.builtin "object.__class__"))) (r_moTooGreat : PySem.W.mroIn K C_TooGreat (.type "object") = some true) (r_mbTooGreat : PySem.W.mroIn K C_TooGreat (.type "BaseException") = some true) (i_TooGreat_NoReading : PySem.W.kitOne K (.ref C_TooGreat) (.ref C_NoReading) = some false) (i_TooGreat_NoRow : PySem.W.kitOne K (.ref C_TooGreat) (.ref C_NoRow) = some false) (i_TooGreat_TooGreat : PySem.W.kitOne K (.ref C_TooGreat) (.ref C_TooGreat) = some true) (i_TooGreat_NoNote : PySem.W.kitOne K (.ref C_TooGreat) (.ref C_NoNote) = some false) (i_TooGreat_TooMany : PySem.W.kitOne K (.ref C_TooGreat) (.ref C_TooMany) = some false) (i_TooGreat_V : PySem.W.kitOne K (.ref C_TooGreat) (.type "ValueError") = some true) (r_gt : PySem.W.specialIn K (.builtin "object.__class__") "__get__" = some (some (.builtin "getset_descriptor.__get__"))) (r_tk : PySem.W.takesIn K (.builtin "object.__class__") = some true) (GE_rung : FnE P w K mg base 41 "rung" ["messages", "turns", "bells", "late"] (spRungE K C_NoRow C_TooGreat)) (G__law_kind : Fn P w K mg base 1 "_law_kind" ["e"] (spKind63 C_NoReading C_NoRow C_TooGreat)) : Fn P w K mg base 42 "_law_rung" ["messages", "turns", "bells", "late"] (spRung63 K) := by
  refine D.fn sc__law_rung (fun vs H Q E h => ?_) (fun f cdv A outer s H vs Q E hr h => ?_)
  · obtain ⟨a, ms, t, b, l, rfl, _⟩ := h
    rfl
  · obtain ⟨a, ms, turns, bells, late, rfl, hS, hl, b0, b60, l0, lb, tb, mb, hq⟩ := h
    refine ⟨_, (pss_cons (ps_set (i := 4) sc__law_rung.nd rfl (Or.inl rfl) pe_non)
      (pss_cons (ps_tryG (i := 5) rfl rfl sc__law_rung.nd rfl rfl rfl (by rfl) m_BellError x_BellError (by decide) (fun pn xe G hx => (pss_one (ps_expr (pe_fnG GE_rung (hr.mono (by decide)) (by rfl) hx (pa_cons (pv 0) (pa_cons (pv 1) (pa_cons (pv 2) (pa_cons (pv 3) pa_nil)))))))) (fun x => (pss_one (ps_set (i := 4) sc__law_rung.nd rfl (Or.inl rfl) (pv 5)))))
      (pss_cons (ps_if (pt_cmpR op_isN (pv 4) pe_non (nomark _))
        (pss_one (ps_ret pe_str))
        pss_nil)
      (pss_one (ps_ret (pe_fn G__law_kind (hr.mono (by decide)) (by rfl) (pa_cons (pv 4) pa_nil))))))), ?_⟩
    refine ⟨_, rfl, _, rfl, _, rfl, _, rfl, a, ms, turns, bells, late, rfl, hS, hl, b0, b60, l0, lb, tb, mb, fun gb gm => ?_, fun nb => ?_, fun gb ng H1 s1 => ?_⟩
    · rcases hq with ⟨n, _⟩ | ⟨_, n, _⟩
      · exact absurd gb n
      · exact absurd gm n
    · rcases hq with ⟨_, q⟩ | ⟨y, _⟩
      · refine ⟨C_NoRow, bmV, _, rfl, x_NoRow, by decide, r_mroNoRow, fun x hx => ?_⟩
        have s2 : Same H (upd H x (excIs x (.ref C_NoRow))) := Same.new hx
        have h4 : (upd H x (excIs x (.ref C_NoRow))) x = some (excIs x (.ref C_NoRow)) := upd_same
        generalize upd H x (excIs x (.ref C_NoRow)) = H4 at h4 s2 ⊢
        exact ⟨_, rfl, _, rfl, rfl, _, rfl, iteF ⟨_, rfl, x, C_NoRow, "row", rfl, h4, .inr (.inl ⟨rfl, rfl⟩), fun H5 s5 => q _ (s2.trans s5)⟩⟩
      · exact absurd y nb
    · rcases hq with ⟨n, _⟩ | ⟨_, _, q⟩
      · exact absurd gb n
      · refine ⟨C_TooGreat, bmV, _, rfl, x_TooGreat, by decide, r_mroTooGreat, fun x hx => ?_⟩
        have s2 : Same H (upd H1 x (excIs x (.ref C_TooGreat))) := s1.put hx
        have h4 : (upd H1 x (excIs x (.ref C_TooGreat))) x = some (excIs x (.ref C_TooGreat)) := upd_same
        generalize upd H1 x (excIs x (.ref C_TooGreat)) = H4 at h4 s2 ⊢
        exact ⟨_, rfl, _, rfl, rfl, _, rfl, iteF ⟨_, rfl, x, C_TooGreat, "great", rfl, h4, .inr (.inr ⟨rfl, rfl⟩), fun H5 s5 => q _ (s2.trans s5)⟩⟩
end
theorem ringL_bd {L late : Int} (hL : 0 < L) : ∀ (bss : List (List Int)) (k : Int), 0 ≤ k → (∀ bs ∈ bss, ∀ x ∈ bellL late bs, 0 ≤ x ∧ x < L) → ∀ y ∈ ringL L late k bss, 0 ≤ y ∧ y < (k + (bss.length : Int)) * L
  | [], _, _, _, _, hy => nomatch hy
  | b :: r, k, k0, h, y, hy => by
    have hy : y ∈ (bellL late b).map (fun x => k * L + x) ++ ringL L late (k + 1) r := hy
    have kL : 0 ≤ k * L := Int.mul_nonneg k0 (by omega)
    have e1 : (k + ((b :: r).length : Int)) * L = k * L + L + (r.length : Int) * L := by
      rw [List.length_cons, show k + ((r.length + 1 : Nat) : Int) = k + 1 + (r.length : Int) by omega, Int.add_mul, Int.add_mul, Int.one_mul]
    have rL : 0 ≤ (r.length : Int) * L := Int.mul_nonneg (by omega) (by omega)
    rcases List.mem_append.mp hy with z | z
    · obtain ⟨x, hx, rfl⟩ := List.mem_map.mp z
      have := h b (List.mem_cons_self ..) x hx
      rw [e1]
      omega
    · have := ringL_bd hL r (k + 1) (by omega) (fun bs hb => h bs (List.mem_cons_of_mem _ hb)) y z
      rw [Int.add_mul, Int.add_mul, Int.one_mul] at this
      rw [e1]
      exact this
theorem fn_mono {P : Program} {w : World} {K : PySem.W.Frag} {mg : Str → Option Value} {base : Heap} {k : Nat} {x : Str} {ps : List Str} {sp sp' : Sp} (h : ∀ vs H Q E, sp' vs H Q E → sp vs H Q E) (F : Fn P w K mg base k x ps sp) : Fn P w K mg base k x ps sp' := by
  obtain ⟨f, fd, F, kp, b, m⟩ := F
  exact ⟨f, fd, ⟨fun vs H Q E hh => F.len vs H Q E (h _ _ _ _ hh), fun A outer s H args us vs Q E hr e0 hb r hh => F.run A outer s H args us vs Q E hr e0 hb r (h _ _ _ _ hh)⟩, kp, b, m⟩
theorem cut1 {c : TT} {tA tB R : TS} {D : Ends} {σ : St} {H : Hp} (Pre : St → Hp → Prop) (tail : ∀ σ H, Pre σ H → R D σ H) (h : ∀ N : St → Hp → Prop, (∀ σ H, Pre σ H → N σ H) → tIfS c tA tB { D with nx := N } σ H) : tSeq (tIfS c tA tB) R D σ H := h (fun σ H => R D σ H) tail
section
variable {P : Program} {w : World} {K : PySem.W.Frag} {mg : Str → Option Value} {base : Heap}
noncomputable def DueV (rd : List Int) (many turns bells late : Int) (v : V) (H : Hp) : Prop := (TalkGood rd many turns bells late ∧ ∃ p, v = .ref p ∧ H p = some (.lst ((told63 rd many turns late).map V.int))) ∨ (¬ TalkGood rd many turns bells late ∧ v = .non)
noncomputable def HeardV (rd : List Int) (many turns bells late : Int) (p : Addr) (H : Hp) : Prop := (TalkGood rd many turns bells late ∧ H p = some (.lst ((told63 rd many turns late).map V.int))) ∨ (¬ TalkGood rd many turns bells late ∧ H p = some (.tup [.str "refused", .str "reading"]))
theorem HeardV.same {rd : List Int} {many turns bells late : Int} {p : Addr} {H H' : Hp} (h : HeardV rd many turns bells late p H) (s : Same H H') : HeardV rd many turns bells late p H' := h.imp (fun z => ⟨z.1, s _ _ z.2⟩) fun z => ⟨z.1, s _ _ z.2⟩
noncomputable def spDueW (K : PySem.W.Frag) : Sp := fun vs H Q _ => ∃ (a pf : Addr) (rd : List Int) (many turns bells late : Int), vs = [.ref a, .int many, .ref pf] ∧ SqL K H a (rd.map V.int) ∧ H pf = some (.tup [.int turns, .int bells, .int late]) ∧ rd.length ≤ 60 ∧ rd.Pairwise (· ≤ ·) ∧ (∀ x ∈ rd, 0 ≤ x) ∧ 1 ≤ many ∧ many ≤ 6 ∧ Frame63 turns bells late ∧ ∀ v H', Same H H' → DueV rd many turns bells late v H' → Q v H'
noncomputable def spHeardW (K : PySem.W.Frag) : Sp := fun vs H Q _ => ∃ (a pf : Addr) (rd : List Int) (many turns bells late : Int), vs = [.ref a, .int many, .ref pf] ∧ SqL K H a (rd.map V.int) ∧ H pf = some (.tup [.int turns, .int bells, .int late]) ∧ rd.length ≤ 60 ∧ 1 ≤ many ∧ many ≤ 6 ∧ Frame63 turns bells late ∧ ∀ p H', Same H H' → HeardV rd many turns bells late p H' → Q (.ref p) H'
theorem okF_ref : ∀ v ∈ [V.str "refused", V.str "reading"], okF v = true := by decide +kernel
open PySem.SeqAt in
theorem ref_mix : noMixAll ([V.str "refused", V.str "reading"].map dV) ([V.str "refused", V.str "reading"].map dV) = true := by decide +kernel
theorem ref_same : PySem.Spec.sameAll ([V.str "refused", V.str "reading"].map dV) ([V.str "refused", V.str "reading"].map dV) = true := by decide +kernel
theorem dueW (F : Fn P w K mg base 3 "_law_due" ["reading", "many", "frame"] (spDue63 K)) : Fn P w K mg base 3 "_law_due" ["reading", "many", "frame"] (spDueW K) := fn_mono (fun vs H Q E h => by
  obtain ⟨a, pf, rd, many, turns, bells, late, e, h1, h2, h3, h4, h5, h6, h7, h8, q⟩ := h
  exact ⟨a, pf, rd, many, turns, bells, late, e, h1, h2, h3, h4, h5, h6, h7, h8, fun G p H' s _ hp => q _ _ s (.inl ⟨G, p, rfl, hp⟩), fun nG H' s => q _ _ s (.inr ⟨nG, rfl⟩)⟩) F
theorem heardW (F : Fn P w K mg base 5 "_law_heard" ["reading", "many", "frame"] (spHeard63 K)) : Fn P w K mg base 5 "_law_heard" ["reading", "many", "frame"] (spHeardW K) := fn_mono (fun vs H Q E h => by
  obtain ⟨a, pf, rd, many, turns, bells, late, e, h1, h2, h3, h6, h7, h8, q⟩ := h
  exact ⟨a, pf, rd, many, turns, bells, late, e, h1, h2, h3, h6, h7, h8, fun G p H' s _ hp => q _ _ s (.inl ⟨G, hp⟩), fun nG p H' s hp => q _ _ s (.inr ⟨nG, hp⟩)⟩) F
theorem sc_law : FnScope ["script", "frame", "turns", "bells", "late", "count", "many", "messages", "reading", "due", "handed", "wrong", "far", "short", "talk"] ["script"] (defScope st_law) := ⟨rfl, rfl, rfl, by decide +kernel, rfl, by decide +kernel, by decide +kernel⟩
theorem ok_law (hP : P.given.tree = none) {f : Addr} {fd : FuncData} (F : Fun K "law" "law" st_law f fd) (T : Txt K mg) (D_choose : Def K mg "choose" st_choose ["n", "k"]) (D_top_from : Def K mg "top_from" st_top_from ["start", "k", "number"]) (D_above_top : Def K mg "above_top" st_above_top ["k", "number"]) (D_rounded_up : Def K mg "rounded_up" st_rounded_up ["number", "divisor"]) (D_box_of : Def K mg "box_of" st_box_of ["row", "late"]) (D_bell_row : Def K mg "bell_row" st_bell_row ["box", "late"]) (D_heard_box : Def K mg "heard_box" st_heard_box ["reading", "late"]) (D_box_count : Def K mg "box_count" st_box_count ["turns", "bells", "late"]) (D_greatest_part : Def K mg "greatest_part" st_greatest_part ["turns", "bells", "late"]) (D_box_number : Def K mg "box_number" st_box_number ["box"]) (D_box_of_message : Def K mg "box_of_message" st_box_of_message ["message", "bells"]) (D_written : Def K mg "written" st_written ["message", "turns", "bells", "late"]) (D_read : Def K mg "read" st_read ["reading", "turns", "bells", "late"]) (D_refuse_silent : Def K mg "refuse_silent" st_refuse_silent ["turns", "bells"]) (D_rung : Def K mg "rung" st_rung ["messages", "turns", "bells", "late"]) (D_by_messages : Def K mg "by_messages" st_by_messages ["reading", "turns", "late"]) (D_talk_heard : Def K mg "talk_heard" st_talk_heard ["reading", "many", "turns", "bells", "late"]) (D__law_cell_at : Def K mg "_law_cell_at" st__law_cell_at ["script", "k"]) (D__law_drawn : Def K mg "_law_drawn" st__law_drawn ["cell", "k"]) (D__law_frame : Def K mg "_law_frame" st__law_frame ["cell"]) (D__law_changed : Def K mg "_law_changed" st__law_changed ["script", "talk", "frame", "many"]) (D__law_part : Def K mg "_law_part" st__law_part ["part", "frame"]) (D__law_due : Def K mg "_law_due" st__law_due ["reading", "many", "frame"]) (D__law_kind : Def K mg "_law_kind" st__law_kind ["e"]) (D__law_heard : Def K mg "_law_heard" st__law_heard ["reading", "many", "frame"]) (D__law_rung : Def K mg "_law_rung" st__law_rung ["messages", "turns", "bells", "late"]) {C_BellError : Addr} (m_BellError : mg "BellError" = some (.ref C_BellError)) {C_NoRow : Addr} (m_NoRow : mg "NoRow" = some (.ref C_NoRow)) {C_NoReading : Addr} (m_NoReading : mg "NoReading" = some (.ref C_NoReading)) {C_TooGreat : Addr} (m_TooGreat : mg "TooGreat" = some (.ref C_TooGreat)) {C_TooMany : Addr} (m_TooMany : mg "TooMany" = some (.ref C_TooMany)) {C_NoNote : Addr} (m_NoNote : mg "NoNote" = some (.ref C_NoNote))  (x_BellError : PySem.W.excIn K C_BellError bmV "ValueError.__new__" = true) (x_NoRow : PySem.W.excIn K C_NoRow bmV "ValueError.__new__" = true) (x_NoReading : PySem.W.excIn K C_NoReading bmV "ValueError.__new__" = true) (x_TooGreat : PySem.W.excIn K C_TooGreat bmV "ValueError.__new__" = true) (r_mroNoRow : PySem.W.mroIn K C_NoRow (.ref C_BellError) = some true) (r_gaNoRow : PySem.W.findIn K (.ref C_NoRow) "__getattribute__" = some (some (.builtin "BaseException.__getattribute__"))) (r_hkNoRow : PySem.W.findIn K (.ref C_NoRow) "__getattr__" = some none) (r_clNoRow : PySem.W.findIn K (.ref C_NoRow) "__class__" = some (some (.builtin "object.__class__"))) (r_moNoRow : PySem.W.mroIn K C_NoRow (.type "object") = some true) (r_mbNoRow : PySem.W.mroIn K C_NoRow (.type "BaseException") = some true) (i_NoRow_NoReading : PySem.W.kitOne K (.ref C_NoRow) (.ref C_NoReading) = some false) (i_NoRow_NoRow : PySem.W.kitOne K (.ref C_NoRow) (.ref C_NoRow) = some true) (i_NoRow_TooGreat : PySem.W.kitOne K (.ref C_NoRow) (.ref C_TooGreat) = some false) (i_NoRow_NoNote : PySem.W.kitOne K (.ref C_NoRow) (.ref C_NoNote) = some false) (i_NoRow_TooMany : PySem.W.kitOne K (.ref C_NoRow) (.ref C_TooMany) = some false) (i_NoRow_V : PySem.W.kitOne K (.ref C_NoRow) (.type "ValueError") = some true) (r_mroNoReading : PySem.W.mroIn K C_NoReading (.ref C_BellError) = some true) (r_gaNoReading : PySem.W.findIn K (.ref C_NoReading) "__getattribute__" = some (some (.builtin "BaseException.__getattribute__"))) (r_hkNoReading : PySem.W.findIn K (.ref C_NoReading) "__getattr__" = some none) (r_clNoReading : PySem.W.findIn K (.ref C_NoReading) "__class__" = some (some (.builtin "object.__class__"))) (r_moNoReading : PySem.W.mroIn K C_NoReading (.type "object") = some true) (r_mbNoReading : PySem.W.mroIn K C_NoReading (.type "BaseException") = some true) (i_NoReading_NoReading : PySem.W.kitOne K (.ref C_NoReading) (.ref C_NoReading) = some true) (i_NoReading_NoRow : PySem.W.kitOne K (.ref C_NoReading) (.ref C_NoRow) = some false) (i_NoReading_TooGreat : PySem.W.kitOne K (.ref C_NoReading) (.ref C_TooGreat) = some false) (i_NoReading_NoNote : PySem.W.kitOne K (.ref C_NoReading) (.ref C_NoNote) = some false) (i_NoReading_TooMany : PySem.W.kitOne K (.ref C_NoReading) (.ref C_TooMany) = some false) (i_NoReading_V : PySem.W.kitOne K (.ref C_NoReading) (.type "ValueError") = some true) (r_mroTooGreat : PySem.W.mroIn K C_TooGreat (.ref C_BellError) = some true) (r_gaTooGreat : PySem.W.findIn K (.ref C_TooGreat) "__getattribute__" = some (some (.builtin "BaseException.__getattribute__"))) (r_hkTooGreat : PySem.W.findIn K (.ref C_TooGreat) "__getattr__" = some none) (r_clTooGreat : PySem.W.findIn K (.ref C_TooGreat) "__class__" = some (some (.builtin "object.__class__"))) (r_moTooGreat : PySem.W.mroIn K C_TooGreat (.type "object") = some true) (r_mbTooGreat : PySem.W.mroIn K C_TooGreat (.type "BaseException") = some true) (i_TooGreat_NoReading : PySem.W.kitOne K (.ref C_TooGreat) (.ref C_NoReading) = some false) (i_TooGreat_NoRow : PySem.W.kitOne K (.ref C_TooGreat) (.ref C_NoRow) = some false) (i_TooGreat_TooGreat : PySem.W.kitOne K (.ref C_TooGreat) (.ref C_TooGreat) = some true) (i_TooGreat_NoNote : PySem.W.kitOne K (.ref C_TooGreat) (.ref C_NoNote) = some false) (i_TooGreat_TooMany : PySem.W.kitOne K (.ref C_TooGreat) (.ref C_TooMany) = some false) (i_TooGreat_V : PySem.W.kitOne K (.ref C_TooGreat) (.type "ValueError") = some true) (r_gt : PySem.W.specialIn K (.builtin "object.__class__") "__get__" = some (some (.builtin "getset_descriptor.__get__"))) (r_tk : PySem.W.takesIn K (.builtin "object.__class__") = some true) : FnOk P w K mg base CX0 44 f fd ["script"] (spLaw K) := by
  have G_choose : Fn P w K mg base 1 "choose" ["n", "k"] spChoose := ok_choose D_choose T
  have G_rounded := ok_rounded_up (w := w) (base := base) D_rounded_up hP
  have G_above_top := ok_above_top D_above_top T G_rounded
  have G_top_from := ok_top_from D_top_from G_choose G_rounded hP
  have GE_box_of_message : FnE P w K mg base 39 "box_of_message" ["message", "bells"] (spBoxMsgE K C_TooGreat) := ok_box_of_messageE D_box_of_message T m_TooGreat x_TooGreat G_above_top G_top_from G_choose
  have G_box_count : Fn P w K mg base 2 "box_count" ["turns", "bells", "late"] spCount := ok_box_count D_box_count T (ok_greatest_part D_greatest_part) G_choose
  have GE_written : FnE P w K mg base 40 "written" ["message", "turns", "bells", "late"] (spWrittenE K C_TooGreat) := ok_writtenE D_written T m_TooGreat x_TooGreat G_box_count GE_box_of_message (ok_bell_row D_bell_row T)
  have G_box_number : Fn P w K mg base 2 "box_number" ["box"] (spNum K) := ok_box_number D_box_number T G_choose
  have GE_read : FnE P w K mg base 3 "read" ["reading", "turns", "bells", "late"] (spReadE K C_NoReading) := ok_readE D_read T m_NoReading x_NoReading G_box_count (ok_heard_boxE D_heard_box T m_NoReading x_NoReading (ok_box_of D_box_of T)) G_box_number
  have GE_rung : FnE P w K mg base 41 "rung" ["messages", "turns", "bells", "late"] (spRungE K C_NoRow C_TooGreat) := ok_rungE D_rung T (ok_silentE D_refuse_silent T m_NoRow x_NoRow) GE_written
  have G_rung := fnE_fn GE_rung
  have GE_talk_heard : FnE P w K mg base 4 "talk_heard" ["reading", "many", "turns", "bells", "late"] (spTalkF K C_NoReading) := ok_talk_heardF D_talk_heard T m_NoReading x_NoReading (ok_by_messages D_by_messages T) GE_read
  have G__law_cell_at : Fn P w K mg base 1 "_law_cell_at" ["script", "k"] (spCell K) := ok_cell_at D__law_cell_at T
  have G__law_drawn : Fn P w K mg base 1 "_law_drawn" ["cell", "k"] spDr := ok_dr D__law_drawn
  have G__law_frame : Fn P w K mg base 2 "_law_frame" ["cell"] spFrame := ok_frame D__law_frame T G__law_drawn
  have G__law_changed : Fn P w K mg base 2 "_law_changed" ["script", "talk", "frame", "many"] (spChg63 K) := ok_changed D__law_changed T G__law_cell_at G__law_drawn
  have G__law_due : Fn P w K mg base 3 "_law_due" ["reading", "many", "frame"] (spDueW K) := dueW (ok_due63 D__law_due T (ok_part D__law_part T) G_box_number)
  have G__law_kind : Fn P w K mg base 1 "_law_kind" ["e"] (spKind63 C_NoReading C_NoRow C_TooGreat) := ok_kind63 D__law_kind T m_BellError m_NoRow m_NoReading m_TooGreat m_TooMany m_NoNote x_BellError x_NoRow x_NoReading x_TooGreat r_mroNoRow r_gaNoRow r_hkNoRow r_clNoRow r_moNoRow r_mbNoRow i_NoRow_NoReading i_NoRow_NoRow i_NoRow_TooGreat i_NoRow_NoNote i_NoRow_TooMany i_NoRow_V r_mroNoReading r_gaNoReading r_hkNoReading r_clNoReading r_moNoReading r_mbNoReading i_NoReading_NoReading i_NoReading_NoRow i_NoReading_TooGreat i_NoReading_NoNote i_NoReading_TooMany i_NoReading_V r_mroTooGreat r_gaTooGreat r_hkTooGreat r_clTooGreat r_moTooGreat r_mbTooGreat i_TooGreat_NoReading i_TooGreat_NoRow i_TooGreat_TooGreat i_TooGreat_NoNote i_TooGreat_TooMany i_TooGreat_V r_gt r_tk
  have G__law_heard : Fn P w K mg base 5 "_law_heard" ["reading", "many", "frame"] (spHeardW K) := heardW (ok_heard63 D__law_heard T m_BellError m_NoRow m_NoReading m_TooGreat m_TooMany m_NoNote x_BellError x_NoRow x_NoReading x_TooGreat r_mroNoRow r_gaNoRow r_hkNoRow r_clNoRow r_moNoRow r_mbNoRow i_NoRow_NoReading i_NoRow_NoRow i_NoRow_TooGreat i_NoRow_NoNote i_NoRow_TooMany i_NoRow_V r_mroNoReading r_gaNoReading r_hkNoReading r_clNoReading r_moNoReading r_mbNoReading i_NoReading_NoReading i_NoReading_NoRow i_NoReading_TooGreat i_NoReading_NoNote i_NoReading_TooMany i_NoReading_V r_mroTooGreat r_gaTooGreat r_hkTooGreat r_clTooGreat r_moTooGreat r_mbTooGreat i_TooGreat_NoReading i_TooGreat_NoRow i_TooGreat_TooGreat i_TooGreat_NoNote i_TooGreat_TooMany i_TooGreat_V r_gt r_tk GE_talk_heard G__law_kind)
  have G__law_rung : Fn P w K mg base 42 "_law_rung" ["messages", "turns", "bells", "late"] (spRung63 K) := ok_rung63 D__law_rung T m_BellError m_NoRow m_NoReading m_TooGreat m_TooMany m_NoNote x_BellError x_NoRow x_NoReading x_TooGreat r_mroNoRow r_gaNoRow r_hkNoRow r_clNoRow r_moNoRow r_mbNoRow i_NoRow_NoReading i_NoRow_NoRow i_NoRow_TooGreat i_NoRow_NoNote i_NoRow_TooMany i_NoRow_V r_mroNoReading r_gaNoReading r_hkNoReading r_clNoReading r_moNoReading r_mbNoReading i_NoReading_NoReading i_NoReading_NoRow i_NoReading_TooGreat i_NoReading_NoNote i_NoReading_TooMany i_NoReading_V r_mroTooGreat r_gaTooGreat r_hkTooGreat r_clTooGreat r_moTooGreat r_mbTooGreat i_TooGreat_NoReading i_TooGreat_NoRow i_TooGreat_TooGreat i_TooGreat_NoNote i_TooGreat_TooMany i_TooGreat_V r_gt r_tk GE_rung G__law_kind
  refine F.ok sc_law (fun vs H Q E h => ?_) (fun cdv A outer s H vs Q E hr h => ?_)
  · obtain ⟨a, ns, rfl, _⟩ := h
    rfl
  · obtain ⟨a, ns, rfl, hS, hlen, q⟩ := h
    have hu := hu64 hr
    refine ⟨_, (pss_cons (ps_set (i := 1) sc_law.nd rfl (Or.inl rfl) (pe_fn G__law_frame (hr.mono (by decide)) (by rfl) (pa_cons (pe_fn G__law_cell_at (hr.mono (by decide)) (by rfl) (pa_cons (pv 0) (pa_cons pe_int pa_nil))) pa_nil)))
      (pss_cons (ps_asg (pv 1) (pg_tup (n := 3) rfl (pgs_cons (pg_name (i := 2) sc_law.nd rfl (Or.inl rfl)) (pgs_cons (pg_name (i := 3) sc_law.nd rfl (Or.inl rfl)) (pgs_cons (pg_name (i := 4) sc_law.nd rfl (Or.inl rfl)) pgs_nil)))))
      (pss_cons (ps_set (i := 5) sc_law.nd rfl (Or.inr rfl) (pe_fn G_box_count (hr.mono (by decide)) (by rfl) (pa_cons (pv 2) (pa_cons (pv 3) (pa_cons (pv 4) pa_nil)))))
      (pss_cons (ps_set (i := 6) sc_law.nd rfl (Or.inl rfl) (pe_op op_addI pe_int (pe_op op_modB (pe_fn G__law_drawn (hr.mono (by decide)) (by rfl) (pa_cons (pe_fn G__law_cell_at (hr.mono (by decide)) (by rfl) (pa_cons (pv 0) (pa_cons pe_int pa_nil))) (pa_cons pe_int pa_nil))) pe_int)))
      (pss_cons (ps_setC (k := 7) (own := ["k"]) (fr := ["count", "script"]) (ix := [5, 0]) rfl sc_law.nd rfl rfl ⟨rfl, rfl, rfl, rfl, rfl, rfl⟩ (pi_range1 (by rfl) T.z_range (pa_cons (pv 6) pa_nil)) (fun _ _ _ _ _ => (pg_name (i := 0) (show (["k", "count", "script"] : List Str).Nodup by decide +kernel) rfl (Or.inl rfl))) (fun _ _ _ _ _ => pts_nil) (fun _ _ _ _ _ => (pe_op op_modB (pe_fn G__law_drawn (hr.mono (by decide)) (by rfl) (pa_cons (pe_fn G__law_cell_at (hr.mono (by decide)) (by rfl) (pa_cons (pv 2) (pa_cons (pe_op op_addI pe_int (pv 0)) pa_nil))) (pa_cons pe_int pa_nil))) (pv 1))))
      (pss_cons (ps_set (i := 8) sc_law.nd rfl (Or.inl rfl) (pe_fn G__law_changed (hr.mono (by decide)) (by rfl) (pa_cons (pv 0) (pa_cons (pe_fn G_rung (hr.mono (by decide)) (by rfl) (pa_cons (pv 7) (pa_cons (pv 2) (pa_cons (pv 3) (pa_cons (pv 4) pa_nil))))) (pa_cons (pv 1) (pa_cons (pv 6) pa_nil))))))
      (pss_cons (ps_set (i := 9) sc_law.nd rfl (Or.inl rfl) (pe_fn G__law_due (hr.mono (by decide)) (by rfl) (pa_cons (pv 8) (pa_cons (pv 6) (pa_cons (pv 1) pa_nil)))))
      (pss_cons (ps_if (pt_cmpR op_isN (pv 9) pe_non (nomark _))
        (pss_one (ps_set (i := 9) sc_law.nd rfl (Or.inl rfl) (pe_tup (pa_cons pe_str (pa_cons pe_str pa_nil)))))
        pss_nil)
      (pss_cons (ps_set (i := 10) sc_law.nd rfl (Or.inl rfl) (pe_callTy call_list_of (by rfl) T.z_list b_list (pa_cons (pv 8) pa_nil)))
      (pss_cons (ps_if (pw_or (pt_cmpR (op_neM hu) (pe_fn G__law_heard (hr.mono (by decide)) (by rfl) (pa_cons (pv 10) (pa_cons (pv 6) (pa_cons (pv 1) pa_nil)))) (pv 9) (nomark _)) (pw_or1 (pt_cmpR (op_neL hu) (pv 10) (pv 8) (nomark _)))).pt
        (pss_one (ps_ret pe_bl))
        pss_nil)
      (pss_cons (ps_set (i := 11) sc_law.nd rfl (Or.inl rfl) (pe_callTy call_list_of (by rfl) T.z_list b_list (pa_cons (pv 7) pa_nil)))
      (pss_cons (ps_set (i := 12) sc_law.nd rfl (Or.inl rfl) (pe_op op_modB (pe_fn G__law_drawn (hr.mono (by decide)) (by rfl) (pa_cons (pe_fn G__law_cell_at (hr.mono (by decide)) (by rfl) (pa_cons (pv 0) (pa_cons pe_int pa_nil))) (pa_cons pe_int pa_nil))) (pe_ix ix_list (pe_lst (pa_cons pe_int (pa_cons (pe_op op_powB pe_int pe_int) pa_nil))) (pe_op op_modB (pe_fn G__law_drawn (hr.mono (by decide)) (by rfl) (pa_cons (pe_fn G__law_cell_at (hr.mono (by decide)) (by rfl) (pa_cons (pv 0) (pa_cons pe_int pa_nil))) (pa_cons pe_int pa_nil))) pe_int) (fun _ _ => rfl))))
      (pss_cons (ps_asg (pe_ix ix_list (pe_lst (pa_cons (pe_op op_addI (pv 5) (pv 12)) (pa_cons (pe_op op_subI (pe_un un_neg pe_int) (pv 12)) pa_nil))) (pe_op op_modB (pe_fn G__law_drawn (hr.mono (by decide)) (by rfl) (pa_cons (pe_fn G__law_cell_at (hr.mono (by decide)) (by rfl) (pa_cons (pv 0) (pa_cons pe_int pa_nil))) (pa_cons pe_int pa_nil))) pe_int) (fun _ _ => rfl)) (pg_sub (pv 11) (pe_op op_modB (pe_fn G__law_cell_at (hr.mono (by decide)) (by rfl) (pa_cons (pv 0) (pa_cons pe_int pa_nil))) (pv 6)) set_list))
      (pss_cons (ps_if (pt_cmpR op_ne (pe_fn G__law_rung (hr.mono (by decide)) (by rfl) (pa_cons (pv 11) (pa_cons (pv 2) (pa_cons (pv 3) (pa_cons (pv 4) pa_nil))))) pe_str (nomark _))
        (pss_one (ps_ret pe_bl))
        pss_nil)
      (pss_cons (ps_set (i := 13) sc_law.nd rfl (Or.inl rfl) (pe_op op_modB (pe_fn G__law_drawn (hr.mono (by decide)) (by rfl) (pa_cons (pe_fn G__law_cell_at (hr.mono (by decide)) (by rfl) (pa_cons (pv 0) (pa_cons pe_int pa_nil))) (pa_cons pe_int pa_nil))) (pv 3)))
      (pss_cons (ps_for PassesOwn.never rfl (pi_list (pe_lst (pa_cons (pv 11) (pa_cons (pv 7) (pa_cons (pe_op op_rep (pe_lst (pa_cons pe_int pa_nil)) (pv 6)) (pa_cons (pe_lst pa_nil) pa_nil)))))) (pg_name (i := 14) sc_law.nd rfl (Or.inl rfl))
        (pss_one (ps_if (pw_or (pt_cmpR op_ne (pe_fn G__law_rung (hr.mono (by decide)) (by rfl) (pa_cons (pv 14) (pa_cons (pv 2) (pa_cons pe_int (pa_cons (pv 4) pa_nil))))) pe_str (nomark _)) (pw_or1 (pt_cmpR op_ne (pe_fn G__law_rung (hr.mono (by decide)) (by rfl) (pa_cons (pv 14) (pa_cons (pv 13) (pa_cons (pv 3) (pa_cons (pv 4) pa_nil))))) pe_str (nomark _)))).pt
          (pss_one (ps_ret pe_bl))
          pss_nil)))
      (pss_one (ps_ret pe_bl)))))))))))))))))), ?_⟩
    refine ⟨_, rfl, a, ns, 0, rfl, hS, by decide, cellOf ns 0, rfl, fun pf turns bells late H1 s1 hF Fr => ?_⟩
    have Fr' := Fr
    obtain ⟨B1, B4, l0, l1, bt, t1⟩ := Fr'
    have lb : intBits late ≤ 100 := bits_of l0 (by omega)
    have lb8 : intBits late ≤ 8000 := bits_mono lb (by decide)
    have tb : intBits turns ≤ 200 := bits_of (by omega) (by omega)
    have cp := cnt_pos (turns := turns) (bells := bells) (late := late) (by omega) bt l0
    have cb := cnt_bits (turns := turns) (bells := bells) (late := late) (by omega) (by omega) l0 (by omega) tb (by decide)
    refine ⟨_, rfl, pf, _, rfl, SqT.of hF, rfl, _, _, rfl, _, _, rfl, _, _, rfl, rfl, ?_⟩
    refine ⟨_, rfl, _, rfl, _, rfl, turns, bells, late, rfl, by omega, by omega, l0, lb8, bits_mono tb (by decide), ?_⟩
    refine ⟨_, rfl, a, ns, 0, rfl, s1.seq hS, by decide, _, 45, rfl, by decide, fun d1 d10 d11 => ⟨_, _, rfl, rfl, (by decide), _, _, rfl, rfl, ?_⟩⟩
    have n0 := Int.emod_nonneg d1 (show (6 : Int) ≠ 0 by decide)
    have n6' := Int.emod_lt_of_pos d1 (show (0 : Int) < 6 by decide)
    obtain ⟨many, hmany, n1, n6⟩ : ∃ many : Int, 1 + d1 % 6 = many ∧ 1 ≤ many ∧ many ≤ 6 := ⟨_, rfl, by omega, by omega⟩
    rw [hmany]
    clear hmany n0 n6' d10 d11
    refine ⟨_, rfl, many, rfl, by omega, by omega, fun pm hpm => comp_rangeG (lo := 0) (n := many.toNat) (fun _ v => ∃ m : Int, v = V.int m ∧ 0 ≤ m ∧ m < cnt turns bells late) hpm (Nat.le_of_lt (small1000 (by omega))) (fun i H6 R' hi s6 hR => ?_) ?_⟩
    · rw [show (0 : Int) + (i : Int) = (i : Int) by omega]
      exact ⟨rfl, _, rfl, _, rfl, _, _, rfl, rfl, a, ns, 20 + (i : Int), rfl, (s1.trans s6).seq hS, by omega, _, 46, rfl, by decide, fun d2 d20 d21 => ⟨_, rfl, _, _, rfl, rfl, cp, hR _ _ (Same.refl _) ⟨_, rfl, Int.emod_nonneg _ (by omega), Int.emod_lt_of_pos _ cp⟩⟩⟩
    intro ys H2 s12 hM yl yp
    obtain ⟨ms, rfl, mp⟩ := ints_of (Pd := fun m => 0 ≤ m ∧ m < cnt turns bells late) (fun i v hv => yp i v hv)
    rw [List.length_map] at yl
    have s2 := s1.trans s12
    have hF2 := s12 _ _ hF
    have mb : ∀ m ∈ ms, intBits m ≤ 50000 := fun m hm => bits_mono (bits_lt (mp m hm).1 (mp m hm).2 cb) (by decide)
    refine ⟨_, rfl, _, rfl, _, rfl, _, rfl, _, rfl, pm, ms, turns, bells, late, rfl, SqL.of hM, by omega, by omega, by omega, l0, lb8, bits_mono tb (by decide), mb, fun gb gm pt bss H3 s23 hpt hT bl hb hz => ?_, fun nb => absurd ⟨B1, bt⟩ nb, fun _ ng => absurd mp ng⟩
    have hbox : ∀ bs ∈ bss, IsBox bs ∧ bs.length = bells.toNat ∧ numB bs < cnt turns bells late := fun bs hbs => by
      obtain ⟨i, hi⟩ := List.getElem?_of_mem hbs
      have il := (List.getElem?_eq_some_iff.mp hi).1
      have hm : ms[i]? = some ms[i] := List.getElem?_eq_getElem (by omega)
      obtain ⟨g1, g2, g3⟩ := hb i bs _ hi hm
      have := mp _ (List.mem_of_getElem? hm)
      exact ⟨g1, g2, by omega⟩
    have rl : (ringL (turns + late) late 0 bss).length = bss.length * bells.toNat := ringL_len bss 0 fun bs hbs => (hbox bs hbs).2.1
    have rl24 : (ringL (turns + late) late 0 bss).length ≤ 24 := by
      rw [rl]
      have : bss.length * bells.toNat ≤ 6 * 4 := Nat.mul_le_mul (by omega) (by omega)
      omega
    have rbd : ∀ x ∈ ringL (turns + late) late 0 bss, 0 ≤ x ∧ x < 2 ^ 100 := fun x hx => by
      have h1 := ringL_bd (L := turns + late) (late := late) (by omega) bss 0 (Int.le_refl _) (fun bs hbs y hy => by
        obtain ⟨g1, g2, g3⟩ := hbox bs hbs
        have := bell_lt (turns := turns) g1 l0 (by rw [g2, show ((bells.toNat : Nat) : Int) = bells by omega]; exact g3) y hy
        omega) x hx
      have h2 : (0 + (bss.length : Int)) * (turns + late) ≤ 6 * 1200000000000000000000 := Int.mul_le_mul (by omega) (by omega) (by omega) (by decide)
      omega
    have s3 := s2.trans s23
    have hF3 := s23 _ _ hF2
    refine ⟨_, rfl, _, rfl, a, pt, pf, ns, ringL (turns + late) late 0 bss, many, turns, bells, late, rfl, s3.seq hS, SqL.of hT, hF3, rl24, rbd, n1, n6, Fr, fun pr rd H4 s34 hpr hR pw rdl rdb => ?_⟩
    have s4 := s3.trans s34
    have hF4 := s34 _ _ hF3
    have hM4 := s34 _ _ (s23 _ _ hM)
    refine ⟨_, rfl, _, rfl, _, rfl, pr, pf, rd, many, turns, bells, late, rfl, SqL.of hR, hF4, by omega, pw, fun x hx => (rdb x hx).1, n1, n6, Fr, fun dv H5 s45 hdv => ?_⟩
    have hR5 := s45 _ _ hR
    have hF5 := s45 _ _ hF4
    have hM5 := s45 _ _ hM4
    have s5 := s4.trans s45
    clear hR hF4 hM4 s4 s45 hF3 s34 s3 hT hpr hpt s23 hF2 s2 hM s12 hF s1 rbd rl24 rl hbox hb hz bl gm gb pw
    dsimp only [gName]
    change tSeq (tIfS _ _ _) _ _ _ _
    refine cut1 (fun σ H6 => ∃ pd : Addr, σ = [some (.ref a), some (.ref pf), some (.int turns), some (.int bells), some (.int late), some (.int (cnt turns bells late)), some (.int many), some (.ref pm), some (.ref pr), some (.ref pd), none, none, none, none, none] ∧ Same H5 H6 ∧ HeardV rd many turns bells late pd H6) ?t1 (fun N hN => ?i1)
    case i1 =>
      rcases hdv with ⟨G, pd, rfl, hD⟩ | ⟨nG, rfl⟩
      · exact ⟨_, rfl, rfl, _, rfl, iteF (hN _ _ ⟨pd, rfl, Same.refl _, .inl ⟨G, hD⟩⟩)⟩
      · exact ⟨_, rfl, rfl, _, rfl, iteT ⟨(by decide), fun pd hpd => hN _ _ ⟨pd, rfl, Same.new hpd, .inr ⟨nG, upd_same⟩⟩⟩⟩
    rintro σ H6 ⟨pd, rfl, s56, hD⟩
    refine ⟨_, rfl, _, _, rfl, .inl (SqL.of (s56 _ _ hR5)), fun ph hph => ?_⟩
    have s57 : Same H5 (upd H6 ph (.lst (rd.map V.int))) := s56.put hph
    have hH7 : (upd H6 ph (.lst (rd.map V.int))) ph = some (.lst (rd.map V.int)) := upd_same
    have hD7 := hD.same (Same.new (o := .lst (rd.map V.int)) hph)
    generalize upd H6 ph (.lst (rd.map V.int)) = H65 at s57 hH7 hD7 ⊢
    clear hD hph s56
    dsimp only [gName]
    change tSeq (tIfS _ _ _) _ _ _ _
    refine cut1 (fun σ H7 => σ = [some (.ref a), some (.ref pf), some (.int turns), some (.int bells), some (.int late), some (.int (cnt turns bells late)), some (.int many), some (.ref pm), some (.ref pr), some (.ref pd), some (.ref ph), none, none, none, none] ∧ Same H5 H7) ?t2 (fun N hN => ?i2)
    case i2 =>
      refine ⟨_, rfl, _, rfl, _, rfl, ph, pf, rd, many, turns, bells, late, rfl, SqL.of hH7, s57 _ _ hF5, by omega, n1, n6, Fr, fun pq H7 s67 hQ => ⟨_, rfl, ?_⟩⟩
      have e2 := s67 _ _ hH7
      have e3 := s67 _ _ (s57 _ _ hR5)
      have D7 := hD7.same s67
      have fin : N [some (.ref a), some (.ref pf), some (.int turns), some (.int bells), some (.int late), some (.int (cnt turns bells late)), some (.int many), some (.ref pm), some (.ref pr), some (.ref pd), some (.ref ph), none, none, none, none] H7 := hN _ _ ⟨rfl, s57.trans s67⟩
      rcases D7 with ⟨G, hd⟩ | ⟨nG, hd⟩
      · rcases hQ with ⟨_, hq⟩ | ⟨nG, _⟩
        · exact .inl ⟨pq, pd, _, _, rfl, rfl, SqL.of hq, SqL.of hd, _, rfl, iteNS rfl ⟨_, rfl, _, rfl, ph, pr, rd, rd, rfl, rfl, SqL.of e2, SqL.of e3, _, rfl, iteNS rfl fin⟩⟩
        · exact absurd G nG
      · rcases hQ with ⟨G, _⟩ | ⟨_, hq⟩
        · exact absurd G nG
        · refine .inr ⟨pq, pd, _, _, rfl, rfl, SqT.of hq, SqT.of hd, okF_ref, okF_ref, ref_mix, _, rfl, ?_⟩
          rw [ref_same]
          exact iteF ⟨_, rfl, _, rfl, ph, pr, rd, rd, rfl, rfl, SqL.of e2, SqL.of e3, _, rfl, iteNS rfl fin⟩
    rintro σ H7 ⟨rfl, s577⟩
    have s7 := s5.trans s577
    have hM7 := s577 _ _ hM5
    clear hdv hR5 hF5 hM5 s5 s577 s57 hH7 hD7
    refine ⟨_, rfl, _, _, rfl, .inl (SqL.of hM7), fun pw2 hpw2 => ?_⟩
    have s8 : Same H (upd H7 pw2 (.lst (ms.map V.int))) := s7.put hpw2
    have s78 : Same H7 (upd H7 pw2 (.lst (ms.map V.int))) := Same.new hpw2
    have hW8 : (upd H7 pw2 (.lst (ms.map V.int))) pw2 = some (.lst (ms.map V.int)) := upd_same
    have hM8 := s78 _ _ hM7
    have nwm : pw2 ≠ pm := fun z => by rw [z, hM7] at hpw2; cases hpw2
    have pwn : H pw2 = none := s7.free hpw2
    generalize upd H7 pw2 (.lst (ms.map V.int)) = H8 at s8 s78 hW8 hM8 ⊢
    refine ⟨_, rfl, a, ns, 33, rfl, s8.seq hS, by decide, _, 47, rfl, by decide, fun d2 d20 d21 => ⟨_, _, rfl, rfl, ⟨by decide, by decide, by decide⟩, (by show 2 ≤ sizeLine; decide), fun p1 hp1 => ⟨_, rfl, a, ns, 33, rfl, (s8.put hp1).seq hS, by decide, _, 48, rfl, by decide, fun d3 d30 d31 => ⟨_, _, rfl, rfl, (by decide), ?_⟩⟩⟩⟩
    obtain ⟨v, hv, ev⟩ := at2 (V.int 2) (V.int (10 ^ (15 : Int).toNat)) (Int.emod_nonneg d3 (by decide : (2 : Int) ≠ 0)) (Int.emod_lt_of_pos d3 (by decide))
    obtain ⟨M, rfl, M0, M1⟩ : ∃ M : Int, v = .int M ∧ 0 < M ∧ M ≤ 1000000000000000 := by
      rcases ev with rfl | rfl
      all_goals exact ⟨_, rfl, by decide, by decide⟩
    refine ⟨_, _, _, _, rfl, rfl, SqL.of upd_same, hv, _, _, rfl, rfl, M0, ?_⟩
    have f0 := Int.emod_nonneg d2 (show M ≠ 0 by omega)
    have f1 := Int.emod_lt_of_pos d2 M0
    generalize d2 % M = far at f0 f1 ⊢
    have s9 := s8.put (o := .lst [V.int 2, V.int (10 ^ (15 : Int).toNat)]) hp1
    have hW9 := (Same.new (o := .lst [V.int 2, V.int (10 ^ (15 : Int).toNat)]) hp1) _ _ hW8
    have hM9 := (Same.new (o := .lst [V.int 2, V.int (10 ^ (15 : Int).toNat)]) hp1) _ _ hM8
    generalize upd H8 p1 (.lst [V.int 2, V.int (10 ^ (15 : Int).toNat)]) = H9 at s9 hW9 hM9 ⊢
    refine ⟨_, rfl, _, rfl, _, _, rfl, rfl, _, rfl, _, rfl, _, _, rfl, rfl, (by show 2 ≤ sizeLine; decide), fun p2 hp2 => ⟨_, rfl, a, ns, 33, rfl, (s9.put hp2).seq hS, by decide, _, 49, rfl, by decide, fun d4 d40 d41 => ⟨_, _, rfl, rfl, (by decide), ?_⟩⟩⟩
    obtain ⟨v, hv, ev⟩ := at2 (V.int (cnt turns bells late + far)) (V.int (-1 - far)) (Int.emod_nonneg d4 (by decide : (2 : Int) ≠ 0)) (Int.emod_lt_of_pos d4 (by decide))
    have cfb : intBits (cnt turns bells late + far) ≤ 50000 := bits_mono (intBits_add_le cb (bits_of (m := 60) f0 (by omega))) (by decide)
    have nfb : intBits (-1 - far) ≤ 50000 := bits_mono (intBits_le_of_natAbs (m := 60) (y := 2 ^ 60 - 1) (by omega) (by decide)) (by decide)
    obtain ⟨bad, rfl, bb, nb⟩ : ∃ bad : Int, v = .int bad ∧ intBits bad ≤ 50000 ∧ ¬ (0 ≤ bad ∧ bad < cnt turns bells late) := by
      rcases ev with rfl | rfl
      · exact ⟨_, rfl, cfb, by omega⟩
      · exact ⟨_, rfl, nfb, by omega⟩
    have hW10 := (Same.new (o := .lst [V.int (cnt turns bells late + far), V.int (-1 - far)]) hp2) _ _ hW9
    have hM10 := (Same.new (o := .lst [V.int (cnt turns bells late + far), V.int (-1 - far)]) hp2) _ _ hM9
    have s10 := s9.put (o := .lst [V.int (cnt turns bells late + far), V.int (-1 - far)]) hp2
    have i0 := Int.emod_nonneg (cellOf ns 34) (show many ≠ 0 by omega)
    have i1 := Int.emod_lt_of_pos (cellOf ns 34) (show 0 < many by omega)
    refine ⟨_, _, _, _, rfl, rfl, SqL.of upd_same, hv, _, rfl, _, rfl, a, ns, 34, rfl, s10.seq hS, by decide, _, rfl, _, _, rfl, rfl, by omega, pw2, _, _, (cellOf ns 34 % many).toNat, rfl, rfl, hW10, ?_, ?_⟩
    · unfold ixN
      rw [List.length_map, if_pos i0, if_pos (by omega)]
    generalize hj : (cellOf ns 34 % many).toNat = j
    have jl : j < ms.length := by omega
    have hW11 : (upd (upd H9 p2 (.lst [V.int (cnt turns bells late + far), V.int (-1 - far)])) pw2 (.lst ((ms.map V.int).set j (V.int bad)))) pw2 = some (.lst ((ms.set j bad).map V.int)) := by rw [upd_same, List.map_set]
    have hM11 : (upd (upd H9 p2 (.lst [V.int (cnt turns bells late + far), V.int (-1 - far)])) pw2 (.lst ((ms.map V.int).set j (V.int bad)))) pm = some (.lst (ms.map V.int)) := by rw [upd_ne nwm.symm]; exact hM10
    have s11 : Same H (upd (upd H9 p2 (.lst [V.int (cnt turns bells late + far), V.int (-1 - far)])) pw2 (.lst ((ms.map V.int).set j (V.int bad)))) := s10.wr pwn
    generalize upd (upd H9 p2 (.lst [V.int (cnt turns bells late + far), V.int (-1 - far)])) pw2 (.lst ((ms.map V.int).set j (V.int bad))) = H11 at hW11 hM11 s11 ⊢
    have wl : (ms.set j bad).length ≤ 100 := by rw [List.length_set]; omega
    have wb : ∀ m ∈ ms.set j bad, intBits m ≤ 50000 := mem_set (F := fun m => intBits m ≤ 50000) mb bb
    have wng : ¬ (∀ m ∈ ms.set j bad, 0 ≤ m ∧ m < cnt turns bells late) := fun all => nb (all bad (List.mem_iff_getElem?.mpr ⟨j, by rw [List.getElem?_set_self jl]⟩))
    have tb6 : intBits turns ≤ 60000 := bits_mono tb (by decide)
    refine ⟨_, rfl, _, rfl, _, rfl, _, rfl, pw2, ms.set j bad, turns, bells, late, rfl, SqL.of hW11, wl, by omega, by omega, l0, lb8, tb6, wb, .inr ⟨⟨B1, bt⟩, wng, fun H12 s1112 => ⟨rfl, _, rfl, iteNS rfl ?_⟩⟩⟩
    have s12 := s11.trans s1112
    have hW12 := s1112 _ _ hW11
    have hM12 := s1112 _ _ hM11
    refine ⟨_, rfl, a, ns, 33, rfl, s12.seq hS, by decide, _, 51, rfl, by decide, fun d5 d50 d51 => ⟨_, rfl, _, _, rfl, rfl, by omega, ?_⟩⟩
    have h0 := Int.emod_nonneg d5 (show bells ≠ 0 by omega)
    have h1 := Int.emod_lt_of_pos d5 (show 0 < bells by omega)
    generalize d5 % bells = short at h0 h1 ⊢
    refine ⟨_, rfl, _, rfl, (by decide), fun pz hpz => ⟨_, rfl, pz, many, [V.int 0], rfl, rfl, upd_same, by omega, by omega, by show 1 * many.toNat ≤ sizeLine; exact Nat.le_of_lt (small1000 (by omega)), fun pz2 hpz2 => ?_⟩⟩
    rw [flat_zeros]
    have s13 := (s12.put (o := .lst [V.int 0]) hpz).put (o := .lst ((List.replicate many.toNat (0 : Int)).map V.int)) hpz2
    have k13 : Same H12 (upd (upd H12 pz (.lst [V.int 0])) pz2 (.lst ((List.replicate many.toNat (0 : Int)).map V.int))) := (Same.new hpz).put hpz2
    have hZ13 : (upd (upd H12 pz (.lst [V.int 0])) pz2 (.lst ((List.replicate many.toNat (0 : Int)).map V.int))) pz2 = some (.lst ((List.replicate many.toNat (0 : Int)).map V.int)) := upd_same
    generalize upd (upd H12 pz (.lst [V.int 0])) pz2 (.lst ((List.replicate many.toNat (0 : Int)).map V.int)) = H13 at s13 k13 hZ13 ⊢
    refine ⟨(by decide), fun pe hpe => ⟨(by show 4 ≤ sizeLine; decide), fun pl hpl => ?_⟩⟩
    have k14 : Same H13 (upd (upd H13 pe (.lst [])) pl (.lst [V.ref pw2, V.ref pm, V.ref pz2, V.ref pe])) := (Same.new hpe).put hpl
    have hE14 : (upd (upd H13 pe (.lst [])) pl (.lst [V.ref pw2, V.ref pm, V.ref pz2, V.ref pe])) pe = some (.lst (([] : List Int).map V.int)) := (Same.new hpl) _ _ upd_same
    have hL14 : (upd (upd H13 pe (.lst [])) pl (.lst [V.ref pw2, V.ref pm, V.ref pz2, V.ref pe])) pl = some (.lst [V.ref pw2, V.ref pm, V.ref pz2, V.ref pe]) := upd_same
    generalize upd (upd H13 pe (.lst [])) pl (.lst [V.ref pw2, V.ref pm, V.ref pz2, V.ref pe]) = H14 at k14 hE14 hL14 ⊢
    have hW14 := k14 _ _ (k13 _ _ hW12)
    have hM14 := k14 _ _ (k13 _ _ hM12)
    have hZ14 := k14 _ _ hZ13
    refine ⟨pl, rfl, ⟨_, SqL.of hL14⟩, for_list (K := K) (a := pl) (xs := [V.ref pw2, V.ref pm, V.ref pz2, V.ref pe]) (fun i σ H15 => ∃ v14 : Option V, σ = [some (.ref a), some (.ref pf), some (.int turns), some (.int bells), some (.int late), some (.int (cnt turns bells late)), some (.int many), some (.ref pm), some (.ref pr), some (.ref pd), some (.ref ph), some (.ref pw2), some (.int far), some (.int short), v14] ∧ Same H14 H15) ⟨none, rfl, Same.refl _⟩ (fun i σ H15 _ ⟨_, _, s15⟩ => SqL.of (s15 _ _ hL14)) ?_ ?_⟩
    · rintro i x σ H15 hx ⟨v14, rfl, s15⟩
      obtain ⟨t, tms, rfl, ht, tl, tbb⟩ : ∃ (t : Addr) (tms : List Int), x = .ref t ∧ H14 t = some (.lst (tms.map V.int)) ∧ tms.length ≤ 100 ∧ ∀ m ∈ tms, intBits m ≤ 50000 := by
        rcases i with _ | _ | _ | _ | i
        · cases hx
          exact ⟨_, _, rfl, hW14, wl, wb⟩
        · cases hx
          exact ⟨_, _, rfl, hM14, by omega, mb⟩
        · cases hx
          refine ⟨_, _, rfl, hZ14, by rw [List.length_replicate]; omega, fun m hm => ?_⟩
          rw [List.eq_of_mem_replicate hm]
          decide
        · cases hx
          exact ⟨_, _, rfl, hE14, by decide, fun _ z => nomatch z⟩
        · cases hx
      refine ⟨_, rfl, _, rfl, _, rfl, t, tms, turns, 0, late, rfl, SqL.of (s15 _ _ ht), tl, by omega, by omega, l0, lb8, tb6, tbb, .inl ⟨by omega, fun H16 s16 => ⟨rfl, _, rfl, iteNS rfl ?_⟩⟩⟩
      exact ⟨_, rfl, _, rfl, _, rfl, _, rfl, t, tms, short, bells, late, rfl, SqL.of (s16 _ _ (s15 _ _ ht)), tl, by omega, by omega, l0, lb8, bits_mono (bits_of (m := 10) h0 (by omega)) (by decide), tbb, .inl ⟨by omega, fun H17 s17 => ⟨rfl, _, rfl, iteNS rfl ⟨_, rfl, (s15.trans s16).trans s17⟩⟩⟩⟩
    · rintro σ H15 ⟨v14, rfl, s15⟩
      exact q _
end
theorem of_len0 {α : Type} {F : List α → Prop} {us : List α} (h : us.length = 0) (k : F []) : F us := by
  cases us with
  | nil => exact k
  | cons a r => cases h
theorem of_len1 {α : Type} {F : List α → Prop} {us : List α} (h : us.length = 1) (k : ∀ a, F [a]) : F us := by
  cases us with
  | nil => cases h
  | cons a r => exact of_len0 (F := fun r => F (a :: r)) (Nat.succ.inj h) (k a)
theorem of_len2 {α : Type} {F : List α → Prop} {us : List α} (h : us.length = 2) (k : ∀ a b, F [a, b]) : F us := by
  cases us with
  | nil => cases h
  | cons a r => exact of_len1 (F := fun r => F (a :: r)) (Nat.succ.inj h) (k a)
theorem of_len3 {α : Type} {F : List α → Prop} {us : List α} (h : us.length = 3) (k : ∀ a b c, F [a, b, c]) : F us := by
  cases us with
  | nil => cases h
  | cons a r => exact of_len2 (F := fun r => F (a :: r)) (Nat.succ.inj h) (k a)
theorem of_len4 {α : Type} {F : List α → Prop} {us : List α} (h : us.length = 4) (k : ∀ a b c d, F [a, b, c, d]) : F us := by
  cases us with
  | nil => cases h
  | cons a r => exact of_len3 (F := fun r => F (a :: r)) (Nat.succ.inj h) (k a)
theorem of_len5 {α : Type} {F : List α → Prop} {us : List α} (h : us.length = 5) (k : ∀ a b c d e, F [a, b, c, d, e]) : F us := by
  cases us with
  | nil => cases h
  | cons a r => exact of_len4 (F := fun r => F (a :: r)) (Nat.succ.inj h) (k a)
theorem binds_len1 {fd : FuncData} {ps : List Str} {us : List Value} (h : us.length = 1) (k : ∀ a, bindArgs fd ⟨[a], []⟩ = pure (ps.zip [a])) : bindArgs fd ⟨us, []⟩ = pure (ps.zip us) := of_len1 (F := fun us => bindArgs fd ⟨us, []⟩ = pure (ps.zip us)) h k
theorem binds_len2 {fd : FuncData} {ps : List Str} {us : List Value} (h : us.length = 2) (k : ∀ a b, bindArgs fd ⟨[a, b], []⟩ = pure (ps.zip [a, b])) : bindArgs fd ⟨us, []⟩ = pure (ps.zip us) := of_len2 (F := fun us => bindArgs fd ⟨us, []⟩ = pure (ps.zip us)) h k
theorem binds_len3 {fd : FuncData} {ps : List Str} {us : List Value} (h : us.length = 3) (k : ∀ a b c, bindArgs fd ⟨[a, b, c], []⟩ = pure (ps.zip [a, b, c])) : bindArgs fd ⟨us, []⟩ = pure (ps.zip us) := of_len3 (F := fun us => bindArgs fd ⟨us, []⟩ = pure (ps.zip us)) h k
theorem binds_len4 {fd : FuncData} {ps : List Str} {us : List Value} (h : us.length = 4) (k : ∀ a b c d, bindArgs fd ⟨[a, b, c, d], []⟩ = pure (ps.zip [a, b, c, d])) : bindArgs fd ⟨us, []⟩ = pure (ps.zip us) := of_len4 (F := fun us => bindArgs fd ⟨us, []⟩ = pure (ps.zip us)) h k
theorem binds_len5 {fd : FuncData} {ps : List Str} {us : List Value} (h : us.length = 5) (k : ∀ a b c d e, bindArgs fd ⟨[a, b, c, d, e], []⟩ = pure (ps.zip [a, b, c, d, e])) : bindArgs fd ⟨us, []⟩ = pure (ps.zip us) := of_len5 (F := fun us => bindArgs fd ⟨us, []⟩ = pure (ps.zip us)) h k
theorem all_mk {l : PySem.W.OpenLaw} (hP : l.prog.given.tree = none) {w : World} {K : PySem.W.Frag} {h : Heap} {mg : Str → Option Value} {fa : Addr} (X : K.In h) (G : h.Ns mainGlobals mg) (hfa : mg "law" = some (.ref fa))
    {f0 : Addr} {od0 an0 : Option Addr} {sl0 : Array (Option Value)} {oc0 kV0 dc0 pm0 cd0 ct0 : Value}
    (a0 : PySem.W.nsIn K mainGlobals "choose" = some (some (.ref f0))) (l0 : K.lookup f0 = some ⟨oc0, od0, .func (PySem.W.fnOf "choose" "choose" (defArgs st_choose) (defBody st_choose) (defScope st_choose) .none kV0 dc0 pm0 an0 cd0 ct0), sl0⟩) (c0 : PySem.W.codeIn K cd0 "choose" = true) (k0 : PySem.W.keepIn K (.ref f0) = true)
    {f1 : Addr} {od1 an1 : Option Addr} {sl1 : Array (Option Value)} {oc1 kV1 dc1 pm1 cd1 ct1 : Value}
    (a1 : PySem.W.nsIn K mainGlobals "top_from" = some (some (.ref f1))) (l1 : K.lookup f1 = some ⟨oc1, od1, .func (PySem.W.fnOf "top_from" "top_from" (defArgs st_top_from) (defBody st_top_from) (defScope st_top_from) .none kV1 dc1 pm1 an1 cd1 ct1), sl1⟩) (c1 : PySem.W.codeIn K cd1 "top_from" = true) (k1 : PySem.W.keepIn K (.ref f1) = true)
    {f2 : Addr} {od2 an2 : Option Addr} {sl2 : Array (Option Value)} {oc2 kV2 dc2 pm2 cd2 ct2 : Value}
    (a2 : PySem.W.nsIn K mainGlobals "above_top" = some (some (.ref f2))) (l2 : K.lookup f2 = some ⟨oc2, od2, .func (PySem.W.fnOf "above_top" "above_top" (defArgs st_above_top) (defBody st_above_top) (defScope st_above_top) .none kV2 dc2 pm2 an2 cd2 ct2), sl2⟩) (c2 : PySem.W.codeIn K cd2 "above_top" = true) (k2 : PySem.W.keepIn K (.ref f2) = true)
    {f3 : Addr} {od3 an3 : Option Addr} {sl3 : Array (Option Value)} {oc3 kV3 dc3 pm3 cd3 ct3 : Value}
    (a3 : PySem.W.nsIn K mainGlobals "rounded_up" = some (some (.ref f3))) (l3 : K.lookup f3 = some ⟨oc3, od3, .func (PySem.W.fnOf "rounded_up" "rounded_up" (defArgs st_rounded_up) (defBody st_rounded_up) (defScope st_rounded_up) .none kV3 dc3 pm3 an3 cd3 ct3), sl3⟩) (c3 : PySem.W.codeIn K cd3 "rounded_up" = true) (k3 : PySem.W.keepIn K (.ref f3) = true)
    {f4 : Addr} {od4 an4 : Option Addr} {sl4 : Array (Option Value)} {oc4 kV4 dc4 pm4 cd4 ct4 : Value}
    (a4 : PySem.W.nsIn K mainGlobals "box_of" = some (some (.ref f4))) (l4 : K.lookup f4 = some ⟨oc4, od4, .func (PySem.W.fnOf "box_of" "box_of" (defArgs st_box_of) (defBody st_box_of) (defScope st_box_of) .none kV4 dc4 pm4 an4 cd4 ct4), sl4⟩) (c4 : PySem.W.codeIn K cd4 "box_of" = true) (k4 : PySem.W.keepIn K (.ref f4) = true)
    {f5 : Addr} {od5 an5 : Option Addr} {sl5 : Array (Option Value)} {oc5 kV5 dc5 pm5 cd5 ct5 : Value}
    (a5 : PySem.W.nsIn K mainGlobals "bell_row" = some (some (.ref f5))) (l5 : K.lookup f5 = some ⟨oc5, od5, .func (PySem.W.fnOf "bell_row" "bell_row" (defArgs st_bell_row) (defBody st_bell_row) (defScope st_bell_row) .none kV5 dc5 pm5 an5 cd5 ct5), sl5⟩) (c5 : PySem.W.codeIn K cd5 "bell_row" = true) (k5 : PySem.W.keepIn K (.ref f5) = true)
    {f6 : Addr} {od6 an6 : Option Addr} {sl6 : Array (Option Value)} {oc6 kV6 dc6 pm6 cd6 ct6 : Value}
    (a6 : PySem.W.nsIn K mainGlobals "heard_box" = some (some (.ref f6))) (l6 : K.lookup f6 = some ⟨oc6, od6, .func (PySem.W.fnOf "heard_box" "heard_box" (defArgs st_heard_box) (defBody st_heard_box) (defScope st_heard_box) .none kV6 dc6 pm6 an6 cd6 ct6), sl6⟩) (c6 : PySem.W.codeIn K cd6 "heard_box" = true) (k6 : PySem.W.keepIn K (.ref f6) = true)
    {f7 : Addr} {od7 an7 : Option Addr} {sl7 : Array (Option Value)} {oc7 kV7 dc7 pm7 cd7 ct7 : Value}
    (a7 : PySem.W.nsIn K mainGlobals "box_count" = some (some (.ref f7))) (l7 : K.lookup f7 = some ⟨oc7, od7, .func (PySem.W.fnOf "box_count" "box_count" (defArgs st_box_count) (defBody st_box_count) (defScope st_box_count) .none kV7 dc7 pm7 an7 cd7 ct7), sl7⟩) (c7 : PySem.W.codeIn K cd7 "box_count" = true) (k7 : PySem.W.keepIn K (.ref f7) = true)
    {f8 : Addr} {od8 an8 : Option Addr} {sl8 : Array (Option Value)} {oc8 kV8 dc8 pm8 cd8 ct8 : Value}
    (a8 : PySem.W.nsIn K mainGlobals "greatest_part" = some (some (.ref f8))) (l8 : K.lookup f8 = some ⟨oc8, od8, .func (PySem.W.fnOf "greatest_part" "greatest_part" (defArgs st_greatest_part) (defBody st_greatest_part) (defScope st_greatest_part) .none kV8 dc8 pm8 an8 cd8 ct8), sl8⟩) (c8 : PySem.W.codeIn K cd8 "greatest_part" = true) (k8 : PySem.W.keepIn K (.ref f8) = true)
    {f9 : Addr} {od9 an9 : Option Addr} {sl9 : Array (Option Value)} {oc9 kV9 dc9 pm9 cd9 ct9 : Value}
    (a9 : PySem.W.nsIn K mainGlobals "box_number" = some (some (.ref f9))) (l9 : K.lookup f9 = some ⟨oc9, od9, .func (PySem.W.fnOf "box_number" "box_number" (defArgs st_box_number) (defBody st_box_number) (defScope st_box_number) .none kV9 dc9 pm9 an9 cd9 ct9), sl9⟩) (c9 : PySem.W.codeIn K cd9 "box_number" = true) (k9 : PySem.W.keepIn K (.ref f9) = true)
    {f10 : Addr} {od10 an10 : Option Addr} {sl10 : Array (Option Value)} {oc10 kV10 dc10 pm10 cd10 ct10 : Value}
    (a10 : PySem.W.nsIn K mainGlobals "box_of_message" = some (some (.ref f10))) (l10 : K.lookup f10 = some ⟨oc10, od10, .func (PySem.W.fnOf "box_of_message" "box_of_message" (defArgs st_box_of_message) (defBody st_box_of_message) (defScope st_box_of_message) .none kV10 dc10 pm10 an10 cd10 ct10), sl10⟩) (c10 : PySem.W.codeIn K cd10 "box_of_message" = true) (k10 : PySem.W.keepIn K (.ref f10) = true)
    {f11 : Addr} {od11 an11 : Option Addr} {sl11 : Array (Option Value)} {oc11 kV11 dc11 pm11 cd11 ct11 : Value}
    (a11 : PySem.W.nsIn K mainGlobals "written" = some (some (.ref f11))) (l11 : K.lookup f11 = some ⟨oc11, od11, .func (PySem.W.fnOf "written" "written" (defArgs st_written) (defBody st_written) (defScope st_written) .none kV11 dc11 pm11 an11 cd11 ct11), sl11⟩) (c11 : PySem.W.codeIn K cd11 "written" = true) (k11 : PySem.W.keepIn K (.ref f11) = true)
    {f12 : Addr} {od12 an12 : Option Addr} {sl12 : Array (Option Value)} {oc12 kV12 dc12 pm12 cd12 ct12 : Value}
    (a12 : PySem.W.nsIn K mainGlobals "read" = some (some (.ref f12))) (l12 : K.lookup f12 = some ⟨oc12, od12, .func (PySem.W.fnOf "read" "read" (defArgs st_read) (defBody st_read) (defScope st_read) .none kV12 dc12 pm12 an12 cd12 ct12), sl12⟩) (c12 : PySem.W.codeIn K cd12 "read" = true) (k12 : PySem.W.keepIn K (.ref f12) = true)
    {f13 : Addr} {od13 an13 : Option Addr} {sl13 : Array (Option Value)} {oc13 kV13 dc13 pm13 cd13 ct13 : Value}
    (a13 : PySem.W.nsIn K mainGlobals "refuse_silent" = some (some (.ref f13))) (l13 : K.lookup f13 = some ⟨oc13, od13, .func (PySem.W.fnOf "refuse_silent" "refuse_silent" (defArgs st_refuse_silent) (defBody st_refuse_silent) (defScope st_refuse_silent) .none kV13 dc13 pm13 an13 cd13 ct13), sl13⟩) (c13 : PySem.W.codeIn K cd13 "refuse_silent" = true) (k13 : PySem.W.keepIn K (.ref f13) = true)
    {f14 : Addr} {od14 an14 : Option Addr} {sl14 : Array (Option Value)} {oc14 kV14 dc14 pm14 cd14 ct14 : Value}
    (a14 : PySem.W.nsIn K mainGlobals "rung" = some (some (.ref f14))) (l14 : K.lookup f14 = some ⟨oc14, od14, .func (PySem.W.fnOf "rung" "rung" (defArgs st_rung) (defBody st_rung) (defScope st_rung) .none kV14 dc14 pm14 an14 cd14 ct14), sl14⟩) (c14 : PySem.W.codeIn K cd14 "rung" = true) (k14 : PySem.W.keepIn K (.ref f14) = true)
    {f15 : Addr} {od15 an15 : Option Addr} {sl15 : Array (Option Value)} {oc15 kV15 dc15 pm15 cd15 ct15 : Value}
    (a15 : PySem.W.nsIn K mainGlobals "by_messages" = some (some (.ref f15))) (l15 : K.lookup f15 = some ⟨oc15, od15, .func (PySem.W.fnOf "by_messages" "by_messages" (defArgs st_by_messages) (defBody st_by_messages) (defScope st_by_messages) .none kV15 dc15 pm15 an15 cd15 ct15), sl15⟩) (c15 : PySem.W.codeIn K cd15 "by_messages" = true) (k15 : PySem.W.keepIn K (.ref f15) = true)
    {f16 : Addr} {od16 an16 : Option Addr} {sl16 : Array (Option Value)} {oc16 kV16 dc16 pm16 cd16 ct16 : Value}
    (a16 : PySem.W.nsIn K mainGlobals "talk_heard" = some (some (.ref f16))) (l16 : K.lookup f16 = some ⟨oc16, od16, .func (PySem.W.fnOf "talk_heard" "talk_heard" (defArgs st_talk_heard) (defBody st_talk_heard) (defScope st_talk_heard) .none kV16 dc16 pm16 an16 cd16 ct16), sl16⟩) (c16 : PySem.W.codeIn K cd16 "talk_heard" = true) (k16 : PySem.W.keepIn K (.ref f16) = true)
    {f17 : Addr} {od17 an17 : Option Addr} {sl17 : Array (Option Value)} {oc17 kV17 dc17 pm17 cd17 ct17 : Value}
    (a17 : PySem.W.nsIn K mainGlobals "_law_cell_at" = some (some (.ref f17))) (l17 : K.lookup f17 = some ⟨oc17, od17, .func (PySem.W.fnOf "_law_cell_at" "_law_cell_at" (defArgs st__law_cell_at) (defBody st__law_cell_at) (defScope st__law_cell_at) .none kV17 dc17 pm17 an17 cd17 ct17), sl17⟩) (c17 : PySem.W.codeIn K cd17 "_law_cell_at" = true) (k17 : PySem.W.keepIn K (.ref f17) = true)
    {f18 : Addr} {od18 an18 : Option Addr} {sl18 : Array (Option Value)} {oc18 kV18 dc18 pm18 cd18 ct18 : Value}
    (a18 : PySem.W.nsIn K mainGlobals "_law_drawn" = some (some (.ref f18))) (l18 : K.lookup f18 = some ⟨oc18, od18, .func (PySem.W.fnOf "_law_drawn" "_law_drawn" (defArgs st__law_drawn) (defBody st__law_drawn) (defScope st__law_drawn) .none kV18 dc18 pm18 an18 cd18 ct18), sl18⟩) (c18 : PySem.W.codeIn K cd18 "_law_drawn" = true) (k18 : PySem.W.keepIn K (.ref f18) = true)
    {f19 : Addr} {od19 an19 : Option Addr} {sl19 : Array (Option Value)} {oc19 kV19 dc19 pm19 cd19 ct19 : Value}
    (a19 : PySem.W.nsIn K mainGlobals "_law_frame" = some (some (.ref f19))) (l19 : K.lookup f19 = some ⟨oc19, od19, .func (PySem.W.fnOf "_law_frame" "_law_frame" (defArgs st__law_frame) (defBody st__law_frame) (defScope st__law_frame) .none kV19 dc19 pm19 an19 cd19 ct19), sl19⟩) (c19 : PySem.W.codeIn K cd19 "_law_frame" = true) (k19 : PySem.W.keepIn K (.ref f19) = true)
    {f20 : Addr} {od20 an20 : Option Addr} {sl20 : Array (Option Value)} {oc20 kV20 dc20 pm20 cd20 ct20 : Value}
    (a20 : PySem.W.nsIn K mainGlobals "_law_changed" = some (some (.ref f20))) (l20 : K.lookup f20 = some ⟨oc20, od20, .func (PySem.W.fnOf "_law_changed" "_law_changed" (defArgs st__law_changed) (defBody st__law_changed) (defScope st__law_changed) .none kV20 dc20 pm20 an20 cd20 ct20), sl20⟩) (c20 : PySem.W.codeIn K cd20 "_law_changed" = true) (k20 : PySem.W.keepIn K (.ref f20) = true)
    {f21 : Addr} {od21 an21 : Option Addr} {sl21 : Array (Option Value)} {oc21 kV21 dc21 pm21 cd21 ct21 : Value}
    (a21 : PySem.W.nsIn K mainGlobals "_law_part" = some (some (.ref f21))) (l21 : K.lookup f21 = some ⟨oc21, od21, .func (PySem.W.fnOf "_law_part" "_law_part" (defArgs st__law_part) (defBody st__law_part) (defScope st__law_part) .none kV21 dc21 pm21 an21 cd21 ct21), sl21⟩) (c21 : PySem.W.codeIn K cd21 "_law_part" = true) (k21 : PySem.W.keepIn K (.ref f21) = true)
    {f22 : Addr} {od22 an22 : Option Addr} {sl22 : Array (Option Value)} {oc22 kV22 dc22 pm22 cd22 ct22 : Value}
    (a22 : PySem.W.nsIn K mainGlobals "_law_due" = some (some (.ref f22))) (l22 : K.lookup f22 = some ⟨oc22, od22, .func (PySem.W.fnOf "_law_due" "_law_due" (defArgs st__law_due) (defBody st__law_due) (defScope st__law_due) .none kV22 dc22 pm22 an22 cd22 ct22), sl22⟩) (c22 : PySem.W.codeIn K cd22 "_law_due" = true) (k22 : PySem.W.keepIn K (.ref f22) = true)
    {f23 : Addr} {od23 an23 : Option Addr} {sl23 : Array (Option Value)} {oc23 kV23 dc23 pm23 cd23 ct23 : Value}
    (a23 : PySem.W.nsIn K mainGlobals "_law_kind" = some (some (.ref f23))) (l23 : K.lookup f23 = some ⟨oc23, od23, .func (PySem.W.fnOf "_law_kind" "_law_kind" (defArgs st__law_kind) (defBody st__law_kind) (defScope st__law_kind) .none kV23 dc23 pm23 an23 cd23 ct23), sl23⟩) (c23 : PySem.W.codeIn K cd23 "_law_kind" = true) (k23 : PySem.W.keepIn K (.ref f23) = true)
    {f24 : Addr} {od24 an24 : Option Addr} {sl24 : Array (Option Value)} {oc24 kV24 dc24 pm24 cd24 ct24 : Value}
    (a24 : PySem.W.nsIn K mainGlobals "_law_heard" = some (some (.ref f24))) (l24 : K.lookup f24 = some ⟨oc24, od24, .func (PySem.W.fnOf "_law_heard" "_law_heard" (defArgs st__law_heard) (defBody st__law_heard) (defScope st__law_heard) .none kV24 dc24 pm24 an24 cd24 ct24), sl24⟩) (c24 : PySem.W.codeIn K cd24 "_law_heard" = true) (k24 : PySem.W.keepIn K (.ref f24) = true)
    {f25 : Addr} {od25 an25 : Option Addr} {sl25 : Array (Option Value)} {oc25 kV25 dc25 pm25 cd25 ct25 : Value}
    (a25 : PySem.W.nsIn K mainGlobals "_law_rung" = some (some (.ref f25))) (l25 : K.lookup f25 = some ⟨oc25, od25, .func (PySem.W.fnOf "_law_rung" "_law_rung" (defArgs st__law_rung) (defBody st__law_rung) (defScope st__law_rung) .none kV25 dc25 pm25 an25 cd25 ct25), sl25⟩) (c25 : PySem.W.codeIn K cd25 "_law_rung" = true) (k25 : PySem.W.keepIn K (.ref f25) = true)
    {f26 : Addr} {od26 an26 : Option Addr} {sl26 : Array (Option Value)} {oc26 kV26 dc26 pm26 cd26 ct26 : Value}
    (a26 : PySem.W.nsIn K mainGlobals "law" = some (some (.ref f26))) (l26 : K.lookup f26 = some ⟨oc26, od26, .func (PySem.W.fnOf "law" "law" (defArgs st_law) (defBody st_law) (defScope st_law) .none kV26 dc26 pm26 an26 cd26 ct26), sl26⟩) (c26 : PySem.W.codeIn K cd26 "law" = true) (k26 : PySem.W.keepIn K (.ref f26) = true)
    (z_range : PySem.W.nsIn K mainGlobals "range" = some none)
    (z_isinstance : PySem.W.nsIn K mainGlobals "isinstance" = some none)
    (z_int : PySem.W.nsIn K mainGlobals "int" = some none)
    (z_bool : PySem.W.nsIn K mainGlobals "bool" = some none)
    (z_len : PySem.W.nsIn K mainGlobals "len" = some none)
    (z_list : PySem.W.nsIn K mainGlobals "list" = some none)
    (z_max : PySem.W.nsIn K mainGlobals "max" = some none)
    (z_min : PySem.W.nsIn K mainGlobals "min" = some none)
    (z_enumerate : PySem.W.nsIn K mainGlobals "enumerate" = some none)
    (z_sorted : PySem.W.nsIn K mainGlobals "sorted" = some none)
    (z_sum : PySem.W.nsIn K mainGlobals "sum" = some none)
    (z_ValueError : PySem.W.nsIn K mainGlobals "ValueError" = some none)
    {C_BellError : Addr} (m_BellError : PySem.W.nsIn K mainGlobals "BellError" = some (some (.ref C_BellError)))
    {C_NoRow : Addr} (m_NoRow : PySem.W.nsIn K mainGlobals "NoRow" = some (some (.ref C_NoRow)))
    {C_NoReading : Addr} (m_NoReading : PySem.W.nsIn K mainGlobals "NoReading" = some (some (.ref C_NoReading)))
    {C_TooGreat : Addr} (m_TooGreat : PySem.W.nsIn K mainGlobals "TooGreat" = some (some (.ref C_TooGreat)))
    {C_TooMany : Addr} (m_TooMany : PySem.W.nsIn K mainGlobals "TooMany" = some (some (.ref C_TooMany)))
    {C_NoNote : Addr} (m_NoNote : PySem.W.nsIn K mainGlobals "NoNote" = some (some (.ref C_NoNote)))
    (x_BellError : PySem.W.excIn K C_BellError bmV "ValueError.__new__" = true)
    (x_NoRow : PySem.W.excIn K C_NoRow bmV "ValueError.__new__" = true)
    (x_NoReading : PySem.W.excIn K C_NoReading bmV "ValueError.__new__" = true)
    (x_TooGreat : PySem.W.excIn K C_TooGreat bmV "ValueError.__new__" = true)
    (r_mroNoRow : PySem.W.mroIn K C_NoRow (.ref C_BellError) = some true)
    (r_gaNoRow : PySem.W.findIn K (.ref C_NoRow) "__getattribute__" = some (some (.builtin "BaseException.__getattribute__")))
    (r_hkNoRow : PySem.W.findIn K (.ref C_NoRow) "__getattr__" = some none)
    (r_clNoRow : PySem.W.findIn K (.ref C_NoRow) "__class__" = some (some (.builtin "object.__class__")))
    (r_moNoRow : PySem.W.mroIn K C_NoRow (.type "object") = some true)
    (r_mbNoRow : PySem.W.mroIn K C_NoRow (.type "BaseException") = some true)
    (i_NoRow_NoReading : PySem.W.kitOne K (.ref C_NoRow) (.ref C_NoReading) = some false)
    (i_NoRow_NoRow : PySem.W.kitOne K (.ref C_NoRow) (.ref C_NoRow) = some true)
    (i_NoRow_TooGreat : PySem.W.kitOne K (.ref C_NoRow) (.ref C_TooGreat) = some false)
    (i_NoRow_NoNote : PySem.W.kitOne K (.ref C_NoRow) (.ref C_NoNote) = some false)
    (i_NoRow_TooMany : PySem.W.kitOne K (.ref C_NoRow) (.ref C_TooMany) = some false)
    (i_NoRow_V : PySem.W.kitOne K (.ref C_NoRow) (.type "ValueError") = some true)
    (r_mroNoReading : PySem.W.mroIn K C_NoReading (.ref C_BellError) = some true)
    (r_gaNoReading : PySem.W.findIn K (.ref C_NoReading) "__getattribute__" = some (some (.builtin "BaseException.__getattribute__")))
    (r_hkNoReading : PySem.W.findIn K (.ref C_NoReading) "__getattr__" = some none)
    (r_clNoReading : PySem.W.findIn K (.ref C_NoReading) "__class__" = some (some (.builtin "object.__class__")))
    (r_moNoReading : PySem.W.mroIn K C_NoReading (.type "object") = some true)
    (r_mbNoReading : PySem.W.mroIn K C_NoReading (.type "BaseException") = some true)
    (i_NoReading_NoReading : PySem.W.kitOne K (.ref C_NoReading) (.ref C_NoReading) = some true)
    (i_NoReading_NoRow : PySem.W.kitOne K (.ref C_NoReading) (.ref C_NoRow) = some false)
    (i_NoReading_TooGreat : PySem.W.kitOne K (.ref C_NoReading) (.ref C_TooGreat) = some false)
    (i_NoReading_NoNote : PySem.W.kitOne K (.ref C_NoReading) (.ref C_NoNote) = some false)
    (i_NoReading_TooMany : PySem.W.kitOne K (.ref C_NoReading) (.ref C_TooMany) = some false)
    (i_NoReading_V : PySem.W.kitOne K (.ref C_NoReading) (.type "ValueError") = some true)
    (r_mroTooGreat : PySem.W.mroIn K C_TooGreat (.ref C_BellError) = some true)
    (r_gaTooGreat : PySem.W.findIn K (.ref C_TooGreat) "__getattribute__" = some (some (.builtin "BaseException.__getattribute__")))
    (r_hkTooGreat : PySem.W.findIn K (.ref C_TooGreat) "__getattr__" = some none)
    (r_clTooGreat : PySem.W.findIn K (.ref C_TooGreat) "__class__" = some (some (.builtin "object.__class__")))
    (r_moTooGreat : PySem.W.mroIn K C_TooGreat (.type "object") = some true)
    (r_mbTooGreat : PySem.W.mroIn K C_TooGreat (.type "BaseException") = some true)
    (i_TooGreat_NoReading : PySem.W.kitOne K (.ref C_TooGreat) (.ref C_NoReading) = some false)
    (i_TooGreat_NoRow : PySem.W.kitOne K (.ref C_TooGreat) (.ref C_NoRow) = some false)
    (i_TooGreat_TooGreat : PySem.W.kitOne K (.ref C_TooGreat) (.ref C_TooGreat) = some true)
    (i_TooGreat_NoNote : PySem.W.kitOne K (.ref C_TooGreat) (.ref C_NoNote) = some false)
    (i_TooGreat_TooMany : PySem.W.kitOne K (.ref C_TooGreat) (.ref C_TooMany) = some false)
    (i_TooGreat_V : PySem.W.kitOne K (.ref C_TooGreat) (.type "ValueError") = some true)
    (r_gt : PySem.W.specialIn K (.builtin "object.__class__") "__get__" = some (some (.builtin "getset_descriptor.__get__")))
    (r_tk : PySem.W.takesIn K (.builtin "object.__class__") = some true)
    : ∃ fd : FuncData, (∀ (s : Shared) (v : Value), BindsTo s fd ⟨[v], []⟩ [("script", v)]) ∧ ∀ base : Heap, K.In base → base.Ns mainGlobals mg → FnOk l.prog w K mg base CX0 44 fa fd ["script"] (spLaw K) := by
  have e := hfa.symm.trans (PySem.W.mg_of X G a26)
  cases e
  have D_choose : Def K mg "choose" st_choose ["n", "k"] := ⟨f0, _, fun_mk l0 c0 k0, (fun_mk (st := st_choose) l0 c0 k0).binds (ps := ["n", "k"]) (fun _ _ _ _ _ _ us hl => binds_len2 hl fun _ _ => rfl), PySem.W.mg_of X G a0⟩
  have D_top_from : Def K mg "top_from" st_top_from ["start", "k", "number"] := ⟨f1, _, fun_mk l1 c1 k1, (fun_mk (st := st_top_from) l1 c1 k1).binds (ps := ["start", "k", "number"]) (fun _ _ _ _ _ _ us hl => binds_len3 hl fun _ _ _ => rfl), PySem.W.mg_of X G a1⟩
  have D_above_top : Def K mg "above_top" st_above_top ["k", "number"] := ⟨f2, _, fun_mk l2 c2 k2, (fun_mk (st := st_above_top) l2 c2 k2).binds (ps := ["k", "number"]) (fun _ _ _ _ _ _ us hl => binds_len2 hl fun _ _ => rfl), PySem.W.mg_of X G a2⟩
  have D_rounded_up : Def K mg "rounded_up" st_rounded_up ["number", "divisor"] := ⟨f3, _, fun_mk l3 c3 k3, (fun_mk (st := st_rounded_up) l3 c3 k3).binds (ps := ["number", "divisor"]) (fun _ _ _ _ _ _ us hl => binds_len2 hl fun _ _ => rfl), PySem.W.mg_of X G a3⟩
  have D_box_of : Def K mg "box_of" st_box_of ["row", "late"] := ⟨f4, _, fun_mk l4 c4 k4, (fun_mk (st := st_box_of) l4 c4 k4).binds (ps := ["row", "late"]) (fun _ _ _ _ _ _ us hl => binds_len2 hl fun _ _ => rfl), PySem.W.mg_of X G a4⟩
  have D_bell_row : Def K mg "bell_row" st_bell_row ["box", "late"] := ⟨f5, _, fun_mk l5 c5 k5, (fun_mk (st := st_bell_row) l5 c5 k5).binds (ps := ["box", "late"]) (fun _ _ _ _ _ _ us hl => binds_len2 hl fun _ _ => rfl), PySem.W.mg_of X G a5⟩
  have D_heard_box : Def K mg "heard_box" st_heard_box ["reading", "late"] := ⟨f6, _, fun_mk l6 c6 k6, (fun_mk (st := st_heard_box) l6 c6 k6).binds (ps := ["reading", "late"]) (fun _ _ _ _ _ _ us hl => binds_len2 hl fun _ _ => rfl), PySem.W.mg_of X G a6⟩
  have D_box_count : Def K mg "box_count" st_box_count ["turns", "bells", "late"] := ⟨f7, _, fun_mk l7 c7 k7, (fun_mk (st := st_box_count) l7 c7 k7).binds (ps := ["turns", "bells", "late"]) (fun _ _ _ _ _ _ us hl => binds_len3 hl fun _ _ _ => rfl), PySem.W.mg_of X G a7⟩
  have D_greatest_part : Def K mg "greatest_part" st_greatest_part ["turns", "bells", "late"] := ⟨f8, _, fun_mk l8 c8 k8, (fun_mk (st := st_greatest_part) l8 c8 k8).binds (ps := ["turns", "bells", "late"]) (fun _ _ _ _ _ _ us hl => binds_len3 hl fun _ _ _ => rfl), PySem.W.mg_of X G a8⟩
  have D_box_number : Def K mg "box_number" st_box_number ["box"] := ⟨f9, _, fun_mk l9 c9 k9, (fun_mk (st := st_box_number) l9 c9 k9).binds (ps := ["box"]) (fun _ _ _ _ _ _ us hl => binds_len1 hl fun _ => rfl), PySem.W.mg_of X G a9⟩
  have D_box_of_message : Def K mg "box_of_message" st_box_of_message ["message", "bells"] := ⟨f10, _, fun_mk l10 c10 k10, (fun_mk (st := st_box_of_message) l10 c10 k10).binds (ps := ["message", "bells"]) (fun _ _ _ _ _ _ us hl => binds_len2 hl fun _ _ => rfl), PySem.W.mg_of X G a10⟩
  have D_written : Def K mg "written" st_written ["message", "turns", "bells", "late"] := ⟨f11, _, fun_mk l11 c11 k11, (fun_mk (st := st_written) l11 c11 k11).binds (ps := ["message", "turns", "bells", "late"]) (fun _ _ _ _ _ _ us hl => binds_len4 hl fun _ _ _ _ => rfl), PySem.W.mg_of X G a11⟩
  have D_read : Def K mg "read" st_read ["reading", "turns", "bells", "late"] := ⟨f12, _, fun_mk l12 c12 k12, (fun_mk (st := st_read) l12 c12 k12).binds (ps := ["reading", "turns", "bells", "late"]) (fun _ _ _ _ _ _ us hl => binds_len4 hl fun _ _ _ _ => rfl), PySem.W.mg_of X G a12⟩
  have D_refuse_silent : Def K mg "refuse_silent" st_refuse_silent ["turns", "bells"] := ⟨f13, _, fun_mk l13 c13 k13, (fun_mk (st := st_refuse_silent) l13 c13 k13).binds (ps := ["turns", "bells"]) (fun _ _ _ _ _ _ us hl => binds_len2 hl fun _ _ => rfl), PySem.W.mg_of X G a13⟩
  have D_rung : Def K mg "rung" st_rung ["messages", "turns", "bells", "late"] := ⟨f14, _, fun_mk l14 c14 k14, (fun_mk (st := st_rung) l14 c14 k14).binds (ps := ["messages", "turns", "bells", "late"]) (fun _ _ _ _ _ _ us hl => binds_len4 hl fun _ _ _ _ => rfl), PySem.W.mg_of X G a14⟩
  have D_by_messages : Def K mg "by_messages" st_by_messages ["reading", "turns", "late"] := ⟨f15, _, fun_mk l15 c15 k15, (fun_mk (st := st_by_messages) l15 c15 k15).binds (ps := ["reading", "turns", "late"]) (fun _ _ _ _ _ _ us hl => binds_len3 hl fun _ _ _ => rfl), PySem.W.mg_of X G a15⟩
  have D_talk_heard : Def K mg "talk_heard" st_talk_heard ["reading", "many", "turns", "bells", "late"] := ⟨f16, _, fun_mk l16 c16 k16, (fun_mk (st := st_talk_heard) l16 c16 k16).binds (ps := ["reading", "many", "turns", "bells", "late"]) (fun _ _ _ _ _ _ us hl => binds_len5 hl fun _ _ _ _ _ => rfl), PySem.W.mg_of X G a16⟩
  have D__law_cell_at : Def K mg "_law_cell_at" st__law_cell_at ["script", "k"] := ⟨f17, _, fun_mk l17 c17 k17, (fun_mk (st := st__law_cell_at) l17 c17 k17).binds (ps := ["script", "k"]) (fun _ _ _ _ _ _ us hl => binds_len2 hl fun _ _ => rfl), PySem.W.mg_of X G a17⟩
  have D__law_drawn : Def K mg "_law_drawn" st__law_drawn ["cell", "k"] := ⟨f18, _, fun_mk l18 c18 k18, (fun_mk (st := st__law_drawn) l18 c18 k18).binds (ps := ["cell", "k"]) (fun _ _ _ _ _ _ us hl => binds_len2 hl fun _ _ => rfl), PySem.W.mg_of X G a18⟩
  have D__law_frame : Def K mg "_law_frame" st__law_frame ["cell"] := ⟨f19, _, fun_mk l19 c19 k19, (fun_mk (st := st__law_frame) l19 c19 k19).binds (ps := ["cell"]) (fun _ _ _ _ _ _ us hl => binds_len1 hl fun _ => rfl), PySem.W.mg_of X G a19⟩
  have D__law_changed : Def K mg "_law_changed" st__law_changed ["script", "talk", "frame", "many"] := ⟨f20, _, fun_mk l20 c20 k20, (fun_mk (st := st__law_changed) l20 c20 k20).binds (ps := ["script", "talk", "frame", "many"]) (fun _ _ _ _ _ _ us hl => binds_len4 hl fun _ _ _ _ => rfl), PySem.W.mg_of X G a20⟩
  have D__law_part : Def K mg "_law_part" st__law_part ["part", "frame"] := ⟨f21, _, fun_mk l21 c21 k21, (fun_mk (st := st__law_part) l21 c21 k21).binds (ps := ["part", "frame"]) (fun _ _ _ _ _ _ us hl => binds_len2 hl fun _ _ => rfl), PySem.W.mg_of X G a21⟩
  have D__law_due : Def K mg "_law_due" st__law_due ["reading", "many", "frame"] := ⟨f22, _, fun_mk l22 c22 k22, (fun_mk (st := st__law_due) l22 c22 k22).binds (ps := ["reading", "many", "frame"]) (fun _ _ _ _ _ _ us hl => binds_len3 hl fun _ _ _ => rfl), PySem.W.mg_of X G a22⟩
  have D__law_kind : Def K mg "_law_kind" st__law_kind ["e"] := ⟨f23, _, fun_mk l23 c23 k23, (fun_mk (st := st__law_kind) l23 c23 k23).binds (ps := ["e"]) (fun _ _ _ _ _ _ us hl => binds_len1 hl fun _ => rfl), PySem.W.mg_of X G a23⟩
  have D__law_heard : Def K mg "_law_heard" st__law_heard ["reading", "many", "frame"] := ⟨f24, _, fun_mk l24 c24 k24, (fun_mk (st := st__law_heard) l24 c24 k24).binds (ps := ["reading", "many", "frame"]) (fun _ _ _ _ _ _ us hl => binds_len3 hl fun _ _ _ => rfl), PySem.W.mg_of X G a24⟩
  have D__law_rung : Def K mg "_law_rung" st__law_rung ["messages", "turns", "bells", "late"] := ⟨f25, _, fun_mk l25 c25 k25, (fun_mk (st := st__law_rung) l25 c25 k25).binds (ps := ["messages", "turns", "bells", "late"]) (fun _ _ _ _ _ _ us hl => binds_len4 hl fun _ _ _ _ => rfl), PySem.W.mg_of X G a25⟩
  have T : Txt K mg := ⟨PySem.W.mg_none_of X G z_range, PySem.W.mg_none_of X G z_isinstance, PySem.W.mg_none_of X G z_int, PySem.W.mg_none_of X G z_bool, PySem.W.mg_none_of X G z_len, PySem.W.mg_none_of X G z_list, PySem.W.mg_none_of X G z_max, PySem.W.mg_none_of X G z_min, PySem.W.mg_none_of X G z_enumerate, PySem.W.mg_none_of X G z_sorted, PySem.W.mg_none_of X G z_sum, PySem.W.mg_none_of X G z_ValueError⟩
  exact ⟨PySem.W.fnOf "law" "law" (defArgs st_law) (defBody st_law) (defScope st_law) .none kV26 dc26 pm26 an26 cd26 ct26, fun s v => .of_eq rfl, fun base _ _ => ok_law hP (fun_mk l26 c26 k26) T D_choose D_top_from D_above_top D_rounded_up D_box_of D_bell_row D_heard_box D_box_count D_greatest_part D_box_number D_box_of_message D_written D_read D_refuse_silent D_rung D_by_messages D_talk_heard D__law_cell_at D__law_drawn D__law_frame D__law_changed D__law_part D__law_due D__law_kind D__law_heard D__law_rung (PySem.W.mg_of X G m_BellError) (PySem.W.mg_of X G m_NoRow) (PySem.W.mg_of X G m_NoReading) (PySem.W.mg_of X G m_TooGreat) (PySem.W.mg_of X G m_TooMany) (PySem.W.mg_of X G m_NoNote) x_BellError x_NoRow x_NoReading x_TooGreat r_mroNoRow r_gaNoRow r_hkNoRow r_clNoRow r_moNoRow r_mbNoRow i_NoRow_NoReading i_NoRow_NoRow i_NoRow_TooGreat i_NoRow_NoNote i_NoRow_TooMany i_NoRow_V r_mroNoReading r_gaNoReading r_hkNoReading r_clNoReading r_moNoReading r_mbNoReading i_NoReading_NoReading i_NoReading_NoRow i_NoReading_TooGreat i_NoReading_NoNote i_NoReading_TooMany i_NoReading_V r_mroTooGreat r_gaTooGreat r_hkTooGreat r_clTooGreat r_moTooGreat r_mbTooGreat i_TooGreat_NoReading i_TooGreat_NoRow i_TooGreat_TooGreat i_TooGreat_NoNote i_TooGreat_TooMany i_TooGreat_V r_gt r_tk⟩
theorem walk {l : PySem.W.OpenLaw} {q : Program} {loose : List Str} {XP : (Str → Option Value) → Heap → Prop} {YP : World → Heap → Prop} {d : DefRec} {K : Params → PySem.W.Frag} (hn : l.most = some 63) (hdf : d.params.defaults = []) (hq : PyProof.Rows.importsNone q = true)
    (hY : ∀ (w : World) (h : Heap), YP w h → (K w.params).In h)
    (F : ∀ (w : World) (mg : Str → Option Value) (fa : Addr) (h : Heap), (K w.params).In h → h.Ns mainGlobals mg → mg d.name = some (.ref fa) →
      ∃ fd : FuncData, (∀ (s : Shared) (u : Value), BindsTo s fd ⟨[u], []⟩ [("script", u)]) ∧ ∀ base : Heap, (K w.params).In base → base.Ns mainGlobals mg → FnOk l.prog w (K w.params) mg base CX0 44 fa fd ["script"] (spLaw (K w.params))) :
    PySem.W.WalkO q loose XP YP l.row.toRowW d [] (fun f vs => PySem.call f vs) :=
  L2.walk_of (n := 63) (k := 44) (x := "script") (CX := fun _ => CX0) (sp := fun w => spLaw (K w.params)) hn (by decide) hdf hq ⟨rfl, by decide, by decide⟩ hY F (fun _ _ a ns hl hbt _ hS => ⟨a, ns, rfl, hS, hl, fun _ => rfl⟩) fun _ _ _ _ _ z => z
end Bw
open PySem PySem.W PyProof.Rows
set_option maxRecDepth 100000 in
set_option maxHeartbeats 0 in
theorem PySem.Challenge.cw_bellwrite_k63_talks_refused_holds : PySem.Challenge.rw_bellwrite_k63_talks_refused.Holds := by
  w_on; o_law; k_head; (case hw => w_witness2)
  k_fill
  refine Bw.walk (l := PySem.Challenge.rw_bellwrite_k63_talks_refused) rfl rfl (by decide +kernel) (fun w h Y => PySem.W.kIn_of Y) ?F
  case F =>
    intro w mg fa h KX G hmg
    refine' Bw.all_mk (l := PySem.Challenge.rw_bellwrite_k63_talks_refused) rfl KX G hmg ?a0 ?l0 ?c0 ?k0 ?a1 ?l1 ?c1 ?k1 ?a2 ?l2 ?c2 ?k2 ?a3 ?l3 ?c3 ?k3 ?a4 ?l4 ?c4 ?k4 ?a5 ?l5 ?c5 ?k5 ?a6 ?l6 ?c6 ?k6 ?a7 ?l7 ?c7 ?k7 ?a8 ?l8 ?c8 ?k8 ?a9 ?l9 ?c9 ?k9 ?a10 ?l10 ?c10 ?k10 ?a11 ?l11 ?c11 ?k11 ?a12 ?l12 ?c12 ?k12 ?a13 ?l13 ?c13 ?k13 ?a14 ?l14 ?c14 ?k14 ?a15 ?l15 ?c15 ?k15 ?a16 ?l16 ?c16 ?k16 ?a17 ?l17 ?c17 ?k17 ?a18 ?l18 ?c18 ?k18 ?a19 ?l19 ?c19 ?k19 ?a20 ?l20 ?c20 ?k20 ?a21 ?l21 ?c21 ?k21 ?a22 ?l22 ?c22 ?k22 ?a23 ?l23 ?c23 ?k23 ?a24 ?l24 ?c24 ?k24 ?a25 ?l25 ?c25 ?k25 ?a26 ?l26 ?c26 ?k26 ?z_range ?z_isinstance ?z_int ?z_bool ?z_len ?z_list ?z_max ?z_min ?z_enumerate ?z_sorted ?z_sum ?z_ValueError ?m_BellError ?m_NoRow ?m_NoReading ?m_TooGreat ?m_TooMany ?m_NoNote ?x_BellError ?x_NoRow ?x_NoReading ?x_TooGreat ?r_mroNoRow ?r_gaNoRow ?r_hkNoRow ?r_clNoRow ?r_moNoRow ?r_mbNoRow ?i_NoRow_NoReading ?i_NoRow_NoRow ?i_NoRow_TooGreat ?i_NoRow_NoNote ?i_NoRow_TooMany ?i_NoRow_V ?r_mroNoReading ?r_gaNoReading ?r_hkNoReading ?r_clNoReading ?r_moNoReading ?r_mbNoReading ?i_NoReading_NoReading ?i_NoReading_NoRow ?i_NoReading_TooGreat ?i_NoReading_NoNote ?i_NoReading_TooMany ?i_NoReading_V ?r_mroTooGreat ?r_gaTooGreat ?r_hkTooGreat ?r_clTooGreat ?r_moTooGreat ?r_mbTooGreat ?i_TooGreat_NoReading ?i_TooGreat_NoRow ?i_TooGreat_TooGreat ?i_TooGreat_NoNote ?i_TooGreat_TooMany ?i_TooGreat_V ?r_gt ?r_tk
    (case a0 => k_is)
    (case l0 => k_is)
    (case c0 => k_is)
    (case k0 => k_is)
    (case a1 => k_is)
    (case l1 => k_is)
    (case c1 => k_is)
    (case k1 => k_is)
    (case a2 => k_is)
    (case l2 => k_is)
    (case c2 => k_is)
    (case k2 => k_is)
    (case a3 => k_is)
    (case l3 => k_is)
    (case c3 => k_is)
    (case k3 => k_is)
    (case a4 => k_is)
    (case l4 => k_is)
    (case c4 => k_is)
    (case k4 => k_is)
    (case a5 => k_is)
    (case l5 => k_is)
    (case c5 => k_is)
    (case k5 => k_is)
    (case a6 => k_is)
    (case l6 => k_is)
    (case c6 => k_is)
    (case k6 => k_is)
    (case a7 => k_is)
    (case l7 => k_is)
    (case c7 => k_is)
    (case k7 => k_is)
    (case a8 => k_is)
    (case l8 => k_is)
    (case c8 => k_is)
    (case k8 => k_is)
    (case a9 => k_is)
    (case l9 => k_is)
    (case c9 => k_is)
    (case k9 => k_is)
    (case a10 => k_is)
    (case l10 => k_is)
    (case c10 => k_is)
    (case k10 => k_is)
    (case a11 => k_is)
    (case l11 => k_is)
    (case c11 => k_is)
    (case k11 => k_is)
    (case a12 => k_is)
    (case l12 => k_is)
    (case c12 => k_is)
    (case k12 => k_is)
    (case a13 => k_is)
    (case l13 => k_is)
    (case c13 => k_is)
    (case k13 => k_is)
    (case a14 => k_is)
    (case l14 => k_is)
    (case c14 => k_is)
    (case k14 => k_is)
    (case a15 => k_is)
    (case l15 => k_is)
    (case c15 => k_is)
    (case k15 => k_is)
    (case a16 => k_is)
    (case l16 => k_is)
    (case c16 => k_is)
    (case k16 => k_is)
    (case a17 => k_is)
    (case l17 => k_is)
    (case c17 => k_is)
    (case k17 => k_is)
    (case a18 => k_is)
    (case l18 => k_is)
    (case c18 => k_is)
    (case k18 => k_is)
    (case a19 => k_is)
    (case l19 => k_is)
    (case c19 => k_is)
    (case k19 => k_is)
    (case a20 => k_is)
    (case l20 => k_is)
    (case c20 => k_is)
    (case k20 => k_is)
    (case a21 => k_is)
    (case l21 => k_is)
    (case c21 => k_is)
    (case k21 => k_is)
    (case a22 => k_is)
    (case l22 => k_is)
    (case c22 => k_is)
    (case k22 => k_is)
    (case a23 => k_is)
    (case l23 => k_is)
    (case c23 => k_is)
    (case k23 => k_is)
    (case a24 => k_is)
    (case l24 => k_is)
    (case c24 => k_is)
    (case k24 => k_is)
    (case a25 => k_is)
    (case l25 => k_is)
    (case c25 => k_is)
    (case k25 => k_is)
    (case a26 => k_is)
    (case l26 => k_is)
    (case c26 => k_is)
    (case k26 => k_is)
    (case z_range => k_is)
    (case z_isinstance => k_is)
    (case z_int => k_is)
    (case z_bool => k_is)
    (case z_len => k_is)
    (case z_list => k_is)
    (case z_max => k_is)
    (case z_min => k_is)
    (case z_enumerate => k_is)
    (case z_sorted => k_is)
    (case z_sum => k_is)
    (case z_ValueError => k_is)
    (case m_BellError => k_is)
    (case m_NoRow => k_is)
    (case m_NoReading => k_is)
    (case m_TooGreat => k_is)
    (case m_TooMany => k_is)
    (case m_NoNote => k_is)
    (case x_BellError => k_exc)
    (case x_NoRow => k_exc)
    (case x_NoReading => k_exc)
    (case x_TooGreat => k_exc)
    (case r_mroNoRow => k_is)
    (case r_gaNoRow => k_is)
    (case r_hkNoRow => k_is)
    (case r_clNoRow => k_is)
    (case r_moNoRow => k_is)
    (case r_mbNoRow => k_is)
    (case i_NoRow_NoReading => kit_is)
    (case i_NoRow_NoRow => kit_is)
    (case i_NoRow_TooGreat => kit_is)
    (case i_NoRow_NoNote => kit_is)
    (case i_NoRow_TooMany => kit_is)
    (case i_NoRow_V => kit_is)
    (case r_mroNoReading => k_is)
    (case r_gaNoReading => k_is)
    (case r_hkNoReading => k_is)
    (case r_clNoReading => k_is)
    (case r_moNoReading => k_is)
    (case r_mbNoReading => k_is)
    (case i_NoReading_NoReading => kit_is)
    (case i_NoReading_NoRow => kit_is)
    (case i_NoReading_TooGreat => kit_is)
    (case i_NoReading_NoNote => kit_is)
    (case i_NoReading_TooMany => kit_is)
    (case i_NoReading_V => kit_is)
    (case r_mroTooGreat => k_is)
    (case r_gaTooGreat => k_is)
    (case r_hkTooGreat => k_is)
    (case r_clTooGreat => k_is)
    (case r_moTooGreat => k_is)
    (case r_mbTooGreat => k_is)
    (case i_TooGreat_NoReading => kit_is)
    (case i_TooGreat_NoRow => kit_is)
    (case i_TooGreat_TooGreat => kit_is)
    (case i_TooGreat_NoNote => kit_is)
    (case i_TooGreat_TooMany => kit_is)
    (case i_TooGreat_V => kit_is)
    (case r_gt => k_is)
    (case r_tk => k_is)