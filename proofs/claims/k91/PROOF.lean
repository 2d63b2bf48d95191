import PyProof.Rows.All
import Wide.All
import OpenK.AllK
import Wide.FinOn
import Lean
import PyProof.EqAt
import PyProof.EqKinds
import PyProof.TupleCall
import KE.IntBitsLaws
import PySem.Challenge.RW_bellwrite_k91_whole_heard_alike
set_option Elab.async false
set_option linter.all false
set_option maxRecDepth 100000
set_option maxHeartbeats 4000000
set_option genSizeOf false
namespace L2
open PySem PySem.Spec PyProof.Rows
abbrev Key := Sum Int Str
noncomputable def keyIs : Key → Value → Bool
  | .inl k, v => Value.isInt k v
  | .inr x, v => Value.isStrOf x v
noncomputable def keyH (w : World) : Key → Int
  | .inl k => hashInt k
  | .inr x => hashStr w x
theorem keyIs_shape : ∀ {k : Key} {v : Value}, keyIs k v = true → (∃ i t, k = Sum.inl i ∧ v = Value.int i t) ∨ (∃ x t, k = Sum.inr x ∧ v = Value.str x t)
  | .inl i, v, h => by
    obtain ⟨t, e⟩ := Value.isInt_shape (k := i) (v := v) h
    exact .inl ⟨i, t, rfl, e⟩
  | .inr x, v, h => by
    obtain ⟨t, e⟩ := Value.isStrOf_shape (x := x) (v := v) h
    exact .inr ⟨x, t, rfl, e⟩
theorem keyIs_int (i : Int) (t : Tok) : keyIs (.inl i) (.int i t) = true := by simp [keyIs, Value.isInt]
theorem keyIs_str (x : Str) (t : Tok) : keyIs (.inr x) (.str x t) = true := by simp [keyIs, Value.isStrOf]
theorem key_ll (a b : Int) : decide ((Sum.inl a : Key) = Sum.inl b) = (a == b) := by
  by_cases e : a = b
  · subst e; simp
  · have h : ¬ (Sum.inl a : Key) = Sum.inl b := fun q => e (Sum.inl.inj q)
    rw [decide_eq_false h]
    exact (beq_eq_false_iff_ne.mpr e).symm
theorem key_rr (a b : Str) : decide ((Sum.inr a : Key) = Sum.inr b) = decide (a = b) := by
  by_cases e : a = b
  · subst e; simp
  · have h : ¬ (Sum.inr a : Key) = Sum.inr b := fun q => e (Sum.inr.inj q)
    rw [decide_eq_false h, decide_eq_false e]
theorem key_lr (a : Int) (b : Str) : decide ((Sum.inl a : Key) = Sum.inr b) = false := decide_eq_false (fun q => nomatch q)
theorem key_rl (a : Str) (b : Int) : decide ((Sum.inr a : Key) = Sum.inl b) = false := decide_eq_false (fun q => nomatch q)
noncomputable def mixKind (prog : Program) (w : World) : PySem.KeyKind prog w Key where
  is := keyIs
  hash := keyH w
  inj := fun v a b ha hb => by
    rcases keyIs_shape ha with ⟨i, t, rfl, rfl⟩ | ⟨x, t, rfl, rfl⟩
    · rcases keyIs_shape hb with ⟨j, u, rfl, e⟩ | ⟨y, u, rfl, e⟩
      · injection e with e1 _; rw [e1]
      · exact nomatch e
    · rcases keyIs_shape hb with ⟨j, u, rfl, e⟩ | ⟨y, u, rfl, e⟩
      · exact nomatch e
      · injection e with e1 _; rw [e1]
  byValue := fun k v h => by
    rcases keyIs_shape h with ⟨i, t, rfl, rfl⟩ | ⟨x, t, rfl, rfl⟩ <;> rfl
  pyHash := fun hv h => by
    rcases keyIs_shape hv with ⟨i, t, rfl, rfl⟩ | ⟨x, t, rfl, rfl⟩
    · exact wpAny_pyHash_int h
    · exact wpAny_pyHash_str h
  eqBool := fun hu hv h => by
    rcases keyIs_shape hu with ⟨i, t, rfl, rfl⟩ | ⟨x, t, rfl, rfl⟩
    · rcases keyIs_shape hv with ⟨j, u, rfl, rfl⟩ | ⟨y, u, rfl, rfl⟩
      · rw [key_ll] at h; exact wpAny_eqBool_int h
      · rw [key_lr] at h; exact SeqAt.EqAt.int_str i t y u _ _ _ _ h
    · rcases keyIs_shape hv with ⟨j, u, rfl, rfl⟩ | ⟨y, u, rfl, rfl⟩
      · rw [key_rl] at h; exact SeqAt.EqAt.str_int x t j u _ _ _ _ h
      · rw [key_rr] at h; exact wpAny_eqBool_str h
  «strs» := fun k x t v h => by
    rcases keyIs_shape h with ⟨i, u, rfl, e⟩ | ⟨y, u, rfl, e⟩
    · exact nomatch e
    · injection e with e1 _
      subst e1
      cases v <;> rfl
theorem mixKind_int (prog : Program) (w : World) (i : Int) (t : Tok) : (mixKind prog w).is (.inl i) (.int i t) = true := keyIs_int i t
theorem mixKind_str (prog : Program) (w : World) (x : Str) (t : Tok) : (mixKind prog w).is (.inr x) (.str x t) = true := keyIs_str x t
end L2
namespace L2
open PySem PySem.Spec PyProof.Rows
inductive V where
  | non | bl (b : Bool) | int (i : Int) | str (x : Str) | byt (b : Array UInt8) | flt (b : UInt64) | ref (a : Addr) | ty (n : String)
  deriving DecidableEq
set_option genInjectivity false
noncomputable def RelV : V → Value → Prop
  | .non, u => u = Value.none
  | .bl b, u => u = Value.bool b
  | .int i, u => ∃ t, u = Value.int i t
  | .str x, u => ∃ t, u = Value.str x t
  | .byt b, u => ∃ t, u = Value.bytes b t
  | .flt b, u => ∃ t, u = Value.float b t
  | .ref a, u => u = Value.ref a
  | .ty n, u => u = Value.type n
abbrev Vals : List V → List Value → Prop := Paired RelV
theorem Vals.length {xs : List V} {us : List Value} (r : Vals xs us) : xs.length = us.length := Paired.length r
theorem Vals.get : ∀ {xs : List V} {us : List Value} {i : Nat} {x : V}, Vals xs us → xs[i]? = some x → ∃ u, us[i]? = some u ∧ RelV x u
  | _, _, _, _, .nil, e => by simp at e
  | _, _, 0, _, .cons r _, e => by simp at e; subst e; exact ⟨_, rfl, r⟩
  | _, _, i + 1, x, .cons _ t, e => by
    obtain ⟨u, h1, h2⟩ := Vals.get (i := i) (x := x) t (by simpa using e)
    exact ⟨u, by simpa using h1, h2⟩
theorem Vals.set {x : V} {u : Value} (r : RelV x u) : ∀ {xs : List V} {us : List Value} (i : Nat), Vals xs us → Vals (xs.set i x) (us.set i u)
  | _, _, _, .nil => .nil
  | _, _, 0, .cons _ t => .cons r t
  | _, _, i + 1, .cons q t => .cons q (Vals.set r i t)
theorem Vals.append : ∀ {xs ys : List V} {us ws : List Value}, Vals xs us → Vals ys ws → Vals (xs ++ ys) (us ++ ws)
  | _, _, _, _, .nil, s => s
  | _, _, _, _, .cons r t, s => .cons r (Vals.append t s)
theorem Vals.take : ∀ {xs : List V} {us : List Value} (n : Nat), Vals xs us → Vals (xs.take n) (us.take n)
  | _, _, 0, _ => .nil
  | _, _, _ + 1, .nil => .nil
  | _, _, n + 1, .cons r t => .cons r (Vals.take n t)
theorem Vals.drop : ∀ {xs : List V} {us : List Value} (n : Nat), Vals xs us → Vals (xs.drop n) (us.drop n)
  | _, _, 0, r => r
  | _, _, _ + 1, .nil => .nil
  | _, _, n + 1, .cons _ t => Vals.drop n t
noncomputable def RelO : Option V → Option Value → Prop
  | some v, some u => RelV v u
  | none, none => True
  | _, _ => False
noncomputable def KV {κ : Type} : List (κ × V) → List (κ × Value) → Prop := Paired fun (p : κ × V) (q : κ × Value) => p.1 = q.1 ∧ RelV p.2 q.2
noncomputable def kV : Key → V
  | .inl i => .int i
  | .inr x => .str x
inductive HO where
  | lst (xs : List V)
  | tup (xs : List V)
  | dK (kvs : List (Key × V)) | dT (kvs : List (List Key × V))
  | set (S : Int → Bool) (n : Nat)
  | ins (C dx : Addr) (fs : List (Str × V))
  | own (x : Addr)
  | xd (fs : List (Str × V))
  | met (f x : Addr)
  | rng (lo hi : Int)
  | frz (o : Obj) (u : HO)
  | tbl (ps : Array Value)
  | ext (φ : Heap → Prop)
abbrev Hp := Addr → Option HO
noncomputable def upd (H : Hp) (a : Addr) (o : HO) : Hp := fun b => if b = a then some o else H b
theorem upd_same {H : Hp} {a : Addr} {o : HO} : upd H a o a = some o := by unfold upd; rw [if_pos rfl]
theorem upd_ne {H : Hp} {a b : Addr} {o : HO} (h : b ≠ a) : upd H a o b = H b := by unfold upd; rw [if_neg h]
theorem upd_upd {H : Hp} {a : Addr} {o u : HO} : upd (upd H a o) a u = upd H a u := by
  funext b; unfold upd; split <;> rfl
theorem ne_of_none {H : Hp} {a b : Addr} {o : HO} (h : H a = some o) (h' : H b = none) : a ≠ b := by
  intro e; subst e; rw [h] at h'; cases h'
section
variable (P : Program) (w : World)
noncomputable def ObjOk (H : Hp) (h : Heap) (a : Addr) : HO → Prop
  | .lst xs => xs.length ≤ sizeLine ∧ ∃ (its : List Value) (n : Nat), Vals xs its ∧ h.get? a = some { cls := .type "list", data := .seq its.toArray n }
  | .tup xs => xs.length ≤ sizeLine ∧ ∃ its : List Value, Vals xs its ∧ IsTup h a its.toArray
  | .dK kvs => kvs.length ≤ sizeLine ∧ (a == sysModules) = false ∧ ∃ vs, KV kvs vs ∧ h.DictOf (mixKind P w) a vs
  | .dT kvs => kvs.length ≤ sizeLine ∧ (a == sysModules) = false ∧ ∃ xs : List (List Key × Addr × Value),
      Paired (fun (p : List Key × V) (q : List Key × Addr × Value) => p.1 = q.1 ∧ H q.2.1 = some (.tup (p.1.map kV)) ∧ RelV p.2 q.2.2) kvs xs ∧
      ∃ o es ep, h.get? a = some o ∧ o.ExactDict ∧ o.data = .dict es ep ∧ es.toList = xs.map (entryOfKey (tupleKind (mixKind P w))) ∧ (xs.map (·.1)).Nodup
  | .set S n => h.SetOf (intKind P w) a S n
  | .ins C dx fs => H dx = some (.own a) ∧ fs.length ≤ 1000 ∧ dx ≠ a ∧ h.get? a = some (PySem.W.instObj C dx) ∧
      ∃ mA, h.Ns1 dx mA ∧ (∀ f, RelO (fs.lookup f) (mA f)) ∧ PySem.Within mA (fs.map (·.1))
  | .own _ => ∃ o, h.get? a = some o
  | .xd fs => ∃ mA, h.Ns1 a mA ∧ ∀ f, RelO (fs.lookup f) (mA f)
  | .rng lo hi => ∃ t u v, h.get? a = some { cls := .type "range", data := .fields #[.int lo t, .int hi u, .int 1 v] }
  | .frz o u => h.get? a = some o ∧ ObjOk H h a u
  | .tbl ps => h.get? a = some { cls := .none, data := .fields ps }
  | .met f x => h.get? a = some (PySem.W.methodObj (.ref f) (.ref x))
  | .ext φ => φ h ∧ (∃ o, h.get? a = some o) ∧ ∀ h1 h2 : Heap, φ h1 → (∀ o, h1.get? a = some o → h2.get? a = some o) → φ h2
noncomputable def HOk (H : Hp) (h : Heap) : Prop := ∀ a o, H a = some o → ObjOk P w H h a o
end
section
variable {P : Program} {w : World} {H H' : Hp} {h h' : Heap} {a : Addr} {o : HO}
theorem ObjOk.lt (x : ObjOk P w H h a o) : a < h.objs.size := by
  cases o with
  | lst xs => obtain ⟨_, _, _, _, e⟩ := x; exact Heap.lt_size e
  | tup xs => obtain ⟨_, _, _, p⟩ := x; exact p.lt
  | dK kvs => obtain ⟨_, _, _, _, o, _, _, e, _⟩ := x; exact Heap.lt_size e
  | dT kvs => obtain ⟨_, _, _, _, o, _, _, e, _⟩ := x; exact Heap.lt_size e
  | set S n => obtain ⟨o, _, _, _, e, _⟩ := x; exact Heap.lt_size e
  | ins C dx fs => obtain ⟨_, _, _, e, _⟩ := x; exact Heap.lt_size e
  | own y => obtain ⟨_, e⟩ := x; exact Heap.lt_size e
  | xd fs => obtain ⟨_, ⟨_, _, _, e, _⟩, _⟩ := x; exact Heap.lt_size e
  | rng lo hi => obtain ⟨_, _, _, e⟩ := x; exact Heap.lt_size e
  | frz ob u => obtain ⟨e, _⟩ := x; exact Heap.lt_size e
  | tbl ps => exact Heap.lt_size (show h.get? a = some _ from x)
  | met f y => exact Heap.lt_size (show h.get? a = some _ from x)
  | ext φ => obtain ⟨_, ⟨_, e⟩, _⟩ := x; exact Heap.lt_size e
theorem Paired.mapP {α β : Type} {F G : α → β → Prop} : ∀ {l₁ : List α} {l₂ : List β}, Paired F l₁ l₂ → (∀ a b, F a b → G a b) → Paired G l₁ l₂
  | _, _, .nil, _ => .nil
  | _, _, .cons r t, f => .cons (f _ _ r) (Paired.mapP t f)
theorem ObjOk.stay (x : ObjOk P w H h a o) (k : ∀ b u, (b = a ∨ H b = some (.own a)) → h.get? b = some u → h'.get? b = some u)
    (ho : ∀ b, H b = some (.own a) → H' b = some (.own a)) (ht : ∀ b xs, H b = some (.tup xs) → H' b = some (.tup xs)) : ObjOk P w H' h' a o := by
  induction o with
  | lst xs => obtain ⟨z, its, n, r, e⟩ := x; exact ⟨z, its, n, r, k _ _ (.inl rfl) e⟩
  | tup xs => obtain ⟨z, its, r, ob, e, c⟩ := x; exact ⟨z, its, r, ob, k _ _ (.inl rfl) e, c⟩
  | dK kvs => obtain ⟨z, y, vs, r, ob, es, ep, e, c⟩ := x; exact ⟨z, y, vs, r, ob, es, ep, k _ _ (.inl rfl) e, c⟩
  | dT kvs =>
    obtain ⟨z, y, xs, r, ob, es, ep, e, c⟩ := x
    exact ⟨z, y, xs, Paired.mapP r fun p q z => ⟨z.1, ht _ _ z.2.1, z.2.2⟩, ob, es, ep, k _ _ (.inl rfl) e, c⟩
  | set S n => obtain ⟨ob, es, ep, t, e, c⟩ := x; exact ⟨ob, es, ep, t, k _ _ (.inl rfl) e, c⟩
  | ins C dx fs =>
    obtain ⟨d, z, ne, e, mA, ⟨od, es, ep, e2, c⟩, r⟩ := x
    exact ⟨ho _ d, z, ne, k _ _ (.inl rfl) e, mA, ⟨od, es, ep, k _ _ (.inr d) e2, c⟩, r⟩
  | own y => obtain ⟨ob, e⟩ := x; exact ⟨ob, k _ _ (.inl rfl) e⟩
  | xd fs => obtain ⟨mA, ⟨od, es, ep, e, c⟩, r⟩ := x; exact ⟨mA, ⟨od, es, ep, k _ _ (.inl rfl) e, c⟩, r⟩
  | rng lo hi => obtain ⟨t, u, v, e⟩ := x; exact ⟨t, u, v, k _ _ (.inl rfl) e⟩
  | frz ob u ih => obtain ⟨e, q⟩ := x; exact ⟨k _ _ (.inl rfl) e, ih q⟩
  | tbl ps =>
    have e : h.get? a = some { cls := .none, data := .fields ps } := x
    show h'.get? a = some { cls := .none, data := .fields ps }
    exact k a _ (.inl rfl) e
  | met f y =>
    have e : h.get? a = some (PySem.W.methodObj (.ref f) (.ref y)) := x
    show h'.get? a = some (PySem.W.methodObj (.ref f) (.ref y))
    exact k a _ (.inl rfl) e
  | ext φ => obtain ⟨p, ⟨o, e⟩, st⟩ := x; exact ⟨st _ _ p fun o q => k _ _ (.inl rfl) q, ⟨o, k _ _ (.inl rfl) e⟩, st⟩
theorem HOk.lt (x : HOk P w H h) (e : H a = some o) : a < h.objs.size := (x a o e).lt
theorem HOk.fresh (x : HOk P w H h) (e : h.objs.size ≤ a) : H a = none := by
  cases q : H a with
  | none => rfl
  | some u => exact absurd (Nat.lt_of_lt_of_le (x.lt q) e) (Nat.lt_irrefl _)
theorem HOk.kept (x : HOk P w H h) (k : ∀ b u, h.get? b = some u → h'.get? b = some u) : HOk P w H h' := fun a o e =>
  (x a o e).stay (fun b u _ q => k b u q) (fun _ q => q) fun _ _ q => q
theorem HOk.laid (x : HOk P w H h) (k : ∀ b u, h.get? b = some u → h'.get? b = some u) (hp : h.objs.size ≤ a) (new : ObjOk P w (upd H a o) h' a o) : HOk P w (upd H a o) h' := fun b u e => by
  have hn := x.fresh hp
  by_cases hb : b = a
  · subst hb; rw [upd_same] at e; cases e; exact new
  · rw [upd_ne hb] at e
    exact (x b u e).stay (fun c v _ q => k c v q) (fun c q => by rw [upd_ne (ne_of_none q hn)]; exact q) fun c xs q => by rw [upd_ne (ne_of_none q hn)]; exact q
end
noncomputable def Rd (H : Hp) (a : Addr) (u : HO) : Prop := H a = some u ∨ ∃ o, H a = some (.frz o u)
theorem Rd.ok {P : Program} {w : World} {H : Hp} {h : Heap} {a : Addr} {u : HO} (r : Rd H a u) (x : HOk P w H h) : ObjOk P w H h a u := by
  rcases r with r | ⟨o, r⟩
  · exact x a u r
  · obtain ⟨_, q⟩ := x a _ r
    exact q
noncomputable def Mut : Option HO → Prop
  | some (.lst _) => True
  | some (.dK _) => True
  | some (.dT _) => True
  | some (.set _ _) => True
  | some (.ins _ _ _) => True
  | some (.ext _) => True
  | _ => False
section
variable {P : Program} {w : World} {H : Hp} {h h' : Heap} {x e : Addr} {o' : HO}
theorem HOk.write (ok : HOk P w H h) (mu : Mut (H x)) (he : e = x ∨ H e = some (.own x)) (k : ∀ b u, b ≠ e → h.get? b = some u → h'.get? b = some u) (heo : ∃ u, h'.get? e = some u)
    (new : ObjOk P w (upd H x o') h' x o') : HOk P w (upd H x o') h' := fun b u q => by
  have nown : ∀ c y, H c = some (.own y) → c ≠ x := fun c y r z => by subst z; rw [r] at mu; exact mu
  have ntup : ∀ c xs, H c = some (.tup xs) → c ≠ x := fun c xs r z => by subst z; rw [r] at mu; exact mu
  by_cases hb : b = x
  · subst hb; rw [upd_same] at q; cases q; exact new
  · rw [upd_ne hb] at q
    by_cases hbe : b = e
    · have q' : H b = some (.own x) := by
        rcases he with z | z
        · exact absurd (hbe.trans z) hb
        · rw [hbe]; exact z
      rw [q] at q'; cases q'
      obtain ⟨v, hv⟩ := heo
      exact ⟨v, by rw [hbe]; exact hv⟩
    · refine (ok b u q).stay (fun c v hc r => k c v ?_ r) (fun c r => by rw [upd_ne (nown c b r)]; exact r) fun c xs r => by rw [upd_ne (ntup c xs r)]; exact r
      rcases hc with rfl | hc
      · exact hbe
      · rintro rfl
        rcases he with z | z
        · exact nown c b hc z
        · rw [hc] at z; cases z; exact hb rfl
end
structure Un (fs ex : List Addr) (H H' : Hp) (h h' : Heap) : Prop where
  keep : ∀ b o, h.get? b = some o → H b = none → b ∉ fs → b ∉ ex → h'.get? b = some o
  slot : ∀ b o, h.get? b = some o → H b = none → b ∈ fs → b ∉ ex → ∃ sl, h'.get? b = some { o with slots := sl }
  free : ∀ b o, h.get? b = some o → H b = none → b ∉ ex → H' b = none
  there : ∀ b o, h.get? b = some o → b ∉ ex → ∃ o', h'.get? b = some o'
  tups : ∀ b xs, H b = some (.tup xs) → H' b = some (.tup xs)
  frzs : ∀ b o u, H b = some (.frz o u) → H' b = some (.frz o u)
  tbls : ∀ b ps, H b = some (.tbl ps) → ∃ more, H' b = some (.tbl (ps ++ more))
section
variable {fs fs' ex ex' : List Addr} {H H1 H2 : Hp} {h h1 h2 h' : Heap} {a x e : Addr} {o : HO}
theorem Un.any (u : Un fs ex H H1 h h1) {b : Addr} {ob : Obj} (q : h.get? b = some ob) (n : H b = none) (hx : b ∉ ex) : ∃ sl, h1.get? b = some { ob with slots := sl } := by
  by_cases hb : b ∈ fs
  · exact u.slot b ob q n hb hx
  · exact ⟨ob.slots, u.keep b ob q n hb hx⟩
theorem Un.kept (k : ∀ b u, h.get? b = some u → h'.get? b = some u) : Un fs ex H H h h' :=
  ⟨fun b ob q _ _ _ => k b ob q, fun b ob q _ _ _ => ⟨ob.slots, k b ob q⟩, fun _ _ _ n _ => n, fun b ob q _ => ⟨ob, k b ob q⟩, fun _ _ q => q, fun _ _ _ q => q, fun _ ps q => ⟨#[], by rw [q]; simp⟩⟩
theorem Un.refl : Un fs ex H H h h := Un.kept fun _ _ q => q
theorem Un.laid (k : ∀ b u, h.get? b = some u → h'.get? b = some u) (hp : h.objs.size ≤ a) (hn : H a = none) : Un fs ex H (upd H a o) h h' where
  keep := fun b u q _ _ _ => k b u q
  slot := fun b u q _ _ _ => ⟨u.slots, k b u q⟩
  free := fun b u q n _ => by rw [upd_ne (Nat.ne_of_lt (Nat.lt_of_lt_of_le (Heap.lt_size q) hp))]; exact n
  there := fun b u q _ => ⟨u, k b u q⟩
  tups := fun b xs q => by rw [upd_ne (ne_of_none q hn)]; exact q
  frzs := fun b u xs q => by rw [upd_ne (ne_of_none q hn)]; exact q
  tbls := fun b ps q => ⟨#[], by rw [upd_ne (ne_of_none q hn), q]; simp⟩
theorem Un.write (mu : Mut (H x)) (he : e = x ∨ H e = some (.own x)) (k : ∀ b u, b ≠ e → h.get? b = some u → h'.get? b = some u) (heo : ∃ u, h'.get? e = some u) : Un fs ex H (upd H x o) h h' := by
  have hx : ∀ b, H b = none → b ≠ x := fun b n z => by subst z; rw [n] at mu; exact mu
  have hb : ∀ b, H b = none → b ≠ e := fun b n z => by
    subst z
    rcases he with r | r
    · exact hx b n r
    · rw [n] at r; cases r
  have hm : ∀ b u, H b = some u → ¬ Mut (some u) → b ≠ x := fun b u q nm z => by subst z; rw [q] at mu; exact nm mu
  refine ⟨fun b u q n _ _ => k b u (hb b n) q, fun b u q n _ _ => ⟨u.slots, k b u (hb b n) q⟩, fun b u q n _ => by rw [upd_ne (hx b n)]; exact n, fun b u q _ => ?_,
    fun b xs q => by rw [upd_ne (hm b _ q fun z => z)]; exact q, fun b u xs q => by rw [upd_ne (hm b _ q fun z => z)]; exact q, fun b ps q => ⟨#[], by rw [upd_ne (hm b _ q fun z => z), q]; simp⟩⟩
  by_cases hbe : b = e
  · subst hbe; exact heo
  · exact ⟨u, k b u hbe q⟩
end
noncomputable def trk (h : Heap) (H : Hp) : List Addr := (List.range h.objs.size).filter fun a => (H a).isSome
noncomputable def hidT (h : Heap) (H : Hp) : Heap := PySem.W.hideAll h (trk h H)
theorem hidT_size (h : Heap) (H : Hp) : (hidT h H).objs.size = h.objs.size := PySem.W.hideAll_size _ _
theorem hidT_get {h : Heap} {H : Hp} {b : Addr} {o : Obj} (e : h.get? b = some o) (n : H b = none) : (hidT h H).get? b = some o :=
  PySem.W.hideAll_get _ e fun hm => by
    have q : (H b).isSome = true := (List.mem_filter.mp hm).2
    rw [n] at q; simp at q
theorem of_hidT {h : Heap} {H : Hp} {b : Addr} {o : Obj} (e : (hidT h H).get? b = some o) : h.get? b = some o ∧ H b = none := by
  have e' : h.get? b = some o := PySem.W.of_hideAll (trk h H) e
  refine ⟨e', ?_⟩
  cases q : H b with
  | none => rfl
  | some x =>
    have hm : b ∈ trk h H := List.mem_filter.mpr ⟨List.mem_range.mpr (Heap.lt_size e'), by simp [q]⟩
    have z : (hidT h H).get? b = none := PySem.W.hideAll_none (trk h H) hm
    rw [z] at e; cases e
end L2
namespace L2
open PySem PySem.Spec PyProof.Rows
structure Mod (K : PySem.W.Frag) (mg : Str → Option Value) (base : Heap) : Prop where
  kin : K.In base
  glob : base.Ns mainGlobals mg
  blt : ∃ mb, base.Ns builtinsNs mb ∧ ∀ x : Str, x ≠ "__name__" → mb x = bootBuiltins x
  nolimit : base.NoLimit
  seer : base.NoSeer
structure Cx where
  prog : Program
  w : World
  K : PySem.W.Frag
  mg : Str → Option Value
  base : Heap
  A : Around
  N : List Str
  s₀ : Shared
  H₀ : Hp
  env : Env
  outer : List Env
  stack : List Env
  ex : List Addr
  fn : Str → Bool
  calm : Bool
  pn : List (Addr × Obj)
  xe : Value → Shared → Prop
def frs (l : List Env) : List Addr := l.filterMap (·.frame)
abbrev Cx.fs (X : Cx) : List Addr := frs X.outer
noncomputable def Vis (sc : Scope) (x : Str) : Prop := sc.names.lookup x = some .local ∨ sc.names.lookup x = some .cell ∨ sc.names.lookup x = some .free
noncomputable def Loc (sc : Scope) (x : Str) : Prop := sc.names.lookup x = some .local ∨ sc.names.lookup x = some .cell
noncomputable def Look (env : Env) (h : Heap) (m : Str → Option Value) (x : Str) (u : Value) : Prop :=
  (env.kindOf x = some .local ∧ m x = some u) ∨ ((env.kindOf x = some .cell ∨ env.kindOf x = some .free) ∧ ∃ c, env.cells.lookup x = some c ∧ h.IsCell c (some u))
structure Cx.Ok (X : Cx) : Prop where
  mod : Mod X.K X.mg X.base
  kind : X.env.scope.kind = .function
  glob : X.env.globals = mainGlobals
  blt : X.env.builtins = builtinsNs
  above : X.s₀.heap.objs.size ≤ X.env.locals
  inj : ∀ x y c, X.env.cells.lookup x = some c → X.env.cells.lookup y = some c → x = y
  has : ∀ x, (X.env.kindOf x = some .cell ∨ X.env.kindOf x = some .free) → ∃ c, X.env.cells.lookup x = some c
  cab : ∀ x c, X.fn x = true → X.env.cells.lookup x = some c → X.s₀.heap.objs.size ≤ c
  hd : X.calm = true → X.A.handled = none
  frames : X.A.frames = some X.stack
  stk : X.stack = X.outer ∨ (X.stack = X.env :: X.outer ∧ X.env.frame = some X.env.locals)
  exf : ∀ b ∈ X.ex, b ≠ X.env.locals ∧ ∀ x c, X.env.cells.lookup x = some c → c ≠ b
  bs : ∀ b o, X.base.get? b = some o → X.s₀.heap.get? b = some o ∧ X.H₀ b = none
  bsz : X.base.objs.size ≤ X.s₀.heap.objs.size
  noex : ∀ b o, X.base.get? b = some o → b ∉ X.ex
  exfs : ∀ b ∈ X.ex, b ∉ X.fs
  funs : X.s₀.heap.FunFrames X.base X.outer
  frf : ∀ b ∈ X.fs, X.H₀ b = none
structure Inv (X : Cx) (pins : List (Addr × Obj)) (σ : List (Option V)) (H : Hp) (s : Shared) : Prop where
  ok : X.Ok
  os : s.os = X.s₀.os
  bare : AllBare s.gens
  base : Un X.fs X.ex X.H₀ H X.s₀.heap s.heap
  loc : ∃ m, s.heap.Ns X.env.locals m ∧ ∀ (i : Nat) (x : Str) (v : V), X.N[i]? = some x → σ[i]? = some (some v) → Vis X.env.scope x → ∃ u, RelV v u ∧ Look X.env s.heap m x u
  cell : ∀ x c, X.env.cells.lookup x = some c → ∃ v, s.heap.IsCell c v
  free : H X.env.locals = none
  freeC : ∀ x c, X.env.cells.lookup x = some c → H c = none
  pin : ∀ p ∈ X.pn ++ pins, s.heap.get? p.1 = some p.2 ∧ H p.1 = none ∧ p.1 ≠ X.env.locals ∧ p.1 ∉ X.fs ∧ ∀ v, p.2.data ≠ .cell v
  hok : HOk X.prog X.w H s.heap
  len : σ.length = X.N.length
section
variable {X : Cx} {pins : List (Addr × Obj)} {σ : List (Option V)} {H H' : Hp} {s : Shared} {h' : Heap}
theorem Cx.Ok.nofr (ok : X.Ok) {b : Addr} {o : Obj} (e : X.base.get? b = some o) : b ∉ X.fs := fun hb => by
  have := (ok.funs.mem hb).1
  rw [e] at this; cases this
theorem Inv.bs (I : Inv X pins σ H s) : ∀ b o, X.base.get? b = some o → s.heap.get? b = some o ∧ H b = none := fun b o e =>
  ⟨I.base.keep b o (I.ok.bs b o e).1 (I.ok.bs b o e).2 (I.ok.nofr e) (I.ok.noex b o e), I.base.free b o (I.ok.bs b o e).1 (I.ok.bs b o e).2 (I.ok.noex b o e)⟩
theorem Inv.bk (I : Inv X pins σ H s) : ∀ b o, X.base.get? b = some o → s.heap.get? b = some o := fun b o e => (I.bs b o e).1
theorem Inv.mod (I : Inv X pins σ H s) : Mod X.K X.mg X.base := I.ok.mod
theorem Inv.kIn (I : Inv X pins σ H s) : X.K.In s.heap := I.ok.mod.kin.keeps I.bk
theorem Inv.nolimit (I : Inv X pins σ H s) : s.heap.NoLimit := I.ok.mod.nolimit.keeps I.bk
theorem Inv.lt (I : Inv X pins σ H s) : X.env.locals < s.heap.objs.size := let ⟨_, hn, _⟩ := I.loc; hn.lt
theorem Inv.sz (I : Inv X pins σ H s) : X.s₀.heap.objs.size ≤ s.heap.objs.size := Nat.le_trans I.ok.above (Nat.le_of_lt I.lt)
theorem Inv.nofs (I : Inv X pins σ H s) {a : Addr} (h : s.heap.objs.size ≤ a) : a ∉ X.fs := fun hb => by
  obtain ⟨_, o, ho, _⟩ := I.ok.funs.mem hb
  exact absurd (Nat.lt_of_lt_of_le (Heap.lt_size ho) (Nat.le_trans I.sz h)) (Nat.lt_irrefl _)
theorem Inv.cne (I : Inv X pins σ H s) : ∀ x c, X.env.cells.lookup x = some c → c ≠ X.env.locals := fun x c e z => by
  obtain ⟨v, o, ho, hd⟩ := I.cell x c e
  obtain ⟨m, ⟨o', es, ep, ho', hd', _⟩, _⟩ := I.loc
  rw [z, ho'] at ho; cases ho; rw [hd'] at hd; cases hd
theorem Inv.funs (I : Inv X pins σ H s) : s.heap.FunFrames X.base X.outer := by
  have all : ∀ (l : List Env), (∀ b ∈ frs l, b ∈ X.fs) → X.s₀.heap.FunFrames X.base l → s.heap.FunFrames X.base l := by
    intro l
    induction l with
    | nil => intro _ _; trivial
    | cons env r ih =>
      intro hs hl
      obtain ⟨hk, ⟨L, o, hf, hn, ho, hd⟩, hr⟩ := hl
      have hL : L ∈ X.fs := hs L (by unfold frs; rw [List.filterMap_cons, hf]; exact List.mem_cons_self)
      obtain ⟨sl, e⟩ := I.base.slot L o ho (I.ok.frf L hL) hL fun z => I.ok.exfs L z hL
      exact ⟨hk, ⟨L, _, hf, hn, e, hd⟩, ih (fun b hb => hs b (by unfold frs; rw [List.filterMap_cons, hf]; exact List.mem_cons_of_mem _ hb)) hr⟩
  exact all X.outer (fun _ hb => hb) I.ok.funs
theorem Inv.stack (I : Inv X pins σ H s) : s.heap.FunFrames X.base X.stack := by
  rcases I.ok.stk with e | ⟨e, hf⟩
  · rw [e]; exact I.funs
  · rw [e]
    obtain ⟨m, hn, _⟩ := I.loc
    refine .cons (by rw [I.ok.kind]; decide) hf hn ?_ I.funs
    exact Heap.get?_none_of_le (Nat.le_trans I.ok.bsz I.ok.above)
theorem Inv.stkSub (I : Inv X pins σ H s) : ∀ b ∈ frs X.stack, b ∈ X.env.locals :: X.fs := fun b hb => by
  rcases I.ok.stk with e | ⟨e, hf⟩
  · rw [e] at hb; exact List.mem_cons_of_mem _ hb
  · rw [e] at hb
    unfold frs at hb
    rw [List.filterMap_cons, hf] at hb
    exact hb
theorem Inv.stkFree (I : Inv X pins σ H s) : ∀ b ∈ frs X.stack, H b = none := fun b hb => by
  rcases List.mem_cons.mp (I.stkSub b hb) with e | hb
  · rw [e]; exact I.free
  · obtain ⟨_, o, ho, _⟩ := I.ok.funs.mem hb
    exact I.base.free b o ho (I.ok.frf b hb) fun z => I.ok.exfs b z hb
theorem Inv.step {g' : Array GenState} {t' : Nat} {d' : Drawn} {ch : List Addr} (I : Inv X pins σ H s)
    (hch : ∀ b ∈ ch, (b ∈ X.ex ∨ X.s₀.heap.objs.size ≤ b) ∧ b ≠ X.env.locals ∧ (∀ x c, X.env.cells.lookup x = some c → c ≠ b) ∧ ∀ p ∈ X.pn ++ pins, p.1 ≠ b)
    (keep : ∀ b o, b ≠ X.env.locals → b ∉ X.fs → b ∉ ch → s.heap.get? b = some o → H b = none → h'.get? b = some o)
    (slot : ∀ b o, b ≠ X.env.locals → b ∈ X.fs → b ∉ ch → s.heap.get? b = some o → H b = none → ∃ sl, h'.get? b = some { o with slots := sl }) (free : ∀ b o, b ∉ ch → s.heap.get? b = some o → H b = none → H' b = none)
    (there : ∀ b o, b ∉ ch → s.heap.get? b = some o → ∃ o', h'.get? b = some o')
    (tups : ∀ b xs, H b = some (.tup xs) → H' b = some (.tup xs)) (frzs : ∀ b o u, H b = some (.frz o u) → H' b = some (.frz o u)) (tbls : ∀ b ps, H b = some (.tbl ps) → ∃ more, H' b = some (.tbl (ps ++ more)))
    (ns : ∀ m, s.heap.Ns X.env.locals m → h'.Ns X.env.locals m) (hok : HOk X.prog X.w H' h') (hg : AllBare g') :
    Inv X pins σ H' { s with heap := h', gens := g', drawn := d', toks := t' } := by
  have neL : ∀ b o, X.s₀.heap.get? b = some o → b ≠ X.env.locals := fun b o e => Nat.ne_of_lt (Nat.lt_of_lt_of_le (Heap.lt_size e) I.ok.above)
  have neC : ∀ b o, X.s₀.heap.get? b = some o → b ∉ X.ex → b ∉ ch := fun b o e hx hb => by
    rcases (hch b hb).1 with z | z
    · exact hx z
    · exact absurd (Nat.lt_of_lt_of_le (Heap.lt_size e) z) (Nat.lt_irrefl _)
  have cellK : ∀ x c, X.env.cells.lookup x = some c → ∀ v, s.heap.IsCell c v → h'.IsCell c v := fun x c e v ⟨o, ho, hd⟩ => by
    have nch : c ∉ ch := fun z => (hch c z).2.2.1 x c e rfl
    by_cases hc : c ∈ X.fs
    · obtain ⟨sl, q⟩ := slot c o (I.cne x c e) hc nch ho (I.freeC x c e)
      exact ⟨_, q, hd⟩
    · exact ⟨o, keep c o (I.cne x c e) hc nch ho (I.freeC x c e), hd⟩
  refine ⟨I.ok, I.os, hg, ⟨fun b o e n hb hx => ?_, fun b o e n hb hx => ?_, fun b o e n hx => ?_, fun b o e hx => ?_, fun b xs e => tups b xs (I.base.tups b xs e), fun b o xs e => frzs b o xs (I.base.frzs b o xs e), fun b ps e => ?_⟩, ?_, fun x c e => ?_, ?_, fun x c e => ?_, fun p hp => ?_, hok, I.len⟩
  · exact keep b o (neL b o e) hb (neC b o e hx) (I.base.keep b o e n hb hx) (I.base.free b o e n hx)
  · obtain ⟨sl, e1⟩ := I.base.slot b o e n hb hx
    obtain ⟨sl', e2⟩ := slot b _ (neL b o e) hb (neC b o e hx) e1 (I.base.free b o e n hx)
    exact ⟨sl', e2⟩
  · obtain ⟨o', e1⟩ := I.base.there b o e hx
    exact free b o' (neC b o e hx) e1 (I.base.free b o e n hx)
  · obtain ⟨o', e1⟩ := I.base.there b o e hx
    exact there b o' (neC b o e hx) e1
  · obtain ⟨m1, e1⟩ := I.base.tbls b ps e
    obtain ⟨m2, e2⟩ := tbls b _ e1
    exact ⟨m1 ++ m2, by rw [e2, Array.append_assoc]⟩
  · obtain ⟨m, hn, hl⟩ := I.loc
    refine ⟨m, ns m hn, fun i x v e1 e2 e3 => ?_⟩
    obtain ⟨u, r, l⟩ := hl i x v e1 e2 e3
    refine ⟨u, r, ?_⟩
    rcases l with l | ⟨k, c, e, z⟩
    · exact .inl l
    · exact .inr ⟨k, c, e, cellK x c e _ z⟩
  · obtain ⟨v, z⟩ := I.cell x c e
    exact ⟨v, cellK x c e v z⟩
  · obtain ⟨m, ⟨o, _, _, ho, _⟩, _⟩ := I.loc
    exact free _ o (fun z => (hch _ z).2.1 rfl) ho I.free
  · obtain ⟨v, o, ho, hd⟩ := I.cell x c e
    exact free c o (fun z => (hch c z).2.2.1 x c e rfl) ho (I.freeC x c e)
  · obtain ⟨e, n, ne, nf, d⟩ := I.pin p hp
    have nch : p.1 ∉ ch := fun z => (hch p.1 z).2.2.2 p hp rfl
    exact ⟨keep p.1 p.2 ne nf nch e n, free p.1 p.2 nch e n, ne, nf, d⟩
theorem Inv.un {t' : Nat} (I : Inv X pins σ H s) (u : Un X.fs [] H H' s.heap h') (hok : HOk X.prog X.w H' h') : Inv X pins σ H' { s with heap := h', toks := t' } := by
  obtain ⟨m, ⟨o, es, ep, ho, r⟩, _⟩ := id I.loc
  obtain ⟨sl, hL⟩ := u.any ho I.free (by simp)
  exact I.step (g' := s.gens) (d' := s.drawn) (ch := []) (fun _ z => nomatch z) (fun b o _ hb _ e n => u.keep b o e n hb (by simp)) (fun b o _ hb _ e n => u.slot b o e n hb (by simp)) (fun b o _ e n => u.free b o e n (by simp)) (fun b o _ e => u.there b o e (by simp)) u.tups u.frzs u.tbls (fun m' hm => by
    obtain ⟨o', es', ep', ho', r'⟩ := hm
    rw [ho] at ho'; cases ho'
    exact ⟨_, es', ep', hL, r'⟩) hok I.bare
theorem Inv.call {g' : Array GenState} {t' : Nat} {d' : Drawn} {ch : List Addr} (I : Inv X pins σ H s) (u : Un (frs X.stack) ch H H' s.heap h') (hok : HOk X.prog X.w H' h') (hg : AllBare g')
    (hch : ∀ b ∈ ch, (b ∈ X.ex ∨ X.s₀.heap.objs.size ≤ b) ∧ b ≠ X.env.locals ∧ (∀ x c, X.env.cells.lookup x = some c → c ≠ b) ∧ ∀ p ∈ X.pn ++ pins, p.1 ≠ b) :
    Inv X pins σ H' { s with heap := h', gens := g', drawn := d', toks := t' } := by
  obtain ⟨m, ⟨o, es, ep, ho, r⟩, _⟩ := id I.loc
  obtain ⟨sl, hL⟩ := u.any ho I.free fun z => (hch _ z).2.1 rfl
  exact I.step (ch := ch) hch (fun b o hL hb hc e n => u.keep b o e n (fun z => (List.mem_cons.mp (I.stkSub b z)).elim hL hb) hc) (fun b o _ _ hc e n => u.any e n hc) (fun b o hc e n => u.free b o e n hc) (fun b o hc e => u.there b o e hc) u.tups u.frzs u.tbls (fun m' hm => by
    obtain ⟨o', es', ep', ho', r'⟩ := hm
    rw [ho] at ho'; cases ho'
    exact ⟨_, es', ep', hL, r'⟩) hok hg
theorem Inv.turned {t' : Nat} {it : Addr} (I : Inv X pins σ H s) (k : ∀ b o, b ≠ it → s.heap.get? b = some o → h'.get? b = some o) (hn : H it = none) (hL : it ≠ X.env.locals)
    (h1 : it ∈ X.ex ∨ X.s₀.heap.objs.size ≤ it) (h2 : ∀ x c, X.env.cells.lookup x = some c → c ≠ it) (h3 : ∀ p ∈ X.pn ++ pins, p.1 ≠ it) : Inv X pins σ H { s with heap := h', toks := t' } := by
  have nit : ∀ b u, H b = some u → b ≠ it := fun b u e z => by rw [z, hn] at e; cases e
  refine I.step (g' := s.gens) (d' := s.drawn) (ch := [it]) (fun b hb => ?_) (fun b o _ _ hc e _ => k b o (fun z => hc (by simp [z])) e) (fun b o _ _ hc e _ => ⟨o.slots, k b o (fun z => hc (by simp [z])) e⟩) (fun _ _ _ _ n => n)
    (fun b o hc e => ⟨o, k b o (fun z => hc (by simp [z])) e⟩) (fun _ _ e => e) (fun _ _ _ e => e) (fun b ps e => ⟨#[], by rw [e]; simp⟩) (fun m hm => ?_) (fun b u e => ?_) I.bare
  · have e : b = it := by simpa using hb
    subst e
    exact ⟨h1, hL, h2, h3⟩
  · obtain ⟨o, es, ep, ho, r⟩ := hm
    exact ⟨o, es, ep, k _ o (Ne.symm hL) ho, r⟩
  · refine (I.hok b u e).stay (fun c v hc q => k c v ?_ q) (fun _ q => q) fun _ _ q => q
    rcases hc with z | z
    · rw [z]; exact nit b u e
    · exact nit c _ z
theorem Inv.tok (I : Inv X pins σ H s) (t : Nat) : Inv X pins σ H { s with toks := t } := I.un (h' := s.heap) (t' := t) Un.refl I.hok
theorem Inv.kept {t' : Nat} (I : Inv X pins σ H s) (k : ∀ b u, s.heap.get? b = some u → h'.get? b = some u) : Inv X pins σ H { s with heap := h', toks := t' } := I.un (Un.kept k) (I.hok.kept k)
theorem Inv.laid {a : Addr} {o : HO} {t' : Nat} (I : Inv X pins σ H s) (k : ∀ b u, s.heap.get? b = some u → h'.get? b = some u) (hp : s.heap.objs.size ≤ a) (new : ObjOk X.prog X.w (upd H a o) h' a o) :
    Inv X pins σ (upd H a o) { s with heap := h', toks := t' } := I.un (Un.laid k hp (I.hok.fresh hp)) (I.hok.laid k hp new)
theorem Inv.write {x e : Addr} {o : HO} {t' : Nat} (I : Inv X pins σ H s) (mu : Mut (H x)) (he : e = x ∨ H e = some (.own x)) (k : ∀ b u, b ≠ e → s.heap.get? b = some u → h'.get? b = some u) (heo : ∃ u, h'.get? e = some u)
    (new : ObjOk X.prog X.w (upd H x o) h' x o) : Inv X pins σ (upd H x o) { s with heap := h', toks := t' } := I.un (Un.write mu he k heo) (I.hok.write mu he k heo new)
theorem Inv.weak {σ' : List (Option V)} (I : Inv X pins σ H s) (hl : σ'.length = σ.length) (w : ∀ (i : Nat) v, σ'[i]? = some (some v) → σ[i]? = some (some v)) : Inv X pins σ' H s :=
  ⟨I.ok, I.os, I.bare, I.base, let ⟨m, hn, hl'⟩ := I.loc; ⟨m, hn, fun i x v e1 e2 e3 => hl' i x v e1 (w i v e2) e3⟩, I.cell, I.free, I.freeC, I.pin, I.hok, hl.trans I.len⟩
theorem Inv.pins_of {pins' : List (Addr × Obj)} (I : Inv X pins σ H s) (h : ∀ p ∈ pins', s.heap.get? p.1 = some p.2 ∧ H p.1 = none ∧ p.1 ≠ X.env.locals ∧ p.1 ∉ X.fs ∧ ∀ v, p.2.data ≠ .cell v) : Inv X pins' σ H s :=
  ⟨I.ok, I.os, I.bare, I.base, I.loc, I.cell, I.free, I.freeC, fun p hp => (List.mem_append.mp hp).elim (fun z => I.pin p (List.mem_append_left _ z)) (h p), I.hok, I.len⟩
theorem nodup_ix {N : List Str} (hN : N.Nodup) {i j : Nat} {x : Str} (a : N[i]? = some x) (b : N[j]? = some x) : i = j := by
  obtain ⟨h1, e1⟩ := List.getElem?_eq_some_iff.mp a
  obtain ⟨h2, e2⟩ := List.getElem?_eq_some_iff.mp b
  exact (List.getElem_inj hN).mp (e1.trans e2.symm)
theorem store_ok2 {M : Model} {A : Around} {E : Value → Shared → Prop} {i : Nat} {x : Str} {v : V} {u : Value} {Q : Unit → Shared → Prop} (I : Inv X pins σ H s) (hN : X.N.Nodup) (hi : X.N[i]? = some x) (hx : Loc X.env.scope x) (r : RelV v u)
    (h : ∀ s', Inv X pins (σ.set i (some v)) H s' → (∃ a, Heap.SameBut a s.heap s'.heap ∧ (a = X.env.locals ∨ X.env.cells.lookup x = some a)) → Q () s') (hf : X.fn x = true ∨ X.env.scope.names.lookup x = some .local := by first | exact .inl rfl | exact .inr rfl | assumption) : wpAny M A (storeName X.env x u) Q E s := by
  obtain ⟨m, hn, hl⟩ := id I.loc
  have hcls : (X.env.scope.kind == .class || (X.env.scope.kind == .module && X.env.locals != X.env.globals)) = false := by rw [I.ok.kind]; rfl
  have hiσ : i < σ.length := by rw [I.len]; exact (List.getElem?_eq_some_iff.mp hi).1
  have cne := I.cne
  have tracked : ∀ {a : Addr} {h' : Heap}, (∃ o, s.heap.get? a = some o ∧ H a = none) → Heap.SameBut a s.heap h' → HOk X.prog X.w H h' := fun {a h'} ha hs b ob e => by
    obtain ⟨_, _, hfree⟩ := ha
    refine (I.hok b ob e).stay (fun c w' hc q => (hs.2 c ?_).trans q) (fun _ q => q) fun _ _ q => q
    rintro rfl
    rcases hc with rfl | hc
    · rw [hfree] at e; cases e
    · rw [hfree] at hc; cases hc
  rcases hx with hk | hk
  · refine wpAny_storeName_local hk hn (fun h' hn' hs => ?_) hcls
    obtain ⟨oL, _, _, hoL, _⟩ := id hn
    refine h _ ⟨I.ok, I.os, I.bare, ⟨fun b o e n hb hx => ?_, fun b o e n hb hx => ?_, I.base.free, fun b o e hx => ?_, I.base.tups, I.base.frzs, I.base.tbls⟩, ⟨_, hn', fun j y v' e1 e2 e3 => ?_⟩, fun y c e => ?_, I.free, I.freeC, fun p hp => ?_, tracked ⟨oL, hoL, I.free⟩ hs, by simpa using I.len⟩ ⟨_, hs, .inl rfl⟩
    · exact (hs.2 b (Nat.ne_of_lt (Nat.lt_of_lt_of_le (Heap.lt_size e) I.ok.above))).trans (I.base.keep b o e n hb hx)
    · obtain ⟨sl, e1⟩ := I.base.slot b o e n hb hx
      exact ⟨sl, (hs.2 b (Nat.ne_of_lt (Nat.lt_of_lt_of_le (Heap.lt_size e) I.ok.above))).trans e1⟩
    · obtain ⟨o', e1⟩ := I.base.there b o e hx
      exact ⟨o', (hs.2 b (Nat.ne_of_lt (Nat.lt_of_lt_of_le (Heap.lt_size e) I.ok.above))).trans e1⟩
    · by_cases hj : j = i
      · subst hj
        rw [hi] at e1; cases e1
        rw [List.getElem?_set_self hiσ] at e2
        cases e2
        exact ⟨u, r, .inl ⟨hk, by simp⟩⟩
      · rw [List.getElem?_set_ne (Ne.symm hj)] at e2
        obtain ⟨u', r', q⟩ := hl j y v' e1 e2 e3
        refine ⟨u', r', ?_⟩
        rcases q with ⟨k, e⟩ | ⟨k, c, e, z⟩
        · refine .inl ⟨k, ?_⟩
          have : y ≠ x := fun e => hj (nodup_ix hN e1 (e ▸ hi))
          simp [this, e]
        · exact .inr ⟨k, c, e, z.sameBut hs (cne y c e)⟩
    · obtain ⟨w', z⟩ := I.cell y c e
      exact ⟨w', z.sameBut hs (cne y c e)⟩
    · obtain ⟨e, n, ne, nf, d⟩ := I.pin p hp
      exact ⟨(hs.2 p.1 ne).trans e, n, ne, nf, d⟩
  · have hfn : X.fn x = true := by
      rcases hf with z | z
      · exact z
      · rw [z] at hk; cases hk
    obtain ⟨c, hc⟩ := I.ok.has x (.inl hk)
    obtain ⟨w', z⟩ := I.cell x c hc
    refine wpAny_storeName_cell I.ok.kind hk hc z (fun h' hc' hs => ?_)
    obtain ⟨oc, hoc, hocd⟩ := id z
    refine h { s with heap := h' } ⟨I.ok, I.os, I.bare, ⟨fun b o e n hb hx => ?_, fun b o e n hb hx => ?_, I.base.free, fun b o e hx => ?_, I.base.tups, I.base.frzs, I.base.tbls⟩, ⟨m, hn.sameBut hs (Ne.symm (cne x c hc)), fun j y v' e1 e2 e3 => ?_⟩, fun y c' e => ?_, I.free, I.freeC, fun p hp => ?_, tracked ⟨oc, hoc, I.freeC x c hc⟩ hs, by simpa using I.len⟩ ⟨c, hs, .inr hc⟩
    · exact (hs.2 b (Nat.ne_of_lt (Nat.lt_of_lt_of_le (Heap.lt_size e) (I.ok.cab x c hfn hc)))).trans (I.base.keep b o e n hb hx)
    · obtain ⟨sl, e1⟩ := I.base.slot b o e n hb hx
      exact ⟨sl, (hs.2 b (Nat.ne_of_lt (Nat.lt_of_lt_of_le (Heap.lt_size e) (I.ok.cab x c hfn hc)))).trans e1⟩
    · obtain ⟨o', e1⟩ := I.base.there b o e hx
      exact ⟨o', (hs.2 b (Nat.ne_of_lt (Nat.lt_of_lt_of_le (Heap.lt_size e) (I.ok.cab x c hfn hc)))).trans e1⟩
    · by_cases hj : j = i
      · subst hj
        rw [hi] at e1; cases e1
        rw [List.getElem?_set_self hiσ] at e2
        cases e2
        exact ⟨u, r, .inr ⟨.inl hk, c, hc, hc'⟩⟩
      · rw [List.getElem?_set_ne (Ne.symm hj)] at e2
        obtain ⟨u', r', q⟩ := hl j y v' e1 e2 e3
        refine ⟨u', r', ?_⟩
        rcases q with q | ⟨k, c', e, z'⟩
        · exact .inl q
        · refine .inr ⟨k, c', e, z'.sameBut hs ?_⟩
          rintro rfl
          exact hj (nodup_ix hN e1 (I.ok.inj _ _ _ e hc ▸ hi))
    · by_cases hcc : c' = c
      · subst hcc; exact ⟨_, hc'⟩
      · obtain ⟨w2, z2⟩ := I.cell y c' e
        exact ⟨w2, z2.sameBut hs hcc⟩
    · obtain ⟨e, n, ne, nf, d⟩ := I.pin p hp
      refine ⟨(hs.2 p.1 ?_).trans e, n, ne, nf, d⟩
      intro q
      rw [q, hoc] at e
      have q' : oc = p.2 := Option.some.inj e
      exact d w' (by rw [← q']; exact hocd)
theorem store_ok {M : Model} {A : Around} {E : Value → Shared → Prop} {i : Nat} {x : Str} {v : V} {u : Value} {Q : Unit → Shared → Prop} (I : Inv X pins σ H s) (hN : X.N.Nodup) (hi : X.N[i]? = some x) (hx : Loc X.env.scope x) (r : RelV v u)
    (h : ∀ s', Inv X pins (σ.set i (some v)) H s' → Q () s') (hf : X.fn x = true ∨ X.env.scope.names.lookup x = some .local := by first | exact .inl rfl | exact .inr rfl | assumption) : wpAny M A (storeName X.env x u) Q E s :=
  store_ok2 I hN hi hx r (fun s' I' _ => h s' I') hf
theorem Inv.call' {s' : Shared} {ch : List Addr} (I : Inv X pins σ H s) (ho : s'.os = s.os) (u : Un (frs X.stack) ch H H' s.heap s'.heap) (hok : HOk X.prog X.w H' s'.heap) (hg : AllBare s'.gens)
    (hch : ∀ b ∈ ch, (b ∈ X.ex ∨ X.s₀.heap.objs.size ≤ b) ∧ b ≠ X.env.locals ∧ (∀ x c, X.env.cells.lookup x = some c → c ≠ b) ∧ ∀ p ∈ X.pn ++ pins, p.1 ≠ b) : Inv X pins σ H' s' := by
  obtain ⟨h', g', d', t', o'⟩ := s'
  have e : o' = s.os := ho
  subst e
  exact I.call (g' := g') (t' := t') (d' := d') u hok hg hch
end
abbrev XK := Value → Option Addr → Hp → Prop
abbrev St := List (Option V)
abbrev VK := V → Hp → Prop
abbrev TE := St → Hp → VK → Prop
abbrev TT := St → Hp → (Bool → Hp → Prop) → Prop
abbrev TA := St → Hp → (List V → Hp → Prop) → Prop
structure Ends where
  nx : St → Hp → Prop
  rt : VK
  bk : St → Hp → Prop := fun _ _ => False
  ct : St → Hp → Prop := fun _ _ => False
abbrev TS := Ends → St → Hp → Prop
noncomputable def EP (X : Cx) (pins : List (Addr × Obj)) (σ : St) (Q : VK) (u : Value) (s' : Shared) : Prop := ∃ v H', Inv X pins σ H' s' ∧ RelV v u ∧ Q v H'
noncomputable def TP (X : Cx) (pins : List (Addr × Obj)) (σ : St) (Q : Bool → Hp → Prop) (b : Bool) (s' : Shared) : Prop := ∃ H', Inv X pins σ H' s' ∧ Q b H'
noncomputable def AP (X : Cx) (pins : List (Addr × Obj)) (σ : St) (Q : List V → Hp → Prop) (us : List Value) (s' : Shared) : Prop := ∃ vs H', Inv X pins σ H' s' ∧ Vals vs us ∧ Q vs H'
noncomputable def SP (X : Cx) (pins : List (Addr × Obj)) (D : Ends) (f : Flow) (s' : Shared) : Prop :=
  match f with
  | .next => ∃ σ' H', Inv X pins σ' H' s' ∧ D.nx σ' H'
  | .brk => ∃ σ' H', Inv X pins σ' H' s' ∧ D.bk σ' H'
  | .cont => ∃ σ' H', Inv X pins σ' H' s' ∧ D.ct σ' H'
  | .ret u => ∃ v σ' H', Inv X pins σ' H' s' ∧ RelV v u ∧ D.rt v H'
noncomputable def PE (X : Cx) (e : Expr) (t : TE) : Prop :=
  ∀ (pins : List (Addr × Obj)) (s : Shared) (σ : St) (H : Hp) (Q : VK), Inv X pins σ H s → t σ H Q → wpAny (model X.prog X.w) X.A (eval e X.env) (EP X pins σ Q) X.xe s
noncomputable def PT (X : Cx) (e : Expr) (t : TT) : Prop :=
  ∀ (pins : List (Addr × Obj)) (s : Shared) (σ : St) (H : Hp) (Q : Bool → Hp → Prop), Inv X pins σ H s → t σ H Q → wpAny (model X.prog X.w) X.A (isTrue e X.env (eval e X.env)) (TP X pins σ Q) X.xe s
noncomputable def PW (X : Cx) (e : Expr) (t : TT) : Prop :=
  ∀ (whole : Sem Value) (pins : List (Addr × Obj)) (s : Shared) (σ : St) (H : Hp) (Q : Bool → Hp → Prop), Inv X pins σ H s → t σ H Q → wpAny (model X.prog X.w) X.A (isTrue e X.env whole) (TP X pins σ Q) X.xe s
theorem PW.pt {X : Cx} {e : Expr} {t : TT} (h : PW X e t) : PT X e t := h _
noncomputable def PA (X : Cx) (es : List Expr) (t : TA) : Prop :=
  ∀ (pos : Pos) (pins : List (Addr × Obj)) (s : Shared) (σ : St) (H : Hp) (Q : List V → Hp → Prop), Inv X pins σ H s → t σ H Q → wpAny (model X.prog X.w) X.A (spliced (backTo pos (starEach es X.env))) (AP X pins σ Q) X.xe s
noncomputable def PS (X : Cx) (st : Stmt) (t : TS) : Prop :=
  ∀ (pins : List (Addr × Obj)) (s : Shared) (σ : St) (H : Hp) (D : Ends), Inv X pins σ H s → t D σ H → wpAny (model X.prog X.w) X.A (exec st X.env) (SP X pins D) X.xe s
noncomputable def PSs (X : Cx) (st : List Stmt) (t : TS) : Prop :=
  ∀ (pins : List (Addr × Obj)) (s : Shared) (σ : St) (H : Hp) (D : Ends), Inv X pins σ H s → t D σ H → wpAny (model X.prog X.w) X.A (execs st X.env) (SP X pins D) X.xe s
theorem thn {α : Type} {t : Sem α} {Q Q' : α → Shared → Prop} {M : Model} {A : Around} {E : Value → Shared → Prop} {s : Shared} (h : wpAny M A t Q E s) (hQ : ∀ a s, Q a s → Q' a s) : wpAny M A t Q' E s := wpAny_mono h hQ fun _ _ x => x
end L2
namespace L2
open PySem PySem.Spec PyProof.Rows
section
variable {X : Cx}
noncomputable def tVar (i : Nat) : TE := fun σ H Q => ∃ v, σ[i]? = some (some v) ∧ Q v H
noncomputable def tC (v : V) : TE := fun _ H Q => Q v H
theorem pe_var {i : Nat} {x : Str} {pos : Pos} (hN : X.N[i]? = some x) (hv : Vis X.env.scope x) (hd : (x == ("__debug__" : Str)) = false := by decide) (hcd : (x == ("__classdict__" : Str)) = false := by decide) : PE X (.Name x pos) (tVar i) := by
  intro pins s σ H Q I h
  obtain ⟨v, e, h⟩ := h
  obtain ⟨m, hn, hl⟩ := I.loc
  obtain ⟨u, r, l⟩ := hl i x v hN e hv
  have fin : EP X pins σ Q u s := ⟨v, H, I, r, h⟩
  rcases l with ⟨hk, hm⟩ | ⟨hk, c, hc, hcell⟩
  · exact wpAny_Name (wpAny_loadName_local I.ok.kind hk hn hm fin) hd
  · rcases hk with hk | hk
    · exact wpAny_Name (wpAny_loadName_cell I.ok.kind hk hc hcell fin) hd
    · exact wpAny_Name (wpAny_loadName_free I.ok.kind hk hc hcell fin hcd) hd
theorem pe_int {i j pos} : PE X (.Constant (.int i) j pos) (tC (.int i)) := fun _ _ _ H _ I h => wpAny_Constant_int ⟨.int i, H, I.tok _, ⟨_, rfl⟩, h⟩
theorem pe_bl {b j pos} : PE X (.Constant (.bool b) j pos) (tC (.bl b)) := fun _ _ _ H _ I h => Constant_bool ⟨.bl b, H, I, rfl, h⟩
theorem pe_non {j pos} : PE X (.Constant .none j pos) (tC .non) := fun _ _ _ H _ I h => Constant_none ⟨.non, H, I, rfl, h⟩
theorem pe_str {x j pos} : PE X (.Constant (.str x) j pos) (tC (.str x)) := fun _ _ _ H _ I h => Calls.Constant_str ⟨.str x, H, I.tok _, ⟨_, rfl⟩, h⟩
noncomputable def Gl (X : Cx) (x : Str) : Prop := X.env.kindOf x = some .globalImplicit
theorem ld_glob {E : Value → Shared → Prop} {pins : List (Addr × Obj)} {s : Shared} {σ : St} {H : Hp} {x : Str} {u : Value} {pos : Pos} {Q : Value → Shared → Prop} (I : Inv X pins σ H s) (hg : Gl X x) (hm : X.mg x = some u) (h : Q u s)
    (hd : (x == ("__debug__" : Str)) = false := by decide) : wpAny (model X.prog X.w) X.A (eval (.Name x pos) X.env) Q E s :=
  Calls.Name_function_global I.ok.kind hg (Calls.loadGlobal_global (by rw [I.ok.glob]; exact I.mod.glob.keeps I.bk) hm h) hd
theorem ld_blt {E : Value → Shared → Prop} {pins : List (Addr × Obj)} {s : Shared} {σ : St} {H : Hp} {x : Str} {u : Value} {pos : Pos} {Q : Value → Shared → Prop} (I : Inv X pins σ H s) (hg : Gl X x) (hm : X.mg x = none) (hv : bootBuiltins x = some u) (h : Q u s)
    (hn : x ≠ "__name__" := by decide) (hd : (x == ("__debug__" : Str)) = false := by decide) : wpAny (model X.prog X.w) X.A (eval (.Name x pos) X.env) Q E s := by
  obtain ⟨mb, h1, h2⟩ := I.mod.blt
  exact Calls.Name_function_global I.ok.kind hg (Calls.loadGlobal_builtin (by rw [I.ok.glob]; exact I.mod.glob.keeps I.bk) hm (by rw [I.ok.blt]; exact h1.keeps I.bk) ((h2 x hn).trans hv) h) hd
theorem pe_bltn {x : Str} {v : V} {u : Value} {pos : Pos} (hg : Gl X x) (hm : X.mg x = none) (hv : bootBuiltins x = some u) (r : RelV v u) (hn : x ≠ "__name__" := by decide) (hd : (x == ("__debug__" : Str)) = false := by decide) : PE X (.Name x pos) (tC v) :=
  fun _ _ _ H _ I h => ld_blt I hg hm hv ⟨v, H, I, r, h⟩ hn hd
variable {a b : Expr} {ta tb : TE} {pos : Pos}
noncomputable def tB (t : TE) : TT := fun σ H Q => t σ H fun x H1 => ∃ c, x = .bl c ∧ Q c H1
theorem pt_val {e : Expr} {t : TE} (h : PE X e t) (he : ∀ whole, isTrue e X.env whole = (do let v ← whole; standAt e.pos; holding [v] (truthy v)) := by intro _; rfl) : PT X e (tB t) := by
  intro pins s σ H Q I hw
  refine isTrue_plain (thn (h pins s σ H _ I hw) fun v s1 ⟨x, H1, I1, r1, q1⟩ => ?_) (he _)
  obtain ⟨d, rfl, q⟩ := q1
  cases r1
  exact wpAny_truthy_bool ⟨H1, I1, q⟩
variable {tA tB' : TT} {rest : List Expr}
noncomputable def tAnd (t u : TT) : TT := fun σ H Q => t σ H fun c H1 => if c = true then u σ H1 Q else Q false H1
noncomputable def tOr (t u : TT) : TT := fun σ H Q => t σ H fun c H1 => if c = true then Q true H1 else u σ H1 Q
noncomputable def tNot (t : TT) : TT := fun σ H Q => t σ H fun c H1 => Q (!c) H1
theorem pw_and1 (ha : PT X a tA) : PW X (.BoolOp .And [a] pos) tA := by
  intro wh pins s σ H Q I h
  refine isTrue_and (thn (ha pins s σ H Q I h) fun c s1 e => ?_)
  cases c with
  | true => exact isTrue_and_nil e
  | false => exact e
theorem pw_or1 (ha : PT X a tA) : PW X (.BoolOp .Or [a] pos) tA := by
  intro wh pins s σ H Q I h
  refine isTrue_or (thn (ha pins s σ H Q I h) fun c s1 e => ?_)
  cases c with
  | false => exact isTrue_or_nil e
  | true => exact e
theorem pw_and (ha : PT X a tA) (hb : PW X (.BoolOp .And (b :: rest) pos) tB') : PW X (.BoolOp .And (a :: b :: rest) pos) (tAnd tA tB') := by
  intro wh pins s σ H Q I h
  refine isTrue_and (thn (ha pins s σ H _ I h) fun c s1 ⟨H1, I1, q1⟩ => ?_)
  cases c with
  | true => exact hb wh pins s1 σ H1 Q I1 q1
  | false => exact ⟨H1, I1, q1⟩
theorem pw_or (ha : PT X a tA) (hb : PW X (.BoolOp .Or (b :: rest) pos) tB') : PW X (.BoolOp .Or (a :: b :: rest) pos) (tOr tA tB') := by
  intro wh pins s σ H Q I h
  refine isTrue_or (thn (ha pins s σ H _ I h) fun c s1 ⟨H1, I1, q1⟩ => ?_)
  cases c with
  | true => exact ⟨H1, I1, q1⟩
  | false => exact hb wh pins s1 σ H1 Q I1 q1
theorem pt_not (ha : PT X a tA) : PT X (.UnaryOp .Not a pos) (tNot tA) := by
  intro pins s σ H Q I h
  exact isTrue_not (ha pins s σ H (fun c H1 => Q (!c) H1) I h)
noncomputable def tAndV (ta tb : TE) : TE := fun σ H Q => ta σ H fun x H1 => ∃ c, x = .bl c ∧ if c = true then tb σ H1 Q else Q (.bl false) H1
noncomputable def tOrV (ta tb : TE) : TE := fun σ H Q => ta σ H fun x H1 => ∃ c, x = .bl c ∧ if c = true then Q (.bl true) H1 else tb σ H1 Q
noncomputable def tNotV (ta : TE) : TE := fun σ H Q => ta σ H fun x H1 => ∃ c, x = .bl c ∧ Q (.bl (!c)) H1
theorem pe_one {op} {t : TE} (h : PE X a t) : PE X (.BoolOp op [a] pos) t := fun pins s σ H Q I hw => BoolOp_one (h pins s σ H Q I hw)
theorem pe_and (ha : PE X a ta) (hb : PE X (.BoolOp .And (b :: rest) pos) tb) : PE X (.BoolOp .And (a :: b :: rest) pos) (tAndV ta tb) := by
  intro pins s σ H Q I h
  refine BoolOp_and (thn (ha pins s σ H _ I h) fun v s1 ⟨x, H1, I1, r1, q1⟩ => ?_)
  obtain ⟨c, rfl, q1⟩ := q1
  cases r1
  refine wpAny_truthy_bool ?_
  cases c with
  | true => exact hb pins s1 σ H1 Q I1 q1
  | false => exact ⟨.bl false, H1, I1, rfl, q1⟩
theorem pe_or (ha : PE X a ta) (hb : PE X (.BoolOp .Or (b :: rest) pos) tb) : PE X (.BoolOp .Or (a :: b :: rest) pos) (tOrV ta tb) := by
  intro pins s σ H Q I h
  refine BoolOp_or (thn (ha pins s σ H _ I h) fun v s1 ⟨x, H1, I1, r1, q1⟩ => ?_)
  obtain ⟨c, rfl, q1⟩ := q1
  cases r1
  refine wpAny_truthy_bool ?_
  cases c with
  | false => exact hb pins s1 σ H1 Q I1 q1
  | true => exact ⟨.bl true, H1, I1, rfl, q1⟩
theorem pe_not (ha : PE X a ta) : PE X (.UnaryOp .Not a pos) (tNotV ta) := by
  intro pins s σ H Q I h
  refine UnaryOp_ (thn (ha pins s σ H _ I h) fun v s1 ⟨x, H1, I1, r1, q1⟩ => ?_)
  obtain ⟨c, rfl, q1⟩ := q1
  cases r1
  exact not_of (wpAny_truthy_bool ⟨.bl (!c), H1, I1, rfl, q1⟩)
noncomputable def tIf (t : TT) (ta tb : TE) : TE := fun σ H Q => t σ H fun c H1 => if c = true then ta σ H1 Q else tb σ H1 Q
theorem pe_ifExp {c : Expr} (hc : PT X c tA) (ha : PE X a ta) (hb : PE X b tb) : PE X (.IfExp c a b pos) (tIf tA ta tb) := by
  intro pins s σ H Q I h
  refine wpAny_IfExp (thn (hc pins s σ H _ I h) fun d s1 ⟨H1, I1, q1⟩ => ?_)
  cases d with
  | true => exact ha pins s1 σ H1 Q I1 q1
  | false => exact hb pins s1 σ H1 Q I1 q1
end
end L2
namespace L2
open PySem PySem.Spec PyProof.Rows
noncomputable def SqL (K : PySem.W.Frag) (H : Hp) (a : Addr) (xs : List V) : Prop :=
  Rd H a (.lst xs) ∨
    ∃ (o : Obj) (its : Array Value) (n : Nat), K.lookup a = some o ∧ o.cls = .type "list" ∧ o.dict = none ∧ o.data = .seq its n ∧ its.size ≤ sizeLine ∧ Vals xs its.toList
noncomputable def SqT (K : PySem.W.Frag) (H : Hp) (a : Addr) (xs : List V) : Prop :=
  Rd H a (.tup xs) ∨
    ∃ (o : Obj) (its : Array Value) (n : Nat), K.lookup a = some o ∧ o.cls = .type "tuple" ∧ o.data = .seq its n ∧ its.size ≤ sizeLine ∧ Vals xs its.toList
noncomputable def absV : Value → Option V
  | .none => some .non
  | .bool b => some (.bl b)
  | .int i _ => some (.int i)
  | .str x _ => some (.str x)
  | .bytes b _ => some (.byt b)
  | .float b _ => some (.flt b)
  | .ref a => some (.ref a)
  | .type n => some (.ty n)
  | _ => none
theorem RelV.abs {x : V} {u : Value} (r : RelV x u) : absV u = some x := by
  cases x with
  | non => cases r; rfl
  | bl _ => cases r; rfl
  | int _ => obtain ⟨t, rfl⟩ := r; rfl
  | str _ => obtain ⟨t, rfl⟩ := r; rfl
  | byt _ => obtain ⟨t, rfl⟩ := r; rfl
  | flt _ => obtain ⟨t, rfl⟩ := r; rfl
  | ref _ => cases r; rfl
  | ty _ => cases r; rfl
theorem RelV.inj {x y : V} {u : Value} (r : RelV x u) (q : RelV y u) : x = y := Option.some.inj (r.abs.symm.trans q.abs)
theorem Vals.inj : ∀ {xs ys : List V} {us : List Value}, Vals xs us → Vals ys us → xs = ys
  | _, _, _, .nil, .nil => rfl
  | _, _, _, .cons r t, .cons r' t' => by rw [r.inj r', Vals.inj t t']
section
variable {X : Cx} {pins : List (Addr × Obj)} {σ : St} {H : Hp} {s : Shared} {a : Addr} {xs ys : List V}
theorem SqL.of {K : PySem.W.Frag} (h : H a = some (.lst xs)) : SqL K H a xs := .inl (.inl h)
theorem SqT.of {K : PySem.W.Frag} (h : H a = some (.tup xs)) : SqT K H a xs := .inl (.inl h)
theorem Inv.list (I : Inv X pins σ H s) (h : SqL X.K H a xs) : ∃ its : List Value, Vals xs its ∧ PlainL s.heap a its.toArray ∧ xs.length ≤ sizeLine := by
  rcases h with h | ⟨o, its, n, hk, hc, hd, hs, hz, r⟩
  · obtain ⟨z, its, n, r, e⟩ := h.ok I.hok
    exact ⟨its, r, ⟨_, n, e, rfl, rfl, rfl⟩, z⟩
  · refine ⟨its.toList, r, ⟨o, n, I.kIn a o hk, hc, hd, by simpa using hs⟩, ?_⟩
    have e := r.length
    simp only [Array.length_toList] at e
    omega
theorem Inv.tuple (I : Inv X pins σ H s) (h : SqT X.K H a xs) : ∃ its : List Value, Vals xs its ∧ IsTup s.heap a its.toArray ∧ xs.length ≤ sizeLine := by
  rcases h with h | ⟨o, its, n, hk, hc, hs, hz, r⟩
  · obtain ⟨z, its, r, p⟩ := h.ok I.hok
    exact ⟨its, r, p, z⟩
  · refine ⟨its.toList, r, ⟨o, I.kIn a o hk, hc, n, by simpa using hs⟩, ?_⟩
    have e := r.length
    simp only [Array.length_toList] at e
    omega
theorem Inv.list_inj (I : Inv X pins σ H s) (h : SqL X.K H a xs) (h' : SqL X.K H a ys) : xs = ys := by
  obtain ⟨its, r, ⟨o, n, e, _, _, d⟩, _⟩ := I.list h
  obtain ⟨its', r', ⟨o', n', e', _, _, d'⟩, _⟩ := I.list h'
  rw [e] at e'; cases e'
  rw [d] at d'
  injection d' with d1 _
  have : its = its' := by simpa using congrArg Array.toList d1
  subst this
  exact r.inj r'
end
abbrev Cx.wish (X : Cx) (E : Value → Shared → Prop) : Cx := { X with xe := E }
abbrev Cx.nox (X : Cx) : Cx := X.wish fun _ _ => False
theorem Cx.Ok.wish {X : Cx} (ok : X.Ok) (E : Value → Shared → Prop) : (X.wish E).Ok :=
  ⟨ok.mod, ok.kind, ok.glob, ok.blt, ok.above, ok.inj, ok.has, ok.cab, ok.hd, ok.frames, ok.stk, ok.exf, ok.bs, ok.bsz, ok.noex, ok.exfs, ok.funs, ok.frf⟩
theorem Cx.Ok.unwish {X : Cx} {E : Value → Shared → Prop} (ok : (X.wish E).Ok) : X.Ok :=
  ⟨ok.mod, ok.kind, ok.glob, ok.blt, ok.above, ok.inj, ok.has, ok.cab, ok.hd, ok.frames, ok.stk, ok.exf, ok.bs, ok.bsz, ok.noex, ok.exfs, ok.funs, ok.frf⟩
section
variable {X : Cx} {pins : List (Addr × Obj)} {σ : St} {H : Hp} {s : Shared} {E : Value → Shared → Prop}
theorem Inv.wish (I : Inv X pins σ H s) (E : Value → Shared → Prop) : Inv (X.wish E) pins σ H s := ⟨I.ok.wish E, I.os, I.bare, I.base, I.loc, I.cell, I.free, I.freeC, I.pin, I.hok, I.len⟩
theorem Inv.unwish (I : Inv (X.wish E) pins σ H s) : Inv X pins σ H s := ⟨I.ok.unwish, I.os, I.bare, I.base, I.loc, I.cell, I.free, I.freeC, I.pin, I.hok, I.len⟩
theorem SP.unwish {D : Ends} {f : Flow} {s' : Shared} (h : SP (X.wish E) pins D f s') : SP X pins D f s' := by
  cases f with
  | next => obtain ⟨σ', H', I, q⟩ := h; exact ⟨σ', H', I.unwish, q⟩
  | brk => obtain ⟨σ', H', I, q⟩ := h; exact ⟨σ', H', I.unwish, q⟩
  | cont => obtain ⟨σ', H', I, q⟩ := h; exact ⟨σ', H', I.unwish, q⟩
  | ret u => obtain ⟨v, σ', H', I, r, q⟩ := h; exact ⟨v, σ', H', I.unwish, r, q⟩
theorem PSs.nox {st : List Stmt} {t : TS} (h : PSs X.nox st t) : PSs X st t := fun pins s σ H D I hw =>
  wpAny_mono (h pins s σ H D (I.wish _) hw) (fun _ _ q => q.unwish) fun _ _ z => False.elim z
end
section
variable {X : Cx} {st : Stmt} {rest : List Stmt} {t u : TS} {e : Expr} {te : TE} {pos : Pos}
noncomputable def tNext : TS := fun D σ H => D.nx σ H
noncomputable def tSeq (t u : TS) : TS := fun D σ H => t { D with nx := u D } σ H
theorem pss_nil : PSs X [] tNext := fun _ _ σ H _ I h => wpAny_execs_nil ⟨σ, H, I, h⟩
theorem pss_cons (h1 : PS X st t) (h2 : PSs X rest u) : PSs X (st :: rest) (tSeq t u) := by
  intro pins s σ H D I h
  refine wpAny_execs_cons (thn (h1 pins s σ H { D with nx := u D } I h) fun f s1 q => ?_)
  cases f with
  | next =>
    obtain ⟨σ', H', I', q⟩ := q
    exact h2 pins s1 σ' H' D I' q
  | ret v => exact q
  | brk => exact q
  | cont => exact q
theorem pss_one (h1 : PS X st t) : PSs X [st] t := by
  intro pins s σ H D I h
  refine wpAny_execs_cons (thn (h1 pins s σ H D I h) fun f s1 q => ?_)
  cases f with
  | next => exact wpAny_execs_nil q
  | ret v => exact q
  | brk => exact q
  | cont => exact q
theorem Inv.quiet {pins : List (Addr × Obj)} {σ : St} {H : Hp} {s : Shared} (I : Inv X pins σ H s) : interactive X.env = false := by simp [interactive, I.ok.kind]
noncomputable def tDrop (te : TE) : TS := fun D σ H => te σ H fun _ H1 => D.nx σ H1
theorem ps_expr (he : PE X e te) (hs : swapsWith e none pos.line X.env = pure false := by rfl) : PS X (.Expr e pos) (tDrop te) := by
  intro pins s σ H D I h
  exact wpAny_Expr_any (thn (he pins s σ H _ I h) fun v s1 ⟨x, H1, I1, r1, q1⟩ => ⟨σ, H1, I1, q1⟩) I.quiet hs
noncomputable def tRet (te : TE) : TS := fun D σ H => te σ H D.rt
theorem ps_ret (he : PE X e te) : PS X (.Return (some e) pos) (tRet te) := by
  intro pins s σ H D I h
  exact wpAny_Return_some (thn (he pins s σ H _ I h) fun v s1 ⟨x, H1, I1, r1, q1⟩ => ⟨x, σ, H1, I1, r1, q1⟩)
noncomputable def tIfS (c : TT) (t u : TS) : TS := fun D σ H => c σ H fun b H1 => if b = true then t D σ H1 else u D σ H1
theorem ps_if {c : Expr} {a b : List Stmt} {tc : TT} (hc : PT X c tc) (ha : PSs X a t) (hb : PSs X b u) : PS X (.If c a b pos) (tIfS tc t u) := by
  intro pins s σ H D I h
  refine wpAny_If (thn (hc pins s σ H _ I h) fun d s1 ⟨H1, I1, q1⟩ => ?_)
  cases d with
  | true => exact ha pins s1 σ H1 D I1 q1
  | false => exact hb pins s1 σ H1 D I1 q1
noncomputable def tNever : TS := fun _ _ _ => False
theorem ps_never : PS X st tNever := fun _ _ _ _ _ _ h => h.elim
end
abbrev TG := V → St → Hp → (St → Hp → Prop) → Prop
abbrev TGs := List V → St → Hp → (St → Hp → Prop) → Prop
noncomputable def PG (X : Cx) (target : Expr) (t : TG) : Prop :=
  ∀ (pins : List (Addr × Obj)) (s : Shared) (σ : St) (H : Hp) (v : V) (u : Value) (Q : St → Hp → Prop), Inv X pins σ H s → RelV v u → t v σ H Q →
    wpAny (model X.prog X.w) X.A (assign target X.env u) (fun _ s' => ∃ σ' H', Inv X pins σ' H' s' ∧ Q σ' H') X.xe s
noncomputable def PGs (X : Cx) (ts : List Expr) (t : TGs) : Prop :=
  ∀ (pins : List (Addr × Obj)) (s : Shared) (σ : St) (H : Hp) (vs : List V) (us : List Value) (Q : St → Hp → Prop), Inv X pins σ H s → Vals vs us → t vs σ H Q →
    wpAny (model X.prog X.w) X.A (assignInOrder ((assignEach ts X.env).map (·.2)) us) (fun _ s' => ∃ σ' H', Inv X pins σ' H' s' ∧ Q σ' H') X.xe s
abbrev TSet := V → V → V → Hp → (Hp → Prop) → Prop
noncomputable def PSet (X : Cx) (t : TSet) : Prop :=
  ∀ (pins : List (Addr × Obj)) (s : Shared) (σ : St) (H : Hp) (o i v : V) (ov iv u : Value) (Q : Hp → Prop), Inv X pins σ H s → RelV o ov → RelV i iv → RelV v u → t o i v H Q →
    wpAny (model X.prog X.w) X.A (setItem ov iv u) (fun _ s' => ∃ H', Inv X pins σ H' s' ∧ Q H') X.xe s
section
variable {X : Cx} {pos : Pos}
noncomputable def gName (i : Nat) : TG := fun v σ H Q => Q (σ.set i (some v)) H
theorem pg_name {i : Nat} {x : Str} (hN : X.N.Nodup) (hi : X.N[i]? = some x) (hx : Loc X.env.scope x) (hf : X.fn x = true ∨ X.env.scope.names.lookup x = some .local := by first | exact .inl rfl | exact .inr rfl | assumption) : PG X (.Name x pos) (gName i) := by
  intro pins s σ H v u Q I r h
  exact wpAny_assign_Name (store_ok I hN hi hx r (fun s' I' => ⟨_, H, I', h⟩) hf)
noncomputable def gNil : TGs := fun vs σ H Q => vs = [] ∧ Q σ H
noncomputable def gCons (t : TG) (u : TGs) : TGs := fun vs σ H Q => ∃ v r, vs = v :: r ∧ t v σ H fun σ' H' => u r σ' H' Q
theorem pgs_nil : PGs X [] gNil := by
  intro pins s σ H vs us Q I r h
  obtain ⟨e, h⟩ := h
  subst e
  cases r
  exact assignInOrder_nil ⟨σ, H, I, h⟩
theorem pgs_cons {e : Expr} {es : List Expr} {t : TG} {u : TGs} (h1 : PG X e t) (h2 : PGs X es u)
    (hs : (assignEach (e :: es) X.env).map (·.2) = assign e X.env :: (assignEach es X.env).map (·.2) := by rfl) : PGs X (e :: es) (gCons t u) := by
  intro pins s σ H vs us Q I r h
  obtain ⟨v, vr, e1, h⟩ := h
  subst e1
  cases r with
  | cons r rr =>
    rw [hs]
    refine assignInOrder_cons (thn (h1 pins s σ H _ _ _ I r h) fun _ s1 ⟨σ1, H1, I1, q1⟩ => ?_)
    exact h2 pins s1 σ1 H1 _ _ Q I1 rr q1
noncomputable def gTup (K : PySem.W.Frag) (n : Nat) (t : TGs) : TG := fun v σ H Q => ∃ a xs, v = .ref a ∧ SqT K H a xs ∧ xs.length = n ∧ t xs σ H Q
theorem pg_tup {es : List Expr} {k : Nat} {t : TGs} {n : Nat} (hc : X.calm = true) (h : PGs X es t)
    (hn : (assignEach es X.env).length = n := by rfl) (hst : (assignEach es X.env).findIdx? (·.1) = none := by rfl) : PG X (.Tuple es k pos) (gTup X.K n t) := by
  intro pins s σ H v u Q I r hw
  obtain ⟨a, xs, e1, hq, hl, hw⟩ := hw
  subst e1
  cases r
  obtain ⟨its, rv, ht, hz⟩ := I.tuple hq
  refine assign_Tuple_tuple (I.ok.hd hc) ht (by simp [hn, ← hl, rv.length]) hst fun h' hx => ?_
  have I1 : Inv X pins σ H { s with heap := h' } := I.kept (t' := s.toks) fun b o e => hx b o (Nat.ne_of_lt (Heap.lt_size e)) e
  exact h pins _ σ H xs _ Q I1 (by simpa using rv) hw
noncomputable def gSub (to ti : TE) (t : TSet) : TG := fun v σ H Q => to σ H fun o H1 => ti σ H1 fun i H2 => t o i v H2 fun H3 => Q σ H3
theorem pg_sub {o i : Expr} {to ti : TE} {t : TSet} (ho : PE X o to) (hi : PE X i ti) (hs : PSet X t)
    (ha : ∀ v, assign (.Subscript o i pos) X.env v = (do
      let ov ← holding [v] (eval o X.env)
      let iv ← holding [v, ov] (eval i X.env)
      standAt pos
      holding [v, ov, iv] (setItem ov iv v)
      release [v, ov, iv] []) := by intro _; rfl) : PG X (.Subscript o i pos) (gSub to ti t) := by
  intro pins s σ H v u Q I r h
  rw [ha]
  refine wpAny_bind (wpAny_holding (thn (ho pins s σ H _ I h) fun ov s1 ⟨x, H1, I1, r1, q1⟩ => ?_))
  refine wpAny_bind (wpAny_holding (thn (hi pins s1 σ H1 _ I1 q1) fun iv s2 ⟨y, H2, I2, r2, q2⟩ => ?_))
  refine wpAny_bind (wpAny_standAt (wpAny_bind (wpAny_holding (thn (hs pins s2 σ H2 x y v ov iv u _ I2 r1 r2 r q2) fun _ s3 ⟨H3, I3, q3⟩ => ?_))))
  exact wpAny_release ⟨σ, H3, I3, q3⟩
noncomputable def tAsg (te : TE) (g : TG) : TS := fun D σ H => te σ H fun x H1 => g x σ H1 D.nx
theorem ps_asg {tg e : Expr} {te : TE} {g : TG} (he : PE X e te) (hg : PG X tg g) (hs : swapsWithSole [tg] e pos.line X.env = pure false := by rfl) (hw : swappedStores [tg] e X.env = pure none := by rfl)
    (h1 : (assignEach [tg] X.env).map (·.2) = [assign tg X.env] := by rfl) : PS X (.Assign [tg] e pos) (tAsg te g) := by
  intro pins s σ H D I h
  refine wpAny_Assign_stores (thn (he pins s σ H _ I h) fun v s1 ⟨x, H1, I1, r1, q1⟩ => ?_) hs hw
  rw [h1]
  exact thn (hg pins s1 σ H1 x v _ I1 r1 q1) fun _ s2 q => q
theorem ps_set {i : Nat} {x : Str} {e : Expr} {te : TE} {pos' : Pos} (hN : X.N.Nodup) (hi : X.N[i]? = some x) (hx : Loc X.env.scope x) (he : PE X e te) (hs : swapsWith e (some (.Name x pos')) pos.line X.env = pure false := by rfl) (hf : X.fn x = true ∨ X.env.scope.names.lookup x = some .local := by first | exact .inl rfl | exact .inr rfl | assumption) :
    PS X (.Assign [.Name x pos'] e pos) (tAsg te (gName i)) := by
  intro pins s σ H D I h
  refine wpAny_Assign_Name (thn (he pins s σ H _ I h) fun v s1 ⟨y, H1, I1, r1, q1⟩ => ?_) hs
  exact store_ok I1 hN hi hx r1 (fun s2 I2 => ⟨_, H1, I2, q1⟩) hf
end
section
variable {X : Cx} {pos : Pos}
noncomputable def tWhile (c : TT) (tb : TS) : TS := fun D σ H => ∃ W : Nat → St → Hp → Prop, (∃ m, W m σ H) ∧ ∀ m σ H, W m σ H →
  c σ H fun b H1 => if b = true then ∃ N : St → Hp → Prop, (∀ σ' H', N σ' H' → ∃ m', m' < m ∧ W m' σ' H') ∧ tb { D with nx := N, ct := N, bk := D.nx } σ H1 else D.nx σ H1
theorem ps_while {c : Expr} {body : List Stmt} {tc : TT} {tb : TS} (hp : PassesOwn (model X.prog X.w) X.A X.env X.xe) (hc : PT X c tc) (hb : PSs X body tb) : PS X (.While c body [] pos) (tWhile tc tb) := by
  intro pins s σ H D I h
  obtain ⟨W, ⟨m0, w0⟩, turn⟩ := h
  refine wpAny_While (codeAny_whileLoop (fun n s' => ∃ σ' H', Inv X pins σ' H' s' ∧ W n σ' H') ?_ m0 ⟨σ, H, I, w0⟩)
  rintro n s1 ⟨σ1, H1, I1, w1⟩
  refine wpAny_passesOwn hp (thn (hc pins s1 σ1 H1 _ I1 (turn n σ1 H1 w1)) fun b s2 ⟨H2, I2, q2⟩ => ?_)
  cases b with
  | true =>
    obtain ⟨N, hN, q2⟩ := q2
    rw [if_pos rfl]
    refine wpAny_passesOwn hp (thn (hb pins s2 σ1 H2 _ I2 q2) fun f s3 q3 => ?_)
    cases f with
    | next =>
      obtain ⟨σ3, H3, I3, n3⟩ := q3
      obtain ⟨m', hm, w3⟩ := hN σ3 H3 n3
      exact ⟨m', hm, σ3, H3, I3, w3⟩
    | cont =>
      obtain ⟨σ3, H3, I3, n3⟩ := q3
      obtain ⟨m', hm, w3⟩ := hN σ3 H3 n3
      exact ⟨m', hm, σ3, H3, I3, w3⟩
    | brk => exact q3
    | ret v => exact q3
  | false =>
    rw [if_neg Bool.false_ne_true]
    exact wpAny_execs_nil ⟨σ1, H2, I2, q2⟩
end
structure It where
  go : Nat → Hp → Prop
  yld : Nat → Hp → V → Hp → Prop
  stop : Nat → Hp → Prop
noncomputable def FpOk (X : Cx) (pins : List (Addr × Obj)) (H : Hp) (b : Addr) : Prop :=
  H b = none ∧ b ≠ X.env.locals ∧ b ∉ X.fs ∧ (b ∈ X.ex ∨ X.s₀.heap.objs.size ≤ b) ∧ (∀ x c, X.env.cells.lookup x = some c → c ≠ b) ∧ ∀ p ∈ X.pn ++ pins, p.1 ≠ b
theorem Inv.fpOk {X : Cx} {pins : List (Addr × Obj)} {σ : St} {H H' : Hp} {s : Shared} {b : Addr} (I : Inv X pins σ H s) (hb : s.heap.objs.size ≤ b) (hn : H' b = none) : FpOk X pins H' b := by
  refine ⟨hn, Nat.ne_of_gt (Nat.lt_of_lt_of_le I.lt hb), I.nofs hb, .inr (Nat.le_trans I.sz hb), fun x c e z => ?_, fun p hp z => ?_⟩
  · obtain ⟨v, q⟩ := I.cell x c e
    exact absurd (Nat.lt_of_lt_of_le q.lt (by rw [z]; exact hb)) (Nat.lt_irrefl _)
  · exact absurd (Nat.lt_of_lt_of_le (Heap.lt_size (I.pin p hp).1) (by rw [z]; exact hb)) (Nat.lt_irrefl _)
structure Turn (P : Program) (w : World) (K : PySem.W.Frag) (tg : Expr) (J : It) (fp : List Addr) (it : Addr) (tn : Nat → Heap → Prop) : Prop where
  mem : it ∈ fp
  obj : ∀ i h, tn i h → ∀ b ∈ fp, ∃ o, h.get? b = some o ∧ ∀ v, o.data ≠ .cell v
  keep : ∀ i h h', tn i h → (∀ b ∈ fp, ∀ o, h.get? b = some o → h'.get? b = some o) → tn i h'
  item : ∀ (X : Cx), X.prog = P → X.w = w → X.K = K → X.calm = true → ∀ (i : Nat) (pins : List (Addr × Obj)) (s : Shared) (σ : St) (H : Hp) (E : Value → Shared → Prop), Inv X pins σ H s → (∀ b ∈ fp, FpOk X pins H b) → tn i s.heap → J.go i H →
    wpAny (model P w) X.A (pyNext (.ref it)) (fun r s1 => ∃ u, r = some u ∧
      wpAny (model P w) X.A (letOwnedTupleGo tg (.ref it) u) (fun _ s2 => ∃ x H', Inv X pins σ H' s2 ∧ RelV x u ∧ J.yld i H x H' ∧ tn (i + 1) s2.heap ∧ ∀ b ∈ fp, H' b = none) E s1) E s
  done : ∀ (X : Cx), X.prog = P → X.w = w → X.K = K → X.calm = true → ∀ (i : Nat) (pins : List (Addr × Obj)) (s : Shared) (σ : St) (H : Hp) (E : Value → Shared → Prop), Inv X pins σ H s → (∀ b ∈ fp, FpOk X pins H b) → tn i s.heap → J.stop i H →
    wpAny (model P w) X.A (pyNext (.ref it)) (fun r s1 => r = none ∧ Inv X pins σ H s1) E s
  self : ∀ (A : Around) (i : Nat) (s : Shared) (Q : Value → Shared → Prop) (E : Value → Shared → Prop), tn i s.heap → Q (.ref it) s → wpAny (model P w) A (pyIter (.ref it)) Q E s
abbrev TI := St → Hp → (It → Hp → Prop) → Prop
noncomputable def PIE (X : Cx) (pins : List (Addr × Obj)) (σ : St) (tg : Expr) (R : It → Hp → Prop) (itv : Value) (s2 : Shared) : Prop :=
  ∃ (it : Addr) (fp : List Addr) (tn : Nat → Heap → Prop) (J : It) (H' : Hp), itv = .ref it ∧ Inv X pins σ H' s2 ∧ Turn X.prog X.w X.K tg J fp it tn ∧ tn 0 s2.heap ∧ (∀ b ∈ fp, FpOk X pins H' b) ∧ R J H'
noncomputable def PI (X : Cx) (tg iter : Expr) (wi : TI) : Prop :=
  ∀ (pins : List (Addr × Obj)) (s : Shared) (σ : St) (H : Hp) (R : It → Hp → Prop), Inv X pins σ H s → wi σ H R →
    wpAny (model X.prog X.w) X.A (eval iter X.env) (fun v s1 => wpAny (model X.prog X.w) X.A (pyIter v) (PIE X pins σ tg R) X.xe s1) X.xe s
theorem go_of {M : Model} {A : Around} {E : Value → Shared → Prop} {s : Shared} {tg : Expr} {it : Addr} {u : Value} {o : Obj} {n : String} {vs : Array Value} {Q : Unit → Shared → Prop} (ho : s.heap.get? it = some o) (hc : o.cls = .type n) (hd : o.data = .fields vs)
    (hn : ["enumerate", "zip", "dict_itemiterator", "dict_reverseitemiterator", "odict_iterator", "itertools.zip_longest", "itertools.pairwise"].contains n = false) (hQ : Q () s) : wpAny M A (letOwnedTupleGo tg (.ref it) u) Q E s := by
  unfold letOwnedTupleGo
  cases tg <;> first
    | exact wpAny_pure hQ
    | (cases u <;> first
        | exact wpAny_pure hQ
        | (refine wpAny_bind (wpAny_load ho ?_)
           rw [hc, hd]
           show wpAny M A (if (["enumerate", "zip", "dict_itemiterator", "dict_reverseitemiterator", "odict_iterator", "itertools.zip_longest", "itertools.pairwise"].contains n && vs[0]? == some (rawInt _)) = true then _ else _) Q E s
           rw [if_neg (by intro h; rw [hn, Bool.false_and] at h; cases h)]
           exact wpAny_pure hQ))
noncomputable def Itl (K : PySem.W.Frag) (a : Addr) : It :=
  ⟨fun i H => ∃ xs x, SqL K H a xs ∧ xs[i]? = some x, fun i H x H' => H' = H ∧ ∀ xs, SqL K H a xs → xs[i]? = some x, fun i H => ∃ xs, SqL K H a xs ∧ xs.length ≤ i⟩
noncomputable def Itr (lo : Int) (n : Nat) : It := ⟨fun i _ => i < n, fun i H x H' => H' = H ∧ x = .int (lo + i), fun i _ => n ≤ i⟩
theorem turn_list {P : Program} {w : World} {K : PySem.W.Frag} {tg : Expr} (a it : Addr) : Turn P w K tg (Itl K a) [it] it (fun i h => h.IsListIter it a i) where
  mem := by simp
  obj := fun i h st b hb => by
    have e : b = it := by simpa using hb
    subst e
    obtain ⟨o, e, c, d⟩ := st
    exact ⟨o, e, fun v z => by rw [d] at z; cases z⟩
  keep := fun i h h' st k => st.at fun o e => k it (by simp) o e
  item := by
    intro X hP hw hK hc i pins s σ H E I hf st hg
    subst hP hw hK
    obtain ⟨xs, x, hq, hx⟩ := hg
    obtain ⟨its, rv, p, hz⟩ := I.list hq
    obtain ⟨u, hu, ru⟩ := rv.get hx
    obtain ⟨f0, f1, f2, f3, f4, f5⟩ := hf it (by simp)
    refine wpAny_pyNext_list_item st p.isList (x := u) (by simpa using hu) fun h' st' sb => ?_
    have I1 : Inv X pins σ H { s with heap := h' } := I.turned (t' := s.toks) (fun b o hb e => (sb.2 b hb).trans e) f0 f1 f3 f4 f5
    obtain ⟨o, e, c, d⟩ := id st'
    exact ⟨u, rfl, go_of (s := { s with heap := h' }) e c d (by decide) ⟨x, H, I1, ru, ⟨rfl, fun ys hy => by rw [I.list_inj hy hq]; exact hx⟩, st', fun b hb => (hf b hb).1⟩⟩
  done := by
    intro X hP hw hK hc i pins s σ H E I hf st hg
    subst hP hw hK
    obtain ⟨xs, hq, hx⟩ := hg
    obtain ⟨its, rv, p, hz⟩ := I.list hq
    obtain ⟨f0, f1, f2, f3, f4, f5⟩ := hf it (by simp)
    have hl := rv.length
    exact wpAny_pyNext_list_end (I.ok.hd hc) st p.isList (by simp; omega) fun h' eb => ⟨rfl, I.turned (t' := s.toks) (fun b o hb e => eb b o hb e) f0 f1 f3 f4 f5⟩
  self := fun _ _ _ _ _ st h => wpAny_pyIter_listiter st h
theorem turn_range {P : Program} {w : World} {K : PySem.W.Frag} {tg : Expr} (it : Addr) (lo : Int) (n : Nat) : Turn P w K tg (Itr lo n) [it] it (fun i h => IsRangeIter h it (lo + (i : Nat) * 1) ((n : Int) - (i : Nat)) 1) where
  mem := by simp
  obj := fun i h st b hb => by
    have e : b = it := by simpa using hb
    subst e
    exact ⟨_, st, fun v z => by
      have z' : Data.fields _ = Data.cell v := z
      cases z'⟩
  keep := fun i h h' st k => k it (by simp) _ st
  item := by
    intro X hP hw hK hc i pins s σ H E I hf st hg
    subst hP hw hK
    obtain ⟨f0, f1, f2, f3, f4, f5⟩ := hf it (by simp)
    have W := Walks.range (prog := X.prog) (w := X.w) (I.ok.hd hc) it lo 1 n
    refine W.item i s _ _ hg st fun v h' tk hv st' kk => ?_
    obtain ⟨t, rfl⟩ := hv
    have I1 : Inv X pins σ H { s with heap := h', toks := tk } := I.turned (fun b o hb e => kk b o (by simpa using hb) e) f0 f1 f3 f4 f5
    refine ⟨_, rfl, go_of (s := { s with heap := h', toks := tk }) (n := "range_iterator") st' rfl rfl (by decide) ⟨.int (lo + i), H, I1, ⟨t, ?_⟩, ⟨rfl, rfl⟩, st', fun b hb => (hf b hb).1⟩⟩
    rw [Int.mul_one]
  done := by
    intro X hP hw hK hc i pins s σ H E I hf st hg
    subst hP hw hK
    obtain ⟨f0, f1, f2, f3, f4, f5⟩ := hf it (by simp)
    exact wpAny_pyNext_range_end (I.ok.hd hc) st (by have : n ≤ i := hg; omega) fun h' eb => ⟨rfl, I.turned (t' := s.toks) (fun b o hb e => eb b o hb e) f0 f1 f3 f4 f5⟩
  self := fun _ _ _ _ _ st h => wpAny_pyIter_rangeiter st h
end L2
namespace L2
open PySem PySem.Spec PyProof.Rows
section
variable {X : Cx} {tg : Expr}
noncomputable def iList (K : PySem.W.Frag) (tl : TE) : TI := fun σ H R => tl σ H fun x H1 => ∃ a, x = .ref a ∧ (∃ xs, SqL K H1 a xs) ∧ R (Itl K a) H1
theorem pi_list {l : Expr} {tl : TE} (hl : PE X l tl) : PI X tg l (iList X.K tl) := by
  intro pins s σ H R I h
  refine thn (hl pins s σ H _ I h) fun v s1 ⟨x, H1, I1, r1, q1⟩ => ?_
  obtain ⟨a, e, ⟨xs, hq⟩, q⟩ := q1
  subst e
  cases r1
  obtain ⟨its, rv, p, hz⟩ := I1.list hq
  refine wpAny_pyIter_list p.isList ?_
  refine ⟨s1.heap.objs.size, [s1.heap.objs.size], _, _, H1, rfl, I1.kept (t' := s1.toks) fun b o e => Heap.get?_push_of_some _ e, turn_list a _, ⟨_, Heap.get?_push_size _ rfl, rfl, rfl⟩, fun b hb => ?_, q⟩
  have e : b = s1.heap.objs.size := by simpa using hb
  subst e
  exact I1.fpOk (Nat.le_refl _) (I1.hok.fresh (Nat.le_refl _))
theorem range_it {pins : List (Addr × Obj)} {σ : St} {H : Hp} {s : Shared} {R : It → Hp → Prop} {E : Value → Shared → Prop} {lo hi : Int} {t u v : Tok} {tk : Nat} (I : Inv X pins σ H s) (h1 : -(2 ^ 62) ≤ lo) (h2 : lo < 2 ^ 62) (h3 : -(2 ^ 62) ≤ hi) (h4 : hi < 2 ^ 62)
    (q : R (Itr lo (hi - lo).toNat) H) : wpAny (model X.prog X.w) X.A (pyIter (.ref s.heap.objs.size)) (PIE X pins σ tg R) E { s with heap := s.heap.push { cls := .type "range", data := .fields #[.int lo t, .int hi u, .int 1 v] }, toks := tk } := by
  refine wpAny_pyIter_range (IsRange.new ..) (small_one h1 h2 h3 h4) ?_
  have I1 : Inv X pins σ H { s with heap := s.heap.push { cls := .type "range", data := .fields #[.int lo t, .int hi u, .int 1 v] }, toks := tk } := I.kept fun b o e => Heap.get?_push_of_some _ e
  refine ⟨(s.heap.push { cls := .type "range", data := .fields #[.int lo t, .int hi u, .int 1 v] }).objs.size, [(s.heap.push { cls := .type "range", data := .fields #[.int lo t, .int hi u, .int 1 v] }).objs.size], _, _, H, rfl,
    I1.kept (t' := tk) fun b o e => Heap.get?_push_of_some _ e, turn_range _ lo (hi - lo).toNat, ?_, fun b hb => ?_, q⟩
  · have e1 : lo + ((0 : Nat) : Int) * 1 = lo := by simp
    have e2 : (((hi - lo).toNat : Nat) : Int) - ((0 : Nat) : Int) = Builtin.Range.rangeSize lo hi 1 := by rw [rangeSize_one]; split <;> omega
    show IsRangeIter _ _ (lo + ((0 : Nat) : Int) * 1) ((((hi - lo).toNat : Nat) : Int) - ((0 : Nat) : Int)) 1
    rw [e1, e2]
    exact Heap.get?_push_size _ rfl
  · have e : b = (s.heap.push { cls := .type "range", data := .fields #[.int lo t, .int hi u, .int 1 v] }).objs.size := by simpa using hb
    subst e
    exact I1.fpOk (Nat.le_refl _) (I1.hok.fresh (Nat.le_refl _))
noncomputable def iRng1 (ta : TA) : TI := fun σ H R => ta σ H fun vs H1 => ∃ j : Int, vs = [.int j] ∧ -(2 ^ 62) ≤ j ∧ j < 2 ^ 62 ∧ R (Itr 0 j.toNat) H1
noncomputable def iRng2 (ta : TA) : TI := fun σ H R => ta σ H fun vs H1 => ∃ i j : Int, vs = [.int i, .int j] ∧ (-(2 ^ 62) ≤ i ∧ i < 2 ^ 62 ∧ -(2 ^ 62) ≤ j ∧ j < 2 ^ 62) ∧ R (Itr i (j - i).toNat) H1
theorem pi_range1 {a : Expr} {ta : TA} {p pos : Pos} (hg : Gl X "range") (hm : X.mg "range" = none) (ha : PA X [a] ta) (hs : starEach [a] X.env = [(false, eval a X.env)] := by rfl) : PI X tg (.Call (.Name "range" p) [a] [] pos) (iRng1 ta) := by
  intro pins s σ H R I h
  refine Call_ (ld_blt I hg hm boot_range (PyProof.Rows.callWith_type1 (thn (ha pos pins s σ H _ I h) fun us s1 ⟨vs, H1, I1, r1, q1⟩ => ?_) hs rfl))
  obtain ⟨j, e, q1, q2, q⟩ := q1
  subst e
  cases r1 with
  | cons r rr =>
    cases rr
    obtain ⟨t, rfl⟩ := r
    exact call_range_1 (range_it I1 (by omega) (by omega) q1 q2 (by simpa using q))
theorem pi_range2 {a b : Expr} {ta : TA} {p pos : Pos} (hg : Gl X "range") (hm : X.mg "range" = none) (ha : PA X [a, b] ta) (hs : starEach [a, b] X.env = [(false, eval a X.env), (false, eval b X.env)] := by rfl) (hs2 : starEach [b] X.env = [(false, eval b X.env)] := by rfl) :
    PI X tg (.Call (.Name "range" p) [a, b] [] pos) (iRng2 ta) := by
  intro pins s σ H R I h
  refine Call_ (ld_blt I hg hm boot_range (PyProof.Rows.callWith_type1 (thn (ha pos pins s σ H _ I h) fun us s1 ⟨vs, H1, I1, r1, q1⟩ => ?_) (by rw [hs, hs2]) (by rw [hs2]; rfl)))
  obtain ⟨i, j, e, ⟨q1, q2, q3, q4⟩, q⟩ := q1
  subst e
  cases r1 with
  | cons r rr =>
    cases rr with
    | cons r' rr =>
      cases rr
      obtain ⟨t, rfl⟩ := r
      obtain ⟨t', rfl⟩ := r'
      exact call_range_2 (range_it I1 q1 q2 q3 q4 q)
noncomputable def tFor (wi : TI) (g : TG) (tb : TS) : TS := fun D σ H => wi σ H fun J H1 => ∃ W : Nat → Nat → St → Hp → Prop, (∃ m, W 0 m σ H1) ∧ ∀ i m σ H, W i m σ H →
  (J.stop i H ∧ D.nx σ H) ∨ (J.go i H ∧ ∃ N : St → Hp → Prop, (∀ σ' H', N σ' H' → ∃ m', m' < m ∧ W (i + 1) m' σ' H') ∧ ∀ x H', J.yld i H x H' → g x σ H' fun σ2 H2 => tb { D with nx := N, ct := N, bk := D.nx } σ2 H2)
noncomputable def pinsAt (fp : List Addr) (h : Heap) : List (Addr × Obj) := fp.filterMap fun b => (h.get? b).map fun o => (b, o)
theorem mem_pinsAt {fp : List Addr} {h : Heap} {b : Addr} {o : Obj} (hb : b ∈ fp) (e : h.get? b = some o) : (b, o) ∈ pinsAt fp h := List.mem_filterMap.mpr ⟨b, hb, by rw [e]; rfl⟩
theorem of_pinsAt {fp : List Addr} {h : Heap} {p : Addr × Obj} (hp : p ∈ pinsAt fp h) : p.1 ∈ fp ∧ h.get? p.1 = some p.2 := by
  obtain ⟨b, hb, e⟩ := List.mem_filterMap.mp hp
  cases q : h.get? b with
  | none => rw [q] at e; cases e
  | some o =>
    rw [q] at e
    have e' : (b, o) = p := Option.some.inj e
    subst e'
    exact ⟨hb, q⟩
theorem Inv.pinned {pins : List (Addr × Obj)} {σ : St} {H : Hp} {s : Shared} {fp : List Addr} (I : Inv X pins σ H s) (hf : ∀ b ∈ fp, FpOk X pins H b) (ho : ∀ b ∈ fp, ∃ o, s.heap.get? b = some o ∧ ∀ v, o.data ≠ .cell v) : Inv X (pins ++ pinsAt fp s.heap) σ H s :=
  I.pins_of fun p hp => (List.mem_append.mp hp).elim (fun z => I.pin p (List.mem_append_right _ z)) fun z => by
    obtain ⟨hb, e⟩ := of_pinsAt z
    obtain ⟨f0, f1, f2, _⟩ := hf p.1 hb
    obtain ⟨o, e', d⟩ := ho p.1 hb
    rw [e] at e'; cases e'
    exact ⟨e, f0, f1, f2, d⟩
theorem Inv.unpinned {pins pl : List (Addr × Obj)} {σ : St} {H : Hp} {s : Shared} (I : Inv X (pins ++ pl) σ H s) : Inv X pins σ H s := I.pins_of fun p hp => I.pin p (List.mem_append_right _ (List.mem_append_left _ hp))
theorem ps_for {iter : Expr} {body : List Stmt} {wi : TI} {g : TG} {tb : TS} {pos : Pos} (hp : PassesOwn (model X.prog X.w) X.A X.env X.xe) (hc : X.calm = true) (hi : PI X tg iter wi) (hg : PG X tg g) (hb : PSs X body tb)
    (hs : ∀ x, foldedSetIterable iter X.env x = pure x := by intro _; rfl) : PS X (.For tg iter body [] pos) (tFor wi g tb) := by
  intro pins s σ H D I h
  refine wpAny_For (thn (hi pins s σ H _ I h) fun v s1 h1 => thn h1 fun itv s2 h2 => ?_) hs
  obtain ⟨it, fp, tn, J, H2, e, I2, T, st2, f2, W, ⟨m0, w0⟩, turn⟩ := h2
  subst e
  have stat : ∀ {H' : Hp}, (∀ b ∈ fp, H' b = none) → ∀ b ∈ fp, FpOk X pins H' b := fun hn b hb => ⟨hn b hb, (f2 b hb).2⟩
  refine codeAny_forLoop_any (fun n s' => ∃ i σ' H', Inv X pins σ' H' s' ∧ tn i s'.heap ∧ (∀ b ∈ fp, H' b = none) ∧ W i n σ' H') ?_ m0 ⟨0, σ, H2, I2, st2, fun b hb => (f2 b hb).1, w0⟩
  rintro n s3 ⟨i, σ3, H3, I3, st3, fr3, w3⟩
  rcases turn i n σ3 H3 w3 with ⟨stop, qn⟩ | ⟨go, N, hN, step⟩
  · refine wpAny_passesOwn hp (thn (T.done X rfl rfl rfl hc i pins s3 σ3 H3 X.xe I3 (stat fr3) st3 stop) fun r s4 ⟨hr, I4⟩ => ?_)
    subst hr
    exact wpAny_execs_nil ⟨σ3, H3, I4, qn⟩
  · refine wpAny_passesOwn hp (thn (T.item X rfl rfl rfl hc i pins s3 σ3 H3 X.xe I3 (stat fr3) st3 go) fun r s4 ⟨u, hr, h4⟩ => ?_)
    subst hr
    refine wpAny_passesOwn hp (thn h4 fun _ s5 ⟨x, H5, I5, r5, y5, st5, fr5⟩ => ?_)
    have I5' := I5.pinned (stat fr5) (T.obj _ _ st5)
    refine wpAny_passesOwn hp (thn (hg _ s5 σ3 H5 x u _ I5' r5 (step x H5 y5)) fun _ s6 ⟨σ6, H6, I6, q6⟩ => ?_)
    refine wpAny_passesOwn hp (thn (hb _ s6 σ6 H6 _ I6 q6) fun f s7 q7 => ?_)
    have again : ∀ {σ7 : St} {H7 : Hp}, Inv X (pins ++ pinsAt fp s5.heap) σ7 H7 s7 → N σ7 H7 → ∃ m, m < n ∧ ∃ i σ' H', Inv X pins σ' H' s7 ∧ tn i s7.heap ∧ (∀ b ∈ fp, H' b = none) ∧ W i m σ' H' := fun {σ7 H7} I7 n7 => by
      obtain ⟨m', hm, w7⟩ := hN σ7 H7 n7
      refine ⟨m', hm, i + 1, σ7, H7, I7.unpinned, T.keep _ _ _ st5 fun b hb o e => (I7.pin (b, o) (List.mem_append_right _ (List.mem_append_right _ (mem_pinsAt hb e)))).1, fun b hb => ?_, w7⟩
      obtain ⟨o, e, d⟩ := T.obj _ _ st5 b hb
      exact (I7.pin (b, o) (List.mem_append_right _ (List.mem_append_right _ (mem_pinsAt hb e)))).2.1
    cases f with
    | next => obtain ⟨σ7, H7, I7, n7⟩ := q7; exact again I7 n7
    | cont => obtain ⟨σ7, H7, I7, n7⟩ := q7; exact again I7 n7
    | brk => obtain ⟨σ7, H7, I7, q7⟩ := q7; exact ⟨σ7, H7, I7.unpinned, q7⟩
    | ret v => obtain ⟨x7, σ7, H7, I7, r7, q7⟩ := q7; exact ⟨x7, σ7, H7, I7.unpinned, r7, q7⟩
end
theorem for_list {K : PySem.W.Frag} {a : Addr} {xs : List V} {g : TG} {tb : TS} {D : Ends} {σ : St} {H : Hp} (Pv : Nat → St → Hp → Prop) (h0 : Pv 0 σ H) (hl : ∀ i σ H, i ≤ xs.length → Pv i σ H → SqL K H a xs)
    (hs : ∀ i x σ H, xs[i]? = some x → Pv i σ H → g x σ H fun σ2 H2 => tb { D with nx := Pv (i + 1), ct := Pv (i + 1), bk := D.nx } σ2 H2) (hd : ∀ σ H, Pv xs.length σ H → D.nx σ H) :
    ∃ W : Nat → Nat → St → Hp → Prop, (∃ m, W 0 m σ H) ∧ ∀ i m σ H, W i m σ H →
      ((Itl K a).stop i H ∧ D.nx σ H) ∨ ((Itl K a).go i H ∧ ∃ N : St → Hp → Prop, (∀ σ' H', N σ' H' → ∃ m', m' < m ∧ W (i + 1) m' σ' H') ∧ ∀ x H', (Itl K a).yld i H x H' → g x σ H' fun σ2 H2 => tb { D with nx := N, ct := N, bk := D.nx } σ2 H2) := by
  refine ⟨fun i m σ H => m = xs.length - i ∧ i ≤ xs.length ∧ Pv i σ H, ⟨xs.length, by simp, Nat.zero_le _, h0⟩, ?_⟩
  rintro i m σ H ⟨rfl, hi, p⟩
  have q := hl i σ H hi p
  by_cases hlt : i < xs.length
  · refine .inr ⟨⟨xs, xs[i], q, by simp [hlt]⟩, Pv (i + 1), fun σ' H' p' => ⟨xs.length - (i + 1), by omega, rfl, hlt, p'⟩, fun x H' y => ?_⟩
    obtain ⟨e, y⟩ := y
    subst e
    exact hs i x σ _ (y xs q) p
  · have e : i = xs.length := by omega
    subst e
    exact .inl ⟨⟨xs, q, Nat.le_refl _⟩, hd σ H p⟩
theorem for_range {lo : Int} {n : Nat} {g : TG} {tb : TS} {D : Ends} {σ : St} {H : Hp} (Pv : Nat → St → Hp → Prop) (h0 : Pv 0 σ H)
    (hs : ∀ i σ H, i < n → Pv i σ H → g (.int (lo + i)) σ H fun σ2 H2 => tb { D with nx := Pv (i + 1), ct := Pv (i + 1), bk := D.nx } σ2 H2) (hd : ∀ σ H, Pv n σ H → D.nx σ H) :
    ∃ W : Nat → Nat → St → Hp → Prop, (∃ m, W 0 m σ H) ∧ ∀ i m σ H, W i m σ H →
      ((Itr lo n).stop i H ∧ D.nx σ H) ∨ ((Itr lo n).go i H ∧ ∃ N : St → Hp → Prop, (∀ σ' H', N σ' H' → ∃ m', m' < m ∧ W (i + 1) m' σ' H') ∧ ∀ x H', (Itr lo n).yld i H x H' → g x σ H' fun σ2 H2 => tb { D with nx := N, ct := N, bk := D.nx } σ2 H2) := by
  refine ⟨fun i m σ H => m = n - i ∧ i ≤ n ∧ Pv i σ H, ⟨n, by simp, Nat.zero_le _, h0⟩, ?_⟩
  rintro i m σ H ⟨rfl, hi, p⟩
  by_cases hlt : i < n
  · refine .inr ⟨hlt, Pv (i + 1), fun σ' H' p' => ⟨n - (i + 1), by omega, rfl, hlt, p'⟩, fun x H' y => ?_⟩
    obtain ⟨e, y⟩ := y
    subst e y
    exact hs i σ _ hlt p
  · have e : i = n := by omega
    subst e
    exact .inl ⟨Nat.le_refl _, hd σ H p⟩
theorem while_by {c : TT} {tb : TS} {D : Ends} {σ : St} {H : Hp} (Pv : St → Hp → Prop) (μ : St → Hp → Nat) (h0 : Pv σ H)
    (hs : ∀ σ H, Pv σ H → c σ H fun b H1 => if b = true then tb { D with nx := fun σ' H' => Pv σ' H' ∧ μ σ' H' < μ σ H, ct := fun σ' H' => Pv σ' H' ∧ μ σ' H' < μ σ H, bk := D.nx } σ H1 else D.nx σ H1)
    (mono : ∀ σ H Q Q', (∀ b H1, Q b H1 → Q' b H1) → c σ H Q → c σ H Q') : tWhile c tb D σ H := by
  refine ⟨fun m σ H => m = μ σ H ∧ Pv σ H, ⟨_, rfl, h0⟩, ?_⟩
  rintro m σ H ⟨rfl, p⟩
  refine mono σ H _ _ (fun b H1 q => ?_) (hs σ H p)
  cases b with
  | true => exact ⟨_, fun σ' H' ⟨p', l⟩ => ⟨_, l, rfl, p'⟩, q⟩
  | false => exact q
end L2
namespace L2
open PySem PySem.Spec PyProof.Rows
abbrev R2 := V → V → Hp → VK → Prop
noncomputable def OpR (X : Cx) (f : Value → Value → Sem Value) (r : R2) : Prop :=
  ∀ (pins : List (Addr × Obj)) (s : Shared) (σ : St) (H : Hp) (x y : V) (v u : Value) (Q : VK), Inv X pins σ H s → RelV x v → RelV y u → r x y H Q →
    wpAny (model X.prog X.w) X.A (f v u) (EP X pins σ Q) X.xe s
noncomputable def UnR (X : Cx) (f : Value → Sem Value) (r : V → Hp → VK → Prop) : Prop :=
  ∀ (pins : List (Addr × Obj)) (s : Shared) (σ : St) (H : Hp) (x : V) (v : Value) (Q : VK), Inv X pins σ H s → RelV x v → r x H Q →
    wpAny (model X.prog X.w) X.A (f v) (EP X pins σ Q) X.xe s
noncomputable def CallR (X : Cx) (f : Value) (r : List V → Hp → VK → Prop) : Prop :=
  ∀ (pins : List (Addr × Obj)) (s : Shared) (σ : St) (H : Hp) (xs : List V) (us : List Value) (Q : VK), Inv X pins σ H s → Vals xs us → r xs H Q →
    wpAny (model X.prog X.w) X.A (call f us) (EP X pins σ Q) X.xe s
noncomputable def tOp (r : R2) (ta tb : TE) : TE := fun σ H Q => ta σ H fun x H1 => tb σ H1 fun y H2 => r x y H2 Q
noncomputable def tUn (r : V → Hp → VK → Prop) (ta : TE) : TE := fun σ H Q => ta σ H fun x H1 => r x H1 Q
noncomputable def rI (C : Int → Int → Prop) (g : Int → Int → V) : R2 := fun x y H Q => ∃ i j, x = .int i ∧ y = .int j ∧ C i j ∧ Q (g i j) H
noncomputable def rI0 (g : Int → Int → V) : R2 := fun x y H Q => ∃ i j, x = .int i ∧ y = .int j ∧ Q (g i j) H
noncomputable def rU (g : Int → V) : V → Hp → VK → Prop := fun x H Q => ∃ i, x = .int i ∧ Q (g i) H
section
variable {X : Cx} {a b c : Expr} {ta tb tc : TE} {pos : Pos}
theorem binT (ha : PE X a ta) (hb : PE X b tb) {pins : List (Addr × Obj)} {s : Shared} {σ : St} {H : Hp} {R : V → V → Hp → Prop} (I : Inv X pins σ H s)
    (h : ta σ H fun x H1 => tb σ H1 fun y H2 => R x y H2) {Q : Value → Shared → Prop} {f : Value → Value → Sem Value}
    (hf : ∀ v u s2 x y H2, Inv X pins σ H2 s2 → RelV x v → RelV y u → R x y H2 → wpAny (model X.prog X.w) X.A (f v u) Q X.xe s2) :
    wpAny (model X.prog X.w) X.A (eval a X.env) (fun v s₁ => wpAny (model X.prog X.w) X.A (eval b X.env) (fun u s₂ => wpAny (model X.prog X.w) X.A (f v u) Q X.xe s₂) X.xe s₁) X.xe s := by
  refine thn (ha pins s σ H _ I h) fun v s1 ⟨x, H1, I1, r1, q1⟩ => ?_
  refine thn (hb pins s1 σ H1 _ I1 q1) fun u s2 ⟨y, H2, I2, r2, q2⟩ => ?_
  exact hf v u s2 x y H2 I2 r1 r2 q2
theorem pe_op {op : Operator} {r : R2} (ho : OpR X (binaryOp op) r) (ha : PE X a ta) (hb : PE X b tb) : PE X (.BinOp a op b pos) (tOp r ta tb) := by
  intro pins s σ H Q I h
  exact wpAny_BinOp (binT ha hb I h fun v u s2 x y H2 I2 rx ry q => ho pins s2 σ H2 x y v u Q I2 rx ry q)
theorem pe_un {op : UnaryOp} {r : V → Hp → VK → Prop} (ho : UnR X (unaryOp op) r) (ha : PE X a ta) : PE X (.UnaryOp op a pos) (tUn r ta) := by
  intro pins s σ H Q I h
  exact UnaryOp_ (thn (ha pins s σ H _ I h) fun v s1 ⟨x, H1, I1, r1, q1⟩ => ho pins s1 σ H1 x v Q I1 r1 q1)
theorem opI {f : Value → Value → Sem Value} {C : Int → Int → Prop} {g : Int → Int → Int}
    (rule : ∀ (i j : Int) (t u : Tok) (s : Shared) (Q : Value → Shared → Prop) (E : Value → Shared → Prop), C i j → Q (.int (g i j) s.toks) { s with toks := s.toks + 1 } → wpAny (model X.prog X.w) X.A (f (.int i t) (.int j u)) Q E s) :
    OpR X f (rI C fun i j => .int (g i j)) := by
  intro pins s σ H x y v u Q I rx ry h
  obtain ⟨i, j, rfl, rfl, hc, q⟩ := h
  obtain ⟨t, rfl⟩ := rx
  obtain ⟨t', rfl⟩ := ry
  exact rule i j t t' s _ _ hc ⟨.int (g i j), H, I.tok _, ⟨_, rfl⟩, q⟩
theorem opI0 {f : Value → Value → Sem Value} {g : Int → Int → Int}
    (rule : ∀ (i j : Int) (t u : Tok) (s : Shared) (Q : Value → Shared → Prop) (E : Value → Shared → Prop), Q (.int (g i j) s.toks) { s with toks := s.toks + 1 } → wpAny (model X.prog X.w) X.A (f (.int i t) (.int j u)) Q E s) :
    OpR X f (rI0 fun i j => .int (g i j)) := by
  intro pins s σ H x y v u Q I rx ry h
  obtain ⟨i, j, rfl, rfl, q⟩ := h
  obtain ⟨t, rfl⟩ := rx
  obtain ⟨t', rfl⟩ := ry
  exact rule i j t t' s _ _ ⟨.int (g i j), H, I.tok _, ⟨_, rfl⟩, q⟩
theorem opB0 {f : Value → Value → Sem Value} {g : Int → Int → Bool}
    (rule : ∀ (i j : Int) (t u : Tok) (s : Shared) (Q : Value → Shared → Prop) (E : Value → Shared → Prop), Q (.bool (g i j)) s → wpAny (model X.prog X.w) X.A (f (.int i t) (.int j u)) Q E s) :
    OpR X f (rI0 fun i j => .bl (g i j)) := by
  intro pins s σ H x y v u Q I rx ry h
  obtain ⟨i, j, rfl, rfl, q⟩ := h
  obtain ⟨t, rfl⟩ := rx
  obtain ⟨t', rfl⟩ := ry
  exact rule i j t t' s _ _ ⟨.bl (g i j), H, I, rfl, q⟩
noncomputable def CPow (i j : Int) : Prop := 0 ≤ j ∧ j ≤ 1000000 ∧ i.natAbs < 2 ^ 64
theorem op_add : OpR X (binaryOp .Add) (rI0 fun i j => .int (i + j)) := opI0 fun _ _ _ _ _ _ _ q => add_int q
theorem op_sub : OpR X (binaryOp .Sub) (rI0 fun i j => .int (i - j)) := opI0 fun _ _ _ _ _ _ _ q => sub_int q
theorem op_mod : OpR X (binaryOp .Mod) (rI (fun _ j => 0 < j) fun i j => .int (i % j)) := opI fun i j _ _ _ _ _ hc q => by
  have h1 : (0 : Int) < j := hc
  exact mod_int' (by omega) (by rw [Int.fmod_eq_emod_of_nonneg i (by omega)]; exact q)
theorem op_pow : OpR X (binaryOp .Pow) (rI CPow fun i j => .int (i ^ j.toNat)) := opI fun _ _ _ _ _ _ _ hc q => pow_int_small hc.1 hc.2.1 hc.2.2 q
theorem op_shl : OpR X (binaryOp .LShift) (rI CPow fun i j => .int (i * 2 ^ j.toNat)) := opI fun _ _ _ _ _ _ _ hc q => lshift_int_small hc.1 hc.2.1 hc.2.2 q
theorem unI {f : Value → Sem Value} {g : Int → Int}
    (rule : ∀ (i : Int) (t : Tok) (s : Shared) (Q : Value → Shared → Prop) (E : Value → Shared → Prop), Q (.int (g i) s.toks) { s with toks := s.toks + 1 } → wpAny (model X.prog X.w) X.A (f (.int i t)) Q E s) :
    UnR X f (rU fun i => .int (g i)) := by
  intro pins s σ H x v Q I rx h
  obtain ⟨i, rfl, q⟩ := h
  obtain ⟨t, rfl⟩ := rx
  exact rule i t s _ _ ⟨.int (g i), H, I.tok _, ⟨_, rfl⟩, q⟩
theorem un_neg : UnR X (unaryOp .USub) (rU fun i => .int (-i)) := unI fun _ _ _ _ _ q => neg_int q
end
noncomputable def scal : V → V → Bool
  | .non, .non => true | .non, .int _ => true | .int _, .non => true | .non, .bl _ => true | .bl _, .non => true | .non, .str _ => true | .str _, .non => true
  | .int _, .int _ => true | .bl _, .bl _ => true | .str _, .str _ => true | .byt _, .byt _ => true
  | .int _, .str _ => true | .str _, .int _ => true | .bl _, .str _ => true | .str _, .bl _ => true
  | _, _ => false
noncomputable def rEq : R2 := fun x y H Q => scal x y = true ∧ Q (.bl (decide (x = y))) H
noncomputable def rNe : R2 := fun x y H Q => scal x y = true ∧ Q (.bl (!decide (x = y))) H
theorem dec_int {i j : Int} : decide (V.int i = V.int j) = (i == j) := by
  rw [Bool.eq_iff_iff]
  simp
theorem dec_bl {i j : Bool} : decide (V.bl i = V.bl j) = (i == j) := by
  rw [Bool.eq_iff_iff]
  simp
theorem dec_str {i j : Str} : decide (V.str i = V.str j) = (i == j) := by
  rw [Bool.eq_iff_iff]
  simp
theorem dec_byt {i j : Array UInt8} : decide (V.byt i = V.byt j) = (i.toList == j.toList) := by
  rw [Bool.eq_iff_iff]
  cases i
  cases j
  simp
section
variable {X : Cx} {a b c : Expr} {ta tb tc : TE} {pos : Pos}
theorem fin_bl {pins : List (Addr × Obj)} {σ : St} {H : Hp} {s : Shared} {Q : VK} {k k' : Bool} (I : Inv X pins σ H s) (q : Q (.bl k) H) (e : k = k') : EP X pins σ Q (.bool k') s := by
  subst e
  exact ⟨.bl k, H, I, rfl, q⟩
theorem op_eq : OpR X (compareOp .Eq) rEq := by
  intro pins s σ H x y v u Q I rx ry h
  obtain ⟨hs, q⟩ := h
  cases x with
  | non =>
    cases rx
    cases y with
    | non => cases ry; exact PySem.EqNone.eq_none_none (fin_bl I q (by simp))
    | bl j => cases ry; exact PySem.EqNone.eq_none_bool (fin_bl I q (by simp))
    | int j => obtain ⟨t', rfl⟩ := ry; exact PySem.EqNone.eq_none_int (fin_bl I q (by simp))
    | str j => obtain ⟨t', rfl⟩ := ry; exact PySem.EqNone.eq_none_str (fin_bl I q (by simp))
    | _ => exact absurd (show false = true from hs) Bool.false_ne_true
  | bl i =>
    cases rx
    cases y with
    | non => cases ry; exact PySem.EqNone.eq_bool_none (fin_bl I q (by simp))
    | bl j => cases ry; exact eq_bool (fin_bl I q dec_bl)
    | str j => obtain ⟨t', rfl⟩ := ry; exact PySem.EqMixed.eq_bool_str (fin_bl I q (by simp))
    | _ => exact absurd (show false = true from hs) Bool.false_ne_true
  | int i =>
    obtain ⟨t, rfl⟩ := rx
    cases y with
    | non => cases ry; exact PySem.EqNone.eq_int_none (fin_bl I q (by simp))
    | int j => obtain ⟨t', rfl⟩ := ry; exact eq_int (fin_bl I q dec_int)
    | str j => obtain ⟨t', rfl⟩ := ry; exact PySem.EqMixed.eq_int_str (fin_bl I q (by simp))
    | _ => exact absurd (show false = true from hs) Bool.false_ne_true
  | str i =>
    obtain ⟨t, rfl⟩ := rx
    cases y with
    | non => cases ry; exact PySem.EqNone.eq_str_none (fin_bl I q (by simp))
    | bl j => cases ry; exact PySem.EqMixed.eq_str_bool (fin_bl I q (by simp))
    | int j => obtain ⟨t', rfl⟩ := ry; exact PySem.EqMixed.eq_str_int (fin_bl I q (by simp))
    | str j => obtain ⟨t', rfl⟩ := ry; exact eq_str (fin_bl I q dec_str)
    | _ => exact absurd (show false = true from hs) Bool.false_ne_true
  | byt i =>
    obtain ⟨t, rfl⟩ := rx
    cases y with
    | byt j => obtain ⟨t', rfl⟩ := ry; exact PySem.W.eq_bytes (fin_bl I q dec_byt)
    | _ => exact absurd (show false = true from hs) Bool.false_ne_true
  | _ => cases y <;> exact absurd (show false = true from hs) Bool.false_ne_true
theorem op_ne : OpR X (compareOp .NotEq) rNe := by
  intro pins s σ H x y v u Q I rx ry h
  obtain ⟨hs, q⟩ := h
  cases x with
  | non =>
    cases rx
    cases y with
    | non => cases ry; exact PySem.EqNone.ne_none_none (fin_bl I q (by simp))
    | bl j => cases ry; exact PySem.EqNone.ne_none_bool (fin_bl I q (by simp))
    | int j => obtain ⟨t', rfl⟩ := ry; exact PySem.EqNone.ne_none_int (fin_bl I q (by simp))
    | str j => obtain ⟨t', rfl⟩ := ry; exact PySem.EqNone.ne_none_str (fin_bl I q (by simp))
    | _ => exact absurd (show false = true from hs) Bool.false_ne_true
  | bl i =>
    cases rx
    cases y with
    | non => cases ry; exact PySem.EqNone.ne_bool_none (fin_bl I q (by simp))
    | bl j => cases ry; exact ne_bool (fin_bl I q (congrArg not dec_bl))
    | str j => obtain ⟨t', rfl⟩ := ry; exact PySem.EqMixed.ne_bool_str (fin_bl I q (by simp))
    | _ => exact absurd (show false = true from hs) Bool.false_ne_true
  | int i =>
    obtain ⟨t, rfl⟩ := rx
    cases y with
    | non => cases ry; exact PySem.EqNone.ne_int_none (fin_bl I q (by simp))
    | int j => obtain ⟨t', rfl⟩ := ry; exact ne_int (fin_bl I q (congrArg not dec_int))
    | str j => obtain ⟨t', rfl⟩ := ry; exact PySem.EqMixed.ne_int_str (fin_bl I q (by simp))
    | _ => exact absurd (show false = true from hs) Bool.false_ne_true
  | str i =>
    obtain ⟨t, rfl⟩ := rx
    cases y with
    | non => cases ry; exact PySem.EqNone.ne_str_none (fin_bl I q (by simp))
    | bl j => cases ry; exact PySem.EqMixed.ne_str_bool (fin_bl I q (by simp))
    | int j => obtain ⟨t', rfl⟩ := ry; exact PySem.EqMixed.ne_str_int (fin_bl I q (by simp))
    | str j => obtain ⟨t', rfl⟩ := ry; exact ne_str (fin_bl I q (congrArg not dec_str))
    | _ => exact absurd (show false = true from hs) Bool.false_ne_true
  | byt i =>
    obtain ⟨t, rfl⟩ := rx
    cases y with
    | byt j => obtain ⟨t', rfl⟩ := ry; exact PySem.W.ne_bytes (fin_bl I q (congrArg not dec_byt))
    | _ => exact absurd (show false = true from hs) Bool.false_ne_true
  | _ => cases y <;> exact absurd (show false = true from hs) Bool.false_ne_true
theorem op_lt : OpR X (compareOp .Lt) (rI0 fun i j => .bl (decide (i < j))) := opB0 fun _ _ _ _ _ _ _ q => lt_int q
theorem op_gt : OpR X (compareOp .Gt) (rI0 fun i j => .bl (decide (j < i))) := opB0 fun _ _ _ _ _ _ _ q => gt_int q
theorem op_ge : OpR X (compareOp .GtE) (rI0 fun i j => .bl (decide (j ≤ i))) := opB0 fun _ _ _ _ _ _ _ q => ge_int q
theorem op_isN : OpR X (compareOp .Is) (fun x y H Q => y = .non ∧ Q (.bl (decide (x = .non))) H) := by
  intro pins s σ H x y v u Q I rx ry h
  obtain ⟨rfl, q⟩ := h
  cases ry
  refine is_none_gen (fin_bl I q ?_)
  cases x <;> first
    | (cases rx; rfl)
    | (obtain ⟨t, rfl⟩ := rx; rfl)
theorem nomark (b : Expr) {op : CmpOp} (h : op ≠ .In := by decide) (h2 : op ≠ .NotIn := by decide) : behindInMarks op b = false := by
  have e1 : (op == CmpOp.In) = false := by cases op <;> first | rfl | exact absurd rfl h
  have e2 : (op == CmpOp.NotIn) = false := by cases op <;> first | rfl | exact absurd rfl h2
  cases b <;> simp [behindInMarks, e1, e2]
theorem pe_cmpR {op : CmpOp} {r : R2} (ho : OpR X (compareOp op) r) (ha : PE X a ta) (hb : PE X b tb) (hm : behindInMarks op b = false) : PE X (.Compare a [op] [b] pos) (tOp r ta tb) := by
  intro pins s σ H Q I h
  exact wpAny_Compare1 (binT ha hb I h fun v u s2 x y H2 I2 rx ry q => ho pins s2 σ H2 x y v u Q I2 rx ry q) hm
noncomputable def tTest (t : TE) : TT := fun σ H Q => t σ H fun x H' => ∃ k, x = .bl k ∧ Q k H'
theorem pt_cmpR {op : CmpOp} {r : R2} (ho : OpR X (compareOp op) r) (ha : PE X a ta) (hb : PE X b tb) (hm : behindInMarks op b = false) : PT X (.Compare a [op] [b] pos) (tTest (tOp r ta tb)) := by
  intro pins s σ H Q I h
  refine wpAny_isTrue_Compare1 (thn (ha pins s σ H _ I h) fun v s1 ⟨x, H1, I1, r1, q1⟩ => thn (hb pins s1 σ H1 _ I1 q1) fun u s2 ⟨y, H2, I2, r2, q2⟩ =>
    thn (ho pins s2 σ H2 x y v u _ I2 r1 r2 q2) fun c s3 ⟨z, H3, I3, r3, k, e, q3⟩ => ?_) hm
  subst e
  cases r3
  exact wpAny_truthy_bool ⟨H3, I3, q3⟩
theorem line63 : (sizeLine : Nat) < 2 ^ 63 := by rw [sizeLine_eq]; decide
theorem vals1 {x : V} {us : List Value} (r : Vals [x] us) : ∃ u, us = [u] ∧ RelV x u := by
  cases r with
  | cons r1 r2 => cases r2; exact ⟨_, rfl, r1⟩
theorem vals2 {x y : V} {us : List Value} (r : Vals [x, y] us) : ∃ u w', us = [u, w'] ∧ RelV x u ∧ RelV y w' := by
  cases r with
  | cons r1 r2 =>
    cases r2 with
    | cons r3 r4 => cases r4; exact ⟨_, _, rfl, r1, r3⟩
theorem call_min2 (hc : X.calm = true) : CallR X (.builtin "min") (fun xs H Q => ∃ i j, xs = [.int i, .int j] ∧ Q (.int (if j < i then j else i)) H) := by
  intro pins s σ H xs us Q I r h
  obtain ⟨i, j, rfl, q⟩ := h
  obtain ⟨u, w', rfl, ⟨t, rfl⟩, ⟨t', rfl⟩⟩ := vals2 r
  refine min_two_ints (I.ok.hd hc) fun h' tk k => ⟨_, H, I.kept k, ?_, q⟩
  by_cases hj : j < i
  · rw [if_pos hj, if_pos hj]; exact ⟨_, rfl⟩
  · rw [if_neg hj, if_neg hj]; exact ⟨_, rfl⟩
end
end L2
namespace L2
open PySem PySem.Spec PyProof.Rows
structure ObjM (h : Heap) (x dx C : Addr) (mA : Str → Option Value) : Prop where
  obj : h.get? x = some (PySem.W.instObj C dx)
  ns : h.Ns1 dx mA
  ne : dx ≠ x
theorem lookIn_ns {h : Heap} {dx : Addr} {mA : Str → Option Value} (n : h.Ns1 dx mA) : ∃ od, h.get? dx = some od ∧ ∀ name, PySem.W.lookIn name od = some (mA name) := by
  obtain ⟨o, es, ep, ho, hd, hk, _, hm⟩ := n
  refine ⟨o, ho, fun name => ?_⟩
  have e := hm name
  unfold nsFind findBy at e
  rw [← Array.find?_toList] at e
  unfold PySem.W.lookIn
  rw [hd]
  dsimp only
  split
  · rename_i y q
    rw [q] at e
    exact congrArg some e
  · rename_i q
    rw [q] at e
    have a : es.toList.any (·.refKey) = false := by
      rw [List.any_eq_false]
      intro y hy
      obtain ⟨z, t, hkey⟩ := hk y (Array.mem_toList_iff.mp hy)
      simp [DictEntry.refKey, hkey]
    have a' : ¬ es.toList.any (·.refKey) = true := by rw [a]; exact Bool.false_ne_true
    rw [if_neg a']
    exact congrArg some e
theorem ObjM.look {h : Heap} {x dx C : Addr} {mA : Str → Option Value} (I : ObjM h x dx C mA) : ∃ od, PySem.W.InstAt h x (PySem.W.instObj C dx) C (some od) ∧ ∀ name, PySem.W.lookIn name od = some (mA name) :=
  let ⟨od, ho, hl⟩ := lookIn_ns I.ns
  ⟨od, ⟨I.obj, rfl, rfl, ho⟩, hl⟩
section
variable {prog : Program} {w : World} {A : Around} {E : Value → Shared → Prop} {s : Shared} {K : PySem.W.Frag} {x dx C f : Addr} {mA : Str → Option Value} {name : Str} {v : Value}
theorem get_map {expr : Bool} {Q : Value → Shared → Prop} (X : K.In s.heap) (I : ObjM s.heap x dx C mA) (hg : PySem.W.plainGet K C name = true) (hh : PySem.W.hasDictIn K C = true)
    (ha : PySem.W.findIn K (.ref C) name = some none) (hv : mA name = some v) (hv' : PySem.W.handedIn v = true) (h : Q v { s with toks := s.toks + 1 }) :
    wpAny (model prog w) A (getAttr (.ref x) name expr) Q E s := by
  obtain ⟨od, J, hl⟩ := I.look
  exact PySem.W.get_value X J (PySem.W.plainGet_of hg).1 (PySem.W.findObj_own hh ha rfl (by rw [hl, hv])) hv' h
theorem get_meth {pl : Sem Bool} {Q : Value × List Value → Shared → Prop} (X : K.In s.heap) (I : ObjM s.heap x dx C mA) (hg : PySem.W.plainGet K C name = true)
    (hf : PySem.W.findIn K (.ref C) name = some (some (.ref f))) (ht : PySem.W.isFn K (.ref f) = true) (hv : mA name = none) (h : Q (.ref f, [.ref x]) s) :
    wpAny (model prog w) A (getMethod (.ref x) name pl) Q E s := by
  obtain ⟨od, J, hl⟩ := I.look
  exact PySem.W.method_fn X J (PySem.W.plainGet_of hg).1 (PySem.W.plainGet_of hg).2 hf (beq_iff_eq.mp ht) (by show (PySem.W.lookIn name od).map (·.isSome) = some false; rw [hl, hv]; rfl) h
theorem set_map {ns : List Str} {Q : Unit → Shared → Prop} (X : K.In s.heap) (I : ObjM s.heap x dx C mA)
    (hs : PySem.W.findIn K (.ref C) "__setattr__" = some (some (.builtin "object.__setattr__"))) (hp : PySem.W.plainOver K C = true) (ht : PySem.W.takerIn K C name = some none) (hh : PySem.W.hasDictIn K C = true)
    (hw : PySem.Within mA ns) (hsz : ns.length ≤ sizeLine)
    (h : ∀ h', ObjM h' x dx C (fun y => if y = name then some v else mA y) → Heap.SameBut dx s.heap h' → Q () { s with heap := h', toks := s.toks + 2 }) :
    wpAny (model prog w) A (setAttr (.ref x) name v) Q E s := by
  obtain ⟨od, J, hl⟩ := I.look
  refine PySem.W.set_plain X J hs (PySem.W.osa_open (s := { s with toks := s.toks + 1 }) (r := none) X J hp ht fun b => ?_)
  obtain ⟨cd, hc, hd'⟩ := PySem.W.any_some hh
  have hx : s.heap.get? x = some ⟨.ref C, some dx, .plain, #[]⟩ := I.obj
  refine wpAny_bind (wpAny_pure (wpAny_bind (wpAny_bind (wpAny_loadPart hx (wpAny_bind (PySem.W.Looks.here (s := { s with toks := s.toks + 1 }) (PySem.W.looks_clsIn X hc) ?_))))))
  rw [hd']
  refine wpAny_pure (a := some dx) (wpAny_bind (wpAny_pure (wpAny_bind ?_)))
  refine wpAny_nsSet1 (s := { s with toks := s.toks + 1 }) I.ns fun h' hn2 hs2 => ?_
  obtain ⟨oD, esD, epD, hoD, hdD, hcD⟩ := hn2.count (PySem.Within.cons name v hw)
  refine wpAny_bind (wpAny_lookBehind hoD (by rw [hdD]; exact pastItsLine_dict (Nat.le_trans hcD (by rw [List.length_cons]; omega))) ?_)
  exact wpAny_pure (h _ ⟨(hs2.2 _ (Ne.symm I.ne)).trans I.obj, hn2, I.ne⟩ hs2)
theorem make_map {R : Result → Shared → Prop} {vs : List Value} {kw : List (Str × Value)} (X : K.In s.heap) (hm : PySem.W.makesIn K C = true)
    (hi : PySem.W.findIn K (.ref C) "__init__" = some (some (.ref f))) (hf : PySem.W.typeIn K (.ref f) = some (.type "function"))
    (h : codeAny (model prog w) (A.under (.builtin "type.__call__" ⟨.ref C :: vs, kw⟩)) (.call (.ref f) ⟨.ref (s.heap.objs.size + 1) :: vs, kw⟩) (PySem.W.InitBack (s.heap.objs.size + 1) R)
      { s with heap := (s.heap.push PySem.W.emptyDict).push (PySem.W.instObj C s.heap.objs.size) }) :
    codeAny (model prog w) A (.call (.ref C) ⟨vs, kw⟩) R s := by
  obtain ⟨hh, g, d, t, os⟩ := s
  exact PySem.W.make_core (PySem.W.makes_of X hm) (PySem.W.looks_findIn X hi) (fun self => PySem.W.bind_fn X self hf) (.inl rfl) h
end
noncomputable def putF (f : Str) (v : V) : List (Str × V) → List (Str × V)
  | [] => [(f, v)]
  | (g, x) :: r => if g = f then (g, v) :: r else (g, x) :: putF f v r
theorem lookup_putF (f g : Str) (v : V) : ∀ fs : List (Str × V), (putF f v fs).lookup g = if g = f then some v else fs.lookup g
  | [] => by
    show List.lookup g [(f, v)] = _
    by_cases h : g = f
    · have hb : (g == f) = true := beq_iff_eq.mpr h
      simp only [List.lookup, hb, if_pos h]
    · have hb : (g == f) = false := beq_eq_false_iff_ne.mpr h
      simp only [List.lookup, hb, if_neg h]
  | (k, x) :: r => by
    have ih := lookup_putF f g v r
    rw [show putF f v ((k, x) :: r) = (if k = f then (k, v) :: r else (k, x) :: putF f v r) from rfl]
    by_cases hk : k = f
    · rw [if_pos hk]
      by_cases h : g = k
      · have hb : (g == k) = true := beq_iff_eq.mpr h
        simp only [List.lookup, hb, if_pos (h.trans hk)]
      · have hb : (g == k) = false := beq_eq_false_iff_ne.mpr h
        simp only [List.lookup, hb, if_neg (fun e : g = f => h (e.trans hk.symm))]
    · rw [if_neg hk]
      by_cases h : g = k
      · have hb : (g == k) = true := beq_iff_eq.mpr h
        simp only [List.lookup, hb, if_neg (fun e : g = f => hk (h.symm.trans e))]
      · have hb : (g == k) = false := beq_eq_false_iff_ne.mpr h
        simp only [List.lookup, hb]
        exact ih
theorem keys_putF (f : Str) (v : V) : ∀ fs : List (Str × V), f ∈ (putF f v fs).map (·.1) ∧ ∀ g, g ∈ fs.map (·.1) → g ∈ (putF f v fs).map (·.1)
  | [] => ⟨by simp [putF], fun g h => by simp at h⟩
  | (k, x) :: r => by
    obtain ⟨i1, i2⟩ := keys_putF f v r
    rw [show putF f v ((k, x) :: r) = (if k = f then (k, v) :: r else (k, x) :: putF f v r) from rfl]
    by_cases hk : k = f
    · rw [if_pos hk]
      subst hk
      exact ⟨by simp, fun g h => by simpa using h⟩
    · rw [if_neg hk]
      refine ⟨?_, fun g h => ?_⟩
      · rw [List.map_cons]
        exact List.mem_cons_of_mem _ i1
      · rw [List.map_cons] at h ⊢
        rcases List.mem_cons.mp h with e | e
        · exact List.mem_cons.mpr (.inl e)
        · exact List.mem_cons_of_mem _ (i2 g e)
theorem length_putF (f : Str) (v : V) : ∀ fs : List (Str × V), (putF f v fs).length ≤ fs.length + 1
  | [] => by simp [putF]
  | (k, x) :: r => by
    have ih := length_putF f v r
    rw [show putF f v ((k, x) :: r) = (if k = f then (k, v) :: r else (k, x) :: putF f v r) from rfl]
    by_cases hk : k = f
    · rw [if_pos hk, List.length_cons, List.length_cons]; omega
    · rw [if_neg hk, List.length_cons, List.length_cons]; omega
theorem RelO.some_of {v : V} {o : Option Value} (r : RelO (some v) o) : ∃ u, o = some u ∧ RelV v u := by
  cases o with
  | none => exact (show False from r).elim
  | some u => exact ⟨u, rfl, r⟩
theorem RelO.none_of {o : Option Value} (r : RelO none o) : o = none := by
  cases o with
  | none => rfl
  | some u => exact (show False from r).elim
theorem handed_of {v : V} {u : Value} (r : RelV v u) : PySem.W.handedIn u = true := by
  cases v with
  | non => cases (show u = Value.none from r); rfl
  | bl b => cases (show u = Value.bool b from r); rfl
  | int i => obtain ⟨t, e⟩ := (show ∃ t, u = Value.int i t from r); cases e; rfl
  | str x => obtain ⟨t, e⟩ := (show ∃ t, u = Value.str x t from r); cases e; rfl
  | byt b => obtain ⟨t, e⟩ := (show ∃ t, u = Value.bytes b t from r); cases e; rfl
  | flt b => obtain ⟨t, e⟩ := (show ∃ t, u = Value.float b t from r); cases e; rfl
  | ref a => cases (show u = Value.ref a from r); rfl
  | ty n => cases (show u = Value.type n from r); rfl
section
variable {P : Program} {w : World} {H H' : Hp} {h h' : Heap} {a C dx : Addr} {fs fs' : List (Str × V)}
theorem ins_get (hok : HOk P w H h) (e : H a = some (.ins C dx fs)) : ∃ mA, ObjM h a dx C mA ∧ (∀ f, RelO (fs.lookup f) (mA f)) ∧ PySem.Within mA (fs.map (·.1)) ∧ fs.length ≤ 1000 ∧ H dx = some (.own a) := by
  obtain ⟨d, z, ne, ob, mA, n, r, q⟩ := (show ObjOk P w H h a (.ins C dx fs) from hok a _ e)
  exact ⟨mA, ⟨ob, n, ne⟩, r, q, z, d⟩
end
structure Cls (K : PySem.W.Frag) (C : Addr) : Prop where
  pg : PySem.W.plainGet K C Str.empty = true
  hd : PySem.W.hasDictIn K C = true
  po : PySem.W.plainOver K C = true
  sa : PySem.W.findIn K (.ref C) "__setattr__" = some (some (.builtin "object.__setattr__"))
theorem Cls.get {K : PySem.W.Frag} {C : Addr} (c : Cls K C) (f : Str) : PySem.W.plainGet K C f = true := c.pg
noncomputable def NoAttr (K : PySem.W.Frag) (C : Addr) (f : Str) : Prop := PySem.W.findIn K (.ref C) f = some none
theorem NoAttr.taker {K : PySem.W.Frag} {C : Addr} {f : Str} (n : NoAttr K C f) : PySem.W.takerIn K C f = some none := by
  unfold PySem.W.takerIn
  rw [show PySem.W.findIn K (.ref C) f = some none from n]
  rfl
structure Con (K : PySem.W.Frag) (C : Addr) (f : Str) (v : V) (u : Value) : Prop where
  at_ : PySem.W.findIn K (.ref C) f = some (some u)
  rel : RelV v u
  get : PySem.W.specialIn K u "__get__" = some none
  cp : PySem.W.copiedNames.contains f = false
structure Meth (K : PySem.W.Frag) (C : Addr) (m : Str) (f : Addr) : Prop where
  at_ : PySem.W.findIn K (.ref C) m = some (some (.ref f))
  fn : PySem.W.isFn K (.ref f) = true
  kp : PySem.W.keepIn K (.ref f) = true
section
variable {X : Cx} {pins : List (Addr × Obj)} {σ : St} {H : Hp} {s : Shared} {a C dx : Addr} {fs : List (Str × V)} {f : Str} {v : V} {A : Around} {E : Value → Shared → Prop}
theorem getattr_ok {b : Bool} {Q : Value → Shared → Prop} (I : Inv X pins σ H s) (e : H a = some (.ins C dx fs)) (c : Cls X.K C) (n : NoAttr X.K C f) (l : fs.lookup f = some v)
    (h : ∀ u s', Inv X pins σ H s' → RelV v u → Q u s') : wpAny (model X.prog X.w) A (getAttr (.ref a) f b) Q E s := by
  obtain ⟨mA, O, r, _, _, _⟩ := ins_get I.hok e
  obtain ⟨u, hu, ru⟩ := RelO.some_of (v := v) (o := mA f) (by rw [← l]; exact r f)
  exact get_map I.kIn O (c.get f) c.hd n hu (handed_of ru) (h u _ (I.tok _) ru)
theorem getmeth_ok {m : Str} {g : Addr} {pl : Sem Bool} {Q : Value × List Value → Shared → Prop} (I : Inv X pins σ H s) (e : H a = some (.ins C dx fs)) (c : Cls X.K C) (k : Meth X.K C m g) (l : fs.lookup m = none)
    (h : Q (.ref g, [.ref a]) s) : wpAny (model X.prog X.w) A (getMethod (.ref a) m pl) Q E s := by
  obtain ⟨mA, O, r, _, _, _⟩ := ins_get I.hok e
  have hn : mA m = none := RelO.none_of (by rw [← l]; exact r m)
  exact get_meth I.kIn O (c.get m) k.at_ k.fn hn h
theorem setattr_ok {y : V} {u : Value} {Q : Unit → Shared → Prop} (I : Inv X pins σ H s) (e : H a = some (.ins C dx fs)) (c : Cls X.K C) (n : NoAttr X.K C f) (hl : fs.length < 1000) (ry : RelV y u)
    (h : ∀ s', Inv X pins σ (upd H a (.ins C dx (putF f y fs))) s' → Q () s') : wpAny (model X.prog X.w) A (setAttr (.ref a) f u) Q E s := by
  obtain ⟨mA, O, r, wi, _, ho⟩ := ins_get I.hok e
  have hz : (fs.map (·.1)).length ≤ sizeLine := by rw [List.length_map, sizeLine_eq]; omega
  refine set_map I.kIn O c.sa c.po n.taker c.hd wi hz fun h' O' sb => h _ ?_
  have hd : ∃ o, h'.get? dx = some o := let ⟨o, _, _, e', _⟩ := O'.ns; ⟨o, e'⟩
  refine I.write (x := a) (e := dx) (by rw [e]; exact True.intro) (.inr ho) (fun b q hb z => (sb.2 b hb).trans z) hd ?_
  refine ⟨by rw [upd_ne O.ne]; exact ho, ?_, O.ne, O'.obj, _, O'.ns, fun g => ?_, fun g hg => ?_⟩
  · have := length_putF f y fs; omega
  · show RelO ((putF f y fs).lookup g) (if g = f then some u else mA g)
    rw [lookup_putF]
    by_cases q : g = f
    · rw [if_pos q, if_pos q]; exact ry
    · rw [if_neg q, if_neg q]; exact r g
  · by_cases q : g = f
    · rw [q]; exact (keys_putF f y fs).1
    · refine (keys_putF f y fs).2 g (wi g fun z => hg ?_)
      show (if g = f then some u else mA g) = none
      rw [if_neg q]; exact z
theorem Inv.made (I : Inv X pins σ H s) : Inv X pins σ (upd (upd H s.heap.objs.size (.own (s.heap.objs.size + 1))) (s.heap.objs.size + 1) (.ins C s.heap.objs.size []))
    { s with heap := (s.heap.push PySem.W.emptyDict).push (PySem.W.instObj C s.heap.objs.size) } := by
  have e1 : (s.heap.push PySem.W.emptyDict).get? s.heap.objs.size = some PySem.W.emptyDict := Heap.get?_push_size s.heap rfl
  have e2 : ((s.heap.push PySem.W.emptyDict).push (PySem.W.instObj C s.heap.objs.size)).get? (s.heap.objs.size + 1) = some (PySem.W.instObj C s.heap.objs.size) := by
    have := Heap.get?_push_size (s.heap.push PySem.W.emptyDict) (o := PySem.W.instObj C s.heap.objs.size) rfl
    rwa [Heap.size_push] at this
  have e3 : (s.heap.push PySem.W.emptyDict).Ns s.heap.objs.size (fun _ => none) := ⟨PySem.W.emptyDict, #[], _, e1, rfl, (fun e he => absurd he (by simp)), fun _ => rfl⟩
  have I1 := I.laid (a := s.heap.objs.size) (o := .own (s.heap.objs.size + 1)) (h' := s.heap.push PySem.W.emptyDict) (t' := s.toks) (fun b u q => Heap.get?_push_of_some _ q) (Nat.le_refl _) ⟨_, e1⟩
  refine I1.laid (a := s.heap.objs.size + 1) (o := .ins C s.heap.objs.size []) (t' := s.toks) (fun b u q => Heap.get?_push_of_some _ q) (Nat.le_of_eq (Heap.size_push _ _)) ?_
  have ne : s.heap.objs.size ≠ s.heap.objs.size + 1 := Nat.ne_of_lt (Nat.lt_succ_self _)
  refine ⟨by rw [upd_ne ne, upd_same], Nat.zero_le _, ne, e2, fun _ => none, (Heap.Ns1.of_empty e3).at fun o q => Heap.get?_push_of_some _ q, fun _ => True.intro, fun y hy => absurd rfl hy⟩
theorem attr_of {prog : Program} {w : World} {env : Env} {e : Expr} {f : Str} {pos : Pos} {s : Shared} {Q : Value → Shared → Prop} (hb : attributeBase e f env (eval e env) = eval e env)
    (h : wpAny (model prog w) A (eval e env) (fun o s₁ => wpAny (model prog w) A (getAttr o f true) Q E s₁) E s) : wpAny (model prog w) A (eval (.Attribute e f pos) env) Q E s :=
  Attribute_any_ h (by rw [arm_eval_Attribute, hb])
end
noncomputable def tFld (K : PySem.W.Frag) (ta : TE) (f : Str) : TE := fun σ H Q => ta σ H fun x H1 => ∃ a C dx fs v, x = .ref a ∧ H1 a = some (.ins C dx fs) ∧ Cls K C ∧ NoAttr K C f ∧ fs.lookup f = some v ∧ Q v H1
noncomputable def sFld (K : PySem.W.Frag) (ta tv : TE) (f : Str) : TS := fun D σ H => tv σ H fun y H1 => ta σ H1 fun x H2 => ∃ a C dx fs, x = .ref a ∧ H2 a = some (.ins C dx fs) ∧ Cls K C ∧ NoAttr K C f ∧ fs.length < 1000 ∧
  D.nx σ (upd H2 a (.ins C dx (putF f y fs)))
section
variable {X : Cx} {o e value : Expr} {f : Str} {pos pos' tpos : Pos} {ta tv : TE}
theorem pe_fld (he : PE X e ta) (hb : attributeBase e f X.env (eval e X.env) = eval e X.env) : PE X (.Attribute e f pos) (tFld X.K ta f) := by
  intro pins s σ H Q I h
  refine attr_of hb (thn (he pins s σ H _ I h) fun u s1 ⟨x, H1, I1, rx, a, C, dx, fs, v, ex, ea, c, n, l, q⟩ => ?_)
  subst ex
  obtain rfl : u = Value.ref a := rx
  exact getattr_ok I1 ea c n l fun u' s2 I2 ru => ⟨v, H1, I2, ru, q⟩
theorem ps_fld (ha : PE X o ta) (hv : PE X value tv) (hs : swapsWith value (some (.Attribute o f pos')) pos.line X.env = pure false) : PS X (.Assign [.Attribute o f pos'] value pos) (sFld X.K ta tv f) := by
  intro pins s σ H D I h
  refine plainObj_wpAny_Assign_Attribute (thn (hv pins s σ H _ I h) fun u s1 ⟨y, H1, I1, ry, q⟩ => thn (ha pins s1 σ H1 _ I1 q) fun ov s2 ⟨x, H2, I2, rx, a, C, dx, fs, ex, ea, c, n, l, q2⟩ => ?_) hs
  subst ex
  obtain rfl : ov = Value.ref a := rx
  exact setattr_ok I2 ea c n l ry fun s3 I3 => ⟨σ, _, I3, q2⟩
end
section
variable {X : Cx} {pins : List (Addr × Obj)} {σ : St} {H : Hp} {s : Shared} {A : Around} {E : Value → Shared → Prop} {Q : Value → Shared → Prop} {c : Value} {b : Bool}
inductive TyOf (K : PySem.W.Frag) (H : Hp) : V → Value → Prop where
  | non : TyOf K H .non (.type "NoneType")
  | bl (x : Bool) : TyOf K H (.bl x) (.type "bool")
  | int (i : Int) : TyOf K H (.int i) (.type "int")
  | str (x : Str) : TyOf K H (.str x) (.type "str")
  | flt (x : UInt64) : TyOf K H (.flt x) (.type "float")
  | lst {a : Addr} {xs : List V} (e : H a = some (.lst xs)) : TyOf K H (.ref a) (.type "list")
  | frz {a : Addr} {o : Obj} {xs : List V} (e : H a = some (.frz o (.lst xs))) : TyOf K H (.ref a) (.type "list")
  | tup {a : Addr} {xs : List V} (e : H a = some (.tup xs)) : TyOf K H (.ref a) (.type "tuple")
  | dK {a : Addr} {kvs : List (Key × V)} (e : H a = some (.dK kvs)) : TyOf K H (.ref a) (.type "dict")
  | dT {a : Addr} {kvs : List (List Key × V)} (e : H a = some (.dT kvs)) : TyOf K H (.ref a) (.type "dict")
  | ins {a C dx : Addr} {fs : List (Str × V)} (e : H a = some (.ins C dx fs)) (cl : Cls K C) (ha : PySem.W.findIn K (.ref C) "__class__" = some (some (.builtin "object.__class__")))
      (hn : PySem.W.specialIn K (.builtin "object.__class__") "__get__" = some (some (.builtin "getset_descriptor.__get__"))) (htk : PySem.W.takesIn K (.builtin "object.__class__") = some true)
      (hm : PySem.W.mroIn K C (.type "object") = some true) : TyOf K H (.ref a) (.ref C)
theorem isinst_ok {x : V} {u t : Value} (I : Inv X pins σ H s) (rx : RelV x u) (ty : TyOf X.K H x t) (e : PySem.W.kitOne X.K t c = some b) (h : ∀ tk, Q (.bool b) { s with toks := tk }) :
    wpAny (model X.prog X.w) A (call (.builtin "isinstance") [u, c]) Q E s := by
  cases ty with
  | non => cases (show u = Value.none from rx); exact PySem.W.kia_one PySem.W.kitx_none I.kIn True.intro e (fun z => nomatch z) h
  | bl y => cases (show u = Value.bool y from rx); exact PySem.W.kia_one PySem.W.kitx_bool I.kIn True.intro e (fun z => nomatch z) h
  | int i => obtain ⟨t, q⟩ := (show ∃ t, u = Value.int i t from rx); cases q; exact PySem.W.kia_one PySem.W.kitx_int I.kIn True.intro e (fun z => nomatch z) h
  | str y => obtain ⟨t, q⟩ := (show ∃ t, u = Value.str y t from rx); cases q; exact PySem.W.kia_one PySem.W.kitx_str I.kIn True.intro e (fun z => nomatch z) h
  | flt y => obtain ⟨t, q⟩ := (show ∃ t, u = Value.float y t from rx); cases q; exact PySem.W.kia_one PySem.W.kitx_float I.kIn True.intro e (fun z => nomatch z) h
  | @lst a xs ea =>
    cases (show u = Value.ref a from rx)
    obtain ⟨_, _, n, _, h1⟩ := (show ObjOk X.prog X.w H s.heap a (.lst xs) from I.hok a _ ea)
    exact PySem.W.kia_one PySem.W.kitx_list I.kIn ⟨_, h1, rfl⟩ e (fun z => nomatch z) h
  | @frz a ob xs ea =>
    cases (show u = Value.ref a from rx)
    obtain ⟨_, _, _, n, _, h1⟩ := (show ObjOk X.prog X.w H s.heap a (.frz ob (.lst xs)) from I.hok a _ ea)
    exact PySem.W.kia_one PySem.W.kitx_list I.kIn ⟨_, h1, rfl⟩ e (fun z => nomatch z) h
  | @tup a xs ea =>
    cases (show u = Value.ref a from rx)
    obtain ⟨_, _, _, p⟩ := (show ObjOk X.prog X.w H s.heap a (.tup xs) from I.hok a _ ea)
    obtain ⟨o, h1, h2, _⟩ := p
    exact PySem.W.kia_one PySem.W.kitx_tuple I.kIn ⟨o, h1, h2⟩ e (fun z => nomatch z) h
  | @dK a kvs ea =>
    cases (show u = Value.ref a from rx)
    obtain ⟨_, _, vs, _, p⟩ := (show ObjOk X.prog X.w H s.heap a (.dK kvs) from I.hok a _ ea)
    obtain ⟨o, es, ep, h1, h2, _⟩ := p
    exact PySem.W.kia_one PySem.W.kitx_dict I.kIn ⟨o, h1, h2.1⟩ e (fun z => nomatch z) h
  | @dT a kvs ea =>
    cases (show u = Value.ref a from rx)
    obtain ⟨_, _, xs, _, o, es, ep, h1, h2, _⟩ := (show ObjOk X.prog X.w H s.heap a (.dT kvs) from I.hok a _ ea)
    exact PySem.W.kia_one PySem.W.kitx_dict I.kIn ⟨o, h1, h2.1⟩ e (fun z => nomatch z) h
  | @ins a C dx fs ea cl ha hn htk hm =>
    cases (show u = Value.ref a from rx)
    obtain ⟨mA, O, _⟩ := ins_get I.hok ea
    obtain ⟨od, J, _⟩ := O.look
    exact PySem.W.kia_one (PySem.W.kitx_own (cl.get _) cl.hd ha hn htk hm) I.kIn J e (fun z => nomatch z) h
end
end L2
namespace L2
open PySem PySem.Spec PyProof.Rows
structure Room (k : Nat) (A : Around) : Prop where
  hd : A.handled = none
  dp : A.depth + 3 * k + 5 < recursionLimit
  un : A.units + 16 * k + 200 < cLine
theorem Room.mono {j k : Nat} {A : Around} (r : Room k A) (h : j ≤ k) : Room j A := ⟨r.hd, by have := r.dp; omega, by have := r.un; omega⟩
theorem Room.deeper {k : Nat} {A : Around} (r : Room (k + 1) A) (env : Env) : Room k (A.deeper env) :=
  ⟨r.hd, by have := r.dp; show A.depth + 1 + 3 * k + 5 < _; omega, by have := r.un; show A.units + 3 + 16 * k + 200 < _; omega⟩
theorem make_depth {A : Around} {C : Addr} {us : List Value} {kw : List (Str × Value)} : (A.under (.builtin "type.__call__" ⟨.ref C :: us, kw⟩)).depth = A.depth + 1 := by
  first | rfl | simp [Around.under, Code.weight, Code.isCreation, Code.isGuard, Code.isCaller, Code.frames, Code.isFrame, guardIds]
theorem make_units {A : Around} {C : Addr} {us : List Value} {kw : List (Str × Value)} : (A.under (.builtin "type.__call__" ⟨.ref C :: us, kw⟩)).units = A.units + 1 := by
  first | rfl | simp [Around.under, Code.cUnits, Code.frames, Code.isFrame]
theorem Room.make {k : Nat} {A : Around} (r : Room (k + 1) A) (C : Addr) (us : List Value) (kw : List (Str × Value)) : Room k (A.under (.builtin "type.__call__" ⟨.ref C :: us, kw⟩)) :=
  ⟨r.hd, by have := r.dp; rw [make_depth]; omega, by have := r.un; rw [make_units]; omega⟩
theorem Room.depth {k : Nat} {A : Around} (r : Room k A) : A.depth < recursionLimit := by have := r.dp; omega
theorem Room.units {k : Nat} {A : Around} (r : Room k A) : A.units + 64 < cLine := by have := r.un; omega
noncomputable def tNil : TA := fun _ H Q => Q [] H
noncomputable def tCons (ta : TE) (tr : TA) : TA := fun σ H Q => ta σ H fun x H1 => tr σ H1 fun xs H2 => Q (x :: xs) H2
section
variable {X : Cx} {e : Expr} {es : List Expr} {te : TE} {t : TA} {pos : Pos}
theorem pa_nil : PA X [] tNil := fun _ _ _ _ H Q I h => Calls.spliced_nil ⟨[], H, I, .nil, h⟩
theorem pa_cons (ha : PE X e te) (hr : PA X es t) (hs : starEach (e :: es) X.env = (false, eval e X.env) :: starEach es X.env := by rfl) : PA X (e :: es) (tCons te t) := by
  intro pos pins s σ H Q I h
  rw [hs]
  show wpAny _ _ (spliced ((false, eval e X.env) :: backTo pos (starEach es X.env))) _ _ s
  refine Calls.spliced_cons (thn (ha pins s σ H _ I h) fun u s1 ⟨x, H1, I1, r1, q1⟩ => ?_)
  exact thn (hr pos pins s1 σ H1 _ I1 q1) fun us s2 ⟨xs, H2, I2, r2, q2⟩ => ⟨x :: xs, H2, I2, .cons r1 r2, q2⟩
noncomputable def tTup (t : TA) : TE := fun σ H Q => t σ H fun xs H1 => xs.length ≤ sizeLine ∧ ∀ p, H1 p = none → Q (.ref p) (upd H1 p (.tup xs))
noncomputable def tLst (t : TA) : TE := fun σ H Q => t σ H fun xs H1 => xs.length ≤ sizeLine ∧ ∀ p, H1 p = none → Q (.ref p) (upd H1 p (.lst xs))
theorem pe_tup {x1} (h : PA X es t) : PE X (.Tuple es x1 pos) (tTup t) := by
  intro pins s σ H Q I hq
  refine wpAny_Tuple_spliced (thn (h pos pins s σ H _ I hq) fun us s1 ⟨xs, H1, I1, r, z, q⟩ => ⟨by rw [← r.length]; exact z, ?_⟩)
  have hf : H1 s1.heap.objs.size = none := I1.hok.fresh (Nat.le_refl _)
  refine ⟨.ref s1.heap.objs.size, upd H1 s1.heap.objs.size (.tup xs), I1.laid (t' := s1.toks) (fun b u e => Heap.get?_push_of_some _ e) (Nat.le_refl _) ?_, rfl, q _ hf⟩
  exact ⟨z, us, r, ⟨_, Heap.get?_push_size _ rfl, rfl, _, rfl⟩⟩
theorem pe_lst (h : PA X es t) : PE X (.List es pos) (tLst t) := by
  intro pins s σ H Q I hq
  refine wpAny_List_spliced (thn (h pos pins s σ H _ I hq) fun us s1 ⟨xs, H1, I1, r, z, q⟩ => ⟨by rw [← r.length]; exact z, ?_⟩)
  have hf : H1 s1.heap.objs.size = none := I1.hok.fresh (Nat.le_refl _)
  refine ⟨.ref s1.heap.objs.size, upd H1 s1.heap.objs.size (.lst xs), I1.laid (t' := s1.toks) (fun b u e => Heap.get?_push_of_some _ e) (Nat.le_refl _) ?_, rfl, q _ hf⟩
  exact ⟨z, us, 0, r, Heap.get?_push_size _ rfl⟩
end
abbrev Sp := List V → Hp → VK → XK → Prop
abbrev CXT := List Env → Hp → Shared → XK → Value → Shared → Prop
structure Env0 (P : Program) (w : World) (K : PySem.W.Frag) (mg : Str → Option Value) (base : Heap) (A : Around) (outer : List Env) (s : Shared) (H : Hp) : Prop where
  frames : A.frames = some outer
  mod : Mod K mg base
  bs : ∀ b o, base.get? b = some o → s.heap.get? b = some o ∧ H b = none
  bsz : base.objs.size ≤ s.heap.objs.size
  funs : s.heap.FunFrames base outer
  frf : ∀ b ∈ frs outer, H b = none
  hok : HOk P w H s.heap
  bare : AllBare s.gens
noncomputable def CE (outer : List Env) (P : Program) (w : World) (H : Hp) (s : Shared) (Q : VK) (u : Value) (s' : Shared) : Prop :=
  ∃ v H', s'.os = s.os ∧ AllBare s'.gens ∧ Un (frs outer) [] H H' s.heap s'.heap ∧ HOk P w H' s'.heap ∧ RelV v u ∧ Q v H'
noncomputable def CR (CX : CXT) (outer : List Env) (P : Program) (w : World) (H : Hp) (s : Shared) (Q : VK) (E : XK) (r : Result) (s' : Shared) : Prop :=
  match r with
  | .ok (.ret u) => CE outer P w H s Q u s'
  | .ok _ => False
  | .error e => CX outer H s E e s'
structure FnOk (P : Program) (w : World) (K : PySem.W.Frag) (mg : Str → Option Value) (base : Heap) (CX : CXT) (k : Nat) (f : Addr) (fd : FuncData) (ps : List Str) (sp : Sp) : Prop where
  len : ∀ vs H Q E, sp vs H Q E → vs.length = ps.length
  run : ∀ (A : Around) (outer : List Env) (s : Shared) (H : Hp) (args : Args) (us : List Value) (vs : List V) (Q : VK) (E : XK), Room k A → Env0 P w K mg base A outer s H → BindsTo s fd args (ps.zip us) → Vals vs us → sp vs H Q E →
    codeAny (model P w) A (.call (.ref f) args) (CR CX outer P w H s Q E) s
theorem FnOk.mono {P : Program} {w : World} {K : PySem.W.Frag} {mg : Str → Option Value} {base : Heap} {CX : CXT} {j k : Nat} {f : Addr} {fd : FuncData} {ps : List Str} {sp : Sp} (F : FnOk P w K mg base CX j f fd ps sp) (h : j ≤ k) :
    FnOk P w K mg base CX k f fd ps sp := ⟨F.len, fun A outer s H args us vs Q E hr => F.run A outer s H args us vs Q E (hr.mono h)⟩
theorem Env0.make {P : Program} {w : World} {K : PySem.W.Frag} {mg : Str → Option Value} {base : Heap} {A : Around} {outer : List Env} {s : Shared} {H : Hp} (e : Env0 P w K mg base A outer s H) (C : Addr) (us : List Value) (kw : List (Str × Value)) :
    Env0 P w K mg base (A.under (.builtin "type.__call__" ⟨.ref C :: us, kw⟩)) outer s H := ⟨by first | exact e.frames | (simpa [Around.under, Code.envs, Code.isFrame, pushEnvs] using e.frames), e.mod, e.bs, e.bsz, e.funs, e.frf, e.hok, e.bare⟩
section
variable {X : Cx} {pins : List (Addr × Obj)} {σ : St} {H : Hp} {s s' : Shared}
theorem Inv.env0 (I : Inv X pins σ H s) : Env0 X.prog X.w X.K X.mg X.base X.A X.stack s H :=
  ⟨I.ok.frames, I.ok.mod, I.bs, Nat.le_trans I.ok.bsz I.sz, I.stack, I.stkFree, I.hok, I.bare⟩
theorem Inv.after {Q : VK} {u : Value} (I : Inv X pins σ H s) (h : CE X.stack X.prog X.w H s Q u s') : EP X pins σ Q u s' := by
  obtain ⟨v, H', os, bare, un, hok, r, q⟩ := h
  obtain ⟨hh, g, d, t, os'⟩ := s'
  obtain rfl : os' = s.os := os
  exact ⟨v, H', I.call (h' := hh) (g' := g) (d' := d) (t' := t) (ch := []) un hok bare (fun b z => absurd z (by simp)), r, q⟩
end
noncomputable def tCall (sp : Sp) (dvs : List V) (E : XK) (t : TA) : TE := fun σ H Q => t σ H fun vs H1 => sp (vs ++ dvs) H1 Q E
noncomputable def Binds (K : PySem.W.Frag) (fd : FuncData) (ps : List Str) (ds : List Value) : Prop :=
  ∀ (s : Shared) (us : List Value), K.In s.heap → (us ++ ds).length = ps.length → BindsTo s fd ⟨us, []⟩ (ps.zip (us ++ ds))
theorem Binds.all {K : PySem.W.Frag} {fd : FuncData} {ps : List Str} (h : ∀ us : List Value, us.length = ps.length → bindArgs fd ⟨us, []⟩ = pure (ps.zip us)) : Binds K fd ps [] := fun s us _ hl => by
  rw [List.append_nil] at hl ⊢
  exact .of_eq (h us hl)
noncomputable def Passes (CX : CXT) (X : Cx) (E : XK) : Prop := ∀ (pins : List (Addr × Obj)) (σ : St) (H : Hp) (s : Shared) (e : Value) (s' : Shared), Inv X pins σ H s → CX X.stack H s E e s' → X.xe e s'
section
variable {X : Cx} {CX : CXT} {k : Nat} {f C : Addr} {fd : FuncData} {ps : List Str} {sp : Sp} {dvs : List V} {ds : List Value} {E : XK} {x m : Str} {p pos apos : Pos} {e o : Expr} {es : List Expr} {ta : TE} {t : TA}
theorem run_fn {pins : List (Addr × Obj)} {σ : St} {H : Hp} {s : Shared} {Q : VK} {us : List Value} {vs : List V} (F : FnOk X.prog X.w X.K X.mg X.base CX k f fd ps sp) (hr : Room k X.A) (hb : Binds X.K fd ps ds) (hd : Vals dvs ds) (hx : Passes CX X E)
    (I : Inv X pins σ H s) (r : Vals vs us) (h : sp (vs ++ dvs) H Q E) : wpAny (model X.prog X.w) X.A (call (.ref f) us) (EP X pins σ Q) X.xe s := by
  have r2 : Vals (vs ++ dvs) (us ++ ds) := r.append hd
  have hl : (us ++ ds).length = ps.length := by rw [← r2.length]; exact F.len _ _ _ _ h
  refine wpAny_call (codeAny_mono (F.run X.A X.stack s H ⟨us, []⟩ (us ++ ds) (vs ++ dvs) Q E hr I.env0 (hb s us I.kIn hl) r2 h) fun r s' hq => ?_)
  cases r with
  | error e => exact hx pins σ H s e s' I hq
  | ok fl =>
    cases fl with
    | ret u => exact I.after hq
    | next => exact False.elim hq
    | brk => exact False.elim hq
    | cont => exact False.elim hq
theorem pe_call (F : FnOk X.prog X.w X.K X.mg X.base CX k f fd ps sp) (hr : Room k X.A) (hg : Gl X x) (hm : X.mg x = some (.ref f)) (hk : PySem.W.keepIn X.K (.ref f) = true) (hb : Binds X.K fd ps ds) (hd : Vals dvs ds) (hx : Passes CX X E)
    (ha : PA X (e :: es) t) (hdb : (x == ("__debug__" : Str)) = false := by decide) (he : starEach (e :: es) X.env = (false, eval e X.env) :: starEach es X.env := by rfl) (hpl : (backTo pos (starEach es X.env)).any (·.1) = false := by rfl) :
    PE X (.Call (.Name x p) (e :: es) [] pos) (tCall sp dvs E t) := by
  intro pins s σ H Q I h
  refine wpAny_Call_Name_kw (ld_glob I hg hm ?_ hdb)
  refine PySem.W.callWith_K (h₀ := X.base) I.ok.mod.kin hk (thn (ha pos pins s σ H _ I h) fun us s1 ⟨vs, H1, I1, r, q⟩ => ⟨I1.kIn, ?_⟩) he hpl
  exact run_fn F hr hb hd hx I1 r q
structure Mk (K : PySem.W.Frag) (C f : Addr) : Prop where
  makes : PySem.W.makesIn K C = true
  init : PySem.W.findIn K (.ref C) "__init__" = some (some (.ref f))
  fn : PySem.W.isFn K (.ref f) = true
  kp : PySem.W.keepIn K (.ref C) = true
end
section
variable {X : Cx} {CX : CXT} {k : Nat} {f C : Addr} {fd : FuncData} {ps ks : List Str} {sp : Sp} {E : XK} {x m : Str} {p pos apos kpos : Pos} {e o : Expr} {es : List Expr} {kws : List Keyword} {te ta : TE} {t tk : TA} {nm : Option Str}
structure KBinds (K : PySem.W.Frag) (fd : FuncData) (ps ks : List Str) (g : List Value → List Value → List Value) (gV : List V → List V → List V) : Prop where
  to : ∀ (s : Shared) (us ws : List Value), K.In s.heap → (g us ws).length = ps.length → BindsTo s fd ⟨us, ks.zip ws⟩ (ps.zip (g us ws))
  rel : ∀ {vs : List V} {us : List Value} {zs : List V} {ws : List Value}, Vals vs us → Vals zs ws → Vals (gV vs zs) (g us ws)
variable {g : List Value → List Value → List Value} {gV : List V → List V → List V}
end
structure FnScope (N P : List Str) (sc : Scope) : Prop where
  kind : sc.kind = .function
  co : sc.isCoroutine = false
  gen : sc.isGenerator = false
  nd : N.Nodup
  pre : N.take P.length = P
  par : ∀ x ∈ P, sc.names.lookup x = some .local ∨ sc.names.lookup x = some .cell
  nofree : ∀ y ∈ sc.names, y.2 ≠ .free
theorem bindL_out {kindOf : Str → Option NameKind} {x : Str} : ∀ {binds : List (Str × Value)} {m : Str → Option Value}, (∀ v, (x, v) ∉ binds) → bindL kindOf binds m x = m x
  | [], _, _ => rfl
  | (n, v) :: r, m, h => by
    unfold bindL
    rw [bindL_out fun w hw => h w (List.mem_cons_of_mem _ hw)]
    split
    · have : x ≠ n := by rintro rfl; exact h v List.mem_cons_self
      simp [this]
    · rfl
theorem bindC_out {kindOf : Str → Option NameKind} {x : Str} : ∀ {binds : List (Str × Value)} {m : Str → Option Value}, (∀ v, (x, v) ∉ binds) → bindC kindOf binds m x = m x
  | [], _, _ => rfl
  | (n, v) :: r, m, h => by
    unfold bindC
    rw [bindC_out fun w hw => h w (List.mem_cons_of_mem _ hw)]
    split
    · rfl
    · have : x ≠ n := by rintro rfl; exact h v List.mem_cons_self
      simp [this]
theorem bindL_get {kindOf : Str → Option NameKind} {x : Str} {v : Value} : ∀ {P : List Str} {vs : List Value} {i : Nat} {m : Str → Option Value}, P.Nodup → P[i]? = some x → vs[i]? = some v → kindOf x = some .local →
    bindL kindOf (P.zip vs) m x = some v
  | [], _, _, _, _, h, _, _ => by simp at h
  | _ :: _, [], _, _, _, _, h, _ => by simp at h
  | p :: P, w :: vs, 0, m, nd, h1, h2, hk => by
    simp at h1 h2; subst h1; subst h2
    show bindL kindOf ((p, w) :: P.zip vs) m p = _
    unfold bindL
    rw [bindL_out fun v hv => (List.nodup_cons.mp nd).1 (List.of_mem_zip hv).1, if_pos hk]
    simp
  | p :: P, w :: vs, i + 1, m, nd, h1, h2, hk => by
    show bindL kindOf ((p, w) :: P.zip vs) m x = _
    unfold bindL
    exact bindL_get (i := i) (List.nodup_cons.mp nd).2 (by simpa using h1) (by simpa using h2) hk
theorem bindC_get {kindOf : Str → Option NameKind} {x : Str} {v : Value} : ∀ {P : List Str} {vs : List Value} {i : Nat} {m : Str → Option Value}, P.Nodup → P[i]? = some x → vs[i]? = some v → kindOf x ≠ some .local →
    bindC kindOf (P.zip vs) m x = some v
  | [], _, _, _, _, h, _, _ => by simp at h
  | _ :: _, [], _, _, _, _, h, _ => by simp at h
  | p :: P, w :: vs, 0, m, nd, h1, h2, hk => by
    simp at h1 h2; subst h1; subst h2
    show bindC kindOf ((p, w) :: P.zip vs) m p = _
    unfold bindC
    rw [bindC_out fun v hv => (List.nodup_cons.mp nd).1 (List.of_mem_zip hv).1, if_neg hk]
    simp
  | p :: P, w :: vs, i + 1, m, nd, h1, h2, hk => by
    show bindC kindOf ((p, w) :: P.zip vs) m x = _
    unfold bindC
    exact bindC_get (i := i) (List.nodup_cons.mp nd).2 (by simpa using h1) (by simpa using h2) hk
noncomputable def start (N : List Str) (vs : List V) : St := vs.map some ++ List.replicate (N.length - vs.length) none
noncomputable def cxOf (CX : CXT) (P : Program) (w : World) (K : PySem.W.Frag) (mg : Str → Option Value) (base : Heap) (N : List Str) (qual : Str) (scope : Scope) (f : Addr) (cd : Value) (A : Around) (outer : List Env) (s : Shared) (H : Hp) (E : XK) : Cx where
  prog := P
  w := w
  K := K
  mg := mg
  base := base
  A := A.deeper (envOfC qual scope s.heap.objs.size f cd)
  N := N
  s₀ := s
  H₀ := H
  env := envOfC qual scope s.heap.objs.size f cd
  outer := outer
  stack := envOfC qual scope s.heap.objs.size f cd :: outer
  ex := []
  calm := true
  fn := fun _ => true
  pn := []
  xe := fun e s' => wpAny (model P w) (A.deeper (envOfC qual scope s.heap.objs.size f cd)) (leaving (envOfC qual scope s.heap.objs.size f cd) e) (fun _ s'' => CX outer H s E e s'') (fun e' s'' => CX outer H s E e' s'') s'
theorem cell_has {sc : Scope} {n : Nat} {x : Str} (h : sc.names.lookup x = some .cell) : ∃ c, (cellsFrom n sc.names []).lookup x = some c := by
  have q := PySem.W.cellsFrom_some sc.names n [] (.inl h)
  exact Option.isSome_iff_exists.mp q
theorem inv_start {CX : CXT} {P : Program} {w : World} {K : PySem.W.Frag} {mg : Str → Option Value} {base : Heap} {N ps : List Str} {qual : Str} {scope : Scope} {f : Addr} {cd : Value} {A : Around} {outer : List Env} {s s1 : Shared} {H : Hp} {E : XK} {us : List Value} {vs : List V}
    (S : FnScope N ps scope) (hd : A.handled = none) (e0 : Env0 P w K mg base A outer s H) (hl : vs.length = ps.length) (r : Vals vs us)
    (x : InCallC s s.heap.objs.size (bindL (envOfC qual scope s.heap.objs.size f cd).kindOf (ps.zip us) fun _ => none) (cellsFrom (s.heap.objs.size + 1) scope.names []) (bindC (envOfC qual scope s.heap.objs.size f cd).kindOf (ps.zip us) fun _ => none) s1) :
    Inv (cxOf CX P w K mg base N qual scope f cd A outer s H E) [] (start N vs) H s1 := by
  have hpl : ps.length ≤ N.length := by have := congrArg List.length S.pre; rw [List.length_take] at this; omega
  obtain ⟨h1, tk, rfl, hk⟩ := x.done
  have noA : ∀ b : Addr, b ∉ (cxOf CX P w K mg base N qual scope f cd A outer s H E).ex := fun b z => absurd (show b ∈ ([] : List Addr) from z) (by simp)
  refine ⟨⟨e0.mod, S.kind, rfl, rfl, Nat.le_refl _, fun y z c h1 h2 => ?_, fun y hy => ?_, fun y c _ h => ?_, fun _ => hd, Around.frames_deeper e0.frames, .inr ⟨rfl, rfl⟩, fun b z => absurd z (noA b), e0.bs, e0.bsz, fun b _ _ => noA b, fun b z => absurd z (noA b), e0.funs, e0.frf⟩,
    rfl, e0.bare, Un.kept hk, ⟨_, x.toInCall.ns, fun i y v h1 h2 h3 => ?_⟩, fun y c h => ⟨_, x.cell y c h⟩, e0.hok.fresh (Nat.le_refl _), fun y c h => ?_, fun p hp => absurd (show p ∈ ([] : List (Addr × Obj)) from hp) (by simp), e0.hok.kept hk, ?_⟩
  · exact name_of_addr x.apart (PySem.mem_of_lookup h1) (PySem.mem_of_lookup h2)
  · have hy : scope.names.lookup y = some .cell ∨ scope.names.lookup y = some .free := hy
    rcases hy with hy | hy
    · exact cell_has hy
    · exact absurd rfl (S.nofree _ (PySem.mem_of_lookup hy))
  · exact Nat.le_of_lt (x.above y c (PySem.mem_of_lookup h))
  · have hi : i < vs.length := by
      unfold start at h2
      by_cases hi : i < vs.length
      · exact hi
      · rw [List.getElem?_append_right (by simpa using hi)] at h2
        rw [List.getElem?_replicate] at h2
        split at h2 <;> cases h2
    have ha : vs[i]? = some v := by
      unfold start at h2
      rw [List.getElem?_append_left (by simpa using hi), List.getElem?_map] at h2
      cases e : vs[i]? with
      | none => rw [e] at h2; cases h2
      | some a => rw [e] at h2; cases h2; rfl
    obtain ⟨u, hu, rv⟩ := r.get ha
    have hp : ps[i]? = some y := by
      rw [← S.pre, List.getElem?_take_of_lt (by omega)]; exact h1
    have ndP : ps.Nodup := by rw [← S.pre]; exact S.nd.sublist (List.take_sublist _ _)
    refine ⟨u, rv, ?_⟩
    rcases S.par y (List.mem_of_getElem? hp) with k | k
    · exact .inl ⟨k, bindL_get ndP hp hu k⟩
    · obtain ⟨c, e⟩ := cell_has (n := s.heap.objs.size + 1) k
      refine .inr ⟨.inl k, c, e, ?_⟩
      have q := x.cell y c e
      rw [bindC_get ndP hp hu (by show scope.names.lookup y ≠ _; rw [k]; decide)] at q
      exact q
  · exact e0.hok.fresh (Nat.le_of_lt (x.above y c (PySem.mem_of_lookup h)))
  · unfold start
    show _ = N.length
    rw [List.length_append, List.length_map, List.length_replicate]
    omega
theorem fn_of {CX : CXT} {P : Program} {w : World} {K : PySem.W.Frag} {mg : Str → Option Value} {base : Heap} {k : Nat} {f : Addr} {name qual : Str} {params : Arguments} {body : List Stmt} {scope : Scope} {dV kV doc pm cdv ct oc : Value} {an od : Option Addr}
    {osl : Array (Option Value)} {N ps : List Str} {sp : Sp} (lk : K.lookup f = some ⟨oc, od, .func (PySem.W.fnOf name qual params body scope dV kV doc pm an cdv ct), osl⟩) (hcd : PySem.W.codeIn K cdv qual = true) (S : FnScope N ps scope)
    (len : ∀ vs H Q E, sp vs H Q E → vs.length = ps.length)
    (hbody : ∀ (A : Around) (outer : List Env) (s : Shared) (H : Hp) (vs : List V) (Q : VK) (E : XK), Room k (A.deeper (envOfC qual scope s.heap.objs.size f cdv)) → sp vs H Q E →
      ∃ t, PSs (cxOf CX P w K mg base N qual scope f cdv A outer s H E) body t ∧ t { nx := fun _ H' => Q .non H', rt := Q } (start N vs) H) :
    FnOk P w K mg base CX (k + 1) f (PySem.W.fnOf name qual params body scope dV kV doc pm an cdv ct) ps sp := by
  refine ⟨len, fun A outer s H args us vs Q E hr e0 hb r hsp => ?_⟩
  have hl := len _ _ _ _ hsp
  have KX : K.In s.heap := e0.mod.kin.keeps fun b o e => (e0.bs b o e).1
  have lim : s.heap.NoLimit := e0.mod.nolimit.keeps fun b o e => (e0.bs b o e).1
  have hkind : ∀ y ∈ ps.zip us, scope.names.lookup y.1 = some .local ∨ (scope.names.lookup y.1 = some .cell ∧ ((cellsFrom (s.heap.objs.size + 1) scope.names []).lookup y.1).isSome = true) := fun ⟨n, v⟩ hy => by
    rcases S.par n (List.of_mem_zip hy).1 with q | q
    · exact .inl q
    · exact .inr ⟨q, PySem.W.cellsFrom_some _ _ _ (.inl q)⟩
  refine codeAny_call_function hr.depth (KX _ _ lk) rfl S.co S.gen rfl (PySem.W.codeRec_of KX hcd) (hb _ _ _ _ ?_)
  refine wpAny_newFunctionEnv_cells S.kind hkind fun env he s1 x => ?_
  subst he
  refine ⟨lim.keeps x.toInCall.keep, codeAny_func ?_⟩
  obtain ⟨t, ht, hq⟩ := hbody A outer s H vs Q E (hr.deeper _) hsp
  have I : Inv (cxOf CX P w K mg base N qual scope f cdv A outer s H E) [] (start N vs) H s1 := inv_start S hr.hd e0 hl r x
  refine wpAny_mono (ht [] s1 (start N vs) H _ I hq) (fun fl s' hs => ?_) fun e s' hs => hs
  have fin : ∀ {σ' : St} {H' : Hp} {v : V} {u : Value}, Inv (cxOf CX P w K mg base N qual scope f cdv A outer s H E) [] σ' H' s' → RelV v u → Q v H' → CE outer P w H s Q u s' :=
    fun {σ' H' v u} J rv q => ⟨v, H', J.os, J.bare, J.base, J.hok, rv, q⟩
  cases fl with
  | ret u =>
    obtain ⟨v, σ', H', J, rv, q⟩ := hs
    exact fin J rv q
  | next =>
    obtain ⟨σ', H', J, q⟩ := hs
    exact fin (v := V.non) (u := Value.none) J rfl q
  | brk =>
    obtain ⟨_, _, _, q⟩ := hs
    exact False.elim q
  | cont =>
    obtain ⟨_, _, _, q⟩ := hs
    exact False.elim q
end L2
namespace L2
open PySem PySem.Spec PyProof.Rows
section
variable {X : Cx} {x : Str} {p pos : Pos} {e : Expr} {es : List Expr} {t : TA} {id T : String} {r : List V → Hp → VK → Prop}
noncomputable def tCB (r : List V → Hp → VK → Prop) (t : TA) : TE := fun σ H Q => t σ H fun vs H1 => r vs H1 Q
theorem pe_callB (hc : CallR X (.builtin id) r) (hg : Gl X x) (hm : X.mg x = none) (hv : bootBuiltins x = some (.builtin id)) (ha : PA X (e :: es) t) (hn : x ≠ "__name__" := by decide) (hdb : (x == ("__debug__" : Str)) = false := by decide)
    (he : starEach (e :: es) X.env = (false, eval e X.env) :: starEach es X.env := by rfl) (hpl : (backTo pos (starEach es X.env)).any (·.1) = false := by rfl) : PE X (.Call (.Name x p) (e :: es) [] pos) (tCB r t) := by
  intro pins s σ H Q I h
  refine wpAny_Call_Name_kw (ld_blt I hg hm hv ?_ hn hdb)
  exact PyProof.Rows.callWith_builtin1 (thn (ha pos pins s σ H _ I h) fun us s1 ⟨vs, H1, I1, r1, q1⟩ => hc pins s1 σ H1 vs us Q I1 r1 q1) he hpl
theorem pe_callTy (hc : CallR X (.type T) r) (hg : Gl X x) (hm : X.mg x = none) (hv : bootBuiltins x = some (.type T)) (ha : PA X (e :: es) t) (hn : x ≠ "__name__" := by decide) (hdb : (x == ("__debug__" : Str)) = false := by decide)
    (he : starEach (e :: es) X.env = (false, eval e X.env) :: starEach es X.env := by rfl) (hpl : (backTo pos (starEach es X.env)).any (·.1) = false := by rfl) : PE X (.Call (.Name x p) (e :: es) [] pos) (tCB r t) := by
  intro pins s σ H Q I h
  refine wpAny_Call_Name_kw (ld_blt I hg hm hv ?_ hn hdb)
  exact PyProof.Rows.callWith_type1 (thn (ha pos pins s σ H _ I h) fun us s1 ⟨vs, H1, I1, r1, q1⟩ => hc pins s1 σ H1 vs us Q I1 r1 q1) he hpl
end
end L2
namespace HT
open PySem PyProof.Rows
section
open PySem.SeqAt
open PySem.AutoSeq1 (wpAny_loadPart')
open PySem.MeetsSeq PySem.MeetsSeq2 PySem.MeetsSeq3
end
section
variable {prog : Program} {w : World} {A : Around} {E : Value → Shared → Prop} {s : Shared}
noncomputable def sIx (n d : Nat) : Option Int → Nat
  | none => d
  | some v => if v < 0 then (v + (n : Int)).toNat else min v.toNat n
end
end HT
namespace L2
open PySem PySem.Spec PyProof.Rows
abbrev TO := St → Hp → (Option Int → Hp → Prop) → Prop
noncomputable def PO (X : Cx) (e : Option Expr) (t : TO) : Prop :=
  ∀ (pins : List (Addr × Obj)) (s : Shared) (σ : St) (H : Hp) (Q : Option Int → Hp → Prop), Inv X pins σ H s → t σ H Q →
    wpAny (model X.prog X.w) X.A (evalPart e X.env) (fun u s' => ∃ o H', Inv X pins σ H' s' ∧ IsPart u o ∧ Q o H') X.xe s
noncomputable def tNoPart : TO := fun _ H Q => Q none H
noncomputable def tPart (t : TE) : TO := fun σ H Q => t σ H fun x H1 => ∃ i, x = .int i ∧ Q (some i) H1
theorem intsAre_of {ns : List Int} : ∀ {us : List Value}, Vals (ns.map V.int) us → IntsAre us ns := by
  induction ns with
  | nil => intro us r; rw [List.map_nil] at r; cases r; exact .nil
  | cons n ns ih =>
    intro us r
    rw [List.map_cons] at r
    cases r with
    | cons r1 r2 =>
      obtain ⟨t, e⟩ := r1
      subst e
      exact .cons n t (ih r2)
section
variable {X : Cx} {e : Expr} {te : TE} {lo hi : Option Expr} {tl th : TO} {pos p2 : Pos}
theorem po_none : PO X none tNoPart := by
  intro pins s σ H Q I h
  rw [evalPart_none]
  exact wpAny_pure ⟨none, H, I, .none, h⟩
theorem po_some (h : PE X e te) : PO X (some e) (tPart te) := by
  intro pins s σ H Q I hw
  rw [evalPart_some]
  refine thn (h pins s σ H _ I hw) fun u s1 ⟨x, H1, I1, r1, q1⟩ => ?_
  obtain ⟨i, rfl, q⟩ := q1
  obtain ⟨t, rfl⟩ := r1
  exact ⟨some i, H1, I1, .int i t, q⟩
noncomputable def SlR (X : Cx) (r : V → Option Int → Option Int → Hp → VK → Prop) : Prop :=
  ∀ (pins : List (Addr × Obj)) (s : Shared) (σ : St) (H : Hp) (x : V) (v vl vu : Value) (lo hi : Option Int) (sl : Addr) (Q : VK), Inv X pins σ H s → RelV x v → s.heap.IsSliceOf sl vl vu .none → IsPart vl lo → IsPart vu hi → r x lo hi H Q →
    ∃ T id, typeLookup (.type T) "__getitem__" = pure (some (.builtin id)) ∧ s.TypeIs v T ∧ wpAny (model X.prog X.w) X.A (getItem v (.ref sl)) (EP X pins σ Q) X.xe s
noncomputable def tSl (r : V → Option Int → Option Int → Hp → VK → Prop) (te : TE) (tl th : TO) : TE := fun σ H Q => te σ H fun x H1 => tl σ H1 fun l H2 => th σ H2 fun u H3 => r x l u H3 Q
theorem pe_slice {r : V → Option Int → Option Int → Hp → VK → Prop} (hr : SlR X r) (he : PE X e te) (hl : PO X lo tl) (hu : PO X hi th) : PE X (.Subscript e (.Slice lo hi none p2) pos) (tSl r te tl th) := by
  intro pins s σ H Q I h
  refine Subscript_ (thn (he pins s σ H _ I h) fun v s1 ⟨x, H1, I1, r1, q1⟩ => ?_)
  refine wpAny_Slice (thn (hl pins s1 σ H1 _ I1 q1) fun vl s2 ⟨l, H2, I2, pl, q2⟩ => thn (hu pins s2 σ H2 _ I2 q2) fun vu s3 ⟨u, H3, I3, pu, q3⟩ => ?_)
  rw [evalPart_none]
  refine wpAny_pure ?_
  have I4 : Inv X pins σ H3 { s3 with heap := s3.heap.push { cls := .type "slice", data := .fields #[vl, vu, .none] } } := I3.kept (t' := s3.toks) fun b ob q => Heap.get?_push_of_some _ q
  obtain ⟨T, id, hT, ht, hg⟩ := hr pins { s3 with heap := s3.heap.push { cls := .type "slice", data := .fields #[vl, vu, .none] } } σ H3 x v vl vu l u s3.heap.objs.size Q I4 r1 (Heap.IsSliceOf.new ..) pl pu q3
  show wpAny (model X.prog X.w) X.A (subscriptTail e (.Slice lo hi none p2) v (.ref s3.heap.objs.size)) (EP X pins σ Q) X.xe { s3 with heap := s3.heap.push { cls := .type "slice", data := .fields #[vl, vu, .none] } }
  exact tail_any (ops := [.ref s3.heap.objs.size, v]) ht hT hg (by with_unfolding_all rfl)
noncomputable def cutV (xs : List V) (lo hi : Option Int) : List V := (xs.drop (HT.sIx xs.length 0 lo)).take (HT.sIx xs.length xs.length hi - HT.sIx xs.length 0 lo)
theorem cutV_length (xs : List V) (lo hi : Option Int) : (cutV xs lo hi).length ≤ xs.length := by
  unfold cutV
  rw [List.length_take, List.length_drop]
  omega
end
end L2
namespace L2
open PySem PySem.Spec PyProof.Rows
noncomputable def ixN (n : Nat) (i : Int) : Option Nat := if 0 ≤ i then (if i < n then some i.toNat else none) else if -(n : Int) ≤ i then some (i + n).toNat else none
noncomputable def atI {α : Type} (xs : List α) (i : Int) : Option α := (ixN xs.length i).bind fun j => xs[j]?
theorem ixN_seq {n : Nat} {i : Int} {j : Nat} (h : ixN n i = some j) : seqIndex? i n = some j ∧ j < n ∧ -(n : Int) ≤ i ∧ i < n := by
  unfold ixN at h
  by_cases h0 : 0 ≤ i
  · rw [if_pos h0] at h
    by_cases h1 : i < n
    · rw [if_pos h1] at h
      have e : i.toNat = j := Option.some.inj h
      exact ⟨by rw [seqIndex_of h0 h1, e], by omega, by omega, h1⟩
    · rw [if_neg h1] at h; cases h
  · rw [if_neg h0] at h
    by_cases h1 : -(n : Int) ≤ i
    · rw [if_pos h1] at h
      have e : (i + n).toNat = j := Option.some.inj h
      exact ⟨by rw [seqIndex_neg (by omega) h1, e], by omega, h1, by omega⟩
    · rw [if_neg h1] at h; cases h
theorem atI_get {α : Type} {xs : List α} {i : Int} {v : α} (h : atI xs i = some v) : ∃ j, seqIndex? i xs.length = some j ∧ xs[j]? = some v ∧ j < xs.length ∧ -(xs.length : Int) ≤ i ∧ i < xs.length := by
  unfold atI at h
  cases e : ixN xs.length i with
  | none => rw [e] at h; cases h
  | some j =>
    rw [e] at h
    obtain ⟨h1, h2, h3, h4⟩ := ixN_seq e
    exact ⟨j, h1, h, h2, h3, h4⟩
theorem atI_nat {α : Type} {xs : List α} {j : Nat} {v : α} (h : xs[j]? = some v) : atI xs (j : Int) = some v := by
  have hj : j < xs.length := (List.getElem?_eq_some_iff.mp h).1
  have e : ixN xs.length (j : Int) = some j := by
    unfold ixN
    rw [if_pos (by omega), if_pos (by omega)]; simp
  unfold atI; rw [e]; exact h
theorem atI_last {α : Type} (xs : List α) (v : α) : atI (xs ++ [v]) (-1) = some v := by
  have hl : (xs ++ [v]).length = xs.length + 1 := by simp
  have e : ixN (xs ++ [v]).length (-1) = some xs.length := by
    unfold ixN
    rw [hl, if_neg (by decide), if_pos (by omega)]
    congr 1
    omega
  unfold atI
  rw [e]
  show (xs ++ [v])[xs.length]? = some v
  simp
noncomputable def PlainIx (b : Expr) : Prop := ∀ o i, subscripted b false o i = operate [o, i] (getItem o i)
noncomputable def IxR (X : Cx) (r : R2) : Prop :=
  ∀ (value slice : Expr) (pins : List (Addr × Obj)) (s : Shared) (σ : St) (H : Hp) (x y : V) (v u : Value) (Q : VK), Inv X pins σ H s → RelV x v → RelV y u → r x y H Q →
    subscripted slice false v u = operate [v, u] (getItem v u) → wpAny (model X.prog X.w) X.A (subscriptTail value slice v u) (EP X pins σ Q) X.xe s
noncomputable def MtR (X : Cx) (id : String) (r : V → List V → Hp → VK → Prop) : Prop :=
  ∀ (pins : List (Addr × Obj)) (s : Shared) (σ : St) (H : Hp) (x : V) (xs : List V) (v : Value) (us : List Value) (Q : VK), Inv X pins σ H s → RelV x v → Vals xs us → r x xs H Q →
    wpAny (model X.prog X.w) X.A (call (.builtin id) (v :: us)) (EP X pins σ Q) X.xe s
section
variable {X : Cx} {a b : Expr} {ta tb : TE} {pos : Pos}
theorem pe_ix {r : R2} (hr : IxR X r) (ha : PE X a ta) (hb : PE X b tb) (hs : PlainIx b) : PE X (.Subscript a b pos) (tOp r ta tb) := by
  intro pins s σ H Q I h
  exact Subscript_ (binT ha hb I h fun v u s2 x y H2 I2 rx ry q => hr a b pins s2 σ H2 x y v u Q I2 rx ry q (hs _ _))
noncomputable def rIxL (K : PySem.W.Frag) : R2 := fun x y H Q => ∃ p xs i v, x = .ref p ∧ y = .int i ∧ SqL K H p xs ∧ atI xs i = some v ∧ Q v H
noncomputable def rIxT (K : PySem.W.Frag) : R2 := fun x y H Q => ∃ p xs i v, x = .ref p ∧ y = .int i ∧ SqT K H p xs ∧ atI xs i = some v ∧ Q v H
theorem ix_list : IxR X (rIxL X.K) := by
  intro value slice pins s σ H x y v u Q I rx ry h hs
  obtain ⟨p, xs, i, z, rfl, rfl, hq, he, q⟩ := h
  cases rx
  obtain ⟨t, rfl⟩ := ry
  obtain ⟨its, r, pl, hz⟩ := I.list hq
  obtain ⟨j, h1, h2, h3, h4, h5⟩ := atI_get he
  obtain ⟨w, ew, rw'⟩ := r.get h2
  have hl := r.length
  have hn := line63
  have fin : EP X pins σ Q w s := ⟨z, H, I, rw', q⟩
  by_cases h0 : 0 ≤ i
  · have hj : i.toNat = j := by
      rw [seqIndex_of h0 h5] at h1
      exact Option.some.inj h1
    exact item_listR pl.isList h0 (by omega) (by rw [hj]; simpa using ew) fin hs
  · have hj : (i + (its.toArray.size : Int)).toNat = j := by
      rw [seqIndex_neg (by omega) h4] at h1
      rw [List.size_toArray, ← hl]
      exact Option.some.inj h1
    exact subscriptTail_builtinR (x := w) pl.isList.typeIs slot_list_getitem.lookup
      (wpAny_getItem_list_neg (Q := fun r s' => r = w ∧ EP X pins σ Q r s') pl.isList (by omega) (by rw [List.size_toArray] <;> omega) (by omega) (by rw [hj]; simpa using ew) ⟨rfl, fin⟩) hs
theorem ix_tup : IxR X (rIxT X.K) := by
  intro value slice pins s σ H x y v u Q I rx ry h hs
  obtain ⟨p, xs, i, z, rfl, rfl, hq, he, q⟩ := h
  cases rx
  obtain ⟨t, rfl⟩ := ry
  obtain ⟨its, r, pl, hz⟩ := I.tuple hq
  obtain ⟨j, h1, h2, h3, h4, h5⟩ := atI_get he
  obtain ⟨w, ew, rw'⟩ := r.get h2
  have hl := r.length
  have hn := line63
  have fin : EP X pins σ Q w s := ⟨z, H, I, rw', q⟩
  exact subscriptTail_builtinR (x := w) pl.typeIs slot_tuple_getitem.lookup
    (getItem_tuple (j := j) (Q := fun r s' => r = w ∧ EP X pins σ Q r s') pl (by omega) (by omega) (by rw [List.size_toArray, ← hl]; exact h1) (by simpa using ew) ⟨rfl, fin⟩) hs
theorem mapSeq_set (its : List Value) (n j : Nat) (u : Value) : Obj.mapSeq (·.setIfInBounds j u) { cls := .type "list", data := .seq its.toArray n } = { cls := .type "list", data := .seq (its.set j u).toArray n } := by
  simp [Obj.mapSeq]
theorem Inv.lst {pins : List (Addr × Obj)} {σ : St} {H : Hp} {s : Shared} {p : Addr} {xs : List V} (I : Inv X pins σ H s) (h : H p = some (.lst xs)) :
    ∃ (its : List Value) (n : Nat), Vals xs its ∧ s.heap.get? p = some { cls := .type "list", data := .seq its.toArray n } ∧ xs.length ≤ sizeLine := by
  obtain ⟨z, its, n, r, e⟩ := I.hok p _ h
  exact ⟨its, n, r, e, z⟩
theorem Inv.lstUpd {pins : List (Addr × Obj)} {σ : St} {H : Hp} {s : Shared} {p : Addr} {xs ys : List V} {its its' : List Value} {n n' : Nat} {f : Obj → Obj} (I : Inv X pins σ H s) (h : H p = some (.lst xs))
    (ho : s.heap.get? p = some { cls := .type "list", data := .seq its.toArray n }) (hf : f { cls := .type "list", data := .seq its.toArray n } = { cls := .type "list", data := .seq its'.toArray n' }) (r : Vals ys its') (hz : ys.length ≤ sizeLine) (t : Nat) :
    Inv X pins σ (upd H p (.lst ys)) { s with heap := s.heap.update p f, toks := t } := by
  have e : (s.heap.update p f).get? p = some { cls := .type "list", data := .seq its'.toArray n' } := by
    rw [Heap.get?_update_self f ho (by rw [hf] <;> rfl), hf]
  refine I.write (x := p) (e := p) (by rw [h]; trivial) (.inl rfl) (fun b u hb q => (Heap.get?_update_other _ _ (Ne.symm hb)).trans q) ⟨_, e⟩ ?_
  exact ⟨hz, its', n', r, e⟩
noncomputable def rSetL : V → V → V → Hp → (Hp → Prop) → Prop := fun o i v H Q => ∃ p xs k j, o = .ref p ∧ i = .int k ∧ H p = some (.lst xs) ∧ ixN xs.length k = some j ∧ Q (upd H p (.lst (xs.set j v)))
theorem set_list : PSet X rSetL := by
  intro pins s σ H o i v ov iv u Q I ro ri rv h
  obtain ⟨p, xs, k, j, rfl, rfl, hp, hj, q⟩ := h
  cases ro
  obtain ⟨t, rfl⟩ := ri
  obtain ⟨its, n, r, ho, hz⟩ := I.lst hp
  obtain ⟨h1, h2, h3, h4⟩ := ixN_seq hj
  have hl := r.length
  have hn := line63
  have I' : Inv X pins σ (upd H p (.lst (xs.set j v))) { s with heap := s.heap.update p (Obj.mapSeq (·.setIfInBounds j u)) } :=
    I.lstUpd hp ho (mapSeq_set its n j u) (r.set rv j) (by rw [List.length_set]; exact hz) s.toks
  by_cases h0 : 0 ≤ k
  · have hk : k.toNat = j := by
      rw [seqIndex_of h0 h4] at h1
      exact Option.some.inj h1
    exact PySem.W.ki_setAt ho h0 (by omega) (by rw [List.size_toArray, ← hl]; exact h4) (by rw [hk]; exact ⟨_, I', q⟩)
  · have hk : (k + (its.toArray.size : Int)).toNat = j := by
      rw [seqIndex_neg (by omega) h3] at h1
      rw [List.size_toArray, ← hl]
      exact Option.some.inj h1
    exact PySem.W.ki_setBack ho (by omega) (by rw [List.size_toArray, ← hl]; exact h3) (by omega) (by rw [hk]; exact ⟨_, I', q⟩)
theorem slice_bounds (lo hi : Option Int) (n : Nat) : (sliceBounds lo hi none n).1 = ((HT.sIx n 0 lo : Nat) : Int) ∧ (sliceBounds lo hi none n).2.1 = ((HT.sIx n n hi : Nat) : Int) ∧ (sliceBounds lo hi none n).2.2 = 1 := by
  refine ⟨?_, ?_, rfl⟩
  · cases lo with
    | none => simp [sliceBounds, HT.sIx]
    | some i =>
      simp only [sliceBounds, HT.sIx, Option.getD_none, show (1 : Int) > 0 by decide, if_true]
      by_cases h : i < 0
      · simp only [h, if_true] <;> omega
      · simp only [h, if_false] <;> omega
  · cases hi with
    | none => simp [sliceBounds, HT.sIx]
    | some i =>
      simp only [sliceBounds, HT.sIx, Option.getD_none, show (1 : Int) > 0 by decide, if_true]
      by_cases h : i < 0
      · simp only [h, if_true] <;> omega
      · simp only [h, if_false] <;> omega
theorem slicePick_cut (its : List Value) (lo hi : Option Int) : slicePick its.toArray lo hi none = ((its.drop (HT.sIx its.length 0 lo)).take (HT.sIx its.length its.length hi - HT.sIx its.length 0 lo)).toArray := by
  obtain ⟨h1, h2, h3⟩ := slice_bounds lo hi its.toArray.size
  unfold slicePick
  rw [h1, h2, h3]
  simp only [sliceRange_one, pick_run, List.size_toArray] <;> rfl
noncomputable def rSlL (K : PySem.W.Frag) : V → Option Int → Option Int → Hp → VK → Prop := fun x lo hi H Q => ∃ a xs, x = .ref a ∧ SqL K H a xs ∧ ∀ p, H p = none → Q (.ref p) (upd H p (.lst (cutV xs lo hi)))
theorem sl_list : SlR X (rSlL X.K) := by
  intro pins s σ H x v vl vu lo hi sl Q I rx hs pl pu h
  obtain ⟨a, xs, rfl, hx, q⟩ := h
  cases rx
  obtain ⟨its, r, ht, hz⟩ := I.list hx
  have hlen := r.length
  refine ⟨"list", _, slot_list_getitem.lookup, ht.isList.typeIs, ?_⟩
  refine wpAny_getItem_list_slice ht.isList hs pl pu .none (by simp) ?_ (by rw [List.size_toArray] <;> omega)
  rw [slicePick_cut, ← hlen]
  refine ⟨.ref s.heap.objs.size, _, I.laid (t' := s.toks) (o := .lst (cutV xs lo hi)) (fun b ob q => Heap.get?_push_of_some _ q) (Nat.le_refl _) ?_, rfl, q _ (I.hok.fresh (Nat.le_refl _))⟩
  exact ⟨Nat.le_trans (cutV_length xs lo hi) hz, _, 0, (r.drop (HT.sIx xs.length 0 lo)).take (HT.sIx xs.length xs.length hi - HT.sIx xs.length 0 lo), Heap.get?_push_size _ rfl⟩
theorem call_len_seq : CallR X (.builtin "len") (fun xs H Q => ∃ p ys, xs = [.ref p] ∧ (SqL X.K H p ys ∨ SqT X.K H p ys) ∧ Q (.int ys.length) H) := by
  intro pins s σ H xs us Q I r h
  obtain ⟨p, ys, rfl, hq, q⟩ := h
  obtain ⟨u, rfl, rx⟩ := vals1 r
  cases rx
  have hn := line63
  rcases hq with hq | hq
  · obtain ⟨its, r', pl, hz⟩ := I.list hq
    have hlen := r'.length
    exact Calls.call_len_list pl.isList (by simp only [List.size_toArray] <;> omega) ⟨.int ys.length, H, I.tok _, ⟨s.toks + 1, by rw [List.size_toArray, hlen]⟩, q⟩
  · obtain ⟨its, r', pl, hz⟩ := I.tuple hq
    have hlen := r'.length
    exact len_tuple pl (by simp only [List.size_toArray] <;> omega) ⟨.int ys.length, H, I.tok _, ⟨s.toks + 1, by rw [List.size_toArray, hlen]⟩, q⟩
theorem call_list_of : CallR X (.type "list") (fun xs H Q => ∃ p ys, xs = [.ref p] ∧ (SqL X.K H p ys ∨ SqT X.K H p ys) ∧ ∀ l, H l = none → Q (.ref l) (upd H l (.lst ys))) := by
  intro pins s σ H xs us Q I r h
  obtain ⟨p, ys, rfl, hq, q⟩ := h
  obtain ⟨u, rfl, rx⟩ := vals1 r
  cases rx
  have fin : ∀ (its : List Value), Vals ys its → ys.length ≤ sizeLine → ∀ (h' : Heap) (c' : Nat), (∀ b o', s.heap.get? b = some o' → h'.get? b = some o') →
      h'.get? s.heap.objs.size = some { cls := .type "list", dict := none, data := .seq its.toArray c', slots := #[] } → EP X pins σ Q (.ref s.heap.objs.size) { s with heap := h' } := fun its r' hz h' c' kp e =>
    ⟨.ref s.heap.objs.size, _, I.laid (t' := s.toks) kp (Nat.le_refl _) (show ObjOk X.prog X.w _ h' _ (.lst ys) from ⟨hz, its, c', r', e⟩), rfl, q _ (I.hok.fresh (Nat.le_refl _))⟩
  rcases hq with hq | hq
  · obtain ⟨its, r', pl, hz⟩ := I.list hq
    have hlen := r'.length
    obtain ⟨o, ho, hc, n, hd⟩ := pl.isList
    exact call_list_seq p (.inl rfl) ho hc hd (fun h' c' kp e => fin its r' hz h' c' kp e) (by simp only [List.size_toArray] <;> omega)
  · obtain ⟨its, r', pl, hz⟩ := I.tuple hq
    have hlen := r'.length
    obtain ⟨o, ho, hc, n, hd⟩ := pl
    exact call_list_seq p (.inr rfl) ho hc hd (fun h' c' kp e => fin its r' hz h' c' kp e) (by simp only [List.size_toArray] <;> omega)
noncomputable def tyV (K : PySem.W.Frag) (T : String) (x : V) (H : Hp) : Prop := match x with
  | .str _ => T = "str"
  | .int _ => T = "int"
  | .ref p => (T = "list" ∧ ∃ xs, SqL K H p xs) ∨ (T = "tuple" ∧ ∃ o, K.lookup p = some o ∧ o.cls = .type "tuple" ∧ o.dict = none) ∨
      (T = "dict" ∧ ((∃ kvs, H p = some (.dK kvs)) ∨ ∃ kvs, H p = some (.dT kvs))) ∨ (T = "set" ∧ ∃ S n, H p = some (.set S n))
  | _ => False
theorem tyV_is {pins : List (Addr × Obj)} {σ : St} {H : Hp} {s : Shared} {T : String} {x : V} {v : Value} (I : Inv X pins σ H s) (r : RelV x v) (ty : tyV X.K T x H) :
    s.TypeIs v T ∧ ∀ a, v = .ref a → ∃ ob, s.heap.get? a = some ob ∧ ob.dict = none := by
  cases x with
  | str z =>
    obtain ⟨t, rfl⟩ := r
    cases (show T = "str" from ty)
    exact ⟨typeIs_str s z t, fun _ e => nomatch e⟩
  | int i =>
    obtain ⟨t, rfl⟩ := r
    cases (show T = "int" from ty)
    exact ⟨typeIs_int s i t, fun _ e => nomatch e⟩
  | ref p =>
    cases r
    rcases ty with ⟨rfl, xs, hq⟩ | ⟨rfl, o, hk, hc, hd⟩ | ⟨rfl, hk⟩ | ⟨rfl, S, n, hk⟩
    · obtain ⟨its, _, pl, _⟩ := I.list hq
      refine ⟨pl.isList.typeIs, fun a e => ?_⟩
      cases e
      obtain ⟨o, n, e, c, hd, _⟩ := pl
      exact ⟨o, e, hd⟩
    · refine ⟨⟨o, I.kIn p o hk, hc⟩, fun a e => ?_⟩
      cases e
      exact ⟨o, I.kIn _ o hk, hd⟩
    · have z : ∃ o, s.heap.get? p = some o ∧ o.ExactDict := by
        rcases hk with ⟨kvs, hk⟩ | ⟨kvs, hk⟩
        · obtain ⟨_, _, _, _, o, _, _, e, ex, _⟩ := I.hok p _ hk
          exact ⟨o, e, ex⟩
        · obtain ⟨_, _, _, _, o, _, _, e, ex, _⟩ := I.hok p _ hk
          exact ⟨o, e, ex⟩
      obtain ⟨o, e, ex⟩ := z
      refine ⟨⟨o, e, ex.1⟩, fun a e2 => ?_⟩
      cases e2
      exact ⟨o, e, ex.2.1⟩
    · obtain ⟨o, _, _, _, e, ex, _⟩ := I.hok p _ hk
      refine ⟨⟨o, e, ex.1⟩, fun a e2 => ?_⟩
      cases e2
      exact ⟨o, e, ex.2.1⟩
  | _ => exact False.elim ty
noncomputable def tBM0 (K : PySem.W.Frag) (T : String) (r : V → List V → Hp → VK → Prop) (to : TE) : TE := fun σ H Q => to σ H fun x H1 => tyV K T x H1 ∧ r x [] H1 Q
noncomputable def tBM (K : PySem.W.Frag) (T : String) (r : V → List V → Hp → VK → Prop) (to : TE) (t : TA) : TE := fun σ H Q => to σ H fun x H1 => tyV K T x H1 ∧ t σ H1 fun xs H2 => r x xs H2 Q
variable {o e : Expr} {es : List Expr} {to : TE} {t : TA} {name : Str} {apos cpos : Pos} {T id : String} {r : V → List V → Hp → VK → Prop}
theorem pe_bm0 (pa : PlainAttrs T) (slot : Slot T name id) (hty : typeOf (.builtin id) = pure (.type "method_descriptor")) (hm : MtR X id r) (ho : PE X o to)
    (hbase : attributeBase o name X.env (eval o X.env) = eval o X.env := by rfl) (hline : (apos.endLine == cpos.line) = true := by rfl) : PE X (.Call (.Attribute o name apos) [] [] cpos) (tBM0 X.K T r to) := by
  intro pins s σ H Q I h
  refine wpAny_Call_method0_late hbase hline (thn (ho pins s σ H _ I h) fun v s1 ⟨x, H1, I1, r1, ty, q1⟩ => ?_)
  obtain ⟨h1, h2⟩ := tyV_is I1 r1 ty
  exact ⟨T, id, pa, slot, hty, h1, h2, Calls.callWith_builtin rfl (PySem.evalArgs_none (hm pins s1 σ H1 x [] v [] Q I1 r1 .nil q1))⟩
theorem pe_bm (pa : PlainAttrs T) (slot : Slot T name id) (hty : typeOf (.builtin id) = pure (.type "method_descriptor")) (hm : MtR X id r) (ho : PE X o to) (ha : PA X (e :: es) t)
    (hbase : attributeBase o name X.env (eval o X.env) = eval o X.env := by rfl)
    (hfew : ((backTo cpos (starEach (e :: es) X.env)).all (fun x => !x.1) && (backToKw cpos (keywordEach [] X.env)).all (fun x => x.1.isSome)
      && decide ((e :: es).length + ([] : List Keyword).length + (if ([] : List Keyword).isEmpty then 0 else 1) < 30)) = true := by rfl)
    (hline : (apos.endLine == cpos.line) = true := by rfl) (hs : starEach (e :: es) X.env = (false, eval e X.env) :: starEach es X.env := by rfl) (hplain : (backTo cpos (starEach es X.env)).any (·.1) = false := by rfl) :
    PE X (.Call (.Attribute o name apos) (e :: es) [] cpos) (tBM X.K T r to t) := by
  intro pins s σ H Q I h
  refine wpAny_Call_method_late hbase hfew hline rfl (thn (ho pins s σ H _ I h) fun v s1 ⟨x, H1, I1, r1, ty, q1⟩ => ?_)
  obtain ⟨h1, h2⟩ := tyV_is I1 r1 ty
  refine ⟨T, id, pa, slot, hty, h1, h2, ?_⟩
  have hA := ha cpos pins s1 σ H1 _ I1 q1
  rw [hs] at hA ⊢
  refine Calls.callWith_builtin (by show (false || (backTo cpos (starEach es X.env)).any (·.1)) = false; rw [hplain] <;> rfl) (Calls.evalArgs_plain ?_)
  exact thn hA fun us s2 ⟨vs, H2, I2, r2, q2⟩ => hm pins s2 σ H2 x vs v us Q I2 r1 r2 q2
end
end L2
namespace L2
open PySem PySem.Spec PyProof.Rows
noncomputable def MtM (X : Cx) (id : String) (r : V → List V → Hp → VK → Prop) : Prop :=
  ∀ (pins : List (Addr × Obj)) (s : Shared) (σ : St) (H : Hp) (x : V) (xs : List V) (v : Value) (us : List Value) (Q : VK), Inv X pins σ H s → RelV x v → Vals xs us → r x xs H Q →
    wpAny (model X.prog X.w) X.A (call (.builtin id) (v :: us)) (EP X pins σ Q) X.xe s
theorem Vals.one : ∀ {x : V} {us : List Value}, Vals [x] us → ∃ u, us = [u] ∧ RelV x u
  | _, _, .cons r .nil => ⟨_, rfl, r⟩
theorem Vals.rep {xs : List V} {us : List Value} (h : Vals xs us) : ∀ k : Nat, Vals (List.replicate k xs).flatten (List.replicate k us).flatten
  | 0 => .nil
  | k + 1 => by
    rw [List.replicate_succ, List.replicate_succ, List.flatten_cons, List.flatten_cons]
    exact Vals.append h (Vals.rep h k)
theorem foldl_rep (its : List Value) : ∀ (k : Nat) (acc : List Value),
    List.foldl (fun x1 x2 => x1 ++ x2) acc.toArray (List.replicate k its.toArray) = (acc ++ (List.replicate k its).flatten).toArray
  | 0, acc => by simp
  | k + 1, acc => by
    have e : acc.toArray ++ its.toArray = (acc ++ its).toArray := by simp
    have e2 : (acc ++ its) ++ (List.replicate k its).flatten = acc ++ (List.replicate (k + 1) its).flatten := by
      rw [List.replicate_succ, List.flatten_cons, List.append_assoc]
    rw [← e2, ← foldl_rep its k (acc ++ its), ← e, List.replicate_succ, List.foldl_cons]
section
variable {X : Cx} {pins : List (Addr × Obj)} {σ : St} {H : Hp} {s : Shared} {l b : Addr} {xs ys zs : List V}
theorem Inv.lset {its its' : List Value} {n : Nat} {f : Array Value → Array Value} {t' : Nat} (I : Inv X pins σ H s) (hH : H l = some (.lst xs))
    (e : s.heap.get? l = some { cls := .type "list", data := .seq its.toArray n }) (hf : f its.toArray = its'.toArray) (hv : Vals ys its') (hz : ys.length ≤ sizeLine) :
    Inv X pins σ (upd H l (.lst ys)) { s with heap := s.heap.update l (Obj.mapSeq f), toks := t' } := by
  have q := PySem.IsL.update e f
  rw [hf] at q
  refine I.write (x := l) (e := l) (by rw [hH]; exact trivial) (.inl rfl) (fun b' u hb hu => (Heap.get?_update_other s.heap (Obj.mapSeq f) (Ne.symm hb)).trans hu) ⟨_, q⟩ ?_
  exact ⟨hz, its', _, hv, q⟩
theorem Inv.lnew {its : List Value} {t' : Nat} (I : Inv X pins σ H s) (hv : Vals ys its) (hz : ys.length ≤ sizeLine) :
    Inv X pins σ (upd H s.heap.objs.size (.lst ys)) { s with heap := s.heap.push { cls := .type "list", data := .seq its.toArray }, toks := t' } :=
  I.laid (fun _ _ q => Heap.get?_push_of_some _ q) (Nat.le_refl _) ⟨hz, its, 0, hv, Heap.get?_push_size _ rfl⟩
theorem Inv.fresh (I : Inv X pins σ H s) : H s.heap.objs.size = none := I.hok.fresh (Nat.le_refl _)
theorem Inv.lstM (I : Inv X pins σ H s) (hH : H l = some (.lst xs)) : xs.length ≤ sizeLine ∧ ∃ (its : List Value) (n : Nat), Vals xs its ∧ xs.length = its.length ∧ s.heap.get? l = some { cls := .type "list", data := .seq its.toArray n } := by
  obtain ⟨z, its, n, r, e⟩ := I.hok l _ hH
  exact ⟨z, its, n, r, r.length, e⟩
theorem notLongL {n : Nat} (h : n ≤ sizeLine) : Builtin.List.listTooLong n = false := by
  unfold Builtin.List.listTooLong
  exact decide_eq_false (by omega)
end
section
variable {X : Cx}
noncomputable def rAppend : V → List V → Hp → VK → Prop := fun x vs H Q => ∃ l xs y, x = .ref l ∧ vs = [y] ∧ H l = some (.lst xs) ∧ xs.length < sizeLine ∧ Q .non (upd H l (.lst (xs ++ [y])))
theorem mt_append : MtM X "list.append" rAppend := by
  intro pins s σ H x vs v us Q I rx rv h
  obtain ⟨l, xs, y, rfl, rfl, hH, hz, q⟩ := h
  cases rx
  obtain ⟨u, rfl, ru⟩ := rv.one
  obtain ⟨z, its, n, r, hl, e⟩ := I.lstM hH
  refine call_meets F.slot_list_append ⟨_, e, rfl⟩ F.entry_list_append (F.args_list_append_2 _ _) (PySem.list_append l its.toArray n u (by rw [List.size_toArray]; omega)) ⟨e, ?_⟩
  refine ⟨.non, _, I.lset (its' := its ++ [u]) hH e (by simp) (r.append (.cons ru .nil)) ?_, rfl, q⟩
  rw [List.length_append, List.length_singleton]
  omega
noncomputable def rExtend : V → List V → Hp → VK → Prop := fun x vs H Q => ∃ l b xs zs, x = .ref l ∧ vs = [.ref b] ∧ H l = some (.lst xs) ∧ H b = some (.lst zs) ∧ xs.length + zs.length ≤ sizeLine ∧ Q .non (upd H l (.lst (xs ++ zs)))
theorem mt_extend : MtM X "list.extend" rExtend := by
  intro pins s σ H x vs v us Q I rx rv h
  obtain ⟨l, b, xs, zs, rfl, rfl, hH, hB, hz, q⟩ := h
  cases rx
  obtain ⟨u, rfl, ru⟩ := rv.one
  cases ru
  obtain ⟨z, its, n, r, hl, e⟩ := I.lstM hH
  obtain ⟨z2, its2, n2, r2, hl2, e2⟩ := I.lstM hB
  have hsz : its.toArray.size + its2.toArray.size ≤ sizeLine := by rw [List.size_toArray, List.size_toArray]; omega
  have hlong : ¬ (!its.toArray.isEmpty && Builtin.List.listTooLong (its.toArray.size + its2.toArray.size)) = true := by
    rw [notLongL hsz, Bool.and_false]
    exact Bool.false_ne_true
  refine call_meets F.slot_list_extend ⟨_, e, rfl⟩ F.entry_list_extend (F.args_list_extend_2 _ _)
    (AutoSeq1.list_extend_list_list_0 l its.toArray n b its2.toArray n2 hlong (by rw [List.size_toArray]; omega) (by omega)) ⟨e, e2, ?_⟩
  refine ⟨.non, _, I.lset (its' := its ++ its2) hH e (by simp) (r.append r2) ?_, rfl, q⟩
  rw [List.length_append]
  omega
noncomputable def rCat : R2 := fun x y H Q => ∃ l b xs zs, x = .ref l ∧ y = .ref b ∧ H l = some (.lst xs) ∧ H b = some (.lst zs) ∧ xs.length + zs.length ≤ sizeLine ∧ ∀ p, H p = none → Q (.ref p) (upd H p (.lst (xs ++ zs)))
theorem op_cat : OpR X (binaryOp .Add) rCat := by
  intro pins s σ H x y v u Q I rx ry h
  obtain ⟨l, b, xs, zs, rfl, rfl, hH, hB, hz, q⟩ := h
  cases rx
  cases ry
  obtain ⟨z, its, n, r, hl, e⟩ := I.lstM hH
  obtain ⟨z2, its2, n2, r2, hl2, e2⟩ := I.lstM hB
  refine PySem.P.add_list e e2 ?_ (by rw [List.size_toArray, List.size_toArray]; omega)
  have ea : its.toArray ++ its2.toArray = (its ++ its2).toArray := by simp
  rw [ea]
  exact ⟨.ref _, _, I.lnew (t' := s.toks) (r.append r2) (by rw [List.length_append]; omega), rfl, q _ I.fresh⟩
noncomputable def rRep : R2 := fun x y H Q => ∃ l k xs, x = .ref l ∧ y = .int k ∧ H l = some (.lst xs) ∧ -(2 ^ 63) ≤ k ∧ k < 2 ^ 63 ∧ xs.length * k.toNat ≤ sizeLine ∧
  ∀ p, H p = none → Q (.ref p) (upd H p (.lst (List.replicate k.toNat xs).flatten))
theorem len_rep {α : Type} (xs : List α) (k : Nat) : (List.replicate k xs).flatten.length = k * xs.length := by
  induction k with
  | zero => simp
  | succ k ih => rw [List.replicate_succ, List.flatten_cons, List.length_append, ih, Nat.succ_mul, Nat.add_comm]
theorem op_rep : OpR X (binaryOp .Mult) rRep := by
  intro pins s σ H x y v u Q I rx ry h
  obtain ⟨l, k, xs, rfl, rfl, hH, h1, h2, hz, q⟩ := h
  cases rx
  obtain ⟨t, rfl⟩ := ry
  obtain ⟨z, its, n, r, hl, e⟩ := I.lstM hH
  have hlen : its.toArray.size * k.toNat ≤ sizeLine := by rw [List.size_toArray, ← hl]; exact hz
  have hcap : ¬ its.toArray.size * k.toNat > (2 ^ 63 - 1) / 8 := by
    have : (sizeLine : Nat) ≤ (2 ^ 63 - 1) / 8 := by decide
    omega
  have hfit : ¬ (!Builtin.List.listFitsIndex k) = true := by
    rw [fitsIndex_both h1 h2]
    exact Bool.false_ne_true
  have hlong : ¬ Builtin.List.listTooLong (its.toArray.size * k.toNat) = true := by
    rw [notLongL hlen]
    exact Bool.false_ne_true
  have hnew : List.foldl (fun x1 x2 => x1 ++ x2) #[] (List.replicate (if its.toArray.isEmpty = true then 0 else k.toNat) its.toArray) = (List.replicate k.toNat its).flatten.toArray := by
    have f0 : ∀ m : Nat, List.foldl (fun x1 x2 => x1 ++ x2) #[] (List.replicate m its.toArray) = (List.replicate m its).flatten.toArray := fun m => by
      have := foldl_rep its m []
      rw [List.nil_append] at this
      exact this
    rw [f0]
    cases its with
    | nil => simp
    | cons a r' => rw [if_neg (by simp)]
  refine wpAny_binaryOp_repeat_ref (T := "list") (U := "int") (by decide) ⟨_, e, rfl⟩ (fun s' => typeIs_int s' k t) noFill_list_mul F.fills_int_mul F.slot_int_rmul repeat_list F.slot_int_index.lookup
    (call_meets F.slot_int_rmul (typeIs_int s k t) F.entry_int_rmul (F.args_int_rmul_2 _ _) (int___rmul___int_list k t l its.toArray n)
      ⟨e, rfl, ⟨_, e, rfl⟩, call_meets F.slot_list_mul ⟨_, e, rfl⟩ F.entry_list_mul (F.args_list_mul_2 _ _) (AutoListH.list___mul___list_int_3 l its.toArray n k t hfit hcap hlong) ⟨e, ?_⟩⟩)
  rw [hnew]
  exact ⟨.ref _, _, I.lnew (t' := s.toks) (r.rep k.toNat) (by rw [len_rep, Nat.mul_comm]; exact hz), rfl, q _ I.fresh⟩
end
section
variable {prog : Program} {w : World} {A : Around} {E : Value → Shared → Prop} {s : Shared}
end
section
variable {X : Cx}
end
end L2
namespace Att
open PySem PySem.W PySem.Calls PyProof.Rows
theorem ints_of_wellAll {P : Params} {h : Heap} : ∀ (ns : List Int) (vs : List Value), WellAll P h vs (ns.map WData.int) → IntsAre vs ns := by
  intro ns
  induction ns with
  | nil =>
    intro vs w
    rw [List.map_nil] at w
    cases w
    exact .nil
  | cons n ns ih =>
    intro vs w
    rw [List.map_cons] at w
    cases w with
    | cons a b =>
      cases a
      exact .cons _ _ (ih _ b)
theorem script_of {l : OpenLaw} {n : Nat} (hn : l.most = some n) {P : Params} {h : Heap} {args : List WData} {vals : List Value}
    (hpre : l.row.toRowW.claim.pre args = true) (hwl : WellAll P h vals args) :
    ∃ a vs ns, vals = [Value.ref a] ∧ args = [WData.list (ns.map WData.int)] ∧ h.get? a = some { cls := .type "list", data := .seq vs.toArray } ∧ IntsAre vs ns ∧ ns.length ≤ n := by
  have hsh : WShape.hasAll [] args [.list .int] = true := (pre_splitW hpre).1
  have hc : l.pre.holds [] { args := args } = true := (pre_splitW hpre).2
  obtain ⟨d, r, rfl, h1, h2⟩ := hasAllW_cons hsh
  obtain rfl := hasAllW_nil h2
  obtain ⟨xs, rfl, h3⟩ := hasW_list h1
  obtain ⟨ns, rfl⟩ := items_int h3
  have hlen : ns.length ≤ n := by
    unfold OpenLaw.pre at hc
    have h4 : (WTm.not (.lt (.lit (.int (n : Int))) (.len (.arg 0)))).holds [] { args := [.list (ns.map .int)] } = true := by
      have h4 := (holds_andW hc).1
      rw [hn] at h4
      exact h4
    have h5 := condW_of h4 (w_not (w_lt w_lit (w_len_list (w_arg rfl))))
    rw [List.length_map] at h5
    refine Nat.le_of_not_lt fun q => ?_
    have q' : (n : Int) < ((ns.length : Nat) : Int) := by omega
    first
      | (rw [decide_eq_true q'] at h5; exact absurd h5 (by decide))
      | (simp at h5; omega)
  cases hwl with
  | cons w1 w2 =>
    cases w2
    cases w1 with
    | list ho hall => exact ⟨_, _, ns, rfl, rfl, ho, ints_of_wellAll ns _ hall, hlen⟩
theorem post_true (l : OpenLaw) (args : List WData) : l.row.toRowW.claim.post args (.bool true) args = true :=
  postW_of (r := l.row.toRowW) (X := (true == true))
    (show WShape.has [] (.bool true) .bool = true by first | rfl | decide | simp [WShape.has, WShape.arms, WShape.armsAll])
    (show (WTm.eq .res (.lit (.bool true))).value [] { args := args, res := some (.bool true), after := args } = some (.bool (true == true)) from w_eq_bool (w_res rfl) w_lit) rfl
theorem lay_bits {ns : List Int} (h : WData.layableAll [WData.list (ns.map WData.int)] = true) : ∀ x ∈ ns, Builtin.Int.intBits x ≤ 1048576 := by
  have h1 : WData.layable (WData.list (ns.map WData.int)) = true := by
    have h' : (WData.layable (WData.list (ns.map WData.int)) && true) = true := h
    rwa [Bool.and_true] at h'
  unfold WData.layable at h1
  rw [Bool.and_eq_true] at h1
  have h2 := of_decide_eq_true h1.2
  have h3 : WData.weightAll (ns.map WData.int) ≤ 2 ^ 20 := by
    have e : WData.weight (WData.list (ns.map WData.int)) = WData.weightAll (ns.map WData.int) := by simp only [WData.weight]
    rwa [e] at h2
  have h4 : ∀ (l : List Int), ∀ x ∈ l, WData.weight (WData.int x) ≤ WData.weightAll (l.map WData.int) := by
    intro l
    induction l with
    | nil => intro x hx; cases hx
    | cons y r ih =>
      intro x hx
      have e : WData.weightAll ((y :: r).map WData.int) = WData.weight (WData.int y) + 1 + WData.weightAll (r.map WData.int) := by
        rw [List.map_cons]; simp only [WData.weightAll]
      rw [e]
      rcases List.mem_cons.mp hx with z | z
      · subst z; omega
      · have := ih x z; omega
  intro x hx
  have h5 := Nat.le_trans (h4 ns x hx) h3
  have e : WData.weight (WData.int x) = Builtin.Int.intBits x := by
    simp only [WData.weight]
    unfold Builtin.Int.intBits
    by_cases hz : x = 0
    · subst hz; rfl
    · have hb : (x == 0) = false := by simpa using hz
      simp [hz]
  rw [e] at h5
  exact h5
theorem attach_call {l : OpenLaw} {n : Nat} {q : Program} {loose : List Str} {XP : (Str → Option Value) → Heap → Prop} {YP : World → Heap → Prop} {d : DefRec}
    (hn : l.most = some n) (hdf : d.params.defaults = [])
    (call : ∀ (w : World) (s₀ s₁ : Shared) (mg mb : Str → Option Value) (fa : Addr) (o : Obj) (pm cd doc : Value) (a : Addr) (vs : List Value) (ns : List Int),
      Ground q loose [] XP w s₀ mg mb s₁.heap → YP w s₁.heap →
      s₁.heap.get? fa = some o → o.data = .func (docDef d.name d.params d.body d.scope pm cd doc) → s₁.heap.CodeRec cd d.name → mg d.name = some (.ref fa) →
      s₁.heap.get? a = some { cls := .type "list", data := .seq vs.toArray } → IntsAre vs ns → ns.length ≤ n → (∀ x ∈ ns, Builtin.Int.intBits x ≤ 1048576) → s₁.gens = #[] →
      codeAny (model l.prog w) callerA (.call (.ref fa) ⟨[.ref a], []⟩) (fun r s' => r = .ok (.ret (.bool true)) ∧ OldK s₁.heap s'.heap ∧ s'.os = s₁.os ∧ AllBare s'.gens) s₁) :
    WalkO q loose XP YP l.row.toRowW d [] (fun f vs => PySem.call f vs) := by
  intro w s₀ s₁ mg mb G Y fa o pm cd doc dV kV ho hd hcd hD hmg hg args vals as hpre hlay hrd hwl hlo
  obtain rfl : dV = .none := Dflts.none hD hdf
  obtain rfl : kV = .none := Dflts.noKw hD
  obtain ⟨a, vs, ns, rfl, rfl, hobj, hints, hlen⟩ := script_of hn hpre hwl
  refine enter_call (codeAny_mono (call w s₀ s₁ mg mb fa o pm cd doc a vs ns G Y ho (fd_plain hd) hcd hmg hobj hints hlen (lay_bits hlay) hg) fun r s' hq => ?_)
  obtain ⟨rfl, h2, h3, h4⟩ := hq
  exact ⟨.inl ⟨.bool true, .bool true, [], rfl, fun _ => rfl, .bool true, post_true l _, fun _ => ⟨List.Pairwise.nil, fun _ hm => (nomatch hm)⟩⟩, h2, h3, h4⟩
section
variable {prog : Program} {w : World} {A : Around} {E : Value → Shared → Prop} {s : Shared} {K : Frag}
end
end Att
namespace L2
open PySem PySem.Spec PyProof.Rows
theorem vals_ints : ∀ {vs : List Value} {ns : List Int}, IntsAre vs ns → Vals (ns.map V.int) vs
  | _, _, .nil => .nil
  | _, _, .cons n t h => .cons ⟨t, rfl⟩ (vals_ints h)
noncomputable def Only (H : Hp) : Prop := ∀ b, H b = none ∨ ∃ o xs, H b = some (.frz o (.lst xs))
theorem law_call {P : Program} {w : World} {K : PySem.W.Frag} {mg mb : Str → Option Value} {CX : CXT} {k : Nat} {fa a : Addr} {fd : FuncData} {x : Str} {sp : Sp} {s₁ : Shared} {vs : List Value} {ns : List Int}
    (KX : K.In s₁.heap) (hns : s₁.heap.Ns mainGlobals mg) (hb : s₁.heap.Ns builtinsNs mb) (hbb : ∀ x : Str, x ≠ "__name__" → mb x = bootBuiltins x) (hlim : s₁.heap.NoLimit) (hsr : s₁.heap.NoSeer) (hg : s₁.gens = #[])
    (ha : s₁.heap.get? a = some { cls := .type "list", data := .seq vs.toArray }) (hi : IntsAre vs ns) (hl : ns.length ≤ sizeLine) (hr : Room k callerA)
    (F : ∀ base : Heap, K.In base → base.Ns mainGlobals mg → FnOk P w K mg base CX k fa fd [x] sp) (hbind : ∀ (s : Shared) (u : Value), BindsTo s fd ⟨[u], []⟩ [(x, u)])
    (hsp : ∀ H : Hp, Only H → SqL K H a (ns.map V.int) → sp [.ref a] H (fun v _ => v = .bl true) fun _ _ _ => False)
    (hCX : ∀ H e s', CX [] H s₁ (fun _ _ _ => False) e s' → False) :
    codeAny (model P w) callerA (.call (.ref fa) ⟨[.ref a], []⟩) (fun r s' => r = .ok (.ret (.bool true)) ∧ OldK s₁.heap s'.heap ∧ s'.os = s₁.os ∧ AllBare s'.gens) s₁ := by
  have rv := vals_ints hi
  have lenV := hi.length
  have core : ∀ H : Hp, Only H → SqL K H a (ns.map V.int) → HOk P w H s₁.heap → (∀ b, H b ≠ none → b = a) → (H a ≠ none → K.lookup a = none) →
      codeAny (model P w) callerA (.call (.ref fa) ⟨[.ref a], []⟩) (fun r s' => r = .ok (.ret (.bool true)) ∧ OldK s₁.heap s'.heap ∧ s'.os = s₁.os ∧ AllBare s'.gens) s₁ := by
    intro H hO hS hok hA hK
    have base_of : ∀ {b : Addr} {o : Obj}, s₁.heap.get? b = some o → H b = none → (hidT s₁.heap H).get? b = some o := fun e n => hidT_get e n
    have noA : ∀ {b : Addr} {o : Obj} {es : Array DictEntry} {ep : Nat}, s₁.heap.get? b = some o → o.data = .dict es ep → H b = none := fun {b o es ep} e d => by
      cases q : H b with
      | none => rfl
      | some u =>
        have e' : b = a := hA b (by rw [q]; simp)
        subst e'
        rw [ha] at e; cases e
        have d' : Data.seq vs.toArray _ = Data.dict es ep := d
        cases d'
    have nsK : ∀ {b : Addr} {m : Str → Option Value}, s₁.heap.Ns b m → (hidT s₁.heap H).Ns b m := fun {b m} ⟨o, es, ep, e, d, r⟩ => ⟨o, es, ep, base_of e (noA e d), d, r⟩
    have hKb : K.In (hidT s₁.heap H) := fun b o e => base_of (KX b o e) (by
      cases q : H b with
      | none => rfl
      | some u =>
        have e' : b = a := hA b (by rw [q]; simp)
        subst e'
        rw [hK (by rw [q]; simp)] at e; cases e)
    have noC : ∀ {b : Addr} {o : Obj}, s₁.heap.get? b = some o → o.cls ≠ .type "list" → H b = none := fun {b o} e d => by
      cases q : H b with
      | none => rfl
      | some u =>
        have e' : b = a := hA b (by rw [q]; simp)
        subst e'
        rw [ha] at e; cases e
        exact absurd rfl d
    have hSr : (hidT s₁.heap H).NoSeer := ⟨let ⟨mc, h1, h2⟩ := hsr.statics; ⟨mc, nsK h1, h2⟩, let ⟨mc, h1, h2⟩ := hsr.mods; ⟨mc, nsK h1, h2⟩, let ⟨mc, h1, h2⟩ := hsr.imp; ⟨mc, nsK h1, h2⟩,
      let ⟨mg', bm, ob, h1, h2, h3, h4, h5⟩ := hsr.main; ⟨mg', bm, ob, nsK h1, h2, base_of h3 (noC h3 (by rw [h4]; decide)), h4, h5⟩⟩
    have hM : Mod K mg (hidT s₁.heap H) := ⟨hKb, nsK hns, ⟨mb, nsK hb, hbb⟩, let ⟨mc, h1, h2⟩ := hlim; ⟨mc, nsK h1, h2⟩, hSr⟩
    have e0 : Env0 P w K mg (hidT s₁.heap H) callerA [] s₁ H := ⟨rfl, hM, fun b o e => of_hidT e, Nat.le_of_eq (hidT_size _ _), trivial, fun b hb => absurd (show b ∈ ([] : List Addr) from hb) (by simp), hok, .of_eq hg⟩
    refine codeAny_mono ((F _ hKb (nsK hns)).run callerA [] s₁ H ⟨[.ref a], []⟩ [.ref a] [.ref a] _ _ hr e0 (hbind s₁ (.ref a)) (.cons rfl .nil) (hsp H hO hS)) fun r s' h => ?_
    cases r with
    | error e => exact (hCX H e s' h).elim
    | ok fl =>
      cases fl with
      | next => exact False.elim h
      | brk => exact False.elim h
      | cont => exact False.elim h
      | ret u =>
        obtain ⟨v, H', os, bare, un, hok', r', q⟩ := h
        have q' : v = .bl true := q
        subst q'
        obtain rfl : u = Value.bool true := r'
        refine ⟨rfl, OldK.of_keep fun b o e => ?_, os, bare⟩
        cases q : H b with
        | none => exact un.keep b o e q (by intro z; exact absurd (show b ∈ ([] : List Addr) from z) (by simp)) (by simp)
        | some u =>
          rcases hO b with z | ⟨ob, xs, z⟩
          · rw [q] at z; cases z
          · have z2 := un.frzs b ob _ z
            obtain ⟨e1, _⟩ := hok b _ z
            obtain ⟨e2, _⟩ := hok' b _ z2
            rw [e] at e1; cases e1
            exact e2
  cases hk : K.lookup a with
  | some o =>
    have e := KX a o hk
    rw [ha] at e
    cases e
    refine core (fun _ => none) (fun _ => .inl rfl) (.inr ⟨_, vs.toArray, _, hk, rfl, rfl, rfl, by rw [List.size_toArray, lenV]; exact hl, by simpa using rv⟩) (fun b u z => by have z' : (none : Option HO) = some u := z; cases z') (fun b z => absurd rfl z) fun z => absurd rfl z
  | none =>
    refine core (fun b => if b = a then some (.frz { cls := .type "list", data := .seq vs.toArray } (.lst (ns.map V.int))) else none) (fun b => ?_) (.inl (.inr ⟨{ cls := .type "list", data := .seq vs.toArray }, if_pos rfl⟩)) (fun b u z => ?_) (fun b z => ?_) fun _ => hk
    · by_cases hb : b = a
      · exact .inr ⟨_, _, if_pos hb⟩
      · exact .inl (if_neg hb)
    · by_cases hb : b = a
      · have z' := (if_pos hb).symm.trans z
        cases z'
        subst hb
        exact ⟨ha, by rw [List.length_map]; exact hl, vs, _, rv, ha⟩
      · have z' := (if_neg hb).symm.trans z
        cases z'
    · by_cases hb : b = a
      · exact hb
      · exact absurd (if_neg hb) z
end L2
namespace L2
open PySem PySem.Spec PyProof.Rows
theorem walk_of {l : PySem.W.OpenLaw} {n k : Nat} {q : Program} {loose : List Str} {XP : (Str → Option Value) → Heap → Prop} {YP : World → Heap → Prop} {d : DefRec} {K : Params → PySem.W.Frag} {CX : World → CXT} {sp : World → Sp} {x : Str}
    (hn : l.most = some n) (hn2 : n ≤ sizeLine) (hdf : d.params.defaults = []) (hq : importsNone q = true) (hr : Room k callerA)
    (hY : ∀ (w : World) (h : Heap), YP w h → (K w.params).In h)
    (F : ∀ (w : World) (mg : Str → Option Value) (fa : Addr) (h : Heap), (K w.params).In h → h.Ns mainGlobals mg → mg d.name = some (.ref fa) →
      ∃ fd : FuncData, (∀ (s : Shared) (u : Value), BindsTo s fd ⟨[u], []⟩ [(x, u)]) ∧
        ∀ base : Heap, (K w.params).In base → base.Ns mainGlobals mg → FnOk l.prog w (K w.params) mg base (CX w) k fa fd [x] (sp w))
    (hsp : ∀ (w : World) (H : Hp) (a : Addr) (ns : List Int), ns.length ≤ n → (∀ x ∈ ns, Builtin.Int.intBits x ≤ 1048576) → Only H → SqL (K w.params) H a (ns.map V.int) → sp w [.ref a] H (fun v _ => v = .bl true) fun _ _ _ => False)
    (hCX : ∀ (w : World) (H : Hp) (s : Shared) (e : Value) (s' : Shared), CX w [] H s (fun _ _ _ => False) e s' → False) :
    PySem.W.WalkO q loose XP YP l.row.toRowW d [] (fun f vs => PySem.call f vs) := by
  refine Att.attach_call hn hdf fun w s₀ s₁ mg mb fa o pm cd doc a vs ns G Y ho hd hcd hmg hobj hints hlen hbt hg => ?_
  have KX := hY w _ Y
  obtain ⟨fd, hb, hF⟩ := F w mg fa _ KX G.T.g hmg
  exact law_call KX G.T.g G.T.b G.T.builtins G.T.nolimit (G.T.seer hq) hg hobj hints (Nat.le_trans hlen hn2) hr hF hb (fun H hO hS => hsp w H a ns hlen hbt hO hS) fun H e s' => hCX w H s₁ e s'
end L2
namespace L2
open PySem PySem.Spec PyProof.Rows
def inClass (s : Stmt) (j : Nat) : Stmt := match s with
  | .ClassDef _ _ _ body _ _ _ _ _ _ _ => body.getD j (.Pass ⟨0, 0, 0, 0⟩)
  | _ => .Pass ⟨0, 0, 0, 0⟩
noncomputable def defArgs (s : Stmt) : Arguments := match s with
  | .FunctionDef _ a _ _ _ _ _ _ _ _ => a
  | _ => { posonlyargs := [], args := [], vararg := none, kwonlyargs := [], kw_defaults := [], kwarg := none, defaults := [] }
noncomputable def defBody (s : Stmt) : List Stmt := match s with
  | .FunctionDef _ _ b _ _ _ _ _ _ _ => b
  | _ => []
noncomputable def defScope (s : Stmt) : Scope := match s with
  | .FunctionDef _ _ _ _ _ _ sc _ _ _ => sc
  | _ => { kind := .function, names := [], isGenerator := false, isCoroutine := false }
abbrev CX0 : CXT := fun _ _ _ _ _ _ => False
abbrev E0 : XK := fun _ _ _ => False
theorem pass0 {X : Cx} : Passes CX0 X E0 := fun _ _ _ _ _ _ _ h => h.elim
structure Fun (K : PySem.W.Frag) (x qual : Str) (st : Stmt) (f : Addr) (fd : FuncData) : Prop where
  ex : ∃ (oc : Value) (od : Option Addr) (kV doc pm : Value) (an : Option Addr) (cdv ct : Value) (osl : Array (Option Value)),
    fd = PySem.W.fnOf x qual (defArgs st) (defBody st) (defScope st) .none kV doc pm an cdv ct ∧ K.lookup f = some ⟨oc, od, .func fd, osl⟩ ∧ PySem.W.codeIn K cdv qual = true
  kp : PySem.W.keepIn K (.ref f) = true
section
variable {P : Program} {w : World} {K : PySem.W.Frag} {mg : Str → Option Value} {base : Heap}
theorem Fun.ok {x qual : Str} {st : Stmt} {f : Addr} {fd : FuncData} {N ps : List Str} {k : Nat} {sp : Sp} (F : Fun K x qual st f fd) (S : FnScope N ps (defScope st)) (len : ∀ vs H Q E, sp vs H Q E → vs.length = ps.length)
    (hbody : ∀ (cdv : Value) (A : Around) (outer : List Env) (s : Shared) (H : Hp) (vs : List V) (Q : VK) (E : XK), Room k (A.deeper (envOfC qual (defScope st) s.heap.objs.size f cdv)) → sp vs H Q E →
      ∃ t, PSs (cxOf CX0 P w K mg base N qual (defScope st) f cdv A outer s H E).nox (defBody st) t ∧ t { nx := fun _ H' => Q .non H', rt := Q } (start N vs) H) : FnOk P w K mg base CX0 (k + 1) f fd ps sp := by
  obtain ⟨oc, od, kV, doc, pm, an, cdv, ct, osl, rfl, lk, hcd⟩ := F.ex
  refine fn_of lk hcd S len fun A outer s H vs Q E hr hsp => ?_
  obtain ⟨t, h, q⟩ := hbody cdv A outer s H vs Q E hr hsp
  exact ⟨t, h.nox, q⟩
theorem Fun.binds {x qual : Str} {st : Stmt} {f : Addr} {fd : FuncData} {ps : List Str} (F : Fun K x qual st f fd)
    (h : ∀ (kV doc pm : Value) (an : Option Addr) (cdv ct : Value) (us : List Value), us.length = ps.length → bindArgs (PySem.W.fnOf x qual (defArgs st) (defBody st) (defScope st) .none kV doc pm an cdv ct) ⟨us, []⟩ = pure (ps.zip us)) : Binds K fd ps [] := by
  obtain ⟨oc, od, kV, doc, pm, an, cdv, ct, osl, rfl, lk, hcd⟩ := F.ex
  exact .all (h kV doc pm an cdv ct)
theorem fun_mk {x qual : Str} {st : Stmt} {f : Addr} {oc : Value} {od an : Option Addr} {osl : Array (Option Value)} {kV doc pm cdv ct : Value} (l : K.lookup f = some ⟨oc, od, .func (PySem.W.fnOf x qual (defArgs st) (defBody st) (defScope st) .none kV doc pm an cdv ct), osl⟩)
    (c : PySem.W.codeIn K cdv qual = true) (k : PySem.W.keepIn K (.ref f) = true) : Fun K x qual st f (PySem.W.fnOf x qual (defArgs st) (defBody st) (defScope st) .none kV doc pm an cdv ct) := ⟨⟨oc, od, kV, doc, pm, an, cdv, ct, osl, rfl, l, c⟩, k⟩
end
theorem hu_of {A : Around} {k : Nat} (hr : Room k A) : A.units + 1 < cLine := Nat.lt_of_le_of_lt (Nat.add_le_add_left (by decide : 1 ≤ 64) _) hr.units
theorem small1000 {n : Nat} (h : n ≤ 1000) : n < sizeLine := Nat.lt_of_le_of_lt h (by decide)
section
variable {X : Cx}
theorem pv (i : Nat) {x : Str} {pos : Pos} (hN : X.N[i]? = some x := by rfl) (hv : Vis X.env.scope x := by first | exact Or.inl rfl | exact Or.inr (Or.inl rfl) | exact Or.inr (Or.inr rfl)) (hd : (x == ("__debug__" : Str)) = false := by decide)
    (hcd : (x == ("__classdict__" : Str)) = false := by decide) : PE X (.Name x pos) (tVar i) := pe_var hN hv hd hcd
end
theorem iteF {A B : Prop} (h : B) : if false = true then A else B := by
  rw [if_neg Bool.false_ne_true]
  exact h
theorem iteT {A B : Prop} (h : A) : if true = true then A else B := by
  rw [if_pos rfl]
  exact h
theorem ite2 {c A B : Prop} [Decidable c] (h1 : c → A) (h2 : ¬ c → B) : if c then A else B := by
  by_cases h : c
  · rw [if_pos h]
    exact h1 h
  · rw [if_neg h]
    exact h2 h
theorem iteNS {c A B : Prop} [Decidable c] (hc : c) (h : B) : if (!decide c) = true then A else B := by
  rw [decide_eq_true hc]
  exact iteF h
noncomputable def Same (H H' : Hp) : Prop := ∀ b o, H b = some o → H' b = some o
theorem Same.refl (H : Hp) : Same H H := fun _ _ h => h
theorem Same.trans {H H1 H2 : Hp} (a : Same H H1) (b : Same H1 H2) : Same H H2 := fun c o h => b c o (a c o h)
theorem Same.free {H H' : Hp} (e : Same H H') {l : Addr} (h : H' l = Option.none) : H l = Option.none := by
  cases q : H l with
  | none => rfl
  | some o =>
    rw [e l o q] at h
    cases h
theorem Same.seq {K : PySem.W.Frag} {H H' : Hp} {a : Addr} {xs : List V} (e : Same H H') (h : SqL K H a xs) : SqL K H' a xs := by
  rcases h with (h | ⟨o, h⟩) | h
  · exact .inl (.inl (e _ _ h))
  · exact .inl (.inr ⟨o, e _ _ h⟩)
  · exact .inr h
end L2
namespace L2
open PySem PySem.Spec PyProof.Rows
section
variable {X : Cx}
noncomputable def rAddI : R2 := fun x y H Q => ∃ i j, x = .int i ∧ y = .int j ∧ Q (.int (i + j)) H
noncomputable def rSubI : R2 := fun x y H Q => ∃ i j, x = .int i ∧ y = .int j ∧ Q (.int (i - j)) H
theorem op_addI : OpR X (binaryOp .Add) rAddI := op_add
theorem op_subI : OpR X (binaryOp .Sub) rSubI := op_sub
noncomputable def CMulB (i j : Int) : Prop := ∃ m n : Nat, Builtin.Int.intBits i ≤ m ∧ Builtin.Int.intBits j ≤ n ∧ m + n ≤ 134217728
noncomputable def rMulB : R2 := fun x y H Q => ∃ i j, x = .int i ∧ y = .int j ∧ CMulB i j ∧ Q (.int (i * j)) H
theorem op_mulB : OpR X (binaryOp .Mult) rMulB := opI (C := CMulB) (g := fun i j => i * j) fun _ _ _ _ _ _ _ hc q => by
  obtain ⟨m, n, h1, h2, h3⟩ := hc
  exact mul_int q (IntMulOk.of_le h1 h2 h3)
noncomputable def CDivB (j : Int) : Prop := 0 < j ∧ Builtin.Int.intBits j ≤ 9000
noncomputable def rDivB : R2 := fun x y H Q => ∃ i j, x = .int i ∧ y = .int j ∧ CDivB j ∧ Q (.int (i / j)) H
theorem op_fdivB : OpR X (binaryOp .FloorDiv) rDivB := opI (C := fun _ j => CDivB j) (g := fun i j => i / j) fun i j _ _ _ _ _ hc q => by
  have h1 : (0 : Int) < j := hc.1
  have h3 : j.natAbs.log2 < 9000 := (Nat.log2_lt (by omega)).mpr (intBits_le_iff.mp hc.2)
  exact floordiv_int (by omega) (by rw [Int.fdiv_eq_ediv_of_nonneg i (by omega)]; exact q) (.inl (PyProof.noPylong_of_log2 h3))
noncomputable def rModB : R2 := fun x y H Q => ∃ i j, x = .int i ∧ y = .int j ∧ 0 < j ∧ Q (.int (i % j)) H
theorem op_modB : OpR X (binaryOp .Mod) rModB := op_mod
noncomputable def rPowB : R2 := fun x y H Q => ∃ i j, x = .int i ∧ y = .int j ∧ CPow i j ∧ Q (.int (i ^ j.toNat)) H
theorem op_powB : OpR X (binaryOp .Pow) rPowB := op_pow
noncomputable def rShlB : R2 := fun x y H Q => ∃ i j, x = .int i ∧ y = .int j ∧ CPow i j ∧ Q (.int (i * 2 ^ j.toNat)) H
theorem op_shlB : OpR X (binaryOp .LShift) rShlB := op_shl
noncomputable def rLtI : R2 := fun x y H Q => ∃ i j, x = .int i ∧ y = .int j ∧ Q (.bl (decide (i < j))) H
noncomputable def rGtI : R2 := fun x y H Q => ∃ i j, x = .int i ∧ y = .int j ∧ Q (.bl (decide (j < i))) H
noncomputable def rGeI : R2 := fun x y H Q => ∃ i j, x = .int i ∧ y = .int j ∧ Q (.bl (decide (j ≤ i))) H
noncomputable def rEqI : R2 := fun x y H Q => ∃ i j : Int, x = .int i ∧ y = .int j ∧ Q (.bl (decide (i = j))) H
noncomputable def rNeI : R2 := fun x y H Q => ∃ i j : Int, x = .int i ∧ y = .int j ∧ Q (.bl (!decide (i = j))) H
theorem op_ltI : OpR X (compareOp .Lt) rLtI := op_lt
theorem op_gtI : OpR X (compareOp .Gt) rGtI := op_gt
theorem op_geI : OpR X (compareOp .GtE) rGeI := op_ge
theorem op_eqI : OpR X (compareOp .Eq) rEqI := by
  intro pins s σ H x y v u Q I rx ry h
  obtain ⟨i, j, rfl, rfl, q⟩ := h
  refine op_eq pins s σ H _ _ v u Q I rx ry ⟨rfl, ?_⟩
  have e : decide (V.int i = V.int j) = decide (i = j) := decide_eq_decide.mpr ⟨fun z => V.int.inj z, fun z => by rw [z]⟩
  rw [e]; exact q
theorem op_neI : OpR X (compareOp .NotEq) rNeI := by
  intro pins s σ H x y v u Q I rx ry h
  obtain ⟨i, j, rfl, rfl, q⟩ := h
  refine op_ne pins s σ H _ _ v u Q I rx ry ⟨rfl, ?_⟩
  have e : decide (V.int i = V.int j) = decide (i = j) := decide_eq_decide.mpr ⟨fun z => V.int.inj z, fun z => by rw [z]⟩
  rw [e]; exact q
noncomputable def PylOk (X : Cx) : Prop := ∀ (pins : List (Addr × Obj)) (σ : St) (H : Hp) (s : Shared), Inv X pins σ H s → PylongRoom (model X.prog X.w) X.A s
noncomputable def rDivP : R2 := fun x y H Q => ∃ i j, x = .int i ∧ y = .int j ∧ 0 < j ∧ Q (.int (i / j)) H
theorem op_fdivP (hp : PylOk X) : OpR X (binaryOp .FloorDiv) rDivP := by
  intro pins s σ H x y v u Q I rx ry h
  obtain ⟨i, j, rfl, rfl, hj, q⟩ := h
  obtain ⟨t, rfl⟩ := rx
  obtain ⟨t', rfl⟩ := ry
  refine floordiv_int (by omega) ?_ (.inr (hp pins σ H s I))
  rw [Int.fdiv_eq_ediv_of_nonneg i (by omega)]
  exact ⟨.int (i / j), H, I.tok _, ⟨_, rfl⟩, q⟩
theorem pyl_ok {CX : CXT} {P : Program} {w : World} {K : PySem.W.Frag} {mg : Str → Option Value} {base : Heap} {N ps : List Str} {qual : Str} {scope : Scope} {f : Addr} {cdv : Value} {A : Around} {outer : List Env} {s : Shared} {H : Hp} {E : XK}
    (hP : P.given.tree = none) (S : FnScope N ps scope) (hr : Room 35 (A.deeper (envOfC qual scope s.heap.objs.size f cdv))) : PylOk ((cxOf CX P w K mg base N qual scope f cdv A outer s H E).nox) := by
  intro pins σ H' s' I
  have I' := I.unwish
  refine PylongRoom.of I'.nolimit ?_ (SeerAt.of (I'.mod.seer.keeps I'.bk) hP I'.ok.frames S.gen S.co rfl rfl)
  have := hr.dp
  show (A.deeper (envOfC qual scope s.heap.objs.size f cdv)).depth + 100 < _
  omega
theorem mt_bit_length : MtR X "int.bit_length" (fun x vs H Q => ∃ i, x = .int i ∧ vs = [] ∧ Q (.int (Builtin.Int.intBits i : Nat)) H) := by
  intro pins s σ H x xs v us Q I rx rv h
  obtain ⟨i, rfl, rfl, q⟩ := h
  obtain ⟨t, rfl⟩ := rx
  cases rv
  exact call_int_bit_length ⟨.int _, H, I.tok _, ⟨_, rfl⟩, q⟩
theorem call_isinst : CallR X (.builtin "isinstance") (fun xs H Q => ∃ x n t b, xs = [x, .ty n] ∧ TyOf X.K H x t ∧ PySem.W.kitOne X.K t (.type n) = some b ∧ Q (.bl b) H) := by
  intro pins s σ H xs us Q I r h
  obtain ⟨x, n, t, b, rfl, ty, e, q⟩ := h
  obtain ⟨u, c, rfl, rx, rc⟩ := vals2 r
  cases (show c = Value.type n from rc)
  exact isinst_ok I rx ty e fun tk => ⟨.bl b, H, I.tok tk, rfl, q⟩
end
theorem kit_int_int (K : PySem.W.Frag) : PySem.W.kitOne K (.type "int") (.type "int") = some true := by with_unfolding_all rfl
theorem kit_int_bool (K : PySem.W.Frag) : PySem.W.kitOne K (.type "int") (.type "bool") = some false := by with_unfolding_all rfl
noncomputable def Def (K : PySem.W.Frag) (mg : Str → Option Value) (x : Str) (st : Stmt) (ps : List Str) : Prop :=
  ∃ f fd, Fun K x x st f fd ∧ Binds K fd ps [] ∧ mg x = some (.ref f)
noncomputable def Fn (P : Program) (w : World) (K : PySem.W.Frag) (mg : Str → Option Value) (base : Heap) (k : Nat) (x : Str) (ps : List Str) (sp : Sp) : Prop :=
  ∃ f fd, FnOk P w K mg base CX0 k f fd ps sp ∧ PySem.W.keepIn K (.ref f) = true ∧ Binds K fd ps [] ∧ mg x = some (.ref f)
section
variable {P : Program} {w : World} {K : PySem.W.Frag} {mg : Str → Option Value} {base : Heap}
theorem Def.fn {x : Str} {st : Stmt} {N ps : List Str} {k : Nat} {sp : Sp} (D : Def K mg x st ps) (S : FnScope N ps (defScope st)) (len : ∀ vs H Q E, sp vs H Q E → vs.length = ps.length)
    (hbody : ∀ (f : Addr) (cdv : Value) (A : Around) (outer : List Env) (s : Shared) (H : Hp) (vs : List V) (Q : VK) (E : XK), Room k (A.deeper (envOfC x (defScope st) s.heap.objs.size f cdv)) → sp vs H Q E →
      ∃ t, PSs (cxOf CX0 P w K mg base N x (defScope st) f cdv A outer s H E).nox (defBody st) t ∧ t { nx := fun _ H' => Q .non H', rt := Q } (start N vs) H) : Fn P w K mg base (k + 1) x ps sp := by
  obtain ⟨f, fd, F, b, m⟩ := D
  exact ⟨f, fd, F.ok S len (fun cdv A outer s H vs Q E hr h => hbody f cdv A outer s H vs Q E hr h), F.kp, b, m⟩
end
section
variable {X : Cx} {k : Nat} {x : Str} {ps : List Str} {sp : Sp} {p pos : Pos} {e : Expr} {es : List Expr} {t : TA}
noncomputable def tFn (sp : Sp) (t : TA) : TE := fun σ H Q => t σ H fun vs H1 => sp vs H1 Q E0
theorem pe_fn (F : Fn X.prog X.w X.K X.mg X.base k x ps sp) (hr : Room k X.A) (hg : Gl X x) (ha : PA X (e :: es) t) (hdb : (x == ("__debug__" : Str)) = false := by decide)
    (he : starEach (e :: es) X.env = (false, eval e X.env) :: starEach es X.env := by rfl) (hpl : (backTo pos (starEach es X.env)).any (·.1) = false := by rfl) :
    PE X (.Call (.Name x p) (e :: es) [] pos) (tFn sp t) := by
  obtain ⟨f, fd, F, kp, b, m⟩ := F
  have h := pe_call (p := p) (pos := pos) (dvs := []) (ds := []) F hr hg m kp b .nil pass0 ha hdb he hpl
  intro pins s σ H Q I q
  refine h pins s σ H Q I ?_
  show t σ H fun vs H1 => sp (vs ++ []) H1 Q E0
  have q' : t σ H fun vs H1 => sp vs H1 Q E0 := q
  simpa only [List.append_nil] using q'
end
theorem ifD {c A B : Prop} [Decidable c] (h1 : c → A) (h2 : ¬ c → B) : if decide c = true then A else B := by
  by_cases h : c
  · rw [if_pos (decide_eq_true h)]; exact h1 h
  · rw [if_neg (fun z => h (of_decide_eq_true z))]; exact h2 h
theorem ifND {c A B : Prop} [Decidable c] (h1 : ¬ c → A) (h2 : c → B) : if (!decide c) = true then A else B := by
  by_cases h : c
  · rw [if_neg (by rw [decide_eq_true h]; decide)]; exact h2 h
  · rw [if_pos (by rw [decide_eq_false h]; decide)]; exact h1 h
theorem ifF {c A B : Prop} [Decidable c] (h : ¬ c) (b : B) : if decide c = true then A else B := ifD (fun z => absurd z h) (fun _ => b)
theorem b_isinstance : bootBuiltins "isinstance" = some (.builtin "isinstance") := by decide +kernel
theorem b_int : bootBuiltins "int" = some (.type "int") := by decide +kernel
theorem b_bool : bootBuiltins "bool" = some (.type "bool") := by decide +kernel
theorem b_list : bootBuiltins "list" = some (.type "list") := by decide +kernel
theorem b_len : bootBuiltins "len" = some (.builtin "len") := by decide +kernel
theorem b_min : bootBuiltins "min" = some (.builtin "min") := by decide +kernel
theorem b_zip : bootBuiltins "zip" = some (.type "zip") := by decide +kernel
theorem b_sorted : bootBuiltins "sorted" = some (.builtin "sorted") := by decide +kernel
theorem b_all : bootBuiltins "all" = some (.builtin "all") := by decide +kernel
theorem b_enumerate : bootBuiltins "enumerate" = some (.type "enumerate") := by decide +kernel
theorem Same.put {H H' : Hp} {p : Addr} {o : HO} (s : Same H H') (h : H' p = Option.none) : Same H (upd H' p o) := fun b u e => by
  have e' := s b u e
  rw [upd_ne (ne_of_none e' h)]
  exact e'
theorem Same.new {H : Hp} {p : Addr} {o : HO} (h : H p = Option.none) : Same H (upd H p o) := (Same.refl H).put h
end L2
namespace L2
open PySem PySem.Spec PyProof.Rows
noncomputable def Itr3 (lo c : Int) (n : Nat) : It := ⟨fun i _ => i < n, fun i H x H' => H' = H ∧ x = .int (lo + i * c), fun i _ => n ≤ i⟩
theorem turn_range3 {P : Program} {w : World} {K : PySem.W.Frag} {tg : Expr} (it : Addr) (lo c : Int) (n : Nat) : Turn P w K tg (Itr3 lo c n) [it] it (fun i h => IsRangeIter h it (lo + (i : Nat) * c) ((n : Int) - (i : Nat)) c) where
  mem := by simp
  obj := fun i h st b hb => by
    have e : b = it := by simpa using hb
    subst e
    exact ⟨_, st, fun v z => by
      have z' : Data.fields _ = Data.cell v := z
      cases z'⟩
  keep := fun i h h' st k => k it (by simp) _ st
  item := by
    intro X hP hw hK hc i pins s σ H E I hf st hg
    subst hP hw hK
    obtain ⟨f0, f1, f2, f3, f4, f5⟩ := hf it (by simp)
    have W := Walks.range (prog := X.prog) (w := X.w) (I.ok.hd hc) it lo c n
    refine W.item i s _ _ hg st fun v h' tk hv st' kk => ?_
    obtain ⟨t, rfl⟩ := hv
    have I1 : Inv X pins σ H { s with heap := h', toks := tk } := I.turned (fun b o hb e => kk b o (by simpa using hb) e) f0 f1 f3 f4 f5
    exact ⟨_, rfl, go_of (s := { s with heap := h', toks := tk }) (n := "range_iterator") st' rfl rfl (by decide) ⟨.int (lo + i * c), H, I1, ⟨t, rfl⟩, ⟨rfl, rfl⟩, st', fun b hb => (hf b hb).1⟩⟩
  done := by
    intro X hP hw hK hc i pins s σ H E I hf st hg
    subst hP hw hK
    obtain ⟨f0, f1, f2, f3, f4, f5⟩ := hf it (by simp)
    exact wpAny_pyNext_range_end (I.ok.hd hc) st (by have : n ≤ i := hg; omega) fun h' eb => ⟨rfl, I.turned (t' := s.toks) (fun b o hb e => eb b o hb e) f0 f1 f3 f4 f5⟩
  self := fun _ _ _ _ _ st h => wpAny_pyIter_rangeiter st h
section
variable {X : Cx} {tg : Expr}
noncomputable def iRng3 (ta : TA) : TI := fun σ H R => ta σ H fun vs H1 => ∃ (i j c : Int) (n : Nat), vs = [.int i, .int j, .int c] ∧ (c ≠ 0 ∧ c.natAbs < 1073741824 ∧ Builtin.Range.small i j c = true ∧ Builtin.Range.rangeSize i j c = (n : Int)) ∧ R (Itr3 i c n) H1
theorem pi_range3 {a b c : Expr} {ta : TA} {p pos : Pos} (hg : Gl X "range") (hm : X.mg "range" = none) (ha : PA X [a, b, c] ta) (hs : starEach [a, b, c] X.env = (false, eval a X.env) :: starEach [b, c] X.env := by rfl) (hs2 : (backTo pos (starEach [b, c] X.env)).any (·.1) = false := by rfl) :
    PI X tg (.Call (.Name "range" p) [a, b, c] [] pos) (iRng3 ta) := by
  intro pins s σ H R I h
  refine Call_ (ld_blt I hg hm boot_range (PyProof.Rows.callWith_type1 (thn (ha pos pins s σ H _ I h) fun us s1 ⟨vs, H1, I1, r1, q1⟩ => ?_) hs hs2))
  obtain ⟨i, j, k, n, e, ⟨q1, q2, q3, q4⟩, q⟩ := q1
  subst e
  cases r1 with
  | cons r rr =>
    cases rr with
    | cons r' rr =>
      cases rr with
      | cons r'' rr =>
        cases rr
        obtain ⟨t, rfl⟩ := r
        obtain ⟨t', rfl⟩ := r'
        obtain ⟨t'', rfl⟩ := r''
        refine call_range_3 q1 ?_ (.inl (PyProof.noPylong_small q2))
        refine wpAny_pyIter_range (IsRange.new ..) q3 ?_
        have I2 : Inv X pins σ H1 { s1 with heap := s1.heap.push { cls := .type "range", data := .fields #[.int i t, .int j t', .int k t''] }, toks := s1.toks } := I1.kept fun b o e => Heap.get?_push_of_some _ e
        refine ⟨(s1.heap.push { cls := .type "range", data := .fields #[.int i t, .int j t', .int k t''] }).objs.size, [(s1.heap.push { cls := .type "range", data := .fields #[.int i t, .int j t', .int k t''] }).objs.size], _, _, H1, rfl,
          I2.kept (t' := s1.toks) fun b o e => Heap.get?_push_of_some _ e, turn_range3 _ i k n, ?_, fun b hb => ?_, q⟩
        · have e1 : i + ((0 : Nat) : Int) * k = i := by simp
          have e2 : ((n : Nat) : Int) - ((0 : Nat) : Int) = Builtin.Range.rangeSize i j k := by rw [q4]; simp
          show IsRangeIter _ _ (i + ((0 : Nat) : Int) * k) (((n : Nat) : Int) - ((0 : Nat) : Int)) k
          rw [e1, e2]
          exact Heap.get?_push_size _ rfl
        · have e : b = (s1.heap.push { cls := .type "range", data := .fields #[.int i t, .int j t', .int k t''] }).objs.size := by simpa using hb
          subst e
          exact I2.fpOk (Nat.le_refl _) (I2.hok.fresh (Nat.le_refl _))
end
theorem for_range3 {lo c : Int} {n : Nat} {g : TG} {tb : TS} {D : Ends} {σ : St} {H : Hp} (Pv : Nat → St → Hp → Prop) (h0 : Pv 0 σ H)
    (hs : ∀ i σ H, i < n → Pv i σ H → g (.int (lo + i * c)) σ H fun σ2 H2 => tb { D with nx := Pv (i + 1), ct := Pv (i + 1), bk := D.nx } σ2 H2) (hd : ∀ σ H, Pv n σ H → D.nx σ H) :
    ∃ W : Nat → Nat → St → Hp → Prop, (∃ m, W 0 m σ H) ∧ ∀ i m σ H, W i m σ H →
      ((Itr3 lo c n).stop i H ∧ D.nx σ H) ∨ ((Itr3 lo c n).go i H ∧ ∃ N : St → Hp → Prop, (∀ σ' H', N σ' H' → ∃ m', m' < m ∧ W (i + 1) m' σ' H') ∧ ∀ x H', (Itr3 lo c n).yld i H x H' → g x σ H' fun σ2 H2 => tb { D with nx := N, ct := N, bk := D.nx } σ2 H2) := by
  refine ⟨fun i m σ H => m = n - i ∧ i ≤ n ∧ Pv i σ H, ⟨n, by simp, Nat.zero_le _, h0⟩, ?_⟩
  rintro i m σ H ⟨rfl, hi, p⟩
  by_cases hlt : i < n
  · refine .inr ⟨hlt, Pv (i + 1), fun σ' H' p' => ⟨n - (i + 1), by omega, rfl, hlt, p'⟩, fun x H' y => ?_⟩
    obtain ⟨e, y⟩ := y
    subst e y
    exact hs i σ _ hlt p
  · have e : i = n := by omega
    subst e
    exact .inl ⟨Nat.le_refl _, hd σ H p⟩
end L2
namespace L2
open PySem PySem.Spec PyProof.Rows
def clOf (env : Env) : List (Str × NameKind) → List (Str × Addr) → List (Str × Addr)
  | [], acc => acc
  | (n, k) :: r, acc => if k == .free then clOf env r ((n, (env.cells.lookup n).getD 0) :: acc) else clOf env r acc
theorem closure_eq {scope : Scope} {env : Env} (h : ∀ p ∈ scope.names, p.2 = .free → ∃ c, env.cells.lookup p.1 = some c) : closureFor scope env = pure (clOf env scope.names []) := by
  unfold closureFor
  have key : ∀ (names : List (Str × NameKind)) (acc : List (Str × Addr)), (∀ p ∈ names, p.2 = .free → ∃ c, env.cells.lookup p.1 = some c) →
      (forIn names acc (fun (x : Str × NameKind) (cs : List (Str × Addr)) => match x with
        | (name, kind) => if (kind == NameKind.free) = true then (cellOf env name >>= fun c => pure (ForInStep.yield ((name, c) :: cs))) else pure (ForInStep.yield cs)) : Sem (List (Str × Addr))) = pure (clOf env names acc) := by
    intro names
    induction names with
    | nil => intro acc _; rfl
    | cons p r ih =>
      intro acc hp
      obtain ⟨n, k⟩ := p
      have hr : ∀ p ∈ r, p.2 = .free → ∃ c, env.cells.lookup p.1 = some c := fun p hm => hp p (List.mem_cons_of_mem _ hm)
      rw [List.forIn_cons]
      by_cases hk : k = .free
      · subst hk
        obtain ⟨c, hc⟩ := hp (n, .free) List.mem_cons_self rfl
        have hc : env.cells.lookup n = some c := hc
        have e1 : cellOf env n = pure c := by unfold cellOf; rw [hc]
        have e2 : clOf env ((n, .free) :: r) acc = clOf env r ((n, c) :: acc) := by
          show clOf env r ((n, (env.cells.lookup n).getD 0) :: acc) = _
          rw [hc]; rfl
        simp only [beq_self_eq_true, if_true, e1, pure_bind]
        rw [e2]
        exact ih _ hr
      · have hb : (k == NameKind.free) = false := by simpa using hk
        have e2 : clOf env ((n, k) :: r) acc = clOf env r acc := by
          show (if (k == NameKind.free) = true then clOf env r ((n, (env.cells.lookup n).getD 0) :: acc) else clOf env r acc) = _
          rw [hb]; rfl
        simp only [hb, Bool.false_eq_true, if_false, pure_bind]
        rw [e2]
        exact ih _ hr
  have k0 := key scope.names [] h
  show (forIn scope.names ([] : List (Str × Addr)) _ >>= fun r => pure r) = _
  refine Eq.trans (congrArg (fun m => m >>= fun r => pure r) k0) ?_
  rfl
theorem clOf_look {env : Env} : ∀ {names : List (Str × NameKind)} {acc : List (Str × Addr)}, (∀ p ∈ names, p.2 = .free → ∃ c, env.cells.lookup p.1 = some c) → (∀ x c, acc.lookup x = some c → env.cells.lookup x = some c) →
    ∀ x c, (clOf env names acc).lookup x = some c → env.cells.lookup x = some c
  | [], _, _, ha, x, c, h => ha x c h
  | (n, k) :: r, acc, hp, ha, x, c, h => by
    have hr : ∀ p ∈ r, p.2 = .free → ∃ c, env.cells.lookup p.1 = some c := fun p hm => hp p (List.mem_cons_of_mem _ hm)
    by_cases hk : k = .free
    · subst hk
      obtain ⟨d, hd⟩ := hp (n, .free) List.mem_cons_self rfl
      have hd : env.cells.lookup n = some d := hd
      have e2 : clOf env ((n, .free) :: r) acc = clOf env r ((n, d) :: acc) := by
        show clOf env r ((n, (env.cells.lookup n).getD 0) :: acc) = _
        rw [hd]; rfl
      rw [e2] at h
      refine clOf_look hr (fun y e hy => ?_) x c h
      rw [List.lookup_cons] at hy
      cases hyn : y == n with
      | true => rw [hyn] at hy; cases hy; rw [beq_iff_eq.mp hyn]; exact hd
      | false => rw [hyn] at hy; exact ha y e hy
    · have hb : (k == NameKind.free) = false := by simpa using hk
      have e2 : clOf env ((n, k) :: r) acc = clOf env r acc := by
        show (if (k == NameKind.free) = true then clOf env r ((n, (env.cells.lookup n).getD 0) :: acc) else clOf env r acc) = _
        rw [hb]; rfl
      rw [e2] at h
      exact clOf_look hr ha x c h
theorem clOf_has {env : Env} : ∀ {names : List (Str × NameKind)} {acc : List (Str × Addr)} {x : Str}, ((x, NameKind.free) ∈ names ∨ ∃ c, acc.lookup x = some c) → ∃ c, (clOf env names acc).lookup x = some c
  | [], _, _, h => h.elim (fun z => nomatch z) id
  | (n, k) :: r, acc, x, h => by
    by_cases hk : k = .free
    · subst hk
      show ∃ c, (clOf env r ((n, (env.cells.lookup n).getD 0) :: acc)).lookup x = some c
      refine clOf_has ?_
      by_cases hx : x = n
      · subst hx; exact .inr ⟨_, by rw [List.lookup_cons, beq_self_eq_true]⟩
      · rcases h with h | ⟨c, h⟩
        · rcases List.mem_cons.mp h with e | e
          · cases e; exact absurd rfl hx
          · exact .inl e
        · exact .inr ⟨c, by rw [List.lookup_cons, beq_eq_false_iff_ne.mpr hx]; exact h⟩
    · have hb : (k == NameKind.free) = false := by simpa using hk
      have e2 : clOf env ((n, k) :: r) acc = clOf env r acc := by
        show (if (k == NameKind.free) = true then clOf env r ((n, (env.cells.lookup n).getD 0) :: acc) else clOf env r acc) = _
        rw [hb]; rfl
      rw [e2]
      refine clOf_has ?_
      rcases h with h | h
      · rcases List.mem_cons.mp h with e | e
        · cases e; exact absurd rfl hk
        · exact .inl e
      · exact .inr h
section
variable {prog : Program} {w : World} {A : Around}
theorem codeAny_compLoop_gen {elt target iter : Expr} {ifs : List Expr} {scope : Scope} {pos : Pos} {it acc : Value} {env : Env} {s : Shared} {R : Result → Shared → Prop} (I : Nat → Shared → Prop)
    (turn : ∀ n s, I n s → wpAny (model prog w) A (pyNext it) (fun r s₁ => match r with
      | none => R (.ok .next) s₁
      | some v => wpAny (model prog w) A (letOwnedTupleGo target it v) (fun _ s₁' => wpAny (model prog w) A (assign target env v) (fun _ s₂ =>
          wpAny (model prog w) A (forIn ifs true fun c r => if r = true then do let ok ← isTrue c env (eval c env); pure (ForInStep.yield ok) else pure (ForInStep.yield r)) (fun ok s₃ =>
            if ok = true then wpAny (model prog w) A (eval elt env) (fun x s₄ => wpAny (model prog w) A (call (.builtin "list.append") [acc, x]) (fun _ s₅ => ∃ m, m < n ∧ I m s₅) (fun _ _ => False) s₄) (fun _ _ => False) s₃
            else ∃ m, m < n ∧ I m s₃) (fun _ _ => False) s₂) (fun _ _ => False) s₁') (fun _ _ => False) s₁) (fun _ _ => False) s)
    (n : Nat) (h : I n s) : codeAny (model prog w) A (.compLoop (.ListComp elt [⟨target, iter, ifs, 0⟩] scope pos) 0 it acc env) R s := by
  refine codeAny_loop rfl I (fun n s hI => ?_) n h
  show wpAny _ A ((compTurn (.ListComp elt [⟨target, iter, ifs, 0⟩] scope pos) 0 it acc env).onRaise (fun x => do noteFrame x env; theTreesLotGoes x)) _ _ s
  refine wpAny_noted ?_
  rw [compTurn_list]
  refine wpAny_bind (wpAny_standAt (wpAny_bind (wpAny_mono (turn n s hI) (fun r s₁ h₁ => ?_) fun _ _ h' => h'.elim)))
  cases r with
  | none => exact wpAny_pure h₁
  | some v =>
    refine wpAny_bind (wpAny_mono h₁ (fun _ s₁' h₁' => ?_) fun _ _ h' => h'.elim)
    refine wpAny_bind (wpAny_mono h₁' (fun _ s₂ h₂ => wpAny_bind (wpAny_mono h₂ (fun ok s₃ h₃ => ?_) fun _ _ h' => h'.elim)) fun _ _ h' => h'.elim)
    cases ok with
    | false => exact wpAny_pure ⟨rfl, h₃⟩
    | true => exact wpAny_bind (wpAny_bind (wpAny_mono h₃ (fun x s₄ h₄ => wpAny_bind (wpAny_mono h₄ (fun _ s₅ h₅ => wpAny_pure (wpAny_pure ⟨rfl, h₅⟩)) fun _ _ h' => h'.elim)) fun _ _ h' => h'.elim))
end
abbrev blockCx (X : Cx) (pins : List (Addr × Obj)) (N : List Str) (scope : Scope) (C : Addr) (sF : Shared) (HF : Hp) (fp : List Addr) : Cx where
  prog := X.prog
  w := X.w
  K := X.K
  mg := X.mg
  base := X.base
  A := X.A
  N := N
  s₀ := sF
  H₀ := HF
  env := compEnvC scope (clOf X.env scope.names []) C X.env
  outer := X.stack
  stack := X.stack
  ex := fp
  fn := fun _ => false
  calm := X.calm
  pn := X.pn ++ pins
  xe := fun _ _ => False
noncomputable def blockSt (own : Nat) (ix : List Nat) (σ : St) : St := List.replicate own none ++ ix.map fun i => (σ[i]?).getD none
noncomputable def CompGo (J : It) (own : Nat) (ix : List Nat) (g : TG) (tt : TT) (te : TE) (σ : St) (H1 : Hp) (acc : Addr) (Q : VK) : Prop :=
  ∃ W : Nat → Nat → List V → Hp → Prop, (∃ m, W 0 m [] (upd H1 acc (.lst []))) ∧ ∀ i m ys H2, W i m ys H2 →
    H2 acc = some (.lst ys) ∧ ((J.stop i H2 ∧ Q (.ref acc) H2) ∨ (J.go i H2 ∧ ys.length < sizeLine ∧ ∀ x H3, J.yld i H2 x H3 → g x (blockSt own ix σ) H3 fun σ4 H4 => σ4.drop own = ix.map (fun i => (σ[i]?).getD none) ∧ tt σ4 H4 fun ok H5 =>
      if ok = true then te σ4 H5 fun y H6 => H6 acc = some (.lst ys) ∧ ∃ m', m' < m ∧ W (i + 1) m' (ys ++ [y]) (upd H6 acc (.lst (ys ++ [y])))
      else ∃ m', m' < m ∧ W (i + 1) m' ys H5))
noncomputable def tComp (wi : TI) (own : Nat) (ix : List Nat) (g : TG) (tt : TT) (te : TE) : TE := fun σ H Q => wi σ H fun J H1 => ∀ acc, H1 acc = none → CompGo J own ix g tt te σ H1 acc Q
noncomputable def tNoTest : TT := fun _ H Q => Q true H
noncomputable def PTs (X : Cx) (ifs : List Expr) (t : TT) : Prop :=
  ∀ (pins : List (Addr × Obj)) (s : Shared) (σ : St) (H : Hp) (Q : Bool → Hp → Prop), Inv X pins σ H s → t σ H Q →
    wpAny (model X.prog X.w) X.A (forIn ifs true fun c r => if r = true then do let ok ← isTrue c X.env (eval c X.env); pure (ForInStep.yield ok) else pure (ForInStep.yield r)) (TP X pins σ Q) X.xe s
theorem pts_nil {X : Cx} : PTs X [] tNoTest := fun _ _ _ H _ I h => wpAny_tests_nil ⟨H, I, h⟩
structure BlockOk (X : Cx) (scope : Scope) (own : List Str) (fr : List Str) (ix : List Nat) : Prop where
  kind : scope.kind = .function
  nocell : ∀ y ∈ scope.names, y.2 ≠ .cell
  names : ∀ y ∈ scope.names, y.2 = .local → scope.names.lookup y.1 = some .local
  free : ∀ p ∈ scope.names, p.2 = .free → ∃ c, X.env.cells.lookup p.1 = some c
  frd : ∀ x ∈ fr, (x, NameKind.free) ∈ scope.names ∧ X.env.kindOf x = some .cell ∧ scope.names.lookup x = some .free
  len : fr.length = ix.length
  at_ : ∀ (j : Nat) x i, fr[j]? = some x → ix[j]? = some i → X.N[i]? = some x
structure BlockB (X : Cx) (scope : Scope) (own : List Str) (fr : List Str) (ix : List Nat) : Prop where
  kind : scope.kind = .function
  nocell : (scope.names.all fun y => y.2 != .cell) = true
  names : (scope.names.all fun y => y.2 != .local || scope.names.lookup y.1 == some .local) = true
  free : (scope.names.all fun p => p.2 != .free || X.env.kindOf p.1 == some .cell) = true
  frd : (fr.all fun x => X.env.kindOf x == some .cell && scope.names.lookup x == some .free) = true
  at_ : (ix.map fun i => X.N[i]?) = fr.map some
theorem mem_of_lookup {x : Str} {k : NameKind} : ∀ {names : List (Str × NameKind)}, names.lookup x = some k → (x, k) ∈ names
  | [], h => by simp at h
  | (n, k') :: r, h => by
    rw [List.lookup_cons] at h
    cases hx : x == n with
    | true =>
      rw [hx] at h
      cases h
      rw [beq_iff_eq.mp hx]
      exact List.mem_cons_self
    | false =>
      rw [hx] at h
      exact List.mem_cons_of_mem _ (mem_of_lookup h)
theorem BlockB.ok {X : Cx} {scope : Scope} {own fr : List Str} {ix : List Nat} (B : BlockB X scope own fr ix) (ok : X.Ok) : BlockOk X scope own fr ix where
  kind := B.kind
  nocell := fun y hy => by simpa using List.all_eq_true.mp B.nocell y hy
  names := fun y hy hl => by
    have := List.all_eq_true.mp B.names y hy
    rw [hl] at this
    simpa using this
  free := fun p hp hf => by
    have := List.all_eq_true.mp B.free p hp
    rw [hf] at this
    exact ok.has p.1 (.inl (by simpa using this))
  frd := fun x hx => by
    have := List.all_eq_true.mp B.frd x hx
    rw [Bool.and_eq_true] at this
    have h2 : scope.names.lookup x = some .free := by simpa using this.2
    exact ⟨mem_of_lookup h2, by simpa using this.1, h2⟩
  len := by
    have := congrArg List.length B.at_
    simpa using this.symm
  at_ := fun j x i hx hi => by
    have e := congrArg (fun l => l[j]?) B.at_
    simp only [List.getElem?_map, hx, hi, Option.map_some] at e
    exact Option.some.inj e
theorem relabel_free {env : Env} (hf : env.scope.kind = .function) : ∀ {names : List (Str × NameKind)} {x : Str}, names.lookup x = some .free → env.kindOf x = some .cell →
    (names.map fun (n, k) => if (k == NameKind.free && env.scope.kind == .function && env.kindOf n == some .cell) then (n, NameKind.cell) else (n, k)).lookup x = some .cell
  | [], _, h, _ => by simp at h
  | (n, k) :: r, x, h, hx => by
    have ih := @relabel_free env hf r x
    show List.lookup x ((if (k == NameKind.free && env.scope.kind == .function && env.kindOf n == some .cell) = true then (n, NameKind.cell) else (n, k)) :: _) = _
    cases hxn : x == n with
    | true =>
      have e := beq_iff_eq.mp hxn
      subst e
      simp only [List.lookup_cons, hxn] at h
      cases h
      rw [if_pos (by rw [hf, hx]; rfl)]
      simp only [List.lookup_cons, hxn]
    | false =>
      simp only [List.lookup_cons, hxn] at h
      by_cases hc : (k == NameKind.free && env.scope.kind == .function && env.kindOf n == some .cell) = true
      · rw [if_pos hc]; simp only [List.lookup_cons, hxn]; exact ih h hx
      · rw [if_neg hc]; simp only [List.lookup_cons, hxn]; exact ih h hx
theorem relabel_has {env : Env} : ∀ {names : List (Str × NameKind)} {x : Str}, (∀ y ∈ names, y.2 ≠ .cell) →
    ((names.map fun (n, k) => if (k == NameKind.free && env.scope.kind == .function && env.kindOf n == some .cell) then (n, NameKind.cell) else (n, k)).lookup x = some .cell ∨
     (names.map fun (n, k) => if (k == NameKind.free && env.scope.kind == .function && env.kindOf n == some .cell) then (n, NameKind.cell) else (n, k)).lookup x = some .free) → (x, NameKind.free) ∈ names
  | [], _, _, h => by simp at h
  | (n, k) :: r, x, hn, h => by
    have ih := @relabel_has env r x (fun y hy => hn y (List.mem_cons_of_mem _ hy))
    have hk : k ≠ .cell := hn (n, k) List.mem_cons_self
    have h' : List.lookup x ((if (k == NameKind.free && env.scope.kind == .function && env.kindOf n == some .cell) = true then (n, NameKind.cell) else (n, k)) :: r.map fun (n, k) => if (k == NameKind.free && env.scope.kind == .function && env.kindOf n == some .cell) then (n, NameKind.cell) else (n, k)) = some .cell ∨
      List.lookup x ((if (k == NameKind.free && env.scope.kind == .function && env.kindOf n == some .cell) = true then (n, NameKind.cell) else (n, k)) :: r.map fun (n, k) => if (k == NameKind.free && env.scope.kind == .function && env.kindOf n == some .cell) then (n, NameKind.cell) else (n, k)) = some .free := h
    by_cases hc : (k == NameKind.free && env.scope.kind == .function && env.kindOf n == some .cell) = true
    · have hf : k = .free := by
        rw [Bool.and_eq_true, Bool.and_eq_true] at hc
        exact beq_iff_eq.mp hc.1.1
      subst hf
      cases hxn : x == n with
      | true => rw [beq_iff_eq.mp hxn]; exact List.mem_cons_self
      | false =>
        rw [if_pos hc] at h'
        simp only [List.lookup_cons, hxn] at h'
        exact List.mem_cons_of_mem _ (ih h')
    · rw [if_neg hc] at h'
      cases hxn : x == n with
      | true =>
        simp only [List.lookup_cons, hxn] at h'
        rcases h' with e | e
        · cases e; exact absurd rfl hk
        · cases e; rw [beq_iff_eq.mp hxn]; exact List.mem_cons_self
      | false =>
        simp only [List.lookup_cons, hxn] at h'
        exact List.mem_cons_of_mem _ (ih h')
section
variable {X : Cx} {pins : List (Addr × Obj)} {σ : St} {H : Hp} {s : Shared}
theorem block_start {scope : Scope} {own fr : List Str} {ix : List Nat} {C : Addr} {h₁ : Heap} {tk : Nat} {fp : List Addr} {m : Str → Option Value} (I : Inv X pins σ H s) (B : BlockOk X scope own fr ix) (hC : C = s.heap.objs.size)
    (hf : ∀ b ∈ fp, FpOk X pins H b) (hb : ∀ b ∈ fp, ∃ o, s.heap.get? b = some o) (old : ∀ b o, s.heap.get? b = some o → h₁.get? b = some o) (hns : h₁.Ns C m) :
    Inv (blockCx X pins (own ++ fr) scope C s H fp) [] (blockSt own.length ix σ) H { s with heap := h₁, toks := tk } := by
  have look : ∀ x c, (clOf X.env scope.names []).lookup x = some c → X.env.cells.lookup x = some c := clOf_look B.free (fun _ _ z => by cases z)
  have lt : ∀ b o, s.heap.get? b = some o → b ≠ C := fun b o e => by rw [hC]; exact Nat.ne_of_lt (Heap.lt_size e)
  have ok : (blockCx X pins (own ++ fr) scope C s H fp).Ok := {
    mod := I.ok.mod
    kind := B.kind
    glob := I.ok.glob
    blt := I.ok.blt
    above := by show s.heap.objs.size ≤ C; rw [hC]; exact Nat.le_refl _
    inj := fun x y c a b => I.ok.inj x y c (look x c a) (look y c b)
    has := fun x hx => clOf_has (.inl (relabel_has B.nocell hx))
    cab := fun x c z => nomatch z
    hd := I.ok.hd
    frames := I.ok.frames
    stk := .inl rfl
    exf := fun b hbf => ⟨by obtain ⟨o, e⟩ := hb b hbf; exact lt b o e, fun x c e => (hf b hbf).2.2.2.2.1 x c (look x c e)⟩
    bs := I.bs
    bsz := Nat.le_trans I.ok.bsz I.sz
    noex := fun b o e hbf => by
      rcases (hf b hbf).2.2.2.1 with z | z
      · exact I.ok.noex b o e z
      · exact absurd (Nat.lt_of_lt_of_le (Heap.lt_size e) (Nat.le_trans I.ok.bsz z)) (Nat.lt_irrefl _)
    exfs := fun b hbf hs => by
      rcases List.mem_cons.mp (I.stkSub b hs) with z | z
      · exact (hf b hbf).2.1 z
      · exact (hf b hbf).2.2.1 z
    funs := I.stack
    frf := I.stkFree }
  refine ⟨ok, rfl, I.bare, Un.kept old, ⟨m, hns, fun i x v e1 e2 e3 => ?_⟩, fun x c e => ?_, ?_, fun x c e => I.freeC x c (look x c e), fun p hp => ?_, I.hok.kept old, ?_⟩
  · have e1 : (own ++ fr)[i]? = some x := e1
    have e2 : (List.replicate own.length none ++ ix.map fun i => (σ[i]?).getD none)[i]? = some (some v) := e2
    by_cases hi : i < own.length
    · rw [List.getElem?_append_left (by rw [List.length_replicate]; exact hi), List.getElem?_replicate, if_pos hi] at e2
      cases e2
    · rw [List.getElem?_append_right (by omega)] at e1
      rw [List.getElem?_append_right (by rw [List.length_replicate]; omega), List.length_replicate, List.getElem?_map] at e2
      obtain ⟨i', hi', e4⟩ := Option.map_eq_some_iff.mp e2
      have e5 : σ[i']? = some (some v) := by
        cases z : σ[i']? with
        | none => rw [z] at e4; cases e4
        | some y => rw [z] at e4; exact congrArg some e4
      have hm : x ∈ fr := List.mem_of_getElem? e1
      obtain ⟨f1, f2, f3⟩ := B.frd x hm
      obtain ⟨mX, _, hl⟩ := I.loc
      obtain ⟨u, r, l⟩ := hl i' x v (B.at_ _ x i' e1 hi') e5 (.inr (.inl f2))
      rcases l with ⟨l, _⟩ | ⟨_, c, ec, z⟩
      · rw [f2] at l; cases l
      · obtain ⟨c', ec'⟩ := clOf_has (env := X.env) (names := scope.names) (acc := []) (x := x) (.inl f1)
        have := look x c' ec'
        rw [ec] at this
        cases this
        obtain ⟨o, ho, hd⟩ := z
        exact ⟨u, r, .inr ⟨.inl (relabel_free I.ok.kind f3 f2), c, ec', o, old _ _ ho, hd⟩⟩
  · obtain ⟨v, o, ho, hd⟩ := I.cell x c (look x c e)
    exact ⟨v, o, old _ _ ho, hd⟩
  · show H C = none
    rw [hC]; exact I.hok.fresh (Nat.le_refl _)
  · have hp' : p ∈ X.pn ++ pins := by simpa using hp
    obtain ⟨e, n, ne, nf, d⟩ := I.pin p hp'
    refine ⟨old _ _ e, n, lt _ _ e, fun z => ?_, d⟩
    rcases List.mem_cons.mp (I.stkSub _ z) with q | q
    · exact ne q
    · exact nf q
  · show (List.replicate own.length none ++ ix.map fun i => (σ[i]?).getD none).length = (own ++ fr).length
    rw [List.length_append, List.length_append, List.length_replicate, List.length_map, B.len]
theorem block_end {N : List Str} {scope : Scope} {C : Addr} {fp : List Addr} {σ' : St} {H' : Hp} {s' : Shared} {h'' : Heap} {pl : List (Addr × Obj)} (I : Inv X pins σ H s) (hf : ∀ b ∈ fp, FpOk X pins H b) (hC : C = s.heap.objs.size)
    (J : Inv (blockCx X pins N scope C s H fp) pl σ' H' s') (hs : Heap.SameBut C s'.heap h'') : Inv X pins σ H' { s' with heap := h'' } := by
  have u := J.base
  have k : ∀ b o, b ≠ C → s'.heap.get? b = some o → h''.get? b = some o := fun b o hb e => hs.extBut b o hb e
  have hn : H' C = none := J.free
  have lt : ∀ b o, s.heap.get? b = some o → b ≠ C := fun b o e => by rw [hC]; exact Nat.ne_of_lt (Heap.lt_size e)
  refine I.call' (s' := { s' with heap := h'' }) (ch := fp) J.os ?_ ?_ J.bare fun b hb => ⟨(hf b hb).2.2.2.1, (hf b hb).2.1, (hf b hb).2.2.2.2.1, (hf b hb).2.2.2.2.2⟩
  · exact ⟨fun b o q n hb he => k b o (lt b o q) (u.keep b o q n hb he), fun b o q n hb he => by
        obtain ⟨sl, e⟩ := u.slot b o q n hb he
        exact ⟨sl, k b _ (lt b o q) e⟩, u.free, fun b o q he => by
        obtain ⟨o', e⟩ := u.there b o q he
        exact ⟨o', k b _ (lt b o q) e⟩, u.tups, u.frzs, u.tbls⟩
  · intro b o e
    have nit : ∀ b u, H' b = some u → b ≠ C := fun b u e z => by rw [z, hn] at e; cases e
    refine (J.hok b o e).stay (fun c v hc q => k c v ?_ q) (fun _ q => q) fun _ _ q => q
    rcases hc with z | z
    · rw [z]; exact nit b o e
    · exact nit c _ z
theorem comp_block {tg iter elt : Expr} {ifs : List Expr} {scope : Scope} {own fr : List Str} {ix : List Nat} {g : TG} {tt : TT} {te : TE} {pos : Pos} {Q : VK} {sF : Shared} {HF : Hp} {C acc it : Addr} {h₁ : Heap} {fp : List Addr} {tn : Nat → Heap → Prop} {J : It} {W : Nat → Nat → List V → Hp → Prop} {m : Str → Option Value} {m0 : Nat} {RR : Result → Shared → Prop}
    (hc : X.calm = true) (B : BlockOk X scope own fr ix)
    (hg : ∀ pins C sF HF fp, PG (blockCx X pins (own ++ fr) scope C sF HF fp) tg g) (ht : ∀ pins C sF HF fp, PTs (blockCx X pins (own ++ fr) scope C sF HF fp) ifs tt) (he : ∀ pins C sF HF fp, PE (blockCx X pins (own ++ fr) scope C sF HF fp) elt te)
    (I3 : Inv X pins σ HF sF) (T : Turn X.prog X.w X.K tg J fp it tn) (st3 : tn 0 sF.heap) (f3 : ∀ b ∈ fp, FpOk X pins HF b) (f3' : ∀ b ∈ fp, ∃ o, sF.heap.get? b = some o) (hC : sF.heap.objs.size = C) (old : ∀ b o, sF.heap.get? b = some o → h₁.get? b = some o) (hns₁ : h₁.Ns C m)
    (w0 : W 0 m0 [] HF) (turn : ∀ i m ys H2, W i m ys H2 → H2 acc = some (.lst ys) ∧ ((J.stop i H2 ∧ Q (.ref acc) H2) ∨ (J.go i H2 ∧ ys.length < sizeLine ∧ ∀ x H3, J.yld i H2 x H3 → g x (blockSt own.length ix σ) H3 fun σ4 H4 => σ4.drop own.length = ix.map (fun i => (σ[i]?).getD none) ∧ tt σ4 H4 fun ok H5 =>
      if ok = true then te σ4 H5 fun y H6 => H6 acc = some (.lst ys) ∧ ∃ m', m' < m ∧ W (i + 1) m' (ys ++ [y]) (upd H6 acc (.lst (ys ++ [y])))
      else ∃ m', m' < m ∧ W (i + 1) m' ys H5)))
    (fin : ∀ s6 H5, Inv (blockCx X pins (own ++ fr) scope C sF HF fp) [] (blockSt own.length ix σ) H5 s6 → Q (.ref acc) H5 → RR (.ok .next) s6) :
    codeAny (model X.prog X.w) X.A (.compStart (.ListComp elt [⟨tg, iter, ifs, 0⟩] scope pos) 0 (.ref it) (.ref acc) (compEnvC scope (clOf X.env scope.names []) C X.env)) RR
      { sF with heap := h₁, toks := sF.toks + ([] : List (Str × Value)).length } := by
  have J0 : Inv (blockCx X pins (own ++ fr) scope C sF HF fp) [] (blockSt own.length ix σ) HF { sF with heap := h₁, toks := sF.toks + ([] : List (Str × Value)).length } := block_start I3 B hC.symm f3 f3' old hns₁
  have st4 : tn 0 h₁ := T.keep _ _ _ st3 fun b _ o e => old b o e
  have fY : ∀ {pl : List (Addr × Obj)} {H' : Hp}, (∀ b ∈ fp, H' b = none) → (∀ p ∈ pl, p.1 ∉ fp) → ∀ b ∈ fp, FpOk (blockCx X pins (own ++ fr) scope C sF HF fp) pl H' b := fun {pl H'} hn hp b hb => by
    refine ⟨hn b hb, (J0.ok.exf b hb).1, J0.ok.exfs b hb, .inl hb, (J0.ok.exf b hb).2, fun p hpm => ?_⟩
    rcases List.mem_append.mp hpm with z | z
    · exact (f3 b hb).2.2.2.2.2 p z
    · exact fun e => hp p z (by rw [e]; exact hb)
  have weak : ∀ {pl : List (Addr × Obj)} {σ4 : St} {H4 : Hp} {s4 : Shared}, Inv (blockCx X pins (own ++ fr) scope C sF HF fp) pl σ4 H4 s4 → σ4.drop own.length = ix.map (fun i => (σ[i]?).getD none) → Inv (blockCx X pins (own ++ fr) scope C sF HF fp) pl (blockSt own.length ix σ) H4 s4 := fun {pl σ4 H4 s4} J e => by
    refine J.weak ?_ fun i v hv => ?_
    · have := J.len
      have := J0.len
      omega
    · have hv' : (List.replicate own.length none ++ ix.map fun i => (σ[i]?).getD none)[i]? = some (some v) := hv
      by_cases hi : i < own.length
      · rw [List.getElem?_append_left (by rw [List.length_replicate]; exact hi), List.getElem?_replicate, if_pos hi] at hv'
        cases hv'
      · rw [List.getElem?_append_right (by rw [List.length_replicate]; omega), List.length_replicate, ← e, List.getElem?_drop] at hv'
        rw [show own.length + (i - own.length) = i by omega] at hv'
        exact hv'
  have loop : ∀ s4 : Shared, s4 = { sF with heap := h₁, toks := sF.toks + ([] : List (Str × Value)).length } →
      codeAny (model X.prog X.w) X.A (.compLoop (.ListComp elt [⟨tg, iter, ifs, 0⟩] scope pos) 0 (.ref it) (.ref acc) (compEnvC scope (clOf X.env scope.names []) C X.env)) RR s4 := by
    rintro s4 rfl
    refine codeAny_compLoop_gen (fun n s' => ∃ i ys H', Inv (blockCx X pins (own ++ fr) scope C sF HF fp) [] (blockSt own.length ix σ) H' s' ∧ tn i s'.heap ∧ (∀ b ∈ fp, H' b = none) ∧ W i n ys H') ?_ m0 ⟨0, [], HF, J0, st4, fun b hb => (f3 b hb).1, w0⟩
    rintro n s5 ⟨i, ys, H5, J5, st5, fr5, w5⟩
    obtain ⟨ha, hturn⟩ := turn i n ys H5 w5
    rcases hturn with ⟨stop, qn⟩ | ⟨go, hsz, step⟩
    · refine thn (T.done (blockCx X pins (own ++ fr) scope C sF HF fp) rfl rfl rfl hc i [] s5 _ H5 (fun _ _ => False) J5 (fY fr5 (fun _ z => by cases z)) st5 stop) fun r s6 ⟨hr, J6⟩ => ?_
      subst hr
      exact fin s6 H5 J6 qn
    · refine thn (T.item (blockCx X pins (own ++ fr) scope C sF HF fp) rfl rfl rfl hc i [] s5 _ H5 (fun _ _ => False) J5 (fY fr5 (fun _ z => by cases z)) st5 go) fun r s6 ⟨u, hr, h6⟩ => ?_
      subst hr
      refine thn h6 fun _ s7 ⟨x, H7, J7, r7, y7, st7, fr7⟩ => ?_
      have J7' := J7.pinned (fY fr7 (fun _ z => by cases z)) (T.obj _ _ st7)
      refine thn (hg pins C sF HF fp _ s7 _ H7 x u _ J7' r7 (step x H7 y7)) fun _ s8 ⟨σ8, H8, J8, k8, q8⟩ => ?_
      have back : ∀ {s9 : Shared} {H9 : Hp}, Inv (blockCx X pins (own ++ fr) scope C sF HF fp) ([] ++ pinsAt fp s7.heap) σ8 H9 s9 → Inv (blockCx X pins (own ++ fr) scope C sF HF fp) [] (blockSt own.length ix σ) H9 s9 ∧ tn (i + 1) s9.heap ∧ ∀ b ∈ fp, H9 b = none := fun {s9 H9} J9 => by
        refine ⟨weak J9.unpinned k8, T.keep _ _ _ st7 fun b hb o e => (J9.pin (b, o) (List.mem_append_right _ (List.mem_append_right _ (mem_pinsAt hb e)))).1, fun b hb => ?_⟩
        obtain ⟨o, e, d⟩ := T.obj _ _ st7 b hb
        exact (J9.pin (b, o) (List.mem_append_right _ (List.mem_append_right _ (mem_pinsAt hb e)))).2.1
      refine thn (ht pins C sF HF fp _ s8 σ8 H8 _ J8 q8) fun ok s9 ⟨H9, J9, q9⟩ => ?_
      cases ok with
      | false =>
        obtain ⟨m', hm, w9⟩ := q9
        obtain ⟨b1, b2, b3⟩ := back J9
        exact ⟨m', hm, i + 1, ys, H9, b1, b2, b3, w9⟩
      | true =>
        refine thn (he pins C sF HF fp _ s9 σ8 H9 _ J9 q9) fun v s10 ⟨y, H10, J10, r10, a10, m', hm, w10⟩ => ?_
        refine thn (mt_append _ s10 σ8 H10 (.ref acc) [y] (.ref acc) [v] (fun _ H' => H' = upd H10 acc (.lst (ys ++ [y]))) J10 rfl (.cons r10 .nil) ⟨acc, ys, y, rfl, rfl, a10, hsz, rfl⟩) fun _ s11 ⟨_, H11, J11, _, e11⟩ => ?_
        subst e11
        obtain ⟨b1, b2, b3⟩ := back J11
        exact ⟨m', hm, i + 1, ys ++ [y], _, b1, b2, b3, w10⟩
  exact codeAny_compStart_list (loop _ rfl) (T.self _ 0 _ _ _ st4 (loop _ rfl))
theorem pe_comp {tg iter elt : Expr} {ifs : List Expr} {scope : Scope} {own fr : List Str} {ix : List Nat} {wi : TI} {g : TG} {tt : TT} {te : TE} {pos : Pos} (hc : X.calm = true) (BB : BlockB X scope own fr ix) (hi : PI X tg iter wi)
    (hg : ∀ pins C sF HF fp, PG (blockCx X pins (own ++ fr) scope C sF HF fp) tg g) (ht : ∀ pins C sF HF fp, PTs (blockCx X pins (own ++ fr) scope C sF HF fp) ifs tt) (he : ∀ pins C sF HF fp, PE (blockCx X pins (own ++ fr) scope C sF HF fp) elt te)
    (hs : ∀ x, foldedSetIterable iter X.env x = pure x := by intro _; rfl) : PE X (.ListComp elt [⟨tg, iter, ifs, 0⟩] scope pos) (tComp wi own.length ix g tt te) := by
  intro pins s σ H Q I h
  have B := BB.ok I.ok
  rw [eval_ListComp]
  refine wpAny_comprehension_free (use := none) rfl hs (closure_eq B.free) B.kind B.names (thn (hi pins s σ H _ I h) fun xv s1 h1 => thn h1 fun itv s2 h2 => ?_)
  obtain ⟨it, fp, tn, J, H2, rfl, I2, T, st2, f2, R⟩ := h2
  refine wpAny_newObj_type (wpAny_newFunctionEnv B.nocell (by intro y hy; simp at hy) (fun h₁ hns₁ hsb₁ => ?_) B.kind)
  dsimp only at hns₁ hsb₁
  have I3 := I2.lnew (t' := s2.toks) (its := []) (ys := []) .nil (Nat.zero_le _)
  obtain ⟨W, ⟨m0, w0⟩, turn⟩ := R _ I2.fresh
  have fF : ∀ b ∈ fp, ∃ o, s2.heap.get? b = some o := fun b hb => let ⟨o, e, _⟩ := T.obj _ _ st2 b hb; ⟨o, e⟩
  have nacc : ∀ b ∈ fp, b ≠ s2.heap.objs.size := fun b hb => let ⟨o, e⟩ := fF b hb; Nat.ne_of_lt (Heap.lt_size e)
  have push : ∀ b o, s2.heap.get? b = some o → (s2.heap.push { cls := .type "list", data := .seq ([] : List Value).toArray }).get? b = some o := fun b o e => Heap.get?_push_of_some _ e
  exact comp_block hc B hg ht he I3 T (T.keep _ _ _ st2 fun b _ o e => push b o e) (fun b hb => ⟨by rw [upd_ne (nacc b hb)]; exact (f2 b hb).1, (f2 b hb).2⟩) (fun b hb => let ⟨o, e⟩ := fF b hb; ⟨o, push b o e⟩) rfl
    (fun b o e => hsb₁.extBut b o (Nat.ne_of_lt (Heap.lt_size e)) (Heap.get?_push_of_some _ e)) hns₁ w0 turn fun s6 H5 J6 qn => by
      obtain ⟨m6, hn6, _⟩ := J6.loc
      exact ⟨m6, hn6, fun h' hs' => ⟨.ref _, H5, block_end I3 (fun b hb => ⟨by rw [upd_ne (nacc b hb)]; exact (f2 b hb).1, (f2 b hb).2⟩) rfl J6 hs', rfl, qn⟩⟩
end
end L2
namespace L2
open PySem PySem.Spec PyProof.Rows PySem.SeqAt
noncomputable def SqLL (K : PySem.W.Frag) (H : Hp) (a : Addr) (nss : List (List Int)) : Prop := ∃ as : List Addr, SqL K H a (as.map V.ref) ∧ Paired (fun b ns => SqL K H b (ns.map V.int)) as nss
abbrev dI (ns : List Int) : PyData := .list (ns.map PyData.int)
abbrev dII (nss : List (List Int)) : PyData := .list (nss.map dI)
theorem canLay_dII : ∀ nss : List (List Int), PyData.canLayAll0 (nss.map dI) = true
  | [] => by simp [PyData.canLayAll0]
  | n :: r => by simp [PyData.canLayAll0, PyData.canLay0, PySem.W.canLayAll0_ints, canLay_dII r]
theorem depth_dI (ns : List Int) : PyData.depth (dI ns) ≤ 2 := by
  have := PySem.W.depthAll_ints ns
  simp only [PyData.depth]
  omega
theorem depthAll_dII : ∀ nss : List (List Int), PyData.depthAll (nss.map dI) ≤ 2
  | [] => by simp [PyData.depthAll]
  | n :: r => by
    have := depthAll_dII r
    have := depth_dI n
    simp only [List.map_cons, PyData.depthAll]
    omega
theorem shaped_dII (nss : List (List Int)) : shaped (dII nss) = true := by
  have h1 := depthAll_dII nss
  have h2 : PyData.depth (dII nss) ≤ 64 := by simp only [PyData.depth]; omega
  show (PyData.canLay0 (dII nss) && decide (PyData.depth (dII nss) ≤ 64)) = true
  rw [Bool.and_eq_true]
  exact ⟨by simp only [PyData.canLay0]; exact canLay_dII nss, decide_eq_true h2⟩
theorem noMix_dI (ns ms : List Int) : noMix (dI ns) (dI ms) = true := by
  simp only [noMix]; exact PySem.W.noMix_ints ns ms
theorem noMix_dII : ∀ nss mss : List (List Int), noMixAll (nss.map dI) (mss.map dI) = true
  | [], [] => by simp [noMixAll]
  | [], _ :: _ => by simp [noMixAll]
  | _ :: _, [] => by simp [noMixAll]
  | n :: r, m :: q => by
    simp only [List.map_cons, noMixAll, noMix_dII r q, Bool.and_true]
    exact noMix_dI n m
theorem same_dI (ns ms : List Int) : PySem.Spec.same (dI ns) (dI ms) = decide (ns = ms) := by
  simp only [PySem.Spec.same]; exact PySem.W.same_ints ns ms
theorem same_dII : ∀ nss mss : List (List Int), PySem.Spec.sameAll (nss.map dI) (mss.map dI) = decide (nss = mss)
  | [], [] => by simp [PySem.Spec.sameAll]
  | [], _ :: _ => by simp [PySem.Spec.sameAll]
  | _ :: _, [] => by simp [PySem.Spec.sameAll]
  | n :: r, k :: q => by
    simp only [List.map_cons, PySem.Spec.sameAll, same_dII r q]
    rw [same_dI]
    by_cases h : n = k <;> simp [h]
section
variable {X : Cx} {pins : List (Addr × Obj)} {σ : St} {H : Hp} {s : Shared}
theorem Inv.ints (I : Inv X pins σ H s) {a : Addr} {ns : List Int} (h : SqL X.K H a (ns.map V.int)) : ∃ vs : List Value, s.heap.IsList a vs.toArray ∧ IntsAre vs ns ∧ ns.length ≤ sizeLine := by
  obtain ⟨its, r, p, z⟩ := I.list h
  exact ⟨its, p.isList, intsAre_of r, by rwa [List.length_map] at z⟩
theorem Inv.reads (I : Inv X pins σ H s) {a : Addr} {ns : List Int} (h : SqL X.K H a (ns.map V.int)) : Reads s.heap (.ref a) (dI ns) [a] := by
  obtain ⟨vs, l, i, _⟩ := I.ints h
  exact PySem.W.reads_of_ints l i
theorem Inv.readsAll (I : Inv X pins σ H s) : ∀ {as : List Addr} {us : List Value} {nss : List (List Int)}, Vals (as.map V.ref) us → Paired (fun b ns => SqL X.K H b (ns.map V.int)) as nss → ∃ bs, ReadsAll s.heap us (nss.map dI) bs
  | [], _, _, r, p => by
    cases r; cases p
    exact ⟨_, .nil⟩
  | a :: as, _, _, r, p => by
    cases p with
    | cons p1 p2 =>
      cases r with
      | cons r1 r2 =>
        obtain ⟨bs, h⟩ := I.readsAll r2 p2
        cases r1
        exact ⟨_, .cons (I.reads p1) h⟩
theorem Inv.readsL (I : Inv X pins σ H s) {a : Addr} {nss : List (List Int)} (h : SqLL X.K H a nss) : ∃ bs, Reads s.heap (.ref a) (dII nss) bs := by
  obtain ⟨as, h1, h2⟩ := h
  obtain ⟨its, r, ⟨o, n, ho, hc, hd0, hd⟩, z⟩ := I.list h1
  obtain ⟨bs, hb⟩ := I.readsAll r h2
  exact ⟨_, .list ho hc hd (by simpa using hb)⟩
end
section
variable {X : Cx}
noncomputable def rNeL (K : PySem.W.Frag) : R2 := fun x y H Q => ∃ (a b : Addr) (ns ms : List Int), x = .ref a ∧ y = .ref b ∧ SqL K H a (ns.map V.int) ∧ SqL K H b (ms.map V.int) ∧ Q (.bl (!decide (ns = ms))) H
noncomputable def rNeLL (K : PySem.W.Frag) : R2 := fun x y H Q => ∃ (a b : Addr) (nss mss : List (List Int)), x = .ref a ∧ y = .ref b ∧ SqLL K H a nss ∧ SqLL K H b mss ∧ Q (.bl (!decide (nss = mss))) H
theorem op_neL (hu : X.A.units + 64 < cLine) : OpR X (compareOp .NotEq) (rNeL X.K) := by
  intro pins s σ H x y v u Q I rx ry h
  obtain ⟨a, b, ns, ms, rfl, rfl, h1, h2, q⟩ := h
  cases rx; cases ry
  exact ne_dataH_same (I.reads h1) (I.reads h2) (PySem.W.shaped_ints ns) (PySem.W.shaped_ints ms) hu (noMix_dI ns ms) (by rw [same_dI]; exact ⟨.bl _, H, I, rfl, q⟩)
theorem op_neLL (hu : X.A.units + 64 < cLine) : OpR X (compareOp .NotEq) (rNeLL X.K) := by
  intro pins s σ H x y v u Q I rx ry h
  obtain ⟨a, b, ns, ms, rfl, rfl, h1, h2, q⟩ := h
  cases rx; cases ry
  obtain ⟨as, r1⟩ := I.readsL h1
  obtain ⟨bs, r2⟩ := I.readsL h2
  exact ne_dataH_same r1 r2 (shaped_dII ns) (shaped_dII ms) hu (by simp only [noMix]; exact noMix_dII ns ms) (by simp only [PySem.Spec.same]; rw [same_dII]; exact ⟨.bl _, H, I, rfl, q⟩)
theorem call_all (hc : X.calm = true) : CallR X (.builtin "all") (fun xs H Q => ∃ (p : Addr) (bs : List Bool), xs = [.ref p] ∧ SqL X.K H p (bs.map V.bl) ∧ Q (.bl (bs.all id)) H) := by
  intro pins s σ H xs us Q I r h
  obtain ⟨p, bs, rfl, hq, q⟩ := h
  obtain ⟨u, rfl, ru⟩ := vals1 r
  cases ru
  obtain ⟨its, rv, pl, hz⟩ := I.list hq
  have hl := pl.isList
  have hlt : p < s.heap.objs.size := by obtain ⟨_, e, _⟩ := hl; exact Heap.lt_size e
  refine call_all_walk (wpAny_pyIter_list hl ?_)
  refine ⟨s.heap.objs.size, [s.heap.objs.size, p], [s.heap.objs.size], its.toArray.size, _, _, fun i => (bs[i]?).getD true, rfl, Walks.list (A := X.A.in1) (I.ok.hd hc) _ p (Nat.ne_of_lt hlt) its.toArray,
    ⟨⟨_, Heap.get?_push_size _ rfl, rfl, rfl⟩, hl.push _⟩, fun i v s' Q' E' hP hQ => ?_, fun h' tk hk => ?_⟩
  · have hP' : its[i]? = some v := by simpa using hP
    have lenB : bs.length = its.length := by have := rv.length; rwa [List.length_map] at this
    have hi : i < bs.length := by rw [lenB]; exact (List.getElem?_eq_some_iff.mp hP').1
    obtain ⟨w, ew, rw'⟩ := rv.get (x := V.bl bs[i]) (i := i) (by rw [List.getElem?_map, List.getElem?_eq_getElem hi]; rfl)
    rw [hP'] at ew
    cases ew
    cases (show v = Value.bool bs[i] from rw')
    simp only [List.getElem?_eq_getElem hi, Option.getD_some] at hQ
    exact wpAny_truthy_bool hQ
  · have e : ((List.range its.toArray.size).all fun i => (bs[i]?).getD true) = bs.all id := by
      have lenB : bs.length = its.length := by have := rv.length; rwa [List.length_map] at this
      rw [List.size_toArray, ← lenB]; exact PyProof.Rows.LSm.range_all bs
    rw [e]
    exact ⟨.bl _, H, I.kept (PyProof.Rows.LSm.kept_iter hk), rfl, q⟩
theorem call_sortedI : CallR X (.builtin "sorted") (fun xs H Q => ∃ (p : Addr) (ns : List Int), xs = [.ref p] ∧ SqL X.K H p (ns.map V.int) ∧ ns.length < 64 ∧ ∀ (l : Addr) (ms : List Int), H l = none → ms.Perm ns → ms.Pairwise (· ≤ ·) → Q (.ref l) (upd H l (.lst (ms.map V.int)))) := by
  intro pins s σ H xs us Q I r h
  obtain ⟨p, ns, rfl, hq, h64, q⟩ := h
  obtain ⟨u, rfl, ru⟩ := vals1 r
  cases ru
  obtain ⟨vs, hl, hi, hz⟩ := I.ints hq
  refine sorted_ints hl hi (by rw [hi.length]; exact h64) fun out ms a1 a2 a3 => ?_
  obtain ⟨e, he⟩ := sortedAll_at s.heap vs out
  have new : ObjOk X.prog X.w (upd H (s.heap.objs.size + 1) (.lst (ms.map V.int))) (sortedAll s.heap vs out) (s.heap.objs.size + 1) (.lst (ms.map V.int)) := ⟨by rw [List.length_map, a2.length_eq]; exact hz, out.toList, e, vals_ints a1, by simpa [seqObj] using he⟩
  exact ⟨.ref (s.heap.objs.size + 1), _, I.laid (t' := s.toks) (fun _ _ => sortedAll_old) (Nat.le_succ _) new, rfl, q _ ms (I.hok.fresh (Nat.le_succ _)) a2 a3⟩
end
end L2
namespace L2
open PySem PySem.Spec PyProof.Rows
theorem Same.wr {H H' : Hp} {p : Addr} {o : HO} (s : Same H H') (h : H p = Option.none) : Same H (upd H' p o) := fun b u e => by
  rw [upd_ne (ne_of_none e h)]
  exact s b u e
theorem hu64 {A : Around} {k : Nat} (hr : Room k A) : A.units + 64 < cLine := hr.units
theorem kit_list_list (K : PySem.W.Frag) : PySem.W.kitOne K (.type "list") (.type "list") = some true := by with_unfolding_all rfl
theorem map_range_const {α : Type} (x : α) : ∀ n : Nat, (List.range n).map (fun _ => x) = List.replicate n x
  | 0 => rfl
  | n + 1 => by rw [List.range_succ, List.map_append, map_range_const x n, List.replicate_succ']; rfl
theorem all_replicate : ∀ n : Nat, (List.replicate n true).all id = true
  | 0 => rfl
  | n + 1 => by rw [List.replicate_succ, List.all_cons, all_replicate n]; rfl
section
variable {X : Cx}
theorem ix_listK (K : PySem.W.Frag) (hK : X.K = K := by rfl) : IxR X (rIxL K) := by subst hK; exact ix_list
theorem pg_tupK (K : PySem.W.Frag) {es : List Expr} {k : Nat} {t : TGs} {n : Nat} {pos : Pos} (hc : X.calm = true) (h : PGs X es t) (hK : X.K = K := by rfl)
    (hn : (assignEach es X.env).length = n := by rfl) (hst : (assignEach es X.env).findIdx? (·.1) = none := by rfl) : PG X (.Tuple es k pos) (gTup K n t) := by subst hK; exact pg_tup hc h hn hst
end
theorem comp_listP {K : PySem.W.Frag} {a acc : Addr} {xs : List V} {own : Nat} {ix : List Nat} {g : TG} {te : TE} {σ : St} {H1 : Hp} {Q : VK} (f : Nat → V) (hq : SqL K H1 a xs) (hn : H1 acc = none) (hz : xs.length ≤ sizeLine)
    (step : ∀ i x H (R : VK), xs[i]? = some x → Same H1 H → R (f i) H → g x (blockSt own ix σ) H fun σ4 H4 => σ4.drop own = ix.map (fun i => (σ[i]?).getD none) ∧ te σ4 H4 R)
    (hd : Q (.ref acc) (upd H1 acc (.lst ((List.range xs.length).map f)))) :
    CompGo (Itl K a) own ix g tNoTest te σ H1 acc Q := by
  refine ⟨fun i m ys H => m = xs.length - i ∧ i ≤ xs.length ∧ ys = (List.range i).map f ∧ H = upd H1 acc (.lst ys), ⟨xs.length, by simp, Nat.zero_le _, rfl, rfl⟩, ?_⟩
  rintro i m ys H ⟨rfl, hi, rfl, rfl⟩
  have q : SqL K (upd H1 acc (.lst ((List.range i).map f))) a xs := (Same.new hn).seq hq
  refine ⟨upd_same, ?_⟩
  by_cases hlt : i < xs.length
  · refine .inr ⟨⟨xs, xs[i], q, by simp [hlt]⟩, by rw [List.length_map, List.length_range]; omega, fun x H3 y => ?_⟩
    obtain ⟨e, y⟩ := y
    subst e
    exact step i x _ _ (y xs q) (Same.new hn) ⟨upd_same, xs.length - (i + 1), by omega, rfl, hlt, by rw [List.range_succ, List.map_append]; rfl, by rw [upd_upd]⟩
  · have e : i = xs.length := by omega
    subst e
    exact .inl ⟨⟨xs, q, Nat.le_refl _⟩, hd⟩
theorem comp_rangeP {lo : Int} {n : Nat} {acc : Addr} {own : Nat} {ix : List Nat} {g : TG} {te : TE} {σ : St} {H1 : Hp} {Q : VK} (f : Nat → V) (hn : H1 acc = none) (hz : n ≤ sizeLine)
    (step : ∀ i H (R : VK), i < n → Same H1 H → R (f i) H → g (.int (lo + i)) (blockSt own ix σ) H fun σ4 H4 => σ4.drop own = ix.map (fun i => (σ[i]?).getD none) ∧ te σ4 H4 R)
    (hd : Q (.ref acc) (upd H1 acc (.lst ((List.range n).map f)))) :
    CompGo (Itr lo n) own ix g tNoTest te σ H1 acc Q := by
  refine ⟨fun i m ys H => m = n - i ∧ i ≤ n ∧ ys = (List.range i).map f ∧ H = upd H1 acc (.lst ys), ⟨n, by simp, Nat.zero_le _, rfl, rfl⟩, ?_⟩
  rintro i m ys H ⟨rfl, hi, rfl, rfl⟩
  refine ⟨upd_same, ?_⟩
  by_cases hlt : i < n
  · refine .inr ⟨hlt, by rw [List.length_map, List.length_range]; omega, fun x H3 y => ?_⟩
    obtain ⟨e, y⟩ := y
    subst e y
    exact step i _ _ hlt (Same.new hn) ⟨upd_same, n - (i + 1), by omega, rfl, hlt, by rw [List.range_succ, List.map_append]; rfl, by rw [upd_upd]⟩
  · have e : i = n := by omega
    subst e
    exact .inl ⟨Nat.le_refl _, hd⟩
end L2
namespace L2
open PySem PySem.Spec PyProof.Rows
noncomputable def Itz (K : PySem.W.Frag) (a b : Addr) : It :=
  ⟨fun i H => ∃ xs ys x y, SqL K H a xs ∧ SqL K H b ys ∧ xs[i]? = some x ∧ ys[i]? = some y,
   fun i H v H' => ∃ t, H t = none ∧ v = .ref t ∧ ∀ xs ys x y, SqL K H a xs → SqL K H b ys → xs[i]? = some x → ys[i]? = some y → H' = upd H t (.tup [x, y]),
   fun i H => ∃ xs ys, SqL K H a xs ∧ SqL K H b ys ∧ (xs.length ≤ i ∨ ys.length ≤ i)⟩
theorem Inv.turns {X : Cx} {pins : List (Addr × Obj)} {σ : St} {H : Hp} {s : Shared} {h' : Heap} {ch : List Addr} {t' : Nat} (I : Inv X pins σ H s) (hf : ∀ b ∈ ch, FpOk X pins H b) (k : ∀ b o, b ∉ ch → s.heap.get? b = some o → h'.get? b = some o) :
    Inv X pins σ H { s with heap := h', toks := t' } := by
  have nit : ∀ b u, H b = some u → b ∉ ch := fun b u e z => by rw [(hf b z).1] at e; cases e
  refine I.step (g' := s.gens) (d' := s.drawn) (ch := ch) (fun b hb => ⟨(hf b hb).2.2.2.1, (hf b hb).2.1, (hf b hb).2.2.2.2.1, (hf b hb).2.2.2.2.2⟩) (fun b o _ _ hc e _ => k b o hc e) (fun b o _ _ hc e _ => ⟨o.slots, k b o hc e⟩) (fun _ _ _ _ n => n)
    (fun b o hc e => ⟨o, k b o hc e⟩) (fun _ _ e => e) (fun _ _ _ e => e) (fun b ps e => ⟨#[], by rw [e]; simp⟩) (fun m hm => ?_) (fun b u e => ?_) I.bare
  · obtain ⟨o, es, ep, ho, r⟩ := hm
    exact ⟨o, es, ep, k _ o (fun z => (hf _ z).2.1 rfl) ho, r⟩
  · refine (I.hok b u e).stay (fun c v hc q => k c v ?_ q) (fun _ q => q) fun _ _ q => q
    rcases hc with z | z
    · rw [z]; exact nit b u e
    · exact nit c _ z
theorem Inv.turnsT {X : Cx} {pins : List (Addr × Obj)} {σ : St} {H : Hp} {s : Shared} {h' : Heap} {ch : List Addr} {t' : Nat} {T : Addr} {xs : List V} {its : List Value} (I : Inv X pins σ H s) (hf : ∀ b ∈ ch, FpOk X pins H b) (k : ∀ b o, b ∉ ch → s.heap.get? b = some o → h'.get? b = some o)
    (hT : s.heap.objs.size ≤ T) (r : Vals xs its) (ht : IsTup h' T its.toArray) (hz : xs.length ≤ sizeLine) : Inv X pins σ (upd H T (.tup xs)) { s with heap := h', toks := t' } := by
  have hn : H T = none := I.hok.fresh hT
  have nit : ∀ b u, H b = some u → b ∉ ch := fun b u e z => by rw [(hf b z).1] at e; cases e
  have lt : ∀ b o, s.heap.get? b = some o → b ≠ T := fun b o e => Nat.ne_of_lt (Nat.lt_of_lt_of_le (Heap.lt_size e) hT)
  refine I.step (g' := s.gens) (d' := s.drawn) (ch := ch) (fun b hb => ⟨(hf b hb).2.2.2.1, (hf b hb).2.1, (hf b hb).2.2.2.2.1, (hf b hb).2.2.2.2.2⟩) (fun b o _ _ hc e _ => k b o hc e) (fun b o _ _ hc e _ => ⟨o.slots, k b o hc e⟩) (fun b o _ e n => by rw [upd_ne (lt b o e)]; exact n)
    (fun b o hc e => ⟨o, k b o hc e⟩) (fun b ys e => by rw [upd_ne (ne_of_none e hn)]; exact e) (fun b o u e => by rw [upd_ne (ne_of_none e hn)]; exact e) (fun b ps e => ⟨#[], by rw [upd_ne (ne_of_none e hn), e]; simp⟩) (fun m hm => ?_) (fun b u e => ?_) I.bare
  · obtain ⟨o, es, ep, ho, r⟩ := hm
    exact ⟨o, es, ep, k _ o (fun z => (hf _ z).2.1 rfl) ho, r⟩
  · by_cases hb : b = T
    · subst hb
      rw [upd_same] at e
      cases e
      exact ⟨hz, its, r, ht⟩
    · rw [upd_ne hb] at e
      refine (I.hok b u e).stay (fun c v hc q => k c v ?_ q) (fun c q => ?_) fun c w q => ?_
      · rcases hc with z | z
        · rw [z]; exact nit b u e
        · exact nit c _ z
      · rw [upd_ne (ne_of_none q hn)]; exact q
      · rw [upd_ne (ne_of_none q hn)]; exact q
theorem turn_zip {P : Program} {w : World} {K : PySem.W.Frag} {elts : List Expr} {x1 : Nat} {tp : Pos} (l1 l2 z TI TO i1 i2 : Addr) (D : ZipApart z TI TO i1 i2 l1 l2) :
    Turn P w K (.Tuple elts x1 tp) (Itz K l1 l2) [z, TI, TO, i1, i2] z (fun i h => IsZip h z TI TO .none ∧ IsPair h TI (.ref i1) (.ref i2) ∧ (∃ a b, IsPair h TO a b) ∧ h.IsListIter i1 l1 i ∧ h.IsListIter i2 l2 i) where
  mem := by simp
  obj := fun i h ⟨h1, h2, ⟨a, b, h3⟩, h4, h5⟩ c hc => by
    simp only [List.mem_cons, List.not_mem_nil, or_false] at hc
    rcases hc with e | e | e | e | e
    · subst e; exact ⟨_, h1, fun v q => by have q' : Data.fields _ = Data.cell v := q; cases q'⟩
    · subst e; exact ⟨_, h2, fun v q => by have q' : Data.seq _ _ = Data.cell v := q; cases q'⟩
    · subst e; exact ⟨_, h3, fun v q => by have q' : Data.seq _ _ = Data.cell v := q; cases q'⟩
    · subst e
      obtain ⟨o, ho, _, hd⟩ := h4
      exact ⟨o, ho, fun v q => by rw [hd] at q; cases q⟩
    · subst e
      obtain ⟨o, ho, _, hd⟩ := h5
      exact ⟨o, ho, fun v q => by rw [hd] at q; cases q⟩
  keep := fun i h h' ⟨h1, h2, ⟨a, b, h3⟩, ⟨o4, e4, r4⟩, ⟨o5, e5, r5⟩⟩ k =>
    ⟨k z (by simp) _ h1, k TI (by simp) _ h2, ⟨a, b, k TO (by simp) _ h3⟩, ⟨o4, k i1 (by simp) _ e4, r4⟩, ⟨o5, k i2 (by simp) _ e5, r5⟩⟩
  item := by
    intro X hP hw hK hc i pins s σ H E I hf ⟨h1, h2, ⟨a, b, h3⟩, h4, h5⟩ ⟨xs, ys, x, y, q1, q2, hx, hy⟩
    subst hP hw hK
    obtain ⟨it1, v1, p1, z1⟩ := I.list q1
    obtain ⟨it2, v2, p2, z2⟩ := I.list q2
    obtain ⟨u1, e1, r1⟩ := v1.get hx
    obtain ⟨u2, e2, r2⟩ := v2.get hy
    refine wpAny_pyNext_zip_item D h1 h2 h3 h4 h5 p1.isList p2.isList (by simpa using e1) (by simpa using e2) fun h' g1 g3 g4 g5 gT gs k => ?_
    refine ⟨_, rfl, wpAny_letOwnedTupleGo_zip g1 fun h'' g1' sb => ?_⟩
    have hzT : s.heap.objs.size ≠ z := Nat.ne_of_gt (Heap.lt_size h1)
    have gT' : IsTup h'' s.heap.objs.size [u1, u2].toArray := ⟨_, sb.extBut _ _ hzT gT, rfl, _, rfl⟩
    have hlz : ∀ {c : Addr} {o : Obj}, c ≠ z → h'.get? c = some o → h''.get? c = some o := fun hcz e => sb.extBut _ _ hcz e
    refine ⟨.ref s.heap.objs.size, upd H s.heap.objs.size (.tup [x, y]), I.turnsT (ch := [z, TO, i1, i2]) (t' := s.toks) (fun c hcm => hf c (by simp only [List.mem_cons, List.not_mem_nil, or_false] at hcm ⊢; rcases hcm with e | e | e | e <;> simp [e])) (fun c o hcn e => ?_) (Nat.le_refl _) (.cons r1 (.cons r2 .nil)) gT' (by show 2 ≤ sizeLine; decide), rfl,
      ⟨_, I.hok.fresh (Nat.le_refl _), rfl, fun xs' ys' x' y' w1 w2 w3 w4 => ?_⟩, ⟨g1', hlz D.TIz (k TI _ D.TIz D.TITO D.TIi1 D.TIi2 h2), ⟨_, _, hlz D.TOz g3⟩, ?_, ?_⟩, fun c hcm => ?_⟩
    · simp only [List.mem_cons, List.not_mem_nil, or_false, not_or] at hcn
      exact hlz hcn.1 (k c o hcn.1 hcn.2.1 hcn.2.2.1 hcn.2.2.2 e)
    · have a1 := I.list_inj w1 q1
      have a2 := I.list_inj w2 q2
      subst a1 a2
      rw [hx] at w3
      rw [hy] at w4
      cases w3; cases w4
      rfl
    · obtain ⟨o, e, r⟩ := g4
      exact ⟨o, hlz D.i1z e, r⟩
    · obtain ⟨o, e, r⟩ := g5
      exact ⟨o, hlz D.i2z e, r⟩
    · obtain ⟨o, e, _⟩ : ∃ o, s.heap.get? c = some o ∧ True := by
        simp only [List.mem_cons, List.not_mem_nil, or_false] at hcm
        rcases hcm with e | e | e | e | e
        · subst e; exact ⟨_, h1, trivial⟩
        · subst e; exact ⟨_, h2, trivial⟩
        · subst e; exact ⟨_, h3, trivial⟩
        · subst e; obtain ⟨o, ho, _⟩ := h4; exact ⟨o, ho, trivial⟩
        · subst e; obtain ⟨o, ho, _⟩ := h5; exact ⟨o, ho, trivial⟩
      rw [upd_ne (Nat.ne_of_lt (Heap.lt_size e))]
      exact (hf c hcm).1
  done := by
    intro X hP hw hK hc i pins s σ H E I hf ⟨h1, h2, ⟨a, b, h3⟩, h4, h5⟩ ⟨xs, ys, q1, q2, hend⟩
    subst hP hw hK
    obtain ⟨it1, v1, p1, z1⟩ := I.list q1
    obtain ⟨it2, v2, p2, z2⟩ := I.list q2
    have l1 := v1.length
    have l2 := v2.length
    refine wpAny_pyNext_zip_end (I.ok.hd hc) D h1 h2 h3 h4 h5 p1.isList p2.isList ?_ fun h' k => ⟨rfl, I.turns (ch := [z, TO, i1, i2]) (t' := s.toks) (fun c hcm => hf c (by simp only [List.mem_cons, List.not_mem_nil, or_false] at hcm ⊢; rcases hcm with e | e | e | e <;> simp [e])) fun c o hcn e => ?_⟩
    · rcases hend with q | q
      · exact .inl (by simp; omega)
      · exact .inr (by simp; omega)
    · simp only [List.mem_cons, List.not_mem_nil, or_false, not_or] at hcn
      exact k c o hcn.1 hcn.2.1 hcn.2.2.1 hcn.2.2.2 e
  self := fun _ _ _ _ _ st h => wpAny_pyIter_zip st.1 h
section
variable {X : Cx}
noncomputable def iZip (K : PySem.W.Frag) (ta : TA) : TI := fun σ H R => ta σ H fun vs H1 => ∃ a b xs ys, vs = [.ref a, .ref b] ∧ SqL K H1 a xs ∧ SqL K H1 b ys ∧ R (Itz K a b) H1
theorem pi_zip {a b : Expr} {ta : TA} {p pos : Pos} {elts : List Expr} {x1 : Nat} {tp : Pos} (hg : Gl X "zip") (hm : X.mg "zip" = none) (ha : PA X [a, b] ta) (hs : starEach [a, b] X.env = (false, eval a X.env) :: starEach [b] X.env := by rfl) (hs2 : (backTo pos (starEach [b] X.env)).any (·.1) = false := by rfl) :
    PI X (.Tuple elts x1 tp) (.Call (.Name "zip" p) [a, b] [] pos) (iZip X.K ta) := by
  intro pins s σ H R I h
  refine Call_ (ld_blt I hg hm b_zip (PyProof.Rows.callWith_type1 (thn (ha pos pins s σ H _ I h) fun us s1 ⟨vs, H1, I1, r1, q1⟩ => ?_) hs hs2))
  obtain ⟨l1, l2, xs, ys, e, q1, q2, q⟩ := q1
  subst e
  obtain ⟨u1, u2, rfl, w1, w2⟩ := vals2 r1
  cases w1; cases w2
  obtain ⟨it1, v1, p1, z1⟩ := I1.list q1
  obtain ⟨it2, v2, p2, z2⟩ := I1.list q2
  have hl1 : l1 < s1.heap.objs.size := by obtain ⟨_, _, e, _⟩ := p1; exact Heap.lt_size e
  have hl2 : l2 < s1.heap.objs.size := by obtain ⟨_, _, e, _⟩ := p2; exact Heap.lt_size e
  have hl1' : @LT.lt Nat _ l1 s1.heap.objs.size := hl1
  have hl2' : @LT.lt Nat _ l2 s1.heap.objs.size := hl2
  refine call_zip_2 p1.isList p2.isList fun h' g1 g2 g3 g4 g5 gs k => ?_
  refine wpAny_pyIter_zip g1 ?_
  refine ⟨s1.heap.objs.size + 4, [s1.heap.objs.size + 4, s1.heap.objs.size + 2, s1.heap.objs.size + 3, s1.heap.objs.size, s1.heap.objs.size + 1], _, _, H1, rfl, I1.kept (t' := s1.toks) k,
    turn_zip l1 l2 _ _ _ _ _ ⟨?_, ?_, ?_, ?_, ?_, ?_, ?_, ?_, ?_, ?_, ?_, ?_, ?_, ?_, ?_, ?_, ?_, ?_⟩, ⟨g1, g2, ⟨_, _, g3⟩, g4, g5⟩, fun c hcm => ?_, q⟩
  all_goals first
    | (have hc : s1.heap.objs.size ≤ c := by
         simp only [List.mem_cons, List.not_mem_nil, or_false] at hcm
         rcases hcm with e | e | e | e | e <;> (rw [e]; first | exact Nat.le_refl _ | exact Nat.le_add_right _ _)
       exact I1.fpOk hc (I1.hok.fresh hc))
    | (intro z; have z' : @Eq Nat _ _ := z; omega)
end
theorem for_zip {K : PySem.W.Frag} {a b : Addr} {xs ys : List V} {g : TG} {tb : TS} {D : Ends} {σ : St} {H : Hp} (Pv : Nat → St → Hp → Prop) (h0 : Pv 0 σ H) (hl : ∀ i σ H, Pv i σ H → SqL K H a xs ∧ SqL K H b ys)
    (hs : ∀ i x y t σ H, xs[i]? = some x → ys[i]? = some y → Pv i σ H → H t = none → g (.ref t) σ (upd H t (.tup [x, y])) fun σ2 H2 => tb { D with nx := Pv (i + 1), ct := Pv (i + 1), bk := D.nx } σ2 H2) (hd : ∀ σ H, Pv (min xs.length ys.length) σ H → D.nx σ H) :
    ∃ W : Nat → Nat → St → Hp → Prop, (∃ m, W 0 m σ H) ∧ ∀ i m σ H, W i m σ H →
      ((Itz K a b).stop i H ∧ D.nx σ H) ∨ ((Itz K a b).go i H ∧ ∃ N : St → Hp → Prop, (∀ σ' H', N σ' H' → ∃ m', m' < m ∧ W (i + 1) m' σ' H') ∧ ∀ x H', (Itz K a b).yld i H x H' → g x σ H' fun σ2 H2 => tb { D with nx := N, ct := N, bk := D.nx } σ2 H2) := by
  refine ⟨fun i m σ H => m = min xs.length ys.length - i ∧ i ≤ min xs.length ys.length ∧ Pv i σ H, ⟨_, rfl, Nat.zero_le _, h0⟩, ?_⟩
  rintro i m σ H ⟨rfl, hi, p⟩
  obtain ⟨q1, q2⟩ := hl i σ H p
  by_cases hlt : i < min xs.length ys.length
  · have h1 : i < xs.length := by omega
    have h2 : i < ys.length := by omega
    refine .inr ⟨⟨xs, ys, xs[i], ys[i], q1, q2, List.getElem?_eq_getElem h1, List.getElem?_eq_getElem h2⟩, Pv (i + 1), fun σ' H' p' => ⟨_, by omega, rfl, hlt, p'⟩, fun v H3 ⟨t, ht, hv, hy⟩ => ?_⟩
    have e := hy xs ys xs[i] ys[i] q1 q2 (List.getElem?_eq_getElem h1) (List.getElem?_eq_getElem h2)
    subst hv e
    exact hs i _ _ t σ H (List.getElem?_eq_getElem h1) (List.getElem?_eq_getElem h2) p ht
  · have e : i = min xs.length ys.length := by omega
    subst e
    exact .inl ⟨⟨xs, ys, q1, q2, by omega⟩, hd σ H p⟩
end L2
namespace Bw
noncomputable def C : Nat → Nat → Nat
  | _, 0 => 1
  | 0, _ + 1 => 0
  | n + 1, k + 1 => C n k + C n (k + 1)
theorem C_zero (n : Nat) : C n 0 = 1 := by cases n <;> rfl
theorem C_zero_succ (k : Nat) : C 0 (k + 1) = 0 := rfl
theorem C_succ (n k : Nat) : C (n + 1) (k + 1) = C n k + C n (k + 1) := rfl
theorem C_above : ∀ (n k : Nat), n < k → C n k = 0
  | n, 0, h => absurd h (Nat.not_lt_zero _)
  | 0, _ + 1, _ => rfl
  | n + 1, k + 1, h => by
    rw [C_succ, C_above n k (by omega), C_above n (k + 1) (by omega)]
theorem C_self : ∀ n : Nat, C n n = 1
  | 0 => rfl
  | n + 1 => by rw [C_succ, C_self n, C_above n (n + 1) (by omega)]
theorem C_one : ∀ n : Nat, C n 1 = n
  | 0 => rfl
  | n + 1 => by rw [C_succ, C_zero, C_one n]; omega
theorem C_step : ∀ (n k : Nat), (k + 1) * C n (k + 1) + k * C n k = n * C n k
  | 0, 0 => by simp [C]
  | 0, k + 1 => by simp [C]
  | n + 1, 0 => by rw [C_one, C_zero]; omega
  | n + 1, k + 1 => by
    have h1 := C_step n k
    have h2 := C_step n (k + 1)
    rw [C_succ n (k + 1), C_succ n k]
    have e1 : (k + 1 + 1) * (C n (k + 1) + C n (k + 1 + 1)) = (k + 1 + 1) * C n (k + 1) + (k + 1 + 1) * C n (k + 1 + 1) := Nat.mul_add _ _ _
    have e2 : (k + 1) * (C n k + C n (k + 1)) = (k + 1) * C n k + (k + 1) * C n (k + 1) := Nat.mul_add _ _ _
    have e3 : (n + 1) * (C n k + C n (k + 1)) = (n * C n k + C n k) + (n * C n (k + 1) + C n (k + 1)) := by rw [Nat.mul_add, Nat.succ_mul, Nat.succ_mul]
    have e4 : (k + 1 + 1) * C n (k + 1) = (k + 1) * C n (k + 1) + C n (k + 1) := Nat.succ_mul _ _
    have e5 : (k + 1) * C n k = k * C n k + C n k := Nat.succ_mul _ _
    rw [e1, e2, e3, e4, e5]
    omega
theorem C_step' {n k : Nat} (h : k ≤ n) : (k + 1) * C n (k + 1) = C n k * (n - k) := by
  have e := C_step n k
  have e2 : C n k * (n - k) + k * C n k = n * C n k := by
    rw [Nat.mul_comm (C n k), ← Nat.add_mul, Nat.sub_add_cancel h]
  omega
theorem C_div {n k : Nat} (h : k ≤ n) : C n k * (n - k) / (k + 1) = C n (k + 1) := by
  rw [← C_step' h, Nat.mul_div_cancel_left _ (Nat.succ_pos k)]
theorem C_le_pow : ∀ (n k : Nat), C n k ≤ n ^ k
  | n, 0 => by rw [C_zero]; exact Nat.le_refl _
  | n, k + 1 => by
    have ih := C_le_pow n k
    by_cases h : k ≤ n
    · rw [← C_div h, Nat.pow_succ]
      refine Nat.le_trans (Nat.div_le_self _ _) ?_
      exact Nat.mul_le_mul ih (Nat.sub_le _ _)
    · rw [C_above n (k + 1) (by omega)]; exact Nat.zero_le _
noncomputable def ch (n k : Int) : Int := (C n.toNat k.toNat : Nat)
theorem ch_nonneg (n k : Int) : 0 ≤ ch n k := Int.natCast_nonneg _
theorem ch_nat (n k : Nat) : ch (n : Int) (k : Int) = (C n k : Nat) := by
  unfold ch; rw [Int.toNat_natCast, Int.toNat_natCast]
theorem ch_above {n k : Int} (h0 : 0 ≤ n) (h : n < k) : ch n k = 0 := by
  unfold ch; rw [C_above _ _ (by omega)]; rfl
theorem ch_zero (n : Int) : ch n 0 = 1 := by
  unfold ch; rw [show (0 : Int).toNat = 0 from rfl, C_zero]; rfl
theorem ch_succ {n k : Int} (hn : 0 ≤ n) (hk : 0 ≤ k) : ch (n + 1) (k + 1) = ch n k + ch n (k + 1) := by
  unfold ch
  rw [show (n + 1).toNat = n.toNat + 1 by omega, show (k + 1).toNat = k.toNat + 1 by omega, C_succ]
  omega
theorem ch_step {n : Int} {i : Nat} (hn : (i : Int) ≤ n) : ch n i * (n - i) / ((i : Int) + 1) = ch n ((i : Int) + 1) := by
  unfold ch
  have e : n = ((n.toNat : Nat) : Int) := by omega
  have e1 : ((i : Int) + 1).toNat = i + 1 := by omega
  have e2 : ((i : Nat) : Int).toNat = i := by omega
  have e3 : n - (i : Int) = ((n.toNat - i : Nat) : Int) := by omega
  rw [e1, e2, e3, ← C_div (n := n.toNat) (k := i) (by omega)]
  have e4 : ((i : Int) + 1) = ((i + 1 : Nat) : Int) := by omega
  rw [e4, ← Int.natCast_mul, ← Int.natCast_ediv]
noncomputable def fac : Nat → Int
  | 0 => 1
  | i + 1 => fac i * ((i : Int) + 1)
theorem fac_succ (i : Nat) : fac (i + 1) = fac i * ((i : Int) + 1) := rfl
end Bw
namespace Bw
theorem C_mono1 : ∀ (n k : Nat), C n k ≤ C (n + 1) k
  | n, 0 => by rw [C_zero, C_zero]; exact Nat.le_refl _
  | n, k + 1 => by rw [C_succ]; omega
theorem C_mono {m n : Nat} (k : Nat) (h : m ≤ n) : C m k ≤ C n k := by
  induction h with
  | refl => exact Nat.le_refl _
  | step _ ih => exact Nat.le_trans ih (C_mono1 _ _)
theorem C_pos {n k : Nat} (h : k ≤ n) : 0 < C n k := by
  have := C_mono k h
  rw [C_self] at this
  omega
theorem C_pos_le {n k : Nat} (h : 0 < C n k) : k ≤ n := by
  rcases Nat.lt_or_ge n k with z | z
  · rw [C_above n k z] at h; omega
  · exact z
theorem C_drop (n k : Nat) : ∀ j : Nat, j ≤ n → C n (k + 1) ≤ C (n - j) (k + 1) + j * C (n - 1) k
  | 0, _ => by simp
  | j + 1, h => by
    have ih := C_drop n k j (by omega)
    obtain ⟨r, hr⟩ : ∃ r, n - j = r + 1 := ⟨n - j - 1, by omega⟩
    have e : n - (j + 1) = r := by omega
    have m := C_mono (m := r) (n := n - 1) k (by omega)
    rw [hr, C_succ] at ih
    rw [e, Nat.succ_mul]
    omega
theorem step_down {t k number : Nat} (h : number < C t (k + 1)) (d : Nat) (hd : d = (C t (k + 1) - number + C (t - 1) k - 1) / C (t - 1) k) :
    0 < C (t - 1) k ∧ 1 ≤ d ∧ d ≤ t ∧ number < C (t - d + 1) (k + 1) := by
  have hk : k + 1 ≤ t := C_pos_le (by omega)
  have ho : 0 < C (t - 1) k := C_pos (by omega)
  have hdm : d * C (t - 1) k ≤ C t (k + 1) - number + C (t - 1) k - 1 := by
    rw [hd]; exact Nat.div_mul_le_self _ _
  have d1 : 1 ≤ d := by
    rw [hd]; exact (Nat.le_div_iff_mul_le ho).mpr (by omega)
  have s : (d - 1) * C (t - 1) k + C (t - 1) k = d * C (t - 1) k := by
    have e : d = d - 1 + 1 := by omega
    conv => rhs; rw [e, Nat.succ_mul]
  have lt : (d - 1) * C (t - 1) k < C t (k + 1) - number := by omega
  have dt : d - 1 ≤ t := by
    rcases Nat.lt_or_ge t (d - 1) with z | z
    · have q := C_drop t k t (Nat.le_refl _)
      rw [Nat.sub_self, C_zero_succ] at q
      have w : t * C (t - 1) k ≤ (d - 1) * C (t - 1) k := Nat.mul_le_mul_right _ (by omega)
      omega
    · exact z
  have q := C_drop t k (d - 1) dt
  have gt : number < C (t - (d - 1)) (k + 1) := by omega
  have ge := C_pos_le (n := t - (d - 1)) (k := k + 1) (by omega)
  have e : t - d + 1 = t - (d - 1) := by omega
  rw [e]
  exact ⟨ho, d1, by omega, gt⟩
noncomputable def facN : Nat → Nat
  | 0 => 1
  | i + 1 => facN i * (i + 1)
theorem C_fac_ge : ∀ {n k : Nat}, k ≤ n → (n + 1 - k) ^ k ≤ C n k * facN k
  | n, 0, _ => by rw [C_zero]; exact Nat.le_refl _
  | n, k + 1, h => by
    have ih := C_fac_ge (n := n) (k := k) (by omega)
    have st := C_step' (n := n) (k := k) (by omega)
    have e : C n (k + 1) * facN (k + 1) = C n k * facN k * (n - k) := by
      show C n (k + 1) * (facN k * (k + 1)) = _
      rw [Nat.mul_comm (facN k), ← Nat.mul_assoc, Nat.mul_comm (C n (k + 1)), st, Nat.mul_assoc, Nat.mul_comm (n - k), ← Nat.mul_assoc]
    rw [e]
    have e2 : n + 1 - (k + 1) = n - k := by omega
    rw [e2, Nat.pow_succ]
    refine Nat.mul_le_mul_right _ (Nat.le_trans (Nat.pow_le_pow_left (by omega) k) ih)
theorem start_above {number k f : Nat} (h : number * facN k < 2 ^ (f * k)) : number < C (2 ^ f + k) k := by
  rw [Nat.pow_mul] at h
  generalize 2 ^ f = p at h ⊢
  have q := C_fac_ge (n := p + k) (k := k) (by omega)
  have e : p + k + 1 - k = p + 1 := by omega
  rw [e] at q
  have r : p ^ k ≤ (p + 1) ^ k := Nat.pow_le_pow_left (by omega) k
  rcases Nat.lt_or_ge number (C (p + k) k) with z | z
  · exact z
  · have := Nat.mul_le_mul_right (facN k) z
    omega
theorem fac_nat : ∀ i : Nat, fac i = (facN i : Nat)
  | 0 => rfl
  | i + 1 => by
    rw [fac_succ, fac_nat i]
    show _ = ((facN i * (i + 1) : Nat) : Int)
    rw [Int.natCast_mul]
    rfl
structure IsTop (k number t : Int) : Prop where
  lo : k - 1 ≤ t
  le : ch t k ≤ number
  lt : number < ch (t + 1) k
theorem ch_mono {m n k : Int} (h : m ≤ n) : ch m k ≤ ch n k := by
  unfold ch
  exact Int.ofNat_le.mpr (C_mono _ (by omega))
theorem ch_pos_le {n k : Int} (hn : 0 ≤ n) (h : 0 < ch n k) : k ≤ n := by
  rcases (by omega : k ≤ n ∨ n < k) with z | z
  · exact z
  · rw [ch_above hn z] at h; omega
theorem ch_pos {n k : Int} (hk : 0 ≤ k) (h : k ≤ n) : 0 < ch n k := by
  unfold ch
  exact Int.ofNat_lt.mpr (C_pos (by omega))
theorem step_downI {t k number : Int} (hk : 1 ≤ k) (h0 : 0 ≤ number) (ht : 0 ≤ t) (h : number < ch t k) (d : Int) (hd : d = (ch t k - number + ch (t - 1) (k - 1) - 1) / ch (t - 1) (k - 1)) :
    k ≤ t ∧ 0 < ch (t - 1) (k - 1) ∧ 1 ≤ d ∧ k - 1 ≤ t - d ∧ number < ch (t - d + 1) k := by
  have kt : k ≤ t := ch_pos_le ht (by omega)
  obtain ⟨j, hj⟩ : ∃ j : Nat, k = (j : Int) + 1 := ⟨(k - 1).toNat, by omega⟩
  obtain ⟨m, hm⟩ : ∃ m : Nat, t = (m : Int) := ⟨t.toNat, by omega⟩
  obtain ⟨r, hr⟩ : ∃ r : Nat, number = (r : Int) := ⟨number.toNat, by omega⟩
  subst hj hm hr
  have e1 : ch (m : Int) ((j : Int) + 1) = (C m (j + 1) : Nat) := by
    rw [show ((j : Int) + 1) = ((j + 1 : Nat) : Int) by omega, ch_nat]
  have e2 : ch ((m : Int) - 1) ((j : Int) + 1 - 1) = (C (m - 1) j : Nat) := by
    rw [show ((m : Int) - 1) = ((m - 1 : Nat) : Int) by omega, show ((j : Int) + 1 - 1) = ((j : Nat) : Int) by omega, ch_nat]
  rw [e1] at h
  rw [e1, e2] at hd
  have h' : r < C m (j + 1) := by omega
  obtain ⟨s1, s2, s3, s4⟩ := step_down h' _ rfl
  have ed : d = (((C m (j + 1) - r + C (m - 1) j - 1) / C (m - 1) j : Nat) : Int) := by
    rw [hd, Int.natCast_ediv]
    congr 1
    omega
  generalize (C m (j + 1) - r + C (m - 1) j - 1) / C (m - 1) j = dn at s2 s3 s4 ed
  subst ed
  have e3 : ch ((m : Int) - (dn : Int) + 1) ((j : Int) + 1) = (C (m - dn + 1) (j + 1) : Nat) := by
    rw [show ((m : Int) - (dn : Int) + 1) = ((m - dn + 1 : Nat) : Int) by omega, show ((j : Int) + 1) = ((j + 1 : Nat) : Int) by omega, ch_nat]
  have le := C_pos_le (n := m - dn + 1) (k := j + 1) (by omega)
  rw [e2, e3]
  exact ⟨kt, by omega, by omega, by omega, by omega⟩
theorem aboveI {number k : Int} {F b : Nat} (hk : 1 ≤ k) (h0 : 0 ≤ number) (hb : (number * fac k.toNat).natAbs < 2 ^ b) (hF : (b : Int) ≤ (F : Int) * k) : number < ch ((2 : Int) ^ F + k - 1 + 1) k := by
  obtain ⟨j, hj⟩ : ∃ j : Nat, k = (j : Int) := ⟨k.toNat, by omega⟩
  obtain ⟨r, hr⟩ : ∃ r : Nat, number = (r : Int) := ⟨number.toNat, by omega⟩
  subst hj hr
  rw [Int.toNat_natCast, fac_nat, ← Int.natCast_mul, Int.natAbs_natCast] at hb
  have hF' : b ≤ F * j := by
    have : ((F * j : Nat) : Int) = (F : Int) * (j : Int) := Int.natCast_mul _ _
    omega
  have s := start_above (number := r) (k := j) (f := F) (Nat.lt_of_lt_of_le hb (Nat.pow_le_pow_right (by decide) hF'))
  have e : (2 : Int) ^ F + (j : Int) - 1 + 1 = ((2 ^ F + j : Nat) : Int) := by
    rw [Int.natCast_add, Int.natCast_pow]
    show _ = (2 : Int) ^ F + (j : Int)
    omega
  rw [e, ch_nat]
  exact Int.ofNat_lt.mpr s
end Bw
namespace Bw
open PySem L2
open Builtin.Int (intBits)
noncomputable def spChoose : Sp := fun vs H Q _ => ∃ n k : Int, vs = [.int n, .int k] ∧ 0 ≤ n ∧ 0 ≤ k ∧ k ≤ 1000 ∧ intBits n ≤ 100000 ∧ Q (.int (ch n k)) H
noncomputable def spRound : Sp := fun vs H Q _ => ∃ a b : Int, vs = [.int a, .int b] ∧ 0 < b ∧ Q (.int ((a + b - 1) / b)) H
noncomputable def spAbove : Sp := fun vs H Q _ => ∃ k number : Int, vs = [.int k, .int number] ∧ 1 ≤ k ∧ k ≤ 60 ∧ 0 ≤ number ∧ intBits number ≤ 50000 ∧ ∀ t : Int, k - 1 ≤ t → number < ch (t + 1) k → intBits t ≤ 60000 → Q (.int t) H
theorem bits_of {x : Int} {m : Nat} (h1 : 0 ≤ x) (h2 : x < (2 : Int) ^ m) : intBits x ≤ m := by
  refine intBits_le_iff.mpr ?_
  have e : ((2 ^ m : Nat) : Int) = (2 : Int) ^ m := by
    rw [Int.natCast_pow]; rfl
  rw [← e] at h2
  omega
theorem bits_mono {x : Int} {m n : Nat} (h : intBits x ≤ m) (hm : m ≤ n) : intBits x ≤ n := Nat.le_trans h hm
theorem bits_ch {n : Int} {k m : Nat} (h : intBits n ≤ m) (hn : 0 ≤ n) : intBits (ch n k) ≤ m * k + 1 := by
  refine intBits_le_of_natAbs (y := n ^ k) ?_ (intBits_pow_le h k)
  unfold ch
  rw [Int.toNat_natCast]
  have e : n = ((n.toNat : Nat) : Int) := by omega
  have e2 : (n ^ k).natAbs = n.toNat ^ k := by
    rw [Int.natAbs_pow]
    congr 1
    omega
  rw [e2]
  have := C_le_pow n.toNat k
  omega
theorem bits_fac : ∀ i : Nat, i ≤ 64 → intBits (fac i) ≤ 7 * i + 1
  | 0, _ => by decide
  | i + 1, hi => by
    rw [fac_succ]
    exact bits_mono (intBits_mul_le (m := 7 * i + 1) (n := 7) (bits_fac i (by omega)) (bits_of (by omega) (by omega))) (by omega)
end Bw
namespace L2
open PySem PySem.Spec PyProof.Rows
section
variable {X : Cx}
end
end L2
namespace L2
open PySem PySem.Spec PyProof.Rows
noncomputable def LL (H : Hp) (p : Addr) (nss : List (List Int)) : Prop := ∃ as : List Addr, H p = some (.lst (as.map V.ref)) ∧ Paired (fun b (ns : List Int) => H b = some (.lst (ns.map V.int))) as nss
theorem paired_imp {α β : Type} {F G : α → β → Prop} (h : ∀ a b, F a b → G a b) : ∀ {as : List α} {bs : List β}, Paired F as bs → Paired G as bs
  | _, _, .nil => .nil
  | _, _, .cons x y => .cons (h _ _ x) (paired_imp h y)
theorem paired_len {α β : Type} {F : α → β → Prop} : ∀ {as : List α} {bs : List β}, Paired F as bs → as.length = bs.length
  | _, _, .nil => rfl
  | _, _, .cons _ y => by simp [paired_len y]
theorem paired_get {α β : Type} {F : α → β → Prop} : ∀ {as : List α} {bs : List β} {i : Nat} {a : α}, Paired F as bs → as[i]? = some a → ∃ b, bs[i]? = some b ∧ F a b
  | _, _, _, _, .nil, h => by simp at h
  | _, _, 0, _, .cons x _, h => by
    simp only [List.getElem?_cons_zero, Option.some.injEq] at h
    subst h
    exact ⟨_, rfl, x⟩
  | _, _, i + 1, _, .cons _ y, h => by
    rw [List.getElem?_cons_succ] at h
    obtain ⟨b, e, f⟩ := paired_get y h
    exact ⟨b, by rw [List.getElem?_cons_succ]; exact e, f⟩
theorem LL.sq {K : PySem.W.Frag} {H : Hp} {p : Addr} {nss : List (List Int)} (h : LL H p nss) : SqLL K H p nss := by
  obtain ⟨as, e, q⟩ := h
  exact ⟨as, SqL.of e, paired_imp (fun _ _ z => SqL.of z) q⟩
end L2
namespace L2
open PySem PySem.Spec PyProof.Rows
section
variable {prog : Program} {w : World} {A : Around} {E : Value → Shared → Prop} {s : Shared}
end
section
variable {X : Cx}
end
end L2
namespace L2
open PySem PySem.Spec PyProof.Rows
open PySem.W (hideAll of_hideAll hideAll_get)
noncomputable def CXE (P : Program) (w : World) : CXT := fun outer H s E e s' => ∃ (x : Addr) (C a0 : Value) (H' : Hp) (B : Heap), e = .ref x ∧ s'.os = s.os ∧ AllBare s'.gens ∧ Heap.FlyingW B outer x C a0 s'.heap ∧
  (∀ h3, B.StaysIn h3 → s'.heap.UpToSlots h3 → Un (frs outer) [] H H' s.heap h3 ∧ HOk P w H' h3) ∧ s.heap.get? x = none ∧ H' x = none ∧ E C none H'
theorem own_obj {K : PySem.W.Frag} {h : Heap} {C : Addr} {bmB : List Value} {newId : String} (X : K.In h) (q : PySem.W.excIn K C bmB newId = true) :
    ∃ bm N nm q bs hdct sn sub ab col dd k0 k1 k2 k3 k5 mN, h.get? C = some (excClassObj nm q C N bs bm hdct sn sub ab col dd k0 k1 k2 k3 k5 newId) ∧ h.Ns N mN ∧ mN "__init__" = none ∧ OwnTail h bmB bm ∧ ∀ v b, PySem.W.mroIn K C v = some b → (Value.ref C :: bm).contains v = b := by
  unfold PySem.W.excIn at q
  split at q
  · rename_i dd cd sl ho
    split at q
    · rename_i C' bm k0 k1 k2 k3 n k5 hm hs
      simp only [Bool.and_eq_true, beq_iff_eq, Bool.not_eq_true'] at q
      obtain ⟨⟨⟨⟨⟨rfl, rfl⟩, hdel⟩, ht⟩, hok⟩, hni⟩ := q
      obtain ⟨nm, bs, mro, ns, qn, hd, sn, sub, ab, col, del⟩ := cd
      dsimp only at hm hdel hok hni
      subst hm hdel
      have hsl : sl = #[k0, k1, k2, k3, some (.builtin n), k5] := by
        obtain ⟨l⟩ := sl
        simp only at hs
        rw [hs]
      subst hsl
      exact ⟨bm, ns, nm, qn, bs, hd, sn, sub, ab, col, dd, k0, k1, k2, k3, k5, _, X _ _ ho, .of_isNs (PySem.W.isNs_of_in X hok), PySem.W.nsMap_none_of_in X hok hni, PySem.W.tail_of_in X ht, fun v b e => by
        unfold PySem.W.mroIn PySem.W.clsIn at e
        rw [ho] at e
        simpa using e⟩
    · cases q
  · cases q
theorem ObjOk.there {P : Program} {w : World} {H : Hp} {h : Heap} {a : Addr} {o : HO} (x : ObjOk P w H h a o) : ∃ ob, h.get? a = some ob := by
  cases o with
  | lst xs => obtain ⟨_, _, _, _, e⟩ := x; exact ⟨_, e⟩
  | tup xs => obtain ⟨_, _, _, ob, e, _⟩ := x; exact ⟨_, e⟩
  | dK kvs => obtain ⟨_, _, _, _, o, _, _, e, _⟩ := x; exact ⟨_, e⟩
  | dT kvs => obtain ⟨_, _, _, _, o, _, _, e, _⟩ := x; exact ⟨_, e⟩
  | set S n => obtain ⟨o, _, _, _, e, _⟩ := x; exact ⟨_, e⟩
  | ins C dx fs => obtain ⟨_, _, _, e, _⟩ := x; exact ⟨_, e⟩
  | own y => obtain ⟨_, e⟩ := x; exact ⟨_, e⟩
  | xd fs => obtain ⟨_, ⟨_, _, _, e, _⟩, _⟩ := x; exact ⟨_, e⟩
  | rng lo hi => obtain ⟨_, _, _, e⟩ := x; exact ⟨_, e⟩
  | frz ob u => obtain ⟨e, _⟩ := x; exact ⟨_, e⟩
  | tbl ps => exact ⟨_, (show h.get? a = some _ from x)⟩
  | met f y => exact ⟨_, (show h.get? a = some _ from x)⟩
  | ext φ => obtain ⟨_, ⟨_, e⟩, _⟩ := x; exact ⟨_, e⟩
section
variable {P : Program} {w : World} {K : PySem.W.Frag} {mg : Str → Option Value} {base : Heap} {N : List Str} {qual : Str} {scope : Scope} {f : Addr} {cdv : Value} {A : Around} {outer : List Env} {s s2 : Shared} {H H1 : Hp} {E : XK} {pins : List (Addr × Obj)} {σ : St}
theorem stands (I : Inv (cxOf (CXE P w) P w K mg base N qual scope f cdv A outer s H E) pins σ H1 s2) {h3 : Heap} (hst : (hideAll s2.heap (frs (envOfC qual scope s.heap.objs.size f cdv :: outer))).StaysIn h3) (up : s2.heap.UpToSlots h3) :
    Un (frs outer) [] H H1 s.heap h3 ∧ HOk P w H1 h3 := by
  have kk : ∀ b o, s2.heap.get? b = some o → b ∉ frs (envOfC qual scope s.heap.objs.size f cdv :: outer) → h3.get? b = some o := fun b o e hb => hst b o (hideAll_get _ e hb)
  have frz : ∀ b, b ∈ frs (envOfC qual scope s.heap.objs.size f cdv :: outer) → b = s.heap.objs.size ∨ b ∈ frs outer := fun b hb => by
    unfold frs at hb
    rw [List.filterMap_cons] at hb
    exact List.mem_cons.mp hb
  have notL : ∀ b o, s.heap.get? b = some o → b ∉ frs outer → b ∉ frs (envOfC qual scope s.heap.objs.size f cdv :: outer) := fun b o e hb z => by
    rcases frz b z with q | q
    · exact absurd (Heap.lt_size e) (by rw [q]; exact Nat.lt_irrefl _)
    · exact hb q
  have U := I.base
  have stk := I.stack
  refine ⟨⟨fun b o e n hb hx => kk b o (U.keep b o e n hb hx) (notL b o e hb), fun b o e n hb hx => ?_, fun b o e n hx => U.free b o e n hx, fun b o e hx => ?_, U.tups, U.frzs, U.tbls⟩, fun a u e => ?_⟩
  · obtain ⟨sl, q⟩ := U.slot b o e n hb hx
    obtain ⟨_, o2, ho2, hd2⟩ := I.ok.funs.mem hb
    have ho2' : s.heap.get? b = some o2 := ho2
    rw [e] at ho2'
    cases ho2'
    obtain ⟨sl2, q2⟩ := up b _ q hd2
    exact ⟨sl2, q2⟩
  · obtain ⟨o2, q⟩ := U.there b o e hx
    by_cases hb : b ∈ frs (envOfC qual scope s.heap.objs.size f cdv :: outer)
    · obtain ⟨_, o3, ho3, hd3⟩ := stk.mem hb
      obtain ⟨sl, q3⟩ := up b _ ho3 hd3
      exact ⟨_, q3⟩
    · exact ⟨_, kk b o2 q hb⟩
  · refine (I.hok a u e).stay (fun b v hb q => kk b v q fun z => ?_) (fun _ q => q) fun _ _ q => q
    have hn := I.stkFree b z
    rcases hb with r | r
    · rw [r] at hn; rw [hn] at e; cases e
    · rw [hn] at r; cases r
theorem xe_made {h' : Heap} {e : Addr} {C : Value} {vs : List Value} (I : Inv (cxOf (CXE P w) P w K mg base N qual scope f cdv A outer s H E) pins σ H1 s2) (m : Heap.MadeExcOf s2.heap h' e C vs) (h : E C none H1) :
    (cxOf (CXE P w) P w K mg base N qual scope f cdv A outer s H E).xe (.ref e) { s2 with heap := h' } := by
  show wpAny (model P w) (A.deeper (envOfC qual scope s.heap.objs.size f cdv)) (leaving (envOfC qual scope s.heap.objs.size f cdv) (.ref e)) (fun _ s'' => CXE P w outer H s E (.ref e) s'') (fun e' s'' => CXE P w outer H s E e' s'') { s2 with heap := h' }
  have stk := I.stack
  refine wpAny_leaves_madeW (s := { s2 with heap := h' }) (base := hideAll s2.heap (frs (envOfC qual scope s.heap.objs.size f cdv :: outer))) (h := s2.heap) I.ok.frames rfl (fun b o q => of_hideAll _ q) (PySem.W.funFrames_hide stk fun env he b hb => List.mem_filterMap.mpr ⟨env, he, hb⟩) m fun h'' t fl tup bt ups => ?_
  have up1 : s2.heap.UpToSlots h'' := (Heap.UpToSlots.of_keeps m.keeps).trans ups
  refine ⟨e, C, .ref t, H1, _, rfl, I.os, I.bare, fl, fun h3 st3 up3 => stands I st3 (up1.trans up3), ?_, ?_, h⟩
  · have en := m.new
    cases q : s.heap.get? e with
    | none => rfl
    | some o =>
      obtain ⟨o2, q2⟩ := I.base.there e o q (by show e ∉ ([] : List Addr); simp)
      rw [en] at q2; cases q2
  · cases q : H1 e with
    | none => rfl
    | some u =>
      obtain ⟨ob, q2⟩ := ObjOk.there (I.hok e u q)
      rw [m.new] at q2; cases q2
theorem notL2 {b : Addr} {o : Obj} (e : s.heap.get? b = some o) (hb : b ∉ frs outer) : b ∉ frs (envOfC qual scope s.heap.objs.size f cdv :: outer) := fun z => by
  have z' : b ∈ s.heap.objs.size :: frs outer := by
    unfold frs at z ⊢
    rw [List.filterMap_cons] at z
    exact z
  rcases List.mem_cons.mp z' with q | q
  · exact absurd (Heap.lt_size e) (by rw [q]; exact Nat.lt_irrefl _)
  · exact hb q
theorem xe_pass {x : Addr} {s' : Shared} {e : Value} {E' : XK} (I : Inv (cxOf (CXE P w) P w K mg base N qual scope f cdv A outer s H E) pins σ H1 s2) (hx : CXE P w (envOfC qual scope s.heap.objs.size f cdv :: outer) H1 s2 E' e s') (h : ∀ C H', E' C none H' → E C none H') :
    (cxOf (CXE P w) P w K mg base N qual scope f cdv A outer s H E).xe e s' := by
  obtain ⟨x, C, a0, H', B, rfl, os, bare, fl, st, xn, xh, q⟩ := hx
  show wpAny (model P w) (A.deeper (envOfC qual scope s.heap.objs.size f cdv)) (leaving (envOfC qual scope s.heap.objs.size f cdv) (.ref x)) (fun _ s'' => CXE P w outer H s E (.ref x) s'') (fun e' s'' => CXE P w outer H s E e' s'') s'
  refine wpAny_leaves_onW I.ok.frames rfl fl fun h'' fl2 up => ?_
  have U := I.base
  refine ⟨x, C, a0, H', B, rfl, os.trans I.os, bare, fl2, fun h3 st3 up3 => ?_, ?_, xh, h C H' q⟩
  · obtain ⟨u, ok⟩ := st h3 st3 (up.trans up3)
    refine ⟨⟨fun b o e n hb hx => u.keep b o (U.keep b o e n hb hx) (U.free b o e n hx) (notL2 e hb) hx, fun b o e n hb hx => ?_, fun b o e n hx => ?_, fun b o e hx => ?_, fun b xs e => u.tups b xs (U.tups b xs e), fun b o v e => u.frzs b o v (U.frzs b o v e), fun b ps e => ?_⟩, ok⟩
    · obtain ⟨sl, q1⟩ := U.slot b o e n hb hx
      have hb' : b ∈ frs (envOfC qual scope s.heap.objs.size f cdv :: outer) := by
        unfold frs; rw [List.filterMap_cons]; exact List.mem_cons_of_mem _ hb
      obtain ⟨sl2, q2⟩ := u.slot b _ q1 (U.free b o e n hx) hb' hx
      exact ⟨sl2, q2⟩
    · obtain ⟨o2, q2⟩ := U.there b o e hx
      exact u.free b o2 q2 (U.free b o e n hx) hx
    · obtain ⟨o2, q2⟩ := U.there b o e hx
      exact u.there b o2 q2 hx
    · obtain ⟨m1, q1⟩ := U.tbls b ps e
      obtain ⟨m2, q2⟩ := u.tbls b _ q1
      exact ⟨m1 ++ m2, by rw [q2, Array.append_assoc]⟩
  · cases q1 : s.heap.get? x with
    | none => rfl
    | some o =>
      obtain ⟨o2, q2⟩ := U.there x o q1 (by show x ∉ ([] : List Addr); simp)
      rw [xn] at q2; cases q2
end
section
variable {P : Program} {w : World} {K : PySem.W.Frag} {mg : Str → Option Value} {base : Heap}
noncomputable def FnE (P : Program) (w : World) (K : PySem.W.Frag) (mg : Str → Option Value) (base : Heap) (k : Nat) (x : Str) (ps : List Str) (sp : Sp) : Prop :=
  ∃ f fd, FnOk P w K mg base (CXE P w) k f fd ps sp ∧ PySem.W.keepIn K (.ref f) = true ∧ Binds K fd ps [] ∧ mg x = some (.ref f)
noncomputable def tRaise (C : Addr) (E : XK) (t : TA) : TS := fun _ σ H => t σ H fun vs H1 => vs.length ≤ sizeLine ∧ E (.ref C) none H1
theorem ps_raise {N : List Str} {qual : Str} {scope : Scope} {f : Addr} {cdv : Value} {A : Around} {outer : List Env} {s : Shared} {H : Hp} {E : XK} {xn : Str} {C : Addr} {bmB : List Value} {B newId initId : String} {e : Expr} {es : List Expr} {t : TA} {np cpos pos : Pos}
    (FB : ExcBaseFacts B newId initId bmB) (hq : PySem.W.excIn K C bmB newId = true) (hg : Gl (cxOf (CXE P w) P w K mg base N qual scope f cdv A outer s H E) xn) (hm : mg xn = some (.ref C)) (ha : PA (cxOf (CXE P w) P w K mg base N qual scope f cdv A outer s H E) (e :: es) t)
    (hd : (xn == ("__debug__" : Str)) = false := by decide)
    (he : starEach (e :: es) (cxOf (CXE P w) P w K mg base N qual scope f cdv A outer s H E).env = (false, eval e (cxOf (CXE P w) P w K mg base N qual scope f cdv A outer s H E).env) :: starEach es (cxOf (CXE P w) P w K mg base N qual scope f cdv A outer s H E).env := by rfl)
    (hpl : (backTo cpos (starEach es (cxOf (CXE P w) P w K mg base N qual scope f cdv A outer s H E).env)).any (·.1) = false := by rfl) :
    PS (cxOf (CXE P w) P w K mg base N qual scope f cdv A outer s H E) (.Raise (some (.Call (.Name xn np) (e :: es) [] cpos)) none pos) (tRaise C E t) := by
  intro pins s1 σ H0 D I h
  obtain ⟨bm, N', nm, q, bs, hdct, sn, sub, ab, col, dd, k0, k1, k2, k3, k5, mN, hC, hN, hni, TL, _⟩ := own_obj I.mod.kin hq
  refine wpAny_Raise_call_subT (C := C) (nm := nm) (q := q) (N := N') (bs := bs) (bm := bm) (hdct := hdct) (sn := sn) (sub := sub) (ab := ab) (col := col) (dd := dd) (k0 := k0) (k1 := k1) (k2 := k2) (k3 := k3) (k5 := k5)
    FB (mN := mN) (TL.hasType FB.hasBase) (I.ok.hd rfl) (by rw [he]; show (false || (backTo cpos (starEach es _)).any (·.1)) = false; rw [hpl]; rfl) hni (ld_glob I hg hm ⟨rfl, ?_⟩ hd)
  have hs := ha cpos pins s1 σ H0 _ I h
  rw [he] at hs ⊢
  exact Calls.evalArgs_plain (thn hs fun us s2 x => by
    obtain ⟨vs, H1, I1, r1, z, q1⟩ := x
    exact ⟨rfl, by rw [← r1.length]; exact z, I1.bk _ _ hC, hN.keeps I1.bk, TL.keeps I1.bk, fun h' x m => xe_made I1 m q1⟩)
end
section
variable {P : Program} {w : World} {K : PySem.W.Frag} {mg : Str → Option Value} {base : Heap}
theorem Fun.okE {x qual : Str} {st : Stmt} {f : Addr} {fd : FuncData} {N ps : List Str} {k : Nat} {sp : Sp} (F : Fun K x qual st f fd) (S : FnScope N ps (defScope st)) (len : ∀ vs H Q E, sp vs H Q E → vs.length = ps.length)
    (hbody : ∀ (cdv : Value) (A : Around) (outer : List Env) (s : Shared) (H : Hp) (vs : List V) (Q : VK) (E : XK), Room k (A.deeper (envOfC qual (defScope st) s.heap.objs.size f cdv)) → sp vs H Q E →
      ∃ t, PSs (cxOf (CXE P w) P w K mg base N qual (defScope st) f cdv A outer s H E) (defBody st) t ∧ t { nx := fun _ H' => Q .non H', rt := Q } (start N vs) H) : FnOk P w K mg base (CXE P w) (k + 1) f fd ps sp := by
  obtain ⟨oc, od, kV, doc, pm, an, cdv, ct, osl, rfl, lk, hcd⟩ := F.ex
  exact fn_of lk hcd S len fun A outer s H vs Q E hr hsp => hbody cdv A outer s H vs Q E hr hsp
theorem Def.fnE {x : Str} {st : Stmt} {N ps : List Str} {k : Nat} {sp : Sp} (D : Def K mg x st ps) (S : FnScope N ps (defScope st)) (len : ∀ vs H Q E, sp vs H Q E → vs.length = ps.length)
    (hbody : ∀ (f : Addr) (cdv : Value) (A : Around) (outer : List Env) (s : Shared) (H : Hp) (vs : List V) (Q : VK) (E : XK), Room k (A.deeper (envOfC x (defScope st) s.heap.objs.size f cdv)) → sp vs H Q E →
      ∃ t, PSs (cxOf (CXE P w) P w K mg base N x (defScope st) f cdv A outer s H E) (defBody st) t ∧ t { nx := fun _ H' => Q .non H', rt := Q } (start N vs) H) : FnE P w K mg base (k + 1) x ps sp := by
  obtain ⟨f, fd, F, b, m⟩ := D
  exact ⟨f, fd, F.okE S len (hbody f), F.kp, b, m⟩
end
section
variable {M : Model} {A : Around} {E : Value → Shared → Prop} {h : Heap} {g : Array GenState} {d : Drawn} {t : Nat} {os : OsState}
end
section
variable {X : Cx} {pins : List (Addr × Obj)} {σ : St} {H : Hp} {s : Shared}
noncomputable def excIs (x : Addr) (C : Value) : HO := .ext fun h => ∃ o, h.get? x = some o ∧ o.cls = C
end
section
variable {X : Cx} {pins : List (Addr × Obj)} {σ : St} {H : Hp} {s : Shared}
end
end L2
namespace L2
open PySem PySem.Spec PyProof.Rows
noncomputable def Ite (K : PySem.W.Frag) (l : Addr) (N : Nat) : It :=
  ⟨fun i H => ∃ xs x, SqL K H l xs ∧ xs.length = N ∧ xs[i]? = some x,
   fun i H v H' => ∃ t, H t = none ∧ v = .ref t ∧ ∀ xs x, SqL K H l xs → xs[i]? = some x → H' = upd H t (.tup [.int i, x]),
   fun i H => i = N ∧ ∃ xs, SqL K H l xs ∧ xs.length = N⟩
theorem turn_enumL {P : Program} {w : World} {K : PySem.W.Frag} {elts : List Expr} {x1 : Nat} {tp : Pos} (l e it : Addr) (N : Nat) (hei : e ≠ it) (hle : l ≠ e) (hli : l ≠ it) :
    Turn P w K (.Tuple elts x1 tp) (Ite K l N) [e, it] e (fun i h => (∃ old, IsEnum h e it i old) ∧ h.IsListIter it l i) where
  mem := by simp
  obj := fun i h ⟨⟨old, h1⟩, h2⟩ c hc => by
    simp only [List.mem_cons, List.not_mem_nil, or_false] at hc
    rcases hc with z | z
    · subst z; exact ⟨_, h1, fun v q => by have q' : Data.fields _ = Data.cell v := q; cases q'⟩
    · subst z
      obtain ⟨o, ho, _, hd⟩ := h2
      exact ⟨o, ho, fun v q => by rw [hd] at q; cases q⟩
  keep := fun i h h' ⟨⟨old, h1⟩, h2⟩ k => ⟨⟨old, k e (by simp) _ h1⟩, h2.at fun o z => k it (by simp) o z⟩
  item := by
    intro X hP hw hK hc i pins s σ H E I hf ⟨⟨old, h1⟩, h2⟩ ⟨xs, x, q1, hN, hx⟩
    subst hP hw hK
    obtain ⟨it1, v1, p1, z1⟩ := I.list q1
    have hl1 := v1.length
    have hsz : it1.toArray.size = N := by rw [List.size_toArray]; omega
    have hi : i < N := by have := (List.getElem?_eq_some_iff.mp hx).1; omega
    obtain ⟨u1, e1, r1⟩ := v1.get hx
    have D := Draws.list (prog := X.prog) (w := X.w) (A := X.A.in1) (I.ok.hd hc) it l hli it1.toArray
    rw [hsz] at D
    refine wpAny_pyNext_enum_itemD D h1 ⟨h2, p1.isList⟩ hi hei (by simp only [List.mem_cons, List.not_mem_nil, or_false, not_or]; exact ⟨hei, Ne.symm hle⟩) fun u h' tk hu g1 gst gT gs k => ?_
    refine ⟨_, rfl, wpAny_letOwnedTupleGo_enum g1 fun h'' g1' sb => ?_⟩
    have hzT : s.heap.objs.size ≠ e := Nat.ne_of_gt (Heap.lt_size h1)
    have eu : u = u1 := by
      have hu' : it1[i]? = some u := by simpa using hu
      rw [e1] at hu'
      exact (Option.some.inj hu').symm
    subst eu
    have gT' : IsTup h'' s.heap.objs.size [Value.int i tk, u].toArray := ⟨_, sb.extBut _ _ hzT gT, rfl, _, rfl⟩
    have hlz : ∀ {c : Addr} {o : Obj}, c ≠ e → h'.get? c = some o → h''.get? c = some o := fun hcz z => sb.extBut _ _ hcz z
    refine ⟨.ref s.heap.objs.size, upd H s.heap.objs.size (.tup [.int i, x]), I.turnsT (ch := [e, it]) (t' := tk + 1) (fun c hcm => hf c hcm) (fun c o hcn z => ?_) (Nat.le_refl _) (.cons ⟨tk, rfl⟩ (.cons r1 .nil)) gT' (by show 2 ≤ sizeLine; decide), rfl,
      ⟨_, I.hok.fresh (Nat.le_refl _), rfl, fun xs' x' w1 w2 => ?_⟩, ⟨⟨_, g1'⟩, gst.1.at fun o z => hlz (Ne.symm hei) z⟩, fun c hcm => ?_⟩
    · simp only [List.mem_cons, List.not_mem_nil, or_false, not_or] at hcn
      exact hlz hcn.1 (k c o hcn.1 hcn.2 z)
    · have a1 := I.list_inj w1 q1
      subst a1
      rw [hx] at w2
      cases w2
      rfl
    · obtain ⟨o, z, _⟩ : ∃ o, s.heap.get? c = some o ∧ True := by
        simp only [List.mem_cons, List.not_mem_nil, or_false] at hcm
        rcases hcm with z | z
        · subst z; exact ⟨_, h1, trivial⟩
        · subst z; obtain ⟨o, ho, _⟩ := h2; exact ⟨o, ho, trivial⟩
      rw [upd_ne (Nat.ne_of_lt (Heap.lt_size z))]
      exact (hf c hcm).1
  done := by
    intro X hP hw hK hc i pins s σ H E I hf ⟨⟨old, h1⟩, h2⟩ ⟨hi, xs, q1, hN⟩
    subst hP hw hK hi
    obtain ⟨it1, v1, p1, z1⟩ := I.list q1
    have hl1 := v1.length
    have hsz : it1.toArray.size = i := by rw [List.size_toArray]; omega
    have D := Draws.list (prog := X.prog) (w := X.w) (A := X.A.in1) (I.ok.hd hc) it l hli it1.toArray
    rw [hsz] at D
    refine wpAny_pyNext_enum_endD D h1 ⟨h2, p1.isList⟩ fun h' k => ⟨rfl, I.turns (ch := [e, it]) (t' := s.toks) hf fun c o hcn z => ?_⟩
    simp only [List.mem_cons, List.not_mem_nil, or_false, not_or] at hcn
    exact k c o hcn.2 z
  self := fun _ _ _ _ _ st h => let ⟨⟨_, z⟩, _⟩ := st; wpAny_pyIter_enum z h
section
variable {X : Cx}
noncomputable def iEnumL (K : PySem.W.Frag) (ta : TA) : TI := fun σ H R => ta σ H fun vs H1 => ∃ a xs, vs = [.ref a] ∧ SqL K H1 a xs ∧ R (Ite K a xs.length) H1
theorem pi_enumL {a : Expr} {ta : TA} {p pos : Pos} {elts : List Expr} {x1 : Nat} {tp : Pos} (hg : Gl X "enumerate") (hm : X.mg "enumerate" = none) (ha : PA X [a] ta)
    (hs : starEach [a] X.env = (false, eval a X.env) :: starEach [] X.env := by rfl) (hs2 : (backTo pos (starEach [] X.env)).any (·.1) = false := by rfl) :
    PI X (.Tuple elts x1 tp) (.Call (.Name "enumerate" p) [a] [] pos) (iEnumL X.K ta) := by
  intro pins s σ H R I h
  refine Call_ (ld_blt I hg hm b_enumerate (PyProof.Rows.callWith_type1 (thn (ha pos pins s σ H _ I h) fun us s1 ⟨vs, H1, I1, r1, q1⟩ => ?_) hs hs2))
  obtain ⟨l, xs, e, q1, q⟩ := q1
  subst e
  obtain ⟨u, rfl, w1⟩ := vals1 r1
  cases w1
  obtain ⟨its, v1, p1, z1⟩ := I1.list q1
  have hl : l < s1.heap.objs.size := by obtain ⟨_, _, e, _⟩ := p1; exact Heap.lt_size e
  refine call_enumerate_list p1.isList fun h' g1 g2 gs k => ?_
  refine wpAny_pyIter_enum g1 ?_
  refine ⟨s1.heap.objs.size + 1, [s1.heap.objs.size + 1, s1.heap.objs.size], _, _, H1, rfl, I1.kept (t' := s1.toks) k, turn_enumL l _ s1.heap.objs.size xs.length ?_ ?_ ?_, ⟨⟨_, g1⟩, g2⟩, fun c hcm => ?_, q⟩
  · exact Nat.succ_ne_self _
  · exact Nat.ne_of_lt (Nat.lt_succ_of_lt hl)
  · exact Nat.ne_of_lt hl
  · have hc : s1.heap.objs.size ≤ c := by
      simp only [List.mem_cons, List.not_mem_nil, or_false] at hcm
      rcases hcm with e | e
      · rw [e]; exact Nat.le_succ _
      · rw [e]; exact Nat.le_refl _
    exact I1.fpOk hc (I1.hok.fresh hc)
theorem call_sum (hc : X.calm = true) : CallR X (.builtin "sum") (fun xs H Q => ∃ (p : Addr) (ns : List Int), xs = [.ref p] ∧ SqL X.K H p (ns.map V.int) ∧ Q (.int ns.sum) H) := by
  intro pins s σ H xs us Q I r h
  obtain ⟨p, ns, rfl, hq, q⟩ := h
  obtain ⟨u, rfl, ru⟩ := vals1 r
  cases ru
  obtain ⟨its, hl, hi, hz⟩ := I.ints hq
  obtain ⟨xs, hx⟩ := hi.allInts.items
  have hl' : s.heap.IsList p (intItems xs) := hx ▸ hl
  refine sum_intListG (I.ok.hd hc) hl' fun h' tk t' hk => ?_
  have e1 : ns = xs.toList.map (·.1) := by
    rw [← nums_intItems, ← hx]
    exact (show numsOf its.toArray.toList = ns from hi.numsOf).symm
  have e2 : preSum (numAt xs) xs.size = ns.sum := by
    rw [preSum_eq, List.take_of_length_le (by simp), e1]
  rw [e2]
  exact ⟨.int _, H, I.kept (t' := tk) hk, ⟨_, rfl⟩, q⟩
end
theorem b_sum : bootBuiltins "sum" = some (.builtin "sum") := by decide +kernel
theorem comp_enumP {K : PySem.W.Frag} {a acc : Addr} {xs : List V} {own : Nat} {ix : List Nat} {g : TG} {te : TE} {σ : St} {H1 : Hp} {Q : VK} (f : Nat → V) (hq1 : SqL K H1 a xs) (hn : H1 acc = none) (hz : xs.length ≤ sizeLine)
    (step : ∀ (i : Nat) (x : V) (t : Addr) (H : Hp) (R : VK), xs[i]? = some x → Same H1 H → H t = some (.tup [.int i, x]) → R (f i) H → g (.ref t) (blockSt own ix σ) H fun σ4 H4 => σ4.drop own = ix.map (fun i => (σ[i]?).getD none) ∧ te σ4 H4 R)
    (hd : ∀ H', Same H1 H' → H' acc = some (.lst ((List.range xs.length).map f)) → Q (.ref acc) H') : CompGo (Ite K a xs.length) own ix g tNoTest te σ H1 acc Q := by
  refine ⟨fun i m ys H => m = xs.length - i ∧ i ≤ xs.length ∧ ys = (List.range i).map f ∧ Same H1 H ∧ H acc = some (.lst ys), ⟨xs.length, by simp, Nat.zero_le _, rfl, Same.new hn, upd_same⟩, ?_⟩
  rintro i m zs H ⟨rfl, hi, rfl, sm, ha⟩
  refine ⟨ha, ?_⟩
  by_cases hlt : i < xs.length
  · refine .inr ⟨⟨xs, xs[i], sm.seq hq1, rfl, List.getElem?_eq_getElem hlt⟩, by rw [List.length_map, List.length_range]; omega, fun v H3 ⟨t, ht, hv, hy⟩ => ?_⟩
    have e := hy xs _ (sm.seq hq1) (List.getElem?_eq_getElem hlt)
    subst hv e
    have ha3 : (upd H t (.tup [.int i, xs[i]])) acc = some (.lst ((List.range i).map f)) := by rw [upd_ne (ne_of_none ha ht)]; exact ha
    exact step i _ t _ _ (List.getElem?_eq_getElem hlt) (sm.put ht) upd_same ⟨ha3, _, by omega, rfl, hlt, by rw [List.range_succ, List.map_append]; rfl, (sm.put ht).wr hn, upd_same⟩
  · have e : i = xs.length := by omega
    subst e
    exact .inl ⟨⟨rfl, xs, sm.seq hq1, rfl⟩, hd H sm ha⟩
theorem for_enum {K : PySem.W.Frag} {a : Addr} {xs : List V} {g : TG} {tb : TS} {D : Ends} {σ : St} {H : Hp} (Pv : Nat → St → Hp → Prop) (h0 : Pv 0 σ H) (hl : ∀ i σ H, Pv i σ H → SqL K H a xs)
    (hs : ∀ (i : Nat) x t σ H, xs[i]? = some x → Pv i σ H → H t = none → g (.ref t) σ (upd H t (.tup [.int i, x])) fun σ2 H2 => tb { D with nx := Pv (i + 1), ct := Pv (i + 1), bk := D.nx } σ2 H2) (hd : ∀ σ H, Pv xs.length σ H → D.nx σ H) :
    ∃ W : Nat → Nat → St → Hp → Prop, (∃ m, W 0 m σ H) ∧ ∀ i m σ H, W i m σ H →
      ((Ite K a xs.length).stop i H ∧ D.nx σ H) ∨ ((Ite K a xs.length).go i H ∧ ∃ N : St → Hp → Prop, (∀ σ' H', N σ' H' → ∃ m', m' < m ∧ W (i + 1) m' σ' H') ∧ ∀ x H', (Ite K a xs.length).yld i H x H' → g x σ H' fun σ2 H2 => tb { D with nx := N, ct := N, bk := D.nx } σ2 H2) := by
  refine ⟨fun i m σ H => m = xs.length - i ∧ i ≤ xs.length ∧ Pv i σ H, ⟨_, rfl, Nat.zero_le _, h0⟩, ?_⟩
  rintro i m σ H ⟨rfl, hi, p⟩
  have q1 := hl i σ H p
  by_cases hlt : i < xs.length
  · refine .inr ⟨⟨xs, xs[i], q1, rfl, List.getElem?_eq_getElem hlt⟩, Pv (i + 1), fun σ' H' p' => ⟨_, by omega, rfl, hlt, p'⟩, fun v H3 ⟨t, ht, hv, hy⟩ => ?_⟩
    have e := hy xs _ q1 (List.getElem?_eq_getElem hlt)
    subst hv e
    exact hs i _ t σ H (List.getElem?_eq_getElem hlt) p ht
  · have e : i = xs.length := by omega
    subst e
    exact .inl ⟨⟨rfl, xs, q1, rfl⟩, hd σ H p⟩
end L2
namespace L2
open PySem PySem.Spec PyProof.Rows
theorem comp_rangeG {lo : Int} {n : Nat} {acc : Addr} {own : Nat} {ix : List Nat} {g : TG} {te : TE} {σ : St} {H1 : Hp} {Q : VK} (Pr : Nat → V → Prop) (hn : H1 acc = none) (hz : n ≤ sizeLine)
    (step : ∀ (i : Nat) (H : Hp) (R : VK), i < n → Same H1 H → (∀ v H', Same H H' → Pr i v → R v H') → g (.int (lo + i)) (blockSt own ix σ) H fun σ4 H4 => σ4.drop own = ix.map (fun i => (σ[i]?).getD none) ∧ te σ4 H4 R)
    (hd : ∀ ys H', Same H1 H' → H' acc = some (.lst ys) → ys.length = n → (∀ i v, ys[i]? = some v → Pr i v) → Q (.ref acc) H') :
    CompGo (Itr lo n) own ix g tNoTest te σ H1 acc Q := by
  refine ⟨fun i m ys H => m = n - i ∧ i ≤ n ∧ ys.length = i ∧ (∀ j v, ys[j]? = some v → Pr j v) ∧ Same H1 H ∧ H acc = some (.lst ys), ⟨n, by simp, Nat.zero_le _, rfl, fun j v h => by simp at h, Same.new hn, upd_same⟩, ?_⟩
  rintro i m ys H ⟨rfl, hi, hl, pr, sm, ha⟩
  refine ⟨ha, ?_⟩
  by_cases hlt : i < n
  · refine .inr ⟨hlt, by omega, fun x H3 y => ?_⟩
    obtain ⟨e, y⟩ := y
    subst e y
    refine step i _ _ hlt sm fun v H' s' pv => ⟨s' _ _ ha, n - (i + 1), by omega, rfl, hlt, by rw [List.length_append, hl]; rfl, fun j u hj => ?_, (sm.trans s').wr hn, upd_same⟩
    by_cases hji : j < ys.length
    · rw [List.getElem?_append_left hji] at hj
      exact pr j u hj
    · have hj2 := (List.getElem?_eq_some_iff.mp hj).1
      rw [List.length_append, List.length_singleton] at hj2
      have ej : j = i := by omega
      subst ej
      rw [List.getElem?_append_right (by omega), hl, Nat.sub_self] at hj
      have : v = u := by simpa using hj
      subst this
      exact pv
  · have e : i = n := by omega
    subst e
    exact .inl ⟨Nat.le_refl _, hd ys H sm ha hl pr⟩
theorem comp_listG {K : PySem.W.Frag} {a acc : Addr} {xs : List V} {own : Nat} {ix : List Nat} {g : TG} {te : TE} {σ : St} {H1 : Hp} {Q : VK} (Pr : Nat → V → Hp → Prop) (hmono : ∀ i v H H', Same H H' → Pr i v H → Pr i v H') (hacc : ∀ i v H o, H acc = some o → ∀ o', Pr i v H → Pr i v (upd H acc o'))
    (hq : SqL K H1 a xs) (hn : H1 acc = none) (hz : xs.length ≤ sizeLine)
    (step : ∀ (i : Nat) (x : V) (H : Hp) (R : VK), xs[i]? = some x → Same H1 H → (∀ v H', Same H H' → Pr i v H' → R v H') → g x (blockSt own ix σ) H fun σ4 H4 => σ4.drop own = ix.map (fun i => (σ[i]?).getD none) ∧ te σ4 H4 R)
    (hd : ∀ ys H', Same H1 H' → H' acc = some (.lst ys) → ys.length = xs.length → (∀ i v, ys[i]? = some v → Pr i v H') → Q (.ref acc) H') :
    CompGo (Itl K a) own ix g tNoTest te σ H1 acc Q := by
  refine ⟨fun i m ys H => m = xs.length - i ∧ i ≤ xs.length ∧ ys.length = i ∧ (∀ j v, ys[j]? = some v → Pr j v H) ∧ Same H1 H ∧ H acc = some (.lst ys), ⟨xs.length, by simp, Nat.zero_le _, rfl, fun j v h => by simp at h, Same.new hn, upd_same⟩, ?_⟩
  rintro i m ys H ⟨rfl, hi, hl, pr, sm, ha⟩
  refine ⟨ha, ?_⟩
  have q := sm.seq hq
  by_cases hlt : i < xs.length
  · refine .inr ⟨⟨xs, xs[i], q, by simp [hlt]⟩, by omega, fun x H3 y => ?_⟩
    obtain ⟨e, y⟩ := y
    subst e
    refine step i x _ _ (y xs q) sm fun v H' s' pv => ⟨s' _ _ ha, xs.length - (i + 1), by omega, rfl, hlt, by rw [List.length_append, hl]; rfl, fun j u hj => ?_, (sm.trans s').wr hn, upd_same⟩
    by_cases hji : j < ys.length
    · rw [List.getElem?_append_left hji] at hj
      exact hacc j u H' _ (s' _ _ ha) _ (hmono j u _ _ s' (pr j u hj))
    · have hj2 := (List.getElem?_eq_some_iff.mp hj).1
      rw [List.length_append, List.length_singleton] at hj2
      have ej : j = i := by omega
      subst ej
      rw [List.getElem?_append_right (by omega), hl, Nat.sub_self] at hj
      have : v = u := by simpa using hj
      subst this
      exact hacc j v H' _ (s' _ _ ha) _ pv
  · have e : i = xs.length := by omega
    subst e
    exact .inl ⟨⟨xs, q, Nat.le_refl _⟩, hd ys H sm ha hl pr⟩
section
variable {X : Cx}
end
end L2
namespace L2
open PySem PySem.Spec PyProof.Rows PySem.W PySem.Calls
section
variable {prog : Program} {w : World} {A : Around} {E : Value → Shared → Prop} {s : Shared} {K : Frag} {x C : Addr} {ox : Obj}
structure ExcLook (K : Frag) (C : Addr) : Prop where
  ga : findIn K (.ref C) "__getattribute__" = some (some (.builtin "BaseException.__getattribute__"))
  hk : findIn K (.ref C) "__getattr__" = some none
  cl : findIn K (.ref C) "__class__" = some (some (.builtin "object.__class__"))
  gt : specialIn K (.builtin "object.__class__") "__get__" = some (some (.builtin "getset_descriptor.__get__"))
  tk : takesIn K (.builtin "object.__class__") = some true
  mo : mroIn K C (.type "object") = some true
  mb : mroIn K C (.type "BaseException") = some true
end
section
variable {K : Frag} {x C : Addr}
end
inductive XTy (K : PySem.W.Frag) (H : Hp) : V → Value → Prop where
  | of {x : V} {t : Value} (h : TyOf K H x t) : XTy K H x t
  | exc {a C : Addr} (L : ExcLook K C) (h : H a = some (excIs a (.ref C))) : XTy K H (.ref a) (.ref C)
section
variable {X : Cx}
end
noncomputable def PassesG (X : Cx) (G : St → Value → Hp → Prop) : Prop := ∀ (pins : List (Addr × Obj)) (σ : St) (H : Hp) (s : Shared) (e : Value) (s' : Shared), Inv X pins σ H s → CXE X.prog X.w X.stack H s (fun C _ H' => G σ C H') e s' → X.xe e s'
noncomputable def tFnG (sp : Sp) (G : St → Value → Hp → Prop) (t : TA) : TE := fun σ H Q => t σ H fun vs H1 => sp vs H1 Q fun C _ H' => G σ C H'
section
variable {X : Cx} {k : Nat} {x : Str} {ps : List Str} {sp : Sp} {p pos : Pos} {e : Expr} {es : List Expr} {t : TA} {G : St → Value → Hp → Prop}
theorem pe_fnG (F : FnE X.prog X.w X.K X.mg X.base k x ps sp) (hr : Room k X.A) (hg : Gl X x) (hx : PassesG X G) (ha : PA X (e :: es) t) (hdb : (x == ("__debug__" : Str)) = false := by decide)
    (he : starEach (e :: es) X.env = (false, eval e X.env) :: starEach es X.env := by rfl) (hpl : (backTo pos (starEach es X.env)).any (·.1) = false := by rfl) :
    PE X (.Call (.Name x p) (e :: es) [] pos) (tFnG sp G t) := by
  obtain ⟨f, fd, F, kp, b, m⟩ := F
  intro pins s σ H Q I h
  refine wpAny_Call_Name_kw (ld_glob I hg m ?_ hdb)
  refine PySem.W.callWith_K (h₀ := X.base) I.ok.mod.kin kp (thn (ha pos pins s σ H _ I h) fun us s1 ⟨vs, H1, I1, r, q⟩ => ⟨I1.kIn, ?_⟩) he hpl
  have hl : us.length = ps.length := by rw [← r.length]; exact F.len _ _ _ _ q
  have bb := b s1 us I1.kIn (by rw [List.append_nil]; exact hl)
  rw [List.append_nil] at bb
  refine wpAny_call (codeAny_mono (F.run X.A X.stack s1 H1 ⟨us, []⟩ us vs Q _ hr I1.env0 bb r q) fun rr s' hq => ?_)
  cases rr with
  | error e => exact hx pins σ H1 s1 e s' I1 hq
  | ok fl =>
    cases fl with
    | ret u => exact I1.after hq
    | next => exact False.elim hq
    | brk => exact False.elim hq
    | cont => exact False.elim hq
end
theorem passesE {P : Program} {w : World} {K : PySem.W.Frag} {mg : Str → Option Value} {base : Heap} {N : List Str} {qual : Str} {scope : Scope} {f : Addr} {cdv : Value} {A : Around} {outer : List Env} {s : Shared} {H : Hp} {E : XK} :
    PassesG (cxOf (CXE P w) P w K mg base N qual scope f cdv A outer s H E) (fun _ C H' => E C none H') :=
  fun _ _ _ _ _ _ I h => xe_pass (x := 0) I h fun _ _ z => z
end L2
namespace L2
open PySem PySem.Spec PyProof.Rows
end L2
namespace L2
open PySem PySem.Spec PyProof.Rows
end L2
namespace L2
open PySem PySem.Spec PyProof.Rows
end L2
namespace L2
open PySem PySem.Spec PyProof.Rows
section
variable {X : Cx}
variable {a b : Expr} {ta tb : TE} {pos : Pos}
variable {tA tB' : TT} {rest : List Expr}
end
end L2
namespace L2
open PySem PySem.Spec PyProof.Rows
end L2
namespace L2
open PySem PySem.Spec PyProof.Rows
end L2
namespace L2
open PySem PySem.Spec PyProof.Rows
end L2
namespace L2
open PySem PySem.Spec PyProof.Rows
end L2
namespace L2
open PySem PySem.Spec PyProof.Rows
section
variable {X : Cx} {CX : CXT} {k : Nat} {f C : Addr} {fd : FuncData} {ps ks : List Str} {sp : Sp} {E : XK} {x m : Str} {p pos apos kpos : Pos} {e o : Expr} {es : List Expr} {kws : List Keyword} {te ta : TE} {t tk : TA} {nm : Option Str}
variable {g : List Value → List Value → List Value} {gV : List V → List V → List V}
end
end L2
namespace L2
open PySem PySem.Spec PyProof.Rows
end L2
namespace L2
open PySem PySem.Spec PyProof.Rows
section
variable {κ : Type} [DecidableEq κ]
noncomputable def valV (kvs : List (κ × V)) (k : κ) : Option V := (kvs.find? fun kv => decide (kv.1 = k)).map (·.2)
noncomputable def putK (kvs : List (κ × V)) (k : κ) (v : V) : List (κ × V) :=
  if (kvs.any fun kv => decide (kv.1 = k)) = true then kvs.map (fun kv => if kv.1 = k then (kv.1, v) else kv) else kvs ++ [(k, v)]
theorem valV_pos {p : κ × V} {r : List (κ × V)} {k : κ} (e : p.1 = k) : valV (p :: r) k = some p.2 := by simp [valV, List.find?_cons, e]
theorem valV_neg {p : κ × V} {r : List (κ × V)} {k : κ} (e : ¬ p.1 = k) : valV (p :: r) k = valV r k := by simp [valV, List.find?_cons, e]
theorem valV_any (k : κ) : ∀ kvs : List (κ × V), (kvs.any fun kv => decide (kv.1 = k)) = (valV kvs k).isSome
  | [] => rfl
  | p :: r => by
    rw [List.any_cons]
    by_cases e : p.1 = k
    · simp only [valV_pos e, decide_eq_true e, Bool.true_or, Option.isSome_some]
    · rw [valV_neg e, decide_eq_false e, Bool.false_or]; exact valV_any k r
theorem valV_map (k j : κ) (y : V) : ∀ kvs : List (κ × V), valV (kvs.map fun kv => if kv.1 = k then (kv.1, y) else kv) j = (valV kvs j).map fun x => if j = k then y else x
  | [] => rfl
  | p :: r => by
    have ih := valV_map k j y r
    rw [List.map_cons]
    by_cases h : p.1 = k
    · rw [if_pos h]
      by_cases e : p.1 = j
      · rw [valV_pos (p := (p.1, y)) e, valV_pos e, Option.map_some, if_pos (e.symm.trans h)]
      · rw [valV_neg (p := (p.1, y)) e, valV_neg e, ih]
    · rw [if_neg h]
      by_cases e : p.1 = j
      · rw [valV_pos (p := p) e, valV_pos e, Option.map_some, if_neg (fun z => h (e.trans z))]
      · rw [valV_neg (p := p) e, valV_neg e, ih]
theorem valV_snoc (k j : κ) (y : V) : ∀ kvs : List (κ × V), valV kvs k = none → valV (kvs ++ [(k, y)]) j = if j = k then some y else valV kvs j
  | [], _ => by
    by_cases e : k = j
    · rw [if_pos e.symm]; exact valV_pos (p := (k, y)) e
    · rw [if_neg (fun z => e z.symm)]; exact valV_neg (p := (k, y)) e
  | p :: r, hn => by
    rw [List.cons_append]
    have hk : ¬ p.1 = k := fun z => by rw [valV_pos z] at hn; cases hn
    rw [valV_neg hk] at hn
    have ih := valV_snoc k j y r hn
    by_cases e : p.1 = j
    · rw [valV_pos e, valV_pos e, if_neg (fun z => hk (e.trans z))]
    · rw [valV_neg e, valV_neg e, ih]
theorem valV_put (kvs : List (κ × V)) (k j : κ) (y : V) : valV (putK kvs k y) j = if j = k then some y else valV kvs j := by
  unfold putK
  by_cases a : (kvs.any fun kv => decide (kv.1 = k)) = true
  · rw [if_pos a, valV_map]
    rw [valV_any] at a
    by_cases e : j = k
    · obtain ⟨x, hx⟩ := Option.isSome_iff_exists.mp a
      rw [if_pos e, e, hx, Option.map_some, if_pos rfl]
    · rw [if_neg e]
      cases valV kvs j with
      | none => rfl
      | some x => rw [Option.map_some, if_neg e]
  · rw [if_neg a]
    refine valV_snoc k j y kvs ?_
    rw [valV_any] at a
    cases q : valV kvs k with
    | none => rfl
    | some x => rw [q] at a; exact (a rfl).elim
theorem length_putK (kvs : List (κ × V)) (k : κ) (v : V) : (putK kvs k v).length ≤ kvs.length + 1 := by
  unfold putK
  split
  · rw [List.length_map]; omega
  · rw [List.length_append, List.length_cons, List.length_nil]; omega
theorem putK_new {kvs : List (κ × V)} {k : κ} (v : V) (h : valV kvs k = none) : putK kvs k v = kvs ++ [(k, v)] := by
  unfold putK
  rw [valV_any, h]
  exact if_neg (by decide)
theorem RelO.getD {o : Option V} {u : Option Value} {d : V} {d' : Value} (r : RelO o u) (rd : RelV d d') : RelV (o.getD d) (u.getD d') := by
  cases o with
  | none => cases u with
    | none => exact rd
    | some _ => exact (show False from r).elim
  | some _ => cases u with
    | none => exact (show False from r).elim
    | some _ => exact r
theorem KV.val {kvs : List (κ × V)} {vs : List (κ × Value)} (r : KV kvs vs) (k : κ) : RelO (valV kvs k) (valueAt vs k) := by
  unfold KV at r
  induction r with
  | nil => exact True.intro
  | @cons p q ps qs h t ih =>
    obtain ⟨h1, h2⟩ := h
    by_cases e : p.1 = k
    · have e' : q.1 = k := h1.symm.trans e
      have b : valueAt (q :: qs) k = some q.2 := by simp [valueAt, List.find?_cons, e']
      rw [valV_pos e, b]; exact h2
    · have e' : ¬ q.1 = k := fun z => e (h1.trans z)
      have b : valueAt (q :: qs) k = valueAt qs k := by simp [valueAt, List.find?_cons, e']
      rw [valV_neg e, b]; exact ih
theorem KV.any {kvs : List (κ × V)} {vs : List (κ × Value)} (r : KV kvs vs) (k : κ) : (kvs.any fun kv => decide (kv.1 = k)) = vs.any fun kv => decide (kv.1 = k) := by
  unfold KV at r
  induction r with
  | nil => rfl
  | cons h t ih => rw [List.any_cons, List.any_cons, ih, h.1]
theorem KV.repl {kvs : List (κ × V)} {vs : List (κ × Value)} (r : KV kvs vs) (k : κ) {y : V} {u : Value} (ry : RelV y u) :
    KV (kvs.map fun kv => if kv.1 = k then (kv.1, y) else kv) (vs.map fun kv => if kv.1 = k then (kv.1, u) else kv) := by
  unfold KV at r ⊢
  induction r with
  | nil => exact .nil
  | @cons p q ps qs h t ih =>
    rw [List.map_cons, List.map_cons]
    refine .cons ?_ ih
    obtain ⟨h1, h2⟩ := h
    by_cases e : p.1 = k
    · rw [if_pos e, if_pos (h1.symm.trans e)]; exact ⟨h1, ry⟩
    · rw [if_neg e, if_neg (fun z => e (h1.trans z))]; exact ⟨h1, h2⟩
theorem KV.put {kvs : List (κ × V)} {vs : List (κ × Value)} (r : KV kvs vs) (k : κ) {y : V} {u : Value} (ry : RelV y u) : KV (putK kvs k y) (stored vs k u) := by
  unfold putK stored
  rw [r.any k]
  by_cases e : (vs.any fun kv => decide (kv.1 = k)) = true
  · rw [if_pos e, if_pos e]; exact r.repl k ry
  · rw [if_neg e, if_neg e]; exact Paired.snoc r ⟨rfl, ry⟩
theorem KV.length {kvs : List (κ × V)} {vs : List (κ × Value)} (r : KV kvs vs) : kvs.length = vs.length := Paired.length r
end
theorem kV_is {P : Program} {w : World} {k : Key} {u : Value} (r : RelV (kV k) u) : (mixKind P w).is k u = true := by
  cases k with
  | inl i => obtain ⟨t, e⟩ := (show ∃ t, u = Value.int i t from r); subst e; exact mixKind_int P w i t
  | inr x => obtain ⟨t, e⟩ := (show ∃ t, u = Value.str x t from r); subst e; exact mixKind_str P w x t
theorem items_are {P : Program} {w : World} : ∀ {ks : List Key} {us : List Value}, Vals (ks.map kV) us → ItemsAre (mixKind P w) ks us
  | [], _, r => by rw [List.map_nil] at r; cases r; exact .nil
  | k :: ks, _, r => by
    rw [List.map_cons] at r
    cases r with
    | cons h t => exact .cons (kV_is h) (items_are t)
abbrev KT (H : Hp) : List (List Key × V) → List (List Key × Addr × Value) → Prop := Paired fun p q => p.1 = q.1 ∧ H q.2.1 = some (.tup (p.1.map kV)) ∧ RelV p.2 q.2.2
theorem KT.val {H : Hp} {kvs : List (List Key × V)} {xs : List (List Key × Addr × Value)} (r : KT H kvs xs) (k : List Key) : RelO (valV kvs k) ((atKey xs k).map (·.2)) := by
  induction r with
  | nil => exact True.intro
  | @cons p q ps qs h t ih =>
    obtain ⟨h1, _, h2⟩ := h
    by_cases e : p.1 = k
    · have e' : q.1 = k := h1.symm.trans e
      have b : atKey (q :: qs) k = some q.2 := by simp [atKey, List.find?_cons, e']
      rw [valV_pos e, b]; exact h2
    · have e' : ¬ q.1 = k := fun z => e (h1.trans z)
      have b : atKey (q :: qs) k = atKey qs k := by simp [atKey, List.find?_cons, e']
      rw [valV_neg e, b]; exact ih
section
variable {P : Program} {w : World} {H : Hp} {h : Heap} {a : Addr}
theorem rd_of {u : HO} (ok : HOk P w H h) (e : Rd H a u) : ObjOk P w H h a u := e.ok ok
theorem dk_rd {kvs : List (Key × V)} (ok : HOk P w H h) (e : Rd H a (.dK kvs)) : kvs.length ≤ sizeLine ∧ (a == sysModules) = false ∧ ∃ vs, KV kvs vs ∧ h.DictOf (mixKind P w) a vs :=
  show ObjOk P w H h a (.dK kvs) from rd_of ok e
theorem dk_of {kvs : List (Key × V)} (ok : HOk P w H h) (e : H a = some (.dK kvs)) : kvs.length ≤ sizeLine ∧ (a == sysModules) = false ∧ ∃ vs, KV kvs vs ∧ h.DictOf (mixKind P w) a vs := dk_rd ok (.inl e)
theorem key_of {ks : List Key} (ok : HOk P w H h) (e : H a = some (.tup (ks.map kV))) : (tupleKind (mixKind P w)).is h ks a := by
  obtain ⟨_, its, r, o, h1, h2, n, h3⟩ := (show ObjOk P w H h a (.tup (ks.map kV)) from ok a _ e)
  exact ⟨o, its.toArray, n, h1, h2, h3, by simpa using items_are r⟩
theorem dt_rd {kvs : List (List Key × V)} (ok : HOk P w H h) (e : Rd H a (.dT kvs)) : kvs.length ≤ sizeLine ∧ (a == sysModules) = false ∧
    ∃ xs, KT H kvs xs ∧ h.DictOfH (tupleKind (mixKind P w)) a xs := by
  obtain ⟨z, y, xs, r, o, es, ep, h1, h2, h3, h4, h5⟩ := (show ObjOk P w H h a (.dT kvs) from rd_of ok e)
  refine ⟨z, y, xs, r, o, es, ep, h1, h2, h3, h4, fun x hx => ?_, h5⟩
  have all : ∀ {l : List (List Key × V)} {m : List (List Key × Addr × Value)}, KT H l m → ∀ x ∈ m, (tupleKind (mixKind P w)).is h x.1 x.2.1 := by
    intro l m q
    induction q with
    | nil => intro x hx; exact nomatch hx
    | @cons p q ps qs hq t ih =>
      intro x hx
      rcases List.mem_cons.mp hx with e | hx
      · subst e
        exact key_of ok (by rw [← hq.1]; exact hq.2.1)
      · exact ih x hx
  exact all r x hx
end
noncomputable def DGet (H : Hp) (a : Addr) (y : V) (r : Option V) : Prop :=
  (∃ kvs k, Rd H a (.dK kvs) ∧ y = kV k ∧ r = valV kvs k) ∨ ∃ kvs k b, Rd H a (.dT kvs) ∧ y = .ref b ∧ H b = some (.tup (k.map kV)) ∧ r = valV kvs k
theorem DGet.k {H : Hp} {a : Addr} {kvs : List (Key × V)} {k : Key} (e : H a = some (.dK kvs)) : DGet H a (kV k) (valV kvs k) := .inl ⟨kvs, k, .inl e, rfl, rfl⟩
section
variable {X : Cx} {pins : List (Addr × Obj)} {σ : St} {H : Hp} {s : Shared} {a : Addr} {y v : V} {u r : Value} {o : Option V} {A : Around} {E : Value → Shared → Prop}
theorem Inv.big (I : Inv X pins σ H s) : sysModules < s.heap.objs.size := by
  have h : mainGlobals < s.heap.objs.size := (I.mod.glob.keeps I.bk).lt
  exact Nat.lt_trans (by decide) h
theorem d_write {h' : Heap} {t' : Nat} {ob : HO} (I : Inv X pins σ H s) (mu : Mut (H a)) (hs : Heap.SameBut a s.heap h') (he : ∃ q, h'.get? a = some q) (new : ObjOk X.prog X.w (upd H a ob) h' a ob) :
    Inv X pins σ (upd H a ob) { s with heap := h', toks := t' } :=
  I.write (x := a) (e := a) mu (.inl rfl) (fun b q hb z => (hs.2 b hb).trans z) he new
theorem dk_new {P : Program} {w : World} {H' : Hp} {h' : Heap} {kvs : List (Key × V)} {vs : List (Key × Value)} (z : kvs.length ≤ sizeLine) (hd : (a == sysModules) = false) (rel : KV kvs vs) (dd : h'.DictOf (mixKind P w) a vs) :
    ObjOk P w H' h' a (.dK kvs) := ⟨z, hd, vs, rel, dd⟩
end
section
variable {X : Cx} {pins : List (Addr × Obj)} {σ : St} {H : Hp} {s : Shared} {a : Addr} {kvs : List (Key × V)} {k : Key} {u : Value} {A : Around} {E : Value → Shared → Prop}
theorem d_len {Q : Value → Shared → Prop} (I : Inv X pins σ H s) (e : Rd H a (.dK kvs)) (h : ∀ t s', Inv X pins σ H s' → Q (.int kvs.length t) s') : wpAny (model X.prog X.w) A (call (.builtin "len") [.ref a]) Q E s := by
  obtain ⟨z, hd, vs, rel, dd⟩ := dk_rd I.hok e
  refine call_len_dict hd dd (by rw [← rel.length]; rw [sizeLine_eq] at z; omega) ?_
  rw [← rel.length]
  exact h _ _ (I.tok _)
end
section
variable {X : Cx} {o i e value : Expr} {pos pos' tpos : Pos} {td ty tv : TE}
end
theorem dk_empty {P : Program} {w : World} {H : Hp} (h : Heap) (hb : sysModules < h.objs.size) : ObjOk P w H (h.push { cls := .type "dict", data := .dict #[] }) h.objs.size (.dK []) :=
  ⟨Nat.zero_le _, beq_eq_false_iff_ne.mpr (Ne.symm (Nat.ne_of_lt hb)), [], .nil, Heap.DictOf.new h⟩
noncomputable def tDNewK : TE := fun _ H Q => ∀ p, H p = none → Q (.ref p) (upd H p (.dK []))
section
variable {X : Cx} {pos : Pos}
theorem pe_dnewK : PE X (.Dict [] [] pos) tDNewK := fun pins s σ H Q I h =>
  wpAny_Dict_empty ⟨.ref s.heap.objs.size, _, I.laid (a := s.heap.objs.size) (o := .dK []) (t' := s.toks) (fun _ _ q => Heap.get?_push_of_some _ q) (Nat.le_refl _) (dk_empty s.heap I.big), rfl, h _ (I.hok.fresh (Nat.le_refl _))⟩
end
structure M1 (X : Cx) (o : Expr) (m : Str) (apos : Pos) (e : Expr) (cpos : Pos) : Prop where
  base : attributeBase o m X.env (eval o X.env) = eval o X.env
  few : ((backTo cpos (starEach [e] X.env)).all (fun x => !x.1) && (backToKw cpos (keywordEach [] X.env)).all (fun x => x.1.isSome)
    && decide (([e] : List Expr).length + ([] : List Keyword).length + (if ([] : List Keyword).isEmpty then 0 else 1) < 30)) = true
  line : (apos.endLine == cpos.line) = true
  trees : backTo cpos (starEach [e] X.env) = [(false, eval e X.env)]
structure M2 (X : Cx) (o : Expr) (m : Str) (apos : Pos) (e f : Expr) (cpos : Pos) : Prop where
  base : attributeBase o m X.env (eval o X.env) = eval o X.env
  few : ((backTo cpos (starEach [e, f] X.env)).all (fun x => !x.1) && (backToKw cpos (keywordEach [] X.env)).all (fun x => x.1.isSome)
    && decide (([e, f] : List Expr).length + ([] : List Keyword).length + (if ([] : List Keyword).isEmpty then 0 else 1) < 30)) = true
  line : (apos.endLine == cpos.line) = true
  trees : backTo cpos (starEach [e, f] X.env) = [(false, eval e X.env), (false, eval f X.env)]
noncomputable def IsD (H : Hp) (a : Addr) : Prop := (∃ kvs, Rd H a (.dK kvs)) ∨ ∃ kvs, Rd H a (.dT kvs)
theorem isD_at {X : Cx} {pins : List (Addr × Obj)} {σ : St} {H : Hp} {s : Shared} {a : Addr} (I : Inv X pins σ H s) (d : IsD H a) :
    s.TypeIs (.ref a) "dict" ∧ (∀ b, Value.ref a = .ref b → ∃ ob, s.heap.get? b = some ob ∧ ob.dict = none) ∧ (a == sysModules) = false := by
  rcases d with ⟨kvs, e⟩ | ⟨kvs, e⟩
  · obtain ⟨_, hd, vs, _, dd⟩ := dk_rd I.hok e
    refine ⟨dd.typeIs, fun b q => ?_, hd⟩
    cases q
    obtain ⟨ob, _, _, h1, h2, _⟩ := dd
    exact ⟨ob, h1, h2.2.1⟩
  · obtain ⟨_, hd, xs, _, dd⟩ := dt_rd I.hok e
    refine ⟨dd.typeIs, fun b q => ?_, hd⟩
    cases q
    obtain ⟨ob, _, _, h1, h2, _⟩ := dd
    exact ⟨ob, h1, h2.2.1⟩
section
variable {X : Cx} {pins : List (Addr × Obj)} {σ : St} {H : Hp} {s : Shared} {a : Addr} {y d : V} {u r : Value} {o : Option V} {A : Around} {E : Value → Shared → Prop}
theorem d_get2 {Q : Value → Shared → Prop} (hu : A.units + 1 < cLine) (I : Inv X pins σ H s) (g : DGet H a y o) (ry : RelV y u) (rd : RelV d r) (h : ∀ w' s', Inv X pins σ H s' → RelV (o.getD d) w' → Q w' s') :
    wpAny (model X.prog X.w) A (call (.builtin "dict.get") [.ref a, u, r]) Q E s := by
  rcases g with ⟨kvs, k, e, ey, l⟩ | ⟨kvs, k, b, e, ey, eb, l⟩
  · subst ey
    obtain ⟨z, hd, vs, rel, dd⟩ := dk_rd I.hok e
    refine call_meetsIn PySem.F.slot_dict_get dd.typeIs PySem.F.entry_dict_get (PySem.F.args_dict_get_3 _ _ _) (meets_dict_get_default (mixKind X.prog X.w) a (kV_is ry) hd r) ⟨_, dd.mapOf, h _ _ (I.tok _) ?_⟩
    rw [l]
    exact (rel.val k).getD rd
  · subst ey
    cases (show u = Value.ref b from ry)
    obtain ⟨z, hd, xs, rel, dd⟩ := dt_rd I.hok e
    refine call_meetsIn PySem.F.slot_dict_get dd.typeIs PySem.F.entry_dict_get (PySem.F.args_dict_get_3 _ _ _) (meetsH_dict_get_default (tupleKind (mixKind X.prog X.w)) a b hd r) ⟨tupleKind_room_in1 hu, k, xs, key_of I.hok eb, dd, h _ _ (I.tok _) ?_⟩
    rw [l]
    exact (rel.val k).getD rd
end
noncomputable def tDGet2 (td ty tx : TE) : TE := fun σ H Q => td σ H fun x H1 => ∃ a, x = .ref a ∧ IsD H1 a ∧ ty σ H1 fun y H2 => tx σ H2 fun z H3 => ∃ o, DGet H3 a y o ∧ Q (o.getD z) H3
section
variable {X : Cx} {o e f : Expr} {apos cpos : Pos} {td ty tx : TE}
theorem pe_dget2 (hu : X.A.units + 1 < cLine) (ho : PE X o td) (he : PE X e ty) (hf : PE X f tx) (m : M2 X o "get" apos e f cpos) : PE X (.Call (.Attribute o "get" apos) [e, f] [] cpos) (tDGet2 td ty tx) := by
  intro pins s σ H Q I h
  refine wpAny_Call_method m.base m.few m.line PySem.F.plainAttrs_dict PySem.F.slot_dict_get PySem.F.type_dict_get (thn (ho pins s σ H _ I h) fun u s1 ⟨x, H1, I1, rx, a, ex, d, q1⟩ => ?_)
  subst ex
  obtain rfl : u = Value.ref a := rx
  obtain ⟨t1, t2, _⟩ := isD_at I1 d
  refine ⟨t1, t2, ?_⟩
  rw [m.trees]
  refine Calls.callWith_builtin rfl (Calls.evalArgs_plain (Calls.spliced_cons (thn (he pins s1 σ H1 _ I1 q1) fun iv s2 ⟨y, H2, I2, ry, q2⟩ =>
    Calls.spliced_cons (thn (hf pins s2 σ H2 _ I2 q2) fun fv s3 ⟨z, H3, I3, rz, ov, g, q3⟩ => Calls.spliced_nil ?_))))
  exact d_get2 hu I3 g ry rz fun w' s4 I4 rw' => ⟨_, H3, I4, rw', q3⟩
end
section
variable {X : Cx} {pins : List (Addr × Obj)} {σ : St} {H : Hp} {s : Shared} {a : Addr} {kvs : List (Key × V)} {A : Around} {E : Value → Shared → Prop}
end
section
variable {X : Cx} {pins : List (Addr × Obj)} {σ : St} {H : Hp} {s : Shared} {a : Addr} {y : V} {u : Value} {A : Around} {E : Value → Shared → Prop}
end
end L2
namespace Att
open PySem PySem.W PySem.Calls PyProof.Rows
end Att
namespace L2
open PySem PySem.Spec PyProof.Rows
end L2
namespace L2
open PySem PySem.Spec PyProof.Rows
end L2
namespace L2
open PySem PySem.Spec PyProof.Rows
section
variable {X : Cx}
theorem call_lenD : CallR X (.builtin "len") (fun xs H Q => ∃ a kvs, xs = [V.ref a] ∧ H a = some (.dK kvs) ∧ Q (.int kvs.length) H) := by
  intro pins s σ H xs us Q I r h
  obtain ⟨a, kvs, rfl, ha, q⟩ := h
  obtain ⟨u, rfl, ru⟩ := vals1 r
  cases ru
  exact d_len I (.inl ha) fun t s' I' => ⟨.int kvs.length, H, I', ⟨t, rfl⟩, q⟩
end
section
variable {κ : Type} [DecidableEq κ]
end
end L2
namespace L2
open PySem PySem.Spec PyProof.Rows
structure FunD (K : PySem.W.Frag) (x qual : Str) (st : Stmt) (f : Addr) (fd : FuncData) : Prop where
  ex : ∃ (oc : Value) (od : Option Addr) (dV kV doc pm : Value) (an : Option Addr) (cdv ct : Value) (osl : Array (Option Value)), fd = PySem.W.fnOf x qual (defArgs st) (defBody st) (defScope st) dV kV doc pm an cdv ct ∧ K.lookup f = some ⟨oc, od, .func fd, osl⟩ ∧ PySem.W.codeIn K cdv qual = true
section
variable {P : Program} {w : World} {K : PySem.W.Frag} {mg : Str → Option Value} {base : Heap}
theorem FunD.ok {x qual : Str} {st : Stmt} {f : Addr} {fd : FuncData} {N ps : List Str} {k : Nat} {sp : Sp} (F : FunD K x qual st f fd) (S : FnScope N ps (defScope st)) (len : ∀ vs H Q E, sp vs H Q E → vs.length = ps.length)
    (hbody : ∀ (cdv : Value) (A : Around) (outer : List Env) (s : Shared) (H : Hp) (vs : List V) (Q : VK) (E : XK), Room k (A.deeper (envOfC qual (defScope st) s.heap.objs.size f cdv)) → sp vs H Q E →
      ∃ t, PSs (cxOf CX0 P w K mg base N qual (defScope st) f cdv A outer s H E).nox (defBody st) t ∧ t { nx := fun _ H' => Q .non H', rt := Q } (start N vs) H) : FnOk P w K mg base CX0 (k + 1) f fd ps sp := by
  obtain ⟨oc, od, dV, kV, doc, pm, an, cdv, ct, osl, rfl, lk, hcd⟩ := F.ex
  refine fn_of lk hcd S len fun A outer s H vs Q E hr hsp => ?_
  obtain ⟨t, h, q⟩ := hbody cdv A outer s H vs Q E hr hsp
  exact ⟨t, fun pins s1 σ H1 D I h1 => wpAny_mono (h pins s1 σ H1 D (I.wish _) h1) (fun fl s2 x => by
    cases fl with
    | next => obtain ⟨σ', H', I', q⟩ := x; exact ⟨σ', H', I'.unwish, q⟩
    | brk => obtain ⟨σ', H', I', q⟩ := x; exact ⟨σ', H', I'.unwish, q⟩
    | cont => obtain ⟨σ', H', I', q⟩ := x; exact ⟨σ', H', I'.unwish, q⟩
    | ret u => obtain ⟨v, σ', H', I', r, q⟩ := x; exact ⟨v, σ', H', I'.unwish, r, q⟩) fun _ _ z => z.elim, q⟩
theorem FunD.okE {x qual : Str} {st : Stmt} {f : Addr} {fd : FuncData} {N ps : List Str} {k : Nat} {sp : Sp} (F : FunD K x qual st f fd) (S : FnScope N ps (defScope st)) (len : ∀ vs H Q E, sp vs H Q E → vs.length = ps.length)
    (hbody : ∀ (cdv : Value) (A : Around) (outer : List Env) (s : Shared) (H : Hp) (vs : List V) (Q : VK) (E : XK), Room k (A.deeper (envOfC qual (defScope st) s.heap.objs.size f cdv)) → sp vs H Q E →
      ∃ t, PSs (cxOf (CXE P w) P w K mg base N qual (defScope st) f cdv A outer s H E) (defBody st) t ∧ t { nx := fun _ H' => Q .non H', rt := Q } (start N vs) H) : FnOk P w K mg base (CXE P w) (k + 1) f fd ps sp := by
  obtain ⟨oc, od, dV, kV, doc, pm, an, cdv, ct, osl, rfl, lk, hcd⟩ := F.ex
  exact fn_of lk hcd S len fun A outer s H vs Q E hr hsp => hbody cdv A outer s H vs Q E hr hsp
theorem fund_mk {x qual : Str} {st : Stmt} {f : Addr} {oc : Value} {od an : Option Addr} {osl : Array (Option Value)} {dV kV doc pm cdv ct : Value} (l : K.lookup f = some ⟨oc, od, .func (PySem.W.fnOf x qual (defArgs st) (defBody st) (defScope st) dV kV doc pm an cdv ct), osl⟩)
    (c : PySem.W.codeIn K cdv qual = true) : FunD K x qual st f (PySem.W.fnOf x qual (defArgs st) (defBody st) (defScope st) dV kV doc pm an cdv ct) := ⟨⟨oc, od, dV, kV, doc, pm, an, cdv, ct, osl, rfl, l, c⟩⟩
end
noncomputable def DefM (K : PySem.W.Frag) (x qual : Str) (st : Stmt) (ps : List Str) (f : Addr) : Prop := ∃ fd, FunD K x qual st f fd ∧ Binds K fd ps []
noncomputable def MtX (CX : CXT) (P : Program) (w : World) (K : PySem.W.Frag) (mg : Str → Option Value) (base : Heap) (k : Nat) (C : Addr) (m : Str) (ps : List Str) (sp : Sp) : Prop :=
  ∃ f fd, FnOk P w K mg base CX k f fd ps sp ∧ Cls K C ∧ Meth K C m f ∧ Binds K fd ps []
abbrev Mt (P : Program) (w : World) (K : PySem.W.Frag) (mg : Str → Option Value) (base : Heap) (k : Nat) (C : Addr) (m : Str) (ps : List Str) (sp : Sp) : Prop := MtX CX0 P w K mg base k C m ps sp
noncomputable def MkX (CX : CXT) (P : Program) (w : World) (K : PySem.W.Frag) (mg : Str → Option Value) (base : Heap) (k : Nat) (C : Addr) (ps : List Str) (sp : Sp) : Prop :=
  ∃ f fd, FnOk P w K mg base CX k f fd ps sp ∧ Mk K C f ∧ Binds K fd ps []
noncomputable def tMt (C : Addr) (m : Str) (sp : Sp) (ta : TE) (t : TA) : TE := fun σ H Q => ta σ H fun x H1 => ∃ a dx fs, x = .ref a ∧ H1 a = some (.ins C dx fs) ∧ fs.lookup m = none ∧ t σ H1 fun vs H2 => sp (x :: vs) H2 Q E0
noncomputable def tMk (C : Addr) (sp : Sp) (t : TA) : TE := fun σ H Q => t σ H fun vs H1 => ∀ x dx, H1 x = none → H1 dx = none → dx ≠ x → sp (.ref x :: vs) (upd (upd H1 dx (.own x)) x (.ins C dx [])) (fun v H2 => v = .non ∧ Q (.ref x) H2) E0
section
variable {X : Cx} {CX : CXT} {k : Nat} {C : Addr} {x m : Str} {ps : List Str} {sp : Sp} {p pos apos : Pos} {e o : Expr} {es : List Expr} {ta : TE} {t : TA} {G : St → Value → Hp → Prop}
theorem run_mt {f a : Addr} {fd : FuncData} {pins : List (Addr × Obj)} {σ : St} {H : Hp} {s : Shared} {Q : VK} {E : XK} {us : List Value} {vs : List V} (F : FnOk X.prog X.w X.K X.mg X.base CX k f fd ps sp) (hr : Room k X.A) (b : Binds X.K fd ps [])
    (hx : ∀ e s', CX X.stack H s E e s' → X.xe e s') (I : Inv X pins σ H s) (r : Vals vs us) (h : sp (.ref a :: vs) H Q E) : wpAny (model X.prog X.w) X.A (call (.ref f) (.ref a :: us)) (EP X pins σ Q) X.xe s := by
  have r2 : Vals (V.ref a :: vs) (Value.ref a :: us) := .cons rfl r
  have hl : (Value.ref a :: us).length = ps.length := by rw [← r2.length]; exact F.len _ _ _ _ h
  have bb := b s (.ref a :: us) I.kIn (by rw [List.append_nil]; exact hl)
  rw [List.append_nil] at bb
  refine wpAny_call (codeAny_mono (F.run X.A X.stack s H ⟨.ref a :: us, []⟩ (.ref a :: us) (.ref a :: vs) Q E hr I.env0 bb r2 h) fun rr s' hq => ?_)
  cases rr with
  | error e => exact hx e s' hq
  | ok fl =>
    cases fl with
    | ret u => exact I.after hq
    | next => exact False.elim hq
    | brk => exact False.elim hq
    | cont => exact False.elim hq
theorem pe_mt {pl : Sem Bool} (he : PE X o ta) (F : Mt X.prog X.w X.K X.mg X.base k C m ps sp) (hr : Room k X.A) (ha : PA X (e :: es) t)
    (hst : starEach (e :: es) X.env = (false, eval e X.env) :: starEach es X.env := by rfl) (hpl : (backTo pos (starEach es X.env)).any (·.1) = false := by rfl)
    (ht : eval (.Call (.Attribute o m apos) (e :: es) [] pos) X.env = (do
      let ov ← eval o X.env
      standAt apos.atName
      let (f, first) ← holding [ov] (getMethod ov m pl)
      callWith pos f first (backTo pos (starEach (e :: es) X.env)) (backToKw pos (keywordEach [] X.env))) := by rfl) :
    PE X (.Call (.Attribute o m apos) (e :: es) [] pos) (tMt C m sp ta t) := by
  obtain ⟨f, fd, F, c, hm, b⟩ := F
  intro pins s σ H Q I h
  refine PySem.W.methodCall_KW (pl := pl) (thn (he pins s σ H _ I h) fun u s1 ⟨x, H1, I1, rx, a, dx, fs, ex, ea, l, q⟩ => ?_) ht
  subst ex
  obtain rfl : u = Value.ref a := rx
  refine getmeth_ok I1 ea c hm l ?_
  refine PySem.W.callWith_K (first := [.ref a]) (h₀ := X.base) I.ok.mod.kin hm.kp (thn (ha pos pins s1 σ H1 _ I1 q) fun us s2 ⟨vs, H2, I2, r, q2⟩ => ⟨I2.kIn, ?_⟩) hst hpl
  exact run_mt F hr b (fun _ _ z => z.elim) I2 r q2
theorem pe_mt0 {pl : Sem Bool} (he : PE X o ta) (F : Mt X.prog X.w X.K X.mg X.base k C m ps sp) (hr : Room k X.A)
    (ht : eval (.Call (.Attribute o m apos) [] [] pos) X.env = (do
      let ov ← eval o X.env
      standAt apos.atName
      let (f, first) ← holding [ov] (getMethod ov m pl)
      callWith pos f first (backTo pos (starEach [] X.env)) (backToKw pos (keywordEach [] X.env))) := by rfl) :
    PE X (.Call (.Attribute o m apos) [] [] pos) (tMt C m sp ta tNil) := by
  obtain ⟨f, fd, F, c, hm, b⟩ := F
  intro pins s σ H Q I h
  refine PySem.W.methodCall_KW (pl := pl) (thn (he pins s σ H _ I h) fun u s1 ⟨x, H1, I1, rx, a, dx, fs, ex, ea, l, q⟩ => ?_) ht
  subst ex
  obtain rfl : u = Value.ref a := rx
  refine getmeth_ok I1 ea c hm l ?_
  exact PySem.W.callWith_K0 (first := [.ref a]) I1.kIn hm.kp (run_mt (us := []) (vs := []) F hr b (fun _ _ z => z.elim) I1 .nil q)
noncomputable def tMt2 (C C' : Addr) (m : Str) (sp sp' : Sp) (ta : TE) (t : TA) : TE := fun σ H Q => ta σ H fun x H1 => ∃ a dx fs, x = .ref a ∧ fs.lookup m = none ∧ ((H1 a = some (.ins C dx fs) ∧ t σ H1 fun vs H2 => sp (x :: vs) H2 Q E0) ∨ (H1 a = some (.ins C' dx fs) ∧ t σ H1 fun vs H2 => sp' (x :: vs) H2 Q E0))
theorem pe_mt2 {pl : Sem Bool} {C' : Addr} {sp' : Sp} (he : PE X o ta) (F : Mt X.prog X.w X.K X.mg X.base k C m ps sp) (F' : Mt X.prog X.w X.K X.mg X.base k C' m ps sp') (hr : Room k X.A) (ha : PA X (e :: es) t)
    (hst : starEach (e :: es) X.env = (false, eval e X.env) :: starEach es X.env := by rfl) (hpl : (backTo pos (starEach es X.env)).any (·.1) = false := by rfl)
    (ht : eval (.Call (.Attribute o m apos) (e :: es) [] pos) X.env = (do
      let ov ← eval o X.env
      standAt apos.atName
      let (f, first) ← holding [ov] (getMethod ov m pl)
      callWith pos f first (backTo pos (starEach (e :: es) X.env)) (backToKw pos (keywordEach [] X.env))) := by rfl) :
    PE X (.Call (.Attribute o m apos) (e :: es) [] pos) (tMt2 C C' m sp sp' ta t) := by
  obtain ⟨f, fd, F, c, hm, b⟩ := F
  obtain ⟨f', fd', F', c', hm', b'⟩ := F'
  intro pins s σ H Q I h
  refine PySem.W.methodCall_KW (pl := pl) (thn (he pins s σ H _ I h) fun u s1 ⟨x, H1, I1, rx, a, dx, fs, ex, l, q⟩ => ?_) ht
  subst ex
  obtain rfl : u = Value.ref a := rx
  rcases q with ⟨ea, q⟩ | ⟨ea, q⟩
  · refine getmeth_ok I1 ea c hm l ?_
    refine PySem.W.callWith_K (first := [.ref a]) (h₀ := X.base) I.ok.mod.kin hm.kp (thn (ha pos pins s1 σ H1 _ I1 q) fun us s2 ⟨vs, H2, I2, r, q2⟩ => ⟨I2.kIn, ?_⟩) hst hpl
    exact run_mt F hr b (fun _ _ z => z.elim) I2 r q2
  · refine getmeth_ok I1 ea c' hm' l ?_
    refine PySem.W.callWith_K (first := [.ref a]) (h₀ := X.base) I.ok.mod.kin hm'.kp (thn (ha pos pins s1 σ H1 _ I1 q) fun us s2 ⟨vs, H2, I2, r, q2⟩ => ⟨I2.kIn, ?_⟩) hst hpl
    exact run_mt F' hr b' (fun _ _ z => z.elim) I2 r q2
theorem run_mk {f : Addr} {fd : FuncData} {pins : List (Addr × Obj)} {σ : St} {H : Hp} {s : Shared} {Q : VK} {E : XK} {us : List Value} {vs : List V} (M : Mk X.K C f) (F : FnOk X.prog X.w X.K X.mg X.base CX k f fd ps sp) (hr : Room (k + 1) X.A) (hb : Binds X.K fd ps [])
    (hx : ∀ (H : Hp) (s : Shared) (e : Value) (s' : Shared), Inv X pins σ H s → CX X.stack H s E e s' → X.xe e s') (I : Inv X pins σ H s) (r : Vals vs us)
    (h : ∀ x dx, H x = none → H dx = none → dx ≠ x → sp (.ref x :: vs) (upd (upd H dx (.own x)) x (.ins C dx [])) (fun v H2 => v = .non ∧ Q (.ref x) H2) E) :
    wpAny (model X.prog X.w) X.A (call (.ref C) us) (EP X pins σ Q) X.xe s := by
  have hq := h (s.heap.objs.size + 1) s.heap.objs.size (I.hok.fresh (Nat.le_succ _)) (I.hok.fresh (Nat.le_refl _)) (Nat.ne_of_lt (Nat.lt_succ_self _))
  have I2 := Inv.made (C := C) I
  have r2 : Vals (V.ref (s.heap.objs.size + 1) :: vs) (Value.ref (s.heap.objs.size + 1) :: us) := .cons rfl r
  have hl : (Value.ref (s.heap.objs.size + 1) :: us).length = ps.length := by rw [← r2.length]; exact F.len _ _ _ _ hq
  have bb := hb _ (Value.ref (s.heap.objs.size + 1) :: us) I2.kIn (by rw [List.append_nil]; exact hl)
  rw [List.append_nil] at bb
  refine wpAny_call (make_map (f := f) I.kIn M.makes M.init (beq_iff_eq.mp M.fn) (codeAny_mono (F.run _ X.stack _ _ ⟨Value.ref (s.heap.objs.size + 1) :: us, []⟩ (Value.ref (s.heap.objs.size + 1) :: us) _ _ E (hr.make C us [])
    (I2.env0.make C us []) bb r2 hq) fun r s' hq' => ?_))
  cases r with
  | error e => exact hx _ _ e s' I2 hq'
  | ok fl =>
    cases fl with
    | ret u =>
      obtain ⟨v, H', I3, rv, ev, q3⟩ := I2.after hq'
      subst ev
      exact ⟨rv, ⟨V.ref (s.heap.objs.size + 1), H', I3, rfl, q3⟩⟩
    | next => exact False.elim hq'
    | brk => exact False.elim hq'
    | cont => exact False.elim hq'
theorem pe_mk (F : MkX CX0 X.prog X.w X.K X.mg X.base k C ps sp) (hr : Room (k + 1) X.A) (hg : Gl X x) (hm : X.mg x = some (.ref C)) (ha : PA X (e :: es) t) (hdb : (x == ("__debug__" : Str)) = false := by decide)
    (he : starEach (e :: es) X.env = (false, eval e X.env) :: starEach es X.env := by rfl) (hpl : (backTo pos (starEach es X.env)).any (·.1) = false := by rfl) : PE X (.Call (.Name x p) (e :: es) [] pos) (tMk C sp t) := by
  obtain ⟨f, fd, F, M, b⟩ := F
  intro pins s σ H Q I h
  refine wpAny_Call_Name_kw (ld_glob I hg hm ?_ hdb)
  refine PySem.W.callWith_K (h₀ := X.base) I.ok.mod.kin M.kp (thn (ha pos pins s σ H _ I h) fun us s1 ⟨vs, H1, I1, r, q⟩ => ⟨I1.kIn, ?_⟩) he hpl
  exact run_mk M F hr b (fun _ _ _ _ _ z => z.elim) I1 r q
theorem pe_fldK (K : PySem.W.Frag) {f : Str} (he : PE X e ta) (hb : attributeBase e f X.env (eval e X.env) = eval e X.env) (hK : X.K = K := by rfl) : PE X (.Attribute e f pos) (tFld K ta f) := by
  subst hK
  exact pe_fld he hb
end
theorem MkX.plain {P : Program} {w : World} {K : PySem.W.Frag} {mg : Str → Option Value} {base : Heap} {k : Nat} {C : Addr} {ps : List Str} {sp : Sp} (F : MkX (CXE P w) P w K mg base k C ps sp) : MkX CX0 P w K mg base k C ps (fun vs H Q _ => sp vs H Q E0) := by
  obtain ⟨f, fd, F, r⟩ := F
  refine ⟨f, fd, ⟨fun vs H Q _ h => F.len vs H Q E0 h, fun A outer s H args us vs Q E hr e0 hb rv h => codeAny_mono (F.run A outer s H args us vs Q E0 hr e0 hb rv h) fun rr s' q => ?_⟩, r⟩
  cases rr with
  | ok fl => cases fl <;> exact q
  | error e =>
    obtain ⟨_, _, _, _, _, _, _, _, _, _, _, _, z⟩ := q
    exact False.elim z
end L2
namespace L2
open PySem PySem.Spec PyProof.Rows PySem.SeqAt
abbrev dTu (ns : List Int) : PyData := .tuple (ns.map PyData.int)
abbrev dLT (nss : List (List Int)) : PyData := .list (nss.map dTu)
noncomputable def SqLT (K : PySem.W.Frag) (H : Hp) (a : Addr) (nss : List (List Int)) : Prop := ∃ as : List Addr, SqL K H a (as.map V.ref) ∧ Paired (fun b ns => SqT K H b (ns.map V.int)) as nss
theorem canLay_dLT : ∀ nss : List (List Int), PyData.canLayAll0 (nss.map dTu) = true
  | [] => by simp [PyData.canLayAll0]
  | n :: r => by simp [PyData.canLayAll0, PyData.canLay0, PySem.W.canLayAll0_ints, canLay_dLT r]
theorem depth_dTu (ns : List Int) : PyData.depth (dTu ns) ≤ 2 := by
  have := PySem.W.depthAll_ints ns
  simp only [PyData.depth]
  omega
theorem depthAll_dLT : ∀ nss : List (List Int), PyData.depthAll (nss.map dTu) ≤ 2
  | [] => by simp [PyData.depthAll]
  | n :: r => by
    have := depthAll_dLT r
    have := depth_dTu n
    simp only [List.map_cons, PyData.depthAll]
    omega
theorem shaped_dLT (nss : List (List Int)) : shaped (dLT nss) = true := by
  have h1 := depthAll_dLT nss
  have h2 : PyData.depth (dLT nss) ≤ 64 := by simp only [PyData.depth]; omega
  show (PyData.canLay0 (dLT nss) && decide (PyData.depth (dLT nss) ≤ 64)) = true
  rw [Bool.and_eq_true]
  exact ⟨by simp only [PyData.canLay0]; exact canLay_dLT nss, decide_eq_true h2⟩
theorem noMix_dTu (ns ms : List Int) : noMix (dTu ns) (dTu ms) = true := by
  simp only [noMix]; exact PySem.W.noMix_ints ns ms
theorem noMix_dLT : ∀ nss mss : List (List Int), noMixAll (nss.map dTu) (mss.map dTu) = true
  | [], [] => by simp [noMixAll]
  | [], _ :: _ => by simp [noMixAll]
  | _ :: _, [] => by simp [noMixAll]
  | n :: r, m :: q => by
    simp only [List.map_cons, noMixAll, noMix_dLT r q, Bool.and_true]
    exact noMix_dTu n m
theorem same_dTu (ns ms : List Int) : PySem.Spec.same (dTu ns) (dTu ms) = decide (ns = ms) := by
  simp only [PySem.Spec.same]; exact PySem.W.same_ints ns ms
theorem same_dLT : ∀ nss mss : List (List Int), PySem.Spec.sameAll (nss.map dTu) (mss.map dTu) = decide (nss = mss)
  | [], [] => by simp [PySem.Spec.sameAll]
  | [], _ :: _ => by simp [PySem.Spec.sameAll]
  | _ :: _, [] => by simp [PySem.Spec.sameAll]
  | n :: r, k :: q => by
    simp only [List.map_cons, PySem.Spec.sameAll, same_dLT r q]
    rw [same_dTu]
    by_cases h : n = k <;> simp [h]
section
variable {X : Cx} {pins : List (Addr × Obj)} {σ : St} {H : Hp} {s : Shared}
theorem Inv.readsTu (I : Inv X pins σ H s) {a : Addr} {ns : List Int} (h : SqT X.K H a (ns.map V.int)) : ∃ bs, Reads s.heap (.ref a) (dTu ns) bs := by
  obtain ⟨its, r, ⟨o, ho, hc, n, hd⟩, z⟩ := I.tuple h
  exact ⟨_, .tuple ho hc hd (by simpa using PySem.W.readsAll_of_ints (intsAre_of r))⟩
theorem Inv.readsAllT (I : Inv X pins σ H s) : ∀ {as : List Addr} {us : List Value} {nss : List (List Int)}, Vals (as.map V.ref) us → Paired (fun b ns => SqT X.K H b (ns.map V.int)) as nss → ∃ bs, ReadsAll s.heap us (nss.map dTu) bs
  | [], _, _, r, p => by
    cases r; cases p
    exact ⟨_, .nil⟩
  | a :: as, _, _, r, p => by
    cases p with
    | cons p1 p2 =>
      cases r with
      | cons r1 r2 =>
        obtain ⟨bs, h⟩ := I.readsAllT r2 p2
        obtain ⟨cs, h1⟩ := I.readsTu p1
        cases r1
        exact ⟨_, .cons h1 h⟩
theorem Inv.readsLT (I : Inv X pins σ H s) {a : Addr} {nss : List (List Int)} (h : SqLT X.K H a nss) : ∃ bs, Reads s.heap (.ref a) (dLT nss) bs := by
  obtain ⟨as, h1, h2⟩ := h
  obtain ⟨its, r, ⟨o, n, ho, hc, hd0, hd⟩, z⟩ := I.list h1
  obtain ⟨bs, hb⟩ := I.readsAllT r h2
  exact ⟨_, .list ho hc hd (by simpa using hb)⟩
end
section
variable {X : Cx}
noncomputable def rNeLT (K : PySem.W.Frag) : R2 := fun x y H Q => ∃ (a b : Addr) (nss mss : List (List Int)), x = .ref a ∧ y = .ref b ∧ SqLT K H a nss ∧ SqLT K H b mss ∧ Q (.bl (!decide (nss = mss))) H
theorem op_neLT (hu : X.A.units + 64 < cLine) : OpR X (compareOp .NotEq) (rNeLT X.K) := by
  intro pins s σ H x y v u Q I rx ry h
  obtain ⟨a, b, ns, ms, rfl, rfl, h1, h2, q⟩ := h
  cases rx; cases ry
  obtain ⟨as, r1⟩ := I.readsLT h1
  obtain ⟨bs, r2⟩ := I.readsLT h2
  exact ne_dataH_same r1 r2 (shaped_dLT ns) (shaped_dLT ms) hu (by simp only [noMix]; exact noMix_dLT ns ms) (by simp only [PySem.Spec.same]; rw [same_dLT]; exact ⟨.bl _, H, I, rfl, q⟩)
end
end L2
namespace L2
open PySem PySem.Spec PyProof.Rows
section
variable {X : Cx}
theorem countP_vals (i : Int) (f : Value → Bool) (hf : ∀ k t, f (.int k t) = (k == i)) : ∀ {ns : List Int} {us : List Value}, Vals (ns.map V.int) us → us.countP f = ns.count i
  | [], _, r => by cases r; rfl
  | n :: r, _, v => by
    cases v with
    | cons h t =>
      obtain ⟨tk, rfl⟩ := h
      rw [List.countP_cons, countP_vals i f hf t, List.count_cons, hf]
theorem mt_countI : MtM X "list.count" (fun x vs H Q => ∃ (l : Addr) (ns : List Int) (i : Int), x = .ref l ∧ vs = [.int i] ∧ H l = some (.lst (ns.map V.int)) ∧ Q (.int ((ns.count i : Nat) : Int)) H) := by
  intro pins s σ H x vs v us Q I rx rv h
  obtain ⟨l, ns, i, rfl, rfl, hH, q⟩ := h
  cases rx
  obtain ⟨u, rfl, ru⟩ := rv.one
  obtain ⟨t, rfl⟩ := ru
  obtain ⟨z, its, n, r, hl, e⟩ := I.lstM hH
  let f : Value → Bool := fun y => match y with | .int k _ => k == i | _ => false
  have hf : ∀ y, y ∈ its.toArray → PySem.MeetsSeq.EqGives y (.int i t) (f y) := fun y hy => by
    have hy' : y ∈ its := by simpa using hy
    obtain ⟨m, hm, rfl⟩ := List.getElem_of_mem hy'
    have hl' := r.length
    rw [List.length_map] at hl'
    have hmn : m < ns.length := by omega
    obtain ⟨w, ew, rw'⟩ := r.get (x := V.int ns[m]) (i := m) (by rw [List.getElem?_map, List.getElem?_eq_getElem hmn]; rfl)
    obtain ⟨tk, ew2⟩ := rw'
    rw [List.getElem?_eq_getElem hm] at ew
    rw [(Option.some.inj ew).trans ew2]
    exact PySem.MeetsSeq.EqGives.int ns[m] i tk t
  refine call_meets F.slot_list_count ⟨_, e, rfl⟩ F.entry_list_count (F.args_list_count_2 _ _) (PySem.MeetsSeq.list_count l its.toArray n (.int i t) f hf) ⟨e, ?_⟩
  have ec : its.toArray.toList.countP f = ns.count i := countP_vals i f (fun _ _ => rfl) r
  rw [ec]
  exact ⟨.int _, H, I.tok _, ⟨_, rfl⟩, q⟩
end
end L2
namespace Bw
open PySem L2
open Builtin.Int (intBits)
def top (i : Nat) : Stmt := PySem.Challenge.pw_bellwrite_k91_whole_heard_alike.main.body.getD i (.Pass ⟨0, 0, 0, 0⟩)
abbrev st_choose : Stmt := top 1
abbrev st_top_from : Stmt := top 2
abbrev st_above_top : Stmt := top 3
abbrev st_rounded_up : Stmt := top 4
abbrev st_box_of : Stmt := top 11
abbrev st_bell_row : Stmt := top 12
abbrev st_heard_box : Stmt := top 13
abbrev st_box_count : Stmt := top 14
abbrev st_greatest_part : Stmt := top 15
abbrev st_box_number : Stmt := top 17
abbrev st_box_of_message : Stmt := top 18
abbrev st_written : Stmt := top 19
abbrev st_read : Stmt := top 20
abbrev st_refuse_silent : Stmt := top 22
abbrev st_rung : Stmt := top 23
abbrev st_by_messages : Stmt := top 24
abbrev st_talk_heard : Stmt := top 25
abbrev st__law_cell_at : Stmt := top 30
abbrev st__law_whole : Stmt := top 31
abbrev st__law_late : Stmt := top 32
abbrev st__law_told_in : Stmt := top 33
abbrev st_law : Stmt := top 34
abbrev st_Hearer_init : Stmt := inClass (top 27) 0
abbrev st_Hearer_turn : Stmt := inClass (top 27) 1
abbrev st_Hearer_knows : Stmt := inClass (top 27) 2
abbrev st_Hearer_earliest : Stmt := inClass (top 27) 3
abbrev st_Hearer_is_last_turn : Stmt := inClass (top 27) 4
abbrev st_Hearer_go_on : Stmt := inClass (top 27) 5
abbrev st_KeenHearer_knows : Stmt := inClass (top 28) 0
structure Own (K : PySem.W.Frag) (C_Hearer C_KeenHearer : Addr) : Prop where
  c_Hearer : Cls K C_Hearer
  n_Hearer_turns : NoAttr K C_Hearer "turns"
  n_Hearer_bells : NoAttr K C_Hearer "bells"
  n_Hearer_late : NoAttr K C_Hearer "late"
  n_Hearer_now : NoAttr K C_Hearer "now"
  n_Hearer_reading : NoAttr K C_Hearer "reading"
  n_Hearer_known : NoAttr K C_Hearer "known"
  c_KeenHearer : Cls K C_KeenHearer
  n_KeenHearer_turns : NoAttr K C_KeenHearer "turns"
  n_KeenHearer_bells : NoAttr K C_KeenHearer "bells"
  n_KeenHearer_late : NoAttr K C_KeenHearer "late"
  n_KeenHearer_now : NoAttr K C_KeenHearer "now"
  n_KeenHearer_reading : NoAttr K C_KeenHearer "reading"
  n_KeenHearer_known : NoAttr K C_KeenHearer "known"
  d_Hearer_init : ∃ f, DefM K "__init__" "Hearer.__init__" st_Hearer_init ["self", "turns", "bells", "late"] f ∧ Mk K C_Hearer f ∧ Mk K C_KeenHearer f
  d_Hearer_turn : ∃ f, DefM K "turn" "Hearer.turn" st_Hearer_turn ["self", "many"] f ∧ Meth K C_Hearer "turn" f ∧ Meth K C_KeenHearer "turn" f
  d_Hearer_knows : ∃ f, DefM K "knows" "Hearer.knows" st_Hearer_knows ["self", "reading"] f ∧ Meth K C_Hearer "knows" f
  d_Hearer_earliest : ∃ f, DefM K "earliest" "Hearer.earliest" st_Hearer_earliest ["self", "reading"] f ∧ Meth K C_Hearer "earliest" f ∧ Meth K C_KeenHearer "earliest" f
  d_Hearer_is_last_turn : ∃ f, DefM K "is_last_turn" "Hearer.is_last_turn" st_Hearer_is_last_turn ["self"] f ∧ Meth K C_Hearer "is_last_turn" f ∧ Meth K C_KeenHearer "is_last_turn" f
  d_Hearer_go_on : ∃ f, DefM K "go_on" "Hearer.go_on" st_Hearer_go_on ["self", "reading", "known"] f ∧ Meth K C_Hearer "go_on" f ∧ Meth K C_KeenHearer "go_on" f
  d_KeenHearer_knows : ∃ f, DefM K "knows" "KeenHearer.knows" st_KeenHearer_knows ["self", "reading"] f ∧ Meth K C_KeenHearer "knows" f
structure Txt (K : PySem.W.Frag) (mg : Str → Option Value) : Prop where
  z_range : mg "range" = none
  z_isinstance : mg "isinstance" = none
  z_int : mg "int" = none
  z_bool : mg "bool" = none
  z_len : mg "len" = none
  z_list : mg "list" = none
  z_min : mg "min" = none
  z_max : mg "max" = none
  z_enumerate : mg "enumerate" = none
  z_sum : mg "sum" = none
  z_all : mg "all" = none
  z_ValueError : mg "ValueError" = none
  z_tuple : mg "tuple" = none
  z_zip : mg "zip" = none
  z_sorted : mg "sorted" = none
noncomputable def cellOf (ns : List Int) (k : Int) : Int := ns.getD k.toNat 0
noncomputable def spCell (K : PySem.W.Frag) : Sp := fun vs H Q _ => ∃ (a : Addr) (ns : List Int) (k : Int), vs = [.ref a, .int k] ∧ SqL K H a (ns.map V.int) ∧ 0 ≤ k ∧ Q (.int (cellOf ns k)) H
structure RowL (row : List Int) : Prop where
  inc : row.Pairwise (· < ·)
  nn : ∀ x ∈ row, 0 ≤ x
  sz : ∀ x ∈ row, x < 2 ^ 200
theorem at_map {ns : List Int} {k : Nat} {x : Int} (h : ns[k]? = some x) : atI (ns.map V.int) (k : Int) = some (V.int x) := atI_nat (by rw [List.getElem?_map, h]; rfl)
noncomputable def cutI (ns : List Int) (lo hi : Option Int) : List Int := (ns.drop (HT.sIx ns.length 0 lo)).take (HT.sIx ns.length ns.length hi - HT.sIx ns.length 0 lo)
theorem cut_map (ns : List Int) (lo hi : Option Int) : cutV (ns.map V.int) lo hi = (cutI ns lo hi).map V.int := by
  unfold cutV cutI
  rw [List.length_map, List.map_take, List.map_drop]
theorem cutI_len (ns : List Int) (lo hi : Option Int) : (cutI ns lo hi).length ≤ ns.length := by
  have := cutV_length (ns.map V.int) lo hi
  rwa [cut_map, List.length_map, List.length_map] at this
theorem at_last {ns : List Int} (h : ns ≠ []) : ∃ x, atI (ns.map V.int) (-1) = some (V.int x) ∧ x ∈ ns ∧ ns.getLast? = some x := by
  obtain ⟨r, x, rfl⟩ : ∃ r x, ns = r ++ [x] := ⟨ns.dropLast, ns.getLast h, (List.dropLast_concat_getLast h).symm⟩
  refine ⟨x, ?_, by simp, by simp⟩
  rw [List.map_append]
  exact atI_last _ _
abbrev bmV : List Value := [.type "ValueError", .type "Exception", .type "BaseException", .type "object"]
theorem fnE_fn {P : Program} {w : World} {K : PySem.W.Frag} {mg : Str → Option Value} {base : Heap} {k : Nat} {x : Str} {ps : List Str} {sp : Sp} (F : FnE P w K mg base k x ps sp) : Fn P w K mg base k x ps (fun vs H Q _ => sp vs H Q E0) := by
  obtain ⟨f, fd, F, kp, b, m⟩ := F
  refine ⟨f, fd, ⟨fun vs H Q _ h => F.len vs H Q E0 h, fun A outer s H args us vs Q E hr e0 hb r h => codeAny_mono (F.run A outer s H args us vs Q E0 hr e0 hb r h) fun rr s' q => ?_⟩, kp, b, m⟩
  cases rr with
  | ok fl => cases fl <;> exact q
  | error e =>
    obtain ⟨_, _, _, _, _, _, _, _, _, _, _, _, z⟩ := q
    exact False.elim z
theorem comp_rangeI {lo : Int} {n : Nat} {acc : Addr} {own : Nat} {ix : List Nat} {g : TG} {te : TE} {σ : St} {H1 : Hp} {Q : VK} (Pv : Nat → List V → Hp → Prop) (hz : n ≤ sizeLine) (h0 : Pv 0 [] (upd H1 acc (.lst [])))
    (ha : ∀ i ys H, Pv i ys H → H acc = some (.lst ys) ∧ ys.length ≤ i)
    (step : ∀ (i : Nat) (ys : List V) (H : Hp) (R : VK), i < n → Pv i ys H → (∀ y H6, H6 acc = some (.lst ys) → Pv (i + 1) (ys ++ [y]) (upd H6 acc (.lst (ys ++ [y]))) → R y H6) → g (.int (lo + i)) (blockSt own ix σ) H fun σ4 H4 => σ4.drop own = ix.map (fun i => (σ[i]?).getD none) ∧ te σ4 H4 R)
    (hd : ∀ ys H, Pv n ys H → Q (.ref acc) H) : CompGo (Itr lo n) own ix g tNoTest te σ H1 acc Q := by
  refine ⟨fun i m ys H => m = n - i ∧ i ≤ n ∧ Pv i ys H, ⟨n, by simp, Nat.zero_le _, h0⟩, ?_⟩
  rintro i m ys H ⟨rfl, hi, p⟩
  obtain ⟨a1, a2⟩ := ha i ys H p
  refine ⟨a1, ?_⟩
  by_cases hlt : i < n
  · refine .inr ⟨hlt, by omega, fun x H3 y => ?_⟩
    obtain ⟨e, y⟩ := y
    subst e y
    exact step i ys _ _ hlt p fun y H6 e q => ⟨e, n - (i + 1), by omega, rfl, hlt, q⟩
  · have e : i = n := by omega
    subst e
    exact .inl ⟨Nat.le_refl _, hd ys H p⟩
section
variable {P : Program} {w : World} {K : PySem.W.Frag} {mg : Str → Option Value} {base : Heap}
theorem sc__law_cell_at : FnScope ["script", "k"] ["script", "k"] (defScope st__law_cell_at) := ⟨rfl, rfl, rfl, by decide +kernel, rfl, by decide +kernel, by decide +kernel⟩
theorem ok_cell_at (D : Def K mg "_law_cell_at" st__law_cell_at ["script", "k"]) (T : Txt K mg) : Fn P w K mg base 1 "_law_cell_at" ["script", "k"] (spCell K) := by
  refine D.fn sc__law_cell_at (fun vs H Q E h => ?_) (fun f cdv A outer s H vs Q E hr h => ?_)
  · obtain ⟨n, k, c, rfl, _⟩ := h
    rfl
  · obtain ⟨a, ns, k, rfl, hS, k0, q⟩ := h
    refine ⟨_, (pss_cons (ps_if (pt_cmpR op_ltI (pv 1) (pe_callB call_len_seq (by rfl) T.z_len b_len (pa_cons (pv 0) pa_nil)) (nomark _))
        (pss_one (ps_ret (pe_ix ix_list (pv 0) (pv 1) (fun _ _ => rfl))))
        pss_nil)
      (pss_one (ps_ret pe_int))), ?_⟩
    refine ⟨_, rfl, _, rfl, _, _, rfl, .inl hS, _, _, rfl, rfl, _, rfl, ?_⟩
    rw [List.length_map]
    refine ifD (fun h => ?_) (fun h => ?_)
    · have hk : k.toNat < ns.length := by omega
      have e : atI (ns.map V.int) k = some (V.int (cellOf ns k)) := by
        have := at_map (ns := ns) (k := k.toNat) (x := cellOf ns k) (by unfold cellOf; rw [List.getD_eq_getElem?_getD, List.getElem?_eq_getElem hk]; rfl)
        rwa [show ((k.toNat : Nat) : Int) = k by omega] at this
      exact ⟨_, rfl, _, rfl, _, _, _, _, rfl, rfl, hS, e, q⟩
    · have e : cellOf ns k = 0 := by
        unfold cellOf
        rw [List.getD_eq_getElem?_getD, List.getElem?_eq_none (by omega)]
        rfl
      rw [e] at q
      exact q
end
section
noncomputable def spLaw (K : PySem.W.Frag) : Sp := fun vs H Q _ => ∃ (a : Addr) (ns : List Int), vs = [.ref a] ∧ SqL K H a (ns.map V.int) ∧ ns.length ≤ 63 ∧ ∀ H', Q (.bl true) H'
end
section
variable {P : Program} {w : World} {K : PySem.W.Frag} {mg : Str → Option Value} {base : Heap}
theorem sc_choose : FnScope ["n", "k", "ways", "taken"] ["n", "k"] (defScope st_choose) := ⟨rfl, rfl, rfl, by decide +kernel, rfl, by decide +kernel, by decide +kernel⟩
theorem ok_choose (D : Def K mg "choose" st_choose ["n", "k"]) (T : Txt K mg) : Fn P w K mg base 1 "choose" ["n", "k"] spChoose := by
  refine D.fn sc_choose (fun vs H Q E h => ?_) (fun f cdv A outer s H vs Q E hr h => ?_)
  · obtain ⟨n, k, rfl, _⟩ := h
    rfl
  · obtain ⟨n, k, rfl, hn, hk, hk2, hb, q⟩ := h
    refine ⟨_, (pss_cons (ps_if (pt_cmpR op_gtI (pv 1) (pv 0) (nomark _))
        (pss_one (ps_ret pe_int))
        pss_nil)
      (pss_cons (ps_set (i := 2) sc_choose.nd rfl (Or.inl rfl) pe_int)
      (pss_cons (ps_for PassesOwn.never rfl (pi_range1 (by rfl) T.z_range (pa_cons (pv 1) pa_nil)) (pg_name (i := 3) sc_choose.nd rfl (Or.inl rfl))
        (pss_one (ps_set (i := 2) sc_choose.nd rfl (Or.inl rfl) (pe_op op_fdivB (pe_op op_mulB (pv 2) (pe_op op_subI (pv 0) (pv 3))) (pe_op op_addI (pv 3) pe_int)))))
      (pss_one (ps_ret (pv 2)))))), ?_⟩
    refine ⟨_, rfl, _, rfl, _, _, rfl, rfl, _, rfl, ?_⟩
    refine ite2 (fun h => ?_) (fun h => ?_)
    · have h' : n < k := of_decide_eq_true h
      have e := ch_above hn h'
      rw [e] at q
      exact q
    · have h' : ¬ n < k := fun z => h (decide_eq_true z)
      refine ⟨_, rfl, k, rfl, by omega, by omega, for_range (n := k.toNat) (fun i σ H' => ∃ v, σ = [some (.int n), some (.int k), some (.int (ch n i)), v] ∧ H' = H) ⟨none, ?_, rfl⟩ ?_ ?_⟩
      · have e := ch_zero n
        show _ = [some (V.int n), some (V.int k), some (V.int (ch n 0)), none]
        rw [e]
        rfl
      · rintro i σ H' hi ⟨v, rfl, rfl⟩
        have hi' : (i : Int) < k := by omega
        refine ⟨_, rfl, _, rfl, _, rfl, _, _, rfl, rfl, _, _, rfl, rfl, ?_, _, rfl, _, _, rfl, rfl, _, _, rfl, rfl, ?_, ?_⟩
        · refine ⟨100000 * i + 1, 100000, bits_ch hb hn, ?_, by omega⟩
          exact intBits_le_of_natAbs (by omega) hb
        · exact ⟨by omega, bits_of (by omega) (by omega)⟩
        · have e := ch_step (n := n) (i := i) (by omega)
          have e0 : (0 : Int) + (i : Int) = (i : Int) := by omega
          refine ⟨some (.int (0 + (i : Int))), ?_, rfl⟩
          rw [e0, e]
          rfl
      · rintro σ H' ⟨v, rfl, rfl⟩
        refine ⟨_, rfl, ?_⟩
        have e : ((k.toNat : Nat) : Int) = k := by omega
        rw [e]
        exact q
end
section
variable {P : Program} {w : World} {K : PySem.W.Frag} {mg : Str → Option Value} {base : Heap}
theorem sc_rounded_up : FnScope ["number", "divisor"] ["number", "divisor"] (defScope st_rounded_up) := ⟨rfl, rfl, rfl, by decide +kernel, rfl, by decide +kernel, by decide +kernel⟩
theorem ok_rounded_up (D : Def K mg "rounded_up" st_rounded_up ["number", "divisor"]) (hP : P.given.tree = none) : Fn P w K mg base 36 "rounded_up" ["number", "divisor"] spRound := by
  refine D.fn sc_rounded_up (fun vs H Q E h => ?_) (fun f cdv A outer s H vs Q E hr h => ?_)
  · obtain ⟨n, k, rfl, _⟩ := h
    rfl
  · obtain ⟨a, b, rfl, hb, q⟩ := h
    refine ⟨_, (pss_one (ps_ret (pe_op (op_fdivP (pyl_ok hP sc_rounded_up hr)) (pe_op op_subI (pe_op op_addI (pv 0) (pv 1)) pe_int) (pv 1)))), ?_⟩
    exact ⟨_, rfl, _, rfl, _, _, rfl, rfl, _, _, rfl, rfl, _, rfl, _, _, rfl, rfl, hb, q⟩
theorem sc_above_top : FnScope ["k", "number", "product", "factor", "figures"] ["k", "number"] (defScope st_above_top) := ⟨rfl, rfl, rfl, by decide +kernel, rfl, by decide +kernel, by decide +kernel⟩
theorem ok_above_top (D : Def K mg "above_top" st_above_top ["k", "number"]) (T : Txt K mg) (G_rounded_up : Fn P w K mg base 36 "rounded_up" ["number", "divisor"] spRound) : Fn P w K mg base 37 "above_top" ["k", "number"] spAbove := by
  refine D.fn sc_above_top (fun vs H Q E h => ?_) (fun f cdv A outer s H vs Q E hr h => ?_)
  · obtain ⟨n, k, rfl, _⟩ := h
    rfl
  · obtain ⟨k, number, rfl, k1, k60, n0, nb, q⟩ := h
    refine ⟨_, (pss_cons (ps_set (i := 2) sc_above_top.nd rfl (Or.inl rfl) (pv 1))
      (pss_cons (ps_for PassesOwn.never rfl (pi_range2 (by rfl) T.z_range (pa_cons pe_int (pa_cons (pe_op op_addI (pv 0) pe_int) pa_nil))) (pg_name (i := 3) sc_above_top.nd rfl (Or.inl rfl))
        (pss_one (ps_set (i := 2) sc_above_top.nd rfl (Or.inl rfl) (pe_op op_mulB (pv 2) (pv 3)))))
      (pss_cons (ps_set (i := 4) sc_above_top.nd rfl (Or.inl rfl) (pe_fn G_rounded_up (hr.mono (by decide)) (by rfl) (pa_cons (pe_bm0 PySem.F.plainAttrs_int PySem.F.slot_int_bit_length PySem.F.type_int_bit_length mt_bit_length (pv 2)) (pa_cons (pv 0) pa_nil))))
      (pss_one (ps_ret (pe_op op_subI (pe_op op_addI (pe_op op_shlB pe_int (pv 4)) (pv 0)) pe_int)))))), ?_⟩
    have ek : ((k.toNat : Nat) : Int) = k := by omega
    have pb : ∀ i : Nat, (i : Int) ≤ 60 → intBits (number * fac i) ≤ 50000 + (7 * i + 1) := fun i hi => intBits_mul_le nb (bits_fac i (by omega))
    refine ⟨_, rfl, _, rfl, _, _, rfl, rfl, 1, k + 1, rfl, ⟨by omega, by omega, by omega, by omega⟩, for_range (lo := 1) (n := (k + 1 - 1).toNat) (fun i σ H2 => ∃ v, σ = [some (.int k), some (.int number), some (.int (number * fac i)), v, none] ∧ H2 = H) ⟨none, ?_, rfl⟩ ?_ ?_⟩
    · show _ = [some (V.int k), some (V.int number), some (V.int (number * 1)), none, none]
      rw [Int.mul_one]
      rfl
    · rintro i σ H2 hi ⟨v, rfl, rfl⟩
      have hi' : (i : Int) < k := by omega
      refine ⟨_, rfl, _, rfl, _, _, rfl, rfl, ⟨_, 64, pb i (by omega), bits_of (by omega) (by omega), by omega⟩, some (.int (1 + (i : Int))), ?_, rfl⟩
      rw [fac_succ, ← Int.mul_assoc, Int.add_comm (i : Int) 1]
      rfl
    · rintro σ H2 ⟨v, rfl, rfl⟩
      have en : (k + 1 - 1).toNat = k.toNat := by omega
      rw [en]
      have pk := pb k.toNat (by omega)
      have hsz := intBits_le_iff.mp (Nat.le_refl (intBits (number * fac k.toNat)))
      refine ⟨_, rfl, rfl, _, rfl, rfl, _, rfl, _, _, rfl, by omega, ?_⟩
      generalize hbn : intBits (number * fac k.toNat) = b at pk hsz ⊢
      have d1 := Int.mul_ediv_add_emod ((b : Int) + k - 1) k
      have d2 := Int.emod_nonneg ((b : Int) + k - 1) (show k ≠ 0 by omega)
      have d3 := Int.emod_lt_of_pos ((b : Int) + k - 1) (show 0 < k by omega)
      have f0 : 0 ≤ ((b : Int) + k - 1) / k := Int.ediv_nonneg (by omega) (by omega)
      have f1 : ((b : Int) + k - 1) / k ≤ (b : Int) + k - 1 := Int.ediv_le_self _ (by omega)
      generalize ((b : Int) + k - 1) / k = fg at d1 f0 f1 ⊢
      generalize ((b : Int) + k - 1) % k = r at d1 d2 d3
      refine ⟨_, rfl, _, _, rfl, rfl, ⟨f0, by omega, by decide⟩, _, rfl, _, _, rfl, rfl, _, _, rfl, rfl, ?_⟩
      have ef : ((fg.toNat : Nat) : Int) = fg := by omega
      have hp : (0 : Int) < 2 ^ fg.toNat := Int.pow_pos (by decide)
      have ab := aboveI (F := fg.toNat) (b := b) k1 n0 hsz (by rw [ef, Int.mul_comm]; omega)
      have e1 : (1 : Int) * 2 ^ fg.toNat = 2 ^ fg.toNat := Int.one_mul _
      rw [e1]
      refine q _ (by omega) ab ?_
      have hb2 : intBits ((2 : Int) ^ fg.toNat) ≤ fg.toNat + 1 := by
        refine intBits_le_iff.mpr ?_
        rw [Int.natAbs_pow]
        exact Nat.pow_lt_pow_right (by decide) (by omega)
      refine bits_mono (intBits_sub_le (m := 50600) (n := 64) (bits_mono (intBits_add_le (m := 50599) (n := 64) (bits_mono hb2 (by omega)) (bits_of (by omega) (by omega))) (by decide)) (by decide)) (by decide)
theorem C_absorb (n k : Nat) : (k + 1) * C (n + 1) (k + 1) = (n + 1) * C n k := by
  have h := C_step n k
  rw [C_succ, Nat.mul_add, Nat.add_mul, Nat.add_mul, Nat.one_mul, Nat.one_mul, Nat.add_mul n 1, Nat.one_mul]
  rw [Nat.add_mul] at h
  omega
theorem ch_absorb {t k : Int} (hk : 1 ≤ k) (ht : 1 ≤ t) : ch t k * k / t = ch (t - 1) (k - 1) := by
  obtain ⟨j, hj⟩ : ∃ j : Nat, k = (j : Int) + 1 := ⟨(k - 1).toNat, by omega⟩
  obtain ⟨m, hm⟩ : ∃ m : Nat, t = (m : Int) + 1 := ⟨(t - 1).toNat, by omega⟩
  subst hj hm
  have e1 : ch ((m : Int) + 1) ((j : Int) + 1) = (C (m + 1) (j + 1) : Nat) := by
    rw [show ((m : Int) + 1) = ((m + 1 : Nat) : Int) by omega, show ((j : Int) + 1) = ((j + 1 : Nat) : Int) by omega, ch_nat]
  have e2 : ch ((m : Int) + 1 - 1) ((j : Int) + 1 - 1) = (C m j : Nat) := by
    rw [show ((m : Int) + 1 - 1) = ((m : Nat) : Int) by omega, show ((j : Int) + 1 - 1) = ((j : Nat) : Int) by omega, ch_nat]
  rw [e1, e2]
  have a := C_absorb m j
  have a' : ((C (m + 1) (j + 1) : Nat) : Int) * ((j : Int) + 1) = ((m : Int) + 1) * ((C m j : Nat) : Int) := by
    rw [Int.mul_comm]
    exact_mod_cast a
  rw [a']
  exact Int.mul_ediv_cancel_left _ (by omega)
noncomputable def spTopFrom : Sp := fun vs H Q _ => ∃ start k number : Int, vs = [.int start, .int k, .int number] ∧ 1 ≤ k ∧ k ≤ 60 ∧ 0 ≤ number ∧ k - 1 ≤ start ∧ number < ch (start + 1) k ∧ intBits start ≤ 60000 ∧ ∀ t : Int, IsTop k number t → intBits t ≤ 60000 → Q (.int t) H
theorem sc_top_from : FnScope ["start", "k", "number", "top", "ways", "most_off", "step"] ["start", "k", "number"] (defScope st_top_from) := ⟨rfl, rfl, rfl, by decide +kernel, rfl, by decide +kernel, by decide +kernel⟩
theorem ok_top_from (D : Def K mg "top_from" st_top_from ["start", "k", "number"]) (G_choose : Fn P w K mg base 1 "choose" ["n", "k"] spChoose) (G_rounded_up : Fn P w K mg base 36 "rounded_up" ["number", "divisor"] spRound) (hP : P.given.tree = none) :
    Fn P w K mg base 37 "top_from" ["start", "k", "number"] spTopFrom := by
  refine D.fn sc_top_from (fun vs H Q E h => ?_) (fun f cdv A outer s H vs Q E hr h => ?_)
  · obtain ⟨a, n, k, rfl, _⟩ := h
    rfl
  · obtain ⟨t0, k, number, rfl, k1, k60, n0, t1, t2, t3, q⟩ := h
    refine ⟨_, (pss_cons (ps_set (i := 3) sc_top_from.nd rfl (Or.inl rfl) (pv 0))
      (pss_cons (ps_set (i := 4) sc_top_from.nd rfl (Or.inl rfl) (pe_fn G_choose (hr.mono (by decide)) (by rfl) (pa_cons (pv 3) (pa_cons (pv 1) pa_nil))))
      (pss_cons (ps_while PassesOwn.never (pt_cmpR op_gtI (pv 4) (pv 2) (nomark _))
        (pss_cons (ps_set (i := 5) sc_top_from.nd rfl (Or.inl rfl) (pe_op (op_fdivP (pyl_ok hP sc_top_from (hr.mono (by decide)))) (pe_op op_mulB (pv 4) (pv 1)) (pv 3)))
        (pss_cons (ps_set (i := 6) sc_top_from.nd rfl (Or.inl rfl) (pe_fn G_rounded_up (hr.mono (by decide)) (by rfl) (pa_cons (pe_op op_subI (pv 4) (pv 2)) (pa_cons (pv 5) pa_nil))))
        (pss_cons (ps_set (i := 3) sc_top_from.nd rfl (Or.inl rfl) (pe_op op_subI (pv 3) (pv 6)))
        (pss_one (ps_set (i := 4) sc_top_from.nd rfl (Or.inl rfl) (pe_ifExp (pt_cmpR op_eqI (pv 6) pe_int (nomark _)) (pe_op op_subI (pv 4) (pv 5)) (pe_fn G_choose (hr.mono (by decide)) (by rfl) (pa_cons (pv 3) (pa_cons (pv 1) pa_nil))))))))))
      (pss_one (ps_ret (pv 3)))))), ?_⟩
    refine ⟨_, rfl, _, rfl, _, rfl, t0, k, rfl, by omega, by omega, by omega, bits_mono t3 (by decide), ?_⟩
    refine while_by (fun σ H2 => ∃ t v v', σ = [some (.int t0), some (.int k), some (.int number), some (.int t), some (.int (ch t k)), v, v'] ∧ H2 = H ∧ k - 1 ≤ t ∧ number < ch (t + 1) k ∧ intBits t ≤ 60000)
      (fun σ _ => match σ with | [_, _, _, some (.int t), _, _, _] => t.toNat | _ => 0) ⟨t0, none, none, rfl, rfl, t1, t2, t3⟩ ?_ ?_
    · rintro σ H2 ⟨t, v, v', rfl, rfl, u1, u2, u3⟩
      refine ⟨_, rfl, _, rfl, _, _, rfl, rfl, _, rfl, ifD (fun h => ?_) (fun h => ?_)⟩
      · obtain ⟨a1, a2, a3, a4, a5⟩ := step_downI k1 n0 (by omega) h _ rfl
        have wb : intBits (ch t k) ≤ 60000 * 60 + 1 := by
          have := bits_ch (k := k.toNat) u3 (by omega)
          rw [show ((k.toNat : Nat) : Int) = k by omega] at this
          exact bits_mono this (Nat.add_le_add_right (Nat.mul_le_mul_left _ (by omega)) _)
        refine ⟨_, rfl, _, rfl, _, _, rfl, rfl, ⟨_, 64, wb, bits_of (by omega) (by omega), by decide⟩, _, rfl, _, _, rfl, rfl, by omega, ?_⟩
        rw [ch_absorb k1 (by omega)]
        have sb : ch (t - 1) k = ch t k - ch (t - 1) (k - 1) := by
          have := ch_succ (n := t - 1) (k := k - 1) (by omega) (by omega)
          rw [show t - 1 + 1 = t by omega, show k - 1 + 1 = k by omega] at this
          omega
        refine ⟨_, rfl, _, rfl, _, _, rfl, rfl, _, rfl, ch t k - number, ch (t - 1) (k - 1), rfl, a2, ?_⟩
        generalize (ch t k - number + ch (t - 1) (k - 1) - 1) / ch (t - 1) (k - 1) = d at a3 a4 a5 ⊢
        have tb : intBits (t - d) ≤ 60000 := intBits_le_of_natAbs (y := t) (by omega) u3
        refine ⟨_, rfl, _, rfl, _, _, rfl, rfl, _, rfl, _, _, rfl, rfl, _, rfl, ifD (fun e => ?_) (fun e => ?_)⟩
        · subst e
          refine ⟨_, rfl, _, rfl, _, _, rfl, rfl, ⟨t - 1, _, _, by rw [sb]; rfl, rfl, a4, a5, tb⟩, ?_⟩
          show (t - 1).toNat < t.toNat
          omega
        · refine ⟨_, rfl, _, rfl, t - d, k, rfl, by omega, by omega, by omega, bits_mono tb (by decide), ?_⟩
          refine ⟨⟨t - d, _, _, rfl, rfl, a4, a5, tb⟩, ?_⟩
          show (t - d).toNat < t.toNat
          omega
      · refine ⟨_, rfl, q t ⟨u1, by omega, u2⟩ u3⟩
    · intro σ H2 R R' m h
      obtain ⟨v, e1, u, e2, i, j, e3, e4, b, e5, z⟩ := h
      exact ⟨v, e1, u, e2, i, j, e3, e4, b, e5, m _ _ z⟩
end
noncomputable def Fits (ns ms : List Int) (late : Int) : Prop := ns.length = ms.length ∧ ∀ (i : Nat) (x y : Int), ns[i]? = some x → ms[i]? = some y → x ≤ y ∧ y ≤ x + late
noncomputable def Al (l : Int) : List Int → List Int → Prop
  | [], [] => True
  | n :: ns, z :: zs => n ≤ z ∧ z ≤ n + l ∧ Al l ns zs
  | _, _ => False
theorem al_iff (l : Int) : ∀ ns zs, Al l ns zs ↔ Fits ns zs l
  | [], [] => ⟨fun _ => ⟨rfl, fun i x y h => by simp at h⟩, fun _ => trivial⟩
  | [], _ :: _ => ⟨fun h => h.elim, fun h => by have := h.1; simp at this⟩
  | _ :: _, [] => ⟨fun h => h.elim, fun h => by have := h.1; simp at this⟩
  | n :: ns, z :: zs => by
    have ih := al_iff l ns zs
    constructor
    · rintro ⟨h1, h2, h3⟩
      obtain ⟨e, f⟩ := ih.mp h3
      refine ⟨by simp [e], fun i x y hx hy => ?_⟩
      cases i with
      | zero =>
        simp only [List.getElem?_cons_zero, Option.some.injEq] at hx hy
        subst hx hy
        exact ⟨h1, h2⟩
      | succ i =>
        rw [List.getElem?_cons_succ] at hx hy
        exact f i x y hx hy
    · rintro ⟨e, f⟩
      have h0 := f 0 n z rfl rfl
      exact ⟨h0.1, h0.2, ih.mpr ⟨by simpa using e, fun i x y hx hy => f (i + 1) x y (by simpa using hx) (by simpa using hy)⟩⟩
theorem al_swap {l n z m : Int} (hm : m ≤ z) (hz : z ≤ n + l) : ∀ (ns zs : List Int), (∀ x ∈ ns, n ≤ x) → Al l ns zs → m ∈ zs → ∃ ws, Al l ns ws ∧ (z :: zs).Perm (m :: ws)
  | [], [], _, _, h => nomatch h
  | [], _ :: _, _, h, _ => h.elim
  | _ :: _, [], _, h, _ => h.elim
  | a :: ns, b :: zs, hn, ⟨h1, h2, h3⟩, h => by
    have ha := hn a (by simp)
    by_cases e : m = b
    · subst e
      exact ⟨z :: zs, ⟨by omega, by omega, h3⟩, .swap ..⟩
    · have h' : m ∈ zs := by
        rcases List.mem_cons.mp h with x | x
        · exact absurd x e
        · exact x
      obtain ⟨ws, w1, w2⟩ := al_swap hm hz ns zs (fun x hx => hn x (by simp [hx])) h3 h'
      exact ⟨b :: ws, ⟨h1, h2, w1⟩, ((List.Perm.swap b z zs).trans (w2.cons b)).trans (.swap ..)⟩
theorem al_low {l : Int} {n : Int} : ∀ {ns zs : List Int}, (∀ x ∈ ns, n ≤ x) → Al l ns zs → ∀ z ∈ zs, n ≤ z
  | [], [], _, _, _, h => nomatch h
  | [], _ :: _, _, h, _, _ => h.elim
  | _ :: _, [], _, h, _, _ => h.elim
  | a :: ns, b :: zs, hn, ⟨h1, _, h3⟩, z, hz => by
    have := hn a (by simp)
    rcases List.mem_cons.mp hz with e | e
    · omega
    · exact al_low (fun x hx => hn x (by simp [hx])) h3 z e
theorem al_sort {l : Int} : ∀ {ns zs ms : List Int}, ns.Pairwise (· ≤ ·) → Al l ns zs → ms.Perm zs → ms.Pairwise (· ≤ ·) → Al l ns ms
  | [], [], ms, _, _, p, _ => by rw [List.perm_nil.mp p]; trivial
  | [], _ :: _, _, _, h, _, _ => h.elim
  | _ :: _, [], _, _, h, _, _ => h.elim
  | n :: ns, z :: zs, ms, hs, ⟨h1, h2, h3⟩, p, q => by
    obtain ⟨hn, hs'⟩ := List.pairwise_cons.mp hs
    cases ms with
    | nil => exact absurd (List.nil_perm.mp p) (by simp)
    | cons m ms =>
      obtain ⟨hm, q'⟩ := List.pairwise_cons.mp q
      have mz : m ≤ z := by
        rcases List.mem_cons.mp (p.mem_iff.mpr (by simp : z ∈ z :: zs)) with e | e
        · omega
        · exact hm z e
      have mm : m ∈ z :: zs := p.mem_iff.mp (by simp)
      have nm : n ≤ m := by
        rcases List.mem_cons.mp mm with e | e
        · omega
        · exact al_low (fun x hx => hn x hx) h3 m e
      refine ⟨nm, by omega, ?_⟩
      rcases List.mem_cons.mp mm with e | e
      · subst e
        exact al_sort hs' h3 (List.Perm.cons_inv p) q'
      · obtain ⟨ws, w1, w2⟩ := al_swap mz h2 ns zs hn h3 e
        exact al_sort hs' w1 (List.Perm.cons_inv (p.trans w2)) q'
noncomputable def sums (ns ds : List Int) : List Int := List.zipWith (· + ·) ns ds
theorem sums_length (ns ds : List Int) (h : ns.length = ds.length) : (sums ns ds).length = ns.length := by
  unfold sums; rw [List.length_zipWith]; omega
theorem al_sums {late : Int} : ∀ {ns ds : List Int}, ns.length = ds.length → (∀ d ∈ ds, 0 ≤ d ∧ d ≤ late) → Al late ns (sums ns ds)
  | [], [], _, _ => trivial
  | [], _ :: _, h, _ => by simp at h
  | _ :: _, [], h, _ => by simp at h
  | n :: ns, d :: ds, h, hd => by
    have h1 := hd d (by simp)
    refine ⟨by show n ≤ n + d; omega, by show n + d ≤ n + late; omega, ?_⟩
    exact al_sums (by simpa using h) (fun x hx => hd x (by simp [hx]))
theorem ints_of {Pd : Int → Prop} : ∀ {ys : List V}, (∀ (i : Nat) (v : V), ys[i]? = some v → ∃ d : Int, v = .int d ∧ Pd d) → ∃ ds : List Int, ys = ds.map V.int ∧ ∀ d ∈ ds, Pd d
  | [], _ => ⟨[], rfl, fun _ z => nomatch z⟩
  | y :: ys, h => by
    obtain ⟨d, rfl, pd⟩ := h 0 y rfl
    obtain ⟨ds, rfl, hd⟩ := ints_of (ys := ys) fun i v hv => h (i + 1) v hv
    refine ⟨d :: ds, rfl, fun x hx => ?_⟩
    rcases List.mem_cons.mp hx with e | e
    · rw [e]; exact pd
    · exact hd x e
noncomputable def boxL (late : Int) (ns : List Int) : List Int := (List.range ns.length).map fun i => (ns.getD i 0 - (i : Int)) / (late + 1)
noncomputable def bellL (late : Int) (bs : List Int) : List Int := (List.range bs.length).map fun i => bs.getD i 0 * (late + 1) + (i : Int)
theorem boxL_length (late : Int) (ns : List Int) : (boxL late ns).length = ns.length := by unfold boxL; simp
theorem bellL_length (late : Int) (ns : List Int) : (bellL late ns).length = ns.length := by unfold bellL; simp
theorem boxL_get {late : Int} {ns : List Int} {i : Nat} {x : Int} (h : ns[i]? = some x) : (boxL late ns)[i]? = some ((x - (i : Int)) / (late + 1)) := by
  have hi := (List.getElem?_eq_some_iff.mp h).1
  unfold boxL
  rw [List.getElem?_map, List.getElem?_range hi]
  simp [List.getD_eq_getElem?_getD, h]
theorem bellL_get {late : Int} {ns : List Int} {i : Nat} {x : Int} (h : ns[i]? = some x) : (bellL late ns)[i]? = some (x * (late + 1) + (i : Int)) := by
  have hi := (List.getElem?_eq_some_iff.mp h).1
  unfold bellL
  rw [List.getElem?_map, List.getElem?_range hi]
  simp [List.getD_eq_getElem?_getD, h]
theorem bellL_get' {late : Int} {ns : List Int} {i : Nat} {y : Int} (h : (bellL late ns)[i]? = some y) : ∃ x, ns[i]? = some x ∧ y = x * (late + 1) + (i : Int) := by
  have hi := (List.getElem?_eq_some_iff.mp h).1
  rw [bellL_length] at hi
  have g := bellL_get (late := late) (List.getElem?_eq_getElem hi)
  rw [g] at h
  exact ⟨_, List.getElem?_eq_getElem hi, (Option.some.inj h).symm⟩
structure BoxL (bs : List Int) : Prop where
  inc : bs.Pairwise (· ≤ ·)
  nn : ∀ x ∈ bs, 0 ≤ x
  sz : ∀ x ∈ bs, x < 2 ^ 200
noncomputable def Szs (m : Nat) (ns : List Int) : Prop := ∀ x ∈ ns, intBits x ≤ m
section
variable {P : Program} {w : World} {K : PySem.W.Frag} {mg : Str → Option Value} {base : Heap}
noncomputable def spBoxOf (K : PySem.W.Frag) : Sp := fun vs H Q _ => ∃ (a : Addr) (ns : List Int) (late : Int), vs = [.ref a, .int late] ∧ SqL K H a (ns.map V.int) ∧ ns.length ≤ 1000 ∧ 0 ≤ late ∧ intBits late ≤ 8000 ∧
  ∀ (p : Addr) (H' : Hp), Same H H' → H p = none → H' p = some (.lst ((boxL late ns).map V.int)) → Q (.ref p) H'
end
section
variable {P : Program} {w : World} {K : PySem.W.Frag} {mg : Str → Option Value} {base : Heap}
theorem sc_box_of : FnScope ["row", "late"] ["row", "late"] (defScope st_box_of) := ⟨rfl, rfl, rfl, by decide +kernel, rfl, by decide +kernel, by decide +kernel⟩
theorem ok_box_of (D : Def K mg "box_of" st_box_of ["row", "late"]) (T : Txt K mg) : Fn P w K mg base 1 "box_of" ["row", "late"] (spBoxOf K) := by
  refine D.fn sc_box_of (fun vs H Q E h => ?_) (fun f cdv A outer s H vs Q E hr h => ?_)
  · obtain ⟨a, ns, late, rfl, _⟩ := h
    rfl
  · obtain ⟨a, ns, late, rfl, hA, hl, l0, lb, q⟩ := h
    refine ⟨_, (pss_one (ps_ret (pe_comp (own := ["place", "turn"]) (fr := ["late"]) (ix := [1]) rfl ⟨rfl, rfl, rfl, rfl, rfl, rfl⟩ (pi_enumL (by rfl) T.z_enumerate (pa_cons (pv 0) pa_nil)) (fun _ _ _ _ _ => (pg_tupK K (n := 2) rfl (pgs_cons (pg_name (i := 0) (show (["place", "turn", "late"] : List Str).Nodup by decide +kernel) rfl (Or.inl rfl)) (pgs_cons (pg_name (i := 1) (show (["place", "turn", "late"] : List Str).Nodup by decide +kernel) rfl (Or.inl rfl)) pgs_nil)))) (fun _ _ _ _ _ => pts_nil) (fun _ _ _ _ _ => (pe_op op_fdivB (pe_op op_subI (pv 1) (pv 0)) (pe_op op_addI (pv 2) pe_int)))))), ?_⟩
    have lb1 : intBits (late + 1) ≤ 9000 := bits_mono (intBits_add_le (m := 8000) (n := 1) lb (by decide)) (by decide)
    refine ⟨_, rfl, a, _, rfl, hA, fun acc hacc => comp_enumP (K := K) (a := a) (xs := ns.map V.int) (fun i => V.int ((ns.getD i 0 - (i : Int)) / (late + 1))) hA hacc ?_ ?_ ?_⟩
    · rw [List.length_map]; exact Nat.le_of_lt (small1000 hl)
    · intro i x t H2 R hx sm ht hR
      rw [List.getElem?_map] at hx
      obtain ⟨x', hx', rfl⟩ := Option.map_eq_some_iff.mp hx
      simp only [List.getD_eq_getElem?_getD, hx', Option.getD_some] at hR
      exact ⟨t, _, rfl, SqT.of ht, rfl, _, _, rfl, _, _, rfl, rfl, rfl, _, rfl, _, rfl, _, _, rfl, rfl, _, rfl, _, _, rfl, rfl, _, _, rfl, rfl, ⟨by omega, lb1⟩, hR⟩
    · intro H2 sm ha
      rw [List.length_map] at ha
      refine q acc H2 sm hacc ?_
      rw [ha]
      unfold boxL
      rw [List.map_map]
      rfl
end
section
variable {P : Program} {w : World} {K : PySem.W.Frag} {mg : Str → Option Value} {base : Heap}
noncomputable def spBellRow (K : PySem.W.Frag) : Sp := fun vs H Q _ => ∃ (a : Addr) (ns : List Int) (late : Int), vs = [.ref a, .int late] ∧ SqL K H a (ns.map V.int) ∧ ns.length ≤ 1000 ∧ intBits late ≤ 8000 ∧ Szs 70000 ns ∧
  ∀ (p : Addr) (H' : Hp), Same H H' → H p = none → H' p = some (.lst ((bellL late ns).map V.int)) → Q (.ref p) H'
theorem sc_bell_row : FnScope ["box", "late"] ["box", "late"] (defScope st_bell_row) := ⟨rfl, rfl, rfl, by decide +kernel, rfl, by decide +kernel, by decide +kernel⟩
theorem ok_bell_row (D : Def K mg "bell_row" st_bell_row ["box", "late"]) (T : Txt K mg) : Fn P w K mg base 1 "bell_row" ["box", "late"] (spBellRow K) := by
  refine D.fn sc_bell_row (fun vs H Q E h => ?_) (fun f cdv A outer s H vs Q E hr h => ?_)
  · obtain ⟨a, ns, late, rfl, _⟩ := h
    rfl
  · obtain ⟨a, ns, late, rfl, hA, hl, lb, hz, q⟩ := h
    refine ⟨_, (pss_one (ps_ret (pe_comp (own := ["place", "part"]) (fr := ["late"]) (ix := [1]) rfl ⟨rfl, rfl, rfl, rfl, rfl, rfl⟩ (pi_enumL (by rfl) T.z_enumerate (pa_cons (pv 0) pa_nil)) (fun _ _ _ _ _ => (pg_tupK K (n := 2) rfl (pgs_cons (pg_name (i := 0) (show (["place", "part", "late"] : List Str).Nodup by decide +kernel) rfl (Or.inl rfl)) (pgs_cons (pg_name (i := 1) (show (["place", "part", "late"] : List Str).Nodup by decide +kernel) rfl (Or.inl rfl)) pgs_nil)))) (fun _ _ _ _ _ => pts_nil) (fun _ _ _ _ _ => (pe_op op_addI (pe_op op_mulB (pv 1) (pe_op op_addI (pv 2) pe_int)) (pv 0)))))), ?_⟩
    have lb1 : intBits (late + 1) ≤ 9000 := bits_mono (intBits_add_le (m := 8000) (n := 1) lb (by decide)) (by decide)
    refine ⟨_, rfl, a, _, rfl, hA, fun acc hacc => comp_enumP (K := K) (a := a) (xs := ns.map V.int) (fun i => V.int (ns.getD i 0 * (late + 1) + (i : Int))) hA hacc ?_ ?_ ?_⟩
    · rw [List.length_map]; exact Nat.le_of_lt (small1000 hl)
    · intro i x t H2 R hx sm ht hR
      rw [List.getElem?_map] at hx
      obtain ⟨x', hx', rfl⟩ := Option.map_eq_some_iff.mp hx
      simp only [List.getD_eq_getElem?_getD, hx', Option.getD_some] at hR
      exact ⟨t, _, rfl, SqT.of ht, rfl, _, _, rfl, _, _, rfl, rfl, rfl, _, rfl, _, rfl, _, _, rfl, rfl, _, _, rfl, rfl, ⟨70000, 9000, hz x' (List.mem_of_getElem? hx'), lb1, by decide⟩, _, rfl, _, _, rfl, rfl, hR⟩
    · intro H2 sm ha
      rw [List.length_map] at ha
      refine q acc H2 sm hacc ?_
      rw [ha]
      unfold bellL
      rw [List.map_map]
      rfl
end
noncomputable def numTo (bs : List Int) : Nat → Int
  | 0 => 0
  | i + 1 => numTo bs i + ch (bs.getD i 0 + (i : Int)) ((i : Int) + 1)
noncomputable def numB (bs : List Int) : Int := numTo bs bs.length
structure IsBox (bs : List Int) : Prop where
  inc : bs.Pairwise (· ≤ ·)
  nn : ∀ x ∈ bs, 0 ≤ x
theorem sum_map_range (f : Nat → Int) (n : Nat) : ((List.range (n + 1)).map f).sum = ((List.range n).map f).sum + f n := by
  rw [List.range_succ, List.map_append, List.sum_append]
  simp
theorem numTo_sum (bs : List Int) : ∀ n : Nat, numTo bs n = ((List.range n).map fun i => ch (bs.getD i 0 + (i : Int)) ((i : Int) + 1)).sum
  | 0 => rfl
  | n + 1 => by
    rw [sum_map_range, ← numTo_sum bs n]
    rfl
theorem IsBox.get {bs : List Int} (B : IsBox bs) {i j : Nat} {x y : Int} (h : i ≤ j) (hx : bs[i]? = some x) (hy : bs[j]? = some y) : x ≤ y := by
  obtain ⟨h1, e1⟩ := List.getElem?_eq_some_iff.mp hx
  obtain ⟨h2, e2⟩ := List.getElem?_eq_some_iff.mp hy
  rcases Nat.lt_or_eq_of_le h with z | z
  · have := List.pairwise_iff_getElem.mp B.inc i j h1 h2 z
    omega
  · subst z; omega
theorem IsBox.nn' {bs : List Int} (B : IsBox bs) {i : Nat} : 0 ≤ bs.getD i 0 := by
  rw [List.getD_eq_getElem?_getD]
  cases h : bs[i]? with
  | none => exact Int.le_refl _
  | some x => exact B.nn x (List.mem_of_getElem? h)
theorem IsBox.le' {bs : List Int} (B : IsBox bs) {i j : Nat} (h : i ≤ j) (hj : j < bs.length) : bs.getD i 0 ≤ bs.getD j 0 := by
  have hi : i < bs.length := by omega
  rw [List.getD_eq_getElem?_getD, List.getD_eq_getElem?_getD, List.getElem?_eq_getElem hi, List.getElem?_eq_getElem hj]
  exact B.get h (List.getElem?_eq_getElem hi) (List.getElem?_eq_getElem hj)
theorem numTo_nonneg (bs : List Int) : ∀ n, 0 ≤ numTo bs n
  | 0 => Int.le_refl _
  | n + 1 => by
    have := numTo_nonneg bs n
    have := ch_nonneg (bs.getD n 0 + (n : Int)) ((n : Int) + 1)
    show 0 ≤ numTo bs n + _
    omega
theorem numTo_lt {bs : List Int} (B : IsBox bs) : ∀ (i : Nat) (c : Int), i ≤ bs.length → 0 ≤ c → (∀ j, j < i → bs.getD j 0 ≤ c) → numTo bs i < ch (c + (i : Int)) (i : Int)
  | 0, c, _, _, _ => by
    show (0 : Int) < ch (c + ((0 : Nat) : Int)) 0
    rw [ch_zero]; decide
  | i + 1, c, hi, hc, hb => by
    have b0 := B.nn' (i := i)
    have ih := numTo_lt B i (bs.getD i 0) (by omega) b0 (fun j hj => B.le' (by omega) (by omega))
    have p := ch_succ (n := bs.getD i 0 + (i : Int)) (k := (i : Int)) (by omega) (by omega)
    have m := ch_mono (m := bs.getD i 0 + (i : Int) + 1) (n := c + ((i + 1 : Nat) : Int)) (k := ((i + 1 : Nat) : Int)) (by have := hb i (by omega); omega)
    rw [show ((i + 1 : Nat) : Int) = (i : Int) + 1 by omega] at m ⊢
    show numTo bs i + ch (bs.getD i 0 + (i : Int)) ((i : Int) + 1) < _
    omega
theorem numTo_top {bs : List Int} (B : IsBox bs) {i : Nat} (hi : i < bs.length) : IsTop ((i : Int) + 1) (numTo bs (i + 1)) (bs.getD i 0 + (i : Int)) := by
  have b0 := B.nn' (i := i)
  have a := numTo_lt B (i + 1) (bs.getD i 0) hi b0 (fun j hj => B.le' (by omega) hi)
  have n0 := numTo_nonneg bs i
  refine ⟨by omega, ?_, ?_⟩
  · show _ ≤ numTo bs i + _
    omega
  · rw [show ((i + 1 : Nat) : Int) = (i : Int) + 1 by omega] at a
    rw [show bs.getD i 0 + (i : Int) + 1 = bs.getD i 0 + ((i : Int) + 1) by omega]
    exact a
section
variable {P : Program} {w : World} {K : PySem.W.Frag} {mg : Str → Option Value} {base : Heap}
noncomputable def spNum (K : PySem.W.Frag) : Sp := fun vs H Q _ => ∃ (a : Addr) (bs : List Int), vs = [.ref a] ∧ SqL K H a (bs.map V.int) ∧ bs.length ≤ 900 ∧ (∀ x ∈ bs, 0 ≤ x) ∧ Szs 70000 bs ∧
  ∀ H', Same H H' → Q (.int (numB bs)) H'
theorem sc_box_number : FnScope ["box"] ["box"] (defScope st_box_number) := ⟨rfl, rfl, rfl, by decide +kernel, rfl, by decide +kernel, by decide +kernel⟩
theorem ok_box_number (D : Def K mg "box_number" st_box_number ["box"]) (T : Txt K mg) (G_choose : Fn P w K mg base 1 "choose" ["n", "k"] spChoose) : Fn P w K mg base 2 "box_number" ["box"] (spNum K) := by
  refine D.fn sc_box_number (fun vs H Q E h => ?_) (fun f cdv A outer s H vs Q E hr h => ?_)
  · obtain ⟨a, bs, rfl, _⟩ := h
    rfl
  · obtain ⟨a, bs, rfl, hA, hl, nn, sz, q⟩ := h
    refine ⟨_, (pss_one (ps_ret (pe_callB (call_sum rfl) (by rfl) T.z_sum b_sum (pa_cons (pe_comp (own := ["place", "part"]) (fr := []) (ix := []) rfl ⟨rfl, rfl, rfl, rfl, rfl, rfl⟩ (pi_enumL (by rfl) T.z_enumerate (pa_cons (pv 0) pa_nil)) (fun _ _ _ _ _ => (pg_tupK K (n := 2) rfl (pgs_cons (pg_name (i := 0) (show (["place", "part"] : List Str).Nodup by decide +kernel) rfl (Or.inl rfl)) (pgs_cons (pg_name (i := 1) (show (["place", "part"] : List Str).Nodup by decide +kernel) rfl (Or.inl rfl)) pgs_nil)))) (fun _ _ _ _ _ => pts_nil) (fun _ _ _ _ _ => (pe_fn G_choose (hr.mono (by decide)) (by rfl) (pa_cons (pe_op op_addI (pv 1) (pv 0)) (pa_cons (pe_op op_addI (pv 0) pe_int) pa_nil))))) pa_nil)))), ?_⟩
    refine ⟨_, rfl, a, _, rfl, hA, fun acc hacc => comp_enumP (K := K) (a := a) (xs := bs.map V.int) (fun i => V.int (ch (bs.getD i 0 + (i : Int)) ((i : Int) + 1))) hA hacc ?_ ?_ ?_⟩
    · rw [List.length_map]; exact Nat.le_of_lt (small1000 (by omega))
    · intro i x t H2 R hx sm ht hR
      rw [List.getElem?_map] at hx
      obtain ⟨x', hx', rfl⟩ := Option.map_eq_some_iff.mp hx
      simp only [List.getD_eq_getElem?_getD, hx', Option.getD_some] at hR
      have hi := (List.getElem?_eq_some_iff.mp hx').1
      have x0 := nn x' (List.mem_of_getElem? hx')
      have xb := sz x' (List.mem_of_getElem? hx')
      exact ⟨t, _, rfl, SqT.of ht, rfl, _, _, rfl, _, _, rfl, rfl, rfl, _, rfl, _, rfl, _, _, rfl, rfl, _, rfl, _, _, rfl, rfl, _, _, rfl, by omega, by omega, by omega, bits_mono (intBits_add_le (m := 70000) (n := 64) xb (bits_of (by omega) (by omega))) (by decide), hR⟩
    · intro H2 sm ha
      rw [List.length_map] at ha
      refine ⟨acc, (List.range bs.length).map fun i => ch (bs.getD i 0 + (i : Int)) ((i : Int) + 1), rfl, SqL.of ?_, ?_⟩
      · rw [ha, List.map_map]; rfl
      · rw [← numTo_sum]
        exact q H2 sm
end
noncomputable def AscB : Int → List Int → Prop
  | _, [] => True
  | b, x :: r => b ≤ x ∧ AscB x r
theorem ascb_all : ∀ {b : Int} {xs : List Int}, AscB b xs → ∀ x ∈ xs, b ≤ x
  | _, [], _, _, z => nomatch z
  | b, y :: r, h, x, hx => by
    rcases List.mem_cons.mp hx with e | e
    · rw [e]; exact h.1
    · have := ascb_all h.2 x e
      have := h.1
      omega
theorem ascb_pw : ∀ {b : Int} {xs : List Int}, AscB b xs → xs.Pairwise (· ≤ ·)
  | _, [], _ => List.Pairwise.nil
  | _, _ :: _, h => List.pairwise_cons.mpr ⟨ascb_all h.2, ascb_pw h.2⟩
theorem ascb_of : ∀ {b : Int} {xs : List Int}, xs.Pairwise (· ≤ ·) → (∀ x ∈ xs, b ≤ x) → AscB b xs
  | _, [], _, _ => trivial
  | _, x :: r, hp, h => by
    obtain ⟨p1, p2⟩ := List.pairwise_cons.mp hp
    exact ⟨h x (by simp), ascb_of p2 p1⟩
theorem isBox_asc {bs : List Int} : IsBox bs ↔ AscB 0 bs := ⟨fun h => ascb_of h.inc h.nn, fun h => ⟨ascb_pw h, ascb_all h⟩⟩
theorem ascb_drop {bs : List Int} {i : Nat} {x b : Int} (h : bs[i]? = some x) : AscB b (bs.drop i) ↔ b ≤ x ∧ AscB x (bs.drop (i + 1)) := by
  obtain ⟨hi, e⟩ := List.getElem?_eq_some_iff.mp h
  rw [List.drop_eq_getElem_cons hi, e]
  exact Iff.rfl
section
variable {P : Program} {w : World} {K : PySem.W.Frag} {mg : Str → Option Value} {base : Heap}
noncomputable def spHBoxE (K : PySem.W.Frag) (C : Addr) : Sp := fun vs H Q E => ∃ (a : Addr) (ns : List Int) (late : Int), vs = [.ref a, .int late] ∧ SqL K H a (ns.map V.int) ∧ ns.length ≤ 1000 ∧ 0 ≤ late ∧ intBits late ≤ 8000 ∧
  (IsBox (boxL late ns) → ∀ (p : Addr) (H' : Hp), Same H H' → H p = none → H' p = some (.lst ((boxL late ns).map V.int)) → Q (.ref p) H') ∧
  (¬ IsBox (boxL late ns) → ∀ H', Same H H' → E (.ref C) none H')
theorem sc_heard_box : FnScope ["reading", "late", "box", "before", "part"] ["reading", "late"] (defScope st_heard_box) := ⟨rfl, rfl, rfl, by decide +kernel, rfl, by decide +kernel, by decide +kernel⟩
theorem ok_heard_boxE {C_NoReading : Addr} (D : Def K mg "heard_box" st_heard_box ["reading", "late"]) (T : Txt K mg) (m_NoReading : mg "NoReading" = some (.ref C_NoReading)) (x_NoReading : PySem.W.excIn K C_NoReading bmV "ValueError.__new__" = true) (G_box_of : Fn P w K mg base 1 "box_of" ["row", "late"] (spBoxOf K)) : FnE P w K mg base 2 "heard_box" ["reading", "late"] (spHBoxE K C_NoReading) := by
  refine D.fnE sc_heard_box (fun vs H Q E h => ?_) (fun f cdv A outer s H vs Q E hr h => ?_)
  · obtain ⟨a, ns, late, rfl, _⟩ := h
    rfl
  · obtain ⟨a, ns, late, rfl, hA, hl, l0, lb, q, q2⟩ := h
    refine ⟨_, (pss_cons (ps_set (i := 2) sc_heard_box.nd rfl (Or.inl rfl) (pe_fn G_box_of (hr.mono (by decide)) (by rfl) (pa_cons (pv 0) (pa_cons (pv 1) pa_nil))))
      (pss_cons (ps_set (i := 3) sc_heard_box.nd rfl (Or.inl rfl) pe_int)
      (pss_cons (ps_for PassesOwn.leaving rfl (pi_list (pv 2)) (pg_name (i := 4) sc_heard_box.nd rfl (Or.inl rfl))
        (pss_cons (ps_if (pt_cmpR op_ltI (pv 4) (pv 3) (nomark _))
          (pss_one (ps_raise PySem.F.excBase_ValueError x_NoReading (by rfl) m_NoReading (pa_cons pe_str pa_nil)))
          pss_nil)
        (pss_one (ps_set (i := 3) sc_heard_box.nd rfl (Or.inl rfl) (pv 4)))))
      (pss_one (ps_ret (pv 2)))))), ?_⟩
    refine ⟨_, rfl, _, rfl, a, ns, late, rfl, hA, hl, l0, lb, fun p H1 s1 hp h1 => ?_⟩
    generalize hbs : boxL late ns = bs at h1 q q2
    refine ⟨_, rfl, p, rfl, ⟨_, SqL.of h1⟩, for_list (K := K) (a := p) (xs := bs.map V.int) (fun i σ H2 => ∃ (before : Int) (v4 : Option V), σ = [some (.ref a), some (.int late), some (.ref p), some (.int before), v4] ∧ H2 = H1 ∧ (IsBox bs ↔ AscB before (bs.drop i)))
      ⟨0, none, rfl, rfl, by rw [List.drop_zero]; exact isBox_asc⟩ (fun i σ H2 _ ⟨_, _, _, e, _⟩ => e ▸ SqL.of h1) ?_ ?_⟩
    · rintro i y σ H2 hi ⟨before, v4, rfl, rfl, hb⟩
      rw [List.getElem?_map] at hi
      obtain ⟨x, hx, rfl⟩ := Option.map_eq_some_iff.mp hi
      rw [ascb_drop hx] at hb
      refine ⟨_, rfl, _, rfl, _, _, rfl, rfl, _, rfl, ifD (fun h => ?_) (fun h => ⟨_, rfl, x, _, rfl, rfl, hb.trans ⟨fun z => z.2, fun z => ⟨by omega, z⟩⟩⟩)⟩
      exact ⟨(by decide), q2 (fun B => by have := (hb.mp B).1; omega) _ s1⟩
    · rintro σ H2 ⟨before, v4, rfl, rfl, hb⟩
      rw [List.length_map, List.drop_length] at hb
      exact ⟨_, rfl, q (hb.mpr trivial) p _ s1 hp h1⟩
end
theorem heard_as {late : Int} {bs ms : List Int} (l0 : 0 ≤ late) (h : Al late (bellL late bs) ms) : boxL late ms = bs := by
  obtain ⟨hl, hf⟩ := (al_iff _ _ _).mp h
  rw [bellL_length] at hl
  refine List.ext_getElem? fun i => ?_
  by_cases hi : i < bs.length
  · have hm : i < ms.length := by omega
    have gb := bellL_get (late := late) (List.getElem?_eq_getElem hi)
    have gm := List.getElem?_eq_getElem hm
    obtain ⟨f1, f2⟩ := hf i _ _ gb gm
    rw [boxL_get gm, List.getElem?_eq_getElem hi]
    congr 1
    generalize bs[i] = b at gb f1 f2
    generalize ms[i] = m at gm f1 f2
    have e : m - (i : Int) = (m - (i : Int) - b * (late + 1)) + b * (late + 1) := by omega
    rw [e, Int.add_mul_ediv_right _ _ (by omega), Int.ediv_eq_zero_of_lt (by omega) (by omega)]
    omega
  · rw [List.getElem?_eq_none (by rw [boxL_length]; omega), List.getElem?_eq_none (by omega)]
theorem bell_sorted {late : Int} {bs : List Int} (l0 : 0 ≤ late) (B : IsBox bs) : (bellL late bs).Pairwise (· ≤ ·) := by
  refine List.pairwise_iff_getElem.mpr fun i j hi hj hij => ?_
  obtain ⟨x, hx, ex⟩ := bellL_get' (List.getElem?_eq_getElem hi)
  obtain ⟨y, hy, ey⟩ := bellL_get' (List.getElem?_eq_getElem hj)
  rw [ex, ey]
  have := Int.mul_le_mul_of_nonneg_right (B.get (by omega) hx hy) (show 0 ≤ late + 1 by omega)
  omega
theorem getD_set {bs : List Int} {i j : Nat} {v : Int} (hi : i < bs.length) : (bs.set i v).getD j 0 = if j = i then v else bs.getD j 0 := by
  rw [List.getD_eq_getElem?_getD, List.getD_eq_getElem?_getD, List.getElem?_set]
  by_cases h : i = j
  · subst h; simp [hi]
  · rw [if_neg h, if_neg (fun z => h z.symm)]
theorem numTo_set {bs : List Int} {i : Nat} {v : Int} (hi : i < bs.length) : ∀ n : Nat, numTo (bs.set i v) n = numTo bs n + if i < n then ch (v + (i : Int)) ((i : Int) + 1) - ch (bs.getD i 0 + (i : Int)) ((i : Int) + 1) else 0
  | 0 => by rw [if_neg (Nat.not_lt_zero _)]; rfl
  | n + 1 => by
    show numTo (bs.set i v) n + ch ((bs.set i v).getD n 0 + (n : Int)) ((n : Int) + 1) = numTo bs n + ch (bs.getD n 0 + (n : Int)) ((n : Int) + 1) + _
    rw [numTo_set hi n, getD_set hi]
    by_cases h1 : n = i
    · subst h1
      rw [if_pos rfl, if_neg (Nat.lt_irrefl _), if_pos (Nat.lt_succ_self _)]
      omega
    · rw [if_neg h1]
      by_cases h2 : i < n
      · rw [if_pos h2, if_pos (by omega)]; omega
      · rw [if_neg h2, if_neg (by omega)]; omega
theorem numTo_zeros (m : Nat) : ∀ n : Nat, numTo (List.replicate m 0) n = 0
  | 0 => rfl
  | n + 1 => by
    have e : (List.replicate m (0 : Int)).getD n 0 = 0 := by
      rw [List.getD_eq_getElem?_getD, List.getElem?_replicate]
      split <;> rfl
    show numTo (List.replicate m 0) n + ch ((List.replicate m (0 : Int)).getD n 0 + (n : Int)) ((n : Int) + 1) = 0
    rw [numTo_zeros m n, e, ch_above (by omega) (by omega)]
    rfl
theorem flat_zeros : ∀ n : Nat, (List.replicate n [V.int 0]).flatten = (List.replicate n (0 : Int)).map V.int
  | 0 => rfl
  | n + 1 => by
    rw [List.replicate_succ, List.flatten_cons, flat_zeros n, List.replicate_succ, List.map_cons]
    rfl
theorem rng_down {n : Nat} (h : n ≤ 1000) : (-1 : Int) ≠ 0 ∧ (-1 : Int).natAbs < 1073741824 ∧ Builtin.Range.small ((n : Int) - 1) (-1) (-1) = true ∧ Builtin.Range.rangeSize ((n : Int) - 1) (-1) (-1) = (n : Int) := by
  have hs : Builtin.Range.rangeSize ((n : Int) - 1) (-1) (-1) = (n : Int) := by
    unfold Builtin.Range.rangeSize
    rw [if_neg (by decide)]
    by_cases z : n = 0
    · subst z; rfl
    · rw [if_pos (by omega)]
      show ((n : Int) - 1 - -1 - 1) / (- -1) + 1 = n
      rw [show (- -1 : Int) = 1 by decide, Int.ediv_one]
      omega
  refine ⟨by decide, by decide, ?_, hs⟩
  unfold Builtin.Range.small
  rw [hs]
  simp only [Builtin.Range.rangeFitsLong]
  simp
  omega
theorem isBox_of {bs : List Int} (h0 : ∀ j, j < bs.length → 0 ≤ bs.getD j 0) (hm : ∀ j k, j ≤ k → k < bs.length → bs.getD j 0 ≤ bs.getD k 0) : IsBox bs := by
  have eg : ∀ (j : Nat) (h : j < bs.length), bs.getD j 0 = bs[j] := fun j h => by rw [List.getD_eq_getElem?_getD, List.getElem?_eq_getElem h]; rfl
  refine ⟨List.pairwise_iff_getElem.mpr fun i j hi hj hij => ?_, fun x hx => ?_⟩
  · have := hm i j (by omega) hj
    rw [eg i hi, eg j hj] at this
    exact this
  · obtain ⟨j, hj, rfl⟩ := List.getElem_of_mem hx
    rw [← eg j hj]
    exact h0 j hj
theorem C_more (m : Nat) : ∀ n : Nat, m < C (m + (n + 1)) (n + 1)
  | 0 => by rw [C_one]; omega
  | n + 1 => by
    have := C_more m n
    rw [show m + (n + 1 + 1) = (m + (n + 1)) + 1 by omega, C_succ]
    omega
theorem ch_more {m : Int} {n : Nat} (h0 : 0 ≤ m) (hz : (n : Int) = 0 → m = 0) : m < ch (m + (n : Int)) (n : Int) := by
  cases n with
  | zero =>
    have := hz rfl
    subst this
    rw [show ((0 : Nat) : Int) = 0 from rfl, ch_zero]
    decide
  | succ n =>
    obtain ⟨r, rfl⟩ : ∃ r : Nat, m = (r : Int) := ⟨m.toNat, by omega⟩
    rw [← Int.natCast_add, ch_nat]
    have := C_more r n
    omega
theorem top_lt {k a b c : Int} (h1 : ch a k ≤ c) (h2 : c < ch b k) : a < b := by
  rcases (by omega : a < b ∨ b ≤ a) with z | z
  · exact z
  · have := ch_mono (k := k) z
    omega
section
variable {P : Program} {w : World} {K : PySem.W.Frag} {mg : Str → Option Value} {base : Heap}
noncomputable def spBoxMsg (K : PySem.W.Frag) : Sp := fun vs H Q _ => ∃ message bells : Int, vs = [.int message, .int bells] ∧ 0 ≤ message ∧ 0 ≤ bells ∧ bells ≤ 60 ∧ (bells = 0 → message = 0) ∧ intBits message ≤ 50000 ∧
  ∀ (p : Addr) (bs : List Int) (H' : Hp), Same H H' → H p = none → H' p = some (.lst (bs.map V.int)) → IsBox bs → bs.length = bells.toNat → numB bs = message → Szs 60010 bs → Q (.ref p) H'
theorem sc_box_of_message : FnScope ["message", "bells", "box", "left", "top", "place"] ["message", "bells"] (defScope st_box_of_message) := ⟨rfl, rfl, rfl, by decide +kernel, rfl, by decide +kernel, by decide +kernel⟩
theorem ok_box_of_message (D : Def K mg "box_of_message" st_box_of_message ["message", "bells"]) (T : Txt K mg) (G_above_top : Fn P w K mg base 37 "above_top" ["k", "number"] spAbove) (G_top_from : Fn P w K mg base 37 "top_from" ["start", "k", "number"] spTopFrom) (G_choose : Fn P w K mg base 1 "choose" ["n", "k"] spChoose) :
    Fn P w K mg base 39 "box_of_message" ["message", "bells"] (spBoxMsg K) := by
  refine D.fn sc_box_of_message (fun vs H Q E h => ?_) (fun f cdv A outer s H vs Q E hr h => ?_)
  · obtain ⟨a, bs, rfl, _⟩ := h
    rfl
  · obtain ⟨message, bells, rfl, m0, b0, b60, mz, mb, q⟩ := h
    refine ⟨_, (pss_cons (ps_if (pw_or (pt_cmpR op_ltI (pv 0) pe_int (nomark _)) (pw_or1 (pw_and (pt_cmpR op_eqI (pv 1) pe_int (nomark _)) (pw_and1 (pt_cmpR op_neI (pv 0) pe_int (nomark _)))).pt)).pt
        (pss_one (ps_never))
        pss_nil)
      (pss_cons (ps_set (i := 2) sc_box_of_message.nd rfl (Or.inl rfl) (pe_op op_rep (pe_lst (pa_cons pe_int pa_nil)) (pv 1)))
      (pss_cons (ps_set (i := 3) sc_box_of_message.nd rfl (Or.inl rfl) (pv 0))
      (pss_cons (ps_set (i := 4) sc_box_of_message.nd rfl (Or.inl rfl) (pe_op op_addI (pv 0) (pv 1)))
      (pss_cons (ps_for PassesOwn.never rfl (pi_range3 (by rfl) T.z_range (pa_cons (pe_op op_subI (pv 1) pe_int) (pa_cons (pe_un un_neg pe_int) (pa_cons (pe_un un_neg pe_int) pa_nil)))) (pg_name (i := 5) sc_box_of_message.nd rfl (Or.inl rfl))
        (pss_cons (ps_set (i := 4) sc_box_of_message.nd rfl (Or.inl rfl) (pe_fn G_top_from (hr.mono (by decide)) (by rfl) (pa_cons (pe_callB (call_min2 rfl) (by rfl) T.z_min b_min (pa_cons (pe_op op_subI (pv 4) pe_int) (pa_cons (pe_fn G_above_top (hr.mono (by decide)) (by rfl) (pa_cons (pe_op op_addI (pv 5) pe_int) (pa_cons (pv 3) pa_nil))) pa_nil))) (pa_cons (pe_op op_addI (pv 5) pe_int) (pa_cons (pv 3) pa_nil)))))
        (pss_cons (ps_asg (pe_op op_subI (pv 4) (pv 5)) (pg_sub (pv 2) (pv 5) set_list))
        (pss_one (ps_set (i := 3) sc_box_of_message.nd rfl (Or.inl rfl) (pe_op op_subI (pv 3) (pe_fn G_choose (hr.mono (by decide)) (by rfl) (pa_cons (pv 4) (pa_cons (pe_op op_addI (pv 5) pe_int) pa_nil)))))))))
      (pss_one (ps_ret (pv 2)))))))), ?_⟩
    obtain ⟨n, rfl⟩ : ∃ n : Nat, bells = (n : Int) := ⟨bells.toNat, by omega⟩
    refine ⟨_, rfl, _, _, rfl, rfl, _, rfl, ifF (by omega) ⟨_, rfl, _, _, rfl, rfl, _, rfl, ?_⟩⟩
    refine ifD (fun z => ⟨_, rfl, _, _, rfl, rfl, _, rfl, iteNS (mz z) ?x1⟩) (fun z => ?x2)
    all_goals
      refine ⟨(by decide), fun l hl => ⟨_, rfl, l, (n : Int), _, rfl, rfl, upd_same, by omega, by omega, ?_, fun p hp => ?_⟩⟩
      · show 1 * ((n : Int)).toNat ≤ sizeLine
        exact Nat.le_of_lt (small1000 (by omega))
      rw [show ((n : Int)).toNat = n by omega, flat_zeros]
      have hp0 : H p = none := (Same.new hl).free hp
      have s1 : Same H (upd (upd H l (.lst [V.int 0])) p (.lst ((List.replicate n (0 : Int)).map V.int))) := (Same.new hl).put hp
      have h1 : (upd (upd H l (.lst [V.int 0])) p (.lst ((List.replicate n (0 : Int)).map V.int))) p = some (.lst ((List.replicate n (0 : Int)).map V.int)) := upd_same
      generalize upd (upd H l (.lst [V.int 0])) p (.lst ((List.replicate n (0 : Int)).map V.int)) = H1 at s1 h1 ⊢
      have mb2 : intBits (message + (n : Int)) ≤ 60000 := bits_mono (intBits_add_le (m := 50000) (n := 64) mb (bits_of (by omega) (by omega))) (by decide)
      refine ⟨_, rfl, _, rfl, _, rfl, _, _, rfl, rfl, _, rfl, _, _, rfl, rfl, 1, rfl, 1, rfl, (n : Int) - 1, -1, -1, n, rfl, rng_down (by omega), for_range3 (lo := (n : Int) - 1) (c := -1) (n := n) (fun i σ H2 => ∃ (bs : List Int) (left top : Int) (v5 : Option V), σ = [some (.int message), some (.int (n : Int)), some (.ref p), some (.int left), some (.int top), v5] ∧ Same H H2 ∧ H2 p = some (.lst (bs.map V.int)) ∧ bs.length = n ∧ 0 ≤ left ∧ left ≤ message ∧ left + numTo bs n = message ∧ (∀ j, j < n - i → bs.getD j 0 = 0) ∧ (∀ j, j < n → 0 ≤ bs.getD j 0) ∧ (∀ j k, n - i ≤ j → j ≤ k → k < n → bs.getD j 0 ≤ bs.getD k 0) ∧ left < ch top ((n - i : Nat) : Int) ∧ ((n - i : Nat) : Int) ≤ top ∧ intBits top ≤ 60000 ∧ (0 < i → top = bs.getD (n - i) 0 + ((n - i : Nat) : Int)) ∧ Szs 60010 bs)
        ⟨List.replicate n 0, message, message + (n : Int), none, rfl, s1, h1, by rw [List.length_replicate], m0, Int.le_refl _, by rw [numTo_zeros]; omega, fun j _ => ?_, fun j _ => ?_, fun j k h1 h2 h3 => by omega, by rw [Nat.sub_zero]; exact ch_more m0 mz, by omega, mb2, fun z => absurd z (by omega), fun x hx => ?_⟩ ?_ ?_⟩
      · rw [List.getD_eq_getElem?_getD, List.getElem?_replicate]
        split <;> rfl
      · rw [List.getD_eq_getElem?_getD, List.getElem?_replicate]
        split <;> decide
      · rw [(List.mem_replicate.mp hx).2]; decide
      · rintro i σ H2 hi ⟨bs, left, top, v5, rfl, sm, hB, hl2, l0, l1, sum, z0, nn, mono, lt, tge, tbb, teq, sz⟩
        obtain ⟨pl, hpl⟩ : ∃ pl : Nat, pl = n - 1 - i := ⟨_, rfl⟩
        have ep : (n : Int) - 1 + (i : Int) * -1 = (pl : Int) := by omega
        rw [ep]
        have hpb : pl < bs.length := by omega
        have hni : n - i = pl + 1 := by omega
        rw [hni] at lt tge teq
        refine ⟨_, rfl, _, _, rfl, rfl, _, rfl, _, _, rfl, rfl, _, rfl, (pl : Int) + 1, left, rfl, by omega, by omega, l0, intBits_le_of_natAbs (y := message) (by omega) mb, fun a a1 a2 a3 => ⟨_, _, rfl, _, rfl, _, _, rfl, rfl, _, rfl, _, (pl : Int) + 1, left, rfl, by omega, by omega, l0, ?_, ?_, ?_, fun t tp tb => ?_⟩⟩
        · split <;> omega
        · split
          · exact a2
          · rw [show top - 1 + 1 = top by omega, show ((pl : Int) + 1) = ((pl + 1 : Nat) : Int) by omega]
            exact lt
        · split
          · exact a3
          · exact intBits_le_of_natAbs (y := top) (by omega) tbb
        have t0 := tp.lo
        have t1 := tp.le
        have t2 := tp.lt
        refine ⟨_, rfl, _, rfl, _, _, rfl, rfl, _, rfl, _, rfl, p, _, _, pl, rfl, rfl, hB, ?_, ?_⟩
        · unfold ixN
          rw [List.length_map, if_pos (by omega), if_pos (by omega), Int.toNat_natCast]
        have pas := ch_succ (n := t) (k := (pl : Int)) (by omega) (by omega)
        refine ⟨_, rfl, _, rfl, _, rfl, _, _, rfl, rfl, t, (pl : Int) + 1, rfl, by omega, by omega, by omega, bits_mono tb (by decide), _, _, rfl, rfl, ?_⟩
        have ge := ch_nonneg t ((pl : Int) + 1)
        refine ⟨bs.set pl (t - (pl : Int)), left - ch t ((pl : Int) + 1), t, _, rfl, sm.wr hp0, by rw [upd_same, List.map_set], by rw [List.length_set]; exact hl2, by omega, by omega, ?_, fun j hj => ?_, fun j hj => ?_, fun j k h1 h2 h3 => ?_, ?_, by omega, tb, fun _ => ?_, fun x hx => ?_⟩
        · rw [numTo_set hpb, if_pos (by omega), z0 pl (by omega), ch_above (n := 0 + (pl : Int)) (by omega) (by omega), show t - (pl : Int) + (pl : Int) = t by omega]
          omega
        · rw [getD_set hpb, if_neg (by omega)]
          exact z0 j (by omega)
        · rw [getD_set hpb]
          split
          · omega
          · exact nn j hj
        · rw [getD_set hpb, getD_set hpb]
          by_cases e1 : j = pl
          · rw [if_pos e1]
            by_cases e2 : k = pl
            · rw [if_pos e2]; exact Int.le_refl _
            · rw [if_neg e2]
              have := top_lt t1 (by rw [show ((pl : Int) + 1) = ((pl + 1 : Nat) : Int) by omega]; exact lt)
              have := teq (by omega)
              have := mono (pl + 1) k (by omega) (by omega) h3
              omega
          · rw [if_neg e1, if_neg (by omega)]
            exact mono j k (by omega) h2 h3
        · rw [show n - (i + 1) = pl by omega]
          omega
        · rw [show n - (i + 1) = pl by omega, getD_set hpb, if_pos rfl, show t - (pl : Int) + (pl : Int) = t by omega]
        · rcases List.mem_or_eq_of_mem_set hx with z | z
          · exact sz x z
          · rw [z]
            exact bits_mono (intBits_sub_le (m := 60000) (n := 64) tb (bits_of (by omega) (by omega))) (by decide)
      · rintro σ H2 ⟨bs, left, top, v5, rfl, sm, hB, hl2, l0, l1, sum, z0, nn, mono, lt, tge, tbb, teq, sz⟩
        rw [Nat.sub_self] at z0 mono lt
        have e0 : left = 0 := by
          by_cases hn : n = 0
          · subst hn
            have : message = 0 := mz rfl
            omega
          · rw [show ((0 : Nat) : Int) = 0 from rfl, ch_zero] at lt
            omega
        refine ⟨_, rfl, q p bs H2 sm hp0 hB (isBox_of (fun j hj => nn j (by omega)) (fun j k h1 h2 => mono j k (Nat.zero_le _) h1 (by omega))) (by omega) ?_ sz⟩
        unfold numB
        rw [hl2]
        omega
end
noncomputable def cnt (turns bells late : Int) : Int := if turns < bells then 0 else ch ((turns - bells) / (late + 1) + bells) bells
noncomputable def spCount : Sp := fun vs H Q _ => ∃ turns bells late : Int, vs = [.int turns, .int bells, .int late] ∧ 0 ≤ bells ∧ bells ≤ 1000 ∧ 0 ≤ late ∧ intBits late ≤ 8000 ∧ intBits turns ≤ 70000 ∧ Q (.int (cnt turns bells late)) H
section
variable {P : Program} {w : World} {K : PySem.W.Frag} {mg : Str → Option Value} {base : Heap}
noncomputable def spGreat : Sp := fun vs H Q _ => ∃ turns bells late : Int, vs = [.int turns, .int bells, .int late] ∧ 0 ≤ late ∧ intBits late ≤ 8000 ∧ Q (.int ((turns - bells) / (late + 1))) H
theorem sc_greatest_part : FnScope ["turns", "bells", "late"] ["turns", "bells", "late"] (defScope st_greatest_part) := ⟨rfl, rfl, rfl, by decide +kernel, rfl, by decide +kernel, by decide +kernel⟩
theorem ok_greatest_part (D : Def K mg "greatest_part" st_greatest_part ["turns", "bells", "late"]) : Fn P w K mg base 1 "greatest_part" ["turns", "bells", "late"] spGreat := by
  refine D.fn sc_greatest_part (fun vs H Q E h => ?_) (fun f cdv A outer s H vs Q E hr h => ?_)
  · obtain ⟨a, b, c, rfl, _⟩ := h
    rfl
  · obtain ⟨turns, bells, late, rfl, l0, lb, q⟩ := h
    refine ⟨_, (pss_one (ps_ret (pe_op op_fdivB (pe_op op_subI (pv 0) (pv 1)) (pe_op op_addI (pv 2) pe_int)))), ?_⟩
    have lb1 : intBits (late + 1) ≤ 9000 := bits_mono (intBits_add_le (m := 8000) (n := 1) lb (by decide)) (by decide)
    exact ⟨_, rfl, _, rfl, _, _, rfl, rfl, _, rfl, _, _, rfl, rfl, _, _, rfl, rfl, ⟨by omega, lb1⟩, q⟩
theorem sc_box_count : FnScope ["turns", "bells", "late"] ["turns", "bells", "late"] (defScope st_box_count) := ⟨rfl, rfl, rfl, by decide +kernel, rfl, by decide +kernel, by decide +kernel⟩
theorem ok_box_count (D : Def K mg "box_count" st_box_count ["turns", "bells", "late"]) (T : Txt K mg) (G_greatest_part : Fn P w K mg base 1 "greatest_part" ["turns", "bells", "late"] spGreat) (G_choose : Fn P w K mg base 1 "choose" ["n", "k"] spChoose) : Fn P w K mg base 2 "box_count" ["turns", "bells", "late"] spCount := by
  refine D.fn sc_box_count (fun vs H Q E h => ?_) (fun f cdv A outer s H vs Q E hr h => ?_)
  · obtain ⟨a, b, c, rfl, _⟩ := h
    rfl
  · obtain ⟨turns, bells, late, rfl, b0, b1, l0, lb, tb, q⟩ := h
    refine ⟨_, (pss_cons (ps_if (pt_cmpR op_gtI (pv 1) (pv 0) (nomark _))
        (pss_one (ps_ret pe_int))
        pss_nil)
      (pss_one (ps_ret (pe_fn G_choose (hr.mono (by decide)) (by rfl) (pa_cons (pe_op op_addI (pe_fn G_greatest_part (hr.mono (by decide)) (by rfl) (pa_cons (pv 0) (pa_cons (pv 1) (pa_cons (pv 2) pa_nil)))) (pv 1)) (pa_cons (pv 1) pa_nil)))))), ?_⟩
    unfold cnt at q
    refine ⟨_, rfl, _, rfl, _, _, rfl, rfl, _, rfl, ifD (fun h => ?_) (fun h => ?_)⟩
    · rw [if_pos h] at q
      exact q
    · rw [if_neg h] at q
      have d0 : 0 ≤ (turns - bells) / (late + 1) := Int.ediv_nonneg (by omega) (by omega)
      have db : intBits ((turns - bells) / (late + 1)) ≤ 70000 := by
        have h2 := Int.ediv_le_self (late + 1) (show 0 ≤ turns - bells by omega)
        exact intBits_le_of_natAbs (y := turns) (by omega) tb
      refine ⟨_, rfl, _, rfl, _, rfl, turns, bells, late, rfl, l0, lb, _, rfl, _, _, rfl, rfl, _, rfl, _, bells, rfl, by omega, b0, b1, ?_, q⟩
      exact bits_mono (intBits_add_le (m := 70000) (n := 64) db (bits_of b0 (by omega))) (by decide)
end
theorem cnt_pos {turns bells late : Int} (b0 : 0 ≤ bells) (h : bells ≤ turns) (l0 : 0 ≤ late) : 0 < cnt turns bells late := by
  unfold cnt
  rw [if_neg (by omega)]
  have d0 : 0 ≤ (turns - bells) / (late + 1) := Int.ediv_nonneg (by omega) (by omega)
  exact ch_pos b0 (by omega)
theorem cnt_bits {turns bells late : Int} {m : Nat} (b0 : 0 ≤ bells) (b1 : bells ≤ 61) (l0 : 0 ≤ late) (t0 : 0 ≤ turns) (tb : intBits turns ≤ m) (hm : 7 ≤ m) : intBits (cnt turns bells late) ≤ (m + 1) * 61 + 1 := by
  unfold cnt
  split
  · exact Nat.zero_le _
  · have d0 : 0 ≤ (turns - bells) / (late + 1) := Int.ediv_nonneg (by omega) (by omega)
    have d1 : (turns - bells) / (late + 1) ≤ turns - bells := Int.ediv_le_self _ (by omega)
    have nb : intBits ((turns - bells) / (late + 1) + bells) ≤ m + 1 := bits_mono (intBits_le_of_natAbs (y := turns) (by omega) tb) (by omega)
    have := bits_ch (k := bells.toNat) nb (by omega)
    rw [show ((bells.toNat : Nat) : Int) = bells by omega] at this
    exact bits_mono this (Nat.add_le_add_right (Nat.mul_le_mul_left _ (by omega)) _)
theorem bits_lt {x y : Int} {m : Nat} (h0 : 0 ≤ x) (h1 : x < y) (hy : intBits y ≤ m) : intBits x ≤ m := intBits_le_of_natAbs (y := y) (by omega) hy
section
variable {P : Program} {w : World} {K : PySem.W.Frag} {mg : Str → Option Value} {base : Heap}
noncomputable def spWritten (K : PySem.W.Frag) : Sp := fun vs H Q _ => ∃ message turns bells late : Int, vs = [.int message, .int turns, .int bells, .int late] ∧ 0 ≤ message ∧ message < cnt turns bells late ∧ 0 ≤ bells ∧ bells ≤ 60 ∧ 0 ≤ late ∧ intBits late ≤ 8000 ∧ intBits turns ≤ 70000 ∧ intBits message ≤ 50000 ∧
  ∀ (p : Addr) (bs : List Int) (H' : Hp), Same H H' → H p = none → H' p = some (.lst ((bellL late bs).map V.int)) → IsBox bs → bs.length = bells.toNat → numB bs = message → Szs 60010 bs → Q (.ref p) H'
theorem cnt_no_bells {message turns late : Int} (h0 : 0 ≤ message) (h : message < cnt turns 0 late) : message = 0 := by
  unfold cnt at h
  split at h
  · omega
  · rw [ch_zero] at h; omega
theorem sc_written : FnScope ["message", "turns", "bells", "late"] ["message", "turns", "bells", "late"] (defScope st_written) := ⟨rfl, rfl, rfl, by decide +kernel, rfl, by decide +kernel, by decide +kernel⟩
theorem ok_written (D : Def K mg "written" st_written ["message", "turns", "bells", "late"]) (T : Txt K mg) (G_box_count : Fn P w K mg base 2 "box_count" ["turns", "bells", "late"] spCount) (G_box_of_message : Fn P w K mg base 39 "box_of_message" ["message", "bells"] (spBoxMsg K)) (G_bell_row : Fn P w K mg base 1 "bell_row" ["box", "late"] (spBellRow K)) :
    Fn P w K mg base 40 "written" ["message", "turns", "bells", "late"] (spWritten K) := by
  refine D.fn sc_written (fun vs H Q E h => ?_) (fun f cdv A outer s H vs Q E hr h => ?_)
  · obtain ⟨a, b, c, d, rfl, _⟩ := h
    rfl
  · obtain ⟨message, turns, bells, late, rfl, m0, m1, b0, b60, l0, lb, tb, mb, q⟩ := h
    refine ⟨_, (pss_cons (ps_if (pw_or (pt_cmpR op_ltI (pv 0) pe_int (nomark _)) (pw_or1 (pt_cmpR op_geI (pv 0) (pe_fn G_box_count (hr.mono (by decide)) (by rfl) (pa_cons (pv 1) (pa_cons (pv 2) (pa_cons (pv 3) pa_nil)))) (nomark _)))).pt
        (pss_one (ps_never))
        pss_nil)
      (pss_one (ps_ret (pe_fn G_bell_row (hr.mono (by decide)) (by rfl) (pa_cons (pe_fn G_box_of_message (hr.mono (by decide)) (by rfl) (pa_cons (pv 0) (pa_cons (pv 2) pa_nil))) (pa_cons (pv 3) pa_nil)))))), ?_⟩
    refine ⟨_, rfl, _, _, rfl, rfl, _, rfl, ifF (by omega) ⟨_, rfl, _, rfl, _, rfl, _, rfl, turns, bells, late, rfl, b0, by omega, l0, lb, tb, _, _, rfl, rfl, _, rfl, ifF (by omega) ?_⟩⟩
    refine ⟨_, rfl, _, rfl, message, bells, rfl, m0, b0, b60, fun z => cnt_no_bells m0 (z ▸ m1), mb, fun p bs H1 s1 hp h1 B hl hnum sz => ?_⟩
    refine ⟨_, rfl, p, bs, late, rfl, SqL.of h1, by omega, lb, fun x hx => bits_mono (sz x hx) (by decide), fun p2 H2 s2 hp2 h2 => ?_⟩
    exact q p2 bs H2 (s1.trans s2) (s1.free hp2) h2 B hl hnum sz
end
theorem box_le {bs : List Int} (B : IsBox bs) {turns late : Int} {i : Nat} (l0 : 0 ≤ late) (h : numB bs < cnt turns (bs.length : Int) late) (hi : i < bs.length) : (bs.length : Int) ≤ turns ∧ bs.getD i 0 * (late + 1) ≤ turns - (bs.length : Int) := by
  unfold cnt at h
  have n0 := numTo_nonneg bs bs.length
  split at h
  · have : numB bs = numTo bs bs.length := rfl
    omega
  · rename_i hle
    refine ⟨by omega, ?_⟩
    have tp := numTo_top B (i := bs.length - 1) (by omega)
    have t1 := tp.le
    have e1 : bs.length - 1 + 1 = bs.length := by omega
    have e2 : ((bs.length - 1 : Nat) : Int) + 1 = (bs.length : Int) := by omega
    rw [e1, e2] at t1
    have lt := top_lt t1 (show numTo bs bs.length < _ from h)
    have m := B.le' (i := i) (j := bs.length - 1) (by omega) (by omega)
    have d1 : bs.getD i 0 ≤ (turns - (bs.length : Int)) / (late + 1) := by omega
    exact (Int.le_ediv_iff_mul_le (by omega)).mp d1
noncomputable def GoodR (turns bells late : Int) (ns : List Int) : Prop := (ns.length : Int) = bells ∧ IsBox (boxL late ns) ∧ numB (boxL late ns) < cnt turns bells late
section
variable {P : Program} {w : World} {K : PySem.W.Frag} {mg : Str → Option Value} {base : Heap}
noncomputable def spReadE (K : PySem.W.Frag) (C : Addr) : Sp := fun vs H Q E => ∃ (a : Addr) (ns : List Int) (turns bells late : Int), vs = [.ref a, .int turns, .int bells, .int late] ∧ SqL K H a (ns.map V.int) ∧ ns.length ≤ 60 ∧ 0 ≤ bells ∧ bells ≤ 60 ∧ 0 ≤ late ∧ intBits late ≤ 8000 ∧ intBits turns ≤ 70000 ∧ Szs 70000 (boxL late ns) ∧
  (GoodR turns bells late ns → ∀ H', Same H H' → Q (.int (numB (boxL late ns))) H') ∧ (¬ GoodR turns bells late ns → ∀ H', Same H H' → E (.ref C) none H')
theorem sc_read : FnScope ["reading", "turns", "bells", "late", "message"] ["reading", "turns", "bells", "late"] (defScope st_read) := ⟨rfl, rfl, rfl, by decide +kernel, rfl, by decide +kernel, by decide +kernel⟩
theorem ok_readE {C_NoReading : Addr} (D : Def K mg "read" st_read ["reading", "turns", "bells", "late"]) (T : Txt K mg) (m_NoReading : mg "NoReading" = some (.ref C_NoReading)) (x_NoReading : PySem.W.excIn K C_NoReading bmV "ValueError.__new__" = true) (G_box_count : Fn P w K mg base 2 "box_count" ["turns", "bells", "late"] spCount) (GE_heard_box : FnE P w K mg base 2 "heard_box" ["reading", "late"] (spHBoxE K C_NoReading)) (G_box_number : Fn P w K mg base 2 "box_number" ["box"] (spNum K)) :
    FnE P w K mg base 3 "read" ["reading", "turns", "bells", "late"] (spReadE K C_NoReading) := by
  refine D.fnE sc_read (fun vs H Q E h => ?_) (fun f cdv A outer s H vs Q E hr h => ?_)
  · obtain ⟨a, b, c, d, e, rfl, _⟩ := h
    rfl
  · obtain ⟨a, ns, turns, bells, late, rfl, hA, hl, b0, b60, l0, lb, tb, sz, q1, q2⟩ := h
    refine ⟨_, (pss_cons (ps_if (pt_cmpR op_neI (pe_callB call_len_seq (by rfl) T.z_len b_len (pa_cons (pv 0) pa_nil)) (pv 2) (nomark _))
        (pss_one (ps_raise PySem.F.excBase_ValueError x_NoReading (by rfl) m_NoReading (pa_cons pe_str pa_nil)))
        pss_nil)
      (pss_cons (ps_set (i := 4) sc_read.nd rfl (Or.inl rfl) (pe_fn G_box_number (hr.mono (by decide)) (by rfl) (pa_cons (pe_fnG GE_heard_box (hr.mono (by decide)) (by rfl) passesE (pa_cons (pv 0) (pa_cons (pv 3) pa_nil))) pa_nil)))
      (pss_cons (ps_if (pt_cmpR op_geI (pv 4) (pe_fn G_box_count (hr.mono (by decide)) (by rfl) (pa_cons (pv 1) (pa_cons (pv 2) (pa_cons (pv 3) pa_nil)))) (nomark _))
        (pss_one (ps_raise PySem.F.excBase_ValueError x_NoReading (by rfl) m_NoReading (pa_cons pe_str pa_nil)))
        pss_nil)
      (pss_one (ps_ret (pv 4)))))), ?_⟩
    refine ⟨_, rfl, _, _, rfl, .inl hA, _, rfl, _, _, rfl, rfl, _, rfl, ?_⟩
    rw [List.length_map]
    refine ifND (fun e => ⟨(by decide), q2 (fun g => e g.1) _ (Same.refl _)⟩) (fun e => ?_)
    refine ⟨_, rfl, _, rfl, a, ns, late, rfl, hA, by omega, l0, lb, fun B p H1 s1 hp h1 => ?_, fun nB H1 s1 => q2 (fun g => nB g.2.1) _ s1⟩
    refine ⟨p, boxL late ns, rfl, SqL.of h1, by rw [boxL_length]; omega, B.nn, sz, fun H2 s2 => ?_⟩
    refine ⟨_, rfl, _, rfl, _, rfl, _, rfl, turns, bells, late, rfl, by omega, by omega, l0, lb, tb, _, _, rfl, rfl, _, rfl, ifD (fun h => ?_) (fun h => ?_)⟩
    · exact ⟨(by decide), q2 (fun g => by have := g.2.2; omega) _ (s1.trans s2)⟩
    · exact ⟨_, rfl, q1 ⟨e, B, by omega⟩ _ (s1.trans s2)⟩
end
theorem fn_mono {P : Program} {w : World} {K : PySem.W.Frag} {mg : Str → Option Value} {base : Heap} {k : Nat} {x : Str} {ps : List Str} {sp sp' : Sp} (h : ∀ vs H Q E, sp' vs H Q E → sp vs H Q E) (F : Fn P w K mg base k x ps sp) : Fn P w K mg base k x ps sp' := by
  obtain ⟨f, fd, F, kp, b, m⟩ := F
  exact ⟨f, fd, ⟨fun vs H Q E hh => F.len vs H Q E (h _ _ _ _ hh), fun A outer s H args us vs Q E hr e0 hb r hh => F.run A outer s H args us vs Q E hr e0 hb r (h _ _ _ _ hh)⟩, kp, b, m⟩
noncomputable def spRead (K : PySem.W.Frag) : Sp := fun vs H Q _ => ∃ (a : Addr) (ns : List Int) (turns bells late : Int), vs = [.ref a, .int turns, .int bells, .int late] ∧ SqL K H a (ns.map V.int) ∧ (ns.length : Int) = bells ∧ bells ≤ 60 ∧ 0 ≤ late ∧ intBits late ≤ 8000 ∧ intBits turns ≤ 70000 ∧ IsBox (boxL late ns) ∧ Szs 70000 (boxL late ns) ∧
  numB (boxL late ns) < cnt turns bells late ∧ ∀ H', Same H H' → Q (.int (numB (boxL late ns))) H'
section
variable {P : Program} {w : World} {K : PySem.W.Frag} {mg : Str → Option Value} {base : Heap}
theorem sc_refuse_silent : FnScope ["turns", "bells"] ["turns", "bells"] (defScope st_refuse_silent) := ⟨rfl, rfl, rfl, by decide +kernel, rfl, by decide +kernel, by decide +kernel⟩
noncomputable def spSilE (C : Addr) : Sp := fun vs H Q E => ∃ turns bells : Int, vs = [.int turns, .int bells] ∧ 0 ≤ bells ∧ ((1 ≤ bells ∧ bells ≤ turns) → Q .non H) ∧ (¬ (1 ≤ bells ∧ bells ≤ turns) → E (.ref C) none H)
theorem ok_silentE (D : Def K mg "refuse_silent" st_refuse_silent ["turns", "bells"]) (T : Txt K mg) {C_NoRow : Addr} (m_NoRow : mg "NoRow" = some (.ref C_NoRow)) (x_NoRow : PySem.W.excIn K C_NoRow bmV "ValueError.__new__" = true) : FnE P w K mg base 1 "refuse_silent" ["turns", "bells"] (spSilE C_NoRow) := by
  refine D.fnE sc_refuse_silent (fun vs H Q E h => ?_) (fun f cdv A outer s H vs Q E hr h => ?_)
  · obtain ⟨a, b, rfl, _⟩ := h
    rfl
  · obtain ⟨turns, bells, rfl, b0, q1, q2⟩ := h
    refine ⟨_, (pss_one (ps_if (pw_or (pt_cmpR op_eqI (pv 1) pe_int (nomark _)) (pw_or1 (pt_cmpR op_gtI (pv 1) (pv 0) (nomark _)))).pt
        (pss_one (ps_raise PySem.F.excBase_ValueError x_NoRow (by rfl) m_NoRow (pa_cons pe_str pa_nil)))
        pss_nil)), ?_⟩
    exact ⟨_, rfl, _, _, rfl, rfl, _, rfl, ifD (fun z => ⟨(by decide), q2 (by omega)⟩) (fun z => ⟨_, rfl, _, rfl, _, _, rfl, rfl, _, rfl, ifD (fun z2 => ⟨(by decide), q2 (by omega)⟩) (fun z2 => q1 (by omega))⟩)⟩
end
section
open PySem.Spec PyProof.Rows
variable {X : Cx} {pins : List (Addr × Obj)} {σ : L2.St} {H : Hp} {s : Shared} {a : Addr} {kvs : List (Key × V)} {k : Key} {u r : Value} {v : V} {A : Around} {E : Value → Shared → Prop}
theorem d_setd {Q : Value → Shared → Prop} (I : L2.Inv X pins σ H s) (e : H a = some (.dK kvs)) (ry : RelV (kV k) u) (rv : RelV v r) (hl : kvs.length < sizeLine)
    (h1 : ∀ v0 w' s', valV kvs k = some v0 → L2.Inv X pins σ H s' → RelV v0 w' → Q w' s') (h2 : ∀ s', valV kvs k = none → L2.Inv X pins σ (upd H a (.dK (putK kvs k v))) s' → Q r s') :
    wpAny (model X.prog X.w) A (call (.builtin "dict.setdefault") [.ref a, u, r]) Q E s := by
  obtain ⟨z, hd, vs, rel, dd⟩ := dk_of I.hok e
  have hz : vs.length ≤ sizeLine := by rw [← rel.length]; exact z
  have hl2 : (putK kvs k v).length ≤ sizeLine := by have := length_putK kvs k v; omega
  refine call_meetsIn PySem.F.slot_dict_setdefault dd.typeIs PySem.F.entry_dict_setdefault (PySem.F.args_dict_setdefault_3 _ _ _) (kt_meets_setdefault (mixKind X.prog X.w) a (kV_is ry) hd r) ⟨vs, dd, hz, fun w' hw => ?_, fun hn h' dd' hs => ?_⟩
  · have rr := rel.val k
    rw [hw] at rr
    cases e2 : valV kvs k with
    | none => rw [e2] at rr; exact absurd rr (by intro z; cases z)
    | some v0 =>
      rw [e2] at rr
      exact h1 v0 w' _ e2 (I.tok _) rr
  · have hv : valV kvs k = none := by
      have rr := rel.val k
      rw [hn] at rr
      cases e2 : valV kvs k with
      | none => rfl
      | some v0 => rw [e2] at rr; exact absurd rr (by intro z; cases z)
    have he : ∃ q, h'.get? a = some q := let ⟨q, _, _, hq, _⟩ := dd'; ⟨q, hq⟩
    exact h2 _ hv (d_write I (by rw [e]; exact True.intro) hs he (dk_new hl2 hd (rel.put k rv) dd'))
end
section
open PySem.Spec PyProof.Rows
variable {X : Cx} {o e f : Expr} {apos cpos : Pos} {td ty tx : TE}
noncomputable def tDSetd (td ty tx : TE) : TE := fun σ H Q => td σ H fun x H1 => ∃ a, x = .ref a ∧ IsD H1 a ∧ ty σ H1 fun y H2 => tx σ H2 fun z H3 => ∃ kvs k, H3 a = some (.dK kvs) ∧ y = kV k ∧ kvs.length < sizeLine ∧
  (∀ v, valV kvs k = some v → Q v H3) ∧ (valV kvs k = none → Q z (upd H3 a (.dK (putK kvs k z))))
theorem pe_dsetd (ho : PE X o td) (he : PE X e ty) (hf : PE X f tx) (m : M2 X o "setdefault" apos e f cpos) : PE X (.Call (.Attribute o "setdefault" apos) [e, f] [] cpos) (tDSetd td ty tx) := by
  intro pins s σ H Q I h
  refine wpAny_Call_method m.base m.few m.line PySem.F.plainAttrs_dict PySem.F.slot_dict_setdefault PySem.F.type_dict_setdefault (thn (ho pins s σ H _ I h) fun u s1 ⟨x, H1, I1, rx, a, ex, d, q1⟩ => ?_)
  subst ex
  obtain rfl : u = Value.ref a := rx
  obtain ⟨t1, t2, _⟩ := isD_at I1 d
  refine ⟨t1, t2, ?_⟩
  rw [m.trees]
  refine Calls.callWith_builtin rfl (Calls.evalArgs_plain (Calls.spliced_cons (thn (he pins s1 σ H1 _ I1 q1) fun iv s2 ⟨y, H2, I2, ry, q2⟩ =>
    Calls.spliced_cons (thn (hf pins s2 σ H2 _ I2 q2) fun fv s3 ⟨z, H3, I3, rz, kvs, k, e3, ey, hl, c1, c2⟩ => Calls.spliced_nil ?_))))
  subst ey
  exact d_setd I3 e3 ry rz hl (fun v0 w' s4 hv I4 rw' => ⟨v0, H3, I4, rw', c1 v0 hv⟩) (fun s4 hv I4 => ⟨z, _, I4, rz, c2 hv⟩)
end
noncomputable def ringL (L late : Int) : Int → List (List Int) → List Int
  | _, [] => []
  | k, bs :: r => (bellL late bs).map (fun x => k * L + x) ++ ringL L late (k + 1) r
theorem ringL_snoc (L late : Int) (bs : List Int) : ∀ (bss : List (List Int)) (k : Int), ringL L late k (bss ++ [bs]) = ringL L late k bss ++ (bellL late bs).map (fun x => (k + (bss.length : Int)) * L + x)
  | [], k => by
    show (bellL late bs).map (fun x => k * L + x) ++ [] = [] ++ (bellL late bs).map (fun x => (k + ((0 : Nat) : Int)) * L + x)
    rw [List.append_nil, List.nil_append, show k + ((0 : Nat) : Int) = k by omega]
  | b :: r, k => by
    show (bellL late b).map (fun x => k * L + x) ++ ringL L late (k + 1) (r ++ [bs]) = (bellL late b).map (fun x => k * L + x) ++ ringL L late (k + 1) r ++ _
    rw [ringL_snoc L late bs r (k + 1), List.append_assoc, List.length_cons, show k + 1 + (r.length : Int) = k + ((r.length + 1 : Nat) : Int) by omega]
noncomputable def grp (L k : Int) (ms : List Int) : List Int := (ms.filter (fun t => decide (t / L = k))).map (fun t => t % L)
theorem grp_append (L k : Int) (a b : List Int) : grp L k (a ++ b) = grp L k a ++ grp L k b := by
  unfold grp
  rw [List.filter_append, List.map_append]
theorem grp_one_eq {L k t : Int} (h : t / L = k) : grp L k [t] = [t % L] := by
  unfold grp
  rw [List.filter_cons_of_pos (by rw [decide_eq_true h]), List.filter_nil]
  rfl
theorem grp_one_ne {L k t : Int} (h : ¬ t / L = k) : grp L k [t] = [] := by
  unfold grp
  rw [List.filter_cons_of_neg (by rw [decide_eq_false h]; decide), List.filter_nil]
  rfl
theorem grp_perm {L k : Int} {a b : List Int} (h : a.Perm b) : (grp L k a).Perm (grp L k b) := (h.filter _).map _
theorem grp_sorted {L k : Int} (hL : 0 < L) {a : List Int} (h : a.Pairwise (· ≤ ·)) : (grp L k a).Pairwise (· ≤ ·) := by
  unfold grp
  rw [List.pairwise_map]
  have h1 := h.filter (fun t => decide (t / L = k))
  refine List.Pairwise.imp_of_mem ?_ h1
  intro x y hx hy hxy
  have ex := of_decide_eq_true (List.mem_filter.mp hx).2
  have ey := of_decide_eq_true (List.mem_filter.mp hy).2
  have d1 := Int.mul_ediv_add_emod x L
  have d2 := Int.mul_ediv_add_emod y L
  rw [ex] at d1
  rw [ey] at d2
  omega
theorem grp_block {L k j : Int} (hL : 0 < L) : ∀ (ys : List Int), (∀ y ∈ ys, 0 ≤ y ∧ y < L) → grp L k (ys.map (fun x => j * L + x)) = if j = k then ys else []
  | [], _ => by split <;> rfl
  | y :: ys, h => by
    have h1 := h y (List.mem_cons_self ..)
    have ih := grp_block (k := k) (j := j) hL ys fun z hz => h z (List.mem_cons_of_mem _ hz)
    have ed : (j * L + y) / L = j := by
      rw [Int.add_comm, Int.add_mul_ediv_right _ _ (by omega), Int.ediv_eq_zero_of_lt h1.1 h1.2]
      omega
    have em : (j * L + y) % L = y := by
      rw [Int.add_comm, Int.add_mul_emod_self_right, Int.emod_eq_of_lt h1.1 h1.2]
    rw [List.map_cons, show (j * L + y) :: ys.map (fun x => j * L + x) = [j * L + y] ++ ys.map (fun x => j * L + x) from rfl, grp_append, ih]
    by_cases e : j = k
    · rw [grp_one_eq (by rw [ed, e]), em, if_pos e, if_pos e]
      rfl
    · rw [grp_one_ne (by rw [ed]; exact e), if_neg e, if_neg e]
      rfl
theorem sums_append (a b : List Int) : ∀ (ds : List Int), sums (a ++ b) ds = sums a (ds.take a.length) ++ sums b (ds.drop a.length) := by
  induction a with
  | nil => intro ds; rfl
  | cons x a ih =>
    intro ds
    cases ds with
    | nil =>
      unfold sums
      simp
    | cons d ds =>
      have := ih ds
      unfold sums at this ⊢
      simp only [List.cons_append, List.zipWith_cons_cons, List.length_cons, List.take_succ_cons, List.drop_succ_cons, this]
theorem sums_shift (c : Int) : ∀ (a ds : List Int), sums (a.map (fun x => c + x)) ds = (sums a ds).map (fun x => c + x)
  | [], _ => rfl
  | x :: a, [] => rfl
  | x :: a, d :: ds => by
    have := sums_shift c a ds
    unfold sums at this ⊢
    simp only [List.map_cons, List.zipWith_cons_cons, this, Int.add_assoc]
theorem grp_ring {L late : Int} (hL : 0 < L) (l0 : 0 ≤ late) : ∀ (bss : List (List Int)) (j : Int) (ds : List Int), (∀ bs ∈ bss, ∀ x ∈ bellL late bs, 0 ≤ x ∧ x + late < L) → ds.length = (ringL L late j bss).length → (∀ d ∈ ds, 0 ≤ d ∧ d ≤ late) →
    (∀ k : Int, k < j → grp L k (sums (ringL L late j bss) ds) = []) ∧ ∀ (i : Nat), (∀ bs, bss[i]? = some bs → ∃ es : List Int, (bellL late bs).length = es.length ∧ (∀ d ∈ es, 0 ≤ d ∧ d ≤ late) ∧ grp L (j + (i : Int)) (sums (ringL L late j bss) ds) = sums (bellL late bs) es) ∧ (bss[i]? = none → grp L (j + (i : Int)) (sums (ringL L late j bss) ds) = [])
  | [], j, ds, _, _, _ => ⟨fun k _ => by show grp L k (sums [] ds) = []; unfold sums; rfl, fun i => ⟨fun bs h => by simp at h, fun _ => by show grp L _ (sums [] ds) = []; unfold sums; rfl⟩⟩
  | b :: r, j, ds, hb, hd, dd => by
    have el : ((bellL late b).map (fun x => j * L + x)).length = (bellL late b).length := List.length_map ..
    have e0 : sums (ringL L late j (b :: r)) ds = (sums (bellL late b) (ds.take (bellL late b).length)).map (fun x => j * L + x) ++ sums (ringL L late (j + 1) r) (ds.drop (bellL late b).length) := by
      show sums ((bellL late b).map (fun x => j * L + x) ++ ringL L late (j + 1) r) ds = _
      rw [sums_append, el, sums_shift]
    have hd' : ds.length = (bellL late b).length + (ringL L late (j + 1) r).length := by
      have : (ringL L late j (b :: r)).length = ((bellL late b).map (fun x => j * L + x) ++ ringL L late (j + 1) r).length := rfl
      rw [this, List.length_append, el] at hd
      exact hd
    have tl : (bellL late b).length = (ds.take (bellL late b).length).length := by rw [List.length_take]; omega
    have td : ∀ d ∈ ds.take (bellL late b).length, 0 ≤ d ∧ d ≤ late := fun d h => dd d (List.mem_of_mem_take h)
    have bd : ∀ y ∈ sums (bellL late b) (ds.take (bellL late b).length), 0 ≤ y ∧ y < L := fun y hy => by
      obtain ⟨i, hi⟩ := List.getElem?_of_mem hy
      unfold sums at hi
      rw [List.getElem?_zipWith] at hi
      cases ex : (bellL late b)[i]? with
      | none => rw [ex] at hi; simp at hi
      | some x =>
        cases ed : (ds.take (bellL late b).length)[i]? with
        | none => rw [ex, ed] at hi; simp at hi
        | some d =>
          rw [ex, ed] at hi
          have hy' : x + d = y := by simpa using hi
          have h1 := hb b (List.mem_cons_self ..) x (List.mem_of_getElem? ex)
          have h2 := td d (List.mem_of_getElem? ed)
          omega
    obtain ⟨ih1, ih2⟩ := grp_ring hL l0 r (j + 1) (ds.drop (bellL late b).length) (fun bs h => hb bs (List.mem_cons_of_mem _ h)) (by rw [List.length_drop]; omega) (fun d h => dd d (List.mem_of_mem_drop h))
    refine ⟨fun k hk => ?_, fun i => ?_⟩
    · rw [e0, grp_append, grp_block hL _ bd, if_neg (by omega), ih1 k (by omega)]
      rfl
    · cases i with
      | zero =>
        refine ⟨fun bs h => ?_, fun h => by simp at h⟩
        have eb : b = bs := by simpa using h
        subst eb
        refine ⟨_, tl, td, ?_⟩
        rw [show j + ((0 : Nat) : Int) = j by omega, e0, grp_append, grp_block hL _ bd, if_pos rfl, ih1 j (by omega), List.append_nil]
      | succ i =>
        have ej : j + ((i + 1 : Nat) : Int) = j + 1 + (i : Int) := by omega
        have eg : grp L (j + ((i + 1 : Nat) : Int)) (sums (ringL L late j (b :: r)) ds) = grp L (j + 1 + (i : Int)) (sums (ringL L late (j + 1) r) (ds.drop (bellL late b).length)) := by
          rw [e0, grp_append, grp_block hL _ bd, if_neg (by omega), List.nil_append, ej]
        rw [eg]
        exact ⟨fun bs h => (ih2 i).1 bs (by simpa using h), fun h => (ih2 i).2 (by simpa using h)⟩
theorem nodup_le : ∀ {l m : List Int}, l.Nodup → (∀ a ∈ l, a ∈ m) → l.length ≤ m.length
  | [], m, _, _ => Nat.zero_le _
  | a :: l, m, nd, h => by
    have ha := h a (List.mem_cons_self ..)
    have nd' := List.nodup_cons.mp nd
    have ih := nodup_le (l := l) (m := m.erase a) nd'.2 fun b hb => by
      have hne : b ≠ a := fun e => nd'.1 (e ▸ hb)
      exact (List.mem_erase_of_ne hne).mpr (h b (List.mem_cons_of_mem _ hb))
    have el := List.length_erase_of_mem ha
    have hp : 0 < m.length := List.length_pos_of_mem ha
    rw [List.length_cons]
    omega
theorem nodup_len {l m : List Int} (h1 : l.Nodup) (h2 : m.Nodup) (h : ∀ a, a ∈ l ↔ a ∈ m) : l.length = m.length := Nat.le_antisymm (nodup_le h1 fun a ha => (h a).mp ha) (nodup_le h2 fun a ha => (h a).mpr ha)
section
variable {P : Program} {w : World} {K : PySem.W.Frag} {mg : Str → Option Value} {base : Heap}
noncomputable def spSilent : Sp := fun vs H Q _ => ∃ turns bells : Int, vs = [.int turns, .int bells] ∧ 1 ≤ bells ∧ bells ≤ turns ∧ Q .non H
noncomputable def spRung (K : PySem.W.Frag) : Sp := fun vs H Q _ => ∃ (a : Addr) (ms : List Int) (turns bells late : Int), vs = [.ref a, .int turns, .int bells, .int late] ∧ SqL K H a (ms.map V.int) ∧ ms.length ≤ 100 ∧ 1 ≤ bells ∧ bells ≤ 60 ∧ bells ≤ turns ∧ 0 ≤ late ∧ intBits late ≤ 8000 ∧ intBits turns ≤ 60000 ∧ (∀ m ∈ ms, 0 ≤ m ∧ m < cnt turns bells late ∧ intBits m ≤ 50000) ∧
  ∀ (p : Addr) (bss : List (List Int)) (H' : Hp), Same H H' → H p = none → H' p = some (.lst ((ringL (turns + late) late 0 bss).map V.int)) → bss.length = ms.length → (∀ (i : Nat) (bs : List Int) (m : Int), bss[i]? = some bs → ms[i]? = some m → IsBox bs ∧ bs.length = bells.toNat ∧ numB bs = m) → (∀ bs ∈ bss, Szs 60010 bs) → Q (.ref p) H'
theorem sc_rung : FnScope ["messages", "turns", "bells", "late", "talk", "place", "message", "start"] ["messages", "turns", "bells", "late"] (defScope st_rung) := ⟨rfl, rfl, rfl, by decide +kernel, rfl, by decide +kernel, by decide +kernel⟩
theorem ok_rung (D : Def K mg "rung" st_rung ["messages", "turns", "bells", "late"]) (T : Txt K mg) (G_refuse_silent : Fn P w K mg base 1 "refuse_silent" ["turns", "bells"] spSilent) (G_written : Fn P w K mg base 40 "written" ["message", "turns", "bells", "late"] (spWritten K)) : Fn P w K mg base 41 "rung" ["messages", "turns", "bells", "late"] (spRung K) := by
  refine D.fn sc_rung (fun vs H Q E h => ?_) (fun f cdv A outer s H vs Q E hr h => ?_)
  · obtain ⟨a, ms, b, c, d, rfl, _⟩ := h
    rfl
  · obtain ⟨a, ms, turns, bells, late, rfl, hS, hl, b1, b60, bt, l0, lb, tb, hm, q⟩ := h
    refine ⟨_, (pss_cons (ps_expr (pe_fn G_refuse_silent (hr.mono (by decide)) (by rfl) (pa_cons (pv 1) (pa_cons (pv 2) pa_nil))))
      (pss_cons (ps_set (i := 4) sc_rung.nd rfl (Or.inl rfl) (pe_lst pa_nil))
      (pss_cons (ps_for PassesOwn.never rfl (pi_enumL (by rfl) T.z_enumerate (pa_cons (pv 0) pa_nil)) (pg_tup (n := 2) rfl (pgs_cons (pg_name (i := 5) sc_rung.nd rfl (Or.inl rfl)) (pgs_cons (pg_name (i := 6) sc_rung.nd rfl (Or.inl rfl)) pgs_nil)))
        (pss_cons (ps_set (i := 7) sc_rung.nd rfl (Or.inr rfl) (pe_op op_mulB (pv 5) (pe_op op_addI (pv 1) (pv 3))))
        (pss_one (ps_expr (pe_bm PySem.F.plainAttrs_list PySem.F.slot_list_extend PySem.F.type_list_extend mt_extend (pv 4) (pa_cons (pe_comp (own := ["turn"]) (fr := ["start"]) (ix := [7]) rfl ⟨rfl, rfl, rfl, rfl, rfl, rfl⟩ (pi_list (pe_fn G_written (hr.mono (by decide)) (by rfl) (pa_cons (pv 6) (pa_cons (pv 1) (pa_cons (pv 2) (pa_cons (pv 3) pa_nil)))))) (fun _ _ _ _ _ => (pg_name (i := 0) (show (["turn", "start"] : List Str).Nodup by decide +kernel) rfl (Or.inl rfl))) (fun _ _ _ _ _ => pts_nil) (fun _ _ _ _ _ => (pe_op op_addI (pv 1) (pv 0)))) pa_nil))))))
      (pss_one (ps_ret (pv 4)))))), ?_⟩
    refine ⟨_, rfl, _, rfl, turns, bells, rfl, b1, bt, (by decide), fun p hp => ?_⟩
    have sb : intBits (turns + late) ≤ 70000 := bits_mono (intBits_add_le (m := 60000) (n := 60000) tb (bits_mono lb (by decide))) (by decide)
    refine ⟨_, rfl, a, ms.map V.int, rfl, (Same.new hp).seq hS, for_enum (K := K) (a := a) (xs := ms.map V.int) (fun i σ H2 => ∃ (bss : List (List Int)) (v5 v6 v7 : Option V), σ = [some (.ref a), some (.int turns), some (.int bells), some (.int late), some (.ref p), v5, v6, v7] ∧ Same H H2 ∧ H2 p = some (.lst ((ringL (turns + late) late 0 bss).map V.int)) ∧ bss.length = i ∧ (ringL (turns + late) late 0 bss).length ≤ i * 60 ∧ (∀ (j : Nat) (bs : List Int) (m : Int), bss[j]? = some bs → ms[j]? = some m → IsBox bs ∧ bs.length = bells.toNat ∧ numB bs = m) ∧ (∀ bs ∈ bss, Szs 60010 bs))
      ⟨[], none, none, none, rfl, Same.new hp, upd_same, rfl, Nat.zero_le _, (fun j bs m h => by simp at h), (fun _ z => nomatch z)⟩ (fun i σ H2 ⟨_, _, _, _, _, sm, _⟩ => sm.seq hS) ?_ ?_⟩
    · rintro i xv t σ H2 hx ⟨bss, v5, v6, v7, rfl, sm, hT, bl, rl, hb, hz⟩ ht
      have hil : i < ms.length := by have := (List.getElem?_eq_some_iff.mp hx).1; rwa [List.length_map] at this
      rw [List.getElem?_map] at hx
      obtain ⟨m, hmi, rfl⟩ := Option.map_eq_some_iff.mp hx
      obtain ⟨m0, m1, mb⟩ := hm m (List.mem_of_getElem? hmi)
      have s3 : Same H (upd H2 t (.tup [.int i, .int m])) := sm.put ht
      have ht3 : (upd H2 t (.tup [.int i, .int m])) t = some (.tup [.int i, .int m]) := upd_same
      have hT3 : (upd H2 t (.tup [.int i, .int m])) p = some (.lst ((ringL (turns + late) late 0 bss).map V.int)) := (Same.new ht) _ _ hT
      generalize upd H2 t (.tup [.int i, .int m]) = H3 at s3 ht3 hT3 ⊢
      refine ⟨t, _, rfl, SqT.of ht3, rfl, _, _, rfl, _, _, rfl, rfl, ?_⟩
      refine ⟨_, rfl, _, rfl, _, rfl, _, _, rfl, rfl, _, _, rfl, rfl, ⟨64, 70000, bits_of (by omega) (by omega), sb, by decide⟩, ?_⟩
      refine ⟨_, rfl, .inl ⟨rfl, _, SqL.of hT3⟩, _, rfl, _, rfl, _, rfl, _, rfl, m, turns, bells, late, rfl, m0, m1, by omega, b60, l0, lb, bits_mono tb (by decide), mb, fun pw bs H4 s4 hpw hW B hbl hnum sz => ?_⟩
      have bll : (bellL late bs).length ≤ 60 := by rw [bellL_length, hbl]; omega
      refine ⟨pw, rfl, ⟨_, SqL.of hW⟩, fun acc hacc => comp_listP (K := K) (a := pw) (xs := (bellL late bs).map V.int) (fun j => V.int ((i : Int) * (turns + late) + (bellL late bs).getD j 0)) (SqL.of hW) hacc (by rw [List.length_map]; exact Nat.le_of_lt (small1000 (by omega))) (fun j x H6 R' hx s6 hR => ?_) ?_⟩
      · rw [List.getElem?_map] at hx
        obtain ⟨z, hz', rfl⟩ := Option.map_eq_some_iff.mp hx
        simp only [List.getD_eq_getElem?_getD, hz', Option.getD_some] at hR
        exact ⟨rfl, _, rfl, _, rfl, _, _, rfl, rfl, hR⟩
      have eL : (List.range ((bellL late bs).map V.int).length).map (fun j => V.int ((i : Int) * (turns + late) + (bellL late bs).getD j 0)) = ((bellL late bs).map (fun x => (0 + (bss.length : Int)) * (turns + late) + x)).map V.int := by
        rw [bl, show (0 : Int) + (i : Int) = (i : Int) by omega]
        apply List.ext_getElem
        · simp
        · intro j h1 h2
          simp at h1 h2
          simp [List.getD_eq_getElem?_getD, h2]
      rw [eL]
      have s5 : Same H3 (upd H4 acc (.lst (((bellL late bs).map (fun x => (0 + (bss.length : Int)) * (turns + late) + x)).map V.int))) := s4.put hacc
      have h5 : (upd H4 acc (.lst (((bellL late bs).map (fun x => (0 + (bss.length : Int)) * (turns + late) + x)).map V.int))) acc = some (.lst (((bellL late bs).map (fun x => (0 + (bss.length : Int)) * (turns + late) + x)).map V.int)) := upd_same
      generalize upd H4 acc (.lst (((bellL late bs).map (fun x => (0 + (bss.length : Int)) * (turns + late) + x)).map V.int)) = H5 at s5 h5 ⊢
      refine ⟨p, acc, _, _, rfl, rfl, s5 _ _ hT3, h5, ?_, ?_⟩
      · rw [List.length_map, List.length_map, List.length_map, sizeLine_eq]
        omega
      refine ⟨bss ++ [bs], _, _, _, rfl, (s3.trans s5).wr hp, ?_, by rw [List.length_append, bl]; rfl, ?_, fun j c mm hj hmj => ?_, fun c hc => ?_⟩
      · rw [upd_same, ← List.map_append, ← ringL_snoc]
      · rw [ringL_snoc, List.length_append, List.length_map]
        omega
      · by_cases hji : j < bss.length
        · rw [List.getElem?_append_left hji] at hj
          exact hb j c mm hj hmj
        · have hj2 := (List.getElem?_eq_some_iff.mp hj).1
          rw [List.length_append, List.length_singleton] at hj2
          have ej : j = i := by omega
          subst ej
          rw [List.getElem?_append_right (by omega), bl, Nat.sub_self] at hj
          have : bs = c := by simpa using hj
          subst this
          rw [hmi] at hmj
          cases hmj
          exact ⟨B, hbl, hnum⟩
      · rcases List.mem_append.mp hc with hc | hc
        · exact hz c hc
        · rw [List.mem_singleton.mp hc]; exact sz
    · rintro σ H2 ⟨bss, v5, v6, v7, rfl, sm, hT, bl, rl, hb, hz⟩
      rw [List.length_map] at bl
      exact ⟨_, rfl, q p bss H2 sm hp hT bl hb hz⟩
end
section
variable {P : Program} {w : World} {K : PySem.W.Frag} {mg : Str → Option Value} {base : Heap}
structure ByM (L : Int) (rd : List Int) (kvs : List (Key × V)) (ks : List Int) (ad : Int → Addr) (H : Hp) : Prop where
  nd : ks.Nodup
  len : kvs.length = ks.length
  val : ∀ k : Int, valV kvs (Sum.inl k) = if k ∈ ks then some (.ref (ad k)) else none
  ls : ∀ k ∈ ks, H (ad k) = some (.lst ((grp L k rd).map V.int))
  mem : ∀ k : Int, k ∈ ks ↔ grp L k rd ≠ []
noncomputable def spBy (K : PySem.W.Frag) : Sp := fun vs H Q _ => ∃ (a : Addr) (rd : List Int) (turns late : Int), vs = [.ref a, .int turns, .int late] ∧ SqL K H a (rd.map V.int) ∧ rd.length ≤ 20000 ∧ 0 < turns + late ∧ intBits (turns + late) ≤ 9000 ∧
  ∀ (d : Addr) (kvs : List (Key × V)) (ks : List Int) (ad : Int → Addr) (H' : Hp), Same H H' → H' d = some (.dK kvs) → ByM (turns + late) rd kvs ks ad H' → Q (.ref d) H'
theorem sc_by_messages : FnScope ["reading", "turns", "late", "length", "heard_of", "turn"] ["reading", "turns", "late"] (defScope st_by_messages) := ⟨rfl, rfl, rfl, by decide +kernel, rfl, by decide +kernel, by decide +kernel⟩
theorem ok_by_messages (D : Def K mg "by_messages" st_by_messages ["reading", "turns", "late"]) (T : Txt K mg) : Fn P w K mg base 1 "by_messages" ["reading", "turns", "late"] (spBy K) := by
  refine D.fn sc_by_messages (fun vs H Q E h => ?_) (fun f cdv A outer s H vs Q E hr h => ?_)
  · obtain ⟨a, rd, t, l, rfl, _⟩ := h
    rfl
  · obtain ⟨a, rd, turns, late, rfl, hS, hl, hL, lb, q⟩ := h
    refine ⟨_, (pss_cons (ps_set (i := 3) sc_by_messages.nd rfl (Or.inl rfl) (pe_op op_addI (pv 1) (pv 2)))
      (pss_cons (ps_set (i := 4) sc_by_messages.nd rfl (Or.inl rfl) pe_dnewK)
      (pss_cons (ps_for PassesOwn.never rfl (pi_list (pv 0)) (pg_name (i := 5) sc_by_messages.nd rfl (Or.inl rfl))
        (pss_one (ps_expr (pe_bm PySem.F.plainAttrs_list PySem.F.slot_list_append PySem.F.type_list_append mt_append (pe_dsetd (pv 4) (pe_op op_fdivB (pv 5) (pv 3)) (pe_lst pa_nil) ⟨rfl, rfl, rfl, rfl⟩) (pa_cons (pe_op op_modB (pv 5) (pv 3)) pa_nil)))))
      (pss_one (ps_ret (pv 4)))))), ?_⟩
    refine ⟨_, rfl, _, rfl, _, _, rfl, rfl, fun d hd => ?_⟩
    generalize turns + late = L at hL lb q ⊢
    refine ⟨_, rfl, a, rfl, ⟨_, (Same.new hd).seq hS⟩, for_list (K := K) (a := a) (xs := rd.map V.int) (fun i σ H2 => ∃ (kvs : List (Key × V)) (ks : List Int) (ad : Int → Addr) (v5 : Option V), σ = [some (.ref a), some (.int turns), some (.int late), some (.int L), some (.ref d), v5] ∧ Same H H2 ∧ H2 d = some (.dK kvs) ∧ i ≤ rd.length ∧ ks.length ≤ i ∧ ByM L (rd.take i) kvs ks ad H2 ∧ (∀ k ∈ ks, ad k ≠ d ∧ H (ad k) = none) ∧ (∀ k ∈ ks, ∀ k' ∈ ks, ad k = ad k' → k = k'))
      ⟨[], [], fun _ => d, none, rfl, Same.new hd, upd_same, Nat.zero_le _, Nat.zero_le _, ⟨List.nodup_nil, rfl, fun k => rfl, (fun _ z => nomatch z), fun k => ⟨(fun z => nomatch z), (fun z => absurd rfl z)⟩⟩, (fun _ z => nomatch z), (fun _ z => nomatch z)⟩ (fun i σ H2 _ ⟨_, _, _, _, _, sm, _⟩ => sm.seq hS) ?_ ?_⟩
    · rintro i xv σ H2 hx ⟨kvs, ks, ad, v5, rfl, sm, hD, _, kl, M, fr, inj⟩
      have hil : i < rd.length := by have := (List.getElem?_eq_some_iff.mp hx).1; rwa [List.length_map] at this
      rw [List.getElem?_map] at hx
      obtain ⟨t, hti, rfl⟩ := Option.map_eq_some_iff.mp hx
      have ert : rd.take (i + 1) = rd.take i ++ [t] := by rw [List.take_add_one, hti]; rfl
      have klen : kvs.length < sizeLine := by rw [M.len, sizeLine_eq]; omega
      have grl : ∀ k : Int, (grp L k (rd.take i)).length ≤ 20000 := fun k => by
        unfold grp
        rw [List.length_map]
        have h1 := List.length_filter_le (fun t => decide (t / L = k)) (rd.take i)
        rw [List.length_take] at h1
        omega
      refine ⟨_, rfl, d, rfl, .inl ⟨kvs, .inl hD⟩, _, rfl, _, rfl, _, _, rfl, rfl, ⟨hL, lb⟩, (by decide), fun p hp => ⟨kvs, Sum.inl (t / L), (Same.new hp) _ _ hD, rfl, klen, fun v hv => ?_, fun hv => ?_⟩⟩
      · rw [M.val] at hv
        have hk : t / L ∈ ks := by
          by_cases z : t / L ∈ ks
          · exact z
          · rw [if_neg z] at hv; cases hv
        rw [if_pos hk] at hv
        cases hv
        have s3 : Same H (upd H2 p (.lst [])) := sm.put hp
        have s23 : Same H2 (upd H2 p (.lst [])) := Same.new hp
        generalize upd H2 p (.lst []) = H3 at s3 s23 ⊢
        have hA := s23 _ _ (M.ls _ hk)
        have fk := fr _ hk
        refine ⟨.inl ⟨rfl, _, SqL.of hA⟩, _, rfl, _, rfl, _, _, rfl, rfl, hL, ad (t / L), _, _, rfl, rfl, hA, ?_, ?_⟩
        · rw [List.length_map, sizeLine_eq]
          have := grl (t / L)
          omega
        refine ⟨kvs, ks, ad, _, rfl, s3.wr fk.2, by rw [upd_ne fk.1.symm]; exact s23 _ _ hD, hil, by omega, ⟨M.nd, M.len, M.val, fun k hk' => ?_, fun k => ?_⟩, fr, inj⟩
        · rw [ert, grp_append]
          by_cases e : k = t / L
          · subst e
            rw [upd_same, grp_one_eq rfl, List.map_append]
            rfl
          · rw [upd_ne (fun z => e (inj k hk' _ hk z)), grp_one_ne (fun z => e z.symm), List.append_nil]
            exact s23 _ _ (M.ls k hk')
        · rw [ert, grp_append, M.mem]
          by_cases e : k = t / L
          · subst e
            rw [grp_one_eq rfl]
            exact ⟨fun _ z => by simp at z, fun _ => (M.mem _).mp hk⟩
          · rw [grp_one_ne (fun z => e z.symm), List.append_nil]
      · rw [M.val] at hv
        have hk : ¬ t / L ∈ ks := fun z => by rw [if_pos z] at hv; cases hv
        have pd : p ≠ d := fun e => by subst e; rw [hD] at hp; cases hp
        have pn : H p = none := sm.free hp
        have hP : (upd (upd H2 p (.lst [])) d (.dK (putK kvs (Sum.inl (t / L)) (.ref p)))) p = some (.lst []) := by rw [upd_ne pd]; exact upd_same
        have g0 : grp L (t / L) (rd.take i) = [] := by
          by_cases z : grp L (t / L) (rd.take i) = []
          · exact z
          · exact absurd ((M.mem _).mpr z) hk
        refine ⟨.inl ⟨rfl, _, SqL.of hP⟩, _, rfl, _, rfl, _, _, rfl, rfl, hL, p, _, _, rfl, rfl, hP, (by decide), ?_⟩
        have s4 : Same H (upd (upd H2 p (.lst [])) d (.dK (putK kvs (Sum.inl (t / L)) (.ref p)))) := (sm.put hp).wr hd
        have h4d : (upd (upd H2 p (.lst [])) d (.dK (putK kvs (Sum.inl (t / L)) (.ref p)))) d = some (.dK (putK kvs (Sum.inl (t / L)) (.ref p))) := upd_same
        have h4o : ∀ k ∈ ks, (upd (upd H2 p (.lst [])) d (.dK (putK kvs (Sum.inl (t / L)) (.ref p)))) (ad k) = some (.lst ((grp L k (rd.take i)).map V.int)) := fun k hk' => by
          rw [upd_ne (fr k hk').1]
          exact (Same.new hp) _ _ (M.ls k hk')
        have adp : ∀ k ∈ ks, ad k ≠ p := fun k hk' e => by
          have := M.ls k hk'
          rw [e, hp] at this
          cases this
        generalize upd (upd H2 p (.lst [])) d (.dK (putK kvs (Sum.inl (t / L)) (.ref p))) = H4 at s4 h4d h4o ⊢
        have hv0 : valV kvs (Sum.inl (t / L)) = none := by rw [M.val, if_neg hk]
        refine ⟨putK kvs (Sum.inl (t / L)) (.ref p), ks ++ [t / L], fun k => if k = t / L then p else ad k, _, rfl, s4.wr pn, by rw [upd_ne pd.symm]; exact h4d, hil, by rw [List.length_append, List.length_singleton]; omega, ⟨?_, ?_, fun k => ?_, fun k hk' => ?_, fun k => ?_⟩, fun k hk' => ?_, fun k hk1 k' hk2 e => ?_⟩
        · rw [List.nodup_append]
          refine ⟨M.nd, by simp, fun a ha b hb => ?_⟩
          rw [List.mem_singleton.mp hb]
          exact fun e => hk (e ▸ ha)
        · rw [putK_new _ hv0, List.length_append, List.length_append, M.len]
          rfl
        · rw [valV_put]
          by_cases e : k = t / L
          · subst e
            rw [if_pos rfl, if_pos (by simp)]
            simp
          · rw [if_neg (fun z => e (Sum.inl.inj z)), M.val]
            by_cases z : k ∈ ks
            · rw [if_pos z, if_pos (List.mem_append_left _ z), if_neg e]
            · rw [if_neg z, if_neg (by intro y; rcases List.mem_append.mp y with y | y; exact z y; exact e (List.mem_singleton.mp y))]
        · rw [ert, grp_append]
          by_cases e : k = t / L
          · subst e
            rw [if_pos rfl, upd_same, g0, grp_one_eq rfl]
            rfl
          · have hk2 : k ∈ ks := by
              rcases List.mem_append.mp hk' with y | y
              · exact y
              · exact absurd (List.mem_singleton.mp y) e
            rw [if_neg e, upd_ne (adp k hk2), grp_one_ne (fun z => e z.symm), List.append_nil]
            exact h4o k hk2
        · rw [ert, grp_append]
          by_cases e : k = t / L
          · subst e
            rw [grp_one_eq rfl]
            exact ⟨fun _ z => by simp at z, fun _ => by simp⟩
          · rw [grp_one_ne (fun z => e z.symm), List.append_nil, ← M.mem]
            exact ⟨(fun y => by rcases List.mem_append.mp y with y | y; exact y; exact absurd (List.mem_singleton.mp y) e), (fun y => List.mem_append_left _ y)⟩
        · show (if k = t / L then p else ad k) ≠ d ∧ H (if k = t / L then p else ad k) = none
          by_cases e : k = t / L
          · rw [if_pos e]; exact ⟨pd, pn⟩
          · rw [if_neg e]
            rcases List.mem_append.mp hk' with y | y
            · exact fr k y
            · exact absurd (List.mem_singleton.mp y) e
        · have e : (if k = t / L then p else ad k) = (if k' = t / L then p else ad k') := e
          have m1 : k ≠ t / L → k ∈ ks := fun z => by
            rcases List.mem_append.mp hk1 with y | y
            · exact y
            · exact absurd (List.mem_singleton.mp y) z
          have m2 : k' ≠ t / L → k' ∈ ks := fun z => by
            rcases List.mem_append.mp hk2 with y | y
            · exact y
            · exact absurd (List.mem_singleton.mp y) z
          by_cases e1 : k = t / L
          · by_cases e2 : k' = t / L
            · rw [e1, e2]
            · rw [if_pos e1, if_neg e2] at e
              exact absurd e.symm (adp k' (m2 e2))
          · by_cases e2 : k' = t / L
            · rw [if_neg e1, if_pos e2] at e
              exact absurd e (adp k (m1 e1))
            · rw [if_neg e1, if_neg e2] at e
              exact inj k (m1 e1) k' (m2 e2) e
    · rintro σ H2 ⟨kvs, ks, ad, v5, rfl, sm, hD, _, kl, M, fr, inj⟩
      rw [List.length_map, List.take_length] at M
      exact ⟨_, rfl, q d kvs ks ad H2 sm hD M⟩
end
theorem ringL_len {L late : Int} {b : Nat} : ∀ (bss : List (List Int)) (k : Int), (∀ bs ∈ bss, bs.length = b) → (ringL L late k bss).length = bss.length * b
  | [], _, _ => by simp [ringL]
  | c :: r, k, h => by
    show ((bellL late c).map (fun x => k * L + x) ++ ringL L late (k + 1) r).length = _
    rw [List.length_append, List.length_map, bellL_length, h c (List.mem_cons_self ..), ringL_len r (k + 1) fun bs hb => h bs (List.mem_cons_of_mem _ hb), List.length_cons, Nat.succ_mul]
    omega
theorem bell_lt {bs : List Int} {turns late : Int} (B : IsBox bs) (l0 : 0 ≤ late) (h : numB bs < cnt turns (bs.length : Int) late) : ∀ x ∈ bellL late bs, 0 ≤ x ∧ x < turns := fun x hx => by
  obtain ⟨i, hi⟩ := List.getElem?_of_mem hx
  obtain ⟨c, hc, rfl⟩ := bellL_get' hi
  have il := (List.getElem?_eq_some_iff.mp hc).1
  have := box_le B l0 h il
  rw [List.getD_eq_getElem?_getD, hc, Option.getD_some] at this
  have := Int.mul_nonneg (B.2 c (List.mem_of_getElem? hc)) (show 0 ≤ late + 1 by omega)
  omega
theorem keys_len {ks : List Int} {n : Nat} (nd : ks.Nodup) (h : ∀ k : Int, k ∈ ks ↔ 0 ≤ k ∧ k < (n : Int)) : ks.length = n := by
  have e := nodup_len (m := (List.range n).map (fun i => ((i : Nat) : Int))) nd (by
    unfold List.Nodup
    rw [List.pairwise_map]
    exact List.nodup_range.imp fun {a b} hab e => hab (by omega)) (fun a => by
      rw [h a, List.mem_map]
      constructor
      · intro z
        exact ⟨a.toNat, List.mem_range.mpr (by omega), by omega⟩
      · rintro ⟨i, hi, rfl⟩
        have := List.mem_range.mp hi
        omega)
  rw [e, List.length_map, List.length_range]
structure GoodT (rd : List Int) (turns bells late : Int) (bss : List (List Int)) : Prop where
  keys : ∀ k : Int, grp (turns + late) k rd ≠ [] ↔ 0 ≤ k ∧ k < (bss.length : Int)
  part : ∀ (i : Nat) (bs : List Int), bss[i]? = some bs → boxL late (grp (turns + late) (i : Int) rd) = bs ∧ ((grp (turns + late) (i : Int) rd).length : Int) = bells ∧ IsBox bs ∧ Szs 70000 bs ∧ numB bs < cnt turns bells late
section
variable {P : Program} {w : World} {K : PySem.W.Frag} {mg : Str → Option Value} {base : Heap}
noncomputable def spTalkE (K : PySem.W.Frag) (C : Addr) : Sp := fun vs H Q E => ∃ (a : Addr) (rd : List Int) (many turns bells late : Int) (bss : List (List Int)), vs = [.ref a, .int many, .int turns, .int bells, .int late] ∧ SqL K H a (rd.map V.int) ∧ rd.length ≤ 20000 ∧ 0 ≤ many ∧ many ≤ 1000 ∧ 1 ≤ bells ∧ bells ≤ 60 ∧ bells ≤ turns ∧ 0 ≤ late ∧ intBits late ≤ 8000 ∧ intBits turns ≤ 8000 ∧ GoodT rd turns bells late bss ∧
  ((bss.length : Int) = many → ∀ (p : Addr) (H' : Hp), Same H H' → H p = none → H' p = some (.lst ((bss.map numB).map V.int)) → Q (.ref p) H') ∧ ((bss.length : Int) ≠ many → ∀ H', Same H H' → E (.ref C) none H')
theorem sc_talk_heard : FnScope ["reading", "many", "turns", "bells", "late", "heard_of"] ["reading", "many", "turns", "bells", "late"] (defScope st_talk_heard) := ⟨rfl, rfl, rfl, by decide +kernel, rfl, by decide +kernel, by decide +kernel⟩
theorem ok_talk_heardE {C_NoReading : Addr} (D : Def K mg "talk_heard" st_talk_heard ["reading", "many", "turns", "bells", "late"]) (T : Txt K mg) (m_NoReading : mg "NoReading" = some (.ref C_NoReading)) (x_NoReading : PySem.W.excIn K C_NoReading bmV "ValueError.__new__" = true) (G_by_messages : Fn P w K mg base 1 "by_messages" ["reading", "turns", "late"] (spBy K)) (G_read : Fn P w K mg base 3 "read" ["reading", "turns", "bells", "late"] (spRead K)) :
    FnE P w K mg base 4 "talk_heard" ["reading", "many", "turns", "bells", "late"] (spTalkE K C_NoReading) := by
  refine D.fnE sc_talk_heard (fun vs H Q E h => ?_) (fun f cdv A outer s H vs Q E hr h => ?_)
  · obtain ⟨a, rd, m, t, b, l, bss, rfl, _⟩ := h
    rfl
  · obtain ⟨a, rd, many, turns, bells, late, bss, rfl, hS, hl, m0, m1, b1, b60, bt, l0, lb, tb, G, q1, q2⟩ := h
    refine ⟨_, (pss_cons (ps_set (i := 5) sc_talk_heard.nd rfl (Or.inr rfl) (pe_fn G_by_messages (hr.mono (by decide)) (by rfl) (pa_cons (pv 0) (pa_cons (pv 2) (pa_cons (pv 4) pa_nil)))))
      (pss_cons (ps_if (pt_cmpR op_neI (pe_callB call_lenD (by rfl) T.z_len b_len (pa_cons (pv 5) pa_nil)) (pv 1) (nomark _))
        (pss_one (ps_raise PySem.F.excBase_ValueError x_NoReading (by rfl) m_NoReading (pa_cons pe_str pa_nil)))
        pss_nil)
      (pss_one (ps_ret (pe_comp (own := ["place"]) (fr := ["turns", "bells", "late", "heard_of"]) (ix := [2, 3, 4, 5]) rfl ⟨rfl, rfl, rfl, rfl, rfl, rfl⟩ (pi_range1 (by rfl) T.z_range (pa_cons (pv 1) pa_nil)) (fun _ _ _ _ _ => (pg_name (i := 0) (show (["place", "turns", "bells", "late", "heard_of"] : List Str).Nodup by decide +kernel) rfl (Or.inl rfl))) (fun _ _ _ _ _ => pts_nil) (fun _ _ _ _ _ => (pe_fn G_read (hr.mono (by decide)) (by rfl) (pa_cons (pe_dget2 (hu_of hr) (pv 4) (pv 0) (pe_lst pa_nil) ⟨rfl, rfl, rfl, rfl⟩) (pa_cons (pv 1) (pa_cons (pv 2) (pa_cons (pv 3) pa_nil))))))))))), ?_⟩
    refine ⟨_, rfl, _, rfl, _, rfl, a, rd, turns, late, rfl, hS, hl, by omega, bits_mono (intBits_add_le (m := 8000) (n := 8000) tb lb) (by decide), fun d kvs ks ad H1 s1 hD M => ?_⟩
    have kl : ks.length = bss.length := keys_len M.nd fun k => (M.mem k).trans (G.keys k)
    have el : kvs.length = bss.length := M.len.trans kl
    refine ⟨_, rfl, d, kvs, rfl, hD, _, rfl, _, _, rfl, rfl, _, rfl, ifND (fun e => ⟨(by decide), q2 (by omega) H1 s1⟩) (fun e => ?_)⟩
    have em : (bss.length : Int) = many := by omega
    have q := q1 em
    refine ⟨_, rfl, many, rfl, by omega, by omega, fun acc hacc => comp_rangeG (lo := 0) (n := many.toNat) (fun i v => ∃ bs, bss[i]? = some bs ∧ v = V.int (numB bs)) hacc (Nat.le_of_lt (small1000 (by omega))) ?_ ?_⟩
    · intro i H6 R' hi s6 hR
      rw [show (0 : Int) + (i : Int) = (i : Int) by omega]
      have hib : i < bss.length := by omega
      have hbs := List.getElem?_eq_getElem hib
      generalize bss[i] = bs at hbs
      obtain ⟨g1, g2, g3, g4, g5⟩ := G.part i bs hbs
      have hk : (i : Int) ∈ ks := (M.mem _).mpr ((G.keys _).mpr ⟨by omega, by omega⟩)
      have hv : valV kvs (Sum.inl (i : Int)) = some (.ref (ad (i : Int))) := by rw [M.val, if_pos hk]
      refine ⟨rfl, _, rfl, d, rfl, .inl ⟨kvs, .inl (s6 _ _ hD)⟩, _, rfl, (by decide), fun p hp => ⟨_, DGet.k (k := Sum.inl (i : Int)) ((Same.new hp) _ _ (s6 _ _ hD)), ?_⟩⟩
      rw [hv]
      have hA : (upd H6 p (.lst [])) (ad (i : Int)) = some (.lst ((grp (turns + late) (i : Int) rd).map V.int)) := (Same.new hp) _ _ (s6 _ _ (M.ls _ hk))
      refine ⟨_, rfl, _, rfl, _, rfl, ad (i : Int), grp (turns + late) (i : Int) rd, turns, bells, late, rfl, SqL.of hA, g2, b60, l0, lb, bits_mono tb (by decide), by rw [g1]; exact g3, by rw [g1]; exact g4, by rw [g1]; exact g5, fun H7 s7 => ?_⟩
      rw [g1]
      exact hR _ _ ((Same.new hp).trans s7) ⟨bs, hbs, rfl⟩
    · intro ys H2 s2 hY yl yp
      have ey : ys = (bss.map numB).map V.int := by
        apply List.ext_getElem?
        intro i
        rw [List.getElem?_map, List.getElem?_map]
        by_cases hi : i < bss.length
        · have h1 : i < ys.length := by omega
          obtain ⟨bs, hb, hv⟩ := yp i _ (List.getElem?_eq_getElem h1)
          rw [List.getElem?_eq_getElem h1, hv, hb]
          rfl
        · rw [List.getElem?_eq_none (by omega), List.getElem?_eq_none (by omega)]
          rfl
      rw [ey] at hY
      exact q acc H2 (s1.trans s2) (s1.free hacc) hY
end
noncomputable def flds (t b l n : Int) (r : Addr) (k : Bool) : List (Str × V) := [("turns", .int t), ("bells", .int b), ("late", .int l), ("now", .int n), ("reading", .ref r), ("known", .bl k)]
theorem ne_turns_bells : ¬ (("turns" : Str) = "bells") := by decide +kernel
theorem ne_turns_late : ¬ (("turns" : Str) = "late") := by decide +kernel
theorem ne_turns_now : ¬ (("turns" : Str) = "now") := by decide +kernel
theorem ne_turns_reading : ¬ (("turns" : Str) = "reading") := by decide +kernel
theorem ne_turns_known : ¬ (("turns" : Str) = "known") := by decide +kernel
theorem ne_bells_turns : ¬ (("bells" : Str) = "turns") := by decide +kernel
theorem ne_bells_late : ¬ (("bells" : Str) = "late") := by decide +kernel
theorem ne_bells_now : ¬ (("bells" : Str) = "now") := by decide +kernel
theorem ne_bells_reading : ¬ (("bells" : Str) = "reading") := by decide +kernel
theorem ne_bells_known : ¬ (("bells" : Str) = "known") := by decide +kernel
theorem ne_late_turns : ¬ (("late" : Str) = "turns") := by decide +kernel
theorem ne_late_bells : ¬ (("late" : Str) = "bells") := by decide +kernel
theorem ne_late_now : ¬ (("late" : Str) = "now") := by decide +kernel
theorem ne_late_reading : ¬ (("late" : Str) = "reading") := by decide +kernel
theorem ne_late_known : ¬ (("late" : Str) = "known") := by decide +kernel
theorem ne_now_turns : ¬ (("now" : Str) = "turns") := by decide +kernel
theorem ne_now_bells : ¬ (("now" : Str) = "bells") := by decide +kernel
theorem ne_now_late : ¬ (("now" : Str) = "late") := by decide +kernel
theorem ne_now_reading : ¬ (("now" : Str) = "reading") := by decide +kernel
theorem ne_now_known : ¬ (("now" : Str) = "known") := by decide +kernel
theorem ne_reading_turns : ¬ (("reading" : Str) = "turns") := by decide +kernel
theorem ne_reading_bells : ¬ (("reading" : Str) = "bells") := by decide +kernel
theorem ne_reading_late : ¬ (("reading" : Str) = "late") := by decide +kernel
theorem ne_reading_now : ¬ (("reading" : Str) = "now") := by decide +kernel
theorem ne_reading_known : ¬ (("reading" : Str) = "known") := by decide +kernel
theorem ne_known_turns : ¬ (("known" : Str) = "turns") := by decide +kernel
theorem ne_known_bells : ¬ (("known" : Str) = "bells") := by decide +kernel
theorem ne_known_late : ¬ (("known" : Str) = "late") := by decide +kernel
theorem ne_known_now : ¬ (("known" : Str) = "now") := by decide +kernel
theorem ne_known_reading : ¬ (("known" : Str) = "reading") := by decide +kernel
theorem lk_turns (t b l n : Int) (r : Addr) (k : Bool) : (flds t b l n r k).lookup ("turns" : Str) = some (V.int t) := by
  unfold flds
  simp only [List.lookup_cons, beq_self_eq_true]
theorem lk_bells (t b l n : Int) (r : Addr) (k : Bool) : (flds t b l n r k).lookup ("bells" : Str) = some (V.int b) := by
  unfold flds
  simp only [List.lookup_cons, show (("bells" : Str) == "turns") = false from beq_eq_false_iff_ne.mpr ne_bells_turns, beq_self_eq_true]
theorem lk_late (t b l n : Int) (r : Addr) (k : Bool) : (flds t b l n r k).lookup ("late" : Str) = some (V.int l) := by
  unfold flds
  simp only [List.lookup_cons, show (("late" : Str) == "turns") = false from beq_eq_false_iff_ne.mpr ne_late_turns, show (("late" : Str) == "bells") = false from beq_eq_false_iff_ne.mpr ne_late_bells, beq_self_eq_true]
theorem lk_now (t b l n : Int) (r : Addr) (k : Bool) : (flds t b l n r k).lookup ("now" : Str) = some (V.int n) := by
  unfold flds
  simp only [List.lookup_cons, show (("now" : Str) == "turns") = false from beq_eq_false_iff_ne.mpr ne_now_turns, show (("now" : Str) == "bells") = false from beq_eq_false_iff_ne.mpr ne_now_bells, show (("now" : Str) == "late") = false from beq_eq_false_iff_ne.mpr ne_now_late, beq_self_eq_true]
theorem lk_reading (t b l n : Int) (r : Addr) (k : Bool) : (flds t b l n r k).lookup ("reading" : Str) = some (V.ref r) := by
  unfold flds
  simp only [List.lookup_cons, show (("reading" : Str) == "turns") = false from beq_eq_false_iff_ne.mpr ne_reading_turns, show (("reading" : Str) == "bells") = false from beq_eq_false_iff_ne.mpr ne_reading_bells, show (("reading" : Str) == "late") = false from beq_eq_false_iff_ne.mpr ne_reading_late, show (("reading" : Str) == "now") = false from beq_eq_false_iff_ne.mpr ne_reading_now, beq_self_eq_true]
theorem lk_known (t b l n : Int) (r : Addr) (k : Bool) : (flds t b l n r k).lookup ("known" : Str) = some (V.bl k) := by
  unfold flds
  simp only [List.lookup_cons, show (("known" : Str) == "turns") = false from beq_eq_false_iff_ne.mpr ne_known_turns, show (("known" : Str) == "bells") = false from beq_eq_false_iff_ne.mpr ne_known_bells, show (("known" : Str) == "late") = false from beq_eq_false_iff_ne.mpr ne_known_late, show (("known" : Str) == "now") = false from beq_eq_false_iff_ne.mpr ne_known_now, show (("known" : Str) == "reading") = false from beq_eq_false_iff_ne.mpr ne_known_reading, beq_self_eq_true]
theorem lk_no {t b l n : Int} {r : Addr} {k : Bool} {m : Str} (h0 : ¬ m = "turns") (h1 : ¬ m = "bells") (h2 : ¬ m = "late") (h3 : ¬ m = "now") (h4 : ¬ m = "reading") (h5 : ¬ m = "known") : (flds t b l n r k).lookup m = none := by
  unfold flds
  simp only [List.lookup_cons, List.lookup_nil, beq_eq_false_iff_ne.mpr h0, beq_eq_false_iff_ne.mpr h1, beq_eq_false_iff_ne.mpr h2, beq_eq_false_iff_ne.mpr h3, beq_eq_false_iff_ne.mpr h4, beq_eq_false_iff_ne.mpr h5]
theorem put_now (t b l n : Int) (r : Addr) (k : Bool) (m : Int) : putF "now" (V.int m) (flds t b l n r k) = flds t b l m r k := by
  unfold flds
  simp only [putF, if_neg ne_turns_now, if_neg ne_bells_now, if_neg ne_late_now, if_true]
theorem put_reading (t b l n : Int) (r : Addr) (k : Bool) (q : Addr) : putF "reading" (V.ref q) (flds t b l n r k) = flds t b l n q k := by
  unfold flds
  simp only [putF, if_neg ne_turns_reading, if_neg ne_bells_reading, if_neg ne_late_reading, if_neg ne_now_reading, if_true]
theorem put_known (t b l n : Int) (r : Addr) (k : Bool) (j : Bool) : putF "known" (V.bl j) (flds t b l n r k) = flds t b l n r j := by
  unfold flds
  simp only [putF, if_neg ne_turns_known, if_neg ne_bells_known, if_neg ne_late_known, if_neg ne_now_known, if_neg ne_reading_known, if_true]
theorem put_all (t b l n : Int) (r : Addr) (k : Bool) : putF "known" (V.bl k) (putF "reading" (V.ref r) (putF "now" (V.int n) (putF "late" (V.int l) (putF "bells" (V.int b) (putF "turns" (V.int t) []))))) = flds t b l n r k := by
  unfold flds
  simp only [putF, if_neg ne_turns_bells, if_neg ne_turns_late, if_neg ne_bells_late, if_neg ne_turns_now, if_neg ne_bells_now, if_neg ne_late_now, if_neg ne_turns_reading, if_neg ne_bells_reading, if_neg ne_late_reading, if_neg ne_now_reading, if_neg ne_turns_known, if_neg ne_bells_known, if_neg ne_late_known, if_neg ne_now_known, if_neg ne_reading_known]
noncomputable def ear (b n : Int) (qs : List Int) : List Int := qs ++ (List.range (b - (qs.length : Int)).toNat).map (fun (i : Nat) => n + 1 + (i : Int))
noncomputable def SameX (x : Addr) (H H' : Hp) : Prop := ∀ a o, H a = some o → a ≠ x → H' a = some o
theorem SameX.of {x : Addr} {H H' : Hp} (s : Same H H') : SameX x H H' := fun a o h _ => s a o h
theorem SameX.trans {x : Addr} {H H' H2 : Hp} (s : SameX x H H') (s2 : SameX x H' H2) : SameX x H H2 := fun a o h n => s2 a o (s a o h n) n
theorem SameX.put {x : Addr} {H H' : Hp} {o : HO} (s : SameX x H H') : SameX x H (upd H' x o) := fun a v h n => by rw [upd_ne n]; exact s a v h n
theorem SameX.new {x p : Addr} {H H' : Hp} {o : HO} (s : SameX x H H') (hp : H' p = none) : SameX x H (upd H' p o) := fun a v h n => (Same.new hp) a v (s a v h n)
theorem flat_one (v : Int) : ∀ m : Nat, (List.replicate m [V.int v]).flatten = (List.replicate m v).map V.int
  | 0 => rfl
  | m + 1 => by
    rw [List.replicate_succ, List.flatten_cons, flat_one v m, List.replicate_succ, List.map_cons]
    rfl
structure HrT (K : PySem.W.Frag) (C : Addr) : Prop where
  cl : Cls K C
  n1 : NoAttr K C "turns"
  n2 : NoAttr K C "bells"
  n3 : NoAttr K C "late"
  n4 : NoAttr K C "now"
  n5 : NoAttr K C "reading"
  n6 : NoAttr K C "known"
theorem no_last {t b l n : Int} {r : Addr} {k : Bool} : (flds t b l n r k).lookup ("is_last_turn" : Str) = none := lk_no (by decide +kernel) (by decide +kernel) (by decide +kernel) (by decide +kernel) (by decide +kernel) (by decide +kernel)
theorem no_ear {t b l n : Int} {r : Addr} {k : Bool} : (flds t b l n r k).lookup ("earliest" : Str) = none := lk_no (by decide +kernel) (by decide +kernel) (by decide +kernel) (by decide +kernel) (by decide +kernel) (by decide +kernel)
theorem no_knows {t b l n : Int} {r : Addr} {k : Bool} : (flds t b l n r k).lookup ("knows" : Str) = none := lk_no (by decide +kernel) (by decide +kernel) (by decide +kernel) (by decide +kernel) (by decide +kernel) (by decide +kernel)
theorem no_go {t b l n : Int} {r : Addr} {k : Bool} : (flds t b l n r k).lookup ("go_on" : Str) = none := lk_no (by decide +kernel) (by decide +kernel) (by decide +kernel) (by decide +kernel) (by decide +kernel) (by decide +kernel)
theorem no_turn {t b l n : Int} {r : Addr} {k : Bool} : (flds t b l n r k).lookup ("turn" : Str) = none := lk_no (by decide +kernel) (by decide +kernel) (by decide +kernel) (by decide +kernel) (by decide +kernel) (by decide +kernel)
theorem flds_len {t b l n : Int} {r : Addr} {k : Bool} : (flds t b l n r k).length < 1000 := by show 6 < 1000; decide
section
variable {P : Program} {w : World} {K : PySem.W.Frag} {mg : Str → Option Value} {base : Heap} {C : Addr}
noncomputable def spLast (C : Addr) : Sp := fun vs H Q _ => ∃ (x dx r : Addr) (t b l n : Int) (k : Bool), vs = [.ref x] ∧ H x = some (.ins C dx (flds t b l n r k)) ∧ Q (.bl (decide (n = t + l - 1))) H
theorem sc_Hearer_is_last_turn : FnScope ["self"] ["self"] (defScope st_Hearer_is_last_turn) := ⟨rfl, rfl, rfl, by decide +kernel, rfl, by decide +kernel, by decide +kernel⟩
theorem ok_last {f : Addr} {fd : FuncData} (F : FunD K "is_last_turn" "Hearer.is_last_turn" st_Hearer_is_last_turn f fd) (T : Txt K mg) (hT : HrT K C) : FnOk P w K mg base CX0 1 f fd ["self"] (spLast C) := by
  refine F.ok sc_Hearer_is_last_turn (fun vs H Q E h => ?_) (fun cdv A outer s H vs Q E hr h => ?_)
  · obtain ⟨x, dx, r, t, b, l, n, k, rfl, _⟩ := h
    rfl
  · obtain ⟨x, dx, r, t, b, l, n, k, rfl, hx, q⟩ := h
    refine ⟨_, (pss_one (ps_ret (pe_cmpR op_eqI (pe_fld (pv 0) rfl) (pe_op op_subI (pe_op op_addI (pe_fld (pv 0) rfl) (pe_fld (pv 0) rfl)) pe_int) (nomark _)))), ?_⟩
    exact ⟨_, rfl, x, C, dx, _, _, rfl, hx, hT.cl, hT.n4, lk_now .., _, rfl, x, C, dx, _, _, rfl, hx, hT.cl, hT.n1, lk_turns .., _, rfl, x, C, dx, _, _, rfl, hx, hT.cl, hT.n3, lk_late .., _, _, rfl, rfl, _, _, rfl, rfl, _, _, rfl, rfl, q⟩
noncomputable def spGo (C : Addr) : Sp := fun vs H Q _ => ∃ (x dx r qa : Addr) (t b l n : Int) (k kb : Bool), vs = [.ref x, .ref qa, .bl kb] ∧ H x = some (.ins C dx (flds t b l n r k)) ∧
  ∀ (n' : Int) (r' : Addr) (k' : Bool) (H' : Hp), SameX x H H' → H' x = some (.ins C dx (flds t b l n' r' k')) → ((n = t + l - 1 ∧ n' = 0 ∧ k' = false ∧ H r' = none ∧ H' r' = some (.lst [])) ∨ (¬ n = t + l - 1 ∧ n' = n + 1 ∧ r' = qa ∧ k' = kb)) → Q .non H'
theorem sc_Hearer_go_on : FnScope ["self", "reading", "known"] ["self", "reading", "known"] (defScope st_Hearer_go_on) := ⟨rfl, rfl, rfl, by decide +kernel, rfl, by decide +kernel, by decide +kernel⟩
theorem ok_go {f : Addr} {fd : FuncData} (F : FunD K "go_on" "Hearer.go_on" st_Hearer_go_on f fd) (T : Txt K mg) (hT : HrT K C) (M_is_last_turn : Mt P w K mg base 1 C "is_last_turn" ["self"] (spLast C)) : FnOk P w K mg base CX0 2 f fd ["self", "reading", "known"] (spGo C) := by
  refine F.ok sc_Hearer_go_on (fun vs H Q E h => ?_) (fun cdv A outer s H vs Q E hr h => ?_)
  · obtain ⟨x, dx, r, qa, t, b, l, n, k, kb, rfl, _⟩ := h
    rfl
  · obtain ⟨x, dx, r, qa, t, b, l, n, k, kb, rfl, hx, q⟩ := h
    refine ⟨_, (pss_one (ps_if (pt_val (pe_mt0 (pv 0) M_is_last_turn (hr.mono (by decide))))
        (pss_cons (ps_fld (pv 0) pe_int rfl)
        (pss_cons (ps_fld (pv 0) (pe_lst pa_nil) rfl)
        (pss_one (ps_fld (pv 0) pe_bl rfl))))
        (pss_cons (ps_fld (pv 0) (pe_op op_addI (pe_fld (pv 0) rfl) pe_int) rfl)
        (pss_cons (ps_fld (pv 0) (pv 1) rfl)
        (pss_one (ps_fld (pv 0) (pv 2) rfl)))))), ?_⟩
    refine ⟨_, rfl, x, dx, _, rfl, hx, no_last, x, dx, r, t, b, l, n, k, rfl, hx, _, rfl, ifD (fun z => ?_) (fun z => ?_)⟩
    · refine ⟨_, rfl, x, C, dx, _, rfl, hx, hT.cl, hT.n4, flds_len, ?_⟩
      rw [put_now]
      refine ⟨(by decide), fun r' hr' => ?_⟩
      have nr : r' ≠ x := fun e => by rw [e, upd_same] at hr'; cases hr'
      have h1 : (upd (upd H x (.ins C dx (flds t b l 0 r k))) r' (.lst [])) x = some (.ins C dx (flds t b l 0 r k)) := (Same.new hr') _ _ upd_same
      refine ⟨_, rfl, x, C, dx, _, rfl, h1, hT.cl, hT.n5, flds_len, ?_⟩
      rw [put_reading]
      refine ⟨_, rfl, x, C, dx, _, rfl, upd_same, hT.cl, hT.n6, flds_len, ?_⟩
      rw [put_known]
      refine q 0 r' false _ (((SameX.of (Same.refl _)).put.new hr').put.put) upd_same (.inl ⟨z, rfl, rfl, ?_, ?_⟩)
      · rw [upd_ne nr] at hr'; exact hr'
      · rw [upd_ne nr, upd_ne nr, upd_same]
    · refine ⟨_, rfl, x, C, dx, _, _, rfl, hx, hT.cl, hT.n4, lk_now .., _, _, rfl, rfl, _, rfl, x, C, dx, _, rfl, hx, hT.cl, hT.n4, flds_len, ?_⟩
      rw [put_now]
      refine ⟨_, rfl, _, rfl, x, C, dx, _, rfl, upd_same, hT.cl, hT.n5, flds_len, ?_⟩
      rw [put_reading]
      refine ⟨_, rfl, _, rfl, x, C, dx, _, rfl, upd_same, hT.cl, hT.n6, flds_len, ?_⟩
      rw [put_known]
      exact q _ qa kb _ ((SameX.of (Same.refl _)).put.put.put) upd_same (.inr ⟨z, rfl, rfl, rfl⟩)
noncomputable def spEar (C : Addr) : Sp := fun vs H Q _ => ∃ (x dx r qa : Addr) (t b l n : Int) (k : Bool) (qs : List Int), vs = [.ref x, .ref qa] ∧ H x = some (.ins C dx (flds t b l n r k)) ∧ H qa = some (.lst (qs.map V.int)) ∧ (qs.length : Int) ≤ b ∧ b ≤ 60 ∧
  ∀ (p : Addr) (H' : Hp), Same H H' → H p = none → H' p = some (.lst ((ear b n qs).map V.int)) → Q (.ref p) H'
theorem sc_Hearer_earliest : FnScope ["self", "reading", "missing"] ["self", "reading"] (defScope st_Hearer_earliest) := ⟨rfl, rfl, rfl, by decide +kernel, rfl, by decide +kernel, by decide +kernel⟩
theorem ok_ear {f : Addr} {fd : FuncData} (F : FunD K "earliest" "Hearer.earliest" st_Hearer_earliest f fd) (T : Txt K mg) (hT : HrT K C) : FnOk P w K mg base CX0 1 f fd ["self", "reading"] (spEar C) := by
  refine F.ok sc_Hearer_earliest (fun vs H Q E h => ?_) (fun cdv A outer s H vs Q E hr h => ?_)
  · obtain ⟨x, dx, r, qa, t, b, l, n, k, qs, rfl, _⟩ := h
    rfl
  · obtain ⟨x, dx, r, qa, t, b, l, n, k, qs, rfl, hx, hq, hl, b60, q⟩ := h
    refine ⟨_, (pss_cons (ps_set (i := 2) sc_Hearer_earliest.nd rfl (Or.inl rfl) (pe_op op_subI (pe_fld (pv 0) rfl) (pe_callB call_len_seq (by rfl) T.z_len b_len (pa_cons (pv 1) pa_nil))))
      (pss_one (ps_ret (pe_op op_cat (pv 1) (pe_comp (own := ["place"]) (fr := ["self"]) (ix := [0]) rfl ⟨rfl, rfl, rfl, rfl, rfl, rfl⟩ (pi_range1 (by rfl) T.z_range (pa_cons (pv 2) pa_nil)) (fun _ _ _ _ _ => (pg_name (i := 0) (show (["place", "self"] : List Str).Nodup by decide +kernel) rfl (Or.inl rfl))) (fun _ _ _ _ _ => pts_nil) (fun _ _ _ _ _ => (pe_op op_addI (pe_op op_addI (pe_fldK K (pv 1) rfl) pe_int) (pv 0)))))))), ?_⟩
    refine ⟨_, rfl, x, C, dx, _, _, rfl, hx, hT.cl, hT.n2, lk_bells .., _, rfl, _, _, rfl, .inl (SqL.of hq), _, _, rfl, rfl, ?_⟩
    rw [List.length_map]
    refine ⟨_, rfl, _, rfl, b - (qs.length : Int), rfl, by omega, by omega, fun acc hacc => comp_rangeP (lo := 0) (n := (b - (qs.length : Int)).toNat) (fun i => V.int (n + 1 + (i : Int))) hacc (Nat.le_of_lt (small1000 (by omega))) (fun i H6 R hi s6 hR => ?_) ?_⟩
    · rw [show (0 : Int) + (i : Int) = (i : Int) by omega]
      exact ⟨rfl, _, rfl, x, C, dx, _, _, rfl, s6 _ _ hx, hT.cl, hT.n4, lk_now .., _, _, rfl, rfl, _, rfl, _, _, rfl, rfl, hR⟩
    refine ⟨qa, acc, _, _, rfl, rfl, (Same.new hacc) _ _ hq, upd_same, ?_, fun p hp => ?_⟩
    · rw [List.length_map, List.length_map, List.length_range]
      exact Nat.le_of_lt (small1000 (by omega))
    refine q p _ ((Same.new hacc).put hp) ((Same.new hacc).free hp) ?_
    rw [upd_same]
    unfold ear
    rw [List.map_append, List.map_map]
    rfl
noncomputable def spKn (C : Addr) (PK : Int → Int → Int → Int → List Int → Bool → Prop) : Sp := fun vs H Q _ => ∃ (x dx r qa : Addr) (t b l n : Int) (k kb : Bool) (qs : List Int), vs = [.ref x, .ref qa] ∧ H x = some (.ins C dx (flds t b l n r k)) ∧ H qa = some (.lst (qs.map V.int)) ∧ (qs.length : Int) ≤ b ∧ b ≤ 60 ∧ 0 ≤ l ∧ intBits l ≤ 100 ∧ PK t b l n qs kb ∧
  ∀ (H' : Hp), Same H H' → Q (.bl kb) H'
noncomputable def PKh : Int → Int → Int → Int → List Int → Bool → Prop := fun t b l n qs kb => kb = decide ((qs.length : Int) = b) ∧ (n = t + l - 1 → (qs.length : Int) = b)
theorem sc_Hearer_knows : FnScope ["self", "reading", "whole"] ["self", "reading"] (defScope st_Hearer_knows) := ⟨rfl, rfl, rfl, by decide +kernel, rfl, by decide +kernel, by decide +kernel⟩
theorem ok_knows {f : Addr} {fd : FuncData} (F : FunD K "knows" "Hearer.knows" st_Hearer_knows f fd) (T : Txt K mg) (hT : HrT K C) (M_is_last_turn : Mt P w K mg base 1 C "is_last_turn" ["self"] (spLast C)) : FnOk P w K mg base CX0 2 f fd ["self", "reading"] (spKn C PKh) := by
  refine F.ok sc_Hearer_knows (fun vs H Q E h => ?_) (fun cdv A outer s H vs Q E hr h => ?_)
  · obtain ⟨x, dx, r, qa, t, b, l, n, k, kb, qs, rfl, _⟩ := h
    rfl
  · obtain ⟨x, dx, r, qa, t, b, l, n, k, kb, qs, rfl, hx, hq, hl, b60, l0, lb, ⟨rfl, pk⟩, q⟩ := h
    refine ⟨_, (pss_cons (ps_set (i := 2) sc_Hearer_knows.nd rfl (Or.inl rfl) (pe_cmpR op_eqI (pe_callB call_len_seq (by rfl) T.z_len b_len (pa_cons (pv 1) pa_nil)) (pe_fld (pv 0) rfl) (nomark _)))
      (pss_cons (ps_if (pw_and (pt_val (pe_mt0 (pv 0) M_is_last_turn (hr.mono (by decide)))) (pw_and1 (pt_not (pt_val (pv 2))))).pt
        (pss_one (ps_never))
        pss_nil)
      (pss_one (ps_ret (pv 2))))), ?_⟩
    refine ⟨_, rfl, _, _, rfl, .inl (SqL.of hq), _, rfl, x, C, dx, _, _, rfl, hx, hT.cl, hT.n2, lk_bells .., _, _, rfl, rfl, ?_⟩
    rw [List.length_map]
    refine ⟨_, rfl, x, dx, _, rfl, hx, no_last, x, dx, r, t, b, l, n, k, rfl, hx, _, rfl, ifD (fun z => ?_) (fun z => ?_)⟩
    · refine ⟨_, rfl, _, rfl, ?_⟩
      rw [decide_eq_true (pk z)]
      have q := q H (Same.refl _)
      rw [decide_eq_true (pk z)] at q
      exact iteF ⟨_, rfl, q⟩
    · exact ⟨_, rfl, q H (Same.refl _)⟩
noncomputable def PKk : Int → Int → Int → Int → List Int → Bool → Prop := fun t b l n qs kb => IsBox (boxL l (ear b n qs)) ∧ ∃ g, (boxL l (ear b n qs)).getLast? = some g ∧ g ≤ (t - b) / (l + 1) ∧ kb = (decide ((qs.length : Int) = b) || decide (g = (t - b) / (l + 1)))
theorem ear_len {b n : Int} {qs : List Int} (h : (qs.length : Int) ≤ b) : (ear b n qs).length = b.toNat := by
  unfold ear
  rw [List.length_append, List.length_map, List.length_range]
  omega
theorem sc_KeenHearer_knows : FnScope ["self", "reading", "least", "greatest"] ["self", "reading"] (defScope st_KeenHearer_knows) := ⟨rfl, rfl, rfl, by decide +kernel, rfl, by decide +kernel, by decide +kernel⟩
theorem ok_keen {f : Addr} {fd : FuncData} (F : FunD K "knows" "KeenHearer.knows" st_KeenHearer_knows f fd) (T : Txt K mg) (hT : HrT K C) {C_NoReading : Addr} (M_earliest : Mt P w K mg base 1 C "earliest" ["self", "reading"] (spEar C)) (GE_heard_box : FnE P w K mg base 2 "heard_box" ["reading", "late"] (spHBoxE K C_NoReading)) (G_greatest_part : Fn P w K mg base 1 "greatest_part" ["turns", "bells", "late"] spGreat) : FnOk P w K mg base CX0 3 f fd ["self", "reading"] (spKn C PKk) := by
  have G_heard_box := fnE_fn GE_heard_box
  refine F.ok sc_KeenHearer_knows (fun vs H Q E h => ?_) (fun cdv A outer s H vs Q E hr h => ?_)
  · obtain ⟨x, dx, r, qa, t, b, l, n, k, kb, qs, rfl, _⟩ := h
    rfl
  · obtain ⟨x, dx, r, qa, t, b, l, n, k, kb, qs, rfl, hx, hq, hl, b60, l0, lb, ⟨B, g, hg, gl, rfl⟩, q⟩ := h
    refine ⟨_, (pss_cons (ps_set (i := 2) sc_KeenHearer_knows.nd rfl (Or.inl rfl) (pe_ix ix_list (pe_fn G_heard_box (hr.mono (by decide)) (by rfl) (pa_cons (pe_mt (pv 0) M_earliest (hr.mono (by decide)) (pa_cons (pv 1) pa_nil)) (pa_cons (pe_fld (pv 0) rfl) pa_nil))) (pe_un un_neg pe_int) (fun _ _ => rfl)))
      (pss_cons (ps_set (i := 3) sc_KeenHearer_knows.nd rfl (Or.inl rfl) (pe_fn G_greatest_part (hr.mono (by decide)) (by rfl) (pa_cons (pe_fld (pv 0) rfl) (pa_cons (pe_fld (pv 0) rfl) (pa_cons (pe_fld (pv 0) rfl) pa_nil)))))
      (pss_cons (ps_if (pt_cmpR op_gtI (pv 2) (pv 3) (nomark _))
        (pss_one (ps_never))
        pss_nil)
      (pss_one (ps_ret (pe_or (pe_cmpR op_eqI (pe_callB call_len_seq (by rfl) T.z_len b_len (pa_cons (pv 1) pa_nil)) (pe_fld (pv 0) rfl) (nomark _)) (pe_one (pe_cmpR op_eqI (pv 2) (pv 3) (nomark _))))))))), ?_⟩
    have lb8 : intBits l ≤ 8000 := bits_mono lb (by decide)
    refine ⟨_, rfl, x, dx, _, rfl, hx, no_ear, _, rfl, x, dx, r, qa, t, b, l, n, k, qs, rfl, hx, hq, hl, b60, fun p H1 s1 hp h1 => ?_⟩
    refine ⟨_, rfl, x, C, dx, _, _, rfl, s1 _ _ hx, hT.cl, hT.n3, lk_late .., p, ear b n qs, l, rfl, SqL.of h1, by rw [ear_len hl]; omega, l0, lb8, fun _ p2 H2 s2 hp2 h2 => ?_, fun nB => absurd B nB⟩
    have ne : boxL l (ear b n qs) ≠ [] := fun e => by rw [e] at hg; cases hg
    obtain ⟨g', ga, _, gg⟩ := at_last ne
    rw [hg] at gg
    cases gg
    have hx2 := s2 _ _ (s1 _ _ hx)
    have hq2 := s2 _ _ (s1 _ _ hq)
    refine ⟨_, rfl, _, _, _, _, rfl, rfl, SqL.of h2, ga, ?_⟩
    refine ⟨_, rfl, x, C, dx, _, _, rfl, hx2, hT.cl, hT.n1, lk_turns .., _, rfl, x, C, dx, _, _, rfl, hx2, hT.cl, hT.n2, lk_bells .., _, rfl, x, C, dx, _, _, rfl, hx2, hT.cl, hT.n3, lk_late .., t, b, l, rfl, l0, lb8, ?_⟩
    refine ⟨_, rfl, _, rfl, _, _, rfl, rfl, _, rfl, ifF (by omega) ?_⟩
    refine ⟨_, rfl, _, _, rfl, .inl (SqL.of hq2), _, rfl, x, C, dx, _, _, rfl, hx2, hT.cl, hT.n2, lk_bells .., _, _, rfl, rfl, ?_⟩
    rw [List.length_map]
    have q := q H2 (s1.trans s2)
    by_cases e : (qs.length : Int) = b
    · rw [decide_eq_true e] at q ⊢
      exact ⟨true, rfl, iteT q⟩
    · rw [decide_eq_false e] at q ⊢
      exact ⟨false, rfl, iteF ⟨_, rfl, _, rfl, _, _, rfl, rfl, q⟩⟩
noncomputable def spInitE (C CR : Addr) : Sp := fun vs H Q E => ∃ (x dx : Addr) (t b l : Int), vs = [.ref x, .int t, .int b, .int l] ∧ H x = some (.ins C dx []) ∧ 0 ≤ b ∧
  (1 ≤ b ∧ b ≤ t → ∀ (r : Addr) (H' : Hp), SameX x H H' → H r = none → H' x = some (.ins C dx (flds t b l 0 r false)) → H' r = some (.lst []) → Q .non H') ∧ (¬ (1 ≤ b ∧ b ≤ t) → E (.ref CR) none H)
theorem sc_Hearer_init : FnScope ["self", "turns", "bells", "late"] ["self", "turns", "bells", "late"] (defScope st_Hearer_init) := ⟨rfl, rfl, rfl, by decide +kernel, rfl, by decide +kernel, by decide +kernel⟩
theorem ok_init {f : Addr} {fd : FuncData} (F : FunD K "__init__" "Hearer.__init__" st_Hearer_init f fd) (T : Txt K mg) (hT : HrT K C) {C_NoRow : Addr} (GE_refuse_silent : FnE P w K mg base 1 "refuse_silent" ["turns", "bells"] (spSilE C_NoRow)) : FnOk P w K mg base (CXE P w) 2 f fd ["self", "turns", "bells", "late"] (spInitE C C_NoRow) := by
  refine F.okE sc_Hearer_init (fun vs H Q E h => ?_) (fun cdv A outer s H vs Q E hr h => ?_)
  · obtain ⟨x, dx, t, b, l, rfl, _⟩ := h
    rfl
  · obtain ⟨x, dx, t, b, l, rfl, hx, b0, q1, q2⟩ := h
    refine ⟨_, (pss_cons (ps_expr (pe_fnG GE_refuse_silent (hr.mono (by decide)) (by rfl) passesE (pa_cons (pv 1) (pa_cons (pv 2) pa_nil))))
      (pss_cons (ps_fld (pv 0) (pv 1) rfl)
      (pss_cons (ps_fld (pv 0) (pv 2) rfl)
      (pss_cons (ps_fld (pv 0) (pv 3) rfl)
      (pss_cons (ps_fld (pv 0) pe_int rfl)
      (pss_cons (ps_fld (pv 0) (pe_lst pa_nil) rfl)
      (pss_one (ps_fld (pv 0) pe_bl rfl)))))))), ?_⟩
    refine ⟨_, rfl, _, rfl, t, b, rfl, b0, fun g => ?_, q2⟩
    refine ⟨_, rfl, _, rfl, x, C, dx, _, rfl, hx, hT.cl, hT.n1, (by show 0 < 1000; decide), ?_⟩
    refine ⟨_, rfl, _, rfl, x, C, dx, _, rfl, upd_same, hT.cl, hT.n2, (by show 1 < 1000; decide), ?_⟩
    refine ⟨_, rfl, _, rfl, x, C, dx, _, rfl, upd_same, hT.cl, hT.n3, (by simp only [putF, if_neg ne_turns_bells]; show 2 < 1000; decide), ?_⟩
    refine ⟨_, rfl, x, C, dx, _, rfl, upd_same, hT.cl, hT.n4, (by simp only [putF, if_neg ne_turns_bells, if_neg ne_turns_late, if_neg ne_bells_late]; show 3 < 1000; decide), ?_⟩
    refine ⟨(by decide), fun r hr' => ?_⟩
    have nr : r ≠ x := fun e => by rw [e, upd_same] at hr'; cases hr'
    refine ⟨_, rfl, x, C, dx, _, rfl, (Same.new hr') _ _ upd_same, hT.cl, hT.n5, (by simp only [putF, if_neg ne_turns_bells, if_neg ne_turns_late, if_neg ne_bells_late, if_neg ne_turns_now, if_neg ne_bells_now, if_neg ne_late_now]; show 4 < 1000; decide), ?_⟩
    refine ⟨_, rfl, x, C, dx, _, rfl, upd_same, hT.cl, hT.n6, (by simp only [putF, if_neg ne_turns_bells, if_neg ne_turns_late, if_neg ne_bells_late, if_neg ne_turns_now, if_neg ne_bells_now, if_neg ne_late_now, if_neg ne_turns_reading, if_neg ne_bells_reading, if_neg ne_late_reading, if_neg ne_now_reading]; show 5 < 1000; decide), ?_⟩
    rw [put_all]
    refine q1 g r _ ((((((SameX.of (Same.refl _)).put.put.put.put).new hr').put).put)) ?_ upd_same ?_
    · rw [upd_ne nr, upd_ne nr, upd_ne nr, upd_ne nr] at hr'; exact hr'
    · rw [upd_ne nr, upd_ne nr, upd_same]
noncomputable def spTurn (C : Addr) (PK : Int → Int → Int → Int → List Int → Bool → Prop) : Sp := fun vs H Q _ => ∃ (x dx r : Addr) (t b l n many : Int) (k kb : Bool) (rd : List Int), vs = [.ref x, .int many] ∧ H x = some (.ins C dx (flds t b l n r k)) ∧ H r = some (.lst (rd.map V.int)) ∧ 0 ≤ many ∧ (rd.length : Int) + many ≤ b ∧ b ≤ 60 ∧ 0 ≤ l ∧ intBits l ≤ 100 ∧ intBits t ≤ 1000 ∧
  PK t b l n (rd ++ List.replicate many.toNat n) kb ∧ (kb = true → k = false → GoodR t b l (ear b n (rd ++ List.replicate many.toNat n)) ∧ Szs 70000 (boxL l (ear b n (rd ++ List.replicate many.toNat n)))) ∧
  ∀ (p r' : Addr) (n' : Int) (k' : Bool) (rd' : List Int) (H' : Hp), SameX x H H' → H p = none → H r' = none → p ≠ r' → H' p = some (.lst ((if kb = true ∧ k = false then [numB (boxL l (ear b n (rd ++ List.replicate many.toNat n)))] else []).map V.int)) → H' x = some (.ins C dx (flds t b l n' r' k')) → H' r' = some (.lst (rd'.map V.int)) →
    ((n = t + l - 1 ∧ n' = 0 ∧ k' = false ∧ rd' = []) ∨ (¬ n = t + l - 1 ∧ n' = n + 1 ∧ k' = kb ∧ rd' = rd ++ List.replicate many.toNat n)) → Q (.ref p) H'
theorem sc_Hearer_turn : FnScope ["self", "many", "reading", "known", "messages"] ["self", "many"] (defScope st_Hearer_turn) := ⟨rfl, rfl, rfl, by decide +kernel, rfl, by decide +kernel, by decide +kernel⟩
theorem ok_turn {f : Addr} {fd : FuncData} (F : FunD K "turn" "Hearer.turn" st_Hearer_turn f fd) (T : Txt K mg) (hT : HrT K C) {C_NoReading : Addr} {PK : Int → Int → Int → Int → List Int → Bool → Prop} (M_knows : Mt P w K mg base 3 C "knows" ["self", "reading"] (spKn C PK)) (M_earliest : Mt P w K mg base 1 C "earliest" ["self", "reading"] (spEar C)) (M_go_on : Mt P w K mg base 2 C "go_on" ["self", "reading", "known"] (spGo C)) (GE_read : FnE P w K mg base 3 "read" ["reading", "turns", "bells", "late"] (spReadE K C_NoReading)) : FnOk P w K mg base CX0 4 f fd ["self", "many"] (spTurn C PK) := by
  have G_read := fnE_fn GE_read
  refine F.ok sc_Hearer_turn (fun vs H Q E h => ?_) (fun cdv A outer s H vs Q E hr h => ?_)
  · obtain ⟨x, dx, r, t, b, l, n, many, k, kb, rd, rfl, _⟩ := h
    rfl
  · obtain ⟨x, dx, r, t, b, l, n, many, k, kb, rd, rfl, hx, hrd, m0, mb, b60, l0, lb, tb, pk, hg, q⟩ := h
    refine ⟨_, (pss_cons (ps_if (pt_cmpR op_ltI (pv 1) pe_int (nomark _))
        (pss_one (ps_never))
        pss_nil)
      (pss_cons (ps_if (pt_cmpR op_gtI (pe_op op_addI (pe_callB call_len_seq (by rfl) T.z_len b_len (pa_cons (pe_fld (pv 0) rfl) pa_nil)) (pv 1)) (pe_fld (pv 0) rfl) (nomark _))
        (pss_one (ps_never))
        pss_nil)
      (pss_cons (ps_set (i := 2) sc_Hearer_turn.nd rfl (Or.inl rfl) (pe_op op_cat (pe_fld (pv 0) rfl) (pe_op op_rep (pe_lst (pa_cons (pe_fld (pv 0) rfl) pa_nil)) (pv 1))))
      (pss_cons (ps_set (i := 3) sc_Hearer_turn.nd rfl (Or.inl rfl) (pe_mt (pv 0) M_knows (hr.mono (by decide)) (pa_cons (pv 2) pa_nil)))
      (pss_cons (ps_set (i := 4) sc_Hearer_turn.nd rfl (Or.inl rfl) (pe_lst pa_nil))
      (pss_cons (ps_if (pw_and (pt_val (pv 3)) (pw_and1 (pt_not (pt_val (pe_fld (pv 0) rfl))))).pt
        (pss_one (ps_expr (pe_bm PySem.F.plainAttrs_list PySem.F.slot_list_append PySem.F.type_list_append mt_append (pv 4) (pa_cons (pe_fn G_read (hr.mono (by decide)) (by rfl) (pa_cons (pe_mt (pv 0) M_earliest (hr.mono (by decide)) (pa_cons (pv 2) pa_nil)) (pa_cons (pe_fld (pv 0) rfl) (pa_cons (pe_fld (pv 0) rfl) (pa_cons (pe_fld (pv 0) rfl) pa_nil))))) pa_nil))))
        pss_nil)
      (pss_cons (ps_expr (pe_mt (pv 0) M_go_on (hr.mono (by decide)) (pa_cons (pv 2) (pa_cons (pv 3) pa_nil))))
      (pss_one (ps_ret (pv 4)))))))))), ?_⟩
    have lb8 : intBits l ≤ 8000 := bits_mono lb (by decide)
    refine ⟨_, rfl, _, _, rfl, rfl, _, rfl, ifF (by omega) ?_⟩
    refine ⟨_, rfl, x, C, dx, _, _, rfl, hx, hT.cl, hT.n5, lk_reading .., _, _, rfl, .inl (SqL.of hrd), _, rfl, _, _, rfl, rfl, _, rfl, x, C, dx, _, _, rfl, hx, hT.cl, hT.n2, lk_bells .., _, _, rfl, rfl, _, rfl, ifF (by rw [List.length_map]; omega) ?_⟩
    have hl : ((rd ++ List.replicate many.toNat n).length : Int) ≤ b := by rw [List.length_append, List.length_replicate]; omega
    refine ⟨_, rfl, x, C, dx, _, _, rfl, hx, hT.cl, hT.n5, lk_reading .., _, rfl, x, C, dx, _, _, rfl, hx, hT.cl, hT.n4, lk_now .., (by show 1 ≤ sizeLine; decide), fun a1 ha1 => ⟨_, rfl, a1, many, _, rfl, rfl, upd_same, by omega, by omega, ?_, fun a2 ha2 => ?_⟩⟩
    · show 1 * many.toNat ≤ sizeLine
      exact Nat.le_of_lt (small1000 (by omega))
    rw [flat_one]
    refine ⟨r, a2, _, _, rfl, rfl, ((Same.new ha1).put ha2) _ _ hrd, upd_same, ?_, fun p3 hp3 => ?_⟩
    · rw [List.length_map, List.length_map, List.length_replicate]
      exact Nat.le_of_lt (small1000 (by omega))
    rw [← List.map_append]
    have s3 : Same H (upd (upd (upd H a1 (.lst [V.int n])) a2 (.lst ((List.replicate many.toNat n).map V.int))) p3 (.lst ((rd ++ List.replicate many.toNat n).map V.int))) := ((Same.new ha1).put ha2).put hp3
    have hp3H : H p3 = none := ((Same.new ha1).put ha2).free hp3
    have hq3 : (upd (upd (upd H a1 (.lst [V.int n])) a2 (.lst ((List.replicate many.toNat n).map V.int))) p3 (.lst ((rd ++ List.replicate many.toNat n).map V.int))) p3 = some (.lst ((rd ++ List.replicate many.toNat n).map V.int)) := upd_same
    generalize upd (upd (upd H a1 (.lst [V.int n])) a2 (.lst ((List.replicate many.toNat n).map V.int))) p3 (.lst ((rd ++ List.replicate many.toNat n).map V.int)) = H3 at s3 hq3 ⊢
    generalize rd ++ List.replicate many.toNat n = qs at hl pk hg q hq3 ⊢
    refine ⟨_, rfl, x, dx, _, rfl, s3 _ _ hx, no_knows, _, rfl, x, dx, r, p3, t, b, l, n, k, kb, qs, rfl, s3 _ _ hx, hq3, hl, b60, l0, lb, pk, fun H4 s4 => ?_⟩
    refine ⟨(by decide), fun pm hpm => ?_⟩
    have s5 : Same H (upd H4 pm (.lst [])) := (s3.trans s4).put hpm
    have hm5 : (upd H4 pm (.lst [])) pm = some (.lst []) := upd_same
    have hq5 : (upd H4 pm (.lst [])) p3 = some (.lst (qs.map V.int)) := (Same.new hpm) _ _ (s4 _ _ hq3)
    have hpmH : H pm = none := (s3.trans s4).free hpm
    have nmq : pm ≠ p3 := fun e => by rw [e, s4 _ _ hq3] at hpm; cases hpm
    have nmx : pm ≠ x := fun e => by rw [e, hx] at hpmH; cases hpmH
    have nqx : p3 ≠ x := fun e => by rw [e, hx] at hp3H; cases hp3H
    generalize upd H4 pm (.lst []) = H5 at s5 hm5 hq5 ⊢
    have hx5 := s5 _ _ hx
    have fin : ∀ (Hm : Hp), SameX x H Hm → Hm x = some (.ins C dx (flds t b l n r k)) → Hm p3 = some (.lst (qs.map V.int)) → Hm pm = some (.lst ((if kb = true ∧ k = false then [numB (boxL l (ear b n qs))] else []).map V.int)) →
        ∀ (n' : Int) (r' : Addr) (k' : Bool) (H6 : Hp), SameX x Hm H6 → H6 x = some (.ins C dx (flds t b l n' r' k')) → ((n = t + l - 1 ∧ n' = 0 ∧ k' = false ∧ Hm r' = none ∧ H6 r' = some (.lst [])) ∨ (¬ n = t + l - 1 ∧ n' = n + 1 ∧ r' = p3 ∧ k' = kb)) → Q (.ref pm) H6 := by
      intro Hm sm hxm hqm hmm n' r' k' H6 s6 hx6 cs
      rcases cs with ⟨c1, c2, c3, c4, c5⟩ | ⟨c1, c2, c3, c4⟩
      · have nr : r' ≠ x := fun e => by rw [e, hxm] at c4; cases c4
        have hr0 : H r' = none := by
          cases e : H r' with
          | none => rfl
          | some o => have := sm _ _ e nr; rw [c4] at this; cases this
        exact q pm r' n' k' [] H6 (sm.trans s6) hpmH hr0 (fun e => by rw [← e, hmm] at c4; cases c4) (s6 _ _ hmm nmx) hx6 c5 (.inl ⟨c1, c2, c3, rfl⟩)
      · subst c3
        exact q pm r' n' k' qs H6 (sm.trans s6) hpmH hp3H nmq (s6 _ _ hmm nmx) hx6 (s6 _ _ hqm nqx) (.inr ⟨c1, c2, c4, rfl⟩)
    cases kb with
    | false =>
      refine ⟨_, rfl, _, rfl, iteF ?_⟩
      exact ⟨_, rfl, x, dx, _, rfl, hx5, no_go, _, rfl, _, rfl, x, dx, r, p3, t, b, l, n, k, false, rfl, hx5, fun n' r' k' H6 s6 hx6 cs => ⟨_, rfl, fin H5 (SameX.of s5) hx5 hq5 hm5 n' r' k' H6 s6 hx6 cs⟩⟩
    | true =>
      refine ⟨_, rfl, _, rfl, iteT ⟨_, rfl, x, C, dx, _, _, rfl, hx5, hT.cl, hT.n6, lk_known .., _, rfl, ?_⟩⟩
      cases k with
      | true =>
        refine iteF ?_
        exact ⟨_, rfl, x, dx, _, rfl, hx5, no_go, _, rfl, _, rfl, x, dx, r, p3, t, b, l, n, true, true, rfl, hx5, fun n' r' k' H6 s6 hx6 cs => ⟨_, rfl, fin H5 (SameX.of s5) hx5 hq5 hm5 n' r' k' H6 s6 hx6 cs⟩⟩
      | false =>
        refine iteT ?_
        obtain ⟨gd, sz⟩ := hg rfl rfl
        have g1 := gd.1
        have g0 : 0 ≤ b := by omega
        refine ⟨_, rfl, .inl ⟨rfl, _, SqL.of hm5⟩, _, rfl, x, dx, _, rfl, hx5, no_ear, _, rfl, x, dx, r, p3, t, b, l, n, false, qs, rfl, hx5, hq5, hl, b60, fun pe H6 s6 _ hE => ?_⟩
        have hx6 := s6 _ _ hx5
        refine ⟨_, rfl, x, C, dx, _, _, rfl, hx6, hT.cl, hT.n1, lk_turns .., _, rfl, x, C, dx, _, _, rfl, hx6, hT.cl, hT.n2, lk_bells .., _, rfl, x, C, dx, _, _, rfl, hx6, hT.cl, hT.n3, lk_late .., pe, ear b n qs, t, b, l, rfl, SqL.of hE, by rw [ear_len hl]; omega, g0, b60, l0, lb8, bits_mono tb (by decide), sz, fun _ H7 s7 => ?_, fun ng => absurd gd ng⟩
        have s57 := s6.trans s7
        refine ⟨pm, _, _, rfl, rfl, s57 _ _ hm5, (by show 0 < sizeLine; decide), ?_⟩
        have hx8 : (upd H7 pm (.lst ([] ++ [V.int (numB (boxL l (ear b n qs)))]))) x = some (.ins C dx (flds t b l n r false)) := by rw [upd_ne nmx.symm]; exact s57 _ _ hx5
        have hq8 : (upd H7 pm (.lst ([] ++ [V.int (numB (boxL l (ear b n qs)))]))) p3 = some (.lst (qs.map V.int)) := by rw [upd_ne nmq.symm]; exact s57 _ _ hq5
        have s8 : SameX x H (upd H7 pm (.lst ([] ++ [V.int (numB (boxL l (ear b n qs)))]))) := fun a o e _ => by rw [upd_ne (ne_of_none e hpmH)]; exact s57 _ _ (s5 _ _ e)
        have hm8 : (upd H7 pm (.lst ([] ++ [V.int (numB (boxL l (ear b n qs)))]))) pm = some (.lst ((if true = true ∧ false = false then [numB (boxL l (ear b n qs))] else []).map V.int)) := by rw [upd_same, if_pos ⟨rfl, rfl⟩]; rfl
        generalize upd H7 pm (.lst ([] ++ [V.int (numB (boxL l (ear b n qs)))])) = H8 at hx8 hq8 s8 hm8 ⊢
        exact ⟨_, rfl, x, dx, _, rfl, hx8, no_go, _, rfl, _, rfl, x, dx, r, p3, t, b, l, n, false, true, rfl, hx8, fun n' r' k' H9 s9 hx9 cs => ⟨_, rfl, fin H8 s8 hx8 hq8 hm8 n' r' k' H9 s9 hx9 cs⟩⟩
end
noncomputable def qsB (gs : List Int) (n : Int) : List Int := gs.filter (fun x => decide (x ≤ n))
theorem qs_none {gs : List Int} {n : Int} (h : ∀ x ∈ gs, n < x) : qsB gs n = [] := by
  unfold qsB
  rw [List.filter_eq_nil_iff]
  intro x hx
  have := h x hx
  simp
  omega
theorem qs_step : ∀ {gs : List Int}, gs.Pairwise (· ≤ ·) → ∀ n : Int, qsB gs n = qsB gs (n - 1) ++ List.replicate (gs.count n) n
  | [], _, _ => rfl
  | x :: r, h, n => by
    obtain ⟨h1, h2⟩ := List.pairwise_cons.mp h
    have ih := qs_step h2 n
    rcases (by omega : x ≤ n - 1 ∨ x = n ∨ n < x) with z | z | z
    · have e1 : qsB (x :: r) n = x :: qsB r n := by unfold qsB; rw [List.filter_cons_of_pos (by simp; omega)]
      have e2 : qsB (x :: r) (n - 1) = x :: qsB r (n - 1) := by unfold qsB; rw [List.filter_cons_of_pos (by simp; omega)]
      rw [e1, e2, ih, List.count_cons_of_ne (by omega)]
      rfl
    · subst z
      have e1 : qsB (x :: r) x = x :: qsB r x := by unfold qsB; rw [List.filter_cons_of_pos (by simp)]
      have e2 : qsB r (x - 1) = [] := qs_none (fun y hy => by have := h1 y hy; omega)
      have e3 : qsB (x :: r) (x - 1) = [] := qs_none (fun y hy => by
        rcases List.mem_cons.mp hy with w | w
        · omega
        · have := h1 y w; omega)
      rw [e1, e3, ih, e2, List.count_cons_self, List.replicate_succ]
      rfl
    · have e1 : qsB (x :: r) n = [] := qs_none (fun y hy => by
        rcases List.mem_cons.mp hy with w | w
        · omega
        · have := h1 y w; omega)
      have e2 : qsB (x :: r) (n - 1) = [] := qs_none (fun y hy => by
        rcases List.mem_cons.mp hy with w | w
        · omega
        · have := h1 y w; omega)
      have e3 : (x :: r).count n = 0 := List.count_eq_zero.mpr (fun hm => by
        rcases List.mem_cons.mp hm with w | w
        · omega
        · have := h1 n w; omega)
      rw [e1, e2, e3]
      rfl
theorem qs_take : ∀ {gs : List Int}, gs.Pairwise (· ≤ ·) → ∀ n : Int, ∃ j, j ≤ gs.length ∧ qsB gs n = gs.take j ∧ ∀ (i : Nat) (x : Int), gs[i]? = some x → (i < j ↔ x ≤ n)
  | [], _, _ => ⟨0, Nat.le_refl _, rfl, fun i x h => by simp at h⟩
  | y :: r, h, n => by
    obtain ⟨h1, h2⟩ := List.pairwise_cons.mp h
    by_cases z : y ≤ n
    · obtain ⟨j, j1, j2, j3⟩ := qs_take h2 n
      refine ⟨j + 1, by rw [List.length_cons]; omega, ?_, fun i x hx => ?_⟩
      · have e1 : qsB (y :: r) n = y :: qsB r n := by unfold qsB; rw [List.filter_cons_of_pos (by simp; omega)]
        rw [e1, j2, List.take_succ_cons]
      · cases i with
        | zero =>
          rw [List.getElem?_cons_zero] at hx
          cases hx
          exact ⟨fun _ => z, fun _ => by omega⟩
        | succ i =>
          rw [List.getElem?_cons_succ] at hx
          have := j3 i x hx
          omega
    · refine ⟨0, Nat.zero_le _, qs_none (fun x hx => ?_), fun i x hx => ⟨fun w => by omega, fun w => ?_⟩⟩
      · rcases List.mem_cons.mp hx with w | w
        · omega
        · have := h1 x w; omega
      · have hm := List.mem_of_getElem? hx
        rcases List.mem_cons.mp hm with w2 | w2
        · omega
        · have := h1 x w2; omega
structure Grp (t b l : Int) (gs bs : List Int) : Prop where
  b1 : 1 ≤ b
  b60 : b ≤ 60
  bt : b ≤ t
  l0 : 0 ≤ l
  so : gs.Pairwise (· ≤ ·)
  rng : ∀ x ∈ gs, 0 ≤ x ∧ x < t + l
  gl : (gs.length : Int) = b
  box : IsBox bs
  eb : boxL l gs = bs
  num : numB bs < cnt t b l
  sz : Szs 70000 bs
theorem Grp.bl {t b l : Int} {gs bs : List Int} (h : Grp t b l gs bs) : bs.length = gs.length := by rw [← h.eb, boxL_length]
theorem Grp.top {t b l : Int} {gs bs : List Int} (h : Grp t b l gs bs) {i : Nat} {x : Int} (hx : bs[i]? = some x) : x ≤ (t - b) / (l + 1) := by
  have e : (bs.length : Int) = b := by rw [h.bl]; exact h.gl
  have hi := (List.getElem?_eq_some_iff.mp hx).1
  have hh := (box_le h.box (turns := t) (late := l) h.l0 (by rw [e]; exact h.num) hi).2
  rw [List.getD_eq_getElem?_getD, hx, e] at hh
  exact (Int.le_ediv_iff_mul_le (by have := h.l0; omega)).mpr hh
theorem Grp.get {t b l : Int} {gs bs : List Int} (h : Grp t b l gs bs) {i : Nat} {x : Int} (hx : gs[i]? = some x) : bs[i]? = some ((x - (i : Int)) / (l + 1)) := by
  rw [← h.eb]
  exact boxL_get hx
noncomputable def kbOf (keen : Bool) (t b l : Int) (gs : List Int) (n : Int) : Bool := decide (((qsB gs n).length : Int) = b) || (keen && decide ((n + 1 - ((qsB gs n).length : Int)) / (l + 1) = (t - b) / (l + 1)))
theorem Grp.ear {t b l : Int} {gs bs : List Int} (h : Grp t b l gs bs) {n : Int} {j : Nat} (jl : j ≤ gs.length) (hq : qsB gs n = gs.take j) : boxL l (Bw.ear b n (qsB gs n)) = bs.take j ++ List.replicate (gs.length - j) ((n + 1 - (j : Int)) / (l + 1)) := by
  have gl := h.gl
  have bl := h.bl
  have l0 := h.l0
  have tl : (gs.take j).length = j := by rw [List.length_take]; omega
  have el : (Bw.ear b n (gs.take j)).length = gs.length := by
    rw [ear_len (by rw [tl]; omega)]
    omega
  rw [hq]
  refine List.ext_getElem? fun i => ?_
  by_cases hi : i < gs.length
  · by_cases hj : i < j
    · have e1 : (Bw.ear b n (gs.take j))[i]? = some gs[i] := by
        unfold Bw.ear
        rw [List.getElem?_append_left (by omega), List.getElem?_take, if_pos hj, List.getElem?_eq_getElem hi]
      rw [boxL_get e1, List.getElem?_append_left (by rw [List.length_take]; omega), List.getElem?_take, if_pos hj, h.get (List.getElem?_eq_getElem hi)]
    · have e1 : (Bw.ear b n (gs.take j))[i]? = some (n + 1 + ((i - j : Nat) : Int)) := by
        unfold Bw.ear
        rw [List.getElem?_append_right (by omega), tl, List.getElem?_map, List.getElem?_range (by omega)]
        rfl
      rw [boxL_get e1, List.getElem?_append_right (by rw [List.length_take]; omega), List.length_take, show min j bs.length = j by omega, List.getElem?_replicate, if_pos (by omega)]
      congr 2
      omega
  · rw [List.getElem?_eq_none (by rw [boxL_length]; omega), List.getElem?_eq_none (by rw [List.length_append, List.length_take, List.length_replicate]; omega)]
theorem Grp.mid {t b l : Int} {gs bs : List Int} (h : Grp t b l gs bs) {n : Int} (n0 : 0 ≤ n) {j : Nat} (jl : j ≤ gs.length) (h3 : ∀ (i : Nat) (x : Int), gs[i]? = some x → (i < j ↔ x ≤ n)) : 0 ≤ (n + 1 - (j : Int)) / (l + 1) ∧ (∀ x ∈ bs.take j, x ≤ (n + 1 - (j : Int)) / (l + 1)) ∧ ∀ (i : Nat) (x : Int), j ≤ i → bs[i]? = some x → (n + 1 - (j : Int)) / (l + 1) ≤ x := by
  have l0 := h.l0
  have bl := h.bl
  have lo : ∀ x ∈ bs.take j, x ≤ (n + 1 - (j : Int)) / (l + 1) := by
    intro x hx
    obtain ⟨i, hi⟩ := List.getElem?_of_mem hx
    have hij : i < j := by
      have := (List.getElem?_eq_some_iff.mp hi).1
      rw [List.length_take] at this
      omega
    rw [List.getElem?_take, if_pos hij] at hi
    have hj1 : j - 1 < gs.length := by omega
    have g1 := List.getElem?_eq_getElem hj1
    have l1 := (h3 (j - 1) _ g1).mp (by omega)
    have b1 := h.get g1
    have := h.box.get (show i ≤ j - 1 by omega) hi b1
    refine Int.le_trans this (Int.ediv_le_ediv (by omega) (by omega))
  refine ⟨?_, lo, fun i x hij hx => ?_⟩
  · cases j with
    | zero => exact Int.ediv_nonneg (by omega) (by omega)
    | succ j =>
      have hb : j < bs.length := by omega
      have hm : bs[j] ∈ bs.take (j + 1) := by
        refine List.mem_of_getElem? (i := j) ?_
        rw [List.getElem?_take, if_pos (by omega), List.getElem?_eq_getElem hb]
      have := lo _ hm
      have := h.box.nn _ (List.getElem_mem hb)
      omega
  · have hi := (List.getElem?_eq_some_iff.mp hx).1
    have hj1 : j < gs.length := by omega
    have g1 := List.getElem?_eq_getElem hj1
    have l1 : ¬ gs[j] ≤ n := fun z => by have := (h3 j _ g1).mpr z; omega
    have b1 := h.get g1
    have := h.box.get hij b1 hx
    refine Int.le_trans (Int.ediv_le_ediv (by omega) (by omega)) this
theorem Grp.main {t b l : Int} {gs bs : List Int} (h : Grp t b l gs bs) {n : Int} (n0 : 0 ≤ n) : IsBox (boxL l (Bw.ear b n (qsB gs n))) ∧ ((qsB gs n).length : Int) ≤ b ∧ (∃ g, (boxL l (Bw.ear b n (qsB gs n))).getLast? = some g ∧ g ≤ (t - b) / (l + 1) ∧ ((((qsB gs n).length : Int) ≠ b) → g = (n + 1 - ((qsB gs n).length : Int)) / (l + 1))) ∧ ∀ keen, kbOf keen t b l gs n = true → boxL l (Bw.ear b n (qsB gs n)) = bs := by
  obtain ⟨j, jl, hq, h3⟩ := qs_take h.so n
  have gl := h.gl
  have bl := h.bl
  have b1 := h.b1
  have ql : (qsB gs n).length = j := by rw [hq, List.length_take]; omega
  obtain ⟨c0, lo, hi⟩ := h.mid n0 jl h3
  have he := h.ear jl hq
  rw [he, ql]
  have key : ∀ {x : Int}, (n + 1 - (j : Int)) / (l + 1) = (t - b) / (l + 1) → bs.take j ++ List.replicate (gs.length - j) ((n + 1 - (j : Int)) / (l + 1)) = bs := by
    intro _ e
    refine List.ext_getElem? fun i => ?_
    by_cases hij : i < j
    · rw [List.getElem?_append_left (by rw [List.length_take]; omega), List.getElem?_take, if_pos hij]
    · by_cases hib : i < bs.length
      · have g1 := List.getElem?_eq_getElem hib
        have u1 := hi i _ (by omega) g1
        have u2 := h.top g1
        rw [List.getElem?_append_right (by rw [List.length_take]; omega), List.length_take, show min j bs.length = j by omega, List.getElem?_replicate, if_pos (by omega), g1]
        congr 1
        omega
      · rw [List.getElem?_eq_none (by rw [List.length_append, List.length_take, List.length_replicate]; omega), List.getElem?_eq_none (by omega)]
  refine ⟨⟨?_, ?_⟩, by omega, ?_, fun keen hk => ?_⟩
  · rw [List.pairwise_append]
    refine ⟨h.box.inc.sublist (List.take_sublist _ _), List.pairwise_replicate.mpr (.inr (Int.le_refl _)), fun x hx y hy => ?_⟩
    rw [(List.mem_replicate.mp hy).2]
    exact lo x hx
  · intro x hx
    rcases List.mem_append.mp hx with z | z
    · exact h.box.nn x (List.mem_of_mem_take z)
    · rw [(List.mem_replicate.mp z).2]; exact c0
  · by_cases hj : j = gs.length
    · subst hj
      rw [Nat.sub_self, List.replicate_zero, List.append_nil, ← bl, List.take_length]
      have hne : bs.length - 1 < bs.length := by omega
      refine ⟨bs[bs.length - 1], by rw [List.getLast?_eq_getElem?, List.getElem?_eq_getElem hne], h.top (List.getElem?_eq_getElem hne), fun z => absurd (by omega) z⟩
    · refine ⟨(n + 1 - (j : Int)) / (l + 1), ?_, ?_, fun _ => rfl⟩
      · rw [List.getLast?_append, List.getLast?_replicate, if_neg (by omega)]
        rfl
      · have hb : j < bs.length := by omega
        have g1 := List.getElem?_eq_getElem hb
        exact Int.le_trans (hi j _ (Nat.le_refl _) g1) (h.top g1)
  · unfold kbOf at hk
    rw [ql] at hk
    rcases Bool.or_eq_true_iff.mp hk with z | z
    · have := of_decide_eq_true z
      have ej : j = gs.length := by omega
      subst ej
      rw [Nat.sub_self, List.replicate_zero, List.append_nil, ← bl, List.take_length]
    · exact key (x := 0) (of_decide_eq_true (Bool.and_eq_true_iff.mp z).2)
theorem Grp.mono {t b l : Int} {gs bs : List Int} (h : Grp t b l gs bs) {n : Int} (n0 : 0 ≤ n) {keen : Bool} (hk : kbOf keen t b l gs n = true) : kbOf keen t b l gs (n + 1) = true := by
  obtain ⟨j, jl, hq, h3⟩ := qs_take h.so n
  obtain ⟨j', jl', hq', h3'⟩ := qs_take h.so (n + 1)
  have gl := h.gl
  have bl := h.bl
  have l0 := h.l0
  have ql : (qsB gs n).length = j := by rw [hq, List.length_take]; omega
  have ql' : (qsB gs (n + 1)).length = j' := by rw [hq', List.length_take]; omega
  have jj : j ≤ j' := by
    rcases (by omega : j ≤ j' ∨ j' < j) with z | z
    · exact z
    · have g1 := List.getElem?_eq_getElem (show j' < gs.length by omega)
      have a1 := (h3 j' _ g1).mp z
      have a2 := (h3' j' _ g1).mpr (by omega)
      omega
  obtain ⟨_, _, hi⟩ := h.mid n0 jl h3
  obtain ⟨_, _, hi'⟩ := h.mid (show 0 ≤ n + 1 by omega) jl' h3'
  unfold kbOf at hk ⊢
  rw [ql] at hk
  rw [ql']
  by_cases e : j' = gs.length
  · have : ((j' : Nat) : Int) = b := by omega
    rw [decide_eq_true this]
    rfl
  · rcases Bool.or_eq_true_iff.mp hk with z | z
    · have := of_decide_eq_true z
      omega
    · obtain ⟨z1, z2⟩ := Bool.and_eq_true_iff.mp z
      have z3 := of_decide_eq_true z2
      have hb : j' < bs.length := by omega
      have g1 := List.getElem?_eq_getElem hb
      have u1 := hi' j' _ (Nat.le_refl _) g1
      have u2 := h.top g1
      have low : (t - b) / (l + 1) ≤ (n + 1 + 1 - (j' : Int)) / (l + 1) := by
        rcases (by omega : j = j' ∨ j < j') with w | w
        · rw [← z3, w]
          exact Int.ediv_le_ediv (by omega) (by omega)
        · have hg : j' - 1 < gs.length := by omega
          have g2 := List.getElem?_eq_getElem hg
          have a1 := (h3' (j' - 1) _ g2).mp (by omega)
          have b2 := h.get g2
          have u3 := hi (j' - 1) _ (by omega) b2
          rw [z3] at u3
          refine Int.le_trans u3 (Int.ediv_le_ediv (by omega) (by omega))
      rw [z1, decide_eq_true (show (n + 1 + 1 - (j' : Int)) / (l + 1) = (t - b) / (l + 1) by omega)]
      simp
theorem Grp.full {t b l : Int} {gs bs : List Int} (h : Grp t b l gs bs) {n : Int} {keen : Bool} (hn : ∀ x ∈ gs, x ≤ n) : kbOf keen t b l gs n = true ∧ qsB gs n = gs := by
  have e : qsB gs n = gs := by
    unfold qsB
    exact List.filter_eq_self.mpr (fun x hx => by simp; exact hn x hx)
  unfold kbOf
  rw [e, decide_eq_true h.gl]
  exact ⟨rfl, rfl⟩
theorem Grp.plain {t b l : Int} {gs bs : List Int} (h : Grp t b l gs bs) {n : Int} (hk : kbOf false t b l gs n = true) : ∀ x ∈ gs, x ≤ n := by
  unfold kbOf at hk
  rw [Bool.false_and, Bool.or_false] at hk
  have := of_decide_eq_true hk
  have gl := h.gl
  intro x hx
  obtain ⟨j, jl, hq, h3⟩ := qs_take h.so n
  obtain ⟨i, hi⟩ := List.getElem?_of_mem hx
  rw [hq, List.length_take] at this
  exact (h3 i x hi).mp (by have := (List.getElem?_eq_some_iff.mp hi).1; omega)
noncomputable def PKof (keen : Bool) : Int → Int → Int → Int → List Int → Bool → Prop := if keen then PKk else PKh
theorem Grp.pk {t b l : Int} {gs bs : List Int} (h : Grp t b l gs bs) {n : Int} (n0 : 0 ≤ n) (n1 : n < t + l) (keen : Bool) : PKof keen t b l n (qsB gs n) (kbOf keen t b l gs n) := by
  obtain ⟨m1, m2, ⟨g, m3, m4, m5⟩, m6⟩ := h.main n0
  cases keen with
  | true =>
    show PKk t b l n (qsB gs n) (kbOf true t b l gs n)
    refine ⟨m1, g, m3, m4, ?_⟩
    unfold kbOf
    rw [Bool.true_and]
    by_cases e : ((qsB gs n).length : Int) = b
    · rw [decide_eq_true e]; rfl
    · rw [m5 e]
  | false =>
    show PKh t b l n (qsB gs n) (kbOf false t b l gs n)
    refine ⟨by unfold kbOf; rw [Bool.false_and, Bool.or_false], fun e => ?_⟩
    have := (h.full (n := n) (keen := false) (fun x hx => by have := h.rng x hx; omega)).2
    rw [this]
    exact h.gl
theorem Grp.good {t b l : Int} {gs bs : List Int} (h : Grp t b l gs bs) {n : Int} (n0 : 0 ≤ n) {keen : Bool} (hk : kbOf keen t b l gs n = true) : (GoodR t b l (Bw.ear b n (qsB gs n)) ∧ Szs 70000 (boxL l (Bw.ear b n (qsB gs n)))) ∧ numB (boxL l (Bw.ear b n (qsB gs n))) = numB bs := by
  obtain ⟨m1, m2, m3, m6⟩ := h.main n0
  have e := m6 keen hk
  have b1 := h.b1
  refine ⟨⟨⟨?_, m1, by rw [e]; exact h.num⟩, by rw [e]; exact h.sz⟩, by rw [e]⟩
  rw [ear_len m2]
  omega
theorem sorted_split (c : Int) : ∀ {rd : List Int}, rd.Pairwise (· ≤ ·) → rd = rd.filter (fun x => decide (x < c)) ++ rd.filter (fun x => !decide (x < c))
  | [], _ => rfl
  | x :: r, h => by
    obtain ⟨h1, h2⟩ := List.pairwise_cons.mp h
    by_cases z : x < c
    · rw [List.filter_cons_of_pos (by simpa using z), List.filter_cons_of_neg (by simpa using z), List.cons_append, ← sorted_split c h2]
    · have e1 : (x :: r).filter (fun x => decide (x < c)) = [] := by
        rw [List.filter_eq_nil_iff]
        intro y hy
        rcases List.mem_cons.mp hy with w | w
        · simp; omega
        · have := h1 y w
          simp; omega
      have e2 : (x :: r).filter (fun x => !decide (x < c)) = x :: r := by
        rw [List.filter_eq_self]
        intro y hy
        rcases List.mem_cons.mp hy with w | w
        · simp; omega
        · have := h1 y w
          simp; omega
      rw [e1, e2]
      rfl
theorem div_lt {L x k : Int} (hL : 0 < L) : x / L < k ↔ x < k * L := by
  rw [Int.ediv_lt_iff_lt_mul hL]
theorem div_eq {L x k : Int} (hL : 0 < L) : x / L = k ↔ ¬ x < k * L ∧ x < (k + 1) * L := by
  have h1 := div_lt (L := L) (x := x) (k := k) hL
  have h2 := div_lt (L := L) (x := x) (k := k + 1) hL
  omega
theorem grp_eq {L k : Int} (rd : List Int) : rd.filter (fun t => decide (t / L = k)) = (grp L k rd).map (fun x => k * L + x) := by
  unfold grp
  rw [List.map_map]
  have : ∀ x ∈ rd.filter (fun t => decide (t / L = k)), ((fun x => k * L + x) ∘ fun t => t % L) x = x := by
    intro x hx
    have e : x / L = k := by simpa using (List.mem_filter.mp hx).2
    have := Int.mul_ediv_add_emod x L
    show k * L + x % L = x
    rw [← e, Int.mul_comm]
    exact this
  rw [List.map_congr_left this, List.map_id']
theorem below_step {L k : Int} (hL : 0 < L) {rd : List Int} (h : rd.Pairwise (· ≤ ·)) : rd.filter (fun x => decide (x < (k + 1) * L)) = rd.filter (fun x => decide (x < k * L)) ++ (grp L k rd).map (fun x => k * L + x) := by
  have e := sorted_split (k * L) (h.sublist (List.filter_sublist (p := fun x => decide (x < (k + 1) * L))))
  rw [List.filter_filter, List.filter_filter] at e
  rw [e, ← grp_eq]
  have kk : k * L ≤ (k + 1) * L := Int.mul_le_mul_of_nonneg_right (by omega) (by omega)
  congr 1
  · refine List.filter_congr fun x _ => ?_
    by_cases z : x < k * L
    · simp [z]; omega
    · simp [z]
  · refine List.filter_congr fun x _ => ?_
    have := div_eq (L := L) (x := x) (k := k) hL
    by_cases z1 : x < k * L <;> by_cases z2 : x < (k + 1) * L <;> simp [z1, z2] at this ⊢ <;> simp [this]
theorem below_len {L b : Int} (hL : 0 < L) {rd : List Int} (h : rd.Pairwise (· ≤ ·)) (nn : ∀ x ∈ rd, 0 ≤ x) : ∀ k : Nat, (∀ i : Nat, i < k → ((grp L (i : Int) rd).length : Int) = b) → ((rd.filter (fun x => decide (x < (k : Int) * L))).length : Int) = (k : Int) * b
  | 0, _ => by
    have : rd.filter (fun x => decide (x < ((0 : Nat) : Int) * L)) = [] := by
      rw [List.filter_eq_nil_iff]
      intro y hy
      have := nn y hy
      simp
      omega
    rw [this]
    simp
  | k + 1, hk => by
    have ih := below_len hL h nn k (fun i hi => hk i (by omega))
    have := below_step (k := (k : Int)) hL h
    rw [show ((k + 1 : Nat) : Int) = (k : Int) + 1 by omega, this, List.length_append, List.length_map]
    have h2 := hk k (by omega)
    rw [Int.add_mul, Int.one_mul]
    omega
theorem talk_at {L b : Int} (hL : 0 < L) {rd : List Int} (h : rd.Pairwise (· ≤ ·)) (nn : ∀ x ∈ rd, 0 ≤ x) {k : Nat} (hk : ∀ i : Nat, i < k → ((grp L (i : Int) rd).length : Int) = b) {i : Nat} {x : Int} (hx : (grp L (k : Int) rd)[i]? = some x) : rd[(rd.filter (fun x => decide (x < (k : Int) * L))).length + i]? = some ((k : Int) * L + x) := by
  have e := sorted_split (((k : Int) + 1) * L) h
  rw [below_step (k := (k : Int)) hL h] at e
  generalize hA : rd.filter (fun x => decide (x < (k : Int) * L)) = A at e ⊢
  rw [e, List.append_assoc, List.getElem?_append_right (by omega), Nat.add_sub_cancel_left, List.getElem?_append_left (by rw [List.length_map]; exact (List.getElem?_eq_some_iff.mp hx).1), List.getElem?_map, hx]
  rfl
theorem grp_count {L k n : Int} (hL : 0 < L) (n0 : 0 ≤ n) (n1 : n < L) : ∀ rd : List Int, rd.count (k * L + n) = (grp L k rd).count n
  | [] => rfl
  | x :: r => by
    have ih := grp_count (k := k) hL n0 n1 r
    have e0 : grp L k (x :: r) = grp L k [x] ++ grp L k r := grp_append L k [x] r
    have dm := Int.mul_ediv_add_emod x L
    have m0 := Int.emod_nonneg x (show L ≠ 0 by omega)
    have m1 := Int.emod_lt_of_pos x hL
    by_cases z : x / L = k
    · rw [e0, grp_one_eq z]
      by_cases y : x % L = n
      · have ex : x = k * L + n := by rw [← z, ← y, Int.mul_comm]; exact dm.symm
        rw [← ex, List.count_cons_self, ex, ih]
        show _ = ((k * L + n) % L :: grp L k r).count n
        rw [← ex, y, List.count_cons_self]
      · have ex : x ≠ k * L + n := fun e => y (by rw [z, Int.mul_comm] at dm; omega)
        rw [List.count_cons_of_ne ex, ih]
        show _ = (x % L :: grp L k r).count n
        rw [List.count_cons_of_ne y]
    · have ex : x ≠ k * L + n := fun e => z (by rw [e, Int.add_comm, Int.add_mul_ediv_right _ _ (by omega), Int.ediv_eq_zero_of_lt n0 n1]; omega)
      rw [List.count_cons_of_ne ex, ih, e0, grp_one_ne z]
      rfl
noncomputable def Tau (keen : Bool) (t b l : Int) (gs : List Int) (m : Int) : Prop := 0 ≤ m ∧ m < t + l ∧ kbOf keen t b l gs m = true ∧ (m = 0 ∨ kbOf keen t b l gs (m - 1) = false)
theorem Grp.mono' {t b l : Int} {gs bs : List Int} (h : Grp t b l gs bs) {n : Int} (n0 : 0 ≤ n) {keen : Bool} (hk : kbOf keen t b l gs n = true) : ∀ d : Nat, kbOf keen t b l gs (n + (d : Int)) = true
  | 0 => by rw [show n + ((0 : Nat) : Int) = n by omega]; exact hk
  | d + 1 => by
    rw [show n + ((d + 1 : Nat) : Int) = n + (d : Int) + 1 by omega]
    exact h.mono (by omega) (h.mono' n0 hk d)
theorem Grp.last {t b l : Int} {gs bs : List Int} (h : Grp t b l gs bs) : ∃ la, gs[(b - 1).toNat]? = some la ∧ ∀ x ∈ gs, x ≤ la := by
  have b1 := h.b1
  have gl := h.gl
  have hi : (b - 1).toNat < gs.length := by omega
  refine ⟨_, List.getElem?_eq_getElem hi, fun x hx => ?_⟩
  obtain ⟨i, hii⟩ := List.getElem?_of_mem hx
  obtain ⟨hl, e⟩ := List.getElem?_eq_some_iff.mp hii
  rw [← e]
  rcases (by omega : i = (b - 1).toNat ∨ i < (b - 1).toNat) with z | z
  · subst z; exact Int.le_refl _
  · exact (List.pairwise_iff_getElem.mp h.so) i _ hl hi z
theorem Tau.plain {t b l : Int} {gs bs : List Int} (h : Grp t b l gs bs) {m la : Int} (hm : Tau false t b l gs m) (hl : gs[(b - 1).toNat]? = some la) (top : ∀ x ∈ gs, x ≤ la) : m = la := by
  obtain ⟨m0, m1, k1, k2⟩ := hm
  have a1 := h.plain k1 la (List.mem_of_getElem? hl)
  have la0 := (h.rng la (List.mem_of_getElem? hl)).1
  rcases k2 with z | z
  · omega
  · rcases (by omega : m = la ∨ la ≤ m - 1) with w | w
    · exact w
    · have := (h.full (n := m - 1) (keen := false) (fun x hx => by have := top x hx; omega)).1
      rw [z] at this
      cases this
theorem Tau.keen_le {t b l : Int} {gs bs : List Int} (h : Grp t b l gs bs) {m la : Int} (hm : Tau true t b l gs m) (hl : gs[(b - 1).toNat]? = some la) (top : ∀ x ∈ gs, x ≤ la) : m ≤ la := by
  obtain ⟨m0, m1, k1, k2⟩ := hm
  have la0 := (h.rng la (List.mem_of_getElem? hl)).1
  rcases (by omega : m ≤ la ∨ la ≤ m - 1) with w | w
  · exact w
  · have f := (h.full (n := la) (keen := true) top).1
    have := h.mono' la0 f (m - 1 - la).toNat
    rw [show la + (((m - 1 - la).toNat : Nat) : Int) = m - 1 by omega] at this
    rcases k2 with z | z
    · omega
    · rw [z] at this
      cases this
theorem cut1 {c : TT} {tA tB R : TS} {D : Ends} {σ : St} {H : Hp} (Pre : St → Hp → Prop) (tail : ∀ σ H, Pre σ H → R D σ H) (h : ∀ N : St → Hp → Prop, (∀ σ H, Pre σ H → N σ H) → tIfS c tA tB { D with nx := N } σ H) : tSeq (tIfS c tA tB) R D σ H := h (fun σ H => R D σ H) tail
theorem grp_nn {L k : Int} (hL : 0 < L) {rd : List Int} : ∀ x ∈ grp L k rd, 0 ≤ x ∧ x < L := by
  intro x hx
  unfold grp at hx
  obtain ⟨y, _, rfl⟩ := List.mem_map.mp hx
  exact ⟨Int.emod_nonneg _ (by omega), Int.emod_lt_of_pos _ hL⟩
structure TalkG (t b l : Int) (rd : List Int) (bss : List (List Int)) : Prop where
  so : rd.Pairwise (· ≤ ·)
  gr : ∀ (i : Nat) (bs : List Int), bss[i]? = some bs → Grp t b l (grp (t + l) (i : Int) rd) bs
  rng : ∀ x ∈ rd, 0 ≤ x ∧ x < (bss.length : Int) * (t + l)
theorem next_dm {i L : Int} (hL : 0 < L) : (i % L = L - 1 ∧ (i + 1) / L = i / L + 1 ∧ (i + 1) % L = 0) ∨ (i % L ≠ L - 1 ∧ (i + 1) / L = i / L ∧ (i + 1) % L = i % L + 1) := by
  have h1 := Int.mul_ediv_add_emod i L
  have m0 := Int.emod_nonneg i (show L ≠ 0 by omega)
  have m1 := Int.emod_lt_of_pos i hL
  by_cases z : i % L = L - 1
  · refine .inl ⟨z, ?_, ?_⟩
    · have e : i + 1 = 0 + (i / L + 1) * L := by rw [Int.add_mul, Int.one_mul, Int.mul_comm]; omega
      rw [e, Int.add_mul_ediv_right _ _ (by omega), Int.zero_ediv]
      omega
    · have e : i + 1 = 0 + (i / L + 1) * L := by rw [Int.add_mul, Int.one_mul, Int.mul_comm]; omega
      rw [e, Int.add_mul_emod_self_right, Int.zero_emod]
  · refine .inr ⟨z, ?_, ?_⟩
    · have e : i + 1 = (i % L + 1) + (i / L) * L := by rw [Int.mul_comm]; omega
      rw [e, Int.add_mul_ediv_right _ _ (by omega), Int.ediv_eq_zero_of_lt (by omega) (by omega)]
      omega
    · have e : i + 1 = (i % L + 1) + (i / L) * L := by rw [Int.mul_comm]; omega
      rw [e, Int.add_mul_emod_self_right, Int.emod_eq_of_lt (by omega) (by omega)]
noncomputable def Tups2 (H : Hp) (p : Addr) (ws : List (Int × Int)) : Prop := ∃ as : List Addr, H p = some (.lst (as.map V.ref)) ∧ PySem.Paired (fun c (w : Int × Int) => H c = some (.tup [.int w.2, .int w.1])) as ws
noncomputable def ToldAs (keen : Bool) (t b l : Int) (rd : List Int) (bss : List (List Int)) (ws : List (Int × Int)) : Prop := ∀ (j : Nat) (bs : List Int) (v : Int × Int), bss[j]? = some bs → ws[j]? = some v → v.1 = numB bs ∧ ∃ m, v.2 = (j : Int) * (t + l) + m ∧ Tau keen t b l (grp (t + l) (j : Int) rd) m
section
variable {P : Program} {w : World} {K : PySem.W.Frag} {mg : Str → Option Value} {base : Heap}
noncomputable def spWholeN : Sp := fun vs H Q _ => ∃ m : Int, vs = [.int m] ∧ Q (.bl true) H
theorem sc__law_whole : FnScope ["found"] ["found"] (defScope st__law_whole) := ⟨rfl, rfl, rfl, by decide +kernel, rfl, by decide +kernel, by decide +kernel⟩
theorem ok_wholeN (D : Def K mg "_law_whole" st__law_whole ["found"]) (T : Txt K mg) : Fn P w K mg base 1 "_law_whole" ["found"] spWholeN := by
  refine D.fn sc__law_whole (fun vs H Q E h => ?_) (fun f cdv A outer s H vs Q E hr h => ?_)
  · obtain ⟨m, rfl, _⟩ := h
    rfl
  · obtain ⟨m, rfl, q⟩ := h
    refine ⟨_, (pss_one (ps_ret (pe_and (pe_callB call_isinst (by rfl) T.z_isinstance b_isinstance (pa_cons (pv 0) (pa_cons (pe_bltn (v := .ty "int") (by rfl) T.z_int b_int rfl) pa_nil))) (pe_one (pe_not (pe_callB call_isinst (by rfl) T.z_isinstance b_isinstance (pa_cons (pv 0) (pa_cons (pe_bltn (v := .ty "bool") (by rfl) T.z_bool b_bool rfl) pa_nil)))))))), ?_⟩
    exact ⟨_, rfl, _, _, _, true, rfl, TyOf.int m, kit_int_int K, true, rfl, iteT ⟨_, rfl, _, _, _, false, rfl, TyOf.int m, kit_int_bool K, false, rfl, q⟩⟩
theorem two_turn {CH CK CC x dx : Addr} {keen : Bool} {fs : List (Str × V)} {H : Hp} {Q : VK} {T : (List V → Hp → Prop) → Prop} (hCC : (CC = CH ∧ keen = false) ∨ (CC = CK ∧ keen = true)) (hx : H x = some (.ins CC dx fs)) (hT : T (fun vs H2 => spTurn CC (PKof keen) (.ref x :: vs) H2 Q E0)) :
    (H x = some (.ins CH dx fs) ∧ T (fun vs H2 => spTurn CH PKh (.ref x :: vs) H2 Q E0)) ∨ (H x = some (.ins CK dx fs) ∧ T (fun vs H2 => spTurn CK PKk (.ref x :: vs) H2 Q E0)) := by
  rcases hCC with ⟨rfl, rfl⟩ | ⟨rfl, rfl⟩
  · exact .inl ⟨hx, hT⟩
  · exact .inr ⟨hx, hT⟩
noncomputable def spToldI (CH CK : Addr) : Sp := fun vs H Q _ => ∃ (x dx r a : Addr) (t b l : Int) (keen : Bool) (rd : List Int) (bss : List (List Int)), vs = [.ref x, .ref a, .int ((t + l) * (bss.length : Int))] ∧ H x = some (.ins (if keen = true then CK else CH) dx (flds t b l 0 r false)) ∧ H r = some (.lst []) ∧ H a = some (.lst (rd.map V.int)) ∧ TalkG t b l rd bss ∧ bss.length ≤ 6 ∧ 1 ≤ b ∧ b ≤ 6 ∧ b ≤ t ∧ t ≤ 80 ∧ 0 ≤ l ∧ l ≤ 10 ∧
  ∀ (p : Addr) (ws : List (Int × Int)) (H' : Hp), SameX x H H' → H p = none → Tups2 H' p ws → ws.length = bss.length → ToldAs keen t b l rd bss ws → Q (.ref p) H'
theorem sc__law_told_in : FnScope ["hearer", "reading", "turns", "told", "held", "copies", "turn", "found", "message"] ["hearer", "reading", "turns"] (defScope st__law_told_in) := ⟨rfl, rfl, rfl, by decide +kernel, rfl, by decide +kernel, by decide +kernel⟩
theorem ok_toldI {CH CK : Addr} (D : Def K mg "_law_told_in" st__law_told_in ["hearer", "reading", "turns"]) (T : Txt K mg) (M_turn : Mt P w K mg base 4 CH "turn" ["self", "many"] (spTurn CH PKh)) (M2_turn : Mt P w K mg base 4 CK "turn" ["self", "many"] (spTurn CK PKk)) (G__law_whole : Fn P w K mg base 1 "_law_whole" ["found"] spWholeN) : Fn P w K mg base 5 "_law_told_in" ["hearer", "reading", "turns"] (spToldI CH CK) := by
  refine D.fn sc__law_told_in (fun vs H Q E h => ?_) (fun f cdv A outer s H vs Q E hr h => ?_)
  · obtain ⟨x, dx, r, a, t, b, l, keen, rd, bss, rfl, _⟩ := h
    rfl
  · obtain ⟨x, dx, r, a, t, b, l, keen, rd, bss, rfl, hx, hr0, hA, TG, bl6, b1, b6, bt, t80, l0, l10, q⟩ := h
    have hu := hu64 hr
    refine ⟨_, (pss_cons (ps_set (i := 3) sc__law_told_in.nd rfl (Or.inl rfl) (pe_lst pa_nil))
      (pss_cons (ps_set (i := 4) sc__law_told_in.nd rfl (Or.inl rfl) (pe_lst pa_nil))
      (pss_cons (ps_set (i := 5) sc__law_told_in.nd rfl (Or.inl rfl) (pe_lst pa_nil))
      (pss_cons (ps_for PassesOwn.never rfl (pi_range1 (by rfl) T.z_range (pa_cons (pv 2) pa_nil)) (pg_name (i := 6) sc__law_told_in.nd rfl (Or.inl rfl))
        (pss_cons (ps_set (i := 7) sc__law_told_in.nd rfl (Or.inl rfl) (pe_mt2 (pv 0) M_turn M2_turn (hr.mono (by decide)) (pa_cons (pe_bm PySem.F.plainAttrs_list PySem.F.slot_list_count PySem.F.type_list_count mt_countI (pv 1) (pa_cons (pv 6) pa_nil)) pa_nil)))
        (pss_cons (ps_if (pw_or (pt_not (pt_val (pe_callB call_isinst (by rfl) T.z_isinstance b_isinstance (pa_cons (pv 7) (pa_cons (pe_bltn (v := .ty "list") (by rfl) T.z_list b_list rfl) pa_nil))))) (pw_or1 (pt_cmpR op_gtI (pe_callB call_len_seq (by rfl) T.z_len b_len (pa_cons (pv 7) pa_nil)) pe_int (nomark _)))).pt
          (pss_one (ps_ret pe_non))
          pss_nil)
        (pss_cons (ps_for PassesOwn.never rfl (pi_list (pv 7)) (pg_name (i := 8) sc__law_told_in.nd rfl (Or.inl rfl))
          (pss_cons (ps_if (pt_not (pt_val (pe_fn G__law_whole (hr.mono (by decide)) (by rfl) (pa_cons (pv 8) pa_nil))))
            (pss_one (ps_ret pe_non))
            pss_nil)
          (pss_one (ps_expr (pe_bm PySem.F.plainAttrs_list PySem.F.slot_list_append PySem.F.type_list_append mt_append (pv 3) (pa_cons (pe_tup (pa_cons (pv 6) (pa_cons (pv 8) pa_nil))) pa_nil))))))
        (pss_cons (ps_if (pt_cmpR op_eqI (pe_op op_modB (pv 6) pe_int) pe_int (nomark _))
          (pss_one (ps_expr (pe_bm PySem.F.plainAttrs_list PySem.F.slot_list_append PySem.F.type_list_append mt_append (pv 7) (pa_cons (pe_op op_subI pe_int (pv 6)) pa_nil))))
          pss_nil)
        (pss_cons (ps_expr (pe_bm PySem.F.plainAttrs_list PySem.F.slot_list_append PySem.F.type_list_append mt_append (pv 4) (pa_cons (pv 7) pa_nil)))
        (pss_one (ps_expr (pe_bm PySem.F.plainAttrs_list PySem.F.slot_list_append PySem.F.type_list_append mt_append (pv 5) (pa_cons (pe_callTy call_list_of (by rfl) T.z_list b_list (pa_cons (pv 7) pa_nil)) pa_nil))))))))))
      (pss_cons (ps_if (pt_cmpR (op_neLL hu) (pv 4) (pv 5) (nomark _))
        (pss_one (ps_ret pe_non))
        pss_nil)
      (pss_one (ps_ret (pv 3)))))))), ?_⟩
    obtain ⟨L, hLe⟩ : ∃ L, L = t + l := ⟨_, rfl⟩
    have hL : 0 < L := by omega
    have L90 : L ≤ 90 := by omega
    obtain ⟨M, hM⟩ : ∃ M : Nat, M = bss.length := ⟨_, rfl⟩
    rw [← hM] at q ⊢
    rw [← hLe]
    obtain ⟨CC, hCCe⟩ : ∃ CC, CC = (if keen = true then CK else CH) := ⟨_, rfl⟩
    have hCC : (CC = CH ∧ keen = false) ∨ (CC = CK ∧ keen = true) := by
      cases keen
      · exact .inl ⟨hCCe, rfl⟩
      · exact .inr ⟨hCCe, rfl⟩
    rw [← hCCe] at hx
    rw [Int.mul_comm L (M : Int)]
    obtain ⟨N, hN⟩ : ∃ N : Nat, (N : Int) = (M : Int) * L := ⟨((M : Int) * L).toNat, Int.toNat_of_nonneg (Int.mul_nonneg (by omega) (by omega))⟩
    have N540 : N ≤ 540 := by
      have : (M : Int) * L ≤ 6 * 90 := Int.mul_le_mul (by omega) L90 (by omega) (by decide)
      omega
    rw [← hN]
    have xa : a ≠ x := fun e => by rw [e, hx] at hA; cases hA
    refine ⟨(by decide), fun pt hpt => ⟨(by decide), fun ph hph => ⟨(by decide), fun pq hpq => ?_⟩⟩⟩
    have pt0 : H pt = none := hpt
    have ph0 : H ph = none := (Same.new hpt).free hph
    have pq0 : H pq = none := ((Same.new hpt).put hph).free hpq
    have nth : pt ≠ ph := ne_of_none (show (upd H pt (.lst [])) pt = some (.lst []) from upd_same) hph
    have nhq : ph ≠ pq := ne_of_none (show (upd (upd H pt (.lst [])) ph (.lst [])) ph = some (.lst []) from upd_same) hpq
    have ntq : pt ≠ pq := ne_of_none ((Same.new hph) _ _ (show (upd H pt (.lst [])) pt = some (.lst []) from upd_same)) hpq
    have s1 : Same H (upd (upd (upd H pt (.lst [])) ph (.lst [])) pq (.lst [])) := ((Same.new hpt).put hph).put hpq
    have h1t : (upd (upd (upd H pt (.lst [])) ph (.lst [])) pq (.lst [])) pt = some (.lst []) := by rw [upd_ne ntq, upd_ne nth]; exact upd_same
    have h1h : (upd (upd (upd H pt (.lst [])) ph (.lst [])) pq (.lst [])) ph = some (.lst []) := by rw [upd_ne nhq]; exact upd_same
    have h1q : (upd (upd (upd H pt (.lst [])) ph (.lst [])) pq (.lst [])) pq = some (.lst []) := upd_same
    generalize upd (upd (upd H pt (.lst [])) ph (.lst [])) pq (.lst []) = H1 at s1 h1t h1h h1q ⊢
    have xt : pt ≠ x := Ne.symm (ne_of_none hx pt0)
    have xh : ph ≠ x := Ne.symm (ne_of_none hx ph0)
    have xq : pq ≠ x := Ne.symm (ne_of_none hx pq0)
    refine ⟨_, rfl, _, rfl, by omega, by omega, for_range (n := N) (fun i σ H3 => ∃ (r' : Addr) (as hs cs : List Addr) (fss : List (List Int)) (ws : List (Int × Int)) (v6 v7 v8 : Option V), σ = [some (.ref x), some (.ref a), some (.int (N : Int)), some (.ref pt), some (.ref ph), some (.ref pq), v6, v7, v8] ∧ SameX x H H3 ∧ H3 x = some (.ins CC dx (flds t b l ((i : Int) % L) r' (decide (0 < (i : Int) % L) && kbOf keen t b l (grp L ((i : Int) / L) rd) ((i : Int) % L - 1)))) ∧ H3 r' = some (.lst ((qsB (grp L ((i : Int) / L) rd) ((i : Int) % L - 1)).map V.int)) ∧ (r' ≠ pt ∧ r' ≠ ph ∧ r' ≠ pq) ∧ H3 pt = some (.lst (as.map V.ref)) ∧ PySem.Paired (fun c (v : Int × Int) => H3 c = some (.tup [.int v.2, .int v.1])) as ws ∧ H3 ph = some (.lst (hs.map V.ref)) ∧ H3 pq = some (.lst (cs.map V.ref)) ∧ PySem.Paired (fun c (ns : List Int) => (c ≠ pt ∧ c ≠ ph ∧ c ≠ pq) ∧ H3 c = some (.lst (ns.map V.int))) hs fss ∧ PySem.Paired (fun c (ns : List Int) => (c ≠ pt ∧ c ≠ ph ∧ c ≠ pq) ∧ H3 c = some (.lst (ns.map V.int))) cs fss ∧ fss.length = i ∧ (ws.length : Int) = (i : Int) / L + (if (decide (0 < (i : Int) % L) && kbOf keen t b l (grp L ((i : Int) / L) rd) ((i : Int) % L - 1)) = true then 1 else 0) ∧ ToldAs keen t b l rd bss ws) ⟨r, [], [], [], [], [], none, none, none, rfl, SameX.of s1, ?_, ?_, ⟨ne_of_none hr0 pt0, ne_of_none hr0 ph0, ne_of_none hr0 pq0⟩, h1t, .nil, h1h, h1q, .nil, .nil, rfl, ?_, fun j bs v _ h => by simp at h⟩ ?_ ?_⟩
    · have e0 : ((0 : Nat) : Int) % L = 0 := Int.zero_emod _
      rw [e0]
      exact s1 _ _ hx
    · have e0 : ((0 : Nat) : Int) % L = 0 := Int.zero_emod _
      rw [e0, qs_none (fun y hy => by have := grp_nn hL y hy; omega)]
      exact s1 _ _ hr0
    · have e0 : ((0 : Nat) : Int) % L = 0 := Int.zero_emod _
      have e1 : ((0 : Nat) : Int) / L = 0 := Int.zero_ediv _
      rw [e0, e1]
      rfl
    · rintro i σ H3 hi ⟨r', as, hs, cs, fss, ws, v6, v7, v8, rfl, sX, hx3, hr3, ⟨rt, rh, rq⟩, hT, pT, hHd, hCp, pH, pC, fl, wl, TA⟩
      rw [show (0 : Int) + (i : Int) = (i : Int) by omega]
      have dm := Int.mul_ediv_add_emod (i : Int) L
      have n0 := Int.emod_nonneg (i : Int) (show L ≠ 0 by omega)
      have n1 := Int.emod_lt_of_pos (i : Int) hL
      have k0 : 0 ≤ (i : Int) / L := Int.ediv_nonneg (by omega) (by omega)
      have k1 : (i : Int) / L < (M : Int) := by rw [Int.ediv_lt_iff_lt_mul hL]; omega
      have nd := next_dm (i := (i : Int)) hL
      obtain ⟨k, hk⟩ : ∃ k : Nat, (i : Int) / L = (k : Int) := ⟨((i : Int) / L).toNat, (Int.toNat_of_nonneg k0).symm⟩
      obtain ⟨n, hn⟩ : ∃ n, (i : Int) % L = n := ⟨_, rfl⟩
      rw [hk] at k1 dm hx3 hr3 wl nd
      rw [hn] at n0 n1 dm hx3 hr3 wl nd
      have kM : k < bss.length := by omega
      have hbs := List.getElem?_eq_getElem kM
      have Gp := TG.gr k _ hbs
      rw [← hLe] at Gp
      have pk := Gp.pk n0 (by omega) keen
      have gd := fun (z : kbOf keen t b l (grp L (k : Int) rd) n = true) => Gp.good n0 z
      have mo := fun (z : kbOf keen t b l (grp L (k : Int) rd) (n - 1) = true) (hp : 0 < n) => by
        have := Gp.mono (show 0 ≤ n - 1 by omega) z
        rwa [show n - 1 + 1 = n by omega] at this
      have st := qs_step Gp.so n
      have ecount : rd.count (i : Int) = (grp L (k : Int) rd).count n := by
        rw [← grp_count hL n0 n1, Int.mul_comm, dm]
      have full := fun (z : n = L - 1) => (Gp.full (n := n) (keen := keen) (fun y hy => by have := grp_nn hL y hy; omega)).1
      have qlen : ((qsB (grp L (k : Int) rd) n).length : Int) ≤ b := (Gp.main n0).2.1
      generalize hmany : (grp L (k : Int) rd).count n = many at st ecount
      generalize hqs : qsB (grp L (k : Int) rd) (n - 1) = pre at st hr3
      generalize hqn : qsB (grp L (k : Int) rd) n = now at st pk gd qlen
      generalize hkb : kbOf keen t b l (grp L (k : Int) rd) n = kb at pk gd mo full
      generalize hkp : (decide (0 < n) && kbOf keen t b l (grp L (k : Int) rd) (n - 1)) = kp at hx3 wl
      have mo2 : kp = true → kb = true := fun z => by
        rw [← hkp] at z
        obtain ⟨z1, z2⟩ := Bool.and_eq_true_iff.mp z
        exact mo z2 (of_decide_eq_true z1)
      have emany : List.replicate ((many : Int)).toNat n = List.replicate many n := by rw [Int.toNat_natCast]
      have lb : intBits l ≤ 100 := bits_mono (bits_of (m := 10) l0 (by omega)) (by decide)
      have tb : intBits t ≤ 1000 := bits_mono (bits_of (m := 10) (by omega) (by omega)) (by decide)
      have plen : (pre.length : Int) + (many : Int) ≤ b := by
        have := congrArg List.length st
        rw [List.length_append, List.length_replicate] at this
        omega
      have hq : pre ++ List.replicate ((many : Int)).toNat n = now := by rw [emany, st]
      have wl8 : ws.length ≤ 8 := by split at wl <;> omega
      have al := paired_len pT
      have hl := paired_len pH
      have cl := paired_len pC
      have hA3 := sX _ _ hA xa
      refine ⟨_, rfl, x, dx, flds t b l n r' kp, rfl, no_turn, two_turn hCC hx3 ?_⟩
      · refine ⟨_, rfl, .inl ⟨rfl, _, SqL.of hA3⟩, _, rfl, a, rd, (i : Int), rfl, rfl, hA3, ?_⟩
        rw [ecount]
        refine ⟨x, dx, r', t, b, l, n, (many : Int), kp, kb, pre, rfl, hx3, hr3, by omega, plen, by omega, l0, lb, tb, by rw [hq]; exact pk, fun z _ => by rw [hq]; exact (gd z).1, fun p r2 n' k' rd' H4 sX4 hp hr2 npr h4 hx4 hr4 cs4 => ?_⟩
        rw [hq] at h4 cs4
        have tlm : (if kb = true ∧ kp = false then [numB (boxL l (ear b n now))] else []) = (if kb = true ∧ kp = false then [numB bss[k]] else []) := by
          by_cases z : kb = true ∧ kp = false
          · rw [if_pos z, if_pos z, (gd z.1).2]
          · rw [if_neg z, if_neg z]
        rw [tlm] at h4
        have tll : (if kb = true ∧ kp = false then [numB bss[k]] else []).length ≤ 1 := by split <;> simp
        have npt : p ≠ pt := Ne.symm (ne_of_none hT hp)
        have nph : p ≠ ph := Ne.symm (ne_of_none hHd hp)
        have npq : p ≠ pq := Ne.symm (ne_of_none hCp hp)
        have n2t : r2 ≠ pt := Ne.symm (ne_of_none hT hr2)
        have n2h : r2 ≠ ph := Ne.symm (ne_of_none hHd hr2)
        have n2q : r2 ≠ pq := Ne.symm (ne_of_none hCp hr2)
        have px : p ≠ x := Ne.symm (ne_of_none hx3 hp)
        generalize htl : (if kb = true ∧ kp = false then [numB bss[k]] else []) = tl at h4 tll
        refine ⟨_, rfl, _, _, _, true, rfl, TyOf.lst h4, kit_list_list K, _, rfl, iteF ⟨_, rfl, _, _, rfl, .inl (SqL.of h4), _, _, rfl, rfl, _, rfl, ifF (by rw [List.length_map]; omega) ?_⟩⟩
        refine ⟨_, rfl, p, rfl, ⟨_, SqL.of h4⟩, for_list (K := K) (a := p) (xs := tl.map V.int) (fun j σ H5 => ∃ (as' : List Addr) (v8 : Option V), σ = [some (.ref x), some (.ref a), some (.int (N : Int)), some (.ref pt), some (.ref ph), some (.ref pq), some (.int (i : Int)), some (.ref p), v8] ∧ SameX pt H4 H5 ∧ H5 pt = some (.lst (as'.map V.ref)) ∧ PySem.Paired (fun c (v : Int × Int) => H5 c = some (.tup [.int v.2, .int v.1])) as' (ws ++ (tl.take j).map (fun m => (m, (i : Int))))) ⟨as, v8, rfl, fun _ _ h _ => h, sX4 _ _ hT xt, ?_⟩ (fun j σ H5 _ ⟨_, _, _, s, _⟩ => SqL.of (s _ _ h4 npt)) ?_ ?_⟩
        · rw [List.take_zero, List.map_nil, List.append_nil]
          exact paired_imp (fun c v z => sX4 _ _ z (fun e => by
            rw [e, hx3] at z
            cases z)) pT
        · rintro j yv σ H5 hj ⟨as', v8', rfl, s5, hT5, pT5⟩
          rw [List.getElem?_map] at hj
          obtain ⟨m, hm, rfl⟩ := Option.map_eq_some_iff.mp hj
          have al5 := paired_len pT5
          rw [List.length_append, List.length_map, List.length_take] at al5
          refine ⟨_, rfl, m, rfl, _, rfl, iteF ?_⟩
          refine ⟨_, rfl, .inl ⟨rfl, _, SqL.of hT5⟩, _, rfl, _, rfl, (by show 2 ≤ sizeLine; decide), fun q' hq' => ⟨pt, _, _, rfl, rfl, (Same.new hq') _ _ hT5, by rw [List.length_map]; exact small1000 (by omega), ?_⟩⟩
          have ne : q' ≠ pt := Ne.symm (ne_of_none hT5 hq')
          refine ⟨as' ++ [q'], _, rfl, fun c o h nn => by rw [upd_ne nn]; exact (Same.new hq') _ _ (s5 c o h nn), by rw [upd_same, List.map_append]; rfl, ?_⟩
          rw [List.take_add_one, hm, List.map_append, ← List.append_assoc]
          exact Paired.snoc (paired_imp (fun c v z => by
            rw [upd_ne (fun e => by rw [e, hT5] at z; cases z)]
            exact (Same.new hq') _ _ z) pT5) (by rw [upd_ne ne]; exact upd_same)
        · rintro σ H5 ⟨as', v8', rfl, s5, hT5, pT5⟩
          rw [List.length_map, List.take_length] at pT5
          have TA' : ToldAs keen t b l rd bss (ws ++ tl.map (fun m => (m, (i : Int)))) := by
            intro j bs v hb hv
            by_cases hj : j < ws.length
            · rw [List.getElem?_append_left hj] at hv
              exact TA j bs v hb hv
            · rw [List.getElem?_append_right (by omega), List.getElem?_map] at hv
              obtain ⟨m, hm, rfl⟩ := Option.map_eq_some_iff.mp hv
              by_cases z : kb = true ∧ kp = false
              · rw [← htl, if_pos z] at hm
                have hj0 : j - ws.length = 0 := by
                  have := (List.getElem?_eq_some_iff.mp hm).1
                  simp at this
                  omega
                rw [hj0] at hm
                cases hm
                rw [z.2] at wl
                have ejk : j = k := by simp at wl; omega
                subst ejk
                rw [hbs] at hb
                cases hb
                refine ⟨rfl, n, ?_, n0, by omega, ?_, ?_⟩
                · show (i : Int) = _
                  rw [← hLe, Int.mul_comm]
                  exact dm.symm
                · rw [← hLe, hkb]; exact z.1
                · rcases (by omega : n = 0 ∨ 0 < n) with w0 | w0
                  · exact .inl w0
                  · have := z.2
                    rw [← hkp, decide_eq_true w0, Bool.true_and] at this
                    rw [← hLe]
                    exact .inr this
              · rw [← htl, if_neg z] at hm
                simp at hm
          have wt : ((ws ++ tl.map (fun m => (m, (i : Int)))).length : Int) = (k : Int) + (if kb = true then 1 else 0) := by
            rw [List.length_append, List.length_map, ← htl]
            cases kb with
            | true =>
              cases kp with
              | true => simp at wl ⊢; omega
              | false => simp at wl ⊢; omega
            | false =>
              cases kp with
              | true => exact absurd (mo2 rfl) (by decide)
              | false => simp at wl ⊢; omega
          have h5p := s5 _ _ h4 npt
          have mv5 : ∀ {c : Addr} {o : HO}, H3 c = some o → c ≠ x → c ≠ pt → H5 c = some o := fun h nx nt => s5 _ _ (sX4 _ _ h nx) nt
          have hHd5 := mv5 hHd xh (Ne.symm nth)
          have hCp5 := mv5 hCp xq (Ne.symm ntq)
          have hx5 := s5 _ _ hx4 (Ne.symm xt)
          have hr5 := s5 _ _ hr4 n2t
          dsimp only [gName]
          change tSeq (tIfS _ _ _) _ _ _ _
          refine cut1 (fun σ H6 => ∃ fs : List Int, fs.length ≤ 2 ∧ σ = [some (.ref x), some (.ref a), some (.int (N : Int)), some (.ref pt), some (.ref ph), some (.ref pq), some (.int (i : Int)), some (.ref p), v8'] ∧ SameX p H5 H6 ∧ H6 p = some (.lst (fs.map V.int))) ?_ (fun Nn hN => ⟨_, rfl, _, _, rfl, rfl, (by decide), _, _, rfl, rfl, _, rfl, ifD (fun h => ?_) (fun h => hN _ _ ⟨tl, by omega, rfl, fun _ _ h _ => h, h5p⟩)⟩)
          case refine_2 =>
            refine ⟨_, rfl, .inl ⟨rfl, _, SqL.of h5p⟩, _, rfl, _, _, rfl, rfl, p, _, _, rfl, rfl, h5p, by rw [List.length_map]; exact small1000 (by omega), hN _ _ ⟨tl ++ [0 - (i : Int)], by rw [List.length_append]; simp only [List.length_singleton]; omega, rfl, fun c o h nn => by rw [upd_ne nn]; exact h, by rw [upd_same, List.map_append]; rfl⟩⟩
          rintro σ H6 ⟨fs, fs2, rfl, s6, h6p⟩
          have hHd6 := s6 _ _ hHd5 (Ne.symm nph)
          have hCp6 := s6 _ _ hCp5 (Ne.symm npq)
          have hT6 := s6 _ _ hT5 (Ne.symm npt)
          refine ⟨_, rfl, .inl ⟨rfl, _, SqL.of hHd6⟩, _, rfl, ph, _, _, rfl, rfl, hHd6, by rw [List.length_map]; exact small1000 (by omega), ?_⟩
          have h7q : (upd H6 ph (.lst (hs.map V.ref ++ [.ref p]))) pq = some (.lst (cs.map V.ref)) := by rw [upd_ne (Ne.symm nhq)]; exact hCp6
          have h7p : (upd H6 ph (.lst (hs.map V.ref ++ [.ref p]))) p = some (.lst (fs.map V.int)) := by rw [upd_ne nph]; exact h6p
          have h7h : (upd H6 ph (.lst (hs.map V.ref ++ [.ref p]))) ph = some (.lst ((hs ++ [p]).map V.ref)) := by rw [upd_same, List.map_append]; rfl
          have s7 : SameX ph H6 (upd H6 ph (.lst (hs.map V.ref ++ [.ref p]))) := fun c o h nn => by rw [upd_ne nn]; exact h
          generalize upd H6 ph (.lst (hs.map V.ref ++ [.ref p])) = H7 at h7q h7p h7h s7 ⊢
          refine ⟨_, rfl, .inl ⟨rfl, _, SqL.of h7q⟩, _, rfl, _, _, rfl, .inl (SqL.of h7p), fun p8 hp8 => ⟨pq, _, _, rfl, rfl, (Same.new hp8) _ _ h7q, by rw [List.length_map]; exact small1000 (by omega), ?_⟩⟩
          have n8 : p8 ≠ pt ∧ p8 ≠ ph ∧ p8 ≠ pq := ⟨Ne.symm (ne_of_none (s7 _ _ hT6 nth) hp8), Ne.symm (ne_of_none h7h hp8), Ne.symm (ne_of_none h7q hp8)⟩
          have mv7 : ∀ {c : Addr} {o : HO}, H5 c = some o → c ≠ p → c ≠ ph → c ≠ pq → (upd (upd H7 p8 (.lst (fs.map V.int))) pq (.lst (cs.map V.ref ++ [.ref p8]))) c = some o := fun h np nh nq => by
            rw [upd_ne nq]
            exact (Same.new hp8) _ _ (s7 _ _ (s6 _ _ h np) nh)
          have mv3 : ∀ {c : Addr} {o : HO}, H3 c = some o → c ≠ x → c ≠ pt → c ≠ ph → c ≠ pq → (upd (upd H7 p8 (.lst (fs.map V.int))) pq (.lst (cs.map V.ref ++ [.ref p8]))) c = some o := fun h nx nt nh nq => mv7 (mv5 h nx nt) (ne_of_none h hp) nh nq
          have npr2 : r2 ≠ p := Ne.symm npr
          have hx9 := mv7 hx5 (Ne.symm px) (Ne.symm xh) (Ne.symm xq)
          have hr9 := mv7 hr5 npr2 n2h n2q
          have hT9 := mv7 hT5 (Ne.symm npt) nth ntq
          have hH9 : (upd (upd H7 p8 (.lst (fs.map V.int))) pq (.lst (cs.map V.ref ++ [.ref p8]))) ph = some (.lst ((hs ++ [p]).map V.ref)) := by
            rw [upd_ne nhq]
            exact (Same.new hp8) _ _ h7h
          have hC9 : (upd (upd H7 p8 (.lst (fs.map V.int))) pq (.lst (cs.map V.ref ++ [.ref p8]))) pq = some (.lst ((cs ++ [p8]).map V.ref)) := by rw [upd_same, List.map_append]; rfl
          have hp9 : (upd (upd H7 p8 (.lst (fs.map V.int))) pq (.lst (cs.map V.ref ++ [.ref p8]))) p = some (.lst (fs.map V.int)) := by
            rw [upd_ne npq]
            exact (Same.new hp8) _ _ h7p
          have h89 : (upd (upd H7 p8 (.lst (fs.map V.int))) pq (.lst (cs.map V.ref ++ [.ref p8]))) p8 = some (.lst (fs.map V.int)) := by
            rw [upd_ne n8.2.2]
            exact upd_same
          have tn : ∀ {c : Addr} {z : List V} {d : Addr}, H5 c = some (.tup z) → (∃ y, H5 d = some (.lst y)) → c ≠ d := fun h ⟨y, hy⟩ e => by rw [e, hy] at h; cases h
          have pT9 : PySem.Paired (fun c (v : Int × Int) => (upd (upd H7 p8 (.lst (fs.map V.int))) pq (.lst (cs.map V.ref ++ [.ref p8]))) c = some (.tup [.int v.2, .int v.1])) as' (ws ++ tl.map (fun m => (m, (i : Int)))) := paired_imp (fun c v z => mv7 z (tn z ⟨_, h5p⟩) (tn z ⟨_, hHd5⟩) (tn z ⟨_, hCp5⟩)) pT5
          have lx : ∀ {c : Addr} {z : List V}, H3 c = some (.lst z) → c ≠ x := fun h e => by rw [e, hx3] at h; cases h
          have pH9 : PySem.Paired (fun c (ns : List Int) => (c ≠ pt ∧ c ≠ ph ∧ c ≠ pq) ∧ (upd (upd H7 p8 (.lst (fs.map V.int))) pq (.lst (cs.map V.ref ++ [.ref p8]))) c = some (.lst (ns.map V.int))) (hs ++ [p]) (fss ++ [fs]) := Paired.snoc (paired_imp (fun c v z => ⟨z.1, mv3 z.2 (lx z.2) z.1.1 z.1.2.1 z.1.2.2⟩) pH) ⟨⟨npt, nph, npq⟩, hp9⟩
          have pC9 : PySem.Paired (fun c (ns : List Int) => (c ≠ pt ∧ c ≠ ph ∧ c ≠ pq) ∧ (upd (upd H7 p8 (.lst (fs.map V.int))) pq (.lst (cs.map V.ref ++ [.ref p8]))) c = some (.lst (ns.map V.int))) (cs ++ [p8]) (fss ++ [fs]) := Paired.snoc (paired_imp (fun c v z => ⟨z.1, mv3 z.2 (lx z.2) z.1.1 z.1.2.1 z.1.2.2⟩) pC) ⟨n8, h89⟩
          have sXH : SameX x H (upd (upd H7 p8 (.lst (fs.map V.int))) pq (.lst (cs.map V.ref ++ [.ref p8]))) := fun c o h nx => mv3 (sX c o h nx) nx (ne_of_none h pt0) (ne_of_none h ph0) (ne_of_none h pq0)
          have fl9 : (fss ++ [fs]).length = i + 1 := by rw [List.length_append, fl]; rfl
          generalize upd (upd H7 p8 (.lst (fs.map V.int))) pq (.lst (cs.map V.ref ++ [.ref p8])) = H9 at hx9 hr9 hT9 hH9 hC9 pT9 pH9 pC9 sXH ⊢
          rw [show ((i + 1 : Nat) : Int) = (i : Int) + 1 by omega]
          rcases nd with ⟨d1, d2, d3⟩ | ⟨d1, d2, d3⟩
          · rcases cs4 with ⟨w1, w2, w3, w5⟩ | ⟨w1, w2, w3, w5⟩
            · subst w2 w3 w5
              have fk := full d1
              rw [d2, d3]
              refine ⟨r2, as', _, _, _, _, _, _, _, rfl, sXH, hx9, ?_, ⟨n2t, n2h, n2q⟩, hT9, pT9, hH9, hC9, pH9, pC9, fl9, ?_, TA'⟩
              · rw [qs_none (fun y hy => by have := grp_nn hL y hy; omega)]
                exact hr9
              · rw [wt, if_pos fk]
                simp
            · omega
          · rcases cs4 with ⟨w1, w2, w3, w5⟩ | ⟨w1, w2, w3, w5⟩
            · omega
            · subst w2 w3 w5
              rw [d2, d3, show n + 1 - 1 = n by omega, hkb, hqn, decide_eq_true (show 0 < n + 1 by omega), Bool.true_and]
              exact ⟨r2, as', _, _, _, _, _, _, _, rfl, sXH, hx9, hr9, ⟨n2t, n2h, n2q⟩, hT9, pT9, hH9, hC9, pH9, pC9, fl9, wt, TA'⟩
    · rintro σ H3 ⟨r', as, hs, cs, fss, ws, v6, v7, v8, rfl, sX, hx3, hr3, _, hT, pT, hHd, hCp, pH, pC, fl, wl, TA⟩
      have e1 : (N : Int) / L = (M : Int) := by rw [hN, Int.mul_ediv_cancel _ (by omega)]
      have e2 : (N : Int) % L = 0 := by rw [hN, Int.mul_emod_left]
      rw [e1, e2] at wl
      refine ⟨_, rfl, _, rfl, ph, pq, fss, fss, rfl, rfl, LL.sq ⟨hs, hHd, paired_imp (fun _ _ z => z.2) pH⟩, LL.sq ⟨cs, hCp, paired_imp (fun _ _ z => z.2) pC⟩, _, rfl, iteNS rfl ?_⟩
      refine ⟨_, rfl, q pt ws H3 sX pt0 ⟨as, hT, pT⟩ ?_ TA⟩
      simp at wl
      omega
theorem at_in {ns : List Int} {k : Int} (h0 : 0 ≤ k) (h1 : k < (ns.length : Int)) : ∃ x, atI (ns.map V.int) k = some (V.int x) ∧ x ∈ ns := by
  have hk : k.toNat < ns.length := by omega
  refine ⟨ns[k.toNat], ?_, List.getElem_mem hk⟩
  have := at_map (ns := ns) (k := k.toNat) (List.getElem?_eq_getElem hk)
  rwa [show ((k.toNat : Nat) : Int) = k by omega] at this
noncomputable def spLate9 (K : PySem.W.Frag) : Sp := fun vs H Q _ => ∃ (b a : Addr) (tl ns : List Int) (late : Int), vs = [.ref b, .ref a, .int late] ∧ SqL K H b (tl.map V.int) ∧ SqL K H a (ns.map V.int) ∧ tl.length < 64 ∧ 0 < ns.length ∧ ns.length ≤ 1000 ∧ 0 ≤ late ∧ intBits late ≤ 8000 ∧
  ∀ (p : Addr) (ms ds : List Int) (H' : Hp), Same H H' → H p = none → H' p = some (.lst (ms.map V.int)) → tl.length = ds.length → (∀ d ∈ ds, 0 ≤ d ∧ d ≤ late) → ms.Perm (sums tl ds) → ms.Pairwise (· ≤ ·) → Q (.ref p) H'
theorem sc__law_late : FnScope ["told", "cells", "late", "found", "k", "cell"] ["told", "cells", "late"] (defScope st__law_late) := ⟨rfl, rfl, rfl, by decide +kernel, rfl, by decide +kernel, by decide +kernel⟩
theorem ok_late9 (D : Def K mg "_law_late" st__law_late ["told", "cells", "late"]) (T : Txt K mg) : Fn P w K mg base 1 "_law_late" ["told", "cells", "late"] (spLate9 K) := by
  refine D.fn sc__law_late (fun vs H Q E h => ?_) (fun f cdv A outer s H vs Q E hr h => ?_)
  · obtain ⟨a, b, ns, tl, l, rfl, _⟩ := h
    rfl
  · obtain ⟨b, a, tl, ns, late, rfl, hB, hS, hl, n1, n2, l0, lb, q⟩ := h
    refine ⟨_, (pss_cons (ps_set (i := 3) sc__law_late.nd rfl (Or.inl rfl) (pe_lst pa_nil))
      (pss_cons (ps_for PassesOwn.never rfl (pi_range1 (by rfl) T.z_range (pa_cons (pe_callB call_len_seq (by rfl) T.z_len b_len (pa_cons (pv 0) pa_nil)) pa_nil)) (pg_name (i := 4) sc__law_late.nd rfl (Or.inl rfl))
        (pss_cons (ps_set (i := 5) sc__law_late.nd rfl (Or.inl rfl) (pe_op op_addI (pe_op op_modB (pe_ix ix_list (pv 1) (pe_op op_modB (pv 4) (pe_callB call_len_seq (by rfl) T.z_len b_len (pa_cons (pv 1) pa_nil))) (fun _ _ => rfl)) (pe_op op_powB pe_int pe_int)) (pv 4)))
        (pss_one (ps_expr (pe_bm PySem.F.plainAttrs_list PySem.F.slot_list_append PySem.F.type_list_append mt_append (pv 3) (pa_cons (pe_op op_addI (pe_ix ix_list (pv 0) (pv 4) (fun _ _ => rfl)) (pe_op op_modB (pe_op op_fdivB (pe_op op_addI (pe_op op_mulB (pv 5) (pv 5)) (pe_op op_mulB (pv 4) (pe_op op_powB pe_int pe_int))) pe_int) (pe_op op_addI (pv 2) pe_int))) pa_nil))))))
      (pss_one (ps_ret (pe_callB call_sortedI (by rfl) T.z_sorted b_sorted (pa_cons (pv 3) pa_nil)))))), ?_⟩
    have p40 : (0 : Int) < 10 ^ (40 : Int).toNat := by decide
    have l40 : (10 : Int) ^ (40 : Int).toNat < 2 ^ 140 := by decide
    refine ⟨(by decide), fun pc hpc => ⟨_, rfl, _, _, rfl, .inl ((Same.new hpc).seq hB), _, rfl, by rw [List.length_map]; omega, by rw [List.length_map]; omega, for_range (n := ((tl.map V.int).length : Int).toNat) (fun i σ H2 => ∃ (ds : List Int) (v4 v5 : Option V), σ = [some (.ref b), some (.ref a), some (.int late), some (.ref pc), v4, v5] ∧ Same H H2 ∧ H2 pc = some (.lst ((sums (tl.take i) ds).map V.int)) ∧ ds.length = i ∧ (∀ d ∈ ds, 0 ≤ d ∧ d ≤ late)) ⟨[], none, none, rfl, Same.new hpc, upd_same, rfl, (fun _ z => nomatch z)⟩ ?_ ?_⟩⟩
    · rintro i σ H2 hi ⟨ds, v4, v5, rfl, sm, hC, dl, db⟩
      rw [List.length_map] at hi
      have hit : i < tl.length := by omega
      rw [show (0 : Int) + (i : Int) = (i : Int) by omega]
      have m0 := Int.emod_nonneg (i : Int) (show ((ns.length : Nat) : Int) ≠ 0 by omega)
      have m1 := Int.emod_lt_of_pos (i : Int) (show (0 : Int) < (ns.length : Int) by omega)
      obtain ⟨cv, hcv, _⟩ := at_in (ns := ns) m0 m1
      refine ⟨_, rfl, _, rfl, _, rfl, _, _, rfl, .inl (sm.seq hS), ?_⟩
      rw [List.length_map]
      refine ⟨_, _, rfl, rfl, by omega, _, _, _, _, rfl, rfl, sm.seq hS, hcv, _, _, rfl, rfl, ⟨by decide, by decide, by decide⟩, _, _, rfl, rfl, p40, _, rfl, _, _, rfl, rfl, ?_⟩
      have c0 := Int.emod_nonneg cv (show (10 : Int) ^ (40 : Int).toNat ≠ 0 by decide)
      have c1 := Int.emod_lt_of_pos cv p40
      have cb : intBits (cv % 10 ^ (40 : Int).toNat + (i : Int)) ≤ 150 := bits_mono (intBits_add_le (m := 140) (n := 64) (bits_of c0 (Int.lt_trans c1 l40)) (bits_of (by omega) (by omega))) (by decide)
      generalize cv % 10 ^ (40 : Int).toNat + (i : Int) = ce at cb ⊢
      have g := at_map (ns := tl) (k := i) (List.getElem?_eq_getElem hit)
      have sl : (sums (tl.take i) ds).length = i := by
        unfold sums
        rw [List.length_zipWith, List.length_take]
        omega
      refine ⟨_, rfl, .inl ⟨rfl, _, SqL.of hC⟩, _, rfl, _, rfl, _, _, _, _, rfl, rfl, sm.seq hB, g, _, rfl, _, rfl, _, _, rfl, rfl, ⟨150, 150, cb, cb, by decide⟩, _, rfl, _, _, rfl, rfl, ⟨by decide, by decide, by decide⟩, _, _, rfl, rfl, ⟨64, 100, bits_of (by omega) (by omega), by decide, by decide⟩, _, _, rfl, rfl, _, _, rfl, rfl, ⟨by decide, by decide⟩, _, rfl, _, _, rfl, rfl, _, _, rfl, rfl, by omega, _, _, rfl, rfl, ?_⟩
      have e0 := Int.emod_nonneg ((ce * ce + (i : Int) * 11 ^ (20 : Int).toNat) / 13) (show late + 1 ≠ 0 by omega)
      have e1 := Int.emod_lt_of_pos ((ce * ce + (i : Int) * 11 ^ (20 : Int).toNat) / 13) (show 0 < late + 1 by omega)
      generalize (ce * ce + (i : Int) * 11 ^ (20 : Int).toNat) / 13 % (late + 1) = dd at e0 e1 ⊢
      refine ⟨pc, _, _, rfl, rfl, hC, by rw [List.length_map, sl]; exact small1000 (by omega), ds ++ [dd], _, _, rfl, sm.wr hpc, ?_, by rw [List.length_append, dl]; rfl, fun d hd => ?_⟩
      · have es : sums (tl.take (i + 1)) (ds ++ [dd]) = sums (tl.take i) ds ++ [tl[i] + dd] := by
          rw [List.take_add_one, List.getElem?_eq_getElem hit]
          unfold sums
          rw [show (some tl[i]).toList = [tl[i]] from rfl, List.zipWith_append (by rw [List.length_take]; omega)]
          rfl
        rw [upd_same, es, List.map_append]
        rfl
      · rcases List.mem_append.mp hd with hd | hd
        · exact db d hd
        · rw [List.mem_singleton.mp hd]; exact ⟨e0, by omega⟩
    · rintro σ H2 ⟨ds, v4, v5, rfl, sm, hC, dl, db⟩
      rw [List.length_map, show ((tl.length : Nat) : Int).toNat = tl.length by omega] at hC dl
      rw [List.take_length] at hC
      have sl : (sums tl ds).length = tl.length := sums_length tl ds dl.symm
      refine ⟨_, rfl, pc, sums tl ds, rfl, SqL.of hC, by omega, fun l ms hl2 pm pw => ?_⟩
      exact q l ms ds _ (sm.put hl2) (sm.free hl2) upd_same dl.symm db pm pw
theorem made_same {H H3 : Hp} {x dx C : Addr} (nx : H x = none) (ndx : H dx = none) (sx : SameX x (upd (upd H dx (.own x)) x (.ins C dx [])) H3) : Same H H3 := fun a o h => sx a o (by rw [upd_ne (ne_of_none h nx), upd_ne (ne_of_none h ndx)]; exact h) (ne_of_none h nx)
theorem sc_law : FnScope ["script", "bells", "late", "cell", "turns", "count", "cells", "messages", "reading", "told", "span", "plain", "keen", "early", "due"] ["script"] (defScope st_law) := ⟨rfl, rfl, rfl, by decide +kernel, rfl, by decide +kernel, by decide +kernel⟩
theorem ok_law (hP : P.given.tree = none) {f : Addr} {fd : FuncData} (F : Fun K "law" "law" st_law f fd) (T : Txt K mg) (D_choose : Def K mg "choose" st_choose ["n", "k"]) (D_top_from : Def K mg "top_from" st_top_from ["start", "k", "number"]) (D_above_top : Def K mg "above_top" st_above_top ["k", "number"]) (D_rounded_up : Def K mg "rounded_up" st_rounded_up ["number", "divisor"]) (D_box_of : Def K mg "box_of" st_box_of ["row", "late"]) (D_bell_row : Def K mg "bell_row" st_bell_row ["box", "late"]) (D_heard_box : Def K mg "heard_box" st_heard_box ["reading", "late"]) (D_box_count : Def K mg "box_count" st_box_count ["turns", "bells", "late"]) (D_greatest_part : Def K mg "greatest_part" st_greatest_part ["turns", "bells", "late"]) (D_box_number : Def K mg "box_number" st_box_number ["box"]) (D_box_of_message : Def K mg "box_of_message" st_box_of_message ["message", "bells"]) (D_written : Def K mg "written" st_written ["message", "turns", "bells", "late"]) (D_read : Def K mg "read" st_read ["reading", "turns", "bells", "late"]) (D_refuse_silent : Def K mg "refuse_silent" st_refuse_silent ["turns", "bells"]) (D_rung : Def K mg "rung" st_rung ["messages", "turns", "bells", "late"]) (D_by_messages : Def K mg "by_messages" st_by_messages ["reading", "turns", "late"]) (D_talk_heard : Def K mg "talk_heard" st_talk_heard ["reading", "many", "turns", "bells", "late"]) (D__law_cell_at : Def K mg "_law_cell_at" st__law_cell_at ["script", "k"]) (D__law_whole : Def K mg "_law_whole" st__law_whole ["found"]) (D__law_late : Def K mg "_law_late" st__law_late ["told", "cells", "late"]) (D__law_told_in : Def K mg "_law_told_in" st__law_told_in ["hearer", "reading", "turns"]) {C_BellError : Addr} (m_BellError : mg "BellError" = some (.ref C_BellError)) {C_NoRow : Addr} (m_NoRow : mg "NoRow" = some (.ref C_NoRow)) {C_NoReading : Addr} (m_NoReading : mg "NoReading" = some (.ref C_NoReading)) {C_TooGreat : Addr} (m_TooGreat : mg "TooGreat" = some (.ref C_TooGreat)) {C_Hearer : Addr} (m_Hearer : mg "Hearer" = some (.ref C_Hearer)) {C_KeenHearer : Addr} (m_KeenHearer : mg "KeenHearer" = some (.ref C_KeenHearer))  (x_NoRow : PySem.W.excIn K C_NoRow bmV "ValueError.__new__" = true) (x_NoReading : PySem.W.excIn K C_NoReading bmV "ValueError.__new__" = true) (O : Own K C_Hearer C_KeenHearer) : FnOk P w K mg base CX0 44 f fd ["script"] (spLaw K) := by
  have hH : HrT K C_Hearer := ⟨O.c_Hearer, O.n_Hearer_turns, O.n_Hearer_bells, O.n_Hearer_late, O.n_Hearer_now, O.n_Hearer_reading, O.n_Hearer_known⟩
  have hK : HrT K C_KeenHearer := ⟨O.c_KeenHearer, O.n_KeenHearer_turns, O.n_KeenHearer_bells, O.n_KeenHearer_late, O.n_KeenHearer_now, O.n_KeenHearer_reading, O.n_KeenHearer_known⟩
  have G_choose : Fn P w K mg base 1 "choose" ["n", "k"] spChoose := ok_choose D_choose T
  have G_greatest_part : Fn P w K mg base 1 "greatest_part" ["turns", "bells", "late"] spGreat := ok_greatest_part D_greatest_part
  have G_box_count : Fn P w K mg base 2 "box_count" ["turns", "bells", "late"] spCount := ok_box_count D_box_count T G_greatest_part G_choose
  have G_rounded := ok_rounded_up (w := w) (base := base) D_rounded_up hP
  have G_above_top := ok_above_top D_above_top T G_rounded
  have G_top_from := ok_top_from D_top_from G_choose G_rounded hP
  have G_box_of_message : Fn P w K mg base 39 "box_of_message" ["message", "bells"] (spBoxMsg K) := ok_box_of_message D_box_of_message T G_above_top G_top_from G_choose
  have G_written : Fn P w K mg base 40 "written" ["message", "turns", "bells", "late"] (spWritten K) := ok_written D_written T G_box_count G_box_of_message (ok_bell_row D_bell_row T)
  have GE_heard_box := ok_heard_boxE D_heard_box T m_NoReading x_NoReading (ok_box_of (P := P) (w := w) (base := base) D_box_of T)
  have GE_read := ok_readE D_read T m_NoReading x_NoReading G_box_count GE_heard_box (ok_box_number D_box_number T G_choose)
  have GE_refuse_silent := ok_silentE (P := P) (w := w) (base := base) D_refuse_silent T m_NoRow x_NoRow
  have G_refuse_silent : Fn P w K mg base 1 "refuse_silent" ["turns", "bells"] spSilent := fn_mono (fun vs H Q E h => by
    obtain ⟨t, b, e, b1, bt, q⟩ := h
    exact ⟨t, b, e, by omega, fun _ => q, fun z => absurd ⟨b1, bt⟩ z⟩) (fnE_fn GE_refuse_silent)
  have G_read : Fn P w K mg base 3 "read" ["reading", "turns", "bells", "late"] (spRead K) := fn_mono (fun vs H Q E h => by
    obtain ⟨a, ns, t, b, l, e, hA, hl, b60, l0, lb, tb, B, sz, lt, q⟩ := h
    exact ⟨a, ns, t, b, l, e, hA, by omega, by omega, b60, l0, lb, tb, sz, fun _ => q, fun z => absurd ⟨hl, B, lt⟩ z⟩) (fnE_fn GE_read)
  have G_rung : Fn P w K mg base 41 "rung" ["messages", "turns", "bells", "late"] (spRung K) := ok_rung D_rung T G_refuse_silent G_written
  have GE_talk_heard : FnE P w K mg base 4 "talk_heard" ["reading", "many", "turns", "bells", "late"] (spTalkE K C_NoReading) := ok_talk_heardE D_talk_heard T m_NoReading x_NoReading (ok_by_messages D_by_messages T) G_read
  have G_talk_heard := fnE_fn GE_talk_heard
  obtain ⟨f1, ⟨fd1, F1, b1⟩, l1, l1'⟩ := O.d_Hearer_is_last_turn
  obtain ⟨f2, ⟨fd2, F2, b2⟩, l2, l2'⟩ := O.d_Hearer_earliest
  obtain ⟨f3, ⟨fd3, F3, b3⟩, l3, l3'⟩ := O.d_Hearer_go_on
  obtain ⟨f4, ⟨fd4, F4, b4⟩, l4⟩ := O.d_Hearer_knows
  obtain ⟨f5, ⟨fd5, F5, b5⟩, l5⟩ := O.d_KeenHearer_knows
  obtain ⟨f6, ⟨fd6, F6, b6⟩, l6, l6'⟩ := O.d_Hearer_turn
  obtain ⟨f7, ⟨fd7, F7, b7⟩, l7, l7'⟩ := O.d_Hearer_init
  have Ml : Mt P w K mg base 1 C_Hearer "is_last_turn" ["self"] (spLast C_Hearer) := ⟨f1, fd1, ok_last F1 T hH, hH.cl, l1, b1⟩
  have Ml' : Mt P w K mg base 1 C_KeenHearer "is_last_turn" ["self"] (spLast C_KeenHearer) := ⟨f1, fd1, ok_last F1 T hK, hK.cl, l1', b1⟩
  have Me : Mt P w K mg base 1 C_Hearer "earliest" ["self", "reading"] (spEar C_Hearer) := ⟨f2, fd2, ok_ear F2 T hH, hH.cl, l2, b2⟩
  have Me' : Mt P w K mg base 1 C_KeenHearer "earliest" ["self", "reading"] (spEar C_KeenHearer) := ⟨f2, fd2, ok_ear F2 T hK, hK.cl, l2', b2⟩
  have Mg : Mt P w K mg base 2 C_Hearer "go_on" ["self", "reading", "known"] (spGo C_Hearer) := ⟨f3, fd3, ok_go F3 T hH Ml, hH.cl, l3, b3⟩
  have Mg' : Mt P w K mg base 2 C_KeenHearer "go_on" ["self", "reading", "known"] (spGo C_KeenHearer) := ⟨f3, fd3, ok_go F3 T hK Ml', hK.cl, l3', b3⟩
  have Mk_ : Mt P w K mg base 3 C_Hearer "knows" ["self", "reading"] (spKn C_Hearer PKh) := ⟨f4, fd4, (ok_knows F4 T hH Ml).mono (by decide), hH.cl, l4, b4⟩
  have Mk' : Mt P w K mg base 3 C_KeenHearer "knows" ["self", "reading"] (spKn C_KeenHearer PKk) := ⟨f5, fd5, ok_keen F5 T hK Me' GE_heard_box G_greatest_part, hK.cl, l5, b5⟩
  have M_turn : Mt P w K mg base 4 C_Hearer "turn" ["self", "many"] (spTurn C_Hearer PKh) := ⟨f6, fd6, ok_turn F6 T hH Mk_ Me Mg GE_read, hH.cl, l6, b6⟩
  have M2_turn : Mt P w K mg base 4 C_KeenHearer "turn" ["self", "many"] (spTurn C_KeenHearer PKk) := ⟨f6, fd6, ok_turn F6 T hK Mk' Me' Mg' GE_read, hK.cl, l6', b6⟩
  have MKE_Hearer : MkX (CXE P w) P w K mg base 2 C_Hearer ["self", "turns", "bells", "late"] (spInitE C_Hearer C_NoRow) := ⟨f7, fd7, ok_init F7 T hH GE_refuse_silent, l7, b7⟩
  have MKE_KeenHearer : MkX (CXE P w) P w K mg base 2 C_KeenHearer ["self", "turns", "bells", "late"] (spInitE C_KeenHearer C_NoRow) := ⟨f7, fd7, ok_init F7 T hK GE_refuse_silent, l7', b7⟩
  have MK_Hearer := MKE_Hearer.plain
  have MK_KeenHearer := MKE_KeenHearer.plain
  have G__law_cell_at : Fn P w K mg base 1 "_law_cell_at" ["script", "k"] (spCell K) := ok_cell_at D__law_cell_at T
  have G__law_whole := ok_wholeN (P := P) (w := w) (base := base) D__law_whole T
  have G__law_late := ok_late9 (P := P) (w := w) (base := base) D__law_late T
  have G__law_told_in := ok_toldI D__law_told_in T M_turn M2_turn G__law_whole
  refine F.ok sc_law (fun vs H Q E h => ?_) (fun cdv A outer s H vs Q E hr h => ?_)
  · obtain ⟨a, ns, rfl, _⟩ := h
    rfl
  · obtain ⟨a, ns, rfl, hS, hlen, q⟩ := h
    have hu := hu64 hr
    refine ⟨_, (pss_cons (ps_set (i := 1) sc_law.nd rfl (Or.inr rfl) (pe_op op_addI pe_int (pe_op op_modB (pe_fn G__law_cell_at (hr.mono (by decide)) (by rfl) (pa_cons (pv 0) (pa_cons pe_int pa_nil))) pe_int)))
      (pss_cons (ps_set (i := 2) sc_law.nd rfl (Or.inl rfl) (pe_op op_modB (pe_fn G__law_cell_at (hr.mono (by decide)) (by rfl) (pa_cons (pv 0) (pa_cons pe_int pa_nil))) pe_int))
      (pss_cons (ps_set (i := 3) sc_law.nd rfl (Or.inl rfl) (pe_fn G__law_cell_at (hr.mono (by decide)) (by rfl) (pa_cons (pv 0) (pa_cons pe_int pa_nil))))
      (pss_cons (ps_set (i := 4) sc_law.nd rfl (Or.inl rfl) (pe_op op_addI (pe_op op_addI (pv 1) (pe_op op_mulB (pe_op op_modB (pv 3) pe_int) (pe_op op_addI (pv 2) pe_int))) (pe_op op_modB (pe_op op_fdivB (pv 3) pe_int) (pe_op op_addI (pv 2) pe_int))))
      (pss_cons (ps_set (i := 5) sc_law.nd rfl (Or.inr rfl) (pe_fn G_box_count (hr.mono (by decide)) (by rfl) (pa_cons (pv 4) (pa_cons (pv 1) (pa_cons (pv 2) pa_nil)))))
      (pss_cons (ps_set (i := 6) sc_law.nd rfl (Or.inl rfl) (pe_op op_cat (pe_slice sl_list (pv 0) (po_some pe_int) (po_some pe_int)) (pe_lst (pa_cons (pe_fn G__law_cell_at (hr.mono (by decide)) (by rfl) (pa_cons (pv 0) (pa_cons pe_int pa_nil))) pa_nil))))
      (pss_cons (ps_set (i := 7) sc_law.nd rfl (Or.inr rfl) (pe_comp (own := ["cell"]) (fr := ["count"]) (ix := [5]) rfl ⟨rfl, rfl, rfl, rfl, rfl, rfl⟩ (pi_list (pe_slice sl_list (pv 6) po_none (po_some pe_int))) (fun _ _ _ _ _ => (pg_name (i := 0) (show (["cell", "count"] : List Str).Nodup by decide +kernel) rfl (Or.inl rfl))) (fun _ _ _ _ _ => pts_nil) (fun _ _ _ _ _ => (pe_op op_modB (pv 0) (pv 1)))))
      (pss_cons (ps_set (i := 8) sc_law.nd rfl (Or.inr rfl) (pe_fn G__law_late (hr.mono (by decide)) (by rfl) (pa_cons (pe_fn G_rung (hr.mono (by decide)) (by rfl) (pa_cons (pv 7) (pa_cons (pv 4) (pa_cons (pv 1) (pa_cons (pv 2) pa_nil))))) (pa_cons (pe_op op_cat (pe_lst (pa_cons pe_int pa_nil)) (pe_slice sl_list (pv 0) (po_some pe_int) (po_some pe_int))) (pa_cons (pv 2) pa_nil)))))
      (pss_cons (ps_set (i := 9) sc_law.nd rfl (Or.inl rfl) (pe_fn G_talk_heard (hr.mono (by decide)) (by rfl) (pa_cons (pe_callTy call_list_of (by rfl) T.z_list b_list (pa_cons (pv 8) pa_nil)) (pa_cons (pe_callB call_len_seq (by rfl) T.z_len b_len (pa_cons (pv 7) pa_nil)) (pa_cons (pv 4) (pa_cons (pv 1) (pa_cons (pv 2) pa_nil)))))))
      (pss_cons (ps_if (pw_or (pt_not (pt_val (pe_callB call_isinst (by rfl) T.z_isinstance b_isinstance (pa_cons (pv 9) (pa_cons (pe_bltn (v := .ty "list") (by rfl) T.z_list b_list rfl) pa_nil))))) (pw_or (pt_cmpR (op_neL hu) (pv 9) (pv 7) (nomark _)) (pw_or1 (pt_not (pt_val (pe_callB (call_all rfl) (by rfl) T.z_all b_all (pa_cons (pe_comp (own := ["message"]) (fr := []) (ix := []) rfl ⟨rfl, rfl, rfl, rfl, rfl, rfl⟩ (pi_list (pv 9)) (fun _ _ _ _ _ => (pg_name (i := 0) (show (["message"] : List Str).Nodup by decide +kernel) rfl (Or.inl rfl))) (fun _ _ _ _ _ => pts_nil) (fun _ _ _ _ _ => (pe_fn G__law_whole (hr.mono (by decide)) (by rfl) (pa_cons (pv 0) pa_nil)))) pa_nil))))))).pt
        (pss_one (ps_ret pe_bl))
        pss_nil)
      (pss_cons (ps_set (i := 10) sc_law.nd rfl (Or.inl rfl) (pe_op op_addI (pv 4) (pv 2)))
      (pss_cons (ps_set (i := 11) sc_law.nd rfl (Or.inl rfl) (pe_fn G__law_told_in (hr.mono (by decide)) (by rfl) (pa_cons (pe_mk MK_Hearer (hr.mono (by decide)) (by rfl) m_Hearer (pa_cons (pv 4) (pa_cons (pv 1) (pa_cons (pv 2) pa_nil)))) (pa_cons (pv 8) (pa_cons (pe_op op_mulB (pv 10) (pe_callB call_len_seq (by rfl) T.z_len b_len (pa_cons (pv 7) pa_nil))) pa_nil)))))
      (pss_cons (ps_set (i := 12) sc_law.nd rfl (Or.inl rfl) (pe_fn G__law_told_in (hr.mono (by decide)) (by rfl) (pa_cons (pe_mk MK_KeenHearer (hr.mono (by decide)) (by rfl) m_KeenHearer (pa_cons (pv 4) (pa_cons (pv 1) (pa_cons (pv 2) pa_nil)))) (pa_cons (pv 8) (pa_cons (pe_op op_mulB (pv 10) (pe_callB call_len_seq (by rfl) T.z_len b_len (pa_cons (pv 7) pa_nil))) pa_nil)))))
      (pss_cons (ps_if (pw_or (pt_cmpR op_isN (pv 11) pe_non (nomark _)) (pw_or (pt_cmpR op_isN (pv 12) pe_non (nomark _)) (pw_or1 (pt_cmpR op_neI (pe_callB call_len_seq (by rfl) T.z_len b_len (pa_cons (pv 12) pa_nil)) (pe_callB call_len_seq (by rfl) T.z_len b_len (pa_cons (pv 7) pa_nil)) (nomark _))))).pt
        (pss_one (ps_ret pe_bl))
        pss_nil)
      (pss_cons (ps_if (pt_cmpR (op_neLT hu) (pv 11) (pe_comp (own := ["k"]) (fr := ["reading", "messages", "bells"]) (ix := [8, 7, 1]) rfl ⟨rfl, rfl, rfl, rfl, rfl, rfl⟩ (pi_range1 (by rfl) T.z_range (pa_cons (pe_callB call_len_seq (by rfl) T.z_len b_len (pa_cons (pv 7) pa_nil)) pa_nil)) (fun _ _ _ _ _ => (pg_name (i := 0) (show (["k", "reading", "messages", "bells"] : List Str).Nodup by decide +kernel) rfl (Or.inl rfl))) (fun _ _ _ _ _ => pts_nil) (fun _ _ _ _ _ => (pe_tup (pa_cons (pe_ix (ix_listK K) (pv 1) (pe_op op_subI (pe_op op_mulB (pe_op op_addI (pv 0) pe_int) (pv 3)) pe_int) (fun _ _ => rfl)) (pa_cons (pe_ix (ix_listK K) (pv 2) (pv 0) (fun _ _ => rfl)) pa_nil))))) (nomark _))
        (pss_one (ps_ret pe_bl))
        pss_nil)
      (pss_cons (ps_for PassesOwn.never rfl (pi_zip (by rfl) T.z_zip (pa_cons (pv 12) (pa_cons (pv 11) pa_nil))) (pg_tup (n := 2) rfl (pgs_cons (pg_name (i := 13) sc_law.nd rfl (Or.inl rfl)) (pgs_cons (pg_name (i := 14) sc_law.nd rfl (Or.inl rfl)) pgs_nil)))
        (pss_one (ps_if (pw_or (pt_cmpR op_neI (pe_ix ix_tup (pv 13) pe_int (fun _ _ => rfl)) (pe_ix ix_tup (pv 14) pe_int (fun _ _ => rfl)) (nomark _)) (pw_or (pt_cmpR op_gtI (pe_ix ix_tup (pv 13) pe_int (fun _ _ => rfl)) (pe_ix ix_tup (pv 14) pe_int (fun _ _ => rfl)) (nomark _)) (pw_or1 (pt_cmpR op_neI (pe_op op_fdivB (pe_ix ix_tup (pv 13) pe_int (fun _ _ => rfl)) (pv 10)) (pe_op op_fdivB (pe_ix ix_tup (pv 14) pe_int (fun _ _ => rfl)) (pv 10)) (nomark _))))).pt
          (pss_one (ps_ret pe_bl))
          pss_nil)))
      (pss_one (ps_ret pe_bl)))))))))))))))))), ?_⟩
    refine ⟨_, rfl, a, ns, 0, rfl, hS, by decide, _, _, rfl, rfl, (by decide), _, _, rfl, rfl, ?_⟩
    have q0 := Int.emod_nonneg (cellOf ns 0) (show (5 : Int) ≠ 0 by decide)
    have q1 := Int.emod_lt_of_pos (cellOf ns 0) (show (0 : Int) < 5 by decide)
    obtain ⟨B1, B6⟩ : 1 ≤ 1 + cellOf ns 0 % 5 ∧ 1 + cellOf ns 0 % 5 ≤ 6 := by omega
    generalize 1 + cellOf ns 0 % 5 = bells at B1 B6 ⊢
    refine ⟨_, rfl, a, ns, 1, rfl, hS, by decide, _, _, rfl, rfl, (by decide), ?_⟩
    have l0 := Int.emod_nonneg (cellOf ns 1) (show (6 : Int) ≠ 0 by decide)
    have l5 := Int.emod_lt_of_pos (cellOf ns 1) (show (0 : Int) < 6 by decide)
    generalize cellOf ns 1 % 6 = late at l0 l5 ⊢
    refine ⟨_, rfl, a, ns, 2, rfl, hS, by decide, ?_⟩
    generalize cellOf ns 2 = cell
    refine ⟨_, rfl, _, rfl, _, _, rfl, rfl, (by decide), _, rfl, _, _, rfl, rfl, ?_⟩
    have s0 := Int.emod_nonneg cell (show (7 : Int) ≠ 0 by decide)
    have s6 := Int.emod_lt_of_pos cell (show (0 : Int) < 7 by decide)
    generalize cell % 7 = steps at s0 s6 ⊢
    refine ⟨_, _, rfl, rfl, ⟨10, 10, bits_of s0 (by omega), bits_of (by omega) (by omega), by decide⟩, _, _, rfl, rfl, _, rfl, _, _, rfl, rfl, ⟨by decide, by decide⟩, _, rfl, _, _, rfl, rfl, _, _, rfl, rfl, by omega, _, _, rfl, rfl, ?_⟩
    have p0 : 0 ≤ steps * (late + 1) := Int.mul_nonneg s0 (by omega)
    have p1 : steps * (late + 1) ≤ 6 * 6 := Int.mul_le_mul (by omega) (by omega) (by omega) (by decide)
    have r0 := Int.emod_nonneg (cell / 7) (show late + 1 ≠ 0 by omega)
    have r1 := Int.emod_lt_of_pos (cell / 7) (show 0 < late + 1 by omega)
    obtain ⟨bt, t80⟩ : bells ≤ bells + steps * (late + 1) + cell / 7 % (late + 1) ∧ bells + steps * (late + 1) + cell / 7 % (late + 1) ≤ 80 := by omega
    clear p0 p1 r0 r1 s0 s6
    generalize bells + steps * (late + 1) + cell / 7 % (late + 1) = turns at bt t80 ⊢
    have lb8 : intBits late ≤ 8000 := bits_mono (bits_of (m := 10) l0 (by omega)) (by decide)
    have tb : intBits turns ≤ 100 := bits_of (by omega) (by omega)
    have cp := cnt_pos (turns := turns) (bells := bells) (late := late) (by omega) bt l0
    have cb := cnt_bits (turns := turns) (bells := bells) (late := late) (by omega) (by omega) l0 (by omega) tb (by decide)
    refine ⟨_, rfl, _, rfl, _, rfl, turns, bells, late, rfl, by omega, by omega, l0, lb8, bits_mono tb (by decide), ?_⟩
    refine ⟨_, rfl, _, rfl, _, rfl, _, _, rfl, hS, fun p1 hp1 => ?_⟩
    rw [cut_map]
    have xl := cutI_len ns (some 4) (some 8)
    generalize cutI ns (some 4) (some 8) = ys4 at xl ⊢
    refine ⟨_, rfl, a, ns, 3, rfl, (Same.new hp1).seq hS, by decide, (by show 1 ≤ sizeLine; decide), fun p2 hp2 => ⟨p1, p2, _, _, rfl, rfl, (Same.new hp2) _ _ upd_same, upd_same, by rw [List.length_map]; exact Nat.le_of_lt (small1000 (by show _ + 1 ≤ 1000; omega)), fun p3 hp3 => ?_⟩⟩
    have e3 : ys4.map V.int ++ [V.int (cellOf ns 3)] = (ys4 ++ [cellOf ns 3]).map V.int := by rw [List.map_append]; rfl
    rw [e3]
    have s1 : Same H (upd (upd (upd H p1 (.lst (ys4.map V.int))) p2 (.lst [V.int (cellOf ns 3)])) p3 (.lst ((ys4 ++ [cellOf ns 3]).map V.int))) := ((Same.new hp1).put hp2).put hp3
    have h1 : (upd (upd (upd H p1 (.lst (ys4.map V.int))) p2 (.lst [V.int (cellOf ns 3)])) p3 (.lst ((ys4 ++ [cellOf ns 3]).map V.int))) p3 = some (.lst ((ys4 ++ [cellOf ns 3]).map V.int)) := upd_same
    generalize upd (upd (upd H p1 (.lst (ys4.map V.int))) p2 (.lst [V.int (cellOf ns 3)])) p3 (.lst ((ys4 ++ [cellOf ns 3]).map V.int)) = H1 at s1 h1 ⊢
    generalize ys4 ++ [cellOf ns 3] = xs5 at h1 ⊢
    refine ⟨_, rfl, _, rfl, _, _, rfl, SqL.of h1, fun p4 hp4 => ?_⟩
    rw [cut_map]
    have xl6 : (cutI xs5 none (some 4)).length ≤ 6 := by
      unfold cutI
      rw [List.length_take]
      simp [HT.sIx]
      omega
    generalize cutI xs5 none (some 4) = zs at xl6 ⊢
    have s2 : Same H (upd H1 p4 (.lst (zs.map V.int))) := s1.put hp4
    have h2 : (upd H1 p4 (.lst (zs.map V.int))) p4 = some (.lst (zs.map V.int)) := upd_same
    generalize upd H1 p4 (.lst (zs.map V.int)) = H2 at s2 h2 ⊢
    refine ⟨p4, rfl, ⟨_, SqL.of h2⟩, fun pm hpm => comp_listG (K := K) (a := p4) (xs := zs.map V.int) (fun _ v _ => ∃ m : Int, v = V.int m ∧ 0 ≤ m ∧ m < cnt turns bells late) (fun _ _ _ _ _ h => h) (fun _ _ _ _ _ _ h => h) (SqL.of h2) hpm (by rw [List.length_map]; exact Nat.le_of_lt (small1000 (by omega))) (fun i x H6 R' hx s6 hR => ?_) ?_⟩
    · rw [List.getElem?_map] at hx
      obtain ⟨z, hz, rfl⟩ := Option.map_eq_some_iff.mp hx
      exact ⟨rfl, _, rfl, _, rfl, _, _, rfl, rfl, cp, hR _ _ (Same.refl _) ⟨_, rfl, Int.emod_nonneg _ (by omega), Int.emod_lt_of_pos _ cp⟩⟩
    intro ys H3 s3 hY yl yp
    obtain ⟨ms, rfl, mp⟩ := ints_of (Pd := fun m => 0 ≤ m ∧ m < cnt turns bells late) (fun i v hv => yp i v hv)
    rw [List.length_map, List.length_map] at yl
    have s03 := s2.trans s3
    have ms6 : ms.length ≤ 6 := by omega
    refine ⟨_, rfl, _, rfl, _, rfl, _, rfl, pm, ms, turns, bells, late, rfl, SqL.of hY, by omega, B1, by omega, bt, l0, lb8, bits_mono tb (by decide), fun m hm => ⟨(mp m hm).1, (mp m hm).2, bits_mono (bits_lt (mp m hm).1 (mp m hm).2 cb) (by decide)⟩, fun pt bss H4' s4' _ hT' bl hb hz => ?_⟩
    refine ⟨(by decide), fun p5 hp5 => ⟨_, rfl, _, rfl, _, rfl, _, _, rfl, ((s03.trans s4').put hp5).seq hS, fun p6 hp6 => ?_⟩⟩
    rw [cut_map]
    have yl8 := cutI_len ns (some 8) (some 63)
    generalize cutI ns (some 8) (some 63) = us at yl8 ⊢
    refine ⟨p5, p6, _, _, rfl, rfl, (Same.new hp6) _ _ upd_same, upd_same, by rw [List.length_map]; exact Nat.le_of_lt (small1000 (by show 1 + _ ≤ 1000; omega)), fun p7 hp7 => ?_⟩
    have e7 : [V.int 3] ++ us.map V.int = (3 :: us).map V.int := rfl
    rw [e7]
    have s4 : Same H3 (upd (upd (upd H4' p5 (.lst [V.int 3])) p6 (.lst (us.map V.int))) p7 (.lst ((3 :: us).map V.int))) := ((s4'.put hp5).put hp6).put hp7
    have hT : (upd (upd (upd H4' p5 (.lst [V.int 3])) p6 (.lst (us.map V.int))) p7 (.lst ((3 :: us).map V.int))) pt = some (.lst ((ringL (turns + late) late 0 bss).map V.int)) := (((Same.new hp5).put hp6).put hp7) _ _ hT'
    have hU : (upd (upd (upd H4' p5 (.lst [V.int 3])) p6 (.lst (us.map V.int))) p7 (.lst ((3 :: us).map V.int))) p7 = some (.lst ((3 :: us).map V.int)) := upd_same
    generalize upd (upd (upd H4' p5 (.lst [V.int 3])) p6 (.lst (us.map V.int))) p7 (.lst ((3 :: us).map V.int)) = H4 at s4 hT hU ⊢
    have hbox : ∀ bs ∈ bss, IsBox bs ∧ bs.length = bells.toNat ∧ numB bs < cnt turns bells late := fun bs hbs => by
      obtain ⟨i, hi⟩ := List.getElem?_of_mem hbs
      have il := (List.getElem?_eq_some_iff.mp hi).1
      have hm : ms[i]? = some ms[i] := List.getElem?_eq_getElem (by omega)
      obtain ⟨g1, g2, g3⟩ := hb i bs _ hi hm
      have := mp _ (List.mem_of_getElem? hm)
      exact ⟨g1, g2, by omega⟩
    have rl : (ringL (turns + late) late 0 bss).length = bss.length * bells.toNat := ringL_len bss 0 fun bs hbs => (hbox bs hbs).2.1
    have rl60 : (ringL (turns + late) late 0 bss).length < 64 := by
      rw [rl]
      have : bss.length * bells.toNat ≤ 6 * 6 := Nat.mul_le_mul (by omega) (by omega)
      omega
    have s04 := s03.trans s4
    refine ⟨_, rfl, pt, p7, ringL (turns + late) late 0 bss, 3 :: us, late, rfl, SqL.of hT, SqL.of hU, rl60, by simp, by rw [List.length_cons]; omega, l0, lb8, fun pr rd ds H5 s5 _ hR dl db pmr pw => ?_⟩
    have hL : 0 < turns + late := by omega
    have gr := grp_ring (L := turns + late) (late := late) hL l0 bss 0 ds (fun bs hbs x hx => by
      obtain ⟨g1, g2, g3⟩ := hbox bs hbs
      have := bell_lt (turns := turns) g1 l0 (by rw [g2, show ((bells.toNat : Nat) : Int) = bells by omega]; exact g3) x hx
      omega) dl.symm db
    have gp : ∀ k : Int, (grp (turns + late) k rd).Perm (grp (turns + late) k (sums (ringL (turns + late) late 0 bss) ds)) := fun k => grp_perm pmr
    have part : ∀ (i : Nat) (bs : List Int), bss[i]? = some bs → boxL late (grp (turns + late) (i : Int) rd) = bs ∧ ((grp (turns + late) (i : Int) rd).length : Int) = bells ∧ IsBox bs ∧ Szs 70000 bs ∧ numB bs < cnt turns bells late := fun i bs hi => by
      obtain ⟨g1, g2, g3⟩ := hbox bs (List.mem_of_getElem? hi)
      obtain ⟨es, el, ed, eg⟩ := (gr.2 i).1 bs hi
      rw [show (0 : Int) + (i : Int) = (i : Int) by omega] at eg
      have pi := gp (i : Int)
      rw [eg] at pi
      have al := al_sort (bell_sorted l0 g1) (al_sums el ed) pi (grp_sorted hL pw)
      have ll := ((al_iff _ _ _).mp al).1
      rw [bellL_length, g2] at ll
      exact ⟨heard_as l0 al, by omega, g1, fun x hx => bits_mono (hz bs (List.mem_of_getElem? hi) x hx) (by decide), g3⟩
    have G : GoodT rd turns bells late bss := by
      refine ⟨fun k => ⟨fun ne => ?_, fun hk => ?_⟩, part⟩
      · rcases (by omega : k < 0 ∨ (0 ≤ k ∧ k < (bss.length : Int)) ∨ (bss.length : Int) ≤ k) with z | z | z
        · have := gp k
          rw [gr.1 k z] at this
          exact absurd (List.Perm.eq_nil this) ne
        · exact z
        · have h0 := (gr.2 k.toNat).2 (List.getElem?_eq_none (by omega))
          rw [show (0 : Int) + ((k.toNat : Nat) : Int) = k by omega] at h0
          have := gp k
          rw [h0] at this
          exact absurd (List.Perm.eq_nil this) ne
      · intro z
        have hi : k.toNat < bss.length := by omega
        obtain ⟨_, p2, _⟩ := part k.toNat _ (List.getElem?_eq_getElem hi)
        rw [show ((k.toNat : Nat) : Int) = k by omega, z] at p2
        simp at p2
        omega
    have TG : TalkG turns bells late rd bss := by
      refine ⟨pw, fun i bs hi => ?_, fun x hx => ?_⟩
      · obtain ⟨u1, u2, u3, u4, u5⟩ := part i bs hi
        exact ⟨B1, by omega, bt, l0, grp_sorted hL pw, fun y hy => grp_nn hL y hy, u2, u3, u1, u5, u4⟩
      · have ne : grp (turns + late) (x / (turns + late)) rd ≠ [] := by
          intro z
          have hm : x % (turns + late) ∈ grp (turns + late) (x / (turns + late)) rd := by
            unfold grp
            exact List.mem_map.mpr ⟨x, List.mem_filter.mpr ⟨hx, by simp⟩, rfl⟩
          rw [z] at hm
          cases hm
        obtain ⟨k0, k1⟩ := (G.1 (x / (turns + late))).mp ne
        have dm := Int.mul_ediv_add_emod x (turns + late)
        have m0 := Int.emod_nonneg x (show turns + late ≠ 0 by omega)
        have m1 := Int.emod_lt_of_pos x hL
        have y0 : 0 ≤ (turns + late) * (x / (turns + late)) := Int.mul_nonneg (by omega) k0
        have y1 : (turns + late) * (x / (turns + late) + 1) ≤ (turns + late) * (bss.length : Int) := Int.mul_le_mul_of_nonneg_left (by omega) (by omega)
        rw [Int.mul_add, Int.mul_one] at y1
        rw [Int.mul_comm (bss.length : Int)]
        omega
    have emap : bss.map numB = ms := by
      apply List.ext_getElem?
      intro i
      rw [List.getElem?_map]
      by_cases hi : i < bss.length
      · have h1 := List.getElem?_eq_getElem hi
        have h2 : ms[i]? = some ms[i] := List.getElem?_eq_getElem (by omega)
        rw [h1, h2]
        show some (numB bss[i]) = some ms[i]
        rw [(hb i _ _ h1 h2).2.2]
      · rw [List.getElem?_eq_none (by omega), List.getElem?_eq_none (by omega)]
        rfl
    have rdl : rd.length ≤ 20000 := by
      have := pmr.length_eq
      rw [sums_length _ _ dl] at this
      omega
    have hY5 := (s4.trans s5) _ _ hY
    have wb : intBits (turns + late) ≤ 100 := bits_of (by omega) (by omega)
    have mb : intBits (((ms.map V.int).length : Nat) : Int) ≤ 10 := by rw [List.length_map]; exact bits_of (by omega) (by omega)
    have ml : ((ms.map V.int).length : Int) = (bss.length : Int) := by rw [List.length_map, bl]
    refine ⟨_, rfl, _, _, rfl, .inl (SqL.of hR), fun p8 hp8 => ?_⟩
    have t8 : Same H5 (upd H5 p8 (.lst (rd.map V.int))) := Same.new hp8
    have h8 : (upd H5 p8 (.lst (rd.map V.int))) p8 = some (.lst (rd.map V.int)) := upd_same
    generalize upd H5 p8 (.lst (rd.map V.int)) = G8 at t8 h8 ⊢
    refine ⟨_, rfl, _, _, rfl, .inl (SqL.of (t8 _ _ hY5)), _, rfl, _, rfl, _, rfl, p8, rd, _, turns, bells, late, bss, rfl, SqL.of h8, rdl, by omega, by rw [ml]; omega, B1, by omega, bt, l0, lb8, bits_mono tb (by decide), G, fun _ pq G9 t9 hpq hQ => ?_, fun z => absurd ml.symm z⟩
    rw [emap] at hQ
    have t59 := t8.trans t9
    refine ⟨_, rfl, _, _, _, true, rfl, TyOf.lst hQ, kit_list_list K, _, rfl, iteF ⟨_, rfl, _, rfl, pq, pm, ms, ms, rfl, rfl, SqL.of hQ, SqL.of (t59 _ _ hY5), _, rfl, iteNS rfl ?_⟩⟩
    refine ⟨_, rfl, pq, rfl, ⟨_, SqL.of hQ⟩, fun pa hpa => comp_listP (K := K) (a := pq) (xs := ms.map V.int) (fun _ => .bl true) (SqL.of hQ) hpa ?_ ?_ ?_⟩
    · rw [List.length_map]; exact Nat.le_of_lt (small1000 (by omega))
    · intro i x H8 R' hx s8 hRR
      rw [List.getElem?_map] at hx
      obtain ⟨z, hz', rfl⟩ := Option.map_eq_some_iff.mp hx
      exact ⟨rfl, _, rfl, z, rfl, hRR⟩
    refine ⟨pa, List.replicate ms.length true, rfl, SqL.of (by rw [upd_same, List.length_map, List.map_replicate, map_range_const]), ?_⟩
    rw [all_replicate]
    refine ⟨_, rfl, iteF ?_⟩
    have tA : Same H5 (upd G9 pa (.lst ((List.range (ms.map V.int).length).map fun _ => V.bl true))) := t59.put hpa
    generalize upd G9 pa (.lst ((List.range (ms.map V.int).length).map fun _ => V.bl true)) = GA at tA ⊢
    have hYA := tA _ _ hY5
    have hRA := tA _ _ hR
    refine ⟨_, rfl, _, rfl, _, _, rfl, rfl, ?_⟩
    refine ⟨_, rfl, _, rfl, _, rfl, fun x dx nx ndx _ => ⟨x, dx, turns, bells, late, rfl, upd_same, by omega, fun _ r H6 sX6 nr hx6 hr6 => ⟨rfl, ?_⟩, fun z => absurd ⟨B1, bt⟩ z⟩⟩
    have s56 : Same GA H6 := made_same nx ndx sX6
    refine ⟨_, rfl, _, rfl, _, rfl, _, _, rfl, .inl (SqL.of (s56 _ _ hYA)), _, _, rfl, rfl, ⟨100, 10, wb, mb, by decide⟩, x, dx, r, pr, turns, bells, late, false, rd, bss, by rw [ml], by rw [if_neg (by decide)]; exact hx6, hr6, s56 _ _ hRA, TG, by omega, B1, B6, bt, t80, l0, by omega, fun pP ws H7 sX7 hpP TU wl TA => ?_⟩
    have s57 : Same GA H7 := fun c o h => sX7 c o (s56 c o h) (ne_of_none h nx)
    clear s56 sX6 sX7 hx6 hr6
    refine ⟨_, rfl, _, rfl, _, rfl, fun x2 dx2 nx2 ndx2 _ => ⟨x2, dx2, turns, bells, late, rfl, upd_same, by omega, fun _ r2 H8 sX8 nr2 hx8 hr8 => ⟨rfl, ?_⟩, fun z => absurd ⟨B1, bt⟩ z⟩⟩
    have s78 : Same H7 H8 := made_same nx2 ndx2 sX8
    have s58 := s57.trans s78
    refine ⟨_, rfl, _, rfl, _, rfl, _, _, rfl, .inl (SqL.of (s58 _ _ hYA)), _, _, rfl, rfl, ⟨100, 10, wb, mb, by decide⟩, x2, dx2, r2, pr, turns, bells, late, true, rd, bss, by rw [ml], by rw [if_pos rfl]; exact hx8, hr8, s58 _ _ hRA, TG, by omega, B1, B6, bt, t80, l0, by omega, fun pK vs2 H9 sX9 hpK TV vl TB => ?_⟩
    have s79 : Same H7 H9 := fun c o h => sX9 c o (s78 c o h) (ne_of_none h nx2)
    have s59 := s57.trans s79
    clear s78 sX8 sX9 hx8 hr8 s58
    obtain ⟨as, hW, pW⟩ := TU
    obtain ⟨cs, hV, pV⟩ := TV
    have hW9 := s79 _ _ hW
    have pW9 : PySem.Paired (fun c (w : Int × Int) => H9 c = some (.tup [.int w.2, .int w.1])) as ws := paired_imp (fun _ _ z => s79 _ _ z) pW
    have al := paired_len pW9
    have cl := paired_len pV
    have hY9 := s59 _ _ hYA
    have hR9 := s59 _ _ hRA
    refine ⟨_, rfl, rfl, _, rfl, ifF (fun z => nomatch z) ⟨_, rfl, rfl, _, rfl, ifF (fun z => nomatch z) ⟨_, rfl, _, _, rfl, .inl (SqL.of hV), _, rfl, _, _, rfl, .inl (SqL.of hY9), _, _, rfl, rfl, _, rfl, iteNS (by rw [List.length_map, List.length_map]; omega) ?_⟩⟩⟩
    have facts : ∀ k : Nat, k < ms.length → ∃ (bs : List Int) (w v : Int × Int) (m : Int), bss[k]? = some bs ∧ ws[k]? = some w ∧ vs2[k]? = some v ∧ ms[k]? = some w.1 ∧ v.1 = w.1 ∧ atI (rd.map V.int) (((k : Int) + 1) * bells - 1) = some (V.int w.2) ∧ v.2 ≤ w.2 ∧ w.2 / (turns + late) = (k : Int) ∧ v.2 / (turns + late) = (k : Int) := by
      intro k hk
      have kb : k < bss.length := by omega
      have hbs := List.getElem?_eq_getElem kb
      have Gp := TG.gr k _ hbs
      obtain ⟨la, hla, top⟩ := Gp.last
      have hw := List.getElem?_eq_getElem (show k < ws.length by omega)
      have hv := List.getElem?_eq_getElem (show k < vs2.length by omega)
      have hm := List.getElem?_eq_getElem hk
      obtain ⟨n1, m, em, Tm⟩ := TA k _ _ hbs hw
      obtain ⟨n2, m', em', Tm'⟩ := TB k _ _ hbs hv
      have e1 := Tau.plain Gp Tm hla top
      have e2 := Tau.keen_le Gp Tm' hla top
      obtain ⟨m0, m1, _, _⟩ := Tm
      obtain ⟨m0', m1', _, _⟩ := Tm'
      generalize ws[k] = wk at hw em n1
      generalize vs2[k] = vk at hv em' n2
      have lens : ∀ i : Nat, i < k → ((grp (turns + late) (i : Int) rd).length : Int) = bells := fun i hi => (TG.gr i _ (List.getElem?_eq_getElem (show i < bss.length by omega))).gl
      have bln := below_len (L := turns + late) (b := bells) hL pw (fun y hy => (TG.rng y hy).1) k lens
      have ta := talk_at (L := turns + late) (b := bells) hL pw (fun y hy => (TG.rng y hy).1) lens hla
      have gr2 := at_map ta
      have ei : (((rd.filter (fun x => decide (x < (k : Int) * (turns + late)))).length + (bells - 1).toNat : Nat) : Int) = ((k : Int) + 1) * bells - 1 := by
        have hh : ((k : Int) + 1) * bells = (k : Int) * bells + bells := by rw [Int.add_mul, Int.one_mul]
        rw [hh]
        omega
      rw [ei] at gr2
      refine ⟨_, wk, vk, m, hbs, hw, hv, ?_, by rw [n1, n2], ?_, by omega, ?_, ?_⟩
      · rw [hm, n1, (hb k _ _ hbs hm).2.2]
      · rw [em, e1]; exact gr2
      · rw [em, Int.add_comm, Int.add_mul_ediv_right _ _ (by omega), Int.ediv_eq_zero_of_lt m0 (by omega)]
        omega
      · rw [em', Int.add_comm, Int.add_mul_ediv_right _ _ (by omega), Int.ediv_eq_zero_of_lt m0' (by omega)]
        omega
    refine ⟨_, rfl, _, rfl, _, _, rfl, .inl (SqL.of hY9), _, rfl, ?_⟩
    rw [List.length_map]
    refine ⟨by omega, by omega, fun ac hac => comp_rangeI (lo := 0) (n := ms.length) (fun i ys H' => ∃ es : List Addr, ys = es.map V.ref ∧ Same H9 H' ∧ H' ac = some (.lst (es.map V.ref)) ∧ PySem.Paired (fun c (w : Int × Int) => c ≠ ac ∧ H' c = some (.tup [.int w.2, .int w.1])) es (ws.take i)) (Nat.le_of_lt (small1000 (by omega))) ⟨[], rfl, Same.new hac, upd_same, .nil⟩ ?_ ?_ ?_⟩
    · rintro i ys H' ⟨es, rfl, s', h', p'⟩
      refine ⟨h', ?_⟩
      rw [List.length_map, paired_len p', List.length_take]
      omega
    · rintro i ys H' R' hi ⟨es, rfl, s', h', p'⟩ cont
      rw [show (0 : Int) + (i : Int) = (i : Int) by omega]
      obtain ⟨bs, w, v, m, _, f2, _, f4, _, f6, _, _, _⟩ := facts i hi
      refine ⟨rfl, _, rfl, _, rfl, _, _, rfl, rfl, _, rfl, _, _, rfl, rfl, ⟨10, 10, bits_of (by omega) (by omega), bits_of (by omega) (by omega), by decide⟩, _, _, rfl, rfl, _, _, _, _, rfl, rfl, SqL.of (s' _ _ hR9), f6, _, rfl, _, rfl, _, _, _, _, rfl, rfl, SqL.of (s' _ _ hY9), at_map f4, (by show 2 ≤ sizeLine; decide), fun q' hq' => cont _ _ ((Same.new hq') _ _ h') ?_⟩
      have ne : q' ≠ ac := Ne.symm (ne_of_none h' hq')
      refine ⟨es ++ [q'], by rw [List.map_append]; rfl, (s'.put hq').wr hac, by rw [upd_same, List.map_append]; rfl, ?_⟩
      rw [List.take_add_one, f2]
      exact Paired.snoc (paired_imp (fun c v z => ⟨z.1, by rw [upd_ne z.1]; exact (Same.new hq') _ _ z.2⟩) p') ⟨ne, by rw [upd_ne ne]; exact upd_same⟩
    rintro ys Hb ⟨es, rfl, sb, hb', pb⟩
    rw [show ms.length = ws.length by omega, List.take_length] at pb
    have lt2 : ∀ {H0 : Hp} {p0 : Addr} {ls : List Addr} {us2 : List (Int × Int)}, H0 p0 = some (.lst (ls.map V.ref)) → PySem.Paired (fun c (w : Int × Int) => H0 c = some (.tup [.int w.2, .int w.1])) ls us2 → SqLT K H0 p0 (us2.map (fun w : Int × Int => [w.2, w.1])) := by
      intro H0 p0 ls us2 h0 pp
      refine ⟨ls, SqL.of h0, ?_⟩
      have gen : ∀ {l : List Addr} {z : List (Int × Int)}, PySem.Paired (fun c (w : Int × Int) => H0 c = some (.tup [.int w.2, .int w.1])) l z → PySem.Paired (fun b (ns : List Int) => SqT K H0 b (ns.map V.int)) l (z.map (fun w : Int × Int => [w.2, w.1])) := by
        intro l z p
        induction p with
        | nil => exact .nil
        | cons x y ih => exact .cons (SqT.of x) ih
      exact gen pp
    have hWb := sb _ _ hW9
    have pWb : PySem.Paired (fun c (w : Int × Int) => Hb c = some (.tup [.int w.2, .int w.1])) as ws := paired_imp (fun _ _ z => sb _ _ z) pW9
    have hVb := sb _ _ hV
    have pVb : PySem.Paired (fun c (w : Int × Int) => Hb c = some (.tup [.int w.2, .int w.1])) cs vs2 := paired_imp (fun _ _ z => sb _ _ z) pV
    have pb2 : PySem.Paired (fun c (w : Int × Int) => Hb c = some (.tup [.int w.2, .int w.1])) es ws := paired_imp (fun _ _ z => z.2) pb
    refine ⟨pP, ac, _, _, rfl, rfl, lt2 hWb pWb, lt2 hb' pb2, _, rfl, iteNS rfl ?_⟩
    refine ⟨_, rfl, _, rfl, pK, pP, _, _, rfl, SqL.of hVb, SqL.of hWb, for_zip (K := K) (a := pK) (b := pP) (xs := cs.map V.ref) (ys := as.map V.ref) (fun i σ H' => ∃ v13 v14 : Option V, σ = [some (.ref a), some (.int bells), some (.int late), some (.int cell), some (.int turns), some (.int (cnt turns bells late)), some (.ref p3), some (.ref pm), some (.ref pr), some (.ref pq), some (.int (turns + late)), some (.ref pP), some (.ref pK), v13, v14] ∧ Same Hb H') ⟨none, none, rfl, Same.refl _⟩ (fun i σ H' ⟨_, _, _, s'⟩ => ⟨SqL.of (s' _ _ hVb), SqL.of (s' _ _ hWb)⟩) ?_ ?_⟩
    · rintro k xv yv t0 σ H' hxv hyv ⟨v13, v14, rfl, s'⟩ ht0
      rw [List.getElem?_map] at hxv hyv
      obtain ⟨d, hd, rfl⟩ := Option.map_eq_some_iff.mp hxv
      obtain ⟨c, hc, rfl⟩ := Option.map_eq_some_iff.mp hyv
      have hk : k < ms.length := by have := (List.getElem?_eq_some_iff.mp hd).1; omega
      obtain ⟨bs, w, v, m, _, f2, f3, _, f5, _, f7, f8, f9⟩ := facts k hk
      obtain ⟨u, hu1, hcu⟩ := paired_get pWb hc
      obtain ⟨u2, hu2, hdu⟩ := paired_get pVb hd
      rw [f2] at hu1
      rw [f3] at hu2
      cases hu1
      cases hu2
      have s9 : Same Hb (upd H' t0 (.tup [V.ref d, V.ref c])) := s'.put ht0
      have ht9 : (upd H' t0 (.tup [V.ref d, V.ref c])) t0 = some (.tup [V.ref d, V.ref c]) := upd_same
      generalize upd H' t0 (.tup [V.ref d, V.ref c]) = Hd at s9 ht9 ⊢
      have hc9 := SqT.of (K := K) (s9 _ _ hcu)
      have hd9 := SqT.of (K := K) (s9 _ _ hdu)
      refine ⟨t0, _, rfl, SqT.of ht9, rfl, _, _, rfl, _, _, rfl, rfl, ?_⟩
      refine ⟨_, rfl, _, _, _, _, rfl, rfl, hd9, rfl, _, rfl, _, _, _, _, rfl, rfl, hc9, rfl, _, _, rfl, rfl, _, rfl, iteNS f5 ?_⟩
      refine ⟨_, rfl, _, _, _, _, rfl, rfl, hd9, rfl, _, rfl, _, _, _, _, rfl, rfl, hc9, rfl, _, _, rfl, rfl, _, rfl, ifF (by omega) ?_⟩
      refine ⟨_, rfl, _, _, _, _, rfl, rfl, hd9, rfl, _, rfl, _, _, rfl, rfl, ⟨hL, bits_mono wb (by decide)⟩, _, rfl, _, _, _, _, rfl, rfl, hc9, rfl, _, rfl, _, _, rfl, rfl, ⟨hL, bits_mono wb (by decide)⟩, _, _, rfl, rfl, _, rfl, iteNS (by rw [f8, f9]) ?_⟩
      exact ⟨_, _, rfl, s9⟩
    · rintro σ H' ⟨v13, v14, rfl, _⟩
      exact q _
end
theorem of_len0 {α : Type} {F : List α → Prop} {us : List α} (h : us.length = 0) (k : F []) : F us := by
  cases us with
  | nil => exact k
  | cons a r => cases h
theorem of_len1 {α : Type} {F : List α → Prop} {us : List α} (h : us.length = 1) (k : ∀ a, F [a]) : F us := by
  cases us with
  | nil => cases h
  | cons a r => exact of_len0 (F := fun r => F (a :: r)) (Nat.succ.inj h) (k a)
theorem of_len2 {α : Type} {F : List α → Prop} {us : List α} (h : us.length = 2) (k : ∀ a b, F [a, b]) : F us := by
  cases us with
  | nil => cases h
  | cons a r => exact of_len1 (F := fun r => F (a :: r)) (Nat.succ.inj h) (k a)
theorem of_len3 {α : Type} {F : List α → Prop} {us : List α} (h : us.length = 3) (k : ∀ a b c, F [a, b, c]) : F us := by
  cases us with
  | nil => cases h
  | cons a r => exact of_len2 (F := fun r => F (a :: r)) (Nat.succ.inj h) (k a)
theorem of_len4 {α : Type} {F : List α → Prop} {us : List α} (h : us.length = 4) (k : ∀ a b c d, F [a, b, c, d]) : F us := by
  cases us with
  | nil => cases h
  | cons a r => exact of_len3 (F := fun r => F (a :: r)) (Nat.succ.inj h) (k a)
theorem of_len5 {α : Type} {F : List α → Prop} {us : List α} (h : us.length = 5) (k : ∀ a b c d e, F [a, b, c, d, e]) : F us := by
  cases us with
  | nil => cases h
  | cons a r => exact of_len4 (F := fun r => F (a :: r)) (Nat.succ.inj h) (k a)
theorem binds_len1 {fd : FuncData} {ps : List Str} {us : List Value} (h : us.length = 1) (k : ∀ a, bindArgs fd ⟨[a], []⟩ = pure (ps.zip [a])) : bindArgs fd ⟨us, []⟩ = pure (ps.zip us) := of_len1 (F := fun us => bindArgs fd ⟨us, []⟩ = pure (ps.zip us)) h k
theorem binds_len2 {fd : FuncData} {ps : List Str} {us : List Value} (h : us.length = 2) (k : ∀ a b, bindArgs fd ⟨[a, b], []⟩ = pure (ps.zip [a, b])) : bindArgs fd ⟨us, []⟩ = pure (ps.zip us) := of_len2 (F := fun us => bindArgs fd ⟨us, []⟩ = pure (ps.zip us)) h k
theorem binds_len3 {fd : FuncData} {ps : List Str} {us : List Value} (h : us.length = 3) (k : ∀ a b c, bindArgs fd ⟨[a, b, c], []⟩ = pure (ps.zip [a, b, c])) : bindArgs fd ⟨us, []⟩ = pure (ps.zip us) := of_len3 (F := fun us => bindArgs fd ⟨us, []⟩ = pure (ps.zip us)) h k
theorem binds_len4 {fd : FuncData} {ps : List Str} {us : List Value} (h : us.length = 4) (k : ∀ a b c d, bindArgs fd ⟨[a, b, c, d], []⟩ = pure (ps.zip [a, b, c, d])) : bindArgs fd ⟨us, []⟩ = pure (ps.zip us) := of_len4 (F := fun us => bindArgs fd ⟨us, []⟩ = pure (ps.zip us)) h k
theorem binds_len5 {fd : FuncData} {ps : List Str} {us : List Value} (h : us.length = 5) (k : ∀ a b c d e, bindArgs fd ⟨[a, b, c, d, e], []⟩ = pure (ps.zip [a, b, c, d, e])) : bindArgs fd ⟨us, []⟩ = pure (ps.zip us) := of_len5 (F := fun us => bindArgs fd ⟨us, []⟩ = pure (ps.zip us)) h k
theorem all_mk {l : PySem.W.OpenLaw} (hP : l.prog.given.tree = none) {w : World} {K : PySem.W.Frag} {h : Heap} {mg : Str → Option Value} {fa : Addr} (X : K.In h) (G : h.Ns mainGlobals mg) (hfa : mg "law" = some (.ref fa))
    {f0 : Addr} {od0 an0 : Option Addr} {sl0 : Array (Option Value)} {oc0 kV0 dc0 pm0 cd0 ct0 : Value}
    (a0 : PySem.W.nsIn K mainGlobals "choose" = some (some (.ref f0))) (l0 : K.lookup f0 = some ⟨oc0, od0, .func (PySem.W.fnOf "choose" "choose" (defArgs st_choose) (defBody st_choose) (defScope st_choose) .none kV0 dc0 pm0 an0 cd0 ct0), sl0⟩) (c0 : PySem.W.codeIn K cd0 "choose" = true) (k0 : PySem.W.keepIn K (.ref f0) = true)
    {f1 : Addr} {od1 an1 : Option Addr} {sl1 : Array (Option Value)} {oc1 kV1 dc1 pm1 cd1 ct1 : Value}
    (a1 : PySem.W.nsIn K mainGlobals "top_from" = some (some (.ref f1))) (l1 : K.lookup f1 = some ⟨oc1, od1, .func (PySem.W.fnOf "top_from" "top_from" (defArgs st_top_from) (defBody st_top_from) (defScope st_top_from) .none kV1 dc1 pm1 an1 cd1 ct1), sl1⟩) (c1 : PySem.W.codeIn K cd1 "top_from" = true) (k1 : PySem.W.keepIn K (.ref f1) = true)
    {f2 : Addr} {od2 an2 : Option Addr} {sl2 : Array (Option Value)} {oc2 kV2 dc2 pm2 cd2 ct2 : Value}
    (a2 : PySem.W.nsIn K mainGlobals "above_top" = some (some (.ref f2))) (l2 : K.lookup f2 = some ⟨oc2, od2, .func (PySem.W.fnOf "above_top" "above_top" (defArgs st_above_top) (defBody st_above_top) (defScope st_above_top) .none kV2 dc2 pm2 an2 cd2 ct2), sl2⟩) (c2 : PySem.W.codeIn K cd2 "above_top" = true) (k2 : PySem.W.keepIn K (.ref f2) = true)
    {f3 : Addr} {od3 an3 : Option Addr} {sl3 : Array (Option Value)} {oc3 kV3 dc3 pm3 cd3 ct3 : Value}
    (a3 : PySem.W.nsIn K mainGlobals "rounded_up" = some (some (.ref f3))) (l3 : K.lookup f3 = some ⟨oc3, od3, .func (PySem.W.fnOf "rounded_up" "rounded_up" (defArgs st_rounded_up) (defBody st_rounded_up) (defScope st_rounded_up) .none kV3 dc3 pm3 an3 cd3 ct3), sl3⟩) (c3 : PySem.W.codeIn K cd3 "rounded_up" = true) (k3 : PySem.W.keepIn K (.ref f3) = true)
    {f4 : Addr} {od4 an4 : Option Addr} {sl4 : Array (Option Value)} {oc4 kV4 dc4 pm4 cd4 ct4 : Value}
    (a4 : PySem.W.nsIn K mainGlobals "box_of" = some (some (.ref f4))) (l4 : K.lookup f4 = some ⟨oc4, od4, .func (PySem.W.fnOf "box_of" "box_of" (defArgs st_box_of) (defBody st_box_of) (defScope st_box_of) .none kV4 dc4 pm4 an4 cd4 ct4), sl4⟩) (c4 : PySem.W.codeIn K cd4 "box_of" = true) (k4 : PySem.W.keepIn K (.ref f4) = true)
    {f5 : Addr} {od5 an5 : Option Addr} {sl5 : Array (Option Value)} {oc5 kV5 dc5 pm5 cd5 ct5 : Value}
    (a5 : PySem.W.nsIn K mainGlobals "bell_row" = some (some (.ref f5))) (l5 : K.lookup f5 = some ⟨oc5, od5, .func (PySem.W.fnOf "bell_row" "bell_row" (defArgs st_bell_row) (defBody st_bell_row) (defScope st_bell_row) .none kV5 dc5 pm5 an5 cd5 ct5), sl5⟩) (c5 : PySem.W.codeIn K cd5 "bell_row" = true) (k5 : PySem.W.keepIn K (.ref f5) = true)
    {f6 : Addr} {od6 an6 : Option Addr} {sl6 : Array (Option Value)} {oc6 kV6 dc6 pm6 cd6 ct6 : Value}
    (a6 : PySem.W.nsIn K mainGlobals "heard_box" = some (some (.ref f6))) (l6 : K.lookup f6 = some ⟨oc6, od6, .func (PySem.W.fnOf "heard_box" "heard_box" (defArgs st_heard_box) (defBody st_heard_box) (defScope st_heard_box) .none kV6 dc6 pm6 an6 cd6 ct6), sl6⟩) (c6 : PySem.W.codeIn K cd6 "heard_box" = true) (k6 : PySem.W.keepIn K (.ref f6) = true)
    {f7 : Addr} {od7 an7 : Option Addr} {sl7 : Array (Option Value)} {oc7 kV7 dc7 pm7 cd7 ct7 : Value}
    (a7 : PySem.W.nsIn K mainGlobals "box_count" = some (some (.ref f7))) (l7 : K.lookup f7 = some ⟨oc7, od7, .func (PySem.W.fnOf "box_count" "box_count" (defArgs st_box_count) (defBody st_box_count) (defScope st_box_count) .none kV7 dc7 pm7 an7 cd7 ct7), sl7⟩) (c7 : PySem.W.codeIn K cd7 "box_count" = true) (k7 : PySem.W.keepIn K (.ref f7) = true)
    {f8 : Addr} {od8 an8 : Option Addr} {sl8 : Array (Option Value)} {oc8 kV8 dc8 pm8 cd8 ct8 : Value}
    (a8 : PySem.W.nsIn K mainGlobals "greatest_part" = some (some (.ref f8))) (l8 : K.lookup f8 = some ⟨oc8, od8, .func (PySem.W.fnOf "greatest_part" "greatest_part" (defArgs st_greatest_part) (defBody st_greatest_part) (defScope st_greatest_part) .none kV8 dc8 pm8 an8 cd8 ct8), sl8⟩) (c8 : PySem.W.codeIn K cd8 "greatest_part" = true) (k8 : PySem.W.keepIn K (.ref f8) = true)
    {f9 : Addr} {od9 an9 : Option Addr} {sl9 : Array (Option Value)} {oc9 kV9 dc9 pm9 cd9 ct9 : Value}
    (a9 : PySem.W.nsIn K mainGlobals "box_number" = some (some (.ref f9))) (l9 : K.lookup f9 = some ⟨oc9, od9, .func (PySem.W.fnOf "box_number" "box_number" (defArgs st_box_number) (defBody st_box_number) (defScope st_box_number) .none kV9 dc9 pm9 an9 cd9 ct9), sl9⟩) (c9 : PySem.W.codeIn K cd9 "box_number" = true) (k9 : PySem.W.keepIn K (.ref f9) = true)
    {f10 : Addr} {od10 an10 : Option Addr} {sl10 : Array (Option Value)} {oc10 kV10 dc10 pm10 cd10 ct10 : Value}
    (a10 : PySem.W.nsIn K mainGlobals "box_of_message" = some (some (.ref f10))) (l10 : K.lookup f10 = some ⟨oc10, od10, .func (PySem.W.fnOf "box_of_message" "box_of_message" (defArgs st_box_of_message) (defBody st_box_of_message) (defScope st_box_of_message) .none kV10 dc10 pm10 an10 cd10 ct10), sl10⟩) (c10 : PySem.W.codeIn K cd10 "box_of_message" = true) (k10 : PySem.W.keepIn K (.ref f10) = true)
    {f11 : Addr} {od11 an11 : Option Addr} {sl11 : Array (Option Value)} {oc11 kV11 dc11 pm11 cd11 ct11 : Value}
    (a11 : PySem.W.nsIn K mainGlobals "written" = some (some (.ref f11))) (l11 : K.lookup f11 = some ⟨oc11, od11, .func (PySem.W.fnOf "written" "written" (defArgs st_written) (defBody st_written) (defScope st_written) .none kV11 dc11 pm11 an11 cd11 ct11), sl11⟩) (c11 : PySem.W.codeIn K cd11 "written" = true) (k11 : PySem.W.keepIn K (.ref f11) = true)
    {f12 : Addr} {od12 an12 : Option Addr} {sl12 : Array (Option Value)} {oc12 kV12 dc12 pm12 cd12 ct12 : Value}
    (a12 : PySem.W.nsIn K mainGlobals "read" = some (some (.ref f12))) (l12 : K.lookup f12 = some ⟨oc12, od12, .func (PySem.W.fnOf "read" "read" (defArgs st_read) (defBody st_read) (defScope st_read) .none kV12 dc12 pm12 an12 cd12 ct12), sl12⟩) (c12 : PySem.W.codeIn K cd12 "read" = true) (k12 : PySem.W.keepIn K (.ref f12) = true)
    {f13 : Addr} {od13 an13 : Option Addr} {sl13 : Array (Option Value)} {oc13 kV13 dc13 pm13 cd13 ct13 : Value}
    (a13 : PySem.W.nsIn K mainGlobals "refuse_silent" = some (some (.ref f13))) (l13 : K.lookup f13 = some ⟨oc13, od13, .func (PySem.W.fnOf "refuse_silent" "refuse_silent" (defArgs st_refuse_silent) (defBody st_refuse_silent) (defScope st_refuse_silent) .none kV13 dc13 pm13 an13 cd13 ct13), sl13⟩) (c13 : PySem.W.codeIn K cd13 "refuse_silent" = true) (k13 : PySem.W.keepIn K (.ref f13) = true)
    {f14 : Addr} {od14 an14 : Option Addr} {sl14 : Array (Option Value)} {oc14 kV14 dc14 pm14 cd14 ct14 : Value}
    (a14 : PySem.W.nsIn K mainGlobals "rung" = some (some (.ref f14))) (l14 : K.lookup f14 = some ⟨oc14, od14, .func (PySem.W.fnOf "rung" "rung" (defArgs st_rung) (defBody st_rung) (defScope st_rung) .none kV14 dc14 pm14 an14 cd14 ct14), sl14⟩) (c14 : PySem.W.codeIn K cd14 "rung" = true) (k14 : PySem.W.keepIn K (.ref f14) = true)
    {f15 : Addr} {od15 an15 : Option Addr} {sl15 : Array (Option Value)} {oc15 kV15 dc15 pm15 cd15 ct15 : Value}
    (a15 : PySem.W.nsIn K mainGlobals "by_messages" = some (some (.ref f15))) (l15 : K.lookup f15 = some ⟨oc15, od15, .func (PySem.W.fnOf "by_messages" "by_messages" (defArgs st_by_messages) (defBody st_by_messages) (defScope st_by_messages) .none kV15 dc15 pm15 an15 cd15 ct15), sl15⟩) (c15 : PySem.W.codeIn K cd15 "by_messages" = true) (k15 : PySem.W.keepIn K (.ref f15) = true)
    {f16 : Addr} {od16 an16 : Option Addr} {sl16 : Array (Option Value)} {oc16 kV16 dc16 pm16 cd16 ct16 : Value}
    (a16 : PySem.W.nsIn K mainGlobals "talk_heard" = some (some (.ref f16))) (l16 : K.lookup f16 = some ⟨oc16, od16, .func (PySem.W.fnOf "talk_heard" "talk_heard" (defArgs st_talk_heard) (defBody st_talk_heard) (defScope st_talk_heard) .none kV16 dc16 pm16 an16 cd16 ct16), sl16⟩) (c16 : PySem.W.codeIn K cd16 "talk_heard" = true) (k16 : PySem.W.keepIn K (.ref f16) = true)
    {f17 : Addr} {od17 an17 : Option Addr} {sl17 : Array (Option Value)} {oc17 kV17 dc17 pm17 cd17 ct17 : Value}
    (a17 : PySem.W.nsIn K mainGlobals "_law_cell_at" = some (some (.ref f17))) (l17 : K.lookup f17 = some ⟨oc17, od17, .func (PySem.W.fnOf "_law_cell_at" "_law_cell_at" (defArgs st__law_cell_at) (defBody st__law_cell_at) (defScope st__law_cell_at) .none kV17 dc17 pm17 an17 cd17 ct17), sl17⟩) (c17 : PySem.W.codeIn K cd17 "_law_cell_at" = true) (k17 : PySem.W.keepIn K (.ref f17) = true)
    {f18 : Addr} {od18 an18 : Option Addr} {sl18 : Array (Option Value)} {oc18 kV18 dc18 pm18 cd18 ct18 : Value}
    (a18 : PySem.W.nsIn K mainGlobals "_law_whole" = some (some (.ref f18))) (l18 : K.lookup f18 = some ⟨oc18, od18, .func (PySem.W.fnOf "_law_whole" "_law_whole" (defArgs st__law_whole) (defBody st__law_whole) (defScope st__law_whole) .none kV18 dc18 pm18 an18 cd18 ct18), sl18⟩) (c18 : PySem.W.codeIn K cd18 "_law_whole" = true) (k18 : PySem.W.keepIn K (.ref f18) = true)
    {f19 : Addr} {od19 an19 : Option Addr} {sl19 : Array (Option Value)} {oc19 kV19 dc19 pm19 cd19 ct19 : Value}
    (a19 : PySem.W.nsIn K mainGlobals "_law_late" = some (some (.ref f19))) (l19 : K.lookup f19 = some ⟨oc19, od19, .func (PySem.W.fnOf "_law_late" "_law_late" (defArgs st__law_late) (defBody st__law_late) (defScope st__law_late) .none kV19 dc19 pm19 an19 cd19 ct19), sl19⟩) (c19 : PySem.W.codeIn K cd19 "_law_late" = true) (k19 : PySem.W.keepIn K (.ref f19) = true)
    {f20 : Addr} {od20 an20 : Option Addr} {sl20 : Array (Option Value)} {oc20 kV20 dc20 pm20 cd20 ct20 : Value}
    (a20 : PySem.W.nsIn K mainGlobals "_law_told_in" = some (some (.ref f20))) (l20 : K.lookup f20 = some ⟨oc20, od20, .func (PySem.W.fnOf "_law_told_in" "_law_told_in" (defArgs st__law_told_in) (defBody st__law_told_in) (defScope st__law_told_in) .none kV20 dc20 pm20 an20 cd20 ct20), sl20⟩) (c20 : PySem.W.codeIn K cd20 "_law_told_in" = true) (k20 : PySem.W.keepIn K (.ref f20) = true)
    {f21 : Addr} {od21 an21 : Option Addr} {sl21 : Array (Option Value)} {oc21 kV21 dc21 pm21 cd21 ct21 : Value}
    (a21 : PySem.W.nsIn K mainGlobals "law" = some (some (.ref f21))) (l21 : K.lookup f21 = some ⟨oc21, od21, .func (PySem.W.fnOf "law" "law" (defArgs st_law) (defBody st_law) (defScope st_law) .none kV21 dc21 pm21 an21 cd21 ct21), sl21⟩) (c21 : PySem.W.codeIn K cd21 "law" = true) (k21 : PySem.W.keepIn K (.ref f21) = true)
    (z_range : PySem.W.nsIn K mainGlobals "range" = some none)
    (z_isinstance : PySem.W.nsIn K mainGlobals "isinstance" = some none)
    (z_int : PySem.W.nsIn K mainGlobals "int" = some none)
    (z_bool : PySem.W.nsIn K mainGlobals "bool" = some none)
    (z_len : PySem.W.nsIn K mainGlobals "len" = some none)
    (z_list : PySem.W.nsIn K mainGlobals "list" = some none)
    (z_min : PySem.W.nsIn K mainGlobals "min" = some none)
    (z_max : PySem.W.nsIn K mainGlobals "max" = some none)
    (z_enumerate : PySem.W.nsIn K mainGlobals "enumerate" = some none)
    (z_sum : PySem.W.nsIn K mainGlobals "sum" = some none)
    (z_all : PySem.W.nsIn K mainGlobals "all" = some none)
    (z_ValueError : PySem.W.nsIn K mainGlobals "ValueError" = some none)
    (z_tuple : PySem.W.nsIn K mainGlobals "tuple" = some none)
    (z_zip : PySem.W.nsIn K mainGlobals "zip" = some none)
    (z_sorted : PySem.W.nsIn K mainGlobals "sorted" = some none)
    {C_BellError : Addr} (m_BellError : PySem.W.nsIn K mainGlobals "BellError" = some (some (.ref C_BellError)))
    {C_NoRow : Addr} (m_NoRow : PySem.W.nsIn K mainGlobals "NoRow" = some (some (.ref C_NoRow)))
    {C_NoReading : Addr} (m_NoReading : PySem.W.nsIn K mainGlobals "NoReading" = some (some (.ref C_NoReading)))
    {C_TooGreat : Addr} (m_TooGreat : PySem.W.nsIn K mainGlobals "TooGreat" = some (some (.ref C_TooGreat)))
    {C_Hearer : Addr} (m_Hearer : PySem.W.nsIn K mainGlobals "Hearer" = some (some (.ref C_Hearer)))
    {C_KeenHearer : Addr} (m_KeenHearer : PySem.W.nsIn K mainGlobals "KeenHearer" = some (some (.ref C_KeenHearer)))
    (x_NoRow : PySem.W.excIn K C_NoRow bmV "ValueError.__new__" = true)
    (x_NoReading : PySem.W.excIn K C_NoReading bmV "ValueError.__new__" = true)
    (o_pg_Hearer : PySem.W.plainGet K C_Hearer Str.empty = true)
    (o_hd_Hearer : PySem.W.hasDictIn K C_Hearer = true)
    (o_po_Hearer : PySem.W.plainOver K C_Hearer = true)
    (o_sa_Hearer : PySem.W.findIn K (.ref C_Hearer) "__setattr__" = some (some (.builtin "object.__setattr__")))
    (o_mk_Hearer : PySem.W.makesIn K C_Hearer = true)
    (o_kc_Hearer : PySem.W.keepIn K (.ref C_Hearer) = true)
    (o_n_Hearer_turns : PySem.W.findIn K (.ref C_Hearer) "turns" = some none)
    (o_n_Hearer_bells : PySem.W.findIn K (.ref C_Hearer) "bells" = some none)
    (o_n_Hearer_late : PySem.W.findIn K (.ref C_Hearer) "late" = some none)
    (o_n_Hearer_now : PySem.W.findIn K (.ref C_Hearer) "now" = some none)
    (o_n_Hearer_reading : PySem.W.findIn K (.ref C_Hearer) "reading" = some none)
    (o_n_Hearer_known : PySem.W.findIn K (.ref C_Hearer) "known" = some none)
    (o_pg_KeenHearer : PySem.W.plainGet K C_KeenHearer Str.empty = true)
    (o_hd_KeenHearer : PySem.W.hasDictIn K C_KeenHearer = true)
    (o_po_KeenHearer : PySem.W.plainOver K C_KeenHearer = true)
    (o_sa_KeenHearer : PySem.W.findIn K (.ref C_KeenHearer) "__setattr__" = some (some (.builtin "object.__setattr__")))
    (o_mk_KeenHearer : PySem.W.makesIn K C_KeenHearer = true)
    (o_kc_KeenHearer : PySem.W.keepIn K (.ref C_KeenHearer) = true)
    (o_n_KeenHearer_turns : PySem.W.findIn K (.ref C_KeenHearer) "turns" = some none)
    (o_n_KeenHearer_bells : PySem.W.findIn K (.ref C_KeenHearer) "bells" = some none)
    (o_n_KeenHearer_late : PySem.W.findIn K (.ref C_KeenHearer) "late" = some none)
    (o_n_KeenHearer_now : PySem.W.findIn K (.ref C_KeenHearer) "now" = some none)
    (o_n_KeenHearer_reading : PySem.W.findIn K (.ref C_KeenHearer) "reading" = some none)
    (o_n_KeenHearer_known : PySem.W.findIn K (.ref C_KeenHearer) "known" = some none)
    {fm_Hearer_init : Addr} {odm_Hearer_init anm_Hearer_init : Option Addr} {slm_Hearer_init : Array (Option Value)} {ocm_Hearer_init kVm_Hearer_init dcm_Hearer_init pmm_Hearer_init cdm_Hearer_init ctm_Hearer_init : Value}
    (o_a_Hearer_Hearer_init : PySem.W.findIn K (.ref C_Hearer) "__init__" = some (some (.ref fm_Hearer_init)))
    (o_a_KeenHearer_Hearer_init : PySem.W.findIn K (.ref C_KeenHearer) "__init__" = some (some (.ref fm_Hearer_init)))
    (o_l_Hearer_init : K.lookup fm_Hearer_init = some ⟨ocm_Hearer_init, odm_Hearer_init, .func (PySem.W.fnOf "__init__" "Hearer.__init__" (defArgs st_Hearer_init) (defBody st_Hearer_init) (defScope st_Hearer_init) .none kVm_Hearer_init dcm_Hearer_init pmm_Hearer_init anm_Hearer_init cdm_Hearer_init ctm_Hearer_init), slm_Hearer_init⟩) (o_c_Hearer_init : PySem.W.codeIn K cdm_Hearer_init "Hearer.__init__" = true) (o_k_Hearer_init : PySem.W.keepIn K (.ref fm_Hearer_init) = true) (o_f_Hearer_init : PySem.W.isFn K (.ref fm_Hearer_init) = true)
    {fm_Hearer_turn : Addr} {odm_Hearer_turn anm_Hearer_turn : Option Addr} {slm_Hearer_turn : Array (Option Value)} {ocm_Hearer_turn kVm_Hearer_turn dcm_Hearer_turn pmm_Hearer_turn cdm_Hearer_turn ctm_Hearer_turn : Value} {Tm_Hearer_turn : Addr} {tcm_Hearer_turn : Value} {tdm_Hearer_turn : Option Addr} {tsm_Hearer_turn : Array (Option Value)} {tt0_Hearer_turn : Tok}
    (o_a_Hearer_Hearer_turn : PySem.W.findIn K (.ref C_Hearer) "turn" = some (some (.ref fm_Hearer_turn)))
    (o_a_KeenHearer_Hearer_turn : PySem.W.findIn K (.ref C_KeenHearer) "turn" = some (some (.ref fm_Hearer_turn)))
    (o_l_Hearer_turn : K.lookup fm_Hearer_turn = some ⟨ocm_Hearer_turn, odm_Hearer_turn, .func (PySem.W.fnOf "turn" "Hearer.turn" (defArgs st_Hearer_turn) (defBody st_Hearer_turn) (defScope st_Hearer_turn) (.ref Tm_Hearer_turn) kVm_Hearer_turn dcm_Hearer_turn pmm_Hearer_turn anm_Hearer_turn cdm_Hearer_turn ctm_Hearer_turn), slm_Hearer_turn⟩) (o_c_Hearer_turn : PySem.W.codeIn K cdm_Hearer_turn "Hearer.turn" = true) (o_k_Hearer_turn : PySem.W.keepIn K (.ref fm_Hearer_turn) = true) (o_f_Hearer_turn : PySem.W.isFn K (.ref fm_Hearer_turn) = true)
    (o_t_Hearer_turn : K.lookup Tm_Hearer_turn = some ⟨tcm_Hearer_turn, tdm_Hearer_turn, .seq #[.int 0 tt0_Hearer_turn], tsm_Hearer_turn⟩)
    {fm_Hearer_knows : Addr} {odm_Hearer_knows anm_Hearer_knows : Option Addr} {slm_Hearer_knows : Array (Option Value)} {ocm_Hearer_knows kVm_Hearer_knows dcm_Hearer_knows pmm_Hearer_knows cdm_Hearer_knows ctm_Hearer_knows : Value}
    (o_a_Hearer_Hearer_knows : PySem.W.findIn K (.ref C_Hearer) "knows" = some (some (.ref fm_Hearer_knows)))
    (o_l_Hearer_knows : K.lookup fm_Hearer_knows = some ⟨ocm_Hearer_knows, odm_Hearer_knows, .func (PySem.W.fnOf "knows" "Hearer.knows" (defArgs st_Hearer_knows) (defBody st_Hearer_knows) (defScope st_Hearer_knows) .none kVm_Hearer_knows dcm_Hearer_knows pmm_Hearer_knows anm_Hearer_knows cdm_Hearer_knows ctm_Hearer_knows), slm_Hearer_knows⟩) (o_c_Hearer_knows : PySem.W.codeIn K cdm_Hearer_knows "Hearer.knows" = true) (o_k_Hearer_knows : PySem.W.keepIn K (.ref fm_Hearer_knows) = true) (o_f_Hearer_knows : PySem.W.isFn K (.ref fm_Hearer_knows) = true)
    {fm_Hearer_earliest : Addr} {odm_Hearer_earliest anm_Hearer_earliest : Option Addr} {slm_Hearer_earliest : Array (Option Value)} {ocm_Hearer_earliest kVm_Hearer_earliest dcm_Hearer_earliest pmm_Hearer_earliest cdm_Hearer_earliest ctm_Hearer_earliest : Value}
    (o_a_Hearer_Hearer_earliest : PySem.W.findIn K (.ref C_Hearer) "earliest" = some (some (.ref fm_Hearer_earliest)))
    (o_a_KeenHearer_Hearer_earliest : PySem.W.findIn K (.ref C_KeenHearer) "earliest" = some (some (.ref fm_Hearer_earliest)))
    (o_l_Hearer_earliest : K.lookup fm_Hearer_earliest = some ⟨ocm_Hearer_earliest, odm_Hearer_earliest, .func (PySem.W.fnOf "earliest" "Hearer.earliest" (defArgs st_Hearer_earliest) (defBody st_Hearer_earliest) (defScope st_Hearer_earliest) .none kVm_Hearer_earliest dcm_Hearer_earliest pmm_Hearer_earliest anm_Hearer_earliest cdm_Hearer_earliest ctm_Hearer_earliest), slm_Hearer_earliest⟩) (o_c_Hearer_earliest : PySem.W.codeIn K cdm_Hearer_earliest "Hearer.earliest" = true) (o_k_Hearer_earliest : PySem.W.keepIn K (.ref fm_Hearer_earliest) = true) (o_f_Hearer_earliest : PySem.W.isFn K (.ref fm_Hearer_earliest) = true)
    {fm_Hearer_is_last_turn : Addr} {odm_Hearer_is_last_turn anm_Hearer_is_last_turn : Option Addr} {slm_Hearer_is_last_turn : Array (Option Value)} {ocm_Hearer_is_last_turn kVm_Hearer_is_last_turn dcm_Hearer_is_last_turn pmm_Hearer_is_last_turn cdm_Hearer_is_last_turn ctm_Hearer_is_last_turn : Value}
    (o_a_Hearer_Hearer_is_last_turn : PySem.W.findIn K (.ref C_Hearer) "is_last_turn" = some (some (.ref fm_Hearer_is_last_turn)))
    (o_a_KeenHearer_Hearer_is_last_turn : PySem.W.findIn K (.ref C_KeenHearer) "is_last_turn" = some (some (.ref fm_Hearer_is_last_turn)))
    (o_l_Hearer_is_last_turn : K.lookup fm_Hearer_is_last_turn = some ⟨ocm_Hearer_is_last_turn, odm_Hearer_is_last_turn, .func (PySem.W.fnOf "is_last_turn" "Hearer.is_last_turn" (defArgs st_Hearer_is_last_turn) (defBody st_Hearer_is_last_turn) (defScope st_Hearer_is_last_turn) .none kVm_Hearer_is_last_turn dcm_Hearer_is_last_turn pmm_Hearer_is_last_turn anm_Hearer_is_last_turn cdm_Hearer_is_last_turn ctm_Hearer_is_last_turn), slm_Hearer_is_last_turn⟩) (o_c_Hearer_is_last_turn : PySem.W.codeIn K cdm_Hearer_is_last_turn "Hearer.is_last_turn" = true) (o_k_Hearer_is_last_turn : PySem.W.keepIn K (.ref fm_Hearer_is_last_turn) = true) (o_f_Hearer_is_last_turn : PySem.W.isFn K (.ref fm_Hearer_is_last_turn) = true)
    {fm_Hearer_go_on : Addr} {odm_Hearer_go_on anm_Hearer_go_on : Option Addr} {slm_Hearer_go_on : Array (Option Value)} {ocm_Hearer_go_on kVm_Hearer_go_on dcm_Hearer_go_on pmm_Hearer_go_on cdm_Hearer_go_on ctm_Hearer_go_on : Value}
    (o_a_Hearer_Hearer_go_on : PySem.W.findIn K (.ref C_Hearer) "go_on" = some (some (.ref fm_Hearer_go_on)))
    (o_a_KeenHearer_Hearer_go_on : PySem.W.findIn K (.ref C_KeenHearer) "go_on" = some (some (.ref fm_Hearer_go_on)))
    (o_l_Hearer_go_on : K.lookup fm_Hearer_go_on = some ⟨ocm_Hearer_go_on, odm_Hearer_go_on, .func (PySem.W.fnOf "go_on" "Hearer.go_on" (defArgs st_Hearer_go_on) (defBody st_Hearer_go_on) (defScope st_Hearer_go_on) .none kVm_Hearer_go_on dcm_Hearer_go_on pmm_Hearer_go_on anm_Hearer_go_on cdm_Hearer_go_on ctm_Hearer_go_on), slm_Hearer_go_on⟩) (o_c_Hearer_go_on : PySem.W.codeIn K cdm_Hearer_go_on "Hearer.go_on" = true) (o_k_Hearer_go_on : PySem.W.keepIn K (.ref fm_Hearer_go_on) = true) (o_f_Hearer_go_on : PySem.W.isFn K (.ref fm_Hearer_go_on) = true)
    {fm_KeenHearer_knows : Addr} {odm_KeenHearer_knows anm_KeenHearer_knows : Option Addr} {slm_KeenHearer_knows : Array (Option Value)} {ocm_KeenHearer_knows kVm_KeenHearer_knows dcm_KeenHearer_knows pmm_KeenHearer_knows cdm_KeenHearer_knows ctm_KeenHearer_knows : Value}
    (o_a_KeenHearer_KeenHearer_knows : PySem.W.findIn K (.ref C_KeenHearer) "knows" = some (some (.ref fm_KeenHearer_knows)))
    (o_l_KeenHearer_knows : K.lookup fm_KeenHearer_knows = some ⟨ocm_KeenHearer_knows, odm_KeenHearer_knows, .func (PySem.W.fnOf "knows" "KeenHearer.knows" (defArgs st_KeenHearer_knows) (defBody st_KeenHearer_knows) (defScope st_KeenHearer_knows) .none kVm_KeenHearer_knows dcm_KeenHearer_knows pmm_KeenHearer_knows anm_KeenHearer_knows cdm_KeenHearer_knows ctm_KeenHearer_knows), slm_KeenHearer_knows⟩) (o_c_KeenHearer_knows : PySem.W.codeIn K cdm_KeenHearer_knows "KeenHearer.knows" = true) (o_k_KeenHearer_knows : PySem.W.keepIn K (.ref fm_KeenHearer_knows) = true) (o_f_KeenHearer_knows : PySem.W.isFn K (.ref fm_KeenHearer_knows) = true)
    : ∃ fd : FuncData, (∀ (s : Shared) (v : Value), BindsTo s fd ⟨[v], []⟩ [("script", v)]) ∧ ∀ base : Heap, K.In base → base.Ns mainGlobals mg → FnOk l.prog w K mg base CX0 44 fa fd ["script"] (spLaw K) := by
  have e := hfa.symm.trans (PySem.W.mg_of X G a21)
  cases e
  have D_choose : Def K mg "choose" st_choose ["n", "k"] := ⟨f0, _, fun_mk l0 c0 k0, (fun_mk (st := st_choose) l0 c0 k0).binds (ps := ["n", "k"]) (fun _ _ _ _ _ _ us hl => binds_len2 hl fun _ _ => rfl), PySem.W.mg_of X G a0⟩
  have D_top_from : Def K mg "top_from" st_top_from ["start", "k", "number"] := ⟨f1, _, fun_mk l1 c1 k1, (fun_mk (st := st_top_from) l1 c1 k1).binds (ps := ["start", "k", "number"]) (fun _ _ _ _ _ _ us hl => binds_len3 hl fun _ _ _ => rfl), PySem.W.mg_of X G a1⟩
  have D_above_top : Def K mg "above_top" st_above_top ["k", "number"] := ⟨f2, _, fun_mk l2 c2 k2, (fun_mk (st := st_above_top) l2 c2 k2).binds (ps := ["k", "number"]) (fun _ _ _ _ _ _ us hl => binds_len2 hl fun _ _ => rfl), PySem.W.mg_of X G a2⟩
  have D_rounded_up : Def K mg "rounded_up" st_rounded_up ["number", "divisor"] := ⟨f3, _, fun_mk l3 c3 k3, (fun_mk (st := st_rounded_up) l3 c3 k3).binds (ps := ["number", "divisor"]) (fun _ _ _ _ _ _ us hl => binds_len2 hl fun _ _ => rfl), PySem.W.mg_of X G a3⟩
  have D_box_of : Def K mg "box_of" st_box_of ["row", "late"] := ⟨f4, _, fun_mk l4 c4 k4, (fun_mk (st := st_box_of) l4 c4 k4).binds (ps := ["row", "late"]) (fun _ _ _ _ _ _ us hl => binds_len2 hl fun _ _ => rfl), PySem.W.mg_of X G a4⟩
  have D_bell_row : Def K mg "bell_row" st_bell_row ["box", "late"] := ⟨f5, _, fun_mk l5 c5 k5, (fun_mk (st := st_bell_row) l5 c5 k5).binds (ps := ["box", "late"]) (fun _ _ _ _ _ _ us hl => binds_len2 hl fun _ _ => rfl), PySem.W.mg_of X G a5⟩
  have D_heard_box : Def K mg "heard_box" st_heard_box ["reading", "late"] := ⟨f6, _, fun_mk l6 c6 k6, (fun_mk (st := st_heard_box) l6 c6 k6).binds (ps := ["reading", "late"]) (fun _ _ _ _ _ _ us hl => binds_len2 hl fun _ _ => rfl), PySem.W.mg_of X G a6⟩
  have D_box_count : Def K mg "box_count" st_box_count ["turns", "bells", "late"] := ⟨f7, _, fun_mk l7 c7 k7, (fun_mk (st := st_box_count) l7 c7 k7).binds (ps := ["turns", "bells", "late"]) (fun _ _ _ _ _ _ us hl => binds_len3 hl fun _ _ _ => rfl), PySem.W.mg_of X G a7⟩
  have D_greatest_part : Def K mg "greatest_part" st_greatest_part ["turns", "bells", "late"] := ⟨f8, _, fun_mk l8 c8 k8, (fun_mk (st := st_greatest_part) l8 c8 k8).binds (ps := ["turns", "bells", "late"]) (fun _ _ _ _ _ _ us hl => binds_len3 hl fun _ _ _ => rfl), PySem.W.mg_of X G a8⟩
  have D_box_number : Def K mg "box_number" st_box_number ["box"] := ⟨f9, _, fun_mk l9 c9 k9, (fun_mk (st := st_box_number) l9 c9 k9).binds (ps := ["box"]) (fun _ _ _ _ _ _ us hl => binds_len1 hl fun _ => rfl), PySem.W.mg_of X G a9⟩
  have D_box_of_message : Def K mg "box_of_message" st_box_of_message ["message", "bells"] := ⟨f10, _, fun_mk l10 c10 k10, (fun_mk (st := st_box_of_message) l10 c10 k10).binds (ps := ["message", "bells"]) (fun _ _ _ _ _ _ us hl => binds_len2 hl fun _ _ => rfl), PySem.W.mg_of X G a10⟩
  have D_written : Def K mg "written" st_written ["message", "turns", "bells", "late"] := ⟨f11, _, fun_mk l11 c11 k11, (fun_mk (st := st_written) l11 c11 k11).binds (ps := ["message", "turns", "bells", "late"]) (fun _ _ _ _ _ _ us hl => binds_len4 hl fun _ _ _ _ => rfl), PySem.W.mg_of X G a11⟩
  have D_read : Def K mg "read" st_read ["reading", "turns", "bells", "late"] := ⟨f12, _, fun_mk l12 c12 k12, (fun_mk (st := st_read) l12 c12 k12).binds (ps := ["reading", "turns", "bells", "late"]) (fun _ _ _ _ _ _ us hl => binds_len4 hl fun _ _ _ _ => rfl), PySem.W.mg_of X G a12⟩
  have D_refuse_silent : Def K mg "refuse_silent" st_refuse_silent ["turns", "bells"] := ⟨f13, _, fun_mk l13 c13 k13, (fun_mk (st := st_refuse_silent) l13 c13 k13).binds (ps := ["turns", "bells"]) (fun _ _ _ _ _ _ us hl => binds_len2 hl fun _ _ => rfl), PySem.W.mg_of X G a13⟩
  have D_rung : Def K mg "rung" st_rung ["messages", "turns", "bells", "late"] := ⟨f14, _, fun_mk l14 c14 k14, (fun_mk (st := st_rung) l14 c14 k14).binds (ps := ["messages", "turns", "bells", "late"]) (fun _ _ _ _ _ _ us hl => binds_len4 hl fun _ _ _ _ => rfl), PySem.W.mg_of X G a14⟩
  have D_by_messages : Def K mg "by_messages" st_by_messages ["reading", "turns", "late"] := ⟨f15, _, fun_mk l15 c15 k15, (fun_mk (st := st_by_messages) l15 c15 k15).binds (ps := ["reading", "turns", "late"]) (fun _ _ _ _ _ _ us hl => binds_len3 hl fun _ _ _ => rfl), PySem.W.mg_of X G a15⟩
  have D_talk_heard : Def K mg "talk_heard" st_talk_heard ["reading", "many", "turns", "bells", "late"] := ⟨f16, _, fun_mk l16 c16 k16, (fun_mk (st := st_talk_heard) l16 c16 k16).binds (ps := ["reading", "many", "turns", "bells", "late"]) (fun _ _ _ _ _ _ us hl => binds_len5 hl fun _ _ _ _ _ => rfl), PySem.W.mg_of X G a16⟩
  have D__law_cell_at : Def K mg "_law_cell_at" st__law_cell_at ["script", "k"] := ⟨f17, _, fun_mk l17 c17 k17, (fun_mk (st := st__law_cell_at) l17 c17 k17).binds (ps := ["script", "k"]) (fun _ _ _ _ _ _ us hl => binds_len2 hl fun _ _ => rfl), PySem.W.mg_of X G a17⟩
  have D__law_whole : Def K mg "_law_whole" st__law_whole ["found"] := ⟨f18, _, fun_mk l18 c18 k18, (fun_mk (st := st__law_whole) l18 c18 k18).binds (ps := ["found"]) (fun _ _ _ _ _ _ us hl => binds_len1 hl fun _ => rfl), PySem.W.mg_of X G a18⟩
  have D__law_late : Def K mg "_law_late" st__law_late ["told", "cells", "late"] := ⟨f19, _, fun_mk l19 c19 k19, (fun_mk (st := st__law_late) l19 c19 k19).binds (ps := ["told", "cells", "late"]) (fun _ _ _ _ _ _ us hl => binds_len3 hl fun _ _ _ => rfl), PySem.W.mg_of X G a19⟩
  have D__law_told_in : Def K mg "_law_told_in" st__law_told_in ["hearer", "reading", "turns"] := ⟨f20, _, fun_mk l20 c20 k20, (fun_mk (st := st__law_told_in) l20 c20 k20).binds (ps := ["hearer", "reading", "turns"]) (fun _ _ _ _ _ _ us hl => binds_len3 hl fun _ _ _ => rfl), PySem.W.mg_of X G a20⟩
  have O : Own K C_Hearer C_KeenHearer := ⟨⟨o_pg_Hearer, o_hd_Hearer, o_po_Hearer, o_sa_Hearer⟩, o_n_Hearer_turns, o_n_Hearer_bells, o_n_Hearer_late, o_n_Hearer_now, o_n_Hearer_reading, o_n_Hearer_known, ⟨o_pg_KeenHearer, o_hd_KeenHearer, o_po_KeenHearer, o_sa_KeenHearer⟩, o_n_KeenHearer_turns, o_n_KeenHearer_bells, o_n_KeenHearer_late, o_n_KeenHearer_now, o_n_KeenHearer_reading, o_n_KeenHearer_known, ⟨fm_Hearer_init, ⟨_, fund_mk o_l_Hearer_init o_c_Hearer_init, (fun_mk (st := st_Hearer_init) o_l_Hearer_init o_c_Hearer_init o_k_Hearer_init).binds (ps := ["self", "turns", "bells", "late"]) (fun _ _ _ _ _ _ us hl => binds_len4 hl fun _ _ _ _ => rfl)⟩, ⟨o_mk_Hearer, o_a_Hearer_Hearer_init, o_f_Hearer_init, o_kc_Hearer⟩, ⟨o_mk_KeenHearer, o_a_KeenHearer_Hearer_init, o_f_Hearer_init, o_kc_KeenHearer⟩⟩, ⟨fm_Hearer_turn, ⟨_, fund_mk o_l_Hearer_turn o_c_Hearer_turn, fun _ us X hl => match us, hl with | [_, _], _ => .of_defaults rfl (X _ _ o_t_Hearer_turn) rfl rfl rfl⟩, ⟨o_a_Hearer_Hearer_turn, o_f_Hearer_turn, o_k_Hearer_turn⟩, ⟨o_a_KeenHearer_Hearer_turn, o_f_Hearer_turn, o_k_Hearer_turn⟩⟩, ⟨fm_Hearer_knows, ⟨_, fund_mk o_l_Hearer_knows o_c_Hearer_knows, (fun_mk (st := st_Hearer_knows) o_l_Hearer_knows o_c_Hearer_knows o_k_Hearer_knows).binds (ps := ["self", "reading"]) (fun _ _ _ _ _ _ us hl => binds_len2 hl fun _ _ => rfl)⟩, ⟨o_a_Hearer_Hearer_knows, o_f_Hearer_knows, o_k_Hearer_knows⟩⟩, ⟨fm_Hearer_earliest, ⟨_, fund_mk o_l_Hearer_earliest o_c_Hearer_earliest, (fun_mk (st := st_Hearer_earliest) o_l_Hearer_earliest o_c_Hearer_earliest o_k_Hearer_earliest).binds (ps := ["self", "reading"]) (fun _ _ _ _ _ _ us hl => binds_len2 hl fun _ _ => rfl)⟩, ⟨o_a_Hearer_Hearer_earliest, o_f_Hearer_earliest, o_k_Hearer_earliest⟩, ⟨o_a_KeenHearer_Hearer_earliest, o_f_Hearer_earliest, o_k_Hearer_earliest⟩⟩, ⟨fm_Hearer_is_last_turn, ⟨_, fund_mk o_l_Hearer_is_last_turn o_c_Hearer_is_last_turn, (fun_mk (st := st_Hearer_is_last_turn) o_l_Hearer_is_last_turn o_c_Hearer_is_last_turn o_k_Hearer_is_last_turn).binds (ps := ["self"]) (fun _ _ _ _ _ _ us hl => binds_len1 hl fun _ => rfl)⟩, ⟨o_a_Hearer_Hearer_is_last_turn, o_f_Hearer_is_last_turn, o_k_Hearer_is_last_turn⟩, ⟨o_a_KeenHearer_Hearer_is_last_turn, o_f_Hearer_is_last_turn, o_k_Hearer_is_last_turn⟩⟩, ⟨fm_Hearer_go_on, ⟨_, fund_mk o_l_Hearer_go_on o_c_Hearer_go_on, (fun_mk (st := st_Hearer_go_on) o_l_Hearer_go_on o_c_Hearer_go_on o_k_Hearer_go_on).binds (ps := ["self", "reading", "known"]) (fun _ _ _ _ _ _ us hl => binds_len3 hl fun _ _ _ => rfl)⟩, ⟨o_a_Hearer_Hearer_go_on, o_f_Hearer_go_on, o_k_Hearer_go_on⟩, ⟨o_a_KeenHearer_Hearer_go_on, o_f_Hearer_go_on, o_k_Hearer_go_on⟩⟩, ⟨fm_KeenHearer_knows, ⟨_, fund_mk o_l_KeenHearer_knows o_c_KeenHearer_knows, (fun_mk (st := st_KeenHearer_knows) o_l_KeenHearer_knows o_c_KeenHearer_knows o_k_KeenHearer_knows).binds (ps := ["self", "reading"]) (fun _ _ _ _ _ _ us hl => binds_len2 hl fun _ _ => rfl)⟩, ⟨o_a_KeenHearer_KeenHearer_knows, o_f_KeenHearer_knows, o_k_KeenHearer_knows⟩⟩⟩
  have T : Txt K mg := ⟨PySem.W.mg_none_of X G z_range, PySem.W.mg_none_of X G z_isinstance, PySem.W.mg_none_of X G z_int, PySem.W.mg_none_of X G z_bool, PySem.W.mg_none_of X G z_len, PySem.W.mg_none_of X G z_list, PySem.W.mg_none_of X G z_min, PySem.W.mg_none_of X G z_max, PySem.W.mg_none_of X G z_enumerate, PySem.W.mg_none_of X G z_sum, PySem.W.mg_none_of X G z_all, PySem.W.mg_none_of X G z_ValueError, PySem.W.mg_none_of X G z_tuple, PySem.W.mg_none_of X G z_zip, PySem.W.mg_none_of X G z_sorted⟩
  exact ⟨PySem.W.fnOf "law" "law" (defArgs st_law) (defBody st_law) (defScope st_law) .none kV21 dc21 pm21 an21 cd21 ct21, fun s v => .of_eq rfl, fun base _ _ => ok_law hP (fun_mk l21 c21 k21) T D_choose D_top_from D_above_top D_rounded_up D_box_of D_bell_row D_heard_box D_box_count D_greatest_part D_box_number D_box_of_message D_written D_read D_refuse_silent D_rung D_by_messages D_talk_heard D__law_cell_at D__law_whole D__law_late D__law_told_in (PySem.W.mg_of X G m_BellError) (PySem.W.mg_of X G m_NoRow) (PySem.W.mg_of X G m_NoReading) (PySem.W.mg_of X G m_TooGreat) (PySem.W.mg_of X G m_Hearer) (PySem.W.mg_of X G m_KeenHearer) x_NoRow x_NoReading O⟩
theorem walk {l : PySem.W.OpenLaw} {q : Program} {loose : List Str} {XP : (Str → Option Value) → Heap → Prop} {YP : World → Heap → Prop} {d : DefRec} {K : Params → PySem.W.Frag} (hn : l.most = some 63) (hdf : d.params.defaults = []) (hq : PyProof.Rows.importsNone q = true)
    (hY : ∀ (w : World) (h : Heap), YP w h → (K w.params).In h)
    (F : ∀ (w : World) (mg : Str → Option Value) (fa : Addr) (h : Heap), (K w.params).In h → h.Ns mainGlobals mg → mg d.name = some (.ref fa) →
      ∃ fd : FuncData, (∀ (s : Shared) (u : Value), BindsTo s fd ⟨[u], []⟩ [("script", u)]) ∧ ∀ base : Heap, (K w.params).In base → base.Ns mainGlobals mg → FnOk l.prog w (K w.params) mg base CX0 44 fa fd ["script"] (spLaw (K w.params))) :
    PySem.W.WalkO q loose XP YP l.row.toRowW d [] (fun f vs => PySem.call f vs) :=
  L2.walk_of (n := 63) (k := 44) (x := "script") (CX := fun _ => CX0) (sp := fun w => spLaw (K w.params)) hn (by decide) hdf hq ⟨rfl, by decide, by decide⟩ hY F (fun _ _ a ns hl hbt _ hS => ⟨a, ns, rfl, hS, hl, fun _ => rfl⟩) fun _ _ _ _ _ z => z
end Bw
open PySem PySem.W PyProof.Rows
set_option maxRecDepth 100000 in
set_option maxHeartbeats 0 in
theorem PySem.Challenge.cw_bellwrite_k91_whole_heard_alike_holds : PySem.Challenge.rw_bellwrite_k91_whole_heard_alike.Holds := by
  w_on; o_law; k_head; (case hw => w_witness2)
  k_fill
  refine Bw.walk (l := PySem.Challenge.rw_bellwrite_k91_whole_heard_alike) rfl rfl (by decide +kernel) (fun w h Y => PySem.W.kIn_of Y) ?F
  case F =>
    intro w mg fa h KX G hmg
    refine' Bw.all_mk (l := PySem.Challenge.rw_bellwrite_k91_whole_heard_alike) rfl KX G hmg ?a0 ?l0 ?c0 ?k0 ?a1 ?l1 ?c1 ?k1 ?a2 ?l2 ?c2 ?k2 ?a3 ?l3 ?c3 ?k3 ?a4 ?l4 ?c4 ?k4 ?a5 ?l5 ?c5 ?k5 ?a6 ?l6 ?c6 ?k6 ?a7 ?l7 ?c7 ?k7 ?a8 ?l8 ?c8 ?k8 ?a9 ?l9 ?c9 ?k9 ?a10 ?l10 ?c10 ?k10 ?a11 ?l11 ?c11 ?k11 ?a12 ?l12 ?c12 ?k12 ?a13 ?l13 ?c13 ?k13 ?a14 ?l14 ?c14 ?k14 ?a15 ?l15 ?c15 ?k15 ?a16 ?l16 ?c16 ?k16 ?a17 ?l17 ?c17 ?k17 ?a18 ?l18 ?c18 ?k18 ?a19 ?l19 ?c19 ?k19 ?a20 ?l20 ?c20 ?k20 ?a21 ?l21 ?c21 ?k21 ?z_range ?z_isinstance ?z_int ?z_bool ?z_len ?z_list ?z_min ?z_max ?z_enumerate ?z_sum ?z_all ?z_ValueError ?z_tuple ?z_zip ?z_sorted ?m_BellError ?m_NoRow ?m_NoReading ?m_TooGreat ?m_Hearer ?m_KeenHearer ?x_NoRow ?x_NoReading ?o_pg_Hearer ?o_hd_Hearer ?o_po_Hearer ?o_sa_Hearer ?o_mk_Hearer ?o_kc_Hearer ?o_n_Hearer_turns ?o_n_Hearer_bells ?o_n_Hearer_late ?o_n_Hearer_now ?o_n_Hearer_reading ?o_n_Hearer_known ?o_pg_KeenHearer ?o_hd_KeenHearer ?o_po_KeenHearer ?o_sa_KeenHearer ?o_mk_KeenHearer ?o_kc_KeenHearer ?o_n_KeenHearer_turns ?o_n_KeenHearer_bells ?o_n_KeenHearer_late ?o_n_KeenHearer_now ?o_n_KeenHearer_reading ?o_n_KeenHearer_known ?o_a_Hearer_Hearer_init ?o_a_KeenHearer_Hearer_init ?o_l_Hearer_init ?o_c_Hearer_init ?o_k_Hearer_init ?o_f_Hearer_init ?o_a_Hearer_Hearer_turn ?o_a_KeenHearer_Hearer_turn ?o_l_Hearer_turn ?o_c_Hearer_turn ?o_k_Hearer_turn ?o_f_Hearer_turn ?o_t_Hearer_turn ?o_a_Hearer_Hearer_knows ?o_l_Hearer_knows ?o_c_Hearer_knows ?o_k_Hearer_knows ?o_f_Hearer_knows ?o_a_Hearer_Hearer_earliest ?o_a_KeenHearer_Hearer_earliest ?o_l_Hearer_earliest ?o_c_Hearer_earliest ?o_k_Hearer_earliest ?o_f_Hearer_earliest ?o_a_Hearer_Hearer_is_last_turn ?o_a_KeenHearer_Hearer_is_last_turn ?o_l_Hearer_is_last_turn ?o_c_Hearer_is_last_turn ?o_k_Hearer_is_last_turn ?o_f_Hearer_is_last_turn ?o_a_Hearer_Hearer_go_on ?o_a_KeenHearer_Hearer_go_on ?o_l_Hearer_go_on ?o_c_Hearer_go_on ?o_k_Hearer_go_on ?o_f_Hearer_go_on ?o_a_KeenHearer_KeenHearer_knows ?o_l_KeenHearer_knows ?o_c_KeenHearer_knows ?o_k_KeenHearer_knows ?o_f_KeenHearer_knows
    (case a0 => k_is)
    (case l0 => k_is)
    (case c0 => k_is)
    (case k0 => k_is)
    (case a1 => k_is)
    (case l1 => k_is)
    (case c1 => k_is)
    (case k1 => k_is)
    (case a2 => k_is)
    (case l2 => k_is)
    (case c2 => k_is)
    (case k2 => k_is)
    (case a3 => k_is)
    (case l3 => k_is)
    (case c3 => k_is)
    (case k3 => k_is)
    (case a4 => k_is)
    (case l4 => k_is)
    (case c4 => k_is)
    (case k4 => k_is)
    (case a5 => k_is)
    (case l5 => k_is)
    (case c5 => k_is)
    (case k5 => k_is)
    (case a6 => k_is)
    (case l6 => k_is)
    (case c6 => k_is)
    (case k6 => k_is)
    (case a7 => k_is)
    (case l7 => k_is)
    (case c7 => k_is)
    (case k7 => k_is)
    (case a8 => k_is)
    (case l8 => k_is)
    (case c8 => k_is)
    (case k8 => k_is)
    (case a9 => k_is)
    (case l9 => k_is)
    (case c9 => k_is)
    (case k9 => k_is)
    (case a10 => k_is)
    (case l10 => k_is)
    (case c10 => k_is)
    (case k10 => k_is)
    (case a11 => k_is)
    (case l11 => k_is)
    (case c11 => k_is)
    (case k11 => k_is)
    (case a12 => k_is)
    (case l12 => k_is)
    (case c12 => k_is)
    (case k12 => k_is)
    (case a13 => k_is)
    (case l13 => k_is)
    (case c13 => k_is)
    (case k13 => k_is)
    (case a14 => k_is)
    (case l14 => k_is)
    (case c14 => k_is)
    (case k14 => k_is)
    (case a15 => k_is)
    (case l15 => k_is)
    (case c15 => k_is)
    (case k15 => k_is)
    (case a16 => k_is)
    (case l16 => k_is)
    (case c16 => k_is)
    (case k16 => k_is)
    (case a17 => k_is)
    (case l17 => k_is)
    (case c17 => k_is)
    (case k17 => k_is)
    (case a18 => k_is)
    (case l18 => k_is)
    (case c18 => k_is)
    (case k18 => k_is)
    (case a19 => k_is)
    (case l19 => k_is)
    (case c19 => k_is)
    (case k19 => k_is)
    (case a20 => k_is)
    (case l20 => k_is)
    (case c20 => k_is)
    (case k20 => k_is)
    (case a21 => k_is)
    (case l21 => k_is)
    (case c21 => k_is)
    (case k21 => k_is)
    (case z_range => k_is)
    (case z_isinstance => k_is)
    (case z_int => k_is)
    (case z_bool => k_is)
    (case z_len => k_is)
    (case z_list => k_is)
    (case z_min => k_is)
    (case z_max => k_is)
    (case z_enumerate => k_is)
    (case z_sum => k_is)
    (case z_all => k_is)
    (case z_ValueError => k_is)
    (case z_tuple => k_is)
    (case z_zip => k_is)
    (case z_sorted => k_is)
    (case m_BellError => k_is)
    (case m_NoRow => k_is)
    (case m_NoReading => k_is)
    (case m_TooGreat => k_is)
    (case m_Hearer => k_is)
    (case m_KeenHearer => k_is)
    (case x_NoRow => k_exc)
    (case x_NoReading => k_exc)
    (case o_pg_Hearer => k_is)
    (case o_hd_Hearer => k_is)
    (case o_po_Hearer => k_is)
    (case o_sa_Hearer => k_is)
    (case o_mk_Hearer => k_is)
    (case o_kc_Hearer => k_is)
    (case o_n_Hearer_turns => k_is)
    (case o_n_Hearer_bells => k_is)
    (case o_n_Hearer_late => k_is)
    (case o_n_Hearer_now => k_is)
    (case o_n_Hearer_reading => k_is)
    (case o_n_Hearer_known => k_is)
    (case o_pg_KeenHearer => k_is)
    (case o_hd_KeenHearer => k_is)
    (case o_po_KeenHearer => k_is)
    (case o_sa_KeenHearer => k_is)
    (case o_mk_KeenHearer => k_is)
    (case o_kc_KeenHearer => k_is)
    (case o_n_KeenHearer_turns => k_is)
    (case o_n_KeenHearer_bells => k_is)
    (case o_n_KeenHearer_late => k_is)
    (case o_n_KeenHearer_now => k_is)
    (case o_n_KeenHearer_reading => k_is)
    (case o_n_KeenHearer_known => k_is)
    (case o_a_Hearer_Hearer_init => k_is)
    (case o_a_KeenHearer_Hearer_init => k_is)
    (case o_l_Hearer_init => k_is)
    (case o_c_Hearer_init => k_is)
    (case o_k_Hearer_init => k_is)
    (case o_f_Hearer_init => k_is)
    (case o_a_Hearer_Hearer_turn => k_is)
    (case o_a_KeenHearer_Hearer_turn => k_is)
    (case o_l_Hearer_turn => k_is)
    (case o_c_Hearer_turn => k_is)
    (case o_k_Hearer_turn => k_is)
    (case o_f_Hearer_turn => k_is)
    (case o_t_Hearer_turn => k_is)
    (case o_a_Hearer_Hearer_knows => k_is)
    (case o_l_Hearer_knows => k_is)
    (case o_c_Hearer_knows => k_is)
    (case o_k_Hearer_knows => k_is)
    (case o_f_Hearer_knows => k_is)
    (case o_a_Hearer_Hearer_earliest => k_is)
    (case o_a_KeenHearer_Hearer_earliest => k_is)
    (case o_l_Hearer_earliest => k_is)
    (case o_c_Hearer_earliest => k_is)
    (case o_k_Hearer_earliest => k_is)
    (case o_f_Hearer_earliest => k_is)
    (case o_a_Hearer_Hearer_is_last_turn => k_is)
    (case o_a_KeenHearer_Hearer_is_last_turn => k_is)
    (case o_l_Hearer_is_last_turn => k_is)
    (case o_c_Hearer_is_last_turn => k_is)
    (case o_k_Hearer_is_last_turn => k_is)
    (case o_f_Hearer_is_last_turn => k_is)
    (case o_a_Hearer_Hearer_go_on => k_is)
    (case o_a_KeenHearer_Hearer_go_on => k_is)
    (case o_l_Hearer_go_on => k_is)
    (case o_c_Hearer_go_on => k_is)
    (case o_k_Hearer_go_on => k_is)
    (case o_f_Hearer_go_on => k_is)
    (case o_a_KeenHearer_KeenHearer_knows => k_is)
    (case o_l_KeenHearer_knows => k_is)
    (case o_c_KeenHearer_knows => k_is)
    (case o_k_KeenHearer_knows => k_is)
    (case o_f_KeenHearer_knows => k_is)