import PyProof.Rows.All
import Wide.All
import OpenK.AllK
import Wide.FinOn
import Lean
import PyProof.EqAt
import PyProof.EqKinds
import PyProof.TupleCall
import KE.IntBitsLaws
import PySem.Challenge.RW_bellwrite_k76_readings_not_unkeyed
set_option Elab.async false
set_option linter.all false
set_option maxRecDepth 100000
set_option maxHeartbeats 4000000
namespace L2
open PySem PySem.Spec PyProof.Rows
abbrev Key := Sum Int Str
def keyIs : Key → Value → Bool
  | .inl k, v => Value.isInt k v
  | .inr x, v => Value.isStrOf x v
def keyH (w : World) : Key → Int
  | .inl k => hashInt k
  | .inr x => hashStr w x
theorem keyIs_shape : ∀ {k : Key} {v : Value}, keyIs k v = true → (∃ i t, k = Sum.inl i ∧ v = Value.int i t) ∨ (∃ x t, k = Sum.inr x ∧ v = Value.str x t)
  | .inl i, v, h => by
    obtain ⟨t, e⟩ := Value.isInt_shape (k := i) (v := v) h
    exact .inl ⟨i, t, rfl, e⟩
  | .inr x, v, h => by
    obtain ⟨t, e⟩ := Value.isStrOf_shape (x := x) (v := v) h
    exact .inr ⟨x, t, rfl, e⟩
theorem key_ll (a b : Int) : decide ((Sum.inl a : Key) = Sum.inl b) = (a == b) := by
  by_cases e : a = b
  · subst e; simp
  · have h : ¬ (Sum.inl a : Key) = Sum.inl b := fun q => e (Sum.inl.inj q)
    rw [decide_eq_false h]
    exact (beq_eq_false_iff_ne.mpr e).symm
theorem key_rr (a b : Str) : decide ((Sum.inr a : Key) = Sum.inr b) = decide (a = b) := by
  by_cases e : a = b
  · subst e; simp
  · have h : ¬ (Sum.inr a : Key) = Sum.inr b := fun q => e (Sum.inr.inj q)
    rw [decide_eq_false h, decide_eq_false e]
theorem key_lr (a : Int) (b : Str) : decide ((Sum.inl a : Key) = Sum.inr b) = false := decide_eq_false (fun q => nomatch q)
theorem key_rl (a : Str) (b : Int) : decide ((Sum.inr a : Key) = Sum.inl b) = false := decide_eq_false (fun q => nomatch q)
def mixKind (prog : Program) (w : World) : PySem.KeyKind prog w Key where
  is := keyIs
  hash := keyH w
  inj := fun v a b ha hb => by
    rcases keyIs_shape ha with ⟨i, t, rfl, rfl⟩ | ⟨x, t, rfl, rfl⟩
    · rcases keyIs_shape hb with ⟨j, u, rfl, e⟩ | ⟨y, u, rfl, e⟩
      · injection e with e1 _; rw [e1]
      · exact nomatch e
    · rcases keyIs_shape hb with ⟨j, u, rfl, e⟩ | ⟨y, u, rfl, e⟩
      · exact nomatch e
      · injection e with e1 _; rw [e1]
  byValue := fun k v h => by
    rcases keyIs_shape h with ⟨i, t, rfl, rfl⟩ | ⟨x, t, rfl, rfl⟩ <;> rfl
  pyHash := fun hv h => by
    rcases keyIs_shape hv with ⟨i, t, rfl, rfl⟩ | ⟨x, t, rfl, rfl⟩
    · exact wpAny_pyHash_int h
    · exact wpAny_pyHash_str h
  eqBool := fun hu hv h => by
    rcases keyIs_shape hu with ⟨i, t, rfl, rfl⟩ | ⟨x, t, rfl, rfl⟩
    · rcases keyIs_shape hv with ⟨j, u, rfl, rfl⟩ | ⟨y, u, rfl, rfl⟩
      · rw [key_ll] at h; exact wpAny_eqBool_int h
      · rw [key_lr] at h; exact SeqAt.EqAt.int_str i t y u _ _ _ _ h
    · rcases keyIs_shape hv with ⟨j, u, rfl, rfl⟩ | ⟨y, u, rfl, rfl⟩
      · rw [key_rl] at h; exact SeqAt.EqAt.str_int x t j u _ _ _ _ h
      · rw [key_rr] at h; exact wpAny_eqBool_str h
  «strs» := fun k x t v h => by
    rcases keyIs_shape h with ⟨i, u, rfl, e⟩ | ⟨y, u, rfl, e⟩
    · exact nomatch e
    · injection e with e1 _
      subst e1
      cases v <;> rfl
end L2
namespace L2
open PySem PySem.Spec PyProof.Rows
inductive V where
  | non | bl (b : Bool) | int (i : Int) | str (x : Str) | byt (b : Array UInt8) | flt (b : UInt64) | ref (a : Addr) | ty (n : String)
  deriving DecidableEq
def RelV : V → Value → Prop
  | .non, u => u = Value.none
  | .bl b, u => u = Value.bool b
  | .int i, u => ∃ t, u = Value.int i t
  | .str x, u => ∃ t, u = Value.str x t
  | .byt b, u => ∃ t, u = Value.bytes b t
  | .flt b, u => ∃ t, u = Value.float b t
  | .ref a, u => u = Value.ref a
  | .ty n, u => u = Value.type n
abbrev Vals : List V → List Value → Prop := Paired RelV
theorem Vals.length {xs : List V} {us : List Value} (r : Vals xs us) : xs.length = us.length := Paired.length r
theorem Vals.get : ∀ {xs : List V} {us : List Value} {i : Nat} {x : V}, Vals xs us → xs[i]? = some x → ∃ u, us[i]? = some u ∧ RelV x u
  | _, _, _, _, .nil, e => by simp at e
  | _, _, 0, _, .cons r _, e => by simp at e; subst e; exact ⟨_, rfl, r⟩
  | _, _, i + 1, x, .cons _ t, e => by
    obtain ⟨u, h1, h2⟩ := Vals.get (i := i) (x := x) t (by simpa using e)
    exact ⟨u, by simpa using h1, h2⟩
theorem Vals.set {x : V} {u : Value} (r : RelV x u) : ∀ {xs : List V} {us : List Value} (i : Nat), Vals xs us → Vals (xs.set i x) (us.set i u)
  | _, _, _, .nil => .nil
  | _, _, 0, .cons _ t => .cons r t
  | _, _, i + 1, .cons q t => .cons q (Vals.set r i t)
theorem Vals.append : ∀ {xs ys : List V} {us ws : List Value}, Vals xs us → Vals ys ws → Vals (xs ++ ys) (us ++ ws)
  | _, _, _, _, .nil, s => s
  | _, _, _, _, .cons r t, s => .cons r (Vals.append t s)
theorem Vals.take : ∀ {xs : List V} {us : List Value} (n : Nat), Vals xs us → Vals (xs.take n) (us.take n)
  | _, _, 0, _ => .nil
  | _, _, _ + 1, .nil => .nil
  | _, _, n + 1, .cons r t => .cons r (Vals.take n t)
theorem Vals.drop : ∀ {xs : List V} {us : List Value} (n : Nat), Vals xs us → Vals (xs.drop n) (us.drop n)
  | _, _, 0, r => r
  | _, _, _ + 1, .nil => .nil
  | _, _, n + 1, .cons _ t => Vals.drop n t
theorem Vals.none_of : ∀ {xs : List V} {us : List Value} {i : Nat}, Vals xs us → xs[i]? = none → us[i]? = none := fun {xs us i} r e => by
  have h1 := r.length
  have h2 : xs.length ≤ i := List.getElem?_eq_none_iff.mp e
  exact List.getElem?_eq_none_iff.mpr (by omega)
def RelO : Option V → Option Value → Prop
  | some v, some u => RelV v u
  | none, none => True
  | _, _ => False
def KV {κ : Type} : List (κ × V) → List (κ × Value) → Prop := Paired fun (p : κ × V) (q : κ × Value) => p.1 = q.1 ∧ RelV p.2 q.2
def kV : Key → V
  | .inl i => .int i
  | .inr x => .str x
inductive HO where
  | lst (xs : List V)
  | tup (xs : List V)
  | dK (kvs : List (Key × V)) | dT (kvs : List (List Key × V))
  | set (S : Int → Bool) (n : Nat)
  | ins (C dx : Addr) (fs : List (Str × V))
  | own (x : Addr)
  | xd (fs : List (Str × V))
  | met (f x : Addr)
  | rng (lo hi : Int)
  | frz (o : Obj) (u : HO)
  | tbl (ps : Array Value)
  | ext (φ : Heap → Prop)
abbrev Hp := Addr → Option HO
def upd (H : Hp) (a : Addr) (o : HO) : Hp := fun b => if b = a then some o else H b
theorem upd_same {H : Hp} {a : Addr} {o : HO} : upd H a o a = some o := by unfold upd; rw [if_pos rfl]
theorem upd_ne {H : Hp} {a b : Addr} {o : HO} (h : b ≠ a) : upd H a o b = H b := by unfold upd; rw [if_neg h]
theorem upd_upd {H : Hp} {a : Addr} {o u : HO} : upd (upd H a o) a u = upd H a u := by
  funext b; unfold upd; split <;> rfl
theorem ne_of_none {H : Hp} {a b : Addr} {o : HO} (h : H a = some o) (h' : H b = none) : a ≠ b := by
  intro e; subst e; rw [h] at h'; cases h'
section
variable (P : Program) (w : World)
def ObjOk (H : Hp) (h : Heap) (a : Addr) : HO → Prop
  | .lst xs => xs.length ≤ sizeLine ∧ ∃ (its : List Value) (n : Nat), Vals xs its ∧ h.get? a = some { cls := .type "list", data := .seq its.toArray n }
  | .tup xs => xs.length ≤ sizeLine ∧ ∃ its : List Value, Vals xs its ∧ IsTup h a its.toArray
  | .dK kvs => kvs.length ≤ sizeLine ∧ (a == sysModules) = false ∧ ∃ vs, KV kvs vs ∧ h.DictOf (mixKind P w) a vs
  | .dT kvs => kvs.length ≤ sizeLine ∧ (a == sysModules) = false ∧ ∃ xs : List (List Key × Addr × Value),
      Paired (fun (p : List Key × V) (q : List Key × Addr × Value) => p.1 = q.1 ∧ H q.2.1 = some (.tup (p.1.map kV)) ∧ RelV p.2 q.2.2) kvs xs ∧
      ∃ o es ep, h.get? a = some o ∧ o.ExactDict ∧ o.data = .dict es ep ∧ es.toList = xs.map (entryOfKey (tupleKind (mixKind P w))) ∧ (xs.map (·.1)).Nodup
  | .set S n => h.SetOf (intKind P w) a S n
  | .ins C dx fs => H dx = some (.own a) ∧ fs.length ≤ 1000 ∧ dx ≠ a ∧ h.get? a = some (PySem.W.instObj C dx) ∧
      ∃ mA, h.Ns1 dx mA ∧ (∀ f, RelO (fs.lookup f) (mA f)) ∧ PySem.Within mA (fs.map (·.1))
  | .own _ => ∃ o, h.get? a = some o
  | .xd fs => ∃ mA, h.Ns1 a mA ∧ ∀ f, RelO (fs.lookup f) (mA f)
  | .rng lo hi => ∃ t u v, h.get? a = some { cls := .type "range", data := .fields #[.int lo t, .int hi u, .int 1 v] }
  | .frz o u => h.get? a = some o ∧ ObjOk H h a u
  | .tbl ps => h.get? a = some { cls := .none, data := .fields ps }
  | .met f x => h.get? a = some (PySem.W.methodObj (.ref f) (.ref x))
  | .ext φ => φ h ∧ (∃ o, h.get? a = some o) ∧ ∀ h1 h2 : Heap, φ h1 → (∀ o, h1.get? a = some o → h2.get? a = some o) → φ h2
def HOk (H : Hp) (h : Heap) : Prop := ∀ a o, H a = some o → ObjOk P w H h a o
end
section
variable {P : Program} {w : World} {H H' : Hp} {h h' : Heap} {a : Addr} {o : HO}
theorem ObjOk.lt (x : ObjOk P w H h a o) : a < h.objs.size := by
  cases o with
  | lst xs => obtain ⟨_, _, _, _, e⟩ := x; exact Heap.lt_size e
  | tup xs => obtain ⟨_, _, _, p⟩ := x; exact p.lt
  | dK kvs => obtain ⟨_, _, _, _, o, _, _, e, _⟩ := x; exact Heap.lt_size e
  | dT kvs => obtain ⟨_, _, _, _, o, _, _, e, _⟩ := x; exact Heap.lt_size e
  | set S n => obtain ⟨o, _, _, _, e, _⟩ := x; exact Heap.lt_size e
  | ins C dx fs => obtain ⟨_, _, _, e, _⟩ := x; exact Heap.lt_size e
  | own y => obtain ⟨_, e⟩ := x; exact Heap.lt_size e
  | xd fs => obtain ⟨_, ⟨_, _, _, e, _⟩, _⟩ := x; exact Heap.lt_size e
  | rng lo hi => obtain ⟨_, _, _, e⟩ := x; exact Heap.lt_size e
  | frz ob u => obtain ⟨e, _⟩ := x; exact Heap.lt_size e
  | tbl ps => exact Heap.lt_size (show h.get? a = some _ from x)
  | met f y => exact Heap.lt_size (show h.get? a = some _ from x)
  | ext φ => obtain ⟨_, ⟨_, e⟩, _⟩ := x; exact Heap.lt_size e
theorem Paired.mapP {α β : Type} {F G : α → β → Prop} : ∀ {l₁ : List α} {l₂ : List β}, Paired F l₁ l₂ → (∀ a b, F a b → G a b) → Paired G l₁ l₂
  | _, _, .nil, _ => .nil
  | _, _, .cons r t, f => .cons (f _ _ r) (Paired.mapP t f)
theorem Paired.imp' {α β : Type} {F G : α → β → Prop} (f : ∀ a b, F a b → G a b) {l₁ : List α} {l₂ : List β} (r : Paired F l₁ l₂) : Paired G l₁ l₂ := Paired.mapP r f
theorem ObjOk.stay (x : ObjOk P w H h a o) (k : ∀ b u, (b = a ∨ H b = some (.own a)) → h.get? b = some u → h'.get? b = some u)
    (ho : ∀ b, H b = some (.own a) → H' b = some (.own a)) (ht : ∀ b xs, H b = some (.tup xs) → H' b = some (.tup xs)) : ObjOk P w H' h' a o := by
  induction o with
  | lst xs => obtain ⟨z, its, n, r, e⟩ := x; exact ⟨z, its, n, r, k _ _ (.inl rfl) e⟩
  | tup xs => obtain ⟨z, its, r, ob, e, c⟩ := x; exact ⟨z, its, r, ob, k _ _ (.inl rfl) e, c⟩
  | dK kvs => obtain ⟨z, y, vs, r, ob, es, ep, e, c⟩ := x; exact ⟨z, y, vs, r, ob, es, ep, k _ _ (.inl rfl) e, c⟩
  | dT kvs =>
    obtain ⟨z, y, xs, r, ob, es, ep, e, c⟩ := x
    exact ⟨z, y, xs, Paired.mapP r fun p q z => ⟨z.1, ht _ _ z.2.1, z.2.2⟩, ob, es, ep, k _ _ (.inl rfl) e, c⟩
  | set S n => obtain ⟨ob, es, ep, t, e, c⟩ := x; exact ⟨ob, es, ep, t, k _ _ (.inl rfl) e, c⟩
  | ins C dx fs =>
    obtain ⟨d, z, ne, e, mA, ⟨od, es, ep, e2, c⟩, r⟩ := x
    exact ⟨ho _ d, z, ne, k _ _ (.inl rfl) e, mA, ⟨od, es, ep, k _ _ (.inr d) e2, c⟩, r⟩
  | own y => obtain ⟨ob, e⟩ := x; exact ⟨ob, k _ _ (.inl rfl) e⟩
  | xd fs => obtain ⟨mA, ⟨od, es, ep, e, c⟩, r⟩ := x; exact ⟨mA, ⟨od, es, ep, k _ _ (.inl rfl) e, c⟩, r⟩
  | rng lo hi => obtain ⟨t, u, v, e⟩ := x; exact ⟨t, u, v, k _ _ (.inl rfl) e⟩
  | frz ob u ih => obtain ⟨e, q⟩ := x; exact ⟨k _ _ (.inl rfl) e, ih q⟩
  | tbl ps =>
    have e : h.get? a = some { cls := .none, data := .fields ps } := x
    show h'.get? a = some { cls := .none, data := .fields ps }
    exact k a _ (.inl rfl) e
  | met f y =>
    have e : h.get? a = some (PySem.W.methodObj (.ref f) (.ref y)) := x
    show h'.get? a = some (PySem.W.methodObj (.ref f) (.ref y))
    exact k a _ (.inl rfl) e
  | ext φ => obtain ⟨p, ⟨o, e⟩, st⟩ := x; exact ⟨st _ _ p fun o q => k _ _ (.inl rfl) q, ⟨o, k _ _ (.inl rfl) e⟩, st⟩
theorem HOk.lt (x : HOk P w H h) (e : H a = some o) : a < h.objs.size := (x a o e).lt
theorem HOk.fresh (x : HOk P w H h) (e : h.objs.size ≤ a) : H a = none := by
  cases q : H a with
  | none => rfl
  | some u => exact absurd (Nat.lt_of_lt_of_le (x.lt q) e) (Nat.lt_irrefl _)
theorem HOk.kept (x : HOk P w H h) (k : ∀ b u, h.get? b = some u → h'.get? b = some u) : HOk P w H h' := fun a o e =>
  (x a o e).stay (fun b u _ q => k b u q) (fun _ q => q) fun _ _ q => q
theorem HOk.laid (x : HOk P w H h) (k : ∀ b u, h.get? b = some u → h'.get? b = some u) (hp : h.objs.size ≤ a) (new : ObjOk P w (upd H a o) h' a o) : HOk P w (upd H a o) h' := fun b u e => by
  have hn := x.fresh hp
  by_cases hb : b = a
  · subst hb; rw [upd_same] at e; cases e; exact new
  · rw [upd_ne hb] at e
    exact (x b u e).stay (fun c v _ q => k c v q) (fun c q => by rw [upd_ne (ne_of_none q hn)]; exact q) fun c xs q => by rw [upd_ne (ne_of_none q hn)]; exact q
end
def Rd (H : Hp) (a : Addr) (u : HO) : Prop := H a = some u ∨ ∃ o, H a = some (.frz o u)
theorem Rd.of {H : Hp} {a : Addr} {u : HO} (h : H a = some u) : Rd H a u := .inl h
theorem Rd.ok {P : Program} {w : World} {H : Hp} {h : Heap} {a : Addr} {u : HO} (r : Rd H a u) (x : HOk P w H h) : ObjOk P w H h a u := by
  rcases r with r | ⟨o, r⟩
  · exact x a u r
  · obtain ⟨_, q⟩ := x a _ r
    exact q
def Mut : Option HO → Prop
  | some (.lst _) => True
  | some (.dK _) => True
  | some (.dT _) => True
  | some (.set _ _) => True
  | some (.ins _ _ _) => True
  | some (.ext _) => True
  | _ => False
section
variable {P : Program} {w : World} {H : Hp} {h h' : Heap} {x e : Addr} {o' : HO}
theorem HOk.write (ok : HOk P w H h) (mu : Mut (H x)) (he : e = x ∨ H e = some (.own x)) (k : ∀ b u, b ≠ e → h.get? b = some u → h'.get? b = some u) (heo : ∃ u, h'.get? e = some u)
    (new : ObjOk P w (upd H x o') h' x o') : HOk P w (upd H x o') h' := fun b u q => by
  have nown : ∀ c y, H c = some (.own y) → c ≠ x := fun c y r z => by subst z; rw [r] at mu; exact mu
  have ntup : ∀ c xs, H c = some (.tup xs) → c ≠ x := fun c xs r z => by subst z; rw [r] at mu; exact mu
  by_cases hb : b = x
  · subst hb; rw [upd_same] at q; cases q; exact new
  · rw [upd_ne hb] at q
    by_cases hbe : b = e
    · have q' : H b = some (.own x) := by
        rcases he with z | z
        · exact absurd (hbe.trans z) hb
        · rw [hbe]; exact z
      rw [q] at q'; cases q'
      obtain ⟨v, hv⟩ := heo
      exact ⟨v, by rw [hbe]; exact hv⟩
    · refine (ok b u q).stay (fun c v hc r => k c v ?_ r) (fun c r => by rw [upd_ne (nown c b r)]; exact r) fun c xs r => by rw [upd_ne (ntup c xs r)]; exact r
      rcases hc with rfl | hc
      · exact hbe
      · rintro rfl
        rcases he with z | z
        · exact nown c b hc z
        · rw [hc] at z; cases z; exact hb rfl
end
structure Un (fs ex : List Addr) (H H' : Hp) (h h' : Heap) : Prop where
  keep : ∀ b o, h.get? b = some o → H b = none → b ∉ fs → b ∉ ex → h'.get? b = some o
  slot : ∀ b o, h.get? b = some o → H b = none → b ∈ fs → b ∉ ex → ∃ sl, h'.get? b = some { o with slots := sl }
  free : ∀ b o, h.get? b = some o → H b = none → b ∉ ex → H' b = none
  there : ∀ b o, h.get? b = some o → b ∉ ex → ∃ o', h'.get? b = some o'
  tups : ∀ b xs, H b = some (.tup xs) → H' b = some (.tup xs)
  frzs : ∀ b o u, H b = some (.frz o u) → H' b = some (.frz o u)
  tbls : ∀ b ps, H b = some (.tbl ps) → ∃ more, H' b = some (.tbl (ps ++ more))
section
variable {fs fs' ex ex' : List Addr} {H H1 H2 : Hp} {h h1 h2 h' : Heap} {a x e : Addr} {o : HO}
theorem Un.any (u : Un fs ex H H1 h h1) {b : Addr} {ob : Obj} (q : h.get? b = some ob) (n : H b = none) (hx : b ∉ ex) : ∃ sl, h1.get? b = some { ob with slots := sl } := by
  by_cases hb : b ∈ fs
  · exact u.slot b ob q n hb hx
  · exact ⟨ob.slots, u.keep b ob q n hb hx⟩
theorem Un.trans (a : Un fs ex H H1 h h1) (b : Un fs ex H1 H2 h1 h2) : Un fs ex H H2 h h2 where
  keep := fun c ob q n hc hx => b.keep c ob (a.keep c ob q n hc hx) (a.free c ob q n hx) hc hx
  slot := fun c ob q n hc hx => by
    obtain ⟨sl, e1⟩ := a.slot c ob q n hc hx
    obtain ⟨sl', e2⟩ := b.slot c _ e1 (a.free c ob q n hx) hc hx
    exact ⟨sl', e2⟩
  free := fun c ob q n hx => by
    obtain ⟨o', e1⟩ := a.there c ob q hx
    exact b.free c o' e1 (a.free c ob q n hx) hx
  there := fun c ob q hx => by
    obtain ⟨o', e1⟩ := a.there c ob q hx
    exact b.there c o' e1 hx
  tups := fun c xs q => b.tups c xs (a.tups c xs q)
  frzs := fun c ob xs q => b.frzs c ob xs (a.frzs c ob xs q)
  tbls := fun c ps q => by
    obtain ⟨m1, e1⟩ := a.tbls c ps q
    obtain ⟨m2, e2⟩ := b.tbls c _ e1
    exact ⟨m1 ++ m2, by rw [e2, Array.append_assoc]⟩
theorem Un.kept (k : ∀ b u, h.get? b = some u → h'.get? b = some u) : Un fs ex H H h h' :=
  ⟨fun b ob q _ _ _ => k b ob q, fun b ob q _ _ _ => ⟨ob.slots, k b ob q⟩, fun _ _ _ n _ => n, fun b ob q _ => ⟨ob, k b ob q⟩, fun _ _ q => q, fun _ _ _ q => q, fun _ ps q => ⟨#[], by rw [q]; simp⟩⟩
theorem Un.refl : Un fs ex H H h h := Un.kept fun _ _ q => q
theorem Un.laid (k : ∀ b u, h.get? b = some u → h'.get? b = some u) (hp : h.objs.size ≤ a) (hn : H a = none) : Un fs ex H (upd H a o) h h' where
  keep := fun b u q _ _ _ => k b u q
  slot := fun b u q _ _ _ => ⟨u.slots, k b u q⟩
  free := fun b u q n _ => by rw [upd_ne (Nat.ne_of_lt (Nat.lt_of_lt_of_le (Heap.lt_size q) hp))]; exact n
  there := fun b u q _ => ⟨u, k b u q⟩
  tups := fun b xs q => by rw [upd_ne (ne_of_none q hn)]; exact q
  frzs := fun b u xs q => by rw [upd_ne (ne_of_none q hn)]; exact q
  tbls := fun b ps q => ⟨#[], by rw [upd_ne (ne_of_none q hn), q]; simp⟩
theorem Un.write (mu : Mut (H x)) (he : e = x ∨ H e = some (.own x)) (k : ∀ b u, b ≠ e → h.get? b = some u → h'.get? b = some u) (heo : ∃ u, h'.get? e = some u) : Un fs ex H (upd H x o) h h' := by
  have hx : ∀ b, H b = none → b ≠ x := fun b n z => by subst z; rw [n] at mu; exact mu
  have hb : ∀ b, H b = none → b ≠ e := fun b n z => by
    subst z
    rcases he with r | r
    · exact hx b n r
    · rw [n] at r; cases r
  have hm : ∀ b u, H b = some u → ¬ Mut (some u) → b ≠ x := fun b u q nm z => by subst z; rw [q] at mu; exact nm mu
  refine ⟨fun b u q n _ _ => k b u (hb b n) q, fun b u q n _ _ => ⟨u.slots, k b u (hb b n) q⟩, fun b u q n _ => by rw [upd_ne (hx b n)]; exact n, fun b u q _ => ?_,
    fun b xs q => by rw [upd_ne (hm b _ q fun z => z)]; exact q, fun b u xs q => by rw [upd_ne (hm b _ q fun z => z)]; exact q, fun b ps q => ⟨#[], by rw [upd_ne (hm b _ q fun z => z), q]; simp⟩⟩
  by_cases hbe : b = e
  · subst hbe; exact heo
  · exact ⟨u, k b u hbe q⟩
theorem Un.mono (u : Un fs ex H H1 h h1) (hs : ∀ b ∈ fs, b ∈ fs') (hx : ∀ b ∈ ex, b ∈ ex') : Un fs' ex' H H1 h h1 :=
  ⟨fun b ob q n hb he => u.keep b ob q n (fun z => hb (hs b z)) fun z => he (hx b z), fun _ _ q n _ he => u.any q n fun z => he (hx _ z), fun b ob q n he => u.free b ob q n fun z => he (hx b z), fun b ob q he => u.there b ob q fun z => he (hx b z), u.tups, u.frzs, u.tbls⟩
end
def trk (h : Heap) (H : Hp) : List Addr := (List.range h.objs.size).filter fun a => (H a).isSome
def hidT (h : Heap) (H : Hp) : Heap := PySem.W.hideAll h (trk h H)
theorem hidT_size (h : Heap) (H : Hp) : (hidT h H).objs.size = h.objs.size := PySem.W.hideAll_size _ _
theorem hidT_get {h : Heap} {H : Hp} {b : Addr} {o : Obj} (e : h.get? b = some o) (n : H b = none) : (hidT h H).get? b = some o :=
  PySem.W.hideAll_get _ e fun hm => by
    have q : (H b).isSome = true := (List.mem_filter.mp hm).2
    rw [n] at q; simp at q
theorem of_hidT {h : Heap} {H : Hp} {b : Addr} {o : Obj} (e : (hidT h H).get? b = some o) : h.get? b = some o ∧ H b = none := by
  have e' : h.get? b = some o := PySem.W.of_hideAll (trk h H) e
  refine ⟨e', ?_⟩
  cases q : H b with
  | none => rfl
  | some x =>
    have hm : b ∈ trk h H := List.mem_filter.mpr ⟨List.mem_range.mpr (Heap.lt_size e'), by simp [q]⟩
    have z : (hidT h H).get? b = none := PySem.W.hideAll_none (trk h H) hm
    rw [z] at e; cases e
def allNews (g h : Heap) (L : Addr) : List (Addr × Obj) := (List.range h.objs.size).filterMap fun a => if a = L ∨ (g.get? a).isSome = true then none else (h.get? a).map fun o => (a, o)
def rest (g h : Heap) (L d : Addr) : List (Addr × Obj) := (allNews g h L).filter fun p => decide (p.1 ≠ d)
end L2
namespace L2
open PySem PySem.Spec PyProof.Rows
structure Mod (K : PySem.W.Frag) (mg : Str → Option Value) (base : Heap) : Prop where
  kin : K.In base
  glob : base.Ns mainGlobals mg
  blt : ∃ mb, base.Ns builtinsNs mb ∧ ∀ x : Str, x ≠ "__name__" → mb x = bootBuiltins x
  nolimit : base.NoLimit
  seer : base.NoSeer
structure Cx where
  prog : Program
  w : World
  K : PySem.W.Frag
  mg : Str → Option Value
  base : Heap
  A : Around
  N : List Str
  s₀ : Shared
  H₀ : Hp
  env : Env
  outer : List Env
  stack : List Env
  ex : List Addr
  fn : Str → Bool
  calm : Bool
  pn : List (Addr × Obj)
  xe : Value → Shared → Prop
def frs (l : List Env) : List Addr := l.filterMap (·.frame)
abbrev Cx.fs (X : Cx) : List Addr := frs X.outer
def Vis (sc : Scope) (x : Str) : Prop := sc.names.lookup x = some .local ∨ sc.names.lookup x = some .cell ∨ sc.names.lookup x = some .free
def Loc (sc : Scope) (x : Str) : Prop := sc.names.lookup x = some .local ∨ sc.names.lookup x = some .cell
def Look (env : Env) (h : Heap) (m : Str → Option Value) (x : Str) (u : Value) : Prop :=
  (env.kindOf x = some .local ∧ m x = some u) ∨ ((env.kindOf x = some .cell ∨ env.kindOf x = some .free) ∧ ∃ c, env.cells.lookup x = some c ∧ h.IsCell c (some u))
structure Cx.Ok (X : Cx) : Prop where
  mod : Mod X.K X.mg X.base
  kind : X.env.scope.kind = .function
  glob : X.env.globals = mainGlobals
  blt : X.env.builtins = builtinsNs
  above : X.s₀.heap.objs.size ≤ X.env.locals
  inj : ∀ x y c, X.env.cells.lookup x = some c → X.env.cells.lookup y = some c → x = y
  has : ∀ x, (X.env.kindOf x = some .cell ∨ X.env.kindOf x = some .free) → ∃ c, X.env.cells.lookup x = some c
  cab : ∀ x c, X.fn x = true → X.env.cells.lookup x = some c → X.s₀.heap.objs.size ≤ c
  hd : X.calm = true → X.A.handled = none
  frames : X.A.frames = some X.stack
  stk : X.stack = X.outer ∨ (X.stack = X.env :: X.outer ∧ X.env.frame = some X.env.locals)
  exf : ∀ b ∈ X.ex, b ≠ X.env.locals ∧ ∀ x c, X.env.cells.lookup x = some c → c ≠ b
  bs : ∀ b o, X.base.get? b = some o → X.s₀.heap.get? b = some o ∧ X.H₀ b = none
  bsz : X.base.objs.size ≤ X.s₀.heap.objs.size
  noex : ∀ b o, X.base.get? b = some o → b ∉ X.ex
  exfs : ∀ b ∈ X.ex, b ∉ X.fs
  funs : X.s₀.heap.FunFrames X.base X.outer
  frf : ∀ b ∈ X.fs, X.H₀ b = none
structure Inv (X : Cx) (pins : List (Addr × Obj)) (σ : List (Option V)) (H : Hp) (s : Shared) : Prop where
  ok : X.Ok
  os : s.os = X.s₀.os
  bare : AllBare s.gens
  base : Un X.fs X.ex X.H₀ H X.s₀.heap s.heap
  loc : ∃ m, s.heap.Ns X.env.locals m ∧ ∀ (i : Nat) (x : Str) (v : V), X.N[i]? = some x → σ[i]? = some (some v) → Vis X.env.scope x → ∃ u, RelV v u ∧ Look X.env s.heap m x u
  cell : ∀ x c, X.env.cells.lookup x = some c → ∃ v, s.heap.IsCell c v
  free : H X.env.locals = none
  freeC : ∀ x c, X.env.cells.lookup x = some c → H c = none
  pin : ∀ p ∈ X.pn ++ pins, s.heap.get? p.1 = some p.2 ∧ H p.1 = none ∧ p.1 ≠ X.env.locals ∧ p.1 ∉ X.fs ∧ ∀ v, p.2.data ≠ .cell v
  hok : HOk X.prog X.w H s.heap
  len : σ.length = X.N.length
section
variable {X : Cx} {pins : List (Addr × Obj)} {σ : List (Option V)} {H H' : Hp} {s : Shared} {h' : Heap}
theorem Cx.Ok.nofr (ok : X.Ok) {b : Addr} {o : Obj} (e : X.base.get? b = some o) : b ∉ X.fs := fun hb => by
  have := (ok.funs.mem hb).1
  rw [e] at this; cases this
theorem Inv.bs (I : Inv X pins σ H s) : ∀ b o, X.base.get? b = some o → s.heap.get? b = some o ∧ H b = none := fun b o e =>
  ⟨I.base.keep b o (I.ok.bs b o e).1 (I.ok.bs b o e).2 (I.ok.nofr e) (I.ok.noex b o e), I.base.free b o (I.ok.bs b o e).1 (I.ok.bs b o e).2 (I.ok.noex b o e)⟩
theorem Inv.bk (I : Inv X pins σ H s) : ∀ b o, X.base.get? b = some o → s.heap.get? b = some o := fun b o e => (I.bs b o e).1
theorem Inv.mod (I : Inv X pins σ H s) : Mod X.K X.mg X.base := I.ok.mod
theorem Inv.kIn (I : Inv X pins σ H s) : X.K.In s.heap := I.ok.mod.kin.keeps I.bk
theorem Inv.nolimit (I : Inv X pins σ H s) : s.heap.NoLimit := I.ok.mod.nolimit.keeps I.bk
theorem Inv.fr (I : Inv X pins σ H s) : ∃ m, Fr X.base X.env.locals s.heap m :=
  let ⟨m, hn, _⟩ := I.loc
  ⟨m, hn, I.bk, Nat.le_trans I.ok.bsz I.ok.above⟩
theorem Inv.lt (I : Inv X pins σ H s) : X.env.locals < s.heap.objs.size := let ⟨_, hn, _⟩ := I.loc; hn.lt
theorem Inv.sz (I : Inv X pins σ H s) : X.s₀.heap.objs.size ≤ s.heap.objs.size := Nat.le_trans I.ok.above (Nat.le_of_lt I.lt)
theorem Inv.nofs (I : Inv X pins σ H s) {a : Addr} (h : s.heap.objs.size ≤ a) : a ∉ X.fs := fun hb => by
  obtain ⟨_, o, ho, _⟩ := I.ok.funs.mem hb
  exact absurd (Nat.lt_of_lt_of_le (Heap.lt_size ho) (Nat.le_trans I.sz h)) (Nat.lt_irrefl _)
theorem Inv.cne (I : Inv X pins σ H s) : ∀ x c, X.env.cells.lookup x = some c → c ≠ X.env.locals := fun x c e z => by
  obtain ⟨v, o, ho, hd⟩ := I.cell x c e
  obtain ⟨m, ⟨o', es, ep, ho', hd', _⟩, _⟩ := I.loc
  rw [z, ho'] at ho; cases ho; rw [hd'] at hd; cases hd
theorem Inv.funs (I : Inv X pins σ H s) : s.heap.FunFrames X.base X.outer := by
  have all : ∀ (l : List Env), (∀ b ∈ frs l, b ∈ X.fs) → X.s₀.heap.FunFrames X.base l → s.heap.FunFrames X.base l := by
    intro l
    induction l with
    | nil => intro _ _; trivial
    | cons env r ih =>
      intro hs hl
      obtain ⟨hk, ⟨L, o, hf, hn, ho, hd⟩, hr⟩ := hl
      have hL : L ∈ X.fs := hs L (by unfold frs; rw [List.filterMap_cons, hf]; exact List.mem_cons_self)
      obtain ⟨sl, e⟩ := I.base.slot L o ho (I.ok.frf L hL) hL fun z => I.ok.exfs L z hL
      exact ⟨hk, ⟨L, _, hf, hn, e, hd⟩, ih (fun b hb => hs b (by unfold frs; rw [List.filterMap_cons, hf]; exact List.mem_cons_of_mem _ hb)) hr⟩
  exact all X.outer (fun _ hb => hb) I.ok.funs
theorem Inv.stack (I : Inv X pins σ H s) : s.heap.FunFrames X.base X.stack := by
  rcases I.ok.stk with e | ⟨e, hf⟩
  · rw [e]; exact I.funs
  · rw [e]
    obtain ⟨m, hn, _⟩ := I.loc
    refine .cons (by rw [I.ok.kind]; decide) hf hn ?_ I.funs
    exact Heap.get?_none_of_le (Nat.le_trans I.ok.bsz I.ok.above)
theorem Inv.stkSub (I : Inv X pins σ H s) : ∀ b ∈ frs X.stack, b ∈ X.env.locals :: X.fs := fun b hb => by
  rcases I.ok.stk with e | ⟨e, hf⟩
  · rw [e] at hb; exact List.mem_cons_of_mem _ hb
  · rw [e] at hb
    unfold frs at hb
    rw [List.filterMap_cons, hf] at hb
    exact hb
theorem Inv.stkFree (I : Inv X pins σ H s) : ∀ b ∈ frs X.stack, H b = none := fun b hb => by
  rcases List.mem_cons.mp (I.stkSub b hb) with e | hb
  · rw [e]; exact I.free
  · obtain ⟨_, o, ho, _⟩ := I.ok.funs.mem hb
    exact I.base.free b o ho (I.ok.frf b hb) fun z => I.ok.exfs b z hb
theorem Inv.step {g' : Array GenState} {t' : Nat} {d' : Drawn} {ch : List Addr} (I : Inv X pins σ H s)
    (hch : ∀ b ∈ ch, (b ∈ X.ex ∨ X.s₀.heap.objs.size ≤ b) ∧ b ≠ X.env.locals ∧ (∀ x c, X.env.cells.lookup x = some c → c ≠ b) ∧ ∀ p ∈ X.pn ++ pins, p.1 ≠ b)
    (keep : ∀ b o, b ≠ X.env.locals → b ∉ X.fs → b ∉ ch → s.heap.get? b = some o → H b = none → h'.get? b = some o)
    (slot : ∀ b o, b ≠ X.env.locals → b ∈ X.fs → b ∉ ch → s.heap.get? b = some o → H b = none → ∃ sl, h'.get? b = some { o with slots := sl }) (free : ∀ b o, b ∉ ch → s.heap.get? b = some o → H b = none → H' b = none)
    (there : ∀ b o, b ∉ ch → s.heap.get? b = some o → ∃ o', h'.get? b = some o')
    (tups : ∀ b xs, H b = some (.tup xs) → H' b = some (.tup xs)) (frzs : ∀ b o u, H b = some (.frz o u) → H' b = some (.frz o u)) (tbls : ∀ b ps, H b = some (.tbl ps) → ∃ more, H' b = some (.tbl (ps ++ more)))
    (ns : ∀ m, s.heap.Ns X.env.locals m → h'.Ns X.env.locals m) (hok : HOk X.prog X.w H' h') (hg : AllBare g') :
    Inv X pins σ H' { s with heap := h', gens := g', drawn := d', toks := t' } := by
  have neL : ∀ b o, X.s₀.heap.get? b = some o → b ≠ X.env.locals := fun b o e => Nat.ne_of_lt (Nat.lt_of_lt_of_le (Heap.lt_size e) I.ok.above)
  have neC : ∀ b o, X.s₀.heap.get? b = some o → b ∉ X.ex → b ∉ ch := fun b o e hx hb => by
    rcases (hch b hb).1 with z | z
    · exact hx z
    · exact absurd (Nat.lt_of_lt_of_le (Heap.lt_size e) z) (Nat.lt_irrefl _)
  have cellK : ∀ x c, X.env.cells.lookup x = some c → ∀ v, s.heap.IsCell c v → h'.IsCell c v := fun x c e v ⟨o, ho, hd⟩ => by
    have nch : c ∉ ch := fun z => (hch c z).2.2.1 x c e rfl
    by_cases hc : c ∈ X.fs
    · obtain ⟨sl, q⟩ := slot c o (I.cne x c e) hc nch ho (I.freeC x c e)
      exact ⟨_, q, hd⟩
    · exact ⟨o, keep c o (I.cne x c e) hc nch ho (I.freeC x c e), hd⟩
  refine ⟨I.ok, I.os, hg, ⟨fun b o e n hb hx => ?_, fun b o e n hb hx => ?_, fun b o e n hx => ?_, fun b o e hx => ?_, fun b xs e => tups b xs (I.base.tups b xs e), fun b o xs e => frzs b o xs (I.base.frzs b o xs e), fun b ps e => ?_⟩, ?_, fun x c e => ?_, ?_, fun x c e => ?_, fun p hp => ?_, hok, I.len⟩
  · exact keep b o (neL b o e) hb (neC b o e hx) (I.base.keep b o e n hb hx) (I.base.free b o e n hx)
  · obtain ⟨sl, e1⟩ := I.base.slot b o e n hb hx
    obtain ⟨sl', e2⟩ := slot b _ (neL b o e) hb (neC b o e hx) e1 (I.base.free b o e n hx)
    exact ⟨sl', e2⟩
  · obtain ⟨o', e1⟩ := I.base.there b o e hx
    exact free b o' (neC b o e hx) e1 (I.base.free b o e n hx)
  · obtain ⟨o', e1⟩ := I.base.there b o e hx
    exact there b o' (neC b o e hx) e1
  · obtain ⟨m1, e1⟩ := I.base.tbls b ps e
    obtain ⟨m2, e2⟩ := tbls b _ e1
    exact ⟨m1 ++ m2, by rw [e2, Array.append_assoc]⟩
  · obtain ⟨m, hn, hl⟩ := I.loc
    refine ⟨m, ns m hn, fun i x v e1 e2 e3 => ?_⟩
    obtain ⟨u, r, l⟩ := hl i x v e1 e2 e3
    refine ⟨u, r, ?_⟩
    rcases l with l | ⟨k, c, e, z⟩
    · exact .inl l
    · exact .inr ⟨k, c, e, cellK x c e _ z⟩
  · obtain ⟨v, z⟩ := I.cell x c e
    exact ⟨v, cellK x c e v z⟩
  · obtain ⟨m, ⟨o, _, _, ho, _⟩, _⟩ := I.loc
    exact free _ o (fun z => (hch _ z).2.1 rfl) ho I.free
  · obtain ⟨v, o, ho, hd⟩ := I.cell x c e
    exact free c o (fun z => (hch c z).2.2.1 x c e rfl) ho (I.freeC x c e)
  · obtain ⟨e, n, ne, nf, d⟩ := I.pin p hp
    have nch : p.1 ∉ ch := fun z => (hch p.1 z).2.2.2 p hp rfl
    exact ⟨keep p.1 p.2 ne nf nch e n, free p.1 p.2 nch e n, ne, nf, d⟩
theorem Inv.un {t' : Nat} (I : Inv X pins σ H s) (u : Un X.fs [] H H' s.heap h') (hok : HOk X.prog X.w H' h') : Inv X pins σ H' { s with heap := h', toks := t' } := by
  obtain ⟨m, ⟨o, es, ep, ho, r⟩, _⟩ := id I.loc
  obtain ⟨sl, hL⟩ := u.any ho I.free (by simp)
  exact I.step (g' := s.gens) (d' := s.drawn) (ch := []) (fun _ z => nomatch z) (fun b o _ hb _ e n => u.keep b o e n hb (by simp)) (fun b o _ hb _ e n => u.slot b o e n hb (by simp)) (fun b o _ e n => u.free b o e n (by simp)) (fun b o _ e => u.there b o e (by simp)) u.tups u.frzs u.tbls (fun m' hm => by
    obtain ⟨o', es', ep', ho', r'⟩ := hm
    rw [ho] at ho'; cases ho'
    exact ⟨_, es', ep', hL, r'⟩) hok I.bare
theorem Inv.call {g' : Array GenState} {t' : Nat} {d' : Drawn} {ch : List Addr} (I : Inv X pins σ H s) (u : Un (frs X.stack) ch H H' s.heap h') (hok : HOk X.prog X.w H' h') (hg : AllBare g')
    (hch : ∀ b ∈ ch, (b ∈ X.ex ∨ X.s₀.heap.objs.size ≤ b) ∧ b ≠ X.env.locals ∧ (∀ x c, X.env.cells.lookup x = some c → c ≠ b) ∧ ∀ p ∈ X.pn ++ pins, p.1 ≠ b) :
    Inv X pins σ H' { s with heap := h', gens := g', drawn := d', toks := t' } := by
  obtain ⟨m, ⟨o, es, ep, ho, r⟩, _⟩ := id I.loc
  obtain ⟨sl, hL⟩ := u.any ho I.free fun z => (hch _ z).2.1 rfl
  exact I.step (ch := ch) hch (fun b o hL hb hc e n => u.keep b o e n (fun z => (List.mem_cons.mp (I.stkSub b z)).elim hL hb) hc) (fun b o _ _ hc e n => u.any e n hc) (fun b o hc e n => u.free b o e n hc) (fun b o hc e => u.there b o e hc) u.tups u.frzs u.tbls (fun m' hm => by
    obtain ⟨o', es', ep', ho', r'⟩ := hm
    rw [ho] at ho'; cases ho'
    exact ⟨_, es', ep', hL, r'⟩) hok hg
theorem Inv.turned {t' : Nat} {it : Addr} (I : Inv X pins σ H s) (k : ∀ b o, b ≠ it → s.heap.get? b = some o → h'.get? b = some o) (hn : H it = none) (hL : it ≠ X.env.locals)
    (h1 : it ∈ X.ex ∨ X.s₀.heap.objs.size ≤ it) (h2 : ∀ x c, X.env.cells.lookup x = some c → c ≠ it) (h3 : ∀ p ∈ X.pn ++ pins, p.1 ≠ it) : Inv X pins σ H { s with heap := h', toks := t' } := by
  have nit : ∀ b u, H b = some u → b ≠ it := fun b u e z => by rw [z, hn] at e; cases e
  refine I.step (g' := s.gens) (d' := s.drawn) (ch := [it]) (fun b hb => ?_) (fun b o _ _ hc e _ => k b o (fun z => hc (by simp [z])) e) (fun b o _ _ hc e _ => ⟨o.slots, k b o (fun z => hc (by simp [z])) e⟩) (fun _ _ _ _ n => n)
    (fun b o hc e => ⟨o, k b o (fun z => hc (by simp [z])) e⟩) (fun _ _ e => e) (fun _ _ _ e => e) (fun b ps e => ⟨#[], by rw [e]; simp⟩) (fun m hm => ?_) (fun b u e => ?_) I.bare
  · have e : b = it := by simpa using hb
    subst e
    exact ⟨h1, hL, h2, h3⟩
  · obtain ⟨o, es, ep, ho, r⟩ := hm
    exact ⟨o, es, ep, k _ o (Ne.symm hL) ho, r⟩
  · refine (I.hok b u e).stay (fun c v hc q => k c v ?_ q) (fun _ q => q) fun _ _ q => q
    rcases hc with z | z
    · rw [z]; exact nit b u e
    · exact nit c _ z
theorem Inv.tok (I : Inv X pins σ H s) (t : Nat) : Inv X pins σ H { s with toks := t } := I.un (h' := s.heap) (t' := t) Un.refl I.hok
theorem Inv.kept {t' : Nat} (I : Inv X pins σ H s) (k : ∀ b u, s.heap.get? b = some u → h'.get? b = some u) : Inv X pins σ H { s with heap := h', toks := t' } := I.un (Un.kept k) (I.hok.kept k)
theorem Inv.laid {a : Addr} {o : HO} {t' : Nat} (I : Inv X pins σ H s) (k : ∀ b u, s.heap.get? b = some u → h'.get? b = some u) (hp : s.heap.objs.size ≤ a) (new : ObjOk X.prog X.w (upd H a o) h' a o) :
    Inv X pins σ (upd H a o) { s with heap := h', toks := t' } := I.un (Un.laid k hp (I.hok.fresh hp)) (I.hok.laid k hp new)
theorem Inv.write {x e : Addr} {o : HO} {t' : Nat} (I : Inv X pins σ H s) (mu : Mut (H x)) (he : e = x ∨ H e = some (.own x)) (k : ∀ b u, b ≠ e → s.heap.get? b = some u → h'.get? b = some u) (heo : ∃ u, h'.get? e = some u)
    (new : ObjOk X.prog X.w (upd H x o) h' x o) : Inv X pins σ (upd H x o) { s with heap := h', toks := t' } := I.un (Un.write mu he k heo) (I.hok.write mu he k heo new)
theorem Inv.weak {σ' : List (Option V)} (I : Inv X pins σ H s) (hl : σ'.length = σ.length) (w : ∀ (i : Nat) v, σ'[i]? = some (some v) → σ[i]? = some (some v)) : Inv X pins σ' H s :=
  ⟨I.ok, I.os, I.bare, I.base, let ⟨m, hn, hl'⟩ := I.loc; ⟨m, hn, fun i x v e1 e2 e3 => hl' i x v e1 (w i v e2) e3⟩, I.cell, I.free, I.freeC, I.pin, I.hok, hl.trans I.len⟩
theorem Inv.pins_of {pins' : List (Addr × Obj)} (I : Inv X pins σ H s) (h : ∀ p ∈ pins', s.heap.get? p.1 = some p.2 ∧ H p.1 = none ∧ p.1 ≠ X.env.locals ∧ p.1 ∉ X.fs ∧ ∀ v, p.2.data ≠ .cell v) : Inv X pins' σ H s :=
  ⟨I.ok, I.os, I.bare, I.base, I.loc, I.cell, I.free, I.freeC, fun p hp => (List.mem_append.mp hp).elim (fun z => I.pin p (List.mem_append_left _ z)) (h p), I.hok, I.len⟩
theorem nodup_ix {N : List Str} (hN : N.Nodup) {i j : Nat} {x : Str} (a : N[i]? = some x) (b : N[j]? = some x) : i = j := by
  obtain ⟨h1, e1⟩ := List.getElem?_eq_some_iff.mp a
  obtain ⟨h2, e2⟩ := List.getElem?_eq_some_iff.mp b
  exact (List.getElem_inj hN).mp (e1.trans e2.symm)
theorem store_ok2 {M : Model} {A : Around} {E : Value → Shared → Prop} {i : Nat} {x : Str} {v : V} {u : Value} {Q : Unit → Shared → Prop} (I : Inv X pins σ H s) (hN : X.N.Nodup) (hi : X.N[i]? = some x) (hx : Loc X.env.scope x) (r : RelV v u)
    (h : ∀ s', Inv X pins (σ.set i (some v)) H s' → (∃ a, Heap.SameBut a s.heap s'.heap ∧ (a = X.env.locals ∨ X.env.cells.lookup x = some a)) → Q () s') (hf : X.fn x = true ∨ X.env.scope.names.lookup x = some .local := by first | exact .inl rfl | exact .inr rfl | assumption) : wpAny M A (storeName X.env x u) Q E s := by
  obtain ⟨m, hn, hl⟩ := id I.loc
  have hcls : (X.env.scope.kind == .class || (X.env.scope.kind == .module && X.env.locals != X.env.globals)) = false := by rw [I.ok.kind]; rfl
  have hiσ : i < σ.length := by rw [I.len]; exact (List.getElem?_eq_some_iff.mp hi).1
  have cne := I.cne
  have tracked : ∀ {a : Addr} {h' : Heap}, (∃ o, s.heap.get? a = some o ∧ H a = none) → Heap.SameBut a s.heap h' → HOk X.prog X.w H h' := fun {a h'} ha hs b ob e => by
    obtain ⟨_, _, hfree⟩ := ha
    refine (I.hok b ob e).stay (fun c w' hc q => (hs.2 c ?_).trans q) (fun _ q => q) fun _ _ q => q
    rintro rfl
    rcases hc with rfl | hc
    · rw [hfree] at e; cases e
    · rw [hfree] at hc; cases hc
  rcases hx with hk | hk
  · refine wpAny_storeName_local hk hn (fun h' hn' hs => ?_) hcls
    obtain ⟨oL, _, _, hoL, _⟩ := id hn
    refine h _ ⟨I.ok, I.os, I.bare, ⟨fun b o e n hb hx => ?_, fun b o e n hb hx => ?_, I.base.free, fun b o e hx => ?_, I.base.tups, I.base.frzs, I.base.tbls⟩, ⟨_, hn', fun j y v' e1 e2 e3 => ?_⟩, fun y c e => ?_, I.free, I.freeC, fun p hp => ?_, tracked ⟨oL, hoL, I.free⟩ hs, by simpa using I.len⟩ ⟨_, hs, .inl rfl⟩
    · exact (hs.2 b (Nat.ne_of_lt (Nat.lt_of_lt_of_le (Heap.lt_size e) I.ok.above))).trans (I.base.keep b o e n hb hx)
    · obtain ⟨sl, e1⟩ := I.base.slot b o e n hb hx
      exact ⟨sl, (hs.2 b (Nat.ne_of_lt (Nat.lt_of_lt_of_le (Heap.lt_size e) I.ok.above))).trans e1⟩
    · obtain ⟨o', e1⟩ := I.base.there b o e hx
      exact ⟨o', (hs.2 b (Nat.ne_of_lt (Nat.lt_of_lt_of_le (Heap.lt_size e) I.ok.above))).trans e1⟩
    · by_cases hj : j = i
      · subst hj
        rw [hi] at e1; cases e1
        rw [List.getElem?_set_self hiσ] at e2
        cases e2
        exact ⟨u, r, .inl ⟨hk, by simp⟩⟩
      · rw [List.getElem?_set_ne (Ne.symm hj)] at e2
        obtain ⟨u', r', q⟩ := hl j y v' e1 e2 e3
        refine ⟨u', r', ?_⟩
        rcases q with ⟨k, e⟩ | ⟨k, c, e, z⟩
        · refine .inl ⟨k, ?_⟩
          have : y ≠ x := fun e => hj (nodup_ix hN e1 (e ▸ hi))
          simp [this, e]
        · exact .inr ⟨k, c, e, z.sameBut hs (cne y c e)⟩
    · obtain ⟨w', z⟩ := I.cell y c e
      exact ⟨w', z.sameBut hs (cne y c e)⟩
    · obtain ⟨e, n, ne, nf, d⟩ := I.pin p hp
      exact ⟨(hs.2 p.1 ne).trans e, n, ne, nf, d⟩
  · have hfn : X.fn x = true := by
      rcases hf with z | z
      · exact z
      · rw [z] at hk; cases hk
    obtain ⟨c, hc⟩ := I.ok.has x (.inl hk)
    obtain ⟨w', z⟩ := I.cell x c hc
    refine wpAny_storeName_cell I.ok.kind hk hc z (fun h' hc' hs => ?_)
    obtain ⟨oc, hoc, hocd⟩ := id z
    refine h { s with heap := h' } ⟨I.ok, I.os, I.bare, ⟨fun b o e n hb hx => ?_, fun b o e n hb hx => ?_, I.base.free, fun b o e hx => ?_, I.base.tups, I.base.frzs, I.base.tbls⟩, ⟨m, hn.sameBut hs (Ne.symm (cne x c hc)), fun j y v' e1 e2 e3 => ?_⟩, fun y c' e => ?_, I.free, I.freeC, fun p hp => ?_, tracked ⟨oc, hoc, I.freeC x c hc⟩ hs, by simpa using I.len⟩ ⟨c, hs, .inr hc⟩
    · exact (hs.2 b (Nat.ne_of_lt (Nat.lt_of_lt_of_le (Heap.lt_size e) (I.ok.cab x c hfn hc)))).trans (I.base.keep b o e n hb hx)
    · obtain ⟨sl, e1⟩ := I.base.slot b o e n hb hx
      exact ⟨sl, (hs.2 b (Nat.ne_of_lt (Nat.lt_of_lt_of_le (Heap.lt_size e) (I.ok.cab x c hfn hc)))).trans e1⟩
    · obtain ⟨o', e1⟩ := I.base.there b o e hx
      exact ⟨o', (hs.2 b (Nat.ne_of_lt (Nat.lt_of_lt_of_le (Heap.lt_size e) (I.ok.cab x c hfn hc)))).trans e1⟩
    · by_cases hj : j = i
      · subst hj
        rw [hi] at e1; cases e1
        rw [List.getElem?_set_self hiσ] at e2
        cases e2
        exact ⟨u, r, .inr ⟨.inl hk, c, hc, hc'⟩⟩
      · rw [List.getElem?_set_ne (Ne.symm hj)] at e2
        obtain ⟨u', r', q⟩ := hl j y v' e1 e2 e3
        refine ⟨u', r', ?_⟩
        rcases q with q | ⟨k, c', e, z'⟩
        · exact .inl q
        · refine .inr ⟨k, c', e, z'.sameBut hs ?_⟩
          rintro rfl
          exact hj (nodup_ix hN e1 (I.ok.inj _ _ _ e hc ▸ hi))
    · by_cases hcc : c' = c
      · subst hcc; exact ⟨_, hc'⟩
      · obtain ⟨w2, z2⟩ := I.cell y c' e
        exact ⟨w2, z2.sameBut hs hcc⟩
    · obtain ⟨e, n, ne, nf, d⟩ := I.pin p hp
      refine ⟨(hs.2 p.1 ?_).trans e, n, ne, nf, d⟩
      intro q
      rw [q, hoc] at e
      have q' : oc = p.2 := Option.some.inj e
      exact d w' (by rw [← q']; exact hocd)
theorem store_ok {M : Model} {A : Around} {E : Value → Shared → Prop} {i : Nat} {x : Str} {v : V} {u : Value} {Q : Unit → Shared → Prop} (I : Inv X pins σ H s) (hN : X.N.Nodup) (hi : X.N[i]? = some x) (hx : Loc X.env.scope x) (r : RelV v u)
    (h : ∀ s', Inv X pins (σ.set i (some v)) H s' → Q () s') (hf : X.fn x = true ∨ X.env.scope.names.lookup x = some .local := by first | exact .inl rfl | exact .inr rfl | assumption) : wpAny M A (storeName X.env x u) Q E s :=
  store_ok2 I hN hi hx r (fun s' I' _ => h s' I') hf
theorem Inv.call' {s' : Shared} {ch : List Addr} (I : Inv X pins σ H s) (ho : s'.os = s.os) (u : Un (frs X.stack) ch H H' s.heap s'.heap) (hok : HOk X.prog X.w H' s'.heap) (hg : AllBare s'.gens)
    (hch : ∀ b ∈ ch, (b ∈ X.ex ∨ X.s₀.heap.objs.size ≤ b) ∧ b ≠ X.env.locals ∧ (∀ x c, X.env.cells.lookup x = some c → c ≠ b) ∧ ∀ p ∈ X.pn ++ pins, p.1 ≠ b) : Inv X pins σ H' s' := by
  obtain ⟨h', g', d', t', o'⟩ := s'
  have e : o' = s.os := ho
  subst e
  exact I.call (g' := g') (t' := t') (d' := d') u hok hg hch
end
abbrev XK := Value → Option Addr → Hp → Prop
abbrev St := List (Option V)
abbrev VK := V → Hp → Prop
abbrev TE := St → Hp → VK → Prop
abbrev TT := St → Hp → (Bool → Hp → Prop) → Prop
abbrev TA := St → Hp → (List V → Hp → Prop) → Prop
structure Ends where
  nx : St → Hp → Prop
  rt : VK
  bk : St → Hp → Prop := fun _ _ => False
  ct : St → Hp → Prop := fun _ _ => False
abbrev TS := Ends → St → Hp → Prop
def EP (X : Cx) (pins : List (Addr × Obj)) (σ : St) (Q : VK) (u : Value) (s' : Shared) : Prop := ∃ v H', Inv X pins σ H' s' ∧ RelV v u ∧ Q v H'
def TP (X : Cx) (pins : List (Addr × Obj)) (σ : St) (Q : Bool → Hp → Prop) (b : Bool) (s' : Shared) : Prop := ∃ H', Inv X pins σ H' s' ∧ Q b H'
def AP (X : Cx) (pins : List (Addr × Obj)) (σ : St) (Q : List V → Hp → Prop) (us : List Value) (s' : Shared) : Prop := ∃ vs H', Inv X pins σ H' s' ∧ Vals vs us ∧ Q vs H'
def SP (X : Cx) (pins : List (Addr × Obj)) (D : Ends) (f : Flow) (s' : Shared) : Prop :=
  match f with
  | .next => ∃ σ' H', Inv X pins σ' H' s' ∧ D.nx σ' H'
  | .brk => ∃ σ' H', Inv X pins σ' H' s' ∧ D.bk σ' H'
  | .cont => ∃ σ' H', Inv X pins σ' H' s' ∧ D.ct σ' H'
  | .ret u => ∃ v σ' H', Inv X pins σ' H' s' ∧ RelV v u ∧ D.rt v H'
def PE (X : Cx) (e : Expr) (t : TE) : Prop :=
  ∀ (pins : List (Addr × Obj)) (s : Shared) (σ : St) (H : Hp) (Q : VK), Inv X pins σ H s → t σ H Q → wpAny (model X.prog X.w) X.A (eval e X.env) (EP X pins σ Q) X.xe s
def PT (X : Cx) (e : Expr) (t : TT) : Prop :=
  ∀ (pins : List (Addr × Obj)) (s : Shared) (σ : St) (H : Hp) (Q : Bool → Hp → Prop), Inv X pins σ H s → t σ H Q → wpAny (model X.prog X.w) X.A (isTrue e X.env (eval e X.env)) (TP X pins σ Q) X.xe s
def PW (X : Cx) (e : Expr) (t : TT) : Prop :=
  ∀ (whole : Sem Value) (pins : List (Addr × Obj)) (s : Shared) (σ : St) (H : Hp) (Q : Bool → Hp → Prop), Inv X pins σ H s → t σ H Q → wpAny (model X.prog X.w) X.A (isTrue e X.env whole) (TP X pins σ Q) X.xe s
theorem PW.pt {X : Cx} {e : Expr} {t : TT} (h : PW X e t) : PT X e t := h _
def PA (X : Cx) (es : List Expr) (t : TA) : Prop :=
  ∀ (pos : Pos) (pins : List (Addr × Obj)) (s : Shared) (σ : St) (H : Hp) (Q : List V → Hp → Prop), Inv X pins σ H s → t σ H Q → wpAny (model X.prog X.w) X.A (spliced (backTo pos (starEach es X.env))) (AP X pins σ Q) X.xe s
def PS (X : Cx) (st : Stmt) (t : TS) : Prop :=
  ∀ (pins : List (Addr × Obj)) (s : Shared) (σ : St) (H : Hp) (D : Ends), Inv X pins σ H s → t D σ H → wpAny (model X.prog X.w) X.A (exec st X.env) (SP X pins D) X.xe s
def PSs (X : Cx) (st : List Stmt) (t : TS) : Prop :=
  ∀ (pins : List (Addr × Obj)) (s : Shared) (σ : St) (H : Hp) (D : Ends), Inv X pins σ H s → t D σ H → wpAny (model X.prog X.w) X.A (execs st X.env) (SP X pins D) X.xe s
theorem thn {α : Type} {t : Sem α} {Q Q' : α → Shared → Prop} {M : Model} {A : Around} {E : Value → Shared → Prop} {s : Shared} (h : wpAny M A t Q E s) (hQ : ∀ a s, Q a s → Q' a s) : wpAny M A t Q' E s := wpAny_mono h hQ fun _ _ x => x
end L2
namespace L2
open PySem PySem.Spec PyProof.Rows
section
variable {X : Cx}
def tVar (i : Nat) : TE := fun σ H Q => ∃ v, σ[i]? = some (some v) ∧ Q v H
def tC (v : V) : TE := fun _ H Q => Q v H
theorem pe_var {i : Nat} {x : Str} {pos : Pos} (hN : X.N[i]? = some x) (hv : Vis X.env.scope x) (hd : (x == ("__debug__" : Str)) = false := by decide) (hcd : (x == ("__classdict__" : Str)) = false := by decide) : PE X (.Name x pos) (tVar i) := by
  intro pins s σ H Q I h
  obtain ⟨v, e, h⟩ := h
  obtain ⟨m, hn, hl⟩ := I.loc
  obtain ⟨u, r, l⟩ := hl i x v hN e hv
  have fin : EP X pins σ Q u s := ⟨v, H, I, r, h⟩
  rcases l with ⟨hk, hm⟩ | ⟨hk, c, hc, hcell⟩
  · exact wpAny_Name (wpAny_loadName_local I.ok.kind hk hn hm fin) hd
  · rcases hk with hk | hk
    · exact wpAny_Name (wpAny_loadName_cell I.ok.kind hk hc hcell fin) hd
    · exact wpAny_Name (wpAny_loadName_free I.ok.kind hk hc hcell fin hcd) hd
theorem pe_int {i j pos} : PE X (.Constant (.int i) j pos) (tC (.int i)) := fun _ _ _ H _ I h => wpAny_Constant_int ⟨.int i, H, I.tok _, ⟨_, rfl⟩, h⟩
theorem pe_bl {b j pos} : PE X (.Constant (.bool b) j pos) (tC (.bl b)) := fun _ _ _ H _ I h => Constant_bool ⟨.bl b, H, I, rfl, h⟩
theorem pe_non {j pos} : PE X (.Constant .none j pos) (tC .non) := fun _ _ _ H _ I h => Constant_none ⟨.non, H, I, rfl, h⟩
theorem pe_str {x j pos} : PE X (.Constant (.str x) j pos) (tC (.str x)) := fun _ _ _ H _ I h => Calls.Constant_str ⟨.str x, H, I.tok _, ⟨_, rfl⟩, h⟩
def Gl (X : Cx) (x : Str) : Prop := X.env.kindOf x = some .globalImplicit
theorem ld_glob {E : Value → Shared → Prop} {pins : List (Addr × Obj)} {s : Shared} {σ : St} {H : Hp} {x : Str} {u : Value} {pos : Pos} {Q : Value → Shared → Prop} (I : Inv X pins σ H s) (hg : Gl X x) (hm : X.mg x = some u) (h : Q u s)
    (hd : (x == ("__debug__" : Str)) = false := by decide) : wpAny (model X.prog X.w) X.A (eval (.Name x pos) X.env) Q E s :=
  Calls.Name_function_global I.ok.kind hg (Calls.loadGlobal_global (by rw [I.ok.glob]; exact I.mod.glob.keeps I.bk) hm h) hd
theorem ld_blt {E : Value → Shared → Prop} {pins : List (Addr × Obj)} {s : Shared} {σ : St} {H : Hp} {x : Str} {u : Value} {pos : Pos} {Q : Value → Shared → Prop} (I : Inv X pins σ H s) (hg : Gl X x) (hm : X.mg x = none) (hv : bootBuiltins x = some u) (h : Q u s)
    (hn : x ≠ "__name__" := by decide) (hd : (x == ("__debug__" : Str)) = false := by decide) : wpAny (model X.prog X.w) X.A (eval (.Name x pos) X.env) Q E s := by
  obtain ⟨mb, h1, h2⟩ := I.mod.blt
  exact Calls.Name_function_global I.ok.kind hg (Calls.loadGlobal_builtin (by rw [I.ok.glob]; exact I.mod.glob.keeps I.bk) hm (by rw [I.ok.blt]; exact h1.keeps I.bk) ((h2 x hn).trans hv) h) hd
theorem pe_glob {x : Str} {v : V} {u : Value} {pos : Pos} (hg : Gl X x) (hm : X.mg x = some u) (r : RelV v u) (hd : (x == ("__debug__" : Str)) = false := by decide) : PE X (.Name x pos) (tC v) :=
  fun _ _ _ H _ I h => ld_glob I hg hm ⟨v, H, I, r, h⟩ hd
theorem pe_bltn {x : Str} {v : V} {u : Value} {pos : Pos} (hg : Gl X x) (hm : X.mg x = none) (hv : bootBuiltins x = some u) (r : RelV v u) (hn : x ≠ "__name__" := by decide) (hd : (x == ("__debug__" : Str)) = false := by decide) : PE X (.Name x pos) (tC v) :=
  fun _ _ _ H _ I h => ld_blt I hg hm hv ⟨v, H, I, r, h⟩ hn hd
variable {a b : Expr} {ta tb : TE} {pos : Pos}
def tB (t : TE) : TT := fun σ H Q => t σ H fun x H1 => ∃ c, x = .bl c ∧ Q c H1
theorem pt_val {e : Expr} {t : TE} (h : PE X e t) (he : ∀ whole, isTrue e X.env whole = (do let v ← whole; standAt e.pos; holding [v] (truthy v)) := by intro _; rfl) : PT X e (tB t) := by
  intro pins s σ H Q I hw
  refine isTrue_plain (thn (h pins s σ H _ I hw) fun v s1 ⟨x, H1, I1, r1, q1⟩ => ?_) (he _)
  obtain ⟨d, rfl, q⟩ := q1
  cases r1
  exact wpAny_truthy_bool ⟨H1, I1, q⟩
variable {tA tB' : TT} {rest : List Expr}
def tAnd (t u : TT) : TT := fun σ H Q => t σ H fun c H1 => if c = true then u σ H1 Q else Q false H1
def tOr (t u : TT) : TT := fun σ H Q => t σ H fun c H1 => if c = true then Q true H1 else u σ H1 Q
def tNot (t : TT) : TT := fun σ H Q => t σ H fun c H1 => Q (!c) H1
theorem pw_and1 (ha : PT X a tA) : PW X (.BoolOp .And [a] pos) tA := by
  intro wh pins s σ H Q I h
  refine isTrue_and (thn (ha pins s σ H Q I h) fun c s1 e => ?_)
  cases c with
  | true => exact isTrue_and_nil e
  | false => exact e
theorem pw_or1 (ha : PT X a tA) : PW X (.BoolOp .Or [a] pos) tA := by
  intro wh pins s σ H Q I h
  refine isTrue_or (thn (ha pins s σ H Q I h) fun c s1 e => ?_)
  cases c with
  | false => exact isTrue_or_nil e
  | true => exact e
theorem pw_and (ha : PT X a tA) (hb : PW X (.BoolOp .And (b :: rest) pos) tB') : PW X (.BoolOp .And (a :: b :: rest) pos) (tAnd tA tB') := by
  intro wh pins s σ H Q I h
  refine isTrue_and (thn (ha pins s σ H _ I h) fun c s1 ⟨H1, I1, q1⟩ => ?_)
  cases c with
  | true => exact hb wh pins s1 σ H1 Q I1 q1
  | false => exact ⟨H1, I1, q1⟩
theorem pw_or (ha : PT X a tA) (hb : PW X (.BoolOp .Or (b :: rest) pos) tB') : PW X (.BoolOp .Or (a :: b :: rest) pos) (tOr tA tB') := by
  intro wh pins s σ H Q I h
  refine isTrue_or (thn (ha pins s σ H _ I h) fun c s1 ⟨H1, I1, q1⟩ => ?_)
  cases c with
  | true => exact ⟨H1, I1, q1⟩
  | false => exact hb wh pins s1 σ H1 Q I1 q1
theorem pt_not (ha : PT X a tA) : PT X (.UnaryOp .Not a pos) (tNot tA) := by
  intro pins s σ H Q I h
  exact isTrue_not (ha pins s σ H (fun c H1 => Q (!c) H1) I h)
end
end L2
namespace L2
open PySem PySem.Spec PyProof.Rows
def SqL (K : PySem.W.Frag) (H : Hp) (a : Addr) (xs : List V) : Prop :=
  Rd H a (.lst xs) ∨
    ∃ (o : Obj) (its : Array Value) (n : Nat), K.lookup a = some o ∧ o.cls = .type "list" ∧ o.dict = none ∧ o.data = .seq its n ∧ its.size ≤ sizeLine ∧ Vals xs its.toList
def SqT (K : PySem.W.Frag) (H : Hp) (a : Addr) (xs : List V) : Prop :=
  Rd H a (.tup xs) ∨
    ∃ (o : Obj) (its : Array Value) (n : Nat), K.lookup a = some o ∧ o.cls = .type "tuple" ∧ o.data = .seq its n ∧ its.size ≤ sizeLine ∧ Vals xs its.toList
def absV : Value → Option V
  | .none => some .non
  | .bool b => some (.bl b)
  | .int i _ => some (.int i)
  | .str x _ => some (.str x)
  | .bytes b _ => some (.byt b)
  | .float b _ => some (.flt b)
  | .ref a => some (.ref a)
  | .type n => some (.ty n)
  | _ => none
theorem RelV.abs {x : V} {u : Value} (r : RelV x u) : absV u = some x := by
  cases x with
  | non => cases r; rfl
  | bl _ => cases r; rfl
  | int _ => obtain ⟨t, rfl⟩ := r; rfl
  | str _ => obtain ⟨t, rfl⟩ := r; rfl
  | byt _ => obtain ⟨t, rfl⟩ := r; rfl
  | flt _ => obtain ⟨t, rfl⟩ := r; rfl
  | ref _ => cases r; rfl
  | ty _ => cases r; rfl
theorem RelV.inj {x y : V} {u : Value} (r : RelV x u) (q : RelV y u) : x = y := Option.some.inj (r.abs.symm.trans q.abs)
theorem Vals.inj : ∀ {xs ys : List V} {us : List Value}, Vals xs us → Vals ys us → xs = ys
  | _, _, _, .nil, .nil => rfl
  | _, _, _, .cons r t, .cons r' t' => by rw [r.inj r', Vals.inj t t']
section
variable {X : Cx} {pins : List (Addr × Obj)} {σ : St} {H : Hp} {s : Shared} {a : Addr} {xs ys : List V}
theorem SqL.of {K : PySem.W.Frag} (h : H a = some (.lst xs)) : SqL K H a xs := .inl (.inl h)
theorem SqT.of {K : PySem.W.Frag} (h : H a = some (.tup xs)) : SqT K H a xs := .inl (.inl h)
theorem Inv.list (I : Inv X pins σ H s) (h : SqL X.K H a xs) : ∃ its : List Value, Vals xs its ∧ PlainL s.heap a its.toArray ∧ xs.length ≤ sizeLine := by
  rcases h with h | ⟨o, its, n, hk, hc, hd, hs, hz, r⟩
  · obtain ⟨z, its, n, r, e⟩ := h.ok I.hok
    exact ⟨its, r, ⟨_, n, e, rfl, rfl, rfl⟩, z⟩
  · refine ⟨its.toList, r, ⟨o, n, I.kIn a o hk, hc, hd, by simpa using hs⟩, ?_⟩
    have e := r.length
    simp only [Array.length_toList] at e
    omega
theorem Inv.tuple (I : Inv X pins σ H s) (h : SqT X.K H a xs) : ∃ its : List Value, Vals xs its ∧ IsTup s.heap a its.toArray ∧ xs.length ≤ sizeLine := by
  rcases h with h | ⟨o, its, n, hk, hc, hs, hz, r⟩
  · obtain ⟨z, its, r, p⟩ := h.ok I.hok
    exact ⟨its, r, p, z⟩
  · refine ⟨its.toList, r, ⟨o, I.kIn a o hk, hc, n, by simpa using hs⟩, ?_⟩
    have e := r.length
    simp only [Array.length_toList] at e
    omega
theorem Inv.list_inj (I : Inv X pins σ H s) (h : SqL X.K H a xs) (h' : SqL X.K H a ys) : xs = ys := by
  obtain ⟨its, r, ⟨o, n, e, _, _, d⟩, _⟩ := I.list h
  obtain ⟨its', r', ⟨o', n', e', _, _, d'⟩, _⟩ := I.list h'
  rw [e] at e'; cases e'
  rw [d] at d'
  injection d' with d1 _
  have : its = its' := by simpa using congrArg Array.toList d1
  subst this
  exact r.inj r'
end
abbrev Cx.wish (X : Cx) (E : Value → Shared → Prop) : Cx := { X with xe := E }
abbrev Cx.nox (X : Cx) : Cx := X.wish fun _ _ => False
theorem Cx.Ok.wish {X : Cx} (ok : X.Ok) (E : Value → Shared → Prop) : (X.wish E).Ok :=
  ⟨ok.mod, ok.kind, ok.glob, ok.blt, ok.above, ok.inj, ok.has, ok.cab, ok.hd, ok.frames, ok.stk, ok.exf, ok.bs, ok.bsz, ok.noex, ok.exfs, ok.funs, ok.frf⟩
theorem Cx.Ok.unwish {X : Cx} {E : Value → Shared → Prop} (ok : (X.wish E).Ok) : X.Ok :=
  ⟨ok.mod, ok.kind, ok.glob, ok.blt, ok.above, ok.inj, ok.has, ok.cab, ok.hd, ok.frames, ok.stk, ok.exf, ok.bs, ok.bsz, ok.noex, ok.exfs, ok.funs, ok.frf⟩
section
variable {X : Cx} {pins : List (Addr × Obj)} {σ : St} {H : Hp} {s : Shared} {E : Value → Shared → Prop}
theorem Inv.wish (I : Inv X pins σ H s) (E : Value → Shared → Prop) : Inv (X.wish E) pins σ H s := ⟨I.ok.wish E, I.os, I.bare, I.base, I.loc, I.cell, I.free, I.freeC, I.pin, I.hok, I.len⟩
theorem Inv.unwish (I : Inv (X.wish E) pins σ H s) : Inv X pins σ H s := ⟨I.ok.unwish, I.os, I.bare, I.base, I.loc, I.cell, I.free, I.freeC, I.pin, I.hok, I.len⟩
theorem SP.unwish {D : Ends} {f : Flow} {s' : Shared} (h : SP (X.wish E) pins D f s') : SP X pins D f s' := by
  cases f with
  | next => obtain ⟨σ', H', I, q⟩ := h; exact ⟨σ', H', I.unwish, q⟩
  | brk => obtain ⟨σ', H', I, q⟩ := h; exact ⟨σ', H', I.unwish, q⟩
  | cont => obtain ⟨σ', H', I, q⟩ := h; exact ⟨σ', H', I.unwish, q⟩
  | ret u => obtain ⟨v, σ', H', I, r, q⟩ := h; exact ⟨v, σ', H', I.unwish, r, q⟩
theorem PE.nox {e : Expr} {t : TE} (h : PE X.nox e t) : PE X e t := fun pins s σ H Q I hw =>
  wpAny_mono (h pins s σ H Q (I.wish _) hw) (fun _ _ ⟨v, H', I', r, q⟩ => ⟨v, H', I'.unwish, r, q⟩) fun _ _ z => False.elim z
theorem PT.nox {e : Expr} {t : TT} (h : PT X.nox e t) : PT X e t := fun pins s σ H Q I hw =>
  wpAny_mono (h pins s σ H Q (I.wish _) hw) (fun _ _ ⟨H', I', q⟩ => ⟨H', I'.unwish, q⟩) fun _ _ z => False.elim z
theorem PSs.nox {st : List Stmt} {t : TS} (h : PSs X.nox st t) : PSs X st t := fun pins s σ H D I hw =>
  wpAny_mono (h pins s σ H D (I.wish _) hw) (fun _ _ q => q.unwish) fun _ _ z => False.elim z
end
section
variable {X : Cx} {st : Stmt} {rest : List Stmt} {t u : TS} {e : Expr} {te : TE} {pos : Pos}
def tNext : TS := fun D σ H => D.nx σ H
def tSeq (t u : TS) : TS := fun D σ H => t { D with nx := u D } σ H
theorem pss_nil : PSs X [] tNext := fun _ _ σ H _ I h => wpAny_execs_nil ⟨σ, H, I, h⟩
theorem pss_cons (h1 : PS X st t) (h2 : PSs X rest u) : PSs X (st :: rest) (tSeq t u) := by
  intro pins s σ H D I h
  refine wpAny_execs_cons (thn (h1 pins s σ H { D with nx := u D } I h) fun f s1 q => ?_)
  cases f with
  | next =>
    obtain ⟨σ', H', I', q⟩ := q
    exact h2 pins s1 σ' H' D I' q
  | ret v => exact q
  | brk => exact q
  | cont => exact q
theorem pss_one (h1 : PS X st t) : PSs X [st] t := by
  intro pins s σ H D I h
  refine wpAny_execs_cons (thn (h1 pins s σ H D I h) fun f s1 q => ?_)
  cases f with
  | next => exact wpAny_execs_nil q
  | ret v => exact q
  | brk => exact q
  | cont => exact q
theorem Inv.quiet {pins : List (Addr × Obj)} {σ : St} {H : Hp} {s : Shared} (I : Inv X pins σ H s) : interactive X.env = false := by simp [interactive, I.ok.kind]
def tDrop (te : TE) : TS := fun D σ H => te σ H fun _ H1 => D.nx σ H1
theorem ps_expr (he : PE X e te) (hs : swapsWith e none pos.line X.env = pure false := by rfl) : PS X (.Expr e pos) (tDrop te) := by
  intro pins s σ H D I h
  exact wpAny_Expr_any (thn (he pins s σ H _ I h) fun v s1 ⟨x, H1, I1, r1, q1⟩ => ⟨σ, H1, I1, q1⟩) I.quiet hs
def tRet (te : TE) : TS := fun D σ H => te σ H D.rt
theorem ps_ret (he : PE X e te) : PS X (.Return (some e) pos) (tRet te) := by
  intro pins s σ H D I h
  exact wpAny_Return_some (thn (he pins s σ H _ I h) fun v s1 ⟨x, H1, I1, r1, q1⟩ => ⟨x, σ, H1, I1, r1, q1⟩)
def tIfS (c : TT) (t u : TS) : TS := fun D σ H => c σ H fun b H1 => if b = true then t D σ H1 else u D σ H1
theorem ps_if {c : Expr} {a b : List Stmt} {tc : TT} (hc : PT X c tc) (ha : PSs X a t) (hb : PSs X b u) : PS X (.If c a b pos) (tIfS tc t u) := by
  intro pins s σ H D I h
  refine wpAny_If (thn (hc pins s σ H _ I h) fun d s1 ⟨H1, I1, q1⟩ => ?_)
  cases d with
  | true => exact ha pins s1 σ H1 D I1 q1
  | false => exact hb pins s1 σ H1 D I1 q1
end
abbrev TG := V → St → Hp → (St → Hp → Prop) → Prop
abbrev TGs := List V → St → Hp → (St → Hp → Prop) → Prop
def PG (X : Cx) (target : Expr) (t : TG) : Prop :=
  ∀ (pins : List (Addr × Obj)) (s : Shared) (σ : St) (H : Hp) (v : V) (u : Value) (Q : St → Hp → Prop), Inv X pins σ H s → RelV v u → t v σ H Q →
    wpAny (model X.prog X.w) X.A (assign target X.env u) (fun _ s' => ∃ σ' H', Inv X pins σ' H' s' ∧ Q σ' H') X.xe s
def PGs (X : Cx) (ts : List Expr) (t : TGs) : Prop :=
  ∀ (pins : List (Addr × Obj)) (s : Shared) (σ : St) (H : Hp) (vs : List V) (us : List Value) (Q : St → Hp → Prop), Inv X pins σ H s → Vals vs us → t vs σ H Q →
    wpAny (model X.prog X.w) X.A (assignInOrder ((assignEach ts X.env).map (·.2)) us) (fun _ s' => ∃ σ' H', Inv X pins σ' H' s' ∧ Q σ' H') X.xe s
section
variable {X : Cx} {pos : Pos}
def gName (i : Nat) : TG := fun v σ H Q => Q (σ.set i (some v)) H
theorem pg_name {i : Nat} {x : Str} (hN : X.N.Nodup) (hi : X.N[i]? = some x) (hx : Loc X.env.scope x) (hf : X.fn x = true ∨ X.env.scope.names.lookup x = some .local := by first | exact .inl rfl | exact .inr rfl | assumption) : PG X (.Name x pos) (gName i) := by
  intro pins s σ H v u Q I r h
  exact wpAny_assign_Name (store_ok I hN hi hx r (fun s' I' => ⟨_, H, I', h⟩) hf)
def gNil : TGs := fun vs σ H Q => vs = [] ∧ Q σ H
def gCons (t : TG) (u : TGs) : TGs := fun vs σ H Q => ∃ v r, vs = v :: r ∧ t v σ H fun σ' H' => u r σ' H' Q
theorem pgs_nil : PGs X [] gNil := by
  intro pins s σ H vs us Q I r h
  obtain ⟨e, h⟩ := h
  subst e
  cases r
  exact assignInOrder_nil ⟨σ, H, I, h⟩
theorem pgs_cons {e : Expr} {es : List Expr} {t : TG} {u : TGs} (h1 : PG X e t) (h2 : PGs X es u)
    (hs : (assignEach (e :: es) X.env).map (·.2) = assign e X.env :: (assignEach es X.env).map (·.2) := by rfl) : PGs X (e :: es) (gCons t u) := by
  intro pins s σ H vs us Q I r h
  obtain ⟨v, vr, e1, h⟩ := h
  subst e1
  cases r with
  | cons r rr =>
    rw [hs]
    refine assignInOrder_cons (thn (h1 pins s σ H _ _ _ I r h) fun _ s1 ⟨σ1, H1, I1, q1⟩ => ?_)
    exact h2 pins s1 σ1 H1 _ _ Q I1 rr q1
def gTup (K : PySem.W.Frag) (n : Nat) (t : TGs) : TG := fun v σ H Q => ∃ a xs, v = .ref a ∧ SqT K H a xs ∧ xs.length = n ∧ t xs σ H Q
theorem pg_tup {es : List Expr} {k : Nat} {t : TGs} {n : Nat} (hc : X.calm = true) (h : PGs X es t)
    (hn : (assignEach es X.env).length = n := by rfl) (hst : (assignEach es X.env).findIdx? (·.1) = none := by rfl) : PG X (.Tuple es k pos) (gTup X.K n t) := by
  intro pins s σ H v u Q I r hw
  obtain ⟨a, xs, e1, hq, hl, hw⟩ := hw
  subst e1
  cases r
  obtain ⟨its, rv, ht, hz⟩ := I.tuple hq
  refine assign_Tuple_tuple (I.ok.hd hc) ht (by simp [hn, ← hl, rv.length]) hst fun h' hx => ?_
  have I1 : Inv X pins σ H { s with heap := h' } := I.kept (t' := s.toks) fun b o e => hx b o (Nat.ne_of_lt (Heap.lt_size e)) e
  exact h pins _ σ H xs _ Q I1 (by simpa using rv) hw
def tAsg (te : TE) (g : TG) : TS := fun D σ H => te σ H fun x H1 => g x σ H1 D.nx
theorem ps_set {i : Nat} {x : Str} {e : Expr} {te : TE} {pos' : Pos} (hN : X.N.Nodup) (hi : X.N[i]? = some x) (hx : Loc X.env.scope x) (he : PE X e te) (hs : swapsWith e (some (.Name x pos')) pos.line X.env = pure false := by rfl) (hf : X.fn x = true ∨ X.env.scope.names.lookup x = some .local := by first | exact .inl rfl | exact .inr rfl | assumption) :
    PS X (.Assign [.Name x pos'] e pos) (tAsg te (gName i)) := by
  intro pins s σ H D I h
  refine wpAny_Assign_Name (thn (he pins s σ H _ I h) fun v s1 ⟨y, H1, I1, r1, q1⟩ => ?_) hs
  exact store_ok I1 hN hi hx r1 (fun s2 I2 => ⟨_, H1, I2, q1⟩) hf
end
section
variable {X : Cx} {pos : Pos}
end
structure It where
  go : Nat → Hp → Prop
  yld : Nat → Hp → V → Hp → Prop
  stop : Nat → Hp → Prop
def FpOk (X : Cx) (pins : List (Addr × Obj)) (H : Hp) (b : Addr) : Prop :=
  H b = none ∧ b ≠ X.env.locals ∧ b ∉ X.fs ∧ (b ∈ X.ex ∨ X.s₀.heap.objs.size ≤ b) ∧ (∀ x c, X.env.cells.lookup x = some c → c ≠ b) ∧ ∀ p ∈ X.pn ++ pins, p.1 ≠ b
theorem Inv.fpOk {X : Cx} {pins : List (Addr × Obj)} {σ : St} {H H' : Hp} {s : Shared} {b : Addr} (I : Inv X pins σ H s) (hb : s.heap.objs.size ≤ b) (hn : H' b = none) : FpOk X pins H' b := by
  refine ⟨hn, Nat.ne_of_gt (Nat.lt_of_lt_of_le I.lt hb), I.nofs hb, .inr (Nat.le_trans I.sz hb), fun x c e z => ?_, fun p hp z => ?_⟩
  · obtain ⟨v, q⟩ := I.cell x c e
    exact absurd (Nat.lt_of_lt_of_le q.lt (by rw [z]; exact hb)) (Nat.lt_irrefl _)
  · exact absurd (Nat.lt_of_lt_of_le (Heap.lt_size (I.pin p hp).1) (by rw [z]; exact hb)) (Nat.lt_irrefl _)
structure Turn (P : Program) (w : World) (K : PySem.W.Frag) (tg : Expr) (J : It) (fp : List Addr) (it : Addr) (tn : Nat → Heap → Prop) : Prop where
  mem : it ∈ fp
  obj : ∀ i h, tn i h → ∀ b ∈ fp, ∃ o, h.get? b = some o ∧ ∀ v, o.data ≠ .cell v
  keep : ∀ i h h', tn i h → (∀ b ∈ fp, ∀ o, h.get? b = some o → h'.get? b = some o) → tn i h'
  item : ∀ (X : Cx), X.prog = P → X.w = w → X.K = K → X.calm = true → ∀ (i : Nat) (pins : List (Addr × Obj)) (s : Shared) (σ : St) (H : Hp) (E : Value → Shared → Prop), Inv X pins σ H s → (∀ b ∈ fp, FpOk X pins H b) → tn i s.heap → J.go i H →
    wpAny (model P w) X.A (pyNext (.ref it)) (fun r s1 => ∃ u, r = some u ∧
      wpAny (model P w) X.A (letOwnedTupleGo tg (.ref it) u) (fun _ s2 => ∃ x H', Inv X pins σ H' s2 ∧ RelV x u ∧ J.yld i H x H' ∧ tn (i + 1) s2.heap ∧ ∀ b ∈ fp, H' b = none) E s1) E s
  done : ∀ (X : Cx), X.prog = P → X.w = w → X.K = K → X.calm = true → ∀ (i : Nat) (pins : List (Addr × Obj)) (s : Shared) (σ : St) (H : Hp) (E : Value → Shared → Prop), Inv X pins σ H s → (∀ b ∈ fp, FpOk X pins H b) → tn i s.heap → J.stop i H →
    wpAny (model P w) X.A (pyNext (.ref it)) (fun r s1 => r = none ∧ Inv X pins σ H s1) E s
  self : ∀ (A : Around) (i : Nat) (s : Shared) (Q : Value → Shared → Prop) (E : Value → Shared → Prop), tn i s.heap → Q (.ref it) s → wpAny (model P w) A (pyIter (.ref it)) Q E s
abbrev TI := St → Hp → (It → Hp → Prop) → Prop
def PIE (X : Cx) (pins : List (Addr × Obj)) (σ : St) (tg : Expr) (R : It → Hp → Prop) (itv : Value) (s2 : Shared) : Prop :=
  ∃ (it : Addr) (fp : List Addr) (tn : Nat → Heap → Prop) (J : It) (H' : Hp), itv = .ref it ∧ Inv X pins σ H' s2 ∧ Turn X.prog X.w X.K tg J fp it tn ∧ tn 0 s2.heap ∧ (∀ b ∈ fp, FpOk X pins H' b) ∧ R J H'
def PI (X : Cx) (tg iter : Expr) (wi : TI) : Prop :=
  ∀ (pins : List (Addr × Obj)) (s : Shared) (σ : St) (H : Hp) (R : It → Hp → Prop), Inv X pins σ H s → wi σ H R →
    wpAny (model X.prog X.w) X.A (eval iter X.env) (fun v s1 => wpAny (model X.prog X.w) X.A (pyIter v) (PIE X pins σ tg R) X.xe s1) X.xe s
theorem go_of {M : Model} {A : Around} {E : Value → Shared → Prop} {s : Shared} {tg : Expr} {it : Addr} {u : Value} {o : Obj} {n : String} {vs : Array Value} {Q : Unit → Shared → Prop} (ho : s.heap.get? it = some o) (hc : o.cls = .type n) (hd : o.data = .fields vs)
    (hn : ["enumerate", "zip", "dict_itemiterator", "dict_reverseitemiterator", "odict_iterator", "itertools.zip_longest", "itertools.pairwise"].contains n = false) (hQ : Q () s) : wpAny M A (letOwnedTupleGo tg (.ref it) u) Q E s := by
  unfold letOwnedTupleGo
  cases tg <;> first
    | exact wpAny_pure hQ
    | (cases u <;> first
        | exact wpAny_pure hQ
        | (refine wpAny_bind (wpAny_load ho ?_)
           rw [hc, hd]
           show wpAny M A (if (["enumerate", "zip", "dict_itemiterator", "dict_reverseitemiterator", "odict_iterator", "itertools.zip_longest", "itertools.pairwise"].contains n && vs[0]? == some (rawInt _)) = true then _ else _) Q E s
           rw [if_neg (by intro h; rw [hn, Bool.false_and] at h; cases h)]
           exact wpAny_pure hQ))
def Itl (K : PySem.W.Frag) (a : Addr) : It :=
  ⟨fun i H => ∃ xs x, SqL K H a xs ∧ xs[i]? = some x, fun i H x H' => H' = H ∧ ∀ xs, SqL K H a xs → xs[i]? = some x, fun i H => ∃ xs, SqL K H a xs ∧ xs.length ≤ i⟩
def Itr (lo : Int) (n : Nat) : It := ⟨fun i _ => i < n, fun i H x H' => H' = H ∧ x = .int (lo + i), fun i _ => n ≤ i⟩
theorem turn_list {P : Program} {w : World} {K : PySem.W.Frag} {tg : Expr} (a it : Addr) : Turn P w K tg (Itl K a) [it] it (fun i h => h.IsListIter it a i) where
  mem := by simp
  obj := fun i h st b hb => by
    have e : b = it := by simpa using hb
    subst e
    obtain ⟨o, e, c, d⟩ := st
    exact ⟨o, e, fun v z => by rw [d] at z; cases z⟩
  keep := fun i h h' st k => st.at fun o e => k it (by simp) o e
  item := by
    intro X hP hw hK hc i pins s σ H E I hf st hg
    subst hP hw hK
    obtain ⟨xs, x, hq, hx⟩ := hg
    obtain ⟨its, rv, p, hz⟩ := I.list hq
    obtain ⟨u, hu, ru⟩ := rv.get hx
    obtain ⟨f0, f1, f2, f3, f4, f5⟩ := hf it (by simp)
    refine wpAny_pyNext_list_item st p.isList (x := u) (by simpa using hu) fun h' st' sb => ?_
    have I1 : Inv X pins σ H { s with heap := h' } := I.turned (t' := s.toks) (fun b o hb e => (sb.2 b hb).trans e) f0 f1 f3 f4 f5
    obtain ⟨o, e, c, d⟩ := id st'
    exact ⟨u, rfl, go_of (s := { s with heap := h' }) e c d (by decide) ⟨x, H, I1, ru, ⟨rfl, fun ys hy => by rw [I.list_inj hy hq]; exact hx⟩, st', fun b hb => (hf b hb).1⟩⟩
  done := by
    intro X hP hw hK hc i pins s σ H E I hf st hg
    subst hP hw hK
    obtain ⟨xs, hq, hx⟩ := hg
    obtain ⟨its, rv, p, hz⟩ := I.list hq
    obtain ⟨f0, f1, f2, f3, f4, f5⟩ := hf it (by simp)
    have hl := rv.length
    exact wpAny_pyNext_list_end (I.ok.hd hc) st p.isList (by simp; omega) fun h' eb => ⟨rfl, I.turned (t' := s.toks) (fun b o hb e => eb b o hb e) f0 f1 f3 f4 f5⟩
  self := fun _ _ _ _ _ st h => wpAny_pyIter_listiter st h
theorem turn_range {P : Program} {w : World} {K : PySem.W.Frag} {tg : Expr} (it : Addr) (lo : Int) (n : Nat) : Turn P w K tg (Itr lo n) [it] it (fun i h => IsRangeIter h it (lo + (i : Nat) * 1) ((n : Int) - (i : Nat)) 1) where
  mem := by simp
  obj := fun i h st b hb => by
    have e : b = it := by simpa using hb
    subst e
    exact ⟨_, st, fun v z => by
      have z' : Data.fields _ = Data.cell v := z
      cases z'⟩
  keep := fun i h h' st k => k it (by simp) _ st
  item := by
    intro X hP hw hK hc i pins s σ H E I hf st hg
    subst hP hw hK
    obtain ⟨f0, f1, f2, f3, f4, f5⟩ := hf it (by simp)
    have W := Walks.range (prog := X.prog) (w := X.w) (I.ok.hd hc) it lo 1 n
    refine W.item i s _ _ hg st fun v h' tk hv st' kk => ?_
    obtain ⟨t, rfl⟩ := hv
    have I1 : Inv X pins σ H { s with heap := h', toks := tk } := I.turned (fun b o hb e => kk b o (by simpa using hb) e) f0 f1 f3 f4 f5
    refine ⟨_, rfl, go_of (s := { s with heap := h', toks := tk }) (n := "range_iterator") st' rfl rfl (by decide) ⟨.int (lo + i), H, I1, ⟨t, ?_⟩, ⟨rfl, rfl⟩, st', fun b hb => (hf b hb).1⟩⟩
    rw [Int.mul_one]
  done := by
    intro X hP hw hK hc i pins s σ H E I hf st hg
    subst hP hw hK
    obtain ⟨f0, f1, f2, f3, f4, f5⟩ := hf it (by simp)
    exact wpAny_pyNext_range_end (I.ok.hd hc) st (by have : n ≤ i := hg; omega) fun h' eb => ⟨rfl, I.turned (t' := s.toks) (fun b o hb e => eb b o hb e) f0 f1 f3 f4 f5⟩
  self := fun _ _ _ _ _ st h => wpAny_pyIter_rangeiter st h
end L2
namespace L2
open PySem PySem.Spec PyProof.Rows
section
variable {X : Cx} {tg : Expr}
def iList (K : PySem.W.Frag) (tl : TE) : TI := fun σ H R => tl σ H fun x H1 => ∃ a, x = .ref a ∧ (∃ xs, SqL K H1 a xs) ∧ R (Itl K a) H1
theorem pi_list {l : Expr} {tl : TE} (hl : PE X l tl) : PI X tg l (iList X.K tl) := by
  intro pins s σ H R I h
  refine thn (hl pins s σ H _ I h) fun v s1 ⟨x, H1, I1, r1, q1⟩ => ?_
  obtain ⟨a, e, ⟨xs, hq⟩, q⟩ := q1
  subst e
  cases r1
  obtain ⟨its, rv, p, hz⟩ := I1.list hq
  refine wpAny_pyIter_list p.isList ?_
  refine ⟨s1.heap.objs.size, [s1.heap.objs.size], _, _, H1, rfl, I1.kept (t' := s1.toks) fun b o e => Heap.get?_push_of_some _ e, turn_list a _, ⟨_, Heap.get?_push_size _ rfl, rfl, rfl⟩, fun b hb => ?_, q⟩
  have e : b = s1.heap.objs.size := by simpa using hb
  subst e
  exact I1.fpOk (Nat.le_refl _) (I1.hok.fresh (Nat.le_refl _))
theorem range_it {pins : List (Addr × Obj)} {σ : St} {H : Hp} {s : Shared} {R : It → Hp → Prop} {E : Value → Shared → Prop} {lo hi : Int} {t u v : Tok} {tk : Nat} (I : Inv X pins σ H s) (h1 : -(2 ^ 62) ≤ lo) (h2 : lo < 2 ^ 62) (h3 : -(2 ^ 62) ≤ hi) (h4 : hi < 2 ^ 62)
    (q : R (Itr lo (hi - lo).toNat) H) : wpAny (model X.prog X.w) X.A (pyIter (.ref s.heap.objs.size)) (PIE X pins σ tg R) E { s with heap := s.heap.push { cls := .type "range", data := .fields #[.int lo t, .int hi u, .int 1 v] }, toks := tk } := by
  refine wpAny_pyIter_range (IsRange.new ..) (small_one h1 h2 h3 h4) ?_
  have I1 : Inv X pins σ H { s with heap := s.heap.push { cls := .type "range", data := .fields #[.int lo t, .int hi u, .int 1 v] }, toks := tk } := I.kept fun b o e => Heap.get?_push_of_some _ e
  refine ⟨(s.heap.push { cls := .type "range", data := .fields #[.int lo t, .int hi u, .int 1 v] }).objs.size, [(s.heap.push { cls := .type "range", data := .fields #[.int lo t, .int hi u, .int 1 v] }).objs.size], _, _, H, rfl,
    I1.kept (t' := tk) fun b o e => Heap.get?_push_of_some _ e, turn_range _ lo (hi - lo).toNat, ?_, fun b hb => ?_, q⟩
  · have e1 : lo + ((0 : Nat) : Int) * 1 = lo := by simp
    have e2 : (((hi - lo).toNat : Nat) : Int) - ((0 : Nat) : Int) = Builtin.Range.rangeSize lo hi 1 := by rw [rangeSize_one]; split <;> omega
    show IsRangeIter _ _ (lo + ((0 : Nat) : Int) * 1) ((((hi - lo).toNat : Nat) : Int) - ((0 : Nat) : Int)) 1
    rw [e1, e2]
    exact Heap.get?_push_size _ rfl
  · have e : b = (s.heap.push { cls := .type "range", data := .fields #[.int lo t, .int hi u, .int 1 v] }).objs.size := by simpa using hb
    subst e
    exact I1.fpOk (Nat.le_refl _) (I1.hok.fresh (Nat.le_refl _))
def iRng1 (ta : TA) : TI := fun σ H R => ta σ H fun vs H1 => ∃ j : Int, vs = [.int j] ∧ -(2 ^ 62) ≤ j ∧ j < 2 ^ 62 ∧ R (Itr 0 j.toNat) H1
theorem pi_range1 {a : Expr} {ta : TA} {p pos : Pos} (hg : Gl X "range") (hm : X.mg "range" = none) (ha : PA X [a] ta) (hs : starEach [a] X.env = [(false, eval a X.env)] := by rfl) : PI X tg (.Call (.Name "range" p) [a] [] pos) (iRng1 ta) := by
  intro pins s σ H R I h
  refine Call_ (ld_blt I hg hm boot_range (PyProof.Rows.callWith_type1 (thn (ha pos pins s σ H _ I h) fun us s1 ⟨vs, H1, I1, r1, q1⟩ => ?_) hs rfl))
  obtain ⟨j, e, q1, q2, q⟩ := q1
  subst e
  cases r1 with
  | cons r rr =>
    cases rr
    obtain ⟨t, rfl⟩ := r
    exact call_range_1 (range_it I1 (by omega) (by omega) q1 q2 (by simpa using q))
def tFor (wi : TI) (g : TG) (tb : TS) : TS := fun D σ H => wi σ H fun J H1 => ∃ W : Nat → Nat → St → Hp → Prop, (∃ m, W 0 m σ H1) ∧ ∀ i m σ H, W i m σ H →
  (J.stop i H ∧ D.nx σ H) ∨ (J.go i H ∧ ∃ N : St → Hp → Prop, (∀ σ' H', N σ' H' → ∃ m', m' < m ∧ W (i + 1) m' σ' H') ∧ ∀ x H', J.yld i H x H' → g x σ H' fun σ2 H2 => tb { D with nx := N, ct := N, bk := D.nx } σ2 H2)
def pinsAt (fp : List Addr) (h : Heap) : List (Addr × Obj) := fp.filterMap fun b => (h.get? b).map fun o => (b, o)
theorem mem_pinsAt {fp : List Addr} {h : Heap} {b : Addr} {o : Obj} (hb : b ∈ fp) (e : h.get? b = some o) : (b, o) ∈ pinsAt fp h := List.mem_filterMap.mpr ⟨b, hb, by rw [e]; rfl⟩
theorem of_pinsAt {fp : List Addr} {h : Heap} {p : Addr × Obj} (hp : p ∈ pinsAt fp h) : p.1 ∈ fp ∧ h.get? p.1 = some p.2 := by
  obtain ⟨b, hb, e⟩ := List.mem_filterMap.mp hp
  cases q : h.get? b with
  | none => rw [q] at e; cases e
  | some o =>
    rw [q] at e
    have e' : (b, o) = p := Option.some.inj e
    subst e'
    exact ⟨hb, q⟩
theorem Inv.pinned {pins : List (Addr × Obj)} {σ : St} {H : Hp} {s : Shared} {fp : List Addr} (I : Inv X pins σ H s) (hf : ∀ b ∈ fp, FpOk X pins H b) (ho : ∀ b ∈ fp, ∃ o, s.heap.get? b = some o ∧ ∀ v, o.data ≠ .cell v) : Inv X (pins ++ pinsAt fp s.heap) σ H s :=
  I.pins_of fun p hp => (List.mem_append.mp hp).elim (fun z => I.pin p (List.mem_append_right _ z)) fun z => by
    obtain ⟨hb, e⟩ := of_pinsAt z
    obtain ⟨f0, f1, f2, _⟩ := hf p.1 hb
    obtain ⟨o, e', d⟩ := ho p.1 hb
    rw [e] at e'; cases e'
    exact ⟨e, f0, f1, f2, d⟩
theorem Inv.unpinned {pins pl : List (Addr × Obj)} {σ : St} {H : Hp} {s : Shared} (I : Inv X (pins ++ pl) σ H s) : Inv X pins σ H s := I.pins_of fun p hp => I.pin p (List.mem_append_right _ (List.mem_append_left _ hp))
theorem ps_for {iter : Expr} {body : List Stmt} {wi : TI} {g : TG} {tb : TS} {pos : Pos} (hp : PassesOwn (model X.prog X.w) X.A X.env X.xe) (hc : X.calm = true) (hi : PI X tg iter wi) (hg : PG X tg g) (hb : PSs X body tb)
    (hs : ∀ x, foldedSetIterable iter X.env x = pure x := by intro _; rfl) : PS X (.For tg iter body [] pos) (tFor wi g tb) := by
  intro pins s σ H D I h
  refine wpAny_For (thn (hi pins s σ H _ I h) fun v s1 h1 => thn h1 fun itv s2 h2 => ?_) hs
  obtain ⟨it, fp, tn, J, H2, e, I2, T, st2, f2, W, ⟨m0, w0⟩, turn⟩ := h2
  subst e
  have stat : ∀ {H' : Hp}, (∀ b ∈ fp, H' b = none) → ∀ b ∈ fp, FpOk X pins H' b := fun hn b hb => ⟨hn b hb, (f2 b hb).2⟩
  refine codeAny_forLoop_any (fun n s' => ∃ i σ' H', Inv X pins σ' H' s' ∧ tn i s'.heap ∧ (∀ b ∈ fp, H' b = none) ∧ W i n σ' H') ?_ m0 ⟨0, σ, H2, I2, st2, fun b hb => (f2 b hb).1, w0⟩
  rintro n s3 ⟨i, σ3, H3, I3, st3, fr3, w3⟩
  rcases turn i n σ3 H3 w3 with ⟨stop, qn⟩ | ⟨go, N, hN, step⟩
  · refine wpAny_passesOwn hp (thn (T.done X rfl rfl rfl hc i pins s3 σ3 H3 X.xe I3 (stat fr3) st3 stop) fun r s4 ⟨hr, I4⟩ => ?_)
    subst hr
    exact wpAny_execs_nil ⟨σ3, H3, I4, qn⟩
  · refine wpAny_passesOwn hp (thn (T.item X rfl rfl rfl hc i pins s3 σ3 H3 X.xe I3 (stat fr3) st3 go) fun r s4 ⟨u, hr, h4⟩ => ?_)
    subst hr
    refine wpAny_passesOwn hp (thn h4 fun _ s5 ⟨x, H5, I5, r5, y5, st5, fr5⟩ => ?_)
    have I5' := I5.pinned (stat fr5) (T.obj _ _ st5)
    refine wpAny_passesOwn hp (thn (hg _ s5 σ3 H5 x u _ I5' r5 (step x H5 y5)) fun _ s6 ⟨σ6, H6, I6, q6⟩ => ?_)
    refine wpAny_passesOwn hp (thn (hb _ s6 σ6 H6 _ I6 q6) fun f s7 q7 => ?_)
    have again : ∀ {σ7 : St} {H7 : Hp}, Inv X (pins ++ pinsAt fp s5.heap) σ7 H7 s7 → N σ7 H7 → ∃ m, m < n ∧ ∃ i σ' H', Inv X pins σ' H' s7 ∧ tn i s7.heap ∧ (∀ b ∈ fp, H' b = none) ∧ W i m σ' H' := fun {σ7 H7} I7 n7 => by
      obtain ⟨m', hm, w7⟩ := hN σ7 H7 n7
      refine ⟨m', hm, i + 1, σ7, H7, I7.unpinned, T.keep _ _ _ st5 fun b hb o e => (I7.pin (b, o) (List.mem_append_right _ (List.mem_append_right _ (mem_pinsAt hb e)))).1, fun b hb => ?_, w7⟩
      obtain ⟨o, e, d⟩ := T.obj _ _ st5 b hb
      exact (I7.pin (b, o) (List.mem_append_right _ (List.mem_append_right _ (mem_pinsAt hb e)))).2.1
    cases f with
    | next => obtain ⟨σ7, H7, I7, n7⟩ := q7; exact again I7 n7
    | cont => obtain ⟨σ7, H7, I7, n7⟩ := q7; exact again I7 n7
    | brk => obtain ⟨σ7, H7, I7, q7⟩ := q7; exact ⟨σ7, H7, I7.unpinned, q7⟩
    | ret v => obtain ⟨x7, σ7, H7, I7, r7, q7⟩ := q7; exact ⟨x7, σ7, H7, I7.unpinned, r7, q7⟩
end
theorem for_list {K : PySem.W.Frag} {a : Addr} {xs : List V} {g : TG} {tb : TS} {D : Ends} {σ : St} {H : Hp} (Pv : Nat → St → Hp → Prop) (h0 : Pv 0 σ H) (hl : ∀ i σ H, i ≤ xs.length → Pv i σ H → SqL K H a xs)
    (hs : ∀ i x σ H, xs[i]? = some x → Pv i σ H → g x σ H fun σ2 H2 => tb { D with nx := Pv (i + 1), ct := Pv (i + 1), bk := D.nx } σ2 H2) (hd : ∀ σ H, Pv xs.length σ H → D.nx σ H) :
    ∃ W : Nat → Nat → St → Hp → Prop, (∃ m, W 0 m σ H) ∧ ∀ i m σ H, W i m σ H →
      ((Itl K a).stop i H ∧ D.nx σ H) ∨ ((Itl K a).go i H ∧ ∃ N : St → Hp → Prop, (∀ σ' H', N σ' H' → ∃ m', m' < m ∧ W (i + 1) m' σ' H') ∧ ∀ x H', (Itl K a).yld i H x H' → g x σ H' fun σ2 H2 => tb { D with nx := N, ct := N, bk := D.nx } σ2 H2) := by
  refine ⟨fun i m σ H => m = xs.length - i ∧ i ≤ xs.length ∧ Pv i σ H, ⟨xs.length, by simp, Nat.zero_le _, h0⟩, ?_⟩
  rintro i m σ H ⟨rfl, hi, p⟩
  have q := hl i σ H hi p
  by_cases hlt : i < xs.length
  · refine .inr ⟨⟨xs, xs[i], q, by simp [hlt]⟩, Pv (i + 1), fun σ' H' p' => ⟨xs.length - (i + 1), by omega, rfl, hlt, p'⟩, fun x H' y => ?_⟩
    obtain ⟨e, y⟩ := y
    subst e
    exact hs i x σ _ (y xs q) p
  · have e : i = xs.length := by omega
    subst e
    exact .inl ⟨⟨xs, q, Nat.le_refl _⟩, hd σ H p⟩
theorem for_range {lo : Int} {n : Nat} {g : TG} {tb : TS} {D : Ends} {σ : St} {H : Hp} (Pv : Nat → St → Hp → Prop) (h0 : Pv 0 σ H)
    (hs : ∀ i σ H, i < n → Pv i σ H → g (.int (lo + i)) σ H fun σ2 H2 => tb { D with nx := Pv (i + 1), ct := Pv (i + 1), bk := D.nx } σ2 H2) (hd : ∀ σ H, Pv n σ H → D.nx σ H) :
    ∃ W : Nat → Nat → St → Hp → Prop, (∃ m, W 0 m σ H) ∧ ∀ i m σ H, W i m σ H →
      ((Itr lo n).stop i H ∧ D.nx σ H) ∨ ((Itr lo n).go i H ∧ ∃ N : St → Hp → Prop, (∀ σ' H', N σ' H' → ∃ m', m' < m ∧ W (i + 1) m' σ' H') ∧ ∀ x H', (Itr lo n).yld i H x H' → g x σ H' fun σ2 H2 => tb { D with nx := N, ct := N, bk := D.nx } σ2 H2) := by
  refine ⟨fun i m σ H => m = n - i ∧ i ≤ n ∧ Pv i σ H, ⟨n, by simp, Nat.zero_le _, h0⟩, ?_⟩
  rintro i m σ H ⟨rfl, hi, p⟩
  by_cases hlt : i < n
  · refine .inr ⟨hlt, Pv (i + 1), fun σ' H' p' => ⟨n - (i + 1), by omega, rfl, hlt, p'⟩, fun x H' y => ?_⟩
    obtain ⟨e, y⟩ := y
    subst e y
    exact hs i σ _ hlt p
  · have e : i = n := by omega
    subst e
    exact .inl ⟨Nat.le_refl _, hd σ H p⟩
end L2
namespace L2
open PySem PySem.Spec PyProof.Rows
abbrev R2 := V → V → Hp → VK → Prop
def OpR (X : Cx) (f : Value → Value → Sem Value) (r : R2) : Prop :=
  ∀ (pins : List (Addr × Obj)) (s : Shared) (σ : St) (H : Hp) (x y : V) (v u : Value) (Q : VK), Inv X pins σ H s → RelV x v → RelV y u → r x y H Q →
    wpAny (model X.prog X.w) X.A (f v u) (EP X pins σ Q) X.xe s
def CallR (X : Cx) (f : Value) (r : List V → Hp → VK → Prop) : Prop :=
  ∀ (pins : List (Addr × Obj)) (s : Shared) (σ : St) (H : Hp) (xs : List V) (us : List Value) (Q : VK), Inv X pins σ H s → Vals xs us → r xs H Q →
    wpAny (model X.prog X.w) X.A (call f us) (EP X pins σ Q) X.xe s
def tOp (r : R2) (ta tb : TE) : TE := fun σ H Q => ta σ H fun x H1 => tb σ H1 fun y H2 => r x y H2 Q
def rI (C : Int → Int → Prop) (g : Int → Int → V) : R2 := fun x y H Q => ∃ i j, x = .int i ∧ y = .int j ∧ C i j ∧ Q (g i j) H
def rI0 (g : Int → Int → V) : R2 := fun x y H Q => ∃ i j, x = .int i ∧ y = .int j ∧ Q (g i j) H
section
variable {X : Cx} {a b c : Expr} {ta tb tc : TE} {pos : Pos}
theorem binT (ha : PE X a ta) (hb : PE X b tb) {pins : List (Addr × Obj)} {s : Shared} {σ : St} {H : Hp} {R : V → V → Hp → Prop} (I : Inv X pins σ H s)
    (h : ta σ H fun x H1 => tb σ H1 fun y H2 => R x y H2) {Q : Value → Shared → Prop} {f : Value → Value → Sem Value}
    (hf : ∀ v u s2 x y H2, Inv X pins σ H2 s2 → RelV x v → RelV y u → R x y H2 → wpAny (model X.prog X.w) X.A (f v u) Q X.xe s2) :
    wpAny (model X.prog X.w) X.A (eval a X.env) (fun v s₁ => wpAny (model X.prog X.w) X.A (eval b X.env) (fun u s₂ => wpAny (model X.prog X.w) X.A (f v u) Q X.xe s₂) X.xe s₁) X.xe s := by
  refine thn (ha pins s σ H _ I h) fun v s1 ⟨x, H1, I1, r1, q1⟩ => ?_
  refine thn (hb pins s1 σ H1 _ I1 q1) fun u s2 ⟨y, H2, I2, r2, q2⟩ => ?_
  exact hf v u s2 x y H2 I2 r1 r2 q2
theorem pe_op {op : Operator} {r : R2} (ho : OpR X (binaryOp op) r) (ha : PE X a ta) (hb : PE X b tb) : PE X (.BinOp a op b pos) (tOp r ta tb) := by
  intro pins s σ H Q I h
  exact wpAny_BinOp (binT ha hb I h fun v u s2 x y H2 I2 rx ry q => ho pins s2 σ H2 x y v u Q I2 rx ry q)
theorem opI {f : Value → Value → Sem Value} {C : Int → Int → Prop} {g : Int → Int → Int}
    (rule : ∀ (i j : Int) (t u : Tok) (s : Shared) (Q : Value → Shared → Prop) (E : Value → Shared → Prop), C i j → Q (.int (g i j) s.toks) { s with toks := s.toks + 1 } → wpAny (model X.prog X.w) X.A (f (.int i t) (.int j u)) Q E s) :
    OpR X f (rI C fun i j => .int (g i j)) := by
  intro pins s σ H x y v u Q I rx ry h
  obtain ⟨i, j, rfl, rfl, hc, q⟩ := h
  obtain ⟨t, rfl⟩ := rx
  obtain ⟨t', rfl⟩ := ry
  exact rule i j t t' s _ _ hc ⟨.int (g i j), H, I.tok _, ⟨_, rfl⟩, q⟩
theorem opI0 {f : Value → Value → Sem Value} {g : Int → Int → Int}
    (rule : ∀ (i j : Int) (t u : Tok) (s : Shared) (Q : Value → Shared → Prop) (E : Value → Shared → Prop), Q (.int (g i j) s.toks) { s with toks := s.toks + 1 } → wpAny (model X.prog X.w) X.A (f (.int i t) (.int j u)) Q E s) :
    OpR X f (rI0 fun i j => .int (g i j)) := by
  intro pins s σ H x y v u Q I rx ry h
  obtain ⟨i, j, rfl, rfl, q⟩ := h
  obtain ⟨t, rfl⟩ := rx
  obtain ⟨t', rfl⟩ := ry
  exact rule i j t t' s _ _ ⟨.int (g i j), H, I.tok _, ⟨_, rfl⟩, q⟩
theorem opB0 {f : Value → Value → Sem Value} {g : Int → Int → Bool}
    (rule : ∀ (i j : Int) (t u : Tok) (s : Shared) (Q : Value → Shared → Prop) (E : Value → Shared → Prop), Q (.bool (g i j)) s → wpAny (model X.prog X.w) X.A (f (.int i t) (.int j u)) Q E s) :
    OpR X f (rI0 fun i j => .bl (g i j)) := by
  intro pins s σ H x y v u Q I rx ry h
  obtain ⟨i, j, rfl, rfl, q⟩ := h
  obtain ⟨t, rfl⟩ := rx
  obtain ⟨t', rfl⟩ := ry
  exact rule i j t t' s _ _ ⟨.bl (g i j), H, I, rfl, q⟩
def CPow (i j : Int) : Prop := 0 ≤ j ∧ j ≤ 1000000 ∧ i.natAbs < 2 ^ 64
def CMul (i j : Int) : Prop := (-(2 ^ 64) < i ∧ i < 2 ^ 64) ∨ (-(2 ^ 64) < j ∧ j < 2 ^ 64)
theorem CMul.ok {i j : Int} (h : CMul i j) : IntMulOk i j := by
  rcases h with ⟨h1, h2⟩ | ⟨h1, h2⟩
  · exact .of_left (intBits_le_64 h1 h2)
  · exact .of_right (intBits_le_64 h1 h2)
theorem op_add : OpR X (binaryOp .Add) (rI0 fun i j => .int (i + j)) := opI0 fun _ _ _ _ _ _ _ q => add_int q
theorem op_sub : OpR X (binaryOp .Sub) (rI0 fun i j => .int (i - j)) := opI0 fun _ _ _ _ _ _ _ q => sub_int q
theorem op_mod : OpR X (binaryOp .Mod) (rI (fun _ j => 0 < j) fun i j => .int (i % j)) := opI fun i j _ _ _ _ _ hc q => by
  have h1 : (0 : Int) < j := hc
  exact mod_int' (by omega) (by rw [Int.fmod_eq_emod_of_nonneg i (by omega)]; exact q)
theorem op_pow : OpR X (binaryOp .Pow) (rI CPow fun i j => .int (i ^ j.toNat)) := opI fun _ _ _ _ _ _ _ hc q => pow_int_small hc.1 hc.2.1 hc.2.2 q
end
def scal : V → V → Bool
  | .non, .non => true | .non, .int _ => true | .int _, .non => true | .non, .bl _ => true | .bl _, .non => true | .non, .str _ => true | .str _, .non => true
  | .int _, .int _ => true | .bl _, .bl _ => true | .str _, .str _ => true | .byt _, .byt _ => true
  | .int _, .str _ => true | .str _, .int _ => true | .bl _, .str _ => true | .str _, .bl _ => true
  | _, _ => false
def rEq : R2 := fun x y H Q => scal x y = true ∧ Q (.bl (decide (x = y))) H
def rNe : R2 := fun x y H Q => scal x y = true ∧ Q (.bl (!decide (x = y))) H
theorem dec_int {i j : Int} : decide (V.int i = V.int j) = (i == j) := by
  rw [Bool.eq_iff_iff]
  simp
theorem dec_bl {i j : Bool} : decide (V.bl i = V.bl j) = (i == j) := by
  rw [Bool.eq_iff_iff]
  simp
theorem dec_str {i j : Str} : decide (V.str i = V.str j) = (i == j) := by
  rw [Bool.eq_iff_iff]
  simp
theorem dec_byt {i j : Array UInt8} : decide (V.byt i = V.byt j) = (i.toList == j.toList) := by
  rw [Bool.eq_iff_iff]
  cases i
  cases j
  simp
section
variable {X : Cx} {a b c : Expr} {ta tb tc : TE} {pos : Pos}
theorem fin_bl {pins : List (Addr × Obj)} {σ : St} {H : Hp} {s : Shared} {Q : VK} {k k' : Bool} (I : Inv X pins σ H s) (q : Q (.bl k) H) (e : k = k') : EP X pins σ Q (.bool k') s := by
  subst e
  exact ⟨.bl k, H, I, rfl, q⟩
theorem op_eq : OpR X (compareOp .Eq) rEq := by
  intro pins s σ H x y v u Q I rx ry h
  obtain ⟨hs, q⟩ := h
  cases x with
  | non =>
    cases rx
    cases y with
    | non => cases ry; exact PySem.EqNone.eq_none_none (fin_bl I q (by simp))
    | bl j => cases ry; exact PySem.EqNone.eq_none_bool (fin_bl I q (by simp))
    | int j => obtain ⟨t', rfl⟩ := ry; exact PySem.EqNone.eq_none_int (fin_bl I q (by simp))
    | str j => obtain ⟨t', rfl⟩ := ry; exact PySem.EqNone.eq_none_str (fin_bl I q (by simp))
    | _ => exact absurd (show false = true from hs) Bool.false_ne_true
  | bl i =>
    cases rx
    cases y with
    | non => cases ry; exact PySem.EqNone.eq_bool_none (fin_bl I q (by simp))
    | bl j => cases ry; exact eq_bool (fin_bl I q dec_bl)
    | str j => obtain ⟨t', rfl⟩ := ry; exact PySem.EqMixed.eq_bool_str (fin_bl I q (by simp))
    | _ => exact absurd (show false = true from hs) Bool.false_ne_true
  | int i =>
    obtain ⟨t, rfl⟩ := rx
    cases y with
    | non => cases ry; exact PySem.EqNone.eq_int_none (fin_bl I q (by simp))
    | int j => obtain ⟨t', rfl⟩ := ry; exact eq_int (fin_bl I q dec_int)
    | str j => obtain ⟨t', rfl⟩ := ry; exact PySem.EqMixed.eq_int_str (fin_bl I q (by simp))
    | _ => exact absurd (show false = true from hs) Bool.false_ne_true
  | str i =>
    obtain ⟨t, rfl⟩ := rx
    cases y with
    | non => cases ry; exact PySem.EqNone.eq_str_none (fin_bl I q (by simp))
    | bl j => cases ry; exact PySem.EqMixed.eq_str_bool (fin_bl I q (by simp))
    | int j => obtain ⟨t', rfl⟩ := ry; exact PySem.EqMixed.eq_str_int (fin_bl I q (by simp))
    | str j => obtain ⟨t', rfl⟩ := ry; exact eq_str (fin_bl I q dec_str)
    | _ => exact absurd (show false = true from hs) Bool.false_ne_true
  | byt i =>
    obtain ⟨t, rfl⟩ := rx
    cases y with
    | byt j => obtain ⟨t', rfl⟩ := ry; exact PySem.W.eq_bytes (fin_bl I q dec_byt)
    | _ => exact absurd (show false = true from hs) Bool.false_ne_true
  | _ => cases y <;> exact absurd (show false = true from hs) Bool.false_ne_true
theorem op_ne : OpR X (compareOp .NotEq) rNe := by
  intro pins s σ H x y v u Q I rx ry h
  obtain ⟨hs, q⟩ := h
  cases x with
  | non =>
    cases rx
    cases y with
    | non => cases ry; exact PySem.EqNone.ne_none_none (fin_bl I q (by simp))
    | bl j => cases ry; exact PySem.EqNone.ne_none_bool (fin_bl I q (by simp))
    | int j => obtain ⟨t', rfl⟩ := ry; exact PySem.EqNone.ne_none_int (fin_bl I q (by simp))
    | str j => obtain ⟨t', rfl⟩ := ry; exact PySem.EqNone.ne_none_str (fin_bl I q (by simp))
    | _ => exact absurd (show false = true from hs) Bool.false_ne_true
  | bl i =>
    cases rx
    cases y with
    | non => cases ry; exact PySem.EqNone.ne_bool_none (fin_bl I q (by simp))
    | bl j => cases ry; exact ne_bool (fin_bl I q (congrArg not dec_bl))
    | str j => obtain ⟨t', rfl⟩ := ry; exact PySem.EqMixed.ne_bool_str (fin_bl I q (by simp))
    | _ => exact absurd (show false = true from hs) Bool.false_ne_true
  | int i =>
    obtain ⟨t, rfl⟩ := rx
    cases y with
    | non => cases ry; exact PySem.EqNone.ne_int_none (fin_bl I q (by simp))
    | int j => obtain ⟨t', rfl⟩ := ry; exact ne_int (fin_bl I q (congrArg not dec_int))
    | str j => obtain ⟨t', rfl⟩ := ry; exact PySem.EqMixed.ne_int_str (fin_bl I q (by simp))
    | _ => exact absurd (show false = true from hs) Bool.false_ne_true
  | str i =>
    obtain ⟨t, rfl⟩ := rx
    cases y with
    | non => cases ry; exact PySem.EqNone.ne_str_none (fin_bl I q (by simp))
    | bl j => cases ry; exact PySem.EqMixed.ne_str_bool (fin_bl I q (by simp))
    | int j => obtain ⟨t', rfl⟩ := ry; exact PySem.EqMixed.ne_str_int (fin_bl I q (by simp))
    | str j => obtain ⟨t', rfl⟩ := ry; exact ne_str (fin_bl I q (congrArg not dec_str))
    | _ => exact absurd (show false = true from hs) Bool.false_ne_true
  | byt i =>
    obtain ⟨t, rfl⟩ := rx
    cases y with
    | byt j => obtain ⟨t', rfl⟩ := ry; exact PySem.W.ne_bytes (fin_bl I q (congrArg not dec_byt))
    | _ => exact absurd (show false = true from hs) Bool.false_ne_true
  | _ => cases y <;> exact absurd (show false = true from hs) Bool.false_ne_true
theorem op_lt : OpR X (compareOp .Lt) (rI0 fun i j => .bl (decide (i < j))) := opB0 fun _ _ _ _ _ _ _ q => lt_int q
theorem op_gt : OpR X (compareOp .Gt) (rI0 fun i j => .bl (decide (j < i))) := opB0 fun _ _ _ _ _ _ _ q => gt_int q
theorem op_ge : OpR X (compareOp .GtE) (rI0 fun i j => .bl (decide (j ≤ i))) := opB0 fun _ _ _ _ _ _ _ q => ge_int q
theorem op_isN : OpR X (compareOp .Is) (fun x y H Q => y = .non ∧ Q (.bl (decide (x = .non))) H) := by
  intro pins s σ H x y v u Q I rx ry h
  obtain ⟨rfl, q⟩ := h
  cases ry
  refine is_none_gen (fin_bl I q ?_)
  cases x <;> first
    | (cases rx; rfl)
    | (obtain ⟨t, rfl⟩ := rx; rfl)
theorem op_notN : OpR X (compareOp .IsNot) (fun x y H Q => y = .non ∧ Q (.bl (!decide (x = .non))) H) := by
  intro pins s σ H x y v u Q I rx ry h
  obtain ⟨rfl, q⟩ := h
  cases ry
  refine isnot_none_gen (fin_bl I q ?_)
  cases x <;> first
    | (cases rx; rfl)
    | (obtain ⟨t, rfl⟩ := rx; rfl)
theorem OpR.or {f : Value → Value → Sem Value} {r r' : R2} (h : OpR X f r) (h' : OpR X f r') : OpR X f (fun x y H Q => r x y H Q ∨ r' x y H Q) := by
  intro pins s σ H x y v u Q I rx ry q
  rcases q with q | q
  · exact h pins s σ H x y v u Q I rx ry q
  · exact h' pins s σ H x y v u Q I rx ry q
theorem nomark (b : Expr) {op : CmpOp} (h : op ≠ .In := by decide) (h2 : op ≠ .NotIn := by decide) : behindInMarks op b = false := by
  have e1 : (op == CmpOp.In) = false := by cases op <;> first | rfl | exact absurd rfl h
  have e2 : (op == CmpOp.NotIn) = false := by cases op <;> first | rfl | exact absurd rfl h2
  cases b <;> simp [behindInMarks, e1, e2]
def tTest (t : TE) : TT := fun σ H Q => t σ H fun x H' => ∃ k, x = .bl k ∧ Q k H'
theorem pt_cmpR {op : CmpOp} {r : R2} (ho : OpR X (compareOp op) r) (ha : PE X a ta) (hb : PE X b tb) (hm : behindInMarks op b = false) : PT X (.Compare a [op] [b] pos) (tTest (tOp r ta tb)) := by
  intro pins s σ H Q I h
  refine wpAny_isTrue_Compare1 (thn (ha pins s σ H _ I h) fun v s1 ⟨x, H1, I1, r1, q1⟩ => thn (hb pins s1 σ H1 _ I1 q1) fun u s2 ⟨y, H2, I2, r2, q2⟩ =>
    thn (ho pins s2 σ H2 x y v u _ I2 r1 r2 q2) fun c s3 ⟨z, H3, I3, r3, k, e, q3⟩ => ?_) hm
  subst e
  cases r3
  exact wpAny_truthy_bool ⟨H3, I3, q3⟩
theorem line63 : (sizeLine : Nat) < 2 ^ 63 := by rw [sizeLine_eq]; decide
theorem vals1 {x : V} {us : List Value} (r : Vals [x] us) : ∃ u, us = [u] ∧ RelV x u := by
  cases r with
  | cons r1 r2 => cases r2; exact ⟨_, rfl, r1⟩
theorem vals2 {x y : V} {us : List Value} (r : Vals [x, y] us) : ∃ u w', us = [u, w'] ∧ RelV x u ∧ RelV y w' := by
  cases r with
  | cons r1 r2 =>
    cases r2 with
    | cons r3 r4 => cases r4; exact ⟨_, _, rfl, r1, r3⟩
theorem call_max2 (hc : X.calm = true) : CallR X (.builtin "max") (fun xs H Q => ∃ i j, xs = [.int i, .int j] ∧ Q (.int (if j > i then j else i)) H) := by
  intro pins s σ H xs us Q I r h
  obtain ⟨i, j, rfl, q⟩ := h
  obtain ⟨u, w', rfl, ⟨t, rfl⟩, ⟨t', rfl⟩⟩ := vals2 r
  refine max_two_ints (I.ok.hd hc) fun h' tk k => ⟨_, H, I.kept k, ?_, q⟩
  by_cases hj : j > i
  · rw [if_pos hj, if_pos hj]; exact ⟨_, rfl⟩
  · rw [if_neg hj, if_neg hj]; exact ⟨_, rfl⟩
theorem call_min2 (hc : X.calm = true) : CallR X (.builtin "min") (fun xs H Q => ∃ i j, xs = [.int i, .int j] ∧ Q (.int (if j < i then j else i)) H) := by
  intro pins s σ H xs us Q I r h
  obtain ⟨i, j, rfl, q⟩ := h
  obtain ⟨u, w', rfl, ⟨t, rfl⟩, ⟨t', rfl⟩⟩ := vals2 r
  refine min_two_ints (I.ok.hd hc) fun h' tk k => ⟨_, H, I.kept k, ?_, q⟩
  by_cases hj : j < i
  · rw [if_pos hj, if_pos hj]; exact ⟨_, rfl⟩
  · rw [if_neg hj, if_neg hj]; exact ⟨_, rfl⟩
end
end L2
namespace L2
open PySem PySem.Spec PyProof.Rows
structure ObjM (h : Heap) (x dx C : Addr) (mA : Str → Option Value) : Prop where
  obj : h.get? x = some (PySem.W.instObj C dx)
  ns : h.Ns1 dx mA
  ne : dx ≠ x
theorem lookIn_ns {h : Heap} {dx : Addr} {mA : Str → Option Value} (n : h.Ns1 dx mA) : ∃ od, h.get? dx = some od ∧ ∀ name, PySem.W.lookIn name od = some (mA name) := by
  obtain ⟨o, es, ep, ho, hd, hk, _, hm⟩ := n
  refine ⟨o, ho, fun name => ?_⟩
  have e := hm name
  unfold nsFind findBy at e
  rw [← Array.find?_toList] at e
  unfold PySem.W.lookIn
  rw [hd]
  dsimp only
  split
  · rename_i y q
    rw [q] at e
    exact congrArg some e
  · rename_i q
    rw [q] at e
    have a : es.toList.any (·.refKey) = false := by
      rw [List.any_eq_false]
      intro y hy
      obtain ⟨z, t, hkey⟩ := hk y (Array.mem_toList_iff.mp hy)
      simp [DictEntry.refKey, hkey]
    have a' : ¬ es.toList.any (·.refKey) = true := by rw [a]; exact Bool.false_ne_true
    rw [if_neg a']
    exact congrArg some e
theorem ObjM.look {h : Heap} {x dx C : Addr} {mA : Str → Option Value} (I : ObjM h x dx C mA) : ∃ od, PySem.W.InstAt h x (PySem.W.instObj C dx) C (some od) ∧ ∀ name, PySem.W.lookIn name od = some (mA name) :=
  let ⟨od, ho, hl⟩ := lookIn_ns I.ns
  ⟨od, ⟨I.obj, rfl, rfl, ho⟩, hl⟩
section
variable {prog : Program} {w : World} {A : Around} {E : Value → Shared → Prop} {s : Shared} {K : PySem.W.Frag} {x dx C f : Addr} {mA : Str → Option Value} {name : Str} {v : Value}
end
theorem RelO.none_of {o : Option Value} (r : RelO none o) : o = none := by
  cases o with
  | none => rfl
  | some u => exact (show False from r).elim
section
variable {P : Program} {w : World} {H H' : Hp} {h h' : Heap} {a C dx : Addr} {fs fs' : List (Str × V)}
theorem ins_get (hok : HOk P w H h) (e : H a = some (.ins C dx fs)) : ∃ mA, ObjM h a dx C mA ∧ (∀ f, RelO (fs.lookup f) (mA f)) ∧ PySem.Within mA (fs.map (·.1)) ∧ fs.length ≤ 1000 ∧ H dx = some (.own a) := by
  obtain ⟨d, z, ne, ob, mA, n, r, q⟩ := (show ObjOk P w H h a (.ins C dx fs) from hok a _ e)
  exact ⟨mA, ⟨ob, n, ne⟩, r, q, z, d⟩
end
structure Cls (K : PySem.W.Frag) (C : Addr) : Prop where
  pg : PySem.W.plainGet K C Str.empty = true
  hd : PySem.W.hasDictIn K C = true
  po : PySem.W.plainOver K C = true
  sa : PySem.W.findIn K (.ref C) "__setattr__" = some (some (.builtin "object.__setattr__"))
theorem Cls.get {K : PySem.W.Frag} {C : Addr} (c : Cls K C) (f : Str) : PySem.W.plainGet K C f = true := c.pg
structure Con (K : PySem.W.Frag) (C : Addr) (f : Str) (v : V) (u : Value) : Prop where
  at_ : PySem.W.findIn K (.ref C) f = some (some u)
  rel : RelV v u
  get : PySem.W.specialIn K u "__get__" = some none
  cp : PySem.W.copiedNames.contains f = false
structure Meth (K : PySem.W.Frag) (C : Addr) (m : Str) (f : Addr) : Prop where
  at_ : PySem.W.findIn K (.ref C) m = some (some (.ref f))
  fn : PySem.W.isFn K (.ref f) = true
  kp : PySem.W.keepIn K (.ref f) = true
section
variable {X : Cx} {pins : List (Addr × Obj)} {σ : St} {H : Hp} {s : Shared} {a C dx : Addr} {fs : List (Str × V)} {f : Str} {v : V} {A : Around} {E : Value → Shared → Prop}
end
section
variable {X : Cx} {o e value : Expr} {f : Str} {pos pos' tpos : Pos} {ta tv : TE}
end
section
variable {X : Cx} {pins : List (Addr × Obj)} {σ : St} {H : Hp} {s : Shared} {A : Around} {E : Value → Shared → Prop} {Q : Value → Shared → Prop} {c : Value} {b : Bool}
inductive TyOf (K : PySem.W.Frag) (H : Hp) : V → Value → Prop where
  | non : TyOf K H .non (.type "NoneType")
  | bl (x : Bool) : TyOf K H (.bl x) (.type "bool")
  | int (i : Int) : TyOf K H (.int i) (.type "int")
  | str (x : Str) : TyOf K H (.str x) (.type "str")
  | flt (x : UInt64) : TyOf K H (.flt x) (.type "float")
  | lst {a : Addr} {xs : List V} (e : H a = some (.lst xs)) : TyOf K H (.ref a) (.type "list")
  | frz {a : Addr} {o : Obj} {xs : List V} (e : H a = some (.frz o (.lst xs))) : TyOf K H (.ref a) (.type "list")
  | tup {a : Addr} {xs : List V} (e : H a = some (.tup xs)) : TyOf K H (.ref a) (.type "tuple")
  | dK {a : Addr} {kvs : List (Key × V)} (e : H a = some (.dK kvs)) : TyOf K H (.ref a) (.type "dict")
  | dT {a : Addr} {kvs : List (List Key × V)} (e : H a = some (.dT kvs)) : TyOf K H (.ref a) (.type "dict")
  | ins {a C dx : Addr} {fs : List (Str × V)} (e : H a = some (.ins C dx fs)) (cl : Cls K C) (ha : PySem.W.findIn K (.ref C) "__class__" = some (some (.builtin "object.__class__")))
      (hn : PySem.W.specialIn K (.builtin "object.__class__") "__get__" = some (some (.builtin "getset_descriptor.__get__"))) (htk : PySem.W.takesIn K (.builtin "object.__class__") = some true)
      (hm : PySem.W.mroIn K C (.type "object") = some true) : TyOf K H (.ref a) (.ref C)
theorem isinst_ok {x : V} {u t : Value} (I : Inv X pins σ H s) (rx : RelV x u) (ty : TyOf X.K H x t) (e : PySem.W.kitOne X.K t c = some b) (h : ∀ tk, Q (.bool b) { s with toks := tk }) :
    wpAny (model X.prog X.w) A (call (.builtin "isinstance") [u, c]) Q E s := by
  cases ty with
  | non => cases (show u = Value.none from rx); exact PySem.W.kia_one PySem.W.kitx_none I.kIn True.intro e (fun z => nomatch z) h
  | bl y => cases (show u = Value.bool y from rx); exact PySem.W.kia_one PySem.W.kitx_bool I.kIn True.intro e (fun z => nomatch z) h
  | int i => obtain ⟨t, q⟩ := (show ∃ t, u = Value.int i t from rx); cases q; exact PySem.W.kia_one PySem.W.kitx_int I.kIn True.intro e (fun z => nomatch z) h
  | str y => obtain ⟨t, q⟩ := (show ∃ t, u = Value.str y t from rx); cases q; exact PySem.W.kia_one PySem.W.kitx_str I.kIn True.intro e (fun z => nomatch z) h
  | flt y => obtain ⟨t, q⟩ := (show ∃ t, u = Value.float y t from rx); cases q; exact PySem.W.kia_one PySem.W.kitx_float I.kIn True.intro e (fun z => nomatch z) h
  | @lst a xs ea =>
    cases (show u = Value.ref a from rx)
    obtain ⟨_, _, n, _, h1⟩ := (show ObjOk X.prog X.w H s.heap a (.lst xs) from I.hok a _ ea)
    exact PySem.W.kia_one PySem.W.kitx_list I.kIn ⟨_, h1, rfl⟩ e (fun z => nomatch z) h
  | @frz a ob xs ea =>
    cases (show u = Value.ref a from rx)
    obtain ⟨_, _, _, n, _, h1⟩ := (show ObjOk X.prog X.w H s.heap a (.frz ob (.lst xs)) from I.hok a _ ea)
    exact PySem.W.kia_one PySem.W.kitx_list I.kIn ⟨_, h1, rfl⟩ e (fun z => nomatch z) h
  | @tup a xs ea =>
    cases (show u = Value.ref a from rx)
    obtain ⟨_, _, _, p⟩ := (show ObjOk X.prog X.w H s.heap a (.tup xs) from I.hok a _ ea)
    obtain ⟨o, h1, h2, _⟩ := p
    exact PySem.W.kia_one PySem.W.kitx_tuple I.kIn ⟨o, h1, h2⟩ e (fun z => nomatch z) h
  | @dK a kvs ea =>
    cases (show u = Value.ref a from rx)
    obtain ⟨_, _, vs, _, p⟩ := (show ObjOk X.prog X.w H s.heap a (.dK kvs) from I.hok a _ ea)
    obtain ⟨o, es, ep, h1, h2, _⟩ := p
    exact PySem.W.kia_one PySem.W.kitx_dict I.kIn ⟨o, h1, h2.1⟩ e (fun z => nomatch z) h
  | @dT a kvs ea =>
    cases (show u = Value.ref a from rx)
    obtain ⟨_, _, xs, _, o, es, ep, h1, h2, _⟩ := (show ObjOk X.prog X.w H s.heap a (.dT kvs) from I.hok a _ ea)
    exact PySem.W.kia_one PySem.W.kitx_dict I.kIn ⟨o, h1, h2.1⟩ e (fun z => nomatch z) h
  | @ins a C dx fs ea cl ha hn htk hm =>
    cases (show u = Value.ref a from rx)
    obtain ⟨mA, O, _⟩ := ins_get I.hok ea
    obtain ⟨od, J, _⟩ := O.look
    exact PySem.W.kia_one (PySem.W.kitx_own (cl.get _) cl.hd ha hn htk hm) I.kIn J e (fun z => nomatch z) h
end
end L2
namespace L2
open PySem PySem.Spec PyProof.Rows
structure Room (k : Nat) (A : Around) : Prop where
  hd : A.handled = none
  dp : A.depth + 3 * k + 5 < recursionLimit
  un : A.units + 16 * k + 200 < cLine
theorem Room.mono {j k : Nat} {A : Around} (r : Room k A) (h : j ≤ k) : Room j A := ⟨r.hd, by have := r.dp; omega, by have := r.un; omega⟩
theorem Room.deeper {k : Nat} {A : Around} (r : Room (k + 1) A) (env : Env) : Room k (A.deeper env) :=
  ⟨r.hd, by have := r.dp; show A.depth + 1 + 3 * k + 5 < _; omega, by have := r.un; show A.units + 3 + 16 * k + 200 < _; omega⟩
theorem Room.in1 {k : Nat} {A : Around} (r : Room (k + 1) A) : Room k A.in1 :=
  ⟨r.hd, by have := r.dp; show A.depth + 3 * k + 5 < _; omega, by have := r.un; show A.units + 1 + 16 * k + 200 < _; omega⟩
theorem make_depth {A : Around} {C : Addr} {us : List Value} {kw : List (Str × Value)} : (A.under (.builtin "type.__call__" ⟨.ref C :: us, kw⟩)).depth = A.depth + 1 := by
  first | rfl | simp [Around.under, Code.weight, Code.isCreation, Code.isGuard, Code.isCaller, Code.frames, Code.isFrame, guardIds]
theorem make_units {A : Around} {C : Addr} {us : List Value} {kw : List (Str × Value)} : (A.under (.builtin "type.__call__" ⟨.ref C :: us, kw⟩)).units = A.units + 1 := by
  first | rfl | simp [Around.under, Code.cUnits, Code.frames, Code.isFrame]
theorem Room.make {k : Nat} {A : Around} (r : Room (k + 1) A) (C : Addr) (us : List Value) (kw : List (Str × Value)) : Room k (A.under (.builtin "type.__call__" ⟨.ref C :: us, kw⟩)) :=
  ⟨r.hd, by have := r.dp; rw [make_depth]; omega, by have := r.un; rw [make_units]; omega⟩
theorem Room.depth {k : Nat} {A : Around} (r : Room k A) : A.depth < recursionLimit := by have := r.dp; omega
theorem Room.units {k : Nat} {A : Around} (r : Room k A) : A.units + 64 < cLine := by have := r.un; omega
def tNil : TA := fun _ H Q => Q [] H
def tCons (ta : TE) (tr : TA) : TA := fun σ H Q => ta σ H fun x H1 => tr σ H1 fun xs H2 => Q (x :: xs) H2
section
variable {X : Cx} {e : Expr} {es : List Expr} {te : TE} {t : TA} {pos : Pos}
theorem pa_nil : PA X [] tNil := fun _ _ _ _ H Q I h => Calls.spliced_nil ⟨[], H, I, .nil, h⟩
theorem pa_cons (ha : PE X e te) (hr : PA X es t) (hs : starEach (e :: es) X.env = (false, eval e X.env) :: starEach es X.env := by rfl) : PA X (e :: es) (tCons te t) := by
  intro pos pins s σ H Q I h
  rw [hs]
  show wpAny _ _ (spliced ((false, eval e X.env) :: backTo pos (starEach es X.env))) _ _ s
  refine Calls.spliced_cons (thn (ha pins s σ H _ I h) fun u s1 ⟨x, H1, I1, r1, q1⟩ => ?_)
  exact thn (hr pos pins s1 σ H1 _ I1 q1) fun us s2 ⟨xs, H2, I2, r2, q2⟩ => ⟨x :: xs, H2, I2, .cons r1 r2, q2⟩
def tTup (t : TA) : TE := fun σ H Q => t σ H fun xs H1 => xs.length ≤ sizeLine ∧ ∀ p, H1 p = none → Q (.ref p) (upd H1 p (.tup xs))
def tLst (t : TA) : TE := fun σ H Q => t σ H fun xs H1 => xs.length ≤ sizeLine ∧ ∀ p, H1 p = none → Q (.ref p) (upd H1 p (.lst xs))
theorem pe_tup {x1} (h : PA X es t) : PE X (.Tuple es x1 pos) (tTup t) := by
  intro pins s σ H Q I hq
  refine wpAny_Tuple_spliced (thn (h pos pins s σ H _ I hq) fun us s1 ⟨xs, H1, I1, r, z, q⟩ => ⟨by rw [← r.length]; exact z, ?_⟩)
  have hf : H1 s1.heap.objs.size = none := I1.hok.fresh (Nat.le_refl _)
  refine ⟨.ref s1.heap.objs.size, upd H1 s1.heap.objs.size (.tup xs), I1.laid (t' := s1.toks) (fun b u e => Heap.get?_push_of_some _ e) (Nat.le_refl _) ?_, rfl, q _ hf⟩
  exact ⟨z, us, r, ⟨_, Heap.get?_push_size _ rfl, rfl, _, rfl⟩⟩
theorem pe_lst (h : PA X es t) : PE X (.List es pos) (tLst t) := by
  intro pins s σ H Q I hq
  refine wpAny_List_spliced (thn (h pos pins s σ H _ I hq) fun us s1 ⟨xs, H1, I1, r, z, q⟩ => ⟨by rw [← r.length]; exact z, ?_⟩)
  have hf : H1 s1.heap.objs.size = none := I1.hok.fresh (Nat.le_refl _)
  refine ⟨.ref s1.heap.objs.size, upd H1 s1.heap.objs.size (.lst xs), I1.laid (t' := s1.toks) (fun b u e => Heap.get?_push_of_some _ e) (Nat.le_refl _) ?_, rfl, q _ hf⟩
  exact ⟨z, us, 0, r, Heap.get?_push_size _ rfl⟩
end
abbrev Sp := List V → Hp → VK → XK → Prop
abbrev CXT := List Env → Hp → Shared → XK → Value → Shared → Prop
structure Env0 (P : Program) (w : World) (K : PySem.W.Frag) (mg : Str → Option Value) (base : Heap) (A : Around) (outer : List Env) (s : Shared) (H : Hp) : Prop where
  frames : A.frames = some outer
  mod : Mod K mg base
  bs : ∀ b o, base.get? b = some o → s.heap.get? b = some o ∧ H b = none
  bsz : base.objs.size ≤ s.heap.objs.size
  funs : s.heap.FunFrames base outer
  frf : ∀ b ∈ frs outer, H b = none
  hok : HOk P w H s.heap
  bare : AllBare s.gens
def CE (outer : List Env) (P : Program) (w : World) (H : Hp) (s : Shared) (Q : VK) (u : Value) (s' : Shared) : Prop :=
  ∃ v H', s'.os = s.os ∧ AllBare s'.gens ∧ Un (frs outer) [] H H' s.heap s'.heap ∧ HOk P w H' s'.heap ∧ RelV v u ∧ Q v H'
def CR (CX : CXT) (outer : List Env) (P : Program) (w : World) (H : Hp) (s : Shared) (Q : VK) (E : XK) (r : Result) (s' : Shared) : Prop :=
  match r with
  | .ok (.ret u) => CE outer P w H s Q u s'
  | .ok _ => False
  | .error e => CX outer H s E e s'
structure FnOk (P : Program) (w : World) (K : PySem.W.Frag) (mg : Str → Option Value) (base : Heap) (CX : CXT) (k : Nat) (f : Addr) (fd : FuncData) (ps : List Str) (sp : Sp) : Prop where
  len : ∀ vs H Q E, sp vs H Q E → vs.length = ps.length
  run : ∀ (A : Around) (outer : List Env) (s : Shared) (H : Hp) (args : Args) (us : List Value) (vs : List V) (Q : VK) (E : XK), Room k A → Env0 P w K mg base A outer s H → BindsTo s fd args (ps.zip us) → Vals vs us → sp vs H Q E →
    codeAny (model P w) A (.call (.ref f) args) (CR CX outer P w H s Q E) s
theorem FnOk.mono {P : Program} {w : World} {K : PySem.W.Frag} {mg : Str → Option Value} {base : Heap} {CX : CXT} {j k : Nat} {f : Addr} {fd : FuncData} {ps : List Str} {sp : Sp} (F : FnOk P w K mg base CX j f fd ps sp) (h : j ≤ k) :
    FnOk P w K mg base CX k f fd ps sp := ⟨F.len, fun A outer s H args us vs Q E hr => F.run A outer s H args us vs Q E (hr.mono h)⟩
theorem FnOk.imp {P : Program} {w : World} {K : PySem.W.Frag} {mg : Str → Option Value} {base : Heap} {CX : CXT} {k : Nat} {f : Addr} {fd : FuncData} {ps : List Str} {sp sp' : Sp} (F : FnOk P w K mg base CX k f fd ps sp)
    (h : ∀ vs H Q E, sp' vs H Q E → sp vs H Q E) : FnOk P w K mg base CX k f fd ps sp' :=
  ⟨fun vs H Q E q => F.len vs H Q E (h _ _ _ _ q), fun A outer s H args us vs Q E hr he hb hv hs => F.run A outer s H args us vs Q E hr he hb hv (h _ _ _ _ hs)⟩
theorem Env0.make {P : Program} {w : World} {K : PySem.W.Frag} {mg : Str → Option Value} {base : Heap} {A : Around} {outer : List Env} {s : Shared} {H : Hp} (e : Env0 P w K mg base A outer s H) (C : Addr) (us : List Value) (kw : List (Str × Value)) :
    Env0 P w K mg base (A.under (.builtin "type.__call__" ⟨.ref C :: us, kw⟩)) outer s H := ⟨by first | exact e.frames | (simpa [Around.under, Code.envs, Code.isFrame, pushEnvs] using e.frames), e.mod, e.bs, e.bsz, e.funs, e.frf, e.hok, e.bare⟩
theorem Env0.in1 {P : Program} {w : World} {K : PySem.W.Frag} {mg : Str → Option Value} {base : Heap} {A : Around} {outer : List Env} {s : Shared} {H : Hp} (e : Env0 P w K mg base A outer s H) :
    Env0 P w K mg base A.in1 outer s H := ⟨e.frames, e.mod, e.bs, e.bsz, e.funs, e.frf, e.hok, e.bare⟩
section
variable {X : Cx} {pins : List (Addr × Obj)} {σ : St} {H : Hp} {s s' : Shared}
theorem Inv.env0 (I : Inv X pins σ H s) : Env0 X.prog X.w X.K X.mg X.base X.A X.stack s H :=
  ⟨I.ok.frames, I.ok.mod, I.bs, Nat.le_trans I.ok.bsz I.sz, I.stack, I.stkFree, I.hok, I.bare⟩
theorem Inv.after {Q : VK} {u : Value} (I : Inv X pins σ H s) (h : CE X.stack X.prog X.w H s Q u s') : EP X pins σ Q u s' := by
  obtain ⟨v, H', os, bare, un, hok, r, q⟩ := h
  obtain ⟨hh, g, d, t, os'⟩ := s'
  obtain rfl : os' = s.os := os
  exact ⟨v, H', I.call (h' := hh) (g' := g) (d' := d) (t' := t) (ch := []) un hok bare (fun b z => absurd z (by simp)), r, q⟩
end
def tCall (sp : Sp) (dvs : List V) (E : XK) (t : TA) : TE := fun σ H Q => t σ H fun vs H1 => sp (vs ++ dvs) H1 Q E
def Binds (K : PySem.W.Frag) (fd : FuncData) (ps : List Str) (ds : List Value) : Prop :=
  ∀ (s : Shared) (us : List Value), K.In s.heap → (us ++ ds).length = ps.length → BindsTo s fd ⟨us, []⟩ (ps.zip (us ++ ds))
theorem Binds.all {K : PySem.W.Frag} {fd : FuncData} {ps : List Str} (h : ∀ us : List Value, us.length = ps.length → bindArgs fd ⟨us, []⟩ = pure (ps.zip us)) : Binds K fd ps [] := fun s us _ hl => by
  rw [List.append_nil] at hl ⊢
  exact .of_eq (h us hl)
def Passes (CX : CXT) (X : Cx) (E : XK) : Prop := ∀ (pins : List (Addr × Obj)) (σ : St) (H : Hp) (s : Shared) (e : Value) (s' : Shared), Inv X pins σ H s → CX X.stack H s E e s' → X.xe e s'
section
variable {X : Cx} {CX : CXT} {k : Nat} {f C : Addr} {fd : FuncData} {ps : List Str} {sp : Sp} {dvs : List V} {ds : List Value} {E : XK} {x m : Str} {p pos apos : Pos} {e o : Expr} {es : List Expr} {ta : TE} {t : TA}
theorem run_fn {pins : List (Addr × Obj)} {σ : St} {H : Hp} {s : Shared} {Q : VK} {us : List Value} {vs : List V} (F : FnOk X.prog X.w X.K X.mg X.base CX k f fd ps sp) (hr : Room k X.A) (hb : Binds X.K fd ps ds) (hd : Vals dvs ds) (hx : Passes CX X E)
    (I : Inv X pins σ H s) (r : Vals vs us) (h : sp (vs ++ dvs) H Q E) : wpAny (model X.prog X.w) X.A (call (.ref f) us) (EP X pins σ Q) X.xe s := by
  have r2 : Vals (vs ++ dvs) (us ++ ds) := r.append hd
  have hl : (us ++ ds).length = ps.length := by rw [← r2.length]; exact F.len _ _ _ _ h
  refine wpAny_call (codeAny_mono (F.run X.A X.stack s H ⟨us, []⟩ (us ++ ds) (vs ++ dvs) Q E hr I.env0 (hb s us I.kIn hl) r2 h) fun r s' hq => ?_)
  cases r with
  | error e => exact hx pins σ H s e s' I hq
  | ok fl =>
    cases fl with
    | ret u => exact I.after hq
    | next => exact False.elim hq
    | brk => exact False.elim hq
    | cont => exact False.elim hq
theorem pe_call (F : FnOk X.prog X.w X.K X.mg X.base CX k f fd ps sp) (hr : Room k X.A) (hg : Gl X x) (hm : X.mg x = some (.ref f)) (hk : PySem.W.keepIn X.K (.ref f) = true) (hb : Binds X.K fd ps ds) (hd : Vals dvs ds) (hx : Passes CX X E)
    (ha : PA X (e :: es) t) (hdb : (x == ("__debug__" : Str)) = false := by decide) (he : starEach (e :: es) X.env = (false, eval e X.env) :: starEach es X.env := by rfl) (hpl : (backTo pos (starEach es X.env)).any (·.1) = false := by rfl) :
    PE X (.Call (.Name x p) (e :: es) [] pos) (tCall sp dvs E t) := by
  intro pins s σ H Q I h
  refine wpAny_Call_Name_kw (ld_glob I hg hm ?_ hdb)
  refine PySem.W.callWith_K (h₀ := X.base) I.ok.mod.kin hk (thn (ha pos pins s σ H _ I h) fun us s1 ⟨vs, H1, I1, r, q⟩ => ⟨I1.kIn, ?_⟩) he hpl
  exact run_fn F hr hb hd hx I1 r q
structure Mk (K : PySem.W.Frag) (C f : Addr) : Prop where
  makes : PySem.W.makesIn K C = true
  init : PySem.W.findIn K (.ref C) "__init__" = some (some (.ref f))
  fn : PySem.W.isFn K (.ref f) = true
  kp : PySem.W.keepIn K (.ref C) = true
end
section
variable {X : Cx} {CX : CXT} {k : Nat} {f C : Addr} {fd : FuncData} {ps ks : List Str} {sp : Sp} {E : XK} {x m : Str} {p pos apos kpos : Pos} {e o : Expr} {es : List Expr} {kws : List Keyword} {te ta : TE} {t tk : TA} {nm : Option Str}
structure KBinds (K : PySem.W.Frag) (fd : FuncData) (ps ks : List Str) (g : List Value → List Value → List Value) (gV : List V → List V → List V) : Prop where
  to : ∀ (s : Shared) (us ws : List Value), K.In s.heap → (g us ws).length = ps.length → BindsTo s fd ⟨us, ks.zip ws⟩ (ps.zip (g us ws))
  rel : ∀ {vs : List V} {us : List Value} {zs : List V} {ws : List Value}, Vals vs us → Vals zs ws → Vals (gV vs zs) (g us ws)
variable {g : List Value → List Value → List Value} {gV : List V → List V → List V}
end
structure FnScope (N P : List Str) (sc : Scope) : Prop where
  kind : sc.kind = .function
  co : sc.isCoroutine = false
  gen : sc.isGenerator = false
  nd : N.Nodup
  pre : N.take P.length = P
  par : ∀ x ∈ P, sc.names.lookup x = some .local ∨ sc.names.lookup x = some .cell
  nofree : ∀ y ∈ sc.names, y.2 ≠ .free
theorem bindL_out {kindOf : Str → Option NameKind} {x : Str} : ∀ {binds : List (Str × Value)} {m : Str → Option Value}, (∀ v, (x, v) ∉ binds) → bindL kindOf binds m x = m x
  | [], _, _ => rfl
  | (n, v) :: r, m, h => by
    unfold bindL
    rw [bindL_out fun w hw => h w (List.mem_cons_of_mem _ hw)]
    split
    · have : x ≠ n := by rintro rfl; exact h v List.mem_cons_self
      simp [this]
    · rfl
theorem bindC_out {kindOf : Str → Option NameKind} {x : Str} : ∀ {binds : List (Str × Value)} {m : Str → Option Value}, (∀ v, (x, v) ∉ binds) → bindC kindOf binds m x = m x
  | [], _, _ => rfl
  | (n, v) :: r, m, h => by
    unfold bindC
    rw [bindC_out fun w hw => h w (List.mem_cons_of_mem _ hw)]
    split
    · rfl
    · have : x ≠ n := by rintro rfl; exact h v List.mem_cons_self
      simp [this]
theorem bindL_get {kindOf : Str → Option NameKind} {x : Str} {v : Value} : ∀ {P : List Str} {vs : List Value} {i : Nat} {m : Str → Option Value}, P.Nodup → P[i]? = some x → vs[i]? = some v → kindOf x = some .local →
    bindL kindOf (P.zip vs) m x = some v
  | [], _, _, _, _, h, _, _ => by simp at h
  | _ :: _, [], _, _, _, _, h, _ => by simp at h
  | p :: P, w :: vs, 0, m, nd, h1, h2, hk => by
    simp at h1 h2; subst h1; subst h2
    show bindL kindOf ((p, w) :: P.zip vs) m p = _
    unfold bindL
    rw [bindL_out fun v hv => (List.nodup_cons.mp nd).1 (List.of_mem_zip hv).1, if_pos hk]
    simp
  | p :: P, w :: vs, i + 1, m, nd, h1, h2, hk => by
    show bindL kindOf ((p, w) :: P.zip vs) m x = _
    unfold bindL
    exact bindL_get (i := i) (List.nodup_cons.mp nd).2 (by simpa using h1) (by simpa using h2) hk
theorem bindC_get {kindOf : Str → Option NameKind} {x : Str} {v : Value} : ∀ {P : List Str} {vs : List Value} {i : Nat} {m : Str → Option Value}, P.Nodup → P[i]? = some x → vs[i]? = some v → kindOf x ≠ some .local →
    bindC kindOf (P.zip vs) m x = some v
  | [], _, _, _, _, h, _, _ => by simp at h
  | _ :: _, [], _, _, _, _, h, _ => by simp at h
  | p :: P, w :: vs, 0, m, nd, h1, h2, hk => by
    simp at h1 h2; subst h1; subst h2
    show bindC kindOf ((p, w) :: P.zip vs) m p = _
    unfold bindC
    rw [bindC_out fun v hv => (List.nodup_cons.mp nd).1 (List.of_mem_zip hv).1, if_neg hk]
    simp
  | p :: P, w :: vs, i + 1, m, nd, h1, h2, hk => by
    show bindC kindOf ((p, w) :: P.zip vs) m x = _
    unfold bindC
    exact bindC_get (i := i) (List.nodup_cons.mp nd).2 (by simpa using h1) (by simpa using h2) hk
def start (N : List Str) (vs : List V) : St := vs.map some ++ List.replicate (N.length - vs.length) none
def cxOf (CX : CXT) (P : Program) (w : World) (K : PySem.W.Frag) (mg : Str → Option Value) (base : Heap) (N : List Str) (qual : Str) (scope : Scope) (f : Addr) (cd : Value) (A : Around) (outer : List Env) (s : Shared) (H : Hp) (E : XK) : Cx where
  prog := P
  w := w
  K := K
  mg := mg
  base := base
  A := A.deeper (envOfC qual scope s.heap.objs.size f cd)
  N := N
  s₀ := s
  H₀ := H
  env := envOfC qual scope s.heap.objs.size f cd
  outer := outer
  stack := envOfC qual scope s.heap.objs.size f cd :: outer
  ex := []
  calm := true
  fn := fun _ => true
  pn := []
  xe := fun e s' => wpAny (model P w) (A.deeper (envOfC qual scope s.heap.objs.size f cd)) (leaving (envOfC qual scope s.heap.objs.size f cd) e) (fun _ s'' => CX outer H s E e s'') (fun e' s'' => CX outer H s E e' s'') s'
theorem cell_has {sc : Scope} {n : Nat} {x : Str} (h : sc.names.lookup x = some .cell) : ∃ c, (cellsFrom n sc.names []).lookup x = some c := by
  have q := PySem.W.cellsFrom_some sc.names n [] (.inl h)
  exact Option.isSome_iff_exists.mp q
theorem inv_start {CX : CXT} {P : Program} {w : World} {K : PySem.W.Frag} {mg : Str → Option Value} {base : Heap} {N ps : List Str} {qual : Str} {scope : Scope} {f : Addr} {cd : Value} {A : Around} {outer : List Env} {s s1 : Shared} {H : Hp} {E : XK} {us : List Value} {vs : List V}
    (S : FnScope N ps scope) (hd : A.handled = none) (e0 : Env0 P w K mg base A outer s H) (hl : vs.length = ps.length) (r : Vals vs us)
    (x : InCallC s s.heap.objs.size (bindL (envOfC qual scope s.heap.objs.size f cd).kindOf (ps.zip us) fun _ => none) (cellsFrom (s.heap.objs.size + 1) scope.names []) (bindC (envOfC qual scope s.heap.objs.size f cd).kindOf (ps.zip us) fun _ => none) s1) :
    Inv (cxOf CX P w K mg base N qual scope f cd A outer s H E) [] (start N vs) H s1 := by
  have hpl : ps.length ≤ N.length := by have := congrArg List.length S.pre; rw [List.length_take] at this; omega
  obtain ⟨h1, tk, rfl, hk⟩ := x.done
  have noA : ∀ b : Addr, b ∉ (cxOf CX P w K mg base N qual scope f cd A outer s H E).ex := fun b z => absurd (show b ∈ ([] : List Addr) from z) (by simp)
  refine ⟨⟨e0.mod, S.kind, rfl, rfl, Nat.le_refl _, fun y z c h1 h2 => ?_, fun y hy => ?_, fun y c _ h => ?_, fun _ => hd, Around.frames_deeper e0.frames, .inr ⟨rfl, rfl⟩, fun b z => absurd z (noA b), e0.bs, e0.bsz, fun b _ _ => noA b, fun b z => absurd z (noA b), e0.funs, e0.frf⟩,
    rfl, e0.bare, Un.kept hk, ⟨_, x.toInCall.ns, fun i y v h1 h2 h3 => ?_⟩, fun y c h => ⟨_, x.cell y c h⟩, e0.hok.fresh (Nat.le_refl _), fun y c h => ?_, fun p hp => absurd (show p ∈ ([] : List (Addr × Obj)) from hp) (by simp), e0.hok.kept hk, ?_⟩
  · exact name_of_addr x.apart (PySem.mem_of_lookup h1) (PySem.mem_of_lookup h2)
  · have hy : scope.names.lookup y = some .cell ∨ scope.names.lookup y = some .free := hy
    rcases hy with hy | hy
    · exact cell_has hy
    · exact absurd rfl (S.nofree _ (PySem.mem_of_lookup hy))
  · exact Nat.le_of_lt (x.above y c (PySem.mem_of_lookup h))
  · have hi : i < vs.length := by
      unfold start at h2
      by_cases hi : i < vs.length
      · exact hi
      · rw [List.getElem?_append_right (by simpa using hi)] at h2
        rw [List.getElem?_replicate] at h2
        split at h2 <;> cases h2
    have ha : vs[i]? = some v := by
      unfold start at h2
      rw [List.getElem?_append_left (by simpa using hi), List.getElem?_map] at h2
      cases e : vs[i]? with
      | none => rw [e] at h2; cases h2
      | some a => rw [e] at h2; cases h2; rfl
    obtain ⟨u, hu, rv⟩ := r.get ha
    have hp : ps[i]? = some y := by
      rw [← S.pre, List.getElem?_take_of_lt (by omega)]; exact h1
    have ndP : ps.Nodup := by rw [← S.pre]; exact S.nd.sublist (List.take_sublist _ _)
    refine ⟨u, rv, ?_⟩
    rcases S.par y (List.mem_of_getElem? hp) with k | k
    · exact .inl ⟨k, bindL_get ndP hp hu k⟩
    · obtain ⟨c, e⟩ := cell_has (n := s.heap.objs.size + 1) k
      refine .inr ⟨.inl k, c, e, ?_⟩
      have q := x.cell y c e
      rw [bindC_get ndP hp hu (by show scope.names.lookup y ≠ _; rw [k]; decide)] at q
      exact q
  · exact e0.hok.fresh (Nat.le_of_lt (x.above y c (PySem.mem_of_lookup h)))
  · unfold start
    show _ = N.length
    rw [List.length_append, List.length_map, List.length_replicate]
    omega
theorem fn_of {CX : CXT} {P : Program} {w : World} {K : PySem.W.Frag} {mg : Str → Option Value} {base : Heap} {k : Nat} {f : Addr} {name qual : Str} {params : Arguments} {body : List Stmt} {scope : Scope} {dV kV doc pm cdv ct oc : Value} {an od : Option Addr}
    {osl : Array (Option Value)} {N ps : List Str} {sp : Sp} (lk : K.lookup f = some ⟨oc, od, .func (PySem.W.fnOf name qual params body scope dV kV doc pm an cdv ct), osl⟩) (hcd : PySem.W.codeIn K cdv qual = true) (S : FnScope N ps scope)
    (len : ∀ vs H Q E, sp vs H Q E → vs.length = ps.length)
    (hbody : ∀ (A : Around) (outer : List Env) (s : Shared) (H : Hp) (vs : List V) (Q : VK) (E : XK), Room k (A.deeper (envOfC qual scope s.heap.objs.size f cdv)) → sp vs H Q E →
      ∃ t, PSs (cxOf CX P w K mg base N qual scope f cdv A outer s H E) body t ∧ t { nx := fun _ H' => Q .non H', rt := Q } (start N vs) H) :
    FnOk P w K mg base CX (k + 1) f (PySem.W.fnOf name qual params body scope dV kV doc pm an cdv ct) ps sp := by
  refine ⟨len, fun A outer s H args us vs Q E hr e0 hb r hsp => ?_⟩
  have hl := len _ _ _ _ hsp
  have KX : K.In s.heap := e0.mod.kin.keeps fun b o e => (e0.bs b o e).1
  have lim : s.heap.NoLimit := e0.mod.nolimit.keeps fun b o e => (e0.bs b o e).1
  have hkind : ∀ y ∈ ps.zip us, scope.names.lookup y.1 = some .local ∨ (scope.names.lookup y.1 = some .cell ∧ ((cellsFrom (s.heap.objs.size + 1) scope.names []).lookup y.1).isSome = true) := fun ⟨n, v⟩ hy => by
    rcases S.par n (List.of_mem_zip hy).1 with q | q
    · exact .inl q
    · exact .inr ⟨q, PySem.W.cellsFrom_some _ _ _ (.inl q)⟩
  refine codeAny_call_function hr.depth (KX _ _ lk) rfl S.co S.gen rfl (PySem.W.codeRec_of KX hcd) (hb _ _ _ _ ?_)
  refine wpAny_newFunctionEnv_cells S.kind hkind fun env he s1 x => ?_
  subst he
  refine ⟨lim.keeps x.toInCall.keep, codeAny_func ?_⟩
  obtain ⟨t, ht, hq⟩ := hbody A outer s H vs Q E (hr.deeper _) hsp
  have I : Inv (cxOf CX P w K mg base N qual scope f cdv A outer s H E) [] (start N vs) H s1 := inv_start S hr.hd e0 hl r x
  refine wpAny_mono (ht [] s1 (start N vs) H _ I hq) (fun fl s' hs => ?_) fun e s' hs => hs
  have fin : ∀ {σ' : St} {H' : Hp} {v : V} {u : Value}, Inv (cxOf CX P w K mg base N qual scope f cdv A outer s H E) [] σ' H' s' → RelV v u → Q v H' → CE outer P w H s Q u s' :=
    fun {σ' H' v u} J rv q => ⟨v, H', J.os, J.bare, J.base, J.hok, rv, q⟩
  cases fl with
  | ret u =>
    obtain ⟨v, σ', H', J, rv, q⟩ := hs
    exact fin J rv q
  | next =>
    obtain ⟨σ', H', J, q⟩ := hs
    exact fin (v := V.non) (u := Value.none) J rfl q
  | brk =>
    obtain ⟨_, _, _, q⟩ := hs
    exact False.elim q
  | cont =>
    obtain ⟨_, _, _, q⟩ := hs
    exact False.elim q
end L2
namespace L2
open PySem PySem.Spec PyProof.Rows
section
variable {X : Cx} {x : Str} {p pos : Pos} {e : Expr} {es : List Expr} {t : TA} {id T : String} {r : List V → Hp → VK → Prop}
def tCB (r : List V → Hp → VK → Prop) (t : TA) : TE := fun σ H Q => t σ H fun vs H1 => r vs H1 Q
theorem pe_callB (hc : CallR X (.builtin id) r) (hg : Gl X x) (hm : X.mg x = none) (hv : bootBuiltins x = some (.builtin id)) (ha : PA X (e :: es) t) (hn : x ≠ "__name__" := by decide) (hdb : (x == ("__debug__" : Str)) = false := by decide)
    (he : starEach (e :: es) X.env = (false, eval e X.env) :: starEach es X.env := by rfl) (hpl : (backTo pos (starEach es X.env)).any (·.1) = false := by rfl) : PE X (.Call (.Name x p) (e :: es) [] pos) (tCB r t) := by
  intro pins s σ H Q I h
  refine wpAny_Call_Name_kw (ld_blt I hg hm hv ?_ hn hdb)
  exact PyProof.Rows.callWith_builtin1 (thn (ha pos pins s σ H _ I h) fun us s1 ⟨vs, H1, I1, r1, q1⟩ => hc pins s1 σ H1 vs us Q I1 r1 q1) he hpl
theorem pe_callTy (hc : CallR X (.type T) r) (hg : Gl X x) (hm : X.mg x = none) (hv : bootBuiltins x = some (.type T)) (ha : PA X (e :: es) t) (hn : x ≠ "__name__" := by decide) (hdb : (x == ("__debug__" : Str)) = false := by decide)
    (he : starEach (e :: es) X.env = (false, eval e X.env) :: starEach es X.env := by rfl) (hpl : (backTo pos (starEach es X.env)).any (·.1) = false := by rfl) : PE X (.Call (.Name x p) (e :: es) [] pos) (tCB r t) := by
  intro pins s σ H Q I h
  refine wpAny_Call_Name_kw (ld_blt I hg hm hv ?_ hn hdb)
  exact PyProof.Rows.callWith_type1 (thn (ha pos pins s σ H _ I h) fun us s1 ⟨vs, H1, I1, r1, q1⟩ => hc pins s1 σ H1 vs us Q I1 r1 q1) he hpl
end
end L2
namespace HT
open PySem PyProof.Rows
section
open PySem.SeqAt
open PySem.AutoSeq1 (wpAny_loadPart')
open PySem.MeetsSeq PySem.MeetsSeq2 PySem.MeetsSeq3
end
section
variable {prog : Program} {w : World} {A : Around} {E : Value → Shared → Prop} {s : Shared}
def sIx (n d : Nat) : Option Int → Nat
  | none => d
  | some v => if v < 0 then (v + (n : Int)).toNat else min v.toNat n
theorem sIx_nat (n d k : Nat) : sIx n d (some (k : Int)) = min k n := by
  show (if (k : Int) < 0 then ((k : Int) + (n : Int)).toNat else min (k : Int).toNat n) = min k n
  rw [if_neg (by omega), Int.toNat_natCast]
end
end HT
namespace L2
open PySem PySem.Spec PyProof.Rows
abbrev TO := St → Hp → (Option Int → Hp → Prop) → Prop
def PO (X : Cx) (e : Option Expr) (t : TO) : Prop :=
  ∀ (pins : List (Addr × Obj)) (s : Shared) (σ : St) (H : Hp) (Q : Option Int → Hp → Prop), Inv X pins σ H s → t σ H Q →
    wpAny (model X.prog X.w) X.A (evalPart e X.env) (fun u s' => ∃ o H', Inv X pins σ H' s' ∧ IsPart u o ∧ Q o H') X.xe s
def tNoPart : TO := fun _ H Q => Q none H
def tPart (t : TE) : TO := fun σ H Q => t σ H fun x H1 => ∃ i, x = .int i ∧ Q (some i) H1
theorem intsAre_of {ns : List Int} : ∀ {us : List Value}, Vals (ns.map V.int) us → IntsAre us ns := by
  induction ns with
  | nil => intro us r; rw [List.map_nil] at r; cases r; exact .nil
  | cons n ns ih =>
    intro us r
    rw [List.map_cons] at r
    cases r with
    | cons r1 r2 =>
      obtain ⟨t, e⟩ := r1
      subst e
      exact .cons n t (ih r2)
section
variable {X : Cx} {e : Expr} {te : TE} {lo hi : Option Expr} {tl th : TO} {pos p2 : Pos}
theorem po_none : PO X none tNoPart := by
  intro pins s σ H Q I h
  rw [evalPart_none]
  exact wpAny_pure ⟨none, H, I, .none, h⟩
theorem po_some (h : PE X e te) : PO X (some e) (tPart te) := by
  intro pins s σ H Q I hw
  rw [evalPart_some]
  refine thn (h pins s σ H _ I hw) fun u s1 ⟨x, H1, I1, r1, q1⟩ => ?_
  obtain ⟨i, rfl, q⟩ := q1
  obtain ⟨t, rfl⟩ := r1
  exact ⟨some i, H1, I1, .int i t, q⟩
def SlR (X : Cx) (r : V → Option Int → Option Int → Hp → VK → Prop) : Prop :=
  ∀ (pins : List (Addr × Obj)) (s : Shared) (σ : St) (H : Hp) (x : V) (v vl vu : Value) (lo hi : Option Int) (sl : Addr) (Q : VK), Inv X pins σ H s → RelV x v → s.heap.IsSliceOf sl vl vu .none → IsPart vl lo → IsPart vu hi → r x lo hi H Q →
    ∃ T id, typeLookup (.type T) "__getitem__" = pure (some (.builtin id)) ∧ s.TypeIs v T ∧ wpAny (model X.prog X.w) X.A (getItem v (.ref sl)) (EP X pins σ Q) X.xe s
theorem SlR.or {r r' : V → Option Int → Option Int → Hp → VK → Prop} (h : SlR X r) (h' : SlR X r') : SlR X (fun x lo hi H Q => r x lo hi H Q ∨ r' x lo hi H Q) := by
  intro pins s σ H x v vl vu lo hi sl Q I rx hs pl pu q
  rcases q with q | q
  · exact h pins s σ H x v vl vu lo hi sl Q I rx hs pl pu q
  · exact h' pins s σ H x v vl vu lo hi sl Q I rx hs pl pu q
def tSl (r : V → Option Int → Option Int → Hp → VK → Prop) (te : TE) (tl th : TO) : TE := fun σ H Q => te σ H fun x H1 => tl σ H1 fun l H2 => th σ H2 fun u H3 => r x l u H3 Q
theorem pe_slice {r : V → Option Int → Option Int → Hp → VK → Prop} (hr : SlR X r) (he : PE X e te) (hl : PO X lo tl) (hu : PO X hi th) : PE X (.Subscript e (.Slice lo hi none p2) pos) (tSl r te tl th) := by
  intro pins s σ H Q I h
  refine Subscript_ (thn (he pins s σ H _ I h) fun v s1 ⟨x, H1, I1, r1, q1⟩ => ?_)
  refine wpAny_Slice (thn (hl pins s1 σ H1 _ I1 q1) fun vl s2 ⟨l, H2, I2, pl, q2⟩ => thn (hu pins s2 σ H2 _ I2 q2) fun vu s3 ⟨u, H3, I3, pu, q3⟩ => ?_)
  rw [evalPart_none]
  refine wpAny_pure ?_
  have I4 : Inv X pins σ H3 { s3 with heap := s3.heap.push { cls := .type "slice", data := .fields #[vl, vu, .none] } } := I3.kept (t' := s3.toks) fun b ob q => Heap.get?_push_of_some _ q
  obtain ⟨T, id, hT, ht, hg⟩ := hr pins { s3 with heap := s3.heap.push { cls := .type "slice", data := .fields #[vl, vu, .none] } } σ H3 x v vl vu l u s3.heap.objs.size Q I4 r1 (Heap.IsSliceOf.new ..) pl pu q3
  show wpAny (model X.prog X.w) X.A (subscriptTail e (.Slice lo hi none p2) v (.ref s3.heap.objs.size)) (EP X pins σ Q) X.xe { s3 with heap := s3.heap.push { cls := .type "slice", data := .fields #[vl, vu, .none] } }
  exact tail_any (ops := [.ref s3.heap.objs.size, v]) ht hT hg (by with_unfolding_all rfl)
def cutV (xs : List V) (lo hi : Option Int) : List V := (xs.drop (HT.sIx xs.length 0 lo)).take (HT.sIx xs.length xs.length hi - HT.sIx xs.length 0 lo)
theorem cutV_length (xs : List V) (lo hi : Option Int) : (cutV xs lo hi).length ≤ xs.length := by
  unfold cutV
  rw [List.length_take, List.length_drop]
  omega
end
end L2
namespace L2
open PySem PySem.Spec PyProof.Rows
def ixN (n : Nat) (i : Int) : Option Nat := if 0 ≤ i then (if i < n then some i.toNat else none) else if -(n : Int) ≤ i then some (i + n).toNat else none
def atI {α : Type} (xs : List α) (i : Int) : Option α := (ixN xs.length i).bind fun j => xs[j]?
theorem ixN_seq {n : Nat} {i : Int} {j : Nat} (h : ixN n i = some j) : seqIndex? i n = some j ∧ j < n ∧ -(n : Int) ≤ i ∧ i < n := by
  unfold ixN at h
  by_cases h0 : 0 ≤ i
  · rw [if_pos h0] at h
    by_cases h1 : i < n
    · rw [if_pos h1] at h
      have e : i.toNat = j := Option.some.inj h
      exact ⟨by rw [seqIndex_of h0 h1, e], by omega, by omega, h1⟩
    · rw [if_neg h1] at h; cases h
  · rw [if_neg h0] at h
    by_cases h1 : -(n : Int) ≤ i
    · rw [if_pos h1] at h
      have e : (i + n).toNat = j := Option.some.inj h
      exact ⟨by rw [seqIndex_neg (by omega) h1, e], by omega, h1, by omega⟩
    · rw [if_neg h1] at h; cases h
theorem atI_get {α : Type} {xs : List α} {i : Int} {v : α} (h : atI xs i = some v) : ∃ j, seqIndex? i xs.length = some j ∧ xs[j]? = some v ∧ j < xs.length ∧ -(xs.length : Int) ≤ i ∧ i < xs.length := by
  unfold atI at h
  cases e : ixN xs.length i with
  | none => rw [e] at h; cases h
  | some j =>
    rw [e] at h
    obtain ⟨h1, h2, h3, h4⟩ := ixN_seq e
    exact ⟨j, h1, h, h2, h3, h4⟩
theorem atI_nat {α : Type} {xs : List α} {j : Nat} {v : α} (h : xs[j]? = some v) : atI xs (j : Int) = some v := by
  have hj : j < xs.length := (List.getElem?_eq_some_iff.mp h).1
  have e : ixN xs.length (j : Int) = some j := by
    unfold ixN
    rw [if_pos (by omega), if_pos (by omega)]; simp
  unfold atI; rw [e]; exact h
def PlainIx (b : Expr) : Prop := ∀ o i, subscripted b false o i = operate [o, i] (getItem o i)
def IxR (X : Cx) (r : R2) : Prop :=
  ∀ (value slice : Expr) (pins : List (Addr × Obj)) (s : Shared) (σ : St) (H : Hp) (x y : V) (v u : Value) (Q : VK), Inv X pins σ H s → RelV x v → RelV y u → r x y H Q →
    subscripted slice false v u = operate [v, u] (getItem v u) → wpAny (model X.prog X.w) X.A (subscriptTail value slice v u) (EP X pins σ Q) X.xe s
def MtR (X : Cx) (id : String) (r : V → List V → Hp → VK → Prop) : Prop :=
  ∀ (pins : List (Addr × Obj)) (s : Shared) (σ : St) (H : Hp) (x : V) (xs : List V) (v : Value) (us : List Value) (Q : VK), Inv X pins σ H s → RelV x v → Vals xs us → r x xs H Q →
    wpAny (model X.prog X.w) X.A (call (.builtin id) (v :: us)) (EP X pins σ Q) X.xe s
section
variable {X : Cx} {a b : Expr} {ta tb : TE} {pos : Pos}
theorem IxR.or {r r' : R2} (h : IxR X r) (h' : IxR X r') : IxR X (fun x y H Q => r x y H Q ∨ r' x y H Q) := by
  intro value slice pins s σ H x y v u Q I rx ry q hs
  rcases q with q | q
  · exact h value slice pins s σ H x y v u Q I rx ry q hs
  · exact h' value slice pins s σ H x y v u Q I rx ry q hs
theorem MtR.or {id : String} {r r' : V → List V → Hp → VK → Prop} (h : MtR X id r) (h' : MtR X id r') : MtR X id (fun x xs H Q => r x xs H Q ∨ r' x xs H Q) := by
  intro pins s σ H x xs v us Q I rx rs q
  rcases q with q | q
  · exact h pins s σ H x xs v us Q I rx rs q
  · exact h' pins s σ H x xs v us Q I rx rs q
theorem pe_ix {r : R2} (hr : IxR X r) (ha : PE X a ta) (hb : PE X b tb) (hs : PlainIx b) : PE X (.Subscript a b pos) (tOp r ta tb) := by
  intro pins s σ H Q I h
  exact Subscript_ (binT ha hb I h fun v u s2 x y H2 I2 rx ry q => hr a b pins s2 σ H2 x y v u Q I2 rx ry q (hs _ _))
def rIxL (K : PySem.W.Frag) : R2 := fun x y H Q => ∃ p xs i v, x = .ref p ∧ y = .int i ∧ SqL K H p xs ∧ atI xs i = some v ∧ Q v H
theorem ix_list : IxR X (rIxL X.K) := by
  intro value slice pins s σ H x y v u Q I rx ry h hs
  obtain ⟨p, xs, i, z, rfl, rfl, hq, he, q⟩ := h
  cases rx
  obtain ⟨t, rfl⟩ := ry
  obtain ⟨its, r, pl, hz⟩ := I.list hq
  obtain ⟨j, h1, h2, h3, h4, h5⟩ := atI_get he
  obtain ⟨w, ew, rw'⟩ := r.get h2
  have hl := r.length
  have hn := line63
  have fin : EP X pins σ Q w s := ⟨z, H, I, rw', q⟩
  by_cases h0 : 0 ≤ i
  · have hj : i.toNat = j := by
      rw [seqIndex_of h0 h5] at h1
      exact Option.some.inj h1
    exact item_listR pl.isList h0 (by omega) (by rw [hj]; simpa using ew) fin hs
  · have hj : (i + (its.toArray.size : Int)).toNat = j := by
      rw [seqIndex_neg (by omega) h4] at h1
      rw [List.size_toArray, ← hl]
      exact Option.some.inj h1
    exact subscriptTail_builtinR (x := w) pl.isList.typeIs slot_list_getitem.lookup
      (wpAny_getItem_list_neg (Q := fun r s' => r = w ∧ EP X pins σ Q r s') pl.isList (by omega) (by rw [List.size_toArray] <;> omega) (by omega) (by rw [hj]; simpa using ew) ⟨rfl, fin⟩) hs
theorem Inv.lst {pins : List (Addr × Obj)} {σ : St} {H : Hp} {s : Shared} {p : Addr} {xs : List V} (I : Inv X pins σ H s) (h : H p = some (.lst xs)) :
    ∃ (its : List Value) (n : Nat), Vals xs its ∧ s.heap.get? p = some { cls := .type "list", data := .seq its.toArray n } ∧ xs.length ≤ sizeLine := by
  obtain ⟨z, its, n, r, e⟩ := I.hok p _ h
  exact ⟨its, n, r, e, z⟩
theorem slice_bounds (lo hi : Option Int) (n : Nat) : (sliceBounds lo hi none n).1 = ((HT.sIx n 0 lo : Nat) : Int) ∧ (sliceBounds lo hi none n).2.1 = ((HT.sIx n n hi : Nat) : Int) ∧ (sliceBounds lo hi none n).2.2 = 1 := by
  refine ⟨?_, ?_, rfl⟩
  · cases lo with
    | none => simp [sliceBounds, HT.sIx]
    | some i =>
      simp only [sliceBounds, HT.sIx, Option.getD_none, show (1 : Int) > 0 by decide, if_true]
      by_cases h : i < 0
      · simp only [h, if_true] <;> omega
      · simp only [h, if_false] <;> omega
  · cases hi with
    | none => simp [sliceBounds, HT.sIx]
    | some i =>
      simp only [sliceBounds, HT.sIx, Option.getD_none, show (1 : Int) > 0 by decide, if_true]
      by_cases h : i < 0
      · simp only [h, if_true] <;> omega
      · simp only [h, if_false] <;> omega
theorem slicePick_cut (its : List Value) (lo hi : Option Int) : slicePick its.toArray lo hi none = ((its.drop (HT.sIx its.length 0 lo)).take (HT.sIx its.length its.length hi - HT.sIx its.length 0 lo)).toArray := by
  obtain ⟨h1, h2, h3⟩ := slice_bounds lo hi its.toArray.size
  unfold slicePick
  rw [h1, h2, h3]
  simp only [sliceRange_one, pick_run, List.size_toArray] <;> rfl
def rSlL (K : PySem.W.Frag) : V → Option Int → Option Int → Hp → VK → Prop := fun x lo hi H Q => ∃ a xs, x = .ref a ∧ SqL K H a xs ∧ ∀ p, H p = none → Q (.ref p) (upd H p (.lst (cutV xs lo hi)))
theorem sl_list : SlR X (rSlL X.K) := by
  intro pins s σ H x v vl vu lo hi sl Q I rx hs pl pu h
  obtain ⟨a, xs, rfl, hx, q⟩ := h
  cases rx
  obtain ⟨its, r, ht, hz⟩ := I.list hx
  have hlen := r.length
  refine ⟨"list", _, slot_list_getitem.lookup, ht.isList.typeIs, ?_⟩
  refine wpAny_getItem_list_slice ht.isList hs pl pu .none (by simp) ?_ (by rw [List.size_toArray] <;> omega)
  rw [slicePick_cut, ← hlen]
  refine ⟨.ref s.heap.objs.size, _, I.laid (t' := s.toks) (o := .lst (cutV xs lo hi)) (fun b ob q => Heap.get?_push_of_some _ q) (Nat.le_refl _) ?_, rfl, q _ (I.hok.fresh (Nat.le_refl _))⟩
  exact ⟨Nat.le_trans (cutV_length xs lo hi) hz, _, 0, (r.drop (HT.sIx xs.length 0 lo)).take (HT.sIx xs.length xs.length hi - HT.sIx xs.length 0 lo), Heap.get?_push_size _ rfl⟩
theorem call_len_seq : CallR X (.builtin "len") (fun xs H Q => ∃ p ys, xs = [.ref p] ∧ (SqL X.K H p ys ∨ SqT X.K H p ys) ∧ Q (.int ys.length) H) := by
  intro pins s σ H xs us Q I r h
  obtain ⟨p, ys, rfl, hq, q⟩ := h
  obtain ⟨u, rfl, rx⟩ := vals1 r
  cases rx
  have hn := line63
  rcases hq with hq | hq
  · obtain ⟨its, r', pl, hz⟩ := I.list hq
    have hlen := r'.length
    exact Calls.call_len_list pl.isList (by simp only [List.size_toArray] <;> omega) ⟨.int ys.length, H, I.tok _, ⟨s.toks + 1, by rw [List.size_toArray, hlen]⟩, q⟩
  · obtain ⟨its, r', pl, hz⟩ := I.tuple hq
    have hlen := r'.length
    exact len_tuple pl (by simp only [List.size_toArray] <;> omega) ⟨.int ys.length, H, I.tok _, ⟨s.toks + 1, by rw [List.size_toArray, hlen]⟩, q⟩
theorem CallR.or {f : Value} {r r' : List V → Hp → VK → Prop} (h : CallR X f r) (h' : CallR X f r') : CallR X f (fun xs H Q => r xs H Q ∨ r' xs H Q) := by
  intro pins s σ H xs us Q I rs q
  rcases q with q | q
  · exact h pins s σ H xs us Q I rs q
  · exact h' pins s σ H xs us Q I rs q
theorem call_list_of : CallR X (.type "list") (fun xs H Q => ∃ p ys, xs = [.ref p] ∧ (SqL X.K H p ys ∨ SqT X.K H p ys) ∧ ∀ l, H l = none → Q (.ref l) (upd H l (.lst ys))) := by
  intro pins s σ H xs us Q I r h
  obtain ⟨p, ys, rfl, hq, q⟩ := h
  obtain ⟨u, rfl, rx⟩ := vals1 r
  cases rx
  have fin : ∀ (its : List Value), Vals ys its → ys.length ≤ sizeLine → ∀ (h' : Heap) (c' : Nat), (∀ b o', s.heap.get? b = some o' → h'.get? b = some o') →
      h'.get? s.heap.objs.size = some { cls := .type "list", dict := none, data := .seq its.toArray c', slots := #[] } → EP X pins σ Q (.ref s.heap.objs.size) { s with heap := h' } := fun its r' hz h' c' kp e =>
    ⟨.ref s.heap.objs.size, _, I.laid (t' := s.toks) kp (Nat.le_refl _) (show ObjOk X.prog X.w _ h' _ (.lst ys) from ⟨hz, its, c', r', e⟩), rfl, q _ (I.hok.fresh (Nat.le_refl _))⟩
  rcases hq with hq | hq
  · obtain ⟨its, r', pl, hz⟩ := I.list hq
    have hlen := r'.length
    obtain ⟨o, ho, hc, n, hd⟩ := pl.isList
    exact call_list_seq p (.inl rfl) ho hc hd (fun h' c' kp e => fin its r' hz h' c' kp e) (by simp only [List.size_toArray] <;> omega)
  · obtain ⟨its, r', pl, hz⟩ := I.tuple hq
    have hlen := r'.length
    obtain ⟨o, ho, hc, n, hd⟩ := pl
    exact call_list_seq p (.inr rfl) ho hc hd (fun h' c' kp e => fin its r' hz h' c' kp e) (by simp only [List.size_toArray] <;> omega)
def tyV (K : PySem.W.Frag) (T : String) (x : V) (H : Hp) : Prop := match x with
  | .str _ => T = "str"
  | .int _ => T = "int"
  | .ref p => (T = "list" ∧ ∃ xs, SqL K H p xs) ∨ (T = "tuple" ∧ ∃ o, K.lookup p = some o ∧ o.cls = .type "tuple" ∧ o.dict = none) ∨
      (T = "dict" ∧ ((∃ kvs, H p = some (.dK kvs)) ∨ ∃ kvs, H p = some (.dT kvs))) ∨ (T = "set" ∧ ∃ S n, H p = some (.set S n))
  | _ => False
theorem tyV_is {pins : List (Addr × Obj)} {σ : St} {H : Hp} {s : Shared} {T : String} {x : V} {v : Value} (I : Inv X pins σ H s) (r : RelV x v) (ty : tyV X.K T x H) :
    s.TypeIs v T ∧ ∀ a, v = .ref a → ∃ ob, s.heap.get? a = some ob ∧ ob.dict = none := by
  cases x with
  | str z =>
    obtain ⟨t, rfl⟩ := r
    cases (show T = "str" from ty)
    exact ⟨typeIs_str s z t, fun _ e => nomatch e⟩
  | int i =>
    obtain ⟨t, rfl⟩ := r
    cases (show T = "int" from ty)
    exact ⟨typeIs_int s i t, fun _ e => nomatch e⟩
  | ref p =>
    cases r
    rcases ty with ⟨rfl, xs, hq⟩ | ⟨rfl, o, hk, hc, hd⟩ | ⟨rfl, hk⟩ | ⟨rfl, S, n, hk⟩
    · obtain ⟨its, _, pl, _⟩ := I.list hq
      refine ⟨pl.isList.typeIs, fun a e => ?_⟩
      cases e
      obtain ⟨o, n, e, c, hd, _⟩ := pl
      exact ⟨o, e, hd⟩
    · refine ⟨⟨o, I.kIn p o hk, hc⟩, fun a e => ?_⟩
      cases e
      exact ⟨o, I.kIn _ o hk, hd⟩
    · have z : ∃ o, s.heap.get? p = some o ∧ o.ExactDict := by
        rcases hk with ⟨kvs, hk⟩ | ⟨kvs, hk⟩
        · obtain ⟨_, _, _, _, o, _, _, e, ex, _⟩ := I.hok p _ hk
          exact ⟨o, e, ex⟩
        · obtain ⟨_, _, _, _, o, _, _, e, ex, _⟩ := I.hok p _ hk
          exact ⟨o, e, ex⟩
      obtain ⟨o, e, ex⟩ := z
      refine ⟨⟨o, e, ex.1⟩, fun a e2 => ?_⟩
      cases e2
      exact ⟨o, e, ex.2.1⟩
    · obtain ⟨o, _, _, _, e, ex, _⟩ := I.hok p _ hk
      refine ⟨⟨o, e, ex.1⟩, fun a e2 => ?_⟩
      cases e2
      exact ⟨o, e, ex.2.1⟩
  | _ => exact False.elim ty
def tBM (K : PySem.W.Frag) (T : String) (r : V → List V → Hp → VK → Prop) (to : TE) (t : TA) : TE := fun σ H Q => to σ H fun x H1 => tyV K T x H1 ∧ t σ H1 fun xs H2 => r x xs H2 Q
variable {o e : Expr} {es : List Expr} {to : TE} {t : TA} {name : Str} {apos cpos : Pos} {T id : String} {r : V → List V → Hp → VK → Prop}
theorem pe_bm (pa : PlainAttrs T) (slot : Slot T name id) (hty : typeOf (.builtin id) = pure (.type "method_descriptor")) (hm : MtR X id r) (ho : PE X o to) (ha : PA X (e :: es) t)
    (hbase : attributeBase o name X.env (eval o X.env) = eval o X.env := by rfl)
    (hfew : ((backTo cpos (starEach (e :: es) X.env)).all (fun x => !x.1) && (backToKw cpos (keywordEach [] X.env)).all (fun x => x.1.isSome)
      && decide ((e :: es).length + ([] : List Keyword).length + (if ([] : List Keyword).isEmpty then 0 else 1) < 30)) = true := by rfl)
    (hline : (apos.endLine == cpos.line) = true := by rfl) (hs : starEach (e :: es) X.env = (false, eval e X.env) :: starEach es X.env := by rfl) (hplain : (backTo cpos (starEach es X.env)).any (·.1) = false := by rfl) :
    PE X (.Call (.Attribute o name apos) (e :: es) [] cpos) (tBM X.K T r to t) := by
  intro pins s σ H Q I h
  refine wpAny_Call_method_late hbase hfew hline rfl (thn (ho pins s σ H _ I h) fun v s1 ⟨x, H1, I1, r1, ty, q1⟩ => ?_)
  obtain ⟨h1, h2⟩ := tyV_is I1 r1 ty
  refine ⟨T, id, pa, slot, hty, h1, h2, ?_⟩
  have hA := ha cpos pins s1 σ H1 _ I1 q1
  rw [hs] at hA ⊢
  refine Calls.callWith_builtin (by show (false || (backTo cpos (starEach es X.env)).any (·.1)) = false; rw [hplain] <;> rfl) (Calls.evalArgs_plain ?_)
  exact thn hA fun us s2 ⟨vs, H2, I2, r2, q2⟩ => hm pins s2 σ H2 x vs v us Q I2 r1 r2 q2
end
end L2
namespace L2
open PySem PySem.Spec PyProof.Rows
def MtM (X : Cx) (id : String) (r : V → List V → Hp → VK → Prop) : Prop :=
  ∀ (pins : List (Addr × Obj)) (s : Shared) (σ : St) (H : Hp) (x : V) (xs : List V) (v : Value) (us : List Value) (Q : VK), Inv X pins σ H s → RelV x v → Vals xs us → r x xs H Q →
    wpAny (model X.prog X.w) X.A (call (.builtin id) (v :: us)) (EP X pins σ Q) X.xe s
theorem Vals.one : ∀ {x : V} {us : List Value}, Vals [x] us → ∃ u, us = [u] ∧ RelV x u
  | _, _, .cons r .nil => ⟨_, rfl, r⟩
theorem Vals.two : ∀ {x y : V} {us : List Value}, Vals [x, y] us → ∃ u v, us = [u, v] ∧ RelV x u ∧ RelV y v
  | _, _, _, .cons r (.cons q .nil) => ⟨_, _, rfl, r, q⟩
section
variable {X : Cx} {pins : List (Addr × Obj)} {σ : St} {H : Hp} {s : Shared} {l b : Addr} {xs ys zs : List V}
theorem Inv.lset {its its' : List Value} {n : Nat} {f : Array Value → Array Value} {t' : Nat} (I : Inv X pins σ H s) (hH : H l = some (.lst xs))
    (e : s.heap.get? l = some { cls := .type "list", data := .seq its.toArray n }) (hf : f its.toArray = its'.toArray) (hv : Vals ys its') (hz : ys.length ≤ sizeLine) :
    Inv X pins σ (upd H l (.lst ys)) { s with heap := s.heap.update l (Obj.mapSeq f), toks := t' } := by
  have q := PySem.IsL.update e f
  rw [hf] at q
  refine I.write (x := l) (e := l) (by rw [hH]; exact trivial) (.inl rfl) (fun b' u hb hu => (Heap.get?_update_other s.heap (Obj.mapSeq f) (Ne.symm hb)).trans hu) ⟨_, q⟩ ?_
  exact ⟨hz, its', _, hv, q⟩
theorem Inv.lnew {its : List Value} {t' : Nat} (I : Inv X pins σ H s) (hv : Vals ys its) (hz : ys.length ≤ sizeLine) :
    Inv X pins σ (upd H s.heap.objs.size (.lst ys)) { s with heap := s.heap.push { cls := .type "list", data := .seq its.toArray }, toks := t' } :=
  I.laid (fun _ _ q => Heap.get?_push_of_some _ q) (Nat.le_refl _) ⟨hz, its, 0, hv, Heap.get?_push_size _ rfl⟩
theorem Inv.fresh (I : Inv X pins σ H s) : H s.heap.objs.size = none := I.hok.fresh (Nat.le_refl _)
theorem Inv.lstM (I : Inv X pins σ H s) (hH : H l = some (.lst xs)) : xs.length ≤ sizeLine ∧ ∃ (its : List Value) (n : Nat), Vals xs its ∧ xs.length = its.length ∧ s.heap.get? l = some { cls := .type "list", data := .seq its.toArray n } := by
  obtain ⟨z, its, n, r, e⟩ := I.hok l _ hH
  exact ⟨z, its, n, r, r.length, e⟩
end
section
variable {X : Cx}
def rAppend : V → List V → Hp → VK → Prop := fun x vs H Q => ∃ l xs y, x = .ref l ∧ vs = [y] ∧ H l = some (.lst xs) ∧ xs.length < sizeLine ∧ Q .non (upd H l (.lst (xs ++ [y])))
theorem mt_append : MtM X "list.append" rAppend := by
  intro pins s σ H x vs v us Q I rx rv h
  obtain ⟨l, xs, y, rfl, rfl, hH, hz, q⟩ := h
  cases rx
  obtain ⟨u, rfl, ru⟩ := rv.one
  obtain ⟨z, its, n, r, hl, e⟩ := I.lstM hH
  refine call_meets F.slot_list_append ⟨_, e, rfl⟩ F.entry_list_append (F.args_list_append_2 _ _) (PySem.list_append l its.toArray n u (by rw [List.size_toArray]; omega)) ⟨e, ?_⟩
  refine ⟨.non, _, I.lset (its' := its ++ [u]) hH e (by simp) (r.append (.cons ru .nil)) ?_, rfl, q⟩
  rw [List.length_append, List.length_singleton]
  omega
end
section
variable {prog : Program} {w : World} {A : Around} {E : Value → Shared → Prop} {s : Shared}
end
section
variable {X : Cx}
end
end L2
namespace Att
open PySem PySem.W PySem.Calls PyProof.Rows
theorem ints_of_wellAll {P : Params} {h : Heap} : ∀ (ns : List Int) (vs : List Value), WellAll P h vs (ns.map WData.int) → IntsAre vs ns := by
  intro ns
  induction ns with
  | nil =>
    intro vs w
    rw [List.map_nil] at w
    cases w
    exact .nil
  | cons n ns ih =>
    intro vs w
    rw [List.map_cons] at w
    cases w with
    | cons a b =>
      cases a
      exact .cons _ _ (ih _ b)
theorem script_of {l : OpenLaw} {n : Nat} (hn : l.most = some n) {P : Params} {h : Heap} {args : List WData} {vals : List Value}
    (hpre : l.row.toRowW.claim.pre args = true) (hwl : WellAll P h vals args) :
    ∃ a vs ns, vals = [Value.ref a] ∧ args = [WData.list (ns.map WData.int)] ∧ h.get? a = some { cls := .type "list", data := .seq vs.toArray } ∧ IntsAre vs ns ∧ ns.length ≤ n := by
  have hsh : WShape.hasAll [] args [.list .int] = true := (pre_splitW hpre).1
  have hc : l.pre.holds [] { args := args } = true := (pre_splitW hpre).2
  obtain ⟨d, r, rfl, h1, h2⟩ := hasAllW_cons hsh
  obtain rfl := hasAllW_nil h2
  obtain ⟨xs, rfl, h3⟩ := hasW_list h1
  obtain ⟨ns, rfl⟩ := items_int h3
  have hlen : ns.length ≤ n := by
    unfold OpenLaw.pre at hc
    have h4 : (WTm.not (.lt (.lit (.int (n : Int))) (.len (.arg 0)))).holds [] { args := [.list (ns.map .int)] } = true := by
      have h4 := (holds_andW hc).1
      rw [hn] at h4
      exact h4
    have h5 := condW_of h4 (w_not (w_lt w_lit (w_len_list (w_arg rfl))))
    rw [List.length_map] at h5
    refine Nat.le_of_not_lt fun q => ?_
    have q' : (n : Int) < ((ns.length : Nat) : Int) := by omega
    first
      | (rw [decide_eq_true q'] at h5; exact absurd h5 (by decide))
      | (simp at h5; omega)
  cases hwl with
  | cons w1 w2 =>
    cases w2
    cases w1 with
    | list ho hall => exact ⟨_, _, ns, rfl, rfl, ho, ints_of_wellAll ns _ hall, hlen⟩
theorem post_true (l : OpenLaw) (args : List WData) : l.row.toRowW.claim.post args (.bool true) args = true :=
  postW_of (r := l.row.toRowW) (X := (true == true))
    (show WShape.has [] (.bool true) .bool = true by first | rfl | decide | simp [WShape.has, WShape.arms, WShape.armsAll])
    (show (WTm.eq .res (.lit (.bool true))).value [] { args := args, res := some (.bool true), after := args } = some (.bool (true == true)) from w_eq_bool (w_res rfl) w_lit) rfl
theorem lay_bits {ns : List Int} (h : WData.layableAll [WData.list (ns.map WData.int)] = true) : ∀ x ∈ ns, Builtin.Int.intBits x ≤ 1048576 := by
  have h1 : WData.layable (WData.list (ns.map WData.int)) = true := by
    have h' : (WData.layable (WData.list (ns.map WData.int)) && true) = true := h
    rwa [Bool.and_true] at h'
  unfold WData.layable at h1
  rw [Bool.and_eq_true] at h1
  have h2 := of_decide_eq_true h1.2
  have h3 : WData.weightAll (ns.map WData.int) ≤ 2 ^ 20 := by
    have e : WData.weight (WData.list (ns.map WData.int)) = WData.weightAll (ns.map WData.int) := by simp only [WData.weight]
    rwa [e] at h2
  have h4 : ∀ (l : List Int), ∀ x ∈ l, WData.weight (WData.int x) ≤ WData.weightAll (l.map WData.int) := by
    intro l
    induction l with
    | nil => intro x hx; cases hx
    | cons y r ih =>
      intro x hx
      have e : WData.weightAll ((y :: r).map WData.int) = WData.weight (WData.int y) + 1 + WData.weightAll (r.map WData.int) := by
        rw [List.map_cons]; simp only [WData.weightAll]
      rw [e]
      rcases List.mem_cons.mp hx with z | z
      · subst z; omega
      · have := ih x z; omega
  intro x hx
  have h5 := Nat.le_trans (h4 ns x hx) h3
  have e : WData.weight (WData.int x) = Builtin.Int.intBits x := by
    simp only [WData.weight]
    unfold Builtin.Int.intBits
    by_cases hz : x = 0
    · subst hz; rfl
    · have hb : (x == 0) = false := by simpa using hz
      simp [hz]
  rw [e] at h5
  exact h5
theorem attach_call {l : OpenLaw} {n : Nat} {q : Program} {loose : List Str} {XP : (Str → Option Value) → Heap → Prop} {YP : World → Heap → Prop} {d : DefRec}
    (hn : l.most = some n) (hdf : d.params.defaults = [])
    (call : ∀ (w : World) (s₀ s₁ : Shared) (mg mb : Str → Option Value) (fa : Addr) (o : Obj) (pm cd doc : Value) (a : Addr) (vs : List Value) (ns : List Int),
      Ground q loose [] XP w s₀ mg mb s₁.heap → YP w s₁.heap →
      s₁.heap.get? fa = some o → o.data = .func (docDef d.name d.params d.body d.scope pm cd doc) → s₁.heap.CodeRec cd d.name → mg d.name = some (.ref fa) →
      s₁.heap.get? a = some { cls := .type "list", data := .seq vs.toArray } → IntsAre vs ns → ns.length ≤ n → (∀ x ∈ ns, Builtin.Int.intBits x ≤ 1048576) → s₁.gens = #[] →
      codeAny (model l.prog w) callerA (.call (.ref fa) ⟨[.ref a], []⟩) (fun r s' => r = .ok (.ret (.bool true)) ∧ OldK s₁.heap s'.heap ∧ s'.os = s₁.os ∧ AllBare s'.gens) s₁) :
    WalkO q loose XP YP l.row.toRowW d [] (fun f vs => PySem.call f vs) := by
  intro w s₀ s₁ mg mb G Y fa o pm cd doc dV kV ho hd hcd hD hmg hg args vals as hpre hlay hrd hwl hlo
  obtain rfl : dV = .none := Dflts.none hD hdf
  obtain rfl : kV = .none := Dflts.noKw hD
  obtain ⟨a, vs, ns, rfl, rfl, hobj, hints, hlen⟩ := script_of hn hpre hwl
  refine enter_call (codeAny_mono (call w s₀ s₁ mg mb fa o pm cd doc a vs ns G Y ho (fd_plain hd) hcd hmg hobj hints hlen (lay_bits hlay) hg) fun r s' hq => ?_)
  obtain ⟨rfl, h2, h3, h4⟩ := hq
  exact ⟨.inl ⟨.bool true, .bool true, [], rfl, fun _ => rfl, .bool true, post_true l _, fun _ => ⟨List.Pairwise.nil, fun _ hm => (nomatch hm)⟩⟩, h2, h3, h4⟩
section
variable {prog : Program} {w : World} {A : Around} {E : Value → Shared → Prop} {s : Shared} {K : Frag}
end
end Att
namespace L2
open PySem PySem.Spec PyProof.Rows
theorem vals_ints : ∀ {vs : List Value} {ns : List Int}, IntsAre vs ns → Vals (ns.map V.int) vs
  | _, _, .nil => .nil
  | _, _, .cons n t h => .cons ⟨t, rfl⟩ (vals_ints h)
def Only (H : Hp) : Prop := ∀ b, H b = none ∨ ∃ o xs, H b = some (.frz o (.lst xs))
theorem law_call {P : Program} {w : World} {K : PySem.W.Frag} {mg mb : Str → Option Value} {CX : CXT} {k : Nat} {fa a : Addr} {fd : FuncData} {x : Str} {sp : Sp} {s₁ : Shared} {vs : List Value} {ns : List Int}
    (KX : K.In s₁.heap) (hns : s₁.heap.Ns mainGlobals mg) (hb : s₁.heap.Ns builtinsNs mb) (hbb : ∀ x : Str, x ≠ "__name__" → mb x = bootBuiltins x) (hlim : s₁.heap.NoLimit) (hsr : s₁.heap.NoSeer) (hg : s₁.gens = #[])
    (ha : s₁.heap.get? a = some { cls := .type "list", data := .seq vs.toArray }) (hi : IntsAre vs ns) (hl : ns.length ≤ sizeLine) (hr : Room k callerA)
    (F : ∀ base : Heap, K.In base → base.Ns mainGlobals mg → FnOk P w K mg base CX k fa fd [x] sp) (hbind : ∀ (s : Shared) (u : Value), BindsTo s fd ⟨[u], []⟩ [(x, u)])
    (hsp : ∀ H : Hp, Only H → SqL K H a (ns.map V.int) → sp [.ref a] H (fun v _ => v = .bl true) fun _ _ _ => False)
    (hCX : ∀ H e s', CX [] H s₁ (fun _ _ _ => False) e s' → False) :
    codeAny (model P w) callerA (.call (.ref fa) ⟨[.ref a], []⟩) (fun r s' => r = .ok (.ret (.bool true)) ∧ OldK s₁.heap s'.heap ∧ s'.os = s₁.os ∧ AllBare s'.gens) s₁ := by
  have rv := vals_ints hi
  have lenV := hi.length
  have core : ∀ H : Hp, Only H → SqL K H a (ns.map V.int) → HOk P w H s₁.heap → (∀ b, H b ≠ none → b = a) → (H a ≠ none → K.lookup a = none) →
      codeAny (model P w) callerA (.call (.ref fa) ⟨[.ref a], []⟩) (fun r s' => r = .ok (.ret (.bool true)) ∧ OldK s₁.heap s'.heap ∧ s'.os = s₁.os ∧ AllBare s'.gens) s₁ := by
    intro H hO hS hok hA hK
    have base_of : ∀ {b : Addr} {o : Obj}, s₁.heap.get? b = some o → H b = none → (hidT s₁.heap H).get? b = some o := fun e n => hidT_get e n
    have noA : ∀ {b : Addr} {o : Obj} {es : Array DictEntry} {ep : Nat}, s₁.heap.get? b = some o → o.data = .dict es ep → H b = none := fun {b o es ep} e d => by
      cases q : H b with
      | none => rfl
      | some u =>
        have e' : b = a := hA b (by rw [q]; simp)
        subst e'
        rw [ha] at e; cases e
        have d' : Data.seq vs.toArray _ = Data.dict es ep := d
        cases d'
    have nsK : ∀ {b : Addr} {m : Str → Option Value}, s₁.heap.Ns b m → (hidT s₁.heap H).Ns b m := fun {b m} ⟨o, es, ep, e, d, r⟩ => ⟨o, es, ep, base_of e (noA e d), d, r⟩
    have hKb : K.In (hidT s₁.heap H) := fun b o e => base_of (KX b o e) (by
      cases q : H b with
      | none => rfl
      | some u =>
        have e' : b = a := hA b (by rw [q]; simp)
        subst e'
        rw [hK (by rw [q]; simp)] at e; cases e)
    have noC : ∀ {b : Addr} {o : Obj}, s₁.heap.get? b = some o → o.cls ≠ .type "list" → H b = none := fun {b o} e d => by
      cases q : H b with
      | none => rfl
      | some u =>
        have e' : b = a := hA b (by rw [q]; simp)
        subst e'
        rw [ha] at e; cases e
        exact absurd rfl d
    have hSr : (hidT s₁.heap H).NoSeer := ⟨let ⟨mc, h1, h2⟩ := hsr.statics; ⟨mc, nsK h1, h2⟩, let ⟨mc, h1, h2⟩ := hsr.mods; ⟨mc, nsK h1, h2⟩, let ⟨mc, h1, h2⟩ := hsr.imp; ⟨mc, nsK h1, h2⟩,
      let ⟨mg', bm, ob, h1, h2, h3, h4, h5⟩ := hsr.main; ⟨mg', bm, ob, nsK h1, h2, base_of h3 (noC h3 (by rw [h4]; decide)), h4, h5⟩⟩
    have hM : Mod K mg (hidT s₁.heap H) := ⟨hKb, nsK hns, ⟨mb, nsK hb, hbb⟩, let ⟨mc, h1, h2⟩ := hlim; ⟨mc, nsK h1, h2⟩, hSr⟩
    have e0 : Env0 P w K mg (hidT s₁.heap H) callerA [] s₁ H := ⟨rfl, hM, fun b o e => of_hidT e, Nat.le_of_eq (hidT_size _ _), trivial, fun b hb => absurd (show b ∈ ([] : List Addr) from hb) (by simp), hok, .of_eq hg⟩
    refine codeAny_mono ((F _ hKb (nsK hns)).run callerA [] s₁ H ⟨[.ref a], []⟩ [.ref a] [.ref a] _ _ hr e0 (hbind s₁ (.ref a)) (.cons rfl .nil) (hsp H hO hS)) fun r s' h => ?_
    cases r with
    | error e => exact (hCX H e s' h).elim
    | ok fl =>
      cases fl with
      | next => exact False.elim h
      | brk => exact False.elim h
      | cont => exact False.elim h
      | ret u =>
        obtain ⟨v, H', os, bare, un, hok', r', q⟩ := h
        have q' : v = .bl true := q
        subst q'
        obtain rfl : u = Value.bool true := r'
        refine ⟨rfl, OldK.of_keep fun b o e => ?_, os, bare⟩
        cases q : H b with
        | none => exact un.keep b o e q (by intro z; exact absurd (show b ∈ ([] : List Addr) from z) (by simp)) (by simp)
        | some u =>
          rcases hO b with z | ⟨ob, xs, z⟩
          · rw [q] at z; cases z
          · have z2 := un.frzs b ob _ z
            obtain ⟨e1, _⟩ := hok b _ z
            obtain ⟨e2, _⟩ := hok' b _ z2
            rw [e] at e1; cases e1
            exact e2
  cases hk : K.lookup a with
  | some o =>
    have e := KX a o hk
    rw [ha] at e
    cases e
    refine core (fun _ => none) (fun _ => .inl rfl) (.inr ⟨_, vs.toArray, _, hk, rfl, rfl, rfl, by rw [List.size_toArray, lenV]; exact hl, by simpa using rv⟩) (fun b u z => by have z' : (none : Option HO) = some u := z; cases z') (fun b z => absurd rfl z) fun z => absurd rfl z
  | none =>
    refine core (fun b => if b = a then some (.frz { cls := .type "list", data := .seq vs.toArray } (.lst (ns.map V.int))) else none) (fun b => ?_) (.inl (.inr ⟨{ cls := .type "list", data := .seq vs.toArray }, if_pos rfl⟩)) (fun b u z => ?_) (fun b z => ?_) fun _ => hk
    · by_cases hb : b = a
      · exact .inr ⟨_, _, if_pos hb⟩
      · exact .inl (if_neg hb)
    · by_cases hb : b = a
      · have z' := (if_pos hb).symm.trans z
        cases z'
        subst hb
        exact ⟨ha, by rw [List.length_map]; exact hl, vs, _, rv, ha⟩
      · have z' := (if_neg hb).symm.trans z
        cases z'
    · by_cases hb : b = a
      · exact hb
      · exact absurd (if_neg hb) z
end L2
namespace L2
open PySem PySem.Spec PyProof.Rows
theorem walk_of {l : PySem.W.OpenLaw} {n k : Nat} {q : Program} {loose : List Str} {XP : (Str → Option Value) → Heap → Prop} {YP : World → Heap → Prop} {d : DefRec} {K : Params → PySem.W.Frag} {CX : World → CXT} {sp : World → Sp} {x : Str}
    (hn : l.most = some n) (hn2 : n ≤ sizeLine) (hdf : d.params.defaults = []) (hq : importsNone q = true) (hr : Room k callerA)
    (hY : ∀ (w : World) (h : Heap), YP w h → (K w.params).In h)
    (F : ∀ (w : World) (mg : Str → Option Value) (fa : Addr) (h : Heap), (K w.params).In h → h.Ns mainGlobals mg → mg d.name = some (.ref fa) →
      ∃ fd : FuncData, (∀ (s : Shared) (u : Value), BindsTo s fd ⟨[u], []⟩ [(x, u)]) ∧
        ∀ base : Heap, (K w.params).In base → base.Ns mainGlobals mg → FnOk l.prog w (K w.params) mg base (CX w) k fa fd [x] (sp w))
    (hsp : ∀ (w : World) (H : Hp) (a : Addr) (ns : List Int), ns.length ≤ n → (∀ x ∈ ns, Builtin.Int.intBits x ≤ 1048576) → Only H → SqL (K w.params) H a (ns.map V.int) → sp w [.ref a] H (fun v _ => v = .bl true) fun _ _ _ => False)
    (hCX : ∀ (w : World) (H : Hp) (s : Shared) (e : Value) (s' : Shared), CX w [] H s (fun _ _ _ => False) e s' → False) :
    PySem.W.WalkO q loose XP YP l.row.toRowW d [] (fun f vs => PySem.call f vs) := by
  refine Att.attach_call hn hdf fun w s₀ s₁ mg mb fa o pm cd doc a vs ns G Y ho hd hcd hmg hobj hints hlen hbt hg => ?_
  have KX := hY w _ Y
  obtain ⟨fd, hb, hF⟩ := F w mg fa _ KX G.T.g hmg
  exact law_call KX G.T.g G.T.b G.T.builtins G.T.nolimit (G.T.seer hq) hg hobj hints (Nat.le_trans hlen hn2) hr hF hb (fun H hO hS => hsp w H a ns hlen hbt hO hS) fun H e s' => hCX w H s₁ e s'
end L2
namespace L2
open PySem PySem.Spec PyProof.Rows
def defArgs (s : Stmt) : Arguments := match s with
  | .FunctionDef _ a _ _ _ _ _ _ _ _ => a
  | _ => { posonlyargs := [], args := [], vararg := none, kwonlyargs := [], kw_defaults := [], kwarg := none, defaults := [] }
def defBody (s : Stmt) : List Stmt := match s with
  | .FunctionDef _ _ b _ _ _ _ _ _ _ => b
  | _ => []
def defScope (s : Stmt) : Scope := match s with
  | .FunctionDef _ _ _ _ _ _ sc _ _ _ => sc
  | _ => { kind := .function, names := [], isGenerator := false, isCoroutine := false }
abbrev CX0 : CXT := fun _ _ _ _ _ _ => False
abbrev E0 : XK := fun _ _ _ => False
theorem pass0 {X : Cx} : Passes CX0 X E0 := fun _ _ _ _ _ _ _ h => h.elim
structure Fun (K : PySem.W.Frag) (x qual : Str) (st : Stmt) (f : Addr) (fd : FuncData) : Prop where
  ex : ∃ (oc : Value) (od : Option Addr) (kV doc pm : Value) (an : Option Addr) (cdv ct : Value) (osl : Array (Option Value)),
    fd = PySem.W.fnOf x qual (defArgs st) (defBody st) (defScope st) .none kV doc pm an cdv ct ∧ K.lookup f = some ⟨oc, od, .func fd, osl⟩ ∧ PySem.W.codeIn K cdv qual = true
  kp : PySem.W.keepIn K (.ref f) = true
section
variable {P : Program} {w : World} {K : PySem.W.Frag} {mg : Str → Option Value} {base : Heap}
theorem Fun.ok {x qual : Str} {st : Stmt} {f : Addr} {fd : FuncData} {N ps : List Str} {k : Nat} {sp : Sp} (F : Fun K x qual st f fd) (S : FnScope N ps (defScope st)) (len : ∀ vs H Q E, sp vs H Q E → vs.length = ps.length)
    (hbody : ∀ (cdv : Value) (A : Around) (outer : List Env) (s : Shared) (H : Hp) (vs : List V) (Q : VK) (E : XK), Room k (A.deeper (envOfC qual (defScope st) s.heap.objs.size f cdv)) → sp vs H Q E →
      ∃ t, PSs (cxOf CX0 P w K mg base N qual (defScope st) f cdv A outer s H E).nox (defBody st) t ∧ t { nx := fun _ H' => Q .non H', rt := Q } (start N vs) H) : FnOk P w K mg base CX0 (k + 1) f fd ps sp := by
  obtain ⟨oc, od, kV, doc, pm, an, cdv, ct, osl, rfl, lk, hcd⟩ := F.ex
  refine fn_of lk hcd S len fun A outer s H vs Q E hr hsp => ?_
  obtain ⟨t, h, q⟩ := hbody cdv A outer s H vs Q E hr hsp
  exact ⟨t, h.nox, q⟩
theorem Fun.binds {x qual : Str} {st : Stmt} {f : Addr} {fd : FuncData} {ps : List Str} (F : Fun K x qual st f fd)
    (h : ∀ (kV doc pm : Value) (an : Option Addr) (cdv ct : Value) (us : List Value), us.length = ps.length → bindArgs (PySem.W.fnOf x qual (defArgs st) (defBody st) (defScope st) .none kV doc pm an cdv ct) ⟨us, []⟩ = pure (ps.zip us)) : Binds K fd ps [] := by
  obtain ⟨oc, od, kV, doc, pm, an, cdv, ct, osl, rfl, lk, hcd⟩ := F.ex
  exact .all (h kV doc pm an cdv ct)
theorem fun_mk {x qual : Str} {st : Stmt} {f : Addr} {oc : Value} {od an : Option Addr} {osl : Array (Option Value)} {kV doc pm cdv ct : Value} (l : K.lookup f = some ⟨oc, od, .func (PySem.W.fnOf x qual (defArgs st) (defBody st) (defScope st) .none kV doc pm an cdv ct), osl⟩)
    (c : PySem.W.codeIn K cdv qual = true) (k : PySem.W.keepIn K (.ref f) = true) : Fun K x qual st f (PySem.W.fnOf x qual (defArgs st) (defBody st) (defScope st) .none kV doc pm an cdv ct) := ⟨⟨oc, od, kV, doc, pm, an, cdv, ct, osl, rfl, l, c⟩, k⟩
end
theorem small1000 {n : Nat} (h : n ≤ 1000) : n < sizeLine := Nat.lt_of_le_of_lt h (by decide)
section
variable {X : Cx}
theorem pv (i : Nat) {x : Str} {pos : Pos} (hN : X.N[i]? = some x := by rfl) (hv : Vis X.env.scope x := by first | exact Or.inl rfl | exact Or.inr (Or.inl rfl) | exact Or.inr (Or.inr rfl)) (hd : (x == ("__debug__" : Str)) = false := by decide)
    (hcd : (x == ("__classdict__" : Str)) = false := by decide) : PE X (.Name x pos) (tVar i) := pe_var hN hv hd hcd
end
theorem iteF {A B : Prop} (h : B) : if false = true then A else B := by
  rw [if_neg Bool.false_ne_true]
  exact h
theorem iteT {A B : Prop} (h : A) : if true = true then A else B := by
  rw [if_pos rfl]
  exact h
theorem ite2 {c A B : Prop} [Decidable c] (h1 : c → A) (h2 : ¬ c → B) : if c then A else B := by
  by_cases h : c
  · rw [if_pos h]
    exact h1 h
  · rw [if_neg h]
    exact h2 h
theorem iteNS {c A B : Prop} [Decidable c] (hc : c) (h : B) : if (!decide c) = true then A else B := by
  rw [decide_eq_true hc]
  exact iteF h
def Same (H H' : Hp) : Prop := ∀ b o, H b = some o → H' b = some o
theorem Same.refl (H : Hp) : Same H H := fun _ _ h => h
theorem Same.trans {H H1 H2 : Hp} (a : Same H H1) (b : Same H1 H2) : Same H H2 := fun c o h => b c o (a c o h)
theorem Same.free {H H' : Hp} (e : Same H H') {l : Addr} (h : H' l = Option.none) : H l = Option.none := by
  cases q : H l with
  | none => rfl
  | some o =>
    rw [e l o q] at h
    cases h
theorem Same.seq {K : PySem.W.Frag} {H H' : Hp} {a : Addr} {xs : List V} (e : Same H H') (h : SqL K H a xs) : SqL K H' a xs := by
  rcases h with (h | ⟨o, h⟩) | h
  · exact .inl (.inl (e _ _ h))
  · exact .inl (.inr ⟨o, e _ _ h⟩)
  · exact .inr h
end L2
namespace L2
open PySem PySem.Spec PyProof.Rows
section
variable {X : Cx}
def rAddI : R2 := fun x y H Q => ∃ i j, x = .int i ∧ y = .int j ∧ Q (.int (i + j)) H
def rSubI : R2 := fun x y H Q => ∃ i j, x = .int i ∧ y = .int j ∧ Q (.int (i - j)) H
theorem op_addI : OpR X (binaryOp .Add) rAddI := op_add
theorem op_subI : OpR X (binaryOp .Sub) rSubI := op_sub
def CMulB (i j : Int) : Prop := ∃ m n : Nat, Builtin.Int.intBits i ≤ m ∧ Builtin.Int.intBits j ≤ n ∧ m + n ≤ 134217728
def rMulB : R2 := fun x y H Q => ∃ i j, x = .int i ∧ y = .int j ∧ CMulB i j ∧ Q (.int (i * j)) H
theorem op_mulB : OpR X (binaryOp .Mult) rMulB := opI (C := CMulB) (g := fun i j => i * j) fun _ _ _ _ _ _ _ hc q => by
  obtain ⟨m, n, h1, h2, h3⟩ := hc
  exact mul_int q (IntMulOk.of_le h1 h2 h3)
def CDivB (j : Int) : Prop := 0 < j ∧ Builtin.Int.intBits j ≤ 9000
def rDivB : R2 := fun x y H Q => ∃ i j, x = .int i ∧ y = .int j ∧ CDivB j ∧ Q (.int (i / j)) H
theorem op_fdivB : OpR X (binaryOp .FloorDiv) rDivB := opI (C := fun _ j => CDivB j) (g := fun i j => i / j) fun i j _ _ _ _ _ hc q => by
  have h1 : (0 : Int) < j := hc.1
  have h3 : j.natAbs.log2 < 9000 := (Nat.log2_lt (by omega)).mpr (intBits_le_iff.mp hc.2)
  exact floordiv_int (by omega) (by rw [Int.fdiv_eq_ediv_of_nonneg i (by omega)]; exact q) (.inl (PyProof.noPylong_of_log2 h3))
def rModB : R2 := fun x y H Q => ∃ i j, x = .int i ∧ y = .int j ∧ 0 < j ∧ Q (.int (i % j)) H
theorem op_modB : OpR X (binaryOp .Mod) rModB := op_mod
def rPowB : R2 := fun x y H Q => ∃ i j, x = .int i ∧ y = .int j ∧ CPow i j ∧ Q (.int (i ^ j.toNat)) H
theorem op_powB : OpR X (binaryOp .Pow) rPowB := op_pow
def rLtI : R2 := fun x y H Q => ∃ i j, x = .int i ∧ y = .int j ∧ Q (.bl (decide (i < j))) H
def rGtI : R2 := fun x y H Q => ∃ i j, x = .int i ∧ y = .int j ∧ Q (.bl (decide (j < i))) H
def rGeI : R2 := fun x y H Q => ∃ i j, x = .int i ∧ y = .int j ∧ Q (.bl (decide (j ≤ i))) H
def rEqI : R2 := fun x y H Q => ∃ i j : Int, x = .int i ∧ y = .int j ∧ Q (.bl (decide (i = j))) H
def rNeI : R2 := fun x y H Q => ∃ i j : Int, x = .int i ∧ y = .int j ∧ Q (.bl (!decide (i = j))) H
theorem op_ltI : OpR X (compareOp .Lt) rLtI := op_lt
theorem op_gtI : OpR X (compareOp .Gt) rGtI := op_gt
theorem op_geI : OpR X (compareOp .GtE) rGeI := op_ge
theorem op_eqI : OpR X (compareOp .Eq) rEqI := by
  intro pins s σ H x y v u Q I rx ry h
  obtain ⟨i, j, rfl, rfl, q⟩ := h
  refine op_eq pins s σ H _ _ v u Q I rx ry ⟨rfl, ?_⟩
  have e : decide (V.int i = V.int j) = decide (i = j) := decide_eq_decide.mpr ⟨fun z => V.int.inj z, fun z => by rw [z]⟩
  rw [e]; exact q
theorem op_neI : OpR X (compareOp .NotEq) rNeI := by
  intro pins s σ H x y v u Q I rx ry h
  obtain ⟨i, j, rfl, rfl, q⟩ := h
  refine op_ne pins s σ H _ _ v u Q I rx ry ⟨rfl, ?_⟩
  have e : decide (V.int i = V.int j) = decide (i = j) := decide_eq_decide.mpr ⟨fun z => V.int.inj z, fun z => by rw [z]⟩
  rw [e]; exact q
theorem call_isinst : CallR X (.builtin "isinstance") (fun xs H Q => ∃ x n t b, xs = [x, .ty n] ∧ TyOf X.K H x t ∧ PySem.W.kitOne X.K t (.type n) = some b ∧ Q (.bl b) H) := by
  intro pins s σ H xs us Q I r h
  obtain ⟨x, n, t, b, rfl, ty, e, q⟩ := h
  obtain ⟨u, c, rfl, rx, rc⟩ := vals2 r
  cases (show c = Value.type n from rc)
  exact isinst_ok I rx ty e fun tk => ⟨.bl b, H, I.tok tk, rfl, q⟩
end
theorem kit_int_int (K : PySem.W.Frag) : PySem.W.kitOne K (.type "int") (.type "int") = some true := by with_unfolding_all rfl
theorem kit_int_bool (K : PySem.W.Frag) : PySem.W.kitOne K (.type "int") (.type "bool") = some false := by with_unfolding_all rfl
def Def (K : PySem.W.Frag) (mg : Str → Option Value) (x : Str) (st : Stmt) (ps : List Str) : Prop :=
  ∃ f fd, Fun K x x st f fd ∧ Binds K fd ps [] ∧ mg x = some (.ref f)
def Fn (P : Program) (w : World) (K : PySem.W.Frag) (mg : Str → Option Value) (base : Heap) (k : Nat) (x : Str) (ps : List Str) (sp : Sp) : Prop :=
  ∃ f fd, FnOk P w K mg base CX0 k f fd ps sp ∧ PySem.W.keepIn K (.ref f) = true ∧ Binds K fd ps [] ∧ mg x = some (.ref f)
section
variable {P : Program} {w : World} {K : PySem.W.Frag} {mg : Str → Option Value} {base : Heap}
theorem Def.fn {x : Str} {st : Stmt} {N ps : List Str} {k : Nat} {sp : Sp} (D : Def K mg x st ps) (S : FnScope N ps (defScope st)) (len : ∀ vs H Q E, sp vs H Q E → vs.length = ps.length)
    (hbody : ∀ (f : Addr) (cdv : Value) (A : Around) (outer : List Env) (s : Shared) (H : Hp) (vs : List V) (Q : VK) (E : XK), Room k (A.deeper (envOfC x (defScope st) s.heap.objs.size f cdv)) → sp vs H Q E →
      ∃ t, PSs (cxOf CX0 P w K mg base N x (defScope st) f cdv A outer s H E).nox (defBody st) t ∧ t { nx := fun _ H' => Q .non H', rt := Q } (start N vs) H) : Fn P w K mg base (k + 1) x ps sp := by
  obtain ⟨f, fd, F, b, m⟩ := D
  exact ⟨f, fd, F.ok S len (fun cdv A outer s H vs Q E hr h => hbody f cdv A outer s H vs Q E hr h), F.kp, b, m⟩
theorem Fn.mono {j k : Nat} {x : Str} {ps : List Str} {sp : Sp} (F : Fn P w K mg base j x ps sp) (h : j ≤ k) : Fn P w K mg base k x ps sp := by
  obtain ⟨f, fd, F, r⟩ := F
  exact ⟨f, fd, F.mono h, r⟩
theorem Fn.imp {k : Nat} {x : Str} {ps : List Str} {sp sp' : Sp} (F : Fn P w K mg base k x ps sp) (h : ∀ vs H Q E, sp' vs H Q E → sp vs H Q E) : Fn P w K mg base k x ps sp' := by
  obtain ⟨f, fd, F, r⟩ := F
  exact ⟨f, fd, F.imp h, r⟩
end
section
variable {X : Cx} {k : Nat} {x : Str} {ps : List Str} {sp : Sp} {p pos : Pos} {e : Expr} {es : List Expr} {t : TA}
def tFn (sp : Sp) (t : TA) : TE := fun σ H Q => t σ H fun vs H1 => sp vs H1 Q E0
theorem pe_fn (F : Fn X.prog X.w X.K X.mg X.base k x ps sp) (hr : Room k X.A) (hg : Gl X x) (ha : PA X (e :: es) t) (hdb : (x == ("__debug__" : Str)) = false := by decide)
    (he : starEach (e :: es) X.env = (false, eval e X.env) :: starEach es X.env := by rfl) (hpl : (backTo pos (starEach es X.env)).any (·.1) = false := by rfl) :
    PE X (.Call (.Name x p) (e :: es) [] pos) (tFn sp t) := by
  obtain ⟨f, fd, F, kp, b, m⟩ := F
  have h := pe_call (p := p) (pos := pos) (dvs := []) (ds := []) F hr hg m kp b .nil pass0 ha hdb he hpl
  intro pins s σ H Q I q
  refine h pins s σ H Q I ?_
  show t σ H fun vs H1 => sp (vs ++ []) H1 Q E0
  have q' : t σ H fun vs H1 => sp vs H1 Q E0 := q
  simpa only [List.append_nil] using q'
end
theorem ifD {c A B : Prop} [Decidable c] (h1 : c → A) (h2 : ¬ c → B) : if decide c = true then A else B := by
  by_cases h : c
  · rw [if_pos (decide_eq_true h)]; exact h1 h
  · rw [if_neg (fun z => h (of_decide_eq_true z))]; exact h2 h
theorem ifND {c A B : Prop} [Decidable c] (h1 : ¬ c → A) (h2 : c → B) : if (!decide c) = true then A else B := by
  by_cases h : c
  · rw [if_neg (by rw [decide_eq_true h]; decide)]; exact h2 h
  · rw [if_pos (by rw [decide_eq_false h]; decide)]; exact h1 h
theorem ifT {c A B : Prop} [Decidable c] (h : c) (a : A) : if decide c = true then A else B := ifD (fun _ => a) (fun z => absurd h z)
theorem ifF {c A B : Prop} [Decidable c] (h : ¬ c) (b : B) : if decide c = true then A else B := ifD (fun z => absurd z h) (fun _ => b)
theorem b_isinstance : bootBuiltins "isinstance" = some (.builtin "isinstance") := by decide +kernel
theorem b_int : bootBuiltins "int" = some (.type "int") := by decide +kernel
theorem b_bool : bootBuiltins "bool" = some (.type "bool") := by decide +kernel
theorem b_list : bootBuiltins "list" = some (.type "list") := by decide +kernel
theorem b_len : bootBuiltins "len" = some (.builtin "len") := by decide +kernel
theorem b_max : bootBuiltins "max" = some (.builtin "max") := by decide +kernel
theorem b_min : bootBuiltins "min" = some (.builtin "min") := by decide +kernel
theorem b_enumerate : bootBuiltins "enumerate" = some (.type "enumerate") := by decide +kernel
theorem b_ValueError : bootBuiltins "ValueError" = some (.type "ValueError") := by decide +kernel
theorem at4 {α : Type} (a b c d : α) {i : Int} (h0 : 0 ≤ i) (h1 : i < 4) : ∃ v, atI [a, b, c, d] i = some v ∧ (v = a ∨ v = b ∨ v = c ∨ v = d) := by
  rcases (by omega : i = 0 ∨ i = 1 ∨ i = 2 ∨ i = 3) with rfl | rfl | rfl | rfl
  · exact ⟨a, rfl, .inl rfl⟩
  · exact ⟨b, rfl, .inr (.inl rfl)⟩
  · exact ⟨c, rfl, .inr (.inr (.inl rfl))⟩
  · exact ⟨d, rfl, .inr (.inr (.inr rfl))⟩
theorem Same.put {H H' : Hp} {p : Addr} {o : HO} (s : Same H H') (h : H' p = Option.none) : Same H (upd H' p o) := fun b u e => by
  have e' := s b u e
  rw [upd_ne (ne_of_none e' h)]
  exact e'
theorem Same.new {H : Hp} {p : Addr} {o : HO} (h : H p = Option.none) : Same H (upd H p o) := (Same.refl H).put h
end L2
namespace L2
open PySem PySem.Spec PyProof.Rows
def Itr3 (lo c : Int) (n : Nat) : It := ⟨fun i _ => i < n, fun i H x H' => H' = H ∧ x = .int (lo + i * c), fun i _ => n ≤ i⟩
theorem turn_range3 {P : Program} {w : World} {K : PySem.W.Frag} {tg : Expr} (it : Addr) (lo c : Int) (n : Nat) : Turn P w K tg (Itr3 lo c n) [it] it (fun i h => IsRangeIter h it (lo + (i : Nat) * c) ((n : Int) - (i : Nat)) c) where
  mem := by simp
  obj := fun i h st b hb => by
    have e : b = it := by simpa using hb
    subst e
    exact ⟨_, st, fun v z => by
      have z' : Data.fields _ = Data.cell v := z
      cases z'⟩
  keep := fun i h h' st k => k it (by simp) _ st
  item := by
    intro X hP hw hK hc i pins s σ H E I hf st hg
    subst hP hw hK
    obtain ⟨f0, f1, f2, f3, f4, f5⟩ := hf it (by simp)
    have W := Walks.range (prog := X.prog) (w := X.w) (I.ok.hd hc) it lo c n
    refine W.item i s _ _ hg st fun v h' tk hv st' kk => ?_
    obtain ⟨t, rfl⟩ := hv
    have I1 : Inv X pins σ H { s with heap := h', toks := tk } := I.turned (fun b o hb e => kk b o (by simpa using hb) e) f0 f1 f3 f4 f5
    exact ⟨_, rfl, go_of (s := { s with heap := h', toks := tk }) (n := "range_iterator") st' rfl rfl (by decide) ⟨.int (lo + i * c), H, I1, ⟨t, rfl⟩, ⟨rfl, rfl⟩, st', fun b hb => (hf b hb).1⟩⟩
  done := by
    intro X hP hw hK hc i pins s σ H E I hf st hg
    subst hP hw hK
    obtain ⟨f0, f1, f2, f3, f4, f5⟩ := hf it (by simp)
    exact wpAny_pyNext_range_end (I.ok.hd hc) st (by have : n ≤ i := hg; omega) fun h' eb => ⟨rfl, I.turned (t' := s.toks) (fun b o hb e => eb b o hb e) f0 f1 f3 f4 f5⟩
  self := fun _ _ _ _ _ st h => wpAny_pyIter_rangeiter st h
section
variable {X : Cx} {tg : Expr}
def iRng3 (ta : TA) : TI := fun σ H R => ta σ H fun vs H1 => ∃ (i j c : Int) (n : Nat), vs = [.int i, .int j, .int c] ∧ (c ≠ 0 ∧ c.natAbs < 1073741824 ∧ Builtin.Range.small i j c = true ∧ Builtin.Range.rangeSize i j c = (n : Int)) ∧ R (Itr3 i c n) H1
theorem pi_range3 {a b c : Expr} {ta : TA} {p pos : Pos} (hg : Gl X "range") (hm : X.mg "range" = none) (ha : PA X [a, b, c] ta) (hs : starEach [a, b, c] X.env = (false, eval a X.env) :: starEach [b, c] X.env := by rfl) (hs2 : (backTo pos (starEach [b, c] X.env)).any (·.1) = false := by rfl) :
    PI X tg (.Call (.Name "range" p) [a, b, c] [] pos) (iRng3 ta) := by
  intro pins s σ H R I h
  refine Call_ (ld_blt I hg hm boot_range (PyProof.Rows.callWith_type1 (thn (ha pos pins s σ H _ I h) fun us s1 ⟨vs, H1, I1, r1, q1⟩ => ?_) hs hs2))
  obtain ⟨i, j, k, n, e, ⟨q1, q2, q3, q4⟩, q⟩ := q1
  subst e
  cases r1 with
  | cons r rr =>
    cases rr with
    | cons r' rr =>
      cases rr with
      | cons r'' rr =>
        cases rr
        obtain ⟨t, rfl⟩ := r
        obtain ⟨t', rfl⟩ := r'
        obtain ⟨t'', rfl⟩ := r''
        refine call_range_3 q1 ?_ (.inl (PyProof.noPylong_small q2))
        refine wpAny_pyIter_range (IsRange.new ..) q3 ?_
        have I2 : Inv X pins σ H1 { s1 with heap := s1.heap.push { cls := .type "range", data := .fields #[.int i t, .int j t', .int k t''] }, toks := s1.toks } := I1.kept fun b o e => Heap.get?_push_of_some _ e
        refine ⟨(s1.heap.push { cls := .type "range", data := .fields #[.int i t, .int j t', .int k t''] }).objs.size, [(s1.heap.push { cls := .type "range", data := .fields #[.int i t, .int j t', .int k t''] }).objs.size], _, _, H1, rfl,
          I2.kept (t' := s1.toks) fun b o e => Heap.get?_push_of_some _ e, turn_range3 _ i k n, ?_, fun b hb => ?_, q⟩
        · have e1 : i + ((0 : Nat) : Int) * k = i := by simp
          have e2 : ((n : Nat) : Int) - ((0 : Nat) : Int) = Builtin.Range.rangeSize i j k := by rw [q4]; simp
          show IsRangeIter _ _ (i + ((0 : Nat) : Int) * k) (((n : Nat) : Int) - ((0 : Nat) : Int)) k
          rw [e1, e2]
          exact Heap.get?_push_size _ rfl
        · have e : b = (s1.heap.push { cls := .type "range", data := .fields #[.int i t, .int j t', .int k t''] }).objs.size := by simpa using hb
          subst e
          exact I2.fpOk (Nat.le_refl _) (I2.hok.fresh (Nat.le_refl _))
end
theorem for_range3 {lo c : Int} {n : Nat} {g : TG} {tb : TS} {D : Ends} {σ : St} {H : Hp} (Pv : Nat → St → Hp → Prop) (h0 : Pv 0 σ H)
    (hs : ∀ i σ H, i < n → Pv i σ H → g (.int (lo + i * c)) σ H fun σ2 H2 => tb { D with nx := Pv (i + 1), ct := Pv (i + 1), bk := D.nx } σ2 H2) (hd : ∀ σ H, Pv n σ H → D.nx σ H) :
    ∃ W : Nat → Nat → St → Hp → Prop, (∃ m, W 0 m σ H) ∧ ∀ i m σ H, W i m σ H →
      ((Itr3 lo c n).stop i H ∧ D.nx σ H) ∨ ((Itr3 lo c n).go i H ∧ ∃ N : St → Hp → Prop, (∀ σ' H', N σ' H' → ∃ m', m' < m ∧ W (i + 1) m' σ' H') ∧ ∀ x H', (Itr3 lo c n).yld i H x H' → g x σ H' fun σ2 H2 => tb { D with nx := N, ct := N, bk := D.nx } σ2 H2) := by
  refine ⟨fun i m σ H => m = n - i ∧ i ≤ n ∧ Pv i σ H, ⟨n, by simp, Nat.zero_le _, h0⟩, ?_⟩
  rintro i m σ H ⟨rfl, hi, p⟩
  by_cases hlt : i < n
  · refine .inr ⟨hlt, Pv (i + 1), fun σ' H' p' => ⟨n - (i + 1), by omega, rfl, hlt, p'⟩, fun x H' y => ?_⟩
    obtain ⟨e, y⟩ := y
    subst e y
    exact hs i σ _ hlt p
  · have e : i = n := by omega
    subst e
    exact .inl ⟨Nat.le_refl _, hd σ H p⟩
end L2
namespace L2
open PySem PySem.Spec PyProof.Rows
def clOf (env : Env) : List (Str × NameKind) → List (Str × Addr) → List (Str × Addr)
  | [], acc => acc
  | (n, k) :: r, acc => if k == .free then clOf env r ((n, (env.cells.lookup n).getD 0) :: acc) else clOf env r acc
theorem closure_eq {scope : Scope} {env : Env} (h : ∀ p ∈ scope.names, p.2 = .free → ∃ c, env.cells.lookup p.1 = some c) : closureFor scope env = pure (clOf env scope.names []) := by
  unfold closureFor
  have key : ∀ (names : List (Str × NameKind)) (acc : List (Str × Addr)), (∀ p ∈ names, p.2 = .free → ∃ c, env.cells.lookup p.1 = some c) →
      (forIn names acc (fun (x : Str × NameKind) (cs : List (Str × Addr)) => match x with
        | (name, kind) => if (kind == NameKind.free) = true then (cellOf env name >>= fun c => pure (ForInStep.yield ((name, c) :: cs))) else pure (ForInStep.yield cs)) : Sem (List (Str × Addr))) = pure (clOf env names acc) := by
    intro names
    induction names with
    | nil => intro acc _; rfl
    | cons p r ih =>
      intro acc hp
      obtain ⟨n, k⟩ := p
      have hr : ∀ p ∈ r, p.2 = .free → ∃ c, env.cells.lookup p.1 = some c := fun p hm => hp p (List.mem_cons_of_mem _ hm)
      rw [List.forIn_cons]
      by_cases hk : k = .free
      · subst hk
        obtain ⟨c, hc⟩ := hp (n, .free) List.mem_cons_self rfl
        have hc : env.cells.lookup n = some c := hc
        have e1 : cellOf env n = pure c := by unfold cellOf; rw [hc]
        have e2 : clOf env ((n, .free) :: r) acc = clOf env r ((n, c) :: acc) := by
          show clOf env r ((n, (env.cells.lookup n).getD 0) :: acc) = _
          rw [hc]; rfl
        simp only [beq_self_eq_true, if_true, e1, pure_bind]
        rw [e2]
        exact ih _ hr
      · have hb : (k == NameKind.free) = false := by simpa using hk
        have e2 : clOf env ((n, k) :: r) acc = clOf env r acc := by
          show (if (k == NameKind.free) = true then clOf env r ((n, (env.cells.lookup n).getD 0) :: acc) else clOf env r acc) = _
          rw [hb]; rfl
        simp only [hb, Bool.false_eq_true, if_false, pure_bind]
        rw [e2]
        exact ih _ hr
  have k0 := key scope.names [] h
  show (forIn scope.names ([] : List (Str × Addr)) _ >>= fun r => pure r) = _
  refine Eq.trans (congrArg (fun m => m >>= fun r => pure r) k0) ?_
  rfl
theorem clOf_look {env : Env} : ∀ {names : List (Str × NameKind)} {acc : List (Str × Addr)}, (∀ p ∈ names, p.2 = .free → ∃ c, env.cells.lookup p.1 = some c) → (∀ x c, acc.lookup x = some c → env.cells.lookup x = some c) →
    ∀ x c, (clOf env names acc).lookup x = some c → env.cells.lookup x = some c
  | [], _, _, ha, x, c, h => ha x c h
  | (n, k) :: r, acc, hp, ha, x, c, h => by
    have hr : ∀ p ∈ r, p.2 = .free → ∃ c, env.cells.lookup p.1 = some c := fun p hm => hp p (List.mem_cons_of_mem _ hm)
    by_cases hk : k = .free
    · subst hk
      obtain ⟨d, hd⟩ := hp (n, .free) List.mem_cons_self rfl
      have hd : env.cells.lookup n = some d := hd
      have e2 : clOf env ((n, .free) :: r) acc = clOf env r ((n, d) :: acc) := by
        show clOf env r ((n, (env.cells.lookup n).getD 0) :: acc) = _
        rw [hd]; rfl
      rw [e2] at h
      refine clOf_look hr (fun y e hy => ?_) x c h
      rw [List.lookup_cons] at hy
      cases hyn : y == n with
      | true => rw [hyn] at hy; cases hy; rw [beq_iff_eq.mp hyn]; exact hd
      | false => rw [hyn] at hy; exact ha y e hy
    · have hb : (k == NameKind.free) = false := by simpa using hk
      have e2 : clOf env ((n, k) :: r) acc = clOf env r acc := by
        show (if (k == NameKind.free) = true then clOf env r ((n, (env.cells.lookup n).getD 0) :: acc) else clOf env r acc) = _
        rw [hb]; rfl
      rw [e2] at h
      exact clOf_look hr ha x c h
theorem clOf_has {env : Env} : ∀ {names : List (Str × NameKind)} {acc : List (Str × Addr)} {x : Str}, ((x, NameKind.free) ∈ names ∨ ∃ c, acc.lookup x = some c) → ∃ c, (clOf env names acc).lookup x = some c
  | [], _, _, h => h.elim (fun z => nomatch z) id
  | (n, k) :: r, acc, x, h => by
    by_cases hk : k = .free
    · subst hk
      show ∃ c, (clOf env r ((n, (env.cells.lookup n).getD 0) :: acc)).lookup x = some c
      refine clOf_has ?_
      by_cases hx : x = n
      · subst hx; exact .inr ⟨_, by rw [List.lookup_cons, beq_self_eq_true]⟩
      · rcases h with h | ⟨c, h⟩
        · rcases List.mem_cons.mp h with e | e
          · cases e; exact absurd rfl hx
          · exact .inl e
        · exact .inr ⟨c, by rw [List.lookup_cons, beq_eq_false_iff_ne.mpr hx]; exact h⟩
    · have hb : (k == NameKind.free) = false := by simpa using hk
      have e2 : clOf env ((n, k) :: r) acc = clOf env r acc := by
        show (if (k == NameKind.free) = true then clOf env r ((n, (env.cells.lookup n).getD 0) :: acc) else clOf env r acc) = _
        rw [hb]; rfl
      rw [e2]
      refine clOf_has ?_
      rcases h with h | h
      · rcases List.mem_cons.mp h with e | e
        · cases e; exact absurd rfl hk
        · exact .inl e
      · exact .inr h
section
variable {prog : Program} {w : World} {A : Around}
theorem codeAny_compLoop_gen {elt target iter : Expr} {ifs : List Expr} {scope : Scope} {pos : Pos} {it acc : Value} {env : Env} {s : Shared} {R : Result → Shared → Prop} (I : Nat → Shared → Prop)
    (turn : ∀ n s, I n s → wpAny (model prog w) A (pyNext it) (fun r s₁ => match r with
      | none => R (.ok .next) s₁
      | some v => wpAny (model prog w) A (letOwnedTupleGo target it v) (fun _ s₁' => wpAny (model prog w) A (assign target env v) (fun _ s₂ =>
          wpAny (model prog w) A (forIn ifs true fun c r => if r = true then do let ok ← isTrue c env (eval c env); pure (ForInStep.yield ok) else pure (ForInStep.yield r)) (fun ok s₃ =>
            if ok = true then wpAny (model prog w) A (eval elt env) (fun x s₄ => wpAny (model prog w) A (call (.builtin "list.append") [acc, x]) (fun _ s₅ => ∃ m, m < n ∧ I m s₅) (fun _ _ => False) s₄) (fun _ _ => False) s₃
            else ∃ m, m < n ∧ I m s₃) (fun _ _ => False) s₂) (fun _ _ => False) s₁') (fun _ _ => False) s₁) (fun _ _ => False) s)
    (n : Nat) (h : I n s) : codeAny (model prog w) A (.compLoop (.ListComp elt [⟨target, iter, ifs, 0⟩] scope pos) 0 it acc env) R s := by
  refine codeAny_loop rfl I (fun n s hI => ?_) n h
  show wpAny _ A ((compTurn (.ListComp elt [⟨target, iter, ifs, 0⟩] scope pos) 0 it acc env).onRaise (fun x => do noteFrame x env; theTreesLotGoes x)) _ _ s
  refine wpAny_noted ?_
  rw [compTurn_list]
  refine wpAny_bind (wpAny_standAt (wpAny_bind (wpAny_mono (turn n s hI) (fun r s₁ h₁ => ?_) fun _ _ h' => h'.elim)))
  cases r with
  | none => exact wpAny_pure h₁
  | some v =>
    refine wpAny_bind (wpAny_mono h₁ (fun _ s₁' h₁' => ?_) fun _ _ h' => h'.elim)
    refine wpAny_bind (wpAny_mono h₁' (fun _ s₂ h₂ => wpAny_bind (wpAny_mono h₂ (fun ok s₃ h₃ => ?_) fun _ _ h' => h'.elim)) fun _ _ h' => h'.elim)
    cases ok with
    | false => exact wpAny_pure ⟨rfl, h₃⟩
    | true => exact wpAny_bind (wpAny_bind (wpAny_mono h₃ (fun x s₄ h₄ => wpAny_bind (wpAny_mono h₄ (fun _ s₅ h₅ => wpAny_pure (wpAny_pure ⟨rfl, h₅⟩)) fun _ _ h' => h'.elim)) fun _ _ h' => h'.elim))
end
abbrev blockCx (X : Cx) (pins : List (Addr × Obj)) (N : List Str) (scope : Scope) (C : Addr) (sF : Shared) (HF : Hp) (fp : List Addr) : Cx where
  prog := X.prog
  w := X.w
  K := X.K
  mg := X.mg
  base := X.base
  A := X.A
  N := N
  s₀ := sF
  H₀ := HF
  env := compEnvC scope (clOf X.env scope.names []) C X.env
  outer := X.stack
  stack := X.stack
  ex := fp
  fn := fun _ => false
  calm := X.calm
  pn := X.pn ++ pins
  xe := fun _ _ => False
def blockSt (own : Nat) (ix : List Nat) (σ : St) : St := List.replicate own none ++ ix.map fun i => (σ[i]?).getD none
def CompGo (J : It) (own : Nat) (ix : List Nat) (g : TG) (tt : TT) (te : TE) (σ : St) (H1 : Hp) (acc : Addr) (Q : VK) : Prop :=
  ∃ W : Nat → Nat → List V → Hp → Prop, (∃ m, W 0 m [] (upd H1 acc (.lst []))) ∧ ∀ i m ys H2, W i m ys H2 →
    H2 acc = some (.lst ys) ∧ ((J.stop i H2 ∧ Q (.ref acc) H2) ∨ (J.go i H2 ∧ ys.length < sizeLine ∧ ∀ x H3, J.yld i H2 x H3 → g x (blockSt own ix σ) H3 fun σ4 H4 => σ4.drop own = ix.map (fun i => (σ[i]?).getD none) ∧ tt σ4 H4 fun ok H5 =>
      if ok = true then te σ4 H5 fun y H6 => H6 acc = some (.lst ys) ∧ ∃ m', m' < m ∧ W (i + 1) m' (ys ++ [y]) (upd H6 acc (.lst (ys ++ [y])))
      else ∃ m', m' < m ∧ W (i + 1) m' ys H5))
def tComp (wi : TI) (own : Nat) (ix : List Nat) (g : TG) (tt : TT) (te : TE) : TE := fun σ H Q => wi σ H fun J H1 => ∀ acc, H1 acc = none → CompGo J own ix g tt te σ H1 acc Q
def tNoTest : TT := fun _ H Q => Q true H
def PTs (X : Cx) (ifs : List Expr) (t : TT) : Prop :=
  ∀ (pins : List (Addr × Obj)) (s : Shared) (σ : St) (H : Hp) (Q : Bool → Hp → Prop), Inv X pins σ H s → t σ H Q →
    wpAny (model X.prog X.w) X.A (forIn ifs true fun c r => if r = true then do let ok ← isTrue c X.env (eval c X.env); pure (ForInStep.yield ok) else pure (ForInStep.yield r)) (TP X pins σ Q) X.xe s
theorem pts_nil {X : Cx} : PTs X [] tNoTest := fun _ _ _ H _ I h => wpAny_tests_nil ⟨H, I, h⟩
structure BlockOk (X : Cx) (scope : Scope) (own : List Str) (fr : List Str) (ix : List Nat) : Prop where
  kind : scope.kind = .function
  nocell : ∀ y ∈ scope.names, y.2 ≠ .cell
  names : ∀ y ∈ scope.names, y.2 = .local → scope.names.lookup y.1 = some .local
  free : ∀ p ∈ scope.names, p.2 = .free → ∃ c, X.env.cells.lookup p.1 = some c
  frd : ∀ x ∈ fr, (x, NameKind.free) ∈ scope.names ∧ X.env.kindOf x = some .cell ∧ scope.names.lookup x = some .free
  len : fr.length = ix.length
  at_ : ∀ (j : Nat) x i, fr[j]? = some x → ix[j]? = some i → X.N[i]? = some x
structure BlockB (X : Cx) (scope : Scope) (own : List Str) (fr : List Str) (ix : List Nat) : Prop where
  kind : scope.kind = .function
  nocell : (scope.names.all fun y => y.2 != .cell) = true
  names : (scope.names.all fun y => y.2 != .local || scope.names.lookup y.1 == some .local) = true
  free : (scope.names.all fun p => p.2 != .free || X.env.kindOf p.1 == some .cell) = true
  frd : (fr.all fun x => X.env.kindOf x == some .cell && scope.names.lookup x == some .free) = true
  at_ : (ix.map fun i => X.N[i]?) = fr.map some
theorem mem_of_lookup {x : Str} {k : NameKind} : ∀ {names : List (Str × NameKind)}, names.lookup x = some k → (x, k) ∈ names
  | [], h => by simp at h
  | (n, k') :: r, h => by
    rw [List.lookup_cons] at h
    cases hx : x == n with
    | true =>
      rw [hx] at h
      cases h
      rw [beq_iff_eq.mp hx]
      exact List.mem_cons_self
    | false =>
      rw [hx] at h
      exact List.mem_cons_of_mem _ (mem_of_lookup h)
theorem BlockB.ok {X : Cx} {scope : Scope} {own fr : List Str} {ix : List Nat} (B : BlockB X scope own fr ix) (ok : X.Ok) : BlockOk X scope own fr ix where
  kind := B.kind
  nocell := fun y hy => by simpa using List.all_eq_true.mp B.nocell y hy
  names := fun y hy hl => by
    have := List.all_eq_true.mp B.names y hy
    rw [hl] at this
    simpa using this
  free := fun p hp hf => by
    have := List.all_eq_true.mp B.free p hp
    rw [hf] at this
    exact ok.has p.1 (.inl (by simpa using this))
  frd := fun x hx => by
    have := List.all_eq_true.mp B.frd x hx
    rw [Bool.and_eq_true] at this
    have h2 : scope.names.lookup x = some .free := by simpa using this.2
    exact ⟨mem_of_lookup h2, by simpa using this.1, h2⟩
  len := by
    have := congrArg List.length B.at_
    simpa using this.symm
  at_ := fun j x i hx hi => by
    have e := congrArg (fun l => l[j]?) B.at_
    simp only [List.getElem?_map, hx, hi, Option.map_some] at e
    exact Option.some.inj e
theorem relabel_free {env : Env} (hf : env.scope.kind = .function) : ∀ {names : List (Str × NameKind)} {x : Str}, names.lookup x = some .free → env.kindOf x = some .cell →
    (names.map fun (n, k) => if (k == NameKind.free && env.scope.kind == .function && env.kindOf n == some .cell) then (n, NameKind.cell) else (n, k)).lookup x = some .cell
  | [], _, h, _ => by simp at h
  | (n, k) :: r, x, h, hx => by
    have ih := @relabel_free env hf r x
    show List.lookup x ((if (k == NameKind.free && env.scope.kind == .function && env.kindOf n == some .cell) = true then (n, NameKind.cell) else (n, k)) :: _) = _
    cases hxn : x == n with
    | true =>
      have e := beq_iff_eq.mp hxn
      subst e
      simp only [List.lookup_cons, hxn] at h
      cases h
      rw [if_pos (by rw [hf, hx]; rfl)]
      simp only [List.lookup_cons, hxn]
    | false =>
      simp only [List.lookup_cons, hxn] at h
      by_cases hc : (k == NameKind.free && env.scope.kind == .function && env.kindOf n == some .cell) = true
      · rw [if_pos hc]; simp only [List.lookup_cons, hxn]; exact ih h hx
      · rw [if_neg hc]; simp only [List.lookup_cons, hxn]; exact ih h hx
theorem relabel_has {env : Env} : ∀ {names : List (Str × NameKind)} {x : Str}, (∀ y ∈ names, y.2 ≠ .cell) →
    ((names.map fun (n, k) => if (k == NameKind.free && env.scope.kind == .function && env.kindOf n == some .cell) then (n, NameKind.cell) else (n, k)).lookup x = some .cell ∨
     (names.map fun (n, k) => if (k == NameKind.free && env.scope.kind == .function && env.kindOf n == some .cell) then (n, NameKind.cell) else (n, k)).lookup x = some .free) → (x, NameKind.free) ∈ names
  | [], _, _, h => by simp at h
  | (n, k) :: r, x, hn, h => by
    have ih := @relabel_has env r x (fun y hy => hn y (List.mem_cons_of_mem _ hy))
    have hk : k ≠ .cell := hn (n, k) List.mem_cons_self
    have h' : List.lookup x ((if (k == NameKind.free && env.scope.kind == .function && env.kindOf n == some .cell) = true then (n, NameKind.cell) else (n, k)) :: r.map fun (n, k) => if (k == NameKind.free && env.scope.kind == .function && env.kindOf n == some .cell) then (n, NameKind.cell) else (n, k)) = some .cell ∨
      List.lookup x ((if (k == NameKind.free && env.scope.kind == .function && env.kindOf n == some .cell) = true then (n, NameKind.cell) else (n, k)) :: r.map fun (n, k) => if (k == NameKind.free && env.scope.kind == .function && env.kindOf n == some .cell) then (n, NameKind.cell) else (n, k)) = some .free := h
    by_cases hc : (k == NameKind.free && env.scope.kind == .function && env.kindOf n == some .cell) = true
    · have hf : k = .free := by
        rw [Bool.and_eq_true, Bool.and_eq_true] at hc
        exact beq_iff_eq.mp hc.1.1
      subst hf
      cases hxn : x == n with
      | true => rw [beq_iff_eq.mp hxn]; exact List.mem_cons_self
      | false =>
        rw [if_pos hc] at h'
        simp only [List.lookup_cons, hxn] at h'
        exact List.mem_cons_of_mem _ (ih h')
    · rw [if_neg hc] at h'
      cases hxn : x == n with
      | true =>
        simp only [List.lookup_cons, hxn] at h'
        rcases h' with e | e
        · cases e; exact absurd rfl hk
        · cases e; rw [beq_iff_eq.mp hxn]; exact List.mem_cons_self
      | false =>
        simp only [List.lookup_cons, hxn] at h'
        exact List.mem_cons_of_mem _ (ih h')
section
variable {X : Cx} {pins : List (Addr × Obj)} {σ : St} {H : Hp} {s : Shared}
theorem block_start {scope : Scope} {own fr : List Str} {ix : List Nat} {C : Addr} {h₁ : Heap} {tk : Nat} {fp : List Addr} {m : Str → Option Value} (I : Inv X pins σ H s) (B : BlockOk X scope own fr ix) (hC : C = s.heap.objs.size)
    (hf : ∀ b ∈ fp, FpOk X pins H b) (hb : ∀ b ∈ fp, ∃ o, s.heap.get? b = some o) (old : ∀ b o, s.heap.get? b = some o → h₁.get? b = some o) (hns : h₁.Ns C m) :
    Inv (blockCx X pins (own ++ fr) scope C s H fp) [] (blockSt own.length ix σ) H { s with heap := h₁, toks := tk } := by
  have look : ∀ x c, (clOf X.env scope.names []).lookup x = some c → X.env.cells.lookup x = some c := clOf_look B.free (fun _ _ z => by cases z)
  have lt : ∀ b o, s.heap.get? b = some o → b ≠ C := fun b o e => by rw [hC]; exact Nat.ne_of_lt (Heap.lt_size e)
  have ok : (blockCx X pins (own ++ fr) scope C s H fp).Ok := {
    mod := I.ok.mod
    kind := B.kind
    glob := I.ok.glob
    blt := I.ok.blt
    above := by show s.heap.objs.size ≤ C; rw [hC]; exact Nat.le_refl _
    inj := fun x y c a b => I.ok.inj x y c (look x c a) (look y c b)
    has := fun x hx => clOf_has (.inl (relabel_has B.nocell hx))
    cab := fun x c z => nomatch z
    hd := I.ok.hd
    frames := I.ok.frames
    stk := .inl rfl
    exf := fun b hbf => ⟨by obtain ⟨o, e⟩ := hb b hbf; exact lt b o e, fun x c e => (hf b hbf).2.2.2.2.1 x c (look x c e)⟩
    bs := I.bs
    bsz := Nat.le_trans I.ok.bsz I.sz
    noex := fun b o e hbf => by
      rcases (hf b hbf).2.2.2.1 with z | z
      · exact I.ok.noex b o e z
      · exact absurd (Nat.lt_of_lt_of_le (Heap.lt_size e) (Nat.le_trans I.ok.bsz z)) (Nat.lt_irrefl _)
    exfs := fun b hbf hs => by
      rcases List.mem_cons.mp (I.stkSub b hs) with z | z
      · exact (hf b hbf).2.1 z
      · exact (hf b hbf).2.2.1 z
    funs := I.stack
    frf := I.stkFree }
  refine ⟨ok, rfl, I.bare, Un.kept old, ⟨m, hns, fun i x v e1 e2 e3 => ?_⟩, fun x c e => ?_, ?_, fun x c e => I.freeC x c (look x c e), fun p hp => ?_, I.hok.kept old, ?_⟩
  · have e1 : (own ++ fr)[i]? = some x := e1
    have e2 : (List.replicate own.length none ++ ix.map fun i => (σ[i]?).getD none)[i]? = some (some v) := e2
    by_cases hi : i < own.length
    · rw [List.getElem?_append_left (by rw [List.length_replicate]; exact hi), List.getElem?_replicate, if_pos hi] at e2
      cases e2
    · rw [List.getElem?_append_right (by omega)] at e1
      rw [List.getElem?_append_right (by rw [List.length_replicate]; omega), List.length_replicate, List.getElem?_map] at e2
      obtain ⟨i', hi', e4⟩ := Option.map_eq_some_iff.mp e2
      have e5 : σ[i']? = some (some v) := by
        cases z : σ[i']? with
        | none => rw [z] at e4; cases e4
        | some y => rw [z] at e4; exact congrArg some e4
      have hm : x ∈ fr := List.mem_of_getElem? e1
      obtain ⟨f1, f2, f3⟩ := B.frd x hm
      obtain ⟨mX, _, hl⟩ := I.loc
      obtain ⟨u, r, l⟩ := hl i' x v (B.at_ _ x i' e1 hi') e5 (.inr (.inl f2))
      rcases l with ⟨l, _⟩ | ⟨_, c, ec, z⟩
      · rw [f2] at l; cases l
      · obtain ⟨c', ec'⟩ := clOf_has (env := X.env) (names := scope.names) (acc := []) (x := x) (.inl f1)
        have := look x c' ec'
        rw [ec] at this
        cases this
        obtain ⟨o, ho, hd⟩ := z
        exact ⟨u, r, .inr ⟨.inl (relabel_free I.ok.kind f3 f2), c, ec', o, old _ _ ho, hd⟩⟩
  · obtain ⟨v, o, ho, hd⟩ := I.cell x c (look x c e)
    exact ⟨v, o, old _ _ ho, hd⟩
  · show H C = none
    rw [hC]; exact I.hok.fresh (Nat.le_refl _)
  · have hp' : p ∈ X.pn ++ pins := by simpa using hp
    obtain ⟨e, n, ne, nf, d⟩ := I.pin p hp'
    refine ⟨old _ _ e, n, lt _ _ e, fun z => ?_, d⟩
    rcases List.mem_cons.mp (I.stkSub _ z) with q | q
    · exact ne q
    · exact nf q
  · show (List.replicate own.length none ++ ix.map fun i => (σ[i]?).getD none).length = (own ++ fr).length
    rw [List.length_append, List.length_append, List.length_replicate, List.length_map, B.len]
theorem block_end {N : List Str} {scope : Scope} {C : Addr} {fp : List Addr} {σ' : St} {H' : Hp} {s' : Shared} {h'' : Heap} {pl : List (Addr × Obj)} (I : Inv X pins σ H s) (hf : ∀ b ∈ fp, FpOk X pins H b) (hC : C = s.heap.objs.size)
    (J : Inv (blockCx X pins N scope C s H fp) pl σ' H' s') (hs : Heap.SameBut C s'.heap h'') : Inv X pins σ H' { s' with heap := h'' } := by
  have u := J.base
  have k : ∀ b o, b ≠ C → s'.heap.get? b = some o → h''.get? b = some o := fun b o hb e => hs.extBut b o hb e
  have hn : H' C = none := J.free
  have lt : ∀ b o, s.heap.get? b = some o → b ≠ C := fun b o e => by rw [hC]; exact Nat.ne_of_lt (Heap.lt_size e)
  refine I.call' (s' := { s' with heap := h'' }) (ch := fp) J.os ?_ ?_ J.bare fun b hb => ⟨(hf b hb).2.2.2.1, (hf b hb).2.1, (hf b hb).2.2.2.2.1, (hf b hb).2.2.2.2.2⟩
  · exact ⟨fun b o q n hb he => k b o (lt b o q) (u.keep b o q n hb he), fun b o q n hb he => by
        obtain ⟨sl, e⟩ := u.slot b o q n hb he
        exact ⟨sl, k b _ (lt b o q) e⟩, u.free, fun b o q he => by
        obtain ⟨o', e⟩ := u.there b o q he
        exact ⟨o', k b _ (lt b o q) e⟩, u.tups, u.frzs, u.tbls⟩
  · intro b o e
    have nit : ∀ b u, H' b = some u → b ≠ C := fun b u e z => by rw [z, hn] at e; cases e
    refine (J.hok b o e).stay (fun c v hc q => k c v ?_ q) (fun _ q => q) fun _ _ q => q
    rcases hc with z | z
    · rw [z]; exact nit b o e
    · exact nit c _ z
theorem comp_block {tg iter elt : Expr} {ifs : List Expr} {scope : Scope} {own fr : List Str} {ix : List Nat} {g : TG} {tt : TT} {te : TE} {pos : Pos} {Q : VK} {sF : Shared} {HF : Hp} {C acc it : Addr} {h₁ : Heap} {fp : List Addr} {tn : Nat → Heap → Prop} {J : It} {W : Nat → Nat → List V → Hp → Prop} {m : Str → Option Value} {m0 : Nat} {RR : Result → Shared → Prop}
    (hc : X.calm = true) (B : BlockOk X scope own fr ix)
    (hg : ∀ pins C sF HF fp, PG (blockCx X pins (own ++ fr) scope C sF HF fp) tg g) (ht : ∀ pins C sF HF fp, PTs (blockCx X pins (own ++ fr) scope C sF HF fp) ifs tt) (he : ∀ pins C sF HF fp, PE (blockCx X pins (own ++ fr) scope C sF HF fp) elt te)
    (I3 : Inv X pins σ HF sF) (T : Turn X.prog X.w X.K tg J fp it tn) (st3 : tn 0 sF.heap) (f3 : ∀ b ∈ fp, FpOk X pins HF b) (f3' : ∀ b ∈ fp, ∃ o, sF.heap.get? b = some o) (hC : sF.heap.objs.size = C) (old : ∀ b o, sF.heap.get? b = some o → h₁.get? b = some o) (hns₁ : h₁.Ns C m)
    (w0 : W 0 m0 [] HF) (turn : ∀ i m ys H2, W i m ys H2 → H2 acc = some (.lst ys) ∧ ((J.stop i H2 ∧ Q (.ref acc) H2) ∨ (J.go i H2 ∧ ys.length < sizeLine ∧ ∀ x H3, J.yld i H2 x H3 → g x (blockSt own.length ix σ) H3 fun σ4 H4 => σ4.drop own.length = ix.map (fun i => (σ[i]?).getD none) ∧ tt σ4 H4 fun ok H5 =>
      if ok = true then te σ4 H5 fun y H6 => H6 acc = some (.lst ys) ∧ ∃ m', m' < m ∧ W (i + 1) m' (ys ++ [y]) (upd H6 acc (.lst (ys ++ [y])))
      else ∃ m', m' < m ∧ W (i + 1) m' ys H5)))
    (fin : ∀ s6 H5, Inv (blockCx X pins (own ++ fr) scope C sF HF fp) [] (blockSt own.length ix σ) H5 s6 → Q (.ref acc) H5 → RR (.ok .next) s6) :
    codeAny (model X.prog X.w) X.A (.compStart (.ListComp elt [⟨tg, iter, ifs, 0⟩] scope pos) 0 (.ref it) (.ref acc) (compEnvC scope (clOf X.env scope.names []) C X.env)) RR
      { sF with heap := h₁, toks := sF.toks + ([] : List (Str × Value)).length } := by
  have J0 : Inv (blockCx X pins (own ++ fr) scope C sF HF fp) [] (blockSt own.length ix σ) HF { sF with heap := h₁, toks := sF.toks + ([] : List (Str × Value)).length } := block_start I3 B hC.symm f3 f3' old hns₁
  have st4 : tn 0 h₁ := T.keep _ _ _ st3 fun b _ o e => old b o e
  have fY : ∀ {pl : List (Addr × Obj)} {H' : Hp}, (∀ b ∈ fp, H' b = none) → (∀ p ∈ pl, p.1 ∉ fp) → ∀ b ∈ fp, FpOk (blockCx X pins (own ++ fr) scope C sF HF fp) pl H' b := fun {pl H'} hn hp b hb => by
    refine ⟨hn b hb, (J0.ok.exf b hb).1, J0.ok.exfs b hb, .inl hb, (J0.ok.exf b hb).2, fun p hpm => ?_⟩
    rcases List.mem_append.mp hpm with z | z
    · exact (f3 b hb).2.2.2.2.2 p z
    · exact fun e => hp p z (by rw [e]; exact hb)
  have weak : ∀ {pl : List (Addr × Obj)} {σ4 : St} {H4 : Hp} {s4 : Shared}, Inv (blockCx X pins (own ++ fr) scope C sF HF fp) pl σ4 H4 s4 → σ4.drop own.length = ix.map (fun i => (σ[i]?).getD none) → Inv (blockCx X pins (own ++ fr) scope C sF HF fp) pl (blockSt own.length ix σ) H4 s4 := fun {pl σ4 H4 s4} J e => by
    refine J.weak ?_ fun i v hv => ?_
    · have := J.len
      have := J0.len
      omega
    · have hv' : (List.replicate own.length none ++ ix.map fun i => (σ[i]?).getD none)[i]? = some (some v) := hv
      by_cases hi : i < own.length
      · rw [List.getElem?_append_left (by rw [List.length_replicate]; exact hi), List.getElem?_replicate, if_pos hi] at hv'
        cases hv'
      · rw [List.getElem?_append_right (by rw [List.length_replicate]; omega), List.length_replicate, ← e, List.getElem?_drop] at hv'
        rw [show own.length + (i - own.length) = i by omega] at hv'
        exact hv'
  have loop : ∀ s4 : Shared, s4 = { sF with heap := h₁, toks := sF.toks + ([] : List (Str × Value)).length } →
      codeAny (model X.prog X.w) X.A (.compLoop (.ListComp elt [⟨tg, iter, ifs, 0⟩] scope pos) 0 (.ref it) (.ref acc) (compEnvC scope (clOf X.env scope.names []) C X.env)) RR s4 := by
    rintro s4 rfl
    refine codeAny_compLoop_gen (fun n s' => ∃ i ys H', Inv (blockCx X pins (own ++ fr) scope C sF HF fp) [] (blockSt own.length ix σ) H' s' ∧ tn i s'.heap ∧ (∀ b ∈ fp, H' b = none) ∧ W i n ys H') ?_ m0 ⟨0, [], HF, J0, st4, fun b hb => (f3 b hb).1, w0⟩
    rintro n s5 ⟨i, ys, H5, J5, st5, fr5, w5⟩
    obtain ⟨ha, hturn⟩ := turn i n ys H5 w5
    rcases hturn with ⟨stop, qn⟩ | ⟨go, hsz, step⟩
    · refine thn (T.done (blockCx X pins (own ++ fr) scope C sF HF fp) rfl rfl rfl hc i [] s5 _ H5 (fun _ _ => False) J5 (fY fr5 (fun _ z => by cases z)) st5 stop) fun r s6 ⟨hr, J6⟩ => ?_
      subst hr
      exact fin s6 H5 J6 qn
    · refine thn (T.item (blockCx X pins (own ++ fr) scope C sF HF fp) rfl rfl rfl hc i [] s5 _ H5 (fun _ _ => False) J5 (fY fr5 (fun _ z => by cases z)) st5 go) fun r s6 ⟨u, hr, h6⟩ => ?_
      subst hr
      refine thn h6 fun _ s7 ⟨x, H7, J7, r7, y7, st7, fr7⟩ => ?_
      have J7' := J7.pinned (fY fr7 (fun _ z => by cases z)) (T.obj _ _ st7)
      refine thn (hg pins C sF HF fp _ s7 _ H7 x u _ J7' r7 (step x H7 y7)) fun _ s8 ⟨σ8, H8, J8, k8, q8⟩ => ?_
      have back : ∀ {s9 : Shared} {H9 : Hp}, Inv (blockCx X pins (own ++ fr) scope C sF HF fp) ([] ++ pinsAt fp s7.heap) σ8 H9 s9 → Inv (blockCx X pins (own ++ fr) scope C sF HF fp) [] (blockSt own.length ix σ) H9 s9 ∧ tn (i + 1) s9.heap ∧ ∀ b ∈ fp, H9 b = none := fun {s9 H9} J9 => by
        refine ⟨weak J9.unpinned k8, T.keep _ _ _ st7 fun b hb o e => (J9.pin (b, o) (List.mem_append_right _ (List.mem_append_right _ (mem_pinsAt hb e)))).1, fun b hb => ?_⟩
        obtain ⟨o, e, d⟩ := T.obj _ _ st7 b hb
        exact (J9.pin (b, o) (List.mem_append_right _ (List.mem_append_right _ (mem_pinsAt hb e)))).2.1
      refine thn (ht pins C sF HF fp _ s8 σ8 H8 _ J8 q8) fun ok s9 ⟨H9, J9, q9⟩ => ?_
      cases ok with
      | false =>
        obtain ⟨m', hm, w9⟩ := q9
        obtain ⟨b1, b2, b3⟩ := back J9
        exact ⟨m', hm, i + 1, ys, H9, b1, b2, b3, w9⟩
      | true =>
        refine thn (he pins C sF HF fp _ s9 σ8 H9 _ J9 q9) fun v s10 ⟨y, H10, J10, r10, a10, m', hm, w10⟩ => ?_
        refine thn (mt_append _ s10 σ8 H10 (.ref acc) [y] (.ref acc) [v] (fun _ H' => H' = upd H10 acc (.lst (ys ++ [y]))) J10 rfl (.cons r10 .nil) ⟨acc, ys, y, rfl, rfl, a10, hsz, rfl⟩) fun _ s11 ⟨_, H11, J11, _, e11⟩ => ?_
        subst e11
        obtain ⟨b1, b2, b3⟩ := back J11
        exact ⟨m', hm, i + 1, ys ++ [y], _, b1, b2, b3, w10⟩
  exact codeAny_compStart_list (loop _ rfl) (T.self _ 0 _ _ _ st4 (loop _ rfl))
theorem pe_comp {tg iter elt : Expr} {ifs : List Expr} {scope : Scope} {own fr : List Str} {ix : List Nat} {wi : TI} {g : TG} {tt : TT} {te : TE} {pos : Pos} (hc : X.calm = true) (BB : BlockB X scope own fr ix) (hi : PI X tg iter wi)
    (hg : ∀ pins C sF HF fp, PG (blockCx X pins (own ++ fr) scope C sF HF fp) tg g) (ht : ∀ pins C sF HF fp, PTs (blockCx X pins (own ++ fr) scope C sF HF fp) ifs tt) (he : ∀ pins C sF HF fp, PE (blockCx X pins (own ++ fr) scope C sF HF fp) elt te)
    (hs : ∀ x, foldedSetIterable iter X.env x = pure x := by intro _; rfl) : PE X (.ListComp elt [⟨tg, iter, ifs, 0⟩] scope pos) (tComp wi own.length ix g tt te) := by
  intro pins s σ H Q I h
  have B := BB.ok I.ok
  rw [eval_ListComp]
  refine wpAny_comprehension_free (use := none) rfl hs (closure_eq B.free) B.kind B.names (thn (hi pins s σ H _ I h) fun xv s1 h1 => thn h1 fun itv s2 h2 => ?_)
  obtain ⟨it, fp, tn, J, H2, rfl, I2, T, st2, f2, R⟩ := h2
  refine wpAny_newObj_type (wpAny_newFunctionEnv B.nocell (by intro y hy; simp at hy) (fun h₁ hns₁ hsb₁ => ?_) B.kind)
  dsimp only at hns₁ hsb₁
  have I3 := I2.lnew (t' := s2.toks) (its := []) (ys := []) .nil (Nat.zero_le _)
  obtain ⟨W, ⟨m0, w0⟩, turn⟩ := R _ I2.fresh
  have fF : ∀ b ∈ fp, ∃ o, s2.heap.get? b = some o := fun b hb => let ⟨o, e, _⟩ := T.obj _ _ st2 b hb; ⟨o, e⟩
  have nacc : ∀ b ∈ fp, b ≠ s2.heap.objs.size := fun b hb => let ⟨o, e⟩ := fF b hb; Nat.ne_of_lt (Heap.lt_size e)
  have push : ∀ b o, s2.heap.get? b = some o → (s2.heap.push { cls := .type "list", data := .seq ([] : List Value).toArray }).get? b = some o := fun b o e => Heap.get?_push_of_some _ e
  exact comp_block hc B hg ht he I3 T (T.keep _ _ _ st2 fun b _ o e => push b o e) (fun b hb => ⟨by rw [upd_ne (nacc b hb)]; exact (f2 b hb).1, (f2 b hb).2⟩) (fun b hb => let ⟨o, e⟩ := fF b hb; ⟨o, push b o e⟩) rfl
    (fun b o e => hsb₁.extBut b o (Nat.ne_of_lt (Heap.lt_size e)) (Heap.get?_push_of_some _ e)) hns₁ w0 turn fun s6 H5 J6 qn => by
      obtain ⟨m6, hn6, _⟩ := J6.loc
      exact ⟨m6, hn6, fun h' hs' => ⟨.ref _, H5, block_end I3 (fun b hb => ⟨by rw [upd_ne (nacc b hb)]; exact (f2 b hb).1, (f2 b hb).2⟩) rfl J6 hs', rfl, qn⟩⟩
theorem ps_setC {tg iter elt : Expr} {ifs : List Expr} {scope : Scope} {own fr : List Str} {ix : List Nat} {wi : TI} {g : TG} {tt : TT} {te : TE} {pos spos py : Pos} {k : Nat} {y : Str} (hc : X.calm = true) (hN : X.N.Nodup) (hk : X.N[k]? = some y) (hy : X.env.scope.names.lookup y = some .local) (BB : BlockB X scope own fr ix) (hi : PI X tg iter wi)
    (hg : ∀ pins C sF HF fp, PG (blockCx X pins (own ++ fr) scope C sF HF fp) tg g) (ht : ∀ pins C sF HF fp, PTs (blockCx X pins (own ++ fr) scope C sF HF fp) ifs tt) (he : ∀ pins C sF HF fp, PE (blockCx X pins (own ++ fr) scope C sF HF fp) elt te)
    (hsw : swapsWith (.ListComp elt [⟨tg, iter, ifs, 0⟩] scope pos) (some (.Name y py)) spos.line X.env = pure true := by rfl)
    (hs : ∀ x, foldedSetIterable iter X.env x = pure x := by intro _; rfl) : PS X (.Assign [.Name y py] (.ListComp elt [⟨tg, iter, ifs, 0⟩] scope pos) spos) (tAsg (tComp wi own.length ix g tt te) (gName k)) := by
  intro pins s σ H D I h
  have B := BB.ok I.ok
  rw [exec_Assign_Name_used _ _ _ _ hsw]
  refine wpAny_bind (wpAny_standAt (wpAny_bind ?_))
  show wpAny _ X.A (do let _ ← comprehension (.ListComp elt [⟨tg, iter, ifs, 0⟩] scope pos) scope X.env _ (newList []) false (eval iter X.env) (some (assign (.Name y py) X.env))) _ _ s
  refine wpAny_bind (wpAny_mono (wpAny_comprehension_free (use := some (assign (.Name y py) X.env)) (Q := fun _ s' => SP X pins D .next s') rfl hs (closure_eq B.free) B.kind B.names
    (thn (hi pins s σ H _ I h) fun xv s1 h1 => thn h1 fun itv s2 h2 => ?_)) (fun _ s' hq => wpAny_pure (wpAny_pure hq)) fun _ _ e => e)
  obtain ⟨it, fp, tn, J, H2, rfl, I2, T, st2, f2, R⟩ := h2
  refine wpAny_newObj_type (wpAny_newFunctionEnv B.nocell (by intro y hy; simp at hy) (fun h₁ hns₁ hsb₁ => ?_) B.kind)
  dsimp only at hns₁ hsb₁
  have I3 := I2.lnew (t' := s2.toks) (its := []) (ys := []) .nil (Nat.zero_le _)
  obtain ⟨W, ⟨m0, w0⟩, turn⟩ := R _ I2.fresh
  have fF : ∀ b ∈ fp, ∃ o, s2.heap.get? b = some o := fun b hb => let ⟨o, e, _⟩ := T.obj _ _ st2 b hb; ⟨o, e⟩
  have nacc : ∀ b ∈ fp, b ≠ s2.heap.objs.size := fun b hb => let ⟨o, e⟩ := fF b hb; Nat.ne_of_lt (Heap.lt_size e)
  have push : ∀ b o, s2.heap.get? b = some o → (s2.heap.push { cls := .type "list", data := .seq ([] : List Value).toArray }).get? b = some o := fun b o e => Heap.get?_push_of_some _ e
  have f3 : ∀ b ∈ fp, FpOk X pins (upd H2 s2.heap.objs.size (.lst [])) b := fun b hb => ⟨by rw [upd_ne (nacc b hb)]; exact (f2 b hb).1, (f2 b hb).2⟩
  refine comp_block (Q := fun x H1 => gName k x σ H1 D.nx) hc B hg ht he I3 T (T.keep _ _ _ st2 fun b _ o e => push b o e) f3 (fun b hb => let ⟨o, e⟩ := fF b hb; ⟨o, push b o e⟩) rfl
    (fun b o e => hsb₁.extBut b o (Nat.ne_of_lt (Heap.lt_size e)) (Heap.get?_push_of_some _ e)) hns₁ w0 turn fun s6 H5 J6 qn => ?_
  have I6 : Inv X pins σ H5 { s6 with heap := s6.heap } := block_end I3 f3 rfl J6 (Heap.SameBut.refl ..)
  have I6 : Inv X pins σ H5 s6 := I6
  obtain ⟨m6, ⟨o6, es6, ep6, ho6, rest6⟩, _⟩ := id J6.loc
  have sz : ∀ b o, (s2.heap.push { cls := .type "list", data := .seq ([] : List Value).toArray }).get? b = some o → b ≠ (s2.heap.push { cls := .type "list", data := .seq ([] : List Value).toArray }).objs.size := fun b o e => Nat.ne_of_lt (Heap.lt_size e)
  have hge : X.s₀.heap.objs.size ≤ (s2.heap.push { cls := .type "list", data := .seq ([] : List Value).toArray }).objs.size := I3.sz
  have hloc : (s2.heap.push { cls := .type "list", data := .seq ([] : List Value).toArray }).objs.size ≠ X.env.locals := fun z => by
    have := I3.lt
    rw [← z] at this
    exact Nat.lt_irrefl _ this
  have hfs : (s2.heap.push { cls := .type "list", data := .seq ([] : List Value).toArray }).objs.size ∉ X.fs := I3.nofs (Nat.le_refl _)
  have hcell : ∀ x c, X.env.cells.lookup x = some c → c ≠ (s2.heap.push { cls := .type "list", data := .seq ([] : List Value).toArray }).objs.size := fun x c e => by
    obtain ⟨v, ob, hob, _⟩ := I3.cell x c e
    exact sz _ _ hob
  have hpin : ∀ p ∈ X.pn ++ pins, p.1 ≠ (s2.heap.push { cls := .type "list", data := .seq ([] : List Value).toArray }).objs.size := fun p hp => sz _ _ (I3.pin p hp).1
  have I7 : Inv X (pins ++ [((s2.heap.push { cls := .type "list", data := .seq ([] : List Value).toArray }).objs.size, o6)]) σ H5 s6 := I6.pins_of fun p hp => by
    rcases List.mem_append.mp hp with z | z
    · exact I6.pin p (List.mem_append_right _ z)
    · rw [List.mem_singleton.mp z]
      refine ⟨ho6, J6.free, hloc, hfs, fun v z => ?_⟩
      rw [rest6.1] at z
      cases z
  refine wpAny_assign_Name (store_ok (v := .ref s2.heap.objs.size) I7 hN hk (.inl hy) rfl (fun s8 I8 => ?_) (.inr hy))
  have h8 := (I8.pin ((s2.heap.push { cls := .type "list", data := .seq ([] : List Value).toArray }).objs.size, o6) (List.mem_append_right _ (List.mem_append_right _ (List.mem_singleton.mpr rfl)))).1
  refine ⟨m6, ⟨o6, es6, ep6, h8, rest6⟩, fun h' hs' => ⟨_, H5, (I8.unpinned).turned (t' := s8.toks) (fun b o hb e => hs'.extBut b o hb e) J6.free hloc (.inr hge) hcell hpin, qn⟩⟩
end
end L2
namespace L2
open PySem PySem.Spec PyProof.Rows PySem.SeqAt
def SqLL (K : PySem.W.Frag) (H : Hp) (a : Addr) (nss : List (List Int)) : Prop := ∃ as : List Addr, SqL K H a (as.map V.ref) ∧ Paired (fun b ns => SqL K H b (ns.map V.int)) as nss
theorem SqLL.same {K : PySem.W.Frag} {H H' : Hp} {a : Addr} {nss : List (List Int)} (e : Same H H') (h : SqLL K H a nss) : SqLL K H' a nss := by
  obtain ⟨as, h1, h2⟩ := h
  exact ⟨as, e.seq h1, Paired.imp' (fun b ns z => e.seq z) h2⟩
abbrev dI (ns : List Int) : PyData := .list (ns.map PyData.int)
theorem noMix_dI (ns ms : List Int) : noMix (dI ns) (dI ms) = true := by
  simp only [noMix]; exact PySem.W.noMix_ints ns ms
theorem same_dI (ns ms : List Int) : PySem.Spec.same (dI ns) (dI ms) = decide (ns = ms) := by
  simp only [PySem.Spec.same]; exact PySem.W.same_ints ns ms
section
variable {X : Cx} {pins : List (Addr × Obj)} {σ : St} {H : Hp} {s : Shared}
theorem Inv.ints (I : Inv X pins σ H s) {a : Addr} {ns : List Int} (h : SqL X.K H a (ns.map V.int)) : ∃ vs : List Value, s.heap.IsList a vs.toArray ∧ IntsAre vs ns ∧ ns.length ≤ sizeLine := by
  obtain ⟨its, r, p, z⟩ := I.list h
  exact ⟨its, p.isList, intsAre_of r, by rwa [List.length_map] at z⟩
theorem Inv.reads (I : Inv X pins σ H s) {a : Addr} {ns : List Int} (h : SqL X.K H a (ns.map V.int)) : Reads s.heap (.ref a) (dI ns) [a] := by
  obtain ⟨vs, l, i, _⟩ := I.ints h
  exact PySem.W.reads_of_ints l i
end
section
variable {X : Cx}
def rNeL (K : PySem.W.Frag) : R2 := fun x y H Q => ∃ (a b : Addr) (ns ms : List Int), x = .ref a ∧ y = .ref b ∧ SqL K H a (ns.map V.int) ∧ SqL K H b (ms.map V.int) ∧ Q (.bl (!decide (ns = ms))) H
theorem op_neL (hu : X.A.units + 64 < cLine) : OpR X (compareOp .NotEq) (rNeL X.K) := by
  intro pins s σ H x y v u Q I rx ry h
  obtain ⟨a, b, ns, ms, rfl, rfl, h1, h2, q⟩ := h
  cases rx; cases ry
  exact ne_dataH_same (I.reads h1) (I.reads h2) (PySem.W.shaped_ints ns) (PySem.W.shaped_ints ms) hu (noMix_dI ns ms) (by rw [same_dI]; exact ⟨.bl _, H, I, rfl, q⟩)
end
end L2
namespace L2
open PySem PySem.Spec PyProof.Rows
theorem Same.wr {H H' : Hp} {p : Addr} {o : HO} (s : Same H H') (h : H p = Option.none) : Same H (upd H' p o) := fun b u e => by
  rw [upd_ne (ne_of_none e h)]
  exact s b u e
theorem hu64 {A : Around} {k : Nat} (hr : Room k A) : A.units + 64 < cLine := hr.units
section
variable {X : Cx}
theorem ix_listK (K : PySem.W.Frag) (hK : X.K = K := by rfl) : IxR X (rIxL K) := by subst hK; exact ix_list
theorem pg_tupK (K : PySem.W.Frag) {es : List Expr} {k : Nat} {t : TGs} {n : Nat} {pos : Pos} (hc : X.calm = true) (h : PGs X es t) (hK : X.K = K := by rfl)
    (hn : (assignEach es X.env).length = n := by rfl) (hst : (assignEach es X.env).findIdx? (·.1) = none := by rfl) : PG X (.Tuple es k pos) (gTup K n t) := by subst hK; exact pg_tup hc h hn hst
end
theorem comp_listP {K : PySem.W.Frag} {a acc : Addr} {xs : List V} {own : Nat} {ix : List Nat} {g : TG} {te : TE} {σ : St} {H1 : Hp} {Q : VK} (f : Nat → V) (hq : SqL K H1 a xs) (hn : H1 acc = none) (hz : xs.length ≤ sizeLine)
    (step : ∀ i x H (R : VK), xs[i]? = some x → Same H1 H → R (f i) H → g x (blockSt own ix σ) H fun σ4 H4 => σ4.drop own = ix.map (fun i => (σ[i]?).getD none) ∧ te σ4 H4 R)
    (hd : Q (.ref acc) (upd H1 acc (.lst ((List.range xs.length).map f)))) :
    CompGo (Itl K a) own ix g tNoTest te σ H1 acc Q := by
  refine ⟨fun i m ys H => m = xs.length - i ∧ i ≤ xs.length ∧ ys = (List.range i).map f ∧ H = upd H1 acc (.lst ys), ⟨xs.length, by simp, Nat.zero_le _, rfl, rfl⟩, ?_⟩
  rintro i m ys H ⟨rfl, hi, rfl, rfl⟩
  have q : SqL K (upd H1 acc (.lst ((List.range i).map f))) a xs := (Same.new hn).seq hq
  refine ⟨upd_same, ?_⟩
  by_cases hlt : i < xs.length
  · refine .inr ⟨⟨xs, xs[i], q, by simp [hlt]⟩, by rw [List.length_map, List.length_range]; omega, fun x H3 y => ?_⟩
    obtain ⟨e, y⟩ := y
    subst e
    exact step i x _ _ (y xs q) (Same.new hn) ⟨upd_same, xs.length - (i + 1), by omega, rfl, hlt, by rw [List.range_succ, List.map_append]; rfl, by rw [upd_upd]⟩
  · have e : i = xs.length := by omega
    subst e
    exact .inl ⟨⟨xs, q, Nat.le_refl _⟩, hd⟩
theorem comp_rangeP {lo : Int} {n : Nat} {acc : Addr} {own : Nat} {ix : List Nat} {g : TG} {te : TE} {σ : St} {H1 : Hp} {Q : VK} (f : Nat → V) (hn : H1 acc = none) (hz : n ≤ sizeLine)
    (step : ∀ i H (R : VK), i < n → Same H1 H → R (f i) H → g (.int (lo + i)) (blockSt own ix σ) H fun σ4 H4 => σ4.drop own = ix.map (fun i => (σ[i]?).getD none) ∧ te σ4 H4 R)
    (hd : Q (.ref acc) (upd H1 acc (.lst ((List.range n).map f)))) :
    CompGo (Itr lo n) own ix g tNoTest te σ H1 acc Q := by
  refine ⟨fun i m ys H => m = n - i ∧ i ≤ n ∧ ys = (List.range i).map f ∧ H = upd H1 acc (.lst ys), ⟨n, by simp, Nat.zero_le _, rfl, rfl⟩, ?_⟩
  rintro i m ys H ⟨rfl, hi, rfl, rfl⟩
  refine ⟨upd_same, ?_⟩
  by_cases hlt : i < n
  · refine .inr ⟨hlt, by rw [List.length_map, List.length_range]; omega, fun x H3 y => ?_⟩
    obtain ⟨e, y⟩ := y
    subst e y
    exact step i _ _ hlt (Same.new hn) ⟨upd_same, n - (i + 1), by omega, rfl, hlt, by rw [List.range_succ, List.map_append]; rfl, by rw [upd_upd]⟩
  · have e : i = n := by omega
    subst e
    exact .inl ⟨Nat.le_refl _, hd⟩
end L2
namespace L2
open PySem PySem.Spec PyProof.Rows
theorem Inv.turns {X : Cx} {pins : List (Addr × Obj)} {σ : St} {H : Hp} {s : Shared} {h' : Heap} {ch : List Addr} {t' : Nat} (I : Inv X pins σ H s) (hf : ∀ b ∈ ch, FpOk X pins H b) (k : ∀ b o, b ∉ ch → s.heap.get? b = some o → h'.get? b = some o) :
    Inv X pins σ H { s with heap := h', toks := t' } := by
  have nit : ∀ b u, H b = some u → b ∉ ch := fun b u e z => by rw [(hf b z).1] at e; cases e
  refine I.step (g' := s.gens) (d' := s.drawn) (ch := ch) (fun b hb => ⟨(hf b hb).2.2.2.1, (hf b hb).2.1, (hf b hb).2.2.2.2.1, (hf b hb).2.2.2.2.2⟩) (fun b o _ _ hc e _ => k b o hc e) (fun b o _ _ hc e _ => ⟨o.slots, k b o hc e⟩) (fun _ _ _ _ n => n)
    (fun b o hc e => ⟨o, k b o hc e⟩) (fun _ _ e => e) (fun _ _ _ e => e) (fun b ps e => ⟨#[], by rw [e]; simp⟩) (fun m hm => ?_) (fun b u e => ?_) I.bare
  · obtain ⟨o, es, ep, ho, r⟩ := hm
    exact ⟨o, es, ep, k _ o (fun z => (hf _ z).2.1 rfl) ho, r⟩
  · refine (I.hok b u e).stay (fun c v hc q => k c v ?_ q) (fun _ q => q) fun _ _ q => q
    rcases hc with z | z
    · rw [z]; exact nit b u e
    · exact nit c _ z
theorem Inv.turnsT {X : Cx} {pins : List (Addr × Obj)} {σ : St} {H : Hp} {s : Shared} {h' : Heap} {ch : List Addr} {t' : Nat} {T : Addr} {xs : List V} {its : List Value} (I : Inv X pins σ H s) (hf : ∀ b ∈ ch, FpOk X pins H b) (k : ∀ b o, b ∉ ch → s.heap.get? b = some o → h'.get? b = some o)
    (hT : s.heap.objs.size ≤ T) (r : Vals xs its) (ht : IsTup h' T its.toArray) (hz : xs.length ≤ sizeLine) : Inv X pins σ (upd H T (.tup xs)) { s with heap := h', toks := t' } := by
  have hn : H T = none := I.hok.fresh hT
  have nit : ∀ b u, H b = some u → b ∉ ch := fun b u e z => by rw [(hf b z).1] at e; cases e
  have lt : ∀ b o, s.heap.get? b = some o → b ≠ T := fun b o e => Nat.ne_of_lt (Nat.lt_of_lt_of_le (Heap.lt_size e) hT)
  refine I.step (g' := s.gens) (d' := s.drawn) (ch := ch) (fun b hb => ⟨(hf b hb).2.2.2.1, (hf b hb).2.1, (hf b hb).2.2.2.2.1, (hf b hb).2.2.2.2.2⟩) (fun b o _ _ hc e _ => k b o hc e) (fun b o _ _ hc e _ => ⟨o.slots, k b o hc e⟩) (fun b o _ e n => by rw [upd_ne (lt b o e)]; exact n)
    (fun b o hc e => ⟨o, k b o hc e⟩) (fun b ys e => by rw [upd_ne (ne_of_none e hn)]; exact e) (fun b o u e => by rw [upd_ne (ne_of_none e hn)]; exact e) (fun b ps e => ⟨#[], by rw [upd_ne (ne_of_none e hn), e]; simp⟩) (fun m hm => ?_) (fun b u e => ?_) I.bare
  · obtain ⟨o, es, ep, ho, r⟩ := hm
    exact ⟨o, es, ep, k _ o (fun z => (hf _ z).2.1 rfl) ho, r⟩
  · by_cases hb : b = T
    · subst hb
      rw [upd_same] at e
      cases e
      exact ⟨hz, its, r, ht⟩
    · rw [upd_ne hb] at e
      refine (I.hok b u e).stay (fun c v hc q => k c v ?_ q) (fun c q => ?_) fun c w q => ?_
      · rcases hc with z | z
        · rw [z]; exact nit b u e
        · exact nit c _ z
      · rw [upd_ne (ne_of_none q hn)]; exact q
      · rw [upd_ne (ne_of_none q hn)]; exact q
section
variable {X : Cx}
end
end L2
namespace Bw
def C : Nat → Nat → Nat
  | _, 0 => 1
  | 0, _ + 1 => 0
  | n + 1, k + 1 => C n k + C n (k + 1)
theorem C_zero (n : Nat) : C n 0 = 1 := by cases n <;> rfl
theorem C_succ (n k : Nat) : C (n + 1) (k + 1) = C n k + C n (k + 1) := rfl
theorem C_above : ∀ (n k : Nat), n < k → C n k = 0
  | n, 0, h => absurd h (Nat.not_lt_zero _)
  | 0, _ + 1, _ => rfl
  | n + 1, k + 1, h => by
    rw [C_succ, C_above n k (by omega), C_above n (k + 1) (by omega)]
theorem C_one : ∀ n : Nat, C n 1 = n
  | 0 => rfl
  | n + 1 => by rw [C_succ, C_zero, C_one n]; omega
theorem C_step : ∀ (n k : Nat), (k + 1) * C n (k + 1) + k * C n k = n * C n k
  | 0, 0 => by simp [C]
  | 0, k + 1 => by simp [C]
  | n + 1, 0 => by rw [C_one, C_zero]; omega
  | n + 1, k + 1 => by
    have h1 := C_step n k
    have h2 := C_step n (k + 1)
    rw [C_succ n (k + 1), C_succ n k]
    have e1 : (k + 1 + 1) * (C n (k + 1) + C n (k + 1 + 1)) = (k + 1 + 1) * C n (k + 1) + (k + 1 + 1) * C n (k + 1 + 1) := Nat.mul_add _ _ _
    have e2 : (k + 1) * (C n k + C n (k + 1)) = (k + 1) * C n k + (k + 1) * C n (k + 1) := Nat.mul_add _ _ _
    have e3 : (n + 1) * (C n k + C n (k + 1)) = (n * C n k + C n k) + (n * C n (k + 1) + C n (k + 1)) := by rw [Nat.mul_add, Nat.succ_mul, Nat.succ_mul]
    have e4 : (k + 1 + 1) * C n (k + 1) = (k + 1) * C n (k + 1) + C n (k + 1) := Nat.succ_mul _ _
    have e5 : (k + 1) * C n k = k * C n k + C n k := Nat.succ_mul _ _
    rw [e1, e2, e3, e4, e5]
    omega
theorem C_step' {n k : Nat} (h : k ≤ n) : (k + 1) * C n (k + 1) = C n k * (n - k) := by
  have e := C_step n k
  have e2 : C n k * (n - k) + k * C n k = n * C n k := by
    rw [Nat.mul_comm (C n k), ← Nat.add_mul, Nat.sub_add_cancel h]
  omega
theorem C_div {n k : Nat} (h : k ≤ n) : C n k * (n - k) / (k + 1) = C n (k + 1) := by
  rw [← C_step' h, Nat.mul_div_cancel_left _ (Nat.succ_pos k)]
theorem C_le_pow : ∀ (n k : Nat), C n k ≤ n ^ k
  | n, 0 => by rw [C_zero]; exact Nat.le_refl _
  | n, k + 1 => by
    have ih := C_le_pow n k
    by_cases h : k ≤ n
    · rw [← C_div h, Nat.pow_succ]
      refine Nat.le_trans (Nat.div_le_self _ _) ?_
      exact Nat.mul_le_mul ih (Nat.sub_le _ _)
    · rw [C_above n (k + 1) (by omega)]; exact Nat.zero_le _
def ch (n k : Int) : Int := (C n.toNat k.toNat : Nat)
theorem ch_nonneg (n k : Int) : 0 ≤ ch n k := Int.natCast_nonneg _
theorem ch_above {n k : Int} (h0 : 0 ≤ n) (h : n < k) : ch n k = 0 := by
  unfold ch; rw [C_above _ _ (by omega)]; rfl
theorem ch_zero (n : Int) : ch n 0 = 1 := by
  unfold ch; rw [show (0 : Int).toNat = 0 from rfl, C_zero]; rfl
theorem ch_succ {n k : Int} (hn : 0 ≤ n) (hk : 0 ≤ k) : ch (n + 1) (k + 1) = ch n k + ch n (k + 1) := by
  unfold ch
  rw [show (n + 1).toNat = n.toNat + 1 by omega, show (k + 1).toNat = k.toNat + 1 by omega, C_succ]
  omega
theorem ch_step {n : Int} {i : Nat} (hn : (i : Int) ≤ n) : ch n i * (n - i) / ((i : Int) + 1) = ch n ((i : Int) + 1) := by
  unfold ch
  have e : n = ((n.toNat : Nat) : Int) := by omega
  have e1 : ((i : Int) + 1).toNat = i + 1 := by omega
  have e2 : ((i : Nat) : Int).toNat = i := by omega
  have e3 : n - (i : Int) = ((n.toNat - i : Nat) : Int) := by omega
  rw [e1, e2, e3, ← C_div (n := n.toNat) (k := i) (by omega)]
  have e4 : ((i : Int) + 1) = ((i + 1 : Nat) : Int) := by omega
  rw [e4, ← Int.natCast_mul, ← Int.natCast_ediv]
end Bw
namespace Bw
theorem C_mono1 : ∀ (n k : Nat), C n k ≤ C (n + 1) k
  | n, 0 => by rw [C_zero, C_zero]; exact Nat.le_refl _
  | n, k + 1 => by rw [C_succ]; omega
theorem C_mono {m n : Nat} (k : Nat) (h : m ≤ n) : C m k ≤ C n k := by
  induction h with
  | refl => exact Nat.le_refl _
  | step _ ih => exact Nat.le_trans ih (C_mono1 _ _)
structure IsTop (k number t : Int) : Prop where
  lo : k - 1 ≤ t
  le : ch t k ≤ number
  lt : number < ch (t + 1) k
theorem ch_mono {m n k : Int} (h : m ≤ n) : ch m k ≤ ch n k := by
  unfold ch
  exact Int.ofNat_le.mpr (C_mono _ (by omega))
end Bw
namespace Bw
open PySem L2
open Builtin.Int (intBits)
def spChoose : Sp := fun vs H Q _ => ∃ n k : Int, vs = [.int n, .int k] ∧ 0 ≤ n ∧ 0 ≤ k ∧ k ≤ 1000 ∧ intBits n ≤ 100000 ∧ Q (.int (ch n k)) H
theorem bits_of {x : Int} {m : Nat} (h1 : 0 ≤ x) (h2 : x < (2 : Int) ^ m) : intBits x ≤ m := by
  refine intBits_le_iff.mpr ?_
  have e : ((2 ^ m : Nat) : Int) = (2 : Int) ^ m := by
    rw [Int.natCast_pow]; rfl
  rw [← e] at h2
  omega
theorem bits_mono {x : Int} {m n : Nat} (h : intBits x ≤ m) (hm : m ≤ n) : intBits x ≤ n := Nat.le_trans h hm
theorem bits_ch {n : Int} {k m : Nat} (h : intBits n ≤ m) (hn : 0 ≤ n) : intBits (ch n k) ≤ m * k + 1 := by
  refine intBits_le_of_natAbs (y := n ^ k) ?_ (intBits_pow_le h k)
  unfold ch
  rw [Int.toNat_natCast]
  have e : n = ((n.toNat : Nat) : Int) := by omega
  have e2 : (n ^ k).natAbs = n.toNat ^ k := by
    rw [Int.natAbs_pow]
    congr 1
    omega
  rw [e2]
  have := C_le_pow n.toNat k
  omega
end Bw
namespace L2
open PySem PySem.Spec PyProof.Rows
section
variable {X : Cx}
end
end L2
namespace L2
open PySem PySem.Spec PyProof.Rows
def LL (H : Hp) (p : Addr) (nss : List (List Int)) : Prop := ∃ as : List Addr, H p = some (.lst (as.map V.ref)) ∧ Paired (fun b (ns : List Int) => H b = some (.lst (ns.map V.int))) as nss
def LLm (H : Hp) (p : Addr) (nss : List (List Int)) : Prop := ∃ as : List Addr, H p = some (.lst (as.map V.ref)) ∧ Paired (fun b (ns : List Int) => b ≠ p ∧ H b = some (.lst (ns.map V.int))) as nss
theorem paired_imp {α β : Type} {F G : α → β → Prop} (h : ∀ a b, F a b → G a b) : ∀ {as : List α} {bs : List β}, Paired F as bs → Paired G as bs
  | _, _, .nil => .nil
  | _, _, .cons x y => .cons (h _ _ x) (paired_imp h y)
theorem LL.same {H H' : Hp} {p : Addr} {nss : List (List Int)} (s : Same H H') (h : LL H p nss) : LL H' p nss := by
  obtain ⟨as, e, q⟩ := h
  exact ⟨as, s _ _ e, paired_imp (fun _ _ z => s _ _ z) q⟩
theorem LLm.push {H H' : Hp} {pm t : Addr} {bs : List Addr} {nss : List (List Int)} {ns : List Int} (h2 : Paired (fun b (ns : List Int) => b ≠ pm ∧ H b = some (.lst (ns.map V.int))) bs nss) (sm : Same H H') (ht : H' t = some (.lst (ns.map V.int))) (hne : t ≠ pm) :
    LLm (upd H' pm (.lst (bs.map V.ref ++ [V.ref t]))) pm (nss ++ [ns]) := by
  refine ⟨bs ++ [t], by rw [upd_same, List.map_append]; rfl, Paired.snoc (paired_imp (fun b n z => ⟨z.1, by rw [upd_ne z.1]; exact sm _ _ z.2⟩) h2) ⟨hne, ?_⟩⟩
  · rw [upd_ne hne]; exact ht
end L2
namespace L2
open PySem PySem.Spec PyProof.Rows
section
variable {prog : Program} {w : World} {A : Around} {E : Value → Shared → Prop} {s : Shared}
end
section
variable {X : Cx}
end
end L2
namespace L2
open PySem PySem.Spec PyProof.Rows
open PySem.W (hideAll of_hideAll hideAll_get)
def CXE (P : Program) (w : World) : CXT := fun outer H s E e s' => ∃ (x : Addr) (C a0 : Value) (H' : Hp) (B : Heap), e = .ref x ∧ s'.os = s.os ∧ AllBare s'.gens ∧ Heap.FlyingW B outer x C a0 s'.heap ∧
  (∀ h3, B.StaysIn h3 → s'.heap.UpToSlots h3 → Un (frs outer) [] H H' s.heap h3 ∧ HOk P w H' h3) ∧ s.heap.get? x = none ∧ H' x = none ∧ E C none H'
theorem own_obj {K : PySem.W.Frag} {h : Heap} {C : Addr} {bmB : List Value} {newId : String} (X : K.In h) (q : PySem.W.excIn K C bmB newId = true) :
    ∃ bm N nm q bs hdct sn sub ab col dd k0 k1 k2 k3 k5 mN, h.get? C = some (excClassObj nm q C N bs bm hdct sn sub ab col dd k0 k1 k2 k3 k5 newId) ∧ h.Ns N mN ∧ mN "__init__" = none ∧ OwnTail h bmB bm ∧ ∀ v b, PySem.W.mroIn K C v = some b → (Value.ref C :: bm).contains v = b := by
  unfold PySem.W.excIn at q
  split at q
  · rename_i dd cd sl ho
    split at q
    · rename_i C' bm k0 k1 k2 k3 n k5 hm hs
      simp only [Bool.and_eq_true, beq_iff_eq, Bool.not_eq_true'] at q
      obtain ⟨⟨⟨⟨⟨rfl, rfl⟩, hdel⟩, ht⟩, hok⟩, hni⟩ := q
      obtain ⟨nm, bs, mro, ns, qn, hd, sn, sub, ab, col, del⟩ := cd
      dsimp only at hm hdel hok hni
      subst hm hdel
      have hsl : sl = #[k0, k1, k2, k3, some (.builtin n), k5] := by
        obtain ⟨l⟩ := sl
        simp only at hs
        rw [hs]
      subst hsl
      exact ⟨bm, ns, nm, qn, bs, hd, sn, sub, ab, col, dd, k0, k1, k2, k3, k5, _, X _ _ ho, .of_isNs (PySem.W.isNs_of_in X hok), PySem.W.nsMap_none_of_in X hok hni, PySem.W.tail_of_in X ht, fun v b e => by
        unfold PySem.W.mroIn PySem.W.clsIn at e
        rw [ho] at e
        simpa using e⟩
    · cases q
  · cases q
theorem ObjOk.there {P : Program} {w : World} {H : Hp} {h : Heap} {a : Addr} {o : HO} (x : ObjOk P w H h a o) : ∃ ob, h.get? a = some ob := by
  cases o with
  | lst xs => obtain ⟨_, _, _, _, e⟩ := x; exact ⟨_, e⟩
  | tup xs => obtain ⟨_, _, _, ob, e, _⟩ := x; exact ⟨_, e⟩
  | dK kvs => obtain ⟨_, _, _, _, o, _, _, e, _⟩ := x; exact ⟨_, e⟩
  | dT kvs => obtain ⟨_, _, _, _, o, _, _, e, _⟩ := x; exact ⟨_, e⟩
  | set S n => obtain ⟨o, _, _, _, e, _⟩ := x; exact ⟨_, e⟩
  | ins C dx fs => obtain ⟨_, _, _, e, _⟩ := x; exact ⟨_, e⟩
  | own y => obtain ⟨_, e⟩ := x; exact ⟨_, e⟩
  | xd fs => obtain ⟨_, ⟨_, _, _, e, _⟩, _⟩ := x; exact ⟨_, e⟩
  | rng lo hi => obtain ⟨_, _, _, e⟩ := x; exact ⟨_, e⟩
  | frz ob u => obtain ⟨e, _⟩ := x; exact ⟨_, e⟩
  | tbl ps => exact ⟨_, (show h.get? a = some _ from x)⟩
  | met f y => exact ⟨_, (show h.get? a = some _ from x)⟩
  | ext φ => obtain ⟨_, ⟨_, e⟩, _⟩ := x; exact ⟨_, e⟩
section
variable {P : Program} {w : World} {K : PySem.W.Frag} {mg : Str → Option Value} {base : Heap} {N : List Str} {qual : Str} {scope : Scope} {f : Addr} {cdv : Value} {A : Around} {outer : List Env} {s s2 : Shared} {H H1 : Hp} {E : XK} {pins : List (Addr × Obj)} {σ : St}
theorem stands (I : Inv (cxOf (CXE P w) P w K mg base N qual scope f cdv A outer s H E) pins σ H1 s2) {h3 : Heap} (hst : (hideAll s2.heap (frs (envOfC qual scope s.heap.objs.size f cdv :: outer))).StaysIn h3) (up : s2.heap.UpToSlots h3) :
    Un (frs outer) [] H H1 s.heap h3 ∧ HOk P w H1 h3 := by
  have kk : ∀ b o, s2.heap.get? b = some o → b ∉ frs (envOfC qual scope s.heap.objs.size f cdv :: outer) → h3.get? b = some o := fun b o e hb => hst b o (hideAll_get _ e hb)
  have frz : ∀ b, b ∈ frs (envOfC qual scope s.heap.objs.size f cdv :: outer) → b = s.heap.objs.size ∨ b ∈ frs outer := fun b hb => by
    unfold frs at hb
    rw [List.filterMap_cons] at hb
    exact List.mem_cons.mp hb
  have notL : ∀ b o, s.heap.get? b = some o → b ∉ frs outer → b ∉ frs (envOfC qual scope s.heap.objs.size f cdv :: outer) := fun b o e hb z => by
    rcases frz b z with q | q
    · exact absurd (Heap.lt_size e) (by rw [q]; exact Nat.lt_irrefl _)
    · exact hb q
  have U := I.base
  have stk := I.stack
  refine ⟨⟨fun b o e n hb hx => kk b o (U.keep b o e n hb hx) (notL b o e hb), fun b o e n hb hx => ?_, fun b o e n hx => U.free b o e n hx, fun b o e hx => ?_, U.tups, U.frzs, U.tbls⟩, fun a u e => ?_⟩
  · obtain ⟨sl, q⟩ := U.slot b o e n hb hx
    obtain ⟨_, o2, ho2, hd2⟩ := I.ok.funs.mem hb
    have ho2' : s.heap.get? b = some o2 := ho2
    rw [e] at ho2'
    cases ho2'
    obtain ⟨sl2, q2⟩ := up b _ q hd2
    exact ⟨sl2, q2⟩
  · obtain ⟨o2, q⟩ := U.there b o e hx
    by_cases hb : b ∈ frs (envOfC qual scope s.heap.objs.size f cdv :: outer)
    · obtain ⟨_, o3, ho3, hd3⟩ := stk.mem hb
      obtain ⟨sl, q3⟩ := up b _ ho3 hd3
      exact ⟨_, q3⟩
    · exact ⟨_, kk b o2 q hb⟩
  · refine (I.hok a u e).stay (fun b v hb q => kk b v q fun z => ?_) (fun _ q => q) fun _ _ q => q
    have hn := I.stkFree b z
    rcases hb with r | r
    · rw [r] at hn; rw [hn] at e; cases e
    · rw [hn] at r; cases r
theorem xe_made {h' : Heap} {e : Addr} {C : Value} {vs : List Value} (I : Inv (cxOf (CXE P w) P w K mg base N qual scope f cdv A outer s H E) pins σ H1 s2) (m : Heap.MadeExcOf s2.heap h' e C vs) (h : E C none H1) :
    (cxOf (CXE P w) P w K mg base N qual scope f cdv A outer s H E).xe (.ref e) { s2 with heap := h' } := by
  show wpAny (model P w) (A.deeper (envOfC qual scope s.heap.objs.size f cdv)) (leaving (envOfC qual scope s.heap.objs.size f cdv) (.ref e)) (fun _ s'' => CXE P w outer H s E (.ref e) s'') (fun e' s'' => CXE P w outer H s E e' s'') { s2 with heap := h' }
  have stk := I.stack
  refine wpAny_leaves_madeW (s := { s2 with heap := h' }) (base := hideAll s2.heap (frs (envOfC qual scope s.heap.objs.size f cdv :: outer))) (h := s2.heap) I.ok.frames rfl (fun b o q => of_hideAll _ q) (PySem.W.funFrames_hide stk fun env he b hb => List.mem_filterMap.mpr ⟨env, he, hb⟩) m fun h'' t fl tup bt ups => ?_
  have up1 : s2.heap.UpToSlots h'' := (Heap.UpToSlots.of_keeps m.keeps).trans ups
  refine ⟨e, C, .ref t, H1, _, rfl, I.os, I.bare, fl, fun h3 st3 up3 => stands I st3 (up1.trans up3), ?_, ?_, h⟩
  · have en := m.new
    cases q : s.heap.get? e with
    | none => rfl
    | some o =>
      obtain ⟨o2, q2⟩ := I.base.there e o q (by show e ∉ ([] : List Addr); simp)
      rw [en] at q2; cases q2
  · cases q : H1 e with
    | none => rfl
    | some u =>
      obtain ⟨ob, q2⟩ := ObjOk.there (I.hok e u q)
      rw [m.new] at q2; cases q2
theorem notL2 {b : Addr} {o : Obj} (e : s.heap.get? b = some o) (hb : b ∉ frs outer) : b ∉ frs (envOfC qual scope s.heap.objs.size f cdv :: outer) := fun z => by
  have z' : b ∈ s.heap.objs.size :: frs outer := by
    unfold frs at z ⊢
    rw [List.filterMap_cons] at z
    exact z
  rcases List.mem_cons.mp z' with q | q
  · exact absurd (Heap.lt_size e) (by rw [q]; exact Nat.lt_irrefl _)
  · exact hb q
theorem xe_pass {x : Addr} {s' : Shared} {e : Value} {E' : XK} (I : Inv (cxOf (CXE P w) P w K mg base N qual scope f cdv A outer s H E) pins σ H1 s2) (hx : CXE P w (envOfC qual scope s.heap.objs.size f cdv :: outer) H1 s2 E' e s') (h : ∀ C H', E' C none H' → E C none H') :
    (cxOf (CXE P w) P w K mg base N qual scope f cdv A outer s H E).xe e s' := by
  obtain ⟨x, C, a0, H', B, rfl, os, bare, fl, st, xn, xh, q⟩ := hx
  show wpAny (model P w) (A.deeper (envOfC qual scope s.heap.objs.size f cdv)) (leaving (envOfC qual scope s.heap.objs.size f cdv) (.ref x)) (fun _ s'' => CXE P w outer H s E (.ref x) s'') (fun e' s'' => CXE P w outer H s E e' s'') s'
  refine wpAny_leaves_onW I.ok.frames rfl fl fun h'' fl2 up => ?_
  have U := I.base
  refine ⟨x, C, a0, H', B, rfl, os.trans I.os, bare, fl2, fun h3 st3 up3 => ?_, ?_, xh, h C H' q⟩
  · obtain ⟨u, ok⟩ := st h3 st3 (up.trans up3)
    refine ⟨⟨fun b o e n hb hx => u.keep b o (U.keep b o e n hb hx) (U.free b o e n hx) (notL2 e hb) hx, fun b o e n hb hx => ?_, fun b o e n hx => ?_, fun b o e hx => ?_, fun b xs e => u.tups b xs (U.tups b xs e), fun b o v e => u.frzs b o v (U.frzs b o v e), fun b ps e => ?_⟩, ok⟩
    · obtain ⟨sl, q1⟩ := U.slot b o e n hb hx
      have hb' : b ∈ frs (envOfC qual scope s.heap.objs.size f cdv :: outer) := by
        unfold frs; rw [List.filterMap_cons]; exact List.mem_cons_of_mem _ hb
      obtain ⟨sl2, q2⟩ := u.slot b _ q1 (U.free b o e n hx) hb' hx
      exact ⟨sl2, q2⟩
    · obtain ⟨o2, q2⟩ := U.there b o e hx
      exact u.free b o2 q2 (U.free b o e n hx) hx
    · obtain ⟨o2, q2⟩ := U.there b o e hx
      exact u.there b o2 q2 hx
    · obtain ⟨m1, q1⟩ := U.tbls b ps e
      obtain ⟨m2, q2⟩ := u.tbls b _ q1
      exact ⟨m1 ++ m2, by rw [q2, Array.append_assoc]⟩
  · cases q1 : s.heap.get? x with
    | none => rfl
    | some o =>
      obtain ⟨o2, q2⟩ := U.there x o q1 (by show x ∉ ([] : List Addr); simp)
      rw [xn] at q2; cases q2
end
section
variable {P : Program} {w : World} {K : PySem.W.Frag} {mg : Str → Option Value} {base : Heap}
def FnE (P : Program) (w : World) (K : PySem.W.Frag) (mg : Str → Option Value) (base : Heap) (k : Nat) (x : Str) (ps : List Str) (sp : Sp) : Prop :=
  ∃ f fd, FnOk P w K mg base (CXE P w) k f fd ps sp ∧ PySem.W.keepIn K (.ref f) = true ∧ Binds K fd ps [] ∧ mg x = some (.ref f)
def tRaise (C : Addr) (E : XK) (t : TA) : TS := fun _ σ H => t σ H fun vs H1 => vs.length ≤ sizeLine ∧ E (.ref C) none H1
theorem ps_raise {N : List Str} {qual : Str} {scope : Scope} {f : Addr} {cdv : Value} {A : Around} {outer : List Env} {s : Shared} {H : Hp} {E : XK} {xn : Str} {C : Addr} {bmB : List Value} {B newId initId : String} {e : Expr} {es : List Expr} {t : TA} {np cpos pos : Pos}
    (FB : ExcBaseFacts B newId initId bmB) (hq : PySem.W.excIn K C bmB newId = true) (hg : Gl (cxOf (CXE P w) P w K mg base N qual scope f cdv A outer s H E) xn) (hm : mg xn = some (.ref C)) (ha : PA (cxOf (CXE P w) P w K mg base N qual scope f cdv A outer s H E) (e :: es) t)
    (hd : (xn == ("__debug__" : Str)) = false := by decide)
    (he : starEach (e :: es) (cxOf (CXE P w) P w K mg base N qual scope f cdv A outer s H E).env = (false, eval e (cxOf (CXE P w) P w K mg base N qual scope f cdv A outer s H E).env) :: starEach es (cxOf (CXE P w) P w K mg base N qual scope f cdv A outer s H E).env := by rfl)
    (hpl : (backTo cpos (starEach es (cxOf (CXE P w) P w K mg base N qual scope f cdv A outer s H E).env)).any (·.1) = false := by rfl) :
    PS (cxOf (CXE P w) P w K mg base N qual scope f cdv A outer s H E) (.Raise (some (.Call (.Name xn np) (e :: es) [] cpos)) none pos) (tRaise C E t) := by
  intro pins s1 σ H0 D I h
  obtain ⟨bm, N', nm, q, bs, hdct, sn, sub, ab, col, dd, k0, k1, k2, k3, k5, mN, hC, hN, hni, TL, _⟩ := own_obj I.mod.kin hq
  refine wpAny_Raise_call_subT (C := C) (nm := nm) (q := q) (N := N') (bs := bs) (bm := bm) (hdct := hdct) (sn := sn) (sub := sub) (ab := ab) (col := col) (dd := dd) (k0 := k0) (k1 := k1) (k2 := k2) (k3 := k3) (k5 := k5)
    FB (mN := mN) (TL.hasType FB.hasBase) (I.ok.hd rfl) (by rw [he]; show (false || (backTo cpos (starEach es _)).any (·.1)) = false; rw [hpl]; rfl) hni (ld_glob I hg hm ⟨rfl, ?_⟩ hd)
  have hs := ha cpos pins s1 σ H0 _ I h
  rw [he] at hs ⊢
  exact Calls.evalArgs_plain (thn hs fun us s2 x => by
    obtain ⟨vs, H1, I1, r1, z, q1⟩ := x
    exact ⟨rfl, by rw [← r1.length]; exact z, I1.bk _ _ hC, hN.keeps I1.bk, TL.keeps I1.bk, fun h' x m => xe_made I1 m q1⟩)
end
section
variable {P : Program} {w : World} {K : PySem.W.Frag} {mg : Str → Option Value} {base : Heap}
theorem Fun.okE {x qual : Str} {st : Stmt} {f : Addr} {fd : FuncData} {N ps : List Str} {k : Nat} {sp : Sp} (F : Fun K x qual st f fd) (S : FnScope N ps (defScope st)) (len : ∀ vs H Q E, sp vs H Q E → vs.length = ps.length)
    (hbody : ∀ (cdv : Value) (A : Around) (outer : List Env) (s : Shared) (H : Hp) (vs : List V) (Q : VK) (E : XK), Room k (A.deeper (envOfC qual (defScope st) s.heap.objs.size f cdv)) → sp vs H Q E →
      ∃ t, PSs (cxOf (CXE P w) P w K mg base N qual (defScope st) f cdv A outer s H E) (defBody st) t ∧ t { nx := fun _ H' => Q .non H', rt := Q } (start N vs) H) : FnOk P w K mg base (CXE P w) (k + 1) f fd ps sp := by
  obtain ⟨oc, od, kV, doc, pm, an, cdv, ct, osl, rfl, lk, hcd⟩ := F.ex
  exact fn_of lk hcd S len fun A outer s H vs Q E hr hsp => hbody cdv A outer s H vs Q E hr hsp
theorem Def.fnE {x : Str} {st : Stmt} {N ps : List Str} {k : Nat} {sp : Sp} (D : Def K mg x st ps) (S : FnScope N ps (defScope st)) (len : ∀ vs H Q E, sp vs H Q E → vs.length = ps.length)
    (hbody : ∀ (f : Addr) (cdv : Value) (A : Around) (outer : List Env) (s : Shared) (H : Hp) (vs : List V) (Q : VK) (E : XK), Room k (A.deeper (envOfC x (defScope st) s.heap.objs.size f cdv)) → sp vs H Q E →
      ∃ t, PSs (cxOf (CXE P w) P w K mg base N x (defScope st) f cdv A outer s H E) (defBody st) t ∧ t { nx := fun _ H' => Q .non H', rt := Q } (start N vs) H) : FnE P w K mg base (k + 1) x ps sp := by
  obtain ⟨f, fd, F, b, m⟩ := D
  exact ⟨f, fd, F.okE S len (hbody f), F.kp, b, m⟩
end
section
variable {M : Model} {A : Around} {E : Value → Shared → Prop} {h : Heap} {g : Array GenState} {d : Drawn} {t : Nat} {os : OsState}
def IsExcCls (h : Heap) (C : Addr) (bm : List Value) : Prop := ∃ N nm q bs hdct sn sub ab col dd k0 k1 k2 k3 k5 newId, h.get? C = some (excClassObj nm q C N bs bm hdct sn sub ab col dd k0 k1 k2 k3 k5 newId) ∧ bm.contains (.type "BaseException") = true
end
section
variable {X : Cx} {pins : List (Addr × Obj)} {σ : St} {H : Hp} {s : Shared}
theorem unbind_ok {M : Model} {A : Around} {E : Value → Shared → Prop} {i : Nat} {x : Str} {v : V} {Q : Unit → Shared → Prop} (I : Inv X pins σ H s) (hN : X.N.Nodup) (hi : X.N[i]? = some x) (hk : X.env.kindOf x = some .local) (hs' : X.env.scope.names.lookup x = some .local) (hv : σ[i]? = some (some v))
    (h : ∀ s', Inv X pins (σ.set i none) H s' → Q () s') : wpAny M A (unbindName X.env x) Q E s := by
  obtain ⟨m, hn, hl⟩ := id I.loc
  have hcls : (X.env.scope.kind == .class || (X.env.scope.kind == .module && X.env.locals != X.env.globals)) = false := by rw [I.ok.kind]; rfl
  have hiσ : i < σ.length := by rw [I.len]; exact (List.getElem?_eq_some_iff.mp hi).1
  have cne := I.cne
  obtain ⟨u, _, lk⟩ := hl i x v hi hv (.inl hs')
  have mx : m x = some u := by
    rcases lk with ⟨_, e⟩ | ⟨k, _⟩
    · exact e
    · rw [hk] at k; rcases k with k | k <;> cases k
  refine wpAny_unbindName_local hk hn mx hcls fun h' u' hn' hs => ?_
  obtain ⟨oL, _, _, hoL, _⟩ := id hn
  refine h _ ⟨I.ok, I.os, I.bare, ⟨fun b o e n hb hx => ?_, fun b o e n hb hx => ?_, I.base.free, fun b o e hx => ?_, I.base.tups, I.base.frzs, I.base.tbls⟩, ⟨_, hn', fun j y v' e1 e2 e3 => ?_⟩, fun y c e => ?_, I.free, I.freeC, fun p hp => ?_, fun b ob e => ?_, by simpa using I.len⟩
  · exact (hs.2 b (Nat.ne_of_lt (Nat.lt_of_lt_of_le (Heap.lt_size e) I.ok.above))).trans (I.base.keep b o e n hb hx)
  · obtain ⟨sl, e1⟩ := I.base.slot b o e n hb hx
    exact ⟨sl, (hs.2 b (Nat.ne_of_lt (Nat.lt_of_lt_of_le (Heap.lt_size e) I.ok.above))).trans e1⟩
  · obtain ⟨o', e1⟩ := I.base.there b o e hx
    exact ⟨o', (hs.2 b (Nat.ne_of_lt (Nat.lt_of_lt_of_le (Heap.lt_size e) I.ok.above))).trans e1⟩
  · by_cases hj : j = i
    · subst hj
      rw [List.getElem?_set_self hiσ] at e2
      cases e2
    · rw [List.getElem?_set_ne (Ne.symm hj)] at e2
      obtain ⟨u2, r', q⟩ := hl j y v' e1 e2 e3
      refine ⟨u2, r', ?_⟩
      rcases q with ⟨k, e⟩ | ⟨k, c, e, z⟩
      · refine .inl ⟨k, ?_⟩
        have : y ≠ x := fun e => hj (nodup_ix hN e1 (e ▸ hi))
        simp [this, e]
      · exact .inr ⟨k, c, e, z.sameBut hs (cne y c e)⟩
  · obtain ⟨w', z⟩ := I.cell y c e
    exact ⟨w', z.sameBut hs (cne y c e)⟩
  · obtain ⟨a, b, c, d, e⟩ := I.pin p hp
    exact ⟨(hs.2 p.1 c).trans a, b, c, d, e⟩
  · refine (I.hok b ob e).stay (fun c w' hc q => (hs.2 c ?_).trans q) (fun _ q => q) fun _ _ q => q
    rintro rfl
    rcases hc with rfl | hc
    · rw [I.free] at e; cases e
    · rw [I.free] at hc; cases hc
abbrev Cx.inX (X : Cx) (x : Addr) : Cx := { X with A := X.A.mark (some (.ref x)), calm := false, xe := fun _ _ => False }
theorem Inv.inX (I : Inv X pins σ H s) (x : Addr) : Inv (X.inX x) pins σ H s :=
  ⟨⟨I.ok.mod, I.ok.kind, I.ok.glob, I.ok.blt, I.ok.above, I.ok.inj, I.ok.has, I.ok.cab, fun z => Bool.noConfusion z, I.ok.frames, I.ok.stk, I.ok.exf, I.ok.bs, I.ok.bsz, I.ok.noex, I.ok.exfs, I.ok.funs, I.ok.frf⟩, I.os, I.bare, I.base, I.loc, I.cell, I.free, I.freeC, I.pin, I.hok, I.len⟩
theorem Inv.outX {x : Addr} (hh : X.calm = true → X.A.handled = none) (I : Inv (X.inX x) pins σ H s) : Inv X pins σ H s :=
  ⟨⟨I.ok.mod, I.ok.kind, I.ok.glob, I.ok.blt, I.ok.above, I.ok.inj, I.ok.has, I.ok.cab, hh, I.ok.frames, I.ok.stk, I.ok.exf, I.ok.bs, I.ok.bsz, I.ok.noex, I.ok.exfs, I.ok.funs, I.ok.frf⟩, I.os, I.bare, I.base, I.loc, I.cell, I.free, I.freeC, I.pin, I.hok, I.len⟩
def excIs (x : Addr) (C : Value) : HO := .ext fun h => ∃ o, h.get? x = some o ∧ o.cls = C
theorem caught_inv {x : Addr} {C : Value} {H' : Hp} {s6 : Shared} {o : Obj} (I : Inv X pins σ H s) (ho : s6.os = s.os) (hg : AllBare s6.gens) (u : Un (frs X.stack) [] H H' s.heap s6.heap) (ok : HOk X.prog X.w H' s6.heap) (xn : s.heap.get? x = none) (xh : H' x = none) (he : s6.heap.get? x = some o) (hc : o.cls = C) :
    Inv X pins σ (upd H' x (excIs x C)) s6 := by
  have ne : ∀ b q, s.heap.get? b = some q → b ≠ x := fun b q e z => by rw [z, xn] at e; cases e
  refine I.call' (ch := []) ho ⟨u.keep, u.slot, fun b q e n hx => by rw [upd_ne (ne b q e)]; exact u.free b q e n hx, u.there, fun b xs e => by rw [upd_ne (ne_of_none (u.tups b xs e) xh)]; exact u.tups b xs e, fun b q v e => by rw [upd_ne (ne_of_none (u.frzs b q v e) xh)]; exact u.frzs b q v e, fun b ps e => ?_⟩ ?_ hg (fun b z => absurd z (by simp))
  · obtain ⟨more, q⟩ := u.tbls b ps e
    exact ⟨more, by rw [upd_ne (ne_of_none q xh)]; exact q⟩
  · intro b v e
    by_cases hb : b = x
    · subst hb
      rw [upd_same] at e
      cases e
      exact ⟨⟨o, he, hc⟩, ⟨o, he⟩, fun h1 h2 ⟨o1, e1, c1⟩ k => ⟨o1, k o1 e1, c1⟩⟩
    · rw [upd_ne hb] at e
      exact (ok b v e).stay (fun _ _ _ q => q) (fun c q => by rw [upd_ne (ne_of_none q xh)]; exact q) fun c xs q => by rw [upd_ne (ne_of_none q xh)]; exact q
end
section
variable {X : Cx} {pins : List (Addr × Obj)} {σ : St} {H : Hp} {s : Shared}
end
end L2
namespace L2
open PySem PySem.Spec PyProof.Rows
def Ite (K : PySem.W.Frag) (l : Addr) (N : Nat) : It :=
  ⟨fun i H => ∃ xs x, SqL K H l xs ∧ xs.length = N ∧ xs[i]? = some x,
   fun i H v H' => ∃ t, H t = none ∧ v = .ref t ∧ ∀ xs x, SqL K H l xs → xs[i]? = some x → H' = upd H t (.tup [.int i, x]),
   fun i H => i = N ∧ ∃ xs, SqL K H l xs ∧ xs.length = N⟩
theorem turn_enumL {P : Program} {w : World} {K : PySem.W.Frag} {elts : List Expr} {x1 : Nat} {tp : Pos} (l e it : Addr) (N : Nat) (hei : e ≠ it) (hle : l ≠ e) (hli : l ≠ it) :
    Turn P w K (.Tuple elts x1 tp) (Ite K l N) [e, it] e (fun i h => (∃ old, IsEnum h e it i old) ∧ h.IsListIter it l i) where
  mem := by simp
  obj := fun i h ⟨⟨old, h1⟩, h2⟩ c hc => by
    simp only [List.mem_cons, List.not_mem_nil, or_false] at hc
    rcases hc with z | z
    · subst z; exact ⟨_, h1, fun v q => by have q' : Data.fields _ = Data.cell v := q; cases q'⟩
    · subst z
      obtain ⟨o, ho, _, hd⟩ := h2
      exact ⟨o, ho, fun v q => by rw [hd] at q; cases q⟩
  keep := fun i h h' ⟨⟨old, h1⟩, h2⟩ k => ⟨⟨old, k e (by simp) _ h1⟩, h2.at fun o z => k it (by simp) o z⟩
  item := by
    intro X hP hw hK hc i pins s σ H E I hf ⟨⟨old, h1⟩, h2⟩ ⟨xs, x, q1, hN, hx⟩
    subst hP hw hK
    obtain ⟨it1, v1, p1, z1⟩ := I.list q1
    have hl1 := v1.length
    have hsz : it1.toArray.size = N := by rw [List.size_toArray]; omega
    have hi : i < N := by have := (List.getElem?_eq_some_iff.mp hx).1; omega
    obtain ⟨u1, e1, r1⟩ := v1.get hx
    have D := Draws.list (prog := X.prog) (w := X.w) (A := X.A.in1) (I.ok.hd hc) it l hli it1.toArray
    rw [hsz] at D
    refine wpAny_pyNext_enum_itemD D h1 ⟨h2, p1.isList⟩ hi hei (by simp only [List.mem_cons, List.not_mem_nil, or_false, not_or]; exact ⟨hei, Ne.symm hle⟩) fun u h' tk hu g1 gst gT gs k => ?_
    refine ⟨_, rfl, wpAny_letOwnedTupleGo_enum g1 fun h'' g1' sb => ?_⟩
    have hzT : s.heap.objs.size ≠ e := Nat.ne_of_gt (Heap.lt_size h1)
    have eu : u = u1 := by
      have hu' : it1[i]? = some u := by simpa using hu
      rw [e1] at hu'
      exact (Option.some.inj hu').symm
    subst eu
    have gT' : IsTup h'' s.heap.objs.size [Value.int i tk, u].toArray := ⟨_, sb.extBut _ _ hzT gT, rfl, _, rfl⟩
    have hlz : ∀ {c : Addr} {o : Obj}, c ≠ e → h'.get? c = some o → h''.get? c = some o := fun hcz z => sb.extBut _ _ hcz z
    refine ⟨.ref s.heap.objs.size, upd H s.heap.objs.size (.tup [.int i, x]), I.turnsT (ch := [e, it]) (t' := tk + 1) (fun c hcm => hf c hcm) (fun c o hcn z => ?_) (Nat.le_refl _) (.cons ⟨tk, rfl⟩ (.cons r1 .nil)) gT' (by show 2 ≤ sizeLine; decide), rfl,
      ⟨_, I.hok.fresh (Nat.le_refl _), rfl, fun xs' x' w1 w2 => ?_⟩, ⟨⟨_, g1'⟩, gst.1.at fun o z => hlz (Ne.symm hei) z⟩, fun c hcm => ?_⟩
    · simp only [List.mem_cons, List.not_mem_nil, or_false, not_or] at hcn
      exact hlz hcn.1 (k c o hcn.1 hcn.2 z)
    · have a1 := I.list_inj w1 q1
      subst a1
      rw [hx] at w2
      cases w2
      rfl
    · obtain ⟨o, z, _⟩ : ∃ o, s.heap.get? c = some o ∧ True := by
        simp only [List.mem_cons, List.not_mem_nil, or_false] at hcm
        rcases hcm with z | z
        · subst z; exact ⟨_, h1, trivial⟩
        · subst z; obtain ⟨o, ho, _⟩ := h2; exact ⟨o, ho, trivial⟩
      rw [upd_ne (Nat.ne_of_lt (Heap.lt_size z))]
      exact (hf c hcm).1
  done := by
    intro X hP hw hK hc i pins s σ H E I hf ⟨⟨old, h1⟩, h2⟩ ⟨hi, xs, q1, hN⟩
    subst hP hw hK hi
    obtain ⟨it1, v1, p1, z1⟩ := I.list q1
    have hl1 := v1.length
    have hsz : it1.toArray.size = i := by rw [List.size_toArray]; omega
    have D := Draws.list (prog := X.prog) (w := X.w) (A := X.A.in1) (I.ok.hd hc) it l hli it1.toArray
    rw [hsz] at D
    refine wpAny_pyNext_enum_endD D h1 ⟨h2, p1.isList⟩ fun h' k => ⟨rfl, I.turns (ch := [e, it]) (t' := s.toks) hf fun c o hcn z => ?_⟩
    simp only [List.mem_cons, List.not_mem_nil, or_false, not_or] at hcn
    exact k c o hcn.2 z
  self := fun _ _ _ _ _ st h => let ⟨⟨_, z⟩, _⟩ := st; wpAny_pyIter_enum z h
section
variable {X : Cx}
def iEnumL (K : PySem.W.Frag) (ta : TA) : TI := fun σ H R => ta σ H fun vs H1 => ∃ a xs, vs = [.ref a] ∧ SqL K H1 a xs ∧ R (Ite K a xs.length) H1
theorem pi_enumL {a : Expr} {ta : TA} {p pos : Pos} {elts : List Expr} {x1 : Nat} {tp : Pos} (hg : Gl X "enumerate") (hm : X.mg "enumerate" = none) (ha : PA X [a] ta)
    (hs : starEach [a] X.env = (false, eval a X.env) :: starEach [] X.env := by rfl) (hs2 : (backTo pos (starEach [] X.env)).any (·.1) = false := by rfl) :
    PI X (.Tuple elts x1 tp) (.Call (.Name "enumerate" p) [a] [] pos) (iEnumL X.K ta) := by
  intro pins s σ H R I h
  refine Call_ (ld_blt I hg hm b_enumerate (PyProof.Rows.callWith_type1 (thn (ha pos pins s σ H _ I h) fun us s1 ⟨vs, H1, I1, r1, q1⟩ => ?_) hs hs2))
  obtain ⟨l, xs, e, q1, q⟩ := q1
  subst e
  obtain ⟨u, rfl, w1⟩ := vals1 r1
  cases w1
  obtain ⟨its, v1, p1, z1⟩ := I1.list q1
  have hl : l < s1.heap.objs.size := by obtain ⟨_, _, e, _⟩ := p1; exact Heap.lt_size e
  refine call_enumerate_list p1.isList fun h' g1 g2 gs k => ?_
  refine wpAny_pyIter_enum g1 ?_
  refine ⟨s1.heap.objs.size + 1, [s1.heap.objs.size + 1, s1.heap.objs.size], _, _, H1, rfl, I1.kept (t' := s1.toks) k, turn_enumL l _ s1.heap.objs.size xs.length ?_ ?_ ?_, ⟨⟨_, g1⟩, g2⟩, fun c hcm => ?_, q⟩
  · exact Nat.succ_ne_self _
  · exact Nat.ne_of_lt (Nat.lt_succ_of_lt hl)
  · exact Nat.ne_of_lt hl
  · have hc : s1.heap.objs.size ≤ c := by
      simp only [List.mem_cons, List.not_mem_nil, or_false] at hcm
      rcases hcm with e | e
      · rw [e]; exact Nat.le_succ _
      · rw [e]; exact Nat.le_refl _
    exact I1.fpOk hc (I1.hok.fresh hc)
theorem call_sum (hc : X.calm = true) : CallR X (.builtin "sum") (fun xs H Q => ∃ (p : Addr) (ns : List Int), xs = [.ref p] ∧ SqL X.K H p (ns.map V.int) ∧ Q (.int ns.sum) H) := by
  intro pins s σ H xs us Q I r h
  obtain ⟨p, ns, rfl, hq, q⟩ := h
  obtain ⟨u, rfl, ru⟩ := vals1 r
  cases ru
  obtain ⟨its, hl, hi, hz⟩ := I.ints hq
  obtain ⟨xs, hx⟩ := hi.allInts.items
  have hl' : s.heap.IsList p (intItems xs) := hx ▸ hl
  refine sum_intListG (I.ok.hd hc) hl' fun h' tk t' hk => ?_
  have e1 : ns = xs.toList.map (·.1) := by
    rw [← nums_intItems, ← hx]
    exact (show numsOf its.toArray.toList = ns from hi.numsOf).symm
  have e2 : preSum (numAt xs) xs.size = ns.sum := by
    rw [preSum_eq, List.take_of_length_le (by simp), e1]
  rw [e2]
  exact ⟨.int _, H, I.kept (t' := tk) hk, ⟨_, rfl⟩, q⟩
end
theorem b_sum : bootBuiltins "sum" = some (.builtin "sum") := by decide +kernel
theorem comp_enumP {K : PySem.W.Frag} {a acc : Addr} {xs : List V} {own : Nat} {ix : List Nat} {g : TG} {te : TE} {σ : St} {H1 : Hp} {Q : VK} (f : Nat → V) (hq1 : SqL K H1 a xs) (hn : H1 acc = none) (hz : xs.length ≤ sizeLine)
    (step : ∀ (i : Nat) (x : V) (t : Addr) (H : Hp) (R : VK), xs[i]? = some x → Same H1 H → H t = some (.tup [.int i, x]) → R (f i) H → g (.ref t) (blockSt own ix σ) H fun σ4 H4 => σ4.drop own = ix.map (fun i => (σ[i]?).getD none) ∧ te σ4 H4 R)
    (hd : ∀ H', Same H1 H' → H' acc = some (.lst ((List.range xs.length).map f)) → Q (.ref acc) H') : CompGo (Ite K a xs.length) own ix g tNoTest te σ H1 acc Q := by
  refine ⟨fun i m ys H => m = xs.length - i ∧ i ≤ xs.length ∧ ys = (List.range i).map f ∧ Same H1 H ∧ H acc = some (.lst ys), ⟨xs.length, by simp, Nat.zero_le _, rfl, Same.new hn, upd_same⟩, ?_⟩
  rintro i m zs H ⟨rfl, hi, rfl, sm, ha⟩
  refine ⟨ha, ?_⟩
  by_cases hlt : i < xs.length
  · refine .inr ⟨⟨xs, xs[i], sm.seq hq1, rfl, List.getElem?_eq_getElem hlt⟩, by rw [List.length_map, List.length_range]; omega, fun v H3 ⟨t, ht, hv, hy⟩ => ?_⟩
    have e := hy xs _ (sm.seq hq1) (List.getElem?_eq_getElem hlt)
    subst hv e
    have ha3 : (upd H t (.tup [.int i, xs[i]])) acc = some (.lst ((List.range i).map f)) := by rw [upd_ne (ne_of_none ha ht)]; exact ha
    exact step i _ t _ _ (List.getElem?_eq_getElem hlt) (sm.put ht) upd_same ⟨ha3, _, by omega, rfl, hlt, by rw [List.range_succ, List.map_append]; rfl, (sm.put ht).wr hn, upd_same⟩
  · have e : i = xs.length := by omega
    subst e
    exact .inl ⟨⟨rfl, xs, sm.seq hq1, rfl⟩, hd H sm ha⟩
end L2
namespace L2
open PySem PySem.Spec PyProof.Rows
section
variable {X : Cx}
end
end L2
namespace L2
open PySem PySem.Spec PyProof.Rows PySem.W PySem.Calls
section
variable {prog : Program} {w : World} {A : Around} {E : Value → Shared → Prop} {s : Shared} {K : Frag} {x C : Addr} {ox : Obj}
structure ExcLook (K : Frag) (C : Addr) : Prop where
  ga : findIn K (.ref C) "__getattribute__" = some (some (.builtin "BaseException.__getattribute__"))
  hk : findIn K (.ref C) "__getattr__" = some none
  cl : findIn K (.ref C) "__class__" = some (some (.builtin "object.__class__"))
  gt : specialIn K (.builtin "object.__class__") "__get__" = some (some (.builtin "getset_descriptor.__get__"))
  tk : takesIn K (.builtin "object.__class__") = some true
  mo : mroIn K C (.type "object") = some true
  mb : mroIn K C (.type "BaseException") = some true
open PySem.Builtin PySem.Builtin.ObjectAttr in
theorem looks_data {M : Model} {h : Heap} (X : K.In h) (L : ExcLook K C) : Looks M h (find (.ref x) (.ref C) "__class__") (Found.bind (.builtin "getset_descriptor.__get__") (.builtin "object.__class__")) := by
  have L1 := looks_findIn (M := M) X L.cl
  have L2 : Looks M h (getOf (some (.builtin "object.__class__"))) (some (.builtin "getset_descriptor.__get__")) := looks_specialIn X L.gt
  have L3 := looks_takesIn (M := M) X L.tk
  exact L1.andThen (L2.andThen ((show Looks M h (dataDescriptor? (some (.builtin "object.__class__")) (some (.builtin "getset_descriptor.__get__"))) (some (.builtin "getset_descriptor.__get__", .builtin "object.__class__")) from L3.andThen .now).andThen (Looks.tag .now)))
theorem check_ga {M : Model} {nameV : Value} {Q : Unit → Shared → Prop} {h : Heap} {g : Array GenState} {d : Drawn} {t : Nat} {os : OsState} (X : K.In h) (L : ExcLook K C) (hx : h.get? x = some ox) (hc : ox.cls = .ref C) (hq : Q () ⟨h, g, d, t, os⟩) :
    wpAny M A (checkBuiltinCall "BaseException.__getattribute__" ⟨[.ref x, nameV], []⟩) Q E ⟨h, g, d, t, os⟩ := by
  have hk : builtinKind "BaseException.__getattribute__" = some .slot := by decide +kernel
  have hsplit : splitId "BaseException.__getattribute__" = some ("BaseException", "__getattribute__") := by decide +kernel
  have ha := F.args_bexc_ga (.ref x) nameV
  have LT : Looks M h (typeOf (.ref x)) (.ref C) := hc ▸ (Looks.ld hx).andThen .now
  have LI : Looks M h (isInstance (.ref x) (.type "BaseException")) true := LT.andThen (looks_mroIn X L.mb)
  simp only [checkBuiltinCall, hk, hsplit]
  refine wpAny_bind (LI.at ?_)
  repeat (first | assumption | wp_step)
open PySem.Builtin PySem.Builtin.ObjectAttr PySem.Builtin.Getset_descriptor in
theorem class_getE {tp : Value} {R : Result → Shared → Prop} (X : K.In s.heap) (L : ExcLook K C) (hx : s.heap.get? x = some ox) (hc : ox.cls = .ref C)
    (h : R (.ok (.ret (.ref C))) s) : codeAny (model prog w) A (.call (.builtin "getset_descriptor.__get__") ⟨[.builtin "object.__class__", .ref x, tp], []⟩) R s := by
  obtain ⟨hh, g, dr, t, os⟩ := s
  have L0 : Looks (model prog w) hh (typeOf (.ref x)) (.ref C) := hc ▸ (Looks.ld hx).andThen .now
  have L1 := looks_mroIn (M := model prog w) X L.mo
  refine codeAny_call_builtin KF.slot_gs.plain KF.entry_gs (KF.slot_gs.check _ _ _ _ _ _ _ _ KF.type_class (KF.args_gs _ _ _) ?_)
  unfold Builtin.«getset_descriptor.__get__» descrGet
  rw [dga_obj]
  refine wpAny_bind (wpAny_pure ?_)
  unfold descrGetter descrCheckInstance descrNameAndClass isInstance
  simp only [KF.owner_class]
  repeat lk
  refine ⟨Code.quiet_builtin _ (by decide +kernel), codeAny_builtin KF.entry_class ?_⟩
  unfold Builtin.«object.__class__» shownTypeOf
  repeat lk
  exact h
theorem exc_class {Q : Option Value → Shared → Prop} (X : K.In s.heap) (L : ExcLook K C) (hx : s.heap.get? x = some ox) (hc : ox.cls = .ref C) (h : Q (some (.ref C)) { s with toks := s.toks + 1 }) : wpAny (model prog w) A (getAttr? (.ref x) "__class__") Q E s := by
  obtain ⟨hh, g, d, t, os⟩ := s
  have L0 : Looks (model prog w) hh (typeOf (.ref x)) (.ref C) := hc ▸ (Looks.ld hx).andThen .now
  have L1 := looks_findIn (M := model prog w) X L.ga
  have L2 := looks_findIn (M := model prog w) X L.hk
  unfold getAttr? getAttrBy? getAttrBy
  refine wpAny_bind (wpAny_mkText (wpAny_bind (wpAny_attempt (wpAny_holding (wpAny_bind (L0.at (wpAny_bind (L1.at ?_))))))))
  show wpAny _ _ (getAttrByItsOwn _ _ _ _ _ _) _ _ _
  unfold getAttrByItsOwn hookBefore
  refine wpAny_bind ?_
  show wpAny _ _ (typeLookup (.ref C) "__getattr__") _ _ _
  refine L2.at ?_
  refine wpAny_bind (wpAny_attempt (wpAny_holding ?_))
  show wpAny _ _ (boundAndCalled (.builtin "BaseException.__getattribute__") (.ref x) (.str "__class__" t)) _ _ _
  unfold boundAndCalled
  refine wpAny_bind (wpAny_of_eq (F.excAttr_ValueError.ga.bind (.ref x)) ?_)
  show wpAny _ _ (call (.builtin "BaseException.__getattribute__") [.ref x, .str "__class__" t]) _ _ _
  refine wpAny_call (codeAny_call_builtin F.excAttr_ValueError.ga.plain F.entry_bexc_ga (check_ga (t := t + 1) X L hx hc ?_))
  unfold Builtin.«object.__getattribute__»
  refine wpAny_bind (wpAny_of_eq (a := (Value.ref x, [Value.str "__class__" t])) rfl ?_)
  refine wpAny_bind (wpAny_of_eq (a := Str.ofString "__class__") rfl ?_)
  refine wpAny_bind (L0.at (wpAny_bind ((looks_data X L).at ?_)))
  show wpAny _ _ (holding [.builtin "object.__class__"] (call (.builtin "getset_descriptor.__get__") [.builtin "object.__class__", .ref x, .ref C]) >>= ret) _ _ _
  refine wpAny_bind (wpAny_holding (wpAny_call (class_getE (s := ⟨hh, g, d, t + 1, os⟩) X L hx hc (wpAny_pure ?_))))
  exact handed_on rfl (wpAny_pure h)
end
section
variable {K : Frag} {x C : Addr}
theorem kitx_exc (L : ExcLook K C) : KitX K (.ref x) (.ref C) (fun h => ∃ o, h.get? x = some o ∧ o.cls = .ref C) where
  ty := fun M h _ p => by
    obtain ⟨o, h1, h2⟩ := p
    exact h2 ▸ (Looks.ld h1).andThen .now
  it := fun _ _ X _ => by
    obtain ⟨cd, hcd, _⟩ := Option.bind_eq_some_iff.mp (show (clsIn K C).bind _ = some true from L.mo)
    unfold clsIn at hcd
    split at hcd
    · rename_i c' d' cd' sl' ho
      intro A' Q' E' s' k q
      unfold isType loadHead
      exact wpAny_bind (wpAny_loadPart (k _ _ (X _ _ ho)) (wpAny_pure q))
    · cases hcd
  ne := fun h tp dd its n sl X htp => by
    obtain ⟨cd, hcd, _⟩ := Option.bind_eq_some_iff.mp (show (clsIn K C).bind _ = some true from L.mo)
    refine Bool.eq_false_iff.mpr fun q => ?_
    have e : C = tp := Value.ref.inj (beq_iff_eq.mp q)
    subst e
    unfold clsIn at hcd
    split at hcd
    · rename_i c' d' cd' sl' ho
      have z := (X _ _ ho).symm.trans htp
      cases z
    · cases hcd
  ca := fun X p k => by
    obtain ⟨o, h1, h2⟩ := p
    exact exc_class X L h1 h2 k
end
inductive XTy (K : PySem.W.Frag) (H : Hp) : V → Value → Prop where
  | of {x : V} {t : Value} (h : TyOf K H x t) : XTy K H x t
  | exc {a C : Addr} (L : ExcLook K C) (h : H a = some (excIs a (.ref C))) : XTy K H (.ref a) (.ref C)
section
variable {X : Cx}
theorem call_isinstC : CallR X (.builtin "isinstance") (fun xs H Q => ∃ (x c : V) (u t : Value) (b : Bool), xs = [x, c] ∧ (∀ u', RelV c u' → u' = u) ∧ XTy X.K H x t ∧ kitOne X.K t u = some b ∧ Q (.bl b) H) := by
  intro pins s σ H xs us Q I r h
  obtain ⟨x, c, u, t, b, rfl, hu, ty, e, q⟩ := h
  obtain ⟨u1, u2, rfl, r1, r2⟩ := vals2 r
  have e2 := hu u2 r2
  subst e2
  cases ty with
  | of ty => exact isinst_ok I r1 ty e fun tk => ⟨.bl b, H, I.tok tk, rfl, q⟩
  | @exc a C L hx =>
    cases (show u1 = Value.ref a from r1)
    obtain ⟨⟨o, ho, hc⟩, _, _⟩ := (show ObjOk X.prog X.w H s.heap a (excIs a (.ref C)) from I.hok a _ hx)
    exact kia_one (kitx_exc L) I.kIn ⟨o, ho, hc⟩ e (fun z => nomatch z) fun tk => ⟨.bl b, H, I.tok tk, rfl, q⟩
theorem vals_refs : ∀ {cs : List Addr} {us : List Value}, Vals (cs.map V.ref) us → us = cs.map Value.ref
  | [], _, .nil => rfl
  | c :: cs, _ :: _, .cons r rr => by
    cases (show _ = Value.ref c from r)
    rw [vals_refs rr]
    rfl
theorem call_isinstT : CallR X (.builtin "isinstance") (fun xs H Q => ∃ (x : V) (tp : Addr) (cs : List Addr) (t : Value) (b : Bool), xs = [x, .ref tp] ∧ H tp = some (.tup (cs.map V.ref)) ∧
    ((x = .non ∧ t = .type "NoneType") ∨ ∃ (a C : Addr), x = .ref a ∧ t = .ref C ∧ ExcLook X.K C ∧ H a = some (excIs a (.ref C))) ∧ kitAny X.K t (cs.map Value.ref) = some b ∧ Q (.bl b) H) := by
  intro pins s σ H xs us Q I r h
  obtain ⟨x, tp, cs, t, b, rfl, htp, hx, e, q⟩ := h
  obtain ⟨u1, u2, rfl, r1, r2⟩ := vals2 r
  cases (show u2 = Value.ref tp from r2)
  obtain ⟨_, its, rv, o, ho, hc, n, hd⟩ := (show ObjOk X.prog X.w H s.heap tp (.tup (cs.map V.ref)) from I.hok tp _ htp)
  have ev := vals_refs rv
  subst ev
  obtain ⟨oc, od, oda, osl⟩ := o
  dsimp only at hc hd
  subst hc hd
  rcases hx with ⟨rfl, rfl⟩ | ⟨a, C, rfl, rfl, L, ha⟩
  · cases (show u1 = Value.none from r1)
    exact kia_tup kitx_none I.kIn True.intro ho e (fun z => nomatch z) fun tk => ⟨.bl b, H, I.tok tk, rfl, q⟩
  · cases (show u1 = Value.ref a from r1)
    obtain ⟨⟨o, ho2, hc2⟩, _, _⟩ := (show ObjOk X.prog X.w H s.heap a (excIs a (.ref C)) from I.hok a _ ha)
    exact kia_tup (kitx_exc L) I.kIn ⟨o, ho2, hc2⟩ ho e (fun z => nomatch z) fun tk => ⟨.bl b, H, I.tok tk, rfl, q⟩
end
def PassesG (X : Cx) (G : St → Value → Hp → Prop) : Prop := ∀ (pins : List (Addr × Obj)) (σ : St) (H : Hp) (s : Shared) (e : Value) (s' : Shared), Inv X pins σ H s → CXE X.prog X.w X.stack H s (fun C _ H' => G σ C H') e s' → X.xe e s'
def tFnG (sp : Sp) (G : St → Value → Hp → Prop) (t : TA) : TE := fun σ H Q => t σ H fun vs H1 => sp vs H1 Q fun C _ H' => G σ C H'
section
variable {X : Cx} {k : Nat} {x : Str} {ps : List Str} {sp : Sp} {p pos : Pos} {e : Expr} {es : List Expr} {t : TA} {G : St → Value → Hp → Prop}
theorem pe_fnG (F : FnE X.prog X.w X.K X.mg X.base k x ps sp) (hr : Room k X.A) (hg : Gl X x) (hx : PassesG X G) (ha : PA X (e :: es) t) (hdb : (x == ("__debug__" : Str)) = false := by decide)
    (he : starEach (e :: es) X.env = (false, eval e X.env) :: starEach es X.env := by rfl) (hpl : (backTo pos (starEach es X.env)).any (·.1) = false := by rfl) :
    PE X (.Call (.Name x p) (e :: es) [] pos) (tFnG sp G t) := by
  obtain ⟨f, fd, F, kp, b, m⟩ := F
  intro pins s σ H Q I h
  refine wpAny_Call_Name_kw (ld_glob I hg m ?_ hdb)
  refine PySem.W.callWith_K (h₀ := X.base) I.ok.mod.kin kp (thn (ha pos pins s σ H _ I h) fun us s1 ⟨vs, H1, I1, r, q⟩ => ⟨I1.kIn, ?_⟩) he hpl
  have hl : us.length = ps.length := by rw [← r.length]; exact F.len _ _ _ _ q
  have bb := b s1 us I1.kIn (by rw [List.append_nil]; exact hl)
  rw [List.append_nil] at bb
  refine wpAny_call (codeAny_mono (F.run X.A X.stack s1 H1 ⟨us, []⟩ us vs Q _ hr I1.env0 bb r q) fun rr s' hq => ?_)
  cases rr with
  | error e => exact hx pins σ H1 s1 e s' I1 hq
  | ok fl =>
    cases fl with
    | ret u => exact I1.after hq
    | next => exact False.elim hq
    | brk => exact False.elim hq
    | cont => exact False.elim hq
end
theorem passesE {P : Program} {w : World} {K : PySem.W.Frag} {mg : Str → Option Value} {base : Heap} {N : List Str} {qual : Str} {scope : Scope} {f : Addr} {cdv : Value} {A : Around} {outer : List Env} {s : Shared} {H : Hp} {E : XK} :
    PassesG (cxOf (CXE P w) P w K mg base N qual scope f cdv A outer s H E) (fun _ C H' => E C none H') :=
  fun _ _ _ _ _ _ I h => xe_pass (x := 0) I h fun _ _ z => z
abbrev Cx.pinned (X : Cx) (pn : List (Addr × Obj)) : Cx := { X with pn := pn }
theorem Inv.intoPn {X : Cx} {pins : List (Addr × Obj)} {σ : St} {H : Hp} {s : Shared} (I : Inv X pins σ H s) : Inv (X.pinned (X.pn ++ pins)) [] σ H s :=
  ⟨⟨I.ok.mod, I.ok.kind, I.ok.glob, I.ok.blt, I.ok.above, I.ok.inj, I.ok.has, I.ok.cab, I.ok.hd, I.ok.frames, I.ok.stk, I.ok.exf, I.ok.bs, I.ok.bsz, I.ok.noex, I.ok.exfs, I.ok.funs, I.ok.frf⟩, I.os, I.bare, I.base, I.loc, I.cell, I.free, I.freeC, fun p hp => I.pin p (by rw [List.append_nil] at hp; exact hp), I.hok, I.len⟩
theorem Inv.outPn {X : Cx} {pins pins1 : List (Addr × Obj)} {σ : St} {H : Hp} {s : Shared} (I : Inv (X.pinned (X.pn ++ pins)) pins1 σ H s) : Inv X pins σ H s :=
  ⟨⟨I.ok.mod, I.ok.kind, I.ok.glob, I.ok.blt, I.ok.above, I.ok.inj, I.ok.has, I.ok.cab, I.ok.hd, I.ok.frames, I.ok.stk, I.ok.exf, I.ok.bs, I.ok.bsz, I.ok.noex, I.ok.exfs, I.ok.funs, I.ok.frf⟩, I.os, I.bare, I.base, I.loc, I.cell, I.free, I.freeC, fun p hp => I.pin p (List.mem_append_left _ hp), I.hok, I.len⟩
theorem excMatches_base {M : Model} {A : Around} {E : Value → Shared → Prop} {h : Heap} {g : Array GenState} {d : Drawn} {t : Nat} {os : OsState} {x C CB : Addr} {ox : Obj} {bm bm2 : List Value} {Q : Bool → Shared → Prop} (hC : IsExcCls h C bm) (hB : IsExcCls h CB bm2) (hx : h.get? x = some ox) (hxc : ox.cls = .ref C)
    (hm : (Value.ref C :: bm).contains (.ref CB) = true) (hq : Q true ⟨h, g, d, t, os⟩) : wpAny M A (excMatches (.ref x) (.ref CB)) Q E ⟨h, g, d, t, os⟩ := by
  obtain ⟨N, nm, q, bs, hdct, sn, sub, ab, col, dd, k0, k1, k2, k3, k5, newId, hC, hb⟩ := hC
  obtain ⟨N', nm', q', bs', hdct', sn', sub', ab', col', dd', k0', k1', k2', k3', k5', newId', hB, hb'⟩ := hB
  have hcB : (Value.ref CB :: bm2).contains (.type "BaseException") = true := by rw [List.contains_cons, hb', Bool.or_true]
  have f := tc_notTuple
  unfold excMatches
  repeat (first | (with_reducible refine wpAny_loadPart_at hx ?_; rw [hxc]) | with_reducible refine wpAny_loadPart_at hB ?_ | (with_reducible refine wpAny_isSubtype_exc hB ?_; rw [hcB]) | (with_reducible refine wpAny_isSubtype_exc hC ?_; rw [hm]) | wp_step)
  exact hq
def tTryG (K : PySem.W.Frag) (CB : Addr) (i : Nat) (tb : (St → Value → Hp → Prop) → TS) (t2 : TS) : TS := fun D σ H => tb (fun σ1 Cv H' => ∃ (C : Addr) (bmB : List Value) (newId : String), Cv = .ref C ∧ PySem.W.excIn K C bmB newId = true ∧ bmB.contains (.type "BaseException") = true ∧ PySem.W.mroIn K C (.ref CB) = some true ∧
  ∀ x, H' x = none → t2 { nx := fun σ3 H3 => D.nx ((σ3.set i (some .non)).set i none) H3, rt := fun _ _ => False } (σ1.set i (some (.ref x))) (upd H' x (excIs x (.ref C)))) D σ H
theorem ps_tryG {X : Cx} {n xn : Str} {tb : (St → Value → Hp → Prop) → TS} {t2 : TS} {CB : Addr} {i : Nat} {body : List Stmt} {b2 : Stmt} {bs2 : List Stmt} {np pos2 pos : Pos} {bmC : List Value} {idC : String}
    (hst : X.stack = X.env :: X.outer) (hfr : X.env.frame = some X.env.locals) (hN : X.N.Nodup) (hi : X.N[i]? = some n) (hl : X.env.scope.names.lookup n = some .local) (hkl : X.env.kindOf n = some .local)
    (hgC : Gl X xn) (hmC : X.mg xn = some (.ref CB)) (hqB : PySem.W.excIn X.K CB bmC idC = true) (hbB : bmC.contains (.type "BaseException") = true)
    (hb : ∀ (pn : List (Addr × Obj)) (xe : Value → Shared → Prop) (G : St → Value → Hp → Prop), PassesG ((X.pinned pn).wish xe) G → PSs ((X.pinned pn).wish xe) body (tb G)) (hb2 : ∀ x, PSs (X.inX x) (b2 :: bs2) t2)
    (hdC : (xn == ("__debug__" : Str)) = false := by decide) :
    PS X.nox (.Try body [.ExceptHandler (some (.Name xn np)) (some n) (b2 :: bs2) pos2] [] [] pos) (tTryG X.K CB i tb t2) := by
  intro pins s σ H D I h
  have I0 : Inv X pins σ H s := I.unwish
  refine wpAny_Try_except (wpAny_mono (hb (X.pn ++ pins) (fun e s' => ∃ (pins1 : List (Addr × Obj)) (σ1 : St) (H1 : Hp) (s1 : Shared), Inv (X.pinned (X.pn ++ pins)) pins1 σ1 H1 s1 ∧ CXE X.prog X.w X.stack H1 s1 (fun Cv _ H' => ∃ (C : Addr) (bmB : List Value) (newId : String), Cv = .ref C ∧ PySem.W.excIn X.K C bmB newId = true ∧ bmB.contains (.type "BaseException") = true ∧ PySem.W.mroIn X.K C (.ref CB) = some true ∧
      ∀ x, H' x = none → t2 { nx := fun σ3 H3 => D.nx ((σ3.set i (some .non)).set i none) H3, rt := fun _ _ => False } (σ1.set i (some (.ref x))) (upd H' x (excIs x (.ref C)))) e s') _ (fun pins1 σ1 H1 s1 e s' I1 z => ⟨pins1, σ1, H1, s1, I1.unwish, z⟩) [] s σ H D (I0.intoPn.wish _) h) (fun fl s1 x => ?_) fun e s' x => ?_)
  · cases fl with
    | next =>
      obtain ⟨σ', H', I', q⟩ := x
      exact wpAny_execs_nil ⟨σ', H', I'.unwish.outPn.wish _, q⟩
    | brk =>
      obtain ⟨σ', H', I', q⟩ := x
      exact ⟨σ', H', I'.unwish.outPn.wish _, q⟩
    | cont =>
      obtain ⟨σ', H', I', q⟩ := x
      exact ⟨σ', H', I'.unwish.outPn.wish _, q⟩
    | ret u =>
      obtain ⟨v, σ', H', I', r, q⟩ := x
      exact ⟨v, σ', H', I'.unwish.outPn.wish _, r, q⟩
  · obtain ⟨pins1, σ1, H1, s1, I1', x, Cv, a0, H', B, rfl, os, bare, fl, st, xn', xh, C, bmB, newId, rfl, hq, hbase, hmro, q2⟩ := x
    have I1 : Inv X pins σ1 H1 s1 := I1'.outPn
    have fl' : Heap.FlyingW B (X.env :: X.outer) x (.ref C) a0 s'.heap := by rw [← hst]; exact fl
    have hfs : X.A.frames = some (X.env :: X.outer) := by rw [← hst]; exact I.ok.frames
    refine wpAny_looks_onW hfs hfr fl' fun h₄ held up4 => wpAny_landsW held fun h₅ fl5 up5 => ?_
    have u05 := up4.trans up5
    obtain ⟨un5, ok5⟩ := st h₅ fl5.1 u05
    have I5 : Inv X pins σ1 H' { s' with heap := h₅ } := I1.call' (ch := []) os un5 ok5 bare (fun b z => absurd z (by simp))
    obtain ⟨ob, hob, hobc⟩ := fl5.there
    obtain ⟨bm, N', nm, qn, bs, hdct, sn, sub, ab, col, dd, k0, k1, k2, k3, k5, mN, hC, hNs, hni, TL, mro⟩ := own_obj I5.kIn hq
    obtain ⟨bm', N'', nm', qn', bs', hdct', sn', sub', ab', col', dd', k0', k1', k2', k3', k5', mN', hB', hNs', hni', TL', mro'⟩ := own_obj I5.kIn hqB
    refine wpAny_handleBy_cons (codeAny_handlers_test (Calls.Name_function_global I.ok.kind hgC (Calls.loadGlobal_global (by rw [I.ok.glob]; exact (I.ok.mod.glob.keeps fun b o e => I5.bk b o e)) hmC ?_) hdC)) (by intro q; cases q)
    refine excMatches_base ⟨N', nm, qn, bs, hdct, sn, sub, ab, col, dd, k0, k1, k2, k3, k5, newId, hC, TL.hasType hbase⟩ ⟨N'', nm', qn', bs', hdct', sn', sub', ab', col', dd', k0', k1', k2', k3', k5', _, hB', TL'.hasType hbB⟩ hob hobc (mro _ _ hmro) (codeAny_handlers_suite_as ?_)
    refine lands_againW fl5 fun h₇ fl7 up7 => ?_
    obtain ⟨un7, ok7⟩ := st h₇ fl7.1 (u05.trans up7)
    obtain ⟨ob7, hob7, hc7⟩ := fl7.there
    have I7 : Inv X.nox pins σ1 (upd H' x (excIs x (.ref C))) { s' with heap := h₇ } := caught_inv (I1.wish _) os bare un7 ok7 xn' xh hob7 hc7
    refine store_ok I7 hN hi (.inl hl) (v := .ref x) rfl (fun s8 I8 => ?_) (.inr hl)
    refine wpAny_mono (hb2 x pins s8 _ _ _ (I8.unwish.inX x) (q2 x xh)) (fun fl9 s9 x9 => ?_) fun _ _ z => False.elim z
    have hh : X.nox.calm = true → X.nox.A.handled = none := I.ok.hd
    cases fl9 with
    | next =>
      obtain ⟨σ3, H3, I9, q9⟩ := x9
      have I9' : Inv X.nox pins σ3 H3 s9 := (Inv.outX (X := X) hh I9).wish _
      have hi3 : i < σ3.length := by rw [I9'.len]; exact (List.getElem?_eq_some_iff.mp hi).1
      refine wpAny_bind (wpAny_bindName (store_ok I9' hN hi (.inl hl) (v := .non) (u := .none) rfl (fun s10 I10 => ?_) (.inr hl)))
      unfold unbindBehindTheSuite
      exact wpAny_onRaise (unbind_ok I10 hN hi hkl hl (List.getElem?_set_self hi3) fun s11 I11 => ⟨_, _, I11, q9⟩)
    | ret u => obtain ⟨_, _, _, _, _, z⟩ := x9; exact False.elim z
    | brk => obtain ⟨_, _, _, z⟩ := x9; exact False.elim z
    | cont => obtain ⟨_, _, _, z⟩ := x9; exact False.elim z
end L2
namespace Bw
open PySem L2
open Builtin.Int (intBits)
def top (i : Nat) : Stmt := PySem.Challenge.pw_bellwrite_k76_readings_not_unkeyed.main.body.getD i (.Pass ⟨0, 0, 0, 0⟩)
abbrev st_choose : Stmt := top 1
abbrev st_box_of : Stmt := top 12
abbrev st_heard_box : Stmt := top 13
abbrev st_box_count : Stmt := top 14
abbrev st_greatest_part : Stmt := top 15
abbrev st_box_number : Stmt := top 17
abbrev st_read : Stmt := top 18
abbrev st_unkeyed : Stmt := top 20
abbrev st__law_cell : Stmt := top 22
abbrev st__law_drawn : Stmt := top 23
abbrev st__law_reading : Stmt := top 24
abbrev st__law_choices : Stmt := top 25
abbrev st__law_due : Stmt := top 26
abbrev st_law : Stmt := top 27
structure Txt (K : PySem.W.Frag) (mg : Str → Option Value) : Prop where
  z_range : mg "range" = none
  z_isinstance : mg "isinstance" = none
  z_int : mg "int" = none
  z_bool : mg "bool" = none
  z_list : mg "list" = none
  z_len : mg "len" = none
  z_max : mg "max" = none
  z_min : mg "min" = none
  z_sorted : mg "sorted" = none
  z_sum : mg "sum" = none
  z_enumerate : mg "enumerate" = none
  z_ValueError : mg "ValueError" = none
def cellOf (ns : List Int) (k : Int) : Int := ns.getD k.toNat 0
def spCell (K : PySem.W.Frag) : Sp := fun vs H Q _ => ∃ (a : Addr) (ns : List Int) (k : Int), vs = [.ref a, .int k] ∧ SqL K H a (ns.map V.int) ∧ 0 ≤ k ∧ Q (.int (cellOf ns k)) H
structure RowL (row : List Int) : Prop where
  inc : row.Pairwise (· < ·)
  nn : ∀ x ∈ row, 0 ≤ x
  sz : ∀ x ∈ row, x < 2 ^ 200
theorem at_map {ns : List Int} {k : Nat} {x : Int} (h : ns[k]? = some x) : atI (ns.map V.int) (k : Int) = some (V.int x) := atI_nat (by rw [List.getElem?_map, h]; rfl)
def cutI (ns : List Int) (lo hi : Option Int) : List Int := (ns.drop (HT.sIx ns.length 0 lo)).take (HT.sIx ns.length ns.length hi - HT.sIx ns.length 0 lo)
theorem cut_map (ns : List Int) (lo hi : Option Int) : cutV (ns.map V.int) lo hi = (cutI ns lo hi).map V.int := by
  unfold cutV cutI
  rw [List.length_map, List.map_take, List.map_drop]
theorem cutI_len (ns : List Int) (lo hi : Option Int) : (cutI ns lo hi).length ≤ ns.length := by
  have := cutV_length (ns.map V.int) lo hi
  rwa [cut_map, List.length_map, List.length_map] at this
abbrev bmV : List Value := [.type "ValueError", .type "Exception", .type "BaseException", .type "object"]
section
variable {P : Program} {w : World} {K : PySem.W.Frag} {mg : Str → Option Value} {base : Heap}
theorem sc__law_cell : FnScope ["script", "k"] ["script", "k"] (defScope st__law_cell) := ⟨rfl, rfl, rfl, by decide +kernel, rfl, by decide +kernel, by decide +kernel⟩
theorem ok_cell (D : Def K mg "_law_cell" st__law_cell ["script", "k"]) (T : Txt K mg) : Fn P w K mg base 1 "_law_cell" ["script", "k"] (spCell K) := by
  refine D.fn sc__law_cell (fun vs H Q E h => ?_) (fun f cdv A outer s H vs Q E hr h => ?_)
  · obtain ⟨n, k, c, rfl, _⟩ := h
    rfl
  · obtain ⟨a, ns, k, rfl, hS, k0, q⟩ := h
    refine ⟨_, (pss_cons (ps_if (pt_cmpR op_ltI (pv 1) (pe_callB call_len_seq (by rfl) T.z_len b_len (pa_cons (pv 0) pa_nil)) (nomark _))
        (pss_one (ps_ret (pe_ix ix_list (pv 0) (pv 1) (fun _ _ => rfl))))
        pss_nil)
      (pss_one (ps_ret pe_int))), ?_⟩
    refine ⟨_, rfl, _, rfl, _, _, rfl, .inl hS, _, _, rfl, rfl, _, rfl, ?_⟩
    rw [List.length_map]
    refine ifD (fun h => ?_) (fun h => ?_)
    · have hk : k.toNat < ns.length := by omega
      have e : atI (ns.map V.int) k = some (V.int (cellOf ns k)) := by
        have := at_map (ns := ns) (k := k.toNat) (x := cellOf ns k) (by unfold cellOf; rw [List.getD_eq_getElem?_getD, List.getElem?_eq_getElem hk]; rfl)
        rwa [show ((k.toNat : Nat) : Int) = k by omega] at this
      exact ⟨_, rfl, _, rfl, _, _, _, _, rfl, rfl, hS, e, q⟩
    · have e : cellOf ns k = 0 := by
        unfold cellOf
        rw [List.getD_eq_getElem?_getD, List.getElem?_eq_none (by omega)]
        rfl
      rw [e] at q
      exact q
end
section
variable {P : Program} {w : World} {K : PySem.W.Frag} {mg : Str → Option Value} {base : Heap}
def spDrawn : Sp := fun vs H Q _ => ∃ c few many : Int, vs = [.int c, .int few, .int many] ∧ 0 < few ∧ 0 < many ∧ ∀ d : Int, 0 ≤ d → (d < few ∨ d < many) → Q (.int d) H
theorem sc__law_drawn : FnScope ["cell", "few", "many"] ["cell", "few", "many"] (defScope st__law_drawn) := ⟨rfl, rfl, rfl, by decide +kernel, rfl, by decide +kernel, by decide +kernel⟩
theorem ok_drawn (D : Def K mg "_law_drawn" st__law_drawn ["cell", "few", "many"]) (T : Txt K mg) : Fn P w K mg base 1 "_law_drawn" ["cell", "few", "many"] spDrawn := by
  refine D.fn sc__law_drawn (fun vs H Q E h => ?_) (fun f cdv A outer s H vs Q E hr h => ?_)
  · obtain ⟨c, few, many, rfl, _⟩ := h
    rfl
  · obtain ⟨c, few, many, rfl, f0, m0, q⟩ := h
    refine ⟨_, (pss_cons (ps_if (pt_cmpR op_eqI (pe_op op_modB (pv 0) pe_int) pe_int (nomark _))
        (pss_one (ps_ret (pe_op op_modB (pe_op op_fdivB (pv 0) pe_int) (pv 1))))
        pss_nil)
      (pss_cons (ps_if (pt_cmpR op_eqI (pe_op op_modB (pv 0) pe_int) pe_int (nomark _))
        (pss_one (ps_ret (pe_op op_modB (pe_op op_fdivB (pv 0) pe_int) (pe_callB (call_min2 rfl) (by rfl) T.z_min b_min (pa_cons pe_int (pa_cons (pv 2) pa_nil))))))
        pss_nil)
      (pss_one (ps_ret (pe_op op_modB (pe_op op_mulB (pe_op op_modB (pe_op op_fdivB (pv 0) pe_int) (pe_op op_powB pe_int pe_int)) pe_int) (pv 2)))))), ?_⟩
    refine ⟨_, rfl, _, _, rfl, rfl, (by decide), _, _, rfl, rfl, _, rfl, ifD (fun _ => ?_) (fun _ => ⟨_, rfl, _, _, rfl, rfl, (by decide), _, _, rfl, rfl, _, rfl, ifD (fun _ => ?_) (fun _ => ?_)⟩)⟩
    · exact ⟨_, rfl, _, _, rfl, rfl, ⟨by decide, by decide⟩, _, rfl, _, _, rfl, rfl, f0, q _ (Int.emod_nonneg _ (by omega)) (.inl (Int.emod_lt_of_pos _ f0))⟩
    · have m1 : 0 < (if many < 100 then many else (100 : Int)) := by split <;> omega
      refine ⟨_, rfl, _, _, rfl, rfl, ⟨by decide, by decide⟩, _, rfl, _, _, rfl, _, _, rfl, rfl, m1, q _ (Int.emod_nonneg _ (by omega)) (.inr ?_)⟩
      have := Int.emod_lt_of_pos (c / 4) m1
      split at this <;> split <;> omega
    · have h0 := Int.emod_nonneg (c / 4) (show (10 : Int) ^ (60 : Int).toNat ≠ 0 by decide)
      have h1 := Int.emod_lt_of_pos (c / 4) (show (0 : Int) < 10 ^ (60 : Int).toNat by decide)
      have h2 : (10 : Int) ^ (60 : Int).toNat < 2 ^ 200 := by decide
      refine ⟨_, rfl, _, _, rfl, rfl, ⟨by decide, by decide⟩, _, _, rfl, rfl, ⟨by decide, by decide, by decide⟩, _, _, rfl, rfl, (by decide), _, _, rfl, rfl, ⟨200, 200, bits_of h0 (Int.lt_trans h1 h2), by decide, by decide⟩, _, rfl, _, _, rfl, rfl, m0, q _ (Int.emod_nonneg _ (by omega)) (.inr (Int.emod_lt_of_pos _ m0))⟩
end
section
def spLaw (K : PySem.W.Frag) : Sp := fun vs H Q _ => ∃ (a : Addr) (ns : List Int), vs = [.ref a] ∧ SqL K H a (ns.map V.int) ∧ ns.length ≤ 63 ∧ ∀ H', Q (.bl true) H'
end
theorem bits_div {a b : Int} {m : Nat} (h : intBits a ≤ m) (hb : 0 < b) : intBits (a / b) ≤ m := by
  refine intBits_le_of_natAbs (y := a) ?_ h
  rcases (by omega : 0 ≤ a ∨ a < 0) with z | z
  · have h1 := Int.ediv_nonneg z (by omega : 0 ≤ b)
    have h2 := Int.ediv_le_self b z
    omega
  · have h1 := Int.ediv_neg_of_neg_of_pos z hb
    have h2 : a ≤ a / b := by
      refine (Int.le_ediv_iff_mul_le hb).mpr ?_
      have := Int.mul_le_mul_of_nonpos_left (a := a) (b := b) (c := 1) (by omega) (by omega)
      omega
    omega
theorem rng_fit {b c : Int} (h : 0 < b ∧ b < 100000) (hc : 0 < c ∧ c < 100000) : Builtin.Range.small 0 b c = true := by
  have d0 : 0 ≤ (b - 0 - 1) / c := Int.ediv_nonneg (by omega) (by omega)
  have d1 : (b - 0 - 1) / c ≤ b - 0 - 1 := Int.ediv_le_self c (by omega)
  unfold Builtin.Range.small Builtin.Range.rangeSize
  simp only [Builtin.Range.rangeFitsLong]
  rw [if_pos hc.1, if_pos h.1]
  generalize hq : (b - 0 - 1) / c = q at d0 d1 ⊢
  simp
  rw [if_pos hc.1]
  omega
theorem rng_ok {n : Nat} {c : Int} (hn : n ≤ 1000) (hc : 0 < c ∧ c < 1000) : ∃ m : Nat, c ≠ 0 ∧ c.natAbs < 1073741824 ∧ Builtin.Range.small 0 (if (n : Int) > 1 then (n : Int) else 1) c = true ∧ Builtin.Range.rangeSize 0 (if (n : Int) > 1 then (n : Int) else 1) c = (m : Int) := by
  generalize hb : (if (n : Int) > 1 then (n : Int) else 1) = b
  have hb1 : 0 < b ∧ b < 100000 := by split at hb <;> omega
  have d0 : 0 ≤ (b - 0 - 1) / c := Int.ediv_nonneg (by omega) (by omega)
  refine ⟨(Builtin.Range.rangeSize 0 b c).toNat, by omega, by omega, rng_fit hb1 ⟨hc.1, by omega⟩, ?_⟩
  unfold Builtin.Range.rangeSize
  rw [if_pos hc.1, if_pos hb1.1]
  omega
section
variable {P : Program} {w : World} {K : PySem.W.Frag} {mg : Str → Option Value} {base : Heap}
theorem sc_choose : FnScope ["n", "k", "ways", "taken"] ["n", "k"] (defScope st_choose) := ⟨rfl, rfl, rfl, by decide +kernel, rfl, by decide +kernel, by decide +kernel⟩
theorem ok_choose (D : Def K mg "choose" st_choose ["n", "k"]) (T : Txt K mg) : Fn P w K mg base 1 "choose" ["n", "k"] spChoose := by
  refine D.fn sc_choose (fun vs H Q E h => ?_) (fun f cdv A outer s H vs Q E hr h => ?_)
  · obtain ⟨n, k, rfl, _⟩ := h
    rfl
  · obtain ⟨n, k, rfl, hn, hk, hk2, hb, q⟩ := h
    refine ⟨_, (pss_cons (ps_if (pt_cmpR op_gtI (pv 1) (pv 0) (nomark _))
        (pss_one (ps_ret pe_int))
        pss_nil)
      (pss_cons (ps_set (i := 2) sc_choose.nd rfl (Or.inl rfl) pe_int)
      (pss_cons (ps_for PassesOwn.never rfl (pi_range1 (by rfl) T.z_range (pa_cons (pv 1) pa_nil)) (pg_name (i := 3) sc_choose.nd rfl (Or.inl rfl))
        (pss_one (ps_set (i := 2) sc_choose.nd rfl (Or.inl rfl) (pe_op op_fdivB (pe_op op_mulB (pv 2) (pe_op op_subI (pv 0) (pv 3))) (pe_op op_addI (pv 3) pe_int)))))
      (pss_one (ps_ret (pv 2)))))), ?_⟩
    refine ⟨_, rfl, _, rfl, _, _, rfl, rfl, _, rfl, ?_⟩
    refine ite2 (fun h => ?_) (fun h => ?_)
    · have h' : n < k := of_decide_eq_true h
      have e := ch_above hn h'
      rw [e] at q
      exact q
    · have h' : ¬ n < k := fun z => h (decide_eq_true z)
      refine ⟨_, rfl, k, rfl, by omega, by omega, for_range (n := k.toNat) (fun i σ H' => ∃ v, σ = [some (.int n), some (.int k), some (.int (ch n i)), v] ∧ H' = H) ⟨none, ?_, rfl⟩ ?_ ?_⟩
      · have e := ch_zero n
        show _ = [some (V.int n), some (V.int k), some (V.int (ch n 0)), none]
        rw [e]
        rfl
      · rintro i σ H' hi ⟨v, rfl, rfl⟩
        have hi' : (i : Int) < k := by omega
        refine ⟨_, rfl, _, rfl, _, rfl, _, _, rfl, rfl, _, _, rfl, rfl, ?_, _, rfl, _, _, rfl, rfl, _, _, rfl, rfl, ?_, ?_⟩
        · refine ⟨100000 * i + 1, 100000, bits_ch hb hn, ?_, by omega⟩
          exact intBits_le_of_natAbs (by omega) hb
        · exact ⟨by omega, bits_of (by omega) (by omega)⟩
        · have e := ch_step (n := n) (i := i) (by omega)
          have e0 : (0 : Int) + (i : Int) = (i : Int) := by omega
          refine ⟨some (.int (0 + (i : Int))), ?_, rfl⟩
          rw [e0, e]
          rfl
      · rintro σ H' ⟨v, rfl, rfl⟩
        refine ⟨_, rfl, ?_⟩
        have e : ((k.toNat : Nat) : Int) = k := by omega
        rw [e]
        exact q
end
theorem ch_step0 {n : Int} (hn : 0 ≤ n) (i : Nat) : ch n i * (n - i) / ((i : Int) + 1) = ch n ((i : Int) + 1) := by
  rcases (by omega : (i : Int) ≤ n ∨ n < (i : Int)) with z | z
  · exact ch_step z
  · rw [ch_above hn z, ch_above hn (by omega), Int.zero_mul, Int.zero_ediv]
section
variable {P : Program} {w : World} {K : PySem.W.Frag} {mg : Str → Option Value} {base : Heap}
theorem sc__law_choices : FnScope ["n", "k", "one", "step"] ["n", "k"] (defScope st__law_choices) := ⟨rfl, rfl, rfl, by decide +kernel, rfl, by decide +kernel, by decide +kernel⟩
theorem ok_choices (D : Def K mg "_law_choices" st__law_choices ["n", "k"]) (T : Txt K mg) : Fn P w K mg base 1 "_law_choices" ["n", "k"] spChoose := by
  refine D.fn sc__law_choices (fun vs H Q E h => ?_) (fun f cdv A outer s H vs Q E hr h => ?_)
  · obtain ⟨n, k, rfl, _⟩ := h
    rfl
  · obtain ⟨n, k, rfl, hn, hk, hk2, hb, q⟩ := h
    refine ⟨_, (pss_cons (ps_set (i := 2) sc__law_choices.nd rfl (Or.inl rfl) pe_int)
      (pss_cons (ps_for PassesOwn.never rfl (pi_range1 (by rfl) T.z_range (pa_cons (pv 1) pa_nil)) (pg_name (i := 3) sc__law_choices.nd rfl (Or.inl rfl))
        (pss_one (ps_set (i := 2) sc__law_choices.nd rfl (Or.inl rfl) (pe_op op_fdivB (pe_op op_mulB (pv 2) (pe_op op_subI (pv 0) (pv 3))) (pe_op op_addI (pv 3) pe_int)))))
      (pss_one (ps_ret (pv 2))))), ?_⟩
    refine ⟨_, rfl, k, rfl, by omega, by omega, for_range (n := k.toNat) (fun i σ H' => ∃ v, σ = [some (.int n), some (.int k), some (.int (ch n i)), v] ∧ H' = H) ⟨none, ?_, rfl⟩ ?_ ?_⟩
    · have e := ch_zero n
      show _ = [some (V.int n), some (V.int k), some (V.int (ch n 0)), none]
      rw [e]
      rfl
    · rintro i σ H' hi ⟨v, rfl, rfl⟩
      have hi' : (i : Int) < k := by omega
      refine ⟨_, rfl, _, rfl, _, rfl, _, _, rfl, rfl, _, _, rfl, rfl, ?_, _, rfl, _, _, rfl, rfl, _, _, rfl, rfl, ?_, ?_⟩
      · refine ⟨100000 * i + 1, 100001, bits_ch hb hn, ?_, by omega⟩
        exact bits_mono (intBits_sub_le (m := 100000) (n := 64) hb (bits_of (by omega) (by omega))) (by decide)
      · exact ⟨by omega, bits_of (by omega) (by omega)⟩
      · have e := ch_step0 hn i
        have e0 : (0 : Int) + (i : Int) = (i : Int) := by omega
        refine ⟨some (.int (0 + (i : Int))), ?_, rfl⟩
        rw [e0, e]
        rfl
    · rintro σ H' ⟨v, rfl, rfl⟩
      refine ⟨_, rfl, ?_⟩
      have e : ((k.toNat : Nat) : Int) = k := by omega
      rw [e]
      exact q
end
def boxL (late : Int) (ns : List Int) : List Int := (List.range ns.length).map fun i => (ns.getD i 0 - (i : Int)) / (late + 1)
theorem boxL_length (late : Int) (ns : List Int) : (boxL late ns).length = ns.length := by unfold boxL; simp
theorem boxL_get {late : Int} {ns : List Int} {i : Nat} {x : Int} (h : ns[i]? = some x) : (boxL late ns)[i]? = some ((x - (i : Int)) / (late + 1)) := by
  have hi := (List.getElem?_eq_some_iff.mp h).1
  unfold boxL
  rw [List.getElem?_map, List.getElem?_range hi]
  simp [List.getD_eq_getElem?_getD, h]
theorem boxL_get' {late : Int} {ns : List Int} {i : Nat} {y : Int} (h : (boxL late ns)[i]? = some y) : ∃ x, ns[i]? = some x ∧ y = (x - (i : Int)) / (late + 1) := by
  have hi := (List.getElem?_eq_some_iff.mp h).1
  rw [boxL_length] at hi
  have g := boxL_get (late := late) (List.getElem?_eq_getElem hi)
  rw [g] at h
  exact ⟨_, List.getElem?_eq_getElem hi, (Option.some.inj h).symm⟩
structure BoxL (bs : List Int) : Prop where
  inc : bs.Pairwise (· ≤ ·)
  nn : ∀ x ∈ bs, 0 ≤ x
  sz : ∀ x ∈ bs, x < 2 ^ 200
def Szs (m : Nat) (ns : List Int) : Prop := ∀ x ∈ ns, intBits x ≤ m
theorem BoxL.szs {bs : List Int} (h : BoxL bs) : Szs 200 bs := fun x hx => bits_of (h.nn x hx) (h.sz x hx)
theorem RowL.szs {bs : List Int} (h : RowL bs) : Szs 200 bs := fun x hx => bits_of (h.nn x hx) (h.sz x hx)
section
variable {P : Program} {w : World} {K : PySem.W.Frag} {mg : Str → Option Value} {base : Heap}
def spBoxOf (K : PySem.W.Frag) : Sp := fun vs H Q _ => ∃ (a : Addr) (ns : List Int) (late : Int), vs = [.ref a, .int late] ∧ SqL K H a (ns.map V.int) ∧ ns.length ≤ 1000 ∧ 0 ≤ late ∧ intBits late ≤ 8000 ∧
  ∀ (p : Addr) (H' : Hp), Same H H' → H p = none → H' p = some (.lst ((boxL late ns).map V.int)) → Q (.ref p) H'
end
section
variable {P : Program} {w : World} {K : PySem.W.Frag} {mg : Str → Option Value} {base : Heap}
theorem sc_box_of : FnScope ["row", "late"] ["row", "late"] (defScope st_box_of) := ⟨rfl, rfl, rfl, by decide +kernel, rfl, by decide +kernel, by decide +kernel⟩
theorem ok_box_of (D : Def K mg "box_of" st_box_of ["row", "late"]) (T : Txt K mg) : Fn P w K mg base 1 "box_of" ["row", "late"] (spBoxOf K) := by
  refine D.fn sc_box_of (fun vs H Q E h => ?_) (fun f cdv A outer s H vs Q E hr h => ?_)
  · obtain ⟨a, ns, late, rfl, _⟩ := h
    rfl
  · obtain ⟨a, ns, late, rfl, hA, hl, l0, lb, q⟩ := h
    refine ⟨_, (pss_one (ps_ret (pe_comp (own := ["place", "turn"]) (fr := ["late"]) (ix := [1]) rfl ⟨rfl, rfl, rfl, rfl, rfl, rfl⟩ (pi_enumL (by rfl) T.z_enumerate (pa_cons (pv 0) pa_nil)) (fun _ _ _ _ _ => (pg_tupK K (n := 2) rfl (pgs_cons (pg_name (i := 0) (show (["place", "turn", "late"] : List Str).Nodup by decide +kernel) rfl (Or.inl rfl)) (pgs_cons (pg_name (i := 1) (show (["place", "turn", "late"] : List Str).Nodup by decide +kernel) rfl (Or.inl rfl)) pgs_nil)))) (fun _ _ _ _ _ => pts_nil) (fun _ _ _ _ _ => (pe_op op_fdivB (pe_op op_subI (pv 1) (pv 0)) (pe_op op_addI (pv 2) pe_int)))))), ?_⟩
    have lb1 : intBits (late + 1) ≤ 9000 := bits_mono (intBits_add_le (m := 8000) (n := 1) lb (by decide)) (by decide)
    refine ⟨_, rfl, a, _, rfl, hA, fun acc hacc => comp_enumP (K := K) (a := a) (xs := ns.map V.int) (fun i => V.int ((ns.getD i 0 - (i : Int)) / (late + 1))) hA hacc ?_ ?_ ?_⟩
    · rw [List.length_map]; exact Nat.le_of_lt (small1000 hl)
    · intro i x t H2 R hx sm ht hR
      rw [List.getElem?_map] at hx
      obtain ⟨x', hx', rfl⟩ := Option.map_eq_some_iff.mp hx
      simp only [List.getD_eq_getElem?_getD, hx', Option.getD_some] at hR
      exact ⟨t, _, rfl, SqT.of ht, rfl, _, _, rfl, _, _, rfl, rfl, rfl, _, rfl, _, rfl, _, _, rfl, rfl, _, rfl, _, _, rfl, rfl, _, _, rfl, rfl, ⟨by omega, lb1⟩, hR⟩
    · intro H2 sm ha
      rw [List.length_map] at ha
      refine q acc H2 sm hacc ?_
      rw [ha]
      unfold boxL
      rw [List.map_map]
      rfl
end
def numTo (bs : List Int) : Nat → Int
  | 0 => 0
  | i + 1 => numTo bs i + ch (bs.getD i 0 + (i : Int)) ((i : Int) + 1)
def numB (bs : List Int) : Int := numTo bs bs.length
structure IsBox (bs : List Int) : Prop where
  inc : bs.Pairwise (· ≤ ·)
  nn : ∀ x ∈ bs, 0 ≤ x
theorem BoxL.is {bs : List Int} (h : BoxL bs) : IsBox bs := ⟨h.inc, h.nn⟩
theorem sum_map_range (f : Nat → Int) (n : Nat) : ((List.range (n + 1)).map f).sum = ((List.range n).map f).sum + f n := by
  rw [List.range_succ, List.map_append, List.sum_append]
  simp
theorem numTo_sum (bs : List Int) : ∀ n : Nat, numTo bs n = ((List.range n).map fun i => ch (bs.getD i 0 + (i : Int)) ((i : Int) + 1)).sum
  | 0 => rfl
  | n + 1 => by
    rw [sum_map_range, ← numTo_sum bs n]
    rfl
theorem IsBox.get {bs : List Int} (B : IsBox bs) {i j : Nat} {x y : Int} (h : i ≤ j) (hx : bs[i]? = some x) (hy : bs[j]? = some y) : x ≤ y := by
  obtain ⟨h1, e1⟩ := List.getElem?_eq_some_iff.mp hx
  obtain ⟨h2, e2⟩ := List.getElem?_eq_some_iff.mp hy
  rcases Nat.lt_or_eq_of_le h with z | z
  · have := List.pairwise_iff_getElem.mp B.inc i j h1 h2 z
    omega
  · subst z; omega
theorem IsBox.nn' {bs : List Int} (B : IsBox bs) {i : Nat} : 0 ≤ bs.getD i 0 := by
  rw [List.getD_eq_getElem?_getD]
  cases h : bs[i]? with
  | none => exact Int.le_refl _
  | some x => exact B.nn x (List.mem_of_getElem? h)
theorem IsBox.le' {bs : List Int} (B : IsBox bs) {i j : Nat} (h : i ≤ j) (hj : j < bs.length) : bs.getD i 0 ≤ bs.getD j 0 := by
  have hi : i < bs.length := by omega
  rw [List.getD_eq_getElem?_getD, List.getD_eq_getElem?_getD, List.getElem?_eq_getElem hi, List.getElem?_eq_getElem hj]
  exact B.get h (List.getElem?_eq_getElem hi) (List.getElem?_eq_getElem hj)
theorem numTo_nonneg (bs : List Int) : ∀ n, 0 ≤ numTo bs n
  | 0 => Int.le_refl _
  | n + 1 => by
    have := numTo_nonneg bs n
    have := ch_nonneg (bs.getD n 0 + (n : Int)) ((n : Int) + 1)
    show 0 ≤ numTo bs n + _
    omega
theorem numTo_lt {bs : List Int} (B : IsBox bs) : ∀ (i : Nat) (c : Int), i ≤ bs.length → 0 ≤ c → (∀ j, j < i → bs.getD j 0 ≤ c) → numTo bs i < ch (c + (i : Int)) (i : Int)
  | 0, c, _, _, _ => by
    show (0 : Int) < ch (c + ((0 : Nat) : Int)) 0
    rw [ch_zero]; decide
  | i + 1, c, hi, hc, hb => by
    have b0 := B.nn' (i := i)
    have ih := numTo_lt B i (bs.getD i 0) (by omega) b0 (fun j hj => B.le' (by omega) (by omega))
    have p := ch_succ (n := bs.getD i 0 + (i : Int)) (k := (i : Int)) (by omega) (by omega)
    have m := ch_mono (m := bs.getD i 0 + (i : Int) + 1) (n := c + ((i + 1 : Nat) : Int)) (k := ((i + 1 : Nat) : Int)) (by have := hb i (by omega); omega)
    rw [show ((i + 1 : Nat) : Int) = (i : Int) + 1 by omega] at m ⊢
    show numTo bs i + ch (bs.getD i 0 + (i : Int)) ((i : Int) + 1) < _
    omega
theorem numTo_top {bs : List Int} (B : IsBox bs) {i : Nat} (hi : i < bs.length) : IsTop ((i : Int) + 1) (numTo bs (i + 1)) (bs.getD i 0 + (i : Int)) := by
  have b0 := B.nn' (i := i)
  have a := numTo_lt B (i + 1) (bs.getD i 0) hi b0 (fun j hj => B.le' (by omega) hi)
  have n0 := numTo_nonneg bs i
  refine ⟨by omega, ?_, ?_⟩
  · show _ ≤ numTo bs i + _
    omega
  · rw [show ((i + 1 : Nat) : Int) = (i : Int) + 1 by omega] at a
    rw [show bs.getD i 0 + (i : Int) + 1 = bs.getD i 0 + ((i : Int) + 1) by omega]
    exact a
section
variable {P : Program} {w : World} {K : PySem.W.Frag} {mg : Str → Option Value} {base : Heap}
def spNum (K : PySem.W.Frag) : Sp := fun vs H Q _ => ∃ (a : Addr) (bs : List Int), vs = [.ref a] ∧ SqL K H a (bs.map V.int) ∧ bs.length ≤ 900 ∧ (∀ x ∈ bs, 0 ≤ x) ∧ Szs 70000 bs ∧
  ∀ H', Same H H' → Q (.int (numB bs)) H'
theorem sc_box_number : FnScope ["box"] ["box"] (defScope st_box_number) := ⟨rfl, rfl, rfl, by decide +kernel, rfl, by decide +kernel, by decide +kernel⟩
theorem ok_box_number (D : Def K mg "box_number" st_box_number ["box"]) (T : Txt K mg) (G_choose : Fn P w K mg base 1 "choose" ["n", "k"] spChoose) : Fn P w K mg base 2 "box_number" ["box"] (spNum K) := by
  refine D.fn sc_box_number (fun vs H Q E h => ?_) (fun f cdv A outer s H vs Q E hr h => ?_)
  · obtain ⟨a, bs, rfl, _⟩ := h
    rfl
  · obtain ⟨a, bs, rfl, hA, hl, nn, sz, q⟩ := h
    refine ⟨_, (pss_one (ps_ret (pe_callB (call_sum rfl) (by rfl) T.z_sum b_sum (pa_cons (pe_comp (own := ["place", "part"]) (fr := []) (ix := []) rfl ⟨rfl, rfl, rfl, rfl, rfl, rfl⟩ (pi_enumL (by rfl) T.z_enumerate (pa_cons (pv 0) pa_nil)) (fun _ _ _ _ _ => (pg_tupK K (n := 2) rfl (pgs_cons (pg_name (i := 0) (show (["place", "part"] : List Str).Nodup by decide +kernel) rfl (Or.inl rfl)) (pgs_cons (pg_name (i := 1) (show (["place", "part"] : List Str).Nodup by decide +kernel) rfl (Or.inl rfl)) pgs_nil)))) (fun _ _ _ _ _ => pts_nil) (fun _ _ _ _ _ => (pe_fn G_choose (hr.mono (by decide)) (by rfl) (pa_cons (pe_op op_addI (pv 1) (pv 0)) (pa_cons (pe_op op_addI (pv 0) pe_int) pa_nil))))) pa_nil)))), ?_⟩
    refine ⟨_, rfl, a, _, rfl, hA, fun acc hacc => comp_enumP (K := K) (a := a) (xs := bs.map V.int) (fun i => V.int (ch (bs.getD i 0 + (i : Int)) ((i : Int) + 1))) hA hacc ?_ ?_ ?_⟩
    · rw [List.length_map]; exact Nat.le_of_lt (small1000 (by omega))
    · intro i x t H2 R hx sm ht hR
      rw [List.getElem?_map] at hx
      obtain ⟨x', hx', rfl⟩ := Option.map_eq_some_iff.mp hx
      simp only [List.getD_eq_getElem?_getD, hx', Option.getD_some] at hR
      have hi := (List.getElem?_eq_some_iff.mp hx').1
      have x0 := nn x' (List.mem_of_getElem? hx')
      have xb := sz x' (List.mem_of_getElem? hx')
      exact ⟨t, _, rfl, SqT.of ht, rfl, _, _, rfl, _, _, rfl, rfl, rfl, _, rfl, _, rfl, _, _, rfl, rfl, _, rfl, _, _, rfl, rfl, _, _, rfl, by omega, by omega, by omega, bits_mono (intBits_add_le (m := 70000) (n := 64) xb (bits_of (by omega) (by omega))) (by decide), hR⟩
    · intro H2 sm ha
      rw [List.length_map] at ha
      refine ⟨acc, (List.range bs.length).map fun i => ch (bs.getD i 0 + (i : Int)) ((i : Int) + 1), rfl, SqL.of ?_, ?_⟩
      · rw [ha, List.map_map]; rfl
      · rw [← numTo_sum]
        exact q H2 sm
end
def cnt (turns bells late : Int) : Int := if turns < bells then 0 else ch ((turns - bells) / (late + 1) + bells) bells
def spCount : Sp := fun vs H Q _ => ∃ turns bells late : Int, vs = [.int turns, .int bells, .int late] ∧ 0 ≤ bells ∧ bells ≤ 1000 ∧ 0 ≤ late ∧ intBits late ≤ 8000 ∧ intBits turns ≤ 70000 ∧ Q (.int (cnt turns bells late)) H
section
variable {P : Program} {w : World} {K : PySem.W.Frag} {mg : Str → Option Value} {base : Heap}
def spGreat : Sp := fun vs H Q _ => ∃ turns bells late : Int, vs = [.int turns, .int bells, .int late] ∧ 0 ≤ late ∧ intBits late ≤ 8000 ∧ Q (.int ((turns - bells) / (late + 1))) H
theorem sc_greatest_part : FnScope ["turns", "bells", "late"] ["turns", "bells", "late"] (defScope st_greatest_part) := ⟨rfl, rfl, rfl, by decide +kernel, rfl, by decide +kernel, by decide +kernel⟩
theorem ok_greatest_part (D : Def K mg "greatest_part" st_greatest_part ["turns", "bells", "late"]) : Fn P w K mg base 1 "greatest_part" ["turns", "bells", "late"] spGreat := by
  refine D.fn sc_greatest_part (fun vs H Q E h => ?_) (fun f cdv A outer s H vs Q E hr h => ?_)
  · obtain ⟨a, b, c, rfl, _⟩ := h
    rfl
  · obtain ⟨turns, bells, late, rfl, l0, lb, q⟩ := h
    refine ⟨_, (pss_one (ps_ret (pe_op op_fdivB (pe_op op_subI (pv 0) (pv 1)) (pe_op op_addI (pv 2) pe_int)))), ?_⟩
    have lb1 : intBits (late + 1) ≤ 9000 := bits_mono (intBits_add_le (m := 8000) (n := 1) lb (by decide)) (by decide)
    exact ⟨_, rfl, _, rfl, _, _, rfl, rfl, _, rfl, _, _, rfl, rfl, _, _, rfl, rfl, ⟨by omega, lb1⟩, q⟩
theorem sc_box_count : FnScope ["turns", "bells", "late"] ["turns", "bells", "late"] (defScope st_box_count) := ⟨rfl, rfl, rfl, by decide +kernel, rfl, by decide +kernel, by decide +kernel⟩
theorem ok_box_count (D : Def K mg "box_count" st_box_count ["turns", "bells", "late"]) (T : Txt K mg) (G_greatest_part : Fn P w K mg base 1 "greatest_part" ["turns", "bells", "late"] spGreat) (G_choose : Fn P w K mg base 1 "choose" ["n", "k"] spChoose) : Fn P w K mg base 2 "box_count" ["turns", "bells", "late"] spCount := by
  refine D.fn sc_box_count (fun vs H Q E h => ?_) (fun f cdv A outer s H vs Q E hr h => ?_)
  · obtain ⟨a, b, c, rfl, _⟩ := h
    rfl
  · obtain ⟨turns, bells, late, rfl, b0, b1, l0, lb, tb, q⟩ := h
    refine ⟨_, (pss_cons (ps_if (pt_cmpR op_gtI (pv 1) (pv 0) (nomark _))
        (pss_one (ps_ret pe_int))
        pss_nil)
      (pss_one (ps_ret (pe_fn G_choose (hr.mono (by decide)) (by rfl) (pa_cons (pe_op op_addI (pe_fn G_greatest_part (hr.mono (by decide)) (by rfl) (pa_cons (pv 0) (pa_cons (pv 1) (pa_cons (pv 2) pa_nil)))) (pv 1)) (pa_cons (pv 1) pa_nil)))))), ?_⟩
    unfold cnt at q
    refine ⟨_, rfl, _, rfl, _, _, rfl, rfl, _, rfl, ifD (fun h => ?_) (fun h => ?_)⟩
    · rw [if_pos h] at q
      exact q
    · rw [if_neg h] at q
      have d0 : 0 ≤ (turns - bells) / (late + 1) := Int.ediv_nonneg (by omega) (by omega)
      have db : intBits ((turns - bells) / (late + 1)) ≤ 70000 := by
        have h2 := Int.ediv_le_self (late + 1) (show 0 ≤ turns - bells by omega)
        exact intBits_le_of_natAbs (y := turns) (by omega) tb
      refine ⟨_, rfl, _, rfl, _, rfl, turns, bells, late, rfl, l0, lb, _, rfl, _, _, rfl, rfl, _, rfl, _, bells, rfl, by omega, b0, b1, ?_, q⟩
      exact bits_mono (intBits_add_le (m := 70000) (n := 64) db (bits_of b0 (by omega))) (by decide)
end
def AscB : Int → List Int → Prop
  | _, [] => True
  | b, x :: r => b ≤ x ∧ AscB x r
theorem ascb_all : ∀ {b : Int} {xs : List Int}, AscB b xs → ∀ x ∈ xs, b ≤ x
  | _, [], _, _, z => nomatch z
  | b, y :: r, h, x, hx => by
    rcases List.mem_cons.mp hx with e | e
    · rw [e]; exact h.1
    · have := ascb_all h.2 x e
      have := h.1
      omega
theorem ascb_pw : ∀ {b : Int} {xs : List Int}, AscB b xs → xs.Pairwise (· ≤ ·)
  | _, [], _ => List.Pairwise.nil
  | _, _ :: _, h => List.pairwise_cons.mpr ⟨ascb_all h.2, ascb_pw h.2⟩
theorem ascb_of : ∀ {b : Int} {xs : List Int}, xs.Pairwise (· ≤ ·) → (∀ x ∈ xs, b ≤ x) → AscB b xs
  | _, [], _, _ => trivial
  | _, x :: r, hp, h => by
    obtain ⟨p1, p2⟩ := List.pairwise_cons.mp hp
    exact ⟨h x (by simp), ascb_of p2 p1⟩
theorem isBox_asc {bs : List Int} : IsBox bs ↔ AscB 0 bs := ⟨fun h => ascb_of h.inc h.nn, fun h => ⟨ascb_pw h, ascb_all h⟩⟩
theorem ascb_drop {bs : List Int} {i : Nat} {x b : Int} (h : bs[i]? = some x) : AscB b (bs.drop i) ↔ b ≤ x ∧ AscB x (bs.drop (i + 1)) := by
  obtain ⟨hi, e⟩ := List.getElem?_eq_some_iff.mp h
  rw [List.drop_eq_getElem_cons hi, e]
  exact Iff.rfl
section
variable {P : Program} {w : World} {K : PySem.W.Frag} {mg : Str → Option Value} {base : Heap}
def spHBoxE (K : PySem.W.Frag) (C : Addr) : Sp := fun vs H Q E => ∃ (a : Addr) (ns : List Int) (late : Int), vs = [.ref a, .int late] ∧ SqL K H a (ns.map V.int) ∧ ns.length ≤ 1000 ∧ 0 ≤ late ∧ intBits late ≤ 8000 ∧
  (IsBox (boxL late ns) → ∀ (p : Addr) (H' : Hp), Same H H' → H p = none → H' p = some (.lst ((boxL late ns).map V.int)) → Q (.ref p) H') ∧
  (¬ IsBox (boxL late ns) → ∀ H', Same H H' → E (.ref C) none H')
theorem sc_heard_box : FnScope ["reading", "late", "box", "before", "part"] ["reading", "late"] (defScope st_heard_box) := ⟨rfl, rfl, rfl, by decide +kernel, rfl, by decide +kernel, by decide +kernel⟩
theorem ok_heard_boxE {C_NoReading : Addr} (D : Def K mg "heard_box" st_heard_box ["reading", "late"]) (T : Txt K mg) (m_NoReading : mg "NoReading" = some (.ref C_NoReading)) (x_NoReading : PySem.W.excIn K C_NoReading bmV "ValueError.__new__" = true) (G_box_of : Fn P w K mg base 1 "box_of" ["row", "late"] (spBoxOf K)) : FnE P w K mg base 2 "heard_box" ["reading", "late"] (spHBoxE K C_NoReading) := by
  refine D.fnE sc_heard_box (fun vs H Q E h => ?_) (fun f cdv A outer s H vs Q E hr h => ?_)
  · obtain ⟨a, ns, late, rfl, _⟩ := h
    rfl
  · obtain ⟨a, ns, late, rfl, hA, hl, l0, lb, q, q2⟩ := h
    refine ⟨_, (pss_cons (ps_set (i := 2) sc_heard_box.nd rfl (Or.inl rfl) (pe_fn G_box_of (hr.mono (by decide)) (by rfl) (pa_cons (pv 0) (pa_cons (pv 1) pa_nil))))
      (pss_cons (ps_set (i := 3) sc_heard_box.nd rfl (Or.inl rfl) pe_int)
      (pss_cons (ps_for PassesOwn.leaving rfl (pi_list (pv 2)) (pg_name (i := 4) sc_heard_box.nd rfl (Or.inl rfl))
        (pss_cons (ps_if (pt_cmpR op_ltI (pv 4) (pv 3) (nomark _))
          (pss_one (ps_raise PySem.F.excBase_ValueError x_NoReading (by rfl) m_NoReading (pa_cons pe_str pa_nil)))
          pss_nil)
        (pss_one (ps_set (i := 3) sc_heard_box.nd rfl (Or.inl rfl) (pv 4)))))
      (pss_one (ps_ret (pv 2)))))), ?_⟩
    refine ⟨_, rfl, _, rfl, a, ns, late, rfl, hA, hl, l0, lb, fun p H1 s1 hp h1 => ?_⟩
    generalize hbs : boxL late ns = bs at h1 q q2
    refine ⟨_, rfl, p, rfl, ⟨_, SqL.of h1⟩, for_list (K := K) (a := p) (xs := bs.map V.int) (fun i σ H2 => ∃ (before : Int) (v4 : Option V), σ = [some (.ref a), some (.int late), some (.ref p), some (.int before), v4] ∧ H2 = H1 ∧ (IsBox bs ↔ AscB before (bs.drop i)))
      ⟨0, none, rfl, rfl, by rw [List.drop_zero]; exact isBox_asc⟩ (fun i σ H2 _ ⟨_, _, _, e, _⟩ => e ▸ SqL.of h1) ?_ ?_⟩
    · rintro i y σ H2 hi ⟨before, v4, rfl, rfl, hb⟩
      rw [List.getElem?_map] at hi
      obtain ⟨x, hx, rfl⟩ := Option.map_eq_some_iff.mp hi
      rw [ascb_drop hx] at hb
      refine ⟨_, rfl, _, rfl, _, _, rfl, rfl, _, rfl, ifD (fun h => ?_) (fun h => ⟨_, rfl, x, _, rfl, rfl, hb.trans ⟨fun z => z.2, fun z => ⟨by omega, z⟩⟩⟩)⟩
      exact ⟨(by decide), q2 (fun B => by have := (hb.mp B).1; omega) _ s1⟩
    · rintro σ H2 ⟨before, v4, rfl, rfl, hb⟩
      rw [List.length_map, List.drop_length] at hb
      exact ⟨_, rfl, q (hb.mpr trivial) p _ s1 hp h1⟩
end
def GoodR (turns bells late : Int) (ns : List Int) : Prop := (ns.length : Int) = bells ∧ IsBox (boxL late ns) ∧ numB (boxL late ns) < cnt turns bells late
theorem num_lt_cnt {bs : List Int} (B : IsBox bs) {turns late : Int} (l0 : 0 ≤ late) (ht : (bs.length : Int) ≤ turns) (h : ∀ x ∈ bs, x ≤ (turns - (bs.length : Int)) / (late + 1)) : numB bs < cnt turns (bs.length : Int) late := by
  unfold cnt numB
  rw [if_neg (by omega)]
  refine numTo_lt B bs.length _ (Nat.le_refl _) (Int.ediv_nonneg (by omega) (by omega)) fun j hj => ?_
  rw [List.getD_eq_getElem?_getD, List.getElem?_eq_getElem hj]
  exact h _ (List.getElem_mem hj)
theorem cnt_le_num {bs : List Int} (B : IsBox bs) {turns late x : Int} {r : List Int} (l0 : 0 ≤ late) (hb : bs = r ++ [x]) (h : (turns - (bs.length : Int)) / (late + 1) < x) : cnt turns (bs.length : Int) late ≤ numB bs := by
  unfold cnt
  split
  · exact numTo_nonneg _ _
  · have hl : bs.length = r.length + 1 := by rw [hb, List.length_append]; rfl
    have tp := (numTo_top B (i := r.length) (by omega)).le
    have hx : bs.getD r.length 0 = x := by rw [hb, List.getD_eq_getElem?_getD, List.getElem?_append_right (Nat.le_refl _), Nat.sub_self]; rfl
    rw [hx] at tp
    have d0 : 0 ≤ (turns - (bs.length : Int)) / (late + 1) := Int.ediv_nonneg (by omega) (by omega)
    unfold numB
    rw [hl] at h d0 ⊢
    refine Int.le_trans (ch_mono (m := (turns - ((r.length + 1 : Nat) : Int)) / (late + 1) + ((r.length + 1 : Nat) : Int)) (n := x + (r.length : Int)) (k := ((r.length + 1 : Nat) : Int)) (by omega)) ?_
    rw [show ((r.length + 1 : Nat) : Int) = (r.length : Int) + 1 by omega]
    exact tp
section
variable {P : Program} {w : World} {K : PySem.W.Frag} {mg : Str → Option Value} {base : Heap}
def spReadE (K : PySem.W.Frag) (C : Addr) : Sp := fun vs H Q E => ∃ (a : Addr) (ns : List Int) (turns bells late : Int), vs = [.ref a, .int turns, .int bells, .int late] ∧ SqL K H a (ns.map V.int) ∧ ns.length ≤ 60 ∧ 0 ≤ bells ∧ bells ≤ 60 ∧ 0 ≤ late ∧ intBits late ≤ 8000 ∧ intBits turns ≤ 70000 ∧ Szs 70000 (boxL late ns) ∧
  (GoodR turns bells late ns → ∀ H', Same H H' → Q (.int (numB (boxL late ns))) H') ∧ (¬ GoodR turns bells late ns → ∀ H', Same H H' → E (.ref C) none H')
theorem sc_read : FnScope ["reading", "turns", "bells", "late", "message"] ["reading", "turns", "bells", "late"] (defScope st_read) := ⟨rfl, rfl, rfl, by decide +kernel, rfl, by decide +kernel, by decide +kernel⟩
theorem ok_readE {C_NoReading : Addr} (D : Def K mg "read" st_read ["reading", "turns", "bells", "late"]) (T : Txt K mg) (m_NoReading : mg "NoReading" = some (.ref C_NoReading)) (x_NoReading : PySem.W.excIn K C_NoReading bmV "ValueError.__new__" = true) (G_box_count : Fn P w K mg base 2 "box_count" ["turns", "bells", "late"] spCount) (GE_heard_box : FnE P w K mg base 2 "heard_box" ["reading", "late"] (spHBoxE K C_NoReading)) (G_box_number : Fn P w K mg base 2 "box_number" ["box"] (spNum K)) :
    FnE P w K mg base 3 "read" ["reading", "turns", "bells", "late"] (spReadE K C_NoReading) := by
  refine D.fnE sc_read (fun vs H Q E h => ?_) (fun f cdv A outer s H vs Q E hr h => ?_)
  · obtain ⟨a, b, c, d, e, rfl, _⟩ := h
    rfl
  · obtain ⟨a, ns, turns, bells, late, rfl, hA, hl, b0, b60, l0, lb, tb, sz, q1, q2⟩ := h
    refine ⟨_, (pss_cons (ps_if (pt_cmpR op_neI (pe_callB call_len_seq (by rfl) T.z_len b_len (pa_cons (pv 0) pa_nil)) (pv 2) (nomark _))
        (pss_one (ps_raise PySem.F.excBase_ValueError x_NoReading (by rfl) m_NoReading (pa_cons pe_str pa_nil)))
        pss_nil)
      (pss_cons (ps_set (i := 4) sc_read.nd rfl (Or.inl rfl) (pe_fn G_box_number (hr.mono (by decide)) (by rfl) (pa_cons (pe_fnG GE_heard_box (hr.mono (by decide)) (by rfl) passesE (pa_cons (pv 0) (pa_cons (pv 3) pa_nil))) pa_nil)))
      (pss_cons (ps_if (pt_cmpR op_geI (pv 4) (pe_fn G_box_count (hr.mono (by decide)) (by rfl) (pa_cons (pv 1) (pa_cons (pv 2) (pa_cons (pv 3) pa_nil)))) (nomark _))
        (pss_one (ps_raise PySem.F.excBase_ValueError x_NoReading (by rfl) m_NoReading (pa_cons pe_str pa_nil)))
        pss_nil)
      (pss_one (ps_ret (pv 4)))))), ?_⟩
    refine ⟨_, rfl, _, _, rfl, .inl hA, _, rfl, _, _, rfl, rfl, _, rfl, ?_⟩
    rw [List.length_map]
    refine ifND (fun e => ⟨(by decide), q2 (fun g => e g.1) _ (Same.refl _)⟩) (fun e => ?_)
    refine ⟨_, rfl, _, rfl, a, ns, late, rfl, hA, by omega, l0, lb, fun B p H1 s1 hp h1 => ?_, fun nB H1 s1 => q2 (fun g => nB g.2.1) _ s1⟩
    refine ⟨p, boxL late ns, rfl, SqL.of h1, by rw [boxL_length]; omega, B.nn, sz, fun H2 s2 => ?_⟩
    refine ⟨_, rfl, _, rfl, _, rfl, _, rfl, turns, bells, late, rfl, by omega, by omega, l0, lb, tb, _, _, rfl, rfl, _, rfl, ifD (fun h => ?_) (fun h => ?_)⟩
    · exact ⟨(by decide), q2 (fun g => by have := g.2.2; omega) _ (s1.trans s2)⟩
    · exact ⟨_, rfl, q1 ⟨e, B, by omega⟩ _ (s1.trans s2)⟩
end
def unL (late : Int) (ns : List Int) : List Int := ns.tail.map (fun t => t - (ns.headD 0 - late + 1))
theorem unL_length (late : Int) (ns : List Int) : (unL late ns).length = ns.length - 1 := by
  unfold unL
  rw [List.length_map, List.length_tail]
theorem cut_tail (ns : List Int) : cutI ns (some 1) none = ns.tail := by
  unfold cutI
  have e : HT.sIx ns.length 0 (some 1) = min 1 ns.length := HT.sIx_nat ..
  rw [e]
  cases ns with
  | nil => rfl
  | cons x r =>
    show ((x :: r).drop (min 1 (r.length + 1))).take ((r.length + 1) - min 1 (r.length + 1)) = r
    rw [show min 1 (r.length + 1) = 1 by omega]
    simp
theorem cut1 {c : TT} {tA tB R : TS} {D : Ends} {σ : St} {H : Hp} (Pre : St → Hp → Prop) (tail : ∀ σ H, Pre σ H → R D σ H) (h : ∀ N : St → Hp → Prop, (∀ σ H, Pre σ H → N σ H) → tIfS c tA tB { D with nx := N } σ H) : tSeq (tIfS c tA tB) R D σ H := h (fun σ H => R D σ H) tail
def GoodU (turns bells late : Int) (ns : List Int) : Prop := bells ≠ 0 ∧ turns ≠ 0 ∧ (ns.length : Int) = bells ∧ GoodR (turns - 1) (bells - 1) (2 * late) (unL late ns)
section
variable {P : Program} {w : World} {K : PySem.W.Frag} {mg : Str → Option Value} {base : Heap}
def spUnkeyedE (K : PySem.W.Frag) (C : Addr) : Sp := fun vs H Q E => ∃ (a : Addr) (ns : List Int) (turns bells late : Int), vs = [.ref a, .int turns, .int bells, .int late] ∧ SqL K H a (ns.map V.int) ∧ ns.length ≤ 60 ∧ 0 ≤ bells ∧ bells ≤ 60 ∧ 0 ≤ late ∧ intBits late ≤ 7000 ∧ 0 ≤ turns ∧ intBits turns ≤ 60000 ∧ Szs 70000 (boxL (2 * late) (unL late ns)) ∧
  (GoodU turns bells late ns → ∀ H', Same H H' → Q (.int (numB (boxL (2 * late) (unL late ns)))) H') ∧ (¬ GoodU turns bells late ns → ∀ H', Same H H' → E (.ref C) none H')
theorem sc_unkeyed : FnScope ["reading", "turns", "bells", "late", "start", "behind_key"] ["reading", "turns", "bells", "late"] (defScope st_unkeyed) := ⟨rfl, rfl, rfl, by decide +kernel, rfl, by decide +kernel, by decide +kernel⟩
theorem ok_unkeyedE {C_NoReading : Addr} (D : Def K mg "unkeyed" st_unkeyed ["reading", "turns", "bells", "late"]) (T : Txt K mg) (m_NoReading : mg "NoReading" = some (.ref C_NoReading)) (x_NoReading : PySem.W.excIn K C_NoReading bmV "ValueError.__new__" = true) (GE_read : FnE P w K mg base 3 "read" ["reading", "turns", "bells", "late"] (spReadE K C_NoReading)) :
    FnE P w K mg base 4 "unkeyed" ["reading", "turns", "bells", "late"] (spUnkeyedE K C_NoReading) := by
  refine D.fnE sc_unkeyed (fun vs H Q E h => ?_) (fun f cdv A outer s H vs Q E hr h => ?_)
  · obtain ⟨a, b, c, d, e, rfl, _⟩ := h
    rfl
  · obtain ⟨a, ns, turns, bells, late, rfl, hA, hl, b0, b60, l0, lb, t0, tb, sz, q1, q2⟩ := h
    refine ⟨_, (pss_cons (ps_if (pw_or (pt_cmpR op_eqI (pv 2) pe_int (nomark _)) (pw_or (pt_cmpR op_eqI (pv 1) pe_int (nomark _)) (pw_or1 (pt_cmpR op_neI (pe_callB call_len_seq (by rfl) T.z_len b_len (pa_cons (pv 0) pa_nil)) (pv 2) (nomark _))))).pt
        (pss_one (ps_raise PySem.F.excBase_ValueError x_NoReading (by rfl) m_NoReading (pa_cons pe_str pa_nil)))
        pss_nil)
      (pss_cons (ps_set (i := 4) sc_unkeyed.nd rfl (Or.inr rfl) (pe_op op_addI (pe_op op_subI (pe_ix ix_list (pv 0) pe_int (fun _ _ => rfl)) (pv 3)) pe_int))
      (pss_cons (ps_setC (k := 5) (own := ["turn"]) (fr := ["start"]) (ix := [4]) rfl sc_unkeyed.nd rfl rfl ⟨rfl, rfl, rfl, rfl, rfl, rfl⟩ (pi_list (pe_slice sl_list (pv 0) (po_some pe_int) po_none)) (fun _ _ _ _ _ => (pg_name (i := 0) (show (["turn", "start"] : List Str).Nodup by decide +kernel) rfl (Or.inl rfl))) (fun _ _ _ _ _ => pts_nil) (fun _ _ _ _ _ => (pe_op op_subI (pv 0) (pv 1))))
      (pss_one (ps_ret (pe_fnG GE_read (hr.mono (by decide)) (by rfl) passesE (pa_cons (pv 5) (pa_cons (pe_op op_subI (pv 1) pe_int) (pa_cons (pe_op op_subI (pv 2) pe_int) (pa_cons (pe_op op_mulB pe_int (pv 3)) pa_nil)))))))))), ?_⟩
    refine ⟨_, rfl, _, _, rfl, rfl, _, rfl, ifD (fun z => ⟨(by decide), q2 (fun g => g.1 z) _ (Same.refl _)⟩) (fun z => ⟨_, rfl, _, _, rfl, rfl, _, rfl, ifD (fun z2 => ⟨(by decide), q2 (fun g => g.2.1 z2) _ (Same.refl _)⟩) (fun z2 => ⟨_, rfl, _, _, rfl, .inl hA, _, rfl, _, _, rfl, rfl, _, rfl, ?_⟩)⟩)⟩
    rw [List.length_map]
    refine ifND (fun e => ⟨(by decide), q2 (fun g => e g.2.2.1) _ (Same.refl _)⟩) (fun e => ?_)
    have g0 : atI (ns.map V.int) 0 = some (V.int (ns.headD 0)) := by
      cases ns with
      | nil => exact absurd e (by simp; omega)
      | cons x r => exact at_map (ns := x :: r) (k := 0) rfl
    refine ⟨_, rfl, _, _, _, _, rfl, rfl, hA, g0, _, rfl, _, _, rfl, rfl, _, _, rfl, rfl, ?_⟩
    refine ⟨_, rfl, _, rfl, _, _, rfl, hA, fun pc hpc => ?_⟩
    rw [cut_map, cut_tail]
    have s2 : Same H (upd H pc (.lst (ns.tail.map V.int))) := Same.new hpc
    have h2 : (upd H pc (.lst (ns.tail.map V.int))) pc = some (.lst (ns.tail.map V.int)) := upd_same
    generalize upd H pc (.lst (ns.tail.map V.int)) = H2 at s2 h2 ⊢
    refine ⟨pc, rfl, ⟨_, SqL.of h2⟩, fun acc hacc => comp_listP (K := K) (a := pc) (xs := ns.tail.map V.int) (fun j => V.int (ns.tail.getD j 0 - (ns.headD 0 - late + 1))) (SqL.of h2) hacc (by rw [List.length_map, List.length_tail]; exact Nat.le_of_lt (small1000 (by omega))) (fun j v H6 R' hx s6 hR => ?_) ?_⟩
    · rw [List.getElem?_map] at hx
      obtain ⟨z, hz', rfl⟩ := Option.map_eq_some_iff.mp hx
      simp only [List.getD_eq_getElem?_getD, hz', Option.getD_some] at hR
      exact ⟨rfl, _, rfl, _, rfl, _, _, rfl, rfl, hR⟩
    have eL : (List.range (ns.tail.map V.int).length).map (fun j => V.int (ns.tail.getD j 0 - (ns.headD 0 - late + 1))) = (unL late ns).map V.int := by
      unfold unL
      apply List.ext_getElem
      · simp
      · intro j h1 h2
        simp at h1 h2
        simp [List.getD_eq_getElem?_getD, h2]
        rw [List.getElem?_eq_getElem (by omega)]
        rfl
    rw [eL]
    refine ⟨_, rfl, _, rfl, _, _, rfl, rfl, _, rfl, _, _, rfl, rfl, _, rfl, _, _, rfl, rfl, ⟨2, 7000, by decide, lb, by decide⟩, acc, unL late ns, turns - 1, bells - 1, 2 * late, rfl, SqL.of upd_same, by rw [unL_length]; omega, by omega, by omega, by omega, bits_mono (intBits_mul_le (m := 2) (n := 7000) (by decide) lb) (by decide), intBits_le_of_natAbs (y := turns) (by omega) (bits_mono tb (by decide)), sz, fun G H' s' => q1 ⟨z, z2, e, G⟩ _ ((s2.put hacc).trans s'), fun nG H' s' => q2 (fun g => nG g.2.2.2) _ ((s2.put hacc).trans s')⟩
end
theorem kitAny_six {K : PySem.W.Frag} {t : Value} {a b c d e f : Addr} (h1 : PySem.W.kitOne K t (.ref a) = some false) (h2 : PySem.W.kitOne K t (.ref b) = some false) (h3 : PySem.W.kitOne K t (.ref c) = some false) (h4 : PySem.W.kitOne K t (.ref d) = some false) (h5 : PySem.W.kitOne K t (.ref e) = some false) (h6 : PySem.W.kitOne K t (.ref f) = some false) : PySem.W.kitAny K t ([a, b, c, d, e, f].map Value.ref) = some false := by
  show PySem.W.kitAny K t [.ref a, .ref b, .ref c, .ref d, .ref e, .ref f] = some false
  simp only [PySem.W.kitAny, h1, h2, h3, h4, h5, h6]
def Bd (m : Nat) (ns : List Int) : Prop := ∀ x ∈ ns, 0 ≤ x ∧ x < 2 ^ m
theorem un_szs {ns : List Int} {late : Int} (h : Bd 150 ns) (hl : ns.length ≤ 100) (l0 : 0 ≤ late) (l1 : late < 2 ^ 150) : Szs 70000 (boxL (2 * late) (unL late ns)) := fun y hy => by
  obtain ⟨i, hi⟩ := List.getElem?_of_mem hy
  obtain ⟨x, hx, rfl⟩ := boxL_get' hi
  have hi' := (List.getElem?_eq_some_iff.mp hx).1
  rw [unL_length] at hi'
  unfold unL at hx
  rw [List.getElem?_map] at hx
  obtain ⟨z, hz, rfl⟩ := Option.map_eq_some_iff.mp hx
  have hz0 := h z (List.mem_of_mem_tail (List.mem_of_getElem? hz))
  have hd : 0 ≤ ns.headD 0 ∧ ns.headD 0 < 2 ^ 150 := by
    cases ns with
    | nil => exact ⟨by decide, by decide⟩
    | cons a r => exact h a (List.mem_cons_self ..)
  refine bits_mono (bits_div (m := 300) ?_ (by omega)) (by decide)
  refine intBits_le_of_natAbs (y := 2 ^ 200) ?_ (by decide)
  have e1 : ((2 : Int) ^ 200).natAbs = 2 ^ 200 := by decide
  rw [e1]
  obtain ⟨h1, h2⟩ := hz0
  obtain ⟨h3, h4⟩ := hd
  omega
theorem un_get {ns : List Int} {late : Int} {i : Nat} {x : Int} (h : ns[i + 1]? = some x) (l0 : 0 ≤ late) : (boxL (2 * late) (unL late ns))[i]? = some ((x - ns.headD 0 + late - 1 - (i : Int)) / (2 * late + 1)) := by
  have h1 : (unL late ns)[i]? = some (x - (ns.headD 0 - late + 1)) := by
    unfold unL
    rw [List.getElem?_map, List.getElem?_tail, h]
    rfl
  rw [boxL_get h1]
  congr 2
  omega
section
variable {P : Program} {w : World} {K : PySem.W.Frag} {mg : Str → Option Value} {base : Heap}
def spReadingU : Sp := fun vs H Q _ => ∃ (c bells late more : Int), vs = [.int c, .int bells, .int late, .int more] ∧ 0 ≤ bells ∧ bells ≤ 8 ∧ 0 ≤ late ∧ late < 100000000000000000000 ∧ more < 100000000000000000000 ∧
  ∀ (p : Addr) (ns : List Int) (H' : Hp), Same H H' → H p = none → H' p = some (.lst (ns.map V.int)) → ns.length ≤ 20 → Bd 150 ns → Q (.ref p) H'
theorem sc__law_reading : FnScope ["cell", "bells", "late", "more", "many", "reading", "last", "number", "k", "steps"] ["cell", "bells", "late", "more"] (defScope st__law_reading) := ⟨rfl, rfl, rfl, by decide +kernel, rfl, by decide +kernel, by decide +kernel⟩
theorem ok_readingU (D : Def K mg "_law_reading" st__law_reading ["cell", "bells", "late", "more"]) (T : Txt K mg) (G__law_drawn : Fn P w K mg base 1 "_law_drawn" ["cell", "few", "many"] spDrawn) : Fn P w K mg base 2 "_law_reading" ["cell", "bells", "late", "more"] spReadingU := by
  refine D.fn sc__law_reading (fun vs H Q E h => ?_) (fun f cdv A outer s H vs Q E hr h => ?_)
  · obtain ⟨a, b, c, d, rfl, _⟩ := h
    rfl
  · obtain ⟨c, bells, late, more, rfl, b0, b8, l0, l1, o1, q⟩ := h
    refine ⟨_, (pss_cons (ps_set (i := 4) sc__law_reading.nd rfl (Or.inl rfl) (pv 1))
      (pss_cons (ps_if (pt_cmpR op_eqI (pe_op op_modB (pv 0) pe_int) pe_int (nomark _))
        (pss_one (ps_set (i := 4) sc__law_reading.nd rfl (Or.inl rfl) (pe_callB (call_max2 rfl) (by rfl) T.z_max b_max (pa_cons pe_int (pa_cons (pe_op op_addI (pe_op op_subI (pv 1) pe_int) (pe_op op_modB (pe_op op_fdivB (pv 0) pe_int) pe_int)) pa_nil)))))
        pss_nil)
      (pss_cons (ps_set (i := 5) sc__law_reading.nd rfl (Or.inl rfl) (pe_lst pa_nil))
      (pss_cons (ps_set (i := 6) sc__law_reading.nd rfl (Or.inl rfl) (pe_fn G__law_drawn (hr.mono (by decide)) (by rfl) (pa_cons (pe_op op_fdivB (pv 0) pe_int) (pa_cons pe_int (pa_cons (pe_op op_powB pe_int pe_int) pa_nil)))))
      (pss_cons (ps_set (i := 7) sc__law_reading.nd rfl (Or.inl rfl) (pe_op op_modB (pe_op op_fdivB (pv 0) pe_int) (pe_op op_powB pe_int pe_int)))
      (pss_cons (ps_for PassesOwn.never rfl (pi_range1 (by rfl) T.z_range (pa_cons (pv 4) pa_nil)) (pg_name (i := 8) sc__law_reading.nd rfl (Or.inl rfl))
        (pss_cons (ps_expr (pe_bm PySem.F.plainAttrs_list PySem.F.slot_list_append PySem.F.type_list_append mt_append (pv 5) (pa_cons (pv 6) pa_nil)))
        (pss_cons (ps_set (i := 7) sc__law_reading.nd rfl (Or.inl rfl) (pe_op op_modB (pe_op op_addI (pe_op op_addI (pe_op op_mulB (pv 7) (pv 7)) pe_int) (pv 8)) (pe_op op_powB pe_int pe_int)))
        (pss_cons (ps_set (i := 9) sc__law_reading.nd rfl (Or.inl rfl) (pe_lst (pa_cons pe_int (pa_cons (pe_op op_addI (pe_op op_mulB pe_int (pv 2)) pe_int) (pa_cons (pe_op op_addI pe_int (pe_op op_fdivB (pe_callB (call_max2 rfl) (by rfl) T.z_max b_max (pa_cons pe_int (pa_cons (pv 3) pa_nil))) (pe_op op_addI pe_int (pv 1)))) (pa_cons (pe_op op_addI (pe_op op_mulB pe_int (pv 2)) pe_int) pa_nil))))))
        (pss_one (ps_set (i := 6) sc__law_reading.nd rfl (Or.inl rfl) (pe_op op_addI (pv 6) (pe_op op_modB (pe_op op_fdivB (pv 7) pe_int) (pe_ix ix_list (pv 9) (pe_op op_modB (pv 7) pe_int) (fun _ _ => rfl))))))))))
      (pss_one (ps_ret (pv 5))))))))), ?_⟩
    have e20 : (10 : Int) ^ (20 : Int).toNat = 100000000000000000000 := by decide
    have e60 : (10 : Int) ^ (60 : Int).toNat < 2 ^ 200 := by decide
    have nn : ∀ x : Int, 0 ≤ x % 10 ^ (60 : Int).toNat ∧ x % 10 ^ (60 : Int).toNat < 2 ^ 200 := fun x => ⟨Int.emod_nonneg _ (by decide), Int.lt_trans (Int.emod_lt_of_pos _ (by decide)) e60⟩
    have lb : intBits late ≤ 100 := bits_of l0 (by omega)
    refine ⟨_, rfl, ?_⟩
    dsimp only [gName]
    change tSeq (tIfS _ _ _) _ _ _ _
    refine cut1 (fun σ H1 => ∃ many : Int, 0 ≤ many ∧ many ≤ 10 ∧ σ = [some (.int c), some (.int bells), some (.int late), some (.int more), some (.int many), none, none, none, none, none] ∧ H1 = H) ?_ (fun N hN => ⟨_, rfl, _, _, rfl, rfl, (by decide), _, _, rfl, rfl, _, rfl, ifD (fun h => ?_) (fun h => hN _ _ ⟨bells, b0, by omega, rfl, rfl⟩)⟩)
    case refine_2 =>
      have w0 := Int.emod_nonneg (c / 8) (show (3 : Int) ≠ 0 by decide)
      have w1 := Int.emod_lt_of_pos (c / 8) (show (0 : Int) < 3 by decide)
      refine ⟨_, rfl, _, _, rfl, rfl, _, rfl, _, _, rfl, rfl, ⟨by decide, by decide⟩, _, _, rfl, rfl, (by decide), _, _, rfl, rfl, _, _, rfl, hN _ _ ⟨_, ?_, ?_, rfl, rfl⟩⟩
      · split <;> omega
      · split <;> omega
    rintro σ H1 ⟨many, n0, n10, rfl, rfl⟩
    refine ⟨(by decide), fun p hp => ?_⟩
    refine ⟨_, rfl, _, _, rfl, rfl, ⟨by decide, by decide⟩, _, _, rfl, rfl, ⟨by decide, by decide, by decide⟩, _, 10, 10 ^ (20 : Int).toNat, rfl, by decide, by decide, fun l g0 g1 => ?_⟩
    rw [e20] at g1
    refine ⟨_, rfl, _, _, rfl, rfl, ⟨by decide, by decide⟩, _, _, rfl, rfl, ⟨by decide, by decide, by decide⟩, _, _, rfl, rfl, (by decide), ?_⟩
    have nx0 := nn (c / 48)
    generalize c / 48 % 10 ^ (60 : Int).toNat = nu at nx0 ⊢
    refine ⟨_, rfl, _, rfl, by omega, by omega, for_range (n := many.toNat) (fun i σ H2 => ∃ (rs : List Int) (last number : Int) (v8 v9 : Option V), σ = [some (.int c), some (.int bells), some (.int late), some (.int more), some (.int many), some (.ref p), some (.int last), some (.int number), v8, v9] ∧ Same H1 H2 ∧ H2 p = some (.lst (rs.map V.int)) ∧ rs.length = i ∧ 0 ≤ last ∧ last ≤ 100000000000000000000 + (i : Int) * 1000000000000000000000 ∧ 0 ≤ number ∧ number < 2 ^ 200 ∧ Bd 150 rs) ⟨[], l, nu, none, none, rfl, Same.new hp, upd_same, rfl, g0, by omega, nx0.1, nx0.2, fun _ z => nomatch z⟩ ?_ ?_⟩
    · rintro i σ H2 hi ⟨rs, last, number, v8, v9, rfl, s2, h2, rl, a0, a1, m0, m1, ab⟩
      have nb := bits_of m0 m1
      have ib : (i : Int) < 10 := by omega
      refine ⟨_, rfl, .inl ⟨rfl, _, SqL.of h2⟩, _, rfl, p, _, _, rfl, rfl, h2, by rw [List.length_map]; exact small1000 (by omega), ?_⟩
      have s3 : Same H1 (upd H2 p (.lst (rs.map V.int ++ [V.int last]))) := s2.wr hp
      have h3 : (upd H2 p (.lst (rs.map V.int ++ [V.int last]))) p = some (.lst ((rs ++ [last]).map V.int)) := by rw [upd_same, List.map_append]; rfl
      generalize upd H2 p (.lst (rs.map V.int ++ [V.int last])) = H3 at s3 h3 ⊢
      refine ⟨_, rfl, _, rfl, _, _, rfl, rfl, ⟨200, 200, nb, nb, by decide⟩, _, _, rfl, rfl, _, rfl, _, _, rfl, rfl, _, _, rfl, rfl, ⟨by decide, by decide, by decide⟩, _, _, rfl, rfl, (by decide), ?_⟩
      have nx := nn (number * number + 57721566490153286060651209 + (0 + (i : Int)))
      generalize (number * number + 57721566490153286060651209 + (0 + (i : Int))) % 10 ^ (60 : Int).toNat = num at nx ⊢
      have x0 : 0 ≤ (if more > 0 then more else 0) := by split <;> omega
      have x1 : (if more > 0 then more else 0) ≤ 100000000000000000000 := by split <;> omega
      refine ⟨_, rfl, _, _, rfl, rfl, ⟨10, 100, by decide, lb, by decide⟩, _, _, rfl, rfl, _, rfl, _, _, rfl, _, rfl, _, _, rfl, rfl, _, _, rfl, rfl, ⟨by omega, bits_mono (bits_of (m := 10) (by omega) (by omega)) (by decide)⟩, _, _, rfl, rfl, _, rfl, _, _, rfl, rfl, ⟨10, 100, by decide, lb, by decide⟩, _, _, rfl, rfl, (by show 4 ≤ sizeLine; decide), fun p4 hp4 => ?_⟩
      generalize (if more > 0 then more else 0) = mx at x0 x1 hp4 ⊢
      have y0 := Int.ediv_nonneg x0 (show 0 ≤ 1 + bells by omega)
      have y1 := Int.ediv_le_self (1 + bells) x0
      generalize mx / (1 + bells) = mq at y0 y1 hp4 ⊢
      obtain ⟨v, hv, e⟩ := at4 (V.int 8) (V.int (2 * late + 2)) (V.int (1 + mq)) (V.int (3 * late + 3)) (Int.emod_nonneg num (by decide : (4 : Int) ≠ 0)) (Int.emod_lt_of_pos num (by decide))
      obtain ⟨st, rfl, st0, st1⟩ : ∃ st : Int, v = .int st ∧ 0 < st ∧ st ≤ 1000000000000000000000 := by
        rcases e with rfl | rfl | rfl | rfl
        all_goals exact ⟨_, rfl, by omega, by omega⟩
      have s4 : Same H1 (upd H3 p4 (.lst [V.int 8, V.int (2 * late + 2), V.int (1 + mq), V.int (3 * late + 3)])) := s3.put hp4
      have h4 := (Same.new (o := .lst [V.int 8, V.int (2 * late + 2), V.int (1 + mq), V.int (3 * late + 3)]) hp4) _ _ h3
      have z0 : 0 ≤ num / 7 % st := Int.emod_nonneg _ (by omega)
      have z1 : num / 7 % st < st := Int.emod_lt_of_pos _ st0
      refine ⟨_, rfl, _, rfl, _, _, rfl, rfl, ⟨by decide, by decide⟩, _, rfl, _, rfl, _, _, rfl, rfl, (by decide), _, _, _, _, rfl, rfl, SqL.of upd_same, hv, _, _, rfl, rfl, st0, _, _, rfl, rfl, ?_⟩
      refine ⟨rs ++ [last], _, num, _, _, rfl, s4, h4, by rw [List.length_append, rl]; rfl, by omega, by omega, nx.1, nx.2, fun x hx => ?_⟩
      rcases List.mem_append.mp hx with z | z
      · exact ab x z
      · rw [List.mem_singleton.mp z]
        exact ⟨a0, by omega⟩
    · rintro σ H2 ⟨rs, last, number, v8, v9, rfl, s2, h2, rl, a0, a1, m0, m1, ab⟩
      exact ⟨_, rfl, q p rs H2 s2 hp h2 (by omega) ab⟩
def spDueU (K : PySem.W.Frag) : Sp := fun vs H Q _ => ∃ (a : Addr) (ns : List Int) (turns bells late : Int), vs = [.ref a, .int turns, .int bells, .int late] ∧ SqL K H a (ns.map V.int) ∧ ns.length ≤ 60 ∧ 0 ≤ bells ∧ bells ≤ 60 ∧ 0 ≤ late ∧ intBits late ≤ 7000 ∧ 0 ≤ turns ∧ intBits turns ≤ 60000 ∧ Szs 70000 (boxL (2 * late) (unL late ns)) ∧
  (GoodU turns bells late ns → ∀ H', Same H H' → Q (.int (numB (boxL (2 * late) (unL late ns)))) H') ∧ (¬ GoodU turns bells late ns → ∀ H', Same H H' → Q .non H')
theorem sc__law_due : FnScope ["reading", "turns", "bells", "late", "box", "last", "i", "c"] ["reading", "turns", "bells", "late"] (defScope st__law_due) := ⟨rfl, rfl, rfl, by decide +kernel, rfl, by decide +kernel, by decide +kernel⟩
theorem ok_dueU (D : Def K mg "_law_due" st__law_due ["reading", "turns", "bells", "late"]) (T : Txt K mg) (G__law_choices : Fn P w K mg base 1 "_law_choices" ["n", "k"] spChoose) : Fn P w K mg base 2 "_law_due" ["reading", "turns", "bells", "late"] (spDueU K) := by
  refine D.fn sc__law_due (fun vs H Q E h => ?_) (fun f cdv A outer s H vs Q E hr h => ?_)
  · obtain ⟨a, ns, t, b, l, rfl, _⟩ := h
    rfl
  · obtain ⟨a, ns, turns, bells, late, rfl, hA, hl, b0, b60, l0, lb, t0, tb, sz, q1, q2⟩ := h
    refine ⟨_, (pss_cons (ps_if (pw_or (pt_cmpR op_eqI (pv 2) pe_int (nomark _)) (pw_or (pt_cmpR op_neI (pe_callB call_len_seq (by rfl) T.z_len b_len (pa_cons (pv 0) pa_nil)) (pv 2) (nomark _)) (pw_or1 (pt_cmpR op_gtI (pv 2) (pv 1) (nomark _))))).pt
        (pss_one (ps_ret pe_non))
        pss_nil)
      (pss_cons (ps_set (i := 4) sc__law_due.nd rfl (Or.inr rfl) (pe_lst pa_nil))
      (pss_cons (ps_set (i := 5) sc__law_due.nd rfl (Or.inl rfl) pe_int)
      (pss_cons (ps_for PassesOwn.never rfl (pi_range1 (by rfl) T.z_range (pa_cons (pe_op op_subI (pv 2) pe_int) pa_nil)) (pg_name (i := 6) sc__law_due.nd rfl (Or.inl rfl))
        (pss_cons (ps_set (i := 7) sc__law_due.nd rfl (Or.inl rfl) (pe_op op_fdivB (pe_op op_subI (pe_op op_subI (pe_op op_addI (pe_op op_subI (pe_ix ix_list (pv 0) (pe_op op_addI (pv 6) pe_int) (fun _ _ => rfl)) (pe_ix ix_list (pv 0) pe_int (fun _ _ => rfl))) (pv 3)) pe_int) (pv 6)) (pe_op op_addI (pe_op op_mulB pe_int (pv 3)) pe_int)))
        (pss_cons (ps_if (pt_cmpR op_ltI (pv 7) (pv 5) (nomark _))
          (pss_one (ps_ret pe_non))
          pss_nil)
        (pss_cons (ps_set (i := 5) sc__law_due.nd rfl (Or.inl rfl) (pv 7))
        (pss_one (ps_expr (pe_bm PySem.F.plainAttrs_list PySem.F.slot_list_append PySem.F.type_list_append mt_append (pv 4) (pa_cons (pv 7) pa_nil))))))))
      (pss_cons (ps_if (pt_cmpR op_gtI (pv 5) (pe_op op_fdivB (pe_op op_subI (pv 1) (pv 2)) (pe_op op_addI (pe_op op_mulB pe_int (pv 3)) pe_int)) (nomark _))
        (pss_one (ps_ret pe_non))
        pss_nil)
      (pss_one (ps_ret (pe_callB (call_sum rfl) (by rfl) T.z_sum b_sum (pa_cons (pe_comp (own := ["i"]) (fr := ["box"]) (ix := [4]) rfl ⟨rfl, rfl, rfl, rfl, rfl, rfl⟩ (pi_range1 (by rfl) T.z_range (pa_cons (pe_callB call_len_seq (by rfl) T.z_len b_len (pa_cons (pv 4) pa_nil)) pa_nil)) (fun _ _ _ _ _ => (pg_name (i := 0) (show (["i", "box"] : List Str).Nodup by decide +kernel) rfl (Or.inl rfl))) (fun _ _ _ _ _ => pts_nil) (fun _ _ _ _ _ => (pe_fn G__law_choices (hr.mono (by decide)) (by rfl) (pa_cons (pe_op op_addI (pe_ix (ix_listK K) (pv 1) (pv 0) (fun _ _ => rfl)) (pv 0)) (pa_cons (pe_op op_addI (pv 0) pe_int) pa_nil))))) pa_nil))))))))), ?_⟩
    refine ⟨_, rfl, _, _, rfl, rfl, _, rfl, ifD (fun z => q2 (fun g => g.1 z) _ (Same.refl _)) (fun z => ⟨_, rfl, _, _, rfl, .inl hA, _, rfl, _, _, rfl, rfl, _, rfl, ?_⟩)⟩
    rw [List.length_map]
    refine ifND (fun e => q2 (fun g => e g.2.2.1) _ (Same.refl _)) (fun e => ?_)
    have bl : ((boxL (2 * late) (unL late ns)).length : Int) = bells - 1 := by rw [boxL_length, unL_length]; omega
    refine ⟨_, rfl, _, rfl, _, _, rfl, rfl, _, rfl, ifD (fun h => q2 (fun g => by
      have z1 := g.2.2.2.2.2
      have z2 := numTo_nonneg (boxL (2 * late) (unL late ns)) (boxL (2 * late) (unL late ns)).length
      unfold cnt numB at z1
      rw [if_pos (by omega)] at z1
      omega) _ (Same.refl _)) (fun hbt => ?_)⟩
    have gd : GoodU turns bells late ns ↔ IsBox (boxL (2 * late) (unL late ns)) ∧ numB (boxL (2 * late) (unL late ns)) < cnt (turns - 1) (bells - 1) (2 * late) := by
      refine ⟨fun g => g.2.2.2.2, fun g => ⟨z, by omega, e, by rw [unL_length]; omega, g⟩⟩
    have ug : ∀ (i : Nat) (x : Int), ns[i + 1]? = some x → (boxL (2 * late) (unL late ns))[i]? = some ((x - ns.headD 0 + late - 1 - (i : Int)) / (2 * late + 1)) := fun i x h => un_get h l0
    have g0 : atI (ns.map V.int) 0 = some (V.int (ns.headD 0)) := by
      cases ns with
      | nil => exact absurd e (by simp; omega)
      | cons x r => exact at_map (ns := x :: r) (k := 0) rfl
    generalize boxL (2 * late) (unL late ns) = bs at bl q1 q2 gd sz ug
    refine ⟨(by decide), fun pb hpb => ?_⟩
    have l2b : intBits (2 * late + 1) ≤ 9000 := bits_mono (intBits_add_le (m := 7002) (n := 1) (intBits_mul_le (m := 2) (n := 7000) (by decide) lb) (by decide)) (by decide)
    refine ⟨_, rfl, _, _, rfl, rfl, _, rfl, by omega, by omega, for_range (n := (bells - 1).toNat) (fun i σ H2 => ∃ (last : Int) (v6 v7 : Option V), σ = [some (.ref a), some (.int turns), some (.int bells), some (.int late), some (.ref pb), some (.int last), v6, v7] ∧ Same H H2 ∧ H2 pb = some (.lst ((bs.take i).map V.int)) ∧ (IsBox bs ↔ AscB last (bs.drop i)) ∧ (i = 0 → last = 0) ∧ ∀ j, i = j + 1 → bs[j]? = some last) ⟨0, none, none, rfl, Same.new hpb, by rw [List.take_zero]; exact upd_same, by rw [List.drop_zero]; exact isBox_asc, fun _ => rfl, fun j h => by omega⟩ ?_ ?_⟩
    · rintro i σ H2 hi ⟨last, v6, v7, rfl, sm, hB, hb, i0, ij⟩
      rw [show (0 : Int) + (i : Int) = (i : Int) by omega]
      have hi1 : i + 1 < ns.length := by omega
      have hg := ug i _ (List.getElem?_eq_getElem hi1)
      have g1 := at_map (ns := ns) (k := i + 1) (List.getElem?_eq_getElem hi1)
      rw [show ((i + 1 : Nat) : Int) = (i : Int) + 1 by omega] at g1
      rw [ascb_drop hg] at hb
      refine ⟨_, rfl, _, rfl, _, _, rfl, rfl, _, _, _, _, rfl, rfl, sm.seq hA, g1, _, rfl, _, _, _, _, rfl, rfl, sm.seq hA, g0, _, _, rfl, rfl, _, rfl, _, _, rfl, rfl, _, _, rfl, rfl, _, rfl, _, _, rfl, rfl, _, rfl, _, _, rfl, rfl, ⟨2, 7000, by decide, lb, by decide⟩, _, _, rfl, rfl, _, _, rfl, rfl, ⟨by omega, l2b⟩, ?_⟩
      generalize (ns[i + 1] - ns.headD 0 + late - 1 - (i : Int)) / (2 * late + 1) = c at hg hb ⊢
      refine ⟨_, rfl, _, rfl, _, _, rfl, rfl, _, rfl, ifD (fun h => q2 (fun g => by have := (hb.mp (gd.mp g).1).1; omega) _ sm) (fun h => ?_)⟩
      refine ⟨_, rfl, _, rfl, .inl ⟨rfl, _, SqL.of hB⟩, _, rfl, pb, _, _, rfl, rfl, hB, by rw [List.length_map, List.length_take]; exact small1000 (by omega), ?_⟩
      refine ⟨c, _, _, rfl, sm.wr hpb, ?_, hb.trans ⟨fun z => z.2, fun z => ⟨by omega, z⟩⟩, fun z => by omega, fun j hj => ?_⟩
      · rw [upd_same, List.take_add_one, hg, List.map_append]
        rfl
      · have : j = i := by omega
        subst this
        exact hg
    · rintro σ H2 ⟨last, v6, v7, rfl, sm, hB, hb, i0, ij⟩
      have en : (bells - 1).toNat = bs.length := by omega
      rw [en] at hB hb i0 ij
      rw [List.take_length] at hB
      rw [List.drop_length] at hb
      have B : IsBox bs := hb.mpr trivial
      have ediv : (turns - bells) / (2 * late + 1) = (turns - 1 - (bs.length : Int)) / (2 * late + 1) := by rw [bl, show turns - 1 - (bells - 1) = turns - bells by omega]
      have d0 : 0 ≤ (turns - bells) / (2 * late + 1) := Int.ediv_nonneg (by omega) (by omega)
      refine ⟨_, rfl, _, rfl, _, rfl, _, _, rfl, rfl, _, rfl, _, _, rfl, rfl, ⟨2, 7000, by decide, lb, by decide⟩, _, _, rfl, rfl, _, _, rfl, rfl, ⟨by omega, l2b⟩, _, _, rfl, rfl, _, rfl, ifD (fun h => q2 (fun g => ?_) _ sm) (fun h => ?_)⟩
      · have z1 := (gd.mp g).2
        have hne : bs.length ≠ 0 := fun z => by have := i0 z; omega
        obtain ⟨j, hj⟩ : ∃ j, bs.length = j + 1 := ⟨bs.length - 1, by omega⟩
        have hla := ij j hj
        have hbs : bs = bs.take j ++ [last] := by
          have : bs.take (j + 1) = bs.take j ++ [last] := by rw [List.take_add_one, hla]; rfl
          rw [← this, ← hj, List.take_length]
        have z2 := cnt_le_num (turns := turns - 1) (late := 2 * late) B (by omega) hbs (by rw [← ediv]; omega)
        rw [bl] at z2
        omega
      have lt : numB bs < cnt (turns - 1) (bells - 1) (2 * late) := by
        have := num_lt_cnt (turns := turns - 1) (late := 2 * late) B (by omega) (by omega) (fun x hx => by
          rw [← ediv]
          obtain ⟨k, hk⟩ := List.getElem?_of_mem hx
          have hk1 := (List.getElem?_eq_some_iff.mp hk).1
          obtain ⟨j, hj⟩ : ∃ j, bs.length = j + 1 := ⟨bs.length - 1, by omega⟩
          have := B.get (show k ≤ j by omega) hk (ij j hj)
          omega)
        rwa [bl] at this
      have G := gd.mpr ⟨B, lt⟩
      refine ⟨_, rfl, _, _, rfl, .inl (SqL.of hB), _, rfl, ?_, ?_, fun acc ha => comp_rangeP (lo := 0) (n := (((bs.map V.int).length : Nat) : Int).toNat) (fun i => V.int (ch (bs.getD i 0 + (i : Int)) ((i : Int) + 1))) ha ?_ ?_ ?_⟩
      · rw [List.length_map]; omega
      · rw [List.length_map]; omega
      · rw [List.length_map]; exact Nat.le_of_lt (small1000 (by omega))
      · intro i H6 R hi s6 hR
        rw [List.length_map] at hi
        have hi1 : i < bs.length := by omega
        rw [show (0 : Int) + (i : Int) = (i : Int) by omega]
        have g1 := at_map (ns := bs) (k := i) (List.getElem?_eq_getElem hi1)
        have x0 := B.nn _ (List.getElem_mem hi1)
        have xb := sz _ (List.getElem_mem hi1)
        simp only [List.getD_eq_getElem?_getD, List.getElem?_eq_getElem hi1, Option.getD_some] at hR
        exact ⟨rfl, _, rfl, _, rfl, _, _, _, _, rfl, rfl, SqL.of (s6 _ _ hB), g1, _, rfl, _, _, rfl, rfl, _, rfl, _, _, rfl, rfl, _, _, rfl, by omega, by omega, by omega, bits_mono (intBits_add_le (m := 70000) (n := 64) xb (bits_of (by omega) (by omega))) (by decide), hR⟩
      · rw [List.length_map, Int.toNat_natCast]
        refine ⟨acc, (List.range bs.length).map fun (i : Nat) => ch (bs.getD i 0 + (i : Int)) ((i : Int) + 1), rfl, SqL.of ?_, ?_⟩
        · rw [upd_same, List.map_map]; rfl
        · rw [← numTo_sum]
          exact q1 G _ (sm.put ha)
theorem e20 : (10 : Int) ^ (20 : Int).toNat = 100000000000000000000 := by decide
theorem e10 : (10 : Int) ^ (10 : Int).toNat = 10000000000 := by decide
theorem sc_law : FnScope ["script", "cells", "k", "bells", "late", "more", "cell", "reading", "due", "handed", "caught", "found", "e"] ["script"] (defScope st_law) := ⟨rfl, rfl, rfl, by decide +kernel, rfl, by decide +kernel, by decide +kernel⟩
theorem ok_law {f : Addr} {fd : FuncData} (F : Fun K "law" "law" st_law f fd) (T : Txt K mg) (D_choose : Def K mg "choose" st_choose ["n", "k"]) (D_box_of : Def K mg "box_of" st_box_of ["row", "late"]) (D_heard_box : Def K mg "heard_box" st_heard_box ["reading", "late"]) (D_box_count : Def K mg "box_count" st_box_count ["turns", "bells", "late"]) (D_greatest_part : Def K mg "greatest_part" st_greatest_part ["turns", "bells", "late"]) (D_box_number : Def K mg "box_number" st_box_number ["box"]) (D_read : Def K mg "read" st_read ["reading", "turns", "bells", "late"]) (D_unkeyed : Def K mg "unkeyed" st_unkeyed ["reading", "turns", "bells", "late"]) (D__law_cell : Def K mg "_law_cell" st__law_cell ["script", "k"]) (D__law_drawn : Def K mg "_law_drawn" st__law_drawn ["cell", "few", "many"]) (D__law_reading : Def K mg "_law_reading" st__law_reading ["cell", "bells", "late", "more"]) (D__law_choices : Def K mg "_law_choices" st__law_choices ["n", "k"]) (D__law_due : Def K mg "_law_due" st__law_due ["reading", "turns", "bells", "late"]) {C_BellError : Addr} (m_BellError : mg "BellError" = some (.ref C_BellError)) {C_NoRow : Addr} (m_NoRow : mg "NoRow" = some (.ref C_NoRow)) {C_NoReading : Addr} (m_NoReading : mg "NoReading" = some (.ref C_NoReading)) {C_TooGreat : Addr} (m_TooGreat : mg "TooGreat" = some (.ref C_TooGreat)) {C_TooMany : Addr} (m_TooMany : mg "TooMany" = some (.ref C_TooMany)) {C_NoNote : Addr} (m_NoNote : mg "NoNote" = some (.ref C_NoNote)) {C_NoOrder : Addr} (m_NoOrder : mg "NoOrder" = some (.ref C_NoOrder)) {C_NoName : Addr} (m_NoName : mg "NoName" = some (.ref C_NoName))  (x_BellError : PySem.W.excIn K C_BellError bmV "ValueError.__new__" = true) (x_NoReading : PySem.W.excIn K C_NoReading bmV "ValueError.__new__" = true) (r_mro : PySem.W.mroIn K C_NoReading (.ref C_BellError) = some true) (r_gaNoReading : PySem.W.findIn K (.ref C_NoReading) "__getattribute__" = some (some (.builtin "BaseException.__getattribute__"))) (r_hkNoReading : PySem.W.findIn K (.ref C_NoReading) "__getattr__" = some none) (r_clNoReading : PySem.W.findIn K (.ref C_NoReading) "__class__" = some (some (.builtin "object.__class__"))) (r_gt : PySem.W.specialIn K (.builtin "object.__class__") "__get__" = some (some (.builtin "getset_descriptor.__get__"))) (r_tk : PySem.W.takesIn K (.builtin "object.__class__") = some true) (r_moNoReading : PySem.W.mroIn K C_NoReading (.type "object") = some true) (r_mbNoReading : PySem.W.mroIn K C_NoReading (.type "BaseException") = some true) (i_NoName : PySem.W.kitOne K (.ref C_NoReading) (.ref C_NoName) = some false) (i_nNoName : PySem.W.kitOne K (.type "NoneType") (.ref C_NoName) = some false) (i_NoNote : PySem.W.kitOne K (.ref C_NoReading) (.ref C_NoNote) = some false) (i_nNoNote : PySem.W.kitOne K (.type "NoneType") (.ref C_NoNote) = some false) (i_NoOrder : PySem.W.kitOne K (.ref C_NoReading) (.ref C_NoOrder) = some false) (i_nNoOrder : PySem.W.kitOne K (.type "NoneType") (.ref C_NoOrder) = some false) (i_NoRow : PySem.W.kitOne K (.ref C_NoReading) (.ref C_NoRow) = some false) (i_nNoRow : PySem.W.kitOne K (.type "NoneType") (.ref C_NoRow) = some false) (i_TooGreat : PySem.W.kitOne K (.ref C_NoReading) (.ref C_TooGreat) = some false) (i_nTooGreat : PySem.W.kitOne K (.type "NoneType") (.ref C_TooGreat) = some false) (i_TooMany : PySem.W.kitOne K (.ref C_NoReading) (.ref C_TooMany) = some false) (i_nTooMany : PySem.W.kitOne K (.type "NoneType") (.ref C_TooMany) = some false) (i_self : PySem.W.kitOne K (.ref C_NoReading) (.ref C_NoReading) = some true) (i_Value : PySem.W.kitOne K (.ref C_NoReading) (.type "ValueError") = some true) : FnOk P w K mg base CX0 6 f fd ["script"] (spLaw K) := by
  have G_choose : Fn P w K mg base 1 "choose" ["n", "k"] spChoose := ok_choose D_choose T
  have G_box_of : Fn P w K mg base 1 "box_of" ["row", "late"] (spBoxOf K) := ok_box_of D_box_of T
  have GE_heard_box : FnE P w K mg base 2 "heard_box" ["reading", "late"] (spHBoxE K C_NoReading) := ok_heard_boxE D_heard_box T m_NoReading x_NoReading G_box_of
  have G_box_count : Fn P w K mg base 2 "box_count" ["turns", "bells", "late"] spCount := ok_box_count D_box_count T (ok_greatest_part D_greatest_part) G_choose
  have G_box_number : Fn P w K mg base 2 "box_number" ["box"] (spNum K) := ok_box_number D_box_number T G_choose
  have GE_read : FnE P w K mg base 3 "read" ["reading", "turns", "bells", "late"] (spReadE K C_NoReading) := ok_readE D_read T m_NoReading x_NoReading G_box_count GE_heard_box G_box_number
  have GE_unkeyed := ok_unkeyedE D_unkeyed T m_NoReading x_NoReading GE_read
  have G__law_cell : Fn P w K mg base 1 "_law_cell" ["script", "k"] (spCell K) := ok_cell D__law_cell T
  have G__law_drawn : Fn P w K mg base 1 "_law_drawn" ["cell", "few", "many"] spDrawn := ok_drawn D__law_drawn T
  have G__law_reading := ok_readingU D__law_reading T G__law_drawn
  have G__law_choices : Fn P w K mg base 1 "_law_choices" ["n", "k"] spChoose := ok_choices D__law_choices T
  have G__law_due := ok_dueU D__law_due T G__law_choices
  have XL : ExcLook K C_NoReading := ⟨r_gaNoReading, r_hkNoReading, r_clNoReading, r_gt, r_tk, r_moNoReading, r_mbNoReading⟩
  refine F.ok sc_law (fun vs H Q E h => ?_) (fun cdv A outer s H vs Q E hr h => ?_)
  · obtain ⟨a, ns, rfl, _⟩ := h
    rfl
  · obtain ⟨a, ns, rfl, hS, hlen, q⟩ := h
    have hu := hu64 hr
    refine ⟨_, (pss_cons (ps_set (i := 1) sc_law.nd rfl (Or.inl rfl) (pe_slice sl_list (pv 0) po_none (po_some pe_int)))
      (pss_cons (ps_for PassesOwn.never rfl (pi_range3 (by rfl) T.z_range (pa_cons pe_int (pa_cons (pe_callB (call_max2 rfl) (by rfl) T.z_max b_max (pa_cons pe_int (pa_cons (pe_callB call_len_seq (by rfl) T.z_len b_len (pa_cons (pv 1) pa_nil)) pa_nil))) (pa_cons pe_int pa_nil)))) (pg_name (i := 2) sc_law.nd rfl (Or.inl rfl))
        (pss_cons (ps_set (i := 3) sc_law.nd rfl (Or.inl rfl) (pe_op op_modB (pe_fn G__law_cell (hr.mono (by decide)) (by rfl) (pa_cons (pv 1) (pa_cons (pv 2) pa_nil))) pe_int))
        (pss_cons (ps_set (i := 4) sc_law.nd rfl (Or.inl rfl) (pe_fn G__law_drawn (hr.mono (by decide)) (by rfl) (pa_cons (pe_op op_fdivB (pe_fn G__law_cell (hr.mono (by decide)) (by rfl) (pa_cons (pv 1) (pa_cons (pv 2) pa_nil))) pe_int) (pa_cons pe_int (pa_cons (pe_op op_powB pe_int pe_int) pa_nil)))))
        (pss_cons (ps_set (i := 5) sc_law.nd rfl (Or.inl rfl) (pe_fn G__law_drawn (hr.mono (by decide)) (by rfl) (pa_cons (pe_fn G__law_cell (hr.mono (by decide)) (by rfl) (pa_cons (pv 1) (pa_cons (pe_op op_addI (pv 2) pe_int) pa_nil))) (pa_cons pe_int (pa_cons (pe_op op_powB pe_int pe_int) pa_nil)))))
        (pss_cons (ps_if (pt_cmpR op_eqI (pe_op op_modB (pe_fn G__law_cell (hr.mono (by decide)) (by rfl) (pa_cons (pv 1) (pa_cons (pe_op op_addI (pv 2) pe_int) pa_nil))) pe_int) pe_int (nomark _))
          (pss_one (ps_set (i := 5) sc_law.nd rfl (Or.inl rfl) (pe_op op_subI pe_int (pe_callB (call_min2 rfl) (by rfl) T.z_min b_min (pa_cons (pv 3) (pa_cons (pe_op op_modB (pe_op op_fdivB (pe_fn G__law_cell (hr.mono (by decide)) (by rfl) (pa_cons (pv 1) (pa_cons (pe_op op_addI (pv 2) pe_int) pa_nil))) pe_int) pe_int) pa_nil))))))
          pss_nil)
        (pss_one (ps_for PassesOwn.never rfl (pi_list (pe_lst (pa_cons (pe_fn G__law_cell (hr.mono (by decide)) (by rfl) (pa_cons (pv 1) (pa_cons (pe_op op_addI (pv 2) pe_int) pa_nil))) (pa_cons (pe_fn G__law_cell (hr.mono (by decide)) (by rfl) (pa_cons (pv 1) (pa_cons (pe_op op_addI (pv 2) pe_int) pa_nil))) pa_nil)))) (pg_name (i := 6) sc_law.nd rfl (Or.inl rfl))
          (pss_cons (ps_set (i := 7) sc_law.nd rfl (Or.inl rfl) (pe_fn G__law_reading (hr.mono (by decide)) (by rfl) (pa_cons (pv 6) (pa_cons (pv 3) (pa_cons (pv 4) (pa_cons (pv 5) pa_nil))))))
          (pss_cons (ps_set (i := 8) sc_law.nd rfl (Or.inl rfl) (pe_fn G__law_due (hr.mono (by decide)) (by rfl) (pa_cons (pv 7) (pa_cons (pe_op op_addI (pv 3) (pv 5)) (pa_cons (pv 3) (pa_cons (pv 4) pa_nil))))))
          (pss_cons (ps_set (i := 9) sc_law.nd rfl (Or.inl rfl) (pe_callTy call_list_of (by rfl) T.z_list b_list (pa_cons (pv 7) pa_nil)))
          (pss_cons (ps_set (i := 10) sc_law.nd rfl (Or.inl rfl) pe_non)
          (pss_cons (ps_set (i := 11) sc_law.nd rfl (Or.inl rfl) pe_non)
          (pss_cons (ps_tryG (i := 12) rfl rfl sc_law.nd rfl rfl rfl (by rfl) m_BellError x_BellError (by decide) (fun pn xe G hx => (pss_one (ps_set (i := 11) sc_law.nd rfl (Or.inl rfl) (pe_fnG GE_unkeyed (hr.mono (by decide)) (by rfl) hx (pa_cons (pv 9) (pa_cons (pe_op op_addI (pv 3) (pv 5)) (pa_cons (pv 3) (pa_cons (pv 4) pa_nil)))))))) (fun x => (pss_one (ps_set (i := 10) sc_law.nd rfl (Or.inl rfl) (pv 12)))))
          (pss_cons (ps_if (pw_or (pt_cmpR (op_neL hu) (pv 9) (pv 7) (nomark _)) (pw_or1 (pt_val (pe_callB call_isinstT (by rfl) T.z_isinstance b_isinstance (pa_cons (pv 10) (pa_cons (pe_tup (pa_cons (pe_glob (v := .ref C_NoName) (by rfl) m_NoName rfl) (pa_cons (pe_glob (v := .ref C_NoNote) (by rfl) m_NoNote rfl) (pa_cons (pe_glob (v := .ref C_NoOrder) (by rfl) m_NoOrder rfl) (pa_cons (pe_glob (v := .ref C_NoRow) (by rfl) m_NoRow rfl) (pa_cons (pe_glob (v := .ref C_TooGreat) (by rfl) m_TooGreat rfl) (pa_cons (pe_glob (v := .ref C_TooMany) (by rfl) m_TooMany rfl) pa_nil))))))) pa_nil)))))).pt
            (pss_one (ps_ret pe_bl))
            pss_nil)
          (pss_cons (ps_if (pw_and (pt_cmpR op_isN (pv 8) pe_non (nomark _)) (pw_and1 (pt_not (pw_and (pt_val (pe_callB call_isinstC (by rfl) T.z_isinstance b_isinstance (pa_cons (pv 10) (pa_cons (pe_glob (v := .ref C_NoReading) (by rfl) m_NoReading rfl) pa_nil)))) (pw_and1 (pt_val (pe_callB call_isinstC (by rfl) T.z_isinstance b_isinstance (pa_cons (pv 10) (pa_cons (pe_bltn (v := .ty "ValueError") (by rfl) T.z_ValueError b_ValueError rfl) pa_nil)))))).pt))).pt
            (pss_one (ps_ret pe_bl))
            pss_nil)
          (pss_one (ps_if (pt_cmpR op_notN (pv 8) pe_non (nomark _))
            (pss_one (ps_if (pw_or (pt_not (pt_val (pe_callB call_isinst (by rfl) T.z_isinstance b_isinstance (pa_cons (pv 11) (pa_cons (pe_bltn (v := .ty "int") (by rfl) T.z_int b_int rfl) pa_nil))))) (pw_or (pt_val (pe_callB call_isinst (by rfl) T.z_isinstance b_isinstance (pa_cons (pv 11) (pa_cons (pe_bltn (v := .ty "bool") (by rfl) T.z_bool b_bool rfl) pa_nil)))) (pw_or1 (pt_cmpR op_neI (pv 11) (pv 8) (nomark _))))).pt
              (pss_one (ps_ret pe_bl))
              pss_nil))
            pss_nil)))))))))))))))))
      (pss_one (ps_ret pe_bl)))), ?_⟩
    have hcl := cutI_len ns none (some 16)
    refine ⟨_, rfl, _, rfl, _, _, rfl, hS, fun p0 hp0 => ?_⟩
    rw [cut_map]
    generalize cutI ns none (some 16) = cs at hcl ⊢
    have h0 : (upd H p0 (.lst (cs.map V.int))) p0 = some (.lst (cs.map V.int)) := upd_same
    generalize upd H p0 (.lst (cs.map V.int)) = H1 at h0 ⊢
    obtain ⟨m, hm⟩ := rng_ok (n := cs.length) (c := 4) (by omega) (by omega)
    refine ⟨_, rfl, _, _, rfl, .inl (SqL.of h0), _, _, rfl, 0, _, 4, m, rfl, ?_, for_range3 (lo := 0) (c := 4) (n := m) (fun i σ H2 => ∃ v2 v3 v4 v5 v6 v7 v8 v9 v10 v11 v12 : Option V, σ = [some (.ref a), some (.ref p0), v2, v3, v4, v5, v6, v7, v8, v9, v10, v11, v12] ∧ Same H1 H2) ⟨none, none, none, none, none, none, none, none, none, none, none, rfl, Same.refl _⟩ ?_ ?_⟩
    · rw [List.length_map]; exact hm
    · rintro i σ H2 hi ⟨v2, v3, v4, v5, v6, v7, v8, v9, v10, v11, v12, rfl, sm⟩
      generalize hk : (0 : Int) + (i : Int) * 4 = kk
      have k0 : 0 ≤ kk := by omega
      have h02 := sm _ _ h0
      have b0 := Int.emod_nonneg (cellOf cs kk) (show (9 : Int) ≠ 0 by decide)
      have b1 := Int.emod_lt_of_pos (cellOf cs kk) (show (0 : Int) < 9 by decide)
      refine ⟨_, rfl, _, rfl, p0, cs, kk, rfl, SqL.of h02, k0, _, _, rfl, rfl, (by decide), ?_⟩
      generalize cellOf cs kk % 9 = bells at b0 b1 ⊢
      refine ⟨_, rfl, _, rfl, p0, cs, kk, rfl, SqL.of h02, k0, _, _, rfl, rfl, ⟨by decide, by decide⟩, _, _, rfl, rfl, ⟨by decide, by decide, by decide⟩, _, 4, _, rfl, by decide, by decide, fun late l0 l1 => ?_⟩
      rw [e10] at l1
      have l2 : late < 100000000000000000000 := by omega
      have lb : intBits late ≤ 7000 := bits_mono (bits_of (m := 80) l0 (by omega)) (by decide)
      refine ⟨_, rfl, _, rfl, _, _, rfl, rfl, p0, cs, kk + 1, rfl, SqL.of h02, by omega, _, _, rfl, rfl, ⟨by decide, by decide, by decide⟩, _, 21, _, rfl, by decide, by decide, fun mo u0 u1 => ?_⟩
      rw [e20] at u1
      dsimp only [gName]
      change tSeq (tIfS _ _ _) _ _ _ _
      refine cut1 (fun σ H3 => ∃ more : Int, 0 ≤ bells + more ∧ more < 100000000000000000000 ∧ σ = [some (.ref a), some (.ref p0), some (.int kk), some (.int bells), some (.int late), some (.int more), v6, v7, v8, v9, v10, v11, v12] ∧ H3 = H2) ?_ (fun N hN => ⟨_, rfl, _, rfl, _, _, rfl, rfl, p0, cs, kk + 1, rfl, SqL.of h02, by omega, _, _, rfl, rfl, (by decide), _, _, rfl, rfl, _, rfl, ifD (fun h => ?_) (fun h => hN _ _ ⟨mo, by omega, by omega, rfl, rfl⟩)⟩)
      case refine_2 =>
        have w0 := Int.emod_nonneg (cellOf cs (kk + 1) / 16) (show (3 : Int) ≠ 0 by decide)
        refine ⟨_, rfl, _, rfl, _, rfl, _, _, rfl, rfl, p0, cs, kk + 1, rfl, SqL.of h02, by omega, _, _, rfl, rfl, ⟨by decide, by decide⟩, _, _, rfl, rfl, (by decide), _, _, rfl, _, _, rfl, rfl, hN _ _ ⟨_, ?_, ?_, rfl, rfl⟩⟩
        · split <;> omega
        · split <;> omega
      rintro σ H3 ⟨more, t0, o1, rfl, rfl⟩
      have tb : intBits (bells + more) ≤ 60000 := bits_mono (bits_of (m := 80) t0 (by omega)) (by decide)
      refine ⟨_, rfl, _, rfl, _, _, rfl, rfl, p0, cs, kk + 2, rfl, SqL.of h02, by omega, _, rfl, _, rfl, _, _, rfl, rfl, p0, cs, kk + 3, rfl, SqL.of h02, by omega, (by show 2 ≤ sizeLine; decide), fun pl hpl => ?_⟩
      have s5 : Same H3 (upd H3 pl (.lst [V.int (cellOf cs (kk + 2)), V.int (cellOf cs (kk + 3))])) := Same.new hpl
      have h5 : (upd H3 pl (.lst [V.int (cellOf cs (kk + 2)), V.int (cellOf cs (kk + 3))])) pl = some (.lst ([cellOf cs (kk + 2), cellOf cs (kk + 3)].map V.int)) := upd_same
      generalize upd H3 pl (.lst [V.int (cellOf cs (kk + 2)), V.int (cellOf cs (kk + 3))]) = H5 at s5 h5 ⊢
      generalize [cellOf cs (kk + 2), cellOf cs (kk + 3)] = two at h5
      refine ⟨pl, rfl, ⟨_, SqL.of h5⟩, for_list (K := K) (a := pl) (xs := two.map V.int) (fun i σ H6 => ∃ v6 v7 v8 v9 v10 v11 v12 : Option V, σ = [some (.ref a), some (.ref p0), some (.int kk), some (.int bells), some (.int late), some (.int more), v6, v7, v8, v9, v10, v11, v12] ∧ Same H5 H6) ⟨_, _, _, _, _, _, _, rfl, Same.refl _⟩ (fun i σ H6 _ ⟨_, _, _, _, _, _, _, _, s⟩ => SqL.of (s _ _ h5)) ?_ ?_⟩
      · rintro j y σ H6 hj ⟨w6, w7, w8, w9, w10, w11, w12, rfl, s6⟩
        rw [List.getElem?_map] at hj
        obtain ⟨cc, hcc, rfl⟩ := Option.map_eq_some_iff.mp hj
        refine ⟨_, rfl, _, rfl, _, rfl, _, rfl, cc, bells, late, more, rfl, b0, by omega, l0, l2, o1, fun pr rs H7 s7 hpr h7 rl rb => ?_⟩
        have sz := un_szs (late := late) rb (by omega) l0 (by omega)
        refine ⟨_, rfl, _, rfl, _, rfl, _, _, rfl, rfl, _, rfl, _, rfl, pr, rs, bells + more, bells, late, rfl, SqL.of h7, by omega, b0, by omega, l0, lb, t0, tb, sz, fun G H8 s8 => ?_, fun G H8 s8 => ?_⟩
        · refine ⟨_, rfl, _, _, rfl, .inl (SqL.of (s8 _ _ h7)), fun ph hph => ?_⟩
          have s9 : Same H8 (upd H8 ph (.lst (rs.map V.int))) := Same.new hph
          have h9 : (upd H8 ph (.lst (rs.map V.int))) ph = some (.lst (rs.map V.int)) := upd_same
          generalize upd H8 ph (.lst (rs.map V.int)) = H9 at s9 h9 ⊢
          refine ⟨_, rfl, _, rfl, _, rfl, _, _, rfl, rfl, _, rfl, _, rfl, ph, rs, bells + more, bells, late, rfl, SqL.of h9, by omega, b0, by omega, l0, lb, t0, tb, sz, fun _ H10 s10 => ?_, fun nB => absurd G nB⟩
          have hA := (s8.trans (s9.trans s10)) _ _ h7
          have hP := s10 _ _ h9
          refine ⟨_, rfl, _, rfl, ph, pr, rs, rs, rfl, rfl, SqL.of hP, SqL.of hA, _, rfl, iteNS rfl ?_⟩
          refine ⟨_, rfl, (by show 6 ≤ sizeLine; decide), fun tp htp => ⟨.non, tp, [C_NoName, C_NoNote, C_NoOrder, C_NoRow, C_TooGreat, C_TooMany], .type "NoneType", false, rfl, upd_same, .inl ⟨rfl, rfl⟩, kitAny_six i_nNoName i_nNoNote i_nNoOrder i_nNoRow i_nTooGreat i_nTooMany, _, rfl, iteF ?_⟩⟩
          refine ⟨_, rfl, rfl, _, rfl, ifF (fun z => nomatch z) ?_⟩
          refine ⟨_, rfl, rfl, _, rfl, ifND (fun _ => ?_) (fun z => nomatch z)⟩
          refine ⟨_, rfl, _, _, _, true, rfl, TyOf.int _, kit_int_int K, _, rfl, iteF ⟨_, rfl, _, _, _, false, rfl, TyOf.int _, kit_int_bool K, _, rfl, iteF ⟨_, rfl, _, rfl, _, _, rfl, rfl, _, rfl, iteNS rfl ?_⟩⟩⟩
          exact ⟨_, _, _, _, _, _, _, rfl, (s6.trans (s7.trans (s8.trans (s9.trans s10)))).put htp⟩
        · refine ⟨_, rfl, _, _, rfl, .inl (SqL.of (s8 _ _ h7)), fun ph hph => ?_⟩
          have s9 : Same H8 (upd H8 ph (.lst (rs.map V.int))) := Same.new hph
          have h9 : (upd H8 ph (.lst (rs.map V.int))) ph = some (.lst (rs.map V.int)) := upd_same
          generalize upd H8 ph (.lst (rs.map V.int)) = H9 at s9 h9 ⊢
          refine ⟨_, rfl, _, rfl, _, rfl, _, _, rfl, rfl, _, rfl, _, rfl, ph, rs, bells + more, bells, late, rfl, SqL.of h9, by omega, b0, by omega, l0, lb, t0, tb, sz, fun z => absurd z G, fun _ H10 s10 => ⟨C_NoReading, bmV, _, rfl, x_NoReading, by decide, r_mro, fun x hx => ?_⟩⟩
          have s11 : Same H10 (upd H10 x (excIs x (.ref C_NoReading))) := Same.new hx
          have h11 : (upd H10 x (excIs x (.ref C_NoReading))) x = some (excIs x (.ref C_NoReading)) := upd_same
          generalize upd H10 x (excIs x (.ref C_NoReading)) = H11 at s11 h11 ⊢
          have hA := (s8.trans (s9.trans (s10.trans s11))) _ _ h7
          have hP := (s10.trans s11) _ _ h9
          refine ⟨_, rfl, ?_⟩
          refine ⟨_, rfl, _, rfl, ph, pr, rs, rs, rfl, rfl, SqL.of hP, SqL.of hA, _, rfl, iteNS rfl ?_⟩
          refine ⟨_, rfl, (by show 6 ≤ sizeLine; decide), fun tp htp => ⟨.ref x, tp, [C_NoName, C_NoNote, C_NoOrder, C_NoRow, C_TooGreat, C_TooMany], .ref C_NoReading, false, rfl, upd_same, .inr ⟨x, C_NoReading, rfl, rfl, XL, (Same.new htp) _ _ h11⟩, kitAny_six i_NoName i_NoNote i_NoOrder i_NoRow i_TooGreat i_TooMany, _, rfl, iteF ?_⟩⟩
          have h12 := (Same.new (o := .tup ([C_NoName, C_NoNote, C_NoOrder, C_NoRow, C_TooGreat, C_TooMany].map V.ref)) htp) _ _ h11
          refine ⟨_, rfl, rfl, _, rfl, ifT rfl ?_⟩
          refine ⟨_, rfl, _, _, _, _, true, rfl, fun _ z => z, .exc XL h12, i_self, _, rfl, iteT ⟨_, rfl, _, _, _, _, true, rfl, fun _ z => z, .exc XL h12, i_Value, _, rfl, iteF ?_⟩⟩
          refine ⟨_, rfl, rfl, _, rfl, ifND (fun z => absurd rfl z) (fun _ => ?_)⟩
          exact ⟨_, _, _, _, _, _, _, rfl, (s6.trans (s7.trans (s8.trans (s9.trans (s10.trans s11))))).put htp⟩
      · rintro σ H6 ⟨w6, w7, w8, w9, w10, w11, w12, rfl, s6⟩
        exact ⟨_, _, _, _, _, _, _, _, _, _, _, rfl, sm.trans (s5.trans s6)⟩
    · rintro σ H2 ⟨v2, v3, v4, v5, v6, v7, v8, v9, v10, v11, v12, rfl, sm⟩
      exact q _
end
theorem all_mk {l : PySem.W.OpenLaw} {w : World} {K : PySem.W.Frag} {h : Heap} {mg : Str → Option Value} {fa : Addr} (X : K.In h) (G : h.Ns mainGlobals mg) (hfa : mg "law" = some (.ref fa))
    {f0 : Addr} {od0 an0 : Option Addr} {sl0 : Array (Option Value)} {oc0 kV0 dc0 pm0 cd0 ct0 : Value}
    (a0 : PySem.W.nsIn K mainGlobals "choose" = some (some (.ref f0))) (l0 : K.lookup f0 = some ⟨oc0, od0, .func (PySem.W.fnOf "choose" "choose" (defArgs st_choose) (defBody st_choose) (defScope st_choose) .none kV0 dc0 pm0 an0 cd0 ct0), sl0⟩) (c0 : PySem.W.codeIn K cd0 "choose" = true) (k0 : PySem.W.keepIn K (.ref f0) = true)
    {f1 : Addr} {od1 an1 : Option Addr} {sl1 : Array (Option Value)} {oc1 kV1 dc1 pm1 cd1 ct1 : Value}
    (a1 : PySem.W.nsIn K mainGlobals "box_of" = some (some (.ref f1))) (l1 : K.lookup f1 = some ⟨oc1, od1, .func (PySem.W.fnOf "box_of" "box_of" (defArgs st_box_of) (defBody st_box_of) (defScope st_box_of) .none kV1 dc1 pm1 an1 cd1 ct1), sl1⟩) (c1 : PySem.W.codeIn K cd1 "box_of" = true) (k1 : PySem.W.keepIn K (.ref f1) = true)
    {f2 : Addr} {od2 an2 : Option Addr} {sl2 : Array (Option Value)} {oc2 kV2 dc2 pm2 cd2 ct2 : Value}
    (a2 : PySem.W.nsIn K mainGlobals "heard_box" = some (some (.ref f2))) (l2 : K.lookup f2 = some ⟨oc2, od2, .func (PySem.W.fnOf "heard_box" "heard_box" (defArgs st_heard_box) (defBody st_heard_box) (defScope st_heard_box) .none kV2 dc2 pm2 an2 cd2 ct2), sl2⟩) (c2 : PySem.W.codeIn K cd2 "heard_box" = true) (k2 : PySem.W.keepIn K (.ref f2) = true)
    {f3 : Addr} {od3 an3 : Option Addr} {sl3 : Array (Option Value)} {oc3 kV3 dc3 pm3 cd3 ct3 : Value}
    (a3 : PySem.W.nsIn K mainGlobals "box_count" = some (some (.ref f3))) (l3 : K.lookup f3 = some ⟨oc3, od3, .func (PySem.W.fnOf "box_count" "box_count" (defArgs st_box_count) (defBody st_box_count) (defScope st_box_count) .none kV3 dc3 pm3 an3 cd3 ct3), sl3⟩) (c3 : PySem.W.codeIn K cd3 "box_count" = true) (k3 : PySem.W.keepIn K (.ref f3) = true)
    {f4 : Addr} {od4 an4 : Option Addr} {sl4 : Array (Option Value)} {oc4 kV4 dc4 pm4 cd4 ct4 : Value}
    (a4 : PySem.W.nsIn K mainGlobals "greatest_part" = some (some (.ref f4))) (l4 : K.lookup f4 = some ⟨oc4, od4, .func (PySem.W.fnOf "greatest_part" "greatest_part" (defArgs st_greatest_part) (defBody st_greatest_part) (defScope st_greatest_part) .none kV4 dc4 pm4 an4 cd4 ct4), sl4⟩) (c4 : PySem.W.codeIn K cd4 "greatest_part" = true) (k4 : PySem.W.keepIn K (.ref f4) = true)
    {f5 : Addr} {od5 an5 : Option Addr} {sl5 : Array (Option Value)} {oc5 kV5 dc5 pm5 cd5 ct5 : Value}
    (a5 : PySem.W.nsIn K mainGlobals "box_number" = some (some (.ref f5))) (l5 : K.lookup f5 = some ⟨oc5, od5, .func (PySem.W.fnOf "box_number" "box_number" (defArgs st_box_number) (defBody st_box_number) (defScope st_box_number) .none kV5 dc5 pm5 an5 cd5 ct5), sl5⟩) (c5 : PySem.W.codeIn K cd5 "box_number" = true) (k5 : PySem.W.keepIn K (.ref f5) = true)
    {f6 : Addr} {od6 an6 : Option Addr} {sl6 : Array (Option Value)} {oc6 kV6 dc6 pm6 cd6 ct6 : Value}
    (a6 : PySem.W.nsIn K mainGlobals "read" = some (some (.ref f6))) (l6 : K.lookup f6 = some ⟨oc6, od6, .func (PySem.W.fnOf "read" "read" (defArgs st_read) (defBody st_read) (defScope st_read) .none kV6 dc6 pm6 an6 cd6 ct6), sl6⟩) (c6 : PySem.W.codeIn K cd6 "read" = true) (k6 : PySem.W.keepIn K (.ref f6) = true)
    {f7 : Addr} {od7 an7 : Option Addr} {sl7 : Array (Option Value)} {oc7 kV7 dc7 pm7 cd7 ct7 : Value}
    (a7 : PySem.W.nsIn K mainGlobals "unkeyed" = some (some (.ref f7))) (l7 : K.lookup f7 = some ⟨oc7, od7, .func (PySem.W.fnOf "unkeyed" "unkeyed" (defArgs st_unkeyed) (defBody st_unkeyed) (defScope st_unkeyed) .none kV7 dc7 pm7 an7 cd7 ct7), sl7⟩) (c7 : PySem.W.codeIn K cd7 "unkeyed" = true) (k7 : PySem.W.keepIn K (.ref f7) = true)
    {f8 : Addr} {od8 an8 : Option Addr} {sl8 : Array (Option Value)} {oc8 kV8 dc8 pm8 cd8 ct8 : Value}
    (a8 : PySem.W.nsIn K mainGlobals "_law_cell" = some (some (.ref f8))) (l8 : K.lookup f8 = some ⟨oc8, od8, .func (PySem.W.fnOf "_law_cell" "_law_cell" (defArgs st__law_cell) (defBody st__law_cell) (defScope st__law_cell) .none kV8 dc8 pm8 an8 cd8 ct8), sl8⟩) (c8 : PySem.W.codeIn K cd8 "_law_cell" = true) (k8 : PySem.W.keepIn K (.ref f8) = true)
    {f9 : Addr} {od9 an9 : Option Addr} {sl9 : Array (Option Value)} {oc9 kV9 dc9 pm9 cd9 ct9 : Value}
    (a9 : PySem.W.nsIn K mainGlobals "_law_drawn" = some (some (.ref f9))) (l9 : K.lookup f9 = some ⟨oc9, od9, .func (PySem.W.fnOf "_law_drawn" "_law_drawn" (defArgs st__law_drawn) (defBody st__law_drawn) (defScope st__law_drawn) .none kV9 dc9 pm9 an9 cd9 ct9), sl9⟩) (c9 : PySem.W.codeIn K cd9 "_law_drawn" = true) (k9 : PySem.W.keepIn K (.ref f9) = true)
    {f10 : Addr} {od10 an10 : Option Addr} {sl10 : Array (Option Value)} {oc10 kV10 dc10 pm10 cd10 ct10 : Value}
    (a10 : PySem.W.nsIn K mainGlobals "_law_reading" = some (some (.ref f10))) (l10 : K.lookup f10 = some ⟨oc10, od10, .func (PySem.W.fnOf "_law_reading" "_law_reading" (defArgs st__law_reading) (defBody st__law_reading) (defScope st__law_reading) .none kV10 dc10 pm10 an10 cd10 ct10), sl10⟩) (c10 : PySem.W.codeIn K cd10 "_law_reading" = true) (k10 : PySem.W.keepIn K (.ref f10) = true)
    {f11 : Addr} {od11 an11 : Option Addr} {sl11 : Array (Option Value)} {oc11 kV11 dc11 pm11 cd11 ct11 : Value}
    (a11 : PySem.W.nsIn K mainGlobals "_law_choices" = some (some (.ref f11))) (l11 : K.lookup f11 = some ⟨oc11, od11, .func (PySem.W.fnOf "_law_choices" "_law_choices" (defArgs st__law_choices) (defBody st__law_choices) (defScope st__law_choices) .none kV11 dc11 pm11 an11 cd11 ct11), sl11⟩) (c11 : PySem.W.codeIn K cd11 "_law_choices" = true) (k11 : PySem.W.keepIn K (.ref f11) = true)
    {f12 : Addr} {od12 an12 : Option Addr} {sl12 : Array (Option Value)} {oc12 kV12 dc12 pm12 cd12 ct12 : Value}
    (a12 : PySem.W.nsIn K mainGlobals "_law_due" = some (some (.ref f12))) (l12 : K.lookup f12 = some ⟨oc12, od12, .func (PySem.W.fnOf "_law_due" "_law_due" (defArgs st__law_due) (defBody st__law_due) (defScope st__law_due) .none kV12 dc12 pm12 an12 cd12 ct12), sl12⟩) (c12 : PySem.W.codeIn K cd12 "_law_due" = true) (k12 : PySem.W.keepIn K (.ref f12) = true)
    {f13 : Addr} {od13 an13 : Option Addr} {sl13 : Array (Option Value)} {oc13 kV13 dc13 pm13 cd13 ct13 : Value}
    (a13 : PySem.W.nsIn K mainGlobals "law" = some (some (.ref f13))) (l13 : K.lookup f13 = some ⟨oc13, od13, .func (PySem.W.fnOf "law" "law" (defArgs st_law) (defBody st_law) (defScope st_law) .none kV13 dc13 pm13 an13 cd13 ct13), sl13⟩) (c13 : PySem.W.codeIn K cd13 "law" = true) (k13 : PySem.W.keepIn K (.ref f13) = true)
    (z_range : PySem.W.nsIn K mainGlobals "range" = some none)
    (z_isinstance : PySem.W.nsIn K mainGlobals "isinstance" = some none)
    (z_int : PySem.W.nsIn K mainGlobals "int" = some none)
    (z_bool : PySem.W.nsIn K mainGlobals "bool" = some none)
    (z_list : PySem.W.nsIn K mainGlobals "list" = some none)
    (z_len : PySem.W.nsIn K mainGlobals "len" = some none)
    (z_max : PySem.W.nsIn K mainGlobals "max" = some none)
    (z_min : PySem.W.nsIn K mainGlobals "min" = some none)
    (z_sorted : PySem.W.nsIn K mainGlobals "sorted" = some none)
    (z_sum : PySem.W.nsIn K mainGlobals "sum" = some none)
    (z_enumerate : PySem.W.nsIn K mainGlobals "enumerate" = some none)
    (z_ValueError : PySem.W.nsIn K mainGlobals "ValueError" = some none)
    {C_BellError : Addr} (m_BellError : PySem.W.nsIn K mainGlobals "BellError" = some (some (.ref C_BellError)))
    {C_NoRow : Addr} (m_NoRow : PySem.W.nsIn K mainGlobals "NoRow" = some (some (.ref C_NoRow)))
    {C_NoReading : Addr} (m_NoReading : PySem.W.nsIn K mainGlobals "NoReading" = some (some (.ref C_NoReading)))
    {C_TooGreat : Addr} (m_TooGreat : PySem.W.nsIn K mainGlobals "TooGreat" = some (some (.ref C_TooGreat)))
    {C_TooMany : Addr} (m_TooMany : PySem.W.nsIn K mainGlobals "TooMany" = some (some (.ref C_TooMany)))
    {C_NoNote : Addr} (m_NoNote : PySem.W.nsIn K mainGlobals "NoNote" = some (some (.ref C_NoNote)))
    {C_NoOrder : Addr} (m_NoOrder : PySem.W.nsIn K mainGlobals "NoOrder" = some (some (.ref C_NoOrder)))
    {C_NoName : Addr} (m_NoName : PySem.W.nsIn K mainGlobals "NoName" = some (some (.ref C_NoName)))
    (x_BellError : PySem.W.excIn K C_BellError bmV "ValueError.__new__" = true)
    (x_NoReading : PySem.W.excIn K C_NoReading bmV "ValueError.__new__" = true)
    (r_mro : PySem.W.mroIn K C_NoReading (.ref C_BellError) = some true)
    (r_gaNoReading : PySem.W.findIn K (.ref C_NoReading) "__getattribute__" = some (some (.builtin "BaseException.__getattribute__")))
    (r_hkNoReading : PySem.W.findIn K (.ref C_NoReading) "__getattr__" = some none)
    (r_clNoReading : PySem.W.findIn K (.ref C_NoReading) "__class__" = some (some (.builtin "object.__class__")))
    (r_gt : PySem.W.specialIn K (.builtin "object.__class__") "__get__" = some (some (.builtin "getset_descriptor.__get__")))
    (r_tk : PySem.W.takesIn K (.builtin "object.__class__") = some true)
    (r_moNoReading : PySem.W.mroIn K C_NoReading (.type "object") = some true)
    (r_mbNoReading : PySem.W.mroIn K C_NoReading (.type "BaseException") = some true)
    (i_NoName : PySem.W.kitOne K (.ref C_NoReading) (.ref C_NoName) = some false)
    (i_nNoName : PySem.W.kitOne K (.type "NoneType") (.ref C_NoName) = some false)
    (i_NoNote : PySem.W.kitOne K (.ref C_NoReading) (.ref C_NoNote) = some false)
    (i_nNoNote : PySem.W.kitOne K (.type "NoneType") (.ref C_NoNote) = some false)
    (i_NoOrder : PySem.W.kitOne K (.ref C_NoReading) (.ref C_NoOrder) = some false)
    (i_nNoOrder : PySem.W.kitOne K (.type "NoneType") (.ref C_NoOrder) = some false)
    (i_NoRow : PySem.W.kitOne K (.ref C_NoReading) (.ref C_NoRow) = some false)
    (i_nNoRow : PySem.W.kitOne K (.type "NoneType") (.ref C_NoRow) = some false)
    (i_TooGreat : PySem.W.kitOne K (.ref C_NoReading) (.ref C_TooGreat) = some false)
    (i_nTooGreat : PySem.W.kitOne K (.type "NoneType") (.ref C_TooGreat) = some false)
    (i_TooMany : PySem.W.kitOne K (.ref C_NoReading) (.ref C_TooMany) = some false)
    (i_nTooMany : PySem.W.kitOne K (.type "NoneType") (.ref C_TooMany) = some false)
    (i_self : PySem.W.kitOne K (.ref C_NoReading) (.ref C_NoReading) = some true)
    (i_Value : PySem.W.kitOne K (.ref C_NoReading) (.type "ValueError") = some true)
    : ∃ fd : FuncData, (∀ (s : Shared) (v : Value), BindsTo s fd ⟨[v], []⟩ [("script", v)]) ∧ ∀ base : Heap, K.In base → base.Ns mainGlobals mg → FnOk l.prog w K mg base CX0 6 fa fd ["script"] (spLaw K) := by
  have e := hfa.symm.trans (PySem.W.mg_of X G a13)
  cases e
  have D_choose : Def K mg "choose" st_choose ["n", "k"] := ⟨f0, _, fun_mk l0 c0 k0, (fun_mk (st := st_choose) l0 c0 k0).binds (ps := ["n", "k"]) (fun _ _ _ _ _ _ us hl => match us, hl with | [_, _], _ => rfl), PySem.W.mg_of X G a0⟩
  have D_box_of : Def K mg "box_of" st_box_of ["row", "late"] := ⟨f1, _, fun_mk l1 c1 k1, (fun_mk (st := st_box_of) l1 c1 k1).binds (ps := ["row", "late"]) (fun _ _ _ _ _ _ us hl => match us, hl with | [_, _], _ => rfl), PySem.W.mg_of X G a1⟩
  have D_heard_box : Def K mg "heard_box" st_heard_box ["reading", "late"] := ⟨f2, _, fun_mk l2 c2 k2, (fun_mk (st := st_heard_box) l2 c2 k2).binds (ps := ["reading", "late"]) (fun _ _ _ _ _ _ us hl => match us, hl with | [_, _], _ => rfl), PySem.W.mg_of X G a2⟩
  have D_box_count : Def K mg "box_count" st_box_count ["turns", "bells", "late"] := ⟨f3, _, fun_mk l3 c3 k3, (fun_mk (st := st_box_count) l3 c3 k3).binds (ps := ["turns", "bells", "late"]) (fun _ _ _ _ _ _ us hl => match us, hl with | [_, _, _], _ => rfl), PySem.W.mg_of X G a3⟩
  have D_greatest_part : Def K mg "greatest_part" st_greatest_part ["turns", "bells", "late"] := ⟨f4, _, fun_mk l4 c4 k4, (fun_mk (st := st_greatest_part) l4 c4 k4).binds (ps := ["turns", "bells", "late"]) (fun _ _ _ _ _ _ us hl => match us, hl with | [_, _, _], _ => rfl), PySem.W.mg_of X G a4⟩
  have D_box_number : Def K mg "box_number" st_box_number ["box"] := ⟨f5, _, fun_mk l5 c5 k5, (fun_mk (st := st_box_number) l5 c5 k5).binds (ps := ["box"]) (fun _ _ _ _ _ _ us hl => match us, hl with | [_], _ => rfl), PySem.W.mg_of X G a5⟩
  have D_read : Def K mg "read" st_read ["reading", "turns", "bells", "late"] := ⟨f6, _, fun_mk l6 c6 k6, (fun_mk (st := st_read) l6 c6 k6).binds (ps := ["reading", "turns", "bells", "late"]) (fun _ _ _ _ _ _ us hl => match us, hl with | [_, _, _, _], _ => rfl), PySem.W.mg_of X G a6⟩
  have D_unkeyed : Def K mg "unkeyed" st_unkeyed ["reading", "turns", "bells", "late"] := ⟨f7, _, fun_mk l7 c7 k7, (fun_mk (st := st_unkeyed) l7 c7 k7).binds (ps := ["reading", "turns", "bells", "late"]) (fun _ _ _ _ _ _ us hl => match us, hl with | [_, _, _, _], _ => rfl), PySem.W.mg_of X G a7⟩
  have D__law_cell : Def K mg "_law_cell" st__law_cell ["script", "k"] := ⟨f8, _, fun_mk l8 c8 k8, (fun_mk (st := st__law_cell) l8 c8 k8).binds (ps := ["script", "k"]) (fun _ _ _ _ _ _ us hl => match us, hl with | [_, _], _ => rfl), PySem.W.mg_of X G a8⟩
  have D__law_drawn : Def K mg "_law_drawn" st__law_drawn ["cell", "few", "many"] := ⟨f9, _, fun_mk l9 c9 k9, (fun_mk (st := st__law_drawn) l9 c9 k9).binds (ps := ["cell", "few", "many"]) (fun _ _ _ _ _ _ us hl => match us, hl with | [_, _, _], _ => rfl), PySem.W.mg_of X G a9⟩
  have D__law_reading : Def K mg "_law_reading" st__law_reading ["cell", "bells", "late", "more"] := ⟨f10, _, fun_mk l10 c10 k10, (fun_mk (st := st__law_reading) l10 c10 k10).binds (ps := ["cell", "bells", "late", "more"]) (fun _ _ _ _ _ _ us hl => match us, hl with | [_, _, _, _], _ => rfl), PySem.W.mg_of X G a10⟩
  have D__law_choices : Def K mg "_law_choices" st__law_choices ["n", "k"] := ⟨f11, _, fun_mk l11 c11 k11, (fun_mk (st := st__law_choices) l11 c11 k11).binds (ps := ["n", "k"]) (fun _ _ _ _ _ _ us hl => match us, hl with | [_, _], _ => rfl), PySem.W.mg_of X G a11⟩
  have D__law_due : Def K mg "_law_due" st__law_due ["reading", "turns", "bells", "late"] := ⟨f12, _, fun_mk l12 c12 k12, (fun_mk (st := st__law_due) l12 c12 k12).binds (ps := ["reading", "turns", "bells", "late"]) (fun _ _ _ _ _ _ us hl => match us, hl with | [_, _, _, _], _ => rfl), PySem.W.mg_of X G a12⟩
  have T : Txt K mg := ⟨PySem.W.mg_none_of X G z_range, PySem.W.mg_none_of X G z_isinstance, PySem.W.mg_none_of X G z_int, PySem.W.mg_none_of X G z_bool, PySem.W.mg_none_of X G z_list, PySem.W.mg_none_of X G z_len, PySem.W.mg_none_of X G z_max, PySem.W.mg_none_of X G z_min, PySem.W.mg_none_of X G z_sorted, PySem.W.mg_none_of X G z_sum, PySem.W.mg_none_of X G z_enumerate, PySem.W.mg_none_of X G z_ValueError⟩
  exact ⟨PySem.W.fnOf "law" "law" (defArgs st_law) (defBody st_law) (defScope st_law) .none kV13 dc13 pm13 an13 cd13 ct13, fun s v => .of_eq rfl, fun base _ _ => ok_law (fun_mk l13 c13 k13) T D_choose D_box_of D_heard_box D_box_count D_greatest_part D_box_number D_read D_unkeyed D__law_cell D__law_drawn D__law_reading D__law_choices D__law_due (PySem.W.mg_of X G m_BellError) (PySem.W.mg_of X G m_NoRow) (PySem.W.mg_of X G m_NoReading) (PySem.W.mg_of X G m_TooGreat) (PySem.W.mg_of X G m_TooMany) (PySem.W.mg_of X G m_NoNote) (PySem.W.mg_of X G m_NoOrder) (PySem.W.mg_of X G m_NoName) x_BellError x_NoReading r_mro r_gaNoReading r_hkNoReading r_clNoReading r_gt r_tk r_moNoReading r_mbNoReading i_NoName i_nNoName i_NoNote i_nNoNote i_NoOrder i_nNoOrder i_NoRow i_nNoRow i_TooGreat i_nTooGreat i_TooMany i_nTooMany i_self i_Value⟩
theorem walk {l : PySem.W.OpenLaw} {q : Program} {loose : List Str} {XP : (Str → Option Value) → Heap → Prop} {YP : World → Heap → Prop} {d : DefRec} {K : Params → PySem.W.Frag} (hn : l.most = some 63) (hdf : d.params.defaults = []) (hq : PyProof.Rows.importsNone q = true)
    (hY : ∀ (w : World) (h : Heap), YP w h → (K w.params).In h)
    (F : ∀ (w : World) (mg : Str → Option Value) (fa : Addr) (h : Heap), (K w.params).In h → h.Ns mainGlobals mg → mg d.name = some (.ref fa) →
      ∃ fd : FuncData, (∀ (s : Shared) (u : Value), BindsTo s fd ⟨[u], []⟩ [("script", u)]) ∧ ∀ base : Heap, (K w.params).In base → base.Ns mainGlobals mg → FnOk l.prog w (K w.params) mg base CX0 6 fa fd ["script"] (spLaw (K w.params))) :
    PySem.W.WalkO q loose XP YP l.row.toRowW d [] (fun f vs => PySem.call f vs) :=
  L2.walk_of (n := 63) (k := 6) (x := "script") (CX := fun _ => CX0) (sp := fun w => spLaw (K w.params)) hn (by decide) hdf hq ⟨rfl, by decide, by decide⟩ hY F (fun _ _ a ns hl hbt _ hS => ⟨a, ns, rfl, hS, hl, fun _ => rfl⟩) fun _ _ _ _ _ z => z
end Bw
open PySem PySem.W PyProof.Rows
set_option maxRecDepth 100000 in
set_option maxHeartbeats 0 in
theorem PySem.Challenge.cw_bellwrite_k76_readings_not_unkeyed_holds : PySem.Challenge.rw_bellwrite_k76_readings_not_unkeyed.Holds := by
  w_on; o_law; k_head; (case hw => w_witness2)
  k_fill
  refine Bw.walk (l := PySem.Challenge.rw_bellwrite_k76_readings_not_unkeyed) rfl rfl (by decide +kernel) (fun w h Y => PySem.W.kIn_of Y) ?F
  case F =>
    intro w mg fa h KX G hmg
    refine' Bw.all_mk (l := PySem.Challenge.rw_bellwrite_k76_readings_not_unkeyed) KX G hmg ?a0 ?l0 ?c0 ?k0 ?a1 ?l1 ?c1 ?k1 ?a2 ?l2 ?c2 ?k2 ?a3 ?l3 ?c3 ?k3 ?a4 ?l4 ?c4 ?k4 ?a5 ?l5 ?c5 ?k5 ?a6 ?l6 ?c6 ?k6 ?a7 ?l7 ?c7 ?k7 ?a8 ?l8 ?c8 ?k8 ?a9 ?l9 ?c9 ?k9 ?a10 ?l10 ?c10 ?k10 ?a11 ?l11 ?c11 ?k11 ?a12 ?l12 ?c12 ?k12 ?a13 ?l13 ?c13 ?k13 ?z_range ?z_isinstance ?z_int ?z_bool ?z_list ?z_len ?z_max ?z_min ?z_sorted ?z_sum ?z_enumerate ?z_ValueError ?m_BellError ?m_NoRow ?m_NoReading ?m_TooGreat ?m_TooMany ?m_NoNote ?m_NoOrder ?m_NoName ?x_BellError ?x_NoReading ?r_mro ?r_gaNoReading ?r_hkNoReading ?r_clNoReading ?r_gt ?r_tk ?r_moNoReading ?r_mbNoReading ?i_NoName ?i_nNoName ?i_NoNote ?i_nNoNote ?i_NoOrder ?i_nNoOrder ?i_NoRow ?i_nNoRow ?i_TooGreat ?i_nTooGreat ?i_TooMany ?i_nTooMany ?i_self ?i_Value
    (case a0 => k_is)
    (case l0 => k_is)
    (case c0 => k_is)
    (case k0 => k_is)
    (case a1 => k_is)
    (case l1 => k_is)
    (case c1 => k_is)
    (case k1 => k_is)
    (case a2 => k_is)
    (case l2 => k_is)
    (case c2 => k_is)
    (case k2 => k_is)
    (case a3 => k_is)
    (case l3 => k_is)
    (case c3 => k_is)
    (case k3 => k_is)
    (case a4 => k_is)
    (case l4 => k_is)
    (case c4 => k_is)
    (case k4 => k_is)
    (case a5 => k_is)
    (case l5 => k_is)
    (case c5 => k_is)
    (case k5 => k_is)
    (case a6 => k_is)
    (case l6 => k_is)
    (case c6 => k_is)
    (case k6 => k_is)
    (case a7 => k_is)
    (case l7 => k_is)
    (case c7 => k_is)
    (case k7 => k_is)
    (case a8 => k_is)
    (case l8 => k_is)
    (case c8 => k_is)
    (case k8 => k_is)
    (case a9 => k_is)
    (case l9 => k_is)
    (case c9 => k_is)
    (case k9 => k_is)
    (case a10 => k_is)
    (case l10 => k_is)
    (case c10 => k_is)
    (case k10 => k_is)
    (case a11 => k_is)
    (case l11 => k_is)
    (case c11 => k_is)
    (case k11 => k_is)
    (case a12 => k_is)
    (case l12 => k_is)
    (case c12 => k_is)
    (case k12 => k_is)
    (case a13 => k_is)
    (case l13 => k_is)
    (case c13 => k_is)
    (case k13 => k_is)
    (case z_range => k_is)
    (case z_isinstance => k_is)
    (case z_int => k_is)
    (case z_bool => k_is)
    (case z_list => k_is)
    (case z_len => k_is)
    (case z_max => k_is)
    (case z_min => k_is)
    (case z_sorted => k_is)
    (case z_sum => k_is)
    (case z_enumerate => k_is)
    (case z_ValueError => k_is)
    (case m_BellError => k_is)
    (case m_NoRow => k_is)
    (case m_NoReading => k_is)
    (case m_TooGreat => k_is)
    (case m_TooMany => k_is)
    (case m_NoNote => k_is)
    (case m_NoOrder => k_is)
    (case m_NoName => k_is)
    (case x_BellError => k_exc)
    (case x_NoReading => k_exc)
    (case r_mro => k_is)
    (case r_gaNoReading => k_is)
    (case r_hkNoReading => k_is)
    (case r_clNoReading => k_is)
    (case r_gt => k_is)
    (case r_tk => k_is)
    (case r_moNoReading => k_is)
    (case r_mbNoReading => k_is)
    (case i_NoName => kit_is)
    (case i_nNoName => kit_is)
    (case i_NoNote => kit_is)
    (case i_nNoNote => kit_is)
    (case i_NoOrder => kit_is)
    (case i_nNoOrder => kit_is)
    (case i_NoRow => kit_is)
    (case i_nNoRow => kit_is)
    (case i_TooGreat => kit_is)
    (case i_nTooGreat => kit_is)
    (case i_TooMany => kit_is)
    (case i_nTooMany => kit_is)
    (case i_self => kit_is)
    (case i_Value => kit_is)