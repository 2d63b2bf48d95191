import PyProof.Rows.All
import Wide.All
import OpenK.AllK
import Wide.FinOn
import Lean
import PyProof.EqAt
import PyProof.EqKinds
import PyProof.TupleCall
import KE.IntBitsLaws
import PySem.Challenge.RW_bellwrite_k61_rung
set_option Elab.async false
set_option linter.all false
set_option maxRecDepth 100000
set_option maxHeartbeats 4000000
namespace L2
open PySem PySem.Spec PyProof.Rows
abbrev Key := Sum Int Str
def keyIs : Key → Value → Bool
  | .inl k, v => Value.isInt k v
  | .inr x, v => Value.isStrOf x v
def keyH (w : World) : Key → Int
  | .inl k => hashInt k
  | .inr x => hashStr w x
theorem keyIs_shape : ∀ {k : Key} {v : Value}, keyIs k v = true → (∃ i t, k = Sum.inl i ∧ v = Value.int i t) ∨ (∃ x t, k = Sum.inr x ∧ v = Value.str x t)
  | .inl i, v, h => by
    obtain ⟨t, e⟩ := Value.isInt_shape (k := i) (v := v) h
    exact .inl ⟨i, t, rfl, e⟩
  | .inr x, v, h => by
    obtain ⟨t, e⟩ := Value.isStrOf_shape (x := x) (v := v) h
    exact .inr ⟨x, t, rfl, e⟩
theorem key_ll (a b : Int) : decide ((Sum.inl a : Key) = Sum.inl b) = (a == b) := by
  by_cases e : a = b
  · subst e; simp
  · have h : ¬ (Sum.inl a : Key) = Sum.inl b := fun q => e (Sum.inl.inj q)
    rw [decide_eq_false h]
    exact (beq_eq_false_iff_ne.mpr e).symm
theorem key_rr (a b : Str) : decide ((Sum.inr a : Key) = Sum.inr b) = decide (a = b) := by
  by_cases e : a = b
  · subst e; simp
  · have h : ¬ (Sum.inr a : Key) = Sum.inr b := fun q => e (Sum.inr.inj q)
    rw [decide_eq_false h, decide_eq_false e]
theorem key_lr (a : Int) (b : Str) : decide ((Sum.inl a : Key) = Sum.inr b) = false := decide_eq_false (fun q => nomatch q)
theorem key_rl (a : Str) (b : Int) : decide ((Sum.inr a : Key) = Sum.inl b) = false := decide_eq_false (fun q => nomatch q)
def mixKind (prog : Program) (w : World) : PySem.KeyKind prog w Key where
  is := keyIs
  hash := keyH w
  inj := fun v a b ha hb => by
    rcases keyIs_shape ha with ⟨i, t, rfl, rfl⟩ | ⟨x, t, rfl, rfl⟩
    · rcases keyIs_shape hb with ⟨j, u, rfl, e⟩ | ⟨y, u, rfl, e⟩
      · injection e with e1 _; rw [e1]
      · exact nomatch e
    · rcases keyIs_shape hb with ⟨j, u, rfl, e⟩ | ⟨y, u, rfl, e⟩
      · exact nomatch e
      · injection e with e1 _; rw [e1]
  byValue := fun k v h => by
    rcases keyIs_shape h with ⟨i, t, rfl, rfl⟩ | ⟨x, t, rfl, rfl⟩ <;> rfl
  pyHash := fun hv h => by
    rcases keyIs_shape hv with ⟨i, t, rfl, rfl⟩ | ⟨x, t, rfl, rfl⟩
    · exact wpAny_pyHash_int h
    · exact wpAny_pyHash_str h
  eqBool := fun hu hv h => by
    rcases keyIs_shape hu with ⟨i, t, rfl, rfl⟩ | ⟨x, t, rfl, rfl⟩
    · rcases keyIs_shape hv with ⟨j, u, rfl, rfl⟩ | ⟨y, u, rfl, rfl⟩
      · rw [key_ll] at h; exact wpAny_eqBool_int h
      · rw [key_lr] at h; exact SeqAt.EqAt.int_str i t y u _ _ _ _ h
    · rcases keyIs_shape hv with ⟨j, u, rfl, rfl⟩ | ⟨y, u, rfl, rfl⟩
      · rw [key_rl] at h; exact SeqAt.EqAt.str_int x t j u _ _ _ _ h
      · rw [key_rr] at h; exact wpAny_eqBool_str h
  «strs» := fun k x t v h => by
    rcases keyIs_shape h with ⟨i, u, rfl, e⟩ | ⟨y, u, rfl, e⟩
    · exact nomatch e
    · injection e with e1 _
      subst e1
      cases v <;> rfl
end L2
namespace L2
open PySem PySem.Spec PyProof.Rows
inductive V where
  | non | bl (b : Bool) | int (i : Int) | str (x : Str) | byt (b : Array UInt8) | flt (b : UInt64) | ref (a : Addr) | ty (n : String)
  deriving DecidableEq
def RelV : V → Value → Prop
  | .non, u => u = Value.none
  | .bl b, u => u = Value.bool b
  | .int i, u => ∃ t, u = Value.int i t
  | .str x, u => ∃ t, u = Value.str x t
  | .byt b, u => ∃ t, u = Value.bytes b t
  | .flt b, u => ∃ t, u = Value.float b t
  | .ref a, u => u = Value.ref a
  | .ty n, u => u = Value.type n
abbrev Vals : List V → List Value → Prop := Paired RelV
theorem Vals.length {xs : List V} {us : List Value} (r : Vals xs us) : xs.length = us.length := Paired.length r
theorem Vals.get : ∀ {xs : List V} {us : List Value} {i : Nat} {x : V}, Vals xs us → xs[i]? = some x → ∃ u, us[i]? = some u ∧ RelV x u
  | _, _, _, _, .nil, e => by simp at e
  | _, _, 0, _, .cons r _, e => by simp at e; subst e; exact ⟨_, rfl, r⟩
  | _, _, i + 1, x, .cons _ t, e => by
    obtain ⟨u, h1, h2⟩ := Vals.get (i := i) (x := x) t (by simpa using e)
    exact ⟨u, by simpa using h1, h2⟩
theorem Vals.set {x : V} {u : Value} (r : RelV x u) : ∀ {xs : List V} {us : List Value} (i : Nat), Vals xs us → Vals (xs.set i x) (us.set i u)
  | _, _, _, .nil => .nil
  | _, _, 0, .cons _ t => .cons r t
  | _, _, i + 1, .cons q t => .cons q (Vals.set r i t)
theorem Vals.append : ∀ {xs ys : List V} {us ws : List Value}, Vals xs us → Vals ys ws → Vals (xs ++ ys) (us ++ ws)
  | _, _, _, _, .nil, s => s
  | _, _, _, _, .cons r t, s => .cons r (Vals.append t s)
theorem Vals.take : ∀ {xs : List V} {us : List Value} (n : Nat), Vals xs us → Vals (xs.take n) (us.take n)
  | _, _, 0, _ => .nil
  | _, _, _ + 1, .nil => .nil
  | _, _, n + 1, .cons r t => .cons r (Vals.take n t)
theorem Vals.drop : ∀ {xs : List V} {us : List Value} (n : Nat), Vals xs us → Vals (xs.drop n) (us.drop n)
  | _, _, 0, r => r
  | _, _, _ + 1, .nil => .nil
  | _, _, n + 1, .cons _ t => Vals.drop n t
theorem Vals.none_of : ∀ {xs : List V} {us : List Value} {i : Nat}, Vals xs us → xs[i]? = none → us[i]? = none := fun {xs us i} r e => by
  have h1 := r.length
  have h2 : xs.length ≤ i := List.getElem?_eq_none_iff.mp e
  exact List.getElem?_eq_none_iff.mpr (by omega)
def RelO : Option V → Option Value → Prop
  | some v, some u => RelV v u
  | none, none => True
  | _, _ => False
def KV {κ : Type} : List (κ × V) → List (κ × Value) → Prop := Paired fun (p : κ × V) (q : κ × Value) => p.1 = q.1 ∧ RelV p.2 q.2
def kV : Key → V
  | .inl i => .int i
  | .inr x => .str x
inductive HO where
  | lst (xs : List V)
  | tup (xs : List V)
  | dK (kvs : List (Key × V)) | dT (kvs : List (List Key × V))
  | set (S : Int → Bool) (n : Nat)
  | ins (C dx : Addr) (fs : List (Str × V))
  | own (x : Addr)
  | xd (fs : List (Str × V))
  | met (f x : Addr)
  | rng (lo hi : Int)
  | frz (o : Obj) (u : HO)
  | tbl (ps : Array Value)
  | ext (φ : Heap → Prop)
abbrev Hp := Addr → Option HO
def upd (H : Hp) (a : Addr) (o : HO) : Hp := fun b => if b = a then some o else H b
theorem upd_same {H : Hp} {a : Addr} {o : HO} : upd H a o a = some o := by unfold upd; rw [if_pos rfl]
theorem upd_ne {H : Hp} {a b : Addr} {o : HO} (h : b ≠ a) : upd H a o b = H b := by unfold upd; rw [if_neg h]
theorem upd_upd {H : Hp} {a : Addr} {o u : HO} : upd (upd H a o) a u = upd H a u := by
  funext b; unfold upd; split <;> rfl
theorem ne_of_none {H : Hp} {a b : Addr} {o : HO} (h : H a = some o) (h' : H b = none) : a ≠ b := by
  intro e; subst e; rw [h] at h'; cases h'
section
variable (P : Program) (w : World)
def ObjOk (H : Hp) (h : Heap) (a : Addr) : HO → Prop
  | .lst xs => xs.length ≤ sizeLine ∧ ∃ (its : List Value) (n : Nat), Vals xs its ∧ h.get? a = some { cls := .type "list", data := .seq its.toArray n }
  | .tup xs => xs.length ≤ sizeLine ∧ ∃ its : List Value, Vals xs its ∧ IsTup h a its.toArray
  | .dK kvs => kvs.length ≤ sizeLine ∧ (a == sysModules) = false ∧ ∃ vs, KV kvs vs ∧ h.DictOf (mixKind P w) a vs
  | .dT kvs => kvs.length ≤ sizeLine ∧ (a == sysModules) = false ∧ ∃ xs : List (List Key × Addr × Value),
      Paired (fun (p : List Key × V) (q : List Key × Addr × Value) => p.1 = q.1 ∧ H q.2.1 = some (.tup (p.1.map kV)) ∧ RelV p.2 q.2.2) kvs xs ∧
      ∃ o es ep, h.get? a = some o ∧ o.ExactDict ∧ o.data = .dict es ep ∧ es.toList = xs.map (entryOfKey (tupleKind (mixKind P w))) ∧ (xs.map (·.1)).Nodup
  | .set S n => h.SetOf (intKind P w) a S n
  | .ins C dx fs => H dx = some (.own a) ∧ fs.length ≤ 1000 ∧ dx ≠ a ∧ h.get? a = some (PySem.W.instObj C dx) ∧
      ∃ mA, h.Ns1 dx mA ∧ (∀ f, RelO (fs.lookup f) (mA f)) ∧ PySem.Within mA (fs.map (·.1))
  | .own _ => ∃ o, h.get? a = some o
  | .xd fs => ∃ mA, h.Ns1 a mA ∧ ∀ f, RelO (fs.lookup f) (mA f)
  | .rng lo hi => ∃ t u v, h.get? a = some { cls := .type "range", data := .fields #[.int lo t, .int hi u, .int 1 v] }
  | .frz o u => h.get? a = some o ∧ ObjOk H h a u
  | .tbl ps => h.get? a = some { cls := .none, data := .fields ps }
  | .met f x => h.get? a = some (PySem.W.methodObj (.ref f) (.ref x))
  | .ext φ => φ h ∧ (∃ o, h.get? a = some o) ∧ ∀ h1 h2 : Heap, φ h1 → (∀ o, h1.get? a = some o → h2.get? a = some o) → φ h2
def HOk (H : Hp) (h : Heap) : Prop := ∀ a o, H a = some o → ObjOk P w H h a o
end
section
variable {P : Program} {w : World} {H H' : Hp} {h h' : Heap} {a : Addr} {o : HO}
theorem ObjOk.lt (x : ObjOk P w H h a o) : a < h.objs.size := by
  cases o with
  | lst xs => obtain ⟨_, _, _, _, e⟩ := x; exact Heap.lt_size e
  | tup xs => obtain ⟨_, _, _, p⟩ := x; exact p.lt
  | dK kvs => obtain ⟨_, _, _, _, o, _, _, e, _⟩ := x; exact Heap.lt_size e
  | dT kvs => obtain ⟨_, _, _, _, o, _, _, e, _⟩ := x; exact Heap.lt_size e
  | set S n => obtain ⟨o, _, _, _, e, _⟩ := x; exact Heap.lt_size e
  | ins C dx fs => obtain ⟨_, _, _, e, _⟩ := x; exact Heap.lt_size e
  | own y => obtain ⟨_, e⟩ := x; exact Heap.lt_size e
  | xd fs => obtain ⟨_, ⟨_, _, _, e, _⟩, _⟩ := x; exact Heap.lt_size e
  | rng lo hi => obtain ⟨_, _, _, e⟩ := x; exact Heap.lt_size e
  | frz ob u => obtain ⟨e, _⟩ := x; exact Heap.lt_size e
  | tbl ps => exact Heap.lt_size (show h.get? a = some _ from x)
  | met f y => exact Heap.lt_size (show h.get? a = some _ from x)
  | ext φ => obtain ⟨_, ⟨_, e⟩, _⟩ := x; exact Heap.lt_size e
theorem Paired.mapP {α β : Type} {F G : α → β → Prop} : ∀ {l₁ : List α} {l₂ : List β}, Paired F l₁ l₂ → (∀ a b, F a b → G a b) → Paired G l₁ l₂
  | _, _, .nil, _ => .nil
  | _, _, .cons r t, f => .cons (f _ _ r) (Paired.mapP t f)
theorem Paired.imp' {α β : Type} {F G : α → β → Prop} (f : ∀ a b, F a b → G a b) {l₁ : List α} {l₂ : List β} (r : Paired F l₁ l₂) : Paired G l₁ l₂ := Paired.mapP r f
theorem ObjOk.stay (x : ObjOk P w H h a o) (k : ∀ b u, (b = a ∨ H b = some (.own a)) → h.get? b = some u → h'.get? b = some u)
    (ho : ∀ b, H b = some (.own a) → H' b = some (.own a)) (ht : ∀ b xs, H b = some (.tup xs) → H' b = some (.tup xs)) : ObjOk P w H' h' a o := by
  induction o with
  | lst xs => obtain ⟨z, its, n, r, e⟩ := x; exact ⟨z, its, n, r, k _ _ (.inl rfl) e⟩
  | tup xs => obtain ⟨z, its, r, ob, e, c⟩ := x; exact ⟨z, its, r, ob, k _ _ (.inl rfl) e, c⟩
  | dK kvs => obtain ⟨z, y, vs, r, ob, es, ep, e, c⟩ := x; exact ⟨z, y, vs, r, ob, es, ep, k _ _ (.inl rfl) e, c⟩
  | dT kvs =>
    obtain ⟨z, y, xs, r, ob, es, ep, e, c⟩ := x
    exact ⟨z, y, xs, Paired.mapP r fun p q z => ⟨z.1, ht _ _ z.2.1, z.2.2⟩, ob, es, ep, k _ _ (.inl rfl) e, c⟩
  | set S n => obtain ⟨ob, es, ep, t, e, c⟩ := x; exact ⟨ob, es, ep, t, k _ _ (.inl rfl) e, c⟩
  | ins C dx fs =>
    obtain ⟨d, z, ne, e, mA, ⟨od, es, ep, e2, c⟩, r⟩ := x
    exact ⟨ho _ d, z, ne, k _ _ (.inl rfl) e, mA, ⟨od, es, ep, k _ _ (.inr d) e2, c⟩, r⟩
  | own y => obtain ⟨ob, e⟩ := x; exact ⟨ob, k _ _ (.inl rfl) e⟩
  | xd fs => obtain ⟨mA, ⟨od, es, ep, e, c⟩, r⟩ := x; exact ⟨mA, ⟨od, es, ep, k _ _ (.inl rfl) e, c⟩, r⟩
  | rng lo hi => obtain ⟨t, u, v, e⟩ := x; exact ⟨t, u, v, k _ _ (.inl rfl) e⟩
  | frz ob u ih => obtain ⟨e, q⟩ := x; exact ⟨k _ _ (.inl rfl) e, ih q⟩
  | tbl ps =>
    have e : h.get? a = some { cls := .none, data := .fields ps } := x
    show h'.get? a = some { cls := .none, data := .fields ps }
    exact k a _ (.inl rfl) e
  | met f y =>
    have e : h.get? a = some (PySem.W.methodObj (.ref f) (.ref y)) := x
    show h'.get? a = some (PySem.W.methodObj (.ref f) (.ref y))
    exact k a _ (.inl rfl) e
  | ext φ => obtain ⟨p, ⟨o, e⟩, st⟩ := x; exact ⟨st _ _ p fun o q => k _ _ (.inl rfl) q, ⟨o, k _ _ (.inl rfl) e⟩, st⟩
theorem HOk.lt (x : HOk P w H h) (e : H a = some o) : a < h.objs.size := (x a o e).lt
theorem HOk.fresh (x : HOk P w H h) (e : h.objs.size ≤ a) : H a = none := by
  cases q : H a with
  | none => rfl
  | some u => exact absurd (Nat.lt_of_lt_of_le (x.lt q) e) (Nat.lt_irrefl _)
theorem HOk.kept (x : HOk P w H h) (k : ∀ b u, h.get? b = some u → h'.get? b = some u) : HOk P w H h' := fun a o e =>
  (x a o e).stay (fun b u _ q => k b u q) (fun _ q => q) fun _ _ q => q
theorem HOk.laid (x : HOk P w H h) (k : ∀ b u, h.get? b = some u → h'.get? b = some u) (hp : h.objs.size ≤ a) (new : ObjOk P w (upd H a o) h' a o) : HOk P w (upd H a o) h' := fun b u e => by
  have hn := x.fresh hp
  by_cases hb : b = a
  · subst hb; rw [upd_same] at e; cases e; exact new
  · rw [upd_ne hb] at e
    exact (x b u e).stay (fun c v _ q => k c v q) (fun c q => by rw [upd_ne (ne_of_none q hn)]; exact q) fun c xs q => by rw [upd_ne (ne_of_none q hn)]; exact q
end
def Rd (H : Hp) (a : Addr) (u : HO) : Prop := H a = some u ∨ ∃ o, H a = some (.frz o u)
theorem Rd.of {H : Hp} {a : Addr} {u : HO} (h : H a = some u) : Rd H a u := .inl h
theorem Rd.ok {P : Program} {w : World} {H : Hp} {h : Heap} {a : Addr} {u : HO} (r : Rd H a u) (x : HOk P w H h) : ObjOk P w H h a u := by
  rcases r with r | ⟨o, r⟩
  · exact x a u r
  · obtain ⟨_, q⟩ := x a _ r
    exact q
def Mut : Option HO → Prop
  | some (.lst _) => True
  | some (.dK _) => True
  | some (.dT _) => True
  | some (.set _ _) => True
  | some (.ins _ _ _) => True
  | some (.ext _) => True
  | _ => False
section
variable {P : Program} {w : World} {H : Hp} {h h' : Heap} {x e : Addr} {o' : HO}
theorem HOk.write (ok : HOk P w H h) (mu : Mut (H x)) (he : e = x ∨ H e = some (.own x)) (k : ∀ b u, b ≠ e → h.get? b = some u → h'.get? b = some u) (heo : ∃ u, h'.get? e = some u)
    (new : ObjOk P w (upd H x o') h' x o') : HOk P w (upd H x o') h' := fun b u q => by
  have nown : ∀ c y, H c = some (.own y) → c ≠ x := fun c y r z => by subst z; rw [r] at mu; exact mu
  have ntup : ∀ c xs, H c = some (.tup xs) → c ≠ x := fun c xs r z => by subst z; rw [r] at mu; exact mu
  by_cases hb : b = x
  · subst hb; rw [upd_same] at q; cases q; exact new
  · rw [upd_ne hb] at q
    by_cases hbe : b = e
    · have q' : H b = some (.own x) := by
        rcases he with z | z
        · exact absurd (hbe.trans z) hb
        · rw [hbe]; exact z
      rw [q] at q'; cases q'
      obtain ⟨v, hv⟩ := heo
      exact ⟨v, by rw [hbe]; exact hv⟩
    · refine (ok b u q).stay (fun c v hc r => k c v ?_ r) (fun c r => by rw [upd_ne (nown c b r)]; exact r) fun c xs r => by rw [upd_ne (ntup c xs r)]; exact r
      rcases hc with rfl | hc
      · exact hbe
      · rintro rfl
        rcases he with z | z
        · exact nown c b hc z
        · rw [hc] at z; cases z; exact hb rfl
end
structure Un (fs ex : List Addr) (H H' : Hp) (h h' : Heap) : Prop where
  keep : ∀ b o, h.get? b = some o → H b = none → b ∉ fs → b ∉ ex → h'.get? b = some o
  slot : ∀ b o, h.get? b = some o → H b = none → b ∈ fs → b ∉ ex → ∃ sl, h'.get? b = some { o with slots := sl }
  free : ∀ b o, h.get? b = some o → H b = none → b ∉ ex → H' b = none
  there : ∀ b o, h.get? b = some o → b ∉ ex → ∃ o', h'.get? b = some o'
  tups : ∀ b xs, H b = some (.tup xs) → H' b = some (.tup xs)
  frzs : ∀ b o u, H b = some (.frz o u) → H' b = some (.frz o u)
  tbls : ∀ b ps, H b = some (.tbl ps) → ∃ more, H' b = some (.tbl (ps ++ more))
section
variable {fs fs' ex ex' : List Addr} {H H1 H2 : Hp} {h h1 h2 h' : Heap} {a x e : Addr} {o : HO}
theorem Un.any (u : Un fs ex H H1 h h1) {b : Addr} {ob : Obj} (q : h.get? b = some ob) (n : H b = none) (hx : b ∉ ex) : ∃ sl, h1.get? b = some { ob with slots := sl } := by
  by_cases hb : b ∈ fs
  · exact u.slot b ob q n hb hx
  · exact ⟨ob.slots, u.keep b ob q n hb hx⟩
theorem Un.trans (a : Un fs ex H H1 h h1) (b : Un fs ex H1 H2 h1 h2) : Un fs ex H H2 h h2 where
  keep := fun c ob q n hc hx => b.keep c ob (a.keep c ob q n hc hx) (a.free c ob q n hx) hc hx
  slot := fun c ob q n hc hx => by
    obtain ⟨sl, e1⟩ := a.slot c ob q n hc hx
    obtain ⟨sl', e2⟩ := b.slot c _ e1 (a.free c ob q n hx) hc hx
    exact ⟨sl', e2⟩
  free := fun c ob q n hx => by
    obtain ⟨o', e1⟩ := a.there c ob q hx
    exact b.free c o' e1 (a.free c ob q n hx) hx
  there := fun c ob q hx => by
    obtain ⟨o', e1⟩ := a.there c ob q hx
    exact b.there c o' e1 hx
  tups := fun c xs q => b.tups c xs (a.tups c xs q)
  frzs := fun c ob xs q => b.frzs c ob xs (a.frzs c ob xs q)
  tbls := fun c ps q => by
    obtain ⟨m1, e1⟩ := a.tbls c ps q
    obtain ⟨m2, e2⟩ := b.tbls c _ e1
    exact ⟨m1 ++ m2, by rw [e2, Array.append_assoc]⟩
theorem Un.kept (k : ∀ b u, h.get? b = some u → h'.get? b = some u) : Un fs ex H H h h' :=
  ⟨fun b ob q _ _ _ => k b ob q, fun b ob q _ _ _ => ⟨ob.slots, k b ob q⟩, fun _ _ _ n _ => n, fun b ob q _ => ⟨ob, k b ob q⟩, fun _ _ q => q, fun _ _ _ q => q, fun _ ps q => ⟨#[], by rw [q]; simp⟩⟩
theorem Un.refl : Un fs ex H H h h := Un.kept fun _ _ q => q
theorem Un.laid (k : ∀ b u, h.get? b = some u → h'.get? b = some u) (hp : h.objs.size ≤ a) (hn : H a = none) : Un fs ex H (upd H a o) h h' where
  keep := fun b u q _ _ _ => k b u q
  slot := fun b u q _ _ _ => ⟨u.slots, k b u q⟩
  free := fun b u q n _ => by rw [upd_ne (Nat.ne_of_lt (Nat.lt_of_lt_of_le (Heap.lt_size q) hp))]; exact n
  there := fun b u q _ => ⟨u, k b u q⟩
  tups := fun b xs q => by rw [upd_ne (ne_of_none q hn)]; exact q
  frzs := fun b u xs q => by rw [upd_ne (ne_of_none q hn)]; exact q
  tbls := fun b ps q => ⟨#[], by rw [upd_ne (ne_of_none q hn), q]; simp⟩
theorem Un.write (mu : Mut (H x)) (he : e = x ∨ H e = some (.own x)) (k : ∀ b u, b ≠ e → h.get? b = some u → h'.get? b = some u) (heo : ∃ u, h'.get? e = some u) : Un fs ex H (upd H x o) h h' := by
  have hx : ∀ b, H b = none → b ≠ x := fun b n z => by subst z; rw [n] at mu; exact mu
  have hb : ∀ b, H b = none → b ≠ e := fun b n z => by
    subst z
    rcases he with r | r
    · exact hx b n r
    · rw [n] at r; cases r
  have hm : ∀ b u, H b = some u → ¬ Mut (some u) → b ≠ x := fun b u q nm z => by subst z; rw [q] at mu; exact nm mu
  refine ⟨fun b u q n _ _ => k b u (hb b n) q, fun b u q n _ _ => ⟨u.slots, k b u (hb b n) q⟩, fun b u q n _ => by rw [upd_ne (hx b n)]; exact n, fun b u q _ => ?_,
    fun b xs q => by rw [upd_ne (hm b _ q fun z => z)]; exact q, fun b u xs q => by rw [upd_ne (hm b _ q fun z => z)]; exact q, fun b ps q => ⟨#[], by rw [upd_ne (hm b _ q fun z => z), q]; simp⟩⟩
  by_cases hbe : b = e
  · subst hbe; exact heo
  · exact ⟨u, k b u hbe q⟩
theorem Un.mono (u : Un fs ex H H1 h h1) (hs : ∀ b ∈ fs, b ∈ fs') (hx : ∀ b ∈ ex, b ∈ ex') : Un fs' ex' H H1 h h1 :=
  ⟨fun b ob q n hb he => u.keep b ob q n (fun z => hb (hs b z)) fun z => he (hx b z), fun _ _ q n _ he => u.any q n fun z => he (hx _ z), fun b ob q n he => u.free b ob q n fun z => he (hx b z), fun b ob q he => u.there b ob q fun z => he (hx b z), u.tups, u.frzs, u.tbls⟩
end
def trk (h : Heap) (H : Hp) : List Addr := (List.range h.objs.size).filter fun a => (H a).isSome
def hidT (h : Heap) (H : Hp) : Heap := PySem.W.hideAll h (trk h H)
theorem hidT_size (h : Heap) (H : Hp) : (hidT h H).objs.size = h.objs.size := PySem.W.hideAll_size _ _
theorem hidT_get {h : Heap} {H : Hp} {b : Addr} {o : Obj} (e : h.get? b = some o) (n : H b = none) : (hidT h H).get? b = some o :=
  PySem.W.hideAll_get _ e fun hm => by
    have q : (H b).isSome = true := (List.mem_filter.mp hm).2
    rw [n] at q; simp at q
theorem of_hidT {h : Heap} {H : Hp} {b : Addr} {o : Obj} (e : (hidT h H).get? b = some o) : h.get? b = some o ∧ H b = none := by
  have e' : h.get? b = some o := PySem.W.of_hideAll (trk h H) e
  refine ⟨e', ?_⟩
  cases q : H b with
  | none => rfl
  | some x =>
    have hm : b ∈ trk h H := List.mem_filter.mpr ⟨List.mem_range.mpr (Heap.lt_size e'), by simp [q]⟩
    have z : (hidT h H).get? b = none := PySem.W.hideAll_none (trk h H) hm
    rw [z] at e; cases e
def allNews (g h : Heap) (L : Addr) : List (Addr × Obj) := (List.range h.objs.size).filterMap fun a => if a = L ∨ (g.get? a).isSome = true then none else (h.get? a).map fun o => (a, o)
def rest (g h : Heap) (L d : Addr) : List (Addr × Obj) := (allNews g h L).filter fun p => decide (p.1 ≠ d)
end L2
namespace L2
open PySem PySem.Spec PyProof.Rows
structure Mod (K : PySem.W.Frag) (mg : Str → Option Value) (base : Heap) : Prop where
  kin : K.In base
  glob : base.Ns mainGlobals mg
  blt : ∃ mb, base.Ns builtinsNs mb ∧ ∀ x : Str, x ≠ "__name__" → mb x = bootBuiltins x
  nolimit : base.NoLimit
  seer : base.NoSeer
structure Cx where
  prog : Program
  w : World
  K : PySem.W.Frag
  mg : Str → Option Value
  base : Heap
  A : Around
  N : List Str
  s₀ : Shared
  H₀ : Hp
  env : Env
  outer : List Env
  stack : List Env
  ex : List Addr
  fn : Str → Bool
  calm : Bool
  pn : List (Addr × Obj)
  xe : Value → Shared → Prop
def frs (l : List Env) : List Addr := l.filterMap (·.frame)
abbrev Cx.fs (X : Cx) : List Addr := frs X.outer
def Vis (sc : Scope) (x : Str) : Prop := sc.names.lookup x = some .local ∨ sc.names.lookup x = some .cell ∨ sc.names.lookup x = some .free
def Loc (sc : Scope) (x : Str) : Prop := sc.names.lookup x = some .local ∨ sc.names.lookup x = some .cell
def Look (env : Env) (h : Heap) (m : Str → Option Value) (x : Str) (u : Value) : Prop :=
  (env.kindOf x = some .local ∧ m x = some u) ∨ ((env.kindOf x = some .cell ∨ env.kindOf x = some .free) ∧ ∃ c, env.cells.lookup x = some c ∧ h.IsCell c (some u))
structure Cx.Ok (X : Cx) : Prop where
  mod : Mod X.K X.mg X.base
  kind : X.env.scope.kind = .function
  glob : X.env.globals = mainGlobals
  blt : X.env.builtins = builtinsNs
  above : X.s₀.heap.objs.size ≤ X.env.locals
  inj : ∀ x y c, X.env.cells.lookup x = some c → X.env.cells.lookup y = some c → x = y
  has : ∀ x, (X.env.kindOf x = some .cell ∨ X.env.kindOf x = some .free) → ∃ c, X.env.cells.lookup x = some c
  cab : ∀ x c, X.fn x = true → X.env.cells.lookup x = some c → X.s₀.heap.objs.size ≤ c
  hd : X.calm = true → X.A.handled = none
  frames : X.A.frames = some X.stack
  stk : X.stack = X.outer ∨ (X.stack = X.env :: X.outer ∧ X.env.frame = some X.env.locals)
  exf : ∀ b ∈ X.ex, b ≠ X.env.locals ∧ ∀ x c, X.env.cells.lookup x = some c → c ≠ b
  bs : ∀ b o, X.base.get? b = some o → X.s₀.heap.get? b = some o ∧ X.H₀ b = none
  bsz : X.base.objs.size ≤ X.s₀.heap.objs.size
  noex : ∀ b o, X.base.get? b = some o → b ∉ X.ex
  exfs : ∀ b ∈ X.ex, b ∉ X.fs
  funs : X.s₀.heap.FunFrames X.base X.outer
  frf : ∀ b ∈ X.fs, X.H₀ b = none
structure Inv (X : Cx) (pins : List (Addr × Obj)) (σ : List (Option V)) (H : Hp) (s : Shared) : Prop where
  ok : X.Ok
  os : s.os = X.s₀.os
  bare : AllBare s.gens
  base : Un X.fs X.ex X.H₀ H X.s₀.heap s.heap
  loc : ∃ m, s.heap.Ns X.env.locals m ∧ ∀ (i : Nat) (x : Str) (v : V), X.N[i]? = some x → σ[i]? = some (some v) → Vis X.env.scope x → ∃ u, RelV v u ∧ Look X.env s.heap m x u
  cell : ∀ x c, X.env.cells.lookup x = some c → ∃ v, s.heap.IsCell c v
  free : H X.env.locals = none
  freeC : ∀ x c, X.env.cells.lookup x = some c → H c = none
  pin : ∀ p ∈ X.pn ++ pins, s.heap.get? p.1 = some p.2 ∧ H p.1 = none ∧ p.1 ≠ X.env.locals ∧ p.1 ∉ X.fs ∧ ∀ v, p.2.data ≠ .cell v
  hok : HOk X.prog X.w H s.heap
  len : σ.length = X.N.length
section
variable {X : Cx} {pins : List (Addr × Obj)} {σ : List (Option V)} {H H' : Hp} {s : Shared} {h' : Heap}
theorem Cx.Ok.nofr (ok : X.Ok) {b : Addr} {o : Obj} (e : X.base.get? b = some o) : b ∉ X.fs := fun hb => by
  have := (ok.funs.mem hb).1
  rw [e] at this; cases this
theorem Inv.bs (I : Inv X pins σ H s) : ∀ b o, X.base.get? b = some o → s.heap.get? b = some o ∧ H b = none := fun b o e =>
  ⟨I.base.keep b o (I.ok.bs b o e).1 (I.ok.bs b o e).2 (I.ok.nofr e) (I.ok.noex b o e), I.base.free b o (I.ok.bs b o e).1 (I.ok.bs b o e).2 (I.ok.noex b o e)⟩
theorem Inv.bk (I : Inv X pins σ H s) : ∀ b o, X.base.get? b = some o → s.heap.get? b = some o := fun b o e => (I.bs b o e).1
theorem Inv.mod (I : Inv X pins σ H s) : Mod X.K X.mg X.base := I.ok.mod
theorem Inv.kIn (I : Inv X pins σ H s) : X.K.In s.heap := I.ok.mod.kin.keeps I.bk
theorem Inv.nolimit (I : Inv X pins σ H s) : s.heap.NoLimit := I.ok.mod.nolimit.keeps I.bk
theorem Inv.fr (I : Inv X pins σ H s) : ∃ m, Fr X.base X.env.locals s.heap m :=
  let ⟨m, hn, _⟩ := I.loc
  ⟨m, hn, I.bk, Nat.le_trans I.ok.bsz I.ok.above⟩
theorem Inv.lt (I : Inv X pins σ H s) : X.env.locals < s.heap.objs.size := let ⟨_, hn, _⟩ := I.loc; hn.lt
theorem Inv.sz (I : Inv X pins σ H s) : X.s₀.heap.objs.size ≤ s.heap.objs.size := Nat.le_trans I.ok.above (Nat.le_of_lt I.lt)
theorem Inv.nofs (I : Inv X pins σ H s) {a : Addr} (h : s.heap.objs.size ≤ a) : a ∉ X.fs := fun hb => by
  obtain ⟨_, o, ho, _⟩ := I.ok.funs.mem hb
  exact absurd (Nat.lt_of_lt_of_le (Heap.lt_size ho) (Nat.le_trans I.sz h)) (Nat.lt_irrefl _)
theorem Inv.cne (I : Inv X pins σ H s) : ∀ x c, X.env.cells.lookup x = some c → c ≠ X.env.locals := fun x c e z => by
  obtain ⟨v, o, ho, hd⟩ := I.cell x c e
  obtain ⟨m, ⟨o', es, ep, ho', hd', _⟩, _⟩ := I.loc
  rw [z, ho'] at ho; cases ho; rw [hd'] at hd; cases hd
theorem Inv.funs (I : Inv X pins σ H s) : s.heap.FunFrames X.base X.outer := by
  have all : ∀ (l : List Env), (∀ b ∈ frs l, b ∈ X.fs) → X.s₀.heap.FunFrames X.base l → s.heap.FunFrames X.base l := by
    intro l
    induction l with
    | nil => intro _ _; trivial
    | cons env r ih =>
      intro hs hl
      obtain ⟨hk, ⟨L, o, hf, hn, ho, hd⟩, hr⟩ := hl
      have hL : L ∈ X.fs := hs L (by unfold frs; rw [List.filterMap_cons, hf]; exact List.mem_cons_self)
      obtain ⟨sl, e⟩ := I.base.slot L o ho (I.ok.frf L hL) hL fun z => I.ok.exfs L z hL
      exact ⟨hk, ⟨L, _, hf, hn, e, hd⟩, ih (fun b hb => hs b (by unfold frs; rw [List.filterMap_cons, hf]; exact List.mem_cons_of_mem _ hb)) hr⟩
  exact all X.outer (fun _ hb => hb) I.ok.funs
theorem Inv.stack (I : Inv X pins σ H s) : s.heap.FunFrames X.base X.stack := by
  rcases I.ok.stk with e | ⟨e, hf⟩
  · rw [e]; exact I.funs
  · rw [e]
    obtain ⟨m, hn, _⟩ := I.loc
    refine .cons (by rw [I.ok.kind]; decide) hf hn ?_ I.funs
    exact Heap.get?_none_of_le (Nat.le_trans I.ok.bsz I.ok.above)
theorem Inv.stkSub (I : Inv X pins σ H s) : ∀ b ∈ frs X.stack, b ∈ X.env.locals :: X.fs := fun b hb => by
  rcases I.ok.stk with e | ⟨e, hf⟩
  · rw [e] at hb; exact List.mem_cons_of_mem _ hb
  · rw [e] at hb
    unfold frs at hb
    rw [List.filterMap_cons, hf] at hb
    exact hb
theorem Inv.stkFree (I : Inv X pins σ H s) : ∀ b ∈ frs X.stack, H b = none := fun b hb => by
  rcases List.mem_cons.mp (I.stkSub b hb) with e | hb
  · rw [e]; exact I.free
  · obtain ⟨_, o, ho, _⟩ := I.ok.funs.mem hb
    exact I.base.free b o ho (I.ok.frf b hb) fun z => I.ok.exfs b z hb
theorem Inv.step {g' : Array GenState} {t' : Nat} {d' : Drawn} {ch : List Addr} (I : Inv X pins σ H s)
    (hch : ∀ b ∈ ch, (b ∈ X.ex ∨ X.s₀.heap.objs.size ≤ b) ∧ b ≠ X.env.locals ∧ (∀ x c, X.env.cells.lookup x = some c → c ≠ b) ∧ ∀ p ∈ X.pn ++ pins, p.1 ≠ b)
    (keep : ∀ b o, b ≠ X.env.locals → b ∉ X.fs → b ∉ ch → s.heap.get? b = some o → H b = none → h'.get? b = some o)
    (slot : ∀ b o, b ≠ X.env.locals → b ∈ X.fs → b ∉ ch → s.heap.get? b = some o → H b = none → ∃ sl, h'.get? b = some { o with slots := sl }) (free : ∀ b o, b ∉ ch → s.heap.get? b = some o → H b = none → H' b = none)
    (there : ∀ b o, b ∉ ch → s.heap.get? b = some o → ∃ o', h'.get? b = some o')
    (tups : ∀ b xs, H b = some (.tup xs) → H' b = some (.tup xs)) (frzs : ∀ b o u, H b = some (.frz o u) → H' b = some (.frz o u)) (tbls : ∀ b ps, H b = some (.tbl ps) → ∃ more, H' b = some (.tbl (ps ++ more)))
    (ns : ∀ m, s.heap.Ns X.env.locals m → h'.Ns X.env.locals m) (hok : HOk X.prog X.w H' h') (hg : AllBare g') :
    Inv X pins σ H' { s with heap := h', gens := g', drawn := d', toks := t' } := by
  have neL : ∀ b o, X.s₀.heap.get? b = some o → b ≠ X.env.locals := fun b o e => Nat.ne_of_lt (Nat.lt_of_lt_of_le (Heap.lt_size e) I.ok.above)
  have neC : ∀ b o, X.s₀.heap.get? b = some o → b ∉ X.ex → b ∉ ch := fun b o e hx hb => by
    rcases (hch b hb).1 with z | z
    · exact hx z
    · exact absurd (Nat.lt_of_lt_of_le (Heap.lt_size e) z) (Nat.lt_irrefl _)
  have cellK : ∀ x c, X.env.cells.lookup x = some c → ∀ v, s.heap.IsCell c v → h'.IsCell c v := fun x c e v ⟨o, ho, hd⟩ => by
    have nch : c ∉ ch := fun z => (hch c z).2.2.1 x c e rfl
    by_cases hc : c ∈ X.fs
    · obtain ⟨sl, q⟩ := slot c o (I.cne x c e) hc nch ho (I.freeC x c e)
      exact ⟨_, q, hd⟩
    · exact ⟨o, keep c o (I.cne x c e) hc nch ho (I.freeC x c e), hd⟩
  refine ⟨I.ok, I.os, hg, ⟨fun b o e n hb hx => ?_, fun b o e n hb hx => ?_, fun b o e n hx => ?_, fun b o e hx => ?_, fun b xs e => tups b xs (I.base.tups b xs e), fun b o xs e => frzs b o xs (I.base.frzs b o xs e), fun b ps e => ?_⟩, ?_, fun x c e => ?_, ?_, fun x c e => ?_, fun p hp => ?_, hok, I.len⟩
  · exact keep b o (neL b o e) hb (neC b o e hx) (I.base.keep b o e n hb hx) (I.base.free b o e n hx)
  · obtain ⟨sl, e1⟩ := I.base.slot b o e n hb hx
    obtain ⟨sl', e2⟩ := slot b _ (neL b o e) hb (neC b o e hx) e1 (I.base.free b o e n hx)
    exact ⟨sl', e2⟩
  · obtain ⟨o', e1⟩ := I.base.there b o e hx
    exact free b o' (neC b o e hx) e1 (I.base.free b o e n hx)
  · obtain ⟨o', e1⟩ := I.base.there b o e hx
    exact there b o' (neC b o e hx) e1
  · obtain ⟨m1, e1⟩ := I.base.tbls b ps e
    obtain ⟨m2, e2⟩ := tbls b _ e1
    exact ⟨m1 ++ m2, by rw [e2, Array.append_assoc]⟩
  · obtain ⟨m, hn, hl⟩ := I.loc
    refine ⟨m, ns m hn, fun i x v e1 e2 e3 => ?_⟩
    obtain ⟨u, r, l⟩ := hl i x v e1 e2 e3
    refine ⟨u, r, ?_⟩
    rcases l with l | ⟨k, c, e, z⟩
    · exact .inl l
    · exact .inr ⟨k, c, e, cellK x c e _ z⟩
  · obtain ⟨v, z⟩ := I.cell x c e
    exact ⟨v, cellK x c e v z⟩
  · obtain ⟨m, ⟨o, _, _, ho, _⟩, _⟩ := I.loc
    exact free _ o (fun z => (hch _ z).2.1 rfl) ho I.free
  · obtain ⟨v, o, ho, hd⟩ := I.cell x c e
    exact free c o (fun z => (hch c z).2.2.1 x c e rfl) ho (I.freeC x c e)
  · obtain ⟨e, n, ne, nf, d⟩ := I.pin p hp
    have nch : p.1 ∉ ch := fun z => (hch p.1 z).2.2.2 p hp rfl
    exact ⟨keep p.1 p.2 ne nf nch e n, free p.1 p.2 nch e n, ne, nf, d⟩
theorem Inv.un {t' : Nat} (I : Inv X pins σ H s) (u : Un X.fs [] H H' s.heap h') (hok : HOk X.prog X.w H' h') : Inv X pins σ H' { s with heap := h', toks := t' } := by
  obtain ⟨m, ⟨o, es, ep, ho, r⟩, _⟩ := id I.loc
  obtain ⟨sl, hL⟩ := u.any ho I.free (by simp)
  exact I.step (g' := s.gens) (d' := s.drawn) (ch := []) (fun _ z => nomatch z) (fun b o _ hb _ e n => u.keep b o e n hb (by simp)) (fun b o _ hb _ e n => u.slot b o e n hb (by simp)) (fun b o _ e n => u.free b o e n (by simp)) (fun b o _ e => u.there b o e (by simp)) u.tups u.frzs u.tbls (fun m' hm => by
    obtain ⟨o', es', ep', ho', r'⟩ := hm
    rw [ho] at ho'; cases ho'
    exact ⟨_, es', ep', hL, r'⟩) hok I.bare
theorem Inv.call {g' : Array GenState} {t' : Nat} {d' : Drawn} {ch : List Addr} (I : Inv X pins σ H s) (u : Un (frs X.stack) ch H H' s.heap h') (hok : HOk X.prog X.w H' h') (hg : AllBare g')
    (hch : ∀ b ∈ ch, (b ∈ X.ex ∨ X.s₀.heap.objs.size ≤ b) ∧ b ≠ X.env.locals ∧ (∀ x c, X.env.cells.lookup x = some c → c ≠ b) ∧ ∀ p ∈ X.pn ++ pins, p.1 ≠ b) :
    Inv X pins σ H' { s with heap := h', gens := g', drawn := d', toks := t' } := by
  obtain ⟨m, ⟨o, es, ep, ho, r⟩, _⟩ := id I.loc
  obtain ⟨sl, hL⟩ := u.any ho I.free fun z => (hch _ z).2.1 rfl
  exact I.step (ch := ch) hch (fun b o hL hb hc e n => u.keep b o e n (fun z => (List.mem_cons.mp (I.stkSub b z)).elim hL hb) hc) (fun b o _ _ hc e n => u.any e n hc) (fun b o hc e n => u.free b o e n hc) (fun b o hc e => u.there b o e hc) u.tups u.frzs u.tbls (fun m' hm => by
    obtain ⟨o', es', ep', ho', r'⟩ := hm
    rw [ho] at ho'; cases ho'
    exact ⟨_, es', ep', hL, r'⟩) hok hg
theorem Inv.turned {t' : Nat} {it : Addr} (I : Inv X pins σ H s) (k : ∀ b o, b ≠ it → s.heap.get? b = some o → h'.get? b = some o) (hn : H it = none) (hL : it ≠ X.env.locals)
    (h1 : it ∈ X.ex ∨ X.s₀.heap.objs.size ≤ it) (h2 : ∀ x c, X.env.cells.lookup x = some c → c ≠ it) (h3 : ∀ p ∈ X.pn ++ pins, p.1 ≠ it) : Inv X pins σ H { s with heap := h', toks := t' } := by
  have nit : ∀ b u, H b = some u → b ≠ it := fun b u e z => by rw [z, hn] at e; cases e
  refine I.step (g' := s.gens) (d' := s.drawn) (ch := [it]) (fun b hb => ?_) (fun b o _ _ hc e _ => k b o (fun z => hc (by simp [z])) e) (fun b o _ _ hc e _ => ⟨o.slots, k b o (fun z => hc (by simp [z])) e⟩) (fun _ _ _ _ n => n)
    (fun b o hc e => ⟨o, k b o (fun z => hc (by simp [z])) e⟩) (fun _ _ e => e) (fun _ _ _ e => e) (fun b ps e => ⟨#[], by rw [e]; simp⟩) (fun m hm => ?_) (fun b u e => ?_) I.bare
  · have e : b = it := by simpa using hb
    subst e
    exact ⟨h1, hL, h2, h3⟩
  · obtain ⟨o, es, ep, ho, r⟩ := hm
    exact ⟨o, es, ep, k _ o (Ne.symm hL) ho, r⟩
  · refine (I.hok b u e).stay (fun c v hc q => k c v ?_ q) (fun _ q => q) fun _ _ q => q
    rcases hc with z | z
    · rw [z]; exact nit b u e
    · exact nit c _ z
theorem Inv.tok (I : Inv X pins σ H s) (t : Nat) : Inv X pins σ H { s with toks := t } := I.un (h' := s.heap) (t' := t) Un.refl I.hok
theorem Inv.kept {t' : Nat} (I : Inv X pins σ H s) (k : ∀ b u, s.heap.get? b = some u → h'.get? b = some u) : Inv X pins σ H { s with heap := h', toks := t' } := I.un (Un.kept k) (I.hok.kept k)
theorem Inv.laid {a : Addr} {o : HO} {t' : Nat} (I : Inv X pins σ H s) (k : ∀ b u, s.heap.get? b = some u → h'.get? b = some u) (hp : s.heap.objs.size ≤ a) (new : ObjOk X.prog X.w (upd H a o) h' a o) :
    Inv X pins σ (upd H a o) { s with heap := h', toks := t' } := I.un (Un.laid k hp (I.hok.fresh hp)) (I.hok.laid k hp new)
theorem Inv.write {x e : Addr} {o : HO} {t' : Nat} (I : Inv X pins σ H s) (mu : Mut (H x)) (he : e = x ∨ H e = some (.own x)) (k : ∀ b u, b ≠ e → s.heap.get? b = some u → h'.get? b = some u) (heo : ∃ u, h'.get? e = some u)
    (new : ObjOk X.prog X.w (upd H x o) h' x o) : Inv X pins σ (upd H x o) { s with heap := h', toks := t' } := I.un (Un.write mu he k heo) (I.hok.write mu he k heo new)
theorem Inv.weak {σ' : List (Option V)} (I : Inv X pins σ H s) (hl : σ'.length = σ.length) (w : ∀ (i : Nat) v, σ'[i]? = some (some v) → σ[i]? = some (some v)) : Inv X pins σ' H s :=
  ⟨I.ok, I.os, I.bare, I.base, let ⟨m, hn, hl'⟩ := I.loc; ⟨m, hn, fun i x v e1 e2 e3 => hl' i x v e1 (w i v e2) e3⟩, I.cell, I.free, I.freeC, I.pin, I.hok, hl.trans I.len⟩
theorem Inv.pins_of {pins' : List (Addr × Obj)} (I : Inv X pins σ H s) (h : ∀ p ∈ pins', s.heap.get? p.1 = some p.2 ∧ H p.1 = none ∧ p.1 ≠ X.env.locals ∧ p.1 ∉ X.fs ∧ ∀ v, p.2.data ≠ .cell v) : Inv X pins' σ H s :=
  ⟨I.ok, I.os, I.bare, I.base, I.loc, I.cell, I.free, I.freeC, fun p hp => (List.mem_append.mp hp).elim (fun z => I.pin p (List.mem_append_left _ z)) (h p), I.hok, I.len⟩
theorem nodup_ix {N : List Str} (hN : N.Nodup) {i j : Nat} {x : Str} (a : N[i]? = some x) (b : N[j]? = some x) : i = j := by
  obtain ⟨h1, e1⟩ := List.getElem?_eq_some_iff.mp a
  obtain ⟨h2, e2⟩ := List.getElem?_eq_some_iff.mp b
  exact (List.getElem_inj hN).mp (e1.trans e2.symm)
theorem store_ok2 {M : Model} {A : Around} {E : Value → Shared → Prop} {i : Nat} {x : Str} {v : V} {u : Value} {Q : Unit → Shared → Prop} (I : Inv X pins σ H s) (hN : X.N.Nodup) (hi : X.N[i]? = some x) (hx : Loc X.env.scope x) (r : RelV v u)
    (h : ∀ s', Inv X pins (σ.set i (some v)) H s' → (∃ a, Heap.SameBut a s.heap s'.heap ∧ (a = X.env.locals ∨ X.env.cells.lookup x = some a)) → Q () s') (hf : X.fn x = true ∨ X.env.scope.names.lookup x = some .local := by first | exact .inl rfl | exact .inr rfl | assumption) : wpAny M A (storeName X.env x u) Q E s := by
  obtain ⟨m, hn, hl⟩ := id I.loc
  have hcls : (X.env.scope.kind == .class || (X.env.scope.kind == .module && X.env.locals != X.env.globals)) = false := by rw [I.ok.kind]; rfl
  have hiσ : i < σ.length := by rw [I.len]; exact (List.getElem?_eq_some_iff.mp hi).1
  have cne := I.cne
  have tracked : ∀ {a : Addr} {h' : Heap}, (∃ o, s.heap.get? a = some o ∧ H a = none) → Heap.SameBut a s.heap h' → HOk X.prog X.w H h' := fun {a h'} ha hs b ob e => by
    obtain ⟨_, _, hfree⟩ := ha
    refine (I.hok b ob e).stay (fun c w' hc q => (hs.2 c ?_).trans q) (fun _ q => q) fun _ _ q => q
    rintro rfl
    rcases hc with rfl | hc
    · rw [hfree] at e; cases e
    · rw [hfree] at hc; cases hc
  rcases hx with hk | hk
  · refine wpAny_storeName_local hk hn (fun h' hn' hs => ?_) hcls
    obtain ⟨oL, _, _, hoL, _⟩ := id hn
    refine h _ ⟨I.ok, I.os, I.bare, ⟨fun b o e n hb hx => ?_, fun b o e n hb hx => ?_, I.base.free, fun b o e hx => ?_, I.base.tups, I.base.frzs, I.base.tbls⟩, ⟨_, hn', fun j y v' e1 e2 e3 => ?_⟩, fun y c e => ?_, I.free, I.freeC, fun p hp => ?_, tracked ⟨oL, hoL, I.free⟩ hs, by simpa using I.len⟩ ⟨_, hs, .inl rfl⟩
    · exact (hs.2 b (Nat.ne_of_lt (Nat.lt_of_lt_of_le (Heap.lt_size e) I.ok.above))).trans (I.base.keep b o e n hb hx)
    · obtain ⟨sl, e1⟩ := I.base.slot b o e n hb hx
      exact ⟨sl, (hs.2 b (Nat.ne_of_lt (Nat.lt_of_lt_of_le (Heap.lt_size e) I.ok.above))).trans e1⟩
    · obtain ⟨o', e1⟩ := I.base.there b o e hx
      exact ⟨o', (hs.2 b (Nat.ne_of_lt (Nat.lt_of_lt_of_le (Heap.lt_size e) I.ok.above))).trans e1⟩
    · by_cases hj : j = i
      · subst hj
        rw [hi] at e1; cases e1
        rw [List.getElem?_set_self hiσ] at e2
        cases e2
        exact ⟨u, r, .inl ⟨hk, by simp⟩⟩
      · rw [List.getElem?_set_ne (Ne.symm hj)] at e2
        obtain ⟨u', r', q⟩ := hl j y v' e1 e2 e3
        refine ⟨u', r', ?_⟩
        rcases q with ⟨k, e⟩ | ⟨k, c, e, z⟩
        · refine .inl ⟨k, ?_⟩
          have : y ≠ x := fun e => hj (nodup_ix hN e1 (e ▸ hi))
          simp [this, e]
        · exact .inr ⟨k, c, e, z.sameBut hs (cne y c e)⟩
    · obtain ⟨w', z⟩ := I.cell y c e
      exact ⟨w', z.sameBut hs (cne y c e)⟩
    · obtain ⟨e, n, ne, nf, d⟩ := I.pin p hp
      exact ⟨(hs.2 p.1 ne).trans e, n, ne, nf, d⟩
  · have hfn : X.fn x = true := by
      rcases hf with z | z
      · exact z
      · rw [z] at hk; cases hk
    obtain ⟨c, hc⟩ := I.ok.has x (.inl hk)
    obtain ⟨w', z⟩ := I.cell x c hc
    refine wpAny_storeName_cell I.ok.kind hk hc z (fun h' hc' hs => ?_)
    obtain ⟨oc, hoc, hocd⟩ := id z
    refine h { s with heap := h' } ⟨I.ok, I.os, I.bare, ⟨fun b o e n hb hx => ?_, fun b o e n hb hx => ?_, I.base.free, fun b o e hx => ?_, I.base.tups, I.base.frzs, I.base.tbls⟩, ⟨m, hn.sameBut hs (Ne.symm (cne x c hc)), fun j y v' e1 e2 e3 => ?_⟩, fun y c' e => ?_, I.free, I.freeC, fun p hp => ?_, tracked ⟨oc, hoc, I.freeC x c hc⟩ hs, by simpa using I.len⟩ ⟨c, hs, .inr hc⟩
    · exact (hs.2 b (Nat.ne_of_lt (Nat.lt_of_lt_of_le (Heap.lt_size e) (I.ok.cab x c hfn hc)))).trans (I.base.keep b o e n hb hx)
    · obtain ⟨sl, e1⟩ := I.base.slot b o e n hb hx
      exact ⟨sl, (hs.2 b (Nat.ne_of_lt (Nat.lt_of_lt_of_le (Heap.lt_size e) (I.ok.cab x c hfn hc)))).trans e1⟩
    · obtain ⟨o', e1⟩ := I.base.there b o e hx
      exact ⟨o', (hs.2 b (Nat.ne_of_lt (Nat.lt_of_lt_of_le (Heap.lt_size e) (I.ok.cab x c hfn hc)))).trans e1⟩
    · by_cases hj : j = i
      · subst hj
        rw [hi] at e1; cases e1
        rw [List.getElem?_set_self hiσ] at e2
        cases e2
        exact ⟨u, r, .inr ⟨.inl hk, c, hc, hc'⟩⟩
      · rw [List.getElem?_set_ne (Ne.symm hj)] at e2
        obtain ⟨u', r', q⟩ := hl j y v' e1 e2 e3
        refine ⟨u', r', ?_⟩
        rcases q with q | ⟨k, c', e, z'⟩
        · exact .inl q
        · refine .inr ⟨k, c', e, z'.sameBut hs ?_⟩
          rintro rfl
          exact hj (nodup_ix hN e1 (I.ok.inj _ _ _ e hc ▸ hi))
    · by_cases hcc : c' = c
      · subst hcc; exact ⟨_, hc'⟩
      · obtain ⟨w2, z2⟩ := I.cell y c' e
        exact ⟨w2, z2.sameBut hs hcc⟩
    · obtain ⟨e, n, ne, nf, d⟩ := I.pin p hp
      refine ⟨(hs.2 p.1 ?_).trans e, n, ne, nf, d⟩
      intro q
      rw [q, hoc] at e
      have q' : oc = p.2 := Option.some.inj e
      exact d w' (by rw [← q']; exact hocd)
theorem store_ok {M : Model} {A : Around} {E : Value → Shared → Prop} {i : Nat} {x : Str} {v : V} {u : Value} {Q : Unit → Shared → Prop} (I : Inv X pins σ H s) (hN : X.N.Nodup) (hi : X.N[i]? = some x) (hx : Loc X.env.scope x) (r : RelV v u)
    (h : ∀ s', Inv X pins (σ.set i (some v)) H s' → Q () s') (hf : X.fn x = true ∨ X.env.scope.names.lookup x = some .local := by first | exact .inl rfl | exact .inr rfl | assumption) : wpAny M A (storeName X.env x u) Q E s :=
  store_ok2 I hN hi hx r (fun s' I' _ => h s' I') hf
theorem Inv.call' {s' : Shared} {ch : List Addr} (I : Inv X pins σ H s) (ho : s'.os = s.os) (u : Un (frs X.stack) ch H H' s.heap s'.heap) (hok : HOk X.prog X.w H' s'.heap) (hg : AllBare s'.gens)
    (hch : ∀ b ∈ ch, (b ∈ X.ex ∨ X.s₀.heap.objs.size ≤ b) ∧ b ≠ X.env.locals ∧ (∀ x c, X.env.cells.lookup x = some c → c ≠ b) ∧ ∀ p ∈ X.pn ++ pins, p.1 ≠ b) : Inv X pins σ H' s' := by
  obtain ⟨h', g', d', t', o'⟩ := s'
  have e : o' = s.os := ho
  subst e
  exact I.call (g' := g') (t' := t') (d' := d') u hok hg hch
end
abbrev XK := Value → Option Addr → Hp → Prop
abbrev St := List (Option V)
abbrev VK := V → Hp → Prop
abbrev TE := St → Hp → VK → Prop
abbrev TT := St → Hp → (Bool → Hp → Prop) → Prop
abbrev TA := St → Hp → (List V → Hp → Prop) → Prop
structure Ends where
  nx : St → Hp → Prop
  rt : VK
  bk : St → Hp → Prop := fun _ _ => False
  ct : St → Hp → Prop := fun _ _ => False
abbrev TS := Ends → St → Hp → Prop
def EP (X : Cx) (pins : List (Addr × Obj)) (σ : St) (Q : VK) (u : Value) (s' : Shared) : Prop := ∃ v H', Inv X pins σ H' s' ∧ RelV v u ∧ Q v H'
def TP (X : Cx) (pins : List (Addr × Obj)) (σ : St) (Q : Bool → Hp → Prop) (b : Bool) (s' : Shared) : Prop := ∃ H', Inv X pins σ H' s' ∧ Q b H'
def AP (X : Cx) (pins : List (Addr × Obj)) (σ : St) (Q : List V → Hp → Prop) (us : List Value) (s' : Shared) : Prop := ∃ vs H', Inv X pins σ H' s' ∧ Vals vs us ∧ Q vs H'
def SP (X : Cx) (pins : List (Addr × Obj)) (D : Ends) (f : Flow) (s' : Shared) : Prop :=
  match f with
  | .next => ∃ σ' H', Inv X pins σ' H' s' ∧ D.nx σ' H'
  | .brk => ∃ σ' H', Inv X pins σ' H' s' ∧ D.bk σ' H'
  | .cont => ∃ σ' H', Inv X pins σ' H' s' ∧ D.ct σ' H'
  | .ret u => ∃ v σ' H', Inv X pins σ' H' s' ∧ RelV v u ∧ D.rt v H'
def PE (X : Cx) (e : Expr) (t : TE) : Prop :=
  ∀ (pins : List (Addr × Obj)) (s : Shared) (σ : St) (H : Hp) (Q : VK), Inv X pins σ H s → t σ H Q → wpAny (model X.prog X.w) X.A (eval e X.env) (EP X pins σ Q) X.xe s
def PT (X : Cx) (e : Expr) (t : TT) : Prop :=
  ∀ (pins : List (Addr × Obj)) (s : Shared) (σ : St) (H : Hp) (Q : Bool → Hp → Prop), Inv X pins σ H s → t σ H Q → wpAny (model X.prog X.w) X.A (isTrue e X.env (eval e X.env)) (TP X pins σ Q) X.xe s
def PW (X : Cx) (e : Expr) (t : TT) : Prop :=
  ∀ (whole : Sem Value) (pins : List (Addr × Obj)) (s : Shared) (σ : St) (H : Hp) (Q : Bool → Hp → Prop), Inv X pins σ H s → t σ H Q → wpAny (model X.prog X.w) X.A (isTrue e X.env whole) (TP X pins σ Q) X.xe s
theorem PW.pt {X : Cx} {e : Expr} {t : TT} (h : PW X e t) : PT X e t := h _
def PA (X : Cx) (es : List Expr) (t : TA) : Prop :=
  ∀ (pos : Pos) (pins : List (Addr × Obj)) (s : Shared) (σ : St) (H : Hp) (Q : List V → Hp → Prop), Inv X pins σ H s → t σ H Q → wpAny (model X.prog X.w) X.A (spliced (backTo pos (starEach es X.env))) (AP X pins σ Q) X.xe s
def PS (X : Cx) (st : Stmt) (t : TS) : Prop :=
  ∀ (pins : List (Addr × Obj)) (s : Shared) (σ : St) (H : Hp) (D : Ends), Inv X pins σ H s → t D σ H → wpAny (model X.prog X.w) X.A (exec st X.env) (SP X pins D) X.xe s
def PSs (X : Cx) (st : List Stmt) (t : TS) : Prop :=
  ∀ (pins : List (Addr × Obj)) (s : Shared) (σ : St) (H : Hp) (D : Ends), Inv X pins σ H s → t D σ H → wpAny (model X.prog X.w) X.A (execs st X.env) (SP X pins D) X.xe s
theorem thn {α : Type} {t : Sem α} {Q Q' : α → Shared → Prop} {M : Model} {A : Around} {E : Value → Shared → Prop} {s : Shared} (h : wpAny M A t Q E s) (hQ : ∀ a s, Q a s → Q' a s) : wpAny M A t Q' E s := wpAny_mono h hQ fun _ _ x => x
end L2
namespace L2
open PySem PySem.Spec PyProof.Rows
section
variable {X : Cx}
def tVar (i : Nat) : TE := fun σ H Q => ∃ v, σ[i]? = some (some v) ∧ Q v H
def tC (v : V) : TE := fun _ H Q => Q v H
theorem pe_var {i : Nat} {x : Str} {pos : Pos} (hN : X.N[i]? = some x) (hv : Vis X.env.scope x) (hd : (x == ("__debug__" : Str)) = false := by decide) (hcd : (x == ("__classdict__" : Str)) = false := by decide) : PE X (.Name x pos) (tVar i) := by
  intro pins s σ H Q I h
  obtain ⟨v, e, h⟩ := h
  obtain ⟨m, hn, hl⟩ := I.loc
  obtain ⟨u, r, l⟩ := hl i x v hN e hv
  have fin : EP X pins σ Q u s := ⟨v, H, I, r, h⟩
  rcases l with ⟨hk, hm⟩ | ⟨hk, c, hc, hcell⟩
  · exact wpAny_Name (wpAny_loadName_local I.ok.kind hk hn hm fin) hd
  · rcases hk with hk | hk
    · exact wpAny_Name (wpAny_loadName_cell I.ok.kind hk hc hcell fin) hd
    · exact wpAny_Name (wpAny_loadName_free I.ok.kind hk hc hcell fin hcd) hd
theorem pe_int {i j pos} : PE X (.Constant (.int i) j pos) (tC (.int i)) := fun _ _ _ H _ I h => wpAny_Constant_int ⟨.int i, H, I.tok _, ⟨_, rfl⟩, h⟩
theorem pe_bl {b j pos} : PE X (.Constant (.bool b) j pos) (tC (.bl b)) := fun _ _ _ H _ I h => Constant_bool ⟨.bl b, H, I, rfl, h⟩
def Gl (X : Cx) (x : Str) : Prop := X.env.kindOf x = some .globalImplicit
theorem ld_glob {E : Value → Shared → Prop} {pins : List (Addr × Obj)} {s : Shared} {σ : St} {H : Hp} {x : Str} {u : Value} {pos : Pos} {Q : Value → Shared → Prop} (I : Inv X pins σ H s) (hg : Gl X x) (hm : X.mg x = some u) (h : Q u s)
    (hd : (x == ("__debug__" : Str)) = false := by decide) : wpAny (model X.prog X.w) X.A (eval (.Name x pos) X.env) Q E s :=
  Calls.Name_function_global I.ok.kind hg (Calls.loadGlobal_global (by rw [I.ok.glob]; exact I.mod.glob.keeps I.bk) hm h) hd
theorem ld_blt {E : Value → Shared → Prop} {pins : List (Addr × Obj)} {s : Shared} {σ : St} {H : Hp} {x : Str} {u : Value} {pos : Pos} {Q : Value → Shared → Prop} (I : Inv X pins σ H s) (hg : Gl X x) (hm : X.mg x = none) (hv : bootBuiltins x = some u) (h : Q u s)
    (hn : x ≠ "__name__" := by decide) (hd : (x == ("__debug__" : Str)) = false := by decide) : wpAny (model X.prog X.w) X.A (eval (.Name x pos) X.env) Q E s := by
  obtain ⟨mb, h1, h2⟩ := I.mod.blt
  exact Calls.Name_function_global I.ok.kind hg (Calls.loadGlobal_builtin (by rw [I.ok.glob]; exact I.mod.glob.keeps I.bk) hm (by rw [I.ok.blt]; exact h1.keeps I.bk) ((h2 x hn).trans hv) h) hd
theorem pe_bltn {x : Str} {v : V} {u : Value} {pos : Pos} (hg : Gl X x) (hm : X.mg x = none) (hv : bootBuiltins x = some u) (r : RelV v u) (hn : x ≠ "__name__" := by decide) (hd : (x == ("__debug__" : Str)) = false := by decide) : PE X (.Name x pos) (tC v) :=
  fun _ _ _ H _ I h => ld_blt I hg hm hv ⟨v, H, I, r, h⟩ hn hd
variable {a b : Expr} {ta tb : TE} {pos : Pos}
def tB (t : TE) : TT := fun σ H Q => t σ H fun x H1 => ∃ c, x = .bl c ∧ Q c H1
theorem pt_val {e : Expr} {t : TE} (h : PE X e t) (he : ∀ whole, isTrue e X.env whole = (do let v ← whole; standAt e.pos; holding [v] (truthy v)) := by intro _; rfl) : PT X e (tB t) := by
  intro pins s σ H Q I hw
  refine isTrue_plain (thn (h pins s σ H _ I hw) fun v s1 ⟨x, H1, I1, r1, q1⟩ => ?_) (he _)
  obtain ⟨d, rfl, q⟩ := q1
  cases r1
  exact wpAny_truthy_bool ⟨H1, I1, q⟩
variable {tA tB' : TT} {rest : List Expr}
def tAnd (t u : TT) : TT := fun σ H Q => t σ H fun c H1 => if c = true then u σ H1 Q else Q false H1
def tOr (t u : TT) : TT := fun σ H Q => t σ H fun c H1 => if c = true then Q true H1 else u σ H1 Q
def tNot (t : TT) : TT := fun σ H Q => t σ H fun c H1 => Q (!c) H1
theorem pw_and1 (ha : PT X a tA) : PW X (.BoolOp .And [a] pos) tA := by
  intro wh pins s σ H Q I h
  refine isTrue_and (thn (ha pins s σ H Q I h) fun c s1 e => ?_)
  cases c with
  | true => exact isTrue_and_nil e
  | false => exact e
theorem pw_or1 (ha : PT X a tA) : PW X (.BoolOp .Or [a] pos) tA := by
  intro wh pins s σ H Q I h
  refine isTrue_or (thn (ha pins s σ H Q I h) fun c s1 e => ?_)
  cases c with
  | false => exact isTrue_or_nil e
  | true => exact e
theorem pw_and (ha : PT X a tA) (hb : PW X (.BoolOp .And (b :: rest) pos) tB') : PW X (.BoolOp .And (a :: b :: rest) pos) (tAnd tA tB') := by
  intro wh pins s σ H Q I h
  refine isTrue_and (thn (ha pins s σ H _ I h) fun c s1 ⟨H1, I1, q1⟩ => ?_)
  cases c with
  | true => exact hb wh pins s1 σ H1 Q I1 q1
  | false => exact ⟨H1, I1, q1⟩
theorem pw_or (ha : PT X a tA) (hb : PW X (.BoolOp .Or (b :: rest) pos) tB') : PW X (.BoolOp .Or (a :: b :: rest) pos) (tOr tA tB') := by
  intro wh pins s σ H Q I h
  refine isTrue_or (thn (ha pins s σ H _ I h) fun c s1 ⟨H1, I1, q1⟩ => ?_)
  cases c with
  | true => exact ⟨H1, I1, q1⟩
  | false => exact hb wh pins s1 σ H1 Q I1 q1
theorem pt_not (ha : PT X a tA) : PT X (.UnaryOp .Not a pos) (tNot tA) := by
  intro pins s σ H Q I h
  exact isTrue_not (ha pins s σ H (fun c H1 => Q (!c) H1) I h)
def tAndV (ta tb : TE) : TE := fun σ H Q => ta σ H fun x H1 => ∃ c, x = .bl c ∧ if c = true then tb σ H1 Q else Q (.bl false) H1
def tNotV (ta : TE) : TE := fun σ H Q => ta σ H fun x H1 => ∃ c, x = .bl c ∧ Q (.bl (!c)) H1
theorem pe_one {op} {t : TE} (h : PE X a t) : PE X (.BoolOp op [a] pos) t := fun pins s σ H Q I hw => BoolOp_one (h pins s σ H Q I hw)
theorem pe_and (ha : PE X a ta) (hb : PE X (.BoolOp .And (b :: rest) pos) tb) : PE X (.BoolOp .And (a :: b :: rest) pos) (tAndV ta tb) := by
  intro pins s σ H Q I h
  refine BoolOp_and (thn (ha pins s σ H _ I h) fun v s1 ⟨x, H1, I1, r1, q1⟩ => ?_)
  obtain ⟨c, rfl, q1⟩ := q1
  cases r1
  refine wpAny_truthy_bool ?_
  cases c with
  | true => exact hb pins s1 σ H1 Q I1 q1
  | false => exact ⟨.bl false, H1, I1, rfl, q1⟩
theorem pe_not (ha : PE X a ta) : PE X (.UnaryOp .Not a pos) (tNotV ta) := by
  intro pins s σ H Q I h
  refine UnaryOp_ (thn (ha pins s σ H _ I h) fun v s1 ⟨x, H1, I1, r1, q1⟩ => ?_)
  obtain ⟨c, rfl, q1⟩ := q1
  cases r1
  exact not_of (wpAny_truthy_bool ⟨.bl (!c), H1, I1, rfl, q1⟩)
def tIf (t : TT) (ta tb : TE) : TE := fun σ H Q => t σ H fun c H1 => if c = true then ta σ H1 Q else tb σ H1 Q
theorem pe_ifExp {c : Expr} (hc : PT X c tA) (ha : PE X a ta) (hb : PE X b tb) : PE X (.IfExp c a b pos) (tIf tA ta tb) := by
  intro pins s σ H Q I h
  refine wpAny_IfExp (thn (hc pins s σ H _ I h) fun d s1 ⟨H1, I1, q1⟩ => ?_)
  cases d with
  | true => exact ha pins s1 σ H1 Q I1 q1
  | false => exact hb pins s1 σ H1 Q I1 q1
end
end L2
namespace L2
open PySem PySem.Spec PyProof.Rows
def SqL (K : PySem.W.Frag) (H : Hp) (a : Addr) (xs : List V) : Prop :=
  Rd H a (.lst xs) ∨
    ∃ (o : Obj) (its : Array Value) (n : Nat), K.lookup a = some o ∧ o.cls = .type "list" ∧ o.dict = none ∧ o.data = .seq its n ∧ its.size ≤ sizeLine ∧ Vals xs its.toList
def SqT (K : PySem.W.Frag) (H : Hp) (a : Addr) (xs : List V) : Prop :=
  Rd H a (.tup xs) ∨
    ∃ (o : Obj) (its : Array Value) (n : Nat), K.lookup a = some o ∧ o.cls = .type "tuple" ∧ o.data = .seq its n ∧ its.size ≤ sizeLine ∧ Vals xs its.toList
def absV : Value → Option V
  | .none => some .non
  | .bool b => some (.bl b)
  | .int i _ => some (.int i)
  | .str x _ => some (.str x)
  | .bytes b _ => some (.byt b)
  | .float b _ => some (.flt b)
  | .ref a => some (.ref a)
  | .type n => some (.ty n)
  | _ => none
theorem RelV.abs {x : V} {u : Value} (r : RelV x u) : absV u = some x := by
  cases x with
  | non => cases r; rfl
  | bl _ => cases r; rfl
  | int _ => obtain ⟨t, rfl⟩ := r; rfl
  | str _ => obtain ⟨t, rfl⟩ := r; rfl
  | byt _ => obtain ⟨t, rfl⟩ := r; rfl
  | flt _ => obtain ⟨t, rfl⟩ := r; rfl
  | ref _ => cases r; rfl
  | ty _ => cases r; rfl
theorem RelV.inj {x y : V} {u : Value} (r : RelV x u) (q : RelV y u) : x = y := Option.some.inj (r.abs.symm.trans q.abs)
theorem Vals.inj : ∀ {xs ys : List V} {us : List Value}, Vals xs us → Vals ys us → xs = ys
  | _, _, _, .nil, .nil => rfl
  | _, _, _, .cons r t, .cons r' t' => by rw [r.inj r', Vals.inj t t']
section
variable {X : Cx} {pins : List (Addr × Obj)} {σ : St} {H : Hp} {s : Shared} {a : Addr} {xs ys : List V}
theorem SqL.of {K : PySem.W.Frag} (h : H a = some (.lst xs)) : SqL K H a xs := .inl (.inl h)
theorem SqT.of {K : PySem.W.Frag} (h : H a = some (.tup xs)) : SqT K H a xs := .inl (.inl h)
theorem Inv.list (I : Inv X pins σ H s) (h : SqL X.K H a xs) : ∃ its : List Value, Vals xs its ∧ PlainL s.heap a its.toArray ∧ xs.length ≤ sizeLine := by
  rcases h with h | ⟨o, its, n, hk, hc, hd, hs, hz, r⟩
  · obtain ⟨z, its, n, r, e⟩ := h.ok I.hok
    exact ⟨its, r, ⟨_, n, e, rfl, rfl, rfl⟩, z⟩
  · refine ⟨its.toList, r, ⟨o, n, I.kIn a o hk, hc, hd, by simpa using hs⟩, ?_⟩
    have e := r.length
    simp only [Array.length_toList] at e
    omega
theorem Inv.tuple (I : Inv X pins σ H s) (h : SqT X.K H a xs) : ∃ its : List Value, Vals xs its ∧ IsTup s.heap a its.toArray ∧ xs.length ≤ sizeLine := by
  rcases h with h | ⟨o, its, n, hk, hc, hs, hz, r⟩
  · obtain ⟨z, its, r, p⟩ := h.ok I.hok
    exact ⟨its, r, p, z⟩
  · refine ⟨its.toList, r, ⟨o, I.kIn a o hk, hc, n, by simpa using hs⟩, ?_⟩
    have e := r.length
    simp only [Array.length_toList] at e
    omega
theorem Inv.list_inj (I : Inv X pins σ H s) (h : SqL X.K H a xs) (h' : SqL X.K H a ys) : xs = ys := by
  obtain ⟨its, r, ⟨o, n, e, _, _, d⟩, _⟩ := I.list h
  obtain ⟨its', r', ⟨o', n', e', _, _, d'⟩, _⟩ := I.list h'
  rw [e] at e'; cases e'
  rw [d] at d'
  injection d' with d1 _
  have : its = its' := by simpa using congrArg Array.toList d1
  subst this
  exact r.inj r'
end
abbrev Cx.wish (X : Cx) (E : Value → Shared → Prop) : Cx := { X with xe := E }
abbrev Cx.nox (X : Cx) : Cx := X.wish fun _ _ => False
theorem Cx.Ok.wish {X : Cx} (ok : X.Ok) (E : Value → Shared → Prop) : (X.wish E).Ok :=
  ⟨ok.mod, ok.kind, ok.glob, ok.blt, ok.above, ok.inj, ok.has, ok.cab, ok.hd, ok.frames, ok.stk, ok.exf, ok.bs, ok.bsz, ok.noex, ok.exfs, ok.funs, ok.frf⟩
theorem Cx.Ok.unwish {X : Cx} {E : Value → Shared → Prop} (ok : (X.wish E).Ok) : X.Ok :=
  ⟨ok.mod, ok.kind, ok.glob, ok.blt, ok.above, ok.inj, ok.has, ok.cab, ok.hd, ok.frames, ok.stk, ok.exf, ok.bs, ok.bsz, ok.noex, ok.exfs, ok.funs, ok.frf⟩
section
variable {X : Cx} {pins : List (Addr × Obj)} {σ : St} {H : Hp} {s : Shared} {E : Value → Shared → Prop}
theorem Inv.wish (I : Inv X pins σ H s) (E : Value → Shared → Prop) : Inv (X.wish E) pins σ H s := ⟨I.ok.wish E, I.os, I.bare, I.base, I.loc, I.cell, I.free, I.freeC, I.pin, I.hok, I.len⟩
theorem Inv.unwish (I : Inv (X.wish E) pins σ H s) : Inv X pins σ H s := ⟨I.ok.unwish, I.os, I.bare, I.base, I.loc, I.cell, I.free, I.freeC, I.pin, I.hok, I.len⟩
theorem SP.unwish {D : Ends} {f : Flow} {s' : Shared} (h : SP (X.wish E) pins D f s') : SP X pins D f s' := by
  cases f with
  | next => obtain ⟨σ', H', I, q⟩ := h; exact ⟨σ', H', I.unwish, q⟩
  | brk => obtain ⟨σ', H', I, q⟩ := h; exact ⟨σ', H', I.unwish, q⟩
  | cont => obtain ⟨σ', H', I, q⟩ := h; exact ⟨σ', H', I.unwish, q⟩
  | ret u => obtain ⟨v, σ', H', I, r, q⟩ := h; exact ⟨v, σ', H', I.unwish, r, q⟩
theorem PE.nox {e : Expr} {t : TE} (h : PE X.nox e t) : PE X e t := fun pins s σ H Q I hw =>
  wpAny_mono (h pins s σ H Q (I.wish _) hw) (fun _ _ ⟨v, H', I', r, q⟩ => ⟨v, H', I'.unwish, r, q⟩) fun _ _ z => False.elim z
theorem PT.nox {e : Expr} {t : TT} (h : PT X.nox e t) : PT X e t := fun pins s σ H Q I hw =>
  wpAny_mono (h pins s σ H Q (I.wish _) hw) (fun _ _ ⟨H', I', q⟩ => ⟨H', I'.unwish, q⟩) fun _ _ z => False.elim z
theorem PSs.nox {st : List Stmt} {t : TS} (h : PSs X.nox st t) : PSs X st t := fun pins s σ H D I hw =>
  wpAny_mono (h pins s σ H D (I.wish _) hw) (fun _ _ q => q.unwish) fun _ _ z => False.elim z
end
section
variable {X : Cx} {st : Stmt} {rest : List Stmt} {t u : TS} {e : Expr} {te : TE} {pos : Pos}
def tNext : TS := fun D σ H => D.nx σ H
def tSeq (t u : TS) : TS := fun D σ H => t { D with nx := u D } σ H
theorem pss_nil : PSs X [] tNext := fun _ _ σ H _ I h => wpAny_execs_nil ⟨σ, H, I, h⟩
theorem pss_cons (h1 : PS X st t) (h2 : PSs X rest u) : PSs X (st :: rest) (tSeq t u) := by
  intro pins s σ H D I h
  refine wpAny_execs_cons (thn (h1 pins s σ H { D with nx := u D } I h) fun f s1 q => ?_)
  cases f with
  | next =>
    obtain ⟨σ', H', I', q⟩ := q
    exact h2 pins s1 σ' H' D I' q
  | ret v => exact q
  | brk => exact q
  | cont => exact q
theorem pss_one (h1 : PS X st t) : PSs X [st] t := by
  intro pins s σ H D I h
  refine wpAny_execs_cons (thn (h1 pins s σ H D I h) fun f s1 q => ?_)
  cases f with
  | next => exact wpAny_execs_nil q
  | ret v => exact q
  | brk => exact q
  | cont => exact q
theorem Inv.quiet {pins : List (Addr × Obj)} {σ : St} {H : Hp} {s : Shared} (I : Inv X pins σ H s) : interactive X.env = false := by simp [interactive, I.ok.kind]
def tDrop (te : TE) : TS := fun D σ H => te σ H fun _ H1 => D.nx σ H1
theorem ps_expr (he : PE X e te) (hs : swapsWith e none pos.line X.env = pure false := by rfl) : PS X (.Expr e pos) (tDrop te) := by
  intro pins s σ H D I h
  exact wpAny_Expr_any (thn (he pins s σ H _ I h) fun v s1 ⟨x, H1, I1, r1, q1⟩ => ⟨σ, H1, I1, q1⟩) I.quiet hs
def tRet (te : TE) : TS := fun D σ H => te σ H D.rt
theorem ps_ret (he : PE X e te) : PS X (.Return (some e) pos) (tRet te) := by
  intro pins s σ H D I h
  exact wpAny_Return_some (thn (he pins s σ H _ I h) fun v s1 ⟨x, H1, I1, r1, q1⟩ => ⟨x, σ, H1, I1, r1, q1⟩)
def tIfS (c : TT) (t u : TS) : TS := fun D σ H => c σ H fun b H1 => if b = true then t D σ H1 else u D σ H1
theorem ps_if {c : Expr} {a b : List Stmt} {tc : TT} (hc : PT X c tc) (ha : PSs X a t) (hb : PSs X b u) : PS X (.If c a b pos) (tIfS tc t u) := by
  intro pins s σ H D I h
  refine wpAny_If (thn (hc pins s σ H _ I h) fun d s1 ⟨H1, I1, q1⟩ => ?_)
  cases d with
  | true => exact ha pins s1 σ H1 D I1 q1
  | false => exact hb pins s1 σ H1 D I1 q1
def tNever : TS := fun _ _ _ => False
theorem ps_never : PS X st tNever := fun _ _ _ _ _ _ h => h.elim
end
abbrev TG := V → St → Hp → (St → Hp → Prop) → Prop
abbrev TGs := List V → St → Hp → (St → Hp → Prop) → Prop
def PG (X : Cx) (target : Expr) (t : TG) : Prop :=
  ∀ (pins : List (Addr × Obj)) (s : Shared) (σ : St) (H : Hp) (v : V) (u : Value) (Q : St → Hp → Prop), Inv X pins σ H s → RelV v u → t v σ H Q →
    wpAny (model X.prog X.w) X.A (assign target X.env u) (fun _ s' => ∃ σ' H', Inv X pins σ' H' s' ∧ Q σ' H') X.xe s
def PGs (X : Cx) (ts : List Expr) (t : TGs) : Prop :=
  ∀ (pins : List (Addr × Obj)) (s : Shared) (σ : St) (H : Hp) (vs : List V) (us : List Value) (Q : St → Hp → Prop), Inv X pins σ H s → Vals vs us → t vs σ H Q →
    wpAny (model X.prog X.w) X.A (assignInOrder ((assignEach ts X.env).map (·.2)) us) (fun _ s' => ∃ σ' H', Inv X pins σ' H' s' ∧ Q σ' H') X.xe s
abbrev TSet := V → V → V → Hp → (Hp → Prop) → Prop
def PSet (X : Cx) (t : TSet) : Prop :=
  ∀ (pins : List (Addr × Obj)) (s : Shared) (σ : St) (H : Hp) (o i v : V) (ov iv u : Value) (Q : Hp → Prop), Inv X pins σ H s → RelV o ov → RelV i iv → RelV v u → t o i v H Q →
    wpAny (model X.prog X.w) X.A (setItem ov iv u) (fun _ s' => ∃ H', Inv X pins σ H' s' ∧ Q H') X.xe s
section
variable {X : Cx} {pos : Pos}
def gName (i : Nat) : TG := fun v σ H Q => Q (σ.set i (some v)) H
theorem pg_name {i : Nat} {x : Str} (hN : X.N.Nodup) (hi : X.N[i]? = some x) (hx : Loc X.env.scope x) (hf : X.fn x = true ∨ X.env.scope.names.lookup x = some .local := by first | exact .inl rfl | exact .inr rfl | assumption) : PG X (.Name x pos) (gName i) := by
  intro pins s σ H v u Q I r h
  exact wpAny_assign_Name (store_ok I hN hi hx r (fun s' I' => ⟨_, H, I', h⟩) hf)
def gNil : TGs := fun vs σ H Q => vs = [] ∧ Q σ H
def gCons (t : TG) (u : TGs) : TGs := fun vs σ H Q => ∃ v r, vs = v :: r ∧ t v σ H fun σ' H' => u r σ' H' Q
theorem pgs_nil : PGs X [] gNil := by
  intro pins s σ H vs us Q I r h
  obtain ⟨e, h⟩ := h
  subst e
  cases r
  exact assignInOrder_nil ⟨σ, H, I, h⟩
theorem pgs_cons {e : Expr} {es : List Expr} {t : TG} {u : TGs} (h1 : PG X e t) (h2 : PGs X es u)
    (hs : (assignEach (e :: es) X.env).map (·.2) = assign e X.env :: (assignEach es X.env).map (·.2) := by rfl) : PGs X (e :: es) (gCons t u) := by
  intro pins s σ H vs us Q I r h
  obtain ⟨v, vr, e1, h⟩ := h
  subst e1
  cases r with
  | cons r rr =>
    rw [hs]
    refine assignInOrder_cons (thn (h1 pins s σ H _ _ _ I r h) fun _ s1 ⟨σ1, H1, I1, q1⟩ => ?_)
    exact h2 pins s1 σ1 H1 _ _ Q I1 rr q1
def gTup (K : PySem.W.Frag) (n : Nat) (t : TGs) : TG := fun v σ H Q => ∃ a xs, v = .ref a ∧ SqT K H a xs ∧ xs.length = n ∧ t xs σ H Q
theorem pg_tup {es : List Expr} {k : Nat} {t : TGs} {n : Nat} (hc : X.calm = true) (h : PGs X es t)
    (hn : (assignEach es X.env).length = n := by rfl) (hst : (assignEach es X.env).findIdx? (·.1) = none := by rfl) : PG X (.Tuple es k pos) (gTup X.K n t) := by
  intro pins s σ H v u Q I r hw
  obtain ⟨a, xs, e1, hq, hl, hw⟩ := hw
  subst e1
  cases r
  obtain ⟨its, rv, ht, hz⟩ := I.tuple hq
  refine assign_Tuple_tuple (I.ok.hd hc) ht (by simp [hn, ← hl, rv.length]) hst fun h' hx => ?_
  have I1 : Inv X pins σ H { s with heap := h' } := I.kept (t' := s.toks) fun b o e => hx b o (Nat.ne_of_lt (Heap.lt_size e)) e
  exact h pins _ σ H xs _ Q I1 (by simpa using rv) hw
def gSub (to ti : TE) (t : TSet) : TG := fun v σ H Q => to σ H fun o H1 => ti σ H1 fun i H2 => t o i v H2 fun H3 => Q σ H3
theorem pg_sub {o i : Expr} {to ti : TE} {t : TSet} (ho : PE X o to) (hi : PE X i ti) (hs : PSet X t)
    (ha : ∀ v, assign (.Subscript o i pos) X.env v = (do
      let ov ← holding [v] (eval o X.env)
      let iv ← holding [v, ov] (eval i X.env)
      standAt pos
      holding [v, ov, iv] (setItem ov iv v)
      release [v, ov, iv] []) := by intro _; rfl) : PG X (.Subscript o i pos) (gSub to ti t) := by
  intro pins s σ H v u Q I r h
  rw [ha]
  refine wpAny_bind (wpAny_holding (thn (ho pins s σ H _ I h) fun ov s1 ⟨x, H1, I1, r1, q1⟩ => ?_))
  refine wpAny_bind (wpAny_holding (thn (hi pins s1 σ H1 _ I1 q1) fun iv s2 ⟨y, H2, I2, r2, q2⟩ => ?_))
  refine wpAny_bind (wpAny_standAt (wpAny_bind (wpAny_holding (thn (hs pins s2 σ H2 x y v ov iv u _ I2 r1 r2 r q2) fun _ s3 ⟨H3, I3, q3⟩ => ?_))))
  exact wpAny_release ⟨σ, H3, I3, q3⟩
def tAsg (te : TE) (g : TG) : TS := fun D σ H => te σ H fun x H1 => g x σ H1 D.nx
theorem ps_asg {tg e : Expr} {te : TE} {g : TG} (he : PE X e te) (hg : PG X tg g) (hs : swapsWithSole [tg] e pos.line X.env = pure false := by rfl) (hw : swappedStores [tg] e X.env = pure none := by rfl)
    (h1 : (assignEach [tg] X.env).map (·.2) = [assign tg X.env] := by rfl) : PS X (.Assign [tg] e pos) (tAsg te g) := by
  intro pins s σ H D I h
  refine wpAny_Assign_stores (thn (he pins s σ H _ I h) fun v s1 ⟨x, H1, I1, r1, q1⟩ => ?_) hs hw
  rw [h1]
  exact thn (hg pins s1 σ H1 x v _ I1 r1 q1) fun _ s2 q => q
theorem ps_set {i : Nat} {x : Str} {e : Expr} {te : TE} {pos' : Pos} (hN : X.N.Nodup) (hi : X.N[i]? = some x) (hx : Loc X.env.scope x) (he : PE X e te) (hs : swapsWith e (some (.Name x pos')) pos.line X.env = pure false := by rfl) (hf : X.fn x = true ∨ X.env.scope.names.lookup x = some .local := by first | exact .inl rfl | exact .inr rfl | assumption) :
    PS X (.Assign [.Name x pos'] e pos) (tAsg te (gName i)) := by
  intro pins s σ H D I h
  refine wpAny_Assign_Name (thn (he pins s σ H _ I h) fun v s1 ⟨y, H1, I1, r1, q1⟩ => ?_) hs
  exact store_ok I1 hN hi hx r1 (fun s2 I2 => ⟨_, H1, I2, q1⟩) hf
end
section
variable {X : Cx} {pos : Pos}
def tWhile (c : TT) (tb : TS) : TS := fun D σ H => ∃ W : Nat → St → Hp → Prop, (∃ m, W m σ H) ∧ ∀ m σ H, W m σ H →
  c σ H fun b H1 => if b = true then ∃ N : St → Hp → Prop, (∀ σ' H', N σ' H' → ∃ m', m' < m ∧ W m' σ' H') ∧ tb { D with nx := N, ct := N, bk := D.nx } σ H1 else D.nx σ H1
theorem ps_while {c : Expr} {body : List Stmt} {tc : TT} {tb : TS} (hp : PassesOwn (model X.prog X.w) X.A X.env X.xe) (hc : PT X c tc) (hb : PSs X body tb) : PS X (.While c body [] pos) (tWhile tc tb) := by
  intro pins s σ H D I h
  obtain ⟨W, ⟨m0, w0⟩, turn⟩ := h
  refine wpAny_While (codeAny_whileLoop (fun n s' => ∃ σ' H', Inv X pins σ' H' s' ∧ W n σ' H') ?_ m0 ⟨σ, H, I, w0⟩)
  rintro n s1 ⟨σ1, H1, I1, w1⟩
  refine wpAny_passesOwn hp (thn (hc pins s1 σ1 H1 _ I1 (turn n σ1 H1 w1)) fun b s2 ⟨H2, I2, q2⟩ => ?_)
  cases b with
  | true =>
    obtain ⟨N, hN, q2⟩ := q2
    rw [if_pos rfl]
    refine wpAny_passesOwn hp (thn (hb pins s2 σ1 H2 _ I2 q2) fun f s3 q3 => ?_)
    cases f with
    | next =>
      obtain ⟨σ3, H3, I3, n3⟩ := q3
      obtain ⟨m', hm, w3⟩ := hN σ3 H3 n3
      exact ⟨m', hm, σ3, H3, I3, w3⟩
    | cont =>
      obtain ⟨σ3, H3, I3, n3⟩ := q3
      obtain ⟨m', hm, w3⟩ := hN σ3 H3 n3
      exact ⟨m', hm, σ3, H3, I3, w3⟩
    | brk => exact q3
    | ret v => exact q3
  | false =>
    rw [if_neg Bool.false_ne_true]
    exact wpAny_execs_nil ⟨σ1, H2, I2, q2⟩
end
structure It where
  go : Nat → Hp → Prop
  yld : Nat → Hp → V → Hp → Prop
  stop : Nat → Hp → Prop
def FpOk (X : Cx) (pins : List (Addr × Obj)) (H : Hp) (b : Addr) : Prop :=
  H b = none ∧ b ≠ X.env.locals ∧ b ∉ X.fs ∧ (b ∈ X.ex ∨ X.s₀.heap.objs.size ≤ b) ∧ (∀ x c, X.env.cells.lookup x = some c → c ≠ b) ∧ ∀ p ∈ X.pn ++ pins, p.1 ≠ b
theorem Inv.fpOk {X : Cx} {pins : List (Addr × Obj)} {σ : St} {H H' : Hp} {s : Shared} {b : Addr} (I : Inv X pins σ H s) (hb : s.heap.objs.size ≤ b) (hn : H' b = none) : FpOk X pins H' b := by
  refine ⟨hn, Nat.ne_of_gt (Nat.lt_of_lt_of_le I.lt hb), I.nofs hb, .inr (Nat.le_trans I.sz hb), fun x c e z => ?_, fun p hp z => ?_⟩
  · obtain ⟨v, q⟩ := I.cell x c e
    exact absurd (Nat.lt_of_lt_of_le q.lt (by rw [z]; exact hb)) (Nat.lt_irrefl _)
  · exact absurd (Nat.lt_of_lt_of_le (Heap.lt_size (I.pin p hp).1) (by rw [z]; exact hb)) (Nat.lt_irrefl _)
structure Turn (P : Program) (w : World) (K : PySem.W.Frag) (tg : Expr) (J : It) (fp : List Addr) (it : Addr) (tn : Nat → Heap → Prop) : Prop where
  mem : it ∈ fp
  obj : ∀ i h, tn i h → ∀ b ∈ fp, ∃ o, h.get? b = some o ∧ ∀ v, o.data ≠ .cell v
  keep : ∀ i h h', tn i h → (∀ b ∈ fp, ∀ o, h.get? b = some o → h'.get? b = some o) → tn i h'
  item : ∀ (X : Cx), X.prog = P → X.w = w → X.K = K → X.calm = true → ∀ (i : Nat) (pins : List (Addr × Obj)) (s : Shared) (σ : St) (H : Hp) (E : Value → Shared → Prop), Inv X pins σ H s → (∀ b ∈ fp, FpOk X pins H b) → tn i s.heap → J.go i H →
    wpAny (model P w) X.A (pyNext (.ref it)) (fun r s1 => ∃ u, r = some u ∧
      wpAny (model P w) X.A (letOwnedTupleGo tg (.ref it) u) (fun _ s2 => ∃ x H', Inv X pins σ H' s2 ∧ RelV x u ∧ J.yld i H x H' ∧ tn (i + 1) s2.heap ∧ ∀ b ∈ fp, H' b = none) E s1) E s
  done : ∀ (X : Cx), X.prog = P → X.w = w → X.K = K → X.calm = true → ∀ (i : Nat) (pins : List (Addr × Obj)) (s : Shared) (σ : St) (H : Hp) (E : Value → Shared → Prop), Inv X pins σ H s → (∀ b ∈ fp, FpOk X pins H b) → tn i s.heap → J.stop i H →
    wpAny (model P w) X.A (pyNext (.ref it)) (fun r s1 => r = none ∧ Inv X pins σ H s1) E s
  self : ∀ (A : Around) (i : Nat) (s : Shared) (Q : Value → Shared → Prop) (E : Value → Shared → Prop), tn i s.heap → Q (.ref it) s → wpAny (model P w) A (pyIter (.ref it)) Q E s
abbrev TI := St → Hp → (It → Hp → Prop) → Prop
def PIE (X : Cx) (pins : List (Addr × Obj)) (σ : St) (tg : Expr) (R : It → Hp → Prop) (itv : Value) (s2 : Shared) : Prop :=
  ∃ (it : Addr) (fp : List Addr) (tn : Nat → Heap → Prop) (J : It) (H' : Hp), itv = .ref it ∧ Inv X pins σ H' s2 ∧ Turn X.prog X.w X.K tg J fp it tn ∧ tn 0 s2.heap ∧ (∀ b ∈ fp, FpOk X pins H' b) ∧ R J H'
def PI (X : Cx) (tg iter : Expr) (wi : TI) : Prop :=
  ∀ (pins : List (Addr × Obj)) (s : Shared) (σ : St) (H : Hp) (R : It → Hp → Prop), Inv X pins σ H s → wi σ H R →
    wpAny (model X.prog X.w) X.A (eval iter X.env) (fun v s1 => wpAny (model X.prog X.w) X.A (pyIter v) (PIE X pins σ tg R) X.xe s1) X.xe s
theorem go_of {M : Model} {A : Around} {E : Value → Shared → Prop} {s : Shared} {tg : Expr} {it : Addr} {u : Value} {o : Obj} {n : String} {vs : Array Value} {Q : Unit → Shared → Prop} (ho : s.heap.get? it = some o) (hc : o.cls = .type n) (hd : o.data = .fields vs)
    (hn : ["enumerate", "zip", "dict_itemiterator", "dict_reverseitemiterator", "odict_iterator", "itertools.zip_longest", "itertools.pairwise"].contains n = false) (hQ : Q () s) : wpAny M A (letOwnedTupleGo tg (.ref it) u) Q E s := by
  unfold letOwnedTupleGo
  cases tg <;> first
    | exact wpAny_pure hQ
    | (cases u <;> first
        | exact wpAny_pure hQ
        | (refine wpAny_bind (wpAny_load ho ?_)
           rw [hc, hd]
           show wpAny M A (if (["enumerate", "zip", "dict_itemiterator", "dict_reverseitemiterator", "odict_iterator", "itertools.zip_longest", "itertools.pairwise"].contains n && vs[0]? == some (rawInt _)) = true then _ else _) Q E s
           rw [if_neg (by intro h; rw [hn, Bool.false_and] at h; cases h)]
           exact wpAny_pure hQ))
def Itl (K : PySem.W.Frag) (a : Addr) : It :=
  ⟨fun i H => ∃ xs x, SqL K H a xs ∧ xs[i]? = some x, fun i H x H' => H' = H ∧ ∀ xs, SqL K H a xs → xs[i]? = some x, fun i H => ∃ xs, SqL K H a xs ∧ xs.length ≤ i⟩
def Itr (lo : Int) (n : Nat) : It := ⟨fun i _ => i < n, fun i H x H' => H' = H ∧ x = .int (lo + i), fun i _ => n ≤ i⟩
theorem turn_list {P : Program} {w : World} {K : PySem.W.Frag} {tg : Expr} (a it : Addr) : Turn P w K tg (Itl K a) [it] it (fun i h => h.IsListIter it a i) where
  mem := by simp
  obj := fun i h st b hb => by
    have e : b = it := by simpa using hb
    subst e
    obtain ⟨o, e, c, d⟩ := st
    exact ⟨o, e, fun v z => by rw [d] at z; cases z⟩
  keep := fun i h h' st k => st.at fun o e => k it (by simp) o e
  item := by
    intro X hP hw hK hc i pins s σ H E I hf st hg
    subst hP hw hK
    obtain ⟨xs, x, hq, hx⟩ := hg
    obtain ⟨its, rv, p, hz⟩ := I.list hq
    obtain ⟨u, hu, ru⟩ := rv.get hx
    obtain ⟨f0, f1, f2, f3, f4, f5⟩ := hf it (by simp)
    refine wpAny_pyNext_list_item st p.isList (x := u) (by simpa using hu) fun h' st' sb => ?_
    have I1 : Inv X pins σ H { s with heap := h' } := I.turned (t' := s.toks) (fun b o hb e => (sb.2 b hb).trans e) f0 f1 f3 f4 f5
    obtain ⟨o, e, c, d⟩ := id st'
    exact ⟨u, rfl, go_of (s := { s with heap := h' }) e c d (by decide) ⟨x, H, I1, ru, ⟨rfl, fun ys hy => by rw [I.list_inj hy hq]; exact hx⟩, st', fun b hb => (hf b hb).1⟩⟩
  done := by
    intro X hP hw hK hc i pins s σ H E I hf st hg
    subst hP hw hK
    obtain ⟨xs, hq, hx⟩ := hg
    obtain ⟨its, rv, p, hz⟩ := I.list hq
    obtain ⟨f0, f1, f2, f3, f4, f5⟩ := hf it (by simp)
    have hl := rv.length
    exact wpAny_pyNext_list_end (I.ok.hd hc) st p.isList (by simp; omega) fun h' eb => ⟨rfl, I.turned (t' := s.toks) (fun b o hb e => eb b o hb e) f0 f1 f3 f4 f5⟩
  self := fun _ _ _ _ _ st h => wpAny_pyIter_listiter st h
theorem turn_range {P : Program} {w : World} {K : PySem.W.Frag} {tg : Expr} (it : Addr) (lo : Int) (n : Nat) : Turn P w K tg (Itr lo n) [it] it (fun i h => IsRangeIter h it (lo + (i : Nat) * 1) ((n : Int) - (i : Nat)) 1) where
  mem := by simp
  obj := fun i h st b hb => by
    have e : b = it := by simpa using hb
    subst e
    exact ⟨_, st, fun v z => by
      have z' : Data.fields _ = Data.cell v := z
      cases z'⟩
  keep := fun i h h' st k => k it (by simp) _ st
  item := by
    intro X hP hw hK hc i pins s σ H E I hf st hg
    subst hP hw hK
    obtain ⟨f0, f1, f2, f3, f4, f5⟩ := hf it (by simp)
    have W := Walks.range (prog := X.prog) (w := X.w) (I.ok.hd hc) it lo 1 n
    refine W.item i s _ _ hg st fun v h' tk hv st' kk => ?_
    obtain ⟨t, rfl⟩ := hv
    have I1 : Inv X pins σ H { s with heap := h', toks := tk } := I.turned (fun b o hb e => kk b o (by simpa using hb) e) f0 f1 f3 f4 f5
    refine ⟨_, rfl, go_of (s := { s with heap := h', toks := tk }) (n := "range_iterator") st' rfl rfl (by decide) ⟨.int (lo + i), H, I1, ⟨t, ?_⟩, ⟨rfl, rfl⟩, st', fun b hb => (hf b hb).1⟩⟩
    rw [Int.mul_one]
  done := by
    intro X hP hw hK hc i pins s σ H E I hf st hg
    subst hP hw hK
    obtain ⟨f0, f1, f2, f3, f4, f5⟩ := hf it (by simp)
    exact wpAny_pyNext_range_end (I.ok.hd hc) st (by have : n ≤ i := hg; omega) fun h' eb => ⟨rfl, I.turned (t' := s.toks) (fun b o hb e => eb b o hb e) f0 f1 f3 f4 f5⟩
  self := fun _ _ _ _ _ st h => wpAny_pyIter_rangeiter st h
end L2
namespace L2
open PySem PySem.Spec PyProof.Rows
section
variable {X : Cx} {tg : Expr}
def iList (K : PySem.W.Frag) (tl : TE) : TI := fun σ H R => tl σ H fun x H1 => ∃ a, x = .ref a ∧ (∃ xs, SqL K H1 a xs) ∧ R (Itl K a) H1
theorem pi_list {l : Expr} {tl : TE} (hl : PE X l tl) : PI X tg l (iList X.K tl) := by
  intro pins s σ H R I h
  refine thn (hl pins s σ H _ I h) fun v s1 ⟨x, H1, I1, r1, q1⟩ => ?_
  obtain ⟨a, e, ⟨xs, hq⟩, q⟩ := q1
  subst e
  cases r1
  obtain ⟨its, rv, p, hz⟩ := I1.list hq
  refine wpAny_pyIter_list p.isList ?_
  refine ⟨s1.heap.objs.size, [s1.heap.objs.size], _, _, H1, rfl, I1.kept (t' := s1.toks) fun b o e => Heap.get?_push_of_some _ e, turn_list a _, ⟨_, Heap.get?_push_size _ rfl, rfl, rfl⟩, fun b hb => ?_, q⟩
  have e : b = s1.heap.objs.size := by simpa using hb
  subst e
  exact I1.fpOk (Nat.le_refl _) (I1.hok.fresh (Nat.le_refl _))
theorem range_it {pins : List (Addr × Obj)} {σ : St} {H : Hp} {s : Shared} {R : It → Hp → Prop} {E : Value → Shared → Prop} {lo hi : Int} {t u v : Tok} {tk : Nat} (I : Inv X pins σ H s) (h1 : -(2 ^ 62) ≤ lo) (h2 : lo < 2 ^ 62) (h3 : -(2 ^ 62) ≤ hi) (h4 : hi < 2 ^ 62)
    (q : R (Itr lo (hi - lo).toNat) H) : wpAny (model X.prog X.w) X.A (pyIter (.ref s.heap.objs.size)) (PIE X pins σ tg R) E { s with heap := s.heap.push { cls := .type "range", data := .fields #[.int lo t, .int hi u, .int 1 v] }, toks := tk } := by
  refine wpAny_pyIter_range (IsRange.new ..) (small_one h1 h2 h3 h4) ?_
  have I1 : Inv X pins σ H { s with heap := s.heap.push { cls := .type "range", data := .fields #[.int lo t, .int hi u, .int 1 v] }, toks := tk } := I.kept fun b o e => Heap.get?_push_of_some _ e
  refine ⟨(s.heap.push { cls := .type "range", data := .fields #[.int lo t, .int hi u, .int 1 v] }).objs.size, [(s.heap.push { cls := .type "range", data := .fields #[.int lo t, .int hi u, .int 1 v] }).objs.size], _, _, H, rfl,
    I1.kept (t' := tk) fun b o e => Heap.get?_push_of_some _ e, turn_range _ lo (hi - lo).toNat, ?_, fun b hb => ?_, q⟩
  · have e1 : lo + ((0 : Nat) : Int) * 1 = lo := by simp
    have e2 : (((hi - lo).toNat : Nat) : Int) - ((0 : Nat) : Int) = Builtin.Range.rangeSize lo hi 1 := by rw [rangeSize_one]; split <;> omega
    show IsRangeIter _ _ (lo + ((0 : Nat) : Int) * 1) ((((hi - lo).toNat : Nat) : Int) - ((0 : Nat) : Int)) 1
    rw [e1, e2]
    exact Heap.get?_push_size _ rfl
  · have e : b = (s.heap.push { cls := .type "range", data := .fields #[.int lo t, .int hi u, .int 1 v] }).objs.size := by simpa using hb
    subst e
    exact I1.fpOk (Nat.le_refl _) (I1.hok.fresh (Nat.le_refl _))
def iRng1 (ta : TA) : TI := fun σ H R => ta σ H fun vs H1 => ∃ j : Int, vs = [.int j] ∧ -(2 ^ 62) ≤ j ∧ j < 2 ^ 62 ∧ R (Itr 0 j.toNat) H1
def iRng2 (ta : TA) : TI := fun σ H R => ta σ H fun vs H1 => ∃ i j : Int, vs = [.int i, .int j] ∧ (-(2 ^ 62) ≤ i ∧ i < 2 ^ 62 ∧ -(2 ^ 62) ≤ j ∧ j < 2 ^ 62) ∧ R (Itr i (j - i).toNat) H1
theorem pi_range1 {a : Expr} {ta : TA} {p pos : Pos} (hg : Gl X "range") (hm : X.mg "range" = none) (ha : PA X [a] ta) (hs : starEach [a] X.env = [(false, eval a X.env)] := by rfl) : PI X tg (.Call (.Name "range" p) [a] [] pos) (iRng1 ta) := by
  intro pins s σ H R I h
  refine Call_ (ld_blt I hg hm boot_range (PyProof.Rows.callWith_type1 (thn (ha pos pins s σ H _ I h) fun us s1 ⟨vs, H1, I1, r1, q1⟩ => ?_) hs rfl))
  obtain ⟨j, e, q1, q2, q⟩ := q1
  subst e
  cases r1 with
  | cons r rr =>
    cases rr
    obtain ⟨t, rfl⟩ := r
    exact call_range_1 (range_it I1 (by omega) (by omega) q1 q2 (by simpa using q))
theorem pi_range2 {a b : Expr} {ta : TA} {p pos : Pos} (hg : Gl X "range") (hm : X.mg "range" = none) (ha : PA X [a, b] ta) (hs : starEach [a, b] X.env = [(false, eval a X.env), (false, eval b X.env)] := by rfl) (hs2 : starEach [b] X.env = [(false, eval b X.env)] := by rfl) :
    PI X tg (.Call (.Name "range" p) [a, b] [] pos) (iRng2 ta) := by
  intro pins s σ H R I h
  refine Call_ (ld_blt I hg hm boot_range (PyProof.Rows.callWith_type1 (thn (ha pos pins s σ H _ I h) fun us s1 ⟨vs, H1, I1, r1, q1⟩ => ?_) (by rw [hs, hs2]) (by rw [hs2]; rfl)))
  obtain ⟨i, j, e, ⟨q1, q2, q3, q4⟩, q⟩ := q1
  subst e
  cases r1 with
  | cons r rr =>
    cases rr with
    | cons r' rr =>
      cases rr
      obtain ⟨t, rfl⟩ := r
      obtain ⟨t', rfl⟩ := r'
      exact call_range_2 (range_it I1 q1 q2 q3 q4 q)
def tFor (wi : TI) (g : TG) (tb : TS) : TS := fun D σ H => wi σ H fun J H1 => ∃ W : Nat → Nat → St → Hp → Prop, (∃ m, W 0 m σ H1) ∧ ∀ i m σ H, W i m σ H →
  (J.stop i H ∧ D.nx σ H) ∨ (J.go i H ∧ ∃ N : St → Hp → Prop, (∀ σ' H', N σ' H' → ∃ m', m' < m ∧ W (i + 1) m' σ' H') ∧ ∀ x H', J.yld i H x H' → g x σ H' fun σ2 H2 => tb { D with nx := N, ct := N, bk := D.nx } σ2 H2)
def pinsAt (fp : List Addr) (h : Heap) : List (Addr × Obj) := fp.filterMap fun b => (h.get? b).map fun o => (b, o)
theorem mem_pinsAt {fp : List Addr} {h : Heap} {b : Addr} {o : Obj} (hb : b ∈ fp) (e : h.get? b = some o) : (b, o) ∈ pinsAt fp h := List.mem_filterMap.mpr ⟨b, hb, by rw [e]; rfl⟩
theorem of_pinsAt {fp : List Addr} {h : Heap} {p : Addr × Obj} (hp : p ∈ pinsAt fp h) : p.1 ∈ fp ∧ h.get? p.1 = some p.2 := by
  obtain ⟨b, hb, e⟩ := List.mem_filterMap.mp hp
  cases q : h.get? b with
  | none => rw [q] at e; cases e
  | some o =>
    rw [q] at e
    have e' : (b, o) = p := Option.some.inj e
    subst e'
    exact ⟨hb, q⟩
theorem Inv.pinned {pins : List (Addr × Obj)} {σ : St} {H : Hp} {s : Shared} {fp : List Addr} (I : Inv X pins σ H s) (hf : ∀ b ∈ fp, FpOk X pins H b) (ho : ∀ b ∈ fp, ∃ o, s.heap.get? b = some o ∧ ∀ v, o.data ≠ .cell v) : Inv X (pins ++ pinsAt fp s.heap) σ H s :=
  I.pins_of fun p hp => (List.mem_append.mp hp).elim (fun z => I.pin p (List.mem_append_right _ z)) fun z => by
    obtain ⟨hb, e⟩ := of_pinsAt z
    obtain ⟨f0, f1, f2, _⟩ := hf p.1 hb
    obtain ⟨o, e', d⟩ := ho p.1 hb
    rw [e] at e'; cases e'
    exact ⟨e, f0, f1, f2, d⟩
theorem Inv.unpinned {pins pl : List (Addr × Obj)} {σ : St} {H : Hp} {s : Shared} (I : Inv X (pins ++ pl) σ H s) : Inv X pins σ H s := I.pins_of fun p hp => I.pin p (List.mem_append_right _ (List.mem_append_left _ hp))
theorem ps_for {iter : Expr} {body : List Stmt} {wi : TI} {g : TG} {tb : TS} {pos : Pos} (hp : PassesOwn (model X.prog X.w) X.A X.env X.xe) (hc : X.calm = true) (hi : PI X tg iter wi) (hg : PG X tg g) (hb : PSs X body tb)
    (hs : ∀ x, foldedSetIterable iter X.env x = pure x := by intro _; rfl) : PS X (.For tg iter body [] pos) (tFor wi g tb) := by
  intro pins s σ H D I h
  refine wpAny_For (thn (hi pins s σ H _ I h) fun v s1 h1 => thn h1 fun itv s2 h2 => ?_) hs
  obtain ⟨it, fp, tn, J, H2, e, I2, T, st2, f2, W, ⟨m0, w0⟩, turn⟩ := h2
  subst e
  have stat : ∀ {H' : Hp}, (∀ b ∈ fp, H' b = none) → ∀ b ∈ fp, FpOk X pins H' b := fun hn b hb => ⟨hn b hb, (f2 b hb).2⟩
  refine codeAny_forLoop_any (fun n s' => ∃ i σ' H', Inv X pins σ' H' s' ∧ tn i s'.heap ∧ (∀ b ∈ fp, H' b = none) ∧ W i n σ' H') ?_ m0 ⟨0, σ, H2, I2, st2, fun b hb => (f2 b hb).1, w0⟩
  rintro n s3 ⟨i, σ3, H3, I3, st3, fr3, w3⟩
  rcases turn i n σ3 H3 w3 with ⟨stop, qn⟩ | ⟨go, N, hN, step⟩
  · refine wpAny_passesOwn hp (thn (T.done X rfl rfl rfl hc i pins s3 σ3 H3 X.xe I3 (stat fr3) st3 stop) fun r s4 ⟨hr, I4⟩ => ?_)
    subst hr
    exact wpAny_execs_nil ⟨σ3, H3, I4, qn⟩
  · refine wpAny_passesOwn hp (thn (T.item X rfl rfl rfl hc i pins s3 σ3 H3 X.xe I3 (stat fr3) st3 go) fun r s4 ⟨u, hr, h4⟩ => ?_)
    subst hr
    refine wpAny_passesOwn hp (thn h4 fun _ s5 ⟨x, H5, I5, r5, y5, st5, fr5⟩ => ?_)
    have I5' := I5.pinned (stat fr5) (T.obj _ _ st5)
    refine wpAny_passesOwn hp (thn (hg _ s5 σ3 H5 x u _ I5' r5 (step x H5 y5)) fun _ s6 ⟨σ6, H6, I6, q6⟩ => ?_)
    refine wpAny_passesOwn hp (thn (hb _ s6 σ6 H6 _ I6 q6) fun f s7 q7 => ?_)
    have again : ∀ {σ7 : St} {H7 : Hp}, Inv X (pins ++ pinsAt fp s5.heap) σ7 H7 s7 → N σ7 H7 → ∃ m, m < n ∧ ∃ i σ' H', Inv X pins σ' H' s7 ∧ tn i s7.heap ∧ (∀ b ∈ fp, H' b = none) ∧ W i m σ' H' := fun {σ7 H7} I7 n7 => by
      obtain ⟨m', hm, w7⟩ := hN σ7 H7 n7
      refine ⟨m', hm, i + 1, σ7, H7, I7.unpinned, T.keep _ _ _ st5 fun b hb o e => (I7.pin (b, o) (List.mem_append_right _ (List.mem_append_right _ (mem_pinsAt hb e)))).1, fun b hb => ?_, w7⟩
      obtain ⟨o, e, d⟩ := T.obj _ _ st5 b hb
      exact (I7.pin (b, o) (List.mem_append_right _ (List.mem_append_right _ (mem_pinsAt hb e)))).2.1
    cases f with
    | next => obtain ⟨σ7, H7, I7, n7⟩ := q7; exact again I7 n7
    | cont => obtain ⟨σ7, H7, I7, n7⟩ := q7; exact again I7 n7
    | brk => obtain ⟨σ7, H7, I7, q7⟩ := q7; exact ⟨σ7, H7, I7.unpinned, q7⟩
    | ret v => obtain ⟨x7, σ7, H7, I7, r7, q7⟩ := q7; exact ⟨x7, σ7, H7, I7.unpinned, r7, q7⟩
end
theorem for_list {K : PySem.W.Frag} {a : Addr} {xs : List V} {g : TG} {tb : TS} {D : Ends} {σ : St} {H : Hp} (Pv : Nat → St → Hp → Prop) (h0 : Pv 0 σ H) (hl : ∀ i σ H, i ≤ xs.length → Pv i σ H → SqL K H a xs)
    (hs : ∀ i x σ H, xs[i]? = some x → Pv i σ H → g x σ H fun σ2 H2 => tb { D with nx := Pv (i + 1), ct := Pv (i + 1), bk := D.nx } σ2 H2) (hd : ∀ σ H, Pv xs.length σ H → D.nx σ H) :
    ∃ W : Nat → Nat → St → Hp → Prop, (∃ m, W 0 m σ H) ∧ ∀ i m σ H, W i m σ H →
      ((Itl K a).stop i H ∧ D.nx σ H) ∨ ((Itl K a).go i H ∧ ∃ N : St → Hp → Prop, (∀ σ' H', N σ' H' → ∃ m', m' < m ∧ W (i + 1) m' σ' H') ∧ ∀ x H', (Itl K a).yld i H x H' → g x σ H' fun σ2 H2 => tb { D with nx := N, ct := N, bk := D.nx } σ2 H2) := by
  refine ⟨fun i m σ H => m = xs.length - i ∧ i ≤ xs.length ∧ Pv i σ H, ⟨xs.length, by simp, Nat.zero_le _, h0⟩, ?_⟩
  rintro i m σ H ⟨rfl, hi, p⟩
  have q := hl i σ H hi p
  by_cases hlt : i < xs.length
  · refine .inr ⟨⟨xs, xs[i], q, by simp [hlt]⟩, Pv (i + 1), fun σ' H' p' => ⟨xs.length - (i + 1), by omega, rfl, hlt, p'⟩, fun x H' y => ?_⟩
    obtain ⟨e, y⟩ := y
    subst e
    exact hs i x σ _ (y xs q) p
  · have e : i = xs.length := by omega
    subst e
    exact .inl ⟨⟨xs, q, Nat.le_refl _⟩, hd σ H p⟩
theorem for_range {lo : Int} {n : Nat} {g : TG} {tb : TS} {D : Ends} {σ : St} {H : Hp} (Pv : Nat → St → Hp → Prop) (h0 : Pv 0 σ H)
    (hs : ∀ i σ H, i < n → Pv i σ H → g (.int (lo + i)) σ H fun σ2 H2 => tb { D with nx := Pv (i + 1), ct := Pv (i + 1), bk := D.nx } σ2 H2) (hd : ∀ σ H, Pv n σ H → D.nx σ H) :
    ∃ W : Nat → Nat → St → Hp → Prop, (∃ m, W 0 m σ H) ∧ ∀ i m σ H, W i m σ H →
      ((Itr lo n).stop i H ∧ D.nx σ H) ∨ ((Itr lo n).go i H ∧ ∃ N : St → Hp → Prop, (∀ σ' H', N σ' H' → ∃ m', m' < m ∧ W (i + 1) m' σ' H') ∧ ∀ x H', (Itr lo n).yld i H x H' → g x σ H' fun σ2 H2 => tb { D with nx := N, ct := N, bk := D.nx } σ2 H2) := by
  refine ⟨fun i m σ H => m = n - i ∧ i ≤ n ∧ Pv i σ H, ⟨n, by simp, Nat.zero_le _, h0⟩, ?_⟩
  rintro i m σ H ⟨rfl, hi, p⟩
  by_cases hlt : i < n
  · refine .inr ⟨hlt, Pv (i + 1), fun σ' H' p' => ⟨n - (i + 1), by omega, rfl, hlt, p'⟩, fun x H' y => ?_⟩
    obtain ⟨e, y⟩ := y
    subst e y
    exact hs i σ _ hlt p
  · have e : i = n := by omega
    subst e
    exact .inl ⟨Nat.le_refl _, hd σ H p⟩
theorem while_by {c : TT} {tb : TS} {D : Ends} {σ : St} {H : Hp} (Pv : St → Hp → Prop) (μ : St → Hp → Nat) (h0 : Pv σ H)
    (hs : ∀ σ H, Pv σ H → c σ H fun b H1 => if b = true then tb { D with nx := fun σ' H' => Pv σ' H' ∧ μ σ' H' < μ σ H, ct := fun σ' H' => Pv σ' H' ∧ μ σ' H' < μ σ H, bk := D.nx } σ H1 else D.nx σ H1)
    (mono : ∀ σ H Q Q', (∀ b H1, Q b H1 → Q' b H1) → c σ H Q → c σ H Q') : tWhile c tb D σ H := by
  refine ⟨fun m σ H => m = μ σ H ∧ Pv σ H, ⟨_, rfl, h0⟩, ?_⟩
  rintro m σ H ⟨rfl, p⟩
  refine mono σ H _ _ (fun b H1 q => ?_) (hs σ H p)
  cases b with
  | true => exact ⟨_, fun σ' H' ⟨p', l⟩ => ⟨_, l, rfl, p'⟩, q⟩
  | false => exact q
end L2
namespace L2
open PySem PySem.Spec PyProof.Rows
abbrev R2 := V → V → Hp → VK → Prop
def OpR (X : Cx) (f : Value → Value → Sem Value) (r : R2) : Prop :=
  ∀ (pins : List (Addr × Obj)) (s : Shared) (σ : St) (H : Hp) (x y : V) (v u : Value) (Q : VK), Inv X pins σ H s → RelV x v → RelV y u → r x y H Q →
    wpAny (model X.prog X.w) X.A (f v u) (EP X pins σ Q) X.xe s
def UnR (X : Cx) (f : Value → Sem Value) (r : V → Hp → VK → Prop) : Prop :=
  ∀ (pins : List (Addr × Obj)) (s : Shared) (σ : St) (H : Hp) (x : V) (v : Value) (Q : VK), Inv X pins σ H s → RelV x v → r x H Q →
    wpAny (model X.prog X.w) X.A (f v) (EP X pins σ Q) X.xe s
def CallR (X : Cx) (f : Value) (r : List V → Hp → VK → Prop) : Prop :=
  ∀ (pins : List (Addr × Obj)) (s : Shared) (σ : St) (H : Hp) (xs : List V) (us : List Value) (Q : VK), Inv X pins σ H s → Vals xs us → r xs H Q →
    wpAny (model X.prog X.w) X.A (call f us) (EP X pins σ Q) X.xe s
def tOp (r : R2) (ta tb : TE) : TE := fun σ H Q => ta σ H fun x H1 => tb σ H1 fun y H2 => r x y H2 Q
def tUn (r : V → Hp → VK → Prop) (ta : TE) : TE := fun σ H Q => ta σ H fun x H1 => r x H1 Q
def rI (C : Int → Int → Prop) (g : Int → Int → V) : R2 := fun x y H Q => ∃ i j, x = .int i ∧ y = .int j ∧ C i j ∧ Q (g i j) H
def rI0 (g : Int → Int → V) : R2 := fun x y H Q => ∃ i j, x = .int i ∧ y = .int j ∧ Q (g i j) H
def rU (g : Int → V) : V → Hp → VK → Prop := fun x H Q => ∃ i, x = .int i ∧ Q (g i) H
section
variable {X : Cx} {a b c : Expr} {ta tb tc : TE} {pos : Pos}
theorem binT (ha : PE X a ta) (hb : PE X b tb) {pins : List (Addr × Obj)} {s : Shared} {σ : St} {H : Hp} {R : V → V → Hp → Prop} (I : Inv X pins σ H s)
    (h : ta σ H fun x H1 => tb σ H1 fun y H2 => R x y H2) {Q : Value → Shared → Prop} {f : Value → Value → Sem Value}
    (hf : ∀ v u s2 x y H2, Inv X pins σ H2 s2 → RelV x v → RelV y u → R x y H2 → wpAny (model X.prog X.w) X.A (f v u) Q X.xe s2) :
    wpAny (model X.prog X.w) X.A (eval a X.env) (fun v s₁ => wpAny (model X.prog X.w) X.A (eval b X.env) (fun u s₂ => wpAny (model X.prog X.w) X.A (f v u) Q X.xe s₂) X.xe s₁) X.xe s := by
  refine thn (ha pins s σ H _ I h) fun v s1 ⟨x, H1, I1, r1, q1⟩ => ?_
  refine thn (hb pins s1 σ H1 _ I1 q1) fun u s2 ⟨y, H2, I2, r2, q2⟩ => ?_
  exact hf v u s2 x y H2 I2 r1 r2 q2
theorem pe_op {op : Operator} {r : R2} (ho : OpR X (binaryOp op) r) (ha : PE X a ta) (hb : PE X b tb) : PE X (.BinOp a op b pos) (tOp r ta tb) := by
  intro pins s σ H Q I h
  exact wpAny_BinOp (binT ha hb I h fun v u s2 x y H2 I2 rx ry q => ho pins s2 σ H2 x y v u Q I2 rx ry q)
theorem pe_un {op : UnaryOp} {r : V → Hp → VK → Prop} (ho : UnR X (unaryOp op) r) (ha : PE X a ta) : PE X (.UnaryOp op a pos) (tUn r ta) := by
  intro pins s σ H Q I h
  exact UnaryOp_ (thn (ha pins s σ H _ I h) fun v s1 ⟨x, H1, I1, r1, q1⟩ => ho pins s1 σ H1 x v Q I1 r1 q1)
theorem opI {f : Value → Value → Sem Value} {C : Int → Int → Prop} {g : Int → Int → Int}
    (rule : ∀ (i j : Int) (t u : Tok) (s : Shared) (Q : Value → Shared → Prop) (E : Value → Shared → Prop), C i j → Q (.int (g i j) s.toks) { s with toks := s.toks + 1 } → wpAny (model X.prog X.w) X.A (f (.int i t) (.int j u)) Q E s) :
    OpR X f (rI C fun i j => .int (g i j)) := by
  intro pins s σ H x y v u Q I rx ry h
  obtain ⟨i, j, rfl, rfl, hc, q⟩ := h
  obtain ⟨t, rfl⟩ := rx
  obtain ⟨t', rfl⟩ := ry
  exact rule i j t t' s _ _ hc ⟨.int (g i j), H, I.tok _, ⟨_, rfl⟩, q⟩
theorem opI0 {f : Value → Value → Sem Value} {g : Int → Int → Int}
    (rule : ∀ (i j : Int) (t u : Tok) (s : Shared) (Q : Value → Shared → Prop) (E : Value → Shared → Prop), Q (.int (g i j) s.toks) { s with toks := s.toks + 1 } → wpAny (model X.prog X.w) X.A (f (.int i t) (.int j u)) Q E s) :
    OpR X f (rI0 fun i j => .int (g i j)) := by
  intro pins s σ H x y v u Q I rx ry h
  obtain ⟨i, j, rfl, rfl, q⟩ := h
  obtain ⟨t, rfl⟩ := rx
  obtain ⟨t', rfl⟩ := ry
  exact rule i j t t' s _ _ ⟨.int (g i j), H, I.tok _, ⟨_, rfl⟩, q⟩
theorem opB0 {f : Value → Value → Sem Value} {g : Int → Int → Bool}
    (rule : ∀ (i j : Int) (t u : Tok) (s : Shared) (Q : Value → Shared → Prop) (E : Value → Shared → Prop), Q (.bool (g i j)) s → wpAny (model X.prog X.w) X.A (f (.int i t) (.int j u)) Q E s) :
    OpR X f (rI0 fun i j => .bl (g i j)) := by
  intro pins s σ H x y v u Q I rx ry h
  obtain ⟨i, j, rfl, rfl, q⟩ := h
  obtain ⟨t, rfl⟩ := rx
  obtain ⟨t', rfl⟩ := ry
  exact rule i j t t' s _ _ ⟨.bl (g i j), H, I, rfl, q⟩
def CPow (i j : Int) : Prop := 0 ≤ j ∧ j ≤ 1000000 ∧ i.natAbs < 2 ^ 64
def CMul (i j : Int) : Prop := (-(2 ^ 64) < i ∧ i < 2 ^ 64) ∨ (-(2 ^ 64) < j ∧ j < 2 ^ 64)
theorem CMul.ok {i j : Int} (h : CMul i j) : IntMulOk i j := by
  rcases h with ⟨h1, h2⟩ | ⟨h1, h2⟩
  · exact .of_left (intBits_le_64 h1 h2)
  · exact .of_right (intBits_le_64 h1 h2)
theorem op_add : OpR X (binaryOp .Add) (rI0 fun i j => .int (i + j)) := opI0 fun _ _ _ _ _ _ _ q => add_int q
theorem op_sub : OpR X (binaryOp .Sub) (rI0 fun i j => .int (i - j)) := opI0 fun _ _ _ _ _ _ _ q => sub_int q
theorem op_mod : OpR X (binaryOp .Mod) (rI (fun _ j => 0 < j) fun i j => .int (i % j)) := opI fun i j _ _ _ _ _ hc q => by
  have h1 : (0 : Int) < j := hc
  exact mod_int' (by omega) (by rw [Int.fmod_eq_emod_of_nonneg i (by omega)]; exact q)
theorem op_pow : OpR X (binaryOp .Pow) (rI CPow fun i j => .int (i ^ j.toNat)) := opI fun _ _ _ _ _ _ _ hc q => pow_int_small hc.1 hc.2.1 hc.2.2 q
theorem op_shl : OpR X (binaryOp .LShift) (rI CPow fun i j => .int (i * 2 ^ j.toNat)) := opI fun _ _ _ _ _ _ _ hc q => lshift_int_small hc.1 hc.2.1 hc.2.2 q
theorem unI {f : Value → Sem Value} {g : Int → Int}
    (rule : ∀ (i : Int) (t : Tok) (s : Shared) (Q : Value → Shared → Prop) (E : Value → Shared → Prop), Q (.int (g i) s.toks) { s with toks := s.toks + 1 } → wpAny (model X.prog X.w) X.A (f (.int i t)) Q E s) :
    UnR X f (rU fun i => .int (g i)) := by
  intro pins s σ H x v Q I rx h
  obtain ⟨i, rfl, q⟩ := h
  obtain ⟨t, rfl⟩ := rx
  exact rule i t s _ _ ⟨.int (g i), H, I.tok _, ⟨_, rfl⟩, q⟩
theorem un_neg : UnR X (unaryOp .USub) (rU fun i => .int (-i)) := unI fun _ _ _ _ _ q => neg_int q
end
def scal : V → V → Bool
  | .non, .non => true | .non, .int _ => true | .int _, .non => true | .non, .bl _ => true | .bl _, .non => true | .non, .str _ => true | .str _, .non => true
  | .int _, .int _ => true | .bl _, .bl _ => true | .str _, .str _ => true | .byt _, .byt _ => true
  | .int _, .str _ => true | .str _, .int _ => true | .bl _, .str _ => true | .str _, .bl _ => true
  | _, _ => false
def rEq : R2 := fun x y H Q => scal x y = true ∧ Q (.bl (decide (x = y))) H
def rNe : R2 := fun x y H Q => scal x y = true ∧ Q (.bl (!decide (x = y))) H
theorem dec_int {i j : Int} : decide (V.int i = V.int j) = (i == j) := by
  rw [Bool.eq_iff_iff]
  simp
theorem dec_bl {i j : Bool} : decide (V.bl i = V.bl j) = (i == j) := by
  rw [Bool.eq_iff_iff]
  simp
theorem dec_str {i j : Str} : decide (V.str i = V.str j) = (i == j) := by
  rw [Bool.eq_iff_iff]
  simp
theorem dec_byt {i j : Array UInt8} : decide (V.byt i = V.byt j) = (i.toList == j.toList) := by
  rw [Bool.eq_iff_iff]
  cases i
  cases j
  simp
section
variable {X : Cx} {a b c : Expr} {ta tb tc : TE} {pos : Pos}
theorem fin_bl {pins : List (Addr × Obj)} {σ : St} {H : Hp} {s : Shared} {Q : VK} {k k' : Bool} (I : Inv X pins σ H s) (q : Q (.bl k) H) (e : k = k') : EP X pins σ Q (.bool k') s := by
  subst e
  exact ⟨.bl k, H, I, rfl, q⟩
theorem op_eq : OpR X (compareOp .Eq) rEq := by
  intro pins s σ H x y v u Q I rx ry h
  obtain ⟨hs, q⟩ := h
  cases x with
  | non =>
    cases rx
    cases y with
    | non => cases ry; exact PySem.EqNone.eq_none_none (fin_bl I q (by simp))
    | bl j => cases ry; exact PySem.EqNone.eq_none_bool (fin_bl I q (by simp))
    | int j => obtain ⟨t', rfl⟩ := ry; exact PySem.EqNone.eq_none_int (fin_bl I q (by simp))
    | str j => obtain ⟨t', rfl⟩ := ry; exact PySem.EqNone.eq_none_str (fin_bl I q (by simp))
    | _ => exact absurd (show false = true from hs) Bool.false_ne_true
  | bl i =>
    cases rx
    cases y with
    | non => cases ry; exact PySem.EqNone.eq_bool_none (fin_bl I q (by simp))
    | bl j => cases ry; exact eq_bool (fin_bl I q dec_bl)
    | str j => obtain ⟨t', rfl⟩ := ry; exact PySem.EqMixed.eq_bool_str (fin_bl I q (by simp))
    | _ => exact absurd (show false = true from hs) Bool.false_ne_true
  | int i =>
    obtain ⟨t, rfl⟩ := rx
    cases y with
    | non => cases ry; exact PySem.EqNone.eq_int_none (fin_bl I q (by simp))
    | int j => obtain ⟨t', rfl⟩ := ry; exact eq_int (fin_bl I q dec_int)
    | str j => obtain ⟨t', rfl⟩ := ry; exact PySem.EqMixed.eq_int_str (fin_bl I q (by simp))
    | _ => exact absurd (show false = true from hs) Bool.false_ne_true
  | str i =>
    obtain ⟨t, rfl⟩ := rx
    cases y with
    | non => cases ry; exact PySem.EqNone.eq_str_none (fin_bl I q (by simp))
    | bl j => cases ry; exact PySem.EqMixed.eq_str_bool (fin_bl I q (by simp))
    | int j => obtain ⟨t', rfl⟩ := ry; exact PySem.EqMixed.eq_str_int (fin_bl I q (by simp))
    | str j => obtain ⟨t', rfl⟩ := ry; exact eq_str (fin_bl I q dec_str)
    | _ => exact absurd (show false = true from hs) Bool.false_ne_true
  | byt i =>
    obtain ⟨t, rfl⟩ := rx
    cases y with
    | byt j => obtain ⟨t', rfl⟩ := ry; exact PySem.W.eq_bytes (fin_bl I q dec_byt)
    | _ => exact absurd (show false = true from hs) Bool.false_ne_true
  | _ => cases y <;> exact absurd (show false = true from hs) Bool.false_ne_true
theorem op_ne : OpR X (compareOp .NotEq) rNe := by
  intro pins s σ H x y v u Q I rx ry h
  obtain ⟨hs, q⟩ := h
  cases x with
  | non =>
    cases rx
    cases y with
    | non => cases ry; exact PySem.EqNone.ne_none_none (fin_bl I q (by simp))
    | bl j => cases ry; exact PySem.EqNone.ne_none_bool (fin_bl I q (by simp))
    | int j => obtain ⟨t', rfl⟩ := ry; exact PySem.EqNone.ne_none_int (fin_bl I q (by simp))
    | str j => obtain ⟨t', rfl⟩ := ry; exact PySem.EqNone.ne_none_str (fin_bl I q (by simp))
    | _ => exact absurd (show false = true from hs) Bool.false_ne_true
  | bl i =>
    cases rx
    cases y with
    | non => cases ry; exact PySem.EqNone.ne_bool_none (fin_bl I q (by simp))
    | bl j => cases ry; exact ne_bool (fin_bl I q (congrArg not dec_bl))
    | str j => obtain ⟨t', rfl⟩ := ry; exact PySem.EqMixed.ne_bool_str (fin_bl I q (by simp))
    | _ => exact absurd (show false = true from hs) Bool.false_ne_true
  | int i =>
    obtain ⟨t, rfl⟩ := rx
    cases y with
    | non => cases ry; exact PySem.EqNone.ne_int_none (fin_bl I q (by simp))
    | int j => obtain ⟨t', rfl⟩ := ry; exact ne_int (fin_bl I q (congrArg not dec_int))
    | str j => obtain ⟨t', rfl⟩ := ry; exact PySem.EqMixed.ne_int_str (fin_bl I q (by simp))
    | _ => exact absurd (show false = true from hs) Bool.false_ne_true
  | str i =>
    obtain ⟨t, rfl⟩ := rx
    cases y with
    | non => cases ry; exact PySem.EqNone.ne_str_none (fin_bl I q (by simp))
    | bl j => cases ry; exact PySem.EqMixed.ne_str_bool (fin_bl I q (by simp))
    | int j => obtain ⟨t', rfl⟩ := ry; exact PySem.EqMixed.ne_str_int (fin_bl I q (by simp))
    | str j => obtain ⟨t', rfl⟩ := ry; exact ne_str (fin_bl I q (congrArg not dec_str))
    | _ => exact absurd (show false = true from hs) Bool.false_ne_true
  | byt i =>
    obtain ⟨t, rfl⟩ := rx
    cases y with
    | byt j => obtain ⟨t', rfl⟩ := ry; exact PySem.W.ne_bytes (fin_bl I q (congrArg not dec_byt))
    | _ => exact absurd (show false = true from hs) Bool.false_ne_true
  | _ => cases y <;> exact absurd (show false = true from hs) Bool.false_ne_true
theorem op_lt : OpR X (compareOp .Lt) (rI0 fun i j => .bl (decide (i < j))) := opB0 fun _ _ _ _ _ _ _ q => lt_int q
theorem op_gt : OpR X (compareOp .Gt) (rI0 fun i j => .bl (decide (j < i))) := opB0 fun _ _ _ _ _ _ _ q => gt_int q
theorem op_ge : OpR X (compareOp .GtE) (rI0 fun i j => .bl (decide (j ≤ i))) := opB0 fun _ _ _ _ _ _ _ q => ge_int q
theorem OpR.or {f : Value → Value → Sem Value} {r r' : R2} (h : OpR X f r) (h' : OpR X f r') : OpR X f (fun x y H Q => r x y H Q ∨ r' x y H Q) := by
  intro pins s σ H x y v u Q I rx ry q
  rcases q with q | q
  · exact h pins s σ H x y v u Q I rx ry q
  · exact h' pins s σ H x y v u Q I rx ry q
theorem nomark (b : Expr) {op : CmpOp} (h : op ≠ .In := by decide) (h2 : op ≠ .NotIn := by decide) : behindInMarks op b = false := by
  have e1 : (op == CmpOp.In) = false := by cases op <;> first | rfl | exact absurd rfl h
  have e2 : (op == CmpOp.NotIn) = false := by cases op <;> first | rfl | exact absurd rfl h2
  cases b <;> simp [behindInMarks, e1, e2]
def tTest (t : TE) : TT := fun σ H Q => t σ H fun x H' => ∃ k, x = .bl k ∧ Q k H'
theorem pt_cmpR {op : CmpOp} {r : R2} (ho : OpR X (compareOp op) r) (ha : PE X a ta) (hb : PE X b tb) (hm : behindInMarks op b = false) : PT X (.Compare a [op] [b] pos) (tTest (tOp r ta tb)) := by
  intro pins s σ H Q I h
  refine wpAny_isTrue_Compare1 (thn (ha pins s σ H _ I h) fun v s1 ⟨x, H1, I1, r1, q1⟩ => thn (hb pins s1 σ H1 _ I1 q1) fun u s2 ⟨y, H2, I2, r2, q2⟩ =>
    thn (ho pins s2 σ H2 x y v u _ I2 r1 r2 q2) fun c s3 ⟨z, H3, I3, r3, k, e, q3⟩ => ?_) hm
  subst e
  cases r3
  exact wpAny_truthy_bool ⟨H3, I3, q3⟩
theorem line63 : (sizeLine : Nat) < 2 ^ 63 := by rw [sizeLine_eq]; decide
theorem vals1 {x : V} {us : List Value} (r : Vals [x] us) : ∃ u, us = [u] ∧ RelV x u := by
  cases r with
  | cons r1 r2 => cases r2; exact ⟨_, rfl, r1⟩
theorem vals2 {x y : V} {us : List Value} (r : Vals [x, y] us) : ∃ u w', us = [u, w'] ∧ RelV x u ∧ RelV y w' := by
  cases r with
  | cons r1 r2 =>
    cases r2 with
    | cons r3 r4 => cases r4; exact ⟨_, _, rfl, r1, r3⟩
theorem call_min2 (hc : X.calm = true) : CallR X (.builtin "min") (fun xs H Q => ∃ i j, xs = [.int i, .int j] ∧ Q (.int (if j < i then j else i)) H) := by
  intro pins s σ H xs us Q I r h
  obtain ⟨i, j, rfl, q⟩ := h
  obtain ⟨u, w', rfl, ⟨t, rfl⟩, ⟨t', rfl⟩⟩ := vals2 r
  refine min_two_ints (I.ok.hd hc) fun h' tk k => ⟨_, H, I.kept k, ?_, q⟩
  by_cases hj : j < i
  · rw [if_pos hj, if_pos hj]; exact ⟨_, rfl⟩
  · rw [if_neg hj, if_neg hj]; exact ⟨_, rfl⟩
end
end L2
namespace L2
open PySem PySem.Spec PyProof.Rows
structure ObjM (h : Heap) (x dx C : Addr) (mA : Str → Option Value) : Prop where
  obj : h.get? x = some (PySem.W.instObj C dx)
  ns : h.Ns1 dx mA
  ne : dx ≠ x
theorem lookIn_ns {h : Heap} {dx : Addr} {mA : Str → Option Value} (n : h.Ns1 dx mA) : ∃ od, h.get? dx = some od ∧ ∀ name, PySem.W.lookIn name od = some (mA name) := by
  obtain ⟨o, es, ep, ho, hd, hk, _, hm⟩ := n
  refine ⟨o, ho, fun name => ?_⟩
  have e := hm name
  unfold nsFind findBy at e
  rw [← Array.find?_toList] at e
  unfold PySem.W.lookIn
  rw [hd]
  dsimp only
  split
  · rename_i y q
    rw [q] at e
    exact congrArg some e
  · rename_i q
    rw [q] at e
    have a : es.toList.any (·.refKey) = false := by
      rw [List.any_eq_false]
      intro y hy
      obtain ⟨z, t, hkey⟩ := hk y (Array.mem_toList_iff.mp hy)
      simp [DictEntry.refKey, hkey]
    have a' : ¬ es.toList.any (·.refKey) = true := by rw [a]; exact Bool.false_ne_true
    rw [if_neg a']
    exact congrArg some e
theorem ObjM.look {h : Heap} {x dx C : Addr} {mA : Str → Option Value} (I : ObjM h x dx C mA) : ∃ od, PySem.W.InstAt h x (PySem.W.instObj C dx) C (some od) ∧ ∀ name, PySem.W.lookIn name od = some (mA name) :=
  let ⟨od, ho, hl⟩ := lookIn_ns I.ns
  ⟨od, ⟨I.obj, rfl, rfl, ho⟩, hl⟩
section
variable {prog : Program} {w : World} {A : Around} {E : Value → Shared → Prop} {s : Shared} {K : PySem.W.Frag} {x dx C f : Addr} {mA : Str → Option Value} {name : Str} {v : Value}
end
theorem RelO.none_of {o : Option Value} (r : RelO none o) : o = none := by
  cases o with
  | none => rfl
  | some u => exact (show False from r).elim
section
variable {P : Program} {w : World} {H H' : Hp} {h h' : Heap} {a C dx : Addr} {fs fs' : List (Str × V)}
theorem ins_get (hok : HOk P w H h) (e : H a = some (.ins C dx fs)) : ∃ mA, ObjM h a dx C mA ∧ (∀ f, RelO (fs.lookup f) (mA f)) ∧ PySem.Within mA (fs.map (·.1)) ∧ fs.length ≤ 1000 ∧ H dx = some (.own a) := by
  obtain ⟨d, z, ne, ob, mA, n, r, q⟩ := (show ObjOk P w H h a (.ins C dx fs) from hok a _ e)
  exact ⟨mA, ⟨ob, n, ne⟩, r, q, z, d⟩
end
structure Cls (K : PySem.W.Frag) (C : Addr) : Prop where
  pg : PySem.W.plainGet K C Str.empty = true
  hd : PySem.W.hasDictIn K C = true
  po : PySem.W.plainOver K C = true
  sa : PySem.W.findIn K (.ref C) "__setattr__" = some (some (.builtin "object.__setattr__"))
theorem Cls.get {K : PySem.W.Frag} {C : Addr} (c : Cls K C) (f : Str) : PySem.W.plainGet K C f = true := c.pg
structure Con (K : PySem.W.Frag) (C : Addr) (f : Str) (v : V) (u : Value) : Prop where
  at_ : PySem.W.findIn K (.ref C) f = some (some u)
  rel : RelV v u
  get : PySem.W.specialIn K u "__get__" = some none
  cp : PySem.W.copiedNames.contains f = false
structure Meth (K : PySem.W.Frag) (C : Addr) (m : Str) (f : Addr) : Prop where
  at_ : PySem.W.findIn K (.ref C) m = some (some (.ref f))
  fn : PySem.W.isFn K (.ref f) = true
  kp : PySem.W.keepIn K (.ref f) = true
section
variable {X : Cx} {pins : List (Addr × Obj)} {σ : St} {H : Hp} {s : Shared} {a C dx : Addr} {fs : List (Str × V)} {f : Str} {v : V} {A : Around} {E : Value → Shared → Prop}
theorem Inv.made (I : Inv X pins σ H s) : Inv X pins σ (upd (upd H s.heap.objs.size (.own (s.heap.objs.size + 1))) (s.heap.objs.size + 1) (.ins C s.heap.objs.size []))
    { s with heap := (s.heap.push PySem.W.emptyDict).push (PySem.W.instObj C s.heap.objs.size) } := by
  have e1 : (s.heap.push PySem.W.emptyDict).get? s.heap.objs.size = some PySem.W.emptyDict := Heap.get?_push_size s.heap rfl
  have e2 : ((s.heap.push PySem.W.emptyDict).push (PySem.W.instObj C s.heap.objs.size)).get? (s.heap.objs.size + 1) = some (PySem.W.instObj C s.heap.objs.size) := by
    have := Heap.get?_push_size (s.heap.push PySem.W.emptyDict) (o := PySem.W.instObj C s.heap.objs.size) rfl
    rwa [Heap.size_push] at this
  have e3 : (s.heap.push PySem.W.emptyDict).Ns s.heap.objs.size (fun _ => none) := ⟨PySem.W.emptyDict, #[], _, e1, rfl, (fun e he => absurd he (by simp)), fun _ => rfl⟩
  have I1 := I.laid (a := s.heap.objs.size) (o := .own (s.heap.objs.size + 1)) (h' := s.heap.push PySem.W.emptyDict) (t' := s.toks) (fun b u q => Heap.get?_push_of_some _ q) (Nat.le_refl _) ⟨_, e1⟩
  refine I1.laid (a := s.heap.objs.size + 1) (o := .ins C s.heap.objs.size []) (t' := s.toks) (fun b u q => Heap.get?_push_of_some _ q) (Nat.le_of_eq (Heap.size_push _ _)) ?_
  have ne : s.heap.objs.size ≠ s.heap.objs.size + 1 := Nat.ne_of_lt (Nat.lt_succ_self _)
  refine ⟨by rw [upd_ne ne, upd_same], Nat.zero_le _, ne, e2, fun _ => none, (Heap.Ns1.of_empty e3).at fun o q => Heap.get?_push_of_some _ q, fun _ => True.intro, fun y hy => absurd rfl hy⟩
end
section
variable {X : Cx} {o e value : Expr} {f : Str} {pos pos' tpos : Pos} {ta tv : TE}
end
section
variable {X : Cx} {pins : List (Addr × Obj)} {σ : St} {H : Hp} {s : Shared} {A : Around} {E : Value → Shared → Prop} {Q : Value → Shared → Prop} {c : Value} {b : Bool}
inductive TyOf (K : PySem.W.Frag) (H : Hp) : V → Value → Prop where
  | non : TyOf K H .non (.type "NoneType")
  | bl (x : Bool) : TyOf K H (.bl x) (.type "bool")
  | int (i : Int) : TyOf K H (.int i) (.type "int")
  | str (x : Str) : TyOf K H (.str x) (.type "str")
  | flt (x : UInt64) : TyOf K H (.flt x) (.type "float")
  | lst {a : Addr} {xs : List V} (e : H a = some (.lst xs)) : TyOf K H (.ref a) (.type "list")
  | frz {a : Addr} {o : Obj} {xs : List V} (e : H a = some (.frz o (.lst xs))) : TyOf K H (.ref a) (.type "list")
  | tup {a : Addr} {xs : List V} (e : H a = some (.tup xs)) : TyOf K H (.ref a) (.type "tuple")
  | dK {a : Addr} {kvs : List (Key × V)} (e : H a = some (.dK kvs)) : TyOf K H (.ref a) (.type "dict")
  | dT {a : Addr} {kvs : List (List Key × V)} (e : H a = some (.dT kvs)) : TyOf K H (.ref a) (.type "dict")
  | ins {a C dx : Addr} {fs : List (Str × V)} (e : H a = some (.ins C dx fs)) (cl : Cls K C) (ha : PySem.W.findIn K (.ref C) "__class__" = some (some (.builtin "object.__class__")))
      (hn : PySem.W.specialIn K (.builtin "object.__class__") "__get__" = some (some (.builtin "getset_descriptor.__get__"))) (htk : PySem.W.takesIn K (.builtin "object.__class__") = some true)
      (hm : PySem.W.mroIn K C (.type "object") = some true) : TyOf K H (.ref a) (.ref C)
theorem isinst_ok {x : V} {u t : Value} (I : Inv X pins σ H s) (rx : RelV x u) (ty : TyOf X.K H x t) (e : PySem.W.kitOne X.K t c = some b) (h : ∀ tk, Q (.bool b) { s with toks := tk }) :
    wpAny (model X.prog X.w) A (call (.builtin "isinstance") [u, c]) Q E s := by
  cases ty with
  | non => cases (show u = Value.none from rx); exact PySem.W.kia_one PySem.W.kitx_none I.kIn True.intro e (fun z => nomatch z) h
  | bl y => cases (show u = Value.bool y from rx); exact PySem.W.kia_one PySem.W.kitx_bool I.kIn True.intro e (fun z => nomatch z) h
  | int i => obtain ⟨t, q⟩ := (show ∃ t, u = Value.int i t from rx); cases q; exact PySem.W.kia_one PySem.W.kitx_int I.kIn True.intro e (fun z => nomatch z) h
  | str y => obtain ⟨t, q⟩ := (show ∃ t, u = Value.str y t from rx); cases q; exact PySem.W.kia_one PySem.W.kitx_str I.kIn True.intro e (fun z => nomatch z) h
  | flt y => obtain ⟨t, q⟩ := (show ∃ t, u = Value.float y t from rx); cases q; exact PySem.W.kia_one PySem.W.kitx_float I.kIn True.intro e (fun z => nomatch z) h
  | @lst a xs ea =>
    cases (show u = Value.ref a from rx)
    obtain ⟨_, _, n, _, h1⟩ := (show ObjOk X.prog X.w H s.heap a (.lst xs) from I.hok a _ ea)
    exact PySem.W.kia_one PySem.W.kitx_list I.kIn ⟨_, h1, rfl⟩ e (fun z => nomatch z) h
  | @frz a ob xs ea =>
    cases (show u = Value.ref a from rx)
    obtain ⟨_, _, _, n, _, h1⟩ := (show ObjOk X.prog X.w H s.heap a (.frz ob (.lst xs)) from I.hok a _ ea)
    exact PySem.W.kia_one PySem.W.kitx_list I.kIn ⟨_, h1, rfl⟩ e (fun z => nomatch z) h
  | @tup a xs ea =>
    cases (show u = Value.ref a from rx)
    obtain ⟨_, _, _, p⟩ := (show ObjOk X.prog X.w H s.heap a (.tup xs) from I.hok a _ ea)
    obtain ⟨o, h1, h2, _⟩ := p
    exact PySem.W.kia_one PySem.W.kitx_tuple I.kIn ⟨o, h1, h2⟩ e (fun z => nomatch z) h
  | @dK a kvs ea =>
    cases (show u = Value.ref a from rx)
    obtain ⟨_, _, vs, _, p⟩ := (show ObjOk X.prog X.w H s.heap a (.dK kvs) from I.hok a _ ea)
    obtain ⟨o, es, ep, h1, h2, _⟩ := p
    exact PySem.W.kia_one PySem.W.kitx_dict I.kIn ⟨o, h1, h2.1⟩ e (fun z => nomatch z) h
  | @dT a kvs ea =>
    cases (show u = Value.ref a from rx)
    obtain ⟨_, _, xs, _, o, es, ep, h1, h2, _⟩ := (show ObjOk X.prog X.w H s.heap a (.dT kvs) from I.hok a _ ea)
    exact PySem.W.kia_one PySem.W.kitx_dict I.kIn ⟨o, h1, h2.1⟩ e (fun z => nomatch z) h
  | @ins a C dx fs ea cl ha hn htk hm =>
    cases (show u = Value.ref a from rx)
    obtain ⟨mA, O, _⟩ := ins_get I.hok ea
    obtain ⟨od, J, _⟩ := O.look
    exact PySem.W.kia_one (PySem.W.kitx_own (cl.get _) cl.hd ha hn htk hm) I.kIn J e (fun z => nomatch z) h
end
end L2
namespace L2
open PySem PySem.Spec PyProof.Rows
structure Room (k : Nat) (A : Around) : Prop where
  hd : A.handled = none
  dp : A.depth + 3 * k + 5 < recursionLimit
  un : A.units + 16 * k + 200 < cLine
theorem Room.mono {j k : Nat} {A : Around} (r : Room k A) (h : j ≤ k) : Room j A := ⟨r.hd, by have := r.dp; omega, by have := r.un; omega⟩
theorem Room.deeper {k : Nat} {A : Around} (r : Room (k + 1) A) (env : Env) : Room k (A.deeper env) :=
  ⟨r.hd, by have := r.dp; show A.depth + 1 + 3 * k + 5 < _; omega, by have := r.un; show A.units + 3 + 16 * k + 200 < _; omega⟩
theorem Room.in1 {k : Nat} {A : Around} (r : Room (k + 1) A) : Room k A.in1 :=
  ⟨r.hd, by have := r.dp; show A.depth + 3 * k + 5 < _; omega, by have := r.un; show A.units + 1 + 16 * k + 200 < _; omega⟩
theorem make_depth {A : Around} {C : Addr} {us : List Value} {kw : List (Str × Value)} : (A.under (.builtin "type.__call__" ⟨.ref C :: us, kw⟩)).depth = A.depth + 1 := by
  first | rfl | simp [Around.under, Code.weight, Code.isCreation, Code.isGuard, Code.isCaller, Code.frames, Code.isFrame, guardIds]
theorem make_units {A : Around} {C : Addr} {us : List Value} {kw : List (Str × Value)} : (A.under (.builtin "type.__call__" ⟨.ref C :: us, kw⟩)).units = A.units + 1 := by
  first | rfl | simp [Around.under, Code.cUnits, Code.frames, Code.isFrame]
theorem Room.make {k : Nat} {A : Around} (r : Room (k + 1) A) (C : Addr) (us : List Value) (kw : List (Str × Value)) : Room k (A.under (.builtin "type.__call__" ⟨.ref C :: us, kw⟩)) :=
  ⟨r.hd, by have := r.dp; rw [make_depth]; omega, by have := r.un; rw [make_units]; omega⟩
theorem Room.depth {k : Nat} {A : Around} (r : Room k A) : A.depth < recursionLimit := by have := r.dp; omega
theorem Room.units {k : Nat} {A : Around} (r : Room k A) : A.units + 64 < cLine := by have := r.un; omega
def tNil : TA := fun _ H Q => Q [] H
def tCons (ta : TE) (tr : TA) : TA := fun σ H Q => ta σ H fun x H1 => tr σ H1 fun xs H2 => Q (x :: xs) H2
section
variable {X : Cx} {e : Expr} {es : List Expr} {te : TE} {t : TA} {pos : Pos}
theorem pa_nil : PA X [] tNil := fun _ _ _ _ H Q I h => Calls.spliced_nil ⟨[], H, I, .nil, h⟩
theorem pa_cons (ha : PE X e te) (hr : PA X es t) (hs : starEach (e :: es) X.env = (false, eval e X.env) :: starEach es X.env := by rfl) : PA X (e :: es) (tCons te t) := by
  intro pos pins s σ H Q I h
  rw [hs]
  show wpAny _ _ (spliced ((false, eval e X.env) :: backTo pos (starEach es X.env))) _ _ s
  refine Calls.spliced_cons (thn (ha pins s σ H _ I h) fun u s1 ⟨x, H1, I1, r1, q1⟩ => ?_)
  exact thn (hr pos pins s1 σ H1 _ I1 q1) fun us s2 ⟨xs, H2, I2, r2, q2⟩ => ⟨x :: xs, H2, I2, .cons r1 r2, q2⟩
def tTup (t : TA) : TE := fun σ H Q => t σ H fun xs H1 => xs.length ≤ sizeLine ∧ ∀ p, H1 p = none → Q (.ref p) (upd H1 p (.tup xs))
def tLst (t : TA) : TE := fun σ H Q => t σ H fun xs H1 => xs.length ≤ sizeLine ∧ ∀ p, H1 p = none → Q (.ref p) (upd H1 p (.lst xs))
theorem pe_tup {x1} (h : PA X es t) : PE X (.Tuple es x1 pos) (tTup t) := by
  intro pins s σ H Q I hq
  refine wpAny_Tuple_spliced (thn (h pos pins s σ H _ I hq) fun us s1 ⟨xs, H1, I1, r, z, q⟩ => ⟨by rw [← r.length]; exact z, ?_⟩)
  have hf : H1 s1.heap.objs.size = none := I1.hok.fresh (Nat.le_refl _)
  refine ⟨.ref s1.heap.objs.size, upd H1 s1.heap.objs.size (.tup xs), I1.laid (t' := s1.toks) (fun b u e => Heap.get?_push_of_some _ e) (Nat.le_refl _) ?_, rfl, q _ hf⟩
  exact ⟨z, us, r, ⟨_, Heap.get?_push_size _ rfl, rfl, _, rfl⟩⟩
theorem pe_lst (h : PA X es t) : PE X (.List es pos) (tLst t) := by
  intro pins s σ H Q I hq
  refine wpAny_List_spliced (thn (h pos pins s σ H _ I hq) fun us s1 ⟨xs, H1, I1, r, z, q⟩ => ⟨by rw [← r.length]; exact z, ?_⟩)
  have hf : H1 s1.heap.objs.size = none := I1.hok.fresh (Nat.le_refl _)
  refine ⟨.ref s1.heap.objs.size, upd H1 s1.heap.objs.size (.lst xs), I1.laid (t' := s1.toks) (fun b u e => Heap.get?_push_of_some _ e) (Nat.le_refl _) ?_, rfl, q _ hf⟩
  exact ⟨z, us, 0, r, Heap.get?_push_size _ rfl⟩
end
abbrev Sp := List V → Hp → VK → XK → Prop
abbrev CXT := List Env → Hp → Shared → XK → Value → Shared → Prop
structure Env0 (P : Program) (w : World) (K : PySem.W.Frag) (mg : Str → Option Value) (base : Heap) (A : Around) (outer : List Env) (s : Shared) (H : Hp) : Prop where
  frames : A.frames = some outer
  mod : Mod K mg base
  bs : ∀ b o, base.get? b = some o → s.heap.get? b = some o ∧ H b = none
  bsz : base.objs.size ≤ s.heap.objs.size
  funs : s.heap.FunFrames base outer
  frf : ∀ b ∈ frs outer, H b = none
  hok : HOk P w H s.heap
  bare : AllBare s.gens
def CE (outer : List Env) (P : Program) (w : World) (H : Hp) (s : Shared) (Q : VK) (u : Value) (s' : Shared) : Prop :=
  ∃ v H', s'.os = s.os ∧ AllBare s'.gens ∧ Un (frs outer) [] H H' s.heap s'.heap ∧ HOk P w H' s'.heap ∧ RelV v u ∧ Q v H'
def CR (CX : CXT) (outer : List Env) (P : Program) (w : World) (H : Hp) (s : Shared) (Q : VK) (E : XK) (r : Result) (s' : Shared) : Prop :=
  match r with
  | .ok (.ret u) => CE outer P w H s Q u s'
  | .ok _ => False
  | .error e => CX outer H s E e s'
structure FnOk (P : Program) (w : World) (K : PySem.W.Frag) (mg : Str → Option Value) (base : Heap) (CX : CXT) (k : Nat) (f : Addr) (fd : FuncData) (ps : List Str) (sp : Sp) : Prop where
  len : ∀ vs H Q E, sp vs H Q E → vs.length = ps.length
  run : ∀ (A : Around) (outer : List Env) (s : Shared) (H : Hp) (args : Args) (us : List Value) (vs : List V) (Q : VK) (E : XK), Room k A → Env0 P w K mg base A outer s H → BindsTo s fd args (ps.zip us) → Vals vs us → sp vs H Q E →
    codeAny (model P w) A (.call (.ref f) args) (CR CX outer P w H s Q E) s
theorem FnOk.mono {P : Program} {w : World} {K : PySem.W.Frag} {mg : Str → Option Value} {base : Heap} {CX : CXT} {j k : Nat} {f : Addr} {fd : FuncData} {ps : List Str} {sp : Sp} (F : FnOk P w K mg base CX j f fd ps sp) (h : j ≤ k) :
    FnOk P w K mg base CX k f fd ps sp := ⟨F.len, fun A outer s H args us vs Q E hr => F.run A outer s H args us vs Q E (hr.mono h)⟩
theorem FnOk.imp {P : Program} {w : World} {K : PySem.W.Frag} {mg : Str → Option Value} {base : Heap} {CX : CXT} {k : Nat} {f : Addr} {fd : FuncData} {ps : List Str} {sp sp' : Sp} (F : FnOk P w K mg base CX k f fd ps sp)
    (h : ∀ vs H Q E, sp' vs H Q E → sp vs H Q E) : FnOk P w K mg base CX k f fd ps sp' :=
  ⟨fun vs H Q E q => F.len vs H Q E (h _ _ _ _ q), fun A outer s H args us vs Q E hr he hb hv hs => F.run A outer s H args us vs Q E hr he hb hv (h _ _ _ _ hs)⟩
theorem Env0.make {P : Program} {w : World} {K : PySem.W.Frag} {mg : Str → Option Value} {base : Heap} {A : Around} {outer : List Env} {s : Shared} {H : Hp} (e : Env0 P w K mg base A outer s H) (C : Addr) (us : List Value) (kw : List (Str × Value)) :
    Env0 P w K mg base (A.under (.builtin "type.__call__" ⟨.ref C :: us, kw⟩)) outer s H := ⟨by first | exact e.frames | (simpa [Around.under, Code.envs, Code.isFrame, pushEnvs] using e.frames), e.mod, e.bs, e.bsz, e.funs, e.frf, e.hok, e.bare⟩
theorem Env0.in1 {P : Program} {w : World} {K : PySem.W.Frag} {mg : Str → Option Value} {base : Heap} {A : Around} {outer : List Env} {s : Shared} {H : Hp} (e : Env0 P w K mg base A outer s H) :
    Env0 P w K mg base A.in1 outer s H := ⟨e.frames, e.mod, e.bs, e.bsz, e.funs, e.frf, e.hok, e.bare⟩
section
variable {X : Cx} {pins : List (Addr × Obj)} {σ : St} {H : Hp} {s s' : Shared}
theorem Inv.env0 (I : Inv X pins σ H s) : Env0 X.prog X.w X.K X.mg X.base X.A X.stack s H :=
  ⟨I.ok.frames, I.ok.mod, I.bs, Nat.le_trans I.ok.bsz I.sz, I.stack, I.stkFree, I.hok, I.bare⟩
theorem Inv.after {Q : VK} {u : Value} (I : Inv X pins σ H s) (h : CE X.stack X.prog X.w H s Q u s') : EP X pins σ Q u s' := by
  obtain ⟨v, H', os, bare, un, hok, r, q⟩ := h
  obtain ⟨hh, g, d, t, os'⟩ := s'
  obtain rfl : os' = s.os := os
  exact ⟨v, H', I.call (h' := hh) (g' := g) (d' := d) (t' := t) (ch := []) un hok bare (fun b z => absurd z (by simp)), r, q⟩
end
def tCall (sp : Sp) (dvs : List V) (E : XK) (t : TA) : TE := fun σ H Q => t σ H fun vs H1 => sp (vs ++ dvs) H1 Q E
def Binds (K : PySem.W.Frag) (fd : FuncData) (ps : List Str) (ds : List Value) : Prop :=
  ∀ (s : Shared) (us : List Value), K.In s.heap → (us ++ ds).length = ps.length → BindsTo s fd ⟨us, []⟩ (ps.zip (us ++ ds))
theorem Binds.all {K : PySem.W.Frag} {fd : FuncData} {ps : List Str} (h : ∀ us : List Value, us.length = ps.length → bindArgs fd ⟨us, []⟩ = pure (ps.zip us)) : Binds K fd ps [] := fun s us _ hl => by
  rw [List.append_nil] at hl ⊢
  exact .of_eq (h us hl)
def Passes (CX : CXT) (X : Cx) (E : XK) : Prop := ∀ (pins : List (Addr × Obj)) (σ : St) (H : Hp) (s : Shared) (e : Value) (s' : Shared), Inv X pins σ H s → CX X.stack H s E e s' → X.xe e s'
section
variable {X : Cx} {CX : CXT} {k : Nat} {f C : Addr} {fd : FuncData} {ps : List Str} {sp : Sp} {dvs : List V} {ds : List Value} {E : XK} {x m : Str} {p pos apos : Pos} {e o : Expr} {es : List Expr} {ta : TE} {t : TA}
theorem run_fn {pins : List (Addr × Obj)} {σ : St} {H : Hp} {s : Shared} {Q : VK} {us : List Value} {vs : List V} (F : FnOk X.prog X.w X.K X.mg X.base CX k f fd ps sp) (hr : Room k X.A) (hb : Binds X.K fd ps ds) (hd : Vals dvs ds) (hx : Passes CX X E)
    (I : Inv X pins σ H s) (r : Vals vs us) (h : sp (vs ++ dvs) H Q E) : wpAny (model X.prog X.w) X.A (call (.ref f) us) (EP X pins σ Q) X.xe s := by
  have r2 : Vals (vs ++ dvs) (us ++ ds) := r.append hd
  have hl : (us ++ ds).length = ps.length := by rw [← r2.length]; exact F.len _ _ _ _ h
  refine wpAny_call (codeAny_mono (F.run X.A X.stack s H ⟨us, []⟩ (us ++ ds) (vs ++ dvs) Q E hr I.env0 (hb s us I.kIn hl) r2 h) fun r s' hq => ?_)
  cases r with
  | error e => exact hx pins σ H s e s' I hq
  | ok fl =>
    cases fl with
    | ret u => exact I.after hq
    | next => exact False.elim hq
    | brk => exact False.elim hq
    | cont => exact False.elim hq
theorem pe_call (F : FnOk X.prog X.w X.K X.mg X.base CX k f fd ps sp) (hr : Room k X.A) (hg : Gl X x) (hm : X.mg x = some (.ref f)) (hk : PySem.W.keepIn X.K (.ref f) = true) (hb : Binds X.K fd ps ds) (hd : Vals dvs ds) (hx : Passes CX X E)
    (ha : PA X (e :: es) t) (hdb : (x == ("__debug__" : Str)) = false := by decide) (he : starEach (e :: es) X.env = (false, eval e X.env) :: starEach es X.env := by rfl) (hpl : (backTo pos (starEach es X.env)).any (·.1) = false := by rfl) :
    PE X (.Call (.Name x p) (e :: es) [] pos) (tCall sp dvs E t) := by
  intro pins s σ H Q I h
  refine wpAny_Call_Name_kw (ld_glob I hg hm ?_ hdb)
  refine PySem.W.callWith_K (h₀ := X.base) I.ok.mod.kin hk (thn (ha pos pins s σ H _ I h) fun us s1 ⟨vs, H1, I1, r, q⟩ => ⟨I1.kIn, ?_⟩) he hpl
  exact run_fn F hr hb hd hx I1 r q
structure Mk (K : PySem.W.Frag) (C f : Addr) : Prop where
  makes : PySem.W.makesIn K C = true
  init : PySem.W.findIn K (.ref C) "__init__" = some (some (.ref f))
  fn : PySem.W.isFn K (.ref f) = true
  kp : PySem.W.keepIn K (.ref C) = true
end
section
variable {X : Cx} {CX : CXT} {k : Nat} {f C : Addr} {fd : FuncData} {ps ks : List Str} {sp : Sp} {E : XK} {x m : Str} {p pos apos kpos : Pos} {e o : Expr} {es : List Expr} {kws : List Keyword} {te ta : TE} {t tk : TA} {nm : Option Str}
structure KBinds (K : PySem.W.Frag) (fd : FuncData) (ps ks : List Str) (g : List Value → List Value → List Value) (gV : List V → List V → List V) : Prop where
  to : ∀ (s : Shared) (us ws : List Value), K.In s.heap → (g us ws).length = ps.length → BindsTo s fd ⟨us, ks.zip ws⟩ (ps.zip (g us ws))
  rel : ∀ {vs : List V} {us : List Value} {zs : List V} {ws : List Value}, Vals vs us → Vals zs ws → Vals (gV vs zs) (g us ws)
variable {g : List Value → List Value → List Value} {gV : List V → List V → List V}
end
structure FnScope (N P : List Str) (sc : Scope) : Prop where
  kind : sc.kind = .function
  co : sc.isCoroutine = false
  gen : sc.isGenerator = false
  nd : N.Nodup
  pre : N.take P.length = P
  par : ∀ x ∈ P, sc.names.lookup x = some .local ∨ sc.names.lookup x = some .cell
  nofree : ∀ y ∈ sc.names, y.2 ≠ .free
theorem bindL_out {kindOf : Str → Option NameKind} {x : Str} : ∀ {binds : List (Str × Value)} {m : Str → Option Value}, (∀ v, (x, v) ∉ binds) → bindL kindOf binds m x = m x
  | [], _, _ => rfl
  | (n, v) :: r, m, h => by
    unfold bindL
    rw [bindL_out fun w hw => h w (List.mem_cons_of_mem _ hw)]
    split
    · have : x ≠ n := by rintro rfl; exact h v List.mem_cons_self
      simp [this]
    · rfl
theorem bindC_out {kindOf : Str → Option NameKind} {x : Str} : ∀ {binds : List (Str × Value)} {m : Str → Option Value}, (∀ v, (x, v) ∉ binds) → bindC kindOf binds m x = m x
  | [], _, _ => rfl
  | (n, v) :: r, m, h => by
    unfold bindC
    rw [bindC_out fun w hw => h w (List.mem_cons_of_mem _ hw)]
    split
    · rfl
    · have : x ≠ n := by rintro rfl; exact h v List.mem_cons_self
      simp [this]
theorem bindL_get {kindOf : Str → Option NameKind} {x : Str} {v : Value} : ∀ {P : List Str} {vs : List Value} {i : Nat} {m : Str → Option Value}, P.Nodup → P[i]? = some x → vs[i]? = some v → kindOf x = some .local →
    bindL kindOf (P.zip vs) m x = some v
  | [], _, _, _, _, h, _, _ => by simp at h
  | _ :: _, [], _, _, _, _, h, _ => by simp at h
  | p :: P, w :: vs, 0, m, nd, h1, h2, hk => by
    simp at h1 h2; subst h1; subst h2
    show bindL kindOf ((p, w) :: P.zip vs) m p = _
    unfold bindL
    rw [bindL_out fun v hv => (List.nodup_cons.mp nd).1 (List.of_mem_zip hv).1, if_pos hk]
    simp
  | p :: P, w :: vs, i + 1, m, nd, h1, h2, hk => by
    show bindL kindOf ((p, w) :: P.zip vs) m x = _
    unfold bindL
    exact bindL_get (i := i) (List.nodup_cons.mp nd).2 (by simpa using h1) (by simpa using h2) hk
theorem bindC_get {kindOf : Str → Option NameKind} {x : Str} {v : Value} : ∀ {P : List Str} {vs : List Value} {i : Nat} {m : Str → Option Value}, P.Nodup → P[i]? = some x → vs[i]? = some v → kindOf x ≠ some .local →
    bindC kindOf (P.zip vs) m x = some v
  | [], _, _, _, _, h, _, _ => by simp at h
  | _ :: _, [], _, _, _, _, h, _ => by simp at h
  | p :: P, w :: vs, 0, m, nd, h1, h2, hk => by
    simp at h1 h2; subst h1; subst h2
    show bindC kindOf ((p, w) :: P.zip vs) m p = _
    unfold bindC
    rw [bindC_out fun v hv => (List.nodup_cons.mp nd).1 (List.of_mem_zip hv).1, if_neg hk]
    simp
  | p :: P, w :: vs, i + 1, m, nd, h1, h2, hk => by
    show bindC kindOf ((p, w) :: P.zip vs) m x = _
    unfold bindC
    exact bindC_get (i := i) (List.nodup_cons.mp nd).2 (by simpa using h1) (by simpa using h2) hk
def start (N : List Str) (vs : List V) : St := vs.map some ++ List.replicate (N.length - vs.length) none
def cxOf (CX : CXT) (P : Program) (w : World) (K : PySem.W.Frag) (mg : Str → Option Value) (base : Heap) (N : List Str) (qual : Str) (scope : Scope) (f : Addr) (cd : Value) (A : Around) (outer : List Env) (s : Shared) (H : Hp) (E : XK) : Cx where
  prog := P
  w := w
  K := K
  mg := mg
  base := base
  A := A.deeper (envOfC qual scope s.heap.objs.size f cd)
  N := N
  s₀ := s
  H₀ := H
  env := envOfC qual scope s.heap.objs.size f cd
  outer := outer
  stack := envOfC qual scope s.heap.objs.size f cd :: outer
  ex := []
  calm := true
  fn := fun _ => true
  pn := []
  xe := fun e s' => wpAny (model P w) (A.deeper (envOfC qual scope s.heap.objs.size f cd)) (leaving (envOfC qual scope s.heap.objs.size f cd) e) (fun _ s'' => CX outer H s E e s'') (fun e' s'' => CX outer H s E e' s'') s'
theorem cell_has {sc : Scope} {n : Nat} {x : Str} (h : sc.names.lookup x = some .cell) : ∃ c, (cellsFrom n sc.names []).lookup x = some c := by
  have q := PySem.W.cellsFrom_some sc.names n [] (.inl h)
  exact Option.isSome_iff_exists.mp q
theorem inv_start {CX : CXT} {P : Program} {w : World} {K : PySem.W.Frag} {mg : Str → Option Value} {base : Heap} {N ps : List Str} {qual : Str} {scope : Scope} {f : Addr} {cd : Value} {A : Around} {outer : List Env} {s s1 : Shared} {H : Hp} {E : XK} {us : List Value} {vs : List V}
    (S : FnScope N ps scope) (hd : A.handled = none) (e0 : Env0 P w K mg base A outer s H) (hl : vs.length = ps.length) (r : Vals vs us)
    (x : InCallC s s.heap.objs.size (bindL (envOfC qual scope s.heap.objs.size f cd).kindOf (ps.zip us) fun _ => none) (cellsFrom (s.heap.objs.size + 1) scope.names []) (bindC (envOfC qual scope s.heap.objs.size f cd).kindOf (ps.zip us) fun _ => none) s1) :
    Inv (cxOf CX P w K mg base N qual scope f cd A outer s H E) [] (start N vs) H s1 := by
  have hpl : ps.length ≤ N.length := by have := congrArg List.length S.pre; rw [List.length_take] at this; omega
  obtain ⟨h1, tk, rfl, hk⟩ := x.done
  have noA : ∀ b : Addr, b ∉ (cxOf CX P w K mg base N qual scope f cd A outer s H E).ex := fun b z => absurd (show b ∈ ([] : List Addr) from z) (by simp)
  refine ⟨⟨e0.mod, S.kind, rfl, rfl, Nat.le_refl _, fun y z c h1 h2 => ?_, fun y hy => ?_, fun y c _ h => ?_, fun _ => hd, Around.frames_deeper e0.frames, .inr ⟨rfl, rfl⟩, fun b z => absurd z (noA b), e0.bs, e0.bsz, fun b _ _ => noA b, fun b z => absurd z (noA b), e0.funs, e0.frf⟩,
    rfl, e0.bare, Un.kept hk, ⟨_, x.toInCall.ns, fun i y v h1 h2 h3 => ?_⟩, fun y c h => ⟨_, x.cell y c h⟩, e0.hok.fresh (Nat.le_refl _), fun y c h => ?_, fun p hp => absurd (show p ∈ ([] : List (Addr × Obj)) from hp) (by simp), e0.hok.kept hk, ?_⟩
  · exact name_of_addr x.apart (PySem.mem_of_lookup h1) (PySem.mem_of_lookup h2)
  · have hy : scope.names.lookup y = some .cell ∨ scope.names.lookup y = some .free := hy
    rcases hy with hy | hy
    · exact cell_has hy
    · exact absurd rfl (S.nofree _ (PySem.mem_of_lookup hy))
  · exact Nat.le_of_lt (x.above y c (PySem.mem_of_lookup h))
  · have hi : i < vs.length := by
      unfold start at h2
      by_cases hi : i < vs.length
      · exact hi
      · rw [List.getElem?_append_right (by simpa using hi)] at h2
        rw [List.getElem?_replicate] at h2
        split at h2 <;> cases h2
    have ha : vs[i]? = some v := by
      unfold start at h2
      rw [List.getElem?_append_left (by simpa using hi), List.getElem?_map] at h2
      cases e : vs[i]? with
      | none => rw [e] at h2; cases h2
      | some a => rw [e] at h2; cases h2; rfl
    obtain ⟨u, hu, rv⟩ := r.get ha
    have hp : ps[i]? = some y := by
      rw [← S.pre, List.getElem?_take_of_lt (by omega)]; exact h1
    have ndP : ps.Nodup := by rw [← S.pre]; exact S.nd.sublist (List.take_sublist _ _)
    refine ⟨u, rv, ?_⟩
    rcases S.par y (List.mem_of_getElem? hp) with k | k
    · exact .inl ⟨k, bindL_get ndP hp hu k⟩
    · obtain ⟨c, e⟩ := cell_has (n := s.heap.objs.size + 1) k
      refine .inr ⟨.inl k, c, e, ?_⟩
      have q := x.cell y c e
      rw [bindC_get ndP hp hu (by show scope.names.lookup y ≠ _; rw [k]; decide)] at q
      exact q
  · exact e0.hok.fresh (Nat.le_of_lt (x.above y c (PySem.mem_of_lookup h)))
  · unfold start
    show _ = N.length
    rw [List.length_append, List.length_map, List.length_replicate]
    omega
theorem fn_of {CX : CXT} {P : Program} {w : World} {K : PySem.W.Frag} {mg : Str → Option Value} {base : Heap} {k : Nat} {f : Addr} {name qual : Str} {params : Arguments} {body : List Stmt} {scope : Scope} {dV kV doc pm cdv ct oc : Value} {an od : Option Addr}
    {osl : Array (Option Value)} {N ps : List Str} {sp : Sp} (lk : K.lookup f = some ⟨oc, od, .func (PySem.W.fnOf name qual params body scope dV kV doc pm an cdv ct), osl⟩) (hcd : PySem.W.codeIn K cdv qual = true) (S : FnScope N ps scope)
    (len : ∀ vs H Q E, sp vs H Q E → vs.length = ps.length)
    (hbody : ∀ (A : Around) (outer : List Env) (s : Shared) (H : Hp) (vs : List V) (Q : VK) (E : XK), Room k (A.deeper (envOfC qual scope s.heap.objs.size f cdv)) → sp vs H Q E →
      ∃ t, PSs (cxOf CX P w K mg base N qual scope f cdv A outer s H E) body t ∧ t { nx := fun _ H' => Q .non H', rt := Q } (start N vs) H) :
    FnOk P w K mg base CX (k + 1) f (PySem.W.fnOf name qual params body scope dV kV doc pm an cdv ct) ps sp := by
  refine ⟨len, fun A outer s H args us vs Q E hr e0 hb r hsp => ?_⟩
  have hl := len _ _ _ _ hsp
  have KX : K.In s.heap := e0.mod.kin.keeps fun b o e => (e0.bs b o e).1
  have lim : s.heap.NoLimit := e0.mod.nolimit.keeps fun b o e => (e0.bs b o e).1
  have hkind : ∀ y ∈ ps.zip us, scope.names.lookup y.1 = some .local ∨ (scope.names.lookup y.1 = some .cell ∧ ((cellsFrom (s.heap.objs.size + 1) scope.names []).lookup y.1).isSome = true) := fun ⟨n, v⟩ hy => by
    rcases S.par n (List.of_mem_zip hy).1 with q | q
    · exact .inl q
    · exact .inr ⟨q, PySem.W.cellsFrom_some _ _ _ (.inl q)⟩
  refine codeAny_call_function hr.depth (KX _ _ lk) rfl S.co S.gen rfl (PySem.W.codeRec_of KX hcd) (hb _ _ _ _ ?_)
  refine wpAny_newFunctionEnv_cells S.kind hkind fun env he s1 x => ?_
  subst he
  refine ⟨lim.keeps x.toInCall.keep, codeAny_func ?_⟩
  obtain ⟨t, ht, hq⟩ := hbody A outer s H vs Q E (hr.deeper _) hsp
  have I : Inv (cxOf CX P w K mg base N qual scope f cdv A outer s H E) [] (start N vs) H s1 := inv_start S hr.hd e0 hl r x
  refine wpAny_mono (ht [] s1 (start N vs) H _ I hq) (fun fl s' hs => ?_) fun e s' hs => hs
  have fin : ∀ {σ' : St} {H' : Hp} {v : V} {u : Value}, Inv (cxOf CX P w K mg base N qual scope f cdv A outer s H E) [] σ' H' s' → RelV v u → Q v H' → CE outer P w H s Q u s' :=
    fun {σ' H' v u} J rv q => ⟨v, H', J.os, J.bare, J.base, J.hok, rv, q⟩
  cases fl with
  | ret u =>
    obtain ⟨v, σ', H', J, rv, q⟩ := hs
    exact fin J rv q
  | next =>
    obtain ⟨σ', H', J, q⟩ := hs
    exact fin (v := V.non) (u := Value.none) J rfl q
  | brk =>
    obtain ⟨_, _, _, q⟩ := hs
    exact False.elim q
  | cont =>
    obtain ⟨_, _, _, q⟩ := hs
    exact False.elim q
end L2
namespace L2
open PySem PySem.Spec PyProof.Rows
section
variable {X : Cx} {x : Str} {p pos : Pos} {e : Expr} {es : List Expr} {t : TA} {id T : String} {r : List V → Hp → VK → Prop}
def tCB (r : List V → Hp → VK → Prop) (t : TA) : TE := fun σ H Q => t σ H fun vs H1 => r vs H1 Q
theorem pe_callB (hc : CallR X (.builtin id) r) (hg : Gl X x) (hm : X.mg x = none) (hv : bootBuiltins x = some (.builtin id)) (ha : PA X (e :: es) t) (hn : x ≠ "__name__" := by decide) (hdb : (x == ("__debug__" : Str)) = false := by decide)
    (he : starEach (e :: es) X.env = (false, eval e X.env) :: starEach es X.env := by rfl) (hpl : (backTo pos (starEach es X.env)).any (·.1) = false := by rfl) : PE X (.Call (.Name x p) (e :: es) [] pos) (tCB r t) := by
  intro pins s σ H Q I h
  refine wpAny_Call_Name_kw (ld_blt I hg hm hv ?_ hn hdb)
  exact PyProof.Rows.callWith_builtin1 (thn (ha pos pins s σ H _ I h) fun us s1 ⟨vs, H1, I1, r1, q1⟩ => hc pins s1 σ H1 vs us Q I1 r1 q1) he hpl
theorem pe_callTy (hc : CallR X (.type T) r) (hg : Gl X x) (hm : X.mg x = none) (hv : bootBuiltins x = some (.type T)) (ha : PA X (e :: es) t) (hn : x ≠ "__name__" := by decide) (hdb : (x == ("__debug__" : Str)) = false := by decide)
    (he : starEach (e :: es) X.env = (false, eval e X.env) :: starEach es X.env := by rfl) (hpl : (backTo pos (starEach es X.env)).any (·.1) = false := by rfl) : PE X (.Call (.Name x p) (e :: es) [] pos) (tCB r t) := by
  intro pins s σ H Q I h
  refine wpAny_Call_Name_kw (ld_blt I hg hm hv ?_ hn hdb)
  exact PyProof.Rows.callWith_type1 (thn (ha pos pins s σ H _ I h) fun us s1 ⟨vs, H1, I1, r1, q1⟩ => hc pins s1 σ H1 vs us Q I1 r1 q1) he hpl
end
end L2
namespace HT
open PySem PyProof.Rows
section
open PySem.SeqAt
open PySem.AutoSeq1 (wpAny_loadPart')
open PySem.MeetsSeq PySem.MeetsSeq2 PySem.MeetsSeq3
end
section
variable {prog : Program} {w : World} {A : Around} {E : Value → Shared → Prop} {s : Shared}
def sIx (n d : Nat) : Option Int → Nat
  | none => d
  | some v => if v < 0 then (v + (n : Int)).toNat else min v.toNat n
end
end HT
namespace L2
open PySem PySem.Spec PyProof.Rows
abbrev TO := St → Hp → (Option Int → Hp → Prop) → Prop
def PO (X : Cx) (e : Option Expr) (t : TO) : Prop :=
  ∀ (pins : List (Addr × Obj)) (s : Shared) (σ : St) (H : Hp) (Q : Option Int → Hp → Prop), Inv X pins σ H s → t σ H Q →
    wpAny (model X.prog X.w) X.A (evalPart e X.env) (fun u s' => ∃ o H', Inv X pins σ H' s' ∧ IsPart u o ∧ Q o H') X.xe s
def tPart (t : TE) : TO := fun σ H Q => t σ H fun x H1 => ∃ i, x = .int i ∧ Q (some i) H1
theorem intsAre_of {ns : List Int} : ∀ {us : List Value}, Vals (ns.map V.int) us → IntsAre us ns := by
  induction ns with
  | nil => intro us r; rw [List.map_nil] at r; cases r; exact .nil
  | cons n ns ih =>
    intro us r
    rw [List.map_cons] at r
    cases r with
    | cons r1 r2 =>
      obtain ⟨t, e⟩ := r1
      subst e
      exact .cons n t (ih r2)
section
variable {X : Cx} {e : Expr} {te : TE} {lo hi : Option Expr} {tl th : TO} {pos p2 : Pos}
theorem po_some (h : PE X e te) : PO X (some e) (tPart te) := by
  intro pins s σ H Q I hw
  rw [evalPart_some]
  refine thn (h pins s σ H _ I hw) fun u s1 ⟨x, H1, I1, r1, q1⟩ => ?_
  obtain ⟨i, rfl, q⟩ := q1
  obtain ⟨t, rfl⟩ := r1
  exact ⟨some i, H1, I1, .int i t, q⟩
def SlR (X : Cx) (r : V → Option Int → Option Int → Hp → VK → Prop) : Prop :=
  ∀ (pins : List (Addr × Obj)) (s : Shared) (σ : St) (H : Hp) (x : V) (v vl vu : Value) (lo hi : Option Int) (sl : Addr) (Q : VK), Inv X pins σ H s → RelV x v → s.heap.IsSliceOf sl vl vu .none → IsPart vl lo → IsPart vu hi → r x lo hi H Q →
    ∃ T id, typeLookup (.type T) "__getitem__" = pure (some (.builtin id)) ∧ s.TypeIs v T ∧ wpAny (model X.prog X.w) X.A (getItem v (.ref sl)) (EP X pins σ Q) X.xe s
theorem SlR.or {r r' : V → Option Int → Option Int → Hp → VK → Prop} (h : SlR X r) (h' : SlR X r') : SlR X (fun x lo hi H Q => r x lo hi H Q ∨ r' x lo hi H Q) := by
  intro pins s σ H x v vl vu lo hi sl Q I rx hs pl pu q
  rcases q with q | q
  · exact h pins s σ H x v vl vu lo hi sl Q I rx hs pl pu q
  · exact h' pins s σ H x v vl vu lo hi sl Q I rx hs pl pu q
def tSl (r : V → Option Int → Option Int → Hp → VK → Prop) (te : TE) (tl th : TO) : TE := fun σ H Q => te σ H fun x H1 => tl σ H1 fun l H2 => th σ H2 fun u H3 => r x l u H3 Q
theorem pe_slice {r : V → Option Int → Option Int → Hp → VK → Prop} (hr : SlR X r) (he : PE X e te) (hl : PO X lo tl) (hu : PO X hi th) : PE X (.Subscript e (.Slice lo hi none p2) pos) (tSl r te tl th) := by
  intro pins s σ H Q I h
  refine Subscript_ (thn (he pins s σ H _ I h) fun v s1 ⟨x, H1, I1, r1, q1⟩ => ?_)
  refine wpAny_Slice (thn (hl pins s1 σ H1 _ I1 q1) fun vl s2 ⟨l, H2, I2, pl, q2⟩ => thn (hu pins s2 σ H2 _ I2 q2) fun vu s3 ⟨u, H3, I3, pu, q3⟩ => ?_)
  rw [evalPart_none]
  refine wpAny_pure ?_
  have I4 : Inv X pins σ H3 { s3 with heap := s3.heap.push { cls := .type "slice", data := .fields #[vl, vu, .none] } } := I3.kept (t' := s3.toks) fun b ob q => Heap.get?_push_of_some _ q
  obtain ⟨T, id, hT, ht, hg⟩ := hr pins { s3 with heap := s3.heap.push { cls := .type "slice", data := .fields #[vl, vu, .none] } } σ H3 x v vl vu l u s3.heap.objs.size Q I4 r1 (Heap.IsSliceOf.new ..) pl pu q3
  show wpAny (model X.prog X.w) X.A (subscriptTail e (.Slice lo hi none p2) v (.ref s3.heap.objs.size)) (EP X pins σ Q) X.xe { s3 with heap := s3.heap.push { cls := .type "slice", data := .fields #[vl, vu, .none] } }
  exact tail_any (ops := [.ref s3.heap.objs.size, v]) ht hT hg (by with_unfolding_all rfl)
def cutV (xs : List V) (lo hi : Option Int) : List V := (xs.drop (HT.sIx xs.length 0 lo)).take (HT.sIx xs.length xs.length hi - HT.sIx xs.length 0 lo)
theorem cutV_length (xs : List V) (lo hi : Option Int) : (cutV xs lo hi).length ≤ xs.length := by
  unfold cutV
  rw [List.length_take, List.length_drop]
  omega
end
end L2
namespace L2
open PySem PySem.Spec PyProof.Rows
def ixN (n : Nat) (i : Int) : Option Nat := if 0 ≤ i then (if i < n then some i.toNat else none) else if -(n : Int) ≤ i then some (i + n).toNat else none
def atI {α : Type} (xs : List α) (i : Int) : Option α := (ixN xs.length i).bind fun j => xs[j]?
theorem ixN_seq {n : Nat} {i : Int} {j : Nat} (h : ixN n i = some j) : seqIndex? i n = some j ∧ j < n ∧ -(n : Int) ≤ i ∧ i < n := by
  unfold ixN at h
  by_cases h0 : 0 ≤ i
  · rw [if_pos h0] at h
    by_cases h1 : i < n
    · rw [if_pos h1] at h
      have e : i.toNat = j := Option.some.inj h
      exact ⟨by rw [seqIndex_of h0 h1, e], by omega, by omega, h1⟩
    · rw [if_neg h1] at h; cases h
  · rw [if_neg h0] at h
    by_cases h1 : -(n : Int) ≤ i
    · rw [if_pos h1] at h
      have e : (i + n).toNat = j := Option.some.inj h
      exact ⟨by rw [seqIndex_neg (by omega) h1, e], by omega, h1, by omega⟩
    · rw [if_neg h1] at h; cases h
theorem atI_get {α : Type} {xs : List α} {i : Int} {v : α} (h : atI xs i = some v) : ∃ j, seqIndex? i xs.length = some j ∧ xs[j]? = some v ∧ j < xs.length ∧ -(xs.length : Int) ≤ i ∧ i < xs.length := by
  unfold atI at h
  cases e : ixN xs.length i with
  | none => rw [e] at h; cases h
  | some j =>
    rw [e] at h
    obtain ⟨h1, h2, h3, h4⟩ := ixN_seq e
    exact ⟨j, h1, h, h2, h3, h4⟩
theorem atI_nat {α : Type} {xs : List α} {j : Nat} {v : α} (h : xs[j]? = some v) : atI xs (j : Int) = some v := by
  have hj : j < xs.length := (List.getElem?_eq_some_iff.mp h).1
  have e : ixN xs.length (j : Int) = some j := by
    unfold ixN
    rw [if_pos (by omega), if_pos (by omega)]; simp
  unfold atI; rw [e]; exact h
def PlainIx (b : Expr) : Prop := ∀ o i, subscripted b false o i = operate [o, i] (getItem o i)
def IxR (X : Cx) (r : R2) : Prop :=
  ∀ (value slice : Expr) (pins : List (Addr × Obj)) (s : Shared) (σ : St) (H : Hp) (x y : V) (v u : Value) (Q : VK), Inv X pins σ H s → RelV x v → RelV y u → r x y H Q →
    subscripted slice false v u = operate [v, u] (getItem v u) → wpAny (model X.prog X.w) X.A (subscriptTail value slice v u) (EP X pins σ Q) X.xe s
def MtR (X : Cx) (id : String) (r : V → List V → Hp → VK → Prop) : Prop :=
  ∀ (pins : List (Addr × Obj)) (s : Shared) (σ : St) (H : Hp) (x : V) (xs : List V) (v : Value) (us : List Value) (Q : VK), Inv X pins σ H s → RelV x v → Vals xs us → r x xs H Q →
    wpAny (model X.prog X.w) X.A (call (.builtin id) (v :: us)) (EP X pins σ Q) X.xe s
section
variable {X : Cx} {a b : Expr} {ta tb : TE} {pos : Pos}
theorem IxR.or {r r' : R2} (h : IxR X r) (h' : IxR X r') : IxR X (fun x y H Q => r x y H Q ∨ r' x y H Q) := by
  intro value slice pins s σ H x y v u Q I rx ry q hs
  rcases q with q | q
  · exact h value slice pins s σ H x y v u Q I rx ry q hs
  · exact h' value slice pins s σ H x y v u Q I rx ry q hs
theorem MtR.or {id : String} {r r' : V → List V → Hp → VK → Prop} (h : MtR X id r) (h' : MtR X id r') : MtR X id (fun x xs H Q => r x xs H Q ∨ r' x xs H Q) := by
  intro pins s σ H x xs v us Q I rx rs q
  rcases q with q | q
  · exact h pins s σ H x xs v us Q I rx rs q
  · exact h' pins s σ H x xs v us Q I rx rs q
theorem pe_ix {r : R2} (hr : IxR X r) (ha : PE X a ta) (hb : PE X b tb) (hs : PlainIx b) : PE X (.Subscript a b pos) (tOp r ta tb) := by
  intro pins s σ H Q I h
  exact Subscript_ (binT ha hb I h fun v u s2 x y H2 I2 rx ry q => hr a b pins s2 σ H2 x y v u Q I2 rx ry q (hs _ _))
def rIxL (K : PySem.W.Frag) : R2 := fun x y H Q => ∃ p xs i v, x = .ref p ∧ y = .int i ∧ SqL K H p xs ∧ atI xs i = some v ∧ Q v H
theorem ix_list : IxR X (rIxL X.K) := by
  intro value slice pins s σ H x y v u Q I rx ry h hs
  obtain ⟨p, xs, i, z, rfl, rfl, hq, he, q⟩ := h
  cases rx
  obtain ⟨t, rfl⟩ := ry
  obtain ⟨its, r, pl, hz⟩ := I.list hq
  obtain ⟨j, h1, h2, h3, h4, h5⟩ := atI_get he
  obtain ⟨w, ew, rw'⟩ := r.get h2
  have hl := r.length
  have hn := line63
  have fin : EP X pins σ Q w s := ⟨z, H, I, rw', q⟩
  by_cases h0 : 0 ≤ i
  · have hj : i.toNat = j := by
      rw [seqIndex_of h0 h5] at h1
      exact Option.some.inj h1
    exact item_listR pl.isList h0 (by omega) (by rw [hj]; simpa using ew) fin hs
  · have hj : (i + (its.toArray.size : Int)).toNat = j := by
      rw [seqIndex_neg (by omega) h4] at h1
      rw [List.size_toArray, ← hl]
      exact Option.some.inj h1
    exact subscriptTail_builtinR (x := w) pl.isList.typeIs slot_list_getitem.lookup
      (wpAny_getItem_list_neg (Q := fun r s' => r = w ∧ EP X pins σ Q r s') pl.isList (by omega) (by rw [List.size_toArray] <;> omega) (by omega) (by rw [hj]; simpa using ew) ⟨rfl, fin⟩) hs
theorem mapSeq_set (its : List Value) (n j : Nat) (u : Value) : Obj.mapSeq (·.setIfInBounds j u) { cls := .type "list", data := .seq its.toArray n } = { cls := .type "list", data := .seq (its.set j u).toArray n } := by
  simp [Obj.mapSeq]
theorem Inv.lst {pins : List (Addr × Obj)} {σ : St} {H : Hp} {s : Shared} {p : Addr} {xs : List V} (I : Inv X pins σ H s) (h : H p = some (.lst xs)) :
    ∃ (its : List Value) (n : Nat), Vals xs its ∧ s.heap.get? p = some { cls := .type "list", data := .seq its.toArray n } ∧ xs.length ≤ sizeLine := by
  obtain ⟨z, its, n, r, e⟩ := I.hok p _ h
  exact ⟨its, n, r, e, z⟩
theorem Inv.lstUpd {pins : List (Addr × Obj)} {σ : St} {H : Hp} {s : Shared} {p : Addr} {xs ys : List V} {its its' : List Value} {n n' : Nat} {f : Obj → Obj} (I : Inv X pins σ H s) (h : H p = some (.lst xs))
    (ho : s.heap.get? p = some { cls := .type "list", data := .seq its.toArray n }) (hf : f { cls := .type "list", data := .seq its.toArray n } = { cls := .type "list", data := .seq its'.toArray n' }) (r : Vals ys its') (hz : ys.length ≤ sizeLine) (t : Nat) :
    Inv X pins σ (upd H p (.lst ys)) { s with heap := s.heap.update p f, toks := t } := by
  have e : (s.heap.update p f).get? p = some { cls := .type "list", data := .seq its'.toArray n' } := by
    rw [Heap.get?_update_self f ho (by rw [hf] <;> rfl), hf]
  refine I.write (x := p) (e := p) (by rw [h]; trivial) (.inl rfl) (fun b u hb q => (Heap.get?_update_other _ _ (Ne.symm hb)).trans q) ⟨_, e⟩ ?_
  exact ⟨hz, its', n', r, e⟩
def rSetL : V → V → V → Hp → (Hp → Prop) → Prop := fun o i v H Q => ∃ p xs k j, o = .ref p ∧ i = .int k ∧ H p = some (.lst xs) ∧ ixN xs.length k = some j ∧ Q (upd H p (.lst (xs.set j v)))
theorem set_list : PSet X rSetL := by
  intro pins s σ H o i v ov iv u Q I ro ri rv h
  obtain ⟨p, xs, k, j, rfl, rfl, hp, hj, q⟩ := h
  cases ro
  obtain ⟨t, rfl⟩ := ri
  obtain ⟨its, n, r, ho, hz⟩ := I.lst hp
  obtain ⟨h1, h2, h3, h4⟩ := ixN_seq hj
  have hl := r.length
  have hn := line63
  have I' : Inv X pins σ (upd H p (.lst (xs.set j v))) { s with heap := s.heap.update p (Obj.mapSeq (·.setIfInBounds j u)) } :=
    I.lstUpd hp ho (mapSeq_set its n j u) (r.set rv j) (by rw [List.length_set]; exact hz) s.toks
  by_cases h0 : 0 ≤ k
  · have hk : k.toNat = j := by
      rw [seqIndex_of h0 h4] at h1
      exact Option.some.inj h1
    exact PySem.W.ki_setAt ho h0 (by omega) (by rw [List.size_toArray, ← hl]; exact h4) (by rw [hk]; exact ⟨_, I', q⟩)
  · have hk : (k + (its.toArray.size : Int)).toNat = j := by
      rw [seqIndex_neg (by omega) h3] at h1
      rw [List.size_toArray, ← hl]
      exact Option.some.inj h1
    exact PySem.W.ki_setBack ho (by omega) (by rw [List.size_toArray, ← hl]; exact h3) (by omega) (by rw [hk]; exact ⟨_, I', q⟩)
theorem slice_bounds (lo hi : Option Int) (n : Nat) : (sliceBounds lo hi none n).1 = ((HT.sIx n 0 lo : Nat) : Int) ∧ (sliceBounds lo hi none n).2.1 = ((HT.sIx n n hi : Nat) : Int) ∧ (sliceBounds lo hi none n).2.2 = 1 := by
  refine ⟨?_, ?_, rfl⟩
  · cases lo with
    | none => simp [sliceBounds, HT.sIx]
    | some i =>
      simp only [sliceBounds, HT.sIx, Option.getD_none, show (1 : Int) > 0 by decide, if_true]
      by_cases h : i < 0
      · simp only [h, if_true] <;> omega
      · simp only [h, if_false] <;> omega
  · cases hi with
    | none => simp [sliceBounds, HT.sIx]
    | some i =>
      simp only [sliceBounds, HT.sIx, Option.getD_none, show (1 : Int) > 0 by decide, if_true]
      by_cases h : i < 0
      · simp only [h, if_true] <;> omega
      · simp only [h, if_false] <;> omega
theorem slicePick_cut (its : List Value) (lo hi : Option Int) : slicePick its.toArray lo hi none = ((its.drop (HT.sIx its.length 0 lo)).take (HT.sIx its.length its.length hi - HT.sIx its.length 0 lo)).toArray := by
  obtain ⟨h1, h2, h3⟩ := slice_bounds lo hi its.toArray.size
  unfold slicePick
  rw [h1, h2, h3]
  simp only [sliceRange_one, pick_run, List.size_toArray] <;> rfl
def rSlL (K : PySem.W.Frag) : V → Option Int → Option Int → Hp → VK → Prop := fun x lo hi H Q => ∃ a xs, x = .ref a ∧ SqL K H a xs ∧ ∀ p, H p = none → Q (.ref p) (upd H p (.lst (cutV xs lo hi)))
theorem sl_list : SlR X (rSlL X.K) := by
  intro pins s σ H x v vl vu lo hi sl Q I rx hs pl pu h
  obtain ⟨a, xs, rfl, hx, q⟩ := h
  cases rx
  obtain ⟨its, r, ht, hz⟩ := I.list hx
  have hlen := r.length
  refine ⟨"list", _, slot_list_getitem.lookup, ht.isList.typeIs, ?_⟩
  refine wpAny_getItem_list_slice ht.isList hs pl pu .none (by simp) ?_ (by rw [List.size_toArray] <;> omega)
  rw [slicePick_cut, ← hlen]
  refine ⟨.ref s.heap.objs.size, _, I.laid (t' := s.toks) (o := .lst (cutV xs lo hi)) (fun b ob q => Heap.get?_push_of_some _ q) (Nat.le_refl _) ?_, rfl, q _ (I.hok.fresh (Nat.le_refl _))⟩
  exact ⟨Nat.le_trans (cutV_length xs lo hi) hz, _, 0, (r.drop (HT.sIx xs.length 0 lo)).take (HT.sIx xs.length xs.length hi - HT.sIx xs.length 0 lo), Heap.get?_push_size _ rfl⟩
theorem call_len_seq : CallR X (.builtin "len") (fun xs H Q => ∃ p ys, xs = [.ref p] ∧ (SqL X.K H p ys ∨ SqT X.K H p ys) ∧ Q (.int ys.length) H) := by
  intro pins s σ H xs us Q I r h
  obtain ⟨p, ys, rfl, hq, q⟩ := h
  obtain ⟨u, rfl, rx⟩ := vals1 r
  cases rx
  have hn := line63
  rcases hq with hq | hq
  · obtain ⟨its, r', pl, hz⟩ := I.list hq
    have hlen := r'.length
    exact Calls.call_len_list pl.isList (by simp only [List.size_toArray] <;> omega) ⟨.int ys.length, H, I.tok _, ⟨s.toks + 1, by rw [List.size_toArray, hlen]⟩, q⟩
  · obtain ⟨its, r', pl, hz⟩ := I.tuple hq
    have hlen := r'.length
    exact len_tuple pl (by simp only [List.size_toArray] <;> omega) ⟨.int ys.length, H, I.tok _, ⟨s.toks + 1, by rw [List.size_toArray, hlen]⟩, q⟩
theorem CallR.or {f : Value} {r r' : List V → Hp → VK → Prop} (h : CallR X f r) (h' : CallR X f r') : CallR X f (fun xs H Q => r xs H Q ∨ r' xs H Q) := by
  intro pins s σ H xs us Q I rs q
  rcases q with q | q
  · exact h pins s σ H xs us Q I rs q
  · exact h' pins s σ H xs us Q I rs q
theorem call_list_of : CallR X (.type "list") (fun xs H Q => ∃ p ys, xs = [.ref p] ∧ (SqL X.K H p ys ∨ SqT X.K H p ys) ∧ ∀ l, H l = none → Q (.ref l) (upd H l (.lst ys))) := by
  intro pins s σ H xs us Q I r h
  obtain ⟨p, ys, rfl, hq, q⟩ := h
  obtain ⟨u, rfl, rx⟩ := vals1 r
  cases rx
  have fin : ∀ (its : List Value), Vals ys its → ys.length ≤ sizeLine → ∀ (h' : Heap) (c' : Nat), (∀ b o', s.heap.get? b = some o' → h'.get? b = some o') →
      h'.get? s.heap.objs.size = some { cls := .type "list", dict := none, data := .seq its.toArray c', slots := #[] } → EP X pins σ Q (.ref s.heap.objs.size) { s with heap := h' } := fun its r' hz h' c' kp e =>
    ⟨.ref s.heap.objs.size, _, I.laid (t' := s.toks) kp (Nat.le_refl _) (show ObjOk X.prog X.w _ h' _ (.lst ys) from ⟨hz, its, c', r', e⟩), rfl, q _ (I.hok.fresh (Nat.le_refl _))⟩
  rcases hq with hq | hq
  · obtain ⟨its, r', pl, hz⟩ := I.list hq
    have hlen := r'.length
    obtain ⟨o, ho, hc, n, hd⟩ := pl.isList
    exact call_list_seq p (.inl rfl) ho hc hd (fun h' c' kp e => fin its r' hz h' c' kp e) (by simp only [List.size_toArray] <;> omega)
  · obtain ⟨its, r', pl, hz⟩ := I.tuple hq
    have hlen := r'.length
    obtain ⟨o, ho, hc, n, hd⟩ := pl
    exact call_list_seq p (.inr rfl) ho hc hd (fun h' c' kp e => fin its r' hz h' c' kp e) (by simp only [List.size_toArray] <;> omega)
def tyV (K : PySem.W.Frag) (T : String) (x : V) (H : Hp) : Prop := match x with
  | .str _ => T = "str"
  | .int _ => T = "int"
  | .ref p => (T = "list" ∧ ∃ xs, SqL K H p xs) ∨ (T = "tuple" ∧ ∃ o, K.lookup p = some o ∧ o.cls = .type "tuple" ∧ o.dict = none) ∨
      (T = "dict" ∧ ((∃ kvs, H p = some (.dK kvs)) ∨ ∃ kvs, H p = some (.dT kvs))) ∨ (T = "set" ∧ ∃ S n, H p = some (.set S n))
  | _ => False
theorem tyV_is {pins : List (Addr × Obj)} {σ : St} {H : Hp} {s : Shared} {T : String} {x : V} {v : Value} (I : Inv X pins σ H s) (r : RelV x v) (ty : tyV X.K T x H) :
    s.TypeIs v T ∧ ∀ a, v = .ref a → ∃ ob, s.heap.get? a = some ob ∧ ob.dict = none := by
  cases x with
  | str z =>
    obtain ⟨t, rfl⟩ := r
    cases (show T = "str" from ty)
    exact ⟨typeIs_str s z t, fun _ e => nomatch e⟩
  | int i =>
    obtain ⟨t, rfl⟩ := r
    cases (show T = "int" from ty)
    exact ⟨typeIs_int s i t, fun _ e => nomatch e⟩
  | ref p =>
    cases r
    rcases ty with ⟨rfl, xs, hq⟩ | ⟨rfl, o, hk, hc, hd⟩ | ⟨rfl, hk⟩ | ⟨rfl, S, n, hk⟩
    · obtain ⟨its, _, pl, _⟩ := I.list hq
      refine ⟨pl.isList.typeIs, fun a e => ?_⟩
      cases e
      obtain ⟨o, n, e, c, hd, _⟩ := pl
      exact ⟨o, e, hd⟩
    · refine ⟨⟨o, I.kIn p o hk, hc⟩, fun a e => ?_⟩
      cases e
      exact ⟨o, I.kIn _ o hk, hd⟩
    · have z : ∃ o, s.heap.get? p = some o ∧ o.ExactDict := by
        rcases hk with ⟨kvs, hk⟩ | ⟨kvs, hk⟩
        · obtain ⟨_, _, _, _, o, _, _, e, ex, _⟩ := I.hok p _ hk
          exact ⟨o, e, ex⟩
        · obtain ⟨_, _, _, _, o, _, _, e, ex, _⟩ := I.hok p _ hk
          exact ⟨o, e, ex⟩
      obtain ⟨o, e, ex⟩ := z
      refine ⟨⟨o, e, ex.1⟩, fun a e2 => ?_⟩
      cases e2
      exact ⟨o, e, ex.2.1⟩
    · obtain ⟨o, _, _, _, e, ex, _⟩ := I.hok p _ hk
      refine ⟨⟨o, e, ex.1⟩, fun a e2 => ?_⟩
      cases e2
      exact ⟨o, e, ex.2.1⟩
  | _ => exact False.elim ty
def tBM0 (K : PySem.W.Frag) (T : String) (r : V → List V → Hp → VK → Prop) (to : TE) : TE := fun σ H Q => to σ H fun x H1 => tyV K T x H1 ∧ r x [] H1 Q
def tBM (K : PySem.W.Frag) (T : String) (r : V → List V → Hp → VK → Prop) (to : TE) (t : TA) : TE := fun σ H Q => to σ H fun x H1 => tyV K T x H1 ∧ t σ H1 fun xs H2 => r x xs H2 Q
variable {o e : Expr} {es : List Expr} {to : TE} {t : TA} {name : Str} {apos cpos : Pos} {T id : String} {r : V → List V → Hp → VK → Prop}
theorem pe_bm0 (pa : PlainAttrs T) (slot : Slot T name id) (hty : typeOf (.builtin id) = pure (.type "method_descriptor")) (hm : MtR X id r) (ho : PE X o to)
    (hbase : attributeBase o name X.env (eval o X.env) = eval o X.env := by rfl) (hline : (apos.endLine == cpos.line) = true := by rfl) : PE X (.Call (.Attribute o name apos) [] [] cpos) (tBM0 X.K T r to) := by
  intro pins s σ H Q I h
  refine wpAny_Call_method0_late hbase hline (thn (ho pins s σ H _ I h) fun v s1 ⟨x, H1, I1, r1, ty, q1⟩ => ?_)
  obtain ⟨h1, h2⟩ := tyV_is I1 r1 ty
  exact ⟨T, id, pa, slot, hty, h1, h2, Calls.callWith_builtin rfl (PySem.evalArgs_none (hm pins s1 σ H1 x [] v [] Q I1 r1 .nil q1))⟩
theorem pe_bm (pa : PlainAttrs T) (slot : Slot T name id) (hty : typeOf (.builtin id) = pure (.type "method_descriptor")) (hm : MtR X id r) (ho : PE X o to) (ha : PA X (e :: es) t)
    (hbase : attributeBase o name X.env (eval o X.env) = eval o X.env := by rfl)
    (hfew : ((backTo cpos (starEach (e :: es) X.env)).all (fun x => !x.1) && (backToKw cpos (keywordEach [] X.env)).all (fun x => x.1.isSome)
      && decide ((e :: es).length + ([] : List Keyword).length + (if ([] : List Keyword).isEmpty then 0 else 1) < 30)) = true := by rfl)
    (hline : (apos.endLine == cpos.line) = true := by rfl) (hs : starEach (e :: es) X.env = (false, eval e X.env) :: starEach es X.env := by rfl) (hplain : (backTo cpos (starEach es X.env)).any (·.1) = false := by rfl) :
    PE X (.Call (.Attribute o name apos) (e :: es) [] cpos) (tBM X.K T r to t) := by
  intro pins s σ H Q I h
  refine wpAny_Call_method_late hbase hfew hline rfl (thn (ho pins s σ H _ I h) fun v s1 ⟨x, H1, I1, r1, ty, q1⟩ => ?_)
  obtain ⟨h1, h2⟩ := tyV_is I1 r1 ty
  refine ⟨T, id, pa, slot, hty, h1, h2, ?_⟩
  have hA := ha cpos pins s1 σ H1 _ I1 q1
  rw [hs] at hA ⊢
  refine Calls.callWith_builtin (by show (false || (backTo cpos (starEach es X.env)).any (·.1)) = false; rw [hplain] <;> rfl) (Calls.evalArgs_plain ?_)
  exact thn hA fun us s2 ⟨vs, H2, I2, r2, q2⟩ => hm pins s2 σ H2 x vs v us Q I2 r1 r2 q2
end
end L2
namespace L2
open PySem PySem.Spec PyProof.Rows
def MtM (X : Cx) (id : String) (r : V → List V → Hp → VK → Prop) : Prop :=
  ∀ (pins : List (Addr × Obj)) (s : Shared) (σ : St) (H : Hp) (x : V) (xs : List V) (v : Value) (us : List Value) (Q : VK), Inv X pins σ H s → RelV x v → Vals xs us → r x xs H Q →
    wpAny (model X.prog X.w) X.A (call (.builtin id) (v :: us)) (EP X pins σ Q) X.xe s
theorem Vals.one : ∀ {x : V} {us : List Value}, Vals [x] us → ∃ u, us = [u] ∧ RelV x u
  | _, _, .cons r .nil => ⟨_, rfl, r⟩
theorem Vals.zero : ∀ {us : List Value}, Vals [] us → us = []
  | _, .nil => rfl
theorem Vals.eraseIdx : ∀ {xs : List V} {us : List Value} (i : Nat), Vals xs us → Vals (xs.eraseIdx i) (us.eraseIdx i)
  | _, _, _, .nil => .nil
  | _, _, 0, .cons _ t => t
  | _, _, i + 1, .cons r t => .cons r (Vals.eraseIdx i t)
theorem Vals.reverse {xs : List V} {us : List Value} (h : Vals xs us) : Vals xs.reverse us.reverse := by
  induction h with
  | nil => exact .nil
  | cons r t ih => rw [List.reverse_cons, List.reverse_cons]; exact Vals.append ih (.cons r .nil)
theorem Vals.rep {xs : List V} {us : List Value} (h : Vals xs us) : ∀ k : Nat, Vals (List.replicate k xs).flatten (List.replicate k us).flatten
  | 0 => .nil
  | k + 1 => by
    rw [List.replicate_succ, List.replicate_succ, List.flatten_cons, List.flatten_cons]
    exact Vals.append h (Vals.rep h k)
theorem foldl_rep (its : List Value) : ∀ (k : Nat) (acc : List Value),
    List.foldl (fun x1 x2 => x1 ++ x2) acc.toArray (List.replicate k its.toArray) = (acc ++ (List.replicate k its).flatten).toArray
  | 0, acc => by simp
  | k + 1, acc => by
    have e : acc.toArray ++ its.toArray = (acc ++ its).toArray := by simp
    have e2 : (acc ++ its) ++ (List.replicate k its).flatten = acc ++ (List.replicate (k + 1) its).flatten := by
      rw [List.replicate_succ, List.flatten_cons, List.append_assoc]
    rw [← e2, ← foldl_rep its k (acc ++ its), ← e, List.replicate_succ, List.foldl_cons]
section
variable {X : Cx} {pins : List (Addr × Obj)} {σ : St} {H : Hp} {s : Shared} {l b : Addr} {xs ys zs : List V}
theorem Inv.lset {its its' : List Value} {n : Nat} {f : Array Value → Array Value} {t' : Nat} (I : Inv X pins σ H s) (hH : H l = some (.lst xs))
    (e : s.heap.get? l = some { cls := .type "list", data := .seq its.toArray n }) (hf : f its.toArray = its'.toArray) (hv : Vals ys its') (hz : ys.length ≤ sizeLine) :
    Inv X pins σ (upd H l (.lst ys)) { s with heap := s.heap.update l (Obj.mapSeq f), toks := t' } := by
  have q := PySem.IsL.update e f
  rw [hf] at q
  refine I.write (x := l) (e := l) (by rw [hH]; exact trivial) (.inl rfl) (fun b' u hb hu => (Heap.get?_update_other s.heap (Obj.mapSeq f) (Ne.symm hb)).trans hu) ⟨_, q⟩ ?_
  exact ⟨hz, its', _, hv, q⟩
theorem Inv.lnew {its : List Value} {t' : Nat} (I : Inv X pins σ H s) (hv : Vals ys its) (hz : ys.length ≤ sizeLine) :
    Inv X pins σ (upd H s.heap.objs.size (.lst ys)) { s with heap := s.heap.push { cls := .type "list", data := .seq its.toArray }, toks := t' } :=
  I.laid (fun _ _ q => Heap.get?_push_of_some _ q) (Nat.le_refl _) ⟨hz, its, 0, hv, Heap.get?_push_size _ rfl⟩
theorem Inv.fresh (I : Inv X pins σ H s) : H s.heap.objs.size = none := I.hok.fresh (Nat.le_refl _)
theorem Inv.lstM (I : Inv X pins σ H s) (hH : H l = some (.lst xs)) : xs.length ≤ sizeLine ∧ ∃ (its : List Value) (n : Nat), Vals xs its ∧ xs.length = its.length ∧ s.heap.get? l = some { cls := .type "list", data := .seq its.toArray n } := by
  obtain ⟨z, its, n, r, e⟩ := I.hok l _ hH
  exact ⟨z, its, n, r, r.length, e⟩
theorem notLongL {n : Nat} (h : n ≤ sizeLine) : Builtin.List.listTooLong n = false := by
  unfold Builtin.List.listTooLong
  exact decide_eq_false (by omega)
end
section
variable {X : Cx}
def rAppend : V → List V → Hp → VK → Prop := fun x vs H Q => ∃ l xs y, x = .ref l ∧ vs = [y] ∧ H l = some (.lst xs) ∧ xs.length < sizeLine ∧ Q .non (upd H l (.lst (xs ++ [y])))
theorem mt_append : MtM X "list.append" rAppend := by
  intro pins s σ H x vs v us Q I rx rv h
  obtain ⟨l, xs, y, rfl, rfl, hH, hz, q⟩ := h
  cases rx
  obtain ⟨u, rfl, ru⟩ := rv.one
  obtain ⟨z, its, n, r, hl, e⟩ := I.lstM hH
  refine call_meets F.slot_list_append ⟨_, e, rfl⟩ F.entry_list_append (F.args_list_append_2 _ _) (PySem.list_append l its.toArray n u (by rw [List.size_toArray]; omega)) ⟨e, ?_⟩
  refine ⟨.non, _, I.lset (its' := its ++ [u]) hH e (by simp) (r.append (.cons ru .nil)) ?_, rfl, q⟩
  rw [List.length_append, List.length_singleton]
  omega
def rExtend : V → List V → Hp → VK → Prop := fun x vs H Q => ∃ l b xs zs, x = .ref l ∧ vs = [.ref b] ∧ H l = some (.lst xs) ∧ H b = some (.lst zs) ∧ xs.length + zs.length ≤ sizeLine ∧ Q .non (upd H l (.lst (xs ++ zs)))
theorem mt_extend : MtM X "list.extend" rExtend := by
  intro pins s σ H x vs v us Q I rx rv h
  obtain ⟨l, b, xs, zs, rfl, rfl, hH, hB, hz, q⟩ := h
  cases rx
  obtain ⟨u, rfl, ru⟩ := rv.one
  cases ru
  obtain ⟨z, its, n, r, hl, e⟩ := I.lstM hH
  obtain ⟨z2, its2, n2, r2, hl2, e2⟩ := I.lstM hB
  have hsz : its.toArray.size + its2.toArray.size ≤ sizeLine := by rw [List.size_toArray, List.size_toArray]; omega
  have hlong : ¬ (!its.toArray.isEmpty && Builtin.List.listTooLong (its.toArray.size + its2.toArray.size)) = true := by
    rw [notLongL hsz, Bool.and_false]
    exact Bool.false_ne_true
  refine call_meets F.slot_list_extend ⟨_, e, rfl⟩ F.entry_list_extend (F.args_list_extend_2 _ _)
    (AutoSeq1.list_extend_list_list_0 l its.toArray n b its2.toArray n2 hlong (by rw [List.size_toArray]; omega) (by omega)) ⟨e, e2, ?_⟩
  refine ⟨.non, _, I.lset (its' := its ++ its2) hH e (by simp) (r.append r2) ?_, rfl, q⟩
  rw [List.length_append]
  omega
def rRep : R2 := fun x y H Q => ∃ l k xs, x = .ref l ∧ y = .int k ∧ H l = some (.lst xs) ∧ -(2 ^ 63) ≤ k ∧ k < 2 ^ 63 ∧ xs.length * k.toNat ≤ sizeLine ∧
  ∀ p, H p = none → Q (.ref p) (upd H p (.lst (List.replicate k.toNat xs).flatten))
theorem len_rep {α : Type} (xs : List α) (k : Nat) : (List.replicate k xs).flatten.length = k * xs.length := by
  induction k with
  | zero => simp
  | succ k ih => rw [List.replicate_succ, List.flatten_cons, List.length_append, ih, Nat.succ_mul, Nat.add_comm]
theorem op_rep : OpR X (binaryOp .Mult) rRep := by
  intro pins s σ H x y v u Q I rx ry h
  obtain ⟨l, k, xs, rfl, rfl, hH, h1, h2, hz, q⟩ := h
  cases rx
  obtain ⟨t, rfl⟩ := ry
  obtain ⟨z, its, n, r, hl, e⟩ := I.lstM hH
  have hlen : its.toArray.size * k.toNat ≤ sizeLine := by rw [List.size_toArray, ← hl]; exact hz
  have hcap : ¬ its.toArray.size * k.toNat > (2 ^ 63 - 1) / 8 := by
    have : (sizeLine : Nat) ≤ (2 ^ 63 - 1) / 8 := by decide
    omega
  have hfit : ¬ (!Builtin.List.listFitsIndex k) = true := by
    rw [fitsIndex_both h1 h2]
    exact Bool.false_ne_true
  have hlong : ¬ Builtin.List.listTooLong (its.toArray.size * k.toNat) = true := by
    rw [notLongL hlen]
    exact Bool.false_ne_true
  have hnew : List.foldl (fun x1 x2 => x1 ++ x2) #[] (List.replicate (if its.toArray.isEmpty = true then 0 else k.toNat) its.toArray) = (List.replicate k.toNat its).flatten.toArray := by
    have f0 : ∀ m : Nat, List.foldl (fun x1 x2 => x1 ++ x2) #[] (List.replicate m its.toArray) = (List.replicate m its).flatten.toArray := fun m => by
      have := foldl_rep its m []
      rw [List.nil_append] at this
      exact this
    rw [f0]
    cases its with
    | nil => simp
    | cons a r' => rw [if_neg (by simp)]
  refine wpAny_binaryOp_repeat_ref (T := "list") (U := "int") (by decide) ⟨_, e, rfl⟩ (fun s' => typeIs_int s' k t) noFill_list_mul F.fills_int_mul F.slot_int_rmul repeat_list F.slot_int_index.lookup
    (call_meets F.slot_int_rmul (typeIs_int s k t) F.entry_int_rmul (F.args_int_rmul_2 _ _) (int___rmul___int_list k t l its.toArray n)
      ⟨e, rfl, ⟨_, e, rfl⟩, call_meets F.slot_list_mul ⟨_, e, rfl⟩ F.entry_list_mul (F.args_list_mul_2 _ _) (AutoListH.list___mul___list_int_3 l its.toArray n k t hfit hcap hlong) ⟨e, ?_⟩⟩)
  rw [hnew]
  exact ⟨.ref _, _, I.lnew (t' := s.toks) (r.rep k.toNat) (by rw [len_rep, Nat.mul_comm]; exact hz), rfl, q _ I.fresh⟩
end
section
variable {prog : Program} {w : World} {A : Around} {E : Value → Shared → Prop} {s : Shared}
end
section
variable {X : Cx}
end
end L2
namespace Att
open PySem PySem.W PySem.Calls PyProof.Rows
theorem ints_of_wellAll {P : Params} {h : Heap} : ∀ (ns : List Int) (vs : List Value), WellAll P h vs (ns.map WData.int) → IntsAre vs ns := by
  intro ns
  induction ns with
  | nil =>
    intro vs w
    rw [List.map_nil] at w
    cases w
    exact .nil
  | cons n ns ih =>
    intro vs w
    rw [List.map_cons] at w
    cases w with
    | cons a b =>
      cases a
      exact .cons _ _ (ih _ b)
theorem script_of {l : OpenLaw} {n : Nat} (hn : l.most = some n) {P : Params} {h : Heap} {args : List WData} {vals : List Value}
    (hpre : l.row.toRowW.claim.pre args = true) (hwl : WellAll P h vals args) :
    ∃ a vs ns, vals = [Value.ref a] ∧ args = [WData.list (ns.map WData.int)] ∧ h.get? a = some { cls := .type "list", data := .seq vs.toArray } ∧ IntsAre vs ns ∧ ns.length ≤ n := by
  have hsh : WShape.hasAll [] args [.list .int] = true := (pre_splitW hpre).1
  have hc : l.pre.holds [] { args := args } = true := (pre_splitW hpre).2
  obtain ⟨d, r, rfl, h1, h2⟩ := hasAllW_cons hsh
  obtain rfl := hasAllW_nil h2
  obtain ⟨xs, rfl, h3⟩ := hasW_list h1
  obtain ⟨ns, rfl⟩ := items_int h3
  have hlen : ns.length ≤ n := by
    unfold OpenLaw.pre at hc
    have h4 : (WTm.not (.lt (.lit (.int (n : Int))) (.len (.arg 0)))).holds [] { args := [.list (ns.map .int)] } = true := by
      have h4 := (holds_andW hc).1
      rw [hn] at h4
      exact h4
    have h5 := condW_of h4 (w_not (w_lt w_lit (w_len_list (w_arg rfl))))
    rw [List.length_map] at h5
    refine Nat.le_of_not_lt fun q => ?_
    have q' : (n : Int) < ((ns.length : Nat) : Int) := by omega
    first
      | (rw [decide_eq_true q'] at h5; exact absurd h5 (by decide))
      | (simp at h5; omega)
  cases hwl with
  | cons w1 w2 =>
    cases w2
    cases w1 with
    | list ho hall => exact ⟨_, _, ns, rfl, rfl, ho, ints_of_wellAll ns _ hall, hlen⟩
theorem post_true (l : OpenLaw) (args : List WData) : l.row.toRowW.claim.post args (.bool true) args = true :=
  postW_of (r := l.row.toRowW) (X := (true == true))
    (show WShape.has [] (.bool true) .bool = true by first | rfl | decide | simp [WShape.has, WShape.arms, WShape.armsAll])
    (show (WTm.eq .res (.lit (.bool true))).value [] { args := args, res := some (.bool true), after := args } = some (.bool (true == true)) from w_eq_bool (w_res rfl) w_lit) rfl
theorem lay_bits {ns : List Int} (h : WData.layableAll [WData.list (ns.map WData.int)] = true) : ∀ x ∈ ns, Builtin.Int.intBits x ≤ 1048576 := by
  have h1 : WData.layable (WData.list (ns.map WData.int)) = true := by
    have h' : (WData.layable (WData.list (ns.map WData.int)) && true) = true := h
    rwa [Bool.and_true] at h'
  unfold WData.layable at h1
  rw [Bool.and_eq_true] at h1
  have h2 := of_decide_eq_true h1.2
  have h3 : WData.weightAll (ns.map WData.int) ≤ 2 ^ 20 := by
    have e : WData.weight (WData.list (ns.map WData.int)) = WData.weightAll (ns.map WData.int) := by simp only [WData.weight]
    rwa [e] at h2
  have h4 : ∀ (l : List Int), ∀ x ∈ l, WData.weight (WData.int x) ≤ WData.weightAll (l.map WData.int) := by
    intro l
    induction l with
    | nil => intro x hx; cases hx
    | cons y r ih =>
      intro x hx
      have e : WData.weightAll ((y :: r).map WData.int) = WData.weight (WData.int y) + 1 + WData.weightAll (r.map WData.int) := by
        rw [List.map_cons]; simp only [WData.weightAll]
      rw [e]
      rcases List.mem_cons.mp hx with z | z
      · subst z; omega
      · have := ih x z; omega
  intro x hx
  have h5 := Nat.le_trans (h4 ns x hx) h3
  have e : WData.weight (WData.int x) = Builtin.Int.intBits x := by
    simp only [WData.weight]
    unfold Builtin.Int.intBits
    by_cases hz : x = 0
    · subst hz; rfl
    · have hb : (x == 0) = false := by simpa using hz
      simp [hz]
  rw [e] at h5
  exact h5
theorem attach_call {l : OpenLaw} {n : Nat} {q : Program} {loose : List Str} {XP : (Str → Option Value) → Heap → Prop} {YP : World → Heap → Prop} {d : DefRec}
    (hn : l.most = some n) (hdf : d.params.defaults = [])
    (call : ∀ (w : World) (s₀ s₁ : Shared) (mg mb : Str → Option Value) (fa : Addr) (o : Obj) (pm cd doc : Value) (a : Addr) (vs : List Value) (ns : List Int),
      Ground q loose [] XP w s₀ mg mb s₁.heap → YP w s₁.heap →
      s₁.heap.get? fa = some o → o.data = .func (docDef d.name d.params d.body d.scope pm cd doc) → s₁.heap.CodeRec cd d.name → mg d.name = some (.ref fa) →
      s₁.heap.get? a = some { cls := .type "list", data := .seq vs.toArray } → IntsAre vs ns → ns.length ≤ n → (∀ x ∈ ns, Builtin.Int.intBits x ≤ 1048576) → s₁.gens = #[] →
      codeAny (model l.prog w) callerA (.call (.ref fa) ⟨[.ref a], []⟩) (fun r s' => r = .ok (.ret (.bool true)) ∧ OldK s₁.heap s'.heap ∧ s'.os = s₁.os ∧ AllBare s'.gens) s₁) :
    WalkO q loose XP YP l.row.toRowW d [] (fun f vs => PySem.call f vs) := by
  intro w s₀ s₁ mg mb G Y fa o pm cd doc dV kV ho hd hcd hD hmg hg args vals as hpre hlay hrd hwl hlo
  obtain rfl : dV = .none := Dflts.none hD hdf
  obtain rfl : kV = .none := Dflts.noKw hD
  obtain ⟨a, vs, ns, rfl, rfl, hobj, hints, hlen⟩ := script_of hn hpre hwl
  refine enter_call (codeAny_mono (call w s₀ s₁ mg mb fa o pm cd doc a vs ns G Y ho (fd_plain hd) hcd hmg hobj hints hlen (lay_bits hlay) hg) fun r s' hq => ?_)
  obtain ⟨rfl, h2, h3, h4⟩ := hq
  exact ⟨.inl ⟨.bool true, .bool true, [], rfl, fun _ => rfl, .bool true, post_true l _, fun _ => ⟨List.Pairwise.nil, fun _ hm => (nomatch hm)⟩⟩, h2, h3, h4⟩
section
variable {prog : Program} {w : World} {A : Around} {E : Value → Shared → Prop} {s : Shared} {K : Frag}
end
end Att
namespace L2
open PySem PySem.Spec PyProof.Rows
theorem vals_ints : ∀ {vs : List Value} {ns : List Int}, IntsAre vs ns → Vals (ns.map V.int) vs
  | _, _, .nil => .nil
  | _, _, .cons n t h => .cons ⟨t, rfl⟩ (vals_ints h)
def Only (H : Hp) : Prop := ∀ b, H b = none ∨ ∃ o xs, H b = some (.frz o (.lst xs))
theorem law_call {P : Program} {w : World} {K : PySem.W.Frag} {mg mb : Str → Option Value} {CX : CXT} {k : Nat} {fa a : Addr} {fd : FuncData} {x : Str} {sp : Sp} {s₁ : Shared} {vs : List Value} {ns : List Int}
    (KX : K.In s₁.heap) (hns : s₁.heap.Ns mainGlobals mg) (hb : s₁.heap.Ns builtinsNs mb) (hbb : ∀ x : Str, x ≠ "__name__" → mb x = bootBuiltins x) (hlim : s₁.heap.NoLimit) (hsr : s₁.heap.NoSeer) (hg : s₁.gens = #[])
    (ha : s₁.heap.get? a = some { cls := .type "list", data := .seq vs.toArray }) (hi : IntsAre vs ns) (hl : ns.length ≤ sizeLine) (hr : Room k callerA)
    (F : ∀ base : Heap, K.In base → base.Ns mainGlobals mg → FnOk P w K mg base CX k fa fd [x] sp) (hbind : ∀ (s : Shared) (u : Value), BindsTo s fd ⟨[u], []⟩ [(x, u)])
    (hsp : ∀ H : Hp, Only H → SqL K H a (ns.map V.int) → sp [.ref a] H (fun v _ => v = .bl true) fun _ _ _ => False)
    (hCX : ∀ H e s', CX [] H s₁ (fun _ _ _ => False) e s' → False) :
    codeAny (model P w) callerA (.call (.ref fa) ⟨[.ref a], []⟩) (fun r s' => r = .ok (.ret (.bool true)) ∧ OldK s₁.heap s'.heap ∧ s'.os = s₁.os ∧ AllBare s'.gens) s₁ := by
  have rv := vals_ints hi
  have lenV := hi.length
  have core : ∀ H : Hp, Only H → SqL K H a (ns.map V.int) → HOk P w H s₁.heap → (∀ b, H b ≠ none → b = a) → (H a ≠ none → K.lookup a = none) →
      codeAny (model P w) callerA (.call (.ref fa) ⟨[.ref a], []⟩) (fun r s' => r = .ok (.ret (.bool true)) ∧ OldK s₁.heap s'.heap ∧ s'.os = s₁.os ∧ AllBare s'.gens) s₁ := by
    intro H hO hS hok hA hK
    have base_of : ∀ {b : Addr} {o : Obj}, s₁.heap.get? b = some o → H b = none → (hidT s₁.heap H).get? b = some o := fun e n => hidT_get e n
    have noA : ∀ {b : Addr} {o : Obj} {es : Array DictEntry} {ep : Nat}, s₁.heap.get? b = some o → o.data = .dict es ep → H b = none := fun {b o es ep} e d => by
      cases q : H b with
      | none => rfl
      | some u =>
        have e' : b = a := hA b (by rw [q]; simp)
        subst e'
        rw [ha] at e; cases e
        have d' : Data.seq vs.toArray _ = Data.dict es ep := d
        cases d'
    have nsK : ∀ {b : Addr} {m : Str → Option Value}, s₁.heap.Ns b m → (hidT s₁.heap H).Ns b m := fun {b m} ⟨o, es, ep, e, d, r⟩ => ⟨o, es, ep, base_of e (noA e d), d, r⟩
    have hKb : K.In (hidT s₁.heap H) := fun b o e => base_of (KX b o e) (by
      cases q : H b with
      | none => rfl
      | some u =>
        have e' : b = a := hA b (by rw [q]; simp)
        subst e'
        rw [hK (by rw [q]; simp)] at e; cases e)
    have noC : ∀ {b : Addr} {o : Obj}, s₁.heap.get? b = some o → o.cls ≠ .type "list" → H b = none := fun {b o} e d => by
      cases q : H b with
      | none => rfl
      | some u =>
        have e' : b = a := hA b (by rw [q]; simp)
        subst e'
        rw [ha] at e; cases e
        exact absurd rfl d
    have hSr : (hidT s₁.heap H).NoSeer := ⟨let ⟨mc, h1, h2⟩ := hsr.statics; ⟨mc, nsK h1, h2⟩, let ⟨mc, h1, h2⟩ := hsr.mods; ⟨mc, nsK h1, h2⟩, let ⟨mc, h1, h2⟩ := hsr.imp; ⟨mc, nsK h1, h2⟩,
      let ⟨mg', bm, ob, h1, h2, h3, h4, h5⟩ := hsr.main; ⟨mg', bm, ob, nsK h1, h2, base_of h3 (noC h3 (by rw [h4]; decide)), h4, h5⟩⟩
    have hM : Mod K mg (hidT s₁.heap H) := ⟨hKb, nsK hns, ⟨mb, nsK hb, hbb⟩, let ⟨mc, h1, h2⟩ := hlim; ⟨mc, nsK h1, h2⟩, hSr⟩
    have e0 : Env0 P w K mg (hidT s₁.heap H) callerA [] s₁ H := ⟨rfl, hM, fun b o e => of_hidT e, Nat.le_of_eq (hidT_size _ _), trivial, fun b hb => absurd (show b ∈ ([] : List Addr) from hb) (by simp), hok, .of_eq hg⟩
    refine codeAny_mono ((F _ hKb (nsK hns)).run callerA [] s₁ H ⟨[.ref a], []⟩ [.ref a] [.ref a] _ _ hr e0 (hbind s₁ (.ref a)) (.cons rfl .nil) (hsp H hO hS)) fun r s' h => ?_
    cases r with
    | error e => exact (hCX H e s' h).elim
    | ok fl =>
      cases fl with
      | next => exact False.elim h
      | brk => exact False.elim h
      | cont => exact False.elim h
      | ret u =>
        obtain ⟨v, H', os, bare, un, hok', r', q⟩ := h
        have q' : v = .bl true := q
        subst q'
        obtain rfl : u = Value.bool true := r'
        refine ⟨rfl, OldK.of_keep fun b o e => ?_, os, bare⟩
        cases q : H b with
        | none => exact un.keep b o e q (by intro z; exact absurd (show b ∈ ([] : List Addr) from z) (by simp)) (by simp)
        | some u =>
          rcases hO b with z | ⟨ob, xs, z⟩
          · rw [q] at z; cases z
          · have z2 := un.frzs b ob _ z
            obtain ⟨e1, _⟩ := hok b _ z
            obtain ⟨e2, _⟩ := hok' b _ z2
            rw [e] at e1; cases e1
            exact e2
  cases hk : K.lookup a with
  | some o =>
    have e := KX a o hk
    rw [ha] at e
    cases e
    refine core (fun _ => none) (fun _ => .inl rfl) (.inr ⟨_, vs.toArray, _, hk, rfl, rfl, rfl, by rw [List.size_toArray, lenV]; exact hl, by simpa using rv⟩) (fun b u z => by have z' : (none : Option HO) = some u := z; cases z') (fun b z => absurd rfl z) fun z => absurd rfl z
  | none =>
    refine core (fun b => if b = a then some (.frz { cls := .type "list", data := .seq vs.toArray } (.lst (ns.map V.int))) else none) (fun b => ?_) (.inl (.inr ⟨{ cls := .type "list", data := .seq vs.toArray }, if_pos rfl⟩)) (fun b u z => ?_) (fun b z => ?_) fun _ => hk
    · by_cases hb : b = a
      · exact .inr ⟨_, _, if_pos hb⟩
      · exact .inl (if_neg hb)
    · by_cases hb : b = a
      · have z' := (if_pos hb).symm.trans z
        cases z'
        subst hb
        exact ⟨ha, by rw [List.length_map]; exact hl, vs, _, rv, ha⟩
      · have z' := (if_neg hb).symm.trans z
        cases z'
    · by_cases hb : b = a
      · exact hb
      · exact absurd (if_neg hb) z
end L2
namespace L2
open PySem PySem.Spec PyProof.Rows
theorem walk_of {l : PySem.W.OpenLaw} {n k : Nat} {q : Program} {loose : List Str} {XP : (Str → Option Value) → Heap → Prop} {YP : World → Heap → Prop} {d : DefRec} {K : Params → PySem.W.Frag} {CX : World → CXT} {sp : World → Sp} {x : Str}
    (hn : l.most = some n) (hn2 : n ≤ sizeLine) (hdf : d.params.defaults = []) (hq : importsNone q = true) (hr : Room k callerA)
    (hY : ∀ (w : World) (h : Heap), YP w h → (K w.params).In h)
    (F : ∀ (w : World) (mg : Str → Option Value) (fa : Addr) (h : Heap), (K w.params).In h → h.Ns mainGlobals mg → mg d.name = some (.ref fa) →
      ∃ fd : FuncData, (∀ (s : Shared) (u : Value), BindsTo s fd ⟨[u], []⟩ [(x, u)]) ∧
        ∀ base : Heap, (K w.params).In base → base.Ns mainGlobals mg → FnOk l.prog w (K w.params) mg base (CX w) k fa fd [x] (sp w))
    (hsp : ∀ (w : World) (H : Hp) (a : Addr) (ns : List Int), ns.length ≤ n → (∀ x ∈ ns, Builtin.Int.intBits x ≤ 1048576) → Only H → SqL (K w.params) H a (ns.map V.int) → sp w [.ref a] H (fun v _ => v = .bl true) fun _ _ _ => False)
    (hCX : ∀ (w : World) (H : Hp) (s : Shared) (e : Value) (s' : Shared), CX w [] H s (fun _ _ _ => False) e s' → False) :
    PySem.W.WalkO q loose XP YP l.row.toRowW d [] (fun f vs => PySem.call f vs) := by
  refine Att.attach_call hn hdf fun w s₀ s₁ mg mb fa o pm cd doc a vs ns G Y ho hd hcd hmg hobj hints hlen hbt hg => ?_
  have KX := hY w _ Y
  obtain ⟨fd, hb, hF⟩ := F w mg fa _ KX G.T.g hmg
  exact law_call KX G.T.g G.T.b G.T.builtins G.T.nolimit (G.T.seer hq) hg hobj hints (Nat.le_trans hlen hn2) hr hF hb (fun H hO hS => hsp w H a ns hlen hbt hO hS) fun H e s' => hCX w H s₁ e s'
end L2
namespace L2
open PySem PySem.Spec PyProof.Rows
def defArgs (s : Stmt) : Arguments := match s with
  | .FunctionDef _ a _ _ _ _ _ _ _ _ => a
  | _ => { posonlyargs := [], args := [], vararg := none, kwonlyargs := [], kw_defaults := [], kwarg := none, defaults := [] }
def defBody (s : Stmt) : List Stmt := match s with
  | .FunctionDef _ _ b _ _ _ _ _ _ _ => b
  | _ => []
def defScope (s : Stmt) : Scope := match s with
  | .FunctionDef _ _ _ _ _ _ sc _ _ _ => sc
  | _ => { kind := .function, names := [], isGenerator := false, isCoroutine := false }
abbrev CX0 : CXT := fun _ _ _ _ _ _ => False
abbrev E0 : XK := fun _ _ _ => False
theorem pass0 {X : Cx} : Passes CX0 X E0 := fun _ _ _ _ _ _ _ h => h.elim
structure Fun (K : PySem.W.Frag) (x qual : Str) (st : Stmt) (f : Addr) (fd : FuncData) : Prop where
  ex : ∃ (oc : Value) (od : Option Addr) (kV doc pm : Value) (an : Option Addr) (cdv ct : Value) (osl : Array (Option Value)),
    fd = PySem.W.fnOf x qual (defArgs st) (defBody st) (defScope st) .none kV doc pm an cdv ct ∧ K.lookup f = some ⟨oc, od, .func fd, osl⟩ ∧ PySem.W.codeIn K cdv qual = true
  kp : PySem.W.keepIn K (.ref f) = true
section
variable {P : Program} {w : World} {K : PySem.W.Frag} {mg : Str → Option Value} {base : Heap}
theorem Fun.ok {x qual : Str} {st : Stmt} {f : Addr} {fd : FuncData} {N ps : List Str} {k : Nat} {sp : Sp} (F : Fun K x qual st f fd) (S : FnScope N ps (defScope st)) (len : ∀ vs H Q E, sp vs H Q E → vs.length = ps.length)
    (hbody : ∀ (cdv : Value) (A : Around) (outer : List Env) (s : Shared) (H : Hp) (vs : List V) (Q : VK) (E : XK), Room k (A.deeper (envOfC qual (defScope st) s.heap.objs.size f cdv)) → sp vs H Q E →
      ∃ t, PSs (cxOf CX0 P w K mg base N qual (defScope st) f cdv A outer s H E).nox (defBody st) t ∧ t { nx := fun _ H' => Q .non H', rt := Q } (start N vs) H) : FnOk P w K mg base CX0 (k + 1) f fd ps sp := by
  obtain ⟨oc, od, kV, doc, pm, an, cdv, ct, osl, rfl, lk, hcd⟩ := F.ex
  refine fn_of lk hcd S len fun A outer s H vs Q E hr hsp => ?_
  obtain ⟨t, h, q⟩ := hbody cdv A outer s H vs Q E hr hsp
  exact ⟨t, h.nox, q⟩
theorem Fun.binds {x qual : Str} {st : Stmt} {f : Addr} {fd : FuncData} {ps : List Str} (F : Fun K x qual st f fd)
    (h : ∀ (kV doc pm : Value) (an : Option Addr) (cdv ct : Value) (us : List Value), us.length = ps.length → bindArgs (PySem.W.fnOf x qual (defArgs st) (defBody st) (defScope st) .none kV doc pm an cdv ct) ⟨us, []⟩ = pure (ps.zip us)) : Binds K fd ps [] := by
  obtain ⟨oc, od, kV, doc, pm, an, cdv, ct, osl, rfl, lk, hcd⟩ := F.ex
  exact .all (h kV doc pm an cdv ct)
theorem fun_mk {x qual : Str} {st : Stmt} {f : Addr} {oc : Value} {od an : Option Addr} {osl : Array (Option Value)} {kV doc pm cdv ct : Value} (l : K.lookup f = some ⟨oc, od, .func (PySem.W.fnOf x qual (defArgs st) (defBody st) (defScope st) .none kV doc pm an cdv ct), osl⟩)
    (c : PySem.W.codeIn K cdv qual = true) (k : PySem.W.keepIn K (.ref f) = true) : Fun K x qual st f (PySem.W.fnOf x qual (defArgs st) (defBody st) (defScope st) .none kV doc pm an cdv ct) := ⟨⟨oc, od, kV, doc, pm, an, cdv, ct, osl, rfl, l, c⟩, k⟩
end
theorem small1000 {n : Nat} (h : n ≤ 1000) : n < sizeLine := Nat.lt_of_le_of_lt h (by decide)
section
variable {X : Cx}
theorem pv (i : Nat) {x : Str} {pos : Pos} (hN : X.N[i]? = some x := by rfl) (hv : Vis X.env.scope x := by first | exact Or.inl rfl | exact Or.inr (Or.inl rfl) | exact Or.inr (Or.inr rfl)) (hd : (x == ("__debug__" : Str)) = false := by decide)
    (hcd : (x == ("__classdict__" : Str)) = false := by decide) : PE X (.Name x pos) (tVar i) := pe_var hN hv hd hcd
end
theorem iteF {A B : Prop} (h : B) : if false = true then A else B := by
  rw [if_neg Bool.false_ne_true]
  exact h
theorem iteT {A B : Prop} (h : A) : if true = true then A else B := by
  rw [if_pos rfl]
  exact h
theorem ite2 {c A B : Prop} [Decidable c] (h1 : c → A) (h2 : ¬ c → B) : if c then A else B := by
  by_cases h : c
  · rw [if_pos h]
    exact h1 h
  · rw [if_neg h]
    exact h2 h
theorem iteNS {c A B : Prop} [Decidable c] (hc : c) (h : B) : if (!decide c) = true then A else B := by
  rw [decide_eq_true hc]
  exact iteF h
def Same (H H' : Hp) : Prop := ∀ b o, H b = some o → H' b = some o
theorem Same.refl (H : Hp) : Same H H := fun _ _ h => h
theorem Same.trans {H H1 H2 : Hp} (a : Same H H1) (b : Same H1 H2) : Same H H2 := fun c o h => b c o (a c o h)
theorem Same.free {H H' : Hp} (e : Same H H') {l : Addr} (h : H' l = Option.none) : H l = Option.none := by
  cases q : H l with
  | none => rfl
  | some o =>
    rw [e l o q] at h
    cases h
theorem Same.seq {K : PySem.W.Frag} {H H' : Hp} {a : Addr} {xs : List V} (e : Same H H') (h : SqL K H a xs) : SqL K H' a xs := by
  rcases h with (h | ⟨o, h⟩) | h
  · exact .inl (.inl (e _ _ h))
  · exact .inl (.inr ⟨o, e _ _ h⟩)
  · exact .inr h
end L2
namespace L2
open PySem PySem.Spec PyProof.Rows
section
variable {X : Cx}
def rAddI : R2 := fun x y H Q => ∃ i j, x = .int i ∧ y = .int j ∧ Q (.int (i + j)) H
def rSubI : R2 := fun x y H Q => ∃ i j, x = .int i ∧ y = .int j ∧ Q (.int (i - j)) H
theorem op_addI : OpR X (binaryOp .Add) rAddI := op_add
theorem op_subI : OpR X (binaryOp .Sub) rSubI := op_sub
def CMulB (i j : Int) : Prop := ∃ m n : Nat, Builtin.Int.intBits i ≤ m ∧ Builtin.Int.intBits j ≤ n ∧ m + n ≤ 134217728
def rMulB : R2 := fun x y H Q => ∃ i j, x = .int i ∧ y = .int j ∧ CMulB i j ∧ Q (.int (i * j)) H
theorem op_mulB : OpR X (binaryOp .Mult) rMulB := opI (C := CMulB) (g := fun i j => i * j) fun _ _ _ _ _ _ _ hc q => by
  obtain ⟨m, n, h1, h2, h3⟩ := hc
  exact mul_int q (IntMulOk.of_le h1 h2 h3)
def CDivB (j : Int) : Prop := 0 < j ∧ Builtin.Int.intBits j ≤ 9000
def rDivB : R2 := fun x y H Q => ∃ i j, x = .int i ∧ y = .int j ∧ CDivB j ∧ Q (.int (i / j)) H
theorem op_fdivB : OpR X (binaryOp .FloorDiv) rDivB := opI (C := fun _ j => CDivB j) (g := fun i j => i / j) fun i j _ _ _ _ _ hc q => by
  have h1 : (0 : Int) < j := hc.1
  have h3 : j.natAbs.log2 < 9000 := (Nat.log2_lt (by omega)).mpr (intBits_le_iff.mp hc.2)
  exact floordiv_int (by omega) (by rw [Int.fdiv_eq_ediv_of_nonneg i (by omega)]; exact q) (.inl (PyProof.noPylong_of_log2 h3))
def rModB : R2 := fun x y H Q => ∃ i j, x = .int i ∧ y = .int j ∧ 0 < j ∧ Q (.int (i % j)) H
theorem op_modB : OpR X (binaryOp .Mod) rModB := op_mod
def rPowB : R2 := fun x y H Q => ∃ i j, x = .int i ∧ y = .int j ∧ CPow i j ∧ Q (.int (i ^ j.toNat)) H
theorem op_powB : OpR X (binaryOp .Pow) rPowB := op_pow
def rShlB : R2 := fun x y H Q => ∃ i j, x = .int i ∧ y = .int j ∧ CPow i j ∧ Q (.int (i * 2 ^ j.toNat)) H
theorem op_shlB : OpR X (binaryOp .LShift) rShlB := op_shl
def rLtI : R2 := fun x y H Q => ∃ i j, x = .int i ∧ y = .int j ∧ Q (.bl (decide (i < j))) H
def rGtI : R2 := fun x y H Q => ∃ i j, x = .int i ∧ y = .int j ∧ Q (.bl (decide (j < i))) H
def rGeI : R2 := fun x y H Q => ∃ i j, x = .int i ∧ y = .int j ∧ Q (.bl (decide (j ≤ i))) H
def rEqI : R2 := fun x y H Q => ∃ i j : Int, x = .int i ∧ y = .int j ∧ Q (.bl (decide (i = j))) H
def rNeI : R2 := fun x y H Q => ∃ i j : Int, x = .int i ∧ y = .int j ∧ Q (.bl (!decide (i = j))) H
theorem op_ltI : OpR X (compareOp .Lt) rLtI := op_lt
theorem op_gtI : OpR X (compareOp .Gt) rGtI := op_gt
theorem op_geI : OpR X (compareOp .GtE) rGeI := op_ge
theorem op_eqI : OpR X (compareOp .Eq) rEqI := by
  intro pins s σ H x y v u Q I rx ry h
  obtain ⟨i, j, rfl, rfl, q⟩ := h
  refine op_eq pins s σ H _ _ v u Q I rx ry ⟨rfl, ?_⟩
  have e : decide (V.int i = V.int j) = decide (i = j) := decide_eq_decide.mpr ⟨fun z => V.int.inj z, fun z => by rw [z]⟩
  rw [e]; exact q
theorem op_neI : OpR X (compareOp .NotEq) rNeI := by
  intro pins s σ H x y v u Q I rx ry h
  obtain ⟨i, j, rfl, rfl, q⟩ := h
  refine op_ne pins s σ H _ _ v u Q I rx ry ⟨rfl, ?_⟩
  have e : decide (V.int i = V.int j) = decide (i = j) := decide_eq_decide.mpr ⟨fun z => V.int.inj z, fun z => by rw [z]⟩
  rw [e]; exact q
def PylOk (X : Cx) : Prop := ∀ (pins : List (Addr × Obj)) (σ : St) (H : Hp) (s : Shared), Inv X pins σ H s → PylongRoom (model X.prog X.w) X.A s
def rDivP : R2 := fun x y H Q => ∃ i j, x = .int i ∧ y = .int j ∧ 0 < j ∧ Q (.int (i / j)) H
theorem op_fdivP (hp : PylOk X) : OpR X (binaryOp .FloorDiv) rDivP := by
  intro pins s σ H x y v u Q I rx ry h
  obtain ⟨i, j, rfl, rfl, hj, q⟩ := h
  obtain ⟨t, rfl⟩ := rx
  obtain ⟨t', rfl⟩ := ry
  refine floordiv_int (by omega) ?_ (.inr (hp pins σ H s I))
  rw [Int.fdiv_eq_ediv_of_nonneg i (by omega)]
  exact ⟨.int (i / j), H, I.tok _, ⟨_, rfl⟩, q⟩
theorem pyl_ok {CX : CXT} {P : Program} {w : World} {K : PySem.W.Frag} {mg : Str → Option Value} {base : Heap} {N ps : List Str} {qual : Str} {scope : Scope} {f : Addr} {cdv : Value} {A : Around} {outer : List Env} {s : Shared} {H : Hp} {E : XK}
    (hP : P.given.tree = none) (S : FnScope N ps scope) (hr : Room 35 (A.deeper (envOfC qual scope s.heap.objs.size f cdv))) : PylOk ((cxOf CX P w K mg base N qual scope f cdv A outer s H E).nox) := by
  intro pins σ H' s' I
  have I' := I.unwish
  refine PylongRoom.of I'.nolimit ?_ (SeerAt.of (I'.mod.seer.keeps I'.bk) hP I'.ok.frames S.gen S.co rfl rfl)
  have := hr.dp
  show (A.deeper (envOfC qual scope s.heap.objs.size f cdv)).depth + 100 < _
  omega
theorem mt_bit_length : MtR X "int.bit_length" (fun x vs H Q => ∃ i, x = .int i ∧ vs = [] ∧ Q (.int (Builtin.Int.intBits i : Nat)) H) := by
  intro pins s σ H x xs v us Q I rx rv h
  obtain ⟨i, rfl, rfl, q⟩ := h
  obtain ⟨t, rfl⟩ := rx
  cases rv
  exact call_int_bit_length ⟨.int _, H, I.tok _, ⟨_, rfl⟩, q⟩
theorem call_isinst : CallR X (.builtin "isinstance") (fun xs H Q => ∃ x n t b, xs = [x, .ty n] ∧ TyOf X.K H x t ∧ PySem.W.kitOne X.K t (.type n) = some b ∧ Q (.bl b) H) := by
  intro pins s σ H xs us Q I r h
  obtain ⟨x, n, t, b, rfl, ty, e, q⟩ := h
  obtain ⟨u, c, rfl, rx, rc⟩ := vals2 r
  cases (show c = Value.type n from rc)
  exact isinst_ok I rx ty e fun tk => ⟨.bl b, H, I.tok tk, rfl, q⟩
end
theorem kit_int_int (K : PySem.W.Frag) : PySem.W.kitOne K (.type "int") (.type "int") = some true := by with_unfolding_all rfl
theorem kit_int_bool (K : PySem.W.Frag) : PySem.W.kitOne K (.type "int") (.type "bool") = some false := by with_unfolding_all rfl
def Def (K : PySem.W.Frag) (mg : Str → Option Value) (x : Str) (st : Stmt) (ps : List Str) : Prop :=
  ∃ f fd, Fun K x x st f fd ∧ Binds K fd ps [] ∧ mg x = some (.ref f)
def Fn (P : Program) (w : World) (K : PySem.W.Frag) (mg : Str → Option Value) (base : Heap) (k : Nat) (x : Str) (ps : List Str) (sp : Sp) : Prop :=
  ∃ f fd, FnOk P w K mg base CX0 k f fd ps sp ∧ PySem.W.keepIn K (.ref f) = true ∧ Binds K fd ps [] ∧ mg x = some (.ref f)
section
variable {P : Program} {w : World} {K : PySem.W.Frag} {mg : Str → Option Value} {base : Heap}
theorem Def.fn {x : Str} {st : Stmt} {N ps : List Str} {k : Nat} {sp : Sp} (D : Def K mg x st ps) (S : FnScope N ps (defScope st)) (len : ∀ vs H Q E, sp vs H Q E → vs.length = ps.length)
    (hbody : ∀ (f : Addr) (cdv : Value) (A : Around) (outer : List Env) (s : Shared) (H : Hp) (vs : List V) (Q : VK) (E : XK), Room k (A.deeper (envOfC x (defScope st) s.heap.objs.size f cdv)) → sp vs H Q E →
      ∃ t, PSs (cxOf CX0 P w K mg base N x (defScope st) f cdv A outer s H E).nox (defBody st) t ∧ t { nx := fun _ H' => Q .non H', rt := Q } (start N vs) H) : Fn P w K mg base (k + 1) x ps sp := by
  obtain ⟨f, fd, F, b, m⟩ := D
  exact ⟨f, fd, F.ok S len (fun cdv A outer s H vs Q E hr h => hbody f cdv A outer s H vs Q E hr h), F.kp, b, m⟩
theorem Fn.mono {j k : Nat} {x : Str} {ps : List Str} {sp : Sp} (F : Fn P w K mg base j x ps sp) (h : j ≤ k) : Fn P w K mg base k x ps sp := by
  obtain ⟨f, fd, F, r⟩ := F
  exact ⟨f, fd, F.mono h, r⟩
theorem Fn.imp {k : Nat} {x : Str} {ps : List Str} {sp sp' : Sp} (F : Fn P w K mg base k x ps sp) (h : ∀ vs H Q E, sp' vs H Q E → sp vs H Q E) : Fn P w K mg base k x ps sp' := by
  obtain ⟨f, fd, F, r⟩ := F
  exact ⟨f, fd, F.imp h, r⟩
end
section
variable {X : Cx} {k : Nat} {x : Str} {ps : List Str} {sp : Sp} {p pos : Pos} {e : Expr} {es : List Expr} {t : TA}
def tFn (sp : Sp) (t : TA) : TE := fun σ H Q => t σ H fun vs H1 => sp vs H1 Q E0
theorem pe_fn (F : Fn X.prog X.w X.K X.mg X.base k x ps sp) (hr : Room k X.A) (hg : Gl X x) (ha : PA X (e :: es) t) (hdb : (x == ("__debug__" : Str)) = false := by decide)
    (he : starEach (e :: es) X.env = (false, eval e X.env) :: starEach es X.env := by rfl) (hpl : (backTo pos (starEach es X.env)).any (·.1) = false := by rfl) :
    PE X (.Call (.Name x p) (e :: es) [] pos) (tFn sp t) := by
  obtain ⟨f, fd, F, kp, b, m⟩ := F
  have h := pe_call (p := p) (pos := pos) (dvs := []) (ds := []) F hr hg m kp b .nil pass0 ha hdb he hpl
  intro pins s σ H Q I q
  refine h pins s σ H Q I ?_
  show t σ H fun vs H1 => sp (vs ++ []) H1 Q E0
  have q' : t σ H fun vs H1 => sp vs H1 Q E0 := q
  simpa only [List.append_nil] using q'
end
theorem ifD {c A B : Prop} [Decidable c] (h1 : c → A) (h2 : ¬ c → B) : if decide c = true then A else B := by
  by_cases h : c
  · rw [if_pos (decide_eq_true h)]; exact h1 h
  · rw [if_neg (fun z => h (of_decide_eq_true z))]; exact h2 h
theorem ifF {c A B : Prop} [Decidable c] (h : ¬ c) (b : B) : if decide c = true then A else B := ifD (fun z => absurd z h) (fun _ => b)
theorem b_isinstance : bootBuiltins "isinstance" = some (.builtin "isinstance") := by decide +kernel
theorem b_int : bootBuiltins "int" = some (.type "int") := by decide +kernel
theorem b_bool : bootBuiltins "bool" = some (.type "bool") := by decide +kernel
theorem b_list : bootBuiltins "list" = some (.type "list") := by decide +kernel
theorem b_len : bootBuiltins "len" = some (.builtin "len") := by decide +kernel
theorem b_min : bootBuiltins "min" = some (.builtin "min") := by decide +kernel
theorem b_sorted : bootBuiltins "sorted" = some (.builtin "sorted") := by decide +kernel
theorem b_all : bootBuiltins "all" = some (.builtin "all") := by decide +kernel
theorem b_enumerate : bootBuiltins "enumerate" = some (.type "enumerate") := by decide +kernel
theorem at2 {α : Type} (a b : α) {i : Int} (h0 : 0 ≤ i) (h1 : i < 2) : ∃ v, atI [a, b] i = some v ∧ (v = a ∨ v = b) := by
  rcases (by omega : i = 0 ∨ i = 1) with rfl | rfl
  · exact ⟨a, rfl, .inl rfl⟩
  · exact ⟨b, rfl, .inr rfl⟩
theorem at3 {α : Type} (a b c : α) {i : Int} (h0 : 0 ≤ i) (h1 : i < 3) : ∃ v, atI [a, b, c] i = some v ∧ (v = a ∨ v = b ∨ v = c) := by
  rcases (by omega : i = 0 ∨ i = 1 ∨ i = 2) with rfl | rfl | rfl
  · exact ⟨a, rfl, .inl rfl⟩
  · exact ⟨b, rfl, .inr (.inl rfl)⟩
  · exact ⟨c, rfl, .inr (.inr rfl)⟩
theorem Same.put {H H' : Hp} {p : Addr} {o : HO} (s : Same H H') (h : H' p = Option.none) : Same H (upd H' p o) := fun b u e => by
  have e' := s b u e
  rw [upd_ne (ne_of_none e' h)]
  exact e'
theorem Same.new {H : Hp} {p : Addr} {o : HO} (h : H p = Option.none) : Same H (upd H p o) := (Same.refl H).put h
end L2
namespace L2
open PySem PySem.Spec PyProof.Rows
def Itr3 (lo c : Int) (n : Nat) : It := ⟨fun i _ => i < n, fun i H x H' => H' = H ∧ x = .int (lo + i * c), fun i _ => n ≤ i⟩
theorem turn_range3 {P : Program} {w : World} {K : PySem.W.Frag} {tg : Expr} (it : Addr) (lo c : Int) (n : Nat) : Turn P w K tg (Itr3 lo c n) [it] it (fun i h => IsRangeIter h it (lo + (i : Nat) * c) ((n : Int) - (i : Nat)) c) where
  mem := by simp
  obj := fun i h st b hb => by
    have e : b = it := by simpa using hb
    subst e
    exact ⟨_, st, fun v z => by
      have z' : Data.fields _ = Data.cell v := z
      cases z'⟩
  keep := fun i h h' st k => k it (by simp) _ st
  item := by
    intro X hP hw hK hc i pins s σ H E I hf st hg
    subst hP hw hK
    obtain ⟨f0, f1, f2, f3, f4, f5⟩ := hf it (by simp)
    have W := Walks.range (prog := X.prog) (w := X.w) (I.ok.hd hc) it lo c n
    refine W.item i s _ _ hg st fun v h' tk hv st' kk => ?_
    obtain ⟨t, rfl⟩ := hv
    have I1 : Inv X pins σ H { s with heap := h', toks := tk } := I.turned (fun b o hb e => kk b o (by simpa using hb) e) f0 f1 f3 f4 f5
    exact ⟨_, rfl, go_of (s := { s with heap := h', toks := tk }) (n := "range_iterator") st' rfl rfl (by decide) ⟨.int (lo + i * c), H, I1, ⟨t, rfl⟩, ⟨rfl, rfl⟩, st', fun b hb => (hf b hb).1⟩⟩
  done := by
    intro X hP hw hK hc i pins s σ H E I hf st hg
    subst hP hw hK
    obtain ⟨f0, f1, f2, f3, f4, f5⟩ := hf it (by simp)
    exact wpAny_pyNext_range_end (I.ok.hd hc) st (by have : n ≤ i := hg; omega) fun h' eb => ⟨rfl, I.turned (t' := s.toks) (fun b o hb e => eb b o hb e) f0 f1 f3 f4 f5⟩
  self := fun _ _ _ _ _ st h => wpAny_pyIter_rangeiter st h
section
variable {X : Cx} {tg : Expr}
def iRng3 (ta : TA) : TI := fun σ H R => ta σ H fun vs H1 => ∃ (i j c : Int) (n : Nat), vs = [.int i, .int j, .int c] ∧ (c ≠ 0 ∧ c.natAbs < 1073741824 ∧ Builtin.Range.small i j c = true ∧ Builtin.Range.rangeSize i j c = (n : Int)) ∧ R (Itr3 i c n) H1
theorem pi_range3 {a b c : Expr} {ta : TA} {p pos : Pos} (hg : Gl X "range") (hm : X.mg "range" = none) (ha : PA X [a, b, c] ta) (hs : starEach [a, b, c] X.env = (false, eval a X.env) :: starEach [b, c] X.env := by rfl) (hs2 : (backTo pos (starEach [b, c] X.env)).any (·.1) = false := by rfl) :
    PI X tg (.Call (.Name "range" p) [a, b, c] [] pos) (iRng3 ta) := by
  intro pins s σ H R I h
  refine Call_ (ld_blt I hg hm boot_range (PyProof.Rows.callWith_type1 (thn (ha pos pins s σ H _ I h) fun us s1 ⟨vs, H1, I1, r1, q1⟩ => ?_) hs hs2))
  obtain ⟨i, j, k, n, e, ⟨q1, q2, q3, q4⟩, q⟩ := q1
  subst e
  cases r1 with
  | cons r rr =>
    cases rr with
    | cons r' rr =>
      cases rr with
      | cons r'' rr =>
        cases rr
        obtain ⟨t, rfl⟩ := r
        obtain ⟨t', rfl⟩ := r'
        obtain ⟨t'', rfl⟩ := r''
        refine call_range_3 q1 ?_ (.inl (PyProof.noPylong_small q2))
        refine wpAny_pyIter_range (IsRange.new ..) q3 ?_
        have I2 : Inv X pins σ H1 { s1 with heap := s1.heap.push { cls := .type "range", data := .fields #[.int i t, .int j t', .int k t''] }, toks := s1.toks } := I1.kept fun b o e => Heap.get?_push_of_some _ e
        refine ⟨(s1.heap.push { cls := .type "range", data := .fields #[.int i t, .int j t', .int k t''] }).objs.size, [(s1.heap.push { cls := .type "range", data := .fields #[.int i t, .int j t', .int k t''] }).objs.size], _, _, H1, rfl,
          I2.kept (t' := s1.toks) fun b o e => Heap.get?_push_of_some _ e, turn_range3 _ i k n, ?_, fun b hb => ?_, q⟩
        · have e1 : i + ((0 : Nat) : Int) * k = i := by simp
          have e2 : ((n : Nat) : Int) - ((0 : Nat) : Int) = Builtin.Range.rangeSize i j k := by rw [q4]; simp
          show IsRangeIter _ _ (i + ((0 : Nat) : Int) * k) (((n : Nat) : Int) - ((0 : Nat) : Int)) k
          rw [e1, e2]
          exact Heap.get?_push_size _ rfl
        · have e : b = (s1.heap.push { cls := .type "range", data := .fields #[.int i t, .int j t', .int k t''] }).objs.size := by simpa using hb
          subst e
          exact I2.fpOk (Nat.le_refl _) (I2.hok.fresh (Nat.le_refl _))
end
theorem for_range3 {lo c : Int} {n : Nat} {g : TG} {tb : TS} {D : Ends} {σ : St} {H : Hp} (Pv : Nat → St → Hp → Prop) (h0 : Pv 0 σ H)
    (hs : ∀ i σ H, i < n → Pv i σ H → g (.int (lo + i * c)) σ H fun σ2 H2 => tb { D with nx := Pv (i + 1), ct := Pv (i + 1), bk := D.nx } σ2 H2) (hd : ∀ σ H, Pv n σ H → D.nx σ H) :
    ∃ W : Nat → Nat → St → Hp → Prop, (∃ m, W 0 m σ H) ∧ ∀ i m σ H, W i m σ H →
      ((Itr3 lo c n).stop i H ∧ D.nx σ H) ∨ ((Itr3 lo c n).go i H ∧ ∃ N : St → Hp → Prop, (∀ σ' H', N σ' H' → ∃ m', m' < m ∧ W (i + 1) m' σ' H') ∧ ∀ x H', (Itr3 lo c n).yld i H x H' → g x σ H' fun σ2 H2 => tb { D with nx := N, ct := N, bk := D.nx } σ2 H2) := by
  refine ⟨fun i m σ H => m = n - i ∧ i ≤ n ∧ Pv i σ H, ⟨n, by simp, Nat.zero_le _, h0⟩, ?_⟩
  rintro i m σ H ⟨rfl, hi, p⟩
  by_cases hlt : i < n
  · refine .inr ⟨hlt, Pv (i + 1), fun σ' H' p' => ⟨n - (i + 1), by omega, rfl, hlt, p'⟩, fun x H' y => ?_⟩
    obtain ⟨e, y⟩ := y
    subst e y
    exact hs i σ _ hlt p
  · have e : i = n := by omega
    subst e
    exact .inl ⟨Nat.le_refl _, hd σ H p⟩
end L2
namespace L2
open PySem PySem.Spec PyProof.Rows
def clOf (env : Env) : List (Str × NameKind) → List (Str × Addr) → List (Str × Addr)
  | [], acc => acc
  | (n, k) :: r, acc => if k == .free then clOf env r ((n, (env.cells.lookup n).getD 0) :: acc) else clOf env r acc
theorem closure_eq {scope : Scope} {env : Env} (h : ∀ p ∈ scope.names, p.2 = .free → ∃ c, env.cells.lookup p.1 = some c) : closureFor scope env = pure (clOf env scope.names []) := by
  unfold closureFor
  have key : ∀ (names : List (Str × NameKind)) (acc : List (Str × Addr)), (∀ p ∈ names, p.2 = .free → ∃ c, env.cells.lookup p.1 = some c) →
      (forIn names acc (fun (x : Str × NameKind) (cs : List (Str × Addr)) => match x with
        | (name, kind) => if (kind == NameKind.free) = true then (cellOf env name >>= fun c => pure (ForInStep.yield ((name, c) :: cs))) else pure (ForInStep.yield cs)) : Sem (List (Str × Addr))) = pure (clOf env names acc) := by
    intro names
    induction names with
    | nil => intro acc _; rfl
    | cons p r ih =>
      intro acc hp
      obtain ⟨n, k⟩ := p
      have hr : ∀ p ∈ r, p.2 = .free → ∃ c, env.cells.lookup p.1 = some c := fun p hm => hp p (List.mem_cons_of_mem _ hm)
      rw [List.forIn_cons]
      by_cases hk : k = .free
      · subst hk
        obtain ⟨c, hc⟩ := hp (n, .free) List.mem_cons_self rfl
        have hc : env.cells.lookup n = some c := hc
        have e1 : cellOf env n = pure c := by unfold cellOf; rw [hc]
        have e2 : clOf env ((n, .free) :: r) acc = clOf env r ((n, c) :: acc) := by
          show clOf env r ((n, (env.cells.lookup n).getD 0) :: acc) = _
          rw [hc]; rfl
        simp only [beq_self_eq_true, if_true, e1, pure_bind]
        rw [e2]
        exact ih _ hr
      · have hb : (k == NameKind.free) = false := by simpa using hk
        have e2 : clOf env ((n, k) :: r) acc = clOf env r acc := by
          show (if (k == NameKind.free) = true then clOf env r ((n, (env.cells.lookup n).getD 0) :: acc) else clOf env r acc) = _
          rw [hb]; rfl
        simp only [hb, Bool.false_eq_true, if_false, pure_bind]
        rw [e2]
        exact ih _ hr
  have k0 := key scope.names [] h
  show (forIn scope.names ([] : List (Str × Addr)) _ >>= fun r => pure r) = _
  refine Eq.trans (congrArg (fun m => m >>= fun r => pure r) k0) ?_
  rfl
theorem clOf_look {env : Env} : ∀ {names : List (Str × NameKind)} {acc : List (Str × Addr)}, (∀ p ∈ names, p.2 = .free → ∃ c, env.cells.lookup p.1 = some c) → (∀ x c, acc.lookup x = some c → env.cells.lookup x = some c) →
    ∀ x c, (clOf env names acc).lookup x = some c → env.cells.lookup x = some c
  | [], _, _, ha, x, c, h => ha x c h
  | (n, k) :: r, acc, hp, ha, x, c, h => by
    have hr : ∀ p ∈ r, p.2 = .free → ∃ c, env.cells.lookup p.1 = some c := fun p hm => hp p (List.mem_cons_of_mem _ hm)
    by_cases hk : k = .free
    · subst hk
      obtain ⟨d, hd⟩ := hp (n, .free) List.mem_cons_self rfl
      have hd : env.cells.lookup n = some d := hd
      have e2 : clOf env ((n, .free) :: r) acc = clOf env r ((n, d) :: acc) := by
        show clOf env r ((n, (env.cells.lookup n).getD 0) :: acc) = _
        rw [hd]; rfl
      rw [e2] at h
      refine clOf_look hr (fun y e hy => ?_) x c h
      rw [List.lookup_cons] at hy
      cases hyn : y == n with
      | true => rw [hyn] at hy; cases hy; rw [beq_iff_eq.mp hyn]; exact hd
      | false => rw [hyn] at hy; exact ha y e hy
    · have hb : (k == NameKind.free) = false := by simpa using hk
      have e2 : clOf env ((n, k) :: r) acc = clOf env r acc := by
        show (if (k == NameKind.free) = true then clOf env r ((n, (env.cells.lookup n).getD 0) :: acc) else clOf env r acc) = _
        rw [hb]; rfl
      rw [e2] at h
      exact clOf_look hr ha x c h
theorem clOf_has {env : Env} : ∀ {names : List (Str × NameKind)} {acc : List (Str × Addr)} {x : Str}, ((x, NameKind.free) ∈ names ∨ ∃ c, acc.lookup x = some c) → ∃ c, (clOf env names acc).lookup x = some c
  | [], _, _, h => h.elim (fun z => nomatch z) id
  | (n, k) :: r, acc, x, h => by
    by_cases hk : k = .free
    · subst hk
      show ∃ c, (clOf env r ((n, (env.cells.lookup n).getD 0) :: acc)).lookup x = some c
      refine clOf_has ?_
      by_cases hx : x = n
      · subst hx; exact .inr ⟨_, by rw [List.lookup_cons, beq_self_eq_true]⟩
      · rcases h with h | ⟨c, h⟩
        · rcases List.mem_cons.mp h with e | e
          · cases e; exact absurd rfl hx
          · exact .inl e
        · exact .inr ⟨c, by rw [List.lookup_cons, beq_eq_false_iff_ne.mpr hx]; exact h⟩
    · have hb : (k == NameKind.free) = false := by simpa using hk
      have e2 : clOf env ((n, k) :: r) acc = clOf env r acc := by
        show (if (k == NameKind.free) = true then clOf env r ((n, (env.cells.lookup n).getD 0) :: acc) else clOf env r acc) = _
        rw [hb]; rfl
      rw [e2]
      refine clOf_has ?_
      rcases h with h | h
      · rcases List.mem_cons.mp h with e | e
        · cases e; exact absurd rfl hk
        · exact .inl e
      · exact .inr h
section
variable {prog : Program} {w : World} {A : Around}
theorem codeAny_compLoop_gen {elt target iter : Expr} {ifs : List Expr} {scope : Scope} {pos : Pos} {it acc : Value} {env : Env} {s : Shared} {R : Result → Shared → Prop} (I : Nat → Shared → Prop)
    (turn : ∀ n s, I n s → wpAny (model prog w) A (pyNext it) (fun r s₁ => match r with
      | none => R (.ok .next) s₁
      | some v => wpAny (model prog w) A (letOwnedTupleGo target it v) (fun _ s₁' => wpAny (model prog w) A (assign target env v) (fun _ s₂ =>
          wpAny (model prog w) A (forIn ifs true fun c r => if r = true then do let ok ← isTrue c env (eval c env); pure (ForInStep.yield ok) else pure (ForInStep.yield r)) (fun ok s₃ =>
            if ok = true then wpAny (model prog w) A (eval elt env) (fun x s₄ => wpAny (model prog w) A (call (.builtin "list.append") [acc, x]) (fun _ s₅ => ∃ m, m < n ∧ I m s₅) (fun _ _ => False) s₄) (fun _ _ => False) s₃
            else ∃ m, m < n ∧ I m s₃) (fun _ _ => False) s₂) (fun _ _ => False) s₁') (fun _ _ => False) s₁) (fun _ _ => False) s)
    (n : Nat) (h : I n s) : codeAny (model prog w) A (.compLoop (.ListComp elt [⟨target, iter, ifs, 0⟩] scope pos) 0 it acc env) R s := by
  refine codeAny_loop rfl I (fun n s hI => ?_) n h
  show wpAny _ A ((compTurn (.ListComp elt [⟨target, iter, ifs, 0⟩] scope pos) 0 it acc env).onRaise (fun x => do noteFrame x env; theTreesLotGoes x)) _ _ s
  refine wpAny_noted ?_
  rw [compTurn_list]
  refine wpAny_bind (wpAny_standAt (wpAny_bind (wpAny_mono (turn n s hI) (fun r s₁ h₁ => ?_) fun _ _ h' => h'.elim)))
  cases r with
  | none => exact wpAny_pure h₁
  | some v =>
    refine wpAny_bind (wpAny_mono h₁ (fun _ s₁' h₁' => ?_) fun _ _ h' => h'.elim)
    refine wpAny_bind (wpAny_mono h₁' (fun _ s₂ h₂ => wpAny_bind (wpAny_mono h₂ (fun ok s₃ h₃ => ?_) fun _ _ h' => h'.elim)) fun _ _ h' => h'.elim)
    cases ok with
    | false => exact wpAny_pure ⟨rfl, h₃⟩
    | true => exact wpAny_bind (wpAny_bind (wpAny_mono h₃ (fun x s₄ h₄ => wpAny_bind (wpAny_mono h₄ (fun _ s₅ h₅ => wpAny_pure (wpAny_pure ⟨rfl, h₅⟩)) fun _ _ h' => h'.elim)) fun _ _ h' => h'.elim))
end
abbrev blockCx (X : Cx) (pins : List (Addr × Obj)) (N : List Str) (scope : Scope) (C : Addr) (sF : Shared) (HF : Hp) (fp : List Addr) : Cx where
  prog := X.prog
  w := X.w
  K := X.K
  mg := X.mg
  base := X.base
  A := X.A
  N := N
  s₀ := sF
  H₀ := HF
  env := compEnvC scope (clOf X.env scope.names []) C X.env
  outer := X.stack
  stack := X.stack
  ex := fp
  fn := fun _ => false
  calm := X.calm
  pn := X.pn ++ pins
  xe := fun _ _ => False
def blockSt (own : Nat) (ix : List Nat) (σ : St) : St := List.replicate own none ++ ix.map fun i => (σ[i]?).getD none
def CompGo (J : It) (own : Nat) (ix : List Nat) (g : TG) (tt : TT) (te : TE) (σ : St) (H1 : Hp) (acc : Addr) (Q : VK) : Prop :=
  ∃ W : Nat → Nat → List V → Hp → Prop, (∃ m, W 0 m [] (upd H1 acc (.lst []))) ∧ ∀ i m ys H2, W i m ys H2 →
    H2 acc = some (.lst ys) ∧ ((J.stop i H2 ∧ Q (.ref acc) H2) ∨ (J.go i H2 ∧ ys.length < sizeLine ∧ ∀ x H3, J.yld i H2 x H3 → g x (blockSt own ix σ) H3 fun σ4 H4 => σ4.drop own = ix.map (fun i => (σ[i]?).getD none) ∧ tt σ4 H4 fun ok H5 =>
      if ok = true then te σ4 H5 fun y H6 => H6 acc = some (.lst ys) ∧ ∃ m', m' < m ∧ W (i + 1) m' (ys ++ [y]) (upd H6 acc (.lst (ys ++ [y])))
      else ∃ m', m' < m ∧ W (i + 1) m' ys H5))
def tComp (wi : TI) (own : Nat) (ix : List Nat) (g : TG) (tt : TT) (te : TE) : TE := fun σ H Q => wi σ H fun J H1 => ∀ acc, H1 acc = none → CompGo J own ix g tt te σ H1 acc Q
def tNoTest : TT := fun _ H Q => Q true H
def PTs (X : Cx) (ifs : List Expr) (t : TT) : Prop :=
  ∀ (pins : List (Addr × Obj)) (s : Shared) (σ : St) (H : Hp) (Q : Bool → Hp → Prop), Inv X pins σ H s → t σ H Q →
    wpAny (model X.prog X.w) X.A (forIn ifs true fun c r => if r = true then do let ok ← isTrue c X.env (eval c X.env); pure (ForInStep.yield ok) else pure (ForInStep.yield r)) (TP X pins σ Q) X.xe s
theorem pts_nil {X : Cx} : PTs X [] tNoTest := fun _ _ _ H _ I h => wpAny_tests_nil ⟨H, I, h⟩
structure BlockOk (X : Cx) (scope : Scope) (own : List Str) (fr : List Str) (ix : List Nat) : Prop where
  kind : scope.kind = .function
  nocell : ∀ y ∈ scope.names, y.2 ≠ .cell
  names : ∀ y ∈ scope.names, y.2 = .local → scope.names.lookup y.1 = some .local
  free : ∀ p ∈ scope.names, p.2 = .free → ∃ c, X.env.cells.lookup p.1 = some c
  frd : ∀ x ∈ fr, (x, NameKind.free) ∈ scope.names ∧ X.env.kindOf x = some .cell ∧ scope.names.lookup x = some .free
  len : fr.length = ix.length
  at_ : ∀ (j : Nat) x i, fr[j]? = some x → ix[j]? = some i → X.N[i]? = some x
structure BlockB (X : Cx) (scope : Scope) (own : List Str) (fr : List Str) (ix : List Nat) : Prop where
  kind : scope.kind = .function
  nocell : (scope.names.all fun y => y.2 != .cell) = true
  names : (scope.names.all fun y => y.2 != .local || scope.names.lookup y.1 == some .local) = true
  free : (scope.names.all fun p => p.2 != .free || X.env.kindOf p.1 == some .cell) = true
  frd : (fr.all fun x => X.env.kindOf x == some .cell && scope.names.lookup x == some .free) = true
  at_ : (ix.map fun i => X.N[i]?) = fr.map some
theorem mem_of_lookup {x : Str} {k : NameKind} : ∀ {names : List (Str × NameKind)}, names.lookup x = some k → (x, k) ∈ names
  | [], h => by simp at h
  | (n, k') :: r, h => by
    rw [List.lookup_cons] at h
    cases hx : x == n with
    | true =>
      rw [hx] at h
      cases h
      rw [beq_iff_eq.mp hx]
      exact List.mem_cons_self
    | false =>
      rw [hx] at h
      exact List.mem_cons_of_mem _ (mem_of_lookup h)
theorem BlockB.ok {X : Cx} {scope : Scope} {own fr : List Str} {ix : List Nat} (B : BlockB X scope own fr ix) (ok : X.Ok) : BlockOk X scope own fr ix where
  kind := B.kind
  nocell := fun y hy => by simpa using List.all_eq_true.mp B.nocell y hy
  names := fun y hy hl => by
    have := List.all_eq_true.mp B.names y hy
    rw [hl] at this
    simpa using this
  free := fun p hp hf => by
    have := List.all_eq_true.mp B.free p hp
    rw [hf] at this
    exact ok.has p.1 (.inl (by simpa using this))
  frd := fun x hx => by
    have := List.all_eq_true.mp B.frd x hx
    rw [Bool.and_eq_true] at this
    have h2 : scope.names.lookup x = some .free := by simpa using this.2
    exact ⟨mem_of_lookup h2, by simpa using this.1, h2⟩
  len := by
    have := congrArg List.length B.at_
    simpa using this.symm
  at_ := fun j x i hx hi => by
    have e := congrArg (fun l => l[j]?) B.at_
    simp only [List.getElem?_map, hx, hi, Option.map_some] at e
    exact Option.some.inj e
theorem relabel_free {env : Env} (hf : env.scope.kind = .function) : ∀ {names : List (Str × NameKind)} {x : Str}, names.lookup x = some .free → env.kindOf x = some .cell →
    (names.map fun (n, k) => if (k == NameKind.free && env.scope.kind == .function && env.kindOf n == some .cell) then (n, NameKind.cell) else (n, k)).lookup x = some .cell
  | [], _, h, _ => by simp at h
  | (n, k) :: r, x, h, hx => by
    have ih := @relabel_free env hf r x
    show List.lookup x ((if (k == NameKind.free && env.scope.kind == .function && env.kindOf n == some .cell) = true then (n, NameKind.cell) else (n, k)) :: _) = _
    cases hxn : x == n with
    | true =>
      have e := beq_iff_eq.mp hxn
      subst e
      simp only [List.lookup_cons, hxn] at h
      cases h
      rw [if_pos (by rw [hf, hx]; rfl)]
      simp only [List.lookup_cons, hxn]
    | false =>
      simp only [List.lookup_cons, hxn] at h
      by_cases hc : (k == NameKind.free && env.scope.kind == .function && env.kindOf n == some .cell) = true
      · rw [if_pos hc]; simp only [List.lookup_cons, hxn]; exact ih h hx
      · rw [if_neg hc]; simp only [List.lookup_cons, hxn]; exact ih h hx
theorem relabel_has {env : Env} : ∀ {names : List (Str × NameKind)} {x : Str}, (∀ y ∈ names, y.2 ≠ .cell) →
    ((names.map fun (n, k) => if (k == NameKind.free && env.scope.kind == .function && env.kindOf n == some .cell) then (n, NameKind.cell) else (n, k)).lookup x = some .cell ∨
     (names.map fun (n, k) => if (k == NameKind.free && env.scope.kind == .function && env.kindOf n == some .cell) then (n, NameKind.cell) else (n, k)).lookup x = some .free) → (x, NameKind.free) ∈ names
  | [], _, _, h => by simp at h
  | (n, k) :: r, x, hn, h => by
    have ih := @relabel_has env r x (fun y hy => hn y (List.mem_cons_of_mem _ hy))
    have hk : k ≠ .cell := hn (n, k) List.mem_cons_self
    have h' : List.lookup x ((if (k == NameKind.free && env.scope.kind == .function && env.kindOf n == some .cell) = true then (n, NameKind.cell) else (n, k)) :: r.map fun (n, k) => if (k == NameKind.free && env.scope.kind == .function && env.kindOf n == some .cell) then (n, NameKind.cell) else (n, k)) = some .cell ∨
      List.lookup x ((if (k == NameKind.free && env.scope.kind == .function && env.kindOf n == some .cell) = true then (n, NameKind.cell) else (n, k)) :: r.map fun (n, k) => if (k == NameKind.free && env.scope.kind == .function && env.kindOf n == some .cell) then (n, NameKind.cell) else (n, k)) = some .free := h
    by_cases hc : (k == NameKind.free && env.scope.kind == .function && env.kindOf n == some .cell) = true
    · have hf : k = .free := by
        rw [Bool.and_eq_true, Bool.and_eq_true] at hc
        exact beq_iff_eq.mp hc.1.1
      subst hf
      cases hxn : x == n with
      | true => rw [beq_iff_eq.mp hxn]; exact List.mem_cons_self
      | false =>
        rw [if_pos hc] at h'
        simp only [List.lookup_cons, hxn] at h'
        exact List.mem_cons_of_mem _ (ih h')
    · rw [if_neg hc] at h'
      cases hxn : x == n with
      | true =>
        simp only [List.lookup_cons, hxn] at h'
        rcases h' with e | e
        · cases e; exact absurd rfl hk
        · cases e; rw [beq_iff_eq.mp hxn]; exact List.mem_cons_self
      | false =>
        simp only [List.lookup_cons, hxn] at h'
        exact List.mem_cons_of_mem _ (ih h')
section
variable {X : Cx} {pins : List (Addr × Obj)} {σ : St} {H : Hp} {s : Shared}
theorem block_start {scope : Scope} {own fr : List Str} {ix : List Nat} {C : Addr} {h₁ : Heap} {tk : Nat} {fp : List Addr} {m : Str → Option Value} (I : Inv X pins σ H s) (B : BlockOk X scope own fr ix) (hC : C = s.heap.objs.size)
    (hf : ∀ b ∈ fp, FpOk X pins H b) (hb : ∀ b ∈ fp, ∃ o, s.heap.get? b = some o) (old : ∀ b o, s.heap.get? b = some o → h₁.get? b = some o) (hns : h₁.Ns C m) :
    Inv (blockCx X pins (own ++ fr) scope C s H fp) [] (blockSt own.length ix σ) H { s with heap := h₁, toks := tk } := by
  have look : ∀ x c, (clOf X.env scope.names []).lookup x = some c → X.env.cells.lookup x = some c := clOf_look B.free (fun _ _ z => by cases z)
  have lt : ∀ b o, s.heap.get? b = some o → b ≠ C := fun b o e => by rw [hC]; exact Nat.ne_of_lt (Heap.lt_size e)
  have ok : (blockCx X pins (own ++ fr) scope C s H fp).Ok := {
    mod := I.ok.mod
    kind := B.kind
    glob := I.ok.glob
    blt := I.ok.blt
    above := by show s.heap.objs.size ≤ C; rw [hC]; exact Nat.le_refl _
    inj := fun x y c a b => I.ok.inj x y c (look x c a) (look y c b)
    has := fun x hx => clOf_has (.inl (relabel_has B.nocell hx))
    cab := fun x c z => nomatch z
    hd := I.ok.hd
    frames := I.ok.frames
    stk := .inl rfl
    exf := fun b hbf => ⟨by obtain ⟨o, e⟩ := hb b hbf; exact lt b o e, fun x c e => (hf b hbf).2.2.2.2.1 x c (look x c e)⟩
    bs := I.bs
    bsz := Nat.le_trans I.ok.bsz I.sz
    noex := fun b o e hbf => by
      rcases (hf b hbf).2.2.2.1 with z | z
      · exact I.ok.noex b o e z
      · exact absurd (Nat.lt_of_lt_of_le (Heap.lt_size e) (Nat.le_trans I.ok.bsz z)) (Nat.lt_irrefl _)
    exfs := fun b hbf hs => by
      rcases List.mem_cons.mp (I.stkSub b hs) with z | z
      · exact (hf b hbf).2.1 z
      · exact (hf b hbf).2.2.1 z
    funs := I.stack
    frf := I.stkFree }
  refine ⟨ok, rfl, I.bare, Un.kept old, ⟨m, hns, fun i x v e1 e2 e3 => ?_⟩, fun x c e => ?_, ?_, fun x c e => I.freeC x c (look x c e), fun p hp => ?_, I.hok.kept old, ?_⟩
  · have e1 : (own ++ fr)[i]? = some x := e1
    have e2 : (List.replicate own.length none ++ ix.map fun i => (σ[i]?).getD none)[i]? = some (some v) := e2
    by_cases hi : i < own.length
    · rw [List.getElem?_append_left (by rw [List.length_replicate]; exact hi), List.getElem?_replicate, if_pos hi] at e2
      cases e2
    · rw [List.getElem?_append_right (by omega)] at e1
      rw [List.getElem?_append_right (by rw [List.length_replicate]; omega), List.length_replicate, List.getElem?_map] at e2
      obtain ⟨i', hi', e4⟩ := Option.map_eq_some_iff.mp e2
      have e5 : σ[i']? = some (some v) := by
        cases z : σ[i']? with
        | none => rw [z] at e4; cases e4
        | some y => rw [z] at e4; exact congrArg some e4
      have hm : x ∈ fr := List.mem_of_getElem? e1
      obtain ⟨f1, f2, f3⟩ := B.frd x hm
      obtain ⟨mX, _, hl⟩ := I.loc
      obtain ⟨u, r, l⟩ := hl i' x v (B.at_ _ x i' e1 hi') e5 (.inr (.inl f2))
      rcases l with ⟨l, _⟩ | ⟨_, c, ec, z⟩
      · rw [f2] at l; cases l
      · obtain ⟨c', ec'⟩ := clOf_has (env := X.env) (names := scope.names) (acc := []) (x := x) (.inl f1)
        have := look x c' ec'
        rw [ec] at this
        cases this
        obtain ⟨o, ho, hd⟩ := z
        exact ⟨u, r, .inr ⟨.inl (relabel_free I.ok.kind f3 f2), c, ec', o, old _ _ ho, hd⟩⟩
  · obtain ⟨v, o, ho, hd⟩ := I.cell x c (look x c e)
    exact ⟨v, o, old _ _ ho, hd⟩
  · show H C = none
    rw [hC]; exact I.hok.fresh (Nat.le_refl _)
  · have hp' : p ∈ X.pn ++ pins := by simpa using hp
    obtain ⟨e, n, ne, nf, d⟩ := I.pin p hp'
    refine ⟨old _ _ e, n, lt _ _ e, fun z => ?_, d⟩
    rcases List.mem_cons.mp (I.stkSub _ z) with q | q
    · exact ne q
    · exact nf q
  · show (List.replicate own.length none ++ ix.map fun i => (σ[i]?).getD none).length = (own ++ fr).length
    rw [List.length_append, List.length_append, List.length_replicate, List.length_map, B.len]
theorem block_end {N : List Str} {scope : Scope} {C : Addr} {fp : List Addr} {σ' : St} {H' : Hp} {s' : Shared} {h'' : Heap} {pl : List (Addr × Obj)} (I : Inv X pins σ H s) (hf : ∀ b ∈ fp, FpOk X pins H b) (hC : C = s.heap.objs.size)
    (J : Inv (blockCx X pins N scope C s H fp) pl σ' H' s') (hs : Heap.SameBut C s'.heap h'') : Inv X pins σ H' { s' with heap := h'' } := by
  have u := J.base
  have k : ∀ b o, b ≠ C → s'.heap.get? b = some o → h''.get? b = some o := fun b o hb e => hs.extBut b o hb e
  have hn : H' C = none := J.free
  have lt : ∀ b o, s.heap.get? b = some o → b ≠ C := fun b o e => by rw [hC]; exact Nat.ne_of_lt (Heap.lt_size e)
  refine I.call' (s' := { s' with heap := h'' }) (ch := fp) J.os ?_ ?_ J.bare fun b hb => ⟨(hf b hb).2.2.2.1, (hf b hb).2.1, (hf b hb).2.2.2.2.1, (hf b hb).2.2.2.2.2⟩
  · exact ⟨fun b o q n hb he => k b o (lt b o q) (u.keep b o q n hb he), fun b o q n hb he => by
        obtain ⟨sl, e⟩ := u.slot b o q n hb he
        exact ⟨sl, k b _ (lt b o q) e⟩, u.free, fun b o q he => by
        obtain ⟨o', e⟩ := u.there b o q he
        exact ⟨o', k b _ (lt b o q) e⟩, u.tups, u.frzs, u.tbls⟩
  · intro b o e
    have nit : ∀ b u, H' b = some u → b ≠ C := fun b u e z => by rw [z, hn] at e; cases e
    refine (J.hok b o e).stay (fun c v hc q => k c v ?_ q) (fun _ q => q) fun _ _ q => q
    rcases hc with z | z
    · rw [z]; exact nit b o e
    · exact nit c _ z
theorem comp_block {tg iter elt : Expr} {ifs : List Expr} {scope : Scope} {own fr : List Str} {ix : List Nat} {g : TG} {tt : TT} {te : TE} {pos : Pos} {Q : VK} {sF : Shared} {HF : Hp} {C acc it : Addr} {h₁ : Heap} {fp : List Addr} {tn : Nat → Heap → Prop} {J : It} {W : Nat → Nat → List V → Hp → Prop} {m : Str → Option Value} {m0 : Nat} {RR : Result → Shared → Prop}
    (hc : X.calm = true) (B : BlockOk X scope own fr ix)
    (hg : ∀ pins C sF HF fp, PG (blockCx X pins (own ++ fr) scope C sF HF fp) tg g) (ht : ∀ pins C sF HF fp, PTs (blockCx X pins (own ++ fr) scope C sF HF fp) ifs tt) (he : ∀ pins C sF HF fp, PE (blockCx X pins (own ++ fr) scope C sF HF fp) elt te)
    (I3 : Inv X pins σ HF sF) (T : Turn X.prog X.w X.K tg J fp it tn) (st3 : tn 0 sF.heap) (f3 : ∀ b ∈ fp, FpOk X pins HF b) (f3' : ∀ b ∈ fp, ∃ o, sF.heap.get? b = some o) (hC : sF.heap.objs.size = C) (old : ∀ b o, sF.heap.get? b = some o → h₁.get? b = some o) (hns₁ : h₁.Ns C m)
    (w0 : W 0 m0 [] HF) (turn : ∀ i m ys H2, W i m ys H2 → H2 acc = some (.lst ys) ∧ ((J.stop i H2 ∧ Q (.ref acc) H2) ∨ (J.go i H2 ∧ ys.length < sizeLine ∧ ∀ x H3, J.yld i H2 x H3 → g x (blockSt own.length ix σ) H3 fun σ4 H4 => σ4.drop own.length = ix.map (fun i => (σ[i]?).getD none) ∧ tt σ4 H4 fun ok H5 =>
      if ok = true then te σ4 H5 fun y H6 => H6 acc = some (.lst ys) ∧ ∃ m', m' < m ∧ W (i + 1) m' (ys ++ [y]) (upd H6 acc (.lst (ys ++ [y])))
      else ∃ m', m' < m ∧ W (i + 1) m' ys H5)))
    (fin : ∀ s6 H5, Inv (blockCx X pins (own ++ fr) scope C sF HF fp) [] (blockSt own.length ix σ) H5 s6 → Q (.ref acc) H5 → RR (.ok .next) s6) :
    codeAny (model X.prog X.w) X.A (.compStart (.ListComp elt [⟨tg, iter, ifs, 0⟩] scope pos) 0 (.ref it) (.ref acc) (compEnvC scope (clOf X.env scope.names []) C X.env)) RR
      { sF with heap := h₁, toks := sF.toks + ([] : List (Str × Value)).length } := by
  have J0 : Inv (blockCx X pins (own ++ fr) scope C sF HF fp) [] (blockSt own.length ix σ) HF { sF with heap := h₁, toks := sF.toks + ([] : List (Str × Value)).length } := block_start I3 B hC.symm f3 f3' old hns₁
  have st4 : tn 0 h₁ := T.keep _ _ _ st3 fun b _ o e => old b o e
  have fY : ∀ {pl : List (Addr × Obj)} {H' : Hp}, (∀ b ∈ fp, H' b = none) → (∀ p ∈ pl, p.1 ∉ fp) → ∀ b ∈ fp, FpOk (blockCx X pins (own ++ fr) scope C sF HF fp) pl H' b := fun {pl H'} hn hp b hb => by
    refine ⟨hn b hb, (J0.ok.exf b hb).1, J0.ok.exfs b hb, .inl hb, (J0.ok.exf b hb).2, fun p hpm => ?_⟩
    rcases List.mem_append.mp hpm with z | z
    · exact (f3 b hb).2.2.2.2.2 p z
    · exact fun e => hp p z (by rw [e]; exact hb)
  have weak : ∀ {pl : List (Addr × Obj)} {σ4 : St} {H4 : Hp} {s4 : Shared}, Inv (blockCx X pins (own ++ fr) scope C sF HF fp) pl σ4 H4 s4 → σ4.drop own.length = ix.map (fun i => (σ[i]?).getD none) → Inv (blockCx X pins (own ++ fr) scope C sF HF fp) pl (blockSt own.length ix σ) H4 s4 := fun {pl σ4 H4 s4} J e => by
    refine J.weak ?_ fun i v hv => ?_
    · have := J.len
      have := J0.len
      omega
    · have hv' : (List.replicate own.length none ++ ix.map fun i => (σ[i]?).getD none)[i]? = some (some v) := hv
      by_cases hi : i < own.length
      · rw [List.getElem?_append_left (by rw [List.length_replicate]; exact hi), List.getElem?_replicate, if_pos hi] at hv'
        cases hv'
      · rw [List.getElem?_append_right (by rw [List.length_replicate]; omega), List.length_replicate, ← e, List.getElem?_drop] at hv'
        rw [show own.length + (i - own.length) = i by omega] at hv'
        exact hv'
  have loop : ∀ s4 : Shared, s4 = { sF with heap := h₁, toks := sF.toks + ([] : List (Str × Value)).length } →
      codeAny (model X.prog X.w) X.A (.compLoop (.ListComp elt [⟨tg, iter, ifs, 0⟩] scope pos) 0 (.ref it) (.ref acc) (compEnvC scope (clOf X.env scope.names []) C X.env)) RR s4 := by
    rintro s4 rfl
    refine codeAny_compLoop_gen (fun n s' => ∃ i ys H', Inv (blockCx X pins (own ++ fr) scope C sF HF fp) [] (blockSt own.length ix σ) H' s' ∧ tn i s'.heap ∧ (∀ b ∈ fp, H' b = none) ∧ W i n ys H') ?_ m0 ⟨0, [], HF, J0, st4, fun b hb => (f3 b hb).1, w0⟩
    rintro n s5 ⟨i, ys, H5, J5, st5, fr5, w5⟩
    obtain ⟨ha, hturn⟩ := turn i n ys H5 w5
    rcases hturn with ⟨stop, qn⟩ | ⟨go, hsz, step⟩
    · refine thn (T.done (blockCx X pins (own ++ fr) scope C sF HF fp) rfl rfl rfl hc i [] s5 _ H5 (fun _ _ => False) J5 (fY fr5 (fun _ z => by cases z)) st5 stop) fun r s6 ⟨hr, J6⟩ => ?_
      subst hr
      exact fin s6 H5 J6 qn
    · refine thn (T.item (blockCx X pins (own ++ fr) scope C sF HF fp) rfl rfl rfl hc i [] s5 _ H5 (fun _ _ => False) J5 (fY fr5 (fun _ z => by cases z)) st5 go) fun r s6 ⟨u, hr, h6⟩ => ?_
      subst hr
      refine thn h6 fun _ s7 ⟨x, H7, J7, r7, y7, st7, fr7⟩ => ?_
      have J7' := J7.pinned (fY fr7 (fun _ z => by cases z)) (T.obj _ _ st7)
      refine thn (hg pins C sF HF fp _ s7 _ H7 x u _ J7' r7 (step x H7 y7)) fun _ s8 ⟨σ8, H8, J8, k8, q8⟩ => ?_
      have back : ∀ {s9 : Shared} {H9 : Hp}, Inv (blockCx X pins (own ++ fr) scope C sF HF fp) ([] ++ pinsAt fp s7.heap) σ8 H9 s9 → Inv (blockCx X pins (own ++ fr) scope C sF HF fp) [] (blockSt own.length ix σ) H9 s9 ∧ tn (i + 1) s9.heap ∧ ∀ b ∈ fp, H9 b = none := fun {s9 H9} J9 => by
        refine ⟨weak J9.unpinned k8, T.keep _ _ _ st7 fun b hb o e => (J9.pin (b, o) (List.mem_append_right _ (List.mem_append_right _ (mem_pinsAt hb e)))).1, fun b hb => ?_⟩
        obtain ⟨o, e, d⟩ := T.obj _ _ st7 b hb
        exact (J9.pin (b, o) (List.mem_append_right _ (List.mem_append_right _ (mem_pinsAt hb e)))).2.1
      refine thn (ht pins C sF HF fp _ s8 σ8 H8 _ J8 q8) fun ok s9 ⟨H9, J9, q9⟩ => ?_
      cases ok with
      | false =>
        obtain ⟨m', hm, w9⟩ := q9
        obtain ⟨b1, b2, b3⟩ := back J9
        exact ⟨m', hm, i + 1, ys, H9, b1, b2, b3, w9⟩
      | true =>
        refine thn (he pins C sF HF fp _ s9 σ8 H9 _ J9 q9) fun v s10 ⟨y, H10, J10, r10, a10, m', hm, w10⟩ => ?_
        refine thn (mt_append _ s10 σ8 H10 (.ref acc) [y] (.ref acc) [v] (fun _ H' => H' = upd H10 acc (.lst (ys ++ [y]))) J10 rfl (.cons r10 .nil) ⟨acc, ys, y, rfl, rfl, a10, hsz, rfl⟩) fun _ s11 ⟨_, H11, J11, _, e11⟩ => ?_
        subst e11
        obtain ⟨b1, b2, b3⟩ := back J11
        exact ⟨m', hm, i + 1, ys ++ [y], _, b1, b2, b3, w10⟩
  exact codeAny_compStart_list (loop _ rfl) (T.self _ 0 _ _ _ st4 (loop _ rfl))
theorem pe_comp {tg iter elt : Expr} {ifs : List Expr} {scope : Scope} {own fr : List Str} {ix : List Nat} {wi : TI} {g : TG} {tt : TT} {te : TE} {pos : Pos} (hc : X.calm = true) (BB : BlockB X scope own fr ix) (hi : PI X tg iter wi)
    (hg : ∀ pins C sF HF fp, PG (blockCx X pins (own ++ fr) scope C sF HF fp) tg g) (ht : ∀ pins C sF HF fp, PTs (blockCx X pins (own ++ fr) scope C sF HF fp) ifs tt) (he : ∀ pins C sF HF fp, PE (blockCx X pins (own ++ fr) scope C sF HF fp) elt te)
    (hs : ∀ x, foldedSetIterable iter X.env x = pure x := by intro _; rfl) : PE X (.ListComp elt [⟨tg, iter, ifs, 0⟩] scope pos) (tComp wi own.length ix g tt te) := by
  intro pins s σ H Q I h
  have B := BB.ok I.ok
  rw [eval_ListComp]
  refine wpAny_comprehension_free (use := none) rfl hs (closure_eq B.free) B.kind B.names (thn (hi pins s σ H _ I h) fun xv s1 h1 => thn h1 fun itv s2 h2 => ?_)
  obtain ⟨it, fp, tn, J, H2, rfl, I2, T, st2, f2, R⟩ := h2
  refine wpAny_newObj_type (wpAny_newFunctionEnv B.nocell (by intro y hy; simp at hy) (fun h₁ hns₁ hsb₁ => ?_) B.kind)
  dsimp only at hns₁ hsb₁
  have I3 := I2.lnew (t' := s2.toks) (its := []) (ys := []) .nil (Nat.zero_le _)
  obtain ⟨W, ⟨m0, w0⟩, turn⟩ := R _ I2.fresh
  have fF : ∀ b ∈ fp, ∃ o, s2.heap.get? b = some o := fun b hb => let ⟨o, e, _⟩ := T.obj _ _ st2 b hb; ⟨o, e⟩
  have nacc : ∀ b ∈ fp, b ≠ s2.heap.objs.size := fun b hb => let ⟨o, e⟩ := fF b hb; Nat.ne_of_lt (Heap.lt_size e)
  have push : ∀ b o, s2.heap.get? b = some o → (s2.heap.push { cls := .type "list", data := .seq ([] : List Value).toArray }).get? b = some o := fun b o e => Heap.get?_push_of_some _ e
  exact comp_block hc B hg ht he I3 T (T.keep _ _ _ st2 fun b _ o e => push b o e) (fun b hb => ⟨by rw [upd_ne (nacc b hb)]; exact (f2 b hb).1, (f2 b hb).2⟩) (fun b hb => let ⟨o, e⟩ := fF b hb; ⟨o, push b o e⟩) rfl
    (fun b o e => hsb₁.extBut b o (Nat.ne_of_lt (Heap.lt_size e)) (Heap.get?_push_of_some _ e)) hns₁ w0 turn fun s6 H5 J6 qn => by
      obtain ⟨m6, hn6, _⟩ := J6.loc
      exact ⟨m6, hn6, fun h' hs' => ⟨.ref _, H5, block_end I3 (fun b hb => ⟨by rw [upd_ne (nacc b hb)]; exact (f2 b hb).1, (f2 b hb).2⟩) rfl J6 hs', rfl, qn⟩⟩
theorem ps_setC {tg iter elt : Expr} {ifs : List Expr} {scope : Scope} {own fr : List Str} {ix : List Nat} {wi : TI} {g : TG} {tt : TT} {te : TE} {pos spos py : Pos} {k : Nat} {y : Str} (hc : X.calm = true) (hN : X.N.Nodup) (hk : X.N[k]? = some y) (hy : X.env.scope.names.lookup y = some .local) (BB : BlockB X scope own fr ix) (hi : PI X tg iter wi)
    (hg : ∀ pins C sF HF fp, PG (blockCx X pins (own ++ fr) scope C sF HF fp) tg g) (ht : ∀ pins C sF HF fp, PTs (blockCx X pins (own ++ fr) scope C sF HF fp) ifs tt) (he : ∀ pins C sF HF fp, PE (blockCx X pins (own ++ fr) scope C sF HF fp) elt te)
    (hsw : swapsWith (.ListComp elt [⟨tg, iter, ifs, 0⟩] scope pos) (some (.Name y py)) spos.line X.env = pure true := by rfl)
    (hs : ∀ x, foldedSetIterable iter X.env x = pure x := by intro _; rfl) : PS X (.Assign [.Name y py] (.ListComp elt [⟨tg, iter, ifs, 0⟩] scope pos) spos) (tAsg (tComp wi own.length ix g tt te) (gName k)) := by
  intro pins s σ H D I h
  have B := BB.ok I.ok
  rw [exec_Assign_Name_used _ _ _ _ hsw]
  refine wpAny_bind (wpAny_standAt (wpAny_bind ?_))
  show wpAny _ X.A (do let _ ← comprehension (.ListComp elt [⟨tg, iter, ifs, 0⟩] scope pos) scope X.env _ (newList []) false (eval iter X.env) (some (assign (.Name y py) X.env))) _ _ s
  refine wpAny_bind (wpAny_mono (wpAny_comprehension_free (use := some (assign (.Name y py) X.env)) (Q := fun _ s' => SP X pins D .next s') rfl hs (closure_eq B.free) B.kind B.names
    (thn (hi pins s σ H _ I h) fun xv s1 h1 => thn h1 fun itv s2 h2 => ?_)) (fun _ s' hq => wpAny_pure (wpAny_pure hq)) fun _ _ e => e)
  obtain ⟨it, fp, tn, J, H2, rfl, I2, T, st2, f2, R⟩ := h2
  refine wpAny_newObj_type (wpAny_newFunctionEnv B.nocell (by intro y hy; simp at hy) (fun h₁ hns₁ hsb₁ => ?_) B.kind)
  dsimp only at hns₁ hsb₁
  have I3 := I2.lnew (t' := s2.toks) (its := []) (ys := []) .nil (Nat.zero_le _)
  obtain ⟨W, ⟨m0, w0⟩, turn⟩ := R _ I2.fresh
  have fF : ∀ b ∈ fp, ∃ o, s2.heap.get? b = some o := fun b hb => let ⟨o, e, _⟩ := T.obj _ _ st2 b hb; ⟨o, e⟩
  have nacc : ∀ b ∈ fp, b ≠ s2.heap.objs.size := fun b hb => let ⟨o, e⟩ := fF b hb; Nat.ne_of_lt (Heap.lt_size e)
  have push : ∀ b o, s2.heap.get? b = some o → (s2.heap.push { cls := .type "list", data := .seq ([] : List Value).toArray }).get? b = some o := fun b o e => Heap.get?_push_of_some _ e
  have f3 : ∀ b ∈ fp, FpOk X pins (upd H2 s2.heap.objs.size (.lst [])) b := fun b hb => ⟨by rw [upd_ne (nacc b hb)]; exact (f2 b hb).1, (f2 b hb).2⟩
  refine comp_block (Q := fun x H1 => gName k x σ H1 D.nx) hc B hg ht he I3 T (T.keep _ _ _ st2 fun b _ o e => push b o e) f3 (fun b hb => let ⟨o, e⟩ := fF b hb; ⟨o, push b o e⟩) rfl
    (fun b o e => hsb₁.extBut b o (Nat.ne_of_lt (Heap.lt_size e)) (Heap.get?_push_of_some _ e)) hns₁ w0 turn fun s6 H5 J6 qn => ?_
  have I6 : Inv X pins σ H5 { s6 with heap := s6.heap } := block_end I3 f3 rfl J6 (Heap.SameBut.refl ..)
  have I6 : Inv X pins σ H5 s6 := I6
  obtain ⟨m6, ⟨o6, es6, ep6, ho6, rest6⟩, _⟩ := id J6.loc
  have sz : ∀ b o, (s2.heap.push { cls := .type "list", data := .seq ([] : List Value).toArray }).get? b = some o → b ≠ (s2.heap.push { cls := .type "list", data := .seq ([] : List Value).toArray }).objs.size := fun b o e => Nat.ne_of_lt (Heap.lt_size e)
  have hge : X.s₀.heap.objs.size ≤ (s2.heap.push { cls := .type "list", data := .seq ([] : List Value).toArray }).objs.size := I3.sz
  have hloc : (s2.heap.push { cls := .type "list", data := .seq ([] : List Value).toArray }).objs.size ≠ X.env.locals := fun z => by
    have := I3.lt
    rw [← z] at this
    exact Nat.lt_irrefl _ this
  have hfs : (s2.heap.push { cls := .type "list", data := .seq ([] : List Value).toArray }).objs.size ∉ X.fs := I3.nofs (Nat.le_refl _)
  have hcell : ∀ x c, X.env.cells.lookup x = some c → c ≠ (s2.heap.push { cls := .type "list", data := .seq ([] : List Value).toArray }).objs.size := fun x c e => by
    obtain ⟨v, ob, hob, _⟩ := I3.cell x c e
    exact sz _ _ hob
  have hpin : ∀ p ∈ X.pn ++ pins, p.1 ≠ (s2.heap.push { cls := .type "list", data := .seq ([] : List Value).toArray }).objs.size := fun p hp => sz _ _ (I3.pin p hp).1
  have I7 : Inv X (pins ++ [((s2.heap.push { cls := .type "list", data := .seq ([] : List Value).toArray }).objs.size, o6)]) σ H5 s6 := I6.pins_of fun p hp => by
    rcases List.mem_append.mp hp with z | z
    · exact I6.pin p (List.mem_append_right _ z)
    · rw [List.mem_singleton.mp z]
      refine ⟨ho6, J6.free, hloc, hfs, fun v z => ?_⟩
      rw [rest6.1] at z
      cases z
  refine wpAny_assign_Name (store_ok (v := .ref s2.heap.objs.size) I7 hN hk (.inl hy) rfl (fun s8 I8 => ?_) (.inr hy))
  have h8 := (I8.pin ((s2.heap.push { cls := .type "list", data := .seq ([] : List Value).toArray }).objs.size, o6) (List.mem_append_right _ (List.mem_append_right _ (List.mem_singleton.mpr rfl)))).1
  refine ⟨m6, ⟨o6, es6, ep6, h8, rest6⟩, fun h' hs' => ⟨_, H5, (I8.unpinned).turned (t' := s8.toks) (fun b o hb e => hs'.extBut b o hb e) J6.free hloc (.inr hge) hcell hpin, qn⟩⟩
end
end L2
namespace L2
open PySem PySem.Spec PyProof.Rows PySem.SeqAt
def SqLL (K : PySem.W.Frag) (H : Hp) (a : Addr) (nss : List (List Int)) : Prop := ∃ as : List Addr, SqL K H a (as.map V.ref) ∧ Paired (fun b ns => SqL K H b (ns.map V.int)) as nss
theorem SqLL.same {K : PySem.W.Frag} {H H' : Hp} {a : Addr} {nss : List (List Int)} (e : Same H H') (h : SqLL K H a nss) : SqLL K H' a nss := by
  obtain ⟨as, h1, h2⟩ := h
  exact ⟨as, e.seq h1, Paired.imp' (fun b ns z => e.seq z) h2⟩
abbrev dI (ns : List Int) : PyData := .list (ns.map PyData.int)
theorem noMix_dI (ns ms : List Int) : noMix (dI ns) (dI ms) = true := by
  simp only [noMix]; exact PySem.W.noMix_ints ns ms
theorem same_dI (ns ms : List Int) : PySem.Spec.same (dI ns) (dI ms) = decide (ns = ms) := by
  simp only [PySem.Spec.same]; exact PySem.W.same_ints ns ms
section
variable {X : Cx} {pins : List (Addr × Obj)} {σ : St} {H : Hp} {s : Shared}
theorem Inv.ints (I : Inv X pins σ H s) {a : Addr} {ns : List Int} (h : SqL X.K H a (ns.map V.int)) : ∃ vs : List Value, s.heap.IsList a vs.toArray ∧ IntsAre vs ns ∧ ns.length ≤ sizeLine := by
  obtain ⟨its, r, p, z⟩ := I.list h
  exact ⟨its, p.isList, intsAre_of r, by rwa [List.length_map] at z⟩
theorem Inv.reads (I : Inv X pins σ H s) {a : Addr} {ns : List Int} (h : SqL X.K H a (ns.map V.int)) : Reads s.heap (.ref a) (dI ns) [a] := by
  obtain ⟨vs, l, i, _⟩ := I.ints h
  exact PySem.W.reads_of_ints l i
end
section
variable {X : Cx}
def rNeL (K : PySem.W.Frag) : R2 := fun x y H Q => ∃ (a b : Addr) (ns ms : List Int), x = .ref a ∧ y = .ref b ∧ SqL K H a (ns.map V.int) ∧ SqL K H b (ms.map V.int) ∧ Q (.bl (!decide (ns = ms))) H
theorem op_neL (hu : X.A.units + 64 < cLine) : OpR X (compareOp .NotEq) (rNeL X.K) := by
  intro pins s σ H x y v u Q I rx ry h
  obtain ⟨a, b, ns, ms, rfl, rfl, h1, h2, q⟩ := h
  cases rx; cases ry
  exact ne_dataH_same (I.reads h1) (I.reads h2) (PySem.W.shaped_ints ns) (PySem.W.shaped_ints ms) hu (noMix_dI ns ms) (by rw [same_dI]; exact ⟨.bl _, H, I, rfl, q⟩)
theorem call_all (hc : X.calm = true) : CallR X (.builtin "all") (fun xs H Q => ∃ (p : Addr) (bs : List Bool), xs = [.ref p] ∧ SqL X.K H p (bs.map V.bl) ∧ Q (.bl (bs.all id)) H) := by
  intro pins s σ H xs us Q I r h
  obtain ⟨p, bs, rfl, hq, q⟩ := h
  obtain ⟨u, rfl, ru⟩ := vals1 r
  cases ru
  obtain ⟨its, rv, pl, hz⟩ := I.list hq
  have hl := pl.isList
  have hlt : p < s.heap.objs.size := by obtain ⟨_, e, _⟩ := hl; exact Heap.lt_size e
  refine call_all_walk (wpAny_pyIter_list hl ?_)
  refine ⟨s.heap.objs.size, [s.heap.objs.size, p], [s.heap.objs.size], its.toArray.size, _, _, fun i => (bs[i]?).getD true, rfl, Walks.list (A := X.A.in1) (I.ok.hd hc) _ p (Nat.ne_of_lt hlt) its.toArray,
    ⟨⟨_, Heap.get?_push_size _ rfl, rfl, rfl⟩, hl.push _⟩, fun i v s' Q' E' hP hQ => ?_, fun h' tk hk => ?_⟩
  · have hP' : its[i]? = some v := by simpa using hP
    have lenB : bs.length = its.length := by have := rv.length; rwa [List.length_map] at this
    have hi : i < bs.length := by rw [lenB]; exact (List.getElem?_eq_some_iff.mp hP').1
    obtain ⟨w, ew, rw'⟩ := rv.get (x := V.bl bs[i]) (i := i) (by rw [List.getElem?_map, List.getElem?_eq_getElem hi]; rfl)
    rw [hP'] at ew
    cases ew
    cases (show v = Value.bool bs[i] from rw')
    simp only [List.getElem?_eq_getElem hi, Option.getD_some] at hQ
    exact wpAny_truthy_bool hQ
  · have e : ((List.range its.toArray.size).all fun i => (bs[i]?).getD true) = bs.all id := by
      have lenB : bs.length = its.length := by have := rv.length; rwa [List.length_map] at this
      rw [List.size_toArray, ← lenB]; exact PyProof.Rows.LSm.range_all bs
    rw [e]
    exact ⟨.bl _, H, I.kept (PyProof.Rows.LSm.kept_iter hk), rfl, q⟩
end
end L2
namespace L2
open PySem PySem.Spec PyProof.Rows
theorem Same.wr {H H' : Hp} {p : Addr} {o : HO} (s : Same H H') (h : H p = Option.none) : Same H (upd H' p o) := fun b u e => by
  rw [upd_ne (ne_of_none e h)]
  exact s b u e
theorem hu64 {A : Around} {k : Nat} (hr : Room k A) : A.units + 64 < cLine := hr.units
theorem kit_list_list (K : PySem.W.Frag) : PySem.W.kitOne K (.type "list") (.type "list") = some true := by with_unfolding_all rfl
theorem map_range_const {α : Type} (x : α) : ∀ n : Nat, (List.range n).map (fun _ => x) = List.replicate n x
  | 0 => rfl
  | n + 1 => by rw [List.range_succ, List.map_append, map_range_const x n, List.replicate_succ']; rfl
theorem all_replicate : ∀ n : Nat, (List.replicate n true).all id = true
  | 0 => rfl
  | n + 1 => by rw [List.replicate_succ, List.all_cons, all_replicate n]; rfl
section
variable {X : Cx}
theorem call_isinstK (K : PySem.W.Frag) (hK : X.K = K := by rfl) : CallR X (.builtin "isinstance") (fun xs H Q => ∃ x n t b, xs = [x, .ty n] ∧ TyOf K H x t ∧ PySem.W.kitOne K t (.type n) = some b ∧ Q (.bl b) H) := by subst hK; exact call_isinst
theorem pg_tupK (K : PySem.W.Frag) {es : List Expr} {k : Nat} {t : TGs} {n : Nat} {pos : Pos} (hc : X.calm = true) (h : PGs X es t) (hK : X.K = K := by rfl)
    (hn : (assignEach es X.env).length = n := by rfl) (hst : (assignEach es X.env).findIdx? (·.1) = none := by rfl) : PG X (.Tuple es k pos) (gTup K n t) := by subst hK; exact pg_tup hc h hn hst
end
theorem comp_listP {K : PySem.W.Frag} {a acc : Addr} {xs : List V} {own : Nat} {ix : List Nat} {g : TG} {te : TE} {σ : St} {H1 : Hp} {Q : VK} (f : Nat → V) (hq : SqL K H1 a xs) (hn : H1 acc = none) (hz : xs.length ≤ sizeLine)
    (step : ∀ i x H (R : VK), xs[i]? = some x → Same H1 H → R (f i) H → g x (blockSt own ix σ) H fun σ4 H4 => σ4.drop own = ix.map (fun i => (σ[i]?).getD none) ∧ te σ4 H4 R)
    (hd : Q (.ref acc) (upd H1 acc (.lst ((List.range xs.length).map f)))) :
    CompGo (Itl K a) own ix g tNoTest te σ H1 acc Q := by
  refine ⟨fun i m ys H => m = xs.length - i ∧ i ≤ xs.length ∧ ys = (List.range i).map f ∧ H = upd H1 acc (.lst ys), ⟨xs.length, by simp, Nat.zero_le _, rfl, rfl⟩, ?_⟩
  rintro i m ys H ⟨rfl, hi, rfl, rfl⟩
  have q : SqL K (upd H1 acc (.lst ((List.range i).map f))) a xs := (Same.new hn).seq hq
  refine ⟨upd_same, ?_⟩
  by_cases hlt : i < xs.length
  · refine .inr ⟨⟨xs, xs[i], q, by simp [hlt]⟩, by rw [List.length_map, List.length_range]; omega, fun x H3 y => ?_⟩
    obtain ⟨e, y⟩ := y
    subst e
    exact step i x _ _ (y xs q) (Same.new hn) ⟨upd_same, xs.length - (i + 1), by omega, rfl, hlt, by rw [List.range_succ, List.map_append]; rfl, by rw [upd_upd]⟩
  · have e : i = xs.length := by omega
    subst e
    exact .inl ⟨⟨xs, q, Nat.le_refl _⟩, hd⟩
end L2
namespace L2
open PySem PySem.Spec PyProof.Rows
theorem Inv.turns {X : Cx} {pins : List (Addr × Obj)} {σ : St} {H : Hp} {s : Shared} {h' : Heap} {ch : List Addr} {t' : Nat} (I : Inv X pins σ H s) (hf : ∀ b ∈ ch, FpOk X pins H b) (k : ∀ b o, b ∉ ch → s.heap.get? b = some o → h'.get? b = some o) :
    Inv X pins σ H { s with heap := h', toks := t' } := by
  have nit : ∀ b u, H b = some u → b ∉ ch := fun b u e z => by rw [(hf b z).1] at e; cases e
  refine I.step (g' := s.gens) (d' := s.drawn) (ch := ch) (fun b hb => ⟨(hf b hb).2.2.2.1, (hf b hb).2.1, (hf b hb).2.2.2.2.1, (hf b hb).2.2.2.2.2⟩) (fun b o _ _ hc e _ => k b o hc e) (fun b o _ _ hc e _ => ⟨o.slots, k b o hc e⟩) (fun _ _ _ _ n => n)
    (fun b o hc e => ⟨o, k b o hc e⟩) (fun _ _ e => e) (fun _ _ _ e => e) (fun b ps e => ⟨#[], by rw [e]; simp⟩) (fun m hm => ?_) (fun b u e => ?_) I.bare
  · obtain ⟨o, es, ep, ho, r⟩ := hm
    exact ⟨o, es, ep, k _ o (fun z => (hf _ z).2.1 rfl) ho, r⟩
  · refine (I.hok b u e).stay (fun c v hc q => k c v ?_ q) (fun _ q => q) fun _ _ q => q
    rcases hc with z | z
    · rw [z]; exact nit b u e
    · exact nit c _ z
theorem Inv.turnsT {X : Cx} {pins : List (Addr × Obj)} {σ : St} {H : Hp} {s : Shared} {h' : Heap} {ch : List Addr} {t' : Nat} {T : Addr} {xs : List V} {its : List Value} (I : Inv X pins σ H s) (hf : ∀ b ∈ ch, FpOk X pins H b) (k : ∀ b o, b ∉ ch → s.heap.get? b = some o → h'.get? b = some o)
    (hT : s.heap.objs.size ≤ T) (r : Vals xs its) (ht : IsTup h' T its.toArray) (hz : xs.length ≤ sizeLine) : Inv X pins σ (upd H T (.tup xs)) { s with heap := h', toks := t' } := by
  have hn : H T = none := I.hok.fresh hT
  have nit : ∀ b u, H b = some u → b ∉ ch := fun b u e z => by rw [(hf b z).1] at e; cases e
  have lt : ∀ b o, s.heap.get? b = some o → b ≠ T := fun b o e => Nat.ne_of_lt (Nat.lt_of_lt_of_le (Heap.lt_size e) hT)
  refine I.step (g' := s.gens) (d' := s.drawn) (ch := ch) (fun b hb => ⟨(hf b hb).2.2.2.1, (hf b hb).2.1, (hf b hb).2.2.2.2.1, (hf b hb).2.2.2.2.2⟩) (fun b o _ _ hc e _ => k b o hc e) (fun b o _ _ hc e _ => ⟨o.slots, k b o hc e⟩) (fun b o _ e n => by rw [upd_ne (lt b o e)]; exact n)
    (fun b o hc e => ⟨o, k b o hc e⟩) (fun b ys e => by rw [upd_ne (ne_of_none e hn)]; exact e) (fun b o u e => by rw [upd_ne (ne_of_none e hn)]; exact e) (fun b ps e => ⟨#[], by rw [upd_ne (ne_of_none e hn), e]; simp⟩) (fun m hm => ?_) (fun b u e => ?_) I.bare
  · obtain ⟨o, es, ep, ho, r⟩ := hm
    exact ⟨o, es, ep, k _ o (fun z => (hf _ z).2.1 rfl) ho, r⟩
  · by_cases hb : b = T
    · subst hb
      rw [upd_same] at e
      cases e
      exact ⟨hz, its, r, ht⟩
    · rw [upd_ne hb] at e
      refine (I.hok b u e).stay (fun c v hc q => k c v ?_ q) (fun c q => ?_) fun c w q => ?_
      · rcases hc with z | z
        · rw [z]; exact nit b u e
        · exact nit c _ z
      · rw [upd_ne (ne_of_none q hn)]; exact q
      · rw [upd_ne (ne_of_none q hn)]; exact q
section
variable {X : Cx}
end
end L2
namespace Bw
def C : Nat → Nat → Nat
  | _, 0 => 1
  | 0, _ + 1 => 0
  | n + 1, k + 1 => C n k + C n (k + 1)
theorem C_zero (n : Nat) : C n 0 = 1 := by cases n <;> rfl
theorem C_zero_succ (k : Nat) : C 0 (k + 1) = 0 := rfl
theorem C_succ (n k : Nat) : C (n + 1) (k + 1) = C n k + C n (k + 1) := rfl
theorem C_above : ∀ (n k : Nat), n < k → C n k = 0
  | n, 0, h => absurd h (Nat.not_lt_zero _)
  | 0, _ + 1, _ => rfl
  | n + 1, k + 1, h => by
    rw [C_succ, C_above n k (by omega), C_above n (k + 1) (by omega)]
theorem C_self : ∀ n : Nat, C n n = 1
  | 0 => rfl
  | n + 1 => by rw [C_succ, C_self n, C_above n (n + 1) (by omega)]
theorem C_one : ∀ n : Nat, C n 1 = n
  | 0 => rfl
  | n + 1 => by rw [C_succ, C_zero, C_one n]; omega
theorem C_step : ∀ (n k : Nat), (k + 1) * C n (k + 1) + k * C n k = n * C n k
  | 0, 0 => by simp [C]
  | 0, k + 1 => by simp [C]
  | n + 1, 0 => by rw [C_one, C_zero]; omega
  | n + 1, k + 1 => by
    have h1 := C_step n k
    have h2 := C_step n (k + 1)
    rw [C_succ n (k + 1), C_succ n k]
    have e1 : (k + 1 + 1) * (C n (k + 1) + C n (k + 1 + 1)) = (k + 1 + 1) * C n (k + 1) + (k + 1 + 1) * C n (k + 1 + 1) := Nat.mul_add _ _ _
    have e2 : (k + 1) * (C n k + C n (k + 1)) = (k + 1) * C n k + (k + 1) * C n (k + 1) := Nat.mul_add _ _ _
    have e3 : (n + 1) * (C n k + C n (k + 1)) = (n * C n k + C n k) + (n * C n (k + 1) + C n (k + 1)) := by rw [Nat.mul_add, Nat.succ_mul, Nat.succ_mul]
    have e4 : (k + 1 + 1) * C n (k + 1) = (k + 1) * C n (k + 1) + C n (k + 1) := Nat.succ_mul _ _
    have e5 : (k + 1) * C n k = k * C n k + C n k := Nat.succ_mul _ _
    rw [e1, e2, e3, e4, e5]
    omega
theorem C_step' {n k : Nat} (h : k ≤ n) : (k + 1) * C n (k + 1) = C n k * (n - k) := by
  have e := C_step n k
  have e2 : C n k * (n - k) + k * C n k = n * C n k := by
    rw [Nat.mul_comm (C n k), ← Nat.add_mul, Nat.sub_add_cancel h]
  omega
theorem C_div {n k : Nat} (h : k ≤ n) : C n k * (n - k) / (k + 1) = C n (k + 1) := by
  rw [← C_step' h, Nat.mul_div_cancel_left _ (Nat.succ_pos k)]
theorem C_le_pow : ∀ (n k : Nat), C n k ≤ n ^ k
  | n, 0 => by rw [C_zero]; exact Nat.le_refl _
  | n, k + 1 => by
    have ih := C_le_pow n k
    by_cases h : k ≤ n
    · rw [← C_div h, Nat.pow_succ]
      refine Nat.le_trans (Nat.div_le_self _ _) ?_
      exact Nat.mul_le_mul ih (Nat.sub_le _ _)
    · rw [C_above n (k + 1) (by omega)]; exact Nat.zero_le _
def ch (n k : Int) : Int := (C n.toNat k.toNat : Nat)
theorem ch_nonneg (n k : Int) : 0 ≤ ch n k := Int.natCast_nonneg _
theorem ch_nat (n k : Nat) : ch (n : Int) (k : Int) = (C n k : Nat) := by
  unfold ch; rw [Int.toNat_natCast, Int.toNat_natCast]
theorem ch_above {n k : Int} (h0 : 0 ≤ n) (h : n < k) : ch n k = 0 := by
  unfold ch; rw [C_above _ _ (by omega)]; rfl
theorem ch_zero (n : Int) : ch n 0 = 1 := by
  unfold ch; rw [show (0 : Int).toNat = 0 from rfl, C_zero]; rfl
theorem ch_succ {n k : Int} (hn : 0 ≤ n) (hk : 0 ≤ k) : ch (n + 1) (k + 1) = ch n k + ch n (k + 1) := by
  unfold ch
  rw [show (n + 1).toNat = n.toNat + 1 by omega, show (k + 1).toNat = k.toNat + 1 by omega, C_succ]
  omega
theorem ch_step {n : Int} {i : Nat} (hn : (i : Int) ≤ n) : ch n i * (n - i) / ((i : Int) + 1) = ch n ((i : Int) + 1) := by
  unfold ch
  have e : n = ((n.toNat : Nat) : Int) := by omega
  have e1 : ((i : Int) + 1).toNat = i + 1 := by omega
  have e2 : ((i : Nat) : Int).toNat = i := by omega
  have e3 : n - (i : Int) = ((n.toNat - i : Nat) : Int) := by omega
  rw [e1, e2, e3, ← C_div (n := n.toNat) (k := i) (by omega)]
  have e4 : ((i : Int) + 1) = ((i + 1 : Nat) : Int) := by omega
  rw [e4, ← Int.natCast_mul, ← Int.natCast_ediv]
def fac : Nat → Int
  | 0 => 1
  | i + 1 => fac i * ((i : Int) + 1)
theorem fac_succ (i : Nat) : fac (i + 1) = fac i * ((i : Int) + 1) := rfl
end Bw
namespace Bw
theorem C_mono1 : ∀ (n k : Nat), C n k ≤ C (n + 1) k
  | n, 0 => by rw [C_zero, C_zero]; exact Nat.le_refl _
  | n, k + 1 => by rw [C_succ]; omega
theorem C_mono {m n : Nat} (k : Nat) (h : m ≤ n) : C m k ≤ C n k := by
  induction h with
  | refl => exact Nat.le_refl _
  | step _ ih => exact Nat.le_trans ih (C_mono1 _ _)
theorem C_pos {n k : Nat} (h : k ≤ n) : 0 < C n k := by
  have := C_mono k h
  rw [C_self] at this
  omega
theorem C_pos_le {n k : Nat} (h : 0 < C n k) : k ≤ n := by
  rcases Nat.lt_or_ge n k with z | z
  · rw [C_above n k z] at h; omega
  · exact z
theorem C_drop (n k : Nat) : ∀ j : Nat, j ≤ n → C n (k + 1) ≤ C (n - j) (k + 1) + j * C (n - 1) k
  | 0, _ => by simp
  | j + 1, h => by
    have ih := C_drop n k j (by omega)
    obtain ⟨r, hr⟩ : ∃ r, n - j = r + 1 := ⟨n - j - 1, by omega⟩
    have e : n - (j + 1) = r := by omega
    have m := C_mono (m := r) (n := n - 1) k (by omega)
    rw [hr, C_succ] at ih
    rw [e, Nat.succ_mul]
    omega
theorem step_down {t k number : Nat} (h : number < C t (k + 1)) (d : Nat) (hd : d = (C t (k + 1) - number + C (t - 1) k - 1) / C (t - 1) k) :
    0 < C (t - 1) k ∧ 1 ≤ d ∧ d ≤ t ∧ number < C (t - d + 1) (k + 1) := by
  have hk : k + 1 ≤ t := C_pos_le (by omega)
  have ho : 0 < C (t - 1) k := C_pos (by omega)
  have hdm : d * C (t - 1) k ≤ C t (k + 1) - number + C (t - 1) k - 1 := by
    rw [hd]; exact Nat.div_mul_le_self _ _
  have d1 : 1 ≤ d := by
    rw [hd]; exact (Nat.le_div_iff_mul_le ho).mpr (by omega)
  have s : (d - 1) * C (t - 1) k + C (t - 1) k = d * C (t - 1) k := by
    have e : d = d - 1 + 1 := by omega
    conv => rhs; rw [e, Nat.succ_mul]
  have lt : (d - 1) * C (t - 1) k < C t (k + 1) - number := by omega
  have dt : d - 1 ≤ t := by
    rcases Nat.lt_or_ge t (d - 1) with z | z
    · have q := C_drop t k t (Nat.le_refl _)
      rw [Nat.sub_self, C_zero_succ] at q
      have w : t * C (t - 1) k ≤ (d - 1) * C (t - 1) k := Nat.mul_le_mul_right _ (by omega)
      omega
    · exact z
  have q := C_drop t k (d - 1) dt
  have gt : number < C (t - (d - 1)) (k + 1) := by omega
  have ge := C_pos_le (n := t - (d - 1)) (k := k + 1) (by omega)
  have e : t - d + 1 = t - (d - 1) := by omega
  rw [e]
  exact ⟨ho, d1, by omega, gt⟩
def facN : Nat → Nat
  | 0 => 1
  | i + 1 => facN i * (i + 1)
theorem C_fac_ge : ∀ {n k : Nat}, k ≤ n → (n + 1 - k) ^ k ≤ C n k * facN k
  | n, 0, _ => by rw [C_zero]; exact Nat.le_refl _
  | n, k + 1, h => by
    have ih := C_fac_ge (n := n) (k := k) (by omega)
    have st := C_step' (n := n) (k := k) (by omega)
    have e : C n (k + 1) * facN (k + 1) = C n k * facN k * (n - k) := by
      show C n (k + 1) * (facN k * (k + 1)) = _
      rw [Nat.mul_comm (facN k), ← Nat.mul_assoc, Nat.mul_comm (C n (k + 1)), st, Nat.mul_assoc, Nat.mul_comm (n - k), ← Nat.mul_assoc]
    rw [e]
    have e2 : n + 1 - (k + 1) = n - k := by omega
    rw [e2, Nat.pow_succ]
    refine Nat.mul_le_mul_right _ (Nat.le_trans (Nat.pow_le_pow_left (by omega) k) ih)
theorem start_above {number k f : Nat} (h : number * facN k < 2 ^ (f * k)) : number < C (2 ^ f + k) k := by
  rw [Nat.pow_mul] at h
  generalize 2 ^ f = p at h ⊢
  have q := C_fac_ge (n := p + k) (k := k) (by omega)
  have e : p + k + 1 - k = p + 1 := by omega
  rw [e] at q
  have r : p ^ k ≤ (p + 1) ^ k := Nat.pow_le_pow_left (by omega) k
  rcases Nat.lt_or_ge number (C (p + k) k) with z | z
  · exact z
  · have := Nat.mul_le_mul_right (facN k) z
    omega
theorem fac_nat : ∀ i : Nat, fac i = (facN i : Nat)
  | 0 => rfl
  | i + 1 => by
    rw [fac_succ, fac_nat i]
    show _ = ((facN i * (i + 1) : Nat) : Int)
    rw [Int.natCast_mul]
    rfl
structure IsTop (k number t : Int) : Prop where
  lo : k - 1 ≤ t
  le : ch t k ≤ number
  lt : number < ch (t + 1) k
theorem ch_mono {m n k : Int} (h : m ≤ n) : ch m k ≤ ch n k := by
  unfold ch
  exact Int.ofNat_le.mpr (C_mono _ (by omega))
theorem IsTop.unique {k number t u : Int} (a : IsTop k number t) (b : IsTop k number u) : t = u := by
  rcases (by omega : t = u ∨ t + 1 ≤ u ∨ u + 1 ≤ t) with e | e | e
  · exact e
  · have := ch_mono (k := k) e
    have h1 := a.lt
    have h2 := b.le
    omega
  · have := ch_mono (k := k) e
    have h1 := b.lt
    have h2 := a.le
    omega
theorem ch_pos_le {n k : Int} (hn : 0 ≤ n) (h : 0 < ch n k) : k ≤ n := by
  rcases (by omega : k ≤ n ∨ n < k) with z | z
  · exact z
  · rw [ch_above hn z] at h; omega
theorem ch_pos {n k : Int} (hk : 0 ≤ k) (h : k ≤ n) : 0 < ch n k := by
  unfold ch
  exact Int.ofNat_lt.mpr (C_pos (by omega))
theorem step_downI {t k number : Int} (hk : 1 ≤ k) (h0 : 0 ≤ number) (ht : 0 ≤ t) (h : number < ch t k) (d : Int) (hd : d = (ch t k - number + ch (t - 1) (k - 1) - 1) / ch (t - 1) (k - 1)) :
    k ≤ t ∧ 0 < ch (t - 1) (k - 1) ∧ 1 ≤ d ∧ k - 1 ≤ t - d ∧ number < ch (t - d + 1) k := by
  have kt : k ≤ t := ch_pos_le ht (by omega)
  obtain ⟨j, hj⟩ : ∃ j : Nat, k = (j : Int) + 1 := ⟨(k - 1).toNat, by omega⟩
  obtain ⟨m, hm⟩ : ∃ m : Nat, t = (m : Int) := ⟨t.toNat, by omega⟩
  obtain ⟨r, hr⟩ : ∃ r : Nat, number = (r : Int) := ⟨number.toNat, by omega⟩
  subst hj hm hr
  have e1 : ch (m : Int) ((j : Int) + 1) = (C m (j + 1) : Nat) := by
    rw [show ((j : Int) + 1) = ((j + 1 : Nat) : Int) by omega, ch_nat]
  have e2 : ch ((m : Int) - 1) ((j : Int) + 1 - 1) = (C (m - 1) j : Nat) := by
    rw [show ((m : Int) - 1) = ((m - 1 : Nat) : Int) by omega, show ((j : Int) + 1 - 1) = ((j : Nat) : Int) by omega, ch_nat]
  rw [e1] at h
  rw [e1, e2] at hd
  have h' : r < C m (j + 1) := by omega
  obtain ⟨s1, s2, s3, s4⟩ := step_down h' _ rfl
  have ed : d = (((C m (j + 1) - r + C (m - 1) j - 1) / C (m - 1) j : Nat) : Int) := by
    rw [hd, Int.natCast_ediv]
    congr 1
    omega
  generalize (C m (j + 1) - r + C (m - 1) j - 1) / C (m - 1) j = dn at s2 s3 s4 ed
  subst ed
  have e3 : ch ((m : Int) - (dn : Int) + 1) ((j : Int) + 1) = (C (m - dn + 1) (j + 1) : Nat) := by
    rw [show ((m : Int) - (dn : Int) + 1) = ((m - dn + 1 : Nat) : Int) by omega, show ((j : Int) + 1) = ((j + 1 : Nat) : Int) by omega, ch_nat]
  have le := C_pos_le (n := m - dn + 1) (k := j + 1) (by omega)
  rw [e2, e3]
  exact ⟨kt, by omega, by omega, by omega, by omega⟩
theorem aboveI {number k : Int} {F b : Nat} (hk : 1 ≤ k) (h0 : 0 ≤ number) (hb : (number * fac k.toNat).natAbs < 2 ^ b) (hF : (b : Int) ≤ (F : Int) * k) : number < ch ((2 : Int) ^ F + k - 1 + 1) k := by
  obtain ⟨j, hj⟩ : ∃ j : Nat, k = (j : Int) := ⟨k.toNat, by omega⟩
  obtain ⟨r, hr⟩ : ∃ r : Nat, number = (r : Int) := ⟨number.toNat, by omega⟩
  subst hj hr
  rw [Int.toNat_natCast, fac_nat, ← Int.natCast_mul, Int.natAbs_natCast] at hb
  have hF' : b ≤ F * j := by
    have : ((F * j : Nat) : Int) = (F : Int) * (j : Int) := Int.natCast_mul _ _
    omega
  have s := start_above (number := r) (k := j) (f := F) (Nat.lt_of_lt_of_le hb (Nat.pow_le_pow_right (by decide) hF'))
  have e : (2 : Int) ^ F + (j : Int) - 1 + 1 = ((2 ^ F + j : Nat) : Int) := by
    rw [Int.natCast_add, Int.natCast_pow]
    show _ = (2 : Int) ^ F + (j : Int)
    omega
  rw [e, ch_nat]
  exact Int.ofNat_lt.mpr s
end Bw
namespace Bw
open PySem L2
open Builtin.Int (intBits)
def spChoose : Sp := fun vs H Q _ => ∃ n k : Int, vs = [.int n, .int k] ∧ 0 ≤ n ∧ 0 ≤ k ∧ k ≤ 1000 ∧ intBits n ≤ 100000 ∧ Q (.int (ch n k)) H
def spRound : Sp := fun vs H Q _ => ∃ a b : Int, vs = [.int a, .int b] ∧ 0 < b ∧ Q (.int ((a + b - 1) / b)) H
def spAbove : Sp := fun vs H Q _ => ∃ k number : Int, vs = [.int k, .int number] ∧ 1 ≤ k ∧ k ≤ 60 ∧ 0 ≤ number ∧ intBits number ≤ 50000 ∧ ∀ t : Int, k - 1 ≤ t → number < ch (t + 1) k → intBits t ≤ 60000 → Q (.int t) H
theorem bits_of {x : Int} {m : Nat} (h1 : 0 ≤ x) (h2 : x < (2 : Int) ^ m) : intBits x ≤ m := by
  refine intBits_le_iff.mpr ?_
  have e : ((2 ^ m : Nat) : Int) = (2 : Int) ^ m := by
    rw [Int.natCast_pow]; rfl
  rw [← e] at h2
  omega
theorem bits_mono {x : Int} {m n : Nat} (h : intBits x ≤ m) (hm : m ≤ n) : intBits x ≤ n := Nat.le_trans h hm
theorem bits_ch {n : Int} {k m : Nat} (h : intBits n ≤ m) (hn : 0 ≤ n) : intBits (ch n k) ≤ m * k + 1 := by
  refine intBits_le_of_natAbs (y := n ^ k) ?_ (intBits_pow_le h k)
  unfold ch
  rw [Int.toNat_natCast]
  have e : n = ((n.toNat : Nat) : Int) := by omega
  have e2 : (n ^ k).natAbs = n.toNat ^ k := by
    rw [Int.natAbs_pow]
    congr 1
    omega
  rw [e2]
  have := C_le_pow n.toNat k
  omega
theorem bits_fac : ∀ i : Nat, i ≤ 64 → intBits (fac i) ≤ 7 * i + 1
  | 0, _ => by decide
  | i + 1, hi => by
    rw [fac_succ]
    exact bits_mono (intBits_mul_le (m := 7 * i + 1) (n := 7) (bits_fac i (by omega)) (bits_of (by omega) (by omega))) (by omega)
end Bw
namespace L2
open PySem PySem.Spec PyProof.Rows
section
variable {X : Cx}
end
end L2
namespace L2
open PySem PySem.Spec PyProof.Rows
def LL (H : Hp) (p : Addr) (nss : List (List Int)) : Prop := ∃ as : List Addr, H p = some (.lst (as.map V.ref)) ∧ Paired (fun b (ns : List Int) => H b = some (.lst (ns.map V.int))) as nss
def LLm (H : Hp) (p : Addr) (nss : List (List Int)) : Prop := ∃ as : List Addr, H p = some (.lst (as.map V.ref)) ∧ Paired (fun b (ns : List Int) => b ≠ p ∧ H b = some (.lst (ns.map V.int))) as nss
theorem paired_imp {α β : Type} {F G : α → β → Prop} (h : ∀ a b, F a b → G a b) : ∀ {as : List α} {bs : List β}, Paired F as bs → Paired G as bs
  | _, _, .nil => .nil
  | _, _, .cons x y => .cons (h _ _ x) (paired_imp h y)
theorem LL.same {H H' : Hp} {p : Addr} {nss : List (List Int)} (s : Same H H') (h : LL H p nss) : LL H' p nss := by
  obtain ⟨as, e, q⟩ := h
  exact ⟨as, s _ _ e, paired_imp (fun _ _ z => s _ _ z) q⟩
theorem LLm.push {H H' : Hp} {pm t : Addr} {bs : List Addr} {nss : List (List Int)} {ns : List Int} (h2 : Paired (fun b (ns : List Int) => b ≠ pm ∧ H b = some (.lst (ns.map V.int))) bs nss) (sm : Same H H') (ht : H' t = some (.lst (ns.map V.int))) (hne : t ≠ pm) :
    LLm (upd H' pm (.lst (bs.map V.ref ++ [V.ref t]))) pm (nss ++ [ns]) := by
  refine ⟨bs ++ [t], by rw [upd_same, List.map_append]; rfl, Paired.snoc (paired_imp (fun b n z => ⟨z.1, by rw [upd_ne z.1]; exact sm _ _ z.2⟩) h2) ⟨hne, ?_⟩⟩
  · rw [upd_ne hne]; exact ht
end L2
namespace L2
open PySem PySem.Spec PyProof.Rows
section
variable {prog : Program} {w : World} {A : Around} {E : Value → Shared → Prop} {s : Shared}
end
section
variable {X : Cx}
end
end L2
namespace L2
open PySem PySem.Spec PyProof.Rows
open PySem.W (hideAll of_hideAll hideAll_get)
theorem ObjOk.there {P : Program} {w : World} {H : Hp} {h : Heap} {a : Addr} {o : HO} (x : ObjOk P w H h a o) : ∃ ob, h.get? a = some ob := by
  cases o with
  | lst xs => obtain ⟨_, _, _, _, e⟩ := x; exact ⟨_, e⟩
  | tup xs => obtain ⟨_, _, _, ob, e, _⟩ := x; exact ⟨_, e⟩
  | dK kvs => obtain ⟨_, _, _, _, o, _, _, e, _⟩ := x; exact ⟨_, e⟩
  | dT kvs => obtain ⟨_, _, _, _, o, _, _, e, _⟩ := x; exact ⟨_, e⟩
  | set S n => obtain ⟨o, _, _, _, e, _⟩ := x; exact ⟨_, e⟩
  | ins C dx fs => obtain ⟨_, _, _, e, _⟩ := x; exact ⟨_, e⟩
  | own y => obtain ⟨_, e⟩ := x; exact ⟨_, e⟩
  | xd fs => obtain ⟨_, ⟨_, _, _, e, _⟩, _⟩ := x; exact ⟨_, e⟩
  | rng lo hi => obtain ⟨_, _, _, e⟩ := x; exact ⟨_, e⟩
  | frz ob u => obtain ⟨e, _⟩ := x; exact ⟨_, e⟩
  | tbl ps => exact ⟨_, (show h.get? a = some _ from x)⟩
  | met f y => exact ⟨_, (show h.get? a = some _ from x)⟩
  | ext φ => obtain ⟨_, ⟨_, e⟩, _⟩ := x; exact ⟨_, e⟩
section
variable {P : Program} {w : World} {K : PySem.W.Frag} {mg : Str → Option Value} {base : Heap} {N : List Str} {qual : Str} {scope : Scope} {f : Addr} {cdv : Value} {A : Around} {outer : List Env} {s s2 : Shared} {H H1 : Hp} {E : XK} {pins : List (Addr × Obj)} {σ : St}
end
section
variable {P : Program} {w : World} {K : PySem.W.Frag} {mg : Str → Option Value} {base : Heap}
end
section
variable {P : Program} {w : World} {K : PySem.W.Frag} {mg : Str → Option Value} {base : Heap}
end
section
variable {M : Model} {A : Around} {E : Value → Shared → Prop} {h : Heap} {g : Array GenState} {d : Drawn} {t : Nat} {os : OsState}
end
section
variable {X : Cx} {pins : List (Addr × Obj)} {σ : St} {H : Hp} {s : Shared}
abbrev Cx.inX (X : Cx) (x : Addr) : Cx := { X with A := X.A.mark (some (.ref x)), calm := false, xe := fun _ _ => False }
theorem Inv.inX (I : Inv X pins σ H s) (x : Addr) : Inv (X.inX x) pins σ H s :=
  ⟨⟨I.ok.mod, I.ok.kind, I.ok.glob, I.ok.blt, I.ok.above, I.ok.inj, I.ok.has, I.ok.cab, fun z => Bool.noConfusion z, I.ok.frames, I.ok.stk, I.ok.exf, I.ok.bs, I.ok.bsz, I.ok.noex, I.ok.exfs, I.ok.funs, I.ok.frf⟩, I.os, I.bare, I.base, I.loc, I.cell, I.free, I.freeC, I.pin, I.hok, I.len⟩
def excIs (x : Addr) (C : Value) : HO := .ext fun h => ∃ o, h.get? x = some o ∧ o.cls = C
end
section
variable {X : Cx} {pins : List (Addr × Obj)} {σ : St} {H : Hp} {s : Shared}
end
end L2
namespace L2
open PySem PySem.Spec PyProof.Rows
def Ite (K : PySem.W.Frag) (l : Addr) (N : Nat) : It :=
  ⟨fun i H => ∃ xs x, SqL K H l xs ∧ xs.length = N ∧ xs[i]? = some x,
   fun i H v H' => ∃ t, H t = none ∧ v = .ref t ∧ ∀ xs x, SqL K H l xs → xs[i]? = some x → H' = upd H t (.tup [.int i, x]),
   fun i H => i = N ∧ ∃ xs, SqL K H l xs ∧ xs.length = N⟩
theorem turn_enumL {P : Program} {w : World} {K : PySem.W.Frag} {elts : List Expr} {x1 : Nat} {tp : Pos} (l e it : Addr) (N : Nat) (hei : e ≠ it) (hle : l ≠ e) (hli : l ≠ it) :
    Turn P w K (.Tuple elts x1 tp) (Ite K l N) [e, it] e (fun i h => (∃ old, IsEnum h e it i old) ∧ h.IsListIter it l i) where
  mem := by simp
  obj := fun i h ⟨⟨old, h1⟩, h2⟩ c hc => by
    simp only [List.mem_cons, List.not_mem_nil, or_false] at hc
    rcases hc with z | z
    · subst z; exact ⟨_, h1, fun v q => by have q' : Data.fields _ = Data.cell v := q; cases q'⟩
    · subst z
      obtain ⟨o, ho, _, hd⟩ := h2
      exact ⟨o, ho, fun v q => by rw [hd] at q; cases q⟩
  keep := fun i h h' ⟨⟨old, h1⟩, h2⟩ k => ⟨⟨old, k e (by simp) _ h1⟩, h2.at fun o z => k it (by simp) o z⟩
  item := by
    intro X hP hw hK hc i pins s σ H E I hf ⟨⟨old, h1⟩, h2⟩ ⟨xs, x, q1, hN, hx⟩
    subst hP hw hK
    obtain ⟨it1, v1, p1, z1⟩ := I.list q1
    have hl1 := v1.length
    have hsz : it1.toArray.size = N := by rw [List.size_toArray]; omega
    have hi : i < N := by have := (List.getElem?_eq_some_iff.mp hx).1; omega
    obtain ⟨u1, e1, r1⟩ := v1.get hx
    have D := Draws.list (prog := X.prog) (w := X.w) (A := X.A.in1) (I.ok.hd hc) it l hli it1.toArray
    rw [hsz] at D
    refine wpAny_pyNext_enum_itemD D h1 ⟨h2, p1.isList⟩ hi hei (by simp only [List.mem_cons, List.not_mem_nil, or_false, not_or]; exact ⟨hei, Ne.symm hle⟩) fun u h' tk hu g1 gst gT gs k => ?_
    refine ⟨_, rfl, wpAny_letOwnedTupleGo_enum g1 fun h'' g1' sb => ?_⟩
    have hzT : s.heap.objs.size ≠ e := Nat.ne_of_gt (Heap.lt_size h1)
    have eu : u = u1 := by
      have hu' : it1[i]? = some u := by simpa using hu
      rw [e1] at hu'
      exact (Option.some.inj hu').symm
    subst eu
    have gT' : IsTup h'' s.heap.objs.size [Value.int i tk, u].toArray := ⟨_, sb.extBut _ _ hzT gT, rfl, _, rfl⟩
    have hlz : ∀ {c : Addr} {o : Obj}, c ≠ e → h'.get? c = some o → h''.get? c = some o := fun hcz z => sb.extBut _ _ hcz z
    refine ⟨.ref s.heap.objs.size, upd H s.heap.objs.size (.tup [.int i, x]), I.turnsT (ch := [e, it]) (t' := tk + 1) (fun c hcm => hf c hcm) (fun c o hcn z => ?_) (Nat.le_refl _) (.cons ⟨tk, rfl⟩ (.cons r1 .nil)) gT' (by show 2 ≤ sizeLine; decide), rfl,
      ⟨_, I.hok.fresh (Nat.le_refl _), rfl, fun xs' x' w1 w2 => ?_⟩, ⟨⟨_, g1'⟩, gst.1.at fun o z => hlz (Ne.symm hei) z⟩, fun c hcm => ?_⟩
    · simp only [List.mem_cons, List.not_mem_nil, or_false, not_or] at hcn
      exact hlz hcn.1 (k c o hcn.1 hcn.2 z)
    · have a1 := I.list_inj w1 q1
      subst a1
      rw [hx] at w2
      cases w2
      rfl
    · obtain ⟨o, z, _⟩ : ∃ o, s.heap.get? c = some o ∧ True := by
        simp only [List.mem_cons, List.not_mem_nil, or_false] at hcm
        rcases hcm with z | z
        · subst z; exact ⟨_, h1, trivial⟩
        · subst z; obtain ⟨o, ho, _⟩ := h2; exact ⟨o, ho, trivial⟩
      rw [upd_ne (Nat.ne_of_lt (Heap.lt_size z))]
      exact (hf c hcm).1
  done := by
    intro X hP hw hK hc i pins s σ H E I hf ⟨⟨old, h1⟩, h2⟩ ⟨hi, xs, q1, hN⟩
    subst hP hw hK hi
    obtain ⟨it1, v1, p1, z1⟩ := I.list q1
    have hl1 := v1.length
    have hsz : it1.toArray.size = i := by rw [List.size_toArray]; omega
    have D := Draws.list (prog := X.prog) (w := X.w) (A := X.A.in1) (I.ok.hd hc) it l hli it1.toArray
    rw [hsz] at D
    refine wpAny_pyNext_enum_endD D h1 ⟨h2, p1.isList⟩ fun h' k => ⟨rfl, I.turns (ch := [e, it]) (t' := s.toks) hf fun c o hcn z => ?_⟩
    simp only [List.mem_cons, List.not_mem_nil, or_false, not_or] at hcn
    exact k c o hcn.2 z
  self := fun _ _ _ _ _ st h => let ⟨⟨_, z⟩, _⟩ := st; wpAny_pyIter_enum z h
section
variable {X : Cx}
def iEnumL (K : PySem.W.Frag) (ta : TA) : TI := fun σ H R => ta σ H fun vs H1 => ∃ a xs, vs = [.ref a] ∧ SqL K H1 a xs ∧ R (Ite K a xs.length) H1
theorem pi_enumL {a : Expr} {ta : TA} {p pos : Pos} {elts : List Expr} {x1 : Nat} {tp : Pos} (hg : Gl X "enumerate") (hm : X.mg "enumerate" = none) (ha : PA X [a] ta)
    (hs : starEach [a] X.env = (false, eval a X.env) :: starEach [] X.env := by rfl) (hs2 : (backTo pos (starEach [] X.env)).any (·.1) = false := by rfl) :
    PI X (.Tuple elts x1 tp) (.Call (.Name "enumerate" p) [a] [] pos) (iEnumL X.K ta) := by
  intro pins s σ H R I h
  refine Call_ (ld_blt I hg hm b_enumerate (PyProof.Rows.callWith_type1 (thn (ha pos pins s σ H _ I h) fun us s1 ⟨vs, H1, I1, r1, q1⟩ => ?_) hs hs2))
  obtain ⟨l, xs, e, q1, q⟩ := q1
  subst e
  obtain ⟨u, rfl, w1⟩ := vals1 r1
  cases w1
  obtain ⟨its, v1, p1, z1⟩ := I1.list q1
  have hl : l < s1.heap.objs.size := by obtain ⟨_, _, e, _⟩ := p1; exact Heap.lt_size e
  refine call_enumerate_list p1.isList fun h' g1 g2 gs k => ?_
  refine wpAny_pyIter_enum g1 ?_
  refine ⟨s1.heap.objs.size + 1, [s1.heap.objs.size + 1, s1.heap.objs.size], _, _, H1, rfl, I1.kept (t' := s1.toks) k, turn_enumL l _ s1.heap.objs.size xs.length ?_ ?_ ?_, ⟨⟨_, g1⟩, g2⟩, fun c hcm => ?_, q⟩
  · exact Nat.succ_ne_self _
  · exact Nat.ne_of_lt (Nat.lt_succ_of_lt hl)
  · exact Nat.ne_of_lt hl
  · have hc : s1.heap.objs.size ≤ c := by
      simp only [List.mem_cons, List.not_mem_nil, or_false] at hcm
      rcases hcm with e | e
      · rw [e]; exact Nat.le_succ _
      · rw [e]; exact Nat.le_refl _
    exact I1.fpOk hc (I1.hok.fresh hc)
end
theorem comp_enumP {K : PySem.W.Frag} {a acc : Addr} {xs : List V} {own : Nat} {ix : List Nat} {g : TG} {te : TE} {σ : St} {H1 : Hp} {Q : VK} (f : Nat → V) (hq1 : SqL K H1 a xs) (hn : H1 acc = none) (hz : xs.length ≤ sizeLine)
    (step : ∀ (i : Nat) (x : V) (t : Addr) (H : Hp) (R : VK), xs[i]? = some x → Same H1 H → H t = some (.tup [.int i, x]) → R (f i) H → g (.ref t) (blockSt own ix σ) H fun σ4 H4 => σ4.drop own = ix.map (fun i => (σ[i]?).getD none) ∧ te σ4 H4 R)
    (hd : ∀ H', Same H1 H' → H' acc = some (.lst ((List.range xs.length).map f)) → Q (.ref acc) H') : CompGo (Ite K a xs.length) own ix g tNoTest te σ H1 acc Q := by
  refine ⟨fun i m ys H => m = xs.length - i ∧ i ≤ xs.length ∧ ys = (List.range i).map f ∧ Same H1 H ∧ H acc = some (.lst ys), ⟨xs.length, by simp, Nat.zero_le _, rfl, Same.new hn, upd_same⟩, ?_⟩
  rintro i m zs H ⟨rfl, hi, rfl, sm, ha⟩
  refine ⟨ha, ?_⟩
  by_cases hlt : i < xs.length
  · refine .inr ⟨⟨xs, xs[i], sm.seq hq1, rfl, List.getElem?_eq_getElem hlt⟩, by rw [List.length_map, List.length_range]; omega, fun v H3 ⟨t, ht, hv, hy⟩ => ?_⟩
    have e := hy xs _ (sm.seq hq1) (List.getElem?_eq_getElem hlt)
    subst hv e
    have ha3 : (upd H t (.tup [.int i, xs[i]])) acc = some (.lst ((List.range i).map f)) := by rw [upd_ne (ne_of_none ha ht)]; exact ha
    exact step i _ t _ _ (List.getElem?_eq_getElem hlt) (sm.put ht) upd_same ⟨ha3, _, by omega, rfl, hlt, by rw [List.range_succ, List.map_append]; rfl, (sm.put ht).wr hn, upd_same⟩
  · have e : i = xs.length := by omega
    subst e
    exact .inl ⟨⟨rfl, xs, sm.seq hq1, rfl⟩, hd H sm ha⟩
theorem for_enum {K : PySem.W.Frag} {a : Addr} {xs : List V} {g : TG} {tb : TS} {D : Ends} {σ : St} {H : Hp} (Pv : Nat → St → Hp → Prop) (h0 : Pv 0 σ H) (hl : ∀ i σ H, Pv i σ H → SqL K H a xs)
    (hs : ∀ (i : Nat) x t σ H, xs[i]? = some x → Pv i σ H → H t = none → g (.ref t) σ (upd H t (.tup [.int i, x])) fun σ2 H2 => tb { D with nx := Pv (i + 1), ct := Pv (i + 1), bk := D.nx } σ2 H2) (hd : ∀ σ H, Pv xs.length σ H → D.nx σ H) :
    ∃ W : Nat → Nat → St → Hp → Prop, (∃ m, W 0 m σ H) ∧ ∀ i m σ H, W i m σ H →
      ((Ite K a xs.length).stop i H ∧ D.nx σ H) ∨ ((Ite K a xs.length).go i H ∧ ∃ N : St → Hp → Prop, (∀ σ' H', N σ' H' → ∃ m', m' < m ∧ W (i + 1) m' σ' H') ∧ ∀ x H', (Ite K a xs.length).yld i H x H' → g x σ H' fun σ2 H2 => tb { D with nx := N, ct := N, bk := D.nx } σ2 H2) := by
  refine ⟨fun i m σ H => m = xs.length - i ∧ i ≤ xs.length ∧ Pv i σ H, ⟨_, rfl, Nat.zero_le _, h0⟩, ?_⟩
  rintro i m σ H ⟨rfl, hi, p⟩
  have q1 := hl i σ H p
  by_cases hlt : i < xs.length
  · refine .inr ⟨⟨xs, xs[i], q1, rfl, List.getElem?_eq_getElem hlt⟩, Pv (i + 1), fun σ' H' p' => ⟨_, by omega, rfl, hlt, p'⟩, fun v H3 ⟨t, ht, hv, hy⟩ => ?_⟩
    have e := hy xs _ q1 (List.getElem?_eq_getElem hlt)
    subst hv e
    exact hs i _ t σ H (List.getElem?_eq_getElem hlt) p ht
  · have e : i = xs.length := by omega
    subst e
    exact .inl ⟨⟨rfl, xs, q1, rfl⟩, hd σ H p⟩
end L2
namespace L2
open PySem PySem.Spec PyProof.Rows
theorem comp_listG {K : PySem.W.Frag} {a acc : Addr} {xs : List V} {own : Nat} {ix : List Nat} {g : TG} {te : TE} {σ : St} {H1 : Hp} {Q : VK} (Pr : Nat → V → Hp → Prop) (hmono : ∀ i v H H', Same H H' → Pr i v H → Pr i v H') (hacc : ∀ i v H o, H acc = some o → ∀ o', Pr i v H → Pr i v (upd H acc o'))
    (hq : SqL K H1 a xs) (hn : H1 acc = none) (hz : xs.length ≤ sizeLine)
    (step : ∀ (i : Nat) (x : V) (H : Hp) (R : VK), xs[i]? = some x → Same H1 H → (∀ v H', Same H H' → Pr i v H' → R v H') → g x (blockSt own ix σ) H fun σ4 H4 => σ4.drop own = ix.map (fun i => (σ[i]?).getD none) ∧ te σ4 H4 R)
    (hd : ∀ ys H', Same H1 H' → H' acc = some (.lst ys) → ys.length = xs.length → (∀ i v, ys[i]? = some v → Pr i v H') → Q (.ref acc) H') :
    CompGo (Itl K a) own ix g tNoTest te σ H1 acc Q := by
  refine ⟨fun i m ys H => m = xs.length - i ∧ i ≤ xs.length ∧ ys.length = i ∧ (∀ j v, ys[j]? = some v → Pr j v H) ∧ Same H1 H ∧ H acc = some (.lst ys), ⟨xs.length, by simp, Nat.zero_le _, rfl, fun j v h => by simp at h, Same.new hn, upd_same⟩, ?_⟩
  rintro i m ys H ⟨rfl, hi, hl, pr, sm, ha⟩
  refine ⟨ha, ?_⟩
  have q := sm.seq hq
  by_cases hlt : i < xs.length
  · refine .inr ⟨⟨xs, xs[i], q, by simp [hlt]⟩, by omega, fun x H3 y => ?_⟩
    obtain ⟨e, y⟩ := y
    subst e
    refine step i x _ _ (y xs q) sm fun v H' s' pv => ⟨s' _ _ ha, xs.length - (i + 1), by omega, rfl, hlt, by rw [List.length_append, hl]; rfl, fun j u hj => ?_, (sm.trans s').wr hn, upd_same⟩
    by_cases hji : j < ys.length
    · rw [List.getElem?_append_left hji] at hj
      exact hacc j u H' _ (s' _ _ ha) _ (hmono j u _ _ s' (pr j u hj))
    · have hj2 := (List.getElem?_eq_some_iff.mp hj).1
      rw [List.length_append, List.length_singleton] at hj2
      have ej : j = i := by omega
      subst ej
      rw [List.getElem?_append_right (by omega), hl, Nat.sub_self] at hj
      have : v = u := by simpa using hj
      subst this
      exact hacc j v H' _ (s' _ _ ha) _ pv
  · have e : i = xs.length := by omega
    subst e
    exact .inl ⟨⟨xs, q, Nat.le_refl _⟩, hd ys H sm ha hl pr⟩
section
variable {X : Cx}
end
end L2
namespace L2
open PySem PySem.Spec PyProof.Rows PySem.W PySem.Calls
section
variable {prog : Program} {w : World} {A : Around} {E : Value → Shared → Prop} {s : Shared} {K : Frag} {x C : Addr} {ox : Obj}
structure ExcLook (K : Frag) (C : Addr) : Prop where
  ga : findIn K (.ref C) "__getattribute__" = some (some (.builtin "BaseException.__getattribute__"))
  hk : findIn K (.ref C) "__getattr__" = some none
  cl : findIn K (.ref C) "__class__" = some (some (.builtin "object.__class__"))
  gt : specialIn K (.builtin "object.__class__") "__get__" = some (some (.builtin "getset_descriptor.__get__"))
  tk : takesIn K (.builtin "object.__class__") = some true
  mo : mroIn K C (.type "object") = some true
  mb : mroIn K C (.type "BaseException") = some true
end
section
variable {K : Frag} {x C : Addr}
end
inductive XTy (K : PySem.W.Frag) (H : Hp) : V → Value → Prop where
  | of {x : V} {t : Value} (h : TyOf K H x t) : XTy K H x t
  | exc {a C : Addr} (L : ExcLook K C) (h : H a = some (excIs a (.ref C))) : XTy K H (.ref a) (.ref C)
section
variable {X : Cx}
end
section
variable {X : Cx} {k : Nat} {x : Str} {ps : List Str} {sp : Sp} {p pos : Pos} {e : Expr} {es : List Expr} {t : TA} {G : St → Value → Hp → Prop}
end
abbrev Cx.pinned (X : Cx) (pn : List (Addr × Obj)) : Cx := { X with pn := pn }
end L2
namespace L2
open PySem
def RiseT (xs : Array Nat) : Prop := xs.toList.Pairwise (· < ·)
theorem RiseT.lt {xs : Array Nat} (r : RiseT xs) {i j : Nat} (h : i < j) {x y : Nat} (hx : xs[i]? = some x) (hy : xs[j]? = some y) : x < y := by
  have hx' : xs.toList[i]? = some x := by rw [Array.getElem?_toList]; exact hx
  have hy' : xs.toList[j]? = some y := by rw [Array.getElem?_toList]; exact hy
  obtain ⟨a, rfl⟩ := List.getElem?_eq_some_iff.mp hx'
  obtain ⟨b, rfl⟩ := List.getElem?_eq_some_iff.mp hy'
  exact List.pairwise_iff_getElem.mp r i j a b h
def CutAt (xs : Array Nat) (j p : Nat) : Prop := p ≤ xs.size ∧ (∀ i x, i < p → xs[i]? = some x → x < j) ∧ ∀ i x, p ≤ i → xs[i]? = some x → j ≤ x
theorem below_go {xs : Array Nat} {j : Nat} (r : RiseT xs) : ∀ fuel lo hi, hi - lo ≤ fuel → lo ≤ hi → hi ≤ xs.size → (∀ i x, i < lo → xs[i]? = some x → x < j) → (∀ i x, hi ≤ i → xs[i]? = some x → j ≤ x) → CutAt xs j (SetTable.below.go xs j fuel lo hi)
  | 0, lo, hi, hf, h1, h2, ha, hb => by
    have e : lo = hi := by omega
    subst e
    exact ⟨h2, ha, hb⟩
  | fuel + 1, lo, hi, hf, h1, h2, ha, hb => by
    unfold SetTable.below.go
    by_cases h : lo < hi
    · rw [if_pos h]
      have hm : (lo + hi) / 2 < xs.size := by omega
      have hx : xs[(lo + hi) / 2]? = some xs[(lo + hi) / 2] := Array.getElem?_eq_getElem hm
      have hg : xs.getD ((lo + hi) / 2) j = xs[(lo + hi) / 2] := by rw [Array.getD_eq_getD_getElem?, hx]; rfl
      dsimp only
      rw [hg]
      by_cases hc : xs[(lo + hi) / 2] < j
      · rw [if_pos hc]
        refine below_go r fuel _ hi (by omega) (by omega) h2 (fun i x hi' e => ?_) hb
        rcases Nat.lt_or_eq_of_le (Nat.lt_succ_iff.mp hi') with q | q
        · exact Nat.lt_trans (r.lt q e hx) hc
        · subst q; rw [hx] at e; cases e; exact hc
      · rw [if_neg hc]
        refine below_go r fuel lo _ (by omega) (by omega) (by omega) ha (fun i x hi' e => ?_)
        rcases Nat.lt_or_eq_of_le hi' with q | q
        · have := r.lt q hx e; omega
        · subst q; rw [hx] at e; cases e; omega
    · rw [if_neg h]
      have e : lo = hi := by omega
      subst e
      exact ⟨h2, ha, hb⟩
theorem below_cut {xs : Array Nat} (r : RiseT xs) (j : Nat) : CutAt xs j (SetTable.below xs j) :=
  below_go r _ _ _ (by omega) (Nat.zero_le _) (Nat.le_refl _) (fun i x h => absurd h (Nat.not_lt_zero _)) (fun i x h e => by
    rw [Array.getElem?_eq_none h] at e; cases e)
theorem toList_insertAt {α : Type} (xs : Array α) (p : Nat) (x : α) : (SetTable.insertAt xs p x).toList = xs.toList.take p ++ x :: xs.toList.drop p := by
  unfold SetTable.insertAt
  simp [Array.toList_extract]
  exact List.take_of_length_le (by simp)
theorem mem_of_getElem? {xs : Array Nat} {x : Nat} (h : x ∈ xs.toList) : ∃ i : Nat, xs[i]? = some x := by
  obtain ⟨i, hi, e⟩ := List.getElem_of_mem h
  exact ⟨i, by rw [← Array.getElem?_toList, List.getElem?_eq_getElem hi, e]⟩
theorem RiseT.insert {xs : Array Nat} (r : RiseT xs) {j : Nat} (hj : j ∉ xs.toList) : RiseT (SetTable.insertAt xs (SetTable.below xs j) j) := by
  obtain ⟨hp, ha, hb⟩ := below_cut r j
  unfold RiseT
  rw [toList_insertAt, List.pairwise_append]
  have hd : ∀ y ∈ xs.toList.drop (SetTable.below xs j), j < y := fun y hy => by
    obtain ⟨i, hi, e⟩ := List.getElem_of_mem hy
    rw [List.getElem_drop] at e
    have hm : y ∈ xs.toList := List.mem_of_mem_drop hy
    have := hb (SetTable.below xs j + i) y (Nat.le_add_right _ _) (by rw [← Array.getElem?_toList, ← e]; exact List.getElem?_eq_getElem _)
    have hne : j ≠ y := fun q => hj (q ▸ hm)
    omega
  have ht : ∀ y ∈ xs.toList.take (SetTable.below xs j), y < j := fun y hy => by
    obtain ⟨i, hi, e⟩ := List.getElem_of_mem hy
    rw [List.getElem_take] at e
    rw [List.length_take] at hi
    exact ha i y (by omega) (by rw [← Array.getElem?_toList, ← e]; exact List.getElem?_eq_getElem _)
  refine ⟨List.Pairwise.sublist (List.take_sublist _ _) r, ?_, fun y hy z hz => ?_⟩
  · rw [List.pairwise_cons]
    exact ⟨hd, List.Pairwise.sublist (List.drop_sublist _ _) r⟩
  · rcases List.mem_cons.mp hz with rfl | hz
    · exact ht y hy
    · exact Nat.lt_trans (ht y hy) (hd z hz)
theorem not_live {t : SetTable} (r : RiseT t.place) {j : Nat} (h : ∀ i, t.slot j ≠ .live i) : j ∉ t.place.toList := by
  intro hm
  obtain ⟨i, hi⟩ := mem_of_getElem? hm
  obtain ⟨hp, ha, hb⟩ := below_cut r j
  have hle : SetTable.below t.place j ≤ i := by
    rcases Nat.lt_or_ge i (SetTable.below t.place j) with q | q
    · exact absurd (ha i j q hi) (Nat.lt_irrefl _)
    · exact q
  have hlt : i < t.place.size := (Array.getElem?_eq_some_iff.mp hi).1
  have e : SetTable.below t.place j = i := by
    rcases Nat.lt_or_eq_of_le hle with q | q
    · have hx : t.place[SetTable.below t.place j]? = some t.place[SetTable.below t.place j] := Array.getElem?_eq_getElem (by omega)
      have h1 := r.lt q hx hi
      have h2 := hb _ _ (Nat.le_refl _) hx
      omega
    · exact q
  refine h i ?_
  unfold SetTable.slot
  dsimp only
  rw [e, hi]
  simp
theorem probe_free {t : SetTable} {f : Nat → Int} {h : Int} {j : Nat} {dm : Option Nat} : ∀ (fuel : Nat) (p : SetTable.Probe), (∀ d, p.dummy = some d → t.slot d = .dummy) →
    SetTable.probe.go t f h fuel p = some (.empty j dm) → t.slot j = .empty ∧ ∀ d, dm = some d → t.slot d = .dummy
  | 0, p, hd, e => by simp [SetTable.probe.go] at e
  | fuel + 1, p, hd, e => by
    unfold SetTable.probe.go at e
    have adv : ∀ q : SetTable.Probe, (t.advance q).dummy = q.dummy := fun q => by unfold SetTable.advance; split <;> rfl
    cases hs : t.slot p.j with
    | empty =>
      rw [hs] at e
      simp only [Option.some.injEq, SetTable.Met.empty.injEq] at e
      obtain ⟨rfl, rfl⟩ := e
      exact ⟨hs, hd⟩
    | dummy =>
      rw [hs] at e
      refine probe_free fuel _ (fun d q => ?_) e
      rw [adv] at q
      cases q
      exact hs
    | live i =>
      rw [hs] at e
      dsimp only at e
      split at e
      · cases e
      · exact probe_free fuel _ (fun d q => hd d (by rwa [adv] at q)) e
theorem freeSlot_ok {t : SetTable} (r : RiseT t.place) {h : Int} {s : Nat} {b : Bool} (e : t.freeSlot h = some (s, b)) : s ∉ t.place.toList := by
  unfold SetTable.freeSlot at e
  split at e
  · rename_i j dm hp
    simp only [Option.some.injEq, Prod.mk.injEq] at e
    obtain ⟨h1, h2⟩ := probe_free _ (t.probeStart h) (fun d q => by cases q) hp
    cases dm with
    | none => rw [← e.1]; exact not_live r fun i q => by simp only [Option.getD_none] at q; rw [h1] at q; cases q
    | some d => rw [← e.1]; exact not_live r fun i q => by simp only [Option.getD_some] at q; rw [h2 d rfl] at q; cases q
  · cases e
structure GoodT (led : Bool) (t : SetTable) : Prop where
  led : t.led = led
  rise : RiseT t.place
theorem goodT_fresh (led : Bool) : GoodT led (.fresh 0 0 led) := ⟨rfl, List.Pairwise.nil⟩
theorem rise_range (n : Nat) : RiseT (Array.range n) := by
  unfold RiseT
  rw [Array.toList_range]
  exact List.pairwise_lt_range
theorem GoodT.standIn {led : Bool} {t : SetTable} (g : GoodT led t) (n : Nat) : GoodT led (t.standIn n) := ⟨g.led, rise_range n⟩
theorem GoodT.orStandIn {led : Bool} {t : SetTable} (g : GoodT led t) (n : Nat) : GoodT led (t.orStandIn n) := by
  unfold SetTable.orStandIn
  split
  · exact g
  · exact g.standIn n
theorem goodT_layNew {led : Bool} {t : SetTable} (g : GoodT led t) (es : Array (Int × Value)) (h : Int) (x : Value) : GoodT led (layNew t es h x).2.1 := by
  unfold layNew
  cases hs : t.freeSlot h with
  | none => exact g.standIn _
  | some q =>
    obtain ⟨s, b⟩ := q
    exact GoodT.orStandIn (t := (t.put s).1) ⟨g.led, g.rise.insert (freeSlot_ok g.rise hs)⟩ _
theorem fst_filterMap (f : Nat → Option Nat) : ∀ l : List Nat, ((l.filterMap fun j => (f j).map (j, ·)).map (·.1)).Sublist l
  | [] => List.Sublist.slnil
  | j :: r => by
    rw [List.filterMap_cons]
    cases hf : f j with
    | none => exact (fst_filterMap f r).cons j
    | some k => exact (fst_filterMap f r).cons₂ j
theorem goodT_relay {led : Bool} {t : SetTable} (g : GoodT led t) (es : Array (Int × Value)) (n : Nat) : GoodT led (relayAll t es n).2.1 := by
  unfold relayAll
  cases hr : t.relaid (es.map (·.1)) n with
  | none => exact g.standIn _
  | some q =>
    obtain ⟨t', o⟩ := q
    dsimp only
    split
    · unfold SetTable.relaid SetTable.laid at hr
      cases ho : SetTable.layClean (SetTable.sizeAbove n - 1) (es.map (·.1)) with
      | none => rw [ho] at hr; cases hr
      | some ow =>
        rw [ho] at hr
        simp only [Option.bind_eq_bind, Option.bind_some, Option.pure_def, Option.some.injEq, Prod.mk.injEq] at hr
        rw [← hr.1]
        refine ⟨g.led, ?_⟩
        unfold RiseT
        exact List.Pairwise.sublist (fst_filterMap (fun j => ow.getD j none) _) List.pairwise_lt_range
    · exact g.standIn _
end L2
namespace L2
open PySem PyProof.Rows
def iv : Value → Int
  | .int n _ => n
  | _ => 0
def IntE (e : Int × Value) : Prop := ∃ n t, e = (hashInt n, .int n t)
def entI (e : Int × Value) : Int := iv e.2
def SetI (led : Bool) (h : Heap) (a : Addr) (l : List Int) : Prop :=
  ∃ o es ep t, h.get? a = some o ∧ o.ExactSet ∧ o.data = .set es ep t ∧ (∀ e ∈ es.toList, IntE e) ∧ (es.toList.map entI).Perm l ∧ t.fits es.size = true ∧ GoodT led t
section
variable {P : Program} {w : World} {A : Around} {E : Value → Shared → Prop} {s : Shared}
theorem elems_int {l : List (Int × Value)} (h : ∀ e ∈ l, IntE e) : ElemsOf (intKind P w) l := fun e he => by
  obtain ⟨n, t, rfl⟩ := h e he
  exact ⟨⟨n, intKind_is _ _ _ _, rfl⟩, rfl⟩
theorem SetI.size {led : Bool} {h : Heap} {a : Addr} {l : List Int} {es : Array (Int × Value)} (p : (es.toList.map entI).Perm l) : es.size = l.length := by
  rw [← p.length_eq, List.length_map, Array.length_toList]
theorem fine {n : Nat} (h : n < scanBound) : n ≤ sizeLine := by
  have h1 : scanBound = 4096 := rfl
  rw [sizeLine_eq]; omega
theorem tail_setI {led : Bool} {g : Bool → Sem Unit} (hg : ∀ (b : Bool) (r : Shared) (T : Unit → Shared → Prop), T () r → wpAny (model P w) A (g b) T E r)
    {a : Addr} {o : Obj} {es : Array (Int × Value)} {ep : Nat} {t : SetTable} (ho : s.heap.get? a = some o) (hx : o.ExactSet) (hd : o.data = .set es ep t)
    {fs : Array (Int × Value)} {u : SetTable} {l : List Int} (hi : ∀ e ∈ fs.toList, IntE e) (hp : (fs.toList.map entI).Perm l) (hb : l.length < scanBound) (hf : u.fits fs.size = true) (hG : GoodT led u)
    {dm : Bool} {R : Option Bool → Shared → Prop} (h : ∀ h', Heap.SameBut a s.heap h' → SetI led h' a l → R (some true) { s with heap := h' }) :
    wpAny (model P w) A (storeSet a fs u >>= fun _ => if (!dm && u.tooFull) = true then (g (relayAll u fs (SetTable.grown fs.size)).2.2 >>= fun _ =>
      storeSet a (relayAll u fs (SetTable.grown fs.size)).1 (relayAll u fs (SetTable.grown fs.size)).2.1 >>= fun _ => pure (some true)) else pure (some true)) R E s := by
  have z : fs.size = l.length := SetI.size (led := led) (h := s.heap) (a := a) hp
  have put : ∀ {h0 : Heap} {o0 : Obj} {es0 : Array (Int × Value)} {ep0 : Nat} {t0 : SetTable}, h0.get? a = some o0 → o0.ExactSet → o0.data = .set es0 ep0 t0 → ∀ (fs : Array (Int × Value)) (u : SetTable),
      (h0.update a (Obj.putSet fs u)).get? a = some { o0 with data := .set fs (ep0 + 1) u } := fun {h0 o0 es0 ep0 t0} a1 a2 a3 fs u => by
    have := Heap.get?_update_self (Obj.putSet fs u) a1 (by rw [putSet_of fs u a3]; rfl)
    rwa [putSet_of fs u a3] at this
  have h1 := put ho hx hd fs u
  refine wpAny_bind (wpAny_storeSet_of ho hd ?_ (fine (by omega)))
  split
  · refine wpAny_bind (hg _ _ _ ?_)
    have p2 := relayAll_perm u fs (SetTable.grown fs.size)
    have z2 : (relayAll u fs (SetTable.grown fs.size)).1.size = l.length := by rw [← Array.length_toList, p2.length_eq, Array.length_toList, z]
    refine wpAny_bind (wpAny_storeSet_of h1 rfl ?_ (fine (by omega)))
    refine wpAny_pure (h _ ((Heap.SameBut.update _ a _).trans (Heap.SameBut.update _ a _)) ?_)
    exact ⟨_, _, _, _, put h1 hx rfl _ _, hx, rfl, fun e he => hi e (p2.mem_iff.mp he), (p2.map entI).trans hp, relayAll_fits u fs _, goodT_relay hG fs _⟩
  · exact wpAny_pure (h _ (Heap.SameBut.update _ a _) ⟨_, _, _, _, h1, hx, rfl, hi, hp, hf, hG⟩)
theorem add_setI {led : Bool} {a : Addr} {l : List Int} {k : Int} {tk : Tok} {Q : Bool → Shared → Prop} (h : SetI led s.heap a l) (hk : k ∉ l) (hb : l.length + 1 < scanBound)
    (q : ∀ h', Heap.SameBut a s.heap h' → SetI led h' a (k :: l) → Q true { s with heap := h' }) :
    wpAny (model P w) A (setAddHashed a (.int k tk) ((intKind P w).hash k)) Q E s := by
  obtain ⟨o, es, ep, t, ho, hx, hd, hi, hp, hf, hG⟩ := h
  have z : es.size = l.length := SetI.size (led := led) (h := s.heap) (a := a) hp
  have hel : ElemsOf (intKind P w) es.toList := elems_int hi
  unfold setAddHashed setAddHashedIn
  refine wpAny_holding (wpAny_bind (wpAny_setState_of ho hd hf ?_))
  dsimp only
  rw [byScan_of (x := .int k tk) rfl (by omega : es.size < scanBound) hel]
  simp only [↓reduceIte]
  unfold setAddByScan
  refine wpAny_bind (wpAny_bind (wpAny_rule (wpAny_bind (wpAny_setScan_of (intKind_is _ _ _ _) ho hd hf hel ?_))))
  have hno : List.findIdx? (fun e => (intKind P w).is k e.2) es.toList = none := by
    rw [List.findIdx?_eq_none_iff]
    intro e he
    obtain ⟨n, u, rfl⟩ := hi e he
    have hn : n ∈ l := hp.mem_iff.mp (List.mem_map.mpr ⟨_, he, rfl⟩)
    show Value.isInt k (.int n u) = false
    have : n ≠ k := fun e => hk (e ▸ hn)
    cases hq : Value.isInt k (.int n u) with
    | false => rfl
    | true => obtain ⟨u', hu⟩ := Value.isInt_shape hq; cases hu; exact absurd rfl this
  rw [hno]
  dsimp only
  have p1 := layNew_perm t es ((intKind P w).hash k) (.int k tk)
  have f1 := layNew_fits t es ((intKind P w).hash k) (.int k tk)
  have g1 := goodT_layNew hG es ((intKind P w).hash k) (.int k tk)
  generalize layNew t es ((intKind P w).hash k) (.int k tk) = L at p1 f1 g1 ⊢
  obtain ⟨fs, t1, dm, gave⟩ := L
  dsimp only at p1 f1 g1 ⊢
  rw [Array.toList_push] at p1
  have hi1 : ∀ e ∈ fs.toList, IntE e := fun e he => by
    rcases List.mem_append.mp (p1.mem_iff.mp he) with he | he
    · exact hi e he
    · rw [List.mem_singleton.mp he]; exact ⟨k, tk, rfl⟩
  have hp1 : (fs.toList.map entI).Perm (k :: l) := by
    refine (p1.map entI).trans ?_
    rw [List.map_append]
    exact (List.perm_append_singleton (entI ((intKind P w).hash k, .int k tk)) (es.toList.map entI)).trans (List.Perm.cons _ hp)
  refine wpAny_bind ?_
  have fin : ∀ h', Heap.SameBut a s.heap h' → SetI led h' a (k :: l) → wpAny (model P w) A (match some true with | some added => pure added | none => setAddHashedIn a (.int k tk) ((intKind P w).hash k) 99999) Q E { s with heap := h' } := fun h' a1 a2 => wpAny_pure (q h' a1 a2)
  have go : ∀ b : Bool, wpAny (model P w) A (match b with | true => rule "set.scan.the-table-gave-way" | false => pure ()) (fun _ r => r = s) E s := fun b => by cases b <;> first | exact wpAny_pure rfl | exact wpAny_rule rfl
  refine wpAny_mono (go gave) (fun _ r hr => ?_) (fun _ _ e => e)
  subst hr
  split
  · rw [hashByValue_scannable 8 (x := .int k tk) rfl]
    refine wpAny_bind (wpAny_pure ?_)
    exact tail_setI (fun b r T hT => by cases b <;> first | exact wpAny_pure hT | exact wpAny_rule hT) ho hx hd hi1 hp1 (by simpa using hb) f1 g1 fin
  · refine wpAny_bind (wpAny_pure ?_)
    simp only [↓reduceIte]
    exact tail_setI (fun b r T hT => by cases b <;> first | exact wpAny_pure hT | exact wpAny_rule hT) ho hx hd hi1 hp1 (by simpa using hb) f1 g1 fin
end
end L2
namespace L2
open PySem PyProof.Rows
def byText (w : World) : Bool := w.params.followText "set-order"
section
variable {P : Program} {w : World} {A : Around} {I : Addr} {fp wr : List Addr} {G : Array GenState → Array GenState → Prop} {n : Nat} {T : Nat → Value → Prop} {St : Nat → Shared → Prop}
theorem SetI.moved {led : Bool} {h h' : Heap} {a : Addr} {l : List Int} (x : SetI led h a l) (e : ∀ o, h.get? a = some o → h'.get? a = some o) : SetI led h' a l := by
  obtain ⟨o, es, ep, t, ho, r⟩ := x
  exact ⟨o, es, ep, t, e o ho, r⟩
def valsR (val : Nat → Int) (i : Nat) : List Int := ((List.range i).map val).reverse
theorem valsR_succ (val : Nat → Int) (i : Nat) : valsR val (i + 1) = val i :: valsR val i := by
  unfold valsR; rw [List.range_succ]; simp
theorem valsR_len (val : Nat → Int) (i : Nat) : (valsR val i).length = i := by unfold valsR; simp
theorem loop_setI {led : Bool} {R : Result → Shared → Prop} (W : WalksS P w A.in1 I fp wr G n T St) (a : Addr) (ha : a ∉ fp) (val : Nat → Int) (hv : ∀ i v, T i v → ∃ t, v = .int (val i) t)
    (hn : n + 1 < scanBound) (hd : ∀ i j, i < j → j < n → val i ≠ val j) : ∀ (k i : Nat) (s : Shared), n - i = k → i ≤ n → St i s → SetI led s.heap a (valsR val i) →
      (∀ s', Moved (a :: wr) G s s' → SetI led s'.heap a (valsR val n) → R (.ok (.ret .none)) s') →
      codeAny (model P w) A (.builtin "set.update.loop" ⟨[.ref a, .ref I], []⟩) R s := by
  have hw : a ∉ wr := fun h => ha (W.sub _ h)
  have sub : ∀ b ∈ wr, b ∈ a :: wr := fun b hb => List.mem_cons_of_mem _ hb
  intro k
  induction k with
  | zero =>
    intro i s hk hi st hS hR
    obtain rfl : i = n := by omega
    refine codeAny_builtin F.entry_set_update_loop ?_
    rw [Around.under_plainId F.plain_set_update_loop _]
    refine wpAny_bind (m := pyNext (.ref I)) (W.done s _ _ st fun s' hm => ?_)
    exact wpAny_pure (hR s' (hm.mono sub) (hS.moved fun o => hm.heap a o hw))
  | succ k ih =>
    intro i s hk hi st hS hR
    have hlt : i < n := by omega
    refine codeAny_builtin F.entry_set_update_loop ?_
    rw [Around.under_plainId F.plain_set_update_loop _]
    refine wpAny_bind (m := pyNext (.ref I)) (W.item i s _ _ hlt st fun v s' hT st' hm => ?_)
    obtain ⟨t, rfl⟩ := hv i v hT
    have hS' : SetI led s'.heap a (valsR val i) := hS.moved fun o => hm.heap a o hw
    refine wpAny_bind (m := holding [Value.int (val i) t] (setAdd a (.int (val i) t))) (wpAny_holding ?_)
    unfold setAdd
    refine wpAny_holding (wpAny_bind ((intKind P w).pyHash (k := val i) (intKind_is _ _ _ _) ?_))
    refine add_setI (s := { s' with toks := s'.toks + 1 }) hS' (fun hm' => ?_) (by rw [valsR_len]; omega) fun h' sb hS2 => ?_
    · unfold valsR at hm'
      rw [List.mem_reverse, List.mem_map] at hm'
      obtain ⟨j, hj, e⟩ := hm'
      exact hd j i (List.mem_range.mp hj) hlt e
    · rw [← valsR_succ] at hS2
      refine wpAny_pure ⟨plainId_quiet F.plain_set_update_loop _, ih (i + 1) _ (by omega) hlt (W.frame _ s' _ _ st' (Nat.le_succ _) fun b hb o e => ?_) hS2 fun s2 hm2 hS3 => ?_⟩
      · rw [sb.2 b (fun h => ha (h ▸ hb))]; exact e
      · refine hR s2 (Moved.trans W.gtrans ((hm.mono sub).then_heap (Nat.le_succ _) fun b o hb e => ?_) hm2) hS3
        rw [sb.2 b (fun h => hb (h ▸ List.mem_cons_self))]; exact e
end
section
variable {P : Program} {w : World} {A : Around} {E : Value → Shared → Prop} {s : Shared}
abbrev set0 (w : World) : Obj := { cls := .type "set", dict := none, data := .set #[] 0 (.fresh 0 0 (!byText w)) }
theorem set0_ok {w : World} {h : Heap} {a : Addr} (e : h.get? a = some (set0 w)) : SetI (!byText w) h a [] :=
  ⟨_, #[], 0, _, e, ⟨rfl, rfl, rfl⟩, rfl, fun e he => by simp at he, List.Perm.nil, by rfl, goodT_fresh _⟩
theorem new_setI (x : Value) {Q : Value → Shared → Prop} (h : Q (.ref s.heap.objs.size) { s with heap := s.heap.push (set0 w) }) :
    codeAny (model P w) A (.call (.builtin "set.__new__") ⟨[.type "set", x], []⟩) (wants Q E) s := by
  refine codeAny_of_tree (wpAny_bind (m := checkBuiltinCall "set.__new__" ⟨[.type "set", x], []⟩) (wpAny_of_eq (F.newCall_set_1 x) (wpAny_pure ⟨plainId_quiet F.plain_set_new _, codeAny_builtin F.entry_set_new ?_⟩)))
  rw [Around.under_plainId F.plain_set_new _]
  unfold Builtin.«set.__new__» Builtin.Frozenset.newClass
  have hsub := sub_set_self
  obtain ⟨hp, g, d, tk, os⟩ := s
  dsimp only
  wp_walk
  refine wpAny_askSetting (wpAny_pure ?_)
  dsimp only
  simp only [newObj]
  exact wpAny_bind (wpAny_alloc (wpAny_pure (wpAny_pure h)))
theorem call_setI {l : Addr} {vs : List Value} {ns : List Int} {Q : Value → Shared → Prop} (hh : A.handled = none) (hl : s.heap.IsList l vs.toArray) (hi : IntsAre vs ns) (hb : ns.length + 1 < scanBound) (hd : ns.Nodup)
    (h : ∀ (h' : Heap) (tk : Nat), SetI (!byText w) h' s.heap.objs.size ns.reverse → (∀ b o, b < s.heap.objs.size → s.heap.get? b = some o → h'.get? b = some o) → Q (.ref s.heap.objs.size) { s with heap := h', toks := tk }) :
    wpAny (model P w) A (call (.type "set") [.ref l]) Q E s := by
  have hlen : vs.length = ns.length := IntsAre.length hi
  have hre : valsR (fun i => ns.getD i 0) vs.toArray.size = ns.reverse := by
    unfold valsR
    congr 1
    apply List.ext_getElem
    · simp [hlen]
    · intro i h1 h2
      simp [List.getD_eq_getElem?_getD, List.getElem?_eq_getElem h2]
  obtain ⟨c, tl, hmro⟩ := F.called_set.mro
  have hmade := F.called_set.made
  have hsub := F.called_set.sub
  refine wpAny_call (codeAny_of_tree ?_)
  show wpAny _ _ (callAny (.type "set") _) _ _ _
  refine wpAny_pure ⟨Code.quiet_builtin _ (by decide +kernel), codeAny_builtin F.entry_type_call ?_⟩
  rw [Around.under_plain (weight_type_call_type "set" [.ref l] []) rfl]
  have h1 := F.called_set.notType
  have h2 := F.called_set.canCreate
  have hct := F.typeCall_set_1 (.ref l)
  repeat (any_goals (first | assumption | wp_step))
  refine codeAny_mono (new_setI (.ref l) (E := E) (Q := fun v r => v = .ref s.heap.objs.size ∧ r = { s with heap := s.heap.push (set0 w) }) ⟨rfl, rfl⟩) fun r s1 hr => ?_
  cases r with
  | error e => exact hr
  | ok fl =>
    cases fl with
    | ret v =>
      obtain ⟨rfl, rfl⟩ := hr
      have hS : (s.heap.push (set0 w)).get? s.heap.objs.size = some (set0 w) := Heap.get?_push_size _ rfl
      have hT : Shared.TypeIs { s with heap := s.heap.push (set0 w) } (.ref s.heap.objs.size) "set" := ⟨_, hS, rfl⟩
      have hli := F.called_set.init.lookup
      have hbi := F.called_set.init.bind (.ref s.heap.objs.size)
      repeat (any_goals (first | assumption | wp_step))
      refine codeAny_mono (codeAny_call_builtin (R := wants (fun r s2 => r = .none ∧ ∃ h' tk, s2 = { s with heap := h', toks := tk } ∧ SetI (!byText w) h' s.heap.objs.size ns.reverse ∧
          (∀ b o, b < s.heap.objs.size → s.heap.get? b = some o → h'.get? b = some o)) E) F.called_set.init.plain F.entry_set_init (check_set_init_1 hT ?_)) fun r2 s2 hr2 => ?_
      · obtain ⟨ol, hol, hcl, nl, hdl⟩ := hl
        obtain ⟨ocls, odict, odata, oslots⟩ := ol
        simp only at hcl hdl
        subst hcl; subst hdl
        have hol' : (s.heap.push (set0 w)).get? l = some { cls := .type "list", dict := odict, data := .seq vs.toArray nl, slots := oslots } := Heap.get?_push_of_some _ hol
        have hsls := F.sub_list_set
        have hslf := F.sub_list_frozenset
        have hne : (Value.type "list" == Value.type "dict") = false := by decide
        have hl1 : (s.heap.push (set0 w)).IsList l vs.toArray := ⟨_, hol', rfl, nl, rfl⟩
        unfold Builtin.«set.__init__» noKeywords Builtin.Frozenset.updateFrom
        generalize hPI : pyIter = PI
        wp_walk
        subst hPI
        refine wpAny_pyIter_list hl1 (wpAny_bind (wpAny_runValue ?_))
        have lt : l < s.heap.objs.size := Heap.lt_size hol
        have sz : (s.heap.push (set0 w)).objs.size = s.heap.objs.size + 1 := Heap.size_push ..
        have hh3 : A.in1.in1.in1.handled = none := by simp [hh]
        refine loop_setI ((Walks.list hh3 _ l (by rw [sz]; exact Nat.ne_of_lt (Nat.lt_succ_of_lt lt)) vs.toArray).toS) s.heap.objs.size (by rw [sz]; simp only [List.mem_cons, List.not_mem_nil, or_false, not_or]; exact ⟨Nat.ne_of_lt (Nat.lt_succ_self _), Nat.ne_of_gt lt⟩) (fun i => ns.getD i 0) (fun i v hv => IntsAre.int_at hi i v (by simpa using hv))
          (by simpa [hlen] using hb) (fun i j hij hj => ?_) (vs.toArray.size - 0) 0 _ (by omega) (Nat.zero_le _) ⟨⟨_, Heap.get?_push_size _ rfl, rfl, rfl⟩, (hl1.push _)⟩ (set0_ok (Heap.get?_push_of_some _ hS)) fun s' hm hS' => ?_
        · have hj' : j < ns.length := by simpa [hlen] using hj
          rw [List.getD_eq_getElem?_getD, List.getD_eq_getElem?_getD, List.getElem?_eq_getElem (by omega), List.getElem?_eq_getElem hj']
          exact List.pairwise_iff_getElem.mp hd i j (by omega) hj' hij
        · rw [hre] at hS'
          obtain ⟨h', g', d', tk', os'⟩ := s'
          obtain rfl : g' = s.gens := hm.gens
          obtain rfl : d' = s.drawn := hm.drawn
          obtain rfl : os' = s.os := hm.os
          refine wpAny_pure (wpAny_pure ⟨rfl, h', tk', rfl, hS', fun b o hb e => ?_⟩)
          refine hm.heap b o ?_ (Heap.get?_push_of_some _ (Heap.get?_push_of_some _ e))
          rw [sz]
          simp only [List.mem_cons, List.not_mem_nil, or_false, not_or]
          exact ⟨Nat.ne_of_lt hb, Nat.ne_of_lt (Nat.lt_succ_of_lt hb)⟩
      · cases r2 with
        | error e => exact hr2
        | ok fl2 =>
          cases fl2 with
          | ret r =>
            obtain ⟨rfl, h', tk, rfl, hS', hk'⟩ := hr2
            repeat (any_goals (first | assumption | wp_step))
            exact h _ _ hS' hk'
          | _ => exact hr2.elim
    | _ => exact hr.elim
end
end L2
namespace L2
open PySem PyProof.Rows
theorem slot_itN : Slot "set_iterator" "__next__" "set_iterator.__next__" :=
  .of (owner := "set_iterator") (n := "__next__") (by rw [typeLookup_type, builtinLookup_eq_fast]; kernel_rfl) (by decide +kernel) (by decide +kernel) (by decide +kernel) (by first | exact .inl (by decide +kernel) | exact .inr (by decide +kernel)) (by rw [isSubtype_type]; kernel_rfl)
theorem ent_itN : entryFor table "set_iterator.__next__" = some Builtin.«set_iterator.__next__» := entryFor_of_tree (by kernel_rfl)
theorem own_it : Manifest.owners.lookup (String.ofList ['r', 'o', 't', 'a', 'r', 'e', 't', 'i', '_', 't', 'e', 's'].reverse) = some Manifest.sig_set_iterator := by kernel_rfl
theorem args_itN (a : Value) : argsOk "set_iterator.__next__" ⟨[a], []⟩ := by
  unfold argsOk; rw [signature?_of (id := "set_iterator.__next__") (n := ['_', '_', 't', 'x', 'e', 'n', '_', '_']) (o := ['r', 'o', 't', 'a', 'r', 'e', 't', 'i', '_', 't', 'e', 's']) (by kernel_rfl) own_it]; kernel_rfl
theorem ent_setI : entryFor table "set.__iter__" = some Builtin.«frozenset.__iter__» :=
  entryFor_alias (id' := "frozenset.__iter__") (by kernel_rfl) rfl (by decide +kernel) (by kernel_rfl)
abbrev itO (first : Value) (i : Nat) (a : Addr) (n ep : Nat) : Obj := { cls := .type "set_iterator", dict := none, data := .fields #[first, .int i 0, .ref a, .int n 0, .int ep 0], slots := #[] }
section
variable {P : Program} {w : World} {A : Around} {E : Value → Shared → Prop} {s : Shared}
theorem itO_type {I : Addr} {first : Value} {i n ep : Nat} {a : Addr} (h : s.heap.get? I = some (itO first i a n ep)) : s.TypeIs (.ref I) "set_iterator" := ⟨_, h, rfl⟩
theorem next_int {I a : Addr} {slot i n ep : Nat} {x : Value} {nx : Nat} {Q : Option Value → Shared → Prop} {o : Obj} {es : Array (Int × Value)} {t : SetTable} (hI : s.heap.get? I = some (itO (.int slot 0) i a n ep))
    (ho : s.heap.get? a = some o) (hd : o.data = .set es ep t) (hf : t.fits es.size = true) (hn : es.size = n)
    (hs : ∀ (A : Around) (E : Value → Shared → Prop) (R : Option (Value × Nat) → Shared → Prop), R (some (x, nx)) s → wpAny (model P w) A (setNext a slot i ep) R E s)
    (h : ∀ h', h'.get? I = some (itO (.int nx 0) (i + 1) a n ep) → Heap.SameBut I s.heap h' → Q (some x) { s with heap := h' }) :
    wpAny (model P w) A (pyNext (.ref I)) Q E s := by
  unfold pyNext
  refine wpAny_bind (wpAny_attempt (wpAny_callSpecial?_slot (name := Str.ofString "__next__") (itO_type hI) slot_itN (wpAny_call_entry slot_itN (itO_type hI) ent_itN ?_ (args_itN _))))
  unfold Builtin.«set_iterator.__next__»
  refine wpAny_bind (wpAny_pure ?_)
  refine wpAny_bind (wpAny_fieldsOf hI rfl ?_)
  dsimp only
  refine wpAny_bind (wpAny_setEntries_of ho hd hf ?_)
  rw [if_neg (by rw [hn]; simp)]
  refine wpAny_bind (hs _ _ _ ?_)
  dsimp only
  refine wpAny_bind (wpAny_setField_rec hI (by simp) fun h1 a1 b1 => ?_)
  refine wpAny_bind (wpAny_setField_rec a1 (by simp) fun h2 a2 b2 => ?_)
  exact wpAny_pure ⟨x, rfl, wpAny_pure (h h2 a2 (b1.trans b2))⟩
theorem stop_at {I : Addr} {T : Value → Shared → Prop} {R : Option Value → Shared → Prop} (hh : A.handled = none) {s1 : Shared}
    (h : ∀ h', (∀ b o, s1.heap.get? b = some o → h'.get? b = some o) → R none { s1 with heap := h' }) :
    wpAny (model P w) A.in1 (newExc (.type "StopIteration") [] >>= fun e => (raiseNew e : Sem Fin)) (fun _ _ => False)
      (fun e s' => wpAny (model P w) A (isInstance e (.type "StopIteration") >>= fun b => if b = true then pure none else throw e) R E s') s1 := by
  refine wpAny_bind ?_
  simp only [newExc, newTuple]
  refine wpAny_bind (wpAny_newObj_type ?_ (by size_fits))
  refine wpAny_bind (m := firstArgMember _ _) (wpAny_of_eq (a := Value.none) (by first | rfl | (simp only [firstArgMember]; rfl)) ?_)
  refine wpAny_newObj_type ?_ (by size_fits)
  simp only [raiseNew]
  refine wpAny_bind (wpAny_handled ?_)
  rw [show A.in1.handled = none from hh]
  refine wpAny_bind (wpAny_pure (wpAny_throw ?_))
  refine wpAny_bind (wpAny_isInstance (T := "StopIteration") (b := true) ⟨_, Heap.get?_push_size _ rfl, rfl⟩ isSubtype_stop ?_)
  exact wpAny_pure (h _ fun b o e => Heap.get?_push_of_some _ (Heap.get?_push_of_some _ e))
theorem next_intE {I a : Addr} {slot i n ep : Nat} {Q : Option Value → Shared → Prop} {o : Obj} {es : Array (Int × Value)} {t : SetTable} (hh : A.handled = none) (hI : s.heap.get? I = some (itO (.int slot 0) i a n ep))
    (ho : s.heap.get? a = some o) (hd : o.data = .set es ep t) (hf : t.fits es.size = true) (hn : es.size = n)
    (hs : ∀ (A : Around) (E : Value → Shared → Prop) (R : Option (Value × Nat) → Shared → Prop), R none s → wpAny (model P w) A (setNext a slot i ep) R E s)
    (h : ∀ h', (∀ b o, b ≠ I → s.heap.get? b = some o → h'.get? b = some o) → Q none { s with heap := h' }) :
    wpAny (model P w) A (pyNext (.ref I)) Q E s := by
  unfold pyNext
  refine wpAny_bind (wpAny_attempt (wpAny_callSpecial?_slot (name := Str.ofString "__next__") (itO_type hI) slot_itN (wpAny_call_entry slot_itN (itO_type hI) ent_itN ?_ (args_itN _))))
  unfold Builtin.«set_iterator.__next__»
  refine wpAny_bind (wpAny_pure ?_)
  refine wpAny_bind (wpAny_fieldsOf hI rfl ?_)
  dsimp only
  refine wpAny_bind (wpAny_setEntries_of ho hd hf ?_)
  rw [if_neg (by rw [hn]; simp)]
  refine wpAny_bind (hs _ _ _ ?_)
  dsimp only
  refine wpAny_bind (wpAny_setField_rec hI (by simp) fun h1 a1 b1 => ?_)
  refine wpAny_mono (stop_at (I := I) (T := fun _ _ => True) (R := Q) (E := E) hh (s1 := { s with heap := h1 }) fun h' k => h h' fun b o hb e => k b o (by show h1.get? b = some o; rw [b1.2 b hb]; exact e)) (fun _ _ e => e.elim) (fun e s' he => ?_)
  exact he
end
end L2
namespace L2
open PySem PyProof.Rows
section
variable {P : Program} {w : World} {A : Around} {E : Value → Shared → Prop} {s : Shared}
theorem next_dr {I a tp : Addr} {i n ep p : Nat} {h0 : Int} {x : Value} {Q : Option Value → Shared → Prop} {o : Obj} {es : Array (Int × Value)} {t : SetTable} {ot : Obj} {pl : Array Value} {k : Nat} (hI : s.heap.get? I = some (itO (.ref tp) i a n ep))
    (ho : s.heap.get? a = some o) (hd : o.data = .set es ep t) (hf : t.fits es.size = true) (hn : es.size = n) (ht : s.heap.get? tp = some ot) (hdt : ot.data = .seq pl k)
    (hp : pl[i]? = some (.int p 0)) (hx : es[p]? = some (h0, x))
    (h : ∀ h', h'.get? I = some (itO (.ref tp) (i + 1) a n ep) → Heap.SameBut I s.heap h' → Q (some x) { s with heap := h' }) :
    wpAny (model P w) A (pyNext (.ref I)) Q E s := by
  unfold pyNext
  refine wpAny_bind (wpAny_attempt (wpAny_callSpecial?_slot (name := Str.ofString "__next__") (itO_type hI) slot_itN (wpAny_call_entry slot_itN (itO_type hI) ent_itN ?_ (args_itN _))))
  unfold Builtin.«set_iterator.__next__»
  refine wpAny_bind (wpAny_pure ?_)
  refine wpAny_bind (wpAny_fieldsOf hI rfl ?_)
  dsimp only
  refine wpAny_bind (wpAny_setEntries_of ho hd hf ?_)
  rw [if_neg (by rw [hn]; simp)]
  refine wpAny_bind (wpAny_seqItems ht hdt ?_)
  dsimp only
  rw [Int.toNat_natCast, hp]
  dsimp only
  unfold setNextDrawn
  refine wpAny_bind (wpAny_bind (wpAny_setState_of ho hd hf ?_))
  dsimp only
  rw [if_neg (by simp)]
  refine wpAny_bind (wpAny_pure ?_)
  rw [Int.toNat_natCast, hx]
  refine wpAny_pure ?_
  refine wpAny_bind (wpAny_setField_rec hI (by simp) fun h1 a1 b1 => ?_)
  exact wpAny_pure ⟨x, rfl, wpAny_pure (h h1 a1 b1)⟩
theorem next_drE {I a tp : Addr} {i n ep : Nat} {Q : Option Value → Shared → Prop} {o : Obj} {es : Array (Int × Value)} {t : SetTable} {ot : Obj} {pl : Array Value} {k : Nat} (hh : A.handled = none) (hI : s.heap.get? I = some (itO (.ref tp) i a n ep))
    (ho : s.heap.get? a = some o) (hd : o.data = .set es ep t) (hf : t.fits es.size = true) (hn : es.size = n) (ht : s.heap.get? tp = some ot) (hdt : ot.data = .seq pl k)
    (hp : pl[i]? = none)
    (h : ∀ h', (∀ b o, b ≠ I → s.heap.get? b = some o → h'.get? b = some o) → Q none { s with heap := h' }) :
    wpAny (model P w) A (pyNext (.ref I)) Q E s := by
  unfold pyNext
  refine wpAny_bind (wpAny_attempt (wpAny_callSpecial?_slot (name := Str.ofString "__next__") (itO_type hI) slot_itN (wpAny_call_entry slot_itN (itO_type hI) ent_itN ?_ (args_itN _))))
  unfold Builtin.«set_iterator.__next__»
  refine wpAny_bind (wpAny_pure ?_)
  refine wpAny_bind (wpAny_fieldsOf hI rfl ?_)
  dsimp only
  refine wpAny_bind (wpAny_setEntries_of ho hd hf ?_)
  rw [if_neg (by rw [hn]; simp)]
  refine wpAny_bind (wpAny_seqItems ht hdt ?_)
  dsimp only
  rw [Int.toNat_natCast, hp]
  dsimp only
  refine wpAny_bind (wpAny_setField_rec hI (by simp) fun h1 a1 b1 => ?_)
  refine wpAny_bind (wpAny_setField_rec a1 (by simp) fun h2 a2 b2 => ?_)
  refine wpAny_mono (stop_at (I := I) (T := fun _ _ => True) (R := Q) (E := E) hh (s1 := { s with heap := h2 }) fun h' k => h h' fun b o hb e => k b o (by show h2.get? b = some o; rw [(b1.trans b2).2 b hb]; exact e)) (fun _ _ e => e.elim) (fun e s' he => ?_)
  exact he
theorem take_perm {α : Type} : ∀ (l : List α) (i : Nat) (h : i < l.length), (l[i] :: l.eraseIdx i).Perm l
  | x :: r, 0, h => List.Perm.refl _
  | x :: r, i + 1, h => (List.Perm.swap x _ _).trans (List.Perm.cons x (take_perm r i (Nat.lt_of_succ_lt_succ h)))
theorem pick_go {α : Type} (f : Nat → Nat) : ∀ (n k : Nat) (l : List α) (out : Array α), l.length = n → (pickOrder.go f n k l out).toList.Perm (out.toList ++ l)
  | 0, k, l, out, e => by
    obtain rfl := List.length_eq_zero_iff.mp e
    simp [pickOrder.go]
  | n + 1, k, l, out, e => by
    have hl : f k % l.length < l.length := Nat.mod_lt _ (by omega)
    unfold pickOrder.go
    rw [List.getElem?_eq_getElem hl]
    dsimp only
    refine (pick_go f n (k + 1) _ _ (by rw [List.length_eraseIdx_of_lt hl]; omega)).trans ?_
    rw [Array.toList_push, List.append_assoc]
    refine List.Perm.append_left _ ?_
    exact take_perm l _ hl
theorem pick_perm {α : Type} (f : Nat → Nat) (xs : Array α) : (pickOrder f xs).toList.Perm xs.toList := by
  unfold pickOrder
  refine (pick_go f _ 0 xs.toList #[] (by simp)).trans ?_
  simp
theorem next_byText (hT : byText w = true) {a : Addr} {slot i ep : Nat} {o : Obj} {es : Array (Int × Value)} {t : SetTable} (ho : s.heap.get? a = some o) (hd : o.data = .set es ep t) (hf : t.fits es.size = true)
    {R : Option (Value × Nat) → Shared → Prop} (h : R (((pickOrder (w.params.setOrder a ep) es)[i]?).map fun e => (e.2, slot)) s) : wpAny (model P w) A (setNext a slot i ep) R E s := by
  unfold setNext setsByText setWalk setsByText
  refine wpAny_bind (wpAny_setState_of ho hd hf ?_)
  dsimp only
  refine wpAny_bind (wpAny_bind (wpAny_askSetting (wpAny_pure ?_)))
  rw [if_pos (show ((model P w).w.params.followText "set-order") = true from hT)]
  rw [if_neg (by simp)]
  refine wpAny_bind (wpAny_bind (wpAny_setState_of ho hd hf ?_))
  dsimp only
  refine wpAny_bind (wpAny_bind (wpAny_askSetting (wpAny_pure ?_)))
  rw [if_pos (show ((model P w).w.params.followText "set-order") = true from hT)]
  exact wpAny_bind (wpAny_askSetting (wpAny_pure (wpAny_pure h)))
theorem next_led (hT : byText w = false) {a : Addr} {slot i ep : Nat} {o : Obj} {es : Array (Int × Value)} {t : SetTable} (ho : s.heap.get? a = some o) (hd : o.data = .set es ep t) (hf : t.fits es.size = true)
    (hl : t.led = true) (hdr : (!t.plain && decide (es.size > 1)) = false) {R : Option (Value × Nat) → Shared → Prop}
    (h : R (match es[SetTable.below t.place slot]?, t.place[SetTable.below t.place slot]? with
      | some (_, x), some j => some (x, j + 1)
      | _, _ => none) s) : wpAny (model P w) A (setNext a slot i ep) R E s := by
  unfold setNext setsByText
  refine wpAny_bind (wpAny_setState_of ho hd hf ?_)
  dsimp only
  refine wpAny_bind (wpAny_bind (wpAny_askSetting (wpAny_pure ?_)))
  rw [if_neg (show ¬ ((model P w).w.params.followText "set-order") = true from fun q => by rw [show (model P w).w.params.followText "set-order" = byText w from rfl, hT] at q; cases q)]
  split
  · rename_i q
    have q' : (!t.plain && decide (es.size > 1)) = true := q
    rw [hdr] at q'; cases q'
  refine wpAny_bind (m := if (!t.led && !es.isEmpty) = true then unsupported "set:maker-not-led" else pure ()) ?_
  rw [if_neg (by rw [hl]; simp)]
  exact wpAny_pure (wpAny_pure h)
theorem draw_one {src : Source} {n : Nat} {Q : Nat → Shared → Prop} (hn : n ≠ 0) (h : ∀ k d, k < n → Q k { s with drawn := d }) : wpAny (model P w) A (choose src n) Q E s :=
  fun Γ p hΓ => ⟨hn, h _ _ (Nat.mod_lt _ (Nat.pos_of_ne_zero hn))⟩
theorem draw_perm {α : Type} : ∀ (n : Nat) (xs : List α) (s : Shared) {Q : List α → Shared → Prop}, xs.length = n → (∀ ys d, ys.Perm xs → Q ys { s with drawn := d }) → wpAny (model P w) A (drawOrder n xs) Q E s
  | 0, xs, s, Q, e, h => by
    obtain rfl := List.length_eq_zero_iff.mp e
    unfold drawOrder
    exact wpAny_pure (h [] s.drawn List.Perm.nil)
  | n + 1, [], s, Q, e, h => by cases e
  | n + 1, x :: r, s, Q, e, h => by
    unfold drawOrder
    refine wpAny_bind (draw_one (by simp) fun k d hk => ?_)
    rw [List.getElem?_eq_getElem hk]
    dsimp only
    refine wpAny_bind (draw_perm n _ _ (by rw [List.length_eraseIdx_of_lt hk]; simp at e ⊢; omega) fun ys d' hp => ?_)
    exact wpAny_pure (h _ d' ((List.Perm.cons _ hp).trans (take_perm (x :: r) k hk)))
end
end L2
namespace L2
open PySem PyProof.Rows
theorem slot_itI : Slot "set_iterator" "__iter__" "set_iterator.__iter__" :=
  .of (owner := "set_iterator") (n := "__iter__") (by rw [typeLookup_type, builtinLookup_eq_fast]; kernel_rfl) (by decide +kernel) (by decide +kernel) (by decide +kernel) (by first | exact .inl (by decide +kernel) | exact .inr (by decide +kernel)) (by rw [isSubtype_type]; kernel_rfl)
theorem ent_itI : entryFor table "set_iterator.__iter__" = some Builtin.«dict_keyiterator.__iter__» :=
  entryFor_alias (id' := "dict_keyiterator.__iter__") (by kernel_rfl) rfl (by decide +kernel) (by kernel_rfl)
theorem args_itI (a : Value) : argsOk "set_iterator.__iter__" ⟨[a], []⟩ := by
  unfold argsOk; rw [signature?_of (id := "set_iterator.__iter__") (n := ['_', '_', 'r', 'e', 't', 'i', '_', '_']) (o := ['r', 'o', 't', 'a', 'r', 'e', 't', 'i', '_', 't', 'e', 's']) (by kernel_rfl) own_it]; kernel_rfl
def Goes (P : Program) (w : World) (a lo I : Addr) (h : Heap) (l : List Int) : Prop :=
  ∃ (vs : Array Value) (ms : List Int) (fp : List Addr) (St : Nat → Heap → Prop), IntsAre vs.toList ms ∧ ms.Perm l ∧ St 0 h ∧ I ∈ fp ∧ (∀ b ∈ fp, b < h.objs.size) ∧ (∀ b ∈ fp, b = a ∨ lo ≤ b) ∧
    ∀ A : Around, A.handled = none → Walks P w A I fp [I] vs.size (fun i v => vs[i]? = some v) St
theorem ints_of_ents : ∀ {l : List (Int × Value)}, (∀ e ∈ l, IntE e) → IntsAre (l.map (·.2)) (l.map entI)
  | [], _ => .nil
  | e :: r, h => by
    obtain ⟨n, t, rfl⟩ := h e (List.mem_cons_self ..)
    exact .cons n t (ints_of_ents fun e he => h e (List.mem_cons_of_mem _ he))
section
variable {P : Program} {w : World} {A : Around} {E : Value → Shared → Prop} {s : Shared}
theorem self_it {I a : Addr} {first : Value} {i n ep : Nat} {Q : Value → Shared → Prop} (hI : s.heap.get? I = some (itO first i a n ep)) (h : Q (.ref I) s) : wpAny (model P w) A (pyIter (.ref I)) Q E s := by
  refine wpAny_pyIter_slot (itO_type hI) slot_itI (wpAny_call_entry slot_itI (itO_type hI) ent_itI ?_ (args_itI _))
  exact wpAny_pure ⟨_, rfl, "set_iterator", _, itO_type hI, slot_itN.lookup, h⟩
theorem goes_text {I a lo : Addr} {h : Heap} {o : Obj} {es : Array (Int × Value)} {ep : Nat} {t : SetTable} {l : List Int} (hT : byText w = true) (hlo : lo ≤ I) (hne : I ≠ a) (hI : h.get? I = some (itO (.int ((0 : Nat) : Int) 0) 0 a es.size ep))
    (ho : h.get? a = some o) (hd : o.data = .set es ep t) (hf : t.fits es.size = true) (hi : ∀ e ∈ es.toList, IntE e) (hp : (es.toList.map entI).Perm l) : Goes P w a lo I h l := by
  have pp := pick_perm (w.params.setOrder a ep) es
  generalize hws : pickOrder (w.params.setOrder a ep) es = ws at pp
  have hz : ws.size = es.size := by rw [← Array.length_toList, pp.length_eq, Array.length_toList]
  refine ⟨ws.map (·.2), ws.toList.map entI, [I, a], fun i h => h.get? I = some (itO (.int ((0 : Nat) : Int) 0) i a es.size ep) ∧ h.get? a = some o, ?_, (pp.map entI).trans hp, ⟨hI, ho⟩, by simp, fun b hb => ?_, fun b hb => ?_, fun A hh => ?_⟩
  · rw [Array.toList_map]; exact ints_of_ents fun e he => hi e (pp.mem_iff.mp he)
  · simp only [List.mem_cons, List.not_mem_nil, or_false] at hb
    rcases hb with rfl | rfl
    · exact Heap.lt_size hI
    · exact Heap.lt_size ho
  · simp only [List.mem_cons, List.not_mem_nil, or_false] at hb
    rcases hb with rfl | rfl
    · exact .inr hlo
    · exact .inl rfl
  · exact {
      sub := fun b hb => by simp at hb; simp [hb]
      frame := fun i h h' st k => ⟨k I (by simp) _ st.1, k a (by simp) _ st.2⟩
      item := fun i s Q E hi st hQ => by
        rw [Array.size_map] at hi
        have hx : ws[i]? = some ws[i] := Array.getElem?_eq_getElem hi
        refine next_int (x := ws[i].2) (nx := 0) st.1 st.2 hd hf rfl (fun A E R hR => next_byText hT st.2 hd hf (by rw [hws, hx]; exact hR)) fun h' a1 b1 => ?_
        exact hQ _ h' s.toks (by rw [Array.getElem?_map, hx]; rfl) ⟨a1, by rw [b1.2 a (Ne.symm hne)]; exact st.2⟩ fun b o hb e => by rw [b1.2 b (by simpa using hb)]; exact e
      done := fun s Q E st hQ => by
        rw [Array.size_map] at st
        refine next_intE hh st.1 st.2 hd hf rfl (fun A E R hR => next_byText hT st.2 hd hf (by rw [hws, Array.getElem?_eq_none (Nat.le_refl _)]; exact hR)) fun h' k => ?_
        exact hQ h' s.toks fun b o hb e => k b o (by simpa using hb) e
      self := fun i s Q E st h => self_it st.1 h }
theorem below_zero {xs : Array Nat} (r : RiseT xs) : SetTable.below xs 0 = 0 := by
  obtain ⟨hp, ha, _⟩ := below_cut r 0
  rcases Nat.eq_zero_or_pos (SetTable.below xs 0) with h | h
  · exact h
  · exact absurd (ha 0 xs[0] h (Array.getElem?_eq_getElem (by omega))) (Nat.not_lt_zero _)
theorem below_next {xs : Array Nat} (r : RiseT xs) {i j : Nat} (h : xs[i]? = some j) : SetTable.below xs (j + 1) = i + 1 := by
  obtain ⟨hp, ha, hb⟩ := below_cut r (j + 1)
  have hi : i < xs.size := (Array.getElem?_eq_some_iff.mp h).1
  rcases Nat.lt_trichotomy (SetTable.below xs (j + 1)) (i + 1) with q | q | q
  · have := hb i j (by omega) h; omega
  · exact q
  · have hx : xs[i + 1]? = some xs[i + 1] := Array.getElem?_eq_getElem (by omega)
    have h1 := ha (i + 1) _ q hx
    have h2 := r.lt (Nat.lt_succ_self i) h hx
    omega
theorem goes_led {I a lo : Addr} {h : Heap} {o : Obj} {es : Array (Int × Value)} {ep : Nat} {t : SetTable} {l : List Int} (hT : byText w = false) (hlo : lo ≤ I) (hne : I ≠ a) (hI : h.get? I = some (itO (.int ((0 : Nat) : Int) 0) 0 a es.size ep))
    (ho : h.get? a = some o) (hd : o.data = .set es ep t) (hf : t.fits es.size = true) (hG : GoodT true t) (hdr : (!t.plain && decide (es.size > 1)) = false) (hi : ∀ e ∈ es.toList, IntE e) (hp : (es.toList.map entI).Perm l) : Goes P w a lo I h l := by
  have hz : t.place.size = es.size := by
    unfold SetTable.fits at hf
    simp only [Bool.and_eq_true, beq_iff_eq] at hf
    exact hf.1
  refine ⟨es.map (·.2), es.toList.map entI, [I, a], fun i h => ∃ slot : Nat, h.get? I = some (itO (.int (slot : Int) 0) i a es.size ep) ∧ SetTable.below t.place slot = i ∧ h.get? a = some o, ?_, hp, ⟨0, hI, below_zero hG.rise, ho⟩, by simp, fun b hb => ?_, fun b hb => ?_, fun A hh => ?_⟩
  · rw [Array.toList_map]; exact ints_of_ents hi
  · simp only [List.mem_cons, List.not_mem_nil, or_false] at hb
    rcases hb with rfl | rfl
    · exact Heap.lt_size hI
    · exact Heap.lt_size ho
  · simp only [List.mem_cons, List.not_mem_nil, or_false] at hb
    rcases hb with rfl | rfl
    · exact .inr hlo
    · exact .inl rfl
  · exact {
      sub := fun b hb => by simp at hb; simp [hb]
      frame := fun i h h' st k => by
        obtain ⟨sl, a1, a2, a3⟩ := st
        exact ⟨sl, k I (by simp) _ a1, a2, k a (by simp) _ a3⟩
      item := fun i s Q E hi st hQ => by
        obtain ⟨sl, c1, c2, c3⟩ := st
        rw [Array.size_map] at hi
        have hx : es[i]? = some es[i] := Array.getElem?_eq_getElem hi
        have hy : t.place[i]? = some (t.place[i]'(by omega)) := Array.getElem?_eq_getElem _
        refine next_int (x := es[i].2) (nx := t.place[i]'(by omega) + 1) c1 c3 hd hf rfl (fun A E R hR => next_led hT c3 hd hf hG.led hdr (by rw [c2, hx, hy]; exact hR)) fun h' a1 b1 => ?_
        exact hQ _ h' s.toks (by rw [Array.getElem?_map, hx]; rfl) ⟨_, a1, below_next hG.rise hy, by rw [b1.2 a (Ne.symm hne)]; exact c3⟩ fun b o hb e => by rw [b1.2 b (by simpa using hb)]; exact e
      done := fun s Q E st hQ => by
        obtain ⟨sl, c1, c2, c3⟩ := st
        rw [Array.size_map] at c2
        refine next_intE hh c1 c3 hd hf rfl (fun A E R hR => next_led hT c3 hd hf hG.led hdr (by rw [c2, Array.getElem?_eq_none (Nat.le_refl _)]; exact hR)) fun h' k => ?_
        exact hQ h' s.toks fun b o hb e => k b o (by simpa using hb) e
      self := fun i s Q E st h => by
        obtain ⟨sl, c1, _⟩ := st
        exact self_it c1 h }
theorem goes_drawn {I a tp lo : Addr} {h : Heap} {o ot : Obj} {es : Array (Int × Value)} {ep k : Nat} {t : SetTable} {l : List Int} {ys : List Nat} (hlo : lo ≤ I) (hlt : lo ≤ tp) (hne : I ≠ a) (hnt : I ≠ tp) (hI : h.get? I = some (itO (.ref tp) 0 a es.size ep))
    (ho : h.get? a = some o) (hd : o.data = .set es ep t) (hf : t.fits es.size = true) (ht : h.get? tp = some ot) (hdt : ot.data = .seq (ys.map fun (i : Nat) => rawInt i).toArray k) (hy : ys.Perm (List.range es.size))
    (hi : ∀ e ∈ es.toList, IntE e) (hp : (es.toList.map entI).Perm l) : Goes P w a lo I h l := by
  have hlen : ys.length = es.size := by rw [hy.length_eq, List.length_range]
  let g : Nat → Int × Value := fun i => es.getD i (0, .none)
  have hge : es.toList = (List.range es.size).map g := by
    apply List.ext_getElem
    · simp
    · intro i h1 h2
      have h3 : i < es.size := by simpa using h1
      simp [g, h3]
  have pp : (ys.map g).Perm es.toList := by rw [hge]; exact hy.map g
  have hlt' : ∀ p ∈ ys, p < es.size := fun p hp => List.mem_range.mp (hy.mem_iff.mp hp)
  refine ⟨(ys.map fun p => (g p).2).toArray, (ys.map g).map entI, [I, a, tp], fun i h => h.get? I = some (itO (.ref tp) i a es.size ep) ∧ h.get? a = some o ∧ h.get? tp = some ot, ?_, (pp.map entI).trans hp, ⟨hI, ho, ht⟩, by simp, fun b hb => ?_, fun b hb => ?_, fun A hh => ?_⟩
  · have := ints_of_ents (l := ys.map g) fun e he => hi e (pp.mem_iff.mp he)
    have e : (ys.map fun p => (g p).2).toArray.toList = (ys.map g).map (·.2) := by rw [List.map_map]; rfl
    rw [e]; exact this
  · simp only [List.mem_cons, List.not_mem_nil, or_false] at hb
    rcases hb with rfl | rfl | rfl
    · exact Heap.lt_size hI
    · exact Heap.lt_size ho
    · exact Heap.lt_size ht
  · simp only [List.mem_cons, List.not_mem_nil, or_false] at hb
    rcases hb with rfl | rfl | rfl
    · exact .inr hlo
    · exact .inl rfl
    · exact .inr hlt
  · exact {
      sub := fun b hb => by simp at hb; simp [hb]
      frame := fun i h h' st k => ⟨k I (by simp) _ st.1, k a (by simp) _ st.2.1, k tp (by simp) _ st.2.2⟩
      item := fun i s Q E hi st hQ => by
        have hi' : i < ys.length := by simpa using hi
        have hp' : ys[i] < es.size := hlt' _ (List.getElem_mem hi')
        have hx : es[ys[i]]? = some (es[ys[i]].1, es[ys[i]].2) := Array.getElem?_eq_getElem hp'
        refine next_dr (p := ys[i]) (x := es[ys[i]].2) st.1 st.2.1 hd hf rfl st.2.2 hdt (by simp [hi', rawInt]) hx fun h' a1 b1 => ?_
        exact hQ _ h' s.toks (by simp [hi', g, hp']) ⟨a1, by rw [b1.2 a (Ne.symm hne)]; exact st.2.1, by rw [b1.2 tp (Ne.symm hnt)]; exact st.2.2⟩ fun b o hb e => by rw [b1.2 b (by simpa using hb)]; exact e
      done := fun s Q E st hQ => by
        refine next_drE hh st.1 st.2.1 hd hf rfl st.2.2 hdt (by simp) fun h' k => ?_
        exact hQ h' s.toks fun b o hb e => k b o (by simpa using hb) e
      self := fun i s Q E st h => self_it st.1 h }
end
end L2
namespace L2
open PySem PyProof.Rows
section
variable {P : Program} {w : World} {A : Around} {E : Value → Shared → Prop} {s : Shared}
theorem SetI.typeIs {led : Bool} {a : Addr} {l : List Int} (h : SetI led s.heap a l) : s.TypeIs (.ref a) "set" := by
  obtain ⟨o, es, ep, t, ho, hx, _⟩ := h
  exact ⟨o, ho, hx.1⟩
theorem iter_setI {a : Addr} {l : List Int} {Q : Value → Shared → Prop} (h : SetI (!byText w) s.heap a l) (hz : l.length < scanBound)
    (q : ∀ (I : Addr) (h' : Heap) (d : Drawn), s.heap.objs.size ≤ I → (∀ b o, s.heap.get? b = some o → h'.get? b = some o) → Goes P w a s.heap.objs.size I h' l → h'.get? I ≠ none → Q (.ref I) { s with heap := h', drawn := d }) :
    wpAny (model P w) A (pyIter (.ref a)) Q E s := by
  refine wpAny_pyIter_slot h.typeIs F.slot_set_iter (wpAny_call_entry F.slot_set_iter h.typeIs ent_setI ?_ (F.args_set_iter_1 _))
  obtain ⟨o, es, ep, t, ho, hx, hd, hi, hp, hf, hG⟩ := h
  have lt : a < s.heap.objs.size := Heap.lt_size ho
  have zz : es.size = l.length := SetI.size (led := true) (h := s.heap) (a := a) hp
  unfold Builtin.«frozenset.__iter__» Builtin.Frozenset.slot0 Builtin.Frozenset.sizeOf Builtin.Frozenset.addrOf
  refine wpAny_bind (wpAny_bind (wpAny_pure (wpAny_pure ?_)))
  refine wpAny_bind (wpAny_bind (wpAny_setEntries_of ho hd hf (wpAny_pure ?_)))
  unfold setDrawn setsByText
  refine wpAny_bind (wpAny_bind (wpAny_setState_of ho hd hf ?_))
  dsimp only
  refine wpAny_bind (wpAny_bind (wpAny_askSetting (wpAny_pure ?_)))
  refine wpAny_pure ?_
  have fin : ∀ (first : Value) (s1 : Shared), s1.heap.get? a = some o → (∀ b o, s.heap.get? b = some o → s1.heap.get? b = some o) → (∃ d, s1 = { s with heap := s1.heap, drawn := d }) → s.heap.objs.size ≤ s1.heap.objs.size →
      Goes P w a s.heap.objs.size s1.heap.objs.size (s1.heap.push (itO first 0 a es.size ep)) l →
      wpAny (model P w) A.in1 (setEpoch a >>= fun e => newFields "set_iterator" [first, rawInt 0, .ref a, rawInt es.size, rawInt e] >>= fun v => ret v)
        (fun r s' => ∃ v, r = .done (.ret v) ∧ ∃ T' r', s'.TypeIs v T' ∧ typeLookup (.type T') "__next__" = pure (some r') ∧ Q v s') E s1 := fun first s1 h1 k1 h2 h3 hg => by
    refine wpAny_bind (wpAny_setEpoch_of h1 hd hf ?_)
    refine wpAny_bind (wpAny_newObj_type ?_)
    have hI : (s1.heap.push (itO first 0 a es.size ep)).get? s1.heap.objs.size = some (itO first 0 a es.size ep) := Heap.get?_push_size _ rfl
    refine wpAny_pure ⟨_, rfl, "set_iterator", _, ⟨_, hI, rfl⟩, slot_itN.lookup, ?_⟩
    obtain ⟨d, e⟩ := h2
    have := q s1.heap.objs.size (s1.heap.push (itO first 0 a es.size ep)) d h3 (fun b o e => Heap.get?_push_of_some _ (k1 b o e)) hg (by rw [hI]; simp)
    rw [e]
    exact this
  split
  · refine wpAny_bind (draw_perm es.size (List.range es.size) s List.length_range fun ys d hy => ?_)
    refine wpAny_bind ?_
    unfold newTuple
    refine wpAny_newObj_type ?_ (by show (List.map (fun (i : Nat) => rawInt i) ys).toArray.size ≤ sizeLine; rw [List.size_toArray, List.length_map, hy.length_eq, List.length_range]; exact fine (by omega))
    refine fin _ _ (Heap.get?_push_of_some _ ho) (fun b o e => Heap.get?_push_of_some _ e) ⟨d, rfl⟩ (by rw [Heap.size_push]; exact Nat.le_succ _) ?_
    have sz : ∀ (h : Heap) (o : Obj), (h.push o).objs.size = h.objs.size + 1 := fun h o => Heap.size_push ..
    refine goes_drawn (tp := s.heap.objs.size) (ys := ys) (k := 0) (by rw [sz]; exact Nat.le_succ _) (Nat.le_refl _) ?_ ?_ (Heap.get?_push_size _ rfl) (Heap.get?_push_of_some _ (Heap.get?_push_of_some _ ho)) hd hf (Heap.get?_push_of_some _ (Heap.get?_push_size _ rfl)) rfl hy hi hp
    · rw [sz]; exact Nat.ne_of_gt (Nat.lt_succ_of_lt lt)
    · rw [sz]; exact Nat.ne_of_gt (Nat.lt_succ_self _)
  · rename_i hb0
    have hb : ¬ (!(byText w) && (!t.plain && decide (es.size > 1))) = true := hb0
    refine wpAny_bind (wpAny_pure ?_)
    refine fin _ s ho (fun b o e => e) ⟨s.drawn, rfl⟩ (Nat.le_refl _) ?_
    have hne : s.heap.objs.size ≠ a := Nat.ne_of_gt lt
    cases hT : byText w with
    | true => exact goes_text hT (Nat.le_refl _) hne (Heap.get?_push_size _ rfl) (Heap.get?_push_of_some _ ho) hd hf hi hp
    | false =>
      rw [hT] at hG hb
      refine goes_led hT (Nat.le_refl _) hne (Heap.get?_push_size _ rfl) (Heap.get?_push_of_some _ ho) hd hf hG ?_ hi hp
      cases hq : (!t.plain && decide (es.size > 1)) with
      | false => rfl
      | true => exact absurd (by rw [hq]; rfl) hb
theorem SetI.keep {led : Bool} {h h' : Heap} {a : Addr} {l : List Int} (x : SetI led h a l) (k : ∀ b o, h.get? b = some o → h'.get? b = some o) : SetI led h' a l := x.moved fun o e => k a o e
theorem len_set : typeLookup (.type "set") "__len__" = pure (some (.builtin "set.__len__")) := by rw [typeLookup_type, builtinLookup_eq_fast]; kernel_rfl
theorem collect_setI {a : Addr} {l : List Int} {Q : List Value → Shared → Prop} (hh : A.handled = none) (h : SetI (!byText w) s.heap a l) (hz : l.length < scanBound)
    (q : ∀ (vs : List Value) (ms : List Int) (h' : Heap) (t : Nat) (d : Drawn), IntsAre vs ms → ms.Perm l → s.heap.objs.size ≤ h'.objs.size → (∀ b o, s.heap.get? b = some o → h'.get? b = some o) → Q vs { s with heap := h', toks := t, drawn := d }) :
    wpAny (model P w) A (collect (.ref a)) Q E s := by
  have hl := h
  obtain ⟨o, es, ep, t, ho, _⟩ := hl
  have lt : a < s.heap.objs.size := Heap.lt_size ho
  unfold collect
  refine wpAny_bind (wpAny_runValue (codeAny_builtin F.entry_proto_collect ?_))
  rw [Around.under_plainId F.plain_proto_collect _]
  refine wpAny_bind (m := newList []) (wpAny_newObj_type ?_)
  refine wpAny_pure ⟨plainId_quiet F.plain_list_iadd _, codeAny_builtin F.entry_list_iadd ?_⟩
  rw [Around.under_plainId F.plain_list_iadd _]
  show wpAny _ A.in1 (Builtin.List.listExtendWith (.ref s.heap.objs.size) (.ref a) (.ref s.heap.objs.size)) _ _ _
  unfold Builtin.List.listExtendWith
  have h1 : SetI (!byText w) (s.heap.push { cls := .type "list", data := .seq ([] : List Value).toArray }) a l := h.keep fun b o e => Heap.get?_push_of_some _ e
  have hS : (s.heap.push { cls := .type "list", data := .seq ([] : List Value).toArray }).get? s.heap.objs.size = some { cls := .type "list", data := .seq ([] : List Value).toArray } := Heap.get?_push_size _ rfl
  refine wpAny_bind (wpAny_typeOf (T := "set") (SetI.typeIs (s := { s with heap := s.heap.push { cls := .type "list", data := .seq ([] : List Value).toArray } }) h1) ?_)
  have e1 : Builtin.List.listSameRef (.ref s.heap.objs.size) (.ref a) = false := by simp [Builtin.List.listSameRef]; exact Nat.ne_of_gt lt
  have e2 : (Value.type "set" == Value.type "list") = false := by decide
  have e3 : (Value.type "set" == Value.type "tuple") = false := by decide
  simp only [e1, e2, e3, Bool.or_false, Bool.false_eq_true, if_false]
  refine wpAny_bind (iter_setI (s := { s with heap := s.heap.push { cls := .type "list", data := .seq ([] : List Value).toArray } }) h1 hz fun I h' d hI k hg hn => ?_)
  refine wpAny_bind (wpAny_holding ?_)
  unfold Builtin.List.listLengthHint
  have h2 : SetI (!byText w) h' a l := h1.keep k
  refine wpAny_bind (wpAny_specialOf (SetI.typeIs (s := { s with heap := h', drawn := d }) h2) len_set ?_)
  dsimp only
  rw [show splitId "set.__len__" = some ("set", "__len__") from by decide +kernel]
  refine wpAny_bind (wpAny_isInstance (b := true) (SetI.typeIs (s := { s with heap := h', drawn := d }) h2) sub_set_self ?_)
  rw [if_neg (by decide)]
  rw [if_pos (by decide +kernel)]
  refine wpAny_bind (wpAny_typeOf (T := "set") (SetI.typeIs (s := { s with heap := h', drawn := d }) h2) ?_)
  refine wpAny_pure ?_
  rw [if_pos (by decide +kernel)]
  refine wpAny_bind (wpAny_rule ?_)
  have hS2 := k _ _ hS
  refine wpAny_bind (m := Builtin.List.listTouch (.ref s.heap.objs.size)) (wpAny_bind (m := updateSeq s.heap.objs.size (·.push .none)) (wpAny_updateSeq hS2 rfl ?_))
  have hS3 := Heap.get?_update_self (Obj.mapSeq (·.push Value.none)) hS2 rfl
  refine wpAny_updateSeq hS3 rfl ?_
  have hS4 := Heap.get?_update_self (Obj.mapSeq (·.pop)) hS3 rfl
  obtain ⟨vs, ms, fp, St, g1, g2, g3, g4, g5, g6, g7⟩ := hg
  have W := (g7 A.in1 (by simp [hh])).toS
  have sz : (s.heap.push { cls := .type "list", data := .seq ([] : List Value).toArray }).objs.size = s.heap.objs.size + 1 := Heap.size_push ..
  rw [sz] at g6
  have hSf : s.heap.objs.size ∉ fp := fun hm => by
    rcases g6 _ hm with e | e
    · exact Nat.ne_of_gt lt e
    · exact Nat.lt_irrefl _ e
  have oth : ∀ b o, b ≠ s.heap.objs.size → h'.get? b = some o → ((h'.update s.heap.objs.size (Obj.mapSeq fun x => x.push Value.none)).update s.heap.objs.size (Obj.mapSeq fun x => x.pop)).get? b = some o :=
    fun b o hb e => (Heap.get?_update_other _ _ (Ne.symm hb)).trans ((Heap.get?_update_other _ _ (Ne.symm hb)).trans e)
  have hlen : vs.size = l.length := by
    have := IntsAre.length g1
    rw [← g2.length_eq, ← this, Array.length_toList]
  refine wpAny_pure ⟨plainId_quiet F.plain_extend_loop _, codeAny_extend_loopS W (by rw [hlen]; exact fine hz) _ hSf _ vs.size 0 _ _ _ rfl (Nat.zero_le _) ?_ hS4 (ItemsOf.nil _) fun s' acc c hm hS' ha => ?_⟩
  · refine (g7 A.in1 (by simp [hh])).frame 0 h' _ g3 fun b hb o e => oth b o (fun q => hSf (q ▸ hb)) e
  · show wpAny _ A (load s.heap.objs.size >>= _) _ _ s'
    refine wpAny_bind (wpAny_load hS' ?_)
    have hav : acc = vs := by
      apply Array.ext
      · exact ha.1
      · intro i h1 h2
        have this : vs[i]? = some acc[i] := ha.2 i acc[i] (Array.getElem?_eq_getElem h1)
        rw [Array.getElem?_eq_getElem h2] at this
        exact (Option.some.inj this).symm
    subst hav
    obtain ⟨h2', g', d', tk', os'⟩ := s'
    obtain rfl : g' = s.gens := hm.gens
    obtain rfl : d' = d := hm.drawn
    obtain rfl : os' = s.os := hm.os
    refine wpAny_pure (q _ ms h2' tk' _ g1 g2 (Nat.le_of_lt (Heap.lt_size hS')) fun b o e => ?_)
    have hb : b < s.heap.objs.size := Heap.lt_size e
    refine hm.heap b o ?_ (oth b o (Nat.ne_of_lt hb) (k b o (Heap.get?_push_of_some _ e)))
    simp only [List.mem_cons, List.not_mem_nil, or_false, not_or]
    refine ⟨Nat.ne_of_lt hb, ?_⟩
    have := hI
    rw [show ({ s with heap := s.heap.push { cls := .type "list", data := .seq ([] : List Value).toArray } } : Shared).heap.objs.size = s.heap.objs.size + 1 from sz] at this
    exact Nat.ne_of_lt (Nat.lt_of_lt_of_le (Nat.lt_succ_of_lt hb) this)
theorem sorted_setI {a : Addr} {l : List Int} {Q : Value → Shared → Prop} (hh : A.handled = none) (h : SetI (!byText w) s.heap a l) (hz : l.length < 64)
    (q : ∀ (p : Addr) (out : Array Value) (ms : List Int) (e : Nat) (h' : Heap) (t : Nat) (d : Drawn), s.heap.objs.size ≤ p → IntsAre out.toList ms → ms.Perm l → ms.Pairwise (· ≤ ·) → (∀ b o, s.heap.get? b = some o → h'.get? b = some o) →
      h'.get? p = some (seqObj "list" out e) → Q (.ref p) { s with heap := h', toks := t, drawn := d }) :
    wpAny (model P w) A (call (.builtin "sorted") [.ref a]) Q E s := by
  refine Calls.call_function_entry kind_sorted plain_sorted entry_sorted (args_sorted1 _) ?_
  unfold Builtin.«sorted»
  refine wpAny_bind (m := checkCount "sorted" 1 1 _) (wpAny_pure ?_)
  refine wpAny_bind (collect_setI (by simp [hh]) h (by unfold scanBound; omega) fun vs ms h' t d i1 p1 hle k => ?_)
  have hvl : vs.length = l.length := by rw [IntsAre.length i1, p1.length_eq]
  refine wpAny_bind (wpAny_newList ?_ (by rw [hvl]; exact fine (by unfold scanBound; omega)))
  have hoL : (h'.push (seqObj "list" vs.toArray 0)).get? h'.objs.size = some (seqObj "list" vs.toArray 0) := Heap.get?_push_size _ rfl
  refine wpAny_bind (wpAny_holding (wpAny_call_entry slot_list_sort ⟨_, hoL, rfl⟩ entry_list_sort (list_sort_tree hoL i1 (by rw [IntsAre.length i1, p1.length_eq]; exact hz) fun out ns' a1 a2 a3 => ⟨_, rfl, ?_⟩) (args_list_sort _)))
  obtain ⟨e, he⟩ := sortedHeap_at (out := out) hoL
  refine wpAny_pure ⟨_, rfl, q _ out ns' e _ t d hle a1 (a2.trans p1) a3 (fun b o hb => ?_) he⟩
  have hlt : b < h'.objs.size := Heap.lt_size (k b o hb)
  rw [sortedHeap_old (Nat.ne_of_lt hlt) (by rw [size_push']; exact Nat.lt_succ_of_lt hlt)]
  exact Heap.get?_push_of_some _ (k b o hb)
end
end L2
namespace L2
open PySem PySem.Spec PyProof.Rows PySem.SeqAt
def SetO (w : World) (a : Addr) (ns : List Int) : HO := .ext fun h => SetI (!byText w) h a ns
theorem SetI.perm {led : Bool} {h : Heap} {a : Addr} {l m : List Int} (x : SetI led h a l) (p : l.Perm m) : SetI led h a m := by
  obtain ⟨o, es, ep, t, h1, h2, h3, h4, h5, h6⟩ := x
  exact ⟨o, es, ep, t, h1, h2, h3, h4, h5.trans p, h6⟩
theorem b_set : bootBuiltins "set" = some (.type "set") := by decide +kernel
section
variable {X : Cx} {pins : List (Addr × Obj)} {σ : St} {H : Hp} {s : Shared}
theorem Inv.drew (I : Inv X pins σ H s) (d : Drawn) : Inv X pins σ H { s with drawn := d } :=
  ⟨I.ok, I.os, I.bare, I.base, I.loc, I.cell, I.free, I.freeC, I.pin, I.hok, I.len⟩
theorem call_setL (w : World) (hc : X.calm = true) (hw : X.w = w := by rfl) : CallR X (.type "set") (fun xs H Q => ∃ (p : Addr) (ns : List Int), xs = [.ref p] ∧ SqL X.K H p (ns.map V.int) ∧ ns.Pairwise (· < ·) ∧ ns.length < 64 ∧ ∀ a, H a = none → Q (.ref a) (upd H a (SetO w a ns))) := by
  subst hw
  intro pins s σ H xs us Q I r h
  obtain ⟨p, ns, rfl, hq, hr, h64, q⟩ := h
  obtain ⟨u, rfl, ru⟩ := vals1 r
  cases ru
  obtain ⟨vs, hl, hi, hz⟩ := I.ints hq
  refine call_setI (I.ok.hd hc) hl hi (by unfold scanBound; omega) (hr.imp fun h => Int.ne_of_lt h) fun h' tk hS k => ?_
  have hS' : SetI (!byText X.w) h' s.heap.objs.size ns := hS.perm (List.reverse_perm ns)
  refine ⟨.ref s.heap.objs.size, _, I.laid (t' := tk) (fun b u e => k b u (Heap.lt_size e) e) (Nat.le_refl _) (o := SetO X.w s.heap.objs.size ns) ?_, rfl, q _ (I.hok.fresh (Nat.le_refl _))⟩
  refine ⟨hS', ?_, fun h1 h2 a b => a.moved b⟩
  obtain ⟨o, es, ep, t, e, _⟩ := hS'
  exact ⟨o, e⟩
theorem call_sortedS (w : World) (hc : X.calm = true) (hw : X.w = w := by rfl) : CallR X (.builtin "sorted") (fun xs H Q => ∃ (p : Addr) (ns : List Int), xs = [.ref p] ∧ H p = some (SetO w p ns) ∧ ns.length < 64 ∧ ∀ (l : Addr) (ms : List Int), H l = none → ms.Perm ns → ms.Pairwise (· ≤ ·) → Q (.ref l) (upd H l (.lst (ms.map V.int)))) := by
  subst hw
  intro pins s σ H xs us Q I r h
  obtain ⟨p, ns, rfl, hp, h64, q⟩ := h
  obtain ⟨u, rfl, ru⟩ := vals1 r
  cases ru
  have hS : SetI (!byText X.w) s.heap p ns := (I.hok p _ hp).1
  refine sorted_setI (I.ok.hd hc) hS h64 fun l out ms e h' t d hlo hi hpm hsr k he => ?_
  have new : ObjOk X.prog X.w (upd H l (.lst (ms.map V.int))) h' l (.lst (ms.map V.int)) := ⟨by rw [List.length_map, hpm.length_eq]; exact fine (by unfold scanBound; omega), out.toList, e, vals_ints hi, by simpa [seqObj] using he⟩
  exact ⟨.ref l, _, (I.laid (t' := t) k hlo new).drew d, rfl, q l ms (I.hok.fresh hlo) hpm hsr⟩
end
end L2
namespace Bw
open PySem L2
open Builtin.Int (intBits)
def top (i : Nat) : Stmt := PySem.Challenge.pw_bellwrite_k61_rung.main.body.getD i (.Pass ⟨0, 0, 0, 0⟩)
abbrev st_choose : Stmt := top 5
abbrev st_top_from : Stmt := top 6
abbrev st_above_top : Stmt := top 7
abbrev st_rounded_up : Stmt := top 8
abbrev st_bell_row : Stmt := top 10
abbrev st_box_count : Stmt := top 11
abbrev st_greatest_part : Stmt := top 12
abbrev st_box_of_message : Stmt := top 14
abbrev st_written : Stmt := top 15
abbrev st_refuse_silent : Stmt := top 17
abbrev st_rung : Stmt := top 18
abbrev st__law_cell_at : Stmt := top 20
abbrev st__law_drawn : Stmt := top 21
abbrev st__law_frame : Stmt := top 22
abbrev st__law_message : Stmt := top 23
abbrev st__law_same : Stmt := top 24
abbrev st_law : Stmt := top 25
structure Txt (K : PySem.W.Frag) (mg : Str → Option Value) : Prop where
  z_range : mg "range" = none
  z_isinstance : mg "isinstance" = none
  z_int : mg "int" = none
  z_bool : mg "bool" = none
  z_len : mg "len" = none
  z_list : mg "list" = none
  z_min : mg "min" = none
  z_enumerate : mg "enumerate" = none
  z_sorted : mg "sorted" = none
  z_set : mg "set" = none
  z_all : mg "all" = none
  z_ValueError : mg "ValueError" = none
def cellOf (ns : List Int) (k : Int) : Int := ns.getD k.toNat 0
def spCell (K : PySem.W.Frag) : Sp := fun vs H Q _ => ∃ (a : Addr) (ns : List Int) (k : Int), vs = [.ref a, .int k] ∧ SqL K H a (ns.map V.int) ∧ 0 ≤ k ∧ Q (.int (cellOf ns k)) H
structure RowL (row : List Int) : Prop where
  inc : row.Pairwise (· < ·)
  nn : ∀ x ∈ row, 0 ≤ x
  sz : ∀ x ∈ row, x < 2 ^ 200
theorem at_map {ns : List Int} {k : Nat} {x : Int} (h : ns[k]? = some x) : atI (ns.map V.int) (k : Int) = some (V.int x) := atI_nat (by rw [List.getElem?_map, h]; rfl)
def cutI (ns : List Int) (lo hi : Option Int) : List Int := (ns.drop (HT.sIx ns.length 0 lo)).take (HT.sIx ns.length ns.length hi - HT.sIx ns.length 0 lo)
theorem cut_map (ns : List Int) (lo hi : Option Int) : cutV (ns.map V.int) lo hi = (cutI ns lo hi).map V.int := by
  unfold cutV cutI
  rw [List.length_map, List.map_take, List.map_drop]
theorem cutI_len (ns : List Int) (lo hi : Option Int) : (cutI ns lo hi).length ≤ ns.length := by
  have := cutV_length (ns.map V.int) lo hi
  rwa [cut_map, List.length_map, List.length_map] at this
section
variable {P : Program} {w : World} {K : PySem.W.Frag} {mg : Str → Option Value} {base : Heap}
theorem sc__law_cell_at : FnScope ["script", "k"] ["script", "k"] (defScope st__law_cell_at) := ⟨rfl, rfl, rfl, by decide +kernel, rfl, by decide +kernel, by decide +kernel⟩
theorem ok_cell_at (D : Def K mg "_law_cell_at" st__law_cell_at ["script", "k"]) (T : Txt K mg) : Fn P w K mg base 1 "_law_cell_at" ["script", "k"] (spCell K) := by
  refine D.fn sc__law_cell_at (fun vs H Q E h => ?_) (fun f cdv A outer s H vs Q E hr h => ?_)
  · obtain ⟨n, k, c, rfl, _⟩ := h
    rfl
  · obtain ⟨a, ns, k, rfl, hS, k0, q⟩ := h
    refine ⟨_, (pss_cons (ps_if (pt_cmpR op_ltI (pv 1) (pe_callB call_len_seq (by rfl) T.z_len b_len (pa_cons (pv 0) pa_nil)) (nomark _))
        (pss_one (ps_ret (pe_ix ix_list (pv 0) (pv 1) (fun _ _ => rfl))))
        pss_nil)
      (pss_one (ps_ret pe_int))), ?_⟩
    refine ⟨_, rfl, _, rfl, _, _, rfl, .inl hS, _, _, rfl, rfl, _, rfl, ?_⟩
    rw [List.length_map]
    refine ifD (fun h => ?_) (fun h => ?_)
    · have hk : k.toNat < ns.length := by omega
      have e : atI (ns.map V.int) k = some (V.int (cellOf ns k)) := by
        have := at_map (ns := ns) (k := k.toNat) (x := cellOf ns k) (by unfold cellOf; rw [List.getD_eq_getElem?_getD, List.getElem?_eq_getElem hk]; rfl)
        rwa [show ((k.toNat : Nat) : Int) = k by omega] at this
      exact ⟨_, rfl, _, rfl, _, _, _, _, rfl, rfl, hS, e, q⟩
    · have e : cellOf ns k = 0 := by
        unfold cellOf
        rw [List.getD_eq_getElem?_getD, List.getElem?_eq_none (by omega)]
        rfl
      rw [e] at q
      exact q
end
section
def spLaw (K : PySem.W.Frag) : Sp := fun vs H Q _ => ∃ (a : Addr) (ns : List Int), vs = [.ref a] ∧ SqL K H a (ns.map V.int) ∧ ns.length ≤ 63 ∧ ∀ H', Q (.bl true) H'
end
section
variable {P : Program} {w : World} {K : PySem.W.Frag} {mg : Str → Option Value} {base : Heap}
def spDr : Sp := fun vs H Q _ => ∃ c k : Int, vs = [.int c, .int k] ∧ intBits k ≤ 100 ∧ ∀ d : Int, 0 ≤ d → d < 2 ^ 61 → Q (.int d) H
theorem sc__law_drawn : FnScope ["cell", "k", "number"] ["cell", "k"] (defScope st__law_drawn) := ⟨rfl, rfl, rfl, by decide +kernel, rfl, by decide +kernel, by decide +kernel⟩
theorem ok_dr (D : Def K mg "_law_drawn" st__law_drawn ["cell", "k"]) : Fn P w K mg base 1 "_law_drawn" ["cell", "k"] spDr := by
  refine D.fn sc__law_drawn (fun vs H Q E h => ?_) (fun f cdv A outer s H vs Q E hr h => ?_)
  · obtain ⟨c, k, rfl, _⟩ := h
    rfl
  · obtain ⟨c, k, rfl, kb, q⟩ := h
    refine ⟨_, (pss_cons (ps_set (i := 2) sc__law_drawn.nd rfl (Or.inl rfl) (pe_op op_modB (pe_op op_mulB (pe_op op_addI (pe_op op_addI (pe_op op_modB (pv 0) (pe_op op_powB pe_int pe_int)) (pe_op op_mulB pe_int (pv 1))) pe_int) pe_int) pe_int))
      (pss_cons (ps_set (i := 2) sc__law_drawn.nd rfl (Or.inl rfl) (pe_op op_modB (pe_op op_mulB (pv 2) (pv 2)) pe_int))
      (pss_one (ps_ret (pe_op op_fdivB (pe_op op_modB (pe_op op_addI (pe_op op_mulB (pv 2) pe_int) (pe_op op_mulB (pv 1) (pv 1))) pe_int) pe_int))))), ?_⟩
    have p40 : (0 : Int) < 10 ^ (40 : Int).toNat := by decide
    have l40 : (10 : Int) ^ (40 : Int).toNat < 2 ^ 140 := by decide
    have c0 := Int.emod_nonneg c (show (10 : Int) ^ (40 : Int).toNat ≠ 0 by decide)
    have c1 := Int.emod_lt_of_pos c p40
    have cb : intBits (c % 10 ^ (40 : Int).toNat) ≤ 140 := bits_of c0 (Int.lt_trans c1 l40)
    have kb7 : intBits (7 * k) ≤ 103 := intBits_mul_le (m := 3) (n := 100) (by decide) kb
    have b1 : intBits (c % 10 ^ (40 : Int).toNat + 7 * k + 1) ≤ 142 := bits_mono (intBits_add_le (m := 141) (n := 1) (bits_mono (intBits_add_le cb kb7) (by decide)) (by decide)) (by decide)
    refine ⟨_, rfl, _, _, rfl, rfl, ⟨by decide, by decide, by decide⟩, _, _, rfl, rfl, p40, _, rfl, _, _, rfl, rfl, ⟨3, 100, by decide, kb, by decide⟩, _, _, rfl, rfl, _, _, rfl, rfl, _, _, rfl, rfl, ⟨142, 40, b1, by decide, by decide⟩, _, _, rfl, rfl, (by decide), ?_⟩
    have n0 := Int.emod_nonneg ((c % 10 ^ (40 : Int).toNat + 7 * k + 1) * 2654435769) (show (2305843009213693951 : Int) ≠ 0 by decide)
    have n1 := Int.emod_lt_of_pos ((c % 10 ^ (40 : Int).toNat + 7 * k + 1) * 2654435769) (show (0 : Int) < 2305843009213693951 by decide)
    generalize (c % 10 ^ (40 : Int).toNat + 7 * k + 1) * 2654435769 % 2305843009213693951 = number at n0 n1 ⊢
    have nb : intBits number ≤ 62 := bits_of n0 (by omega)
    refine ⟨_, rfl, _, rfl, _, _, rfl, rfl, ⟨62, 62, nb, nb, by decide⟩, _, _, rfl, rfl, (by decide), ?_⟩
    have m0 := Int.emod_nonneg (number * number) (show (2305843009213693951 : Int) ≠ 0 by decide)
    have m1 := Int.emod_lt_of_pos (number * number) (show (0 : Int) < 2305843009213693951 by decide)
    generalize number * number % 2305843009213693951 = num at m0 m1 ⊢
    have mb : intBits num ≤ 62 := bits_of m0 (by omega)
    have r0 := Int.emod_nonneg (num * 40503 + k * k) (show (2305843009213693951 : Int) ≠ 0 by decide)
    have r1 := Int.emod_lt_of_pos (num * 40503 + k * k) (show (0 : Int) < 2305843009213693951 by decide)
    refine ⟨_, rfl, _, _, rfl, rfl, ⟨62, 20, mb, by decide, by decide⟩, _, rfl, _, rfl, _, _, rfl, rfl, ⟨100, 100, kb, kb, by decide⟩, _, _, rfl, rfl, _, _, rfl, rfl, (by decide), _, _, rfl, rfl, ⟨by decide, by decide⟩, q _ ?_ ?_⟩
    · omega
    · omega
end
section
variable {P : Program} {w : World} {K : PySem.W.Frag} {mg : Str → Option Value} {base : Heap}
theorem sc_choose : FnScope ["n", "k", "ways", "taken"] ["n", "k"] (defScope st_choose) := ⟨rfl, rfl, rfl, by decide +kernel, rfl, by decide +kernel, by decide +kernel⟩
theorem ok_choose (D : Def K mg "choose" st_choose ["n", "k"]) (T : Txt K mg) : Fn P w K mg base 1 "choose" ["n", "k"] spChoose := by
  refine D.fn sc_choose (fun vs H Q E h => ?_) (fun f cdv A outer s H vs Q E hr h => ?_)
  · obtain ⟨n, k, rfl, _⟩ := h
    rfl
  · obtain ⟨n, k, rfl, hn, hk, hk2, hb, q⟩ := h
    refine ⟨_, (pss_cons (ps_if (pt_cmpR op_gtI (pv 1) (pv 0) (nomark _))
        (pss_one (ps_ret pe_int))
        pss_nil)
      (pss_cons (ps_set (i := 2) sc_choose.nd rfl (Or.inl rfl) pe_int)
      (pss_cons (ps_for PassesOwn.never rfl (pi_range1 (by rfl) T.z_range (pa_cons (pv 1) pa_nil)) (pg_name (i := 3) sc_choose.nd rfl (Or.inl rfl))
        (pss_one (ps_set (i := 2) sc_choose.nd rfl (Or.inl rfl) (pe_op op_fdivB (pe_op op_mulB (pv 2) (pe_op op_subI (pv 0) (pv 3))) (pe_op op_addI (pv 3) pe_int)))))
      (pss_one (ps_ret (pv 2)))))), ?_⟩
    refine ⟨_, rfl, _, rfl, _, _, rfl, rfl, _, rfl, ?_⟩
    refine ite2 (fun h => ?_) (fun h => ?_)
    · have h' : n < k := of_decide_eq_true h
      have e := ch_above hn h'
      rw [e] at q
      exact q
    · have h' : ¬ n < k := fun z => h (decide_eq_true z)
      refine ⟨_, rfl, k, rfl, by omega, by omega, for_range (n := k.toNat) (fun i σ H' => ∃ v, σ = [some (.int n), some (.int k), some (.int (ch n i)), v] ∧ H' = H) ⟨none, ?_, rfl⟩ ?_ ?_⟩
      · have e := ch_zero n
        show _ = [some (V.int n), some (V.int k), some (V.int (ch n 0)), none]
        rw [e]
        rfl
      · rintro i σ H' hi ⟨v, rfl, rfl⟩
        have hi' : (i : Int) < k := by omega
        refine ⟨_, rfl, _, rfl, _, rfl, _, _, rfl, rfl, _, _, rfl, rfl, ?_, _, rfl, _, _, rfl, rfl, _, _, rfl, rfl, ?_, ?_⟩
        · refine ⟨100000 * i + 1, 100000, bits_ch hb hn, ?_, by omega⟩
          exact intBits_le_of_natAbs (by omega) hb
        · exact ⟨by omega, bits_of (by omega) (by omega)⟩
        · have e := ch_step (n := n) (i := i) (by omega)
          have e0 : (0 : Int) + (i : Int) = (i : Int) := by omega
          refine ⟨some (.int (0 + (i : Int))), ?_, rfl⟩
          rw [e0, e]
          rfl
      · rintro σ H' ⟨v, rfl, rfl⟩
        refine ⟨_, rfl, ?_⟩
        have e : ((k.toNat : Nat) : Int) = k := by omega
        rw [e]
        exact q
end
section
variable {P : Program} {w : World} {K : PySem.W.Frag} {mg : Str → Option Value} {base : Heap}
theorem sc_rounded_up : FnScope ["number", "divisor"] ["number", "divisor"] (defScope st_rounded_up) := ⟨rfl, rfl, rfl, by decide +kernel, rfl, by decide +kernel, by decide +kernel⟩
theorem ok_rounded_up (D : Def K mg "rounded_up" st_rounded_up ["number", "divisor"]) (hP : P.given.tree = none) : Fn P w K mg base 36 "rounded_up" ["number", "divisor"] spRound := by
  refine D.fn sc_rounded_up (fun vs H Q E h => ?_) (fun f cdv A outer s H vs Q E hr h => ?_)
  · obtain ⟨n, k, rfl, _⟩ := h
    rfl
  · obtain ⟨a, b, rfl, hb, q⟩ := h
    refine ⟨_, (pss_one (ps_ret (pe_op (op_fdivP (pyl_ok hP sc_rounded_up hr)) (pe_op op_subI (pe_op op_addI (pv 0) (pv 1)) pe_int) (pv 1)))), ?_⟩
    exact ⟨_, rfl, _, rfl, _, _, rfl, rfl, _, _, rfl, rfl, _, rfl, _, _, rfl, rfl, hb, q⟩
theorem sc_above_top : FnScope ["k", "number", "product", "factor", "figures"] ["k", "number"] (defScope st_above_top) := ⟨rfl, rfl, rfl, by decide +kernel, rfl, by decide +kernel, by decide +kernel⟩
theorem ok_above_top (D : Def K mg "above_top" st_above_top ["k", "number"]) (T : Txt K mg) (G_rounded_up : Fn P w K mg base 36 "rounded_up" ["number", "divisor"] spRound) : Fn P w K mg base 37 "above_top" ["k", "number"] spAbove := by
  refine D.fn sc_above_top (fun vs H Q E h => ?_) (fun f cdv A outer s H vs Q E hr h => ?_)
  · obtain ⟨n, k, rfl, _⟩ := h
    rfl
  · obtain ⟨k, number, rfl, k1, k60, n0, nb, q⟩ := h
    refine ⟨_, (pss_cons (ps_set (i := 2) sc_above_top.nd rfl (Or.inl rfl) (pv 1))
      (pss_cons (ps_for PassesOwn.never rfl (pi_range2 (by rfl) T.z_range (pa_cons pe_int (pa_cons (pe_op op_addI (pv 0) pe_int) pa_nil))) (pg_name (i := 3) sc_above_top.nd rfl (Or.inl rfl))
        (pss_one (ps_set (i := 2) sc_above_top.nd rfl (Or.inl rfl) (pe_op op_mulB (pv 2) (pv 3)))))
      (pss_cons (ps_set (i := 4) sc_above_top.nd rfl (Or.inl rfl) (pe_fn G_rounded_up (hr.mono (by decide)) (by rfl) (pa_cons (pe_bm0 PySem.F.plainAttrs_int PySem.F.slot_int_bit_length PySem.F.type_int_bit_length mt_bit_length (pv 2)) (pa_cons (pv 0) pa_nil))))
      (pss_one (ps_ret (pe_op op_subI (pe_op op_addI (pe_op op_shlB pe_int (pv 4)) (pv 0)) pe_int)))))), ?_⟩
    have ek : ((k.toNat : Nat) : Int) = k := by omega
    have pb : ∀ i : Nat, (i : Int) ≤ 60 → intBits (number * fac i) ≤ 50000 + (7 * i + 1) := fun i hi => intBits_mul_le nb (bits_fac i (by omega))
    refine ⟨_, rfl, _, rfl, _, _, rfl, rfl, 1, k + 1, rfl, ⟨by omega, by omega, by omega, by omega⟩, for_range (lo := 1) (n := (k + 1 - 1).toNat) (fun i σ H2 => ∃ v, σ = [some (.int k), some (.int number), some (.int (number * fac i)), v, none] ∧ H2 = H) ⟨none, ?_, rfl⟩ ?_ ?_⟩
    · show _ = [some (V.int k), some (V.int number), some (V.int (number * 1)), none, none]
      rw [Int.mul_one]
      rfl
    · rintro i σ H2 hi ⟨v, rfl, rfl⟩
      have hi' : (i : Int) < k := by omega
      refine ⟨_, rfl, _, rfl, _, _, rfl, rfl, ⟨_, 64, pb i (by omega), bits_of (by omega) (by omega), by omega⟩, some (.int (1 + (i : Int))), ?_, rfl⟩
      rw [fac_succ, ← Int.mul_assoc, Int.add_comm (i : Int) 1]
      rfl
    · rintro σ H2 ⟨v, rfl, rfl⟩
      have en : (k + 1 - 1).toNat = k.toNat := by omega
      rw [en]
      have pk := pb k.toNat (by omega)
      have hsz := intBits_le_iff.mp (Nat.le_refl (intBits (number * fac k.toNat)))
      refine ⟨_, rfl, rfl, _, rfl, rfl, _, rfl, _, _, rfl, by omega, ?_⟩
      generalize hbn : intBits (number * fac k.toNat) = b at pk hsz ⊢
      have d1 := Int.mul_ediv_add_emod ((b : Int) + k - 1) k
      have d2 := Int.emod_nonneg ((b : Int) + k - 1) (show k ≠ 0 by omega)
      have d3 := Int.emod_lt_of_pos ((b : Int) + k - 1) (show 0 < k by omega)
      have f0 : 0 ≤ ((b : Int) + k - 1) / k := Int.ediv_nonneg (by omega) (by omega)
      have f1 : ((b : Int) + k - 1) / k ≤ (b : Int) + k - 1 := Int.ediv_le_self _ (by omega)
      generalize ((b : Int) + k - 1) / k = fg at d1 f0 f1 ⊢
      generalize ((b : Int) + k - 1) % k = r at d1 d2 d3
      refine ⟨_, rfl, _, _, rfl, rfl, ⟨f0, by omega, by decide⟩, _, rfl, _, _, rfl, rfl, _, _, rfl, rfl, ?_⟩
      have ef : ((fg.toNat : Nat) : Int) = fg := by omega
      have hp : (0 : Int) < 2 ^ fg.toNat := Int.pow_pos (by decide)
      have ab := aboveI (F := fg.toNat) (b := b) k1 n0 hsz (by rw [ef, Int.mul_comm]; omega)
      have e1 : (1 : Int) * 2 ^ fg.toNat = 2 ^ fg.toNat := Int.one_mul _
      rw [e1]
      refine q _ (by omega) ab ?_
      have hb2 : intBits ((2 : Int) ^ fg.toNat) ≤ fg.toNat + 1 := by
        refine intBits_le_iff.mpr ?_
        rw [Int.natAbs_pow]
        exact Nat.pow_lt_pow_right (by decide) (by omega)
      refine bits_mono (intBits_sub_le (m := 50600) (n := 64) (bits_mono (intBits_add_le (m := 50599) (n := 64) (bits_mono hb2 (by omega)) (bits_of (by omega) (by omega))) (by decide)) (by decide)) (by decide)
theorem C_absorb (n k : Nat) : (k + 1) * C (n + 1) (k + 1) = (n + 1) * C n k := by
  have h := C_step n k
  rw [C_succ, Nat.mul_add, Nat.add_mul, Nat.add_mul, Nat.one_mul, Nat.one_mul, Nat.add_mul n 1, Nat.one_mul]
  rw [Nat.add_mul] at h
  omega
theorem ch_absorb {t k : Int} (hk : 1 ≤ k) (ht : 1 ≤ t) : ch t k * k / t = ch (t - 1) (k - 1) := by
  obtain ⟨j, hj⟩ : ∃ j : Nat, k = (j : Int) + 1 := ⟨(k - 1).toNat, by omega⟩
  obtain ⟨m, hm⟩ : ∃ m : Nat, t = (m : Int) + 1 := ⟨(t - 1).toNat, by omega⟩
  subst hj hm
  have e1 : ch ((m : Int) + 1) ((j : Int) + 1) = (C (m + 1) (j + 1) : Nat) := by
    rw [show ((m : Int) + 1) = ((m + 1 : Nat) : Int) by omega, show ((j : Int) + 1) = ((j + 1 : Nat) : Int) by omega, ch_nat]
  have e2 : ch ((m : Int) + 1 - 1) ((j : Int) + 1 - 1) = (C m j : Nat) := by
    rw [show ((m : Int) + 1 - 1) = ((m : Nat) : Int) by omega, show ((j : Int) + 1 - 1) = ((j : Nat) : Int) by omega, ch_nat]
  rw [e1, e2]
  have a := C_absorb m j
  have a' : ((C (m + 1) (j + 1) : Nat) : Int) * ((j : Int) + 1) = ((m : Int) + 1) * ((C m j : Nat) : Int) := by
    rw [Int.mul_comm]
    exact_mod_cast a
  rw [a']
  exact Int.mul_ediv_cancel_left _ (by omega)
def spTopFrom : Sp := fun vs H Q _ => ∃ start k number : Int, vs = [.int start, .int k, .int number] ∧ 1 ≤ k ∧ k ≤ 60 ∧ 0 ≤ number ∧ k - 1 ≤ start ∧ number < ch (start + 1) k ∧ intBits start ≤ 60000 ∧ ∀ t : Int, IsTop k number t → intBits t ≤ 60000 → Q (.int t) H
theorem sc_top_from : FnScope ["start", "k", "number", "top", "ways", "most_off", "step"] ["start", "k", "number"] (defScope st_top_from) := ⟨rfl, rfl, rfl, by decide +kernel, rfl, by decide +kernel, by decide +kernel⟩
theorem ok_top_from (D : Def K mg "top_from" st_top_from ["start", "k", "number"]) (G_choose : Fn P w K mg base 1 "choose" ["n", "k"] spChoose) (G_rounded_up : Fn P w K mg base 36 "rounded_up" ["number", "divisor"] spRound) (hP : P.given.tree = none) :
    Fn P w K mg base 37 "top_from" ["start", "k", "number"] spTopFrom := by
  refine D.fn sc_top_from (fun vs H Q E h => ?_) (fun f cdv A outer s H vs Q E hr h => ?_)
  · obtain ⟨a, n, k, rfl, _⟩ := h
    rfl
  · obtain ⟨t0, k, number, rfl, k1, k60, n0, t1, t2, t3, q⟩ := h
    refine ⟨_, (pss_cons (ps_set (i := 3) sc_top_from.nd rfl (Or.inl rfl) (pv 0))
      (pss_cons (ps_set (i := 4) sc_top_from.nd rfl (Or.inl rfl) (pe_fn G_choose (hr.mono (by decide)) (by rfl) (pa_cons (pv 3) (pa_cons (pv 1) pa_nil))))
      (pss_cons (ps_while PassesOwn.never (pt_cmpR op_gtI (pv 4) (pv 2) (nomark _))
        (pss_cons (ps_set (i := 5) sc_top_from.nd rfl (Or.inl rfl) (pe_op (op_fdivP (pyl_ok hP sc_top_from (hr.mono (by decide)))) (pe_op op_mulB (pv 4) (pv 1)) (pv 3)))
        (pss_cons (ps_set (i := 6) sc_top_from.nd rfl (Or.inl rfl) (pe_fn G_rounded_up (hr.mono (by decide)) (by rfl) (pa_cons (pe_op op_subI (pv 4) (pv 2)) (pa_cons (pv 5) pa_nil))))
        (pss_cons (ps_set (i := 3) sc_top_from.nd rfl (Or.inl rfl) (pe_op op_subI (pv 3) (pv 6)))
        (pss_one (ps_set (i := 4) sc_top_from.nd rfl (Or.inl rfl) (pe_ifExp (pt_cmpR op_eqI (pv 6) pe_int (nomark _)) (pe_op op_subI (pv 4) (pv 5)) (pe_fn G_choose (hr.mono (by decide)) (by rfl) (pa_cons (pv 3) (pa_cons (pv 1) pa_nil))))))))))
      (pss_one (ps_ret (pv 3)))))), ?_⟩
    refine ⟨_, rfl, _, rfl, _, rfl, t0, k, rfl, by omega, by omega, by omega, bits_mono t3 (by decide), ?_⟩
    refine while_by (fun σ H2 => ∃ t v v', σ = [some (.int t0), some (.int k), some (.int number), some (.int t), some (.int (ch t k)), v, v'] ∧ H2 = H ∧ k - 1 ≤ t ∧ number < ch (t + 1) k ∧ intBits t ≤ 60000)
      (fun σ _ => match σ with | [_, _, _, some (.int t), _, _, _] => t.toNat | _ => 0) ⟨t0, none, none, rfl, rfl, t1, t2, t3⟩ ?_ ?_
    · rintro σ H2 ⟨t, v, v', rfl, rfl, u1, u2, u3⟩
      refine ⟨_, rfl, _, rfl, _, _, rfl, rfl, _, rfl, ifD (fun h => ?_) (fun h => ?_)⟩
      · obtain ⟨a1, a2, a3, a4, a5⟩ := step_downI k1 n0 (by omega) h _ rfl
        have wb : intBits (ch t k) ≤ 60000 * 60 + 1 := by
          have := bits_ch (k := k.toNat) u3 (by omega)
          rw [show ((k.toNat : Nat) : Int) = k by omega] at this
          exact bits_mono this (Nat.add_le_add_right (Nat.mul_le_mul_left _ (by omega)) _)
        refine ⟨_, rfl, _, rfl, _, _, rfl, rfl, ⟨_, 64, wb, bits_of (by omega) (by omega), by decide⟩, _, rfl, _, _, rfl, rfl, by omega, ?_⟩
        rw [ch_absorb k1 (by omega)]
        have sb : ch (t - 1) k = ch t k - ch (t - 1) (k - 1) := by
          have := ch_succ (n := t - 1) (k := k - 1) (by omega) (by omega)
          rw [show t - 1 + 1 = t by omega, show k - 1 + 1 = k by omega] at this
          omega
        refine ⟨_, rfl, _, rfl, _, _, rfl, rfl, _, rfl, ch t k - number, ch (t - 1) (k - 1), rfl, a2, ?_⟩
        generalize (ch t k - number + ch (t - 1) (k - 1) - 1) / ch (t - 1) (k - 1) = d at a3 a4 a5 ⊢
        have tb : intBits (t - d) ≤ 60000 := intBits_le_of_natAbs (y := t) (by omega) u3
        refine ⟨_, rfl, _, rfl, _, _, rfl, rfl, _, rfl, _, _, rfl, rfl, _, rfl, ifD (fun e => ?_) (fun e => ?_)⟩
        · subst e
          refine ⟨_, rfl, _, rfl, _, _, rfl, rfl, ⟨t - 1, _, _, by rw [sb]; rfl, rfl, a4, a5, tb⟩, ?_⟩
          show (t - 1).toNat < t.toNat
          omega
        · refine ⟨_, rfl, _, rfl, t - d, k, rfl, by omega, by omega, by omega, bits_mono tb (by decide), ?_⟩
          refine ⟨⟨t - d, _, _, rfl, rfl, a4, a5, tb⟩, ?_⟩
          show (t - d).toNat < t.toNat
          omega
      · refine ⟨_, rfl, q t ⟨u1, by omega, u2⟩ u3⟩
    · intro σ H2 R R' m h
      obtain ⟨v, e1, u, e2, i, j, e3, e4, b, e5, z⟩ := h
      exact ⟨v, e1, u, e2, i, j, e3, e4, b, e5, m _ _ z⟩
end
theorem ints_of {Pd : Int → Prop} : ∀ {ys : List V}, (∀ (i : Nat) (v : V), ys[i]? = some v → ∃ d : Int, v = .int d ∧ Pd d) → ∃ ds : List Int, ys = ds.map V.int ∧ ∀ d ∈ ds, Pd d
  | [], _ => ⟨[], rfl, fun _ z => nomatch z⟩
  | y :: ys, h => by
    obtain ⟨d, rfl, pd⟩ := h 0 y rfl
    obtain ⟨ds, rfl, hd⟩ := ints_of (ys := ys) fun i v hv => h (i + 1) v hv
    refine ⟨d :: ds, rfl, fun x hx => ?_⟩
    rcases List.mem_cons.mp hx with e | e
    · rw [e]; exact pd
    · exact hd x e
def bellL (late : Int) (bs : List Int) : List Int := (List.range bs.length).map fun i => bs.getD i 0 * (late + 1) + (i : Int)
theorem bellL_length (late : Int) (ns : List Int) : (bellL late ns).length = ns.length := by unfold bellL; simp
theorem bellL_get {late : Int} {ns : List Int} {i : Nat} {x : Int} (h : ns[i]? = some x) : (bellL late ns)[i]? = some (x * (late + 1) + (i : Int)) := by
  have hi := (List.getElem?_eq_some_iff.mp h).1
  unfold bellL
  rw [List.getElem?_map, List.getElem?_range hi]
  simp [List.getD_eq_getElem?_getD, h]
theorem bellL_get' {late : Int} {ns : List Int} {i : Nat} {y : Int} (h : (bellL late ns)[i]? = some y) : ∃ x, ns[i]? = some x ∧ y = x * (late + 1) + (i : Int) := by
  have hi := (List.getElem?_eq_some_iff.mp h).1
  rw [bellL_length] at hi
  have g := bellL_get (late := late) (List.getElem?_eq_getElem hi)
  rw [g] at h
  exact ⟨_, List.getElem?_eq_getElem hi, (Option.some.inj h).symm⟩
structure BoxL (bs : List Int) : Prop where
  inc : bs.Pairwise (· ≤ ·)
  nn : ∀ x ∈ bs, 0 ≤ x
  sz : ∀ x ∈ bs, x < 2 ^ 200
def Szs (m : Nat) (ns : List Int) : Prop := ∀ x ∈ ns, intBits x ≤ m
theorem BoxL.szs {bs : List Int} (h : BoxL bs) : Szs 200 bs := fun x hx => bits_of (h.nn x hx) (h.sz x hx)
theorem RowL.szs {bs : List Int} (h : RowL bs) : Szs 200 bs := fun x hx => bits_of (h.nn x hx) (h.sz x hx)
section
variable {P : Program} {w : World} {K : PySem.W.Frag} {mg : Str → Option Value} {base : Heap}
end
section
variable {P : Program} {w : World} {K : PySem.W.Frag} {mg : Str → Option Value} {base : Heap}
def spBellRow (K : PySem.W.Frag) : Sp := fun vs H Q _ => ∃ (a : Addr) (ns : List Int) (late : Int), vs = [.ref a, .int late] ∧ SqL K H a (ns.map V.int) ∧ ns.length ≤ 1000 ∧ intBits late ≤ 8000 ∧ Szs 70000 ns ∧
  ∀ (p : Addr) (H' : Hp), Same H H' → H p = none → H' p = some (.lst ((bellL late ns).map V.int)) → Q (.ref p) H'
theorem sc_bell_row : FnScope ["box", "late"] ["box", "late"] (defScope st_bell_row) := ⟨rfl, rfl, rfl, by decide +kernel, rfl, by decide +kernel, by decide +kernel⟩
theorem ok_bell_row (D : Def K mg "bell_row" st_bell_row ["box", "late"]) (T : Txt K mg) : Fn P w K mg base 1 "bell_row" ["box", "late"] (spBellRow K) := by
  refine D.fn sc_bell_row (fun vs H Q E h => ?_) (fun f cdv A outer s H vs Q E hr h => ?_)
  · obtain ⟨a, ns, late, rfl, _⟩ := h
    rfl
  · obtain ⟨a, ns, late, rfl, hA, hl, lb, hz, q⟩ := h
    refine ⟨_, (pss_one (ps_ret (pe_comp (own := ["place", "part"]) (fr := ["late"]) (ix := [1]) rfl ⟨rfl, rfl, rfl, rfl, rfl, rfl⟩ (pi_enumL (by rfl) T.z_enumerate (pa_cons (pv 0) pa_nil)) (fun _ _ _ _ _ => (pg_tupK K (n := 2) rfl (pgs_cons (pg_name (i := 0) (show (["place", "part", "late"] : List Str).Nodup by decide +kernel) rfl (Or.inl rfl)) (pgs_cons (pg_name (i := 1) (show (["place", "part", "late"] : List Str).Nodup by decide +kernel) rfl (Or.inl rfl)) pgs_nil)))) (fun _ _ _ _ _ => pts_nil) (fun _ _ _ _ _ => (pe_op op_addI (pe_op op_mulB (pv 1) (pe_op op_addI (pv 2) pe_int)) (pv 0)))))), ?_⟩
    have lb1 : intBits (late + 1) ≤ 9000 := bits_mono (intBits_add_le (m := 8000) (n := 1) lb (by decide)) (by decide)
    refine ⟨_, rfl, a, _, rfl, hA, fun acc hacc => comp_enumP (K := K) (a := a) (xs := ns.map V.int) (fun i => V.int (ns.getD i 0 * (late + 1) + (i : Int))) hA hacc ?_ ?_ ?_⟩
    · rw [List.length_map]; exact Nat.le_of_lt (small1000 hl)
    · intro i x t H2 R hx sm ht hR
      rw [List.getElem?_map] at hx
      obtain ⟨x', hx', rfl⟩ := Option.map_eq_some_iff.mp hx
      simp only [List.getD_eq_getElem?_getD, hx', Option.getD_some] at hR
      exact ⟨t, _, rfl, SqT.of ht, rfl, _, _, rfl, _, _, rfl, rfl, rfl, _, rfl, _, rfl, _, _, rfl, rfl, _, _, rfl, rfl, ⟨70000, 9000, hz x' (List.mem_of_getElem? hx'), lb1, by decide⟩, _, rfl, _, _, rfl, rfl, hR⟩
    · intro H2 sm ha
      rw [List.length_map] at ha
      refine q acc H2 sm hacc ?_
      rw [ha]
      unfold bellL
      rw [List.map_map]
      rfl
end
def numTo (bs : List Int) : Nat → Int
  | 0 => 0
  | i + 1 => numTo bs i + ch (bs.getD i 0 + (i : Int)) ((i : Int) + 1)
def numB (bs : List Int) : Int := numTo bs bs.length
structure IsBox (bs : List Int) : Prop where
  inc : bs.Pairwise (· ≤ ·)
  nn : ∀ x ∈ bs, 0 ≤ x
theorem BoxL.is {bs : List Int} (h : BoxL bs) : IsBox bs := ⟨h.inc, h.nn⟩
theorem IsBox.get {bs : List Int} (B : IsBox bs) {i j : Nat} {x y : Int} (h : i ≤ j) (hx : bs[i]? = some x) (hy : bs[j]? = some y) : x ≤ y := by
  obtain ⟨h1, e1⟩ := List.getElem?_eq_some_iff.mp hx
  obtain ⟨h2, e2⟩ := List.getElem?_eq_some_iff.mp hy
  rcases Nat.lt_or_eq_of_le h with z | z
  · have := List.pairwise_iff_getElem.mp B.inc i j h1 h2 z
    omega
  · subst z; omega
theorem IsBox.nn' {bs : List Int} (B : IsBox bs) {i : Nat} : 0 ≤ bs.getD i 0 := by
  rw [List.getD_eq_getElem?_getD]
  cases h : bs[i]? with
  | none => exact Int.le_refl _
  | some x => exact B.nn x (List.mem_of_getElem? h)
theorem IsBox.le' {bs : List Int} (B : IsBox bs) {i j : Nat} (h : i ≤ j) (hj : j < bs.length) : bs.getD i 0 ≤ bs.getD j 0 := by
  have hi : i < bs.length := by omega
  rw [List.getD_eq_getElem?_getD, List.getD_eq_getElem?_getD, List.getElem?_eq_getElem hi, List.getElem?_eq_getElem hj]
  exact B.get h (List.getElem?_eq_getElem hi) (List.getElem?_eq_getElem hj)
theorem numTo_nonneg (bs : List Int) : ∀ n, 0 ≤ numTo bs n
  | 0 => Int.le_refl _
  | n + 1 => by
    have := numTo_nonneg bs n
    have := ch_nonneg (bs.getD n 0 + (n : Int)) ((n : Int) + 1)
    show 0 ≤ numTo bs n + _
    omega
theorem numTo_lt {bs : List Int} (B : IsBox bs) : ∀ (i : Nat) (c : Int), i ≤ bs.length → 0 ≤ c → (∀ j, j < i → bs.getD j 0 ≤ c) → numTo bs i < ch (c + (i : Int)) (i : Int)
  | 0, c, _, _, _ => by
    show (0 : Int) < ch (c + ((0 : Nat) : Int)) 0
    rw [ch_zero]; decide
  | i + 1, c, hi, hc, hb => by
    have b0 := B.nn' (i := i)
    have ih := numTo_lt B i (bs.getD i 0) (by omega) b0 (fun j hj => B.le' (by omega) (by omega))
    have p := ch_succ (n := bs.getD i 0 + (i : Int)) (k := (i : Int)) (by omega) (by omega)
    have m := ch_mono (m := bs.getD i 0 + (i : Int) + 1) (n := c + ((i + 1 : Nat) : Int)) (k := ((i + 1 : Nat) : Int)) (by have := hb i (by omega); omega)
    rw [show ((i + 1 : Nat) : Int) = (i : Int) + 1 by omega] at m ⊢
    show numTo bs i + ch (bs.getD i 0 + (i : Int)) ((i : Int) + 1) < _
    omega
theorem numTo_top {bs : List Int} (B : IsBox bs) {i : Nat} (hi : i < bs.length) : IsTop ((i : Int) + 1) (numTo bs (i + 1)) (bs.getD i 0 + (i : Int)) := by
  have b0 := B.nn' (i := i)
  have a := numTo_lt B (i + 1) (bs.getD i 0) hi b0 (fun j hj => B.le' (by omega) hi)
  have n0 := numTo_nonneg bs i
  refine ⟨by omega, ?_, ?_⟩
  · show _ ≤ numTo bs i + _
    omega
  · rw [show ((i + 1 : Nat) : Int) = (i : Int) + 1 by omega] at a
    rw [show bs.getD i 0 + (i : Int) + 1 = bs.getD i 0 + ((i : Int) + 1) by omega]
    exact a
theorem numTo_inj {as bs : List Int} (A : IsBox as) (B : IsBox bs) : ∀ i : Nat, i ≤ as.length → i ≤ bs.length → numTo as i = numTo bs i → ∀ j, j < i → as.getD j 0 = bs.getD j 0
  | 0, _, _, _, j, hj => absurd hj (Nat.not_lt_zero _)
  | i + 1, ha, hb, e, j, hj => by
    have ta := numTo_top A (i := i) ha
    have tb := numTo_top B (i := i) hb
    rw [e] at ta
    have u := ta.unique tb
    have u' : as.getD i 0 = bs.getD i 0 := by omega
    by_cases hji : j = i
    · rw [hji]; exact u'
    · have e' : numTo as i + ch (as.getD i 0 + (i : Int)) ((i : Int) + 1) = numTo bs i + ch (bs.getD i 0 + (i : Int)) ((i : Int) + 1) := e
      rw [u'] at e'
      exact numTo_inj A B i (by omega) (by omega) (by omega) j (by omega)
theorem numB_inj {as bs : List Int} (A : IsBox as) (B : IsBox bs) (hl : as.length = bs.length) (e : numB as = numB bs) : as = bs := by
  refine List.ext_getElem? fun i => ?_
  unfold numB at e
  rw [hl] at e
  by_cases hi : i < as.length
  · have := numTo_inj A B bs.length (by omega) (Nat.le_refl _) e i (by omega)
    rw [List.getD_eq_getElem?_getD, List.getD_eq_getElem?_getD, List.getElem?_eq_getElem hi, List.getElem?_eq_getElem (by omega : i < bs.length)] at this
    rw [List.getElem?_eq_getElem hi, List.getElem?_eq_getElem (by omega : i < bs.length)]
    congr 1
  · rw [List.getElem?_eq_none (by omega), List.getElem?_eq_none (by omega)]
theorem getD_set {bs : List Int} {i j : Nat} {v : Int} (hi : i < bs.length) : (bs.set i v).getD j 0 = if j = i then v else bs.getD j 0 := by
  rw [List.getD_eq_getElem?_getD, List.getD_eq_getElem?_getD, List.getElem?_set]
  by_cases h : i = j
  · subst h; simp [hi]
  · rw [if_neg h, if_neg (fun z => h z.symm)]
theorem numTo_set {bs : List Int} {i : Nat} {v : Int} (hi : i < bs.length) : ∀ n : Nat, numTo (bs.set i v) n = numTo bs n + if i < n then ch (v + (i : Int)) ((i : Int) + 1) - ch (bs.getD i 0 + (i : Int)) ((i : Int) + 1) else 0
  | 0 => by rw [if_neg (Nat.not_lt_zero _)]; rfl
  | n + 1 => by
    show numTo (bs.set i v) n + ch ((bs.set i v).getD n 0 + (n : Int)) ((n : Int) + 1) = numTo bs n + ch (bs.getD n 0 + (n : Int)) ((n : Int) + 1) + _
    rw [numTo_set hi n, getD_set hi]
    by_cases h1 : n = i
    · subst h1
      rw [if_pos rfl, if_neg (Nat.lt_irrefl _), if_pos (Nat.lt_succ_self _)]
      omega
    · rw [if_neg h1]
      by_cases h2 : i < n
      · rw [if_pos h2, if_pos (by omega)]; omega
      · rw [if_neg h2, if_neg (by omega)]; omega
theorem numTo_zeros (m : Nat) : ∀ n : Nat, numTo (List.replicate m 0) n = 0
  | 0 => rfl
  | n + 1 => by
    have e : (List.replicate m (0 : Int)).getD n 0 = 0 := by
      rw [List.getD_eq_getElem?_getD, List.getElem?_replicate]
      split <;> rfl
    show numTo (List.replicate m 0) n + ch ((List.replicate m (0 : Int)).getD n 0 + (n : Int)) ((n : Int) + 1) = 0
    rw [numTo_zeros m n, e, ch_above (by omega) (by omega)]
    rfl
theorem flat_zeros : ∀ n : Nat, (List.replicate n [V.int 0]).flatten = (List.replicate n (0 : Int)).map V.int
  | 0 => rfl
  | n + 1 => by
    rw [List.replicate_succ, List.flatten_cons, flat_zeros n, List.replicate_succ, List.map_cons]
    rfl
theorem rng_down {n : Nat} (h : n ≤ 1000) : (-1 : Int) ≠ 0 ∧ (-1 : Int).natAbs < 1073741824 ∧ Builtin.Range.small ((n : Int) - 1) (-1) (-1) = true ∧ Builtin.Range.rangeSize ((n : Int) - 1) (-1) (-1) = (n : Int) := by
  have hs : Builtin.Range.rangeSize ((n : Int) - 1) (-1) (-1) = (n : Int) := by
    unfold Builtin.Range.rangeSize
    rw [if_neg (by decide)]
    by_cases z : n = 0
    · subst z; rfl
    · rw [if_pos (by omega)]
      show ((n : Int) - 1 - -1 - 1) / (- -1) + 1 = n
      rw [show (- -1 : Int) = 1 by decide, Int.ediv_one]
      omega
  refine ⟨by decide, by decide, ?_, hs⟩
  unfold Builtin.Range.small
  rw [hs]
  simp only [Builtin.Range.rangeFitsLong]
  simp
  omega
theorem isBox_of {bs : List Int} (h0 : ∀ j, j < bs.length → 0 ≤ bs.getD j 0) (hm : ∀ j k, j ≤ k → k < bs.length → bs.getD j 0 ≤ bs.getD k 0) : IsBox bs := by
  have eg : ∀ (j : Nat) (h : j < bs.length), bs.getD j 0 = bs[j] := fun j h => by rw [List.getD_eq_getElem?_getD, List.getElem?_eq_getElem h]; rfl
  refine ⟨List.pairwise_iff_getElem.mpr fun i j hi hj hij => ?_, fun x hx => ?_⟩
  · have := hm i j (by omega) hj
    rw [eg i hi, eg j hj] at this
    exact this
  · obtain ⟨j, hj, rfl⟩ := List.getElem_of_mem hx
    rw [← eg j hj]
    exact h0 j hj
theorem C_more (m : Nat) : ∀ n : Nat, m < C (m + (n + 1)) (n + 1)
  | 0 => by rw [C_one]; omega
  | n + 1 => by
    have := C_more m n
    rw [show m + (n + 1 + 1) = (m + (n + 1)) + 1 by omega, C_succ]
    omega
theorem ch_more {m : Int} {n : Nat} (h0 : 0 ≤ m) (hz : (n : Int) = 0 → m = 0) : m < ch (m + (n : Int)) (n : Int) := by
  cases n with
  | zero =>
    have := hz rfl
    subst this
    rw [show ((0 : Nat) : Int) = 0 from rfl, ch_zero]
    decide
  | succ n =>
    obtain ⟨r, rfl⟩ : ∃ r : Nat, m = (r : Int) := ⟨m.toNat, by omega⟩
    rw [← Int.natCast_add, ch_nat]
    have := C_more r n
    omega
theorem top_lt {k a b c : Int} (h1 : ch a k ≤ c) (h2 : c < ch b k) : a < b := by
  rcases (by omega : a < b ∨ b ≤ a) with z | z
  · exact z
  · have := ch_mono (k := k) z
    omega
section
variable {P : Program} {w : World} {K : PySem.W.Frag} {mg : Str → Option Value} {base : Heap}
def spBoxMsg (K : PySem.W.Frag) : Sp := fun vs H Q _ => ∃ message bells : Int, vs = [.int message, .int bells] ∧ 0 ≤ message ∧ 0 ≤ bells ∧ bells ≤ 60 ∧ (bells = 0 → message = 0) ∧ intBits message ≤ 50000 ∧
  ∀ (p : Addr) (bs : List Int) (H' : Hp), Same H H' → H p = none → H' p = some (.lst (bs.map V.int)) → IsBox bs → bs.length = bells.toNat → numB bs = message → Szs 60010 bs → Q (.ref p) H'
theorem sc_box_of_message : FnScope ["message", "bells", "box", "left", "top", "place"] ["message", "bells"] (defScope st_box_of_message) := ⟨rfl, rfl, rfl, by decide +kernel, rfl, by decide +kernel, by decide +kernel⟩
theorem ok_box_of_message (D : Def K mg "box_of_message" st_box_of_message ["message", "bells"]) (T : Txt K mg) (G_above_top : Fn P w K mg base 37 "above_top" ["k", "number"] spAbove) (G_top_from : Fn P w K mg base 37 "top_from" ["start", "k", "number"] spTopFrom) (G_choose : Fn P w K mg base 1 "choose" ["n", "k"] spChoose) :
    Fn P w K mg base 39 "box_of_message" ["message", "bells"] (spBoxMsg K) := by
  refine D.fn sc_box_of_message (fun vs H Q E h => ?_) (fun f cdv A outer s H vs Q E hr h => ?_)
  · obtain ⟨a, bs, rfl, _⟩ := h
    rfl
  · obtain ⟨message, bells, rfl, m0, b0, b60, mz, mb, q⟩ := h
    refine ⟨_, (pss_cons (ps_if (pw_or (pt_cmpR op_ltI (pv 0) pe_int (nomark _)) (pw_or1 (pw_and (pt_cmpR op_eqI (pv 1) pe_int (nomark _)) (pw_and1 (pt_cmpR op_neI (pv 0) pe_int (nomark _)))).pt)).pt
        (pss_one (ps_never))
        pss_nil)
      (pss_cons (ps_set (i := 2) sc_box_of_message.nd rfl (Or.inl rfl) (pe_op op_rep (pe_lst (pa_cons pe_int pa_nil)) (pv 1)))
      (pss_cons (ps_set (i := 3) sc_box_of_message.nd rfl (Or.inl rfl) (pv 0))
      (pss_cons (ps_set (i := 4) sc_box_of_message.nd rfl (Or.inl rfl) (pe_op op_addI (pv 0) (pv 1)))
      (pss_cons (ps_for PassesOwn.never rfl (pi_range3 (by rfl) T.z_range (pa_cons (pe_op op_subI (pv 1) pe_int) (pa_cons (pe_un un_neg pe_int) (pa_cons (pe_un un_neg pe_int) pa_nil)))) (pg_name (i := 5) sc_box_of_message.nd rfl (Or.inl rfl))
        (pss_cons (ps_set (i := 4) sc_box_of_message.nd rfl (Or.inl rfl) (pe_fn G_top_from (hr.mono (by decide)) (by rfl) (pa_cons (pe_callB (call_min2 rfl) (by rfl) T.z_min b_min (pa_cons (pe_op op_subI (pv 4) pe_int) (pa_cons (pe_fn G_above_top (hr.mono (by decide)) (by rfl) (pa_cons (pe_op op_addI (pv 5) pe_int) (pa_cons (pv 3) pa_nil))) pa_nil))) (pa_cons (pe_op op_addI (pv 5) pe_int) (pa_cons (pv 3) pa_nil)))))
        (pss_cons (ps_asg (pe_op op_subI (pv 4) (pv 5)) (pg_sub (pv 2) (pv 5) set_list))
        (pss_one (ps_set (i := 3) sc_box_of_message.nd rfl (Or.inl rfl) (pe_op op_subI (pv 3) (pe_fn G_choose (hr.mono (by decide)) (by rfl) (pa_cons (pv 4) (pa_cons (pe_op op_addI (pv 5) pe_int) pa_nil)))))))))
      (pss_one (ps_ret (pv 2)))))))), ?_⟩
    obtain ⟨n, rfl⟩ : ∃ n : Nat, bells = (n : Int) := ⟨bells.toNat, by omega⟩
    refine ⟨_, rfl, _, _, rfl, rfl, _, rfl, ifF (by omega) ⟨_, rfl, _, _, rfl, rfl, _, rfl, ?_⟩⟩
    refine ifD (fun z => ⟨_, rfl, _, _, rfl, rfl, _, rfl, iteNS (mz z) ?x1⟩) (fun z => ?x2)
    all_goals
      refine ⟨(by decide), fun l hl => ⟨_, rfl, l, (n : Int), _, rfl, rfl, upd_same, by omega, by omega, ?_, fun p hp => ?_⟩⟩
      · show 1 * ((n : Int)).toNat ≤ sizeLine
        exact Nat.le_of_lt (small1000 (by omega))
      rw [show ((n : Int)).toNat = n by omega, flat_zeros]
      have hp0 : H p = none := (Same.new hl).free hp
      have s1 : Same H (upd (upd H l (.lst [V.int 0])) p (.lst ((List.replicate n (0 : Int)).map V.int))) := (Same.new hl).put hp
      have h1 : (upd (upd H l (.lst [V.int 0])) p (.lst ((List.replicate n (0 : Int)).map V.int))) p = some (.lst ((List.replicate n (0 : Int)).map V.int)) := upd_same
      generalize upd (upd H l (.lst [V.int 0])) p (.lst ((List.replicate n (0 : Int)).map V.int)) = H1 at s1 h1 ⊢
      have mb2 : intBits (message + (n : Int)) ≤ 60000 := bits_mono (intBits_add_le (m := 50000) (n := 64) mb (bits_of (by omega) (by omega))) (by decide)
      refine ⟨_, rfl, _, rfl, _, rfl, _, _, rfl, rfl, _, rfl, _, _, rfl, rfl, 1, rfl, 1, rfl, (n : Int) - 1, -1, -1, n, rfl, rng_down (by omega), for_range3 (lo := (n : Int) - 1) (c := -1) (n := n) (fun i σ H2 => ∃ (bs : List Int) (left top : Int) (v5 : Option V), σ = [some (.int message), some (.int (n : Int)), some (.ref p), some (.int left), some (.int top), v5] ∧ Same H H2 ∧ H2 p = some (.lst (bs.map V.int)) ∧ bs.length = n ∧ 0 ≤ left ∧ left ≤ message ∧ left + numTo bs n = message ∧ (∀ j, j < n - i → bs.getD j 0 = 0) ∧ (∀ j, j < n → 0 ≤ bs.getD j 0) ∧ (∀ j k, n - i ≤ j → j ≤ k → k < n → bs.getD j 0 ≤ bs.getD k 0) ∧ left < ch top ((n - i : Nat) : Int) ∧ ((n - i : Nat) : Int) ≤ top ∧ intBits top ≤ 60000 ∧ (0 < i → top = bs.getD (n - i) 0 + ((n - i : Nat) : Int)) ∧ Szs 60010 bs)
        ⟨List.replicate n 0, message, message + (n : Int), none, rfl, s1, h1, by rw [List.length_replicate], m0, Int.le_refl _, by rw [numTo_zeros]; omega, fun j _ => ?_, fun j _ => ?_, fun j k h1 h2 h3 => by omega, by rw [Nat.sub_zero]; exact ch_more m0 mz, by omega, mb2, fun z => absurd z (by omega), fun x hx => ?_⟩ ?_ ?_⟩
      · rw [List.getD_eq_getElem?_getD, List.getElem?_replicate]
        split <;> rfl
      · rw [List.getD_eq_getElem?_getD, List.getElem?_replicate]
        split <;> decide
      · rw [(List.mem_replicate.mp hx).2]; decide
      · rintro i σ H2 hi ⟨bs, left, top, v5, rfl, sm, hB, hl2, l0, l1, sum, z0, nn, mono, lt, tge, tbb, teq, sz⟩
        obtain ⟨pl, hpl⟩ : ∃ pl : Nat, pl = n - 1 - i := ⟨_, rfl⟩
        have ep : (n : Int) - 1 + (i : Int) * -1 = (pl : Int) := by omega
        rw [ep]
        have hpb : pl < bs.length := by omega
        have hni : n - i = pl + 1 := by omega
        rw [hni] at lt tge teq
        refine ⟨_, rfl, _, _, rfl, rfl, _, rfl, _, _, rfl, rfl, _, rfl, (pl : Int) + 1, left, rfl, by omega, by omega, l0, intBits_le_of_natAbs (y := message) (by omega) mb, fun a a1 a2 a3 => ⟨_, _, rfl, _, rfl, _, _, rfl, rfl, _, rfl, _, (pl : Int) + 1, left, rfl, by omega, by omega, l0, ?_, ?_, ?_, fun t tp tb => ?_⟩⟩
        · split <;> omega
        · split
          · exact a2
          · rw [show top - 1 + 1 = top by omega, show ((pl : Int) + 1) = ((pl + 1 : Nat) : Int) by omega]
            exact lt
        · split
          · exact a3
          · exact intBits_le_of_natAbs (y := top) (by omega) tbb
        have t0 := tp.lo
        have t1 := tp.le
        have t2 := tp.lt
        refine ⟨_, rfl, _, rfl, _, _, rfl, rfl, _, rfl, _, rfl, p, _, _, pl, rfl, rfl, hB, ?_, ?_⟩
        · unfold ixN
          rw [List.length_map, if_pos (by omega), if_pos (by omega), Int.toNat_natCast]
        have pas := ch_succ (n := t) (k := (pl : Int)) (by omega) (by omega)
        refine ⟨_, rfl, _, rfl, _, rfl, _, _, rfl, rfl, t, (pl : Int) + 1, rfl, by omega, by omega, by omega, bits_mono tb (by decide), _, _, rfl, rfl, ?_⟩
        have ge := ch_nonneg t ((pl : Int) + 1)
        refine ⟨bs.set pl (t - (pl : Int)), left - ch t ((pl : Int) + 1), t, _, rfl, sm.wr hp0, by rw [upd_same, List.map_set], by rw [List.length_set]; exact hl2, by omega, by omega, ?_, fun j hj => ?_, fun j hj => ?_, fun j k h1 h2 h3 => ?_, ?_, by omega, tb, fun _ => ?_, fun x hx => ?_⟩
        · rw [numTo_set hpb, if_pos (by omega), z0 pl (by omega), ch_above (n := 0 + (pl : Int)) (by omega) (by omega), show t - (pl : Int) + (pl : Int) = t by omega]
          omega
        · rw [getD_set hpb, if_neg (by omega)]
          exact z0 j (by omega)
        · rw [getD_set hpb]
          split
          · omega
          · exact nn j hj
        · rw [getD_set hpb, getD_set hpb]
          by_cases e1 : j = pl
          · rw [if_pos e1]
            by_cases e2 : k = pl
            · rw [if_pos e2]; exact Int.le_refl _
            · rw [if_neg e2]
              have := top_lt t1 (by rw [show ((pl : Int) + 1) = ((pl + 1 : Nat) : Int) by omega]; exact lt)
              have := teq (by omega)
              have := mono (pl + 1) k (by omega) (by omega) h3
              omega
          · rw [if_neg e1, if_neg (by omega)]
            exact mono j k (by omega) h2 h3
        · rw [show n - (i + 1) = pl by omega]
          omega
        · rw [show n - (i + 1) = pl by omega, getD_set hpb, if_pos rfl, show t - (pl : Int) + (pl : Int) = t by omega]
        · rcases List.mem_or_eq_of_mem_set hx with z | z
          · exact sz x z
          · rw [z]
            exact bits_mono (intBits_sub_le (m := 60000) (n := 64) tb (bits_of (by omega) (by omega))) (by decide)
      · rintro σ H2 ⟨bs, left, top, v5, rfl, sm, hB, hl2, l0, l1, sum, z0, nn, mono, lt, tge, tbb, teq, sz⟩
        rw [Nat.sub_self] at z0 mono lt
        have e0 : left = 0 := by
          by_cases hn : n = 0
          · subst hn
            have : message = 0 := mz rfl
            omega
          · rw [show ((0 : Nat) : Int) = 0 from rfl, ch_zero] at lt
            omega
        refine ⟨_, rfl, q p bs H2 sm hp0 hB (isBox_of (fun j hj => nn j (by omega)) (fun j k h1 h2 => mono j k (Nat.zero_le _) h1 (by omega))) (by omega) ?_ sz⟩
        unfold numB
        rw [hl2]
        omega
end
def cnt (turns bells late : Int) : Int := if turns < bells then 0 else ch ((turns - bells) / (late + 1) + bells) bells
def spCount : Sp := fun vs H Q _ => ∃ turns bells late : Int, vs = [.int turns, .int bells, .int late] ∧ 0 ≤ bells ∧ bells ≤ 1000 ∧ 0 ≤ late ∧ intBits late ≤ 8000 ∧ intBits turns ≤ 70000 ∧ Q (.int (cnt turns bells late)) H
section
variable {P : Program} {w : World} {K : PySem.W.Frag} {mg : Str → Option Value} {base : Heap}
def spGreat : Sp := fun vs H Q _ => ∃ turns bells late : Int, vs = [.int turns, .int bells, .int late] ∧ 0 ≤ late ∧ intBits late ≤ 8000 ∧ Q (.int ((turns - bells) / (late + 1))) H
theorem sc_greatest_part : FnScope ["turns", "bells", "late"] ["turns", "bells", "late"] (defScope st_greatest_part) := ⟨rfl, rfl, rfl, by decide +kernel, rfl, by decide +kernel, by decide +kernel⟩
theorem ok_greatest_part (D : Def K mg "greatest_part" st_greatest_part ["turns", "bells", "late"]) : Fn P w K mg base 1 "greatest_part" ["turns", "bells", "late"] spGreat := by
  refine D.fn sc_greatest_part (fun vs H Q E h => ?_) (fun f cdv A outer s H vs Q E hr h => ?_)
  · obtain ⟨a, b, c, rfl, _⟩ := h
    rfl
  · obtain ⟨turns, bells, late, rfl, l0, lb, q⟩ := h
    refine ⟨_, (pss_one (ps_ret (pe_op op_fdivB (pe_op op_subI (pv 0) (pv 1)) (pe_op op_addI (pv 2) pe_int)))), ?_⟩
    have lb1 : intBits (late + 1) ≤ 9000 := bits_mono (intBits_add_le (m := 8000) (n := 1) lb (by decide)) (by decide)
    exact ⟨_, rfl, _, rfl, _, _, rfl, rfl, _, rfl, _, _, rfl, rfl, _, _, rfl, rfl, ⟨by omega, lb1⟩, q⟩
theorem sc_box_count : FnScope ["turns", "bells", "late"] ["turns", "bells", "late"] (defScope st_box_count) := ⟨rfl, rfl, rfl, by decide +kernel, rfl, by decide +kernel, by decide +kernel⟩
theorem ok_box_count (D : Def K mg "box_count" st_box_count ["turns", "bells", "late"]) (T : Txt K mg) (G_greatest_part : Fn P w K mg base 1 "greatest_part" ["turns", "bells", "late"] spGreat) (G_choose : Fn P w K mg base 1 "choose" ["n", "k"] spChoose) : Fn P w K mg base 2 "box_count" ["turns", "bells", "late"] spCount := by
  refine D.fn sc_box_count (fun vs H Q E h => ?_) (fun f cdv A outer s H vs Q E hr h => ?_)
  · obtain ⟨a, b, c, rfl, _⟩ := h
    rfl
  · obtain ⟨turns, bells, late, rfl, b0, b1, l0, lb, tb, q⟩ := h
    refine ⟨_, (pss_cons (ps_if (pt_cmpR op_gtI (pv 1) (pv 0) (nomark _))
        (pss_one (ps_ret pe_int))
        pss_nil)
      (pss_one (ps_ret (pe_fn G_choose (hr.mono (by decide)) (by rfl) (pa_cons (pe_op op_addI (pe_fn G_greatest_part (hr.mono (by decide)) (by rfl) (pa_cons (pv 0) (pa_cons (pv 1) (pa_cons (pv 2) pa_nil)))) (pv 1)) (pa_cons (pv 1) pa_nil)))))), ?_⟩
    unfold cnt at q
    refine ⟨_, rfl, _, rfl, _, _, rfl, rfl, _, rfl, ifD (fun h => ?_) (fun h => ?_)⟩
    · rw [if_pos h] at q
      exact q
    · rw [if_neg h] at q
      have d0 : 0 ≤ (turns - bells) / (late + 1) := Int.ediv_nonneg (by omega) (by omega)
      have db : intBits ((turns - bells) / (late + 1)) ≤ 70000 := by
        have h2 := Int.ediv_le_self (late + 1) (show 0 ≤ turns - bells by omega)
        exact intBits_le_of_natAbs (y := turns) (by omega) tb
      refine ⟨_, rfl, _, rfl, _, rfl, turns, bells, late, rfl, l0, lb, _, rfl, _, _, rfl, rfl, _, rfl, _, bells, rfl, by omega, b0, b1, ?_, q⟩
      exact bits_mono (intBits_add_le (m := 70000) (n := 64) db (bits_of b0 (by omega))) (by decide)
end
theorem cnt_pos {turns bells late : Int} (b0 : 0 ≤ bells) (h : bells ≤ turns) (l0 : 0 ≤ late) : 0 < cnt turns bells late := by
  unfold cnt
  rw [if_neg (by omega)]
  have d0 : 0 ≤ (turns - bells) / (late + 1) := Int.ediv_nonneg (by omega) (by omega)
  exact ch_pos b0 (by omega)
theorem cnt_bits {turns bells late : Int} {m : Nat} (b0 : 0 ≤ bells) (b1 : bells ≤ 61) (l0 : 0 ≤ late) (t0 : 0 ≤ turns) (tb : intBits turns ≤ m) (hm : 7 ≤ m) : intBits (cnt turns bells late) ≤ (m + 1) * 61 + 1 := by
  unfold cnt
  split
  · exact Nat.zero_le _
  · have d0 : 0 ≤ (turns - bells) / (late + 1) := Int.ediv_nonneg (by omega) (by omega)
    have d1 : (turns - bells) / (late + 1) ≤ turns - bells := Int.ediv_le_self _ (by omega)
    have nb : intBits ((turns - bells) / (late + 1) + bells) ≤ m + 1 := bits_mono (intBits_le_of_natAbs (y := turns) (by omega) tb) (by omega)
    have := bits_ch (k := bells.toNat) nb (by omega)
    rw [show ((bells.toNat : Nat) : Int) = bells by omega] at this
    exact bits_mono this (Nat.add_le_add_right (Nat.mul_le_mul_left _ (by omega)) _)
theorem bits_lt {x y : Int} {m : Nat} (h0 : 0 ≤ x) (h1 : x < y) (hy : intBits y ≤ m) : intBits x ≤ m := intBits_le_of_natAbs (y := y) (by omega) hy
section
variable {P : Program} {w : World} {K : PySem.W.Frag} {mg : Str → Option Value} {base : Heap}
def spWritten (K : PySem.W.Frag) : Sp := fun vs H Q _ => ∃ message turns bells late : Int, vs = [.int message, .int turns, .int bells, .int late] ∧ 0 ≤ message ∧ message < cnt turns bells late ∧ 0 ≤ bells ∧ bells ≤ 60 ∧ 0 ≤ late ∧ intBits late ≤ 8000 ∧ intBits turns ≤ 70000 ∧ intBits message ≤ 50000 ∧
  ∀ (p : Addr) (bs : List Int) (H' : Hp), Same H H' → H p = none → H' p = some (.lst ((bellL late bs).map V.int)) → IsBox bs → bs.length = bells.toNat → numB bs = message → Szs 60010 bs → Q (.ref p) H'
theorem cnt_no_bells {message turns late : Int} (h0 : 0 ≤ message) (h : message < cnt turns 0 late) : message = 0 := by
  unfold cnt at h
  split at h
  · omega
  · rw [ch_zero] at h; omega
theorem sc_written : FnScope ["message", "turns", "bells", "late"] ["message", "turns", "bells", "late"] (defScope st_written) := ⟨rfl, rfl, rfl, by decide +kernel, rfl, by decide +kernel, by decide +kernel⟩
theorem ok_written (D : Def K mg "written" st_written ["message", "turns", "bells", "late"]) (T : Txt K mg) (G_box_count : Fn P w K mg base 2 "box_count" ["turns", "bells", "late"] spCount) (G_box_of_message : Fn P w K mg base 39 "box_of_message" ["message", "bells"] (spBoxMsg K)) (G_bell_row : Fn P w K mg base 1 "bell_row" ["box", "late"] (spBellRow K)) :
    Fn P w K mg base 40 "written" ["message", "turns", "bells", "late"] (spWritten K) := by
  refine D.fn sc_written (fun vs H Q E h => ?_) (fun f cdv A outer s H vs Q E hr h => ?_)
  · obtain ⟨a, b, c, d, rfl, _⟩ := h
    rfl
  · obtain ⟨message, turns, bells, late, rfl, m0, m1, b0, b60, l0, lb, tb, mb, q⟩ := h
    refine ⟨_, (pss_cons (ps_if (pw_or (pt_cmpR op_ltI (pv 0) pe_int (nomark _)) (pw_or1 (pt_cmpR op_geI (pv 0) (pe_fn G_box_count (hr.mono (by decide)) (by rfl) (pa_cons (pv 1) (pa_cons (pv 2) (pa_cons (pv 3) pa_nil)))) (nomark _)))).pt
        (pss_one (ps_never))
        pss_nil)
      (pss_one (ps_ret (pe_fn G_bell_row (hr.mono (by decide)) (by rfl) (pa_cons (pe_fn G_box_of_message (hr.mono (by decide)) (by rfl) (pa_cons (pv 0) (pa_cons (pv 2) pa_nil))) (pa_cons (pv 3) pa_nil)))))), ?_⟩
    refine ⟨_, rfl, _, _, rfl, rfl, _, rfl, ifF (by omega) ⟨_, rfl, _, rfl, _, rfl, _, rfl, turns, bells, late, rfl, b0, by omega, l0, lb, tb, _, _, rfl, rfl, _, rfl, ifF (by omega) ?_⟩⟩
    refine ⟨_, rfl, _, rfl, message, bells, rfl, m0, b0, b60, fun z => cnt_no_bells m0 (z ▸ m1), mb, fun p bs H1 s1 hp h1 B hl hnum sz => ?_⟩
    refine ⟨_, rfl, p, bs, late, rfl, SqL.of h1, by omega, lb, fun x hx => bits_mono (sz x hx) (by decide), fun p2 H2 s2 hp2 h2 => ?_⟩
    exact q p2 bs H2 (s1.trans s2) (s1.free hp2) h2 B hl hnum sz
end
theorem box_le {bs : List Int} (B : IsBox bs) {turns late : Int} {i : Nat} (l0 : 0 ≤ late) (h : numB bs < cnt turns (bs.length : Int) late) (hi : i < bs.length) : (bs.length : Int) ≤ turns ∧ bs.getD i 0 * (late + 1) ≤ turns - (bs.length : Int) := by
  unfold cnt at h
  have n0 := numTo_nonneg bs bs.length
  split at h
  · have : numB bs = numTo bs bs.length := rfl
    omega
  · rename_i hle
    refine ⟨by omega, ?_⟩
    have tp := numTo_top B (i := bs.length - 1) (by omega)
    have t1 := tp.le
    have e1 : bs.length - 1 + 1 = bs.length := by omega
    have e2 : ((bs.length - 1 : Nat) : Int) + 1 = (bs.length : Int) := by omega
    rw [e1, e2] at t1
    have lt := top_lt t1 (show numTo bs bs.length < _ from h)
    have m := B.le' (i := i) (j := bs.length - 1) (by omega) (by omega)
    have d1 : bs.getD i 0 ≤ (turns - (bs.length : Int)) / (late + 1) := by omega
    exact (Int.le_ediv_iff_mul_le (by omega)).mp d1
def ringL (L late : Int) : Int → List (List Int) → List Int
  | _, [] => []
  | k, bs :: r => (bellL late bs).map (fun x => k * L + x) ++ ringL L late (k + 1) r
theorem ringL_snoc (L late : Int) (bs : List Int) : ∀ (bss : List (List Int)) (k : Int), ringL L late k (bss ++ [bs]) = ringL L late k bss ++ (bellL late bs).map (fun x => (k + (bss.length : Int)) * L + x)
  | [], k => by
    show (bellL late bs).map (fun x => k * L + x) ++ [] = [] ++ (bellL late bs).map (fun x => (k + ((0 : Nat) : Int)) * L + x)
    rw [List.append_nil, List.nil_append, show k + ((0 : Nat) : Int) = k by omega]
  | b :: r, k => by
    show (bellL late b).map (fun x => k * L + x) ++ ringL L late (k + 1) (r ++ [bs]) = (bellL late b).map (fun x => k * L + x) ++ ringL L late (k + 1) r ++ _
    rw [ringL_snoc L late bs r (k + 1), List.append_assoc, List.length_cons, show k + 1 + (r.length : Int) = k + ((r.length + 1 : Nat) : Int) by omega]
section
variable {P : Program} {w : World} {K : PySem.W.Frag} {mg : Str → Option Value} {base : Heap}
def spSilent : Sp := fun vs H Q _ => ∃ turns bells : Int, vs = [.int turns, .int bells] ∧ 1 ≤ bells ∧ bells ≤ turns ∧ Q .non H
theorem sc_refuse_silent : FnScope ["turns", "bells"] ["turns", "bells"] (defScope st_refuse_silent) := ⟨rfl, rfl, rfl, by decide +kernel, rfl, by decide +kernel, by decide +kernel⟩
theorem ok_refuse_silent (D : Def K mg "refuse_silent" st_refuse_silent ["turns", "bells"]) (T : Txt K mg) : Fn P w K mg base 1 "refuse_silent" ["turns", "bells"] spSilent := by
  refine D.fn sc_refuse_silent (fun vs H Q E h => ?_) (fun f cdv A outer s H vs Q E hr h => ?_)
  · obtain ⟨a, b, rfl, _⟩ := h
    rfl
  · obtain ⟨turns, bells, rfl, b1, bt, q⟩ := h
    refine ⟨_, (pss_one (ps_if (pw_or (pt_cmpR op_eqI (pv 1) pe_int (nomark _)) (pw_or1 (pt_cmpR op_gtI (pv 1) (pv 0) (nomark _)))).pt
        (pss_one (ps_never))
        pss_nil)), ?_⟩
    exact ⟨_, rfl, _, _, rfl, rfl, _, rfl, ifF (by omega) ⟨_, rfl, _, rfl, _, _, rfl, rfl, _, rfl, ifF (by omega) q⟩⟩
def spRung (K : PySem.W.Frag) : Sp := fun vs H Q _ => ∃ (a : Addr) (ms : List Int) (turns bells late : Int), vs = [.ref a, .int turns, .int bells, .int late] ∧ SqL K H a (ms.map V.int) ∧ ms.length ≤ 100 ∧ 1 ≤ bells ∧ bells ≤ 60 ∧ bells ≤ turns ∧ 0 ≤ late ∧ intBits late ≤ 8000 ∧ intBits turns ≤ 60000 ∧ (∀ m ∈ ms, 0 ≤ m ∧ m < cnt turns bells late ∧ intBits m ≤ 50000) ∧
  ∀ (p : Addr) (bss : List (List Int)) (H' : Hp), Same H H' → H p = none → H' p = some (.lst ((ringL (turns + late) late 0 bss).map V.int)) → bss.length = ms.length → (∀ (i : Nat) (bs : List Int) (m : Int), bss[i]? = some bs → ms[i]? = some m → IsBox bs ∧ bs.length = bells.toNat ∧ numB bs = m) → (∀ bs ∈ bss, Szs 60010 bs) → Q (.ref p) H'
theorem sc_rung : FnScope ["messages", "turns", "bells", "late", "talk", "place", "message", "start"] ["messages", "turns", "bells", "late"] (defScope st_rung) := ⟨rfl, rfl, rfl, by decide +kernel, rfl, by decide +kernel, by decide +kernel⟩
theorem ok_rung (D : Def K mg "rung" st_rung ["messages", "turns", "bells", "late"]) (T : Txt K mg) (G_refuse_silent : Fn P w K mg base 1 "refuse_silent" ["turns", "bells"] spSilent) (G_written : Fn P w K mg base 40 "written" ["message", "turns", "bells", "late"] (spWritten K)) : Fn P w K mg base 41 "rung" ["messages", "turns", "bells", "late"] (spRung K) := by
  refine D.fn sc_rung (fun vs H Q E h => ?_) (fun f cdv A outer s H vs Q E hr h => ?_)
  · obtain ⟨a, ms, b, c, d, rfl, _⟩ := h
    rfl
  · obtain ⟨a, ms, turns, bells, late, rfl, hS, hl, b1, b60, bt, l0, lb, tb, hm, q⟩ := h
    refine ⟨_, (pss_cons (ps_expr (pe_fn G_refuse_silent (hr.mono (by decide)) (by rfl) (pa_cons (pv 1) (pa_cons (pv 2) pa_nil))))
      (pss_cons (ps_set (i := 4) sc_rung.nd rfl (Or.inl rfl) (pe_lst pa_nil))
      (pss_cons (ps_for PassesOwn.never rfl (pi_enumL (by rfl) T.z_enumerate (pa_cons (pv 0) pa_nil)) (pg_tup (n := 2) rfl (pgs_cons (pg_name (i := 5) sc_rung.nd rfl (Or.inl rfl)) (pgs_cons (pg_name (i := 6) sc_rung.nd rfl (Or.inl rfl)) pgs_nil)))
        (pss_cons (ps_set (i := 7) sc_rung.nd rfl (Or.inr rfl) (pe_op op_mulB (pv 5) (pe_op op_addI (pv 1) (pv 3))))
        (pss_one (ps_expr (pe_bm PySem.F.plainAttrs_list PySem.F.slot_list_extend PySem.F.type_list_extend mt_extend (pv 4) (pa_cons (pe_comp (own := ["turn"]) (fr := ["start"]) (ix := [7]) rfl ⟨rfl, rfl, rfl, rfl, rfl, rfl⟩ (pi_list (pe_fn G_written (hr.mono (by decide)) (by rfl) (pa_cons (pv 6) (pa_cons (pv 1) (pa_cons (pv 2) (pa_cons (pv 3) pa_nil)))))) (fun _ _ _ _ _ => (pg_name (i := 0) (show (["turn", "start"] : List Str).Nodup by decide +kernel) rfl (Or.inl rfl))) (fun _ _ _ _ _ => pts_nil) (fun _ _ _ _ _ => (pe_op op_addI (pv 1) (pv 0)))) pa_nil))))))
      (pss_one (ps_ret (pv 4)))))), ?_⟩
    refine ⟨_, rfl, _, rfl, turns, bells, rfl, b1, bt, (by decide), fun p hp => ?_⟩
    have sb : intBits (turns + late) ≤ 70000 := bits_mono (intBits_add_le (m := 60000) (n := 60000) tb (bits_mono lb (by decide))) (by decide)
    refine ⟨_, rfl, a, ms.map V.int, rfl, (Same.new hp).seq hS, for_enum (K := K) (a := a) (xs := ms.map V.int) (fun i σ H2 => ∃ (bss : List (List Int)) (v5 v6 v7 : Option V), σ = [some (.ref a), some (.int turns), some (.int bells), some (.int late), some (.ref p), v5, v6, v7] ∧ Same H H2 ∧ H2 p = some (.lst ((ringL (turns + late) late 0 bss).map V.int)) ∧ bss.length = i ∧ (ringL (turns + late) late 0 bss).length ≤ i * 60 ∧ (∀ (j : Nat) (bs : List Int) (m : Int), bss[j]? = some bs → ms[j]? = some m → IsBox bs ∧ bs.length = bells.toNat ∧ numB bs = m) ∧ (∀ bs ∈ bss, Szs 60010 bs))
      ⟨[], none, none, none, rfl, Same.new hp, upd_same, rfl, Nat.zero_le _, (fun j bs m h => by simp at h), (fun _ z => nomatch z)⟩ (fun i σ H2 ⟨_, _, _, _, _, sm, _⟩ => sm.seq hS) ?_ ?_⟩
    · rintro i xv t σ H2 hx ⟨bss, v5, v6, v7, rfl, sm, hT, bl, rl, hb, hz⟩ ht
      have hil : i < ms.length := by have := (List.getElem?_eq_some_iff.mp hx).1; rwa [List.length_map] at this
      rw [List.getElem?_map] at hx
      obtain ⟨m, hmi, rfl⟩ := Option.map_eq_some_iff.mp hx
      obtain ⟨m0, m1, mb⟩ := hm m (List.mem_of_getElem? hmi)
      have s3 : Same H (upd H2 t (.tup [.int i, .int m])) := sm.put ht
      have ht3 : (upd H2 t (.tup [.int i, .int m])) t = some (.tup [.int i, .int m]) := upd_same
      have hT3 : (upd H2 t (.tup [.int i, .int m])) p = some (.lst ((ringL (turns + late) late 0 bss).map V.int)) := (Same.new ht) _ _ hT
      generalize upd H2 t (.tup [.int i, .int m]) = H3 at s3 ht3 hT3 ⊢
      refine ⟨t, _, rfl, SqT.of ht3, rfl, _, _, rfl, _, _, rfl, rfl, ?_⟩
      refine ⟨_, rfl, _, rfl, _, rfl, _, _, rfl, rfl, _, _, rfl, rfl, ⟨64, 70000, bits_of (by omega) (by omega), sb, by decide⟩, ?_⟩
      refine ⟨_, rfl, .inl ⟨rfl, _, SqL.of hT3⟩, _, rfl, _, rfl, _, rfl, _, rfl, m, turns, bells, late, rfl, m0, m1, by omega, b60, l0, lb, bits_mono tb (by decide), mb, fun pw bs H4 s4 hpw hW B hbl hnum sz => ?_⟩
      have bll : (bellL late bs).length ≤ 60 := by rw [bellL_length, hbl]; omega
      refine ⟨pw, rfl, ⟨_, SqL.of hW⟩, fun acc hacc => comp_listP (K := K) (a := pw) (xs := (bellL late bs).map V.int) (fun j => V.int ((i : Int) * (turns + late) + (bellL late bs).getD j 0)) (SqL.of hW) hacc (by rw [List.length_map]; exact Nat.le_of_lt (small1000 (by omega))) (fun j x H6 R' hx s6 hR => ?_) ?_⟩
      · rw [List.getElem?_map] at hx
        obtain ⟨z, hz', rfl⟩ := Option.map_eq_some_iff.mp hx
        simp only [List.getD_eq_getElem?_getD, hz', Option.getD_some] at hR
        exact ⟨rfl, _, rfl, _, rfl, _, _, rfl, rfl, hR⟩
      have eL : (List.range ((bellL late bs).map V.int).length).map (fun j => V.int ((i : Int) * (turns + late) + (bellL late bs).getD j 0)) = ((bellL late bs).map (fun x => (0 + (bss.length : Int)) * (turns + late) + x)).map V.int := by
        rw [bl, show (0 : Int) + (i : Int) = (i : Int) by omega]
        apply List.ext_getElem
        · simp
        · intro j h1 h2
          simp at h1 h2
          simp [List.getD_eq_getElem?_getD, h2]
      rw [eL]
      have s5 : Same H3 (upd H4 acc (.lst (((bellL late bs).map (fun x => (0 + (bss.length : Int)) * (turns + late) + x)).map V.int))) := s4.put hacc
      have h5 : (upd H4 acc (.lst (((bellL late bs).map (fun x => (0 + (bss.length : Int)) * (turns + late) + x)).map V.int))) acc = some (.lst (((bellL late bs).map (fun x => (0 + (bss.length : Int)) * (turns + late) + x)).map V.int)) := upd_same
      generalize upd H4 acc (.lst (((bellL late bs).map (fun x => (0 + (bss.length : Int)) * (turns + late) + x)).map V.int)) = H5 at s5 h5 ⊢
      refine ⟨p, acc, _, _, rfl, rfl, s5 _ _ hT3, h5, ?_, ?_⟩
      · rw [List.length_map, List.length_map, List.length_map, sizeLine_eq]
        omega
      refine ⟨bss ++ [bs], _, _, _, rfl, (s3.trans s5).wr hp, ?_, by rw [List.length_append, bl]; rfl, ?_, fun j c mm hj hmj => ?_, fun c hc => ?_⟩
      · rw [upd_same, ← List.map_append, ← ringL_snoc]
      · rw [ringL_snoc, List.length_append, List.length_map]
        omega
      · by_cases hji : j < bss.length
        · rw [List.getElem?_append_left hji] at hj
          exact hb j c mm hj hmj
        · have hj2 := (List.getElem?_eq_some_iff.mp hj).1
          rw [List.length_append, List.length_singleton] at hj2
          have ej : j = i := by omega
          subst ej
          rw [List.getElem?_append_right (by omega), bl, Nat.sub_self] at hj
          have : bs = c := by simpa using hj
          subst this
          rw [hmi] at hmj
          cases hmj
          exact ⟨B, hbl, hnum⟩
      · rcases List.mem_append.mp hc with hc | hc
        · exact hz c hc
        · rw [List.mem_singleton.mp hc]; exact sz
    · rintro σ H2 ⟨bss, v5, v6, v7, rfl, sm, hT, bl, rl, hb, hz⟩
      rw [List.length_map] at bl
      exact ⟨_, rfl, q p bss H2 sm hp hT bl hb hz⟩
end
theorem ringL_len {L late : Int} {b : Nat} : ∀ (bss : List (List Int)) (k : Int), (∀ bs ∈ bss, bs.length = b) → (ringL L late k bss).length = bss.length * b
  | [], _, _ => by simp [ringL]
  | c :: r, k, h => by
    show ((bellL late c).map (fun x => k * L + x) ++ ringL L late (k + 1) r).length = _
    rw [List.length_append, List.length_map, bellL_length, h c (List.mem_cons_self ..), ringL_len r (k + 1) fun bs hb => h bs (List.mem_cons_of_mem _ hb), List.length_cons, Nat.succ_mul]
    omega
theorem bell_lt {bs : List Int} {turns late : Int} (B : IsBox bs) (l0 : 0 ≤ late) (h : numB bs < cnt turns (bs.length : Int) late) : ∀ x ∈ bellL late bs, 0 ≤ x ∧ x < turns := fun x hx => by
  obtain ⟨i, hi⟩ := List.getElem?_of_mem hx
  obtain ⟨c, hc, rfl⟩ := bellL_get' hi
  have il := (List.getElem?_eq_some_iff.mp hc).1
  have := box_le B l0 h il
  rw [List.getD_eq_getElem?_getD, hc, Option.getD_some] at this
  have := Int.mul_nonneg (B.2 c (List.mem_of_getElem? hc)) (show 0 ≤ late + 1 by omega)
  omega
theorem e20 : (10 : Int) ^ (20 : Int).toNat = 100000000000000000000 := by decide
theorem b740 : intBits ((7 : Int) ^ (40 : Int).toNat) ≤ 120 := by decide
theorem b760 : intBits ((7 : Int) ^ (60 : Int).toNat) ≤ 180 := by decide +kernel
theorem atAny {xs : List V} {i : Int} (h0 : 0 ≤ i) (h1 : i < (xs.length : Int)) : ∃ v, atI xs i = some v ∧ v ∈ xs := by
  obtain ⟨k, rfl⟩ : ∃ k : Nat, i = (k : Int) := ⟨i.toNat, by omega⟩
  have hk : k < xs.length := by omega
  exact ⟨xs[k], atI_nat (List.getElem?_eq_getElem hk), List.getElem_mem hk⟩
section
variable {P : Program} {w : World} {K : PySem.W.Frag} {mg : Str → Option Value} {base : Heap}
structure Frame62 (turns bells late : Int) : Prop where
  b1 : 1 ≤ bells
  b6 : bells ≤ 6
  l0 : 0 ≤ late
  lb : intBits late ≤ 100
  bt : bells ≤ turns
  tb : intBits turns ≤ 200
def spFrame : Sp := fun vs H Q _ => ∃ c : Int, vs = [.int c] ∧ ∀ (p : Addr) (turns bells late : Int) (H' : Hp), Same H H' → H' p = some (.tup [.int turns, .int bells, .int late]) → Frame62 turns bells late → Q (.ref p) H'
theorem sc__law_frame : FnScope ["cell", "bells", "late", "steps"] ["cell"] (defScope st__law_frame) := ⟨rfl, rfl, rfl, by decide +kernel, rfl, by decide +kernel, by decide +kernel⟩
theorem ok_frame (D : Def K mg "_law_frame" st__law_frame ["cell"]) (T : Txt K mg) (G__law_drawn : Fn P w K mg base 1 "_law_drawn" ["cell", "k"] spDr) : Fn P w K mg base 2 "_law_frame" ["cell"] spFrame := by
  refine D.fn sc__law_frame (fun vs H Q E h => ?_) (fun f cdv A outer s H vs Q E hr h => ?_)
  · obtain ⟨c, rfl, _⟩ := h
    rfl
  · obtain ⟨cell, rfl, q⟩ := h
    refine ⟨_, (pss_cons (ps_set (i := 1) sc__law_frame.nd rfl (Or.inl rfl) (pe_op op_addI pe_int (pe_op op_modB (pe_fn G__law_drawn (hr.mono (by decide)) (by rfl) (pa_cons (pv 0) (pa_cons pe_int pa_nil))) pe_int)))
      (pss_cons (ps_set (i := 2) sc__law_frame.nd rfl (Or.inl rfl) (pe_ix ix_list (pe_lst (pa_cons (pe_op op_modB (pe_fn G__law_drawn (hr.mono (by decide)) (by rfl) (pa_cons (pv 0) (pa_cons pe_int pa_nil))) pe_int) (pa_cons (pe_op op_modB (pe_op op_mulB (pe_fn G__law_drawn (hr.mono (by decide)) (by rfl) (pa_cons (pv 0) (pa_cons pe_int pa_nil))) (pe_op op_powB pe_int pe_int)) (pe_op op_powB pe_int pe_int)) pa_nil))) (pe_op op_modB (pe_fn G__law_drawn (hr.mono (by decide)) (by rfl) (pa_cons (pv 0) (pa_cons pe_int pa_nil))) pe_int) (fun _ _ => rfl)))
      (pss_cons (ps_set (i := 3) sc__law_frame.nd rfl (Or.inl rfl) (pe_op op_modB (pe_fn G__law_drawn (hr.mono (by decide)) (by rfl) (pa_cons (pv 0) (pa_cons pe_int pa_nil))) (pe_ix ix_list (pe_lst (pa_cons pe_int (pa_cons (pe_op op_powB pe_int pe_int) (pa_cons (pe_op op_powB pe_int pe_int) pa_nil)))) (pe_op op_modB (pe_fn G__law_drawn (hr.mono (by decide)) (by rfl) (pa_cons (pv 0) (pa_cons pe_int pa_nil))) pe_int) (fun _ _ => rfl))))
      (pss_one (ps_ret (pe_tup (pa_cons (pe_op op_addI (pe_op op_addI (pv 1) (pe_op op_mulB (pv 3) (pe_op op_addI (pv 2) pe_int))) (pe_op op_modB (pe_op op_mulB (pe_fn G__law_drawn (hr.mono (by decide)) (by rfl) (pa_cons (pv 0) (pa_cons pe_int pa_nil))) (pe_op op_powB pe_int pe_int)) (pe_op op_addI (pv 2) pe_int))) (pa_cons (pv 1) (pa_cons (pv 2) pa_nil))))))))), ?_⟩
    refine ⟨_, rfl, cell, 0, rfl, by decide, fun d1 d10 d11 => ⟨_, _, rfl, rfl, (by decide), _, _, rfl, rfl, ?_⟩⟩
    have b0 := Int.emod_nonneg d1 (show (6 : Int) ≠ 0 by decide)
    have b1 := Int.emod_lt_of_pos d1 (show (0 : Int) < 6 by decide)
    have B1 : 1 ≤ 1 + d1 % 6 := by omega
    have B6 : 1 + d1 % 6 ≤ 6 := by omega
    clear b0 b1
    generalize 1 + d1 % 6 = bells at B1 B6 ⊢
    refine ⟨_, rfl, cell, 1, rfl, by decide, fun d2 d20 d21 => ⟨_, _, rfl, rfl, (by decide), _, rfl, cell, 1, rfl, by decide, fun d3 d30 d31 => ⟨_, _, rfl, rfl, ⟨by decide, by decide, by decide⟩, _, _, rfl, rfl, ⟨62, 120, bits_of d30 (by omega), b740, by decide⟩, _, _, rfl, rfl, ⟨by decide, by decide, by decide⟩, _, _, rfl, rfl, (by decide), (by show 2 ≤ sizeLine; decide), fun p1 hp1 => ⟨_, rfl, cell, 2, rfl, by decide, fun d4 d40 d41 => ⟨_, _, rfl, rfl, (by decide), ?_⟩⟩⟩⟩⟩
    have m0 := Int.emod_nonneg (d3 * 7 ^ (40 : Int).toNat) (show (10 : Int) ^ (20 : Int).toNat ≠ 0 by decide)
    have m1 := Int.emod_lt_of_pos (d3 * 7 ^ (40 : Int).toNat) (show (0 : Int) < 10 ^ (20 : Int).toNat by decide)
    generalize d3 * 7 ^ (40 : Int).toNat % 10 ^ (20 : Int).toNat = g3 at m0 m1 ⊢
    rw [e20] at m1
    obtain ⟨v, hv, e⟩ := at2 (V.int (d2 % 7)) (V.int g3) (Int.emod_nonneg d4 (by decide : (2 : Int) ≠ 0)) (Int.emod_lt_of_pos d4 (by decide))
    obtain ⟨late, rfl, l0, l1⟩ : ∃ late : Int, v = .int late ∧ 0 ≤ late ∧ late < 100000000000000000000 := by
      rcases e with rfl | rfl
      · exact ⟨_, rfl, Int.emod_nonneg _ (by decide), by have := Int.emod_lt_of_pos d2 (show (0 : Int) < 7 by decide); omega⟩
      · exact ⟨_, rfl, m0, m1⟩
    have lb1 : intBits (late + 1) ≤ 100 := bits_of (by omega) (by omega)
    refine ⟨_, _, _, _, rfl, rfl, SqL.of upd_same, hv, ?_⟩
    have s1 : Same H (upd H p1 (.lst [V.int (d2 % 7), V.int g3])) := Same.new hp1
    generalize upd H p1 (.lst [V.int (d2 % 7), V.int g3]) = H1 at s1 ⊢
    refine ⟨_, rfl, cell, 3, rfl, by decide, fun d5 d50 d51 => ⟨_, _, rfl, rfl, ⟨by decide, by decide, by decide⟩, _, _, rfl, rfl, ⟨by decide, by decide, by decide⟩, (by show 3 ≤ sizeLine; decide), fun p2 hp2 => ⟨_, rfl, cell, 4, rfl, by decide, fun d6 d60 d61 => ⟨_, _, rfl, rfl, (by decide), ?_⟩⟩⟩⟩
    obtain ⟨v, hv, e⟩ := at3 (V.int 13) (V.int (10 ^ (8 : Int).toNat)) (V.int (10 ^ (15 : Int).toNat)) (Int.emod_nonneg d6 (by decide : (3 : Int) ≠ 0)) (Int.emod_lt_of_pos d6 (by decide))
    obtain ⟨M, rfl, M0, M1⟩ : ∃ M : Int, v = .int M ∧ 0 < M ∧ M ≤ 1000000000000000 := by
      rcases e with rfl | rfl | rfl
      all_goals exact ⟨_, rfl, by decide, by decide⟩
    refine ⟨_, _, _, _, rfl, rfl, SqL.of upd_same, hv, _, _, rfl, rfl, M0, ?_⟩
    have S0 := Int.emod_nonneg d5 (show M ≠ 0 by omega)
    have S1 := Int.emod_lt_of_pos d5 M0
    generalize d5 % M = st at S0 S1 ⊢
    have s2 := s1.put (o := .lst [V.int 13, V.int (10 ^ (8 : Int).toNat), V.int (10 ^ (15 : Int).toNat)]) hp2
    generalize upd H1 p2 (.lst [V.int 13, V.int (10 ^ (8 : Int).toNat), V.int (10 ^ (15 : Int).toNat)]) = H2 at s2 ⊢
    refine ⟨_, rfl, _, rfl, _, rfl, _, _, rfl, rfl, _, _, rfl, rfl, ⟨60, 100, bits_of S0 (by omega), lb1, by decide⟩, _, _, rfl, rfl, _, rfl, cell, 5, rfl, by decide, fun d8 d80 d81 => ⟨_, _, rfl, rfl, ⟨by decide, by decide, by decide⟩, _, _, rfl, rfl, ⟨62, 120, bits_of d80 (by omega), b740, by decide⟩, _, rfl, _, _, rfl, rfl, _, _, rfl, rfl, by omega, _, _, rfl, rfl, _, rfl, _, rfl, (by show 3 ≤ sizeLine; decide), fun p hp => ?_⟩⟩
    have r0 := Int.emod_nonneg (d8 * 7 ^ (40 : Int).toNat) (show late + 1 ≠ 0 by omega)
    have r1 := Int.emod_lt_of_pos (d8 * 7 ^ (40 : Int).toNat) (show 0 < late + 1 by omega)
    generalize d8 * 7 ^ (40 : Int).toNat % (late + 1) = r at r0 r1 ⊢
    have x0 : 0 ≤ st * (late + 1) := Int.mul_nonneg S0 (by omega)
    have x1 : st * (late + 1) ≤ 1000000000000000 * 100000000000000000000 := Int.mul_le_mul (by omega) (by omega) (by omega) (by decide)
    exact q p _ bells late _ (s2.put hp) upd_same ⟨B1, B6, l0, bits_of l0 (by omega), by omega, bits_of (by omega) (by omega)⟩
def spMsg : Sp := fun vs H Q _ => ∃ c count : Int, vs = [.int c, .int count] ∧ 0 < count ∧ ∀ (m : Int) (H' : Hp), 0 ≤ m → m < count → Same H H' → Q (.int m) H'
theorem sc__law_message : FnScope ["cell", "count", "number"] ["cell", "count"] (defScope st__law_message) := ⟨rfl, rfl, rfl, by decide +kernel, rfl, by decide +kernel, by decide +kernel⟩
theorem ok_message (D : Def K mg "_law_message" st__law_message ["cell", "count"]) (T : Txt K mg) (G__law_drawn : Fn P w K mg base 1 "_law_drawn" ["cell", "k"] spDr) : Fn P w K mg base 2 "_law_message" ["cell", "count"] spMsg := by
  refine D.fn sc__law_message (fun vs H Q E h => ?_) (fun f cdv A outer s H vs Q E hr h => ?_)
  · obtain ⟨c, n, rfl, _⟩ := h
    rfl
  · obtain ⟨cell, count, rfl, cp, q⟩ := h
    refine ⟨_, (pss_cons (ps_set (i := 2) sc__law_message.nd rfl (Or.inl rfl) (pe_op op_mulB (pe_op op_mulB (pe_op op_mulB (pe_fn G__law_drawn (hr.mono (by decide)) (by rfl) (pa_cons (pv 0) (pa_cons pe_int pa_nil))) (pe_fn G__law_drawn (hr.mono (by decide)) (by rfl) (pa_cons (pv 0) (pa_cons pe_int pa_nil)))) (pe_fn G__law_drawn (hr.mono (by decide)) (by rfl) (pa_cons (pv 0) (pa_cons pe_int pa_nil)))) (pe_op op_powB pe_int pe_int)))
      (pss_one (ps_ret (pe_ix ix_list (pe_lst (pa_cons pe_int (pa_cons (pe_op op_subI (pv 1) pe_int) (pa_cons (pe_op op_modB (pv 2) (pv 1)) (pa_cons (pe_op op_modB (pv 2) (pv 1)) (pa_cons (pe_op op_modB (pv 2) (pe_callB (call_min2 rfl) (by rfl) T.z_min b_min (pa_cons (pv 1) (pa_cons pe_int pa_nil)))) pa_nil)))))) (pe_op op_modB (pe_fn G__law_drawn (hr.mono (by decide)) (by rfl) (pa_cons (pv 0) (pa_cons pe_int pa_nil))) pe_int) (fun _ _ => rfl))))), ?_⟩
    have mm : 0 < (if 5 < count then (5 : Int) else count) := by split <;> omega
    refine ⟨_, rfl, cell, 6, rfl, by decide, fun d1 d10 d11 => ⟨_, rfl, cell, 7, rfl, by decide, fun d2 d20 d21 => ⟨_, _, rfl, rfl, ⟨61, 61, bits_of d10 d11, bits_of d20 d21, by decide⟩, _, rfl, cell, 8, rfl, by decide, fun d3 d30 d31 => ⟨_, _, rfl, rfl, ⟨122, 61, intBits_mul_le (bits_of d10 d11) (bits_of d20 d21), bits_of d30 d31, by decide⟩, _, _, rfl, rfl, ⟨by decide, by decide, by decide⟩, _, _, rfl, rfl, ⟨183, 180, intBits_mul_le (intBits_mul_le (m := 61) (n := 61) (bits_of d10 d11) (bits_of d20 d21)) (bits_of d30 d31), b760, by decide⟩, ?_⟩⟩⟩⟩
    generalize d1 * d2 * d3 * 7 ^ (60 : Int).toNat = num
    refine ⟨_, rfl, _, _, rfl, rfl, _, rfl, _, rfl, _, _, rfl, rfl, cp, _, rfl, _, rfl, _, _, rfl, rfl, cp, _, rfl, _, rfl, _, _, rfl, _, _, rfl, rfl, mm, (by show 5 ≤ sizeLine; decide), fun p hp => ⟨_, rfl, cell, 9, rfl, by decide, fun d4 d40 d41 => ⟨_, _, rfl, rfl, (by decide), ?_⟩⟩⟩
    obtain ⟨v, hv, vm⟩ := atAny (xs := [V.int 0, V.int (count - 1), V.int (num % count), V.int (num % count), V.int (num % (if 5 < count then (5 : Int) else count))]) (i := d4 % 5) (Int.emod_nonneg _ (by decide)) (Int.emod_lt_of_pos _ (by decide))
    have e0 := Int.emod_nonneg num (show count ≠ 0 by omega)
    have e1 := Int.emod_lt_of_pos num cp
    have e2 := Int.emod_nonneg num (show (if 5 < count then (5 : Int) else count) ≠ 0 by omega)
    have e3 := Int.emod_lt_of_pos num mm
    have e4 : (if 5 < count then (5 : Int) else count) ≤ count := by split <;> omega
    obtain ⟨o, rfl, o0, o1⟩ : ∃ o : Int, v = V.int o ∧ 0 ≤ o ∧ o < count := by
      simp only [List.mem_cons, List.not_mem_nil, or_false] at vm
      rcases vm with rfl | rfl | rfl | rfl | rfl
      · exact ⟨_, rfl, by omega, by omega⟩
      · exact ⟨_, rfl, by omega, by omega⟩
      · exact ⟨_, rfl, by omega, by omega⟩
      · exact ⟨_, rfl, by omega, by omega⟩
      · exact ⟨_, rfl, by omega, by omega⟩
    exact ⟨_, _, _, _, rfl, rfl, SqL.of upd_same, hv, q o _ o0 o1 (Same.new hp)⟩
end
theorem ringL_mem {L late : Int} : ∀ (bss : List (List Int)) (k : Int) (z : Int), z ∈ ringL L late k bss → ∃ (i : Nat) (bs : List Int) (x : Int), bss[i]? = some bs ∧ x ∈ bellL late bs ∧ z = (k + (i : Int)) * L + x
  | [], k, z, h => nomatch h
  | b :: r, k, z, h => by
    have h : z ∈ (bellL late b).map (fun x => k * L + x) ++ ringL L late (k + 1) r := h
    rcases List.mem_append.mp h with h | h
    · obtain ⟨x, hx, rfl⟩ := List.mem_map.mp h
      exact ⟨0, b, x, rfl, hx, by rw [show k + ((0 : Nat) : Int) = k by omega]⟩
    · obtain ⟨i, bs, x, h1, h2, rfl⟩ := ringL_mem r (k + 1) z h
      exact ⟨i + 1, bs, x, by rw [List.getElem?_cons_succ]; exact h1, h2, by rw [show k + 1 + (i : Int) = k + ((i + 1 : Nat) : Int) by omega]⟩
theorem bell_rise {late : Int} {bs : List Int} (l0 : 0 ≤ late) (B : IsBox bs) : (bellL late bs).Pairwise (· < ·) := by
  rw [List.pairwise_iff_getElem]
  intro i j hi hj hij
  obtain ⟨x, hx, ex⟩ := bellL_get' (late := late) (List.getElem?_eq_getElem hi)
  obtain ⟨y, hy, ey⟩ := bellL_get' (late := late) (List.getElem?_eq_getElem hj)
  rw [ex, ey]
  obtain ⟨i1, rfl⟩ := List.getElem?_eq_some_iff.mp hx
  obtain ⟨j1, rfl⟩ := List.getElem?_eq_some_iff.mp hy
  have := List.pairwise_iff_getElem.mp B.1 i j i1 j1 hij
  have := Int.mul_le_mul_of_nonneg_right this (show 0 ≤ late + 1 by omega)
  omega
theorem ring_rise {L late : Int} (hL : 0 < L) (l0 : 0 ≤ late) : ∀ (bss : List (List Int)) (k : Int), (∀ bs ∈ bss, IsBox bs ∧ ∀ x ∈ bellL late bs, 0 ≤ x ∧ x < L) → (ringL L late k bss).Pairwise (· < ·)
  | [], k, _ => List.Pairwise.nil
  | b :: r, k, h => by
    show ((bellL late b).map (fun x => k * L + x) ++ ringL L late (k + 1) r).Pairwise (· < ·)
    have hb := h b (List.mem_cons_self ..)
    have hr : ∀ bs ∈ r, IsBox bs ∧ ∀ x ∈ bellL late bs, 0 ≤ x ∧ x < L := fun bs hbs => h bs (List.mem_cons_of_mem _ hbs)
    rw [List.pairwise_append]
    refine ⟨?_, ring_rise hL l0 r (k + 1) hr, fun y hy z hz => ?_⟩
    · rw [List.pairwise_map]
      exact (bell_rise l0 hb.1).imp fun h => by omega
    · obtain ⟨x, hx, rfl⟩ := List.mem_map.mp hy
      obtain ⟨i, bs, x', h1, h2, rfl⟩ := ringL_mem r (k + 1) z hz
      have a1 := hb.2 x hx
      have a2 := (hr bs (List.mem_of_getElem? h1)).2 x' h2
      have e : (k + 1 + (i : Int)) * L = k * L + L + (i : Int) * L := by rw [Int.add_mul, Int.add_mul, Int.one_mul]
      have := Int.mul_nonneg (show (0 : Int) ≤ (i : Int) by omega) (show 0 ≤ L by omega)
      omega
theorem boxes_same {ms : List Int} {b : Nat} : ∀ {as bs : List (List Int)}, as.length = ms.length → bs.length = ms.length → (∀ (i : Nat) (c : List Int) (m : Int), as[i]? = some c → ms[i]? = some m → IsBox c ∧ c.length = b ∧ numB c = m) →
    (∀ (i : Nat) (c : List Int) (m : Int), bs[i]? = some c → ms[i]? = some m → IsBox c ∧ c.length = b ∧ numB c = m) → as = bs := fun {as bs} al bl ha hb => by
  apply List.ext_getElem?
  intro i
  by_cases hi : i < ms.length
  · have h1 := List.getElem?_eq_getElem (l := as) (i := i) (by omega)
    have h2 := List.getElem?_eq_getElem (l := bs) (i := i) (by omega)
    have h3 := List.getElem?_eq_getElem hi
    obtain ⟨a1, a2, a3⟩ := ha i _ _ h1 h3
    obtain ⟨b1, b2, b3⟩ := hb i _ _ h2 h3
    rw [h1, h2, numB_inj a1 b1 (by omega) (by omega)]
  · rw [List.getElem?_eq_none (by omega), List.getElem?_eq_none (by omega)]
theorem sorted_self {ns ms : List Int} (h : ns.Pairwise (· < ·)) (p : ms.Perm ns) (s : ms.Pairwise (· ≤ ·)) : ms = ns :=
  p.eq_of_pairwise (le := (· ≤ ·)) (fun a b _ _ h1 h2 => Int.le_antisymm h1 h2) s (h.imp fun h => Int.le_of_lt h)
section
variable {P : Program} {w : World} {K : PySem.W.Frag} {mg : Str → Option Value} {base : Heap}
def spSame (K : PySem.W.Frag) : Sp := fun vs H Q _ => ∃ (a b : Addr) (xs : List Int), vs = [.ref a, .ref b] ∧ H a = some (.lst (xs.map V.int)) ∧ H b = some (.lst (xs.map V.int)) ∧ xs.Pairwise (· < ·) ∧ xs.length < 64 ∧ ∀ H', Same H H' → Q (.bl true) H'
theorem sc__law_same : FnScope ["found", "due"] ["found", "due"] (defScope st__law_same) := ⟨rfl, rfl, rfl, by decide +kernel, rfl, by decide +kernel, by decide +kernel⟩
theorem ok_same (D : Def K mg "_law_same" st__law_same ["found", "due"]) (T : Txt K mg) : Fn P w K mg base 1 "_law_same" ["found", "due"] (spSame K) := by
  refine D.fn sc__law_same (fun vs H Q E h => ?_) (fun f cdv A outer s H vs Q E hr h => ?_)
  · obtain ⟨a, b, xs, rfl, _⟩ := h
    rfl
  · obtain ⟨a, b, xs, rfl, hA, hB, hr', hl, q⟩ := h
    have hu := hu64 hr
    refine ⟨_, (pss_cons (ps_if (pw_or (pt_not (pt_val (pe_callB call_isinst (by rfl) T.z_isinstance b_isinstance (pa_cons (pv 0) (pa_cons (pe_bltn (v := .ty "list") (by rfl) T.z_list b_list rfl) pa_nil))))) (pw_or (pt_cmpR (op_neL hu) (pv 0) (pv 1) (nomark _)) (pw_or1 (pt_cmpR (op_neL hu) (pv 0) (pe_callB (call_sortedS w rfl) (by rfl) T.z_sorted b_sorted (pa_cons (pe_callTy (call_setL w rfl) (by rfl) T.z_set b_set (pa_cons (pv 0) pa_nil)) pa_nil)) (nomark _))))).pt
        (pss_one (ps_ret pe_bl))
        pss_nil)
      (pss_one (ps_ret (pe_callB (call_all rfl) (by rfl) T.z_all b_all (pa_cons (pe_comp (own := ["turn"]) (fr := []) (ix := []) rfl ⟨rfl, rfl, rfl, rfl, rfl, rfl⟩ (pi_list (pv 0)) (fun _ _ _ _ _ => (pg_name (i := 0) (show (["turn"] : List Str).Nodup by decide +kernel) rfl (Or.inl rfl))) (fun _ _ _ _ _ => pts_nil) (fun _ _ _ _ _ => (pe_and (pe_callB (call_isinstK K) (by rfl) T.z_isinstance b_isinstance (pa_cons (pv 0) (pa_cons (pe_bltn (v := .ty "int") (by rfl) T.z_int b_int rfl) pa_nil))) (pe_one (pe_not (pe_callB (call_isinstK K) (by rfl) T.z_isinstance b_isinstance (pa_cons (pv 0) (pa_cons (pe_bltn (v := .ty "bool") (by rfl) T.z_bool b_bool rfl) pa_nil)))))))) pa_nil))))), ?_⟩
    refine ⟨_, rfl, _, _, _, true, rfl, TyOf.lst hA, kit_list_list K, _, rfl, iteF ⟨_, rfl, _, rfl, a, b, xs, xs, rfl, rfl, SqL.of hA, SqL.of hB, _, rfl, iteNS rfl ?_⟩⟩
    refine ⟨_, rfl, _, rfl, a, xs, rfl, SqL.of hA, hr', hl, fun p hp => ⟨p, xs, rfl, upd_same, hl, fun p2 ms hp2 pm ps => ?_⟩⟩
    obtain rfl := sorted_self hr' pm ps
    have s1 : Same H (upd H p (SetO w p ms)) := Same.new hp
    generalize upd H p (SetO w p ms) = H1 at s1 hp2 ⊢
    have s2 : Same H (upd H1 p2 (.lst (ms.map V.int))) := s1.put hp2
    have h2 : (upd H1 p2 (.lst (ms.map V.int))) p2 = some (.lst (ms.map V.int)) := upd_same
    generalize upd H1 p2 (.lst (ms.map V.int)) = H2 at s2 h2 ⊢
    refine ⟨a, p2, ms, ms, rfl, rfl, SqL.of (s2 _ _ hA), SqL.of h2, _, rfl, iteNS rfl ?_⟩
    have hA2 := s2 _ _ hA
    refine ⟨_, rfl, a, rfl, ⟨_, SqL.of hA2⟩, fun pa hpa => comp_listP (K := K) (a := a) (xs := ms.map V.int) (fun _ => .bl true) (SqL.of hA2) hpa ?_ ?_ ?_⟩
    · rw [List.length_map]; exact Nat.le_of_lt (small1000 (by omega))
    · intro i x H8 R' hx s8 hRR
      rw [List.getElem?_map] at hx
      obtain ⟨z, hz', rfl⟩ := Option.map_eq_some_iff.mp hx
      refine ⟨rfl, _, rfl, _, _, _, true, rfl, TyOf.int z, kit_int_int K, true, rfl, iteT ?_⟩
      exact ⟨_, rfl, _, _, _, false, rfl, TyOf.int z, kit_int_bool K, false, rfl, hRR⟩
    refine ⟨pa, List.replicate ms.length true, rfl, SqL.of (by rw [upd_same, List.length_map, List.map_replicate, map_range_const]), ?_⟩
    rw [all_replicate]
    exact q _ (s2.put hpa)
theorem sc_law : FnScope ["script", "turns", "bells", "late", "count", "messages", "due", "k", "turn", "handed", "found"] ["script"] (defScope st_law) := ⟨rfl, rfl, rfl, by decide +kernel, rfl, by decide +kernel, by decide +kernel⟩
theorem ok_law (hP : P.given.tree = none) {f : Addr} {fd : FuncData} (F : Fun K "law" "law" st_law f fd) (T : Txt K mg) (D_choose : Def K mg "choose" st_choose ["n", "k"]) (D_top_from : Def K mg "top_from" st_top_from ["start", "k", "number"]) (D_above_top : Def K mg "above_top" st_above_top ["k", "number"]) (D_rounded_up : Def K mg "rounded_up" st_rounded_up ["number", "divisor"]) (D_bell_row : Def K mg "bell_row" st_bell_row ["box", "late"]) (D_box_count : Def K mg "box_count" st_box_count ["turns", "bells", "late"]) (D_greatest_part : Def K mg "greatest_part" st_greatest_part ["turns", "bells", "late"]) (D_box_of_message : Def K mg "box_of_message" st_box_of_message ["message", "bells"]) (D_written : Def K mg "written" st_written ["message", "turns", "bells", "late"]) (D_refuse_silent : Def K mg "refuse_silent" st_refuse_silent ["turns", "bells"]) (D_rung : Def K mg "rung" st_rung ["messages", "turns", "bells", "late"]) (D__law_cell_at : Def K mg "_law_cell_at" st__law_cell_at ["script", "k"]) (D__law_drawn : Def K mg "_law_drawn" st__law_drawn ["cell", "k"]) (D__law_frame : Def K mg "_law_frame" st__law_frame ["cell"]) (D__law_message : Def K mg "_law_message" st__law_message ["cell", "count"]) (D__law_same : Def K mg "_law_same" st__law_same ["found", "due"]) {C_BellError : Addr} (m_BellError : mg "BellError" = some (.ref C_BellError)) {C_NoRow : Addr} (m_NoRow : mg "NoRow" = some (.ref C_NoRow)) {C_TooGreat : Addr} (m_TooGreat : mg "TooGreat" = some (.ref C_TooGreat))   : FnOk P w K mg base CX0 43 f fd ["script"] (spLaw K) := by
  have G_choose : Fn P w K mg base 1 "choose" ["n", "k"] spChoose := ok_choose D_choose T
  have G_rounded := ok_rounded_up (w := w) (base := base) D_rounded_up hP
  have G_above_top := ok_above_top D_above_top T G_rounded
  have G_top_from := ok_top_from D_top_from G_choose G_rounded hP
  have G_box_of_message : Fn P w K mg base 39 "box_of_message" ["message", "bells"] (spBoxMsg K) := ok_box_of_message D_box_of_message T G_above_top G_top_from G_choose
  have G_box_count : Fn P w K mg base 2 "box_count" ["turns", "bells", "late"] spCount := ok_box_count D_box_count T (ok_greatest_part D_greatest_part) G_choose
  have G_written : Fn P w K mg base 40 "written" ["message", "turns", "bells", "late"] (spWritten K) := ok_written D_written T G_box_count G_box_of_message (ok_bell_row D_bell_row T)
  have G_rung : Fn P w K mg base 41 "rung" ["messages", "turns", "bells", "late"] (spRung K) := ok_rung D_rung T (ok_refuse_silent D_refuse_silent T) G_written
  have G__law_cell_at : Fn P w K mg base 1 "_law_cell_at" ["script", "k"] (spCell K) := ok_cell_at D__law_cell_at T
  have G__law_drawn : Fn P w K mg base 1 "_law_drawn" ["cell", "k"] spDr := ok_dr D__law_drawn
  have G__law_frame : Fn P w K mg base 2 "_law_frame" ["cell"] spFrame := ok_frame D__law_frame T G__law_drawn
  have G__law_message : Fn P w K mg base 2 "_law_message" ["cell", "count"] spMsg := ok_message D__law_message T G__law_drawn
  have G__law_same : Fn P w K mg base 1 "_law_same" ["found", "due"] (spSame K) := ok_same D__law_same T
  refine F.ok sc_law (fun vs H Q E h => ?_) (fun cdv A outer s H vs Q E hr h => ?_)
  · obtain ⟨a, ns, rfl, _⟩ := h
    rfl
  · obtain ⟨a, ns, rfl, hS, hlen, q⟩ := h
    have hu := hu64 hr
    refine ⟨_, (pss_cons (ps_asg (pe_fn G__law_frame (hr.mono (by decide)) (by rfl) (pa_cons (pe_fn G__law_cell_at (hr.mono (by decide)) (by rfl) (pa_cons (pv 0) (pa_cons pe_int pa_nil))) pa_nil)) (pg_tup (n := 3) rfl (pgs_cons (pg_name (i := 1) sc_law.nd rfl (Or.inl rfl)) (pgs_cons (pg_name (i := 2) sc_law.nd rfl (Or.inl rfl)) (pgs_cons (pg_name (i := 3) sc_law.nd rfl (Or.inl rfl)) pgs_nil)))))
      (pss_cons (ps_set (i := 4) sc_law.nd rfl (Or.inr rfl) (pe_fn G_box_count (hr.mono (by decide)) (by rfl) (pa_cons (pv 1) (pa_cons (pv 2) (pa_cons (pv 3) pa_nil)))))
      (pss_cons (ps_setC (k := 5) (own := ["cell"]) (fr := ["count"]) (ix := [4]) rfl sc_law.nd rfl rfl ⟨rfl, rfl, rfl, rfl, rfl, rfl⟩ (pi_list (pe_slice sl_list (pv 0) (po_some pe_int) (po_some pe_int))) (fun _ _ _ _ _ => (pg_name (i := 0) (show (["cell", "count"] : List Str).Nodup by decide +kernel) rfl (Or.inl rfl))) (fun _ _ _ _ _ => pts_nil) (fun _ _ _ _ _ => (pe_fn G__law_message (hr.mono (by decide)) (by rfl) (pa_cons (pv 0) (pa_cons (pv 1) pa_nil)))))
      (pss_cons (ps_set (i := 6) sc_law.nd rfl (Or.inl rfl) (pe_lst pa_nil))
      (pss_cons (ps_for PassesOwn.never rfl (pi_range1 (by rfl) T.z_range (pa_cons (pe_callB call_len_seq (by rfl) T.z_len b_len (pa_cons (pv 5) pa_nil)) pa_nil)) (pg_name (i := 7) sc_law.nd rfl (Or.inl rfl))
        (pss_one (ps_for PassesOwn.never rfl (pi_list (pe_fn G_written (hr.mono (by decide)) (by rfl) (pa_cons (pe_ix ix_list (pv 5) (pv 7) (fun _ _ => rfl)) (pa_cons (pv 1) (pa_cons (pv 2) (pa_cons (pv 3) pa_nil)))))) (pg_name (i := 8) sc_law.nd rfl (Or.inl rfl))
          (pss_one (ps_expr (pe_bm PySem.F.plainAttrs_list PySem.F.slot_list_append PySem.F.type_list_append mt_append (pv 6) (pa_cons (pe_op op_addI (pe_op op_mulB (pv 7) (pe_op op_addI (pv 1) (pv 3))) (pv 8)) pa_nil)))))))
      (pss_cons (ps_set (i := 9) sc_law.nd rfl (Or.inl rfl) (pe_callTy call_list_of (by rfl) T.z_list b_list (pa_cons (pv 5) pa_nil)))
      (pss_cons (ps_set (i := 10) sc_law.nd rfl (Or.inl rfl) (pe_fn G_rung (hr.mono (by decide)) (by rfl) (pa_cons (pv 9) (pa_cons (pv 1) (pa_cons (pv 2) (pa_cons (pv 3) pa_nil))))))
      (pss_cons (ps_if (pw_or (pt_not (pt_val (pe_fn G__law_same (hr.mono (by decide)) (by rfl) (pa_cons (pv 10) (pa_cons (pv 6) pa_nil))))) (pw_or1 (pt_cmpR (op_neL hu) (pv 9) (pv 5) (nomark _)))).pt
        (pss_one (ps_ret pe_bl))
        pss_nil)
      (pss_cons (ps_expr (pe_bm PySem.F.plainAttrs_list PySem.F.slot_list_append PySem.F.type_list_append mt_append (pv 10) (pa_cons pe_int pa_nil)))
      (pss_cons (ps_if (pt_cmpR (op_neL hu) (pv 9) (pv 5) (nomark _))
        (pss_one (ps_ret pe_bl))
        pss_nil)
      (pss_cons (ps_expr (pe_bm PySem.F.plainAttrs_list PySem.F.slot_list_append PySem.F.type_list_append mt_append (pv 9) (pa_cons pe_int pa_nil)))
      (pss_one (ps_ret (pe_fn G__law_same (hr.mono (by decide)) (by rfl) (pa_cons (pe_fn G_rung (hr.mono (by decide)) (by rfl) (pa_cons (pv 5) (pa_cons (pv 1) (pa_cons (pv 2) (pa_cons (pv 3) pa_nil))))) (pa_cons (pv 6) pa_nil)))))))))))))))), ?_⟩
    refine ⟨_, rfl, a, ns, 0, rfl, hS, by decide, cellOf ns 0, rfl, fun pf turns bells late H1 s1 hF Fr => ?_⟩
    obtain ⟨B1, B6, l0, lb, bt, tb⟩ := Fr
    have lb8 : intBits late ≤ 8000 := bits_mono lb (by decide)
    have cp := cnt_pos (turns := turns) (bells := bells) (late := late) (by omega) bt l0
    have cb := cnt_bits (turns := turns) (bells := bells) (late := late) (by omega) (by omega) l0 (by omega) tb (by decide)
    refine ⟨pf, _, rfl, SqT.of hF, rfl, _, _, rfl, _, _, rfl, _, _, rfl, rfl, ?_⟩
    refine ⟨_, rfl, _, rfl, _, rfl, turns, bells, late, rfl, by omega, by omega, l0, lb8, bits_mono tb (by decide), ?_⟩
    refine ⟨_, rfl, _, rfl, _, rfl, _, _, rfl, s1.seq hS, fun p1 hp1 => ?_⟩
    rw [cut_map]
    have xl := cutI_len ns (some 1) (some 11)
    have xl10 : (cutI ns (some 1) (some 11)).length ≤ 10 := by
      unfold cutI
      rw [List.length_take]
      simp [HT.sIx]
      omega
    generalize cutI ns (some 1) (some 11) = zs at xl xl10 ⊢
    have s2 : Same H (upd H1 p1 (.lst (zs.map V.int))) := s1.put hp1
    have h2 : (upd H1 p1 (.lst (zs.map V.int))) p1 = some (.lst (zs.map V.int)) := upd_same
    generalize upd H1 p1 (.lst (zs.map V.int)) = H2 at s2 h2 ⊢
    refine ⟨p1, rfl, ⟨_, SqL.of h2⟩, fun pm hpm => comp_listG (K := K) (a := p1) (xs := zs.map V.int) (fun _ v _ => ∃ m : Int, v = V.int m ∧ 0 ≤ m ∧ m < cnt turns bells late) (fun _ _ _ _ _ h => h) (fun _ _ _ _ _ _ h => h) (SqL.of h2) hpm (by rw [List.length_map]; exact Nat.le_of_lt (small1000 (by omega))) (fun i x H6 R' hx s6 hR => ?_) ?_⟩
    · rw [List.getElem?_map] at hx
      obtain ⟨z, hz, rfl⟩ := Option.map_eq_some_iff.mp hx
      exact ⟨rfl, _, rfl, _, rfl, z, cnt turns bells late, rfl, cp, fun m H' m0 m1 s' => hR _ _ s' ⟨m, rfl, m0, m1⟩⟩
    intro ys H3 s3 hY yl yp
    obtain ⟨ms, rfl, mp⟩ := ints_of (Pd := fun m => 0 ≤ m ∧ m < cnt turns bells late) (fun i v hv => yp i v hv)
    rw [List.length_map, List.length_map] at yl
    have s03 := s2.trans s3
    have ms10 : ms.length ≤ 10 := by omega
    have mb : ∀ m ∈ ms, 0 ≤ m ∧ m < cnt turns bells late ∧ intBits m ≤ 50000 := fun m hm => ⟨(mp m hm).1, (mp m hm).2, bits_mono (bits_lt (mp m hm).1 (mp m hm).2 cb) (by decide)⟩
    have sb : intBits (turns + late) ≤ 70000 := bits_mono (intBits_add_le (m := 60000) (n := 60000) (bits_mono tb (by decide)) (bits_mono lb (by decide))) (by decide)
    refine ⟨(by decide), fun pd hpd => ?_⟩
    have sd : Same H3 (upd H3 pd (.lst [])) := Same.new hpd
    refine ⟨_, rfl, _, _, rfl, .inl (SqL.of (sd _ _ hY)), _, rfl, by rw [List.length_map]; omega, by rw [List.length_map]; omega, for_range (n := ((ms.map V.int).length : Int).toNat) (fun i σ H2 => ∃ (bss : List (List Int)) (v7 v8 : Option V), σ = [some (.ref a), some (.int turns), some (.int bells), some (.int late), some (.int (cnt turns bells late)), some (.ref pm), some (.ref pd), v7, v8, none, none] ∧ Same H3 H2 ∧ H2 pd = some (.lst ((ringL (turns + late) late 0 bss).map V.int)) ∧ bss.length = i ∧ (∀ (j : Nat) (c : List Int) (m : Int), bss[j]? = some c → ms[j]? = some m → IsBox c ∧ c.length = bells.toNat ∧ numB c = m)) ⟨[], none, none, rfl, sd, upd_same, rfl, (fun j bs m h => by simp at h)⟩ ?_ ?_⟩
    · rintro i σ H5 hi ⟨bss, v7, v8, rfl, sm, hT, bl, hb⟩
      rw [List.length_map] at hi
      have hit : i < ms.length := by omega
      rw [show (0 : Int) + (i : Int) = (i : Int) by omega]
      have hmi := List.getElem?_eq_getElem hit
      obtain ⟨m0, m1, m2⟩ := mb _ (List.mem_of_getElem? hmi)
      have rl : (ringL (turns + late) late 0 bss).length = bss.length * bells.toNat := ringL_len bss 0 fun c hc => by
        obtain ⟨j, hj⟩ := List.getElem?_of_mem hc
        have jl := (List.getElem?_eq_some_iff.mp hj).1
        exact (hb j c _ hj (List.getElem?_eq_getElem (by omega))).2.1
      have rl60 : (ringL (turns + late) late 0 bss).length ≤ 60 := by
        rw [rl]
        exact Nat.le_trans (Nat.mul_le_mul (show bss.length ≤ 10 by omega) (show bells.toNat ≤ 6 by omega)) (by decide)
      refine ⟨_, rfl, _, rfl, _, _, _, _, rfl, rfl, SqL.of (sm _ _ hY), at_map (ns := ms) (k := i) hmi, _, rfl, _, rfl, _, rfl, ms[i], turns, bells, late, rfl, m0, m1, by omega, by omega, l0, lb8, bits_mono tb (by decide), m2, fun pw bs H6 s6 hpw hW B hbl hnum sz => ?_⟩
      have bll : (bellL late bs).length ≤ 6 := by rw [bellL_length, hbl]; omega
      refine ⟨pw, rfl, ⟨_, SqL.of hW⟩, for_list (K := K) (a := pw) (xs := (bellL late bs).map V.int) (fun j σ H7 => ∃ v8 : Option V, σ = [some (.ref a), some (.int turns), some (.int bells), some (.int late), some (.int (cnt turns bells late)), some (.ref pm), some (.ref pd), some (.int (i : Int)), v8, none, none] ∧ Same H3 H7 ∧ H7 pw = some (.lst ((bellL late bs).map V.int)) ∧ H7 pd = some (.lst ((ringL (turns + late) late 0 bss ++ ((bellL late bs).take j).map (fun x => (i : Int) * (turns + late) + x)).map V.int)))
        ⟨v8, rfl, sm.trans s6, hW, by rw [List.take_zero, List.map_nil, List.append_nil]; exact s6 _ _ hT⟩ (fun j σ H7 _ ⟨_, _, _, h, _⟩ => SqL.of h) ?_ ?_⟩
      · rintro j x σ H7 hx ⟨v8, rfl, s7, hW7, hD7⟩
        rw [List.getElem?_map] at hx
        obtain ⟨z, hz, rfl⟩ := Option.map_eq_some_iff.mp hx
        refine ⟨_, rfl, .inl ⟨rfl, _, SqL.of hD7⟩, _, rfl, _, rfl, _, rfl, _, _, rfl, rfl, _, _, rfl, rfl, ⟨64, 70000, bits_of (by omega) (by omega), sb, by decide⟩, _, rfl, _, _, rfl, rfl, pd, _, _, rfl, rfl, hD7, ?_, ?_⟩
        · rw [List.length_map, List.length_append, List.length_map, List.length_take]
          exact small1000 (by omega)
        · have ne : pd ≠ pw := ne_of_none hT hpw
          have e : ringL (turns + late) late 0 bss ++ ((bellL late bs).take (j + 1)).map (fun x => (i : Int) * (turns + late) + x) = (ringL (turns + late) late 0 bss ++ ((bellL late bs).take j).map (fun x => (i : Int) * (turns + late) + x)) ++ [(i : Int) * (turns + late) + z] := by
            rw [List.take_add_one, hz, List.map_append, ← List.append_assoc]
            rfl
          refine ⟨_, rfl, s7.wr hpd, by rw [upd_ne (Ne.symm ne)]; exact hW7, ?_⟩
          rw [upd_same, e, List.map_append (l₂ := [_])]
          rfl
      · rintro σ H7 ⟨v8, rfl, s7, hW7, hD7⟩
        rw [List.length_map, List.take_length] at hD7
        refine ⟨bss ++ [bs], _, _, rfl, s7, ?_, by rw [List.length_append, bl]; rfl, fun j c mm hj hmj => ?_⟩
        · rw [ringL_snoc, bl, show (0 : Int) + (i : Int) = (i : Int) by omega]
          exact hD7
        · by_cases hji : j < bss.length
          · rw [List.getElem?_append_left hji] at hj
            exact hb j c mm hj hmj
          · have hj2 := (List.getElem?_eq_some_iff.mp hj).1
            rw [List.length_append, List.length_singleton] at hj2
            have ej : j = i := by omega
            subst ej
            rw [List.getElem?_append_right (by omega), bl, Nat.sub_self] at hj
            have : bs = c := by simpa using hj
            subst this
            rw [hmi] at hmj
            cases hmj
            exact ⟨B, hbl, hnum⟩
    · rintro σ H5 ⟨bss, v7, v8, rfl, sm, hD, bl, hb⟩
      rw [List.length_map, show ((ms.length : Nat) : Int).toNat = ms.length by omega] at bl
      have hbox : ∀ bs ∈ bss, IsBox bs ∧ bs.length = bells.toNat ∧ numB bs < cnt turns bells late := fun bs hbs => by
        obtain ⟨i, hi⟩ := List.getElem?_of_mem hbs
        have il := (List.getElem?_eq_some_iff.mp hi).1
        have hm : ms[i]? = some ms[i] := List.getElem?_eq_getElem (by omega)
        obtain ⟨g1, g2, g3⟩ := hb i bs _ hi hm
        have := mp _ (List.mem_of_getElem? hm)
        exact ⟨g1, g2, by omega⟩
      have hL : 0 < turns + late := by omega
      have rise : (ringL (turns + late) late 0 bss).Pairwise (· < ·) := ring_rise hL l0 bss 0 fun bs hbs => by
        obtain ⟨g1, g2, g3⟩ := hbox bs hbs
        refine ⟨g1, fun x hx => ?_⟩
        have := bell_lt (turns := turns) g1 l0 (by rw [g2, show ((bells.toNat : Nat) : Int) = bells by omega]; exact g3) x hx
        omega
      have rl60 : (ringL (turns + late) late 0 bss).length < 64 := by
        rw [ringL_len bss 0 fun bs hbs => (hbox bs hbs).2.1]
        exact Nat.lt_of_le_of_lt (Nat.mul_le_mul (show bss.length ≤ 10 by omega) (show bells.toNat ≤ 6 by omega)) (by decide)
      have hY5 := sm _ _ hY
      have b70 : intBits turns ≤ 60000 := bits_mono tb (by decide)
      refine ⟨_, rfl, _, _, rfl, .inl (SqL.of hY5), fun ph hph => ?_⟩
      have s56 : Same H5 (upd H5 ph (.lst (ms.map V.int))) := Same.new hph
      have hH6 : (upd H5 ph (.lst (ms.map V.int))) ph = some (.lst (ms.map V.int)) := upd_same
      generalize upd H5 ph (.lst (ms.map V.int)) = H6 at s56 hH6 ⊢
      refine ⟨_, rfl, _, rfl, _, rfl, _, rfl, ph, ms, turns, bells, late, rfl, SqL.of hH6, by omega, B1, by omega, bt, l0, lb8, b70, mb, fun pt bss2 H7 s7 hpt hT bl2 hb2 _ => ?_⟩
      obtain rfl := boxes_same bl2 bl hb2 hb
      have hD7 := s7 _ _ (s56 _ _ hD)
      refine ⟨_, rfl, _, rfl, pt, pd, _, rfl, hT, hD7, rise, rl60, fun H8 s8 => ⟨_, rfl, iteF ⟨_, rfl, _, rfl, ph, pm, ms, ms, rfl, rfl, SqL.of (s8 _ _ (s7 _ _ hH6)), SqL.of (s8 _ _ (s7 _ _ (s56 _ _ hY5))), _, rfl, iteNS rfl ?_⟩⟩⟩
      refine ⟨_, rfl, .inl ⟨rfl, _, SqL.of (s8 _ _ hT)⟩, _, _, _, rfl, rfl, s8 _ _ hT, by rw [List.length_map]; exact small1000 (by omega), ?_⟩
      have s69 : Same H6 (upd H8 pt (.lst ((ringL (turns + late) late 0 bss2).map V.int ++ [V.int 0]))) := (s7.trans s8).wr hpt
      generalize upd H8 pt (.lst ((ringL (turns + late) late 0 bss2).map V.int ++ [V.int 0])) = H9 at s69 ⊢
      have hH9 := s69 _ _ hH6
      refine ⟨_, rfl, _, rfl, ph, pm, ms, ms, rfl, rfl, SqL.of hH9, SqL.of (s69 _ _ (s56 _ _ hY5)), _, rfl, iteNS rfl ?_⟩
      refine ⟨_, rfl, .inl ⟨rfl, _, SqL.of hH9⟩, _, _, _, rfl, rfl, hH9, by rw [List.length_map]; exact small1000 (by omega), ?_⟩
      have s510 : Same H5 (upd H9 ph (.lst (ms.map V.int ++ [V.int 0]))) := (s56.trans s69).wr hph
      generalize upd H9 ph (.lst (ms.map V.int ++ [V.int 0])) = H10 at s510 ⊢
      refine ⟨_, rfl, _, rfl, _, rfl, _, rfl, pm, ms, turns, bells, late, rfl, SqL.of (s510 _ _ hY5), by omega, B1, by omega, bt, l0, lb8, b70, mb, fun pt2 bss3 H11 s11 hpt2 hT2 bl3 hb3 _ => ?_⟩
      obtain rfl := boxes_same bl3 bl2 hb3 hb2
      exact ⟨_, rfl, pt2, pd, _, rfl, hT2, s11 _ _ (s510 _ _ hD), rise, rl60, fun H12 _ => q H12⟩
end
theorem of_len0 {α : Type} {F : List α → Prop} {us : List α} (h : us.length = 0) (k : F []) : F us := by
  cases us with
  | nil => exact k
  | cons a r => cases h
theorem of_len1 {α : Type} {F : List α → Prop} {us : List α} (h : us.length = 1) (k : ∀ a, F [a]) : F us := by
  cases us with
  | nil => cases h
  | cons a r => exact of_len0 (F := fun r => F (a :: r)) (Nat.succ.inj h) (k a)
theorem of_len2 {α : Type} {F : List α → Prop} {us : List α} (h : us.length = 2) (k : ∀ a b, F [a, b]) : F us := by
  cases us with
  | nil => cases h
  | cons a r => exact of_len1 (F := fun r => F (a :: r)) (Nat.succ.inj h) (k a)
theorem of_len3 {α : Type} {F : List α → Prop} {us : List α} (h : us.length = 3) (k : ∀ a b c, F [a, b, c]) : F us := by
  cases us with
  | nil => cases h
  | cons a r => exact of_len2 (F := fun r => F (a :: r)) (Nat.succ.inj h) (k a)
theorem of_len4 {α : Type} {F : List α → Prop} {us : List α} (h : us.length = 4) (k : ∀ a b c d, F [a, b, c, d]) : F us := by
  cases us with
  | nil => cases h
  | cons a r => exact of_len3 (F := fun r => F (a :: r)) (Nat.succ.inj h) (k a)
theorem binds_len1 {fd : FuncData} {ps : List Str} {us : List Value} (h : us.length = 1) (k : ∀ a, bindArgs fd ⟨[a], []⟩ = pure (ps.zip [a])) : bindArgs fd ⟨us, []⟩ = pure (ps.zip us) := of_len1 (F := fun us => bindArgs fd ⟨us, []⟩ = pure (ps.zip us)) h k
theorem binds_len2 {fd : FuncData} {ps : List Str} {us : List Value} (h : us.length = 2) (k : ∀ a b, bindArgs fd ⟨[a, b], []⟩ = pure (ps.zip [a, b])) : bindArgs fd ⟨us, []⟩ = pure (ps.zip us) := of_len2 (F := fun us => bindArgs fd ⟨us, []⟩ = pure (ps.zip us)) h k
theorem binds_len3 {fd : FuncData} {ps : List Str} {us : List Value} (h : us.length = 3) (k : ∀ a b c, bindArgs fd ⟨[a, b, c], []⟩ = pure (ps.zip [a, b, c])) : bindArgs fd ⟨us, []⟩ = pure (ps.zip us) := of_len3 (F := fun us => bindArgs fd ⟨us, []⟩ = pure (ps.zip us)) h k
theorem binds_len4 {fd : FuncData} {ps : List Str} {us : List Value} (h : us.length = 4) (k : ∀ a b c d, bindArgs fd ⟨[a, b, c, d], []⟩ = pure (ps.zip [a, b, c, d])) : bindArgs fd ⟨us, []⟩ = pure (ps.zip us) := of_len4 (F := fun us => bindArgs fd ⟨us, []⟩ = pure (ps.zip us)) h k
theorem all_mk {l : PySem.W.OpenLaw} (hP : l.prog.given.tree = none) {w : World} {K : PySem.W.Frag} {h : Heap} {mg : Str → Option Value} {fa : Addr} (X : K.In h) (G : h.Ns mainGlobals mg) (hfa : mg "law" = some (.ref fa))
    {f0 : Addr} {od0 an0 : Option Addr} {sl0 : Array (Option Value)} {oc0 kV0 dc0 pm0 cd0 ct0 : Value}
    (a0 : PySem.W.nsIn K mainGlobals "choose" = some (some (.ref f0))) (l0 : K.lookup f0 = some ⟨oc0, od0, .func (PySem.W.fnOf "choose" "choose" (defArgs st_choose) (defBody st_choose) (defScope st_choose) .none kV0 dc0 pm0 an0 cd0 ct0), sl0⟩) (c0 : PySem.W.codeIn K cd0 "choose" = true) (k0 : PySem.W.keepIn K (.ref f0) = true)
    {f1 : Addr} {od1 an1 : Option Addr} {sl1 : Array (Option Value)} {oc1 kV1 dc1 pm1 cd1 ct1 : Value}
    (a1 : PySem.W.nsIn K mainGlobals "top_from" = some (some (.ref f1))) (l1 : K.lookup f1 = some ⟨oc1, od1, .func (PySem.W.fnOf "top_from" "top_from" (defArgs st_top_from) (defBody st_top_from) (defScope st_top_from) .none kV1 dc1 pm1 an1 cd1 ct1), sl1⟩) (c1 : PySem.W.codeIn K cd1 "top_from" = true) (k1 : PySem.W.keepIn K (.ref f1) = true)
    {f2 : Addr} {od2 an2 : Option Addr} {sl2 : Array (Option Value)} {oc2 kV2 dc2 pm2 cd2 ct2 : Value}
    (a2 : PySem.W.nsIn K mainGlobals "above_top" = some (some (.ref f2))) (l2 : K.lookup f2 = some ⟨oc2, od2, .func (PySem.W.fnOf "above_top" "above_top" (defArgs st_above_top) (defBody st_above_top) (defScope st_above_top) .none kV2 dc2 pm2 an2 cd2 ct2), sl2⟩) (c2 : PySem.W.codeIn K cd2 "above_top" = true) (k2 : PySem.W.keepIn K (.ref f2) = true)
    {f3 : Addr} {od3 an3 : Option Addr} {sl3 : Array (Option Value)} {oc3 kV3 dc3 pm3 cd3 ct3 : Value}
    (a3 : PySem.W.nsIn K mainGlobals "rounded_up" = some (some (.ref f3))) (l3 : K.lookup f3 = some ⟨oc3, od3, .func (PySem.W.fnOf "rounded_up" "rounded_up" (defArgs st_rounded_up) (defBody st_rounded_up) (defScope st_rounded_up) .none kV3 dc3 pm3 an3 cd3 ct3), sl3⟩) (c3 : PySem.W.codeIn K cd3 "rounded_up" = true) (k3 : PySem.W.keepIn K (.ref f3) = true)
    {f4 : Addr} {od4 an4 : Option Addr} {sl4 : Array (Option Value)} {oc4 kV4 dc4 pm4 cd4 ct4 : Value}
    (a4 : PySem.W.nsIn K mainGlobals "bell_row" = some (some (.ref f4))) (l4 : K.lookup f4 = some ⟨oc4, od4, .func (PySem.W.fnOf "bell_row" "bell_row" (defArgs st_bell_row) (defBody st_bell_row) (defScope st_bell_row) .none kV4 dc4 pm4 an4 cd4 ct4), sl4⟩) (c4 : PySem.W.codeIn K cd4 "bell_row" = true) (k4 : PySem.W.keepIn K (.ref f4) = true)
    {f5 : Addr} {od5 an5 : Option Addr} {sl5 : Array (Option Value)} {oc5 kV5 dc5 pm5 cd5 ct5 : Value}
    (a5 : PySem.W.nsIn K mainGlobals "box_count" = some (some (.ref f5))) (l5 : K.lookup f5 = some ⟨oc5, od5, .func (PySem.W.fnOf "box_count" "box_count" (defArgs st_box_count) (defBody st_box_count) (defScope st_box_count) .none kV5 dc5 pm5 an5 cd5 ct5), sl5⟩) (c5 : PySem.W.codeIn K cd5 "box_count" = true) (k5 : PySem.W.keepIn K (.ref f5) = true)
    {f6 : Addr} {od6 an6 : Option Addr} {sl6 : Array (Option Value)} {oc6 kV6 dc6 pm6 cd6 ct6 : Value}
    (a6 : PySem.W.nsIn K mainGlobals "greatest_part" = some (some (.ref f6))) (l6 : K.lookup f6 = some ⟨oc6, od6, .func (PySem.W.fnOf "greatest_part" "greatest_part" (defArgs st_greatest_part) (defBody st_greatest_part) (defScope st_greatest_part) .none kV6 dc6 pm6 an6 cd6 ct6), sl6⟩) (c6 : PySem.W.codeIn K cd6 "greatest_part" = true) (k6 : PySem.W.keepIn K (.ref f6) = true)
    {f7 : Addr} {od7 an7 : Option Addr} {sl7 : Array (Option Value)} {oc7 kV7 dc7 pm7 cd7 ct7 : Value}
    (a7 : PySem.W.nsIn K mainGlobals "box_of_message" = some (some (.ref f7))) (l7 : K.lookup f7 = some ⟨oc7, od7, .func (PySem.W.fnOf "box_of_message" "box_of_message" (defArgs st_box_of_message) (defBody st_box_of_message) (defScope st_box_of_message) .none kV7 dc7 pm7 an7 cd7 ct7), sl7⟩) (c7 : PySem.W.codeIn K cd7 "box_of_message" = true) (k7 : PySem.W.keepIn K (.ref f7) = true)
    {f8 : Addr} {od8 an8 : Option Addr} {sl8 : Array (Option Value)} {oc8 kV8 dc8 pm8 cd8 ct8 : Value}
    (a8 : PySem.W.nsIn K mainGlobals "written" = some (some (.ref f8))) (l8 : K.lookup f8 = some ⟨oc8, od8, .func (PySem.W.fnOf "written" "written" (defArgs st_written) (defBody st_written) (defScope st_written) .none kV8 dc8 pm8 an8 cd8 ct8), sl8⟩) (c8 : PySem.W.codeIn K cd8 "written" = true) (k8 : PySem.W.keepIn K (.ref f8) = true)
    {f9 : Addr} {od9 an9 : Option Addr} {sl9 : Array (Option Value)} {oc9 kV9 dc9 pm9 cd9 ct9 : Value}
    (a9 : PySem.W.nsIn K mainGlobals "refuse_silent" = some (some (.ref f9))) (l9 : K.lookup f9 = some ⟨oc9, od9, .func (PySem.W.fnOf "refuse_silent" "refuse_silent" (defArgs st_refuse_silent) (defBody st_refuse_silent) (defScope st_refuse_silent) .none kV9 dc9 pm9 an9 cd9 ct9), sl9⟩) (c9 : PySem.W.codeIn K cd9 "refuse_silent" = true) (k9 : PySem.W.keepIn K (.ref f9) = true)
    {f10 : Addr} {od10 an10 : Option Addr} {sl10 : Array (Option Value)} {oc10 kV10 dc10 pm10 cd10 ct10 : Value}
    (a10 : PySem.W.nsIn K mainGlobals "rung" = some (some (.ref f10))) (l10 : K.lookup f10 = some ⟨oc10, od10, .func (PySem.W.fnOf "rung" "rung" (defArgs st_rung) (defBody st_rung) (defScope st_rung) .none kV10 dc10 pm10 an10 cd10 ct10), sl10⟩) (c10 : PySem.W.codeIn K cd10 "rung" = true) (k10 : PySem.W.keepIn K (.ref f10) = true)
    {f11 : Addr} {od11 an11 : Option Addr} {sl11 : Array (Option Value)} {oc11 kV11 dc11 pm11 cd11 ct11 : Value}
    (a11 : PySem.W.nsIn K mainGlobals "_law_cell_at" = some (some (.ref f11))) (l11 : K.lookup f11 = some ⟨oc11, od11, .func (PySem.W.fnOf "_law_cell_at" "_law_cell_at" (defArgs st__law_cell_at) (defBody st__law_cell_at) (defScope st__law_cell_at) .none kV11 dc11 pm11 an11 cd11 ct11), sl11⟩) (c11 : PySem.W.codeIn K cd11 "_law_cell_at" = true) (k11 : PySem.W.keepIn K (.ref f11) = true)
    {f12 : Addr} {od12 an12 : Option Addr} {sl12 : Array (Option Value)} {oc12 kV12 dc12 pm12 cd12 ct12 : Value}
    (a12 : PySem.W.nsIn K mainGlobals "_law_drawn" = some (some (.ref f12))) (l12 : K.lookup f12 = some ⟨oc12, od12, .func (PySem.W.fnOf "_law_drawn" "_law_drawn" (defArgs st__law_drawn) (defBody st__law_drawn) (defScope st__law_drawn) .none kV12 dc12 pm12 an12 cd12 ct12), sl12⟩) (c12 : PySem.W.codeIn K cd12 "_law_drawn" = true) (k12 : PySem.W.keepIn K (.ref f12) = true)
    {f13 : Addr} {od13 an13 : Option Addr} {sl13 : Array (Option Value)} {oc13 kV13 dc13 pm13 cd13 ct13 : Value}
    (a13 : PySem.W.nsIn K mainGlobals "_law_frame" = some (some (.ref f13))) (l13 : K.lookup f13 = some ⟨oc13, od13, .func (PySem.W.fnOf "_law_frame" "_law_frame" (defArgs st__law_frame) (defBody st__law_frame) (defScope st__law_frame) .none kV13 dc13 pm13 an13 cd13 ct13), sl13⟩) (c13 : PySem.W.codeIn K cd13 "_law_frame" = true) (k13 : PySem.W.keepIn K (.ref f13) = true)
    {f14 : Addr} {od14 an14 : Option Addr} {sl14 : Array (Option Value)} {oc14 kV14 dc14 pm14 cd14 ct14 : Value}
    (a14 : PySem.W.nsIn K mainGlobals "_law_message" = some (some (.ref f14))) (l14 : K.lookup f14 = some ⟨oc14, od14, .func (PySem.W.fnOf "_law_message" "_law_message" (defArgs st__law_message) (defBody st__law_message) (defScope st__law_message) .none kV14 dc14 pm14 an14 cd14 ct14), sl14⟩) (c14 : PySem.W.codeIn K cd14 "_law_message" = true) (k14 : PySem.W.keepIn K (.ref f14) = true)
    {f15 : Addr} {od15 an15 : Option Addr} {sl15 : Array (Option Value)} {oc15 kV15 dc15 pm15 cd15 ct15 : Value}
    (a15 : PySem.W.nsIn K mainGlobals "_law_same" = some (some (.ref f15))) (l15 : K.lookup f15 = some ⟨oc15, od15, .func (PySem.W.fnOf "_law_same" "_law_same" (defArgs st__law_same) (defBody st__law_same) (defScope st__law_same) .none kV15 dc15 pm15 an15 cd15 ct15), sl15⟩) (c15 : PySem.W.codeIn K cd15 "_law_same" = true) (k15 : PySem.W.keepIn K (.ref f15) = true)
    {f16 : Addr} {od16 an16 : Option Addr} {sl16 : Array (Option Value)} {oc16 kV16 dc16 pm16 cd16 ct16 : Value}
    (a16 : PySem.W.nsIn K mainGlobals "law" = some (some (.ref f16))) (l16 : K.lookup f16 = some ⟨oc16, od16, .func (PySem.W.fnOf "law" "law" (defArgs st_law) (defBody st_law) (defScope st_law) .none kV16 dc16 pm16 an16 cd16 ct16), sl16⟩) (c16 : PySem.W.codeIn K cd16 "law" = true) (k16 : PySem.W.keepIn K (.ref f16) = true)
    (z_range : PySem.W.nsIn K mainGlobals "range" = some none)
    (z_isinstance : PySem.W.nsIn K mainGlobals "isinstance" = some none)
    (z_int : PySem.W.nsIn K mainGlobals "int" = some none)
    (z_bool : PySem.W.nsIn K mainGlobals "bool" = some none)
    (z_len : PySem.W.nsIn K mainGlobals "len" = some none)
    (z_list : PySem.W.nsIn K mainGlobals "list" = some none)
    (z_min : PySem.W.nsIn K mainGlobals "min" = some none)
    (z_enumerate : PySem.W.nsIn K mainGlobals "enumerate" = some none)
    (z_sorted : PySem.W.nsIn K mainGlobals "sorted" = some none)
    (z_set : PySem.W.nsIn K mainGlobals "set" = some none)
    (z_all : PySem.W.nsIn K mainGlobals "all" = some none)
    (z_ValueError : PySem.W.nsIn K mainGlobals "ValueError" = some none)
    {C_BellError : Addr} (m_BellError : PySem.W.nsIn K mainGlobals "BellError" = some (some (.ref C_BellError)))
    {C_NoRow : Addr} (m_NoRow : PySem.W.nsIn K mainGlobals "NoRow" = some (some (.ref C_NoRow)))
    {C_TooGreat : Addr} (m_TooGreat : PySem.W.nsIn K mainGlobals "TooGreat" = some (some (.ref C_TooGreat)))
    : ∃ fd : FuncData, (∀ (s : Shared) (v : Value), BindsTo s fd ⟨[v], []⟩ [("script", v)]) ∧ ∀ base : Heap, K.In base → base.Ns mainGlobals mg → FnOk l.prog w K mg base CX0 43 fa fd ["script"] (spLaw K) := by
  have e := hfa.symm.trans (PySem.W.mg_of X G a16)
  cases e
  have D_choose : Def K mg "choose" st_choose ["n", "k"] := ⟨f0, _, fun_mk l0 c0 k0, (fun_mk (st := st_choose) l0 c0 k0).binds (ps := ["n", "k"]) (fun _ _ _ _ _ _ us hl => binds_len2 hl fun _ _ => rfl), PySem.W.mg_of X G a0⟩
  have D_top_from : Def K mg "top_from" st_top_from ["start", "k", "number"] := ⟨f1, _, fun_mk l1 c1 k1, (fun_mk (st := st_top_from) l1 c1 k1).binds (ps := ["start", "k", "number"]) (fun _ _ _ _ _ _ us hl => binds_len3 hl fun _ _ _ => rfl), PySem.W.mg_of X G a1⟩
  have D_above_top : Def K mg "above_top" st_above_top ["k", "number"] := ⟨f2, _, fun_mk l2 c2 k2, (fun_mk (st := st_above_top) l2 c2 k2).binds (ps := ["k", "number"]) (fun _ _ _ _ _ _ us hl => binds_len2 hl fun _ _ => rfl), PySem.W.mg_of X G a2⟩
  have D_rounded_up : Def K mg "rounded_up" st_rounded_up ["number", "divisor"] := ⟨f3, _, fun_mk l3 c3 k3, (fun_mk (st := st_rounded_up) l3 c3 k3).binds (ps := ["number", "divisor"]) (fun _ _ _ _ _ _ us hl => binds_len2 hl fun _ _ => rfl), PySem.W.mg_of X G a3⟩
  have D_bell_row : Def K mg "bell_row" st_bell_row ["box", "late"] := ⟨f4, _, fun_mk l4 c4 k4, (fun_mk (st := st_bell_row) l4 c4 k4).binds (ps := ["box", "late"]) (fun _ _ _ _ _ _ us hl => binds_len2 hl fun _ _ => rfl), PySem.W.mg_of X G a4⟩
  have D_box_count : Def K mg "box_count" st_box_count ["turns", "bells", "late"] := ⟨f5, _, fun_mk l5 c5 k5, (fun_mk (st := st_box_count) l5 c5 k5).binds (ps := ["turns", "bells", "late"]) (fun _ _ _ _ _ _ us hl => binds_len3 hl fun _ _ _ => rfl), PySem.W.mg_of X G a5⟩
  have D_greatest_part : Def K mg "greatest_part" st_greatest_part ["turns", "bells", "late"] := ⟨f6, _, fun_mk l6 c6 k6, (fun_mk (st := st_greatest_part) l6 c6 k6).binds (ps := ["turns", "bells", "late"]) (fun _ _ _ _ _ _ us hl => binds_len3 hl fun _ _ _ => rfl), PySem.W.mg_of X G a6⟩
  have D_box_of_message : Def K mg "box_of_message" st_box_of_message ["message", "bells"] := ⟨f7, _, fun_mk l7 c7 k7, (fun_mk (st := st_box_of_message) l7 c7 k7).binds (ps := ["message", "bells"]) (fun _ _ _ _ _ _ us hl => binds_len2 hl fun _ _ => rfl), PySem.W.mg_of X G a7⟩
  have D_written : Def K mg "written" st_written ["message", "turns", "bells", "late"] := ⟨f8, _, fun_mk l8 c8 k8, (fun_mk (st := st_written) l8 c8 k8).binds (ps := ["message", "turns", "bells", "late"]) (fun _ _ _ _ _ _ us hl => binds_len4 hl fun _ _ _ _ => rfl), PySem.W.mg_of X G a8⟩
  have D_refuse_silent : Def K mg "refuse_silent" st_refuse_silent ["turns", "bells"] := ⟨f9, _, fun_mk l9 c9 k9, (fun_mk (st := st_refuse_silent) l9 c9 k9).binds (ps := ["turns", "bells"]) (fun _ _ _ _ _ _ us hl => binds_len2 hl fun _ _ => rfl), PySem.W.mg_of X G a9⟩
  have D_rung : Def K mg "rung" st_rung ["messages", "turns", "bells", "late"] := ⟨f10, _, fun_mk l10 c10 k10, (fun_mk (st := st_rung) l10 c10 k10).binds (ps := ["messages", "turns", "bells", "late"]) (fun _ _ _ _ _ _ us hl => binds_len4 hl fun _ _ _ _ => rfl), PySem.W.mg_of X G a10⟩
  have D__law_cell_at : Def K mg "_law_cell_at" st__law_cell_at ["script", "k"] := ⟨f11, _, fun_mk l11 c11 k11, (fun_mk (st := st__law_cell_at) l11 c11 k11).binds (ps := ["script", "k"]) (fun _ _ _ _ _ _ us hl => binds_len2 hl fun _ _ => rfl), PySem.W.mg_of X G a11⟩
  have D__law_drawn : Def K mg "_law_drawn" st__law_drawn ["cell", "k"] := ⟨f12, _, fun_mk l12 c12 k12, (fun_mk (st := st__law_drawn) l12 c12 k12).binds (ps := ["cell", "k"]) (fun _ _ _ _ _ _ us hl => binds_len2 hl fun _ _ => rfl), PySem.W.mg_of X G a12⟩
  have D__law_frame : Def K mg "_law_frame" st__law_frame ["cell"] := ⟨f13, _, fun_mk l13 c13 k13, (fun_mk (st := st__law_frame) l13 c13 k13).binds (ps := ["cell"]) (fun _ _ _ _ _ _ us hl => binds_len1 hl fun _ => rfl), PySem.W.mg_of X G a13⟩
  have D__law_message : Def K mg "_law_message" st__law_message ["cell", "count"] := ⟨f14, _, fun_mk l14 c14 k14, (fun_mk (st := st__law_message) l14 c14 k14).binds (ps := ["cell", "count"]) (fun _ _ _ _ _ _ us hl => binds_len2 hl fun _ _ => rfl), PySem.W.mg_of X G a14⟩
  have D__law_same : Def K mg "_law_same" st__law_same ["found", "due"] := ⟨f15, _, fun_mk l15 c15 k15, (fun_mk (st := st__law_same) l15 c15 k15).binds (ps := ["found", "due"]) (fun _ _ _ _ _ _ us hl => binds_len2 hl fun _ _ => rfl), PySem.W.mg_of X G a15⟩
  have T : Txt K mg := ⟨PySem.W.mg_none_of X G z_range, PySem.W.mg_none_of X G z_isinstance, PySem.W.mg_none_of X G z_int, PySem.W.mg_none_of X G z_bool, PySem.W.mg_none_of X G z_len, PySem.W.mg_none_of X G z_list, PySem.W.mg_none_of X G z_min, PySem.W.mg_none_of X G z_enumerate, PySem.W.mg_none_of X G z_sorted, PySem.W.mg_none_of X G z_set, PySem.W.mg_none_of X G z_all, PySem.W.mg_none_of X G z_ValueError⟩
  exact ⟨PySem.W.fnOf "law" "law" (defArgs st_law) (defBody st_law) (defScope st_law) .none kV16 dc16 pm16 an16 cd16 ct16, fun s v => .of_eq rfl, fun base _ _ => ok_law hP (fun_mk l16 c16 k16) T D_choose D_top_from D_above_top D_rounded_up D_bell_row D_box_count D_greatest_part D_box_of_message D_written D_refuse_silent D_rung D__law_cell_at D__law_drawn D__law_frame D__law_message D__law_same (PySem.W.mg_of X G m_BellError) (PySem.W.mg_of X G m_NoRow) (PySem.W.mg_of X G m_TooGreat)⟩
theorem walk {l : PySem.W.OpenLaw} {q : Program} {loose : List Str} {XP : (Str → Option Value) → Heap → Prop} {YP : World → Heap → Prop} {d : DefRec} {K : Params → PySem.W.Frag} (hn : l.most = some 63) (hdf : d.params.defaults = []) (hq : PyProof.Rows.importsNone q = true)
    (hY : ∀ (w : World) (h : Heap), YP w h → (K w.params).In h)
    (F : ∀ (w : World) (mg : Str → Option Value) (fa : Addr) (h : Heap), (K w.params).In h → h.Ns mainGlobals mg → mg d.name = some (.ref fa) →
      ∃ fd : FuncData, (∀ (s : Shared) (u : Value), BindsTo s fd ⟨[u], []⟩ [("script", u)]) ∧ ∀ base : Heap, (K w.params).In base → base.Ns mainGlobals mg → FnOk l.prog w (K w.params) mg base CX0 43 fa fd ["script"] (spLaw (K w.params))) :
    PySem.W.WalkO q loose XP YP l.row.toRowW d [] (fun f vs => PySem.call f vs) :=
  L2.walk_of (n := 63) (k := 43) (x := "script") (CX := fun _ => CX0) (sp := fun w => spLaw (K w.params)) hn (by decide) hdf hq ⟨rfl, by decide, by decide⟩ hY F (fun _ _ a ns hl hbt _ hS => ⟨a, ns, rfl, hS, hl, fun _ => rfl⟩) fun _ _ _ _ _ z => z
end Bw
open PySem PySem.W PyProof.Rows
set_option maxRecDepth 100000 in
set_option maxHeartbeats 0 in
theorem PySem.Challenge.cw_bellwrite_k61_rung_holds : PySem.Challenge.rw_bellwrite_k61_rung.Holds := by
  w_on; o_law; k_head; (case hw => w_witness2)
  k_fill
  refine Bw.walk (l := PySem.Challenge.rw_bellwrite_k61_rung) rfl rfl (by decide +kernel) (fun w h Y => PySem.W.kIn_of Y) ?F
  case F =>
    intro w mg fa h KX G hmg
    refine' Bw.all_mk (l := PySem.Challenge.rw_bellwrite_k61_rung) rfl KX G hmg ?a0 ?l0 ?c0 ?k0 ?a1 ?l1 ?c1 ?k1 ?a2 ?l2 ?c2 ?k2 ?a3 ?l3 ?c3 ?k3 ?a4 ?l4 ?c4 ?k4 ?a5 ?l5 ?c5 ?k5 ?a6 ?l6 ?c6 ?k6 ?a7 ?l7 ?c7 ?k7 ?a8 ?l8 ?c8 ?k8 ?a9 ?l9 ?c9 ?k9 ?a10 ?l10 ?c10 ?k10 ?a11 ?l11 ?c11 ?k11 ?a12 ?l12 ?c12 ?k12 ?a13 ?l13 ?c13 ?k13 ?a14 ?l14 ?c14 ?k14 ?a15 ?l15 ?c15 ?k15 ?a16 ?l16 ?c16 ?k16 ?z_range ?z_isinstance ?z_int ?z_bool ?z_len ?z_list ?z_min ?z_enumerate ?z_sorted ?z_set ?z_all ?z_ValueError ?m_BellError ?m_NoRow ?m_TooGreat
    (case a0 => k_is)
    (case l0 => k_is)
    (case c0 => k_is)
    (case k0 => k_is)
    (case a1 => k_is)
    (case l1 => k_is)
    (case c1 => k_is)
    (case k1 => k_is)
    (case a2 => k_is)
    (case l2 => k_is)
    (case c2 => k_is)
    (case k2 => k_is)
    (case a3 => k_is)
    (case l3 => k_is)
    (case c3 => k_is)
    (case k3 => k_is)
    (case a4 => k_is)
    (case l4 => k_is)
    (case c4 => k_is)
    (case k4 => k_is)
    (case a5 => k_is)
    (case l5 => k_is)
    (case c5 => k_is)
    (case k5 => k_is)
    (case a6 => k_is)
    (case l6 => k_is)
    (case c6 => k_is)
    (case k6 => k_is)
    (case a7 => k_is)
    (case l7 => k_is)
    (case c7 => k_is)
    (case k7 => k_is)
    (case a8 => k_is)
    (case l8 => k_is)
    (case c8 => k_is)
    (case k8 => k_is)
    (case a9 => k_is)
    (case l9 => k_is)
    (case c9 => k_is)
    (case k9 => k_is)
    (case a10 => k_is)
    (case l10 => k_is)
    (case c10 => k_is)
    (case k10 => k_is)
    (case a11 => k_is)
    (case l11 => k_is)
    (case c11 => k_is)
    (case k11 => k_is)
    (case a12 => k_is)
    (case l12 => k_is)
    (case c12 => k_is)
    (case k12 => k_is)
    (case a13 => k_is)
    (case l13 => k_is)
    (case c13 => k_is)
    (case k13 => k_is)
    (case a14 => k_is)
    (case l14 => k_is)
    (case c14 => k_is)
    (case k14 => k_is)
    (case a15 => k_is)
    (case l15 => k_is)
    (case c15 => k_is)
    (case k15 => k_is)
    (case a16 => k_is)
    (case l16 => k_is)
    (case c16 => k_is)
    (case k16 => k_is)
    (case z_range => k_is)
    (case z_isinstance => k_is)
    (case z_int => k_is)
    (case z_bool => k_is)
    (case z_len => k_is)
    (case z_list => k_is)
    (case z_min => k_is)
    (case z_enumerate => k_is)
    (case z_sorted => k_is)
    (case z_set => k_is)
    (case z_all => k_is)
    (case z_ValueError => k_is)
    (case m_BellError => k_is)
    (case m_NoRow => k_is)
    (case m_TooGreat => k_is)