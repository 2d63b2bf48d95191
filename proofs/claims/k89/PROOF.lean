import PyProof.Rows.All
import Wide.All
import OpenK.AllK
import Wide.FinOn
import Lean
import PyProof.EqAt
import PyProof.EqKinds
import PyProof.TupleCall
import KE.IntBitsLaws
import PySem.Challenge.RW_bellwrite_k89_peals_alike_and_crowds
set_option Elab.async false
set_option linter.all false
set_option maxRecDepth 100000
set_option maxHeartbeats 4000000
namespace L2
open PySem PySem.Spec PyProof.Rows
abbrev Key := Sum Int Str
def keyIs : Key → Value → Bool
  | .inl k, v => Value.isInt k v
  | .inr x, v => Value.isStrOf x v
def keyH (w : World) : Key → Int
  | .inl k => hashInt k
  | .inr x => hashStr w x
theorem keyIs_shape : ∀ {k : Key} {v : Value}, keyIs k v = true → (∃ i t, k = Sum.inl i ∧ v = Value.int i t) ∨ (∃ x t, k = Sum.inr x ∧ v = Value.str x t)
  | .inl i, v, h => by
    obtain ⟨t, e⟩ := Value.isInt_shape (k := i) (v := v) h
    exact .inl ⟨i, t, rfl, e⟩
  | .inr x, v, h => by
    obtain ⟨t, e⟩ := Value.isStrOf_shape (x := x) (v := v) h
    exact .inr ⟨x, t, rfl, e⟩
theorem key_ll (a b : Int) : decide ((Sum.inl a : Key) = Sum.inl b) = (a == b) := by
  by_cases e : a = b
  · subst e; simp
  · have h : ¬ (Sum.inl a : Key) = Sum.inl b := fun q => e (Sum.inl.inj q)
    rw [decide_eq_false h]
    exact (beq_eq_false_iff_ne.mpr e).symm
theorem key_rr (a b : Str) : decide ((Sum.inr a : Key) = Sum.inr b) = decide (a = b) := by
  by_cases e : a = b
  · subst e; simp
  · have h : ¬ (Sum.inr a : Key) = Sum.inr b := fun q => e (Sum.inr.inj q)
    rw [decide_eq_false h, decide_eq_false e]
theorem key_lr (a : Int) (b : Str) : decide ((Sum.inl a : Key) = Sum.inr b) = false := decide_eq_false (fun q => nomatch q)
theorem key_rl (a : Str) (b : Int) : decide ((Sum.inr a : Key) = Sum.inl b) = false := decide_eq_false (fun q => nomatch q)
def mixKind (prog : Program) (w : World) : PySem.KeyKind prog w Key where
  is := keyIs
  hash := keyH w
  inj := fun v a b ha hb => by
    rcases keyIs_shape ha with ⟨i, t, rfl, rfl⟩ | ⟨x, t, rfl, rfl⟩
    · rcases keyIs_shape hb with ⟨j, u, rfl, e⟩ | ⟨y, u, rfl, e⟩
      · injection e with e1 _; rw [e1]
      · exact nomatch e
    · rcases keyIs_shape hb with ⟨j, u, rfl, e⟩ | ⟨y, u, rfl, e⟩
      · exact nomatch e
      · injection e with e1 _; rw [e1]
  byValue := fun k v h => by
    rcases keyIs_shape h with ⟨i, t, rfl, rfl⟩ | ⟨x, t, rfl, rfl⟩ <;> rfl
  pyHash := fun hv h => by
    rcases keyIs_shape hv with ⟨i, t, rfl, rfl⟩ | ⟨x, t, rfl, rfl⟩
    · exact wpAny_pyHash_int h
    · exact wpAny_pyHash_str h
  eqBool := fun hu hv h => by
    rcases keyIs_shape hu with ⟨i, t, rfl, rfl⟩ | ⟨x, t, rfl, rfl⟩
    · rcases keyIs_shape hv with ⟨j, u, rfl, rfl⟩ | ⟨y, u, rfl, rfl⟩
      · rw [key_ll] at h; exact wpAny_eqBool_int h
      · rw [key_lr] at h; exact SeqAt.EqAt.int_str i t y u _ _ _ _ h
    · rcases keyIs_shape hv with ⟨j, u, rfl, rfl⟩ | ⟨y, u, rfl, rfl⟩
      · rw [key_rl] at h; exact SeqAt.EqAt.str_int x t j u _ _ _ _ h
      · rw [key_rr] at h; exact wpAny_eqBool_str h
  «strs» := fun k x t v h => by
    rcases keyIs_shape h with ⟨i, u, rfl, e⟩ | ⟨y, u, rfl, e⟩
    · exact nomatch e
    · injection e with e1 _
      subst e1
      cases v <;> rfl
end L2
namespace L2
open PySem PySem.Spec PyProof.Rows
inductive V where
  | non | bl (b : Bool) | int (i : Int) | str (x : Str) | byt (b : Array UInt8) | flt (b : UInt64) | ref (a : Addr) | ty (n : String)
  deriving DecidableEq
def RelV : V → Value → Prop
  | .non, u => u = Value.none
  | .bl b, u => u = Value.bool b
  | .int i, u => ∃ t, u = Value.int i t
  | .str x, u => ∃ t, u = Value.str x t
  | .byt b, u => ∃ t, u = Value.bytes b t
  | .flt b, u => ∃ t, u = Value.float b t
  | .ref a, u => u = Value.ref a
  | .ty n, u => u = Value.type n
abbrev Vals : List V → List Value → Prop := Paired RelV
theorem Vals.length {xs : List V} {us : List Value} (r : Vals xs us) : xs.length = us.length := Paired.length r
theorem Vals.get : ∀ {xs : List V} {us : List Value} {i : Nat} {x : V}, Vals xs us → xs[i]? = some x → ∃ u, us[i]? = some u ∧ RelV x u
  | _, _, _, _, .nil, e => by simp at e
  | _, _, 0, _, .cons r _, e => by simp at e; subst e; exact ⟨_, rfl, r⟩
  | _, _, i + 1, x, .cons _ t, e => by
    obtain ⟨u, h1, h2⟩ := Vals.get (i := i) (x := x) t (by simpa using e)
    exact ⟨u, by simpa using h1, h2⟩
theorem Vals.set {x : V} {u : Value} (r : RelV x u) : ∀ {xs : List V} {us : List Value} (i : Nat), Vals xs us → Vals (xs.set i x) (us.set i u)
  | _, _, _, .nil => .nil
  | _, _, 0, .cons _ t => .cons r t
  | _, _, i + 1, .cons q t => .cons q (Vals.set r i t)
theorem Vals.append : ∀ {xs ys : List V} {us ws : List Value}, Vals xs us → Vals ys ws → Vals (xs ++ ys) (us ++ ws)
  | _, _, _, _, .nil, s => s
  | _, _, _, _, .cons r t, s => .cons r (Vals.append t s)
theorem Vals.take : ∀ {xs : List V} {us : List Value} (n : Nat), Vals xs us → Vals (xs.take n) (us.take n)
  | _, _, 0, _ => .nil
  | _, _, _ + 1, .nil => .nil
  | _, _, n + 1, .cons r t => .cons r (Vals.take n t)
theorem Vals.drop : ∀ {xs : List V} {us : List Value} (n : Nat), Vals xs us → Vals (xs.drop n) (us.drop n)
  | _, _, 0, r => r
  | _, _, _ + 1, .nil => .nil
  | _, _, n + 1, .cons _ t => Vals.drop n t
theorem Vals.none_of : ∀ {xs : List V} {us : List Value} {i : Nat}, Vals xs us → xs[i]? = none → us[i]? = none := fun {xs us i} r e => by
  have h1 := r.length
  have h2 : xs.length ≤ i := List.getElem?_eq_none_iff.mp e
  exact List.getElem?_eq_none_iff.mpr (by omega)
def RelO : Option V → Option Value → Prop
  | some v, some u => RelV v u
  | none, none => True
  | _, _ => False
def KV {κ : Type} : List (κ × V) → List (κ × Value) → Prop := Paired fun (p : κ × V) (q : κ × Value) => p.1 = q.1 ∧ RelV p.2 q.2
def kV : Key → V
  | .inl i => .int i
  | .inr x => .str x
inductive HO where
  | lst (xs : List V)
  | tup (xs : List V)
  | dK (kvs : List (Key × V)) | dT (kvs : List (List Key × V))
  | set (S : Int → Bool) (n : Nat)
  | ins (C dx : Addr) (fs : List (Str × V))
  | own (x : Addr)
  | xd (fs : List (Str × V))
  | met (f x : Addr)
  | rng (lo hi : Int)
  | frz (o : Obj) (u : HO)
  | tbl (ps : Array Value)
  | ext (φ : Heap → Prop)
abbrev Hp := Addr → Option HO
def upd (H : Hp) (a : Addr) (o : HO) : Hp := fun b => if b = a then some o else H b
theorem upd_same {H : Hp} {a : Addr} {o : HO} : upd H a o a = some o := by unfold upd; rw [if_pos rfl]
theorem upd_ne {H : Hp} {a b : Addr} {o : HO} (h : b ≠ a) : upd H a o b = H b := by unfold upd; rw [if_neg h]
theorem upd_upd {H : Hp} {a : Addr} {o u : HO} : upd (upd H a o) a u = upd H a u := by
  funext b; unfold upd; split <;> rfl
theorem ne_of_none {H : Hp} {a b : Addr} {o : HO} (h : H a = some o) (h' : H b = none) : a ≠ b := by
  intro e; subst e; rw [h] at h'; cases h'
section
variable (P : Program) (w : World)
def ObjOk (H : Hp) (h : Heap) (a : Addr) : HO → Prop
  | .lst xs => xs.length ≤ sizeLine ∧ ∃ (its : List Value) (n : Nat), Vals xs its ∧ h.get? a = some { cls := .type "list", data := .seq its.toArray n }
  | .tup xs => xs.length ≤ sizeLine ∧ ∃ its : List Value, Vals xs its ∧ IsTup h a its.toArray
  | .dK kvs => kvs.length ≤ sizeLine ∧ (a == sysModules) = false ∧ ∃ vs, KV kvs vs ∧ h.DictOf (mixKind P w) a vs
  | .dT kvs => kvs.length ≤ sizeLine ∧ (a == sysModules) = false ∧ ∃ xs : List (List Key × Addr × Value),
      Paired (fun (p : List Key × V) (q : List Key × Addr × Value) => p.1 = q.1 ∧ H q.2.1 = some (.tup (p.1.map kV)) ∧ RelV p.2 q.2.2) kvs xs ∧
      ∃ o es ep, h.get? a = some o ∧ o.ExactDict ∧ o.data = .dict es ep ∧ es.toList = xs.map (entryOfKey (tupleKind (mixKind P w))) ∧ (xs.map (·.1)).Nodup
  | .set S n => h.SetOf (intKind P w) a S n
  | .ins C dx fs => H dx = some (.own a) ∧ fs.length ≤ 1000 ∧ dx ≠ a ∧ h.get? a = some (PySem.W.instObj C dx) ∧
      ∃ mA, h.Ns1 dx mA ∧ (∀ f, RelO (fs.lookup f) (mA f)) ∧ PySem.Within mA (fs.map (·.1))
  | .own _ => ∃ o, h.get? a = some o
  | .xd fs => ∃ mA, h.Ns1 a mA ∧ ∀ f, RelO (fs.lookup f) (mA f)
  | .rng lo hi => ∃ t u v, h.get? a = some { cls := .type "range", data := .fields #[.int lo t, .int hi u, .int 1 v] }
  | .frz o u => h.get? a = some o ∧ ObjOk H h a u
  | .tbl ps => h.get? a = some { cls := .none, data := .fields ps }
  | .met f x => h.get? a = some (PySem.W.methodObj (.ref f) (.ref x))
  | .ext φ => φ h ∧ (∃ o, h.get? a = some o) ∧ ∀ h1 h2 : Heap, φ h1 → (∀ o, h1.get? a = some o → h2.get? a = some o) → φ h2
def HOk (H : Hp) (h : Heap) : Prop := ∀ a o, H a = some o → ObjOk P w H h a o
end
section
variable {P : Program} {w : World} {H H' : Hp} {h h' : Heap} {a : Addr} {o : HO}
theorem ObjOk.lt (x : ObjOk P w H h a o) : a < h.objs.size := by
  cases o with
  | lst xs => obtain ⟨_, _, _, _, e⟩ := x; exact Heap.lt_size e
  | tup xs => obtain ⟨_, _, _, p⟩ := x; exact p.lt
  | dK kvs => obtain ⟨_, _, _, _, o, _, _, e, _⟩ := x; exact Heap.lt_size e
  | dT kvs => obtain ⟨_, _, _, _, o, _, _, e, _⟩ := x; exact Heap.lt_size e
  | set S n => obtain ⟨o, _, _, _, e, _⟩ := x; exact Heap.lt_size e
  | ins C dx fs => obtain ⟨_, _, _, e, _⟩ := x; exact Heap.lt_size e
  | own y => obtain ⟨_, e⟩ := x; exact Heap.lt_size e
  | xd fs => obtain ⟨_, ⟨_, _, _, e, _⟩, _⟩ := x; exact Heap.lt_size e
  | rng lo hi => obtain ⟨_, _, _, e⟩ := x; exact Heap.lt_size e
  | frz ob u => obtain ⟨e, _⟩ := x; exact Heap.lt_size e
  | tbl ps => exact Heap.lt_size (show h.get? a = some _ from x)
  | met f y => exact Heap.lt_size (show h.get? a = some _ from x)
  | ext φ => obtain ⟨_, ⟨_, e⟩, _⟩ := x; exact Heap.lt_size e
theorem Paired.mapP {α β : Type} {F G : α → β → Prop} : ∀ {l₁ : List α} {l₂ : List β}, Paired F l₁ l₂ → (∀ a b, F a b → G a b) → Paired G l₁ l₂
  | _, _, .nil, _ => .nil
  | _, _, .cons r t, f => .cons (f _ _ r) (Paired.mapP t f)
theorem Paired.imp' {α β : Type} {F G : α → β → Prop} (f : ∀ a b, F a b → G a b) {l₁ : List α} {l₂ : List β} (r : Paired F l₁ l₂) : Paired G l₁ l₂ := Paired.mapP r f
theorem ObjOk.stay (x : ObjOk P w H h a o) (k : ∀ b u, (b = a ∨ H b = some (.own a)) → h.get? b = some u → h'.get? b = some u)
    (ho : ∀ b, H b = some (.own a) → H' b = some (.own a)) (ht : ∀ b xs, H b = some (.tup xs) → H' b = some (.tup xs)) : ObjOk P w H' h' a o := by
  induction o with
  | lst xs => obtain ⟨z, its, n, r, e⟩ := x; exact ⟨z, its, n, r, k _ _ (.inl rfl) e⟩
  | tup xs => obtain ⟨z, its, r, ob, e, c⟩ := x; exact ⟨z, its, r, ob, k _ _ (.inl rfl) e, c⟩
  | dK kvs => obtain ⟨z, y, vs, r, ob, es, ep, e, c⟩ := x; exact ⟨z, y, vs, r, ob, es, ep, k _ _ (.inl rfl) e, c⟩
  | dT kvs =>
    obtain ⟨z, y, xs, r, ob, es, ep, e, c⟩ := x
    exact ⟨z, y, xs, Paired.mapP r fun p q z => ⟨z.1, ht _ _ z.2.1, z.2.2⟩, ob, es, ep, k _ _ (.inl rfl) e, c⟩
  | set S n => obtain ⟨ob, es, ep, t, e, c⟩ := x; exact ⟨ob, es, ep, t, k _ _ (.inl rfl) e, c⟩
  | ins C dx fs =>
    obtain ⟨d, z, ne, e, mA, ⟨od, es, ep, e2, c⟩, r⟩ := x
    exact ⟨ho _ d, z, ne, k _ _ (.inl rfl) e, mA, ⟨od, es, ep, k _ _ (.inr d) e2, c⟩, r⟩
  | own y => obtain ⟨ob, e⟩ := x; exact ⟨ob, k _ _ (.inl rfl) e⟩
  | xd fs => obtain ⟨mA, ⟨od, es, ep, e, c⟩, r⟩ := x; exact ⟨mA, ⟨od, es, ep, k _ _ (.inl rfl) e, c⟩, r⟩
  | rng lo hi => obtain ⟨t, u, v, e⟩ := x; exact ⟨t, u, v, k _ _ (.inl rfl) e⟩
  | frz ob u ih => obtain ⟨e, q⟩ := x; exact ⟨k _ _ (.inl rfl) e, ih q⟩
  | tbl ps =>
    have e : h.get? a = some { cls := .none, data := .fields ps } := x
    show h'.get? a = some { cls := .none, data := .fields ps }
    exact k a _ (.inl rfl) e
  | met f y =>
    have e : h.get? a = some (PySem.W.methodObj (.ref f) (.ref y)) := x
    show h'.get? a = some (PySem.W.methodObj (.ref f) (.ref y))
    exact k a _ (.inl rfl) e
  | ext φ => obtain ⟨p, ⟨o, e⟩, st⟩ := x; exact ⟨st _ _ p fun o q => k _ _ (.inl rfl) q, ⟨o, k _ _ (.inl rfl) e⟩, st⟩
theorem HOk.lt (x : HOk P w H h) (e : H a = some o) : a < h.objs.size := (x a o e).lt
theorem HOk.fresh (x : HOk P w H h) (e : h.objs.size ≤ a) : H a = none := by
  cases q : H a with
  | none => rfl
  | some u => exact absurd (Nat.lt_of_lt_of_le (x.lt q) e) (Nat.lt_irrefl _)
theorem HOk.kept (x : HOk P w H h) (k : ∀ b u, h.get? b = some u → h'.get? b = some u) : HOk P w H h' := fun a o e =>
  (x a o e).stay (fun b u _ q => k b u q) (fun _ q => q) fun _ _ q => q
theorem HOk.laid (x : HOk P w H h) (k : ∀ b u, h.get? b = some u → h'.get? b = some u) (hp : h.objs.size ≤ a) (new : ObjOk P w (upd H a o) h' a o) : HOk P w (upd H a o) h' := fun b u e => by
  have hn := x.fresh hp
  by_cases hb : b = a
  · subst hb; rw [upd_same] at e; cases e; exact new
  · rw [upd_ne hb] at e
    exact (x b u e).stay (fun c v _ q => k c v q) (fun c q => by rw [upd_ne (ne_of_none q hn)]; exact q) fun c xs q => by rw [upd_ne (ne_of_none q hn)]; exact q
end
def Rd (H : Hp) (a : Addr) (u : HO) : Prop := H a = some u ∨ ∃ o, H a = some (.frz o u)
theorem Rd.of {H : Hp} {a : Addr} {u : HO} (h : H a = some u) : Rd H a u := .inl h
theorem Rd.ok {P : Program} {w : World} {H : Hp} {h : Heap} {a : Addr} {u : HO} (r : Rd H a u) (x : HOk P w H h) : ObjOk P w H h a u := by
  rcases r with r | ⟨o, r⟩
  · exact x a u r
  · obtain ⟨_, q⟩ := x a _ r
    exact q
def Mut : Option HO → Prop
  | some (.lst _) => True
  | some (.dK _) => True
  | some (.dT _) => True
  | some (.set _ _) => True
  | some (.ins _ _ _) => True
  | some (.ext _) => True
  | _ => False
section
variable {P : Program} {w : World} {H : Hp} {h h' : Heap} {x e : Addr} {o' : HO}
theorem HOk.write (ok : HOk P w H h) (mu : Mut (H x)) (he : e = x ∨ H e = some (.own x)) (k : ∀ b u, b ≠ e → h.get? b = some u → h'.get? b = some u) (heo : ∃ u, h'.get? e = some u)
    (new : ObjOk P w (upd H x o') h' x o') : HOk P w (upd H x o') h' := fun b u q => by
  have nown : ∀ c y, H c = some (.own y) → c ≠ x := fun c y r z => by subst z; rw [r] at mu; exact mu
  have ntup : ∀ c xs, H c = some (.tup xs) → c ≠ x := fun c xs r z => by subst z; rw [r] at mu; exact mu
  by_cases hb : b = x
  · subst hb; rw [upd_same] at q; cases q; exact new
  · rw [upd_ne hb] at q
    by_cases hbe : b = e
    · have q' : H b = some (.own x) := by
        rcases he with z | z
        · exact absurd (hbe.trans z) hb
        · rw [hbe]; exact z
      rw [q] at q'; cases q'
      obtain ⟨v, hv⟩ := heo
      exact ⟨v, by rw [hbe]; exact hv⟩
    · refine (ok b u q).stay (fun c v hc r => k c v ?_ r) (fun c r => by rw [upd_ne (nown c b r)]; exact r) fun c xs r => by rw [upd_ne (ntup c xs r)]; exact r
      rcases hc with rfl | hc
      · exact hbe
      · rintro rfl
        rcases he with z | z
        · exact nown c b hc z
        · rw [hc] at z; cases z; exact hb rfl
end
structure Un (fs ex : List Addr) (H H' : Hp) (h h' : Heap) : Prop where
  keep : ∀ b o, h.get? b = some o → H b = none → b ∉ fs → b ∉ ex → h'.get? b = some o
  slot : ∀ b o, h.get? b = some o → H b = none → b ∈ fs → b ∉ ex → ∃ sl, h'.get? b = some { o with slots := sl }
  free : ∀ b o, h.get? b = some o → H b = none → b ∉ ex → H' b = none
  there : ∀ b o, h.get? b = some o → b ∉ ex → ∃ o', h'.get? b = some o'
  tups : ∀ b xs, H b = some (.tup xs) → H' b = some (.tup xs)
  frzs : ∀ b o u, H b = some (.frz o u) → H' b = some (.frz o u)
  tbls : ∀ b ps, H b = some (.tbl ps) → ∃ more, H' b = some (.tbl (ps ++ more))
section
variable {fs fs' ex ex' : List Addr} {H H1 H2 : Hp} {h h1 h2 h' : Heap} {a x e : Addr} {o : HO}
theorem Un.any (u : Un fs ex H H1 h h1) {b : Addr} {ob : Obj} (q : h.get? b = some ob) (n : H b = none) (hx : b ∉ ex) : ∃ sl, h1.get? b = some { ob with slots := sl } := by
  by_cases hb : b ∈ fs
  · exact u.slot b ob q n hb hx
  · exact ⟨ob.slots, u.keep b ob q n hb hx⟩
theorem Un.trans (a : Un fs ex H H1 h h1) (b : Un fs ex H1 H2 h1 h2) : Un fs ex H H2 h h2 where
  keep := fun c ob q n hc hx => b.keep c ob (a.keep c ob q n hc hx) (a.free c ob q n hx) hc hx
  slot := fun c ob q n hc hx => by
    obtain ⟨sl, e1⟩ := a.slot c ob q n hc hx
    obtain ⟨sl', e2⟩ := b.slot c _ e1 (a.free c ob q n hx) hc hx
    exact ⟨sl', e2⟩
  free := fun c ob q n hx => by
    obtain ⟨o', e1⟩ := a.there c ob q hx
    exact b.free c o' e1 (a.free c ob q n hx) hx
  there := fun c ob q hx => by
    obtain ⟨o', e1⟩ := a.there c ob q hx
    exact b.there c o' e1 hx
  tups := fun c xs q => b.tups c xs (a.tups c xs q)
  frzs := fun c ob xs q => b.frzs c ob xs (a.frzs c ob xs q)
  tbls := fun c ps q => by
    obtain ⟨m1, e1⟩ := a.tbls c ps q
    obtain ⟨m2, e2⟩ := b.tbls c _ e1
    exact ⟨m1 ++ m2, by rw [e2, Array.append_assoc]⟩
theorem Un.kept (k : ∀ b u, h.get? b = some u → h'.get? b = some u) : Un fs ex H H h h' :=
  ⟨fun b ob q _ _ _ => k b ob q, fun b ob q _ _ _ => ⟨ob.slots, k b ob q⟩, fun _ _ _ n _ => n, fun b ob q _ => ⟨ob, k b ob q⟩, fun _ _ q => q, fun _ _ _ q => q, fun _ ps q => ⟨#[], by rw [q]; simp⟩⟩
theorem Un.refl : Un fs ex H H h h := Un.kept fun _ _ q => q
theorem Un.laid (k : ∀ b u, h.get? b = some u → h'.get? b = some u) (hp : h.objs.size ≤ a) (hn : H a = none) : Un fs ex H (upd H a o) h h' where
  keep := fun b u q _ _ _ => k b u q
  slot := fun b u q _ _ _ => ⟨u.slots, k b u q⟩
  free := fun b u q n _ => by rw [upd_ne (Nat.ne_of_lt (Nat.lt_of_lt_of_le (Heap.lt_size q) hp))]; exact n
  there := fun b u q _ => ⟨u, k b u q⟩
  tups := fun b xs q => by rw [upd_ne (ne_of_none q hn)]; exact q
  frzs := fun b u xs q => by rw [upd_ne (ne_of_none q hn)]; exact q
  tbls := fun b ps q => ⟨#[], by rw [upd_ne (ne_of_none q hn), q]; simp⟩
theorem Un.write (mu : Mut (H x)) (he : e = x ∨ H e = some (.own x)) (k : ∀ b u, b ≠ e → h.get? b = some u → h'.get? b = some u) (heo : ∃ u, h'.get? e = some u) : Un fs ex H (upd H x o) h h' := by
  have hx : ∀ b, H b = none → b ≠ x := fun b n z => by subst z; rw [n] at mu; exact mu
  have hb : ∀ b, H b = none → b ≠ e := fun b n z => by
    subst z
    rcases he with r | r
    · exact hx b n r
    · rw [n] at r; cases r
  have hm : ∀ b u, H b = some u → ¬ Mut (some u) → b ≠ x := fun b u q nm z => by subst z; rw [q] at mu; exact nm mu
  refine ⟨fun b u q n _ _ => k b u (hb b n) q, fun b u q n _ _ => ⟨u.slots, k b u (hb b n) q⟩, fun b u q n _ => by rw [upd_ne (hx b n)]; exact n, fun b u q _ => ?_,
    fun b xs q => by rw [upd_ne (hm b _ q fun z => z)]; exact q, fun b u xs q => by rw [upd_ne (hm b _ q fun z => z)]; exact q, fun b ps q => ⟨#[], by rw [upd_ne (hm b _ q fun z => z), q]; simp⟩⟩
  by_cases hbe : b = e
  · subst hbe; exact heo
  · exact ⟨u, k b u hbe q⟩
theorem Un.mono (u : Un fs ex H H1 h h1) (hs : ∀ b ∈ fs, b ∈ fs') (hx : ∀ b ∈ ex, b ∈ ex') : Un fs' ex' H H1 h h1 :=
  ⟨fun b ob q n hb he => u.keep b ob q n (fun z => hb (hs b z)) fun z => he (hx b z), fun _ _ q n _ he => u.any q n fun z => he (hx _ z), fun b ob q n he => u.free b ob q n fun z => he (hx b z), fun b ob q he => u.there b ob q fun z => he (hx b z), u.tups, u.frzs, u.tbls⟩
end
def trk (h : Heap) (H : Hp) : List Addr := (List.range h.objs.size).filter fun a => (H a).isSome
def hidT (h : Heap) (H : Hp) : Heap := PySem.W.hideAll h (trk h H)
theorem hidT_size (h : Heap) (H : Hp) : (hidT h H).objs.size = h.objs.size := PySem.W.hideAll_size _ _
theorem hidT_get {h : Heap} {H : Hp} {b : Addr} {o : Obj} (e : h.get? b = some o) (n : H b = none) : (hidT h H).get? b = some o :=
  PySem.W.hideAll_get _ e fun hm => by
    have q : (H b).isSome = true := (List.mem_filter.mp hm).2
    rw [n] at q; simp at q
theorem of_hidT {h : Heap} {H : Hp} {b : Addr} {o : Obj} (e : (hidT h H).get? b = some o) : h.get? b = some o ∧ H b = none := by
  have e' : h.get? b = some o := PySem.W.of_hideAll (trk h H) e
  refine ⟨e', ?_⟩
  cases q : H b with
  | none => rfl
  | some x =>
    have hm : b ∈ trk h H := List.mem_filter.mpr ⟨List.mem_range.mpr (Heap.lt_size e'), by simp [q]⟩
    have z : (hidT h H).get? b = none := PySem.W.hideAll_none (trk h H) hm
    rw [z] at e; cases e
def allNews (g h : Heap) (L : Addr) : List (Addr × Obj) := (List.range h.objs.size).filterMap fun a => if a = L ∨ (g.get? a).isSome = true then none else (h.get? a).map fun o => (a, o)
def rest (g h : Heap) (L d : Addr) : List (Addr × Obj) := (allNews g h L).filter fun p => decide (p.1 ≠ d)
end L2
namespace L2
open PySem PySem.Spec PyProof.Rows
structure Mod (K : PySem.W.Frag) (mg : Str → Option Value) (base : Heap) : Prop where
  kin : K.In base
  glob : base.Ns mainGlobals mg
  blt : ∃ mb, base.Ns builtinsNs mb ∧ ∀ x : Str, x ≠ "__name__" → mb x = bootBuiltins x
  nolimit : base.NoLimit
  seer : base.NoSeer
structure Cx where
  prog : Program
  w : World
  K : PySem.W.Frag
  mg : Str → Option Value
  base : Heap
  A : Around
  N : List Str
  s₀ : Shared
  H₀ : Hp
  env : Env
  outer : List Env
  stack : List Env
  ex : List Addr
  fn : Str → Bool
  calm : Bool
  pn : List (Addr × Obj)
  xe : Value → Shared → Prop
def frs (l : List Env) : List Addr := l.filterMap (·.frame)
abbrev Cx.fs (X : Cx) : List Addr := frs X.outer
def Vis (sc : Scope) (x : Str) : Prop := sc.names.lookup x = some .local ∨ sc.names.lookup x = some .cell ∨ sc.names.lookup x = some .free
def Loc (sc : Scope) (x : Str) : Prop := sc.names.lookup x = some .local ∨ sc.names.lookup x = some .cell
def Look (env : Env) (h : Heap) (m : Str → Option Value) (x : Str) (u : Value) : Prop :=
  (env.kindOf x = some .local ∧ m x = some u) ∨ ((env.kindOf x = some .cell ∨ env.kindOf x = some .free) ∧ ∃ c, env.cells.lookup x = some c ∧ h.IsCell c (some u))
structure Cx.Ok (X : Cx) : Prop where
  mod : Mod X.K X.mg X.base
  kind : X.env.scope.kind = .function
  glob : X.env.globals = mainGlobals
  blt : X.env.builtins = builtinsNs
  above : X.s₀.heap.objs.size ≤ X.env.locals
  inj : ∀ x y c, X.env.cells.lookup x = some c → X.env.cells.lookup y = some c → x = y
  has : ∀ x, (X.env.kindOf x = some .cell ∨ X.env.kindOf x = some .free) → ∃ c, X.env.cells.lookup x = some c
  cab : ∀ x c, X.fn x = true → X.env.cells.lookup x = some c → X.s₀.heap.objs.size ≤ c
  hd : X.calm = true → X.A.handled = none
  frames : X.A.frames = some X.stack
  stk : X.stack = X.outer ∨ (X.stack = X.env :: X.outer ∧ X.env.frame = some X.env.locals)
  exf : ∀ b ∈ X.ex, b ≠ X.env.locals ∧ ∀ x c, X.env.cells.lookup x = some c → c ≠ b
  bs : ∀ b o, X.base.get? b = some o → X.s₀.heap.get? b = some o ∧ X.H₀ b = none
  bsz : X.base.objs.size ≤ X.s₀.heap.objs.size
  noex : ∀ b o, X.base.get? b = some o → b ∉ X.ex
  exfs : ∀ b ∈ X.ex, b ∉ X.fs
  funs : X.s₀.heap.FunFrames X.base X.outer
  frf : ∀ b ∈ X.fs, X.H₀ b = none
structure Inv (X : Cx) (pins : List (Addr × Obj)) (σ : List (Option V)) (H : Hp) (s : Shared) : Prop where
  ok : X.Ok
  os : s.os = X.s₀.os
  bare : AllBare s.gens
  base : Un X.fs X.ex X.H₀ H X.s₀.heap s.heap
  loc : ∃ m, s.heap.Ns X.env.locals m ∧ ∀ (i : Nat) (x : Str) (v : V), X.N[i]? = some x → σ[i]? = some (some v) → Vis X.env.scope x → ∃ u, RelV v u ∧ Look X.env s.heap m x u
  cell : ∀ x c, X.env.cells.lookup x = some c → ∃ v, s.heap.IsCell c v
  free : H X.env.locals = none
  freeC : ∀ x c, X.env.cells.lookup x = some c → H c = none
  pin : ∀ p ∈ X.pn ++ pins, s.heap.get? p.1 = some p.2 ∧ H p.1 = none ∧ p.1 ≠ X.env.locals ∧ p.1 ∉ X.fs ∧ ∀ v, p.2.data ≠ .cell v
  hok : HOk X.prog X.w H s.heap
  len : σ.length = X.N.length
section
variable {X : Cx} {pins : List (Addr × Obj)} {σ : List (Option V)} {H H' : Hp} {s : Shared} {h' : Heap}
theorem Cx.Ok.nofr (ok : X.Ok) {b : Addr} {o : Obj} (e : X.base.get? b = some o) : b ∉ X.fs := fun hb => by
  have := (ok.funs.mem hb).1
  rw [e] at this; cases this
theorem Inv.bs (I : Inv X pins σ H s) : ∀ b o, X.base.get? b = some o → s.heap.get? b = some o ∧ H b = none := fun b o e =>
  ⟨I.base.keep b o (I.ok.bs b o e).1 (I.ok.bs b o e).2 (I.ok.nofr e) (I.ok.noex b o e), I.base.free b o (I.ok.bs b o e).1 (I.ok.bs b o e).2 (I.ok.noex b o e)⟩
theorem Inv.bk (I : Inv X pins σ H s) : ∀ b o, X.base.get? b = some o → s.heap.get? b = some o := fun b o e => (I.bs b o e).1
theorem Inv.mod (I : Inv X pins σ H s) : Mod X.K X.mg X.base := I.ok.mod
theorem Inv.kIn (I : Inv X pins σ H s) : X.K.In s.heap := I.ok.mod.kin.keeps I.bk
theorem Inv.nolimit (I : Inv X pins σ H s) : s.heap.NoLimit := I.ok.mod.nolimit.keeps I.bk
theorem Inv.fr (I : Inv X pins σ H s) : ∃ m, Fr X.base X.env.locals s.heap m :=
  let ⟨m, hn, _⟩ := I.loc
  ⟨m, hn, I.bk, Nat.le_trans I.ok.bsz I.ok.above⟩
theorem Inv.lt (I : Inv X pins σ H s) : X.env.locals < s.heap.objs.size := let ⟨_, hn, _⟩ := I.loc; hn.lt
theorem Inv.sz (I : Inv X pins σ H s) : X.s₀.heap.objs.size ≤ s.heap.objs.size := Nat.le_trans I.ok.above (Nat.le_of_lt I.lt)
theorem Inv.nofs (I : Inv X pins σ H s) {a : Addr} (h : s.heap.objs.size ≤ a) : a ∉ X.fs := fun hb => by
  obtain ⟨_, o, ho, _⟩ := I.ok.funs.mem hb
  exact absurd (Nat.lt_of_lt_of_le (Heap.lt_size ho) (Nat.le_trans I.sz h)) (Nat.lt_irrefl _)
theorem Inv.cne (I : Inv X pins σ H s) : ∀ x c, X.env.cells.lookup x = some c → c ≠ X.env.locals := fun x c e z => by
  obtain ⟨v, o, ho, hd⟩ := I.cell x c e
  obtain ⟨m, ⟨o', es, ep, ho', hd', _⟩, _⟩ := I.loc
  rw [z, ho'] at ho; cases ho; rw [hd'] at hd; cases hd
theorem Inv.funs (I : Inv X pins σ H s) : s.heap.FunFrames X.base X.outer := by
  have all : ∀ (l : List Env), (∀ b ∈ frs l, b ∈ X.fs) → X.s₀.heap.FunFrames X.base l → s.heap.FunFrames X.base l := by
    intro l
    induction l with
    | nil => intro _ _; trivial
    | cons env r ih =>
      intro hs hl
      obtain ⟨hk, ⟨L, o, hf, hn, ho, hd⟩, hr⟩ := hl
      have hL : L ∈ X.fs := hs L (by unfold frs; rw [List.filterMap_cons, hf]; exact List.mem_cons_self)
      obtain ⟨sl, e⟩ := I.base.slot L o ho (I.ok.frf L hL) hL fun z => I.ok.exfs L z hL
      exact ⟨hk, ⟨L, _, hf, hn, e, hd⟩, ih (fun b hb => hs b (by unfold frs; rw [List.filterMap_cons, hf]; exact List.mem_cons_of_mem _ hb)) hr⟩
  exact all X.outer (fun _ hb => hb) I.ok.funs
theorem Inv.stack (I : Inv X pins σ H s) : s.heap.FunFrames X.base X.stack := by
  rcases I.ok.stk with e | ⟨e, hf⟩
  · rw [e]; exact I.funs
  · rw [e]
    obtain ⟨m, hn, _⟩ := I.loc
    refine .cons (by rw [I.ok.kind]; decide) hf hn ?_ I.funs
    exact Heap.get?_none_of_le (Nat.le_trans I.ok.bsz I.ok.above)
theorem Inv.stkSub (I : Inv X pins σ H s) : ∀ b ∈ frs X.stack, b ∈ X.env.locals :: X.fs := fun b hb => by
  rcases I.ok.stk with e | ⟨e, hf⟩
  · rw [e] at hb; exact List.mem_cons_of_mem _ hb
  · rw [e] at hb
    unfold frs at hb
    rw [List.filterMap_cons, hf] at hb
    exact hb
theorem Inv.stkFree (I : Inv X pins σ H s) : ∀ b ∈ frs X.stack, H b = none := fun b hb => by
  rcases List.mem_cons.mp (I.stkSub b hb) with e | hb
  · rw [e]; exact I.free
  · obtain ⟨_, o, ho, _⟩ := I.ok.funs.mem hb
    exact I.base.free b o ho (I.ok.frf b hb) fun z => I.ok.exfs b z hb
theorem Inv.step {g' : Array GenState} {t' : Nat} {d' : Drawn} {ch : List Addr} (I : Inv X pins σ H s)
    (hch : ∀ b ∈ ch, (b ∈ X.ex ∨ X.s₀.heap.objs.size ≤ b) ∧ b ≠ X.env.locals ∧ (∀ x c, X.env.cells.lookup x = some c → c ≠ b) ∧ ∀ p ∈ X.pn ++ pins, p.1 ≠ b)
    (keep : ∀ b o, b ≠ X.env.locals → b ∉ X.fs → b ∉ ch → s.heap.get? b = some o → H b = none → h'.get? b = some o)
    (slot : ∀ b o, b ≠ X.env.locals → b ∈ X.fs → b ∉ ch → s.heap.get? b = some o → H b = none → ∃ sl, h'.get? b = some { o with slots := sl }) (free : ∀ b o, b ∉ ch → s.heap.get? b = some o → H b = none → H' b = none)
    (there : ∀ b o, b ∉ ch → s.heap.get? b = some o → ∃ o', h'.get? b = some o')
    (tups : ∀ b xs, H b = some (.tup xs) → H' b = some (.tup xs)) (frzs : ∀ b o u, H b = some (.frz o u) → H' b = some (.frz o u)) (tbls : ∀ b ps, H b = some (.tbl ps) → ∃ more, H' b = some (.tbl (ps ++ more)))
    (ns : ∀ m, s.heap.Ns X.env.locals m → h'.Ns X.env.locals m) (hok : HOk X.prog X.w H' h') (hg : AllBare g') :
    Inv X pins σ H' { s with heap := h', gens := g', drawn := d', toks := t' } := by
  have neL : ∀ b o, X.s₀.heap.get? b = some o → b ≠ X.env.locals := fun b o e => Nat.ne_of_lt (Nat.lt_of_lt_of_le (Heap.lt_size e) I.ok.above)
  have neC : ∀ b o, X.s₀.heap.get? b = some o → b ∉ X.ex → b ∉ ch := fun b o e hx hb => by
    rcases (hch b hb).1 with z | z
    · exact hx z
    · exact absurd (Nat.lt_of_lt_of_le (Heap.lt_size e) z) (Nat.lt_irrefl _)
  have cellK : ∀ x c, X.env.cells.lookup x = some c → ∀ v, s.heap.IsCell c v → h'.IsCell c v := fun x c e v ⟨o, ho, hd⟩ => by
    have nch : c ∉ ch := fun z => (hch c z).2.2.1 x c e rfl
    by_cases hc : c ∈ X.fs
    · obtain ⟨sl, q⟩ := slot c o (I.cne x c e) hc nch ho (I.freeC x c e)
      exact ⟨_, q, hd⟩
    · exact ⟨o, keep c o (I.cne x c e) hc nch ho (I.freeC x c e), hd⟩
  refine ⟨I.ok, I.os, hg, ⟨fun b o e n hb hx => ?_, fun b o e n hb hx => ?_, fun b o e n hx => ?_, fun b o e hx => ?_, fun b xs e => tups b xs (I.base.tups b xs e), fun b o xs e => frzs b o xs (I.base.frzs b o xs e), fun b ps e => ?_⟩, ?_, fun x c e => ?_, ?_, fun x c e => ?_, fun p hp => ?_, hok, I.len⟩
  · exact keep b o (neL b o e) hb (neC b o e hx) (I.base.keep b o e n hb hx) (I.base.free b o e n hx)
  · obtain ⟨sl, e1⟩ := I.base.slot b o e n hb hx
    obtain ⟨sl', e2⟩ := slot b _ (neL b o e) hb (neC b o e hx) e1 (I.base.free b o e n hx)
    exact ⟨sl', e2⟩
  · obtain ⟨o', e1⟩ := I.base.there b o e hx
    exact free b o' (neC b o e hx) e1 (I.base.free b o e n hx)
  · obtain ⟨o', e1⟩ := I.base.there b o e hx
    exact there b o' (neC b o e hx) e1
  · obtain ⟨m1, e1⟩ := I.base.tbls b ps e
    obtain ⟨m2, e2⟩ := tbls b _ e1
    exact ⟨m1 ++ m2, by rw [e2, Array.append_assoc]⟩
  · obtain ⟨m, hn, hl⟩ := I.loc
    refine ⟨m, ns m hn, fun i x v e1 e2 e3 => ?_⟩
    obtain ⟨u, r, l⟩ := hl i x v e1 e2 e3
    refine ⟨u, r, ?_⟩
    rcases l with l | ⟨k, c, e, z⟩
    · exact .inl l
    · exact .inr ⟨k, c, e, cellK x c e _ z⟩
  · obtain ⟨v, z⟩ := I.cell x c e
    exact ⟨v, cellK x c e v z⟩
  · obtain ⟨m, ⟨o, _, _, ho, _⟩, _⟩ := I.loc
    exact free _ o (fun z => (hch _ z).2.1 rfl) ho I.free
  · obtain ⟨v, o, ho, hd⟩ := I.cell x c e
    exact free c o (fun z => (hch c z).2.2.1 x c e rfl) ho (I.freeC x c e)
  · obtain ⟨e, n, ne, nf, d⟩ := I.pin p hp
    have nch : p.1 ∉ ch := fun z => (hch p.1 z).2.2.2 p hp rfl
    exact ⟨keep p.1 p.2 ne nf nch e n, free p.1 p.2 nch e n, ne, nf, d⟩
theorem Inv.un {t' : Nat} (I : Inv X pins σ H s) (u : Un X.fs [] H H' s.heap h') (hok : HOk X.prog X.w H' h') : Inv X pins σ H' { s with heap := h', toks := t' } := by
  obtain ⟨m, ⟨o, es, ep, ho, r⟩, _⟩ := id I.loc
  obtain ⟨sl, hL⟩ := u.any ho I.free (by simp)
  exact I.step (g' := s.gens) (d' := s.drawn) (ch := []) (fun _ z => nomatch z) (fun b o _ hb _ e n => u.keep b o e n hb (by simp)) (fun b o _ hb _ e n => u.slot b o e n hb (by simp)) (fun b o _ e n => u.free b o e n (by simp)) (fun b o _ e => u.there b o e (by simp)) u.tups u.frzs u.tbls (fun m' hm => by
    obtain ⟨o', es', ep', ho', r'⟩ := hm
    rw [ho] at ho'; cases ho'
    exact ⟨_, es', ep', hL, r'⟩) hok I.bare
theorem Inv.call {g' : Array GenState} {t' : Nat} {d' : Drawn} {ch : List Addr} (I : Inv X pins σ H s) (u : Un (frs X.stack) ch H H' s.heap h') (hok : HOk X.prog X.w H' h') (hg : AllBare g')
    (hch : ∀ b ∈ ch, (b ∈ X.ex ∨ X.s₀.heap.objs.size ≤ b) ∧ b ≠ X.env.locals ∧ (∀ x c, X.env.cells.lookup x = some c → c ≠ b) ∧ ∀ p ∈ X.pn ++ pins, p.1 ≠ b) :
    Inv X pins σ H' { s with heap := h', gens := g', drawn := d', toks := t' } := by
  obtain ⟨m, ⟨o, es, ep, ho, r⟩, _⟩ := id I.loc
  obtain ⟨sl, hL⟩ := u.any ho I.free fun z => (hch _ z).2.1 rfl
  exact I.step (ch := ch) hch (fun b o hL hb hc e n => u.keep b o e n (fun z => (List.mem_cons.mp (I.stkSub b z)).elim hL hb) hc) (fun b o _ _ hc e n => u.any e n hc) (fun b o hc e n => u.free b o e n hc) (fun b o hc e => u.there b o e hc) u.tups u.frzs u.tbls (fun m' hm => by
    obtain ⟨o', es', ep', ho', r'⟩ := hm
    rw [ho] at ho'; cases ho'
    exact ⟨_, es', ep', hL, r'⟩) hok hg
theorem Inv.turned {t' : Nat} {it : Addr} (I : Inv X pins σ H s) (k : ∀ b o, b ≠ it → s.heap.get? b = some o → h'.get? b = some o) (hn : H it = none) (hL : it ≠ X.env.locals)
    (h1 : it ∈ X.ex ∨ X.s₀.heap.objs.size ≤ it) (h2 : ∀ x c, X.env.cells.lookup x = some c → c ≠ it) (h3 : ∀ p ∈ X.pn ++ pins, p.1 ≠ it) : Inv X pins σ H { s with heap := h', toks := t' } := by
  have nit : ∀ b u, H b = some u → b ≠ it := fun b u e z => by rw [z, hn] at e; cases e
  refine I.step (g' := s.gens) (d' := s.drawn) (ch := [it]) (fun b hb => ?_) (fun b o _ _ hc e _ => k b o (fun z => hc (by simp [z])) e) (fun b o _ _ hc e _ => ⟨o.slots, k b o (fun z => hc (by simp [z])) e⟩) (fun _ _ _ _ n => n)
    (fun b o hc e => ⟨o, k b o (fun z => hc (by simp [z])) e⟩) (fun _ _ e => e) (fun _ _ _ e => e) (fun b ps e => ⟨#[], by rw [e]; simp⟩) (fun m hm => ?_) (fun b u e => ?_) I.bare
  · have e : b = it := by simpa using hb
    subst e
    exact ⟨h1, hL, h2, h3⟩
  · obtain ⟨o, es, ep, ho, r⟩ := hm
    exact ⟨o, es, ep, k _ o (Ne.symm hL) ho, r⟩
  · refine (I.hok b u e).stay (fun c v hc q => k c v ?_ q) (fun _ q => q) fun _ _ q => q
    rcases hc with z | z
    · rw [z]; exact nit b u e
    · exact nit c _ z
theorem Inv.tok (I : Inv X pins σ H s) (t : Nat) : Inv X pins σ H { s with toks := t } := I.un (h' := s.heap) (t' := t) Un.refl I.hok
theorem Inv.kept {t' : Nat} (I : Inv X pins σ H s) (k : ∀ b u, s.heap.get? b = some u → h'.get? b = some u) : Inv X pins σ H { s with heap := h', toks := t' } := I.un (Un.kept k) (I.hok.kept k)
theorem Inv.laid {a : Addr} {o : HO} {t' : Nat} (I : Inv X pins σ H s) (k : ∀ b u, s.heap.get? b = some u → h'.get? b = some u) (hp : s.heap.objs.size ≤ a) (new : ObjOk X.prog X.w (upd H a o) h' a o) :
    Inv X pins σ (upd H a o) { s with heap := h', toks := t' } := I.un (Un.laid k hp (I.hok.fresh hp)) (I.hok.laid k hp new)
theorem Inv.write {x e : Addr} {o : HO} {t' : Nat} (I : Inv X pins σ H s) (mu : Mut (H x)) (he : e = x ∨ H e = some (.own x)) (k : ∀ b u, b ≠ e → s.heap.get? b = some u → h'.get? b = some u) (heo : ∃ u, h'.get? e = some u)
    (new : ObjOk X.prog X.w (upd H x o) h' x o) : Inv X pins σ (upd H x o) { s with heap := h', toks := t' } := I.un (Un.write mu he k heo) (I.hok.write mu he k heo new)
theorem Inv.weak {σ' : List (Option V)} (I : Inv X pins σ H s) (hl : σ'.length = σ.length) (w : ∀ (i : Nat) v, σ'[i]? = some (some v) → σ[i]? = some (some v)) : Inv X pins σ' H s :=
  ⟨I.ok, I.os, I.bare, I.base, let ⟨m, hn, hl'⟩ := I.loc; ⟨m, hn, fun i x v e1 e2 e3 => hl' i x v e1 (w i v e2) e3⟩, I.cell, I.free, I.freeC, I.pin, I.hok, hl.trans I.len⟩
theorem Inv.pins_of {pins' : List (Addr × Obj)} (I : Inv X pins σ H s) (h : ∀ p ∈ pins', s.heap.get? p.1 = some p.2 ∧ H p.1 = none ∧ p.1 ≠ X.env.locals ∧ p.1 ∉ X.fs ∧ ∀ v, p.2.data ≠ .cell v) : Inv X pins' σ H s :=
  ⟨I.ok, I.os, I.bare, I.base, I.loc, I.cell, I.free, I.freeC, fun p hp => (List.mem_append.mp hp).elim (fun z => I.pin p (List.mem_append_left _ z)) (h p), I.hok, I.len⟩
theorem nodup_ix {N : List Str} (hN : N.Nodup) {i j : Nat} {x : Str} (a : N[i]? = some x) (b : N[j]? = some x) : i = j := by
  obtain ⟨h1, e1⟩ := List.getElem?_eq_some_iff.mp a
  obtain ⟨h2, e2⟩ := List.getElem?_eq_some_iff.mp b
  exact (List.getElem_inj hN).mp (e1.trans e2.symm)
theorem store_ok2 {M : Model} {A : Around} {E : Value → Shared → Prop} {i : Nat} {x : Str} {v : V} {u : Value} {Q : Unit → Shared → Prop} (I : Inv X pins σ H s) (hN : X.N.Nodup) (hi : X.N[i]? = some x) (hx : Loc X.env.scope x) (r : RelV v u)
    (h : ∀ s', Inv X pins (σ.set i (some v)) H s' → (∃ a, Heap.SameBut a s.heap s'.heap ∧ (a = X.env.locals ∨ X.env.cells.lookup x = some a)) → Q () s') (hf : X.fn x = true ∨ X.env.scope.names.lookup x = some .local := by first | exact .inl rfl | exact .inr rfl | assumption) : wpAny M A (storeName X.env x u) Q E s := by
  obtain ⟨m, hn, hl⟩ := id I.loc
  have hcls : (X.env.scope.kind == .class || (X.env.scope.kind == .module && X.env.locals != X.env.globals)) = false := by rw [I.ok.kind]; rfl
  have hiσ : i < σ.length := by rw [I.len]; exact (List.getElem?_eq_some_iff.mp hi).1
  have cne := I.cne
  have tracked : ∀ {a : Addr} {h' : Heap}, (∃ o, s.heap.get? a = some o ∧ H a = none) → Heap.SameBut a s.heap h' → HOk X.prog X.w H h' := fun {a h'} ha hs b ob e => by
    obtain ⟨_, _, hfree⟩ := ha
    refine (I.hok b ob e).stay (fun c w' hc q => (hs.2 c ?_).trans q) (fun _ q => q) fun _ _ q => q
    rintro rfl
    rcases hc with rfl | hc
    · rw [hfree] at e; cases e
    · rw [hfree] at hc; cases hc
  rcases hx with hk | hk
  · refine wpAny_storeName_local hk hn (fun h' hn' hs => ?_) hcls
    obtain ⟨oL, _, _, hoL, _⟩ := id hn
    refine h _ ⟨I.ok, I.os, I.bare, ⟨fun b o e n hb hx => ?_, fun b o e n hb hx => ?_, I.base.free, fun b o e hx => ?_, I.base.tups, I.base.frzs, I.base.tbls⟩, ⟨_, hn', fun j y v' e1 e2 e3 => ?_⟩, fun y c e => ?_, I.free, I.freeC, fun p hp => ?_, tracked ⟨oL, hoL, I.free⟩ hs, by simpa using I.len⟩ ⟨_, hs, .inl rfl⟩
    · exact (hs.2 b (Nat.ne_of_lt (Nat.lt_of_lt_of_le (Heap.lt_size e) I.ok.above))).trans (I.base.keep b o e n hb hx)
    · obtain ⟨sl, e1⟩ := I.base.slot b o e n hb hx
      exact ⟨sl, (hs.2 b (Nat.ne_of_lt (Nat.lt_of_lt_of_le (Heap.lt_size e) I.ok.above))).trans e1⟩
    · obtain ⟨o', e1⟩ := I.base.there b o e hx
      exact ⟨o', (hs.2 b (Nat.ne_of_lt (Nat.lt_of_lt_of_le (Heap.lt_size e) I.ok.above))).trans e1⟩
    · by_cases hj : j = i
      · subst hj
        rw [hi] at e1; cases e1
        rw [List.getElem?_set_self hiσ] at e2
        cases e2
        exact ⟨u, r, .inl ⟨hk, by simp⟩⟩
      · rw [List.getElem?_set_ne (Ne.symm hj)] at e2
        obtain ⟨u', r', q⟩ := hl j y v' e1 e2 e3
        refine ⟨u', r', ?_⟩
        rcases q with ⟨k, e⟩ | ⟨k, c, e, z⟩
        · refine .inl ⟨k, ?_⟩
          have : y ≠ x := fun e => hj (nodup_ix hN e1 (e ▸ hi))
          simp [this, e]
        · exact .inr ⟨k, c, e, z.sameBut hs (cne y c e)⟩
    · obtain ⟨w', z⟩ := I.cell y c e
      exact ⟨w', z.sameBut hs (cne y c e)⟩
    · obtain ⟨e, n, ne, nf, d⟩ := I.pin p hp
      exact ⟨(hs.2 p.1 ne).trans e, n, ne, nf, d⟩
  · have hfn : X.fn x = true := by
      rcases hf with z | z
      · exact z
      · rw [z] at hk; cases hk
    obtain ⟨c, hc⟩ := I.ok.has x (.inl hk)
    obtain ⟨w', z⟩ := I.cell x c hc
    refine wpAny_storeName_cell I.ok.kind hk hc z (fun h' hc' hs => ?_)
    obtain ⟨oc, hoc, hocd⟩ := id z
    refine h { s with heap := h' } ⟨I.ok, I.os, I.bare, ⟨fun b o e n hb hx => ?_, fun b o e n hb hx => ?_, I.base.free, fun b o e hx => ?_, I.base.tups, I.base.frzs, I.base.tbls⟩, ⟨m, hn.sameBut hs (Ne.symm (cne x c hc)), fun j y v' e1 e2 e3 => ?_⟩, fun y c' e => ?_, I.free, I.freeC, fun p hp => ?_, tracked ⟨oc, hoc, I.freeC x c hc⟩ hs, by simpa using I.len⟩ ⟨c, hs, .inr hc⟩
    · exact (hs.2 b (Nat.ne_of_lt (Nat.lt_of_lt_of_le (Heap.lt_size e) (I.ok.cab x c hfn hc)))).trans (I.base.keep b o e n hb hx)
    · obtain ⟨sl, e1⟩ := I.base.slot b o e n hb hx
      exact ⟨sl, (hs.2 b (Nat.ne_of_lt (Nat.lt_of_lt_of_le (Heap.lt_size e) (I.ok.cab x c hfn hc)))).trans e1⟩
    · obtain ⟨o', e1⟩ := I.base.there b o e hx
      exact ⟨o', (hs.2 b (Nat.ne_of_lt (Nat.lt_of_lt_of_le (Heap.lt_size e) (I.ok.cab x c hfn hc)))).trans e1⟩
    · by_cases hj : j = i
      · subst hj
        rw [hi] at e1; cases e1
        rw [List.getElem?_set_self hiσ] at e2
        cases e2
        exact ⟨u, r, .inr ⟨.inl hk, c, hc, hc'⟩⟩
      · rw [List.getElem?_set_ne (Ne.symm hj)] at e2
        obtain ⟨u', r', q⟩ := hl j y v' e1 e2 e3
        refine ⟨u', r', ?_⟩
        rcases q with q | ⟨k, c', e, z'⟩
        · exact .inl q
        · refine .inr ⟨k, c', e, z'.sameBut hs ?_⟩
          rintro rfl
          exact hj (nodup_ix hN e1 (I.ok.inj _ _ _ e hc ▸ hi))
    · by_cases hcc : c' = c
      · subst hcc; exact ⟨_, hc'⟩
      · obtain ⟨w2, z2⟩ := I.cell y c' e
        exact ⟨w2, z2.sameBut hs hcc⟩
    · obtain ⟨e, n, ne, nf, d⟩ := I.pin p hp
      refine ⟨(hs.2 p.1 ?_).trans e, n, ne, nf, d⟩
      intro q
      rw [q, hoc] at e
      have q' : oc = p.2 := Option.some.inj e
      exact d w' (by rw [← q']; exact hocd)
theorem store_ok {M : Model} {A : Around} {E : Value → Shared → Prop} {i : Nat} {x : Str} {v : V} {u : Value} {Q : Unit → Shared → Prop} (I : Inv X pins σ H s) (hN : X.N.Nodup) (hi : X.N[i]? = some x) (hx : Loc X.env.scope x) (r : RelV v u)
    (h : ∀ s', Inv X pins (σ.set i (some v)) H s' → Q () s') (hf : X.fn x = true ∨ X.env.scope.names.lookup x = some .local := by first | exact .inl rfl | exact .inr rfl | assumption) : wpAny M A (storeName X.env x u) Q E s :=
  store_ok2 I hN hi hx r (fun s' I' _ => h s' I') hf
theorem Inv.call' {s' : Shared} {ch : List Addr} (I : Inv X pins σ H s) (ho : s'.os = s.os) (u : Un (frs X.stack) ch H H' s.heap s'.heap) (hok : HOk X.prog X.w H' s'.heap) (hg : AllBare s'.gens)
    (hch : ∀ b ∈ ch, (b ∈ X.ex ∨ X.s₀.heap.objs.size ≤ b) ∧ b ≠ X.env.locals ∧ (∀ x c, X.env.cells.lookup x = some c → c ≠ b) ∧ ∀ p ∈ X.pn ++ pins, p.1 ≠ b) : Inv X pins σ H' s' := by
  obtain ⟨h', g', d', t', o'⟩ := s'
  have e : o' = s.os := ho
  subst e
  exact I.call (g' := g') (t' := t') (d' := d') u hok hg hch
end
abbrev XK := Value → Option Addr → Hp → Prop
abbrev St := List (Option V)
abbrev VK := V → Hp → Prop
abbrev TE := St → Hp → VK → Prop
abbrev TT := St → Hp → (Bool → Hp → Prop) → Prop
abbrev TA := St → Hp → (List V → Hp → Prop) → Prop
structure Ends where
  nx : St → Hp → Prop
  rt : VK
  bk : St → Hp → Prop := fun _ _ => False
  ct : St → Hp → Prop := fun _ _ => False
abbrev TS := Ends → St → Hp → Prop
def EP (X : Cx) (pins : List (Addr × Obj)) (σ : St) (Q : VK) (u : Value) (s' : Shared) : Prop := ∃ v H', Inv X pins σ H' s' ∧ RelV v u ∧ Q v H'
def TP (X : Cx) (pins : List (Addr × Obj)) (σ : St) (Q : Bool → Hp → Prop) (b : Bool) (s' : Shared) : Prop := ∃ H', Inv X pins σ H' s' ∧ Q b H'
def AP (X : Cx) (pins : List (Addr × Obj)) (σ : St) (Q : List V → Hp → Prop) (us : List Value) (s' : Shared) : Prop := ∃ vs H', Inv X pins σ H' s' ∧ Vals vs us ∧ Q vs H'
def SP (X : Cx) (pins : List (Addr × Obj)) (D : Ends) (f : Flow) (s' : Shared) : Prop :=
  match f with
  | .next => ∃ σ' H', Inv X pins σ' H' s' ∧ D.nx σ' H'
  | .brk => ∃ σ' H', Inv X pins σ' H' s' ∧ D.bk σ' H'
  | .cont => ∃ σ' H', Inv X pins σ' H' s' ∧ D.ct σ' H'
  | .ret u => ∃ v σ' H', Inv X pins σ' H' s' ∧ RelV v u ∧ D.rt v H'
def PE (X : Cx) (e : Expr) (t : TE) : Prop :=
  ∀ (pins : List (Addr × Obj)) (s : Shared) (σ : St) (H : Hp) (Q : VK), Inv X pins σ H s → t σ H Q → wpAny (model X.prog X.w) X.A (eval e X.env) (EP X pins σ Q) X.xe s
def PT (X : Cx) (e : Expr) (t : TT) : Prop :=
  ∀ (pins : List (Addr × Obj)) (s : Shared) (σ : St) (H : Hp) (Q : Bool → Hp → Prop), Inv X pins σ H s → t σ H Q → wpAny (model X.prog X.w) X.A (isTrue e X.env (eval e X.env)) (TP X pins σ Q) X.xe s
def PW (X : Cx) (e : Expr) (t : TT) : Prop :=
  ∀ (whole : Sem Value) (pins : List (Addr × Obj)) (s : Shared) (σ : St) (H : Hp) (Q : Bool → Hp → Prop), Inv X pins σ H s → t σ H Q → wpAny (model X.prog X.w) X.A (isTrue e X.env whole) (TP X pins σ Q) X.xe s
theorem PW.pt {X : Cx} {e : Expr} {t : TT} (h : PW X e t) : PT X e t := h _
def PA (X : Cx) (es : List Expr) (t : TA) : Prop :=
  ∀ (pos : Pos) (pins : List (Addr × Obj)) (s : Shared) (σ : St) (H : Hp) (Q : List V → Hp → Prop), Inv X pins σ H s → t σ H Q → wpAny (model X.prog X.w) X.A (spliced (backTo pos (starEach es X.env))) (AP X pins σ Q) X.xe s
def PS (X : Cx) (st : Stmt) (t : TS) : Prop :=
  ∀ (pins : List (Addr × Obj)) (s : Shared) (σ : St) (H : Hp) (D : Ends), Inv X pins σ H s → t D σ H → wpAny (model X.prog X.w) X.A (exec st X.env) (SP X pins D) X.xe s
def PSs (X : Cx) (st : List Stmt) (t : TS) : Prop :=
  ∀ (pins : List (Addr × Obj)) (s : Shared) (σ : St) (H : Hp) (D : Ends), Inv X pins σ H s → t D σ H → wpAny (model X.prog X.w) X.A (execs st X.env) (SP X pins D) X.xe s
theorem thn {α : Type} {t : Sem α} {Q Q' : α → Shared → Prop} {M : Model} {A : Around} {E : Value → Shared → Prop} {s : Shared} (h : wpAny M A t Q E s) (hQ : ∀ a s, Q a s → Q' a s) : wpAny M A t Q' E s := wpAny_mono h hQ fun _ _ x => x
end L2
namespace L2
open PySem PySem.Spec PyProof.Rows
section
variable {X : Cx}
def tVar (i : Nat) : TE := fun σ H Q => ∃ v, σ[i]? = some (some v) ∧ Q v H
def tC (v : V) : TE := fun _ H Q => Q v H
theorem pe_var {i : Nat} {x : Str} {pos : Pos} (hN : X.N[i]? = some x) (hv : Vis X.env.scope x) (hd : (x == ("__debug__" : Str)) = false := by decide) (hcd : (x == ("__classdict__" : Str)) = false := by decide) : PE X (.Name x pos) (tVar i) := by
  intro pins s σ H Q I h
  obtain ⟨v, e, h⟩ := h
  obtain ⟨m, hn, hl⟩ := I.loc
  obtain ⟨u, r, l⟩ := hl i x v hN e hv
  have fin : EP X pins σ Q u s := ⟨v, H, I, r, h⟩
  rcases l with ⟨hk, hm⟩ | ⟨hk, c, hc, hcell⟩
  · exact wpAny_Name (wpAny_loadName_local I.ok.kind hk hn hm fin) hd
  · rcases hk with hk | hk
    · exact wpAny_Name (wpAny_loadName_cell I.ok.kind hk hc hcell fin) hd
    · exact wpAny_Name (wpAny_loadName_free I.ok.kind hk hc hcell fin hcd) hd
theorem pe_int {i j pos} : PE X (.Constant (.int i) j pos) (tC (.int i)) := fun _ _ _ H _ I h => wpAny_Constant_int ⟨.int i, H, I.tok _, ⟨_, rfl⟩, h⟩
theorem pe_bl {b j pos} : PE X (.Constant (.bool b) j pos) (tC (.bl b)) := fun _ _ _ H _ I h => Constant_bool ⟨.bl b, H, I, rfl, h⟩
theorem pe_non {j pos} : PE X (.Constant .none j pos) (tC .non) := fun _ _ _ H _ I h => Constant_none ⟨.non, H, I, rfl, h⟩
def Gl (X : Cx) (x : Str) : Prop := X.env.kindOf x = some .globalImplicit
theorem ld_glob {E : Value → Shared → Prop} {pins : List (Addr × Obj)} {s : Shared} {σ : St} {H : Hp} {x : Str} {u : Value} {pos : Pos} {Q : Value → Shared → Prop} (I : Inv X pins σ H s) (hg : Gl X x) (hm : X.mg x = some u) (h : Q u s)
    (hd : (x == ("__debug__" : Str)) = false := by decide) : wpAny (model X.prog X.w) X.A (eval (.Name x pos) X.env) Q E s :=
  Calls.Name_function_global I.ok.kind hg (Calls.loadGlobal_global (by rw [I.ok.glob]; exact I.mod.glob.keeps I.bk) hm h) hd
theorem ld_blt {E : Value → Shared → Prop} {pins : List (Addr × Obj)} {s : Shared} {σ : St} {H : Hp} {x : Str} {u : Value} {pos : Pos} {Q : Value → Shared → Prop} (I : Inv X pins σ H s) (hg : Gl X x) (hm : X.mg x = none) (hv : bootBuiltins x = some u) (h : Q u s)
    (hn : x ≠ "__name__" := by decide) (hd : (x == ("__debug__" : Str)) = false := by decide) : wpAny (model X.prog X.w) X.A (eval (.Name x pos) X.env) Q E s := by
  obtain ⟨mb, h1, h2⟩ := I.mod.blt
  exact Calls.Name_function_global I.ok.kind hg (Calls.loadGlobal_builtin (by rw [I.ok.glob]; exact I.mod.glob.keeps I.bk) hm (by rw [I.ok.blt]; exact h1.keeps I.bk) ((h2 x hn).trans hv) h) hd
theorem pe_bltn {x : Str} {v : V} {u : Value} {pos : Pos} (hg : Gl X x) (hm : X.mg x = none) (hv : bootBuiltins x = some u) (r : RelV v u) (hn : x ≠ "__name__" := by decide) (hd : (x == ("__debug__" : Str)) = false := by decide) : PE X (.Name x pos) (tC v) :=
  fun _ _ _ H _ I h => ld_blt I hg hm hv ⟨v, H, I, r, h⟩ hn hd
variable {a b : Expr} {ta tb : TE} {pos : Pos}
def tB (t : TE) : TT := fun σ H Q => t σ H fun x H1 => ∃ c, x = .bl c ∧ Q c H1
theorem pt_val {e : Expr} {t : TE} (h : PE X e t) (he : ∀ whole, isTrue e X.env whole = (do let v ← whole; standAt e.pos; holding [v] (truthy v)) := by intro _; rfl) : PT X e (tB t) := by
  intro pins s σ H Q I hw
  refine isTrue_plain (thn (h pins s σ H _ I hw) fun v s1 ⟨x, H1, I1, r1, q1⟩ => ?_) (he _)
  obtain ⟨d, rfl, q⟩ := q1
  cases r1
  exact wpAny_truthy_bool ⟨H1, I1, q⟩
variable {tA tB' : TT} {rest : List Expr}
def tAnd (t u : TT) : TT := fun σ H Q => t σ H fun c H1 => if c = true then u σ H1 Q else Q false H1
def tOr (t u : TT) : TT := fun σ H Q => t σ H fun c H1 => if c = true then Q true H1 else u σ H1 Q
def tNot (t : TT) : TT := fun σ H Q => t σ H fun c H1 => Q (!c) H1
theorem pw_and1 (ha : PT X a tA) : PW X (.BoolOp .And [a] pos) tA := by
  intro wh pins s σ H Q I h
  refine isTrue_and (thn (ha pins s σ H Q I h) fun c s1 e => ?_)
  cases c with
  | true => exact isTrue_and_nil e
  | false => exact e
theorem pw_or1 (ha : PT X a tA) : PW X (.BoolOp .Or [a] pos) tA := by
  intro wh pins s σ H Q I h
  refine isTrue_or (thn (ha pins s σ H Q I h) fun c s1 e => ?_)
  cases c with
  | false => exact isTrue_or_nil e
  | true => exact e
theorem pw_and (ha : PT X a tA) (hb : PW X (.BoolOp .And (b :: rest) pos) tB') : PW X (.BoolOp .And (a :: b :: rest) pos) (tAnd tA tB') := by
  intro wh pins s σ H Q I h
  refine isTrue_and (thn (ha pins s σ H _ I h) fun c s1 ⟨H1, I1, q1⟩ => ?_)
  cases c with
  | true => exact hb wh pins s1 σ H1 Q I1 q1
  | false => exact ⟨H1, I1, q1⟩
theorem pw_or (ha : PT X a tA) (hb : PW X (.BoolOp .Or (b :: rest) pos) tB') : PW X (.BoolOp .Or (a :: b :: rest) pos) (tOr tA tB') := by
  intro wh pins s σ H Q I h
  refine isTrue_or (thn (ha pins s σ H _ I h) fun c s1 ⟨H1, I1, q1⟩ => ?_)
  cases c with
  | true => exact ⟨H1, I1, q1⟩
  | false => exact hb wh pins s1 σ H1 Q I1 q1
theorem pt_not (ha : PT X a tA) : PT X (.UnaryOp .Not a pos) (tNot tA) := by
  intro pins s σ H Q I h
  exact isTrue_not (ha pins s σ H (fun c H1 => Q (!c) H1) I h)
def tAndV (ta tb : TE) : TE := fun σ H Q => ta σ H fun x H1 => ∃ c, x = .bl c ∧ if c = true then tb σ H1 Q else Q (.bl false) H1
theorem pe_one {op} {t : TE} (h : PE X a t) : PE X (.BoolOp op [a] pos) t := fun pins s σ H Q I hw => BoolOp_one (h pins s σ H Q I hw)
theorem pe_and (ha : PE X a ta) (hb : PE X (.BoolOp .And (b :: rest) pos) tb) : PE X (.BoolOp .And (a :: b :: rest) pos) (tAndV ta tb) := by
  intro pins s σ H Q I h
  refine BoolOp_and (thn (ha pins s σ H _ I h) fun v s1 ⟨x, H1, I1, r1, q1⟩ => ?_)
  obtain ⟨c, rfl, q1⟩ := q1
  cases r1
  refine wpAny_truthy_bool ?_
  cases c with
  | true => exact hb pins s1 σ H1 Q I1 q1
  | false => exact ⟨.bl false, H1, I1, rfl, q1⟩
end
end L2
namespace L2
open PySem PySem.Spec PyProof.Rows
def SqL (K : PySem.W.Frag) (H : Hp) (a : Addr) (xs : List V) : Prop :=
  Rd H a (.lst xs) ∨
    ∃ (o : Obj) (its : Array Value) (n : Nat), K.lookup a = some o ∧ o.cls = .type "list" ∧ o.dict = none ∧ o.data = .seq its n ∧ its.size ≤ sizeLine ∧ Vals xs its.toList
def SqT (K : PySem.W.Frag) (H : Hp) (a : Addr) (xs : List V) : Prop :=
  Rd H a (.tup xs) ∨
    ∃ (o : Obj) (its : Array Value) (n : Nat), K.lookup a = some o ∧ o.cls = .type "tuple" ∧ o.data = .seq its n ∧ its.size ≤ sizeLine ∧ Vals xs its.toList
def absV : Value → Option V
  | .none => some .non
  | .bool b => some (.bl b)
  | .int i _ => some (.int i)
  | .str x _ => some (.str x)
  | .bytes b _ => some (.byt b)
  | .float b _ => some (.flt b)
  | .ref a => some (.ref a)
  | .type n => some (.ty n)
  | _ => none
theorem RelV.abs {x : V} {u : Value} (r : RelV x u) : absV u = some x := by
  cases x with
  | non => cases r; rfl
  | bl _ => cases r; rfl
  | int _ => obtain ⟨t, rfl⟩ := r; rfl
  | str _ => obtain ⟨t, rfl⟩ := r; rfl
  | byt _ => obtain ⟨t, rfl⟩ := r; rfl
  | flt _ => obtain ⟨t, rfl⟩ := r; rfl
  | ref _ => cases r; rfl
  | ty _ => cases r; rfl
theorem RelV.inj {x y : V} {u : Value} (r : RelV x u) (q : RelV y u) : x = y := Option.some.inj (r.abs.symm.trans q.abs)
theorem Vals.inj : ∀ {xs ys : List V} {us : List Value}, Vals xs us → Vals ys us → xs = ys
  | _, _, _, .nil, .nil => rfl
  | _, _, _, .cons r t, .cons r' t' => by rw [r.inj r', Vals.inj t t']
section
variable {X : Cx} {pins : List (Addr × Obj)} {σ : St} {H : Hp} {s : Shared} {a : Addr} {xs ys : List V}
theorem SqL.of {K : PySem.W.Frag} (h : H a = some (.lst xs)) : SqL K H a xs := .inl (.inl h)
theorem SqT.of {K : PySem.W.Frag} (h : H a = some (.tup xs)) : SqT K H a xs := .inl (.inl h)
theorem Inv.list (I : Inv X pins σ H s) (h : SqL X.K H a xs) : ∃ its : List Value, Vals xs its ∧ PlainL s.heap a its.toArray ∧ xs.length ≤ sizeLine := by
  rcases h with h | ⟨o, its, n, hk, hc, hd, hs, hz, r⟩
  · obtain ⟨z, its, n, r, e⟩ := h.ok I.hok
    exact ⟨its, r, ⟨_, n, e, rfl, rfl, rfl⟩, z⟩
  · refine ⟨its.toList, r, ⟨o, n, I.kIn a o hk, hc, hd, by simpa using hs⟩, ?_⟩
    have e := r.length
    simp only [Array.length_toList] at e
    omega
theorem Inv.tuple (I : Inv X pins σ H s) (h : SqT X.K H a xs) : ∃ its : List Value, Vals xs its ∧ IsTup s.heap a its.toArray ∧ xs.length ≤ sizeLine := by
  rcases h with h | ⟨o, its, n, hk, hc, hs, hz, r⟩
  · obtain ⟨z, its, r, p⟩ := h.ok I.hok
    exact ⟨its, r, p, z⟩
  · refine ⟨its.toList, r, ⟨o, I.kIn a o hk, hc, n, by simpa using hs⟩, ?_⟩
    have e := r.length
    simp only [Array.length_toList] at e
    omega
theorem Inv.list_inj (I : Inv X pins σ H s) (h : SqL X.K H a xs) (h' : SqL X.K H a ys) : xs = ys := by
  obtain ⟨its, r, ⟨o, n, e, _, _, d⟩, _⟩ := I.list h
  obtain ⟨its', r', ⟨o', n', e', _, _, d'⟩, _⟩ := I.list h'
  rw [e] at e'; cases e'
  rw [d] at d'
  injection d' with d1 _
  have : its = its' := by simpa using congrArg Array.toList d1
  subst this
  exact r.inj r'
end
abbrev Cx.wish (X : Cx) (E : Value → Shared → Prop) : Cx := { X with xe := E }
abbrev Cx.nox (X : Cx) : Cx := X.wish fun _ _ => False
theorem Cx.Ok.wish {X : Cx} (ok : X.Ok) (E : Value → Shared → Prop) : (X.wish E).Ok :=
  ⟨ok.mod, ok.kind, ok.glob, ok.blt, ok.above, ok.inj, ok.has, ok.cab, ok.hd, ok.frames, ok.stk, ok.exf, ok.bs, ok.bsz, ok.noex, ok.exfs, ok.funs, ok.frf⟩
theorem Cx.Ok.unwish {X : Cx} {E : Value → Shared → Prop} (ok : (X.wish E).Ok) : X.Ok :=
  ⟨ok.mod, ok.kind, ok.glob, ok.blt, ok.above, ok.inj, ok.has, ok.cab, ok.hd, ok.frames, ok.stk, ok.exf, ok.bs, ok.bsz, ok.noex, ok.exfs, ok.funs, ok.frf⟩
section
variable {X : Cx} {pins : List (Addr × Obj)} {σ : St} {H : Hp} {s : Shared} {E : Value → Shared → Prop}
theorem Inv.wish (I : Inv X pins σ H s) (E : Value → Shared → Prop) : Inv (X.wish E) pins σ H s := ⟨I.ok.wish E, I.os, I.bare, I.base, I.loc, I.cell, I.free, I.freeC, I.pin, I.hok, I.len⟩
theorem Inv.unwish (I : Inv (X.wish E) pins σ H s) : Inv X pins σ H s := ⟨I.ok.unwish, I.os, I.bare, I.base, I.loc, I.cell, I.free, I.freeC, I.pin, I.hok, I.len⟩
theorem SP.unwish {D : Ends} {f : Flow} {s' : Shared} (h : SP (X.wish E) pins D f s') : SP X pins D f s' := by
  cases f with
  | next => obtain ⟨σ', H', I, q⟩ := h; exact ⟨σ', H', I.unwish, q⟩
  | brk => obtain ⟨σ', H', I, q⟩ := h; exact ⟨σ', H', I.unwish, q⟩
  | cont => obtain ⟨σ', H', I, q⟩ := h; exact ⟨σ', H', I.unwish, q⟩
  | ret u => obtain ⟨v, σ', H', I, r, q⟩ := h; exact ⟨v, σ', H', I.unwish, r, q⟩
theorem PE.nox {e : Expr} {t : TE} (h : PE X.nox e t) : PE X e t := fun pins s σ H Q I hw =>
  wpAny_mono (h pins s σ H Q (I.wish _) hw) (fun _ _ ⟨v, H', I', r, q⟩ => ⟨v, H', I'.unwish, r, q⟩) fun _ _ z => False.elim z
theorem PT.nox {e : Expr} {t : TT} (h : PT X.nox e t) : PT X e t := fun pins s σ H Q I hw =>
  wpAny_mono (h pins s σ H Q (I.wish _) hw) (fun _ _ ⟨H', I', q⟩ => ⟨H', I'.unwish, q⟩) fun _ _ z => False.elim z
theorem PSs.nox {st : List Stmt} {t : TS} (h : PSs X.nox st t) : PSs X st t := fun pins s σ H D I hw =>
  wpAny_mono (h pins s σ H D (I.wish _) hw) (fun _ _ q => q.unwish) fun _ _ z => False.elim z
end
section
variable {X : Cx} {st : Stmt} {rest : List Stmt} {t u : TS} {e : Expr} {te : TE} {pos : Pos}
def tNext : TS := fun D σ H => D.nx σ H
def tSeq (t u : TS) : TS := fun D σ H => t { D with nx := u D } σ H
theorem pss_nil : PSs X [] tNext := fun _ _ σ H _ I h => wpAny_execs_nil ⟨σ, H, I, h⟩
theorem pss_cons (h1 : PS X st t) (h2 : PSs X rest u) : PSs X (st :: rest) (tSeq t u) := by
  intro pins s σ H D I h
  refine wpAny_execs_cons (thn (h1 pins s σ H { D with nx := u D } I h) fun f s1 q => ?_)
  cases f with
  | next =>
    obtain ⟨σ', H', I', q⟩ := q
    exact h2 pins s1 σ' H' D I' q
  | ret v => exact q
  | brk => exact q
  | cont => exact q
theorem pss_one (h1 : PS X st t) : PSs X [st] t := by
  intro pins s σ H D I h
  refine wpAny_execs_cons (thn (h1 pins s σ H D I h) fun f s1 q => ?_)
  cases f with
  | next => exact wpAny_execs_nil q
  | ret v => exact q
  | brk => exact q
  | cont => exact q
theorem Inv.quiet {pins : List (Addr × Obj)} {σ : St} {H : Hp} {s : Shared} (I : Inv X pins σ H s) : interactive X.env = false := by simp [interactive, I.ok.kind]
def tDrop (te : TE) : TS := fun D σ H => te σ H fun _ H1 => D.nx σ H1
theorem ps_expr (he : PE X e te) (hs : swapsWith e none pos.line X.env = pure false := by rfl) : PS X (.Expr e pos) (tDrop te) := by
  intro pins s σ H D I h
  exact wpAny_Expr_any (thn (he pins s σ H _ I h) fun v s1 ⟨x, H1, I1, r1, q1⟩ => ⟨σ, H1, I1, q1⟩) I.quiet hs
def tRet (te : TE) : TS := fun D σ H => te σ H D.rt
theorem ps_ret (he : PE X e te) : PS X (.Return (some e) pos) (tRet te) := by
  intro pins s σ H D I h
  exact wpAny_Return_some (thn (he pins s σ H _ I h) fun v s1 ⟨x, H1, I1, r1, q1⟩ => ⟨x, σ, H1, I1, r1, q1⟩)
def tIfS (c : TT) (t u : TS) : TS := fun D σ H => c σ H fun b H1 => if b = true then t D σ H1 else u D σ H1
theorem ps_if {c : Expr} {a b : List Stmt} {tc : TT} (hc : PT X c tc) (ha : PSs X a t) (hb : PSs X b u) : PS X (.If c a b pos) (tIfS tc t u) := by
  intro pins s σ H D I h
  refine wpAny_If (thn (hc pins s σ H _ I h) fun d s1 ⟨H1, I1, q1⟩ => ?_)
  cases d with
  | true => exact ha pins s1 σ H1 D I1 q1
  | false => exact hb pins s1 σ H1 D I1 q1
end
abbrev TG := V → St → Hp → (St → Hp → Prop) → Prop
abbrev TGs := List V → St → Hp → (St → Hp → Prop) → Prop
def PG (X : Cx) (target : Expr) (t : TG) : Prop :=
  ∀ (pins : List (Addr × Obj)) (s : Shared) (σ : St) (H : Hp) (v : V) (u : Value) (Q : St → Hp → Prop), Inv X pins σ H s → RelV v u → t v σ H Q →
    wpAny (model X.prog X.w) X.A (assign target X.env u) (fun _ s' => ∃ σ' H', Inv X pins σ' H' s' ∧ Q σ' H') X.xe s
def PGs (X : Cx) (ts : List Expr) (t : TGs) : Prop :=
  ∀ (pins : List (Addr × Obj)) (s : Shared) (σ : St) (H : Hp) (vs : List V) (us : List Value) (Q : St → Hp → Prop), Inv X pins σ H s → Vals vs us → t vs σ H Q →
    wpAny (model X.prog X.w) X.A (assignInOrder ((assignEach ts X.env).map (·.2)) us) (fun _ s' => ∃ σ' H', Inv X pins σ' H' s' ∧ Q σ' H') X.xe s
abbrev TSet := V → V → V → Hp → (Hp → Prop) → Prop
def PSet (X : Cx) (t : TSet) : Prop :=
  ∀ (pins : List (Addr × Obj)) (s : Shared) (σ : St) (H : Hp) (o i v : V) (ov iv u : Value) (Q : Hp → Prop), Inv X pins σ H s → RelV o ov → RelV i iv → RelV v u → t o i v H Q →
    wpAny (model X.prog X.w) X.A (setItem ov iv u) (fun _ s' => ∃ H', Inv X pins σ H' s' ∧ Q H') X.xe s
section
variable {X : Cx} {pos : Pos}
def gName (i : Nat) : TG := fun v σ H Q => Q (σ.set i (some v)) H
theorem pg_name {i : Nat} {x : Str} (hN : X.N.Nodup) (hi : X.N[i]? = some x) (hx : Loc X.env.scope x) (hf : X.fn x = true ∨ X.env.scope.names.lookup x = some .local := by first | exact .inl rfl | exact .inr rfl | assumption) : PG X (.Name x pos) (gName i) := by
  intro pins s σ H v u Q I r h
  exact wpAny_assign_Name (store_ok I hN hi hx r (fun s' I' => ⟨_, H, I', h⟩) hf)
def gNil : TGs := fun vs σ H Q => vs = [] ∧ Q σ H
def gCons (t : TG) (u : TGs) : TGs := fun vs σ H Q => ∃ v r, vs = v :: r ∧ t v σ H fun σ' H' => u r σ' H' Q
theorem pgs_nil : PGs X [] gNil := by
  intro pins s σ H vs us Q I r h
  obtain ⟨e, h⟩ := h
  subst e
  cases r
  exact assignInOrder_nil ⟨σ, H, I, h⟩
theorem pgs_cons {e : Expr} {es : List Expr} {t : TG} {u : TGs} (h1 : PG X e t) (h2 : PGs X es u)
    (hs : (assignEach (e :: es) X.env).map (·.2) = assign e X.env :: (assignEach es X.env).map (·.2) := by rfl) : PGs X (e :: es) (gCons t u) := by
  intro pins s σ H vs us Q I r h
  obtain ⟨v, vr, e1, h⟩ := h
  subst e1
  cases r with
  | cons r rr =>
    rw [hs]
    refine assignInOrder_cons (thn (h1 pins s σ H _ _ _ I r h) fun _ s1 ⟨σ1, H1, I1, q1⟩ => ?_)
    exact h2 pins s1 σ1 H1 _ _ Q I1 rr q1
def gTup (K : PySem.W.Frag) (n : Nat) (t : TGs) : TG := fun v σ H Q => ∃ a xs, v = .ref a ∧ SqT K H a xs ∧ xs.length = n ∧ t xs σ H Q
theorem pg_tup {es : List Expr} {k : Nat} {t : TGs} {n : Nat} (hc : X.calm = true) (h : PGs X es t)
    (hn : (assignEach es X.env).length = n := by rfl) (hst : (assignEach es X.env).findIdx? (·.1) = none := by rfl) : PG X (.Tuple es k pos) (gTup X.K n t) := by
  intro pins s σ H v u Q I r hw
  obtain ⟨a, xs, e1, hq, hl, hw⟩ := hw
  subst e1
  cases r
  obtain ⟨its, rv, ht, hz⟩ := I.tuple hq
  refine assign_Tuple_tuple (I.ok.hd hc) ht (by simp [hn, ← hl, rv.length]) hst fun h' hx => ?_
  have I1 : Inv X pins σ H { s with heap := h' } := I.kept (t' := s.toks) fun b o e => hx b o (Nat.ne_of_lt (Heap.lt_size e)) e
  exact h pins _ σ H xs _ Q I1 (by simpa using rv) hw
def gSub (to ti : TE) (t : TSet) : TG := fun v σ H Q => to σ H fun o H1 => ti σ H1 fun i H2 => t o i v H2 fun H3 => Q σ H3
theorem pg_sub {o i : Expr} {to ti : TE} {t : TSet} (ho : PE X o to) (hi : PE X i ti) (hs : PSet X t)
    (ha : ∀ v, assign (.Subscript o i pos) X.env v = (do
      let ov ← holding [v] (eval o X.env)
      let iv ← holding [v, ov] (eval i X.env)
      standAt pos
      holding [v, ov, iv] (setItem ov iv v)
      release [v, ov, iv] []) := by intro _; rfl) : PG X (.Subscript o i pos) (gSub to ti t) := by
  intro pins s σ H v u Q I r h
  rw [ha]
  refine wpAny_bind (wpAny_holding (thn (ho pins s σ H _ I h) fun ov s1 ⟨x, H1, I1, r1, q1⟩ => ?_))
  refine wpAny_bind (wpAny_holding (thn (hi pins s1 σ H1 _ I1 q1) fun iv s2 ⟨y, H2, I2, r2, q2⟩ => ?_))
  refine wpAny_bind (wpAny_standAt (wpAny_bind (wpAny_holding (thn (hs pins s2 σ H2 x y v ov iv u _ I2 r1 r2 r q2) fun _ s3 ⟨H3, I3, q3⟩ => ?_))))
  exact wpAny_release ⟨σ, H3, I3, q3⟩
def tAsg (te : TE) (g : TG) : TS := fun D σ H => te σ H fun x H1 => g x σ H1 D.nx
theorem ps_asg {tg e : Expr} {te : TE} {g : TG} (he : PE X e te) (hg : PG X tg g) (hs : swapsWithSole [tg] e pos.line X.env = pure false := by rfl) (hw : swappedStores [tg] e X.env = pure none := by rfl)
    (h1 : (assignEach [tg] X.env).map (·.2) = [assign tg X.env] := by rfl) : PS X (.Assign [tg] e pos) (tAsg te g) := by
  intro pins s σ H D I h
  refine wpAny_Assign_stores (thn (he pins s σ H _ I h) fun v s1 ⟨x, H1, I1, r1, q1⟩ => ?_) hs hw
  rw [h1]
  exact thn (hg pins s1 σ H1 x v _ I1 r1 q1) fun _ s2 q => q
theorem ps_set {i : Nat} {x : Str} {e : Expr} {te : TE} {pos' : Pos} (hN : X.N.Nodup) (hi : X.N[i]? = some x) (hx : Loc X.env.scope x) (he : PE X e te) (hs : swapsWith e (some (.Name x pos')) pos.line X.env = pure false := by rfl) (hf : X.fn x = true ∨ X.env.scope.names.lookup x = some .local := by first | exact .inl rfl | exact .inr rfl | assumption) :
    PS X (.Assign [.Name x pos'] e pos) (tAsg te (gName i)) := by
  intro pins s σ H D I h
  refine wpAny_Assign_Name (thn (he pins s σ H _ I h) fun v s1 ⟨y, H1, I1, r1, q1⟩ => ?_) hs
  exact store_ok I1 hN hi hx r1 (fun s2 I2 => ⟨_, H1, I2, q1⟩) hf
end
section
variable {X : Cx} {pos : Pos}
end
structure It where
  go : Nat → Hp → Prop
  yld : Nat → Hp → V → Hp → Prop
  stop : Nat → Hp → Prop
def FpOk (X : Cx) (pins : List (Addr × Obj)) (H : Hp) (b : Addr) : Prop :=
  H b = none ∧ b ≠ X.env.locals ∧ b ∉ X.fs ∧ (b ∈ X.ex ∨ X.s₀.heap.objs.size ≤ b) ∧ (∀ x c, X.env.cells.lookup x = some c → c ≠ b) ∧ ∀ p ∈ X.pn ++ pins, p.1 ≠ b
theorem Inv.fpOk {X : Cx} {pins : List (Addr × Obj)} {σ : St} {H H' : Hp} {s : Shared} {b : Addr} (I : Inv X pins σ H s) (hb : s.heap.objs.size ≤ b) (hn : H' b = none) : FpOk X pins H' b := by
  refine ⟨hn, Nat.ne_of_gt (Nat.lt_of_lt_of_le I.lt hb), I.nofs hb, .inr (Nat.le_trans I.sz hb), fun x c e z => ?_, fun p hp z => ?_⟩
  · obtain ⟨v, q⟩ := I.cell x c e
    exact absurd (Nat.lt_of_lt_of_le q.lt (by rw [z]; exact hb)) (Nat.lt_irrefl _)
  · exact absurd (Nat.lt_of_lt_of_le (Heap.lt_size (I.pin p hp).1) (by rw [z]; exact hb)) (Nat.lt_irrefl _)
structure Turn (P : Program) (w : World) (K : PySem.W.Frag) (tg : Expr) (J : It) (fp : List Addr) (it : Addr) (tn : Nat → Heap → Prop) : Prop where
  mem : it ∈ fp
  obj : ∀ i h, tn i h → ∀ b ∈ fp, ∃ o, h.get? b = some o ∧ ∀ v, o.data ≠ .cell v
  keep : ∀ i h h', tn i h → (∀ b ∈ fp, ∀ o, h.get? b = some o → h'.get? b = some o) → tn i h'
  item : ∀ (X : Cx), X.prog = P → X.w = w → X.K = K → X.calm = true → ∀ (i : Nat) (pins : List (Addr × Obj)) (s : Shared) (σ : St) (H : Hp) (E : Value → Shared → Prop), Inv X pins σ H s → (∀ b ∈ fp, FpOk X pins H b) → tn i s.heap → J.go i H →
    wpAny (model P w) X.A (pyNext (.ref it)) (fun r s1 => ∃ u, r = some u ∧
      wpAny (model P w) X.A (letOwnedTupleGo tg (.ref it) u) (fun _ s2 => ∃ x H', Inv X pins σ H' s2 ∧ RelV x u ∧ J.yld i H x H' ∧ tn (i + 1) s2.heap ∧ ∀ b ∈ fp, H' b = none) E s1) E s
  done : ∀ (X : Cx), X.prog = P → X.w = w → X.K = K → X.calm = true → ∀ (i : Nat) (pins : List (Addr × Obj)) (s : Shared) (σ : St) (H : Hp) (E : Value → Shared → Prop), Inv X pins σ H s → (∀ b ∈ fp, FpOk X pins H b) → tn i s.heap → J.stop i H →
    wpAny (model P w) X.A (pyNext (.ref it)) (fun r s1 => r = none ∧ Inv X pins σ H s1) E s
  self : ∀ (A : Around) (i : Nat) (s : Shared) (Q : Value → Shared → Prop) (E : Value → Shared → Prop), tn i s.heap → Q (.ref it) s → wpAny (model P w) A (pyIter (.ref it)) Q E s
abbrev TI := St → Hp → (It → Hp → Prop) → Prop
def PIE (X : Cx) (pins : List (Addr × Obj)) (σ : St) (tg : Expr) (R : It → Hp → Prop) (itv : Value) (s2 : Shared) : Prop :=
  ∃ (it : Addr) (fp : List Addr) (tn : Nat → Heap → Prop) (J : It) (H' : Hp), itv = .ref it ∧ Inv X pins σ H' s2 ∧ Turn X.prog X.w X.K tg J fp it tn ∧ tn 0 s2.heap ∧ (∀ b ∈ fp, FpOk X pins H' b) ∧ R J H'
def PI (X : Cx) (tg iter : Expr) (wi : TI) : Prop :=
  ∀ (pins : List (Addr × Obj)) (s : Shared) (σ : St) (H : Hp) (R : It → Hp → Prop), Inv X pins σ H s → wi σ H R →
    wpAny (model X.prog X.w) X.A (eval iter X.env) (fun v s1 => wpAny (model X.prog X.w) X.A (pyIter v) (PIE X pins σ tg R) X.xe s1) X.xe s
theorem go_of {M : Model} {A : Around} {E : Value → Shared → Prop} {s : Shared} {tg : Expr} {it : Addr} {u : Value} {o : Obj} {n : String} {vs : Array Value} {Q : Unit → Shared → Prop} (ho : s.heap.get? it = some o) (hc : o.cls = .type n) (hd : o.data = .fields vs)
    (hn : ["enumerate", "zip", "dict_itemiterator", "dict_reverseitemiterator", "odict_iterator", "itertools.zip_longest", "itertools.pairwise"].contains n = false) (hQ : Q () s) : wpAny M A (letOwnedTupleGo tg (.ref it) u) Q E s := by
  unfold letOwnedTupleGo
  cases tg <;> first
    | exact wpAny_pure hQ
    | (cases u <;> first
        | exact wpAny_pure hQ
        | (refine wpAny_bind (wpAny_load ho ?_)
           rw [hc, hd]
           show wpAny M A (if (["enumerate", "zip", "dict_itemiterator", "dict_reverseitemiterator", "odict_iterator", "itertools.zip_longest", "itertools.pairwise"].contains n && vs[0]? == some (rawInt _)) = true then _ else _) Q E s
           rw [if_neg (by intro h; rw [hn, Bool.false_and] at h; cases h)]
           exact wpAny_pure hQ))
def Itl (K : PySem.W.Frag) (a : Addr) : It :=
  ⟨fun i H => ∃ xs x, SqL K H a xs ∧ xs[i]? = some x, fun i H x H' => H' = H ∧ ∀ xs, SqL K H a xs → xs[i]? = some x, fun i H => ∃ xs, SqL K H a xs ∧ xs.length ≤ i⟩
def Itr (lo : Int) (n : Nat) : It := ⟨fun i _ => i < n, fun i H x H' => H' = H ∧ x = .int (lo + i), fun i _ => n ≤ i⟩
theorem turn_list {P : Program} {w : World} {K : PySem.W.Frag} {tg : Expr} (a it : Addr) : Turn P w K tg (Itl K a) [it] it (fun i h => h.IsListIter it a i) where
  mem := by simp
  obj := fun i h st b hb => by
    have e : b = it := by simpa using hb
    subst e
    obtain ⟨o, e, c, d⟩ := st
    exact ⟨o, e, fun v z => by rw [d] at z; cases z⟩
  keep := fun i h h' st k => st.at fun o e => k it (by simp) o e
  item := by
    intro X hP hw hK hc i pins s σ H E I hf st hg
    subst hP hw hK
    obtain ⟨xs, x, hq, hx⟩ := hg
    obtain ⟨its, rv, p, hz⟩ := I.list hq
    obtain ⟨u, hu, ru⟩ := rv.get hx
    obtain ⟨f0, f1, f2, f3, f4, f5⟩ := hf it (by simp)
    refine wpAny_pyNext_list_item st p.isList (x := u) (by simpa using hu) fun h' st' sb => ?_
    have I1 : Inv X pins σ H { s with heap := h' } := I.turned (t' := s.toks) (fun b o hb e => (sb.2 b hb).trans e) f0 f1 f3 f4 f5
    obtain ⟨o, e, c, d⟩ := id st'
    exact ⟨u, rfl, go_of (s := { s with heap := h' }) e c d (by decide) ⟨x, H, I1, ru, ⟨rfl, fun ys hy => by rw [I.list_inj hy hq]; exact hx⟩, st', fun b hb => (hf b hb).1⟩⟩
  done := by
    intro X hP hw hK hc i pins s σ H E I hf st hg
    subst hP hw hK
    obtain ⟨xs, hq, hx⟩ := hg
    obtain ⟨its, rv, p, hz⟩ := I.list hq
    obtain ⟨f0, f1, f2, f3, f4, f5⟩ := hf it (by simp)
    have hl := rv.length
    exact wpAny_pyNext_list_end (I.ok.hd hc) st p.isList (by simp; omega) fun h' eb => ⟨rfl, I.turned (t' := s.toks) (fun b o hb e => eb b o hb e) f0 f1 f3 f4 f5⟩
  self := fun _ _ _ _ _ st h => wpAny_pyIter_listiter st h
theorem turn_range {P : Program} {w : World} {K : PySem.W.Frag} {tg : Expr} (it : Addr) (lo : Int) (n : Nat) : Turn P w K tg (Itr lo n) [it] it (fun i h => IsRangeIter h it (lo + (i : Nat) * 1) ((n : Int) - (i : Nat)) 1) where
  mem := by simp
  obj := fun i h st b hb => by
    have e : b = it := by simpa using hb
    subst e
    exact ⟨_, st, fun v z => by
      have z' : Data.fields _ = Data.cell v := z
      cases z'⟩
  keep := fun i h h' st k => k it (by simp) _ st
  item := by
    intro X hP hw hK hc i pins s σ H E I hf st hg
    subst hP hw hK
    obtain ⟨f0, f1, f2, f3, f4, f5⟩ := hf it (by simp)
    have W := Walks.range (prog := X.prog) (w := X.w) (I.ok.hd hc) it lo 1 n
    refine W.item i s _ _ hg st fun v h' tk hv st' kk => ?_
    obtain ⟨t, rfl⟩ := hv
    have I1 : Inv X pins σ H { s with heap := h', toks := tk } := I.turned (fun b o hb e => kk b o (by simpa using hb) e) f0 f1 f3 f4 f5
    refine ⟨_, rfl, go_of (s := { s with heap := h', toks := tk }) (n := "range_iterator") st' rfl rfl (by decide) ⟨.int (lo + i), H, I1, ⟨t, ?_⟩, ⟨rfl, rfl⟩, st', fun b hb => (hf b hb).1⟩⟩
    rw [Int.mul_one]
  done := by
    intro X hP hw hK hc i pins s σ H E I hf st hg
    subst hP hw hK
    obtain ⟨f0, f1, f2, f3, f4, f5⟩ := hf it (by simp)
    exact wpAny_pyNext_range_end (I.ok.hd hc) st (by have : n ≤ i := hg; omega) fun h' eb => ⟨rfl, I.turned (t' := s.toks) (fun b o hb e => eb b o hb e) f0 f1 f3 f4 f5⟩
  self := fun _ _ _ _ _ st h => wpAny_pyIter_rangeiter st h
end L2
namespace L2
open PySem PySem.Spec PyProof.Rows
section
variable {X : Cx} {tg : Expr}
def iList (K : PySem.W.Frag) (tl : TE) : TI := fun σ H R => tl σ H fun x H1 => ∃ a, x = .ref a ∧ (∃ xs, SqL K H1 a xs) ∧ R (Itl K a) H1
theorem pi_list {l : Expr} {tl : TE} (hl : PE X l tl) : PI X tg l (iList X.K tl) := by
  intro pins s σ H R I h
  refine thn (hl pins s σ H _ I h) fun v s1 ⟨x, H1, I1, r1, q1⟩ => ?_
  obtain ⟨a, e, ⟨xs, hq⟩, q⟩ := q1
  subst e
  cases r1
  obtain ⟨its, rv, p, hz⟩ := I1.list hq
  refine wpAny_pyIter_list p.isList ?_
  refine ⟨s1.heap.objs.size, [s1.heap.objs.size], _, _, H1, rfl, I1.kept (t' := s1.toks) fun b o e => Heap.get?_push_of_some _ e, turn_list a _, ⟨_, Heap.get?_push_size _ rfl, rfl, rfl⟩, fun b hb => ?_, q⟩
  have e : b = s1.heap.objs.size := by simpa using hb
  subst e
  exact I1.fpOk (Nat.le_refl _) (I1.hok.fresh (Nat.le_refl _))
theorem range_it {pins : List (Addr × Obj)} {σ : St} {H : Hp} {s : Shared} {R : It → Hp → Prop} {E : Value → Shared → Prop} {lo hi : Int} {t u v : Tok} {tk : Nat} (I : Inv X pins σ H s) (h1 : -(2 ^ 62) ≤ lo) (h2 : lo < 2 ^ 62) (h3 : -(2 ^ 62) ≤ hi) (h4 : hi < 2 ^ 62)
    (q : R (Itr lo (hi - lo).toNat) H) : wpAny (model X.prog X.w) X.A (pyIter (.ref s.heap.objs.size)) (PIE X pins σ tg R) E { s with heap := s.heap.push { cls := .type "range", data := .fields #[.int lo t, .int hi u, .int 1 v] }, toks := tk } := by
  refine wpAny_pyIter_range (IsRange.new ..) (small_one h1 h2 h3 h4) ?_
  have I1 : Inv X pins σ H { s with heap := s.heap.push { cls := .type "range", data := .fields #[.int lo t, .int hi u, .int 1 v] }, toks := tk } := I.kept fun b o e => Heap.get?_push_of_some _ e
  refine ⟨(s.heap.push { cls := .type "range", data := .fields #[.int lo t, .int hi u, .int 1 v] }).objs.size, [(s.heap.push { cls := .type "range", data := .fields #[.int lo t, .int hi u, .int 1 v] }).objs.size], _, _, H, rfl,
    I1.kept (t' := tk) fun b o e => Heap.get?_push_of_some _ e, turn_range _ lo (hi - lo).toNat, ?_, fun b hb => ?_, q⟩
  · have e1 : lo + ((0 : Nat) : Int) * 1 = lo := by simp
    have e2 : (((hi - lo).toNat : Nat) : Int) - ((0 : Nat) : Int) = Builtin.Range.rangeSize lo hi 1 := by rw [rangeSize_one]; split <;> omega
    show IsRangeIter _ _ (lo + ((0 : Nat) : Int) * 1) ((((hi - lo).toNat : Nat) : Int) - ((0 : Nat) : Int)) 1
    rw [e1, e2]
    exact Heap.get?_push_size _ rfl
  · have e : b = (s.heap.push { cls := .type "range", data := .fields #[.int lo t, .int hi u, .int 1 v] }).objs.size := by simpa using hb
    subst e
    exact I1.fpOk (Nat.le_refl _) (I1.hok.fresh (Nat.le_refl _))
def iRng1 (ta : TA) : TI := fun σ H R => ta σ H fun vs H1 => ∃ j : Int, vs = [.int j] ∧ -(2 ^ 62) ≤ j ∧ j < 2 ^ 62 ∧ R (Itr 0 j.toNat) H1
theorem pi_range1 {a : Expr} {ta : TA} {p pos : Pos} (hg : Gl X "range") (hm : X.mg "range" = none) (ha : PA X [a] ta) (hs : starEach [a] X.env = [(false, eval a X.env)] := by rfl) : PI X tg (.Call (.Name "range" p) [a] [] pos) (iRng1 ta) := by
  intro pins s σ H R I h
  refine Call_ (ld_blt I hg hm boot_range (PyProof.Rows.callWith_type1 (thn (ha pos pins s σ H _ I h) fun us s1 ⟨vs, H1, I1, r1, q1⟩ => ?_) hs rfl))
  obtain ⟨j, e, q1, q2, q⟩ := q1
  subst e
  cases r1 with
  | cons r rr =>
    cases rr
    obtain ⟨t, rfl⟩ := r
    exact call_range_1 (range_it I1 (by omega) (by omega) q1 q2 (by simpa using q))
def tFor (wi : TI) (g : TG) (tb : TS) : TS := fun D σ H => wi σ H fun J H1 => ∃ W : Nat → Nat → St → Hp → Prop, (∃ m, W 0 m σ H1) ∧ ∀ i m σ H, W i m σ H →
  (J.stop i H ∧ D.nx σ H) ∨ (J.go i H ∧ ∃ N : St → Hp → Prop, (∀ σ' H', N σ' H' → ∃ m', m' < m ∧ W (i + 1) m' σ' H') ∧ ∀ x H', J.yld i H x H' → g x σ H' fun σ2 H2 => tb { D with nx := N, ct := N, bk := D.nx } σ2 H2)
def pinsAt (fp : List Addr) (h : Heap) : List (Addr × Obj) := fp.filterMap fun b => (h.get? b).map fun o => (b, o)
theorem mem_pinsAt {fp : List Addr} {h : Heap} {b : Addr} {o : Obj} (hb : b ∈ fp) (e : h.get? b = some o) : (b, o) ∈ pinsAt fp h := List.mem_filterMap.mpr ⟨b, hb, by rw [e]; rfl⟩
theorem of_pinsAt {fp : List Addr} {h : Heap} {p : Addr × Obj} (hp : p ∈ pinsAt fp h) : p.1 ∈ fp ∧ h.get? p.1 = some p.2 := by
  obtain ⟨b, hb, e⟩ := List.mem_filterMap.mp hp
  cases q : h.get? b with
  | none => rw [q] at e; cases e
  | some o =>
    rw [q] at e
    have e' : (b, o) = p := Option.some.inj e
    subst e'
    exact ⟨hb, q⟩
theorem Inv.pinned {pins : List (Addr × Obj)} {σ : St} {H : Hp} {s : Shared} {fp : List Addr} (I : Inv X pins σ H s) (hf : ∀ b ∈ fp, FpOk X pins H b) (ho : ∀ b ∈ fp, ∃ o, s.heap.get? b = some o ∧ ∀ v, o.data ≠ .cell v) : Inv X (pins ++ pinsAt fp s.heap) σ H s :=
  I.pins_of fun p hp => (List.mem_append.mp hp).elim (fun z => I.pin p (List.mem_append_right _ z)) fun z => by
    obtain ⟨hb, e⟩ := of_pinsAt z
    obtain ⟨f0, f1, f2, _⟩ := hf p.1 hb
    obtain ⟨o, e', d⟩ := ho p.1 hb
    rw [e] at e'; cases e'
    exact ⟨e, f0, f1, f2, d⟩
theorem Inv.unpinned {pins pl : List (Addr × Obj)} {σ : St} {H : Hp} {s : Shared} (I : Inv X (pins ++ pl) σ H s) : Inv X pins σ H s := I.pins_of fun p hp => I.pin p (List.mem_append_right _ (List.mem_append_left _ hp))
theorem ps_for {iter : Expr} {body : List Stmt} {wi : TI} {g : TG} {tb : TS} {pos : Pos} (hp : PassesOwn (model X.prog X.w) X.A X.env X.xe) (hc : X.calm = true) (hi : PI X tg iter wi) (hg : PG X tg g) (hb : PSs X body tb)
    (hs : ∀ x, foldedSetIterable iter X.env x = pure x := by intro _; rfl) : PS X (.For tg iter body [] pos) (tFor wi g tb) := by
  intro pins s σ H D I h
  refine wpAny_For (thn (hi pins s σ H _ I h) fun v s1 h1 => thn h1 fun itv s2 h2 => ?_) hs
  obtain ⟨it, fp, tn, J, H2, e, I2, T, st2, f2, W, ⟨m0, w0⟩, turn⟩ := h2
  subst e
  have stat : ∀ {H' : Hp}, (∀ b ∈ fp, H' b = none) → ∀ b ∈ fp, FpOk X pins H' b := fun hn b hb => ⟨hn b hb, (f2 b hb).2⟩
  refine codeAny_forLoop_any (fun n s' => ∃ i σ' H', Inv X pins σ' H' s' ∧ tn i s'.heap ∧ (∀ b ∈ fp, H' b = none) ∧ W i n σ' H') ?_ m0 ⟨0, σ, H2, I2, st2, fun b hb => (f2 b hb).1, w0⟩
  rintro n s3 ⟨i, σ3, H3, I3, st3, fr3, w3⟩
  rcases turn i n σ3 H3 w3 with ⟨stop, qn⟩ | ⟨go, N, hN, step⟩
  · refine wpAny_passesOwn hp (thn (T.done X rfl rfl rfl hc i pins s3 σ3 H3 X.xe I3 (stat fr3) st3 stop) fun r s4 ⟨hr, I4⟩ => ?_)
    subst hr
    exact wpAny_execs_nil ⟨σ3, H3, I4, qn⟩
  · refine wpAny_passesOwn hp (thn (T.item X rfl rfl rfl hc i pins s3 σ3 H3 X.xe I3 (stat fr3) st3 go) fun r s4 ⟨u, hr, h4⟩ => ?_)
    subst hr
    refine wpAny_passesOwn hp (thn h4 fun _ s5 ⟨x, H5, I5, r5, y5, st5, fr5⟩ => ?_)
    have I5' := I5.pinned (stat fr5) (T.obj _ _ st5)
    refine wpAny_passesOwn hp (thn (hg _ s5 σ3 H5 x u _ I5' r5 (step x H5 y5)) fun _ s6 ⟨σ6, H6, I6, q6⟩ => ?_)
    refine wpAny_passesOwn hp (thn (hb _ s6 σ6 H6 _ I6 q6) fun f s7 q7 => ?_)
    have again : ∀ {σ7 : St} {H7 : Hp}, Inv X (pins ++ pinsAt fp s5.heap) σ7 H7 s7 → N σ7 H7 → ∃ m, m < n ∧ ∃ i σ' H', Inv X pins σ' H' s7 ∧ tn i s7.heap ∧ (∀ b ∈ fp, H' b = none) ∧ W i m σ' H' := fun {σ7 H7} I7 n7 => by
      obtain ⟨m', hm, w7⟩ := hN σ7 H7 n7
      refine ⟨m', hm, i + 1, σ7, H7, I7.unpinned, T.keep _ _ _ st5 fun b hb o e => (I7.pin (b, o) (List.mem_append_right _ (List.mem_append_right _ (mem_pinsAt hb e)))).1, fun b hb => ?_, w7⟩
      obtain ⟨o, e, d⟩ := T.obj _ _ st5 b hb
      exact (I7.pin (b, o) (List.mem_append_right _ (List.mem_append_right _ (mem_pinsAt hb e)))).2.1
    cases f with
    | next => obtain ⟨σ7, H7, I7, n7⟩ := q7; exact again I7 n7
    | cont => obtain ⟨σ7, H7, I7, n7⟩ := q7; exact again I7 n7
    | brk => obtain ⟨σ7, H7, I7, q7⟩ := q7; exact ⟨σ7, H7, I7.unpinned, q7⟩
    | ret v => obtain ⟨x7, σ7, H7, I7, r7, q7⟩ := q7; exact ⟨x7, σ7, H7, I7.unpinned, r7, q7⟩
end
theorem for_list {K : PySem.W.Frag} {a : Addr} {xs : List V} {g : TG} {tb : TS} {D : Ends} {σ : St} {H : Hp} (Pv : Nat → St → Hp → Prop) (h0 : Pv 0 σ H) (hl : ∀ i σ H, i ≤ xs.length → Pv i σ H → SqL K H a xs)
    (hs : ∀ i x σ H, xs[i]? = some x → Pv i σ H → g x σ H fun σ2 H2 => tb { D with nx := Pv (i + 1), ct := Pv (i + 1), bk := D.nx } σ2 H2) (hd : ∀ σ H, Pv xs.length σ H → D.nx σ H) :
    ∃ W : Nat → Nat → St → Hp → Prop, (∃ m, W 0 m σ H) ∧ ∀ i m σ H, W i m σ H →
      ((Itl K a).stop i H ∧ D.nx σ H) ∨ ((Itl K a).go i H ∧ ∃ N : St → Hp → Prop, (∀ σ' H', N σ' H' → ∃ m', m' < m ∧ W (i + 1) m' σ' H') ∧ ∀ x H', (Itl K a).yld i H x H' → g x σ H' fun σ2 H2 => tb { D with nx := N, ct := N, bk := D.nx } σ2 H2) := by
  refine ⟨fun i m σ H => m = xs.length - i ∧ i ≤ xs.length ∧ Pv i σ H, ⟨xs.length, by simp, Nat.zero_le _, h0⟩, ?_⟩
  rintro i m σ H ⟨rfl, hi, p⟩
  have q := hl i σ H hi p
  by_cases hlt : i < xs.length
  · refine .inr ⟨⟨xs, xs[i], q, by simp [hlt]⟩, Pv (i + 1), fun σ' H' p' => ⟨xs.length - (i + 1), by omega, rfl, hlt, p'⟩, fun x H' y => ?_⟩
    obtain ⟨e, y⟩ := y
    subst e
    exact hs i x σ _ (y xs q) p
  · have e : i = xs.length := by omega
    subst e
    exact .inl ⟨⟨xs, q, Nat.le_refl _⟩, hd σ H p⟩
theorem for_range {lo : Int} {n : Nat} {g : TG} {tb : TS} {D : Ends} {σ : St} {H : Hp} (Pv : Nat → St → Hp → Prop) (h0 : Pv 0 σ H)
    (hs : ∀ i σ H, i < n → Pv i σ H → g (.int (lo + i)) σ H fun σ2 H2 => tb { D with nx := Pv (i + 1), ct := Pv (i + 1), bk := D.nx } σ2 H2) (hd : ∀ σ H, Pv n σ H → D.nx σ H) :
    ∃ W : Nat → Nat → St → Hp → Prop, (∃ m, W 0 m σ H) ∧ ∀ i m σ H, W i m σ H →
      ((Itr lo n).stop i H ∧ D.nx σ H) ∨ ((Itr lo n).go i H ∧ ∃ N : St → Hp → Prop, (∀ σ' H', N σ' H' → ∃ m', m' < m ∧ W (i + 1) m' σ' H') ∧ ∀ x H', (Itr lo n).yld i H x H' → g x σ H' fun σ2 H2 => tb { D with nx := N, ct := N, bk := D.nx } σ2 H2) := by
  refine ⟨fun i m σ H => m = n - i ∧ i ≤ n ∧ Pv i σ H, ⟨n, by simp, Nat.zero_le _, h0⟩, ?_⟩
  rintro i m σ H ⟨rfl, hi, p⟩
  by_cases hlt : i < n
  · refine .inr ⟨hlt, Pv (i + 1), fun σ' H' p' => ⟨n - (i + 1), by omega, rfl, hlt, p'⟩, fun x H' y => ?_⟩
    obtain ⟨e, y⟩ := y
    subst e y
    exact hs i σ _ hlt p
  · have e : i = n := by omega
    subst e
    exact .inl ⟨Nat.le_refl _, hd σ H p⟩
end L2
namespace L2
open PySem PySem.Spec PyProof.Rows
abbrev R2 := V → V → Hp → VK → Prop
def OpR (X : Cx) (f : Value → Value → Sem Value) (r : R2) : Prop :=
  ∀ (pins : List (Addr × Obj)) (s : Shared) (σ : St) (H : Hp) (x y : V) (v u : Value) (Q : VK), Inv X pins σ H s → RelV x v → RelV y u → r x y H Q →
    wpAny (model X.prog X.w) X.A (f v u) (EP X pins σ Q) X.xe s
def UnR (X : Cx) (f : Value → Sem Value) (r : V → Hp → VK → Prop) : Prop :=
  ∀ (pins : List (Addr × Obj)) (s : Shared) (σ : St) (H : Hp) (x : V) (v : Value) (Q : VK), Inv X pins σ H s → RelV x v → r x H Q →
    wpAny (model X.prog X.w) X.A (f v) (EP X pins σ Q) X.xe s
def CallR (X : Cx) (f : Value) (r : List V → Hp → VK → Prop) : Prop :=
  ∀ (pins : List (Addr × Obj)) (s : Shared) (σ : St) (H : Hp) (xs : List V) (us : List Value) (Q : VK), Inv X pins σ H s → Vals xs us → r xs H Q →
    wpAny (model X.prog X.w) X.A (call f us) (EP X pins σ Q) X.xe s
def tOp (r : R2) (ta tb : TE) : TE := fun σ H Q => ta σ H fun x H1 => tb σ H1 fun y H2 => r x y H2 Q
def tUn (r : V → Hp → VK → Prop) (ta : TE) : TE := fun σ H Q => ta σ H fun x H1 => r x H1 Q
def rI (C : Int → Int → Prop) (g : Int → Int → V) : R2 := fun x y H Q => ∃ i j, x = .int i ∧ y = .int j ∧ C i j ∧ Q (g i j) H
def rI0 (g : Int → Int → V) : R2 := fun x y H Q => ∃ i j, x = .int i ∧ y = .int j ∧ Q (g i j) H
def rU (g : Int → V) : V → Hp → VK → Prop := fun x H Q => ∃ i, x = .int i ∧ Q (g i) H
section
variable {X : Cx} {a b c : Expr} {ta tb tc : TE} {pos : Pos}
theorem binT (ha : PE X a ta) (hb : PE X b tb) {pins : List (Addr × Obj)} {s : Shared} {σ : St} {H : Hp} {R : V → V → Hp → Prop} (I : Inv X pins σ H s)
    (h : ta σ H fun x H1 => tb σ H1 fun y H2 => R x y H2) {Q : Value → Shared → Prop} {f : Value → Value → Sem Value}
    (hf : ∀ v u s2 x y H2, Inv X pins σ H2 s2 → RelV x v → RelV y u → R x y H2 → wpAny (model X.prog X.w) X.A (f v u) Q X.xe s2) :
    wpAny (model X.prog X.w) X.A (eval a X.env) (fun v s₁ => wpAny (model X.prog X.w) X.A (eval b X.env) (fun u s₂ => wpAny (model X.prog X.w) X.A (f v u) Q X.xe s₂) X.xe s₁) X.xe s := by
  refine thn (ha pins s σ H _ I h) fun v s1 ⟨x, H1, I1, r1, q1⟩ => ?_
  refine thn (hb pins s1 σ H1 _ I1 q1) fun u s2 ⟨y, H2, I2, r2, q2⟩ => ?_
  exact hf v u s2 x y H2 I2 r1 r2 q2
theorem pe_op {op : Operator} {r : R2} (ho : OpR X (binaryOp op) r) (ha : PE X a ta) (hb : PE X b tb) : PE X (.BinOp a op b pos) (tOp r ta tb) := by
  intro pins s σ H Q I h
  exact wpAny_BinOp (binT ha hb I h fun v u s2 x y H2 I2 rx ry q => ho pins s2 σ H2 x y v u Q I2 rx ry q)
theorem pe_un {op : UnaryOp} {r : V → Hp → VK → Prop} (ho : UnR X (unaryOp op) r) (ha : PE X a ta) : PE X (.UnaryOp op a pos) (tUn r ta) := by
  intro pins s σ H Q I h
  exact UnaryOp_ (thn (ha pins s σ H _ I h) fun v s1 ⟨x, H1, I1, r1, q1⟩ => ho pins s1 σ H1 x v Q I1 r1 q1)
theorem opI {f : Value → Value → Sem Value} {C : Int → Int → Prop} {g : Int → Int → Int}
    (rule : ∀ (i j : Int) (t u : Tok) (s : Shared) (Q : Value → Shared → Prop) (E : Value → Shared → Prop), C i j → Q (.int (g i j) s.toks) { s with toks := s.toks + 1 } → wpAny (model X.prog X.w) X.A (f (.int i t) (.int j u)) Q E s) :
    OpR X f (rI C fun i j => .int (g i j)) := by
  intro pins s σ H x y v u Q I rx ry h
  obtain ⟨i, j, rfl, rfl, hc, q⟩ := h
  obtain ⟨t, rfl⟩ := rx
  obtain ⟨t', rfl⟩ := ry
  exact rule i j t t' s _ _ hc ⟨.int (g i j), H, I.tok _, ⟨_, rfl⟩, q⟩
theorem opI0 {f : Value → Value → Sem Value} {g : Int → Int → Int}
    (rule : ∀ (i j : Int) (t u : Tok) (s : Shared) (Q : Value → Shared → Prop) (E : Value → Shared → Prop), Q (.int (g i j) s.toks) { s with toks := s.toks + 1 } → wpAny (model X.prog X.w) X.A (f (.int i t) (.int j u)) Q E s) :
    OpR X f (rI0 fun i j => .int (g i j)) := by
  intro pins s σ H x y v u Q I rx ry h
  obtain ⟨i, j, rfl, rfl, q⟩ := h
  obtain ⟨t, rfl⟩ := rx
  obtain ⟨t', rfl⟩ := ry
  exact rule i j t t' s _ _ ⟨.int (g i j), H, I.tok _, ⟨_, rfl⟩, q⟩
theorem opB0 {f : Value → Value → Sem Value} {g : Int → Int → Bool}
    (rule : ∀ (i j : Int) (t u : Tok) (s : Shared) (Q : Value → Shared → Prop) (E : Value → Shared → Prop), Q (.bool (g i j)) s → wpAny (model X.prog X.w) X.A (f (.int i t) (.int j u)) Q E s) :
    OpR X f (rI0 fun i j => .bl (g i j)) := by
  intro pins s σ H x y v u Q I rx ry h
  obtain ⟨i, j, rfl, rfl, q⟩ := h
  obtain ⟨t, rfl⟩ := rx
  obtain ⟨t', rfl⟩ := ry
  exact rule i j t t' s _ _ ⟨.bl (g i j), H, I, rfl, q⟩
def CPow (i j : Int) : Prop := 0 ≤ j ∧ j ≤ 1000000 ∧ i.natAbs < 2 ^ 64
def CMul (i j : Int) : Prop := (-(2 ^ 64) < i ∧ i < 2 ^ 64) ∨ (-(2 ^ 64) < j ∧ j < 2 ^ 64)
theorem CMul.ok {i j : Int} (h : CMul i j) : IntMulOk i j := by
  rcases h with ⟨h1, h2⟩ | ⟨h1, h2⟩
  · exact .of_left (intBits_le_64 h1 h2)
  · exact .of_right (intBits_le_64 h1 h2)
theorem op_add : OpR X (binaryOp .Add) (rI0 fun i j => .int (i + j)) := opI0 fun _ _ _ _ _ _ _ q => add_int q
theorem op_sub : OpR X (binaryOp .Sub) (rI0 fun i j => .int (i - j)) := opI0 fun _ _ _ _ _ _ _ q => sub_int q
theorem op_mod : OpR X (binaryOp .Mod) (rI (fun _ j => 0 < j) fun i j => .int (i % j)) := opI fun i j _ _ _ _ _ hc q => by
  have h1 : (0 : Int) < j := hc
  exact mod_int' (by omega) (by rw [Int.fmod_eq_emod_of_nonneg i (by omega)]; exact q)
theorem op_pow : OpR X (binaryOp .Pow) (rI CPow fun i j => .int (i ^ j.toNat)) := opI fun _ _ _ _ _ _ _ hc q => pow_int_small hc.1 hc.2.1 hc.2.2 q
theorem unI {f : Value → Sem Value} {g : Int → Int}
    (rule : ∀ (i : Int) (t : Tok) (s : Shared) (Q : Value → Shared → Prop) (E : Value → Shared → Prop), Q (.int (g i) s.toks) { s with toks := s.toks + 1 } → wpAny (model X.prog X.w) X.A (f (.int i t)) Q E s) :
    UnR X f (rU fun i => .int (g i)) := by
  intro pins s σ H x v Q I rx h
  obtain ⟨i, rfl, q⟩ := h
  obtain ⟨t, rfl⟩ := rx
  exact rule i t s _ _ ⟨.int (g i), H, I.tok _, ⟨_, rfl⟩, q⟩
theorem un_neg : UnR X (unaryOp .USub) (rU fun i => .int (-i)) := unI fun _ _ _ _ _ q => neg_int q
end
def scal : V → V → Bool
  | .non, .non => true | .non, .int _ => true | .int _, .non => true | .non, .bl _ => true | .bl _, .non => true | .non, .str _ => true | .str _, .non => true
  | .int _, .int _ => true | .bl _, .bl _ => true | .str _, .str _ => true | .byt _, .byt _ => true
  | .int _, .str _ => true | .str _, .int _ => true | .bl _, .str _ => true | .str _, .bl _ => true
  | _, _ => false
def rEq : R2 := fun x y H Q => scal x y = true ∧ Q (.bl (decide (x = y))) H
def rNe : R2 := fun x y H Q => scal x y = true ∧ Q (.bl (!decide (x = y))) H
theorem dec_int {i j : Int} : decide (V.int i = V.int j) = (i == j) := by
  rw [Bool.eq_iff_iff]
  simp
theorem dec_bl {i j : Bool} : decide (V.bl i = V.bl j) = (i == j) := by
  rw [Bool.eq_iff_iff]
  simp
theorem dec_str {i j : Str} : decide (V.str i = V.str j) = (i == j) := by
  rw [Bool.eq_iff_iff]
  simp
theorem dec_byt {i j : Array UInt8} : decide (V.byt i = V.byt j) = (i.toList == j.toList) := by
  rw [Bool.eq_iff_iff]
  cases i
  cases j
  simp
section
variable {X : Cx} {a b c : Expr} {ta tb tc : TE} {pos : Pos}
theorem fin_bl {pins : List (Addr × Obj)} {σ : St} {H : Hp} {s : Shared} {Q : VK} {k k' : Bool} (I : Inv X pins σ H s) (q : Q (.bl k) H) (e : k = k') : EP X pins σ Q (.bool k') s := by
  subst e
  exact ⟨.bl k, H, I, rfl, q⟩
theorem op_eq : OpR X (compareOp .Eq) rEq := by
  intro pins s σ H x y v u Q I rx ry h
  obtain ⟨hs, q⟩ := h
  cases x with
  | non =>
    cases rx
    cases y with
    | non => cases ry; exact PySem.EqNone.eq_none_none (fin_bl I q (by simp))
    | bl j => cases ry; exact PySem.EqNone.eq_none_bool (fin_bl I q (by simp))
    | int j => obtain ⟨t', rfl⟩ := ry; exact PySem.EqNone.eq_none_int (fin_bl I q (by simp))
    | str j => obtain ⟨t', rfl⟩ := ry; exact PySem.EqNone.eq_none_str (fin_bl I q (by simp))
    | _ => exact absurd (show false = true from hs) Bool.false_ne_true
  | bl i =>
    cases rx
    cases y with
    | non => cases ry; exact PySem.EqNone.eq_bool_none (fin_bl I q (by simp))
    | bl j => cases ry; exact eq_bool (fin_bl I q dec_bl)
    | str j => obtain ⟨t', rfl⟩ := ry; exact PySem.EqMixed.eq_bool_str (fin_bl I q (by simp))
    | _ => exact absurd (show false = true from hs) Bool.false_ne_true
  | int i =>
    obtain ⟨t, rfl⟩ := rx
    cases y with
    | non => cases ry; exact PySem.EqNone.eq_int_none (fin_bl I q (by simp))
    | int j => obtain ⟨t', rfl⟩ := ry; exact eq_int (fin_bl I q dec_int)
    | str j => obtain ⟨t', rfl⟩ := ry; exact PySem.EqMixed.eq_int_str (fin_bl I q (by simp))
    | _ => exact absurd (show false = true from hs) Bool.false_ne_true
  | str i =>
    obtain ⟨t, rfl⟩ := rx
    cases y with
    | non => cases ry; exact PySem.EqNone.eq_str_none (fin_bl I q (by simp))
    | bl j => cases ry; exact PySem.EqMixed.eq_str_bool (fin_bl I q (by simp))
    | int j => obtain ⟨t', rfl⟩ := ry; exact PySem.EqMixed.eq_str_int (fin_bl I q (by simp))
    | str j => obtain ⟨t', rfl⟩ := ry; exact eq_str (fin_bl I q dec_str)
    | _ => exact absurd (show false = true from hs) Bool.false_ne_true
  | byt i =>
    obtain ⟨t, rfl⟩ := rx
    cases y with
    | byt j => obtain ⟨t', rfl⟩ := ry; exact PySem.W.eq_bytes (fin_bl I q dec_byt)
    | _ => exact absurd (show false = true from hs) Bool.false_ne_true
  | _ => cases y <;> exact absurd (show false = true from hs) Bool.false_ne_true
theorem op_ne : OpR X (compareOp .NotEq) rNe := by
  intro pins s σ H x y v u Q I rx ry h
  obtain ⟨hs, q⟩ := h
  cases x with
  | non =>
    cases rx
    cases y with
    | non => cases ry; exact PySem.EqNone.ne_none_none (fin_bl I q (by simp))
    | bl j => cases ry; exact PySem.EqNone.ne_none_bool (fin_bl I q (by simp))
    | int j => obtain ⟨t', rfl⟩ := ry; exact PySem.EqNone.ne_none_int (fin_bl I q (by simp))
    | str j => obtain ⟨t', rfl⟩ := ry; exact PySem.EqNone.ne_none_str (fin_bl I q (by simp))
    | _ => exact absurd (show false = true from hs) Bool.false_ne_true
  | bl i =>
    cases rx
    cases y with
    | non => cases ry; exact PySem.EqNone.ne_bool_none (fin_bl I q (by simp))
    | bl j => cases ry; exact ne_bool (fin_bl I q (congrArg not dec_bl))
    | str j => obtain ⟨t', rfl⟩ := ry; exact PySem.EqMixed.ne_bool_str (fin_bl I q (by simp))
    | _ => exact absurd (show false = true from hs) Bool.false_ne_true
  | int i =>
    obtain ⟨t, rfl⟩ := rx
    cases y with
    | non => cases ry; exact PySem.EqNone.ne_int_none (fin_bl I q (by simp))
    | int j => obtain ⟨t', rfl⟩ := ry; exact ne_int (fin_bl I q (congrArg not dec_int))
    | str j => obtain ⟨t', rfl⟩ := ry; exact PySem.EqMixed.ne_int_str (fin_bl I q (by simp))
    | _ => exact absurd (show false = true from hs) Bool.false_ne_true
  | str i =>
    obtain ⟨t, rfl⟩ := rx
    cases y with
    | non => cases ry; exact PySem.EqNone.ne_str_none (fin_bl I q (by simp))
    | bl j => cases ry; exact PySem.EqMixed.ne_str_bool (fin_bl I q (by simp))
    | int j => obtain ⟨t', rfl⟩ := ry; exact PySem.EqMixed.ne_str_int (fin_bl I q (by simp))
    | str j => obtain ⟨t', rfl⟩ := ry; exact ne_str (fin_bl I q (congrArg not dec_str))
    | _ => exact absurd (show false = true from hs) Bool.false_ne_true
  | byt i =>
    obtain ⟨t, rfl⟩ := rx
    cases y with
    | byt j => obtain ⟨t', rfl⟩ := ry; exact PySem.W.ne_bytes (fin_bl I q (congrArg not dec_byt))
    | _ => exact absurd (show false = true from hs) Bool.false_ne_true
  | _ => cases y <;> exact absurd (show false = true from hs) Bool.false_ne_true
theorem op_lt : OpR X (compareOp .Lt) (rI0 fun i j => .bl (decide (i < j))) := opB0 fun _ _ _ _ _ _ _ q => lt_int q
theorem op_gt : OpR X (compareOp .Gt) (rI0 fun i j => .bl (decide (j < i))) := opB0 fun _ _ _ _ _ _ _ q => gt_int q
theorem op_ge : OpR X (compareOp .GtE) (rI0 fun i j => .bl (decide (j ≤ i))) := opB0 fun _ _ _ _ _ _ _ q => ge_int q
theorem op_isN : OpR X (compareOp .Is) (fun x y H Q => y = .non ∧ Q (.bl (decide (x = .non))) H) := by
  intro pins s σ H x y v u Q I rx ry h
  obtain ⟨rfl, q⟩ := h
  cases ry
  refine is_none_gen (fin_bl I q ?_)
  cases x <;> first
    | (cases rx; rfl)
    | (obtain ⟨t, rfl⟩ := rx; rfl)
theorem op_notN : OpR X (compareOp .IsNot) (fun x y H Q => y = .non ∧ Q (.bl (!decide (x = .non))) H) := by
  intro pins s σ H x y v u Q I rx ry h
  obtain ⟨rfl, q⟩ := h
  cases ry
  refine isnot_none_gen (fin_bl I q ?_)
  cases x <;> first
    | (cases rx; rfl)
    | (obtain ⟨t, rfl⟩ := rx; rfl)
theorem OpR.or {f : Value → Value → Sem Value} {r r' : R2} (h : OpR X f r) (h' : OpR X f r') : OpR X f (fun x y H Q => r x y H Q ∨ r' x y H Q) := by
  intro pins s σ H x y v u Q I rx ry q
  rcases q with q | q
  · exact h pins s σ H x y v u Q I rx ry q
  · exact h' pins s σ H x y v u Q I rx ry q
theorem nomark (b : Expr) {op : CmpOp} (h : op ≠ .In := by decide) (h2 : op ≠ .NotIn := by decide) : behindInMarks op b = false := by
  have e1 : (op == CmpOp.In) = false := by cases op <;> first | rfl | exact absurd rfl h
  have e2 : (op == CmpOp.NotIn) = false := by cases op <;> first | rfl | exact absurd rfl h2
  cases b <;> simp [behindInMarks, e1, e2]
theorem pe_cmpR {op : CmpOp} {r : R2} (ho : OpR X (compareOp op) r) (ha : PE X a ta) (hb : PE X b tb) (hm : behindInMarks op b = false) : PE X (.Compare a [op] [b] pos) (tOp r ta tb) := by
  intro pins s σ H Q I h
  exact wpAny_Compare1 (binT ha hb I h fun v u s2 x y H2 I2 rx ry q => ho pins s2 σ H2 x y v u Q I2 rx ry q) hm
def tTest (t : TE) : TT := fun σ H Q => t σ H fun x H' => ∃ k, x = .bl k ∧ Q k H'
theorem pt_cmpR {op : CmpOp} {r : R2} (ho : OpR X (compareOp op) r) (ha : PE X a ta) (hb : PE X b tb) (hm : behindInMarks op b = false) : PT X (.Compare a [op] [b] pos) (tTest (tOp r ta tb)) := by
  intro pins s σ H Q I h
  refine wpAny_isTrue_Compare1 (thn (ha pins s σ H _ I h) fun v s1 ⟨x, H1, I1, r1, q1⟩ => thn (hb pins s1 σ H1 _ I1 q1) fun u s2 ⟨y, H2, I2, r2, q2⟩ =>
    thn (ho pins s2 σ H2 x y v u _ I2 r1 r2 q2) fun c s3 ⟨z, H3, I3, r3, k, e, q3⟩ => ?_) hm
  subst e
  cases r3
  exact wpAny_truthy_bool ⟨H3, I3, q3⟩
theorem line63 : (sizeLine : Nat) < 2 ^ 63 := by rw [sizeLine_eq]; decide
theorem vals1 {x : V} {us : List Value} (r : Vals [x] us) : ∃ u, us = [u] ∧ RelV x u := by
  cases r with
  | cons r1 r2 => cases r2; exact ⟨_, rfl, r1⟩
theorem vals2 {x y : V} {us : List Value} (r : Vals [x, y] us) : ∃ u w', us = [u, w'] ∧ RelV x u ∧ RelV y w' := by
  cases r with
  | cons r1 r2 =>
    cases r2 with
    | cons r3 r4 => cases r4; exact ⟨_, _, rfl, r1, r3⟩
theorem call_abs : CallR X (.builtin "abs") (fun xs H Q => ∃ i, xs = [.int i] ∧ Q (.int (if i < 0 then -i else i)) H) := by
  intro pins s σ H xs us Q I r h
  obtain ⟨i, rfl, q⟩ := h
  obtain ⟨u, rfl, t, rfl⟩ := vals1 r
  exact call_abs_int fun u tk => ⟨.int (if i < 0 then -i else i), H, I.tok _, ⟨_, rfl⟩, q⟩
theorem call_max2 (hc : X.calm = true) : CallR X (.builtin "max") (fun xs H Q => ∃ i j, xs = [.int i, .int j] ∧ Q (.int (if j > i then j else i)) H) := by
  intro pins s σ H xs us Q I r h
  obtain ⟨i, j, rfl, q⟩ := h
  obtain ⟨u, w', rfl, ⟨t, rfl⟩, ⟨t', rfl⟩⟩ := vals2 r
  refine max_two_ints (I.ok.hd hc) fun h' tk k => ⟨_, H, I.kept k, ?_, q⟩
  by_cases hj : j > i
  · rw [if_pos hj, if_pos hj]; exact ⟨_, rfl⟩
  · rw [if_neg hj, if_neg hj]; exact ⟨_, rfl⟩
theorem call_min2 (hc : X.calm = true) : CallR X (.builtin "min") (fun xs H Q => ∃ i j, xs = [.int i, .int j] ∧ Q (.int (if j < i then j else i)) H) := by
  intro pins s σ H xs us Q I r h
  obtain ⟨i, j, rfl, q⟩ := h
  obtain ⟨u, w', rfl, ⟨t, rfl⟩, ⟨t', rfl⟩⟩ := vals2 r
  refine min_two_ints (I.ok.hd hc) fun h' tk k => ⟨_, H, I.kept k, ?_, q⟩
  by_cases hj : j < i
  · rw [if_pos hj, if_pos hj]; exact ⟨_, rfl⟩
  · rw [if_neg hj, if_neg hj]; exact ⟨_, rfl⟩
theorem call_int1 : CallR X (.type "int") (fun xs H Q => (∃ i, xs = [.int i] ∧ Q (.int i) H) ∨ ∃ k, xs = [.bl k] ∧ Q (.int (if k then 1 else 0)) H) := by
  intro pins s σ H xs us Q I r h
  rcases h with ⟨i, rfl, q⟩ | ⟨k, rfl, q⟩
  · obtain ⟨u, rfl, t, rfl⟩ := vals1 r
    exact call_int_int ⟨.int i, H, I, ⟨_, rfl⟩, q⟩
  · obtain ⟨u, rfl, r1⟩ := vals1 r
    cases r1
    exact call_int_bool ⟨.int (if k then 1 else 0), H, I.tok _, ⟨_, rfl⟩, q⟩
end
end L2
namespace L2
open PySem PySem.Spec PyProof.Rows
structure ObjM (h : Heap) (x dx C : Addr) (mA : Str → Option Value) : Prop where
  obj : h.get? x = some (PySem.W.instObj C dx)
  ns : h.Ns1 dx mA
  ne : dx ≠ x
theorem lookIn_ns {h : Heap} {dx : Addr} {mA : Str → Option Value} (n : h.Ns1 dx mA) : ∃ od, h.get? dx = some od ∧ ∀ name, PySem.W.lookIn name od = some (mA name) := by
  obtain ⟨o, es, ep, ho, hd, hk, _, hm⟩ := n
  refine ⟨o, ho, fun name => ?_⟩
  have e := hm name
  unfold nsFind findBy at e
  rw [← Array.find?_toList] at e
  unfold PySem.W.lookIn
  rw [hd]
  dsimp only
  split
  · rename_i y q
    rw [q] at e
    exact congrArg some e
  · rename_i q
    rw [q] at e
    have a : es.toList.any (·.refKey) = false := by
      rw [List.any_eq_false]
      intro y hy
      obtain ⟨z, t, hkey⟩ := hk y (Array.mem_toList_iff.mp hy)
      simp [DictEntry.refKey, hkey]
    have a' : ¬ es.toList.any (·.refKey) = true := by rw [a]; exact Bool.false_ne_true
    rw [if_neg a']
    exact congrArg some e
theorem ObjM.look {h : Heap} {x dx C : Addr} {mA : Str → Option Value} (I : ObjM h x dx C mA) : ∃ od, PySem.W.InstAt h x (PySem.W.instObj C dx) C (some od) ∧ ∀ name, PySem.W.lookIn name od = some (mA name) :=
  let ⟨od, ho, hl⟩ := lookIn_ns I.ns
  ⟨od, ⟨I.obj, rfl, rfl, ho⟩, hl⟩
section
variable {prog : Program} {w : World} {A : Around} {E : Value → Shared → Prop} {s : Shared} {K : PySem.W.Frag} {x dx C f : Addr} {mA : Str → Option Value} {name : Str} {v : Value}
end
theorem RelO.none_of {o : Option Value} (r : RelO none o) : o = none := by
  cases o with
  | none => rfl
  | some u => exact (show False from r).elim
section
variable {P : Program} {w : World} {H H' : Hp} {h h' : Heap} {a C dx : Addr} {fs fs' : List (Str × V)}
theorem ins_get (hok : HOk P w H h) (e : H a = some (.ins C dx fs)) : ∃ mA, ObjM h a dx C mA ∧ (∀ f, RelO (fs.lookup f) (mA f)) ∧ PySem.Within mA (fs.map (·.1)) ∧ fs.length ≤ 1000 ∧ H dx = some (.own a) := by
  obtain ⟨d, z, ne, ob, mA, n, r, q⟩ := (show ObjOk P w H h a (.ins C dx fs) from hok a _ e)
  exact ⟨mA, ⟨ob, n, ne⟩, r, q, z, d⟩
end
structure Cls (K : PySem.W.Frag) (C : Addr) : Prop where
  pg : PySem.W.plainGet K C Str.empty = true
  hd : PySem.W.hasDictIn K C = true
  po : PySem.W.plainOver K C = true
  sa : PySem.W.findIn K (.ref C) "__setattr__" = some (some (.builtin "object.__setattr__"))
theorem Cls.get {K : PySem.W.Frag} {C : Addr} (c : Cls K C) (f : Str) : PySem.W.plainGet K C f = true := c.pg
structure Con (K : PySem.W.Frag) (C : Addr) (f : Str) (v : V) (u : Value) : Prop where
  at_ : PySem.W.findIn K (.ref C) f = some (some u)
  rel : RelV v u
  get : PySem.W.specialIn K u "__get__" = some none
  cp : PySem.W.copiedNames.contains f = false
structure Meth (K : PySem.W.Frag) (C : Addr) (m : Str) (f : Addr) : Prop where
  at_ : PySem.W.findIn K (.ref C) m = some (some (.ref f))
  fn : PySem.W.isFn K (.ref f) = true
  kp : PySem.W.keepIn K (.ref f) = true
section
variable {X : Cx} {pins : List (Addr × Obj)} {σ : St} {H : Hp} {s : Shared} {a C dx : Addr} {fs : List (Str × V)} {f : Str} {v : V} {A : Around} {E : Value → Shared → Prop}
end
section
variable {X : Cx} {o e value : Expr} {f : Str} {pos pos' tpos : Pos} {ta tv : TE}
end
section
variable {X : Cx} {pins : List (Addr × Obj)} {σ : St} {H : Hp} {s : Shared} {A : Around} {E : Value → Shared → Prop} {Q : Value → Shared → Prop} {c : Value} {b : Bool}
inductive TyOf (K : PySem.W.Frag) (H : Hp) : V → Value → Prop where
  | non : TyOf K H .non (.type "NoneType")
  | bl (x : Bool) : TyOf K H (.bl x) (.type "bool")
  | int (i : Int) : TyOf K H (.int i) (.type "int")
  | str (x : Str) : TyOf K H (.str x) (.type "str")
  | flt (x : UInt64) : TyOf K H (.flt x) (.type "float")
  | lst {a : Addr} {xs : List V} (e : H a = some (.lst xs)) : TyOf K H (.ref a) (.type "list")
  | frz {a : Addr} {o : Obj} {xs : List V} (e : H a = some (.frz o (.lst xs))) : TyOf K H (.ref a) (.type "list")
  | tup {a : Addr} {xs : List V} (e : H a = some (.tup xs)) : TyOf K H (.ref a) (.type "tuple")
  | dK {a : Addr} {kvs : List (Key × V)} (e : H a = some (.dK kvs)) : TyOf K H (.ref a) (.type "dict")
  | dT {a : Addr} {kvs : List (List Key × V)} (e : H a = some (.dT kvs)) : TyOf K H (.ref a) (.type "dict")
  | ins {a C dx : Addr} {fs : List (Str × V)} (e : H a = some (.ins C dx fs)) (cl : Cls K C) (ha : PySem.W.findIn K (.ref C) "__class__" = some (some (.builtin "object.__class__")))
      (hn : PySem.W.specialIn K (.builtin "object.__class__") "__get__" = some (some (.builtin "getset_descriptor.__get__"))) (htk : PySem.W.takesIn K (.builtin "object.__class__") = some true)
      (hm : PySem.W.mroIn K C (.type "object") = some true) : TyOf K H (.ref a) (.ref C)
theorem isinst_ok {x : V} {u t : Value} (I : Inv X pins σ H s) (rx : RelV x u) (ty : TyOf X.K H x t) (e : PySem.W.kitOne X.K t c = some b) (h : ∀ tk, Q (.bool b) { s with toks := tk }) :
    wpAny (model X.prog X.w) A (call (.builtin "isinstance") [u, c]) Q E s := by
  cases ty with
  | non => cases (show u = Value.none from rx); exact PySem.W.kia_one PySem.W.kitx_none I.kIn True.intro e (fun z => nomatch z) h
  | bl y => cases (show u = Value.bool y from rx); exact PySem.W.kia_one PySem.W.kitx_bool I.kIn True.intro e (fun z => nomatch z) h
  | int i => obtain ⟨t, q⟩ := (show ∃ t, u = Value.int i t from rx); cases q; exact PySem.W.kia_one PySem.W.kitx_int I.kIn True.intro e (fun z => nomatch z) h
  | str y => obtain ⟨t, q⟩ := (show ∃ t, u = Value.str y t from rx); cases q; exact PySem.W.kia_one PySem.W.kitx_str I.kIn True.intro e (fun z => nomatch z) h
  | flt y => obtain ⟨t, q⟩ := (show ∃ t, u = Value.float y t from rx); cases q; exact PySem.W.kia_one PySem.W.kitx_float I.kIn True.intro e (fun z => nomatch z) h
  | @lst a xs ea =>
    cases (show u = Value.ref a from rx)
    obtain ⟨_, _, n, _, h1⟩ := (show ObjOk X.prog X.w H s.heap a (.lst xs) from I.hok a _ ea)
    exact PySem.W.kia_one PySem.W.kitx_list I.kIn ⟨_, h1, rfl⟩ e (fun z => nomatch z) h
  | @frz a ob xs ea =>
    cases (show u = Value.ref a from rx)
    obtain ⟨_, _, _, n, _, h1⟩ := (show ObjOk X.prog X.w H s.heap a (.frz ob (.lst xs)) from I.hok a _ ea)
    exact PySem.W.kia_one PySem.W.kitx_list I.kIn ⟨_, h1, rfl⟩ e (fun z => nomatch z) h
  | @tup a xs ea =>
    cases (show u = Value.ref a from rx)
    obtain ⟨_, _, _, p⟩ := (show ObjOk X.prog X.w H s.heap a (.tup xs) from I.hok a _ ea)
    obtain ⟨o, h1, h2, _⟩ := p
    exact PySem.W.kia_one PySem.W.kitx_tuple I.kIn ⟨o, h1, h2⟩ e (fun z => nomatch z) h
  | @dK a kvs ea =>
    cases (show u = Value.ref a from rx)
    obtain ⟨_, _, vs, _, p⟩ := (show ObjOk X.prog X.w H s.heap a (.dK kvs) from I.hok a _ ea)
    obtain ⟨o, es, ep, h1, h2, _⟩ := p
    exact PySem.W.kia_one PySem.W.kitx_dict I.kIn ⟨o, h1, h2.1⟩ e (fun z => nomatch z) h
  | @dT a kvs ea =>
    cases (show u = Value.ref a from rx)
    obtain ⟨_, _, xs, _, o, es, ep, h1, h2, _⟩ := (show ObjOk X.prog X.w H s.heap a (.dT kvs) from I.hok a _ ea)
    exact PySem.W.kia_one PySem.W.kitx_dict I.kIn ⟨o, h1, h2.1⟩ e (fun z => nomatch z) h
  | @ins a C dx fs ea cl ha hn htk hm =>
    cases (show u = Value.ref a from rx)
    obtain ⟨mA, O, _⟩ := ins_get I.hok ea
    obtain ⟨od, J, _⟩ := O.look
    exact PySem.W.kia_one (PySem.W.kitx_own (cl.get _) cl.hd ha hn htk hm) I.kIn J e (fun z => nomatch z) h
end
end L2
namespace L2
open PySem PySem.Spec PyProof.Rows
structure Room (k : Nat) (A : Around) : Prop where
  hd : A.handled = none
  dp : A.depth + 3 * k + 5 < recursionLimit
  un : A.units + 16 * k + 200 < cLine
theorem Room.mono {j k : Nat} {A : Around} (r : Room k A) (h : j ≤ k) : Room j A := ⟨r.hd, by have := r.dp; omega, by have := r.un; omega⟩
theorem Room.deeper {k : Nat} {A : Around} (r : Room (k + 1) A) (env : Env) : Room k (A.deeper env) :=
  ⟨r.hd, by have := r.dp; show A.depth + 1 + 3 * k + 5 < _; omega, by have := r.un; show A.units + 3 + 16 * k + 200 < _; omega⟩
theorem Room.in1 {k : Nat} {A : Around} (r : Room (k + 1) A) : Room k A.in1 :=
  ⟨r.hd, by have := r.dp; show A.depth + 3 * k + 5 < _; omega, by have := r.un; show A.units + 1 + 16 * k + 200 < _; omega⟩
theorem make_depth {A : Around} {C : Addr} {us : List Value} {kw : List (Str × Value)} : (A.under (.builtin "type.__call__" ⟨.ref C :: us, kw⟩)).depth = A.depth + 1 := by
  first | rfl | simp [Around.under, Code.weight, Code.isCreation, Code.isGuard, Code.isCaller, Code.frames, Code.isFrame, guardIds]
theorem make_units {A : Around} {C : Addr} {us : List Value} {kw : List (Str × Value)} : (A.under (.builtin "type.__call__" ⟨.ref C :: us, kw⟩)).units = A.units + 1 := by
  first | rfl | simp [Around.under, Code.cUnits, Code.frames, Code.isFrame]
theorem Room.make {k : Nat} {A : Around} (r : Room (k + 1) A) (C : Addr) (us : List Value) (kw : List (Str × Value)) : Room k (A.under (.builtin "type.__call__" ⟨.ref C :: us, kw⟩)) :=
  ⟨r.hd, by have := r.dp; rw [make_depth]; omega, by have := r.un; rw [make_units]; omega⟩
theorem Room.depth {k : Nat} {A : Around} (r : Room k A) : A.depth < recursionLimit := by have := r.dp; omega
theorem Room.units {k : Nat} {A : Around} (r : Room k A) : A.units + 64 < cLine := by have := r.un; omega
def tNil : TA := fun _ H Q => Q [] H
def tCons (ta : TE) (tr : TA) : TA := fun σ H Q => ta σ H fun x H1 => tr σ H1 fun xs H2 => Q (x :: xs) H2
section
variable {X : Cx} {e : Expr} {es : List Expr} {te : TE} {t : TA} {pos : Pos}
theorem pa_nil : PA X [] tNil := fun _ _ _ _ H Q I h => Calls.spliced_nil ⟨[], H, I, .nil, h⟩
theorem pa_cons (ha : PE X e te) (hr : PA X es t) (hs : starEach (e :: es) X.env = (false, eval e X.env) :: starEach es X.env := by rfl) : PA X (e :: es) (tCons te t) := by
  intro pos pins s σ H Q I h
  rw [hs]
  show wpAny _ _ (spliced ((false, eval e X.env) :: backTo pos (starEach es X.env))) _ _ s
  refine Calls.spliced_cons (thn (ha pins s σ H _ I h) fun u s1 ⟨x, H1, I1, r1, q1⟩ => ?_)
  exact thn (hr pos pins s1 σ H1 _ I1 q1) fun us s2 ⟨xs, H2, I2, r2, q2⟩ => ⟨x :: xs, H2, I2, .cons r1 r2, q2⟩
def tTup (t : TA) : TE := fun σ H Q => t σ H fun xs H1 => xs.length ≤ sizeLine ∧ ∀ p, H1 p = none → Q (.ref p) (upd H1 p (.tup xs))
def tLst (t : TA) : TE := fun σ H Q => t σ H fun xs H1 => xs.length ≤ sizeLine ∧ ∀ p, H1 p = none → Q (.ref p) (upd H1 p (.lst xs))
theorem pe_tup {x1} (h : PA X es t) : PE X (.Tuple es x1 pos) (tTup t) := by
  intro pins s σ H Q I hq
  refine wpAny_Tuple_spliced (thn (h pos pins s σ H _ I hq) fun us s1 ⟨xs, H1, I1, r, z, q⟩ => ⟨by rw [← r.length]; exact z, ?_⟩)
  have hf : H1 s1.heap.objs.size = none := I1.hok.fresh (Nat.le_refl _)
  refine ⟨.ref s1.heap.objs.size, upd H1 s1.heap.objs.size (.tup xs), I1.laid (t' := s1.toks) (fun b u e => Heap.get?_push_of_some _ e) (Nat.le_refl _) ?_, rfl, q _ hf⟩
  exact ⟨z, us, r, ⟨_, Heap.get?_push_size _ rfl, rfl, _, rfl⟩⟩
theorem pe_lst (h : PA X es t) : PE X (.List es pos) (tLst t) := by
  intro pins s σ H Q I hq
  refine wpAny_List_spliced (thn (h pos pins s σ H _ I hq) fun us s1 ⟨xs, H1, I1, r, z, q⟩ => ⟨by rw [← r.length]; exact z, ?_⟩)
  have hf : H1 s1.heap.objs.size = none := I1.hok.fresh (Nat.le_refl _)
  refine ⟨.ref s1.heap.objs.size, upd H1 s1.heap.objs.size (.lst xs), I1.laid (t' := s1.toks) (fun b u e => Heap.get?_push_of_some _ e) (Nat.le_refl _) ?_, rfl, q _ hf⟩
  exact ⟨z, us, 0, r, Heap.get?_push_size _ rfl⟩
end
abbrev Sp := List V → Hp → VK → XK → Prop
abbrev CXT := List Env → Hp → Shared → XK → Value → Shared → Prop
structure Env0 (P : Program) (w : World) (K : PySem.W.Frag) (mg : Str → Option Value) (base : Heap) (A : Around) (outer : List Env) (s : Shared) (H : Hp) : Prop where
  frames : A.frames = some outer
  mod : Mod K mg base
  bs : ∀ b o, base.get? b = some o → s.heap.get? b = some o ∧ H b = none
  bsz : base.objs.size ≤ s.heap.objs.size
  funs : s.heap.FunFrames base outer
  frf : ∀ b ∈ frs outer, H b = none
  hok : HOk P w H s.heap
  bare : AllBare s.gens
def CE (outer : List Env) (P : Program) (w : World) (H : Hp) (s : Shared) (Q : VK) (u : Value) (s' : Shared) : Prop :=
  ∃ v H', s'.os = s.os ∧ AllBare s'.gens ∧ Un (frs outer) [] H H' s.heap s'.heap ∧ HOk P w H' s'.heap ∧ RelV v u ∧ Q v H'
def CR (CX : CXT) (outer : List Env) (P : Program) (w : World) (H : Hp) (s : Shared) (Q : VK) (E : XK) (r : Result) (s' : Shared) : Prop :=
  match r with
  | .ok (.ret u) => CE outer P w H s Q u s'
  | .ok _ => False
  | .error e => CX outer H s E e s'
structure FnOk (P : Program) (w : World) (K : PySem.W.Frag) (mg : Str → Option Value) (base : Heap) (CX : CXT) (k : Nat) (f : Addr) (fd : FuncData) (ps : List Str) (sp : Sp) : Prop where
  len : ∀ vs H Q E, sp vs H Q E → vs.length = ps.length
  run : ∀ (A : Around) (outer : List Env) (s : Shared) (H : Hp) (args : Args) (us : List Value) (vs : List V) (Q : VK) (E : XK), Room k A → Env0 P w K mg base A outer s H → BindsTo s fd args (ps.zip us) → Vals vs us → sp vs H Q E →
    codeAny (model P w) A (.call (.ref f) args) (CR CX outer P w H s Q E) s
theorem FnOk.mono {P : Program} {w : World} {K : PySem.W.Frag} {mg : Str → Option Value} {base : Heap} {CX : CXT} {j k : Nat} {f : Addr} {fd : FuncData} {ps : List Str} {sp : Sp} (F : FnOk P w K mg base CX j f fd ps sp) (h : j ≤ k) :
    FnOk P w K mg base CX k f fd ps sp := ⟨F.len, fun A outer s H args us vs Q E hr => F.run A outer s H args us vs Q E (hr.mono h)⟩
theorem FnOk.imp {P : Program} {w : World} {K : PySem.W.Frag} {mg : Str → Option Value} {base : Heap} {CX : CXT} {k : Nat} {f : Addr} {fd : FuncData} {ps : List Str} {sp sp' : Sp} (F : FnOk P w K mg base CX k f fd ps sp)
    (h : ∀ vs H Q E, sp' vs H Q E → sp vs H Q E) : FnOk P w K mg base CX k f fd ps sp' :=
  ⟨fun vs H Q E q => F.len vs H Q E (h _ _ _ _ q), fun A outer s H args us vs Q E hr he hb hv hs => F.run A outer s H args us vs Q E hr he hb hv (h _ _ _ _ hs)⟩
theorem Env0.make {P : Program} {w : World} {K : PySem.W.Frag} {mg : Str → Option Value} {base : Heap} {A : Around} {outer : List Env} {s : Shared} {H : Hp} (e : Env0 P w K mg base A outer s H) (C : Addr) (us : List Value) (kw : List (Str × Value)) :
    Env0 P w K mg base (A.under (.builtin "type.__call__" ⟨.ref C :: us, kw⟩)) outer s H := ⟨by first | exact e.frames | (simpa [Around.under, Code.envs, Code.isFrame, pushEnvs] using e.frames), e.mod, e.bs, e.bsz, e.funs, e.frf, e.hok, e.bare⟩
theorem Env0.in1 {P : Program} {w : World} {K : PySem.W.Frag} {mg : Str → Option Value} {base : Heap} {A : Around} {outer : List Env} {s : Shared} {H : Hp} (e : Env0 P w K mg base A outer s H) :
    Env0 P w K mg base A.in1 outer s H := ⟨e.frames, e.mod, e.bs, e.bsz, e.funs, e.frf, e.hok, e.bare⟩
section
variable {X : Cx} {pins : List (Addr × Obj)} {σ : St} {H : Hp} {s s' : Shared}
theorem Inv.env0 (I : Inv X pins σ H s) : Env0 X.prog X.w X.K X.mg X.base X.A X.stack s H :=
  ⟨I.ok.frames, I.ok.mod, I.bs, Nat.le_trans I.ok.bsz I.sz, I.stack, I.stkFree, I.hok, I.bare⟩
theorem Inv.after {Q : VK} {u : Value} (I : Inv X pins σ H s) (h : CE X.stack X.prog X.w H s Q u s') : EP X pins σ Q u s' := by
  obtain ⟨v, H', os, bare, un, hok, r, q⟩ := h
  obtain ⟨hh, g, d, t, os'⟩ := s'
  obtain rfl : os' = s.os := os
  exact ⟨v, H', I.call (h' := hh) (g' := g) (d' := d) (t' := t) (ch := []) un hok bare (fun b z => absurd z (by simp)), r, q⟩
end
def tCall (sp : Sp) (dvs : List V) (E : XK) (t : TA) : TE := fun σ H Q => t σ H fun vs H1 => sp (vs ++ dvs) H1 Q E
def Binds (K : PySem.W.Frag) (fd : FuncData) (ps : List Str) (ds : List Value) : Prop :=
  ∀ (s : Shared) (us : List Value), K.In s.heap → (us ++ ds).length = ps.length → BindsTo s fd ⟨us, []⟩ (ps.zip (us ++ ds))
theorem Binds.all {K : PySem.W.Frag} {fd : FuncData} {ps : List Str} (h : ∀ us : List Value, us.length = ps.length → bindArgs fd ⟨us, []⟩ = pure (ps.zip us)) : Binds K fd ps [] := fun s us _ hl => by
  rw [List.append_nil] at hl ⊢
  exact .of_eq (h us hl)
def Passes (CX : CXT) (X : Cx) (E : XK) : Prop := ∀ (pins : List (Addr × Obj)) (σ : St) (H : Hp) (s : Shared) (e : Value) (s' : Shared), Inv X pins σ H s → CX X.stack H s E e s' → X.xe e s'
section
variable {X : Cx} {CX : CXT} {k : Nat} {f C : Addr} {fd : FuncData} {ps : List Str} {sp : Sp} {dvs : List V} {ds : List Value} {E : XK} {x m : Str} {p pos apos : Pos} {e o : Expr} {es : List Expr} {ta : TE} {t : TA}
theorem run_fn {pins : List (Addr × Obj)} {σ : St} {H : Hp} {s : Shared} {Q : VK} {us : List Value} {vs : List V} (F : FnOk X.prog X.w X.K X.mg X.base CX k f fd ps sp) (hr : Room k X.A) (hb : Binds X.K fd ps ds) (hd : Vals dvs ds) (hx : Passes CX X E)
    (I : Inv X pins σ H s) (r : Vals vs us) (h : sp (vs ++ dvs) H Q E) : wpAny (model X.prog X.w) X.A (call (.ref f) us) (EP X pins σ Q) X.xe s := by
  have r2 : Vals (vs ++ dvs) (us ++ ds) := r.append hd
  have hl : (us ++ ds).length = ps.length := by rw [← r2.length]; exact F.len _ _ _ _ h
  refine wpAny_call (codeAny_mono (F.run X.A X.stack s H ⟨us, []⟩ (us ++ ds) (vs ++ dvs) Q E hr I.env0 (hb s us I.kIn hl) r2 h) fun r s' hq => ?_)
  cases r with
  | error e => exact hx pins σ H s e s' I hq
  | ok fl =>
    cases fl with
    | ret u => exact I.after hq
    | next => exact False.elim hq
    | brk => exact False.elim hq
    | cont => exact False.elim hq
theorem pe_call (F : FnOk X.prog X.w X.K X.mg X.base CX k f fd ps sp) (hr : Room k X.A) (hg : Gl X x) (hm : X.mg x = some (.ref f)) (hk : PySem.W.keepIn X.K (.ref f) = true) (hb : Binds X.K fd ps ds) (hd : Vals dvs ds) (hx : Passes CX X E)
    (ha : PA X (e :: es) t) (hdb : (x == ("__debug__" : Str)) = false := by decide) (he : starEach (e :: es) X.env = (false, eval e X.env) :: starEach es X.env := by rfl) (hpl : (backTo pos (starEach es X.env)).any (·.1) = false := by rfl) :
    PE X (.Call (.Name x p) (e :: es) [] pos) (tCall sp dvs E t) := by
  intro pins s σ H Q I h
  refine wpAny_Call_Name_kw (ld_glob I hg hm ?_ hdb)
  refine PySem.W.callWith_K (h₀ := X.base) I.ok.mod.kin hk (thn (ha pos pins s σ H _ I h) fun us s1 ⟨vs, H1, I1, r, q⟩ => ⟨I1.kIn, ?_⟩) he hpl
  exact run_fn F hr hb hd hx I1 r q
structure Mk (K : PySem.W.Frag) (C f : Addr) : Prop where
  makes : PySem.W.makesIn K C = true
  init : PySem.W.findIn K (.ref C) "__init__" = some (some (.ref f))
  fn : PySem.W.isFn K (.ref f) = true
  kp : PySem.W.keepIn K (.ref C) = true
end
section
variable {X : Cx} {CX : CXT} {k : Nat} {f C : Addr} {fd : FuncData} {ps ks : List Str} {sp : Sp} {E : XK} {x m : Str} {p pos apos kpos : Pos} {e o : Expr} {es : List Expr} {kws : List Keyword} {te ta : TE} {t tk : TA} {nm : Option Str}
structure KBinds (K : PySem.W.Frag) (fd : FuncData) (ps ks : List Str) (g : List Value → List Value → List Value) (gV : List V → List V → List V) : Prop where
  to : ∀ (s : Shared) (us ws : List Value), K.In s.heap → (g us ws).length = ps.length → BindsTo s fd ⟨us, ks.zip ws⟩ (ps.zip (g us ws))
  rel : ∀ {vs : List V} {us : List Value} {zs : List V} {ws : List Value}, Vals vs us → Vals zs ws → Vals (gV vs zs) (g us ws)
variable {g : List Value → List Value → List Value} {gV : List V → List V → List V}
end
structure FnScope (N P : List Str) (sc : Scope) : Prop where
  kind : sc.kind = .function
  co : sc.isCoroutine = false
  gen : sc.isGenerator = false
  nd : N.Nodup
  pre : N.take P.length = P
  par : ∀ x ∈ P, sc.names.lookup x = some .local ∨ sc.names.lookup x = some .cell
  nofree : ∀ y ∈ sc.names, y.2 ≠ .free
theorem bindL_out {kindOf : Str → Option NameKind} {x : Str} : ∀ {binds : List (Str × Value)} {m : Str → Option Value}, (∀ v, (x, v) ∉ binds) → bindL kindOf binds m x = m x
  | [], _, _ => rfl
  | (n, v) :: r, m, h => by
    unfold bindL
    rw [bindL_out fun w hw => h w (List.mem_cons_of_mem _ hw)]
    split
    · have : x ≠ n := by rintro rfl; exact h v List.mem_cons_self
      simp [this]
    · rfl
theorem bindC_out {kindOf : Str → Option NameKind} {x : Str} : ∀ {binds : List (Str × Value)} {m : Str → Option Value}, (∀ v, (x, v) ∉ binds) → bindC kindOf binds m x = m x
  | [], _, _ => rfl
  | (n, v) :: r, m, h => by
    unfold bindC
    rw [bindC_out fun w hw => h w (List.mem_cons_of_mem _ hw)]
    split
    · rfl
    · have : x ≠ n := by rintro rfl; exact h v List.mem_cons_self
      simp [this]
theorem bindL_get {kindOf : Str → Option NameKind} {x : Str} {v : Value} : ∀ {P : List Str} {vs : List Value} {i : Nat} {m : Str → Option Value}, P.Nodup → P[i]? = some x → vs[i]? = some v → kindOf x = some .local →
    bindL kindOf (P.zip vs) m x = some v
  | [], _, _, _, _, h, _, _ => by simp at h
  | _ :: _, [], _, _, _, _, h, _ => by simp at h
  | p :: P, w :: vs, 0, m, nd, h1, h2, hk => by
    simp at h1 h2; subst h1; subst h2
    show bindL kindOf ((p, w) :: P.zip vs) m p = _
    unfold bindL
    rw [bindL_out fun v hv => (List.nodup_cons.mp nd).1 (List.of_mem_zip hv).1, if_pos hk]
    simp
  | p :: P, w :: vs, i + 1, m, nd, h1, h2, hk => by
    show bindL kindOf ((p, w) :: P.zip vs) m x = _
    unfold bindL
    exact bindL_get (i := i) (List.nodup_cons.mp nd).2 (by simpa using h1) (by simpa using h2) hk
theorem bindC_get {kindOf : Str → Option NameKind} {x : Str} {v : Value} : ∀ {P : List Str} {vs : List Value} {i : Nat} {m : Str → Option Value}, P.Nodup → P[i]? = some x → vs[i]? = some v → kindOf x ≠ some .local →
    bindC kindOf (P.zip vs) m x = some v
  | [], _, _, _, _, h, _, _ => by simp at h
  | _ :: _, [], _, _, _, _, h, _ => by simp at h
  | p :: P, w :: vs, 0, m, nd, h1, h2, hk => by
    simp at h1 h2; subst h1; subst h2
    show bindC kindOf ((p, w) :: P.zip vs) m p = _
    unfold bindC
    rw [bindC_out fun v hv => (List.nodup_cons.mp nd).1 (List.of_mem_zip hv).1, if_neg hk]
    simp
  | p :: P, w :: vs, i + 1, m, nd, h1, h2, hk => by
    show bindC kindOf ((p, w) :: P.zip vs) m x = _
    unfold bindC
    exact bindC_get (i := i) (List.nodup_cons.mp nd).2 (by simpa using h1) (by simpa using h2) hk
def start (N : List Str) (vs : List V) : St := vs.map some ++ List.replicate (N.length - vs.length) none
def cxOf (CX : CXT) (P : Program) (w : World) (K : PySem.W.Frag) (mg : Str → Option Value) (base : Heap) (N : List Str) (qual : Str) (scope : Scope) (f : Addr) (cd : Value) (A : Around) (outer : List Env) (s : Shared) (H : Hp) (E : XK) : Cx where
  prog := P
  w := w
  K := K
  mg := mg
  base := base
  A := A.deeper (envOfC qual scope s.heap.objs.size f cd)
  N := N
  s₀ := s
  H₀ := H
  env := envOfC qual scope s.heap.objs.size f cd
  outer := outer
  stack := envOfC qual scope s.heap.objs.size f cd :: outer
  ex := []
  calm := true
  fn := fun _ => true
  pn := []
  xe := fun e s' => wpAny (model P w) (A.deeper (envOfC qual scope s.heap.objs.size f cd)) (leaving (envOfC qual scope s.heap.objs.size f cd) e) (fun _ s'' => CX outer H s E e s'') (fun e' s'' => CX outer H s E e' s'') s'
theorem cell_has {sc : Scope} {n : Nat} {x : Str} (h : sc.names.lookup x = some .cell) : ∃ c, (cellsFrom n sc.names []).lookup x = some c := by
  have q := PySem.W.cellsFrom_some sc.names n [] (.inl h)
  exact Option.isSome_iff_exists.mp q
theorem inv_start {CX : CXT} {P : Program} {w : World} {K : PySem.W.Frag} {mg : Str → Option Value} {base : Heap} {N ps : List Str} {qual : Str} {scope : Scope} {f : Addr} {cd : Value} {A : Around} {outer : List Env} {s s1 : Shared} {H : Hp} {E : XK} {us : List Value} {vs : List V}
    (S : FnScope N ps scope) (hd : A.handled = none) (e0 : Env0 P w K mg base A outer s H) (hl : vs.length = ps.length) (r : Vals vs us)
    (x : InCallC s s.heap.objs.size (bindL (envOfC qual scope s.heap.objs.size f cd).kindOf (ps.zip us) fun _ => none) (cellsFrom (s.heap.objs.size + 1) scope.names []) (bindC (envOfC qual scope s.heap.objs.size f cd).kindOf (ps.zip us) fun _ => none) s1) :
    Inv (cxOf CX P w K mg base N qual scope f cd A outer s H E) [] (start N vs) H s1 := by
  have hpl : ps.length ≤ N.length := by have := congrArg List.length S.pre; rw [List.length_take] at this; omega
  obtain ⟨h1, tk, rfl, hk⟩ := x.done
  have noA : ∀ b : Addr, b ∉ (cxOf CX P w K mg base N qual scope f cd A outer s H E).ex := fun b z => absurd (show b ∈ ([] : List Addr) from z) (by simp)
  refine ⟨⟨e0.mod, S.kind, rfl, rfl, Nat.le_refl _, fun y z c h1 h2 => ?_, fun y hy => ?_, fun y c _ h => ?_, fun _ => hd, Around.frames_deeper e0.frames, .inr ⟨rfl, rfl⟩, fun b z => absurd z (noA b), e0.bs, e0.bsz, fun b _ _ => noA b, fun b z => absurd z (noA b), e0.funs, e0.frf⟩,
    rfl, e0.bare, Un.kept hk, ⟨_, x.toInCall.ns, fun i y v h1 h2 h3 => ?_⟩, fun y c h => ⟨_, x.cell y c h⟩, e0.hok.fresh (Nat.le_refl _), fun y c h => ?_, fun p hp => absurd (show p ∈ ([] : List (Addr × Obj)) from hp) (by simp), e0.hok.kept hk, ?_⟩
  · exact name_of_addr x.apart (PySem.mem_of_lookup h1) (PySem.mem_of_lookup h2)
  · have hy : scope.names.lookup y = some .cell ∨ scope.names.lookup y = some .free := hy
    rcases hy with hy | hy
    · exact cell_has hy
    · exact absurd rfl (S.nofree _ (PySem.mem_of_lookup hy))
  · exact Nat.le_of_lt (x.above y c (PySem.mem_of_lookup h))
  · have hi : i < vs.length := by
      unfold start at h2
      by_cases hi : i < vs.length
      · exact hi
      · rw [List.getElem?_append_right (by simpa using hi)] at h2
        rw [List.getElem?_replicate] at h2
        split at h2 <;> cases h2
    have ha : vs[i]? = some v := by
      unfold start at h2
      rw [List.getElem?_append_left (by simpa using hi), List.getElem?_map] at h2
      cases e : vs[i]? with
      | none => rw [e] at h2; cases h2
      | some a => rw [e] at h2; cases h2; rfl
    obtain ⟨u, hu, rv⟩ := r.get ha
    have hp : ps[i]? = some y := by
      rw [← S.pre, List.getElem?_take_of_lt (by omega)]; exact h1
    have ndP : ps.Nodup := by rw [← S.pre]; exact S.nd.sublist (List.take_sublist _ _)
    refine ⟨u, rv, ?_⟩
    rcases S.par y (List.mem_of_getElem? hp) with k | k
    · exact .inl ⟨k, bindL_get ndP hp hu k⟩
    · obtain ⟨c, e⟩ := cell_has (n := s.heap.objs.size + 1) k
      refine .inr ⟨.inl k, c, e, ?_⟩
      have q := x.cell y c e
      rw [bindC_get ndP hp hu (by show scope.names.lookup y ≠ _; rw [k]; decide)] at q
      exact q
  · exact e0.hok.fresh (Nat.le_of_lt (x.above y c (PySem.mem_of_lookup h)))
  · unfold start
    show _ = N.length
    rw [List.length_append, List.length_map, List.length_replicate]
    omega
theorem fn_of {CX : CXT} {P : Program} {w : World} {K : PySem.W.Frag} {mg : Str → Option Value} {base : Heap} {k : Nat} {f : Addr} {name qual : Str} {params : Arguments} {body : List Stmt} {scope : Scope} {dV kV doc pm cdv ct oc : Value} {an od : Option Addr}
    {osl : Array (Option Value)} {N ps : List Str} {sp : Sp} (lk : K.lookup f = some ⟨oc, od, .func (PySem.W.fnOf name qual params body scope dV kV doc pm an cdv ct), osl⟩) (hcd : PySem.W.codeIn K cdv qual = true) (S : FnScope N ps scope)
    (len : ∀ vs H Q E, sp vs H Q E → vs.length = ps.length)
    (hbody : ∀ (A : Around) (outer : List Env) (s : Shared) (H : Hp) (vs : List V) (Q : VK) (E : XK), Room k (A.deeper (envOfC qual scope s.heap.objs.size f cdv)) → sp vs H Q E →
      ∃ t, PSs (cxOf CX P w K mg base N qual scope f cdv A outer s H E) body t ∧ t { nx := fun _ H' => Q .non H', rt := Q } (start N vs) H) :
    FnOk P w K mg base CX (k + 1) f (PySem.W.fnOf name qual params body scope dV kV doc pm an cdv ct) ps sp := by
  refine ⟨len, fun A outer s H args us vs Q E hr e0 hb r hsp => ?_⟩
  have hl := len _ _ _ _ hsp
  have KX : K.In s.heap := e0.mod.kin.keeps fun b o e => (e0.bs b o e).1
  have lim : s.heap.NoLimit := e0.mod.nolimit.keeps fun b o e => (e0.bs b o e).1
  have hkind : ∀ y ∈ ps.zip us, scope.names.lookup y.1 = some .local ∨ (scope.names.lookup y.1 = some .cell ∧ ((cellsFrom (s.heap.objs.size + 1) scope.names []).lookup y.1).isSome = true) := fun ⟨n, v⟩ hy => by
    rcases S.par n (List.of_mem_zip hy).1 with q | q
    · exact .inl q
    · exact .inr ⟨q, PySem.W.cellsFrom_some _ _ _ (.inl q)⟩
  refine codeAny_call_function hr.depth (KX _ _ lk) rfl S.co S.gen rfl (PySem.W.codeRec_of KX hcd) (hb _ _ _ _ ?_)
  refine wpAny_newFunctionEnv_cells S.kind hkind fun env he s1 x => ?_
  subst he
  refine ⟨lim.keeps x.toInCall.keep, codeAny_func ?_⟩
  obtain ⟨t, ht, hq⟩ := hbody A outer s H vs Q E (hr.deeper _) hsp
  have I : Inv (cxOf CX P w K mg base N qual scope f cdv A outer s H E) [] (start N vs) H s1 := inv_start S hr.hd e0 hl r x
  refine wpAny_mono (ht [] s1 (start N vs) H _ I hq) (fun fl s' hs => ?_) fun e s' hs => hs
  have fin : ∀ {σ' : St} {H' : Hp} {v : V} {u : Value}, Inv (cxOf CX P w K mg base N qual scope f cdv A outer s H E) [] σ' H' s' → RelV v u → Q v H' → CE outer P w H s Q u s' :=
    fun {σ' H' v u} J rv q => ⟨v, H', J.os, J.bare, J.base, J.hok, rv, q⟩
  cases fl with
  | ret u =>
    obtain ⟨v, σ', H', J, rv, q⟩ := hs
    exact fin J rv q
  | next =>
    obtain ⟨σ', H', J, q⟩ := hs
    exact fin (v := V.non) (u := Value.none) J rfl q
  | brk =>
    obtain ⟨_, _, _, q⟩ := hs
    exact False.elim q
  | cont =>
    obtain ⟨_, _, _, q⟩ := hs
    exact False.elim q
end L2
namespace L2
open PySem PySem.Spec PyProof.Rows
section
variable {X : Cx} {x : Str} {p pos : Pos} {e : Expr} {es : List Expr} {t : TA} {id T : String} {r : List V → Hp → VK → Prop}
def tCB (r : List V → Hp → VK → Prop) (t : TA) : TE := fun σ H Q => t σ H fun vs H1 => r vs H1 Q
theorem pe_callB (hc : CallR X (.builtin id) r) (hg : Gl X x) (hm : X.mg x = none) (hv : bootBuiltins x = some (.builtin id)) (ha : PA X (e :: es) t) (hn : x ≠ "__name__" := by decide) (hdb : (x == ("__debug__" : Str)) = false := by decide)
    (he : starEach (e :: es) X.env = (false, eval e X.env) :: starEach es X.env := by rfl) (hpl : (backTo pos (starEach es X.env)).any (·.1) = false := by rfl) : PE X (.Call (.Name x p) (e :: es) [] pos) (tCB r t) := by
  intro pins s σ H Q I h
  refine wpAny_Call_Name_kw (ld_blt I hg hm hv ?_ hn hdb)
  exact PyProof.Rows.callWith_builtin1 (thn (ha pos pins s σ H _ I h) fun us s1 ⟨vs, H1, I1, r1, q1⟩ => hc pins s1 σ H1 vs us Q I1 r1 q1) he hpl
theorem pe_callTy (hc : CallR X (.type T) r) (hg : Gl X x) (hm : X.mg x = none) (hv : bootBuiltins x = some (.type T)) (ha : PA X (e :: es) t) (hn : x ≠ "__name__" := by decide) (hdb : (x == ("__debug__" : Str)) = false := by decide)
    (he : starEach (e :: es) X.env = (false, eval e X.env) :: starEach es X.env := by rfl) (hpl : (backTo pos (starEach es X.env)).any (·.1) = false := by rfl) : PE X (.Call (.Name x p) (e :: es) [] pos) (tCB r t) := by
  intro pins s σ H Q I h
  refine wpAny_Call_Name_kw (ld_blt I hg hm hv ?_ hn hdb)
  exact PyProof.Rows.callWith_type1 (thn (ha pos pins s σ H _ I h) fun us s1 ⟨vs, H1, I1, r1, q1⟩ => hc pins s1 σ H1 vs us Q I1 r1 q1) he hpl
end
end L2
namespace HT
open PySem PyProof.Rows
section
open PySem.SeqAt
open PySem.AutoSeq1 (wpAny_loadPart')
open PySem.MeetsSeq PySem.MeetsSeq2 PySem.MeetsSeq3
end
section
variable {prog : Program} {w : World} {A : Around} {E : Value → Shared → Prop} {s : Shared}
def sIx (n d : Nat) : Option Int → Nat
  | none => d
  | some v => if v < 0 then (v + (n : Int)).toNat else min v.toNat n
theorem sIx_nat (n d k : Nat) : sIx n d (some (k : Int)) = min k n := by
  show (if (k : Int) < 0 then ((k : Int) + (n : Int)).toNat else min (k : Int).toNat n) = min k n
  rw [if_neg (by omega), Int.toNat_natCast]
theorem sIx_le (n d : Nat) (hd : d ≤ n) (o : Option Int) : sIx n d o ≤ n := by
  cases o with
  | none => exact hd
  | some v =>
    show (if v < 0 then (v + (n : Int)).toNat else min v.toNat n) ≤ n
    by_cases hv : v < 0
    · rw [if_pos hv]; omega
    · rw [if_neg hv]; exact Nat.min_le_right _ _
theorem clip_eq (v : Int) (n d : Nat) : (if v < 0 then max (v + (n : Int)) 0 else min v (n : Int)) = ((sIx n d (some v) : Nat) : Int) := by
  show (if v < 0 then max (v + (n : Int)) 0 else min v (n : Int)) = (((if v < 0 then (v + (n : Int)).toNat else min v.toNat n) : Nat) : Int)
  by_cases hv : v < 0
  · simp only [if_pos hv]; omega
  · simp only [if_neg hv]; omega
theorem adjust_gen (lo hi : Option Int) (n : Nat) : Builtin.Slice.sliceAdjust lo hi 1 (n : Int) = (((sIx n 0 lo : Nat) : Int), ((sIx n n hi : Nat) : Int)) := by
  have h1 : ¬ ((1 : Int) < 0) := by omega
  unfold Builtin.Slice.sliceAdjust
  simp only [h1, if_false]
  refine Prod.ext ?_ ?_
  · cases lo with
    | none => rfl
    | some v => exact clip_eq v n 0
  · cases hi with
    | none => rfl
    | some v => exact clip_eq v n n
theorem places_gen (i j : Nat) : Builtin.Slice.slicePlaces (i : Int) (j : Int) 1 = j - i := by
  unfold Builtin.Slice.slicePlaces
  have h1 : (1 : Int) > 0 := by omega
  simp only [h1, if_true, Int.ediv_one]
  split <;> omega
theorem slicePart_ {v : Value} {o : Option Int} {Q : Option Int → Shared → Prop} (p : IsPart v o) (h : Q o s) : wpAny (model prog w) A (Builtin.Slice.slicePartIndex v) Q E s := by
  cases p with
  | none => exact slicePart_none h
  | int i t => exact slicePart_int h
theorem sliceApplied_gen {sl : Addr} {vl vu : Value} {lo hi : Option Int} {n : Nat} {Q : Int × Int × Nat → Shared → Prop} (hs : s.heap.IsSliceOf sl vl vu .none) (pl : IsPart vl lo) (pu : IsPart vu hi)
    (h : Q (((sIx n 0 lo : Nat) : Int), 1, sIx n n hi - sIx n 0 lo) s) : wpAny (model prog w) A (Builtin.Slice.sliceApplied (.ref sl) (pure (n : Int))) Q E s := by
  obtain ⟨os, hos, hcs, hds⟩ := id hs
  unfold Builtin.Slice.sliceApplied Builtin.Slice.sliceFields
  refine wpAny_bind (wpAny_bind (wpAny_field hos hds (x := vl) rfl (wpAny_bind (wpAny_field hos hds (x := vu) rfl (wpAny_bind (wpAny_field hos hds (x := .none) rfl (wpAny_pure ?_)))))))
  refine wpAny_bind (slicePart_none ?_)
  show wpAny _ _ (if ((1 : Int) == 0) = true then _ else _) _ _ s
  rw [if_neg (by decide)]
  refine wpAny_bind (slicePart_ pl (wpAny_bind (slicePart_ pu (wpAny_bind (wpAny_pure ?_)))))
  show wpAny _ _ (match Builtin.Slice.sliceAdjust lo hi 1 (n : Int) with | (lo, hi) => pure (lo, (1 : Int), Builtin.Slice.slicePlaces lo hi 1)) _ _ s
  rw [adjust_gen lo hi n]
  show wpAny _ _ (pure (((sIx n 0 lo : Nat) : Int), (1 : Int), Builtin.Slice.slicePlaces ((sIx n 0 lo : Nat) : Int) ((sIx n n hi : Nat) : Int) 1)) _ _ s
  rw [places_gen]
  exact wpAny_pure h
theorem pick_gen (xs : Array Value) (i k : Nat) : ((List.range k).filterMap fun (m : Nat) => xs[((i : Int) + (m : Int) * 1).toNat]?).toArray = ((xs.toList.drop i).take k).toArray := by
  have e : (fun (m : Nat) => xs[((i : Int) + (m : Int) * 1).toNat]?) = fun m => xs[i + m]? := by
    funext m
    have : ((i : Int) + (m : Int) * 1).toNat = i + m := by omega
    rw [this]
  rw [e]
  have := pick_run xs i k
  rw [List.filterMap_map] at this
  have e2 : ((fun x => xs[x]?) ∘ fun x => i + x) = fun m => xs[i + m]? := rfl
  rw [e2] at this
  rw [this]
theorem getItem_tuple_cut {t sl : Addr} {items : Array Value} {vl vu : Value} {lo hi : Option Int} {Q : Value → Shared → Prop} (ht : IsTup s.heap t items) (hs : s.heap.IsSliceOf sl vl vu .none) (pl : IsPart vl lo) (pu : IsPart vu hi)
    (hw : ¬ (sIx items.size 0 lo = 0 ∧ sIx items.size items.size hi = items.size))
    (h : Q (.ref s.heap.objs.size) { s with heap := s.heap.push { cls := .type "tuple", data := .seq ((items.toList.drop (sIx items.size 0 lo)).take (sIx items.size items.size hi - sIx items.size 0 lo)).toArray } })
    (hsz : items.size ≤ sizeLine) : wpAny (model prog w) A (getItem (.ref t) (.ref sl)) Q E s := by
  have htake : sizeOk (.seq ((items.toList.drop (sIx items.size 0 lo)).take (sIx items.size items.size hi - sIx items.size 0 lo)).toArray) := by
    show ((items.toList.drop (sIx items.size 0 lo)).take (sIx items.size items.size hi - sIx items.size 0 lo)).toArray.size ≤ sizeLine
    rw [List.size_toArray, List.length_take, List.length_drop, Array.length_toList]
    omega
  have hj : sIx items.size items.size hi ≤ items.size := sIx_le _ _ (Nat.le_refl _) hi
  obtain ⟨os, hos, hcs, hds⟩ := id hs
  have hTs : s.TypeIs (.ref sl) "slice" := ⟨os, hos, hcs⟩
  unfold getItem
  try with_reducible refine wpAny_holding ?_
  first | refine wpAny_bind (wpAny_pure ?_) | skip
  refine wpAny_bind (wpAny_sequenceKey ht.typeIs (by decide) ?_)
  refine wpAny_bind (wpAny_callSpecial?_slot (name := Str.ofString "__getitem__") ht.typeIs PyProof.Rows.slot_tuple_getitem
    (wpAny_call_entry PyProof.Rows.slot_tuple_getitem ht.typeIs entry_tuple_getitem ?_ (args_tuple_getitem _ _)))
  show wpAny _ _ (Builtin.Tuple.tupleItemsOf (.ref t) >>= _) _ _ s
  refine wpAny_bind (tupleItemsOf_ ht ?_)
  refine wpAny_bind (wpAny_typeOf hTs ?_)
  rw [if_pos (by decide)]
  refine wpAny_bind (sliceApplied_gen hs pl pu ?_)
  have hno : ¬ ((((sIx items.size 0 lo : Nat) : Int) == 0 && (1 : Int) == 1 && (sIx items.size items.size hi - sIx items.size 0 lo) == items.size) = true) := by
    intro q
    rw [Bool.and_eq_true, Bool.and_eq_true] at q
    have q1 : ((sIx items.size 0 lo : Nat) : Int) = 0 := eq_of_beq q.1.1
    have q2 : sIx items.size items.size hi - sIx items.size 0 lo = items.size := eq_of_beq q.2
    exact hw ⟨by omega, by omega⟩
  show wpAny _ _ (if (((sIx items.size 0 lo : Nat) : Int) == 0 && (1 : Int) == 1 && (sIx items.size items.size hi - sIx items.size 0 lo) == items.size) = true then _ else _) _ _ s
  rw [if_neg hno, pick_gen]
  first
    | exact wpAny_bind (m := Builtin.Tuple.tupleExact _) (wpAny_newObj_type (wpAny_pure ⟨_, rfl, wpAny_pure h⟩) htake)
    | exact wpAny_bind (m := Builtin.Tuple.tupleExact _) (wpAny_newObj_type (wpAny_bind (wpAny_pure (wpAny_pure ⟨_, rfl, wpAny_pure h⟩))) htake)
    | exact wpAny_bind (wpAny_bind (m := Builtin.Tuple.tupleExact _) (wpAny_newObj_type (wpAny_pure (wpAny_pure ⟨_, rfl, wpAny_pure h⟩)) htake))
    | exact wpAny_bind (wpAny_bind (m := Builtin.Tuple.tupleExact _) (wpAny_newObj_type (wpAny_pure ⟨_, rfl, wpAny_pure h⟩) htake))
end
end HT
namespace L2
open PySem PySem.Spec PyProof.Rows
abbrev TO := St → Hp → (Option Int → Hp → Prop) → Prop
def PO (X : Cx) (e : Option Expr) (t : TO) : Prop :=
  ∀ (pins : List (Addr × Obj)) (s : Shared) (σ : St) (H : Hp) (Q : Option Int → Hp → Prop), Inv X pins σ H s → t σ H Q →
    wpAny (model X.prog X.w) X.A (evalPart e X.env) (fun u s' => ∃ o H', Inv X pins σ H' s' ∧ IsPart u o ∧ Q o H') X.xe s
def tNoPart : TO := fun _ H Q => Q none H
def tPart (t : TE) : TO := fun σ H Q => t σ H fun x H1 => ∃ i, x = .int i ∧ Q (some i) H1
theorem intsAre_of {ns : List Int} : ∀ {us : List Value}, Vals (ns.map V.int) us → IntsAre us ns := by
  induction ns with
  | nil => intro us r; rw [List.map_nil] at r; cases r; exact .nil
  | cons n ns ih =>
    intro us r
    rw [List.map_cons] at r
    cases r with
    | cons r1 r2 =>
      obtain ⟨t, e⟩ := r1
      subst e
      exact .cons n t (ih r2)
section
variable {X : Cx} {e : Expr} {te : TE} {lo hi : Option Expr} {tl th : TO} {pos p2 : Pos}
theorem po_none : PO X none tNoPart := by
  intro pins s σ H Q I h
  rw [evalPart_none]
  exact wpAny_pure ⟨none, H, I, .none, h⟩
theorem po_some (h : PE X e te) : PO X (some e) (tPart te) := by
  intro pins s σ H Q I hw
  rw [evalPart_some]
  refine thn (h pins s σ H _ I hw) fun u s1 ⟨x, H1, I1, r1, q1⟩ => ?_
  obtain ⟨i, rfl, q⟩ := q1
  obtain ⟨t, rfl⟩ := r1
  exact ⟨some i, H1, I1, .int i t, q⟩
def SlR (X : Cx) (r : V → Option Int → Option Int → Hp → VK → Prop) : Prop :=
  ∀ (pins : List (Addr × Obj)) (s : Shared) (σ : St) (H : Hp) (x : V) (v vl vu : Value) (lo hi : Option Int) (sl : Addr) (Q : VK), Inv X pins σ H s → RelV x v → s.heap.IsSliceOf sl vl vu .none → IsPart vl lo → IsPart vu hi → r x lo hi H Q →
    ∃ T id, typeLookup (.type T) "__getitem__" = pure (some (.builtin id)) ∧ s.TypeIs v T ∧ wpAny (model X.prog X.w) X.A (getItem v (.ref sl)) (EP X pins σ Q) X.xe s
theorem SlR.or {r r' : V → Option Int → Option Int → Hp → VK → Prop} (h : SlR X r) (h' : SlR X r') : SlR X (fun x lo hi H Q => r x lo hi H Q ∨ r' x lo hi H Q) := by
  intro pins s σ H x v vl vu lo hi sl Q I rx hs pl pu q
  rcases q with q | q
  · exact h pins s σ H x v vl vu lo hi sl Q I rx hs pl pu q
  · exact h' pins s σ H x v vl vu lo hi sl Q I rx hs pl pu q
def tSl (r : V → Option Int → Option Int → Hp → VK → Prop) (te : TE) (tl th : TO) : TE := fun σ H Q => te σ H fun x H1 => tl σ H1 fun l H2 => th σ H2 fun u H3 => r x l u H3 Q
theorem pe_slice {r : V → Option Int → Option Int → Hp → VK → Prop} (hr : SlR X r) (he : PE X e te) (hl : PO X lo tl) (hu : PO X hi th) : PE X (.Subscript e (.Slice lo hi none p2) pos) (tSl r te tl th) := by
  intro pins s σ H Q I h
  refine Subscript_ (thn (he pins s σ H _ I h) fun v s1 ⟨x, H1, I1, r1, q1⟩ => ?_)
  refine wpAny_Slice (thn (hl pins s1 σ H1 _ I1 q1) fun vl s2 ⟨l, H2, I2, pl, q2⟩ => thn (hu pins s2 σ H2 _ I2 q2) fun vu s3 ⟨u, H3, I3, pu, q3⟩ => ?_)
  rw [evalPart_none]
  refine wpAny_pure ?_
  have I4 : Inv X pins σ H3 { s3 with heap := s3.heap.push { cls := .type "slice", data := .fields #[vl, vu, .none] } } := I3.kept (t' := s3.toks) fun b ob q => Heap.get?_push_of_some _ q
  obtain ⟨T, id, hT, ht, hg⟩ := hr pins { s3 with heap := s3.heap.push { cls := .type "slice", data := .fields #[vl, vu, .none] } } σ H3 x v vl vu l u s3.heap.objs.size Q I4 r1 (Heap.IsSliceOf.new ..) pl pu q3
  show wpAny (model X.prog X.w) X.A (subscriptTail e (.Slice lo hi none p2) v (.ref s3.heap.objs.size)) (EP X pins σ Q) X.xe { s3 with heap := s3.heap.push { cls := .type "slice", data := .fields #[vl, vu, .none] } }
  exact tail_any (ops := [.ref s3.heap.objs.size, v]) ht hT hg (by with_unfolding_all rfl)
def cutV (xs : List V) (lo hi : Option Int) : List V := (xs.drop (HT.sIx xs.length 0 lo)).take (HT.sIx xs.length xs.length hi - HT.sIx xs.length 0 lo)
theorem cutV_length (xs : List V) (lo hi : Option Int) : (cutV xs lo hi).length ≤ xs.length := by
  unfold cutV
  rw [List.length_take, List.length_drop]
  omega
def rSlT (K : PySem.W.Frag) : V → Option Int → Option Int → Hp → VK → Prop := fun x lo hi H Q => ∃ a xs, x = .ref a ∧ SqT K H a xs ∧
  ¬ (HT.sIx xs.length 0 lo = 0 ∧ HT.sIx xs.length xs.length hi = xs.length) ∧ ∀ p, H p = none → Q (.ref p) (upd H p (.tup (cutV xs lo hi)))
theorem sl_tup : SlR X (rSlT X.K) := by
  intro pins s σ H x v vl vu lo hi sl Q I rx hs pl pu h
  obtain ⟨a, xs, rfl, hx, hw, q⟩ := h
  cases rx
  obtain ⟨its, r, ht, hz⟩ := I.tuple hx
  have hlen : its.toArray.size = xs.length := by rw [List.size_toArray]; exact r.length.symm
  refine ⟨"tuple", _, PyProof.Rows.slot_tuple_getitem.lookup, ht.typeIs, ?_⟩
  refine HT.getItem_tuple_cut ht hs pl pu (by rw [hlen]; exact hw) ?_ (by rw [hlen]; exact hz)
  rw [hlen]
  refine ⟨.ref s.heap.objs.size, _, I.laid (t' := s.toks) (o := .tup (cutV xs lo hi)) (fun b ob q => Heap.get?_push_of_some _ q) (Nat.le_refl _) ?_, rfl, q _ (I.hok.fresh (Nat.le_refl _))⟩
  exact ⟨Nat.le_trans (cutV_length xs lo hi) hz, _, (r.drop (HT.sIx xs.length 0 lo)).take (HT.sIx xs.length xs.length hi - HT.sIx xs.length 0 lo), IsTup.new _ _⟩
end
end L2
namespace L2
open PySem PySem.Spec PyProof.Rows
def ixN (n : Nat) (i : Int) : Option Nat := if 0 ≤ i then (if i < n then some i.toNat else none) else if -(n : Int) ≤ i then some (i + n).toNat else none
def atI {α : Type} (xs : List α) (i : Int) : Option α := (ixN xs.length i).bind fun j => xs[j]?
theorem ixN_seq {n : Nat} {i : Int} {j : Nat} (h : ixN n i = some j) : seqIndex? i n = some j ∧ j < n ∧ -(n : Int) ≤ i ∧ i < n := by
  unfold ixN at h
  by_cases h0 : 0 ≤ i
  · rw [if_pos h0] at h
    by_cases h1 : i < n
    · rw [if_pos h1] at h
      have e : i.toNat = j := Option.some.inj h
      exact ⟨by rw [seqIndex_of h0 h1, e], by omega, by omega, h1⟩
    · rw [if_neg h1] at h; cases h
  · rw [if_neg h0] at h
    by_cases h1 : -(n : Int) ≤ i
    · rw [if_pos h1] at h
      have e : (i + n).toNat = j := Option.some.inj h
      exact ⟨by rw [seqIndex_neg (by omega) h1, e], by omega, h1, by omega⟩
    · rw [if_neg h1] at h; cases h
theorem atI_get {α : Type} {xs : List α} {i : Int} {v : α} (h : atI xs i = some v) : ∃ j, seqIndex? i xs.length = some j ∧ xs[j]? = some v ∧ j < xs.length ∧ -(xs.length : Int) ≤ i ∧ i < xs.length := by
  unfold atI at h
  cases e : ixN xs.length i with
  | none => rw [e] at h; cases h
  | some j =>
    rw [e] at h
    obtain ⟨h1, h2, h3, h4⟩ := ixN_seq e
    exact ⟨j, h1, h, h2, h3, h4⟩
theorem atI_nat {α : Type} {xs : List α} {j : Nat} {v : α} (h : xs[j]? = some v) : atI xs (j : Int) = some v := by
  have hj : j < xs.length := (List.getElem?_eq_some_iff.mp h).1
  have e : ixN xs.length (j : Int) = some j := by
    unfold ixN
    rw [if_pos (by omega), if_pos (by omega)]; simp
  unfold atI; rw [e]; exact h
def PlainIx (b : Expr) : Prop := ∀ o i, subscripted b false o i = operate [o, i] (getItem o i)
def IxR (X : Cx) (r : R2) : Prop :=
  ∀ (value slice : Expr) (pins : List (Addr × Obj)) (s : Shared) (σ : St) (H : Hp) (x y : V) (v u : Value) (Q : VK), Inv X pins σ H s → RelV x v → RelV y u → r x y H Q →
    subscripted slice false v u = operate [v, u] (getItem v u) → wpAny (model X.prog X.w) X.A (subscriptTail value slice v u) (EP X pins σ Q) X.xe s
def MtR (X : Cx) (id : String) (r : V → List V → Hp → VK → Prop) : Prop :=
  ∀ (pins : List (Addr × Obj)) (s : Shared) (σ : St) (H : Hp) (x : V) (xs : List V) (v : Value) (us : List Value) (Q : VK), Inv X pins σ H s → RelV x v → Vals xs us → r x xs H Q →
    wpAny (model X.prog X.w) X.A (call (.builtin id) (v :: us)) (EP X pins σ Q) X.xe s
section
variable {X : Cx} {a b : Expr} {ta tb : TE} {pos : Pos}
theorem IxR.or {r r' : R2} (h : IxR X r) (h' : IxR X r') : IxR X (fun x y H Q => r x y H Q ∨ r' x y H Q) := by
  intro value slice pins s σ H x y v u Q I rx ry q hs
  rcases q with q | q
  · exact h value slice pins s σ H x y v u Q I rx ry q hs
  · exact h' value slice pins s σ H x y v u Q I rx ry q hs
theorem MtR.or {id : String} {r r' : V → List V → Hp → VK → Prop} (h : MtR X id r) (h' : MtR X id r') : MtR X id (fun x xs H Q => r x xs H Q ∨ r' x xs H Q) := by
  intro pins s σ H x xs v us Q I rx rs q
  rcases q with q | q
  · exact h pins s σ H x xs v us Q I rx rs q
  · exact h' pins s σ H x xs v us Q I rx rs q
theorem pe_ix {r : R2} (hr : IxR X r) (ha : PE X a ta) (hb : PE X b tb) (hs : PlainIx b) : PE X (.Subscript a b pos) (tOp r ta tb) := by
  intro pins s σ H Q I h
  exact Subscript_ (binT ha hb I h fun v u s2 x y H2 I2 rx ry q => hr a b pins s2 σ H2 x y v u Q I2 rx ry q (hs _ _))
def rIxL (K : PySem.W.Frag) : R2 := fun x y H Q => ∃ p xs i v, x = .ref p ∧ y = .int i ∧ SqL K H p xs ∧ atI xs i = some v ∧ Q v H
def rIxT (K : PySem.W.Frag) : R2 := fun x y H Q => ∃ p xs i v, x = .ref p ∧ y = .int i ∧ SqT K H p xs ∧ atI xs i = some v ∧ Q v H
theorem ix_list : IxR X (rIxL X.K) := by
  intro value slice pins s σ H x y v u Q I rx ry h hs
  obtain ⟨p, xs, i, z, rfl, rfl, hq, he, q⟩ := h
  cases rx
  obtain ⟨t, rfl⟩ := ry
  obtain ⟨its, r, pl, hz⟩ := I.list hq
  obtain ⟨j, h1, h2, h3, h4, h5⟩ := atI_get he
  obtain ⟨w, ew, rw'⟩ := r.get h2
  have hl := r.length
  have hn := line63
  have fin : EP X pins σ Q w s := ⟨z, H, I, rw', q⟩
  by_cases h0 : 0 ≤ i
  · have hj : i.toNat = j := by
      rw [seqIndex_of h0 h5] at h1
      exact Option.some.inj h1
    exact item_listR pl.isList h0 (by omega) (by rw [hj]; simpa using ew) fin hs
  · have hj : (i + (its.toArray.size : Int)).toNat = j := by
      rw [seqIndex_neg (by omega) h4] at h1
      rw [List.size_toArray, ← hl]
      exact Option.some.inj h1
    exact subscriptTail_builtinR (x := w) pl.isList.typeIs slot_list_getitem.lookup
      (wpAny_getItem_list_neg (Q := fun r s' => r = w ∧ EP X pins σ Q r s') pl.isList (by omega) (by rw [List.size_toArray] <;> omega) (by omega) (by rw [hj]; simpa using ew) ⟨rfl, fin⟩) hs
theorem ix_tup : IxR X (rIxT X.K) := by
  intro value slice pins s σ H x y v u Q I rx ry h hs
  obtain ⟨p, xs, i, z, rfl, rfl, hq, he, q⟩ := h
  cases rx
  obtain ⟨t, rfl⟩ := ry
  obtain ⟨its, r, pl, hz⟩ := I.tuple hq
  obtain ⟨j, h1, h2, h3, h4, h5⟩ := atI_get he
  obtain ⟨w, ew, rw'⟩ := r.get h2
  have hl := r.length
  have hn := line63
  have fin : EP X pins σ Q w s := ⟨z, H, I, rw', q⟩
  exact subscriptTail_builtinR (x := w) pl.typeIs slot_tuple_getitem.lookup
    (getItem_tuple (j := j) (Q := fun r s' => r = w ∧ EP X pins σ Q r s') pl (by omega) (by omega) (by rw [List.size_toArray, ← hl]; exact h1) (by simpa using ew) ⟨rfl, fin⟩) hs
theorem mapSeq_set (its : List Value) (n j : Nat) (u : Value) : Obj.mapSeq (·.setIfInBounds j u) { cls := .type "list", data := .seq its.toArray n } = { cls := .type "list", data := .seq (its.set j u).toArray n } := by
  simp [Obj.mapSeq]
theorem Inv.lst {pins : List (Addr × Obj)} {σ : St} {H : Hp} {s : Shared} {p : Addr} {xs : List V} (I : Inv X pins σ H s) (h : H p = some (.lst xs)) :
    ∃ (its : List Value) (n : Nat), Vals xs its ∧ s.heap.get? p = some { cls := .type "list", data := .seq its.toArray n } ∧ xs.length ≤ sizeLine := by
  obtain ⟨z, its, n, r, e⟩ := I.hok p _ h
  exact ⟨its, n, r, e, z⟩
theorem Inv.lstUpd {pins : List (Addr × Obj)} {σ : St} {H : Hp} {s : Shared} {p : Addr} {xs ys : List V} {its its' : List Value} {n n' : Nat} {f : Obj → Obj} (I : Inv X pins σ H s) (h : H p = some (.lst xs))
    (ho : s.heap.get? p = some { cls := .type "list", data := .seq its.toArray n }) (hf : f { cls := .type "list", data := .seq its.toArray n } = { cls := .type "list", data := .seq its'.toArray n' }) (r : Vals ys its') (hz : ys.length ≤ sizeLine) (t : Nat) :
    Inv X pins σ (upd H p (.lst ys)) { s with heap := s.heap.update p f, toks := t } := by
  have e : (s.heap.update p f).get? p = some { cls := .type "list", data := .seq its'.toArray n' } := by
    rw [Heap.get?_update_self f ho (by rw [hf] <;> rfl), hf]
  refine I.write (x := p) (e := p) (by rw [h]; trivial) (.inl rfl) (fun b u hb q => (Heap.get?_update_other _ _ (Ne.symm hb)).trans q) ⟨_, e⟩ ?_
  exact ⟨hz, its', n', r, e⟩
def rSetL : V → V → V → Hp → (Hp → Prop) → Prop := fun o i v H Q => ∃ p xs k j, o = .ref p ∧ i = .int k ∧ H p = some (.lst xs) ∧ ixN xs.length k = some j ∧ Q (upd H p (.lst (xs.set j v)))
theorem set_list : PSet X rSetL := by
  intro pins s σ H o i v ov iv u Q I ro ri rv h
  obtain ⟨p, xs, k, j, rfl, rfl, hp, hj, q⟩ := h
  cases ro
  obtain ⟨t, rfl⟩ := ri
  obtain ⟨its, n, r, ho, hz⟩ := I.lst hp
  obtain ⟨h1, h2, h3, h4⟩ := ixN_seq hj
  have hl := r.length
  have hn := line63
  have I' : Inv X pins σ (upd H p (.lst (xs.set j v))) { s with heap := s.heap.update p (Obj.mapSeq (·.setIfInBounds j u)) } :=
    I.lstUpd hp ho (mapSeq_set its n j u) (r.set rv j) (by rw [List.length_set]; exact hz) s.toks
  by_cases h0 : 0 ≤ k
  · have hk : k.toNat = j := by
      rw [seqIndex_of h0 h4] at h1
      exact Option.some.inj h1
    exact PySem.W.ki_setAt ho h0 (by omega) (by rw [List.size_toArray, ← hl]; exact h4) (by rw [hk]; exact ⟨_, I', q⟩)
  · have hk : (k + (its.toArray.size : Int)).toNat = j := by
      rw [seqIndex_neg (by omega) h3] at h1
      rw [List.size_toArray, ← hl]
      exact Option.some.inj h1
    exact PySem.W.ki_setBack ho (by omega) (by rw [List.size_toArray, ← hl]; exact h3) (by omega) (by rw [hk]; exact ⟨_, I', q⟩)
theorem slice_bounds (lo hi : Option Int) (n : Nat) : (sliceBounds lo hi none n).1 = ((HT.sIx n 0 lo : Nat) : Int) ∧ (sliceBounds lo hi none n).2.1 = ((HT.sIx n n hi : Nat) : Int) ∧ (sliceBounds lo hi none n).2.2 = 1 := by
  refine ⟨?_, ?_, rfl⟩
  · cases lo with
    | none => simp [sliceBounds, HT.sIx]
    | some i =>
      simp only [sliceBounds, HT.sIx, Option.getD_none, show (1 : Int) > 0 by decide, if_true]
      by_cases h : i < 0
      · simp only [h, if_true] <;> omega
      · simp only [h, if_false] <;> omega
  · cases hi with
    | none => simp [sliceBounds, HT.sIx]
    | some i =>
      simp only [sliceBounds, HT.sIx, Option.getD_none, show (1 : Int) > 0 by decide, if_true]
      by_cases h : i < 0
      · simp only [h, if_true] <;> omega
      · simp only [h, if_false] <;> omega
theorem slicePick_cut (its : List Value) (lo hi : Option Int) : slicePick its.toArray lo hi none = ((its.drop (HT.sIx its.length 0 lo)).take (HT.sIx its.length its.length hi - HT.sIx its.length 0 lo)).toArray := by
  obtain ⟨h1, h2, h3⟩ := slice_bounds lo hi its.toArray.size
  unfold slicePick
  rw [h1, h2, h3]
  simp only [sliceRange_one, pick_run, List.size_toArray] <;> rfl
def rSlL (K : PySem.W.Frag) : V → Option Int → Option Int → Hp → VK → Prop := fun x lo hi H Q => ∃ a xs, x = .ref a ∧ SqL K H a xs ∧ ∀ p, H p = none → Q (.ref p) (upd H p (.lst (cutV xs lo hi)))
theorem sl_list : SlR X (rSlL X.K) := by
  intro pins s σ H x v vl vu lo hi sl Q I rx hs pl pu h
  obtain ⟨a, xs, rfl, hx, q⟩ := h
  cases rx
  obtain ⟨its, r, ht, hz⟩ := I.list hx
  have hlen := r.length
  refine ⟨"list", _, slot_list_getitem.lookup, ht.isList.typeIs, ?_⟩
  refine wpAny_getItem_list_slice ht.isList hs pl pu .none (by simp) ?_ (by rw [List.size_toArray] <;> omega)
  rw [slicePick_cut, ← hlen]
  refine ⟨.ref s.heap.objs.size, _, I.laid (t' := s.toks) (o := .lst (cutV xs lo hi)) (fun b ob q => Heap.get?_push_of_some _ q) (Nat.le_refl _) ?_, rfl, q _ (I.hok.fresh (Nat.le_refl _))⟩
  exact ⟨Nat.le_trans (cutV_length xs lo hi) hz, _, 0, (r.drop (HT.sIx xs.length 0 lo)).take (HT.sIx xs.length xs.length hi - HT.sIx xs.length 0 lo), Heap.get?_push_size _ rfl⟩
theorem call_len_seq : CallR X (.builtin "len") (fun xs H Q => ∃ p ys, xs = [.ref p] ∧ (SqL X.K H p ys ∨ SqT X.K H p ys) ∧ Q (.int ys.length) H) := by
  intro pins s σ H xs us Q I r h
  obtain ⟨p, ys, rfl, hq, q⟩ := h
  obtain ⟨u, rfl, rx⟩ := vals1 r
  cases rx
  have hn := line63
  rcases hq with hq | hq
  · obtain ⟨its, r', pl, hz⟩ := I.list hq
    have hlen := r'.length
    exact Calls.call_len_list pl.isList (by simp only [List.size_toArray] <;> omega) ⟨.int ys.length, H, I.tok _, ⟨s.toks + 1, by rw [List.size_toArray, hlen]⟩, q⟩
  · obtain ⟨its, r', pl, hz⟩ := I.tuple hq
    have hlen := r'.length
    exact len_tuple pl (by simp only [List.size_toArray] <;> omega) ⟨.int ys.length, H, I.tok _, ⟨s.toks + 1, by rw [List.size_toArray, hlen]⟩, q⟩
theorem CallR.or {f : Value} {r r' : List V → Hp → VK → Prop} (h : CallR X f r) (h' : CallR X f r') : CallR X f (fun xs H Q => r xs H Q ∨ r' xs H Q) := by
  intro pins s σ H xs us Q I rs q
  rcases q with q | q
  · exact h pins s σ H xs us Q I rs q
  · exact h' pins s σ H xs us Q I rs q
theorem call_list_of : CallR X (.type "list") (fun xs H Q => ∃ p ys, xs = [.ref p] ∧ (SqL X.K H p ys ∨ SqT X.K H p ys) ∧ ∀ l, H l = none → Q (.ref l) (upd H l (.lst ys))) := by
  intro pins s σ H xs us Q I r h
  obtain ⟨p, ys, rfl, hq, q⟩ := h
  obtain ⟨u, rfl, rx⟩ := vals1 r
  cases rx
  have fin : ∀ (its : List Value), Vals ys its → ys.length ≤ sizeLine → ∀ (h' : Heap) (c' : Nat), (∀ b o', s.heap.get? b = some o' → h'.get? b = some o') →
      h'.get? s.heap.objs.size = some { cls := .type "list", dict := none, data := .seq its.toArray c', slots := #[] } → EP X pins σ Q (.ref s.heap.objs.size) { s with heap := h' } := fun its r' hz h' c' kp e =>
    ⟨.ref s.heap.objs.size, _, I.laid (t' := s.toks) kp (Nat.le_refl _) (show ObjOk X.prog X.w _ h' _ (.lst ys) from ⟨hz, its, c', r', e⟩), rfl, q _ (I.hok.fresh (Nat.le_refl _))⟩
  rcases hq with hq | hq
  · obtain ⟨its, r', pl, hz⟩ := I.list hq
    have hlen := r'.length
    obtain ⟨o, ho, hc, n, hd⟩ := pl.isList
    exact call_list_seq p (.inl rfl) ho hc hd (fun h' c' kp e => fin its r' hz h' c' kp e) (by simp only [List.size_toArray] <;> omega)
  · obtain ⟨its, r', pl, hz⟩ := I.tuple hq
    have hlen := r'.length
    obtain ⟨o, ho, hc, n, hd⟩ := pl
    exact call_list_seq p (.inr rfl) ho hc hd (fun h' c' kp e => fin its r' hz h' c' kp e) (by simp only [List.size_toArray] <;> omega)
theorem call_tuple_of : CallR X (.type "tuple") (fun xs H Q => ∃ p ys, xs = [.ref p] ∧ ((SqL X.K H p ys ∧ ∀ l, H l = none → Q (.ref l) (upd H l (.tup ys))) ∨ (SqT X.K H p ys ∧ Q (.ref p) H))) := by
  intro pins s σ H xs us Q I r h
  obtain ⟨p, ys, rfl, h⟩ := h
  obtain ⟨u, rfl, rx⟩ := vals1 r
  cases rx
  rcases h with ⟨hq, q⟩ | ⟨hq, q⟩
  · obtain ⟨its, r', pl, hz⟩ := I.list hq
    have hlen := r'.length
    refine call_tuple_list pl.isList (fun h' kp => ?_) (by simp only [List.size_toArray] <;> omega)
    have I1 : Inv X pins σ H { s with heap := h' } := I.kept (t' := s.toks) kp
    have I2 : Inv X pins σ (upd H h'.objs.size (.tup ys)) { s with heap := h'.push { cls := .type "tuple", data := .seq its.toArray } } :=
      I1.laid (t' := s.toks) (fun b o e => Heap.get?_push_of_some _ e) (Nat.le_refl _) (show ObjOk X.prog X.w _ _ _ (.tup ys) from ⟨hz, its, r', IsTup.new _ _⟩)
    exact ⟨.ref h'.objs.size, _, I2, rfl, q _ (I1.hok.fresh (Nat.le_refl _))⟩
  · obtain ⟨its, r', pl, hz⟩ := I.tuple hq
    exact call_tuple_same pl ⟨.ref p, H, I, rfl, q⟩
def tyV (K : PySem.W.Frag) (T : String) (x : V) (H : Hp) : Prop := match x with
  | .str _ => T = "str"
  | .int _ => T = "int"
  | .ref p => (T = "list" ∧ ∃ xs, SqL K H p xs) ∨ (T = "tuple" ∧ ∃ o, K.lookup p = some o ∧ o.cls = .type "tuple" ∧ o.dict = none) ∨
      (T = "dict" ∧ ((∃ kvs, H p = some (.dK kvs)) ∨ ∃ kvs, H p = some (.dT kvs))) ∨ (T = "set" ∧ ∃ S n, H p = some (.set S n))
  | _ => False
theorem tyV_is {pins : List (Addr × Obj)} {σ : St} {H : Hp} {s : Shared} {T : String} {x : V} {v : Value} (I : Inv X pins σ H s) (r : RelV x v) (ty : tyV X.K T x H) :
    s.TypeIs v T ∧ ∀ a, v = .ref a → ∃ ob, s.heap.get? a = some ob ∧ ob.dict = none := by
  cases x with
  | str z =>
    obtain ⟨t, rfl⟩ := r
    cases (show T = "str" from ty)
    exact ⟨typeIs_str s z t, fun _ e => nomatch e⟩
  | int i =>
    obtain ⟨t, rfl⟩ := r
    cases (show T = "int" from ty)
    exact ⟨typeIs_int s i t, fun _ e => nomatch e⟩
  | ref p =>
    cases r
    rcases ty with ⟨rfl, xs, hq⟩ | ⟨rfl, o, hk, hc, hd⟩ | ⟨rfl, hk⟩ | ⟨rfl, S, n, hk⟩
    · obtain ⟨its, _, pl, _⟩ := I.list hq
      refine ⟨pl.isList.typeIs, fun a e => ?_⟩
      cases e
      obtain ⟨o, n, e, c, hd, _⟩ := pl
      exact ⟨o, e, hd⟩
    · refine ⟨⟨o, I.kIn p o hk, hc⟩, fun a e => ?_⟩
      cases e
      exact ⟨o, I.kIn _ o hk, hd⟩
    · have z : ∃ o, s.heap.get? p = some o ∧ o.ExactDict := by
        rcases hk with ⟨kvs, hk⟩ | ⟨kvs, hk⟩
        · obtain ⟨_, _, _, _, o, _, _, e, ex, _⟩ := I.hok p _ hk
          exact ⟨o, e, ex⟩
        · obtain ⟨_, _, _, _, o, _, _, e, ex, _⟩ := I.hok p _ hk
          exact ⟨o, e, ex⟩
      obtain ⟨o, e, ex⟩ := z
      refine ⟨⟨o, e, ex.1⟩, fun a e2 => ?_⟩
      cases e2
      exact ⟨o, e, ex.2.1⟩
    · obtain ⟨o, _, _, _, e, ex, _⟩ := I.hok p _ hk
      refine ⟨⟨o, e, ex.1⟩, fun a e2 => ?_⟩
      cases e2
      exact ⟨o, e, ex.2.1⟩
  | _ => exact False.elim ty
def tBM (K : PySem.W.Frag) (T : String) (r : V → List V → Hp → VK → Prop) (to : TE) (t : TA) : TE := fun σ H Q => to σ H fun x H1 => tyV K T x H1 ∧ t σ H1 fun xs H2 => r x xs H2 Q
variable {o e : Expr} {es : List Expr} {to : TE} {t : TA} {name : Str} {apos cpos : Pos} {T id : String} {r : V → List V → Hp → VK → Prop}
theorem pe_bm (pa : PlainAttrs T) (slot : Slot T name id) (hty : typeOf (.builtin id) = pure (.type "method_descriptor")) (hm : MtR X id r) (ho : PE X o to) (ha : PA X (e :: es) t)
    (hbase : attributeBase o name X.env (eval o X.env) = eval o X.env := by rfl)
    (hfew : ((backTo cpos (starEach (e :: es) X.env)).all (fun x => !x.1) && (backToKw cpos (keywordEach [] X.env)).all (fun x => x.1.isSome)
      && decide ((e :: es).length + ([] : List Keyword).length + (if ([] : List Keyword).isEmpty then 0 else 1) < 30)) = true := by rfl)
    (hline : (apos.endLine == cpos.line) = true := by rfl) (hs : starEach (e :: es) X.env = (false, eval e X.env) :: starEach es X.env := by rfl) (hplain : (backTo cpos (starEach es X.env)).any (·.1) = false := by rfl) :
    PE X (.Call (.Attribute o name apos) (e :: es) [] cpos) (tBM X.K T r to t) := by
  intro pins s σ H Q I h
  refine wpAny_Call_method_late hbase hfew hline rfl (thn (ho pins s σ H _ I h) fun v s1 ⟨x, H1, I1, r1, ty, q1⟩ => ?_)
  obtain ⟨h1, h2⟩ := tyV_is I1 r1 ty
  refine ⟨T, id, pa, slot, hty, h1, h2, ?_⟩
  have hA := ha cpos pins s1 σ H1 _ I1 q1
  rw [hs] at hA ⊢
  refine Calls.callWith_builtin (by show (false || (backTo cpos (starEach es X.env)).any (·.1)) = false; rw [hplain] <;> rfl) (Calls.evalArgs_plain ?_)
  exact thn hA fun us s2 ⟨vs, H2, I2, r2, q2⟩ => hm pins s2 σ H2 x vs v us Q I2 r1 r2 q2
end
end L2
namespace L2
open PySem PySem.Spec PyProof.Rows
def MtM (X : Cx) (id : String) (r : V → List V → Hp → VK → Prop) : Prop :=
  ∀ (pins : List (Addr × Obj)) (s : Shared) (σ : St) (H : Hp) (x : V) (xs : List V) (v : Value) (us : List Value) (Q : VK), Inv X pins σ H s → RelV x v → Vals xs us → r x xs H Q →
    wpAny (model X.prog X.w) X.A (call (.builtin id) (v :: us)) (EP X pins σ Q) X.xe s
theorem Vals.one : ∀ {x : V} {us : List Value}, Vals [x] us → ∃ u, us = [u] ∧ RelV x u
  | _, _, .cons r .nil => ⟨_, rfl, r⟩
theorem Vals.zero : ∀ {us : List Value}, Vals [] us → us = []
  | _, .nil => rfl
theorem Vals.dropLast {xs : List V} {us : List Value} (h : Vals xs us) : Vals xs.dropLast us.dropLast := by
  induction h with
  | nil => exact .nil
  | cons r t ih =>
    cases t with
    | nil => exact .nil
    | cons q t' => exact .cons r ih
theorem Vals.rep {xs : List V} {us : List Value} (h : Vals xs us) : ∀ k : Nat, Vals (List.replicate k xs).flatten (List.replicate k us).flatten
  | 0 => .nil
  | k + 1 => by
    rw [List.replicate_succ, List.replicate_succ, List.flatten_cons, List.flatten_cons]
    exact Vals.append h (Vals.rep h k)
theorem foldl_rep (its : List Value) : ∀ (k : Nat) (acc : List Value),
    List.foldl (fun x1 x2 => x1 ++ x2) acc.toArray (List.replicate k its.toArray) = (acc ++ (List.replicate k its).flatten).toArray
  | 0, acc => by simp
  | k + 1, acc => by
    have e : acc.toArray ++ its.toArray = (acc ++ its).toArray := by simp
    have e2 : (acc ++ its) ++ (List.replicate k its).flatten = acc ++ (List.replicate (k + 1) its).flatten := by
      rw [List.replicate_succ, List.flatten_cons, List.append_assoc]
    rw [← e2, ← foldl_rep its k (acc ++ its), ← e, List.replicate_succ, List.foldl_cons]
section
variable {X : Cx} {pins : List (Addr × Obj)} {σ : St} {H : Hp} {s : Shared} {l b : Addr} {xs ys zs : List V}
theorem Inv.lset {its its' : List Value} {n : Nat} {f : Array Value → Array Value} {t' : Nat} (I : Inv X pins σ H s) (hH : H l = some (.lst xs))
    (e : s.heap.get? l = some { cls := .type "list", data := .seq its.toArray n }) (hf : f its.toArray = its'.toArray) (hv : Vals ys its') (hz : ys.length ≤ sizeLine) :
    Inv X pins σ (upd H l (.lst ys)) { s with heap := s.heap.update l (Obj.mapSeq f), toks := t' } := by
  have q := PySem.IsL.update e f
  rw [hf] at q
  refine I.write (x := l) (e := l) (by rw [hH]; exact trivial) (.inl rfl) (fun b' u hb hu => (Heap.get?_update_other s.heap (Obj.mapSeq f) (Ne.symm hb)).trans hu) ⟨_, q⟩ ?_
  exact ⟨hz, its', _, hv, q⟩
theorem Inv.lnew {its : List Value} {t' : Nat} (I : Inv X pins σ H s) (hv : Vals ys its) (hz : ys.length ≤ sizeLine) :
    Inv X pins σ (upd H s.heap.objs.size (.lst ys)) { s with heap := s.heap.push { cls := .type "list", data := .seq its.toArray }, toks := t' } :=
  I.laid (fun _ _ q => Heap.get?_push_of_some _ q) (Nat.le_refl _) ⟨hz, its, 0, hv, Heap.get?_push_size _ rfl⟩
theorem Inv.fresh (I : Inv X pins σ H s) : H s.heap.objs.size = none := I.hok.fresh (Nat.le_refl _)
theorem Inv.lstM (I : Inv X pins σ H s) (hH : H l = some (.lst xs)) : xs.length ≤ sizeLine ∧ ∃ (its : List Value) (n : Nat), Vals xs its ∧ xs.length = its.length ∧ s.heap.get? l = some { cls := .type "list", data := .seq its.toArray n } := by
  obtain ⟨z, its, n, r, e⟩ := I.hok l _ hH
  exact ⟨z, its, n, r, r.length, e⟩
theorem notLongL {n : Nat} (h : n ≤ sizeLine) : Builtin.List.listTooLong n = false := by
  unfold Builtin.List.listTooLong
  exact decide_eq_false (by omega)
end
section
variable {X : Cx}
def rAppend : V → List V → Hp → VK → Prop := fun x vs H Q => ∃ l xs y, x = .ref l ∧ vs = [y] ∧ H l = some (.lst xs) ∧ xs.length < sizeLine ∧ Q .non (upd H l (.lst (xs ++ [y])))
theorem mt_append : MtM X "list.append" rAppend := by
  intro pins s σ H x vs v us Q I rx rv h
  obtain ⟨l, xs, y, rfl, rfl, hH, hz, q⟩ := h
  cases rx
  obtain ⟨u, rfl, ru⟩ := rv.one
  obtain ⟨z, its, n, r, hl, e⟩ := I.lstM hH
  refine call_meets F.slot_list_append ⟨_, e, rfl⟩ F.entry_list_append (F.args_list_append_2 _ _) (PySem.list_append l its.toArray n u (by rw [List.size_toArray]; omega)) ⟨e, ?_⟩
  refine ⟨.non, _, I.lset (its' := its ++ [u]) hH e (by simp) (r.append (.cons ru .nil)) ?_, rfl, q⟩
  rw [List.length_append, List.length_singleton]
  omega
def rCat : R2 := fun x y H Q => ∃ l b xs zs, x = .ref l ∧ y = .ref b ∧ H l = some (.lst xs) ∧ H b = some (.lst zs) ∧ xs.length + zs.length ≤ sizeLine ∧ ∀ p, H p = none → Q (.ref p) (upd H p (.lst (xs ++ zs)))
theorem op_cat : OpR X (binaryOp .Add) rCat := by
  intro pins s σ H x y v u Q I rx ry h
  obtain ⟨l, b, xs, zs, rfl, rfl, hH, hB, hz, q⟩ := h
  cases rx
  cases ry
  obtain ⟨z, its, n, r, hl, e⟩ := I.lstM hH
  obtain ⟨z2, its2, n2, r2, hl2, e2⟩ := I.lstM hB
  refine PySem.P.add_list e e2 ?_ (by rw [List.size_toArray, List.size_toArray]; omega)
  have ea : its.toArray ++ its2.toArray = (its ++ its2).toArray := by simp
  rw [ea]
  exact ⟨.ref _, _, I.lnew (t' := s.toks) (r.append r2) (by rw [List.length_append]; omega), rfl, q _ I.fresh⟩
def rRep : R2 := fun x y H Q => ∃ l k xs, x = .ref l ∧ y = .int k ∧ H l = some (.lst xs) ∧ -(2 ^ 63) ≤ k ∧ k < 2 ^ 63 ∧ xs.length * k.toNat ≤ sizeLine ∧
  ∀ p, H p = none → Q (.ref p) (upd H p (.lst (List.replicate k.toNat xs).flatten))
theorem len_rep {α : Type} (xs : List α) (k : Nat) : (List.replicate k xs).flatten.length = k * xs.length := by
  induction k with
  | zero => simp
  | succ k ih => rw [List.replicate_succ, List.flatten_cons, List.length_append, ih, Nat.succ_mul, Nat.add_comm]
theorem op_rep : OpR X (binaryOp .Mult) rRep := by
  intro pins s σ H x y v u Q I rx ry h
  obtain ⟨l, k, xs, rfl, rfl, hH, h1, h2, hz, q⟩ := h
  cases rx
  obtain ⟨t, rfl⟩ := ry
  obtain ⟨z, its, n, r, hl, e⟩ := I.lstM hH
  have hlen : its.toArray.size * k.toNat ≤ sizeLine := by rw [List.size_toArray, ← hl]; exact hz
  have hcap : ¬ its.toArray.size * k.toNat > (2 ^ 63 - 1) / 8 := by
    have : (sizeLine : Nat) ≤ (2 ^ 63 - 1) / 8 := by decide
    omega
  have hfit : ¬ (!Builtin.List.listFitsIndex k) = true := by
    rw [fitsIndex_both h1 h2]
    exact Bool.false_ne_true
  have hlong : ¬ Builtin.List.listTooLong (its.toArray.size * k.toNat) = true := by
    rw [notLongL hlen]
    exact Bool.false_ne_true
  have hnew : List.foldl (fun x1 x2 => x1 ++ x2) #[] (List.replicate (if its.toArray.isEmpty = true then 0 else k.toNat) its.toArray) = (List.replicate k.toNat its).flatten.toArray := by
    have f0 : ∀ m : Nat, List.foldl (fun x1 x2 => x1 ++ x2) #[] (List.replicate m its.toArray) = (List.replicate m its).flatten.toArray := fun m => by
      have := foldl_rep its m []
      rw [List.nil_append] at this
      exact this
    rw [f0]
    cases its with
    | nil => simp
    | cons a r' => rw [if_neg (by simp)]
  refine wpAny_binaryOp_repeat_ref (T := "list") (U := "int") (by decide) ⟨_, e, rfl⟩ (fun s' => typeIs_int s' k t) noFill_list_mul F.fills_int_mul F.slot_int_rmul repeat_list F.slot_int_index.lookup
    (call_meets F.slot_int_rmul (typeIs_int s k t) F.entry_int_rmul (F.args_int_rmul_2 _ _) (int___rmul___int_list k t l its.toArray n)
      ⟨e, rfl, ⟨_, e, rfl⟩, call_meets F.slot_list_mul ⟨_, e, rfl⟩ F.entry_list_mul (F.args_list_mul_2 _ _) (AutoListH.list___mul___list_int_3 l its.toArray n k t hfit hcap hlong) ⟨e, ?_⟩⟩)
  rw [hnew]
  exact ⟨.ref _, _, I.lnew (t' := s.toks) (r.rep k.toNat) (by rw [len_rep, Nat.mul_comm]; exact hz), rfl, q _ I.fresh⟩
end
section
variable {prog : Program} {w : World} {A : Around} {E : Value → Shared → Prop} {s : Shared}
end
section
variable {X : Cx}
end
end L2
namespace Att
open PySem PySem.W PySem.Calls PyProof.Rows
theorem ints_of_wellAll {P : Params} {h : Heap} : ∀ (ns : List Int) (vs : List Value), WellAll P h vs (ns.map WData.int) → IntsAre vs ns := by
  intro ns
  induction ns with
  | nil =>
    intro vs w
    rw [List.map_nil] at w
    cases w
    exact .nil
  | cons n ns ih =>
    intro vs w
    rw [List.map_cons] at w
    cases w with
    | cons a b =>
      cases a
      exact .cons _ _ (ih _ b)
theorem script_of {l : OpenLaw} {n : Nat} (hn : l.most = some n) {P : Params} {h : Heap} {args : List WData} {vals : List Value}
    (hpre : l.row.toRowW.claim.pre args = true) (hwl : WellAll P h vals args) :
    ∃ a vs ns, vals = [Value.ref a] ∧ args = [WData.list (ns.map WData.int)] ∧ h.get? a = some { cls := .type "list", data := .seq vs.toArray } ∧ IntsAre vs ns ∧ ns.length ≤ n := by
  have hsh : WShape.hasAll [] args [.list .int] = true := (pre_splitW hpre).1
  have hc : l.pre.holds [] { args := args } = true := (pre_splitW hpre).2
  obtain ⟨d, r, rfl, h1, h2⟩ := hasAllW_cons hsh
  obtain rfl := hasAllW_nil h2
  obtain ⟨xs, rfl, h3⟩ := hasW_list h1
  obtain ⟨ns, rfl⟩ := items_int h3
  have hlen : ns.length ≤ n := by
    unfold OpenLaw.pre at hc
    have h4 : (WTm.not (.lt (.lit (.int (n : Int))) (.len (.arg 0)))).holds [] { args := [.list (ns.map .int)] } = true := by
      have h4 := (holds_andW hc).1
      rw [hn] at h4
      exact h4
    have h5 := condW_of h4 (w_not (w_lt w_lit (w_len_list (w_arg rfl))))
    rw [List.length_map] at h5
    refine Nat.le_of_not_lt fun q => ?_
    have q' : (n : Int) < ((ns.length : Nat) : Int) := by omega
    first
      | (rw [decide_eq_true q'] at h5; exact absurd h5 (by decide))
      | (simp at h5; omega)
  cases hwl with
  | cons w1 w2 =>
    cases w2
    cases w1 with
    | list ho hall => exact ⟨_, _, ns, rfl, rfl, ho, ints_of_wellAll ns _ hall, hlen⟩
theorem post_true (l : OpenLaw) (args : List WData) : l.row.toRowW.claim.post args (.bool true) args = true :=
  postW_of (r := l.row.toRowW) (X := (true == true))
    (show WShape.has [] (.bool true) .bool = true by first | rfl | decide | simp [WShape.has, WShape.arms, WShape.armsAll])
    (show (WTm.eq .res (.lit (.bool true))).value [] { args := args, res := some (.bool true), after := args } = some (.bool (true == true)) from w_eq_bool (w_res rfl) w_lit) rfl
theorem lay_bits {ns : List Int} (h : WData.layableAll [WData.list (ns.map WData.int)] = true) : ∀ x ∈ ns, Builtin.Int.intBits x ≤ 1048576 := by
  have h1 : WData.layable (WData.list (ns.map WData.int)) = true := by
    have h' : (WData.layable (WData.list (ns.map WData.int)) && true) = true := h
    rwa [Bool.and_true] at h'
  unfold WData.layable at h1
  rw [Bool.and_eq_true] at h1
  have h2 := of_decide_eq_true h1.2
  have h3 : WData.weightAll (ns.map WData.int) ≤ 2 ^ 20 := by
    have e : WData.weight (WData.list (ns.map WData.int)) = WData.weightAll (ns.map WData.int) := by simp only [WData.weight]
    rwa [e] at h2
  have h4 : ∀ (l : List Int), ∀ x ∈ l, WData.weight (WData.int x) ≤ WData.weightAll (l.map WData.int) := by
    intro l
    induction l with
    | nil => intro x hx; cases hx
    | cons y r ih =>
      intro x hx
      have e : WData.weightAll ((y :: r).map WData.int) = WData.weight (WData.int y) + 1 + WData.weightAll (r.map WData.int) := by
        rw [List.map_cons]; simp only [WData.weightAll]
      rw [e]
      rcases List.mem_cons.mp hx with z | z
      · subst z; omega
      · have := ih x z; omega
  intro x hx
  have h5 := Nat.le_trans (h4 ns x hx) h3
  have e : WData.weight (WData.int x) = Builtin.Int.intBits x := by
    simp only [WData.weight]
    unfold Builtin.Int.intBits
    by_cases hz : x = 0
    · subst hz; rfl
    · have hb : (x == 0) = false := by simpa using hz
      simp [hz]
  rw [e] at h5
  exact h5
theorem attach_call {l : OpenLaw} {n : Nat} {q : Program} {loose : List Str} {XP : (Str → Option Value) → Heap → Prop} {YP : World → Heap → Prop} {d : DefRec}
    (hn : l.most = some n) (hdf : d.params.defaults = [])
    (call : ∀ (w : World) (s₀ s₁ : Shared) (mg mb : Str → Option Value) (fa : Addr) (o : Obj) (pm cd doc : Value) (a : Addr) (vs : List Value) (ns : List Int),
      Ground q loose [] XP w s₀ mg mb s₁.heap → YP w s₁.heap →
      s₁.heap.get? fa = some o → o.data = .func (docDef d.name d.params d.body d.scope pm cd doc) → s₁.heap.CodeRec cd d.name → mg d.name = some (.ref fa) →
      s₁.heap.get? a = some { cls := .type "list", data := .seq vs.toArray } → IntsAre vs ns → ns.length ≤ n → (∀ x ∈ ns, Builtin.Int.intBits x ≤ 1048576) → s₁.gens = #[] →
      codeAny (model l.prog w) callerA (.call (.ref fa) ⟨[.ref a], []⟩) (fun r s' => r = .ok (.ret (.bool true)) ∧ OldK s₁.heap s'.heap ∧ s'.os = s₁.os ∧ AllBare s'.gens) s₁) :
    WalkO q loose XP YP l.row.toRowW d [] (fun f vs => PySem.call f vs) := by
  intro w s₀ s₁ mg mb G Y fa o pm cd doc dV kV ho hd hcd hD hmg hg args vals as hpre hlay hrd hwl hlo
  obtain rfl : dV = .none := Dflts.none hD hdf
  obtain rfl : kV = .none := Dflts.noKw hD
  obtain ⟨a, vs, ns, rfl, rfl, hobj, hints, hlen⟩ := script_of hn hpre hwl
  refine enter_call (codeAny_mono (call w s₀ s₁ mg mb fa o pm cd doc a vs ns G Y ho (fd_plain hd) hcd hmg hobj hints hlen (lay_bits hlay) hg) fun r s' hq => ?_)
  obtain ⟨rfl, h2, h3, h4⟩ := hq
  exact ⟨.inl ⟨.bool true, .bool true, [], rfl, fun _ => rfl, .bool true, post_true l _, fun _ => ⟨List.Pairwise.nil, fun _ hm => (nomatch hm)⟩⟩, h2, h3, h4⟩
section
variable {prog : Program} {w : World} {A : Around} {E : Value → Shared → Prop} {s : Shared} {K : Frag}
end
end Att
namespace L2
open PySem PySem.Spec PyProof.Rows
theorem vals_ints : ∀ {vs : List Value} {ns : List Int}, IntsAre vs ns → Vals (ns.map V.int) vs
  | _, _, .nil => .nil
  | _, _, .cons n t h => .cons ⟨t, rfl⟩ (vals_ints h)
def Only (H : Hp) : Prop := ∀ b, H b = none ∨ ∃ o xs, H b = some (.frz o (.lst xs))
theorem law_call {P : Program} {w : World} {K : PySem.W.Frag} {mg mb : Str → Option Value} {CX : CXT} {k : Nat} {fa a : Addr} {fd : FuncData} {x : Str} {sp : Sp} {s₁ : Shared} {vs : List Value} {ns : List Int}
    (KX : K.In s₁.heap) (hns : s₁.heap.Ns mainGlobals mg) (hb : s₁.heap.Ns builtinsNs mb) (hbb : ∀ x : Str, x ≠ "__name__" → mb x = bootBuiltins x) (hlim : s₁.heap.NoLimit) (hsr : s₁.heap.NoSeer) (hg : s₁.gens = #[])
    (ha : s₁.heap.get? a = some { cls := .type "list", data := .seq vs.toArray }) (hi : IntsAre vs ns) (hl : ns.length ≤ sizeLine) (hr : Room k callerA)
    (F : ∀ base : Heap, K.In base → base.Ns mainGlobals mg → FnOk P w K mg base CX k fa fd [x] sp) (hbind : ∀ (s : Shared) (u : Value), BindsTo s fd ⟨[u], []⟩ [(x, u)])
    (hsp : ∀ H : Hp, Only H → SqL K H a (ns.map V.int) → sp [.ref a] H (fun v _ => v = .bl true) fun _ _ _ => False)
    (hCX : ∀ H e s', CX [] H s₁ (fun _ _ _ => False) e s' → False) :
    codeAny (model P w) callerA (.call (.ref fa) ⟨[.ref a], []⟩) (fun r s' => r = .ok (.ret (.bool true)) ∧ OldK s₁.heap s'.heap ∧ s'.os = s₁.os ∧ AllBare s'.gens) s₁ := by
  have rv := vals_ints hi
  have lenV := hi.length
  have core : ∀ H : Hp, Only H → SqL K H a (ns.map V.int) → HOk P w H s₁.heap → (∀ b, H b ≠ none → b = a) → (H a ≠ none → K.lookup a = none) →
      codeAny (model P w) callerA (.call (.ref fa) ⟨[.ref a], []⟩) (fun r s' => r = .ok (.ret (.bool true)) ∧ OldK s₁.heap s'.heap ∧ s'.os = s₁.os ∧ AllBare s'.gens) s₁ := by
    intro H hO hS hok hA hK
    have base_of : ∀ {b : Addr} {o : Obj}, s₁.heap.get? b = some o → H b = none → (hidT s₁.heap H).get? b = some o := fun e n => hidT_get e n
    have noA : ∀ {b : Addr} {o : Obj} {es : Array DictEntry} {ep : Nat}, s₁.heap.get? b = some o → o.data = .dict es ep → H b = none := fun {b o es ep} e d => by
      cases q : H b with
      | none => rfl
      | some u =>
        have e' : b = a := hA b (by rw [q]; simp)
        subst e'
        rw [ha] at e; cases e
        have d' : Data.seq vs.toArray _ = Data.dict es ep := d
        cases d'
    have nsK : ∀ {b : Addr} {m : Str → Option Value}, s₁.heap.Ns b m → (hidT s₁.heap H).Ns b m := fun {b m} ⟨o, es, ep, e, d, r⟩ => ⟨o, es, ep, base_of e (noA e d), d, r⟩
    have hKb : K.In (hidT s₁.heap H) := fun b o e => base_of (KX b o e) (by
      cases q : H b with
      | none => rfl
      | some u =>
        have e' : b = a := hA b (by rw [q]; simp)
        subst e'
        rw [hK (by rw [q]; simp)] at e; cases e)
    have noC : ∀ {b : Addr} {o : Obj}, s₁.heap.get? b = some o → o.cls ≠ .type "list" → H b = none := fun {b o} e d => by
      cases q : H b with
      | none => rfl
      | some u =>
        have e' : b = a := hA b (by rw [q]; simp)
        subst e'
        rw [ha] at e; cases e
        exact absurd rfl d
    have hSr : (hidT s₁.heap H).NoSeer := ⟨let ⟨mc, h1, h2⟩ := hsr.statics; ⟨mc, nsK h1, h2⟩, let ⟨mc, h1, h2⟩ := hsr.mods; ⟨mc, nsK h1, h2⟩, let ⟨mc, h1, h2⟩ := hsr.imp; ⟨mc, nsK h1, h2⟩,
      let ⟨mg', bm, ob, h1, h2, h3, h4, h5⟩ := hsr.main; ⟨mg', bm, ob, nsK h1, h2, base_of h3 (noC h3 (by rw [h4]; decide)), h4, h5⟩⟩
    have hM : Mod K mg (hidT s₁.heap H) := ⟨hKb, nsK hns, ⟨mb, nsK hb, hbb⟩, let ⟨mc, h1, h2⟩ := hlim; ⟨mc, nsK h1, h2⟩, hSr⟩
    have e0 : Env0 P w K mg (hidT s₁.heap H) callerA [] s₁ H := ⟨rfl, hM, fun b o e => of_hidT e, Nat.le_of_eq (hidT_size _ _), trivial, fun b hb => absurd (show b ∈ ([] : List Addr) from hb) (by simp), hok, .of_eq hg⟩
    refine codeAny_mono ((F _ hKb (nsK hns)).run callerA [] s₁ H ⟨[.ref a], []⟩ [.ref a] [.ref a] _ _ hr e0 (hbind s₁ (.ref a)) (.cons rfl .nil) (hsp H hO hS)) fun r s' h => ?_
    cases r with
    | error e => exact (hCX H e s' h).elim
    | ok fl =>
      cases fl with
      | next => exact False.elim h
      | brk => exact False.elim h
      | cont => exact False.elim h
      | ret u =>
        obtain ⟨v, H', os, bare, un, hok', r', q⟩ := h
        have q' : v = .bl true := q
        subst q'
        obtain rfl : u = Value.bool true := r'
        refine ⟨rfl, OldK.of_keep fun b o e => ?_, os, bare⟩
        cases q : H b with
        | none => exact un.keep b o e q (by intro z; exact absurd (show b ∈ ([] : List Addr) from z) (by simp)) (by simp)
        | some u =>
          rcases hO b with z | ⟨ob, xs, z⟩
          · rw [q] at z; cases z
          · have z2 := un.frzs b ob _ z
            obtain ⟨e1, _⟩ := hok b _ z
            obtain ⟨e2, _⟩ := hok' b _ z2
            rw [e] at e1; cases e1
            exact e2
  cases hk : K.lookup a with
  | some o =>
    have e := KX a o hk
    rw [ha] at e
    cases e
    refine core (fun _ => none) (fun _ => .inl rfl) (.inr ⟨_, vs.toArray, _, hk, rfl, rfl, rfl, by rw [List.size_toArray, lenV]; exact hl, by simpa using rv⟩) (fun b u z => by have z' : (none : Option HO) = some u := z; cases z') (fun b z => absurd rfl z) fun z => absurd rfl z
  | none =>
    refine core (fun b => if b = a then some (.frz { cls := .type "list", data := .seq vs.toArray } (.lst (ns.map V.int))) else none) (fun b => ?_) (.inl (.inr ⟨{ cls := .type "list", data := .seq vs.toArray }, if_pos rfl⟩)) (fun b u z => ?_) (fun b z => ?_) fun _ => hk
    · by_cases hb : b = a
      · exact .inr ⟨_, _, if_pos hb⟩
      · exact .inl (if_neg hb)
    · by_cases hb : b = a
      · have z' := (if_pos hb).symm.trans z
        cases z'
        subst hb
        exact ⟨ha, by rw [List.length_map]; exact hl, vs, _, rv, ha⟩
      · have z' := (if_neg hb).symm.trans z
        cases z'
    · by_cases hb : b = a
      · exact hb
      · exact absurd (if_neg hb) z
end L2
namespace L2
open PySem PySem.Spec PyProof.Rows
theorem walk_of {l : PySem.W.OpenLaw} {n k : Nat} {q : Program} {loose : List Str} {XP : (Str → Option Value) → Heap → Prop} {YP : World → Heap → Prop} {d : DefRec} {K : Params → PySem.W.Frag} {CX : World → CXT} {sp : World → Sp} {x : Str}
    (hn : l.most = some n) (hn2 : n ≤ sizeLine) (hdf : d.params.defaults = []) (hq : importsNone q = true) (hr : Room k callerA)
    (hY : ∀ (w : World) (h : Heap), YP w h → (K w.params).In h)
    (F : ∀ (w : World) (mg : Str → Option Value) (fa : Addr) (h : Heap), (K w.params).In h → h.Ns mainGlobals mg → mg d.name = some (.ref fa) →
      ∃ fd : FuncData, (∀ (s : Shared) (u : Value), BindsTo s fd ⟨[u], []⟩ [(x, u)]) ∧
        ∀ base : Heap, (K w.params).In base → base.Ns mainGlobals mg → FnOk l.prog w (K w.params) mg base (CX w) k fa fd [x] (sp w))
    (hsp : ∀ (w : World) (H : Hp) (a : Addr) (ns : List Int), ns.length ≤ n → (∀ x ∈ ns, Builtin.Int.intBits x ≤ 1048576) → Only H → SqL (K w.params) H a (ns.map V.int) → sp w [.ref a] H (fun v _ => v = .bl true) fun _ _ _ => False)
    (hCX : ∀ (w : World) (H : Hp) (s : Shared) (e : Value) (s' : Shared), CX w [] H s (fun _ _ _ => False) e s' → False) :
    PySem.W.WalkO q loose XP YP l.row.toRowW d [] (fun f vs => PySem.call f vs) := by
  refine Att.attach_call hn hdf fun w s₀ s₁ mg mb fa o pm cd doc a vs ns G Y ho hd hcd hmg hobj hints hlen hbt hg => ?_
  have KX := hY w _ Y
  obtain ⟨fd, hb, hF⟩ := F w mg fa _ KX G.T.g hmg
  exact law_call KX G.T.g G.T.b G.T.builtins G.T.nolimit (G.T.seer hq) hg hobj hints (Nat.le_trans hlen hn2) hr hF hb (fun H hO hS => hsp w H a ns hlen hbt hO hS) fun H e s' => hCX w H s₁ e s'
end L2
namespace L2
open PySem PySem.Spec PyProof.Rows
def defArgs (s : Stmt) : Arguments := match s with
  | .FunctionDef _ a _ _ _ _ _ _ _ _ => a
  | _ => { posonlyargs := [], args := [], vararg := none, kwonlyargs := [], kw_defaults := [], kwarg := none, defaults := [] }
def defBody (s : Stmt) : List Stmt := match s with
  | .FunctionDef _ _ b _ _ _ _ _ _ _ => b
  | _ => []
def defScope (s : Stmt) : Scope := match s with
  | .FunctionDef _ _ _ _ _ _ sc _ _ _ => sc
  | _ => { kind := .function, names := [], isGenerator := false, isCoroutine := false }
abbrev CX0 : CXT := fun _ _ _ _ _ _ => False
abbrev E0 : XK := fun _ _ _ => False
theorem pass0 {X : Cx} : Passes CX0 X E0 := fun _ _ _ _ _ _ _ h => h.elim
structure Fun (K : PySem.W.Frag) (x qual : Str) (st : Stmt) (f : Addr) (fd : FuncData) : Prop where
  ex : ∃ (oc : Value) (od : Option Addr) (kV doc pm : Value) (an : Option Addr) (cdv ct : Value) (osl : Array (Option Value)),
    fd = PySem.W.fnOf x qual (defArgs st) (defBody st) (defScope st) .none kV doc pm an cdv ct ∧ K.lookup f = some ⟨oc, od, .func fd, osl⟩ ∧ PySem.W.codeIn K cdv qual = true
  kp : PySem.W.keepIn K (.ref f) = true
section
variable {P : Program} {w : World} {K : PySem.W.Frag} {mg : Str → Option Value} {base : Heap}
theorem Fun.ok {x qual : Str} {st : Stmt} {f : Addr} {fd : FuncData} {N ps : List Str} {k : Nat} {sp : Sp} (F : Fun K x qual st f fd) (S : FnScope N ps (defScope st)) (len : ∀ vs H Q E, sp vs H Q E → vs.length = ps.length)
    (hbody : ∀ (cdv : Value) (A : Around) (outer : List Env) (s : Shared) (H : Hp) (vs : List V) (Q : VK) (E : XK), Room k (A.deeper (envOfC qual (defScope st) s.heap.objs.size f cdv)) → sp vs H Q E →
      ∃ t, PSs (cxOf CX0 P w K mg base N qual (defScope st) f cdv A outer s H E).nox (defBody st) t ∧ t { nx := fun _ H' => Q .non H', rt := Q } (start N vs) H) : FnOk P w K mg base CX0 (k + 1) f fd ps sp := by
  obtain ⟨oc, od, kV, doc, pm, an, cdv, ct, osl, rfl, lk, hcd⟩ := F.ex
  refine fn_of lk hcd S len fun A outer s H vs Q E hr hsp => ?_
  obtain ⟨t, h, q⟩ := hbody cdv A outer s H vs Q E hr hsp
  exact ⟨t, h.nox, q⟩
theorem Fun.binds {x qual : Str} {st : Stmt} {f : Addr} {fd : FuncData} {ps : List Str} (F : Fun K x qual st f fd)
    (h : ∀ (kV doc pm : Value) (an : Option Addr) (cdv ct : Value) (us : List Value), us.length = ps.length → bindArgs (PySem.W.fnOf x qual (defArgs st) (defBody st) (defScope st) .none kV doc pm an cdv ct) ⟨us, []⟩ = pure (ps.zip us)) : Binds K fd ps [] := by
  obtain ⟨oc, od, kV, doc, pm, an, cdv, ct, osl, rfl, lk, hcd⟩ := F.ex
  exact .all (h kV doc pm an cdv ct)
theorem fun_mk {x qual : Str} {st : Stmt} {f : Addr} {oc : Value} {od an : Option Addr} {osl : Array (Option Value)} {kV doc pm cdv ct : Value} (l : K.lookup f = some ⟨oc, od, .func (PySem.W.fnOf x qual (defArgs st) (defBody st) (defScope st) .none kV doc pm an cdv ct), osl⟩)
    (c : PySem.W.codeIn K cdv qual = true) (k : PySem.W.keepIn K (.ref f) = true) : Fun K x qual st f (PySem.W.fnOf x qual (defArgs st) (defBody st) (defScope st) .none kV doc pm an cdv ct) := ⟨⟨oc, od, kV, doc, pm, an, cdv, ct, osl, rfl, l, c⟩, k⟩
end
theorem small1000 {n : Nat} (h : n ≤ 1000) : n < sizeLine := Nat.lt_of_le_of_lt h (by decide)
section
variable {X : Cx}
theorem pv (i : Nat) {x : Str} {pos : Pos} (hN : X.N[i]? = some x := by rfl) (hv : Vis X.env.scope x := by first | exact Or.inl rfl | exact Or.inr (Or.inl rfl) | exact Or.inr (Or.inr rfl)) (hd : (x == ("__debug__" : Str)) = false := by decide)
    (hcd : (x == ("__classdict__" : Str)) = false := by decide) : PE X (.Name x pos) (tVar i) := pe_var hN hv hd hcd
end
theorem iteF {A B : Prop} (h : B) : if false = true then A else B := by
  rw [if_neg Bool.false_ne_true]
  exact h
theorem iteT {A B : Prop} (h : A) : if true = true then A else B := by
  rw [if_pos rfl]
  exact h
theorem iteNS {c A B : Prop} [Decidable c] (hc : c) (h : B) : if (!decide c) = true then A else B := by
  rw [decide_eq_true hc]
  exact iteF h
def Same (H H' : Hp) : Prop := ∀ b o, H b = some o → H' b = some o
theorem Same.refl (H : Hp) : Same H H := fun _ _ h => h
theorem Same.trans {H H1 H2 : Hp} (a : Same H H1) (b : Same H1 H2) : Same H H2 := fun c o h => b c o (a c o h)
theorem Same.free {H H' : Hp} (e : Same H H') {l : Addr} (h : H' l = Option.none) : H l = Option.none := by
  cases q : H l with
  | none => rfl
  | some o =>
    rw [e l o q] at h
    cases h
theorem Same.seq {K : PySem.W.Frag} {H H' : Hp} {a : Addr} {xs : List V} (e : Same H H') (h : SqL K H a xs) : SqL K H' a xs := by
  rcases h with (h | ⟨o, h⟩) | h
  · exact .inl (.inl (e _ _ h))
  · exact .inl (.inr ⟨o, e _ _ h⟩)
  · exact .inr h
end L2
namespace L2
open PySem PySem.Spec PyProof.Rows
section
variable {X : Cx}
def rAddI : R2 := fun x y H Q => ∃ i j, x = .int i ∧ y = .int j ∧ Q (.int (i + j)) H
def rSubI : R2 := fun x y H Q => ∃ i j, x = .int i ∧ y = .int j ∧ Q (.int (i - j)) H
theorem op_addI : OpR X (binaryOp .Add) rAddI := op_add
theorem op_subI : OpR X (binaryOp .Sub) rSubI := op_sub
def CMulB (i j : Int) : Prop := ∃ m n : Nat, Builtin.Int.intBits i ≤ m ∧ Builtin.Int.intBits j ≤ n ∧ m + n ≤ 134217728
def rMulB : R2 := fun x y H Q => ∃ i j, x = .int i ∧ y = .int j ∧ CMulB i j ∧ Q (.int (i * j)) H
theorem op_mulB : OpR X (binaryOp .Mult) rMulB := opI (C := CMulB) (g := fun i j => i * j) fun _ _ _ _ _ _ _ hc q => by
  obtain ⟨m, n, h1, h2, h3⟩ := hc
  exact mul_int q (IntMulOk.of_le h1 h2 h3)
def CDivB (j : Int) : Prop := 0 < j ∧ Builtin.Int.intBits j ≤ 9000
def rDivB : R2 := fun x y H Q => ∃ i j, x = .int i ∧ y = .int j ∧ CDivB j ∧ Q (.int (i / j)) H
theorem op_fdivB : OpR X (binaryOp .FloorDiv) rDivB := opI (C := fun _ j => CDivB j) (g := fun i j => i / j) fun i j _ _ _ _ _ hc q => by
  have h1 : (0 : Int) < j := hc.1
  have h3 : j.natAbs.log2 < 9000 := (Nat.log2_lt (by omega)).mpr (intBits_le_iff.mp hc.2)
  exact floordiv_int (by omega) (by rw [Int.fdiv_eq_ediv_of_nonneg i (by omega)]; exact q) (.inl (PyProof.noPylong_of_log2 h3))
def rModB : R2 := fun x y H Q => ∃ i j, x = .int i ∧ y = .int j ∧ 0 < j ∧ Q (.int (i % j)) H
theorem op_modB : OpR X (binaryOp .Mod) rModB := op_mod
def rPowB : R2 := fun x y H Q => ∃ i j, x = .int i ∧ y = .int j ∧ CPow i j ∧ Q (.int (i ^ j.toNat)) H
theorem op_powB : OpR X (binaryOp .Pow) rPowB := op_pow
def rLtI : R2 := fun x y H Q => ∃ i j, x = .int i ∧ y = .int j ∧ Q (.bl (decide (i < j))) H
def rGtI : R2 := fun x y H Q => ∃ i j, x = .int i ∧ y = .int j ∧ Q (.bl (decide (j < i))) H
def rGeI : R2 := fun x y H Q => ∃ i j, x = .int i ∧ y = .int j ∧ Q (.bl (decide (j ≤ i))) H
def rEqI : R2 := fun x y H Q => ∃ i j : Int, x = .int i ∧ y = .int j ∧ Q (.bl (decide (i = j))) H
def rNeI : R2 := fun x y H Q => ∃ i j : Int, x = .int i ∧ y = .int j ∧ Q (.bl (!decide (i = j))) H
theorem op_ltI : OpR X (compareOp .Lt) rLtI := op_lt
theorem op_gtI : OpR X (compareOp .Gt) rGtI := op_gt
theorem op_geI : OpR X (compareOp .GtE) rGeI := op_ge
theorem op_eqI : OpR X (compareOp .Eq) rEqI := by
  intro pins s σ H x y v u Q I rx ry h
  obtain ⟨i, j, rfl, rfl, q⟩ := h
  refine op_eq pins s σ H _ _ v u Q I rx ry ⟨rfl, ?_⟩
  have e : decide (V.int i = V.int j) = decide (i = j) := decide_eq_decide.mpr ⟨fun z => V.int.inj z, fun z => by rw [z]⟩
  rw [e]; exact q
theorem op_neI : OpR X (compareOp .NotEq) rNeI := by
  intro pins s σ H x y v u Q I rx ry h
  obtain ⟨i, j, rfl, rfl, q⟩ := h
  refine op_ne pins s σ H _ _ v u Q I rx ry ⟨rfl, ?_⟩
  have e : decide (V.int i = V.int j) = decide (i = j) := decide_eq_decide.mpr ⟨fun z => V.int.inj z, fun z => by rw [z]⟩
  rw [e]; exact q
theorem call_isinst : CallR X (.builtin "isinstance") (fun xs H Q => ∃ x n t b, xs = [x, .ty n] ∧ TyOf X.K H x t ∧ PySem.W.kitOne X.K t (.type n) = some b ∧ Q (.bl b) H) := by
  intro pins s σ H xs us Q I r h
  obtain ⟨x, n, t, b, rfl, ty, e, q⟩ := h
  obtain ⟨u, c, rfl, rx, rc⟩ := vals2 r
  cases (show c = Value.type n from rc)
  exact isinst_ok I rx ty e fun tk => ⟨.bl b, H, I.tok tk, rfl, q⟩
end
theorem kit_int_int (K : PySem.W.Frag) : PySem.W.kitOne K (.type "int") (.type "int") = some true := by with_unfolding_all rfl
theorem kit_int_bool (K : PySem.W.Frag) : PySem.W.kitOne K (.type "int") (.type "bool") = some false := by with_unfolding_all rfl
def Def (K : PySem.W.Frag) (mg : Str → Option Value) (x : Str) (st : Stmt) (ps : List Str) : Prop :=
  ∃ f fd, Fun K x x st f fd ∧ Binds K fd ps [] ∧ mg x = some (.ref f)
def Fn (P : Program) (w : World) (K : PySem.W.Frag) (mg : Str → Option Value) (base : Heap) (k : Nat) (x : Str) (ps : List Str) (sp : Sp) : Prop :=
  ∃ f fd, FnOk P w K mg base CX0 k f fd ps sp ∧ PySem.W.keepIn K (.ref f) = true ∧ Binds K fd ps [] ∧ mg x = some (.ref f)
section
variable {P : Program} {w : World} {K : PySem.W.Frag} {mg : Str → Option Value} {base : Heap}
theorem Def.fn {x : Str} {st : Stmt} {N ps : List Str} {k : Nat} {sp : Sp} (D : Def K mg x st ps) (S : FnScope N ps (defScope st)) (len : ∀ vs H Q E, sp vs H Q E → vs.length = ps.length)
    (hbody : ∀ (f : Addr) (cdv : Value) (A : Around) (outer : List Env) (s : Shared) (H : Hp) (vs : List V) (Q : VK) (E : XK), Room k (A.deeper (envOfC x (defScope st) s.heap.objs.size f cdv)) → sp vs H Q E →
      ∃ t, PSs (cxOf CX0 P w K mg base N x (defScope st) f cdv A outer s H E).nox (defBody st) t ∧ t { nx := fun _ H' => Q .non H', rt := Q } (start N vs) H) : Fn P w K mg base (k + 1) x ps sp := by
  obtain ⟨f, fd, F, b, m⟩ := D
  exact ⟨f, fd, F.ok S len (fun cdv A outer s H vs Q E hr h => hbody f cdv A outer s H vs Q E hr h), F.kp, b, m⟩
theorem Fn.mono {j k : Nat} {x : Str} {ps : List Str} {sp : Sp} (F : Fn P w K mg base j x ps sp) (h : j ≤ k) : Fn P w K mg base k x ps sp := by
  obtain ⟨f, fd, F, r⟩ := F
  exact ⟨f, fd, F.mono h, r⟩
theorem Fn.imp {k : Nat} {x : Str} {ps : List Str} {sp sp' : Sp} (F : Fn P w K mg base k x ps sp) (h : ∀ vs H Q E, sp' vs H Q E → sp vs H Q E) : Fn P w K mg base k x ps sp' := by
  obtain ⟨f, fd, F, r⟩ := F
  exact ⟨f, fd, F.imp h, r⟩
end
section
variable {X : Cx} {k : Nat} {x : Str} {ps : List Str} {sp : Sp} {p pos : Pos} {e : Expr} {es : List Expr} {t : TA}
def tFn (sp : Sp) (t : TA) : TE := fun σ H Q => t σ H fun vs H1 => sp vs H1 Q E0
theorem pe_fn (F : Fn X.prog X.w X.K X.mg X.base k x ps sp) (hr : Room k X.A) (hg : Gl X x) (ha : PA X (e :: es) t) (hdb : (x == ("__debug__" : Str)) = false := by decide)
    (he : starEach (e :: es) X.env = (false, eval e X.env) :: starEach es X.env := by rfl) (hpl : (backTo pos (starEach es X.env)).any (·.1) = false := by rfl) :
    PE X (.Call (.Name x p) (e :: es) [] pos) (tFn sp t) := by
  obtain ⟨f, fd, F, kp, b, m⟩ := F
  have h := pe_call (p := p) (pos := pos) (dvs := []) (ds := []) F hr hg m kp b .nil pass0 ha hdb he hpl
  intro pins s σ H Q I q
  refine h pins s σ H Q I ?_
  show t σ H fun vs H1 => sp (vs ++ []) H1 Q E0
  have q' : t σ H fun vs H1 => sp vs H1 Q E0 := q
  simpa only [List.append_nil] using q'
end
theorem ifD {c A B : Prop} [Decidable c] (h1 : c → A) (h2 : ¬ c → B) : if decide c = true then A else B := by
  by_cases h : c
  · rw [if_pos (decide_eq_true h)]; exact h1 h
  · rw [if_neg (fun z => h (of_decide_eq_true z))]; exact h2 h
theorem ifND {c A B : Prop} [Decidable c] (h1 : ¬ c → A) (h2 : c → B) : if (!decide c) = true then A else B := by
  by_cases h : c
  · rw [if_neg (by rw [decide_eq_true h]; decide)]; exact h2 h
  · rw [if_pos (by rw [decide_eq_false h]; decide)]; exact h1 h
theorem ifF {c A B : Prop} [Decidable c] (h : ¬ c) (b : B) : if decide c = true then A else B := ifD (fun z => absurd z h) (fun _ => b)
theorem b_isinstance : bootBuiltins "isinstance" = some (.builtin "isinstance") := by decide +kernel
theorem b_int : bootBuiltins "int" = some (.type "int") := by decide +kernel
theorem b_bool : bootBuiltins "bool" = some (.type "bool") := by decide +kernel
theorem b_list : bootBuiltins "list" = some (.type "list") := by decide +kernel
theorem b_tuple : bootBuiltins "tuple" = some (.type "tuple") := by decide +kernel
theorem b_len : bootBuiltins "len" = some (.builtin "len") := by decide +kernel
theorem b_max : bootBuiltins "max" = some (.builtin "max") := by decide +kernel
theorem b_min : bootBuiltins "min" = some (.builtin "min") := by decide +kernel
theorem b_zip : bootBuiltins "zip" = some (.type "zip") := by decide +kernel
theorem b_enumerate : bootBuiltins "enumerate" = some (.type "enumerate") := by decide +kernel
theorem at3 {α : Type} (a b c : α) {i : Int} (h0 : 0 ≤ i) (h1 : i < 3) : ∃ v, atI [a, b, c] i = some v ∧ (v = a ∨ v = b ∨ v = c) := by
  rcases (by omega : i = 0 ∨ i = 1 ∨ i = 2) with rfl | rfl | rfl
  · exact ⟨a, rfl, .inl rfl⟩
  · exact ⟨b, rfl, .inr (.inl rfl)⟩
  · exact ⟨c, rfl, .inr (.inr rfl)⟩
theorem Same.put {H H' : Hp} {p : Addr} {o : HO} (s : Same H H') (h : H' p = Option.none) : Same H (upd H' p o) := fun b u e => by
  have e' := s b u e
  rw [upd_ne (ne_of_none e' h)]
  exact e'
theorem Same.new {H : Hp} {p : Addr} {o : HO} (h : H p = Option.none) : Same H (upd H p o) := (Same.refl H).put h
end L2
namespace L2
open PySem PySem.Spec PyProof.Rows
section
variable {X : Cx} {tg : Expr}
end
end L2
namespace L2
open PySem PySem.Spec PyProof.Rows
def clOf (env : Env) : List (Str × NameKind) → List (Str × Addr) → List (Str × Addr)
  | [], acc => acc
  | (n, k) :: r, acc => if k == .free then clOf env r ((n, (env.cells.lookup n).getD 0) :: acc) else clOf env r acc
theorem closure_eq {scope : Scope} {env : Env} (h : ∀ p ∈ scope.names, p.2 = .free → ∃ c, env.cells.lookup p.1 = some c) : closureFor scope env = pure (clOf env scope.names []) := by
  unfold closureFor
  have key : ∀ (names : List (Str × NameKind)) (acc : List (Str × Addr)), (∀ p ∈ names, p.2 = .free → ∃ c, env.cells.lookup p.1 = some c) →
      (forIn names acc (fun (x : Str × NameKind) (cs : List (Str × Addr)) => match x with
        | (name, kind) => if (kind == NameKind.free) = true then (cellOf env name >>= fun c => pure (ForInStep.yield ((name, c) :: cs))) else pure (ForInStep.yield cs)) : Sem (List (Str × Addr))) = pure (clOf env names acc) := by
    intro names
    induction names with
    | nil => intro acc _; rfl
    | cons p r ih =>
      intro acc hp
      obtain ⟨n, k⟩ := p
      have hr : ∀ p ∈ r, p.2 = .free → ∃ c, env.cells.lookup p.1 = some c := fun p hm => hp p (List.mem_cons_of_mem _ hm)
      rw [List.forIn_cons]
      by_cases hk : k = .free
      · subst hk
        obtain ⟨c, hc⟩ := hp (n, .free) List.mem_cons_self rfl
        have hc : env.cells.lookup n = some c := hc
        have e1 : cellOf env n = pure c := by unfold cellOf; rw [hc]
        have e2 : clOf env ((n, .free) :: r) acc = clOf env r ((n, c) :: acc) := by
          show clOf env r ((n, (env.cells.lookup n).getD 0) :: acc) = _
          rw [hc]; rfl
        simp only [beq_self_eq_true, if_true, e1, pure_bind]
        rw [e2]
        exact ih _ hr
      · have hb : (k == NameKind.free) = false := by simpa using hk
        have e2 : clOf env ((n, k) :: r) acc = clOf env r acc := by
          show (if (k == NameKind.free) = true then clOf env r ((n, (env.cells.lookup n).getD 0) :: acc) else clOf env r acc) = _
          rw [hb]; rfl
        simp only [hb, Bool.false_eq_true, if_false, pure_bind]
        rw [e2]
        exact ih _ hr
  have k0 := key scope.names [] h
  show (forIn scope.names ([] : List (Str × Addr)) _ >>= fun r => pure r) = _
  refine Eq.trans (congrArg (fun m => m >>= fun r => pure r) k0) ?_
  rfl
theorem clOf_look {env : Env} : ∀ {names : List (Str × NameKind)} {acc : List (Str × Addr)}, (∀ p ∈ names, p.2 = .free → ∃ c, env.cells.lookup p.1 = some c) → (∀ x c, acc.lookup x = some c → env.cells.lookup x = some c) →
    ∀ x c, (clOf env names acc).lookup x = some c → env.cells.lookup x = some c
  | [], _, _, ha, x, c, h => ha x c h
  | (n, k) :: r, acc, hp, ha, x, c, h => by
    have hr : ∀ p ∈ r, p.2 = .free → ∃ c, env.cells.lookup p.1 = some c := fun p hm => hp p (List.mem_cons_of_mem _ hm)
    by_cases hk : k = .free
    · subst hk
      obtain ⟨d, hd⟩ := hp (n, .free) List.mem_cons_self rfl
      have hd : env.cells.lookup n = some d := hd
      have e2 : clOf env ((n, .free) :: r) acc = clOf env r ((n, d) :: acc) := by
        show clOf env r ((n, (env.cells.lookup n).getD 0) :: acc) = _
        rw [hd]; rfl
      rw [e2] at h
      refine clOf_look hr (fun y e hy => ?_) x c h
      rw [List.lookup_cons] at hy
      cases hyn : y == n with
      | true => rw [hyn] at hy; cases hy; rw [beq_iff_eq.mp hyn]; exact hd
      | false => rw [hyn] at hy; exact ha y e hy
    · have hb : (k == NameKind.free) = false := by simpa using hk
      have e2 : clOf env ((n, k) :: r) acc = clOf env r acc := by
        show (if (k == NameKind.free) = true then clOf env r ((n, (env.cells.lookup n).getD 0) :: acc) else clOf env r acc) = _
        rw [hb]; rfl
      rw [e2] at h
      exact clOf_look hr ha x c h
theorem clOf_has {env : Env} : ∀ {names : List (Str × NameKind)} {acc : List (Str × Addr)} {x : Str}, ((x, NameKind.free) ∈ names ∨ ∃ c, acc.lookup x = some c) → ∃ c, (clOf env names acc).lookup x = some c
  | [], _, _, h => h.elim (fun z => nomatch z) id
  | (n, k) :: r, acc, x, h => by
    by_cases hk : k = .free
    · subst hk
      show ∃ c, (clOf env r ((n, (env.cells.lookup n).getD 0) :: acc)).lookup x = some c
      refine clOf_has ?_
      by_cases hx : x = n
      · subst hx; exact .inr ⟨_, by rw [List.lookup_cons, beq_self_eq_true]⟩
      · rcases h with h | ⟨c, h⟩
        · rcases List.mem_cons.mp h with e | e
          · cases e; exact absurd rfl hx
          · exact .inl e
        · exact .inr ⟨c, by rw [List.lookup_cons, beq_eq_false_iff_ne.mpr hx]; exact h⟩
    · have hb : (k == NameKind.free) = false := by simpa using hk
      have e2 : clOf env ((n, k) :: r) acc = clOf env r acc := by
        show (if (k == NameKind.free) = true then clOf env r ((n, (env.cells.lookup n).getD 0) :: acc) else clOf env r acc) = _
        rw [hb]; rfl
      rw [e2]
      refine clOf_has ?_
      rcases h with h | h
      · rcases List.mem_cons.mp h with e | e
        · cases e; exact absurd rfl hk
        · exact .inl e
      · exact .inr h
section
variable {prog : Program} {w : World} {A : Around}
theorem codeAny_compLoop_gen {elt target iter : Expr} {ifs : List Expr} {scope : Scope} {pos : Pos} {it acc : Value} {env : Env} {s : Shared} {R : Result → Shared → Prop} (I : Nat → Shared → Prop)
    (turn : ∀ n s, I n s → wpAny (model prog w) A (pyNext it) (fun r s₁ => match r with
      | none => R (.ok .next) s₁
      | some v => wpAny (model prog w) A (letOwnedTupleGo target it v) (fun _ s₁' => wpAny (model prog w) A (assign target env v) (fun _ s₂ =>
          wpAny (model prog w) A (forIn ifs true fun c r => if r = true then do let ok ← isTrue c env (eval c env); pure (ForInStep.yield ok) else pure (ForInStep.yield r)) (fun ok s₃ =>
            if ok = true then wpAny (model prog w) A (eval elt env) (fun x s₄ => wpAny (model prog w) A (call (.builtin "list.append") [acc, x]) (fun _ s₅ => ∃ m, m < n ∧ I m s₅) (fun _ _ => False) s₄) (fun _ _ => False) s₃
            else ∃ m, m < n ∧ I m s₃) (fun _ _ => False) s₂) (fun _ _ => False) s₁') (fun _ _ => False) s₁) (fun _ _ => False) s)
    (n : Nat) (h : I n s) : codeAny (model prog w) A (.compLoop (.ListComp elt [⟨target, iter, ifs, 0⟩] scope pos) 0 it acc env) R s := by
  refine codeAny_loop rfl I (fun n s hI => ?_) n h
  show wpAny _ A ((compTurn (.ListComp elt [⟨target, iter, ifs, 0⟩] scope pos) 0 it acc env).onRaise (fun x => do noteFrame x env; theTreesLotGoes x)) _ _ s
  refine wpAny_noted ?_
  rw [compTurn_list]
  refine wpAny_bind (wpAny_standAt (wpAny_bind (wpAny_mono (turn n s hI) (fun r s₁ h₁ => ?_) fun _ _ h' => h'.elim)))
  cases r with
  | none => exact wpAny_pure h₁
  | some v =>
    refine wpAny_bind (wpAny_mono h₁ (fun _ s₁' h₁' => ?_) fun _ _ h' => h'.elim)
    refine wpAny_bind (wpAny_mono h₁' (fun _ s₂ h₂ => wpAny_bind (wpAny_mono h₂ (fun ok s₃ h₃ => ?_) fun _ _ h' => h'.elim)) fun _ _ h' => h'.elim)
    cases ok with
    | false => exact wpAny_pure ⟨rfl, h₃⟩
    | true => exact wpAny_bind (wpAny_bind (wpAny_mono h₃ (fun x s₄ h₄ => wpAny_bind (wpAny_mono h₄ (fun _ s₅ h₅ => wpAny_pure (wpAny_pure ⟨rfl, h₅⟩)) fun _ _ h' => h'.elim)) fun _ _ h' => h'.elim))
end
abbrev blockCx (X : Cx) (pins : List (Addr × Obj)) (N : List Str) (scope : Scope) (C : Addr) (sF : Shared) (HF : Hp) (fp : List Addr) : Cx where
  prog := X.prog
  w := X.w
  K := X.K
  mg := X.mg
  base := X.base
  A := X.A
  N := N
  s₀ := sF
  H₀ := HF
  env := compEnvC scope (clOf X.env scope.names []) C X.env
  outer := X.stack
  stack := X.stack
  ex := fp
  fn := fun _ => false
  calm := X.calm
  pn := X.pn ++ pins
  xe := fun _ _ => False
def blockSt (own : Nat) (ix : List Nat) (σ : St) : St := List.replicate own none ++ ix.map fun i => (σ[i]?).getD none
def CompGo (J : It) (own : Nat) (ix : List Nat) (g : TG) (tt : TT) (te : TE) (σ : St) (H1 : Hp) (acc : Addr) (Q : VK) : Prop :=
  ∃ W : Nat → Nat → List V → Hp → Prop, (∃ m, W 0 m [] (upd H1 acc (.lst []))) ∧ ∀ i m ys H2, W i m ys H2 →
    H2 acc = some (.lst ys) ∧ ((J.stop i H2 ∧ Q (.ref acc) H2) ∨ (J.go i H2 ∧ ys.length < sizeLine ∧ ∀ x H3, J.yld i H2 x H3 → g x (blockSt own ix σ) H3 fun σ4 H4 => σ4.drop own = ix.map (fun i => (σ[i]?).getD none) ∧ tt σ4 H4 fun ok H5 =>
      if ok = true then te σ4 H5 fun y H6 => H6 acc = some (.lst ys) ∧ ∃ m', m' < m ∧ W (i + 1) m' (ys ++ [y]) (upd H6 acc (.lst (ys ++ [y])))
      else ∃ m', m' < m ∧ W (i + 1) m' ys H5))
def tComp (wi : TI) (own : Nat) (ix : List Nat) (g : TG) (tt : TT) (te : TE) : TE := fun σ H Q => wi σ H fun J H1 => ∀ acc, H1 acc = none → CompGo J own ix g tt te σ H1 acc Q
def tNoTest : TT := fun _ H Q => Q true H
def PTs (X : Cx) (ifs : List Expr) (t : TT) : Prop :=
  ∀ (pins : List (Addr × Obj)) (s : Shared) (σ : St) (H : Hp) (Q : Bool → Hp → Prop), Inv X pins σ H s → t σ H Q →
    wpAny (model X.prog X.w) X.A (forIn ifs true fun c r => if r = true then do let ok ← isTrue c X.env (eval c X.env); pure (ForInStep.yield ok) else pure (ForInStep.yield r)) (TP X pins σ Q) X.xe s
theorem pts_nil {X : Cx} : PTs X [] tNoTest := fun _ _ _ H _ I h => wpAny_tests_nil ⟨H, I, h⟩
structure BlockOk (X : Cx) (scope : Scope) (own : List Str) (fr : List Str) (ix : List Nat) : Prop where
  kind : scope.kind = .function
  nocell : ∀ y ∈ scope.names, y.2 ≠ .cell
  names : ∀ y ∈ scope.names, y.2 = .local → scope.names.lookup y.1 = some .local
  free : ∀ p ∈ scope.names, p.2 = .free → ∃ c, X.env.cells.lookup p.1 = some c
  frd : ∀ x ∈ fr, (x, NameKind.free) ∈ scope.names ∧ X.env.kindOf x = some .cell ∧ scope.names.lookup x = some .free
  len : fr.length = ix.length
  at_ : ∀ (j : Nat) x i, fr[j]? = some x → ix[j]? = some i → X.N[i]? = some x
structure BlockB (X : Cx) (scope : Scope) (own : List Str) (fr : List Str) (ix : List Nat) : Prop where
  kind : scope.kind = .function
  nocell : (scope.names.all fun y => y.2 != .cell) = true
  names : (scope.names.all fun y => y.2 != .local || scope.names.lookup y.1 == some .local) = true
  free : (scope.names.all fun p => p.2 != .free || X.env.kindOf p.1 == some .cell) = true
  frd : (fr.all fun x => X.env.kindOf x == some .cell && scope.names.lookup x == some .free) = true
  at_ : (ix.map fun i => X.N[i]?) = fr.map some
theorem mem_of_lookup {x : Str} {k : NameKind} : ∀ {names : List (Str × NameKind)}, names.lookup x = some k → (x, k) ∈ names
  | [], h => by simp at h
  | (n, k') :: r, h => by
    rw [List.lookup_cons] at h
    cases hx : x == n with
    | true =>
      rw [hx] at h
      cases h
      rw [beq_iff_eq.mp hx]
      exact List.mem_cons_self
    | false =>
      rw [hx] at h
      exact List.mem_cons_of_mem _ (mem_of_lookup h)
theorem BlockB.ok {X : Cx} {scope : Scope} {own fr : List Str} {ix : List Nat} (B : BlockB X scope own fr ix) (ok : X.Ok) : BlockOk X scope own fr ix where
  kind := B.kind
  nocell := fun y hy => by simpa using List.all_eq_true.mp B.nocell y hy
  names := fun y hy hl => by
    have := List.all_eq_true.mp B.names y hy
    rw [hl] at this
    simpa using this
  free := fun p hp hf => by
    have := List.all_eq_true.mp B.free p hp
    rw [hf] at this
    exact ok.has p.1 (.inl (by simpa using this))
  frd := fun x hx => by
    have := List.all_eq_true.mp B.frd x hx
    rw [Bool.and_eq_true] at this
    have h2 : scope.names.lookup x = some .free := by simpa using this.2
    exact ⟨mem_of_lookup h2, by simpa using this.1, h2⟩
  len := by
    have := congrArg List.length B.at_
    simpa using this.symm
  at_ := fun j x i hx hi => by
    have e := congrArg (fun l => l[j]?) B.at_
    simp only [List.getElem?_map, hx, hi, Option.map_some] at e
    exact Option.some.inj e
theorem relabel_free {env : Env} (hf : env.scope.kind = .function) : ∀ {names : List (Str × NameKind)} {x : Str}, names.lookup x = some .free → env.kindOf x = some .cell →
    (names.map fun (n, k) => if (k == NameKind.free && env.scope.kind == .function && env.kindOf n == some .cell) then (n, NameKind.cell) else (n, k)).lookup x = some .cell
  | [], _, h, _ => by simp at h
  | (n, k) :: r, x, h, hx => by
    have ih := @relabel_free env hf r x
    show List.lookup x ((if (k == NameKind.free && env.scope.kind == .function && env.kindOf n == some .cell) = true then (n, NameKind.cell) else (n, k)) :: _) = _
    cases hxn : x == n with
    | true =>
      have e := beq_iff_eq.mp hxn
      subst e
      simp only [List.lookup_cons, hxn] at h
      cases h
      rw [if_pos (by rw [hf, hx]; rfl)]
      simp only [List.lookup_cons, hxn]
    | false =>
      simp only [List.lookup_cons, hxn] at h
      by_cases hc : (k == NameKind.free && env.scope.kind == .function && env.kindOf n == some .cell) = true
      · rw [if_pos hc]; simp only [List.lookup_cons, hxn]; exact ih h hx
      · rw [if_neg hc]; simp only [List.lookup_cons, hxn]; exact ih h hx
theorem relabel_has {env : Env} : ∀ {names : List (Str × NameKind)} {x : Str}, (∀ y ∈ names, y.2 ≠ .cell) →
    ((names.map fun (n, k) => if (k == NameKind.free && env.scope.kind == .function && env.kindOf n == some .cell) then (n, NameKind.cell) else (n, k)).lookup x = some .cell ∨
     (names.map fun (n, k) => if (k == NameKind.free && env.scope.kind == .function && env.kindOf n == some .cell) then (n, NameKind.cell) else (n, k)).lookup x = some .free) → (x, NameKind.free) ∈ names
  | [], _, _, h => by simp at h
  | (n, k) :: r, x, hn, h => by
    have ih := @relabel_has env r x (fun y hy => hn y (List.mem_cons_of_mem _ hy))
    have hk : k ≠ .cell := hn (n, k) List.mem_cons_self
    have h' : List.lookup x ((if (k == NameKind.free && env.scope.kind == .function && env.kindOf n == some .cell) = true then (n, NameKind.cell) else (n, k)) :: r.map fun (n, k) => if (k == NameKind.free && env.scope.kind == .function && env.kindOf n == some .cell) then (n, NameKind.cell) else (n, k)) = some .cell ∨
      List.lookup x ((if (k == NameKind.free && env.scope.kind == .function && env.kindOf n == some .cell) = true then (n, NameKind.cell) else (n, k)) :: r.map fun (n, k) => if (k == NameKind.free && env.scope.kind == .function && env.kindOf n == some .cell) then (n, NameKind.cell) else (n, k)) = some .free := h
    by_cases hc : (k == NameKind.free && env.scope.kind == .function && env.kindOf n == some .cell) = true
    · have hf : k = .free := by
        rw [Bool.and_eq_true, Bool.and_eq_true] at hc
        exact beq_iff_eq.mp hc.1.1
      subst hf
      cases hxn : x == n with
      | true => rw [beq_iff_eq.mp hxn]; exact List.mem_cons_self
      | false =>
        rw [if_pos hc] at h'
        simp only [List.lookup_cons, hxn] at h'
        exact List.mem_cons_of_mem _ (ih h')
    · rw [if_neg hc] at h'
      cases hxn : x == n with
      | true =>
        simp only [List.lookup_cons, hxn] at h'
        rcases h' with e | e
        · cases e; exact absurd rfl hk
        · cases e; rw [beq_iff_eq.mp hxn]; exact List.mem_cons_self
      | false =>
        simp only [List.lookup_cons, hxn] at h'
        exact List.mem_cons_of_mem _ (ih h')
section
variable {X : Cx} {pins : List (Addr × Obj)} {σ : St} {H : Hp} {s : Shared}
theorem block_start {scope : Scope} {own fr : List Str} {ix : List Nat} {C : Addr} {h₁ : Heap} {tk : Nat} {fp : List Addr} {m : Str → Option Value} (I : Inv X pins σ H s) (B : BlockOk X scope own fr ix) (hC : C = s.heap.objs.size)
    (hf : ∀ b ∈ fp, FpOk X pins H b) (hb : ∀ b ∈ fp, ∃ o, s.heap.get? b = some o) (old : ∀ b o, s.heap.get? b = some o → h₁.get? b = some o) (hns : h₁.Ns C m) :
    Inv (blockCx X pins (own ++ fr) scope C s H fp) [] (blockSt own.length ix σ) H { s with heap := h₁, toks := tk } := by
  have look : ∀ x c, (clOf X.env scope.names []).lookup x = some c → X.env.cells.lookup x = some c := clOf_look B.free (fun _ _ z => by cases z)
  have lt : ∀ b o, s.heap.get? b = some o → b ≠ C := fun b o e => by rw [hC]; exact Nat.ne_of_lt (Heap.lt_size e)
  have ok : (blockCx X pins (own ++ fr) scope C s H fp).Ok := {
    mod := I.ok.mod
    kind := B.kind
    glob := I.ok.glob
    blt := I.ok.blt
    above := by show s.heap.objs.size ≤ C; rw [hC]; exact Nat.le_refl _
    inj := fun x y c a b => I.ok.inj x y c (look x c a) (look y c b)
    has := fun x hx => clOf_has (.inl (relabel_has B.nocell hx))
    cab := fun x c z => nomatch z
    hd := I.ok.hd
    frames := I.ok.frames
    stk := .inl rfl
    exf := fun b hbf => ⟨by obtain ⟨o, e⟩ := hb b hbf; exact lt b o e, fun x c e => (hf b hbf).2.2.2.2.1 x c (look x c e)⟩
    bs := I.bs
    bsz := Nat.le_trans I.ok.bsz I.sz
    noex := fun b o e hbf => by
      rcases (hf b hbf).2.2.2.1 with z | z
      · exact I.ok.noex b o e z
      · exact absurd (Nat.lt_of_lt_of_le (Heap.lt_size e) (Nat.le_trans I.ok.bsz z)) (Nat.lt_irrefl _)
    exfs := fun b hbf hs => by
      rcases List.mem_cons.mp (I.stkSub b hs) with z | z
      · exact (hf b hbf).2.1 z
      · exact (hf b hbf).2.2.1 z
    funs := I.stack
    frf := I.stkFree }
  refine ⟨ok, rfl, I.bare, Un.kept old, ⟨m, hns, fun i x v e1 e2 e3 => ?_⟩, fun x c e => ?_, ?_, fun x c e => I.freeC x c (look x c e), fun p hp => ?_, I.hok.kept old, ?_⟩
  · have e1 : (own ++ fr)[i]? = some x := e1
    have e2 : (List.replicate own.length none ++ ix.map fun i => (σ[i]?).getD none)[i]? = some (some v) := e2
    by_cases hi : i < own.length
    · rw [List.getElem?_append_left (by rw [List.length_replicate]; exact hi), List.getElem?_replicate, if_pos hi] at e2
      cases e2
    · rw [List.getElem?_append_right (by omega)] at e1
      rw [List.getElem?_append_right (by rw [List.length_replicate]; omega), List.length_replicate, List.getElem?_map] at e2
      obtain ⟨i', hi', e4⟩ := Option.map_eq_some_iff.mp e2
      have e5 : σ[i']? = some (some v) := by
        cases z : σ[i']? with
        | none => rw [z] at e4; cases e4
        | some y => rw [z] at e4; exact congrArg some e4
      have hm : x ∈ fr := List.mem_of_getElem? e1
      obtain ⟨f1, f2, f3⟩ := B.frd x hm
      obtain ⟨mX, _, hl⟩ := I.loc
      obtain ⟨u, r, l⟩ := hl i' x v (B.at_ _ x i' e1 hi') e5 (.inr (.inl f2))
      rcases l with ⟨l, _⟩ | ⟨_, c, ec, z⟩
      · rw [f2] at l; cases l
      · obtain ⟨c', ec'⟩ := clOf_has (env := X.env) (names := scope.names) (acc := []) (x := x) (.inl f1)
        have := look x c' ec'
        rw [ec] at this
        cases this
        obtain ⟨o, ho, hd⟩ := z
        exact ⟨u, r, .inr ⟨.inl (relabel_free I.ok.kind f3 f2), c, ec', o, old _ _ ho, hd⟩⟩
  · obtain ⟨v, o, ho, hd⟩ := I.cell x c (look x c e)
    exact ⟨v, o, old _ _ ho, hd⟩
  · show H C = none
    rw [hC]; exact I.hok.fresh (Nat.le_refl _)
  · have hp' : p ∈ X.pn ++ pins := by simpa using hp
    obtain ⟨e, n, ne, nf, d⟩ := I.pin p hp'
    refine ⟨old _ _ e, n, lt _ _ e, fun z => ?_, d⟩
    rcases List.mem_cons.mp (I.stkSub _ z) with q | q
    · exact ne q
    · exact nf q
  · show (List.replicate own.length none ++ ix.map fun i => (σ[i]?).getD none).length = (own ++ fr).length
    rw [List.length_append, List.length_append, List.length_replicate, List.length_map, B.len]
theorem block_end {N : List Str} {scope : Scope} {C : Addr} {fp : List Addr} {σ' : St} {H' : Hp} {s' : Shared} {h'' : Heap} {pl : List (Addr × Obj)} (I : Inv X pins σ H s) (hf : ∀ b ∈ fp, FpOk X pins H b) (hC : C = s.heap.objs.size)
    (J : Inv (blockCx X pins N scope C s H fp) pl σ' H' s') (hs : Heap.SameBut C s'.heap h'') : Inv X pins σ H' { s' with heap := h'' } := by
  have u := J.base
  have k : ∀ b o, b ≠ C → s'.heap.get? b = some o → h''.get? b = some o := fun b o hb e => hs.extBut b o hb e
  have hn : H' C = none := J.free
  have lt : ∀ b o, s.heap.get? b = some o → b ≠ C := fun b o e => by rw [hC]; exact Nat.ne_of_lt (Heap.lt_size e)
  refine I.call' (s' := { s' with heap := h'' }) (ch := fp) J.os ?_ ?_ J.bare fun b hb => ⟨(hf b hb).2.2.2.1, (hf b hb).2.1, (hf b hb).2.2.2.2.1, (hf b hb).2.2.2.2.2⟩
  · exact ⟨fun b o q n hb he => k b o (lt b o q) (u.keep b o q n hb he), fun b o q n hb he => by
        obtain ⟨sl, e⟩ := u.slot b o q n hb he
        exact ⟨sl, k b _ (lt b o q) e⟩, u.free, fun b o q he => by
        obtain ⟨o', e⟩ := u.there b o q he
        exact ⟨o', k b _ (lt b o q) e⟩, u.tups, u.frzs, u.tbls⟩
  · intro b o e
    have nit : ∀ b u, H' b = some u → b ≠ C := fun b u e z => by rw [z, hn] at e; cases e
    refine (J.hok b o e).stay (fun c v hc q => k c v ?_ q) (fun _ q => q) fun _ _ q => q
    rcases hc with z | z
    · rw [z]; exact nit b o e
    · exact nit c _ z
theorem comp_block {tg iter elt : Expr} {ifs : List Expr} {scope : Scope} {own fr : List Str} {ix : List Nat} {g : TG} {tt : TT} {te : TE} {pos : Pos} {Q : VK} {sF : Shared} {HF : Hp} {C acc it : Addr} {h₁ : Heap} {fp : List Addr} {tn : Nat → Heap → Prop} {J : It} {W : Nat → Nat → List V → Hp → Prop} {m : Str → Option Value} {m0 : Nat} {RR : Result → Shared → Prop}
    (hc : X.calm = true) (B : BlockOk X scope own fr ix)
    (hg : ∀ pins C sF HF fp, PG (blockCx X pins (own ++ fr) scope C sF HF fp) tg g) (ht : ∀ pins C sF HF fp, PTs (blockCx X pins (own ++ fr) scope C sF HF fp) ifs tt) (he : ∀ pins C sF HF fp, PE (blockCx X pins (own ++ fr) scope C sF HF fp) elt te)
    (I3 : Inv X pins σ HF sF) (T : Turn X.prog X.w X.K tg J fp it tn) (st3 : tn 0 sF.heap) (f3 : ∀ b ∈ fp, FpOk X pins HF b) (f3' : ∀ b ∈ fp, ∃ o, sF.heap.get? b = some o) (hC : sF.heap.objs.size = C) (old : ∀ b o, sF.heap.get? b = some o → h₁.get? b = some o) (hns₁ : h₁.Ns C m)
    (w0 : W 0 m0 [] HF) (turn : ∀ i m ys H2, W i m ys H2 → H2 acc = some (.lst ys) ∧ ((J.stop i H2 ∧ Q (.ref acc) H2) ∨ (J.go i H2 ∧ ys.length < sizeLine ∧ ∀ x H3, J.yld i H2 x H3 → g x (blockSt own.length ix σ) H3 fun σ4 H4 => σ4.drop own.length = ix.map (fun i => (σ[i]?).getD none) ∧ tt σ4 H4 fun ok H5 =>
      if ok = true then te σ4 H5 fun y H6 => H6 acc = some (.lst ys) ∧ ∃ m', m' < m ∧ W (i + 1) m' (ys ++ [y]) (upd H6 acc (.lst (ys ++ [y])))
      else ∃ m', m' < m ∧ W (i + 1) m' ys H5)))
    (fin : ∀ s6 H5, Inv (blockCx X pins (own ++ fr) scope C sF HF fp) [] (blockSt own.length ix σ) H5 s6 → Q (.ref acc) H5 → RR (.ok .next) s6) :
    codeAny (model X.prog X.w) X.A (.compStart (.ListComp elt [⟨tg, iter, ifs, 0⟩] scope pos) 0 (.ref it) (.ref acc) (compEnvC scope (clOf X.env scope.names []) C X.env)) RR
      { sF with heap := h₁, toks := sF.toks + ([] : List (Str × Value)).length } := by
  have J0 : Inv (blockCx X pins (own ++ fr) scope C sF HF fp) [] (blockSt own.length ix σ) HF { sF with heap := h₁, toks := sF.toks + ([] : List (Str × Value)).length } := block_start I3 B hC.symm f3 f3' old hns₁
  have st4 : tn 0 h₁ := T.keep _ _ _ st3 fun b _ o e => old b o e
  have fY : ∀ {pl : List (Addr × Obj)} {H' : Hp}, (∀ b ∈ fp, H' b = none) → (∀ p ∈ pl, p.1 ∉ fp) → ∀ b ∈ fp, FpOk (blockCx X pins (own ++ fr) scope C sF HF fp) pl H' b := fun {pl H'} hn hp b hb => by
    refine ⟨hn b hb, (J0.ok.exf b hb).1, J0.ok.exfs b hb, .inl hb, (J0.ok.exf b hb).2, fun p hpm => ?_⟩
    rcases List.mem_append.mp hpm with z | z
    · exact (f3 b hb).2.2.2.2.2 p z
    · exact fun e => hp p z (by rw [e]; exact hb)
  have weak : ∀ {pl : List (Addr × Obj)} {σ4 : St} {H4 : Hp} {s4 : Shared}, Inv (blockCx X pins (own ++ fr) scope C sF HF fp) pl σ4 H4 s4 → σ4.drop own.length = ix.map (fun i => (σ[i]?).getD none) → Inv (blockCx X pins (own ++ fr) scope C sF HF fp) pl (blockSt own.length ix σ) H4 s4 := fun {pl σ4 H4 s4} J e => by
    refine J.weak ?_ fun i v hv => ?_
    · have := J.len
      have := J0.len
      omega
    · have hv' : (List.replicate own.length none ++ ix.map fun i => (σ[i]?).getD none)[i]? = some (some v) := hv
      by_cases hi : i < own.length
      · rw [List.getElem?_append_left (by rw [List.length_replicate]; exact hi), List.getElem?_replicate, if_pos hi] at hv'
        cases hv'
      · rw [List.getElem?_append_right (by rw [List.length_replicate]; omega), List.length_replicate, ← e, List.getElem?_drop] at hv'
        rw [show own.length + (i - own.length) = i by omega] at hv'
        exact hv'
  have loop : ∀ s4 : Shared, s4 = { sF with heap := h₁, toks := sF.toks + ([] : List (Str × Value)).length } →
      codeAny (model X.prog X.w) X.A (.compLoop (.ListComp elt [⟨tg, iter, ifs, 0⟩] scope pos) 0 (.ref it) (.ref acc) (compEnvC scope (clOf X.env scope.names []) C X.env)) RR s4 := by
    rintro s4 rfl
    refine codeAny_compLoop_gen (fun n s' => ∃ i ys H', Inv (blockCx X pins (own ++ fr) scope C sF HF fp) [] (blockSt own.length ix σ) H' s' ∧ tn i s'.heap ∧ (∀ b ∈ fp, H' b = none) ∧ W i n ys H') ?_ m0 ⟨0, [], HF, J0, st4, fun b hb => (f3 b hb).1, w0⟩
    rintro n s5 ⟨i, ys, H5, J5, st5, fr5, w5⟩
    obtain ⟨ha, hturn⟩ := turn i n ys H5 w5
    rcases hturn with ⟨stop, qn⟩ | ⟨go, hsz, step⟩
    · refine thn (T.done (blockCx X pins (own ++ fr) scope C sF HF fp) rfl rfl rfl hc i [] s5 _ H5 (fun _ _ => False) J5 (fY fr5 (fun _ z => by cases z)) st5 stop) fun r s6 ⟨hr, J6⟩ => ?_
      subst hr
      exact fin s6 H5 J6 qn
    · refine thn (T.item (blockCx X pins (own ++ fr) scope C sF HF fp) rfl rfl rfl hc i [] s5 _ H5 (fun _ _ => False) J5 (fY fr5 (fun _ z => by cases z)) st5 go) fun r s6 ⟨u, hr, h6⟩ => ?_
      subst hr
      refine thn h6 fun _ s7 ⟨x, H7, J7, r7, y7, st7, fr7⟩ => ?_
      have J7' := J7.pinned (fY fr7 (fun _ z => by cases z)) (T.obj _ _ st7)
      refine thn (hg pins C sF HF fp _ s7 _ H7 x u _ J7' r7 (step x H7 y7)) fun _ s8 ⟨σ8, H8, J8, k8, q8⟩ => ?_
      have back : ∀ {s9 : Shared} {H9 : Hp}, Inv (blockCx X pins (own ++ fr) scope C sF HF fp) ([] ++ pinsAt fp s7.heap) σ8 H9 s9 → Inv (blockCx X pins (own ++ fr) scope C sF HF fp) [] (blockSt own.length ix σ) H9 s9 ∧ tn (i + 1) s9.heap ∧ ∀ b ∈ fp, H9 b = none := fun {s9 H9} J9 => by
        refine ⟨weak J9.unpinned k8, T.keep _ _ _ st7 fun b hb o e => (J9.pin (b, o) (List.mem_append_right _ (List.mem_append_right _ (mem_pinsAt hb e)))).1, fun b hb => ?_⟩
        obtain ⟨o, e, d⟩ := T.obj _ _ st7 b hb
        exact (J9.pin (b, o) (List.mem_append_right _ (List.mem_append_right _ (mem_pinsAt hb e)))).2.1
      refine thn (ht pins C sF HF fp _ s8 σ8 H8 _ J8 q8) fun ok s9 ⟨H9, J9, q9⟩ => ?_
      cases ok with
      | false =>
        obtain ⟨m', hm, w9⟩ := q9
        obtain ⟨b1, b2, b3⟩ := back J9
        exact ⟨m', hm, i + 1, ys, H9, b1, b2, b3, w9⟩
      | true =>
        refine thn (he pins C sF HF fp _ s9 σ8 H9 _ J9 q9) fun v s10 ⟨y, H10, J10, r10, a10, m', hm, w10⟩ => ?_
        refine thn (mt_append _ s10 σ8 H10 (.ref acc) [y] (.ref acc) [v] (fun _ H' => H' = upd H10 acc (.lst (ys ++ [y]))) J10 rfl (.cons r10 .nil) ⟨acc, ys, y, rfl, rfl, a10, hsz, rfl⟩) fun _ s11 ⟨_, H11, J11, _, e11⟩ => ?_
        subst e11
        obtain ⟨b1, b2, b3⟩ := back J11
        exact ⟨m', hm, i + 1, ys ++ [y], _, b1, b2, b3, w10⟩
  exact codeAny_compStart_list (loop _ rfl) (T.self _ 0 _ _ _ st4 (loop _ rfl))
theorem pe_comp {tg iter elt : Expr} {ifs : List Expr} {scope : Scope} {own fr : List Str} {ix : List Nat} {wi : TI} {g : TG} {tt : TT} {te : TE} {pos : Pos} (hc : X.calm = true) (BB : BlockB X scope own fr ix) (hi : PI X tg iter wi)
    (hg : ∀ pins C sF HF fp, PG (blockCx X pins (own ++ fr) scope C sF HF fp) tg g) (ht : ∀ pins C sF HF fp, PTs (blockCx X pins (own ++ fr) scope C sF HF fp) ifs tt) (he : ∀ pins C sF HF fp, PE (blockCx X pins (own ++ fr) scope C sF HF fp) elt te)
    (hs : ∀ x, foldedSetIterable iter X.env x = pure x := by intro _; rfl) : PE X (.ListComp elt [⟨tg, iter, ifs, 0⟩] scope pos) (tComp wi own.length ix g tt te) := by
  intro pins s σ H Q I h
  have B := BB.ok I.ok
  rw [eval_ListComp]
  refine wpAny_comprehension_free (use := none) rfl hs (closure_eq B.free) B.kind B.names (thn (hi pins s σ H _ I h) fun xv s1 h1 => thn h1 fun itv s2 h2 => ?_)
  obtain ⟨it, fp, tn, J, H2, rfl, I2, T, st2, f2, R⟩ := h2
  refine wpAny_newObj_type (wpAny_newFunctionEnv B.nocell (by intro y hy; simp at hy) (fun h₁ hns₁ hsb₁ => ?_) B.kind)
  dsimp only at hns₁ hsb₁
  have I3 := I2.lnew (t' := s2.toks) (its := []) (ys := []) .nil (Nat.zero_le _)
  obtain ⟨W, ⟨m0, w0⟩, turn⟩ := R _ I2.fresh
  have fF : ∀ b ∈ fp, ∃ o, s2.heap.get? b = some o := fun b hb => let ⟨o, e, _⟩ := T.obj _ _ st2 b hb; ⟨o, e⟩
  have nacc : ∀ b ∈ fp, b ≠ s2.heap.objs.size := fun b hb => let ⟨o, e⟩ := fF b hb; Nat.ne_of_lt (Heap.lt_size e)
  have push : ∀ b o, s2.heap.get? b = some o → (s2.heap.push { cls := .type "list", data := .seq ([] : List Value).toArray }).get? b = some o := fun b o e => Heap.get?_push_of_some _ e
  exact comp_block hc B hg ht he I3 T (T.keep _ _ _ st2 fun b _ o e => push b o e) (fun b hb => ⟨by rw [upd_ne (nacc b hb)]; exact (f2 b hb).1, (f2 b hb).2⟩) (fun b hb => let ⟨o, e⟩ := fF b hb; ⟨o, push b o e⟩) rfl
    (fun b o e => hsb₁.extBut b o (Nat.ne_of_lt (Heap.lt_size e)) (Heap.get?_push_of_some _ e)) hns₁ w0 turn fun s6 H5 J6 qn => by
      obtain ⟨m6, hn6, _⟩ := J6.loc
      exact ⟨m6, hn6, fun h' hs' => ⟨.ref _, H5, block_end I3 (fun b hb => ⟨by rw [upd_ne (nacc b hb)]; exact (f2 b hb).1, (f2 b hb).2⟩) rfl J6 hs', rfl, qn⟩⟩
theorem ps_setC {tg iter elt : Expr} {ifs : List Expr} {scope : Scope} {own fr : List Str} {ix : List Nat} {wi : TI} {g : TG} {tt : TT} {te : TE} {pos spos py : Pos} {k : Nat} {y : Str} (hc : X.calm = true) (hN : X.N.Nodup) (hk : X.N[k]? = some y) (hy : X.env.scope.names.lookup y = some .local) (BB : BlockB X scope own fr ix) (hi : PI X tg iter wi)
    (hg : ∀ pins C sF HF fp, PG (blockCx X pins (own ++ fr) scope C sF HF fp) tg g) (ht : ∀ pins C sF HF fp, PTs (blockCx X pins (own ++ fr) scope C sF HF fp) ifs tt) (he : ∀ pins C sF HF fp, PE (blockCx X pins (own ++ fr) scope C sF HF fp) elt te)
    (hsw : swapsWith (.ListComp elt [⟨tg, iter, ifs, 0⟩] scope pos) (some (.Name y py)) spos.line X.env = pure true := by rfl)
    (hs : ∀ x, foldedSetIterable iter X.env x = pure x := by intro _; rfl) : PS X (.Assign [.Name y py] (.ListComp elt [⟨tg, iter, ifs, 0⟩] scope pos) spos) (tAsg (tComp wi own.length ix g tt te) (gName k)) := by
  intro pins s σ H D I h
  have B := BB.ok I.ok
  rw [exec_Assign_Name_used _ _ _ _ hsw]
  refine wpAny_bind (wpAny_standAt (wpAny_bind ?_))
  show wpAny _ X.A (do let _ ← comprehension (.ListComp elt [⟨tg, iter, ifs, 0⟩] scope pos) scope X.env _ (newList []) false (eval iter X.env) (some (assign (.Name y py) X.env))) _ _ s
  refine wpAny_bind (wpAny_mono (wpAny_comprehension_free (use := some (assign (.Name y py) X.env)) (Q := fun _ s' => SP X pins D .next s') rfl hs (closure_eq B.free) B.kind B.names
    (thn (hi pins s σ H _ I h) fun xv s1 h1 => thn h1 fun itv s2 h2 => ?_)) (fun _ s' hq => wpAny_pure (wpAny_pure hq)) fun _ _ e => e)
  obtain ⟨it, fp, tn, J, H2, rfl, I2, T, st2, f2, R⟩ := h2
  refine wpAny_newObj_type (wpAny_newFunctionEnv B.nocell (by intro y hy; simp at hy) (fun h₁ hns₁ hsb₁ => ?_) B.kind)
  dsimp only at hns₁ hsb₁
  have I3 := I2.lnew (t' := s2.toks) (its := []) (ys := []) .nil (Nat.zero_le _)
  obtain ⟨W, ⟨m0, w0⟩, turn⟩ := R _ I2.fresh
  have fF : ∀ b ∈ fp, ∃ o, s2.heap.get? b = some o := fun b hb => let ⟨o, e, _⟩ := T.obj _ _ st2 b hb; ⟨o, e⟩
  have nacc : ∀ b ∈ fp, b ≠ s2.heap.objs.size := fun b hb => let ⟨o, e⟩ := fF b hb; Nat.ne_of_lt (Heap.lt_size e)
  have push : ∀ b o, s2.heap.get? b = some o → (s2.heap.push { cls := .type "list", data := .seq ([] : List Value).toArray }).get? b = some o := fun b o e => Heap.get?_push_of_some _ e
  have f3 : ∀ b ∈ fp, FpOk X pins (upd H2 s2.heap.objs.size (.lst [])) b := fun b hb => ⟨by rw [upd_ne (nacc b hb)]; exact (f2 b hb).1, (f2 b hb).2⟩
  refine comp_block (Q := fun x H1 => gName k x σ H1 D.nx) hc B hg ht he I3 T (T.keep _ _ _ st2 fun b _ o e => push b o e) f3 (fun b hb => let ⟨o, e⟩ := fF b hb; ⟨o, push b o e⟩) rfl
    (fun b o e => hsb₁.extBut b o (Nat.ne_of_lt (Heap.lt_size e)) (Heap.get?_push_of_some _ e)) hns₁ w0 turn fun s6 H5 J6 qn => ?_
  have I6 : Inv X pins σ H5 { s6 with heap := s6.heap } := block_end I3 f3 rfl J6 (Heap.SameBut.refl ..)
  have I6 : Inv X pins σ H5 s6 := I6
  obtain ⟨m6, ⟨o6, es6, ep6, ho6, rest6⟩, _⟩ := id J6.loc
  have sz : ∀ b o, (s2.heap.push { cls := .type "list", data := .seq ([] : List Value).toArray }).get? b = some o → b ≠ (s2.heap.push { cls := .type "list", data := .seq ([] : List Value).toArray }).objs.size := fun b o e => Nat.ne_of_lt (Heap.lt_size e)
  have hge : X.s₀.heap.objs.size ≤ (s2.heap.push { cls := .type "list", data := .seq ([] : List Value).toArray }).objs.size := I3.sz
  have hloc : (s2.heap.push { cls := .type "list", data := .seq ([] : List Value).toArray }).objs.size ≠ X.env.locals := fun z => by
    have := I3.lt
    rw [← z] at this
    exact Nat.lt_irrefl _ this
  have hfs : (s2.heap.push { cls := .type "list", data := .seq ([] : List Value).toArray }).objs.size ∉ X.fs := I3.nofs (Nat.le_refl _)
  have hcell : ∀ x c, X.env.cells.lookup x = some c → c ≠ (s2.heap.push { cls := .type "list", data := .seq ([] : List Value).toArray }).objs.size := fun x c e => by
    obtain ⟨v, ob, hob, _⟩ := I3.cell x c e
    exact sz _ _ hob
  have hpin : ∀ p ∈ X.pn ++ pins, p.1 ≠ (s2.heap.push { cls := .type "list", data := .seq ([] : List Value).toArray }).objs.size := fun p hp => sz _ _ (I3.pin p hp).1
  have I7 : Inv X (pins ++ [((s2.heap.push { cls := .type "list", data := .seq ([] : List Value).toArray }).objs.size, o6)]) σ H5 s6 := I6.pins_of fun p hp => by
    rcases List.mem_append.mp hp with z | z
    · exact I6.pin p (List.mem_append_right _ z)
    · rw [List.mem_singleton.mp z]
      refine ⟨ho6, J6.free, hloc, hfs, fun v z => ?_⟩
      rw [rest6.1] at z
      cases z
  refine wpAny_assign_Name (store_ok (v := .ref s2.heap.objs.size) I7 hN hk (.inl hy) rfl (fun s8 I8 => ?_) (.inr hy))
  have h8 := (I8.pin ((s2.heap.push { cls := .type "list", data := .seq ([] : List Value).toArray }).objs.size, o6) (List.mem_append_right _ (List.mem_append_right _ (List.mem_singleton.mpr rfl)))).1
  refine ⟨m6, ⟨o6, es6, ep6, h8, rest6⟩, fun h' hs' => ⟨_, H5, (I8.unpinned).turned (t' := s8.toks) (fun b o hb e => hs'.extBut b o hb e) J6.free hloc (.inr hge) hcell hpin, qn⟩⟩
end
end L2
namespace L2
open PySem PySem.Spec PyProof.Rows PySem.SeqAt
def SqLL (K : PySem.W.Frag) (H : Hp) (a : Addr) (nss : List (List Int)) : Prop := ∃ as : List Addr, SqL K H a (as.map V.ref) ∧ Paired (fun b ns => SqL K H b (ns.map V.int)) as nss
theorem SqLL.same {K : PySem.W.Frag} {H H' : Hp} {a : Addr} {nss : List (List Int)} (e : Same H H') (h : SqLL K H a nss) : SqLL K H' a nss := by
  obtain ⟨as, h1, h2⟩ := h
  exact ⟨as, e.seq h1, Paired.imp' (fun b ns z => e.seq z) h2⟩
abbrev dI (ns : List Int) : PyData := .list (ns.map PyData.int)
abbrev dII (nss : List (List Int)) : PyData := .list (nss.map dI)
theorem canLay_dII : ∀ nss : List (List Int), PyData.canLayAll0 (nss.map dI) = true
  | [] => by simp [PyData.canLayAll0]
  | n :: r => by simp [PyData.canLayAll0, PyData.canLay0, PySem.W.canLayAll0_ints, canLay_dII r]
theorem depth_dI (ns : List Int) : PyData.depth (dI ns) ≤ 2 := by
  have := PySem.W.depthAll_ints ns
  simp only [PyData.depth]
  omega
theorem depthAll_dII : ∀ nss : List (List Int), PyData.depthAll (nss.map dI) ≤ 2
  | [] => by simp [PyData.depthAll]
  | n :: r => by
    have := depthAll_dII r
    have := depth_dI n
    simp only [List.map_cons, PyData.depthAll]
    omega
theorem shaped_dII (nss : List (List Int)) : shaped (dII nss) = true := by
  have h1 := depthAll_dII nss
  have h2 : PyData.depth (dII nss) ≤ 64 := by simp only [PyData.depth]; omega
  show (PyData.canLay0 (dII nss) && decide (PyData.depth (dII nss) ≤ 64)) = true
  rw [Bool.and_eq_true]
  exact ⟨by simp only [PyData.canLay0]; exact canLay_dII nss, decide_eq_true h2⟩
theorem noMix_dI (ns ms : List Int) : noMix (dI ns) (dI ms) = true := by
  simp only [noMix]; exact PySem.W.noMix_ints ns ms
theorem noMix_dII : ∀ nss mss : List (List Int), noMixAll (nss.map dI) (mss.map dI) = true
  | [], [] => by simp [noMixAll]
  | [], _ :: _ => by simp [noMixAll]
  | _ :: _, [] => by simp [noMixAll]
  | n :: r, m :: q => by
    simp only [List.map_cons, noMixAll, noMix_dII r q, Bool.and_true]
    exact noMix_dI n m
theorem same_dI (ns ms : List Int) : PySem.Spec.same (dI ns) (dI ms) = decide (ns = ms) := by
  simp only [PySem.Spec.same]; exact PySem.W.same_ints ns ms
theorem same_dII : ∀ nss mss : List (List Int), PySem.Spec.sameAll (nss.map dI) (mss.map dI) = decide (nss = mss)
  | [], [] => by simp [PySem.Spec.sameAll]
  | [], _ :: _ => by simp [PySem.Spec.sameAll]
  | _ :: _, [] => by simp [PySem.Spec.sameAll]
  | n :: r, k :: q => by
    simp only [List.map_cons, PySem.Spec.sameAll, same_dII r q]
    rw [same_dI]
    by_cases h : n = k <;> simp [h]
section
variable {X : Cx} {pins : List (Addr × Obj)} {σ : St} {H : Hp} {s : Shared}
theorem Inv.ints (I : Inv X pins σ H s) {a : Addr} {ns : List Int} (h : SqL X.K H a (ns.map V.int)) : ∃ vs : List Value, s.heap.IsList a vs.toArray ∧ IntsAre vs ns ∧ ns.length ≤ sizeLine := by
  obtain ⟨its, r, p, z⟩ := I.list h
  exact ⟨its, p.isList, intsAre_of r, by rwa [List.length_map] at z⟩
theorem Inv.reads (I : Inv X pins σ H s) {a : Addr} {ns : List Int} (h : SqL X.K H a (ns.map V.int)) : Reads s.heap (.ref a) (dI ns) [a] := by
  obtain ⟨vs, l, i, _⟩ := I.ints h
  exact PySem.W.reads_of_ints l i
theorem Inv.readsAll (I : Inv X pins σ H s) : ∀ {as : List Addr} {us : List Value} {nss : List (List Int)}, Vals (as.map V.ref) us → Paired (fun b ns => SqL X.K H b (ns.map V.int)) as nss → ∃ bs, ReadsAll s.heap us (nss.map dI) bs
  | [], _, _, r, p => by
    cases r; cases p
    exact ⟨_, .nil⟩
  | a :: as, _, _, r, p => by
    cases p with
    | cons p1 p2 =>
      cases r with
      | cons r1 r2 =>
        obtain ⟨bs, h⟩ := I.readsAll r2 p2
        cases r1
        exact ⟨_, .cons (I.reads p1) h⟩
theorem Inv.readsL (I : Inv X pins σ H s) {a : Addr} {nss : List (List Int)} (h : SqLL X.K H a nss) : ∃ bs, Reads s.heap (.ref a) (dII nss) bs := by
  obtain ⟨as, h1, h2⟩ := h
  obtain ⟨its, r, ⟨o, n, ho, hc, hd0, hd⟩, z⟩ := I.list h1
  obtain ⟨bs, hb⟩ := I.readsAll r h2
  exact ⟨_, .list ho hc hd (by simpa using hb)⟩
end
section
variable {X : Cx}
def rNeL (K : PySem.W.Frag) : R2 := fun x y H Q => ∃ (a b : Addr) (ns ms : List Int), x = .ref a ∧ y = .ref b ∧ SqL K H a (ns.map V.int) ∧ SqL K H b (ms.map V.int) ∧ Q (.bl (!decide (ns = ms))) H
theorem op_neL (hu : X.A.units + 64 < cLine) : OpR X (compareOp .NotEq) (rNeL X.K) := by
  intro pins s σ H x y v u Q I rx ry h
  obtain ⟨a, b, ns, ms, rfl, rfl, h1, h2, q⟩ := h
  cases rx; cases ry
  exact ne_dataH_same (I.reads h1) (I.reads h2) (PySem.W.shaped_ints ns) (PySem.W.shaped_ints ms) hu (noMix_dI ns ms) (by rw [same_dI]; exact ⟨.bl _, H, I, rfl, q⟩)
end
end L2
namespace L2
open PySem PySem.Spec PyProof.Rows
theorem Same.wr {H H' : Hp} {p : Addr} {o : HO} (s : Same H H') (h : H p = Option.none) : Same H (upd H' p o) := fun b u e => by
  rw [upd_ne (ne_of_none e h)]
  exact s b u e
theorem hu64 {A : Around} {k : Nat} (hr : Room k A) : A.units + 64 < cLine := hr.units
theorem hu65 {A : Around} {k : Nat} (hr : Room k A) : A.units + 65 < cLine := by have := hr.un; omega
theorem kit_list_list (K : PySem.W.Frag) : PySem.W.kitOne K (.type "list") (.type "list") = some true := by with_unfolding_all rfl
section
variable {X : Cx}
theorem ix_listK (K : PySem.W.Frag) (hK : X.K = K := by rfl) : IxR X (rIxL K) := by subst hK; exact ix_list
theorem ix_tupK (K : PySem.W.Frag) (hK : X.K = K := by rfl) : IxR X (rIxT K) := by subst hK; exact ix_tup
theorem call_len_seqK (K : PySem.W.Frag) (hK : X.K = K := by rfl) : CallR X (.builtin "len") (fun xs H Q => ∃ p ys, xs = [.ref p] ∧ (SqL K H p ys ∨ SqT K H p ys) ∧ Q (.int ys.length) H) := by subst hK; exact call_len_seq
theorem pg_tupK (K : PySem.W.Frag) {es : List Expr} {k : Nat} {t : TGs} {n : Nat} {pos : Pos} (hc : X.calm = true) (h : PGs X es t) (hK : X.K = K := by rfl)
    (hn : (assignEach es X.env).length = n := by rfl) (hst : (assignEach es X.env).findIdx? (·.1) = none := by rfl) : PG X (.Tuple es k pos) (gTup K n t) := by subst hK; exact pg_tup hc h hn hst
end
theorem comp_rangeP {lo : Int} {n : Nat} {acc : Addr} {own : Nat} {ix : List Nat} {g : TG} {te : TE} {σ : St} {H1 : Hp} {Q : VK} (f : Nat → V) (hn : H1 acc = none) (hz : n ≤ sizeLine)
    (step : ∀ i H (R : VK), i < n → Same H1 H → R (f i) H → g (.int (lo + i)) (blockSt own ix σ) H fun σ4 H4 => σ4.drop own = ix.map (fun i => (σ[i]?).getD none) ∧ te σ4 H4 R)
    (hd : Q (.ref acc) (upd H1 acc (.lst ((List.range n).map f)))) :
    CompGo (Itr lo n) own ix g tNoTest te σ H1 acc Q := by
  refine ⟨fun i m ys H => m = n - i ∧ i ≤ n ∧ ys = (List.range i).map f ∧ H = upd H1 acc (.lst ys), ⟨n, by simp, Nat.zero_le _, rfl, rfl⟩, ?_⟩
  rintro i m ys H ⟨rfl, hi, rfl, rfl⟩
  refine ⟨upd_same, ?_⟩
  by_cases hlt : i < n
  · refine .inr ⟨hlt, by rw [List.length_map, List.length_range]; omega, fun x H3 y => ?_⟩
    obtain ⟨e, y⟩ := y
    subst e y
    exact step i _ _ hlt (Same.new hn) ⟨upd_same, n - (i + 1), by omega, rfl, hlt, by rw [List.range_succ, List.map_append]; rfl, by rw [upd_upd]⟩
  · have e : i = n := by omega
    subst e
    exact .inl ⟨Nat.le_refl _, hd⟩
end L2
namespace L2
open PySem PySem.Spec PyProof.Rows
def Itz (K : PySem.W.Frag) (a b : Addr) : It :=
  ⟨fun i H => ∃ xs ys x y, SqL K H a xs ∧ SqL K H b ys ∧ xs[i]? = some x ∧ ys[i]? = some y,
   fun i H v H' => ∃ t, H t = none ∧ v = .ref t ∧ ∀ xs ys x y, SqL K H a xs → SqL K H b ys → xs[i]? = some x → ys[i]? = some y → H' = upd H t (.tup [x, y]),
   fun i H => ∃ xs ys, SqL K H a xs ∧ SqL K H b ys ∧ (xs.length ≤ i ∨ ys.length ≤ i)⟩
theorem Inv.turns {X : Cx} {pins : List (Addr × Obj)} {σ : St} {H : Hp} {s : Shared} {h' : Heap} {ch : List Addr} {t' : Nat} (I : Inv X pins σ H s) (hf : ∀ b ∈ ch, FpOk X pins H b) (k : ∀ b o, b ∉ ch → s.heap.get? b = some o → h'.get? b = some o) :
    Inv X pins σ H { s with heap := h', toks := t' } := by
  have nit : ∀ b u, H b = some u → b ∉ ch := fun b u e z => by rw [(hf b z).1] at e; cases e
  refine I.step (g' := s.gens) (d' := s.drawn) (ch := ch) (fun b hb => ⟨(hf b hb).2.2.2.1, (hf b hb).2.1, (hf b hb).2.2.2.2.1, (hf b hb).2.2.2.2.2⟩) (fun b o _ _ hc e _ => k b o hc e) (fun b o _ _ hc e _ => ⟨o.slots, k b o hc e⟩) (fun _ _ _ _ n => n)
    (fun b o hc e => ⟨o, k b o hc e⟩) (fun _ _ e => e) (fun _ _ _ e => e) (fun b ps e => ⟨#[], by rw [e]; simp⟩) (fun m hm => ?_) (fun b u e => ?_) I.bare
  · obtain ⟨o, es, ep, ho, r⟩ := hm
    exact ⟨o, es, ep, k _ o (fun z => (hf _ z).2.1 rfl) ho, r⟩
  · refine (I.hok b u e).stay (fun c v hc q => k c v ?_ q) (fun _ q => q) fun _ _ q => q
    rcases hc with z | z
    · rw [z]; exact nit b u e
    · exact nit c _ z
theorem Inv.turnsT {X : Cx} {pins : List (Addr × Obj)} {σ : St} {H : Hp} {s : Shared} {h' : Heap} {ch : List Addr} {t' : Nat} {T : Addr} {xs : List V} {its : List Value} (I : Inv X pins σ H s) (hf : ∀ b ∈ ch, FpOk X pins H b) (k : ∀ b o, b ∉ ch → s.heap.get? b = some o → h'.get? b = some o)
    (hT : s.heap.objs.size ≤ T) (r : Vals xs its) (ht : IsTup h' T its.toArray) (hz : xs.length ≤ sizeLine) : Inv X pins σ (upd H T (.tup xs)) { s with heap := h', toks := t' } := by
  have hn : H T = none := I.hok.fresh hT
  have nit : ∀ b u, H b = some u → b ∉ ch := fun b u e z => by rw [(hf b z).1] at e; cases e
  have lt : ∀ b o, s.heap.get? b = some o → b ≠ T := fun b o e => Nat.ne_of_lt (Nat.lt_of_lt_of_le (Heap.lt_size e) hT)
  refine I.step (g' := s.gens) (d' := s.drawn) (ch := ch) (fun b hb => ⟨(hf b hb).2.2.2.1, (hf b hb).2.1, (hf b hb).2.2.2.2.1, (hf b hb).2.2.2.2.2⟩) (fun b o _ _ hc e _ => k b o hc e) (fun b o _ _ hc e _ => ⟨o.slots, k b o hc e⟩) (fun b o _ e n => by rw [upd_ne (lt b o e)]; exact n)
    (fun b o hc e => ⟨o, k b o hc e⟩) (fun b ys e => by rw [upd_ne (ne_of_none e hn)]; exact e) (fun b o u e => by rw [upd_ne (ne_of_none e hn)]; exact e) (fun b ps e => ⟨#[], by rw [upd_ne (ne_of_none e hn), e]; simp⟩) (fun m hm => ?_) (fun b u e => ?_) I.bare
  · obtain ⟨o, es, ep, ho, r⟩ := hm
    exact ⟨o, es, ep, k _ o (fun z => (hf _ z).2.1 rfl) ho, r⟩
  · by_cases hb : b = T
    · subst hb
      rw [upd_same] at e
      cases e
      exact ⟨hz, its, r, ht⟩
    · rw [upd_ne hb] at e
      refine (I.hok b u e).stay (fun c v hc q => k c v ?_ q) (fun c q => ?_) fun c w q => ?_
      · rcases hc with z | z
        · rw [z]; exact nit b u e
        · exact nit c _ z
      · rw [upd_ne (ne_of_none q hn)]; exact q
      · rw [upd_ne (ne_of_none q hn)]; exact q
theorem turn_zip {P : Program} {w : World} {K : PySem.W.Frag} {elts : List Expr} {x1 : Nat} {tp : Pos} (l1 l2 z TI TO i1 i2 : Addr) (D : ZipApart z TI TO i1 i2 l1 l2) :
    Turn P w K (.Tuple elts x1 tp) (Itz K l1 l2) [z, TI, TO, i1, i2] z (fun i h => IsZip h z TI TO .none ∧ IsPair h TI (.ref i1) (.ref i2) ∧ (∃ a b, IsPair h TO a b) ∧ h.IsListIter i1 l1 i ∧ h.IsListIter i2 l2 i) where
  mem := by simp
  obj := fun i h ⟨h1, h2, ⟨a, b, h3⟩, h4, h5⟩ c hc => by
    simp only [List.mem_cons, List.not_mem_nil, or_false] at hc
    rcases hc with e | e | e | e | e
    · subst e; exact ⟨_, h1, fun v q => by have q' : Data.fields _ = Data.cell v := q; cases q'⟩
    · subst e; exact ⟨_, h2, fun v q => by have q' : Data.seq _ _ = Data.cell v := q; cases q'⟩
    · subst e; exact ⟨_, h3, fun v q => by have q' : Data.seq _ _ = Data.cell v := q; cases q'⟩
    · subst e
      obtain ⟨o, ho, _, hd⟩ := h4
      exact ⟨o, ho, fun v q => by rw [hd] at q; cases q⟩
    · subst e
      obtain ⟨o, ho, _, hd⟩ := h5
      exact ⟨o, ho, fun v q => by rw [hd] at q; cases q⟩
  keep := fun i h h' ⟨h1, h2, ⟨a, b, h3⟩, ⟨o4, e4, r4⟩, ⟨o5, e5, r5⟩⟩ k =>
    ⟨k z (by simp) _ h1, k TI (by simp) _ h2, ⟨a, b, k TO (by simp) _ h3⟩, ⟨o4, k i1 (by simp) _ e4, r4⟩, ⟨o5, k i2 (by simp) _ e5, r5⟩⟩
  item := by
    intro X hP hw hK hc i pins s σ H E I hf ⟨h1, h2, ⟨a, b, h3⟩, h4, h5⟩ ⟨xs, ys, x, y, q1, q2, hx, hy⟩
    subst hP hw hK
    obtain ⟨it1, v1, p1, z1⟩ := I.list q1
    obtain ⟨it2, v2, p2, z2⟩ := I.list q2
    obtain ⟨u1, e1, r1⟩ := v1.get hx
    obtain ⟨u2, e2, r2⟩ := v2.get hy
    refine wpAny_pyNext_zip_item D h1 h2 h3 h4 h5 p1.isList p2.isList (by simpa using e1) (by simpa using e2) fun h' g1 g3 g4 g5 gT gs k => ?_
    refine ⟨_, rfl, wpAny_letOwnedTupleGo_zip g1 fun h'' g1' sb => ?_⟩
    have hzT : s.heap.objs.size ≠ z := Nat.ne_of_gt (Heap.lt_size h1)
    have gT' : IsTup h'' s.heap.objs.size [u1, u2].toArray := ⟨_, sb.extBut _ _ hzT gT, rfl, _, rfl⟩
    have hlz : ∀ {c : Addr} {o : Obj}, c ≠ z → h'.get? c = some o → h''.get? c = some o := fun hcz e => sb.extBut _ _ hcz e
    refine ⟨.ref s.heap.objs.size, upd H s.heap.objs.size (.tup [x, y]), I.turnsT (ch := [z, TO, i1, i2]) (t' := s.toks) (fun c hcm => hf c (by simp only [List.mem_cons, List.not_mem_nil, or_false] at hcm ⊢; rcases hcm with e | e | e | e <;> simp [e])) (fun c o hcn e => ?_) (Nat.le_refl _) (.cons r1 (.cons r2 .nil)) gT' (by show 2 ≤ sizeLine; decide), rfl,
      ⟨_, I.hok.fresh (Nat.le_refl _), rfl, fun xs' ys' x' y' w1 w2 w3 w4 => ?_⟩, ⟨g1', hlz D.TIz (k TI _ D.TIz D.TITO D.TIi1 D.TIi2 h2), ⟨_, _, hlz D.TOz g3⟩, ?_, ?_⟩, fun c hcm => ?_⟩
    · simp only [List.mem_cons, List.not_mem_nil, or_false, not_or] at hcn
      exact hlz hcn.1 (k c o hcn.1 hcn.2.1 hcn.2.2.1 hcn.2.2.2 e)
    · have a1 := I.list_inj w1 q1
      have a2 := I.list_inj w2 q2
      subst a1 a2
      rw [hx] at w3
      rw [hy] at w4
      cases w3; cases w4
      rfl
    · obtain ⟨o, e, r⟩ := g4
      exact ⟨o, hlz D.i1z e, r⟩
    · obtain ⟨o, e, r⟩ := g5
      exact ⟨o, hlz D.i2z e, r⟩
    · obtain ⟨o, e, _⟩ : ∃ o, s.heap.get? c = some o ∧ True := by
        simp only [List.mem_cons, List.not_mem_nil, or_false] at hcm
        rcases hcm with e | e | e | e | e
        · subst e; exact ⟨_, h1, trivial⟩
        · subst e; exact ⟨_, h2, trivial⟩
        · subst e; exact ⟨_, h3, trivial⟩
        · subst e; obtain ⟨o, ho, _⟩ := h4; exact ⟨o, ho, trivial⟩
        · subst e; obtain ⟨o, ho, _⟩ := h5; exact ⟨o, ho, trivial⟩
      rw [upd_ne (Nat.ne_of_lt (Heap.lt_size e))]
      exact (hf c hcm).1
  done := by
    intro X hP hw hK hc i pins s σ H E I hf ⟨h1, h2, ⟨a, b, h3⟩, h4, h5⟩ ⟨xs, ys, q1, q2, hend⟩
    subst hP hw hK
    obtain ⟨it1, v1, p1, z1⟩ := I.list q1
    obtain ⟨it2, v2, p2, z2⟩ := I.list q2
    have l1 := v1.length
    have l2 := v2.length
    refine wpAny_pyNext_zip_end (I.ok.hd hc) D h1 h2 h3 h4 h5 p1.isList p2.isList ?_ fun h' k => ⟨rfl, I.turns (ch := [z, TO, i1, i2]) (t' := s.toks) (fun c hcm => hf c (by simp only [List.mem_cons, List.not_mem_nil, or_false] at hcm ⊢; rcases hcm with e | e | e | e <;> simp [e])) fun c o hcn e => ?_⟩
    · rcases hend with q | q
      · exact .inl (by simp; omega)
      · exact .inr (by simp; omega)
    · simp only [List.mem_cons, List.not_mem_nil, or_false, not_or] at hcn
      exact k c o hcn.1 hcn.2.1 hcn.2.2.1 hcn.2.2.2 e
  self := fun _ _ _ _ _ st h => wpAny_pyIter_zip st.1 h
section
variable {X : Cx}
def iZip (K : PySem.W.Frag) (ta : TA) : TI := fun σ H R => ta σ H fun vs H1 => ∃ a b xs ys, vs = [.ref a, .ref b] ∧ SqL K H1 a xs ∧ SqL K H1 b ys ∧ R (Itz K a b) H1
theorem pi_zip {a b : Expr} {ta : TA} {p pos : Pos} {elts : List Expr} {x1 : Nat} {tp : Pos} (hg : Gl X "zip") (hm : X.mg "zip" = none) (ha : PA X [a, b] ta) (hs : starEach [a, b] X.env = (false, eval a X.env) :: starEach [b] X.env := by rfl) (hs2 : (backTo pos (starEach [b] X.env)).any (·.1) = false := by rfl) :
    PI X (.Tuple elts x1 tp) (.Call (.Name "zip" p) [a, b] [] pos) (iZip X.K ta) := by
  intro pins s σ H R I h
  refine Call_ (ld_blt I hg hm b_zip (PyProof.Rows.callWith_type1 (thn (ha pos pins s σ H _ I h) fun us s1 ⟨vs, H1, I1, r1, q1⟩ => ?_) hs hs2))
  obtain ⟨l1, l2, xs, ys, e, q1, q2, q⟩ := q1
  subst e
  obtain ⟨u1, u2, rfl, w1, w2⟩ := vals2 r1
  cases w1; cases w2
  obtain ⟨it1, v1, p1, z1⟩ := I1.list q1
  obtain ⟨it2, v2, p2, z2⟩ := I1.list q2
  have hl1 : l1 < s1.heap.objs.size := by obtain ⟨_, _, e, _⟩ := p1; exact Heap.lt_size e
  have hl2 : l2 < s1.heap.objs.size := by obtain ⟨_, _, e, _⟩ := p2; exact Heap.lt_size e
  have hl1' : @LT.lt Nat _ l1 s1.heap.objs.size := hl1
  have hl2' : @LT.lt Nat _ l2 s1.heap.objs.size := hl2
  refine call_zip_2 p1.isList p2.isList fun h' g1 g2 g3 g4 g5 gs k => ?_
  refine wpAny_pyIter_zip g1 ?_
  refine ⟨s1.heap.objs.size + 4, [s1.heap.objs.size + 4, s1.heap.objs.size + 2, s1.heap.objs.size + 3, s1.heap.objs.size, s1.heap.objs.size + 1], _, _, H1, rfl, I1.kept (t' := s1.toks) k,
    turn_zip l1 l2 _ _ _ _ _ ⟨?_, ?_, ?_, ?_, ?_, ?_, ?_, ?_, ?_, ?_, ?_, ?_, ?_, ?_, ?_, ?_, ?_, ?_⟩, ⟨g1, g2, ⟨_, _, g3⟩, g4, g5⟩, fun c hcm => ?_, q⟩
  all_goals first
    | (have hc : s1.heap.objs.size ≤ c := by
         simp only [List.mem_cons, List.not_mem_nil, or_false] at hcm
         rcases hcm with e | e | e | e | e <;> (rw [e]; first | exact Nat.le_refl _ | exact Nat.le_add_right _ _)
       exact I1.fpOk hc (I1.hok.fresh hc))
    | (intro z; have z' : @Eq Nat _ _ := z; omega)
end
theorem comp_zipP {K : PySem.W.Frag} {a b acc : Addr} {xs ys : List V} {own : Nat} {ix : List Nat} {g : TG} {te : TE} {σ : St} {H1 : Hp} {Q : VK} (f : Nat → V) (hq1 : SqL K H1 a xs) (hq2 : SqL K H1 b ys) (hn : H1 acc = none) (hz : xs.length ≤ sizeLine)
    (step : ∀ i x y t H (R : VK), xs[i]? = some x → ys[i]? = some y → Same H1 H → H t = some (.tup [x, y]) → R (f i) H → g (.ref t) (blockSt own ix σ) H fun σ4 H4 => σ4.drop own = ix.map (fun i => (σ[i]?).getD none) ∧ te σ4 H4 R)
    (hd : ∀ H', Same H1 H' → H' acc = some (.lst ((List.range (min xs.length ys.length)).map f)) → Q (.ref acc) H') : CompGo (Itz K a b) own ix g tNoTest te σ H1 acc Q := by
  refine ⟨fun i m zs H => m = min xs.length ys.length - i ∧ i ≤ min xs.length ys.length ∧ zs = (List.range i).map f ∧ Same H1 H ∧ H acc = some (.lst zs), ⟨_, rfl, Nat.zero_le _, rfl, Same.new hn, upd_same⟩, ?_⟩
  rintro i m zs H ⟨rfl, hi, rfl, sm, ha⟩
  refine ⟨ha, ?_⟩
  by_cases hlt : i < min xs.length ys.length
  · have h1 : i < xs.length := by omega
    have h2 : i < ys.length := by omega
    refine .inr ⟨⟨xs, ys, xs[i], ys[i], sm.seq hq1, sm.seq hq2, List.getElem?_eq_getElem h1, List.getElem?_eq_getElem h2⟩, by rw [List.length_map, List.length_range]; omega, fun v H3 ⟨t, ht, hv, hy⟩ => ?_⟩
    have e := hy xs ys xs[i] ys[i] (sm.seq hq1) (sm.seq hq2) (List.getElem?_eq_getElem h1) (List.getElem?_eq_getElem h2)
    subst hv e
    have ha3 : (upd H t (.tup [xs[i], ys[i]])) acc = some (.lst ((List.range i).map f)) := by rw [upd_ne (ne_of_none ha ht)]; exact ha
    exact step i xs[i] ys[i] t _ _ (List.getElem?_eq_getElem h1) (List.getElem?_eq_getElem h2) (sm.put ht) upd_same ⟨ha3, _, by omega, rfl, hlt, by rw [List.range_succ, List.map_append]; rfl, (sm.put ht).wr hn, upd_same⟩
  · have e : i = min xs.length ys.length := by omega
    subst e
    exact .inl ⟨⟨xs, ys, sm.seq hq1, sm.seq hq2, by omega⟩, hd H sm ha⟩
theorem for_zip {K : PySem.W.Frag} {a b : Addr} {xs ys : List V} {g : TG} {tb : TS} {D : Ends} {σ : St} {H : Hp} (Pv : Nat → St → Hp → Prop) (h0 : Pv 0 σ H) (hl : ∀ i σ H, Pv i σ H → SqL K H a xs ∧ SqL K H b ys)
    (hs : ∀ i x y t σ H, xs[i]? = some x → ys[i]? = some y → Pv i σ H → H t = none → g (.ref t) σ (upd H t (.tup [x, y])) fun σ2 H2 => tb { D with nx := Pv (i + 1), ct := Pv (i + 1), bk := D.nx } σ2 H2) (hd : ∀ σ H, Pv (min xs.length ys.length) σ H → D.nx σ H) :
    ∃ W : Nat → Nat → St → Hp → Prop, (∃ m, W 0 m σ H) ∧ ∀ i m σ H, W i m σ H →
      ((Itz K a b).stop i H ∧ D.nx σ H) ∨ ((Itz K a b).go i H ∧ ∃ N : St → Hp → Prop, (∀ σ' H', N σ' H' → ∃ m', m' < m ∧ W (i + 1) m' σ' H') ∧ ∀ x H', (Itz K a b).yld i H x H' → g x σ H' fun σ2 H2 => tb { D with nx := N, ct := N, bk := D.nx } σ2 H2) := by
  refine ⟨fun i m σ H => m = min xs.length ys.length - i ∧ i ≤ min xs.length ys.length ∧ Pv i σ H, ⟨_, rfl, Nat.zero_le _, h0⟩, ?_⟩
  rintro i m σ H ⟨rfl, hi, p⟩
  obtain ⟨q1, q2⟩ := hl i σ H p
  by_cases hlt : i < min xs.length ys.length
  · have h1 : i < xs.length := by omega
    have h2 : i < ys.length := by omega
    refine .inr ⟨⟨xs, ys, xs[i], ys[i], q1, q2, List.getElem?_eq_getElem h1, List.getElem?_eq_getElem h2⟩, Pv (i + 1), fun σ' H' p' => ⟨_, by omega, rfl, hlt, p'⟩, fun v H3 ⟨t, ht, hv, hy⟩ => ?_⟩
    have e := hy xs ys xs[i] ys[i] q1 q2 (List.getElem?_eq_getElem h1) (List.getElem?_eq_getElem h2)
    subst hv e
    exact hs i _ _ t σ H (List.getElem?_eq_getElem h1) (List.getElem?_eq_getElem h2) p ht
  · have e : i = min xs.length ys.length := by omega
    subst e
    exact .inl ⟨⟨xs, ys, q1, q2, by omega⟩, hd σ H p⟩
end L2
namespace Bw
def C : Nat → Nat → Nat
  | _, 0 => 1
  | 0, _ + 1 => 0
  | n + 1, k + 1 => C n k + C n (k + 1)
def ch (n k : Int) : Int := (C n.toNat k.toNat : Nat)
end Bw
namespace Bw
structure IsTop (k number t : Int) : Prop where
  lo : k - 1 ≤ t
  le : ch t k ≤ number
  lt : number < ch (t + 1) k
end Bw
namespace Bw
open PySem L2
open Builtin.Int (intBits)
def stirA (c k : Int) : Int := c % 10 ^ (40 : Int).toNat * 48271 + 3 ^ (60 : Int).toNat * (k + 1) * (k + 1) + k
def stirB (a : Int) : Int := a * a + 69621 * a
def stirC (b : Int) : Int := b * b % (10 ^ (61 : Int).toNat + 7) / 8
def stir (c k : Int) : Int := stirC (stirB (stirA c k))
def spStir : Sp := fun vs H Q _ => ∃ c k : Int, vs = [.int c, .int k] ∧ 0 ≤ k ∧ k < 1000000 ∧ Q (.int (stir c k)) H
theorem bits_of {x : Int} {m : Nat} (h1 : 0 ≤ x) (h2 : x < (2 : Int) ^ m) : intBits x ≤ m := by
  refine intBits_le_iff.mpr ?_
  have e : ((2 ^ m : Nat) : Int) = (2 : Int) ^ m := by
    rw [Int.natCast_pow]; rfl
  rw [← e] at h2
  omega
theorem bits_mono {x : Int} {m n : Nat} (h : intBits x ≤ m) (hm : m ≤ n) : intBits x ≤ n := Nat.le_trans h hm
theorem bits_stirA {c k : Int} (h0 : 0 ≤ k) (h1 : k < 1000000) : 0 ≤ stirA c k ∧ intBits (stirA c k) ≤ 200 := by
  have m0 := Int.emod_nonneg c (show (10 : Int) ^ (40 : Int).toNat ≠ 0 by decide)
  have m1 := Int.emod_lt_of_pos c (show (0 : Int) < 10 ^ (40 : Int).toNat by decide)
  unfold stirA
  generalize c % 10 ^ (40 : Int).toNat = r at m0 m1 ⊢
  have e : (3 : Int) ^ (60 : Int).toNat = 42391158275216203514294433201 := by decide
  have e40 : (10 : Int) ^ (40 : Int).toNat = 10000000000000000000000000000000000000000 := by decide
  rw [e40] at m1
  rw [e]
  have p0 : 0 ≤ (k + 1) * (k + 1) := Int.mul_nonneg (by omega) (by omega)
  have p1 : (k + 1) * (k + 1) ≤ 1000000 * 1000000 := Int.mul_le_mul (by omega) (by omega) (by omega) (by omega)
  have p2 : 42391158275216203514294433201 * (k + 1) * (k + 1) = 42391158275216203514294433201 * ((k + 1) * (k + 1)) := Int.mul_assoc _ _ _
  rw [p2]
  generalize (k + 1) * (k + 1) = s at p0 p1 ⊢
  refine ⟨by omega, bits_of (by omega) ?_⟩
  have e200 : (2 : Int) ^ 200 = 1606938044258990275541962092341162602522202993782792835301376 := by decide
  rw [e200]
  omega
theorem bits_stirB {a : Int} (h : intBits a ≤ 200) : intBits (stirB a) ≤ 402 := by
  unfold stirB
  refine bits_mono (intBits_add_le (m := 400) (n := 400) (intBits_mul_le h h) (bits_mono (intBits_mul_le (m := 17) (n := 200) (by decide) h) (by decide))) (by decide)
end Bw
namespace L2
open PySem PySem.Spec PyProof.Rows
section
variable {X : Cx}
end
end L2
namespace L2
open PySem PySem.Spec PyProof.Rows
theorem comp_listI {K : PySem.W.Frag} {a acc : Addr} {xs : List V} {own : Nat} {ix : List Nat} {g : TG} {te : TE} {σ : St} {H1 : Hp} {Q : VK} (Pv : Nat → List V → Hp → Prop) (hz : xs.length ≤ sizeLine) (h0 : Pv 0 [] (upd H1 acc (.lst [])))
    (ha : ∀ i ys H, Pv i ys H → H acc = some (.lst ys) ∧ ys.length ≤ i ∧ SqL K H a xs)
    (step : ∀ (i : Nat) (x : V) (ys : List V) (H : Hp) (R : VK), xs[i]? = some x → Pv i ys H → (∀ y H6, H6 acc = some (.lst ys) → Pv (i + 1) (ys ++ [y]) (upd H6 acc (.lst (ys ++ [y]))) → R y H6) → g x (blockSt own ix σ) H fun σ4 H4 => σ4.drop own = ix.map (fun i => (σ[i]?).getD none) ∧ te σ4 H4 R)
    (hd : ∀ ys H, Pv xs.length ys H → Q (.ref acc) H) : CompGo (Itl K a) own ix g tNoTest te σ H1 acc Q := by
  refine ⟨fun i m ys H => m = xs.length - i ∧ i ≤ xs.length ∧ Pv i ys H, ⟨xs.length, by simp, Nat.zero_le _, h0⟩, ?_⟩
  rintro i m ys H ⟨rfl, hi, p⟩
  obtain ⟨a1, a2, a3⟩ := ha i ys H p
  refine ⟨a1, ?_⟩
  by_cases hlt : i < xs.length
  · refine .inr ⟨⟨xs, xs[i], a3, by simp [hlt]⟩, by omega, fun x H3 y => ?_⟩
    obtain ⟨e, y⟩ := y
    subst e
    exact step i x ys _ _ (y xs a3) p fun y H6 e q => ⟨e, xs.length - (i + 1), by omega, rfl, hlt, q⟩
  · have e : i = xs.length := by omega
    subst e
    exact .inl ⟨⟨xs, a3, Nat.le_refl _⟩, hd ys H p⟩
def LL (H : Hp) (p : Addr) (nss : List (List Int)) : Prop := ∃ as : List Addr, H p = some (.lst (as.map V.ref)) ∧ Paired (fun b (ns : List Int) => H b = some (.lst (ns.map V.int))) as nss
def LLm (H : Hp) (p : Addr) (nss : List (List Int)) : Prop := ∃ as : List Addr, H p = some (.lst (as.map V.ref)) ∧ Paired (fun b (ns : List Int) => b ≠ p ∧ H b = some (.lst (ns.map V.int))) as nss
theorem paired_imp {α β : Type} {F G : α → β → Prop} (h : ∀ a b, F a b → G a b) : ∀ {as : List α} {bs : List β}, Paired F as bs → Paired G as bs
  | _, _, .nil => .nil
  | _, _, .cons x y => .cons (h _ _ x) (paired_imp h y)
theorem paired_len {α β : Type} {F : α → β → Prop} : ∀ {as : List α} {bs : List β}, Paired F as bs → as.length = bs.length
  | _, _, .nil => rfl
  | _, _, .cons _ y => by simp [paired_len y]
theorem paired_get {α β : Type} {F : α → β → Prop} : ∀ {as : List α} {bs : List β} {i : Nat} {a : α}, Paired F as bs → as[i]? = some a → ∃ b, bs[i]? = some b ∧ F a b
  | _, _, _, _, .nil, h => by simp at h
  | _, _, 0, _, .cons x _, h => by
    simp only [List.getElem?_cons_zero, Option.some.injEq] at h
    subst h
    exact ⟨_, rfl, x⟩
  | _, _, i + 1, _, .cons _ y, h => by
    rw [List.getElem?_cons_succ] at h
    obtain ⟨b, e, f⟩ := paired_get y h
    exact ⟨b, by rw [List.getElem?_cons_succ]; exact e, f⟩
theorem LL.same {H H' : Hp} {p : Addr} {nss : List (List Int)} (s : Same H H') (h : LL H p nss) : LL H' p nss := by
  obtain ⟨as, e, q⟩ := h
  exact ⟨as, s _ _ e, paired_imp (fun _ _ z => s _ _ z) q⟩
theorem LL.sq {K : PySem.W.Frag} {H : Hp} {p : Addr} {nss : List (List Int)} (h : LL H p nss) : SqLL K H p nss := by
  obtain ⟨as, e, q⟩ := h
  exact ⟨as, SqL.of e, paired_imp (fun _ _ z => SqL.of z) q⟩
theorem LLm.ll {H : Hp} {p : Addr} {nss : List (List Int)} (h : LLm H p nss) : LL H p nss := by
  obtain ⟨as, e, q⟩ := h
  exact ⟨as, e, paired_imp (fun _ _ z => z.2) q⟩
theorem LLm.push {H H' : Hp} {pm t : Addr} {bs : List Addr} {nss : List (List Int)} {ns : List Int} (h2 : Paired (fun b (ns : List Int) => b ≠ pm ∧ H b = some (.lst (ns.map V.int))) bs nss) (sm : Same H H') (ht : H' t = some (.lst (ns.map V.int))) (hne : t ≠ pm) :
    LLm (upd H' pm (.lst (bs.map V.ref ++ [V.ref t]))) pm (nss ++ [ns]) := by
  refine ⟨bs ++ [t], by rw [upd_same, List.map_append]; rfl, Paired.snoc (paired_imp (fun b n z => ⟨z.1, by rw [upd_ne z.1]; exact sm _ _ z.2⟩) h2) ⟨hne, ?_⟩⟩
  · rw [upd_ne hne]; exact ht
end L2
namespace L2
open PySem PySem.Spec PyProof.Rows
section
variable {prog : Program} {w : World} {A : Around} {E : Value → Shared → Prop} {s : Shared}
end
section
variable {X : Cx}
end
end L2
namespace L2
open PySem PySem.Spec PyProof.Rows
open PySem.W (hideAll of_hideAll hideAll_get)
theorem ObjOk.there {P : Program} {w : World} {H : Hp} {h : Heap} {a : Addr} {o : HO} (x : ObjOk P w H h a o) : ∃ ob, h.get? a = some ob := by
  cases o with
  | lst xs => obtain ⟨_, _, _, _, e⟩ := x; exact ⟨_, e⟩
  | tup xs => obtain ⟨_, _, _, ob, e, _⟩ := x; exact ⟨_, e⟩
  | dK kvs => obtain ⟨_, _, _, _, o, _, _, e, _⟩ := x; exact ⟨_, e⟩
  | dT kvs => obtain ⟨_, _, _, _, o, _, _, e, _⟩ := x; exact ⟨_, e⟩
  | set S n => obtain ⟨o, _, _, _, e, _⟩ := x; exact ⟨_, e⟩
  | ins C dx fs => obtain ⟨_, _, _, e, _⟩ := x; exact ⟨_, e⟩
  | own y => obtain ⟨_, e⟩ := x; exact ⟨_, e⟩
  | xd fs => obtain ⟨_, ⟨_, _, _, e, _⟩, _⟩ := x; exact ⟨_, e⟩
  | rng lo hi => obtain ⟨_, _, _, e⟩ := x; exact ⟨_, e⟩
  | frz ob u => obtain ⟨e, _⟩ := x; exact ⟨_, e⟩
  | tbl ps => exact ⟨_, (show h.get? a = some _ from x)⟩
  | met f y => exact ⟨_, (show h.get? a = some _ from x)⟩
  | ext φ => obtain ⟨_, ⟨_, e⟩, _⟩ := x; exact ⟨_, e⟩
section
variable {P : Program} {w : World} {K : PySem.W.Frag} {mg : Str → Option Value} {base : Heap} {N : List Str} {qual : Str} {scope : Scope} {f : Addr} {cdv : Value} {A : Around} {outer : List Env} {s s2 : Shared} {H H1 : Hp} {E : XK} {pins : List (Addr × Obj)} {σ : St}
end
section
variable {P : Program} {w : World} {K : PySem.W.Frag} {mg : Str → Option Value} {base : Heap}
end
section
variable {P : Program} {w : World} {K : PySem.W.Frag} {mg : Str → Option Value} {base : Heap}
end
section
variable {M : Model} {A : Around} {E : Value → Shared → Prop} {h : Heap} {g : Array GenState} {d : Drawn} {t : Nat} {os : OsState}
end
section
variable {X : Cx} {pins : List (Addr × Obj)} {σ : St} {H : Hp} {s : Shared}
abbrev Cx.inX (X : Cx) (x : Addr) : Cx := { X with A := X.A.mark (some (.ref x)), calm := false, xe := fun _ _ => False }
theorem Inv.inX (I : Inv X pins σ H s) (x : Addr) : Inv (X.inX x) pins σ H s :=
  ⟨⟨I.ok.mod, I.ok.kind, I.ok.glob, I.ok.blt, I.ok.above, I.ok.inj, I.ok.has, I.ok.cab, fun z => Bool.noConfusion z, I.ok.frames, I.ok.stk, I.ok.exf, I.ok.bs, I.ok.bsz, I.ok.noex, I.ok.exfs, I.ok.funs, I.ok.frf⟩, I.os, I.bare, I.base, I.loc, I.cell, I.free, I.freeC, I.pin, I.hok, I.len⟩
def excIs (x : Addr) (C : Value) : HO := .ext fun h => ∃ o, h.get? x = some o ∧ o.cls = C
end
section
variable {X : Cx} {pins : List (Addr × Obj)} {σ : St} {H : Hp} {s : Shared}
end
end L2
namespace L2
open PySem PySem.Spec PyProof.Rows
def Ite (K : PySem.W.Frag) (l : Addr) (N : Nat) : It :=
  ⟨fun i H => ∃ xs x, SqL K H l xs ∧ xs.length = N ∧ xs[i]? = some x,
   fun i H v H' => ∃ t, H t = none ∧ v = .ref t ∧ ∀ xs x, SqL K H l xs → xs[i]? = some x → H' = upd H t (.tup [.int i, x]),
   fun i H => i = N ∧ ∃ xs, SqL K H l xs ∧ xs.length = N⟩
theorem turn_enumL {P : Program} {w : World} {K : PySem.W.Frag} {elts : List Expr} {x1 : Nat} {tp : Pos} (l e it : Addr) (N : Nat) (hei : e ≠ it) (hle : l ≠ e) (hli : l ≠ it) :
    Turn P w K (.Tuple elts x1 tp) (Ite K l N) [e, it] e (fun i h => (∃ old, IsEnum h e it i old) ∧ h.IsListIter it l i) where
  mem := by simp
  obj := fun i h ⟨⟨old, h1⟩, h2⟩ c hc => by
    simp only [List.mem_cons, List.not_mem_nil, or_false] at hc
    rcases hc with z | z
    · subst z; exact ⟨_, h1, fun v q => by have q' : Data.fields _ = Data.cell v := q; cases q'⟩
    · subst z
      obtain ⟨o, ho, _, hd⟩ := h2
      exact ⟨o, ho, fun v q => by rw [hd] at q; cases q⟩
  keep := fun i h h' ⟨⟨old, h1⟩, h2⟩ k => ⟨⟨old, k e (by simp) _ h1⟩, h2.at fun o z => k it (by simp) o z⟩
  item := by
    intro X hP hw hK hc i pins s σ H E I hf ⟨⟨old, h1⟩, h2⟩ ⟨xs, x, q1, hN, hx⟩
    subst hP hw hK
    obtain ⟨it1, v1, p1, z1⟩ := I.list q1
    have hl1 := v1.length
    have hsz : it1.toArray.size = N := by rw [List.size_toArray]; omega
    have hi : i < N := by have := (List.getElem?_eq_some_iff.mp hx).1; omega
    obtain ⟨u1, e1, r1⟩ := v1.get hx
    have D := Draws.list (prog := X.prog) (w := X.w) (A := X.A.in1) (I.ok.hd hc) it l hli it1.toArray
    rw [hsz] at D
    refine wpAny_pyNext_enum_itemD D h1 ⟨h2, p1.isList⟩ hi hei (by simp only [List.mem_cons, List.not_mem_nil, or_false, not_or]; exact ⟨hei, Ne.symm hle⟩) fun u h' tk hu g1 gst gT gs k => ?_
    refine ⟨_, rfl, wpAny_letOwnedTupleGo_enum g1 fun h'' g1' sb => ?_⟩
    have hzT : s.heap.objs.size ≠ e := Nat.ne_of_gt (Heap.lt_size h1)
    have eu : u = u1 := by
      have hu' : it1[i]? = some u := by simpa using hu
      rw [e1] at hu'
      exact (Option.some.inj hu').symm
    subst eu
    have gT' : IsTup h'' s.heap.objs.size [Value.int i tk, u].toArray := ⟨_, sb.extBut _ _ hzT gT, rfl, _, rfl⟩
    have hlz : ∀ {c : Addr} {o : Obj}, c ≠ e → h'.get? c = some o → h''.get? c = some o := fun hcz z => sb.extBut _ _ hcz z
    refine ⟨.ref s.heap.objs.size, upd H s.heap.objs.size (.tup [.int i, x]), I.turnsT (ch := [e, it]) (t' := tk + 1) (fun c hcm => hf c hcm) (fun c o hcn z => ?_) (Nat.le_refl _) (.cons ⟨tk, rfl⟩ (.cons r1 .nil)) gT' (by show 2 ≤ sizeLine; decide), rfl,
      ⟨_, I.hok.fresh (Nat.le_refl _), rfl, fun xs' x' w1 w2 => ?_⟩, ⟨⟨_, g1'⟩, gst.1.at fun o z => hlz (Ne.symm hei) z⟩, fun c hcm => ?_⟩
    · simp only [List.mem_cons, List.not_mem_nil, or_false, not_or] at hcn
      exact hlz hcn.1 (k c o hcn.1 hcn.2 z)
    · have a1 := I.list_inj w1 q1
      subst a1
      rw [hx] at w2
      cases w2
      rfl
    · obtain ⟨o, z, _⟩ : ∃ o, s.heap.get? c = some o ∧ True := by
        simp only [List.mem_cons, List.not_mem_nil, or_false] at hcm
        rcases hcm with z | z
        · subst z; exact ⟨_, h1, trivial⟩
        · subst z; obtain ⟨o, ho, _⟩ := h2; exact ⟨o, ho, trivial⟩
      rw [upd_ne (Nat.ne_of_lt (Heap.lt_size z))]
      exact (hf c hcm).1
  done := by
    intro X hP hw hK hc i pins s σ H E I hf ⟨⟨old, h1⟩, h2⟩ ⟨hi, xs, q1, hN⟩
    subst hP hw hK hi
    obtain ⟨it1, v1, p1, z1⟩ := I.list q1
    have hl1 := v1.length
    have hsz : it1.toArray.size = i := by rw [List.size_toArray]; omega
    have D := Draws.list (prog := X.prog) (w := X.w) (A := X.A.in1) (I.ok.hd hc) it l hli it1.toArray
    rw [hsz] at D
    refine wpAny_pyNext_enum_endD D h1 ⟨h2, p1.isList⟩ fun h' k => ⟨rfl, I.turns (ch := [e, it]) (t' := s.toks) hf fun c o hcn z => ?_⟩
    simp only [List.mem_cons, List.not_mem_nil, or_false, not_or] at hcn
    exact k c o hcn.2 z
  self := fun _ _ _ _ _ st h => let ⟨⟨_, z⟩, _⟩ := st; wpAny_pyIter_enum z h
section
variable {X : Cx}
def iEnumL (K : PySem.W.Frag) (ta : TA) : TI := fun σ H R => ta σ H fun vs H1 => ∃ a xs, vs = [.ref a] ∧ SqL K H1 a xs ∧ R (Ite K a xs.length) H1
theorem pi_enumL {a : Expr} {ta : TA} {p pos : Pos} {elts : List Expr} {x1 : Nat} {tp : Pos} (hg : Gl X "enumerate") (hm : X.mg "enumerate" = none) (ha : PA X [a] ta)
    (hs : starEach [a] X.env = (false, eval a X.env) :: starEach [] X.env := by rfl) (hs2 : (backTo pos (starEach [] X.env)).any (·.1) = false := by rfl) :
    PI X (.Tuple elts x1 tp) (.Call (.Name "enumerate" p) [a] [] pos) (iEnumL X.K ta) := by
  intro pins s σ H R I h
  refine Call_ (ld_blt I hg hm b_enumerate (PyProof.Rows.callWith_type1 (thn (ha pos pins s σ H _ I h) fun us s1 ⟨vs, H1, I1, r1, q1⟩ => ?_) hs hs2))
  obtain ⟨l, xs, e, q1, q⟩ := q1
  subst e
  obtain ⟨u, rfl, w1⟩ := vals1 r1
  cases w1
  obtain ⟨its, v1, p1, z1⟩ := I1.list q1
  have hl : l < s1.heap.objs.size := by obtain ⟨_, _, e, _⟩ := p1; exact Heap.lt_size e
  refine call_enumerate_list p1.isList fun h' g1 g2 gs k => ?_
  refine wpAny_pyIter_enum g1 ?_
  refine ⟨s1.heap.objs.size + 1, [s1.heap.objs.size + 1, s1.heap.objs.size], _, _, H1, rfl, I1.kept (t' := s1.toks) k, turn_enumL l _ s1.heap.objs.size xs.length ?_ ?_ ?_, ⟨⟨_, g1⟩, g2⟩, fun c hcm => ?_, q⟩
  · exact Nat.succ_ne_self _
  · exact Nat.ne_of_lt (Nat.lt_succ_of_lt hl)
  · exact Nat.ne_of_lt hl
  · have hc : s1.heap.objs.size ≤ c := by
      simp only [List.mem_cons, List.not_mem_nil, or_false] at hcm
      rcases hcm with e | e
      · rw [e]; exact Nat.le_succ _
      · rw [e]; exact Nat.le_refl _
    exact I1.fpOk hc (I1.hok.fresh hc)
end
theorem b_abs : bootBuiltins "abs" = some (.builtin "abs") := by decide +kernel
theorem comp_enumP {K : PySem.W.Frag} {a acc : Addr} {xs : List V} {own : Nat} {ix : List Nat} {g : TG} {te : TE} {σ : St} {H1 : Hp} {Q : VK} (f : Nat → V) (hq1 : SqL K H1 a xs) (hn : H1 acc = none) (hz : xs.length ≤ sizeLine)
    (step : ∀ (i : Nat) (x : V) (t : Addr) (H : Hp) (R : VK), xs[i]? = some x → Same H1 H → H t = some (.tup [.int i, x]) → R (f i) H → g (.ref t) (blockSt own ix σ) H fun σ4 H4 => σ4.drop own = ix.map (fun i => (σ[i]?).getD none) ∧ te σ4 H4 R)
    (hd : ∀ H', Same H1 H' → H' acc = some (.lst ((List.range xs.length).map f)) → Q (.ref acc) H') : CompGo (Ite K a xs.length) own ix g tNoTest te σ H1 acc Q := by
  refine ⟨fun i m ys H => m = xs.length - i ∧ i ≤ xs.length ∧ ys = (List.range i).map f ∧ Same H1 H ∧ H acc = some (.lst ys), ⟨xs.length, by simp, Nat.zero_le _, rfl, Same.new hn, upd_same⟩, ?_⟩
  rintro i m zs H ⟨rfl, hi, rfl, sm, ha⟩
  refine ⟨ha, ?_⟩
  by_cases hlt : i < xs.length
  · refine .inr ⟨⟨xs, xs[i], sm.seq hq1, rfl, List.getElem?_eq_getElem hlt⟩, by rw [List.length_map, List.length_range]; omega, fun v H3 ⟨t, ht, hv, hy⟩ => ?_⟩
    have e := hy xs _ (sm.seq hq1) (List.getElem?_eq_getElem hlt)
    subst hv e
    have ha3 : (upd H t (.tup [.int i, xs[i]])) acc = some (.lst ((List.range i).map f)) := by rw [upd_ne (ne_of_none ha ht)]; exact ha
    exact step i _ t _ _ (List.getElem?_eq_getElem hlt) (sm.put ht) upd_same ⟨ha3, _, by omega, rfl, hlt, by rw [List.range_succ, List.map_append]; rfl, (sm.put ht).wr hn, upd_same⟩
  · have e : i = xs.length := by omega
    subst e
    exact .inl ⟨⟨rfl, xs, sm.seq hq1, rfl⟩, hd H sm ha⟩
theorem for_enum {K : PySem.W.Frag} {a : Addr} {xs : List V} {g : TG} {tb : TS} {D : Ends} {σ : St} {H : Hp} (Pv : Nat → St → Hp → Prop) (h0 : Pv 0 σ H) (hl : ∀ i σ H, Pv i σ H → SqL K H a xs)
    (hs : ∀ (i : Nat) x t σ H, xs[i]? = some x → Pv i σ H → H t = none → g (.ref t) σ (upd H t (.tup [.int i, x])) fun σ2 H2 => tb { D with nx := Pv (i + 1), ct := Pv (i + 1), bk := D.nx } σ2 H2) (hd : ∀ σ H, Pv xs.length σ H → D.nx σ H) :
    ∃ W : Nat → Nat → St → Hp → Prop, (∃ m, W 0 m σ H) ∧ ∀ i m σ H, W i m σ H →
      ((Ite K a xs.length).stop i H ∧ D.nx σ H) ∨ ((Ite K a xs.length).go i H ∧ ∃ N : St → Hp → Prop, (∀ σ' H', N σ' H' → ∃ m', m' < m ∧ W (i + 1) m' σ' H') ∧ ∀ x H', (Ite K a xs.length).yld i H x H' → g x σ H' fun σ2 H2 => tb { D with nx := N, ct := N, bk := D.nx } σ2 H2) := by
  refine ⟨fun i m σ H => m = xs.length - i ∧ i ≤ xs.length ∧ Pv i σ H, ⟨_, rfl, Nat.zero_le _, h0⟩, ?_⟩
  rintro i m σ H ⟨rfl, hi, p⟩
  have q1 := hl i σ H p
  by_cases hlt : i < xs.length
  · refine .inr ⟨⟨xs, xs[i], q1, rfl, List.getElem?_eq_getElem hlt⟩, Pv (i + 1), fun σ' H' p' => ⟨_, by omega, rfl, hlt, p'⟩, fun v H3 ⟨t, ht, hv, hy⟩ => ?_⟩
    have e := hy xs _ q1 (List.getElem?_eq_getElem hlt)
    subst hv e
    exact hs i _ t σ H (List.getElem?_eq_getElem hlt) p ht
  · have e : i = xs.length := by omega
    subst e
    exact .inl ⟨⟨rfl, xs, q1, rfl⟩, hd σ H p⟩
end L2
namespace L2
open PySem PySem.Spec PyProof.Rows
section
variable {X : Cx}
end
end L2
namespace L2
open PySem PySem.Spec PyProof.Rows PySem.W PySem.Calls
section
variable {prog : Program} {w : World} {A : Around} {E : Value → Shared → Prop} {s : Shared} {K : Frag} {x C : Addr} {ox : Obj}
structure ExcLook (K : Frag) (C : Addr) : Prop where
  ga : findIn K (.ref C) "__getattribute__" = some (some (.builtin "BaseException.__getattribute__"))
  hk : findIn K (.ref C) "__getattr__" = some none
  cl : findIn K (.ref C) "__class__" = some (some (.builtin "object.__class__"))
  gt : specialIn K (.builtin "object.__class__") "__get__" = some (some (.builtin "getset_descriptor.__get__"))
  tk : takesIn K (.builtin "object.__class__") = some true
  mo : mroIn K C (.type "object") = some true
  mb : mroIn K C (.type "BaseException") = some true
end
section
variable {K : Frag} {x C : Addr}
end
inductive XTy (K : PySem.W.Frag) (H : Hp) : V → Value → Prop where
  | of {x : V} {t : Value} (h : TyOf K H x t) : XTy K H x t
  | exc {a C : Addr} (L : ExcLook K C) (h : H a = some (excIs a (.ref C))) : XTy K H (.ref a) (.ref C)
section
variable {X : Cx}
end
section
variable {X : Cx} {k : Nat} {x : Str} {ps : List Str} {sp : Sp} {p pos : Pos} {e : Expr} {es : List Expr} {t : TA} {G : St → Value → Hp → Prop}
end
abbrev Cx.pinned (X : Cx) (pn : List (Addr × Obj)) : Cx := { X with pn := pn }
end L2
namespace L2
open PySem PySem.Spec PyProof.Rows PySem.W PySem.Calls
section
variable {prog : Program} {w : World} {A : Around} {R : Result → Shared → Prop} {I : Addr} {fp wr : List Addr} {n : Nat} {P : Nat → Value → Prop} {St : Nat → Heap → Prop} {d : Value}
end
section
variable {prog : Program} {w : World} {A : Around} {E : Value → Shared → Prop} {s : Shared} {d : Value}
end
section
variable {X : Cx} {p pos kpos : Pos} {e e2 : Expr} {t tk : TA}
end
end L2
namespace L2
open PySem PySem.Spec PyProof.Rows
end L2
namespace L2
open PySem PySem.Spec PyProof.Rows
end L2
namespace L2
open PySem PySem.Spec PyProof.Rows
end L2
namespace L2
open PySem PySem.Spec PyProof.Rows
section
variable {X : Cx}
variable {a b : Expr} {ta tb : TE} {pos : Pos}
variable {tA tB' : TT} {rest : List Expr}
end
end L2
namespace L2
open PySem PySem.Spec PyProof.Rows
end L2
namespace L2
open PySem PySem.Spec PyProof.Rows
end L2
namespace L2
open PySem PySem.Spec PyProof.Rows
end L2
namespace L2
open PySem PySem.Spec PyProof.Rows
end L2
namespace L2
open PySem PySem.Spec PyProof.Rows
section
variable {X : Cx} {CX : CXT} {k : Nat} {f C : Addr} {fd : FuncData} {ps ks : List Str} {sp : Sp} {E : XK} {x m : Str} {p pos apos kpos : Pos} {e o : Expr} {es : List Expr} {kws : List Keyword} {te ta : TE} {t tk : TA} {nm : Option Str}
variable {g : List Value → List Value → List Value} {gV : List V → List V → List V}
end
end L2
namespace L2
open PySem PySem.Spec PyProof.Rows
end L2
namespace L2
open PySem PySem.Spec PyProof.Rows
section
variable {κ : Type} [DecidableEq κ]
def valV (kvs : List (κ × V)) (k : κ) : Option V := (kvs.find? fun kv => decide (kv.1 = k)).map (·.2)
def putK (kvs : List (κ × V)) (k : κ) (v : V) : List (κ × V) :=
  if (kvs.any fun kv => decide (kv.1 = k)) = true then kvs.map (fun kv => if kv.1 = k then (kv.1, v) else kv) else kvs ++ [(k, v)]
def dropK (kvs : List (κ × V)) (k : κ) : List (κ × V) := kvs.filter fun kv => decide (kv.1 ≠ k)
theorem valV_pos {p : κ × V} {r : List (κ × V)} {k : κ} (e : p.1 = k) : valV (p :: r) k = some p.2 := by simp [valV, List.find?_cons, e]
theorem valV_neg {p : κ × V} {r : List (κ × V)} {k : κ} (e : ¬ p.1 = k) : valV (p :: r) k = valV r k := by simp [valV, List.find?_cons, e]
theorem valV_any (k : κ) : ∀ kvs : List (κ × V), (kvs.any fun kv => decide (kv.1 = k)) = (valV kvs k).isSome
  | [] => rfl
  | p :: r => by
    rw [List.any_cons]
    by_cases e : p.1 = k
    · simp only [valV_pos e, decide_eq_true e, Bool.true_or, Option.isSome_some]
    · rw [valV_neg e, decide_eq_false e, Bool.false_or]; exact valV_any k r
theorem RelO.isSome_eq {o : Option V} {u : Option Value} (r : RelO o u) : o.isSome = u.isSome := by
  cases o with
  | none => cases u with
    | none => rfl
    | some _ => exact (show False from r).elim
  | some _ => cases u with
    | none => exact (show False from r).elim
    | some _ => rfl
theorem RelO.getD {o : Option V} {u : Option Value} {d : V} {d' : Value} (r : RelO o u) (rd : RelV d d') : RelV (o.getD d) (u.getD d') := by
  cases o with
  | none => cases u with
    | none => exact rd
    | some _ => exact (show False from r).elim
  | some _ => cases u with
    | none => exact (show False from r).elim
    | some _ => exact r
theorem KV.val {kvs : List (κ × V)} {vs : List (κ × Value)} (r : KV kvs vs) (k : κ) : RelO (valV kvs k) (valueAt vs k) := by
  unfold KV at r
  induction r with
  | nil => exact True.intro
  | @cons p q ps qs h t ih =>
    obtain ⟨h1, h2⟩ := h
    by_cases e : p.1 = k
    · have e' : q.1 = k := h1.symm.trans e
      have b : valueAt (q :: qs) k = some q.2 := by simp [valueAt, List.find?_cons, e']
      rw [valV_pos e, b]; exact h2
    · have e' : ¬ q.1 = k := fun z => e (h1.trans z)
      have b : valueAt (q :: qs) k = valueAt qs k := by simp [valueAt, List.find?_cons, e']
      rw [valV_neg e, b]; exact ih
theorem KV.any {kvs : List (κ × V)} {vs : List (κ × Value)} (r : KV kvs vs) (k : κ) : (kvs.any fun kv => decide (kv.1 = k)) = vs.any fun kv => decide (kv.1 = k) := by
  unfold KV at r
  induction r with
  | nil => rfl
  | cons h t ih => rw [List.any_cons, List.any_cons, ih, h.1]
theorem KV.repl {kvs : List (κ × V)} {vs : List (κ × Value)} (r : KV kvs vs) (k : κ) {y : V} {u : Value} (ry : RelV y u) :
    KV (kvs.map fun kv => if kv.1 = k then (kv.1, y) else kv) (vs.map fun kv => if kv.1 = k then (kv.1, u) else kv) := by
  unfold KV at r ⊢
  induction r with
  | nil => exact .nil
  | @cons p q ps qs h t ih =>
    rw [List.map_cons, List.map_cons]
    refine .cons ?_ ih
    obtain ⟨h1, h2⟩ := h
    by_cases e : p.1 = k
    · rw [if_pos e, if_pos (h1.symm.trans e)]; exact ⟨h1, ry⟩
    · rw [if_neg e, if_neg (fun z => e (h1.trans z))]; exact ⟨h1, h2⟩
theorem KV.put {kvs : List (κ × V)} {vs : List (κ × Value)} (r : KV kvs vs) (k : κ) {y : V} {u : Value} (ry : RelV y u) : KV (putK kvs k y) (stored vs k u) := by
  unfold putK stored
  rw [r.any k]
  by_cases e : (vs.any fun kv => decide (kv.1 = k)) = true
  · rw [if_pos e, if_pos e]; exact r.repl k ry
  · rw [if_neg e, if_neg e]; exact Paired.snoc r ⟨rfl, ry⟩
theorem KV.drop {kvs : List (κ × V)} {vs : List (κ × Value)} (r : KV kvs vs) (k : κ) : KV (dropK kvs k) (without vs k) := by
  unfold KV at r ⊢
  unfold dropK without
  induction r with
  | nil => exact .nil
  | @cons p q ps qs h t ih =>
    obtain ⟨h1, h2⟩ := h
    rw [List.filter_cons, List.filter_cons]
    by_cases e : p.1 = k
    · have a : ¬ decide (p.1 ≠ k) = true := by simp [e]
      have b : ¬ decide (q.1 ≠ k) = true := by simp [h1.symm.trans e]
      rw [if_neg a, if_neg b]; exact ih
    · have e' : ¬ q.1 = k := fun z => e (h1.trans z)
      have a : decide (p.1 ≠ k) = true := by simp [e]
      have b : decide (q.1 ≠ k) = true := by simp [e']
      rw [if_pos a, if_pos b]; exact .cons ⟨h1, h2⟩ ih
theorem KV.length {kvs : List (κ × V)} {vs : List (κ × Value)} (r : KV kvs vs) : kvs.length = vs.length := Paired.length r
end
abbrev KT (H : Hp) : List (List Key × V) → List (List Key × Addr × Value) → Prop := Paired fun p q => p.1 = q.1 ∧ H q.2.1 = some (.tup (p.1.map kV)) ∧ RelV p.2 q.2.2
theorem KT.val {H : Hp} {kvs : List (List Key × V)} {xs : List (List Key × Addr × Value)} (r : KT H kvs xs) (k : List Key) : RelO (valV kvs k) ((atKey xs k).map (·.2)) := by
  induction r with
  | nil => exact True.intro
  | @cons p q ps qs h t ih =>
    obtain ⟨h1, _, h2⟩ := h
    by_cases e : p.1 = k
    · have e' : q.1 = k := h1.symm.trans e
      have b : atKey (q :: qs) k = some q.2 := by simp [atKey, List.find?_cons, e']
      rw [valV_pos e, b]; exact h2
    · have e' : ¬ q.1 = k := fun z => e (h1.trans z)
      have b : atKey (q :: qs) k = atKey qs k := by simp [atKey, List.find?_cons, e']
      rw [valV_neg e, b]; exact ih
theorem KT.repl {H : Hp} {kvs : List (List Key × V)} {xs : List (List Key × Addr × Value)} (r : KT H kvs xs) (k : List Key) {y : V} {u : Value} (ry : RelV y u) :
    KT H (kvs.map fun kv => if kv.1 = k then (kv.1, y) else kv) (xs.map (putAt k u)) := by
  induction r with
  | nil => exact .nil
  | @cons p q ps qs h t ih =>
    rw [List.map_cons, List.map_cons]
    refine .cons ?_ ih
    obtain ⟨h1, h2, h3⟩ := h
    unfold putAt
    by_cases e : p.1 = k
    · rw [if_pos e, if_pos (h1.symm.trans e)]; exact ⟨h1, h2, ry⟩
    · rw [if_neg e, if_neg (fun z => e (h1.trans z))]; exact ⟨h1, h2, h3⟩
theorem KT.put {H : Hp} {kvs : List (List Key × V)} {xs : List (List Key × Addr × Value)} (r : KT H kvs xs) (k : List Key) {b : Addr} {y : V} {u : Value} (hb : H b = some (.tup (k.map kV))) (ry : RelV y u) :
    KT H (putK kvs k y) (storedH xs k b u) := by
  have e : (kvs.any fun kv => decide (kv.1 = k)) = (atKey xs k).isSome := by
    rw [valV_any, (r.val k).isSome_eq, Option.isSome_map]
  unfold putK storedH
  rw [e]
  by_cases q : (atKey xs k).isSome = true
  · rw [if_pos q, if_pos q]; exact r.repl k ry
  · rw [if_neg q, if_neg q]; exact Paired.snoc r ⟨rfl, hb, ry⟩
theorem KT.keeps {H H' : Hp} {kvs : List (List Key × V)} {xs : List (List Key × Addr × Value)} (r : KT H kvs xs) (ht : ∀ b ys, H b = some (.tup ys) → H' b = some (.tup ys)) : KT H' kvs xs :=
  Paired.mapP r fun _ _ z => ⟨z.1, ht _ _ z.2.1, z.2.2⟩
section
variable {P : Program} {w : World} {H : Hp} {h : Heap} {a : Addr}
end
def DGet (H : Hp) (a : Addr) (y : V) (r : Option V) : Prop :=
  (∃ kvs k, Rd H a (.dK kvs) ∧ y = kV k ∧ r = valV kvs k) ∨ ∃ kvs k b, Rd H a (.dT kvs) ∧ y = .ref b ∧ H b = some (.tup (k.map kV)) ∧ r = valV kvs k
def DPut (H : Hp) (a : Addr) (y v : V) (H' : Hp) : Prop :=
  (∃ kvs k, H a = some (.dK kvs) ∧ y = kV k ∧ kvs.length < sizeLine ∧ H' = upd H a (.dK (putK kvs k v))) ∨
  ∃ kvs k b, H a = some (.dT kvs) ∧ y = .ref b ∧ H b = some (.tup (k.map kV)) ∧ kvs.length < sizeLine ∧ H' = upd H a (.dT (putK kvs k v))
theorem DGet.k {H : Hp} {a : Addr} {kvs : List (Key × V)} {k : Key} (e : H a = some (.dK kvs)) : DGet H a (kV k) (valV kvs k) := .inl ⟨kvs, k, .inl e, rfl, rfl⟩
theorem DGet.t {H : Hp} {a b : Addr} {kvs : List (List Key × V)} {k : List Key} (e : H a = some (.dT kvs)) (eb : H b = some (.tup (k.map kV))) : DGet H a (.ref b) (valV kvs k) := .inr ⟨kvs, k, b, .inl e, rfl, eb, rfl⟩
theorem DPut.k {H : Hp} {a : Addr} {kvs : List (Key × V)} {k : Key} {v : V} (e : H a = some (.dK kvs)) (hl : kvs.length < sizeLine) : DPut H a (kV k) v (upd H a (.dK (putK kvs k v))) := .inl ⟨kvs, k, e, rfl, hl, rfl⟩
theorem DPut.t {H : Hp} {a b : Addr} {kvs : List (List Key × V)} {k : List Key} {v : V} (e : H a = some (.dT kvs)) (eb : H b = some (.tup (k.map kV))) (hl : kvs.length < sizeLine) :
    DPut H a (.ref b) v (upd H a (.dT (putK kvs k v))) := .inr ⟨kvs, k, b, e, rfl, eb, hl, rfl⟩
section
variable {X : Cx} {pins : List (Addr × Obj)} {σ : St} {H : Hp} {s : Shared} {a : Addr} {y v : V} {u r : Value} {o : Option V} {A : Around} {E : Value → Shared → Prop}
theorem Inv.big (I : Inv X pins σ H s) : sysModules < s.heap.objs.size := by
  have h : mainGlobals < s.heap.objs.size := (I.mod.glob.keeps I.bk).lt
  exact Nat.lt_trans (by decide) h
theorem d_write {h' : Heap} {t' : Nat} {ob : HO} (I : Inv X pins σ H s) (mu : Mut (H a)) (hs : Heap.SameBut a s.heap h') (he : ∃ q, h'.get? a = some q) (new : ObjOk X.prog X.w (upd H a ob) h' a ob) :
    Inv X pins σ (upd H a ob) { s with heap := h', toks := t' } :=
  I.write (x := a) (e := a) mu (.inl rfl) (fun b q hb z => (hs.2 b hb).trans z) he new
end
section
variable {X : Cx} {pins : List (Addr × Obj)} {σ : St} {H : Hp} {s : Shared} {a : Addr} {kvs : List (Key × V)} {k : Key} {u : Value} {A : Around} {E : Value → Shared → Prop}
end
def NoSl (i : Expr) : Prop := ∀ ov iv, subscripted i false ov iv = operate [ov, iv] (getItem ov iv)
theorem subD_of {prog : Program} {w : World} {A : Around} {E : Value → Shared → Prop} {s : Shared} {env : Env} {value slice : Expr} {pos : Pos} {T id : String} {Q : Value → Shared → Prop}
    (hl : typeLookup (.type T) "__getitem__" = pure (some (.builtin id))) (hs : NoSl slice)
    (h : wpAny (model prog w) A (eval value env) (fun o s₁ => wpAny (model prog w) A (eval slice env) (fun i s₂ => s₂.TypeIs o T ∧ wpAny (model prog w) A (getItem o i) Q E s₂) E s₁) E s) :
    wpAny (model prog w) A (eval (.Subscript value slice pos) env) Q E s := by
  refine Subscript_ (wpAny_mono h (fun o s₁ h₁ => wpAny_mono h₁ (fun i s₂ h₂ => ?_) fun _ _ x => x) fun _ _ x => x)
  obtain ⟨hT, h₂⟩ := h₂
  unfold subscriptTail
  refine wpAny_bind ?_
  rw [getitemInPython_of_ne hT.not_modules]
  refine wpAny_bind (wpAny_specialOf hT hl ?_)
  have fin : wpAny (model prog w) A (subscripted slice false o i) (fun r s₃ => wpAny (model prog w) A (letTemporaryGo value o r >>= fun _ => pure r) Q E s₃) E s₂ := by
    rw [hs o i]
    exact wpAny_operating (wpAny_mono h₂ (fun r s₃ h₃ => wpAny_bind (wpAny_letTemporaryGo (wpAny_pure h₃))) fun _ _ x => x)
  first
    | exact wpAny_pure (wpAny_bind fin)
    | exact wpAny_bind (wpAny_pure (wpAny_bind fin))
    | exact wpAny_bind fin
section
variable {X : Cx} {o i e value : Expr} {pos pos' tpos : Pos} {td ty tv : TE}
end
section
variable {X : Cx} {pos : Pos}
end
structure M1 (X : Cx) (o : Expr) (m : Str) (apos : Pos) (e : Expr) (cpos : Pos) : Prop where
  base : attributeBase o m X.env (eval o X.env) = eval o X.env
  few : ((backTo cpos (starEach [e] X.env)).all (fun x => !x.1) && (backToKw cpos (keywordEach [] X.env)).all (fun x => x.1.isSome)
    && decide (([e] : List Expr).length + ([] : List Keyword).length + (if ([] : List Keyword).isEmpty then 0 else 1) < 30)) = true
  line : (apos.endLine == cpos.line) = true
  trees : backTo cpos (starEach [e] X.env) = [(false, eval e X.env)]
structure M2 (X : Cx) (o : Expr) (m : Str) (apos : Pos) (e f : Expr) (cpos : Pos) : Prop where
  base : attributeBase o m X.env (eval o X.env) = eval o X.env
  few : ((backTo cpos (starEach [e, f] X.env)).all (fun x => !x.1) && (backToKw cpos (keywordEach [] X.env)).all (fun x => x.1.isSome)
    && decide (([e, f] : List Expr).length + ([] : List Keyword).length + (if ([] : List Keyword).isEmpty then 0 else 1) < 30)) = true
  line : (apos.endLine == cpos.line) = true
  trees : backTo cpos (starEach [e, f] X.env) = [(false, eval e X.env), (false, eval f X.env)]
section
variable {X : Cx} {pins : List (Addr × Obj)} {σ : St} {H : Hp} {s : Shared} {a : Addr} {y d : V} {u r : Value} {o : Option V} {A : Around} {E : Value → Shared → Prop}
end
section
variable {X : Cx} {o e f : Expr} {apos cpos : Pos} {td ty tx : TE}
end
section
variable {X : Cx} {pins : List (Addr × Obj)} {σ : St} {H : Hp} {s : Shared} {a : Addr} {kvs : List (Key × V)} {A : Around} {E : Value → Shared → Prop}
end
section
variable {X : Cx} {pins : List (Addr × Obj)} {σ : St} {H : Hp} {s : Shared} {a : Addr} {y : V} {u : Value} {A : Around} {E : Value → Shared → Prop}
end
end L2
namespace Att
open PySem PySem.W PySem.Calls PyProof.Rows
end Att
namespace L2
open PySem PySem.Spec PyProof.Rows
end L2
namespace L2
open PySem PySem.Spec PyProof.Rows
end L2
namespace L2
open PySem PySem.Spec PyProof.Rows
section
variable {X : Cx}
end
section
variable {κ : Type} [DecidableEq κ]
end
end L2
namespace L2
open PySem PySem.Spec PyProof.Rows PySem.SeqAt
abbrev dTu (ns : List Int) : PyData := .tuple (ns.map PyData.int)
abbrev dLT (nss : List (List Int)) : PyData := .list (nss.map dTu)
def SqLT (K : PySem.W.Frag) (H : Hp) (a : Addr) (nss : List (List Int)) : Prop := ∃ as : List Addr, SqL K H a (as.map V.ref) ∧ Paired (fun b ns => SqT K H b (ns.map V.int)) as nss
theorem canLay_dLT : ∀ nss : List (List Int), PyData.canLayAll0 (nss.map dTu) = true
  | [] => by simp [PyData.canLayAll0]
  | n :: r => by simp [PyData.canLayAll0, PyData.canLay0, PySem.W.canLayAll0_ints, canLay_dLT r]
theorem depth_dTu (ns : List Int) : PyData.depth (dTu ns) ≤ 2 := by
  have := PySem.W.depthAll_ints ns
  simp only [PyData.depth]
  omega
theorem depthAll_dLT : ∀ nss : List (List Int), PyData.depthAll (nss.map dTu) ≤ 2
  | [] => by simp [PyData.depthAll]
  | n :: r => by
    have := depthAll_dLT r
    have := depth_dTu n
    simp only [List.map_cons, PyData.depthAll]
    omega
theorem shaped_dLT (nss : List (List Int)) : shaped (dLT nss) = true := by
  have h1 := depthAll_dLT nss
  have h2 : PyData.depth (dLT nss) ≤ 64 := by simp only [PyData.depth]; omega
  show (PyData.canLay0 (dLT nss) && decide (PyData.depth (dLT nss) ≤ 64)) = true
  rw [Bool.and_eq_true]
  exact ⟨by simp only [PyData.canLay0]; exact canLay_dLT nss, decide_eq_true h2⟩
theorem noMix_dTu (ns ms : List Int) : noMix (dTu ns) (dTu ms) = true := by
  simp only [noMix]; exact PySem.W.noMix_ints ns ms
theorem noMix_dLT : ∀ nss mss : List (List Int), noMixAll (nss.map dTu) (mss.map dTu) = true
  | [], [] => by simp [noMixAll]
  | [], _ :: _ => by simp [noMixAll]
  | _ :: _, [] => by simp [noMixAll]
  | n :: r, m :: q => by
    simp only [List.map_cons, noMixAll, noMix_dLT r q, Bool.and_true]
    exact noMix_dTu n m
theorem same_dTu (ns ms : List Int) : PySem.Spec.same (dTu ns) (dTu ms) = decide (ns = ms) := by
  simp only [PySem.Spec.same]; exact PySem.W.same_ints ns ms
theorem same_dLT : ∀ nss mss : List (List Int), PySem.Spec.sameAll (nss.map dTu) (mss.map dTu) = decide (nss = mss)
  | [], [] => by simp [PySem.Spec.sameAll]
  | [], _ :: _ => by simp [PySem.Spec.sameAll]
  | _ :: _, [] => by simp [PySem.Spec.sameAll]
  | n :: r, k :: q => by
    simp only [List.map_cons, PySem.Spec.sameAll, same_dLT r q]
    rw [same_dTu]
    by_cases h : n = k <;> simp [h]
section
variable {X : Cx} {pins : List (Addr × Obj)} {σ : St} {H : Hp} {s : Shared}
theorem Inv.readsTu (I : Inv X pins σ H s) {a : Addr} {ns : List Int} (h : SqT X.K H a (ns.map V.int)) : ∃ bs, Reads s.heap (.ref a) (dTu ns) bs := by
  obtain ⟨its, r, ⟨o, ho, hc, n, hd⟩, z⟩ := I.tuple h
  exact ⟨_, .tuple ho hc hd (by simpa using PySem.W.readsAll_of_ints (intsAre_of r))⟩
theorem Inv.readsAllT (I : Inv X pins σ H s) : ∀ {as : List Addr} {us : List Value} {nss : List (List Int)}, Vals (as.map V.ref) us → Paired (fun b ns => SqT X.K H b (ns.map V.int)) as nss → ∃ bs, ReadsAll s.heap us (nss.map dTu) bs
  | [], _, _, r, p => by
    cases r; cases p
    exact ⟨_, .nil⟩
  | a :: as, _, _, r, p => by
    cases p with
    | cons p1 p2 =>
      cases r with
      | cons r1 r2 =>
        obtain ⟨bs, h⟩ := I.readsAllT r2 p2
        obtain ⟨cs, h1⟩ := I.readsTu p1
        cases r1
        exact ⟨_, .cons h1 h⟩
theorem Inv.readsLT (I : Inv X pins σ H s) {a : Addr} {nss : List (List Int)} (h : SqLT X.K H a nss) : ∃ bs, Reads s.heap (.ref a) (dLT nss) bs := by
  obtain ⟨as, h1, h2⟩ := h
  obtain ⟨its, r, ⟨o, n, ho, hc, hd0, hd⟩, z⟩ := I.list h1
  obtain ⟨bs, hb⟩ := I.readsAllT r h2
  exact ⟨_, .list ho hc hd (by simpa using hb)⟩
end
section
variable {X : Cx}
def rEqLT (K : PySem.W.Frag) : R2 := fun x y H Q => ∃ (a b : Addr) (nss mss : List (List Int)), x = .ref a ∧ y = .ref b ∧ SqLT K H a nss ∧ SqLT K H b mss ∧ Q (.bl (decide (nss = mss))) H
def rNeLT (K : PySem.W.Frag) : R2 := fun x y H Q => ∃ (a b : Addr) (nss mss : List (List Int)), x = .ref a ∧ y = .ref b ∧ SqLT K H a nss ∧ SqLT K H b mss ∧ Q (.bl (!decide (nss = mss))) H
theorem op_eqLT (hu : X.A.units + 64 < cLine) : OpR X (compareOp .Eq) (rEqLT X.K) := by
  intro pins s σ H x y v u Q I rx ry h
  obtain ⟨a, b, ns, ms, rfl, rfl, h1, h2, q⟩ := h
  cases rx; cases ry
  obtain ⟨as, r1⟩ := I.readsLT h1
  obtain ⟨bs, r2⟩ := I.readsLT h2
  exact eq_dataH_same r1 r2 (shaped_dLT ns) (shaped_dLT ms) hu (by simp only [noMix]; exact noMix_dLT ns ms) (by simp only [PySem.Spec.same]; rw [same_dLT]; exact ⟨.bl _, H, I, rfl, q⟩)
theorem op_neLT (hu : X.A.units + 64 < cLine) : OpR X (compareOp .NotEq) (rNeLT X.K) := by
  intro pins s σ H x y v u Q I rx ry h
  obtain ⟨a, b, ns, ms, rfl, rfl, h1, h2, q⟩ := h
  cases rx; cases ry
  obtain ⟨as, r1⟩ := I.readsLT h1
  obtain ⟨bs, r2⟩ := I.readsLT h2
  exact ne_dataH_same r1 r2 (shaped_dLT ns) (shaped_dLT ms) hu (by simp only [noMix]; exact noMix_dLT ns ms) (by simp only [PySem.Spec.same]; rw [same_dLT]; exact ⟨.bl _, H, I, rfl, q⟩)
end
end L2
namespace L2
open PySem PySem.Spec PyProof.Rows
section
variable {X : Cx}
end
end L2
namespace L2
open PySem PyProof.Rows
section
variable {P : Program} {w : World} {A : Around} {E : Value → Shared → Prop} {s : Shared}
abbrev TupI (P : Program) (w : World) (h : Heap) (ks : List Int) (v : Value) : Prop := ∃ b, v = .ref b ∧ IsTupleKey (intKind P w) h ks b
def Is2 (P : Program) (w : World) (h : Heap) (kss : List (List Int)) (a : Addr) : Prop := ∃ o items n, h.get? a = some o ∧ o.cls = .type "tuple" ∧ o.data = .seq items n ∧ Paired (fun ks v => TupI P w h ks v) kss items.toList
theorem Is2.typeIs {kss : List (List Int)} {a : Addr} (x : Is2 P w s.heap kss a) : s.TypeIs (.ref a) "tuple" := by
  obtain ⟨o, _, _, ho, hc, _⟩ := x
  exact ⟨o, ho, hc⟩
theorem tups_inj {h : Heap} : ∀ {x y : List (List Int)} {vs : List Value}, Paired (fun ks v => TupI P w h ks v) x vs → Paired (fun ks v => TupI P w h ks v) y vs → x = y
  | _, _, _, .nil, q => by cases q; rfl
  | _, _, _, .cons r t, q => by
    cases q with
    | cons r' t' =>
      obtain ⟨b, rfl, h1⟩ := r
      obtain ⟨b', e, h2⟩ := r'
      cases e
      rw [h1.inj h2, tups_inj t t']
theorem Is2.inj {h : Heap} {a : Addr} {x y : List (List Int)} (hx : Is2 P w h x a) (hy : Is2 P w h y a) : x = y := by
  obtain ⟨o, items, n, ho, _, hd, hi⟩ := hx
  obtain ⟨o', items', n', ho', _, hd', hi'⟩ := hy
  obtain rfl : o = o' := Option.some.inj (ho.symm.trans ho')
  rw [hd] at hd'
  injection hd' with h1 _
  subst h1
  exact tups_inj hi hi'
theorem paired_up {α β : Type} {R S : α → β → Prop} (f : ∀ a b, R a b → S a b) : ∀ {l : List α} {m : List β}, Paired R l m → Paired S l m
  | _, _, .nil => .nil
  | _, _, .cons r t => .cons (f _ _ r) (paired_up f t)
theorem Is2.keeps {h h' : Heap} {kss : List (List Int)} {a d : Addr} {o : Obj} {es ep} (x : Is2 P w h kss a) (ho : h.get? d = some o) (hd : o.data = .dict es ep) (hs : Heap.SameBut d h h') : Is2 P w h' kss a := by
  obtain ⟨o', items, n, ho', hc, hd', hi⟩ := x
  have hne : a ≠ d := by
    rintro rfl
    obtain rfl : o' = o := Option.some.inj (ho'.symm.trans ho)
    rw [hd] at hd'; exact nomatch hd'
  refine ⟨o', items, n, (hs.2 a hne).trans ho', hc, hd', paired_up (fun ks v hv => ?_) hi⟩
  obtain ⟨b, rfl, hb⟩ := hv
  exact ⟨b, rfl, hb.keeps ho hd hs⟩
def hash2 (P : Program) (w : World) (kss : List (List Int)) : Int := reduceHash (Builtin.Tuple.tupleHashOf (kss.map (tupleKeyHash (intKind P w))))
def draws2 (kss : List (List Int)) : Nat := (kss.map fun ks => ks.length + 1).sum
theorem hash_tup2 {kss : List (List Int)} {a : Addr} {Q : Int → Shared → Prop} (hu : A.units + 1 < cLine) (hk : Is2 P w s.heap kss a) (h : Q (hash2 P w kss) { s with toks := s.toks + (draws2 kss + 1) }) :
    wpAny (model P w) A (pyHash (.ref a)) Q E s := by
  have hT := hk.typeIs
  obtain ⟨o, items, n, ho, _, hd, hi⟩ := hk
  unfold pyHash
  first | unfold pyHashByItsType | skip
  first | refine wpAny_bind (wpAny_cRoomFor_or (.inr (Nat.lt_of_succ_lt hu)) ?_) | skip
  refine wpAny_bind (wpAny_specialOf hT F.slot_tuple_hash.lookup ?_)
  show wpAny _ _ (if (some (Value.builtin "tuple.__hash__") == some Value.none) = true then _ else _) Q E s
  rw [if_neg (by rw [beq_builtin_none]; exact Bool.false_ne_true)]
  refine wpAny_bind (wpAny_specialOf hT F.slot_tuple_hash.lookup ?_)
  refine wpAny_bind (m := callSpecialIfBoundUnlessNone? (.ref a) "__hash__" _) (wpAny_callSpecialIfBoundUnlessNone?_slot hT F.slot_tuple_hash (wpAny_call_entry F.slot_tuple_hash hT F.entry_tuple_hash ?_ (F.args_tuple_hash_1 _)))
  refine wpAny_bind (m := Builtin.Tuple.tupleItemsOf (.ref a)) (wpAny_tupleItemsOf ho hd ?_)
  refine wpAny_bind ?_
  rw [← Array.forIn_toList]
  refine wpAny_forIn_list _ (fun rest (b : Array Int) s' => ∃ done left, kss = done ++ left ∧ Paired (fun ks v => TupI P w s.heap ks v) left rest ∧ b.toList = done.map (tupleKeyHash (intKind P w)) ∧ s' = { s with toks := s.toks + draws2 done })
    _ ?_ ?_ _ _ ⟨[], kss, rfl, hi, rfl, rfl⟩
  · rintro x rest b s' ⟨done, left, rfl, hl, hb, rfl⟩
    cases hl with
    | @cons ks _ kss' _ h1 hl' =>
      obtain ⟨c, rfl, hc⟩ := h1
      have e : s.toks + draws2 done + (ks.length + 1) = s.toks + draws2 (done ++ [ks]) := by
        unfold draws2; simp; omega
      refine wpAny_bind (wpAny_pyHash_tuple (s := { s with toks := s.toks + draws2 done }) hu hc ?_)
      show wpAny _ _ _ _ _ { s with toks := s.toks + draws2 done + (ks.length + 1) }
      rw [e]
      first
        | exact wpAny_pure ⟨done ++ [ks], kss', by simp, hl', by simp [hb], rfl⟩
        | exact wpAny_bind (wpAny_pure (wpAny_pure ⟨done ++ [ks], kss', by simp, hl', by simp [hb], rfl⟩))
  · rintro b s' ⟨done, left, rfl, hl, hb, rfl⟩
    cases hl
    rw [List.append_nil] at h
    show wpAny _ _ (retInt (Builtin.Tuple.tupleHashOf b.toList)) _ _ _
    rw [hb]
    refine wpAny_ret_mkInt ?_
    unfold hash2 reduceHash at h
    generalize Builtin.Tuple.tupleHashOf (done.map (tupleKeyHash (intKind P w))) = z at h ⊢
    show wpAny _ _ (if (decide (-(2 : Int) ^ 63 ≤ z) && decide (z < 2 ^ 63)) = true then _ else _) Q E _
    by_cases hr : (decide (-(2 : Int) ^ 63 ≤ z) && decide (z < 2 ^ 63)) = true
    · rw [if_pos hr]
      rw [if_pos hr] at h
      exact wpAny_pure (by simpa [Nat.add_assoc] using h)
    · rw [if_neg hr]
      rw [if_neg hr] at h
      exact wpAny_bind (wpAny_rule (wpAny_pure (by simpa [Nat.add_assoc] using h)))
theorem eq_tree2 {x y : List (List Int)} {a b : Addr} {R : PySem.Fin → Shared → Prop} (hu : A.units < cLine) (hx : Is2 P w s.heap x a) (hy : Is2 P w s.heap y b) (h : R (.done (.ret (.bool (decide (x = y))))) s) :
    wpAny (model P w) A (Builtin.«tuple.__eq__» ⟨[.ref a, .ref b], []⟩) R E s := by
  have hTb := hy.typeIs
  obtain ⟨oa, xs, na, hoa, _, hda, hia⟩ := hx
  obtain ⟨ob, ys, nb, hob, _, hdb, hib⟩ := hy
  refine wpAny_bind (m := isInstance (.ref b) (.type "tuple")) (wpAny_isInstance hTb isSubtype_tuple_tuple ?_)
  simp only [Bool.not_true, Bool.false_eq_true, if_false]
  refine wpAny_bind (wpAny_tupleItemsOf hoa hda ?_)
  refine wpAny_bind (wpAny_tupleItemsOf hob hdb ?_)
  refine wpAny_bind ?_
  refine wpAny_forIn_list _ (fun rest r s' => r.1 = none ∧ s' = s ∧ ∃ x' y' xs' ys', rest = List.zip xs' ys' ∧ Paired (fun ks v => TupI P w s.heap ks v) x' xs' ∧ Paired (fun ks v => TupI P w s.heap ks v) y' ys' ∧ decide (x' = y') = decide (x = y) ∧ (xs'.length == ys'.length) = (xs.size == ys.size))
    _ ?_ ?_ _ _ ⟨rfl, rfl, x, y, xs.toList, ys.toList, rfl, hia, hib, rfl, by simp⟩
  · rintro ⟨u, v⟩ rest r s' ⟨hr, rfl, x', y', xs', ys', hz, hx', hy', hdec, hlen⟩
    cases hx' with
    | nil => simp at hz
    | @cons k1 u' x'' xs'' h1 hx'' =>
      cases hy' with
      | nil => simp at hz
      | @cons k2 v' y'' ys'' h2 hy'' =>
        simp only [List.zip_cons_cons, List.cons.injEq, Prod.mk.injEq] at hz
        obtain ⟨⟨rfl, rfl⟩, rfl⟩ := hz
        obtain ⟨c1, rfl, i1⟩ := h1
        obtain ⟨c2, rfl, i2⟩ := h2
        refine wpAny_bind (wpAny_eqBool_tuple hu i1 i2 ?_)
        by_cases hk : k1 = k2
        · subst hk
          rw [decide_eq_true rfl]
          simp only [Bool.not_true, Bool.false_eq_true, if_false]
          refine wpAny_pure ⟨rfl, rfl, x'', y'', xs'', ys'', rfl, hx'', hy'', ?_, by simpa using hlen⟩
          rw [← hdec]
          by_cases hxy : x'' = y'' <;> simp [hxy]
        · rw [decide_eq_false hk]
          simp only [Bool.not_false, if_true]
          have hf : decide (x = y) = false := by rw [← hdec]; simp [hk]
          rw [hf] at h
          exact wpAny_bind (wpAny_pure (wpAny_pure (wpAny_pure h)))
  · rintro ⟨r1, r2⟩ s' ⟨hr, rfl, x', y', xs', ys', hz, hx', hy', hdec, hlen⟩
    simp only at hr
    subst hr
    refine wpAny_pure ?_
    have hfin : (xs.size == ys.size) = decide (x = y) := by
      rw [← hdec, ← hlen]
      cases hx' with
      | nil =>
        cases hy' with
        | nil => simp
        | cons _ _ => simp
      | cons _ _ =>
        cases hy' with
        | nil => simp
        | cons _ _ => simp at hz
    show R (.done (.ret (.bool (xs.size == ys.size)))) s'
    rw [hfin]; exact h
theorem eq_tup2 {x y : List (List Int)} {a b : Addr} {Q : Bool → Shared → Prop} (hu : A.units + 1 < cLine) (hx : Is2 P w s.heap x a) (hy : Is2 P w s.heap y b) (h : Q (decide (x = y)) s) :
    wpAny (model P w) A (eqBool (.ref a) (.ref b)) Q E s := by
  unfold eqBool
  try with_reducible refine wpAny_holding ?_
  show wpAny _ _ (if (Value.ref a == Value.ref b) = true then _ else _) Q E s
  by_cases hab : (Value.ref a == Value.ref b) = true
  · rw [if_pos hab]
    have e : a = b := by have := eq_of_beq hab; injection this
    subst e
    obtain rfl := hx.inj hy
    exact wpAny_bind (wpAny_rule (wpAny_pure (by simpa using h)))
  · rw [if_neg hab]
    exact wpAny_bind (wpAny_richCompare_same_room (op := .Eq) hx.typeIs hy.typeIs F.slot_tuple_eq
      (wpAny_call_entry F.slot_tuple_eq hx.typeIs F.entry_tuple_eq (eq_tree2 hu hx hy ⟨_, rfl, (fun e => nomatch e), wpAny_truthy_bool h⟩) (F.args_tuple_eq_2 _ _)) (Nat.lt_of_succ_lt hu))
theorem quiet_any {n : Nat} {a : Addr} {o : Obj} {items : Array Value} {k : Nat} {Q : Bool → Shared → Prop} (ho : s.heap.get? a = some o) (hc : o.cls = .type "tuple") (hd : o.data = .seq items k)
    (hi : ∀ v ∈ items.toList, ∀ (R : Bool → Shared → Prop), R true s → wpAny (model P w) A (eqIsQuiet n v) R E s) (h : Q true s) : wpAny (model P w) A (eqIsQuiet (n + 1) (.ref a)) Q E s := by
  have hT : s.TypeIs (.ref a) "tuple" := ⟨o, ho, hc⟩
  unfold eqIsQuiet
  refine wpAny_bind (wpAny_specialOf hT F.slot_tuple_eq.lookup ?_)
  refine wpAny_bind (m := isInstance (.ref a) (.type "tuple")) (wpAny_isInstance hT isSubtype_tuple_tuple ?_)
  simp only [Bool.not_true, Bool.false_eq_true, if_false]
  refine wpAny_bind (wpAny_seqItems ho hd ?_)
  refine wpAny_bind ?_
  show wpAny _ _ (forIn items _ _) _ _ s
  rw [← Array.forIn_toList]
  refine wpAny_forIn_list _ (fun rest r s' => r.1 = none ∧ s' = s ∧ ∀ v ∈ rest, v ∈ items.toList) _ ?_ ?_ _ _ ⟨rfl, rfl, fun v hv => hv⟩
  · rintro v rest r s' ⟨hr, rfl, hall⟩
    refine wpAny_bind (hi v (hall v List.mem_cons_self) _ ?_)
    simp only [Bool.not_true, Bool.false_eq_true, if_false]
    exact wpAny_pure ⟨rfl, rfl, fun u hu' => hall u (List.mem_cons_of_mem _ hu')⟩
  · rintro ⟨r1, r2⟩ s' ⟨hr, rfl, _⟩
    simp only at hr
    subst hr
    exact wpAny_pure h
theorem quiet_tup2 {kss : List (List Int)} {a : Addr} {Q : Bool → Shared → Prop} (hk : Is2 P w s.heap kss a) (h : Q true s) : wpAny (model P w) A (eqIsQuiet 8 (.ref a)) Q E s := by
  obtain ⟨o, items, n, ho, hc, hd, hi⟩ := hk
  refine quiet_any ho hc hd (fun v hv R hR => ?_) h
  have : ∃ ks, TupI P w s.heap ks v := by
    clear hd
    generalize items.toList = vs at hi hv
    induction hi with
    | nil => exact nomatch hv
    | cons r t ih =>
      rcases List.mem_cons.mp hv with rfl | hv
      · exact ⟨_, r⟩
      · exact ih hv
  obtain ⟨ks, b, rfl, o', items', n', ho', hc', hd', hi'⟩ := this
  refine quiet_any ho' hc' hd' (fun v hv R hR => ?_) hR
  rw [eqIsQuiet_byValue _ (hi'.byValue v hv)]
  exact wpAny_pure hR
end
def t2Kind (P : Program) (w : World) : HeapKind P w (List (List Int)) where
  is := Is2 P w
  hash := hash2 P w
  draws := fun kss => draws2 kss + 1
  room := fun A => A.units + 1 < cLine
  inj := fun hx hy => hx.inj hy
  keeps := fun x ho hd hs => x.keeps ho hd hs
  pyHash := fun hu hk h => hash_tup2 hu hk h
  eqBool := fun hu hx hy h => eq_tup2 hu hx hy h
  quiet := fun hk h => quiet_tup2 hk h
end L2
namespace L2
open PySem PySem.Spec PyProof.Rows PySem.SeqAt
abbrev E2 := List (List Int) × Addr × Int
def R3 (p : E2) (q : List (List Int) × Addr × Value) : Prop := p.1 = q.1 ∧ p.2.1 = q.2.1 ∧ ∃ t, q.2.2 = Value.int p.2.2 t
def D2O (P : Program) (w : World) (d : Addr) (xs : List E2) : HO := .ext fun h => xs.length ≤ sizeLine ∧ (d == sysModules) = false ∧ ∃ ys, Paired R3 xs ys ∧ ∃ o es ep, h.get? d = some o ∧ o.ExactDict ∧ o.data = .dict es ep ∧ es.toList = ys.map (entryOfKey (t2Kind P w)) ∧ (ys.map (·.1)).Nodup
def T2 (H : Hp) (a : Addr) (kss : List (List Int)) : Prop := ∃ bs : List Addr, H a = some (.tup (bs.map V.ref)) ∧ Paired (fun b (ks : List Int) => H b = some (.tup (ks.map V.int))) bs kss
def Keys2 (H : Hp) (xs : List E2) : Prop := ∀ x ∈ xs, T2 H x.2.1 x.1
def val2 (xs : List E2) (k : List (List Int)) : Option Int := (xs.find? fun x => decide (x.1 = k)).map (·.2.2)
theorem T2.keep {H H' : Hp} {a : Addr} {kss : List (List Int)} (h : T2 H a kss) (k : ∀ b xs, H b = some (.tup xs) → H' b = some (.tup xs)) : T2 H' a kss := by
  obtain ⟨bs, h1, h2⟩ := h
  exact ⟨bs, k _ _ h1, Paired.imp' (fun _ _ z => k _ _ z) h2⟩
theorem val2_at : ∀ {xs : List E2} {ys : List (List (List Int) × Addr × Value)} (k : List (List Int)), Paired R3 xs ys → (atKey ys k = none ∧ val2 xs k = none) ∨ ∃ p v t, atKey ys k = some (p, .int v t) ∧ val2 xs k = some v
  | _, _, k, .nil => .inl ⟨rfl, rfl⟩
  | _, _, k, .cons (a := x) (b := y) r t => by
    obtain ⟨e1, e2, t', e3⟩ := r
    by_cases e : x.1 = k
    · refine .inr ⟨y.2.1, x.2.2, t', ?_, ?_⟩
      · unfold atKey
        rw [List.find?_cons_of_pos (by rw [← e1]; exact decide_eq_true e)]
        rw [← e3]
        rfl
      · unfold val2
        rw [List.find?_cons_of_pos (by exact decide_eq_true e)]
        rfl
    · rename_i ls ms
      have h1 : atKey (y :: ms) k = atKey ms k := by unfold atKey; rw [List.find?_cons_of_neg (by rw [← e1, decide_eq_true_eq]; exact e)]
      have h2 : val2 (x :: ls) k = val2 ls k := by unfold val2; rw [List.find?_cons_of_neg (by rw [decide_eq_true_eq]; exact e)]
      rw [h1, h2]
      exact val2_at k t
section
variable {X : Cx} {pins : List (Addr × Obj)} {σ : St} {H : Hp} {s : Shared}
theorem items_ints {P : Program} {w : World} : ∀ {ks : List Int} {its : List Value}, Vals (ks.map V.int) its → ItemsAre (intKind P w) ks its
  | [], _, r => by cases r; exact .nil
  | k :: ks, _, r => by
    cases r with
    | cons x y =>
      obtain ⟨t, rfl⟩ := x
      exact .cons (intKind_is _ _ _ _) (items_ints y)
theorem tup_key (I : Inv X pins σ H s) {b : Addr} {ks : List Int} (h : H b = some (.tup (ks.map V.int))) : IsTupleKey (intKind X.prog X.w) s.heap ks b := by
  obtain ⟨_, its, r, o, h1, h2, n, h3⟩ := (show ObjOk X.prog X.w H s.heap b (.tup (ks.map V.int)) from I.hok b _ h)
  refine ⟨o, its.toArray, n, h1, h2, h3, ?_⟩
  rw [List.toList_toArray]
  exact items_ints r
theorem items_tups (I : Inv X pins σ H s) : ∀ {bs : List Addr} {kss : List (List Int)} {its : List Value}, Paired (fun b (ks : List Int) => H b = some (.tup (ks.map V.int))) bs kss → Vals (bs.map V.ref) its → Paired (fun ks v => TupI X.prog X.w s.heap ks v) kss its
  | _, _, _, .nil, r => by cases r; exact .nil
  | _, _, _, .cons x y, r => by
    cases r with
    | cons rx ry =>
      have rx' : _ = Value.ref _ := rx
      exact .cons ⟨_, rx', tup_key I x⟩ (items_tups I y ry)
theorem tup2_key (I : Inv X pins σ H s) {a : Addr} {kss : List (List Int)} (h : T2 H a kss) : Is2 X.prog X.w s.heap kss a := by
  obtain ⟨bs, h1, h2⟩ := h
  obtain ⟨_, its, r, o, e1, e2, n, e3⟩ := (show ObjOk X.prog X.w H s.heap a (.tup (bs.map V.ref)) from I.hok a _ h1)
  refine ⟨o, its.toArray, n, e1, e2, e3, ?_⟩
  rw [List.toList_toArray]
  exact items_tups I h2 r
theorem keys_all (I : Inv X pins σ H s) : ∀ {xs : List E2} {ys : List (List (List Int) × Addr × Value)}, Paired R3 xs ys → Keys2 H xs → ∀ y ∈ ys, Is2 X.prog X.w s.heap y.1 y.2.1
  | _, _, .nil, _, y, hy => nomatch hy
  | _, _, .cons h1 t, hk, y, hy => by
    rcases List.mem_cons.mp hy with rfl | hy
    · obtain ⟨a1, a2, _⟩ := h1
      rw [← a1, ← a2]
      exact tup2_key I (hk _ (List.mem_cons_self ..))
    · exact keys_all I t (fun z hz => hk z (List.mem_cons_of_mem _ hz)) y hy
theorem d2_of (I : Inv X pins σ H s) {d : Addr} {xs : List E2} (h : H d = some (D2O X.prog X.w d xs)) (hk : Keys2 H xs) : xs.length ≤ sizeLine ∧ (d == sysModules) = false ∧ ∃ ys, Paired R3 xs ys ∧ s.heap.DictOfH (t2Kind X.prog X.w) d ys := by
  obtain ⟨z, hd, ys, r, o, es, ep, e1, e2, e3, e4, e5⟩ := (show ObjOk X.prog X.w H s.heap d (D2O X.prog X.w d xs) from I.hok d _ h).1
  exact ⟨z, hd, ys, r, o, es, ep, e1, e2, e3, e4, keys_all I r hk, e5⟩
def rIn2 (P : Program) (w : World) : R2 := fun x y H Q => ∃ (b d : Addr) (kss : List (List Int)) (xs : List E2), x = .ref b ∧ y = .ref d ∧ T2 H b kss ∧ H d = some (D2O P w d xs) ∧ Keys2 H xs ∧ Q (.bl (val2 xs kss).isSome) H
theorem op_in2 (P : Program) (w : World) (hu : X.A.units + 64 < cLine) (hp : X.prog = P := by rfl) (hw : X.w = w := by rfl) : OpR X (compareOp .In) (rIn2 P w) := by
  subst hp hw
  intro pins s σ H x y v u Q I rx ry h
  obtain ⟨b, d, kss, xs, rfl, rfl, h1, h2, h3, q⟩ := h
  cases rx; cases ry
  obtain ⟨z, hd, ys, r, dd⟩ := d2_of I h2 h3
  refine wpAny_in_heap (knd := t2Kind X.prog X.w) (k := kss) (show X.A.units + 1 + 1 < cLine by omega) (tup2_key I h1) hd dd ?_
  have e : (atKey ys kss).isSome = (val2 xs kss).isSome := by
    rcases val2_at kss r with ⟨e1, e2⟩ | ⟨p, v, t, e1, e2⟩ <;> rw [e1, e2] <;> rfl
  rw [e]
  exact ⟨.bl _, H, I.tok _, rfl, q⟩
def tGet2 (P : Program) (w : World) (to ti : TE) : TE := fun σ H Q => to σ H fun x H1 => ti σ H1 fun y H2 => ∃ (d b : Addr) (kss : List (List Int)) (xs : List E2) (v : Int), x = .ref d ∧ y = .ref b ∧ T2 H2 b kss ∧ H2 d = some (D2O P w d xs) ∧ Keys2 H2 xs ∧ val2 xs kss = some v ∧ Q (.int v) H2
theorem pe_get2 {o i : Expr} {to ti : TE} {pos : Pos} (P : Program) (w : World) (hu : X.A.units + 64 < cLine) (ho : PE X o to) (hi : PE X i ti) (hs : NoSl i) (hp : X.prog = P := by rfl) (hw : X.w = w := by rfl) : PE X (.Subscript o i pos) (tGet2 P w to ti) := by
  subst hp hw
  intro pins s σ H Q I h
  refine subD_of PySem.F.slot_dict_getitem.lookup hs (thn (ho pins s σ H _ I h) fun u s1 ⟨x, H1, I1, rx, q1⟩ => thn (hi pins s1 σ H1 _ I1 q1) fun iv s2 ⟨y, H2, I2, ry, d, b, kss, xs, v, ex, ey, h1, h2, h3, h4, q2⟩ => ?_)
  subst ex ey
  obtain rfl : u = Value.ref d := rx
  obtain rfl : iv = Value.ref b := ry
  obtain ⟨z, hd, ys, r, dd⟩ := d2_of I2 h2 h3
  refine ⟨dd.typeIs, ?_⟩
  rcases val2_at kss r with ⟨e1, e2⟩ | ⟨p, v', t, e1, e2⟩
  · rw [h4] at e2; cases e2
  · rw [h4] at e2; cases e2
    exact wpAny_getItem_heap (knd := t2Kind X.prog X.w) (k := kss) (show X.A.units + 1 + 1 < cLine by omega) (tup2_key I2 h1) dd e1 ⟨.int v, H2, I2.tok _, ⟨t, rfl⟩, q2⟩
def rSet2 (P : Program) (w : World) : TSet := fun o i v H Q => ∃ (d b : Addr) (kss : List (List Int)) (xs : List E2) (n : Int), o = .ref d ∧ i = .ref b ∧ v = .int n ∧ T2 H b kss ∧ H d = some (D2O P w d xs) ∧ Keys2 H xs ∧ val2 xs kss = none ∧ xs.length < sizeLine ∧ Q (upd H d (D2O P w d (xs ++ [(kss, b, n)])))
theorem set_2 (P : Program) (w : World) (hu : X.A.units + 64 < cLine) (hp : X.prog = P := by rfl) (hw : X.w = w := by rfl) : PSet X (rSet2 P w) := by
  subst hp hw
  intro pins s σ H o i v ov iv u Q I ro ri rv h
  obtain ⟨d, b, kss, xs, n, rfl, rfl, rfl, h1, h2, h3, h4, hl, q⟩ := h
  cases ro; cases ri
  obtain ⟨t, rfl⟩ := rv
  obtain ⟨z, hd, ys, r, dd⟩ := d2_of I h2 h3
  have hy : atKey ys kss = none := by
    rcases val2_at kss r with ⟨e1, e2⟩ | ⟨p, v', t, e1, e2⟩
    · exact e1
    · rw [h4] at e2; cases e2
  have yl : ys.length = xs.length := (Paired.length r).symm
  refine wpAny_setItem_heap (knd := t2Kind X.prog X.w) (k := kss) (show X.A.units + 1 + 1 < cLine by omega) (tup2_key I h1) dd (fun h' dd' hs => ⟨_, ?_, q⟩) (by omega)
  rw [storedH_new hy] at dd'
  obtain ⟨o, es, ep, e1, e2, e3, e4, e5, e6⟩ := dd'
  have r' : Paired R3 (xs ++ [(kss, b, n)]) (ys ++ [(kss, b, Value.int n t)]) := Paired.snoc r ⟨rfl, rfl, t, rfl⟩
  exact d_write I (by rw [h2]; exact True.intro) hs ⟨o, e1⟩ ⟨⟨by rw [List.length_append]; exact hl, hd, _, r', o, es, ep, e1, e2, e3, e4, e6⟩, ⟨o, e1⟩, fun h1' h2' hφ hk => by
    obtain ⟨a1, a2, ys', a3, o', es', ep', b1, b2⟩ := hφ
    exact ⟨a1, a2, ys', a3, o', es', ep', hk _ b1, b2⟩⟩
def tNew2 (P : Program) (w : World) : TE := fun _ H Q => ∀ p, H p = none → Q (.ref p) (upd H p (D2O P w p []))
theorem pe_new2 {pos : Pos} (P : Program) (w : World) (hp : X.prog = P := by rfl) (hw : X.w = w := by rfl) : PE X (.Dict [] [] pos) (tNew2 P w) := by
  subst hp hw
  intro pins s σ H Q I h
  refine wpAny_Dict_empty ⟨.ref s.heap.objs.size, _, I.laid (a := s.heap.objs.size) (o := D2O X.prog X.w s.heap.objs.size []) (t' := s.toks) (fun _ _ q => Heap.get?_push_of_some _ q) (Nat.le_refl _) ?_, rfl, h _ (I.hok.fresh (Nat.le_refl _))⟩
  have e : (s.heap.push { cls := .type "dict", data := .dict #[] }).get? s.heap.objs.size = some { cls := .type "dict", data := .dict #[] } := Heap.get?_push_size _ rfl
  exact ⟨⟨Nat.zero_le _, beq_eq_false_iff_ne.mpr (Ne.symm (Nat.ne_of_lt I.big)), [], .nil, _, #[], 0, e, ⟨rfl, rfl, rfl⟩, rfl, rfl, List.nodup_nil⟩, ⟨_, e⟩, fun h1' h2' hφ hk => by
    obtain ⟨a1, a2, ys', a3, o', es', ep', b1, b2⟩ := hφ
    exact ⟨a1, a2, ys', a3, o', es', ep', hk _ b1, b2⟩⟩
end
end L2
namespace L2
open PySem PyProof.Rows
abbrev Tr (h : Heap) (T : Addr) (a b c : Value) : Prop := h.get? T = some { cls := .type "tuple", data := .seq #[a, b, c] }
structure Apart3 (z TI TO i1 i2 i3 : Addr) (l1 l2 l3 : Addr) : Prop where
  nd : ([z, TI, TO, i1, i2, i3] : List Addr).Nodup
  n1 : l1 ∉ ([z, TO, i1, i2, i3] : List Addr)
  n2 : l2 ∉ ([z, TO, i1, i2, i3] : List Addr)
  n3 : l3 ∉ ([z, TO, i1, i2, i3] : List Addr)
section
variable {P : Program} {w : World} {A : Around} {E : Value → Shared → Prop} {s : Shared}
theorem upd_tr {T : Addr} {a b c x : Value} {k : Nat} {Q : Unit → Shared → Prop} (hT : Tr s.heap T a b c)
    (h : ∀ h', h'.get? T = some { cls := .type "tuple", data := .seq ((#[a, b, c] : Array Value).setIfInBounds k x) } → Heap.SameBut T s.heap h' → Q () { s with heap := h' }) :
    wpAny (model P w) A (updateSeq T (·.setIfInBounds k x)) Q E s := by
  refine wpAny_updateSeq hT rfl (h _ ?_ (Heap.SameBut.update ..))
  rw [Heap.get?_update_self _ hT rfl]
  simp [Obj.mapSeq]
theorem next3_item {z TI TO i1 i2 i3 l1 l2 l3 : Addr} {k : Nat} {xs ys zs : Array Value} {x y v a b c : Value} {Q : Value → Shared → Prop} (D : Apart3 z TI TO i1 i2 i3 l1 l2 l3)
    (hz : IsZip s.heap z TI TO .none) (hTI : Tr s.heap TI (.ref i1) (.ref i2) (.ref i3)) (hTO : Tr s.heap TO a b c)
    (h1 : s.heap.IsListIter i1 l1 k) (h2 : s.heap.IsListIter i2 l2 k) (h3 : s.heap.IsListIter i3 l3 k) (hl1 : s.heap.IsList l1 xs) (hl2 : s.heap.IsList l2 ys) (hl3 : s.heap.IsList l3 zs) (hx : xs[k]? = some x) (hy : ys[k]? = some y) (hv : zs[k]? = some v)
    (hQ : ∀ h', IsZip h' z TI TO (rawInt s.heap.objs.size) → Tr h' TO x y v → h'.IsListIter i1 l1 (k + 1) → h'.IsListIter i2 l2 (k + 1) → h'.IsListIter i3 l3 (k + 1) → Tr h' s.heap.objs.size x y v → h'.objs.size = s.heap.objs.size + 1 →
      (∀ c o, c ∉ ([z, TO, i1, i2, i3] : List Addr) → s.heap.get? c = some o → h'.get? c = some o) → Q (.ref s.heap.objs.size) { s with heap := h' }) :
    wpAny (model P w) A (Builtin.«zip.__next__» ⟨[.ref z], []⟩) (fun fin s' => ∃ v, fin = .done (.ret v) ∧ Q v s') E s := by
  obtain ⟨nd, n1, n2, n3⟩ := D
  simp only [List.nodup_cons, List.mem_cons, List.not_mem_nil, or_false, not_or, List.nodup_nil, and_true, not_false_eq_true] at nd n1 n2 n3
  obtain ⟨⟨zTI, zTO, z1, z2, z3⟩, ⟨TITO, TI1, TI2, TI3⟩, ⟨TO1, TO2, TO3⟩, ⟨e12, e13⟩, e23⟩ := nd
  refine wpAny_bind (m := field (.ref z) 2) (wpAny_field hz rfl (x := .bool false) rfl ?_)
  refine wpAny_bind (m := field (.ref z) 3) (wpAny_field hz rfl (x := .ref TI) rfl ?_)
  refine wpAny_bind (wpAny_seqItems hTI rfl ?_)
  refine wpAny_bind (m := Builtin.SmallTypes.ownedTupleIsFree (.ref z)) ?_
  unfold Builtin.SmallTypes.ownedTupleIsFree
  refine wpAny_bind (wpAny_field hz rfl (x := .none) rfl (wpAny_pure ?_))
  simp only [if_true]
  refine wpAny_bind (wpAny_rule ?_)
  refine wpAny_bind (wpAny_field hz rfl (x := .ref TO) rfl ?_)
  refine wpAny_bind (wpAny_setField_rec hz (by simp) fun g1 hz1 s1 => ?_)
  have hz1 : IsZip g1 z TI TO .ellipsis := hz1
  refine wpAny_bind ?_
  simp only [List.zipIdx_cons, List.zipIdx_nil, List.forIn_cons, List.forIn_nil]
  refine wpAny_bind (wpAny_bind (wpAny_onRaise ?_))
  refine wpAny_bind (m := Builtin.SmallTypes.nextOf (.ref i1)) (wpAny_nextOf_list_item (h1.extBut s1.extBut (Ne.symm z1)) (hl1.extBut s1.extBut n1.1) hx fun g2 q1 s2 => wpAny_pure ?_)
  have t2 : Tr g2 TO a b c := s2.extBut _ _ TO1 (s1.extBut _ _ (Ne.symm zTO) hTO)
  refine wpAny_bind (wpAny_seqItems t2 rfl ?_)
  refine wpAny_bind (upd_tr t2 fun g3 t3 s3 => ?_)
  have t3 : Tr g3 TO x b c := t3
  refine wpAny_bind (wpAny_letGo (wpAny_pure ?_))
  refine wpAny_bind (wpAny_bind (wpAny_onRaise ?_))
  refine wpAny_bind (m := Builtin.SmallTypes.nextOf (.ref i2)) (wpAny_nextOf_list_item (((h2.extBut s1.extBut (Ne.symm z2)).extBut s2.extBut (Ne.symm e12)).extBut s3.extBut (Ne.symm TO2)) (((hl2.extBut s1.extBut n2.1).extBut s2.extBut n2.2.2.1).extBut s3.extBut n2.2.1) hy fun g4 q2 s4 => wpAny_pure ?_)
  have t4 : Tr g4 TO x b c := s4.extBut _ _ TO2 t3
  refine wpAny_bind (wpAny_seqItems t4 rfl ?_)
  refine wpAny_bind (upd_tr t4 fun g5 t5 s5 => ?_)
  have t5 : Tr g5 TO x y c := t5
  refine wpAny_bind (wpAny_letGo (wpAny_pure ?_))
  refine wpAny_bind (wpAny_bind (wpAny_onRaise ?_))
  refine wpAny_bind (m := Builtin.SmallTypes.nextOf (.ref i3)) (wpAny_nextOf_list_item (((((h3.extBut s1.extBut (Ne.symm z3)).extBut s2.extBut (Ne.symm e13)).extBut s3.extBut (Ne.symm TO3)).extBut s4.extBut (Ne.symm e23)).extBut s5.extBut (Ne.symm TO3)) (((((hl3.extBut s1.extBut n3.1).extBut s2.extBut n3.2.2.1).extBut s3.extBut n3.2.1).extBut s4.extBut n3.2.2.2.1).extBut s5.extBut n3.2.1) hv fun g6 q3 s6 => wpAny_pure ?_)
  have t6 : Tr g6 TO x y c := s6.extBut _ _ TO3 t5
  refine wpAny_bind (wpAny_seqItems t6 rfl ?_)
  refine wpAny_bind (upd_tr t6 fun g7 t7 s7 => ?_)
  have t7 : Tr g7 TO x y v := t7
  refine wpAny_bind (wpAny_letGo (wpAny_pure (wpAny_pure ?_)))
  refine wpAny_bind (wpAny_seqItems t7 rfl ?_)
  refine wpAny_bind (wpAny_newTuple ?_)
  have hsz : g7.objs.size = s.heap.objs.size := by rw [s7.1, s6.1, s5.1, s4.1, s3.1, s2.1, s1.1]
  have z7 : IsZip g7 z TI TO .ellipsis := s7.extBut _ _ zTO (s6.extBut _ _ z3 (s5.extBut _ _ zTO (s4.extBut _ _ z2 (s3.extBut _ _ zTO (s2.extBut _ _ z1 hz1)))))
  have kp : ∀ c o, c ∉ ([z, TO, i1, i2, i3] : List Addr) → s.heap.get? c = some o → g7.get? c = some o := fun c o hc e => by
    simp only [List.mem_cons, List.not_mem_nil, or_false, not_or] at hc
    obtain ⟨c1, c2, c3, c4, c5⟩ := hc
    exact s7.extBut _ _ c2 (s6.extBut _ _ c5 (s5.extBut _ _ c2 (s4.extBut _ _ c4 (s3.extBut _ _ c2 (s2.extBut _ _ c3 (s1.extBut _ _ c1 e))))))
  have r1 : g7.IsListIter i1 l1 (k + 1) := ((((q1.extBut s3.extBut (Ne.symm TO1)).extBut s4.extBut e12).extBut s5.extBut (Ne.symm TO1)).extBut s6.extBut e13).extBut s7.extBut (Ne.symm TO1)
  have r2 : g7.IsListIter i2 l2 (k + 1) := ((q2.extBut s5.extBut (Ne.symm TO2)).extBut s6.extBut e23).extBut s7.extBut (Ne.symm TO2)
  have r3 : g7.IsListIter i3 l3 (k + 1) := q3.extBut s7.extBut (Ne.symm TO3)
  have zlt : z < g7.objs.size := Heap.lt_size z7
  refine wpAny_bind (m := Builtin.SmallTypes.ownedTupleHandOut (.ref z) (.ref g7.objs.size)) ?_
  unfold Builtin.SmallTypes.ownedTupleHandOut
  have z8 : IsZip (g7.push { cls := .type "tuple", data := .seq #[x, y, v] }) z TI TO .ellipsis := Heap.get?_push_of_some _ z7
  refine wpAny_bind (wpAny_setField_rec z8 (by simp) fun g8 z9 s8 => ?_)
  have z9 : IsZip g8 z TI TO (rawInt g7.objs.size) := z9
  refine wpAny_setField_rec z9 (by simp) fun g9 za s9 => ?_
  have za : IsZip g9 z TI TO (rawInt g7.objs.size) := za
  have up : ∀ c o, c ≠ z → g7.get? c = some o → g9.get? c = some o := fun c o c1 e => s9.extBut _ _ c1 (s8.extBut _ _ c1 (Heap.get?_push_of_some _ e))
  have tn : Tr g9 g7.objs.size x y v := s9.extBut _ _ (Nat.ne_of_gt zlt) (s8.extBut _ _ (Nat.ne_of_gt zlt) (Heap.get?_push_size _ rfl))
  have sz9 : g9.objs.size = g7.objs.size + 1 := by rw [s9.1, s8.1, Heap.size_push]
  rw [hsz] at za tn sz9
  refine wpAny_pure ⟨_, rfl, ?_⟩
  show Q (.ref g7.objs.size) _
  rw [hsz]
  refine hQ g9 za (up _ _ (Ne.symm zTO) t7) (r1.at fun o e => up _ o (Ne.symm z1) e) (r2.at fun o e => up _ o (Ne.symm z2) e) (r3.at fun o e => up _ o (Ne.symm z3) e) tn sz9 fun c o hc e => up c o (fun q => hc (by rw [q]; simp)) (kp c o hc e)
theorem next3_end {z TI TO i1 i2 i3 l1 l2 l3 : Addr} {k : Nat} {xs : Array Value} {Q : PySem.Fin → Shared → Prop} (hh : A.handled = none) (D : Apart3 z TI TO i1 i2 i3 l1 l2 l3)
    (hz : IsZip s.heap z TI TO .none) (hTI : Tr s.heap TI (.ref i1) (.ref i2) (.ref i3)) (h1 : s.heap.IsListIter i1 l1 k) (hl1 : s.heap.IsList l1 xs) (hx : xs[k]? = none)
    (hE : ∀ h' e, (∀ c o, c ∉ ([z, TO, i1, i2, i3] : List Addr) → s.heap.get? c = some o → h'.get? c = some o) → (∃ o, h'.get? e = some o ∧ o.cls = .type "StopIteration") → E (.ref e) { s with heap := h' }) :
    wpAny (model P w) A (Builtin.«zip.__next__» ⟨[.ref z], []⟩) Q E s := by
  obtain ⟨nd, n1, n2, n3⟩ := D
  simp only [List.nodup_cons, List.mem_cons, List.not_mem_nil, or_false, not_or, List.nodup_nil, and_true, not_false_eq_true] at nd n1 n2 n3
  obtain ⟨⟨zTI, zTO, z1, z2, z3⟩, _⟩ := nd
  refine wpAny_bind (m := field (.ref z) 2) (wpAny_field hz rfl (x := .bool false) rfl ?_)
  refine wpAny_bind (m := field (.ref z) 3) (wpAny_field hz rfl (x := .ref TI) rfl ?_)
  refine wpAny_bind (wpAny_seqItems hTI rfl ?_)
  refine wpAny_bind (m := Builtin.SmallTypes.ownedTupleIsFree (.ref z)) ?_
  unfold Builtin.SmallTypes.ownedTupleIsFree
  refine wpAny_bind (wpAny_field hz rfl (x := .none) rfl (wpAny_pure ?_))
  simp only [if_true]
  refine wpAny_bind (wpAny_rule ?_)
  refine wpAny_bind (wpAny_field hz rfl (x := .ref TO) rfl ?_)
  refine wpAny_bind (wpAny_setField_rec hz (by simp) fun g1 hz1 s1 => ?_)
  have hz1 : IsZip g1 z TI TO .ellipsis := hz1
  refine wpAny_bind ?_
  simp only [List.zipIdx_cons, List.zipIdx_nil, List.forIn_cons, List.forIn_nil]
  refine wpAny_bind (wpAny_bind (wpAny_onRaise ?_))
  refine wpAny_bind (m := Builtin.SmallTypes.nextOf (.ref i1)) (wpAny_nextOf_list_end hh (h1.extBut s1.extBut (Ne.symm z1)) (hl1.extBut s1.extBut n1.1) hx fun g2 e s2 he => ?_)
  obtain ⟨oe, hoe, hce⟩ := he
  have z2' : IsZip g2 z TI TO .ellipsis := s2 _ _ z1 hz1
  have ez : e ≠ z := fun x => by subst x; rw [z2'] at hoe; cases hoe; simp at hce
  refine wpAny_setField_rec z2' (by simp) fun g3 _ s3 => hE g3 e (fun c o hc x => ?_) ⟨oe, s3.extBut _ _ ez hoe, hce⟩
  simp only [List.mem_cons, List.not_mem_nil, or_false, not_or] at hc
  exact s3.extBut _ _ hc.1 (s2 _ _ hc.2.2.1 (s1.extBut _ _ hc.1 x))
theorem pyNext3_item {z TI TO i1 i2 i3 l1 l2 l3 : Addr} {k : Nat} {xs ys zs : Array Value} {x y v a b c : Value} {Q : Option Value → Shared → Prop} (D : Apart3 z TI TO i1 i2 i3 l1 l2 l3)
    (hz : IsZip s.heap z TI TO .none) (hTI : Tr s.heap TI (.ref i1) (.ref i2) (.ref i3)) (hTO : Tr s.heap TO a b c)
    (h1 : s.heap.IsListIter i1 l1 k) (h2 : s.heap.IsListIter i2 l2 k) (h3 : s.heap.IsListIter i3 l3 k) (hl1 : s.heap.IsList l1 xs) (hl2 : s.heap.IsList l2 ys) (hl3 : s.heap.IsList l3 zs) (hx : xs[k]? = some x) (hy : ys[k]? = some y) (hv : zs[k]? = some v)
    (hQ : ∀ h', IsZip h' z TI TO (rawInt s.heap.objs.size) → Tr h' TO x y v → h'.IsListIter i1 l1 (k + 1) → h'.IsListIter i2 l2 (k + 1) → h'.IsListIter i3 l3 (k + 1) → Tr h' s.heap.objs.size x y v → h'.objs.size = s.heap.objs.size + 1 →
      (∀ c o, c ∉ ([z, TO, i1, i2, i3] : List Addr) → s.heap.get? c = some o → h'.get? c = some o) → Q (some (.ref s.heap.objs.size)) { s with heap := h' }) :
    wpAny (model P w) A (pyNext (.ref z)) Q E s := by
  have hT : s.TypeIs (.ref z) "zip" := ⟨_, hz, rfl⟩
  unfold pyNext
  exact wpAny_bind (wpAny_attempt (wpAny_callSpecial?_slot (name := Str.ofString "__next__") hT F.slot_zip_next (wpAny_call_entry F.slot_zip_next hT F.entry_zip_next
    (next3_item D hz hTI hTO h1 h2 h3 hl1 hl2 hl3 hx hy hv fun h' a1 a2 a3 a4 a5 a6 a7 a8 => wpAny_pure (hQ h' a1 a2 a3 a4 a5 a6 a7 a8)) (F.args_zip_next_1 _))))
theorem pyNext3_end {z TI TO i1 i2 i3 l1 l2 l3 : Addr} {k : Nat} {xs : Array Value} {Q : Option Value → Shared → Prop} (hh : A.handled = none) (D : Apart3 z TI TO i1 i2 i3 l1 l2 l3)
    (hz : IsZip s.heap z TI TO .none) (hTI : Tr s.heap TI (.ref i1) (.ref i2) (.ref i3)) (h1 : s.heap.IsListIter i1 l1 k) (hl1 : s.heap.IsList l1 xs) (hx : xs[k]? = none)
    (hQ : ∀ h', (∀ c o, c ∉ ([z, TO, i1, i2, i3] : List Addr) → s.heap.get? c = some o → h'.get? c = some o) → Q none { s with heap := h' }) : wpAny (model P w) A (pyNext (.ref z)) Q E s := by
  have hT : s.TypeIs (.ref z) "zip" := ⟨_, hz, rfl⟩
  unfold pyNext
  refine wpAny_bind (wpAny_attempt (wpAny_callSpecial?_slot (name := Str.ofString "__next__") hT F.slot_zip_next (wpAny_call_entry F.slot_zip_next hT F.entry_zip_next
    (next3_end hh D hz hTI h1 hl1 hx fun h' e hk he => ?_) (F.args_zip_next_1 _))))
  obtain ⟨o, ho, hc⟩ := he
  refine wpAny_bind (wpAny_isInstance (T := "StopIteration") (b := true) ⟨o, ho, hc⟩ isSubtype_stop ?_)
  exact wpAny_pure (hQ _ hk)
end
theorem typeCall3 (a b c : Value) : checkTypeCall "zip" ⟨[a, b, c], []⟩ = pure () := by kernel_rfl
theorem newCall3 (a b c : Value) : checkBuiltinCall "zip.__new__" ⟨[.type "zip", a, b, c], []⟩ = pure () := by kernel_rfl
theorem objInit4 (a b c d : Value) : argsOk "object.__init__" ⟨[a, b, c, d], []⟩ := by
  unfold argsOk; rw [signature?_of (id := "object.__init__") (n := ['_', '_', 't', 'i', 'n', 'i', '_', '_']) (o := ['t', 'c', 'e', 'j', 'b', 'o']) (by kernel_rfl) F.owner_object]; kernel_rfl
abbrev zl (l : Addr) : Obj := { cls := .type "list_iterator", data := .fields #[.ref l, .int 0 0] }
abbrev Z3 (h : Heap) (l1 l2 l3 : Addr) : Heap := ((h.push (zl l1)).push (zl l2)).push (zl l3)
abbrev Z4 (h : Heap) (l1 l2 l3 : Addr) : Heap := (Z3 h l1 l2 l3).push { cls := .type "tuple", data := .seq #[.ref h.objs.size, .ref (h.push (zl l1)).objs.size, .ref ((h.push (zl l1)).push (zl l2)).objs.size] }
abbrev Z5 (h : Heap) (l1 l2 l3 : Addr) : Heap := (Z4 h l1 l2 l3).push { cls := .type "tuple", data := .seq #[.none, .none, .none] }
abbrev Z6 (h : Heap) (l1 l2 l3 : Addr) : Heap := (Z5 h l1 l2 l3).push { cls := .type "zip", data := .fields #[.none, .bool false, .bool false, .ref (Z3 h l1 l2 l3).objs.size, .ref (Z4 h l1 l2 l3).objs.size] }
theorem meets_zip3 (l1 l2 l3 : Addr) (xs ys zs : Array Value) :
    Meets (Builtin.«zip.__new__» ⟨[.type "zip", .ref l1, .ref l2, .ref l3], []⟩) (fun _ R s => s.heap.IsList l1 xs ∧ s.heap.IsList l2 ys ∧ s.heap.IsList l3 zs ∧
      R (.ok (.ret (.ref (Z5 s.heap l1 l2 l3).objs.size))) { s with heap := Z6 s.heap l1 l2 l3 }) :=
  .of_wp fun prog w A R s h => by
    obtain ⟨hp, g, d, tk, os⟩ := s; obtain ⟨hl1, hl2, hl3, h⟩ := h
    have hsub := sub_zip
    have hL1 : Heap.IsList (Shared.heap ⟨hp, g, d, tk, os⟩) l1 xs := hl1
    have hL2 : Heap.IsList (Shared.heap ⟨hp.push (zl l1), g, d, tk, os⟩) l2 ys := Heap.IsList.push hl2 _
    have hL3 : Heap.IsList (Shared.heap ⟨(hp.push (zl l1)).push (zl l2), g, d, tk, os⟩) l3 zs := Heap.IsList.push (Heap.IsList.push hl3 _) _
    wp_walk using wpAny_pyIter_list hL1, wpAny_pyIter_list hL2, wpAny_pyIter_list hL3
    exact ⟨_, rfl, h⟩
section
variable {P : Program} {w : World} {A : Around} {E : Value → Shared → Prop} {s : Shared}
theorem call_zip3 {l1 l2 l3 : Addr} {xs ys zs : Array Value} {Q : Value → Shared → Prop} (hl1 : s.heap.IsList l1 xs) (hl2 : s.heap.IsList l2 ys) (hl3 : s.heap.IsList l3 zs)
    (h : ∀ h', IsZip h' (s.heap.objs.size + 5) (s.heap.objs.size + 3) (s.heap.objs.size + 4) .none → Tr h' (s.heap.objs.size + 3) (.ref s.heap.objs.size) (.ref (s.heap.objs.size + 1)) (.ref (s.heap.objs.size + 2)) →
      Tr h' (s.heap.objs.size + 4) .none .none .none → h'.IsListIter s.heap.objs.size l1 0 → h'.IsListIter (s.heap.objs.size + 1) l2 0 → h'.IsListIter (s.heap.objs.size + 2) l3 0 →
      (∀ c o, s.heap.get? c = some o → h'.get? c = some o) → Q (.ref (s.heap.objs.size + 5)) { s with heap := h' }) :
    wpAny (model P w) A (call (.type "zip") [.ref l1, .ref l2, .ref l3]) Q E s := by
  refine callType_new F.called_zip (by decide) (typeCall3 _ _ _) (newCall3 _ _ _) (fun obj => objInit4 obj _ _ _) F.entry_zip_new (meets_zip3 l1 l2 l3 xs ys zs) ⟨hl1, hl2, hl3, ?_⟩
  have z1 : (s.heap.push (zl l1)).objs.size = s.heap.objs.size + 1 := Heap.size_push ..
  have z2 : ((s.heap.push (zl l1)).push (zl l2)).objs.size = s.heap.objs.size + 2 := by rw [Heap.size_push, z1]
  have z3 : (Z3 s.heap l1 l2 l3).objs.size = s.heap.objs.size + 3 := by rw [Heap.size_push, z2]
  have z4 : (Z4 s.heap l1 l2 l3).objs.size = s.heap.objs.size + 4 := by rw [Heap.size_push, z3]
  have z5 : (Z5 s.heap l1 l2 l3).objs.size = s.heap.objs.size + 5 := by rw [Heap.size_push, z4]
  have up : ∀ {h : Heap} {c : Addr} {o o' : Obj}, h.get? c = some o → (h.push o').get? c = some o := fun e => Heap.get?_push_of_some _ e
  have k6 : (Z6 s.heap l1 l2 l3).get? (Z5 s.heap l1 l2 l3).objs.size = some _ := Heap.get?_push_size _ rfl
  have k5 : (Z6 s.heap l1 l2 l3).get? (Z4 s.heap l1 l2 l3).objs.size = some _ := up (Heap.get?_push_size _ rfl)
  have k4 : (Z6 s.heap l1 l2 l3).get? (Z3 s.heap l1 l2 l3).objs.size = some _ := up (up (Heap.get?_push_size _ rfl))
  have k3 : (Z6 s.heap l1 l2 l3).get? ((s.heap.push (zl l1)).push (zl l2)).objs.size = some _ := up (up (up (Heap.get?_push_size _ rfl)))
  have k2 : (Z6 s.heap l1 l2 l3).get? (s.heap.push (zl l1)).objs.size = some _ := up (up (up (up (Heap.get?_push_size _ rfl))))
  have k1 : (Z6 s.heap l1 l2 l3).get? s.heap.objs.size = some _ := up (up (up (up (up (Heap.get?_push_size _ rfl)))))
  show _ ∧ _
  rw [z3, z4, z5] at k6
  rw [z1, z2, z3] at k4
  rw [z4] at k5
  rw [z2] at k3
  rw [z1] at k2
  rw [z5]
  exact ⟨⟨_, k6, rfl⟩, h _ k6 k4 k5 ⟨_, k1, rfl, rfl⟩ ⟨_, k2, rfl, rfl⟩ ⟨_, k3, rfl, rfl⟩ fun c o x => up (up (up (up (up (up x)))))⟩
end
end L2
namespace L2
open PySem PySem.Spec PyProof.Rows
def Itz3 (K : PySem.W.Frag) (a b c : Addr) : It :=
  ⟨fun i H => ∃ xs ys zs x y z, SqL K H a xs ∧ SqL K H b ys ∧ SqL K H c zs ∧ xs[i]? = some x ∧ ys[i]? = some y ∧ zs[i]? = some z,
   fun i H v H' => ∃ t, H t = none ∧ v = .ref t ∧ ∀ xs ys zs x y z, SqL K H a xs → SqL K H b ys → SqL K H c zs → xs[i]? = some x → ys[i]? = some y → zs[i]? = some z → H' = upd H t (.tup [x, y, z]),
   fun i H => ∃ xs, SqL K H a xs ∧ xs.length ≤ i⟩
theorem turn_zip3 {P : Program} {w : World} {K : PySem.W.Frag} {elts : List Expr} {x1 : Nat} {tp : Pos} (l1 l2 l3 z TI TO i1 i2 i3 : Addr) (D : Apart3 z TI TO i1 i2 i3 l1 l2 l3) :
    Turn P w K (.Tuple elts x1 tp) (Itz3 K l1 l2 l3) [z, TI, TO, i1, i2, i3] z (fun i h => IsZip h z TI TO .none ∧ Tr h TI (.ref i1) (.ref i2) (.ref i3) ∧ (∃ a b c, Tr h TO a b c) ∧ h.IsListIter i1 l1 i ∧ h.IsListIter i2 l2 i ∧ h.IsListIter i3 l3 i) where
  mem := by simp
  obj := fun i h ⟨h1, h2, ⟨a, b, c', h3⟩, h4, h5, h6⟩ c hc => by
    simp only [List.mem_cons, List.not_mem_nil, or_false] at hc
    rcases hc with e | e | e | e | e | e
    · subst e; exact ⟨_, h1, fun v q => by have q' : Data.fields _ = Data.cell v := q; cases q'⟩
    · subst e; exact ⟨_, h2, fun v q => by have q' : Data.seq _ _ = Data.cell v := q; cases q'⟩
    · subst e; exact ⟨_, h3, fun v q => by have q' : Data.seq _ _ = Data.cell v := q; cases q'⟩
    · subst e
      obtain ⟨o, ho, _, hd⟩ := h4
      exact ⟨o, ho, fun v q => by rw [hd] at q; cases q⟩
    · subst e
      obtain ⟨o, ho, _, hd⟩ := h5
      exact ⟨o, ho, fun v q => by rw [hd] at q; cases q⟩
    · subst e
      obtain ⟨o, ho, _, hd⟩ := h6
      exact ⟨o, ho, fun v q => by rw [hd] at q; cases q⟩
  keep := fun i h h' ⟨h1, h2, ⟨a, b, c, h3⟩, ⟨o4, e4, r4⟩, ⟨o5, e5, r5⟩, ⟨o6, e6, r6⟩⟩ k =>
    ⟨k z (by simp) _ h1, k TI (by simp) _ h2, ⟨a, b, c, k TO (by simp) _ h3⟩, ⟨o4, k i1 (by simp) _ e4, r4⟩, ⟨o5, k i2 (by simp) _ e5, r5⟩, ⟨o6, k i3 (by simp) _ e6, r6⟩⟩
  item := by
    intro X hP hw hK hc i pins s σ H E I hf ⟨h1, h2, ⟨a, b, c', h3⟩, h4, h5, h6⟩ ⟨xs, ys, zs, x, y, v, q1, q2, q3, hx, hy, hv⟩
    subst hP hw hK
    obtain ⟨it1, v1, p1, _⟩ := I.list q1
    obtain ⟨it2, v2, p2, _⟩ := I.list q2
    obtain ⟨it3, v3, p3, _⟩ := I.list q3
    obtain ⟨u1, e1, r1⟩ := v1.get hx
    obtain ⟨u2, e2, r2⟩ := v2.get hy
    obtain ⟨u3, e3, r3⟩ := v3.get hv
    have nd := D.nd
    simp only [List.nodup_cons, List.mem_cons, List.not_mem_nil, or_false, not_or, List.nodup_nil, and_true, not_false_eq_true] at nd
    obtain ⟨⟨zTI, zTO, z1, z2, z3⟩, ⟨TITO, TI1, TI2, TI3⟩, _⟩ := nd
    refine pyNext3_item D h1 h2 h3 h4 h5 h6 p1.isList p2.isList p3.isList (by simpa using e1) (by simpa using e2) (by simpa using e3) fun h' g1 g3 g4 g5 g6 gT gs k => ?_
    refine ⟨_, rfl, wpAny_letOwnedTupleGo_zip g1 fun h'' g1' sb => ?_⟩
    have hzT : s.heap.objs.size ≠ z := Nat.ne_of_gt (Heap.lt_size h1)
    have gT' : IsTup h'' s.heap.objs.size [u1, u2, u3].toArray := ⟨_, sb.extBut _ _ hzT gT, rfl, _, rfl⟩
    have hlz : ∀ {c : Addr} {o : Obj}, c ≠ z → h'.get? c = some o → h''.get? c = some o := fun hcz e => sb.extBut _ _ hcz e
    refine ⟨.ref s.heap.objs.size, upd H s.heap.objs.size (.tup [x, y, v]), I.turnsT (ch := [z, TO, i1, i2, i3]) (t' := s.toks) (fun c hcm => hf c (by simp only [List.mem_cons, List.not_mem_nil, or_false] at hcm ⊢; rcases hcm with e | e | e | e | e <;> simp [e])) (fun c o hcn e => ?_) (Nat.le_refl _) (.cons r1 (.cons r2 (.cons r3 .nil))) gT' (by show 3 ≤ sizeLine; decide), rfl,
      ⟨_, I.hok.fresh (Nat.le_refl _), rfl, fun xs' ys' zs' x' y' z' w1 w2 w3 w4 w5 w6 => ?_⟩, ⟨g1', hlz (Ne.symm zTI) (k TI _ (by simp only [List.mem_cons, List.not_mem_nil, or_false, not_or]; exact ⟨Ne.symm zTI, TITO, TI1, TI2, TI3⟩) h2), ⟨_, _, _, hlz (Ne.symm zTO) g3⟩, ?_, ?_, ?_⟩, fun c hcm => ?_⟩
    · exact hlz (fun q => hcn (by rw [q]; simp)) (k c o hcn e)
    · have a1 := I.list_inj w1 q1
      have a2 := I.list_inj w2 q2
      have a3 := I.list_inj w3 q3
      subst a1 a2 a3
      rw [hx] at w4
      rw [hy] at w5
      rw [hv] at w6
      cases w4; cases w5; cases w6
      rfl
    · obtain ⟨o, e, r⟩ := g4
      exact ⟨o, hlz (Ne.symm z1) e, r⟩
    · obtain ⟨o, e, r⟩ := g5
      exact ⟨o, hlz (Ne.symm z2) e, r⟩
    · obtain ⟨o, e, r⟩ := g6
      exact ⟨o, hlz (Ne.symm z3) e, r⟩
    · obtain ⟨o, e, _⟩ : ∃ o, s.heap.get? c = some o ∧ True := by
        simp only [List.mem_cons, List.not_mem_nil, or_false] at hcm
        rcases hcm with e | e | e | e | e | e
        · subst e; exact ⟨_, h1, trivial⟩
        · subst e; exact ⟨_, h2, trivial⟩
        · subst e; exact ⟨_, h3, trivial⟩
        · subst e; obtain ⟨o, ho, _⟩ := h4; exact ⟨o, ho, trivial⟩
        · subst e; obtain ⟨o, ho, _⟩ := h5; exact ⟨o, ho, trivial⟩
        · subst e; obtain ⟨o, ho, _⟩ := h6; exact ⟨o, ho, trivial⟩
      rw [upd_ne (Nat.ne_of_lt (Heap.lt_size e))]
      exact (hf c hcm).1
  done := by
    intro X hP hw hK hc i pins s σ H E I hf ⟨h1, h2, ⟨a, b, c', h3⟩, h4, h5, h6⟩ ⟨xs, q1, hend⟩
    subst hP hw hK
    obtain ⟨it1, v1, p1, _⟩ := I.list q1
    have l1 := v1.length
    refine pyNext3_end (I.ok.hd hc) D h1 h2 h4 p1.isList (by simp; omega) fun h' k => ⟨rfl, I.turns (ch := [z, TO, i1, i2, i3]) (t' := s.toks) (fun c hcm => hf c (by simp only [List.mem_cons, List.not_mem_nil, or_false] at hcm ⊢; rcases hcm with e | e | e | e | e <;> simp [e])) fun c o hcn e => k c o hcn e⟩
  self := fun _ _ _ _ _ st h => wpAny_pyIter_zip st.1 h
section
variable {X : Cx}
def iZip3 (K : PySem.W.Frag) (ta : TA) : TI := fun σ H R => ta σ H fun vs H1 => ∃ a b c xs ys zs, vs = [.ref a, .ref b, .ref c] ∧ SqL K H1 a xs ∧ SqL K H1 b ys ∧ SqL K H1 c zs ∧ R (Itz3 K a b c) H1
theorem vals3 {x y z : V} {us : List Value} (r : Vals [x, y, z] us) : ∃ u1 u2 u3, us = [u1, u2, u3] ∧ RelV x u1 ∧ RelV y u2 ∧ RelV z u3 := by
  cases r with
  | cons a r => cases r with
    | cons b r => cases r with
      | cons c r => cases r; exact ⟨_, _, _, rfl, a, b, c⟩
theorem pi_zip3 {a b c : Expr} {ta : TA} {p pos : Pos} {elts : List Expr} {x1 : Nat} {tp : Pos} (hg : Gl X "zip") (hm : X.mg "zip" = none) (ha : PA X [a, b, c] ta) (hs : starEach [a, b, c] X.env = (false, eval a X.env) :: starEach [b, c] X.env := by rfl) (hs2 : (backTo pos (starEach [b, c] X.env)).any (·.1) = false := by rfl) :
    PI X (.Tuple elts x1 tp) (.Call (.Name "zip" p) [a, b, c] [] pos) (iZip3 X.K ta) := by
  intro pins s σ H R I h
  refine Call_ (ld_blt I hg hm b_zip (PyProof.Rows.callWith_type1 (thn (ha pos pins s σ H _ I h) fun us s1 ⟨vs, H1, I1, r1, q1⟩ => ?_) hs hs2))
  obtain ⟨l1, l2, l3, xs, ys, zs, e, q1, q2, q3, q⟩ := q1
  subst e
  obtain ⟨u1, u2, u3, rfl, w1, w2, w3⟩ := vals3 r1
  cases w1; cases w2; cases w3
  obtain ⟨it1, v1, p1, _⟩ := I1.list q1
  obtain ⟨it2, v2, p2, _⟩ := I1.list q2
  obtain ⟨it3, v3, p3, _⟩ := I1.list q3
  have hl1 : @LT.lt Nat _ l1 s1.heap.objs.size := by obtain ⟨_, _, e, _⟩ := p1; exact Heap.lt_size e
  have hl2 : @LT.lt Nat _ l2 s1.heap.objs.size := by obtain ⟨_, _, e, _⟩ := p2; exact Heap.lt_size e
  have hl3 : @LT.lt Nat _ l3 s1.heap.objs.size := by obtain ⟨_, _, e, _⟩ := p3; exact Heap.lt_size e
  refine call_zip3 p1.isList p2.isList p3.isList fun h' g1 g2 g3 g4 g5 g6 k => ?_
  refine wpAny_pyIter_zip g1 ?_
  have ne : ∀ {l : Addr}, @LT.lt Nat _ l s1.heap.objs.size → l ∉ ([s1.heap.objs.size + 5, s1.heap.objs.size + 4, s1.heap.objs.size, s1.heap.objs.size + 1, s1.heap.objs.size + 2] : List Addr) := fun {l} hl hm => by
    simp only [List.mem_cons, List.not_mem_nil, or_false] at hm
    rcases hm with e | e | e | e | e <;> (have e' : @Eq Nat _ _ := e; omega)
  have nd : ([s1.heap.objs.size + 5, s1.heap.objs.size + 3, s1.heap.objs.size + 4, s1.heap.objs.size, s1.heap.objs.size + 1, s1.heap.objs.size + 2] : List Addr).Nodup := by
    simp only [List.nodup_cons, List.mem_cons, List.not_mem_nil, or_false, not_or, List.nodup_nil, and_true, not_false_eq_true]
    refine ⟨⟨?_, ?_, ?_, ?_, ?_⟩, ⟨?_, ?_, ?_, ?_⟩, ⟨?_, ?_, ?_⟩, ⟨?_, ?_⟩, ?_⟩ <;> (intro z; have z' : @Eq Nat _ _ := z; omega)
  refine ⟨s1.heap.objs.size + 5, [s1.heap.objs.size + 5, s1.heap.objs.size + 3, s1.heap.objs.size + 4, s1.heap.objs.size, s1.heap.objs.size + 1, s1.heap.objs.size + 2], _, _, H1, rfl, I1.kept (t' := s1.toks) k,
    turn_zip3 l1 l2 l3 _ _ _ _ _ _ ⟨nd, ne hl1, ne hl2, ne hl3⟩, ⟨g1, g2, ⟨_, _, _, g3⟩, g4, g5, g6⟩, fun c hcm => ?_, q⟩
  have hc : s1.heap.objs.size ≤ c := by
    simp only [List.mem_cons, List.not_mem_nil, or_false] at hcm
    rcases hcm with e | e | e | e | e | e <;> (rw [e]; first | exact Nat.le_refl _ | exact Nat.le_add_right _ _)
  exact I1.fpOk hc (I1.hok.fresh hc)
end
theorem comp_zipI {K : PySem.W.Frag} {a b acc : Addr} {xs ys : List V} {own : Nat} {ix : List Nat} {g : TG} {te : TE} {σ : St} {H1 : Hp} {Q : VK} (Pv : Nat → List V → Hp → Prop) (hl : xs.length = ys.length) (hz : xs.length ≤ sizeLine) (h0 : Pv 0 [] (upd H1 acc (.lst [])))
    (ha : ∀ i zs H, Pv i zs H → H acc = some (.lst zs) ∧ zs.length ≤ i ∧ SqL K H a xs ∧ SqL K H b ys)
    (step : ∀ (i : Nat) (x y : V) (zs : List V) (t : Addr) (H : Hp) (R : VK), xs[i]? = some x → ys[i]? = some y → Pv i zs H → H t = none → (∀ v H6, H6 acc = some (.lst zs) → Pv (i + 1) (zs ++ [v]) (upd H6 acc (.lst (zs ++ [v]))) → R v H6) → g (.ref t) (blockSt own ix σ) (upd H t (.tup [x, y])) fun σ4 H4 => σ4.drop own = ix.map (fun i => (σ[i]?).getD none) ∧ te σ4 H4 R)
    (hd : ∀ zs H, Pv xs.length zs H → Q (.ref acc) H) : CompGo (Itz K a b) own ix g tNoTest te σ H1 acc Q := by
  refine ⟨fun i m zs H => m = xs.length - i ∧ i ≤ xs.length ∧ Pv i zs H, ⟨xs.length, by simp, Nat.zero_le _, h0⟩, ?_⟩
  rintro i m zs H ⟨rfl, hi, p⟩
  obtain ⟨a1, a2, a3, a4⟩ := ha i zs H p
  refine ⟨a1, ?_⟩
  by_cases hlt : i < xs.length
  · have h2 : i < ys.length := by omega
    refine .inr ⟨⟨xs, ys, xs[i], ys[i], a3, a4, List.getElem?_eq_getElem hlt, List.getElem?_eq_getElem h2⟩, by omega, fun v H3 ⟨t, ht, hv, hy⟩ => ?_⟩
    have e := hy xs ys xs[i] ys[i] a3 a4 (List.getElem?_eq_getElem hlt) (List.getElem?_eq_getElem h2)
    subst hv e
    exact step i xs[i] ys[i] zs t H _ (List.getElem?_eq_getElem hlt) (List.getElem?_eq_getElem h2) p ht fun y H6 e q => ⟨e, xs.length - (i + 1), by omega, rfl, hlt, q⟩
  · have e : i = xs.length := by omega
    subst e
    exact .inl ⟨⟨xs, ys, a3, a4, by omega⟩, hd zs H p⟩
theorem comp_zip3I {K : PySem.W.Frag} {a b c acc : Addr} {xs ys ws : List V} {own : Nat} {ix : List Nat} {g : TG} {te : TE} {σ : St} {H1 : Hp} {Q : VK} (Pv : Nat → List V → Hp → Prop) (hl : xs.length = ys.length) (hl2 : xs.length = ws.length) (hz : xs.length ≤ sizeLine) (h0 : Pv 0 [] (upd H1 acc (.lst [])))
    (ha : ∀ i zs H, Pv i zs H → H acc = some (.lst zs) ∧ zs.length ≤ i ∧ SqL K H a xs ∧ SqL K H b ys ∧ SqL K H c ws)
    (step : ∀ (i : Nat) (x y w : V) (zs : List V) (t : Addr) (H : Hp) (R : VK), xs[i]? = some x → ys[i]? = some y → ws[i]? = some w → Pv i zs H → H t = none → (∀ v H6, H6 acc = some (.lst zs) → Pv (i + 1) (zs ++ [v]) (upd H6 acc (.lst (zs ++ [v]))) → R v H6) → g (.ref t) (blockSt own ix σ) (upd H t (.tup [x, y, w])) fun σ4 H4 => σ4.drop own = ix.map (fun i => (σ[i]?).getD none) ∧ te σ4 H4 R)
    (hd : ∀ zs H, Pv xs.length zs H → Q (.ref acc) H) : CompGo (Itz3 K a b c) own ix g tNoTest te σ H1 acc Q := by
  refine ⟨fun i m zs H => m = xs.length - i ∧ i ≤ xs.length ∧ Pv i zs H, ⟨xs.length, by simp, Nat.zero_le _, h0⟩, ?_⟩
  rintro i m zs H ⟨rfl, hi, p⟩
  obtain ⟨a1, a2, a3, a4, a5⟩ := ha i zs H p
  refine ⟨a1, ?_⟩
  by_cases hlt : i < xs.length
  · have h2 : i < ys.length := by omega
    have h3 : i < ws.length := by omega
    refine .inr ⟨⟨xs, ys, ws, xs[i], ys[i], ws[i], a3, a4, a5, List.getElem?_eq_getElem hlt, List.getElem?_eq_getElem h2, List.getElem?_eq_getElem h3⟩, by omega, fun v H3 ⟨t, ht, hv, hy⟩ => ?_⟩
    have e := hy xs ys ws xs[i] ys[i] ws[i] a3 a4 a5 (List.getElem?_eq_getElem hlt) (List.getElem?_eq_getElem h2) (List.getElem?_eq_getElem h3)
    subst hv e
    exact step i xs[i] ys[i] ws[i] zs t H _ (List.getElem?_eq_getElem hlt) (List.getElem?_eq_getElem h2) (List.getElem?_eq_getElem h3) p ht fun y H6 e q => ⟨e, xs.length - (i + 1), by omega, rfl, hlt, q⟩
  · have e : i = xs.length := by omega
    subst e
    exact .inl ⟨⟨xs, a3, by omega⟩, hd zs H p⟩
theorem for_zip3 {K : PySem.W.Frag} {a b c : Addr} {xs ys ws : List V} {g : TG} {tb : TS} {D : Ends} {σ : St} {H : Hp} (Pv : Nat → St → Hp → Prop) (hl1 : xs.length = ys.length) (hl2 : xs.length = ws.length) (h0 : Pv 0 σ H) (hl : ∀ i σ H, Pv i σ H → SqL K H a xs ∧ SqL K H b ys ∧ SqL K H c ws)
    (hs : ∀ i x y w t σ H, xs[i]? = some x → ys[i]? = some y → ws[i]? = some w → Pv i σ H → H t = none → g (.ref t) σ (upd H t (.tup [x, y, w])) fun σ2 H2 => tb { D with nx := Pv (i + 1), ct := Pv (i + 1), bk := D.nx } σ2 H2) (hd : ∀ σ H, Pv xs.length σ H → D.nx σ H) :
    ∃ W : Nat → Nat → St → Hp → Prop, (∃ m, W 0 m σ H) ∧ ∀ i m σ H, W i m σ H →
      ((Itz3 K a b c).stop i H ∧ D.nx σ H) ∨ ((Itz3 K a b c).go i H ∧ ∃ N : St → Hp → Prop, (∀ σ' H', N σ' H' → ∃ m', m' < m ∧ W (i + 1) m' σ' H') ∧ ∀ x H', (Itz3 K a b c).yld i H x H' → g x σ H' fun σ2 H2 => tb { D with nx := N, ct := N, bk := D.nx } σ2 H2) := by
  refine ⟨fun i m σ H => m = xs.length - i ∧ i ≤ xs.length ∧ Pv i σ H, ⟨_, rfl, Nat.zero_le _, h0⟩, ?_⟩
  rintro i m σ H ⟨rfl, hi, p⟩
  obtain ⟨q1, q2, q3⟩ := hl i σ H p
  by_cases hlt : i < xs.length
  · have h2 : i < ys.length := by omega
    have h3 : i < ws.length := by omega
    refine .inr ⟨⟨xs, ys, ws, xs[i], ys[i], ws[i], q1, q2, q3, List.getElem?_eq_getElem hlt, List.getElem?_eq_getElem h2, List.getElem?_eq_getElem h3⟩, Pv (i + 1), fun σ' H' p' => ⟨_, by omega, rfl, hlt, p'⟩, fun v H3 ⟨t, ht, hv, hy⟩ => ?_⟩
    have e := hy xs ys ws xs[i] ys[i] ws[i] q1 q2 q3 (List.getElem?_eq_getElem hlt) (List.getElem?_eq_getElem h2) (List.getElem?_eq_getElem h3)
    subst hv e
    exact hs i _ _ _ t σ H (List.getElem?_eq_getElem hlt) (List.getElem?_eq_getElem h2) (List.getElem?_eq_getElem h3) p ht
  · have e : i = xs.length := by omega
    subst e
    exact .inl ⟨⟨xs, q1, by omega⟩, hd σ H p⟩
end L2
namespace L2
open PySem PySem.Spec PyProof.Rows PySem.SeqAt
def SqL3 (K : PySem.W.Frag) (H : Hp) (a : Addr) (ps : List (List (List Int))) : Prop := ∃ as : List Addr, SqL K H a (as.map V.ref) ∧ Paired (fun b nss => SqLL K H b nss) as ps
abbrev dIII (ps : List (List (List Int))) : PyData := .list (ps.map dII)
theorem canLay_dIII : ∀ ps : List (List (List Int)), PyData.canLayAll0 (ps.map dII) = true
  | [] => by simp [PyData.canLayAll0]
  | n :: r => by
    rw [List.map_cons]
    simp only [PyData.canLayAll0, PyData.canLay0, canLay_dIII r, Bool.and_true]
    exact canLay_dII n
theorem depth_dII (nss : List (List Int)) : PyData.depth (dII nss) ≤ 3 := by
  have := depthAll_dII nss
  simp only [PyData.depth]
  omega
theorem depthAll_dIII : ∀ ps : List (List (List Int)), PyData.depthAll (ps.map dII) ≤ 3
  | [] => by simp [PyData.depthAll]
  | n :: r => by
    have := depthAll_dIII r
    have := depth_dII n
    simp only [List.map_cons, PyData.depthAll]
    omega
theorem shaped_dIII (ps : List (List (List Int))) : shaped (dIII ps) = true := by
  have h1 := depthAll_dIII ps
  have h2 : PyData.depth (dIII ps) ≤ 64 := by simp only [PyData.depth]; omega
  show (PyData.canLay0 (dIII ps) && decide (PyData.depth (dIII ps) ≤ 64)) = true
  rw [Bool.and_eq_true]
  exact ⟨by simp only [PyData.canLay0]; exact canLay_dIII ps, decide_eq_true h2⟩
theorem noMix_dIIs (n m : List (List Int)) : noMix (dII n) (dII m) = true := by
  simp only [noMix]; exact noMix_dII n m
theorem noMix_dIII : ∀ ps qs : List (List (List Int)), noMixAll (ps.map dII) (qs.map dII) = true
  | [], [] => by simp [noMixAll]
  | [], _ :: _ => by simp [noMixAll]
  | _ :: _, [] => by simp [noMixAll]
  | n :: r, m :: q => by
    simp only [List.map_cons, noMixAll, noMix_dIII r q, Bool.and_true]
    exact noMix_dIIs n m
theorem same_dIIs (n m : List (List Int)) : PySem.Spec.same (dII n) (dII m) = decide (n = m) := by
  simp only [PySem.Spec.same]; exact same_dII n m
theorem same_dIII : ∀ ps qs : List (List (List Int)), PySem.Spec.sameAll (ps.map dII) (qs.map dII) = decide (ps = qs)
  | [], [] => by simp [PySem.Spec.sameAll]
  | [], _ :: _ => by simp [PySem.Spec.sameAll]
  | _ :: _, [] => by simp [PySem.Spec.sameAll]
  | n :: r, k :: q => by
    simp only [List.map_cons, PySem.Spec.sameAll, same_dIII r q]
    rw [same_dIIs]
    by_cases h : n = k <;> simp [h]
section
variable {X : Cx} {pins : List (Addr × Obj)} {σ : St} {H : Hp} {s : Shared}
theorem Inv.readsAll3 (I : Inv X pins σ H s) : ∀ {as : List Addr} {us : List Value} {ps : List (List (List Int))}, Vals (as.map V.ref) us → Paired (fun b nss => SqLL X.K H b nss) as ps → ∃ bs, ReadsAll s.heap us (ps.map dII) bs
  | [], _, _, r, p => by
    cases r; cases p
    exact ⟨_, .nil⟩
  | a :: as, _, _, r, p => by
    cases p with
    | cons p1 p2 =>
      cases r with
      | cons r1 r2 =>
        obtain ⟨bs, h⟩ := I.readsAll3 r2 p2
        cases r1
        obtain ⟨cs, hc⟩ := I.readsL p1
        exact ⟨_, .cons hc h⟩
theorem Inv.readsL3 (I : Inv X pins σ H s) {a : Addr} {ps : List (List (List Int))} (h : SqL3 X.K H a ps) : ∃ bs, Reads s.heap (.ref a) (dIII ps) bs := by
  obtain ⟨as, h1, h2⟩ := h
  obtain ⟨its, r, ⟨o, n, ho, hc, hd0, hd⟩, z⟩ := I.list h1
  obtain ⟨bs, hb⟩ := I.readsAll3 r h2
  exact ⟨_, .list ho hc hd (by simpa using hb)⟩
end
section
variable {X : Cx}
def rEqL3 (K : PySem.W.Frag) : R2 := fun x y H Q => ∃ (a b : Addr) (ps qs : List (List (List Int))), x = .ref a ∧ y = .ref b ∧ SqL3 K H a ps ∧ SqL3 K H b qs ∧ Q (.bl (decide (ps = qs))) H
def rNeL3 (K : PySem.W.Frag) : R2 := fun x y H Q => ∃ (a b : Addr) (ps qs : List (List (List Int))), x = .ref a ∧ y = .ref b ∧ SqL3 K H a ps ∧ SqL3 K H b qs ∧ Q (.bl (!decide (ps = qs))) H
theorem op_eqL3 (hu : X.A.units + 64 < cLine) : OpR X (compareOp .Eq) (rEqL3 X.K) := by
  intro pins s σ H x y v u Q I rx ry h
  obtain ⟨a, b, ns, ms, rfl, rfl, h1, h2, q⟩ := h
  cases rx; cases ry
  obtain ⟨as, r1⟩ := I.readsL3 h1
  obtain ⟨bs, r2⟩ := I.readsL3 h2
  exact eq_dataH_same r1 r2 (shaped_dIII ns) (shaped_dIII ms) hu (by simp only [noMix]; exact noMix_dIII ns ms) (by simp only [PySem.Spec.same]; rw [same_dIII]; exact ⟨.bl _, H, I, rfl, q⟩)
theorem op_neL3 (hu : X.A.units + 64 < cLine) : OpR X (compareOp .NotEq) (rNeL3 X.K) := by
  intro pins s σ H x y v u Q I rx ry h
  obtain ⟨a, b, ns, ms, rfl, rfl, h1, h2, q⟩ := h
  cases rx; cases ry
  obtain ⟨as, r1⟩ := I.readsL3 h1
  obtain ⟨bs, r2⟩ := I.readsL3 h2
  exact ne_dataH_same r1 r2 (shaped_dIII ns) (shaped_dIII ms) hu (by simp only [noMix]; exact noMix_dIII ns ms) (by simp only [PySem.Spec.same]; rw [same_dIII]; exact ⟨.bl _, H, I, rfl, q⟩)
theorem any_dIII (ns : List (List Int)) : ∀ ps : List (List (List Int)), (ps.map dII).any (fun d => PyData.eqv d (dII ns)) = decide (ns ∈ ps)
  | [] => by simp
  | m :: r => by
    rw [List.map_cons, List.any_cons, any_dIII ns r, ← same_eq_eqv _ _ (noMix_dIIs m ns), same_dIIs]
    by_cases h : m = ns
    · subst h; simp
    · have h' : ¬ ns = m := fun z => h z.symm
      simp [h, h']
def rInL3 (K : PySem.W.Frag) : R2 := fun x y H Q => ∃ (a b : Addr) (nss : List (List Int)) (ps : List (List (List Int))), x = .ref a ∧ y = .ref b ∧ SqLL K H a nss ∧ SqL3 K H b ps ∧ Q (.bl (decide (nss ∈ ps))) H
theorem op_inL3 (hu : X.A.units + 65 < cLine) : OpR X (compareOp .In) (rInL3 X.K) := by
  intro pins s σ H x y v u Q I rx ry h
  obtain ⟨a, b, ns, nss, rfl, rfl, h1, h2, q⟩ := h
  cases rx; cases ry
  obtain ⟨bs, r2⟩ := I.readsL3 h2
  obtain ⟨as, r1⟩ := I.readsL h1
  refine in_list_reads r2 r1 (canLay_of_shaped (shaped_dIII nss)) (canLay_of_shaped (shaped_dII ns)) (room_in_shaped (shaped_dII ns) hu) ?_
  rw [any_dIII]
  exact ⟨.bl _, H, I, rfl, q⟩
theorem mt_indexL3 (hu : X.A.units + 65 < cLine) : MtM X "list.index" (fun x vs H Q => ∃ (l b : Addr) (as : List Addr) (ps : List (List (List Int))) (nss : List (List Int)) (j : Nat), x = .ref l ∧ vs = [.ref b] ∧ H l = some (.lst (as.map V.ref)) ∧ as.Nodup ∧ PySem.Paired (fun c cs => SqLL X.K H c cs) as ps ∧ SqLL X.K H b nss ∧ ps[j]? = some nss ∧ (∀ m, m < j → ps[m]? ≠ some nss) ∧ ps.length ≤ 1000 ∧ Q (.int (j : Int)) H) := by
  intro pins s σ H x vs v us Q I rx rv h
  obtain ⟨l, b, as, ps, nss, j, rfl, rfl, hH, nd, hP, hb, hj, hno, hlen, q⟩ := h
  cases rx
  obtain ⟨u, rfl, ru⟩ := rv.one
  cases ru
  obtain ⟨z, its, n, r, hl, e⟩ := I.lstM hH
  have al := paired_len hP
  have il := r.length
  rw [List.length_map] at il
  have jl := (List.getElem?_eq_some_iff.mp hj).1
  let isA : Value → Bool := fun y => match y with
    | .ref c => decide (∃ m : Nat, m < ps.length ∧ as[m]? = some c ∧ ps[m]? = some nss)
    | _ => false
  have at_ : ∀ m (hm : m < its.length), ∃ c cs, its[m] = .ref c ∧ as[m]? = some c ∧ ps[m]? = some cs ∧ SqLL X.K H c cs := fun m hm => by
    have hma : m < as.length := by omega
    obtain ⟨w, ew, rw'⟩ := r.get (x := V.ref as[m]) (i := m) (by rw [List.getElem?_map, List.getElem?_eq_getElem hma]; rfl)
    rw [List.getElem?_eq_getElem hm] at ew
    obtain ⟨cs, hcs, pm⟩ := paired_get hP (List.getElem?_eq_getElem hma)
    exact ⟨as[m], cs, (Option.some.inj ew).trans rw', List.getElem?_eq_getElem hma, hcs, pm⟩
  have isA_of : ∀ (m : Nat) (c : Addr) (cs : List (List Int)), as[m]? = some c → ps[m]? = some cs → isA (.ref c) = decide (cs = nss) := fun m c cs h1 h2 => by
    show decide (∃ m : Nat, m < ps.length ∧ as[m]? = some c ∧ ps[m]? = some nss) = _
    apply decide_eq_decide.mpr
    constructor
    · rintro ⟨k, _, hk, hk2⟩
      obtain ⟨g1, g2⟩ := List.getElem?_eq_some_iff.mp h1
      obtain ⟨g3, g4⟩ := List.getElem?_eq_some_iff.mp hk
      have ekm : k = m := (List.getElem_inj nd).mp (by rw [g2, g4])
      subst ekm
      rw [hk2] at h2
      exact (Option.some.inj h2).symm
    · rintro rfl
      exact ⟨m, (List.getElem?_eq_some_iff.mp h2).1, h1, h2⟩
  have hjs : j < its.toArray.size := by rw [List.size_toArray]; omega
  refine call_meets F.slot_list_index ⟨_, e, rfl⟩ F.entry_list_index (F.args_list_index_2 _ _) (PySem.SeqAt.list_indexAt l its.toArray n none #[] (.ref b) isA j hjs (by omega) ?_ ?_) ⟨e, ?_, ?_⟩
  · obtain ⟨c, cs, e1, e2, e3, _⟩ := at_ j (by omega)
    rw [List.getElem_toArray, e1, isA_of j c cs e2 e3]
    rw [hj] at e3
    exact decide_eq_true (Option.some.inj e3).symm
  · intro m hm hmj
    obtain ⟨c, cs, e1, e2, e3, _⟩ := at_ m (by rwa [List.size_toArray] at hm)
    rw [List.getElem_toArray, e1, isA_of m c cs e2 e3]
    exact decide_eq_false fun z => hno m hmj (by rw [e3, z])
  · intro y hy
    have hy' : y ∈ its := by simpa using hy
    obtain ⟨m, hm, rfl⟩ := List.getElem_of_mem hy'
    obtain ⟨c, cs, e1, e2, e3, e4⟩ := at_ m hm
    rw [e1, isA_of m c cs e2 e3]
    obtain ⟨w1, r1⟩ := I.readsL e4
    obtain ⟨w2, r2⟩ := I.readsL hb
    have x := PySem.W.keq_at (A := X.A) r1 r2 (shaped_dII cs) (shaped_dII nss) (by show X.A.units + 1 + 64 < cLine; omega)
    rw [← same_eq_eqv _ _ (noMix_dIIs cs nss), same_dIIs] at x
    exact x
  · exact ⟨.int _, H, I.tok _, ⟨_, rfl⟩, q⟩
end
end L2
namespace Bw
open PySem L2
open Builtin.Int (intBits)
def top (i : Nat) : Stmt := PySem.Challenge.pw_bellwrite_k89_peals_alike_and_crowds.main.body.getD i (.Pass ⟨0, 0, 0, 0⟩)
abbrev st_box_of : Stmt := top 1
abbrev st_can_come : Stmt := top 3
abbrev st_alike : Stmt := top 4
abbrev st_reading_of_both : Stmt := top 5
abbrev st_peals_alike : Stmt := top 7
abbrev st_peal_crowd : Stmt := top 8
abbrev st_boxes_of_peal : Stmt := top 9
abbrev st_hearing_of_both : Stmt := top 10
abbrev st__law_cell_at : Stmt := top 12
abbrev st__law_stir : Stmt := top 13
abbrev st__law_drawn : Stmt := top 14
abbrev st__law_frames : Stmt := top 15
abbrev st__law_row : Stmt := top 16
abbrev st__law_peals : Stmt := top 17
abbrev st__law_alike : Stmt := top 18
abbrev st__law_boxes : Stmt := top 19
abbrev st__law_both : Stmt := top 20
abbrev st__law_readings : Stmt := top 21
abbrev st__law_crowd : Stmt := top 22
abbrev st_law : Stmt := top 23
structure Txt (K : PySem.W.Frag) (mg : Str → Option Value) : Prop where
  z_range : mg "range" = none
  z_isinstance : mg "isinstance" = none
  z_int : mg "int" = none
  z_bool : mg "bool" = none
  z_list : mg "list" = none
  z_len : mg "len" = none
  z_max : mg "max" = none
  z_min : mg "min" = none
  z_tuple : mg "tuple" = none
  z_enumerate : mg "enumerate" = none
  z_zip : mg "zip" = none
  z_abs : mg "abs" = none
  z_sorted : mg "sorted" = none
  z_all : mg "all" = none
def cellOf (ns : List Int) (k : Int) : Int := ns.getD k.toNat 0
def spCell (K : PySem.W.Frag) : Sp := fun vs H Q _ => ∃ (a : Addr) (ns : List Int) (k : Int), vs = [.ref a, .int k] ∧ SqL K H a (ns.map V.int) ∧ 0 ≤ k ∧ Q (.int (cellOf ns k)) H
structure RowL (row : List Int) : Prop where
  inc : row.Pairwise (· < ·)
  nn : ∀ x ∈ row, 0 ≤ x
  sz : ∀ x ∈ row, x < 2 ^ 200
theorem at_map {ns : List Int} {k : Nat} {x : Int} (h : ns[k]? = some x) : atI (ns.map V.int) (k : Int) = some (V.int x) := atI_nat (by rw [List.getElem?_map, h]; rfl)
def cutI (ns : List Int) (lo hi : Option Int) : List Int := (ns.drop (HT.sIx ns.length 0 lo)).take (HT.sIx ns.length ns.length hi - HT.sIx ns.length 0 lo)
theorem cut_map (ns : List Int) (lo hi : Option Int) : cutV (ns.map V.int) lo hi = (cutI ns lo hi).map V.int := by
  unfold cutV cutI
  rw [List.length_map, List.map_take, List.map_drop]
theorem cutI_len (ns : List Int) (lo hi : Option Int) : (cutI ns lo hi).length ≤ ns.length := by
  have := cutV_length (ns.map V.int) lo hi
  rwa [cut_map, List.length_map, List.length_map] at this
theorem comp_rangeI {lo : Int} {n : Nat} {acc : Addr} {own : Nat} {ix : List Nat} {g : TG} {te : TE} {σ : St} {H1 : Hp} {Q : VK} (Pv : Nat → List V → Hp → Prop) (hz : n ≤ sizeLine) (h0 : Pv 0 [] (upd H1 acc (.lst [])))
    (ha : ∀ i ys H, Pv i ys H → H acc = some (.lst ys) ∧ ys.length ≤ i)
    (step : ∀ (i : Nat) (ys : List V) (H : Hp) (R : VK), i < n → Pv i ys H → (∀ y H6, H6 acc = some (.lst ys) → Pv (i + 1) (ys ++ [y]) (upd H6 acc (.lst (ys ++ [y]))) → R y H6) → g (.int (lo + i)) (blockSt own ix σ) H fun σ4 H4 => σ4.drop own = ix.map (fun i => (σ[i]?).getD none) ∧ te σ4 H4 R)
    (hd : ∀ ys H, Pv n ys H → Q (.ref acc) H) : CompGo (Itr lo n) own ix g tNoTest te σ H1 acc Q := by
  refine ⟨fun i m ys H => m = n - i ∧ i ≤ n ∧ Pv i ys H, ⟨n, by simp, Nat.zero_le _, h0⟩, ?_⟩
  rintro i m ys H ⟨rfl, hi, p⟩
  obtain ⟨a1, a2⟩ := ha i ys H p
  refine ⟨a1, ?_⟩
  by_cases hlt : i < n
  · refine .inr ⟨hlt, by omega, fun x H3 y => ?_⟩
    obtain ⟨e, y⟩ := y
    subst e y
    exact step i ys _ _ hlt p fun y H6 e q => ⟨e, n - (i + 1), by omega, rfl, hlt, q⟩
  · have e : i = n := by omega
    subst e
    exact .inl ⟨Nat.le_refl _, hd ys H p⟩
theorem at_mapR {as : List Addr} {k : Nat} {b : Addr} (h : as[k]? = some b) : atI (as.map V.ref) (k : Int) = some (V.ref b) := atI_nat (by rw [List.getElem?_map, h]; rfl)
section
variable {P : Program} {w : World} {K : PySem.W.Frag} {mg : Str → Option Value} {base : Heap}
theorem sc__law_cell_at : FnScope ["script", "k"] ["script", "k"] (defScope st__law_cell_at) := ⟨rfl, rfl, rfl, by decide +kernel, rfl, by decide +kernel, by decide +kernel⟩
theorem ok_cell_at (D : Def K mg "_law_cell_at" st__law_cell_at ["script", "k"]) (T : Txt K mg) : Fn P w K mg base 1 "_law_cell_at" ["script", "k"] (spCell K) := by
  refine D.fn sc__law_cell_at (fun vs H Q E h => ?_) (fun f cdv A outer s H vs Q E hr h => ?_)
  · obtain ⟨n, k, c, rfl, _⟩ := h
    rfl
  · obtain ⟨a, ns, k, rfl, hS, k0, q⟩ := h
    refine ⟨_, (pss_cons (ps_if (pt_cmpR op_ltI (pv 1) (pe_callB call_len_seq (by rfl) T.z_len b_len (pa_cons (pv 0) pa_nil)) (nomark _))
        (pss_one (ps_ret (pe_ix ix_list (pv 0) (pv 1) (fun _ _ => rfl))))
        pss_nil)
      (pss_one (ps_ret pe_int))), ?_⟩
    refine ⟨_, rfl, _, rfl, _, _, rfl, .inl hS, _, _, rfl, rfl, _, rfl, ?_⟩
    rw [List.length_map]
    refine ifD (fun h => ?_) (fun h => ?_)
    · have hk : k.toNat < ns.length := by omega
      have e : atI (ns.map V.int) k = some (V.int (cellOf ns k)) := by
        have := at_map (ns := ns) (k := k.toNat) (x := cellOf ns k) (by unfold cellOf; rw [List.getD_eq_getElem?_getD, List.getElem?_eq_getElem hk]; rfl)
        rwa [show ((k.toNat : Nat) : Int) = k by omega] at this
      exact ⟨_, rfl, _, rfl, _, _, _, _, rfl, rfl, hS, e, q⟩
    · have e : cellOf ns k = 0 := by
        unfold cellOf
        rw [List.getD_eq_getElem?_getD, List.getElem?_eq_none (by omega)]
        rfl
      rw [e] at q
      exact q
end
section
def spLaw (K : PySem.W.Frag) : Sp := fun vs H Q _ => ∃ (a : Addr) (ns : List Int), vs = [.ref a] ∧ SqL K H a (ns.map V.int) ∧ ns.length ≤ 63 ∧ ∀ H', Q (.bl true) H'
end
section
variable {P : Program} {w : World} {K : PySem.W.Frag} {mg : Str → Option Value} {base : Heap}
theorem sc__law_stir : FnScope ["cell", "k", "number"] ["cell", "k"] (defScope st__law_stir) := ⟨rfl, rfl, rfl, by decide +kernel, rfl, by decide +kernel, by decide +kernel⟩
theorem ok_stir (D : Def K mg "_law_stir" st__law_stir ["cell", "k"]) : Fn P w K mg base 1 "_law_stir" ["cell", "k"] spStir := by
  refine D.fn sc__law_stir (fun vs H Q E h => ?_) (fun f cdv A outer s H vs Q E hr h => ?_)
  · obtain ⟨n, k, rfl, _⟩ := h
    rfl
  · obtain ⟨c, k, rfl, hk, hk2, q⟩ := h
    refine ⟨_, (pss_cons (ps_set (i := 2) sc__law_stir.nd rfl (Or.inl rfl) (pe_op op_addI (pe_op op_addI (pe_op op_mulB (pe_op op_modB (pv 0) (pe_op op_powB pe_int pe_int)) pe_int) (pe_op op_mulB (pe_op op_mulB (pe_op op_powB pe_int pe_int) (pe_op op_addI (pv 1) pe_int)) (pe_op op_addI (pv 1) pe_int))) (pv 1)))
      (pss_cons (ps_set (i := 2) sc__law_stir.nd rfl (Or.inl rfl) (pe_op op_addI (pe_op op_mulB (pv 2) (pv 2)) (pe_op op_mulB pe_int (pv 2))))
      (pss_one (ps_ret (pe_op op_fdivB (pe_op op_modB (pe_op op_mulB (pv 2) (pv 2)) (pe_op op_addI (pe_op op_powB pe_int pe_int) pe_int)) pe_int))))), ?_⟩
    obtain ⟨a0, a1⟩ := bits_stirA (c := c) hk hk2
    have b1 := bits_stirB a1
    have k1 : intBits (k + 1) ≤ 64 := bits_of (by omega) (by omega)
    have r1 : intBits (c % 10 ^ (40 : Int).toNat) ≤ 133 := bits_of (Int.emod_nonneg _ (by decide)) (Int.lt_trans (Int.emod_lt_of_pos _ (by decide)) (by decide))
    have p1 : intBits ((3 : Int) ^ (60 : Int).toNat) ≤ 96 := by decide +kernel
    refine ⟨_, rfl, _, _, rfl, rfl, ⟨by decide, by decide, by decide⟩, _, _, rfl, rfl, (by decide), _, _, rfl, rfl, ⟨133, 64, r1, by decide +kernel, by decide⟩,
      _, _, rfl, rfl, ⟨by decide, by decide, by decide⟩, _, rfl, _, _, rfl, rfl, _, _, rfl, rfl, ⟨96, 64, p1, k1, by decide⟩, _, rfl, _, _, rfl, rfl, _, _, rfl, rfl, ⟨160, 64, intBits_mul_le p1 k1, k1, by decide⟩,
      _, _, rfl, rfl, _, rfl, _, _, rfl, rfl, ?_⟩
    refine ⟨_, rfl, _, rfl, _, _, rfl, rfl, ⟨200, 200, a1, a1, by decide⟩, _, rfl, _, _, rfl, rfl, ⟨64, 200, by decide +kernel, a1, by decide⟩, _, _, rfl, rfl, ?_⟩
    refine ⟨_, rfl, _, rfl, _, _, rfl, rfl, ⟨402, 402, b1, b1, by decide⟩, _, _, rfl, rfl, ⟨by decide, by decide, by decide⟩, _, _, rfl, rfl, _, _, rfl, rfl, (by decide), _, _, rfl, rfl, ⟨by decide, by decide +kernel⟩, ?_⟩
    exact q
end
def Fits (ns ms : List Int) (late : Int) : Prop := ns.length = ms.length ∧ ∀ (i : Nat) (x y : Int), ns[i]? = some x → ms[i]? = some y → x ≤ y ∧ y ≤ x + late
section
variable {P : Program} {w : World} {K : PySem.W.Frag} {mg : Str → Option Value} {base : Heap}
def spFits (K : PySem.W.Frag) : Sp := fun vs H Q _ => ∃ (a b : Addr) (ns ms : List Int) (late : Int), vs = [.ref a, .ref b, .int late] ∧ SqL K H a (ns.map V.int) ∧ SqL K H b (ms.map V.int) ∧ ns.length ≤ 64 ∧
  ∀ (t : Bool) (H' : Hp), Same H H' → (t = true ↔ Fits ns ms late) → Q (.bl t) H'
theorem sc_can_come : FnScope ["row", "reading", "late", "rung", "came"] ["row", "reading", "late"] (defScope st_can_come) := ⟨rfl, rfl, rfl, by decide +kernel, rfl, by decide +kernel, by decide +kernel⟩
theorem ok_can_come (D : Def K mg "can_come" st_can_come ["row", "reading", "late"]) (T : Txt K mg) : Fn P w K mg base 1 "can_come" ["row", "reading", "late"] (spFits K) := by
  refine D.fn sc_can_come (fun vs H Q E h => ?_) (fun f cdv A outer s H vs Q E hr h => ?_)
  · obtain ⟨a, b, ns, ds, l, rfl, _⟩ := h
    rfl
  · obtain ⟨a, b, ns, ms, late, rfl, hA, hB, hl, q⟩ := h
    refine ⟨_, (pss_cons (ps_if (pt_cmpR op_neI (pe_callB call_len_seq (by rfl) T.z_len b_len (pa_cons (pv 0) pa_nil)) (pe_callB call_len_seq (by rfl) T.z_len b_len (pa_cons (pv 1) pa_nil)) (nomark _))
        (pss_one (ps_ret pe_bl))
        pss_nil)
      (pss_cons (ps_for PassesOwn.never rfl (pi_zip (by rfl) T.z_zip (pa_cons (pv 0) (pa_cons (pv 1) pa_nil))) (pg_tup (n := 2) rfl (pgs_cons (pg_name (i := 3) sc_can_come.nd rfl (Or.inl rfl)) (pgs_cons (pg_name (i := 4) sc_can_come.nd rfl (Or.inl rfl)) pgs_nil)))
        (pss_one (ps_if (pw_or (pt_cmpR op_ltI (pv 4) (pv 3) (nomark _)) (pw_or1 (pt_cmpR op_gtI (pv 4) (pe_op op_addI (pv 3) (pv 2)) (nomark _)))).pt
          (pss_one (ps_ret pe_bl))
          pss_nil)))
      (pss_one (ps_ret pe_bl)))), ?_⟩
    refine ⟨_, rfl, _, _, rfl, .inl hA, _, rfl, _, _, rfl, .inl hB, _, _, rfl, rfl, _, rfl, ?_⟩
    rw [List.length_map, List.length_map]
    refine ifND (fun h => ?_) (fun h => ?_)
    · exact q false H (Same.refl H) ⟨fun z => Bool.noConfusion z, fun z => absurd z.1 (by omega)⟩
    · have hlen : ns.length = ms.length := by omega
      refine ⟨_, rfl, _, rfl, a, b, _, _, rfl, hA, hB, for_zip (K := K) (a := a) (b := b) (xs := ns.map V.int) (ys := ms.map V.int) (fun i σ H2 => ∃ v3 v4 : Option V, σ = [some (.ref a), some (.ref b), some (.int late), v3, v4] ∧ Same H H2 ∧ ∀ (j : Nat) (x y : Int), j < i → ns[j]? = some x → ms[j]? = some y → x ≤ y ∧ y ≤ x + late)
        ⟨none, none, rfl, Same.refl H, fun j _ _ hj => absurd hj (Nat.not_lt_zero _)⟩ (fun i σ H2 ⟨_, _, _, sm, _⟩ => ⟨sm.seq hA, sm.seq hB⟩) ?_ ?_⟩
      · rintro i x y t σ H2 hx hy ⟨v3, v4, rfl, sm, done⟩ ht
        rw [List.getElem?_map] at hx hy
        obtain ⟨x', hx', rfl⟩ := Option.map_eq_some_iff.mp hx
        obtain ⟨y', hy', rfl⟩ := Option.map_eq_some_iff.mp hy
        refine ⟨t, _, rfl, SqT.of upd_same, rfl, _, _, rfl, _, _, rfl, rfl, _, rfl, _, rfl, _, _, rfl, rfl, _, rfl, ifD (fun h => ?_) (fun h => ⟨_, rfl, _, rfl, _, rfl, _, _, rfl, rfl, _, _, rfl, rfl, _, rfl, ifD (fun h2 => ?_) (fun h2 => ?_)⟩)⟩
        · exact q false _ (sm.put ht) ⟨fun z => Bool.noConfusion z, fun z => by have := z.2 i x' y' hx' hy'; omega⟩
        · exact q false _ (sm.put ht) ⟨fun z => Bool.noConfusion z, fun z => by have := z.2 i x' y' hx' hy'; omega⟩
        · refine ⟨_, _, rfl, sm.put ht, fun j x y hj hxj hyj => ?_⟩
          by_cases e : j = i
          · subst e
            rw [hx'] at hxj; rw [hy'] at hyj
            cases hxj; cases hyj
            omega
          · exact done j x y (by omega) hxj hyj
      · rintro σ H2 ⟨v3, v4, rfl, sm, done⟩
        refine q true H2 sm ⟨fun _ => ⟨hlen, fun j x y hx hy => done j x y ?_ hx hy⟩, fun _ => rfl⟩
        rw [List.length_map, List.length_map]
        have := (List.getElem?_eq_some_iff.mp hx).1
        have := (List.getElem?_eq_some_iff.mp hy).1
        omega
end
def boxL (late : Int) (ns : List Int) : List Int := (List.range ns.length).map fun i => (ns.getD i 0 - (i : Int)) / (late + 1)
theorem boxL_get {late : Int} {ns : List Int} {i : Nat} {x : Int} (h : ns[i]? = some x) : (boxL late ns)[i]? = some ((x - (i : Int)) / (late + 1)) := by
  have hi := (List.getElem?_eq_some_iff.mp h).1
  unfold boxL
  rw [List.getElem?_map, List.getElem?_range hi]
  simp [List.getD_eq_getElem?_getD, h]
structure BoxL (bs : List Int) : Prop where
  inc : bs.Pairwise (· ≤ ·)
  nn : ∀ x ∈ bs, 0 ≤ x
  sz : ∀ x ∈ bs, x < 2 ^ 200
def Szs (m : Nat) (ns : List Int) : Prop := ∀ x ∈ ns, intBits x ≤ m
theorem BoxL.szs {bs : List Int} (h : BoxL bs) : Szs 200 bs := fun x hx => bits_of (h.nn x hx) (h.sz x hx)
theorem RowL.szs {bs : List Int} (h : RowL bs) : Szs 200 bs := fun x hx => bits_of (h.nn x hx) (h.sz x hx)
section
variable {P : Program} {w : World} {K : PySem.W.Frag} {mg : Str → Option Value} {base : Heap}
def spBoxOf (K : PySem.W.Frag) : Sp := fun vs H Q _ => ∃ (a : Addr) (ns : List Int) (late : Int), vs = [.ref a, .int late] ∧ SqL K H a (ns.map V.int) ∧ ns.length ≤ 1000 ∧ 0 ≤ late ∧ intBits late ≤ 8000 ∧
  ∀ (p : Addr) (H' : Hp), Same H H' → H p = none → H' p = some (.lst ((boxL late ns).map V.int)) → Q (.ref p) H'
end
section
variable {P : Program} {w : World} {K : PySem.W.Frag} {mg : Str → Option Value} {base : Heap}
theorem sc_box_of : FnScope ["row", "late"] ["row", "late"] (defScope st_box_of) := ⟨rfl, rfl, rfl, by decide +kernel, rfl, by decide +kernel, by decide +kernel⟩
theorem ok_box_of (D : Def K mg "box_of" st_box_of ["row", "late"]) (T : Txt K mg) : Fn P w K mg base 1 "box_of" ["row", "late"] (spBoxOf K) := by
  refine D.fn sc_box_of (fun vs H Q E h => ?_) (fun f cdv A outer s H vs Q E hr h => ?_)
  · obtain ⟨a, ns, late, rfl, _⟩ := h
    rfl
  · obtain ⟨a, ns, late, rfl, hA, hl, l0, lb, q⟩ := h
    refine ⟨_, (pss_one (ps_ret (pe_comp (own := ["place", "turn"]) (fr := ["late"]) (ix := [1]) rfl ⟨rfl, rfl, rfl, rfl, rfl, rfl⟩ (pi_enumL (by rfl) T.z_enumerate (pa_cons (pv 0) pa_nil)) (fun _ _ _ _ _ => (pg_tupK K (n := 2) rfl (pgs_cons (pg_name (i := 0) (show (["place", "turn", "late"] : List Str).Nodup by decide +kernel) rfl (Or.inl rfl)) (pgs_cons (pg_name (i := 1) (show (["place", "turn", "late"] : List Str).Nodup by decide +kernel) rfl (Or.inl rfl)) pgs_nil)))) (fun _ _ _ _ _ => pts_nil) (fun _ _ _ _ _ => (pe_op op_fdivB (pe_op op_subI (pv 1) (pv 0)) (pe_op op_addI (pv 2) pe_int)))))), ?_⟩
    have lb1 : intBits (late + 1) ≤ 9000 := bits_mono (intBits_add_le (m := 8000) (n := 1) lb (by decide)) (by decide)
    refine ⟨_, rfl, a, _, rfl, hA, fun acc hacc => comp_enumP (K := K) (a := a) (xs := ns.map V.int) (fun i => V.int ((ns.getD i 0 - (i : Int)) / (late + 1))) hA hacc ?_ ?_ ?_⟩
    · rw [List.length_map]; exact Nat.le_of_lt (small1000 hl)
    · intro i x t H2 R hx sm ht hR
      rw [List.getElem?_map] at hx
      obtain ⟨x', hx', rfl⟩ := Option.map_eq_some_iff.mp hx
      simp only [List.getD_eq_getElem?_getD, hx', Option.getD_some] at hR
      exact ⟨t, _, rfl, SqT.of ht, rfl, _, _, rfl, _, _, rfl, rfl, rfl, _, rfl, _, rfl, _, _, rfl, rfl, _, rfl, _, _, rfl, rfl, _, _, rfl, rfl, ⟨by omega, lb1⟩, hR⟩
    · intro H2 sm ha
      rw [List.length_map] at ha
      refine q acc H2 sm hacc ?_
      rw [ha]
      unfold boxL
      rw [List.map_map]
      rfl
end
def Near (ns ms : List Int) (late : Int) : Prop := ∀ (i : Nat) (x y : Int), ns[i]? = some x → ms[i]? = some y → x ≤ y + late ∧ y ≤ x + late
section
variable {P : Program} {w : World} {K : PySem.W.Frag} {mg : Str → Option Value} {base : Heap}
def spAlikeG (K : PySem.W.Frag) : Sp := fun vs H Q _ => ∃ (a b : Addr) (ns ms : List Int) (late : Int), vs = [.ref a, .ref b, .int late] ∧ SqL K H a (ns.map V.int) ∧ SqL K H b (ms.map V.int) ∧ ns.length ≤ 64 ∧ 0 ≤ late ∧
  ∀ (t : Bool) (H' : Hp), Same H H' → (t = true ↔ ns.length = ms.length ∧ Near ns ms late) → Q (.bl t) H'
theorem sc_alike : FnScope ["one", "other", "late", "first", "second"] ["one", "other", "late"] (defScope st_alike) := ⟨rfl, rfl, rfl, by decide +kernel, rfl, by decide +kernel, by decide +kernel⟩
theorem ok_alikeG (D : Def K mg "alike" st_alike ["one", "other", "late"]) (T : Txt K mg) : Fn P w K mg base 1 "alike" ["one", "other", "late"] (spAlikeG K) := by
  refine D.fn sc_alike (fun vs H Q E h => ?_) (fun f cdv A outer s H vs Q E hr h => ?_)
  · obtain ⟨a, b, ns, ds, l, rfl, _⟩ := h
    rfl
  · obtain ⟨a, b, ns, ms, late, rfl, hA, hB, hl, l0, q⟩ := h
    refine ⟨_, (pss_cons (ps_if (pt_cmpR op_neI (pe_callB call_len_seq (by rfl) T.z_len b_len (pa_cons (pv 0) pa_nil)) (pe_callB call_len_seq (by rfl) T.z_len b_len (pa_cons (pv 1) pa_nil)) (nomark _))
        (pss_one (ps_ret pe_bl))
        pss_nil)
      (pss_cons (ps_for PassesOwn.never rfl (pi_zip (by rfl) T.z_zip (pa_cons (pv 0) (pa_cons (pv 1) pa_nil))) (pg_tup (n := 2) rfl (pgs_cons (pg_name (i := 3) sc_alike.nd rfl (Or.inl rfl)) (pgs_cons (pg_name (i := 4) sc_alike.nd rfl (Or.inl rfl)) pgs_nil)))
        (pss_one (ps_if (pt_cmpR op_gtI (pe_callB call_abs (by rfl) T.z_abs b_abs (pa_cons (pe_op op_subI (pv 3) (pv 4)) pa_nil)) (pv 2) (nomark _))
          (pss_one (ps_ret pe_bl))
          pss_nil)))
      (pss_one (ps_ret pe_bl)))), ?_⟩
    refine ⟨_, rfl, _, _, rfl, .inl hA, _, rfl, _, _, rfl, .inl hB, _, _, rfl, rfl, _, rfl, ?_⟩
    rw [List.length_map, List.length_map]
    refine ifND (fun h => ?_) (fun h => ?_)
    · exact q false H (Same.refl H) ⟨fun z => Bool.noConfusion z, fun z => absurd z.1 (by omega)⟩
    · have hlen : ns.length = ms.length := by omega
      refine ⟨_, rfl, _, rfl, a, b, _, _, rfl, hA, hB, for_zip (K := K) (a := a) (b := b) (xs := ns.map V.int) (ys := ms.map V.int) (fun i σ H2 => ∃ v3 v4 : Option V, σ = [some (.ref a), some (.ref b), some (.int late), v3, v4] ∧ Same H H2 ∧ ∀ (j : Nat) (x y : Int), j < i → ns[j]? = some x → ms[j]? = some y → x ≤ y + late ∧ y ≤ x + late)
        ⟨none, none, rfl, Same.refl H, fun j _ _ hj => absurd hj (Nat.not_lt_zero _)⟩ (fun i σ H2 ⟨_, _, _, sm, _⟩ => ⟨sm.seq hA, sm.seq hB⟩) ?_ ?_⟩
      · rintro i x y t σ H2 hx hy ⟨v3, v4, rfl, sm, done⟩ ht
        rw [List.getElem?_map] at hx hy
        obtain ⟨x', hx', rfl⟩ := Option.map_eq_some_iff.mp hx
        obtain ⟨y', hy', rfl⟩ := Option.map_eq_some_iff.mp hy
        refine ⟨t, _, rfl, SqT.of upd_same, rfl, _, _, rfl, _, _, rfl, rfl, _, rfl, _, rfl, _, _, rfl, rfl, _, rfl, _, rfl, _, _, rfl, rfl, _, rfl, ?_⟩
        have hab : ((late < if x' - y' < 0 then -(x' - y') else x' - y') ↔ ¬ (x' ≤ y' + late ∧ y' ≤ x' + late)) := by split <;> omega
        generalize (if x' - y' < 0 then -(x' - y') else x' - y') = ab at hab ⊢
        refine ifD (fun h => ?_) (fun h => ?_)
        · exact q false _ (sm.put ht) ⟨fun z => Bool.noConfusion z, fun z => absurd (z.2 i x' y' hx' hy') (hab.mp h)⟩
        · refine ⟨_, _, rfl, sm.put ht, fun j x y hj hxj hyj => ?_⟩
          by_cases e : j = i
          · subst e
            rw [hx'] at hxj; rw [hy'] at hyj
            cases hxj; cases hyj
            exact Decidable.byContradiction fun z => h (hab.mpr z)
          · exact done j x y (by omega) hxj hyj
      · rintro σ H2 ⟨v3, v4, rfl, sm, done⟩
        refine q true H2 sm ⟨fun _ => ⟨hlen, fun j x y hx hy => done j x y ?_ hx hy⟩, fun _ => rfl⟩
        rw [List.length_map, List.length_map]
        have := (List.getElem?_eq_some_iff.mp hx).1
        have := (List.getElem?_eq_some_iff.mp hy).1
        omega
end
def mx (i j : Int) : Int := if j > i then j else i
def maxs (ns ms : List Int) : List Int := List.zipWith mx ns ms
theorem range_maxs (ns ds : List Int) (h : ns.length = ds.length) : (List.range (min ns.length ds.length)).map (fun i => V.int (mx (ns.getD i 0) (ds.getD i 0))) = (maxs ns ds).map V.int := by
  refine List.ext_getElem? fun i => ?_
  unfold maxs
  rw [List.getElem?_map, List.getElem?_map, List.getElem?_zipWith]
  by_cases hi : i < ns.length
  · have hi2 : i < ds.length := by omega
    rw [List.getElem?_range (by omega), List.getElem?_eq_getElem hi, List.getElem?_eq_getElem hi2]
    simp only [Option.map_some, List.getD_eq_getElem?_getD, List.getElem?_eq_getElem hi, List.getElem?_eq_getElem hi2, Option.getD_some]
  · rw [List.getElem?_eq_none (by rw [List.length_range]; omega), List.getElem?_eq_none (l := ns) (by omega)]
    cases ds[i]? <;> rfl
theorem maxs_len {ns ms : List Int} (h : ns.length = ms.length) : (maxs ns ms).length = ns.length := by
  unfold maxs; rw [List.length_zipWith]; omega
theorem maxs_at {ns ms : List Int} {i : Nat} {x y z : Int} (hx : ns[i]? = some x) (hy : ms[i]? = some y) (hz : (maxs ns ms)[i]? = some z) : z = mx x y := by
  unfold maxs at hz
  rw [List.getElem?_zipWith, hx, hy] at hz
  exact (Option.some.inj hz).symm
theorem fits_maxs {ns ms : List Int} {late : Int} (h : ns.length = ms.length) (l0 : 0 ≤ late) : Near ns ms late ↔ Fits ns (maxs ns ms) late ∧ Fits ms (maxs ns ms) late := by
  have hm := maxs_len h
  constructor
  · intro n
    refine ⟨⟨hm.symm, fun i x z hx hz => ?_⟩, ⟨by omega, fun i y z hy hz => ?_⟩⟩
    · have hi : i < ms.length := by rw [← h]; exact (List.getElem?_eq_some_iff.mp hx).1
      have hy := List.getElem?_eq_getElem hi
      have := n i _ _ hx hy
      rw [maxs_at hx hy hz]; unfold mx; split <;> omega
    · have hi : i < ns.length := by rw [h]; exact (List.getElem?_eq_some_iff.mp hy).1
      have hx := List.getElem?_eq_getElem hi
      have := n i _ _ hx hy
      rw [maxs_at hx hy hz]; unfold mx; split <;> omega
  · rintro ⟨f1, f2⟩ i x y hx hy
    have hi : i < (maxs ns ms).length := by rw [hm]; exact (List.getElem?_eq_some_iff.mp hx).1
    have hz := List.getElem?_eq_getElem hi
    have a1 := f1.2 i _ _ hx hz
    have a2 := f2.2 i _ _ hy hz
    omega
section
variable {P : Program} {w : World} {K : PySem.W.Frag} {mg : Str → Option Value} {base : Heap}
def spBoth (K : PySem.W.Frag) : Sp := fun vs H Q _ => ∃ (a b : Addr) (ns ms : List Int) (late : Int), vs = [.ref a, .ref b, .int late] ∧ SqL K H a (ns.map V.int) ∧ SqL K H b (ms.map V.int) ∧ ns.length = ms.length ∧ ns.length ≤ 64 ∧ 0 ≤ late ∧
  (∀ (p : Addr) (H' : Hp), Near ns ms late → Same H H' → H p = none → H' p = some (.lst ((maxs ns ms).map V.int)) → Q (.ref p) H') ∧ (∀ H' : Hp, ¬ Near ns ms late → Same H H' → Q .non H')
theorem sc_reading_of_both : FnScope ["one", "other", "late", "earliest"] ["one", "other", "late"] (defScope st_reading_of_both) := ⟨rfl, rfl, rfl, by decide +kernel, rfl, by decide +kernel, by decide +kernel⟩
theorem ok_both (D : Def K mg "reading_of_both" st_reading_of_both ["one", "other", "late"]) (T : Txt K mg) (G_can_come : Fn P w K mg base 1 "can_come" ["row", "reading", "late"] (spFits K)) : Fn P w K mg base 2 "reading_of_both" ["one", "other", "late"] (spBoth K) := by
  refine D.fn sc_reading_of_both (fun vs H Q E h => ?_) (fun f cdv A outer s H vs Q E hr h => ?_)
  · obtain ⟨a, b, ns, ds, l, rfl, _⟩ := h
    rfl
  · obtain ⟨a, b, ns, ms, late, rfl, hA, hB, hlen, hl, l0, q1, q2⟩ := h
    have eqv := fits_maxs hlen l0
    refine ⟨_, (pss_cons (ps_setC (k := 3) (own := ["first", "second"]) (fr := []) (ix := []) rfl sc_reading_of_both.nd rfl rfl ⟨rfl, rfl, rfl, rfl, rfl, rfl⟩ (pi_zip (by rfl) T.z_zip (pa_cons (pv 0) (pa_cons (pv 1) pa_nil))) (fun _ _ _ _ _ => (pg_tupK K (n := 2) rfl (pgs_cons (pg_name (i := 0) (show (["first", "second"] : List Str).Nodup by decide +kernel) rfl (Or.inl rfl)) (pgs_cons (pg_name (i := 1) (show (["first", "second"] : List Str).Nodup by decide +kernel) rfl (Or.inl rfl)) pgs_nil)))) (fun _ _ _ _ _ => pts_nil) (fun _ _ _ _ _ => (pe_callB (call_max2 rfl) (by rfl) T.z_max b_max (pa_cons (pv 0) (pa_cons (pv 1) pa_nil)))))
      (pss_cons (ps_if (pw_and (pt_val (pe_fn G_can_come (hr.mono (by decide)) (by rfl) (pa_cons (pv 0) (pa_cons (pv 3) (pa_cons (pv 2) pa_nil))))) (pw_and1 (pt_val (pe_fn G_can_come (hr.mono (by decide)) (by rfl) (pa_cons (pv 1) (pa_cons (pv 3) (pa_cons (pv 2) pa_nil))))))).pt
        (pss_one (ps_ret (pv 3)))
        pss_nil)
      (pss_one (ps_ret pe_non)))), ?_⟩
    refine ⟨_, rfl, _, rfl, a, b, _, _, rfl, hA, hB, fun acc hacc => comp_zipP (K := K) (a := a) (b := b) (xs := ns.map V.int) (ys := ms.map V.int) (fun i => V.int (mx (ns.getD i 0) (ms.getD i 0))) hA hB hacc ?_ ?_ ?_⟩
    · rw [List.length_map]; exact Nat.le_of_lt (small1000 (by omega))
    · intro i x y t H2 R hx hy sm ht hR
      rw [List.getElem?_map] at hx hy
      obtain ⟨x', hx', rfl⟩ := Option.map_eq_some_iff.mp hx
      obtain ⟨y', hy', rfl⟩ := Option.map_eq_some_iff.mp hy
      refine ⟨t, _, rfl, SqT.of ht, rfl, _, _, rfl, _, _, rfl, rfl, rfl, _, rfl, _, rfl, _, _, rfl, ?_⟩
      simp only [List.getD_eq_getElem?_getD, hx', hy', Option.getD_some] at hR
      exact hR
    · intro H2 sm ha
      rw [List.length_map, List.length_map, range_maxs ns ms hlen] at ha
      refine ⟨_, rfl, _, rfl, _, rfl, a, acc, ns, maxs ns ms, late, rfl, sm.seq hA, SqL.of ha, hl, fun t1 H3 s3 ht1 => ?_⟩
      have s03 := sm.trans s3
      have ha3 := s3 _ _ ha
      refine ⟨_, rfl, ?_⟩
      cases t1 with
      | false => exact iteF (q2 _ (fun n => Bool.noConfusion (ht1.mpr (eqv.mp n).1)) s03)
      | true =>
        refine iteT ⟨_, rfl, _, rfl, _, rfl, b, acc, ms, maxs ns ms, late, rfl, s03.seq hB, SqL.of ha3, by omega, fun t2 H4 s4 ht2 => ⟨_, rfl, ?_⟩⟩
        cases t2 with
        | false => exact iteF (q2 _ (fun n => Bool.noConfusion (ht2.mpr (eqv.mp n).2)) (s03.trans s4))
        | true => exact iteT ⟨_, rfl, q1 acc _ (eqv.mpr ⟨ht1.mp rfl, ht2.mp rfl⟩) (s03.trans s4) hacc (s4 _ _ ha3)⟩
end
theorem pget {α β : Type} {R : α → β → Prop} : ∀ {l : List α} {m : List β}, Paired R l m → ∀ {i : Nat} {a : α}, l[i]? = some a → ∃ b, m[i]? = some b ∧ R a b
  | _, _, .nil, _, _, h => by simp at h
  | _, _, .cons r _, 0, _, h => by
    simp at h
    subst h
    exact ⟨_, rfl, r⟩
  | _, _, .cons _ t, i + 1, _, h => by
    simp at h
    obtain ⟨b, hb, r⟩ := pget t h
    exact ⟨b, by simpa using hb, r⟩
theorem plen {α β : Type} {R : α → β → Prop} : ∀ {l : List α} {m : List β}, Paired R l m → l.length = m.length
  | _, _, .nil => rfl
  | _, _, .cons _ t => by rw [List.length_cons, List.length_cons, plen t]
theorem LL.at {H : Hp} {as : List Addr} {nss : List (List Int)} (h : Paired (fun b (ns : List Int) => H b = some (.lst (ns.map V.int))) as nss) {i : Nat} {ns : List Int} (hn : nss[i]? = some ns) : ∃ b, as[i]? = some b ∧ H b = some (.lst (ns.map V.int)) := by
  have hl := plen h
  have hi : i < as.length := by rw [hl]; exact (List.getElem?_eq_some_iff.mp hn).1
  obtain ⟨z, hz, r⟩ := pget h (List.getElem?_eq_getElem hi)
  rw [hn] at hz
  cases hz
  exact ⟨_, List.getElem?_eq_getElem hi, r⟩
theorem call_list_ofK {X : Cx} (K : PySem.W.Frag) (hK : X.K = K := by rfl) : CallR X (.type "list") (fun xs H Q => ∃ p ys, xs = [V.ref p] ∧ (SqL K H p ys ∨ SqT K H p ys) ∧ ∀ l, H l = none → Q (.ref l) (upd H l (.lst ys))) := by subst hK; exact call_list_of
theorem cut1 {c : TT} {tA tB R : TS} {D : Ends} {σ : St} {H : Hp} (Pre : St → Hp → Prop) (tail : ∀ σ H, Pre σ H → R D σ H) (h : ∀ N : St → Hp → Prop, (∀ σ H, Pre σ H → N σ H) → tIfS c tA tB { D with nx := N } σ H) : tSeq (tIfS c tA tB) R D σ H := h (fun σ H => R D σ H) tail
theorem LL.of {H : Hp} : ∀ {ys : List V} {nss : List (List Int)}, ys.length = nss.length → (∀ (i : Nat) (v : V) (ns : List Int), ys[i]? = some v → nss[i]? = some ns → ∃ b, v = .ref b ∧ H b = some (.lst (ns.map V.int))) → ∃ as : List Addr, ys = as.map V.ref ∧ Paired (fun b (ns : List Int) => H b = some (.lst (ns.map V.int))) as nss
  | [], [], _, _ => ⟨[], rfl, .nil⟩
  | [], _ :: _, h, _ => by simp at h
  | _ :: _, [], h, _ => by simp at h
  | y :: ys, ns :: nss, h, f => by
    obtain ⟨b, rfl, hb⟩ := f 0 y ns rfl rfl
    obtain ⟨as, e, p⟩ := LL.of (ys := ys) (nss := nss) (by simpa using h) fun i v ns h1 h2 => f (i + 1) v ns (by simpa using h1) (by simpa using h2)
    exact ⟨b :: as, by rw [e]; rfl, .cons hb p⟩
section
open PySem.Spec PyProof.Rows
variable {X : Cx}
theorem draw_walk {prog : Program} {w : World} {A : Around} {I : Addr} {fp wr : List Addr} {N : Nat} {Pv : Nat → Value → Prop} {S : Nat → Heap → Prop} (W : PySem.Walks prog w A I fp wr N Pv S) : ∀ (n i : Nat) (s : Shared) (Q : List Value → Shared → Prop) (E : Value → Shared → Prop), i + n = N → S i s.heap →
    (∀ (vs : List Value) (h' : Heap) (tk : Nat), vs.length = n → (∀ j v, vs[j]? = some v → Pv (i + j) v) → S N h' → (∀ b o, ¬ b ∈ wr → s.heap.get? b = some o → h'.get? b = some o) → Q vs { s with heap := h', toks := tk }) →
    wpAny (model prog w) A (draw (.ref I) n) Q E s
  | 0, i, s, Q, E, hn, st, k => by
    rw [PySem.draw.eq_1]
    have e : i = N := by omega
    subst e
    exact wpAny_pure (k [] s.heap s.toks rfl (fun j v h => by simp at h) st (fun b o _ h => h))
  | n + 1, i, s, Q, E, hn, st, k => by
    rw [PySem.draw.eq_2]
    refine wpAny_bind (W.item i s _ _ (by omega) st fun v h' tk pv st' kk => ?_)
    refine wpAny_bind (wpAny_holding (draw_walk W n (i + 1) _ _ _ (by omega) st' fun vs h2 tk2 vl vp st2 k2 => ?_))
    refine wpAny_pure (k (v :: vs) h2 tk2 (by rw [List.length_cons, vl]) (fun j x hj => ?_) st2 (fun b o hb h => k2 b o hb (kk b o hb h)))
    cases j with
    | zero =>
      have e : v = x := by simpa using hj
      subst e
      exact pv
    | succ j =>
      have := vp j x (by simpa using hj)
      rwa [show i + 1 + j = i + (j + 1) by omega] at this
def gLstU (K : PySem.W.Frag) (n : Nat) (t : TGs) : TG := fun v σ H Q => ∃ a xs, v = .ref a ∧ SqL K H a xs ∧ xs.length = n ∧ t xs σ H Q
theorem pg_lstU {es : List Expr} {k : Nat} {t : TGs} {n : Nat} {pos : Pos} (hc : X.calm = true) (h : PGs X es t)
    (hn : (assignEach es X.env).length = n := by rfl) (hst : (assignEach es X.env).findIdx? (·.1) = none := by rfl) : PG X (.Tuple es k pos) (gLstU X.K n t) := by
  intro pins s σ H v u Q I r hw
  obtain ⟨a, xs, e1, hq, hl, hw⟩ := hw
  subst e1
  cases r
  obtain ⟨its, rv, pl, hz⟩ := I.list hq
  have il := pl.isList
  rw [assign_Tuple]
  refine wpAny_bind (wpAny_standAt ?_)
  unfold PySem.unpack
  rw [hst, hn]
  refine wpAny_bind (wpAny_holding ?_)
  unfold PySem.unpackItems PySem.notIterableAtAll
  have ty : s.TypeIs (.ref a) "list" := by
    obtain ⟨o, ho, hc', _⟩ := il
    exact ⟨o, ho, hc'⟩
  refine wpAny_bind (wpAny_bind (wpAny_specialOf ty F.slot_list_iter.lookup ?_))
  simp only [Option.isSome_some, ↓reduceIte]
  refine wpAny_pure ?_
  simp only [Bool.false_eq_true, ↓reduceIte]
  refine wpAny_bind (wpAny_holding (wpAny_pyIter_list il ?_))
  have lt : a < s.heap.objs.size := by
    obtain ⟨o, ho, _⟩ := il
    exact Heap.lt_size ho
  have hne : a ≠ s.heap.objs.size := Nat.ne_of_lt lt
  have il2 : (s.heap.push { cls := .type "list_iterator", data := .fields #[.ref a, .int 0 0] }).IsList a its.toArray := by
    obtain ⟨o, ho, r⟩ := il
    exact ⟨o, Heap.get?_push_of_some _ ho, r⟩
  have W := PySem.Walks.list (prog := X.prog) (w := X.w) (I.ok.hd hc) s.heap.objs.size a hne its.toArray
  have sz : its.toArray.size = n := by rw [List.size_toArray, ← rv.length, hl]
  refine wpAny_bind (wpAny_holding (draw_walk W n 0 _ _ _ (by rw [sz]; omega) ⟨?_, il2⟩ fun vs h' tk vl vp st k => ?_))
  · exact ⟨_, Heap.get?_push_size _ rfl, rfl, rfl⟩
  rw [if_neg (by omega)]
  have sz2 : { s with heap := h', toks := tk }.heap = h' := rfl
  refine wpAny_bind (wpAny_holding (W.done _ _ _ ?_ fun h2 tk2 k2 => ?_))
  · exact st
  simp only [Option.isSome_none, Bool.false_eq_true, ↓reduceIte]
  refine wpAny_pure ?_
  have I1 : L2.Inv X pins σ H { s with heap := h2, toks := tk2 } := I.kept (t' := tk2) fun b o e => by
    have hb : ¬ b ∈ [s.heap.objs.size] := by
      intro z
      have z' := List.mem_singleton.mp z
      have lt' := Heap.lt_size e
      rw [z'] at lt'
      exact Nat.lt_irrefl _ lt'
    exact k2 b o hb (k b o hb (Heap.get?_push_of_some _ e))
  have ev : vs = its := by
    apply List.ext_getElem?
    intro j
    by_cases hj : j < vs.length
    · have := vp j _ (List.getElem?_eq_getElem hj)
      rw [Nat.zero_add] at this
      rw [List.getElem?_eq_getElem hj]
      simpa using this.symm
    · have hl2 : its.length = n := by rw [← rv.length, hl]
      rw [List.getElem?_eq_none (by omega), List.getElem?_eq_none (by omega)]
  rw [ev]
  exact h pins _ σ H xs _ Q I1 rv hw
end
section
open PySem.Spec PyProof.Rows PySem.SeqAt
abbrev dTI (ns : List Int) : PyData := .tuple (ns.map PyData.int)
theorem shaped_dTI (ns : List Int) : shaped (dTI ns) = true := by
  have h1 := PySem.W.depthAll_ints ns
  have h2 : PyData.depth (dTI ns) ≤ 64 := by simp only [PyData.depth]; omega
  show (PyData.canLay0 (dTI ns) && decide (PyData.depth (dTI ns) ≤ 64)) = true
  rw [Bool.and_eq_true]
  exact ⟨by simp only [PyData.canLay0]; exact PySem.W.canLayAll0_ints ns, decide_eq_true h2⟩
theorem noMix_dTI (ns ms : List Int) : noMix (dTI ns) (dTI ms) = true := by
  simp only [noMix]; exact PySem.W.noMix_ints ns ms
theorem same_dTI (ns ms : List Int) : PySem.Spec.same (dTI ns) (dTI ms) = decide (ns = ms) := by
  simp only [PySem.Spec.same]; exact PySem.W.same_ints ns ms
theorem readsT {X : Cx} {pins : List (Addr × Obj)} {σ : L2.St} {H : Hp} {s : Shared} (I : Inv X pins σ H s) {a : Addr} {ns : List Int} (h : SqT X.K H a (ns.map V.int)) : ∃ bs, Reads s.heap (.ref a) (dTI ns) bs := by
  obtain ⟨its, r, ⟨o, ho, hc, n, hd⟩, z⟩ := I.tuple h
  exact ⟨_, .tuple ho hc hd (by simpa using PySem.W.readsAll_of_ints (intsAre_of r))⟩
def rNeT (K : PySem.W.Frag) : R2 := fun x y H Q => ∃ (a b : Addr) (ns ms : List Int), x = .ref a ∧ y = .ref b ∧ SqT K H a (ns.map V.int) ∧ SqT K H b (ms.map V.int) ∧ Q (.bl (!decide (ns = ms))) H
variable {X : Cx}
theorem op_neT (hu : X.A.units + 64 < cLine) : OpR X (compareOp .NotEq) (rNeT X.K) := by
  intro pins s σ H x y v u Q I rx ry h
  obtain ⟨a, b, ns, ms, rfl, rfl, h1, h2, q⟩ := h
  cases rx; cases ry
  obtain ⟨_, r1⟩ := readsT I h1
  obtain ⟨_, r2⟩ := readsT I h2
  exact ne_dataH_same r1 r2 (shaped_dTI ns) (shaped_dTI ms) hu (noMix_dTI ns ms) (by rw [same_dTI]; exact ⟨.bl _, H, I, rfl, q⟩)
end
theorem kit_tuple_tuple (K : PySem.W.Frag) : PySem.W.kitOne K (.type "tuple") (.type "tuple") = some true := by with_unfolding_all rfl
theorem kit_bool_bool (K : PySem.W.Frag) : PySem.W.kitOne K (.type "bool") (.type "bool") = some true := by with_unfolding_all rfl
abbrev Fr := Int × Int × Int
structure FrOk (f : Fr) : Prop where
  b0 : 0 ≤ f.2.1
  b60 : f.2.1 ≤ 60
  l0 : 0 ≤ f.2.2
  lb : intBits f.2.2 ≤ 7000
  t0 : 0 ≤ f.1
  tb : intBits f.1 ≤ 100
theorem take_snoc {α : Type} {l : List α} {n : Nat} {x : α} (h : l[n]? = some x) : l.take (n + 1) = l.take n ++ [x] := by
  rw [List.take_add_one, h]
  rfl
abbrev frV (f : Fr) : HO := .tup [V.int f.1, V.int f.2.1, V.int f.2.2]
def Frs (H : Hp) (p : Addr) (fs : List Fr) : Prop := ∃ as : List Addr, H p = some (.lst (as.map V.ref)) ∧ PySem.Paired (fun b (f : Fr) => H b = some (frV f)) as fs
def Frm (H : Hp) (p : Addr) (fs : List Fr) : Prop := ∃ as : List Addr, H p = some (.lst (as.map V.ref)) ∧ PySem.Paired (fun b (f : Fr) => b ≠ p ∧ H b = some (frV f)) as fs
theorem Frm.frs {H : Hp} {p : Addr} {fs : List Fr} (h : Frm H p fs) : Frs H p fs := by
  obtain ⟨as, e, q⟩ := h
  exact ⟨as, e, paired_imp (fun _ _ z => z.2) q⟩
theorem Frs.same {H H' : Hp} {p : Addr} {fs : List Fr} (s : Same H H') (h : Frs H p fs) : Frs H' p fs := by
  obtain ⟨as, e, q⟩ := h
  exact ⟨as, s _ _ e, paired_imp (fun _ _ z => s _ _ z) q⟩
theorem Frm.same {H H' : Hp} {p : Addr} {fs : List Fr} (s : Same H H') (h : Frm H p fs) : Frm H' p fs := by
  obtain ⟨as, e, q⟩ := h
  exact ⟨as, s _ _ e, paired_imp (fun _ _ z => ⟨z.1, s _ _ z.2⟩) q⟩
def frL (f : Fr) : List Int := [f.1, f.2.1, f.2.2]
theorem paired_mapR {α β γ : Type} {R : α → γ → Prop} {g : β → γ} : ∀ {as : List α} {bs : List β}, PySem.Paired (fun a b => R a (g b)) as bs → PySem.Paired R as (bs.map g)
  | _, _, .nil => .nil
  | _, _, .cons x y => .cons x (paired_mapR y)
theorem Frs.sq {K : PySem.W.Frag} {H : Hp} {p : Addr} {fs : List Fr} (h : Frs H p fs) : SqLT K H p (fs.map frL) := by
  obtain ⟨as, e, q⟩ := h
  exact ⟨as, SqL.of e, paired_mapR (R := fun b ns => SqT K H b (ns.map V.int)) (g := frL) (paired_imp (fun _ _ z => SqT.of z) q)⟩
abbrev Dr (ds ss : List Int) : Prop := PySem.Paired (fun d s => 0 ≤ d ∧ d < s) ds ss
theorem dr_at {ds ss : List Int} (h : Dr ds ss) {i : Nat} {s : Int} (hs : ss[i]? = some s) : ∃ d, ds[i]? = some d ∧ 0 ≤ d ∧ d < s := by
  have hl := paired_len h
  have hi : i < ds.length := by rw [hl]; exact (List.getElem?_eq_some_iff.mp hs).1
  obtain ⟨z, hz, r⟩ := paired_get h (List.getElem?_eq_getElem hi)
  rw [hs] at hz
  cases hz
  exact ⟨_, List.getElem?_eq_getElem hi, r⟩
section
variable {P : Program} {w : World} {K : PySem.W.Frag} {mg : Str → Option Value} {base : Heap}
def spDrawnL (K : PySem.W.Frag) : Sp := fun vs H Q _ => ∃ (c : Int) (a : Addr) (ss : List Int), vs = [.int c, .ref a] ∧ SqL K H a (ss.map V.int) ∧ ss.length ≤ 200 ∧ (∀ s ∈ ss, 0 < s ∧ intBits s ≤ 9000) ∧
  ∀ (p : Addr) (ds : List Int) (H' : Hp), Same H H' → H p = none → H' p = some (.lst (ds.map V.int)) → Dr ds ss → Q (.ref p) H'
theorem sc__law_drawn : FnScope ["cell", "sizes", "found", "rest", "k"] ["cell", "sizes"] (defScope st__law_drawn) := ⟨rfl, rfl, rfl, by decide +kernel, rfl, by decide +kernel, by decide +kernel⟩
theorem ok_drawnL (D : Def K mg "_law_drawn" st__law_drawn ["cell", "sizes"]) (T : Txt K mg) (G__law_stir : Fn P w K mg base 1 "_law_stir" ["cell", "k"] spStir) : Fn P w K mg base 2 "_law_drawn" ["cell", "sizes"] (spDrawnL K) := by
  refine D.fn sc__law_drawn (fun vs H Q E h => ?_) (fun f cdv A outer s H vs Q E hr h => ?_)
  · obtain ⟨a, b, c, rfl, _⟩ := h
    rfl
  · obtain ⟨c, a, ss, rfl, hA, hl, hss, q⟩ := h
    refine ⟨_, (pss_cons (ps_set (i := 2) sc__law_drawn.nd rfl (Or.inl rfl) (pe_lst pa_nil))
      (pss_cons (ps_set (i := 3) sc__law_drawn.nd rfl (Or.inl rfl) (pe_op op_fdivB (pv 0) pe_int))
      (pss_cons (ps_for PassesOwn.never rfl (pi_range1 (by rfl) T.z_range (pa_cons (pe_callB call_len_seq (by rfl) T.z_len b_len (pa_cons (pv 1) pa_nil)) pa_nil)) (pg_name (i := 4) sc__law_drawn.nd rfl (Or.inl rfl))
        (pss_one (ps_if (pt_cmpR op_eqI (pe_op op_modB (pv 0) pe_int) pe_int (nomark _))
          (pss_cons (ps_expr (pe_bm PySem.F.plainAttrs_list PySem.F.slot_list_append PySem.F.type_list_append mt_append (pv 2) (pa_cons (pe_op op_modB (pv 3) (pe_ix ix_list (pv 1) (pv 4) (fun _ _ => rfl))) pa_nil)))
          (pss_one (ps_set (i := 3) sc__law_drawn.nd rfl (Or.inl rfl) (pe_op op_fdivB (pv 3) (pe_ix ix_list (pv 1) (pv 4) (fun _ _ => rfl))))))
          (pss_one (ps_expr (pe_bm PySem.F.plainAttrs_list PySem.F.slot_list_append PySem.F.type_list_append mt_append (pv 2) (pa_cons (pe_op op_modB (pe_fn G__law_stir (hr.mono (by decide)) (by rfl) (pa_cons (pv 3) (pa_cons (pv 4) pa_nil))) (pe_ix ix_list (pv 1) (pv 4) (fun _ _ => rfl))) pa_nil)))))))
      (pss_one (ps_ret (pv 2)))))), ?_⟩
    refine ⟨(by decide), fun p hp => ⟨_, rfl, _, _, rfl, rfl, ⟨by decide, by decide⟩, ?_⟩⟩
    refine ⟨_, rfl, _, _, rfl, .inl ((Same.new hp).seq hA), _, rfl, ?_⟩
    rw [List.length_map]
    refine ⟨by omega, by omega, for_range (n := ss.length) (fun i σ H2 => ∃ (ds : List Int) (rest : Int) (v4 : Option V), σ = [some (.int c), some (.ref a), some (.ref p), some (.int rest), v4] ∧ Same H H2 ∧ H2 p = some (.lst (ds.map V.int)) ∧ Dr ds (ss.take i)) ⟨[], c / 2, none, rfl, Same.new hp, upd_same, .nil⟩ ?_ ?_⟩
    · rintro i σ H2 hi ⟨ds, rest, v4, rfl, sm, hD, hP⟩
      rw [show (0 : Int) + (i : Int) = (i : Int) by omega]
      obtain ⟨s', hs⟩ : ∃ s', ss[i]? = some s' := ⟨_, List.getElem?_eq_getElem hi⟩
      have g := at_map hs
      obtain ⟨s0, sb⟩ := hss s' (List.mem_of_getElem? hs)
      have dl := paired_len hP
      rw [List.length_take] at dl
      refine ⟨_, rfl, _, _, rfl, rfl, (by decide), _, _, rfl, rfl, _, rfl, ifD (fun _ => ?_) (fun _ => ?_)⟩
      · refine ⟨_, rfl, .inl ⟨rfl, _, SqL.of hD⟩, _, rfl, _, rfl, _, rfl, _, _, _, _, rfl, rfl, sm.seq hA, g, _, _, rfl, rfl, s0, _, _, _, rfl, rfl, hD, by rw [List.length_map]; exact small1000 (by omega), ?_⟩
        refine ⟨_, rfl, _, rfl, _, rfl, _, _, _, _, rfl, rfl, (sm.wr hp).seq hA, g, _, _, rfl, rfl, ⟨s0, sb⟩, ?_⟩
        exact ⟨ds ++ [rest % s'], _, _, rfl, sm.wr hp, by rw [upd_same, List.map_append]; rfl, by rw [List.take_add_one, hs]; exact Paired.snoc hP ⟨Int.emod_nonneg _ (by omega), Int.emod_lt_of_pos _ s0⟩⟩
      · refine ⟨_, rfl, .inl ⟨rfl, _, SqL.of hD⟩, _, rfl, _, rfl, rest, (i : Int), rfl, by omega, by omega, _, rfl, _, rfl, _, _, _, _, rfl, rfl, sm.seq hA, g, _, _, rfl, rfl, s0, _, _, _, rfl, rfl, hD, by rw [List.length_map]; exact small1000 (by omega), ?_⟩
        exact ⟨ds ++ [stir rest (i : Int) % s'], _, _, rfl, sm.wr hp, by rw [upd_same, List.map_append]; rfl, by rw [List.take_add_one, hs]; exact Paired.snoc hP ⟨Int.emod_nonneg _ (by omega), Int.emod_lt_of_pos _ s0⟩⟩
    · rintro σ H2 ⟨ds, rest, v4, rfl, sm, hD, hP⟩
      rw [List.take_length] at hP
      exact ⟨_, rfl, q p ds H2 sm hp hD hP⟩
end
theorem call_tuple_ofK (K : PySem.W.Frag) {X : Cx} (hK : X.K = K := by rfl) : CallR X (.type "tuple") (fun xs H Q => ∃ p ys, xs = [.ref p] ∧ ((SqL K H p ys ∧ ∀ l, H l = none → Q (.ref l) (upd H l (.tup ys))) ∨ (SqT K H p ys ∧ Q (.ref p) H))) := by
  subst hK
  exact call_tuple_of
abbrev fr0 : Fr := (0, 0, 0)
def boxesP (fs : List Fr) (rs : List (List Int)) : List (List Int) := (List.range rs.length).map fun i => boxL (fs.getD i fr0).2.2 (rs.getD i [])
structure FitP (fs : List Fr) (rs : List (List Int)) : Prop where
  len : rs.length = fs.length
  row : ∀ (i : Nat) (r : List Int) (f : Fr), rs[i]? = some r → fs[i]? = some f → (r.length : Int) = f.2.1
def NearP (fs : List Fr) (rs ss : List (List Int)) : Prop := ∀ (i : Nat) (f : Fr) (r s : List Int), fs[i]? = some f → rs[i]? = some r → ss[i]? = some s → Near r s f.2.2
theorem boxesP_len (fs : List Fr) (rs : List (List Int)) : (boxesP fs rs).length = rs.length := by unfold boxesP; simp
theorem boxesP_get {fs : List Fr} {rs : List (List Int)} {i : Nat} {r : List Int} {f : Fr} (hr : rs[i]? = some r) (hf : fs[i]? = some f) : (boxesP fs rs)[i]? = some (boxL f.2.2 r) := by
  unfold boxesP
  rw [List.getElem?_map, List.getElem?_range (List.getElem?_eq_some_iff.mp hr).1, Option.map_some, List.getD_eq_getElem?_getD, List.getD_eq_getElem?_getD, hr, hf]
  rfl
theorem tup_snoc {H H' : Hp} {bs : List Addr} {kss : List (List Int)} {b : Addr} {ks : List Int} (p : PySem.Paired (fun b (ks : List Int) => H b = some (.tup (ks.map V.int))) bs kss) (k : ∀ b xs, H b = some (.tup xs) → H' b = some (.tup xs)) (hb : H' b = some (.tup (ks.map V.int))) : PySem.Paired (fun b (ks : List Int) => H' b = some (.tup (ks.map V.int))) (bs ++ [b]) (kss ++ [ks]) :=
  PySem.Paired.snoc (paired_imp (fun _ _ z => k _ _ z) p) hb
section
variable {P : Program} {w : World} {K : PySem.W.Frag} {mg : Str → Option Value} {base : Heap}
def spBoxesP : Sp := fun vs H Q _ => ∃ (a c : Addr) (rs : List (List Int)) (fs : List Fr), vs = [.ref a, .ref c] ∧ LL H a rs ∧ Frs H c fs ∧ (∀ f ∈ fs, FrOk f) ∧ fs.length ≤ 64 ∧ FitP fs rs ∧
  ∀ (p : Addr) (H' : Hp), Same H H' → H p = none → T2 H' p (boxesP fs rs) → Q (.ref p) H'
theorem sc_boxes_of_peal : FnScope ["peal", "frames"] ["peal", "frames"] (defScope st_boxes_of_peal) := ⟨rfl, rfl, rfl, by decide +kernel, rfl, by decide +kernel, by decide +kernel⟩
theorem ok_boxesP (D : Def K mg "boxes_of_peal" st_boxes_of_peal ["peal", "frames"]) (T : Txt K mg) (G_box_of : Fn P w K mg base 1 "box_of" ["row", "late"] (spBoxOf K)) : Fn P w K mg base 2 "boxes_of_peal" ["peal", "frames"] spBoxesP := by
  refine D.fn sc_boxes_of_peal (fun vs H Q E h => ?_) (fun f cdv A outer s H vs Q E hr h => ?_)
  · obtain ⟨a, c, rs, fs, rfl, _⟩ := h
    rfl
  · obtain ⟨a, c, rs, fs, rfl, ⟨as, eA, pA⟩, ⟨gs, eG, pG⟩, ok, fl, ft, q⟩ := h
    have al := paired_len pA
    have gl := paired_len pG
    have len := ft.len
    refine ⟨_, (pss_one (ps_ret (pe_callTy call_tuple_of (by rfl) T.z_tuple b_tuple (pa_cons (pe_comp (own := ["row", "frame"]) (fr := []) (ix := []) rfl ⟨rfl, rfl, rfl, rfl, rfl, rfl⟩ (pi_zip (by rfl) T.z_zip (pa_cons (pv 0) (pa_cons (pv 1) pa_nil))) (fun _ _ _ _ _ => (pg_tupK K (n := 2) rfl (pgs_cons (pg_name (i := 0) (show (["row", "frame"] : List Str).Nodup by decide +kernel) rfl (Or.inl rfl)) (pgs_cons (pg_name (i := 1) (show (["row", "frame"] : List Str).Nodup by decide +kernel) rfl (Or.inl rfl)) pgs_nil)))) (fun _ _ _ _ _ => pts_nil) (fun _ _ _ _ _ => (pe_callTy (call_tuple_ofK K) (by rfl) T.z_tuple b_tuple (pa_cons (pe_fn G_box_of (hr.mono (by decide)) (by rfl) (pa_cons (pv 0) (pa_cons (pe_ix (ix_tupK K) (pv 1) pe_int (fun _ _ => rfl)) pa_nil))) pa_nil)))) pa_nil)))), ?_⟩
    refine ⟨_, rfl, _, rfl, a, c, as.map V.ref, gs.map V.ref, rfl, SqL.of eA, SqL.of eG, fun acc hacc => comp_zipI (K := K) (a := a) (b := c) (xs := as.map V.ref) (ys := gs.map V.ref) (fun i zs H2 => ∃ bs : List Addr, zs = bs.map V.ref ∧ Same H H2 ∧ H2 acc = some (.lst zs) ∧ PySem.Paired (fun b (ks : List Int) => H2 b = some (.tup (ks.map V.int))) bs ((boxesP fs rs).take i))
      (by rw [List.length_map, List.length_map]; omega) (by rw [List.length_map]; exact Nat.le_of_lt (small1000 (by omega))) ⟨[], rfl, Same.new hacc, upd_same, .nil⟩ (fun i zs H2 ⟨bs, e, s2, h2, p2⟩ => ⟨h2, by rw [e, List.length_map, paired_len p2, List.length_take]; omega, SqL.of (s2 _ _ eA), SqL.of (s2 _ _ eG)⟩) ?_ ?_⟩
    · rintro i x y zs t H2 R hx hy ⟨bs, rfl, s2, h2, p2⟩ ht hR
      rw [List.getElem?_map] at hx hy
      obtain ⟨b, hb, rfl⟩ := Option.map_eq_some_iff.mp hx
      obtain ⟨g, hg, rfl⟩ := Option.map_eq_some_iff.mp hy
      obtain ⟨row, hrow, hB⟩ := paired_get pA hb
      obtain ⟨fr, hfr, hG⟩ := paired_get pG hg
      have okf := ok fr (List.mem_of_getElem? hfr)
      have rl := ft.row i row fr hrow hfr
      have b60 := okf.b60
      have s3 : Same H2 (upd H2 t (.tup [.ref b, .ref g])) := Same.new ht
      have h3 : (upd H2 t (.tup [.ref b, .ref g])) t = some (.tup [.ref b, .ref g]) := upd_same
      generalize upd H2 t (.tup [.ref b, .ref g]) = H3 at s3 h3 ⊢
      refine ⟨t, _, rfl, SqT.of h3, rfl, _, _, rfl, _, _, rfl, rfl, rfl, _, rfl, _, rfl, _, _, _, _, rfl, rfl, SqT.of (s3 _ _ (s2 _ _ hG)), rfl, b, row, fr.2.2, rfl, SqL.of (s3 _ _ (s2 _ _ hB)), by omega, okf.l0, bits_mono okf.lb (by decide), fun p H4 s4 hp hP => ⟨p, _, rfl, .inl ⟨SqL.of hP, fun t2 ht2 => ?_⟩⟩⟩
      have s5 : Same H2 (upd H4 t2 (.tup ((boxL fr.2.2 row).map V.int))) := (s3.trans s4).put ht2
      have h5 : (upd H4 t2 (.tup ((boxL fr.2.2 row).map V.int))) t2 = some (.tup ((boxL fr.2.2 row).map V.int)) := upd_same
      generalize upd H4 t2 (.tup ((boxL fr.2.2 row).map V.int)) = H5 at s5 h5 ⊢
      have hacc5 := s5 _ _ h2
      refine hR _ _ hacc5 ⟨bs ++ [t2], by rw [List.map_append]; rfl, (s2.trans s5).wr hacc, upd_same, ?_⟩
      rw [take_snoc (boxesP_get hrow hfr)]
      have keepT : ∀ b xs, H5 b = some (.tup xs) → (upd H5 acc (.lst (bs.map V.ref ++ [V.ref t2]))) b = some (.tup xs) := fun b xs h => by
        have : b ≠ acc := fun e => by rw [e, hacc5] at h; cases h
        rw [upd_ne this]; exact h
      exact tup_snoc p2 (fun b xs h => keepT b xs (s5 _ _ h)) (keepT _ _ h5)
    · rintro zs H2 ⟨bs, rfl, s2, h2, p2⟩
      rw [List.length_map, al, List.take_of_length_le (by rw [boxesP_len]; exact Nat.le_refl _)] at p2
      exact ⟨acc, _, rfl, .inl ⟨SqL.of h2, fun l hl => q l _ (s2.put hl) (s2.free hl) ⟨bs, upd_same, paired_imp (fun _ _ z => (Same.new hl) _ _ z) p2⟩⟩⟩
def spPAlike : Sp := fun vs H Q _ => ∃ (a b c : Addr) (rs ss : List (List Int)) (fs : List Fr), vs = [.ref a, .ref b, .ref c] ∧ LL H a rs ∧ LL H b ss ∧ Frs H c fs ∧ (∀ f ∈ fs, FrOk f) ∧ fs.length ≤ 64 ∧ FitP fs rs ∧ FitP fs ss ∧
  ∀ (t : Bool) (H' : Hp), Same H H' → (t = true ↔ NearP fs rs ss) → Q (.bl t) H'
theorem sc_peals_alike : FnScope ["one", "other", "frames", "row", "second_row", "frame"] ["one", "other", "frames"] (defScope st_peals_alike) := ⟨rfl, rfl, rfl, by decide +kernel, rfl, by decide +kernel, by decide +kernel⟩
theorem ok_palike (D : Def K mg "peals_alike" st_peals_alike ["one", "other", "frames"]) (T : Txt K mg) (G_alike : Fn P w K mg base 1 "alike" ["one", "other", "late"] (spAlikeG K)) : Fn P w K mg base 2 "peals_alike" ["one", "other", "frames"] spPAlike := by
  refine D.fn sc_peals_alike (fun vs H Q E h => ?_) (fun f cdv A outer s H vs Q E hr h => ?_)
  · obtain ⟨a, b, c, rs, ss, fs, rfl, _⟩ := h
    rfl
  · obtain ⟨a, b, c, rs, ss, fs, rfl, ⟨as, eA, pA⟩, ⟨bs, eB, pB⟩, ⟨gs, eG, pG⟩, ok, fl, ft, ft2, q⟩ := h
    have al := paired_len pA
    have bl := paired_len pB
    have gl := paired_len pG
    have len := ft.len
    have len2 := ft2.len
    refine ⟨_, (pss_cons (ps_for PassesOwn.never rfl (pi_zip3 (by rfl) T.z_zip (pa_cons (pv 0) (pa_cons (pv 1) (pa_cons (pv 2) pa_nil)))) (pg_tup (n := 3) rfl (pgs_cons (pg_name (i := 3) sc_peals_alike.nd rfl (Or.inl rfl)) (pgs_cons (pg_name (i := 4) sc_peals_alike.nd rfl (Or.inl rfl)) (pgs_cons (pg_name (i := 5) sc_peals_alike.nd rfl (Or.inl rfl)) pgs_nil))))
        (pss_one (ps_if (pt_not (pt_val (pe_fn G_alike (hr.mono (by decide)) (by rfl) (pa_cons (pv 3) (pa_cons (pv 4) (pa_cons (pe_ix ix_tup (pv 5) pe_int (fun _ _ => rfl)) pa_nil))))))
          (pss_one (ps_ret pe_bl))
          pss_nil)))
      (pss_one (ps_ret pe_bl))), ?_⟩
    refine ⟨_, rfl, _, rfl, _, rfl, a, b, c, as.map V.ref, bs.map V.ref, gs.map V.ref, rfl, SqL.of eA, SqL.of eB, SqL.of eG, for_zip3 (K := K) (a := a) (b := b) (c := c) (xs := as.map V.ref) (ys := bs.map V.ref) (ws := gs.map V.ref) (fun i σ H2 => ∃ v3 v4 v5 : Option V, σ = [some (.ref a), some (.ref b), some (.ref c), v3, v4, v5] ∧ Same H H2 ∧ ∀ (j : Nat) (f : Fr) (r s : List Int), j < i → fs[j]? = some f → rs[j]? = some r → ss[j]? = some s → Near r s f.2.2)
      (by rw [List.length_map, List.length_map]; omega) (by rw [List.length_map, List.length_map]; omega) ⟨none, none, none, rfl, Same.refl _, fun j f r s h => absurd h (Nat.not_lt_zero _)⟩ (fun i σ H2 ⟨_, _, _, _, s2, _⟩ => ⟨SqL.of (s2 _ _ eA), SqL.of (s2 _ _ eB), SqL.of (s2 _ _ eG)⟩) ?_ ?_⟩
    · rintro i x y z t σ H2 hx hy hz ⟨v3, v4, v5, rfl, s2, inv⟩ ht
      rw [List.getElem?_map] at hx hy hz
      obtain ⟨xa, hxa, rfl⟩ := Option.map_eq_some_iff.mp hx
      obtain ⟨ya, hya, rfl⟩ := Option.map_eq_some_iff.mp hy
      obtain ⟨g, hg, rfl⟩ := Option.map_eq_some_iff.mp hz
      obtain ⟨row, hrow, hX⟩ := paired_get pA hxa
      obtain ⟨row2, hrow2, hY⟩ := paired_get pB hya
      obtain ⟨fr, hfr, hG⟩ := paired_get pG hg
      have okf := ok fr (List.mem_of_getElem? hfr)
      have rl := ft.row i row fr hrow hfr
      have rl2 := ft2.row i row2 fr hrow2 hfr
      have b60 := okf.b60
      have s3 : Same H2 (upd H2 t (.tup [.ref xa, .ref ya, .ref g])) := Same.new ht
      have h3 : (upd H2 t (.tup [.ref xa, .ref ya, .ref g])) t = some (.tup [.ref xa, .ref ya, .ref g]) := upd_same
      generalize upd H2 t (.tup [.ref xa, .ref ya, .ref g]) = H3 at s3 h3 ⊢
      have s03 := s2.trans s3
      refine ⟨t, _, rfl, SqT.of h3, rfl, _, _, rfl, _, _, rfl, _, _, rfl, rfl, _, rfl, _, rfl, _, rfl, _, _, _, _, rfl, rfl, SqT.of (s03 _ _ hG), rfl, xa, ya, row, row2, fr.2.2, rfl, SqL.of (s03 _ _ hX), SqL.of (s03 _ _ hY), by omega, okf.l0, fun tb H4 s4 hb => ⟨tb, rfl, ?_⟩⟩
      cases tb with
      | true =>
        refine iteF ⟨_, _, _, rfl, s03.trans s4, fun j f r s hj h1 h2 h3 => ?_⟩
        rcases Nat.lt_or_eq_of_le (Nat.lt_succ_iff.mp hj) with z | z
        · exact inv j f r s z h1 h2 h3
        · subst z
          rw [hfr] at h1
          rw [hrow] at h2
          rw [hrow2] at h3
          cases h1; cases h2; cases h3
          exact (hb.mp rfl).2
      | false =>
        refine iteT (q false H4 (s03.trans s4) ⟨(fun z => nomatch z), fun z => ?_⟩)
        exact nomatch hb.mpr ⟨by omega, z i fr row row2 hfr hrow hrow2⟩
    · rintro σ H2 ⟨v3, v4, v5, rfl, s2, inv⟩
      rw [List.length_map] at inv
      exact q true H2 s2 ⟨fun _ j f r s h1 h2 h3 => inv j f r s (by have := (List.getElem?_eq_some_iff.mp h2).1; omega) h1 h2 h3, fun _ => rfl⟩
end
theorem near_box2 {late : Int} (l0 : 0 ≤ late) {ns ms : List Int} (h : boxL late ns = boxL late ms) : Near ns ms late := by
  intro i x y hx hy
  have e := congrArg (fun l => l[i]?) h
  simp only [boxL_get hx, boxL_get hy, Option.some.injEq] at e
  have d1 := Int.mul_ediv_add_emod (x - (i : Int)) (late + 1)
  have d2 := Int.mul_ediv_add_emod (y - (i : Int)) (late + 1)
  have r1 := Int.emod_nonneg (x - (i : Int)) (show late + 1 ≠ 0 by omega)
  have r2 := Int.emod_nonneg (y - (i : Int)) (show late + 1 ≠ 0 by omega)
  have s1 := Int.emod_lt_of_pos (x - (i : Int)) (show 0 < late + 1 by omega)
  have s2 := Int.emod_lt_of_pos (y - (i : Int)) (show 0 < late + 1 by omega)
  rw [e] at d1
  omega
def hearP (rs ss : List (List Int)) : List (List Int) := List.zipWith maxs rs ss
theorem near_boxes {fs : List Fr} {rs ss : List (List Int)} (ok : ∀ f ∈ fs, FrOk f) (h : boxesP fs rs = boxesP fs ss) : NearP fs rs ss := fun i f r s hf hr hs => by
  refine near_box2 (ok f (List.mem_of_getElem? hf)).l0 ?_
  have h1 := boxesP_get hr hf
  have h2 := boxesP_get hs hf
  rw [h] at h1
  exact Option.some.inj (h1.symm.trans h2)
def LLn (H0 H : Hp) (p : Addr) (rs : List (List Int)) : Prop := ∃ as : List Addr, H p = some (.lst (as.map V.ref)) ∧ PySem.Paired (fun b (ns : List Int) => b ≠ p ∧ H0 b = none ∧ H b = some (.lst (ns.map V.int))) as rs
theorem LLn.ll {H0 H : Hp} {p : Addr} {rs : List (List Int)} (h : LLn H0 H p rs) : LL H p rs := by
  obtain ⟨as, e, q⟩ := h
  exact ⟨as, e, paired_imp (fun _ _ z => z.2.2) q⟩
def Peals (H : Hp) (p : Addr) (ps : List (List (List Int))) : Prop := ∃ as : List Addr, H p = some (.lst (as.map V.ref)) ∧ PySem.Paired (fun b rs => LL H b rs) as ps
theorem Peals.same {H H' : Hp} {p : Addr} {ps : List (List (List Int))} (s : Same H H') (h : Peals H p ps) : Peals H' p ps := by
  obtain ⟨as, e, q⟩ := h
  exact ⟨as, s _ _ e, paired_imp (fun _ _ z => z.same s) q⟩
theorem val2_some {xs : List E2} {k : List (List Int)} {v : Int} (h : val2 xs k = some v) : ∃ x ∈ xs, x.1 = k ∧ x.2.2 = v := by
  unfold val2 at h
  obtain ⟨x, hx, rfl⟩ := Option.map_eq_some_iff.mp h
  have e : decide (x.1 = k) = true := List.find?_some (p := fun (x : E2) => decide (x.1 = k)) hx
  exact ⟨x, List.mem_of_find?_eq_some hx, of_decide_eq_true e, rfl⟩
theorem val2_at' {xs : List E2} {k : Nat} {x : E2} {b : List (List Int)} (h : xs[k]? = some x) (e : x.1 = b) : (val2 xs b).isSome = true := by
  cases hv : val2 xs b with
  | some v => rfl
  | none =>
    unfold val2 at hv
    rw [Option.map_eq_none_iff, List.find?_eq_none] at hv
    exact absurd (decide_eq_true e) (hv x (List.mem_of_getElem? h))
section
variable {P : Program} {w : World} {K : PySem.W.Frag} {mg : Str → Option Value} {base : Heap}
def spHear2 : Sp := fun vs H Q _ => ∃ (a b c : Addr) (rs ss : List (List Int)) (fs : List Fr), vs = [.ref a, .ref b, .ref c] ∧ LL H a rs ∧ LL H b ss ∧ Frs H c fs ∧ (∀ f ∈ fs, FrOk f) ∧ fs.length ≤ 64 ∧ FitP fs rs ∧ FitP fs ss ∧ NearP fs rs ss ∧
  ∀ (p : Addr) (H' : Hp), Same H H' → H p = none → LLn H H' p (hearP rs ss) → Q (.ref p) H'
theorem sc_hearing_of_both : FnScope ["one", "other", "frames"] ["one", "other", "frames"] (defScope st_hearing_of_both) := ⟨rfl, rfl, rfl, by decide +kernel, rfl, by decide +kernel, by decide +kernel⟩
theorem ok_hear2 (D : Def K mg "hearing_of_both" st_hearing_of_both ["one", "other", "frames"]) (T : Txt K mg) (G_reading_of_both : Fn P w K mg base 2 "reading_of_both" ["one", "other", "late"] (spBoth K)) : Fn P w K mg base 3 "hearing_of_both" ["one", "other", "frames"] spHear2 := by
  refine D.fn sc_hearing_of_both (fun vs H Q E h => ?_) (fun f cdv A outer s H vs Q E hr h => ?_)
  · obtain ⟨a, b, c, rs, ss, fs, rfl, _⟩ := h
    rfl
  · obtain ⟨a, b, c, rs, ss, fs, rfl, ⟨as, eA, pA⟩, ⟨bs, eB, pB⟩, ⟨gs, eG, pG⟩, ok, fl, ft, ft2, nr, q⟩ := h
    have al := paired_len pA
    have bl := paired_len pB
    have gl := paired_len pG
    have len := ft.len
    have len2 := ft2.len
    refine ⟨_, (pss_one (ps_ret (pe_comp (own := ["row", "second_row", "frame"]) (fr := []) (ix := []) rfl ⟨rfl, rfl, rfl, rfl, rfl, rfl⟩ (pi_zip3 (by rfl) T.z_zip (pa_cons (pv 0) (pa_cons (pv 1) (pa_cons (pv 2) pa_nil)))) (fun _ _ _ _ _ => (pg_tupK K (n := 3) rfl (pgs_cons (pg_name (i := 0) (show (["row", "second_row", "frame"] : List Str).Nodup by decide +kernel) rfl (Or.inl rfl)) (pgs_cons (pg_name (i := 1) (show (["row", "second_row", "frame"] : List Str).Nodup by decide +kernel) rfl (Or.inl rfl)) (pgs_cons (pg_name (i := 2) (show (["row", "second_row", "frame"] : List Str).Nodup by decide +kernel) rfl (Or.inl rfl)) pgs_nil))))) (fun _ _ _ _ _ => pts_nil) (fun _ _ _ _ _ => (pe_fn G_reading_of_both (hr.mono (by decide)) (by rfl) (pa_cons (pv 0) (pa_cons (pv 1) (pa_cons (pe_ix (ix_tupK K) (pv 2) pe_int (fun _ _ => rfl)) pa_nil)))))))), ?_⟩
    refine ⟨_, rfl, _, rfl, _, rfl, a, b, c, as.map V.ref, bs.map V.ref, gs.map V.ref, rfl, SqL.of eA, SqL.of eB, SqL.of eG, fun acc hacc => comp_zip3I (K := K) (a := a) (b := b) (c := c) (xs := as.map V.ref) (ys := bs.map V.ref) (ws := gs.map V.ref) (fun i zs H2 => ∃ cs : List Addr, zs = cs.map V.ref ∧ Same H H2 ∧ H2 acc = some (.lst zs) ∧ PySem.Paired (fun b (ns : List Int) => b ≠ acc ∧ H b = none ∧ H2 b = some (.lst (ns.map V.int))) cs ((hearP rs ss).take i))
      (by rw [List.length_map, List.length_map]; omega) (by rw [List.length_map, List.length_map]; omega) (by rw [List.length_map]; exact Nat.le_of_lt (small1000 (by omega))) ⟨[], rfl, Same.new hacc, upd_same, .nil⟩ (fun i zs H2 ⟨cs, e, s2, h2, p2⟩ => ⟨h2, by rw [e, List.length_map, paired_len p2, List.length_take]; omega, SqL.of (s2 _ _ eA), SqL.of (s2 _ _ eB), SqL.of (s2 _ _ eG)⟩) ?_ ?_⟩
    · rintro i x y z zs t H2 R hx hy hz ⟨cs, rfl, s2, h2, p2⟩ ht hR
      rw [List.getElem?_map] at hx hy hz
      obtain ⟨xa, hxa, rfl⟩ := Option.map_eq_some_iff.mp hx
      obtain ⟨ya, hya, rfl⟩ := Option.map_eq_some_iff.mp hy
      obtain ⟨g, hg, rfl⟩ := Option.map_eq_some_iff.mp hz
      obtain ⟨row, hrow, hX⟩ := paired_get pA hxa
      obtain ⟨row2, hrow2, hY⟩ := paired_get pB hya
      obtain ⟨fr, hfr, hG⟩ := paired_get pG hg
      have okf := ok fr (List.mem_of_getElem? hfr)
      have rl := ft.row i row fr hrow hfr
      have rl2 := ft2.row i row2 fr hrow2 hfr
      have b60 := okf.b60
      have s3 : Same H2 (upd H2 t (.tup [.ref xa, .ref ya, .ref g])) := Same.new ht
      have h3 : (upd H2 t (.tup [.ref xa, .ref ya, .ref g])) t = some (.tup [.ref xa, .ref ya, .ref g]) := upd_same
      generalize upd H2 t (.tup [.ref xa, .ref ya, .ref g]) = H3 at s3 h3 ⊢
      have s03 := s2.trans s3
      refine ⟨t, _, rfl, SqT.of h3, rfl, _, _, rfl, _, _, rfl, _, _, rfl, rfl, rfl, _, rfl, _, rfl, _, rfl, _, _, _, _, rfl, rfl, SqT.of (s03 _ _ hG), rfl, xa, ya, row, row2, fr.2.2, rfl, SqL.of (s03 _ _ hX), SqL.of (s03 _ _ hY), by omega, by omega, okf.l0, fun p H4 _ s4 hp hP => ?_, fun H4 nn _ => absurd (nr i fr row row2 hfr hrow hrow2) nn⟩
      have hacc4 := s4 _ _ (s3 _ _ h2)
      have np : p ≠ acc := (ne_of_none (s3 _ _ h2) hp).symm
      refine hR _ _ hacc4 ⟨cs ++ [p], by rw [List.map_append]; rfl, (s03.trans s4).wr hacc, upd_same, ?_⟩
      have hge : (hearP rs ss)[i]? = some (maxs row row2) := by
        unfold hearP
        rw [List.getElem?_zipWith, hrow, hrow2]
      rw [take_snoc hge]
      exact PySem.Paired.snoc (paired_imp (fun b ns h => ⟨h.1, h.2.1, by rw [upd_ne h.1]; exact s4 _ _ (s3 _ _ h.2.2)⟩) p2) ⟨np, s03.free hp, by rw [upd_ne np]; exact hP⟩
    · rintro zs H2 ⟨cs, rfl, s2, h2, p2⟩
      rw [List.length_map, al, List.take_of_length_le (by unfold hearP; rw [List.length_zipWith]; omega)] at p2
      exact q acc H2 s2 hacc ⟨cs, h2, p2⟩
def spPCrowd : Sp := fun vs H Q _ => ∃ (a c : Addr) (ps : List (List (List Int))) (fs : List Fr), vs = [.ref a, .ref c] ∧ Peals H a ps ∧ Frs H c fs ∧ (∀ f ∈ fs, FrOk f) ∧ fs.length ≤ 64 ∧ (∀ rs ∈ ps, FitP fs rs) ∧ ps.length ≤ 1000 ∧
  (∀ (i j : Nat) (rs ss : List (List Int)) (t h : Addr) (H' : Hp), i < j → ps[i]? = some rs → ps[j]? = some ss → boxesP fs rs = boxesP fs ss → (∀ (k l : Nat) (x y : List (List Int)), k < l → l < j → ps[k]? = some x → ps[l]? = some y → boxesP fs x ≠ boxesP fs y) → Same H H' → H t = none → H h = none → H' t = some (.tup [.int i, .int j, .ref h]) → LLn H H' h (hearP rs ss) → Q (.ref t) H') ∧
  ((∀ (k l : Nat) (x y : List (List Int)), k < l → ps[k]? = some x → ps[l]? = some y → boxesP fs x ≠ boxesP fs y) → ∀ H', Same H H' → Q .non H')
theorem sc_peal_crowd : FnScope ["peals", "frames", "seen", "second", "peal", "boxes", "first"] ["peals", "frames"] (defScope st_peal_crowd) := ⟨rfl, rfl, rfl, by decide +kernel, rfl, by decide +kernel, by decide +kernel⟩
theorem ok_pcrowd (D : Def K mg "peal_crowd" st_peal_crowd ["peals", "frames"]) (T : Txt K mg) (G_boxes_of_peal : Fn P w K mg base 2 "boxes_of_peal" ["peal", "frames"] spBoxesP) (G_hearing_of_both : Fn P w K mg base 3 "hearing_of_both" ["one", "other", "frames"] spHear2) : Fn P w K mg base 4 "peal_crowd" ["peals", "frames"] spPCrowd := by
  refine D.fn sc_peal_crowd (fun vs H Q E h => ?_) (fun f cdv A outer s H vs Q E hr h => ?_)
  · obtain ⟨a, c, ps, fs, rfl, _⟩ := h
    rfl
  · obtain ⟨a, c, ps, fs, rfl, hP, hF, ok, fl, ft, pl, q1, q2⟩ := h
    have hu := hu64 hr
    obtain ⟨as, eA, pA⟩ := id hP
    have al := paired_len pA
    refine ⟨_, (pss_cons (ps_set (i := 2) sc_peal_crowd.nd rfl (Or.inl rfl) (pe_new2 P w))
      (pss_cons (ps_for PassesOwn.never rfl (pi_enumL (by rfl) T.z_enumerate (pa_cons (pv 0) pa_nil)) (pg_tup (n := 2) rfl (pgs_cons (pg_name (i := 3) sc_peal_crowd.nd rfl (Or.inl rfl)) (pgs_cons (pg_name (i := 4) sc_peal_crowd.nd rfl (Or.inl rfl)) pgs_nil)))
        (pss_cons (ps_set (i := 5) sc_peal_crowd.nd rfl (Or.inl rfl) (pe_fn G_boxes_of_peal (hr.mono (by decide)) (by rfl) (pa_cons (pv 4) (pa_cons (pv 1) pa_nil))))
        (pss_cons (ps_if (pt_cmpR (op_in2 P w hu) (pv 5) (pv 2) (by with_unfolding_all rfl))
          (pss_cons (ps_set (i := 6) sc_peal_crowd.nd rfl (Or.inl rfl) (pe_get2 P w hu (pv 2) (pv 5) (fun _ _ => rfl)))
          (pss_one (ps_ret (pe_tup (pa_cons (pv 6) (pa_cons (pv 3) (pa_cons (pe_fn G_hearing_of_both (hr.mono (by decide)) (by rfl) (pa_cons (pe_ix ix_list (pv 0) (pv 6) (fun _ _ => rfl)) (pa_cons (pv 4) (pa_cons (pv 1) pa_nil)))) pa_nil)))))))
          pss_nil)
        (pss_one (ps_asg (pv 3) (pg_sub (pv 2) (pv 5) (set_2 P w hu)))))))
      (pss_one (ps_ret pe_non)))), ?_⟩
    refine fun sd hsd => ⟨_, rfl, a, as.map V.ref, rfl, SqL.of ((Same.new hsd) _ _ eA), for_enum (K := K) (a := a) (xs := as.map V.ref) (fun i σ H2 => ∃ (xs : List E2) (v3 v4 v5 v6 : Option V), σ = [some (.ref a), some (.ref c), some (.ref sd), v3, v4, v5, v6] ∧ Same H H2 ∧ H2 sd = some (D2O P w sd xs) ∧ Keys2 H2 xs ∧ xs.length = i ∧ (∀ (k : Nat) (x : E2), xs[k]? = some x → x.2.2 = (k : Int) ∧ ∃ rs, ps[k]? = some rs ∧ x.1 = boxesP fs rs) ∧ (∀ (k l : Nat) (x y : List (List Int)), k < l → l < i → ps[k]? = some x → ps[l]? = some y → boxesP fs x ≠ boxesP fs y))
      ⟨[], none, none, none, none, rfl, Same.new hsd, upd_same, (fun _ z => nomatch z), rfl, (fun k x h => by simp at h), fun k l x y _ h => absurd h (Nat.not_lt_zero _)⟩ (fun i σ H2 ⟨_, _, _, _, _, _, s2, _⟩ => SqL.of (s2 _ _ eA)) ?_ ?_⟩
    · rintro i xv t σ H2 hx ⟨xs, v3, v4, v5, v6, rfl, s2, hD, hK, xl, hX, dis⟩ ht
      rw [List.getElem?_map] at hx
      obtain ⟨b, hb, rfl⟩ := Option.map_eq_some_iff.mp hx
      obtain ⟨rs, hrs, hB⟩ := paired_get pA hb
      have il := (List.getElem?_eq_some_iff.mp hrs).1
      have s3 : Same H2 (upd H2 t (.tup [.int i, .ref b])) := Same.new ht
      have h3 : (upd H2 t (.tup [.int i, .ref b])) t = some (.tup [.int i, .ref b]) := upd_same
      generalize upd H2 t (.tup [.int i, .ref b]) = H3 at s3 h3 ⊢
      have s03 := s2.trans s3
      refine ⟨t, _, rfl, SqT.of h3, rfl, _, _, rfl, _, _, rfl, rfl, ?_⟩
      refine ⟨_, rfl, _, rfl, b, c, rs, fs, rfl, hB.same s03, hF.same s03, ok, fl, ft rs (List.mem_of_getElem? hrs), fun pk H4 s4 hpk hT => ?_⟩
      have s24 := s3.trans s4
      have s04 := s03.trans s4
      have hD4 := s24 _ _ hD
      have hK4 : Keys2 H4 xs := fun x hx => (hK x hx).keep fun b ys h => s24 _ _ h
      refine ⟨_, rfl, _, rfl, pk, sd, boxesP fs rs, xs, rfl, rfl, hT, hD4, hK4, _, rfl, ?_⟩
      cases hv : val2 xs (boxesP fs rs) with
      | some v =>
        obtain ⟨x, hxm, hx1, hx2⟩ := val2_some hv
        obtain ⟨k, hk⟩ := List.getElem?_of_mem hxm
        obtain ⟨e1, rs', hrs', e2⟩ := hX k x hk
        have kl := (List.getElem?_eq_some_iff.mp hk).1
        have ev : v = (k : Int) := by rw [← hx2, e1]
        subst ev
        obtain ⟨bk, hbk, hBk⟩ : ∃ bk, as[k]? = some bk ∧ LL H bk rs' := by
          have hak := List.getElem?_eq_getElem (show k < as.length by omega)
          obtain ⟨r', hr', hL⟩ := paired_get pA hak
          rw [hrs'] at hr'
          cases hr'
          exact ⟨_, hak, hL⟩
        have ebx : boxesP fs rs' = boxesP fs rs := by rw [← e2, hx1]
        refine iteT ⟨_, rfl, _, rfl, sd, pk, boxesP fs rs, xs, (k : Int), rfl, rfl, hT, hD4, hK4, hv, ?_⟩
        refine ⟨_, rfl, _, rfl, _, rfl, _, rfl, _, _, _, _, rfl, rfl, SqL.of (s04 _ _ eA), at_mapR hbk, _, rfl, _, rfl, bk, b, c, rs', rs, fs, rfl, hBk.same s04, hB.same s04, hF.same s04, ok, fl, ft rs' (List.mem_of_getElem? hrs'), ft rs (List.mem_of_getElem? hrs), near_boxes ok ebx, fun ph H5 s5 hph hH => ⟨(by show 3 ≤ sizeLine; decide), fun pt hpt => ?_⟩⟩
        refine q1 k i rs' rs pt ph _ (by omega) hrs' hrs ebx dis ((s04.trans s5).put hpt) ((s04.trans s5).free hpt) (s04.free hph) upd_same ?_
        obtain ⟨cs, ec, pc⟩ := hH
        exact ⟨cs, (Same.new hpt) _ _ ec, paired_imp (fun _ _ z => ⟨z.1, s04.free z.2.1, (Same.new hpt) _ _ z.2.2⟩) pc⟩
      | none =>
        refine iteF ⟨_, rfl, _, rfl, _, rfl, sd, pk, boxesP fs rs, xs, (i : Int), rfl, rfl, rfl, hT, hD4, hK4, hv, by rw [xl]; exact small1000 (by omega), ?_⟩
        have keepT : ∀ b ys, H4 b = some (.tup ys) → (upd H4 sd (D2O P w sd (xs ++ [(boxesP fs rs, pk, (i : Int))]))) b = some (.tup ys) := fun b ys h => by
          have : b ≠ sd := fun e => by rw [e, hD4] at h; cases h
          rw [upd_ne this]; exact h
        refine ⟨xs ++ [(boxesP fs rs, pk, (i : Int))], _, _, _, _, rfl, s04.wr hsd, upd_same, fun x hx => ?_, by rw [List.length_append, xl]; rfl, fun k x hk => ?_, fun k l x y hkl hl hpx hpy => ?_⟩
        · rcases List.mem_append.mp hx with z | z
          · exact (hK4 x z).keep keepT
          · rw [List.mem_singleton.mp z]; exact hT.keep keepT
        · by_cases hki : k < xs.length
          · rw [List.getElem?_append_left hki] at hk
            exact hX k x hk
          · have hk2 := (List.getElem?_eq_some_iff.mp hk).1
            rw [List.length_append, List.length_singleton] at hk2
            have ek : k = i := by omega
            subst ek
            rw [List.getElem?_append_right (by omega), xl, Nat.sub_self] at hk
            have : (boxesP fs rs, pk, (k : Int)) = x := by simpa using hk
            subst this
            exact ⟨rfl, rs, hrs, rfl⟩
        · rcases Nat.lt_or_eq_of_le (Nat.lt_succ_iff.mp hl) with z | z
          · exact dis k l x y hkl z hpx hpy
          · subst z
            rw [hrs] at hpy
            cases hpy
            have hxk := List.getElem?_eq_getElem (show k < xs.length by omega)
            obtain ⟨_, rs', hrs', e2⟩ := hX k _ hxk
            rw [hpx] at hrs'
            cases hrs'
            intro e
            have := val2_at' hxk (show xs[k].1 = boxesP fs rs by rw [e2, e])
            rw [hv] at this
            cases this
    · rintro σ H2 ⟨xs, v3, v4, v5, v6, rfl, s2, hD, hK, xl, hX, dis⟩
      rw [List.length_map] at dis
      exact q2 (fun k l x y hkl hx hy => dis k l x y hkl (by have := (List.getElem?_eq_some_iff.mp hy).1; omega) hx hy) H2 s2
end
theorem dr_three {ds : List Int} {a b c : Int} (h : Dr ds [a, b, c]) : ∃ x y z, ds = [x, y, z] ∧ (0 ≤ x ∧ x < a) ∧ (0 ≤ y ∧ y < b) ∧ (0 ≤ z ∧ z < c) := by
  cases h with
  | cons h1 t1 => cases t1 with
    | cons h2 t2 => cases t2 with
      | cons h3 t3 => cases t3; exact ⟨_, _, _, rfl, h1, h2, h3⟩
structure F8 (f : Fr) : Prop where
  ok : FrOk f
  b6 : f.2.1 ≤ 6
  lt : f.2.2 < 1000000000000000
theorem f8_ok {bells late : Int} (b0 : 0 ≤ bells) (b7 : bells < 7) (l0 : 0 ≤ late) (l1 : late < 1000000000000000) : F8 ((10 : Int) ^ (20 : Int).toNat, bells, late) :=
  ⟨⟨b0, by show bells ≤ 60; omega, l0, bits_mono (bits_of (m := 64) (x := late) l0 (by omega)) (by decide), by show (0 : Int) ≤ 10 ^ (20 : Int).toNat; decide +kernel, by show intBits ((10 : Int) ^ (20 : Int).toNat) ≤ 100; decide +kernel⟩, by show bells ≤ 6; omega, l1⟩
def Up (r : List Int) : Prop := r.Pairwise (· < ·) ∧ ∀ x ∈ r, 0 ≤ x
theorem flat_ab (a b : Int) : ∀ (m k : Nat), k < m → ((List.replicate m [a, b]).flatten)[2 * k]? = some a ∧ ((List.replicate m [a, b]).flatten)[2 * k + 1]? = some b
  | 0, k, h => absurd h (Nat.not_lt_zero _)
  | m + 1, 0, _ => by
    rw [List.replicate_succ, List.flatten_cons]
    exact ⟨rfl, rfl⟩
  | m + 1, k + 1, h => by
    rw [List.replicate_succ, List.flatten_cons]
    obtain ⟨h1, h2⟩ := flat_ab a b m k (by omega)
    exact ⟨by rw [show 2 * (k + 1) = 2 * k + 1 + 1 by omega]; exact h1, by rw [show 2 * (k + 1) + 1 = 2 * k + 1 + 1 + 1 by omega]; exact h2⟩
theorem flat_len2 (a b : Int) (m : Nat) : ((List.replicate m [a, b]).flatten).length = 2 * m := by
  rw [List.length_flatten, List.map_replicate, List.sum_replicate_nat]
  show m * 2 = 2 * m
  omega
theorem flat_map2 (a b : Int) (m : Nat) : (List.replicate m [V.int a, V.int b]).flatten = ((List.replicate m [a, b]).flatten).map V.int := by
  rw [List.map_flatten, List.map_replicate]
  rfl
theorem at3 {x y z d : Int} (h0 : 0 ≤ d) (h1 : d < 3) {Pr : Int → Prop} (px : Pr x) (py : Pr y) (pz : Pr z) : ∃ v, atI [V.int x, V.int y, V.int z] d = some (.int v) ∧ Pr v := by
  rcases (by omega : d = 0 ∨ d = 1 ∨ d = 2) with rfl | rfl | rfl
  · exact ⟨x, rfl, px⟩
  · exact ⟨y, rfl, py⟩
  · exact ⟨z, rfl, pz⟩
theorem at2' {x y d : Int} (h0 : 0 ≤ d) (h1 : d < 2) {Pr : Int → Prop} (px : Pr x) (py : Pr y) : ∃ v, atI [V.int x, V.int y] d = some (.int v) ∧ Pr v := by
  rcases (by omega : d = 0 ∨ d = 1) with rfl | rfl
  · exact ⟨x, rfl, px⟩
  · exact ⟨y, rfl, py⟩
section
variable {P : Program} {w : World} {K : PySem.W.Frag} {mg : Str → Option Value} {base : Heap}
def spFrames89 (K : PySem.W.Frag) : Sp := fun vs H Q _ => ∃ (a : Addr) (ns : List Int), vs = [.ref a] ∧ SqL K H a (ns.map V.int) ∧ ∀ (p : Addr) (fs : List Fr) (H' : Hp), Same H H' → H p = none → Frm H' p fs → (∀ f ∈ fs, F8 f) → fs.length ≤ 10 → Q (.ref p) H'
theorem sc__law_frames : FnScope ["script", "frames", "k", "bells", "kind", "late"] ["script"] (defScope st__law_frames) := ⟨rfl, rfl, rfl, by decide +kernel, rfl, by decide +kernel, by decide +kernel⟩
theorem ok_frames89 (D : Def K mg "_law_frames" st__law_frames ["script"]) (T : Txt K mg) (G__law_cell_at : Fn P w K mg base 1 "_law_cell_at" ["script", "k"] (spCell K)) (G__law_drawn : Fn P w K mg base 2 "_law_drawn" ["cell", "sizes"] (spDrawnL K)) : Fn P w K mg base 3 "_law_frames" ["script"] (spFrames89 K) := by
  refine D.fn sc__law_frames (fun vs H Q E h => ?_) (fun f cdv A outer s H vs Q E hr h => ?_)
  · obtain ⟨a, ns, rfl, _⟩ := h
    rfl
  · obtain ⟨a, ns, rfl, hS, q⟩ := h
    refine ⟨_, (pss_cons (ps_set (i := 1) sc__law_frames.nd rfl (Or.inl rfl) (pe_lst pa_nil))
      (pss_cons (ps_for PassesOwn.never rfl (pi_range1 (by rfl) T.z_range (pa_cons (pe_op op_modB (pe_fn G__law_cell_at (hr.mono (by decide)) (by rfl) (pa_cons (pv 0) (pa_cons pe_int pa_nil))) pe_int) pa_nil)) (pg_name (i := 2) sc__law_frames.nd rfl (Or.inl rfl))
        (pss_cons (ps_asg (pe_fn G__law_drawn (hr.mono (by decide)) (by rfl) (pa_cons (pe_fn G__law_cell_at (hr.mono (by decide)) (by rfl) (pa_cons (pv 0) (pa_cons (pe_op op_addI pe_int (pv 2)) pa_nil))) (pa_cons (pe_lst (pa_cons pe_int (pa_cons pe_int (pa_cons (pe_op op_powB pe_int pe_int) pa_nil)))) pa_nil))) (pg_lstU (n := 3) rfl (pgs_cons (pg_name (i := 3) sc__law_frames.nd rfl (Or.inl rfl)) (pgs_cons (pg_name (i := 4) sc__law_frames.nd rfl (Or.inl rfl)) (pgs_cons (pg_name (i := 5) sc__law_frames.nd rfl (Or.inl rfl)) pgs_nil)))))
        (pss_one (ps_expr (pe_bm PySem.F.plainAttrs_list PySem.F.slot_list_append PySem.F.type_list_append mt_append (pv 1) (pa_cons (pe_tup (pa_cons (pe_op op_powB pe_int pe_int) (pa_cons (pv 3) (pa_cons (pe_ix ix_list (pe_lst (pa_cons (pv 5) (pa_cons (pe_op op_modB (pv 5) pe_int) pa_nil))) (pv 4) (fun _ _ => rfl)) pa_nil)))) pa_nil))))))
      (pss_one (ps_ret (pv 1))))), ?_⟩
    refine ⟨(by decide), fun pf hpf => ?_⟩
    have s1 : Same H (upd H pf (.lst [])) := Same.new hpf
    refine ⟨_, rfl, a, ns, 0, rfl, s1.seq hS, by decide, _, _, rfl, rfl, (by decide), ?_⟩
    have k0 := Int.emod_nonneg (cellOf ns 0) (show (11 : Int) ≠ 0 by decide)
    have k1 := Int.emod_lt_of_pos (cellOf ns 0) (show (0 : Int) < 11 by decide)
    generalize cellOf ns 0 % 11 = kk at k0 k1 ⊢
    have hss : ∀ s ∈ ([7, 2, (10 : Int) ^ (15 : Int).toNat] : List Int), 0 < s ∧ intBits s ≤ 9000 := by
      intro s hs
      simp only [List.mem_cons, List.not_mem_nil, or_false] at hs
      rcases hs with rfl | rfl | rfl
      · exact ⟨by decide, by decide⟩
      · exact ⟨by decide, by decide⟩
      · exact ⟨by decide +kernel, by decide +kernel⟩
    refine ⟨_, rfl, by omega, by omega, for_range (n := kk.toNat) (fun i σ H2 => ∃ (fs : List Fr) (v2 v3 v4 v5 : Option V), σ = [some (.ref a), some (.ref pf), v2, v3, v4, v5] ∧ Same H H2 ∧ Frm H2 pf fs ∧ (∀ f ∈ fs, F8 f) ∧ fs.length = i) ⟨[], none, none, none, none, rfl, s1, ⟨[], upd_same, .nil⟩, (fun _ z => nomatch z), rfl⟩ ?_ ?_⟩
    · rintro i σ H2 hi ⟨fs, v2, v3, v4, v5, rfl, s2, hF, okf, fl⟩
      rw [show (0 : Int) + (i : Int) = (i : Int) by omega]
      refine ⟨_, rfl, _, rfl, _, _, rfl, rfl, a, ns, 1 + (i : Int), rfl, s2.seq hS, by omega, _, _, rfl, rfl, ⟨by decide, by decide, by decide⟩, (by decide), fun p1 hp1 => ⟨_, p1, [7, 2, (10 : Int) ^ (15 : Int).toNat], rfl, SqL.of upd_same, by decide, hss, fun p2 ds H3 s3 hp2 h3 hD => ?_⟩⟩
      obtain ⟨bells, kind, late, rfl, ⟨b0, b1⟩, ⟨m0, m1⟩, ⟨l0, l1⟩⟩ := dr_three hD
      have l1 : late < 1000000000000000 := by
        have e : (10 : Int) ^ (15 : Int).toNat = 1000000000000000 := by decide +kernel
        rw [e] at l1
        exact l1
      have s23 : Same H2 H3 := (Same.new hp1).trans s3
      obtain ⟨gs, eG, pG⟩ := id (hF.same s23)
      have gl := paired_len pG
      have e0 := Int.emod_nonneg late (show (4 : Int) ≠ 0 by decide)
      have e1 := Int.emod_lt_of_pos late (show (0 : Int) < 4 by decide)
      obtain ⟨lt, hlt, lt0, lt1⟩ := at2' m0 m1 (x := late) (y := late % 4) (Pr := fun l => 0 ≤ l ∧ l < 1000000000000000) ⟨l0, l1⟩ ⟨e0, by omega⟩
      have fok := f8_ok b0 b1 lt0 lt1
      refine ⟨p2, _, rfl, SqL.of h3, rfl, _, _, rfl, _, _, rfl, _, _, rfl, rfl, ?_⟩
      refine ⟨_, rfl, .inl ⟨rfl, _, SqL.of eG⟩, _, _, rfl, rfl, ⟨by decide, by decide, by decide⟩, _, rfl, _, rfl, _, rfl, _, _, rfl, rfl, (by decide), (by show 2 ≤ sizeLine; decide), fun l1' hl1' => ⟨_, rfl, _, _, _, _, rfl, rfl, SqL.of upd_same, hlt, (by show 3 ≤ sizeLine; decide), fun t2 ht2 => ?_⟩⟩
      have s4 := (Same.new (o := .lst [V.int late, V.int (late % 4)]) hl1').put (o := frV ((10 : Int) ^ (20 : Int).toNat, bells, lt)) ht2
      refine ⟨pf, _, _, rfl, rfl, s4 _ _ eG, by rw [List.length_map]; exact small1000 (by omega), ?_⟩
      have nt2 : t2 ≠ pf := (ne_of_none ((Same.new hl1') _ _ eG) ht2).symm
      exact ⟨fs ++ [((10 : Int) ^ (20 : Int).toNat, bells, lt)], _, _, _, _, rfl, ((s2.trans s23).trans s4).wr hpf, ⟨gs ++ [t2], by rw [upd_same, List.map_append]; rfl, Paired.snoc (paired_imp (fun b f z => ⟨z.1, by rw [upd_ne z.1]; exact s4 _ _ z.2⟩) pG) ⟨nt2, by rw [upd_ne nt2]; exact upd_same⟩⟩, fun f hf => by
        rcases List.mem_append.mp hf with z | z
        · exact okf f z
        · rw [List.mem_singleton.mp z]; exact fok, by rw [List.length_append, fl]; rfl⟩
    · rintro σ H2 ⟨fs, v2, v3, v4, v5, rfl, s2, hF, okf, fl⟩
      exact ⟨_, rfl, q pf fs H2 s2 hpf hF okf (by omega)⟩
def spRow89 (K : PySem.W.Frag) : Sp := fun vs H Q _ => ∃ (cell rope : Int) (b : Addr) (fr : Fr), vs = [.int cell, .int rope, .ref b] ∧ H b = some (frV fr) ∧ F8 fr ∧ 0 ≤ rope ∧ rope ≤ 100 ∧
  ∀ (p : Addr) (row : List Int) (H' : Hp), Same H H' → H p = none → H' p = some (.lst (row.map V.int)) → (row.length : Int) = fr.2.1 → Up row → Q (.ref p) H'
theorem sc__law_row : FnScope ["cell", "rope", "frame", "bells", "late", "drawn", "row", "slack", "k"] ["cell", "rope", "frame"] (defScope st__law_row) := ⟨rfl, rfl, rfl, by decide +kernel, rfl, by decide +kernel, by decide +kernel⟩
theorem ok_row89 (D : Def K mg "_law_row" st__law_row ["cell", "rope", "frame"]) (T : Txt K mg) (G__law_drawn : Fn P w K mg base 2 "_law_drawn" ["cell", "sizes"] (spDrawnL K)) : Fn P w K mg base 3 "_law_row" ["cell", "rope", "frame"] (spRow89 K) := by
  refine D.fn sc__law_row (fun vs H Q E h => ?_) (fun f cdv A outer s H vs Q E hr h => ?_)
  · obtain ⟨c, r, b, fr, rfl, _⟩ := h
    rfl
  · obtain ⟨cell, rope, b, ⟨turns, bells, late⟩, rfl, hB, ok, r0, r100, q⟩ := h
    have b0 : 0 ≤ bells := ok.ok.b0
    have b6 : bells ≤ 6 := ok.b6
    have l0 : 0 ≤ late := ok.ok.l0
    have lt : late < 1000000000000000 := ok.lt
    have lb : intBits late ≤ 64 := bits_of l0 (by omega)
    refine ⟨_, (pss_cons (ps_asg (pe_slice sl_tup (pv 2) (po_some pe_int) po_none) (pg_tup (n := 2) rfl (pgs_cons (pg_name (i := 3) sc__law_row.nd rfl (Or.inl rfl)) (pgs_cons (pg_name (i := 4) sc__law_row.nd rfl (Or.inl rfl)) pgs_nil))))
      (pss_cons (ps_set (i := 5) sc__law_row.nd rfl (Or.inl rfl) (pe_fn G__law_drawn (hr.mono (by decide)) (by rfl) (pa_cons (pv 0) (pa_cons (pe_op op_cat (pe_lst (pa_cons pe_int (pa_cons (pe_op op_powB pe_int pe_int) pa_nil))) (pe_op op_rep (pe_lst (pa_cons pe_int (pa_cons (pe_op op_addI (pe_op op_mulB pe_int (pv 4)) pe_int) pa_nil))) (pv 3))) pa_nil))))
      (pss_cons (ps_set (i := 6) sc__law_row.nd rfl (Or.inl rfl) (pe_lst pa_nil))
      (pss_cons (ps_set (i := 7) sc__law_row.nd rfl (Or.inl rfl) (pe_ix ix_list (pe_lst (pa_cons pe_int (pa_cons (pe_ix ix_list (pv 5) pe_int (fun _ _ => rfl)) (pa_cons (pe_op op_fdivB (pe_op op_powB pe_int pe_int) (pe_op op_addI (pv 1) pe_int)) pa_nil)))) (pe_ix ix_list (pv 5) pe_int (fun _ _ => rfl)) (fun _ _ => rfl)))
      (pss_cons (ps_for PassesOwn.never rfl (pi_range1 (by rfl) T.z_range (pa_cons (pv 3) pa_nil)) (pg_name (i := 8) sc__law_row.nd rfl (Or.inl rfl))
        (pss_cons (ps_set (i := 7) sc__law_row.nd rfl (Or.inl rfl) (pe_op op_addI (pv 7) (pe_op op_modB (pe_ix ix_list (pv 5) (pe_op op_addI (pe_op op_mulB pe_int (pv 8)) pe_int) (fun _ _ => rfl)) (pe_ix ix_list (pe_lst (pa_cons pe_int (pa_cons (pe_op op_addI (pv 4) pe_int) (pa_cons (pe_op op_addI (pe_op op_mulB pe_int (pv 4)) pe_int) pa_nil)))) (pe_ix ix_list (pv 5) (pe_op op_addI (pe_op op_mulB pe_int (pv 8)) pe_int) (fun _ _ => rfl)) (fun _ _ => rfl)))))
        (pss_one (ps_expr (pe_bm PySem.F.plainAttrs_list PySem.F.slot_list_append PySem.F.type_list_append mt_append (pv 6) (pa_cons (pe_op op_addI (pv 7) (pv 8)) pa_nil))))))
      (pss_one (ps_ret (pv 6)))))))), ?_⟩
    refine ⟨_, rfl, _, rfl, b, _, rfl, SqT.of hB, (by show ¬ (HT.sIx 3 0 (some 1) = 0 ∧ HT.sIx 3 3 none = 3); decide), fun p1 hp1 => ?_⟩
    have s1 : Same H (upd H p1 (.tup (cutV [V.int turns, V.int bells, V.int late] (some 1) none))) := Same.new hp1
    have h1 : (upd H p1 (.tup (cutV [V.int turns, V.int bells, V.int late] (some 1) none))) p1 = some (.tup [V.int bells, V.int late]) := upd_same
    generalize upd H p1 (.tup (cutV [V.int turns, V.int bells, V.int late] (some 1) none)) = H1 at s1 h1 ⊢
    refine ⟨p1, _, rfl, SqT.of h1, rfl, _, _, rfl, _, _, rfl, rfl, ?_⟩
    refine ⟨_, rfl, _, _, rfl, rfl, ⟨by decide, by decide, by decide⟩, (by decide), fun p2 hp2 => ⟨_, rfl, _, _, rfl, rfl, ⟨64, 64, by decide, lb, by decide⟩, _, _, rfl, rfl, (by show 2 ≤ sizeLine; decide), fun p3 hp3 => ⟨_, rfl, p3, bells, _, rfl, rfl, upd_same, by omega, by omega, by show 2 * bells.toNat ≤ sizeLine; rw [sizeLine_eq]; omega, fun p4 hp4 => ?_⟩⟩⟩
    rw [flat_map2]
    have fl := flat_len2 3 (2 * late + 2) bells.toNat
    have fa := flat_ab 3 (2 * late + 2) bells.toNat
    have fm : ∀ s ∈ (List.replicate bells.toNat [3, 2 * late + 2]).flatten, 0 < s ∧ intBits s ≤ 9000 := fun s hs => by
      obtain ⟨l, hl, hs⟩ := List.mem_flatten.mp hs
      rw [List.eq_of_mem_replicate hl] at hs
      simp only [List.mem_cons, List.not_mem_nil, or_false] at hs
      rcases hs with rfl | rfl
      · exact ⟨by decide, by decide⟩
      · exact ⟨by omega, bits_mono (bits_of (m := 64) (by omega) (by omega)) (by decide)⟩
    generalize (List.replicate bells.toNat [3, 2 * late + 2]).flatten = zs at fl fa fm ⊢
    have s2 : Same H1 (upd (upd (upd H1 p2 (.lst [V.int 3, V.int ((10 : Int) ^ (19 : Int).toNat)])) p3 (.lst [V.int 3, V.int (2 * late + 2)])) p4 (.lst (zs.map V.int))) := ((Same.new hp2).put hp3).put hp4
    have h2 : (upd (upd (upd H1 p2 (.lst [V.int 3, V.int ((10 : Int) ^ (19 : Int).toNat)])) p3 (.lst [V.int 3, V.int (2 * late + 2)])) p4 (.lst (zs.map V.int))) p2 = some (.lst [V.int 3, V.int ((10 : Int) ^ (19 : Int).toNat)]) := (Same.new hp4) _ _ ((Same.new hp3) _ _ upd_same)
    have h4 : (upd (upd (upd H1 p2 (.lst [V.int 3, V.int ((10 : Int) ^ (19 : Int).toNat)])) p3 (.lst [V.int 3, V.int (2 * late + 2)])) p4 (.lst (zs.map V.int))) p4 = some (.lst (zs.map V.int)) := upd_same
    generalize upd (upd (upd H1 p2 (.lst [V.int 3, V.int ((10 : Int) ^ (19 : Int).toNat)])) p3 (.lst [V.int 3, V.int (2 * late + 2)])) p4 (.lst (zs.map V.int)) = H2 at s2 h2 h4 ⊢
    refine ⟨p2, p4, _, _, rfl, rfl, h2, h4, by rw [List.length_map, fl, sizeLine_eq]; simp; omega, fun p5 hp5 => ?_⟩
    have e19 : (10 : Int) ^ (19 : Int).toNat = 10000000000000000000 := by decide +kernel
    refine ⟨cell, p5, 3 :: ((10 : Int) ^ (19 : Int).toNat) :: zs, rfl, SqL.of (by rw [upd_same]; rfl), by rw [List.length_cons, List.length_cons, fl]; omega, fun s hs => ?_, fun pd ds H4 s4 hpd hD dr => ?_⟩
    · rcases List.mem_cons.mp hs with rfl | hs
      · exact ⟨by decide, by decide⟩
      · rcases List.mem_cons.mp hs with rfl | hs
        · exact ⟨by decide +kernel, by decide +kernel⟩
        · exact fm s hs
    have s24 := (Same.new hp5).trans s4
    have s04 := (s1.trans s2).trans s24
    obtain ⟨d0, hd0, d00, d01⟩ := dr_at dr (i := 0) rfl
    obtain ⟨d1, hd1, d10, d11⟩ := dr_at dr (i := 1) rfl
    refine ⟨(by decide), fun pr hpr => ?_⟩
    have hpr0 : H pr = none := s04.free hpr
    have s5 : Same H (upd H4 pr (.lst [])) := s04.put hpr
    have h5 : (upd H4 pr (.lst [])) pr = some (.lst []) := upd_same
    have hD5 : (upd H4 pr (.lst [])) pd = some (.lst (ds.map V.int)) := (Same.new hpr) _ _ hD
    have npd : pd ≠ pr := ne_of_none hD hpr
    generalize upd H4 pr (.lst []) = H5 at s5 h5 hD5 ⊢
    have q0 : 0 ≤ (10 : Int) ^ (18 : Int).toNat / (rope + 1) := Int.ediv_nonneg (by decide +kernel) (by omega)
    obtain ⟨sl, hsl, sl0⟩ := at3 d00 d01 (x := 0) (y := d1) (z := (10 : Int) ^ (18 : Int).toNat / (rope + 1)) (Pr := fun v => 0 ≤ v) (Int.le_refl _) d10 q0
    refine ⟨_, rfl, _, _, _, _, rfl, rfl, SqL.of hD5, at_map hd1, _, _, rfl, rfl, ⟨by decide, by decide, by decide⟩, _, rfl, _, _, rfl, rfl, _, _, rfl, rfl, ⟨by omega, bits_mono (bits_of (m := 64) (by omega) (by omega)) (by decide)⟩, (by show 3 ≤ sizeLine; decide), fun p6 hp6 => ⟨_, rfl, _, _, _, _, rfl, rfl, SqL.of ((Same.new hp6) _ _ hD5), at_map hd0, _, _, _, _, rfl, rfl, SqL.of upd_same, hsl, ?_⟩⟩
    have s6 : Same H5 (upd H5 p6 (.lst [V.int 0, V.int d1, V.int ((10 : Int) ^ (18 : Int).toNat / (rope + 1))])) := Same.new hp6
    generalize upd H5 p6 (.lst [V.int 0, V.int d1, V.int ((10 : Int) ^ (18 : Int).toNat / (rope + 1))]) = H6 at s6 ⊢
    refine ⟨_, rfl, _, rfl, by omega, by omega, for_range (n := bells.toNat) (fun i σ H7 => ∃ (row : List Int) (sl : Int) (v8 : Option V), σ = [some (.int cell), some (.int rope), some (.ref b), some (.int bells), some (.int late), some (.ref pd), some (.ref pr), some (.int sl), v8] ∧ Same H H7 ∧ H7 pd = some (.lst (ds.map V.int)) ∧ H7 pr = some (.lst (row.map V.int)) ∧ row.length = i ∧ 0 ≤ sl ∧ row.Pairwise (· < ·) ∧ ∀ x ∈ row, 0 ≤ x ∧ x < sl + (i : Int))
      ⟨[], sl, none, rfl, s5.trans s6, s6 _ _ hD5, s6 _ _ h5, rfl, sl0, List.Pairwise.nil, (fun _ z => nomatch z)⟩ ?_ ?_⟩
    · rintro i σ H7 hi ⟨row, sl, v8, rfl, s7, hD7, h7, rl, sl0, pw, rb⟩
      rw [show (0 : Int) + (i : Int) = (i : Int) by omega]
      obtain ⟨g1, g2⟩ := fa i hi
      obtain ⟨dk, hdk, dk0, dk1⟩ := dr_at dr (i := 2 * i + 2) (s := 3) g1
      obtain ⟨de, hde, de0, de1⟩ := dr_at dr (i := 2 * i + 3) (s := 2 * late + 2) g2
      have a2 := at_map hdk
      have a3 := at_map hde
      rw [show ((2 * i + 2 : Nat) : Int) = 2 * (i : Int) + 2 by omega] at a2
      rw [show ((2 * i + 3 : Nat) : Int) = 2 * (i : Int) + 3 by omega] at a3
      obtain ⟨md, hmd, md0⟩ := at3 dk0 dk1 (x := 1) (y := late + 1) (z := 2 * late + 2) (Pr := fun v => 0 < v) (by decide) (by omega) (by omega)
      have mi : CMulB 2 (i : Int) := ⟨64, 64, by decide, bits_of (by omega) (by omega), by decide⟩
      refine ⟨_, rfl, _, rfl, _, rfl, _, _, rfl, rfl, mi, _, _, rfl, rfl, _, _, _, _, rfl, rfl, SqL.of hD7, a3, _, rfl, _, _, rfl, rfl, _, rfl, _, _, rfl, rfl, ⟨64, 64, by decide, lb, by decide⟩, _, _, rfl, rfl, (by show 3 ≤ sizeLine; decide), fun p7 hp7 => ⟨_, rfl, _, rfl, _, _, rfl, rfl, mi, _, _, rfl, rfl, _, _, _, _, rfl, rfl, SqL.of ((Same.new hp7) _ _ hD7), a2, _, _, _, _, rfl, rfl, SqL.of upd_same, hmd, _, _, rfl, rfl, md0, _, _, rfl, rfl, ?_⟩⟩
      have e0 := Int.emod_nonneg de (show md ≠ 0 by omega)
      generalize de % md = e at e0 ⊢
      have s8 : Same H7 (upd H7 p7 (.lst [V.int 1, V.int (late + 1), V.int (2 * late + 2)])) := Same.new hp7
      generalize upd H7 p7 (.lst [V.int 1, V.int (late + 1), V.int (2 * late + 2)]) = H8 at s8 ⊢
      have h8 := s8 _ _ h7
      refine ⟨_, rfl, .inl ⟨rfl, _, SqL.of h8⟩, _, rfl, _, rfl, _, _, rfl, rfl, pr, _, _, rfl, rfl, h8, by rw [List.length_map]; exact small1000 (by omega), ?_⟩
      refine ⟨row ++ [sl + e + (i : Int)], sl + e, _, rfl, (s7.trans s8).wr hpr0, by rw [upd_ne npd]; exact s8 _ _ hD7, by rw [upd_same, List.map_append]; rfl, by rw [List.length_append, rl]; rfl, by omega, ?_, fun x hx => ?_⟩
      · rw [List.pairwise_append]
        refine ⟨pw, List.pairwise_singleton .., fun x hx y hy => ?_⟩
        rw [List.mem_singleton.mp hy]
        have := rb x hx
        omega
      · rcases List.mem_append.mp hx with z | z
        · have := rb x z
          omega
        · rw [List.mem_singleton.mp z]
          omega
    · rintro σ H7 ⟨row, sl, v8, rfl, s7, hD7, h7, rl, sl0, pw, rb⟩
      exact ⟨_, rfl, q pr row H7 s7 hpr0 h7 (by show (row.length : Int) = bells; omega) ⟨pw, fun x hx => (rb x hx).1⟩⟩
end
theorem rows_at {H : Hp} {as : List Addr} {rs : List (List Int)} (q : PySem.Paired (fun b (ns : List Int) => H b = some (.lst (ns.map V.int))) as rs) {i : Nat} {r : List Int} (h : rs[i]? = some r) : ∃ b, as[i]? = some b ∧ H b = some (.lst (r.map V.int)) := by
  have hl := paired_len q
  have hi := (List.getElem?_eq_some_iff.mp h).1
  have hb := List.getElem?_eq_getElem (show i < as.length by omega)
  obtain ⟨r', hr, z⟩ := paired_get q hb
  rw [h] at hr
  cases hr
  exact ⟨_, hb, z⟩
section
variable {P : Program} {w : World} {K : PySem.W.Frag} {mg : Str → Option Value} {base : Heap}
theorem sc__law_alike : FnScope ["one", "other", "frames", "k", "mine", "yours"] ["one", "other", "frames"] (defScope st__law_alike) := ⟨rfl, rfl, rfl, by decide +kernel, rfl, by decide +kernel, by decide +kernel⟩
theorem ok_alike89 (D : Def K mg "_law_alike" st__law_alike ["one", "other", "frames"]) (T : Txt K mg) : Fn P w K mg base 1 "_law_alike" ["one", "other", "frames"] spPAlike := by
  refine D.fn sc__law_alike (fun vs H Q E h => ?_) (fun f cdv A outer s H vs Q E hr h => ?_)
  · obtain ⟨a, b, c, rs, ss, fs, rfl, _⟩ := h
    rfl
  · obtain ⟨a, b, c, rs, ss, fs, rfl, ⟨as, eA, pA⟩, ⟨bs, eB, pB⟩, ⟨gs, eG, pG⟩, ok, fl, ft, ft2, q⟩ := h
    have al := paired_len pA
    have bl := paired_len pB
    have gl := paired_len pG
    have len := ft.len
    have len2 := ft2.len
    refine ⟨_, (pss_cons (ps_for PassesOwn.never rfl (pi_range1 (by rfl) T.z_range (pa_cons (pe_callB call_len_seq (by rfl) T.z_len b_len (pa_cons (pv 2) pa_nil)) pa_nil)) (pg_name (i := 3) sc__law_alike.nd rfl (Or.inl rfl))
        (pss_one (ps_for PassesOwn.never rfl (pi_zip (by rfl) T.z_zip (pa_cons (pe_ix ix_list (pv 0) (pv 3) (fun _ _ => rfl)) (pa_cons (pe_ix ix_list (pv 1) (pv 3) (fun _ _ => rfl)) pa_nil))) (pg_tup (n := 2) rfl (pgs_cons (pg_name (i := 4) sc__law_alike.nd rfl (Or.inl rfl)) (pgs_cons (pg_name (i := 5) sc__law_alike.nd rfl (Or.inl rfl)) pgs_nil)))
          (pss_one (ps_if (pw_or (pt_cmpR op_gtI (pe_op op_subI (pv 4) (pv 5)) (pe_ix ix_tup (pe_ix ix_list (pv 2) (pv 3) (fun _ _ => rfl)) pe_int (fun _ _ => rfl)) (nomark _)) (pw_or1 (pt_cmpR op_gtI (pe_op op_subI (pv 5) (pv 4)) (pe_ix ix_tup (pe_ix ix_list (pv 2) (pv 3) (fun _ _ => rfl)) pe_int (fun _ _ => rfl)) (nomark _)))).pt
            (pss_one (ps_ret pe_bl))
            pss_nil)))))
      (pss_one (ps_ret pe_bl))), ?_⟩
    refine ⟨_, rfl, _, _, rfl, .inl (SqL.of eG), _, rfl, by rw [List.length_map]; omega, by rw [List.length_map]; omega, for_range (n := ((gs.map V.ref).length : Int).toNat) (fun i σ H2 => ∃ v3 v4 v5 : Option V, σ = [some (.ref a), some (.ref b), some (.ref c), v3, v4, v5] ∧ Same H H2 ∧ ∀ (j : Nat) (f : Fr) (r s : List Int), j < i → fs[j]? = some f → rs[j]? = some r → ss[j]? = some s → Near r s f.2.2) ⟨none, none, none, rfl, Same.refl _, fun j f r s h => absurd h (Nat.not_lt_zero _)⟩ ?_ ?_⟩
    · rintro i σ H2 hi ⟨v3, v4, v5, rfl, s2, inv⟩
      rw [List.length_map] at hi
      rw [show (0 : Int) + (i : Int) = (i : Int) by omega]
      have hgi := List.getElem?_eq_getElem (show i < gs.length by omega)
      obtain ⟨fr, hfr, hG⟩ := paired_get pG hgi
      have hri := List.getElem?_eq_getElem (show i < rs.length by omega)
      have hsi := List.getElem?_eq_getElem (show i < ss.length by omega)
      generalize rs[i] = r1 at hri
      generalize ss[i] = r2 at hsi
      obtain ⟨c1, hc1, hr1⟩ := rows_at pA hri
      obtain ⟨c2, hc2, hr2⟩ := rows_at pB hsi
      have l1 := ft.row i r1 fr hri hfr
      have l2 := ft2.row i r2 fr hsi hfr
      refine ⟨_, rfl, _, rfl, _, _, _, _, rfl, rfl, SqL.of (s2 _ _ eA), at_mapR hc1, _, rfl, _, rfl, _, _, _, _, rfl, rfl, SqL.of (s2 _ _ eB), at_mapR hc2, c1, c2, _, _, rfl, SqL.of (s2 _ _ hr1), SqL.of (s2 _ _ hr2), for_zip (K := K) (a := c1) (b := c2) (xs := r1.map V.int) (ys := r2.map V.int) (fun j σ H3 => ∃ v4 v5 : Option V, σ = [some (.ref a), some (.ref b), some (.ref c), some (.int (i : Int)), v4, v5] ∧ Same H H3 ∧ ∀ (m : Nat) (x y : Int), m < j → r1[m]? = some x → r2[m]? = some y → x ≤ y + fr.2.2 ∧ y ≤ x + fr.2.2) ⟨_, _, rfl, s2, fun m x y h => absurd h (Nat.not_lt_zero _)⟩ (fun j σ H3 ⟨_, _, _, s3, _⟩ => ⟨SqL.of (s3 _ _ hr1), SqL.of (s3 _ _ hr2)⟩) ?_ ?_⟩
      · rintro j xv yv t σ H3 hx hy ⟨v4, v5, rfl, s3, near⟩ ht
        rw [List.getElem?_map] at hx hy
        obtain ⟨x, hx', rfl⟩ := Option.map_eq_some_iff.mp hx
        obtain ⟨y, hy', rfl⟩ := Option.map_eq_some_iff.mp hy
        have s4 : Same H3 (upd H3 t (.tup [V.int x, V.int y])) := Same.new ht
        have h4 : (upd H3 t (.tup [V.int x, V.int y])) t = some (.tup [V.int x, V.int y]) := upd_same
        generalize upd H3 t (.tup [V.int x, V.int y]) = H4 at s4 h4 ⊢
        have s04 := s3.trans s4
        have bad : ¬ (x ≤ y + fr.2.2 ∧ y ≤ x + fr.2.2) → Q (.bl false) H4 := fun n => q false H4 s04 ⟨(fun z => nomatch z), fun z => absurd (z i fr r1 r2 hfr hri hsi j x y hx' hy') n⟩
        refine ⟨t, _, rfl, SqT.of h4, rfl, _, _, rfl, _, _, rfl, rfl, ?_⟩
        refine ⟨_, rfl, _, rfl, _, _, rfl, rfl, _, rfl, _, rfl, _, _, _, _, rfl, rfl, SqL.of (s04 _ _ eG), at_mapR hgi, _, _, _, _, rfl, rfl, SqT.of (s04 _ _ hG), rfl, _, _, rfl, rfl, _, rfl, ifD (fun g => iteT (bad (by omega))) (fun ng => ⟨_, rfl, _, rfl, _, _, rfl, rfl, _, rfl, _, rfl, _, _, _, _, rfl, rfl, SqL.of (s04 _ _ eG), at_mapR hgi, _, _, _, _, rfl, rfl, SqT.of (s04 _ _ hG), rfl, _, _, rfl, rfl, _, rfl, ifD (fun g => bad (by omega)) (fun ng2 => ⟨_, _, rfl, s04, fun m x' y' hm hx2 hy2 => ?_⟩)⟩)⟩
        rcases Nat.lt_or_eq_of_le (Nat.lt_succ_iff.mp hm) with z | z
        · exact near m x' y' z hx2 hy2
        · subst z
          rw [hx'] at hx2
          rw [hy'] at hy2
          cases hx2; cases hy2
          omega
      · rintro σ H3 ⟨v4, v5, rfl, s3, near⟩
        refine ⟨_, _, _, rfl, s3, fun j f r s hj h1 h2 h3 => ?_⟩
        rcases Nat.lt_or_eq_of_le (Nat.lt_succ_iff.mp hj) with z | z
        · exact inv j f r s z h1 h2 h3
        · subst z
          rw [hfr] at h1
          rw [hri] at h2
          rw [hsi] at h3
          cases h1; cases h2; cases h3
          exact fun m x y hx hy => near m x y (by have a1 := (List.getElem?_eq_some_iff.mp hx).1; have a2 := (List.getElem?_eq_some_iff.mp hy).1; rw [List.length_map, List.length_map]; omega) hx hy
    · rintro σ H2 ⟨v3, v4, v5, rfl, s2, inv⟩
      rw [List.length_map] at inv
      exact q true H2 s2 ⟨fun _ j f r s h1 h2 h3 => inv j f r s (by have := (List.getElem?_eq_some_iff.mp h2).1; omega) h1 h2 h3, fun _ => rfl⟩
def spBoxes89 : Sp := fun vs H Q _ => ∃ (a c : Addr) (rs : List (List Int)) (fs : List Fr), vs = [.ref a, .ref c] ∧ LL H a rs ∧ Frs H c fs ∧ (∀ f ∈ fs, F8 f) ∧ fs.length ≤ 64 ∧ FitP fs rs ∧
  ∀ (p : Addr) (H' : Hp), Same H H' → H p = none → LLn H H' p (boxesP fs rs) → Q (.ref p) H'
theorem sc__law_boxes : FnScope ["peal", "frames", "boxes", "k"] ["peal", "frames"] (defScope st__law_boxes) := ⟨rfl, rfl, rfl, by decide +kernel, rfl, by decide +kernel, by decide +kernel⟩
theorem ok_boxes89 (D : Def K mg "_law_boxes" st__law_boxes ["peal", "frames"]) (T : Txt K mg) : Fn P w K mg base 1 "_law_boxes" ["peal", "frames"] spBoxes89 := by
  refine D.fn sc__law_boxes (fun vs H Q E h => ?_) (fun f cdv A outer s H vs Q E hr h => ?_)
  · obtain ⟨a, c, rs, fs, rfl, _⟩ := h
    rfl
  · obtain ⟨a, c, rs, fs, rfl, ⟨as, eA, pA⟩, ⟨gs, eG, pG⟩, ok, fl, ft, q⟩ := h
    have al := paired_len pA
    have gl := paired_len pG
    have len := ft.len
    refine ⟨_, (pss_cons (ps_set (i := 2) sc__law_boxes.nd rfl (Or.inl rfl) (pe_lst pa_nil))
      (pss_cons (ps_for PassesOwn.never rfl (pi_range1 (by rfl) T.z_range (pa_cons (pe_callB call_len_seq (by rfl) T.z_len b_len (pa_cons (pv 1) pa_nil)) pa_nil)) (pg_name (i := 3) sc__law_boxes.nd rfl (Or.inr rfl))
        (pss_one (ps_expr (pe_bm PySem.F.plainAttrs_list PySem.F.slot_list_append PySem.F.type_list_append mt_append (pv 2) (pa_cons (pe_comp (own := ["i"]) (fr := ["peal", "k", "frames"]) (ix := [0, 3, 1]) rfl ⟨rfl, rfl, rfl, rfl, rfl, rfl⟩ (pi_range1 (by rfl) T.z_range (pa_cons (pe_callB call_len_seq (by rfl) T.z_len b_len (pa_cons (pe_ix ix_list (pv 0) (pv 3) (fun _ _ => rfl)) pa_nil)) pa_nil)) (fun _ _ _ _ _ => (pg_name (i := 0) (show (["i", "peal", "k", "frames"] : List Str).Nodup by decide +kernel) rfl (Or.inl rfl))) (fun _ _ _ _ _ => pts_nil) (fun _ _ _ _ _ => (pe_op op_fdivB (pe_op op_subI (pe_ix (ix_listK K) (pe_ix (ix_listK K) (pv 1) (pv 2) (fun _ _ => rfl)) (pv 0) (fun _ _ => rfl)) (pv 0)) (pe_op op_addI (pe_ix (ix_tupK K) (pe_ix (ix_listK K) (pv 3) (pv 2) (fun _ _ => rfl)) pe_int (fun _ _ => rfl)) pe_int)))) pa_nil)))))
      (pss_one (ps_ret (pv 2))))), ?_⟩
    refine ⟨(by decide), fun pb hpb => ?_⟩
    have s1 : Same H (upd H pb (.lst [])) := Same.new hpb
    refine ⟨_, rfl, _, _, rfl, .inl (SqL.of (s1 _ _ eG)), _, rfl, by rw [List.length_map]; omega, by rw [List.length_map]; omega, for_range (n := ((gs.map V.ref).length : Int).toNat) (fun i σ H2 => ∃ (cs : List Addr) (v3 : Option V), σ = [some (.ref a), some (.ref c), some (.ref pb), v3] ∧ Same H H2 ∧ H2 pb = some (.lst (cs.map V.ref)) ∧ PySem.Paired (fun b (ns : List Int) => b ≠ pb ∧ H b = none ∧ H2 b = some (.lst (ns.map V.int))) cs ((boxesP fs rs).take i)) ⟨[], none, rfl, s1, upd_same, .nil⟩ ?_ ?_⟩
    · rintro i σ H2 hi ⟨cs, v3, rfl, s2, h2, p2⟩
      rw [List.length_map] at hi
      rw [show (0 : Int) + (i : Int) = (i : Int) by omega]
      have cl := paired_len p2
      rw [List.length_take] at cl
      have hgi := List.getElem?_eq_getElem (show i < gs.length by omega)
      obtain ⟨fr, hfr, hG⟩ := paired_get pG hgi
      have okf := ok fr (List.mem_of_getElem? hfr)
      have hri := List.getElem?_eq_getElem (show i < rs.length by omega)
      generalize rs[i] = r1 at hri
      obtain ⟨c1, hc1, hr1⟩ := rows_at pA hri
      have l1 := ft.row i r1 fr hri hfr
      have b6 := okf.b6
      have l0 := okf.ok.l0
      have lt := okf.lt
      have cd : CDivB (fr.2.2 + 1) := ⟨by omega, bits_mono (bits_of (m := 64) (by omega) (by omega)) (by decide)⟩
      refine ⟨_, rfl, .inl ⟨rfl, _, SqL.of h2⟩, _, rfl, _, rfl, _, _, _, _, rfl, rfl, SqL.of (s2 _ _ eA), at_mapR hc1, _, _, rfl, .inl (SqL.of (s2 _ _ hr1)), _, rfl, by rw [List.length_map]; omega, by rw [List.length_map]; omega, fun ac hac => comp_rangeP (lo := 0) (n := ((r1.map V.int).length : Int).toNat) (fun m => V.int ((r1.getD m 0 - (m : Int)) / (fr.2.2 + 1))) hac (Nat.le_of_lt (small1000 (by rw [List.length_map]; omega))) ?_ ?_⟩
      · intro m H3 R hm s3 hR
        rw [List.length_map] at hm
        rw [show (0 : Int) + (m : Int) = (m : Int) by omega]
        have hx := List.getElem?_eq_getElem (show m < r1.length by omega)
        rw [List.getD_eq_getElem?_getD, hx] at hR
        have s23 := s2.trans s3
        exact ⟨rfl, _, rfl, _, rfl, _, _, _, _, rfl, rfl, SqL.of (s23 _ _ eA), at_mapR hc1, _, rfl, _, _, _, _, rfl, rfl, SqL.of (s23 _ _ hr1), at_map hx, _, rfl, _, _, rfl, rfl, _, rfl, _, rfl, _, _, _, _, rfl, rfl, SqL.of (s23 _ _ eG), at_mapR hgi, _, _, _, _, rfl, rfl, SqT.of (s23 _ _ hG), rfl, _, _, rfl, rfl, _, _, rfl, rfl, cd, hR⟩
      · have e : (List.range ((r1.map V.int).length : Int).toNat).map (fun m => V.int ((r1.getD m 0 - (m : Int)) / (fr.2.2 + 1))) = (boxL fr.2.2 r1).map V.int := by
          unfold boxL
          rw [List.map_map, List.length_map]
          rfl
        rw [e]
        have npc : ac ≠ pb := (ne_of_none h2 hac).symm
        have s3 : Same H2 (upd H2 ac (.lst ((boxL fr.2.2 r1).map V.int))) := Same.new hac
        have h3 : (upd H2 ac (.lst ((boxL fr.2.2 r1).map V.int))) ac = some (.lst ((boxL fr.2.2 r1).map V.int)) := upd_same
        generalize upd H2 ac (.lst ((boxL fr.2.2 r1).map V.int)) = H3 at s3 h3 ⊢
        refine ⟨pb, _, _, rfl, rfl, s3 _ _ h2, by rw [List.length_map]; exact small1000 (by omega), ?_⟩
        refine ⟨cs ++ [ac], _, rfl, (s2.trans s3).wr hpb, by rw [upd_same, List.map_append]; rfl, ?_⟩
        rw [take_snoc (boxesP_get hri hfr)]
        exact PySem.Paired.snoc (paired_imp (fun b ns z => ⟨z.1, z.2.1, by rw [upd_ne z.1]; exact s3 _ _ z.2.2⟩) p2) ⟨npc, s2.free hac, by rw [upd_ne npc]; exact h3⟩
    · rintro σ H2 ⟨cs, v3, rfl, s2, h2, p2⟩
      rw [List.length_map, List.take_of_length_le (by rw [boxesP_len]; omega)] at p2
      exact ⟨_, rfl, q pb H2 s2 hpb ⟨cs, h2, p2⟩⟩
end
theorem maxs_get {r s : List Int} {i : Nat} {x y : Int} (hx : r[i]? = some x) (hy : s[i]? = some y) : (maxs r s)[i]? = some (mx x y) := by
  unfold maxs
  rw [List.getElem?_zipWith, hx, hy]
theorem up_at {r : List Int} (u : Up r) {i j : Nat} {x y : Int} (h : i < j) (hx : r[i]? = some x) (hy : r[j]? = some y) : x < y := by
  obtain ⟨h1, e1⟩ := List.getElem?_eq_some_iff.mp hx
  obtain ⟨h2, e2⟩ := List.getElem?_eq_some_iff.mp hy
  rw [← e1, ← e2]
  exact List.pairwise_iff_getElem.mp u.1 i j h1 h2 h
section
variable {P : Program} {w : World} {K : PySem.W.Frag} {mg : Str → Option Value} {base : Heap}
def spBoth89 : Sp := fun vs H Q _ => ∃ (a b c : Addr) (r1 r2 : List Int) (late : Int), vs = [.ref a, .ref b, .int late, .ref c] ∧ H a = some (.lst (r1.map V.int)) ∧ H b = some (.lst (r2.map V.int)) ∧ H c = some (.lst ((maxs r1 r2).map V.int)) ∧ r1.length = r2.length ∧ r1.length ≤ 64 ∧ Near r1 r2 late ∧ 0 ≤ late ∧ Up r1 ∧ Up r2 ∧ Q (.bl true) H
theorem sc__law_both : FnScope ["one", "other", "late", "found", "last", "k"] ["one", "other", "late", "found"] (defScope st__law_both) := ⟨rfl, rfl, rfl, by decide +kernel, rfl, by decide +kernel, by decide +kernel⟩
theorem ok_both89 (D : Def K mg "_law_both" st__law_both ["one", "other", "late", "found"]) (T : Txt K mg) : Fn P w K mg base 1 "_law_both" ["one", "other", "late", "found"] spBoth89 := by
  refine D.fn sc__law_both (fun vs H Q E h => ?_) (fun f cdv A outer s H vs Q E hr h => ?_)
  · obtain ⟨a, b, c, r1, r2, late, rfl, _⟩ := h
    rfl
  · obtain ⟨a, b, c, r1, r2, late, rfl, hA, hB, hC, len, l64, near, l0, u1, u2, q⟩ := h
    have ml := maxs_len len
    refine ⟨_, (pss_cons (ps_if (pw_or (pt_not (pt_val (pe_callB call_isinst (by rfl) T.z_isinstance b_isinstance (pa_cons (pv 3) (pa_cons (pe_bltn (v := .ty "list") (by rfl) T.z_list b_list rfl) pa_nil))))) (pw_or1 (pt_cmpR op_neI (pe_callB call_len_seq (by rfl) T.z_len b_len (pa_cons (pv 3) pa_nil)) (pe_callB call_len_seq (by rfl) T.z_len b_len (pa_cons (pv 0) pa_nil)) (nomark _)))).pt
        (pss_one (ps_ret pe_bl))
        pss_nil)
      (pss_cons (ps_set (i := 4) sc__law_both.nd rfl (Or.inl rfl) pe_int)
      (pss_cons (ps_for PassesOwn.never rfl (pi_range1 (by rfl) T.z_range (pa_cons (pe_callB call_len_seq (by rfl) T.z_len b_len (pa_cons (pv 0) pa_nil)) pa_nil)) (pg_name (i := 5) sc__law_both.nd rfl (Or.inl rfl))
        (pss_cons (ps_if (pw_or (pt_not (pt_val (pe_callB call_isinst (by rfl) T.z_isinstance b_isinstance (pa_cons (pe_ix ix_list (pv 3) (pv 5) (fun _ _ => rfl)) (pa_cons (pe_bltn (v := .ty "int") (by rfl) T.z_int b_int rfl) pa_nil))))) (pw_or (pt_val (pe_callB call_isinst (by rfl) T.z_isinstance b_isinstance (pa_cons (pe_ix ix_list (pv 3) (pv 5) (fun _ _ => rfl)) (pa_cons (pe_bltn (v := .ty "bool") (by rfl) T.z_bool b_bool rfl) pa_nil)))) (pw_or1 (pt_cmpR op_ltI (pe_ix ix_list (pv 3) (pv 5) (fun _ _ => rfl)) (pv 4) (nomark _))))).pt
          (pss_one (ps_ret pe_bl))
          pss_nil)
        (pss_cons (ps_if (pw_or (pt_cmpR op_ltI (pe_ix ix_list (pv 3) (pv 5) (fun _ _ => rfl)) (pe_callB (call_max2 rfl) (by rfl) T.z_max b_max (pa_cons (pe_ix ix_list (pv 0) (pv 5) (fun _ _ => rfl)) (pa_cons (pe_ix ix_list (pv 1) (pv 5) (fun _ _ => rfl)) pa_nil))) (nomark _)) (pw_or1 (pt_cmpR op_gtI (pe_ix ix_list (pv 3) (pv 5) (fun _ _ => rfl)) (pe_op op_addI (pe_callB (call_min2 rfl) (by rfl) T.z_min b_min (pa_cons (pe_ix ix_list (pv 0) (pv 5) (fun _ _ => rfl)) (pa_cons (pe_ix ix_list (pv 1) (pv 5) (fun _ _ => rfl)) pa_nil))) (pv 2)) (nomark _)))).pt
          (pss_one (ps_ret pe_bl))
          pss_nil)
        (pss_one (ps_set (i := 4) sc__law_both.nd rfl (Or.inl rfl) (pe_ix ix_list (pv 3) (pv 5) (fun _ _ => rfl)))))))
      (pss_one (ps_ret pe_bl))))), ?_⟩
    refine ⟨_, rfl, _, _, _, true, rfl, TyOf.lst hC, kit_list_list K, _, rfl, iteF ⟨_, rfl, _, _, rfl, .inl (SqL.of hC), _, rfl, _, _, rfl, .inl (SqL.of hA), _, _, rfl, rfl, _, rfl, iteNS (by rw [List.length_map, List.length_map, ml]) ?_⟩⟩
    refine ⟨_, rfl, _, _, rfl, .inl (SqL.of hA), _, rfl, by rw [List.length_map]; omega, by rw [List.length_map]; omega, for_range (n := ((r1.map V.int).length : Int).toNat) (fun i σ H2 => ∃ (last : Int) (v5 : Option V), σ = [some (.ref a), some (.ref b), some (.int late), some (.ref c), some (.int last), v5] ∧ H2 = H ∧ ∀ (m : Nat) (z : Int), i ≤ m → (maxs r1 r2)[m]? = some z → last ≤ z) ⟨0, none, rfl, rfl, fun m z _ hz => ?_⟩ ?_ ?_⟩
    · have hm := (List.getElem?_eq_some_iff.mp hz).1
      have hx := List.getElem?_eq_getElem (show m < r1.length by omega)
      have hy := List.getElem?_eq_getElem (show m < r2.length by omega)
      have x0 := u1.2 _ (List.mem_of_getElem? hx)
      have y0 := u2.2 _ (List.mem_of_getElem? hy)
      rw [maxs_at hx hy hz]
      unfold mx
      split <;> omega
    · rintro i σ H2 hi ⟨last, v5, rfl, rfl, low⟩
      rw [List.length_map] at hi
      rw [show (0 : Int) + (i : Int) = (i : Int) by omega]
      have hx := List.getElem?_eq_getElem (show i < r1.length by omega)
      have hy := List.getElem?_eq_getElem (show i < r2.length by omega)
      generalize r1[i] = x at hx
      generalize r2[i] = y at hy
      have hz := maxs_get hx hy
      have lz := low i _ (Nat.le_refl _) hz
      have nr := near i x y hx hy
      refine ⟨_, rfl, _, rfl, _, _, _, _, rfl, rfl, SqL.of hC, at_map hz, _, _, _, true, rfl, TyOf.int _, kit_int_int K, _, rfl, iteF ⟨_, rfl, _, rfl, _, _, _, _, rfl, rfl, SqL.of hC, at_map hz, _, _, _, false, rfl, TyOf.int _, kit_int_bool K, _, rfl, iteF ⟨_, rfl, _, rfl, _, _, _, _, rfl, rfl, SqL.of hC, at_map hz, _, rfl, _, _, rfl, rfl, _, rfl, ifF (by omega) ?_⟩⟩⟩
      refine ⟨_, rfl, _, rfl, _, _, _, _, rfl, rfl, SqL.of hC, at_map hz, _, rfl, _, rfl, _, _, _, _, rfl, rfl, SqL.of hA, at_map hx, _, rfl, _, rfl, _, _, _, _, rfl, rfl, SqL.of hB, at_map hy, _, _, rfl, _, _, rfl, rfl, _, rfl, ifF (by show ¬ mx x y < mx x y; omega) ⟨_, rfl, _, rfl, _, _, _, _, rfl, rfl, SqL.of hC, at_map hz, _, rfl, _, rfl, _, _, _, _, rfl, rfl, SqL.of hA, at_map hx, _, rfl, _, rfl, _, _, _, _, rfl, rfl, SqL.of hB, at_map hy, _, _, rfl, _, rfl, _, _, rfl, rfl, _, _, rfl, rfl, _, rfl, ifF (by unfold mx; split <;> split <;> omega) ?_⟩⟩
      refine ⟨_, rfl, _, rfl, _, _, _, _, rfl, rfl, SqL.of hC, at_map hz, _, _, rfl, rfl, fun m z hm hz' => ?_⟩
      have hml := (List.getElem?_eq_some_iff.mp hz').1
      have hx' := List.getElem?_eq_getElem (show m < r1.length by omega)
      have hy' := List.getElem?_eq_getElem (show m < r2.length by omega)
      have a1 := up_at u1 (show i < m by omega) hx hx'
      have a2 := up_at u2 (show i < m by omega) hy hy'
      rw [maxs_at hx' hy' hz']
      unfold mx
      split <;> split <;> omega
    · rintro σ H2 ⟨last, v5, rfl, rfl, low⟩
      exact q
def spReadings89 : Sp := fun vs H Q _ => ∃ (a b c h : Addr) (rs ss : List (List Int)) (fs : List Fr), vs = [.ref a, .ref b, .ref c, .ref h] ∧ LL H a rs ∧ LL H b ss ∧ Frs H c fs ∧ LL H h (hearP rs ss) ∧ (∀ f ∈ fs, F8 f) ∧ fs.length ≤ 64 ∧ FitP fs rs ∧ FitP fs ss ∧ NearP fs rs ss ∧ (∀ r ∈ rs, Up r) ∧ (∀ r ∈ ss, Up r) ∧ Q (.bl true) H
theorem sc__law_readings : FnScope ["one", "other", "frames", "readings", "k"] ["one", "other", "frames", "readings"] (defScope st__law_readings) := ⟨rfl, rfl, rfl, by decide +kernel, rfl, by decide +kernel, by decide +kernel⟩
theorem ok_readings89 (D : Def K mg "_law_readings" st__law_readings ["one", "other", "frames", "readings"]) (T : Txt K mg) (G__law_both : Fn P w K mg base 1 "_law_both" ["one", "other", "late", "found"] spBoth89) : Fn P w K mg base 2 "_law_readings" ["one", "other", "frames", "readings"] spReadings89 := by
  refine D.fn sc__law_readings (fun vs H Q E h => ?_) (fun f cdv A outer s H vs Q E hr h => ?_)
  · obtain ⟨a, b, c, h, rs, ss, fs, rfl, _⟩ := h
    rfl
  · obtain ⟨a, b, c, h, rs, ss, fs, rfl, ⟨as, eA, pA⟩, ⟨bs, eB, pB⟩, ⟨gs, eG, pG⟩, ⟨cs, eC, pC⟩, ok, fl, ft, ft2, nr, up1, up2, q⟩ := h
    have gl := paired_len pG
    have cl := paired_len pC
    have len := ft.len
    have len2 := ft2.len
    have hln : (hearP rs ss).length = fs.length := by unfold hearP; rw [List.length_zipWith]; omega
    refine ⟨_, (pss_cons (ps_if (pw_or (pt_not (pt_val (pe_callB call_isinst (by rfl) T.z_isinstance b_isinstance (pa_cons (pv 3) (pa_cons (pe_bltn (v := .ty "list") (by rfl) T.z_list b_list rfl) pa_nil))))) (pw_or1 (pt_cmpR op_neI (pe_callB call_len_seq (by rfl) T.z_len b_len (pa_cons (pv 3) pa_nil)) (pe_callB call_len_seq (by rfl) T.z_len b_len (pa_cons (pv 2) pa_nil)) (nomark _)))).pt
        (pss_one (ps_ret pe_bl))
        pss_nil)
      (pss_cons (ps_for PassesOwn.never rfl (pi_range1 (by rfl) T.z_range (pa_cons (pe_callB call_len_seq (by rfl) T.z_len b_len (pa_cons (pv 2) pa_nil)) pa_nil)) (pg_name (i := 4) sc__law_readings.nd rfl (Or.inl rfl))
        (pss_one (ps_if (pt_not (pt_val (pe_fn G__law_both (hr.mono (by decide)) (by rfl) (pa_cons (pe_ix ix_list (pv 0) (pv 4) (fun _ _ => rfl)) (pa_cons (pe_ix ix_list (pv 1) (pv 4) (fun _ _ => rfl)) (pa_cons (pe_ix ix_tup (pe_ix ix_list (pv 2) (pv 4) (fun _ _ => rfl)) pe_int (fun _ _ => rfl)) (pa_cons (pe_ix ix_list (pv 3) (pv 4) (fun _ _ => rfl)) pa_nil)))))))
          (pss_one (ps_ret pe_bl))
          pss_nil)))
      (pss_one (ps_ret pe_bl)))), ?_⟩
    refine ⟨_, rfl, _, _, _, true, rfl, TyOf.lst eC, kit_list_list K, _, rfl, iteF ⟨_, rfl, _, _, rfl, .inl (SqL.of eC), _, rfl, _, _, rfl, .inl (SqL.of eG), _, _, rfl, rfl, _, rfl, iteNS (by rw [List.length_map, List.length_map]; omega) ?_⟩⟩
    refine ⟨_, rfl, _, _, rfl, .inl (SqL.of eG), _, rfl, by rw [List.length_map]; omega, by rw [List.length_map]; omega, for_range (n := ((gs.map V.ref).length : Int).toNat) (fun i σ H2 => ∃ v4 : Option V, σ = [some (.ref a), some (.ref b), some (.ref c), some (.ref h), v4] ∧ H2 = H) ⟨none, rfl, rfl⟩ ?_ ?_⟩
    · rintro i σ H2 hi ⟨v4, rfl, rfl⟩
      rw [List.length_map] at hi
      rw [show (0 : Int) + (i : Int) = (i : Int) by omega]
      have hgi := List.getElem?_eq_getElem (show i < gs.length by omega)
      obtain ⟨fr, hfr, hG⟩ := paired_get pG hgi
      have hri := List.getElem?_eq_getElem (show i < rs.length by omega)
      have hsi := List.getElem?_eq_getElem (show i < ss.length by omega)
      generalize rs[i] = r1 at hri
      generalize ss[i] = r2 at hsi
      obtain ⟨c1, hc1, hr1⟩ := rows_at pA hri
      obtain ⟨c2, hc2, hr2⟩ := rows_at pB hsi
      have hei : (hearP rs ss)[i]? = some (maxs r1 r2) := by
        unfold hearP
        rw [List.getElem?_zipWith, hri, hsi]
      obtain ⟨c3, hc3, hr3⟩ := rows_at pC hei
      have l1 := ft.row i r1 fr hri hfr
      have l2 := ft2.row i r2 fr hsi hfr
      have okf := ok fr (List.mem_of_getElem? hfr)
      have b6 := okf.b6
      exact ⟨_, rfl, _, rfl, _, _, _, _, rfl, rfl, SqL.of eA, at_mapR hc1, _, rfl, _, rfl, _, _, _, _, rfl, rfl, SqL.of eB, at_mapR hc2, _, rfl, _, rfl, _, _, _, _, rfl, rfl, SqL.of eG, at_mapR hgi, _, _, _, _, rfl, rfl, SqT.of hG, rfl, _, rfl, _, rfl, _, _, _, _, rfl, rfl, SqL.of eC, at_mapR hc3, c1, c2, c3, r1, r2, fr.2.2, rfl, hr1, hr2, hr3, by omega, by omega, nr i fr r1 r2 hfr hri hsi, okf.ok.l0, up1 r1 (List.mem_of_getElem? hri), up2 r2 (List.mem_of_getElem? hsi), _, rfl, iteF ⟨_, rfl, rfl⟩⟩
    · rintro σ H2 ⟨v4, rfl, rfl⟩
      exact q
end
theorem cut_upto (xs : List V) {i : Nat} (h : i ≤ xs.length) : cutV xs none (some (i : Int)) = xs.take i := by
  unfold cutV
  have e0 : HT.sIx xs.length 0 none = 0 := rfl
  rw [e0, HT.sIx_nat, List.drop_zero, Nat.sub_zero, show min i xs.length = i by omega]
theorem paired_take {α β : Type} {R : α → β → Prop} : ∀ {as : List α} {bs : List β} (k : Nat), PySem.Paired R as bs → PySem.Paired R (as.take k) (bs.take k)
  | _, _, 0, _ => by rw [List.take_zero, List.take_zero]; exact .nil
  | _, _, k + 1, .nil => by rw [List.take_nil, List.take_nil]; exact .nil
  | _, _, k + 1, .cons x y => by rw [List.take_succ_cons, List.take_succ_cons]; exact .cons x (paired_take k y)
theorem paired_mem {α β : Type} {R : α → β → Prop} {as : List α} {bs : List β} (h : PySem.Paired R as bs) {a : α} (ha : a ∈ as) : ∃ b, b ∈ bs ∧ R a b := by
  obtain ⟨i, hi⟩ := List.getElem?_of_mem ha
  obtain ⟨b, hb, r⟩ := paired_get h hi
  exact ⟨b, List.mem_of_getElem? hb, r⟩
theorem nodup_snoc {α : Type} {as : List α} {t : α} (h : as.Nodup) (ht : t ∉ as) : (as ++ [t]).Nodup := by
  rw [List.nodup_append]
  refine ⟨h, by simp, fun a ha b hb => ?_⟩
  rw [List.mem_singleton.mp hb]
  exact fun e => ht (e ▸ ha)
def LLx (p : Addr) (H : Hp) (b : Addr) (rs : List (List Int)) : Prop := ∃ cs : List Addr, H b = some (.lst (cs.map V.ref)) ∧ PySem.Paired (fun c (ns : List Int) => c ≠ p ∧ H c = some (.lst (ns.map V.int))) cs rs
theorem LLx.ll {p : Addr} {H : Hp} {b : Addr} {rs : List (List Int)} (h : LLx p H b rs) : LL H b rs := by
  obtain ⟨cs, e, q⟩ := h
  exact ⟨cs, e, paired_imp (fun _ _ z => z.2) q⟩
theorem LLx.keep {p : Addr} {H H' : Hp} {b : Addr} {rs : List (List Int)} (h : LLx p H b rs) (hb : b ≠ p) (k : ∀ z o, z ≠ p → H z = some o → H' z = some o) : LLx p H' b rs := by
  obtain ⟨cs, e, q⟩ := h
  exact ⟨cs, k _ _ hb e, paired_imp (fun _ _ z => ⟨z.1, k _ _ z.1 z.2⟩) q⟩
theorem Peals.at {H : Hp} {as : List Addr} {ps : List (List (List Int))} (q : PySem.Paired (fun b rs => LL H b rs) as ps) {i : Nat} {rs : List (List Int)} (h : ps[i]? = some rs) : ∃ b, as[i]? = some b ∧ LL H b rs := by
  have hl := paired_len q
  have hi := (List.getElem?_eq_some_iff.mp h).1
  have hb := List.getElem?_eq_getElem (show i < as.length by omega)
  obtain ⟨r, hr, z⟩ := paired_get q hb
  rw [h] at hr
  cases hr
  exact ⟨_, hb, z⟩
def NoCrP (fs : List Fr) (ps : List (List (List Int))) (j : Nat) : Prop := ∀ (k l : Nat) (x y : List (List Int)), k < l → l < j → ps[k]? = some x → ps[l]? = some y → boxesP fs x ≠ boxesP fs y
section
variable {P : Program} {w : World} {K : PySem.W.Frag} {mg : Str → Option Value} {base : Heap}
def FoundP (H : Hp) (fs : List Fr) (ps : List (List (List Int))) (fv : V) : Prop :=
  (fv = .non ∧ NoCrP fs ps ps.length) ∨
  (∃ (i j : Nat) (rs ss : List (List Int)) (t h : Addr), fv = .ref t ∧ H t = some (.tup [.int i, .int j, .ref h]) ∧ i < j ∧ ps[i]? = some rs ∧ ps[j]? = some ss ∧ boxesP fs rs = boxesP fs ss ∧ NoCrP fs ps j ∧ LL H h (hearP rs ss))
def spCrowd89 : Sp := fun vs H Q _ => ∃ (a pf : Addr) (fv : V) (ps : List (List (List Int))) (fs : List Fr), vs = [.ref a, .ref pf, fv] ∧ Peals H a ps ∧ Frs H pf fs ∧ (∀ f ∈ fs, F8 f) ∧ fs.length ≤ 64 ∧ (∀ rs ∈ ps, FitP fs rs ∧ ∀ r ∈ rs, Up r) ∧ ps.length ≤ 100 ∧ FoundP H fs ps fv ∧ ∀ H', Same H H' → Q (.bl true) H'
theorem sc__law_crowd : FnScope ["peals", "frames", "found", "known", "second", "first"] ["peals", "frames", "found"] (defScope st__law_crowd) := ⟨rfl, rfl, rfl, by decide +kernel, rfl, by decide +kernel, by decide +kernel⟩
theorem ok_crowd89 (D : Def K mg "_law_crowd" st__law_crowd ["peals", "frames", "found"]) (T : Txt K mg) (G__law_boxes : Fn P w K mg base 1 "_law_boxes" ["peal", "frames"] spBoxes89) (G__law_readings : Fn P w K mg base 2 "_law_readings" ["one", "other", "frames", "readings"] spReadings89) : Fn P w K mg base 3 "_law_crowd" ["peals", "frames", "found"] spCrowd89 := by
  refine D.fn sc__law_crowd (fun vs H Q E h => ?_) (fun f cdv A outer s H vs Q E hr h => ?_)
  · obtain ⟨a, pf, fv, ps, fs, rfl, _⟩ := h
    rfl
  · obtain ⟨a, pf, fv, ps, fs, rfl, hP, hF, ok, fl, ft, pl, fnd, q⟩ := h
    have hu := hu64 hr
    obtain ⟨as, eA, pA⟩ := id hP
    have al := paired_len pA
    refine ⟨_, (pss_cons (ps_setC (k := 3) (own := ["peal"]) (fr := ["frames"]) (ix := [1]) rfl sc__law_crowd.nd rfl rfl ⟨rfl, rfl, rfl, rfl, rfl, rfl⟩ (pi_list (pv 0)) (fun _ _ _ _ _ => (pg_name (i := 0) (show (["peal", "frames"] : List Str).Nodup by decide +kernel) rfl (Or.inl rfl))) (fun _ _ _ _ _ => pts_nil) (fun _ _ _ _ _ => (pe_fn G__law_boxes (hr.mono (by decide)) (by rfl) (pa_cons (pv 0) (pa_cons (pv 1) pa_nil)))))
      (pss_cons (ps_for PassesOwn.never rfl (pi_range1 (by rfl) T.z_range (pa_cons (pe_callB call_len_seq (by rfl) T.z_len b_len (pa_cons (pv 0) pa_nil)) pa_nil)) (pg_name (i := 4) sc__law_crowd.nd rfl (Or.inl rfl))
        (pss_one (ps_if (pt_cmpR (op_inL3 (hu65 hr)) (pe_ix ix_list (pv 3) (pv 4) (fun _ _ => rfl)) (pe_slice sl_list (pv 3) po_none (po_some (pv 4))) (by with_unfolding_all rfl))
          (pss_cons (ps_set (i := 5) sc__law_crowd.nd rfl (Or.inl rfl) (pe_bm PySem.F.plainAttrs_list PySem.F.slot_list_index PySem.F.type_list_index (mt_indexL3 (hu65 hr)) (pv 3) (pa_cons (pe_ix ix_list (pv 3) (pv 4) (fun _ _ => rfl)) pa_nil)))
          (pss_cons (ps_if (pw_or (pt_not (pt_val (pe_callB call_isinst (by rfl) T.z_isinstance b_isinstance (pa_cons (pv 2) (pa_cons (pe_bltn (v := .ty "tuple") (by rfl) T.z_tuple b_tuple rfl) pa_nil))))) (pw_or (pt_cmpR op_neI (pe_callB call_len_seq (by rfl) T.z_len b_len (pa_cons (pv 2) pa_nil)) pe_int (nomark _)) (pw_or1 (pt_cmpR (op_neT hu) (pe_slice sl_tup (pv 2) po_none (po_some pe_int)) (pe_tup (pa_cons (pv 5) (pa_cons (pv 4) pa_nil))) (nomark _))))).pt
            (pss_one (ps_ret pe_bl))
            pss_nil)
          (pss_cons (ps_if (pw_or (pt_val (pe_callB call_isinst (by rfl) T.z_isinstance b_isinstance (pa_cons (pe_ix ix_tup (pv 2) pe_int (fun _ _ => rfl)) (pa_cons (pe_bltn (v := .ty "bool") (by rfl) T.z_bool b_bool rfl) pa_nil)))) (pw_or1 (pt_val (pe_callB call_isinst (by rfl) T.z_isinstance b_isinstance (pa_cons (pe_ix ix_tup (pv 2) pe_int (fun _ _ => rfl)) (pa_cons (pe_bltn (v := .ty "bool") (by rfl) T.z_bool b_bool rfl) pa_nil)))))).pt
            (pss_one (ps_ret pe_bl))
            pss_nil)
          (pss_one (ps_ret (pe_fn G__law_readings (hr.mono (by decide)) (by rfl) (pa_cons (pe_ix ix_list (pv 0) (pv 5) (fun _ _ => rfl)) (pa_cons (pe_ix ix_list (pv 0) (pv 4) (fun _ _ => rfl)) (pa_cons (pv 1) (pa_cons (pe_ix ix_tup (pv 2) pe_int (fun _ _ => rfl)) pa_nil))))))))))
          pss_nil)))
      (pss_one (ps_ret (pe_cmpR op_isN (pv 2) pe_non (nomark _)))))), ?_⟩
    refine ⟨_, rfl, a, rfl, ⟨_, SqL.of eA⟩, fun pk hpk => comp_listI (K := K) (a := a) (xs := as.map V.ref) (fun i ys H2 => ∃ cs : List Addr, ys = cs.map V.ref ∧ Same H H2 ∧ H2 pk = some (.lst ys) ∧ cs.Nodup ∧ cs.length = i ∧ PySem.Paired (fun b bx => b ≠ pk ∧ LLx pk H2 b bx) cs ((ps.map (boxesP fs)).take i))
      (by rw [List.length_map]; exact Nat.le_of_lt (small1000 (by omega))) ⟨[], rfl, Same.new hpk, upd_same, List.nodup_nil, rfl, .nil⟩ (fun i ys H2 ⟨cs, e, s2, h2, _, cl, _⟩ => ⟨h2, by rw [e, List.length_map, cl]; exact Nat.le_refl _, SqL.of (s2 _ _ eA)⟩) ?_ ?_⟩
    · rintro i x ys H2 R hx ⟨cs, rfl, s2, h2, nd, cl, p2⟩ hR
      rw [List.getElem?_map] at hx
      obtain ⟨b, hb, rfl⟩ := Option.map_eq_some_iff.mp hx
      obtain ⟨rs, hrs, hB⟩ := paired_get pA hb
      refine ⟨rfl, _, rfl, _, rfl, b, pf, rs, fs, rfl, hB.same s2, hF.same s2, ok, fl, (ft rs (List.mem_of_getElem? hrs)).1, fun p H3 s3 hp hL => ?_⟩
      obtain ⟨ds, eD, pD⟩ := hL
      have np : p ≠ pk := (ne_of_none h2 hp).symm
      have nin : p ∉ cs := fun hc => by
        obtain ⟨bx, _, z⟩ := paired_mem p2 hc
        obtain ⟨_, e, _⟩ := z.2
        rw [hp] at e
        cases e
      have k : ∀ z o, z ≠ pk → H3 z = some o → (upd H3 pk (.lst (cs.map V.ref ++ [V.ref p]))) z = some o := fun z o hz e => by rw [upd_ne hz]; exact e
      refine hR _ _ (s3 _ _ h2) ⟨cs ++ [p], by rw [List.map_append]; rfl, (s2.trans s3).wr hpk, upd_same, nodup_snoc nd nin, by rw [List.length_append, cl]; rfl, ?_⟩
      rw [take_snoc (show (ps.map (boxesP fs))[i]? = some (boxesP fs rs) by rw [List.getElem?_map, hrs]; rfl)]
      exact PySem.Paired.snoc (paired_imp (fun c rs z => ⟨z.1, (z.2.keep z.1 fun y o _ e => s3 _ _ e).keep z.1 k⟩) p2) ⟨np, LLx.keep ⟨ds, eD, paired_imp (fun c ns z => ⟨(ne_of_none h2 z.2.1).symm, z.2.2⟩) pD⟩ np k⟩
    · rintro ys H2 ⟨cs, rfl, s2, h2, nd, cl, p2⟩
      rw [List.length_map] at cl p2
      rw [List.take_of_length_le (by rw [List.length_map]; omega)] at p2
      have pL : PySem.Paired (fun b bx => LL H2 b bx) cs (ps.map (boxesP fs)) := paired_imp (fun _ _ z => z.2.ll) p2
      refine ⟨_, rfl, _, _, rfl, .inl (SqL.of (s2 _ _ eA)), ?_⟩
      rw [List.length_map]
      refine ⟨_, rfl, by omega, by omega, for_range (n := (as.length : Int).toNat) (fun i σ H3 => ∃ v4 v5 : Option V, σ = [some (.ref a), some (.ref pf), some fv, some (.ref pk), v4, v5] ∧ Same H2 H3 ∧ NoCrP fs ps i) ⟨none, none, rfl, Same.refl _, fun k l x y _ h => absurd h (Nat.not_lt_zero _)⟩ ?_ ?_⟩
      · rintro i σ H3 hi ⟨v4, v5, rfl, s3, inv⟩
        rw [show (0 : Int) + (i : Int) = (i : Int) by omega]
        have iN : i < ps.length := by omega
        have hpi := List.getElem?_eq_getElem iN
        generalize ps[i] = ss at hpi
        have hbi : (ps.map (boxesP fs))[i]? = some (boxesP fs ss) := by rw [List.getElem?_map, hpi]; rfl
        obtain ⟨c, hc, hL⟩ := Peals.at pL hbi
        have h3 := s3 _ _ h2
        refine ⟨_, rfl, _, rfl, _, _, _, _, rfl, rfl, SqL.of h3, at_mapR hc, _, rfl, _, rfl, _, rfl, _, _, rfl, SqL.of h3, fun p1 hp1 => ?_⟩
        rw [cut_upto _ (by rw [List.length_map]; omega), ← List.map_take]
        have s4 : Same H2 (upd H3 p1 (.lst ((cs.take i).map V.ref))) := s3.put hp1
        have h4 : (upd H3 p1 (.lst ((cs.take i).map V.ref))) p1 = some (.lst ((cs.take i).map V.ref)) := upd_same
        generalize upd H3 p1 (.lst ((cs.take i).map V.ref)) = H4 at s4 h4 ⊢
        have hk4 := s4 _ _ h2
        have sq4 : PySem.Paired (fun b bx => SqLL K H4 b bx) cs (ps.map (boxesP fs)) := paired_imp (fun _ _ z => (z.same s4).sq) pL
        have s04 := s2.trans s4
        refine ⟨c, p1, boxesP fs ss, (ps.map (boxesP fs)).take i, rfl, rfl, (hL.same s4).sq, ⟨cs.take i, SqL.of h4, paired_take i sq4⟩, _, rfl, ?_⟩
        refine ifD (fun isin => ?_) (fun nin => ⟨_, _, rfl, s4, fun k l x y hkl hl hx hy e => ?_⟩)
        · obtain ⟨k, hk, ek⟩ := List.getElem_of_mem isin
          rw [List.length_take, List.length_map] at hk
          have kN : k < ps.length := by omega
          have hpk' := List.getElem?_eq_getElem kN
          rw [List.getElem_take, List.getElem_map] at ek
          generalize ps[k] = rs at hpk' ek
          rcases fnd with ⟨_, no⟩ | ⟨i0, j, rs0, ss0, t, h, rfl, hT, hij, hi0, hj0, eb, no, hH⟩
          · exact absurd ek (no k i rs ss (by omega) iN hpk' hpi)
          · have jN := (List.getElem?_eq_some_iff.mp hj0).1
            have e1 : ¬ i < j := fun z => no k i rs ss (by omega) z hpk' hpi ek
            have e2 : ¬ j < i := fun z => inv i0 j rs0 ss0 hij z hi0 hj0 eb
            have ej : j = i := by omega
            subst ej
            rw [hpi] at hj0
            cases hj0
            have hpos : (ps.map (boxesP fs))[i0]? = some (boxesP fs ss) := by rw [List.getElem?_map, hi0, ← eb]; rfl
            have least : ∀ m, m < i0 → (ps.map (boxesP fs))[m]? ≠ some (boxesP fs ss) := fun m hm e => by
              rw [List.getElem?_map] at e
              obtain ⟨x, hx, ex⟩ := Option.map_eq_some_iff.mp e
              exact no m i0 x rs0 hm hij hx hi0 (ex.trans eb.symm)
            refine ⟨_, rfl, .inl ⟨rfl, _, SqL.of hk4⟩, _, rfl, _, rfl, _, _, _, _, rfl, rfl, SqL.of hk4, at_mapR hc, pk, c, cs, ps.map (boxesP fs), boxesP fs ss, i0, rfl, rfl, hk4, nd, sq4, (hL.same s4).sq, hpos, least, by rw [List.length_map]; omega, ?_⟩
            have hT4 := s04 _ _ hT
            refine ⟨_, rfl, _, _, _, true, rfl, TyOf.tup hT4, kit_tuple_tuple K, _, rfl, iteF ⟨_, rfl, _, _, rfl, .inr (SqT.of hT4), _, _, rfl, rfl, _, rfl, iteNS rfl ?_⟩⟩
            refine ⟨_, rfl, _, rfl, _, _, rfl, SqT.of hT4, (by show ¬ (HT.sIx 3 0 none = 0 ∧ HT.sIx 3 3 (some 2) = 3); decide), fun t1 ht1 => ⟨_, rfl, _, rfl, (by show 2 ≤ sizeLine; decide), fun t2 ht2 => ?_⟩⟩
            have s5 : Same H4 (upd (upd H4 t1 (.tup (cutV [V.int (i0 : Int), V.int (j : Int), V.ref h] none (some 2)))) t2 (.tup [V.int (i0 : Int), V.int (j : Int)])) := (Same.new ht1).put ht2
            have k1 : (upd (upd H4 t1 (.tup (cutV [V.int (i0 : Int), V.int (j : Int), V.ref h] none (some 2)))) t2 (.tup [V.int (i0 : Int), V.int (j : Int)])) t1 = some (.tup ([(i0 : Int), (j : Int)].map V.int)) := (Same.new ht2) _ _ upd_same
            have k2 : (upd (upd H4 t1 (.tup (cutV [V.int (i0 : Int), V.int (j : Int), V.ref h] none (some 2)))) t2 (.tup [V.int (i0 : Int), V.int (j : Int)])) t2 = some (.tup ([(i0 : Int), (j : Int)].map V.int)) := upd_same
            generalize upd (upd H4 t1 (.tup (cutV [V.int (i0 : Int), V.int (j : Int), V.ref h] none (some 2)))) t2 (.tup [V.int (i0 : Int), V.int (j : Int)]) = H5 at s5 k1 k2 ⊢
            have s05 := s04.trans s5
            have hT5 := s05 _ _ hT
            refine ⟨t1, t2, _, _, rfl, rfl, SqT.of k1, SqT.of k2, _, rfl, iteNS rfl ?_⟩
            refine ⟨_, rfl, _, _, _, _, rfl, rfl, SqT.of hT5, rfl, _, _, _, false, rfl, TyOf.int _, kit_int_bool K, _, rfl, iteF ⟨_, rfl, _, _, _, _, rfl, rfl, SqT.of hT5, rfl, _, _, _, false, rfl, TyOf.int _, kit_int_bool K, _, rfl, iteF ?_⟩⟩
            obtain ⟨b1, hb1, hL1⟩ := Peals.at pA hi0
            obtain ⟨b2, hb2, hL2⟩ := Peals.at pA hpi
            have okk : ∀ f ∈ fs, FrOk f := fun f hf => (ok f hf).ok
            have f1 := ft rs0 (List.mem_of_getElem? hi0)
            have f2 := ft ss (List.mem_of_getElem? hpi)
            exact ⟨_, rfl, _, rfl, _, _, _, _, rfl, rfl, SqL.of (s05 _ _ eA), at_mapR hb1, _, rfl, _, rfl, _, _, _, _, rfl, rfl, SqL.of (s05 _ _ eA), at_mapR hb2, _, rfl, _, rfl, _, _, _, _, rfl, rfl, SqT.of hT5, rfl, b1, b2, pf, h, rs0, ss, fs, rfl, hL1.same s05, hL2.same s05, hF.same s05, hH.same s05, ok, fl, f1.1, f2.1, near_boxes okk eb, f1.2, f2.2, q _ s05⟩
        · rcases Nat.lt_or_eq_of_le (Nat.lt_succ_iff.mp hl) with z | z
          · exact inv k l x y hkl z hx hy e
          · subst z
            rw [hpi] at hy
            cases hy
            refine nin ?_
            rw [← e]
            have kN := (List.getElem?_eq_some_iff.mp hx).1
            have ex := (List.getElem?_eq_some_iff.mp hx).2
            refine List.mem_take_iff_getElem.mpr ⟨k, by rw [List.length_map]; omega, ?_⟩
            rw [List.getElem_map, ex]
      · rintro σ H3 ⟨v4, v5, rfl, s3, inv⟩
        rcases fnd with ⟨rfl, no⟩ | ⟨i0, j, rs0, ss0, t, h, rfl, hT, hij, hi0, hj0, eb, no, hH⟩
        · exact ⟨_, rfl, rfl, q _ (s2.trans s3)⟩
        · have jN := (List.getElem?_eq_some_iff.mp hj0).1
          exact absurd eb (inv i0 j rs0 ss0 hij (by omega) hi0 hj0)
end
def LLf (H0 H : Hp) (p : Addr) (rs : List (List Int)) : Prop := ∃ as : List Addr, H p = some (.lst (as.map V.ref)) ∧ as.Nodup ∧ PySem.Paired (fun b (ns : List Int) => b ≠ p ∧ H0 b = none ∧ H b = some (.lst (ns.map V.int))) as rs
theorem comp_LLf {K : PySem.W.Frag} {a acc : Addr} {as : List Addr} {nss mss : List (List Int)} {own : Nat} {ix : List Nat} {g : TG} {te : TE} {σ : L2.St} {H1 : Hp} {Q : VK} (ha : H1 a = some (.lst (as.map V.ref))) (hP : PySem.Paired (fun b (ns : List Int) => H1 b = some (.lst (ns.map V.int))) as nss) (hn : H1 acc = none) (hz : nss.length ≤ 600) (hm : mss.length = nss.length)
    (step : ∀ (i : Nat) (b : Addr) (ns ms : List Int) (H : Hp) (R : VK), nss[i]? = some ns → mss[i]? = some ms → H b = some (.lst (ns.map V.int)) → Same H1 H → (∀ p H', Same H H' → H p = none → H' p = some (.lst (ms.map V.int)) → R (.ref p) H') → g (.ref b) (blockSt own ix σ) H fun σ4 H4 => σ4.drop own = ix.map (fun i => (σ[i]?).getD none) ∧ te σ4 H4 R)
    (hd : ∀ H', Same H1 H' → LLf H1 H' acc mss → Q (.ref acc) H') : CompGo (Itl K a) own ix g tNoTest te σ H1 acc Q := by
  have al := paired_len hP
  refine comp_listI (K := K) (a := a) (xs := as.map V.ref) (fun i ys H2 => ∃ cs : List Addr, ys = cs.map V.ref ∧ Same H1 H2 ∧ H2 acc = some (.lst ys) ∧ cs.Nodup ∧ cs.length = i ∧ PySem.Paired (fun b (ns : List Int) => b ≠ acc ∧ H1 b = none ∧ H2 b = some (.lst (ns.map V.int))) cs (mss.take i))
      (by rw [List.length_map]; exact Nat.le_of_lt (small1000 (by omega))) ⟨[], rfl, Same.new hn, upd_same, List.nodup_nil, rfl, .nil⟩ (fun i ys H2 ⟨cs, e, s2, h2, _, cl, _⟩ => ⟨h2, by rw [e, List.length_map, cl]; exact Nat.le_refl _, SqL.of (s2 _ _ ha)⟩) ?_ ?_
  · rintro i x ys H2 R hx ⟨cs, rfl, s2, h2, nd, cl, p2⟩ hR
    rw [List.getElem?_map] at hx
    obtain ⟨b, hb, rfl⟩ := Option.map_eq_some_iff.mp hx
    obtain ⟨ns, hns, hB⟩ := paired_get hP hb
    have il := (List.getElem?_eq_some_iff.mp hns).1
    have him := List.getElem?_eq_getElem (show i < mss.length by omega)
    refine step i b ns _ H2 R hns him (s2 _ _ hB) s2 fun p H3 s3 hp h3 => ?_
    have np : p ≠ acc := (ne_of_none h2 hp).symm
    have nin : p ∉ cs := fun hc => by
      obtain ⟨bx, _, z⟩ := paired_mem p2 hc
      have e := z.2.2
      rw [hp] at e
      cases e
    refine hR _ _ (s3 _ _ h2) ⟨cs ++ [p], by rw [List.map_append]; rfl, (s2.trans s3).wr hn, upd_same, nodup_snoc nd nin, by rw [List.length_append, cl]; rfl, ?_⟩
    rw [take_snoc him]
    exact PySem.Paired.snoc (paired_imp (fun c rs z => ⟨z.1, z.2.1, by rw [upd_ne z.1]; exact s3 _ _ z.2.2⟩) p2) ⟨np, s2.free hp, by rw [upd_ne np]; exact h3⟩
  · rintro ys H2 ⟨cs, rfl, s2, h2, nd, cl, p2⟩
    rw [List.length_map, List.take_of_length_le (by omega)] at p2
    exact hd H2 s2 ⟨cs, h2, nd, p2⟩
theorem paired_upd {β : Type} {R S : Addr → β → Prop} {c : Addr} {r : β} (hc : S c r) (f : ∀ b x, b ≠ c → R b x → S b x) : ∀ {as : List Addr} {rs : List β} (k : Nat), PySem.Paired R as rs → as.Nodup → as[k]? = some c → PySem.Paired S as (rs.set k r)
  | _, _, _, .nil, _, h => by simp at h
  | a :: as, _ :: rs, 0, .cons x y, nd, h => by
    have e : a = c := by simpa using h
    subst e
    have nd' := List.nodup_cons.mp nd
    have go : ∀ {as : List Addr} {rs : List β}, a ∉ as → PySem.Paired R as rs → PySem.Paired S as rs := by
      intro as rs ni q
      induction q with
      | nil => exact .nil
      | cons z w ih =>
        exact .cons (f _ _ (fun e => ni (by rw [← e]; exact List.mem_cons_self ..)) z) (ih fun hm => ni (List.mem_cons_of_mem _ hm))
    exact .cons hc (go nd'.1 y)
  | a :: as, _ :: rs, k + 1, .cons x y, nd, h => by
    have nd' := List.nodup_cons.mp nd
    have h' : as[k]? = some c := by simpa using h
    have ne : a ≠ c := fun e => nd'.1 (e ▸ List.mem_of_getElem? h')
    exact .cons (f _ _ ne x) (paired_upd hc f k y nd'.2 h')
theorem last_at (front : List Int) (x : Int) : atI ((front ++ [x]).map V.int) (-1) = some (V.int x) := by
  unfold atI ixN
  rw [if_neg (by decide), if_pos (by rw [List.length_map, List.length_append]; simp; omega), show (-1 + (((front ++ [x]).map V.int).length : Int)).toNat = front.length by rw [List.length_map, List.length_append]; simp; omega]
  simp
theorem last_ix (front : List Int) (x : Int) : ixN ((front ++ [x]).map V.int).length (-1) = some front.length := by
  unfold ixN
  rw [if_neg (by decide), if_pos (by rw [List.length_map, List.length_append]; simp; omega), show (-1 + (((front ++ [x]).map V.int).length : Int)).toNat = front.length by rw [List.length_map, List.length_append]; simp; omega]
theorem last_set (front : List Int) (x v : Int) : ((front ++ [x]).map V.int).set front.length (V.int v) = (front ++ [v]).map V.int := by
  rw [List.map_append, List.map_append, List.set_append_right _ _ (by rw [List.length_map]; exact Nat.le_refl _), List.length_map, Nat.sub_self]
  rfl
theorem up_last {front : List Int} {x v : Int} (h : Up (front ++ [x])) (hv : x ≤ v) : Up (front ++ [v]) := by
  obtain ⟨pw, nn⟩ := h
  have p := List.pairwise_append.mp pw
  refine ⟨List.pairwise_append.mpr ⟨p.1, by simp, fun a ha b hb => ?_⟩, fun y hy => ?_⟩
  · rw [List.mem_singleton.mp hb]
    have := p.2.2 a ha x (by simp)
    omega
  · rcases List.mem_append.mp hy with z | z
    · exact nn y (List.mem_append_left _ z)
    · rw [List.mem_singleton.mp z]
      have := nn x (by simp)
      omega
theorem dr_four {ds : List Int} {a b c d : Int} (h : Dr ds [a, b, c, d]) : ∃ x y z u, ds = [x, y, z, u] ∧ (0 ≤ x ∧ x < a) ∧ (0 ≤ y ∧ y < b) ∧ (0 ≤ z ∧ z < c) ∧ (0 ≤ u ∧ u < d) := by
  cases h with
  | cons h1 t1 => cases t1 with
    | cons h2 t2 => cases t2 with
      | cons h3 t3 => cases t3 with
        | cons h4 t4 => cases t4; exact ⟨_, _, _, _, rfl, h1, h2, h3, h4⟩
def FitUp (fs : List Fr) (rs : List (List Int)) : Prop := FitP fs rs ∧ ∀ r ∈ rs, Up r
theorem FitUp.set {fs : List Fr} {rs : List (List Int)} {k : Nat} {r r' : List Int} (h : FitUp fs rs) (hk : rs[k]? = some r) (hl : r'.length = r.length) (u : Up r') : FitUp fs (rs.set k r') := by
  refine ⟨⟨by rw [List.length_set]; exact h.1.len, fun i x f hx hf => ?_⟩, fun x hx => ?_⟩
  · by_cases e : k = i
    · subst e
      rw [List.getElem?_set, if_pos rfl] at hx
      have kl := (List.getElem?_eq_some_iff.mp hk).1
      rw [if_pos kl] at hx
      cases hx
      rw [hl]
      exact h.1.row k r f hk hf
    · rw [List.getElem?_set, if_neg e] at hx
      exact h.1.row i x f hx hf
  · rcases List.mem_or_eq_of_mem_set hx with z | z
    · exact h.2 x z
    · rw [z]; exact u
def PealsM (H : Hp) (p : Addr) (ps : List (List (List Int))) : Prop := ∃ as : List Addr, H p = some (.lst (as.map V.ref)) ∧ PySem.Paired (fun b rs => b ≠ p ∧ LLx p H b rs) as ps
theorem PealsM.peals {H : Hp} {p : Addr} {ps : List (List (List Int))} (h : PealsM H p ps) : Peals H p ps := by
  obtain ⟨as, e, q⟩ := h
  exact ⟨as, e, paired_imp (fun _ _ z => z.2.ll) q⟩
theorem PealsM.push {H H' : Hp} {p b : Addr} {ps : List (List (List Int))} {rs : List (List Int)} {as : List Addr} (q : PySem.Paired (fun b rs => b ≠ p ∧ LLx p H b rs) as ps) (s : Same H H') (hb : b ≠ p) (h : LLx p H' b rs) : PealsM (upd H' p (.lst (as.map V.ref ++ [.ref b]))) p (ps ++ [rs]) := by
  have k : ∀ z o, z ≠ p → H' z = some o → (upd H' p (.lst (as.map V.ref ++ [.ref b]))) z = some o := fun z o hz e => by rw [upd_ne hz]; exact e
  refine ⟨as ++ [b], by rw [upd_same, List.map_append]; rfl, PySem.Paired.snoc (paired_imp (fun c rs z => ⟨z.1, (z.2.keep z.1 fun y o _ e => s _ _ e).keep z.1 k⟩) q) ⟨hb, h.keep hb k⟩⟩
theorem Peals.sq {K : PySem.W.Frag} {H : Hp} {p : Addr} {ps : List (List (List Int))} (h : Peals H p ps) : SqL3 K H p ps := by
  obtain ⟨as, e, q⟩ := h
  exact ⟨as, SqL.of e, paired_imp (fun _ _ z => z.sq) q⟩
section
variable {P : Program} {w : World} {K : PySem.W.Frag} {mg : Str → Option Value} {base : Heap}
def spPeals89 (K : PySem.W.Frag) : Sp := fun vs H Q _ => ∃ (a pf : Addr) (ns : List Int) (fs : List Fr), vs = [.ref a, .ref pf] ∧ SqL K H a (ns.map V.int) ∧ ns.length ≤ 63 ∧ Frs H pf fs ∧ (∀ f ∈ fs, F8 f) ∧ fs.length ≤ 10 ∧
  ∀ (p : Addr) (ps : List (List (List Int))) (H' : Hp), Same H H' → H p = none → Peals H' p ps → ps.length ≤ 63 → (∀ rs ∈ ps, FitUp fs rs) → Q (.ref p) H'
theorem sc__law_peals : FnScope ["script", "frames", "kind", "cells", "peals", "cell", "peal", "twice", "which", "at", "far"] ["script", "frames"] (defScope st__law_peals) := ⟨rfl, rfl, rfl, by decide +kernel, rfl, by decide +kernel, by decide +kernel⟩
theorem ok_peals89 (D : Def K mg "_law_peals" st__law_peals ["script", "frames"]) (T : Txt K mg) (G__law_cell_at : Fn P w K mg base 1 "_law_cell_at" ["script", "k"] (spCell K)) (G__law_drawn : Fn P w K mg base 2 "_law_drawn" ["cell", "sizes"] (spDrawnL K)) (G__law_row : Fn P w K mg base 3 "_law_row" ["cell", "rope", "frame"] (spRow89 K)) : Fn P w K mg base 4 "_law_peals" ["script", "frames"] (spPeals89 K) := by
  refine D.fn sc__law_peals (fun vs H Q E h => ?_) (fun f cdv A outer s H vs Q E hr h => ?_)
  · obtain ⟨a, pf, ns, fs, rfl, _⟩ := h
    rfl
  · obtain ⟨a, pf, ns, fs, rfl, hS, nl, hF, okf, fl, q⟩ := h
    have hu := hu64 hr
    obtain ⟨gs, eG, pG⟩ := id hF
    have gl := paired_len pG
    refine ⟨_, (pss_cons (ps_set (i := 2) sc__law_peals.nd rfl (Or.inl rfl) (pe_op op_modB (pe_op op_fdivB (pe_fn G__law_cell_at (hr.mono (by decide)) (by rfl) (pa_cons (pv 0) (pa_cons pe_int pa_nil))) pe_int) pe_int))
      (pss_cons (ps_set (i := 3) sc__law_peals.nd rfl (Or.inr rfl) (pe_slice sl_list (pv 0) (po_some pe_int) (po_some pe_int)))
      (pss_cons (ps_if (pw_and (pt_cmpR op_gtI (pv 2) pe_int (nomark _)) (pw_and1 (pt_cmpR (op_neL hu) (pv 3) (pe_lst pa_nil) (nomark _)))).pt
        (pss_one (ps_set (i := 3) sc__law_peals.nd rfl (Or.inr rfl) (pe_comp (own := ["k"]) (fr := ["cells"]) (ix := [3]) rfl ⟨rfl, rfl, rfl, rfl, rfl, rfl⟩ (pi_range1 (by rfl) T.z_range (pa_cons pe_int pa_nil)) (fun _ _ _ _ _ => (pg_name (i := 0) (show (["k", "cells"] : List Str).Nodup by decide +kernel) rfl (Or.inl rfl))) (fun _ _ _ _ _ => pts_nil) (fun _ _ _ _ _ => (pe_op op_addI (pe_ix (ix_listK K) (pv 1) (pe_op op_modB (pv 0) (pe_callB (call_len_seqK K) (by rfl) T.z_len b_len (pa_cons (pv 1) pa_nil))) (fun _ _ => rfl)) (pe_op op_mulB (pe_op op_mulB pe_int (pv 0)) (pe_callTy call_int1 (by rfl) T.z_int b_int (pa_cons (pe_cmpR op_geI (pv 0) (pe_callB (call_len_seqK K) (by rfl) T.z_len b_len (pa_cons (pv 1) pa_nil)) (nomark _)) pa_nil))))))))
        pss_nil)
      (pss_cons (ps_set (i := 4) sc__law_peals.nd rfl (Or.inl rfl) (pe_lst pa_nil))
      (pss_cons (ps_for PassesOwn.never rfl (pi_list (pv 3)) (pg_name (i := 5) sc__law_peals.nd rfl (Or.inr rfl))
        (pss_cons (ps_setC (k := 6) (own := ["k"]) (fr := ["cell", "frames"]) (ix := [5, 1]) rfl sc__law_peals.nd rfl rfl ⟨rfl, rfl, rfl, rfl, rfl, rfl⟩ (pi_range1 (by rfl) T.z_range (pa_cons (pe_callB call_len_seq (by rfl) T.z_len b_len (pa_cons (pv 1) pa_nil)) pa_nil)) (fun _ _ _ _ _ => (pg_name (i := 0) (show (["k", "cell", "frames"] : List Str).Nodup by decide +kernel) rfl (Or.inl rfl))) (fun _ _ _ _ _ => pts_nil) (fun _ _ _ _ _ => (pe_fn G__law_row (hr.mono (by decide)) (by rfl) (pa_cons (pe_op op_fdivB (pv 1) (pe_op op_addI (pv 0) pe_int)) (pa_cons (pv 0) (pa_cons (pe_ix (ix_listK K) (pv 2) (pv 0) (fun _ _ => rfl)) pa_nil))))))
        (pss_cons (ps_asg (pe_fn G__law_drawn (hr.mono (by decide)) (by rfl) (pa_cons (pv 5) (pa_cons (pe_lst (pa_cons pe_int (pa_cons pe_int (pa_cons pe_int (pa_cons (pe_op op_powB pe_int pe_int) pa_nil))))) pa_nil))) (pg_lstU (n := 4) rfl (pgs_cons (pg_name (i := 7) sc__law_peals.nd rfl (Or.inl rfl)) (pgs_cons (pg_name (i := 8) sc__law_peals.nd rfl (Or.inl rfl)) (pgs_cons (pg_name (i := 9) sc__law_peals.nd rfl (Or.inl rfl)) (pgs_cons (pg_name (i := 10) sc__law_peals.nd rfl (Or.inl rfl)) pgs_nil))))))
        (pss_cons (ps_if (pw_and (pt_cmpR (op_neL3 hu) (pv 4) (pe_lst pa_nil) (nomark _)) (pw_and (pt_cmpR (op_neLT hu) (pv 1) (pe_lst pa_nil) (nomark _)) (pw_and (pt_cmpR op_eqI (pe_op op_modB (pv 2) pe_int) pe_int (nomark _)) (pw_and1 (pt_cmpR op_eqI (pv 7) pe_int (nomark _)))))).pt
          (pss_cons (ps_setC (k := 6) (own := ["row"]) (fr := []) (ix := []) rfl sc__law_peals.nd rfl rfl ⟨rfl, rfl, rfl, rfl, rfl, rfl⟩ (pi_list (pe_ix ix_list (pv 4) (pe_op op_modB (pv 8) (pe_callB call_len_seq (by rfl) T.z_len b_len (pa_cons (pv 4) pa_nil))) (fun _ _ => rfl))) (fun _ _ _ _ _ => (pg_name (i := 0) (show (["row"] : List Str).Nodup by decide +kernel) rfl (Or.inl rfl))) (fun _ _ _ _ _ => pts_nil) (fun _ _ _ _ _ => (pe_callTy (call_list_ofK K) (by rfl) T.z_list b_list (pa_cons (pv 0) pa_nil))))
          (pss_cons (ps_set (i := 9) sc__law_peals.nd rfl (Or.inl rfl) (pe_op op_modB (pv 9) (pe_callB call_len_seq (by rfl) T.z_len b_len (pa_cons (pv 6) pa_nil))))
          (pss_one (ps_if (pw_and (pt_cmpR (op_neL hu) (pe_ix ix_list (pv 6) (pv 9) (fun _ _ => rfl)) (pe_lst pa_nil) (nomark _)) (pw_and1 (pt_cmpR op_eqI (pe_op op_modB (pv 10) pe_int) pe_int (nomark _)))).pt
            (pss_one (ps_asg (pe_op op_addI (pe_op op_addI (pe_ix ix_list (pe_ix ix_list (pv 6) (pv 9) (fun _ _ => rfl)) (pe_un un_neg pe_int) (fun _ _ => rfl)) pe_int) (pe_op op_modB (pe_op op_fdivB (pv 10) pe_int) (pe_op op_addI (pe_ix ix_tup (pe_ix ix_list (pv 1) (pv 9) (fun _ _ => rfl)) pe_int (fun _ _ => rfl)) pe_int))) (pg_sub (pe_ix ix_list (pv 6) (pv 9) (fun _ _ => rfl)) (pe_un un_neg pe_int) set_list)))
            pss_nil))))
          pss_nil)
        (pss_one (ps_expr (pe_bm PySem.F.plainAttrs_list PySem.F.slot_list_append PySem.F.type_list_append mt_append (pv 4) (pa_cons (pv 6) pa_nil))))))))
      (pss_one (ps_ret (pv 4)))))))), ?_⟩
    refine ⟨_, rfl, a, ns, 0, rfl, hS, by decide, _, _, rfl, rfl, ⟨by decide, by decide⟩, _, _, rfl, rfl, (by decide), ?_⟩
    generalize cellOf ns 0 / 11 % 6 = kd
    refine ⟨_, rfl, _, rfl, _, rfl, _, _, rfl, hS, fun p1 hp1 => ?_⟩
    have zl := cutI_len ns (some 11) (some 31)
    rw [cut_map]
    generalize cutI ns (some 11) (some 31) = zs at zl ⊢
    have s1 : Same H (upd H p1 (.lst (zs.map V.int))) := Same.new hp1
    have h1 : (upd H p1 (.lst (zs.map V.int))) p1 = some (.lst (zs.map V.int)) := upd_same
    generalize upd H p1 (.lst (zs.map V.int)) = H1 at s1 h1 ⊢
    try dsimp only [gName]
    change tSeq (tIfS _ _ _) _ _ _ _
    refine cut1 (fun σ H3 => ∃ (pc : Addr) (cs : List Int), σ = [some (.ref a), some (.ref pf), some (.int kd), some (.ref pc), none, none, none, none, none, none, none] ∧ Same H H3 ∧ H3 pc = some (.lst (cs.map V.int)) ∧ cs.length ≤ 63) ?t1 (fun N hN => ⟨_, rfl, _, _, rfl, rfl, _, rfl, ifD (fun _ => ⟨_, rfl, (by decide), fun l0 hl0 => ⟨p1, l0, zs, [], rfl, rfl, SqL.of ((Same.new hl0) _ _ h1), SqL.of upd_same, _, rfl, ifND (fun nz => ?t2) (fun _ => hN _ _ ⟨p1, zs, rfl, s1.put hl0, (Same.new hl0) _ _ h1, by omega⟩)⟩⟩) (fun _ => iteF (hN _ _ ⟨p1, zs, rfl, s1, h1, by omega⟩))⟩)
    case t2 =>
      have zp : 0 < zs.length := List.length_pos_iff.mpr nz
      have h2 : (upd H1 l0 (.lst [])) p1 = some (.lst (zs.map V.int)) := (Same.new hl0) _ _ h1
      have s2 : Same H (upd H1 l0 (.lst [])) := s1.put hl0
      generalize upd H1 l0 (.lst []) = H2 at h2 s2 ⊢
      refine ⟨_, rfl, by decide, by decide, fun ac hac => comp_rangeP (lo := 0) (n := 60) (fun (i : Nat) => V.int (zs.getD ((i : Int) % (zs.length : Int)).toNat 0 + 2 * (i : Int) * (if decide ((i : Int) ≥ (zs.length : Int)) = true then 1 else 0))) hac (Nat.le_of_lt (small1000 (by decide))) ?_ ?_⟩
      · intro i H3 R hi s3 hR
        rw [show (0 : Int) + (i : Int) = (i : Int) by omega]
        have h3 := s3 _ _ h2
        have e0 := Int.emod_nonneg (i : Int) (show (zs.length : Int) ≠ 0 by omega)
        have e1 := Int.emod_lt_of_pos (i : Int) (show (0 : Int) < (zs.length : Int) by omega)
        refine ⟨rfl, _, rfl, _, rfl, _, rfl, _, _, rfl, .inl (SqL.of h3), _, _, rfl, rfl, by rw [List.length_map]; omega, ?_⟩
        rw [List.length_map]
        generalize (i : Int) % (zs.length : Int) = e at e0 e1 hR ⊢
        obtain ⟨m, rfl⟩ : ∃ m : Nat, e = (m : Int) := ⟨e.toNat, by omega⟩
        rw [Int.toNat_natCast] at hR
        have hz := List.getElem?_eq_getElem (show m < zs.length by omega)
        rw [List.getD_eq_getElem?_getD, hz] at hR
        refine ⟨_, _, _, _, rfl, rfl, SqL.of h3, at_map hz, _, rfl, _, _, rfl, rfl, ⟨64, 64, by decide, bits_of (by omega) (by omega), by decide⟩, _, rfl, _, rfl, _, _, rfl, .inl (SqL.of h3), _, _, rfl, rfl, .inr ⟨_, rfl, _, _, rfl, rfl, ⟨64, 64, bits_of (by omega) (by omega), ?_, by decide⟩, _, _, rfl, rfl, ?_⟩⟩
        · split <;> decide
        · rw [List.length_map]; exact hR
      · refine hN _ _ ⟨ac, (List.range 60).map (fun (i : Nat) => zs.getD ((i : Int) % (zs.length : Int)).toNat 0 + 2 * (i : Int) * (if decide ((i : Int) ≥ (zs.length : Int)) = true then 1 else 0)), rfl, s2.put hac, by rw [upd_same, List.map_map]; rfl, by rw [List.length_map, List.length_range]; decide⟩
    rintro σ H3 ⟨pc, cs, rfl, s3, hC, cl⟩
    refine ⟨(by decide), fun pp hpp => ?_⟩
    have sp : Same H3 (upd H3 pp (.lst [])) := Same.new hpp
    have hss : ∀ s ∈ ([3, 60, 10, (10 : Int) ^ (15 : Int).toNat] : List Int), 0 < s ∧ intBits s ≤ 9000 := by
      intro s hs
      simp only [List.mem_cons, List.not_mem_nil, or_false] at hs
      rcases hs with rfl | rfl | rfl | rfl
      · exact ⟨by decide, by decide⟩
      · exact ⟨by decide, by decide⟩
      · exact ⟨by decide, by decide⟩
      · exact ⟨by decide +kernel, by decide +kernel⟩
    refine ⟨_, rfl, _, rfl, ⟨_, SqL.of (sp _ _ hC)⟩, for_list (K := K) (a := pc) (xs := cs.map V.int) (fun i σ H2 => ∃ (ps : List (List (List Int))) (v5 v6 v7 v8 v9 v10 : Option V), σ = [some (.ref a), some (.ref pf), some (.int kd), some (.ref pc), some (.ref pp), v5, v6, v7, v8, v9, v10] ∧ Same H3 H2 ∧ PealsM H2 pp ps ∧ ps.length = i ∧ ∀ rs ∈ ps, FitUp fs rs) ⟨[], none, none, none, none, none, none, rfl, sp, ⟨[], upd_same, .nil⟩, rfl, (fun _ z => nomatch z)⟩ (fun i σ H2 _ ⟨_, _, _, _, _, _, _, _, s2, _⟩ => SqL.of (s2 _ _ hC)) ?_ ?_⟩
    · rintro i xv σ H2 hx ⟨ps, v5, v6, v7, v8, v9, v10, rfl, s2, hP, pl, okp⟩
      rw [List.getElem?_map] at hx
      obtain ⟨cell, hcell, rfl⟩ := Option.map_eq_some_iff.mp hx
      have il := (List.getElem?_eq_some_iff.mp hcell).1
      have s02 := s3.trans s2
      have eG2 := s02 _ _ eG
      refine ⟨_, rfl, _, _, rfl, .inl (SqL.of eG2), ?_⟩
      rw [List.length_map]
      refine ⟨_, rfl, by omega, by omega, fun pb hpb => comp_rangeI (lo := 0) (n := (gs.length : Int).toNat) (fun j ys H4 => ∃ (bs : List Addr) (rs : List (List Int)), ys = bs.map V.ref ∧ Same H2 H4 ∧ H4 pb = some (.lst ys) ∧ bs.Nodup ∧ PySem.Paired (fun c (ns : List Int) => c ≠ pb ∧ H2 c = none ∧ H4 c = some (.lst (ns.map V.int))) bs rs ∧ rs.length = j ∧ (∀ r ∈ rs, Up r) ∧ ∀ (k : Nat) (r : List Int) (f : Fr), rs[k]? = some r → fs[k]? = some f → (r.length : Int) = f.2.1)
        (Nat.le_of_lt (small1000 (by omega))) ⟨[], [], rfl, Same.new hpb, upd_same, List.nodup_nil, .nil, rfl, (fun _ z => nomatch z), fun k r f h => by simp at h⟩ (fun j ys H4 ⟨bs, rs, e, _, h4, _, p4, rl, _⟩ => ⟨h4, by rw [e, List.length_map, paired_len p4, rl]; exact Nat.le_refl _⟩) ?_ ?_⟩
      · rintro j ys H4 R hj ⟨bs, rs, rfl, s4, h4, nd, p4, rl, up, fit⟩ hR
        rw [show (0 : Int) + (j : Int) = (j : Int) by omega]
        have hgj := List.getElem?_eq_getElem (show j < gs.length by omega)
        obtain ⟨fr, hfr, hG⟩ := paired_get pG hgj
        have s04 := s02.trans s4
        refine ⟨rfl, _, rfl, _, rfl, _, _, rfl, rfl, _, _, rfl, rfl, ⟨by omega, bits_mono (bits_of (m := 64) (by omega) (by omega)) (by decide)⟩, _, rfl, _, rfl, _, rfl, _, _, _, _, rfl, rfl, SqL.of (s04 _ _ eG), at_mapR hgj, cell / ((j : Int) + 1), (j : Int), gs[j], fr, rfl, s04 _ _ hG, okf fr (List.mem_of_getElem? hfr), by omega, by omega, fun p row H5 s5 hp h5 lr ur => ?_⟩
        have np : p ≠ pb := (ne_of_none h4 hp).symm
        have nin : p ∉ bs := fun hc => by
          obtain ⟨bx, _, z⟩ := paired_mem p4 hc
          have e := z.2.2
          rw [hp] at e
          cases e
        refine hR _ _ (s5 _ _ h4) ⟨bs ++ [p], rs ++ [row], by rw [List.map_append]; rfl, (s4.trans s5).wr hpb, upd_same, nodup_snoc nd nin, PySem.Paired.snoc (paired_imp (fun c rs z => ⟨z.1, z.2.1, by rw [upd_ne z.1]; exact s5 _ _ z.2.2⟩) p4) ⟨np, s4.free hp, by rw [upd_ne np]; exact h5⟩, by rw [List.length_append, rl]; rfl, fun r hr => ?_, fun k r f hk hf => ?_⟩
        · rcases List.mem_append.mp hr with z | z
          · exact up r z
          · rw [List.mem_singleton.mp z]; exact ur
        · by_cases hkl : k < rs.length
          · rw [List.getElem?_append_left hkl] at hk
            exact fit k r f hk hf
          · have hk2 := (List.getElem?_eq_some_iff.mp hk).1
            rw [List.length_append, List.length_singleton] at hk2
            have ek : k = j := by omega
            subst ek
            rw [List.getElem?_append_right (by omega), rl, Nat.sub_self] at hk
            have : row = r := by simpa using hk
            subst this
            rw [hfr] at hf
            cases hf
            exact lr
      · rintro ys H4 ⟨bs, rs, rfl, s4, h4, nd, p4, rl, up, fit⟩
        have fu : FitUp fs rs := ⟨⟨by omega, fit⟩, up⟩
        have L4 : LLf H2 H4 pb rs := ⟨bs, h4, nd, p4⟩
        refine ⟨_, rfl, _, _, rfl, rfl, ⟨by decide, by decide, by decide⟩, (by decide), fun l1 hl1 => ⟨cell, l1, [3, 60, 10, (10 : Int) ^ (15 : Int).toNat], rfl, SqL.of upd_same, by decide, hss, fun pd ds H5 s5 hpd hD dr => ?_⟩⟩
        obtain ⟨twice, which, at', far, rfl, ⟨t0, t1⟩, ⟨w0, w1⟩, ⟨a0, a1⟩, ⟨f0, f1⟩⟩ := dr_four dr
        have s45 : Same H4 H5 := (Same.new hl1).trans s5
        have L5 : LLf H2 H5 pb rs := ⟨bs, s45 _ _ h4, nd, paired_imp (fun _ _ z => ⟨z.1, z.2.1, s45 _ _ z.2.2⟩) p4⟩
        have s25 := s4.trans s45
        refine ⟨pd, _, rfl, SqL.of hD, rfl, _, _, rfl, _, _, rfl, _, _, rfl, _, _, rfl, rfl, ?_⟩
        try dsimp only [gName]
        change tSeq (tIfS _ _ _) _ _ _ _
        refine cut1 (fun σ H6 => ∃ (pb : Addr) (rs : List (List Int)) (v9 : Option V), σ = [some (.ref a), some (.ref pf), some (.int kd), some (.ref pc), some (.ref pp), some (.int cell), some (.ref pb), some (.int twice), some (.int which), v9, some (.int far)] ∧ Same H2 H6 ∧ H2 pb = none ∧ LLn H2 H6 pb rs ∧ FitUp fs rs) ?t3 (fun N hN => ?t4)
        case t4 =>
          have out : ∀ H6, Same H5 H6 → N [some (.ref a), some (.ref pf), some (.int kd), some (.ref pc), some (.ref pp), some (.int cell), some (.ref pb), some (.int twice), some (.int which), some (.int at'), some (.int far)] H6 := fun H6 s6 => hN _ _ ⟨pb, rs, _, rfl, s25.trans s6, hpb, ⟨bs, s6 _ _ (s45 _ _ h4), paired_imp (fun _ _ z => ⟨z.1, z.2.1, s6 _ _ (s45 _ _ z.2.2)⟩) p4⟩, fu⟩
          have hP5 : Peals H5 pp ps := hP.peals.same s25
          have hF5 : Frs H5 pf fs := hF.same (s02.trans s25)
          refine ⟨_, rfl, (by decide), fun l2 hl2 => ⟨pp, l2, ps, [], rfl, rfl, (hP5.same (Same.new hl2)).sq, ⟨[], SqL.of upd_same, .nil⟩, _, rfl, ifND (fun pn => ?_) (fun _ => iteF (out _ (Same.new hl2)))⟩⟩
          have s6 : Same H5 (upd H5 l2 (.lst [])) := Same.new hl2
          generalize upd H5 l2 (.lst []) = H6 at s6 ⊢
          refine ⟨_, rfl, (by decide), fun l3 hl3 => ⟨pf, l3, fs.map frL, [], rfl, rfl, ((hF5.same s6).same (Same.new hl3)).sq, ⟨[], SqL.of upd_same, .nil⟩, _, rfl, ifND (fun fn => ?_) (fun _ => iteF (out _ (s6.put hl3)))⟩⟩
          have s7 : Same H5 (upd H6 l3 (.lst [])) := s6.put hl3
          generalize upd H6 l3 (.lst []) = H7 at s7 ⊢
          refine ⟨_, rfl, _, _, rfl, rfl, (by decide), _, _, rfl, rfl, _, rfl, ifD (fun _ => ⟨_, rfl, _, _, rfl, rfl, _, rfl, ifD (fun _ => ?_) (fun _ => out _ s7)⟩) (fun _ => iteF (out _ s7))⟩
          have s27 := s25.trans s7
          obtain ⟨as, eA, pA⟩ := hP.peals.same s27
          have al := paired_len pA
          have pp0 : 0 < ps.length := List.length_pos_iff.mpr pn
          have fp0 : 0 < fs.length := by
            cases fs with
            | nil => exact absurd rfl fn
            | cons _ _ => simp
          have e0 := Int.emod_nonneg which (show (as.length : Int) ≠ 0 by omega)
          have e1 := Int.emod_lt_of_pos which (show (0 : Int) < (as.length : Int) by omega)
          refine ⟨_, rfl, _, rfl, _, rfl, _, _, rfl, .inl (SqL.of eA), _, _, rfl, rfl, by rw [List.length_map]; omega, ?_⟩
          rw [List.length_map]
          generalize which % (as.length : Int) = e at e0 e1 ⊢
          obtain ⟨m, rfl⟩ : ∃ m : Nat, e = (m : Int) := ⟨e.toNat, by omega⟩
          have hpm := List.getElem?_eq_getElem (show m < ps.length by omega)
          generalize ps[m] = qs at hpm
          obtain ⟨b, hb, bs', eB, pB⟩ := Peals.at pA hpm
          have fq := okp qs (List.mem_of_getElem? hpm)
          have ql := fq.1.len
          refine ⟨_, _, _, _, rfl, rfl, SqL.of eA, at_mapR hb, b, rfl, ⟨_, SqL.of eB⟩, fun pe hpe => comp_LLf (K := K) (mss := qs) eB pB hpe (by omega) rfl ?_ ?_⟩
          · intro j c x y H8 R hx hy hc s8 hR
            rw [hx] at hy
            cases hy
            exact ⟨rfl, _, rfl, _, _, rfl, .inl (SqL.of hc), fun l hl => hR l _ (Same.new hl) hl upd_same⟩
          intro H8 s8 ⟨cs', eC, nd', pC⟩
          have s28 := s27.trans s8
          have hpe2 : H2 pe = none := s27.free hpe
          have pC2 : PySem.Paired (fun b (ns : List Int) => b ≠ pe ∧ H2 b = none ∧ H8 b = some (.lst (ns.map V.int))) cs' qs := paired_imp (fun _ _ z => ⟨z.1, s27.free z.2.1, z.2.2⟩) pC
          have cl' := paired_len pC
          have e0 := Int.emod_nonneg at' (show (cs'.length : Int) ≠ 0 by omega)
          have e1 := Int.emod_lt_of_pos at' (show (0 : Int) < (cs'.length : Int) by omega)
          refine ⟨_, rfl, _, rfl, _, _, rfl, .inl (SqL.of eC), _, _, rfl, rfl, by rw [List.length_map]; omega, ?_⟩
          rw [List.length_map]
          generalize at' % (cs'.length : Int) = e at e0 e1 ⊢
          obtain ⟨n, rfl⟩ : ∃ n : Nat, e = (n : Int) := ⟨e.toNat, by omega⟩
          have hqn := List.getElem?_eq_getElem (show n < qs.length by omega)
          generalize qs[n] = row at hqn
          have hcn := List.getElem?_eq_getElem (show n < cs'.length by omega)
          generalize cs'[n] = c at hcn
          obtain ⟨row', hrow', zc⟩ := paired_get pC2 hcn
          rw [hqn] at hrow'
          cases hrow'
          have out2 : ∀ H9, Same H8 H9 → N [some (.ref a), some (.ref pf), some (.int kd), some (.ref pc), some (.ref pp), some (.int cell), some (.ref pe), some (.int twice), some (.int which), some (.int (n : Int)), some (.int far)] H9 := fun H9 s9 => hN _ _ ⟨pe, qs, _, rfl, s28.trans s9, hpe2, ⟨cs', s9 _ _ eC, paired_imp (fun _ _ z => ⟨z.1, z.2.1, s9 _ _ z.2.2⟩) pC2⟩, fq⟩
          refine ⟨_, rfl, _, rfl, _, _, _, _, rfl, rfl, SqL.of eC, at_mapR hcn, (by decide), fun l4 hl4 => ⟨c, l4, row, [], rfl, rfl, SqL.of ((Same.new hl4) _ _ zc.2.2), SqL.of upd_same, _, rfl, ifND (fun rn => ?_) (fun _ => iteF (out2 _ (Same.new hl4)))⟩⟩
          have s9 : Same H8 (upd H8 l4 (.lst [])) := Same.new hl4
          generalize upd H8 l4 (.lst []) = H9 at s9 ⊢
          refine ⟨_, rfl, _, _, rfl, rfl, (by decide), _, _, rfl, rfl, _, rfl, ifD (fun _ => ?_) (fun _ => out2 _ s9)⟩
          obtain ⟨front, x, rfl⟩ : ∃ front x, row = front ++ [x] := ⟨row.dropLast, row.getLast rn, (List.dropLast_concat_getLast rn).symm⟩
          have hgn := List.getElem?_eq_getElem (show n < gs.length by omega)
          obtain ⟨fr, hfr, hG⟩ := paired_get pG hgn
          have okn := okf fr (List.mem_of_getElem? hfr)
          have l0 := okn.ok.l0
          have s09 := (s02.trans s28).trans s9
          have hc9 := s9 _ _ zc.2.2
          have eC9 := s9 _ _ eC
          refine ⟨_, rfl, _, rfl, _, _, _, _, rfl, rfl, SqL.of eC9, at_mapR hcn, _, rfl, _, _, _, _, rfl, rfl, SqL.of hc9, last_at front x, _, _, rfl, rfl, _, rfl, _, _, rfl, rfl, ⟨by decide, by decide⟩, _, rfl, _, rfl, _, _, _, _, rfl, rfl, SqL.of (s09 _ _ eG), at_mapR hgn, _, _, _, _, rfl, rfl, SqT.of (s09 _ _ hG), rfl, _, _, rfl, rfl, _, _, rfl, rfl, by omega, _, _, rfl, rfl, ?_⟩
          have d0 := Int.emod_nonneg (far / 2) (show fr.2.2 + 1 ≠ 0 by omega)
          refine ⟨_, rfl, _, rfl, _, _, _, _, rfl, rfl, SqL.of eC9, at_mapR hcn, _, rfl, c, _, _, front.length, rfl, rfl, hc9, last_ix front x, ?_⟩
          rw [last_set]
          have npe : pe ≠ c := fun e => zc.1 e.symm
          exact hN _ _ ⟨pe, qs.set n (front ++ [x + 1 + far / 2 % (fr.2.2 + 1)]), _, rfl, (s28.trans s9).wr zc.2.1, hpe2, ⟨cs', by rw [upd_ne npe]; exact eC9, paired_upd (c := c) ⟨zc.1, zc.2.1, upd_same⟩ (fun b y hb z => ⟨z.1, z.2.1, by rw [upd_ne hb]; exact s9 _ _ z.2.2⟩) n pC2 nd' hcn⟩, fq.set hqn (by rw [List.length_append, List.length_append]; rfl) (up_last (fq.2 _ (List.mem_of_getElem? hqn)) (by omega))⟩
        rintro σ H6 ⟨pb, rs, v9, rfl, s6, hpb2, ⟨bs6, eB6, pB6⟩, fu6⟩
        obtain ⟨as, eA, pA⟩ := id hP
        have eA6 := s6 _ _ eA
        have npb : pb ≠ pp := (ne_of_none eA hpb2).symm
        refine ⟨_, rfl, .inl ⟨rfl, _, SqL.of eA6⟩, _, rfl, pp, _, _, rfl, rfl, eA6, by rw [List.length_map, paired_len pA, pl]; exact small1000 (by omega), ?_⟩
        refine ⟨ps ++ [rs], _, _, _, _, _, _, rfl, (s2.trans s6).wr hpp, PealsM.push pA s6 npb ⟨bs6, eB6, paired_imp (fun c _ z => ⟨(ne_of_none eA z.2.1).symm, z.2.2⟩) pB6⟩, by rw [List.length_append, pl]; rfl, fun x hx => ?_⟩
        rcases List.mem_append.mp hx with z | z
        · exact okp x z
        · rw [List.mem_singleton.mp z]; exact fu6
    · rintro σ H2 ⟨ps, v5, v6, v7, v8, v9, v10, rfl, s2, hP, pl, okp⟩
      rw [List.length_map] at pl
      exact ⟨_, rfl, q pp ps H2 (s3.trans s2) (s3.free hpp) hP.peals (by omega) okp⟩
end
theorem pi_listK {X : Cx} {tg l : Expr} {tl : TE} (K : PySem.W.Frag) (hl : PE X l tl) (hK : X.K = K := by rfl) : PI X tg l (iList K tl) := by subst hK; exact pi_list hl
theorem at_other {n k : Nat} (hk : k < n) : ∃ m, m < n ∧ ∀ (cs : List Addr) (c : Addr), cs.length = n → cs[m]? = some c → atI (cs.map V.ref) ((k : Int) - 1) = some (V.ref c) := by
  cases k with
  | zero =>
    refine ⟨n - 1, by omega, fun cs c hl hc => ?_⟩
    unfold atI ixN
    rw [if_neg (by decide), if_pos (by rw [List.length_map]; omega), show ((0 : Nat) : Int) - 1 + ((cs.map V.ref).length : Int) = ((n - 1 : Nat) : Int) by rw [List.length_map]; omega, Int.toNat_natCast]
    show (cs.map V.ref)[n - 1]? = _
    rw [List.getElem?_map, hc]
    rfl
  | succ k =>
    refine ⟨k, by omega, fun cs c hl hc => ?_⟩
    rw [show ((k + 1 : Nat) : Int) - 1 = (k : Int) by omega]
    exact at_mapR hc
section
variable {P : Program} {w : World} {K : PySem.W.Frag} {mg : Str → Option Value} {base : Heap}
theorem sc_law : FnScope ["script", "frames", "peals", "handed", "given", "k", "other", "found", "due", "reading"] ["script"] (defScope st_law) := ⟨rfl, rfl, rfl, by decide +kernel, rfl, by decide +kernel, by decide +kernel⟩
theorem ok_law {f : Addr} {fd : FuncData} (F : Fun K "law" "law" st_law f fd) (T : Txt K mg) (D_box_of : Def K mg "box_of" st_box_of ["row", "late"]) (D_can_come : Def K mg "can_come" st_can_come ["row", "reading", "late"]) (D_alike : Def K mg "alike" st_alike ["one", "other", "late"]) (D_reading_of_both : Def K mg "reading_of_both" st_reading_of_both ["one", "other", "late"]) (D_peals_alike : Def K mg "peals_alike" st_peals_alike ["one", "other", "frames"]) (D_peal_crowd : Def K mg "peal_crowd" st_peal_crowd ["peals", "frames"]) (D_boxes_of_peal : Def K mg "boxes_of_peal" st_boxes_of_peal ["peal", "frames"]) (D_hearing_of_both : Def K mg "hearing_of_both" st_hearing_of_both ["one", "other", "frames"]) (D__law_cell_at : Def K mg "_law_cell_at" st__law_cell_at ["script", "k"]) (D__law_stir : Def K mg "_law_stir" st__law_stir ["cell", "k"]) (D__law_drawn : Def K mg "_law_drawn" st__law_drawn ["cell", "sizes"]) (D__law_frames : Def K mg "_law_frames" st__law_frames ["script"]) (D__law_row : Def K mg "_law_row" st__law_row ["cell", "rope", "frame"]) (D__law_peals : Def K mg "_law_peals" st__law_peals ["script", "frames"]) (D__law_alike : Def K mg "_law_alike" st__law_alike ["one", "other", "frames"]) (D__law_boxes : Def K mg "_law_boxes" st__law_boxes ["peal", "frames"]) (D__law_both : Def K mg "_law_both" st__law_both ["one", "other", "late", "found"]) (D__law_readings : Def K mg "_law_readings" st__law_readings ["one", "other", "frames", "readings"]) (D__law_crowd : Def K mg "_law_crowd" st__law_crowd ["peals", "frames", "found"]) : FnOk P w K mg base CX0 8 f fd ["script"] (spLaw K) := by
  have G_boxes_of_peal := ok_boxesP (P := P) (w := w) (base := base) D_boxes_of_peal T (ok_box_of D_box_of T)
  have G_peals_alike := ok_palike (P := P) (w := w) (base := base) D_peals_alike T (ok_alikeG D_alike T)
  have G_hearing_of_both := ok_hear2 (P := P) (w := w) (base := base) D_hearing_of_both T (ok_both D_reading_of_both T (ok_can_come D_can_come T))
  have G_peal_crowd := ok_pcrowd D_peal_crowd T G_boxes_of_peal G_hearing_of_both
  have G__law_cell_at : Fn P w K mg base 1 "_law_cell_at" ["script", "k"] (spCell K) := ok_cell_at D__law_cell_at T
  have G__law_stir : Fn P w K mg base 1 "_law_stir" ["cell", "k"] spStir := ok_stir D__law_stir
  have G__law_drawn := ok_drawnL D__law_drawn T G__law_stir
  have G__law_frames := ok_frames89 D__law_frames T G__law_cell_at G__law_drawn
  have G__law_row := ok_row89 (P := P) (w := w) (base := base) D__law_row T G__law_drawn
  have G__law_peals := ok_peals89 D__law_peals T G__law_cell_at G__law_drawn G__law_row
  have G__law_alike := ok_alike89 (P := P) (w := w) (base := base) D__law_alike T
  have G__law_readings := ok_readings89 D__law_readings T (ok_both89 (P := P) (w := w) (base := base) D__law_both T)
  have G__law_crowd := ok_crowd89 D__law_crowd T (ok_boxes89 (P := P) (w := w) (base := base) D__law_boxes T) G__law_readings
  refine F.ok sc_law (fun vs H Q E h => ?_) (fun cdv A outer s H vs Q E hr h => ?_)
  · obtain ⟨a, ns, rfl, _⟩ := h
    rfl
  · obtain ⟨a, ns, rfl, hS, hlen, q⟩ := h
    have hu := hu64 hr
    refine ⟨_, (pss_cons (ps_set (i := 1) sc_law.nd rfl (Or.inl rfl) (pe_fn G__law_frames (hr.mono (by decide)) (by rfl) (pa_cons (pv 0) pa_nil)))
      (pss_cons (ps_set (i := 2) sc_law.nd rfl (Or.inl rfl) (pe_fn G__law_peals (hr.mono (by decide)) (by rfl) (pa_cons (pv 0) (pa_cons (pv 1) pa_nil))))
      (pss_cons (ps_setC (k := 3) (own := ["peal"]) (fr := []) (ix := []) rfl sc_law.nd rfl rfl ⟨rfl, rfl, rfl, rfl, rfl, rfl⟩ (pi_list (pv 2)) (fun _ _ _ _ _ => (pg_name (i := 0) (show (["peal"] : List Str).Nodup by decide +kernel) rfl (Or.inl rfl))) (fun _ _ _ _ _ => pts_nil) (fun _ _ _ _ _ => (pe_comp (own := ["row"]) (fr := []) (ix := []) rfl ⟨rfl, rfl, rfl, rfl, rfl, rfl⟩ (pi_listK K (pv 0)) (fun _ _ _ _ _ => (pg_name (i := 0) (show (["row"] : List Str).Nodup by decide +kernel) rfl (Or.inl rfl))) (fun _ _ _ _ _ => pts_nil) (fun _ _ _ _ _ => (pe_callTy (call_list_ofK K) (by rfl) T.z_list b_list (pa_cons (pv 0) pa_nil))))))
      (pss_cons (ps_set (i := 4) sc_law.nd rfl (Or.inl rfl) (pe_callTy call_list_of (by rfl) T.z_list b_list (pa_cons (pv 1) pa_nil)))
      (pss_cons (ps_for PassesOwn.never rfl (pi_range1 (by rfl) T.z_range (pa_cons (pe_callB call_len_seq (by rfl) T.z_len b_len (pa_cons (pv 2) pa_nil)) pa_nil)) (pg_name (i := 5) sc_law.nd rfl (Or.inl rfl))
        (pss_one (ps_for PassesOwn.never rfl (pi_list (pe_lst (pa_cons (pv 5) (pa_cons (pe_op op_subI (pv 5) pe_int) pa_nil)))) (pg_name (i := 6) sc_law.nd rfl (Or.inl rfl))
          (pss_cons (ps_set (i := 7) sc_law.nd rfl (Or.inl rfl) (pe_fn G_peals_alike (hr.mono (by decide)) (by rfl) (pa_cons (pe_ix ix_list (pv 3) (pv 5) (fun _ _ => rfl)) (pa_cons (pe_ix ix_list (pv 3) (pv 6) (fun _ _ => rfl)) (pa_cons (pv 4) pa_nil)))))
          (pss_cons (ps_set (i := 8) sc_law.nd rfl (Or.inl rfl) (pe_fn G__law_alike (hr.mono (by decide)) (by rfl) (pa_cons (pe_ix ix_list (pv 2) (pv 5) (fun _ _ => rfl)) (pa_cons (pe_ix ix_list (pv 2) (pv 6) (fun _ _ => rfl)) (pa_cons (pv 1) pa_nil)))))
          (pss_one (ps_if (pw_or (pt_not (pt_val (pe_callB call_isinst (by rfl) T.z_isinstance b_isinstance (pa_cons (pv 7) (pa_cons (pe_bltn (v := .ty "bool") (by rfl) T.z_bool b_bool rfl) pa_nil))))) (pw_or1 (pt_cmpR op_ne (pv 7) (pv 8) (nomark _)))).pt
            (pss_one (ps_ret pe_bl))
            pss_nil)))))))
      (pss_cons (ps_for PassesOwn.never rfl (pi_range1 (by rfl) T.z_range (pa_cons pe_int pa_nil)) (pg_name (i := 5) sc_law.nd rfl (Or.inl rfl))
        (pss_cons (ps_set (i := 7) sc_law.nd rfl (Or.inl rfl) (pe_fn G_peal_crowd (hr.mono (by decide)) (by rfl) (pa_cons (pv 3) (pa_cons (pv 4) pa_nil))))
        (pss_cons (ps_if (pw_or (pt_not (pt_val (pe_fn G__law_crowd (hr.mono (by decide)) (by rfl) (pa_cons (pv 2) (pa_cons (pv 1) (pa_cons (pv 7) pa_nil)))))) (pw_or (pt_cmpR (op_neL3 hu) (pv 3) (pv 2) (nomark _)) (pw_or1 (pt_cmpR (op_neLT hu) (pv 4) (pv 1) (nomark _))))).pt
          (pss_one (ps_ret pe_bl))
          pss_nil)
        (pss_one (ps_if (pt_cmpR op_notN (pv 7) pe_non (nomark _))
          (pss_one (ps_for PassesOwn.never rfl (pi_list (pe_ix ix_tup (pv 7) pe_int (fun _ _ => rfl))) (pg_name (i := 9) sc_law.nd rfl (Or.inl rfl))
            (pss_one (ps_expr (pe_bm PySem.F.plainAttrs_list PySem.F.slot_list_append PySem.F.type_list_append mt_append (pv 9) (pa_cons pe_int pa_nil))))))
          pss_nil)))))
      (pss_one (ps_ret (pe_and (pe_cmpR (op_eqL3 hu) (pv 3) (pv 2) (nomark _)) (pe_one (pe_cmpR (op_eqLT hu) (pv 4) (pv 1) (nomark _)))))))))))), ?_⟩
    refine ⟨_, rfl, a, ns, rfl, hS, fun pf fs H1 s1 hpf FM ok fl => ?_⟩
    have okk : ∀ f ∈ fs, FrOk f := fun f hf => (ok f hf).ok
    have FF := FM.frs
    obtain ⟨gs, eG, pG⟩ := id FF
    refine ⟨_, rfl, _, rfl, a, pf, ns, fs, rfl, s1.seq hS, hlen, FF, ok, fl, fun pp ps H2 s2 hpp hPe pl okp => ?_⟩
    obtain ⟨as, eA, pA⟩ := id hPe
    have al := paired_len pA
    refine ⟨_, rfl, pp, rfl, ⟨_, SqL.of eA⟩, fun ph hph => comp_listI (K := K) (a := pp) (xs := as.map V.ref) (fun i ys H3 => ∃ cs : List Addr, ys = cs.map V.ref ∧ Same H2 H3 ∧ H3 ph = some (.lst ys) ∧ PySem.Paired (fun b rs => b ≠ ph ∧ LLx ph H3 b rs) cs (ps.take i))
      (by rw [List.length_map]; exact Nat.le_of_lt (small1000 (by omega))) ⟨[], rfl, Same.new hph, upd_same, .nil⟩ (fun i ys H3 ⟨cs, e, s3, h3, p3⟩ => ⟨h3, by rw [e, List.length_map, paired_len p3, List.length_take]; omega, SqL.of (s3 _ _ eA)⟩) ?_ ?_⟩
    · rintro i x ys H3 R hx ⟨cs, rfl, s3, h3, p3⟩ hR
      rw [List.getElem?_map] at hx
      obtain ⟨b, hb, rfl⟩ := Option.map_eq_some_iff.mp hx
      obtain ⟨rs, hrs, hB⟩ := paired_get pA hb
      obtain ⟨bs, eB, pB⟩ := hB.same s3
      have rl := (okp rs (List.mem_of_getElem? hrs)).1.len
      refine ⟨rfl, _, rfl, b, rfl, ⟨_, SqL.of eB⟩, fun pe hpe => comp_LLf (K := K) (mss := rs) eB pB hpe (by omega) rfl ?_ ?_⟩
      · intro j c x y H8 R' hx hy hc s8 hR'
        rw [hx] at hy
        cases hy
        exact ⟨rfl, _, rfl, _, _, rfl, .inl (SqL.of hc), fun l hl => hR' l _ (Same.new hl) hl upd_same⟩
      intro H4 s4 ⟨ds, eD, nd, pD⟩
      have np : pe ≠ ph := (ne_of_none h3 hpe).symm
      have k : ∀ z o, z ≠ ph → H4 z = some o → (upd H4 ph (.lst (cs.map V.ref ++ [V.ref pe]))) z = some o := fun z o hz e => by rw [upd_ne hz]; exact e
      refine hR _ _ (s4 _ _ h3) ⟨cs ++ [pe], by rw [List.map_append]; rfl, (s3.trans s4).wr hph, upd_same, ?_⟩
      rw [take_snoc hrs]
      exact PySem.Paired.snoc (paired_imp (fun c rs z => ⟨z.1, (z.2.keep z.1 fun y o _ e => s4 _ _ e).keep z.1 k⟩) p3) ⟨np, LLx.keep ⟨ds, eD, paired_imp (fun c ns z => ⟨(ne_of_none h3 z.2.1).symm, z.2.2⟩) pD⟩ np k⟩
    rintro ys H3 ⟨cs, rfl, s3, h3, p3⟩
    rw [List.length_map, List.take_of_length_le (by omega)] at p3
    have pH : PySem.Paired (fun b rs => LL H3 b rs) cs ps := paired_imp (fun _ _ z => z.2.ll) p3
    have cl := paired_len pH
    refine ⟨_, rfl, _, _, rfl, .inl (SqL.of ((s2.trans s3) _ _ eG)), fun pg hpg => ?_⟩
    have s4 : Same H3 (upd H3 pg (.lst (gs.map V.ref))) := Same.new hpg
    have FG : Frs (upd H3 pg (.lst (gs.map V.ref))) pg fs := ⟨gs, upd_same, paired_imp (fun _ _ z => s4 _ _ ((s2.trans s3) _ _ z)) pG⟩
    generalize upd H3 pg (.lst (gs.map V.ref)) = H4 at s4 FG ⊢
    have hH4 : Peals H4 ph ps := Peals.same s4 ⟨cs, h3, pH⟩
    have hP4 : Peals H4 pp ps := hPe.same (s3.trans s4)
    have FF4 : Frs H4 pf fs := FF.same ((s2.trans s3).trans s4)
    have fit : ∀ rs ∈ ps, FitP fs rs := fun rs hrs => (okp rs hrs).1
    have eA4 := (s3.trans s4) _ _ eA
    have h34 := s4 _ _ h3
    refine ⟨_, rfl, _, _, rfl, .inl (SqL.of eA4), ?_⟩
    rw [List.length_map]
    refine ⟨_, rfl, by omega, by omega, for_range (n := (as.length : Int).toNat) (fun i σ H5 => ∃ v5 v6 v7 v8 : Option V, σ = [some (.ref a), some (.ref pf), some (.ref pp), some (.ref ph), some (.ref pg), v5, v6, v7, v8, none] ∧ Same H4 H5) ⟨none, none, none, none, rfl, Same.refl _⟩ ?_ ?_⟩
    · rintro k σ H5 hk ⟨v5, v6, v7, v8, rfl, s5⟩
      rw [show (0 : Int) + (k : Int) = (k : Int) by omega]
      have kN : k < ps.length := by omega
      refine ⟨_, rfl, _, rfl, _, _, rfl, rfl, (by show 2 ≤ sizeLine; decide), fun l hl => ⟨l, rfl, ⟨_, SqL.of upd_same⟩, for_list (K := K) (a := l) (xs := [V.int (k : Int), V.int ((k : Int) - 1)]) (fun i σ H6 => ∃ v6 v7 v8 : Option V, σ = [some (.ref a), some (.ref pf), some (.ref pp), some (.ref ph), some (.ref pg), some (.int (k : Int)), v6, v7, v8, none] ∧ Same H4 H6 ∧ H6 l = some (.lst [V.int (k : Int), V.int ((k : Int) - 1)])) ⟨_, _, _, rfl, s5.put hl, upd_same⟩ (fun i σ H6 _ ⟨_, _, _, _, _, h6⟩ => SqL.of h6) ?_ ?_⟩⟩
      · rintro i xv σ H6 hx ⟨v6, v7, v8, rfl, s6, h6⟩
        obtain ⟨o, m, rfl, mN, hat⟩ : ∃ (o : Int) (m : Nat), xv = V.int o ∧ m < ps.length ∧ ∀ (cs : List Addr) (c : Addr), cs.length = ps.length → cs[m]? = some c → atI (cs.map V.ref) o = some (V.ref c) := by
          match i, hx with
          | 0, hx => exact ⟨(k : Int), k, (by cases hx; rfl), kN, fun cs c _ hc => at_mapR hc⟩
          | 1, hx =>
            obtain ⟨m, hm, h⟩ := at_other kN
            exact ⟨(k : Int) - 1, m, (by cases hx; rfl), hm, h⟩
          | _ + 2, hx => exact absurd hx (by simp)
        have hpk := List.getElem?_eq_getElem kN
        generalize ps[k] = r1 at hpk
        have hpm := List.getElem?_eq_getElem mN
        generalize ps[m] = r2 at hpm
        obtain ⟨c1, hc1, hL1⟩ := Peals.at pH hpk
        obtain ⟨c2, hc2, hL2⟩ := Peals.at pH hpm
        obtain ⟨b1, hb1, hM1⟩ := Peals.at pA hpk
        obtain ⟨b2, hb2, hM2⟩ := Peals.at pA hpm
        have s36 := s4.trans s6
        have h36 := s6 _ _ h34
        have f1 := fit r1 (List.mem_of_getElem? hpk)
        have f2 := fit r2 (List.mem_of_getElem? hpm)
        refine ⟨_, rfl, _, rfl, _, _, _, _, rfl, rfl, SqL.of h36, at_mapR hc1, _, rfl, _, rfl, _, _, _, _, rfl, rfl, SqL.of h36, hat cs c2 cl hc2, _, rfl, c1, c2, pg, r1, r2, fs, rfl, hL1.same s36, hL2.same s36, FG.same s6, okk, by omega, f1, f2, fun t1 H7 s7 e1 => ?_⟩
        have s47 := s6.trans s7
        have s27 := (s3.trans s4).trans s47
        have eA7 := s47 _ _ eA4
        refine ⟨_, rfl, _, rfl, _, _, _, _, rfl, rfl, SqL.of eA7, at_mapR hb1, _, rfl, _, rfl, _, _, _, _, rfl, rfl, SqL.of eA7, hat as b2 al hb2, _, rfl, b1, b2, pf, r1, r2, fs, rfl, hM1.same s27, hM2.same s27, FF4.same s47, okk, by omega, f1, f2, fun t2 H8 s8 e2 => ?_⟩
        have et : t2 = t1 := Bool.eq_iff_iff.mpr (e2.trans e1.symm)
        subst et
        exact ⟨_, rfl, _, _, _, true, rfl, TyOf.bl _, kit_bool_bool K, _, rfl, iteF ⟨_, rfl, _, rfl, rfl, _, rfl, iteNS rfl ⟨_, _, _, rfl, s47.trans s8, s8 _ _ (s7 _ _ h6)⟩⟩⟩
      · rintro σ H6 ⟨v6, v7, v8, rfl, s6, _⟩
        exact ⟨_, _, _, _, rfl, s6⟩
    · rintro σ H5 ⟨v5, v6, v7, v8, rfl, s5⟩
      refine ⟨_, rfl, by decide, by decide, for_range (n := 2) (fun i σ H6 => ∃ v5 v7 v9 : Option V, σ = [some (.ref a), some (.ref pf), some (.ref pp), some (.ref ph), some (.ref pg), v5, v6, v7, v8, v9] ∧ Same H4 H6) ⟨_, _, _, rfl, s5⟩ ?_ ?_⟩
      · rintro i σ H6 hi ⟨v5, v7, v9, rfl, s6⟩
        refine ⟨_, rfl, _, rfl, ph, pg, ps, fs, rfl, hH4.same s6, FG.same s6, okk, by omega, fit, by omega, fun i' j rs ss t h H7 hij hi' hj eb no s7 ht hh hT hL => ?_, fun no H7 s7 => ?_⟩
        · have s47 := s6.trans s7
          refine ⟨_, rfl, _, rfl, _, rfl, pp, pf, .ref t, ps, fs, rfl, hP4.same s47, FF4.same s47, ok, by omega, okp, by omega, .inr ⟨i', j, rs, ss, t, h, rfl, hT, hij, hi', hj, eb, no, hL.ll⟩, fun H8 s8 => ⟨_, rfl, iteF ?_⟩⟩
          have s48 := s47.trans s8
          refine ⟨_, rfl, _, rfl, ph, pp, ps, ps, rfl, rfl, (hH4.same s48).sq, (hP4.same s48).sq, _, rfl, iteNS rfl ⟨_, rfl, _, rfl, pg, pf, fs.map frL, fs.map frL, rfl, rfl, (FG.same s48).sq, (FF4.same s48).sq, _, rfl, iteNS rfl ?_⟩⟩
          obtain ⟨ds, eD, pD⟩ := hL
          have hT8 := s8 _ _ hT
          refine ⟨_, rfl, rfl, _, rfl, iteT ⟨_, rfl, _, _, _, _, rfl, rfl, SqT.of hT8, rfl, _, rfl, ⟨_, SqL.of (s8 _ _ eD)⟩, for_list (K := K) (a := h) (xs := ds.map V.ref) (fun i σ H9 => ∃ u5 v9 : Option V, σ = [some (.ref a), some (.ref pf), some (.ref pp), some (.ref ph), some (.ref pg), u5, v6, some (.ref t), v8, v9] ∧ Same H4 H9 ∧ H9 h = some (.lst (ds.map V.ref)) ∧ ∀ b ∈ ds, b ≠ h ∧ H4 b = none ∧ ∃ xs, H9 b = some (.lst xs) ∧ xs.length ≤ 64 + i) ⟨_, _, rfl, s48, s8 _ _ eD, fun b hb => ?_⟩ (fun i σ H9 _ ⟨_, _, _, _, h9, _⟩ => SqL.of h9) ?_ ?_⟩⟩
          · obtain ⟨ms, hms, z⟩ := paired_mem pD hb
            refine ⟨z.1, s6.free z.2.1, _, s8 _ _ z.2.2, ?_⟩
            rw [List.length_map]
            obtain ⟨n, hn⟩ := List.getElem?_of_mem hms
            unfold hearP at hn
            rw [List.getElem?_zipWith] at hn
            have fr1 := fit rs (List.mem_of_getElem? hi')
            have fr2 := fit ss (List.mem_of_getElem? hj)
            have ln1 := fr1.len
            have ln2 := fr2.len
            have nl : n < rs.length := by
              by_cases z : n < rs.length
              · exact z
              · rw [List.getElem?_eq_none (by omega)] at hn; cases hn
            rw [List.getElem?_eq_getElem nl, List.getElem?_eq_getElem (show n < ss.length by omega)] at hn
            have hn := Option.some.inj hn
            have hfn := List.getElem?_eq_getElem (show n < fs.length by omega)
            have w1 := fr1.row n _ _ (List.getElem?_eq_getElem nl) hfn
            have w2 := fr2.row n _ _ (List.getElem?_eq_getElem (show n < ss.length by omega)) hfn
            have b6 := (ok _ (List.mem_of_getElem? hfn)).b6
            rw [← hn, maxs_len (by omega)]
            omega
          · rintro n y σ H9 hn ⟨u5, v9, rfl, s9, h9, hb9⟩
            rw [List.getElem?_map] at hn
            obtain ⟨b, hb, rfl⟩ := Option.map_eq_some_iff.mp hn
            have nl : n < ds.length := (List.getElem?_eq_some_iff.mp hb).1
            have dl := paired_len pD
            have hl : (hearP rs ss).length ≤ 10 := by
              unfold hearP
              rw [List.length_zipWith]
              have := (fit rs (List.mem_of_getElem? hi')).len
              omega
            obtain ⟨b1, b2, xs, b3, b4⟩ := hb9 b (List.mem_of_getElem? hb)
            refine ⟨_, rfl, .inl ⟨rfl, _, SqL.of b3⟩, b, xs, _, rfl, rfl, b3, small1000 (by omega), ?_⟩
            refine ⟨_, _, rfl, s9.wr b2, by rw [upd_ne (Ne.symm b1)]; exact h9, fun c hc => ?_⟩
            obtain ⟨c1, c2, ys, c3, c4⟩ := hb9 c hc
            refine ⟨c1, c2, ?_⟩
            by_cases e : c = b
            · rw [e, upd_same]
              exact ⟨_, rfl, by rw [List.length_append]; simp only [List.length_singleton]; omega⟩
            · rw [upd_ne e]
              exact ⟨ys, c3, by omega⟩
          · rintro σ H9 ⟨u5, v9, rfl, s9, _⟩
            exact ⟨_, _, _, rfl, s9⟩
        · have s47 := s6.trans s7
          refine ⟨_, rfl, _, rfl, _, rfl, pp, pf, .non, ps, fs, rfl, hP4.same s47, FF4.same s47, ok, by omega, okp, by omega, .inl ⟨rfl, fun k l x y hkl _ hx hy => no k l x y hkl hx hy⟩, fun H8 s8 => ⟨_, rfl, iteF ?_⟩⟩
          have s48 := s47.trans s8
          exact ⟨_, rfl, _, rfl, ph, pp, ps, ps, rfl, rfl, (hH4.same s48).sq, (hP4.same s48).sq, _, rfl, iteNS rfl ⟨_, rfl, _, rfl, pg, pf, fs.map frL, fs.map frL, rfl, rfl, (FG.same s48).sq, (FF4.same s48).sq, _, rfl, iteNS rfl ⟨_, rfl, rfl, _, rfl, iteF ⟨_, _, _, rfl, s48⟩⟩⟩⟩
      · rintro σ H6 ⟨v5, v7, v9, rfl, s6⟩
        refine ⟨_, rfl, _, rfl, ph, pp, ps, ps, rfl, rfl, (hH4.same s6).sq, (hP4.same s6).sq, ?_⟩
        rw [decide_eq_true (rfl : ps = ps)]
        refine ⟨_, rfl, _, rfl, _, rfl, pg, pf, fs.map frL, fs.map frL, rfl, rfl, (FG.same s6).sq, (FF4.same s6).sq, ?_⟩
        rw [decide_eq_true (rfl : fs.map frL = fs.map frL)]
        exact q _
end
theorem of_len0 {α : Type} {F : List α → Prop} {us : List α} (h : us.length = 0) (k : F []) : F us := by
  cases us with
  | nil => exact k
  | cons a r => cases h
theorem of_len1 {α : Type} {F : List α → Prop} {us : List α} (h : us.length = 1) (k : ∀ a, F [a]) : F us := by
  cases us with
  | nil => cases h
  | cons a r => exact of_len0 (F := fun r => F (a :: r)) (Nat.succ.inj h) (k a)
theorem of_len2 {α : Type} {F : List α → Prop} {us : List α} (h : us.length = 2) (k : ∀ a b, F [a, b]) : F us := by
  cases us with
  | nil => cases h
  | cons a r => exact of_len1 (F := fun r => F (a :: r)) (Nat.succ.inj h) (k a)
theorem of_len3 {α : Type} {F : List α → Prop} {us : List α} (h : us.length = 3) (k : ∀ a b c, F [a, b, c]) : F us := by
  cases us with
  | nil => cases h
  | cons a r => exact of_len2 (F := fun r => F (a :: r)) (Nat.succ.inj h) (k a)
theorem of_len4 {α : Type} {F : List α → Prop} {us : List α} (h : us.length = 4) (k : ∀ a b c d, F [a, b, c, d]) : F us := by
  cases us with
  | nil => cases h
  | cons a r => exact of_len3 (F := fun r => F (a :: r)) (Nat.succ.inj h) (k a)
theorem binds_len1 {fd : FuncData} {ps : List Str} {us : List Value} (h : us.length = 1) (k : ∀ a, bindArgs fd ⟨[a], []⟩ = pure (ps.zip [a])) : bindArgs fd ⟨us, []⟩ = pure (ps.zip us) := of_len1 (F := fun us => bindArgs fd ⟨us, []⟩ = pure (ps.zip us)) h k
theorem binds_len2 {fd : FuncData} {ps : List Str} {us : List Value} (h : us.length = 2) (k : ∀ a b, bindArgs fd ⟨[a, b], []⟩ = pure (ps.zip [a, b])) : bindArgs fd ⟨us, []⟩ = pure (ps.zip us) := of_len2 (F := fun us => bindArgs fd ⟨us, []⟩ = pure (ps.zip us)) h k
theorem binds_len3 {fd : FuncData} {ps : List Str} {us : List Value} (h : us.length = 3) (k : ∀ a b c, bindArgs fd ⟨[a, b, c], []⟩ = pure (ps.zip [a, b, c])) : bindArgs fd ⟨us, []⟩ = pure (ps.zip us) := of_len3 (F := fun us => bindArgs fd ⟨us, []⟩ = pure (ps.zip us)) h k
theorem binds_len4 {fd : FuncData} {ps : List Str} {us : List Value} (h : us.length = 4) (k : ∀ a b c d, bindArgs fd ⟨[a, b, c, d], []⟩ = pure (ps.zip [a, b, c, d])) : bindArgs fd ⟨us, []⟩ = pure (ps.zip us) := of_len4 (F := fun us => bindArgs fd ⟨us, []⟩ = pure (ps.zip us)) h k
theorem all_mk {l : PySem.W.OpenLaw} {w : World} {K : PySem.W.Frag} {h : Heap} {mg : Str → Option Value} {fa : Addr} (X : K.In h) (G : h.Ns mainGlobals mg) (hfa : mg "law" = some (.ref fa))
    {f0 : Addr} {od0 an0 : Option Addr} {sl0 : Array (Option Value)} {oc0 kV0 dc0 pm0 cd0 ct0 : Value}
    (a0 : PySem.W.nsIn K mainGlobals "box_of" = some (some (.ref f0))) (l0 : K.lookup f0 = some ⟨oc0, od0, .func (PySem.W.fnOf "box_of" "box_of" (defArgs st_box_of) (defBody st_box_of) (defScope st_box_of) .none kV0 dc0 pm0 an0 cd0 ct0), sl0⟩) (c0 : PySem.W.codeIn K cd0 "box_of" = true) (k0 : PySem.W.keepIn K (.ref f0) = true)
    {f1 : Addr} {od1 an1 : Option Addr} {sl1 : Array (Option Value)} {oc1 kV1 dc1 pm1 cd1 ct1 : Value}
    (a1 : PySem.W.nsIn K mainGlobals "can_come" = some (some (.ref f1))) (l1 : K.lookup f1 = some ⟨oc1, od1, .func (PySem.W.fnOf "can_come" "can_come" (defArgs st_can_come) (defBody st_can_come) (defScope st_can_come) .none kV1 dc1 pm1 an1 cd1 ct1), sl1⟩) (c1 : PySem.W.codeIn K cd1 "can_come" = true) (k1 : PySem.W.keepIn K (.ref f1) = true)
    {f2 : Addr} {od2 an2 : Option Addr} {sl2 : Array (Option Value)} {oc2 kV2 dc2 pm2 cd2 ct2 : Value}
    (a2 : PySem.W.nsIn K mainGlobals "alike" = some (some (.ref f2))) (l2 : K.lookup f2 = some ⟨oc2, od2, .func (PySem.W.fnOf "alike" "alike" (defArgs st_alike) (defBody st_alike) (defScope st_alike) .none kV2 dc2 pm2 an2 cd2 ct2), sl2⟩) (c2 : PySem.W.codeIn K cd2 "alike" = true) (k2 : PySem.W.keepIn K (.ref f2) = true)
    {f3 : Addr} {od3 an3 : Option Addr} {sl3 : Array (Option Value)} {oc3 kV3 dc3 pm3 cd3 ct3 : Value}
    (a3 : PySem.W.nsIn K mainGlobals "reading_of_both" = some (some (.ref f3))) (l3 : K.lookup f3 = some ⟨oc3, od3, .func (PySem.W.fnOf "reading_of_both" "reading_of_both" (defArgs st_reading_of_both) (defBody st_reading_of_both) (defScope st_reading_of_both) .none kV3 dc3 pm3 an3 cd3 ct3), sl3⟩) (c3 : PySem.W.codeIn K cd3 "reading_of_both" = true) (k3 : PySem.W.keepIn K (.ref f3) = true)
    {f4 : Addr} {od4 an4 : Option Addr} {sl4 : Array (Option Value)} {oc4 kV4 dc4 pm4 cd4 ct4 : Value}
    (a4 : PySem.W.nsIn K mainGlobals "peals_alike" = some (some (.ref f4))) (l4 : K.lookup f4 = some ⟨oc4, od4, .func (PySem.W.fnOf "peals_alike" "peals_alike" (defArgs st_peals_alike) (defBody st_peals_alike) (defScope st_peals_alike) .none kV4 dc4 pm4 an4 cd4 ct4), sl4⟩) (c4 : PySem.W.codeIn K cd4 "peals_alike" = true) (k4 : PySem.W.keepIn K (.ref f4) = true)
    {f5 : Addr} {od5 an5 : Option Addr} {sl5 : Array (Option Value)} {oc5 kV5 dc5 pm5 cd5 ct5 : Value}
    (a5 : PySem.W.nsIn K mainGlobals "peal_crowd" = some (some (.ref f5))) (l5 : K.lookup f5 = some ⟨oc5, od5, .func (PySem.W.fnOf "peal_crowd" "peal_crowd" (defArgs st_peal_crowd) (defBody st_peal_crowd) (defScope st_peal_crowd) .none kV5 dc5 pm5 an5 cd5 ct5), sl5⟩) (c5 : PySem.W.codeIn K cd5 "peal_crowd" = true) (k5 : PySem.W.keepIn K (.ref f5) = true)
    {f6 : Addr} {od6 an6 : Option Addr} {sl6 : Array (Option Value)} {oc6 kV6 dc6 pm6 cd6 ct6 : Value}
    (a6 : PySem.W.nsIn K mainGlobals "boxes_of_peal" = some (some (.ref f6))) (l6 : K.lookup f6 = some ⟨oc6, od6, .func (PySem.W.fnOf "boxes_of_peal" "boxes_of_peal" (defArgs st_boxes_of_peal) (defBody st_boxes_of_peal) (defScope st_boxes_of_peal) .none kV6 dc6 pm6 an6 cd6 ct6), sl6⟩) (c6 : PySem.W.codeIn K cd6 "boxes_of_peal" = true) (k6 : PySem.W.keepIn K (.ref f6) = true)
    {f7 : Addr} {od7 an7 : Option Addr} {sl7 : Array (Option Value)} {oc7 kV7 dc7 pm7 cd7 ct7 : Value}
    (a7 : PySem.W.nsIn K mainGlobals "hearing_of_both" = some (some (.ref f7))) (l7 : K.lookup f7 = some ⟨oc7, od7, .func (PySem.W.fnOf "hearing_of_both" "hearing_of_both" (defArgs st_hearing_of_both) (defBody st_hearing_of_both) (defScope st_hearing_of_both) .none kV7 dc7 pm7 an7 cd7 ct7), sl7⟩) (c7 : PySem.W.codeIn K cd7 "hearing_of_both" = true) (k7 : PySem.W.keepIn K (.ref f7) = true)
    {f8 : Addr} {od8 an8 : Option Addr} {sl8 : Array (Option Value)} {oc8 kV8 dc8 pm8 cd8 ct8 : Value}
    (a8 : PySem.W.nsIn K mainGlobals "_law_cell_at" = some (some (.ref f8))) (l8 : K.lookup f8 = some ⟨oc8, od8, .func (PySem.W.fnOf "_law_cell_at" "_law_cell_at" (defArgs st__law_cell_at) (defBody st__law_cell_at) (defScope st__law_cell_at) .none kV8 dc8 pm8 an8 cd8 ct8), sl8⟩) (c8 : PySem.W.codeIn K cd8 "_law_cell_at" = true) (k8 : PySem.W.keepIn K (.ref f8) = true)
    {f9 : Addr} {od9 an9 : Option Addr} {sl9 : Array (Option Value)} {oc9 kV9 dc9 pm9 cd9 ct9 : Value}
    (a9 : PySem.W.nsIn K mainGlobals "_law_stir" = some (some (.ref f9))) (l9 : K.lookup f9 = some ⟨oc9, od9, .func (PySem.W.fnOf "_law_stir" "_law_stir" (defArgs st__law_stir) (defBody st__law_stir) (defScope st__law_stir) .none kV9 dc9 pm9 an9 cd9 ct9), sl9⟩) (c9 : PySem.W.codeIn K cd9 "_law_stir" = true) (k9 : PySem.W.keepIn K (.ref f9) = true)
    {f10 : Addr} {od10 an10 : Option Addr} {sl10 : Array (Option Value)} {oc10 kV10 dc10 pm10 cd10 ct10 : Value}
    (a10 : PySem.W.nsIn K mainGlobals "_law_drawn" = some (some (.ref f10))) (l10 : K.lookup f10 = some ⟨oc10, od10, .func (PySem.W.fnOf "_law_drawn" "_law_drawn" (defArgs st__law_drawn) (defBody st__law_drawn) (defScope st__law_drawn) .none kV10 dc10 pm10 an10 cd10 ct10), sl10⟩) (c10 : PySem.W.codeIn K cd10 "_law_drawn" = true) (k10 : PySem.W.keepIn K (.ref f10) = true)
    {f11 : Addr} {od11 an11 : Option Addr} {sl11 : Array (Option Value)} {oc11 kV11 dc11 pm11 cd11 ct11 : Value}
    (a11 : PySem.W.nsIn K mainGlobals "_law_frames" = some (some (.ref f11))) (l11 : K.lookup f11 = some ⟨oc11, od11, .func (PySem.W.fnOf "_law_frames" "_law_frames" (defArgs st__law_frames) (defBody st__law_frames) (defScope st__law_frames) .none kV11 dc11 pm11 an11 cd11 ct11), sl11⟩) (c11 : PySem.W.codeIn K cd11 "_law_frames" = true) (k11 : PySem.W.keepIn K (.ref f11) = true)
    {f12 : Addr} {od12 an12 : Option Addr} {sl12 : Array (Option Value)} {oc12 kV12 dc12 pm12 cd12 ct12 : Value}
    (a12 : PySem.W.nsIn K mainGlobals "_law_row" = some (some (.ref f12))) (l12 : K.lookup f12 = some ⟨oc12, od12, .func (PySem.W.fnOf "_law_row" "_law_row" (defArgs st__law_row) (defBody st__law_row) (defScope st__law_row) .none kV12 dc12 pm12 an12 cd12 ct12), sl12⟩) (c12 : PySem.W.codeIn K cd12 "_law_row" = true) (k12 : PySem.W.keepIn K (.ref f12) = true)
    {f13 : Addr} {od13 an13 : Option Addr} {sl13 : Array (Option Value)} {oc13 kV13 dc13 pm13 cd13 ct13 : Value}
    (a13 : PySem.W.nsIn K mainGlobals "_law_peals" = some (some (.ref f13))) (l13 : K.lookup f13 = some ⟨oc13, od13, .func (PySem.W.fnOf "_law_peals" "_law_peals" (defArgs st__law_peals) (defBody st__law_peals) (defScope st__law_peals) .none kV13 dc13 pm13 an13 cd13 ct13), sl13⟩) (c13 : PySem.W.codeIn K cd13 "_law_peals" = true) (k13 : PySem.W.keepIn K (.ref f13) = true)
    {f14 : Addr} {od14 an14 : Option Addr} {sl14 : Array (Option Value)} {oc14 kV14 dc14 pm14 cd14 ct14 : Value}
    (a14 : PySem.W.nsIn K mainGlobals "_law_alike" = some (some (.ref f14))) (l14 : K.lookup f14 = some ⟨oc14, od14, .func (PySem.W.fnOf "_law_alike" "_law_alike" (defArgs st__law_alike) (defBody st__law_alike) (defScope st__law_alike) .none kV14 dc14 pm14 an14 cd14 ct14), sl14⟩) (c14 : PySem.W.codeIn K cd14 "_law_alike" = true) (k14 : PySem.W.keepIn K (.ref f14) = true)
    {f15 : Addr} {od15 an15 : Option Addr} {sl15 : Array (Option Value)} {oc15 kV15 dc15 pm15 cd15 ct15 : Value}
    (a15 : PySem.W.nsIn K mainGlobals "_law_boxes" = some (some (.ref f15))) (l15 : K.lookup f15 = some ⟨oc15, od15, .func (PySem.W.fnOf "_law_boxes" "_law_boxes" (defArgs st__law_boxes) (defBody st__law_boxes) (defScope st__law_boxes) .none kV15 dc15 pm15 an15 cd15 ct15), sl15⟩) (c15 : PySem.W.codeIn K cd15 "_law_boxes" = true) (k15 : PySem.W.keepIn K (.ref f15) = true)
    {f16 : Addr} {od16 an16 : Option Addr} {sl16 : Array (Option Value)} {oc16 kV16 dc16 pm16 cd16 ct16 : Value}
    (a16 : PySem.W.nsIn K mainGlobals "_law_both" = some (some (.ref f16))) (l16 : K.lookup f16 = some ⟨oc16, od16, .func (PySem.W.fnOf "_law_both" "_law_both" (defArgs st__law_both) (defBody st__law_both) (defScope st__law_both) .none kV16 dc16 pm16 an16 cd16 ct16), sl16⟩) (c16 : PySem.W.codeIn K cd16 "_law_both" = true) (k16 : PySem.W.keepIn K (.ref f16) = true)
    {f17 : Addr} {od17 an17 : Option Addr} {sl17 : Array (Option Value)} {oc17 kV17 dc17 pm17 cd17 ct17 : Value}
    (a17 : PySem.W.nsIn K mainGlobals "_law_readings" = some (some (.ref f17))) (l17 : K.lookup f17 = some ⟨oc17, od17, .func (PySem.W.fnOf "_law_readings" "_law_readings" (defArgs st__law_readings) (defBody st__law_readings) (defScope st__law_readings) .none kV17 dc17 pm17 an17 cd17 ct17), sl17⟩) (c17 : PySem.W.codeIn K cd17 "_law_readings" = true) (k17 : PySem.W.keepIn K (.ref f17) = true)
    {f18 : Addr} {od18 an18 : Option Addr} {sl18 : Array (Option Value)} {oc18 kV18 dc18 pm18 cd18 ct18 : Value}
    (a18 : PySem.W.nsIn K mainGlobals "_law_crowd" = some (some (.ref f18))) (l18 : K.lookup f18 = some ⟨oc18, od18, .func (PySem.W.fnOf "_law_crowd" "_law_crowd" (defArgs st__law_crowd) (defBody st__law_crowd) (defScope st__law_crowd) .none kV18 dc18 pm18 an18 cd18 ct18), sl18⟩) (c18 : PySem.W.codeIn K cd18 "_law_crowd" = true) (k18 : PySem.W.keepIn K (.ref f18) = true)
    {f19 : Addr} {od19 an19 : Option Addr} {sl19 : Array (Option Value)} {oc19 kV19 dc19 pm19 cd19 ct19 : Value}
    (a19 : PySem.W.nsIn K mainGlobals "law" = some (some (.ref f19))) (l19 : K.lookup f19 = some ⟨oc19, od19, .func (PySem.W.fnOf "law" "law" (defArgs st_law) (defBody st_law) (defScope st_law) .none kV19 dc19 pm19 an19 cd19 ct19), sl19⟩) (c19 : PySem.W.codeIn K cd19 "law" = true) (k19 : PySem.W.keepIn K (.ref f19) = true)
    (z_range : PySem.W.nsIn K mainGlobals "range" = some none)
    (z_isinstance : PySem.W.nsIn K mainGlobals "isinstance" = some none)
    (z_int : PySem.W.nsIn K mainGlobals "int" = some none)
    (z_bool : PySem.W.nsIn K mainGlobals "bool" = some none)
    (z_list : PySem.W.nsIn K mainGlobals "list" = some none)
    (z_len : PySem.W.nsIn K mainGlobals "len" = some none)
    (z_max : PySem.W.nsIn K mainGlobals "max" = some none)
    (z_min : PySem.W.nsIn K mainGlobals "min" = some none)
    (z_tuple : PySem.W.nsIn K mainGlobals "tuple" = some none)
    (z_enumerate : PySem.W.nsIn K mainGlobals "enumerate" = some none)
    (z_zip : PySem.W.nsIn K mainGlobals "zip" = some none)
    (z_abs : PySem.W.nsIn K mainGlobals "abs" = some none)
    (z_sorted : PySem.W.nsIn K mainGlobals "sorted" = some none)
    (z_all : PySem.W.nsIn K mainGlobals "all" = some none)
    : ∃ fd : FuncData, (∀ (s : Shared) (v : Value), BindsTo s fd ⟨[v], []⟩ [("script", v)]) ∧ ∀ base : Heap, K.In base → base.Ns mainGlobals mg → FnOk l.prog w K mg base CX0 8 fa fd ["script"] (spLaw K) := by
  have e := hfa.symm.trans (PySem.W.mg_of X G a19)
  cases e
  have D_box_of : Def K mg "box_of" st_box_of ["row", "late"] := ⟨f0, _, fun_mk l0 c0 k0, (fun_mk (st := st_box_of) l0 c0 k0).binds (ps := ["row", "late"]) (fun _ _ _ _ _ _ us hl => binds_len2 hl fun _ _ => rfl), PySem.W.mg_of X G a0⟩
  have D_can_come : Def K mg "can_come" st_can_come ["row", "reading", "late"] := ⟨f1, _, fun_mk l1 c1 k1, (fun_mk (st := st_can_come) l1 c1 k1).binds (ps := ["row", "reading", "late"]) (fun _ _ _ _ _ _ us hl => binds_len3 hl fun _ _ _ => rfl), PySem.W.mg_of X G a1⟩
  have D_alike : Def K mg "alike" st_alike ["one", "other", "late"] := ⟨f2, _, fun_mk l2 c2 k2, (fun_mk (st := st_alike) l2 c2 k2).binds (ps := ["one", "other", "late"]) (fun _ _ _ _ _ _ us hl => binds_len3 hl fun _ _ _ => rfl), PySem.W.mg_of X G a2⟩
  have D_reading_of_both : Def K mg "reading_of_both" st_reading_of_both ["one", "other", "late"] := ⟨f3, _, fun_mk l3 c3 k3, (fun_mk (st := st_reading_of_both) l3 c3 k3).binds (ps := ["one", "other", "late"]) (fun _ _ _ _ _ _ us hl => binds_len3 hl fun _ _ _ => rfl), PySem.W.mg_of X G a3⟩
  have D_peals_alike : Def K mg "peals_alike" st_peals_alike ["one", "other", "frames"] := ⟨f4, _, fun_mk l4 c4 k4, (fun_mk (st := st_peals_alike) l4 c4 k4).binds (ps := ["one", "other", "frames"]) (fun _ _ _ _ _ _ us hl => binds_len3 hl fun _ _ _ => rfl), PySem.W.mg_of X G a4⟩
  have D_peal_crowd : Def K mg "peal_crowd" st_peal_crowd ["peals", "frames"] := ⟨f5, _, fun_mk l5 c5 k5, (fun_mk (st := st_peal_crowd) l5 c5 k5).binds (ps := ["peals", "frames"]) (fun _ _ _ _ _ _ us hl => binds_len2 hl fun _ _ => rfl), PySem.W.mg_of X G a5⟩
  have D_boxes_of_peal : Def K mg "boxes_of_peal" st_boxes_of_peal ["peal", "frames"] := ⟨f6, _, fun_mk l6 c6 k6, (fun_mk (st := st_boxes_of_peal) l6 c6 k6).binds (ps := ["peal", "frames"]) (fun _ _ _ _ _ _ us hl => binds_len2 hl fun _ _ => rfl), PySem.W.mg_of X G a6⟩
  have D_hearing_of_both : Def K mg "hearing_of_both" st_hearing_of_both ["one", "other", "frames"] := ⟨f7, _, fun_mk l7 c7 k7, (fun_mk (st := st_hearing_of_both) l7 c7 k7).binds (ps := ["one", "other", "frames"]) (fun _ _ _ _ _ _ us hl => binds_len3 hl fun _ _ _ => rfl), PySem.W.mg_of X G a7⟩
  have D__law_cell_at : Def K mg "_law_cell_at" st__law_cell_at ["script", "k"] := ⟨f8, _, fun_mk l8 c8 k8, (fun_mk (st := st__law_cell_at) l8 c8 k8).binds (ps := ["script", "k"]) (fun _ _ _ _ _ _ us hl => binds_len2 hl fun _ _ => rfl), PySem.W.mg_of X G a8⟩
  have D__law_stir : Def K mg "_law_stir" st__law_stir ["cell", "k"] := ⟨f9, _, fun_mk l9 c9 k9, (fun_mk (st := st__law_stir) l9 c9 k9).binds (ps := ["cell", "k"]) (fun _ _ _ _ _ _ us hl => binds_len2 hl fun _ _ => rfl), PySem.W.mg_of X G a9⟩
  have D__law_drawn : Def K mg "_law_drawn" st__law_drawn ["cell", "sizes"] := ⟨f10, _, fun_mk l10 c10 k10, (fun_mk (st := st__law_drawn) l10 c10 k10).binds (ps := ["cell", "sizes"]) (fun _ _ _ _ _ _ us hl => binds_len2 hl fun _ _ => rfl), PySem.W.mg_of X G a10⟩
  have D__law_frames : Def K mg "_law_frames" st__law_frames ["script"] := ⟨f11, _, fun_mk l11 c11 k11, (fun_mk (st := st__law_frames) l11 c11 k11).binds (ps := ["script"]) (fun _ _ _ _ _ _ us hl => binds_len1 hl fun _ => rfl), PySem.W.mg_of X G a11⟩
  have D__law_row : Def K mg "_law_row" st__law_row ["cell", "rope", "frame"] := ⟨f12, _, fun_mk l12 c12 k12, (fun_mk (st := st__law_row) l12 c12 k12).binds (ps := ["cell", "rope", "frame"]) (fun _ _ _ _ _ _ us hl => binds_len3 hl fun _ _ _ => rfl), PySem.W.mg_of X G a12⟩
  have D__law_peals : Def K mg "_law_peals" st__law_peals ["script", "frames"] := ⟨f13, _, fun_mk l13 c13 k13, (fun_mk (st := st__law_peals) l13 c13 k13).binds (ps := ["script", "frames"]) (fun _ _ _ _ _ _ us hl => binds_len2 hl fun _ _ => rfl), PySem.W.mg_of X G a13⟩
  have D__law_alike : Def K mg "_law_alike" st__law_alike ["one", "other", "frames"] := ⟨f14, _, fun_mk l14 c14 k14, (fun_mk (st := st__law_alike) l14 c14 k14).binds (ps := ["one", "other", "frames"]) (fun _ _ _ _ _ _ us hl => binds_len3 hl fun _ _ _ => rfl), PySem.W.mg_of X G a14⟩
  have D__law_boxes : Def K mg "_law_boxes" st__law_boxes ["peal", "frames"] := ⟨f15, _, fun_mk l15 c15 k15, (fun_mk (st := st__law_boxes) l15 c15 k15).binds (ps := ["peal", "frames"]) (fun _ _ _ _ _ _ us hl => binds_len2 hl fun _ _ => rfl), PySem.W.mg_of X G a15⟩
  have D__law_both : Def K mg "_law_both" st__law_both ["one", "other", "late", "found"] := ⟨f16, _, fun_mk l16 c16 k16, (fun_mk (st := st__law_both) l16 c16 k16).binds (ps := ["one", "other", "late", "found"]) (fun _ _ _ _ _ _ us hl => binds_len4 hl fun _ _ _ _ => rfl), PySem.W.mg_of X G a16⟩
  have D__law_readings : Def K mg "_law_readings" st__law_readings ["one", "other", "frames", "readings"] := ⟨f17, _, fun_mk l17 c17 k17, (fun_mk (st := st__law_readings) l17 c17 k17).binds (ps := ["one", "other", "frames", "readings"]) (fun _ _ _ _ _ _ us hl => binds_len4 hl fun _ _ _ _ => rfl), PySem.W.mg_of X G a17⟩
  have D__law_crowd : Def K mg "_law_crowd" st__law_crowd ["peals", "frames", "found"] := ⟨f18, _, fun_mk l18 c18 k18, (fun_mk (st := st__law_crowd) l18 c18 k18).binds (ps := ["peals", "frames", "found"]) (fun _ _ _ _ _ _ us hl => binds_len3 hl fun _ _ _ => rfl), PySem.W.mg_of X G a18⟩
  have T : Txt K mg := ⟨PySem.W.mg_none_of X G z_range, PySem.W.mg_none_of X G z_isinstance, PySem.W.mg_none_of X G z_int, PySem.W.mg_none_of X G z_bool, PySem.W.mg_none_of X G z_list, PySem.W.mg_none_of X G z_len, PySem.W.mg_none_of X G z_max, PySem.W.mg_none_of X G z_min, PySem.W.mg_none_of X G z_tuple, PySem.W.mg_none_of X G z_enumerate, PySem.W.mg_none_of X G z_zip, PySem.W.mg_none_of X G z_abs, PySem.W.mg_none_of X G z_sorted, PySem.W.mg_none_of X G z_all⟩
  exact ⟨PySem.W.fnOf "law" "law" (defArgs st_law) (defBody st_law) (defScope st_law) .none kV19 dc19 pm19 an19 cd19 ct19, fun s v => .of_eq rfl, fun base _ _ => ok_law (fun_mk l19 c19 k19) T D_box_of D_can_come D_alike D_reading_of_both D_peals_alike D_peal_crowd D_boxes_of_peal D_hearing_of_both D__law_cell_at D__law_stir D__law_drawn D__law_frames D__law_row D__law_peals D__law_alike D__law_boxes D__law_both D__law_readings D__law_crowd⟩
theorem walk {l : PySem.W.OpenLaw} {q : Program} {loose : List Str} {XP : (Str → Option Value) → Heap → Prop} {YP : World → Heap → Prop} {d : DefRec} {K : Params → PySem.W.Frag} (hn : l.most = some 63) (hdf : d.params.defaults = []) (hq : PyProof.Rows.importsNone q = true)
    (hY : ∀ (w : World) (h : Heap), YP w h → (K w.params).In h)
    (F : ∀ (w : World) (mg : Str → Option Value) (fa : Addr) (h : Heap), (K w.params).In h → h.Ns mainGlobals mg → mg d.name = some (.ref fa) →
      ∃ fd : FuncData, (∀ (s : Shared) (u : Value), BindsTo s fd ⟨[u], []⟩ [("script", u)]) ∧ ∀ base : Heap, (K w.params).In base → base.Ns mainGlobals mg → FnOk l.prog w (K w.params) mg base CX0 8 fa fd ["script"] (spLaw (K w.params))) :
    PySem.W.WalkO q loose XP YP l.row.toRowW d [] (fun f vs => PySem.call f vs) :=
  L2.walk_of (n := 63) (k := 8) (x := "script") (CX := fun _ => CX0) (sp := fun w => spLaw (K w.params)) hn (by decide) hdf hq ⟨rfl, by decide, by decide⟩ hY F (fun _ _ a ns hl hbt _ hS => ⟨a, ns, rfl, hS, hl, fun _ => rfl⟩) fun _ _ _ _ _ z => z
end Bw
open PySem PySem.W PyProof.Rows
set_option maxRecDepth 100000 in
set_option maxHeartbeats 0 in
theorem PySem.Challenge.cw_bellwrite_k89_peals_alike_and_crowds_holds : PySem.Challenge.rw_bellwrite_k89_peals_alike_and_crowds.Holds := by
  w_on; o_law; k_head; (case hw => w_witness2)
  k_fill
  refine Bw.walk (l := PySem.Challenge.rw_bellwrite_k89_peals_alike_and_crowds) rfl rfl (by decide +kernel) (fun w h Y => PySem.W.kIn_of Y) ?F
  case F =>
    intro w mg fa h KX G hmg
    refine' Bw.all_mk (l := PySem.Challenge.rw_bellwrite_k89_peals_alike_and_crowds) KX G hmg ?a0 ?l0 ?c0 ?k0 ?a1 ?l1 ?c1 ?k1 ?a2 ?l2 ?c2 ?k2 ?a3 ?l3 ?c3 ?k3 ?a4 ?l4 ?c4 ?k4 ?a5 ?l5 ?c5 ?k5 ?a6 ?l6 ?c6 ?k6 ?a7 ?l7 ?c7 ?k7 ?a8 ?l8 ?c8 ?k8 ?a9 ?l9 ?c9 ?k9 ?a10 ?l10 ?c10 ?k10 ?a11 ?l11 ?c11 ?k11 ?a12 ?l12 ?c12 ?k12 ?a13 ?l13 ?c13 ?k13 ?a14 ?l14 ?c14 ?k14 ?a15 ?l15 ?c15 ?k15 ?a16 ?l16 ?c16 ?k16 ?a17 ?l17 ?c17 ?k17 ?a18 ?l18 ?c18 ?k18 ?a19 ?l19 ?c19 ?k19 ?z_range ?z_isinstance ?z_int ?z_bool ?z_list ?z_len ?z_max ?z_min ?z_tuple ?z_enumerate ?z_zip ?z_abs ?z_sorted ?z_all
    (case a0 => k_is)
    (case l0 => k_is)
    (case c0 => k_is)
    (case k0 => k_is)
    (case a1 => k_is)
    (case l1 => k_is)
    (case c1 => k_is)
    (case k1 => k_is)
    (case a2 => k_is)
    (case l2 => k_is)
    (case c2 => k_is)
    (case k2 => k_is)
    (case a3 => k_is)
    (case l3 => k_is)
    (case c3 => k_is)
    (case k3 => k_is)
    (case a4 => k_is)
    (case l4 => k_is)
    (case c4 => k_is)
    (case k4 => k_is)
    (case a5 => k_is)
    (case l5 => k_is)
    (case c5 => k_is)
    (case k5 => k_is)
    (case a6 => k_is)
    (case l6 => k_is)
    (case c6 => k_is)
    (case k6 => k_is)
    (case a7 => k_is)
    (case l7 => k_is)
    (case c7 => k_is)
    (case k7 => k_is)
    (case a8 => k_is)
    (case l8 => k_is)
    (case c8 => k_is)
    (case k8 => k_is)
    (case a9 => k_is)
    (case l9 => k_is)
    (case c9 => k_is)
    (case k9 => k_is)
    (case a10 => k_is)
    (case l10 => k_is)
    (case c10 => k_is)
    (case k10 => k_is)
    (case a11 => k_is)
    (case l11 => k_is)
    (case c11 => k_is)
    (case k11 => k_is)
    (case a12 => k_is)
    (case l12 => k_is)
    (case c12 => k_is)
    (case k12 => k_is)
    (case a13 => k_is)
    (case l13 => k_is)
    (case c13 => k_is)
    (case k13 => k_is)
    (case a14 => k_is)
    (case l14 => k_is)
    (case c14 => k_is)
    (case k14 => k_is)
    (case a15 => k_is)
    (case l15 => k_is)
    (case c15 => k_is)
    (case k15 => k_is)
    (case a16 => k_is)
    (case l16 => k_is)
    (case c16 => k_is)
    (case k16 => k_is)
    (case a17 => k_is)
    (case l17 => k_is)
    (case c17 => k_is)
    (case k17 => k_is)
    (case a18 => k_is)
    (case l18 => k_is)
    (case c18 => k_is)
    (case k18 => k_is)
    (case a19 => k_is)
    (case l19 => k_is)
    (case c19 => k_is)
    (case k19 => k_is)
    (case z_range => k_is)
    (case z_isinstance => k_is)
    (case z_int => k_is)
    (case z_bool => k_is)
    (case z_list => k_is)
    (case z_len => k_is)
    (case z_max => k_is)
    (case z_min => k_is)
    (case z_tuple => k_is)
    (case z_enumerate => k_is)
    (case z_zip => k_is)
    (case z_abs => k_is)
    (case z_sorted => k_is)
    (case z_all => k_is)