import PyProof.Rows.All
import Wide.All
import OpenK.AllK
import Wide.FinOn
import Lean
import PyProof.EqAt
import PyProof.EqKinds
import PyProof.TupleCall
import KE.IntBitsLaws
import PySem.Challenge.RW_bellwrite_k88_no_peal_no_hearing
set_option Elab.async false
set_option linter.all false
set_option maxRecDepth 100000
set_option maxHeartbeats 4000000
namespace L2
open PySem PySem.Spec PyProof.Rows
abbrev Key := Sum Int Str
def keyIs : Key → Value → Bool
  | .inl k, v => Value.isInt k v
  | .inr x, v => Value.isStrOf x v
def keyH (w : World) : Key → Int
  | .inl k => hashInt k
  | .inr x => hashStr w x
theorem keyIs_shape : ∀ {k : Key} {v : Value}, keyIs k v = true → (∃ i t, k = Sum.inl i ∧ v = Value.int i t) ∨ (∃ x t, k = Sum.inr x ∧ v = Value.str x t)
  | .inl i, v, h => by
    obtain ⟨t, e⟩ := Value.isInt_shape (k := i) (v := v) h
    exact .inl ⟨i, t, rfl, e⟩
  | .inr x, v, h => by
    obtain ⟨t, e⟩ := Value.isStrOf_shape (x := x) (v := v) h
    exact .inr ⟨x, t, rfl, e⟩
theorem key_ll (a b : Int) : decide ((Sum.inl a : Key) = Sum.inl b) = (a == b) := by
  by_cases e : a = b
  · subst e; simp
  · have h : ¬ (Sum.inl a : Key) = Sum.inl b := fun q => e (Sum.inl.inj q)
    rw [decide_eq_false h]
    exact (beq_eq_false_iff_ne.mpr e).symm
theorem key_rr (a b : Str) : decide ((Sum.inr a : Key) = Sum.inr b) = decide (a = b) := by
  by_cases e : a = b
  · subst e; simp
  · have h : ¬ (Sum.inr a : Key) = Sum.inr b := fun q => e (Sum.inr.inj q)
    rw [decide_eq_false h, decide_eq_false e]
theorem key_lr (a : Int) (b : Str) : decide ((Sum.inl a : Key) = Sum.inr b) = false := decide_eq_false (fun q => nomatch q)
theorem key_rl (a : Str) (b : Int) : decide ((Sum.inr a : Key) = Sum.inl b) = false := decide_eq_false (fun q => nomatch q)
def mixKind (prog : Program) (w : World) : PySem.KeyKind prog w Key where
  is := keyIs
  hash := keyH w
  inj := fun v a b ha hb => by
    rcases keyIs_shape ha with ⟨i, t, rfl, rfl⟩ | ⟨x, t, rfl, rfl⟩
    · rcases keyIs_shape hb with ⟨j, u, rfl, e⟩ | ⟨y, u, rfl, e⟩
      · injection e with e1 _; rw [e1]
      · exact nomatch e
    · rcases keyIs_shape hb with ⟨j, u, rfl, e⟩ | ⟨y, u, rfl, e⟩
      · exact nomatch e
      · injection e with e1 _; rw [e1]
  byValue := fun k v h => by
    rcases keyIs_shape h with ⟨i, t, rfl, rfl⟩ | ⟨x, t, rfl, rfl⟩ <;> rfl
  pyHash := fun hv h => by
    rcases keyIs_shape hv with ⟨i, t, rfl, rfl⟩ | ⟨x, t, rfl, rfl⟩
    · exact wpAny_pyHash_int h
    · exact wpAny_pyHash_str h
  eqBool := fun hu hv h => by
    rcases keyIs_shape hu with ⟨i, t, rfl, rfl⟩ | ⟨x, t, rfl, rfl⟩
    · rcases keyIs_shape hv with ⟨j, u, rfl, rfl⟩ | ⟨y, u, rfl, rfl⟩
      · rw [key_ll] at h; exact wpAny_eqBool_int h
      · rw [key_lr] at h; exact SeqAt.EqAt.int_str i t y u _ _ _ _ h
    · rcases keyIs_shape hv with ⟨j, u, rfl, rfl⟩ | ⟨y, u, rfl, rfl⟩
      · rw [key_rl] at h; exact SeqAt.EqAt.str_int x t j u _ _ _ _ h
      · rw [key_rr] at h; exact wpAny_eqBool_str h
  «strs» := fun k x t v h => by
    rcases keyIs_shape h with ⟨i, u, rfl, e⟩ | ⟨y, u, rfl, e⟩
    · exact nomatch e
    · injection e with e1 _
      subst e1
      cases v <;> rfl
end L2
namespace L2
open PySem PySem.Spec PyProof.Rows
inductive V where
  | non | bl (b : Bool) | int (i : Int) | str (x : Str) | byt (b : Array UInt8) | flt (b : UInt64) | ref (a : Addr) | ty (n : String)
  deriving DecidableEq
def RelV : V → Value → Prop
  | .non, u => u = Value.none
  | .bl b, u => u = Value.bool b
  | .int i, u => ∃ t, u = Value.int i t
  | .str x, u => ∃ t, u = Value.str x t
  | .byt b, u => ∃ t, u = Value.bytes b t
  | .flt b, u => ∃ t, u = Value.float b t
  | .ref a, u => u = Value.ref a
  | .ty n, u => u = Value.type n
abbrev Vals : List V → List Value → Prop := Paired RelV
theorem Vals.length {xs : List V} {us : List Value} (r : Vals xs us) : xs.length = us.length := Paired.length r
theorem Vals.get : ∀ {xs : List V} {us : List Value} {i : Nat} {x : V}, Vals xs us → xs[i]? = some x → ∃ u, us[i]? = some u ∧ RelV x u
  | _, _, _, _, .nil, e => by simp at e
  | _, _, 0, _, .cons r _, e => by simp at e; subst e; exact ⟨_, rfl, r⟩
  | _, _, i + 1, x, .cons _ t, e => by
    obtain ⟨u, h1, h2⟩ := Vals.get (i := i) (x := x) t (by simpa using e)
    exact ⟨u, by simpa using h1, h2⟩
theorem Vals.set {x : V} {u : Value} (r : RelV x u) : ∀ {xs : List V} {us : List Value} (i : Nat), Vals xs us → Vals (xs.set i x) (us.set i u)
  | _, _, _, .nil => .nil
  | _, _, 0, .cons _ t => .cons r t
  | _, _, i + 1, .cons q t => .cons q (Vals.set r i t)
theorem Vals.append : ∀ {xs ys : List V} {us ws : List Value}, Vals xs us → Vals ys ws → Vals (xs ++ ys) (us ++ ws)
  | _, _, _, _, .nil, s => s
  | _, _, _, _, .cons r t, s => .cons r (Vals.append t s)
theorem Vals.take : ∀ {xs : List V} {us : List Value} (n : Nat), Vals xs us → Vals (xs.take n) (us.take n)
  | _, _, 0, _ => .nil
  | _, _, _ + 1, .nil => .nil
  | _, _, n + 1, .cons r t => .cons r (Vals.take n t)
theorem Vals.drop : ∀ {xs : List V} {us : List Value} (n : Nat), Vals xs us → Vals (xs.drop n) (us.drop n)
  | _, _, 0, r => r
  | _, _, _ + 1, .nil => .nil
  | _, _, n + 1, .cons _ t => Vals.drop n t
def RelO : Option V → Option Value → Prop
  | some v, some u => RelV v u
  | none, none => True
  | _, _ => False
def KV {κ : Type} : List (κ × V) → List (κ × Value) → Prop := Paired fun (p : κ × V) (q : κ × Value) => p.1 = q.1 ∧ RelV p.2 q.2
def kV : Key → V
  | .inl i => .int i
  | .inr x => .str x
inductive HO where
  | lst (xs : List V)
  | tup (xs : List V)
  | dK (kvs : List (Key × V)) | dT (kvs : List (List Key × V))
  | set (S : Int → Bool) (n : Nat)
  | ins (C dx : Addr) (fs : List (Str × V))
  | own (x : Addr)
  | xd (fs : List (Str × V))
  | met (f x : Addr)
  | rng (lo hi : Int)
  | frz (o : Obj) (u : HO)
  | tbl (ps : Array Value)
  | ext (φ : Heap → Prop)
abbrev Hp := Addr → Option HO
def upd (H : Hp) (a : Addr) (o : HO) : Hp := fun b => if b = a then some o else H b
theorem upd_same {H : Hp} {a : Addr} {o : HO} : upd H a o a = some o := by unfold upd; rw [if_pos rfl]
theorem upd_ne {H : Hp} {a b : Addr} {o : HO} (h : b ≠ a) : upd H a o b = H b := by unfold upd; rw [if_neg h]
theorem ne_of_none {H : Hp} {a b : Addr} {o : HO} (h : H a = some o) (h' : H b = none) : a ≠ b := by
  intro e; subst e; rw [h] at h'; cases h'
section
variable (P : Program) (w : World)
def ObjOk (H : Hp) (h : Heap) (a : Addr) : HO → Prop
  | .lst xs => xs.length ≤ sizeLine ∧ ∃ (its : List Value) (n : Nat), Vals xs its ∧ h.get? a = some { cls := .type "list", data := .seq its.toArray n }
  | .tup xs => xs.length ≤ sizeLine ∧ ∃ its : List Value, Vals xs its ∧ IsTup h a its.toArray
  | .dK kvs => kvs.length ≤ sizeLine ∧ (a == sysModules) = false ∧ ∃ vs, KV kvs vs ∧ h.DictOf (mixKind P w) a vs
  | .dT kvs => kvs.length ≤ sizeLine ∧ (a == sysModules) = false ∧ ∃ xs : List (List Key × Addr × Value),
      Paired (fun (p : List Key × V) (q : List Key × Addr × Value) => p.1 = q.1 ∧ H q.2.1 = some (.tup (p.1.map kV)) ∧ RelV p.2 q.2.2) kvs xs ∧
      ∃ o es ep, h.get? a = some o ∧ o.ExactDict ∧ o.data = .dict es ep ∧ es.toList = xs.map (entryOfKey (tupleKind (mixKind P w))) ∧ (xs.map (·.1)).Nodup
  | .set S n => h.SetOf (intKind P w) a S n
  | .ins C dx fs => H dx = some (.own a) ∧ fs.length ≤ 1000 ∧ dx ≠ a ∧ h.get? a = some (PySem.W.instObj C dx) ∧
      ∃ mA, h.Ns1 dx mA ∧ (∀ f, RelO (fs.lookup f) (mA f)) ∧ PySem.Within mA (fs.map (·.1))
  | .own _ => ∃ o, h.get? a = some o
  | .xd fs => ∃ mA, h.Ns1 a mA ∧ ∀ f, RelO (fs.lookup f) (mA f)
  | .rng lo hi => ∃ t u v, h.get? a = some { cls := .type "range", data := .fields #[.int lo t, .int hi u, .int 1 v] }
  | .frz o u => h.get? a = some o ∧ ObjOk H h a u
  | .tbl ps => h.get? a = some { cls := .none, data := .fields ps }
  | .met f x => h.get? a = some (PySem.W.methodObj (.ref f) (.ref x))
  | .ext φ => φ h ∧ (∃ o, h.get? a = some o) ∧ ∀ h1 h2 : Heap, φ h1 → (∀ o, h1.get? a = some o → h2.get? a = some o) → φ h2
def HOk (H : Hp) (h : Heap) : Prop := ∀ a o, H a = some o → ObjOk P w H h a o
end
section
variable {P : Program} {w : World} {H H' : Hp} {h h' : Heap} {a : Addr} {o : HO}
theorem ObjOk.lt (x : ObjOk P w H h a o) : a < h.objs.size := by
  cases o with
  | lst xs => obtain ⟨_, _, _, _, e⟩ := x; exact Heap.lt_size e
  | tup xs => obtain ⟨_, _, _, p⟩ := x; exact p.lt
  | dK kvs => obtain ⟨_, _, _, _, o, _, _, e, _⟩ := x; exact Heap.lt_size e
  | dT kvs => obtain ⟨_, _, _, _, o, _, _, e, _⟩ := x; exact Heap.lt_size e
  | set S n => obtain ⟨o, _, _, _, e, _⟩ := x; exact Heap.lt_size e
  | ins C dx fs => obtain ⟨_, _, _, e, _⟩ := x; exact Heap.lt_size e
  | own y => obtain ⟨_, e⟩ := x; exact Heap.lt_size e
  | xd fs => obtain ⟨_, ⟨_, _, _, e, _⟩, _⟩ := x; exact Heap.lt_size e
  | rng lo hi => obtain ⟨_, _, _, e⟩ := x; exact Heap.lt_size e
  | frz ob u => obtain ⟨e, _⟩ := x; exact Heap.lt_size e
  | tbl ps => exact Heap.lt_size (show h.get? a = some _ from x)
  | met f y => exact Heap.lt_size (show h.get? a = some _ from x)
  | ext φ => obtain ⟨_, ⟨_, e⟩, _⟩ := x; exact Heap.lt_size e
theorem Paired.mapP {α β : Type} {F G : α → β → Prop} : ∀ {l₁ : List α} {l₂ : List β}, Paired F l₁ l₂ → (∀ a b, F a b → G a b) → Paired G l₁ l₂
  | _, _, .nil, _ => .nil
  | _, _, .cons r t, f => .cons (f _ _ r) (Paired.mapP t f)
theorem ObjOk.stay (x : ObjOk P w H h a o) (k : ∀ b u, (b = a ∨ H b = some (.own a)) → h.get? b = some u → h'.get? b = some u)
    (ho : ∀ b, H b = some (.own a) → H' b = some (.own a)) (ht : ∀ b xs, H b = some (.tup xs) → H' b = some (.tup xs)) : ObjOk P w H' h' a o := by
  induction o with
  | lst xs => obtain ⟨z, its, n, r, e⟩ := x; exact ⟨z, its, n, r, k _ _ (.inl rfl) e⟩
  | tup xs => obtain ⟨z, its, r, ob, e, c⟩ := x; exact ⟨z, its, r, ob, k _ _ (.inl rfl) e, c⟩
  | dK kvs => obtain ⟨z, y, vs, r, ob, es, ep, e, c⟩ := x; exact ⟨z, y, vs, r, ob, es, ep, k _ _ (.inl rfl) e, c⟩
  | dT kvs =>
    obtain ⟨z, y, xs, r, ob, es, ep, e, c⟩ := x
    exact ⟨z, y, xs, Paired.mapP r fun p q z => ⟨z.1, ht _ _ z.2.1, z.2.2⟩, ob, es, ep, k _ _ (.inl rfl) e, c⟩
  | set S n => obtain ⟨ob, es, ep, t, e, c⟩ := x; exact ⟨ob, es, ep, t, k _ _ (.inl rfl) e, c⟩
  | ins C dx fs =>
    obtain ⟨d, z, ne, e, mA, ⟨od, es, ep, e2, c⟩, r⟩ := x
    exact ⟨ho _ d, z, ne, k _ _ (.inl rfl) e, mA, ⟨od, es, ep, k _ _ (.inr d) e2, c⟩, r⟩
  | own y => obtain ⟨ob, e⟩ := x; exact ⟨ob, k _ _ (.inl rfl) e⟩
  | xd fs => obtain ⟨mA, ⟨od, es, ep, e, c⟩, r⟩ := x; exact ⟨mA, ⟨od, es, ep, k _ _ (.inl rfl) e, c⟩, r⟩
  | rng lo hi => obtain ⟨t, u, v, e⟩ := x; exact ⟨t, u, v, k _ _ (.inl rfl) e⟩
  | frz ob u ih => obtain ⟨e, q⟩ := x; exact ⟨k _ _ (.inl rfl) e, ih q⟩
  | tbl ps =>
    have e : h.get? a = some { cls := .none, data := .fields ps } := x
    show h'.get? a = some { cls := .none, data := .fields ps }
    exact k a _ (.inl rfl) e
  | met f y =>
    have e : h.get? a = some (PySem.W.methodObj (.ref f) (.ref y)) := x
    show h'.get? a = some (PySem.W.methodObj (.ref f) (.ref y))
    exact k a _ (.inl rfl) e
  | ext φ => obtain ⟨p, ⟨o, e⟩, st⟩ := x; exact ⟨st _ _ p fun o q => k _ _ (.inl rfl) q, ⟨o, k _ _ (.inl rfl) e⟩, st⟩
theorem HOk.lt (x : HOk P w H h) (e : H a = some o) : a < h.objs.size := (x a o e).lt
theorem HOk.fresh (x : HOk P w H h) (e : h.objs.size ≤ a) : H a = none := by
  cases q : H a with
  | none => rfl
  | some u => exact absurd (Nat.lt_of_lt_of_le (x.lt q) e) (Nat.lt_irrefl _)
theorem HOk.kept (x : HOk P w H h) (k : ∀ b u, h.get? b = some u → h'.get? b = some u) : HOk P w H h' := fun a o e =>
  (x a o e).stay (fun b u _ q => k b u q) (fun _ q => q) fun _ _ q => q
theorem HOk.laid (x : HOk P w H h) (k : ∀ b u, h.get? b = some u → h'.get? b = some u) (hp : h.objs.size ≤ a) (new : ObjOk P w (upd H a o) h' a o) : HOk P w (upd H a o) h' := fun b u e => by
  have hn := x.fresh hp
  by_cases hb : b = a
  · subst hb; rw [upd_same] at e; cases e; exact new
  · rw [upd_ne hb] at e
    exact (x b u e).stay (fun c v _ q => k c v q) (fun c q => by rw [upd_ne (ne_of_none q hn)]; exact q) fun c xs q => by rw [upd_ne (ne_of_none q hn)]; exact q
end
def Rd (H : Hp) (a : Addr) (u : HO) : Prop := H a = some u ∨ ∃ o, H a = some (.frz o u)
theorem Rd.ok {P : Program} {w : World} {H : Hp} {h : Heap} {a : Addr} {u : HO} (r : Rd H a u) (x : HOk P w H h) : ObjOk P w H h a u := by
  rcases r with r | ⟨o, r⟩
  · exact x a u r
  · obtain ⟨_, q⟩ := x a _ r
    exact q
def Mut : Option HO → Prop
  | some (.lst _) => True
  | some (.dK _) => True
  | some (.dT _) => True
  | some (.set _ _) => True
  | some (.ins _ _ _) => True
  | some (.ext _) => True
  | _ => False
section
variable {P : Program} {w : World} {H : Hp} {h h' : Heap} {x e : Addr} {o' : HO}
theorem HOk.write (ok : HOk P w H h) (mu : Mut (H x)) (he : e = x ∨ H e = some (.own x)) (k : ∀ b u, b ≠ e → h.get? b = some u → h'.get? b = some u) (heo : ∃ u, h'.get? e = some u)
    (new : ObjOk P w (upd H x o') h' x o') : HOk P w (upd H x o') h' := fun b u q => by
  have nown : ∀ c y, H c = some (.own y) → c ≠ x := fun c y r z => by subst z; rw [r] at mu; exact mu
  have ntup : ∀ c xs, H c = some (.tup xs) → c ≠ x := fun c xs r z => by subst z; rw [r] at mu; exact mu
  by_cases hb : b = x
  · subst hb; rw [upd_same] at q; cases q; exact new
  · rw [upd_ne hb] at q
    by_cases hbe : b = e
    · have q' : H b = some (.own x) := by
        rcases he with z | z
        · exact absurd (hbe.trans z) hb
        · rw [hbe]; exact z
      rw [q] at q'; cases q'
      obtain ⟨v, hv⟩ := heo
      exact ⟨v, by rw [hbe]; exact hv⟩
    · refine (ok b u q).stay (fun c v hc r => k c v ?_ r) (fun c r => by rw [upd_ne (nown c b r)]; exact r) fun c xs r => by rw [upd_ne (ntup c xs r)]; exact r
      rcases hc with rfl | hc
      · exact hbe
      · rintro rfl
        rcases he with z | z
        · exact nown c b hc z
        · rw [hc] at z; cases z; exact hb rfl
end
structure Un (fs ex : List Addr) (H H' : Hp) (h h' : Heap) : Prop where
  keep : ∀ b o, h.get? b = some o → H b = none → b ∉ fs → b ∉ ex → h'.get? b = some o
  slot : ∀ b o, h.get? b = some o → H b = none → b ∈ fs → b ∉ ex → ∃ sl, h'.get? b = some { o with slots := sl }
  free : ∀ b o, h.get? b = some o → H b = none → b ∉ ex → H' b = none
  there : ∀ b o, h.get? b = some o → b ∉ ex → ∃ o', h'.get? b = some o'
  tups : ∀ b xs, H b = some (.tup xs) → H' b = some (.tup xs)
  frzs : ∀ b o u, H b = some (.frz o u) → H' b = some (.frz o u)
  tbls : ∀ b ps, H b = some (.tbl ps) → ∃ more, H' b = some (.tbl (ps ++ more))
section
variable {fs fs' ex ex' : List Addr} {H H1 H2 : Hp} {h h1 h2 h' : Heap} {a x e : Addr} {o : HO}
theorem Un.any (u : Un fs ex H H1 h h1) {b : Addr} {ob : Obj} (q : h.get? b = some ob) (n : H b = none) (hx : b ∉ ex) : ∃ sl, h1.get? b = some { ob with slots := sl } := by
  by_cases hb : b ∈ fs
  · exact u.slot b ob q n hb hx
  · exact ⟨ob.slots, u.keep b ob q n hb hx⟩
theorem Un.kept (k : ∀ b u, h.get? b = some u → h'.get? b = some u) : Un fs ex H H h h' :=
  ⟨fun b ob q _ _ _ => k b ob q, fun b ob q _ _ _ => ⟨ob.slots, k b ob q⟩, fun _ _ _ n _ => n, fun b ob q _ => ⟨ob, k b ob q⟩, fun _ _ q => q, fun _ _ _ q => q, fun _ ps q => ⟨#[], by rw [q]; simp⟩⟩
theorem Un.refl : Un fs ex H H h h := Un.kept fun _ _ q => q
theorem Un.laid (k : ∀ b u, h.get? b = some u → h'.get? b = some u) (hp : h.objs.size ≤ a) (hn : H a = none) : Un fs ex H (upd H a o) h h' where
  keep := fun b u q _ _ _ => k b u q
  slot := fun b u q _ _ _ => ⟨u.slots, k b u q⟩
  free := fun b u q n _ => by rw [upd_ne (Nat.ne_of_lt (Nat.lt_of_lt_of_le (Heap.lt_size q) hp))]; exact n
  there := fun b u q _ => ⟨u, k b u q⟩
  tups := fun b xs q => by rw [upd_ne (ne_of_none q hn)]; exact q
  frzs := fun b u xs q => by rw [upd_ne (ne_of_none q hn)]; exact q
  tbls := fun b ps q => ⟨#[], by rw [upd_ne (ne_of_none q hn), q]; simp⟩
theorem Un.write (mu : Mut (H x)) (he : e = x ∨ H e = some (.own x)) (k : ∀ b u, b ≠ e → h.get? b = some u → h'.get? b = some u) (heo : ∃ u, h'.get? e = some u) : Un fs ex H (upd H x o) h h' := by
  have hx : ∀ b, H b = none → b ≠ x := fun b n z => by subst z; rw [n] at mu; exact mu
  have hb : ∀ b, H b = none → b ≠ e := fun b n z => by
    subst z
    rcases he with r | r
    · exact hx b n r
    · rw [n] at r; cases r
  have hm : ∀ b u, H b = some u → ¬ Mut (some u) → b ≠ x := fun b u q nm z => by subst z; rw [q] at mu; exact nm mu
  refine ⟨fun b u q n _ _ => k b u (hb b n) q, fun b u q n _ _ => ⟨u.slots, k b u (hb b n) q⟩, fun b u q n _ => by rw [upd_ne (hx b n)]; exact n, fun b u q _ => ?_,
    fun b xs q => by rw [upd_ne (hm b _ q fun z => z)]; exact q, fun b u xs q => by rw [upd_ne (hm b _ q fun z => z)]; exact q, fun b ps q => ⟨#[], by rw [upd_ne (hm b _ q fun z => z), q]; simp⟩⟩
  by_cases hbe : b = e
  · subst hbe; exact heo
  · exact ⟨u, k b u hbe q⟩
end
def trk (h : Heap) (H : Hp) : List Addr := (List.range h.objs.size).filter fun a => (H a).isSome
def hidT (h : Heap) (H : Hp) : Heap := PySem.W.hideAll h (trk h H)
theorem hidT_size (h : Heap) (H : Hp) : (hidT h H).objs.size = h.objs.size := PySem.W.hideAll_size _ _
theorem hidT_get {h : Heap} {H : Hp} {b : Addr} {o : Obj} (e : h.get? b = some o) (n : H b = none) : (hidT h H).get? b = some o :=
  PySem.W.hideAll_get _ e fun hm => by
    have q : (H b).isSome = true := (List.mem_filter.mp hm).2
    rw [n] at q; simp at q
theorem of_hidT {h : Heap} {H : Hp} {b : Addr} {o : Obj} (e : (hidT h H).get? b = some o) : h.get? b = some o ∧ H b = none := by
  have e' : h.get? b = some o := PySem.W.of_hideAll (trk h H) e
  refine ⟨e', ?_⟩
  cases q : H b with
  | none => rfl
  | some x =>
    have hm : b ∈ trk h H := List.mem_filter.mpr ⟨List.mem_range.mpr (Heap.lt_size e'), by simp [q]⟩
    have z : (hidT h H).get? b = none := PySem.W.hideAll_none (trk h H) hm
    rw [z] at e; cases e
end L2
namespace L2
open PySem PySem.Spec PyProof.Rows
structure Mod (K : PySem.W.Frag) (mg : Str → Option Value) (base : Heap) : Prop where
  kin : K.In base
  glob : base.Ns mainGlobals mg
  blt : ∃ mb, base.Ns builtinsNs mb ∧ ∀ x : Str, x ≠ "__name__" → mb x = bootBuiltins x
  nolimit : base.NoLimit
  seer : base.NoSeer
structure Cx where
  prog : Program
  w : World
  K : PySem.W.Frag
  mg : Str → Option Value
  base : Heap
  A : Around
  N : List Str
  s₀ : Shared
  H₀ : Hp
  env : Env
  outer : List Env
  stack : List Env
  ex : List Addr
  fn : Str → Bool
  calm : Bool
  pn : List (Addr × Obj)
  xe : Value → Shared → Prop
def frs (l : List Env) : List Addr := l.filterMap (·.frame)
abbrev Cx.fs (X : Cx) : List Addr := frs X.outer
def Vis (sc : Scope) (x : Str) : Prop := sc.names.lookup x = some .local ∨ sc.names.lookup x = some .cell ∨ sc.names.lookup x = some .free
def Loc (sc : Scope) (x : Str) : Prop := sc.names.lookup x = some .local ∨ sc.names.lookup x = some .cell
def Look (env : Env) (h : Heap) (m : Str → Option Value) (x : Str) (u : Value) : Prop :=
  (env.kindOf x = some .local ∧ m x = some u) ∨ ((env.kindOf x = some .cell ∨ env.kindOf x = some .free) ∧ ∃ c, env.cells.lookup x = some c ∧ h.IsCell c (some u))
structure Cx.Ok (X : Cx) : Prop where
  mod : Mod X.K X.mg X.base
  kind : X.env.scope.kind = .function
  glob : X.env.globals = mainGlobals
  blt : X.env.builtins = builtinsNs
  above : X.s₀.heap.objs.size ≤ X.env.locals
  inj : ∀ x y c, X.env.cells.lookup x = some c → X.env.cells.lookup y = some c → x = y
  has : ∀ x, (X.env.kindOf x = some .cell ∨ X.env.kindOf x = some .free) → ∃ c, X.env.cells.lookup x = some c
  cab : ∀ x c, X.fn x = true → X.env.cells.lookup x = some c → X.s₀.heap.objs.size ≤ c
  hd : X.calm = true → X.A.handled = none
  frames : X.A.frames = some X.stack
  stk : X.stack = X.outer ∨ (X.stack = X.env :: X.outer ∧ X.env.frame = some X.env.locals)
  exf : ∀ b ∈ X.ex, b ≠ X.env.locals ∧ ∀ x c, X.env.cells.lookup x = some c → c ≠ b
  bs : ∀ b o, X.base.get? b = some o → X.s₀.heap.get? b = some o ∧ X.H₀ b = none
  bsz : X.base.objs.size ≤ X.s₀.heap.objs.size
  noex : ∀ b o, X.base.get? b = some o → b ∉ X.ex
  exfs : ∀ b ∈ X.ex, b ∉ X.fs
  funs : X.s₀.heap.FunFrames X.base X.outer
  frf : ∀ b ∈ X.fs, X.H₀ b = none
structure Inv (X : Cx) (pins : List (Addr × Obj)) (σ : List (Option V)) (H : Hp) (s : Shared) : Prop where
  ok : X.Ok
  os : s.os = X.s₀.os
  bare : AllBare s.gens
  base : Un X.fs X.ex X.H₀ H X.s₀.heap s.heap
  loc : ∃ m, s.heap.Ns X.env.locals m ∧ ∀ (i : Nat) (x : Str) (v : V), X.N[i]? = some x → σ[i]? = some (some v) → Vis X.env.scope x → ∃ u, RelV v u ∧ Look X.env s.heap m x u
  cell : ∀ x c, X.env.cells.lookup x = some c → ∃ v, s.heap.IsCell c v
  free : H X.env.locals = none
  freeC : ∀ x c, X.env.cells.lookup x = some c → H c = none
  pin : ∀ p ∈ X.pn ++ pins, s.heap.get? p.1 = some p.2 ∧ H p.1 = none ∧ p.1 ≠ X.env.locals ∧ p.1 ∉ X.fs ∧ ∀ v, p.2.data ≠ .cell v
  hok : HOk X.prog X.w H s.heap
  len : σ.length = X.N.length
section
variable {X : Cx} {pins : List (Addr × Obj)} {σ : List (Option V)} {H H' : Hp} {s : Shared} {h' : Heap}
theorem Cx.Ok.nofr (ok : X.Ok) {b : Addr} {o : Obj} (e : X.base.get? b = some o) : b ∉ X.fs := fun hb => by
  have := (ok.funs.mem hb).1
  rw [e] at this; cases this
theorem Inv.bs (I : Inv X pins σ H s) : ∀ b o, X.base.get? b = some o → s.heap.get? b = some o ∧ H b = none := fun b o e =>
  ⟨I.base.keep b o (I.ok.bs b o e).1 (I.ok.bs b o e).2 (I.ok.nofr e) (I.ok.noex b o e), I.base.free b o (I.ok.bs b o e).1 (I.ok.bs b o e).2 (I.ok.noex b o e)⟩
theorem Inv.bk (I : Inv X pins σ H s) : ∀ b o, X.base.get? b = some o → s.heap.get? b = some o := fun b o e => (I.bs b o e).1
theorem Inv.mod (I : Inv X pins σ H s) : Mod X.K X.mg X.base := I.ok.mod
theorem Inv.kIn (I : Inv X pins σ H s) : X.K.In s.heap := I.ok.mod.kin.keeps I.bk
theorem Inv.nolimit (I : Inv X pins σ H s) : s.heap.NoLimit := I.ok.mod.nolimit.keeps I.bk
theorem Inv.lt (I : Inv X pins σ H s) : X.env.locals < s.heap.objs.size := let ⟨_, hn, _⟩ := I.loc; hn.lt
theorem Inv.sz (I : Inv X pins σ H s) : X.s₀.heap.objs.size ≤ s.heap.objs.size := Nat.le_trans I.ok.above (Nat.le_of_lt I.lt)
theorem Inv.nofs (I : Inv X pins σ H s) {a : Addr} (h : s.heap.objs.size ≤ a) : a ∉ X.fs := fun hb => by
  obtain ⟨_, o, ho, _⟩ := I.ok.funs.mem hb
  exact absurd (Nat.lt_of_lt_of_le (Heap.lt_size ho) (Nat.le_trans I.sz h)) (Nat.lt_irrefl _)
theorem Inv.cne (I : Inv X pins σ H s) : ∀ x c, X.env.cells.lookup x = some c → c ≠ X.env.locals := fun x c e z => by
  obtain ⟨v, o, ho, hd⟩ := I.cell x c e
  obtain ⟨m, ⟨o', es, ep, ho', hd', _⟩, _⟩ := I.loc
  rw [z, ho'] at ho; cases ho; rw [hd'] at hd; cases hd
theorem Inv.funs (I : Inv X pins σ H s) : s.heap.FunFrames X.base X.outer := by
  have all : ∀ (l : List Env), (∀ b ∈ frs l, b ∈ X.fs) → X.s₀.heap.FunFrames X.base l → s.heap.FunFrames X.base l := by
    intro l
    induction l with
    | nil => intro _ _; trivial
    | cons env r ih =>
      intro hs hl
      obtain ⟨hk, ⟨L, o, hf, hn, ho, hd⟩, hr⟩ := hl
      have hL : L ∈ X.fs := hs L (by unfold frs; rw [List.filterMap_cons, hf]; exact List.mem_cons_self)
      obtain ⟨sl, e⟩ := I.base.slot L o ho (I.ok.frf L hL) hL fun z => I.ok.exfs L z hL
      exact ⟨hk, ⟨L, _, hf, hn, e, hd⟩, ih (fun b hb => hs b (by unfold frs; rw [List.filterMap_cons, hf]; exact List.mem_cons_of_mem _ hb)) hr⟩
  exact all X.outer (fun _ hb => hb) I.ok.funs
theorem Inv.stack (I : Inv X pins σ H s) : s.heap.FunFrames X.base X.stack := by
  rcases I.ok.stk with e | ⟨e, hf⟩
  · rw [e]; exact I.funs
  · rw [e]
    obtain ⟨m, hn, _⟩ := I.loc
    refine .cons (by rw [I.ok.kind]; decide) hf hn ?_ I.funs
    exact Heap.get?_none_of_le (Nat.le_trans I.ok.bsz I.ok.above)
theorem Inv.stkSub (I : Inv X pins σ H s) : ∀ b ∈ frs X.stack, b ∈ X.env.locals :: X.fs := fun b hb => by
  rcases I.ok.stk with e | ⟨e, hf⟩
  · rw [e] at hb; exact List.mem_cons_of_mem _ hb
  · rw [e] at hb
    unfold frs at hb
    rw [List.filterMap_cons, hf] at hb
    exact hb
theorem Inv.stkFree (I : Inv X pins σ H s) : ∀ b ∈ frs X.stack, H b = none := fun b hb => by
  rcases List.mem_cons.mp (I.stkSub b hb) with e | hb
  · rw [e]; exact I.free
  · obtain ⟨_, o, ho, _⟩ := I.ok.funs.mem hb
    exact I.base.free b o ho (I.ok.frf b hb) fun z => I.ok.exfs b z hb
theorem Inv.step {g' : Array GenState} {t' : Nat} {d' : Drawn} {ch : List Addr} (I : Inv X pins σ H s)
    (hch : ∀ b ∈ ch, (b ∈ X.ex ∨ X.s₀.heap.objs.size ≤ b) ∧ b ≠ X.env.locals ∧ (∀ x c, X.env.cells.lookup x = some c → c ≠ b) ∧ ∀ p ∈ X.pn ++ pins, p.1 ≠ b)
    (keep : ∀ b o, b ≠ X.env.locals → b ∉ X.fs → b ∉ ch → s.heap.get? b = some o → H b = none → h'.get? b = some o)
    (slot : ∀ b o, b ≠ X.env.locals → b ∈ X.fs → b ∉ ch → s.heap.get? b = some o → H b = none → ∃ sl, h'.get? b = some { o with slots := sl }) (free : ∀ b o, b ∉ ch → s.heap.get? b = some o → H b = none → H' b = none)
    (there : ∀ b o, b ∉ ch → s.heap.get? b = some o → ∃ o', h'.get? b = some o')
    (tups : ∀ b xs, H b = some (.tup xs) → H' b = some (.tup xs)) (frzs : ∀ b o u, H b = some (.frz o u) → H' b = some (.frz o u)) (tbls : ∀ b ps, H b = some (.tbl ps) → ∃ more, H' b = some (.tbl (ps ++ more)))
    (ns : ∀ m, s.heap.Ns X.env.locals m → h'.Ns X.env.locals m) (hok : HOk X.prog X.w H' h') (hg : AllBare g') :
    Inv X pins σ H' { s with heap := h', gens := g', drawn := d', toks := t' } := by
  have neL : ∀ b o, X.s₀.heap.get? b = some o → b ≠ X.env.locals := fun b o e => Nat.ne_of_lt (Nat.lt_of_lt_of_le (Heap.lt_size e) I.ok.above)
  have neC : ∀ b o, X.s₀.heap.get? b = some o → b ∉ X.ex → b ∉ ch := fun b o e hx hb => by
    rcases (hch b hb).1 with z | z
    · exact hx z
    · exact absurd (Nat.lt_of_lt_of_le (Heap.lt_size e) z) (Nat.lt_irrefl _)
  have cellK : ∀ x c, X.env.cells.lookup x = some c → ∀ v, s.heap.IsCell c v → h'.IsCell c v := fun x c e v ⟨o, ho, hd⟩ => by
    have nch : c ∉ ch := fun z => (hch c z).2.2.1 x c e rfl
    by_cases hc : c ∈ X.fs
    · obtain ⟨sl, q⟩ := slot c o (I.cne x c e) hc nch ho (I.freeC x c e)
      exact ⟨_, q, hd⟩
    · exact ⟨o, keep c o (I.cne x c e) hc nch ho (I.freeC x c e), hd⟩
  refine ⟨I.ok, I.os, hg, ⟨fun b o e n hb hx => ?_, fun b o e n hb hx => ?_, fun b o e n hx => ?_, fun b o e hx => ?_, fun b xs e => tups b xs (I.base.tups b xs e), fun b o xs e => frzs b o xs (I.base.frzs b o xs e), fun b ps e => ?_⟩, ?_, fun x c e => ?_, ?_, fun x c e => ?_, fun p hp => ?_, hok, I.len⟩
  · exact keep b o (neL b o e) hb (neC b o e hx) (I.base.keep b o e n hb hx) (I.base.free b o e n hx)
  · obtain ⟨sl, e1⟩ := I.base.slot b o e n hb hx
    obtain ⟨sl', e2⟩ := slot b _ (neL b o e) hb (neC b o e hx) e1 (I.base.free b o e n hx)
    exact ⟨sl', e2⟩
  · obtain ⟨o', e1⟩ := I.base.there b o e hx
    exact free b o' (neC b o e hx) e1 (I.base.free b o e n hx)
  · obtain ⟨o', e1⟩ := I.base.there b o e hx
    exact there b o' (neC b o e hx) e1
  · obtain ⟨m1, e1⟩ := I.base.tbls b ps e
    obtain ⟨m2, e2⟩ := tbls b _ e1
    exact ⟨m1 ++ m2, by rw [e2, Array.append_assoc]⟩
  · obtain ⟨m, hn, hl⟩ := I.loc
    refine ⟨m, ns m hn, fun i x v e1 e2 e3 => ?_⟩
    obtain ⟨u, r, l⟩ := hl i x v e1 e2 e3
    refine ⟨u, r, ?_⟩
    rcases l with l | ⟨k, c, e, z⟩
    · exact .inl l
    · exact .inr ⟨k, c, e, cellK x c e _ z⟩
  · obtain ⟨v, z⟩ := I.cell x c e
    exact ⟨v, cellK x c e v z⟩
  · obtain ⟨m, ⟨o, _, _, ho, _⟩, _⟩ := I.loc
    exact free _ o (fun z => (hch _ z).2.1 rfl) ho I.free
  · obtain ⟨v, o, ho, hd⟩ := I.cell x c e
    exact free c o (fun z => (hch c z).2.2.1 x c e rfl) ho (I.freeC x c e)
  · obtain ⟨e, n, ne, nf, d⟩ := I.pin p hp
    have nch : p.1 ∉ ch := fun z => (hch p.1 z).2.2.2 p hp rfl
    exact ⟨keep p.1 p.2 ne nf nch e n, free p.1 p.2 nch e n, ne, nf, d⟩
theorem Inv.un {t' : Nat} (I : Inv X pins σ H s) (u : Un X.fs [] H H' s.heap h') (hok : HOk X.prog X.w H' h') : Inv X pins σ H' { s with heap := h', toks := t' } := by
  obtain ⟨m, ⟨o, es, ep, ho, r⟩, _⟩ := id I.loc
  obtain ⟨sl, hL⟩ := u.any ho I.free (by simp)
  exact I.step (g' := s.gens) (d' := s.drawn) (ch := []) (fun _ z => nomatch z) (fun b o _ hb _ e n => u.keep b o e n hb (by simp)) (fun b o _ hb _ e n => u.slot b o e n hb (by simp)) (fun b o _ e n => u.free b o e n (by simp)) (fun b o _ e => u.there b o e (by simp)) u.tups u.frzs u.tbls (fun m' hm => by
    obtain ⟨o', es', ep', ho', r'⟩ := hm
    rw [ho] at ho'; cases ho'
    exact ⟨_, es', ep', hL, r'⟩) hok I.bare
theorem Inv.call {g' : Array GenState} {t' : Nat} {d' : Drawn} {ch : List Addr} (I : Inv X pins σ H s) (u : Un (frs X.stack) ch H H' s.heap h') (hok : HOk X.prog X.w H' h') (hg : AllBare g')
    (hch : ∀ b ∈ ch, (b ∈ X.ex ∨ X.s₀.heap.objs.size ≤ b) ∧ b ≠ X.env.locals ∧ (∀ x c, X.env.cells.lookup x = some c → c ≠ b) ∧ ∀ p ∈ X.pn ++ pins, p.1 ≠ b) :
    Inv X pins σ H' { s with heap := h', gens := g', drawn := d', toks := t' } := by
  obtain ⟨m, ⟨o, es, ep, ho, r⟩, _⟩ := id I.loc
  obtain ⟨sl, hL⟩ := u.any ho I.free fun z => (hch _ z).2.1 rfl
  exact I.step (ch := ch) hch (fun b o hL hb hc e n => u.keep b o e n (fun z => (List.mem_cons.mp (I.stkSub b z)).elim hL hb) hc) (fun b o _ _ hc e n => u.any e n hc) (fun b o hc e n => u.free b o e n hc) (fun b o hc e => u.there b o e hc) u.tups u.frzs u.tbls (fun m' hm => by
    obtain ⟨o', es', ep', ho', r'⟩ := hm
    rw [ho] at ho'; cases ho'
    exact ⟨_, es', ep', hL, r'⟩) hok hg
theorem Inv.turned {t' : Nat} {it : Addr} (I : Inv X pins σ H s) (k : ∀ b o, b ≠ it → s.heap.get? b = some o → h'.get? b = some o) (hn : H it = none) (hL : it ≠ X.env.locals)
    (h1 : it ∈ X.ex ∨ X.s₀.heap.objs.size ≤ it) (h2 : ∀ x c, X.env.cells.lookup x = some c → c ≠ it) (h3 : ∀ p ∈ X.pn ++ pins, p.1 ≠ it) : Inv X pins σ H { s with heap := h', toks := t' } := by
  have nit : ∀ b u, H b = some u → b ≠ it := fun b u e z => by rw [z, hn] at e; cases e
  refine I.step (g' := s.gens) (d' := s.drawn) (ch := [it]) (fun b hb => ?_) (fun b o _ _ hc e _ => k b o (fun z => hc (by simp [z])) e) (fun b o _ _ hc e _ => ⟨o.slots, k b o (fun z => hc (by simp [z])) e⟩) (fun _ _ _ _ n => n)
    (fun b o hc e => ⟨o, k b o (fun z => hc (by simp [z])) e⟩) (fun _ _ e => e) (fun _ _ _ e => e) (fun b ps e => ⟨#[], by rw [e]; simp⟩) (fun m hm => ?_) (fun b u e => ?_) I.bare
  · have e : b = it := by simpa using hb
    subst e
    exact ⟨h1, hL, h2, h3⟩
  · obtain ⟨o, es, ep, ho, r⟩ := hm
    exact ⟨o, es, ep, k _ o (Ne.symm hL) ho, r⟩
  · refine (I.hok b u e).stay (fun c v hc q => k c v ?_ q) (fun _ q => q) fun _ _ q => q
    rcases hc with z | z
    · rw [z]; exact nit b u e
    · exact nit c _ z
theorem Inv.tok (I : Inv X pins σ H s) (t : Nat) : Inv X pins σ H { s with toks := t } := I.un (h' := s.heap) (t' := t) Un.refl I.hok
theorem Inv.kept {t' : Nat} (I : Inv X pins σ H s) (k : ∀ b u, s.heap.get? b = some u → h'.get? b = some u) : Inv X pins σ H { s with heap := h', toks := t' } := I.un (Un.kept k) (I.hok.kept k)
theorem Inv.laid {a : Addr} {o : HO} {t' : Nat} (I : Inv X pins σ H s) (k : ∀ b u, s.heap.get? b = some u → h'.get? b = some u) (hp : s.heap.objs.size ≤ a) (new : ObjOk X.prog X.w (upd H a o) h' a o) :
    Inv X pins σ (upd H a o) { s with heap := h', toks := t' } := I.un (Un.laid k hp (I.hok.fresh hp)) (I.hok.laid k hp new)
theorem Inv.write {x e : Addr} {o : HO} {t' : Nat} (I : Inv X pins σ H s) (mu : Mut (H x)) (he : e = x ∨ H e = some (.own x)) (k : ∀ b u, b ≠ e → s.heap.get? b = some u → h'.get? b = some u) (heo : ∃ u, h'.get? e = some u)
    (new : ObjOk X.prog X.w (upd H x o) h' x o) : Inv X pins σ (upd H x o) { s with heap := h', toks := t' } := I.un (Un.write mu he k heo) (I.hok.write mu he k heo new)
theorem Inv.weak {σ' : List (Option V)} (I : Inv X pins σ H s) (hl : σ'.length = σ.length) (w : ∀ (i : Nat) v, σ'[i]? = some (some v) → σ[i]? = some (some v)) : Inv X pins σ' H s :=
  ⟨I.ok, I.os, I.bare, I.base, let ⟨m, hn, hl'⟩ := I.loc; ⟨m, hn, fun i x v e1 e2 e3 => hl' i x v e1 (w i v e2) e3⟩, I.cell, I.free, I.freeC, I.pin, I.hok, hl.trans I.len⟩
theorem Inv.pins_of {pins' : List (Addr × Obj)} (I : Inv X pins σ H s) (h : ∀ p ∈ pins', s.heap.get? p.1 = some p.2 ∧ H p.1 = none ∧ p.1 ≠ X.env.locals ∧ p.1 ∉ X.fs ∧ ∀ v, p.2.data ≠ .cell v) : Inv X pins' σ H s :=
  ⟨I.ok, I.os, I.bare, I.base, I.loc, I.cell, I.free, I.freeC, fun p hp => (List.mem_append.mp hp).elim (fun z => I.pin p (List.mem_append_left _ z)) (h p), I.hok, I.len⟩
theorem nodup_ix {N : List Str} (hN : N.Nodup) {i j : Nat} {x : Str} (a : N[i]? = some x) (b : N[j]? = some x) : i = j := by
  obtain ⟨h1, e1⟩ := List.getElem?_eq_some_iff.mp a
  obtain ⟨h2, e2⟩ := List.getElem?_eq_some_iff.mp b
  exact (List.getElem_inj hN).mp (e1.trans e2.symm)
theorem store_ok2 {M : Model} {A : Around} {E : Value → Shared → Prop} {i : Nat} {x : Str} {v : V} {u : Value} {Q : Unit → Shared → Prop} (I : Inv X pins σ H s) (hN : X.N.Nodup) (hi : X.N[i]? = some x) (hx : Loc X.env.scope x) (r : RelV v u)
    (h : ∀ s', Inv X pins (σ.set i (some v)) H s' → (∃ a, Heap.SameBut a s.heap s'.heap ∧ (a = X.env.locals ∨ X.env.cells.lookup x = some a)) → Q () s') (hf : X.fn x = true ∨ X.env.scope.names.lookup x = some .local := by first | exact .inl rfl | exact .inr rfl | assumption) : wpAny M A (storeName X.env x u) Q E s := by
  obtain ⟨m, hn, hl⟩ := id I.loc
  have hcls : (X.env.scope.kind == .class || (X.env.scope.kind == .module && X.env.locals != X.env.globals)) = false := by rw [I.ok.kind]; rfl
  have hiσ : i < σ.length := by rw [I.len]; exact (List.getElem?_eq_some_iff.mp hi).1
  have cne := I.cne
  have tracked : ∀ {a : Addr} {h' : Heap}, (∃ o, s.heap.get? a = some o ∧ H a = none) → Heap.SameBut a s.heap h' → HOk X.prog X.w H h' := fun {a h'} ha hs b ob e => by
    obtain ⟨_, _, hfree⟩ := ha
    refine (I.hok b ob e).stay (fun c w' hc q => (hs.2 c ?_).trans q) (fun _ q => q) fun _ _ q => q
    rintro rfl
    rcases hc with rfl | hc
    · rw [hfree] at e; cases e
    · rw [hfree] at hc; cases hc
  rcases hx with hk | hk
  · refine wpAny_storeName_local hk hn (fun h' hn' hs => ?_) hcls
    obtain ⟨oL, _, _, hoL, _⟩ := id hn
    refine h _ ⟨I.ok, I.os, I.bare, ⟨fun b o e n hb hx => ?_, fun b o e n hb hx => ?_, I.base.free, fun b o e hx => ?_, I.base.tups, I.base.frzs, I.base.tbls⟩, ⟨_, hn', fun j y v' e1 e2 e3 => ?_⟩, fun y c e => ?_, I.free, I.freeC, fun p hp => ?_, tracked ⟨oL, hoL, I.free⟩ hs, by simpa using I.len⟩ ⟨_, hs, .inl rfl⟩
    · exact (hs.2 b (Nat.ne_of_lt (Nat.lt_of_lt_of_le (Heap.lt_size e) I.ok.above))).trans (I.base.keep b o e n hb hx)
    · obtain ⟨sl, e1⟩ := I.base.slot b o e n hb hx
      exact ⟨sl, (hs.2 b (Nat.ne_of_lt (Nat.lt_of_lt_of_le (Heap.lt_size e) I.ok.above))).trans e1⟩
    · obtain ⟨o', e1⟩ := I.base.there b o e hx
      exact ⟨o', (hs.2 b (Nat.ne_of_lt (Nat.lt_of_lt_of_le (Heap.lt_size e) I.ok.above))).trans e1⟩
    · by_cases hj : j = i
      · subst hj
        rw [hi] at e1; cases e1
        rw [List.getElem?_set_self hiσ] at e2
        cases e2
        exact ⟨u, r, .inl ⟨hk, by simp⟩⟩
      · rw [List.getElem?_set_ne (Ne.symm hj)] at e2
        obtain ⟨u', r', q⟩ := hl j y v' e1 e2 e3
        refine ⟨u', r', ?_⟩
        rcases q with ⟨k, e⟩ | ⟨k, c, e, z⟩
        · refine .inl ⟨k, ?_⟩
          have : y ≠ x := fun e => hj (nodup_ix hN e1 (e ▸ hi))
          simp [this, e]
        · exact .inr ⟨k, c, e, z.sameBut hs (cne y c e)⟩
    · obtain ⟨w', z⟩ := I.cell y c e
      exact ⟨w', z.sameBut hs (cne y c e)⟩
    · obtain ⟨e, n, ne, nf, d⟩ := I.pin p hp
      exact ⟨(hs.2 p.1 ne).trans e, n, ne, nf, d⟩
  · have hfn : X.fn x = true := by
      rcases hf with z | z
      · exact z
      · rw [z] at hk; cases hk
    obtain ⟨c, hc⟩ := I.ok.has x (.inl hk)
    obtain ⟨w', z⟩ := I.cell x c hc
    refine wpAny_storeName_cell I.ok.kind hk hc z (fun h' hc' hs => ?_)
    obtain ⟨oc, hoc, hocd⟩ := id z
    refine h { s with heap := h' } ⟨I.ok, I.os, I.bare, ⟨fun b o e n hb hx => ?_, fun b o e n hb hx => ?_, I.base.free, fun b o e hx => ?_, I.base.tups, I.base.frzs, I.base.tbls⟩, ⟨m, hn.sameBut hs (Ne.symm (cne x c hc)), fun j y v' e1 e2 e3 => ?_⟩, fun y c' e => ?_, I.free, I.freeC, fun p hp => ?_, tracked ⟨oc, hoc, I.freeC x c hc⟩ hs, by simpa using I.len⟩ ⟨c, hs, .inr hc⟩
    · exact (hs.2 b (Nat.ne_of_lt (Nat.lt_of_lt_of_le (Heap.lt_size e) (I.ok.cab x c hfn hc)))).trans (I.base.keep b o e n hb hx)
    · obtain ⟨sl, e1⟩ := I.base.slot b o e n hb hx
      exact ⟨sl, (hs.2 b (Nat.ne_of_lt (Nat.lt_of_lt_of_le (Heap.lt_size e) (I.ok.cab x c hfn hc)))).trans e1⟩
    · obtain ⟨o', e1⟩ := I.base.there b o e hx
      exact ⟨o', (hs.2 b (Nat.ne_of_lt (Nat.lt_of_lt_of_le (Heap.lt_size e) (I.ok.cab x c hfn hc)))).trans e1⟩
    · by_cases hj : j = i
      · subst hj
        rw [hi] at e1; cases e1
        rw [List.getElem?_set_self hiσ] at e2
        cases e2
        exact ⟨u, r, .inr ⟨.inl hk, c, hc, hc'⟩⟩
      · rw [List.getElem?_set_ne (Ne.symm hj)] at e2
        obtain ⟨u', r', q⟩ := hl j y v' e1 e2 e3
        refine ⟨u', r', ?_⟩
        rcases q with q | ⟨k, c', e, z'⟩
        · exact .inl q
        · refine .inr ⟨k, c', e, z'.sameBut hs ?_⟩
          rintro rfl
          exact hj (nodup_ix hN e1 (I.ok.inj _ _ _ e hc ▸ hi))
    · by_cases hcc : c' = c
      · subst hcc; exact ⟨_, hc'⟩
      · obtain ⟨w2, z2⟩ := I.cell y c' e
        exact ⟨w2, z2.sameBut hs hcc⟩
    · obtain ⟨e, n, ne, nf, d⟩ := I.pin p hp
      refine ⟨(hs.2 p.1 ?_).trans e, n, ne, nf, d⟩
      intro q
      rw [q, hoc] at e
      have q' : oc = p.2 := Option.some.inj e
      exact d w' (by rw [← q']; exact hocd)
theorem store_ok {M : Model} {A : Around} {E : Value → Shared → Prop} {i : Nat} {x : Str} {v : V} {u : Value} {Q : Unit → Shared → Prop} (I : Inv X pins σ H s) (hN : X.N.Nodup) (hi : X.N[i]? = some x) (hx : Loc X.env.scope x) (r : RelV v u)
    (h : ∀ s', Inv X pins (σ.set i (some v)) H s' → Q () s') (hf : X.fn x = true ∨ X.env.scope.names.lookup x = some .local := by first | exact .inl rfl | exact .inr rfl | assumption) : wpAny M A (storeName X.env x u) Q E s :=
  store_ok2 I hN hi hx r (fun s' I' _ => h s' I') hf
theorem Inv.call' {s' : Shared} {ch : List Addr} (I : Inv X pins σ H s) (ho : s'.os = s.os) (u : Un (frs X.stack) ch H H' s.heap s'.heap) (hok : HOk X.prog X.w H' s'.heap) (hg : AllBare s'.gens)
    (hch : ∀ b ∈ ch, (b ∈ X.ex ∨ X.s₀.heap.objs.size ≤ b) ∧ b ≠ X.env.locals ∧ (∀ x c, X.env.cells.lookup x = some c → c ≠ b) ∧ ∀ p ∈ X.pn ++ pins, p.1 ≠ b) : Inv X pins σ H' s' := by
  obtain ⟨h', g', d', t', o'⟩ := s'
  have e : o' = s.os := ho
  subst e
  exact I.call (g' := g') (t' := t') (d' := d') u hok hg hch
end
abbrev XK := Value → Option Addr → Hp → Prop
abbrev St := List (Option V)
abbrev VK := V → Hp → Prop
abbrev TE := St → Hp → VK → Prop
abbrev TT := St → Hp → (Bool → Hp → Prop) → Prop
abbrev TA := St → Hp → (List V → Hp → Prop) → Prop
structure Ends where
  nx : St → Hp → Prop
  rt : VK
  bk : St → Hp → Prop := fun _ _ => False
  ct : St → Hp → Prop := fun _ _ => False
abbrev TS := Ends → St → Hp → Prop
def EP (X : Cx) (pins : List (Addr × Obj)) (σ : St) (Q : VK) (u : Value) (s' : Shared) : Prop := ∃ v H', Inv X pins σ H' s' ∧ RelV v u ∧ Q v H'
def TP (X : Cx) (pins : List (Addr × Obj)) (σ : St) (Q : Bool → Hp → Prop) (b : Bool) (s' : Shared) : Prop := ∃ H', Inv X pins σ H' s' ∧ Q b H'
def AP (X : Cx) (pins : List (Addr × Obj)) (σ : St) (Q : List V → Hp → Prop) (us : List Value) (s' : Shared) : Prop := ∃ vs H', Inv X pins σ H' s' ∧ Vals vs us ∧ Q vs H'
def SP (X : Cx) (pins : List (Addr × Obj)) (D : Ends) (f : Flow) (s' : Shared) : Prop :=
  match f with
  | .next => ∃ σ' H', Inv X pins σ' H' s' ∧ D.nx σ' H'
  | .brk => ∃ σ' H', Inv X pins σ' H' s' ∧ D.bk σ' H'
  | .cont => ∃ σ' H', Inv X pins σ' H' s' ∧ D.ct σ' H'
  | .ret u => ∃ v σ' H', Inv X pins σ' H' s' ∧ RelV v u ∧ D.rt v H'
def PE (X : Cx) (e : Expr) (t : TE) : Prop :=
  ∀ (pins : List (Addr × Obj)) (s : Shared) (σ : St) (H : Hp) (Q : VK), Inv X pins σ H s → t σ H Q → wpAny (model X.prog X.w) X.A (eval e X.env) (EP X pins σ Q) X.xe s
def PT (X : Cx) (e : Expr) (t : TT) : Prop :=
  ∀ (pins : List (Addr × Obj)) (s : Shared) (σ : St) (H : Hp) (Q : Bool → Hp → Prop), Inv X pins σ H s → t σ H Q → wpAny (model X.prog X.w) X.A (isTrue e X.env (eval e X.env)) (TP X pins σ Q) X.xe s
def PW (X : Cx) (e : Expr) (t : TT) : Prop :=
  ∀ (whole : Sem Value) (pins : List (Addr × Obj)) (s : Shared) (σ : St) (H : Hp) (Q : Bool → Hp → Prop), Inv X pins σ H s → t σ H Q → wpAny (model X.prog X.w) X.A (isTrue e X.env whole) (TP X pins σ Q) X.xe s
theorem PW.pt {X : Cx} {e : Expr} {t : TT} (h : PW X e t) : PT X e t := h _
def PA (X : Cx) (es : List Expr) (t : TA) : Prop :=
  ∀ (pos : Pos) (pins : List (Addr × Obj)) (s : Shared) (σ : St) (H : Hp) (Q : List V → Hp → Prop), Inv X pins σ H s → t σ H Q → wpAny (model X.prog X.w) X.A (spliced (backTo pos (starEach es X.env))) (AP X pins σ Q) X.xe s
def PS (X : Cx) (st : Stmt) (t : TS) : Prop :=
  ∀ (pins : List (Addr × Obj)) (s : Shared) (σ : St) (H : Hp) (D : Ends), Inv X pins σ H s → t D σ H → wpAny (model X.prog X.w) X.A (exec st X.env) (SP X pins D) X.xe s
def PSs (X : Cx) (st : List Stmt) (t : TS) : Prop :=
  ∀ (pins : List (Addr × Obj)) (s : Shared) (σ : St) (H : Hp) (D : Ends), Inv X pins σ H s → t D σ H → wpAny (model X.prog X.w) X.A (execs st X.env) (SP X pins D) X.xe s
theorem thn {α : Type} {t : Sem α} {Q Q' : α → Shared → Prop} {M : Model} {A : Around} {E : Value → Shared → Prop} {s : Shared} (h : wpAny M A t Q E s) (hQ : ∀ a s, Q a s → Q' a s) : wpAny M A t Q' E s := wpAny_mono h hQ fun _ _ x => x
end L2
namespace L2
open PySem PySem.Spec PyProof.Rows
section
variable {X : Cx}
def tVar (i : Nat) : TE := fun σ H Q => ∃ v, σ[i]? = some (some v) ∧ Q v H
def tC (v : V) : TE := fun _ H Q => Q v H
theorem pe_var {i : Nat} {x : Str} {pos : Pos} (hN : X.N[i]? = some x) (hv : Vis X.env.scope x) (hd : (x == ("__debug__" : Str)) = false := by decide) (hcd : (x == ("__classdict__" : Str)) = false := by decide) : PE X (.Name x pos) (tVar i) := by
  intro pins s σ H Q I h
  obtain ⟨v, e, h⟩ := h
  obtain ⟨m, hn, hl⟩ := I.loc
  obtain ⟨u, r, l⟩ := hl i x v hN e hv
  have fin : EP X pins σ Q u s := ⟨v, H, I, r, h⟩
  rcases l with ⟨hk, hm⟩ | ⟨hk, c, hc, hcell⟩
  · exact wpAny_Name (wpAny_loadName_local I.ok.kind hk hn hm fin) hd
  · rcases hk with hk | hk
    · exact wpAny_Name (wpAny_loadName_cell I.ok.kind hk hc hcell fin) hd
    · exact wpAny_Name (wpAny_loadName_free I.ok.kind hk hc hcell fin hcd) hd
theorem pe_int {i j pos} : PE X (.Constant (.int i) j pos) (tC (.int i)) := fun _ _ _ H _ I h => wpAny_Constant_int ⟨.int i, H, I.tok _, ⟨_, rfl⟩, h⟩
theorem pe_bl {b j pos} : PE X (.Constant (.bool b) j pos) (tC (.bl b)) := fun _ _ _ H _ I h => Constant_bool ⟨.bl b, H, I, rfl, h⟩
theorem pe_str {x j pos} : PE X (.Constant (.str x) j pos) (tC (.str x)) := fun _ _ _ H _ I h => Calls.Constant_str ⟨.str x, H, I.tok _, ⟨_, rfl⟩, h⟩
def Gl (X : Cx) (x : Str) : Prop := X.env.kindOf x = some .globalImplicit
theorem ld_glob {E : Value → Shared → Prop} {pins : List (Addr × Obj)} {s : Shared} {σ : St} {H : Hp} {x : Str} {u : Value} {pos : Pos} {Q : Value → Shared → Prop} (I : Inv X pins σ H s) (hg : Gl X x) (hm : X.mg x = some u) (h : Q u s)
    (hd : (x == ("__debug__" : Str)) = false := by decide) : wpAny (model X.prog X.w) X.A (eval (.Name x pos) X.env) Q E s :=
  Calls.Name_function_global I.ok.kind hg (Calls.loadGlobal_global (by rw [I.ok.glob]; exact I.mod.glob.keeps I.bk) hm h) hd
theorem ld_blt {E : Value → Shared → Prop} {pins : List (Addr × Obj)} {s : Shared} {σ : St} {H : Hp} {x : Str} {u : Value} {pos : Pos} {Q : Value → Shared → Prop} (I : Inv X pins σ H s) (hg : Gl X x) (hm : X.mg x = none) (hv : bootBuiltins x = some u) (h : Q u s)
    (hn : x ≠ "__name__" := by decide) (hd : (x == ("__debug__" : Str)) = false := by decide) : wpAny (model X.prog X.w) X.A (eval (.Name x pos) X.env) Q E s := by
  obtain ⟨mb, h1, h2⟩ := I.mod.blt
  exact Calls.Name_function_global I.ok.kind hg (Calls.loadGlobal_builtin (by rw [I.ok.glob]; exact I.mod.glob.keeps I.bk) hm (by rw [I.ok.blt]; exact h1.keeps I.bk) ((h2 x hn).trans hv) h) hd
theorem pe_glob {x : Str} {v : V} {u : Value} {pos : Pos} (hg : Gl X x) (hm : X.mg x = some u) (r : RelV v u) (hd : (x == ("__debug__" : Str)) = false := by decide) : PE X (.Name x pos) (tC v) :=
  fun _ _ _ H _ I h => ld_glob I hg hm ⟨v, H, I, r, h⟩ hd
theorem pe_bltn {x : Str} {v : V} {u : Value} {pos : Pos} (hg : Gl X x) (hm : X.mg x = none) (hv : bootBuiltins x = some u) (r : RelV v u) (hn : x ≠ "__name__" := by decide) (hd : (x == ("__debug__" : Str)) = false := by decide) : PE X (.Name x pos) (tC v) :=
  fun _ _ _ H _ I h => ld_blt I hg hm hv ⟨v, H, I, r, h⟩ hn hd
variable {a b : Expr} {ta tb : TE} {pos : Pos}
def tB (t : TE) : TT := fun σ H Q => t σ H fun x H1 => ∃ c, x = .bl c ∧ Q c H1
theorem pt_val {e : Expr} {t : TE} (h : PE X e t) (he : ∀ whole, isTrue e X.env whole = (do let v ← whole; standAt e.pos; holding [v] (truthy v)) := by intro _; rfl) : PT X e (tB t) := by
  intro pins s σ H Q I hw
  refine isTrue_plain (thn (h pins s σ H _ I hw) fun v s1 ⟨x, H1, I1, r1, q1⟩ => ?_) (he _)
  obtain ⟨d, rfl, q⟩ := q1
  cases r1
  exact wpAny_truthy_bool ⟨H1, I1, q⟩
variable {tA tB' : TT} {rest : List Expr}
def tAnd (t u : TT) : TT := fun σ H Q => t σ H fun c H1 => if c = true then u σ H1 Q else Q false H1
def tOr (t u : TT) : TT := fun σ H Q => t σ H fun c H1 => if c = true then Q true H1 else u σ H1 Q
theorem pw_and1 (ha : PT X a tA) : PW X (.BoolOp .And [a] pos) tA := by
  intro wh pins s σ H Q I h
  refine isTrue_and (thn (ha pins s σ H Q I h) fun c s1 e => ?_)
  cases c with
  | true => exact isTrue_and_nil e
  | false => exact e
theorem pw_or1 (ha : PT X a tA) : PW X (.BoolOp .Or [a] pos) tA := by
  intro wh pins s σ H Q I h
  refine isTrue_or (thn (ha pins s σ H Q I h) fun c s1 e => ?_)
  cases c with
  | false => exact isTrue_or_nil e
  | true => exact e
theorem pw_and (ha : PT X a tA) (hb : PW X (.BoolOp .And (b :: rest) pos) tB') : PW X (.BoolOp .And (a :: b :: rest) pos) (tAnd tA tB') := by
  intro wh pins s σ H Q I h
  refine isTrue_and (thn (ha pins s σ H _ I h) fun c s1 ⟨H1, I1, q1⟩ => ?_)
  cases c with
  | true => exact hb wh pins s1 σ H1 Q I1 q1
  | false => exact ⟨H1, I1, q1⟩
theorem pw_or (ha : PT X a tA) (hb : PW X (.BoolOp .Or (b :: rest) pos) tB') : PW X (.BoolOp .Or (a :: b :: rest) pos) (tOr tA tB') := by
  intro wh pins s σ H Q I h
  refine isTrue_or (thn (ha pins s σ H _ I h) fun c s1 ⟨H1, I1, q1⟩ => ?_)
  cases c with
  | true => exact ⟨H1, I1, q1⟩
  | false => exact hb wh pins s1 σ H1 Q I1 q1
def tAndV (ta tb : TE) : TE := fun σ H Q => ta σ H fun x H1 => ∃ c, x = .bl c ∧ if c = true then tb σ H1 Q else Q (.bl false) H1
theorem pe_one {op} {t : TE} (h : PE X a t) : PE X (.BoolOp op [a] pos) t := fun pins s σ H Q I hw => BoolOp_one (h pins s σ H Q I hw)
theorem pe_and (ha : PE X a ta) (hb : PE X (.BoolOp .And (b :: rest) pos) tb) : PE X (.BoolOp .And (a :: b :: rest) pos) (tAndV ta tb) := by
  intro pins s σ H Q I h
  refine BoolOp_and (thn (ha pins s σ H _ I h) fun v s1 ⟨x, H1, I1, r1, q1⟩ => ?_)
  obtain ⟨c, rfl, q1⟩ := q1
  cases r1
  refine wpAny_truthy_bool ?_
  cases c with
  | true => exact hb pins s1 σ H1 Q I1 q1
  | false => exact ⟨.bl false, H1, I1, rfl, q1⟩
def tIf (t : TT) (ta tb : TE) : TE := fun σ H Q => t σ H fun c H1 => if c = true then ta σ H1 Q else tb σ H1 Q
theorem pe_ifExp {c : Expr} (hc : PT X c tA) (ha : PE X a ta) (hb : PE X b tb) : PE X (.IfExp c a b pos) (tIf tA ta tb) := by
  intro pins s σ H Q I h
  refine wpAny_IfExp (thn (hc pins s σ H _ I h) fun d s1 ⟨H1, I1, q1⟩ => ?_)
  cases d with
  | true => exact ha pins s1 σ H1 Q I1 q1
  | false => exact hb pins s1 σ H1 Q I1 q1
end
end L2
namespace L2
open PySem PySem.Spec PyProof.Rows
def SqL (K : PySem.W.Frag) (H : Hp) (a : Addr) (xs : List V) : Prop :=
  Rd H a (.lst xs) ∨
    ∃ (o : Obj) (its : Array Value) (n : Nat), K.lookup a = some o ∧ o.cls = .type "list" ∧ o.dict = none ∧ o.data = .seq its n ∧ its.size ≤ sizeLine ∧ Vals xs its.toList
def SqT (K : PySem.W.Frag) (H : Hp) (a : Addr) (xs : List V) : Prop :=
  Rd H a (.tup xs) ∨
    ∃ (o : Obj) (its : Array Value) (n : Nat), K.lookup a = some o ∧ o.cls = .type "tuple" ∧ o.data = .seq its n ∧ its.size ≤ sizeLine ∧ Vals xs its.toList
def absV : Value → Option V
  | .none => some .non
  | .bool b => some (.bl b)
  | .int i _ => some (.int i)
  | .str x _ => some (.str x)
  | .bytes b _ => some (.byt b)
  | .float b _ => some (.flt b)
  | .ref a => some (.ref a)
  | .type n => some (.ty n)
  | _ => none
theorem RelV.abs {x : V} {u : Value} (r : RelV x u) : absV u = some x := by
  cases x with
  | non => cases r; rfl
  | bl _ => cases r; rfl
  | int _ => obtain ⟨t, rfl⟩ := r; rfl
  | str _ => obtain ⟨t, rfl⟩ := r; rfl
  | byt _ => obtain ⟨t, rfl⟩ := r; rfl
  | flt _ => obtain ⟨t, rfl⟩ := r; rfl
  | ref _ => cases r; rfl
  | ty _ => cases r; rfl
theorem RelV.inj {x y : V} {u : Value} (r : RelV x u) (q : RelV y u) : x = y := Option.some.inj (r.abs.symm.trans q.abs)
theorem Vals.inj : ∀ {xs ys : List V} {us : List Value}, Vals xs us → Vals ys us → xs = ys
  | _, _, _, .nil, .nil => rfl
  | _, _, _, .cons r t, .cons r' t' => by rw [r.inj r', Vals.inj t t']
section
variable {X : Cx} {pins : List (Addr × Obj)} {σ : St} {H : Hp} {s : Shared} {a : Addr} {xs ys : List V}
theorem SqL.of {K : PySem.W.Frag} (h : H a = some (.lst xs)) : SqL K H a xs := .inl (.inl h)
theorem SqT.of {K : PySem.W.Frag} (h : H a = some (.tup xs)) : SqT K H a xs := .inl (.inl h)
theorem Inv.list (I : Inv X pins σ H s) (h : SqL X.K H a xs) : ∃ its : List Value, Vals xs its ∧ PlainL s.heap a its.toArray ∧ xs.length ≤ sizeLine := by
  rcases h with h | ⟨o, its, n, hk, hc, hd, hs, hz, r⟩
  · obtain ⟨z, its, n, r, e⟩ := h.ok I.hok
    exact ⟨its, r, ⟨_, n, e, rfl, rfl, rfl⟩, z⟩
  · refine ⟨its.toList, r, ⟨o, n, I.kIn a o hk, hc, hd, by simpa using hs⟩, ?_⟩
    have e := r.length
    simp only [Array.length_toList] at e
    omega
theorem Inv.tuple (I : Inv X pins σ H s) (h : SqT X.K H a xs) : ∃ its : List Value, Vals xs its ∧ IsTup s.heap a its.toArray ∧ xs.length ≤ sizeLine := by
  rcases h with h | ⟨o, its, n, hk, hc, hs, hz, r⟩
  · obtain ⟨z, its, r, p⟩ := h.ok I.hok
    exact ⟨its, r, p, z⟩
  · refine ⟨its.toList, r, ⟨o, I.kIn a o hk, hc, n, by simpa using hs⟩, ?_⟩
    have e := r.length
    simp only [Array.length_toList] at e
    omega
theorem Inv.list_inj (I : Inv X pins σ H s) (h : SqL X.K H a xs) (h' : SqL X.K H a ys) : xs = ys := by
  obtain ⟨its, r, ⟨o, n, e, _, _, d⟩, _⟩ := I.list h
  obtain ⟨its', r', ⟨o', n', e', _, _, d'⟩, _⟩ := I.list h'
  rw [e] at e'; cases e'
  rw [d] at d'
  injection d' with d1 _
  have : its = its' := by simpa using congrArg Array.toList d1
  subst this
  exact r.inj r'
end
abbrev Cx.wish (X : Cx) (E : Value → Shared → Prop) : Cx := { X with xe := E }
abbrev Cx.nox (X : Cx) : Cx := X.wish fun _ _ => False
theorem Cx.Ok.wish {X : Cx} (ok : X.Ok) (E : Value → Shared → Prop) : (X.wish E).Ok :=
  ⟨ok.mod, ok.kind, ok.glob, ok.blt, ok.above, ok.inj, ok.has, ok.cab, ok.hd, ok.frames, ok.stk, ok.exf, ok.bs, ok.bsz, ok.noex, ok.exfs, ok.funs, ok.frf⟩
theorem Cx.Ok.unwish {X : Cx} {E : Value → Shared → Prop} (ok : (X.wish E).Ok) : X.Ok :=
  ⟨ok.mod, ok.kind, ok.glob, ok.blt, ok.above, ok.inj, ok.has, ok.cab, ok.hd, ok.frames, ok.stk, ok.exf, ok.bs, ok.bsz, ok.noex, ok.exfs, ok.funs, ok.frf⟩
section
variable {X : Cx} {pins : List (Addr × Obj)} {σ : St} {H : Hp} {s : Shared} {E : Value → Shared → Prop}
theorem Inv.wish (I : Inv X pins σ H s) (E : Value → Shared → Prop) : Inv (X.wish E) pins σ H s := ⟨I.ok.wish E, I.os, I.bare, I.base, I.loc, I.cell, I.free, I.freeC, I.pin, I.hok, I.len⟩
theorem Inv.unwish (I : Inv (X.wish E) pins σ H s) : Inv X pins σ H s := ⟨I.ok.unwish, I.os, I.bare, I.base, I.loc, I.cell, I.free, I.freeC, I.pin, I.hok, I.len⟩
theorem SP.unwish {D : Ends} {f : Flow} {s' : Shared} (h : SP (X.wish E) pins D f s') : SP X pins D f s' := by
  cases f with
  | next => obtain ⟨σ', H', I, q⟩ := h; exact ⟨σ', H', I.unwish, q⟩
  | brk => obtain ⟨σ', H', I, q⟩ := h; exact ⟨σ', H', I.unwish, q⟩
  | cont => obtain ⟨σ', H', I, q⟩ := h; exact ⟨σ', H', I.unwish, q⟩
  | ret u => obtain ⟨v, σ', H', I, r, q⟩ := h; exact ⟨v, σ', H', I.unwish, r, q⟩
theorem PSs.nox {st : List Stmt} {t : TS} (h : PSs X.nox st t) : PSs X st t := fun pins s σ H D I hw =>
  wpAny_mono (h pins s σ H D (I.wish _) hw) (fun _ _ q => q.unwish) fun _ _ z => False.elim z
end
section
variable {X : Cx} {st : Stmt} {rest : List Stmt} {t u : TS} {e : Expr} {te : TE} {pos : Pos}
def tNext : TS := fun D σ H => D.nx σ H
def tSeq (t u : TS) : TS := fun D σ H => t { D with nx := u D } σ H
theorem pss_nil : PSs X [] tNext := fun _ _ σ H _ I h => wpAny_execs_nil ⟨σ, H, I, h⟩
theorem pss_cons (h1 : PS X st t) (h2 : PSs X rest u) : PSs X (st :: rest) (tSeq t u) := by
  intro pins s σ H D I h
  refine wpAny_execs_cons (thn (h1 pins s σ H { D with nx := u D } I h) fun f s1 q => ?_)
  cases f with
  | next =>
    obtain ⟨σ', H', I', q⟩ := q
    exact h2 pins s1 σ' H' D I' q
  | ret v => exact q
  | brk => exact q
  | cont => exact q
theorem pss_one (h1 : PS X st t) : PSs X [st] t := by
  intro pins s σ H D I h
  refine wpAny_execs_cons (thn (h1 pins s σ H D I h) fun f s1 q => ?_)
  cases f with
  | next => exact wpAny_execs_nil q
  | ret v => exact q
  | brk => exact q
  | cont => exact q
theorem Inv.quiet {pins : List (Addr × Obj)} {σ : St} {H : Hp} {s : Shared} (I : Inv X pins σ H s) : interactive X.env = false := by simp [interactive, I.ok.kind]
def tDrop (te : TE) : TS := fun D σ H => te σ H fun _ H1 => D.nx σ H1
theorem ps_expr (he : PE X e te) (hs : swapsWith e none pos.line X.env = pure false := by rfl) : PS X (.Expr e pos) (tDrop te) := by
  intro pins s σ H D I h
  exact wpAny_Expr_any (thn (he pins s σ H _ I h) fun v s1 ⟨x, H1, I1, r1, q1⟩ => ⟨σ, H1, I1, q1⟩) I.quiet hs
def tRet (te : TE) : TS := fun D σ H => te σ H D.rt
theorem ps_ret (he : PE X e te) : PS X (.Return (some e) pos) (tRet te) := by
  intro pins s σ H D I h
  exact wpAny_Return_some (thn (he pins s σ H _ I h) fun v s1 ⟨x, H1, I1, r1, q1⟩ => ⟨x, σ, H1, I1, r1, q1⟩)
def tIfS (c : TT) (t u : TS) : TS := fun D σ H => c σ H fun b H1 => if b = true then t D σ H1 else u D σ H1
theorem ps_if {c : Expr} {a b : List Stmt} {tc : TT} (hc : PT X c tc) (ha : PSs X a t) (hb : PSs X b u) : PS X (.If c a b pos) (tIfS tc t u) := by
  intro pins s σ H D I h
  refine wpAny_If (thn (hc pins s σ H _ I h) fun d s1 ⟨H1, I1, q1⟩ => ?_)
  cases d with
  | true => exact ha pins s1 σ H1 D I1 q1
  | false => exact hb pins s1 σ H1 D I1 q1
def tNever : TS := fun _ _ _ => False
theorem ps_never : PS X st tNever := fun _ _ _ _ _ _ h => h.elim
end
abbrev TG := V → St → Hp → (St → Hp → Prop) → Prop
abbrev TGs := List V → St → Hp → (St → Hp → Prop) → Prop
def PG (X : Cx) (target : Expr) (t : TG) : Prop :=
  ∀ (pins : List (Addr × Obj)) (s : Shared) (σ : St) (H : Hp) (v : V) (u : Value) (Q : St → Hp → Prop), Inv X pins σ H s → RelV v u → t v σ H Q →
    wpAny (model X.prog X.w) X.A (assign target X.env u) (fun _ s' => ∃ σ' H', Inv X pins σ' H' s' ∧ Q σ' H') X.xe s
def PGs (X : Cx) (ts : List Expr) (t : TGs) : Prop :=
  ∀ (pins : List (Addr × Obj)) (s : Shared) (σ : St) (H : Hp) (vs : List V) (us : List Value) (Q : St → Hp → Prop), Inv X pins σ H s → Vals vs us → t vs σ H Q →
    wpAny (model X.prog X.w) X.A (assignInOrder ((assignEach ts X.env).map (·.2)) us) (fun _ s' => ∃ σ' H', Inv X pins σ' H' s' ∧ Q σ' H') X.xe s
abbrev TSet := V → V → V → Hp → (Hp → Prop) → Prop
def PSet (X : Cx) (t : TSet) : Prop :=
  ∀ (pins : List (Addr × Obj)) (s : Shared) (σ : St) (H : Hp) (o i v : V) (ov iv u : Value) (Q : Hp → Prop), Inv X pins σ H s → RelV o ov → RelV i iv → RelV v u → t o i v H Q →
    wpAny (model X.prog X.w) X.A (setItem ov iv u) (fun _ s' => ∃ H', Inv X pins σ H' s' ∧ Q H') X.xe s
section
variable {X : Cx} {pos : Pos}
def gName (i : Nat) : TG := fun v σ H Q => Q (σ.set i (some v)) H
theorem pg_name {i : Nat} {x : Str} (hN : X.N.Nodup) (hi : X.N[i]? = some x) (hx : Loc X.env.scope x) (hf : X.fn x = true ∨ X.env.scope.names.lookup x = some .local := by first | exact .inl rfl | exact .inr rfl | assumption) : PG X (.Name x pos) (gName i) := by
  intro pins s σ H v u Q I r h
  exact wpAny_assign_Name (store_ok I hN hi hx r (fun s' I' => ⟨_, H, I', h⟩) hf)
def gNil : TGs := fun vs σ H Q => vs = [] ∧ Q σ H
def gCons (t : TG) (u : TGs) : TGs := fun vs σ H Q => ∃ v r, vs = v :: r ∧ t v σ H fun σ' H' => u r σ' H' Q
theorem pgs_nil : PGs X [] gNil := by
  intro pins s σ H vs us Q I r h
  obtain ⟨e, h⟩ := h
  subst e
  cases r
  exact assignInOrder_nil ⟨σ, H, I, h⟩
theorem pgs_cons {e : Expr} {es : List Expr} {t : TG} {u : TGs} (h1 : PG X e t) (h2 : PGs X es u)
    (hs : (assignEach (e :: es) X.env).map (·.2) = assign e X.env :: (assignEach es X.env).map (·.2) := by rfl) : PGs X (e :: es) (gCons t u) := by
  intro pins s σ H vs us Q I r h
  obtain ⟨v, vr, e1, h⟩ := h
  subst e1
  cases r with
  | cons r rr =>
    rw [hs]
    refine assignInOrder_cons (thn (h1 pins s σ H _ _ _ I r h) fun _ s1 ⟨σ1, H1, I1, q1⟩ => ?_)
    exact h2 pins s1 σ1 H1 _ _ Q I1 rr q1
def gTup (K : PySem.W.Frag) (n : Nat) (t : TGs) : TG := fun v σ H Q => ∃ a xs, v = .ref a ∧ SqT K H a xs ∧ xs.length = n ∧ t xs σ H Q
theorem pg_tup {es : List Expr} {k : Nat} {t : TGs} {n : Nat} (hc : X.calm = true) (h : PGs X es t)
    (hn : (assignEach es X.env).length = n := by rfl) (hst : (assignEach es X.env).findIdx? (·.1) = none := by rfl) : PG X (.Tuple es k pos) (gTup X.K n t) := by
  intro pins s σ H v u Q I r hw
  obtain ⟨a, xs, e1, hq, hl, hw⟩ := hw
  subst e1
  cases r
  obtain ⟨its, rv, ht, hz⟩ := I.tuple hq
  refine assign_Tuple_tuple (I.ok.hd hc) ht (by simp [hn, ← hl, rv.length]) hst fun h' hx => ?_
  have I1 : Inv X pins σ H { s with heap := h' } := I.kept (t' := s.toks) fun b o e => hx b o (Nat.ne_of_lt (Heap.lt_size e)) e
  exact h pins _ σ H xs _ Q I1 (by simpa using rv) hw
def gSub (to ti : TE) (t : TSet) : TG := fun v σ H Q => to σ H fun o H1 => ti σ H1 fun i H2 => t o i v H2 fun H3 => Q σ H3
theorem pg_sub {o i : Expr} {to ti : TE} {t : TSet} (ho : PE X o to) (hi : PE X i ti) (hs : PSet X t)
    (ha : ∀ v, assign (.Subscript o i pos) X.env v = (do
      let ov ← holding [v] (eval o X.env)
      let iv ← holding [v, ov] (eval i X.env)
      standAt pos
      holding [v, ov, iv] (setItem ov iv v)
      release [v, ov, iv] []) := by intro _; rfl) : PG X (.Subscript o i pos) (gSub to ti t) := by
  intro pins s σ H v u Q I r h
  rw [ha]
  refine wpAny_bind (wpAny_holding (thn (ho pins s σ H _ I h) fun ov s1 ⟨x, H1, I1, r1, q1⟩ => ?_))
  refine wpAny_bind (wpAny_holding (thn (hi pins s1 σ H1 _ I1 q1) fun iv s2 ⟨y, H2, I2, r2, q2⟩ => ?_))
  refine wpAny_bind (wpAny_standAt (wpAny_bind (wpAny_holding (thn (hs pins s2 σ H2 x y v ov iv u _ I2 r1 r2 r q2) fun _ s3 ⟨H3, I3, q3⟩ => ?_))))
  exact wpAny_release ⟨σ, H3, I3, q3⟩
def tAsg (te : TE) (g : TG) : TS := fun D σ H => te σ H fun x H1 => g x σ H1 D.nx
theorem ps_asg {tg e : Expr} {te : TE} {g : TG} (he : PE X e te) (hg : PG X tg g) (hs : swapsWithSole [tg] e pos.line X.env = pure false := by rfl) (hw : swappedStores [tg] e X.env = pure none := by rfl)
    (h1 : (assignEach [tg] X.env).map (·.2) = [assign tg X.env] := by rfl) : PS X (.Assign [tg] e pos) (tAsg te g) := by
  intro pins s σ H D I h
  refine wpAny_Assign_stores (thn (he pins s σ H _ I h) fun v s1 ⟨x, H1, I1, r1, q1⟩ => ?_) hs hw
  rw [h1]
  exact thn (hg pins s1 σ H1 x v _ I1 r1 q1) fun _ s2 q => q
theorem ps_set {i : Nat} {x : Str} {e : Expr} {te : TE} {pos' : Pos} (hN : X.N.Nodup) (hi : X.N[i]? = some x) (hx : Loc X.env.scope x) (he : PE X e te) (hs : swapsWith e (some (.Name x pos')) pos.line X.env = pure false := by rfl) (hf : X.fn x = true ∨ X.env.scope.names.lookup x = some .local := by first | exact .inl rfl | exact .inr rfl | assumption) :
    PS X (.Assign [.Name x pos'] e pos) (tAsg te (gName i)) := by
  intro pins s σ H D I h
  refine wpAny_Assign_Name (thn (he pins s σ H _ I h) fun v s1 ⟨y, H1, I1, r1, q1⟩ => ?_) hs
  exact store_ok I1 hN hi hx r1 (fun s2 I2 => ⟨_, H1, I2, q1⟩) hf
end
section
variable {X : Cx} {pos : Pos}
def tWhile (c : TT) (tb : TS) : TS := fun D σ H => ∃ W : Nat → St → Hp → Prop, (∃ m, W m σ H) ∧ ∀ m σ H, W m σ H →
  c σ H fun b H1 => if b = true then ∃ N : St → Hp → Prop, (∀ σ' H', N σ' H' → ∃ m', m' < m ∧ W m' σ' H') ∧ tb { D with nx := N, ct := N, bk := D.nx } σ H1 else D.nx σ H1
theorem ps_while {c : Expr} {body : List Stmt} {tc : TT} {tb : TS} (hp : PassesOwn (model X.prog X.w) X.A X.env X.xe) (hc : PT X c tc) (hb : PSs X body tb) : PS X (.While c body [] pos) (tWhile tc tb) := by
  intro pins s σ H D I h
  obtain ⟨W, ⟨m0, w0⟩, turn⟩ := h
  refine wpAny_While (codeAny_whileLoop (fun n s' => ∃ σ' H', Inv X pins σ' H' s' ∧ W n σ' H') ?_ m0 ⟨σ, H, I, w0⟩)
  rintro n s1 ⟨σ1, H1, I1, w1⟩
  refine wpAny_passesOwn hp (thn (hc pins s1 σ1 H1 _ I1 (turn n σ1 H1 w1)) fun b s2 ⟨H2, I2, q2⟩ => ?_)
  cases b with
  | true =>
    obtain ⟨N, hN, q2⟩ := q2
    rw [if_pos rfl]
    refine wpAny_passesOwn hp (thn (hb pins s2 σ1 H2 _ I2 q2) fun f s3 q3 => ?_)
    cases f with
    | next =>
      obtain ⟨σ3, H3, I3, n3⟩ := q3
      obtain ⟨m', hm, w3⟩ := hN σ3 H3 n3
      exact ⟨m', hm, σ3, H3, I3, w3⟩
    | cont =>
      obtain ⟨σ3, H3, I3, n3⟩ := q3
      obtain ⟨m', hm, w3⟩ := hN σ3 H3 n3
      exact ⟨m', hm, σ3, H3, I3, w3⟩
    | brk => exact q3
    | ret v => exact q3
  | false =>
    rw [if_neg Bool.false_ne_true]
    exact wpAny_execs_nil ⟨σ1, H2, I2, q2⟩
end
structure It where
  go : Nat → Hp → Prop
  yld : Nat → Hp → V → Hp → Prop
  stop : Nat → Hp → Prop
def FpOk (X : Cx) (pins : List (Addr × Obj)) (H : Hp) (b : Addr) : Prop :=
  H b = none ∧ b ≠ X.env.locals ∧ b ∉ X.fs ∧ (b ∈ X.ex ∨ X.s₀.heap.objs.size ≤ b) ∧ (∀ x c, X.env.cells.lookup x = some c → c ≠ b) ∧ ∀ p ∈ X.pn ++ pins, p.1 ≠ b
theorem Inv.fpOk {X : Cx} {pins : List (Addr × Obj)} {σ : St} {H H' : Hp} {s : Shared} {b : Addr} (I : Inv X pins σ H s) (hb : s.heap.objs.size ≤ b) (hn : H' b = none) : FpOk X pins H' b := by
  refine ⟨hn, Nat.ne_of_gt (Nat.lt_of_lt_of_le I.lt hb), I.nofs hb, .inr (Nat.le_trans I.sz hb), fun x c e z => ?_, fun p hp z => ?_⟩
  · obtain ⟨v, q⟩ := I.cell x c e
    exact absurd (Nat.lt_of_lt_of_le q.lt (by rw [z]; exact hb)) (Nat.lt_irrefl _)
  · exact absurd (Nat.lt_of_lt_of_le (Heap.lt_size (I.pin p hp).1) (by rw [z]; exact hb)) (Nat.lt_irrefl _)
structure Turn (P : Program) (w : World) (K : PySem.W.Frag) (tg : Expr) (J : It) (fp : List Addr) (it : Addr) (tn : Nat → Heap → Prop) : Prop where
  mem : it ∈ fp
  obj : ∀ i h, tn i h → ∀ b ∈ fp, ∃ o, h.get? b = some o ∧ ∀ v, o.data ≠ .cell v
  keep : ∀ i h h', tn i h → (∀ b ∈ fp, ∀ o, h.get? b = some o → h'.get? b = some o) → tn i h'
  item : ∀ (X : Cx), X.prog = P → X.w = w → X.K = K → X.calm = true → ∀ (i : Nat) (pins : List (Addr × Obj)) (s : Shared) (σ : St) (H : Hp) (E : Value → Shared → Prop), Inv X pins σ H s → (∀ b ∈ fp, FpOk X pins H b) → tn i s.heap → J.go i H →
    wpAny (model P w) X.A (pyNext (.ref it)) (fun r s1 => ∃ u, r = some u ∧
      wpAny (model P w) X.A (letOwnedTupleGo tg (.ref it) u) (fun _ s2 => ∃ x H', Inv X pins σ H' s2 ∧ RelV x u ∧ J.yld i H x H' ∧ tn (i + 1) s2.heap ∧ ∀ b ∈ fp, H' b = none) E s1) E s
  done : ∀ (X : Cx), X.prog = P → X.w = w → X.K = K → X.calm = true → ∀ (i : Nat) (pins : List (Addr × Obj)) (s : Shared) (σ : St) (H : Hp) (E : Value → Shared → Prop), Inv X pins σ H s → (∀ b ∈ fp, FpOk X pins H b) → tn i s.heap → J.stop i H →
    wpAny (model P w) X.A (pyNext (.ref it)) (fun r s1 => r = none ∧ Inv X pins σ H s1) E s
  self : ∀ (A : Around) (i : Nat) (s : Shared) (Q : Value → Shared → Prop) (E : Value → Shared → Prop), tn i s.heap → Q (.ref it) s → wpAny (model P w) A (pyIter (.ref it)) Q E s
abbrev TI := St → Hp → (It → Hp → Prop) → Prop
def PIE (X : Cx) (pins : List (Addr × Obj)) (σ : St) (tg : Expr) (R : It → Hp → Prop) (itv : Value) (s2 : Shared) : Prop :=
  ∃ (it : Addr) (fp : List Addr) (tn : Nat → Heap → Prop) (J : It) (H' : Hp), itv = .ref it ∧ Inv X pins σ H' s2 ∧ Turn X.prog X.w X.K tg J fp it tn ∧ tn 0 s2.heap ∧ (∀ b ∈ fp, FpOk X pins H' b) ∧ R J H'
def PI (X : Cx) (tg iter : Expr) (wi : TI) : Prop :=
  ∀ (pins : List (Addr × Obj)) (s : Shared) (σ : St) (H : Hp) (R : It → Hp → Prop), Inv X pins σ H s → wi σ H R →
    wpAny (model X.prog X.w) X.A (eval iter X.env) (fun v s1 => wpAny (model X.prog X.w) X.A (pyIter v) (PIE X pins σ tg R) X.xe s1) X.xe s
theorem go_of {M : Model} {A : Around} {E : Value → Shared → Prop} {s : Shared} {tg : Expr} {it : Addr} {u : Value} {o : Obj} {n : String} {vs : Array Value} {Q : Unit → Shared → Prop} (ho : s.heap.get? it = some o) (hc : o.cls = .type n) (hd : o.data = .fields vs)
    (hn : ["enumerate", "zip", "dict_itemiterator", "dict_reverseitemiterator", "odict_iterator", "itertools.zip_longest", "itertools.pairwise"].contains n = false) (hQ : Q () s) : wpAny M A (letOwnedTupleGo tg (.ref it) u) Q E s := by
  unfold letOwnedTupleGo
  cases tg <;> first
    | exact wpAny_pure hQ
    | (cases u <;> first
        | exact wpAny_pure hQ
        | (refine wpAny_bind (wpAny_load ho ?_)
           rw [hc, hd]
           show wpAny M A (if (["enumerate", "zip", "dict_itemiterator", "dict_reverseitemiterator", "odict_iterator", "itertools.zip_longest", "itertools.pairwise"].contains n && vs[0]? == some (rawInt _)) = true then _ else _) Q E s
           rw [if_neg (by intro h; rw [hn, Bool.false_and] at h; cases h)]
           exact wpAny_pure hQ))
def Itl (K : PySem.W.Frag) (a : Addr) : It :=
  ⟨fun i H => ∃ xs x, SqL K H a xs ∧ xs[i]? = some x, fun i H x H' => H' = H ∧ ∀ xs, SqL K H a xs → xs[i]? = some x, fun i H => ∃ xs, SqL K H a xs ∧ xs.length ≤ i⟩
def Itr (lo : Int) (n : Nat) : It := ⟨fun i _ => i < n, fun i H x H' => H' = H ∧ x = .int (lo + i), fun i _ => n ≤ i⟩
theorem turn_list {P : Program} {w : World} {K : PySem.W.Frag} {tg : Expr} (a it : Addr) : Turn P w K tg (Itl K a) [it] it (fun i h => h.IsListIter it a i) where
  mem := by simp
  obj := fun i h st b hb => by
    have e : b = it := by simpa using hb
    subst e
    obtain ⟨o, e, c, d⟩ := st
    exact ⟨o, e, fun v z => by rw [d] at z; cases z⟩
  keep := fun i h h' st k => st.at fun o e => k it (by simp) o e
  item := by
    intro X hP hw hK hc i pins s σ H E I hf st hg
    subst hP hw hK
    obtain ⟨xs, x, hq, hx⟩ := hg
    obtain ⟨its, rv, p, hz⟩ := I.list hq
    obtain ⟨u, hu, ru⟩ := rv.get hx
    obtain ⟨f0, f1, f2, f3, f4, f5⟩ := hf it (by simp)
    refine wpAny_pyNext_list_item st p.isList (x := u) (by simpa using hu) fun h' st' sb => ?_
    have I1 : Inv X pins σ H { s with heap := h' } := I.turned (t' := s.toks) (fun b o hb e => (sb.2 b hb).trans e) f0 f1 f3 f4 f5
    obtain ⟨o, e, c, d⟩ := id st'
    exact ⟨u, rfl, go_of (s := { s with heap := h' }) e c d (by decide) ⟨x, H, I1, ru, ⟨rfl, fun ys hy => by rw [I.list_inj hy hq]; exact hx⟩, st', fun b hb => (hf b hb).1⟩⟩
  done := by
    intro X hP hw hK hc i pins s σ H E I hf st hg
    subst hP hw hK
    obtain ⟨xs, hq, hx⟩ := hg
    obtain ⟨its, rv, p, hz⟩ := I.list hq
    obtain ⟨f0, f1, f2, f3, f4, f5⟩ := hf it (by simp)
    have hl := rv.length
    exact wpAny_pyNext_list_end (I.ok.hd hc) st p.isList (by simp; omega) fun h' eb => ⟨rfl, I.turned (t' := s.toks) (fun b o hb e => eb b o hb e) f0 f1 f3 f4 f5⟩
  self := fun _ _ _ _ _ st h => wpAny_pyIter_listiter st h
theorem turn_range {P : Program} {w : World} {K : PySem.W.Frag} {tg : Expr} (it : Addr) (lo : Int) (n : Nat) : Turn P w K tg (Itr lo n) [it] it (fun i h => IsRangeIter h it (lo + (i : Nat) * 1) ((n : Int) - (i : Nat)) 1) where
  mem := by simp
  obj := fun i h st b hb => by
    have e : b = it := by simpa using hb
    subst e
    exact ⟨_, st, fun v z => by
      have z' : Data.fields _ = Data.cell v := z
      cases z'⟩
  keep := fun i h h' st k => k it (by simp) _ st
  item := by
    intro X hP hw hK hc i pins s σ H E I hf st hg
    subst hP hw hK
    obtain ⟨f0, f1, f2, f3, f4, f5⟩ := hf it (by simp)
    have W := Walks.range (prog := X.prog) (w := X.w) (I.ok.hd hc) it lo 1 n
    refine W.item i s _ _ hg st fun v h' tk hv st' kk => ?_
    obtain ⟨t, rfl⟩ := hv
    have I1 : Inv X pins σ H { s with heap := h', toks := tk } := I.turned (fun b o hb e => kk b o (by simpa using hb) e) f0 f1 f3 f4 f5
    refine ⟨_, rfl, go_of (s := { s with heap := h', toks := tk }) (n := "range_iterator") st' rfl rfl (by decide) ⟨.int (lo + i), H, I1, ⟨t, ?_⟩, ⟨rfl, rfl⟩, st', fun b hb => (hf b hb).1⟩⟩
    rw [Int.mul_one]
  done := by
    intro X hP hw hK hc i pins s σ H E I hf st hg
    subst hP hw hK
    obtain ⟨f0, f1, f2, f3, f4, f5⟩ := hf it (by simp)
    exact wpAny_pyNext_range_end (I.ok.hd hc) st (by have : n ≤ i := hg; omega) fun h' eb => ⟨rfl, I.turned (t' := s.toks) (fun b o hb e => eb b o hb e) f0 f1 f3 f4 f5⟩
  self := fun _ _ _ _ _ st h => wpAny_pyIter_rangeiter st h
end L2
namespace L2
open PySem PySem.Spec PyProof.Rows
section
variable {X : Cx} {tg : Expr}
def iList (K : PySem.W.Frag) (tl : TE) : TI := fun σ H R => tl σ H fun x H1 => ∃ a, x = .ref a ∧ (∃ xs, SqL K H1 a xs) ∧ R (Itl K a) H1
theorem pi_list {l : Expr} {tl : TE} (hl : PE X l tl) : PI X tg l (iList X.K tl) := by
  intro pins s σ H R I h
  refine thn (hl pins s σ H _ I h) fun v s1 ⟨x, H1, I1, r1, q1⟩ => ?_
  obtain ⟨a, e, ⟨xs, hq⟩, q⟩ := q1
  subst e
  cases r1
  obtain ⟨its, rv, p, hz⟩ := I1.list hq
  refine wpAny_pyIter_list p.isList ?_
  refine ⟨s1.heap.objs.size, [s1.heap.objs.size], _, _, H1, rfl, I1.kept (t' := s1.toks) fun b o e => Heap.get?_push_of_some _ e, turn_list a _, ⟨_, Heap.get?_push_size _ rfl, rfl, rfl⟩, fun b hb => ?_, q⟩
  have e : b = s1.heap.objs.size := by simpa using hb
  subst e
  exact I1.fpOk (Nat.le_refl _) (I1.hok.fresh (Nat.le_refl _))
theorem range_it {pins : List (Addr × Obj)} {σ : St} {H : Hp} {s : Shared} {R : It → Hp → Prop} {E : Value → Shared → Prop} {lo hi : Int} {t u v : Tok} {tk : Nat} (I : Inv X pins σ H s) (h1 : -(2 ^ 62) ≤ lo) (h2 : lo < 2 ^ 62) (h3 : -(2 ^ 62) ≤ hi) (h4 : hi < 2 ^ 62)
    (q : R (Itr lo (hi - lo).toNat) H) : wpAny (model X.prog X.w) X.A (pyIter (.ref s.heap.objs.size)) (PIE X pins σ tg R) E { s with heap := s.heap.push { cls := .type "range", data := .fields #[.int lo t, .int hi u, .int 1 v] }, toks := tk } := by
  refine wpAny_pyIter_range (IsRange.new ..) (small_one h1 h2 h3 h4) ?_
  have I1 : Inv X pins σ H { s with heap := s.heap.push { cls := .type "range", data := .fields #[.int lo t, .int hi u, .int 1 v] }, toks := tk } := I.kept fun b o e => Heap.get?_push_of_some _ e
  refine ⟨(s.heap.push { cls := .type "range", data := .fields #[.int lo t, .int hi u, .int 1 v] }).objs.size, [(s.heap.push { cls := .type "range", data := .fields #[.int lo t, .int hi u, .int 1 v] }).objs.size], _, _, H, rfl,
    I1.kept (t' := tk) fun b o e => Heap.get?_push_of_some _ e, turn_range _ lo (hi - lo).toNat, ?_, fun b hb => ?_, q⟩
  · have e1 : lo + ((0 : Nat) : Int) * 1 = lo := by simp
    have e2 : (((hi - lo).toNat : Nat) : Int) - ((0 : Nat) : Int) = Builtin.Range.rangeSize lo hi 1 := by rw [rangeSize_one]; split <;> omega
    show IsRangeIter _ _ (lo + ((0 : Nat) : Int) * 1) ((((hi - lo).toNat : Nat) : Int) - ((0 : Nat) : Int)) 1
    rw [e1, e2]
    exact Heap.get?_push_size _ rfl
  · have e : b = (s.heap.push { cls := .type "range", data := .fields #[.int lo t, .int hi u, .int 1 v] }).objs.size := by simpa using hb
    subst e
    exact I1.fpOk (Nat.le_refl _) (I1.hok.fresh (Nat.le_refl _))
def iRng1 (ta : TA) : TI := fun σ H R => ta σ H fun vs H1 => ∃ j : Int, vs = [.int j] ∧ -(2 ^ 62) ≤ j ∧ j < 2 ^ 62 ∧ R (Itr 0 j.toNat) H1
def iRng2 (ta : TA) : TI := fun σ H R => ta σ H fun vs H1 => ∃ i j : Int, vs = [.int i, .int j] ∧ (-(2 ^ 62) ≤ i ∧ i < 2 ^ 62 ∧ -(2 ^ 62) ≤ j ∧ j < 2 ^ 62) ∧ R (Itr i (j - i).toNat) H1
theorem pi_range1 {a : Expr} {ta : TA} {p pos : Pos} (hg : Gl X "range") (hm : X.mg "range" = none) (ha : PA X [a] ta) (hs : starEach [a] X.env = [(false, eval a X.env)] := by rfl) : PI X tg (.Call (.Name "range" p) [a] [] pos) (iRng1 ta) := by
  intro pins s σ H R I h
  refine Call_ (ld_blt I hg hm boot_range (PyProof.Rows.callWith_type1 (thn (ha pos pins s σ H _ I h) fun us s1 ⟨vs, H1, I1, r1, q1⟩ => ?_) hs rfl))
  obtain ⟨j, e, q1, q2, q⟩ := q1
  subst e
  cases r1 with
  | cons r rr =>
    cases rr
    obtain ⟨t, rfl⟩ := r
    exact call_range_1 (range_it I1 (by omega) (by omega) q1 q2 (by simpa using q))
theorem pi_range2 {a b : Expr} {ta : TA} {p pos : Pos} (hg : Gl X "range") (hm : X.mg "range" = none) (ha : PA X [a, b] ta) (hs : starEach [a, b] X.env = [(false, eval a X.env), (false, eval b X.env)] := by rfl) (hs2 : starEach [b] X.env = [(false, eval b X.env)] := by rfl) :
    PI X tg (.Call (.Name "range" p) [a, b] [] pos) (iRng2 ta) := by
  intro pins s σ H R I h
  refine Call_ (ld_blt I hg hm boot_range (PyProof.Rows.callWith_type1 (thn (ha pos pins s σ H _ I h) fun us s1 ⟨vs, H1, I1, r1, q1⟩ => ?_) (by rw [hs, hs2]) (by rw [hs2]; rfl)))
  obtain ⟨i, j, e, ⟨q1, q2, q3, q4⟩, q⟩ := q1
  subst e
  cases r1 with
  | cons r rr =>
    cases rr with
    | cons r' rr =>
      cases rr
      obtain ⟨t, rfl⟩ := r
      obtain ⟨t', rfl⟩ := r'
      exact call_range_2 (range_it I1 q1 q2 q3 q4 q)
def tFor (wi : TI) (g : TG) (tb : TS) : TS := fun D σ H => wi σ H fun J H1 => ∃ W : Nat → Nat → St → Hp → Prop, (∃ m, W 0 m σ H1) ∧ ∀ i m σ H, W i m σ H →
  (J.stop i H ∧ D.nx σ H) ∨ (J.go i H ∧ ∃ N : St → Hp → Prop, (∀ σ' H', N σ' H' → ∃ m', m' < m ∧ W (i + 1) m' σ' H') ∧ ∀ x H', J.yld i H x H' → g x σ H' fun σ2 H2 => tb { D with nx := N, ct := N, bk := D.nx } σ2 H2)
def pinsAt (fp : List Addr) (h : Heap) : List (Addr × Obj) := fp.filterMap fun b => (h.get? b).map fun o => (b, o)
theorem mem_pinsAt {fp : List Addr} {h : Heap} {b : Addr} {o : Obj} (hb : b ∈ fp) (e : h.get? b = some o) : (b, o) ∈ pinsAt fp h := List.mem_filterMap.mpr ⟨b, hb, by rw [e]; rfl⟩
theorem of_pinsAt {fp : List Addr} {h : Heap} {p : Addr × Obj} (hp : p ∈ pinsAt fp h) : p.1 ∈ fp ∧ h.get? p.1 = some p.2 := by
  obtain ⟨b, hb, e⟩ := List.mem_filterMap.mp hp
  cases q : h.get? b with
  | none => rw [q] at e; cases e
  | some o =>
    rw [q] at e
    have e' : (b, o) = p := Option.some.inj e
    subst e'
    exact ⟨hb, q⟩
theorem Inv.pinned {pins : List (Addr × Obj)} {σ : St} {H : Hp} {s : Shared} {fp : List Addr} (I : Inv X pins σ H s) (hf : ∀ b ∈ fp, FpOk X pins H b) (ho : ∀ b ∈ fp, ∃ o, s.heap.get? b = some o ∧ ∀ v, o.data ≠ .cell v) : Inv X (pins ++ pinsAt fp s.heap) σ H s :=
  I.pins_of fun p hp => (List.mem_append.mp hp).elim (fun z => I.pin p (List.mem_append_right _ z)) fun z => by
    obtain ⟨hb, e⟩ := of_pinsAt z
    obtain ⟨f0, f1, f2, _⟩ := hf p.1 hb
    obtain ⟨o, e', d⟩ := ho p.1 hb
    rw [e] at e'; cases e'
    exact ⟨e, f0, f1, f2, d⟩
theorem Inv.unpinned {pins pl : List (Addr × Obj)} {σ : St} {H : Hp} {s : Shared} (I : Inv X (pins ++ pl) σ H s) : Inv X pins σ H s := I.pins_of fun p hp => I.pin p (List.mem_append_right _ (List.mem_append_left _ hp))
theorem ps_for {iter : Expr} {body : List Stmt} {wi : TI} {g : TG} {tb : TS} {pos : Pos} (hp : PassesOwn (model X.prog X.w) X.A X.env X.xe) (hc : X.calm = true) (hi : PI X tg iter wi) (hg : PG X tg g) (hb : PSs X body tb)
    (hs : ∀ x, foldedSetIterable iter X.env x = pure x := by intro _; rfl) : PS X (.For tg iter body [] pos) (tFor wi g tb) := by
  intro pins s σ H D I h
  refine wpAny_For (thn (hi pins s σ H _ I h) fun v s1 h1 => thn h1 fun itv s2 h2 => ?_) hs
  obtain ⟨it, fp, tn, J, H2, e, I2, T, st2, f2, W, ⟨m0, w0⟩, turn⟩ := h2
  subst e
  have stat : ∀ {H' : Hp}, (∀ b ∈ fp, H' b = none) → ∀ b ∈ fp, FpOk X pins H' b := fun hn b hb => ⟨hn b hb, (f2 b hb).2⟩
  refine codeAny_forLoop_any (fun n s' => ∃ i σ' H', Inv X pins σ' H' s' ∧ tn i s'.heap ∧ (∀ b ∈ fp, H' b = none) ∧ W i n σ' H') ?_ m0 ⟨0, σ, H2, I2, st2, fun b hb => (f2 b hb).1, w0⟩
  rintro n s3 ⟨i, σ3, H3, I3, st3, fr3, w3⟩
  rcases turn i n σ3 H3 w3 with ⟨stop, qn⟩ | ⟨go, N, hN, step⟩
  · refine wpAny_passesOwn hp (thn (T.done X rfl rfl rfl hc i pins s3 σ3 H3 X.xe I3 (stat fr3) st3 stop) fun r s4 ⟨hr, I4⟩ => ?_)
    subst hr
    exact wpAny_execs_nil ⟨σ3, H3, I4, qn⟩
  · refine wpAny_passesOwn hp (thn (T.item X rfl rfl rfl hc i pins s3 σ3 H3 X.xe I3 (stat fr3) st3 go) fun r s4 ⟨u, hr, h4⟩ => ?_)
    subst hr
    refine wpAny_passesOwn hp (thn h4 fun _ s5 ⟨x, H5, I5, r5, y5, st5, fr5⟩ => ?_)
    have I5' := I5.pinned (stat fr5) (T.obj _ _ st5)
    refine wpAny_passesOwn hp (thn (hg _ s5 σ3 H5 x u _ I5' r5 (step x H5 y5)) fun _ s6 ⟨σ6, H6, I6, q6⟩ => ?_)
    refine wpAny_passesOwn hp (thn (hb _ s6 σ6 H6 _ I6 q6) fun f s7 q7 => ?_)
    have again : ∀ {σ7 : St} {H7 : Hp}, Inv X (pins ++ pinsAt fp s5.heap) σ7 H7 s7 → N σ7 H7 → ∃ m, m < n ∧ ∃ i σ' H', Inv X pins σ' H' s7 ∧ tn i s7.heap ∧ (∀ b ∈ fp, H' b = none) ∧ W i m σ' H' := fun {σ7 H7} I7 n7 => by
      obtain ⟨m', hm, w7⟩ := hN σ7 H7 n7
      refine ⟨m', hm, i + 1, σ7, H7, I7.unpinned, T.keep _ _ _ st5 fun b hb o e => (I7.pin (b, o) (List.mem_append_right _ (List.mem_append_right _ (mem_pinsAt hb e)))).1, fun b hb => ?_, w7⟩
      obtain ⟨o, e, d⟩ := T.obj _ _ st5 b hb
      exact (I7.pin (b, o) (List.mem_append_right _ (List.mem_append_right _ (mem_pinsAt hb e)))).2.1
    cases f with
    | next => obtain ⟨σ7, H7, I7, n7⟩ := q7; exact again I7 n7
    | cont => obtain ⟨σ7, H7, I7, n7⟩ := q7; exact again I7 n7
    | brk => obtain ⟨σ7, H7, I7, q7⟩ := q7; exact ⟨σ7, H7, I7.unpinned, q7⟩
    | ret v => obtain ⟨x7, σ7, H7, I7, r7, q7⟩ := q7; exact ⟨x7, σ7, H7, I7.unpinned, r7, q7⟩
end
theorem for_list {K : PySem.W.Frag} {a : Addr} {xs : List V} {g : TG} {tb : TS} {D : Ends} {σ : St} {H : Hp} (Pv : Nat → St → Hp → Prop) (h0 : Pv 0 σ H) (hl : ∀ i σ H, i ≤ xs.length → Pv i σ H → SqL K H a xs)
    (hs : ∀ i x σ H, xs[i]? = some x → Pv i σ H → g x σ H fun σ2 H2 => tb { D with nx := Pv (i + 1), ct := Pv (i + 1), bk := D.nx } σ2 H2) (hd : ∀ σ H, Pv xs.length σ H → D.nx σ H) :
    ∃ W : Nat → Nat → St → Hp → Prop, (∃ m, W 0 m σ H) ∧ ∀ i m σ H, W i m σ H →
      ((Itl K a).stop i H ∧ D.nx σ H) ∨ ((Itl K a).go i H ∧ ∃ N : St → Hp → Prop, (∀ σ' H', N σ' H' → ∃ m', m' < m ∧ W (i + 1) m' σ' H') ∧ ∀ x H', (Itl K a).yld i H x H' → g x σ H' fun σ2 H2 => tb { D with nx := N, ct := N, bk := D.nx } σ2 H2) := by
  refine ⟨fun i m σ H => m = xs.length - i ∧ i ≤ xs.length ∧ Pv i σ H, ⟨xs.length, by simp, Nat.zero_le _, h0⟩, ?_⟩
  rintro i m σ H ⟨rfl, hi, p⟩
  have q := hl i σ H hi p
  by_cases hlt : i < xs.length
  · refine .inr ⟨⟨xs, xs[i], q, by simp [hlt]⟩, Pv (i + 1), fun σ' H' p' => ⟨xs.length - (i + 1), by omega, rfl, hlt, p'⟩, fun x H' y => ?_⟩
    obtain ⟨e, y⟩ := y
    subst e
    exact hs i x σ _ (y xs q) p
  · have e : i = xs.length := by omega
    subst e
    exact .inl ⟨⟨xs, q, Nat.le_refl _⟩, hd σ H p⟩
theorem for_range {lo : Int} {n : Nat} {g : TG} {tb : TS} {D : Ends} {σ : St} {H : Hp} (Pv : Nat → St → Hp → Prop) (h0 : Pv 0 σ H)
    (hs : ∀ i σ H, i < n → Pv i σ H → g (.int (lo + i)) σ H fun σ2 H2 => tb { D with nx := Pv (i + 1), ct := Pv (i + 1), bk := D.nx } σ2 H2) (hd : ∀ σ H, Pv n σ H → D.nx σ H) :
    ∃ W : Nat → Nat → St → Hp → Prop, (∃ m, W 0 m σ H) ∧ ∀ i m σ H, W i m σ H →
      ((Itr lo n).stop i H ∧ D.nx σ H) ∨ ((Itr lo n).go i H ∧ ∃ N : St → Hp → Prop, (∀ σ' H', N σ' H' → ∃ m', m' < m ∧ W (i + 1) m' σ' H') ∧ ∀ x H', (Itr lo n).yld i H x H' → g x σ H' fun σ2 H2 => tb { D with nx := N, ct := N, bk := D.nx } σ2 H2) := by
  refine ⟨fun i m σ H => m = n - i ∧ i ≤ n ∧ Pv i σ H, ⟨n, by simp, Nat.zero_le _, h0⟩, ?_⟩
  rintro i m σ H ⟨rfl, hi, p⟩
  by_cases hlt : i < n
  · refine .inr ⟨hlt, Pv (i + 1), fun σ' H' p' => ⟨n - (i + 1), by omega, rfl, hlt, p'⟩, fun x H' y => ?_⟩
    obtain ⟨e, y⟩ := y
    subst e y
    exact hs i σ _ hlt p
  · have e : i = n := by omega
    subst e
    exact .inl ⟨Nat.le_refl _, hd σ H p⟩
theorem while_by {c : TT} {tb : TS} {D : Ends} {σ : St} {H : Hp} (Pv : St → Hp → Prop) (μ : St → Hp → Nat) (h0 : Pv σ H)
    (hs : ∀ σ H, Pv σ H → c σ H fun b H1 => if b = true then tb { D with nx := fun σ' H' => Pv σ' H' ∧ μ σ' H' < μ σ H, ct := fun σ' H' => Pv σ' H' ∧ μ σ' H' < μ σ H, bk := D.nx } σ H1 else D.nx σ H1)
    (mono : ∀ σ H Q Q', (∀ b H1, Q b H1 → Q' b H1) → c σ H Q → c σ H Q') : tWhile c tb D σ H := by
  refine ⟨fun m σ H => m = μ σ H ∧ Pv σ H, ⟨_, rfl, h0⟩, ?_⟩
  rintro m σ H ⟨rfl, p⟩
  refine mono σ H _ _ (fun b H1 q => ?_) (hs σ H p)
  cases b with
  | true => exact ⟨_, fun σ' H' ⟨p', l⟩ => ⟨_, l, rfl, p'⟩, q⟩
  | false => exact q
end L2
namespace L2
open PySem PySem.Spec PyProof.Rows
abbrev R2 := V → V → Hp → VK → Prop
def OpR (X : Cx) (f : Value → Value → Sem Value) (r : R2) : Prop :=
  ∀ (pins : List (Addr × Obj)) (s : Shared) (σ : St) (H : Hp) (x y : V) (v u : Value) (Q : VK), Inv X pins σ H s → RelV x v → RelV y u → r x y H Q →
    wpAny (model X.prog X.w) X.A (f v u) (EP X pins σ Q) X.xe s
def UnR (X : Cx) (f : Value → Sem Value) (r : V → Hp → VK → Prop) : Prop :=
  ∀ (pins : List (Addr × Obj)) (s : Shared) (σ : St) (H : Hp) (x : V) (v : Value) (Q : VK), Inv X pins σ H s → RelV x v → r x H Q →
    wpAny (model X.prog X.w) X.A (f v) (EP X pins σ Q) X.xe s
def CallR (X : Cx) (f : Value) (r : List V → Hp → VK → Prop) : Prop :=
  ∀ (pins : List (Addr × Obj)) (s : Shared) (σ : St) (H : Hp) (xs : List V) (us : List Value) (Q : VK), Inv X pins σ H s → Vals xs us → r xs H Q →
    wpAny (model X.prog X.w) X.A (call f us) (EP X pins σ Q) X.xe s
def TruR (X : Cx) (r : V → Hp → (Bool → Hp → Prop) → Prop) : Prop :=
  ∀ (pins : List (Addr × Obj)) (s : Shared) (σ : St) (H : Hp) (x : V) (v : Value) (Q : Bool → Hp → Prop), Inv X pins σ H s → RelV x v → r x H Q →
    wpAny (model X.prog X.w) X.A (truthy v) (TP X pins σ Q) X.xe s
def tOp (r : R2) (ta tb : TE) : TE := fun σ H Q => ta σ H fun x H1 => tb σ H1 fun y H2 => r x y H2 Q
def tUn (r : V → Hp → VK → Prop) (ta : TE) : TE := fun σ H Q => ta σ H fun x H1 => r x H1 Q
def rI (C : Int → Int → Prop) (g : Int → Int → V) : R2 := fun x y H Q => ∃ i j, x = .int i ∧ y = .int j ∧ C i j ∧ Q (g i j) H
def rI0 (g : Int → Int → V) : R2 := fun x y H Q => ∃ i j, x = .int i ∧ y = .int j ∧ Q (g i j) H
def rU (g : Int → V) : V → Hp → VK → Prop := fun x H Q => ∃ i, x = .int i ∧ Q (g i) H
section
variable {X : Cx} {a b c : Expr} {ta tb tc : TE} {pos : Pos}
theorem binT (ha : PE X a ta) (hb : PE X b tb) {pins : List (Addr × Obj)} {s : Shared} {σ : St} {H : Hp} {R : V → V → Hp → Prop} (I : Inv X pins σ H s)
    (h : ta σ H fun x H1 => tb σ H1 fun y H2 => R x y H2) {Q : Value → Shared → Prop} {f : Value → Value → Sem Value}
    (hf : ∀ v u s2 x y H2, Inv X pins σ H2 s2 → RelV x v → RelV y u → R x y H2 → wpAny (model X.prog X.w) X.A (f v u) Q X.xe s2) :
    wpAny (model X.prog X.w) X.A (eval a X.env) (fun v s₁ => wpAny (model X.prog X.w) X.A (eval b X.env) (fun u s₂ => wpAny (model X.prog X.w) X.A (f v u) Q X.xe s₂) X.xe s₁) X.xe s := by
  refine thn (ha pins s σ H _ I h) fun v s1 ⟨x, H1, I1, r1, q1⟩ => ?_
  refine thn (hb pins s1 σ H1 _ I1 q1) fun u s2 ⟨y, H2, I2, r2, q2⟩ => ?_
  exact hf v u s2 x y H2 I2 r1 r2 q2
theorem pe_op {op : Operator} {r : R2} (ho : OpR X (binaryOp op) r) (ha : PE X a ta) (hb : PE X b tb) : PE X (.BinOp a op b pos) (tOp r ta tb) := by
  intro pins s σ H Q I h
  exact wpAny_BinOp (binT ha hb I h fun v u s2 x y H2 I2 rx ry q => ho pins s2 σ H2 x y v u Q I2 rx ry q)
theorem pe_un {op : UnaryOp} {r : V → Hp → VK → Prop} (ho : UnR X (unaryOp op) r) (ha : PE X a ta) : PE X (.UnaryOp op a pos) (tUn r ta) := by
  intro pins s σ H Q I h
  exact UnaryOp_ (thn (ha pins s σ H _ I h) fun v s1 ⟨x, H1, I1, r1, q1⟩ => ho pins s1 σ H1 x v Q I1 r1 q1)
theorem opI {f : Value → Value → Sem Value} {C : Int → Int → Prop} {g : Int → Int → Int}
    (rule : ∀ (i j : Int) (t u : Tok) (s : Shared) (Q : Value → Shared → Prop) (E : Value → Shared → Prop), C i j → Q (.int (g i j) s.toks) { s with toks := s.toks + 1 } → wpAny (model X.prog X.w) X.A (f (.int i t) (.int j u)) Q E s) :
    OpR X f (rI C fun i j => .int (g i j)) := by
  intro pins s σ H x y v u Q I rx ry h
  obtain ⟨i, j, rfl, rfl, hc, q⟩ := h
  obtain ⟨t, rfl⟩ := rx
  obtain ⟨t', rfl⟩ := ry
  exact rule i j t t' s _ _ hc ⟨.int (g i j), H, I.tok _, ⟨_, rfl⟩, q⟩
theorem opI0 {f : Value → Value → Sem Value} {g : Int → Int → Int}
    (rule : ∀ (i j : Int) (t u : Tok) (s : Shared) (Q : Value → Shared → Prop) (E : Value → Shared → Prop), Q (.int (g i j) s.toks) { s with toks := s.toks + 1 } → wpAny (model X.prog X.w) X.A (f (.int i t) (.int j u)) Q E s) :
    OpR X f (rI0 fun i j => .int (g i j)) := by
  intro pins s σ H x y v u Q I rx ry h
  obtain ⟨i, j, rfl, rfl, q⟩ := h
  obtain ⟨t, rfl⟩ := rx
  obtain ⟨t', rfl⟩ := ry
  exact rule i j t t' s _ _ ⟨.int (g i j), H, I.tok _, ⟨_, rfl⟩, q⟩
theorem opB0 {f : Value → Value → Sem Value} {g : Int → Int → Bool}
    (rule : ∀ (i j : Int) (t u : Tok) (s : Shared) (Q : Value → Shared → Prop) (E : Value → Shared → Prop), Q (.bool (g i j)) s → wpAny (model X.prog X.w) X.A (f (.int i t) (.int j u)) Q E s) :
    OpR X f (rI0 fun i j => .bl (g i j)) := by
  intro pins s σ H x y v u Q I rx ry h
  obtain ⟨i, j, rfl, rfl, q⟩ := h
  obtain ⟨t, rfl⟩ := rx
  obtain ⟨t', rfl⟩ := ry
  exact rule i j t t' s _ _ ⟨.bl (g i j), H, I, rfl, q⟩
def CPow (i j : Int) : Prop := 0 ≤ j ∧ j ≤ 1000000 ∧ i.natAbs < 2 ^ 64
theorem op_add : OpR X (binaryOp .Add) (rI0 fun i j => .int (i + j)) := opI0 fun _ _ _ _ _ _ _ q => add_int q
theorem op_sub : OpR X (binaryOp .Sub) (rI0 fun i j => .int (i - j)) := opI0 fun _ _ _ _ _ _ _ q => sub_int q
theorem op_mod : OpR X (binaryOp .Mod) (rI (fun _ j => 0 < j) fun i j => .int (i % j)) := opI fun i j _ _ _ _ _ hc q => by
  have h1 : (0 : Int) < j := hc
  exact mod_int' (by omega) (by rw [Int.fmod_eq_emod_of_nonneg i (by omega)]; exact q)
theorem op_pow : OpR X (binaryOp .Pow) (rI CPow fun i j => .int (i ^ j.toNat)) := opI fun _ _ _ _ _ _ _ hc q => pow_int_small hc.1 hc.2.1 hc.2.2 q
theorem op_shl : OpR X (binaryOp .LShift) (rI CPow fun i j => .int (i * 2 ^ j.toNat)) := opI fun _ _ _ _ _ _ _ hc q => lshift_int_small hc.1 hc.2.1 hc.2.2 q
theorem unI {f : Value → Sem Value} {g : Int → Int}
    (rule : ∀ (i : Int) (t : Tok) (s : Shared) (Q : Value → Shared → Prop) (E : Value → Shared → Prop), Q (.int (g i) s.toks) { s with toks := s.toks + 1 } → wpAny (model X.prog X.w) X.A (f (.int i t)) Q E s) :
    UnR X f (rU fun i => .int (g i)) := by
  intro pins s σ H x v Q I rx h
  obtain ⟨i, rfl, q⟩ := h
  obtain ⟨t, rfl⟩ := rx
  exact rule i t s _ _ ⟨.int (g i), H, I.tok _, ⟨_, rfl⟩, q⟩
theorem un_neg : UnR X (unaryOp .USub) (rU fun i => .int (-i)) := unI fun _ _ _ _ _ q => neg_int q
end
def scal : V → V → Bool
  | .non, .non => true | .non, .int _ => true | .int _, .non => true | .non, .bl _ => true | .bl _, .non => true | .non, .str _ => true | .str _, .non => true
  | .int _, .int _ => true | .bl _, .bl _ => true | .str _, .str _ => true | .byt _, .byt _ => true
  | .int _, .str _ => true | .str _, .int _ => true | .bl _, .str _ => true | .str _, .bl _ => true
  | _, _ => false
def rEq : R2 := fun x y H Q => scal x y = true ∧ Q (.bl (decide (x = y))) H
def rNe : R2 := fun x y H Q => scal x y = true ∧ Q (.bl (!decide (x = y))) H
theorem dec_int {i j : Int} : decide (V.int i = V.int j) = (i == j) := by
  rw [Bool.eq_iff_iff]
  simp
theorem dec_bl {i j : Bool} : decide (V.bl i = V.bl j) = (i == j) := by
  rw [Bool.eq_iff_iff]
  simp
theorem dec_str {i j : Str} : decide (V.str i = V.str j) = (i == j) := by
  rw [Bool.eq_iff_iff]
  simp
theorem dec_byt {i j : Array UInt8} : decide (V.byt i = V.byt j) = (i.toList == j.toList) := by
  rw [Bool.eq_iff_iff]
  cases i
  cases j
  simp
section
variable {X : Cx} {a b c : Expr} {ta tb tc : TE} {pos : Pos}
theorem fin_bl {pins : List (Addr × Obj)} {σ : St} {H : Hp} {s : Shared} {Q : VK} {k k' : Bool} (I : Inv X pins σ H s) (q : Q (.bl k) H) (e : k = k') : EP X pins σ Q (.bool k') s := by
  subst e
  exact ⟨.bl k, H, I, rfl, q⟩
theorem op_eq : OpR X (compareOp .Eq) rEq := by
  intro pins s σ H x y v u Q I rx ry h
  obtain ⟨hs, q⟩ := h
  cases x with
  | non =>
    cases rx
    cases y with
    | non => cases ry; exact PySem.EqNone.eq_none_none (fin_bl I q (by simp))
    | bl j => cases ry; exact PySem.EqNone.eq_none_bool (fin_bl I q (by simp))
    | int j => obtain ⟨t', rfl⟩ := ry; exact PySem.EqNone.eq_none_int (fin_bl I q (by simp))
    | str j => obtain ⟨t', rfl⟩ := ry; exact PySem.EqNone.eq_none_str (fin_bl I q (by simp))
    | _ => exact absurd (show false = true from hs) Bool.false_ne_true
  | bl i =>
    cases rx
    cases y with
    | non => cases ry; exact PySem.EqNone.eq_bool_none (fin_bl I q (by simp))
    | bl j => cases ry; exact eq_bool (fin_bl I q dec_bl)
    | str j => obtain ⟨t', rfl⟩ := ry; exact PySem.EqMixed.eq_bool_str (fin_bl I q (by simp))
    | _ => exact absurd (show false = true from hs) Bool.false_ne_true
  | int i =>
    obtain ⟨t, rfl⟩ := rx
    cases y with
    | non => cases ry; exact PySem.EqNone.eq_int_none (fin_bl I q (by simp))
    | int j => obtain ⟨t', rfl⟩ := ry; exact eq_int (fin_bl I q dec_int)
    | str j => obtain ⟨t', rfl⟩ := ry; exact PySem.EqMixed.eq_int_str (fin_bl I q (by simp))
    | _ => exact absurd (show false = true from hs) Bool.false_ne_true
  | str i =>
    obtain ⟨t, rfl⟩ := rx
    cases y with
    | non => cases ry; exact PySem.EqNone.eq_str_none (fin_bl I q (by simp))
    | bl j => cases ry; exact PySem.EqMixed.eq_str_bool (fin_bl I q (by simp))
    | int j => obtain ⟨t', rfl⟩ := ry; exact PySem.EqMixed.eq_str_int (fin_bl I q (by simp))
    | str j => obtain ⟨t', rfl⟩ := ry; exact eq_str (fin_bl I q dec_str)
    | _ => exact absurd (show false = true from hs) Bool.false_ne_true
  | byt i =>
    obtain ⟨t, rfl⟩ := rx
    cases y with
    | byt j => obtain ⟨t', rfl⟩ := ry; exact PySem.W.eq_bytes (fin_bl I q dec_byt)
    | _ => exact absurd (show false = true from hs) Bool.false_ne_true
  | _ => cases y <;> exact absurd (show false = true from hs) Bool.false_ne_true
theorem op_ne : OpR X (compareOp .NotEq) rNe := by
  intro pins s σ H x y v u Q I rx ry h
  obtain ⟨hs, q⟩ := h
  cases x with
  | non =>
    cases rx
    cases y with
    | non => cases ry; exact PySem.EqNone.ne_none_none (fin_bl I q (by simp))
    | bl j => cases ry; exact PySem.EqNone.ne_none_bool (fin_bl I q (by simp))
    | int j => obtain ⟨t', rfl⟩ := ry; exact PySem.EqNone.ne_none_int (fin_bl I q (by simp))
    | str j => obtain ⟨t', rfl⟩ := ry; exact PySem.EqNone.ne_none_str (fin_bl I q (by simp))
    | _ => exact absurd (show false = true from hs) Bool.false_ne_true
  | bl i =>
    cases rx
    cases y with
    | non => cases ry; exact PySem.EqNone.ne_bool_none (fin_bl I q (by simp))
    | bl j => cases ry; exact ne_bool (fin_bl I q (congrArg not dec_bl))
    | str j => obtain ⟨t', rfl⟩ := ry; exact PySem.EqMixed.ne_bool_str (fin_bl I q (by simp))
    | _ => exact absurd (show false = true from hs) Bool.false_ne_true
  | int i =>
    obtain ⟨t, rfl⟩ := rx
    cases y with
    | non => cases ry; exact PySem.EqNone.ne_int_none (fin_bl I q (by simp))
    | int j => obtain ⟨t', rfl⟩ := ry; exact ne_int (fin_bl I q (congrArg not dec_int))
    | str j => obtain ⟨t', rfl⟩ := ry; exact PySem.EqMixed.ne_int_str (fin_bl I q (by simp))
    | _ => exact absurd (show false = true from hs) Bool.false_ne_true
  | str i =>
    obtain ⟨t, rfl⟩ := rx
    cases y with
    | non => cases ry; exact PySem.EqNone.ne_str_none (fin_bl I q (by simp))
    | bl j => cases ry; exact PySem.EqMixed.ne_str_bool (fin_bl I q (by simp))
    | int j => obtain ⟨t', rfl⟩ := ry; exact PySem.EqMixed.ne_str_int (fin_bl I q (by simp))
    | str j => obtain ⟨t', rfl⟩ := ry; exact ne_str (fin_bl I q (congrArg not dec_str))
    | _ => exact absurd (show false = true from hs) Bool.false_ne_true
  | byt i =>
    obtain ⟨t, rfl⟩ := rx
    cases y with
    | byt j => obtain ⟨t', rfl⟩ := ry; exact PySem.W.ne_bytes (fin_bl I q (congrArg not dec_byt))
    | _ => exact absurd (show false = true from hs) Bool.false_ne_true
  | _ => cases y <;> exact absurd (show false = true from hs) Bool.false_ne_true
theorem op_lt : OpR X (compareOp .Lt) (rI0 fun i j => .bl (decide (i < j))) := opB0 fun _ _ _ _ _ _ _ q => lt_int q
theorem op_gt : OpR X (compareOp .Gt) (rI0 fun i j => .bl (decide (j < i))) := opB0 fun _ _ _ _ _ _ _ q => gt_int q
theorem op_ge : OpR X (compareOp .GtE) (rI0 fun i j => .bl (decide (j ≤ i))) := opB0 fun _ _ _ _ _ _ _ q => ge_int q
theorem nomark (b : Expr) {op : CmpOp} (h : op ≠ .In := by decide) (h2 : op ≠ .NotIn := by decide) : behindInMarks op b = false := by
  have e1 : (op == CmpOp.In) = false := by cases op <;> first | rfl | exact absurd rfl h
  have e2 : (op == CmpOp.NotIn) = false := by cases op <;> first | rfl | exact absurd rfl h2
  cases b <;> simp [behindInMarks, e1, e2]
theorem pe_cmpR {op : CmpOp} {r : R2} (ho : OpR X (compareOp op) r) (ha : PE X a ta) (hb : PE X b tb) (hm : behindInMarks op b = false) : PE X (.Compare a [op] [b] pos) (tOp r ta tb) := by
  intro pins s σ H Q I h
  exact wpAny_Compare1 (binT ha hb I h fun v u s2 x y H2 I2 rx ry q => ho pins s2 σ H2 x y v u Q I2 rx ry q) hm
def tTest (t : TE) : TT := fun σ H Q => t σ H fun x H' => ∃ k, x = .bl k ∧ Q k H'
theorem pt_cmpR {op : CmpOp} {r : R2} (ho : OpR X (compareOp op) r) (ha : PE X a ta) (hb : PE X b tb) (hm : behindInMarks op b = false) : PT X (.Compare a [op] [b] pos) (tTest (tOp r ta tb)) := by
  intro pins s σ H Q I h
  refine wpAny_isTrue_Compare1 (thn (ha pins s σ H _ I h) fun v s1 ⟨x, H1, I1, r1, q1⟩ => thn (hb pins s1 σ H1 _ I1 q1) fun u s2 ⟨y, H2, I2, r2, q2⟩ =>
    thn (ho pins s2 σ H2 x y v u _ I2 r1 r2 q2) fun c s3 ⟨z, H3, I3, r3, k, e, q3⟩ => ?_) hm
  subst e
  cases r3
  exact wpAny_truthy_bool ⟨H3, I3, q3⟩
def TruV (K : PySem.W.Frag) (x : V) (H : Hp) (k : Bool) : Prop :=
  match x with
  | .non => k = false
  | .bl b => k = b
  | .int i => k = (i != 0)
  | .str y => y.length ≤ sizeLine ∧ k = ((y.length : Int) != 0)
  | .byt y => y.size ≤ sizeLine ∧ k = ((y.size : Int) != 0)
  | .ref p => (∃ xs, SqL K H p xs ∧ k = !xs.isEmpty) ∨ (∃ xs, SqT K H p xs ∧ k = !xs.isEmpty) ∨ ∃ kvs, H p = some (.dK kvs) ∧ k = !kvs.isEmpty
  | _ => False
theorem isEmpty_kv {κ : Type} {kvs : List (κ × V)} {vs : List (κ × Value)} (r : KV kvs vs) : (!vs.isEmpty) = !kvs.isEmpty := by
  cases r <;> rfl
theorem isEmpty_of {xs : List V} {its : List Value} (r : Vals xs its) : (!its.toArray.isEmpty) = !xs.isEmpty := by
  cases r <;> simp
theorem line63 : (sizeLine : Nat) < 2 ^ 63 := by rw [sizeLine_eq]; decide
theorem tru_ok : TruR X (fun x H Q => ∃ k, TruV X.K x H k ∧ Q k H) := by
  intro pins s σ H x v Q I rx h
  obtain ⟨k, e, q⟩ := h
  have hl := line63
  have hs : sizeLine = 16777216 := sizeLine_eq
  cases x with
  | non =>
    cases rx
    have e' : k = false := e
    subst e'
    exact truthy_none ⟨H, I, q⟩
  | bl b =>
    cases rx
    have e' : k = b := e
    subst e'
    exact wpAny_truthy_bool ⟨H, I, q⟩
  | int i =>
    obtain ⟨t, rfl⟩ := rx
    have e' : k = (i != 0) := e
    subst e'
    exact PySem.P.truthy_int ⟨H, I, q⟩
  | str y =>
    obtain ⟨t, rfl⟩ := rx
    obtain ⟨hy, e'⟩ : y.length ≤ sizeLine ∧ k = ((y.length : Int) != 0) := e
    subst e'
    exact PySem.P.truthy_str (by omega) ⟨H, I.tok _, q⟩
  | byt y =>
    obtain ⟨t, rfl⟩ := rx
    obtain ⟨hy, e'⟩ : y.size ≤ sizeLine ∧ k = ((y.size : Int) != 0) := e
    subst e'
    exact PySem.W.truthy_bytes (by omega) ⟨H, I.tok _, q⟩
  | ref p =>
    cases rx
    have e' : (∃ xs, SqL X.K H p xs ∧ k = !xs.isEmpty) ∨ (∃ xs, SqT X.K H p xs ∧ k = !xs.isEmpty) ∨ ∃ kvs, H p = some (.dK kvs) ∧ k = !kvs.isEmpty := e
    rcases e' with ⟨xs, hx, e'⟩ | ⟨xs, hx, e'⟩ | ⟨kvs, hx, e'⟩
    · subst e'
      obtain ⟨its, r, pl, hz⟩ := I.list hx
      have hlen := r.length
      exact wpAny_truthy_list pl.isList (by simp only [List.size_toArray]; omega) ⟨H, I.tok _, by rw [isEmpty_of r]; exact q⟩
    · subst e'
      obtain ⟨its, r, pl, hz⟩ := I.tuple hx
      have hlen := r.length
      exact truthy_tuple pl (by simp only [List.size_toArray]; omega) ⟨H, I.tok _, by rw [isEmpty_of r]; exact q⟩
    · subst e'
      obtain ⟨hz, hS, vs, r, m⟩ : kvs.length ≤ sizeLine ∧ (p == sysModules) = false ∧ ∃ vs, KV kvs vs ∧ s.heap.DictOf (mixKind X.prog X.w) p vs := I.hok p _ hx
      have hlen : kvs.length = vs.length := Paired.length r
      exact wpAny_truthy_dict hS m (by omega) ⟨H, I.tok _, by rw [isEmpty_kv r]; exact q⟩
  | _ => exact (show False from e).elim
theorem pt_truth (ha : PE X a ta) (he : ∀ whole, isTrue a X.env whole = (do let v ← whole; standAt a.pos; holding [v] (truthy v))) :
    PT X a (fun σ H Q => ta σ H fun x H' => ∃ k, TruV X.K x H' k ∧ Q k H') := by
  intro pins s σ H Q I h
  exact isTrue_plain (thn (ha pins s σ H _ I h) fun v s1 ⟨x, H1, I1, r1, q1⟩ => tru_ok pins s1 σ H1 x v Q I1 r1 q1) (he _)
theorem vals1 {x : V} {us : List Value} (r : Vals [x] us) : ∃ u, us = [u] ∧ RelV x u := by
  cases r with
  | cons r1 r2 => cases r2; exact ⟨_, rfl, r1⟩
theorem vals2 {x y : V} {us : List Value} (r : Vals [x, y] us) : ∃ u w', us = [u, w'] ∧ RelV x u ∧ RelV y w' := by
  cases r with
  | cons r1 r2 =>
    cases r2 with
    | cons r3 r4 => cases r4; exact ⟨_, _, rfl, r1, r3⟩
theorem call_min2 (hc : X.calm = true) : CallR X (.builtin "min") (fun xs H Q => ∃ i j, xs = [.int i, .int j] ∧ Q (.int (if j < i then j else i)) H) := by
  intro pins s σ H xs us Q I r h
  obtain ⟨i, j, rfl, q⟩ := h
  obtain ⟨u, w', rfl, ⟨t, rfl⟩, ⟨t', rfl⟩⟩ := vals2 r
  refine min_two_ints (I.ok.hd hc) fun h' tk k => ⟨_, H, I.kept k, ?_, q⟩
  by_cases hj : j < i
  · rw [if_pos hj, if_pos hj]; exact ⟨_, rfl⟩
  · rw [if_neg hj, if_neg hj]; exact ⟨_, rfl⟩
theorem call_int1 : CallR X (.type "int") (fun xs H Q => (∃ i, xs = [.int i] ∧ Q (.int i) H) ∨ ∃ k, xs = [.bl k] ∧ Q (.int (if k then 1 else 0)) H) := by
  intro pins s σ H xs us Q I r h
  rcases h with ⟨i, rfl, q⟩ | ⟨k, rfl, q⟩
  · obtain ⟨u, rfl, t, rfl⟩ := vals1 r
    exact call_int_int ⟨.int i, H, I, ⟨_, rfl⟩, q⟩
  · obtain ⟨u, rfl, r1⟩ := vals1 r
    cases r1
    exact call_int_bool ⟨.int (if k then 1 else 0), H, I.tok _, ⟨_, rfl⟩, q⟩
end
end L2
namespace L2
open PySem PySem.Spec PyProof.Rows
structure ObjM (h : Heap) (x dx C : Addr) (mA : Str → Option Value) : Prop where
  obj : h.get? x = some (PySem.W.instObj C dx)
  ns : h.Ns1 dx mA
  ne : dx ≠ x
section
variable {prog : Program} {w : World} {A : Around} {E : Value → Shared → Prop} {s : Shared} {K : PySem.W.Frag} {x dx C f : Addr} {mA : Str → Option Value} {name : Str} {v : Value}
end
section
variable {P : Program} {w : World} {H H' : Hp} {h h' : Heap} {a C dx : Addr} {fs fs' : List (Str × V)}
end
structure Cls (K : PySem.W.Frag) (C : Addr) : Prop where
  pg : PySem.W.plainGet K C Str.empty = true
  hd : PySem.W.hasDictIn K C = true
  po : PySem.W.plainOver K C = true
  sa : PySem.W.findIn K (.ref C) "__setattr__" = some (some (.builtin "object.__setattr__"))
structure Con (K : PySem.W.Frag) (C : Addr) (f : Str) (v : V) (u : Value) : Prop where
  at_ : PySem.W.findIn K (.ref C) f = some (some u)
  rel : RelV v u
  get : PySem.W.specialIn K u "__get__" = some none
  cp : PySem.W.copiedNames.contains f = false
structure Meth (K : PySem.W.Frag) (C : Addr) (m : Str) (f : Addr) : Prop where
  at_ : PySem.W.findIn K (.ref C) m = some (some (.ref f))
  fn : PySem.W.isFn K (.ref f) = true
  kp : PySem.W.keepIn K (.ref f) = true
section
variable {X : Cx} {pins : List (Addr × Obj)} {σ : St} {H : Hp} {s : Shared} {a C dx : Addr} {fs : List (Str × V)} {f : Str} {v : V} {A : Around} {E : Value → Shared → Prop}
end
section
variable {X : Cx} {o e value : Expr} {f : Str} {pos pos' tpos : Pos} {ta tv : TE}
end
section
variable {X : Cx} {pins : List (Addr × Obj)} {σ : St} {H : Hp} {s : Shared} {A : Around} {E : Value → Shared → Prop} {Q : Value → Shared → Prop} {c : Value} {b : Bool}
inductive TyOf (K : PySem.W.Frag) (H : Hp) : V → Value → Prop where
  | non : TyOf K H .non (.type "NoneType")
  | bl (x : Bool) : TyOf K H (.bl x) (.type "bool")
  | int (i : Int) : TyOf K H (.int i) (.type "int")
  | str (x : Str) : TyOf K H (.str x) (.type "str")
  | flt (x : UInt64) : TyOf K H (.flt x) (.type "float")
  | lst {a : Addr} {xs : List V} (e : H a = some (.lst xs)) : TyOf K H (.ref a) (.type "list")
  | frz {a : Addr} {o : Obj} {xs : List V} (e : H a = some (.frz o (.lst xs))) : TyOf K H (.ref a) (.type "list")
  | tup {a : Addr} {xs : List V} (e : H a = some (.tup xs)) : TyOf K H (.ref a) (.type "tuple")
  | dK {a : Addr} {kvs : List (Key × V)} (e : H a = some (.dK kvs)) : TyOf K H (.ref a) (.type "dict")
  | dT {a : Addr} {kvs : List (List Key × V)} (e : H a = some (.dT kvs)) : TyOf K H (.ref a) (.type "dict")
  | ins {a C dx : Addr} {fs : List (Str × V)} (e : H a = some (.ins C dx fs)) (cl : Cls K C) (ha : PySem.W.findIn K (.ref C) "__class__" = some (some (.builtin "object.__class__")))
      (hn : PySem.W.specialIn K (.builtin "object.__class__") "__get__" = some (some (.builtin "getset_descriptor.__get__"))) (htk : PySem.W.takesIn K (.builtin "object.__class__") = some true)
      (hm : PySem.W.mroIn K C (.type "object") = some true) : TyOf K H (.ref a) (.ref C)
end
end L2
namespace L2
open PySem PySem.Spec PyProof.Rows
structure Room (k : Nat) (A : Around) : Prop where
  hd : A.handled = none
  dp : A.depth + 3 * k + 5 < recursionLimit
  un : A.units + 16 * k + 200 < cLine
theorem Room.mono {j k : Nat} {A : Around} (r : Room k A) (h : j ≤ k) : Room j A := ⟨r.hd, by have := r.dp; omega, by have := r.un; omega⟩
theorem Room.deeper {k : Nat} {A : Around} (r : Room (k + 1) A) (env : Env) : Room k (A.deeper env) :=
  ⟨r.hd, by have := r.dp; show A.depth + 1 + 3 * k + 5 < _; omega, by have := r.un; show A.units + 3 + 16 * k + 200 < _; omega⟩
theorem Room.depth {k : Nat} {A : Around} (r : Room k A) : A.depth < recursionLimit := by have := r.dp; omega
theorem Room.units {k : Nat} {A : Around} (r : Room k A) : A.units + 64 < cLine := by have := r.un; omega
def tNil : TA := fun _ H Q => Q [] H
def tCons (ta : TE) (tr : TA) : TA := fun σ H Q => ta σ H fun x H1 => tr σ H1 fun xs H2 => Q (x :: xs) H2
section
variable {X : Cx} {e : Expr} {es : List Expr} {te : TE} {t : TA} {pos : Pos}
theorem pa_nil : PA X [] tNil := fun _ _ _ _ H Q I h => Calls.spliced_nil ⟨[], H, I, .nil, h⟩
theorem pa_cons (ha : PE X e te) (hr : PA X es t) (hs : starEach (e :: es) X.env = (false, eval e X.env) :: starEach es X.env := by rfl) : PA X (e :: es) (tCons te t) := by
  intro pos pins s σ H Q I h
  rw [hs]
  show wpAny _ _ (spliced ((false, eval e X.env) :: backTo pos (starEach es X.env))) _ _ s
  refine Calls.spliced_cons (thn (ha pins s σ H _ I h) fun u s1 ⟨x, H1, I1, r1, q1⟩ => ?_)
  exact thn (hr pos pins s1 σ H1 _ I1 q1) fun us s2 ⟨xs, H2, I2, r2, q2⟩ => ⟨x :: xs, H2, I2, .cons r1 r2, q2⟩
def tTup (t : TA) : TE := fun σ H Q => t σ H fun xs H1 => xs.length ≤ sizeLine ∧ ∀ p, H1 p = none → Q (.ref p) (upd H1 p (.tup xs))
def tLst (t : TA) : TE := fun σ H Q => t σ H fun xs H1 => xs.length ≤ sizeLine ∧ ∀ p, H1 p = none → Q (.ref p) (upd H1 p (.lst xs))
theorem pe_tup {x1} (h : PA X es t) : PE X (.Tuple es x1 pos) (tTup t) := by
  intro pins s σ H Q I hq
  refine wpAny_Tuple_spliced (thn (h pos pins s σ H _ I hq) fun us s1 ⟨xs, H1, I1, r, z, q⟩ => ⟨by rw [← r.length]; exact z, ?_⟩)
  have hf : H1 s1.heap.objs.size = none := I1.hok.fresh (Nat.le_refl _)
  refine ⟨.ref s1.heap.objs.size, upd H1 s1.heap.objs.size (.tup xs), I1.laid (t' := s1.toks) (fun b u e => Heap.get?_push_of_some _ e) (Nat.le_refl _) ?_, rfl, q _ hf⟩
  exact ⟨z, us, r, ⟨_, Heap.get?_push_size _ rfl, rfl, _, rfl⟩⟩
theorem pe_lst (h : PA X es t) : PE X (.List es pos) (tLst t) := by
  intro pins s σ H Q I hq
  refine wpAny_List_spliced (thn (h pos pins s σ H _ I hq) fun us s1 ⟨xs, H1, I1, r, z, q⟩ => ⟨by rw [← r.length]; exact z, ?_⟩)
  have hf : H1 s1.heap.objs.size = none := I1.hok.fresh (Nat.le_refl _)
  refine ⟨.ref s1.heap.objs.size, upd H1 s1.heap.objs.size (.lst xs), I1.laid (t' := s1.toks) (fun b u e => Heap.get?_push_of_some _ e) (Nat.le_refl _) ?_, rfl, q _ hf⟩
  exact ⟨z, us, 0, r, Heap.get?_push_size _ rfl⟩
end
abbrev Sp := List V → Hp → VK → XK → Prop
abbrev CXT := List Env → Hp → Shared → XK → Value → Shared → Prop
structure Env0 (P : Program) (w : World) (K : PySem.W.Frag) (mg : Str → Option Value) (base : Heap) (A : Around) (outer : List Env) (s : Shared) (H : Hp) : Prop where
  frames : A.frames = some outer
  mod : Mod K mg base
  bs : ∀ b o, base.get? b = some o → s.heap.get? b = some o ∧ H b = none
  bsz : base.objs.size ≤ s.heap.objs.size
  funs : s.heap.FunFrames base outer
  frf : ∀ b ∈ frs outer, H b = none
  hok : HOk P w H s.heap
  bare : AllBare s.gens
def CE (outer : List Env) (P : Program) (w : World) (H : Hp) (s : Shared) (Q : VK) (u : Value) (s' : Shared) : Prop :=
  ∃ v H', s'.os = s.os ∧ AllBare s'.gens ∧ Un (frs outer) [] H H' s.heap s'.heap ∧ HOk P w H' s'.heap ∧ RelV v u ∧ Q v H'
def CR (CX : CXT) (outer : List Env) (P : Program) (w : World) (H : Hp) (s : Shared) (Q : VK) (E : XK) (r : Result) (s' : Shared) : Prop :=
  match r with
  | .ok (.ret u) => CE outer P w H s Q u s'
  | .ok _ => False
  | .error e => CX outer H s E e s'
structure FnOk (P : Program) (w : World) (K : PySem.W.Frag) (mg : Str → Option Value) (base : Heap) (CX : CXT) (k : Nat) (f : Addr) (fd : FuncData) (ps : List Str) (sp : Sp) : Prop where
  len : ∀ vs H Q E, sp vs H Q E → vs.length = ps.length
  run : ∀ (A : Around) (outer : List Env) (s : Shared) (H : Hp) (args : Args) (us : List Value) (vs : List V) (Q : VK) (E : XK), Room k A → Env0 P w K mg base A outer s H → BindsTo s fd args (ps.zip us) → Vals vs us → sp vs H Q E →
    codeAny (model P w) A (.call (.ref f) args) (CR CX outer P w H s Q E) s
section
variable {X : Cx} {pins : List (Addr × Obj)} {σ : St} {H : Hp} {s s' : Shared}
theorem Inv.env0 (I : Inv X pins σ H s) : Env0 X.prog X.w X.K X.mg X.base X.A X.stack s H :=
  ⟨I.ok.frames, I.ok.mod, I.bs, Nat.le_trans I.ok.bsz I.sz, I.stack, I.stkFree, I.hok, I.bare⟩
theorem Inv.after {Q : VK} {u : Value} (I : Inv X pins σ H s) (h : CE X.stack X.prog X.w H s Q u s') : EP X pins σ Q u s' := by
  obtain ⟨v, H', os, bare, un, hok, r, q⟩ := h
  obtain ⟨hh, g, d, t, os'⟩ := s'
  obtain rfl : os' = s.os := os
  exact ⟨v, H', I.call (h' := hh) (g' := g) (d' := d) (t' := t) (ch := []) un hok bare (fun b z => absurd z (by simp)), r, q⟩
end
def tCall (sp : Sp) (dvs : List V) (E : XK) (t : TA) : TE := fun σ H Q => t σ H fun vs H1 => sp (vs ++ dvs) H1 Q E
def Binds (K : PySem.W.Frag) (fd : FuncData) (ps : List Str) (ds : List Value) : Prop :=
  ∀ (s : Shared) (us : List Value), K.In s.heap → (us ++ ds).length = ps.length → BindsTo s fd ⟨us, []⟩ (ps.zip (us ++ ds))
theorem Binds.all {K : PySem.W.Frag} {fd : FuncData} {ps : List Str} (h : ∀ us : List Value, us.length = ps.length → bindArgs fd ⟨us, []⟩ = pure (ps.zip us)) : Binds K fd ps [] := fun s us _ hl => by
  rw [List.append_nil] at hl ⊢
  exact .of_eq (h us hl)
def Passes (CX : CXT) (X : Cx) (E : XK) : Prop := ∀ (pins : List (Addr × Obj)) (σ : St) (H : Hp) (s : Shared) (e : Value) (s' : Shared), Inv X pins σ H s → CX X.stack H s E e s' → X.xe e s'
section
variable {X : Cx} {CX : CXT} {k : Nat} {f C : Addr} {fd : FuncData} {ps : List Str} {sp : Sp} {dvs : List V} {ds : List Value} {E : XK} {x m : Str} {p pos apos : Pos} {e o : Expr} {es : List Expr} {ta : TE} {t : TA}
theorem run_fn {pins : List (Addr × Obj)} {σ : St} {H : Hp} {s : Shared} {Q : VK} {us : List Value} {vs : List V} (F : FnOk X.prog X.w X.K X.mg X.base CX k f fd ps sp) (hr : Room k X.A) (hb : Binds X.K fd ps ds) (hd : Vals dvs ds) (hx : Passes CX X E)
    (I : Inv X pins σ H s) (r : Vals vs us) (h : sp (vs ++ dvs) H Q E) : wpAny (model X.prog X.w) X.A (call (.ref f) us) (EP X pins σ Q) X.xe s := by
  have r2 : Vals (vs ++ dvs) (us ++ ds) := r.append hd
  have hl : (us ++ ds).length = ps.length := by rw [← r2.length]; exact F.len _ _ _ _ h
  refine wpAny_call (codeAny_mono (F.run X.A X.stack s H ⟨us, []⟩ (us ++ ds) (vs ++ dvs) Q E hr I.env0 (hb s us I.kIn hl) r2 h) fun r s' hq => ?_)
  cases r with
  | error e => exact hx pins σ H s e s' I hq
  | ok fl =>
    cases fl with
    | ret u => exact I.after hq
    | next => exact False.elim hq
    | brk => exact False.elim hq
    | cont => exact False.elim hq
theorem pe_call (F : FnOk X.prog X.w X.K X.mg X.base CX k f fd ps sp) (hr : Room k X.A) (hg : Gl X x) (hm : X.mg x = some (.ref f)) (hk : PySem.W.keepIn X.K (.ref f) = true) (hb : Binds X.K fd ps ds) (hd : Vals dvs ds) (hx : Passes CX X E)
    (ha : PA X (e :: es) t) (hdb : (x == ("__debug__" : Str)) = false := by decide) (he : starEach (e :: es) X.env = (false, eval e X.env) :: starEach es X.env := by rfl) (hpl : (backTo pos (starEach es X.env)).any (·.1) = false := by rfl) :
    PE X (.Call (.Name x p) (e :: es) [] pos) (tCall sp dvs E t) := by
  intro pins s σ H Q I h
  refine wpAny_Call_Name_kw (ld_glob I hg hm ?_ hdb)
  refine PySem.W.callWith_K (h₀ := X.base) I.ok.mod.kin hk (thn (ha pos pins s σ H _ I h) fun us s1 ⟨vs, H1, I1, r, q⟩ => ⟨I1.kIn, ?_⟩) he hpl
  exact run_fn F hr hb hd hx I1 r q
structure Mk (K : PySem.W.Frag) (C f : Addr) : Prop where
  makes : PySem.W.makesIn K C = true
  init : PySem.W.findIn K (.ref C) "__init__" = some (some (.ref f))
  fn : PySem.W.isFn K (.ref f) = true
  kp : PySem.W.keepIn K (.ref C) = true
end
section
variable {X : Cx} {CX : CXT} {k : Nat} {f C : Addr} {fd : FuncData} {ps ks : List Str} {sp : Sp} {E : XK} {x m : Str} {p pos apos kpos : Pos} {e o : Expr} {es : List Expr} {kws : List Keyword} {te ta : TE} {t tk : TA} {nm : Option Str}
structure KBinds (K : PySem.W.Frag) (fd : FuncData) (ps ks : List Str) (g : List Value → List Value → List Value) (gV : List V → List V → List V) : Prop where
  to : ∀ (s : Shared) (us ws : List Value), K.In s.heap → (g us ws).length = ps.length → BindsTo s fd ⟨us, ks.zip ws⟩ (ps.zip (g us ws))
  rel : ∀ {vs : List V} {us : List Value} {zs : List V} {ws : List Value}, Vals vs us → Vals zs ws → Vals (gV vs zs) (g us ws)
variable {g : List Value → List Value → List Value} {gV : List V → List V → List V}
end
structure FnScope (N P : List Str) (sc : Scope) : Prop where
  kind : sc.kind = .function
  co : sc.isCoroutine = false
  gen : sc.isGenerator = false
  nd : N.Nodup
  pre : N.take P.length = P
  par : ∀ x ∈ P, sc.names.lookup x = some .local ∨ sc.names.lookup x = some .cell
  nofree : ∀ y ∈ sc.names, y.2 ≠ .free
theorem bindL_out {kindOf : Str → Option NameKind} {x : Str} : ∀ {binds : List (Str × Value)} {m : Str → Option Value}, (∀ v, (x, v) ∉ binds) → bindL kindOf binds m x = m x
  | [], _, _ => rfl
  | (n, v) :: r, m, h => by
    unfold bindL
    rw [bindL_out fun w hw => h w (List.mem_cons_of_mem _ hw)]
    split
    · have : x ≠ n := by rintro rfl; exact h v List.mem_cons_self
      simp [this]
    · rfl
theorem bindC_out {kindOf : Str → Option NameKind} {x : Str} : ∀ {binds : List (Str × Value)} {m : Str → Option Value}, (∀ v, (x, v) ∉ binds) → bindC kindOf binds m x = m x
  | [], _, _ => rfl
  | (n, v) :: r, m, h => by
    unfold bindC
    rw [bindC_out fun w hw => h w (List.mem_cons_of_mem _ hw)]
    split
    · rfl
    · have : x ≠ n := by rintro rfl; exact h v List.mem_cons_self
      simp [this]
theorem bindL_get {kindOf : Str → Option NameKind} {x : Str} {v : Value} : ∀ {P : List Str} {vs : List Value} {i : Nat} {m : Str → Option Value}, P.Nodup → P[i]? = some x → vs[i]? = some v → kindOf x = some .local →
    bindL kindOf (P.zip vs) m x = some v
  | [], _, _, _, _, h, _, _ => by simp at h
  | _ :: _, [], _, _, _, _, h, _ => by simp at h
  | p :: P, w :: vs, 0, m, nd, h1, h2, hk => by
    simp at h1 h2; subst h1; subst h2
    show bindL kindOf ((p, w) :: P.zip vs) m p = _
    unfold bindL
    rw [bindL_out fun v hv => (List.nodup_cons.mp nd).1 (List.of_mem_zip hv).1, if_pos hk]
    simp
  | p :: P, w :: vs, i + 1, m, nd, h1, h2, hk => by
    show bindL kindOf ((p, w) :: P.zip vs) m x = _
    unfold bindL
    exact bindL_get (i := i) (List.nodup_cons.mp nd).2 (by simpa using h1) (by simpa using h2) hk
theorem bindC_get {kindOf : Str → Option NameKind} {x : Str} {v : Value} : ∀ {P : List Str} {vs : List Value} {i : Nat} {m : Str → Option Value}, P.Nodup → P[i]? = some x → vs[i]? = some v → kindOf x ≠ some .local →
    bindC kindOf (P.zip vs) m x = some v
  | [], _, _, _, _, h, _, _ => by simp at h
  | _ :: _, [], _, _, _, _, h, _ => by simp at h
  | p :: P, w :: vs, 0, m, nd, h1, h2, hk => by
    simp at h1 h2; subst h1; subst h2
    show bindC kindOf ((p, w) :: P.zip vs) m p = _
    unfold bindC
    rw [bindC_out fun v hv => (List.nodup_cons.mp nd).1 (List.of_mem_zip hv).1, if_neg hk]
    simp
  | p :: P, w :: vs, i + 1, m, nd, h1, h2, hk => by
    show bindC kindOf ((p, w) :: P.zip vs) m x = _
    unfold bindC
    exact bindC_get (i := i) (List.nodup_cons.mp nd).2 (by simpa using h1) (by simpa using h2) hk
def start (N : List Str) (vs : List V) : St := vs.map some ++ List.replicate (N.length - vs.length) none
def cxOf (CX : CXT) (P : Program) (w : World) (K : PySem.W.Frag) (mg : Str → Option Value) (base : Heap) (N : List Str) (qual : Str) (scope : Scope) (f : Addr) (cd : Value) (A : Around) (outer : List Env) (s : Shared) (H : Hp) (E : XK) : Cx where
  prog := P
  w := w
  K := K
  mg := mg
  base := base
  A := A.deeper (envOfC qual scope s.heap.objs.size f cd)
  N := N
  s₀ := s
  H₀ := H
  env := envOfC qual scope s.heap.objs.size f cd
  outer := outer
  stack := envOfC qual scope s.heap.objs.size f cd :: outer
  ex := []
  calm := true
  fn := fun _ => true
  pn := []
  xe := fun e s' => wpAny (model P w) (A.deeper (envOfC qual scope s.heap.objs.size f cd)) (leaving (envOfC qual scope s.heap.objs.size f cd) e) (fun _ s'' => CX outer H s E e s'') (fun e' s'' => CX outer H s E e' s'') s'
theorem cell_has {sc : Scope} {n : Nat} {x : Str} (h : sc.names.lookup x = some .cell) : ∃ c, (cellsFrom n sc.names []).lookup x = some c := by
  have q := PySem.W.cellsFrom_some sc.names n [] (.inl h)
  exact Option.isSome_iff_exists.mp q
theorem inv_start {CX : CXT} {P : Program} {w : World} {K : PySem.W.Frag} {mg : Str → Option Value} {base : Heap} {N ps : List Str} {qual : Str} {scope : Scope} {f : Addr} {cd : Value} {A : Around} {outer : List Env} {s s1 : Shared} {H : Hp} {E : XK} {us : List Value} {vs : List V}
    (S : FnScope N ps scope) (hd : A.handled = none) (e0 : Env0 P w K mg base A outer s H) (hl : vs.length = ps.length) (r : Vals vs us)
    (x : InCallC s s.heap.objs.size (bindL (envOfC qual scope s.heap.objs.size f cd).kindOf (ps.zip us) fun _ => none) (cellsFrom (s.heap.objs.size + 1) scope.names []) (bindC (envOfC qual scope s.heap.objs.size f cd).kindOf (ps.zip us) fun _ => none) s1) :
    Inv (cxOf CX P w K mg base N qual scope f cd A outer s H E) [] (start N vs) H s1 := by
  have hpl : ps.length ≤ N.length := by have := congrArg List.length S.pre; rw [List.length_take] at this; omega
  obtain ⟨h1, tk, rfl, hk⟩ := x.done
  have noA : ∀ b : Addr, b ∉ (cxOf CX P w K mg base N qual scope f cd A outer s H E).ex := fun b z => absurd (show b ∈ ([] : List Addr) from z) (by simp)
  refine ⟨⟨e0.mod, S.kind, rfl, rfl, Nat.le_refl _, fun y z c h1 h2 => ?_, fun y hy => ?_, fun y c _ h => ?_, fun _ => hd, Around.frames_deeper e0.frames, .inr ⟨rfl, rfl⟩, fun b z => absurd z (noA b), e0.bs, e0.bsz, fun b _ _ => noA b, fun b z => absurd z (noA b), e0.funs, e0.frf⟩,
    rfl, e0.bare, Un.kept hk, ⟨_, x.toInCall.ns, fun i y v h1 h2 h3 => ?_⟩, fun y c h => ⟨_, x.cell y c h⟩, e0.hok.fresh (Nat.le_refl _), fun y c h => ?_, fun p hp => absurd (show p ∈ ([] : List (Addr × Obj)) from hp) (by simp), e0.hok.kept hk, ?_⟩
  · exact name_of_addr x.apart (PySem.mem_of_lookup h1) (PySem.mem_of_lookup h2)
  · have hy : scope.names.lookup y = some .cell ∨ scope.names.lookup y = some .free := hy
    rcases hy with hy | hy
    · exact cell_has hy
    · exact absurd rfl (S.nofree _ (PySem.mem_of_lookup hy))
  · exact Nat.le_of_lt (x.above y c (PySem.mem_of_lookup h))
  · have hi : i < vs.length := by
      unfold start at h2
      by_cases hi : i < vs.length
      · exact hi
      · rw [List.getElem?_append_right (by simpa using hi)] at h2
        rw [List.getElem?_replicate] at h2
        split at h2 <;> cases h2
    have ha : vs[i]? = some v := by
      unfold start at h2
      rw [List.getElem?_append_left (by simpa using hi), List.getElem?_map] at h2
      cases e : vs[i]? with
      | none => rw [e] at h2; cases h2
      | some a => rw [e] at h2; cases h2; rfl
    obtain ⟨u, hu, rv⟩ := r.get ha
    have hp : ps[i]? = some y := by
      rw [← S.pre, List.getElem?_take_of_lt (by omega)]; exact h1
    have ndP : ps.Nodup := by rw [← S.pre]; exact S.nd.sublist (List.take_sublist _ _)
    refine ⟨u, rv, ?_⟩
    rcases S.par y (List.mem_of_getElem? hp) with k | k
    · exact .inl ⟨k, bindL_get ndP hp hu k⟩
    · obtain ⟨c, e⟩ := cell_has (n := s.heap.objs.size + 1) k
      refine .inr ⟨.inl k, c, e, ?_⟩
      have q := x.cell y c e
      rw [bindC_get ndP hp hu (by show scope.names.lookup y ≠ _; rw [k]; decide)] at q
      exact q
  · exact e0.hok.fresh (Nat.le_of_lt (x.above y c (PySem.mem_of_lookup h)))
  · unfold start
    show _ = N.length
    rw [List.length_append, List.length_map, List.length_replicate]
    omega
theorem fn_of {CX : CXT} {P : Program} {w : World} {K : PySem.W.Frag} {mg : Str → Option Value} {base : Heap} {k : Nat} {f : Addr} {name qual : Str} {params : Arguments} {body : List Stmt} {scope : Scope} {dV kV doc pm cdv ct oc : Value} {an od : Option Addr}
    {osl : Array (Option Value)} {N ps : List Str} {sp : Sp} (lk : K.lookup f = some ⟨oc, od, .func (PySem.W.fnOf name qual params body scope dV kV doc pm an cdv ct), osl⟩) (hcd : PySem.W.codeIn K cdv qual = true) (S : FnScope N ps scope)
    (len : ∀ vs H Q E, sp vs H Q E → vs.length = ps.length)
    (hbody : ∀ (A : Around) (outer : List Env) (s : Shared) (H : Hp) (vs : List V) (Q : VK) (E : XK), Room k (A.deeper (envOfC qual scope s.heap.objs.size f cdv)) → sp vs H Q E →
      ∃ t, PSs (cxOf CX P w K mg base N qual scope f cdv A outer s H E) body t ∧ t { nx := fun _ H' => Q .non H', rt := Q } (start N vs) H) :
    FnOk P w K mg base CX (k + 1) f (PySem.W.fnOf name qual params body scope dV kV doc pm an cdv ct) ps sp := by
  refine ⟨len, fun A outer s H args us vs Q E hr e0 hb r hsp => ?_⟩
  have hl := len _ _ _ _ hsp
  have KX : K.In s.heap := e0.mod.kin.keeps fun b o e => (e0.bs b o e).1
  have lim : s.heap.NoLimit := e0.mod.nolimit.keeps fun b o e => (e0.bs b o e).1
  have hkind : ∀ y ∈ ps.zip us, scope.names.lookup y.1 = some .local ∨ (scope.names.lookup y.1 = some .cell ∧ ((cellsFrom (s.heap.objs.size + 1) scope.names []).lookup y.1).isSome = true) := fun ⟨n, v⟩ hy => by
    rcases S.par n (List.of_mem_zip hy).1 with q | q
    · exact .inl q
    · exact .inr ⟨q, PySem.W.cellsFrom_some _ _ _ (.inl q)⟩
  refine codeAny_call_function hr.depth (KX _ _ lk) rfl S.co S.gen rfl (PySem.W.codeRec_of KX hcd) (hb _ _ _ _ ?_)
  refine wpAny_newFunctionEnv_cells S.kind hkind fun env he s1 x => ?_
  subst he
  refine ⟨lim.keeps x.toInCall.keep, codeAny_func ?_⟩
  obtain ⟨t, ht, hq⟩ := hbody A outer s H vs Q E (hr.deeper _) hsp
  have I : Inv (cxOf CX P w K mg base N qual scope f cdv A outer s H E) [] (start N vs) H s1 := inv_start S hr.hd e0 hl r x
  refine wpAny_mono (ht [] s1 (start N vs) H _ I hq) (fun fl s' hs => ?_) fun e s' hs => hs
  have fin : ∀ {σ' : St} {H' : Hp} {v : V} {u : Value}, Inv (cxOf CX P w K mg base N qual scope f cdv A outer s H E) [] σ' H' s' → RelV v u → Q v H' → CE outer P w H s Q u s' :=
    fun {σ' H' v u} J rv q => ⟨v, H', J.os, J.bare, J.base, J.hok, rv, q⟩
  cases fl with
  | ret u =>
    obtain ⟨v, σ', H', J, rv, q⟩ := hs
    exact fin J rv q
  | next =>
    obtain ⟨σ', H', J, q⟩ := hs
    exact fin (v := V.non) (u := Value.none) J rfl q
  | brk =>
    obtain ⟨_, _, _, q⟩ := hs
    exact False.elim q
  | cont =>
    obtain ⟨_, _, _, q⟩ := hs
    exact False.elim q
end L2
namespace L2
open PySem PySem.Spec PyProof.Rows
section
variable {X : Cx} {x : Str} {p pos : Pos} {e : Expr} {es : List Expr} {t : TA} {id T : String} {r : List V → Hp → VK → Prop}
def tCB (r : List V → Hp → VK → Prop) (t : TA) : TE := fun σ H Q => t σ H fun vs H1 => r vs H1 Q
theorem pe_callB (hc : CallR X (.builtin id) r) (hg : Gl X x) (hm : X.mg x = none) (hv : bootBuiltins x = some (.builtin id)) (ha : PA X (e :: es) t) (hn : x ≠ "__name__" := by decide) (hdb : (x == ("__debug__" : Str)) = false := by decide)
    (he : starEach (e :: es) X.env = (false, eval e X.env) :: starEach es X.env := by rfl) (hpl : (backTo pos (starEach es X.env)).any (·.1) = false := by rfl) : PE X (.Call (.Name x p) (e :: es) [] pos) (tCB r t) := by
  intro pins s σ H Q I h
  refine wpAny_Call_Name_kw (ld_blt I hg hm hv ?_ hn hdb)
  exact PyProof.Rows.callWith_builtin1 (thn (ha pos pins s σ H _ I h) fun us s1 ⟨vs, H1, I1, r1, q1⟩ => hc pins s1 σ H1 vs us Q I1 r1 q1) he hpl
theorem pe_callTy (hc : CallR X (.type T) r) (hg : Gl X x) (hm : X.mg x = none) (hv : bootBuiltins x = some (.type T)) (ha : PA X (e :: es) t) (hn : x ≠ "__name__" := by decide) (hdb : (x == ("__debug__" : Str)) = false := by decide)
    (he : starEach (e :: es) X.env = (false, eval e X.env) :: starEach es X.env := by rfl) (hpl : (backTo pos (starEach es X.env)).any (·.1) = false := by rfl) : PE X (.Call (.Name x p) (e :: es) [] pos) (tCB r t) := by
  intro pins s σ H Q I h
  refine wpAny_Call_Name_kw (ld_blt I hg hm hv ?_ hn hdb)
  exact PyProof.Rows.callWith_type1 (thn (ha pos pins s σ H _ I h) fun us s1 ⟨vs, H1, I1, r1, q1⟩ => hc pins s1 σ H1 vs us Q I1 r1 q1) he hpl
end
end L2
namespace HT
open PySem PyProof.Rows
section
open PySem.SeqAt
open PySem.AutoSeq1 (wpAny_loadPart')
open PySem.MeetsSeq PySem.MeetsSeq2 PySem.MeetsSeq3
end
section
variable {prog : Program} {w : World} {A : Around} {E : Value → Shared → Prop} {s : Shared}
def sIx (n d : Nat) : Option Int → Nat
  | none => d
  | some v => if v < 0 then (v + (n : Int)).toNat else min v.toNat n
theorem sIx_nat (n d k : Nat) : sIx n d (some (k : Int)) = min k n := by
  show (if (k : Int) < 0 then ((k : Int) + (n : Int)).toNat else min (k : Int).toNat n) = min k n
  rw [if_neg (by omega), Int.toNat_natCast]
end
end HT
namespace L2
open PySem PySem.Spec PyProof.Rows
abbrev TO := St → Hp → (Option Int → Hp → Prop) → Prop
def PO (X : Cx) (e : Option Expr) (t : TO) : Prop :=
  ∀ (pins : List (Addr × Obj)) (s : Shared) (σ : St) (H : Hp) (Q : Option Int → Hp → Prop), Inv X pins σ H s → t σ H Q →
    wpAny (model X.prog X.w) X.A (evalPart e X.env) (fun u s' => ∃ o H', Inv X pins σ H' s' ∧ IsPart u o ∧ Q o H') X.xe s
def tNoPart : TO := fun _ H Q => Q none H
def tPart (t : TE) : TO := fun σ H Q => t σ H fun x H1 => ∃ i, x = .int i ∧ Q (some i) H1
theorem intsAre_of {ns : List Int} : ∀ {us : List Value}, Vals (ns.map V.int) us → IntsAre us ns := by
  induction ns with
  | nil => intro us r; rw [List.map_nil] at r; cases r; exact .nil
  | cons n ns ih =>
    intro us r
    rw [List.map_cons] at r
    cases r with
    | cons r1 r2 =>
      obtain ⟨t, e⟩ := r1
      subst e
      exact .cons n t (ih r2)
section
variable {X : Cx} {e : Expr} {te : TE} {lo hi : Option Expr} {tl th : TO} {pos p2 : Pos}
theorem po_none : PO X none tNoPart := by
  intro pins s σ H Q I h
  rw [evalPart_none]
  exact wpAny_pure ⟨none, H, I, .none, h⟩
theorem po_some (h : PE X e te) : PO X (some e) (tPart te) := by
  intro pins s σ H Q I hw
  rw [evalPart_some]
  refine thn (h pins s σ H _ I hw) fun u s1 ⟨x, H1, I1, r1, q1⟩ => ?_
  obtain ⟨i, rfl, q⟩ := q1
  obtain ⟨t, rfl⟩ := r1
  exact ⟨some i, H1, I1, .int i t, q⟩
def SlR (X : Cx) (r : V → Option Int → Option Int → Hp → VK → Prop) : Prop :=
  ∀ (pins : List (Addr × Obj)) (s : Shared) (σ : St) (H : Hp) (x : V) (v vl vu : Value) (lo hi : Option Int) (sl : Addr) (Q : VK), Inv X pins σ H s → RelV x v → s.heap.IsSliceOf sl vl vu .none → IsPart vl lo → IsPart vu hi → r x lo hi H Q →
    ∃ T id, typeLookup (.type T) "__getitem__" = pure (some (.builtin id)) ∧ s.TypeIs v T ∧ wpAny (model X.prog X.w) X.A (getItem v (.ref sl)) (EP X pins σ Q) X.xe s
def tSl (r : V → Option Int → Option Int → Hp → VK → Prop) (te : TE) (tl th : TO) : TE := fun σ H Q => te σ H fun x H1 => tl σ H1 fun l H2 => th σ H2 fun u H3 => r x l u H3 Q
theorem pe_slice {r : V → Option Int → Option Int → Hp → VK → Prop} (hr : SlR X r) (he : PE X e te) (hl : PO X lo tl) (hu : PO X hi th) : PE X (.Subscript e (.Slice lo hi none p2) pos) (tSl r te tl th) := by
  intro pins s σ H Q I h
  refine Subscript_ (thn (he pins s σ H _ I h) fun v s1 ⟨x, H1, I1, r1, q1⟩ => ?_)
  refine wpAny_Slice (thn (hl pins s1 σ H1 _ I1 q1) fun vl s2 ⟨l, H2, I2, pl, q2⟩ => thn (hu pins s2 σ H2 _ I2 q2) fun vu s3 ⟨u, H3, I3, pu, q3⟩ => ?_)
  rw [evalPart_none]
  refine wpAny_pure ?_
  have I4 : Inv X pins σ H3 { s3 with heap := s3.heap.push { cls := .type "slice", data := .fields #[vl, vu, .none] } } := I3.kept (t' := s3.toks) fun b ob q => Heap.get?_push_of_some _ q
  obtain ⟨T, id, hT, ht, hg⟩ := hr pins { s3 with heap := s3.heap.push { cls := .type "slice", data := .fields #[vl, vu, .none] } } σ H3 x v vl vu l u s3.heap.objs.size Q I4 r1 (Heap.IsSliceOf.new ..) pl pu q3
  show wpAny (model X.prog X.w) X.A (subscriptTail e (.Slice lo hi none p2) v (.ref s3.heap.objs.size)) (EP X pins σ Q) X.xe { s3 with heap := s3.heap.push { cls := .type "slice", data := .fields #[vl, vu, .none] } }
  exact tail_any (ops := [.ref s3.heap.objs.size, v]) ht hT hg (by with_unfolding_all rfl)
def cutV (xs : List V) (lo hi : Option Int) : List V := (xs.drop (HT.sIx xs.length 0 lo)).take (HT.sIx xs.length xs.length hi - HT.sIx xs.length 0 lo)
theorem cutV_length (xs : List V) (lo hi : Option Int) : (cutV xs lo hi).length ≤ xs.length := by
  unfold cutV
  rw [List.length_take, List.length_drop]
  omega
end
end L2
namespace L2
open PySem PySem.Spec PyProof.Rows
def ixN (n : Nat) (i : Int) : Option Nat := if 0 ≤ i then (if i < n then some i.toNat else none) else if -(n : Int) ≤ i then some (i + n).toNat else none
def atI {α : Type} (xs : List α) (i : Int) : Option α := (ixN xs.length i).bind fun j => xs[j]?
theorem ixN_seq {n : Nat} {i : Int} {j : Nat} (h : ixN n i = some j) : seqIndex? i n = some j ∧ j < n ∧ -(n : Int) ≤ i ∧ i < n := by
  unfold ixN at h
  by_cases h0 : 0 ≤ i
  · rw [if_pos h0] at h
    by_cases h1 : i < n
    · rw [if_pos h1] at h
      have e : i.toNat = j := Option.some.inj h
      exact ⟨by rw [seqIndex_of h0 h1, e], by omega, by omega, h1⟩
    · rw [if_neg h1] at h; cases h
  · rw [if_neg h0] at h
    by_cases h1 : -(n : Int) ≤ i
    · rw [if_pos h1] at h
      have e : (i + n).toNat = j := Option.some.inj h
      exact ⟨by rw [seqIndex_neg (by omega) h1, e], by omega, h1, by omega⟩
    · rw [if_neg h1] at h; cases h
theorem atI_get {α : Type} {xs : List α} {i : Int} {v : α} (h : atI xs i = some v) : ∃ j, seqIndex? i xs.length = some j ∧ xs[j]? = some v ∧ j < xs.length ∧ -(xs.length : Int) ≤ i ∧ i < xs.length := by
  unfold atI at h
  cases e : ixN xs.length i with
  | none => rw [e] at h; cases h
  | some j =>
    rw [e] at h
    obtain ⟨h1, h2, h3, h4⟩ := ixN_seq e
    exact ⟨j, h1, h, h2, h3, h4⟩
theorem atI_nat {α : Type} {xs : List α} {j : Nat} {v : α} (h : xs[j]? = some v) : atI xs (j : Int) = some v := by
  have hj : j < xs.length := (List.getElem?_eq_some_iff.mp h).1
  have e : ixN xs.length (j : Int) = some j := by
    unfold ixN
    rw [if_pos (by omega), if_pos (by omega)]; simp
  unfold atI; rw [e]; exact h
def PlainIx (b : Expr) : Prop := ∀ o i, subscripted b false o i = operate [o, i] (getItem o i)
def IxR (X : Cx) (r : R2) : Prop :=
  ∀ (value slice : Expr) (pins : List (Addr × Obj)) (s : Shared) (σ : St) (H : Hp) (x y : V) (v u : Value) (Q : VK), Inv X pins σ H s → RelV x v → RelV y u → r x y H Q →
    subscripted slice false v u = operate [v, u] (getItem v u) → wpAny (model X.prog X.w) X.A (subscriptTail value slice v u) (EP X pins σ Q) X.xe s
def MtR (X : Cx) (id : String) (r : V → List V → Hp → VK → Prop) : Prop :=
  ∀ (pins : List (Addr × Obj)) (s : Shared) (σ : St) (H : Hp) (x : V) (xs : List V) (v : Value) (us : List Value) (Q : VK), Inv X pins σ H s → RelV x v → Vals xs us → r x xs H Q →
    wpAny (model X.prog X.w) X.A (call (.builtin id) (v :: us)) (EP X pins σ Q) X.xe s
section
variable {X : Cx} {a b : Expr} {ta tb : TE} {pos : Pos}
theorem pe_ix {r : R2} (hr : IxR X r) (ha : PE X a ta) (hb : PE X b tb) (hs : PlainIx b) : PE X (.Subscript a b pos) (tOp r ta tb) := by
  intro pins s σ H Q I h
  exact Subscript_ (binT ha hb I h fun v u s2 x y H2 I2 rx ry q => hr a b pins s2 σ H2 x y v u Q I2 rx ry q (hs _ _))
def rIxL (K : PySem.W.Frag) : R2 := fun x y H Q => ∃ p xs i v, x = .ref p ∧ y = .int i ∧ SqL K H p xs ∧ atI xs i = some v ∧ Q v H
def rIxT (K : PySem.W.Frag) : R2 := fun x y H Q => ∃ p xs i v, x = .ref p ∧ y = .int i ∧ SqT K H p xs ∧ atI xs i = some v ∧ Q v H
theorem ix_list : IxR X (rIxL X.K) := by
  intro value slice pins s σ H x y v u Q I rx ry h hs
  obtain ⟨p, xs, i, z, rfl, rfl, hq, he, q⟩ := h
  cases rx
  obtain ⟨t, rfl⟩ := ry
  obtain ⟨its, r, pl, hz⟩ := I.list hq
  obtain ⟨j, h1, h2, h3, h4, h5⟩ := atI_get he
  obtain ⟨w, ew, rw'⟩ := r.get h2
  have hl := r.length
  have hn := line63
  have fin : EP X pins σ Q w s := ⟨z, H, I, rw', q⟩
  by_cases h0 : 0 ≤ i
  · have hj : i.toNat = j := by
      rw [seqIndex_of h0 h5] at h1
      exact Option.some.inj h1
    exact item_listR pl.isList h0 (by omega) (by rw [hj]; simpa using ew) fin hs
  · have hj : (i + (its.toArray.size : Int)).toNat = j := by
      rw [seqIndex_neg (by omega) h4] at h1
      rw [List.size_toArray, ← hl]
      exact Option.some.inj h1
    exact subscriptTail_builtinR (x := w) pl.isList.typeIs slot_list_getitem.lookup
      (wpAny_getItem_list_neg (Q := fun r s' => r = w ∧ EP X pins σ Q r s') pl.isList (by omega) (by rw [List.size_toArray] <;> omega) (by omega) (by rw [hj]; simpa using ew) ⟨rfl, fin⟩) hs
theorem ix_tup : IxR X (rIxT X.K) := by
  intro value slice pins s σ H x y v u Q I rx ry h hs
  obtain ⟨p, xs, i, z, rfl, rfl, hq, he, q⟩ := h
  cases rx
  obtain ⟨t, rfl⟩ := ry
  obtain ⟨its, r, pl, hz⟩ := I.tuple hq
  obtain ⟨j, h1, h2, h3, h4, h5⟩ := atI_get he
  obtain ⟨w, ew, rw'⟩ := r.get h2
  have hl := r.length
  have hn := line63
  have fin : EP X pins σ Q w s := ⟨z, H, I, rw', q⟩
  exact subscriptTail_builtinR (x := w) pl.typeIs slot_tuple_getitem.lookup
    (getItem_tuple (j := j) (Q := fun r s' => r = w ∧ EP X pins σ Q r s') pl (by omega) (by omega) (by rw [List.size_toArray, ← hl]; exact h1) (by simpa using ew) ⟨rfl, fin⟩) hs
theorem mapSeq_set (its : List Value) (n j : Nat) (u : Value) : Obj.mapSeq (·.setIfInBounds j u) { cls := .type "list", data := .seq its.toArray n } = { cls := .type "list", data := .seq (its.set j u).toArray n } := by
  simp [Obj.mapSeq]
theorem Inv.lst {pins : List (Addr × Obj)} {σ : St} {H : Hp} {s : Shared} {p : Addr} {xs : List V} (I : Inv X pins σ H s) (h : H p = some (.lst xs)) :
    ∃ (its : List Value) (n : Nat), Vals xs its ∧ s.heap.get? p = some { cls := .type "list", data := .seq its.toArray n } ∧ xs.length ≤ sizeLine := by
  obtain ⟨z, its, n, r, e⟩ := I.hok p _ h
  exact ⟨its, n, r, e, z⟩
theorem Inv.lstUpd {pins : List (Addr × Obj)} {σ : St} {H : Hp} {s : Shared} {p : Addr} {xs ys : List V} {its its' : List Value} {n n' : Nat} {f : Obj → Obj} (I : Inv X pins σ H s) (h : H p = some (.lst xs))
    (ho : s.heap.get? p = some { cls := .type "list", data := .seq its.toArray n }) (hf : f { cls := .type "list", data := .seq its.toArray n } = { cls := .type "list", data := .seq its'.toArray n' }) (r : Vals ys its') (hz : ys.length ≤ sizeLine) (t : Nat) :
    Inv X pins σ (upd H p (.lst ys)) { s with heap := s.heap.update p f, toks := t } := by
  have e : (s.heap.update p f).get? p = some { cls := .type "list", data := .seq its'.toArray n' } := by
    rw [Heap.get?_update_self f ho (by rw [hf] <;> rfl), hf]
  refine I.write (x := p) (e := p) (by rw [h]; trivial) (.inl rfl) (fun b u hb q => (Heap.get?_update_other _ _ (Ne.symm hb)).trans q) ⟨_, e⟩ ?_
  exact ⟨hz, its', n', r, e⟩
def rSetL : V → V → V → Hp → (Hp → Prop) → Prop := fun o i v H Q => ∃ p xs k j, o = .ref p ∧ i = .int k ∧ H p = some (.lst xs) ∧ ixN xs.length k = some j ∧ Q (upd H p (.lst (xs.set j v)))
theorem set_list : PSet X rSetL := by
  intro pins s σ H o i v ov iv u Q I ro ri rv h
  obtain ⟨p, xs, k, j, rfl, rfl, hp, hj, q⟩ := h
  cases ro
  obtain ⟨t, rfl⟩ := ri
  obtain ⟨its, n, r, ho, hz⟩ := I.lst hp
  obtain ⟨h1, h2, h3, h4⟩ := ixN_seq hj
  have hl := r.length
  have hn := line63
  have I' : Inv X pins σ (upd H p (.lst (xs.set j v))) { s with heap := s.heap.update p (Obj.mapSeq (·.setIfInBounds j u)) } :=
    I.lstUpd hp ho (mapSeq_set its n j u) (r.set rv j) (by rw [List.length_set]; exact hz) s.toks
  by_cases h0 : 0 ≤ k
  · have hk : k.toNat = j := by
      rw [seqIndex_of h0 h4] at h1
      exact Option.some.inj h1
    exact PySem.W.ki_setAt ho h0 (by omega) (by rw [List.size_toArray, ← hl]; exact h4) (by rw [hk]; exact ⟨_, I', q⟩)
  · have hk : (k + (its.toArray.size : Int)).toNat = j := by
      rw [seqIndex_neg (by omega) h3] at h1
      rw [List.size_toArray, ← hl]
      exact Option.some.inj h1
    exact PySem.W.ki_setBack ho (by omega) (by rw [List.size_toArray, ← hl]; exact h3) (by omega) (by rw [hk]; exact ⟨_, I', q⟩)
theorem slice_bounds (lo hi : Option Int) (n : Nat) : (sliceBounds lo hi none n).1 = ((HT.sIx n 0 lo : Nat) : Int) ∧ (sliceBounds lo hi none n).2.1 = ((HT.sIx n n hi : Nat) : Int) ∧ (sliceBounds lo hi none n).2.2 = 1 := by
  refine ⟨?_, ?_, rfl⟩
  · cases lo with
    | none => simp [sliceBounds, HT.sIx]
    | some i =>
      simp only [sliceBounds, HT.sIx, Option.getD_none, show (1 : Int) > 0 by decide, if_true]
      by_cases h : i < 0
      · simp only [h, if_true] <;> omega
      · simp only [h, if_false] <;> omega
  · cases hi with
    | none => simp [sliceBounds, HT.sIx]
    | some i =>
      simp only [sliceBounds, HT.sIx, Option.getD_none, show (1 : Int) > 0 by decide, if_true]
      by_cases h : i < 0
      · simp only [h, if_true] <;> omega
      · simp only [h, if_false] <;> omega
theorem slicePick_cut (its : List Value) (lo hi : Option Int) : slicePick its.toArray lo hi none = ((its.drop (HT.sIx its.length 0 lo)).take (HT.sIx its.length its.length hi - HT.sIx its.length 0 lo)).toArray := by
  obtain ⟨h1, h2, h3⟩ := slice_bounds lo hi its.toArray.size
  unfold slicePick
  rw [h1, h2, h3]
  simp only [sliceRange_one, pick_run, List.size_toArray] <;> rfl
def rSlL (K : PySem.W.Frag) : V → Option Int → Option Int → Hp → VK → Prop := fun x lo hi H Q => ∃ a xs, x = .ref a ∧ SqL K H a xs ∧ ∀ p, H p = none → Q (.ref p) (upd H p (.lst (cutV xs lo hi)))
theorem sl_list : SlR X (rSlL X.K) := by
  intro pins s σ H x v vl vu lo hi sl Q I rx hs pl pu h
  obtain ⟨a, xs, rfl, hx, q⟩ := h
  cases rx
  obtain ⟨its, r, ht, hz⟩ := I.list hx
  have hlen := r.length
  refine ⟨"list", _, slot_list_getitem.lookup, ht.isList.typeIs, ?_⟩
  refine wpAny_getItem_list_slice ht.isList hs pl pu .none (by simp) ?_ (by rw [List.size_toArray] <;> omega)
  rw [slicePick_cut, ← hlen]
  refine ⟨.ref s.heap.objs.size, _, I.laid (t' := s.toks) (o := .lst (cutV xs lo hi)) (fun b ob q => Heap.get?_push_of_some _ q) (Nat.le_refl _) ?_, rfl, q _ (I.hok.fresh (Nat.le_refl _))⟩
  exact ⟨Nat.le_trans (cutV_length xs lo hi) hz, _, 0, (r.drop (HT.sIx xs.length 0 lo)).take (HT.sIx xs.length xs.length hi - HT.sIx xs.length 0 lo), Heap.get?_push_size _ rfl⟩
theorem call_len_seq : CallR X (.builtin "len") (fun xs H Q => ∃ p ys, xs = [.ref p] ∧ (SqL X.K H p ys ∨ SqT X.K H p ys) ∧ Q (.int ys.length) H) := by
  intro pins s σ H xs us Q I r h
  obtain ⟨p, ys, rfl, hq, q⟩ := h
  obtain ⟨u, rfl, rx⟩ := vals1 r
  cases rx
  have hn := line63
  rcases hq with hq | hq
  · obtain ⟨its, r', pl, hz⟩ := I.list hq
    have hlen := r'.length
    exact Calls.call_len_list pl.isList (by simp only [List.size_toArray] <;> omega) ⟨.int ys.length, H, I.tok _, ⟨s.toks + 1, by rw [List.size_toArray, hlen]⟩, q⟩
  · obtain ⟨its, r', pl, hz⟩ := I.tuple hq
    have hlen := r'.length
    exact len_tuple pl (by simp only [List.size_toArray] <;> omega) ⟨.int ys.length, H, I.tok _, ⟨s.toks + 1, by rw [List.size_toArray, hlen]⟩, q⟩
theorem call_list_of : CallR X (.type "list") (fun xs H Q => ∃ p ys, xs = [.ref p] ∧ (SqL X.K H p ys ∨ SqT X.K H p ys) ∧ ∀ l, H l = none → Q (.ref l) (upd H l (.lst ys))) := by
  intro pins s σ H xs us Q I r h
  obtain ⟨p, ys, rfl, hq, q⟩ := h
  obtain ⟨u, rfl, rx⟩ := vals1 r
  cases rx
  have fin : ∀ (its : List Value), Vals ys its → ys.length ≤ sizeLine → ∀ (h' : Heap) (c' : Nat), (∀ b o', s.heap.get? b = some o' → h'.get? b = some o') →
      h'.get? s.heap.objs.size = some { cls := .type "list", dict := none, data := .seq its.toArray c', slots := #[] } → EP X pins σ Q (.ref s.heap.objs.size) { s with heap := h' } := fun its r' hz h' c' kp e =>
    ⟨.ref s.heap.objs.size, _, I.laid (t' := s.toks) kp (Nat.le_refl _) (show ObjOk X.prog X.w _ h' _ (.lst ys) from ⟨hz, its, c', r', e⟩), rfl, q _ (I.hok.fresh (Nat.le_refl _))⟩
  rcases hq with hq | hq
  · obtain ⟨its, r', pl, hz⟩ := I.list hq
    have hlen := r'.length
    obtain ⟨o, ho, hc, n, hd⟩ := pl.isList
    exact call_list_seq p (.inl rfl) ho hc hd (fun h' c' kp e => fin its r' hz h' c' kp e) (by simp only [List.size_toArray] <;> omega)
  · obtain ⟨its, r', pl, hz⟩ := I.tuple hq
    have hlen := r'.length
    obtain ⟨o, ho, hc, n, hd⟩ := pl
    exact call_list_seq p (.inr rfl) ho hc hd (fun h' c' kp e => fin its r' hz h' c' kp e) (by simp only [List.size_toArray] <;> omega)
def tyV (K : PySem.W.Frag) (T : String) (x : V) (H : Hp) : Prop := match x with
  | .str _ => T = "str"
  | .int _ => T = "int"
  | .ref p => (T = "list" ∧ ∃ xs, SqL K H p xs) ∨ (T = "tuple" ∧ ∃ o, K.lookup p = some o ∧ o.cls = .type "tuple" ∧ o.dict = none) ∨
      (T = "dict" ∧ ((∃ kvs, H p = some (.dK kvs)) ∨ ∃ kvs, H p = some (.dT kvs))) ∨ (T = "set" ∧ ∃ S n, H p = some (.set S n))
  | _ => False
theorem tyV_is {pins : List (Addr × Obj)} {σ : St} {H : Hp} {s : Shared} {T : String} {x : V} {v : Value} (I : Inv X pins σ H s) (r : RelV x v) (ty : tyV X.K T x H) :
    s.TypeIs v T ∧ ∀ a, v = .ref a → ∃ ob, s.heap.get? a = some ob ∧ ob.dict = none := by
  cases x with
  | str z =>
    obtain ⟨t, rfl⟩ := r
    cases (show T = "str" from ty)
    exact ⟨typeIs_str s z t, fun _ e => nomatch e⟩
  | int i =>
    obtain ⟨t, rfl⟩ := r
    cases (show T = "int" from ty)
    exact ⟨typeIs_int s i t, fun _ e => nomatch e⟩
  | ref p =>
    cases r
    rcases ty with ⟨rfl, xs, hq⟩ | ⟨rfl, o, hk, hc, hd⟩ | ⟨rfl, hk⟩ | ⟨rfl, S, n, hk⟩
    · obtain ⟨its, _, pl, _⟩ := I.list hq
      refine ⟨pl.isList.typeIs, fun a e => ?_⟩
      cases e
      obtain ⟨o, n, e, c, hd, _⟩ := pl
      exact ⟨o, e, hd⟩
    · refine ⟨⟨o, I.kIn p o hk, hc⟩, fun a e => ?_⟩
      cases e
      exact ⟨o, I.kIn _ o hk, hd⟩
    · have z : ∃ o, s.heap.get? p = some o ∧ o.ExactDict := by
        rcases hk with ⟨kvs, hk⟩ | ⟨kvs, hk⟩
        · obtain ⟨_, _, _, _, o, _, _, e, ex, _⟩ := I.hok p _ hk
          exact ⟨o, e, ex⟩
        · obtain ⟨_, _, _, _, o, _, _, e, ex, _⟩ := I.hok p _ hk
          exact ⟨o, e, ex⟩
      obtain ⟨o, e, ex⟩ := z
      refine ⟨⟨o, e, ex.1⟩, fun a e2 => ?_⟩
      cases e2
      exact ⟨o, e, ex.2.1⟩
    · obtain ⟨o, _, _, _, e, ex, _⟩ := I.hok p _ hk
      refine ⟨⟨o, e, ex.1⟩, fun a e2 => ?_⟩
      cases e2
      exact ⟨o, e, ex.2.1⟩
  | _ => exact False.elim ty
def tBM0 (K : PySem.W.Frag) (T : String) (r : V → List V → Hp → VK → Prop) (to : TE) : TE := fun σ H Q => to σ H fun x H1 => tyV K T x H1 ∧ r x [] H1 Q
def tBM (K : PySem.W.Frag) (T : String) (r : V → List V → Hp → VK → Prop) (to : TE) (t : TA) : TE := fun σ H Q => to σ H fun x H1 => tyV K T x H1 ∧ t σ H1 fun xs H2 => r x xs H2 Q
variable {o e : Expr} {es : List Expr} {to : TE} {t : TA} {name : Str} {apos cpos : Pos} {T id : String} {r : V → List V → Hp → VK → Prop}
theorem pe_bm0 (pa : PlainAttrs T) (slot : Slot T name id) (hty : typeOf (.builtin id) = pure (.type "method_descriptor")) (hm : MtR X id r) (ho : PE X o to)
    (hbase : attributeBase o name X.env (eval o X.env) = eval o X.env := by rfl) (hline : (apos.endLine == cpos.line) = true := by rfl) : PE X (.Call (.Attribute o name apos) [] [] cpos) (tBM0 X.K T r to) := by
  intro pins s σ H Q I h
  refine wpAny_Call_method0_late hbase hline (thn (ho pins s σ H _ I h) fun v s1 ⟨x, H1, I1, r1, ty, q1⟩ => ?_)
  obtain ⟨h1, h2⟩ := tyV_is I1 r1 ty
  exact ⟨T, id, pa, slot, hty, h1, h2, Calls.callWith_builtin rfl (PySem.evalArgs_none (hm pins s1 σ H1 x [] v [] Q I1 r1 .nil q1))⟩
theorem pe_bm (pa : PlainAttrs T) (slot : Slot T name id) (hty : typeOf (.builtin id) = pure (.type "method_descriptor")) (hm : MtR X id r) (ho : PE X o to) (ha : PA X (e :: es) t)
    (hbase : attributeBase o name X.env (eval o X.env) = eval o X.env := by rfl)
    (hfew : ((backTo cpos (starEach (e :: es) X.env)).all (fun x => !x.1) && (backToKw cpos (keywordEach [] X.env)).all (fun x => x.1.isSome)
      && decide ((e :: es).length + ([] : List Keyword).length + (if ([] : List Keyword).isEmpty then 0 else 1) < 30)) = true := by rfl)
    (hline : (apos.endLine == cpos.line) = true := by rfl) (hs : starEach (e :: es) X.env = (false, eval e X.env) :: starEach es X.env := by rfl) (hplain : (backTo cpos (starEach es X.env)).any (·.1) = false := by rfl) :
    PE X (.Call (.Attribute o name apos) (e :: es) [] cpos) (tBM X.K T r to t) := by
  intro pins s σ H Q I h
  refine wpAny_Call_method_late hbase hfew hline rfl (thn (ho pins s σ H _ I h) fun v s1 ⟨x, H1, I1, r1, ty, q1⟩ => ?_)
  obtain ⟨h1, h2⟩ := tyV_is I1 r1 ty
  refine ⟨T, id, pa, slot, hty, h1, h2, ?_⟩
  have hA := ha cpos pins s1 σ H1 _ I1 q1
  rw [hs] at hA ⊢
  refine Calls.callWith_builtin (by show (false || (backTo cpos (starEach es X.env)).any (·.1)) = false; rw [hplain] <;> rfl) (Calls.evalArgs_plain ?_)
  exact thn hA fun us s2 ⟨vs, H2, I2, r2, q2⟩ => hm pins s2 σ H2 x vs v us Q I2 r1 r2 q2
end
end L2
namespace L2
open PySem PySem.Spec PyProof.Rows
def MtM (X : Cx) (id : String) (r : V → List V → Hp → VK → Prop) : Prop :=
  ∀ (pins : List (Addr × Obj)) (s : Shared) (σ : St) (H : Hp) (x : V) (xs : List V) (v : Value) (us : List Value) (Q : VK), Inv X pins σ H s → RelV x v → Vals xs us → r x xs H Q →
    wpAny (model X.prog X.w) X.A (call (.builtin id) (v :: us)) (EP X pins σ Q) X.xe s
theorem Vals.one : ∀ {x : V} {us : List Value}, Vals [x] us → ∃ u, us = [u] ∧ RelV x u
  | _, _, .cons r .nil => ⟨_, rfl, r⟩
theorem Vals.two : ∀ {x y : V} {us : List Value}, Vals [x, y] us → ∃ u v, us = [u, v] ∧ RelV x u ∧ RelV y v
  | _, _, _, .cons r (.cons q .nil) => ⟨_, _, rfl, r, q⟩
theorem Vals.rep {xs : List V} {us : List Value} (h : Vals xs us) : ∀ k : Nat, Vals (List.replicate k xs).flatten (List.replicate k us).flatten
  | 0 => .nil
  | k + 1 => by
    rw [List.replicate_succ, List.replicate_succ, List.flatten_cons, List.flatten_cons]
    exact Vals.append h (Vals.rep h k)
theorem foldl_rep (its : List Value) : ∀ (k : Nat) (acc : List Value),
    List.foldl (fun x1 x2 => x1 ++ x2) acc.toArray (List.replicate k its.toArray) = (acc ++ (List.replicate k its).flatten).toArray
  | 0, acc => by simp
  | k + 1, acc => by
    have e : acc.toArray ++ its.toArray = (acc ++ its).toArray := by simp
    have e2 : (acc ++ its) ++ (List.replicate k its).flatten = acc ++ (List.replicate (k + 1) its).flatten := by
      rw [List.replicate_succ, List.flatten_cons, List.append_assoc]
    rw [← e2, ← foldl_rep its k (acc ++ its), ← e, List.replicate_succ, List.foldl_cons]
section
variable {X : Cx} {pins : List (Addr × Obj)} {σ : St} {H : Hp} {s : Shared} {l b : Addr} {xs ys zs : List V}
theorem Inv.lset {its its' : List Value} {n : Nat} {f : Array Value → Array Value} {t' : Nat} (I : Inv X pins σ H s) (hH : H l = some (.lst xs))
    (e : s.heap.get? l = some { cls := .type "list", data := .seq its.toArray n }) (hf : f its.toArray = its'.toArray) (hv : Vals ys its') (hz : ys.length ≤ sizeLine) :
    Inv X pins σ (upd H l (.lst ys)) { s with heap := s.heap.update l (Obj.mapSeq f), toks := t' } := by
  have q := PySem.IsL.update e f
  rw [hf] at q
  refine I.write (x := l) (e := l) (by rw [hH]; exact trivial) (.inl rfl) (fun b' u hb hu => (Heap.get?_update_other s.heap (Obj.mapSeq f) (Ne.symm hb)).trans hu) ⟨_, q⟩ ?_
  exact ⟨hz, its', _, hv, q⟩
theorem Inv.lnew {its : List Value} {t' : Nat} (I : Inv X pins σ H s) (hv : Vals ys its) (hz : ys.length ≤ sizeLine) :
    Inv X pins σ (upd H s.heap.objs.size (.lst ys)) { s with heap := s.heap.push { cls := .type "list", data := .seq its.toArray }, toks := t' } :=
  I.laid (fun _ _ q => Heap.get?_push_of_some _ q) (Nat.le_refl _) ⟨hz, its, 0, hv, Heap.get?_push_size _ rfl⟩
theorem Inv.fresh (I : Inv X pins σ H s) : H s.heap.objs.size = none := I.hok.fresh (Nat.le_refl _)
theorem Inv.lstM (I : Inv X pins σ H s) (hH : H l = some (.lst xs)) : xs.length ≤ sizeLine ∧ ∃ (its : List Value) (n : Nat), Vals xs its ∧ xs.length = its.length ∧ s.heap.get? l = some { cls := .type "list", data := .seq its.toArray n } := by
  obtain ⟨z, its, n, r, e⟩ := I.hok l _ hH
  exact ⟨z, its, n, r, r.length, e⟩
theorem notLongL {n : Nat} (h : n ≤ sizeLine) : Builtin.List.listTooLong n = false := by
  unfold Builtin.List.listTooLong
  exact decide_eq_false (by omega)
end
section
variable {X : Cx}
def rAppend : V → List V → Hp → VK → Prop := fun x vs H Q => ∃ l xs y, x = .ref l ∧ vs = [y] ∧ H l = some (.lst xs) ∧ xs.length < sizeLine ∧ Q .non (upd H l (.lst (xs ++ [y])))
theorem mt_append : MtM X "list.append" rAppend := by
  intro pins s σ H x vs v us Q I rx rv h
  obtain ⟨l, xs, y, rfl, rfl, hH, hz, q⟩ := h
  cases rx
  obtain ⟨u, rfl, ru⟩ := rv.one
  obtain ⟨z, its, n, r, hl, e⟩ := I.lstM hH
  refine call_meets F.slot_list_append ⟨_, e, rfl⟩ F.entry_list_append (F.args_list_append_2 _ _) (PySem.list_append l its.toArray n u (by rw [List.size_toArray]; omega)) ⟨e, ?_⟩
  refine ⟨.non, _, I.lset (its' := its ++ [u]) hH e (by simp) (r.append (.cons ru .nil)) ?_, rfl, q⟩
  rw [List.length_append, List.length_singleton]
  omega
def rCat : R2 := fun x y H Q => ∃ l b xs zs, x = .ref l ∧ y = .ref b ∧ H l = some (.lst xs) ∧ H b = some (.lst zs) ∧ xs.length + zs.length ≤ sizeLine ∧ ∀ p, H p = none → Q (.ref p) (upd H p (.lst (xs ++ zs)))
theorem op_cat : OpR X (binaryOp .Add) rCat := by
  intro pins s σ H x y v u Q I rx ry h
  obtain ⟨l, b, xs, zs, rfl, rfl, hH, hB, hz, q⟩ := h
  cases rx
  cases ry
  obtain ⟨z, its, n, r, hl, e⟩ := I.lstM hH
  obtain ⟨z2, its2, n2, r2, hl2, e2⟩ := I.lstM hB
  refine PySem.P.add_list e e2 ?_ (by rw [List.size_toArray, List.size_toArray]; omega)
  have ea : its.toArray ++ its2.toArray = (its ++ its2).toArray := by simp
  rw [ea]
  exact ⟨.ref _, _, I.lnew (t' := s.toks) (r.append r2) (by rw [List.length_append]; omega), rfl, q _ I.fresh⟩
def rRep : R2 := fun x y H Q => ∃ l k xs, x = .ref l ∧ y = .int k ∧ H l = some (.lst xs) ∧ -(2 ^ 63) ≤ k ∧ k < 2 ^ 63 ∧ xs.length * k.toNat ≤ sizeLine ∧
  ∀ p, H p = none → Q (.ref p) (upd H p (.lst (List.replicate k.toNat xs).flatten))
theorem len_rep {α : Type} (xs : List α) (k : Nat) : (List.replicate k xs).flatten.length = k * xs.length := by
  induction k with
  | zero => simp
  | succ k ih => rw [List.replicate_succ, List.flatten_cons, List.length_append, ih, Nat.succ_mul, Nat.add_comm]
theorem op_rep : OpR X (binaryOp .Mult) rRep := by
  intro pins s σ H x y v u Q I rx ry h
  obtain ⟨l, k, xs, rfl, rfl, hH, h1, h2, hz, q⟩ := h
  cases rx
  obtain ⟨t, rfl⟩ := ry
  obtain ⟨z, its, n, r, hl, e⟩ := I.lstM hH
  have hlen : its.toArray.size * k.toNat ≤ sizeLine := by rw [List.size_toArray, ← hl]; exact hz
  have hcap : ¬ its.toArray.size * k.toNat > (2 ^ 63 - 1) / 8 := by
    have : (sizeLine : Nat) ≤ (2 ^ 63 - 1) / 8 := by decide
    omega
  have hfit : ¬ (!Builtin.List.listFitsIndex k) = true := by
    rw [fitsIndex_both h1 h2]
    exact Bool.false_ne_true
  have hlong : ¬ Builtin.List.listTooLong (its.toArray.size * k.toNat) = true := by
    rw [notLongL hlen]
    exact Bool.false_ne_true
  have hnew : List.foldl (fun x1 x2 => x1 ++ x2) #[] (List.replicate (if its.toArray.isEmpty = true then 0 else k.toNat) its.toArray) = (List.replicate k.toNat its).flatten.toArray := by
    have f0 : ∀ m : Nat, List.foldl (fun x1 x2 => x1 ++ x2) #[] (List.replicate m its.toArray) = (List.replicate m its).flatten.toArray := fun m => by
      have := foldl_rep its m []
      rw [List.nil_append] at this
      exact this
    rw [f0]
    cases its with
    | nil => simp
    | cons a r' => rw [if_neg (by simp)]
  refine wpAny_binaryOp_repeat_ref (T := "list") (U := "int") (by decide) ⟨_, e, rfl⟩ (fun s' => typeIs_int s' k t) noFill_list_mul F.fills_int_mul F.slot_int_rmul repeat_list F.slot_int_index.lookup
    (call_meets F.slot_int_rmul (typeIs_int s k t) F.entry_int_rmul (F.args_int_rmul_2 _ _) (int___rmul___int_list k t l its.toArray n)
      ⟨e, rfl, ⟨_, e, rfl⟩, call_meets F.slot_list_mul ⟨_, e, rfl⟩ F.entry_list_mul (F.args_list_mul_2 _ _) (AutoListH.list___mul___list_int_3 l its.toArray n k t hfit hcap hlong) ⟨e, ?_⟩⟩)
  rw [hnew]
  exact ⟨.ref _, _, I.lnew (t' := s.toks) (r.rep k.toNat) (by rw [len_rep, Nat.mul_comm]; exact hz), rfl, q _ I.fresh⟩
end
section
variable {prog : Program} {w : World} {A : Around} {E : Value → Shared → Prop} {s : Shared}
end
section
variable {X : Cx}
end
end L2
namespace Att
open PySem PySem.W PySem.Calls PyProof.Rows
theorem ints_of_wellAll {P : Params} {h : Heap} : ∀ (ns : List Int) (vs : List Value), WellAll P h vs (ns.map WData.int) → IntsAre vs ns := by
  intro ns
  induction ns with
  | nil =>
    intro vs w
    rw [List.map_nil] at w
    cases w
    exact .nil
  | cons n ns ih =>
    intro vs w
    rw [List.map_cons] at w
    cases w with
    | cons a b =>
      cases a
      exact .cons _ _ (ih _ b)
theorem script_of {l : OpenLaw} {n : Nat} (hn : l.most = some n) {P : Params} {h : Heap} {args : List WData} {vals : List Value}
    (hpre : l.row.toRowW.claim.pre args = true) (hwl : WellAll P h vals args) :
    ∃ a vs ns, vals = [Value.ref a] ∧ args = [WData.list (ns.map WData.int)] ∧ h.get? a = some { cls := .type "list", data := .seq vs.toArray } ∧ IntsAre vs ns ∧ ns.length ≤ n := by
  have hsh : WShape.hasAll [] args [.list .int] = true := (pre_splitW hpre).1
  have hc : l.pre.holds [] { args := args } = true := (pre_splitW hpre).2
  obtain ⟨d, r, rfl, h1, h2⟩ := hasAllW_cons hsh
  obtain rfl := hasAllW_nil h2
  obtain ⟨xs, rfl, h3⟩ := hasW_list h1
  obtain ⟨ns, rfl⟩ := items_int h3
  have hlen : ns.length ≤ n := by
    unfold OpenLaw.pre at hc
    have h4 : (WTm.not (.lt (.lit (.int (n : Int))) (.len (.arg 0)))).holds [] { args := [.list (ns.map .int)] } = true := by
      have h4 := (holds_andW hc).1
      rw [hn] at h4
      exact h4
    have h5 := condW_of h4 (w_not (w_lt w_lit (w_len_list (w_arg rfl))))
    rw [List.length_map] at h5
    refine Nat.le_of_not_lt fun q => ?_
    have q' : (n : Int) < ((ns.length : Nat) : Int) := by omega
    first
      | (rw [decide_eq_true q'] at h5; exact absurd h5 (by decide))
      | (simp at h5; omega)
  cases hwl with
  | cons w1 w2 =>
    cases w2
    cases w1 with
    | list ho hall => exact ⟨_, _, ns, rfl, rfl, ho, ints_of_wellAll ns _ hall, hlen⟩
theorem post_true (l : OpenLaw) (args : List WData) : l.row.toRowW.claim.post args (.bool true) args = true :=
  postW_of (r := l.row.toRowW) (X := (true == true))
    (show WShape.has [] (.bool true) .bool = true by first | rfl | decide | simp [WShape.has, WShape.arms, WShape.armsAll])
    (show (WTm.eq .res (.lit (.bool true))).value [] { args := args, res := some (.bool true), after := args } = some (.bool (true == true)) from w_eq_bool (w_res rfl) w_lit) rfl
theorem lay_bits {ns : List Int} (h : WData.layableAll [WData.list (ns.map WData.int)] = true) : ∀ x ∈ ns, Builtin.Int.intBits x ≤ 1048576 := by
  have h1 : WData.layable (WData.list (ns.map WData.int)) = true := by
    have h' : (WData.layable (WData.list (ns.map WData.int)) && true) = true := h
    rwa [Bool.and_true] at h'
  unfold WData.layable at h1
  rw [Bool.and_eq_true] at h1
  have h2 := of_decide_eq_true h1.2
  have h3 : WData.weightAll (ns.map WData.int) ≤ 2 ^ 20 := by
    have e : WData.weight (WData.list (ns.map WData.int)) = WData.weightAll (ns.map WData.int) := by simp only [WData.weight]
    rwa [e] at h2
  have h4 : ∀ (l : List Int), ∀ x ∈ l, WData.weight (WData.int x) ≤ WData.weightAll (l.map WData.int) := by
    intro l
    induction l with
    | nil => intro x hx; cases hx
    | cons y r ih =>
      intro x hx
      have e : WData.weightAll ((y :: r).map WData.int) = WData.weight (WData.int y) + 1 + WData.weightAll (r.map WData.int) := by
        rw [List.map_cons]; simp only [WData.weightAll]
      rw [e]
      rcases List.mem_cons.mp hx with z | z
      · subst z; omega
      · have := ih x z; omega
  intro x hx
  have h5 := Nat.le_trans (h4 ns x hx) h3
  have e : WData.weight (WData.int x) = Builtin.Int.intBits x := by
    simp only [WData.weight]
    unfold Builtin.Int.intBits
    by_cases hz : x = 0
    · subst hz; rfl
    · have hb : (x == 0) = false := by simpa using hz
      simp [hz]
  rw [e] at h5
  exact h5
theorem attach_call {l : OpenLaw} {n : Nat} {q : Program} {loose : List Str} {XP : (Str → Option Value) → Heap → Prop} {YP : World → Heap → Prop} {d : DefRec}
    (hn : l.most = some n) (hdf : d.params.defaults = [])
    (call : ∀ (w : World) (s₀ s₁ : Shared) (mg mb : Str → Option Value) (fa : Addr) (o : Obj) (pm cd doc : Value) (a : Addr) (vs : List Value) (ns : List Int),
      Ground q loose [] XP w s₀ mg mb s₁.heap → YP w s₁.heap →
      s₁.heap.get? fa = some o → o.data = .func (docDef d.name d.params d.body d.scope pm cd doc) → s₁.heap.CodeRec cd d.name → mg d.name = some (.ref fa) →
      s₁.heap.get? a = some { cls := .type "list", data := .seq vs.toArray } → IntsAre vs ns → ns.length ≤ n → (∀ x ∈ ns, Builtin.Int.intBits x ≤ 1048576) → s₁.gens = #[] →
      codeAny (model l.prog w) callerA (.call (.ref fa) ⟨[.ref a], []⟩) (fun r s' => r = .ok (.ret (.bool true)) ∧ OldK s₁.heap s'.heap ∧ s'.os = s₁.os ∧ AllBare s'.gens) s₁) :
    WalkO q loose XP YP l.row.toRowW d [] (fun f vs => PySem.call f vs) := by
  intro w s₀ s₁ mg mb G Y fa o pm cd doc dV kV ho hd hcd hD hmg hg args vals as hpre hlay hrd hwl hlo
  obtain rfl : dV = .none := Dflts.none hD hdf
  obtain rfl : kV = .none := Dflts.noKw hD
  obtain ⟨a, vs, ns, rfl, rfl, hobj, hints, hlen⟩ := script_of hn hpre hwl
  refine enter_call (codeAny_mono (call w s₀ s₁ mg mb fa o pm cd doc a vs ns G Y ho (fd_plain hd) hcd hmg hobj hints hlen (lay_bits hlay) hg) fun r s' hq => ?_)
  obtain ⟨rfl, h2, h3, h4⟩ := hq
  exact ⟨.inl ⟨.bool true, .bool true, [], rfl, fun _ => rfl, .bool true, post_true l _, fun _ => ⟨List.Pairwise.nil, fun _ hm => (nomatch hm)⟩⟩, h2, h3, h4⟩
section
variable {prog : Program} {w : World} {A : Around} {E : Value → Shared → Prop} {s : Shared} {K : Frag}
end
end Att
namespace L2
open PySem PySem.Spec PyProof.Rows
theorem vals_ints : ∀ {vs : List Value} {ns : List Int}, IntsAre vs ns → Vals (ns.map V.int) vs
  | _, _, .nil => .nil
  | _, _, .cons n t h => .cons ⟨t, rfl⟩ (vals_ints h)
def Only (H : Hp) : Prop := ∀ b, H b = none ∨ ∃ o xs, H b = some (.frz o (.lst xs))
theorem law_call {P : Program} {w : World} {K : PySem.W.Frag} {mg mb : Str → Option Value} {CX : CXT} {k : Nat} {fa a : Addr} {fd : FuncData} {x : Str} {sp : Sp} {s₁ : Shared} {vs : List Value} {ns : List Int}
    (KX : K.In s₁.heap) (hns : s₁.heap.Ns mainGlobals mg) (hb : s₁.heap.Ns builtinsNs mb) (hbb : ∀ x : Str, x ≠ "__name__" → mb x = bootBuiltins x) (hlim : s₁.heap.NoLimit) (hsr : s₁.heap.NoSeer) (hg : s₁.gens = #[])
    (ha : s₁.heap.get? a = some { cls := .type "list", data := .seq vs.toArray }) (hi : IntsAre vs ns) (hl : ns.length ≤ sizeLine) (hr : Room k callerA)
    (F : ∀ base : Heap, K.In base → base.Ns mainGlobals mg → FnOk P w K mg base CX k fa fd [x] sp) (hbind : ∀ (s : Shared) (u : Value), BindsTo s fd ⟨[u], []⟩ [(x, u)])
    (hsp : ∀ H : Hp, Only H → SqL K H a (ns.map V.int) → sp [.ref a] H (fun v _ => v = .bl true) fun _ _ _ => False)
    (hCX : ∀ H e s', CX [] H s₁ (fun _ _ _ => False) e s' → False) :
    codeAny (model P w) callerA (.call (.ref fa) ⟨[.ref a], []⟩) (fun r s' => r = .ok (.ret (.bool true)) ∧ OldK s₁.heap s'.heap ∧ s'.os = s₁.os ∧ AllBare s'.gens) s₁ := by
  have rv := vals_ints hi
  have lenV := hi.length
  have core : ∀ H : Hp, Only H → SqL K H a (ns.map V.int) → HOk P w H s₁.heap → (∀ b, H b ≠ none → b = a) → (H a ≠ none → K.lookup a = none) →
      codeAny (model P w) callerA (.call (.ref fa) ⟨[.ref a], []⟩) (fun r s' => r = .ok (.ret (.bool true)) ∧ OldK s₁.heap s'.heap ∧ s'.os = s₁.os ∧ AllBare s'.gens) s₁ := by
    intro H hO hS hok hA hK
    have base_of : ∀ {b : Addr} {o : Obj}, s₁.heap.get? b = some o → H b = none → (hidT s₁.heap H).get? b = some o := fun e n => hidT_get e n
    have noA : ∀ {b : Addr} {o : Obj} {es : Array DictEntry} {ep : Nat}, s₁.heap.get? b = some o → o.data = .dict es ep → H b = none := fun {b o es ep} e d => by
      cases q : H b with
      | none => rfl
      | some u =>
        have e' : b = a := hA b (by rw [q]; simp)
        subst e'
        rw [ha] at e; cases e
        have d' : Data.seq vs.toArray _ = Data.dict es ep := d
        cases d'
    have nsK : ∀ {b : Addr} {m : Str → Option Value}, s₁.heap.Ns b m → (hidT s₁.heap H).Ns b m := fun {b m} ⟨o, es, ep, e, d, r⟩ => ⟨o, es, ep, base_of e (noA e d), d, r⟩
    have hKb : K.In (hidT s₁.heap H) := fun b o e => base_of (KX b o e) (by
      cases q : H b with
      | none => rfl
      | some u =>
        have e' : b = a := hA b (by rw [q]; simp)
        subst e'
        rw [hK (by rw [q]; simp)] at e; cases e)
    have noC : ∀ {b : Addr} {o : Obj}, s₁.heap.get? b = some o → o.cls ≠ .type "list" → H b = none := fun {b o} e d => by
      cases q : H b with
      | none => rfl
      | some u =>
        have e' : b = a := hA b (by rw [q]; simp)
        subst e'
        rw [ha] at e; cases e
        exact absurd rfl d
    have hSr : (hidT s₁.heap H).NoSeer := ⟨let ⟨mc, h1, h2⟩ := hsr.statics; ⟨mc, nsK h1, h2⟩, let ⟨mc, h1, h2⟩ := hsr.mods; ⟨mc, nsK h1, h2⟩, let ⟨mc, h1, h2⟩ := hsr.imp; ⟨mc, nsK h1, h2⟩,
      let ⟨mg', bm, ob, h1, h2, h3, h4, h5⟩ := hsr.main; ⟨mg', bm, ob, nsK h1, h2, base_of h3 (noC h3 (by rw [h4]; decide)), h4, h5⟩⟩
    have hM : Mod K mg (hidT s₁.heap H) := ⟨hKb, nsK hns, ⟨mb, nsK hb, hbb⟩, let ⟨mc, h1, h2⟩ := hlim; ⟨mc, nsK h1, h2⟩, hSr⟩
    have e0 : Env0 P w K mg (hidT s₁.heap H) callerA [] s₁ H := ⟨rfl, hM, fun b o e => of_hidT e, Nat.le_of_eq (hidT_size _ _), trivial, fun b hb => absurd (show b ∈ ([] : List Addr) from hb) (by simp), hok, .of_eq hg⟩
    refine codeAny_mono ((F _ hKb (nsK hns)).run callerA [] s₁ H ⟨[.ref a], []⟩ [.ref a] [.ref a] _ _ hr e0 (hbind s₁ (.ref a)) (.cons rfl .nil) (hsp H hO hS)) fun r s' h => ?_
    cases r with
    | error e => exact (hCX H e s' h).elim
    | ok fl =>
      cases fl with
      | next => exact False.elim h
      | brk => exact False.elim h
      | cont => exact False.elim h
      | ret u =>
        obtain ⟨v, H', os, bare, un, hok', r', q⟩ := h
        have q' : v = .bl true := q
        subst q'
        obtain rfl : u = Value.bool true := r'
        refine ⟨rfl, OldK.of_keep fun b o e => ?_, os, bare⟩
        cases q : H b with
        | none => exact un.keep b o e q (by intro z; exact absurd (show b ∈ ([] : List Addr) from z) (by simp)) (by simp)
        | some u =>
          rcases hO b with z | ⟨ob, xs, z⟩
          · rw [q] at z; cases z
          · have z2 := un.frzs b ob _ z
            obtain ⟨e1, _⟩ := hok b _ z
            obtain ⟨e2, _⟩ := hok' b _ z2
            rw [e] at e1; cases e1
            exact e2
  cases hk : K.lookup a with
  | some o =>
    have e := KX a o hk
    rw [ha] at e
    cases e
    refine core (fun _ => none) (fun _ => .inl rfl) (.inr ⟨_, vs.toArray, _, hk, rfl, rfl, rfl, by rw [List.size_toArray, lenV]; exact hl, by simpa using rv⟩) (fun b u z => by have z' : (none : Option HO) = some u := z; cases z') (fun b z => absurd rfl z) fun z => absurd rfl z
  | none =>
    refine core (fun b => if b = a then some (.frz { cls := .type "list", data := .seq vs.toArray } (.lst (ns.map V.int))) else none) (fun b => ?_) (.inl (.inr ⟨{ cls := .type "list", data := .seq vs.toArray }, if_pos rfl⟩)) (fun b u z => ?_) (fun b z => ?_) fun _ => hk
    · by_cases hb : b = a
      · exact .inr ⟨_, _, if_pos hb⟩
      · exact .inl (if_neg hb)
    · by_cases hb : b = a
      · have z' := (if_pos hb).symm.trans z
        cases z'
        subst hb
        exact ⟨ha, by rw [List.length_map]; exact hl, vs, _, rv, ha⟩
      · have z' := (if_neg hb).symm.trans z
        cases z'
    · by_cases hb : b = a
      · exact hb
      · exact absurd (if_neg hb) z
end L2
namespace L2
open PySem PySem.Spec PyProof.Rows
theorem walk_of {l : PySem.W.OpenLaw} {n k : Nat} {q : Program} {loose : List Str} {XP : (Str → Option Value) → Heap → Prop} {YP : World → Heap → Prop} {d : DefRec} {K : Params → PySem.W.Frag} {CX : World → CXT} {sp : World → Sp} {x : Str}
    (hn : l.most = some n) (hn2 : n ≤ sizeLine) (hdf : d.params.defaults = []) (hq : importsNone q = true) (hr : Room k callerA)
    (hY : ∀ (w : World) (h : Heap), YP w h → (K w.params).In h)
    (F : ∀ (w : World) (mg : Str → Option Value) (fa : Addr) (h : Heap), (K w.params).In h → h.Ns mainGlobals mg → mg d.name = some (.ref fa) →
      ∃ fd : FuncData, (∀ (s : Shared) (u : Value), BindsTo s fd ⟨[u], []⟩ [(x, u)]) ∧
        ∀ base : Heap, (K w.params).In base → base.Ns mainGlobals mg → FnOk l.prog w (K w.params) mg base (CX w) k fa fd [x] (sp w))
    (hsp : ∀ (w : World) (H : Hp) (a : Addr) (ns : List Int), ns.length ≤ n → (∀ x ∈ ns, Builtin.Int.intBits x ≤ 1048576) → Only H → SqL (K w.params) H a (ns.map V.int) → sp w [.ref a] H (fun v _ => v = .bl true) fun _ _ _ => False)
    (hCX : ∀ (w : World) (H : Hp) (s : Shared) (e : Value) (s' : Shared), CX w [] H s (fun _ _ _ => False) e s' → False) :
    PySem.W.WalkO q loose XP YP l.row.toRowW d [] (fun f vs => PySem.call f vs) := by
  refine Att.attach_call hn hdf fun w s₀ s₁ mg mb fa o pm cd doc a vs ns G Y ho hd hcd hmg hobj hints hlen hbt hg => ?_
  have KX := hY w _ Y
  obtain ⟨fd, hb, hF⟩ := F w mg fa _ KX G.T.g hmg
  exact law_call KX G.T.g G.T.b G.T.builtins G.T.nolimit (G.T.seer hq) hg hobj hints (Nat.le_trans hlen hn2) hr hF hb (fun H hO hS => hsp w H a ns hlen hbt hO hS) fun H e s' => hCX w H s₁ e s'
end L2
namespace L2
open PySem PySem.Spec PyProof.Rows
def defArgs (s : Stmt) : Arguments := match s with
  | .FunctionDef _ a _ _ _ _ _ _ _ _ => a
  | _ => { posonlyargs := [], args := [], vararg := none, kwonlyargs := [], kw_defaults := [], kwarg := none, defaults := [] }
def defBody (s : Stmt) : List Stmt := match s with
  | .FunctionDef _ _ b _ _ _ _ _ _ _ => b
  | _ => []
def defScope (s : Stmt) : Scope := match s with
  | .FunctionDef _ _ _ _ _ _ sc _ _ _ => sc
  | _ => { kind := .function, names := [], isGenerator := false, isCoroutine := false }
abbrev CX0 : CXT := fun _ _ _ _ _ _ => False
abbrev E0 : XK := fun _ _ _ => False
theorem pass0 {X : Cx} : Passes CX0 X E0 := fun _ _ _ _ _ _ _ h => h.elim
structure Fun (K : PySem.W.Frag) (x qual : Str) (st : Stmt) (f : Addr) (fd : FuncData) : Prop where
  ex : ∃ (oc : Value) (od : Option Addr) (kV doc pm : Value) (an : Option Addr) (cdv ct : Value) (osl : Array (Option Value)),
    fd = PySem.W.fnOf x qual (defArgs st) (defBody st) (defScope st) .none kV doc pm an cdv ct ∧ K.lookup f = some ⟨oc, od, .func fd, osl⟩ ∧ PySem.W.codeIn K cdv qual = true
  kp : PySem.W.keepIn K (.ref f) = true
section
variable {P : Program} {w : World} {K : PySem.W.Frag} {mg : Str → Option Value} {base : Heap}
theorem Fun.ok {x qual : Str} {st : Stmt} {f : Addr} {fd : FuncData} {N ps : List Str} {k : Nat} {sp : Sp} (F : Fun K x qual st f fd) (S : FnScope N ps (defScope st)) (len : ∀ vs H Q E, sp vs H Q E → vs.length = ps.length)
    (hbody : ∀ (cdv : Value) (A : Around) (outer : List Env) (s : Shared) (H : Hp) (vs : List V) (Q : VK) (E : XK), Room k (A.deeper (envOfC qual (defScope st) s.heap.objs.size f cdv)) → sp vs H Q E →
      ∃ t, PSs (cxOf CX0 P w K mg base N qual (defScope st) f cdv A outer s H E).nox (defBody st) t ∧ t { nx := fun _ H' => Q .non H', rt := Q } (start N vs) H) : FnOk P w K mg base CX0 (k + 1) f fd ps sp := by
  obtain ⟨oc, od, kV, doc, pm, an, cdv, ct, osl, rfl, lk, hcd⟩ := F.ex
  refine fn_of lk hcd S len fun A outer s H vs Q E hr hsp => ?_
  obtain ⟨t, h, q⟩ := hbody cdv A outer s H vs Q E hr hsp
  exact ⟨t, h.nox, q⟩
theorem Fun.binds {x qual : Str} {st : Stmt} {f : Addr} {fd : FuncData} {ps : List Str} (F : Fun K x qual st f fd)
    (h : ∀ (kV doc pm : Value) (an : Option Addr) (cdv ct : Value) (us : List Value), us.length = ps.length → bindArgs (PySem.W.fnOf x qual (defArgs st) (defBody st) (defScope st) .none kV doc pm an cdv ct) ⟨us, []⟩ = pure (ps.zip us)) : Binds K fd ps [] := by
  obtain ⟨oc, od, kV, doc, pm, an, cdv, ct, osl, rfl, lk, hcd⟩ := F.ex
  exact .all (h kV doc pm an cdv ct)
theorem fun_mk {x qual : Str} {st : Stmt} {f : Addr} {oc : Value} {od an : Option Addr} {osl : Array (Option Value)} {kV doc pm cdv ct : Value} (l : K.lookup f = some ⟨oc, od, .func (PySem.W.fnOf x qual (defArgs st) (defBody st) (defScope st) .none kV doc pm an cdv ct), osl⟩)
    (c : PySem.W.codeIn K cdv qual = true) (k : PySem.W.keepIn K (.ref f) = true) : Fun K x qual st f (PySem.W.fnOf x qual (defArgs st) (defBody st) (defScope st) .none kV doc pm an cdv ct) := ⟨⟨oc, od, kV, doc, pm, an, cdv, ct, osl, rfl, l, c⟩, k⟩
end
theorem small1000 {n : Nat} (h : n ≤ 1000) : n < sizeLine := Nat.lt_of_le_of_lt h (by decide)
section
variable {X : Cx}
theorem pv (i : Nat) {x : Str} {pos : Pos} (hN : X.N[i]? = some x := by rfl) (hv : Vis X.env.scope x := by first | exact Or.inl rfl | exact Or.inr (Or.inl rfl) | exact Or.inr (Or.inr rfl)) (hd : (x == ("__debug__" : Str)) = false := by decide)
    (hcd : (x == ("__classdict__" : Str)) = false := by decide) : PE X (.Name x pos) (tVar i) := pe_var hN hv hd hcd
end
theorem iteF {A B : Prop} (h : B) : if false = true then A else B := by
  rw [if_neg Bool.false_ne_true]
  exact h
theorem iteT {A B : Prop} (h : A) : if true = true then A else B := by
  rw [if_pos rfl]
  exact h
theorem ite2 {c A B : Prop} [Decidable c] (h1 : c → A) (h2 : ¬ c → B) : if c then A else B := by
  by_cases h : c
  · rw [if_pos h]
    exact h1 h
  · rw [if_neg h]
    exact h2 h
theorem iteNS {c A B : Prop} [Decidable c] (hc : c) (h : B) : if (!decide c) = true then A else B := by
  rw [decide_eq_true hc]
  exact iteF h
def Same (H H' : Hp) : Prop := ∀ b o, H b = some o → H' b = some o
theorem Same.refl (H : Hp) : Same H H := fun _ _ h => h
theorem Same.trans {H H1 H2 : Hp} (a : Same H H1) (b : Same H1 H2) : Same H H2 := fun c o h => b c o (a c o h)
theorem Same.free {H H' : Hp} (e : Same H H') {l : Addr} (h : H' l = Option.none) : H l = Option.none := by
  cases q : H l with
  | none => rfl
  | some o =>
    rw [e l o q] at h
    cases h
theorem Same.seq {K : PySem.W.Frag} {H H' : Hp} {a : Addr} {xs : List V} (e : Same H H') (h : SqL K H a xs) : SqL K H' a xs := by
  rcases h with (h | ⟨o, h⟩) | h
  · exact .inl (.inl (e _ _ h))
  · exact .inl (.inr ⟨o, e _ _ h⟩)
  · exact .inr h
end L2
namespace L2
open PySem PySem.Spec PyProof.Rows
section
variable {X : Cx}
def rAddI : R2 := fun x y H Q => ∃ i j, x = .int i ∧ y = .int j ∧ Q (.int (i + j)) H
def rSubI : R2 := fun x y H Q => ∃ i j, x = .int i ∧ y = .int j ∧ Q (.int (i - j)) H
theorem op_addI : OpR X (binaryOp .Add) rAddI := op_add
theorem op_subI : OpR X (binaryOp .Sub) rSubI := op_sub
def CMulB (i j : Int) : Prop := ∃ m n : Nat, Builtin.Int.intBits i ≤ m ∧ Builtin.Int.intBits j ≤ n ∧ m + n ≤ 134217728
def rMulB : R2 := fun x y H Q => ∃ i j, x = .int i ∧ y = .int j ∧ CMulB i j ∧ Q (.int (i * j)) H
theorem op_mulB : OpR X (binaryOp .Mult) rMulB := opI (C := CMulB) (g := fun i j => i * j) fun _ _ _ _ _ _ _ hc q => by
  obtain ⟨m, n, h1, h2, h3⟩ := hc
  exact mul_int q (IntMulOk.of_le h1 h2 h3)
def CDivB (j : Int) : Prop := 0 < j ∧ Builtin.Int.intBits j ≤ 9000
def rDivB : R2 := fun x y H Q => ∃ i j, x = .int i ∧ y = .int j ∧ CDivB j ∧ Q (.int (i / j)) H
theorem op_fdivB : OpR X (binaryOp .FloorDiv) rDivB := opI (C := fun _ j => CDivB j) (g := fun i j => i / j) fun i j _ _ _ _ _ hc q => by
  have h1 : (0 : Int) < j := hc.1
  have h3 : j.natAbs.log2 < 9000 := (Nat.log2_lt (by omega)).mpr (intBits_le_iff.mp hc.2)
  exact floordiv_int (by omega) (by rw [Int.fdiv_eq_ediv_of_nonneg i (by omega)]; exact q) (.inl (PyProof.noPylong_of_log2 h3))
def rModB : R2 := fun x y H Q => ∃ i j, x = .int i ∧ y = .int j ∧ 0 < j ∧ Q (.int (i % j)) H
theorem op_modB : OpR X (binaryOp .Mod) rModB := op_mod
def rPowB : R2 := fun x y H Q => ∃ i j, x = .int i ∧ y = .int j ∧ CPow i j ∧ Q (.int (i ^ j.toNat)) H
theorem op_powB : OpR X (binaryOp .Pow) rPowB := op_pow
def rShlB : R2 := fun x y H Q => ∃ i j, x = .int i ∧ y = .int j ∧ CPow i j ∧ Q (.int (i * 2 ^ j.toNat)) H
theorem op_shlB : OpR X (binaryOp .LShift) rShlB := op_shl
def rLtI : R2 := fun x y H Q => ∃ i j, x = .int i ∧ y = .int j ∧ Q (.bl (decide (i < j))) H
def rGtI : R2 := fun x y H Q => ∃ i j, x = .int i ∧ y = .int j ∧ Q (.bl (decide (j < i))) H
def rGeI : R2 := fun x y H Q => ∃ i j, x = .int i ∧ y = .int j ∧ Q (.bl (decide (j ≤ i))) H
def rEqI : R2 := fun x y H Q => ∃ i j : Int, x = .int i ∧ y = .int j ∧ Q (.bl (decide (i = j))) H
def rNeI : R2 := fun x y H Q => ∃ i j : Int, x = .int i ∧ y = .int j ∧ Q (.bl (!decide (i = j))) H
theorem op_ltI : OpR X (compareOp .Lt) rLtI := op_lt
theorem op_gtI : OpR X (compareOp .Gt) rGtI := op_gt
theorem op_geI : OpR X (compareOp .GtE) rGeI := op_ge
theorem op_eqI : OpR X (compareOp .Eq) rEqI := by
  intro pins s σ H x y v u Q I rx ry h
  obtain ⟨i, j, rfl, rfl, q⟩ := h
  refine op_eq pins s σ H _ _ v u Q I rx ry ⟨rfl, ?_⟩
  have e : decide (V.int i = V.int j) = decide (i = j) := decide_eq_decide.mpr ⟨fun z => V.int.inj z, fun z => by rw [z]⟩
  rw [e]; exact q
theorem op_neI : OpR X (compareOp .NotEq) rNeI := by
  intro pins s σ H x y v u Q I rx ry h
  obtain ⟨i, j, rfl, rfl, q⟩ := h
  refine op_ne pins s σ H _ _ v u Q I rx ry ⟨rfl, ?_⟩
  have e : decide (V.int i = V.int j) = decide (i = j) := decide_eq_decide.mpr ⟨fun z => V.int.inj z, fun z => by rw [z]⟩
  rw [e]; exact q
def PylOk (X : Cx) : Prop := ∀ (pins : List (Addr × Obj)) (σ : St) (H : Hp) (s : Shared), Inv X pins σ H s → PylongRoom (model X.prog X.w) X.A s
def rDivP : R2 := fun x y H Q => ∃ i j, x = .int i ∧ y = .int j ∧ 0 < j ∧ Q (.int (i / j)) H
theorem op_fdivP (hp : PylOk X) : OpR X (binaryOp .FloorDiv) rDivP := by
  intro pins s σ H x y v u Q I rx ry h
  obtain ⟨i, j, rfl, rfl, hj, q⟩ := h
  obtain ⟨t, rfl⟩ := rx
  obtain ⟨t', rfl⟩ := ry
  refine floordiv_int (by omega) ?_ (.inr (hp pins σ H s I))
  rw [Int.fdiv_eq_ediv_of_nonneg i (by omega)]
  exact ⟨.int (i / j), H, I.tok _, ⟨_, rfl⟩, q⟩
theorem pyl_ok {CX : CXT} {P : Program} {w : World} {K : PySem.W.Frag} {mg : Str → Option Value} {base : Heap} {N ps : List Str} {qual : Str} {scope : Scope} {f : Addr} {cdv : Value} {A : Around} {outer : List Env} {s : Shared} {H : Hp} {E : XK}
    (hP : P.given.tree = none) (S : FnScope N ps scope) (hr : Room 35 (A.deeper (envOfC qual scope s.heap.objs.size f cdv))) : PylOk ((cxOf CX P w K mg base N qual scope f cdv A outer s H E).nox) := by
  intro pins σ H' s' I
  have I' := I.unwish
  refine PylongRoom.of I'.nolimit ?_ (SeerAt.of (I'.mod.seer.keeps I'.bk) hP I'.ok.frames S.gen S.co rfl rfl)
  have := hr.dp
  show (A.deeper (envOfC qual scope s.heap.objs.size f cdv)).depth + 100 < _
  omega
theorem mt_bit_length : MtR X "int.bit_length" (fun x vs H Q => ∃ i, x = .int i ∧ vs = [] ∧ Q (.int (Builtin.Int.intBits i : Nat)) H) := by
  intro pins s σ H x xs v us Q I rx rv h
  obtain ⟨i, rfl, rfl, q⟩ := h
  obtain ⟨t, rfl⟩ := rx
  cases rv
  exact call_int_bit_length ⟨.int _, H, I.tok _, ⟨_, rfl⟩, q⟩
end
def Def (K : PySem.W.Frag) (mg : Str → Option Value) (x : Str) (st : Stmt) (ps : List Str) : Prop :=
  ∃ f fd, Fun K x x st f fd ∧ Binds K fd ps [] ∧ mg x = some (.ref f)
def Fn (P : Program) (w : World) (K : PySem.W.Frag) (mg : Str → Option Value) (base : Heap) (k : Nat) (x : Str) (ps : List Str) (sp : Sp) : Prop :=
  ∃ f fd, FnOk P w K mg base CX0 k f fd ps sp ∧ PySem.W.keepIn K (.ref f) = true ∧ Binds K fd ps [] ∧ mg x = some (.ref f)
section
variable {P : Program} {w : World} {K : PySem.W.Frag} {mg : Str → Option Value} {base : Heap}
theorem Def.fn {x : Str} {st : Stmt} {N ps : List Str} {k : Nat} {sp : Sp} (D : Def K mg x st ps) (S : FnScope N ps (defScope st)) (len : ∀ vs H Q E, sp vs H Q E → vs.length = ps.length)
    (hbody : ∀ (f : Addr) (cdv : Value) (A : Around) (outer : List Env) (s : Shared) (H : Hp) (vs : List V) (Q : VK) (E : XK), Room k (A.deeper (envOfC x (defScope st) s.heap.objs.size f cdv)) → sp vs H Q E →
      ∃ t, PSs (cxOf CX0 P w K mg base N x (defScope st) f cdv A outer s H E).nox (defBody st) t ∧ t { nx := fun _ H' => Q .non H', rt := Q } (start N vs) H) : Fn P w K mg base (k + 1) x ps sp := by
  obtain ⟨f, fd, F, b, m⟩ := D
  exact ⟨f, fd, F.ok S len (fun cdv A outer s H vs Q E hr h => hbody f cdv A outer s H vs Q E hr h), F.kp, b, m⟩
end
section
variable {X : Cx} {k : Nat} {x : Str} {ps : List Str} {sp : Sp} {p pos : Pos} {e : Expr} {es : List Expr} {t : TA}
def tFn (sp : Sp) (t : TA) : TE := fun σ H Q => t σ H fun vs H1 => sp vs H1 Q E0
theorem pe_fn (F : Fn X.prog X.w X.K X.mg X.base k x ps sp) (hr : Room k X.A) (hg : Gl X x) (ha : PA X (e :: es) t) (hdb : (x == ("__debug__" : Str)) = false := by decide)
    (he : starEach (e :: es) X.env = (false, eval e X.env) :: starEach es X.env := by rfl) (hpl : (backTo pos (starEach es X.env)).any (·.1) = false := by rfl) :
    PE X (.Call (.Name x p) (e :: es) [] pos) (tFn sp t) := by
  obtain ⟨f, fd, F, kp, b, m⟩ := F
  have h := pe_call (p := p) (pos := pos) (dvs := []) (ds := []) F hr hg m kp b .nil pass0 ha hdb he hpl
  intro pins s σ H Q I q
  refine h pins s σ H Q I ?_
  show t σ H fun vs H1 => sp (vs ++ []) H1 Q E0
  have q' : t σ H fun vs H1 => sp vs H1 Q E0 := q
  simpa only [List.append_nil] using q'
end
theorem ifD {c A B : Prop} [Decidable c] (h1 : c → A) (h2 : ¬ c → B) : if decide c = true then A else B := by
  by_cases h : c
  · rw [if_pos (decide_eq_true h)]; exact h1 h
  · rw [if_neg (fun z => h (of_decide_eq_true z))]; exact h2 h
theorem ifND {c A B : Prop} [Decidable c] (h1 : ¬ c → A) (h2 : c → B) : if (!decide c) = true then A else B := by
  by_cases h : c
  · rw [if_neg (by rw [decide_eq_true h]; decide)]; exact h2 h
  · rw [if_pos (by rw [decide_eq_false h]; decide)]; exact h1 h
theorem ifT {c A B : Prop} [Decidable c] (h : c) (a : A) : if decide c = true then A else B := ifD (fun _ => a) (fun z => absurd h z)
theorem ifF {c A B : Prop} [Decidable c] (h : ¬ c) (b : B) : if decide c = true then A else B := ifD (fun z => absurd z h) (fun _ => b)
theorem b_isinstance : bootBuiltins "isinstance" = some (.builtin "isinstance") := by decide +kernel
theorem b_int : bootBuiltins "int" = some (.type "int") := by decide +kernel
theorem b_list : bootBuiltins "list" = some (.type "list") := by decide +kernel
theorem b_len : bootBuiltins "len" = some (.builtin "len") := by decide +kernel
theorem b_min : bootBuiltins "min" = some (.builtin "min") := by decide +kernel
theorem b_sorted : bootBuiltins "sorted" = some (.builtin "sorted") := by decide +kernel
theorem b_enumerate : bootBuiltins "enumerate" = some (.type "enumerate") := by decide +kernel
theorem b_ValueError : bootBuiltins "ValueError" = some (.type "ValueError") := by decide +kernel
theorem at2 {α : Type} (a b : α) {i : Int} (h0 : 0 ≤ i) (h1 : i < 2) : ∃ v, atI [a, b] i = some v ∧ (v = a ∨ v = b) := by
  rcases (by omega : i = 0 ∨ i = 1) with rfl | rfl
  · exact ⟨a, rfl, .inl rfl⟩
  · exact ⟨b, rfl, .inr rfl⟩
theorem at3 {α : Type} (a b c : α) {i : Int} (h0 : 0 ≤ i) (h1 : i < 3) : ∃ v, atI [a, b, c] i = some v ∧ (v = a ∨ v = b ∨ v = c) := by
  rcases (by omega : i = 0 ∨ i = 1 ∨ i = 2) with rfl | rfl | rfl
  · exact ⟨a, rfl, .inl rfl⟩
  · exact ⟨b, rfl, .inr (.inl rfl)⟩
  · exact ⟨c, rfl, .inr (.inr rfl)⟩
theorem at4 {α : Type} (a b c d : α) {i : Int} (h0 : 0 ≤ i) (h1 : i < 4) : ∃ v, atI [a, b, c, d] i = some v ∧ (v = a ∨ v = b ∨ v = c ∨ v = d) := by
  rcases (by omega : i = 0 ∨ i = 1 ∨ i = 2 ∨ i = 3) with rfl | rfl | rfl | rfl
  · exact ⟨a, rfl, .inl rfl⟩
  · exact ⟨b, rfl, .inr (.inl rfl)⟩
  · exact ⟨c, rfl, .inr (.inr (.inl rfl))⟩
  · exact ⟨d, rfl, .inr (.inr (.inr rfl))⟩
theorem Same.put {H H' : Hp} {p : Addr} {o : HO} (s : Same H H') (h : H' p = Option.none) : Same H (upd H' p o) := fun b u e => by
  have e' := s b u e
  rw [upd_ne (ne_of_none e' h)]
  exact e'
theorem Same.new {H : Hp} {p : Addr} {o : HO} (h : H p = Option.none) : Same H (upd H p o) := (Same.refl H).put h
end L2
namespace L2
open PySem PySem.Spec PyProof.Rows
def Itr3 (lo c : Int) (n : Nat) : It := ⟨fun i _ => i < n, fun i H x H' => H' = H ∧ x = .int (lo + i * c), fun i _ => n ≤ i⟩
theorem turn_range3 {P : Program} {w : World} {K : PySem.W.Frag} {tg : Expr} (it : Addr) (lo c : Int) (n : Nat) : Turn P w K tg (Itr3 lo c n) [it] it (fun i h => IsRangeIter h it (lo + (i : Nat) * c) ((n : Int) - (i : Nat)) c) where
  mem := by simp
  obj := fun i h st b hb => by
    have e : b = it := by simpa using hb
    subst e
    exact ⟨_, st, fun v z => by
      have z' : Data.fields _ = Data.cell v := z
      cases z'⟩
  keep := fun i h h' st k => k it (by simp) _ st
  item := by
    intro X hP hw hK hc i pins s σ H E I hf st hg
    subst hP hw hK
    obtain ⟨f0, f1, f2, f3, f4, f5⟩ := hf it (by simp)
    have W := Walks.range (prog := X.prog) (w := X.w) (I.ok.hd hc) it lo c n
    refine W.item i s _ _ hg st fun v h' tk hv st' kk => ?_
    obtain ⟨t, rfl⟩ := hv
    have I1 : Inv X pins σ H { s with heap := h', toks := tk } := I.turned (fun b o hb e => kk b o (by simpa using hb) e) f0 f1 f3 f4 f5
    exact ⟨_, rfl, go_of (s := { s with heap := h', toks := tk }) (n := "range_iterator") st' rfl rfl (by decide) ⟨.int (lo + i * c), H, I1, ⟨t, rfl⟩, ⟨rfl, rfl⟩, st', fun b hb => (hf b hb).1⟩⟩
  done := by
    intro X hP hw hK hc i pins s σ H E I hf st hg
    subst hP hw hK
    obtain ⟨f0, f1, f2, f3, f4, f5⟩ := hf it (by simp)
    exact wpAny_pyNext_range_end (I.ok.hd hc) st (by have : n ≤ i := hg; omega) fun h' eb => ⟨rfl, I.turned (t' := s.toks) (fun b o hb e => eb b o hb e) f0 f1 f3 f4 f5⟩
  self := fun _ _ _ _ _ st h => wpAny_pyIter_rangeiter st h
section
variable {X : Cx} {tg : Expr}
def iRng3 (ta : TA) : TI := fun σ H R => ta σ H fun vs H1 => ∃ (i j c : Int) (n : Nat), vs = [.int i, .int j, .int c] ∧ (c ≠ 0 ∧ c.natAbs < 1073741824 ∧ Builtin.Range.small i j c = true ∧ Builtin.Range.rangeSize i j c = (n : Int)) ∧ R (Itr3 i c n) H1
theorem pi_range3 {a b c : Expr} {ta : TA} {p pos : Pos} (hg : Gl X "range") (hm : X.mg "range" = none) (ha : PA X [a, b, c] ta) (hs : starEach [a, b, c] X.env = (false, eval a X.env) :: starEach [b, c] X.env := by rfl) (hs2 : (backTo pos (starEach [b, c] X.env)).any (·.1) = false := by rfl) :
    PI X tg (.Call (.Name "range" p) [a, b, c] [] pos) (iRng3 ta) := by
  intro pins s σ H R I h
  refine Call_ (ld_blt I hg hm boot_range (PyProof.Rows.callWith_type1 (thn (ha pos pins s σ H _ I h) fun us s1 ⟨vs, H1, I1, r1, q1⟩ => ?_) hs hs2))
  obtain ⟨i, j, k, n, e, ⟨q1, q2, q3, q4⟩, q⟩ := q1
  subst e
  cases r1 with
  | cons r rr =>
    cases rr with
    | cons r' rr =>
      cases rr with
      | cons r'' rr =>
        cases rr
        obtain ⟨t, rfl⟩ := r
        obtain ⟨t', rfl⟩ := r'
        obtain ⟨t'', rfl⟩ := r''
        refine call_range_3 q1 ?_ (.inl (PyProof.noPylong_small q2))
        refine wpAny_pyIter_range (IsRange.new ..) q3 ?_
        have I2 : Inv X pins σ H1 { s1 with heap := s1.heap.push { cls := .type "range", data := .fields #[.int i t, .int j t', .int k t''] }, toks := s1.toks } := I1.kept fun b o e => Heap.get?_push_of_some _ e
        refine ⟨(s1.heap.push { cls := .type "range", data := .fields #[.int i t, .int j t', .int k t''] }).objs.size, [(s1.heap.push { cls := .type "range", data := .fields #[.int i t, .int j t', .int k t''] }).objs.size], _, _, H1, rfl,
          I2.kept (t' := s1.toks) fun b o e => Heap.get?_push_of_some _ e, turn_range3 _ i k n, ?_, fun b hb => ?_, q⟩
        · have e1 : i + ((0 : Nat) : Int) * k = i := by simp
          have e2 : ((n : Nat) : Int) - ((0 : Nat) : Int) = Builtin.Range.rangeSize i j k := by rw [q4]; simp
          show IsRangeIter _ _ (i + ((0 : Nat) : Int) * k) (((n : Nat) : Int) - ((0 : Nat) : Int)) k
          rw [e1, e2]
          exact Heap.get?_push_size _ rfl
        · have e : b = (s1.heap.push { cls := .type "range", data := .fields #[.int i t, .int j t', .int k t''] }).objs.size := by simpa using hb
          subst e
          exact I2.fpOk (Nat.le_refl _) (I2.hok.fresh (Nat.le_refl _))
end
theorem for_range3 {lo c : Int} {n : Nat} {g : TG} {tb : TS} {D : Ends} {σ : St} {H : Hp} (Pv : Nat → St → Hp → Prop) (h0 : Pv 0 σ H)
    (hs : ∀ i σ H, i < n → Pv i σ H → g (.int (lo + i * c)) σ H fun σ2 H2 => tb { D with nx := Pv (i + 1), ct := Pv (i + 1), bk := D.nx } σ2 H2) (hd : ∀ σ H, Pv n σ H → D.nx σ H) :
    ∃ W : Nat → Nat → St → Hp → Prop, (∃ m, W 0 m σ H) ∧ ∀ i m σ H, W i m σ H →
      ((Itr3 lo c n).stop i H ∧ D.nx σ H) ∨ ((Itr3 lo c n).go i H ∧ ∃ N : St → Hp → Prop, (∀ σ' H', N σ' H' → ∃ m', m' < m ∧ W (i + 1) m' σ' H') ∧ ∀ x H', (Itr3 lo c n).yld i H x H' → g x σ H' fun σ2 H2 => tb { D with nx := N, ct := N, bk := D.nx } σ2 H2) := by
  refine ⟨fun i m σ H => m = n - i ∧ i ≤ n ∧ Pv i σ H, ⟨n, by simp, Nat.zero_le _, h0⟩, ?_⟩
  rintro i m σ H ⟨rfl, hi, p⟩
  by_cases hlt : i < n
  · refine .inr ⟨hlt, Pv (i + 1), fun σ' H' p' => ⟨n - (i + 1), by omega, rfl, hlt, p'⟩, fun x H' y => ?_⟩
    obtain ⟨e, y⟩ := y
    subst e y
    exact hs i σ _ hlt p
  · have e : i = n := by omega
    subst e
    exact .inl ⟨Nat.le_refl _, hd σ H p⟩
end L2
namespace L2
open PySem PySem.Spec PyProof.Rows
def clOf (env : Env) : List (Str × NameKind) → List (Str × Addr) → List (Str × Addr)
  | [], acc => acc
  | (n, k) :: r, acc => if k == .free then clOf env r ((n, (env.cells.lookup n).getD 0) :: acc) else clOf env r acc
theorem closure_eq {scope : Scope} {env : Env} (h : ∀ p ∈ scope.names, p.2 = .free → ∃ c, env.cells.lookup p.1 = some c) : closureFor scope env = pure (clOf env scope.names []) := by
  unfold closureFor
  have key : ∀ (names : List (Str × NameKind)) (acc : List (Str × Addr)), (∀ p ∈ names, p.2 = .free → ∃ c, env.cells.lookup p.1 = some c) →
      (forIn names acc (fun (x : Str × NameKind) (cs : List (Str × Addr)) => match x with
        | (name, kind) => if (kind == NameKind.free) = true then (cellOf env name >>= fun c => pure (ForInStep.yield ((name, c) :: cs))) else pure (ForInStep.yield cs)) : Sem (List (Str × Addr))) = pure (clOf env names acc) := by
    intro names
    induction names with
    | nil => intro acc _; rfl
    | cons p r ih =>
      intro acc hp
      obtain ⟨n, k⟩ := p
      have hr : ∀ p ∈ r, p.2 = .free → ∃ c, env.cells.lookup p.1 = some c := fun p hm => hp p (List.mem_cons_of_mem _ hm)
      rw [List.forIn_cons]
      by_cases hk : k = .free
      · subst hk
        obtain ⟨c, hc⟩ := hp (n, .free) List.mem_cons_self rfl
        have hc : env.cells.lookup n = some c := hc
        have e1 : cellOf env n = pure c := by unfold cellOf; rw [hc]
        have e2 : clOf env ((n, .free) :: r) acc = clOf env r ((n, c) :: acc) := by
          show clOf env r ((n, (env.cells.lookup n).getD 0) :: acc) = _
          rw [hc]; rfl
        simp only [beq_self_eq_true, if_true, e1, pure_bind]
        rw [e2]
        exact ih _ hr
      · have hb : (k == NameKind.free) = false := by simpa using hk
        have e2 : clOf env ((n, k) :: r) acc = clOf env r acc := by
          show (if (k == NameKind.free) = true then clOf env r ((n, (env.cells.lookup n).getD 0) :: acc) else clOf env r acc) = _
          rw [hb]; rfl
        simp only [hb, Bool.false_eq_true, if_false, pure_bind]
        rw [e2]
        exact ih _ hr
  have k0 := key scope.names [] h
  show (forIn scope.names ([] : List (Str × Addr)) _ >>= fun r => pure r) = _
  refine Eq.trans (congrArg (fun m => m >>= fun r => pure r) k0) ?_
  rfl
theorem clOf_look {env : Env} : ∀ {names : List (Str × NameKind)} {acc : List (Str × Addr)}, (∀ p ∈ names, p.2 = .free → ∃ c, env.cells.lookup p.1 = some c) → (∀ x c, acc.lookup x = some c → env.cells.lookup x = some c) →
    ∀ x c, (clOf env names acc).lookup x = some c → env.cells.lookup x = some c
  | [], _, _, ha, x, c, h => ha x c h
  | (n, k) :: r, acc, hp, ha, x, c, h => by
    have hr : ∀ p ∈ r, p.2 = .free → ∃ c, env.cells.lookup p.1 = some c := fun p hm => hp p (List.mem_cons_of_mem _ hm)
    by_cases hk : k = .free
    · subst hk
      obtain ⟨d, hd⟩ := hp (n, .free) List.mem_cons_self rfl
      have hd : env.cells.lookup n = some d := hd
      have e2 : clOf env ((n, .free) :: r) acc = clOf env r ((n, d) :: acc) := by
        show clOf env r ((n, (env.cells.lookup n).getD 0) :: acc) = _
        rw [hd]; rfl
      rw [e2] at h
      refine clOf_look hr (fun y e hy => ?_) x c h
      rw [List.lookup_cons] at hy
      cases hyn : y == n with
      | true => rw [hyn] at hy; cases hy; rw [beq_iff_eq.mp hyn]; exact hd
      | false => rw [hyn] at hy; exact ha y e hy
    · have hb : (k == NameKind.free) = false := by simpa using hk
      have e2 : clOf env ((n, k) :: r) acc = clOf env r acc := by
        show (if (k == NameKind.free) = true then clOf env r ((n, (env.cells.lookup n).getD 0) :: acc) else clOf env r acc) = _
        rw [hb]; rfl
      rw [e2] at h
      exact clOf_look hr ha x c h
theorem clOf_has {env : Env} : ∀ {names : List (Str × NameKind)} {acc : List (Str × Addr)} {x : Str}, ((x, NameKind.free) ∈ names ∨ ∃ c, acc.lookup x = some c) → ∃ c, (clOf env names acc).lookup x = some c
  | [], _, _, h => h.elim (fun z => nomatch z) id
  | (n, k) :: r, acc, x, h => by
    by_cases hk : k = .free
    · subst hk
      show ∃ c, (clOf env r ((n, (env.cells.lookup n).getD 0) :: acc)).lookup x = some c
      refine clOf_has ?_
      by_cases hx : x = n
      · subst hx; exact .inr ⟨_, by rw [List.lookup_cons, beq_self_eq_true]⟩
      · rcases h with h | ⟨c, h⟩
        · rcases List.mem_cons.mp h with e | e
          · cases e; exact absurd rfl hx
          · exact .inl e
        · exact .inr ⟨c, by rw [List.lookup_cons, beq_eq_false_iff_ne.mpr hx]; exact h⟩
    · have hb : (k == NameKind.free) = false := by simpa using hk
      have e2 : clOf env ((n, k) :: r) acc = clOf env r acc := by
        show (if (k == NameKind.free) = true then clOf env r ((n, (env.cells.lookup n).getD 0) :: acc) else clOf env r acc) = _
        rw [hb]; rfl
      rw [e2]
      refine clOf_has ?_
      rcases h with h | h
      · rcases List.mem_cons.mp h with e | e
        · cases e; exact absurd rfl hk
        · exact .inl e
      · exact .inr h
section
variable {prog : Program} {w : World} {A : Around}
theorem codeAny_compLoop_gen {elt target iter : Expr} {ifs : List Expr} {scope : Scope} {pos : Pos} {it acc : Value} {env : Env} {s : Shared} {R : Result → Shared → Prop} (I : Nat → Shared → Prop)
    (turn : ∀ n s, I n s → wpAny (model prog w) A (pyNext it) (fun r s₁ => match r with
      | none => R (.ok .next) s₁
      | some v => wpAny (model prog w) A (letOwnedTupleGo target it v) (fun _ s₁' => wpAny (model prog w) A (assign target env v) (fun _ s₂ =>
          wpAny (model prog w) A (forIn ifs true fun c r => if r = true then do let ok ← isTrue c env (eval c env); pure (ForInStep.yield ok) else pure (ForInStep.yield r)) (fun ok s₃ =>
            if ok = true then wpAny (model prog w) A (eval elt env) (fun x s₄ => wpAny (model prog w) A (call (.builtin "list.append") [acc, x]) (fun _ s₅ => ∃ m, m < n ∧ I m s₅) (fun _ _ => False) s₄) (fun _ _ => False) s₃
            else ∃ m, m < n ∧ I m s₃) (fun _ _ => False) s₂) (fun _ _ => False) s₁') (fun _ _ => False) s₁) (fun _ _ => False) s)
    (n : Nat) (h : I n s) : codeAny (model prog w) A (.compLoop (.ListComp elt [⟨target, iter, ifs, 0⟩] scope pos) 0 it acc env) R s := by
  refine codeAny_loop rfl I (fun n s hI => ?_) n h
  show wpAny _ A ((compTurn (.ListComp elt [⟨target, iter, ifs, 0⟩] scope pos) 0 it acc env).onRaise (fun x => do noteFrame x env; theTreesLotGoes x)) _ _ s
  refine wpAny_noted ?_
  rw [compTurn_list]
  refine wpAny_bind (wpAny_standAt (wpAny_bind (wpAny_mono (turn n s hI) (fun r s₁ h₁ => ?_) fun _ _ h' => h'.elim)))
  cases r with
  | none => exact wpAny_pure h₁
  | some v =>
    refine wpAny_bind (wpAny_mono h₁ (fun _ s₁' h₁' => ?_) fun _ _ h' => h'.elim)
    refine wpAny_bind (wpAny_mono h₁' (fun _ s₂ h₂ => wpAny_bind (wpAny_mono h₂ (fun ok s₃ h₃ => ?_) fun _ _ h' => h'.elim)) fun _ _ h' => h'.elim)
    cases ok with
    | false => exact wpAny_pure ⟨rfl, h₃⟩
    | true => exact wpAny_bind (wpAny_bind (wpAny_mono h₃ (fun x s₄ h₄ => wpAny_bind (wpAny_mono h₄ (fun _ s₅ h₅ => wpAny_pure (wpAny_pure ⟨rfl, h₅⟩)) fun _ _ h' => h'.elim)) fun _ _ h' => h'.elim))
end
abbrev blockCx (X : Cx) (pins : List (Addr × Obj)) (N : List Str) (scope : Scope) (C : Addr) (sF : Shared) (HF : Hp) (fp : List Addr) : Cx where
  prog := X.prog
  w := X.w
  K := X.K
  mg := X.mg
  base := X.base
  A := X.A
  N := N
  s₀ := sF
  H₀ := HF
  env := compEnvC scope (clOf X.env scope.names []) C X.env
  outer := X.stack
  stack := X.stack
  ex := fp
  fn := fun _ => false
  calm := X.calm
  pn := X.pn ++ pins
  xe := fun _ _ => False
def blockSt (own : Nat) (ix : List Nat) (σ : St) : St := List.replicate own none ++ ix.map fun i => (σ[i]?).getD none
def CompGo (J : It) (own : Nat) (ix : List Nat) (g : TG) (tt : TT) (te : TE) (σ : St) (H1 : Hp) (acc : Addr) (Q : VK) : Prop :=
  ∃ W : Nat → Nat → List V → Hp → Prop, (∃ m, W 0 m [] (upd H1 acc (.lst []))) ∧ ∀ i m ys H2, W i m ys H2 →
    H2 acc = some (.lst ys) ∧ ((J.stop i H2 ∧ Q (.ref acc) H2) ∨ (J.go i H2 ∧ ys.length < sizeLine ∧ ∀ x H3, J.yld i H2 x H3 → g x (blockSt own ix σ) H3 fun σ4 H4 => σ4.drop own = ix.map (fun i => (σ[i]?).getD none) ∧ tt σ4 H4 fun ok H5 =>
      if ok = true then te σ4 H5 fun y H6 => H6 acc = some (.lst ys) ∧ ∃ m', m' < m ∧ W (i + 1) m' (ys ++ [y]) (upd H6 acc (.lst (ys ++ [y])))
      else ∃ m', m' < m ∧ W (i + 1) m' ys H5))
def tComp (wi : TI) (own : Nat) (ix : List Nat) (g : TG) (tt : TT) (te : TE) : TE := fun σ H Q => wi σ H fun J H1 => ∀ acc, H1 acc = none → CompGo J own ix g tt te σ H1 acc Q
def tNoTest : TT := fun _ H Q => Q true H
def PTs (X : Cx) (ifs : List Expr) (t : TT) : Prop :=
  ∀ (pins : List (Addr × Obj)) (s : Shared) (σ : St) (H : Hp) (Q : Bool → Hp → Prop), Inv X pins σ H s → t σ H Q →
    wpAny (model X.prog X.w) X.A (forIn ifs true fun c r => if r = true then do let ok ← isTrue c X.env (eval c X.env); pure (ForInStep.yield ok) else pure (ForInStep.yield r)) (TP X pins σ Q) X.xe s
theorem pts_nil {X : Cx} : PTs X [] tNoTest := fun _ _ _ H _ I h => wpAny_tests_nil ⟨H, I, h⟩
structure BlockOk (X : Cx) (scope : Scope) (own : List Str) (fr : List Str) (ix : List Nat) : Prop where
  kind : scope.kind = .function
  nocell : ∀ y ∈ scope.names, y.2 ≠ .cell
  names : ∀ y ∈ scope.names, y.2 = .local → scope.names.lookup y.1 = some .local
  free : ∀ p ∈ scope.names, p.2 = .free → ∃ c, X.env.cells.lookup p.1 = some c
  frd : ∀ x ∈ fr, (x, NameKind.free) ∈ scope.names ∧ X.env.kindOf x = some .cell ∧ scope.names.lookup x = some .free
  len : fr.length = ix.length
  at_ : ∀ (j : Nat) x i, fr[j]? = some x → ix[j]? = some i → X.N[i]? = some x
structure BlockB (X : Cx) (scope : Scope) (own : List Str) (fr : List Str) (ix : List Nat) : Prop where
  kind : scope.kind = .function
  nocell : (scope.names.all fun y => y.2 != .cell) = true
  names : (scope.names.all fun y => y.2 != .local || scope.names.lookup y.1 == some .local) = true
  free : (scope.names.all fun p => p.2 != .free || X.env.kindOf p.1 == some .cell) = true
  frd : (fr.all fun x => X.env.kindOf x == some .cell && scope.names.lookup x == some .free) = true
  at_ : (ix.map fun i => X.N[i]?) = fr.map some
theorem mem_of_lookup {x : Str} {k : NameKind} : ∀ {names : List (Str × NameKind)}, names.lookup x = some k → (x, k) ∈ names
  | [], h => by simp at h
  | (n, k') :: r, h => by
    rw [List.lookup_cons] at h
    cases hx : x == n with
    | true =>
      rw [hx] at h
      cases h
      rw [beq_iff_eq.mp hx]
      exact List.mem_cons_self
    | false =>
      rw [hx] at h
      exact List.mem_cons_of_mem _ (mem_of_lookup h)
theorem BlockB.ok {X : Cx} {scope : Scope} {own fr : List Str} {ix : List Nat} (B : BlockB X scope own fr ix) (ok : X.Ok) : BlockOk X scope own fr ix where
  kind := B.kind
  nocell := fun y hy => by simpa using List.all_eq_true.mp B.nocell y hy
  names := fun y hy hl => by
    have := List.all_eq_true.mp B.names y hy
    rw [hl] at this
    simpa using this
  free := fun p hp hf => by
    have := List.all_eq_true.mp B.free p hp
    rw [hf] at this
    exact ok.has p.1 (.inl (by simpa using this))
  frd := fun x hx => by
    have := List.all_eq_true.mp B.frd x hx
    rw [Bool.and_eq_true] at this
    have h2 : scope.names.lookup x = some .free := by simpa using this.2
    exact ⟨mem_of_lookup h2, by simpa using this.1, h2⟩
  len := by
    have := congrArg List.length B.at_
    simpa using this.symm
  at_ := fun j x i hx hi => by
    have e := congrArg (fun l => l[j]?) B.at_
    simp only [List.getElem?_map, hx, hi, Option.map_some] at e
    exact Option.some.inj e
theorem relabel_free {env : Env} (hf : env.scope.kind = .function) : ∀ {names : List (Str × NameKind)} {x : Str}, names.lookup x = some .free → env.kindOf x = some .cell →
    (names.map fun (n, k) => if (k == NameKind.free && env.scope.kind == .function && env.kindOf n == some .cell) then (n, NameKind.cell) else (n, k)).lookup x = some .cell
  | [], _, h, _ => by simp at h
  | (n, k) :: r, x, h, hx => by
    have ih := @relabel_free env hf r x
    show List.lookup x ((if (k == NameKind.free && env.scope.kind == .function && env.kindOf n == some .cell) = true then (n, NameKind.cell) else (n, k)) :: _) = _
    cases hxn : x == n with
    | true =>
      have e := beq_iff_eq.mp hxn
      subst e
      simp only [List.lookup_cons, hxn] at h
      cases h
      rw [if_pos (by rw [hf, hx]; rfl)]
      simp only [List.lookup_cons, hxn]
    | false =>
      simp only [List.lookup_cons, hxn] at h
      by_cases hc : (k == NameKind.free && env.scope.kind == .function && env.kindOf n == some .cell) = true
      · rw [if_pos hc]; simp only [List.lookup_cons, hxn]; exact ih h hx
      · rw [if_neg hc]; simp only [List.lookup_cons, hxn]; exact ih h hx
theorem relabel_has {env : Env} : ∀ {names : List (Str × NameKind)} {x : Str}, (∀ y ∈ names, y.2 ≠ .cell) →
    ((names.map fun (n, k) => if (k == NameKind.free && env.scope.kind == .function && env.kindOf n == some .cell) then (n, NameKind.cell) else (n, k)).lookup x = some .cell ∨
     (names.map fun (n, k) => if (k == NameKind.free && env.scope.kind == .function && env.kindOf n == some .cell) then (n, NameKind.cell) else (n, k)).lookup x = some .free) → (x, NameKind.free) ∈ names
  | [], _, _, h => by simp at h
  | (n, k) :: r, x, hn, h => by
    have ih := @relabel_has env r x (fun y hy => hn y (List.mem_cons_of_mem _ hy))
    have hk : k ≠ .cell := hn (n, k) List.mem_cons_self
    have h' : List.lookup x ((if (k == NameKind.free && env.scope.kind == .function && env.kindOf n == some .cell) = true then (n, NameKind.cell) else (n, k)) :: r.map fun (n, k) => if (k == NameKind.free && env.scope.kind == .function && env.kindOf n == some .cell) then (n, NameKind.cell) else (n, k)) = some .cell ∨
      List.lookup x ((if (k == NameKind.free && env.scope.kind == .function && env.kindOf n == some .cell) = true then (n, NameKind.cell) else (n, k)) :: r.map fun (n, k) => if (k == NameKind.free && env.scope.kind == .function && env.kindOf n == some .cell) then (n, NameKind.cell) else (n, k)) = some .free := h
    by_cases hc : (k == NameKind.free && env.scope.kind == .function && env.kindOf n == some .cell) = true
    · have hf : k = .free := by
        rw [Bool.and_eq_true, Bool.and_eq_true] at hc
        exact beq_iff_eq.mp hc.1.1
      subst hf
      cases hxn : x == n with
      | true => rw [beq_iff_eq.mp hxn]; exact List.mem_cons_self
      | false =>
        rw [if_pos hc] at h'
        simp only [List.lookup_cons, hxn] at h'
        exact List.mem_cons_of_mem _ (ih h')
    · rw [if_neg hc] at h'
      cases hxn : x == n with
      | true =>
        simp only [List.lookup_cons, hxn] at h'
        rcases h' with e | e
        · cases e; exact absurd rfl hk
        · cases e; rw [beq_iff_eq.mp hxn]; exact List.mem_cons_self
      | false =>
        simp only [List.lookup_cons, hxn] at h'
        exact List.mem_cons_of_mem _ (ih h')
section
variable {X : Cx} {pins : List (Addr × Obj)} {σ : St} {H : Hp} {s : Shared}
theorem block_start {scope : Scope} {own fr : List Str} {ix : List Nat} {C : Addr} {h₁ : Heap} {tk : Nat} {fp : List Addr} {m : Str → Option Value} (I : Inv X pins σ H s) (B : BlockOk X scope own fr ix) (hC : C = s.heap.objs.size)
    (hf : ∀ b ∈ fp, FpOk X pins H b) (hb : ∀ b ∈ fp, ∃ o, s.heap.get? b = some o) (old : ∀ b o, s.heap.get? b = some o → h₁.get? b = some o) (hns : h₁.Ns C m) :
    Inv (blockCx X pins (own ++ fr) scope C s H fp) [] (blockSt own.length ix σ) H { s with heap := h₁, toks := tk } := by
  have look : ∀ x c, (clOf X.env scope.names []).lookup x = some c → X.env.cells.lookup x = some c := clOf_look B.free (fun _ _ z => by cases z)
  have lt : ∀ b o, s.heap.get? b = some o → b ≠ C := fun b o e => by rw [hC]; exact Nat.ne_of_lt (Heap.lt_size e)
  have ok : (blockCx X pins (own ++ fr) scope C s H fp).Ok := {
    mod := I.ok.mod
    kind := B.kind
    glob := I.ok.glob
    blt := I.ok.blt
    above := by show s.heap.objs.size ≤ C; rw [hC]; exact Nat.le_refl _
    inj := fun x y c a b => I.ok.inj x y c (look x c a) (look y c b)
    has := fun x hx => clOf_has (.inl (relabel_has B.nocell hx))
    cab := fun x c z => nomatch z
    hd := I.ok.hd
    frames := I.ok.frames
    stk := .inl rfl
    exf := fun b hbf => ⟨by obtain ⟨o, e⟩ := hb b hbf; exact lt b o e, fun x c e => (hf b hbf).2.2.2.2.1 x c (look x c e)⟩
    bs := I.bs
    bsz := Nat.le_trans I.ok.bsz I.sz
    noex := fun b o e hbf => by
      rcases (hf b hbf).2.2.2.1 with z | z
      · exact I.ok.noex b o e z
      · exact absurd (Nat.lt_of_lt_of_le (Heap.lt_size e) (Nat.le_trans I.ok.bsz z)) (Nat.lt_irrefl _)
    exfs := fun b hbf hs => by
      rcases List.mem_cons.mp (I.stkSub b hs) with z | z
      · exact (hf b hbf).2.1 z
      · exact (hf b hbf).2.2.1 z
    funs := I.stack
    frf := I.stkFree }
  refine ⟨ok, rfl, I.bare, Un.kept old, ⟨m, hns, fun i x v e1 e2 e3 => ?_⟩, fun x c e => ?_, ?_, fun x c e => I.freeC x c (look x c e), fun p hp => ?_, I.hok.kept old, ?_⟩
  · have e1 : (own ++ fr)[i]? = some x := e1
    have e2 : (List.replicate own.length none ++ ix.map fun i => (σ[i]?).getD none)[i]? = some (some v) := e2
    by_cases hi : i < own.length
    · rw [List.getElem?_append_left (by rw [List.length_replicate]; exact hi), List.getElem?_replicate, if_pos hi] at e2
      cases e2
    · rw [List.getElem?_append_right (by omega)] at e1
      rw [List.getElem?_append_right (by rw [List.length_replicate]; omega), List.length_replicate, List.getElem?_map] at e2
      obtain ⟨i', hi', e4⟩ := Option.map_eq_some_iff.mp e2
      have e5 : σ[i']? = some (some v) := by
        cases z : σ[i']? with
        | none => rw [z] at e4; cases e4
        | some y => rw [z] at e4; exact congrArg some e4
      have hm : x ∈ fr := List.mem_of_getElem? e1
      obtain ⟨f1, f2, f3⟩ := B.frd x hm
      obtain ⟨mX, _, hl⟩ := I.loc
      obtain ⟨u, r, l⟩ := hl i' x v (B.at_ _ x i' e1 hi') e5 (.inr (.inl f2))
      rcases l with ⟨l, _⟩ | ⟨_, c, ec, z⟩
      · rw [f2] at l; cases l
      · obtain ⟨c', ec'⟩ := clOf_has (env := X.env) (names := scope.names) (acc := []) (x := x) (.inl f1)
        have := look x c' ec'
        rw [ec] at this
        cases this
        obtain ⟨o, ho, hd⟩ := z
        exact ⟨u, r, .inr ⟨.inl (relabel_free I.ok.kind f3 f2), c, ec', o, old _ _ ho, hd⟩⟩
  · obtain ⟨v, o, ho, hd⟩ := I.cell x c (look x c e)
    exact ⟨v, o, old _ _ ho, hd⟩
  · show H C = none
    rw [hC]; exact I.hok.fresh (Nat.le_refl _)
  · have hp' : p ∈ X.pn ++ pins := by simpa using hp
    obtain ⟨e, n, ne, nf, d⟩ := I.pin p hp'
    refine ⟨old _ _ e, n, lt _ _ e, fun z => ?_, d⟩
    rcases List.mem_cons.mp (I.stkSub _ z) with q | q
    · exact ne q
    · exact nf q
  · show (List.replicate own.length none ++ ix.map fun i => (σ[i]?).getD none).length = (own ++ fr).length
    rw [List.length_append, List.length_append, List.length_replicate, List.length_map, B.len]
theorem block_end {N : List Str} {scope : Scope} {C : Addr} {fp : List Addr} {σ' : St} {H' : Hp} {s' : Shared} {h'' : Heap} {pl : List (Addr × Obj)} (I : Inv X pins σ H s) (hf : ∀ b ∈ fp, FpOk X pins H b) (hC : C = s.heap.objs.size)
    (J : Inv (blockCx X pins N scope C s H fp) pl σ' H' s') (hs : Heap.SameBut C s'.heap h'') : Inv X pins σ H' { s' with heap := h'' } := by
  have u := J.base
  have k : ∀ b o, b ≠ C → s'.heap.get? b = some o → h''.get? b = some o := fun b o hb e => hs.extBut b o hb e
  have hn : H' C = none := J.free
  have lt : ∀ b o, s.heap.get? b = some o → b ≠ C := fun b o e => by rw [hC]; exact Nat.ne_of_lt (Heap.lt_size e)
  refine I.call' (s' := { s' with heap := h'' }) (ch := fp) J.os ?_ ?_ J.bare fun b hb => ⟨(hf b hb).2.2.2.1, (hf b hb).2.1, (hf b hb).2.2.2.2.1, (hf b hb).2.2.2.2.2⟩
  · exact ⟨fun b o q n hb he => k b o (lt b o q) (u.keep b o q n hb he), fun b o q n hb he => by
        obtain ⟨sl, e⟩ := u.slot b o q n hb he
        exact ⟨sl, k b _ (lt b o q) e⟩, u.free, fun b o q he => by
        obtain ⟨o', e⟩ := u.there b o q he
        exact ⟨o', k b _ (lt b o q) e⟩, u.tups, u.frzs, u.tbls⟩
  · intro b o e
    have nit : ∀ b u, H' b = some u → b ≠ C := fun b u e z => by rw [z, hn] at e; cases e
    refine (J.hok b o e).stay (fun c v hc q => k c v ?_ q) (fun _ q => q) fun _ _ q => q
    rcases hc with z | z
    · rw [z]; exact nit b o e
    · exact nit c _ z
theorem comp_block {tg iter elt : Expr} {ifs : List Expr} {scope : Scope} {own fr : List Str} {ix : List Nat} {g : TG} {tt : TT} {te : TE} {pos : Pos} {Q : VK} {sF : Shared} {HF : Hp} {C acc it : Addr} {h₁ : Heap} {fp : List Addr} {tn : Nat → Heap → Prop} {J : It} {W : Nat → Nat → List V → Hp → Prop} {m : Str → Option Value} {m0 : Nat} {RR : Result → Shared → Prop}
    (hc : X.calm = true) (B : BlockOk X scope own fr ix)
    (hg : ∀ pins C sF HF fp, PG (blockCx X pins (own ++ fr) scope C sF HF fp) tg g) (ht : ∀ pins C sF HF fp, PTs (blockCx X pins (own ++ fr) scope C sF HF fp) ifs tt) (he : ∀ pins C sF HF fp, PE (blockCx X pins (own ++ fr) scope C sF HF fp) elt te)
    (I3 : Inv X pins σ HF sF) (T : Turn X.prog X.w X.K tg J fp it tn) (st3 : tn 0 sF.heap) (f3 : ∀ b ∈ fp, FpOk X pins HF b) (f3' : ∀ b ∈ fp, ∃ o, sF.heap.get? b = some o) (hC : sF.heap.objs.size = C) (old : ∀ b o, sF.heap.get? b = some o → h₁.get? b = some o) (hns₁ : h₁.Ns C m)
    (w0 : W 0 m0 [] HF) (turn : ∀ i m ys H2, W i m ys H2 → H2 acc = some (.lst ys) ∧ ((J.stop i H2 ∧ Q (.ref acc) H2) ∨ (J.go i H2 ∧ ys.length < sizeLine ∧ ∀ x H3, J.yld i H2 x H3 → g x (blockSt own.length ix σ) H3 fun σ4 H4 => σ4.drop own.length = ix.map (fun i => (σ[i]?).getD none) ∧ tt σ4 H4 fun ok H5 =>
      if ok = true then te σ4 H5 fun y H6 => H6 acc = some (.lst ys) ∧ ∃ m', m' < m ∧ W (i + 1) m' (ys ++ [y]) (upd H6 acc (.lst (ys ++ [y])))
      else ∃ m', m' < m ∧ W (i + 1) m' ys H5)))
    (fin : ∀ s6 H5, Inv (blockCx X pins (own ++ fr) scope C sF HF fp) [] (blockSt own.length ix σ) H5 s6 → Q (.ref acc) H5 → RR (.ok .next) s6) :
    codeAny (model X.prog X.w) X.A (.compStart (.ListComp elt [⟨tg, iter, ifs, 0⟩] scope pos) 0 (.ref it) (.ref acc) (compEnvC scope (clOf X.env scope.names []) C X.env)) RR
      { sF with heap := h₁, toks := sF.toks + ([] : List (Str × Value)).length } := by
  have J0 : Inv (blockCx X pins (own ++ fr) scope C sF HF fp) [] (blockSt own.length ix σ) HF { sF with heap := h₁, toks := sF.toks + ([] : List (Str × Value)).length } := block_start I3 B hC.symm f3 f3' old hns₁
  have st4 : tn 0 h₁ := T.keep _ _ _ st3 fun b _ o e => old b o e
  have fY : ∀ {pl : List (Addr × Obj)} {H' : Hp}, (∀ b ∈ fp, H' b = none) → (∀ p ∈ pl, p.1 ∉ fp) → ∀ b ∈ fp, FpOk (blockCx X pins (own ++ fr) scope C sF HF fp) pl H' b := fun {pl H'} hn hp b hb => by
    refine ⟨hn b hb, (J0.ok.exf b hb).1, J0.ok.exfs b hb, .inl hb, (J0.ok.exf b hb).2, fun p hpm => ?_⟩
    rcases List.mem_append.mp hpm with z | z
    · exact (f3 b hb).2.2.2.2.2 p z
    · exact fun e => hp p z (by rw [e]; exact hb)
  have weak : ∀ {pl : List (Addr × Obj)} {σ4 : St} {H4 : Hp} {s4 : Shared}, Inv (blockCx X pins (own ++ fr) scope C sF HF fp) pl σ4 H4 s4 → σ4.drop own.length = ix.map (fun i => (σ[i]?).getD none) → Inv (blockCx X pins (own ++ fr) scope C sF HF fp) pl (blockSt own.length ix σ) H4 s4 := fun {pl σ4 H4 s4} J e => by
    refine J.weak ?_ fun i v hv => ?_
    · have := J.len
      have := J0.len
      omega
    · have hv' : (List.replicate own.length none ++ ix.map fun i => (σ[i]?).getD none)[i]? = some (some v) := hv
      by_cases hi : i < own.length
      · rw [List.getElem?_append_left (by rw [List.length_replicate]; exact hi), List.getElem?_replicate, if_pos hi] at hv'
        cases hv'
      · rw [List.getElem?_append_right (by rw [List.length_replicate]; omega), List.length_replicate, ← e, List.getElem?_drop] at hv'
        rw [show own.length + (i - own.length) = i by omega] at hv'
        exact hv'
  have loop : ∀ s4 : Shared, s4 = { sF with heap := h₁, toks := sF.toks + ([] : List (Str × Value)).length } →
      codeAny (model X.prog X.w) X.A (.compLoop (.ListComp elt [⟨tg, iter, ifs, 0⟩] scope pos) 0 (.ref it) (.ref acc) (compEnvC scope (clOf X.env scope.names []) C X.env)) RR s4 := by
    rintro s4 rfl
    refine codeAny_compLoop_gen (fun n s' => ∃ i ys H', Inv (blockCx X pins (own ++ fr) scope C sF HF fp) [] (blockSt own.length ix σ) H' s' ∧ tn i s'.heap ∧ (∀ b ∈ fp, H' b = none) ∧ W i n ys H') ?_ m0 ⟨0, [], HF, J0, st4, fun b hb => (f3 b hb).1, w0⟩
    rintro n s5 ⟨i, ys, H5, J5, st5, fr5, w5⟩
    obtain ⟨ha, hturn⟩ := turn i n ys H5 w5
    rcases hturn with ⟨stop, qn⟩ | ⟨go, hsz, step⟩
    · refine thn (T.done (blockCx X pins (own ++ fr) scope C sF HF fp) rfl rfl rfl hc i [] s5 _ H5 (fun _ _ => False) J5 (fY fr5 (fun _ z => by cases z)) st5 stop) fun r s6 ⟨hr, J6⟩ => ?_
      subst hr
      exact fin s6 H5 J6 qn
    · refine thn (T.item (blockCx X pins (own ++ fr) scope C sF HF fp) rfl rfl rfl hc i [] s5 _ H5 (fun _ _ => False) J5 (fY fr5 (fun _ z => by cases z)) st5 go) fun r s6 ⟨u, hr, h6⟩ => ?_
      subst hr
      refine thn h6 fun _ s7 ⟨x, H7, J7, r7, y7, st7, fr7⟩ => ?_
      have J7' := J7.pinned (fY fr7 (fun _ z => by cases z)) (T.obj _ _ st7)
      refine thn (hg pins C sF HF fp _ s7 _ H7 x u _ J7' r7 (step x H7 y7)) fun _ s8 ⟨σ8, H8, J8, k8, q8⟩ => ?_
      have back : ∀ {s9 : Shared} {H9 : Hp}, Inv (blockCx X pins (own ++ fr) scope C sF HF fp) ([] ++ pinsAt fp s7.heap) σ8 H9 s9 → Inv (blockCx X pins (own ++ fr) scope C sF HF fp) [] (blockSt own.length ix σ) H9 s9 ∧ tn (i + 1) s9.heap ∧ ∀ b ∈ fp, H9 b = none := fun {s9 H9} J9 => by
        refine ⟨weak J9.unpinned k8, T.keep _ _ _ st7 fun b hb o e => (J9.pin (b, o) (List.mem_append_right _ (List.mem_append_right _ (mem_pinsAt hb e)))).1, fun b hb => ?_⟩
        obtain ⟨o, e, d⟩ := T.obj _ _ st7 b hb
        exact (J9.pin (b, o) (List.mem_append_right _ (List.mem_append_right _ (mem_pinsAt hb e)))).2.1
      refine thn (ht pins C sF HF fp _ s8 σ8 H8 _ J8 q8) fun ok s9 ⟨H9, J9, q9⟩ => ?_
      cases ok with
      | false =>
        obtain ⟨m', hm, w9⟩ := q9
        obtain ⟨b1, b2, b3⟩ := back J9
        exact ⟨m', hm, i + 1, ys, H9, b1, b2, b3, w9⟩
      | true =>
        refine thn (he pins C sF HF fp _ s9 σ8 H9 _ J9 q9) fun v s10 ⟨y, H10, J10, r10, a10, m', hm, w10⟩ => ?_
        refine thn (mt_append _ s10 σ8 H10 (.ref acc) [y] (.ref acc) [v] (fun _ H' => H' = upd H10 acc (.lst (ys ++ [y]))) J10 rfl (.cons r10 .nil) ⟨acc, ys, y, rfl, rfl, a10, hsz, rfl⟩) fun _ s11 ⟨_, H11, J11, _, e11⟩ => ?_
        subst e11
        obtain ⟨b1, b2, b3⟩ := back J11
        exact ⟨m', hm, i + 1, ys ++ [y], _, b1, b2, b3, w10⟩
  exact codeAny_compStart_list (loop _ rfl) (T.self _ 0 _ _ _ st4 (loop _ rfl))
theorem pe_comp {tg iter elt : Expr} {ifs : List Expr} {scope : Scope} {own fr : List Str} {ix : List Nat} {wi : TI} {g : TG} {tt : TT} {te : TE} {pos : Pos} (hc : X.calm = true) (BB : BlockB X scope own fr ix) (hi : PI X tg iter wi)
    (hg : ∀ pins C sF HF fp, PG (blockCx X pins (own ++ fr) scope C sF HF fp) tg g) (ht : ∀ pins C sF HF fp, PTs (blockCx X pins (own ++ fr) scope C sF HF fp) ifs tt) (he : ∀ pins C sF HF fp, PE (blockCx X pins (own ++ fr) scope C sF HF fp) elt te)
    (hs : ∀ x, foldedSetIterable iter X.env x = pure x := by intro _; rfl) : PE X (.ListComp elt [⟨tg, iter, ifs, 0⟩] scope pos) (tComp wi own.length ix g tt te) := by
  intro pins s σ H Q I h
  have B := BB.ok I.ok
  rw [eval_ListComp]
  refine wpAny_comprehension_free (use := none) rfl hs (closure_eq B.free) B.kind B.names (thn (hi pins s σ H _ I h) fun xv s1 h1 => thn h1 fun itv s2 h2 => ?_)
  obtain ⟨it, fp, tn, J, H2, rfl, I2, T, st2, f2, R⟩ := h2
  refine wpAny_newObj_type (wpAny_newFunctionEnv B.nocell (by intro y hy; simp at hy) (fun h₁ hns₁ hsb₁ => ?_) B.kind)
  dsimp only at hns₁ hsb₁
  have I3 := I2.lnew (t' := s2.toks) (its := []) (ys := []) .nil (Nat.zero_le _)
  obtain ⟨W, ⟨m0, w0⟩, turn⟩ := R _ I2.fresh
  have fF : ∀ b ∈ fp, ∃ o, s2.heap.get? b = some o := fun b hb => let ⟨o, e, _⟩ := T.obj _ _ st2 b hb; ⟨o, e⟩
  have nacc : ∀ b ∈ fp, b ≠ s2.heap.objs.size := fun b hb => let ⟨o, e⟩ := fF b hb; Nat.ne_of_lt (Heap.lt_size e)
  have push : ∀ b o, s2.heap.get? b = some o → (s2.heap.push { cls := .type "list", data := .seq ([] : List Value).toArray }).get? b = some o := fun b o e => Heap.get?_push_of_some _ e
  exact comp_block hc B hg ht he I3 T (T.keep _ _ _ st2 fun b _ o e => push b o e) (fun b hb => ⟨by rw [upd_ne (nacc b hb)]; exact (f2 b hb).1, (f2 b hb).2⟩) (fun b hb => let ⟨o, e⟩ := fF b hb; ⟨o, push b o e⟩) rfl
    (fun b o e => hsb₁.extBut b o (Nat.ne_of_lt (Heap.lt_size e)) (Heap.get?_push_of_some _ e)) hns₁ w0 turn fun s6 H5 J6 qn => by
      obtain ⟨m6, hn6, _⟩ := J6.loc
      exact ⟨m6, hn6, fun h' hs' => ⟨.ref _, H5, block_end I3 (fun b hb => ⟨by rw [upd_ne (nacc b hb)]; exact (f2 b hb).1, (f2 b hb).2⟩) rfl J6 hs', rfl, qn⟩⟩
theorem ps_setC {tg iter elt : Expr} {ifs : List Expr} {scope : Scope} {own fr : List Str} {ix : List Nat} {wi : TI} {g : TG} {tt : TT} {te : TE} {pos spos py : Pos} {k : Nat} {y : Str} (hc : X.calm = true) (hN : X.N.Nodup) (hk : X.N[k]? = some y) (hy : X.env.scope.names.lookup y = some .local) (BB : BlockB X scope own fr ix) (hi : PI X tg iter wi)
    (hg : ∀ pins C sF HF fp, PG (blockCx X pins (own ++ fr) scope C sF HF fp) tg g) (ht : ∀ pins C sF HF fp, PTs (blockCx X pins (own ++ fr) scope C sF HF fp) ifs tt) (he : ∀ pins C sF HF fp, PE (blockCx X pins (own ++ fr) scope C sF HF fp) elt te)
    (hsw : swapsWith (.ListComp elt [⟨tg, iter, ifs, 0⟩] scope pos) (some (.Name y py)) spos.line X.env = pure true := by rfl)
    (hs : ∀ x, foldedSetIterable iter X.env x = pure x := by intro _; rfl) : PS X (.Assign [.Name y py] (.ListComp elt [⟨tg, iter, ifs, 0⟩] scope pos) spos) (tAsg (tComp wi own.length ix g tt te) (gName k)) := by
  intro pins s σ H D I h
  have B := BB.ok I.ok
  rw [exec_Assign_Name_used _ _ _ _ hsw]
  refine wpAny_bind (wpAny_standAt (wpAny_bind ?_))
  show wpAny _ X.A (do let _ ← comprehension (.ListComp elt [⟨tg, iter, ifs, 0⟩] scope pos) scope X.env _ (newList []) false (eval iter X.env) (some (assign (.Name y py) X.env))) _ _ s
  refine wpAny_bind (wpAny_mono (wpAny_comprehension_free (use := some (assign (.Name y py) X.env)) (Q := fun _ s' => SP X pins D .next s') rfl hs (closure_eq B.free) B.kind B.names
    (thn (hi pins s σ H _ I h) fun xv s1 h1 => thn h1 fun itv s2 h2 => ?_)) (fun _ s' hq => wpAny_pure (wpAny_pure hq)) fun _ _ e => e)
  obtain ⟨it, fp, tn, J, H2, rfl, I2, T, st2, f2, R⟩ := h2
  refine wpAny_newObj_type (wpAny_newFunctionEnv B.nocell (by intro y hy; simp at hy) (fun h₁ hns₁ hsb₁ => ?_) B.kind)
  dsimp only at hns₁ hsb₁
  have I3 := I2.lnew (t' := s2.toks) (its := []) (ys := []) .nil (Nat.zero_le _)
  obtain ⟨W, ⟨m0, w0⟩, turn⟩ := R _ I2.fresh
  have fF : ∀ b ∈ fp, ∃ o, s2.heap.get? b = some o := fun b hb => let ⟨o, e, _⟩ := T.obj _ _ st2 b hb; ⟨o, e⟩
  have nacc : ∀ b ∈ fp, b ≠ s2.heap.objs.size := fun b hb => let ⟨o, e⟩ := fF b hb; Nat.ne_of_lt (Heap.lt_size e)
  have push : ∀ b o, s2.heap.get? b = some o → (s2.heap.push { cls := .type "list", data := .seq ([] : List Value).toArray }).get? b = some o := fun b o e => Heap.get?_push_of_some _ e
  have f3 : ∀ b ∈ fp, FpOk X pins (upd H2 s2.heap.objs.size (.lst [])) b := fun b hb => ⟨by rw [upd_ne (nacc b hb)]; exact (f2 b hb).1, (f2 b hb).2⟩
  refine comp_block (Q := fun x H1 => gName k x σ H1 D.nx) hc B hg ht he I3 T (T.keep _ _ _ st2 fun b _ o e => push b o e) f3 (fun b hb => let ⟨o, e⟩ := fF b hb; ⟨o, push b o e⟩) rfl
    (fun b o e => hsb₁.extBut b o (Nat.ne_of_lt (Heap.lt_size e)) (Heap.get?_push_of_some _ e)) hns₁ w0 turn fun s6 H5 J6 qn => ?_
  have I6 : Inv X pins σ H5 { s6 with heap := s6.heap } := block_end I3 f3 rfl J6 (Heap.SameBut.refl ..)
  have I6 : Inv X pins σ H5 s6 := I6
  obtain ⟨m6, ⟨o6, es6, ep6, ho6, rest6⟩, _⟩ := id J6.loc
  have sz : ∀ b o, (s2.heap.push { cls := .type "list", data := .seq ([] : List Value).toArray }).get? b = some o → b ≠ (s2.heap.push { cls := .type "list", data := .seq ([] : List Value).toArray }).objs.size := fun b o e => Nat.ne_of_lt (Heap.lt_size e)
  have hge : X.s₀.heap.objs.size ≤ (s2.heap.push { cls := .type "list", data := .seq ([] : List Value).toArray }).objs.size := I3.sz
  have hloc : (s2.heap.push { cls := .type "list", data := .seq ([] : List Value).toArray }).objs.size ≠ X.env.locals := fun z => by
    have := I3.lt
    rw [← z] at this
    exact Nat.lt_irrefl _ this
  have hfs : (s2.heap.push { cls := .type "list", data := .seq ([] : List Value).toArray }).objs.size ∉ X.fs := I3.nofs (Nat.le_refl _)
  have hcell : ∀ x c, X.env.cells.lookup x = some c → c ≠ (s2.heap.push { cls := .type "list", data := .seq ([] : List Value).toArray }).objs.size := fun x c e => by
    obtain ⟨v, ob, hob, _⟩ := I3.cell x c e
    exact sz _ _ hob
  have hpin : ∀ p ∈ X.pn ++ pins, p.1 ≠ (s2.heap.push { cls := .type "list", data := .seq ([] : List Value).toArray }).objs.size := fun p hp => sz _ _ (I3.pin p hp).1
  have I7 : Inv X (pins ++ [((s2.heap.push { cls := .type "list", data := .seq ([] : List Value).toArray }).objs.size, o6)]) σ H5 s6 := I6.pins_of fun p hp => by
    rcases List.mem_append.mp hp with z | z
    · exact I6.pin p (List.mem_append_right _ z)
    · rw [List.mem_singleton.mp z]
      refine ⟨ho6, J6.free, hloc, hfs, fun v z => ?_⟩
      rw [rest6.1] at z
      cases z
  refine wpAny_assign_Name (store_ok (v := .ref s2.heap.objs.size) I7 hN hk (.inl hy) rfl (fun s8 I8 => ?_) (.inr hy))
  have h8 := (I8.pin ((s2.heap.push { cls := .type "list", data := .seq ([] : List Value).toArray }).objs.size, o6) (List.mem_append_right _ (List.mem_append_right _ (List.mem_singleton.mpr rfl)))).1
  refine ⟨m6, ⟨o6, es6, ep6, h8, rest6⟩, fun h' hs' => ⟨_, H5, (I8.unpinned).turned (t' := s8.toks) (fun b o hb e => hs'.extBut b o hb e) J6.free hloc (.inr hge) hcell hpin, qn⟩⟩
end
end L2
namespace L2
open PySem PySem.Spec PyProof.Rows PySem.SeqAt
def SqLL (K : PySem.W.Frag) (H : Hp) (a : Addr) (nss : List (List Int)) : Prop := ∃ as : List Addr, SqL K H a (as.map V.ref) ∧ Paired (fun b ns => SqL K H b (ns.map V.int)) as nss
abbrev dI (ns : List Int) : PyData := .list (ns.map PyData.int)
abbrev dII (nss : List (List Int)) : PyData := .list (nss.map dI)
theorem canLay_dII : ∀ nss : List (List Int), PyData.canLayAll0 (nss.map dI) = true
  | [] => by simp [PyData.canLayAll0]
  | n :: r => by simp [PyData.canLayAll0, PyData.canLay0, PySem.W.canLayAll0_ints, canLay_dII r]
theorem depth_dI (ns : List Int) : PyData.depth (dI ns) ≤ 2 := by
  have := PySem.W.depthAll_ints ns
  simp only [PyData.depth]
  omega
theorem depthAll_dII : ∀ nss : List (List Int), PyData.depthAll (nss.map dI) ≤ 2
  | [] => by simp [PyData.depthAll]
  | n :: r => by
    have := depthAll_dII r
    have := depth_dI n
    simp only [List.map_cons, PyData.depthAll]
    omega
theorem shaped_dII (nss : List (List Int)) : shaped (dII nss) = true := by
  have h1 := depthAll_dII nss
  have h2 : PyData.depth (dII nss) ≤ 64 := by simp only [PyData.depth]; omega
  show (PyData.canLay0 (dII nss) && decide (PyData.depth (dII nss) ≤ 64)) = true
  rw [Bool.and_eq_true]
  exact ⟨by simp only [PyData.canLay0]; exact canLay_dII nss, decide_eq_true h2⟩
theorem noMix_dI (ns ms : List Int) : noMix (dI ns) (dI ms) = true := by
  simp only [noMix]; exact PySem.W.noMix_ints ns ms
theorem noMix_dII : ∀ nss mss : List (List Int), noMixAll (nss.map dI) (mss.map dI) = true
  | [], [] => by simp [noMixAll]
  | [], _ :: _ => by simp [noMixAll]
  | _ :: _, [] => by simp [noMixAll]
  | n :: r, m :: q => by
    simp only [List.map_cons, noMixAll, noMix_dII r q, Bool.and_true]
    exact noMix_dI n m
theorem same_dI (ns ms : List Int) : PySem.Spec.same (dI ns) (dI ms) = decide (ns = ms) := by
  simp only [PySem.Spec.same]; exact PySem.W.same_ints ns ms
theorem same_dII : ∀ nss mss : List (List Int), PySem.Spec.sameAll (nss.map dI) (mss.map dI) = decide (nss = mss)
  | [], [] => by simp [PySem.Spec.sameAll]
  | [], _ :: _ => by simp [PySem.Spec.sameAll]
  | _ :: _, [] => by simp [PySem.Spec.sameAll]
  | n :: r, k :: q => by
    simp only [List.map_cons, PySem.Spec.sameAll, same_dII r q]
    rw [same_dI]
    by_cases h : n = k <;> simp [h]
section
variable {X : Cx} {pins : List (Addr × Obj)} {σ : St} {H : Hp} {s : Shared}
theorem Inv.ints (I : Inv X pins σ H s) {a : Addr} {ns : List Int} (h : SqL X.K H a (ns.map V.int)) : ∃ vs : List Value, s.heap.IsList a vs.toArray ∧ IntsAre vs ns ∧ ns.length ≤ sizeLine := by
  obtain ⟨its, r, p, z⟩ := I.list h
  exact ⟨its, p.isList, intsAre_of r, by rwa [List.length_map] at z⟩
theorem Inv.reads (I : Inv X pins σ H s) {a : Addr} {ns : List Int} (h : SqL X.K H a (ns.map V.int)) : Reads s.heap (.ref a) (dI ns) [a] := by
  obtain ⟨vs, l, i, _⟩ := I.ints h
  exact PySem.W.reads_of_ints l i
theorem Inv.readsAll (I : Inv X pins σ H s) : ∀ {as : List Addr} {us : List Value} {nss : List (List Int)}, Vals (as.map V.ref) us → Paired (fun b ns => SqL X.K H b (ns.map V.int)) as nss → ∃ bs, ReadsAll s.heap us (nss.map dI) bs
  | [], _, _, r, p => by
    cases r; cases p
    exact ⟨_, .nil⟩
  | a :: as, _, _, r, p => by
    cases p with
    | cons p1 p2 =>
      cases r with
      | cons r1 r2 =>
        obtain ⟨bs, h⟩ := I.readsAll r2 p2
        cases r1
        exact ⟨_, .cons (I.reads p1) h⟩
theorem Inv.readsL (I : Inv X pins σ H s) {a : Addr} {nss : List (List Int)} (h : SqLL X.K H a nss) : ∃ bs, Reads s.heap (.ref a) (dII nss) bs := by
  obtain ⟨as, h1, h2⟩ := h
  obtain ⟨its, r, ⟨o, n, ho, hc, hd0, hd⟩, z⟩ := I.list h1
  obtain ⟨bs, hb⟩ := I.readsAll r h2
  exact ⟨_, .list ho hc hd (by simpa using hb)⟩
end
section
variable {X : Cx}
def rNeLL (K : PySem.W.Frag) : R2 := fun x y H Q => ∃ (a b : Addr) (nss mss : List (List Int)), x = .ref a ∧ y = .ref b ∧ SqLL K H a nss ∧ SqLL K H b mss ∧ Q (.bl (!decide (nss = mss))) H
theorem op_neLL (hu : X.A.units + 64 < cLine) : OpR X (compareOp .NotEq) (rNeLL X.K) := by
  intro pins s σ H x y v u Q I rx ry h
  obtain ⟨a, b, ns, ms, rfl, rfl, h1, h2, q⟩ := h
  cases rx; cases ry
  obtain ⟨as, r1⟩ := I.readsL h1
  obtain ⟨bs, r2⟩ := I.readsL h2
  exact ne_dataH_same r1 r2 (shaped_dII ns) (shaped_dII ms) hu (by simp only [noMix]; exact noMix_dII ns ms) (by simp only [PySem.Spec.same]; rw [same_dII]; exact ⟨.bl _, H, I, rfl, q⟩)
theorem call_sortedI : CallR X (.builtin "sorted") (fun xs H Q => ∃ (p : Addr) (ns : List Int), xs = [.ref p] ∧ SqL X.K H p (ns.map V.int) ∧ ns.length < 64 ∧ ∀ (l : Addr) (ms : List Int), H l = none → ms.Perm ns → ms.Pairwise (· ≤ ·) → Q (.ref l) (upd H l (.lst (ms.map V.int)))) := by
  intro pins s σ H xs us Q I r h
  obtain ⟨p, ns, rfl, hq, h64, q⟩ := h
  obtain ⟨u, rfl, ru⟩ := vals1 r
  cases ru
  obtain ⟨vs, hl, hi, hz⟩ := I.ints hq
  refine sorted_ints hl hi (by rw [hi.length]; exact h64) fun out ms a1 a2 a3 => ?_
  obtain ⟨e, he⟩ := sortedAll_at s.heap vs out
  have new : ObjOk X.prog X.w (upd H (s.heap.objs.size + 1) (.lst (ms.map V.int))) (sortedAll s.heap vs out) (s.heap.objs.size + 1) (.lst (ms.map V.int)) := ⟨by rw [List.length_map, a2.length_eq]; exact hz, out.toList, e, vals_ints a1, by simpa [seqObj] using he⟩
  exact ⟨.ref (s.heap.objs.size + 1), _, I.laid (t' := s.toks) (fun _ _ => sortedAll_old) (Nat.le_succ _) new, rfl, q _ ms (I.hok.fresh (Nat.le_succ _)) a2 a3⟩
end
end L2
namespace L2
open PySem PySem.Spec PyProof.Rows
theorem Same.wr {H H' : Hp} {p : Addr} {o : HO} (s : Same H H') (h : H p = Option.none) : Same H (upd H' p o) := fun b u e => by
  rw [upd_ne (ne_of_none e h)]
  exact s b u e
theorem hu64 {A : Around} {k : Nat} (hr : Room k A) : A.units + 64 < cLine := hr.units
section
variable {X : Cx}
theorem ix_listK (K : PySem.W.Frag) (hK : X.K = K := by rfl) : IxR X (rIxL K) := by subst hK; exact ix_list
theorem ix_tupK (K : PySem.W.Frag) (hK : X.K = K := by rfl) : IxR X (rIxT K) := by subst hK; exact ix_tup
theorem pg_tupK (K : PySem.W.Frag) {es : List Expr} {k : Nat} {t : TGs} {n : Nat} {pos : Pos} (hc : X.calm = true) (h : PGs X es t) (hK : X.K = K := by rfl)
    (hn : (assignEach es X.env).length = n := by rfl) (hst : (assignEach es X.env).findIdx? (·.1) = none := by rfl) : PG X (.Tuple es k pos) (gTup K n t) := by subst hK; exact pg_tup hc h hn hst
end
end L2
namespace L2
open PySem PySem.Spec PyProof.Rows
theorem Inv.turns {X : Cx} {pins : List (Addr × Obj)} {σ : St} {H : Hp} {s : Shared} {h' : Heap} {ch : List Addr} {t' : Nat} (I : Inv X pins σ H s) (hf : ∀ b ∈ ch, FpOk X pins H b) (k : ∀ b o, b ∉ ch → s.heap.get? b = some o → h'.get? b = some o) :
    Inv X pins σ H { s with heap := h', toks := t' } := by
  have nit : ∀ b u, H b = some u → b ∉ ch := fun b u e z => by rw [(hf b z).1] at e; cases e
  refine I.step (g' := s.gens) (d' := s.drawn) (ch := ch) (fun b hb => ⟨(hf b hb).2.2.2.1, (hf b hb).2.1, (hf b hb).2.2.2.2.1, (hf b hb).2.2.2.2.2⟩) (fun b o _ _ hc e _ => k b o hc e) (fun b o _ _ hc e _ => ⟨o.slots, k b o hc e⟩) (fun _ _ _ _ n => n)
    (fun b o hc e => ⟨o, k b o hc e⟩) (fun _ _ e => e) (fun _ _ _ e => e) (fun b ps e => ⟨#[], by rw [e]; simp⟩) (fun m hm => ?_) (fun b u e => ?_) I.bare
  · obtain ⟨o, es, ep, ho, r⟩ := hm
    exact ⟨o, es, ep, k _ o (fun z => (hf _ z).2.1 rfl) ho, r⟩
  · refine (I.hok b u e).stay (fun c v hc q => k c v ?_ q) (fun _ q => q) fun _ _ q => q
    rcases hc with z | z
    · rw [z]; exact nit b u e
    · exact nit c _ z
theorem Inv.turnsT {X : Cx} {pins : List (Addr × Obj)} {σ : St} {H : Hp} {s : Shared} {h' : Heap} {ch : List Addr} {t' : Nat} {T : Addr} {xs : List V} {its : List Value} (I : Inv X pins σ H s) (hf : ∀ b ∈ ch, FpOk X pins H b) (k : ∀ b o, b ∉ ch → s.heap.get? b = some o → h'.get? b = some o)
    (hT : s.heap.objs.size ≤ T) (r : Vals xs its) (ht : IsTup h' T its.toArray) (hz : xs.length ≤ sizeLine) : Inv X pins σ (upd H T (.tup xs)) { s with heap := h', toks := t' } := by
  have hn : H T = none := I.hok.fresh hT
  have nit : ∀ b u, H b = some u → b ∉ ch := fun b u e z => by rw [(hf b z).1] at e; cases e
  have lt : ∀ b o, s.heap.get? b = some o → b ≠ T := fun b o e => Nat.ne_of_lt (Nat.lt_of_lt_of_le (Heap.lt_size e) hT)
  refine I.step (g' := s.gens) (d' := s.drawn) (ch := ch) (fun b hb => ⟨(hf b hb).2.2.2.1, (hf b hb).2.1, (hf b hb).2.2.2.2.1, (hf b hb).2.2.2.2.2⟩) (fun b o _ _ hc e _ => k b o hc e) (fun b o _ _ hc e _ => ⟨o.slots, k b o hc e⟩) (fun b o _ e n => by rw [upd_ne (lt b o e)]; exact n)
    (fun b o hc e => ⟨o, k b o hc e⟩) (fun b ys e => by rw [upd_ne (ne_of_none e hn)]; exact e) (fun b o u e => by rw [upd_ne (ne_of_none e hn)]; exact e) (fun b ps e => ⟨#[], by rw [upd_ne (ne_of_none e hn), e]; simp⟩) (fun m hm => ?_) (fun b u e => ?_) I.bare
  · obtain ⟨o, es, ep, ho, r⟩ := hm
    exact ⟨o, es, ep, k _ o (fun z => (hf _ z).2.1 rfl) ho, r⟩
  · by_cases hb : b = T
    · subst hb
      rw [upd_same] at e
      cases e
      exact ⟨hz, its, r, ht⟩
    · rw [upd_ne hb] at e
      refine (I.hok b u e).stay (fun c v hc q => k c v ?_ q) (fun c q => ?_) fun c w q => ?_
      · rcases hc with z | z
        · rw [z]; exact nit b u e
        · exact nit c _ z
      · rw [upd_ne (ne_of_none q hn)]; exact q
      · rw [upd_ne (ne_of_none q hn)]; exact q
section
variable {X : Cx}
end
end L2
namespace Bw
def C : Nat → Nat → Nat
  | _, 0 => 1
  | 0, _ + 1 => 0
  | n + 1, k + 1 => C n k + C n (k + 1)
theorem C_zero (n : Nat) : C n 0 = 1 := by cases n <;> rfl
theorem C_zero_succ (k : Nat) : C 0 (k + 1) = 0 := rfl
theorem C_succ (n k : Nat) : C (n + 1) (k + 1) = C n k + C n (k + 1) := rfl
theorem C_above : ∀ (n k : Nat), n < k → C n k = 0
  | n, 0, h => absurd h (Nat.not_lt_zero _)
  | 0, _ + 1, _ => rfl
  | n + 1, k + 1, h => by
    rw [C_succ, C_above n k (by omega), C_above n (k + 1) (by omega)]
theorem C_self : ∀ n : Nat, C n n = 1
  | 0 => rfl
  | n + 1 => by rw [C_succ, C_self n, C_above n (n + 1) (by omega)]
theorem C_one : ∀ n : Nat, C n 1 = n
  | 0 => rfl
  | n + 1 => by rw [C_succ, C_zero, C_one n]; omega
theorem C_step : ∀ (n k : Nat), (k + 1) * C n (k + 1) + k * C n k = n * C n k
  | 0, 0 => by simp [C]
  | 0, k + 1 => by simp [C]
  | n + 1, 0 => by rw [C_one, C_zero]; omega
  | n + 1, k + 1 => by
    have h1 := C_step n k
    have h2 := C_step n (k + 1)
    rw [C_succ n (k + 1), C_succ n k]
    have e1 : (k + 1 + 1) * (C n (k + 1) + C n (k + 1 + 1)) = (k + 1 + 1) * C n (k + 1) + (k + 1 + 1) * C n (k + 1 + 1) := Nat.mul_add _ _ _
    have e2 : (k + 1) * (C n k + C n (k + 1)) = (k + 1) * C n k + (k + 1) * C n (k + 1) := Nat.mul_add _ _ _
    have e3 : (n + 1) * (C n k + C n (k + 1)) = (n * C n k + C n k) + (n * C n (k + 1) + C n (k + 1)) := by rw [Nat.mul_add, Nat.succ_mul, Nat.succ_mul]
    have e4 : (k + 1 + 1) * C n (k + 1) = (k + 1) * C n (k + 1) + C n (k + 1) := Nat.succ_mul _ _
    have e5 : (k + 1) * C n k = k * C n k + C n k := Nat.succ_mul _ _
    rw [e1, e2, e3, e4, e5]
    omega
theorem C_step' {n k : Nat} (h : k ≤ n) : (k + 1) * C n (k + 1) = C n k * (n - k) := by
  have e := C_step n k
  have e2 : C n k * (n - k) + k * C n k = n * C n k := by
    rw [Nat.mul_comm (C n k), ← Nat.add_mul, Nat.sub_add_cancel h]
  omega
theorem C_div {n k : Nat} (h : k ≤ n) : C n k * (n - k) / (k + 1) = C n (k + 1) := by
  rw [← C_step' h, Nat.mul_div_cancel_left _ (Nat.succ_pos k)]
theorem C_le_pow : ∀ (n k : Nat), C n k ≤ n ^ k
  | n, 0 => by rw [C_zero]; exact Nat.le_refl _
  | n, k + 1 => by
    have ih := C_le_pow n k
    by_cases h : k ≤ n
    · rw [← C_div h, Nat.pow_succ]
      refine Nat.le_trans (Nat.div_le_self _ _) ?_
      exact Nat.mul_le_mul ih (Nat.sub_le _ _)
    · rw [C_above n (k + 1) (by omega)]; exact Nat.zero_le _
def ch (n k : Int) : Int := (C n.toNat k.toNat : Nat)
theorem ch_nonneg (n k : Int) : 0 ≤ ch n k := Int.natCast_nonneg _
theorem ch_nat (n k : Nat) : ch (n : Int) (k : Int) = (C n k : Nat) := by
  unfold ch; rw [Int.toNat_natCast, Int.toNat_natCast]
theorem ch_above {n k : Int} (h0 : 0 ≤ n) (h : n < k) : ch n k = 0 := by
  unfold ch; rw [C_above _ _ (by omega)]; rfl
theorem ch_zero (n : Int) : ch n 0 = 1 := by
  unfold ch; rw [show (0 : Int).toNat = 0 from rfl, C_zero]; rfl
theorem ch_succ {n k : Int} (hn : 0 ≤ n) (hk : 0 ≤ k) : ch (n + 1) (k + 1) = ch n k + ch n (k + 1) := by
  unfold ch
  rw [show (n + 1).toNat = n.toNat + 1 by omega, show (k + 1).toNat = k.toNat + 1 by omega, C_succ]
  omega
theorem ch_step {n : Int} {i : Nat} (hn : (i : Int) ≤ n) : ch n i * (n - i) / ((i : Int) + 1) = ch n ((i : Int) + 1) := by
  unfold ch
  have e : n = ((n.toNat : Nat) : Int) := by omega
  have e1 : ((i : Int) + 1).toNat = i + 1 := by omega
  have e2 : ((i : Nat) : Int).toNat = i := by omega
  have e3 : n - (i : Int) = ((n.toNat - i : Nat) : Int) := by omega
  rw [e1, e2, e3, ← C_div (n := n.toNat) (k := i) (by omega)]
  have e4 : ((i : Int) + 1) = ((i + 1 : Nat) : Int) := by omega
  rw [e4, ← Int.natCast_mul, ← Int.natCast_ediv]
def fac : Nat → Int
  | 0 => 1
  | i + 1 => fac i * ((i : Int) + 1)
theorem fac_succ (i : Nat) : fac (i + 1) = fac i * ((i : Int) + 1) := rfl
end Bw
namespace Bw
theorem C_mono1 : ∀ (n k : Nat), C n k ≤ C (n + 1) k
  | n, 0 => by rw [C_zero, C_zero]; exact Nat.le_refl _
  | n, k + 1 => by rw [C_succ]; omega
theorem C_mono {m n : Nat} (k : Nat) (h : m ≤ n) : C m k ≤ C n k := by
  induction h with
  | refl => exact Nat.le_refl _
  | step _ ih => exact Nat.le_trans ih (C_mono1 _ _)
theorem C_pos {n k : Nat} (h : k ≤ n) : 0 < C n k := by
  have := C_mono k h
  rw [C_self] at this
  omega
theorem C_pos_le {n k : Nat} (h : 0 < C n k) : k ≤ n := by
  rcases Nat.lt_or_ge n k with z | z
  · rw [C_above n k z] at h; omega
  · exact z
theorem C_drop (n k : Nat) : ∀ j : Nat, j ≤ n → C n (k + 1) ≤ C (n - j) (k + 1) + j * C (n - 1) k
  | 0, _ => by simp
  | j + 1, h => by
    have ih := C_drop n k j (by omega)
    obtain ⟨r, hr⟩ : ∃ r, n - j = r + 1 := ⟨n - j - 1, by omega⟩
    have e : n - (j + 1) = r := by omega
    have m := C_mono (m := r) (n := n - 1) k (by omega)
    rw [hr, C_succ] at ih
    rw [e, Nat.succ_mul]
    omega
theorem step_down {t k number : Nat} (h : number < C t (k + 1)) (d : Nat) (hd : d = (C t (k + 1) - number + C (t - 1) k - 1) / C (t - 1) k) :
    0 < C (t - 1) k ∧ 1 ≤ d ∧ d ≤ t ∧ number < C (t - d + 1) (k + 1) := by
  have hk : k + 1 ≤ t := C_pos_le (by omega)
  have ho : 0 < C (t - 1) k := C_pos (by omega)
  have hdm : d * C (t - 1) k ≤ C t (k + 1) - number + C (t - 1) k - 1 := by
    rw [hd]; exact Nat.div_mul_le_self _ _
  have d1 : 1 ≤ d := by
    rw [hd]; exact (Nat.le_div_iff_mul_le ho).mpr (by omega)
  have s : (d - 1) * C (t - 1) k + C (t - 1) k = d * C (t - 1) k := by
    have e : d = d - 1 + 1 := by omega
    conv => rhs; rw [e, Nat.succ_mul]
  have lt : (d - 1) * C (t - 1) k < C t (k + 1) - number := by omega
  have dt : d - 1 ≤ t := by
    rcases Nat.lt_or_ge t (d - 1) with z | z
    · have q := C_drop t k t (Nat.le_refl _)
      rw [Nat.sub_self, C_zero_succ] at q
      have w : t * C (t - 1) k ≤ (d - 1) * C (t - 1) k := Nat.mul_le_mul_right _ (by omega)
      omega
    · exact z
  have q := C_drop t k (d - 1) dt
  have gt : number < C (t - (d - 1)) (k + 1) := by omega
  have ge := C_pos_le (n := t - (d - 1)) (k := k + 1) (by omega)
  have e : t - d + 1 = t - (d - 1) := by omega
  rw [e]
  exact ⟨ho, d1, by omega, gt⟩
def facN : Nat → Nat
  | 0 => 1
  | i + 1 => facN i * (i + 1)
theorem C_fac_ge : ∀ {n k : Nat}, k ≤ n → (n + 1 - k) ^ k ≤ C n k * facN k
  | n, 0, _ => by rw [C_zero]; exact Nat.le_refl _
  | n, k + 1, h => by
    have ih := C_fac_ge (n := n) (k := k) (by omega)
    have st := C_step' (n := n) (k := k) (by omega)
    have e : C n (k + 1) * facN (k + 1) = C n k * facN k * (n - k) := by
      show C n (k + 1) * (facN k * (k + 1)) = _
      rw [Nat.mul_comm (facN k), ← Nat.mul_assoc, Nat.mul_comm (C n (k + 1)), st, Nat.mul_assoc, Nat.mul_comm (n - k), ← Nat.mul_assoc]
    rw [e]
    have e2 : n + 1 - (k + 1) = n - k := by omega
    rw [e2, Nat.pow_succ]
    refine Nat.mul_le_mul_right _ (Nat.le_trans (Nat.pow_le_pow_left (by omega) k) ih)
theorem start_above {number k f : Nat} (h : number * facN k < 2 ^ (f * k)) : number < C (2 ^ f + k) k := by
  rw [Nat.pow_mul] at h
  generalize 2 ^ f = p at h ⊢
  have q := C_fac_ge (n := p + k) (k := k) (by omega)
  have e : p + k + 1 - k = p + 1 := by omega
  rw [e] at q
  have r : p ^ k ≤ (p + 1) ^ k := Nat.pow_le_pow_left (by omega) k
  rcases Nat.lt_or_ge number (C (p + k) k) with z | z
  · exact z
  · have := Nat.mul_le_mul_right (facN k) z
    omega
theorem fac_nat : ∀ i : Nat, fac i = (facN i : Nat)
  | 0 => rfl
  | i + 1 => by
    rw [fac_succ, fac_nat i]
    show _ = ((facN i * (i + 1) : Nat) : Int)
    rw [Int.natCast_mul]
    rfl
structure IsTop (k number t : Int) : Prop where
  lo : k - 1 ≤ t
  le : ch t k ≤ number
  lt : number < ch (t + 1) k
theorem ch_mono {m n k : Int} (h : m ≤ n) : ch m k ≤ ch n k := by
  unfold ch
  exact Int.ofNat_le.mpr (C_mono _ (by omega))
theorem ch_pos_le {n k : Int} (hn : 0 ≤ n) (h : 0 < ch n k) : k ≤ n := by
  rcases (by omega : k ≤ n ∨ n < k) with z | z
  · exact z
  · rw [ch_above hn z] at h; omega
theorem ch_pos {n k : Int} (hk : 0 ≤ k) (h : k ≤ n) : 0 < ch n k := by
  unfold ch
  exact Int.ofNat_lt.mpr (C_pos (by omega))
theorem step_downI {t k number : Int} (hk : 1 ≤ k) (h0 : 0 ≤ number) (ht : 0 ≤ t) (h : number < ch t k) (d : Int) (hd : d = (ch t k - number + ch (t - 1) (k - 1) - 1) / ch (t - 1) (k - 1)) :
    k ≤ t ∧ 0 < ch (t - 1) (k - 1) ∧ 1 ≤ d ∧ k - 1 ≤ t - d ∧ number < ch (t - d + 1) k := by
  have kt : k ≤ t := ch_pos_le ht (by omega)
  obtain ⟨j, hj⟩ : ∃ j : Nat, k = (j : Int) + 1 := ⟨(k - 1).toNat, by omega⟩
  obtain ⟨m, hm⟩ : ∃ m : Nat, t = (m : Int) := ⟨t.toNat, by omega⟩
  obtain ⟨r, hr⟩ : ∃ r : Nat, number = (r : Int) := ⟨number.toNat, by omega⟩
  subst hj hm hr
  have e1 : ch (m : Int) ((j : Int) + 1) = (C m (j + 1) : Nat) := by
    rw [show ((j : Int) + 1) = ((j + 1 : Nat) : Int) by omega, ch_nat]
  have e2 : ch ((m : Int) - 1) ((j : Int) + 1 - 1) = (C (m - 1) j : Nat) := by
    rw [show ((m : Int) - 1) = ((m - 1 : Nat) : Int) by omega, show ((j : Int) + 1 - 1) = ((j : Nat) : Int) by omega, ch_nat]
  rw [e1] at h
  rw [e1, e2] at hd
  have h' : r < C m (j + 1) := by omega
  obtain ⟨s1, s2, s3, s4⟩ := step_down h' _ rfl
  have ed : d = (((C m (j + 1) - r + C (m - 1) j - 1) / C (m - 1) j : Nat) : Int) := by
    rw [hd, Int.natCast_ediv]
    congr 1
    omega
  generalize (C m (j + 1) - r + C (m - 1) j - 1) / C (m - 1) j = dn at s2 s3 s4 ed
  subst ed
  have e3 : ch ((m : Int) - (dn : Int) + 1) ((j : Int) + 1) = (C (m - dn + 1) (j + 1) : Nat) := by
    rw [show ((m : Int) - (dn : Int) + 1) = ((m - dn + 1 : Nat) : Int) by omega, show ((j : Int) + 1) = ((j + 1 : Nat) : Int) by omega, ch_nat]
  have le := C_pos_le (n := m - dn + 1) (k := j + 1) (by omega)
  rw [e2, e3]
  exact ⟨kt, by omega, by omega, by omega, by omega⟩
theorem aboveI {number k : Int} {F b : Nat} (hk : 1 ≤ k) (h0 : 0 ≤ number) (hb : (number * fac k.toNat).natAbs < 2 ^ b) (hF : (b : Int) ≤ (F : Int) * k) : number < ch ((2 : Int) ^ F + k - 1 + 1) k := by
  obtain ⟨j, hj⟩ : ∃ j : Nat, k = (j : Int) := ⟨k.toNat, by omega⟩
  obtain ⟨r, hr⟩ : ∃ r : Nat, number = (r : Int) := ⟨number.toNat, by omega⟩
  subst hj hr
  rw [Int.toNat_natCast, fac_nat, ← Int.natCast_mul, Int.natAbs_natCast] at hb
  have hF' : b ≤ F * j := by
    have : ((F * j : Nat) : Int) = (F : Int) * (j : Int) := Int.natCast_mul _ _
    omega
  have s := start_above (number := r) (k := j) (f := F) (Nat.lt_of_lt_of_le hb (Nat.pow_le_pow_right (by decide) hF'))
  have e : (2 : Int) ^ F + (j : Int) - 1 + 1 = ((2 ^ F + j : Nat) : Int) := by
    rw [Int.natCast_add, Int.natCast_pow]
    show _ = (2 : Int) ^ F + (j : Int)
    omega
  rw [e, ch_nat]
  exact Int.ofNat_lt.mpr s
end Bw
namespace Bw
open PySem L2
open Builtin.Int (intBits)
def stirA (c k : Int) : Int := c % 10 ^ (40 : Int).toNat * 48271 + 3 ^ (60 : Int).toNat * (k + 1) * (k + 1) + k
def stirB (a : Int) : Int := a * a + 69621 * a
def stirC (b : Int) : Int := b * b % (10 ^ (61 : Int).toNat + 7) / 8
def stir (c k : Int) : Int := stirC (stirB (stirA c k))
def spStir : Sp := fun vs H Q _ => ∃ c k : Int, vs = [.int c, .int k] ∧ 0 ≤ k ∧ k < 1000000 ∧ Q (.int (stir c k)) H
def spChoose : Sp := fun vs H Q _ => ∃ n k : Int, vs = [.int n, .int k] ∧ 0 ≤ n ∧ 0 ≤ k ∧ k ≤ 1000 ∧ intBits n ≤ 100000 ∧ Q (.int (ch n k)) H
def spRound : Sp := fun vs H Q _ => ∃ a b : Int, vs = [.int a, .int b] ∧ 0 < b ∧ Q (.int ((a + b - 1) / b)) H
def spAbove : Sp := fun vs H Q _ => ∃ k number : Int, vs = [.int k, .int number] ∧ 1 ≤ k ∧ k ≤ 60 ∧ 0 ≤ number ∧ intBits number ≤ 50000 ∧ ∀ t : Int, k - 1 ≤ t → number < ch (t + 1) k → intBits t ≤ 60000 → Q (.int t) H
theorem bits_of {x : Int} {m : Nat} (h1 : 0 ≤ x) (h2 : x < (2 : Int) ^ m) : intBits x ≤ m := by
  refine intBits_le_iff.mpr ?_
  have e : ((2 ^ m : Nat) : Int) = (2 : Int) ^ m := by
    rw [Int.natCast_pow]; rfl
  rw [← e] at h2
  omega
theorem bits_mono {x : Int} {m n : Nat} (h : intBits x ≤ m) (hm : m ≤ n) : intBits x ≤ n := Nat.le_trans h hm
theorem bits_ch {n : Int} {k m : Nat} (h : intBits n ≤ m) (hn : 0 ≤ n) : intBits (ch n k) ≤ m * k + 1 := by
  refine intBits_le_of_natAbs (y := n ^ k) ?_ (intBits_pow_le h k)
  unfold ch
  rw [Int.toNat_natCast]
  have e : n = ((n.toNat : Nat) : Int) := by omega
  have e2 : (n ^ k).natAbs = n.toNat ^ k := by
    rw [Int.natAbs_pow]
    congr 1
    omega
  rw [e2]
  have := C_le_pow n.toNat k
  omega
theorem bits_stirA {c k : Int} (h0 : 0 ≤ k) (h1 : k < 1000000) : 0 ≤ stirA c k ∧ intBits (stirA c k) ≤ 200 := by
  have m0 := Int.emod_nonneg c (show (10 : Int) ^ (40 : Int).toNat ≠ 0 by decide)
  have m1 := Int.emod_lt_of_pos c (show (0 : Int) < 10 ^ (40 : Int).toNat by decide)
  unfold stirA
  generalize c % 10 ^ (40 : Int).toNat = r at m0 m1 ⊢
  have e : (3 : Int) ^ (60 : Int).toNat = 42391158275216203514294433201 := by decide
  have e40 : (10 : Int) ^ (40 : Int).toNat = 10000000000000000000000000000000000000000 := by decide
  rw [e40] at m1
  rw [e]
  have p0 : 0 ≤ (k + 1) * (k + 1) := Int.mul_nonneg (by omega) (by omega)
  have p1 : (k + 1) * (k + 1) ≤ 1000000 * 1000000 := Int.mul_le_mul (by omega) (by omega) (by omega) (by omega)
  have p2 : 42391158275216203514294433201 * (k + 1) * (k + 1) = 42391158275216203514294433201 * ((k + 1) * (k + 1)) := Int.mul_assoc _ _ _
  rw [p2]
  generalize (k + 1) * (k + 1) = s at p0 p1 ⊢
  refine ⟨by omega, bits_of (by omega) ?_⟩
  have e200 : (2 : Int) ^ 200 = 1606938044258990275541962092341162602522202993782792835301376 := by decide
  rw [e200]
  omega
theorem bits_stirB {a : Int} (h : intBits a ≤ 200) : intBits (stirB a) ≤ 402 := by
  unfold stirB
  refine bits_mono (intBits_add_le (m := 400) (n := 400) (intBits_mul_le h h) (bits_mono (intBits_mul_le (m := 17) (n := 200) (by decide) h) (by decide))) (by decide)
theorem bits_fac : ∀ i : Nat, i ≤ 64 → intBits (fac i) ≤ 7 * i + 1
  | 0, _ => by decide
  | i + 1, hi => by
    rw [fac_succ]
    exact bits_mono (intBits_mul_le (m := 7 * i + 1) (n := 7) (bits_fac i (by omega)) (bits_of (by omega) (by omega))) (by omega)
end Bw
namespace L2
open PySem PySem.Spec PyProof.Rows
section
variable {X : Cx}
end
end L2
namespace L2
open PySem PySem.Spec PyProof.Rows
theorem comp_listI {K : PySem.W.Frag} {a acc : Addr} {xs : List V} {own : Nat} {ix : List Nat} {g : TG} {te : TE} {σ : St} {H1 : Hp} {Q : VK} (Pv : Nat → List V → Hp → Prop) (hz : xs.length ≤ sizeLine) (h0 : Pv 0 [] (upd H1 acc (.lst [])))
    (ha : ∀ i ys H, Pv i ys H → H acc = some (.lst ys) ∧ ys.length ≤ i ∧ SqL K H a xs)
    (step : ∀ (i : Nat) (x : V) (ys : List V) (H : Hp) (R : VK), xs[i]? = some x → Pv i ys H → (∀ y H6, H6 acc = some (.lst ys) → Pv (i + 1) (ys ++ [y]) (upd H6 acc (.lst (ys ++ [y]))) → R y H6) → g x (blockSt own ix σ) H fun σ4 H4 => σ4.drop own = ix.map (fun i => (σ[i]?).getD none) ∧ te σ4 H4 R)
    (hd : ∀ ys H, Pv xs.length ys H → Q (.ref acc) H) : CompGo (Itl K a) own ix g tNoTest te σ H1 acc Q := by
  refine ⟨fun i m ys H => m = xs.length - i ∧ i ≤ xs.length ∧ Pv i ys H, ⟨xs.length, by simp, Nat.zero_le _, h0⟩, ?_⟩
  rintro i m ys H ⟨rfl, hi, p⟩
  obtain ⟨a1, a2, a3⟩ := ha i ys H p
  refine ⟨a1, ?_⟩
  by_cases hlt : i < xs.length
  · refine .inr ⟨⟨xs, xs[i], a3, by simp [hlt]⟩, by omega, fun x H3 y => ?_⟩
    obtain ⟨e, y⟩ := y
    subst e
    exact step i x ys _ _ (y xs a3) p fun y H6 e q => ⟨e, xs.length - (i + 1), by omega, rfl, hlt, q⟩
  · have e : i = xs.length := by omega
    subst e
    exact .inl ⟨⟨xs, a3, Nat.le_refl _⟩, hd ys H p⟩
def LL (H : Hp) (p : Addr) (nss : List (List Int)) : Prop := ∃ as : List Addr, H p = some (.lst (as.map V.ref)) ∧ Paired (fun b (ns : List Int) => H b = some (.lst (ns.map V.int))) as nss
theorem paired_imp {α β : Type} {F G : α → β → Prop} (h : ∀ a b, F a b → G a b) : ∀ {as : List α} {bs : List β}, Paired F as bs → Paired G as bs
  | _, _, .nil => .nil
  | _, _, .cons x y => .cons (h _ _ x) (paired_imp h y)
theorem paired_len {α β : Type} {F : α → β → Prop} : ∀ {as : List α} {bs : List β}, Paired F as bs → as.length = bs.length
  | _, _, .nil => rfl
  | _, _, .cons _ y => by simp [paired_len y]
theorem paired_get {α β : Type} {F : α → β → Prop} : ∀ {as : List α} {bs : List β} {i : Nat} {a : α}, Paired F as bs → as[i]? = some a → ∃ b, bs[i]? = some b ∧ F a b
  | _, _, _, _, .nil, h => by simp at h
  | _, _, 0, _, .cons x _, h => by
    simp only [List.getElem?_cons_zero, Option.some.injEq] at h
    subst h
    exact ⟨_, rfl, x⟩
  | _, _, i + 1, _, .cons _ y, h => by
    rw [List.getElem?_cons_succ] at h
    obtain ⟨b, e, f⟩ := paired_get y h
    exact ⟨b, by rw [List.getElem?_cons_succ]; exact e, f⟩
theorem LL.same {H H' : Hp} {p : Addr} {nss : List (List Int)} (s : Same H H') (h : LL H p nss) : LL H' p nss := by
  obtain ⟨as, e, q⟩ := h
  exact ⟨as, s _ _ e, paired_imp (fun _ _ z => s _ _ z) q⟩
theorem LL.sq {K : PySem.W.Frag} {H : Hp} {p : Addr} {nss : List (List Int)} (h : LL H p nss) : SqLL K H p nss := by
  obtain ⟨as, e, q⟩ := h
  exact ⟨as, SqL.of e, paired_imp (fun _ _ z => SqL.of z) q⟩
end L2
namespace L2
open PySem PySem.Spec PyProof.Rows
section
variable {prog : Program} {w : World} {A : Around} {E : Value → Shared → Prop} {s : Shared}
end
section
variable {X : Cx}
end
end L2
namespace L2
open PySem PySem.Spec PyProof.Rows
open PySem.W (hideAll of_hideAll hideAll_get)
def CXE (P : Program) (w : World) : CXT := fun outer H s E e s' => ∃ (x : Addr) (C a0 : Value) (H' : Hp) (B : Heap), e = .ref x ∧ s'.os = s.os ∧ AllBare s'.gens ∧ Heap.FlyingW B outer x C a0 s'.heap ∧
  (∀ h3, B.StaysIn h3 → s'.heap.UpToSlots h3 → Un (frs outer) [] H H' s.heap h3 ∧ HOk P w H' h3) ∧ s.heap.get? x = none ∧ H' x = none ∧ E C none H'
theorem own_obj {K : PySem.W.Frag} {h : Heap} {C : Addr} {bmB : List Value} {newId : String} (X : K.In h) (q : PySem.W.excIn K C bmB newId = true) :
    ∃ bm N nm q bs hdct sn sub ab col dd k0 k1 k2 k3 k5 mN, h.get? C = some (excClassObj nm q C N bs bm hdct sn sub ab col dd k0 k1 k2 k3 k5 newId) ∧ h.Ns N mN ∧ mN "__init__" = none ∧ OwnTail h bmB bm ∧ ∀ v b, PySem.W.mroIn K C v = some b → (Value.ref C :: bm).contains v = b := by
  unfold PySem.W.excIn at q
  split at q
  · rename_i dd cd sl ho
    split at q
    · rename_i C' bm k0 k1 k2 k3 n k5 hm hs
      simp only [Bool.and_eq_true, beq_iff_eq, Bool.not_eq_true'] at q
      obtain ⟨⟨⟨⟨⟨rfl, rfl⟩, hdel⟩, ht⟩, hok⟩, hni⟩ := q
      obtain ⟨nm, bs, mro, ns, qn, hd, sn, sub, ab, col, del⟩ := cd
      dsimp only at hm hdel hok hni
      subst hm hdel
      have hsl : sl = #[k0, k1, k2, k3, some (.builtin n), k5] := by
        obtain ⟨l⟩ := sl
        simp only at hs
        rw [hs]
      subst hsl
      exact ⟨bm, ns, nm, qn, bs, hd, sn, sub, ab, col, dd, k0, k1, k2, k3, k5, _, X _ _ ho, .of_isNs (PySem.W.isNs_of_in X hok), PySem.W.nsMap_none_of_in X hok hni, PySem.W.tail_of_in X ht, fun v b e => by
        unfold PySem.W.mroIn PySem.W.clsIn at e
        rw [ho] at e
        simpa using e⟩
    · cases q
  · cases q
theorem ObjOk.there {P : Program} {w : World} {H : Hp} {h : Heap} {a : Addr} {o : HO} (x : ObjOk P w H h a o) : ∃ ob, h.get? a = some ob := by
  cases o with
  | lst xs => obtain ⟨_, _, _, _, e⟩ := x; exact ⟨_, e⟩
  | tup xs => obtain ⟨_, _, _, ob, e, _⟩ := x; exact ⟨_, e⟩
  | dK kvs => obtain ⟨_, _, _, _, o, _, _, e, _⟩ := x; exact ⟨_, e⟩
  | dT kvs => obtain ⟨_, _, _, _, o, _, _, e, _⟩ := x; exact ⟨_, e⟩
  | set S n => obtain ⟨o, _, _, _, e, _⟩ := x; exact ⟨_, e⟩
  | ins C dx fs => obtain ⟨_, _, _, e, _⟩ := x; exact ⟨_, e⟩
  | own y => obtain ⟨_, e⟩ := x; exact ⟨_, e⟩
  | xd fs => obtain ⟨_, ⟨_, _, _, e, _⟩, _⟩ := x; exact ⟨_, e⟩
  | rng lo hi => obtain ⟨_, _, _, e⟩ := x; exact ⟨_, e⟩
  | frz ob u => obtain ⟨e, _⟩ := x; exact ⟨_, e⟩
  | tbl ps => exact ⟨_, (show h.get? a = some _ from x)⟩
  | met f y => exact ⟨_, (show h.get? a = some _ from x)⟩
  | ext φ => obtain ⟨_, ⟨_, e⟩, _⟩ := x; exact ⟨_, e⟩
section
variable {P : Program} {w : World} {K : PySem.W.Frag} {mg : Str → Option Value} {base : Heap} {N : List Str} {qual : Str} {scope : Scope} {f : Addr} {cdv : Value} {A : Around} {outer : List Env} {s s2 : Shared} {H H1 : Hp} {E : XK} {pins : List (Addr × Obj)} {σ : St}
theorem stands (I : Inv (cxOf (CXE P w) P w K mg base N qual scope f cdv A outer s H E) pins σ H1 s2) {h3 : Heap} (hst : (hideAll s2.heap (frs (envOfC qual scope s.heap.objs.size f cdv :: outer))).StaysIn h3) (up : s2.heap.UpToSlots h3) :
    Un (frs outer) [] H H1 s.heap h3 ∧ HOk P w H1 h3 := by
  have kk : ∀ b o, s2.heap.get? b = some o → b ∉ frs (envOfC qual scope s.heap.objs.size f cdv :: outer) → h3.get? b = some o := fun b o e hb => hst b o (hideAll_get _ e hb)
  have frz : ∀ b, b ∈ frs (envOfC qual scope s.heap.objs.size f cdv :: outer) → b = s.heap.objs.size ∨ b ∈ frs outer := fun b hb => by
    unfold frs at hb
    rw [List.filterMap_cons] at hb
    exact List.mem_cons.mp hb
  have notL : ∀ b o, s.heap.get? b = some o → b ∉ frs outer → b ∉ frs (envOfC qual scope s.heap.objs.size f cdv :: outer) := fun b o e hb z => by
    rcases frz b z with q | q
    · exact absurd (Heap.lt_size e) (by rw [q]; exact Nat.lt_irrefl _)
    · exact hb q
  have U := I.base
  have stk := I.stack
  refine ⟨⟨fun b o e n hb hx => kk b o (U.keep b o e n hb hx) (notL b o e hb), fun b o e n hb hx => ?_, fun b o e n hx => U.free b o e n hx, fun b o e hx => ?_, U.tups, U.frzs, U.tbls⟩, fun a u e => ?_⟩
  · obtain ⟨sl, q⟩ := U.slot b o e n hb hx
    obtain ⟨_, o2, ho2, hd2⟩ := I.ok.funs.mem hb
    have ho2' : s.heap.get? b = some o2 := ho2
    rw [e] at ho2'
    cases ho2'
    obtain ⟨sl2, q2⟩ := up b _ q hd2
    exact ⟨sl2, q2⟩
  · obtain ⟨o2, q⟩ := U.there b o e hx
    by_cases hb : b ∈ frs (envOfC qual scope s.heap.objs.size f cdv :: outer)
    · obtain ⟨_, o3, ho3, hd3⟩ := stk.mem hb
      obtain ⟨sl, q3⟩ := up b _ ho3 hd3
      exact ⟨_, q3⟩
    · exact ⟨_, kk b o2 q hb⟩
  · refine (I.hok a u e).stay (fun b v hb q => kk b v q fun z => ?_) (fun _ q => q) fun _ _ q => q
    have hn := I.stkFree b z
    rcases hb with r | r
    · rw [r] at hn; rw [hn] at e; cases e
    · rw [hn] at r; cases r
theorem xe_made {h' : Heap} {e : Addr} {C : Value} {vs : List Value} (I : Inv (cxOf (CXE P w) P w K mg base N qual scope f cdv A outer s H E) pins σ H1 s2) (m : Heap.MadeExcOf s2.heap h' e C vs) (h : E C none H1) :
    (cxOf (CXE P w) P w K mg base N qual scope f cdv A outer s H E).xe (.ref e) { s2 with heap := h' } := by
  show wpAny (model P w) (A.deeper (envOfC qual scope s.heap.objs.size f cdv)) (leaving (envOfC qual scope s.heap.objs.size f cdv) (.ref e)) (fun _ s'' => CXE P w outer H s E (.ref e) s'') (fun e' s'' => CXE P w outer H s E e' s'') { s2 with heap := h' }
  have stk := I.stack
  refine wpAny_leaves_madeW (s := { s2 with heap := h' }) (base := hideAll s2.heap (frs (envOfC qual scope s.heap.objs.size f cdv :: outer))) (h := s2.heap) I.ok.frames rfl (fun b o q => of_hideAll _ q) (PySem.W.funFrames_hide stk fun env he b hb => List.mem_filterMap.mpr ⟨env, he, hb⟩) m fun h'' t fl tup bt ups => ?_
  have up1 : s2.heap.UpToSlots h'' := (Heap.UpToSlots.of_keeps m.keeps).trans ups
  refine ⟨e, C, .ref t, H1, _, rfl, I.os, I.bare, fl, fun h3 st3 up3 => stands I st3 (up1.trans up3), ?_, ?_, h⟩
  · have en := m.new
    cases q : s.heap.get? e with
    | none => rfl
    | some o =>
      obtain ⟨o2, q2⟩ := I.base.there e o q (by show e ∉ ([] : List Addr); simp)
      rw [en] at q2; cases q2
  · cases q : H1 e with
    | none => rfl
    | some u =>
      obtain ⟨ob, q2⟩ := ObjOk.there (I.hok e u q)
      rw [m.new] at q2; cases q2
theorem notL2 {b : Addr} {o : Obj} (e : s.heap.get? b = some o) (hb : b ∉ frs outer) : b ∉ frs (envOfC qual scope s.heap.objs.size f cdv :: outer) := fun z => by
  have z' : b ∈ s.heap.objs.size :: frs outer := by
    unfold frs at z ⊢
    rw [List.filterMap_cons] at z
    exact z
  rcases List.mem_cons.mp z' with q | q
  · exact absurd (Heap.lt_size e) (by rw [q]; exact Nat.lt_irrefl _)
  · exact hb q
theorem xe_pass {x : Addr} {s' : Shared} {e : Value} {E' : XK} (I : Inv (cxOf (CXE P w) P w K mg base N qual scope f cdv A outer s H E) pins σ H1 s2) (hx : CXE P w (envOfC qual scope s.heap.objs.size f cdv :: outer) H1 s2 E' e s') (h : ∀ C H', E' C none H' → E C none H') :
    (cxOf (CXE P w) P w K mg base N qual scope f cdv A outer s H E).xe e s' := by
  obtain ⟨x, C, a0, H', B, rfl, os, bare, fl, st, xn, xh, q⟩ := hx
  show wpAny (model P w) (A.deeper (envOfC qual scope s.heap.objs.size f cdv)) (leaving (envOfC qual scope s.heap.objs.size f cdv) (.ref x)) (fun _ s'' => CXE P w outer H s E (.ref x) s'') (fun e' s'' => CXE P w outer H s E e' s'') s'
  refine wpAny_leaves_onW I.ok.frames rfl fl fun h'' fl2 up => ?_
  have U := I.base
  refine ⟨x, C, a0, H', B, rfl, os.trans I.os, bare, fl2, fun h3 st3 up3 => ?_, ?_, xh, h C H' q⟩
  · obtain ⟨u, ok⟩ := st h3 st3 (up.trans up3)
    refine ⟨⟨fun b o e n hb hx => u.keep b o (U.keep b o e n hb hx) (U.free b o e n hx) (notL2 e hb) hx, fun b o e n hb hx => ?_, fun b o e n hx => ?_, fun b o e hx => ?_, fun b xs e => u.tups b xs (U.tups b xs e), fun b o v e => u.frzs b o v (U.frzs b o v e), fun b ps e => ?_⟩, ok⟩
    · obtain ⟨sl, q1⟩ := U.slot b o e n hb hx
      have hb' : b ∈ frs (envOfC qual scope s.heap.objs.size f cdv :: outer) := by
        unfold frs; rw [List.filterMap_cons]; exact List.mem_cons_of_mem _ hb
      obtain ⟨sl2, q2⟩ := u.slot b _ q1 (U.free b o e n hx) hb' hx
      exact ⟨sl2, q2⟩
    · obtain ⟨o2, q2⟩ := U.there b o e hx
      exact u.free b o2 q2 (U.free b o e n hx) hx
    · obtain ⟨o2, q2⟩ := U.there b o e hx
      exact u.there b o2 q2 hx
    · obtain ⟨m1, q1⟩ := U.tbls b ps e
      obtain ⟨m2, q2⟩ := u.tbls b _ q1
      exact ⟨m1 ++ m2, by rw [q2, Array.append_assoc]⟩
  · cases q1 : s.heap.get? x with
    | none => rfl
    | some o =>
      obtain ⟨o2, q2⟩ := U.there x o q1 (by show x ∉ ([] : List Addr); simp)
      rw [xn] at q2; cases q2
end
section
variable {P : Program} {w : World} {K : PySem.W.Frag} {mg : Str → Option Value} {base : Heap}
def FnE (P : Program) (w : World) (K : PySem.W.Frag) (mg : Str → Option Value) (base : Heap) (k : Nat) (x : Str) (ps : List Str) (sp : Sp) : Prop :=
  ∃ f fd, FnOk P w K mg base (CXE P w) k f fd ps sp ∧ PySem.W.keepIn K (.ref f) = true ∧ Binds K fd ps [] ∧ mg x = some (.ref f)
def tRaise (C : Addr) (E : XK) (t : TA) : TS := fun _ σ H => t σ H fun vs H1 => vs.length ≤ sizeLine ∧ E (.ref C) none H1
theorem ps_raise {N : List Str} {qual : Str} {scope : Scope} {f : Addr} {cdv : Value} {A : Around} {outer : List Env} {s : Shared} {H : Hp} {E : XK} {xn : Str} {C : Addr} {bmB : List Value} {B newId initId : String} {e : Expr} {es : List Expr} {t : TA} {np cpos pos : Pos}
    (FB : ExcBaseFacts B newId initId bmB) (hq : PySem.W.excIn K C bmB newId = true) (hg : Gl (cxOf (CXE P w) P w K mg base N qual scope f cdv A outer s H E) xn) (hm : mg xn = some (.ref C)) (ha : PA (cxOf (CXE P w) P w K mg base N qual scope f cdv A outer s H E) (e :: es) t)
    (hd : (xn == ("__debug__" : Str)) = false := by decide)
    (he : starEach (e :: es) (cxOf (CXE P w) P w K mg base N qual scope f cdv A outer s H E).env = (false, eval e (cxOf (CXE P w) P w K mg base N qual scope f cdv A outer s H E).env) :: starEach es (cxOf (CXE P w) P w K mg base N qual scope f cdv A outer s H E).env := by rfl)
    (hpl : (backTo cpos (starEach es (cxOf (CXE P w) P w K mg base N qual scope f cdv A outer s H E).env)).any (·.1) = false := by rfl) :
    PS (cxOf (CXE P w) P w K mg base N qual scope f cdv A outer s H E) (.Raise (some (.Call (.Name xn np) (e :: es) [] cpos)) none pos) (tRaise C E t) := by
  intro pins s1 σ H0 D I h
  obtain ⟨bm, N', nm, q, bs, hdct, sn, sub, ab, col, dd, k0, k1, k2, k3, k5, mN, hC, hN, hni, TL, _⟩ := own_obj I.mod.kin hq
  refine wpAny_Raise_call_subT (C := C) (nm := nm) (q := q) (N := N') (bs := bs) (bm := bm) (hdct := hdct) (sn := sn) (sub := sub) (ab := ab) (col := col) (dd := dd) (k0 := k0) (k1 := k1) (k2 := k2) (k3 := k3) (k5 := k5)
    FB (mN := mN) (TL.hasType FB.hasBase) (I.ok.hd rfl) (by rw [he]; show (false || (backTo cpos (starEach es _)).any (·.1)) = false; rw [hpl]; rfl) hni (ld_glob I hg hm ⟨rfl, ?_⟩ hd)
  have hs := ha cpos pins s1 σ H0 _ I h
  rw [he] at hs ⊢
  exact Calls.evalArgs_plain (thn hs fun us s2 x => by
    obtain ⟨vs, H1, I1, r1, z, q1⟩ := x
    exact ⟨rfl, by rw [← r1.length]; exact z, I1.bk _ _ hC, hN.keeps I1.bk, TL.keeps I1.bk, fun h' x m => xe_made I1 m q1⟩)
end
section
variable {P : Program} {w : World} {K : PySem.W.Frag} {mg : Str → Option Value} {base : Heap}
theorem Fun.okE {x qual : Str} {st : Stmt} {f : Addr} {fd : FuncData} {N ps : List Str} {k : Nat} {sp : Sp} (F : Fun K x qual st f fd) (S : FnScope N ps (defScope st)) (len : ∀ vs H Q E, sp vs H Q E → vs.length = ps.length)
    (hbody : ∀ (cdv : Value) (A : Around) (outer : List Env) (s : Shared) (H : Hp) (vs : List V) (Q : VK) (E : XK), Room k (A.deeper (envOfC qual (defScope st) s.heap.objs.size f cdv)) → sp vs H Q E →
      ∃ t, PSs (cxOf (CXE P w) P w K mg base N qual (defScope st) f cdv A outer s H E) (defBody st) t ∧ t { nx := fun _ H' => Q .non H', rt := Q } (start N vs) H) : FnOk P w K mg base (CXE P w) (k + 1) f fd ps sp := by
  obtain ⟨oc, od, kV, doc, pm, an, cdv, ct, osl, rfl, lk, hcd⟩ := F.ex
  exact fn_of lk hcd S len fun A outer s H vs Q E hr hsp => hbody cdv A outer s H vs Q E hr hsp
theorem Def.fnE {x : Str} {st : Stmt} {N ps : List Str} {k : Nat} {sp : Sp} (D : Def K mg x st ps) (S : FnScope N ps (defScope st)) (len : ∀ vs H Q E, sp vs H Q E → vs.length = ps.length)
    (hbody : ∀ (f : Addr) (cdv : Value) (A : Around) (outer : List Env) (s : Shared) (H : Hp) (vs : List V) (Q : VK) (E : XK), Room k (A.deeper (envOfC x (defScope st) s.heap.objs.size f cdv)) → sp vs H Q E →
      ∃ t, PSs (cxOf (CXE P w) P w K mg base N x (defScope st) f cdv A outer s H E) (defBody st) t ∧ t { nx := fun _ H' => Q .non H', rt := Q } (start N vs) H) : FnE P w K mg base (k + 1) x ps sp := by
  obtain ⟨f, fd, F, b, m⟩ := D
  exact ⟨f, fd, F.okE S len (hbody f), F.kp, b, m⟩
end
section
variable {M : Model} {A : Around} {E : Value → Shared → Prop} {h : Heap} {g : Array GenState} {d : Drawn} {t : Nat} {os : OsState}
def IsExcCls (h : Heap) (C : Addr) (bm : List Value) : Prop := ∃ N nm q bs hdct sn sub ab col dd k0 k1 k2 k3 k5 newId, h.get? C = some (excClassObj nm q C N bs bm hdct sn sub ab col dd k0 k1 k2 k3 k5 newId) ∧ bm.contains (.type "BaseException") = true
theorem isExcClass_own {C : Addr} {bm : List Value} {Q : Bool → Shared → Prop} (hC : IsExcCls h C bm) (hq : Q true ⟨h, g, d, t, os⟩) : wpAny M A (isExcClass (.ref C)) Q E ⟨h, g, d, t, os⟩ := by
  obtain ⟨N, nm, q, bs, hdct, sn, sub, ab, col, dd, k0, k1, k2, k3, k5, newId, hC, hb⟩ := hC
  have hcB : (Value.ref C :: bm).contains (.type "BaseException") = true := by rw [List.contains_cons, hb, Bool.or_true]
  unfold isExcClass
  repeat (first | with_reducible refine wpAny_loadPart_at hC ?_ | (with_reducible refine wpAny_isSubtype_exc hC ?_; rw [hcB]) | wp_step)
  exact hq
theorem wpAny_typeOf_obj {x : Addr} {ox : Obj} {c : Value} {Q : Value → Shared → Prop} (hx : h.get? x = some ox) (hc : ox.cls = c) (hq : Q c ⟨h, g, d, t, os⟩) : wpAny M A (typeOf (.ref x)) Q E ⟨h, g, d, t, os⟩ := by
  subst hc
  repeat (first | with_reducible refine wpAny_loadPart_at hx ?_ | wp_step)
  exact hq
theorem excMatches_tup {x tp C : Addr} {ox : Obj} {bm : List Value} {cs : List Addr} {Q : Bool → Shared → Prop} (hC : IsExcCls h C bm) (hx : h.get? x = some ox) (hxc : ox.cls = .ref C) (ht : IsTup h tp (cs.map Value.ref).toArray)
    (hcs : ∀ c ∈ cs, ∃ bm', IsExcCls h c bm') (hn : ∀ c ∈ cs, (Value.ref C :: bm).contains (.ref c) = false) (hq : Q false ⟨h, g, d, t, os⟩) : wpAny M A (excMatches (.ref x) (.ref tp)) Q E ⟨h, g, d, t, os⟩ := by
  obtain ⟨o, ho, hc, n, hd⟩ := ht
  unfold excMatches
  refine wpAny_bind (wpAny_isInstance ⟨o, ho, hc⟩ isSubtype_tuple_tuple ?_)
  dsimp only
  rw [if_pos rfl]
  refine wpAny_bind (wpAny_seqItems ho hd ?_)
  dsimp only [Option.getD_some, Option.getD]
  refine wpAny_bind (wpAny_pure ?_)
  have l1 : ∀ (l : List Addr), (∀ c ∈ l, ∃ bm', IsExcCls h c bm') → ∀ {R : PUnit → Shared → Prop}, R ⟨⟩ ⟨h, g, d, t, os⟩ → wpAny M A (forIn (l.map Value.ref) PUnit.unit fun c r => do
      if (!(← isExcClass c)) = true then
        rule "try.except-non-exception-class"
        raiseError "TypeError" "catching classes that do not inherit from BaseException is not allowed"
        pure (ForInStep.yield PUnit.unit)
      else
        pure (ForInStep.yield PUnit.unit)) R E ⟨h, g, d, t, os⟩ := by
    intro l
    induction l with
    | nil => intro _ R q; exact wpAny_pure q
    | cons c l ih =>
      intro hl R q
      rw [List.map_cons, List.forIn_cons]
      obtain ⟨bm', hc'⟩ := hl c (by simp)
      refine wpAny_bind (wpAny_bind (isExcClass_own hc' ?_))
      simp only [Bool.not_true, Bool.false_eq_true, if_false]
      refine wpAny_pure ?_
      exact ih (fun c hc => hl c (by simp [hc])) q
  refine wpAny_bind (l1 cs hcs ?_)
  have l2 : ∀ (l : List Addr), (∀ c ∈ l, (Value.ref C :: bm).contains (.ref c) = false) → ∀ {R : Option Bool × Unit → Shared → Prop}, R (none, ()) ⟨h, g, d, t, os⟩ → wpAny M A (forIn (l.map Value.ref) ((none, ()) : Option Bool × Unit) fun c r => do
      if (← isSubtype (.ref C) c) = true then pure (ForInStep.done (some true, ())) else pure (ForInStep.yield (none, ()))) R E ⟨h, g, d, t, os⟩ := by
    intro l
    induction l with
    | nil => intro _ R q; exact wpAny_pure q
    | cons c l ih =>
      intro hl R q
      rw [List.map_cons, List.forIn_cons]
      obtain ⟨N, nm, qn, bs, hdct, sn, sub, ab, col, dd, k0, k1, k2, k3, k5, newId, hC', hb⟩ := id hC
      refine wpAny_bind (wpAny_bind (wpAny_isSubtype_exc hC' ?_))
      rw [hl c (by simp)]
      simp only [Bool.false_eq_true, if_false]
      refine wpAny_pure ?_
      exact ih (fun c hc => hl c (by simp [hc])) q
  refine wpAny_bind (wpAny_typeOf_obj hx hxc ?_)
  refine wpAny_bind (l2 cs hn ?_)
  exact wpAny_pure hq
end
section
variable {X : Cx} {pins : List (Addr × Obj)} {σ : St} {H : Hp} {s : Shared}
theorem unbind_ok {M : Model} {A : Around} {E : Value → Shared → Prop} {i : Nat} {x : Str} {v : V} {Q : Unit → Shared → Prop} (I : Inv X pins σ H s) (hN : X.N.Nodup) (hi : X.N[i]? = some x) (hk : X.env.kindOf x = some .local) (hs' : X.env.scope.names.lookup x = some .local) (hv : σ[i]? = some (some v))
    (h : ∀ s', Inv X pins (σ.set i none) H s' → Q () s') : wpAny M A (unbindName X.env x) Q E s := by
  obtain ⟨m, hn, hl⟩ := id I.loc
  have hcls : (X.env.scope.kind == .class || (X.env.scope.kind == .module && X.env.locals != X.env.globals)) = false := by rw [I.ok.kind]; rfl
  have hiσ : i < σ.length := by rw [I.len]; exact (List.getElem?_eq_some_iff.mp hi).1
  have cne := I.cne
  obtain ⟨u, _, lk⟩ := hl i x v hi hv (.inl hs')
  have mx : m x = some u := by
    rcases lk with ⟨_, e⟩ | ⟨k, _⟩
    · exact e
    · rw [hk] at k; rcases k with k | k <;> cases k
  refine wpAny_unbindName_local hk hn mx hcls fun h' u' hn' hs => ?_
  obtain ⟨oL, _, _, hoL, _⟩ := id hn
  refine h _ ⟨I.ok, I.os, I.bare, ⟨fun b o e n hb hx => ?_, fun b o e n hb hx => ?_, I.base.free, fun b o e hx => ?_, I.base.tups, I.base.frzs, I.base.tbls⟩, ⟨_, hn', fun j y v' e1 e2 e3 => ?_⟩, fun y c e => ?_, I.free, I.freeC, fun p hp => ?_, fun b ob e => ?_, by simpa using I.len⟩
  · exact (hs.2 b (Nat.ne_of_lt (Nat.lt_of_lt_of_le (Heap.lt_size e) I.ok.above))).trans (I.base.keep b o e n hb hx)
  · obtain ⟨sl, e1⟩ := I.base.slot b o e n hb hx
    exact ⟨sl, (hs.2 b (Nat.ne_of_lt (Nat.lt_of_lt_of_le (Heap.lt_size e) I.ok.above))).trans e1⟩
  · obtain ⟨o', e1⟩ := I.base.there b o e hx
    exact ⟨o', (hs.2 b (Nat.ne_of_lt (Nat.lt_of_lt_of_le (Heap.lt_size e) I.ok.above))).trans e1⟩
  · by_cases hj : j = i
    · subst hj
      rw [List.getElem?_set_self hiσ] at e2
      cases e2
    · rw [List.getElem?_set_ne (Ne.symm hj)] at e2
      obtain ⟨u2, r', q⟩ := hl j y v' e1 e2 e3
      refine ⟨u2, r', ?_⟩
      rcases q with ⟨k, e⟩ | ⟨k, c, e, z⟩
      · refine .inl ⟨k, ?_⟩
        have : y ≠ x := fun e => hj (nodup_ix hN e1 (e ▸ hi))
        simp [this, e]
      · exact .inr ⟨k, c, e, z.sameBut hs (cne y c e)⟩
  · obtain ⟨w', z⟩ := I.cell y c e
    exact ⟨w', z.sameBut hs (cne y c e)⟩
  · obtain ⟨a, b, c, d, e⟩ := I.pin p hp
    exact ⟨(hs.2 p.1 c).trans a, b, c, d, e⟩
  · refine (I.hok b ob e).stay (fun c w' hc q => (hs.2 c ?_).trans q) (fun _ q => q) fun _ _ q => q
    rintro rfl
    rcases hc with rfl | hc
    · rw [I.free] at e; cases e
    · rw [I.free] at hc; cases hc
abbrev Cx.inX (X : Cx) (x : Addr) : Cx := { X with A := X.A.mark (some (.ref x)), calm := false, xe := fun _ _ => False }
theorem Inv.inX (I : Inv X pins σ H s) (x : Addr) : Inv (X.inX x) pins σ H s :=
  ⟨⟨I.ok.mod, I.ok.kind, I.ok.glob, I.ok.blt, I.ok.above, I.ok.inj, I.ok.has, I.ok.cab, fun z => Bool.noConfusion z, I.ok.frames, I.ok.stk, I.ok.exf, I.ok.bs, I.ok.bsz, I.ok.noex, I.ok.exfs, I.ok.funs, I.ok.frf⟩, I.os, I.bare, I.base, I.loc, I.cell, I.free, I.freeC, I.pin, I.hok, I.len⟩
theorem Inv.outX {x : Addr} (hh : X.calm = true → X.A.handled = none) (I : Inv (X.inX x) pins σ H s) : Inv X pins σ H s :=
  ⟨⟨I.ok.mod, I.ok.kind, I.ok.glob, I.ok.blt, I.ok.above, I.ok.inj, I.ok.has, I.ok.cab, hh, I.ok.frames, I.ok.stk, I.ok.exf, I.ok.bs, I.ok.bsz, I.ok.noex, I.ok.exfs, I.ok.funs, I.ok.frf⟩, I.os, I.bare, I.base, I.loc, I.cell, I.free, I.freeC, I.pin, I.hok, I.len⟩
def excIs (x : Addr) (C : Value) : HO := .ext fun h => ∃ o, h.get? x = some o ∧ o.cls = C
theorem caught_inv {x : Addr} {C : Value} {H' : Hp} {s6 : Shared} {o : Obj} (I : Inv X pins σ H s) (ho : s6.os = s.os) (hg : AllBare s6.gens) (u : Un (frs X.stack) [] H H' s.heap s6.heap) (ok : HOk X.prog X.w H' s6.heap) (xn : s.heap.get? x = none) (xh : H' x = none) (he : s6.heap.get? x = some o) (hc : o.cls = C) :
    Inv X pins σ (upd H' x (excIs x C)) s6 := by
  have ne : ∀ b q, s.heap.get? b = some q → b ≠ x := fun b q e z => by rw [z, xn] at e; cases e
  refine I.call' (ch := []) ho ⟨u.keep, u.slot, fun b q e n hx => by rw [upd_ne (ne b q e)]; exact u.free b q e n hx, u.there, fun b xs e => by rw [upd_ne (ne_of_none (u.tups b xs e) xh)]; exact u.tups b xs e, fun b q v e => by rw [upd_ne (ne_of_none (u.frzs b q v e) xh)]; exact u.frzs b q v e, fun b ps e => ?_⟩ ?_ hg (fun b z => absurd z (by simp))
  · obtain ⟨more, q⟩ := u.tbls b ps e
    exact ⟨more, by rw [upd_ne (ne_of_none q xh)]; exact q⟩
  · intro b v e
    by_cases hb : b = x
    · subst hb
      rw [upd_same] at e
      cases e
      exact ⟨⟨o, he, hc⟩, ⟨o, he⟩, fun h1 h2 ⟨o1, e1, c1⟩ k => ⟨o1, k o1 e1, c1⟩⟩
    · rw [upd_ne hb] at e
      exact (ok b v e).stay (fun _ _ _ q => q) (fun c q => by rw [upd_ne (ne_of_none q xh)]; exact q) fun c xs q => by rw [upd_ne (ne_of_none q xh)]; exact q
end
section
variable {X : Cx} {pins : List (Addr × Obj)} {σ : St} {H : Hp} {s : Shared}
theorem flying_push {B h : Heap} {l : List Env} {e : Addr} {C a0 : Value} (fl : Heap.FlyingW B l e C a0 h) (o : Obj) : Heap.FlyingW B l e C a0 (h.push o) := by
  obtain ⟨k1, k2, k3, oe, vs, T, oT, ts, a1, a2, a3, a4, a5, a6, a7, a8⟩ := fl
  exact ⟨fun b q e => Heap.get?_push_of_some _ (k1 b q e), k2, k3.of_keeps fun b q e _ => ⟨q, Heap.get?_push_of_some _ e, rfl⟩, oe, vs, T, oT, ts, Heap.get?_push_of_some _ a1, a2, a3, a4, a5, a6, Heap.get?_push_of_some _ a7, a8⟩
theorem names_spliced {E : Value → Shared → Prop} {M : Model} (hM : M = model X.prog X.w) {A : Around} (I : Inv X pins σ H s) {pos : Pos} : ∀ (es : List (Str × Pos × Addr)), (∀ e ∈ es, Gl X e.1 ∧ X.mg e.1 = some (.ref e.2.2) ∧ (e.1 == ("__debug__" : Str)) = false) →
    ∀ {Q : List Value → Shared → Prop}, Q (es.map fun e => .ref e.2.2) s → wpAny M A (spliced (backTo pos (starEach (es.map fun e => Expr.Name e.1 e.2.1) X.env))) Q E s
  | [], _, _, q => Calls.spliced_nil q
  | e :: es, h, _, q => by
    obtain ⟨g, m, d⟩ := h e (by simp)
    rw [List.map_cons]
    refine spliced_more ?_
    refine Calls.Name_function_global I.ok.kind g (Calls.loadGlobal_global (by rw [I.ok.glob]; exact I.mod.glob.keeps I.bk) m ?_) d
    exact names_spliced hM I es (fun e he => h e (by simp [he])) q
end
open PySem.W in
theorem ans_true {K : Frag} {x t c : Value} {Hx : Heap → Prop} (ty : ∀ (M : Model) (h : Heap), K.In h → Hx h → Looks M h (typeOf x) t) (e : kitOne K t c = some true) : Answers (fun s => K.In s.heap ∧ Hx s.heap) x c true := by
  intro dep tk prog w A R s hs
  obtain ⟨h0, g, d, tt, os⟩ := s
  obtain ⟨⟨X, p⟩, hq⟩ := hs
  have LT := ty (model prog w) h0 X p
  unfold kitOne at e
  unfold Builtin.«isinstance.nested»
  refine wpAny_bind (LT.at ?_)
  by_cases q : (t == c) = true
  · rw [if_pos q]
    first
      | ((repeat lk); exact hq tt)
      | exact wpAny_bind (wpAny_rule (hq tt))
      | exact wpAny_bind (wpAny_rule (wpAny_pure (hq tt)))
  · rw [if_neg q] at e
    rw [if_neg q]
    obtain ⟨hty, his, hsub⟩ := kit_cls (M := model prog w) X e
    have LI : Looks (model prog w) h0 (isInstance x c) true := LT.andThen hsub
    refine wpAny_bind (hty.at ?_)
    rw [if_pos (by decide)]
    k_delta "plainIsInstance"
    refine wpAny_bind (wpAny_bind (his.at ?_))
    simp only [Bool.not_true, Bool.false_eq_true, if_false]
    refine wpAny_bind (LI.at ?_)
    first
      | exact wpAny_pure (wpAny_pure (hq tt))
      | (simp only [if_true]; first | exact wpAny_pure (wpAny_pure (hq tt)) | exact wpAny_pure (hq tt) | exact wpAny_bind (wpAny_pure (wpAny_pure (hq tt))))
theorem call_isinstE {X : Cx} : CallR X (.builtin "isinstance") (fun xs H Q => ∃ (x : Addr) (c : V) (u t : Value), xs = [.ref x, c] ∧ (∀ u', RelV c u' → u' = u) ∧ H x = some (excIs x t) ∧ PySem.W.kitOne X.K t u = some true ∧ Q (.bl true) H) := by
  intro pins s σ H xs us Q I r h
  obtain ⟨x, c, u, t, rfl, hu, hx, e, q⟩ := h
  obtain ⟨u1, u2, rfl, r1, r2⟩ := vals2 r
  cases r1
  have e2 := hu u2 r2
  subst e2
  obtain ⟨⟨o, ho, hc⟩, _, _⟩ := (show ObjOk X.prog X.w H s.heap x (excIs x t) from I.hok x _ hx)
  exact PySem.call_isinstance (S := fun _ R s => (X.K.In s.heap ∧ (∃ o, s.heap.get? x = some o ∧ o.cls = t)) ∧ ∀ tk, R (.ok (.ret (.bool true))) { s with toks := tk })
    (fun prog w A R s hs => PySem.isinstance_outer (ans_true (Hx := fun h => ∃ o, h.get? x = some o ∧ o.cls = t) (fun M h _ p => by
      obtain ⟨o, ho, hc⟩ := p
      intro A' Q' E' s' k q
      exact wpAny_typeOf_ref (k _ _ ho) (by rw [hc]; exact q)) e 0 _ prog w A R s hs) (fun z => nomatch z)) ⟨⟨I.kIn, ⟨o, ho, hc⟩⟩, fun tk => ⟨.bl true, H, I.tok tk, rfl, q⟩⟩
theorem call_isinstEK {X : Cx} (K : PySem.W.Frag) (hK : X.K = K := by rfl) : CallR X (.builtin "isinstance") (fun xs H Q => ∃ (x : Addr) (c : V) (u t : Value), xs = [.ref x, c] ∧ (∀ u', RelV c u' → u' = u) ∧ H x = some (excIs x t) ∧ PySem.W.kitOne K t u = some true ∧ Q (.bl true) H) := by subst hK; exact call_isinstE
end L2
namespace L2
open PySem PySem.Spec PyProof.Rows
def Ite (K : PySem.W.Frag) (l : Addr) (N : Nat) : It :=
  ⟨fun i H => ∃ xs x, SqL K H l xs ∧ xs.length = N ∧ xs[i]? = some x,
   fun i H v H' => ∃ t, H t = none ∧ v = .ref t ∧ ∀ xs x, SqL K H l xs → xs[i]? = some x → H' = upd H t (.tup [.int i, x]),
   fun i H => i = N ∧ ∃ xs, SqL K H l xs ∧ xs.length = N⟩
theorem turn_enumL {P : Program} {w : World} {K : PySem.W.Frag} {elts : List Expr} {x1 : Nat} {tp : Pos} (l e it : Addr) (N : Nat) (hei : e ≠ it) (hle : l ≠ e) (hli : l ≠ it) :
    Turn P w K (.Tuple elts x1 tp) (Ite K l N) [e, it] e (fun i h => (∃ old, IsEnum h e it i old) ∧ h.IsListIter it l i) where
  mem := by simp
  obj := fun i h ⟨⟨old, h1⟩, h2⟩ c hc => by
    simp only [List.mem_cons, List.not_mem_nil, or_false] at hc
    rcases hc with z | z
    · subst z; exact ⟨_, h1, fun v q => by have q' : Data.fields _ = Data.cell v := q; cases q'⟩
    · subst z
      obtain ⟨o, ho, _, hd⟩ := h2
      exact ⟨o, ho, fun v q => by rw [hd] at q; cases q⟩
  keep := fun i h h' ⟨⟨old, h1⟩, h2⟩ k => ⟨⟨old, k e (by simp) _ h1⟩, h2.at fun o z => k it (by simp) o z⟩
  item := by
    intro X hP hw hK hc i pins s σ H E I hf ⟨⟨old, h1⟩, h2⟩ ⟨xs, x, q1, hN, hx⟩
    subst hP hw hK
    obtain ⟨it1, v1, p1, z1⟩ := I.list q1
    have hl1 := v1.length
    have hsz : it1.toArray.size = N := by rw [List.size_toArray]; omega
    have hi : i < N := by have := (List.getElem?_eq_some_iff.mp hx).1; omega
    obtain ⟨u1, e1, r1⟩ := v1.get hx
    have D := Draws.list (prog := X.prog) (w := X.w) (A := X.A.in1) (I.ok.hd hc) it l hli it1.toArray
    rw [hsz] at D
    refine wpAny_pyNext_enum_itemD D h1 ⟨h2, p1.isList⟩ hi hei (by simp only [List.mem_cons, List.not_mem_nil, or_false, not_or]; exact ⟨hei, Ne.symm hle⟩) fun u h' tk hu g1 gst gT gs k => ?_
    refine ⟨_, rfl, wpAny_letOwnedTupleGo_enum g1 fun h'' g1' sb => ?_⟩
    have hzT : s.heap.objs.size ≠ e := Nat.ne_of_gt (Heap.lt_size h1)
    have eu : u = u1 := by
      have hu' : it1[i]? = some u := by simpa using hu
      rw [e1] at hu'
      exact (Option.some.inj hu').symm
    subst eu
    have gT' : IsTup h'' s.heap.objs.size [Value.int i tk, u].toArray := ⟨_, sb.extBut _ _ hzT gT, rfl, _, rfl⟩
    have hlz : ∀ {c : Addr} {o : Obj}, c ≠ e → h'.get? c = some o → h''.get? c = some o := fun hcz z => sb.extBut _ _ hcz z
    refine ⟨.ref s.heap.objs.size, upd H s.heap.objs.size (.tup [.int i, x]), I.turnsT (ch := [e, it]) (t' := tk + 1) (fun c hcm => hf c hcm) (fun c o hcn z => ?_) (Nat.le_refl _) (.cons ⟨tk, rfl⟩ (.cons r1 .nil)) gT' (by show 2 ≤ sizeLine; decide), rfl,
      ⟨_, I.hok.fresh (Nat.le_refl _), rfl, fun xs' x' w1 w2 => ?_⟩, ⟨⟨_, g1'⟩, gst.1.at fun o z => hlz (Ne.symm hei) z⟩, fun c hcm => ?_⟩
    · simp only [List.mem_cons, List.not_mem_nil, or_false, not_or] at hcn
      exact hlz hcn.1 (k c o hcn.1 hcn.2 z)
    · have a1 := I.list_inj w1 q1
      subst a1
      rw [hx] at w2
      cases w2
      rfl
    · obtain ⟨o, z, _⟩ : ∃ o, s.heap.get? c = some o ∧ True := by
        simp only [List.mem_cons, List.not_mem_nil, or_false] at hcm
        rcases hcm with z | z
        · subst z; exact ⟨_, h1, trivial⟩
        · subst z; obtain ⟨o, ho, _⟩ := h2; exact ⟨o, ho, trivial⟩
      rw [upd_ne (Nat.ne_of_lt (Heap.lt_size z))]
      exact (hf c hcm).1
  done := by
    intro X hP hw hK hc i pins s σ H E I hf ⟨⟨old, h1⟩, h2⟩ ⟨hi, xs, q1, hN⟩
    subst hP hw hK hi
    obtain ⟨it1, v1, p1, z1⟩ := I.list q1
    have hl1 := v1.length
    have hsz : it1.toArray.size = i := by rw [List.size_toArray]; omega
    have D := Draws.list (prog := X.prog) (w := X.w) (A := X.A.in1) (I.ok.hd hc) it l hli it1.toArray
    rw [hsz] at D
    refine wpAny_pyNext_enum_endD D h1 ⟨h2, p1.isList⟩ fun h' k => ⟨rfl, I.turns (ch := [e, it]) (t' := s.toks) hf fun c o hcn z => ?_⟩
    simp only [List.mem_cons, List.not_mem_nil, or_false, not_or] at hcn
    exact k c o hcn.2 z
  self := fun _ _ _ _ _ st h => let ⟨⟨_, z⟩, _⟩ := st; wpAny_pyIter_enum z h
section
variable {X : Cx}
def iEnumL (K : PySem.W.Frag) (ta : TA) : TI := fun σ H R => ta σ H fun vs H1 => ∃ a xs, vs = [.ref a] ∧ SqL K H1 a xs ∧ R (Ite K a xs.length) H1
theorem pi_enumL {a : Expr} {ta : TA} {p pos : Pos} {elts : List Expr} {x1 : Nat} {tp : Pos} (hg : Gl X "enumerate") (hm : X.mg "enumerate" = none) (ha : PA X [a] ta)
    (hs : starEach [a] X.env = (false, eval a X.env) :: starEach [] X.env := by rfl) (hs2 : (backTo pos (starEach [] X.env)).any (·.1) = false := by rfl) :
    PI X (.Tuple elts x1 tp) (.Call (.Name "enumerate" p) [a] [] pos) (iEnumL X.K ta) := by
  intro pins s σ H R I h
  refine Call_ (ld_blt I hg hm b_enumerate (PyProof.Rows.callWith_type1 (thn (ha pos pins s σ H _ I h) fun us s1 ⟨vs, H1, I1, r1, q1⟩ => ?_) hs hs2))
  obtain ⟨l, xs, e, q1, q⟩ := q1
  subst e
  obtain ⟨u, rfl, w1⟩ := vals1 r1
  cases w1
  obtain ⟨its, v1, p1, z1⟩ := I1.list q1
  have hl : l < s1.heap.objs.size := by obtain ⟨_, _, e, _⟩ := p1; exact Heap.lt_size e
  refine call_enumerate_list p1.isList fun h' g1 g2 gs k => ?_
  refine wpAny_pyIter_enum g1 ?_
  refine ⟨s1.heap.objs.size + 1, [s1.heap.objs.size + 1, s1.heap.objs.size], _, _, H1, rfl, I1.kept (t' := s1.toks) k, turn_enumL l _ s1.heap.objs.size xs.length ?_ ?_ ?_, ⟨⟨_, g1⟩, g2⟩, fun c hcm => ?_, q⟩
  · exact Nat.succ_ne_self _
  · exact Nat.ne_of_lt (Nat.lt_succ_of_lt hl)
  · exact Nat.ne_of_lt hl
  · have hc : s1.heap.objs.size ≤ c := by
      simp only [List.mem_cons, List.not_mem_nil, or_false] at hcm
      rcases hcm with e | e
      · rw [e]; exact Nat.le_succ _
      · rw [e]; exact Nat.le_refl _
    exact I1.fpOk hc (I1.hok.fresh hc)
theorem call_sum (hc : X.calm = true) : CallR X (.builtin "sum") (fun xs H Q => ∃ (p : Addr) (ns : List Int), xs = [.ref p] ∧ SqL X.K H p (ns.map V.int) ∧ Q (.int ns.sum) H) := by
  intro pins s σ H xs us Q I r h
  obtain ⟨p, ns, rfl, hq, q⟩ := h
  obtain ⟨u, rfl, ru⟩ := vals1 r
  cases ru
  obtain ⟨its, hl, hi, hz⟩ := I.ints hq
  obtain ⟨xs, hx⟩ := hi.allInts.items
  have hl' : s.heap.IsList p (intItems xs) := hx ▸ hl
  refine sum_intListG (I.ok.hd hc) hl' fun h' tk t' hk => ?_
  have e1 : ns = xs.toList.map (·.1) := by
    rw [← nums_intItems, ← hx]
    exact (show numsOf its.toArray.toList = ns from hi.numsOf).symm
  have e2 : preSum (numAt xs) xs.size = ns.sum := by
    rw [preSum_eq, List.take_of_length_le (by simp), e1]
  rw [e2]
  exact ⟨.int _, H, I.kept (t' := tk) hk, ⟨_, rfl⟩, q⟩
end
theorem b_sum : bootBuiltins "sum" = some (.builtin "sum") := by decide +kernel
theorem comp_enumP {K : PySem.W.Frag} {a acc : Addr} {xs : List V} {own : Nat} {ix : List Nat} {g : TG} {te : TE} {σ : St} {H1 : Hp} {Q : VK} (f : Nat → V) (hq1 : SqL K H1 a xs) (hn : H1 acc = none) (hz : xs.length ≤ sizeLine)
    (step : ∀ (i : Nat) (x : V) (t : Addr) (H : Hp) (R : VK), xs[i]? = some x → Same H1 H → H t = some (.tup [.int i, x]) → R (f i) H → g (.ref t) (blockSt own ix σ) H fun σ4 H4 => σ4.drop own = ix.map (fun i => (σ[i]?).getD none) ∧ te σ4 H4 R)
    (hd : ∀ H', Same H1 H' → H' acc = some (.lst ((List.range xs.length).map f)) → Q (.ref acc) H') : CompGo (Ite K a xs.length) own ix g tNoTest te σ H1 acc Q := by
  refine ⟨fun i m ys H => m = xs.length - i ∧ i ≤ xs.length ∧ ys = (List.range i).map f ∧ Same H1 H ∧ H acc = some (.lst ys), ⟨xs.length, by simp, Nat.zero_le _, rfl, Same.new hn, upd_same⟩, ?_⟩
  rintro i m zs H ⟨rfl, hi, rfl, sm, ha⟩
  refine ⟨ha, ?_⟩
  by_cases hlt : i < xs.length
  · refine .inr ⟨⟨xs, xs[i], sm.seq hq1, rfl, List.getElem?_eq_getElem hlt⟩, by rw [List.length_map, List.length_range]; omega, fun v H3 ⟨t, ht, hv, hy⟩ => ?_⟩
    have e := hy xs _ (sm.seq hq1) (List.getElem?_eq_getElem hlt)
    subst hv e
    have ha3 : (upd H t (.tup [.int i, xs[i]])) acc = some (.lst ((List.range i).map f)) := by rw [upd_ne (ne_of_none ha ht)]; exact ha
    exact step i _ t _ _ (List.getElem?_eq_getElem hlt) (sm.put ht) upd_same ⟨ha3, _, by omega, rfl, hlt, by rw [List.range_succ, List.map_append]; rfl, (sm.put ht).wr hn, upd_same⟩
  · have e : i = xs.length := by omega
    subst e
    exact .inl ⟨⟨rfl, xs, sm.seq hq1, rfl⟩, hd H sm ha⟩
theorem for_enum {K : PySem.W.Frag} {a : Addr} {xs : List V} {g : TG} {tb : TS} {D : Ends} {σ : St} {H : Hp} (Pv : Nat → St → Hp → Prop) (h0 : Pv 0 σ H) (hl : ∀ i σ H, Pv i σ H → SqL K H a xs)
    (hs : ∀ (i : Nat) x t σ H, xs[i]? = some x → Pv i σ H → H t = none → g (.ref t) σ (upd H t (.tup [.int i, x])) fun σ2 H2 => tb { D with nx := Pv (i + 1), ct := Pv (i + 1), bk := D.nx } σ2 H2) (hd : ∀ σ H, Pv xs.length σ H → D.nx σ H) :
    ∃ W : Nat → Nat → St → Hp → Prop, (∃ m, W 0 m σ H) ∧ ∀ i m σ H, W i m σ H →
      ((Ite K a xs.length).stop i H ∧ D.nx σ H) ∨ ((Ite K a xs.length).go i H ∧ ∃ N : St → Hp → Prop, (∀ σ' H', N σ' H' → ∃ m', m' < m ∧ W (i + 1) m' σ' H') ∧ ∀ x H', (Ite K a xs.length).yld i H x H' → g x σ H' fun σ2 H2 => tb { D with nx := N, ct := N, bk := D.nx } σ2 H2) := by
  refine ⟨fun i m σ H => m = xs.length - i ∧ i ≤ xs.length ∧ Pv i σ H, ⟨_, rfl, Nat.zero_le _, h0⟩, ?_⟩
  rintro i m σ H ⟨rfl, hi, p⟩
  have q1 := hl i σ H p
  by_cases hlt : i < xs.length
  · refine .inr ⟨⟨xs, xs[i], q1, rfl, List.getElem?_eq_getElem hlt⟩, Pv (i + 1), fun σ' H' p' => ⟨_, by omega, rfl, hlt, p'⟩, fun v H3 ⟨t, ht, hv, hy⟩ => ?_⟩
    have e := hy xs _ q1 (List.getElem?_eq_getElem hlt)
    subst hv e
    exact hs i _ t σ H (List.getElem?_eq_getElem hlt) p ht
  · have e : i = xs.length := by omega
    subst e
    exact .inl ⟨⟨rfl, xs, q1, rfl⟩, hd σ H p⟩
end L2
namespace L2
open PySem PySem.Spec PyProof.Rows
section
variable {X : Cx}
end
end L2
namespace L2
open PySem PySem.Spec PyProof.Rows PySem.W PySem.Calls
section
variable {prog : Program} {w : World} {A : Around} {E : Value → Shared → Prop} {s : Shared} {K : Frag} {x C : Addr} {ox : Obj}
structure ExcLook (K : Frag) (C : Addr) : Prop where
  ga : findIn K (.ref C) "__getattribute__" = some (some (.builtin "BaseException.__getattribute__"))
  hk : findIn K (.ref C) "__getattr__" = some none
  cl : findIn K (.ref C) "__class__" = some (some (.builtin "object.__class__"))
  gt : specialIn K (.builtin "object.__class__") "__get__" = some (some (.builtin "getset_descriptor.__get__"))
  tk : takesIn K (.builtin "object.__class__") = some true
  mo : mroIn K C (.type "object") = some true
  mb : mroIn K C (.type "BaseException") = some true
end
section
variable {K : Frag} {x C : Addr}
end
inductive XTy (K : PySem.W.Frag) (H : Hp) : V → Value → Prop where
  | of {x : V} {t : Value} (h : TyOf K H x t) : XTy K H x t
  | exc {a C : Addr} (L : ExcLook K C) (h : H a = some (excIs a (.ref C))) : XTy K H (.ref a) (.ref C)
section
variable {X : Cx}
end
def PassesG (X : Cx) (G : St → Value → Hp → Prop) : Prop := ∀ (pins : List (Addr × Obj)) (σ : St) (H : Hp) (s : Shared) (e : Value) (s' : Shared), Inv X pins σ H s → CXE X.prog X.w X.stack H s (fun C _ H' => G σ C H') e s' → X.xe e s'
def tFnG (sp : Sp) (G : St → Value → Hp → Prop) (t : TA) : TE := fun σ H Q => t σ H fun vs H1 => sp vs H1 Q fun C _ H' => G σ C H'
section
variable {X : Cx} {k : Nat} {x : Str} {ps : List Str} {sp : Sp} {p pos : Pos} {e : Expr} {es : List Expr} {t : TA} {G : St → Value → Hp → Prop}
theorem pe_fnG (F : FnE X.prog X.w X.K X.mg X.base k x ps sp) (hr : Room k X.A) (hg : Gl X x) (hx : PassesG X G) (ha : PA X (e :: es) t) (hdb : (x == ("__debug__" : Str)) = false := by decide)
    (he : starEach (e :: es) X.env = (false, eval e X.env) :: starEach es X.env := by rfl) (hpl : (backTo pos (starEach es X.env)).any (·.1) = false := by rfl) :
    PE X (.Call (.Name x p) (e :: es) [] pos) (tFnG sp G t) := by
  obtain ⟨f, fd, F, kp, b, m⟩ := F
  intro pins s σ H Q I h
  refine wpAny_Call_Name_kw (ld_glob I hg m ?_ hdb)
  refine PySem.W.callWith_K (h₀ := X.base) I.ok.mod.kin kp (thn (ha pos pins s σ H _ I h) fun us s1 ⟨vs, H1, I1, r, q⟩ => ⟨I1.kIn, ?_⟩) he hpl
  have hl : us.length = ps.length := by rw [← r.length]; exact F.len _ _ _ _ q
  have bb := b s1 us I1.kIn (by rw [List.append_nil]; exact hl)
  rw [List.append_nil] at bb
  refine wpAny_call (codeAny_mono (F.run X.A X.stack s1 H1 ⟨us, []⟩ us vs Q _ hr I1.env0 bb r q) fun rr s' hq => ?_)
  cases rr with
  | error e => exact hx pins σ H1 s1 e s' I1 hq
  | ok fl =>
    cases fl with
    | ret u => exact I1.after hq
    | next => exact False.elim hq
    | brk => exact False.elim hq
    | cont => exact False.elim hq
end
theorem passesE {P : Program} {w : World} {K : PySem.W.Frag} {mg : Str → Option Value} {base : Heap} {N : List Str} {qual : Str} {scope : Scope} {f : Addr} {cdv : Value} {A : Around} {outer : List Env} {s : Shared} {H : Hp} {E : XK} :
    PassesG (cxOf (CXE P w) P w K mg base N qual scope f cdv A outer s H E) (fun _ C H' => E C none H') :=
  fun _ _ _ _ _ _ I h => xe_pass (x := 0) I h fun _ _ z => z
abbrev Cx.pinned (X : Cx) (pn : List (Addr × Obj)) : Cx := { X with pn := pn }
theorem Inv.intoPn {X : Cx} {pins : List (Addr × Obj)} {σ : St} {H : Hp} {s : Shared} (I : Inv X pins σ H s) : Inv (X.pinned (X.pn ++ pins)) [] σ H s :=
  ⟨⟨I.ok.mod, I.ok.kind, I.ok.glob, I.ok.blt, I.ok.above, I.ok.inj, I.ok.has, I.ok.cab, I.ok.hd, I.ok.frames, I.ok.stk, I.ok.exf, I.ok.bs, I.ok.bsz, I.ok.noex, I.ok.exfs, I.ok.funs, I.ok.frf⟩, I.os, I.bare, I.base, I.loc, I.cell, I.free, I.freeC, fun p hp => I.pin p (by rw [List.append_nil] at hp; exact hp), I.hok, I.len⟩
theorem Inv.outPn {X : Cx} {pins pins1 : List (Addr × Obj)} {σ : St} {H : Hp} {s : Shared} (I : Inv (X.pinned (X.pn ++ pins)) pins1 σ H s) : Inv X pins σ H s :=
  ⟨⟨I.ok.mod, I.ok.kind, I.ok.glob, I.ok.blt, I.ok.above, I.ok.inj, I.ok.has, I.ok.cab, I.ok.hd, I.ok.frames, I.ok.stk, I.ok.exf, I.ok.bs, I.ok.bsz, I.ok.noex, I.ok.exfs, I.ok.funs, I.ok.frf⟩, I.os, I.bare, I.base, I.loc, I.cell, I.free, I.freeC, fun p hp => I.pin p (List.mem_append_left _ hp), I.hok, I.len⟩
end L2
namespace L2
open PySem PySem.Spec PyProof.Rows PySem.SeqAt
abbrev dTu (ns : List Int) : PyData := .tuple (ns.map PyData.int)
abbrev dLT (nss : List (List Int)) : PyData := .list (nss.map dTu)
def SqLT (K : PySem.W.Frag) (H : Hp) (a : Addr) (nss : List (List Int)) : Prop := ∃ as : List Addr, SqL K H a (as.map V.ref) ∧ Paired (fun b ns => SqT K H b (ns.map V.int)) as nss
theorem canLay_dLT : ∀ nss : List (List Int), PyData.canLayAll0 (nss.map dTu) = true
  | [] => by simp [PyData.canLayAll0]
  | n :: r => by simp [PyData.canLayAll0, PyData.canLay0, PySem.W.canLayAll0_ints, canLay_dLT r]
theorem depth_dTu (ns : List Int) : PyData.depth (dTu ns) ≤ 2 := by
  have := PySem.W.depthAll_ints ns
  simp only [PyData.depth]
  omega
theorem depthAll_dLT : ∀ nss : List (List Int), PyData.depthAll (nss.map dTu) ≤ 2
  | [] => by simp [PyData.depthAll]
  | n :: r => by
    have := depthAll_dLT r
    have := depth_dTu n
    simp only [List.map_cons, PyData.depthAll]
    omega
theorem shaped_dLT (nss : List (List Int)) : shaped (dLT nss) = true := by
  have h1 := depthAll_dLT nss
  have h2 : PyData.depth (dLT nss) ≤ 64 := by simp only [PyData.depth]; omega
  show (PyData.canLay0 (dLT nss) && decide (PyData.depth (dLT nss) ≤ 64)) = true
  rw [Bool.and_eq_true]
  exact ⟨by simp only [PyData.canLay0]; exact canLay_dLT nss, decide_eq_true h2⟩
theorem noMix_dTu (ns ms : List Int) : noMix (dTu ns) (dTu ms) = true := by
  simp only [noMix]; exact PySem.W.noMix_ints ns ms
theorem noMix_dLT : ∀ nss mss : List (List Int), noMixAll (nss.map dTu) (mss.map dTu) = true
  | [], [] => by simp [noMixAll]
  | [], _ :: _ => by simp [noMixAll]
  | _ :: _, [] => by simp [noMixAll]
  | n :: r, m :: q => by
    simp only [List.map_cons, noMixAll, noMix_dLT r q, Bool.and_true]
    exact noMix_dTu n m
theorem same_dTu (ns ms : List Int) : PySem.Spec.same (dTu ns) (dTu ms) = decide (ns = ms) := by
  simp only [PySem.Spec.same]; exact PySem.W.same_ints ns ms
theorem same_dLT : ∀ nss mss : List (List Int), PySem.Spec.sameAll (nss.map dTu) (mss.map dTu) = decide (nss = mss)
  | [], [] => by simp [PySem.Spec.sameAll]
  | [], _ :: _ => by simp [PySem.Spec.sameAll]
  | _ :: _, [] => by simp [PySem.Spec.sameAll]
  | n :: r, k :: q => by
    simp only [List.map_cons, PySem.Spec.sameAll, same_dLT r q]
    rw [same_dTu]
    by_cases h : n = k <;> simp [h]
section
variable {X : Cx} {pins : List (Addr × Obj)} {σ : St} {H : Hp} {s : Shared}
theorem Inv.readsTu (I : Inv X pins σ H s) {a : Addr} {ns : List Int} (h : SqT X.K H a (ns.map V.int)) : ∃ bs, Reads s.heap (.ref a) (dTu ns) bs := by
  obtain ⟨its, r, ⟨o, ho, hc, n, hd⟩, z⟩ := I.tuple h
  exact ⟨_, .tuple ho hc hd (by simpa using PySem.W.readsAll_of_ints (intsAre_of r))⟩
theorem Inv.readsAllT (I : Inv X pins σ H s) : ∀ {as : List Addr} {us : List Value} {nss : List (List Int)}, Vals (as.map V.ref) us → Paired (fun b ns => SqT X.K H b (ns.map V.int)) as nss → ∃ bs, ReadsAll s.heap us (nss.map dTu) bs
  | [], _, _, r, p => by
    cases r; cases p
    exact ⟨_, .nil⟩
  | a :: as, _, _, r, p => by
    cases p with
    | cons p1 p2 =>
      cases r with
      | cons r1 r2 =>
        obtain ⟨bs, h⟩ := I.readsAllT r2 p2
        obtain ⟨cs, h1⟩ := I.readsTu p1
        cases r1
        exact ⟨_, .cons h1 h⟩
theorem Inv.readsLT (I : Inv X pins σ H s) {a : Addr} {nss : List (List Int)} (h : SqLT X.K H a nss) : ∃ bs, Reads s.heap (.ref a) (dLT nss) bs := by
  obtain ⟨as, h1, h2⟩ := h
  obtain ⟨its, r, ⟨o, n, ho, hc, hd0, hd⟩, z⟩ := I.list h1
  obtain ⟨bs, hb⟩ := I.readsAllT r h2
  exact ⟨_, .list ho hc hd (by simpa using hb)⟩
end
section
variable {X : Cx}
def rEqLT (K : PySem.W.Frag) : R2 := fun x y H Q => ∃ (a b : Addr) (nss mss : List (List Int)), x = .ref a ∧ y = .ref b ∧ SqLT K H a nss ∧ SqLT K H b mss ∧ Q (.bl (decide (nss = mss))) H
def rNeLT (K : PySem.W.Frag) : R2 := fun x y H Q => ∃ (a b : Addr) (nss mss : List (List Int)), x = .ref a ∧ y = .ref b ∧ SqLT K H a nss ∧ SqLT K H b mss ∧ Q (.bl (!decide (nss = mss))) H
theorem op_eqLT (hu : X.A.units + 64 < cLine) : OpR X (compareOp .Eq) (rEqLT X.K) := by
  intro pins s σ H x y v u Q I rx ry h
  obtain ⟨a, b, ns, ms, rfl, rfl, h1, h2, q⟩ := h
  cases rx; cases ry
  obtain ⟨as, r1⟩ := I.readsLT h1
  obtain ⟨bs, r2⟩ := I.readsLT h2
  exact eq_dataH_same r1 r2 (shaped_dLT ns) (shaped_dLT ms) hu (by simp only [noMix]; exact noMix_dLT ns ms) (by simp only [PySem.Spec.same]; rw [same_dLT]; exact ⟨.bl _, H, I, rfl, q⟩)
theorem op_neLT (hu : X.A.units + 64 < cLine) : OpR X (compareOp .NotEq) (rNeLT X.K) := by
  intro pins s σ H x y v u Q I rx ry h
  obtain ⟨a, b, ns, ms, rfl, rfl, h1, h2, q⟩ := h
  cases rx; cases ry
  obtain ⟨as, r1⟩ := I.readsLT h1
  obtain ⟨bs, r2⟩ := I.readsLT h2
  exact ne_dataH_same r1 r2 (shaped_dLT ns) (shaped_dLT ms) hu (by simp only [noMix]; exact noMix_dLT ns ms) (by simp only [PySem.Spec.same]; rw [same_dLT]; exact ⟨.bl _, H, I, rfl, q⟩)
theorem insAt (l : List Value) (k : Nat) (y : Value) : (l.toArray.extract 0 k).push y ++ l.toArray.extract k = (l.take k ++ y :: l.drop k).toArray := by
  apply Array.toList_inj.mp
  simp
  exact List.take_of_length_le (by simp)
theorem mt_insertAt : MtM X "list.insert" (fun x vs H Q => ∃ l xs y k, x = .ref l ∧ vs = [.int ((k : Nat) : Int), y] ∧ H l = some (.lst xs) ∧ xs.length < sizeLine ∧ k ≤ xs.length ∧ Q .non (upd H l (.lst (xs.take k ++ y :: xs.drop k)))) := by
  intro pins s σ H x vs v us Q I rx rv h
  obtain ⟨l, xs, y, k, rfl, rfl, hH, hz, hk, q⟩ := h
  cases rx
  obtain ⟨u1, u2, rfl, r1, r2⟩ := rv.two
  obtain ⟨t, rfl⟩ := r1
  obtain ⟨z, its, n, r, hl, e⟩ := I.lstM hH
  have hfit : ¬ (!Builtin.List.listFitsIndex ((k : Nat) : Int)) = true := by
    have : k ≤ sizeLine := by omega
    simp [Builtin.List.listFitsIndex]
    have hs : sizeLine < 2 ^ 60 := by decide
    omega
  have hsz : its.toArray.size ≤ sizeLine := by rw [List.size_toArray]; omega
  generalize hkk : ((k : Nat) : Int) = kk at hfit ⊢
  refine call_meets F.slot_list_insert ⟨_, e, rfl⟩ F.entry_list_insert (F.args_list_insert_3 _ _ _) (PySem.AutoListH.list_insert_list_int_val_1 l its.toArray n kk t u2 hfit hsz) ⟨e, ?_⟩
  subst hkk
  refine ⟨.non, _, I.lset (its' := its.take k ++ u2 :: its.drop k) hH e ?_ (Vals.append (r.take k) (.cons r2 (r.drop k))) ?_, rfl, q⟩
  · have hlen := r.length
    show (its.toArray.extract 0 (if ((k : Nat) : Int) < 0 then (((k : Nat) : Int) + (its.toArray.size : Int)).toNat else min ((k : Nat) : Int).toNat its.toArray.size)).push u2 ++ its.toArray.extract (if ((k : Nat) : Int) < 0 then (((k : Nat) : Int) + (its.toArray.size : Int)).toNat else min ((k : Nat) : Int).toNat its.toArray.size) = _
    rw [if_neg (by omega), Int.toNat_natCast, List.size_toArray, show min k its.length = k by omega]
    exact insAt its k u2
  · rw [List.length_append, List.length_cons, List.length_take, List.length_drop]; omega
end
end L2
namespace L2
open PySem PySem.Spec PyProof.Rows
theorem excMatches_no {M : Model} {A : Around} {E : Value → Shared → Prop} {h : Heap} {g : Array GenState} {d : Drawn} {t : Nat} {os : OsState} {x C CB : Addr} {ox : Obj} {bm bm2 : List Value} {Q : Bool → Shared → Prop} (hC : IsExcCls h C bm) (hB : IsExcCls h CB bm2) (hx : h.get? x = some ox) (hxc : ox.cls = .ref C)
    (hm : (Value.ref C :: bm).contains (.ref CB) = false) (hq : Q false ⟨h, g, d, t, os⟩) : wpAny M A (excMatches (.ref x) (.ref CB)) Q E ⟨h, g, d, t, os⟩ := by
  obtain ⟨N, nm, q, bs, hdct, sn, sub, ab, col, dd, k0, k1, k2, k3, k5, newId, hC, hb⟩ := hC
  obtain ⟨N', nm', q', bs', hdct', sn', sub', ab', col', dd', k0', k1', k2', k3', k5', newId', hB, hb'⟩ := hB
  have hcB : (Value.ref CB :: bm2).contains (.type "BaseException") = true := by rw [List.contains_cons, hb', Bool.or_true]
  have f := tc_notTuple
  unfold excMatches
  repeat (first | (with_reducible refine wpAny_loadPart_at hx ?_; rw [hxc]) | with_reducible refine wpAny_loadPart_at hB ?_ | (with_reducible refine wpAny_isSubtype_exc hB ?_; rw [hcB]) | (with_reducible refine wpAny_isSubtype_exc hC ?_; rw [hm]) | wp_step)
  exact hq
def pTry3 (C1 C2 : Addr) (i : Nat) (t2 t3 : TS) (D : Ends) : St → Value → Hp → Prop := fun σ1 Cv H' =>
  (Cv = .ref C1 ∧ ∀ x, H' x = none → t2 { nx := fun σ3 H3 => D.nx ((σ3.set i (some .non)).set i none) H3, rt := fun _ _ => False } (σ1.set i (some (.ref x))) (upd H' x (excIs x (.ref C1)))) ∨
  (Cv = .ref C2 ∧ ∀ x, H' x = none → t3 { nx := fun σ3 H3 => D.nx ((σ3.set i (some .non)).set i none) H3, rt := fun _ _ => False } (σ1.set i (some (.ref x))) (upd H' x (excIs x (.ref C2))))
def tTry3 (C1 C2 : Addr) (i : Nat) (tb : (St → Value → Hp → Prop) → TS) (t2 t3 : TS) : TS := fun D σ H => tb (pTry3 C1 C2 i t2 t3 D) D σ H
theorem ps_try3 {X : Cx} {n xa xb : Str} {tb : (St → Value → Hp → Prop) → TS} {t2 t3 : TS} {C1 C2 : Addr} {i : Nat} {es : List (Str × Pos × Addr)} {body : List Stmt} {b1 b2 b3 : Stmt} {bs1 bs2 bs3 : List Stmt} {tpos pos1 np pos2 np3 pos3 pos : Pos} {kk : Nat} {bm1 bm2 : List Value} {id1 id2 : String}
    (hst : X.stack = X.env :: X.outer) (hfr : X.env.frame = some X.env.locals) (hN : X.N.Nodup) (hi : X.N[i]? = some n) (hl : X.env.scope.names.lookup n = some .local) (hkl : X.env.kindOf n = some .local)
    (hes : ∀ e ∈ es, (Gl X e.1 ∧ X.mg e.1 = some (.ref e.2.2) ∧ (e.1 == ("__debug__" : Str)) = false) ∧ (∃ bm id, PySem.W.excIn X.K e.2.2 bm id = true ∧ bm.contains (.type "BaseException") = true) ∧ PySem.W.mroIn X.K C1 (.ref e.2.2) = some false ∧ PySem.W.mroIn X.K C2 (.ref e.2.2) = some false) (hel : es.length ≤ 100)
    (hq1 : PySem.W.excIn X.K C1 bm1 id1 = true) (hb1 : bm1.contains (.type "BaseException") = true) (hg1 : Gl X xa) (hm1 : X.mg xa = some (.ref C1))
    (hq2 : PySem.W.excIn X.K C2 bm2 id2 = true) (hb2' : bm2.contains (.type "BaseException") = true) (hg2 : Gl X xb) (hm2 : X.mg xb = some (.ref C2)) (h21 : PySem.W.mroIn X.K C2 (.ref C1) = some false)
    (hb : ∀ (pn : List (Addr × Obj)) (xe : Value → Shared → Prop) (G : St → Value → Hp → Prop), PassesG ((X.pinned pn).wish xe) G → PSs ((X.pinned pn).wish xe) body (tb G)) (hb2 : ∀ x, PSs (X.inX x) (b2 :: bs2) t2) (hb3 : ∀ x, PSs (X.inX x) (b3 :: bs3) t3)
    (hda : (xa == ("__debug__" : Str)) = false := by decide) (hdb : (xb == ("__debug__" : Str)) = false := by decide) :
    PS X.nox (.Try body [.ExceptHandler (some (.Tuple (es.map fun e => Expr.Name e.1 e.2.1) kk tpos)) none (b1 :: bs1) pos1, .ExceptHandler (some (.Name xa np)) (some n) (b2 :: bs2) pos2, .ExceptHandler (some (.Name xb np3)) (some n) (b3 :: bs3) pos3] [] [] pos) (tTry3 C1 C2 i tb t2 t3) := by
  intro pins s σ H D I h
  have I0 : Inv X pins σ H s := I.unwish
  refine wpAny_Try_except (wpAny_mono (hb (X.pn ++ pins) (fun e s' => ∃ (pins1 : List (Addr × Obj)) (σ1 : St) (H1 : Hp) (s1 : Shared), Inv (X.pinned (X.pn ++ pins)) pins1 σ1 H1 s1 ∧ CXE X.prog X.w X.stack H1 s1 (fun Cv _ H' => pTry3 C1 C2 i t2 t3 D σ1 Cv H') e s') _ (fun pins1 σ1 H1 s1 e s' I1 z => ⟨pins1, σ1, H1, s1, I1.unwish, z⟩) [] s σ H D (I0.intoPn.wish _) h) (fun fl s1 x => ?_) fun e s' x => ?_)
  · cases fl with
    | next =>
      obtain ⟨σ', H', I', q⟩ := x
      exact wpAny_execs_nil ⟨σ', H', I'.unwish.outPn.wish _, q⟩
    | brk =>
      obtain ⟨σ', H', I', q⟩ := x
      exact ⟨σ', H', I'.unwish.outPn.wish _, q⟩
    | cont =>
      obtain ⟨σ', H', I', q⟩ := x
      exact ⟨σ', H', I'.unwish.outPn.wish _, q⟩
    | ret u =>
      obtain ⟨v, σ', H', I', r, q⟩ := x
      exact ⟨v, σ', H', I'.unwish.outPn.wish _, r, q⟩
  · obtain ⟨pins1, σ1, H1, s1, I1', x, Cv, a0, H', B, rfl, os, bare, fl, st, xn', xh, qq⟩ := x
    have I1 : Inv X pins σ1 H1 s1 := I1'.outPn
    have hh : X.nox.calm = true → X.nox.A.handled = none := I.ok.hd
    have hfs : X.A.frames = some (X.env :: X.outer) := by rw [← hst]; exact I.ok.frames
    obtain ⟨C, rfl, hCC⟩ : ∃ C : Addr, Cv = .ref C ∧ ((C = C1 ∧ ∀ x, H' x = none → t2 { nx := fun σ3 H3 => D.nx ((σ3.set i (some .non)).set i none) H3, rt := fun _ _ => False } (σ1.set i (some (.ref x))) (upd H' x (excIs x (.ref C)))) ∨ (C = C2 ∧ ∀ x, H' x = none → t3 { nx := fun σ3 H3 => D.nx ((σ3.set i (some .non)).set i none) H3, rt := fun _ _ => False } (σ1.set i (some (.ref x))) (upd H' x (excIs x (.ref C))))) := by
      rcases qq with ⟨e, z⟩ | ⟨e, z⟩
      · exact ⟨C1, e, .inl ⟨rfl, z⟩⟩
      · exact ⟨C2, e, .inr ⟨rfl, z⟩⟩
    clear qq
    have fl' : Heap.FlyingW B (X.env :: X.outer) x (.ref C) a0 s'.heap := by rw [← hst]; exact fl
    have hno : ∀ e ∈ es, PySem.W.mroIn X.K C (.ref e.2.2) = some false := fun e he => by
      rcases hCC with ⟨rfl, _⟩ | ⟨rfl, _⟩
      · exact (hes e he).2.2.1
      · exact (hes e he).2.2.2
    obtain ⟨bmB, newId, hq, hbase⟩ : ∃ bmB newId, PySem.W.excIn X.K C bmB newId = true ∧ bmB.contains (.type "BaseException") = true := by
      rcases hCC with ⟨rfl, _⟩ | ⟨rfl, _⟩
      · exact ⟨_, _, hq1, hb1⟩
      · exact ⟨_, _, hq2, hb2'⟩
    refine wpAny_looks_onW hfs hfr fl' fun h₄ held up4 => wpAny_landsW held fun h₅ fl5 up5 => ?_
    have u05 := up4.trans up5
    obtain ⟨un5, ok5⟩ := st h₅ fl5.1 u05
    have I5 : Inv X pins σ1 H' { s' with heap := h₅ } := I1.call' (ch := []) os un5 ok5 bare (fun b z => absurd z (by simp))
    refine wpAny_handleBy_cons (codeAny_handlers_test (Tuple_ (names_spliced (X := X) rfl I5 es (fun e he => (hes e he).1) ?_))) (by intro q; cases q)
    refine wpAny_newTuple ?_
    have fl6 := flying_push fl5 { cls := .type "tuple", data := .seq (es.map fun e => Value.ref e.2.2).toArray }
    obtain ⟨ob, hob, hobc⟩ := fl6.there
    have kin6 : X.K.In (h₅.push { cls := .type "tuple", data := .seq (es.map fun e => Value.ref e.2.2).toArray }) := I5.kIn.keeps fun b o e => Heap.get?_push_of_some _ e
    obtain ⟨bm, N', nm, qn, bs, hdct, sn, sub, ab, col, dd, k0, k1, k2, k3, k5, mN, hC, hNs, hni, TL, mro⟩ := own_obj kin6 hq
    refine excMatches_tup (cs := es.map fun e => e.2.2) ⟨N', nm, qn, bs, hdct, sn, sub, ab, col, dd, k0, k1, k2, k3, k5, newId, hC, TL.hasType hbase⟩ hob hobc (by rw [List.map_map]; exact IsTup.new _ _) ?_ ?_ ?_
    · intro c hc
      obtain ⟨e, he', rfl⟩ := List.mem_map.mp hc
      obtain ⟨bm', id', hx1, hx2⟩ := (hes e he').2.1
      obtain ⟨bm2, N2, nm2, qn2, bs2', hd2, sn2, sub2, ab2, col2, dd2, j0, j1, j2, j3, j5, mN2, hC2, hN2, hni2, TL2, mro2⟩ := own_obj kin6 hx1
      exact ⟨bm2, N2, nm2, qn2, bs2', hd2, sn2, sub2, ab2, col2, dd2, j0, j1, j2, j3, j5, id', hC2, TL2.hasType hx2⟩
    · intro c hc
      obtain ⟨e, he', rfl⟩ := List.mem_map.mp hc
      exact mro _ _ (hno e he')
    show wpAny _ _ (handleBy _ _ _) _ _ _
    rcases hCC with ⟨rfl, q2⟩ | ⟨rfl, q2⟩
    · refine wpAny_handleBy_cons (codeAny_handlers_test (Calls.Name_function_global I.ok.kind hg1 (Calls.loadGlobal_global (by rw [I.ok.glob]; exact (I.ok.mod.glob.keeps fun b o e => Heap.get?_push_of_some _ (I5.bk b o e))) hm1 ?_) hda)) (by intro q; cases q)
      refine wpAny_excMatches_sub_self hC hob hobc (TL.hasType hbase) (codeAny_handlers_suite_as ?_)
      refine lands_againW fl6 fun h₇ fl7 up7 => ?_
      obtain ⟨un7, ok7⟩ := st h₇ fl7.1 (u05.trans ((Heap.UpToSlots.of_keeps fun b o e => Heap.get?_push_of_some _ e).trans up7))
      obtain ⟨ob7, hob7, hc7⟩ := fl7.there
      have I7 : Inv X.nox pins σ1 (upd H' x (excIs x (.ref C))) { s' with heap := h₇ } := caught_inv (I1.wish _) os bare un7 ok7 xn' xh hob7 hc7
      refine store_ok I7 hN hi (.inl hl) (v := .ref x) rfl (fun s8 I8 => ?_) (.inr hl)
      refine wpAny_mono (hb2 x pins s8 _ _ _ (I8.unwish.inX x) (q2 x xh)) (fun fl9 s9 x9 => ?_) fun _ _ z => False.elim z
      cases fl9 with
      | next =>
        obtain ⟨σ3, H3, I9, q9⟩ := x9
        have I9' : Inv X.nox pins σ3 H3 s9 := (Inv.outX (X := X) hh I9).wish _
        have hi3 : i < σ3.length := by rw [I9'.len]; exact (List.getElem?_eq_some_iff.mp hi).1
        refine wpAny_bind (wpAny_bindName (store_ok I9' hN hi (.inl hl) (v := .non) (u := .none) rfl (fun s10 I10 => ?_) (.inr hl)))
        unfold unbindBehindTheSuite
        exact wpAny_onRaise (unbind_ok I10 hN hi hkl hl (List.getElem?_set_self hi3) fun s11 I11 => ⟨_, _, I11, q9⟩)
      | ret u => obtain ⟨_, _, _, _, _, z⟩ := x9; exact False.elim z
      | brk => obtain ⟨_, _, _, z⟩ := x9; exact False.elim z
      | cont => obtain ⟨_, _, _, z⟩ := x9; exact False.elim z
    · obtain ⟨bm', N'', nm', qn', bs', hdct', sn', sub', ab', col', dd', k0', k1', k2', k3', k5', mN', hB', hNs', hni', TL', mro'⟩ := own_obj kin6 hq1
      refine wpAny_handleBy_cons (codeAny_handlers_test (Calls.Name_function_global I.ok.kind hg1 (Calls.loadGlobal_global (by rw [I.ok.glob]; exact (I.ok.mod.glob.keeps fun b o e => Heap.get?_push_of_some _ (I5.bk b o e))) hm1 ?_) hda)) (by intro q; cases q)
      refine excMatches_no ⟨N', nm, qn, bs, hdct, sn, sub, ab, col, dd, k0, k1, k2, k3, k5, newId, hC, TL.hasType hbase⟩ ⟨N'', nm', qn', bs', hdct', sn', sub', ab', col', dd', k0', k1', k2', k3', k5', _, hB', TL'.hasType hb1⟩ hob hobc (mro _ _ h21) ?_
      show wpAny _ _ (handleBy _ _ _) _ _ _
      refine wpAny_handleBy_cons (codeAny_handlers_test (Calls.Name_function_global I.ok.kind hg2 (Calls.loadGlobal_global (by rw [I.ok.glob]; exact (I.ok.mod.glob.keeps fun b o e => Heap.get?_push_of_some _ (I5.bk b o e))) hm2 ?_) hdb)) (by intro q; cases q)
      refine wpAny_excMatches_sub_self hC hob hobc (TL.hasType hbase) (codeAny_handlers_suite_as ?_)
      refine lands_againW fl6 fun h₇ fl7 up7 => ?_
      obtain ⟨un7, ok7⟩ := st h₇ fl7.1 (u05.trans ((Heap.UpToSlots.of_keeps fun b o e => Heap.get?_push_of_some _ e).trans up7))
      obtain ⟨ob7, hob7, hc7⟩ := fl7.there
      have I7 : Inv X.nox pins σ1 (upd H' x (excIs x (.ref C))) { s' with heap := h₇ } := caught_inv (I1.wish _) os bare un7 ok7 xn' xh hob7 hc7
      refine store_ok I7 hN hi (.inl hl) (v := .ref x) rfl (fun s8 I8 => ?_) (.inr hl)
      refine wpAny_mono (hb3 x pins s8 _ _ _ (I8.unwish.inX x) (q2 x xh)) (fun fl9 s9 x9 => ?_) fun _ _ z => False.elim z
      cases fl9 with
      | next =>
        obtain ⟨σ3, H3, I9, q9⟩ := x9
        have I9' : Inv X.nox pins σ3 H3 s9 := (Inv.outX (X := X) hh I9).wish _
        have hi3 : i < σ3.length := by rw [I9'.len]; exact (List.getElem?_eq_some_iff.mp hi).1
        refine wpAny_bind (wpAny_bindName (store_ok I9' hN hi (.inl hl) (v := .non) (u := .none) rfl (fun s10 I10 => ?_) (.inr hl)))
        unfold unbindBehindTheSuite
        exact wpAny_onRaise (unbind_ok I10 hN hi hkl hl (List.getElem?_set_self hi3) fun s11 I11 => ⟨_, _, I11, q9⟩)
      | ret u => obtain ⟨_, _, _, _, _, z⟩ := x9; exact False.elim z
      | brk => obtain ⟨_, _, _, z⟩ := x9; exact False.elim z
      | cont => obtain ⟨_, _, _, z⟩ := x9; exact False.elim z
end L2
namespace Bw
open PySem L2
open Builtin.Int (intBits)
def top (i : Nat) : Stmt := PySem.Challenge.pw_bellwrite_k88_no_peal_no_hearing.main.body.getD i (.Pass ⟨0, 0, 0, 0⟩)
abbrev st_choose : Stmt := top 1
abbrev st_top_from : Stmt := top 2
abbrev st_above_top : Stmt := top 3
abbrev st_rounded_up : Stmt := top 4
abbrev st_box_of : Stmt := top 15
abbrev st_bell_row : Stmt := top 16
abbrev st_heard_box : Stmt := top 17
abbrev st_box_count : Stmt := top 18
abbrev st_greatest_part : Stmt := top 19
abbrev st_box_number : Stmt := top 21
abbrev st_box_of_message : Stmt := top 22
abbrev st_written : Stmt := top 23
abbrev st_read : Stmt := top 24
abbrev st_belfry_count : Stmt := top 26
abbrev st_peal_written : Stmt := top 27
abbrev st_peal_read : Stmt := top 28
abbrev st__law_cell_at : Stmt := top 30
abbrev st__law_stir : Stmt := top 31
abbrev st__law_drawn : Stmt := top 32
abbrev st__law_count : Stmt := top 33
abbrev st__law_frame : Stmt := top 34
abbrev st__law_frames : Stmt := top 35
abbrev st__law_message : Stmt := top 36
abbrev st__law_kind : Stmt := top 37
abbrev st__law_late : Stmt := top 38
abbrev st__law_bad : Stmt := top 39
abbrev st__law_spoiled : Stmt := top 40
abbrev st_law : Stmt := top 41
structure Txt (K : PySem.W.Frag) (mg : Str → Option Value) : Prop where
  z_range : mg "range" = none
  z_isinstance : mg "isinstance" = none
  z_int : mg "int" = none
  z_bool : mg "bool" = none
  z_list : mg "list" = none
  z_len : mg "len" = none
  z_max : mg "max" = none
  z_min : mg "min" = none
  z_sorted : mg "sorted" = none
  z_sum : mg "sum" = none
  z_enumerate : mg "enumerate" = none
  z_ValueError : mg "ValueError" = none
def cellOf (ns : List Int) (k : Int) : Int := ns.getD k.toNat 0
def spCell (K : PySem.W.Frag) : Sp := fun vs H Q _ => ∃ (a : Addr) (ns : List Int) (k : Int), vs = [.ref a, .int k] ∧ SqL K H a (ns.map V.int) ∧ 0 ≤ k ∧ Q (.int (cellOf ns k)) H
structure RowL (row : List Int) : Prop where
  inc : row.Pairwise (· < ·)
  nn : ∀ x ∈ row, 0 ≤ x
  sz : ∀ x ∈ row, x < 2 ^ 200
theorem at_map {ns : List Int} {k : Nat} {x : Int} (h : ns[k]? = some x) : atI (ns.map V.int) (k : Int) = some (V.int x) := atI_nat (by rw [List.getElem?_map, h]; rfl)
def cutI (ns : List Int) (lo hi : Option Int) : List Int := (ns.drop (HT.sIx ns.length 0 lo)).take (HT.sIx ns.length ns.length hi - HT.sIx ns.length 0 lo)
theorem cut_map (ns : List Int) (lo hi : Option Int) : cutV (ns.map V.int) lo hi = (cutI ns lo hi).map V.int := by
  unfold cutV cutI
  rw [List.length_map, List.map_take, List.map_drop]
abbrev bmV : List Value := [.type "ValueError", .type "Exception", .type "BaseException", .type "object"]
theorem fnE_fn {P : Program} {w : World} {K : PySem.W.Frag} {mg : Str → Option Value} {base : Heap} {k : Nat} {x : Str} {ps : List Str} {sp : Sp} (F : FnE P w K mg base k x ps sp) : Fn P w K mg base k x ps (fun vs H Q _ => sp vs H Q E0) := by
  obtain ⟨f, fd, F, kp, b, m⟩ := F
  refine ⟨f, fd, ⟨fun vs H Q _ h => F.len vs H Q E0 h, fun A outer s H args us vs Q E hr e0 hb r h => codeAny_mono (F.run A outer s H args us vs Q E0 hr e0 hb r h) fun rr s' q => ?_⟩, kp, b, m⟩
  cases rr with
  | ok fl => cases fl <;> exact q
  | error e =>
    obtain ⟨_, _, _, _, _, _, _, _, _, _, _, _, z⟩ := q
    exact False.elim z
section
variable {P : Program} {w : World} {K : PySem.W.Frag} {mg : Str → Option Value} {base : Heap}
theorem sc__law_cell_at : FnScope ["script", "k"] ["script", "k"] (defScope st__law_cell_at) := ⟨rfl, rfl, rfl, by decide +kernel, rfl, by decide +kernel, by decide +kernel⟩
theorem ok_cell_at (D : Def K mg "_law_cell_at" st__law_cell_at ["script", "k"]) (T : Txt K mg) : Fn P w K mg base 1 "_law_cell_at" ["script", "k"] (spCell K) := by
  refine D.fn sc__law_cell_at (fun vs H Q E h => ?_) (fun f cdv A outer s H vs Q E hr h => ?_)
  · obtain ⟨n, k, c, rfl, _⟩ := h
    rfl
  · obtain ⟨a, ns, k, rfl, hS, k0, q⟩ := h
    refine ⟨_, (pss_cons (ps_if (pt_cmpR op_ltI (pv 1) (pe_callB call_len_seq (by rfl) T.z_len b_len (pa_cons (pv 0) pa_nil)) (nomark _))
        (pss_one (ps_ret (pe_ix ix_list (pv 0) (pv 1) (fun _ _ => rfl))))
        pss_nil)
      (pss_one (ps_ret pe_int))), ?_⟩
    refine ⟨_, rfl, _, rfl, _, _, rfl, .inl hS, _, _, rfl, rfl, _, rfl, ?_⟩
    rw [List.length_map]
    refine ifD (fun h => ?_) (fun h => ?_)
    · have hk : k.toNat < ns.length := by omega
      have e : atI (ns.map V.int) k = some (V.int (cellOf ns k)) := by
        have := at_map (ns := ns) (k := k.toNat) (x := cellOf ns k) (by unfold cellOf; rw [List.getD_eq_getElem?_getD, List.getElem?_eq_getElem hk]; rfl)
        rwa [show ((k.toNat : Nat) : Int) = k by omega] at this
      exact ⟨_, rfl, _, rfl, _, _, _, _, rfl, rfl, hS, e, q⟩
    · have e : cellOf ns k = 0 := by
        unfold cellOf
        rw [List.getD_eq_getElem?_getD, List.getElem?_eq_none (by omega)]
        rfl
      rw [e] at q
      exact q
end
section
def spLaw (K : PySem.W.Frag) : Sp := fun vs H Q _ => ∃ (a : Addr) (ns : List Int), vs = [.ref a] ∧ SqL K H a (ns.map V.int) ∧ ns.length ≤ 63 ∧ ∀ H', Q (.bl true) H'
end
section
variable {P : Program} {w : World} {K : PySem.W.Frag} {mg : Str → Option Value} {base : Heap}
theorem sc__law_stir : FnScope ["cell", "k", "number"] ["cell", "k"] (defScope st__law_stir) := ⟨rfl, rfl, rfl, by decide +kernel, rfl, by decide +kernel, by decide +kernel⟩
theorem ok_stir (D : Def K mg "_law_stir" st__law_stir ["cell", "k"]) : Fn P w K mg base 1 "_law_stir" ["cell", "k"] spStir := by
  refine D.fn sc__law_stir (fun vs H Q E h => ?_) (fun f cdv A outer s H vs Q E hr h => ?_)
  · obtain ⟨n, k, rfl, _⟩ := h
    rfl
  · obtain ⟨c, k, rfl, hk, hk2, q⟩ := h
    refine ⟨_, (pss_cons (ps_set (i := 2) sc__law_stir.nd rfl (Or.inl rfl) (pe_op op_addI (pe_op op_addI (pe_op op_mulB (pe_op op_modB (pv 0) (pe_op op_powB pe_int pe_int)) pe_int) (pe_op op_mulB (pe_op op_mulB (pe_op op_powB pe_int pe_int) (pe_op op_addI (pv 1) pe_int)) (pe_op op_addI (pv 1) pe_int))) (pv 1)))
      (pss_cons (ps_set (i := 2) sc__law_stir.nd rfl (Or.inl rfl) (pe_op op_addI (pe_op op_mulB (pv 2) (pv 2)) (pe_op op_mulB pe_int (pv 2))))
      (pss_one (ps_ret (pe_op op_fdivB (pe_op op_modB (pe_op op_mulB (pv 2) (pv 2)) (pe_op op_addI (pe_op op_powB pe_int pe_int) pe_int)) pe_int))))), ?_⟩
    obtain ⟨a0, a1⟩ := bits_stirA (c := c) hk hk2
    have b1 := bits_stirB a1
    have k1 : intBits (k + 1) ≤ 64 := bits_of (by omega) (by omega)
    have r1 : intBits (c % 10 ^ (40 : Int).toNat) ≤ 133 := bits_of (Int.emod_nonneg _ (by decide)) (Int.lt_trans (Int.emod_lt_of_pos _ (by decide)) (by decide))
    have p1 : intBits ((3 : Int) ^ (60 : Int).toNat) ≤ 96 := by decide +kernel
    refine ⟨_, rfl, _, _, rfl, rfl, ⟨by decide, by decide, by decide⟩, _, _, rfl, rfl, (by decide), _, _, rfl, rfl, ⟨133, 64, r1, by decide +kernel, by decide⟩,
      _, _, rfl, rfl, ⟨by decide, by decide, by decide⟩, _, rfl, _, _, rfl, rfl, _, _, rfl, rfl, ⟨96, 64, p1, k1, by decide⟩, _, rfl, _, _, rfl, rfl, _, _, rfl, rfl, ⟨160, 64, intBits_mul_le p1 k1, k1, by decide⟩,
      _, _, rfl, rfl, _, rfl, _, _, rfl, rfl, ?_⟩
    refine ⟨_, rfl, _, rfl, _, _, rfl, rfl, ⟨200, 200, a1, a1, by decide⟩, _, rfl, _, _, rfl, rfl, ⟨64, 200, by decide +kernel, a1, by decide⟩, _, _, rfl, rfl, ?_⟩
    refine ⟨_, rfl, _, rfl, _, _, rfl, rfl, ⟨402, 402, b1, b1, by decide⟩, _, _, rfl, rfl, ⟨by decide, by decide, by decide⟩, _, _, rfl, rfl, _, _, rfl, rfl, (by decide), _, _, rfl, rfl, ⟨by decide, by decide +kernel⟩, ?_⟩
    exact q
end
theorem bits_div {a b : Int} {m : Nat} (h : intBits a ≤ m) (hb : 0 < b) : intBits (a / b) ≤ m := by
  refine intBits_le_of_natAbs (y := a) ?_ h
  rcases (by omega : 0 ≤ a ∨ a < 0) with z | z
  · have h1 := Int.ediv_nonneg z (by omega : 0 ≤ b)
    have h2 := Int.ediv_le_self b z
    omega
  · have h1 := Int.ediv_neg_of_neg_of_pos z hb
    have h2 : a ≤ a / b := by
      refine (Int.le_ediv_iff_mul_le hb).mpr ?_
      have := Int.mul_le_mul_of_nonpos_left (a := a) (b := b) (c := 1) (by omega) (by omega)
      omega
    omega
section
variable {P : Program} {w : World} {K : PySem.W.Frag} {mg : Str → Option Value} {base : Heap}
theorem sc_choose : FnScope ["n", "k", "ways", "taken"] ["n", "k"] (defScope st_choose) := ⟨rfl, rfl, rfl, by decide +kernel, rfl, by decide +kernel, by decide +kernel⟩
theorem ok_choose (D : Def K mg "choose" st_choose ["n", "k"]) (T : Txt K mg) : Fn P w K mg base 1 "choose" ["n", "k"] spChoose := by
  refine D.fn sc_choose (fun vs H Q E h => ?_) (fun f cdv A outer s H vs Q E hr h => ?_)
  · obtain ⟨n, k, rfl, _⟩ := h
    rfl
  · obtain ⟨n, k, rfl, hn, hk, hk2, hb, q⟩ := h
    refine ⟨_, (pss_cons (ps_if (pt_cmpR op_gtI (pv 1) (pv 0) (nomark _))
        (pss_one (ps_ret pe_int))
        pss_nil)
      (pss_cons (ps_set (i := 2) sc_choose.nd rfl (Or.inl rfl) pe_int)
      (pss_cons (ps_for PassesOwn.never rfl (pi_range1 (by rfl) T.z_range (pa_cons (pv 1) pa_nil)) (pg_name (i := 3) sc_choose.nd rfl (Or.inl rfl))
        (pss_one (ps_set (i := 2) sc_choose.nd rfl (Or.inl rfl) (pe_op op_fdivB (pe_op op_mulB (pv 2) (pe_op op_subI (pv 0) (pv 3))) (pe_op op_addI (pv 3) pe_int)))))
      (pss_one (ps_ret (pv 2)))))), ?_⟩
    refine ⟨_, rfl, _, rfl, _, _, rfl, rfl, _, rfl, ?_⟩
    refine ite2 (fun h => ?_) (fun h => ?_)
    · have h' : n < k := of_decide_eq_true h
      have e := ch_above hn h'
      rw [e] at q
      exact q
    · have h' : ¬ n < k := fun z => h (decide_eq_true z)
      refine ⟨_, rfl, k, rfl, by omega, by omega, for_range (n := k.toNat) (fun i σ H' => ∃ v, σ = [some (.int n), some (.int k), some (.int (ch n i)), v] ∧ H' = H) ⟨none, ?_, rfl⟩ ?_ ?_⟩
      · have e := ch_zero n
        show _ = [some (V.int n), some (V.int k), some (V.int (ch n 0)), none]
        rw [e]
        rfl
      · rintro i σ H' hi ⟨v, rfl, rfl⟩
        have hi' : (i : Int) < k := by omega
        refine ⟨_, rfl, _, rfl, _, rfl, _, _, rfl, rfl, _, _, rfl, rfl, ?_, _, rfl, _, _, rfl, rfl, _, _, rfl, rfl, ?_, ?_⟩
        · refine ⟨100000 * i + 1, 100000, bits_ch hb hn, ?_, by omega⟩
          exact intBits_le_of_natAbs (by omega) hb
        · exact ⟨by omega, bits_of (by omega) (by omega)⟩
        · have e := ch_step (n := n) (i := i) (by omega)
          have e0 : (0 : Int) + (i : Int) = (i : Int) := by omega
          refine ⟨some (.int (0 + (i : Int))), ?_, rfl⟩
          rw [e0, e]
          rfl
      · rintro σ H' ⟨v, rfl, rfl⟩
        refine ⟨_, rfl, ?_⟩
        have e : ((k.toNat : Nat) : Int) = k := by omega
        rw [e]
        exact q
end
section
variable {P : Program} {w : World} {K : PySem.W.Frag} {mg : Str → Option Value} {base : Heap}
theorem sc_rounded_up : FnScope ["number", "divisor"] ["number", "divisor"] (defScope st_rounded_up) := ⟨rfl, rfl, rfl, by decide +kernel, rfl, by decide +kernel, by decide +kernel⟩
theorem ok_rounded_up (D : Def K mg "rounded_up" st_rounded_up ["number", "divisor"]) (hP : P.given.tree = none) : Fn P w K mg base 36 "rounded_up" ["number", "divisor"] spRound := by
  refine D.fn sc_rounded_up (fun vs H Q E h => ?_) (fun f cdv A outer s H vs Q E hr h => ?_)
  · obtain ⟨n, k, rfl, _⟩ := h
    rfl
  · obtain ⟨a, b, rfl, hb, q⟩ := h
    refine ⟨_, (pss_one (ps_ret (pe_op (op_fdivP (pyl_ok hP sc_rounded_up hr)) (pe_op op_subI (pe_op op_addI (pv 0) (pv 1)) pe_int) (pv 1)))), ?_⟩
    exact ⟨_, rfl, _, rfl, _, _, rfl, rfl, _, _, rfl, rfl, _, rfl, _, _, rfl, rfl, hb, q⟩
theorem sc_above_top : FnScope ["k", "number", "product", "factor", "figures"] ["k", "number"] (defScope st_above_top) := ⟨rfl, rfl, rfl, by decide +kernel, rfl, by decide +kernel, by decide +kernel⟩
theorem ok_above_top (D : Def K mg "above_top" st_above_top ["k", "number"]) (T : Txt K mg) (G_rounded_up : Fn P w K mg base 36 "rounded_up" ["number", "divisor"] spRound) : Fn P w K mg base 37 "above_top" ["k", "number"] spAbove := by
  refine D.fn sc_above_top (fun vs H Q E h => ?_) (fun f cdv A outer s H vs Q E hr h => ?_)
  · obtain ⟨n, k, rfl, _⟩ := h
    rfl
  · obtain ⟨k, number, rfl, k1, k60, n0, nb, q⟩ := h
    refine ⟨_, (pss_cons (ps_set (i := 2) sc_above_top.nd rfl (Or.inl rfl) (pv 1))
      (pss_cons (ps_for PassesOwn.never rfl (pi_range2 (by rfl) T.z_range (pa_cons pe_int (pa_cons (pe_op op_addI (pv 0) pe_int) pa_nil))) (pg_name (i := 3) sc_above_top.nd rfl (Or.inl rfl))
        (pss_one (ps_set (i := 2) sc_above_top.nd rfl (Or.inl rfl) (pe_op op_mulB (pv 2) (pv 3)))))
      (pss_cons (ps_set (i := 4) sc_above_top.nd rfl (Or.inl rfl) (pe_fn G_rounded_up (hr.mono (by decide)) (by rfl) (pa_cons (pe_bm0 PySem.F.plainAttrs_int PySem.F.slot_int_bit_length PySem.F.type_int_bit_length mt_bit_length (pv 2)) (pa_cons (pv 0) pa_nil))))
      (pss_one (ps_ret (pe_op op_subI (pe_op op_addI (pe_op op_shlB pe_int (pv 4)) (pv 0)) pe_int)))))), ?_⟩
    have ek : ((k.toNat : Nat) : Int) = k := by omega
    have pb : ∀ i : Nat, (i : Int) ≤ 60 → intBits (number * fac i) ≤ 50000 + (7 * i + 1) := fun i hi => intBits_mul_le nb (bits_fac i (by omega))
    refine ⟨_, rfl, _, rfl, _, _, rfl, rfl, 1, k + 1, rfl, ⟨by omega, by omega, by omega, by omega⟩, for_range (lo := 1) (n := (k + 1 - 1).toNat) (fun i σ H2 => ∃ v, σ = [some (.int k), some (.int number), some (.int (number * fac i)), v, none] ∧ H2 = H) ⟨none, ?_, rfl⟩ ?_ ?_⟩
    · show _ = [some (V.int k), some (V.int number), some (V.int (number * 1)), none, none]
      rw [Int.mul_one]
      rfl
    · rintro i σ H2 hi ⟨v, rfl, rfl⟩
      have hi' : (i : Int) < k := by omega
      refine ⟨_, rfl, _, rfl, _, _, rfl, rfl, ⟨_, 64, pb i (by omega), bits_of (by omega) (by omega), by omega⟩, some (.int (1 + (i : Int))), ?_, rfl⟩
      rw [fac_succ, ← Int.mul_assoc, Int.add_comm (i : Int) 1]
      rfl
    · rintro σ H2 ⟨v, rfl, rfl⟩
      have en : (k + 1 - 1).toNat = k.toNat := by omega
      rw [en]
      have pk := pb k.toNat (by omega)
      have hsz := intBits_le_iff.mp (Nat.le_refl (intBits (number * fac k.toNat)))
      refine ⟨_, rfl, rfl, _, rfl, rfl, _, rfl, _, _, rfl, by omega, ?_⟩
      generalize hbn : intBits (number * fac k.toNat) = b at pk hsz ⊢
      have d1 := Int.mul_ediv_add_emod ((b : Int) + k - 1) k
      have d2 := Int.emod_nonneg ((b : Int) + k - 1) (show k ≠ 0 by omega)
      have d3 := Int.emod_lt_of_pos ((b : Int) + k - 1) (show 0 < k by omega)
      have f0 : 0 ≤ ((b : Int) + k - 1) / k := Int.ediv_nonneg (by omega) (by omega)
      have f1 : ((b : Int) + k - 1) / k ≤ (b : Int) + k - 1 := Int.ediv_le_self _ (by omega)
      generalize ((b : Int) + k - 1) / k = fg at d1 f0 f1 ⊢
      generalize ((b : Int) + k - 1) % k = r at d1 d2 d3
      refine ⟨_, rfl, _, _, rfl, rfl, ⟨f0, by omega, by decide⟩, _, rfl, _, _, rfl, rfl, _, _, rfl, rfl, ?_⟩
      have ef : ((fg.toNat : Nat) : Int) = fg := by omega
      have hp : (0 : Int) < 2 ^ fg.toNat := Int.pow_pos (by decide)
      have ab := aboveI (F := fg.toNat) (b := b) k1 n0 hsz (by rw [ef, Int.mul_comm]; omega)
      have e1 : (1 : Int) * 2 ^ fg.toNat = 2 ^ fg.toNat := Int.one_mul _
      rw [e1]
      refine q _ (by omega) ab ?_
      have hb2 : intBits ((2 : Int) ^ fg.toNat) ≤ fg.toNat + 1 := by
        refine intBits_le_iff.mpr ?_
        rw [Int.natAbs_pow]
        exact Nat.pow_lt_pow_right (by decide) (by omega)
      refine bits_mono (intBits_sub_le (m := 50600) (n := 64) (bits_mono (intBits_add_le (m := 50599) (n := 64) (bits_mono hb2 (by omega)) (bits_of (by omega) (by omega))) (by decide)) (by decide)) (by decide)
theorem C_absorb (n k : Nat) : (k + 1) * C (n + 1) (k + 1) = (n + 1) * C n k := by
  have h := C_step n k
  rw [C_succ, Nat.mul_add, Nat.add_mul, Nat.add_mul, Nat.one_mul, Nat.one_mul, Nat.add_mul n 1, Nat.one_mul]
  rw [Nat.add_mul] at h
  omega
theorem ch_absorb {t k : Int} (hk : 1 ≤ k) (ht : 1 ≤ t) : ch t k * k / t = ch (t - 1) (k - 1) := by
  obtain ⟨j, hj⟩ : ∃ j : Nat, k = (j : Int) + 1 := ⟨(k - 1).toNat, by omega⟩
  obtain ⟨m, hm⟩ : ∃ m : Nat, t = (m : Int) + 1 := ⟨(t - 1).toNat, by omega⟩
  subst hj hm
  have e1 : ch ((m : Int) + 1) ((j : Int) + 1) = (C (m + 1) (j + 1) : Nat) := by
    rw [show ((m : Int) + 1) = ((m + 1 : Nat) : Int) by omega, show ((j : Int) + 1) = ((j + 1 : Nat) : Int) by omega, ch_nat]
  have e2 : ch ((m : Int) + 1 - 1) ((j : Int) + 1 - 1) = (C m j : Nat) := by
    rw [show ((m : Int) + 1 - 1) = ((m : Nat) : Int) by omega, show ((j : Int) + 1 - 1) = ((j : Nat) : Int) by omega, ch_nat]
  rw [e1, e2]
  have a := C_absorb m j
  have a' : ((C (m + 1) (j + 1) : Nat) : Int) * ((j : Int) + 1) = ((m : Int) + 1) * ((C m j : Nat) : Int) := by
    rw [Int.mul_comm]
    exact_mod_cast a
  rw [a']
  exact Int.mul_ediv_cancel_left _ (by omega)
def spTopFrom : Sp := fun vs H Q _ => ∃ start k number : Int, vs = [.int start, .int k, .int number] ∧ 1 ≤ k ∧ k ≤ 60 ∧ 0 ≤ number ∧ k - 1 ≤ start ∧ number < ch (start + 1) k ∧ intBits start ≤ 60000 ∧ ∀ t : Int, IsTop k number t → intBits t ≤ 60000 → Q (.int t) H
theorem sc_top_from : FnScope ["start", "k", "number", "top", "ways", "most_off", "step"] ["start", "k", "number"] (defScope st_top_from) := ⟨rfl, rfl, rfl, by decide +kernel, rfl, by decide +kernel, by decide +kernel⟩
theorem ok_top_from (D : Def K mg "top_from" st_top_from ["start", "k", "number"]) (G_choose : Fn P w K mg base 1 "choose" ["n", "k"] spChoose) (G_rounded_up : Fn P w K mg base 36 "rounded_up" ["number", "divisor"] spRound) (hP : P.given.tree = none) :
    Fn P w K mg base 37 "top_from" ["start", "k", "number"] spTopFrom := by
  refine D.fn sc_top_from (fun vs H Q E h => ?_) (fun f cdv A outer s H vs Q E hr h => ?_)
  · obtain ⟨a, n, k, rfl, _⟩ := h
    rfl
  · obtain ⟨t0, k, number, rfl, k1, k60, n0, t1, t2, t3, q⟩ := h
    refine ⟨_, (pss_cons (ps_set (i := 3) sc_top_from.nd rfl (Or.inl rfl) (pv 0))
      (pss_cons (ps_set (i := 4) sc_top_from.nd rfl (Or.inl rfl) (pe_fn G_choose (hr.mono (by decide)) (by rfl) (pa_cons (pv 3) (pa_cons (pv 1) pa_nil))))
      (pss_cons (ps_while PassesOwn.never (pt_cmpR op_gtI (pv 4) (pv 2) (nomark _))
        (pss_cons (ps_set (i := 5) sc_top_from.nd rfl (Or.inl rfl) (pe_op (op_fdivP (pyl_ok hP sc_top_from (hr.mono (by decide)))) (pe_op op_mulB (pv 4) (pv 1)) (pv 3)))
        (pss_cons (ps_set (i := 6) sc_top_from.nd rfl (Or.inl rfl) (pe_fn G_rounded_up (hr.mono (by decide)) (by rfl) (pa_cons (pe_op op_subI (pv 4) (pv 2)) (pa_cons (pv 5) pa_nil))))
        (pss_cons (ps_set (i := 3) sc_top_from.nd rfl (Or.inl rfl) (pe_op op_subI (pv 3) (pv 6)))
        (pss_one (ps_set (i := 4) sc_top_from.nd rfl (Or.inl rfl) (pe_ifExp (pt_cmpR op_eqI (pv 6) pe_int (nomark _)) (pe_op op_subI (pv 4) (pv 5)) (pe_fn G_choose (hr.mono (by decide)) (by rfl) (pa_cons (pv 3) (pa_cons (pv 1) pa_nil))))))))))
      (pss_one (ps_ret (pv 3)))))), ?_⟩
    refine ⟨_, rfl, _, rfl, _, rfl, t0, k, rfl, by omega, by omega, by omega, bits_mono t3 (by decide), ?_⟩
    refine while_by (fun σ H2 => ∃ t v v', σ = [some (.int t0), some (.int k), some (.int number), some (.int t), some (.int (ch t k)), v, v'] ∧ H2 = H ∧ k - 1 ≤ t ∧ number < ch (t + 1) k ∧ intBits t ≤ 60000)
      (fun σ _ => match σ with | [_, _, _, some (.int t), _, _, _] => t.toNat | _ => 0) ⟨t0, none, none, rfl, rfl, t1, t2, t3⟩ ?_ ?_
    · rintro σ H2 ⟨t, v, v', rfl, rfl, u1, u2, u3⟩
      refine ⟨_, rfl, _, rfl, _, _, rfl, rfl, _, rfl, ifD (fun h => ?_) (fun h => ?_)⟩
      · obtain ⟨a1, a2, a3, a4, a5⟩ := step_downI k1 n0 (by omega) h _ rfl
        have wb : intBits (ch t k) ≤ 60000 * 60 + 1 := by
          have := bits_ch (k := k.toNat) u3 (by omega)
          rw [show ((k.toNat : Nat) : Int) = k by omega] at this
          exact bits_mono this (Nat.add_le_add_right (Nat.mul_le_mul_left _ (by omega)) _)
        refine ⟨_, rfl, _, rfl, _, _, rfl, rfl, ⟨_, 64, wb, bits_of (by omega) (by omega), by decide⟩, _, rfl, _, _, rfl, rfl, by omega, ?_⟩
        rw [ch_absorb k1 (by omega)]
        have sb : ch (t - 1) k = ch t k - ch (t - 1) (k - 1) := by
          have := ch_succ (n := t - 1) (k := k - 1) (by omega) (by omega)
          rw [show t - 1 + 1 = t by omega, show k - 1 + 1 = k by omega] at this
          omega
        refine ⟨_, rfl, _, rfl, _, _, rfl, rfl, _, rfl, ch t k - number, ch (t - 1) (k - 1), rfl, a2, ?_⟩
        generalize (ch t k - number + ch (t - 1) (k - 1) - 1) / ch (t - 1) (k - 1) = d at a3 a4 a5 ⊢
        have tb : intBits (t - d) ≤ 60000 := intBits_le_of_natAbs (y := t) (by omega) u3
        refine ⟨_, rfl, _, rfl, _, _, rfl, rfl, _, rfl, _, _, rfl, rfl, _, rfl, ifD (fun e => ?_) (fun e => ?_)⟩
        · subst e
          refine ⟨_, rfl, _, rfl, _, _, rfl, rfl, ⟨t - 1, _, _, by rw [sb]; rfl, rfl, a4, a5, tb⟩, ?_⟩
          show (t - 1).toNat < t.toNat
          omega
        · refine ⟨_, rfl, _, rfl, t - d, k, rfl, by omega, by omega, by omega, bits_mono tb (by decide), ?_⟩
          refine ⟨⟨t - d, _, _, rfl, rfl, a4, a5, tb⟩, ?_⟩
          show (t - d).toNat < t.toNat
          omega
      · refine ⟨_, rfl, q t ⟨u1, by omega, u2⟩ u3⟩
    · intro σ H2 R R' m h
      obtain ⟨v, e1, u, e2, i, j, e3, e4, b, e5, z⟩ := h
      exact ⟨v, e1, u, e2, i, j, e3, e4, b, e5, m _ _ z⟩
end
def Fits (ns ms : List Int) (late : Int) : Prop := ns.length = ms.length ∧ ∀ (i : Nat) (x y : Int), ns[i]? = some x → ms[i]? = some y → x ≤ y ∧ y ≤ x + late
def Al (l : Int) : List Int → List Int → Prop
  | [], [] => True
  | n :: ns, z :: zs => n ≤ z ∧ z ≤ n + l ∧ Al l ns zs
  | _, _ => False
theorem al_iff (l : Int) : ∀ ns zs, Al l ns zs ↔ Fits ns zs l
  | [], [] => ⟨fun _ => ⟨rfl, fun i x y h => by simp at h⟩, fun _ => trivial⟩
  | [], _ :: _ => ⟨fun h => h.elim, fun h => by have := h.1; simp at this⟩
  | _ :: _, [] => ⟨fun h => h.elim, fun h => by have := h.1; simp at this⟩
  | n :: ns, z :: zs => by
    have ih := al_iff l ns zs
    constructor
    · rintro ⟨h1, h2, h3⟩
      obtain ⟨e, f⟩ := ih.mp h3
      refine ⟨by simp [e], fun i x y hx hy => ?_⟩
      cases i with
      | zero =>
        simp only [List.getElem?_cons_zero, Option.some.injEq] at hx hy
        subst hx hy
        exact ⟨h1, h2⟩
      | succ i =>
        rw [List.getElem?_cons_succ] at hx hy
        exact f i x y hx hy
    · rintro ⟨e, f⟩
      have h0 := f 0 n z rfl rfl
      exact ⟨h0.1, h0.2, ih.mpr ⟨by simpa using e, fun i x y hx hy => f (i + 1) x y (by simpa using hx) (by simpa using hy)⟩⟩
theorem al_swap {l n z m : Int} (hm : m ≤ z) (hz : z ≤ n + l) : ∀ (ns zs : List Int), (∀ x ∈ ns, n ≤ x) → Al l ns zs → m ∈ zs → ∃ ws, Al l ns ws ∧ (z :: zs).Perm (m :: ws)
  | [], [], _, _, h => nomatch h
  | [], _ :: _, _, h, _ => h.elim
  | _ :: _, [], _, h, _ => h.elim
  | a :: ns, b :: zs, hn, ⟨h1, h2, h3⟩, h => by
    have ha := hn a (by simp)
    by_cases e : m = b
    · subst e
      exact ⟨z :: zs, ⟨by omega, by omega, h3⟩, .swap ..⟩
    · have h' : m ∈ zs := by
        rcases List.mem_cons.mp h with x | x
        · exact absurd x e
        · exact x
      obtain ⟨ws, w1, w2⟩ := al_swap hm hz ns zs (fun x hx => hn x (by simp [hx])) h3 h'
      exact ⟨b :: ws, ⟨h1, h2, w1⟩, ((List.Perm.swap b z zs).trans (w2.cons b)).trans (.swap ..)⟩
theorem al_low {l : Int} {n : Int} : ∀ {ns zs : List Int}, (∀ x ∈ ns, n ≤ x) → Al l ns zs → ∀ z ∈ zs, n ≤ z
  | [], [], _, _, _, h => nomatch h
  | [], _ :: _, _, h, _, _ => h.elim
  | _ :: _, [], _, h, _, _ => h.elim
  | a :: ns, b :: zs, hn, ⟨h1, _, h3⟩, z, hz => by
    have := hn a (by simp)
    rcases List.mem_cons.mp hz with e | e
    · omega
    · exact al_low (fun x hx => hn x (by simp [hx])) h3 z e
theorem al_sort {l : Int} : ∀ {ns zs ms : List Int}, ns.Pairwise (· ≤ ·) → Al l ns zs → ms.Perm zs → ms.Pairwise (· ≤ ·) → Al l ns ms
  | [], [], ms, _, _, p, _ => by rw [List.perm_nil.mp p]; trivial
  | [], _ :: _, _, _, h, _, _ => h.elim
  | _ :: _, [], _, _, h, _, _ => h.elim
  | n :: ns, z :: zs, ms, hs, ⟨h1, h2, h3⟩, p, q => by
    obtain ⟨hn, hs'⟩ := List.pairwise_cons.mp hs
    cases ms with
    | nil => exact absurd (List.nil_perm.mp p) (by simp)
    | cons m ms =>
      obtain ⟨hm, q'⟩ := List.pairwise_cons.mp q
      have mz : m ≤ z := by
        rcases List.mem_cons.mp (p.mem_iff.mpr (by simp : z ∈ z :: zs)) with e | e
        · omega
        · exact hm z e
      have mm : m ∈ z :: zs := p.mem_iff.mp (by simp)
      have nm : n ≤ m := by
        rcases List.mem_cons.mp mm with e | e
        · omega
        · exact al_low (fun x hx => hn x hx) h3 m e
      refine ⟨nm, by omega, ?_⟩
      rcases List.mem_cons.mp mm with e | e
      · subst e
        exact al_sort hs' h3 (List.Perm.cons_inv p) q'
      · obtain ⟨ws, w1, w2⟩ := al_swap mz h2 ns zs hn h3 e
        exact al_sort hs' w1 (List.Perm.cons_inv (p.trans w2)) q'
def boxL (late : Int) (ns : List Int) : List Int := (List.range ns.length).map fun i => (ns.getD i 0 - (i : Int)) / (late + 1)
def bellL (late : Int) (bs : List Int) : List Int := (List.range bs.length).map fun i => bs.getD i 0 * (late + 1) + (i : Int)
theorem boxL_length (late : Int) (ns : List Int) : (boxL late ns).length = ns.length := by unfold boxL; simp
theorem bellL_length (late : Int) (ns : List Int) : (bellL late ns).length = ns.length := by unfold bellL; simp
theorem boxL_get {late : Int} {ns : List Int} {i : Nat} {x : Int} (h : ns[i]? = some x) : (boxL late ns)[i]? = some ((x - (i : Int)) / (late + 1)) := by
  have hi := (List.getElem?_eq_some_iff.mp h).1
  unfold boxL
  rw [List.getElem?_map, List.getElem?_range hi]
  simp [List.getD_eq_getElem?_getD, h]
theorem bellL_get {late : Int} {ns : List Int} {i : Nat} {x : Int} (h : ns[i]? = some x) : (bellL late ns)[i]? = some (x * (late + 1) + (i : Int)) := by
  have hi := (List.getElem?_eq_some_iff.mp h).1
  unfold bellL
  rw [List.getElem?_map, List.getElem?_range hi]
  simp [List.getD_eq_getElem?_getD, h]
theorem boxL_get' {late : Int} {ns : List Int} {i : Nat} {y : Int} (h : (boxL late ns)[i]? = some y) : ∃ x, ns[i]? = some x ∧ y = (x - (i : Int)) / (late + 1) := by
  have hi := (List.getElem?_eq_some_iff.mp h).1
  rw [boxL_length] at hi
  have g := boxL_get (late := late) (List.getElem?_eq_getElem hi)
  rw [g] at h
  exact ⟨_, List.getElem?_eq_getElem hi, (Option.some.inj h).symm⟩
theorem bellL_get' {late : Int} {ns : List Int} {i : Nat} {y : Int} (h : (bellL late ns)[i]? = some y) : ∃ x, ns[i]? = some x ∧ y = x * (late + 1) + (i : Int) := by
  have hi := (List.getElem?_eq_some_iff.mp h).1
  rw [bellL_length] at hi
  have g := bellL_get (late := late) (List.getElem?_eq_getElem hi)
  rw [g] at h
  exact ⟨_, List.getElem?_eq_getElem hi, (Option.some.inj h).symm⟩
structure BoxL (bs : List Int) : Prop where
  inc : bs.Pairwise (· ≤ ·)
  nn : ∀ x ∈ bs, 0 ≤ x
  sz : ∀ x ∈ bs, x < 2 ^ 200
def Szs (m : Nat) (ns : List Int) : Prop := ∀ x ∈ ns, intBits x ≤ m
section
variable {P : Program} {w : World} {K : PySem.W.Frag} {mg : Str → Option Value} {base : Heap}
def spBoxOf (K : PySem.W.Frag) : Sp := fun vs H Q _ => ∃ (a : Addr) (ns : List Int) (late : Int), vs = [.ref a, .int late] ∧ SqL K H a (ns.map V.int) ∧ ns.length ≤ 1000 ∧ 0 ≤ late ∧ intBits late ≤ 8000 ∧
  ∀ (p : Addr) (H' : Hp), Same H H' → H p = none → H' p = some (.lst ((boxL late ns).map V.int)) → Q (.ref p) H'
end
section
variable {P : Program} {w : World} {K : PySem.W.Frag} {mg : Str → Option Value} {base : Heap}
theorem sc_box_of : FnScope ["row", "late"] ["row", "late"] (defScope st_box_of) := ⟨rfl, rfl, rfl, by decide +kernel, rfl, by decide +kernel, by decide +kernel⟩
theorem ok_box_of (D : Def K mg "box_of" st_box_of ["row", "late"]) (T : Txt K mg) : Fn P w K mg base 1 "box_of" ["row", "late"] (spBoxOf K) := by
  refine D.fn sc_box_of (fun vs H Q E h => ?_) (fun f cdv A outer s H vs Q E hr h => ?_)
  · obtain ⟨a, ns, late, rfl, _⟩ := h
    rfl
  · obtain ⟨a, ns, late, rfl, hA, hl, l0, lb, q⟩ := h
    refine ⟨_, (pss_one (ps_ret (pe_comp (own := ["place", "turn"]) (fr := ["late"]) (ix := [1]) rfl ⟨rfl, rfl, rfl, rfl, rfl, rfl⟩ (pi_enumL (by rfl) T.z_enumerate (pa_cons (pv 0) pa_nil)) (fun _ _ _ _ _ => (pg_tupK K (n := 2) rfl (pgs_cons (pg_name (i := 0) (show (["place", "turn", "late"] : List Str).Nodup by decide +kernel) rfl (Or.inl rfl)) (pgs_cons (pg_name (i := 1) (show (["place", "turn", "late"] : List Str).Nodup by decide +kernel) rfl (Or.inl rfl)) pgs_nil)))) (fun _ _ _ _ _ => pts_nil) (fun _ _ _ _ _ => (pe_op op_fdivB (pe_op op_subI (pv 1) (pv 0)) (pe_op op_addI (pv 2) pe_int)))))), ?_⟩
    have lb1 : intBits (late + 1) ≤ 9000 := bits_mono (intBits_add_le (m := 8000) (n := 1) lb (by decide)) (by decide)
    refine ⟨_, rfl, a, _, rfl, hA, fun acc hacc => comp_enumP (K := K) (a := a) (xs := ns.map V.int) (fun i => V.int ((ns.getD i 0 - (i : Int)) / (late + 1))) hA hacc ?_ ?_ ?_⟩
    · rw [List.length_map]; exact Nat.le_of_lt (small1000 hl)
    · intro i x t H2 R hx sm ht hR
      rw [List.getElem?_map] at hx
      obtain ⟨x', hx', rfl⟩ := Option.map_eq_some_iff.mp hx
      simp only [List.getD_eq_getElem?_getD, hx', Option.getD_some] at hR
      exact ⟨t, _, rfl, SqT.of ht, rfl, _, _, rfl, _, _, rfl, rfl, rfl, _, rfl, _, rfl, _, _, rfl, rfl, _, rfl, _, _, rfl, rfl, _, _, rfl, rfl, ⟨by omega, lb1⟩, hR⟩
    · intro H2 sm ha
      rw [List.length_map] at ha
      refine q acc H2 sm hacc ?_
      rw [ha]
      unfold boxL
      rw [List.map_map]
      rfl
end
section
variable {P : Program} {w : World} {K : PySem.W.Frag} {mg : Str → Option Value} {base : Heap}
def spBellRow (K : PySem.W.Frag) : Sp := fun vs H Q _ => ∃ (a : Addr) (ns : List Int) (late : Int), vs = [.ref a, .int late] ∧ SqL K H a (ns.map V.int) ∧ ns.length ≤ 1000 ∧ intBits late ≤ 8000 ∧ Szs 70000 ns ∧
  ∀ (p : Addr) (H' : Hp), Same H H' → H p = none → H' p = some (.lst ((bellL late ns).map V.int)) → Q (.ref p) H'
theorem sc_bell_row : FnScope ["box", "late"] ["box", "late"] (defScope st_bell_row) := ⟨rfl, rfl, rfl, by decide +kernel, rfl, by decide +kernel, by decide +kernel⟩
theorem ok_bell_row (D : Def K mg "bell_row" st_bell_row ["box", "late"]) (T : Txt K mg) : Fn P w K mg base 1 "bell_row" ["box", "late"] (spBellRow K) := by
  refine D.fn sc_bell_row (fun vs H Q E h => ?_) (fun f cdv A outer s H vs Q E hr h => ?_)
  · obtain ⟨a, ns, late, rfl, _⟩ := h
    rfl
  · obtain ⟨a, ns, late, rfl, hA, hl, lb, hz, q⟩ := h
    refine ⟨_, (pss_one (ps_ret (pe_comp (own := ["place", "part"]) (fr := ["late"]) (ix := [1]) rfl ⟨rfl, rfl, rfl, rfl, rfl, rfl⟩ (pi_enumL (by rfl) T.z_enumerate (pa_cons (pv 0) pa_nil)) (fun _ _ _ _ _ => (pg_tupK K (n := 2) rfl (pgs_cons (pg_name (i := 0) (show (["place", "part", "late"] : List Str).Nodup by decide +kernel) rfl (Or.inl rfl)) (pgs_cons (pg_name (i := 1) (show (["place", "part", "late"] : List Str).Nodup by decide +kernel) rfl (Or.inl rfl)) pgs_nil)))) (fun _ _ _ _ _ => pts_nil) (fun _ _ _ _ _ => (pe_op op_addI (pe_op op_mulB (pv 1) (pe_op op_addI (pv 2) pe_int)) (pv 0)))))), ?_⟩
    have lb1 : intBits (late + 1) ≤ 9000 := bits_mono (intBits_add_le (m := 8000) (n := 1) lb (by decide)) (by decide)
    refine ⟨_, rfl, a, _, rfl, hA, fun acc hacc => comp_enumP (K := K) (a := a) (xs := ns.map V.int) (fun i => V.int (ns.getD i 0 * (late + 1) + (i : Int))) hA hacc ?_ ?_ ?_⟩
    · rw [List.length_map]; exact Nat.le_of_lt (small1000 hl)
    · intro i x t H2 R hx sm ht hR
      rw [List.getElem?_map] at hx
      obtain ⟨x', hx', rfl⟩ := Option.map_eq_some_iff.mp hx
      simp only [List.getD_eq_getElem?_getD, hx', Option.getD_some] at hR
      exact ⟨t, _, rfl, SqT.of ht, rfl, _, _, rfl, _, _, rfl, rfl, rfl, _, rfl, _, rfl, _, _, rfl, rfl, _, _, rfl, rfl, ⟨70000, 9000, hz x' (List.mem_of_getElem? hx'), lb1, by decide⟩, _, rfl, _, _, rfl, rfl, hR⟩
    · intro H2 sm ha
      rw [List.length_map] at ha
      refine q acc H2 sm hacc ?_
      rw [ha]
      unfold bellL
      rw [List.map_map]
      rfl
end
def numTo (bs : List Int) : Nat → Int
  | 0 => 0
  | i + 1 => numTo bs i + ch (bs.getD i 0 + (i : Int)) ((i : Int) + 1)
def numB (bs : List Int) : Int := numTo bs bs.length
structure IsBox (bs : List Int) : Prop where
  inc : bs.Pairwise (· ≤ ·)
  nn : ∀ x ∈ bs, 0 ≤ x
theorem sum_map_range (f : Nat → Int) (n : Nat) : ((List.range (n + 1)).map f).sum = ((List.range n).map f).sum + f n := by
  rw [List.range_succ, List.map_append, List.sum_append]
  simp
theorem numTo_sum (bs : List Int) : ∀ n : Nat, numTo bs n = ((List.range n).map fun i => ch (bs.getD i 0 + (i : Int)) ((i : Int) + 1)).sum
  | 0 => rfl
  | n + 1 => by
    rw [sum_map_range, ← numTo_sum bs n]
    rfl
theorem IsBox.get {bs : List Int} (B : IsBox bs) {i j : Nat} {x y : Int} (h : i ≤ j) (hx : bs[i]? = some x) (hy : bs[j]? = some y) : x ≤ y := by
  obtain ⟨h1, e1⟩ := List.getElem?_eq_some_iff.mp hx
  obtain ⟨h2, e2⟩ := List.getElem?_eq_some_iff.mp hy
  rcases Nat.lt_or_eq_of_le h with z | z
  · have := List.pairwise_iff_getElem.mp B.inc i j h1 h2 z
    omega
  · subst z; omega
theorem IsBox.nn' {bs : List Int} (B : IsBox bs) {i : Nat} : 0 ≤ bs.getD i 0 := by
  rw [List.getD_eq_getElem?_getD]
  cases h : bs[i]? with
  | none => exact Int.le_refl _
  | some x => exact B.nn x (List.mem_of_getElem? h)
theorem IsBox.le' {bs : List Int} (B : IsBox bs) {i j : Nat} (h : i ≤ j) (hj : j < bs.length) : bs.getD i 0 ≤ bs.getD j 0 := by
  have hi : i < bs.length := by omega
  rw [List.getD_eq_getElem?_getD, List.getD_eq_getElem?_getD, List.getElem?_eq_getElem hi, List.getElem?_eq_getElem hj]
  exact B.get h (List.getElem?_eq_getElem hi) (List.getElem?_eq_getElem hj)
theorem numTo_nonneg (bs : List Int) : ∀ n, 0 ≤ numTo bs n
  | 0 => Int.le_refl _
  | n + 1 => by
    have := numTo_nonneg bs n
    have := ch_nonneg (bs.getD n 0 + (n : Int)) ((n : Int) + 1)
    show 0 ≤ numTo bs n + _
    omega
theorem numTo_lt {bs : List Int} (B : IsBox bs) : ∀ (i : Nat) (c : Int), i ≤ bs.length → 0 ≤ c → (∀ j, j < i → bs.getD j 0 ≤ c) → numTo bs i < ch (c + (i : Int)) (i : Int)
  | 0, c, _, _, _ => by
    show (0 : Int) < ch (c + ((0 : Nat) : Int)) 0
    rw [ch_zero]; decide
  | i + 1, c, hi, hc, hb => by
    have b0 := B.nn' (i := i)
    have ih := numTo_lt B i (bs.getD i 0) (by omega) b0 (fun j hj => B.le' (by omega) (by omega))
    have p := ch_succ (n := bs.getD i 0 + (i : Int)) (k := (i : Int)) (by omega) (by omega)
    have m := ch_mono (m := bs.getD i 0 + (i : Int) + 1) (n := c + ((i + 1 : Nat) : Int)) (k := ((i + 1 : Nat) : Int)) (by have := hb i (by omega); omega)
    rw [show ((i + 1 : Nat) : Int) = (i : Int) + 1 by omega] at m ⊢
    show numTo bs i + ch (bs.getD i 0 + (i : Int)) ((i : Int) + 1) < _
    omega
theorem numTo_top {bs : List Int} (B : IsBox bs) {i : Nat} (hi : i < bs.length) : IsTop ((i : Int) + 1) (numTo bs (i + 1)) (bs.getD i 0 + (i : Int)) := by
  have b0 := B.nn' (i := i)
  have a := numTo_lt B (i + 1) (bs.getD i 0) hi b0 (fun j hj => B.le' (by omega) hi)
  have n0 := numTo_nonneg bs i
  refine ⟨by omega, ?_, ?_⟩
  · show _ ≤ numTo bs i + _
    omega
  · rw [show ((i + 1 : Nat) : Int) = (i : Int) + 1 by omega] at a
    rw [show bs.getD i 0 + (i : Int) + 1 = bs.getD i 0 + ((i : Int) + 1) by omega]
    exact a
section
variable {P : Program} {w : World} {K : PySem.W.Frag} {mg : Str → Option Value} {base : Heap}
def spNum (K : PySem.W.Frag) : Sp := fun vs H Q _ => ∃ (a : Addr) (bs : List Int), vs = [.ref a] ∧ SqL K H a (bs.map V.int) ∧ bs.length ≤ 900 ∧ (∀ x ∈ bs, 0 ≤ x) ∧ Szs 70000 bs ∧
  ∀ H', Same H H' → Q (.int (numB bs)) H'
theorem sc_box_number : FnScope ["box"] ["box"] (defScope st_box_number) := ⟨rfl, rfl, rfl, by decide +kernel, rfl, by decide +kernel, by decide +kernel⟩
theorem ok_box_number (D : Def K mg "box_number" st_box_number ["box"]) (T : Txt K mg) (G_choose : Fn P w K mg base 1 "choose" ["n", "k"] spChoose) : Fn P w K mg base 2 "box_number" ["box"] (spNum K) := by
  refine D.fn sc_box_number (fun vs H Q E h => ?_) (fun f cdv A outer s H vs Q E hr h => ?_)
  · obtain ⟨a, bs, rfl, _⟩ := h
    rfl
  · obtain ⟨a, bs, rfl, hA, hl, nn, sz, q⟩ := h
    refine ⟨_, (pss_one (ps_ret (pe_callB (call_sum rfl) (by rfl) T.z_sum b_sum (pa_cons (pe_comp (own := ["place", "part"]) (fr := []) (ix := []) rfl ⟨rfl, rfl, rfl, rfl, rfl, rfl⟩ (pi_enumL (by rfl) T.z_enumerate (pa_cons (pv 0) pa_nil)) (fun _ _ _ _ _ => (pg_tupK K (n := 2) rfl (pgs_cons (pg_name (i := 0) (show (["place", "part"] : List Str).Nodup by decide +kernel) rfl (Or.inl rfl)) (pgs_cons (pg_name (i := 1) (show (["place", "part"] : List Str).Nodup by decide +kernel) rfl (Or.inl rfl)) pgs_nil)))) (fun _ _ _ _ _ => pts_nil) (fun _ _ _ _ _ => (pe_fn G_choose (hr.mono (by decide)) (by rfl) (pa_cons (pe_op op_addI (pv 1) (pv 0)) (pa_cons (pe_op op_addI (pv 0) pe_int) pa_nil))))) pa_nil)))), ?_⟩
    refine ⟨_, rfl, a, _, rfl, hA, fun acc hacc => comp_enumP (K := K) (a := a) (xs := bs.map V.int) (fun i => V.int (ch (bs.getD i 0 + (i : Int)) ((i : Int) + 1))) hA hacc ?_ ?_ ?_⟩
    · rw [List.length_map]; exact Nat.le_of_lt (small1000 (by omega))
    · intro i x t H2 R hx sm ht hR
      rw [List.getElem?_map] at hx
      obtain ⟨x', hx', rfl⟩ := Option.map_eq_some_iff.mp hx
      simp only [List.getD_eq_getElem?_getD, hx', Option.getD_some] at hR
      have hi := (List.getElem?_eq_some_iff.mp hx').1
      have x0 := nn x' (List.mem_of_getElem? hx')
      have xb := sz x' (List.mem_of_getElem? hx')
      exact ⟨t, _, rfl, SqT.of ht, rfl, _, _, rfl, _, _, rfl, rfl, rfl, _, rfl, _, rfl, _, _, rfl, rfl, _, rfl, _, _, rfl, rfl, _, _, rfl, by omega, by omega, by omega, bits_mono (intBits_add_le (m := 70000) (n := 64) xb (bits_of (by omega) (by omega))) (by decide), hR⟩
    · intro H2 sm ha
      rw [List.length_map] at ha
      refine ⟨acc, (List.range bs.length).map fun i => ch (bs.getD i 0 + (i : Int)) ((i : Int) + 1), rfl, SqL.of ?_, ?_⟩
      · rw [ha, List.map_map]; rfl
      · rw [← numTo_sum]
        exact q H2 sm
end
def AscB : Int → List Int → Prop
  | _, [] => True
  | b, x :: r => b ≤ x ∧ AscB x r
theorem ascb_all : ∀ {b : Int} {xs : List Int}, AscB b xs → ∀ x ∈ xs, b ≤ x
  | _, [], _, _, z => nomatch z
  | b, y :: r, h, x, hx => by
    rcases List.mem_cons.mp hx with e | e
    · rw [e]; exact h.1
    · have := ascb_all h.2 x e
      have := h.1
      omega
theorem ascb_pw : ∀ {b : Int} {xs : List Int}, AscB b xs → xs.Pairwise (· ≤ ·)
  | _, [], _ => List.Pairwise.nil
  | _, _ :: _, h => List.pairwise_cons.mpr ⟨ascb_all h.2, ascb_pw h.2⟩
theorem ascb_of : ∀ {b : Int} {xs : List Int}, xs.Pairwise (· ≤ ·) → (∀ x ∈ xs, b ≤ x) → AscB b xs
  | _, [], _, _ => trivial
  | _, x :: r, hp, h => by
    obtain ⟨p1, p2⟩ := List.pairwise_cons.mp hp
    exact ⟨h x (by simp), ascb_of p2 p1⟩
theorem isBox_asc {bs : List Int} : IsBox bs ↔ AscB 0 bs := ⟨fun h => ascb_of h.inc h.nn, fun h => ⟨ascb_pw h, ascb_all h⟩⟩
theorem ascb_drop {bs : List Int} {i : Nat} {x b : Int} (h : bs[i]? = some x) : AscB b (bs.drop i) ↔ b ≤ x ∧ AscB x (bs.drop (i + 1)) := by
  obtain ⟨hi, e⟩ := List.getElem?_eq_some_iff.mp h
  rw [List.drop_eq_getElem_cons hi, e]
  exact Iff.rfl
section
variable {P : Program} {w : World} {K : PySem.W.Frag} {mg : Str → Option Value} {base : Heap}
def spHBoxE (K : PySem.W.Frag) (C : Addr) : Sp := fun vs H Q E => ∃ (a : Addr) (ns : List Int) (late : Int), vs = [.ref a, .int late] ∧ SqL K H a (ns.map V.int) ∧ ns.length ≤ 1000 ∧ 0 ≤ late ∧ intBits late ≤ 8000 ∧
  (IsBox (boxL late ns) → ∀ (p : Addr) (H' : Hp), Same H H' → H p = none → H' p = some (.lst ((boxL late ns).map V.int)) → Q (.ref p) H') ∧
  (¬ IsBox (boxL late ns) → ∀ H', Same H H' → E (.ref C) none H')
theorem sc_heard_box : FnScope ["reading", "late", "box", "before", "part"] ["reading", "late"] (defScope st_heard_box) := ⟨rfl, rfl, rfl, by decide +kernel, rfl, by decide +kernel, by decide +kernel⟩
theorem ok_heard_boxE {C_NoReading : Addr} (D : Def K mg "heard_box" st_heard_box ["reading", "late"]) (T : Txt K mg) (m_NoReading : mg "NoReading" = some (.ref C_NoReading)) (x_NoReading : PySem.W.excIn K C_NoReading bmV "ValueError.__new__" = true) (G_box_of : Fn P w K mg base 1 "box_of" ["row", "late"] (spBoxOf K)) : FnE P w K mg base 2 "heard_box" ["reading", "late"] (spHBoxE K C_NoReading) := by
  refine D.fnE sc_heard_box (fun vs H Q E h => ?_) (fun f cdv A outer s H vs Q E hr h => ?_)
  · obtain ⟨a, ns, late, rfl, _⟩ := h
    rfl
  · obtain ⟨a, ns, late, rfl, hA, hl, l0, lb, q, q2⟩ := h
    refine ⟨_, (pss_cons (ps_set (i := 2) sc_heard_box.nd rfl (Or.inl rfl) (pe_fn G_box_of (hr.mono (by decide)) (by rfl) (pa_cons (pv 0) (pa_cons (pv 1) pa_nil))))
      (pss_cons (ps_set (i := 3) sc_heard_box.nd rfl (Or.inl rfl) pe_int)
      (pss_cons (ps_for PassesOwn.leaving rfl (pi_list (pv 2)) (pg_name (i := 4) sc_heard_box.nd rfl (Or.inl rfl))
        (pss_cons (ps_if (pt_cmpR op_ltI (pv 4) (pv 3) (nomark _))
          (pss_one (ps_raise PySem.F.excBase_ValueError x_NoReading (by rfl) m_NoReading (pa_cons pe_str pa_nil)))
          pss_nil)
        (pss_one (ps_set (i := 3) sc_heard_box.nd rfl (Or.inl rfl) (pv 4)))))
      (pss_one (ps_ret (pv 2)))))), ?_⟩
    refine ⟨_, rfl, _, rfl, a, ns, late, rfl, hA, hl, l0, lb, fun p H1 s1 hp h1 => ?_⟩
    generalize hbs : boxL late ns = bs at h1 q q2
    refine ⟨_, rfl, p, rfl, ⟨_, SqL.of h1⟩, for_list (K := K) (a := p) (xs := bs.map V.int) (fun i σ H2 => ∃ (before : Int) (v4 : Option V), σ = [some (.ref a), some (.int late), some (.ref p), some (.int before), v4] ∧ H2 = H1 ∧ (IsBox bs ↔ AscB before (bs.drop i)))
      ⟨0, none, rfl, rfl, by rw [List.drop_zero]; exact isBox_asc⟩ (fun i σ H2 _ ⟨_, _, _, e, _⟩ => e ▸ SqL.of h1) ?_ ?_⟩
    · rintro i y σ H2 hi ⟨before, v4, rfl, rfl, hb⟩
      rw [List.getElem?_map] at hi
      obtain ⟨x, hx, rfl⟩ := Option.map_eq_some_iff.mp hi
      rw [ascb_drop hx] at hb
      refine ⟨_, rfl, _, rfl, _, _, rfl, rfl, _, rfl, ifD (fun h => ?_) (fun h => ⟨_, rfl, x, _, rfl, rfl, hb.trans ⟨fun z => z.2, fun z => ⟨by omega, z⟩⟩⟩)⟩
      exact ⟨(by decide), q2 (fun B => by have := (hb.mp B).1; omega) _ s1⟩
    · rintro σ H2 ⟨before, v4, rfl, rfl, hb⟩
      rw [List.length_map, List.drop_length] at hb
      exact ⟨_, rfl, q (hb.mpr trivial) p _ s1 hp h1⟩
end
theorem heard_as {late : Int} {bs ms : List Int} (l0 : 0 ≤ late) (h : Al late (bellL late bs) ms) : boxL late ms = bs := by
  obtain ⟨hl, hf⟩ := (al_iff _ _ _).mp h
  rw [bellL_length] at hl
  refine List.ext_getElem? fun i => ?_
  by_cases hi : i < bs.length
  · have hm : i < ms.length := by omega
    have gb := bellL_get (late := late) (List.getElem?_eq_getElem hi)
    have gm := List.getElem?_eq_getElem hm
    obtain ⟨f1, f2⟩ := hf i _ _ gb gm
    rw [boxL_get gm, List.getElem?_eq_getElem hi]
    congr 1
    generalize bs[i] = b at gb f1 f2
    generalize ms[i] = m at gm f1 f2
    have e : m - (i : Int) = (m - (i : Int) - b * (late + 1)) + b * (late + 1) := by omega
    rw [e, Int.add_mul_ediv_right _ _ (by omega), Int.ediv_eq_zero_of_lt (by omega) (by omega)]
    omega
  · rw [List.getElem?_eq_none (by rw [boxL_length]; omega), List.getElem?_eq_none (by omega)]
theorem bell_sorted {late : Int} {bs : List Int} (l0 : 0 ≤ late) (B : IsBox bs) : (bellL late bs).Pairwise (· ≤ ·) := by
  refine List.pairwise_iff_getElem.mpr fun i j hi hj hij => ?_
  obtain ⟨x, hx, ex⟩ := bellL_get' (List.getElem?_eq_getElem hi)
  obtain ⟨y, hy, ey⟩ := bellL_get' (List.getElem?_eq_getElem hj)
  rw [ex, ey]
  have := Int.mul_le_mul_of_nonneg_right (B.get (by omega) hx hy) (show 0 ≤ late + 1 by omega)
  omega
theorem getD_set {bs : List Int} {i j : Nat} {v : Int} (hi : i < bs.length) : (bs.set i v).getD j 0 = if j = i then v else bs.getD j 0 := by
  rw [List.getD_eq_getElem?_getD, List.getD_eq_getElem?_getD, List.getElem?_set]
  by_cases h : i = j
  · subst h; simp [hi]
  · rw [if_neg h, if_neg (fun z => h z.symm)]
theorem numTo_set {bs : List Int} {i : Nat} {v : Int} (hi : i < bs.length) : ∀ n : Nat, numTo (bs.set i v) n = numTo bs n + if i < n then ch (v + (i : Int)) ((i : Int) + 1) - ch (bs.getD i 0 + (i : Int)) ((i : Int) + 1) else 0
  | 0 => by rw [if_neg (Nat.not_lt_zero _)]; rfl
  | n + 1 => by
    show numTo (bs.set i v) n + ch ((bs.set i v).getD n 0 + (n : Int)) ((n : Int) + 1) = numTo bs n + ch (bs.getD n 0 + (n : Int)) ((n : Int) + 1) + _
    rw [numTo_set hi n, getD_set hi]
    by_cases h1 : n = i
    · subst h1
      rw [if_pos rfl, if_neg (Nat.lt_irrefl _), if_pos (Nat.lt_succ_self _)]
      omega
    · rw [if_neg h1]
      by_cases h2 : i < n
      · rw [if_pos h2, if_pos (by omega)]; omega
      · rw [if_neg h2, if_neg (by omega)]; omega
theorem numTo_zeros (m : Nat) : ∀ n : Nat, numTo (List.replicate m 0) n = 0
  | 0 => rfl
  | n + 1 => by
    have e : (List.replicate m (0 : Int)).getD n 0 = 0 := by
      rw [List.getD_eq_getElem?_getD, List.getElem?_replicate]
      split <;> rfl
    show numTo (List.replicate m 0) n + ch ((List.replicate m (0 : Int)).getD n 0 + (n : Int)) ((n : Int) + 1) = 0
    rw [numTo_zeros m n, e, ch_above (by omega) (by omega)]
    rfl
theorem flat_zeros : ∀ n : Nat, (List.replicate n [V.int 0]).flatten = (List.replicate n (0 : Int)).map V.int
  | 0 => rfl
  | n + 1 => by
    rw [List.replicate_succ, List.flatten_cons, flat_zeros n, List.replicate_succ, List.map_cons]
    rfl
theorem rng_down {n : Nat} (h : n ≤ 1000) : (-1 : Int) ≠ 0 ∧ (-1 : Int).natAbs < 1073741824 ∧ Builtin.Range.small ((n : Int) - 1) (-1) (-1) = true ∧ Builtin.Range.rangeSize ((n : Int) - 1) (-1) (-1) = (n : Int) := by
  have hs : Builtin.Range.rangeSize ((n : Int) - 1) (-1) (-1) = (n : Int) := by
    unfold Builtin.Range.rangeSize
    rw [if_neg (by decide)]
    by_cases z : n = 0
    · subst z; rfl
    · rw [if_pos (by omega)]
      show ((n : Int) - 1 - -1 - 1) / (- -1) + 1 = n
      rw [show (- -1 : Int) = 1 by decide, Int.ediv_one]
      omega
  refine ⟨by decide, by decide, ?_, hs⟩
  unfold Builtin.Range.small
  rw [hs]
  simp only [Builtin.Range.rangeFitsLong]
  simp
  omega
theorem isBox_of {bs : List Int} (h0 : ∀ j, j < bs.length → 0 ≤ bs.getD j 0) (hm : ∀ j k, j ≤ k → k < bs.length → bs.getD j 0 ≤ bs.getD k 0) : IsBox bs := by
  have eg : ∀ (j : Nat) (h : j < bs.length), bs.getD j 0 = bs[j] := fun j h => by rw [List.getD_eq_getElem?_getD, List.getElem?_eq_getElem h]; rfl
  refine ⟨List.pairwise_iff_getElem.mpr fun i j hi hj hij => ?_, fun x hx => ?_⟩
  · have := hm i j (by omega) hj
    rw [eg i hi, eg j hj] at this
    exact this
  · obtain ⟨j, hj, rfl⟩ := List.getElem_of_mem hx
    rw [← eg j hj]
    exact h0 j hj
theorem C_more (m : Nat) : ∀ n : Nat, m < C (m + (n + 1)) (n + 1)
  | 0 => by rw [C_one]; omega
  | n + 1 => by
    have := C_more m n
    rw [show m + (n + 1 + 1) = (m + (n + 1)) + 1 by omega, C_succ]
    omega
theorem ch_more {m : Int} {n : Nat} (h0 : 0 ≤ m) (hz : (n : Int) = 0 → m = 0) : m < ch (m + (n : Int)) (n : Int) := by
  cases n with
  | zero =>
    have := hz rfl
    subst this
    rw [show ((0 : Nat) : Int) = 0 from rfl, ch_zero]
    decide
  | succ n =>
    obtain ⟨r, rfl⟩ : ∃ r : Nat, m = (r : Int) := ⟨m.toNat, by omega⟩
    rw [← Int.natCast_add, ch_nat]
    have := C_more r n
    omega
theorem top_lt {k a b c : Int} (h1 : ch a k ≤ c) (h2 : c < ch b k) : a < b := by
  rcases (by omega : a < b ∨ b ≤ a) with z | z
  · exact z
  · have := ch_mono (k := k) z
    omega
section
variable {P : Program} {w : World} {K : PySem.W.Frag} {mg : Str → Option Value} {base : Heap}
def GoodM (message bells : Int) : Prop := 0 ≤ message ∧ (bells = 0 → message = 0)
def spBoxMsgE (K : PySem.W.Frag) (C : Addr) : Sp := fun vs H Q E => ∃ message bells : Int, vs = [.int message, .int bells] ∧ 0 ≤ bells ∧ bells ≤ 60 ∧ intBits message ≤ 50000 ∧
  (GoodM message bells → ∀ (p : Addr) (bs : List Int) (H' : Hp), Same H H' → H p = none → H' p = some (.lst (bs.map V.int)) → IsBox bs → bs.length = bells.toNat → numB bs = message → Szs 60010 bs → Q (.ref p) H') ∧
  (¬ GoodM message bells → E (.ref C) none H)
theorem sc_box_of_message : FnScope ["message", "bells", "box", "left", "top", "place"] ["message", "bells"] (defScope st_box_of_message) := ⟨rfl, rfl, rfl, by decide +kernel, rfl, by decide +kernel, by decide +kernel⟩
theorem ok_box_of_messageE {C_TooGreat : Addr} (D : Def K mg "box_of_message" st_box_of_message ["message", "bells"]) (T : Txt K mg) (m_TooGreat : mg "TooGreat" = some (.ref C_TooGreat)) (x_TooGreat : PySem.W.excIn K C_TooGreat bmV "ValueError.__new__" = true) (G_above_top : Fn P w K mg base 37 "above_top" ["k", "number"] spAbove) (G_top_from : Fn P w K mg base 37 "top_from" ["start", "k", "number"] spTopFrom) (G_choose : Fn P w K mg base 1 "choose" ["n", "k"] spChoose) :
    FnE P w K mg base 39 "box_of_message" ["message", "bells"] (spBoxMsgE K C_TooGreat) := by
  refine D.fnE sc_box_of_message (fun vs H Q E h => ?_) (fun f cdv A outer s H vs Q E hr h => ?_)
  · obtain ⟨a, bs, rfl, _⟩ := h
    rfl
  · obtain ⟨message, bells, rfl, b0, b60, mb, q1, q2⟩ := h
    refine ⟨_, (pss_cons (ps_if (pw_or (pt_cmpR op_ltI (pv 0) pe_int (nomark _)) (pw_or1 (pw_and (pt_cmpR op_eqI (pv 1) pe_int (nomark _)) (pw_and1 (pt_cmpR op_neI (pv 0) pe_int (nomark _)))).pt)).pt
        (pss_one (ps_raise PySem.F.excBase_ValueError x_TooGreat (by rfl) m_TooGreat (pa_cons pe_str pa_nil)))
        pss_nil)
      (pss_cons (ps_set (i := 2) sc_box_of_message.nd rfl (Or.inl rfl) (pe_op op_rep (pe_lst (pa_cons pe_int pa_nil)) (pv 1)))
      (pss_cons (ps_set (i := 3) sc_box_of_message.nd rfl (Or.inl rfl) (pv 0))
      (pss_cons (ps_set (i := 4) sc_box_of_message.nd rfl (Or.inl rfl) (pe_op op_addI (pv 0) (pv 1)))
      (pss_cons (ps_for PassesOwn.leaving rfl (pi_range3 (by rfl) T.z_range (pa_cons (pe_op op_subI (pv 1) pe_int) (pa_cons (pe_un un_neg pe_int) (pa_cons (pe_un un_neg pe_int) pa_nil)))) (pg_name (i := 5) sc_box_of_message.nd rfl (Or.inl rfl))
        (pss_cons (ps_set (i := 4) sc_box_of_message.nd rfl (Or.inl rfl) (pe_fn G_top_from (hr.mono (by decide)) (by rfl) (pa_cons (pe_callB (call_min2 rfl) (by rfl) T.z_min b_min (pa_cons (pe_op op_subI (pv 4) pe_int) (pa_cons (pe_fn G_above_top (hr.mono (by decide)) (by rfl) (pa_cons (pe_op op_addI (pv 5) pe_int) (pa_cons (pv 3) pa_nil))) pa_nil))) (pa_cons (pe_op op_addI (pv 5) pe_int) (pa_cons (pv 3) pa_nil)))))
        (pss_cons (ps_asg (pe_op op_subI (pv 4) (pv 5)) (pg_sub (pv 2) (pv 5) set_list))
        (pss_one (ps_set (i := 3) sc_box_of_message.nd rfl (Or.inl rfl) (pe_op op_subI (pv 3) (pe_fn G_choose (hr.mono (by decide)) (by rfl) (pa_cons (pv 4) (pa_cons (pe_op op_addI (pv 5) pe_int) pa_nil)))))))))
      (pss_one (ps_ret (pv 2)))))))), ?_⟩
    obtain ⟨n, rfl⟩ : ∃ n : Nat, bells = (n : Int) := ⟨bells.toNat, by omega⟩
    refine ⟨_, rfl, _, _, rfl, rfl, _, rfl, ifD (fun h => ⟨(by decide), q2 (fun g => by have := g.1; omega)⟩) (fun h => ⟨_, rfl, _, _, rfl, rfl, _, rfl, ?_⟩)⟩
    refine ifD (fun z => ⟨_, rfl, _, _, rfl, rfl, _, rfl, ifND (fun e => ⟨(by decide), q2 (fun g => e (g.2 z))⟩) (fun e => ?x1)⟩) (fun z => ?x2)
    all_goals
      have m0 : 0 ≤ message := by omega
      have mz : (n : Int) = 0 → message = 0 := fun z' => by omega
      have q := q1 ⟨m0, mz⟩
      refine ⟨(by decide), fun l hl => ⟨_, rfl, l, (n : Int), _, rfl, rfl, upd_same, by omega, by omega, ?_, fun p hp => ?_⟩⟩
      · show 1 * ((n : Int)).toNat ≤ sizeLine
        exact Nat.le_of_lt (small1000 (by omega))
      rw [show ((n : Int)).toNat = n by omega, flat_zeros]
      have hp0 : H p = none := (Same.new hl).free hp
      have s1 : Same H (upd (upd H l (.lst [V.int 0])) p (.lst ((List.replicate n (0 : Int)).map V.int))) := (Same.new hl).put hp
      have h1 : (upd (upd H l (.lst [V.int 0])) p (.lst ((List.replicate n (0 : Int)).map V.int))) p = some (.lst ((List.replicate n (0 : Int)).map V.int)) := upd_same
      generalize upd (upd H l (.lst [V.int 0])) p (.lst ((List.replicate n (0 : Int)).map V.int)) = H1 at s1 h1 ⊢
      have mb2 : intBits (message + (n : Int)) ≤ 60000 := bits_mono (intBits_add_le (m := 50000) (n := 64) mb (bits_of (by omega) (by omega))) (by decide)
      refine ⟨_, rfl, _, rfl, _, rfl, _, _, rfl, rfl, _, rfl, _, _, rfl, rfl, 1, rfl, 1, rfl, (n : Int) - 1, -1, -1, n, rfl, rng_down (by omega), for_range3 (lo := (n : Int) - 1) (c := -1) (n := n) (fun i σ H2 => ∃ (bs : List Int) (left top : Int) (v5 : Option V), σ = [some (.int message), some (.int (n : Int)), some (.ref p), some (.int left), some (.int top), v5] ∧ Same H H2 ∧ H2 p = some (.lst (bs.map V.int)) ∧ bs.length = n ∧ 0 ≤ left ∧ left ≤ message ∧ left + numTo bs n = message ∧ (∀ j, j < n - i → bs.getD j 0 = 0) ∧ (∀ j, j < n → 0 ≤ bs.getD j 0) ∧ (∀ j k, n - i ≤ j → j ≤ k → k < n → bs.getD j 0 ≤ bs.getD k 0) ∧ left < ch top ((n - i : Nat) : Int) ∧ ((n - i : Nat) : Int) ≤ top ∧ intBits top ≤ 60000 ∧ (0 < i → top = bs.getD (n - i) 0 + ((n - i : Nat) : Int)) ∧ Szs 60010 bs)
        ⟨List.replicate n 0, message, message + (n : Int), none, rfl, s1, h1, by rw [List.length_replicate], m0, Int.le_refl _, by rw [numTo_zeros]; omega, fun j _ => ?_, fun j _ => ?_, fun j k h1 h2 h3 => by omega, by rw [Nat.sub_zero]; exact ch_more m0 mz, by omega, mb2, fun z => absurd z (by omega), fun x hx => ?_⟩ ?_ ?_⟩
      · rw [List.getD_eq_getElem?_getD, List.getElem?_replicate]
        split <;> rfl
      · rw [List.getD_eq_getElem?_getD, List.getElem?_replicate]
        split <;> decide
      · rw [(List.mem_replicate.mp hx).2]; decide
      · rintro i σ H2 hi ⟨bs, left, top, v5, rfl, sm, hB, hl2, l0, l1, sum, z0, nn, mono, lt, tge, tbb, teq, sz⟩
        obtain ⟨pl, hpl⟩ : ∃ pl : Nat, pl = n - 1 - i := ⟨_, rfl⟩
        have ep : (n : Int) - 1 + (i : Int) * -1 = (pl : Int) := by omega
        rw [ep]
        have hpb : pl < bs.length := by omega
        have hni : n - i = pl + 1 := by omega
        rw [hni] at lt tge teq
        refine ⟨_, rfl, _, _, rfl, rfl, _, rfl, _, _, rfl, rfl, _, rfl, (pl : Int) + 1, left, rfl, by omega, by omega, l0, intBits_le_of_natAbs (y := message) (by omega) mb, fun a a1 a2 a3 => ⟨_, _, rfl, _, rfl, _, _, rfl, rfl, _, rfl, _, (pl : Int) + 1, left, rfl, by omega, by omega, l0, ?_, ?_, ?_, fun t tp tb => ?_⟩⟩
        · split <;> omega
        · split
          · exact a2
          · rw [show top - 1 + 1 = top by omega, show ((pl : Int) + 1) = ((pl + 1 : Nat) : Int) by omega]
            exact lt
        · split
          · exact a3
          · exact intBits_le_of_natAbs (y := top) (by omega) tbb
        have t0 := tp.lo
        have t1 := tp.le
        have t2 := tp.lt
        refine ⟨_, rfl, _, rfl, _, _, rfl, rfl, _, rfl, _, rfl, p, _, _, pl, rfl, rfl, hB, ?_, ?_⟩
        · unfold ixN
          rw [List.length_map, if_pos (by omega), if_pos (by omega), Int.toNat_natCast]
        have pas := ch_succ (n := t) (k := (pl : Int)) (by omega) (by omega)
        refine ⟨_, rfl, _, rfl, _, rfl, _, _, rfl, rfl, t, (pl : Int) + 1, rfl, by omega, by omega, by omega, bits_mono tb (by decide), _, _, rfl, rfl, ?_⟩
        have ge := ch_nonneg t ((pl : Int) + 1)
        refine ⟨bs.set pl (t - (pl : Int)), left - ch t ((pl : Int) + 1), t, _, rfl, sm.wr hp0, by rw [upd_same, List.map_set], by rw [List.length_set]; exact hl2, by omega, by omega, ?_, fun j hj => ?_, fun j hj => ?_, fun j k h1 h2 h3 => ?_, ?_, by omega, tb, fun _ => ?_, fun x hx => ?_⟩
        · rw [numTo_set hpb, if_pos (by omega), z0 pl (by omega), ch_above (n := 0 + (pl : Int)) (by omega) (by omega), show t - (pl : Int) + (pl : Int) = t by omega]
          omega
        · rw [getD_set hpb, if_neg (by omega)]
          exact z0 j (by omega)
        · rw [getD_set hpb]
          split
          · omega
          · exact nn j hj
        · rw [getD_set hpb, getD_set hpb]
          by_cases e1 : j = pl
          · rw [if_pos e1]
            by_cases e2 : k = pl
            · rw [if_pos e2]; exact Int.le_refl _
            · rw [if_neg e2]
              have := top_lt t1 (by rw [show ((pl : Int) + 1) = ((pl + 1 : Nat) : Int) by omega]; exact lt)
              have := teq (by omega)
              have := mono (pl + 1) k (by omega) (by omega) h3
              omega
          · rw [if_neg e1, if_neg (by omega)]
            exact mono j k (by omega) h2 h3
        · rw [show n - (i + 1) = pl by omega]
          omega
        · rw [show n - (i + 1) = pl by omega, getD_set hpb, if_pos rfl, show t - (pl : Int) + (pl : Int) = t by omega]
        · rcases List.mem_or_eq_of_mem_set hx with z | z
          · exact sz x z
          · rw [z]
            exact bits_mono (intBits_sub_le (m := 60000) (n := 64) tb (bits_of (by omega) (by omega))) (by decide)
      · rintro σ H2 ⟨bs, left, top, v5, rfl, sm, hB, hl2, l0, l1, sum, z0, nn, mono, lt, tge, tbb, teq, sz⟩
        rw [Nat.sub_self] at z0 mono lt
        have e0 : left = 0 := by
          by_cases hn : n = 0
          · subst hn
            have : message = 0 := mz rfl
            omega
          · rw [show ((0 : Nat) : Int) = 0 from rfl, ch_zero] at lt
            omega
        refine ⟨_, rfl, q p bs H2 sm hp0 hB (isBox_of (fun j hj => nn j (by omega)) (fun j k h1 h2 => mono j k (Nat.zero_le _) h1 (by omega))) (by omega) ?_ sz⟩
        unfold numB
        rw [hl2]
        omega
end
def cnt (turns bells late : Int) : Int := if turns < bells then 0 else ch ((turns - bells) / (late + 1) + bells) bells
def spCount : Sp := fun vs H Q _ => ∃ turns bells late : Int, vs = [.int turns, .int bells, .int late] ∧ 0 ≤ bells ∧ bells ≤ 1000 ∧ 0 ≤ late ∧ intBits late ≤ 8000 ∧ intBits turns ≤ 70000 ∧ Q (.int (cnt turns bells late)) H
section
variable {P : Program} {w : World} {K : PySem.W.Frag} {mg : Str → Option Value} {base : Heap}
def spGreat : Sp := fun vs H Q _ => ∃ turns bells late : Int, vs = [.int turns, .int bells, .int late] ∧ 0 ≤ late ∧ intBits late ≤ 8000 ∧ Q (.int ((turns - bells) / (late + 1))) H
theorem sc_greatest_part : FnScope ["turns", "bells", "late"] ["turns", "bells", "late"] (defScope st_greatest_part) := ⟨rfl, rfl, rfl, by decide +kernel, rfl, by decide +kernel, by decide +kernel⟩
theorem ok_greatest_part (D : Def K mg "greatest_part" st_greatest_part ["turns", "bells", "late"]) : Fn P w K mg base 1 "greatest_part" ["turns", "bells", "late"] spGreat := by
  refine D.fn sc_greatest_part (fun vs H Q E h => ?_) (fun f cdv A outer s H vs Q E hr h => ?_)
  · obtain ⟨a, b, c, rfl, _⟩ := h
    rfl
  · obtain ⟨turns, bells, late, rfl, l0, lb, q⟩ := h
    refine ⟨_, (pss_one (ps_ret (pe_op op_fdivB (pe_op op_subI (pv 0) (pv 1)) (pe_op op_addI (pv 2) pe_int)))), ?_⟩
    have lb1 : intBits (late + 1) ≤ 9000 := bits_mono (intBits_add_le (m := 8000) (n := 1) lb (by decide)) (by decide)
    exact ⟨_, rfl, _, rfl, _, _, rfl, rfl, _, rfl, _, _, rfl, rfl, _, _, rfl, rfl, ⟨by omega, lb1⟩, q⟩
theorem sc_box_count : FnScope ["turns", "bells", "late"] ["turns", "bells", "late"] (defScope st_box_count) := ⟨rfl, rfl, rfl, by decide +kernel, rfl, by decide +kernel, by decide +kernel⟩
theorem ok_box_count (D : Def K mg "box_count" st_box_count ["turns", "bells", "late"]) (T : Txt K mg) (G_greatest_part : Fn P w K mg base 1 "greatest_part" ["turns", "bells", "late"] spGreat) (G_choose : Fn P w K mg base 1 "choose" ["n", "k"] spChoose) : Fn P w K mg base 2 "box_count" ["turns", "bells", "late"] spCount := by
  refine D.fn sc_box_count (fun vs H Q E h => ?_) (fun f cdv A outer s H vs Q E hr h => ?_)
  · obtain ⟨a, b, c, rfl, _⟩ := h
    rfl
  · obtain ⟨turns, bells, late, rfl, b0, b1, l0, lb, tb, q⟩ := h
    refine ⟨_, (pss_cons (ps_if (pt_cmpR op_gtI (pv 1) (pv 0) (nomark _))
        (pss_one (ps_ret pe_int))
        pss_nil)
      (pss_one (ps_ret (pe_fn G_choose (hr.mono (by decide)) (by rfl) (pa_cons (pe_op op_addI (pe_fn G_greatest_part (hr.mono (by decide)) (by rfl) (pa_cons (pv 0) (pa_cons (pv 1) (pa_cons (pv 2) pa_nil)))) (pv 1)) (pa_cons (pv 1) pa_nil)))))), ?_⟩
    unfold cnt at q
    refine ⟨_, rfl, _, rfl, _, _, rfl, rfl, _, rfl, ifD (fun h => ?_) (fun h => ?_)⟩
    · rw [if_pos h] at q
      exact q
    · rw [if_neg h] at q
      have d0 : 0 ≤ (turns - bells) / (late + 1) := Int.ediv_nonneg (by omega) (by omega)
      have db : intBits ((turns - bells) / (late + 1)) ≤ 70000 := by
        have h2 := Int.ediv_le_self (late + 1) (show 0 ≤ turns - bells by omega)
        exact intBits_le_of_natAbs (y := turns) (by omega) tb
      refine ⟨_, rfl, _, rfl, _, rfl, turns, bells, late, rfl, l0, lb, _, rfl, _, _, rfl, rfl, _, rfl, _, bells, rfl, by omega, b0, b1, ?_, q⟩
      exact bits_mono (intBits_add_le (m := 70000) (n := 64) db (bits_of b0 (by omega))) (by decide)
end
theorem cnt_pos {turns bells late : Int} (b0 : 0 ≤ bells) (h : bells ≤ turns) (l0 : 0 ≤ late) : 0 < cnt turns bells late := by
  unfold cnt
  rw [if_neg (by omega)]
  have d0 : 0 ≤ (turns - bells) / (late + 1) := Int.ediv_nonneg (by omega) (by omega)
  exact ch_pos b0 (by omega)
theorem cnt_nonneg (turns bells late : Int) : 0 ≤ cnt turns bells late := by
  unfold cnt
  split
  · exact Int.le_refl _
  · exact ch_nonneg _ _
theorem cnt_bits {turns bells late : Int} {m : Nat} (b0 : 0 ≤ bells) (b1 : bells ≤ 61) (l0 : 0 ≤ late) (t0 : 0 ≤ turns) (tb : intBits turns ≤ m) (hm : 7 ≤ m) : intBits (cnt turns bells late) ≤ (m + 1) * 61 + 1 := by
  unfold cnt
  split
  · exact Nat.zero_le _
  · have d0 : 0 ≤ (turns - bells) / (late + 1) := Int.ediv_nonneg (by omega) (by omega)
    have d1 : (turns - bells) / (late + 1) ≤ turns - bells := Int.ediv_le_self _ (by omega)
    have nb : intBits ((turns - bells) / (late + 1) + bells) ≤ m + 1 := bits_mono (intBits_le_of_natAbs (y := turns) (by omega) tb) (by omega)
    have := bits_ch (k := bells.toNat) nb (by omega)
    rw [show ((bells.toNat : Nat) : Int) = bells by omega] at this
    exact bits_mono this (Nat.add_le_add_right (Nat.mul_le_mul_left _ (by omega)) _)
theorem bits_lt {x y : Int} {m : Nat} (h0 : 0 ≤ x) (h1 : x < y) (hy : intBits y ≤ m) : intBits x ≤ m := intBits_le_of_natAbs (y := y) (by omega) hy
section
variable {P : Program} {w : World} {K : PySem.W.Frag} {mg : Str → Option Value} {base : Heap}
theorem sc__law_count : FnScope ["turns", "bells", "late", "places", "found", "i"] ["turns", "bells", "late"] (defScope st__law_count) := ⟨rfl, rfl, rfl, by decide +kernel, rfl, by decide +kernel, by decide +kernel⟩
theorem ok_lcount (D : Def K mg "_law_count" st__law_count ["turns", "bells", "late"]) (T : Txt K mg) : Fn P w K mg base 1 "_law_count" ["turns", "bells", "late"] spCount := by
  refine D.fn sc__law_count (fun vs H Q E h => ?_) (fun f cdv A outer s H vs Q E hr h => ?_)
  · obtain ⟨a, b, c, rfl, _⟩ := h
    rfl
  · obtain ⟨turns, bells, late, rfl, b0, b1, l0, lb, tb, q⟩ := h
    refine ⟨_, (pss_cons (ps_if (pt_cmpR op_gtI (pv 1) (pv 0) (nomark _))
        (pss_one (ps_ret pe_int))
        pss_nil)
      (pss_cons (ps_set (i := 3) sc__law_count.nd rfl (Or.inl rfl) (pe_op op_addI (pe_op op_fdivB (pe_op op_subI (pv 0) (pv 1)) (pe_op op_addI (pv 2) pe_int)) (pv 1)))
      (pss_cons (ps_set (i := 4) sc__law_count.nd rfl (Or.inl rfl) pe_int)
      (pss_cons (ps_for PassesOwn.never rfl (pi_range1 (by rfl) T.z_range (pa_cons (pv 1) pa_nil)) (pg_name (i := 5) sc__law_count.nd rfl (Or.inl rfl))
        (pss_one (ps_set (i := 4) sc__law_count.nd rfl (Or.inl rfl) (pe_op op_fdivB (pe_op op_mulB (pv 4) (pe_op op_subI (pv 3) (pv 5))) (pe_op op_addI (pv 5) pe_int)))))
      (pss_one (ps_ret (pv 4))))))), ?_⟩
    unfold cnt at q
    refine ⟨_, rfl, _, rfl, _, _, rfl, rfl, _, rfl, ifD (fun h => ?_) (fun h => ?_)⟩
    · rw [if_pos h] at q
      exact q
    · rw [if_neg h] at q
      have lb1 : intBits (late + 1) ≤ 9000 := bits_mono (intBits_add_le (m := 8000) (n := 1) lb (by decide)) (by decide)
      have d0 : 0 ≤ (turns - bells) / (late + 1) := Int.ediv_nonneg (by omega) (by omega)
      have db : intBits ((turns - bells) / (late + 1)) ≤ 70000 := by
        have h2 := Int.ediv_le_self (late + 1) (show 0 ≤ turns - bells by omega)
        exact intBits_le_of_natAbs (y := turns) (by omega) tb
      have nb : intBits ((turns - bells) / (late + 1) + bells) ≤ 100000 := bits_mono (intBits_add_le (m := 70000) (n := 64) db (bits_of b0 (by omega))) (by decide)
      refine ⟨_, rfl, _, rfl, _, _, rfl, rfl, _, rfl, _, _, rfl, rfl, _, _, rfl, rfl, ⟨by omega, lb1⟩, _, rfl, _, _, rfl, rfl, ?_⟩
      have n0 : bells ≤ (turns - bells) / (late + 1) + bells := by omega
      generalize (turns - bells) / (late + 1) + bells = n at nb n0 q ⊢
      refine ⟨_, rfl, bells, rfl, by omega, by omega, for_range (n := bells.toNat) (fun i σ H' => ∃ v, σ = [some (.int turns), some (.int bells), some (.int late), some (.int n), some (.int (ch n i)), v] ∧ H' = H) ⟨none, ?_, rfl⟩ ?_ ?_⟩
      · have e := ch_zero n
        show _ = [some (V.int turns), some (V.int bells), some (V.int late), some (V.int n), some (V.int (ch n 0)), none]
        rw [e]
        rfl
      · rintro i σ H' hi ⟨v, rfl, rfl⟩
        have hi' : (i : Int) < bells := by omega
        refine ⟨_, rfl, _, rfl, _, rfl, _, _, rfl, rfl, _, _, rfl, rfl, ?_, _, rfl, _, _, rfl, rfl, _, _, rfl, rfl, ?_, ?_⟩
        · refine ⟨100000 * i + 1, 100000, bits_ch nb (by omega), ?_, by omega⟩
          exact intBits_le_of_natAbs (by omega) nb
        · exact ⟨by omega, bits_of (by omega) (by omega)⟩
        · have e := ch_step (n := n) (i := i) (by omega)
          have e0 : (0 : Int) + (i : Int) = (i : Int) := by omega
          refine ⟨some (.int (0 + (i : Int))), ?_, rfl⟩
          rw [e0, e]
          rfl
      · rintro σ H' ⟨v, rfl, rfl⟩
        refine ⟨_, rfl, ?_⟩
        have e : ((bells.toNat : Nat) : Int) = bells := by omega
        rw [e]
        exact q
end
section
variable {P : Program} {w : World} {K : PySem.W.Frag} {mg : Str → Option Value} {base : Heap}
def spWrittenE (K : PySem.W.Frag) (C : Addr) : Sp := fun vs H Q E => ∃ message turns bells late : Int, vs = [.int message, .int turns, .int bells, .int late] ∧ 0 ≤ bells ∧ bells ≤ 60 ∧ 0 ≤ late ∧ intBits late ≤ 8000 ∧ intBits turns ≤ 70000 ∧ intBits message ≤ 50000 ∧
  ((0 ≤ message ∧ message < cnt turns bells late) → ∀ (p : Addr) (bs : List Int) (H' : Hp), Same H H' → H p = none → H' p = some (.lst ((bellL late bs).map V.int)) → IsBox bs → bs.length = bells.toNat → numB bs = message → Szs 60010 bs → Q (.ref p) H') ∧
  (¬ (0 ≤ message ∧ message < cnt turns bells late) → E (.ref C) none H)
theorem cnt_no_bells {message turns late : Int} (h0 : 0 ≤ message) (h : message < cnt turns 0 late) : message = 0 := by
  unfold cnt at h
  split at h
  · omega
  · rw [ch_zero] at h; omega
theorem sc_written : FnScope ["message", "turns", "bells", "late"] ["message", "turns", "bells", "late"] (defScope st_written) := ⟨rfl, rfl, rfl, by decide +kernel, rfl, by decide +kernel, by decide +kernel⟩
theorem ok_writtenE {C_TooGreat : Addr} (D : Def K mg "written" st_written ["message", "turns", "bells", "late"]) (T : Txt K mg) (m_TooGreat : mg "TooGreat" = some (.ref C_TooGreat)) (x_TooGreat : PySem.W.excIn K C_TooGreat bmV "ValueError.__new__" = true) (G_box_count : Fn P w K mg base 2 "box_count" ["turns", "bells", "late"] spCount) (GE_box_of_message : FnE P w K mg base 39 "box_of_message" ["message", "bells"] (spBoxMsgE K C_TooGreat)) (G_bell_row : Fn P w K mg base 1 "bell_row" ["box", "late"] (spBellRow K)) :
    FnE P w K mg base 40 "written" ["message", "turns", "bells", "late"] (spWrittenE K C_TooGreat) := by
  refine D.fnE sc_written (fun vs H Q E h => ?_) (fun f cdv A outer s H vs Q E hr h => ?_)
  · obtain ⟨a, b, c, d, rfl, _⟩ := h
    rfl
  · obtain ⟨message, turns, bells, late, rfl, b0, b60, l0, lb, tb, mb, q1, q2⟩ := h
    refine ⟨_, (pss_cons (ps_if (pw_or (pt_cmpR op_ltI (pv 0) pe_int (nomark _)) (pw_or1 (pt_cmpR op_geI (pv 0) (pe_fn G_box_count (hr.mono (by decide)) (by rfl) (pa_cons (pv 1) (pa_cons (pv 2) (pa_cons (pv 3) pa_nil)))) (nomark _)))).pt
        (pss_one (ps_raise PySem.F.excBase_ValueError x_TooGreat (by rfl) m_TooGreat (pa_cons pe_str pa_nil)))
        pss_nil)
      (pss_one (ps_ret (pe_fn G_bell_row (hr.mono (by decide)) (by rfl) (pa_cons (pe_fnG GE_box_of_message (hr.mono (by decide)) (by rfl) passesE (pa_cons (pv 0) (pa_cons (pv 2) pa_nil))) (pa_cons (pv 3) pa_nil)))))), ?_⟩
    refine ⟨_, rfl, _, _, rfl, rfl, _, rfl, ifD (fun h => ⟨(by decide), q2 (fun g => by omega)⟩) (fun h => ⟨_, rfl, _, rfl, _, rfl, _, rfl, turns, bells, late, rfl, b0, by omega, l0, lb, tb, _, _, rfl, rfl, _, rfl, ifD (fun h2 => ⟨(by decide), q2 (fun g => by omega)⟩) (fun h2 => ?_)⟩)⟩
    have m0 : 0 ≤ message := by omega
    have m1 : message < cnt turns bells late := by omega
    have q := q1 ⟨m0, m1⟩
    have gm : GoodM message bells := ⟨m0, fun z => cnt_no_bells m0 (z ▸ m1)⟩
    refine ⟨_, rfl, _, rfl, message, bells, rfl, b0, b60, mb, fun _ p bs H1 s1 hp h1 B hl hnum sz => ?_, fun nb => absurd gm nb⟩
    refine ⟨_, rfl, p, bs, late, rfl, SqL.of h1, by omega, lb, fun x hx => bits_mono (sz x hx) (by decide), fun p2 H2 s2 hp2 h2 => ?_⟩
    exact q p2 bs H2 (s1.trans s2) (s1.free hp2) h2 B hl hnum sz
end
def spWritten (K : PySem.W.Frag) : Sp := fun vs H Q _ => ∃ message turns bells late : Int, vs = [.int message, .int turns, .int bells, .int late] ∧ 0 ≤ message ∧ message < cnt turns bells late ∧ 0 ≤ bells ∧ bells ≤ 60 ∧ 0 ≤ late ∧ intBits late ≤ 8000 ∧ intBits turns ≤ 70000 ∧ intBits message ≤ 50000 ∧
  ∀ (p : Addr) (bs : List Int) (H' : Hp), Same H H' → H p = none → H' p = some (.lst ((bellL late bs).map V.int)) → IsBox bs → bs.length = bells.toNat → numB bs = message → Szs 60010 bs → Q (.ref p) H'
def GoodR (turns bells late : Int) (ns : List Int) : Prop := (ns.length : Int) = bells ∧ IsBox (boxL late ns) ∧ numB (boxL late ns) < cnt turns bells late
theorem cnt_le_num {bs : List Int} (B : IsBox bs) {turns late x : Int} {r : List Int} (l0 : 0 ≤ late) (hb : bs = r ++ [x]) (h : (turns - (bs.length : Int)) / (late + 1) < x) : cnt turns (bs.length : Int) late ≤ numB bs := by
  unfold cnt
  split
  · exact numTo_nonneg _ _
  · have hl : bs.length = r.length + 1 := by rw [hb, List.length_append]; rfl
    have tp := (numTo_top B (i := r.length) (by omega)).le
    have hx : bs.getD r.length 0 = x := by rw [hb, List.getD_eq_getElem?_getD, List.getElem?_append_right (Nat.le_refl _), Nat.sub_self]; rfl
    rw [hx] at tp
    have d0 : 0 ≤ (turns - (bs.length : Int)) / (late + 1) := Int.ediv_nonneg (by omega) (by omega)
    unfold numB
    rw [hl] at h d0 ⊢
    refine Int.le_trans (ch_mono (m := (turns - ((r.length + 1 : Nat) : Int)) / (late + 1) + ((r.length + 1 : Nat) : Int)) (n := x + (r.length : Int)) (k := ((r.length + 1 : Nat) : Int)) (by omega)) ?_
    rw [show ((r.length + 1 : Nat) : Int) = (r.length : Int) + 1 by omega]
    exact tp
section
variable {P : Program} {w : World} {K : PySem.W.Frag} {mg : Str → Option Value} {base : Heap}
def spReadE (K : PySem.W.Frag) (C : Addr) : Sp := fun vs H Q E => ∃ (a : Addr) (ns : List Int) (turns bells late : Int), vs = [.ref a, .int turns, .int bells, .int late] ∧ SqL K H a (ns.map V.int) ∧ ns.length ≤ 60 ∧ 0 ≤ bells ∧ bells ≤ 60 ∧ 0 ≤ late ∧ intBits late ≤ 8000 ∧ intBits turns ≤ 70000 ∧ Szs 70000 (boxL late ns) ∧
  (GoodR turns bells late ns → ∀ H', Same H H' → Q (.int (numB (boxL late ns))) H') ∧ (¬ GoodR turns bells late ns → ∀ H', Same H H' → E (.ref C) none H')
theorem sc_read : FnScope ["reading", "turns", "bells", "late", "message"] ["reading", "turns", "bells", "late"] (defScope st_read) := ⟨rfl, rfl, rfl, by decide +kernel, rfl, by decide +kernel, by decide +kernel⟩
theorem ok_readE {C_NoReading : Addr} (D : Def K mg "read" st_read ["reading", "turns", "bells", "late"]) (T : Txt K mg) (m_NoReading : mg "NoReading" = some (.ref C_NoReading)) (x_NoReading : PySem.W.excIn K C_NoReading bmV "ValueError.__new__" = true) (G_box_count : Fn P w K mg base 2 "box_count" ["turns", "bells", "late"] spCount) (GE_heard_box : FnE P w K mg base 2 "heard_box" ["reading", "late"] (spHBoxE K C_NoReading)) (G_box_number : Fn P w K mg base 2 "box_number" ["box"] (spNum K)) :
    FnE P w K mg base 3 "read" ["reading", "turns", "bells", "late"] (spReadE K C_NoReading) := by
  refine D.fnE sc_read (fun vs H Q E h => ?_) (fun f cdv A outer s H vs Q E hr h => ?_)
  · obtain ⟨a, b, c, d, e, rfl, _⟩ := h
    rfl
  · obtain ⟨a, ns, turns, bells, late, rfl, hA, hl, b0, b60, l0, lb, tb, sz, q1, q2⟩ := h
    refine ⟨_, (pss_cons (ps_if (pt_cmpR op_neI (pe_callB call_len_seq (by rfl) T.z_len b_len (pa_cons (pv 0) pa_nil)) (pv 2) (nomark _))
        (pss_one (ps_raise PySem.F.excBase_ValueError x_NoReading (by rfl) m_NoReading (pa_cons pe_str pa_nil)))
        pss_nil)
      (pss_cons (ps_set (i := 4) sc_read.nd rfl (Or.inl rfl) (pe_fn G_box_number (hr.mono (by decide)) (by rfl) (pa_cons (pe_fnG GE_heard_box (hr.mono (by decide)) (by rfl) passesE (pa_cons (pv 0) (pa_cons (pv 3) pa_nil))) pa_nil)))
      (pss_cons (ps_if (pt_cmpR op_geI (pv 4) (pe_fn G_box_count (hr.mono (by decide)) (by rfl) (pa_cons (pv 1) (pa_cons (pv 2) (pa_cons (pv 3) pa_nil)))) (nomark _))
        (pss_one (ps_raise PySem.F.excBase_ValueError x_NoReading (by rfl) m_NoReading (pa_cons pe_str pa_nil)))
        pss_nil)
      (pss_one (ps_ret (pv 4)))))), ?_⟩
    refine ⟨_, rfl, _, _, rfl, .inl hA, _, rfl, _, _, rfl, rfl, _, rfl, ?_⟩
    rw [List.length_map]
    refine ifND (fun e => ⟨(by decide), q2 (fun g => e g.1) _ (Same.refl _)⟩) (fun e => ?_)
    refine ⟨_, rfl, _, rfl, a, ns, late, rfl, hA, by omega, l0, lb, fun B p H1 s1 hp h1 => ?_, fun nB H1 s1 => q2 (fun g => nB g.2.1) _ s1⟩
    refine ⟨p, boxL late ns, rfl, SqL.of h1, by rw [boxL_length]; omega, B.nn, sz, fun H2 s2 => ?_⟩
    refine ⟨_, rfl, _, rfl, _, rfl, _, rfl, turns, bells, late, rfl, by omega, by omega, l0, lb, tb, _, _, rfl, rfl, _, rfl, ifD (fun h => ?_) (fun h => ?_)⟩
    · exact ⟨(by decide), q2 (fun g => by have := g.2.2; omega) _ (s1.trans s2)⟩
    · exact ⟨_, rfl, q1 ⟨e, B, by omega⟩ _ (s1.trans s2)⟩
end
theorem fn_mono {P : Program} {w : World} {K : PySem.W.Frag} {mg : Str → Option Value} {base : Heap} {k : Nat} {x : Str} {ps : List Str} {sp sp' : Sp} (h : ∀ vs H Q E, sp' vs H Q E → sp vs H Q E) (F : Fn P w K mg base k x ps sp) : Fn P w K mg base k x ps sp' := by
  obtain ⟨f, fd, F, kp, b, m⟩ := F
  exact ⟨f, fd, ⟨fun vs H Q E hh => F.len vs H Q E (h _ _ _ _ hh), fun A outer s H args us vs Q E hr e0 hb r hh => F.run A outer s H args us vs Q E hr e0 hb r (h _ _ _ _ hh)⟩, kp, b, m⟩
def spRead (K : PySem.W.Frag) : Sp := fun vs H Q _ => ∃ (a : Addr) (ns : List Int) (turns bells late : Int), vs = [.ref a, .int turns, .int bells, .int late] ∧ SqL K H a (ns.map V.int) ∧ (ns.length : Int) = bells ∧ bells ≤ 60 ∧ 0 ≤ late ∧ intBits late ≤ 8000 ∧ intBits turns ≤ 70000 ∧ IsBox (boxL late ns) ∧ Szs 70000 (boxL late ns) ∧
  numB (boxL late ns) < cnt turns bells late ∧ ∀ H', Same H H' → Q (.int (numB (boxL late ns))) H'
theorem pget {α β : Type} {R : α → β → Prop} : ∀ {l : List α} {m : List β}, Paired R l m → ∀ {i : Nat} {a : α}, l[i]? = some a → ∃ b, m[i]? = some b ∧ R a b
  | _, _, .nil, _, _, h => by simp at h
  | _, _, .cons r _, 0, _, h => by
    simp at h
    subst h
    exact ⟨_, rfl, r⟩
  | _, _, .cons _ t, i + 1, _, h => by
    simp at h
    obtain ⟨b, hb, r⟩ := pget t h
    exact ⟨b, by simpa using hb, r⟩
theorem plen {α β : Type} {R : α → β → Prop} : ∀ {l : List α} {m : List β}, Paired R l m → l.length = m.length
  | _, _, .nil => rfl
  | _, _, .cons _ t => by rw [List.length_cons, List.length_cons, plen t]
theorem call_list_ofK {X : Cx} (K : PySem.W.Frag) (hK : X.K = K := by rfl) : CallR X (.type "list") (fun xs H Q => ∃ p ys, xs = [V.ref p] ∧ (SqL K H p ys ∨ SqT K H p ys) ∧ ∀ l, H l = none → Q (.ref l) (upd H l (.lst ys))) := by subst hK; exact call_list_of
theorem cut1 {c : TT} {tA tB R : TS} {D : Ends} {σ : St} {H : Hp} (Pre : St → Hp → Prop) (tail : ∀ σ H, Pre σ H → R D σ H) (h : ∀ N : St → Hp → Prop, (∀ σ H, Pre σ H → N σ H) → tIfS c tA tB { D with nx := N } σ H) : tSeq (tIfS c tA tB) R D σ H := h (fun σ H => R D σ H) tail
theorem LL.of {H : Hp} : ∀ {ys : List V} {nss : List (List Int)}, ys.length = nss.length → (∀ (i : Nat) (v : V) (ns : List Int), ys[i]? = some v → nss[i]? = some ns → ∃ b, v = .ref b ∧ H b = some (.lst (ns.map V.int))) → ∃ as : List Addr, ys = as.map V.ref ∧ Paired (fun b (ns : List Int) => H b = some (.lst (ns.map V.int))) as nss
  | [], [], _, _ => ⟨[], rfl, .nil⟩
  | [], _ :: _, h, _ => by simp at h
  | _ :: _, [], h, _ => by simp at h
  | y :: ys, ns :: nss, h, f => by
    obtain ⟨b, rfl, hb⟩ := f 0 y ns rfl rfl
    obtain ⟨as, e, p⟩ := LL.of (ys := ys) (nss := nss) (by simpa using h) fun i v ns h1 h2 => f (i + 1) v ns (by simpa using h1) (by simpa using h2)
    exact ⟨b :: as, by rw [e]; rfl, .cons hb p⟩
theorem comp_listO {K : PySem.W.Frag} {a acc : Addr} {xs : List V} {own : Nat} {ix : List Nat} {g : TG} {te : TE} {σ : L2.St} {H1 : Hp} {Q : VK} (Pr : Nat → V → Hp → Prop) (hmono : ∀ i v H H', Same H H' → Pr i v H → Pr i v H') (hacc : ∀ i v H o, H acc = some o → ∀ o', Pr i v H → Pr i v (upd H acc o'))
    (hq : SqL K H1 a xs) (hn : H1 acc = none) (hz : xs.length ≤ sizeLine)
    (step : ∀ (i : Nat) (x : V) (H : Hp) (R : VK), xs[i]? = some x → Same H1 H → (∃ o, H acc = some o) → (∀ v H', Same H H' → Pr i v H' → R v H') → g x (blockSt own ix σ) H fun σ4 H4 => σ4.drop own = ix.map (fun i => (σ[i]?).getD none) ∧ te σ4 H4 R)
    (hd : ∀ ys H', Same H1 H' → H' acc = some (.lst ys) → ys.length = xs.length → (∀ i v, ys[i]? = some v → Pr i v H') → Q (.ref acc) H') :
    CompGo (Itl K a) own ix g tNoTest te σ H1 acc Q := by
  refine ⟨fun i m ys H => m = xs.length - i ∧ i ≤ xs.length ∧ ys.length = i ∧ (∀ j v, ys[j]? = some v → Pr j v H) ∧ Same H1 H ∧ H acc = some (.lst ys), ⟨xs.length, by simp, Nat.zero_le _, rfl, fun j v h => by simp at h, Same.new hn, upd_same⟩, ?_⟩
  rintro i m ys H ⟨rfl, hi, hl, pr, sm, ha⟩
  refine ⟨ha, ?_⟩
  have q := sm.seq hq
  by_cases hlt : i < xs.length
  · refine .inr ⟨⟨xs, xs[i], q, by simp [hlt]⟩, by omega, fun x H3 y => ?_⟩
    obtain ⟨e, y⟩ := y
    subst e
    refine step i x _ _ (y xs q) sm ⟨_, ha⟩ fun v H' s' pv => ⟨s' _ _ ha, xs.length - (i + 1), by omega, rfl, hlt, by rw [List.length_append, hl]; rfl, fun j u hj => ?_, (sm.trans s').wr hn, upd_same⟩
    by_cases hji : j < ys.length
    · rw [List.getElem?_append_left hji] at hj
      exact hacc j u H' _ (s' _ _ ha) _ (hmono j u _ _ s' (pr j u hj))
    · have hj2 := (List.getElem?_eq_some_iff.mp hj).1
      rw [List.length_append, List.length_singleton] at hj2
      have ej : j = i := by omega
      subst ej
      rw [List.getElem?_append_right (by omega), hl, Nat.sub_self] at hj
      have : v = u := by simpa using hj
      subst this
      exact hacc j v H' _ (s' _ _ ha) _ pv
  · have e : i = xs.length := by omega
    subst e
    exact .inl ⟨⟨xs, q, Nat.le_refl _⟩, hd ys H sm ha hl pr⟩
theorem comp_LL {K : PySem.W.Frag} {a acc : Addr} {as : List Addr} {nss mss : List (List Int)} {own : Nat} {ix : List Nat} {g : TG} {te : TE} {σ : L2.St} {H1 : Hp} {Q : VK} (ha : H1 a = some (.lst (as.map V.ref))) (hP : Paired (fun b (ns : List Int) => H1 b = some (.lst (ns.map V.int))) as nss) (hn : H1 acc = none) (hz : nss.length ≤ 600) (hm : mss.length = nss.length)
    (step : ∀ (i : Nat) (b : Addr) (ns ms : List Int) (H : Hp) (R : VK), nss[i]? = some ns → mss[i]? = some ms → H b = some (.lst (ns.map V.int)) → Same H1 H → (∀ p H', Same H H' → H p = none → H' p = some (.lst (ms.map V.int)) → R (.ref p) H') → g (.ref b) (blockSt own ix σ) H fun σ4 H4 => σ4.drop own = ix.map (fun i => (σ[i]?).getD none) ∧ te σ4 H4 R)
    (hd : ∀ H', Same H1 H' → LL H' acc mss → Q (.ref acc) H') : CompGo (Itl K a) own ix g tNoTest te σ H1 acc Q := by
  have hal := plen hP
  refine comp_listO (K := K) (a := a) (xs := as.map V.ref) (fun i v H => ∃ (b : Addr) (ms : List Int), v = .ref b ∧ b ≠ acc ∧ mss[i]? = some ms ∧ H b = some (.lst (ms.map V.int))) (fun i v H H' s ⟨b, ns, h1, h2, h3, h4⟩ => ⟨b, ns, h1, h2, h3, s _ _ h4⟩) (fun i v H o ho o' ⟨b, ns, h1, h2, h3, h4⟩ => ⟨b, ns, h1, h2, h3, by rw [upd_ne h2]; exact h4⟩) (SqL.of ha) hn (by rw [List.length_map]; exact Nat.le_of_lt (small1000 (by omega))) ?_ ?_
  · intro i x H6 R' hx s6 ⟨o, ho⟩ hR
    rw [List.getElem?_map] at hx
    obtain ⟨b, hb, rfl⟩ := Option.map_eq_some_iff.mp hx
    obtain ⟨ns, hns, hbn⟩ := pget hP hb
    have il := (List.getElem?_eq_some_iff.mp hb).1
    have him : i < mss.length := by omega
    refine step i b ns mss[i] H6 R' hns (List.getElem?_eq_getElem him) (s6 _ _ hbn) s6 fun p H' s' hp hp' => hR _ _ s' ⟨p, _, rfl, fun e => ?_, List.getElem?_eq_getElem him, hp'⟩
    subst e
    rw [ho] at hp
    cases hp
  · intro ys H' s' hY yl yp
    rw [List.length_map] at yl
    obtain ⟨bs, e, p⟩ := LL.of (H := H') (ys := ys) (nss := mss) (by omega) fun i v ns h1 h2 => by
      obtain ⟨b, ms, e1, _, e3, e4⟩ := yp i v h1
      rw [h2] at e3
      cases e3
      exact ⟨b, e1, e4⟩
    exact hd H' s' ⟨bs, by rw [hY, e], p⟩
section
open PySem.Spec PyProof.Rows
variable {X : Cx}
theorem draw_walk {prog : Program} {w : World} {A : Around} {I : Addr} {fp wr : List Addr} {N : Nat} {Pv : Nat → Value → Prop} {S : Nat → Heap → Prop} (W : PySem.Walks prog w A I fp wr N Pv S) : ∀ (n i : Nat) (s : Shared) (Q : List Value → Shared → Prop) (E : Value → Shared → Prop), i + n = N → S i s.heap →
    (∀ (vs : List Value) (h' : Heap) (tk : Nat), vs.length = n → (∀ j v, vs[j]? = some v → Pv (i + j) v) → S N h' → (∀ b o, ¬ b ∈ wr → s.heap.get? b = some o → h'.get? b = some o) → Q vs { s with heap := h', toks := tk }) →
    wpAny (model prog w) A (draw (.ref I) n) Q E s
  | 0, i, s, Q, E, hn, st, k => by
    rw [PySem.draw.eq_1]
    have e : i = N := by omega
    subst e
    exact wpAny_pure (k [] s.heap s.toks rfl (fun j v h => by simp at h) st (fun b o _ h => h))
  | n + 1, i, s, Q, E, hn, st, k => by
    rw [PySem.draw.eq_2]
    refine wpAny_bind (W.item i s _ _ (by omega) st fun v h' tk pv st' kk => ?_)
    refine wpAny_bind (wpAny_holding (draw_walk W n (i + 1) _ _ _ (by omega) st' fun vs h2 tk2 vl vp st2 k2 => ?_))
    refine wpAny_pure (k (v :: vs) h2 tk2 (by rw [List.length_cons, vl]) (fun j x hj => ?_) st2 (fun b o hb h => k2 b o hb (kk b o hb h)))
    cases j with
    | zero =>
      have e : v = x := by simpa using hj
      subst e
      exact pv
    | succ j =>
      have := vp j x (by simpa using hj)
      rwa [show i + 1 + j = i + (j + 1) by omega] at this
def gLstU (K : PySem.W.Frag) (n : Nat) (t : TGs) : TG := fun v σ H Q => ∃ a xs, v = .ref a ∧ SqL K H a xs ∧ xs.length = n ∧ t xs σ H Q
theorem pg_lstU {es : List Expr} {k : Nat} {t : TGs} {n : Nat} {pos : Pos} (hc : X.calm = true) (h : PGs X es t)
    (hn : (assignEach es X.env).length = n := by rfl) (hst : (assignEach es X.env).findIdx? (·.1) = none := by rfl) : PG X (.Tuple es k pos) (gLstU X.K n t) := by
  intro pins s σ H v u Q I r hw
  obtain ⟨a, xs, e1, hq, hl, hw⟩ := hw
  subst e1
  cases r
  obtain ⟨its, rv, pl, hz⟩ := I.list hq
  have il := pl.isList
  rw [assign_Tuple]
  refine wpAny_bind (wpAny_standAt ?_)
  unfold PySem.unpack
  rw [hst, hn]
  refine wpAny_bind (wpAny_holding ?_)
  unfold PySem.unpackItems PySem.notIterableAtAll
  have ty : s.TypeIs (.ref a) "list" := by
    obtain ⟨o, ho, hc', _⟩ := il
    exact ⟨o, ho, hc'⟩
  refine wpAny_bind (wpAny_bind (wpAny_specialOf ty F.slot_list_iter.lookup ?_))
  simp only [Option.isSome_some, ↓reduceIte]
  refine wpAny_pure ?_
  simp only [Bool.false_eq_true, ↓reduceIte]
  refine wpAny_bind (wpAny_holding (wpAny_pyIter_list il ?_))
  have lt : a < s.heap.objs.size := by
    obtain ⟨o, ho, _⟩ := il
    exact Heap.lt_size ho
  have hne : a ≠ s.heap.objs.size := Nat.ne_of_lt lt
  have il2 : (s.heap.push { cls := .type "list_iterator", data := .fields #[.ref a, .int 0 0] }).IsList a its.toArray := by
    obtain ⟨o, ho, r⟩ := il
    exact ⟨o, Heap.get?_push_of_some _ ho, r⟩
  have W := PySem.Walks.list (prog := X.prog) (w := X.w) (I.ok.hd hc) s.heap.objs.size a hne its.toArray
  have sz : its.toArray.size = n := by rw [List.size_toArray, ← rv.length, hl]
  refine wpAny_bind (wpAny_holding (draw_walk W n 0 _ _ _ (by rw [sz]; omega) ⟨?_, il2⟩ fun vs h' tk vl vp st k => ?_))
  · exact ⟨_, Heap.get?_push_size _ rfl, rfl, rfl⟩
  rw [if_neg (by omega)]
  have sz2 : { s with heap := h', toks := tk }.heap = h' := rfl
  refine wpAny_bind (wpAny_holding (W.done _ _ _ ?_ fun h2 tk2 k2 => ?_))
  · exact st
  simp only [Option.isSome_none, Bool.false_eq_true, ↓reduceIte]
  refine wpAny_pure ?_
  have I1 : L2.Inv X pins σ H { s with heap := h2, toks := tk2 } := I.kept (t' := tk2) fun b o e => by
    have hb : ¬ b ∈ [s.heap.objs.size] := by
      intro z
      have z' := List.mem_singleton.mp z
      have lt' := Heap.lt_size e
      rw [z'] at lt'
      exact Nat.lt_irrefl _ lt'
    exact k2 b o hb (k b o hb (Heap.get?_push_of_some _ e))
  have ev : vs = its := by
    apply List.ext_getElem?
    intro j
    by_cases hj : j < vs.length
    · have := vp j _ (List.getElem?_eq_getElem hj)
      rw [Nat.zero_add] at this
      rw [List.getElem?_eq_getElem hj]
      simpa using this.symm
    · have hl2 : its.length = n := by rw [← rv.length, hl]
      rw [List.getElem?_eq_none (by omega), List.getElem?_eq_none (by omega)]
  rw [ev]
  exact h pins _ σ H xs _ Q I1 rv hw
end
abbrev Fr := Int × Int × Int
structure FrOk (f : Fr) : Prop where
  b0 : 0 ≤ f.2.1
  b60 : f.2.1 ≤ 60
  l0 : 0 ≤ f.2.2
  lb : intBits f.2.2 ≤ 7000
  t0 : 0 ≤ f.1
  tb : intBits f.1 ≤ 100
def cntF (f : Fr) : Int := cnt f.1 f.2.1 f.2.2
theorem FrOk.cb {f : Fr} (h : FrOk f) : intBits (cntF f) ≤ 6200 :=
  bits_mono (cnt_bits (turns := f.1) (bells := f.2.1) (late := f.2.2) h.b0 (by have := h.b60; omega) h.l0 h.t0 h.tb (by decide)) (by decide)
def prodC (fs : List Fr) : Int := fs.foldl (fun c f => c * cntF f) 1
theorem prodC_snoc (l : List Fr) (f : Fr) : prodC (l ++ [f]) = prodC l * cntF f := by
  unfold prodC
  rw [List.foldl_append]
  rfl
theorem take_snoc {α : Type} {l : List α} {n : Nat} {x : α} (h : l[n]? = some x) : l.take (n + 1) = l.take n ++ [x] := by
  rw [List.take_add_one, h]
  rfl
theorem prodC_bits {fs : List Fr} (ok : ∀ f ∈ fs, FrOk f) : ∀ n : Nat, intBits (prodC (fs.take n)) ≤ 6200 * n + 1
  | 0 => by rw [List.take_zero]; show intBits (1 : Int) ≤ _; exact Nat.le_trans (show intBits (1 : Int) ≤ 1 by decide) (Nat.le_add_left _ _)
  | n + 1 => by
    have ih := prodC_bits ok n
    cases h : fs[n]? with
    | none =>
      rw [List.take_add_one, h]
      rw [Option.toList_none, List.append_nil]
      omega
    | some f =>
      rw [take_snoc h, prodC_snoc]
      exact bits_mono (intBits_mul_le ih (ok f (List.mem_of_getElem? h)).cb) (by omega)
theorem prodC_fold (fs : List Fr) : ∀ c : Int, fs.foldl (fun c f => c * cntF f) c = c * prodC fs := by
  induction fs with
  | nil => intro c; show c = c * 1; omega
  | cons f r ih =>
    intro c
    show r.foldl (fun c f => c * cntF f) (c * cntF f) = c * r.foldl (fun c f => c * cntF f) (1 * cntF f)
    rw [ih, ih, Int.one_mul, Int.mul_assoc]
theorem prodC_cons (f : Fr) (r : List Fr) : prodC (f :: r) = cntF f * prodC r := by
  show r.foldl (fun c f => c * cntF f) (1 * cntF f) = _
  rw [prodC_fold, Int.one_mul]
abbrev frV (f : Fr) : HO := .tup [V.int f.1, V.int f.2.1, V.int f.2.2]
def Frs (H : Hp) (p : Addr) (fs : List Fr) : Prop := ∃ as : List Addr, H p = some (.lst (as.map V.ref)) ∧ PySem.Paired (fun b (f : Fr) => H b = some (frV f)) as fs
theorem Frs.same {H H' : Hp} {p : Addr} {fs : List Fr} (s : Same H H') (h : Frs H p fs) : Frs H' p fs := by
  obtain ⟨as, e, q⟩ := h
  exact ⟨as, s _ _ e, paired_imp (fun _ _ z => s _ _ z) q⟩
def frL (f : Fr) : List Int := [f.1, f.2.1, f.2.2]
theorem paired_mapR {α β γ : Type} {R : α → γ → Prop} {g : β → γ} : ∀ {as : List α} {bs : List β}, PySem.Paired (fun a b => R a (g b)) as bs → PySem.Paired R as (bs.map g)
  | _, _, .nil => .nil
  | _, _, .cons x y => .cons x (paired_mapR y)
theorem Frs.sq {K : PySem.W.Frag} {H : Hp} {p : Addr} {fs : List Fr} (h : Frs H p fs) : SqLT K H p (fs.map frL) := by
  obtain ⟨as, e, q⟩ := h
  exact ⟨as, SqL.of e, paired_mapR (R := fun b ns => SqT K H b (ns.map V.int)) (g := frL) (paired_imp (fun _ _ z => SqT.of z) q)⟩
theorem paired_ins {α β : Type} {R : α → β → Prop} {b : α} {f : β} (r : R b f) : ∀ {as : List α} {fs : List β} (k : Nat), PySem.Paired R as fs → PySem.Paired R (as.take k ++ b :: as.drop k) (fs.take k ++ f :: fs.drop k)
  | _, _, 0, p => by simpa using PySem.Paired.cons r p
  | _, _, k + 1, .nil => by simpa using PySem.Paired.cons r PySem.Paired.nil
  | _, _, k + 1, .cons x y => by simpa using PySem.Paired.cons x (paired_ins r k y)
section
variable {P : Program} {w : World} {K : PySem.W.Frag} {mg : Str → Option Value} {base : Heap}
def spBelf : Sp := fun vs H Q _ => ∃ (a : Addr) (fs : List Fr), vs = [.ref a] ∧ Frs H a fs ∧ (∀ f ∈ fs, FrOk f) ∧ fs.length ≤ 64 ∧ Q (.int (prodC fs)) H
theorem sc_belfry_count : FnScope ["frames", "count", "turns", "bells", "late"] ["frames"] (defScope st_belfry_count) := ⟨rfl, rfl, rfl, by decide +kernel, rfl, by decide +kernel, by decide +kernel⟩
theorem ok_belfry_count (D : Def K mg "belfry_count" st_belfry_count ["frames"]) (T : Txt K mg) (G_box_count : Fn P w K mg base 2 "box_count" ["turns", "bells", "late"] spCount) : Fn P w K mg base 3 "belfry_count" ["frames"] spBelf := by
  refine D.fn sc_belfry_count (fun vs H Q E h => ?_) (fun f cdv A outer s H vs Q E hr h => ?_)
  · obtain ⟨a, fs, rfl, _⟩ := h
    rfl
  · obtain ⟨a, fs, rfl, ⟨as, hA, hF⟩, ok, hl, q⟩ := h
    refine ⟨_, (pss_cons (ps_set (i := 1) sc_belfry_count.nd rfl (Or.inl rfl) pe_int)
      (pss_cons (ps_for PassesOwn.never rfl (pi_list (pv 0)) (pg_tup (n := 3) rfl (pgs_cons (pg_name (i := 2) sc_belfry_count.nd rfl (Or.inl rfl)) (pgs_cons (pg_name (i := 3) sc_belfry_count.nd rfl (Or.inl rfl)) (pgs_cons (pg_name (i := 4) sc_belfry_count.nd rfl (Or.inl rfl)) pgs_nil))))
        (pss_one (ps_set (i := 1) sc_belfry_count.nd rfl (Or.inl rfl) (pe_op op_mulB (pv 1) (pe_fn G_box_count (hr.mono (by decide)) (by rfl) (pa_cons (pv 2) (pa_cons (pv 3) (pa_cons (pv 4) pa_nil))))))))
      (pss_one (ps_ret (pv 1))))), ?_⟩
    have al := paired_len hF
    refine ⟨_, rfl, a, rfl, ⟨_, SqL.of hA⟩, for_list (K := K) (a := a) (xs := as.map V.ref) (fun i σ H2 => ∃ v2 v3 v4 : Option V, σ = [some (.ref a), some (.int (prodC (fs.take i))), v2, v3, v4] ∧ H2 = H) ⟨none, none, none, rfl, rfl⟩ (fun i σ H2 _ ⟨_, _, _, _, e⟩ => e ▸ SqL.of hA) ?_ ?_⟩
    · rintro i y σ H2 hi ⟨v2, v3, v4, rfl, rfl⟩
      rw [List.getElem?_map] at hi
      obtain ⟨b, hb, rfl⟩ := Option.map_eq_some_iff.mp hi
      obtain ⟨f, hf, hB⟩ := paired_get hF hb
      have o := ok f (List.mem_of_getElem? hf)
      have hi2 : i < fs.length := (List.getElem?_eq_some_iff.mp hf).1
      refine ⟨b, _, rfl, SqT.of hB, rfl, _, _, rfl, _, _, rfl, _, _, rfl, rfl, ?_⟩
      refine ⟨_, rfl, _, rfl, _, rfl, _, rfl, f.1, f.2.1, f.2.2, rfl, o.b0, by have := o.b60; omega, o.l0, bits_mono o.lb (by decide), bits_mono o.tb (by decide), _, _, rfl, rfl, ⟨6200 * 64 + 1, 6200, bits_mono (prodC_bits ok i) (by omega), o.cb, by decide⟩, ?_⟩
      exact ⟨_, _, _, by rw [take_snoc hf, prodC_snoc]; rfl, rfl⟩
    · rintro σ H2 ⟨v2, v3, v4, rfl, rfl⟩
      rw [List.length_map, al, List.take_length]
      exact ⟨_, rfl, q⟩
end
abbrev Dr (ds ss : List Int) : Prop := PySem.Paired (fun d s => 0 ≤ d ∧ d < s) ds ss
theorem dr_at {ds ss : List Int} (h : Dr ds ss) {i : Nat} {s : Int} (hs : ss[i]? = some s) : ∃ d, ds[i]? = some d ∧ 0 ≤ d ∧ d < s := by
  have hl := paired_len h
  have hi : i < ds.length := by rw [hl]; exact (List.getElem?_eq_some_iff.mp hs).1
  obtain ⟨z, hz, r⟩ := paired_get h (List.getElem?_eq_getElem hi)
  rw [hs] at hz
  cases hz
  exact ⟨_, List.getElem?_eq_getElem hi, r⟩
section
variable {P : Program} {w : World} {K : PySem.W.Frag} {mg : Str → Option Value} {base : Heap}
def spDrawnL (K : PySem.W.Frag) : Sp := fun vs H Q _ => ∃ (c : Int) (a : Addr) (ss : List Int), vs = [.int c, .ref a] ∧ SqL K H a (ss.map V.int) ∧ ss.length ≤ 200 ∧ (∀ s ∈ ss, 0 < s ∧ intBits s ≤ 9000) ∧
  ∀ (p : Addr) (ds : List Int) (H' : Hp), Same H H' → H p = none → H' p = some (.lst (ds.map V.int)) → Dr ds ss → Q (.ref p) H'
theorem sc__law_drawn : FnScope ["cell", "sizes", "found", "rest", "k"] ["cell", "sizes"] (defScope st__law_drawn) := ⟨rfl, rfl, rfl, by decide +kernel, rfl, by decide +kernel, by decide +kernel⟩
theorem ok_drawnL (D : Def K mg "_law_drawn" st__law_drawn ["cell", "sizes"]) (T : Txt K mg) (G__law_stir : Fn P w K mg base 1 "_law_stir" ["cell", "k"] spStir) : Fn P w K mg base 2 "_law_drawn" ["cell", "sizes"] (spDrawnL K) := by
  refine D.fn sc__law_drawn (fun vs H Q E h => ?_) (fun f cdv A outer s H vs Q E hr h => ?_)
  · obtain ⟨a, b, c, rfl, _⟩ := h
    rfl
  · obtain ⟨c, a, ss, rfl, hA, hl, hss, q⟩ := h
    refine ⟨_, (pss_cons (ps_set (i := 2) sc__law_drawn.nd rfl (Or.inl rfl) (pe_lst pa_nil))
      (pss_cons (ps_set (i := 3) sc__law_drawn.nd rfl (Or.inl rfl) (pe_op op_fdivB (pv 0) pe_int))
      (pss_cons (ps_for PassesOwn.never rfl (pi_range1 (by rfl) T.z_range (pa_cons (pe_callB call_len_seq (by rfl) T.z_len b_len (pa_cons (pv 1) pa_nil)) pa_nil)) (pg_name (i := 4) sc__law_drawn.nd rfl (Or.inl rfl))
        (pss_one (ps_if (pt_cmpR op_eqI (pe_op op_modB (pv 0) pe_int) pe_int (nomark _))
          (pss_cons (ps_expr (pe_bm PySem.F.plainAttrs_list PySem.F.slot_list_append PySem.F.type_list_append mt_append (pv 2) (pa_cons (pe_op op_modB (pv 3) (pe_ix ix_list (pv 1) (pv 4) (fun _ _ => rfl))) pa_nil)))
          (pss_one (ps_set (i := 3) sc__law_drawn.nd rfl (Or.inl rfl) (pe_op op_fdivB (pv 3) (pe_ix ix_list (pv 1) (pv 4) (fun _ _ => rfl))))))
          (pss_one (ps_expr (pe_bm PySem.F.plainAttrs_list PySem.F.slot_list_append PySem.F.type_list_append mt_append (pv 2) (pa_cons (pe_op op_modB (pe_fn G__law_stir (hr.mono (by decide)) (by rfl) (pa_cons (pv 3) (pa_cons (pv 4) pa_nil))) (pe_ix ix_list (pv 1) (pv 4) (fun _ _ => rfl))) pa_nil)))))))
      (pss_one (ps_ret (pv 2)))))), ?_⟩
    refine ⟨(by decide), fun p hp => ⟨_, rfl, _, _, rfl, rfl, ⟨by decide, by decide⟩, ?_⟩⟩
    refine ⟨_, rfl, _, _, rfl, .inl ((Same.new hp).seq hA), _, rfl, ?_⟩
    rw [List.length_map]
    refine ⟨by omega, by omega, for_range (n := ss.length) (fun i σ H2 => ∃ (ds : List Int) (rest : Int) (v4 : Option V), σ = [some (.int c), some (.ref a), some (.ref p), some (.int rest), v4] ∧ Same H H2 ∧ H2 p = some (.lst (ds.map V.int)) ∧ Dr ds (ss.take i)) ⟨[], c / 2, none, rfl, Same.new hp, upd_same, .nil⟩ ?_ ?_⟩
    · rintro i σ H2 hi ⟨ds, rest, v4, rfl, sm, hD, hP⟩
      rw [show (0 : Int) + (i : Int) = (i : Int) by omega]
      obtain ⟨s', hs⟩ : ∃ s', ss[i]? = some s' := ⟨_, List.getElem?_eq_getElem hi⟩
      have g := at_map hs
      obtain ⟨s0, sb⟩ := hss s' (List.mem_of_getElem? hs)
      have dl := paired_len hP
      rw [List.length_take] at dl
      refine ⟨_, rfl, _, _, rfl, rfl, (by decide), _, _, rfl, rfl, _, rfl, ifD (fun _ => ?_) (fun _ => ?_)⟩
      · refine ⟨_, rfl, .inl ⟨rfl, _, SqL.of hD⟩, _, rfl, _, rfl, _, rfl, _, _, _, _, rfl, rfl, sm.seq hA, g, _, _, rfl, rfl, s0, _, _, _, rfl, rfl, hD, by rw [List.length_map]; exact small1000 (by omega), ?_⟩
        refine ⟨_, rfl, _, rfl, _, rfl, _, _, _, _, rfl, rfl, (sm.wr hp).seq hA, g, _, _, rfl, rfl, ⟨s0, sb⟩, ?_⟩
        exact ⟨ds ++ [rest % s'], _, _, rfl, sm.wr hp, by rw [upd_same, List.map_append]; rfl, by rw [List.take_add_one, hs]; exact Paired.snoc hP ⟨Int.emod_nonneg _ (by omega), Int.emod_lt_of_pos _ s0⟩⟩
      · refine ⟨_, rfl, .inl ⟨rfl, _, SqL.of hD⟩, _, rfl, _, rfl, rest, (i : Int), rfl, by omega, by omega, _, rfl, _, rfl, _, _, _, _, rfl, rfl, sm.seq hA, g, _, _, rfl, rfl, s0, _, _, _, rfl, rfl, hD, by rw [List.length_map]; exact small1000 (by omega), ?_⟩
        exact ⟨ds ++ [stir rest (i : Int) % s'], _, _, rfl, sm.wr hp, by rw [upd_same, List.map_append]; rfl, by rw [List.take_add_one, hs]; exact Paired.snoc hP ⟨Int.emod_nonneg _ (by omega), Int.emod_lt_of_pos _ s0⟩⟩
    · rintro σ H2 ⟨ds, rest, v4, rfl, sm, hD, hP⟩
      rw [List.take_length] at hP
      exact ⟨_, rfl, q p ds H2 sm hp hD hP⟩
end
theorem dr_one {ds : List Int} {a : Int} (h : Dr ds [a]) : ∃ x, ds = [x] ∧ 0 ≤ x ∧ x < a := by
  cases h with
  | cons h1 t1 => cases t1; exact ⟨_, rfl, h1⟩
theorem dr_three {ds : List Int} {a b c : Int} (h : Dr ds [a, b, c]) : ∃ x y z, ds = [x, y, z] ∧ (0 ≤ x ∧ x < a) ∧ (0 ≤ y ∧ y < b) ∧ (0 ≤ z ∧ z < c) := by
  cases h with
  | cons h1 t1 => cases t1 with
    | cons h2 t2 => cases t2 with
      | cons h3 t3 => cases t3; exact ⟨_, _, _, rfl, h1, h2, h3⟩
theorem dr_five {ds : List Int} {a b c d e : Int} (h : Dr ds [a, b, c, d, e]) : ∃ x y z u v, ds = [x, y, z, u, v] ∧ (0 ≤ x ∧ x < a) ∧ (0 ≤ y ∧ y < b) ∧ (0 ≤ z ∧ z < c) ∧ (0 ≤ u ∧ u < d) ∧ (0 ≤ v ∧ v < e) := by
  cases h with
  | cons h1 t1 => cases t1 with
    | cons h2 t2 => cases t2 with
      | cons h3 t3 => cases t3 with
        | cons h4 t4 => cases t4 with
          | cons h5 t5 => cases t5; exact ⟨_, _, _, _, _, rfl, h1, h2, h3, h4, h5⟩
structure FrFit (f : Fr) : Prop where
  ok : FrOk f
  fit : f.2.1 ≤ f.1
  b40 : f.2.1 ≤ 40
  l100 : f.2.2 < 2 ^ 100
theorem FrFit.pos {f : Fr} (h : FrFit f) : 0 < cntF f := cnt_pos h.ok.b0 h.fit h.ok.l0
theorem prodC_pos {fs : List Fr} (ok : ∀ f ∈ fs, 0 < cntF f) : ∀ n : Nat, 0 < prodC (fs.take n)
  | 0 => by rw [List.take_zero]; decide
  | n + 1 => by
    have ih := prodC_pos ok n
    cases h : fs[n]? with
    | none =>
      rw [List.take_add_one, h, Option.toList_none, List.append_nil]
      exact ih
    | some f =>
      rw [take_snoc h, prodC_snoc]
      exact Int.mul_pos ih (ok f (List.mem_of_getElem? h))
theorem cutI_len2 (ns : List Int) (hi : Option Int) : (cutI ns (some 2) hi).length ≤ ns.length - 2 := by
  unfold cutI
  rw [List.length_take, List.length_drop, show HT.sIx ns.length 0 (some 2) = min 2 ns.length from HT.sIx_nat ..]
  omega
section
variable {P : Program} {w : World} {K : PySem.W.Frag} {mg : Str → Option Value} {base : Heap}
def spFrameN : Sp := fun vs H Q _ => ∃ (c : Int) (b : Bool), vs = [.int c, .bl b] ∧ ∀ (t : Addr) (f : Fr) (H' : Hp), Same H H' → H t = none → H' t = some (frV f) → FrFit f → Q (.ref t) H'
theorem sc__law_frame : FnScope ["cell", "near", "bells", "kind", "late", "size", "more"] ["cell", "near"] (defScope st__law_frame) := ⟨rfl, rfl, rfl, by decide +kernel, rfl, by decide +kernel, by decide +kernel⟩
theorem ok_frameN (D : Def K mg "_law_frame" st__law_frame ["cell", "near"]) (T : Txt K mg) (G__law_drawn : Fn P w K mg base 2 "_law_drawn" ["cell", "sizes"] (spDrawnL K)) : Fn P w K mg base 3 "_law_frame" ["cell", "near"] spFrameN := by
  refine D.fn sc__law_frame (fun vs H Q E h => ?_) (fun f cdv A outer s H vs Q E hr h => ?_)
  · obtain ⟨a, b, rfl, _⟩ := h
    rfl
  · obtain ⟨c, b, rfl, q⟩ := h
    refine ⟨_, (pss_cons (ps_asg (pe_fn G__law_drawn (hr.mono (by decide)) (by rfl) (pa_cons (pv 0) (pa_cons (pe_lst (pa_cons pe_int (pa_cons pe_int (pa_cons (pe_op op_powB pe_int pe_int) (pa_cons pe_int (pa_cons (pe_op op_powB pe_int pe_int) pa_nil)))))) pa_nil))) (pg_lstU (n := 5) rfl (pgs_cons (pg_name (i := 2) sc__law_frame.nd rfl (Or.inl rfl)) (pgs_cons (pg_name (i := 3) sc__law_frame.nd rfl (Or.inl rfl)) (pgs_cons (pg_name (i := 4) sc__law_frame.nd rfl (Or.inl rfl)) (pgs_cons (pg_name (i := 5) sc__law_frame.nd rfl (Or.inl rfl)) (pgs_cons (pg_name (i := 6) sc__law_frame.nd rfl (Or.inl rfl)) pgs_nil)))))))
      (pss_cons (ps_set (i := 4) sc__law_frame.nd rfl (Or.inl rfl) (pe_op op_modB (pv 4) (pe_ix ix_list (pe_lst (pa_cons pe_int (pa_cons pe_int (pa_cons (pe_op op_powB pe_int pe_int) pa_nil)))) (pv 3) (fun _ _ => rfl))))
      (pss_cons (ps_set (i := 6) sc__law_frame.nd rfl (Or.inl rfl) (pe_op op_modB (pv 6) (pe_ix ix_list (pe_lst (pa_cons pe_int (pa_cons pe_int (pa_cons pe_int (pa_cons (pe_op op_powB pe_int pe_int) pa_nil))))) (pv 5) (fun _ _ => rfl))))
      (pss_cons (ps_if (pt_truth (pv 1) (fun _ => rfl))
        (pss_cons (ps_set (i := 4) sc__law_frame.nd rfl (Or.inl rfl) (pe_op op_modB (pv 4) pe_int))
        (pss_one (ps_set (i := 6) sc__law_frame.nd rfl (Or.inl rfl) (pe_op op_modB (pv 6) pe_int))))
        pss_nil)
      (pss_one (ps_ret (pe_tup (pa_cons (pe_op op_addI (pv 2) (pv 6)) (pa_cons (pv 2) (pa_cons (pv 4) pa_nil)))))))))), ?_⟩
    have hss : ∀ s ∈ ([7, 3, 10 ^ (12 : Int).toNat, 4, 10 ^ (15 : Int).toNat] : List Int), 0 < s ∧ intBits s ≤ 9000 := by
      intro s hs
      simp only [List.mem_cons, List.not_mem_nil, or_false] at hs
      rcases hs with rfl | rfl | rfl | rfl | rfl
      all_goals exact ⟨by decide, by decide +kernel⟩
    refine ⟨_, rfl, _, _, rfl, rfl, ⟨by decide, by decide, by decide⟩, _, _, rfl, rfl, ⟨by decide, by decide, by decide⟩, (by decide), fun p1 hp1 => ⟨c, p1, [7, 3, 10 ^ (12 : Int).toNat, 4, 10 ^ (15 : Int).toNat], rfl, SqL.of upd_same, by decide, hss, fun p2 ds H2 s2 hp2 h2 hD => ?_⟩⟩
    obtain ⟨bells, kind, late, size, more, rfl, ⟨b0, b1⟩, ⟨k0, k1⟩, ⟨l0, l1⟩, ⟨z0, z1⟩, ⟨m0, m1⟩⟩ := dr_five hD
    refine ⟨p2, _, rfl, SqL.of h2, rfl, _, _, rfl, _, _, rfl, _, _, rfl, _, _, rfl, _, _, rfl, rfl, ?_⟩
    have s02 : Same H H2 := (Same.new hp1).trans s2
    clear s2 h2 hp2 hp1
    obtain ⟨m, hm, mm0, mm1⟩ : ∃ m : Int, atI [V.int 1, V.int 6, V.int (10 ^ (12 : Int).toNat)] kind = some (V.int m) ∧ 0 < m ∧ m ≤ 1000000000000 := by
      obtain ⟨v, hv, e⟩ := at3 (V.int 1) (V.int 6) (V.int (10 ^ (12 : Int).toNat)) k0 k1
      rcases e with rfl | rfl | rfl
      all_goals exact ⟨_, hv, by decide, by decide⟩
    refine ⟨_, rfl, _, _, rfl, rfl, ⟨by decide, by decide, by decide⟩, (by decide), fun p3 hp3 => ?_⟩
    refine ⟨_, rfl, _, _, _, _, rfl, rfl, SqL.of upd_same, hm, _, _, rfl, rfl, mm0, ?_⟩
    have y0 : 0 ≤ late % m := Int.emod_nonneg _ (by omega)
    have y1 : late % m < m := Int.emod_lt_of_pos _ mm0
    generalize late % m = lat at y0 y1 ⊢
    have s3 : Same H (upd H2 p3 (.lst [V.int 1, V.int 6, V.int (10 ^ (12 : Int).toNat)])) := s02.put hp3
    generalize upd H2 p3 (.lst [V.int 1, V.int 6, V.int (10 ^ (12 : Int).toNat)]) = H3 at s3 ⊢
    obtain ⟨k, hk, kk0, kk1⟩ : ∃ m : Int, atI [V.int 1, V.int 9, V.int 60, V.int (10 ^ (15 : Int).toNat)] size = some (V.int m) ∧ 0 < m ∧ m ≤ 1000000000000000 := by
      obtain ⟨v, hv, e⟩ := at4 (V.int 1) (V.int 9) (V.int 60) (V.int (10 ^ (15 : Int).toNat)) z0 z1
      rcases e with rfl | rfl | rfl | rfl
      all_goals exact ⟨_, hv, by decide, by decide⟩
    refine ⟨_, rfl, _, _, rfl, rfl, ⟨by decide, by decide, by decide⟩, (by decide), fun p4 hp4 => ?_⟩
    refine ⟨_, rfl, _, _, _, _, rfl, rfl, SqL.of upd_same, hk, _, _, rfl, rfl, kk0, ?_⟩
    have w0 : 0 ≤ more % k := Int.emod_nonneg _ (by omega)
    have w1 : more % k < k := Int.emod_lt_of_pos _ kk0
    generalize more % k = mor at w0 w1 ⊢
    have s4 : Same H (upd H3 p4 (.lst [V.int 1, V.int 9, V.int 60, V.int (10 ^ (15 : Int).toNat)])) := s3.put hp4
    generalize upd H3 p4 (.lst [V.int 1, V.int 9, V.int 60, V.int (10 ^ (15 : Int).toNat)]) = H4 at s4 ⊢
    have fin : ∀ (la mo : Int) (t : Addr), 0 ≤ la → la ≤ 1000000000000 → 0 ≤ mo → mo ≤ 1000000000000000 → H4 t = none → Q (.ref t) (upd H4 t (.tup [V.int (bells + mo), V.int bells, V.int la])) := by
      intro la mo t a0 a1 o0 o1 ht
      exact q t (bells + mo, bells, la) _ (s4.put ht) (s4.free ht) upd_same ⟨⟨b0, by show bells ≤ 60; omega, a0, bits_mono (bits_of (m := 64) (x := la) a0 (by omega)) (by decide), by show 0 ≤ bells + mo; omega, bits_mono (bits_of (m := 64) (x := bells + mo) (by omega) (by omega)) (by decide)⟩, by show bells ≤ bells + mo; omega, by show bells ≤ 40; omega, by show la < 2 ^ 100; omega⟩
    cases b with
    | true =>
      refine ⟨_, rfl, _, rfl, iteT ?_⟩
      refine ⟨_, rfl, _, _, rfl, rfl, (by decide), _, rfl, _, _, rfl, rfl, (by decide), ?_⟩
      have u0 := Int.emod_nonneg lat (show (6 : Int) ≠ 0 by decide)
      have u1 := Int.emod_lt_of_pos lat (show (0 : Int) < 6 by decide)
      have v0 := Int.emod_nonneg mor (show (9 : Int) ≠ 0 by decide)
      have v1 := Int.emod_lt_of_pos mor (show (0 : Int) < 9 by decide)
      refine ⟨_, rfl, _, rfl, _, _, rfl, rfl, _, rfl, _, rfl, (by show 3 ≤ sizeLine; decide), fun t ht => ?_⟩
      exact fin _ _ t u0 (by omega) v0 (by omega) ht
    | false =>
      refine ⟨_, rfl, _, rfl, iteF ?_⟩
      refine ⟨_, rfl, _, rfl, _, _, rfl, rfl, _, rfl, _, rfl, (by show 3 ≤ sizeLine; decide), fun t ht => ?_⟩
      exact fin _ _ t y0 (by omega) w0 (by omega) ht
def spFramesS (K : PySem.W.Frag) : Sp := fun vs H Q _ => ∃ (a : Addr) (ns : List Int), vs = [.ref a] ∧ SqL K H a (ns.map V.int) ∧ ns.length ≤ 63 ∧ ∀ (p : Addr) (fs : List Fr) (H' : Hp), Same H H' → H p = none → Frs H' p fs → (∀ f ∈ fs, FrFit f) → fs.length ≤ 62 → Q (.ref p) H'
theorem sc__law_frames : FnScope ["script", "kind", "bells", "late", "more"] ["script"] (defScope st__law_frames) := ⟨rfl, rfl, rfl, by decide +kernel, rfl, by decide +kernel, by decide +kernel⟩
theorem ok_framesS (D : Def K mg "_law_frames" st__law_frames ["script"]) (T : Txt K mg) (G__law_cell_at : Fn P w K mg base 1 "_law_cell_at" ["script", "k"] (spCell K)) (G__law_drawn : Fn P w K mg base 2 "_law_drawn" ["cell", "sizes"] (spDrawnL K)) (G__law_frame : Fn P w K mg base 3 "_law_frame" ["cell", "near"] spFrameN) : Fn P w K mg base 4 "_law_frames" ["script"] (spFramesS K) := by
  refine D.fn sc__law_frames (fun vs H Q E h => ?_) (fun f cdv A outer s H vs Q E hr h => ?_)
  · obtain ⟨a, b, rfl, _⟩ := h
    rfl
  · obtain ⟨a, ns, rfl, hS, hlen, q⟩ := h
    refine ⟨_, (pss_cons (ps_set (i := 1) sc__law_frames.nd rfl (Or.inr rfl) (pe_op op_modB (pe_fn G__law_cell_at (hr.mono (by decide)) (by rfl) (pa_cons (pv 0) (pa_cons pe_int pa_nil))) pe_int))
      (pss_cons (ps_if (pt_cmpR op_eqI (pv 1) pe_int (nomark _))
        (pss_cons (ps_asg (pe_fn G__law_drawn (hr.mono (by decide)) (by rfl) (pa_cons (pe_fn G__law_cell_at (hr.mono (by decide)) (by rfl) (pa_cons (pv 0) (pa_cons pe_int pa_nil))) (pa_cons (pe_lst (pa_cons pe_int (pa_cons pe_int (pa_cons pe_int pa_nil)))) pa_nil))) (pg_lstU (n := 3) rfl (pgs_cons (pg_name (i := 2) sc__law_frames.nd rfl (Or.inl rfl)) (pgs_cons (pg_name (i := 3) sc__law_frames.nd rfl (Or.inl rfl)) (pgs_cons (pg_name (i := 4) sc__law_frames.nd rfl (Or.inl rfl)) pgs_nil)))))
        (pss_one (ps_ret (pe_lst (pa_cons (pe_tup (pa_cons (pe_op op_addI (pv 2) (pv 4)) (pa_cons (pv 2) (pa_cons (pv 3) pa_nil)))) pa_nil)))))
        pss_nil)
      (pss_one (ps_ret (pe_comp (own := ["cell"]) (fr := ["kind"]) (ix := [1]) rfl ⟨rfl, rfl, rfl, rfl, rfl, rfl⟩ (pi_list (pe_slice sl_list (pv 0) (po_some pe_int) (po_some (pe_ix ix_list (pe_lst (pa_cons pe_int (pa_cons pe_int pa_nil))) (pv 1) (fun _ _ => rfl))))) (fun _ _ _ _ _ => (pg_name (i := 0) (show (["cell", "kind"] : List Str).Nodup by decide +kernel) rfl (Or.inl rfl))) (fun _ _ _ _ _ => pts_nil) (fun _ _ _ _ _ => (pe_fn G__law_frame (hr.mono (by decide)) (by rfl) (pa_cons (pv 0) (pa_cons (pe_cmpR op_eqI (pv 1) pe_int (nomark _)) pa_nil))))))))), ?_⟩
    refine ⟨_, rfl, a, ns, 0, rfl, hS, by decide, _, _, rfl, rfl, (by decide), ?_⟩
    have k0 := Int.emod_nonneg (cellOf ns 0) (show (3 : Int) ≠ 0 by decide)
    have k1 := Int.emod_lt_of_pos (cellOf ns 0) (show (0 : Int) < 3 by decide)
    generalize cellOf ns 0 % 3 = kind at k0 k1 ⊢
    have hss : ∀ s ∈ ([41, 6, 13] : List Int), 0 < s ∧ intBits s ≤ 9000 := by
      intro s hs
      simp only [List.mem_cons, List.not_mem_nil, or_false] at hs
      rcases hs with rfl | rfl | rfl
      all_goals exact ⟨by decide, by decide⟩
    refine ⟨_, rfl, _, _, rfl, rfl, _, rfl, ifD (fun _ => ?_) (fun nk => ?_)⟩
    · refine ⟨_, rfl, a, ns, 1, rfl, hS, by decide, (by decide), fun p1 hp1 => ⟨_, p1, [41, 6, 13], rfl, SqL.of upd_same, by decide, hss, fun p2 ds H2 s2 hp2 h2 hD => ?_⟩⟩
      obtain ⟨bells, late, more, rfl, ⟨b0, b1⟩, ⟨l0, l1⟩, ⟨m0, m1⟩⟩ := dr_three hD
      refine ⟨p2, _, rfl, SqL.of h2, rfl, _, _, rfl, _, _, rfl, _, _, rfl, rfl, ?_⟩
      have s02 : Same H H2 := (Same.new hp1).trans s2
      refine ⟨_, rfl, _, rfl, _, _, rfl, rfl, _, rfl, _, rfl, (by show 3 ≤ sizeLine; decide), fun t ht => ⟨(by show 1 ≤ sizeLine; decide), fun p hp => ?_⟩⟩
      refine q p [(bells + more, bells, late)] _ ((s02.put ht).put hp) ((s02.put ht).free hp) ⟨[t], upd_same, .cons ((Same.new hp) _ _ upd_same) .nil⟩ (fun f hf => ?_) (by show 1 ≤ 62; decide)
      rw [List.mem_singleton.mp hf]
      exact ⟨⟨b0, by show bells ≤ 60; omega, l0, bits_mono (bits_of (m := 64) (x := late) l0 (by omega)) (by decide), by show 0 ≤ bells + more; omega, bits_mono (bits_of (m := 64) (x := bells + more) (by omega) (by omega)) (by decide)⟩, by show bells ≤ bells + more; omega, by show bells ≤ 40; omega, by show late < 2 ^ 100; omega⟩
    · obtain ⟨v, hv, e⟩ := at2 (V.int 7) (V.int 11) k0 (show kind < 2 by omega)
      obtain ⟨m, rfl⟩ : ∃ m : Int, v = .int m := by
        rcases e with rfl | rfl
        all_goals exact ⟨_, rfl⟩
      refine ⟨_, rfl, _, rfl, (by decide), fun p1 hp1 => ⟨_, rfl, _, _, _, _, rfl, rfl, SqL.of upd_same, hv, _, rfl, _, _, rfl, (Same.new hp1).seq hS, fun p0 hp0 => ?_⟩⟩
      have hcl := cutI_len2 ns (some m)
      rw [cut_map]
      generalize cutI ns (some 2) (some m) = cs at hcl ⊢
      have h0 : (upd (upd H p1 (.lst [V.int 7, V.int 11])) p0 (.lst (cs.map V.int))) p0 = some (.lst (cs.map V.int)) := upd_same
      have s0 : Same H (upd (upd H p1 (.lst [V.int 7, V.int 11])) p0 (.lst (cs.map V.int))) := (Same.new hp1).put hp0
      generalize upd (upd H p1 (.lst [V.int 7, V.int 11])) p0 (.lst (cs.map V.int)) = H1 at h0 s0 ⊢
      refine ⟨p0, rfl, ⟨_, SqL.of h0⟩, fun acc hacc => comp_listI (K := K) (a := p0) (xs := cs.map V.int) (fun i ys H7 => ∃ (bs : List Addr) (fs : List Fr), ys = bs.map V.ref ∧ Same H1 H7 ∧ H7 acc = some (.lst (bs.map V.ref)) ∧ PySem.Paired (fun b (f : Fr) => b ≠ acc ∧ H7 b = some (frV f)) bs fs ∧ (∀ f ∈ fs, FrFit f) ∧ fs.length = i)
        ?_ ⟨[], [], rfl, Same.new hacc, upd_same, .nil, (fun _ z => nomatch z), rfl⟩ ?_ ?_ ?_⟩
      · rw [List.length_map]; exact Nat.le_of_lt (small1000 (by omega))
      · rintro i ys H7 ⟨bs, fs, rfl, s7, e7, p7, ok7, l7⟩
        refine ⟨e7, ?_, SqL.of (s7 _ _ h0)⟩
        rw [List.length_map, paired_len p7]
        omega
      · rintro i x ys H7 R hx ⟨bs, fs, rfl, s7, e7, p7, ok7, l7⟩ cont
        rw [List.getElem?_map] at hx
        obtain ⟨c, hc, rfl⟩ := Option.map_eq_some_iff.mp hx
        refine ⟨rfl, _, rfl, _, rfl, _, _, rfl, rfl, c, _, rfl, fun t f H8 s8 ht h8 o => cont _ _ (s8 _ _ e7) ?_⟩
        have hne : t ≠ acc := Ne.symm (ne_of_none e7 ht)
        refine ⟨bs ++ [t], fs ++ [f], by rw [List.map_append]; rfl, (s7.trans s8).wr hacc, by rw [upd_same, List.map_append]; rfl, Paired.snoc (paired_imp (fun b n z => ⟨z.1, by rw [upd_ne z.1]; exact s8 _ _ z.2⟩) p7) ⟨hne, by rw [upd_ne hne]; exact h8⟩, fun x hx => ?_, by rw [List.length_append, l7]; rfl⟩
        rcases List.mem_append.mp hx with z | z
        · exact ok7 x z
        · rw [List.mem_singleton.mp z]; exact o
      rintro ys H2 ⟨bs, fs, rfl, s2, e2, p2, ok2, l2⟩
      rw [List.length_map] at l2
      exact q acc fs H2 (s0.trans s2) (s0.free hacc) ⟨bs, e2, paired_imp (fun _ _ z => z.2) p2⟩ ok2 (by omega)
end
theorem ediv_ediv_mul {m w c : Int} (m0 : 0 ≤ m) (w0 : 0 < w) (c0 : 0 < c) : m / w / c = m / (w * c) := by
  obtain ⟨a, rfl⟩ := Int.eq_ofNat_of_zero_le m0
  obtain ⟨b, rfl⟩ := Int.eq_ofNat_of_zero_le (Int.le_of_lt w0)
  obtain ⟨d, rfl⟩ := Int.eq_ofNat_of_zero_le (Int.le_of_lt c0)
  exact_mod_cast Nat.div_div_eq_div_mul a b d
theorem emod_mul_split {m w c : Int} (m0 : 0 ≤ m) (w0 : 0 < w) (c0 : 0 < c) : m % w + w * (m / w % c) = m % (w * c) := by
  obtain ⟨a, rfl⟩ := Int.eq_ofNat_of_zero_le m0
  obtain ⟨b, rfl⟩ := Int.eq_ofNat_of_zero_le (Int.le_of_lt w0)
  obtain ⟨d, rfl⟩ := Int.eq_ofNat_of_zero_le (Int.le_of_lt c0)
  exact_mod_cast (Nat.mod_mul (x := a) (a := b) (b := d)).symm
structure RowM (fs : List Fr) (m : Int) (i : Nat) (f : Fr) (bs : List Int) : Prop where
  box : IsBox bs
  len : (bs.length : Int) = f.2.1
  num : numB bs = m / prodC (fs.take i) % cntF f
  sz : Szs 60010 bs
def PealR (fs : List Fr) (m : Int) (rs : List (List Int)) : Prop := ∀ (i : Nat) (f : Fr) (r : List Int), fs[i]? = some f → rs[i]? = some r → ∃ bs, r = bellL f.2.2 bs ∧ RowM fs m i f bs
def LLf (H0 H : Hp) (p : Addr) (rs : List (List Int)) : Prop := ∃ as : List Addr, H p = some (.lst (as.map V.ref)) ∧ as.Nodup ∧ PySem.Paired (fun b (ns : List Int) => b ≠ p ∧ H0 b = none ∧ H b = some (.lst (ns.map V.int))) as rs
theorem paired_mem {α β : Type} {R : α → β → Prop} {as : List α} {bs : List β} (h : PySem.Paired R as bs) {a : α} (ha : a ∈ as) : ∃ b, b ∈ bs ∧ R a b := by
  obtain ⟨i, hi⟩ := List.getElem?_of_mem ha
  obtain ⟨b, hb, r⟩ := paired_get h hi
  exact ⟨b, List.mem_of_getElem? hb, r⟩
theorem nodup_snoc {α : Type} {as : List α} {t : α} (h : as.Nodup) (ht : t ∉ as) : (as ++ [t]).Nodup := by
  rw [List.nodup_append]
  refine ⟨h, by simp, fun a ha b hb => ?_⟩
  rw [List.mem_singleton.mp hb]
  exact fun e => ht (e ▸ ha)
section
variable {P : Program} {w : World} {K : PySem.W.Frag} {mg : Str → Option Value} {base : Heap}
def spPealW (K : PySem.W.Frag) : Sp := fun vs H Q _ => ∃ (m : Int) (a : Addr) (fs : List Fr), vs = [.int m, .ref a] ∧ Frs H a fs ∧ (∀ f ∈ fs, FrFit f) ∧ fs.length ≤ 63 ∧ 0 ≤ m ∧ m < prodC fs ∧
  ∀ (p : Addr) (rs : List (List Int)) (H' : Hp), Same H H' → H p = none → LLf H H' p rs → rs.length = fs.length → PealR fs m rs → Q (.ref p) H'
theorem sc_peal_written : FnScope ["message", "frames", "peal", "left", "turns", "bells", "late", "count"] ["message", "frames"] (defScope st_peal_written) := ⟨rfl, rfl, rfl, by decide +kernel, rfl, by decide +kernel, by decide +kernel⟩
theorem ok_peal_written (D : Def K mg "peal_written" st_peal_written ["message", "frames"]) (T : Txt K mg) (G_belfry_count : Fn P w K mg base 3 "belfry_count" ["frames"] spBelf) (G_box_count : Fn P w K mg base 2 "box_count" ["turns", "bells", "late"] spCount) (G_written : Fn P w K mg base 40 "written" ["message", "turns", "bells", "late"] (spWritten K)) :
    Fn P w K mg base 41 "peal_written" ["message", "frames"] (spPealW K) := by
  refine D.fn sc_peal_written (fun vs H Q E h => ?_) (fun f cdv A outer s H vs Q E hr h => ?_)
  · obtain ⟨a, b, c, rfl, _⟩ := h
    rfl
  · obtain ⟨m, a, fs, rfl, FA, ok, hl, m0, m1, q⟩ := h
    refine ⟨_, (pss_cons (ps_if (pw_or (pt_cmpR op_ltI (pv 0) pe_int (nomark _)) (pw_or1 (pt_cmpR op_geI (pv 0) (pe_fn G_belfry_count (hr.mono (by decide)) (by rfl) (pa_cons (pv 1) pa_nil)) (nomark _)))).pt
        (pss_one (ps_never))
        pss_nil)
      (pss_cons (ps_set (i := 2) sc_peal_written.nd rfl (Or.inl rfl) (pe_lst pa_nil))
      (pss_cons (ps_set (i := 3) sc_peal_written.nd rfl (Or.inl rfl) (pv 0))
      (pss_cons (ps_for PassesOwn.never rfl (pi_list (pv 1)) (pg_tup (n := 3) rfl (pgs_cons (pg_name (i := 4) sc_peal_written.nd rfl (Or.inl rfl)) (pgs_cons (pg_name (i := 5) sc_peal_written.nd rfl (Or.inl rfl)) (pgs_cons (pg_name (i := 6) sc_peal_written.nd rfl (Or.inl rfl)) pgs_nil))))
        (pss_cons (ps_set (i := 7) sc_peal_written.nd rfl (Or.inl rfl) (pe_fn G_box_count (hr.mono (by decide)) (by rfl) (pa_cons (pv 4) (pa_cons (pv 5) (pa_cons (pv 6) pa_nil)))))
        (pss_cons (ps_expr (pe_bm PySem.F.plainAttrs_list PySem.F.slot_list_append PySem.F.type_list_append mt_append (pv 2) (pa_cons (pe_fn G_written (hr.mono (by decide)) (by rfl) (pa_cons (pe_op op_modB (pv 3) (pv 7)) (pa_cons (pv 4) (pa_cons (pv 5) (pa_cons (pv 6) pa_nil))))) pa_nil)))
        (pss_one (ps_set (i := 3) sc_peal_written.nd rfl (Or.inl rfl) (pe_op op_fdivB (pv 3) (pv 7)))))))
      (pss_one (ps_ret (pv 2))))))), ?_⟩
    have okk : ∀ f ∈ fs, FrOk f := fun f hf => (ok f hf).ok
    have pos := prodC_pos (fs := fs) fun f hf => (ok f hf).pos
    refine ⟨_, rfl, _, _, rfl, rfl, _, rfl, ifF (by omega) ⟨_, rfl, _, rfl, a, fs, rfl, FA, okk, by omega, _, _, rfl, rfl, _, rfl, ifF (by omega) ?_⟩⟩
    obtain ⟨as, hA, hF⟩ := FA
    have al := paired_len hF
    refine ⟨(by decide), fun p hp => ⟨_, rfl, ?_⟩⟩
    have pa : p ≠ a := Ne.symm (ne_of_none hA hp)
    refine ⟨_, rfl, a, rfl, ⟨_, SqL.of ((Same.new hp) _ _ hA)⟩, for_list (K := K) (a := a) (xs := as.map V.ref) (fun i σ H2 => ∃ (bs : List Addr) (rs : List (List Int)) (v4 v5 v6 v7 : Option V), σ = [some (.int m), some (.ref a), some (.ref p), some (.int (m / prodC (fs.take i))), v4, v5, v6, v7] ∧ Same H H2 ∧ H2 p = some (.lst (bs.map V.ref)) ∧ bs.Nodup ∧ PySem.Paired (fun b (ns : List Int) => b ≠ p ∧ H b = none ∧ H2 b = some (.lst (ns.map V.int))) bs rs ∧ rs.length = i ∧ PealR fs m rs) ⟨[], [], none, none, none, none, ?_, Same.new hp, upd_same, List.nodup_nil, .nil, rfl, fun i f r _ h => by simp at h⟩ (fun i σ H2 _ ⟨_, _, _, _, _, _, _, s, _⟩ => SqL.of (s _ _ hA)) ?_ ?_⟩
    · have e1 : prodC (fs.take 0) = 1 := rfl
      rw [e1, Int.ediv_one]
      rfl
    · rintro i y σ H2 hi ⟨bs, rs, v4, v5, v6, v7, rfl, sm, hB, nd, pP, rl, PR⟩
      rw [List.getElem?_map] at hi
      obtain ⟨t, ht, rfl⟩ := Option.map_eq_some_iff.mp hi
      obtain ⟨f, hf, hT⟩ := paired_get hF ht
      have ff := ok f (List.mem_of_getElem? hf)
      have o := ff.ok
      have cp := ff.pos
      have hi2 : i < fs.length := (List.getElem?_eq_some_iff.mp hf).1
      have bl := paired_len pP
      have d0 : 0 ≤ m / prodC (fs.take i) % cntF f := Int.emod_nonneg _ (by omega)
      have d1 : m / prodC (fs.take i) % cntF f < cntF f := Int.emod_lt_of_pos _ cp
      refine ⟨t, _, rfl, SqT.of (sm _ _ hT), rfl, _, _, rfl, _, _, rfl, _, _, rfl, rfl, ?_⟩
      refine ⟨_, rfl, _, rfl, _, rfl, f.1, f.2.1, f.2.2, rfl, o.b0, by have := o.b60; omega, o.l0, bits_mono o.lb (by decide), bits_mono o.tb (by decide), ?_⟩
      have ecf : cnt f.1 f.2.1 f.2.2 = cntF f := rfl
      rw [ecf]
      refine ⟨_, rfl, .inl ⟨rfl, _, SqL.of hB⟩, _, rfl, _, rfl, _, _, rfl, rfl, cp, _, rfl, _, rfl, _, rfl, m / prodC (fs.take i) % cntF f, f.1, f.2.1, f.2.2, rfl, d0, d1, o.b0, o.b60, o.l0, bits_mono o.lb (by decide), bits_mono o.tb (by decide), bits_mono (bits_lt d0 d1 o.cb) (by decide), fun r ks H3 s3 hr3 h3 B3 l3 n3 z3 => ?_⟩
      have hB3 := s3 _ _ hB
      have rp : r ≠ p := Ne.symm (ne_of_none hB hr3)
      have rn : r ∉ bs := fun z => by
        obtain ⟨u, _, _, _, hu⟩ := paired_mem pP z
        exact (ne_of_none hu hr3) rfl
      refine ⟨p, _, _, rfl, rfl, hB3, by rw [List.length_map]; exact small1000 (by omega), ?_⟩
      refine ⟨_, rfl, _, rfl, _, _, rfl, rfl, ⟨cp, bits_mono o.cb (by decide)⟩, ?_⟩
      refine ⟨bs ++ [r], rs ++ [bellL f.2.2 ks], some (.int f.1), some (.int f.2.1), some (.int f.2.2), some (.int (cntF f)), ?_, (sm.trans s3).wr hp, by rw [upd_same, List.map_append]; rfl, nodup_snoc nd rn, Paired.snoc (paired_imp (fun b n z => ⟨z.1, z.2.1, by rw [upd_ne z.1]; exact s3 _ _ z.2.2⟩) pP) ⟨rp, sm.free hr3, by rw [upd_ne rp]; exact h3⟩, by rw [List.length_append, rl]; rfl, ?_⟩
      · rw [take_snoc hf, prodC_snoc, ediv_ediv_mul m0 (pos i) cp]
        rfl
      · intro j g x hg hx
        by_cases hj : j < rs.length
        · rw [List.getElem?_append_left hj] at hx
          exact PR j g x hg hx
        · have hj2 : j = i := by
            have := (List.getElem?_eq_some_iff.mp hx).1
            rw [List.length_append] at this
            simp only [List.length_singleton] at this
            omega
          subst hj2
          rw [List.getElem?_append_right (by omega), rl, Nat.sub_self] at hx
          rw [hf] at hg
          cases hg
          cases hx
          exact ⟨ks, rfl, B3, by have := o.b0; omega, n3, z3⟩
    · rintro σ H2 ⟨bs, rs, v4, v5, v6, v7, rfl, sm, hB, nd, pP, rl, PR⟩
      rw [List.length_map, al] at rl
      exact ⟨_, rfl, q p rs H2 sm hp ⟨bs, hB, nd, pP⟩ rl PR⟩
end
section
variable {P : Program} {w : World} {K : PySem.W.Frag} {mg : Str → Option Value} {base : Heap}
def HearR (fs : List Fr) (m : Int) (ds : List (List Int)) : Prop := ∀ (i : Nat) (f : Fr) (d : List Int), fs[i]? = some f → ds[i]? = some d → (d.length : Int) = f.2.1 ∧ RowM fs m i f (boxL f.2.2 d)
def spPealRd (K : PySem.W.Frag) : Sp := fun vs H Q _ => ∃ (a b : Addr) (ds : List (List Int)) (fs : List Fr) (m : Int), vs = [.ref a, .ref b] ∧ LL H a ds ∧ Frs H b fs ∧ ds.length = fs.length ∧ (∀ f ∈ fs, FrFit f) ∧ fs.length ≤ 63 ∧ 0 ≤ m ∧ m < prodC fs ∧ HearR fs m ds ∧ ∀ H', Same H H' → Q (.int m) H'
theorem sc_peal_read : FnScope ["readings", "frames", "message", "weight", "place", "reading", "turns", "bells", "late"] ["readings", "frames"] (defScope st_peal_read) := ⟨rfl, rfl, rfl, by decide +kernel, rfl, by decide +kernel, by decide +kernel⟩
theorem ok_peal_read (D : Def K mg "peal_read" st_peal_read ["readings", "frames"]) (T : Txt K mg) (G_box_count : Fn P w K mg base 2 "box_count" ["turns", "bells", "late"] spCount) (G_read : Fn P w K mg base 3 "read" ["reading", "turns", "bells", "late"] (spRead K)) :
    Fn P w K mg base 4 "peal_read" ["readings", "frames"] (spPealRd K) := by
  refine D.fn sc_peal_read (fun vs H Q E h => ?_) (fun f cdv A outer s H vs Q E hr h => ?_)
  · obtain ⟨a, b, c, d, e, rfl, _⟩ := h
    rfl
  · obtain ⟨a, b, ds, fs, m, rfl, ⟨rs, hR, hP⟩, ⟨as, hA, hF⟩, dl, ok, hl, m0, m1, HR, q⟩ := h
    refine ⟨_, (pss_cons (ps_if (pt_cmpR op_neI (pe_callB call_len_seq (by rfl) T.z_len b_len (pa_cons (pv 0) pa_nil)) (pe_callB call_len_seq (by rfl) T.z_len b_len (pa_cons (pv 1) pa_nil)) (nomark _))
        (pss_one (ps_never))
        pss_nil)
      (pss_cons (ps_set (i := 2) sc_peal_read.nd rfl (Or.inl rfl) pe_int)
      (pss_cons (ps_set (i := 3) sc_peal_read.nd rfl (Or.inl rfl) pe_int)
      (pss_cons (ps_for PassesOwn.never rfl (pi_enumL (by rfl) T.z_enumerate (pa_cons (pv 0) pa_nil)) (pg_tup (n := 2) rfl (pgs_cons (pg_name (i := 4) sc_peal_read.nd rfl (Or.inl rfl)) (pgs_cons (pg_name (i := 5) sc_peal_read.nd rfl (Or.inl rfl)) pgs_nil)))
        (pss_cons (ps_set (i := 6) sc_peal_read.nd rfl (Or.inl rfl) (pe_ix ix_tup (pe_ix ix_list (pv 1) (pv 4) (fun _ _ => rfl)) pe_int (fun _ _ => rfl)))
        (pss_cons (ps_set (i := 7) sc_peal_read.nd rfl (Or.inl rfl) (pe_ix ix_tup (pe_ix ix_list (pv 1) (pv 4) (fun _ _ => rfl)) pe_int (fun _ _ => rfl)))
        (pss_cons (ps_set (i := 8) sc_peal_read.nd rfl (Or.inl rfl) (pe_ix ix_tup (pe_ix ix_list (pv 1) (pv 4) (fun _ _ => rfl)) pe_int (fun _ _ => rfl)))
        (pss_cons (ps_set (i := 2) sc_peal_read.nd rfl (Or.inl rfl) (pe_op op_addI (pv 2) (pe_op op_mulB (pv 3) (pe_fn G_read (hr.mono (by decide)) (by rfl) (pa_cons (pv 5) (pa_cons (pv 6) (pa_cons (pv 7) (pa_cons (pv 8) pa_nil))))))))
        (pss_one (ps_set (i := 3) sc_peal_read.nd rfl (Or.inl rfl) (pe_op op_mulB (pv 3) (pe_fn G_box_count (hr.mono (by decide)) (by rfl) (pa_cons (pv 6) (pa_cons (pv 7) (pa_cons (pv 8) pa_nil))))))))))))
      (pss_one (ps_ret (pv 2))))))), ?_⟩
    have okk : ∀ f ∈ fs, FrOk f := fun f hf => (ok f hf).ok
    have pos := prodC_pos (fs := fs) fun f hf => (ok f hf).pos
    have al := paired_len hF
    have rl := paired_len hP
    refine ⟨_, rfl, _, _, rfl, .inl (SqL.of hR), _, rfl, _, _, rfl, .inl (SqL.of hA), _, _, rfl, rfl, _, rfl, iteNS (by rw [List.length_map, List.length_map]; omega) ?_⟩
    refine ⟨_, rfl, a, rs.map V.ref, rfl, SqL.of hR, for_enum (K := K) (a := a) (xs := rs.map V.ref) (fun i σ H2 => ∃ v4 v5 v6 v7 v8 : Option V, σ = [some (.ref a), some (.ref b), some (.int (m % prodC (fs.take i))), some (.int (prodC (fs.take i))), v4, v5, v6, v7, v8] ∧ Same H H2) ⟨none, none, none, none, none, ?_, Same.refl _⟩ (fun i σ H2 ⟨_, _, _, _, _, _, s⟩ => SqL.of (s _ _ hR)) ?_ ?_⟩
    · have e1 : prodC (fs.take 0) = 1 := rfl
      rw [e1, Int.emod_one]
      rfl
    · rintro i xv t σ H2 hx ⟨v4, v5, v6, v7, v8, rfl, sm⟩ ht
      rw [List.getElem?_map] at hx
      obtain ⟨c, hc, rfl⟩ := Option.map_eq_some_iff.mp hx
      obtain ⟨d, hd, hcd⟩ := paired_get hP hc
      have hi : i < as.length := by have := (List.getElem?_eq_some_iff.mp hc).1; omega
      obtain ⟨u, hu⟩ : ∃ u, as[i]? = some u := ⟨_, List.getElem?_eq_getElem hi⟩
      obtain ⟨f, hf, hT⟩ := paired_get hF hu
      have ff := ok f (List.mem_of_getElem? hf)
      have o := ff.ok
      have cp := ff.pos
      obtain ⟨len, RM⟩ := HR i f d hf hd
      have s3 : Same H (upd H2 t (.tup [.int i, .ref c])) := sm.put ht
      have ht3 : (upd H2 t (.tup [.int i, .ref c])) t = some (.tup [.int i, .ref c]) := upd_same
      generalize upd H2 t (.tup [.int i, .ref c]) = H3 at s3 ht3 ⊢
      have g : atI (as.map V.ref) (i : Int) = some (V.ref u) := atI_nat (by rw [List.getElem?_map, hu]; rfl)
      have hA2 := SqL.of (K := K) (s3 _ _ hA)
      have hT2 := SqT.of (K := K) (s3 _ _ hT)
      have wb : intBits (prodC (fs.take i)) ≤ 6200 * 63 + 1 := bits_mono (prodC_bits okk i) (by omega)
      have d0 : 0 ≤ m / prodC (fs.take i) % cntF f := Int.emod_nonneg _ (by omega)
      have d1 : m / prodC (fs.take i) % cntF f < cntF f := Int.emod_lt_of_pos _ cp
      refine ⟨t, _, rfl, SqT.of ht3, rfl, _, _, rfl, _, _, rfl, rfl, ?_⟩
      refine ⟨_, rfl, _, rfl, _, _, _, _, rfl, rfl, hA2, g, _, _, _, _, rfl, rfl, hT2, rfl, ?_⟩
      refine ⟨_, rfl, _, rfl, _, _, _, _, rfl, rfl, hA2, g, _, _, _, _, rfl, rfl, hT2, rfl, ?_⟩
      refine ⟨_, rfl, _, rfl, _, _, _, _, rfl, rfl, hA2, g, _, _, _, _, rfl, rfl, hT2, rfl, ?_⟩
      refine ⟨_, rfl, _, rfl, _, rfl, _, rfl, _, rfl, _, rfl, c, d, f.1, f.2.1, f.2.2, rfl, SqL.of (s3 _ _ hcd), len, o.b60, o.l0, bits_mono o.lb (by decide), bits_mono o.tb (by decide), RM.box, fun x hx => bits_mono (RM.sz x hx) (by decide), by rw [RM.num]; exact d1, fun H4 s4 => ?_⟩
      rw [RM.num]
      refine ⟨_, _, rfl, rfl, ⟨6200 * 63 + 1, 6200, wb, bits_lt d0 d1 o.cb, by decide⟩, _, _, rfl, rfl, ?_⟩
      refine ⟨_, rfl, _, rfl, _, rfl, _, rfl, f.1, f.2.1, f.2.2, rfl, o.b0, by have := o.b60; omega, o.l0, bits_mono o.lb (by decide), bits_mono o.tb (by decide), _, _, rfl, rfl, ⟨6200 * 63 + 1, 6200, wb, o.cb, by decide⟩, ?_⟩
      refine ⟨some (.int (i : Int)), some (.ref c), some (.int f.1), some (.int f.2.1), some (.int f.2.2), ?_, s3.trans s4⟩
      rw [take_snoc hf, prodC_snoc, ← emod_mul_split m0 (pos i) cp]
      rfl
    · rintro σ H2 ⟨v4, v5, v6, v7, v8, rfl, sm⟩
      rw [List.length_map, show rs.length = fs.length by omega, List.take_length, Int.emod_eq_of_lt m0 m1]
      exact ⟨_, rfl, q _ sm⟩
end
section
variable {P : Program} {w : World} {K : PySem.W.Frag} {mg : Str → Option Value} {base : Heap}
def spPealWE (C : Addr) : Sp := fun vs H _ E => ∃ (m : Int) (a : Addr) (fs : List Fr), vs = [.int m, .ref a] ∧ Frs H a fs ∧ (∀ f ∈ fs, FrOk f) ∧ fs.length ≤ 64 ∧ ¬ (0 ≤ m ∧ m < prodC fs) ∧ E (.ref C) none H
theorem ok_peal_writtenE {C_TooGreat : Addr} (D : Def K mg "peal_written" st_peal_written ["message", "frames"]) (T : Txt K mg) (m_TooGreat : mg "TooGreat" = some (.ref C_TooGreat)) (x_TooGreat : PySem.W.excIn K C_TooGreat bmV "ValueError.__new__" = true) (G_belfry_count : Fn P w K mg base 3 "belfry_count" ["frames"] spBelf) (G_box_count : Fn P w K mg base 2 "box_count" ["turns", "bells", "late"] spCount) (GE_written : FnE P w K mg base 40 "written" ["message", "turns", "bells", "late"] (spWrittenE K C_TooGreat)) :
    FnE P w K mg base 41 "peal_written" ["message", "frames"] (spPealWE C_TooGreat) := by
  refine D.fnE sc_peal_written (fun vs H Q E h => ?_) (fun f cdv A outer s H vs Q E hr h => ?_)
  · obtain ⟨a, b, c, rfl, _⟩ := h
    rfl
  · obtain ⟨m, a, fs, rfl, FA, ok, hl, bad, q⟩ := h
    refine ⟨_, (pss_cons (ps_if (pw_or (pt_cmpR op_ltI (pv 0) pe_int (nomark _)) (pw_or1 (pt_cmpR op_geI (pv 0) (pe_fn G_belfry_count (hr.mono (by decide)) (by rfl) (pa_cons (pv 1) pa_nil)) (nomark _)))).pt
        (pss_one (ps_raise PySem.F.excBase_ValueError x_TooGreat (by rfl) m_TooGreat (pa_cons pe_str pa_nil)))
        pss_nil)
      (pss_cons (ps_set (i := 2) sc_peal_written.nd rfl (Or.inl rfl) (pe_lst pa_nil))
      (pss_cons (ps_set (i := 3) sc_peal_written.nd rfl (Or.inl rfl) (pv 0))
      (pss_cons (ps_for PassesOwn.leaving rfl (pi_list (pv 1)) (pg_tup (n := 3) rfl (pgs_cons (pg_name (i := 4) sc_peal_written.nd rfl (Or.inl rfl)) (pgs_cons (pg_name (i := 5) sc_peal_written.nd rfl (Or.inl rfl)) (pgs_cons (pg_name (i := 6) sc_peal_written.nd rfl (Or.inl rfl)) pgs_nil))))
        (pss_cons (ps_set (i := 7) sc_peal_written.nd rfl (Or.inl rfl) (pe_fn G_box_count (hr.mono (by decide)) (by rfl) (pa_cons (pv 4) (pa_cons (pv 5) (pa_cons (pv 6) pa_nil)))))
        (pss_cons (ps_expr (pe_bm PySem.F.plainAttrs_list PySem.F.slot_list_append PySem.F.type_list_append mt_append (pv 2) (pa_cons (pe_fnG GE_written (hr.mono (by decide)) (by rfl) passesE (pa_cons (pe_op op_modB (pv 3) (pv 7)) (pa_cons (pv 4) (pa_cons (pv 5) (pa_cons (pv 6) pa_nil))))) pa_nil)))
        (pss_one (ps_set (i := 3) sc_peal_written.nd rfl (Or.inl rfl) (pe_op op_fdivB (pv 3) (pv 7)))))))
      (pss_one (ps_ret (pv 2))))))), ?_⟩
    refine ⟨_, rfl, _, _, rfl, rfl, _, rfl, ifD (fun _ => ⟨(by decide), q⟩) (fun h => ⟨_, rfl, _, rfl, a, fs, rfl, FA, ok, hl, _, _, rfl, rfl, _, rfl, ifT (by omega) ⟨(by decide), q⟩⟩)⟩
def spPealRE (K : PySem.W.Frag) (C : Addr) : Sp := fun vs H _ E => ∃ (a b : Addr) (ds : List (List Int)) (fs : List Fr), vs = [.ref a, .ref b] ∧ LL H a ds ∧ Frs H b fs ∧ (∀ f ∈ fs, FrOk f) ∧ fs.length ≤ 63 ∧ (∀ (i : Nat) (f : Fr) (d : List Int), fs[i]? = some f → ds[i]? = some d → d.length ≤ 60 ∧ Szs 70000 (boxL f.2.2 d)) ∧
  (ds.length ≠ fs.length ∨ ∃ (i : Nat) (f : Fr) (d : List Int), fs[i]? = some f ∧ ds[i]? = some d ∧ ¬ GoodR f.1 f.2.1 f.2.2 d) ∧ ∀ H', Same H H' → E (.ref C) none H'
theorem ok_peal_readE {C_NoReading : Addr} (D : Def K mg "peal_read" st_peal_read ["readings", "frames"]) (T : Txt K mg) (m_NoReading : mg "NoReading" = some (.ref C_NoReading)) (x_NoReading : PySem.W.excIn K C_NoReading bmV "ValueError.__new__" = true) (G_box_count : Fn P w K mg base 2 "box_count" ["turns", "bells", "late"] spCount) (GE_read : FnE P w K mg base 3 "read" ["reading", "turns", "bells", "late"] (spReadE K C_NoReading)) :
    FnE P w K mg base 4 "peal_read" ["readings", "frames"] (spPealRE K C_NoReading) := by
  refine D.fnE sc_peal_read (fun vs H Q E h => ?_) (fun f cdv A outer s H vs Q E hr h => ?_)
  · obtain ⟨a, b, c, d, rfl, _⟩ := h
    rfl
  · obtain ⟨a, b, ds, fs, rfl, ⟨rs, hR, hP⟩, ⟨as, hA, hF⟩, okk, hl, hd0, bad, q⟩ := h
    refine ⟨_, (pss_cons (ps_if (pt_cmpR op_neI (pe_callB call_len_seq (by rfl) T.z_len b_len (pa_cons (pv 0) pa_nil)) (pe_callB call_len_seq (by rfl) T.z_len b_len (pa_cons (pv 1) pa_nil)) (nomark _))
        (pss_one (ps_raise PySem.F.excBase_ValueError x_NoReading (by rfl) m_NoReading (pa_cons pe_str pa_nil)))
        pss_nil)
      (pss_cons (ps_set (i := 2) sc_peal_read.nd rfl (Or.inl rfl) pe_int)
      (pss_cons (ps_set (i := 3) sc_peal_read.nd rfl (Or.inl rfl) pe_int)
      (pss_cons (ps_for PassesOwn.leaving rfl (pi_enumL (by rfl) T.z_enumerate (pa_cons (pv 0) pa_nil)) (pg_tup (n := 2) rfl (pgs_cons (pg_name (i := 4) sc_peal_read.nd rfl (Or.inl rfl)) (pgs_cons (pg_name (i := 5) sc_peal_read.nd rfl (Or.inl rfl)) pgs_nil)))
        (pss_cons (ps_set (i := 6) sc_peal_read.nd rfl (Or.inl rfl) (pe_ix ix_tup (pe_ix ix_list (pv 1) (pv 4) (fun _ _ => rfl)) pe_int (fun _ _ => rfl)))
        (pss_cons (ps_set (i := 7) sc_peal_read.nd rfl (Or.inl rfl) (pe_ix ix_tup (pe_ix ix_list (pv 1) (pv 4) (fun _ _ => rfl)) pe_int (fun _ _ => rfl)))
        (pss_cons (ps_set (i := 8) sc_peal_read.nd rfl (Or.inl rfl) (pe_ix ix_tup (pe_ix ix_list (pv 1) (pv 4) (fun _ _ => rfl)) pe_int (fun _ _ => rfl)))
        (pss_cons (ps_set (i := 2) sc_peal_read.nd rfl (Or.inl rfl) (pe_op op_addI (pv 2) (pe_op op_mulB (pv 3) (pe_fnG GE_read (hr.mono (by decide)) (by rfl) passesE (pa_cons (pv 5) (pa_cons (pv 6) (pa_cons (pv 7) (pa_cons (pv 8) pa_nil))))))))
        (pss_one (ps_set (i := 3) sc_peal_read.nd rfl (Or.inl rfl) (pe_op op_mulB (pv 3) (pe_fn G_box_count (hr.mono (by decide)) (by rfl) (pa_cons (pv 6) (pa_cons (pv 7) (pa_cons (pv 8) pa_nil))))))))))))
      (pss_one (ps_ret (pv 2))))))), ?_⟩
    have al := paired_len hF
    have rl := paired_len hP
    refine ⟨_, rfl, _, _, rfl, .inl (SqL.of hR), _, rfl, _, _, rfl, .inl (SqL.of hA), _, _, rfl, rfl, _, rfl, ?_⟩
    rw [List.length_map, List.length_map]
    refine ifND (fun e => ⟨(by decide), q _ (Same.refl _)⟩) (fun e => ?_)
    have dl : ds.length = fs.length := by omega
    obtain ⟨bi, bf, bd, b1, b2, b3⟩ : ∃ (i : Nat) (f : Fr) (d : List Int), fs[i]? = some f ∧ ds[i]? = some d ∧ ¬ GoodR f.1 f.2.1 f.2.2 d := by
      rcases bad with z | z
      · exact absurd dl z
      · exact z
    refine ⟨_, rfl, a, rs.map V.ref, rfl, SqL.of hR, for_enum (K := K) (a := a) (xs := rs.map V.ref) (fun i σ H2 => ∃ (mm : Int) (v4 v5 v6 v7 v8 : Option V), σ = [some (.ref a), some (.ref b), some (.int mm), some (.int (prodC (fs.take i))), v4, v5, v6, v7, v8] ∧ Same H H2 ∧ i ≤ bi) ⟨0, none, none, none, none, none, rfl, Same.refl _, Nat.zero_le _⟩ (fun i σ H2 ⟨_, _, _, _, _, _, _, s, _⟩ => SqL.of (s _ _ hR)) ?_ ?_⟩
    · rintro i xv t σ H2 hx ⟨mm, v4, v5, v6, v7, v8, rfl, sm, ib⟩ ht
      rw [List.getElem?_map] at hx
      obtain ⟨c, hc, rfl⟩ := Option.map_eq_some_iff.mp hx
      obtain ⟨d, hd, hcd⟩ := paired_get hP hc
      have hi : i < as.length := by have := (List.getElem?_eq_some_iff.mp hc).1; omega
      obtain ⟨u, hu⟩ : ∃ u, as[i]? = some u := ⟨_, List.getElem?_eq_getElem hi⟩
      obtain ⟨f, hf, hT⟩ := paired_get hF hu
      have o := okk f (List.mem_of_getElem? hf)
      obtain ⟨len, sz⟩ := hd0 i f d hf hd
      have s3 : Same H (upd H2 t (.tup [.int i, .ref c])) := sm.put ht
      have ht3 : (upd H2 t (.tup [.int i, .ref c])) t = some (.tup [.int i, .ref c]) := upd_same
      generalize upd H2 t (.tup [.int i, .ref c]) = H3 at s3 ht3 ⊢
      have g : atI (as.map V.ref) (i : Int) = some (V.ref u) := atI_nat (by rw [List.getElem?_map, hu]; rfl)
      have hA2 := SqL.of (K := K) (s3 _ _ hA)
      have hT2 := SqT.of (K := K) (s3 _ _ hT)
      have wb : intBits (prodC (fs.take i)) ≤ 6200 * 63 + 1 := bits_mono (prodC_bits okk i) (by omega)
      refine ⟨t, _, rfl, SqT.of ht3, rfl, _, _, rfl, _, _, rfl, rfl, ?_⟩
      refine ⟨_, rfl, _, rfl, _, _, _, _, rfl, rfl, hA2, g, _, _, _, _, rfl, rfl, hT2, rfl, ?_⟩
      refine ⟨_, rfl, _, rfl, _, _, _, _, rfl, rfl, hA2, g, _, _, _, _, rfl, rfl, hT2, rfl, ?_⟩
      refine ⟨_, rfl, _, rfl, _, _, _, _, rfl, rfl, hA2, g, _, _, _, _, rfl, rfl, hT2, rfl, ?_⟩
      refine ⟨_, rfl, _, rfl, _, rfl, _, rfl, _, rfl, _, rfl, c, d, f.1, f.2.1, f.2.2, rfl, SqL.of (s3 _ _ hcd), len, o.b0, o.b60, o.l0, bits_mono o.lb (by decide), bits_mono o.tb (by decide), sz, fun G H4 s4 => ?_, fun _ H4 s4 => q _ (s3.trans s4)⟩
      have nb : intBits (numB (boxL f.2.2 d)) ≤ 6200 := bits_lt (numTo_nonneg _ _) G.2.2 o.cb
      refine ⟨_, _, rfl, rfl, ⟨6200 * 63 + 1, 6200, wb, nb, by decide⟩, _, _, rfl, rfl, ?_⟩
      refine ⟨_, rfl, _, rfl, _, rfl, _, rfl, f.1, f.2.1, f.2.2, rfl, o.b0, by have := o.b60; omega, o.l0, bits_mono o.lb (by decide), bits_mono o.tb (by decide), _, _, rfl, rfl, ⟨6200 * 63 + 1, 6200, wb, o.cb, by decide⟩, ?_⟩
      have ne : i ≠ bi := fun e => by
        subst e
        rw [hf] at b1
        rw [hd] at b2
        cases b1
        cases b2
        exact b3 G
      refine ⟨mm + prodC (fs.take i) * numB (boxL f.2.2 d), some (.int (i : Int)), some (.ref c), some (.int f.1), some (.int f.2.1), some (.int f.2.2), ?_, s3.trans s4, by omega⟩
      rw [take_snoc hf, prodC_snoc]
      rfl
    · rintro σ H2 ⟨mm, v4, v5, v6, v7, v8, rfl, sm, ib⟩
      rw [List.length_map] at ib
      have := (List.getElem?_eq_some_iff.mp b2).1
      omega
end
theorem al_snoc {l x z : Int} (h1 : x ≤ z) (h2 : z ≤ x + l) : ∀ {ns zs : List Int}, Al l ns zs → Al l (ns ++ [x]) (zs ++ [z])
  | [], [], _ => ⟨h1, h2, trivial⟩
  | [], _ :: _, h => h.elim
  | _ :: _, [], h => h.elim
  | _ :: _, _ :: _, ⟨a, b, c⟩ => ⟨a, b, al_snoc h1 h2 c⟩
theorem al_len' {l : Int} {ns zs : List Int} (h : Al l ns zs) : ns.length = zs.length := ((al_iff l ns zs).mp h).1
def twoL (L : Int) : Nat → List Int
  | 0 => []
  | n + 1 => 4 :: L :: twoL L n
theorem flat_two (L : Int) : ∀ n : Nat, (List.replicate n [V.int 4, V.int L]).flatten = (twoL L n).map V.int
  | 0 => rfl
  | n + 1 => by
    rw [List.replicate_succ, List.flatten_cons, flat_two L n]
    rfl
theorem twoL_len (L : Int) : ∀ n : Nat, (twoL L n).length = 2 * n
  | 0 => rfl
  | n + 1 => by
    show (twoL L n).length + 1 + 1 = _
    rw [twoL_len L n]
    omega
theorem twoL_mem {L s : Int} : ∀ {n : Nat}, s ∈ twoL L n → s = 4 ∨ s = L
  | 0, h => nomatch h
  | n + 1, h => by
    rcases List.mem_cons.mp h with e | h
    · exact .inl e
    · rcases List.mem_cons.mp h with e | h
      · exact .inr e
      · exact twoL_mem h
theorem twoL_get (L : Int) : ∀ {n i : Nat}, i < n → (twoL L n)[2 * i]? = some 4 ∧ (twoL L n)[2 * i + 1]? = some L
  | 0, _, h => absurd h (Nat.not_lt_zero _)
  | n + 1, 0, _ => ⟨rfl, rfl⟩
  | n + 1, i + 1, h => by
    obtain ⟨h1, h2⟩ := twoL_get L (n := n) (i := i) (by omega)
    constructor
    · show (4 :: L :: twoL L n)[2 * i + 1 + 1]? = _
      rw [List.getElem?_cons_succ, List.getElem?_cons_succ]
      exact h1
    · show (4 :: L :: twoL L n)[2 * i + 1 + 1 + 1]? = _
      rw [List.getElem?_cons_succ, List.getElem?_cons_succ]
      exact h2
section
variable {P : Program} {w : World} {K : PySem.W.Frag} {mg : Str → Option Value} {base : Heap}
def spLateL (K : PySem.W.Frag) : Sp := fun vs H Q _ => ∃ (r : Addr) (ns : List Int) (late c : Int), vs = [.ref r, .int late, .int c] ∧ SqL K H r (ns.map V.int) ∧ ns.length ≤ 60 ∧ ns.Pairwise (· ≤ ·) ∧ 0 ≤ late ∧ intBits late ≤ 8000 ∧
  ∀ (p : Addr) (ms : List Int) (H' : Hp), Same H H' → H p = none → H' p = some (.lst (ms.map V.int)) → Al late ns ms → Q (.ref p) H'
theorem sc__law_late : FnScope ["row", "late", "cell", "drawn", "heard_so", "i"] ["row", "late", "cell"] (defScope st__law_late) := ⟨rfl, rfl, rfl, by decide +kernel, rfl, by decide +kernel, by decide +kernel⟩
theorem ok_lateL (D : Def K mg "_law_late" st__law_late ["row", "late", "cell"]) (T : Txt K mg) (G__law_drawn : Fn P w K mg base 2 "_law_drawn" ["cell", "sizes"] (spDrawnL K)) : Fn P w K mg base 3 "_law_late" ["row", "late", "cell"] (spLateL K) := by
  refine D.fn sc__law_late (fun vs H Q E h => ?_) (fun f cdv A outer s H vs Q E hr h => ?_)
  · obtain ⟨a, b, c, d, rfl, _⟩ := h
    rfl
  · obtain ⟨r, ns, late, c, rfl, hR, hl, hs, l0, lb, q⟩ := h
    refine ⟨_, (pss_cons (ps_set (i := 3) sc__law_late.nd rfl (Or.inl rfl) (pe_fn G__law_drawn (hr.mono (by decide)) (by rfl) (pa_cons (pv 2) (pa_cons (pe_op op_rep (pe_lst (pa_cons pe_int (pa_cons (pe_op op_addI (pv 1) pe_int) pa_nil))) (pe_callB call_len_seq (by rfl) T.z_len b_len (pa_cons (pv 0) pa_nil))) pa_nil))))
      (pss_cons (ps_set (i := 4) sc__law_late.nd rfl (Or.inl rfl) (pe_lst pa_nil))
      (pss_cons (ps_for PassesOwn.never rfl (pi_range1 (by rfl) T.z_range (pa_cons (pe_callB call_len_seq (by rfl) T.z_len b_len (pa_cons (pv 0) pa_nil)) pa_nil)) (pg_name (i := 5) sc__law_late.nd rfl (Or.inl rfl))
        (pss_one (ps_expr (pe_bm PySem.F.plainAttrs_list PySem.F.slot_list_append PySem.F.type_list_append mt_append (pv 4) (pa_cons (pe_op op_addI (pe_ix ix_list (pv 0) (pv 5) (fun _ _ => rfl)) (pe_ix ix_list (pe_lst (pa_cons pe_int (pa_cons (pv 1) (pa_cons (pe_ix ix_list (pv 3) (pe_op op_addI (pe_op op_mulB pe_int (pv 5)) pe_int) (fun _ _ => rfl)) (pa_cons (pe_ix ix_list (pv 3) (pe_op op_addI (pe_op op_mulB pe_int (pv 5)) pe_int) (fun _ _ => rfl)) pa_nil))))) (pe_ix ix_list (pv 3) (pe_op op_mulB pe_int (pv 5)) (fun _ _ => rfl)) (fun _ _ => rfl))) pa_nil)))))
      (pss_one (ps_ret (pe_callB call_sortedI (by rfl) T.z_sorted b_sorted (pa_cons (pv 4) pa_nil))))))), ?_⟩
    have lb1 : intBits (late + 1) ≤ 9000 := bits_mono (intBits_add_le (m := 8000) (n := 1) lb (by decide)) (by decide)
    refine ⟨_, rfl, _, rfl, _, _, rfl, rfl, (by show 2 ≤ sizeLine; decide), fun p1 hp1 => ⟨_, rfl, _, _, rfl, .inl ((Same.new hp1).seq hR), ?_⟩⟩
    rw [List.length_map]
    refine ⟨p1, (ns.length : Int), _, rfl, rfl, upd_same, by omega, by omega, ?_, fun p2 hp2 => ?_⟩
    · show 2 * ((ns.length : Int)).toNat ≤ sizeLine
      exact Nat.le_of_lt (small1000 (by omega))
    rw [show ((ns.length : Int)).toNat = ns.length by omega, flat_two]
    have s2 : Same H (upd (upd H p1 (.lst [V.int 4, V.int (late + 1)])) p2 (.lst ((twoL (late + 1) ns.length).map V.int))) := (Same.new hp1).put hp2
    have h2 : (upd (upd H p1 (.lst [V.int 4, V.int (late + 1)])) p2 (.lst ((twoL (late + 1) ns.length).map V.int))) p2 = some (.lst ((twoL (late + 1) ns.length).map V.int)) := upd_same
    generalize upd (upd H p1 (.lst [V.int 4, V.int (late + 1)])) p2 (.lst ((twoL (late + 1) ns.length).map V.int)) = H2 at s2 h2 ⊢
    refine ⟨c, p2, twoL (late + 1) ns.length, rfl, SqL.of h2, by rw [twoL_len]; omega, fun s hs => ?_, fun p3 ds H3 s3 hp3 h3 hD => ?_⟩
    · rcases twoL_mem hs with rfl | rfl
      · exact ⟨by decide, by decide⟩
      · exact ⟨by omega, lb1⟩
    have s03 := s2.trans s3
    refine ⟨(by decide), fun p hp => ?_⟩
    have p0 : H p = none := s03.free hp
    have h34 := (Same.new (o := .lst []) hp) _ _ h3
    refine ⟨_, rfl, _, _, rfl, .inl ((s03.put hp).seq hR), _, rfl, ?_⟩
    rw [List.length_map]
    refine ⟨by omega, by omega, for_range (n := ns.length) (fun i σ H4 => ∃ (zs : List Int) (v5 : Option V), σ = [some (.ref r), some (.int late), some (.int c), some (.ref p3), some (.ref p), v5] ∧ Same H3 H4 ∧ H4 p = some (.lst (zs.map V.int)) ∧ Al late (ns.take i) zs) ⟨[], none, rfl, Same.new hp, upd_same, trivial⟩ ?_ ?_⟩
    · rintro i σ H4 hi ⟨zs, v5, rfl, s4, h4, hAl⟩
      rw [show (0 : Int) + (i : Int) = (i : Int) by omega]
      obtain ⟨x, hx⟩ : ∃ x, ns[i]? = some x := ⟨_, List.getElem?_eq_getElem hi⟩
      obtain ⟨t1, t2⟩ := twoL_get (late + 1) hi
      obtain ⟨d1, e1, d10, d11⟩ := dr_at hD t1
      obtain ⟨d2, e2, d20, d21⟩ := dr_at hD t2
      have g0 := at_map hx
      have g1 := at_map e1
      have g2 := at_map e2
      rw [show ((2 * i : Nat) : Int) = 2 * (i : Int) by omega] at g1
      rw [show ((2 * i + 1 : Nat) : Int) = 2 * (i : Int) + 1 by omega] at g2
      have zl := al_len' hAl
      rw [List.length_take] at zl
      have hR4 := (s03.trans s4).seq hR
      have hd4 := SqL.of (K := K) (s4 _ _ h3)
      obtain ⟨v, hv, e⟩ := at4 (V.int 0) (V.int late) (V.int d2) (V.int d2) d10 d11
      obtain ⟨d, rfl, d0, dd1⟩ : ∃ d : Int, v = .int d ∧ 0 ≤ d ∧ d ≤ late := by
        rcases e with rfl | rfl | rfl | rfl
        all_goals exact ⟨_, rfl, by omega, by omega⟩
      have ib : intBits (i : Int) ≤ 10 := bits_of (by omega) (by omega)
      refine ⟨_, rfl, .inl ⟨rfl, _, SqL.of h4⟩, _, rfl, _, rfl, _, _, _, _, rfl, rfl, hR4, g0, _, rfl, _, rfl, _, rfl, _, _, rfl, rfl, ⟨10, 10, by decide, ib, by decide⟩, _, _, rfl, rfl, _, _, _, _, rfl, rfl, hd4, g2, _, rfl, _, rfl, _, _, rfl, rfl, ⟨10, 10, by decide, ib, by decide⟩, _, _, rfl, rfl, _, _, _, _, rfl, rfl, hd4, g2, (by show 4 ≤ sizeLine; decide), fun p5 hp5 => ?_⟩
      have s5 : Same H4 (upd H4 p5 (.lst [V.int 0, V.int late, V.int d2, V.int d2])) := Same.new hp5
      refine ⟨_, rfl, _, rfl, _, _, rfl, rfl, ⟨10, 10, by decide, ib, by decide⟩, _, _, _, _, rfl, rfl, s5.seq hd4, g1, _, _, _, _, rfl, rfl, SqL.of upd_same, hv, _, _, rfl, rfl, _, _, _, rfl, rfl, s5 _ _ h4, by rw [List.length_map]; exact small1000 (by omega), ?_⟩
      refine ⟨zs ++ [x + d], _, rfl, (s4.put hp5).wr hp, by rw [upd_same, List.map_append]; rfl, ?_⟩
      rw [List.take_add_one, hx]
      exact al_snoc (by omega) (by omega) hAl
    · rintro σ H4 ⟨zs, v5, rfl, s4, h4, hAl⟩
      rw [List.take_length] at hAl
      have zl := al_len' hAl
      exact ⟨_, rfl, p, zs, rfl, SqL.of h4, by omega, fun l ms hn pmm pw => q l ms _ ((s03.trans s4).put hn) ((s03.trans s4).free hn) upd_same (al_sort hs hAl pmm pw)⟩
end
theorem cut_init (ns : List Int) (x : Int) : cutI (ns ++ [x]) none (some (-1)) = ns := by
  have e : HT.sIx (ns.length + 1) (ns.length + 1) (some (-1)) = ns.length := by
    unfold HT.sIx
    dsimp only
    rw [if_pos (by decide)]; omega
  have e0 : HT.sIx (ns.length + 1) 0 none = 0 := rfl
  unfold cutI
  rw [List.length_append, List.length_singleton, e, e0, List.drop_zero, Nat.sub_zero, List.take_left']
  rfl
section
variable {P : Program} {w : World} {K : PySem.W.Frag} {mg : Str → Option Value} {base : Heap}
def BadH (fs : List Fr) (ds : List (List Int)) : Prop := ds.length ≠ fs.length ∨ ∃ (i : Nat) (f : Fr) (d : List Int), fs[i]? = some f ∧ ds[i]? = some d ∧ ¬ GoodR f.1 f.2.1 f.2.2 d
def SzH (fs : List Fr) (ds : List (List Int)) : Prop := ∀ (i : Nat) (f : Fr) (d : List Int), fs[i]? = some f → ds[i]? = some d → d.length ≤ 60 ∧ Szs 70000 (boxL f.2.2 d)
def spKind : Sp := fun vs H Q _ => ∃ (thing : V) (b : Addr) (fs : List Fr) (way : Bool), vs = [thing, .ref b, .bl way] ∧ Frs H b fs ∧ (∀ f ∈ fs, FrOk f) ∧ fs.length ≤ 63 ∧
  ((way = true ∧ ∃ m : Int, thing = .int m ∧ ¬ (0 ≤ m ∧ m < prodC fs) ∧ ∀ H', Same H H' → Q (.str "great") H') ∨ (way = false ∧ ∃ (a : Addr) (ds : List (List Int)), thing = .ref a ∧ LL H a ds ∧ SzH fs ds ∧ BadH fs ds ∧ ∀ H', Same H H' → Q (.str "reading") H'))
theorem sc__law_kind : FnScope ["thing", "frames", "way", "kind", "e"] ["thing", "frames", "way"] (defScope st__law_kind) := ⟨rfl, rfl, rfl, by decide +kernel, rfl, by decide +kernel, by decide +kernel⟩
theorem ok_kind (D : Def K mg "_law_kind" st__law_kind ["thing", "frames", "way"]) (T : Txt K mg) {C_BellError : Addr} (m_BellError : mg "BellError" = some (.ref C_BellError)) {C_NoRow : Addr} (m_NoRow : mg "NoRow" = some (.ref C_NoRow)) {C_NoReading : Addr} (m_NoReading : mg "NoReading" = some (.ref C_NoReading)) {C_TooGreat : Addr} (m_TooGreat : mg "TooGreat" = some (.ref C_TooGreat)) {C_TooMany : Addr} (m_TooMany : mg "TooMany" = some (.ref C_TooMany)) {C_NoNote : Addr} (m_NoNote : mg "NoNote" = some (.ref C_NoNote)) {C_NoOrder : Addr} (m_NoOrder : mg "NoOrder" = some (.ref C_NoOrder)) {C_NoName : Addr} (m_NoName : mg "NoName" = some (.ref C_NoName))  (x_BellError : PySem.W.excIn K C_BellError bmV "ValueError.__new__" = true) (x_NoRow : PySem.W.excIn K C_NoRow bmV "ValueError.__new__" = true) (x_NoReading : PySem.W.excIn K C_NoReading bmV "ValueError.__new__" = true) (x_TooGreat : PySem.W.excIn K C_TooGreat bmV "ValueError.__new__" = true) (x_TooMany : PySem.W.excIn K C_TooMany bmV "ValueError.__new__" = true) (x_NoNote : PySem.W.excIn K C_NoNote bmV "ValueError.__new__" = true) (x_NoOrder : PySem.W.excIn K C_NoOrder bmV "ValueError.__new__" = true) (x_NoName : PySem.W.excIn K C_NoName bmV "ValueError.__new__" = true) (g_NoName : PySem.W.mroIn K C_TooGreat (.ref C_NoName) = some false) (d_NoName : PySem.W.mroIn K C_NoReading (.ref C_NoName) = some false) (g_NoNote : PySem.W.mroIn K C_TooGreat (.ref C_NoNote) = some false) (d_NoNote : PySem.W.mroIn K C_NoReading (.ref C_NoNote) = some false) (g_NoOrder : PySem.W.mroIn K C_TooGreat (.ref C_NoOrder) = some false) (d_NoOrder : PySem.W.mroIn K C_NoReading (.ref C_NoOrder) = some false) (g_NoRow : PySem.W.mroIn K C_TooGreat (.ref C_NoRow) = some false) (d_NoRow : PySem.W.mroIn K C_NoReading (.ref C_NoRow) = some false) (g_TooMany : PySem.W.mroIn K C_TooGreat (.ref C_TooMany) = some false) (d_TooMany : PySem.W.mroIn K C_NoReading (.ref C_TooMany) = some false) (d_TooGreat : PySem.W.mroIn K C_NoReading (.ref C_TooGreat) = some false) (r_gaTooGreat : PySem.W.findIn K (.ref C_TooGreat) "__getattribute__" = some (some (.builtin "BaseException.__getattribute__"))) (r_hkTooGreat : PySem.W.findIn K (.ref C_TooGreat) "__getattr__" = some none) (r_clTooGreat : PySem.W.findIn K (.ref C_TooGreat) "__class__" = some (some (.builtin "object.__class__"))) (r_moTooGreat : PySem.W.mroIn K C_TooGreat (.type "object") = some true) (r_mbTooGreat : PySem.W.mroIn K C_TooGreat (.type "BaseException") = some true) (i_BellTooGreat : PySem.W.kitOne K (.ref C_TooGreat) (.ref C_BellError) = some true) (i_ValueTooGreat : PySem.W.kitOne K (.ref C_TooGreat) (.type "ValueError") = some true) (r_gaNoReading : PySem.W.findIn K (.ref C_NoReading) "__getattribute__" = some (some (.builtin "BaseException.__getattribute__"))) (r_hkNoReading : PySem.W.findIn K (.ref C_NoReading) "__getattr__" = some none) (r_clNoReading : PySem.W.findIn K (.ref C_NoReading) "__class__" = some (some (.builtin "object.__class__"))) (r_moNoReading : PySem.W.mroIn K C_NoReading (.type "object") = some true) (r_mbNoReading : PySem.W.mroIn K C_NoReading (.type "BaseException") = some true) (i_BellNoReading : PySem.W.kitOne K (.ref C_NoReading) (.ref C_BellError) = some true) (i_ValueNoReading : PySem.W.kitOne K (.ref C_NoReading) (.type "ValueError") = some true) (r_gt : PySem.W.specialIn K (.builtin "object.__class__") "__get__" = some (some (.builtin "getset_descriptor.__get__"))) (r_tk : PySem.W.takesIn K (.builtin "object.__class__") = some true) (GE_peal_written : FnE P w K mg base 41 "peal_written" ["message", "frames"] (spPealWE C_TooGreat)) (GE_peal_read : FnE P w K mg base 4 "peal_read" ["readings", "frames"] (spPealRE K C_NoReading)) : Fn P w K mg base 42 "_law_kind" ["thing", "frames", "way"] spKind := by
  refine D.fn sc__law_kind (fun vs H Q E h => ?_) (fun f cdv A outer s H vs Q E hr h => ?_)
  · obtain ⟨t, b, fs, way, rfl, _⟩ := h
    rfl
  · obtain ⟨thing, b, fs, way, rfl, FF, ok, fl, hq⟩ := h
    have XG : ExcLook K C_TooGreat := ⟨r_gaTooGreat, r_hkTooGreat, r_clTooGreat, r_gt, r_tk, r_moTooGreat, r_mbTooGreat⟩
    have XR : ExcLook K C_NoReading := ⟨r_gaNoReading, r_hkNoReading, r_clNoReading, r_gt, r_tk, r_moNoReading, r_mbNoReading⟩
    refine ⟨_, (pss_cons (ps_set (i := 3) sc__law_kind.nd rfl (Or.inl rfl) pe_str)
      (pss_cons (ps_try3 (i := 4) (C1 := C_TooGreat) (C2 := C_NoReading) (es := [("NoName", _, C_NoName), ("NoNote", _, C_NoNote), ("NoOrder", _, C_NoOrder), ("NoRow", _, C_NoRow), ("TooMany", _, C_TooMany)]) rfl rfl sc__law_kind.nd rfl rfl rfl (fun e he => by
            simp only [List.mem_cons, List.not_mem_nil, or_false] at he
            rcases he with rfl | rfl | rfl | rfl | rfl
            · exact ⟨⟨by rfl, m_NoName, (show (("NoName" : Str) == ("__debug__" : Str)) = false by decide)⟩, ⟨_, _, x_NoName, by decide⟩, g_NoName, d_NoName⟩
            · exact ⟨⟨by rfl, m_NoNote, (show (("NoNote" : Str) == ("__debug__" : Str)) = false by decide)⟩, ⟨_, _, x_NoNote, by decide⟩, g_NoNote, d_NoNote⟩
            · exact ⟨⟨by rfl, m_NoOrder, (show (("NoOrder" : Str) == ("__debug__" : Str)) = false by decide)⟩, ⟨_, _, x_NoOrder, by decide⟩, g_NoOrder, d_NoOrder⟩
            · exact ⟨⟨by rfl, m_NoRow, (show (("NoRow" : Str) == ("__debug__" : Str)) = false by decide)⟩, ⟨_, _, x_NoRow, by decide⟩, g_NoRow, d_NoRow⟩
            · exact ⟨⟨by rfl, m_TooMany, (show (("TooMany" : Str) == ("__debug__" : Str)) = false by decide)⟩, ⟨_, _, x_TooMany, by decide⟩, g_TooMany, d_TooMany⟩
            ) (by show 5 ≤ 100; decide) x_TooGreat (by decide) (by rfl) m_TooGreat x_NoReading (by decide) (by rfl) m_NoReading d_TooGreat (fun pn xe G hx => (pss_one (ps_if (pt_val (pv 2))
          (pss_one (ps_expr (pe_fnG GE_peal_written (hr.mono (by decide)) (by rfl) hx (pa_cons (pv 0) (pa_cons (pv 1) pa_nil)))))
          (pss_one (ps_expr (pe_fnG GE_peal_read (hr.mono (by decide)) (by rfl) hx (pa_cons (pv 0) (pa_cons (pv 1) pa_nil)))))))) (fun x => (pss_one (ps_set (i := 3) sc__law_kind.nd rfl (Or.inl rfl) (pe_ix (ix_listK K) (pe_lst (pa_cons pe_str (pa_cons pe_str pa_nil))) (pe_callTy call_int1 (by rfl) T.z_int b_int (pa_cons (pe_and (pe_callB (call_isinstEK K) (by rfl) T.z_isinstance b_isinstance (pa_cons (pv 4) (pa_cons (pe_glob (v := .ref C_BellError) (by rfl) m_BellError rfl) pa_nil))) (pe_one (pe_callB (call_isinstEK K) (by rfl) T.z_isinstance b_isinstance (pa_cons (pv 4) (pa_cons (pe_bltn (v := .ty "ValueError") (by rfl) T.z_ValueError b_ValueError rfl) pa_nil))))) pa_nil)) (fun _ _ => rfl))))) (fun x => (pss_one (ps_set (i := 3) sc__law_kind.nd rfl (Or.inl rfl) (pe_ix (ix_listK K) (pe_lst (pa_cons pe_str (pa_cons pe_str pa_nil))) (pe_callTy call_int1 (by rfl) T.z_int b_int (pa_cons (pe_and (pe_callB (call_isinstEK K) (by rfl) T.z_isinstance b_isinstance (pa_cons (pv 4) (pa_cons (pe_glob (v := .ref C_BellError) (by rfl) m_BellError rfl) pa_nil))) (pe_one (pe_callB (call_isinstEK K) (by rfl) T.z_isinstance b_isinstance (pa_cons (pv 4) (pa_cons (pe_bltn (v := .ty "ValueError") (by rfl) T.z_ValueError b_ValueError rfl) pa_nil))))) pa_nil)) (fun _ _ => rfl))))))
      (pss_one (ps_ret (pv 3))))), ?_⟩
    rcases hq with ⟨rfl, m, rfl, bad, q⟩ | ⟨rfl, a, ds, rfl, hL, sz, bad, q⟩
    · refine ⟨_, rfl, _, rfl, iteT ⟨_, rfl, _, rfl, m, b, fs, rfl, FF, ok, by omega, bad, .inl ⟨rfl, fun x hx => ?_⟩⟩⟩
      have s4 : Same H (upd H x (excIs x (.ref C_TooGreat))) := Same.new hx
      have h4 : (upd H x (excIs x (.ref C_TooGreat))) x = some (excIs x (.ref C_TooGreat)) := upd_same
      generalize upd H x (excIs x (.ref C_TooGreat)) = H4 at s4 h4 ⊢
      refine ⟨(by decide), fun pl hpl => ?_⟩
      have h5 := (Same.new (o := .lst [V.str "other", V.str "great"]) hpl) _ _ h4
      refine ⟨_, rfl, x, _, _, _, rfl, fun u' r => r, h5, i_BellTooGreat, true, rfl, iteT ⟨_, rfl, x, _, _, _, rfl, fun u' r => r, h5, i_ValueTooGreat, .inr ⟨_, rfl, _, _, _, _, rfl, rfl, SqL.of upd_same, (show atI [V.str "other", V.str "great"] ((1 : Nat) : Int) = some (V.str "great") from atI_nat rfl), ?_⟩⟩⟩
      exact ⟨_, rfl, q _ (s4.put hpl)⟩
    · refine ⟨_, rfl, _, rfl, iteF ⟨_, rfl, _, rfl, a, b, ds, fs, rfl, hL, FF, ok, fl, sz, bad, fun H3 s3 => .inr ⟨rfl, fun x hx => ?_⟩⟩⟩
      have s4 : Same H3 (upd H3 x (excIs x (.ref C_NoReading))) := Same.new hx
      have h4 : (upd H3 x (excIs x (.ref C_NoReading))) x = some (excIs x (.ref C_NoReading)) := upd_same
      generalize upd H3 x (excIs x (.ref C_NoReading)) = H4 at s4 h4 ⊢
      refine ⟨(by decide), fun pl hpl => ?_⟩
      have h5 := (Same.new (o := .lst [V.str "other", V.str "reading"]) hpl) _ _ h4
      refine ⟨_, rfl, x, _, _, _, rfl, fun u' r => r, h5, i_BellNoReading, true, rfl, iteT ⟨_, rfl, x, _, _, _, rfl, fun u' r => r, h5, i_ValueNoReading, .inr ⟨_, rfl, _, _, _, _, rfl, rfl, SqL.of upd_same, (show atI [V.str "other", V.str "reading"] ((1 : Nat) : Int) = some (V.str "reading") from atI_nat rfl), ?_⟩⟩⟩
      exact ⟨_, rfl, q _ ((s3.trans s4).put hpl)⟩
def Bd (m : Nat) (ns : List Int) : Prop := ∀ x ∈ ns, 0 ≤ x ∧ x < 2 ^ m
theorem bd_app {m : Nat} {a b : List Int} (h1 : Bd m a) (h2 : Bd m b) : Bd m (a ++ b) := fun x hx => (List.mem_append.mp hx).elim (h1 x) (h2 x)
theorem bd_one {m : Nat} {x : Int} (h0 : 0 ≤ x) (h1 : x < 2 ^ m) : Bd m [x] := fun y hy => by rw [List.mem_singleton.mp hy]; exact ⟨h0, h1⟩
theorem bd_perm {m : Nat} {a b : List Int} (p : a.Perm b) (h : Bd m b) : Bd m a := fun x hx => h x (p.mem_iff.mp hx)
theorem box_szs {ns : List Int} {late : Int} (h : Bd 200 ns) (hl : ns.length ≤ 100) (l0 : 0 ≤ late) : Szs 70000 (boxL late ns) := fun y hy => by
  obtain ⟨i, hi⟩ := List.getElem?_of_mem hy
  obtain ⟨x, hx, rfl⟩ := boxL_get' hi
  have hb := h x (List.mem_of_getElem? hx)
  have hi' := (List.getElem?_eq_some_iff.mp hx).1
  refine bits_mono (bits_div (m := 300) ?_ (by omega)) (by decide)
  refine intBits_le_of_natAbs (y := 2 ^ 200) ?_ (by decide)
  have e1 : ((2 : Int) ^ 200).natAbs = 2 ^ 200 := by decide
  rw [e1]
  have h1 := hb.1
  have h2 := hb.2
  omega
theorem cut_to {ns : List Int} {k : Nat} (h : k ≤ ns.length) : cutI ns none (some (k : Int)) = ns.take k := by
  unfold cutI
  have e0 : HT.sIx ns.length 0 none = 0 := rfl
  rw [e0, HT.sIx_nat, List.drop_zero, Nat.sub_zero, show min k ns.length = k by omega]
theorem cut_from {ns : List Int} {k : Nat} (h : k ≤ ns.length) : cutI ns (some (k : Int)) none = ns.drop k := by
  unfold cutI
  have e0 : HT.sIx ns.length ns.length none = ns.length := rfl
  rw [e0, HT.sIx_nat, show min k ns.length = k by omega]
  exact List.take_of_length_le (by rw [List.length_drop]; omega)
theorem prodC_nn (fs : List Fr) : ∀ n : Nat, 0 ≤ prodC (fs.take n)
  | 0 => by rw [List.take_zero]; decide
  | n + 1 => by
    have ih := prodC_nn fs n
    cases h : fs[n]? with
    | none =>
      rw [List.take_add_one, h, Option.toList_none, List.append_nil]
      exact ih
    | some f =>
      rw [take_snoc h, prodC_snoc]
      exact Int.mul_nonneg ih (cnt_nonneg _ _ _)
def spMsgG (K : PySem.W.Frag) : Sp := fun vs H Q _ => ∃ (a : Addr) (ns : List Int) (b : Addr) (fs : List Fr), vs = [.ref a, .ref b] ∧ SqL K H a (ns.map V.int) ∧ Frs H b fs ∧ (∀ f ∈ fs, FrOk f) ∧ fs.length ≤ 63 ∧
  ∀ (p : Addr) (m : Int) (H' : Hp), Same H H' → H p = none → H' p = some (.lst [V.int m, V.int (prodC fs)]) → 0 ≤ m → (0 < prodC fs → m < prodC fs) → Q (.ref p) H'
theorem sc__law_message : FnScope ["script", "frames", "message", "whole", "k", "count"] ["script", "frames"] (defScope st__law_message) := ⟨rfl, rfl, rfl, by decide +kernel, rfl, by decide +kernel, by decide +kernel⟩
theorem ok_messageG (D : Def K mg "_law_message" st__law_message ["script", "frames"]) (T : Txt K mg) (G__law_cell_at : Fn P w K mg base 1 "_law_cell_at" ["script", "k"] (spCell K)) (G__law_drawn : Fn P w K mg base 2 "_law_drawn" ["cell", "sizes"] (spDrawnL K)) (G__law_count : Fn P w K mg base 1 "_law_count" ["turns", "bells", "late"] spCount) : Fn P w K mg base 3 "_law_message" ["script", "frames"] (spMsgG K) := by
  refine D.fn sc__law_message (fun vs H Q E h => ?_) (fun f cdv A outer s H vs Q E hr h => ?_)
  · obtain ⟨a, b, c, d, rfl, _⟩ := h
    rfl
  · obtain ⟨a, ns, b, fs, rfl, hS, ⟨as, hA, hF⟩, okk, hl, q⟩ := h
    refine ⟨_, (pss_cons (ps_set (i := 2) sc__law_message.nd rfl (Or.inl rfl) pe_int)
      (pss_cons (ps_set (i := 3) sc__law_message.nd rfl (Or.inl rfl) pe_int)
      (pss_cons (ps_for PassesOwn.never rfl (pi_range1 (by rfl) T.z_range (pa_cons (pe_callB call_len_seq (by rfl) T.z_len b_len (pa_cons (pv 1) pa_nil)) pa_nil)) (pg_name (i := 4) sc__law_message.nd rfl (Or.inl rfl))
        (pss_cons (ps_set (i := 5) sc__law_message.nd rfl (Or.inl rfl) (pe_fn G__law_count (hr.mono (by decide)) (by rfl) (pa_cons (pe_ix ix_tup (pe_ix ix_list (pv 1) (pv 4) (fun _ _ => rfl)) pe_int (fun _ _ => rfl)) (pa_cons (pe_ix ix_tup (pe_ix ix_list (pv 1) (pv 4) (fun _ _ => rfl)) pe_int (fun _ _ => rfl)) (pa_cons (pe_ix ix_tup (pe_ix ix_list (pv 1) (pv 4) (fun _ _ => rfl)) pe_int (fun _ _ => rfl)) pa_nil)))))
        (pss_cons (ps_if (pt_cmpR op_gtI (pv 5) pe_int (nomark _))
          (pss_one (ps_set (i := 2) sc__law_message.nd rfl (Or.inl rfl) (pe_op op_addI (pv 2) (pe_op op_mulB (pv 3) (pe_ix ix_list (pe_fn G__law_drawn (hr.mono (by decide)) (by rfl) (pa_cons (pe_fn G__law_cell_at (hr.mono (by decide)) (by rfl) (pa_cons (pv 0) (pa_cons (pe_op op_addI pe_int (pv 4)) pa_nil))) (pa_cons (pe_lst (pa_cons (pv 5) pa_nil)) pa_nil))) pe_int (fun _ _ => rfl))))))
          pss_nil)
        (pss_one (ps_set (i := 3) sc__law_message.nd rfl (Or.inl rfl) (pe_op op_mulB (pv 3) (pv 5)))))))
      (pss_one (ps_ret (pe_lst (pa_cons (pv 2) (pa_cons (pv 3) pa_nil)))))))), ?_⟩
    have al := paired_len hF
    refine ⟨_, rfl, _, _, rfl, .inl (SqL.of hA), _, rfl, ?_⟩
    rw [List.length_map]
    refine ⟨by omega, by omega, for_range (n := as.length) (fun i σ H2 => ∃ (m : Int) (v4 v5 : Option V), σ = [some (.ref a), some (.ref b), some (.int m), some (.int (prodC (fs.take i))), v4, v5] ∧ Same H H2 ∧ 0 ≤ m ∧ (0 < prodC (fs.take i) → m < prodC (fs.take i))) ⟨0, none, none, rfl, Same.refl _, by decide, fun _ => by rw [List.take_zero]; decide⟩ ?_ ?_⟩
    · rintro i σ H2 hi ⟨m, v4, v5, rfl, sm, m0, m1⟩
      rw [show (0 : Int) + (i : Int) = (i : Int) by omega]
      obtain ⟨t, ht⟩ : ∃ t, as[i]? = some t := ⟨_, List.getElem?_eq_getElem hi⟩
      obtain ⟨f, hf, hT⟩ := paired_get hF ht
      have o := okk f (List.mem_of_getElem? hf)
      have g : atI (as.map V.ref) (i : Int) = some (V.ref t) := atI_nat (by rw [List.getElem?_map, ht]; rfl)
      have hA2 := SqL.of (K := K) (sm _ _ hA)
      have hT2 := SqT.of (K := K) (sm _ _ hT)
      have wb : intBits (prodC (fs.take i)) ≤ 6200 * 63 + 1 := bits_mono (prodC_bits okk i) (by omega)
      have w0 := prodC_nn fs i
      have e1 : prodC (fs.take (i + 1)) = prodC (fs.take i) * cntF f := by rw [take_snoc hf, prodC_snoc]
      refine ⟨_, rfl, _, rfl, _, _, _, _, rfl, rfl, hA2, g, _, _, _, _, rfl, rfl, hT2, rfl, _, rfl, _, rfl, _, _, _, _, rfl, rfl, hA2, g, _, _, _, _, rfl, rfl, hT2, rfl, _, rfl, _, rfl, _, _, _, _, rfl, rfl, hA2, g, _, _, _, _, rfl, rfl, hT2, rfl, f.1, f.2.1, f.2.2, rfl, o.b0, by have := o.b60; omega, o.l0, bits_mono o.lb (by decide), bits_mono o.tb (by decide), ?_⟩
      have ecf : cnt f.1 f.2.1 f.2.2 = cntF f := rfl
      rw [ecf]
      refine ⟨_, rfl, _, _, rfl, rfl, _, rfl, ifD (fun cp => ?_) (fun cp => ?_)⟩
      · have hss : ∀ s ∈ [cntF f], 0 < s ∧ intBits s ≤ 9000 := fun s hs => by rw [List.mem_singleton.mp hs]; exact ⟨cp, bits_mono o.cb (by decide)⟩
        refine ⟨_, rfl, _, rfl, _, rfl, _, rfl, _, _, rfl, rfl, a, ns, 22 + (i : Int), rfl, sm.seq hS, by omega, _, rfl, (by show 1 ≤ sizeLine; decide), fun p1 hp1 => ⟨_, p1, [cntF f], rfl, SqL.of upd_same, (by show 1 ≤ 200; decide), hss, fun p2 ds H3 s3 hp2 h3 hD => ?_⟩⟩
        obtain ⟨x, rfl, x0, x1⟩ := dr_one hD
        have xb : intBits x ≤ 6200 := bits_lt x0 x1 o.cb
        have s03 : Same H H3 := (sm.put hp1).trans s3
        refine ⟨_, _, _, _, rfl, rfl, SqL.of h3, at_map (ns := [x]) (k := 0) rfl, _, _, rfl, rfl, ⟨6200 * 63 + 1, 6200, wb, xb, by decide⟩, _, _, rfl, rfl, ?_⟩
        refine ⟨_, rfl, _, rfl, _, _, rfl, rfl, ⟨6200 * 63 + 1, 6200, wb, o.cb, by decide⟩, ?_⟩
        refine ⟨m + prodC (fs.take i) * x, _, _, by rw [e1]; rfl, s03, ?_, fun hp => ?_⟩
        · have := Int.mul_nonneg w0 x0
          omega
        · rw [e1] at hp ⊢
          have wp : 0 < prodC (fs.take i) := by
            rcases (by omega : prodC (fs.take i) = 0 ∨ 0 < prodC (fs.take i)) with z | z
            · rw [z, Int.zero_mul] at hp; omega
            · exact z
          have h1 : prodC (fs.take i) * (x + 1) ≤ prodC (fs.take i) * cntF f := Int.mul_le_mul_of_nonneg_left (by omega) w0
          rw [Int.mul_add, Int.mul_one] at h1
          have := m1 wp
          omega
      · have c0 := cnt_nonneg f.1 f.2.1 f.2.2
        have ez : cntF f = 0 := by unfold cntF at cp ⊢; omega
        refine ⟨_, rfl, _, rfl, _, _, rfl, rfl, ⟨6200 * 63 + 1, 6200, wb, o.cb, by decide⟩, ?_⟩
        refine ⟨m, _, _, by rw [e1]; rfl, sm, m0, fun hp => ?_⟩
        rw [e1, ez, Int.mul_zero] at hp
        omega
    · rintro σ H2 ⟨m, v4, v5, rfl, sm, m0, m1⟩
      rw [al, List.take_length] at m1 ⊢
      exact ⟨_, rfl, _, rfl, (by show 2 ≤ sizeLine; decide), fun p hp => q p m _ (sm.put hp) (sm.free hp) upd_same m0 m1⟩
end
theorem dr_four {ds : List Int} {a b c d : Int} (h : Dr ds [a, b, c, d]) : ∃ x y z u, ds = [x, y, z, u] ∧ (0 ≤ x ∧ x < a) ∧ (0 ≤ y ∧ y < b) ∧ (0 ≤ z ∧ z < c) ∧ (0 ≤ u ∧ u < d) := by
  cases h with
  | cons h1 t1 => cases t1 with
    | cons h2 t2 => cases t2 with
      | cons h3 t3 => cases t3 with
        | cons h4 t4 => cases t4; exact ⟨_, _, _, _, rfl, h1, h2, h3, h4⟩
theorem bad_fall {turns bells late : Int} {e : List Int} (l0 : 0 ≤ late) {j : Nat} {x : Int} (h1 : e[j]? = some x) (h2 : e[j + 1]? = some x) (hm : (x - ((j : Int) + 1) + 1) % (late + 1) = 0) : ¬ GoodR turns bells late e := by
  intro g
  have b1 := boxL_get (late := late) h1
  have b2 := boxL_get (late := late) h2
  have := g.2.1.get (show j ≤ j + 1 by omega) b1 b2
  have dm := Int.mul_ediv_add_emod (x - (j : Int)) (late + 1)
  rw [show x - ((j : Int) + 1) + 1 = x - (j : Int) by omega] at hm
  rw [hm] at dm
  generalize hq : (x - (j : Int)) / (late + 1) = qq at dm this
  have e2 : (x - ((j + 1 : Nat) : Int)) / (late + 1) < qq := by
    rw [Int.ediv_lt_iff_lt_mul (by omega), Int.mul_comm]
    omega
  omega
theorem bad_late {turns bells late : Int} {e r : List Int} {z : Int} (l0 : 0 ≤ late) (bt : bells ≤ turns) (he : e = r ++ [z]) (hl : (e.length : Int) = bells) (hz : (turns - bells) / (late + 1) * (late + 1) + late + bells ≤ z) : ¬ GoodR turns bells late e := by
  intro g
  obtain ⟨g1, B, g3⟩ := g
  have rl : r.length + 1 = e.length := by rw [he, List.length_append]; rfl
  have hget : e[r.length]? = some z := by rw [he, List.getElem?_append_right (Nat.le_refl _), Nat.sub_self]; rfl
  have bz := boxL_get (late := late) hget
  have bl := boxL_length late e
  have hb : boxL late e = (boxL late e).take r.length ++ [(z - (r.length : Int)) / (late + 1)] := by
    have h1 : (boxL late e).take (r.length + 1) = (boxL late e).take r.length ++ [(z - (r.length : Int)) / (late + 1)] := by rw [List.take_add_one, bz]; rfl
    rw [← h1, rl, ← bl, List.take_length]
  have low : (turns - ((boxL late e).length : Int)) / (late + 1) < (z - (r.length : Int)) / (late + 1) := by
    rw [bl, hl]
    have : (turns - bells) / (late + 1) + 1 ≤ (z - (r.length : Int)) / (late + 1) := by
      rw [Int.le_ediv_iff_mul_le (by omega), Int.add_mul, Int.one_mul]
      omega
    omega
  have := cnt_le_num (turns := turns) B l0 hb low
  rw [bl, hl] at this
  omega
section
variable {P : Program} {w : World} {K : PySem.W.Frag} {mg : Str → Option Value} {base : Heap}
def spBad : Sp := fun vs H Q _ => ∃ (a t : Addr) (d : List Int) (f : Fr) (c : Int), vs = [.ref a, .ref t, .int c] ∧ H a = some (.lst (d.map V.int)) ∧ H t = some (frV f) ∧ FrFit f ∧ (d.length : Int) = f.2.1 ∧ Bd 150 d ∧
  ∀ (p : Addr) (e : List Int) (H' : Hp), Same H H' → H p = none → H' p = some (.lst (e.map V.int)) → e.length ≤ 60 → Bd 200 e → ¬ GoodR f.1 f.2.1 f.2.2 e → Q (.ref p) H'
theorem sc__law_bad : FnScope ["reading", "frame", "cell", "turns", "bells", "late", "way", "at", "kind", "far", "k", "one", "steps", "last"] ["reading", "frame", "cell"] (defScope st__law_bad) := ⟨rfl, rfl, rfl, by decide +kernel, rfl, by decide +kernel, by decide +kernel⟩
theorem ok_bad (D : Def K mg "_law_bad" st__law_bad ["reading", "frame", "cell"]) (T : Txt K mg) (G__law_drawn : Fn P w K mg base 2 "_law_drawn" ["cell", "sizes"] (spDrawnL K)) : Fn P w K mg base 3 "_law_bad" ["reading", "frame", "cell"] spBad := by
  refine D.fn sc__law_bad (fun vs H Q E h => ?_) (fun f cdv A outer s H vs Q E hr h => ?_)
  · obtain ⟨a, b, c, d, e, rfl, _⟩ := h
    rfl
  · obtain ⟨a, t, d, f, c, rfl, hA, hT, ff, dl, bd, q⟩ := h
    refine ⟨_, (pss_cons (ps_asg (pv 1) (pg_tup (n := 3) rfl (pgs_cons (pg_name (i := 3) sc__law_bad.nd rfl (Or.inl rfl)) (pgs_cons (pg_name (i := 4) sc__law_bad.nd rfl (Or.inl rfl)) (pgs_cons (pg_name (i := 5) sc__law_bad.nd rfl (Or.inl rfl)) pgs_nil)))))
      (pss_cons (ps_asg (pe_fn G__law_drawn (hr.mono (by decide)) (by rfl) (pa_cons (pv 2) (pa_cons (pe_lst (pa_cons pe_int (pa_cons pe_int (pa_cons pe_int (pa_cons (pe_op op_powB pe_int pe_int) pa_nil))))) pa_nil))) (pg_lstU (n := 4) rfl (pgs_cons (pg_name (i := 6) sc__law_bad.nd rfl (Or.inl rfl)) (pgs_cons (pg_name (i := 7) sc__law_bad.nd rfl (Or.inl rfl)) (pgs_cons (pg_name (i := 8) sc__law_bad.nd rfl (Or.inl rfl)) (pgs_cons (pg_name (i := 9) sc__law_bad.nd rfl (Or.inl rfl)) pgs_nil))))))
      (pss_cons (ps_if (pw_and (pt_cmpR op_eqI (pv 6) pe_int (nomark _)) (pw_and1 (pt_cmpR op_gtI (pv 4) pe_int (nomark _)))).pt
        (pss_cons (ps_set (i := 7) sc__law_bad.nd rfl (Or.inl rfl) (pe_op op_modB (pv 7) (pv 4)))
        (pss_one (ps_ret (pe_op op_cat (pe_slice sl_list (pv 0) po_none (po_some (pv 7))) (pe_slice sl_list (pv 0) (po_some (pe_op op_addI (pv 7) pe_int)) po_none)))))
        pss_nil)
      (pss_cons (ps_for PassesOwn.never rfl (pi_range2 (by rfl) T.z_range (pa_cons pe_int (pa_cons (pv 4) pa_nil))) (pg_name (i := 10) sc__law_bad.nd rfl (Or.inl rfl))
        (pss_cons (ps_set (i := 11) sc__law_bad.nd rfl (Or.inl rfl) (pe_op op_modB (pe_op op_addI (pv 10) (pv 7)) (pv 4)))
        (pss_one (ps_if (pw_and (pt_cmpR op_eqI (pv 6) pe_int (nomark _)) (pw_and (pt_cmpR op_gtI (pv 11) pe_int (nomark _)) (pw_and1 (pt_cmpR op_eqI (pe_op op_modB (pe_op op_addI (pe_op op_subI (pe_ix ix_list (pv 0) (pe_op op_subI (pv 11) pe_int) (fun _ _ => rfl)) (pv 11)) pe_int) (pe_op op_addI (pv 5) pe_int)) pe_int (nomark _))))).pt
          (pss_one (ps_ret (pe_op op_cat (pe_op op_cat (pe_slice sl_list (pv 0) po_none (po_some (pv 11))) (pe_lst (pa_cons (pe_ix ix_list (pv 0) (pe_op op_subI (pv 11) pe_int) (fun _ _ => rfl)) pa_nil))) (pe_slice sl_list (pv 0) (po_some (pe_op op_addI (pv 11) pe_int)) po_none))))
          pss_nil))))
      (pss_cons (ps_if (pw_and (pt_cmpR op_eqI (pv 6) pe_int (nomark _)) (pw_and1 (pt_cmpR op_gtI (pv 4) pe_int (nomark _)))).pt
        (pss_cons (ps_set (i := 12) sc__law_bad.nd rfl (Or.inl rfl) (pe_op op_fdivB (pe_op op_subI (pv 3) (pv 4)) (pe_op op_addI (pv 5) pe_int)))
        (pss_cons (ps_set (i := 13) sc__law_bad.nd rfl (Or.inl rfl) (pe_op op_addI (pe_op op_addI (pe_op op_mulB (pv 12) (pe_op op_addI (pv 5) pe_int)) (pv 5)) (pv 4)))
        (pss_one (ps_ret (pe_op op_cat (pe_slice sl_list (pv 0) po_none (po_some (pe_un un_neg pe_int))) (pe_lst (pa_cons (pe_op op_addI (pv 13) (pe_ix ix_list (pe_lst (pa_cons pe_int (pa_cons (pe_op op_modB (pv 9) pe_int) (pa_cons (pv 9) pa_nil)))) (pv 8) (fun _ _ => rfl))) pa_nil)))))))
        pss_nil)
      (pss_one (ps_ret (pe_callB call_sortedI (by rfl) T.z_sorted b_sorted (pa_cons (pe_op op_cat (pv 0) (pe_lst (pa_cons (pv 9) pa_nil))) pa_nil))))))))), ?_⟩
    obtain ⟨turns, bells, late⟩ := f
    obtain ⟨⟨b0, b60, l0, lb, t0, tb⟩, bt, b40, lt⟩ := ff
    dsimp only at hT lt dl q b0 b60 l0 lb t0 tb bt b40
    have t100 : turns < 2 ^ 100 := by
      rcases (by omega : turns < 2 ^ 100 ∨ 2 ^ 100 ≤ turns) with z | z
      · exact z
      · have h1 : intBits ((2 : Int) ^ 100) ≤ intBits turns := by
          exact Nat.le_of_not_lt fun hlt => by
            have := intBits_le_of_natAbs (x := (2 : Int) ^ 100) (y := turns) (by omega) (Nat.le_refl _)
            omega
        have h2 : intBits ((2 : Int) ^ 100) = 101 := by decide +kernel
        omega
    have bd2 : Bd 200 d := fun x hx => ⟨(bd x hx).1, Int.lt_trans (bd x hx).2 (by decide)⟩
    have hss : ∀ s ∈ ([4, 41, 3, 10 ^ (40 : Int).toNat] : List Int), 0 < s ∧ intBits s ≤ 9000 := by
      intro s hs
      simp only [List.mem_cons, List.not_mem_nil, or_false] at hs
      rcases hs with rfl | rfl | rfl | rfl
      all_goals exact ⟨by decide, by decide +kernel⟩
    refine ⟨_, rfl, t, _, rfl, SqT.of hT, rfl, _, _, rfl, _, _, rfl, _, _, rfl, rfl, ?_⟩
    refine ⟨_, rfl, _, _, rfl, rfl, ⟨by decide, by decide, by decide⟩, (by decide), fun p1 hp1 => ⟨c, p1, [4, 41, 3, 10 ^ (40 : Int).toNat], rfl, SqL.of upd_same, by decide, hss, fun p2 ds H2 s2 hp2 h2 hD => ?_⟩⟩
    obtain ⟨way, at', kind, far, rfl, ⟨w0, w1⟩, ⟨a0, a1⟩, ⟨k0, k1⟩, ⟨f0, f1⟩⟩ := dr_four hD
    refine ⟨p2, _, rfl, SqL.of h2, rfl, _, _, rfl, _, _, rfl, _, _, rfl, _, _, rfl, rfl, ?_⟩
    have s02 : Same H H2 := (Same.new hp1).trans s2
    have hA2 := s02 _ _ hA
    have f200 : far < 2 ^ 200 := Int.lt_trans f1 (by decide)
    dsimp only [gName]
    change tSeq (tIfS _ _ _) _ _ _ _
    refine cut1 (fun σ H3 => σ = [some (.ref a), some (.ref t), some (.int c), some (.int turns), some (.int bells), some (.int late), some (.int way), some (.int at'), some (.int kind), some (.int far), none, none, none, none] ∧ H3 = H2) ?_ (fun N hN => ⟨_, rfl, _, _, rfl, rfl, _, rfl, ifD (fun _ => ⟨_, rfl, _, _, rfl, rfl, _, rfl, ifD (fun bp => ?_) (fun _ => hN _ _ ⟨rfl, rfl⟩)⟩) (fun _ => hN _ _ ⟨rfl, rfl⟩)⟩)
    case refine_2 =>
      have u0 := Int.emod_nonneg at' (show bells ≠ 0 by omega)
      have u1 := Int.emod_lt_of_pos at' bp
      refine ⟨_, rfl, _, rfl, _, _, rfl, rfl, bp, ?_⟩
      obtain ⟨k, hk⟩ : ∃ k : Nat, at' % bells = (k : Int) := ⟨_, (Int.toNat_of_nonneg u0).symm⟩
      rw [hk] at u1 ⊢
      refine ⟨_, rfl, _, rfl, _, rfl, _, _, rfl, SqL.of hA2, fun q1 hq1 => ?_⟩
      rw [cut_map, cut_to (by omega)]
      refine ⟨_, rfl, _, rfl, _, _, rfl, rfl, _, rfl, _, _, rfl, SqL.of ((Same.new hq1) _ _ hA2), fun q2 hq2 => ?_⟩
      rw [cut_map, show (k : Int) + 1 = ((k + 1 : Nat) : Int) by omega, cut_from (by omega)]
      refine ⟨q1, q2, _, _, rfl, rfl, (Same.new hq2) _ _ upd_same, upd_same, ?_, fun q3 hq3 => ?_⟩
      · rw [List.length_map, List.length_map, List.length_take, List.length_drop]; exact Nat.le_of_lt (small1000 (by omega))
      · refine q q3 (d.take k ++ d.drop (k + 1)) _ (((s02.put hq1).put hq2).put hq3) (((s02.put hq1).put hq2).free hq3) (by rw [upd_same, List.map_append]) ?_ (bd_app (fun x hx => bd2 x (List.mem_of_mem_take hx)) (fun x hx => bd2 x (List.mem_of_mem_drop hx))) (fun g => ?_)
        · rw [List.length_append, List.length_take, List.length_drop]; omega
        · have := g.1
          rw [List.length_append, List.length_take, List.length_drop] at this
          omega
    rintro σ H3 ⟨rfl, rfl⟩
    refine ⟨_, rfl, 1, bells, rfl, ⟨by omega, by omega, by omega, by omega⟩, for_range (lo := 1) (n := (bells - 1).toNat) (fun i σ H4 => ∃ v10 v11 : Option V, σ = [some (.ref a), some (.ref t), some (.int c), some (.int turns), some (.int bells), some (.int late), some (.int way), some (.int at'), some (.int kind), some (.int far), v10, v11, none, none] ∧ H4 = H3) ⟨none, none, rfl, rfl⟩ ?_ ?_⟩
    · rintro i σ H4 hi ⟨v10, v11, rfl, rfl⟩
      have bp : 0 < bells := by omega
      have u0 := Int.emod_nonneg (1 + (i : Int) + at') (show bells ≠ 0 by omega)
      have u1 := Int.emod_lt_of_pos (1 + (i : Int) + at') bp
      refine ⟨_, rfl, _, rfl, _, _, rfl, rfl, _, rfl, _, _, rfl, rfl, bp, ?_⟩
      obtain ⟨k, hk⟩ : ∃ k : Nat, (1 + (i : Int) + at') % bells = (k : Int) := ⟨_, (Int.toNat_of_nonneg u0).symm⟩
      rw [hk] at u1 ⊢
      refine ⟨_, rfl, _, _, rfl, rfl, _, rfl, ifD (fun _ => ⟨_, rfl, _, _, rfl, rfl, _, rfl, ifD (fun kp => ?_) (fun _ => ⟨_, _, rfl, rfl⟩)⟩) (fun _ => ⟨_, _, rfl, rfl⟩)⟩
      obtain ⟨j, hj⟩ : ∃ j : Nat, k = j + 1 := ⟨k - 1, by omega⟩
      subst hj
      have hjl : j < d.length := by omega
      have gj := at_map (ns := d) (k := j) (List.getElem?_eq_getElem hjl)
      have ej : ((j + 1 : Nat) : Int) - 1 = (j : Int) := by omega
      refine ⟨_, rfl, _, rfl, _, _, rfl, rfl, _, _, _, _, rfl, rfl, SqL.of hA2, by rw [ej]; exact gj, _, rfl, _, _, rfl, rfl, _, _, rfl, rfl, _, rfl, _, _, rfl, rfl, _, _, rfl, rfl, by omega, _, _, rfl, rfl, _, rfl, ifD (fun hm => ?_) (fun _ => ⟨_, _, rfl, rfl⟩)⟩
      refine ⟨_, rfl, _, rfl, _, rfl, _, _, rfl, SqL.of hA2, fun q1 hq1 => ?_⟩
      rw [cut_map, cut_to (by omega)]
      refine ⟨_, rfl, _, rfl, _, _, rfl, rfl, _, _, _, _, rfl, rfl, SqL.of ((Same.new hq1) _ _ hA2), by rw [ej]; exact gj, (by show 1 ≤ sizeLine; decide), fun q2 hq2 => ⟨q1, q2, _, _, rfl, rfl, (Same.new hq2) _ _ upd_same, upd_same, ?_, fun q3 hq3 => ?_⟩⟩
      · rw [List.length_map, List.length_take]; exact Nat.le_of_lt (small1000 (by simp only [List.length_cons, List.length_nil]; omega))
      have e3 : (d.take (j + 1)).map V.int ++ [V.int d[j]] = (d.take (j + 1) ++ [d[j]]).map V.int := by rw [List.map_append]; rfl
      rw [e3]
      have s3 : Same H4 (upd (upd (upd H4 q1 (.lst ((d.take (j + 1)).map V.int))) q2 (.lst [V.int d[j]])) q3 (.lst ((d.take (j + 1) ++ [d[j]]).map V.int))) := ((Same.new hq1).put hq2).put hq3
      have h3 : (upd (upd (upd H4 q1 (.lst ((d.take (j + 1)).map V.int))) q2 (.lst [V.int d[j]])) q3 (.lst ((d.take (j + 1) ++ [d[j]]).map V.int))) q3 = some (.lst ((d.take (j + 1) ++ [d[j]]).map V.int)) := upd_same
      generalize upd (upd (upd H4 q1 (.lst ((d.take (j + 1)).map V.int))) q2 (.lst [V.int d[j]])) q3 (.lst ((d.take (j + 1) ++ [d[j]]).map V.int)) = H5 at s3 h3 ⊢
      refine ⟨_, rfl, _, rfl, _, _, rfl, rfl, _, rfl, _, _, rfl, SqL.of (s3 _ _ hA2), fun q4 hq4 => ?_⟩
      rw [cut_map, show ((j + 1 : Nat) : Int) + 1 = ((j + 2 : Nat) : Int) by omega, cut_from (by omega)]
      refine ⟨q3, q4, _, _, rfl, rfl, (Same.new hq4) _ _ h3, upd_same, ?_, fun q5 hq5 => ?_⟩
      · rw [List.length_map, List.length_map, List.length_append, List.length_take, List.length_drop]; exact Nat.le_of_lt (small1000 (by simp only [List.length_cons, List.length_nil]; omega))
      have s45 := (s02.trans s3).put (o := .lst ((d.drop (j + 2)).map V.int)) hq4
      refine q q5 ((d.take (j + 1) ++ [d[j]]) ++ d.drop (j + 2)) _ (s45.put hq5) (s45.free hq5) (by simp only [upd_same, List.map_append]) ?_ ?_ ?_
      · rw [List.length_append, List.length_append, List.length_take, List.length_drop]; simp only [List.length_cons, List.length_nil]; omega
      · exact bd_app (bd_app (fun x hx => bd2 x (List.mem_of_mem_take hx)) (bd_one (bd2 _ (List.getElem_mem hjl)).1 (bd2 _ (List.getElem_mem hjl)).2)) (fun x hx => bd2 x (List.mem_of_mem_drop hx))
      · refine bad_fall l0 (j := j) (x := d[j]) ?_ ?_ ?_
        · rw [List.append_assoc, List.getElem?_append_left (by rw [List.length_take]; omega), List.getElem?_take, if_pos (by omega), List.getElem?_eq_getElem hjl]
        · rw [List.append_assoc, List.getElem?_append_right (by rw [List.length_take]; omega), List.length_take, show j + 1 - min (j + 1) d.length = 0 by omega]
          rfl
        · have : ((j + 1 : Nat) : Int) = (j : Int) + 1 := by omega
          rw [this] at hm
          exact hm
    · rintro σ H4 ⟨v10, v11, rfl, rfl⟩
      dsimp only [gName]
      change tSeq (tIfS _ _ _) _ _ _ _
      refine cut1 (fun σ H3 => σ = [some (.ref a), some (.ref t), some (.int c), some (.int turns), some (.int bells), some (.int late), some (.int way), some (.int at'), some (.int kind), some (.int far), v10, v11, none, none] ∧ H3 = H4) ?_ (fun N hN => ⟨_, rfl, _, _, rfl, rfl, _, rfl, ifD (fun _ => ⟨_, rfl, _, _, rfl, rfl, _, rfl, ifD (fun bp => ?_) (fun _ => hN _ _ ⟨rfl, rfl⟩)⟩) (fun _ => hN _ _ ⟨rfl, rfl⟩)⟩)
      case refine_2 =>
        have lb1 : intBits (late + 1) ≤ 9000 := bits_mono (intBits_add_le (m := 7000) (n := 1) lb (by decide)) (by decide)
        have st0 : 0 ≤ (turns - bells) / (late + 1) := Int.ediv_nonneg (by omega) (by omega)
        have st1 := Int.ediv_mul_le (turns - bells) (show late + 1 ≠ 0 by omega)
        have stb : intBits ((turns - bells) / (late + 1)) ≤ 100 := by
          have := Int.ediv_le_self (late + 1) (show 0 ≤ turns - bells by omega)
          exact bits_of st0 (by omega)
        refine ⟨_, rfl, _, rfl, _, _, rfl, rfl, _, rfl, _, _, rfl, rfl, _, _, rfl, rfl, ⟨by omega, lb1⟩, ?_⟩
        refine ⟨_, rfl, _, rfl, _, _, rfl, rfl, _, _, rfl, rfl, ⟨100, 9000, stb, lb1, by decide⟩, _, rfl, _, _, rfl, rfl, _, rfl, _, _, rfl, rfl, ?_⟩
        have fm0 := Int.emod_nonneg far (show (9 : Int) ≠ 0 by decide)
        have fm1 := Int.emod_lt_of_pos far (show (0 : Int) < 9 by decide)
        obtain ⟨v, hv, e⟩ := at3 (V.int 0) (V.int (far % 9)) (V.int far) k0 k1
        obtain ⟨mo, rfl, mo0, mo1⟩ : ∃ mo : Int, v = .int mo ∧ 0 ≤ mo ∧ mo ≤ 2 ^ 150 := by
          have : far ≤ 2 ^ 150 := Int.le_of_lt (Int.lt_trans f1 (by decide))
          rcases e with rfl | rfl | rfl
          all_goals exact ⟨_, rfl, by omega, by omega⟩
        have L0 : 0 ≤ (turns - bells) / (late + 1) * (late + 1) := Int.mul_nonneg st0 (by omega)
        generalize hL : (turns - bells) / (late + 1) * (late + 1) = SL at st1 L0 ⊢
        refine ⟨_, rfl, _, rfl, _, rfl, _, _, rfl, SqL.of hA2, fun q1 hq1 => ?_⟩
        have hne : d ≠ [] := fun z => by rw [z] at dl; simp at dl; omega
        have ed : d = d.dropLast ++ [d.getLast hne] := (List.dropLast_concat_getLast hne).symm
        have ecut : cutI d none (some (-1)) = d.dropLast := by
          rw [ed, cut_init, List.dropLast_concat]
        rw [cut_map, ecut]
        refine ⟨_, rfl, _, rfl, _, _, rfl, rfl, (by decide), _, rfl, (by show 3 ≤ sizeLine; decide), fun q2 hq2 => ⟨_, rfl, _, _, _, _, rfl, rfl, SqL.of upd_same, hv, _, _, rfl, rfl, (by show 1 ≤ sizeLine; decide), fun q3 hq3 => ⟨q1, q3, _, _, rfl, rfl, (Same.new hq3) _ _ ((Same.new hq2) _ _ upd_same), upd_same, ?_, fun q4 hq4 => ?_⟩⟩⟩
        · rw [List.length_map, List.length_dropLast]; exact Nat.le_of_lt (small1000 (by simp only [List.length_cons, List.length_nil]; omega))
        have s4 := ((s02.put (o := .lst (d.dropLast.map V.int)) hq1).put (o := .lst [V.int 0, V.int (far % 9), V.int far]) hq2).put (o := .lst [V.int (SL + late + bells + mo)]) hq3
        have dll : d.dropLast.length = d.length - 1 := List.length_dropLast
        refine q q4 (d.dropLast ++ [SL + late + bells + mo]) _ (s4.put hq4) (s4.free hq4) (by rw [upd_same, List.map_append]; rfl) ?_ ?_ ?_
        · rw [List.length_append, dll]; simp only [List.length_cons, List.length_nil]; omega
        · refine bd_app (fun x hx => bd2 x (List.dropLast_subset d hx)) (bd_one (by omega) (by omega))
        · refine bad_late l0 bt rfl ?_ (by rw [hL]; omega)
          rw [List.length_append, dll]; simp only [List.length_cons, List.length_nil]; omega
      rintro σ H3 ⟨rfl, rfl⟩
      refine ⟨_, rfl, _, rfl, (by show 1 ≤ sizeLine; decide), fun q1 hq1 => ⟨a, q1, _, _, rfl, rfl, (Same.new hq1) _ _ hA2, upd_same, ?_, fun q2 hq2 => ?_⟩⟩
      · rw [List.length_map]; exact Nat.le_of_lt (small1000 (by simp only [List.length_cons, List.length_nil]; omega))
      have s3 := (s02.put (o := .lst [V.int far]) hq1).put (o := .lst (d.map V.int ++ [V.int far])) hq2
      refine ⟨q2, d ++ [far], rfl, SqL.of (by rw [upd_same, List.map_append]; rfl), by rw [List.length_append]; simp only [List.length_cons, List.length_nil]; omega, fun l ms hl2 pm pw => ?_⟩
      have ml := pm.length_eq
      rw [List.length_append] at ml
      simp only [List.length_cons, List.length_nil] at ml
      refine q l ms _ (s3.put hl2) (s3.free hl2) upd_same (by omega) (bd_perm pm (bd_app bd2 (bd_one f0 f200))) (fun g => ?_)
      have := g.1
      omega
end
theorem cutV_to {xs : List V} {k : Nat} (h : k ≤ xs.length) : cutV xs none (some (k : Int)) = xs.take k := by
  unfold cutV
  have e0 : HT.sIx xs.length 0 none = 0 := rfl
  rw [e0, HT.sIx_nat, List.drop_zero, Nat.sub_zero, show min k xs.length = k by omega]
theorem cutV_from {xs : List V} {k : Nat} (h : k ≤ xs.length) : cutV xs (some (k : Int)) none = xs.drop k := by
  unfold cutV
  have e0 : HT.sIx xs.length xs.length none = xs.length := rfl
  rw [e0, HT.sIx_nat, show min k xs.length = k by omega]
  exact List.take_of_length_le (by rw [List.length_drop]; omega)
theorem paired_take {α β : Type} {R : α → β → Prop} : ∀ {as : List α} {bs : List β} (k : Nat), PySem.Paired R as bs → PySem.Paired R (as.take k) (bs.take k)
  | _, _, 0, _ => by rw [List.take_zero, List.take_zero]; exact .nil
  | _, _, k + 1, .nil => by rw [List.take_nil, List.take_nil]; exact .nil
  | _, _, k + 1, .cons x y => by rw [List.take_succ_cons, List.take_succ_cons]; exact .cons x (paired_take k y)
theorem paired_drop {α β : Type} {R : α → β → Prop} : ∀ {as : List α} {bs : List β} (k : Nat), PySem.Paired R as bs → PySem.Paired R (as.drop k) (bs.drop k)
  | _, _, 0, p => p
  | _, _, k + 1, .nil => by rw [List.drop_nil, List.drop_nil]; exact .nil
  | _, _, k + 1, .cons x y => by rw [List.drop_succ_cons, List.drop_succ_cons]; exact paired_drop k y
theorem paired_app {α β : Type} {R : α → β → Prop} {cs : List α} {ds : List β} (q : PySem.Paired R cs ds) : ∀ {as : List α} {bs : List β}, PySem.Paired R as bs → PySem.Paired R (as ++ cs) (bs ++ ds)
  | _, _, .nil => q
  | _, _, .cons x y => .cons x (paired_app q y)
theorem paired_set {α β : Type} {R : α → β → Prop} {a : α} {b : β} (r : R a b) : ∀ {as : List α} {bs : List β} (k : Nat), PySem.Paired R as bs → PySem.Paired R (as.set k a) (bs.set k b)
  | _, _, _, .nil => .nil
  | _, _, 0, .cons _ y => .cons r y
  | _, _, k + 1, .cons x y => .cons x (paired_set r k y)
theorem paired_impM {α β : Type} {F G : α → β → Prop} : ∀ {as : List α} {bs : List β}, (∀ a b, a ∈ as → F a b → G a b) → PySem.Paired F as bs → PySem.Paired G as bs
  | _, _, _, .nil => .nil
  | _, _, h, .cons x y => .cons (h _ _ (List.mem_cons_self ..) x) (paired_impM (fun a b m z => h a b (List.mem_cons_of_mem _ m) z) y)
theorem LL.apart {H : Hp} {p : Addr} {as : List Addr} {nss : List (List Int)} (h : H p = some (.lst (as.map V.ref))) (q : PySem.Paired (fun b (ns : List Int) => H b = some (.lst (ns.map V.int))) as nss) {b : Addr} (hb : b ∈ as) : b ≠ p := by
  intro e
  subst e
  obtain ⟨ns, _, hn⟩ := paired_mem q hb
  rw [h] at hn
  injection hn with hn
  injection hn with hn
  cases as with
  | nil => exact nomatch hb
  | cons x r =>
    cases ns with
    | nil => simp at hn
    | cons y s => simp at hn
theorem atI_back {xs : List V} {n : Nat} {v : V} (h : xs[n]? = some v) (hl : xs.length = n + 1) : atI xs (-1) = some v := by
  unfold atI ixN
  rw [if_neg (by decide), if_pos (by omega), show (-1 + (xs.length : Int)).toNat = n by omega]
  exact h
theorem ixN_back {m n : Nat} (hl : m = n + 1) : ixN m (-1) = some n := by
  unfold ixN
  rw [if_neg (by decide), if_pos (by omega), show (-1 + (m : Int)).toNat = n by omega]
theorem ixN_nat {m k : Nat} (hl : k < m) : ixN m (k : Int) = some k := by
  unfold ixN
  rw [if_pos (by omega), if_pos (by omega), Int.toNat_natCast]
def SmallH (ds : List (List Int)) : Prop := ∀ d ∈ ds, d.length ≤ 60 ∧ Bd 200 d
theorem szh_of {fs : List Fr} {ds : List (List Int)} (ok : ∀ f ∈ fs, FrOk f) (h : SmallH ds) : SzH fs ds := fun i f d hf hd => by
  obtain ⟨h1, h2⟩ := h d (List.mem_of_getElem? hd)
  exact ⟨h1, box_szs h2 (by omega) (ok f (List.mem_of_getElem? hf)).l0⟩
theorem small_set {ds : List (List Int)} {k : Nat} {e : List Int} (h : SmallH ds) (h1 : e.length ≤ 60) (h2 : Bd 200 e) : SmallH (ds.set k e) := fun d hd => by
  rcases List.mem_or_eq_of_mem_set hd with z | z
  · exact h d z
  · rw [z]; exact ⟨h1, h2⟩
section
variable {P : Program} {w : World} {K : PySem.W.Frag} {mg : Str → Option Value} {base : Heap}
def spSpoil : Sp := fun vs H Q _ => ∃ (a b : Addr) (ds : List (List Int)) (fs : List Fr) (c : Int), vs = [.ref a, .ref b, .int c] ∧ LL H a ds ∧ Frs H b fs ∧ (∀ f ∈ fs, FrFit f) ∧ ds.length = fs.length ∧ fs.length ≤ 63 ∧ (∀ (i : Nat) (f : Fr) (d : List Int), fs[i]? = some f → ds[i]? = some d → (d.length : Int) = f.2.1 ∧ Bd 150 d) ∧
  ∀ (p : Addr) (es : List (List Int)) (H' : Hp), Same H H' → LL H' p es → SmallH es → BadH fs es → es.length ≤ 64 → Q (.ref p) H'
theorem sc__law_spoiled : FnScope ["readings", "frames", "cell", "way", "at", "two", "rest", "other", "spoiled"] ["readings", "frames", "cell"] (defScope st__law_spoiled) := ⟨rfl, rfl, rfl, by decide +kernel, rfl, by decide +kernel, by decide +kernel⟩
theorem ok_spoiled (D : Def K mg "_law_spoiled" st__law_spoiled ["readings", "frames", "cell"]) (T : Txt K mg) (G__law_drawn : Fn P w K mg base 2 "_law_drawn" ["cell", "sizes"] (spDrawnL K)) (G__law_bad : Fn P w K mg base 3 "_law_bad" ["reading", "frame", "cell"] spBad) : Fn P w K mg base 4 "_law_spoiled" ["readings", "frames", "cell"] spSpoil := by
  refine D.fn sc__law_spoiled (fun vs H Q E h => ?_) (fun f cdv A outer s H vs Q E hr h => ?_)
  · obtain ⟨a, b, c, d, e, rfl, _⟩ := h
    rfl
  · obtain ⟨a, b, ds, fs, c, rfl, hL, FF, ok, dl, fl, dd, q⟩ := h
    have hu := hu64 hr
    refine ⟨_, (pss_cons (ps_asg (pe_fn G__law_drawn (hr.mono (by decide)) (by rfl) (pa_cons (pv 2) (pa_cons (pe_lst (pa_cons pe_int (pa_cons pe_int (pa_cons pe_int (pa_cons (pe_op op_powB pe_int pe_int) (pa_cons (pe_op op_powB pe_int pe_int) pa_nil)))))) pa_nil))) (pg_lstU (n := 5) rfl (pgs_cons (pg_name (i := 3) sc__law_spoiled.nd rfl (Or.inl rfl)) (pgs_cons (pg_name (i := 4) sc__law_spoiled.nd rfl (Or.inl rfl)) (pgs_cons (pg_name (i := 5) sc__law_spoiled.nd rfl (Or.inl rfl)) (pgs_cons (pg_name (i := 6) sc__law_spoiled.nd rfl (Or.inl rfl)) (pgs_cons (pg_name (i := 7) sc__law_spoiled.nd rfl (Or.inl rfl)) pgs_nil)))))))
      (pss_cons (ps_setC (k := 8) (own := ["reading"]) (fr := []) (ix := []) rfl sc__law_spoiled.nd rfl rfl ⟨rfl, rfl, rfl, rfl, rfl, rfl⟩ (pi_list (pv 0)) (fun _ _ _ _ _ => (pg_name (i := 0) (show (["reading"] : List Str).Nodup by decide +kernel) rfl (Or.inl rfl))) (fun _ _ _ _ _ => pts_nil) (fun _ _ _ _ _ => (pe_callTy (call_list_ofK K) (by rfl) T.z_list b_list (pa_cons (pv 0) pa_nil))))
      (pss_cons (ps_if (pw_or (pt_cmpR (op_eqLT hu) (pv 1) (pe_lst pa_nil) (nomark _)) (pw_or1 (pt_cmpR op_eqI (pv 3) pe_int (nomark _)))).pt
        (pss_cons (ps_set (i := 4) sc__law_spoiled.nd rfl (Or.inl rfl) (pe_op op_modB (pv 4) (pe_op op_addI (pe_callB call_len_seq (by rfl) T.z_len b_len (pa_cons (pv 8) pa_nil)) pe_int)))
        (pss_one (ps_ret (pe_op op_cat (pe_op op_cat (pe_slice sl_list (pv 8) po_none (po_some (pv 4))) (pe_lst (pa_cons (pe_lst pa_nil) pa_nil))) (pe_slice sl_list (pv 8) (po_some (pv 4)) po_none)))))
        pss_nil)
      (pss_cons (ps_set (i := 4) sc__law_spoiled.nd rfl (Or.inl rfl) (pe_op op_modB (pv 4) (pe_callB call_len_seq (by rfl) T.z_len b_len (pa_cons (pv 8) pa_nil))))
      (pss_cons (ps_if (pt_cmpR op_eqI (pv 3) pe_int (nomark _))
        (pss_one (ps_ret (pe_op op_cat (pe_slice sl_list (pv 8) po_none (po_some (pv 4))) (pe_slice sl_list (pv 8) (po_some (pe_op op_addI (pv 4) pe_int)) po_none))))
        pss_nil)
      (pss_cons (ps_asg (pe_fn G__law_bad (hr.mono (by decide)) (by rfl) (pa_cons (pe_ix ix_list (pv 8) (pv 4) (fun _ _ => rfl)) (pa_cons (pe_ix ix_list (pv 1) (pv 4) (fun _ _ => rfl)) (pa_cons (pv 6) pa_nil)))) (pg_sub (pv 8) (pv 4) set_list))
      (pss_cons (ps_if (pt_cmpR op_eqI (pv 5) pe_int (nomark _))
        (pss_one (ps_asg (pe_fn G__law_bad (hr.mono (by decide)) (by rfl) (pa_cons (pe_callTy call_list_of (by rfl) T.z_list b_list (pa_cons (pe_ix ix_list (pv 0) (pe_un un_neg pe_int) (fun _ _ => rfl)) pa_nil)) (pa_cons (pe_ix ix_list (pv 1) (pe_un un_neg pe_int) (fun _ _ => rfl)) (pa_cons (pv 7) pa_nil)))) (pg_sub (pv 8) (pe_un un_neg pe_int) set_list)))
        pss_nil)
      (pss_one (ps_ret (pv 8)))))))))), ?_⟩
    have sm0 : SmallH ds := fun d hd => by
      obtain ⟨i, hi⟩ := List.getElem?_of_mem hd
      have hif : i < fs.length := by have := (List.getElem?_eq_some_iff.mp hi).1; omega
      obtain ⟨h1, h2⟩ := dd i fs[i] d (List.getElem?_eq_getElem hif) hi
      have o := (ok fs[i] (List.getElem_mem hif)).ok.b60
      exact ⟨by omega, fun x hx => ⟨(h2 x hx).1, Int.lt_trans (h2 x hx).2 (by decide)⟩⟩
    have hss : ∀ s ∈ ([4, 10, 3, 10 ^ (60 : Int).toNat, 10 ^ (60 : Int).toNat] : List Int), 0 < s ∧ intBits s ≤ 9000 := by
      intro s hs
      simp only [List.mem_cons, List.not_mem_nil, or_false] at hs
      rcases hs with rfl | rfl | rfl | rfl | rfl
      all_goals exact ⟨by decide, by decide +kernel⟩
    refine ⟨_, rfl, _, _, rfl, rfl, ⟨by decide, by decide, by decide⟩, _, _, rfl, rfl, ⟨by decide, by decide, by decide⟩, (by decide), fun p1 hp1 => ⟨c, p1, [4, 10, 3, 10 ^ (60 : Int).toNat, 10 ^ (60 : Int).toNat], rfl, SqL.of upd_same, by decide, hss, fun p2 xs H2 s2 hp2 h2 hD => ?_⟩⟩
    obtain ⟨way, at', two, rest, other, rfl, ⟨w0, w1⟩, ⟨a0, a1⟩, ⟨t0, t1⟩, ⟨r0, r1⟩, ⟨o0, o1⟩⟩ := dr_five hD
    refine ⟨p2, _, rfl, SqL.of h2, rfl, _, _, rfl, _, _, rfl, _, _, rfl, _, _, rfl, _, _, rfl, rfl, ?_⟩
    have s02 : Same H H2 := (Same.new hp1).trans s2
    clear s2 h2 hp2 hp1 hD
    obtain ⟨rs, hR, pR⟩ := LL.same s02 hL
    have rl := paired_len pR
    refine ⟨_, rfl, a, rfl, ⟨_, SqL.of hR⟩, fun sp hsp => comp_LL (K := K) (mss := ds) hR pR hsp (by omega) rfl ?_ ?_⟩
    · intro i b' x y H9 R' hx hy hb s9 hR'
      rw [hx] at hy
      cases hy
      exact ⟨rfl, _, rfl, _, _, rfl, .inl (SqL.of hb), fun l hl => hR' l _ (Same.new hl) hl upd_same⟩
    rintro H3 s3 ⟨bs, hB, pB⟩
    have bl := paired_len pB
    have s03 := s02.trans s3
    obtain ⟨as, hA, hF⟩ := FF.same s03
    have al := paired_len hF
    refine ⟨_, rfl, (by decide), fun pe hpe => ?_⟩
    have s34 : Same H3 (upd H3 pe (.lst [])) := Same.new hpe
    have hE : (upd H3 pe (.lst [])) pe = some (.lst []) := upd_same
    generalize upd H3 pe (.lst []) = H4 at s34 hE ⊢
    have s04 := s03.trans s34
    have hB4 := s34 _ _ hB
    have pB4 : PySem.Paired (fun b (ns : List Int) => H4 b = some (.lst (ns.map V.int))) bs ds := paired_imp (fun _ _ z => s34 _ _ z) pB
    refine ⟨b, pe, fs.map frL, [], rfl, rfl, Frs.sq (FF.same s04), ⟨[], SqL.of hE, .nil⟩, _, rfl, ifD (fun _ => ?x1) (fun ne => ⟨_, rfl, _, _, rfl, rfl, _, rfl, ifD (fun _ => ?x2) (fun _ => ?y)⟩)⟩
    case y =>
      have fp : 0 < fs.length := by
        rcases Nat.eq_zero_or_pos fs.length with z | z
        · rw [List.eq_nil_of_length_eq_zero z] at ne
          exact absurd rfl ne
        · exact z
      refine ⟨_, rfl, _, rfl, _, _, rfl, .inl (SqL.of hB4), ?_⟩
      rw [List.length_map]
      have u0 := Int.emod_nonneg at' (show (bs.length : Int) ≠ 0 by omega)
      have u1 := Int.emod_lt_of_pos at' (show (0 : Int) < bs.length by omega)
      refine ⟨_, _, rfl, rfl, by omega, ?_⟩
      obtain ⟨k, hk⟩ : ∃ k : Nat, at' % (bs.length : Int) = (k : Int) := ⟨_, (Int.toNat_of_nonneg u0).symm⟩
      rw [hk] at u1 ⊢
      refine ⟨_, rfl, _, _, rfl, rfl, _, rfl, ifD (fun _ => ?_) (fun _ => ?_)⟩
      · refine ⟨_, rfl, _, rfl, _, rfl, _, _, rfl, SqL.of hB4, fun q1 hq1 => ?_⟩
        rw [cutV_to (by rw [List.length_map]; omega)]
        refine ⟨_, rfl, _, rfl, _, _, rfl, rfl, _, rfl, _, _, rfl, SqL.of ((Same.new hq1) _ _ hB4), fun q2 hq2 => ?_⟩
        rw [show (k : Int) + 1 = ((k + 1 : Nat) : Int) by omega, cutV_from (by rw [List.length_map]; omega)]
        refine ⟨q1, q2, _, _, rfl, rfl, (Same.new hq2) _ _ upd_same, upd_same, ?_, fun q3 hq3 => ?_⟩
        · rw [List.length_take, List.length_drop, List.length_map]; exact Nat.le_of_lt (small1000 (by omega))
        have s45 := ((Same.new (o := .lst ((bs.map V.ref).take k)) hq1).put (o := .lst ((bs.map V.ref).drop (k + 1))) hq2).put (o := .lst ((bs.map V.ref).take k ++ (bs.map V.ref).drop (k + 1))) hq3
        refine q q3 (ds.take k ++ ds.drop (k + 1)) _ (s04.trans s45) ⟨bs.take k ++ bs.drop (k + 1), by rw [upd_same, List.map_append, List.map_take, List.map_drop], paired_imp (fun _ _ z => s45 _ _ z) (paired_app (paired_drop _ pB4) (paired_take _ pB4))⟩ (fun d hd => ?_) (.inl ?_) ?_
        · rcases List.mem_append.mp hd with z | z
          · exact sm0 d (List.mem_of_mem_take z)
          · exact sm0 d (List.mem_of_mem_drop z)
        · rw [List.length_append, List.length_take, List.length_drop]; omega
        · rw [List.length_append, List.length_take, List.length_drop]; omega
      · obtain ⟨c1, hc1⟩ : ∃ c1, bs[k]? = some c1 := ⟨_, List.getElem?_eq_getElem (by omega)⟩
        obtain ⟨d1, hd1, hcd⟩ := paired_get pB4 hc1
        obtain ⟨u, hu2⟩ : ∃ u, as[k]? = some u := ⟨_, List.getElem?_eq_getElem (by omega)⟩
        obtain ⟨f1, hf1, hT1⟩ := paired_get hF hu2
        obtain ⟨e1, e2⟩ := dd k f1 d1 hf1 hd1
        have ff1 := ok f1 (List.mem_of_getElem? hf1)
        have g1 : atI (bs.map V.ref) (k : Int) = some (V.ref c1) := atI_nat (by rw [List.getElem?_map, hc1]; rfl)
        have g2 : atI (as.map V.ref) (k : Int) = some (V.ref u) := atI_nat (by rw [List.getElem?_map, hu2]; rfl)
        refine ⟨_, rfl, _, rfl, _, _, _, _, rfl, rfl, SqL.of hB4, g1, _, rfl, _, rfl, _, _, _, _, rfl, rfl, SqL.of (s34 _ _ hA), g2, _, rfl, c1, u, d1, f1, rest, rfl, hcd, s34 _ _ hT1, ff1, e1, e2, fun pn en H5 s5 hpn h5 en1 en2 en3 => ?_⟩
        have s05 := s04.trans s5
        have hB5 := s5 _ _ hB4
        have pB5 : PySem.Paired (fun b (ns : List Int) => H5 b = some (.lst (ns.map V.int))) bs ds := paired_imp (fun _ _ z => s5 _ _ z) pB4
        have hns : pn ≠ sp := Ne.symm (ne_of_none hB4 hpn)
        refine ⟨_, rfl, _, rfl, sp, bs.map V.ref, _, k, rfl, rfl, hB5, ixN_nat (by rw [List.length_map]; omega), ?_⟩
        rw [show (bs.map V.ref).set k (V.ref pn) = (bs.set k pn).map V.ref from (List.map_set ..).symm]
        have s6 : Same H (upd H5 sp (.lst ((bs.set k pn).map V.ref))) := s05.wr (s02.free hsp)
        have L6 : LL (upd H5 sp (.lst ((bs.set k pn).map V.ref))) sp (ds.set k en) := ⟨bs.set k pn, upd_same, paired_set (by rw [upd_ne hns]; exact h5) k (paired_impM (fun b n hb z => by rw [upd_ne (LL.apart hB5 pB5 hb)]; exact z) pB5)⟩
        have h6 : (upd H5 sp (.lst ((bs.set k pn).map V.ref))) sp = some (.lst ((bs.set k pn).map V.ref)) := upd_same
        generalize upd H5 sp (.lst ((bs.set k pn).map V.ref)) = H6 at s6 L6 h6 ⊢
        have sm1 : SmallH (ds.set k en) := small_set sm0 en1 en2
        refine ⟨_, rfl, _, _, rfl, rfl, _, rfl, ifD (fun _ => ?_) (fun _ => ?_)⟩
        · obtain ⟨rs6, hR6, pR6⟩ := LL.same s6 hL
          obtain ⟨as6, hA6, hF6⟩ := FF.same s6
          have rl6 := paired_len pR6
          have al6 := paired_len hF6
          obtain ⟨n, hn⟩ : ∃ n, fs.length = n + 1 := ⟨fs.length - 1, by omega⟩
          obtain ⟨c2, hc2⟩ : ∃ c2, rs6[n]? = some c2 := ⟨_, List.getElem?_eq_getElem (by omega)⟩
          obtain ⟨d2, hd2, hcd2⟩ := paired_get pR6 hc2
          obtain ⟨u2, hu3⟩ : ∃ u, as6[n]? = some u := ⟨_, List.getElem?_eq_getElem (by omega)⟩
          obtain ⟨f2, hf2, hT2⟩ := paired_get hF6 hu3
          obtain ⟨m1, m2⟩ := dd n f2 d2 hf2 hd2
          have ff2 := ok f2 (List.mem_of_getElem? hf2)
          have g3 : atI (rs6.map V.ref) (-1) = some (V.ref c2) := atI_back (n := n) (by rw [List.getElem?_map, hc2]; rfl) (by rw [List.length_map]; omega)
          have g4 : atI (as6.map V.ref) (-1) = some (V.ref u2) := atI_back (n := n) (by rw [List.getElem?_map, hu3]; rfl) (by rw [List.length_map]; omega)
          refine ⟨_, rfl, _, rfl, _, _, _, _, rfl, rfl, SqL.of hR6, g3, _, _, rfl, .inl (SqL.of hcd2), fun q1 hq1 => ?_⟩
          refine ⟨_, rfl, _, rfl, _, _, _, _, rfl, rfl, SqL.of ((Same.new hq1) _ _ hA6), g4, _, rfl, q1, u2, d2, f2, other, rfl, upd_same, (Same.new hq1) _ _ hT2, ff2, m1, m2, fun pn2 en' H7 s7 hpn2 h7 en1' en2' en3' => ?_⟩
          have s67 : Same H6 H7 := (Same.new hq1).trans s7
          have h67 := s67 _ _ h6
          obtain ⟨bs7, hB7, pB7⟩ := L6.same s67
          have bl7 := paired_len pB7
          have hns2 : pn2 ≠ sp := fun e => by
            rw [e, (Same.new hq1) _ _ h6] at hpn2
            cases hpn2
          refine ⟨_, rfl, _, rfl, sp, bs7.map V.ref, _, n, rfl, rfl, hB7, ixN_back (by rw [List.length_map, bl7, List.length_set]; omega), ?_⟩
          rw [show (bs7.map V.ref).set n (V.ref pn2) = (bs7.set n pn2).map V.ref from (List.map_set ..).symm]
          refine ⟨_, rfl, q sp ((ds.set k en).set n en') _ ((s6.trans s67).wr (s02.free hsp)) ⟨bs7.set n pn2, upd_same, paired_set (by rw [upd_ne hns2]; exact h7) n (paired_impM (fun b n hb z => by rw [upd_ne (LL.apart hB7 pB7 hb)]; exact z) pB7)⟩ (small_set sm1 en1' en2') (.inr ⟨n, f2, en', hf2, ?_, en3'⟩) ?_⟩
          · rw [List.getElem?_set, if_pos rfl, if_pos (by rw [List.length_set]; omega)]
          · rw [List.length_set, List.length_set]; omega
        · refine ⟨_, rfl, q sp (ds.set k en) _ s6 L6 sm1 (.inr ⟨k, f1, en, hf1, ?_, en3⟩) ?_⟩
          · rw [List.getElem?_set, if_pos rfl, if_pos (by omega)]
          · rw [List.length_set]; omega
    all_goals
      refine ⟨_, rfl, _, rfl, _, _, rfl, .inl (SqL.of hB4), ?_⟩
      rw [List.length_map]
      have u0 := Int.emod_nonneg at' (show (bs.length : Int) + 1 ≠ 0 by omega)
      have u1 := Int.emod_lt_of_pos at' (show (0 : Int) < (bs.length : Int) + 1 by omega)
      refine ⟨_, _, rfl, rfl, _, _, rfl, rfl, by omega, ?_⟩
      obtain ⟨k, hk⟩ : ∃ k : Nat, at' % ((bs.length : Int) + 1) = (k : Int) := ⟨_, (Int.toNat_of_nonneg u0).symm⟩
      rw [hk] at u1 ⊢
      refine ⟨_, rfl, _, rfl, _, rfl, _, _, rfl, SqL.of hB4, fun q1 hq1 => ?_⟩
      rw [cutV_to (by rw [List.length_map]; omega)]
      refine ⟨(by decide), fun q2 hq2 => ⟨(by show 1 ≤ sizeLine; decide), fun q3 hq3 => ⟨q1, q3, _, _, rfl, rfl, (Same.new hq3) _ _ ((Same.new hq2) _ _ upd_same), upd_same, ?_, fun q4 hq4 => ?_⟩⟩⟩
      · rw [List.length_take, List.length_map]; exact Nat.le_of_lt (small1000 (by simp only [List.length_cons, List.length_nil]; omega))
      have s5 : Same H4 (upd (upd (upd (upd H4 q1 (.lst ((bs.map V.ref).take k))) q2 (.lst [])) q3 (.lst [V.ref q2])) q4 (.lst ((bs.map V.ref).take k ++ [V.ref q2]))) := (((Same.new hq1).put hq2).put hq3).put hq4
      have h5 : (upd (upd (upd (upd H4 q1 (.lst ((bs.map V.ref).take k))) q2 (.lst [])) q3 (.lst [V.ref q2])) q4 (.lst ((bs.map V.ref).take k ++ [V.ref q2]))) q4 = some (.lst ((bs.map V.ref).take k ++ [V.ref q2])) := upd_same
      have h52 : (upd (upd (upd (upd H4 q1 (.lst ((bs.map V.ref).take k))) q2 (.lst [])) q3 (.lst [V.ref q2])) q4 (.lst ((bs.map V.ref).take k ++ [V.ref q2]))) q2 = some (.lst []) := (Same.new hq4) _ _ ((Same.new hq3) _ _ upd_same)
      generalize upd (upd (upd (upd H4 q1 (.lst ((bs.map V.ref).take k))) q2 (.lst [])) q3 (.lst [V.ref q2])) q4 (.lst ((bs.map V.ref).take k ++ [V.ref q2])) = H5 at s5 h5 h52 ⊢
      refine ⟨_, rfl, _, rfl, _, rfl, _, _, rfl, SqL.of (s5 _ _ hB4), fun q5 hq5 => ?_⟩
      rw [cutV_from (by rw [List.length_map]; omega)]
      refine ⟨q4, q5, _, _, rfl, rfl, (Same.new hq5) _ _ h5, upd_same, ?_, fun q6 hq6 => ?_⟩
      · rw [List.length_append, List.length_take, List.length_drop, List.length_map]; exact Nat.le_of_lt (small1000 (by simp only [List.length_cons, List.length_nil]; omega))
      have s57 := (Same.new (o := .lst ((bs.map V.ref).drop k)) hq5).put (o := .lst ((bs.map V.ref).take k ++ [V.ref q2] ++ (bs.map V.ref).drop k)) hq6
      refine q q6 ((ds.take k ++ [[]]) ++ ds.drop k) _ ((s04.trans s5).trans s57) ⟨(bs.take k ++ [q2]) ++ bs.drop k, by rw [upd_same, List.map_append, List.map_append, List.map_take, List.map_drop]; rfl, paired_imp (fun _ _ z => s57 _ _ z) (paired_app (paired_drop _ (paired_imp (fun _ _ z => s5 _ _ z) pB4)) (paired_app (R := fun b (ns : List Int) => H5 b = some (.lst (ns.map V.int))) (.cons h52 .nil) (paired_take _ (paired_imp (fun _ _ z => s5 _ _ z) pB4))))⟩ (fun d hd => ?_) (.inl ?_) ?_
      · rcases List.mem_append.mp hd with z | z
        · rcases List.mem_append.mp z with z | z
          · exact sm0 d (List.mem_of_mem_take z)
          · rw [List.mem_singleton.mp z]
            exact ⟨by decide, fun _ z => nomatch z⟩
        · exact sm0 d (List.mem_of_mem_drop z)
      · rw [List.length_append, List.length_append, List.length_take, List.length_drop]; simp only [List.length_cons, List.length_nil]; omega
      · rw [List.length_append, List.length_append, List.length_take, List.length_drop]; simp only [List.length_cons, List.length_nil]; omega
end
theorem row_lt {turns late : Int} {bs : List Int} (B : IsBox bs) (l0 : 0 ≤ late) (hn : numB bs < cnt turns (bs.length : Int) late) : ∀ (i : Nat) (x : Int), (bellL late bs)[i]? = some x → 0 ≤ x ∧ x < turns := by
  intro i x hx
  obtain ⟨y, hy, rfl⟩ := bellL_get' hx
  have hi := (List.getElem?_eq_some_iff.mp hy).1
  have hne : bs ≠ [] := fun e => by rw [e] at hi; exact absurd hi (Nat.not_lt_zero _)
  obtain ⟨r, z, e⟩ : ∃ r z, bs = r ++ [z] := ⟨bs.dropLast, bs.getLast hne, (List.dropLast_concat_getLast hne).symm⟩
  have y0 := B.nn y (List.mem_of_getElem? hy)
  have rl : r.length + 1 = bs.length := by rw [e, List.length_append]; rfl
  have hz : bs[r.length]? = some z := by rw [e, List.getElem?_append_right (Nat.le_refl _), Nat.sub_self]; rfl
  have yz := B.get (show i ≤ r.length by omega) hy hz
  have le : z ≤ (turns - (bs.length : Int)) / (late + 1) := by
    rcases (by omega : z ≤ (turns - (bs.length : Int)) / (late + 1) ∨ (turns - (bs.length : Int)) / (late + 1) < z) with h | h
    · exact h
    · have := cnt_le_num B l0 e h
      omega
  have h1 : y * (late + 1) ≤ (turns - (bs.length : Int)) / (late + 1) * (late + 1) := Int.mul_le_mul_of_nonneg_right (by omega) (by omega)
  have h2 := Int.ediv_mul_le (turns - (bs.length : Int)) (show late + 1 ≠ 0 by omega)
  have h3 : 0 ≤ y * (late + 1) := Int.mul_nonneg y0 (by omega)
  omega
theorem lt_of_bits {t : Int} (h0 : 0 ≤ t) (tb : intBits t ≤ 100) : t < 2 ^ 100 := by
  rcases (by omega : t < 2 ^ 100 ∨ 2 ^ 100 ≤ t) with z | z
  · exact z
  · have h1 : intBits ((2 : Int) ^ 100) ≤ intBits t := by
      exact Nat.le_of_not_lt fun hlt => by
        have := intBits_le_of_natAbs (x := (2 : Int) ^ 100) (y := t) (by omega) (Nat.le_refl _)
        omega
    have h2 : intBits ((2 : Int) ^ 100) = 101 := by decide +kernel
    omega
theorem rep_zero (n : Nat) : (List.replicate n [V.int 0]).flatten = (List.replicate n (0 : Int)).map V.int := by
  rw [List.map_replicate]
  induction n with
  | zero => rfl
  | succ n ih => rw [List.replicate_succ, List.flatten_cons, ih, List.replicate_succ]; rfl
theorem prodC_zero {fs : List Fr} (h : prodC fs = 0) : ∃ f ∈ fs, cntF f = 0 := by
  induction fs with
  | nil => exact absurd h (by decide)
  | cons f r ih =>
    rw [prodC_cons] at h
    rcases Int.mul_eq_zero.mp h with z | z
    · exact ⟨f, List.mem_cons_self .., z⟩
    · obtain ⟨g, hg, e⟩ := ih z
      exact ⟨g, List.mem_cons_of_mem _ hg, e⟩
theorem prodC_of_zero {fs : List Fr} {f : Fr} (h : f ∈ fs) (e : cntF f = 0) : prodC fs = 0 := by
  induction fs with
  | nil => exact nomatch h
  | cons g r ih =>
    rw [prodC_cons]
    rcases List.mem_cons.mp h with z | z
    · rw [← z, e, Int.zero_mul]
    · rw [ih z, Int.mul_zero]
section
variable {P : Program} {w : World} {K : PySem.W.Frag} {mg : Str → Option Value} {base : Heap}
theorem sc_law : FnScope ["script", "frames", "message", "whole", "far", "one", "given", "silent", "peal", "readings", "k", "spoiled", "handed"] ["script"] (defScope st_law) := ⟨rfl, rfl, rfl, by decide +kernel, rfl, by decide +kernel, by decide +kernel⟩
theorem ok_law (hP : P.given.tree = none) {f : Addr} {fd : FuncData} (F : Fun K "law" "law" st_law f fd) (T : Txt K mg) (D_choose : Def K mg "choose" st_choose ["n", "k"]) (D_top_from : Def K mg "top_from" st_top_from ["start", "k", "number"]) (D_above_top : Def K mg "above_top" st_above_top ["k", "number"]) (D_rounded_up : Def K mg "rounded_up" st_rounded_up ["number", "divisor"]) (D_box_of : Def K mg "box_of" st_box_of ["row", "late"]) (D_bell_row : Def K mg "bell_row" st_bell_row ["box", "late"]) (D_heard_box : Def K mg "heard_box" st_heard_box ["reading", "late"]) (D_box_count : Def K mg "box_count" st_box_count ["turns", "bells", "late"]) (D_greatest_part : Def K mg "greatest_part" st_greatest_part ["turns", "bells", "late"]) (D_box_number : Def K mg "box_number" st_box_number ["box"]) (D_box_of_message : Def K mg "box_of_message" st_box_of_message ["message", "bells"]) (D_written : Def K mg "written" st_written ["message", "turns", "bells", "late"]) (D_read : Def K mg "read" st_read ["reading", "turns", "bells", "late"]) (D_belfry_count : Def K mg "belfry_count" st_belfry_count ["frames"]) (D_peal_written : Def K mg "peal_written" st_peal_written ["message", "frames"]) (D_peal_read : Def K mg "peal_read" st_peal_read ["readings", "frames"]) (D__law_cell_at : Def K mg "_law_cell_at" st__law_cell_at ["script", "k"]) (D__law_stir : Def K mg "_law_stir" st__law_stir ["cell", "k"]) (D__law_drawn : Def K mg "_law_drawn" st__law_drawn ["cell", "sizes"]) (D__law_count : Def K mg "_law_count" st__law_count ["turns", "bells", "late"]) (D__law_frame : Def K mg "_law_frame" st__law_frame ["cell", "near"]) (D__law_frames : Def K mg "_law_frames" st__law_frames ["script"]) (D__law_message : Def K mg "_law_message" st__law_message ["script", "frames"]) (D__law_kind : Def K mg "_law_kind" st__law_kind ["thing", "frames", "way"]) (D__law_late : Def K mg "_law_late" st__law_late ["row", "late", "cell"]) (D__law_bad : Def K mg "_law_bad" st__law_bad ["reading", "frame", "cell"]) (D__law_spoiled : Def K mg "_law_spoiled" st__law_spoiled ["readings", "frames", "cell"]) {C_BellError : Addr} (m_BellError : mg "BellError" = some (.ref C_BellError)) {C_NoRow : Addr} (m_NoRow : mg "NoRow" = some (.ref C_NoRow)) {C_NoReading : Addr} (m_NoReading : mg "NoReading" = some (.ref C_NoReading)) {C_TooGreat : Addr} (m_TooGreat : mg "TooGreat" = some (.ref C_TooGreat)) {C_TooMany : Addr} (m_TooMany : mg "TooMany" = some (.ref C_TooMany)) {C_NoNote : Addr} (m_NoNote : mg "NoNote" = some (.ref C_NoNote)) {C_NoOrder : Addr} (m_NoOrder : mg "NoOrder" = some (.ref C_NoOrder)) {C_NoName : Addr} (m_NoName : mg "NoName" = some (.ref C_NoName))  (x_BellError : PySem.W.excIn K C_BellError bmV "ValueError.__new__" = true) (x_NoRow : PySem.W.excIn K C_NoRow bmV "ValueError.__new__" = true) (x_NoReading : PySem.W.excIn K C_NoReading bmV "ValueError.__new__" = true) (x_TooGreat : PySem.W.excIn K C_TooGreat bmV "ValueError.__new__" = true) (x_TooMany : PySem.W.excIn K C_TooMany bmV "ValueError.__new__" = true) (x_NoNote : PySem.W.excIn K C_NoNote bmV "ValueError.__new__" = true) (x_NoOrder : PySem.W.excIn K C_NoOrder bmV "ValueError.__new__" = true) (x_NoName : PySem.W.excIn K C_NoName bmV "ValueError.__new__" = true) (g_NoName : PySem.W.mroIn K C_TooGreat (.ref C_NoName) = some false) (d_NoName : PySem.W.mroIn K C_NoReading (.ref C_NoName) = some false) (g_NoNote : PySem.W.mroIn K C_TooGreat (.ref C_NoNote) = some false) (d_NoNote : PySem.W.mroIn K C_NoReading (.ref C_NoNote) = some false) (g_NoOrder : PySem.W.mroIn K C_TooGreat (.ref C_NoOrder) = some false) (d_NoOrder : PySem.W.mroIn K C_NoReading (.ref C_NoOrder) = some false) (g_NoRow : PySem.W.mroIn K C_TooGreat (.ref C_NoRow) = some false) (d_NoRow : PySem.W.mroIn K C_NoReading (.ref C_NoRow) = some false) (g_TooMany : PySem.W.mroIn K C_TooGreat (.ref C_TooMany) = some false) (d_TooMany : PySem.W.mroIn K C_NoReading (.ref C_TooMany) = some false) (d_TooGreat : PySem.W.mroIn K C_NoReading (.ref C_TooGreat) = some false) (r_gaTooGreat : PySem.W.findIn K (.ref C_TooGreat) "__getattribute__" = some (some (.builtin "BaseException.__getattribute__"))) (r_hkTooGreat : PySem.W.findIn K (.ref C_TooGreat) "__getattr__" = some none) (r_clTooGreat : PySem.W.findIn K (.ref C_TooGreat) "__class__" = some (some (.builtin "object.__class__"))) (r_moTooGreat : PySem.W.mroIn K C_TooGreat (.type "object") = some true) (r_mbTooGreat : PySem.W.mroIn K C_TooGreat (.type "BaseException") = some true) (i_BellTooGreat : PySem.W.kitOne K (.ref C_TooGreat) (.ref C_BellError) = some true) (i_ValueTooGreat : PySem.W.kitOne K (.ref C_TooGreat) (.type "ValueError") = some true) (r_gaNoReading : PySem.W.findIn K (.ref C_NoReading) "__getattribute__" = some (some (.builtin "BaseException.__getattribute__"))) (r_hkNoReading : PySem.W.findIn K (.ref C_NoReading) "__getattr__" = some none) (r_clNoReading : PySem.W.findIn K (.ref C_NoReading) "__class__" = some (some (.builtin "object.__class__"))) (r_moNoReading : PySem.W.mroIn K C_NoReading (.type "object") = some true) (r_mbNoReading : PySem.W.mroIn K C_NoReading (.type "BaseException") = some true) (i_BellNoReading : PySem.W.kitOne K (.ref C_NoReading) (.ref C_BellError) = some true) (i_ValueNoReading : PySem.W.kitOne K (.ref C_NoReading) (.type "ValueError") = some true) (r_gt : PySem.W.specialIn K (.builtin "object.__class__") "__get__" = some (some (.builtin "getset_descriptor.__get__"))) (r_tk : PySem.W.takesIn K (.builtin "object.__class__") = some true) : FnOk P w K mg base CX0 43 f fd ["script"] (spLaw K) := by
  have G_choose : Fn P w K mg base 1 "choose" ["n", "k"] spChoose := ok_choose D_choose T
  have G_rounded := ok_rounded_up (w := w) (base := base) D_rounded_up hP
  have G_above_top := ok_above_top D_above_top T G_rounded
  have G_top_from := ok_top_from D_top_from G_choose G_rounded hP
  have GE_box_of_message := ok_box_of_messageE D_box_of_message T m_TooGreat x_TooGreat G_above_top G_top_from G_choose
  have G_bell_row : Fn P w K mg base 1 "bell_row" ["box", "late"] (spBellRow K) := ok_bell_row D_bell_row T
  have G_box_count : Fn P w K mg base 2 "box_count" ["turns", "bells", "late"] spCount := ok_box_count D_box_count T (ok_greatest_part D_greatest_part) G_choose
  have GE_written := ok_writtenE D_written T m_TooGreat x_TooGreat G_box_count GE_box_of_message G_bell_row
  have G_written : Fn P w K mg base 40 "written" ["message", "turns", "bells", "late"] (spWritten K) := fn_mono (fun vs H Q E h => by
    obtain ⟨m, t, b, l, e, m0, m1, b0, b60, l0, lb, tb, mb, q⟩ := h
    exact ⟨m, t, b, l, e, b0, b60, l0, lb, tb, mb, fun _ => q, fun z => absurd ⟨m0, m1⟩ z⟩) (fnE_fn GE_written)
  have G_box_of : Fn P w K mg base 1 "box_of" ["row", "late"] (spBoxOf K) := ok_box_of D_box_of T
  have GE_heard_box : FnE P w K mg base 2 "heard_box" ["reading", "late"] (spHBoxE K C_NoReading) := ok_heard_boxE D_heard_box T m_NoReading x_NoReading G_box_of
  have G_box_number : Fn P w K mg base 2 "box_number" ["box"] (spNum K) := ok_box_number D_box_number T G_choose
  have GE_read : FnE P w K mg base 3 "read" ["reading", "turns", "bells", "late"] (spReadE K C_NoReading) := ok_readE D_read T m_NoReading x_NoReading G_box_count GE_heard_box G_box_number
  have G_read : Fn P w K mg base 3 "read" ["reading", "turns", "bells", "late"] (spRead K) := fn_mono (fun vs H Q E h => by
    obtain ⟨a, ns, t, b, l, e, hA, hl, b60, l0, lb, tb, B, sz, lt, q⟩ := h
    exact ⟨a, ns, t, b, l, e, hA, by omega, by omega, b60, l0, lb, tb, sz, fun _ => q, fun z => absurd ⟨hl, B, lt⟩ z⟩) (fnE_fn GE_read)
  have G_belfry_count : Fn P w K mg base 3 "belfry_count" ["frames"] spBelf := ok_belfry_count D_belfry_count T G_box_count
  have G_peal_written := ok_peal_written D_peal_written T G_belfry_count G_box_count G_written
  have G_peal_read := ok_peal_read D_peal_read T G_box_count G_read
  have GE_peal_written := ok_peal_writtenE D_peal_written T m_TooGreat x_TooGreat G_belfry_count G_box_count GE_written
  have GE_peal_read := ok_peal_readE D_peal_read T m_NoReading x_NoReading G_box_count GE_read
  have G__law_cell_at : Fn P w K mg base 1 "_law_cell_at" ["script", "k"] (spCell K) := ok_cell_at D__law_cell_at T
  have G__law_stir : Fn P w K mg base 1 "_law_stir" ["cell", "k"] spStir := ok_stir D__law_stir
  have G__law_count : Fn P w K mg base 1 "_law_count" ["turns", "bells", "late"] spCount := ok_lcount D__law_count T
  have G__law_drawn := ok_drawnL D__law_drawn T G__law_stir
  have G__law_frame := ok_frameN D__law_frame T G__law_drawn
  have G__law_frames := ok_framesS D__law_frames T G__law_cell_at G__law_drawn G__law_frame
  have G__law_message := ok_messageG D__law_message T G__law_cell_at G__law_drawn G__law_count
  have G__law_late := ok_lateL D__law_late T G__law_drawn
  have G__law_kind := ok_kind D__law_kind T m_BellError m_NoRow m_NoReading m_TooGreat m_TooMany m_NoNote m_NoOrder m_NoName x_BellError x_NoRow x_NoReading x_TooGreat x_TooMany x_NoNote x_NoOrder x_NoName g_NoName d_NoName g_NoNote d_NoNote g_NoOrder d_NoOrder g_NoRow d_NoRow g_TooMany d_TooMany d_TooGreat r_gaTooGreat r_hkTooGreat r_clTooGreat r_moTooGreat r_mbTooGreat i_BellTooGreat i_ValueTooGreat r_gaNoReading r_hkNoReading r_clNoReading r_moNoReading r_mbNoReading i_BellNoReading i_ValueNoReading r_gt r_tk GE_peal_written GE_peal_read
  have G__law_bad := ok_bad D__law_bad T G__law_drawn
  have G__law_spoiled := ok_spoiled D__law_spoiled T G__law_drawn G__law_bad
  refine F.ok sc_law (fun vs H Q E h => ?_) (fun cdv A outer s H vs Q E hr h => ?_)
  · obtain ⟨a, ns, rfl, _⟩ := h
    rfl
  · obtain ⟨a, ns, rfl, hS, hlen, q⟩ := h
    have hu := hu64 hr
    refine ⟨_, (pss_cons (ps_set (i := 1) sc_law.nd rfl (Or.inl rfl) (pe_fn G__law_frames (hr.mono (by decide)) (by rfl) (pa_cons (pv 0) pa_nil)))
      (pss_cons (ps_if (pt_cmpR op_eqI (pe_op op_modB (pe_op op_fdivB (pe_fn G__law_cell_at (hr.mono (by decide)) (by rfl) (pa_cons (pv 0) (pa_cons pe_int pa_nil))) pe_int) pe_int) pe_int (nomark _))
        (pss_one (ps_expr (pe_bm PySem.F.plainAttrs_list PySem.F.slot_list_insert PySem.F.type_list_insert mt_insertAt (pv 1) (pa_cons (pe_op op_modB (pe_fn G__law_cell_at (hr.mono (by decide)) (by rfl) (pa_cons (pv 0) (pa_cons pe_int pa_nil))) (pe_op op_addI (pe_callB call_len_seq (by rfl) T.z_len b_len (pa_cons (pv 1) pa_nil)) pe_int)) (pa_cons (pe_tup (pa_cons (pe_op op_modB (pe_fn G__law_cell_at (hr.mono (by decide)) (by rfl) (pa_cons (pv 0) (pa_cons pe_int pa_nil))) pe_int) (pa_cons pe_int (pa_cons pe_int pa_nil)))) pa_nil)))))
        pss_nil)
      (pss_cons (ps_asg (pe_fn G__law_message (hr.mono (by decide)) (by rfl) (pa_cons (pv 0) (pa_cons (pv 1) pa_nil))) (pg_lstU (n := 2) rfl (pgs_cons (pg_name (i := 2) sc_law.nd rfl (Or.inl rfl)) (pgs_cons (pg_name (i := 3) sc_law.nd rfl (Or.inl rfl)) pgs_nil))))
      (pss_cons (ps_set (i := 4) sc_law.nd rfl (Or.inl rfl) (pe_ix ix_list (pe_fn G__law_drawn (hr.mono (by decide)) (by rfl) (pa_cons (pe_fn G__law_cell_at (hr.mono (by decide)) (by rfl) (pa_cons (pv 0) (pa_cons pe_int pa_nil))) (pa_cons (pe_lst (pa_cons (pe_op op_powB pe_int pe_int) pa_nil)) pa_nil))) pe_int (fun _ _ => rfl)))
      (pss_cons (ps_for PassesOwn.never rfl (pi_list (pe_lst (pa_cons (pe_un un_neg pe_int) (pa_cons (pe_op op_subI (pe_un un_neg pe_int) (pv 4)) (pa_cons (pv 3) (pa_cons (pe_op op_addI (pe_op op_addI (pv 3) pe_int) (pv 4)) pa_nil)))))) (pg_name (i := 5) sc_law.nd rfl (Or.inl rfl))
        (pss_one (ps_if (pt_cmpR op_ne (pe_fn G__law_kind (hr.mono (by decide)) (by rfl) (pa_cons (pv 5) (pa_cons (pe_callTy call_list_of (by rfl) T.z_list b_list (pa_cons (pv 1) pa_nil)) (pa_cons pe_bl pa_nil)))) pe_str (nomark _))
          (pss_one (ps_ret pe_bl))
          pss_nil)))
      (pss_cons (ps_set (i := 6) sc_law.nd rfl (Or.inl rfl) (pe_callTy call_list_of (by rfl) T.z_list b_list (pa_cons (pv 1) pa_nil)))
      (pss_cons (ps_if (pt_cmpR op_eqI (pv 3) pe_int (nomark _))
        (pss_cons (ps_setC (k := 7) (own := ["frame"]) (fr := []) (ix := []) rfl sc_law.nd rfl rfl ⟨rfl, rfl, rfl, rfl, rfl, rfl⟩ (pi_list (pv 1)) (fun _ _ _ _ _ => (pg_name (i := 0) (show (["frame"] : List Str).Nodup by decide +kernel) rfl (Or.inl rfl))) (fun _ _ _ _ _ => pts_nil) (fun _ _ _ _ _ => (pe_op op_rep (pe_lst (pa_cons pe_int pa_nil)) (pe_ix (ix_tupK K) (pv 0) pe_int (fun _ _ => rfl)))))
        (pss_one (ps_ret (pe_and (pe_cmpR op_eq (pe_fn G__law_kind (hr.mono (by decide)) (by rfl) (pa_cons (pv 7) (pa_cons (pv 6) (pa_cons pe_bl pa_nil)))) pe_str (nomark _)) (pe_one (pe_cmpR (op_eqLT hu) (pv 6) (pv 1) (nomark _)))))))
        pss_nil)
      (pss_cons (ps_set (i := 8) sc_law.nd rfl (Or.inl rfl) (pe_fn G_peal_written (hr.mono (by decide)) (by rfl) (pa_cons (pv 2) (pa_cons (pv 6) pa_nil))))
      (pss_cons (ps_set (i := 9) sc_law.nd rfl (Or.inl rfl) (pe_lst pa_nil))
      (pss_cons (ps_for PassesOwn.never rfl (pi_range1 (by rfl) T.z_range (pa_cons (pe_callB call_len_seq (by rfl) T.z_len b_len (pa_cons (pv 1) pa_nil)) pa_nil)) (pg_name (i := 10) sc_law.nd rfl (Or.inl rfl))
        (pss_one (ps_expr (pe_bm PySem.F.plainAttrs_list PySem.F.slot_list_append PySem.F.type_list_append mt_append (pv 9) (pa_cons (pe_fn G__law_late (hr.mono (by decide)) (by rfl) (pa_cons (pe_ix ix_list (pv 8) (pv 10) (fun _ _ => rfl)) (pa_cons (pe_ix ix_tup (pe_ix ix_list (pv 1) (pv 10) (fun _ _ => rfl)) pe_int (fun _ _ => rfl)) (pa_cons (pe_fn G__law_cell_at (hr.mono (by decide)) (by rfl) (pa_cons (pv 0) (pa_cons (pe_op op_addI pe_int (pv 10)) pa_nil))) pa_nil)))) pa_nil)))))
      (pss_cons (ps_if (pt_cmpR op_neI (pe_fn G_peal_read (hr.mono (by decide)) (by rfl) (pa_cons (pe_comp (own := ["reading"]) (fr := []) (ix := []) rfl ⟨rfl, rfl, rfl, rfl, rfl, rfl⟩ (pi_list (pv 9)) (fun _ _ _ _ _ => (pg_name (i := 0) (show (["reading"] : List Str).Nodup by decide +kernel) rfl (Or.inl rfl))) (fun _ _ _ _ _ => pts_nil) (fun _ _ _ _ _ => (pe_callTy (call_list_ofK K) (by rfl) T.z_list b_list (pa_cons (pv 0) pa_nil)))) (pa_cons (pv 6) pa_nil))) (pv 2) (nomark _))
        (pss_one (ps_ret pe_bl))
        pss_nil)
      (pss_cons (ps_set (i := 11) sc_law.nd rfl (Or.inl rfl) (pe_fn G__law_spoiled (hr.mono (by decide)) (by rfl) (pa_cons (pv 9) (pa_cons (pv 1) (pa_cons (pe_fn G__law_cell_at (hr.mono (by decide)) (by rfl) (pa_cons (pv 0) (pa_cons pe_int pa_nil))) pa_nil)))))
      (pss_cons (ps_setC (k := 12) (own := ["reading"]) (fr := []) (ix := []) rfl sc_law.nd rfl rfl ⟨rfl, rfl, rfl, rfl, rfl, rfl⟩ (pi_list (pv 11)) (fun _ _ _ _ _ => (pg_name (i := 0) (show (["reading"] : List Str).Nodup by decide +kernel) rfl (Or.inl rfl))) (fun _ _ _ _ _ => pts_nil) (fun _ _ _ _ _ => (pe_callTy (call_list_ofK K) (by rfl) T.z_list b_list (pa_cons (pv 0) pa_nil))))
      (pss_cons (ps_if (pw_or (pt_cmpR op_ne (pe_fn G__law_kind (hr.mono (by decide)) (by rfl) (pa_cons (pv 12) (pa_cons (pv 6) (pa_cons pe_bl pa_nil)))) pe_str (nomark _)) (pw_or (pt_cmpR (op_neLL hu) (pv 12) (pv 11) (nomark _)) (pw_or1 (pt_cmpR (op_neLT hu) (pv 6) (pv 1) (nomark _))))).pt
        (pss_one (ps_ret pe_bl))
        pss_nil)
      (pss_one (ps_ret (pe_cmpR op_eqI (pe_fn G_peal_read (hr.mono (by decide)) (by rfl) (pa_cons (pv 9) (pa_cons (pv 6) pa_nil))) (pv 2) (nomark _)))))))))))))))))), ?_⟩
    refine ⟨_, rfl, a, ns, rfl, hS, hlen, fun pf fs H2 s2 hpf FF ok2 fl => ?_⟩
    obtain ⟨bs, e2, p2⟩ := FF
    have bl2 := paired_len p2
    have hS2 := s2.seq hS
    refine ⟨_, rfl, a, ns, 0, rfl, hS2, by decide, _, _, rfl, rfl, ⟨by decide, by decide⟩, _, _, rfl, rfl, (by decide), _, _, rfl, rfl, _, rfl, ifD (fun _ => ?x1) (fun _ => ?x2)⟩
    case' x1 =>
      have d0 : 0 ≤ cellOf ns 1 % ((bs.length : Int) + 1) := Int.emod_nonneg _ (by omega)
      have d1 : cellOf ns 1 % ((bs.length : Int) + 1) < (bs.length : Int) + 1 := Int.emod_lt_of_pos _ (by omega)
      have g0 := Int.emod_nonneg (cellOf ns 33) (show (4 : Int) ≠ 0 by decide)
      have g1 := Int.emod_lt_of_pos (cellOf ns 33) (show (0 : Int) < 4 by decide)
      refine ⟨_, rfl, .inl ⟨rfl, _, SqL.of e2⟩, _, rfl, a, ns, 1, rfl, hS2, by decide, _, rfl, _, _, rfl, .inl (SqL.of e2), _, _, rfl, rfl, _, _, rfl, rfl, ?_⟩
      rw [List.length_map]
      refine ⟨by omega, _, rfl, a, ns, 33, rfl, hS2, by decide, _, _, rfl, rfl, (by decide), (by show 3 ≤ sizeLine; decide), fun pt hpt => ?_⟩
      generalize cellOf ns 33 % 4 = tt at g0 g1 hpt ⊢
      obtain ⟨k, hk⟩ : ∃ k : Nat, cellOf ns 1 % ((bs.length : Int) + 1) = (k : Int) := ⟨_, (Int.toNat_of_nonneg d0).symm⟩
      rw [hk] at d1 ⊢
      have hne : pt ≠ pf := Ne.symm (ne_of_none e2 hpt)
      refine ⟨pf, bs.map V.ref, .ref pt, k, rfl, rfl, (Same.new hpt) _ _ e2, by rw [List.length_map]; exact small1000 (by omega), by rw [List.length_map]; omega, ?_⟩
      have eb : (bs.map V.ref).take k ++ V.ref pt :: (bs.map V.ref).drop k = (bs.take k ++ pt :: bs.drop k).map V.ref := by simp
      rw [eb]
      have c0 : cntF (tt, 4, 1) = 0 := by
        show cnt tt 4 1 = 0
        unfold cnt
        rw [if_pos (by omega)]
      have FF : ∃ fs' : List Fr, Frs (upd (upd H2 pt (.tup [V.int tt, V.int 4, V.int 1])) pf (.lst ((bs.take k ++ pt :: bs.drop k).map V.ref))) pf fs' ∧ (∀ f ∈ fs', FrOk f) ∧ fs'.length ≤ 63 ∧ ((∀ f ∈ fs', FrFit f) ∨ prodC fs' = 0) := by
        refine ⟨fs.take k ++ (tt, 4, 1) :: fs.drop k, ⟨_, upd_same, paired_ins ?_ k (paired_imp (fun b n z => ?_) p2)⟩, fun f hf => ?_, ?_, .inr (prodC_of_zero (f := (tt, 4, 1)) (List.mem_append.mpr (.inr (List.mem_cons_self ..))) c0)⟩
        · rw [upd_ne hne]; exact upd_same
        · have : b ≠ pf := fun e => by rw [e, e2] at z; cases z
          rw [upd_ne this]; exact (Same.new hpt) _ _ z
        · rcases List.mem_append.mp hf with z | z
          · exact (ok2 f (List.mem_of_mem_take z)).ok
          · rcases List.mem_cons.mp z with z | z
            · rw [z]
              exact ⟨by show (0 : Int) ≤ 4; decide, by show (4 : Int) ≤ 60; decide, by show (0 : Int) ≤ 1; decide, by show intBits 1 ≤ 7000; decide, g0, bits_mono (bits_of (m := 64) (x := tt) g0 (by omega)) (by decide)⟩
            · exact (ok2 f (List.mem_of_mem_drop z)).ok
        · rw [List.length_append, List.length_cons, List.length_take, List.length_drop]; omega
      have s3 : Same H (upd (upd H2 pt (.tup [V.int tt, V.int 4, V.int 1])) pf (.lst ((bs.take k ++ pt :: bs.drop k).map V.ref))) := (s2.put hpt).wr hpf
      generalize upd (upd H2 pt (.tup [V.int tt, V.int 4, V.int 1])) pf (.lst ((bs.take k ++ pt :: bs.drop k).map V.ref)) = H3 at FF s3 ⊢
    case' x2 =>
      have FF : ∃ fs' : List Fr, Frs H2 pf fs' ∧ (∀ f ∈ fs', FrOk f) ∧ fs'.length ≤ 63 ∧ ((∀ f ∈ fs', FrFit f) ∨ prodC fs' = 0) := ⟨fs, ⟨bs, e2, p2⟩, fun f hf => (ok2 f hf).ok, by omega, .inl ok2⟩
      have s3 := s2
      generalize H2 = H3 at FF s3 ⊢
    all_goals
      obtain ⟨gs, FF3, okk, gl, fit⟩ := FF
      have hS3 := s3.seq hS
      clear p2 e2 ok2 bl2 fl hS2
      refine ⟨_, rfl, _, rfl, a, ns, pf, gs, rfl, hS3, FF3, okk, gl, fun pm m H4 s4 hpm h4 m0 m1 => ?_⟩
      refine ⟨pm, _, rfl, SqL.of h4, rfl, _, _, rfl, _, _, rfl, rfl, ?_⟩
      have w0 : 0 ≤ prodC gs := by
        have := prodC_nn gs gs.length
        rwa [List.take_length] at this
      generalize hW : prodC gs = W at m1 w0 fit ⊢
      have hS4 := s4.seq hS3
      have FF4 := FF3.same s4
      have hss : ∀ s ∈ ([10 ^ (59 : Int).toNat] : List Int), 0 < s ∧ intBits s ≤ 9000 := by
        intro s hs
        rw [List.mem_singleton.mp hs]
        exact ⟨by decide, by decide +kernel⟩
      refine ⟨_, rfl, a, ns, 34, rfl, hS4, by decide, _, _, rfl, rfl, ⟨by decide, by decide, by decide⟩, (by decide), fun p1 hp1 => ⟨_, p1, [10 ^ (59 : Int).toNat], rfl, SqL.of upd_same, by decide, hss, fun p5 ds H5 s5 hp5 h5 hD => ?_⟩⟩
      obtain ⟨far, rfl, far0, far1⟩ := dr_one hD
      refine ⟨_, _, _, _, rfl, rfl, SqL.of h5, at_map (ns := [far]) (k := 0) rfl, ?_⟩
      have s45 := (Same.new hp1).trans s5
      have FF5 := FF4.same s45
      have hS5 := s45.seq hS4
      clear FF4 hS4 h4 h5 hD s5 hp5 hp1 s4 FF3 hS3
      refine ⟨_, rfl, _, rfl, _, rfl, _, _, rfl, rfl, _, rfl, _, rfl, _, _, rfl, rfl, _, rfl, _, _, rfl, rfl, (by show 4 ≤ sizeLine; decide), fun pl hpl => ?_⟩
      have hmem : ∀ x ∈ [V.int (-1), V.int (-2 - far), V.int W, V.int (W + 1 + far)], ∃ mm : Int, x = .int mm ∧ ¬ (0 ≤ mm ∧ mm < W) := by
        intro x hx
        simp only [List.mem_cons, List.not_mem_nil, or_false] at hx
        rcases hx with rfl | rfl | rfl | rfl
        all_goals exact ⟨_, rfl, by omega⟩
      have s6 : Same H5 (upd H5 pl (.lst [V.int (-1), V.int (-2 - far), V.int W, V.int (W + 1 + far)])) := Same.new hpl
      have h6 : (upd H5 pl (.lst [V.int (-1), V.int (-2 - far), V.int W, V.int (W + 1 + far)])) pl = some (.lst [V.int (-1), V.int (-2 - far), V.int W, V.int (W + 1 + far)]) := upd_same
      generalize upd H5 pl (.lst [V.int (-1), V.int (-2 - far), V.int W, V.int (W + 1 + far)]) = H6 at s6 h6 ⊢
      generalize [V.int (-1), V.int (-2 - far), V.int W, V.int (W + 1 + far)] = msgs at h6 hmem ⊢
      have FF6 := FF5.same s6
      have hS6 := s6.seq hS5
      clear FF5 hS5 s6 hpl
      refine ⟨pl, rfl, ⟨_, SqL.of h6⟩, for_list (K := K) (a := pl) (xs := msgs) (fun i σ H7 => ∃ v5 : Option V, σ = [some (.ref a), some (.ref pf), some (.int m), some (.int W), some (.int far), v5, none, none, none, none, none, none, none] ∧ Same H6 H7) ⟨none, rfl, Same.refl _⟩ (fun i σ H5 _ ⟨_, _, s⟩ => SqL.of (s _ _ h6)) ?_ ?_⟩
      · rintro j y σ H7 hj ⟨v5, rfl, s7⟩
        obtain ⟨one, rfl, bad⟩ := hmem y (List.mem_of_getElem? hj)
        obtain ⟨as, hA, hF⟩ := FF6.same s7
        refine ⟨_, rfl, _, rfl, _, _, rfl, .inl (SqL.of hA), fun pg hpg => ⟨_, pg, gs, true, rfl, ⟨as, upd_same, paired_imp (fun _ _ z => (Same.new hpg) _ _ z) hF⟩, okk, gl, .inl ⟨rfl, one, rfl, by rw [hW]; exact bad, fun H8 s8 => ⟨rfl, _, rfl, iteF ⟨_, rfl, (s7.put hpg).trans s8⟩⟩⟩⟩⟩
      · rintro σ H7 ⟨v5, rfl, s7⟩
        obtain ⟨as, hA, hF⟩ := FF6.same s7
        have al := paired_len hF
        refine ⟨_, rfl, _, _, rfl, .inl (SqL.of hA), fun pg hpg => ?_⟩
        have s8 : Same H7 (upd H7 pg (.lst (as.map V.ref))) := Same.new hpg
        have hG : (upd H7 pg (.lst (as.map V.ref))) pg = some (.lst (as.map V.ref)) := upd_same
        generalize upd H7 pg (.lst (as.map V.ref)) = H8 at s8 hG ⊢
        have FF8 : Frs H8 pf gs := Frs.same s8 ⟨as, hA, hF⟩
        have FG8 : Frs H8 pg gs := ⟨as, hG, paired_imp (fun _ _ z => s8 _ _ z) hF⟩
        have hS8 := (s7.trans s8).seq hS6
        clear hA hF hG s7 s8 FF6 hS6 h6
        refine ⟨_, rfl, _, _, rfl, rfl, _, rfl, ifD (fun wz => ?_) (fun wz => ?_)⟩
        · obtain ⟨as8, hA8, hF8⟩ := FF8
          have al8 := paired_len hF8
          refine ⟨_, rfl, pf, rfl, ⟨_, SqL.of hA8⟩, fun ps hps => comp_listO (K := K) (a := pf) (xs := as8.map V.ref) (fun i v H => ∃ (b : Addr) (f : Fr), v = .ref b ∧ b ≠ ps ∧ gs[i]? = some f ∧ H b = some (.lst ((List.replicate f.2.1.toNat (0 : Int)).map V.int))) (fun i v H H' s ⟨b, ns, h1, h2, h3, h4⟩ => ⟨b, ns, h1, h2, h3, s _ _ h4⟩) (fun i v H o ho o' ⟨b, ns, h1, h2, h3, h4⟩ => ⟨b, ns, h1, h2, h3, by rw [upd_ne h2]; exact h4⟩) (SqL.of hA8) hps (by rw [List.length_map]; exact Nat.le_of_lt (small1000 (by omega))) ?_ ?_⟩
          · intro i x H9 R' hx s9 ⟨o, ho⟩ hR
            rw [List.getElem?_map] at hx
            obtain ⟨b, hb, rfl⟩ := Option.map_eq_some_iff.mp hx
            obtain ⟨f, hf, hT⟩ := paired_get hF8 hb
            have of := okk f (List.mem_of_getElem? hf)
            have b0 := of.b0
            have b60 := of.b60
            refine ⟨rfl, (by decide), fun q1 hq1 => ⟨_, rfl, _, _, _, _, rfl, rfl, SqT.of ((Same.new hq1) _ _ (s9 _ _ hT)), rfl, q1, f.2.1, _, rfl, rfl, upd_same, by omega, by omega, ?_, fun q2 hq2 => ?_⟩⟩
            · show 1 * _ ≤ _
              exact Nat.le_of_lt (small1000 (by omega))
            · rw [rep_zero]
              refine hR _ _ ((Same.new hq1).put hq2) ⟨q2, f, rfl, fun e => ?_, hf, upd_same⟩
              rw [e, (Same.new hq1) _ _ ho] at hq2
              cases hq2
          · intro ys H9 s9 hY yl yp
            rw [List.length_map] at yl
            obtain ⟨zs, ez, pz⟩ := LL.of (H := H9) (ys := ys) (nss := gs.map (fun f => List.replicate f.2.1.toNat (0 : Int))) (by rw [List.length_map]; omega) fun i v ns h1 h2 => by
              obtain ⟨b, f, e1, _, e3, e4⟩ := yp i v h1
              rw [List.getElem?_map, e3] at h2
              cases h2
              exact ⟨b, e1, e4⟩
            have LS : LL H9 ps (gs.map (fun f => List.replicate f.2.1.toNat (0 : Int))) := ⟨zs, by rw [hY, ez], pz⟩
            have FG9 := FG8.same s9
            have FF9 : Frs H9 pf gs := Frs.same s9 ⟨as8, hA8, hF8⟩
            have smz : SmallH (gs.map (fun f => List.replicate f.2.1.toNat (0 : Int))) := fun d hd => by
              obtain ⟨f, hf, rfl⟩ := List.mem_map.mp hd
              have b60 := (okk f hf).b60
              refine ⟨by rw [List.length_replicate]; omega, fun x hx => ?_⟩
              rw [(List.mem_replicate.mp hx).2]
              exact ⟨by decide, by decide⟩
            refine ⟨_, rfl, _, rfl, _, pg, gs, false, rfl, FG9, okk, gl, .inr ⟨rfl, ps, _, rfl, LS, szh_of okk smz, .inr ?_, fun H10 s10 => ⟨rfl, true, rfl, iteT ⟨_, rfl, _, rfl, pg, pf, gs.map frL, gs.map frL, rfl, rfl, (FG9.same s10).sq, (FF9.same s10).sq, ?_⟩⟩⟩⟩
            · obtain ⟨f, hf, e⟩ := prodC_zero (hW.trans wz)
              obtain ⟨i, hi⟩ := List.getElem?_of_mem hf
              refine ⟨i, f, List.replicate f.2.1.toNat (0 : Int), hi, by rw [List.getElem?_map, hi]; rfl, fun g => ?_⟩
              have h1 := g.2.2
              have h2 : (0 : Int) ≤ numB (boxL f.2.2 (List.replicate f.2.1.toNat 0)) := numTo_nonneg _ _
              have h3 : cnt f.1 f.2.1 f.2.2 = 0 := e
              omega
            · rw [decide_eq_true rfl]
              exact q _
        · have ok : ∀ f ∈ gs, FrFit f := by
            rcases fit with z | z
            · exact z
            · exact absurd z wz
          have m1' : m < prodC gs := by rw [hW]; exact m1 (by omega)
          refine ⟨_, rfl, _, rfl, m, pg, gs, rfl, FG8, ok, gl, m0, m1', fun pp rs H9 s9 hpp ⟨qs, hQ, nd, pQ⟩ rl PR => ?_⟩
          have ql := paired_len pQ
          have pQ' : PySem.Paired (fun b (ns : List Int) => H9 b = some (.lst (ns.map V.int))) qs rs := paired_imp (fun _ _ z => z.2.2) pQ
          have FF9 := FF8.same s9
          have FG9 := FG8.same s9
          have hS9 := s9.seq hS8
          clear FF8 FG8 hS8 s9 pQ nd
          refine ⟨(by decide), fun pr hpr => ?_⟩
          obtain ⟨as9, hA9, hF9⟩ := FF9
          have al9 := paired_len hF9
          refine ⟨_, rfl, _, _, rfl, .inl (SqL.of ((Same.new hpr) _ _ hA9)), _, rfl, ?_⟩
          rw [List.length_map]
          refine ⟨by omega, by omega, for_range (n := as9.length) (fun i σ H10 => ∃ (es : List Addr) (ds : List (List Int)) (v10 : Option V), σ = [some (.ref a), some (.ref pf), some (.int m), some (.int W), some (.int far), v5, some (.ref pg), none, some (.ref pp), some (.ref pr), v10, none, none] ∧ Same H9 H10 ∧ H10 pr = some (.lst (es.map V.ref)) ∧ PySem.Paired (fun b (ns : List Int) => b ≠ pr ∧ H10 b = some (.lst (ns.map V.int))) es ds ∧ ds.length = i ∧ ∀ (j : Nat) (f : Fr) (r d : List Int), gs[j]? = some f → rs[j]? = some r → ds[j]? = some d → Al f.2.2 r d) ⟨[], [], none, rfl, Same.new hpr, upd_same, .nil, rfl, fun j f r d _ _ h => by simp at h⟩ ?_ ?_⟩
          · rintro i σ H10 hi ⟨es, ds, v10, rfl, s10, hE, pE, dl, AL⟩
            rw [show (0 : Int) + (i : Int) = (i : Int) by omega]
            obtain ⟨t, ht⟩ : ∃ t, as9[i]? = some t := ⟨_, List.getElem?_eq_getElem hi⟩
            obtain ⟨f, hf, hT⟩ := paired_get hF9 ht
            have hi2 : i < qs.length := by omega
            obtain ⟨c, hc⟩ : ∃ c, qs[i]? = some c := ⟨_, List.getElem?_eq_getElem hi2⟩
            obtain ⟨r, hr, hcr⟩ := paired_get pQ' hc
            obtain ⟨bs', er, RM⟩ := PR i f r hf hr
            have o := (ok f (List.mem_of_getElem? hf)).ok
            have g1 : atI (qs.map V.ref) (i : Int) = some (V.ref c) := atI_nat (by rw [List.getElem?_map, hc]; rfl)
            have g2 : atI (as9.map V.ref) (i : Int) = some (V.ref t) := atI_nat (by rw [List.getElem?_map, ht]; rfl)
            have el := paired_len pE
            have rlen : r.length ≤ 60 := by
              have h1 := RM.len
              have h2 := o.b60
              rw [er, bellL_length]
              omega
            refine ⟨_, rfl, .inl ⟨rfl, _, SqL.of hE⟩, _, rfl, _, rfl, _, _, _, _, rfl, rfl, SqL.of (s10 _ _ hQ), g1, _, rfl, _, rfl, _, _, _, _, rfl, rfl, SqL.of (s10 _ _ hA9), g2, _, _, _, _, rfl, rfl, SqT.of (s10 _ _ hT), rfl, _, rfl, _, rfl, _, _, rfl, rfl, a, ns, _, rfl, s10.seq hS9, by omega, c, r, f.2.2, _, rfl, SqL.of (s10 _ _ hcr), rlen, ?_, o.l0, bits_mono o.lb (by decide), fun pd d H11 s11 hpd h11 hAl => ?_⟩
            · rw [er]; exact bell_sorted o.l0 RM.box
            have hne : pd ≠ pr := Ne.symm (ne_of_none hE hpd)
            refine ⟨pr, _, _, rfl, rfl, s11 _ _ hE, by rw [List.length_map]; exact small1000 (by omega), ?_⟩
            refine ⟨es ++ [pd], ds ++ [d], _, rfl, (s10.trans s11).wr hpr, by rw [upd_same, List.map_append]; rfl, Paired.snoc (paired_imp (fun b n z => ⟨z.1, by rw [upd_ne z.1]; exact s11 _ _ z.2⟩) pE) ⟨hne, by rw [upd_ne hne]; exact h11⟩, by rw [List.length_append, dl]; rfl, ?_⟩
            intro j' f' r' d' hf' hr' hd'
            by_cases hj' : j' < ds.length
            · rw [List.getElem?_append_left hj'] at hd'
              exact AL j' f' r' d' hf' hr' hd'
            · have e2 : j' = i := by
                have := (List.getElem?_eq_some_iff.mp hd').1
                rw [List.length_append] at this
                simp only [List.length_singleton] at this
                omega
              subst e2
              rw [List.getElem?_append_right (by omega), dl, Nat.sub_self] at hd'
              rw [hf] at hf'
              rw [hr] at hr'
              cases hf'
              cases hr'
              cases hd'
              exact hAl
          · rintro σ H10 ⟨es, ds, v10, rfl, s10, hE, pE, dl, AL⟩
            have el := paired_len pE
            have pE' : PySem.Paired (fun b (ns : List Int) => H10 b = some (.lst (ns.map V.int))) es ds := paired_imp (fun _ _ z => z.2) pE
            have dl2 : ds.length = gs.length := by omega
            have FF10 : Frs H10 pf gs := Frs.same s10 ⟨as9, hA9, hF9⟩
            have FG10 := FG9.same s10
            have hS10 := s10.seq hS9
            clear FG9 hS9 s10 hA9 hF9 hpr pE hQ pQ'
            have HB : ∀ (i : Nat) (f : Fr) (d : List Int), gs[i]? = some f → ds[i]? = some d → ((d.length : Int) = f.2.1 ∧ RowM gs m i f (boxL f.2.2 d)) ∧ (d.length : Int) = f.2.1 ∧ Bd 150 d := by
              intro i f d hf hd
              have hi3 : i < rs.length := by have := (List.getElem?_eq_some_iff.mp hd).1; omega
              obtain ⟨r, hr⟩ : ∃ r, rs[i]? = some r := ⟨_, List.getElem?_eq_getElem hi3⟩
              obtain ⟨bs', er, RM⟩ := PR i f r hf hr
              have hal := AL i f r d hf hr hd
              have ff := ok f (List.mem_of_getElem? hf)
              have o := ff.ok
              rw [er] at hal
              have hb := heard_as o.l0 hal
              have len : (d.length : Int) = f.2.1 := by
                have := al_len' hal
                rw [bellL_length] at this
                have := RM.len
                omega
              refine ⟨⟨len, by rw [hb]; exact RM⟩, len, fun x hx => ?_⟩
              obtain ⟨j, hj⟩ := List.getElem?_of_mem hx
              obtain ⟨h1, h2⟩ := (al_iff _ _ _).mp hal
              have hj2 : j < (bellL f.2.2 bs').length := by have := (List.getElem?_eq_some_iff.mp hj).1; omega
              obtain ⟨y, hy⟩ : ∃ y, (bellL f.2.2 bs')[j]? = some y := ⟨_, List.getElem?_eq_getElem hj2⟩
              obtain ⟨z1, z2⟩ := h2 j y x hy hj
              have cl : numB bs' < cnt f.1 (bs'.length : Int) f.2.2 := by
                rw [RM.len, RM.num]
                exact Int.emod_lt_of_pos _ ff.pos
              obtain ⟨y0, y1⟩ := row_lt RM.box o.l0 cl j y hy
              have t1 := lt_of_bits o.t0 o.tb
              have l1 := ff.l100
              exact ⟨by omega, by omega⟩
            have HR : HearR gs m ds := fun i f d hf hd => (HB i f d hf hd).1
            refine ⟨_, rfl, pr, rfl, ⟨_, SqL.of hE⟩, fun ph hph => comp_LL (K := K) (mss := ds) hE pE' hph (by omega) rfl ?_ ?_⟩
            · intro i b x y H11 R' hx hy hb s11 hR
              rw [hx] at hy
              cases hy
              exact ⟨rfl, _, rfl, _, _, rfl, .inl (SqL.of hb), fun l hl => hR l _ (Same.new hl) hl upd_same⟩
            intro H11 s11 hLh
            refine ⟨_, rfl, ph, pg, ds, gs, m, rfl, hLh, FG10.same s11, dl2, ok, gl, m0, m1', HR, fun H12 s12 => ?_⟩
            refine ⟨_, rfl, _, _, rfl, rfl, _, rfl, iteNS rfl ?_⟩
            have s1012 := s11.trans s12
            have LR12 : LL H12 pr ds := LL.same s1012 ⟨es, hE, pE'⟩
            have FF12 := FF10.same s1012
            have FG12 := FG10.same s1012
            have hS12 := s1012.seq hS10
            clear FF10 FG10 hS10 s11 s12 hLh s1012 hE pE' hph
            refine ⟨_, rfl, _, rfl, _, rfl, a, ns, 50, rfl, hS12, by decide, pr, pf, ds, gs, _, rfl, LR12, FF12, ok, dl2, gl, fun i f d hf hd => (HB i f d hf hd).2, fun psp xs H13 s13 LS13 smx badx xl => ?_⟩
            obtain ⟨ks, hK, pK⟩ := LS13
            refine ⟨_, rfl, psp, rfl, ⟨_, SqL.of hK⟩, fun ph2 hph2 => comp_LL (K := K) (mss := xs) hK pK hph2 (by omega) rfl ?_ ?_⟩
            · intro i b x y H11 R' hx hy hb s11 hR
              rw [hx] at hy
              cases hy
              exact ⟨rfl, _, rfl, _, _, rfl, .inl (SqL.of hb), fun l hl => hR l _ (Same.new hl) hl upd_same⟩
            intro H14 s14 hL14
            have s1214 := s13.trans s14
            refine ⟨_, rfl, _, rfl, _, pg, gs, false, rfl, FG12.same s1214, okk, gl, .inr ⟨rfl, ph2, xs, rfl, hL14, szh_of okk smx, badx, fun H15 s15 => ⟨rfl, _, rfl, iteF ?_⟩⟩⟩
            have s1215 := s1214.trans s15
            refine ⟨_, rfl, _, rfl, ph2, psp, xs, xs, rfl, rfl, (hL14.same s15).sq, (LL.same (s14.trans s15) ⟨ks, hK, pK⟩).sq, _, rfl, iteNS rfl ⟨_, rfl, _, rfl, pg, pf, gs.map frL, gs.map frL, rfl, rfl, (FG12.same s1215).sq, (FF12.same s1215).sq, _, rfl, iteNS rfl ?_⟩⟩
            refine ⟨_, rfl, _, rfl, pr, pg, ds, gs, m, rfl, LR12.same s1215, FG12.same s1215, dl2, ok, gl, m0, m1', HR, fun H16 s16 => ⟨_, rfl, _, _, rfl, rfl, ?_⟩⟩
            rw [decide_eq_true rfl]
            exact q _
end
theorem of_len0 {α : Type} {F : List α → Prop} {us : List α} (h : us.length = 0) (k : F []) : F us := by
  cases us with
  | nil => exact k
  | cons a r => cases h
theorem of_len1 {α : Type} {F : List α → Prop} {us : List α} (h : us.length = 1) (k : ∀ a, F [a]) : F us := by
  cases us with
  | nil => cases h
  | cons a r => exact of_len0 (F := fun r => F (a :: r)) (Nat.succ.inj h) (k a)
theorem of_len2 {α : Type} {F : List α → Prop} {us : List α} (h : us.length = 2) (k : ∀ a b, F [a, b]) : F us := by
  cases us with
  | nil => cases h
  | cons a r => exact of_len1 (F := fun r => F (a :: r)) (Nat.succ.inj h) (k a)
theorem of_len3 {α : Type} {F : List α → Prop} {us : List α} (h : us.length = 3) (k : ∀ a b c, F [a, b, c]) : F us := by
  cases us with
  | nil => cases h
  | cons a r => exact of_len2 (F := fun r => F (a :: r)) (Nat.succ.inj h) (k a)
theorem of_len4 {α : Type} {F : List α → Prop} {us : List α} (h : us.length = 4) (k : ∀ a b c d, F [a, b, c, d]) : F us := by
  cases us with
  | nil => cases h
  | cons a r => exact of_len3 (F := fun r => F (a :: r)) (Nat.succ.inj h) (k a)
theorem binds_len1 {fd : FuncData} {ps : List Str} {us : List Value} (h : us.length = 1) (k : ∀ a, bindArgs fd ⟨[a], []⟩ = pure (ps.zip [a])) : bindArgs fd ⟨us, []⟩ = pure (ps.zip us) := of_len1 (F := fun us => bindArgs fd ⟨us, []⟩ = pure (ps.zip us)) h k
theorem binds_len2 {fd : FuncData} {ps : List Str} {us : List Value} (h : us.length = 2) (k : ∀ a b, bindArgs fd ⟨[a, b], []⟩ = pure (ps.zip [a, b])) : bindArgs fd ⟨us, []⟩ = pure (ps.zip us) := of_len2 (F := fun us => bindArgs fd ⟨us, []⟩ = pure (ps.zip us)) h k
theorem binds_len3 {fd : FuncData} {ps : List Str} {us : List Value} (h : us.length = 3) (k : ∀ a b c, bindArgs fd ⟨[a, b, c], []⟩ = pure (ps.zip [a, b, c])) : bindArgs fd ⟨us, []⟩ = pure (ps.zip us) := of_len3 (F := fun us => bindArgs fd ⟨us, []⟩ = pure (ps.zip us)) h k
theorem binds_len4 {fd : FuncData} {ps : List Str} {us : List Value} (h : us.length = 4) (k : ∀ a b c d, bindArgs fd ⟨[a, b, c, d], []⟩ = pure (ps.zip [a, b, c, d])) : bindArgs fd ⟨us, []⟩ = pure (ps.zip us) := of_len4 (F := fun us => bindArgs fd ⟨us, []⟩ = pure (ps.zip us)) h k
theorem all_mk {l : PySem.W.OpenLaw} (hP : l.prog.given.tree = none) {w : World} {K : PySem.W.Frag} {h : Heap} {mg : Str → Option Value} {fa : Addr} (X : K.In h) (G : h.Ns mainGlobals mg) (hfa : mg "law" = some (.ref fa))
    {f0 : Addr} {od0 an0 : Option Addr} {sl0 : Array (Option Value)} {oc0 kV0 dc0 pm0 cd0 ct0 : Value}
    (a0 : PySem.W.nsIn K mainGlobals "choose" = some (some (.ref f0))) (l0 : K.lookup f0 = some ⟨oc0, od0, .func (PySem.W.fnOf "choose" "choose" (defArgs st_choose) (defBody st_choose) (defScope st_choose) .none kV0 dc0 pm0 an0 cd0 ct0), sl0⟩) (c0 : PySem.W.codeIn K cd0 "choose" = true) (k0 : PySem.W.keepIn K (.ref f0) = true)
    {f1 : Addr} {od1 an1 : Option Addr} {sl1 : Array (Option Value)} {oc1 kV1 dc1 pm1 cd1 ct1 : Value}
    (a1 : PySem.W.nsIn K mainGlobals "top_from" = some (some (.ref f1))) (l1 : K.lookup f1 = some ⟨oc1, od1, .func (PySem.W.fnOf "top_from" "top_from" (defArgs st_top_from) (defBody st_top_from) (defScope st_top_from) .none kV1 dc1 pm1 an1 cd1 ct1), sl1⟩) (c1 : PySem.W.codeIn K cd1 "top_from" = true) (k1 : PySem.W.keepIn K (.ref f1) = true)
    {f2 : Addr} {od2 an2 : Option Addr} {sl2 : Array (Option Value)} {oc2 kV2 dc2 pm2 cd2 ct2 : Value}
    (a2 : PySem.W.nsIn K mainGlobals "above_top" = some (some (.ref f2))) (l2 : K.lookup f2 = some ⟨oc2, od2, .func (PySem.W.fnOf "above_top" "above_top" (defArgs st_above_top) (defBody st_above_top) (defScope st_above_top) .none kV2 dc2 pm2 an2 cd2 ct2), sl2⟩) (c2 : PySem.W.codeIn K cd2 "above_top" = true) (k2 : PySem.W.keepIn K (.ref f2) = true)
    {f3 : Addr} {od3 an3 : Option Addr} {sl3 : Array (Option Value)} {oc3 kV3 dc3 pm3 cd3 ct3 : Value}
    (a3 : PySem.W.nsIn K mainGlobals "rounded_up" = some (some (.ref f3))) (l3 : K.lookup f3 = some ⟨oc3, od3, .func (PySem.W.fnOf "rounded_up" "rounded_up" (defArgs st_rounded_up) (defBody st_rounded_up) (defScope st_rounded_up) .none kV3 dc3 pm3 an3 cd3 ct3), sl3⟩) (c3 : PySem.W.codeIn K cd3 "rounded_up" = true) (k3 : PySem.W.keepIn K (.ref f3) = true)
    {f4 : Addr} {od4 an4 : Option Addr} {sl4 : Array (Option Value)} {oc4 kV4 dc4 pm4 cd4 ct4 : Value}
    (a4 : PySem.W.nsIn K mainGlobals "box_of" = some (some (.ref f4))) (l4 : K.lookup f4 = some ⟨oc4, od4, .func (PySem.W.fnOf "box_of" "box_of" (defArgs st_box_of) (defBody st_box_of) (defScope st_box_of) .none kV4 dc4 pm4 an4 cd4 ct4), sl4⟩) (c4 : PySem.W.codeIn K cd4 "box_of" = true) (k4 : PySem.W.keepIn K (.ref f4) = true)
    {f5 : Addr} {od5 an5 : Option Addr} {sl5 : Array (Option Value)} {oc5 kV5 dc5 pm5 cd5 ct5 : Value}
    (a5 : PySem.W.nsIn K mainGlobals "bell_row" = some (some (.ref f5))) (l5 : K.lookup f5 = some ⟨oc5, od5, .func (PySem.W.fnOf "bell_row" "bell_row" (defArgs st_bell_row) (defBody st_bell_row) (defScope st_bell_row) .none kV5 dc5 pm5 an5 cd5 ct5), sl5⟩) (c5 : PySem.W.codeIn K cd5 "bell_row" = true) (k5 : PySem.W.keepIn K (.ref f5) = true)
    {f6 : Addr} {od6 an6 : Option Addr} {sl6 : Array (Option Value)} {oc6 kV6 dc6 pm6 cd6 ct6 : Value}
    (a6 : PySem.W.nsIn K mainGlobals "heard_box" = some (some (.ref f6))) (l6 : K.lookup f6 = some ⟨oc6, od6, .func (PySem.W.fnOf "heard_box" "heard_box" (defArgs st_heard_box) (defBody st_heard_box) (defScope st_heard_box) .none kV6 dc6 pm6 an6 cd6 ct6), sl6⟩) (c6 : PySem.W.codeIn K cd6 "heard_box" = true) (k6 : PySem.W.keepIn K (.ref f6) = true)
    {f7 : Addr} {od7 an7 : Option Addr} {sl7 : Array (Option Value)} {oc7 kV7 dc7 pm7 cd7 ct7 : Value}
    (a7 : PySem.W.nsIn K mainGlobals "box_count" = some (some (.ref f7))) (l7 : K.lookup f7 = some ⟨oc7, od7, .func (PySem.W.fnOf "box_count" "box_count" (defArgs st_box_count) (defBody st_box_count) (defScope st_box_count) .none kV7 dc7 pm7 an7 cd7 ct7), sl7⟩) (c7 : PySem.W.codeIn K cd7 "box_count" = true) (k7 : PySem.W.keepIn K (.ref f7) = true)
    {f8 : Addr} {od8 an8 : Option Addr} {sl8 : Array (Option Value)} {oc8 kV8 dc8 pm8 cd8 ct8 : Value}
    (a8 : PySem.W.nsIn K mainGlobals "greatest_part" = some (some (.ref f8))) (l8 : K.lookup f8 = some ⟨oc8, od8, .func (PySem.W.fnOf "greatest_part" "greatest_part" (defArgs st_greatest_part) (defBody st_greatest_part) (defScope st_greatest_part) .none kV8 dc8 pm8 an8 cd8 ct8), sl8⟩) (c8 : PySem.W.codeIn K cd8 "greatest_part" = true) (k8 : PySem.W.keepIn K (.ref f8) = true)
    {f9 : Addr} {od9 an9 : Option Addr} {sl9 : Array (Option Value)} {oc9 kV9 dc9 pm9 cd9 ct9 : Value}
    (a9 : PySem.W.nsIn K mainGlobals "box_number" = some (some (.ref f9))) (l9 : K.lookup f9 = some ⟨oc9, od9, .func (PySem.W.fnOf "box_number" "box_number" (defArgs st_box_number) (defBody st_box_number) (defScope st_box_number) .none kV9 dc9 pm9 an9 cd9 ct9), sl9⟩) (c9 : PySem.W.codeIn K cd9 "box_number" = true) (k9 : PySem.W.keepIn K (.ref f9) = true)
    {f10 : Addr} {od10 an10 : Option Addr} {sl10 : Array (Option Value)} {oc10 kV10 dc10 pm10 cd10 ct10 : Value}
    (a10 : PySem.W.nsIn K mainGlobals "box_of_message" = some (some (.ref f10))) (l10 : K.lookup f10 = some ⟨oc10, od10, .func (PySem.W.fnOf "box_of_message" "box_of_message" (defArgs st_box_of_message) (defBody st_box_of_message) (defScope st_box_of_message) .none kV10 dc10 pm10 an10 cd10 ct10), sl10⟩) (c10 : PySem.W.codeIn K cd10 "box_of_message" = true) (k10 : PySem.W.keepIn K (.ref f10) = true)
    {f11 : Addr} {od11 an11 : Option Addr} {sl11 : Array (Option Value)} {oc11 kV11 dc11 pm11 cd11 ct11 : Value}
    (a11 : PySem.W.nsIn K mainGlobals "written" = some (some (.ref f11))) (l11 : K.lookup f11 = some ⟨oc11, od11, .func (PySem.W.fnOf "written" "written" (defArgs st_written) (defBody st_written) (defScope st_written) .none kV11 dc11 pm11 an11 cd11 ct11), sl11⟩) (c11 : PySem.W.codeIn K cd11 "written" = true) (k11 : PySem.W.keepIn K (.ref f11) = true)
    {f12 : Addr} {od12 an12 : Option Addr} {sl12 : Array (Option Value)} {oc12 kV12 dc12 pm12 cd12 ct12 : Value}
    (a12 : PySem.W.nsIn K mainGlobals "read" = some (some (.ref f12))) (l12 : K.lookup f12 = some ⟨oc12, od12, .func (PySem.W.fnOf "read" "read" (defArgs st_read) (defBody st_read) (defScope st_read) .none kV12 dc12 pm12 an12 cd12 ct12), sl12⟩) (c12 : PySem.W.codeIn K cd12 "read" = true) (k12 : PySem.W.keepIn K (.ref f12) = true)
    {f13 : Addr} {od13 an13 : Option Addr} {sl13 : Array (Option Value)} {oc13 kV13 dc13 pm13 cd13 ct13 : Value}
    (a13 : PySem.W.nsIn K mainGlobals "belfry_count" = some (some (.ref f13))) (l13 : K.lookup f13 = some ⟨oc13, od13, .func (PySem.W.fnOf "belfry_count" "belfry_count" (defArgs st_belfry_count) (defBody st_belfry_count) (defScope st_belfry_count) .none kV13 dc13 pm13 an13 cd13 ct13), sl13⟩) (c13 : PySem.W.codeIn K cd13 "belfry_count" = true) (k13 : PySem.W.keepIn K (.ref f13) = true)
    {f14 : Addr} {od14 an14 : Option Addr} {sl14 : Array (Option Value)} {oc14 kV14 dc14 pm14 cd14 ct14 : Value}
    (a14 : PySem.W.nsIn K mainGlobals "peal_written" = some (some (.ref f14))) (l14 : K.lookup f14 = some ⟨oc14, od14, .func (PySem.W.fnOf "peal_written" "peal_written" (defArgs st_peal_written) (defBody st_peal_written) (defScope st_peal_written) .none kV14 dc14 pm14 an14 cd14 ct14), sl14⟩) (c14 : PySem.W.codeIn K cd14 "peal_written" = true) (k14 : PySem.W.keepIn K (.ref f14) = true)
    {f15 : Addr} {od15 an15 : Option Addr} {sl15 : Array (Option Value)} {oc15 kV15 dc15 pm15 cd15 ct15 : Value}
    (a15 : PySem.W.nsIn K mainGlobals "peal_read" = some (some (.ref f15))) (l15 : K.lookup f15 = some ⟨oc15, od15, .func (PySem.W.fnOf "peal_read" "peal_read" (defArgs st_peal_read) (defBody st_peal_read) (defScope st_peal_read) .none kV15 dc15 pm15 an15 cd15 ct15), sl15⟩) (c15 : PySem.W.codeIn K cd15 "peal_read" = true) (k15 : PySem.W.keepIn K (.ref f15) = true)
    {f16 : Addr} {od16 an16 : Option Addr} {sl16 : Array (Option Value)} {oc16 kV16 dc16 pm16 cd16 ct16 : Value}
    (a16 : PySem.W.nsIn K mainGlobals "_law_cell_at" = some (some (.ref f16))) (l16 : K.lookup f16 = some ⟨oc16, od16, .func (PySem.W.fnOf "_law_cell_at" "_law_cell_at" (defArgs st__law_cell_at) (defBody st__law_cell_at) (defScope st__law_cell_at) .none kV16 dc16 pm16 an16 cd16 ct16), sl16⟩) (c16 : PySem.W.codeIn K cd16 "_law_cell_at" = true) (k16 : PySem.W.keepIn K (.ref f16) = true)
    {f17 : Addr} {od17 an17 : Option Addr} {sl17 : Array (Option Value)} {oc17 kV17 dc17 pm17 cd17 ct17 : Value}
    (a17 : PySem.W.nsIn K mainGlobals "_law_stir" = some (some (.ref f17))) (l17 : K.lookup f17 = some ⟨oc17, od17, .func (PySem.W.fnOf "_law_stir" "_law_stir" (defArgs st__law_stir) (defBody st__law_stir) (defScope st__law_stir) .none kV17 dc17 pm17 an17 cd17 ct17), sl17⟩) (c17 : PySem.W.codeIn K cd17 "_law_stir" = true) (k17 : PySem.W.keepIn K (.ref f17) = true)
    {f18 : Addr} {od18 an18 : Option Addr} {sl18 : Array (Option Value)} {oc18 kV18 dc18 pm18 cd18 ct18 : Value}
    (a18 : PySem.W.nsIn K mainGlobals "_law_drawn" = some (some (.ref f18))) (l18 : K.lookup f18 = some ⟨oc18, od18, .func (PySem.W.fnOf "_law_drawn" "_law_drawn" (defArgs st__law_drawn) (defBody st__law_drawn) (defScope st__law_drawn) .none kV18 dc18 pm18 an18 cd18 ct18), sl18⟩) (c18 : PySem.W.codeIn K cd18 "_law_drawn" = true) (k18 : PySem.W.keepIn K (.ref f18) = true)
    {f19 : Addr} {od19 an19 : Option Addr} {sl19 : Array (Option Value)} {oc19 kV19 dc19 pm19 cd19 ct19 : Value}
    (a19 : PySem.W.nsIn K mainGlobals "_law_count" = some (some (.ref f19))) (l19 : K.lookup f19 = some ⟨oc19, od19, .func (PySem.W.fnOf "_law_count" "_law_count" (defArgs st__law_count) (defBody st__law_count) (defScope st__law_count) .none kV19 dc19 pm19 an19 cd19 ct19), sl19⟩) (c19 : PySem.W.codeIn K cd19 "_law_count" = true) (k19 : PySem.W.keepIn K (.ref f19) = true)
    {f20 : Addr} {od20 an20 : Option Addr} {sl20 : Array (Option Value)} {oc20 kV20 dc20 pm20 cd20 ct20 : Value}
    (a20 : PySem.W.nsIn K mainGlobals "_law_frame" = some (some (.ref f20))) (l20 : K.lookup f20 = some ⟨oc20, od20, .func (PySem.W.fnOf "_law_frame" "_law_frame" (defArgs st__law_frame) (defBody st__law_frame) (defScope st__law_frame) .none kV20 dc20 pm20 an20 cd20 ct20), sl20⟩) (c20 : PySem.W.codeIn K cd20 "_law_frame" = true) (k20 : PySem.W.keepIn K (.ref f20) = true)
    {f21 : Addr} {od21 an21 : Option Addr} {sl21 : Array (Option Value)} {oc21 kV21 dc21 pm21 cd21 ct21 : Value}
    (a21 : PySem.W.nsIn K mainGlobals "_law_frames" = some (some (.ref f21))) (l21 : K.lookup f21 = some ⟨oc21, od21, .func (PySem.W.fnOf "_law_frames" "_law_frames" (defArgs st__law_frames) (defBody st__law_frames) (defScope st__law_frames) .none kV21 dc21 pm21 an21 cd21 ct21), sl21⟩) (c21 : PySem.W.codeIn K cd21 "_law_frames" = true) (k21 : PySem.W.keepIn K (.ref f21) = true)
    {f22 : Addr} {od22 an22 : Option Addr} {sl22 : Array (Option Value)} {oc22 kV22 dc22 pm22 cd22 ct22 : Value}
    (a22 : PySem.W.nsIn K mainGlobals "_law_message" = some (some (.ref f22))) (l22 : K.lookup f22 = some ⟨oc22, od22, .func (PySem.W.fnOf "_law_message" "_law_message" (defArgs st__law_message) (defBody st__law_message) (defScope st__law_message) .none kV22 dc22 pm22 an22 cd22 ct22), sl22⟩) (c22 : PySem.W.codeIn K cd22 "_law_message" = true) (k22 : PySem.W.keepIn K (.ref f22) = true)
    {f23 : Addr} {od23 an23 : Option Addr} {sl23 : Array (Option Value)} {oc23 kV23 dc23 pm23 cd23 ct23 : Value}
    (a23 : PySem.W.nsIn K mainGlobals "_law_kind" = some (some (.ref f23))) (l23 : K.lookup f23 = some ⟨oc23, od23, .func (PySem.W.fnOf "_law_kind" "_law_kind" (defArgs st__law_kind) (defBody st__law_kind) (defScope st__law_kind) .none kV23 dc23 pm23 an23 cd23 ct23), sl23⟩) (c23 : PySem.W.codeIn K cd23 "_law_kind" = true) (k23 : PySem.W.keepIn K (.ref f23) = true)
    {f24 : Addr} {od24 an24 : Option Addr} {sl24 : Array (Option Value)} {oc24 kV24 dc24 pm24 cd24 ct24 : Value}
    (a24 : PySem.W.nsIn K mainGlobals "_law_late" = some (some (.ref f24))) (l24 : K.lookup f24 = some ⟨oc24, od24, .func (PySem.W.fnOf "_law_late" "_law_late" (defArgs st__law_late) (defBody st__law_late) (defScope st__law_late) .none kV24 dc24 pm24 an24 cd24 ct24), sl24⟩) (c24 : PySem.W.codeIn K cd24 "_law_late" = true) (k24 : PySem.W.keepIn K (.ref f24) = true)
    {f25 : Addr} {od25 an25 : Option Addr} {sl25 : Array (Option Value)} {oc25 kV25 dc25 pm25 cd25 ct25 : Value}
    (a25 : PySem.W.nsIn K mainGlobals "_law_bad" = some (some (.ref f25))) (l25 : K.lookup f25 = some ⟨oc25, od25, .func (PySem.W.fnOf "_law_bad" "_law_bad" (defArgs st__law_bad) (defBody st__law_bad) (defScope st__law_bad) .none kV25 dc25 pm25 an25 cd25 ct25), sl25⟩) (c25 : PySem.W.codeIn K cd25 "_law_bad" = true) (k25 : PySem.W.keepIn K (.ref f25) = true)
    {f26 : Addr} {od26 an26 : Option Addr} {sl26 : Array (Option Value)} {oc26 kV26 dc26 pm26 cd26 ct26 : Value}
    (a26 : PySem.W.nsIn K mainGlobals "_law_spoiled" = some (some (.ref f26))) (l26 : K.lookup f26 = some ⟨oc26, od26, .func (PySem.W.fnOf "_law_spoiled" "_law_spoiled" (defArgs st__law_spoiled) (defBody st__law_spoiled) (defScope st__law_spoiled) .none kV26 dc26 pm26 an26 cd26 ct26), sl26⟩) (c26 : PySem.W.codeIn K cd26 "_law_spoiled" = true) (k26 : PySem.W.keepIn K (.ref f26) = true)
    {f27 : Addr} {od27 an27 : Option Addr} {sl27 : Array (Option Value)} {oc27 kV27 dc27 pm27 cd27 ct27 : Value}
    (a27 : PySem.W.nsIn K mainGlobals "law" = some (some (.ref f27))) (l27 : K.lookup f27 = some ⟨oc27, od27, .func (PySem.W.fnOf "law" "law" (defArgs st_law) (defBody st_law) (defScope st_law) .none kV27 dc27 pm27 an27 cd27 ct27), sl27⟩) (c27 : PySem.W.codeIn K cd27 "law" = true) (k27 : PySem.W.keepIn K (.ref f27) = true)
    (z_range : PySem.W.nsIn K mainGlobals "range" = some none)
    (z_isinstance : PySem.W.nsIn K mainGlobals "isinstance" = some none)
    (z_int : PySem.W.nsIn K mainGlobals "int" = some none)
    (z_bool : PySem.W.nsIn K mainGlobals "bool" = some none)
    (z_list : PySem.W.nsIn K mainGlobals "list" = some none)
    (z_len : PySem.W.nsIn K mainGlobals "len" = some none)
    (z_max : PySem.W.nsIn K mainGlobals "max" = some none)
    (z_min : PySem.W.nsIn K mainGlobals "min" = some none)
    (z_sorted : PySem.W.nsIn K mainGlobals "sorted" = some none)
    (z_sum : PySem.W.nsIn K mainGlobals "sum" = some none)
    (z_enumerate : PySem.W.nsIn K mainGlobals "enumerate" = some none)
    (z_ValueError : PySem.W.nsIn K mainGlobals "ValueError" = some none)
    {C_BellError : Addr} (m_BellError : PySem.W.nsIn K mainGlobals "BellError" = some (some (.ref C_BellError)))
    {C_NoRow : Addr} (m_NoRow : PySem.W.nsIn K mainGlobals "NoRow" = some (some (.ref C_NoRow)))
    {C_NoReading : Addr} (m_NoReading : PySem.W.nsIn K mainGlobals "NoReading" = some (some (.ref C_NoReading)))
    {C_TooGreat : Addr} (m_TooGreat : PySem.W.nsIn K mainGlobals "TooGreat" = some (some (.ref C_TooGreat)))
    {C_TooMany : Addr} (m_TooMany : PySem.W.nsIn K mainGlobals "TooMany" = some (some (.ref C_TooMany)))
    {C_NoNote : Addr} (m_NoNote : PySem.W.nsIn K mainGlobals "NoNote" = some (some (.ref C_NoNote)))
    {C_NoOrder : Addr} (m_NoOrder : PySem.W.nsIn K mainGlobals "NoOrder" = some (some (.ref C_NoOrder)))
    {C_NoName : Addr} (m_NoName : PySem.W.nsIn K mainGlobals "NoName" = some (some (.ref C_NoName)))
    (x_BellError : PySem.W.excIn K C_BellError bmV "ValueError.__new__" = true)
    (x_NoRow : PySem.W.excIn K C_NoRow bmV "ValueError.__new__" = true)
    (x_NoReading : PySem.W.excIn K C_NoReading bmV "ValueError.__new__" = true)
    (x_TooGreat : PySem.W.excIn K C_TooGreat bmV "ValueError.__new__" = true)
    (x_TooMany : PySem.W.excIn K C_TooMany bmV "ValueError.__new__" = true)
    (x_NoNote : PySem.W.excIn K C_NoNote bmV "ValueError.__new__" = true)
    (x_NoOrder : PySem.W.excIn K C_NoOrder bmV "ValueError.__new__" = true)
    (x_NoName : PySem.W.excIn K C_NoName bmV "ValueError.__new__" = true)
    (g_NoName : PySem.W.mroIn K C_TooGreat (.ref C_NoName) = some false)
    (d_NoName : PySem.W.mroIn K C_NoReading (.ref C_NoName) = some false)
    (g_NoNote : PySem.W.mroIn K C_TooGreat (.ref C_NoNote) = some false)
    (d_NoNote : PySem.W.mroIn K C_NoReading (.ref C_NoNote) = some false)
    (g_NoOrder : PySem.W.mroIn K C_TooGreat (.ref C_NoOrder) = some false)
    (d_NoOrder : PySem.W.mroIn K C_NoReading (.ref C_NoOrder) = some false)
    (g_NoRow : PySem.W.mroIn K C_TooGreat (.ref C_NoRow) = some false)
    (d_NoRow : PySem.W.mroIn K C_NoReading (.ref C_NoRow) = some false)
    (g_TooMany : PySem.W.mroIn K C_TooGreat (.ref C_TooMany) = some false)
    (d_TooMany : PySem.W.mroIn K C_NoReading (.ref C_TooMany) = some false)
    (d_TooGreat : PySem.W.mroIn K C_NoReading (.ref C_TooGreat) = some false)
    (r_gaTooGreat : PySem.W.findIn K (.ref C_TooGreat) "__getattribute__" = some (some (.builtin "BaseException.__getattribute__")))
    (r_hkTooGreat : PySem.W.findIn K (.ref C_TooGreat) "__getattr__" = some none)
    (r_clTooGreat : PySem.W.findIn K (.ref C_TooGreat) "__class__" = some (some (.builtin "object.__class__")))
    (r_moTooGreat : PySem.W.mroIn K C_TooGreat (.type "object") = some true)
    (r_mbTooGreat : PySem.W.mroIn K C_TooGreat (.type "BaseException") = some true)
    (i_BellTooGreat : PySem.W.kitOne K (.ref C_TooGreat) (.ref C_BellError) = some true)
    (i_ValueTooGreat : PySem.W.kitOne K (.ref C_TooGreat) (.type "ValueError") = some true)
    (r_gaNoReading : PySem.W.findIn K (.ref C_NoReading) "__getattribute__" = some (some (.builtin "BaseException.__getattribute__")))
    (r_hkNoReading : PySem.W.findIn K (.ref C_NoReading) "__getattr__" = some none)
    (r_clNoReading : PySem.W.findIn K (.ref C_NoReading) "__class__" = some (some (.builtin "object.__class__")))
    (r_moNoReading : PySem.W.mroIn K C_NoReading (.type "object") = some true)
    (r_mbNoReading : PySem.W.mroIn K C_NoReading (.type "BaseException") = some true)
    (i_BellNoReading : PySem.W.kitOne K (.ref C_NoReading) (.ref C_BellError) = some true)
    (i_ValueNoReading : PySem.W.kitOne K (.ref C_NoReading) (.type "ValueError") = some true)
    (r_gt : PySem.W.specialIn K (.builtin "object.__class__") "__get__" = some (some (.builtin "getset_descriptor.__get__")))
    (r_tk : PySem.W.takesIn K (.builtin "object.__class__") = some true)
    : ∃ fd : FuncData, (∀ (s : Shared) (v : Value), BindsTo s fd ⟨[v], []⟩ [("script", v)]) ∧ ∀ base : Heap, K.In base → base.Ns mainGlobals mg → FnOk l.prog w K mg base CX0 43 fa fd ["script"] (spLaw K) := by
  have e := hfa.symm.trans (PySem.W.mg_of X G a27)
  cases e
  have D_choose : Def K mg "choose" st_choose ["n", "k"] := ⟨f0, _, fun_mk l0 c0 k0, (fun_mk (st := st_choose) l0 c0 k0).binds (ps := ["n", "k"]) (fun _ _ _ _ _ _ us hl => binds_len2 hl fun _ _ => rfl), PySem.W.mg_of X G a0⟩
  have D_top_from : Def K mg "top_from" st_top_from ["start", "k", "number"] := ⟨f1, _, fun_mk l1 c1 k1, (fun_mk (st := st_top_from) l1 c1 k1).binds (ps := ["start", "k", "number"]) (fun _ _ _ _ _ _ us hl => binds_len3 hl fun _ _ _ => rfl), PySem.W.mg_of X G a1⟩
  have D_above_top : Def K mg "above_top" st_above_top ["k", "number"] := ⟨f2, _, fun_mk l2 c2 k2, (fun_mk (st := st_above_top) l2 c2 k2).binds (ps := ["k", "number"]) (fun _ _ _ _ _ _ us hl => binds_len2 hl fun _ _ => rfl), PySem.W.mg_of X G a2⟩
  have D_rounded_up : Def K mg "rounded_up" st_rounded_up ["number", "divisor"] := ⟨f3, _, fun_mk l3 c3 k3, (fun_mk (st := st_rounded_up) l3 c3 k3).binds (ps := ["number", "divisor"]) (fun _ _ _ _ _ _ us hl => binds_len2 hl fun _ _ => rfl), PySem.W.mg_of X G a3⟩
  have D_box_of : Def K mg "box_of" st_box_of ["row", "late"] := ⟨f4, _, fun_mk l4 c4 k4, (fun_mk (st := st_box_of) l4 c4 k4).binds (ps := ["row", "late"]) (fun _ _ _ _ _ _ us hl => binds_len2 hl fun _ _ => rfl), PySem.W.mg_of X G a4⟩
  have D_bell_row : Def K mg "bell_row" st_bell_row ["box", "late"] := ⟨f5, _, fun_mk l5 c5 k5, (fun_mk (st := st_bell_row) l5 c5 k5).binds (ps := ["box", "late"]) (fun _ _ _ _ _ _ us hl => binds_len2 hl fun _ _ => rfl), PySem.W.mg_of X G a5⟩
  have D_heard_box : Def K mg "heard_box" st_heard_box ["reading", "late"] := ⟨f6, _, fun_mk l6 c6 k6, (fun_mk (st := st_heard_box) l6 c6 k6).binds (ps := ["reading", "late"]) (fun _ _ _ _ _ _ us hl => binds_len2 hl fun _ _ => rfl), PySem.W.mg_of X G a6⟩
  have D_box_count : Def K mg "box_count" st_box_count ["turns", "bells", "late"] := ⟨f7, _, fun_mk l7 c7 k7, (fun_mk (st := st_box_count) l7 c7 k7).binds (ps := ["turns", "bells", "late"]) (fun _ _ _ _ _ _ us hl => binds_len3 hl fun _ _ _ => rfl), PySem.W.mg_of X G a7⟩
  have D_greatest_part : Def K mg "greatest_part" st_greatest_part ["turns", "bells", "late"] := ⟨f8, _, fun_mk l8 c8 k8, (fun_mk (st := st_greatest_part) l8 c8 k8).binds (ps := ["turns", "bells", "late"]) (fun _ _ _ _ _ _ us hl => binds_len3 hl fun _ _ _ => rfl), PySem.W.mg_of X G a8⟩
  have D_box_number : Def K mg "box_number" st_box_number ["box"] := ⟨f9, _, fun_mk l9 c9 k9, (fun_mk (st := st_box_number) l9 c9 k9).binds (ps := ["box"]) (fun _ _ _ _ _ _ us hl => binds_len1 hl fun _ => rfl), PySem.W.mg_of X G a9⟩
  have D_box_of_message : Def K mg "box_of_message" st_box_of_message ["message", "bells"] := ⟨f10, _, fun_mk l10 c10 k10, (fun_mk (st := st_box_of_message) l10 c10 k10).binds (ps := ["message", "bells"]) (fun _ _ _ _ _ _ us hl => binds_len2 hl fun _ _ => rfl), PySem.W.mg_of X G a10⟩
  have D_written : Def K mg "written" st_written ["message", "turns", "bells", "late"] := ⟨f11, _, fun_mk l11 c11 k11, (fun_mk (st := st_written) l11 c11 k11).binds (ps := ["message", "turns", "bells", "late"]) (fun _ _ _ _ _ _ us hl => binds_len4 hl fun _ _ _ _ => rfl), PySem.W.mg_of X G a11⟩
  have D_read : Def K mg "read" st_read ["reading", "turns", "bells", "late"] := ⟨f12, _, fun_mk l12 c12 k12, (fun_mk (st := st_read) l12 c12 k12).binds (ps := ["reading", "turns", "bells", "late"]) (fun _ _ _ _ _ _ us hl => binds_len4 hl fun _ _ _ _ => rfl), PySem.W.mg_of X G a12⟩
  have D_belfry_count : Def K mg "belfry_count" st_belfry_count ["frames"] := ⟨f13, _, fun_mk l13 c13 k13, (fun_mk (st := st_belfry_count) l13 c13 k13).binds (ps := ["frames"]) (fun _ _ _ _ _ _ us hl => binds_len1 hl fun _ => rfl), PySem.W.mg_of X G a13⟩
  have D_peal_written : Def K mg "peal_written" st_peal_written ["message", "frames"] := ⟨f14, _, fun_mk l14 c14 k14, (fun_mk (st := st_peal_written) l14 c14 k14).binds (ps := ["message", "frames"]) (fun _ _ _ _ _ _ us hl => binds_len2 hl fun _ _ => rfl), PySem.W.mg_of X G a14⟩
  have D_peal_read : Def K mg "peal_read" st_peal_read ["readings", "frames"] := ⟨f15, _, fun_mk l15 c15 k15, (fun_mk (st := st_peal_read) l15 c15 k15).binds (ps := ["readings", "frames"]) (fun _ _ _ _ _ _ us hl => binds_len2 hl fun _ _ => rfl), PySem.W.mg_of X G a15⟩
  have D__law_cell_at : Def K mg "_law_cell_at" st__law_cell_at ["script", "k"] := ⟨f16, _, fun_mk l16 c16 k16, (fun_mk (st := st__law_cell_at) l16 c16 k16).binds (ps := ["script", "k"]) (fun _ _ _ _ _ _ us hl => binds_len2 hl fun _ _ => rfl), PySem.W.mg_of X G a16⟩
  have D__law_stir : Def K mg "_law_stir" st__law_stir ["cell", "k"] := ⟨f17, _, fun_mk l17 c17 k17, (fun_mk (st := st__law_stir) l17 c17 k17).binds (ps := ["cell", "k"]) (fun _ _ _ _ _ _ us hl => binds_len2 hl fun _ _ => rfl), PySem.W.mg_of X G a17⟩
  have D__law_drawn : Def K mg "_law_drawn" st__law_drawn ["cell", "sizes"] := ⟨f18, _, fun_mk l18 c18 k18, (fun_mk (st := st__law_drawn) l18 c18 k18).binds (ps := ["cell", "sizes"]) (fun _ _ _ _ _ _ us hl => binds_len2 hl fun _ _ => rfl), PySem.W.mg_of X G a18⟩
  have D__law_count : Def K mg "_law_count" st__law_count ["turns", "bells", "late"] := ⟨f19, _, fun_mk l19 c19 k19, (fun_mk (st := st__law_count) l19 c19 k19).binds (ps := ["turns", "bells", "late"]) (fun _ _ _ _ _ _ us hl => binds_len3 hl fun _ _ _ => rfl), PySem.W.mg_of X G a19⟩
  have D__law_frame : Def K mg "_law_frame" st__law_frame ["cell", "near"] := ⟨f20, _, fun_mk l20 c20 k20, (fun_mk (st := st__law_frame) l20 c20 k20).binds (ps := ["cell", "near"]) (fun _ _ _ _ _ _ us hl => binds_len2 hl fun _ _ => rfl), PySem.W.mg_of X G a20⟩
  have D__law_frames : Def K mg "_law_frames" st__law_frames ["script"] := ⟨f21, _, fun_mk l21 c21 k21, (fun_mk (st := st__law_frames) l21 c21 k21).binds (ps := ["script"]) (fun _ _ _ _ _ _ us hl => binds_len1 hl fun _ => rfl), PySem.W.mg_of X G a21⟩
  have D__law_message : Def K mg "_law_message" st__law_message ["script", "frames"] := ⟨f22, _, fun_mk l22 c22 k22, (fun_mk (st := st__law_message) l22 c22 k22).binds (ps := ["script", "frames"]) (fun _ _ _ _ _ _ us hl => binds_len2 hl fun _ _ => rfl), PySem.W.mg_of X G a22⟩
  have D__law_kind : Def K mg "_law_kind" st__law_kind ["thing", "frames", "way"] := ⟨f23, _, fun_mk l23 c23 k23, (fun_mk (st := st__law_kind) l23 c23 k23).binds (ps := ["thing", "frames", "way"]) (fun _ _ _ _ _ _ us hl => binds_len3 hl fun _ _ _ => rfl), PySem.W.mg_of X G a23⟩
  have D__law_late : Def K mg "_law_late" st__law_late ["row", "late", "cell"] := ⟨f24, _, fun_mk l24 c24 k24, (fun_mk (st := st__law_late) l24 c24 k24).binds (ps := ["row", "late", "cell"]) (fun _ _ _ _ _ _ us hl => binds_len3 hl fun _ _ _ => rfl), PySem.W.mg_of X G a24⟩
  have D__law_bad : Def K mg "_law_bad" st__law_bad ["reading", "frame", "cell"] := ⟨f25, _, fun_mk l25 c25 k25, (fun_mk (st := st__law_bad) l25 c25 k25).binds (ps := ["reading", "frame", "cell"]) (fun _ _ _ _ _ _ us hl => binds_len3 hl fun _ _ _ => rfl), PySem.W.mg_of X G a25⟩
  have D__law_spoiled : Def K mg "_law_spoiled" st__law_spoiled ["readings", "frames", "cell"] := ⟨f26, _, fun_mk l26 c26 k26, (fun_mk (st := st__law_spoiled) l26 c26 k26).binds (ps := ["readings", "frames", "cell"]) (fun _ _ _ _ _ _ us hl => binds_len3 hl fun _ _ _ => rfl), PySem.W.mg_of X G a26⟩
  have T : Txt K mg := ⟨PySem.W.mg_none_of X G z_range, PySem.W.mg_none_of X G z_isinstance, PySem.W.mg_none_of X G z_int, PySem.W.mg_none_of X G z_bool, PySem.W.mg_none_of X G z_list, PySem.W.mg_none_of X G z_len, PySem.W.mg_none_of X G z_max, PySem.W.mg_none_of X G z_min, PySem.W.mg_none_of X G z_sorted, PySem.W.mg_none_of X G z_sum, PySem.W.mg_none_of X G z_enumerate, PySem.W.mg_none_of X G z_ValueError⟩
  exact ⟨PySem.W.fnOf "law" "law" (defArgs st_law) (defBody st_law) (defScope st_law) .none kV27 dc27 pm27 an27 cd27 ct27, fun s v => .of_eq rfl, fun base _ _ => ok_law hP (fun_mk l27 c27 k27) T D_choose D_top_from D_above_top D_rounded_up D_box_of D_bell_row D_heard_box D_box_count D_greatest_part D_box_number D_box_of_message D_written D_read D_belfry_count D_peal_written D_peal_read D__law_cell_at D__law_stir D__law_drawn D__law_count D__law_frame D__law_frames D__law_message D__law_kind D__law_late D__law_bad D__law_spoiled (PySem.W.mg_of X G m_BellError) (PySem.W.mg_of X G m_NoRow) (PySem.W.mg_of X G m_NoReading) (PySem.W.mg_of X G m_TooGreat) (PySem.W.mg_of X G m_TooMany) (PySem.W.mg_of X G m_NoNote) (PySem.W.mg_of X G m_NoOrder) (PySem.W.mg_of X G m_NoName) x_BellError x_NoRow x_NoReading x_TooGreat x_TooMany x_NoNote x_NoOrder x_NoName g_NoName d_NoName g_NoNote d_NoNote g_NoOrder d_NoOrder g_NoRow d_NoRow g_TooMany d_TooMany d_TooGreat r_gaTooGreat r_hkTooGreat r_clTooGreat r_moTooGreat r_mbTooGreat i_BellTooGreat i_ValueTooGreat r_gaNoReading r_hkNoReading r_clNoReading r_moNoReading r_mbNoReading i_BellNoReading i_ValueNoReading r_gt r_tk⟩
theorem walk {l : PySem.W.OpenLaw} {q : Program} {loose : List Str} {XP : (Str → Option Value) → Heap → Prop} {YP : World → Heap → Prop} {d : DefRec} {K : Params → PySem.W.Frag} (hn : l.most = some 63) (hdf : d.params.defaults = []) (hq : PyProof.Rows.importsNone q = true)
    (hY : ∀ (w : World) (h : Heap), YP w h → (K w.params).In h)
    (F : ∀ (w : World) (mg : Str → Option Value) (fa : Addr) (h : Heap), (K w.params).In h → h.Ns mainGlobals mg → mg d.name = some (.ref fa) →
      ∃ fd : FuncData, (∀ (s : Shared) (u : Value), BindsTo s fd ⟨[u], []⟩ [("script", u)]) ∧ ∀ base : Heap, (K w.params).In base → base.Ns mainGlobals mg → FnOk l.prog w (K w.params) mg base CX0 43 fa fd ["script"] (spLaw (K w.params))) :
    PySem.W.WalkO q loose XP YP l.row.toRowW d [] (fun f vs => PySem.call f vs) :=
  L2.walk_of (n := 63) (k := 43) (x := "script") (CX := fun _ => CX0) (sp := fun w => spLaw (K w.params)) hn (by decide) hdf hq ⟨rfl, by decide, by decide⟩ hY F (fun _ _ a ns hl hbt _ hS => ⟨a, ns, rfl, hS, hl, fun _ => rfl⟩) fun _ _ _ _ _ z => z
end Bw
open PySem PySem.W PyProof.Rows
set_option maxRecDepth 100000 in
set_option maxHeartbeats 0 in
theorem PySem.Challenge.cw_bellwrite_k88_no_peal_no_hearing_holds : PySem.Challenge.rw_bellwrite_k88_no_peal_no_hearing.Holds := by
  w_on; o_law; k_head; (case hw => w_witness2)
  k_fill
  refine Bw.walk (l := PySem.Challenge.rw_bellwrite_k88_no_peal_no_hearing) rfl rfl (by decide +kernel) (fun w h Y => PySem.W.kIn_of Y) ?F
  case F =>
    intro w mg fa h KX G hmg
    refine' Bw.all_mk (l := PySem.Challenge.rw_bellwrite_k88_no_peal_no_hearing) rfl KX G hmg ?a0 ?l0 ?c0 ?k0 ?a1 ?l1 ?c1 ?k1 ?a2 ?l2 ?c2 ?k2 ?a3 ?l3 ?c3 ?k3 ?a4 ?l4 ?c4 ?k4 ?a5 ?l5 ?c5 ?k5 ?a6 ?l6 ?c6 ?k6 ?a7 ?l7 ?c7 ?k7 ?a8 ?l8 ?c8 ?k8 ?a9 ?l9 ?c9 ?k9 ?a10 ?l10 ?c10 ?k10 ?a11 ?l11 ?c11 ?k11 ?a12 ?l12 ?c12 ?k12 ?a13 ?l13 ?c13 ?k13 ?a14 ?l14 ?c14 ?k14 ?a15 ?l15 ?c15 ?k15 ?a16 ?l16 ?c16 ?k16 ?a17 ?l17 ?c17 ?k17 ?a18 ?l18 ?c18 ?k18 ?a19 ?l19 ?c19 ?k19 ?a20 ?l20 ?c20 ?k20 ?a21 ?l21 ?c21 ?k21 ?a22 ?l22 ?c22 ?k22 ?a23 ?l23 ?c23 ?k23 ?a24 ?l24 ?c24 ?k24 ?a25 ?l25 ?c25 ?k25 ?a26 ?l26 ?c26 ?k26 ?a27 ?l27 ?c27 ?k27 ?z_range ?z_isinstance ?z_int ?z_bool ?z_list ?z_len ?z_max ?z_min ?z_sorted ?z_sum ?z_enumerate ?z_ValueError ?m_BellError ?m_NoRow ?m_NoReading ?m_TooGreat ?m_TooMany ?m_NoNote ?m_NoOrder ?m_NoName ?x_BellError ?x_NoRow ?x_NoReading ?x_TooGreat ?x_TooMany ?x_NoNote ?x_NoOrder ?x_NoName ?g_NoName ?d_NoName ?g_NoNote ?d_NoNote ?g_NoOrder ?d_NoOrder ?g_NoRow ?d_NoRow ?g_TooMany ?d_TooMany ?d_TooGreat ?r_gaTooGreat ?r_hkTooGreat ?r_clTooGreat ?r_moTooGreat ?r_mbTooGreat ?i_BellTooGreat ?i_ValueTooGreat ?r_gaNoReading ?r_hkNoReading ?r_clNoReading ?r_moNoReading ?r_mbNoReading ?i_BellNoReading ?i_ValueNoReading ?r_gt ?r_tk
    (case a0 => k_is)
    (case l0 => k_is)
    (case c0 => k_is)
    (case k0 => k_is)
    (case a1 => k_is)
    (case l1 => k_is)
    (case c1 => k_is)
    (case k1 => k_is)
    (case a2 => k_is)
    (case l2 => k_is)
    (case c2 => k_is)
    (case k2 => k_is)
    (case a3 => k_is)
    (case l3 => k_is)
    (case c3 => k_is)
    (case k3 => k_is)
    (case a4 => k_is)
    (case l4 => k_is)
    (case c4 => k_is)
    (case k4 => k_is)
    (case a5 => k_is)
    (case l5 => k_is)
    (case c5 => k_is)
    (case k5 => k_is)
    (case a6 => k_is)
    (case l6 => k_is)
    (case c6 => k_is)
    (case k6 => k_is)
    (case a7 => k_is)
    (case l7 => k_is)
    (case c7 => k_is)
    (case k7 => k_is)
    (case a8 => k_is)
    (case l8 => k_is)
    (case c8 => k_is)
    (case k8 => k_is)
    (case a9 => k_is)
    (case l9 => k_is)
    (case c9 => k_is)
    (case k9 => k_is)
    (case a10 => k_is)
    (case l10 => k_is)
    (case c10 => k_is)
    (case k10 => k_is)
    (case a11 => k_is)
    (case l11 => k_is)
    (case c11 => k_is)
    (case k11 => k_is)
    (case a12 => k_is)
    (case l12 => k_is)
    (case c12 => k_is)
    (case k12 => k_is)
    (case a13 => k_is)
    (case l13 => k_is)
    (case c13 => k_is)
    (case k13 => k_is)
    (case a14 => k_is)
    (case l14 => k_is)
    (case c14 => k_is)
    (case k14 => k_is)
    (case a15 => k_is)
    (case l15 => k_is)
    (case c15 => k_is)
    (case k15 => k_is)
    (case a16 => k_is)
    (case l16 => k_is)
    (case c16 => k_is)
    (case k16 => k_is)
    (case a17 => k_is)
    (case l17 => k_is)
    (case c17 => k_is)
    (case k17 => k_is)
    (case a18 => k_is)
    (case l18 => k_is)
    (case c18 => k_is)
    (case k18 => k_is)
    (case a19 => k_is)
    (case l19 => k_is)
    (case c19 => k_is)
    (case k19 => k_is)
    (case a20 => k_is)
    (case l20 => k_is)
    (case c20 => k_is)
    (case k20 => k_is)
    (case a21 => k_is)
    (case l21 => k_is)
    (case c21 => k_is)
    (case k21 => k_is)
    (case a22 => k_is)
    (case l22 => k_is)
    (case c22 => k_is)
    (case k22 => k_is)
    (case a23 => k_is)
    (case l23 => k_is)
    (case c23 => k_is)
    (case k23 => k_is)
    (case a24 => k_is)
    (case l24 => k_is)
    (case c24 => k_is)
    (case k24 => k_is)
    (case a25 => k_is)
    (case l25 => k_is)
    (case c25 => k_is)
    (case k25 => k_is)
    (case a26 => k_is)
    (case l26 => k_is)
    (case c26 => k_is)
    (case k26 => k_is)
    (case a27 => k_is)
    (case l27 => k_is)
    (case c27 => k_is)
    (case k27 => k_is)
    (case z_range => k_is)
    (case z_isinstance => k_is)
    (case z_int => k_is)
    (case z_bool => k_is)
    (case z_list => k_is)
    (case z_len => k_is)
    (case z_max => k_is)
    (case z_min => k_is)
    (case z_sorted => k_is)
    (case z_sum => k_is)
    (case z_enumerate => k_is)
    (case z_ValueError => k_is)
    (case m_BellError => k_is)
    (case m_NoRow => k_is)
    (case m_NoReading => k_is)
    (case m_TooGreat => k_is)
    (case m_TooMany => k_is)
    (case m_NoNote => k_is)
    (case m_NoOrder => k_is)
    (case m_NoName => k_is)
    (case x_BellError => k_exc)
    (case x_NoRow => k_exc)
    (case x_NoReading => k_exc)
    (case x_TooGreat => k_exc)
    (case x_TooMany => k_exc)
    (case x_NoNote => k_exc)
    (case x_NoOrder => k_exc)
    (case x_NoName => k_exc)
    (case g_NoName => k_is)
    (case d_NoName => k_is)
    (case g_NoNote => k_is)
    (case d_NoNote => k_is)
    (case g_NoOrder => k_is)
    (case d_NoOrder => k_is)
    (case g_NoRow => k_is)
    (case d_NoRow => k_is)
    (case g_TooMany => k_is)
    (case d_TooMany => k_is)
    (case d_TooGreat => k_is)
    (case r_gaTooGreat => k_is)
    (case r_hkTooGreat => k_is)
    (case r_clTooGreat => k_is)
    (case r_moTooGreat => k_is)
    (case r_mbTooGreat => k_is)
    (case i_BellTooGreat => kit_is)
    (case i_ValueTooGreat => kit_is)
    (case r_gaNoReading => k_is)
    (case r_hkNoReading => k_is)
    (case r_clNoReading => k_is)
    (case r_moNoReading => k_is)
    (case r_mbNoReading => k_is)
    (case i_BellNoReading => kit_is)
    (case i_ValueNoReading => kit_is)
    (case r_gt => k_is)
    (case r_tk => k_is)