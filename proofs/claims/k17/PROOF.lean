import PyProof.Rows.All
import Wide.All
import OpenK.AllK
import Wide.FinOn
import Lean
import PyProof.EqAt
import PyProof.EqKinds
import PyProof.TupleCall
import PyProof.StrWalks
import KE.KTryMore
import PyProof.ZipIter
import PyProof.Rows.Range3
import PyProof.Draws
import PyProof.WalksMore
import PyProof.ExcBaseAll.ValueError
import PyProof.InstStoreFacts
import PyProof.ExcArgsOwn
import KE.KIsAll
import PySem.Challenge.RW_pathshape_k17_sound_shapes
section
set_option Elab.async false
set_option linter.all false
set_option maxRecDepth 100000
namespace L2
open PySem PySem.Spec PyProof.Rows
noncomputable abbrev Key := Sum Int Str
noncomputable def FT : Key → Value → Bool
  | .inl k, v => Value.isInt k v
  | .inr x, v => Value.isStrOf x v
noncomputable def Mj (w : World) : Key → Int
  | .inl k => hashInt k
  | .inr x => hashStr w x
theorem dR : ∀ {k : Key} {v : Value}, FT k v = true → (∃ i t, k = Sum.inl i ∧ v = Value.int i t) ∨ (∃ x t, k = Sum.inr x ∧ v = Value.str x t)
  | .inl i, v, h => by
    obtain ⟨t, e⟩ := Value.isInt_shape (k := i) (v := v) h
    exact .inl ⟨i, t, rfl, e⟩
  | .inr x, v, h => by
    obtain ⟨t, e⟩ := Value.isStrOf_shape (x := x) (v := v) h
    exact .inr ⟨x, t, rfl, e⟩
theorem GJ (a b : Int) : decide ((Sum.inl a : Key) = Sum.inl b) = (a == b) := by
  by_cases e : a = b
  · subst e; simp
  · have h : ¬ (Sum.inl a : Key) = Sum.inl b := fun q => e (Sum.inl.inj q)
    rw [decide_eq_false h]
    exact (beq_eq_false_iff_ne.mpr e).symm
theorem GK (a b : Str) : decide ((Sum.inr a : Key) = Sum.inr b) = decide (a = b) := by
  by_cases e : a = b
  · subst e; simp
  · have h : ¬ (Sum.inr a : Key) = Sum.inr b := fun q => e (Sum.inr.inj q)
    rw [decide_eq_false h, decide_eq_false e]
theorem GL (a : Int) (b : Str) : decide ((Sum.inl a : Key) = Sum.inr b) = false := decide_eq_false (fun q => nomatch q)
theorem GN (a : Str) (b : Int) : decide ((Sum.inr a : Key) = Sum.inl b) = false := decide_eq_false (fun q => nomatch q)
noncomputable def wz (prog : Program) (w : World) : PySem.KeyKind prog w Key where
  is := FT
  hash := Mj w
  inj := fun v a b ha hb => by
    rcases dR ha with ⟨i, t, rfl, rfl⟩ | ⟨x, t, rfl, rfl⟩
    · rcases dR hb with ⟨j, u, rfl, e⟩ | ⟨y, u, rfl, e⟩
      · injection e with e1 _; rw [e1]
      · exact nomatch e
    · rcases dR hb with ⟨j, u, rfl, e⟩ | ⟨y, u, rfl, e⟩
      · exact nomatch e
      · injection e with e1 _; rw [e1]
  byValue := fun k v h => by
    rcases dR h with ⟨i, t, rfl, rfl⟩ | ⟨x, t, rfl, rfl⟩ <;> rfl
  pyHash := fun hv h => by
    rcases dR hv with ⟨i, t, rfl, rfl⟩ | ⟨x, t, rfl, rfl⟩
    · exact wpAny_pyHash_int h
    · exact wpAny_pyHash_str h
  eqBool := fun hu hv h => by
    rcases dR hu with ⟨i, t, rfl, rfl⟩ | ⟨x, t, rfl, rfl⟩
    · rcases dR hv with ⟨j, u, rfl, rfl⟩ | ⟨y, u, rfl, rfl⟩
      · rw [GJ] at h; exact wpAny_eqBool_int h
      · rw [GL] at h; exact SeqAt.EqAt.int_str i t y u _ _ _ _ h
    · rcases dR hv with ⟨j, u, rfl, rfl⟩ | ⟨y, u, rfl, rfl⟩
      · rw [GN] at h; exact SeqAt.EqAt.str_int x t j u _ _ _ _ h
      · rw [GK] at h; exact wpAny_eqBool_str h
  «strs» := fun k x t v h => by
    rcases dR h with ⟨i, u, rfl, e⟩ | ⟨y, u, rfl, e⟩
    · exact nomatch e
    · injection e with e1 _
      subst e1
      cases v <;> rfl
end L2
namespace L2
open PySem PySem.Spec PyProof.Rows
inductive V where
  | gk | bl (b : Bool) | int (i : Int) | str (x : Str) | Jq (b : Array UInt8) | Jr (b : UInt64) | ref (a : Addr) | ty (n : String)
  deriving DecidableEq
noncomputable def RelV : V → Value → Prop
  | .gk, u => u = Value.none
  | .bl b, u => u = Value.bool b
  | .int i, u => ∃ t, u = Value.int i t
  | .str x, u => ∃ t, u = Value.str x t
  | .Jq b, u => ∃ t, u = Value.bytes b t
  | .Jr b, u => ∃ t, u = Value.float b t
  | .ref a, u => u = Value.ref a
  | .ty n, u => u = Value.type n
noncomputable abbrev Vals : List V → List Value → Prop := Paired RelV
theorem Vals.length {xs : List V} {us : List Value} (r : Vals xs us) : xs.length = us.length := Paired.length r
theorem Vals.get : ∀ {xs : List V} {us : List Value} {i : Nat} {x : V}, Vals xs us → xs[i]? = some x → ∃ u, us[i]? = some u ∧ RelV x u
  | _, _, _, _, .nil, e => by simp at e
  | _, _, 0, _, .cons r _, e => by simp at e; subst e; exact ⟨_, rfl, r⟩
  | _, _, i + 1, x, .cons _ t, e => by
    obtain ⟨u, h1, h2⟩ := Vals.get (i := i) (x := x) t (by simpa using e)
    exact ⟨u, by simpa using h1, h2⟩
theorem Vals.set {x : V} {u : Value} (r : RelV x u) : ∀ {xs : List V} {us : List Value} (i : Nat), Vals xs us → Vals (xs.set i x) (us.set i u)
  | _, _, _, .nil => .nil
  | _, _, 0, .cons _ t => .cons r t
  | _, _, i + 1, .cons q t => .cons q (Vals.set r i t)
theorem Vals.append : ∀ {xs ys : List V} {us ws : List Value}, Vals xs us → Vals ys ws → Vals (xs ++ ys) (us ++ ws)
  | _, _, _, _, .nil, s => s
  | _, _, _, _, .cons r t, s => .cons r (Vals.append t s)
theorem Vals.take : ∀ {xs : List V} {us : List Value} (n : Nat), Vals xs us → Vals (xs.take n) (us.take n)
  | _, _, 0, _ => .nil
  | _, _, _ + 1, .nil => .nil
  | _, _, n + 1, .cons r t => .cons r (Vals.take n t)
theorem Vals.drop : ∀ {xs : List V} {us : List Value} (n : Nat), Vals xs us → Vals (xs.drop n) (us.drop n)
  | _, _, 0, r => r
  | _, _, _ + 1, .nil => .nil
  | _, _, n + 1, .cons _ t => Vals.drop n t
noncomputable def Et : Option V → Option Value → Prop
  | some v, some u => RelV v u
  | none, none => True
  | _, _ => False
noncomputable def KV {κ : Type} : List (κ × V) → List (κ × Value) → Prop := Paired fun (p : κ × V) (q : κ × Value) => p.1 = q.1 ∧ RelV p.2 q.2
noncomputable def kV : Key → V
  | .inl i => .int i
  | .inr x => .str x
inductive HO where
  | lst (xs : List V)
  | tup (xs : List V)
  | dK (kvs : List (Key × V)) | dT (kvs : List (List Key × V))
  | set (S : Int → Bool) (n : Nat)
  | ins (C dx : Addr) (fs : List (Str × V))
  | own (x : Addr)
  | xd (fs : List (Str × V))
  | met (f x : Addr)
  | Eu (lo hi : Int)
  | ly (o : Obj) (u : HO)
  | Ej (ps : Array Value)
  | ext (φ : Heap → Prop)
noncomputable abbrev Hp := Addr → Option HO
noncomputable def upd (H : Hp) (a : Addr) (o : HO) : Hp := fun b => if b = a then some o else H b
theorem bT {H : Hp} {a : Addr} {o : HO} : upd H a o a = some o := by unfold upd; rw [if_pos rfl]
theorem aK {H : Hp} {a b : Addr} {o : HO} (h : b ≠ a) : upd H a o b = H b := by unfold upd; rw [if_neg h]
theorem oi {H : Hp} {a b : Addr} {o u : HO} (h : H a = some o) (h' : H b = some u) (d : o ≠ u) : a ≠ b := by
  intro e; subst e; rw [h] at h'; exact d (Option.some.inj h')
theorem bI {H : Hp} {a b : Addr} {o : HO} (h : H a = some o) (h' : H b = none) : a ≠ b := by
  intro e; subst e; rw [h] at h'; cases h'
section
variable (P : Program) (w : World)
noncomputable def fR (H : Hp) (h : Heap) (a : Addr) : HO → Prop
  | .lst xs => xs.length ≤ sizeLine ∧ ∃ (its : List Value) (n : Nat), Vals xs its ∧ h.get? a = some { cls := .type "list", data := .seq its.toArray n }
  | .tup xs => xs.length ≤ sizeLine ∧ ∃ its : List Value, Vals xs its ∧ IsTup h a its.toArray
  | .dK kvs => kvs.length ≤ sizeLine ∧ (a == sysModules) = false ∧ ∃ vs, KV kvs vs ∧ h.DictOf (wz P w) a vs
  | .dT kvs => kvs.length ≤ sizeLine ∧ (a == sysModules) = false ∧ ∃ xs : List (List Key × Addr × Value),
      Paired (fun (p : List Key × V) (q : List Key × Addr × Value) => p.1 = q.1 ∧ H q.2.1 = some (.tup (p.1.map kV)) ∧ RelV p.2 q.2.2) kvs xs ∧
      ∃ o es ep, h.get? a = some o ∧ o.ExactDict ∧ o.data = .dict es ep ∧ es.toList = xs.map (entryOfKey (tupleKind (wz P w))) ∧ (xs.map (·.1)).Nodup
  | .set S n => h.SetOf (intKind P w) a S n
  | .ins C dx fs => H dx = some (.own a) ∧ fs.length ≤ 1000 ∧ dx ≠ a ∧ h.get? a = some (PySem.W.instObj C dx) ∧
      ∃ mA, h.Ns1 dx mA ∧ (∀ f, Et (fs.lookup f) (mA f)) ∧ PySem.Within mA (fs.map (·.1))
  | .own _ => ∃ o, h.get? a = some o
  | .xd fs => ∃ mA, h.Ns1 a mA ∧ ∀ f, Et (fs.lookup f) (mA f)
  | .Eu lo hi => ∃ t u v, h.get? a = some { cls := .type "range", data := .fields #[.int lo t, .int hi u, .int 1 v] }
  | .ly o u => h.get? a = some o ∧ fR H h a u
  | .Ej ps => h.get? a = some { cls := .none, data := .fields ps }
  | .met f x => h.get? a = some (PySem.W.methodObj (.ref f) (.ref x))
  | .ext φ => φ h ∧ (∃ o, h.get? a = some o) ∧ ∀ h1 h2 : Heap, φ h1 → (∀ o, h1.get? a = some o → h2.get? a = some o) → φ h2
noncomputable def m7 (H : Hp) (h : Heap) : Prop := ∀ a o, H a = some o → fR P w H h a o
end
section
variable {P : Program} {w : World} {H H' : Hp} {h h' : Heap} {a : Addr} {o : HO}
theorem fR.lt (x : fR P w H h a o) : a < h.objs.size := by
  cases o with
  | lst xs => obtain ⟨_, _, _, _, e⟩ := x; exact Heap.lt_size e
  | tup xs => obtain ⟨_, _, _, p⟩ := x; exact p.lt
  | dK kvs => obtain ⟨_, _, _, _, o, _, _, e, _⟩ := x; exact Heap.lt_size e
  | dT kvs => obtain ⟨_, _, _, _, o, _, _, e, _⟩ := x; exact Heap.lt_size e
  | set S n => obtain ⟨o, _, _, _, e, _⟩ := x; exact Heap.lt_size e
  | ins C dx fs => obtain ⟨_, _, _, e, _⟩ := x; exact Heap.lt_size e
  | own y => obtain ⟨_, e⟩ := x; exact Heap.lt_size e
  | xd fs => obtain ⟨_, ⟨_, _, _, e, _⟩, _⟩ := x; exact Heap.lt_size e
  | Eu lo hi => obtain ⟨_, _, _, e⟩ := x; exact Heap.lt_size e
  | ly ob u => obtain ⟨e, _⟩ := x; exact Heap.lt_size e
  | Ej ps => exact Heap.lt_size (show h.get? a = some _ from x)
  | met f y => exact Heap.lt_size (show h.get? a = some _ from x)
  | ext φ => obtain ⟨_, ⟨_, e⟩, _⟩ := x; exact Heap.lt_size e
theorem Paired.GO {α β : Type} {F G : α → β → Prop} : ∀ {l₁ : List α} {l₂ : List β}, Paired F l₁ l₂ → (∀ a b, F a b → G a b) → Paired G l₁ l₂
  | _, _, .nil, _ => .nil
  | _, _, .cons r t, f => .cons (f _ _ r) (Paired.GO t f)
theorem fR.stay (x : fR P w H h a o) (k : ∀ b u, (b = a ∨ H b = some (.own a)) → h.get? b = some u → h'.get? b = some u)
    (ho : ∀ b, H b = some (.own a) → H' b = some (.own a)) (ht : ∀ b xs, H b = some (.tup xs) → H' b = some (.tup xs)) : fR P w H' h' a o := by
  induction o with
  | lst xs => obtain ⟨z, its, n, r, e⟩ := x; exact ⟨z, its, n, r, k _ _ (.inl rfl) e⟩
  | tup xs => obtain ⟨z, its, r, ob, e, c⟩ := x; exact ⟨z, its, r, ob, k _ _ (.inl rfl) e, c⟩
  | dK kvs => obtain ⟨z, y, vs, r, ob, es, ep, e, c⟩ := x; exact ⟨z, y, vs, r, ob, es, ep, k _ _ (.inl rfl) e, c⟩
  | dT kvs =>
    obtain ⟨z, y, xs, r, ob, es, ep, e, c⟩ := x
    exact ⟨z, y, xs, Paired.GO r fun p q z => ⟨z.1, ht _ _ z.2.1, z.2.2⟩, ob, es, ep, k _ _ (.inl rfl) e, c⟩
  | set S n => obtain ⟨ob, es, ep, t, e, c⟩ := x; exact ⟨ob, es, ep, t, k _ _ (.inl rfl) e, c⟩
  | ins C dx fs =>
    obtain ⟨d, z, ne, e, mA, ⟨od, es, ep, e2, c⟩, r⟩ := x
    exact ⟨ho _ d, z, ne, k _ _ (.inl rfl) e, mA, ⟨od, es, ep, k _ _ (.inr d) e2, c⟩, r⟩
  | own y => obtain ⟨ob, e⟩ := x; exact ⟨ob, k _ _ (.inl rfl) e⟩
  | xd fs => obtain ⟨mA, ⟨od, es, ep, e, c⟩, r⟩ := x; exact ⟨mA, ⟨od, es, ep, k _ _ (.inl rfl) e, c⟩, r⟩
  | Eu lo hi => obtain ⟨t, u, v, e⟩ := x; exact ⟨t, u, v, k _ _ (.inl rfl) e⟩
  | ly ob u ih => obtain ⟨e, q⟩ := x; exact ⟨k _ _ (.inl rfl) e, ih q⟩
  | Ej ps =>
    have e : h.get? a = some { cls := .none, data := .fields ps } := x
    show h'.get? a = some { cls := .none, data := .fields ps }
    exact k a _ (.inl rfl) e
  | met f y =>
    have e : h.get? a = some (PySem.W.methodObj (.ref f) (.ref y)) := x
    show h'.get? a = some (PySem.W.methodObj (.ref f) (.ref y))
    exact k a _ (.inl rfl) e
  | ext φ => obtain ⟨p, ⟨o, e⟩, st⟩ := x; exact ⟨st _ _ p fun o q => k _ _ (.inl rfl) q, ⟨o, k _ _ (.inl rfl) e⟩, st⟩
theorem m7.lt (x : m7 P w H h) (e : H a = some o) : a < h.objs.size := (x a o e).lt
theorem m7.fresh (x : m7 P w H h) (e : h.objs.size ≤ a) : H a = none := by
  cases q : H a with
  | none => rfl
  | some u => exact absurd (Nat.lt_of_lt_of_le (x.lt q) e) (Nat.lt_irrefl _)
theorem m7.kept (x : m7 P w H h) (k : ∀ b u, h.get? b = some u → h'.get? b = some u) : m7 P w H h' := fun a o e =>
  (x a o e).stay (fun b u _ q => k b u q) (fun _ q => q) fun _ _ q => q
theorem m7.laid (x : m7 P w H h) (k : ∀ b u, h.get? b = some u → h'.get? b = some u) (hp : h.objs.size ≤ a) (new : fR P w (upd H a o) h' a o) : m7 P w (upd H a o) h' := fun b u e => by
  have hn := x.fresh hp
  by_cases hb : b = a
  · subst hb; rw [bT] at e; cases e; exact new
  · rw [aK hb] at e
    exact (x b u e).stay (fun c v _ q => k c v q) (fun c q => by rw [aK (bI q hn)]; exact q) fun c xs q => by rw [aK (bI q hn)]; exact q
end
noncomputable def Rd (H : Hp) (a : Addr) (u : HO) : Prop := H a = some u ∨ ∃ o, H a = some (.ly o u)
theorem Rd.ok {P : Program} {w : World} {H : Hp} {h : Heap} {a : Addr} {u : HO} (r : Rd H a u) (x : m7 P w H h) : fR P w H h a u := by
  rcases r with r | ⟨o, r⟩
  · exact x a u r
  · obtain ⟨_, q⟩ := x a _ r
    exact q
noncomputable def Js : Option HO → Prop
  | some (.lst _) => True
  | some (.dK _) => True
  | some (.dT _) => True
  | some (.set _ _) => True
  | some (.ins _ _ _) => True
  | some (.ext _) => True
  | _ => False
section
variable {P : Program} {w : World} {H : Hp} {h h' : Heap} {x e : Addr} {o' : HO}
theorem m7.write (ok : m7 P w H h) (mu : Js (H x)) (he : e = x ∨ H e = some (.own x)) (k : ∀ b u, b ≠ e → h.get? b = some u → h'.get? b = some u) (Jd : ∃ u, h'.get? e = some u)
    (new : fR P w (upd H x o') h' x o') : m7 P w (upd H x o') h' := fun b u q => by
  have Jt : ∀ c y, H c = some (.own y) → c ≠ x := fun c y r z => by subst z; rw [r] at mu; exact mu
  have Ml : ∀ c xs, H c = some (.tup xs) → c ≠ x := fun c xs r z => by subst z; rw [r] at mu; exact mu
  by_cases hb : b = x
  · subst hb; rw [bT] at q; cases q; exact new
  · rw [aK hb] at q
    by_cases Ek : b = e
    · have q' : H b = some (.own x) := by
        rcases he with z | z
        · exact absurd (Ek.trans z) hb
        · rw [Ek]; exact z
      rw [q] at q'; cases q'
      obtain ⟨v, hv⟩ := Jd
      exact ⟨v, by rw [Ek]; exact hv⟩
    · refine (ok b u q).stay (fun c v hc r => k c v ?_ r) (fun c r => by rw [aK (Jt c b r)]; exact r) fun c xs r => by rw [aK (Ml c xs r)]; exact r
      rcases hc with rfl | hc
      · exact Ek
      · rintro rfl
        rcases he with z | z
        · exact Jt c b hc z
        · rw [hc] at z; cases z; exact hb rfl
end
structure Un (fs ex : List Addr) (H H' : Hp) (h h' : Heap) : Prop where
  keep : ∀ b o, h.get? b = some o → H b = none → b ∉ fs → b ∉ ex → h'.get? b = some o
  slot : ∀ b o, h.get? b = some o → H b = none → b ∈ fs → b ∉ ex → ∃ sl, h'.get? b = some { o with slots := sl }
  free : ∀ b o, h.get? b = some o → H b = none → b ∉ ex → H' b = none
  there : ∀ b o, h.get? b = some o → b ∉ ex → ∃ o', h'.get? b = some o'
  tups : ∀ b xs, H b = some (.tup xs) → H' b = some (.tup xs)
  mZ : ∀ b o u, H b = some (.ly o u) → H' b = some (.ly o u)
  m9 : ∀ b ps, H b = some (.Ej ps) → ∃ more, H' b = some (.Ej (ps ++ more))
section
variable {fs fs' ex ex' : List Addr} {H H1 H2 : Hp} {h h1 h2 h' : Heap} {a x e : Addr} {o : HO}
theorem Un.any (u : Un fs ex H H1 h h1) {b : Addr} {ob : Obj} (q : h.get? b = some ob) (n : H b = none) (hx : b ∉ ex) : ∃ sl, h1.get? b = some { ob with slots := sl } := by
  by_cases hb : b ∈ fs
  · exact u.slot b ob q n hb hx
  · exact ⟨ob.slots, u.keep b ob q n hb hx⟩
theorem Un.kept (k : ∀ b u, h.get? b = some u → h'.get? b = some u) : Un fs ex H H h h' :=
  ⟨fun b ob q _ _ _ => k b ob q, fun b ob q _ _ _ => ⟨ob.slots, k b ob q⟩, fun _ _ _ n _ => n, fun b ob q _ => ⟨ob, k b ob q⟩, fun _ _ q => q, fun _ _ _ q => q, fun _ ps q => ⟨#[], by rw [q]; simp⟩⟩
theorem Un.refl : Un fs ex H H h h := Un.kept fun _ _ q => q
theorem Un.laid (k : ∀ b u, h.get? b = some u → h'.get? b = some u) (hp : h.objs.size ≤ a) (hn : H a = none) : Un fs ex H (upd H a o) h h' where
  keep := fun b u q _ _ _ => k b u q
  slot := fun b u q _ _ _ => ⟨u.slots, k b u q⟩
  free := fun b u q n _ => by rw [aK (Nat.ne_of_lt (Nat.lt_of_lt_of_le (Heap.lt_size q) hp))]; exact n
  there := fun b u q _ => ⟨u, k b u q⟩
  tups := fun b xs q => by rw [aK (bI q hn)]; exact q
  mZ := fun b u xs q => by rw [aK (bI q hn)]; exact q
  m9 := fun b ps q => ⟨#[], by rw [aK (bI q hn), q]; simp⟩
theorem Un.write (mu : Js (H x)) (he : e = x ∨ H e = some (.own x)) (k : ∀ b u, b ≠ e → h.get? b = some u → h'.get? b = some u) (Jd : ∃ u, h'.get? e = some u) : Un fs ex H (upd H x o) h h' := by
  have hx : ∀ b, H b = none → b ≠ x := fun b n z => by subst z; rw [n] at mu; exact mu
  have hb : ∀ b, H b = none → b ≠ e := fun b n z => by
    subst z
    rcases he with r | r
    · exact hx b n r
    · rw [n] at r; cases r
  have hm : ∀ b u, H b = some u → ¬ Js (some u) → b ≠ x := fun b u q nm z => by subst z; rw [q] at mu; exact nm mu
  refine ⟨fun b u q n _ _ => k b u (hb b n) q, fun b u q n _ _ => ⟨u.slots, k b u (hb b n) q⟩, fun b u q n _ => by rw [aK (hx b n)]; exact n, fun b u q _ => ?_,
    fun b xs q => by rw [aK (hm b _ q fun z => z)]; exact q, fun b u xs q => by rw [aK (hm b _ q fun z => z)]; exact q, fun b ps q => ⟨#[], by rw [aK (hm b _ q fun z => z), q]; simp⟩⟩
  by_cases Ek : b = e
  · subst Ek; exact Jd
  · exact ⟨u, k b u Ek q⟩
end
noncomputable def LF (h : Heap) (H : Hp) : List Addr := (List.range h.objs.size).filter fun a => (H a).isSome
noncomputable def wA (h : Heap) (H : Hp) : Heap := PySem.W.hideAll h (LF h H)
theorem Bk (h : Heap) (H : Hp) : (wA h H).objs.size = h.objs.size := PySem.W.hideAll_size _ _
theorem Cp {h : Heap} {H : Hp} {b : Addr} {o : Obj} (e : h.get? b = some o) (n : H b = none) : (wA h H).get? b = some o :=
  PySem.W.hideAll_get _ e fun hm => by
    have q : (H b).isSome = true := (List.mem_filter.mp hm).2
    rw [n] at q; simp at q
theorem Ew {h : Heap} {H : Hp} {b : Addr} {o : Obj} (e : (wA h H).get? b = some o) : h.get? b = some o ∧ H b = none := by
  have e' : h.get? b = some o := PySem.W.of_hideAll (LF h H) e
  refine ⟨e', ?_⟩
  cases q : H b with
  | none => rfl
  | some x =>
    have hm : b ∈ LF h H := List.mem_filter.mpr ⟨List.mem_range.mpr (Heap.lt_size e'), by simp [q]⟩
    have z : (wA h H).get? b = none := PySem.W.hideAll_none (LF h H) hm
    rw [z] at e; cases e
noncomputable def Ex (g h : Heap) (L : Addr) : List (Addr × Obj) := (List.range h.objs.size).filterMap fun a => if a = L ∨ (g.get? a).isSome = true then none else (h.get? a).map fun o => (a, o)
noncomputable def rest (g h : Heap) (L d : Addr) : List (Addr × Obj) := (Ex g h L).filter fun p => decide (p.1 ≠ d)
end L2
namespace L2
open PySem PySem.Spec PyProof.Rows
structure Mod (K : PySem.W.Frag) (mg : Str → Option Value) (base : Heap) : Prop where
  Mm : K.In base
  glob : base.Ns mainGlobals mg
  blt : ∃ mb, base.Ns builtinsNs mb ∧ ∀ x : Str, x ≠ "__name__" → mb x = bootBuiltins x
  nolimit : base.NoLimit
structure Cx where
  prog : Program
  w : World
  K : PySem.W.Frag
  mg : Str → Option Value
  base : Heap
  A : Around
  N : List Str
  s₀ : Shared
  H₀ : Hp
  env : Env
  outer : List Env
  stack : List Env
  ex : List Addr
  fn : Str → Bool
  calm : Bool
  pn : List (Addr × Obj)
  xe : Value → Shared → Prop
noncomputable def frs (l : List Env) : List Addr := l.filterMap (·.frame)
noncomputable abbrev Cx.fs (X : Cx) : List Addr := frs X.outer
noncomputable def FU (sc : Scope) (x : Str) : Prop := sc.names.lookup x = some .local ∨ sc.names.lookup x = some .cell ∨ sc.names.lookup x = some .free
noncomputable def Loc (sc : Scope) (x : Str) : Prop := sc.names.lookup x = some .local ∨ sc.names.lookup x = some .cell
noncomputable def Look (env : Env) (h : Heap) (m : Str → Option Value) (x : Str) (u : Value) : Prop :=
  (env.kindOf x = some .local ∧ m x = some u) ∨ ((env.kindOf x = some .cell ∨ env.kindOf x = some .free) ∧ ∃ c, env.cells.lookup x = some c ∧ h.IsCell c (some u))
structure Cx.Ok (X : Cx) : Prop where
  mod : Mod X.K X.mg X.base
  kind : X.env.scope.kind = .function
  glob : X.env.globals = mainGlobals
  blt : X.env.builtins = builtinsNs
  above : X.s₀.heap.objs.size ≤ X.env.locals
  inj : ∀ x y c, X.env.cells.lookup x = some c → X.env.cells.lookup y = some c → x = y
  has : ∀ x, (X.env.kindOf x = some .cell ∨ X.env.kindOf x = some .free) → ∃ c, X.env.cells.lookup x = some c
  FW : ∀ x c, X.fn x = true → X.env.cells.lookup x = some c → X.s₀.heap.objs.size ≤ c
  hd : X.calm = true → X.A.handled = none
  frames : X.A.frames = some X.stack
  stk : X.stack = X.outer ∨ (X.stack = X.env :: X.outer ∧ X.env.frame = some X.env.locals)
  Ju : ∀ b ∈ X.ex, b ≠ X.env.locals ∧ ∀ x c, X.env.cells.lookup x = some c → c ≠ b
  bs : ∀ b o, X.base.get? b = some o → X.s₀.heap.get? b = some o ∧ X.H₀ b = none
  Bl : X.base.objs.size ≤ X.s₀.heap.objs.size
  xM : ∀ b o, X.base.get? b = some o → b ∉ X.ex
  xO : ∀ b ∈ X.ex, b ∉ X.fs
  nc : X.s₀.heap.FunFrames X.base X.outer
  Cg : ∀ b ∈ X.fs, X.H₀ b = none
structure Inv (X : Cx) (pins : List (Addr × Obj)) (σ : List (Option V)) (H : Hp) (s : Shared) : Prop where
  ok : X.Ok
  os : s.os = X.s₀.os
  bare : AllBare s.gens
  base : Un X.fs X.ex X.H₀ H X.s₀.heap s.heap
  loc : ∃ m, s.heap.Ns X.env.locals m ∧ ∀ (i : Nat) (x : Str) (v : V), X.N[i]? = some x → σ[i]? = some (some v) → FU X.env.scope x → ∃ u, RelV v u ∧ Look X.env s.heap m x u
  cell : ∀ x c, X.env.cells.lookup x = some c → ∃ v, s.heap.IsCell c v
  free : H X.env.locals = none
  gB : ∀ x c, X.env.cells.lookup x = some c → H c = none
  pin : ∀ p ∈ X.pn ++ pins, s.heap.get? p.1 = some p.2 ∧ H p.1 = none ∧ p.1 ≠ X.env.locals ∧ p.1 ∉ X.fs ∧ ∀ v, p.2.data ≠ .cell v
  hok : m7 X.prog X.w H s.heap
  len : σ.length = X.N.length
section
variable {X : Cx} {pins : List (Addr × Obj)} {σ : List (Option V)} {H H' : Hp} {s : Shared} {h' : Heap}
theorem Cx.Ok.Mn (ok : X.Ok) {b : Addr} {o : Obj} (e : X.base.get? b = some o) : b ∉ X.fs := fun hb => by
  have := (ok.nc.mem hb).1
  rw [e] at this; cases this
theorem Inv.bs (I : Inv X pins σ H s) : ∀ b o, X.base.get? b = some o → s.heap.get? b = some o ∧ H b = none := fun b o e =>
  ⟨I.base.keep b o (I.ok.bs b o e).1 (I.ok.bs b o e).2 (I.ok.Mn e) (I.ok.xM b o e), I.base.free b o (I.ok.bs b o e).1 (I.ok.bs b o e).2 (I.ok.xM b o e)⟩
theorem Inv.bk (I : Inv X pins σ H s) : ∀ b o, X.base.get? b = some o → s.heap.get? b = some o := fun b o e => (I.bs b o e).1
theorem Inv.mod (I : Inv X pins σ H s) : Mod X.K X.mg X.base := I.ok.mod
theorem Inv.zm (I : Inv X pins σ H s) : X.K.In s.heap := I.ok.mod.Mm.keeps I.bk
theorem Inv.nolimit (I : Inv X pins σ H s) : s.heap.NoLimit := I.ok.mod.nolimit.keeps I.bk
theorem Inv.fr (I : Inv X pins σ H s) : ∃ m, Fr X.base X.env.locals s.heap m :=
  let ⟨m, hn, _⟩ := I.loc
  ⟨m, hn, I.bk, Nat.le_trans I.ok.Bl I.ok.above⟩
theorem Inv.lt (I : Inv X pins σ H s) : X.env.locals < s.heap.objs.size := let ⟨_, hn, _⟩ := I.loc; hn.lt
theorem Inv.sz (I : Inv X pins σ H s) : X.s₀.heap.objs.size ≤ s.heap.objs.size := Nat.le_trans I.ok.above (Nat.le_of_lt I.lt)
theorem Inv.Mp (I : Inv X pins σ H s) {a : Addr} (h : s.heap.objs.size ≤ a) : a ∉ X.fs := fun hb => by
  obtain ⟨_, o, ho, _⟩ := I.ok.nc.mem hb
  exact absurd (Nat.lt_of_lt_of_le (Heap.lt_size ho) (Nat.le_trans I.sz h)) (Nat.lt_irrefl _)
theorem Inv.Ci (I : Inv X pins σ H s) : ∀ x c, X.env.cells.lookup x = some c → c ≠ X.env.locals := fun x c e z => by
  obtain ⟨v, o, ho, hd⟩ := I.cell x c e
  obtain ⟨m, ⟨o', es, ep, ho', hd', _⟩, _⟩ := I.loc
  rw [z, ho'] at ho; cases ho; rw [hd'] at hd; cases hd
theorem Inv.nc (I : Inv X pins σ H s) : s.heap.FunFrames X.base X.outer := by
  have all : ∀ (l : List Env), (∀ b ∈ frs l, b ∈ X.fs) → X.s₀.heap.FunFrames X.base l → s.heap.FunFrames X.base l := by
    intro l
    induction l with
    | nil => intro _ _; trivial
    | cons env r ih =>
      intro hs hl
      obtain ⟨hk, ⟨L, o, hf, hn, ho, hd⟩, hr⟩ := hl
      have hL : L ∈ X.fs := hs L (by unfold frs; rw [List.filterMap_cons, hf]; exact List.mem_cons_self)
      obtain ⟨sl, e⟩ := I.base.slot L o ho (I.ok.Cg L hL) hL fun z => I.ok.xO L z hL
      exact ⟨hk, ⟨L, _, hf, hn, e, hd⟩, ih (fun b hb => hs b (by unfold frs; rw [List.filterMap_cons, hf]; exact List.mem_cons_of_mem _ hb)) hr⟩
  exact all X.outer (fun _ hb => hb) I.ok.nc
theorem Inv.stack (I : Inv X pins σ H s) : s.heap.FunFrames X.base X.stack := by
  rcases I.ok.stk with e | ⟨e, hf⟩
  · rw [e]; exact I.nc
  · rw [e]
    obtain ⟨m, hn, _⟩ := I.loc
    refine .cons (by rw [I.ok.kind]; decide) hf hn ?_ I.nc
    exact Heap.get?_none_of_le (Nat.le_trans I.ok.Bl I.ok.above)
theorem Inv.ng (I : Inv X pins σ H s) : ∀ b ∈ frs X.stack, b ∈ X.env.locals :: X.fs := fun b hb => by
  rcases I.ok.stk with e | ⟨e, hf⟩
  · rw [e] at hb; exact List.mem_cons_of_mem _ hb
  · rw [e] at hb
    unfold frs at hb
    rw [List.filterMap_cons, hf] at hb
    exact hb
theorem Inv.pT (I : Inv X pins σ H s) : ∀ b ∈ frs X.stack, H b = none := fun b hb => by
  rcases List.mem_cons.mp (I.ng b hb) with e | hb
  · rw [e]; exact I.free
  · obtain ⟨_, o, ho, _⟩ := I.ok.nc.mem hb
    exact I.base.free b o ho (I.ok.Cg b hb) fun z => I.ok.xO b z hb
theorem Inv.step {g' : Array GenState} {t' : Nat} {d' : Drawn} {ch : List Addr} (I : Inv X pins σ H s)
    (hch : ∀ b ∈ ch, (b ∈ X.ex ∨ X.s₀.heap.objs.size ≤ b) ∧ b ≠ X.env.locals ∧ (∀ x c, X.env.cells.lookup x = some c → c ≠ b) ∧ ∀ p ∈ X.pn ++ pins, p.1 ≠ b)
    (keep : ∀ b o, b ≠ X.env.locals → b ∉ X.fs → b ∉ ch → s.heap.get? b = some o → H b = none → h'.get? b = some o)
    (slot : ∀ b o, b ≠ X.env.locals → b ∈ X.fs → b ∉ ch → s.heap.get? b = some o → H b = none → ∃ sl, h'.get? b = some { o with slots := sl }) (free : ∀ b o, b ∉ ch → s.heap.get? b = some o → H b = none → H' b = none)
    (there : ∀ b o, b ∉ ch → s.heap.get? b = some o → ∃ o', h'.get? b = some o')
    (tups : ∀ b xs, H b = some (.tup xs) → H' b = some (.tup xs)) (mZ : ∀ b o u, H b = some (.ly o u) → H' b = some (.ly o u)) (m9 : ∀ b ps, H b = some (.Ej ps) → ∃ more, H' b = some (.Ej (ps ++ more)))
    (ns : ∀ m, s.heap.Ns X.env.locals m → h'.Ns X.env.locals m) (hok : m7 X.prog X.w H' h') (hg : AllBare g') :
    Inv X pins σ H' { s with heap := h', gens := g', drawn := d', toks := t' } := by
  have zo : ∀ b o, X.s₀.heap.get? b = some o → b ≠ X.env.locals := fun b o e => Nat.ne_of_lt (Nat.lt_of_lt_of_le (Heap.lt_size e) I.ok.above)
  have Ey : ∀ b o, X.s₀.heap.get? b = some o → b ∉ X.ex → b ∉ ch := fun b o e hx hb => by
    rcases (hch b hb).1 with z | z
    · exact hx z
    · exact absurd (Nat.lt_of_lt_of_le (Heap.lt_size e) z) (Nat.lt_irrefl _)
  have cellK : ∀ x c, X.env.cells.lookup x = some c → ∀ v, s.heap.IsCell c v → h'.IsCell c v := fun x c e v ⟨o, ho, hd⟩ => by
    have Jv : c ∉ ch := fun z => (hch c z).2.2.1 x c e rfl
    by_cases hc : c ∈ X.fs
    · obtain ⟨sl, q⟩ := slot c o (I.Ci x c e) hc Jv ho (I.gB x c e)
      exact ⟨_, q, hd⟩
    · exact ⟨o, keep c o (I.Ci x c e) hc Jv ho (I.gB x c e), hd⟩
  refine ⟨I.ok, I.os, hg, ⟨fun b o e n hb hx => ?_, fun b o e n hb hx => ?_, fun b o e n hx => ?_, fun b o e hx => ?_, fun b xs e => tups b xs (I.base.tups b xs e), fun b o xs e => mZ b o xs (I.base.mZ b o xs e), fun b ps e => ?_⟩, ?_, fun x c e => ?_, ?_, fun x c e => ?_, fun p hp => ?_, hok, I.len⟩
  · exact keep b o (zo b o e) hb (Ey b o e hx) (I.base.keep b o e n hb hx) (I.base.free b o e n hx)
  · obtain ⟨sl, e1⟩ := I.base.slot b o e n hb hx
    obtain ⟨Jw, e2⟩ := slot b _ (zo b o e) hb (Ey b o e hx) e1 (I.base.free b o e n hx)
    exact ⟨Jw, e2⟩
  · obtain ⟨o', e1⟩ := I.base.there b o e hx
    exact free b o' (Ey b o e hx) e1 (I.base.free b o e n hx)
  · obtain ⟨o', e1⟩ := I.base.there b o e hx
    exact there b o' (Ey b o e hx) e1
  · obtain ⟨m1, e1⟩ := I.base.m9 b ps e
    obtain ⟨m2, e2⟩ := m9 b _ e1
    exact ⟨m1 ++ m2, by rw [e2, Array.append_assoc]⟩
  · obtain ⟨m, hn, hl⟩ := I.loc
    refine ⟨m, ns m hn, fun i x v e1 e2 e3 => ?_⟩
    obtain ⟨u, r, l⟩ := hl i x v e1 e2 e3
    refine ⟨u, r, ?_⟩
    rcases l with l | ⟨k, c, e, z⟩
    · exact .inl l
    · exact .inr ⟨k, c, e, cellK x c e _ z⟩
  · obtain ⟨v, z⟩ := I.cell x c e
    exact ⟨v, cellK x c e v z⟩
  · obtain ⟨m, ⟨o, _, _, ho, _⟩, _⟩ := I.loc
    exact free _ o (fun z => (hch _ z).2.1 rfl) ho I.free
  · obtain ⟨v, o, ho, hd⟩ := I.cell x c e
    exact free c o (fun z => (hch c z).2.2.1 x c e rfl) ho (I.gB x c e)
  · obtain ⟨e, n, ne, nf, d⟩ := I.pin p hp
    have Jv : p.1 ∉ ch := fun z => (hch p.1 z).2.2.2 p hp rfl
    exact ⟨keep p.1 p.2 ne nf Jv e n, free p.1 p.2 Jv e n, ne, nf, d⟩
theorem Inv.un {t' : Nat} (I : Inv X pins σ H s) (u : Un X.fs [] H H' s.heap h') (hok : m7 X.prog X.w H' h') : Inv X pins σ H' { s with heap := h', toks := t' } := by
  obtain ⟨m, ⟨o, es, ep, ho, r⟩, _⟩ := id I.loc
  obtain ⟨sl, hL⟩ := u.any ho I.free (by simp)
  exact I.step (g' := s.gens) (d' := s.drawn) (ch := []) (fun _ z => nomatch z) (fun b o _ hb _ e n => u.keep b o e n hb (by simp)) (fun b o _ hb _ e n => u.slot b o e n hb (by simp)) (fun b o _ e n => u.free b o e n (by simp)) (fun b o _ e => u.there b o e (by simp)) u.tups u.mZ u.m9 (fun m' hm => by
    obtain ⟨o', es', Mq, ho', r'⟩ := hm
    rw [ho] at ho'; cases ho'
    exact ⟨_, es', Mq, hL, r'⟩) hok I.bare
theorem Inv.call {g' : Array GenState} {t' : Nat} {d' : Drawn} {ch : List Addr} (I : Inv X pins σ H s) (u : Un (frs X.stack) ch H H' s.heap h') (hok : m7 X.prog X.w H' h') (hg : AllBare g')
    (hch : ∀ b ∈ ch, (b ∈ X.ex ∨ X.s₀.heap.objs.size ≤ b) ∧ b ≠ X.env.locals ∧ (∀ x c, X.env.cells.lookup x = some c → c ≠ b) ∧ ∀ p ∈ X.pn ++ pins, p.1 ≠ b) :
    Inv X pins σ H' { s with heap := h', gens := g', drawn := d', toks := t' } := by
  obtain ⟨m, ⟨o, es, ep, ho, r⟩, _⟩ := id I.loc
  obtain ⟨sl, hL⟩ := u.any ho I.free fun z => (hch _ z).2.1 rfl
  exact I.step (ch := ch) hch (fun b o hL hb hc e n => u.keep b o e n (fun z => (List.mem_cons.mp (I.ng b z)).elim hL hb) hc) (fun b o _ _ hc e n => u.any e n hc) (fun b o hc e n => u.free b o e n hc) (fun b o hc e => u.there b o e hc) u.tups u.mZ u.m9 (fun m' hm => by
    obtain ⟨o', es', Mq, ho', r'⟩ := hm
    rw [ho] at ho'; cases ho'
    exact ⟨_, es', Mq, hL, r'⟩) hok hg
theorem Inv.turned {t' : Nat} {it : Addr} (I : Inv X pins σ H s) (k : ∀ b o, b ≠ it → s.heap.get? b = some o → h'.get? b = some o) (hn : H it = none) (hL : it ≠ X.env.locals)
    (h1 : it ∈ X.ex ∨ X.s₀.heap.objs.size ≤ it) (h2 : ∀ x c, X.env.cells.lookup x = some c → c ≠ it) (h3 : ∀ p ∈ X.pn ++ pins, p.1 ≠ it) : Inv X pins σ H { s with heap := h', toks := t' } := by
  have Jx : ∀ b u, H b = some u → b ≠ it := fun b u e z => by rw [z, hn] at e; cases e
  refine I.step (g' := s.gens) (d' := s.drawn) (ch := [it]) (fun b hb => ?_) (fun b o _ _ hc e _ => k b o (fun z => hc (by simp [z])) e) (fun b o _ _ hc e _ => ⟨o.slots, k b o (fun z => hc (by simp [z])) e⟩) (fun _ _ _ _ n => n)
    (fun b o hc e => ⟨o, k b o (fun z => hc (by simp [z])) e⟩) (fun _ _ e => e) (fun _ _ _ e => e) (fun b ps e => ⟨#[], by rw [e]; simp⟩) (fun m hm => ?_) (fun b u e => ?_) I.bare
  · have e : b = it := by simpa using hb
    subst e
    exact ⟨h1, hL, h2, h3⟩
  · obtain ⟨o, es, ep, ho, r⟩ := hm
    exact ⟨o, es, ep, k _ o (Ne.symm hL) ho, r⟩
  · refine (I.hok b u e).stay (fun c v hc q => k c v ?_ q) (fun _ q => q) fun _ _ q => q
    rcases hc with z | z
    · rw [z]; exact Jx b u e
    · exact Jx c _ z
theorem Inv.tok (I : Inv X pins σ H s) (t : Nat) : Inv X pins σ H { s with toks := t } := I.un (h' := s.heap) (t' := t) Un.refl I.hok
theorem Inv.kept {t' : Nat} (I : Inv X pins σ H s) (k : ∀ b u, s.heap.get? b = some u → h'.get? b = some u) : Inv X pins σ H { s with heap := h', toks := t' } := I.un (Un.kept k) (I.hok.kept k)
theorem Inv.laid {a : Addr} {o : HO} {t' : Nat} (I : Inv X pins σ H s) (k : ∀ b u, s.heap.get? b = some u → h'.get? b = some u) (hp : s.heap.objs.size ≤ a) (new : fR X.prog X.w (upd H a o) h' a o) :
    Inv X pins σ (upd H a o) { s with heap := h', toks := t' } := I.un (Un.laid k hp (I.hok.fresh hp)) (I.hok.laid k hp new)
theorem Inv.write {x e : Addr} {o : HO} {t' : Nat} (I : Inv X pins σ H s) (mu : Js (H x)) (he : e = x ∨ H e = some (.own x)) (k : ∀ b u, b ≠ e → s.heap.get? b = some u → h'.get? b = some u) (Jd : ∃ u, h'.get? e = some u)
    (new : fR X.prog X.w (upd H x o) h' x o) : Inv X pins σ (upd H x o) { s with heap := h', toks := t' } := I.un (Un.write mu he k Jd) (I.hok.write mu he k Jd new)
theorem Inv.wB {gC : List (Addr × Obj)} (I : Inv X pins σ H s) (h : ∀ p ∈ gC, s.heap.get? p.1 = some p.2 ∧ H p.1 = none ∧ p.1 ≠ X.env.locals ∧ p.1 ∉ X.fs ∧ ∀ v, p.2.data ≠ .cell v) : Inv X gC σ H s :=
  ⟨I.ok, I.os, I.bare, I.base, I.loc, I.cell, I.free, I.gB, fun p hp => (List.mem_append.mp hp).elim (fun z => I.pin p (List.mem_append_left _ z)) (h p), I.hok, I.len⟩
theorem sZ {N : List Str} (hN : N.Nodup) {i j : Nat} {x : Str} (a : N[i]? = some x) (b : N[j]? = some x) : i = j := by
  obtain ⟨h1, e1⟩ := List.getElem?_eq_some_iff.mp a
  obtain ⟨h2, e2⟩ := List.getElem?_eq_some_iff.mp b
  exact (List.getElem_inj hN).mp (e1.trans e2.symm)
theorem vz {M : Model} {A : Around} {E : Value → Shared → Prop} {i : Nat} {x : Str} {v : V} {u : Value} {Q : Unit → Shared → Prop} (I : Inv X pins σ H s) (hN : X.N.Nodup) (hi : X.N[i]? = some x) (hx : Loc X.env.scope x) (r : RelV v u)
    (h : ∀ s', Inv X pins (σ.set i (some v)) H s' → (∃ a, Heap.SameBut a s.heap s'.heap ∧ (a = X.env.locals ∨ X.env.cells.lookup x = some a)) → Q () s') (hf : X.fn x = true ∨ X.env.scope.names.lookup x = some .local := by first | exact .inl rfl | exact .inr rfl | assumption) : wpAny M A (storeName X.env x u) Q E s := by
  obtain ⟨m, hn, hl⟩ := id I.loc
  have hcls : (X.env.scope.kind == .class || (X.env.scope.kind == .module && X.env.locals != X.env.globals)) = false := by rw [I.ok.kind]; rfl
  have Jy : i < σ.length := by rw [I.len]; exact (List.getElem?_eq_some_iff.mp hi).1
  have Ci := I.Ci
  have tracked : ∀ {a : Addr} {h' : Heap}, (∃ o, s.heap.get? a = some o ∧ H a = none) → Heap.SameBut a s.heap h' → m7 X.prog X.w H h' := fun {a h'} ha hs b ob e => by
    obtain ⟨_, _, hfree⟩ := ha
    refine (I.hok b ob e).stay (fun c w' hc q => (hs.2 c ?_).trans q) (fun _ q => q) fun _ _ q => q
    rintro rfl
    rcases hc with rfl | hc
    · rw [hfree] at e; cases e
    · rw [hfree] at hc; cases hc
  rcases hx with hk | hk
  · refine wpAny_storeName_local hk hn (fun h' hn' hs => ?_) hcls
    obtain ⟨oL, _, _, Mr, _⟩ := id hn
    refine h _ ⟨I.ok, I.os, I.bare, ⟨fun b o e n hb hx => ?_, fun b o e n hb hx => ?_, I.base.free, fun b o e hx => ?_, I.base.tups, I.base.mZ, I.base.m9⟩, ⟨_, hn', fun j y v' e1 e2 e3 => ?_⟩, fun y c e => ?_, I.free, I.gB, fun p hp => ?_, tracked ⟨oL, Mr, I.free⟩ hs, by simpa using I.len⟩ ⟨_, hs, .inl rfl⟩
    · exact (hs.2 b (Nat.ne_of_lt (Nat.lt_of_lt_of_le (Heap.lt_size e) I.ok.above))).trans (I.base.keep b o e n hb hx)
    · obtain ⟨sl, e1⟩ := I.base.slot b o e n hb hx
      exact ⟨sl, (hs.2 b (Nat.ne_of_lt (Nat.lt_of_lt_of_le (Heap.lt_size e) I.ok.above))).trans e1⟩
    · obtain ⟨o', e1⟩ := I.base.there b o e hx
      exact ⟨o', (hs.2 b (Nat.ne_of_lt (Nat.lt_of_lt_of_le (Heap.lt_size e) I.ok.above))).trans e1⟩
    · by_cases hj : j = i
      · subst hj
        rw [hi] at e1; cases e1
        rw [List.getElem?_set_self Jy] at e2
        cases e2
        exact ⟨u, r, .inl ⟨hk, by simp⟩⟩
      · rw [List.getElem?_set_ne (Ne.symm hj)] at e2
        obtain ⟨u', r', q⟩ := hl j y v' e1 e2 e3
        refine ⟨u', r', ?_⟩
        rcases q with ⟨k, e⟩ | ⟨k, c, e, z⟩
        · refine .inl ⟨k, ?_⟩
          have : y ≠ x := fun e => hj (sZ hN e1 (e ▸ hi))
          simp [this, e]
        · exact .inr ⟨k, c, e, z.sameBut hs (Ci y c e)⟩
    · obtain ⟨w', z⟩ := I.cell y c e
      exact ⟨w', z.sameBut hs (Ci y c e)⟩
    · obtain ⟨e, n, ne, nf, d⟩ := I.pin p hp
      exact ⟨(hs.2 p.1 ne).trans e, n, ne, nf, d⟩
  · have hfn : X.fn x = true := by
      rcases hf with z | z
      · exact z
      · rw [z] at hk; cases hk
    obtain ⟨c, hc⟩ := I.ok.has x (.inl hk)
    obtain ⟨w', z⟩ := I.cell x c hc
    refine wpAny_storeName_cell I.ok.kind hk hc z (fun h' hc' hs => ?_)
    obtain ⟨oc, hoc, Ms⟩ := id z
    refine h { s with heap := h' } ⟨I.ok, I.os, I.bare, ⟨fun b o e n hb hx => ?_, fun b o e n hb hx => ?_, I.base.free, fun b o e hx => ?_, I.base.tups, I.base.mZ, I.base.m9⟩, ⟨m, hn.sameBut hs (Ne.symm (Ci x c hc)), fun j y v' e1 e2 e3 => ?_⟩, fun y c' e => ?_, I.free, I.gB, fun p hp => ?_, tracked ⟨oc, hoc, I.gB x c hc⟩ hs, by simpa using I.len⟩ ⟨c, hs, .inr hc⟩
    · exact (hs.2 b (Nat.ne_of_lt (Nat.lt_of_lt_of_le (Heap.lt_size e) (I.ok.FW x c hfn hc)))).trans (I.base.keep b o e n hb hx)
    · obtain ⟨sl, e1⟩ := I.base.slot b o e n hb hx
      exact ⟨sl, (hs.2 b (Nat.ne_of_lt (Nat.lt_of_lt_of_le (Heap.lt_size e) (I.ok.FW x c hfn hc)))).trans e1⟩
    · obtain ⟨o', e1⟩ := I.base.there b o e hx
      exact ⟨o', (hs.2 b (Nat.ne_of_lt (Nat.lt_of_lt_of_le (Heap.lt_size e) (I.ok.FW x c hfn hc)))).trans e1⟩
    · by_cases hj : j = i
      · subst hj
        rw [hi] at e1; cases e1
        rw [List.getElem?_set_self Jy] at e2
        cases e2
        exact ⟨u, r, .inr ⟨.inl hk, c, hc, hc'⟩⟩
      · rw [List.getElem?_set_ne (Ne.symm hj)] at e2
        obtain ⟨u', r', q⟩ := hl j y v' e1 e2 e3
        refine ⟨u', r', ?_⟩
        rcases q with q | ⟨k, c', e, z'⟩
        · exact .inl q
        · refine .inr ⟨k, c', e, z'.sameBut hs ?_⟩
          rintro rfl
          exact hj (sZ hN e1 (I.ok.inj _ _ _ e hc ▸ hi))
    · by_cases hcc : c' = c
      · subst hcc; exact ⟨_, hc'⟩
      · obtain ⟨w2, z2⟩ := I.cell y c' e
        exact ⟨w2, z2.sameBut hs hcc⟩
    · obtain ⟨e, n, ne, nf, d⟩ := I.pin p hp
      refine ⟨(hs.2 p.1 ?_).trans e, n, ne, nf, d⟩
      intro q
      rw [q, hoc] at e
      have q' : oc = p.2 := Option.some.inj e
      exact d w' (by rw [← q']; exact Ms)
theorem pU {M : Model} {A : Around} {E : Value → Shared → Prop} {i : Nat} {x : Str} {v : V} {u : Value} {Q : Unit → Shared → Prop} (I : Inv X pins σ H s) (hN : X.N.Nodup) (hi : X.N[i]? = some x) (hx : Loc X.env.scope x) (r : RelV v u)
    (h : ∀ s', Inv X pins (σ.set i (some v)) H s' → Q () s') (hf : X.fn x = true ∨ X.env.scope.names.lookup x = some .local := by first | exact .inl rfl | exact .inr rfl | assumption) : wpAny M A (storeName X.env x u) Q E s :=
  vz I hN hi hx r (fun s' I' _ => h s' I') hf
theorem Inv.Am {s' : Shared} {ch : List Addr} (I : Inv X pins σ H s) (ho : s'.os = s.os) (u : Un (frs X.stack) ch H H' s.heap s'.heap) (hok : m7 X.prog X.w H' s'.heap) (hg : AllBare s'.gens)
    (hch : ∀ b ∈ ch, (b ∈ X.ex ∨ X.s₀.heap.objs.size ≤ b) ∧ b ≠ X.env.locals ∧ (∀ x c, X.env.cells.lookup x = some c → c ≠ b) ∧ ∀ p ∈ X.pn ++ pins, p.1 ≠ b) : Inv X pins σ H' s' := by
  obtain ⟨h', g', d', t', o'⟩ := s'
  have e : o' = s.os := ho
  subst e
  exact I.call (g' := g') (t' := t') (d' := d') u hok hg hch
end
noncomputable abbrev XK := Value → Option Addr → Hp → Prop
noncomputable abbrev St := List (Option V)
noncomputable abbrev VK := V → Hp → Prop
noncomputable abbrev TE := St → Hp → VK → Prop
noncomputable abbrev TT := St → Hp → (Bool → Hp → Prop) → Prop
noncomputable abbrev TA := St → Hp → (List V → Hp → Prop) → Prop
structure Ends where
  nx : St → Hp → Prop
  rt : VK
  bk : St → Hp → Prop := fun _ _ => False
  ct : St → Hp → Prop := fun _ _ => False
noncomputable abbrev TS := Ends → St → Hp → Prop
noncomputable def EP (X : Cx) (pins : List (Addr × Obj)) (σ : St) (Q : VK) (u : Value) (s' : Shared) : Prop := ∃ v H', Inv X pins σ H' s' ∧ RelV v u ∧ Q v H'
noncomputable def TP (X : Cx) (pins : List (Addr × Obj)) (σ : St) (Q : Bool → Hp → Prop) (b : Bool) (s' : Shared) : Prop := ∃ H', Inv X pins σ H' s' ∧ Q b H'
noncomputable def AP (X : Cx) (pins : List (Addr × Obj)) (σ : St) (Q : List V → Hp → Prop) (us : List Value) (s' : Shared) : Prop := ∃ vs H', Inv X pins σ H' s' ∧ Vals vs us ∧ Q vs H'
noncomputable def SP (X : Cx) (pins : List (Addr × Obj)) (D : Ends) (f : Flow) (s' : Shared) : Prop :=
  match f with
  | .next => ∃ σ' H', Inv X pins σ' H' s' ∧ D.nx σ' H'
  | .brk => ∃ σ' H', Inv X pins σ' H' s' ∧ D.bk σ' H'
  | .cont => ∃ σ' H', Inv X pins σ' H' s' ∧ D.ct σ' H'
  | .ret u => ∃ v σ' H', Inv X pins σ' H' s' ∧ RelV v u ∧ D.rt v H'
noncomputable def PE (X : Cx) (e : Expr) (t : TE) : Prop :=
  ∀ (pins : List (Addr × Obj)) (s : Shared) (σ : St) (H : Hp) (Q : VK), Inv X pins σ H s → t σ H Q → wpAny (model X.prog X.w) X.A (eval e X.env) (EP X pins σ Q) X.xe s
noncomputable def PT (X : Cx) (e : Expr) (t : TT) : Prop :=
  ∀ (pins : List (Addr × Obj)) (s : Shared) (σ : St) (H : Hp) (Q : Bool → Hp → Prop), Inv X pins σ H s → t σ H Q → wpAny (model X.prog X.w) X.A (isTrue e X.env (eval e X.env)) (TP X pins σ Q) X.xe s
noncomputable def PW (X : Cx) (e : Expr) (t : TT) : Prop :=
  ∀ (whole : Sem Value) (pins : List (Addr × Obj)) (s : Shared) (σ : St) (H : Hp) (Q : Bool → Hp → Prop), Inv X pins σ H s → t σ H Q → wpAny (model X.prog X.w) X.A (isTrue e X.env whole) (TP X pins σ Q) X.xe s
theorem PW.pt {X : Cx} {e : Expr} {t : TT} (h : PW X e t) : PT X e t := h _
noncomputable def PA (X : Cx) (es : List Expr) (t : TA) : Prop :=
  ∀ (pos : Pos) (pins : List (Addr × Obj)) (s : Shared) (σ : St) (H : Hp) (Q : List V → Hp → Prop), Inv X pins σ H s → t σ H Q → wpAny (model X.prog X.w) X.A (spliced (backTo pos (starEach es X.env))) (AP X pins σ Q) X.xe s
noncomputable def PS (X : Cx) (st : Stmt) (t : TS) : Prop :=
  ∀ (pins : List (Addr × Obj)) (s : Shared) (σ : St) (H : Hp) (D : Ends), Inv X pins σ H s → t D σ H → wpAny (model X.prog X.w) X.A (exec st X.env) (SP X pins D) X.xe s
noncomputable def xJ (X : Cx) (st : List Stmt) (t : TS) : Prop :=
  ∀ (pins : List (Addr × Obj)) (s : Shared) (σ : St) (H : Hp) (D : Ends), Inv X pins σ H s → t D σ H → wpAny (model X.prog X.w) X.A (execs st X.env) (SP X pins D) X.xe s
theorem gm {α : Type} {t : Sem α} {Q Q' : α → Shared → Prop} {M : Model} {A : Around} {E : Value → Shared → Prop} {s : Shared} (h : wpAny M A t Q E s) (hQ : ∀ a s, Q a s → Q' a s) : wpAny M A t Q' E s := wpAny_mono h hQ fun _ _ x => x
end L2
namespace L2
open PySem PySem.Spec PyProof.Rows
section
variable {X : Cx}
noncomputable def GP (i : Nat) : TE := fun σ H Q => ∃ v, σ[i]? = some (some v) ∧ Q v H
noncomputable def tC (v : V) : TE := fun _ H Q => Q v H
theorem zp {i : Nat} {x : Str} {pos : Pos} (hN : X.N[i]? = some x) (hv : FU X.env.scope x) (hd : (x == ("__debug__" : Str)) = false := by decide) (hcd : (x == ("__classdict__" : Str)) = false := by decide) : PE X (.Name x pos) (GP i) := by
  intro pins s σ H Q I h
  obtain ⟨v, e, h⟩ := h
  obtain ⟨m, hn, hl⟩ := I.loc
  obtain ⟨u, r, l⟩ := hl i x v hN e hv
  have fin : EP X pins σ Q u s := ⟨v, H, I, r, h⟩
  rcases l with ⟨hk, hm⟩ | ⟨hk, c, hc, hcell⟩
  · exact wpAny_Name (wpAny_loadName_local I.ok.kind hk hn hm fin) hd
  · rcases hk with hk | hk
    · exact wpAny_Name (wpAny_loadName_cell I.ok.kind hk hc hcell fin) hd
    · exact wpAny_Name (wpAny_loadName_free I.ok.kind hk hc hcell fin hcd) hd
theorem GQ {i j pos} : PE X (.Constant (.int i) j pos) (tC (.int i)) := fun _ _ _ H _ I h => wpAny_Constant_int ⟨.int i, H, I.tok _, ⟨_, rfl⟩, h⟩
theorem Jz {b j pos} : PE X (.Constant (.bool b) j pos) (tC (.bl b)) := fun _ _ _ H _ I h => Constant_bool ⟨.bl b, H, I, rfl, h⟩
theorem GR {j pos} : PE X (.Constant .none j pos) (tC .gk) := fun _ _ _ H _ I h => Constant_none ⟨.gk, H, I, rfl, h⟩
theorem GS {x j pos} : PE X (.Constant (.str x) j pos) (tC (.str x)) := fun _ _ _ H _ I h => Calls.Constant_str ⟨.str x, H, I.tok _, ⟨_, rfl⟩, h⟩
noncomputable def Gl (X : Cx) (x : Str) : Prop := X.env.kindOf x = some .globalImplicit
theorem sI {E : Value → Shared → Prop} {pins : List (Addr × Obj)} {s : Shared} {σ : St} {H : Hp} {x : Str} {u : Value} {pos : Pos} {Q : Value → Shared → Prop} (I : Inv X pins σ H s) (hg : Gl X x) (hm : X.mg x = some u) (h : Q u s)
    (hd : (x == ("__debug__" : Str)) = false := by decide) : wpAny (model X.prog X.w) X.A (eval (.Name x pos) X.env) Q E s :=
  Calls.Name_function_global I.ok.kind hg (Calls.loadGlobal_global (by rw [I.ok.glob]; exact I.mod.glob.keeps I.bk) hm h) hd
theorem nh {E : Value → Shared → Prop} {pins : List (Addr × Obj)} {s : Shared} {σ : St} {H : Hp} {x : Str} {u : Value} {pos : Pos} {Q : Value → Shared → Prop} (I : Inv X pins σ H s) (hg : Gl X x) (hm : X.mg x = none) (hv : bootBuiltins x = some u) (h : Q u s)
    (hn : x ≠ "__name__" := by decide) (hd : (x == ("__debug__" : Str)) = false := by decide) : wpAny (model X.prog X.w) X.A (eval (.Name x pos) X.env) Q E s := by
  obtain ⟨mb, h1, h2⟩ := I.mod.blt
  exact Calls.Name_function_global I.ok.kind hg (Calls.loadGlobal_builtin (by rw [I.ok.glob]; exact I.mod.glob.keeps I.bk) hm (by rw [I.ok.blt]; exact h1.keeps I.bk) ((h2 x hn).trans hv) h) hd
variable {a b : Expr} {ta tb : TE} {pos : Pos}
variable {tA LG : TT} {rest : List Expr}
noncomputable def JA (t u : TT) : TT := fun σ H Q => t σ H fun c H1 => if c = true then u σ H1 Q else Q false H1
noncomputable def Oi (t u : TT) : TT := fun σ H Q => t σ H fun c H1 => if c = true then Q true H1 else u σ H1 Q
noncomputable def Mt (t : TT) : TT := fun σ H Q => t σ H fun c H1 => Q (!c) H1
theorem Ez (ha : PT X a tA) : PW X (.BoolOp .And [a] pos) tA := by
  intro wh pins s σ H Q I h
  refine isTrue_and (gm (ha pins s σ H Q I h) fun c s1 e => ?_)
  cases c with
  | true => exact isTrue_and_nil e
  | false => exact e
theorem GU (ha : PT X a tA) : PW X (.BoolOp .Or [a] pos) tA := by
  intro wh pins s σ H Q I h
  refine isTrue_or (gm (ha pins s σ H Q I h) fun c s1 e => ?_)
  cases c with
  | false => exact isTrue_or_nil e
  | true => exact e
theorem GV (ha : PT X a tA) (hb : PW X (.BoolOp .And (b :: rest) pos) LG) : PW X (.BoolOp .And (a :: b :: rest) pos) (JA tA LG) := by
  intro wh pins s σ H Q I h
  refine isTrue_and (gm (ha pins s σ H _ I h) fun c s1 ⟨H1, I1, q1⟩ => ?_)
  cases c with
  | true => exact hb wh pins s1 σ H1 Q I1 q1
  | false => exact ⟨H1, I1, q1⟩
theorem JB (ha : PT X a tA) (hb : PW X (.BoolOp .Or (b :: rest) pos) LG) : PW X (.BoolOp .Or (a :: b :: rest) pos) (Oi tA LG) := by
  intro wh pins s σ H Q I h
  refine isTrue_or (gm (ha pins s σ H _ I h) fun c s1 ⟨H1, I1, q1⟩ => ?_)
  cases c with
  | true => exact ⟨H1, I1, q1⟩
  | false => exact hb wh pins s1 σ H1 Q I1 q1
theorem GW (ha : PT X a tA) : PT X (.UnaryOp .Not a pos) (Mt tA) := by
  intro pins s σ H Q I h
  exact isTrue_not (ha pins s σ H (fun c H1 => Q (!c) H1) I h)
noncomputable def JC (ta tb : TE) : TE := fun σ H Q => ta σ H fun x H1 => ∃ c, x = .bl c ∧ if c = true then tb σ H1 Q else Q (.bl false) H1
theorem GX {op} {t : TE} (h : PE X a t) : PE X (.BoolOp op [a] pos) t := fun pins s σ H Q I hw => BoolOp_one (h pins s σ H Q I hw)
theorem GY (ha : PE X a ta) (hb : PE X (.BoolOp .And (b :: rest) pos) tb) : PE X (.BoolOp .And (a :: b :: rest) pos) (JC ta tb) := by
  intro pins s σ H Q I h
  refine BoolOp_and (gm (ha pins s σ H _ I h) fun v s1 ⟨x, H1, I1, r1, q1⟩ => ?_)
  obtain ⟨c, rfl, q1⟩ := q1
  cases r1
  refine wpAny_truthy_bool ?_
  cases c with
  | true => exact hb pins s1 σ H1 Q I1 q1
  | false => exact ⟨.bl false, H1, I1, rfl, q1⟩
noncomputable def Qe (t : TT) (ta tb : TE) : TE := fun σ H Q => t σ H fun c H1 => if c = true then ta σ H1 Q else tb σ H1 Q
theorem Cq {c : Expr} (hc : PT X c tA) (ha : PE X a ta) (hb : PE X b tb) : PE X (.IfExp c a b pos) (Qe tA ta tb) := by
  intro pins s σ H Q I h
  refine wpAny_IfExp (gm (hc pins s σ H _ I h) fun d s1 ⟨H1, I1, q1⟩ => ?_)
  cases d with
  | true => exact ha pins s1 σ H1 Q I1 q1
  | false => exact hb pins s1 σ H1 Q I1 q1
end
end L2
namespace L2
open PySem PySem.Spec PyProof.Rows
noncomputable def pq (K : PySem.W.Frag) (H : Hp) (a : Addr) (xs : List V) : Prop :=
  Rd H a (.lst xs) ∨
    ∃ (o : Obj) (its : Array Value) (n : Nat), K.lookup a = some o ∧ o.cls = .type "list" ∧ o.dict = none ∧ o.data = .seq its n ∧ its.size ≤ sizeLine ∧ Vals xs its.toList
noncomputable def qS (K : PySem.W.Frag) (H : Hp) (a : Addr) (xs : List V) : Prop :=
  Rd H a (.tup xs) ∨
    ∃ (o : Obj) (its : Array Value) (n : Nat), K.lookup a = some o ∧ o.cls = .type "tuple" ∧ o.data = .seq its n ∧ its.size ≤ sizeLine ∧ Vals xs its.toList
noncomputable def Mu : Value → Option V
  | .none => some .gk
  | .bool b => some (.bl b)
  | .int i _ => some (.int i)
  | .str x _ => some (.str x)
  | .bytes b _ => some (.Jq b)
  | .float b _ => some (.Jr b)
  | .ref a => some (.ref a)
  | .type n => some (.ty n)
  | _ => none
theorem RelV.abs {x : V} {u : Value} (r : RelV x u) : Mu u = some x := by
  cases x with
  | gk => cases r; rfl
  | bl _ => cases r; rfl
  | int _ => obtain ⟨t, rfl⟩ := r; rfl
  | str _ => obtain ⟨t, rfl⟩ := r; rfl
  | Jq _ => obtain ⟨t, rfl⟩ := r; rfl
  | Jr _ => obtain ⟨t, rfl⟩ := r; rfl
  | ref _ => cases r; rfl
  | ty _ => cases r; rfl
theorem RelV.inj {x y : V} {u : Value} (r : RelV x u) (q : RelV y u) : x = y := Option.some.inj (r.abs.symm.trans q.abs)
theorem Vals.inj : ∀ {xs ys : List V} {us : List Value}, Vals xs us → Vals ys us → xs = ys
  | _, _, _, .nil, .nil => rfl
  | _, _, _, .cons r t, .cons r' t' => by rw [r.inj r', Vals.inj t t']
section
variable {X : Cx} {pins : List (Addr × Obj)} {σ : St} {H : Hp} {s : Shared} {a : Addr} {xs ys : List V}
theorem pq.of {K : PySem.W.Frag} (h : H a = some (.lst xs)) : pq K H a xs := .inl (.inl h)
theorem Inv.list (I : Inv X pins σ H s) (h : pq X.K H a xs) : ∃ its : List Value, Vals xs its ∧ PlainL s.heap a its.toArray ∧ xs.length ≤ sizeLine := by
  rcases h with h | ⟨o, its, n, hk, hc, hd, hs, hz, r⟩
  · obtain ⟨z, its, n, r, e⟩ := h.ok I.hok
    exact ⟨its, r, ⟨_, n, e, rfl, rfl, rfl⟩, z⟩
  · refine ⟨its.toList, r, ⟨o, n, I.zm a o hk, hc, hd, by simpa using hs⟩, ?_⟩
    have e := r.length
    simp only [Array.length_toList] at e
    omega
theorem Inv.tuple (I : Inv X pins σ H s) (h : qS X.K H a xs) : ∃ its : List Value, Vals xs its ∧ IsTup s.heap a its.toArray ∧ xs.length ≤ sizeLine := by
  rcases h with h | ⟨o, its, n, hk, hc, hs, hz, r⟩
  · obtain ⟨z, its, r, p⟩ := h.ok I.hok
    exact ⟨its, r, p, z⟩
  · refine ⟨its.toList, r, ⟨o, I.zm a o hk, hc, n, by simpa using hs⟩, ?_⟩
    have e := r.length
    simp only [Array.length_toList] at e
    omega
theorem Inv.xP (I : Inv X pins σ H s) (h : pq X.K H a xs) (h' : pq X.K H a ys) : xs = ys := by
  obtain ⟨its, r, ⟨o, n, e, _, _, d⟩, _⟩ := I.list h
  obtain ⟨its', r', ⟨o', n', e', _, _, d'⟩, _⟩ := I.list h'
  rw [e] at e'; cases e'
  rw [d] at d'
  injection d' with d1 _
  have : its = its' := by simpa using congrArg Array.toList d1
  subst this
  exact r.inj r'
theorem Inv.vA (I : Inv X pins σ H s) (h : qS X.K H a xs) (h' : qS X.K H a ys) : xs = ys := by
  obtain ⟨its, r, ⟨o, e, _, n, d⟩, _⟩ := I.tuple h
  obtain ⟨its', r', ⟨o', e', _, n', d'⟩, _⟩ := I.tuple h'
  rw [e] at e'; cases e'
  rw [d] at d'
  injection d' with d1 _
  have : its = its' := by simpa using congrArg Array.toList d1
  subst this
  exact r.inj r'
end
noncomputable abbrev Cx.uL (X : Cx) (E : Value → Shared → Prop) : Cx := { X with xe := E }
noncomputable abbrev Cx.LH (X : Cx) : Cx := X.uL fun _ _ => False
theorem Cx.Ok.uL {X : Cx} (ok : X.Ok) (E : Value → Shared → Prop) : (X.uL E).Ok :=
  ⟨ok.mod, ok.kind, ok.glob, ok.blt, ok.above, ok.inj, ok.has, ok.FW, ok.hd, ok.frames, ok.stk, ok.Ju, ok.bs, ok.Bl, ok.xM, ok.xO, ok.nc, ok.Cg⟩
theorem Cx.Ok.ni {X : Cx} {E : Value → Shared → Prop} (ok : (X.uL E).Ok) : X.Ok :=
  ⟨ok.mod, ok.kind, ok.glob, ok.blt, ok.above, ok.inj, ok.has, ok.FW, ok.hd, ok.frames, ok.stk, ok.Ju, ok.bs, ok.Bl, ok.xM, ok.xO, ok.nc, ok.Cg⟩
section
variable {X : Cx} {pins : List (Addr × Obj)} {σ : St} {H : Hp} {s : Shared} {E : Value → Shared → Prop}
theorem Inv.uL (I : Inv X pins σ H s) (E : Value → Shared → Prop) : Inv (X.uL E) pins σ H s := ⟨I.ok.uL E, I.os, I.bare, I.base, I.loc, I.cell, I.free, I.gB, I.pin, I.hok, I.len⟩
theorem Inv.ni (I : Inv (X.uL E) pins σ H s) : Inv X pins σ H s := ⟨I.ok.ni, I.os, I.bare, I.base, I.loc, I.cell, I.free, I.gB, I.pin, I.hok, I.len⟩
theorem SP.ni {D : Ends} {f : Flow} {s' : Shared} (h : SP (X.uL E) pins D f s') : SP X pins D f s' := by
  cases f with
  | next => obtain ⟨σ', H', I, q⟩ := h; exact ⟨σ', H', I.ni, q⟩
  | brk => obtain ⟨σ', H', I, q⟩ := h; exact ⟨σ', H', I.ni, q⟩
  | cont => obtain ⟨σ', H', I, q⟩ := h; exact ⟨σ', H', I.ni, q⟩
  | ret u => obtain ⟨v, σ', H', I, r, q⟩ := h; exact ⟨v, σ', H', I.ni, r, q⟩
theorem xJ.LH {st : List Stmt} {t : TS} (h : xJ X.LH st t) : xJ X st t := fun pins s σ H D I hw =>
  wpAny_mono (h pins s σ H D (I.uL _) hw) (fun _ _ q => q.ni) fun _ _ z => False.elim z
end
section
variable {X : Cx} {st : Stmt} {rest : List Stmt} {t u : TS} {e : Expr} {te : TE} {pos : Pos}
noncomputable def JD : TS := fun D σ H => D.nx σ H
noncomputable def JE (t u : TS) : TS := fun D σ H => t { D with nx := u D } σ H
theorem EA : xJ X [] JD := fun _ _ σ H _ I h => wpAny_execs_nil ⟨σ, H, I, h⟩
theorem Cr (h1 : PS X st t) (h2 : xJ X rest u) : xJ X (st :: rest) (JE t u) := by
  intro pins s σ H D I h
  refine wpAny_execs_cons (gm (h1 pins s σ H { D with nx := u D } I h) fun f s1 q => ?_)
  cases f with
  | next =>
    obtain ⟨σ', H', I', q⟩ := q
    exact h2 pins s1 σ' H' D I' q
  | ret v => exact q
  | brk => exact q
  | cont => exact q
theorem An (h1 : PS X st t) : xJ X [st] t := by
  intro pins s σ H D I h
  refine wpAny_execs_cons (gm (h1 pins s σ H D I h) fun f s1 q => ?_)
  cases f with
  | next => exact wpAny_execs_nil q
  | ret v => exact q
  | brk => exact q
  | cont => exact q
theorem Inv.quiet {pins : List (Addr × Obj)} {σ : St} {H : Hp} {s : Shared} (I : Inv X pins σ H s) : interactive X.env = false := by simp [interactive, I.ok.kind]
noncomputable def JF (te : TE) : TS := fun D σ H => te σ H fun _ H1 => D.nx σ H1
theorem EB (he : PE X e te) (hs : swapsWith e none pos.line X.env = pure false := by rfl) : PS X (.Expr e pos) (JF te) := by
  intro pins s σ H D I h
  exact wpAny_Expr_any (gm (he pins s σ H _ I h) fun v s1 ⟨x, H1, I1, r1, q1⟩ => ⟨σ, H1, I1, q1⟩) I.quiet hs
noncomputable def Mv (te : TE) : TS := fun D σ H => te σ H D.rt
theorem GZ (he : PE X e te) : PS X (.Return (some e) pos) (Mv te) := by
  intro pins s σ H D I h
  exact wpAny_Return_some (gm (he pins s σ H _ I h) fun v s1 ⟨x, H1, I1, r1, q1⟩ => ⟨x, σ, H1, I1, r1, q1⟩)
noncomputable def Mw (c : TT) (t u : TS) : TS := fun D σ H => c σ H fun b H1 => if b = true then t D σ H1 else u D σ H1
theorem JG {c : Expr} {a b : List Stmt} {tc : TT} (hc : PT X c tc) (ha : xJ X a t) (hb : xJ X b u) : PS X (.If c a b pos) (Mw tc t u) := by
  intro pins s σ H D I h
  refine wpAny_If (gm (hc pins s σ H _ I h) fun d s1 ⟨H1, I1, q1⟩ => ?_)
  cases d with
  | true => exact ha pins s1 σ H1 D I1 q1
  | false => exact hb pins s1 σ H1 D I1 q1
end
noncomputable abbrev TG := V → St → Hp → (St → Hp → Prop) → Prop
noncomputable abbrev G4 := List V → St → Hp → (St → Hp → Prop) → Prop
noncomputable def PG (X : Cx) (target : Expr) (t : TG) : Prop :=
  ∀ (pins : List (Addr × Obj)) (s : Shared) (σ : St) (H : Hp) (v : V) (u : Value) (Q : St → Hp → Prop), Inv X pins σ H s → RelV v u → t v σ H Q →
    wpAny (model X.prog X.w) X.A (assign target X.env u) (fun _ s' => ∃ σ' H', Inv X pins σ' H' s' ∧ Q σ' H') X.xe s
noncomputable def LI (X : Cx) (ts : List Expr) (t : G4) : Prop :=
  ∀ (pins : List (Addr × Obj)) (s : Shared) (σ : St) (H : Hp) (vs : List V) (us : List Value) (Q : St → Hp → Prop), Inv X pins σ H s → Vals vs us → t vs σ H Q →
    wpAny (model X.prog X.w) X.A (assignInOrder ((assignEach ts X.env).map (·.2)) us) (fun _ s' => ∃ σ' H', Inv X pins σ' H' s' ∧ Q σ' H') X.xe s
noncomputable abbrev G5 := V → V → V → Hp → (Hp → Prop) → Prop
noncomputable def JH (X : Cx) (t : G5) : Prop :=
  ∀ (pins : List (Addr × Obj)) (s : Shared) (σ : St) (H : Hp) (o i v : V) (ov iv u : Value) (Q : Hp → Prop), Inv X pins σ H s → RelV o ov → RelV i iv → RelV v u → t o i v H Q →
    wpAny (model X.prog X.w) X.A (setItem ov iv u) (fun _ s' => ∃ H', Inv X pins σ H' s' ∧ Q H') X.xe s
section
variable {X : Cx} {pos : Pos}
noncomputable def Ao (i : Nat) : TG := fun v σ H Q => Q (σ.set i (some v)) H
theorem lR {i : Nat} {x : Str} (hN : X.N.Nodup) (hi : X.N[i]? = some x) (hx : Loc X.env.scope x) (hf : X.fn x = true ∨ X.env.scope.names.lookup x = some .local := by first | exact .inl rfl | exact .inr rfl | assumption) : PG X (.Name x pos) (Ao i) := by
  intro pins s σ H v u Q I r h
  exact wpAny_assign_Name (pU I hN hi hx r (fun s' I' => ⟨_, H, I', h⟩) hf)
noncomputable def Mx : G4 := fun vs σ H Q => vs = [] ∧ Q σ H
noncomputable def JI (t : TG) (u : G4) : G4 := fun vs σ H Q => ∃ v r, vs = v :: r ∧ t v σ H fun σ' H' => u r σ' H' Q
theorem Aq : LI X [] Mx := by
  intro pins s σ H vs us Q I r h
  obtain ⟨e, h⟩ := h
  subst e
  cases r
  exact assignInOrder_nil ⟨σ, H, I, h⟩
theorem lA {e : Expr} {es : List Expr} {t : TG} {u : G4} (h1 : PG X e t) (h2 : LI X es u)
    (hs : (assignEach (e :: es) X.env).map (·.2) = assign e X.env :: (assignEach es X.env).map (·.2) := by rfl) : LI X (e :: es) (JI t u) := by
  intro pins s σ H vs us Q I r h
  obtain ⟨v, vr, e1, h⟩ := h
  subst e1
  cases r with
  | cons r rr =>
    rw [hs]
    refine assignInOrder_cons (gm (h1 pins s σ H _ _ _ I r h) fun _ s1 ⟨σ1, H1, I1, q1⟩ => ?_)
    exact h2 pins s1 σ1 H1 _ _ Q I1 rr q1
noncomputable def My (K : PySem.W.Frag) (n : Nat) (t : G4) : TG := fun v σ H Q => ∃ a xs, v = .ref a ∧ qS K H a xs ∧ xs.length = n ∧ t xs σ H Q
theorem Cs {es : List Expr} {k : Nat} {t : G4} {n : Nat} (hc : X.calm = true) (h : LI X es t)
    (hn : (assignEach es X.env).length = n := by rfl) (hst : (assignEach es X.env).findIdx? (·.1) = none := by rfl) : PG X (.Tuple es k pos) (My X.K n t) := by
  intro pins s σ H v u Q I r hw
  obtain ⟨a, xs, e1, hq, hl, hw⟩ := hw
  subst e1
  cases r
  obtain ⟨its, rv, ht, hz⟩ := I.tuple hq
  refine assign_Tuple_tuple (I.ok.hd hc) ht (by simp [hn, ← hl, rv.length]) hst fun h' hx => ?_
  have I1 : Inv X pins σ H { s with heap := h' } := I.kept (t' := s.toks) fun b o e => hx b o (Nat.ne_of_lt (Heap.lt_size e)) e
  exact h pins _ σ H xs _ Q I1 (by simpa using rv) hw
noncomputable def Mz (to ti : TE) (t : G5) : TG := fun v σ H Q => to σ H fun o H1 => ti σ H1 fun i H2 => t o i v H2 fun H3 => Q σ H3
theorem G6 {o i : Expr} {to ti : TE} {t : G5} (ho : PE X o to) (hi : PE X i ti) (hs : JH X t)
    (ha : ∀ v, assign (.Subscript o i pos) X.env v = (do
      let ov ← holding [v] (eval o X.env)
      let iv ← holding [v, ov] (eval i X.env)
      standAt pos
      holding [v, ov, iv] (setItem ov iv v)
      release [v, ov, iv] []) := by intro _; rfl) : PG X (.Subscript o i pos) (Mz to ti t) := by
  intro pins s σ H v u Q I r h
  rw [ha]
  refine wpAny_bind (wpAny_holding (gm (ho pins s σ H _ I h) fun ov s1 ⟨x, H1, I1, r1, q1⟩ => ?_))
  refine wpAny_bind (wpAny_holding (gm (hi pins s1 σ H1 _ I1 q1) fun iv s2 ⟨y, H2, I2, r2, q2⟩ => ?_))
  refine wpAny_bind (wpAny_standAt (wpAny_bind (wpAny_holding (gm (hs pins s2 σ H2 x y v ov iv u _ I2 r1 r2 r q2) fun _ s3 ⟨H3, I3, q3⟩ => ?_))))
  exact wpAny_release ⟨σ, H3, I3, q3⟩
noncomputable def G7 (te : TE) (g : TG) : TS := fun D σ H => te σ H fun x H1 => g x σ H1 D.nx
theorem Ct {tg e : Expr} {te : TE} {g : TG} (he : PE X e te) (hg : PG X tg g) (hs : swapsWithSole [tg] e pos.line X.env = pure false := by rfl) (hw : swappedStores [tg] e X.env = pure none := by rfl)
    (h1 : (assignEach [tg] X.env).map (·.2) = [assign tg X.env] := by rfl) : PS X (.Assign [tg] e pos) (G7 te g) := by
  intro pins s σ H D I h
  refine wpAny_Assign_stores (gm (he pins s σ H _ I h) fun v s1 ⟨x, H1, I1, r1, q1⟩ => ?_) hs hw
  rw [h1]
  exact gm (hg pins s1 σ H1 x v _ I1 r1 q1) fun _ s2 q => q
theorem G8 {i : Nat} {x : Str} {e : Expr} {te : TE} {pos' : Pos} (hN : X.N.Nodup) (hi : X.N[i]? = some x) (hx : Loc X.env.scope x) (he : PE X e te) (hs : swapsWith e (some (.Name x pos')) pos.line X.env = pure false := by rfl) (hf : X.fn x = true ∨ X.env.scope.names.lookup x = some .local := by first | exact .inl rfl | exact .inr rfl | assumption) :
    PS X (.Assign [.Name x pos'] e pos) (G7 te (Ao i)) := by
  intro pins s σ H D I h
  refine wpAny_Assign_Name (gm (he pins s σ H _ I h) fun v s1 ⟨y, H1, I1, r1, q1⟩ => ?_) hs
  exact pU I1 hN hi hx r1 (fun s2 I2 => ⟨_, H1, I2, q1⟩) hf
end
section
variable {X : Cx} {pos : Pos}
end
structure It where
  go : Nat → Hp → Prop
  xK : Nat → Hp → V → Hp → Prop
  stop : Nat → Hp → Prop
noncomputable def pV (X : Cx) (pins : List (Addr × Obj)) (H : Hp) (b : Addr) : Prop :=
  H b = none ∧ b ≠ X.env.locals ∧ b ∉ X.fs ∧ (b ∈ X.ex ∨ X.s₀.heap.objs.size ≤ b) ∧ (∀ x c, X.env.cells.lookup x = some c → c ≠ b) ∧ ∀ p ∈ X.pn ++ pins, p.1 ≠ b
theorem Inv.xQ {X : Cx} {pins : List (Addr × Obj)} {σ : St} {H H' : Hp} {s : Shared} {b : Addr} (I : Inv X pins σ H s) (hb : s.heap.objs.size ≤ b) (hn : H' b = none) : pV X pins H' b := by
  refine ⟨hn, Nat.ne_of_gt (Nat.lt_of_lt_of_le I.lt hb), I.Mp hb, .inr (Nat.le_trans I.sz hb), fun x c e z => ?_, fun p hp z => ?_⟩
  · obtain ⟨v, q⟩ := I.cell x c e
    exact absurd (Nat.lt_of_lt_of_le q.lt (by rw [z]; exact hb)) (Nat.lt_irrefl _)
  · exact absurd (Nat.lt_of_lt_of_le (Heap.lt_size (I.pin p hp).1) (by rw [z]; exact hb)) (Nat.lt_irrefl _)
structure Turn (P : Program) (w : World) (K : PySem.W.Frag) (tg : Expr) (J : It) (fp : List Addr) (it : Addr) (tn : Nat → Heap → Prop) : Prop where
  mem : it ∈ fp
  obj : ∀ i h, tn i h → ∀ b ∈ fp, ∃ o, h.get? b = some o ∧ ∀ v, o.data ≠ .cell v
  keep : ∀ i h h', tn i h → (∀ b ∈ fp, ∀ o, h.get? b = some o → h'.get? b = some o) → tn i h'
  item : ∀ (X : Cx), X.prog = P → X.w = w → X.K = K → X.calm = true → ∀ (i : Nat) (pins : List (Addr × Obj)) (s : Shared) (σ : St) (H : Hp) (E : Value → Shared → Prop), Inv X pins σ H s → (∀ b ∈ fp, pV X pins H b) → tn i s.heap → J.go i H →
    wpAny (model P w) X.A (pyNext (.ref it)) (fun r s1 => ∃ u, r = some u ∧
      wpAny (model P w) X.A (letOwnedTupleGo tg (.ref it) u) (fun _ s2 => ∃ x H', Inv X pins σ H' s2 ∧ RelV x u ∧ J.xK i H x H' ∧ tn (i + 1) s2.heap ∧ ∀ b ∈ fp, H' b = none) E s1) E s
  done : ∀ (X : Cx), X.prog = P → X.w = w → X.K = K → X.calm = true → ∀ (i : Nat) (pins : List (Addr × Obj)) (s : Shared) (σ : St) (H : Hp) (E : Value → Shared → Prop), Inv X pins σ H s → (∀ b ∈ fp, pV X pins H b) → tn i s.heap → J.stop i H →
    wpAny (model P w) X.A (pyNext (.ref it)) (fun r s1 => r = none ∧ Inv X pins σ H s1) E s
  self : ∀ (A : Around) (i : Nat) (s : Shared) (Q : Value → Shared → Prop) (E : Value → Shared → Prop), tn i s.heap → Q (.ref it) s → wpAny (model P w) A (pyIter (.ref it)) Q E s
noncomputable abbrev TI := St → Hp → (It → Hp → Prop) → Prop
noncomputable def Oj (X : Cx) (pins : List (Addr × Obj)) (σ : St) (tg : Expr) (R : It → Hp → Prop) (itv : Value) (s2 : Shared) : Prop :=
  ∃ (it : Addr) (fp : List Addr) (tn : Nat → Heap → Prop) (J : It) (H' : Hp), itv = .ref it ∧ Inv X pins σ H' s2 ∧ Turn X.prog X.w X.K tg J fp it tn ∧ tn 0 s2.heap ∧ (∀ b ∈ fp, pV X pins H' b) ∧ R J H'
noncomputable def PI (X : Cx) (tg iter : Expr) (wi : TI) : Prop :=
  ∀ (pins : List (Addr × Obj)) (s : Shared) (σ : St) (H : Hp) (R : It → Hp → Prop), Inv X pins σ H s → wi σ H R →
    wpAny (model X.prog X.w) X.A (eval iter X.env) (fun v s1 => wpAny (model X.prog X.w) X.A (pyIter v) (Oj X pins σ tg R) X.xe s1) X.xe s
theorem Ar {M : Model} {A : Around} {E : Value → Shared → Prop} {s : Shared} {tg : Expr} {it : Addr} {u : Value} {o : Obj} {n : String} {vs : Array Value} {Q : Unit → Shared → Prop} (ho : s.heap.get? it = some o) (hc : o.cls = .type n) (hd : o.data = .fields vs)
    (hn : ["enumerate", "zip", "dict_itemiterator", "dict_reverseitemiterator", "odict_iterator", "itertools.zip_longest", "itertools.pairwise"].contains n = false) (hQ : Q () s) : wpAny M A (letOwnedTupleGo tg (.ref it) u) Q E s := by
  unfold letOwnedTupleGo
  cases tg <;> first
    | exact wpAny_pure hQ
    | (cases u <;> first
        | exact wpAny_pure hQ
        | (refine wpAny_bind (wpAny_load ho ?_)
           rw [hc, hd]
           show wpAny M A (if (["enumerate", "zip", "dict_itemiterator", "dict_reverseitemiterator", "odict_iterator", "itertools.zip_longest", "itertools.pairwise"].contains n && vs[0]? == some (rawInt _)) = true then _ else _) Q E s
           rw [if_neg (by intro h; rw [hn, Bool.false_and] at h; cases h)]
           exact wpAny_pure hQ))
noncomputable def El (K : PySem.W.Frag) (a : Addr) : It :=
  ⟨fun i H => ∃ xs x, pq K H a xs ∧ xs[i]? = some x, fun i H x H' => H' = H ∧ ∀ xs, pq K H a xs → xs[i]? = some x, fun i H => ∃ xs, pq K H a xs ∧ xs.length ≤ i⟩
noncomputable def LJ (K : PySem.W.Frag) (a : Addr) : It :=
  ⟨fun i H => ∃ xs x, qS K H a xs ∧ xs[i]? = some x, fun i H x H' => H' = H ∧ ∀ xs, qS K H a xs → xs[i]? = some x, fun i H => ∃ xs, qS K H a xs ∧ xs.length ≤ i⟩
noncomputable def EC (lo : Int) (n : Nat) : It := ⟨fun i _ => i < n, fun i H x H' => H' = H ∧ x = .int (lo + i), fun i _ => n ≤ i⟩
theorem Bm {P : Program} {w : World} {K : PySem.W.Frag} {tg : Expr} (a it : Addr) : Turn P w K tg (El K a) [it] it (fun i h => h.IsListIter it a i) where
  mem := by simp
  obj := fun i h st b hb => by
    have e : b = it := by simpa using hb
    subst e
    obtain ⟨o, e, c, d⟩ := st
    exact ⟨o, e, fun v z => by rw [d] at z; cases z⟩
  keep := fun i h h' st k => st.at fun o e => k it (by simp) o e
  item := by
    intro X hP hw hK hc i pins s σ H E I hf st hg
    subst hP hw hK
    obtain ⟨xs, x, hq, hx⟩ := hg
    obtain ⟨its, rv, p, hz⟩ := I.list hq
    obtain ⟨u, hu, ru⟩ := rv.get hx
    obtain ⟨f0, f1, f2, f3, f4, f5⟩ := hf it (by simp)
    refine wpAny_pyNext_list_item st p.isList (x := u) (by simpa using hu) fun h' st' sb => ?_
    have I1 : Inv X pins σ H { s with heap := h' } := I.turned (t' := s.toks) (fun b o hb e => (sb.2 b hb).trans e) f0 f1 f3 f4 f5
    obtain ⟨o, e, c, d⟩ := id st'
    exact ⟨u, rfl, Ar (s := { s with heap := h' }) e c d (by decide) ⟨x, H, I1, ru, ⟨rfl, fun ys hy => by rw [I.xP hy hq]; exact hx⟩, st', fun b hb => (hf b hb).1⟩⟩
  done := by
    intro X hP hw hK hc i pins s σ H E I hf st hg
    subst hP hw hK
    obtain ⟨xs, hq, hx⟩ := hg
    obtain ⟨its, rv, p, hz⟩ := I.list hq
    obtain ⟨f0, f1, f2, f3, f4, f5⟩ := hf it (by simp)
    have hl := rv.length
    exact wpAny_pyNext_list_end (I.ok.hd hc) st p.isList (by simp; omega) fun h' eb => ⟨rfl, I.turned (t' := s.toks) (fun b o hb e => eb b o hb e) f0 f1 f3 f4 f5⟩
  self := fun _ _ _ _ _ st h => wpAny_pyIter_listiter st h
theorem zq {P : Program} {w : World} {K : PySem.W.Frag} {tg : Expr} (a it : Addr) : Turn P w K tg (LJ K a) [it] it (fun i h => h.IsTupleIter it a i) where
  mem := by simp
  obj := fun i h st b hb => by
    have e : b = it := by simpa using hb
    subst e
    obtain ⟨o, e, c, d⟩ := st
    exact ⟨o, e, fun v z => by rw [d] at z; cases z⟩
  keep := fun i h h' st k => st.at fun o e => k it (by simp) o e
  item := by
    intro X hP hw hK hc i pins s σ H E I hf st hg
    subst hP hw hK
    obtain ⟨xs, x, hq, hx⟩ := hg
    obtain ⟨its, rv, p, hz⟩ := I.tuple hq
    obtain ⟨u, hu, ru⟩ := rv.get hx
    obtain ⟨f0, f1, f2, f3, f4, f5⟩ := hf it (by simp)
    refine wpAny_pyNext_tuple_item st (show s.heap.IsTuple a its.toArray from p) (x := u) (by simpa using hu) fun h' st' sb => ?_
    have I1 : Inv X pins σ H { s with heap := h' } := I.turned (t' := s.toks) (fun b o hb e => (sb.2 b hb).trans e) f0 f1 f3 f4 f5
    obtain ⟨o, e, c, d⟩ := id st'
    exact ⟨u, rfl, Ar (s := { s with heap := h' }) e c d (by decide) ⟨x, H, I1, ru, ⟨rfl, fun ys hy => by rw [I.vA hy hq]; exact hx⟩, st', fun b hb => (hf b hb).1⟩⟩
  done := by
    intro X hP hw hK hc i pins s σ H E I hf st hg
    subst hP hw hK
    obtain ⟨xs, hq, hx⟩ := hg
    obtain ⟨its, rv, p, hz⟩ := I.tuple hq
    obtain ⟨f0, f1, f2, f3, f4, f5⟩ := hf it (by simp)
    have hl := rv.length
    exact wpAny_pyNext_tuple_end (I.ok.hd hc) st (show s.heap.IsTuple a its.toArray from p) (by simp; omega) fun h' eb => ⟨rfl, I.turned (t' := s.toks) (fun b o hb e => eb b o hb e) f0 f1 f3 f4 f5⟩
  self := fun _ _ _ _ _ st h => wpAny_pyIter_tupleiter st h
theorem zu {P : Program} {w : World} {K : PySem.W.Frag} {tg : Expr} (it : Addr) (lo : Int) (n : Nat) : Turn P w K tg (EC lo n) [it] it (fun i h => IsRangeIter h it (lo + (i : Nat) * 1) ((n : Int) - (i : Nat)) 1) where
  mem := by simp
  obj := fun i h st b hb => by
    have e : b = it := by simpa using hb
    subst e
    exact ⟨_, st, fun v z => by
      have z' : Data.fields _ = Data.cell v := z
      cases z'⟩
  keep := fun i h h' st k => k it (by simp) _ st
  item := by
    intro X hP hw hK hc i pins s σ H E I hf st hg
    subst hP hw hK
    obtain ⟨f0, f1, f2, f3, f4, f5⟩ := hf it (by simp)
    have W := Walks.range (prog := X.prog) (w := X.w) (I.ok.hd hc) it lo 1 n
    refine W.item i s _ _ hg st fun v h' tk hv st' kk => ?_
    obtain ⟨t, rfl⟩ := hv
    have I1 : Inv X pins σ H { s with heap := h', toks := tk } := I.turned (fun b o hb e => kk b o (by simpa using hb) e) f0 f1 f3 f4 f5
    refine ⟨_, rfl, Ar (s := { s with heap := h', toks := tk }) (n := "range_iterator") st' rfl rfl (by decide) ⟨.int (lo + i), H, I1, ⟨t, ?_⟩, ⟨rfl, rfl⟩, st', fun b hb => (hf b hb).1⟩⟩
    rw [Int.mul_one]
  done := by
    intro X hP hw hK hc i pins s σ H E I hf st hg
    subst hP hw hK
    obtain ⟨f0, f1, f2, f3, f4, f5⟩ := hf it (by simp)
    exact wpAny_pyNext_range_end (I.ok.hd hc) st (by have : n ≤ i := hg; omega) fun h' eb => ⟨rfl, I.turned (t' := s.toks) (fun b o hb e => eb b o hb e) f0 f1 f3 f4 f5⟩
  self := fun _ _ _ _ _ st h => wpAny_pyIter_rangeiter st h
end L2
namespace L2
open PySem PySem.Spec PyProof.Rows
section
variable {X : Cx} {tg : Expr}
theorem Cu {pins : List (Addr × Obj)} {σ : St} {H : Hp} {s : Shared} {R : It → Hp → Prop} {E : Value → Shared → Prop} {lo hi : Int} {t u v : Tok} {tk : Nat} (I : Inv X pins σ H s) (h1 : -(2 ^ 62) ≤ lo) (h2 : lo < 2 ^ 62) (h3 : -(2 ^ 62) ≤ hi) (h4 : hi < 2 ^ 62)
    (q : R (EC lo (hi - lo).toNat) H) : wpAny (model X.prog X.w) X.A (pyIter (.ref s.heap.objs.size)) (Oj X pins σ tg R) E { s with heap := s.heap.push { cls := .type "range", data := .fields #[.int lo t, .int hi u, .int 1 v] }, toks := tk } := by
  refine wpAny_pyIter_range (IsRange.new ..) (small_one h1 h2 h3 h4) ?_
  have I1 : Inv X pins σ H { s with heap := s.heap.push { cls := .type "range", data := .fields #[.int lo t, .int hi u, .int 1 v] }, toks := tk } := I.kept fun b o e => Heap.get?_push_of_some _ e
  refine ⟨(s.heap.push { cls := .type "range", data := .fields #[.int lo t, .int hi u, .int 1 v] }).objs.size, [(s.heap.push { cls := .type "range", data := .fields #[.int lo t, .int hi u, .int 1 v] }).objs.size], _, _, H, rfl,
    I1.kept (t' := tk) fun b o e => Heap.get?_push_of_some _ e, zu _ lo (hi - lo).toNat, ?_, fun b hb => ?_, q⟩
  · have e1 : lo + ((0 : Nat) : Int) * 1 = lo := by simp
    have e2 : (((hi - lo).toNat : Nat) : Int) - ((0 : Nat) : Int) = Builtin.Range.rangeSize lo hi 1 := by rw [rangeSize_one]; split <;> omega
    show IsRangeIter _ _ (lo + ((0 : Nat) : Int) * 1) ((((hi - lo).toNat : Nat) : Int) - ((0 : Nat) : Int)) 1
    rw [e1, e2]
    exact Heap.get?_push_size _ rfl
  · have e : b = (s.heap.push { cls := .type "range", data := .fields #[.int lo t, .int hi u, .int 1 v] }).objs.size := by simpa using hb
    subst e
    exact I1.xQ (Nat.le_refl _) (I1.hok.fresh (Nat.le_refl _))
noncomputable def JJ (ta : TA) : TI := fun σ H R => ta σ H fun vs H1 => ∃ j : Int, vs = [.int j] ∧ -(2 ^ 62) ≤ j ∧ j < 2 ^ 62 ∧ R (EC 0 j.toNat) H1
theorem Bo {a : Expr} {ta : TA} {p pos : Pos} (hg : Gl X "range") (hm : X.mg "range" = none) (ha : PA X [a] ta) (hs : starEach [a] X.env = [(false, eval a X.env)] := by rfl) : PI X tg (.Call (.Name "range" p) [a] [] pos) (JJ ta) := by
  intro pins s σ H R I h
  refine Call_ (nh I hg hm boot_range (PyProof.Rows.callWith_type1 (gm (ha pos pins s σ H _ I h) fun us s1 ⟨vs, H1, I1, r1, q1⟩ => ?_) hs rfl))
  obtain ⟨j, e, q1, q2, q⟩ := q1
  subst e
  cases r1 with
  | cons r rr =>
    cases rr
    obtain ⟨t, rfl⟩ := r
    exact call_range_1 (Cu I1 (by omega) (by omega) q1 q2 (by simpa using q))
noncomputable def MA (wi : TI) (g : TG) (tb : TS) : TS := fun D σ H => wi σ H fun J H1 => ∃ W : Nat → Nat → St → Hp → Prop, (∃ m, W 0 m σ H1) ∧ ∀ i m σ H, W i m σ H →
  (J.stop i H ∧ D.nx σ H) ∨ (J.go i H ∧ ∃ N : St → Hp → Prop, (∀ σ' H', N σ' H' → ∃ m', m' < m ∧ W (i + 1) m' σ' H') ∧ ∀ x H', J.xK i H x H' → g x σ H' fun σ2 H2 => tb { D with nx := N, ct := N, bk := D.nx } σ2 H2)
noncomputable def qT (fp : List Addr) (h : Heap) : List (Addr × Obj) := fp.filterMap fun b => (h.get? b).map fun o => (b, o)
theorem lS {fp : List Addr} {h : Heap} {b : Addr} {o : Obj} (hb : b ∈ fp) (e : h.get? b = some o) : (b, o) ∈ qT fp h := List.mem_filterMap.mpr ⟨b, hb, by rw [e]; rfl⟩
theorem Bp {fp : List Addr} {h : Heap} {p : Addr × Obj} (hp : p ∈ qT fp h) : p.1 ∈ fp ∧ h.get? p.1 = some p.2 := by
  obtain ⟨b, hb, e⟩ := List.mem_filterMap.mp hp
  cases q : h.get? b with
  | none => rw [q] at e; cases e
  | some o =>
    rw [q] at e
    have e' : (b, o) = p := Option.some.inj e
    subst e'
    exact ⟨hb, q⟩
theorem Inv.pinned {pins : List (Addr × Obj)} {σ : St} {H : Hp} {s : Shared} {fp : List Addr} (I : Inv X pins σ H s) (hf : ∀ b ∈ fp, pV X pins H b) (ho : ∀ b ∈ fp, ∃ o, s.heap.get? b = some o ∧ ∀ v, o.data ≠ .cell v) : Inv X (pins ++ qT fp s.heap) σ H s :=
  I.wB fun p hp => (List.mem_append.mp hp).elim (fun z => I.pin p (List.mem_append_right _ z)) fun z => by
    obtain ⟨hb, e⟩ := Bp z
    obtain ⟨f0, f1, f2, _⟩ := hf p.1 hb
    obtain ⟨o, e', d⟩ := ho p.1 hb
    rw [e] at e'; cases e'
    exact ⟨e, f0, f1, f2, d⟩
theorem Inv.tu {pins pl : List (Addr × Obj)} {σ : St} {H : Hp} {s : Shared} (I : Inv X (pins ++ pl) σ H s) : Inv X pins σ H s := I.wB fun p hp => I.pin p (List.mem_append_right _ (List.mem_append_left _ hp))
theorem zw {iter : Expr} {body : List Stmt} {wi : TI} {g : TG} {tb : TS} {pos : Pos} (hp : PassesOwn (model X.prog X.w) X.A X.env X.xe) (hc : X.calm = true) (hi : PI X tg iter wi) (hg : PG X tg g) (hb : xJ X body tb)
    (hs : ∀ x, foldedSetIterable iter X.env x = pure x := by intro _; rfl) : PS X (.For tg iter body [] pos) (MA wi g tb) := by
  intro pins s σ H D I h
  refine wpAny_For (gm (hi pins s σ H _ I h) fun v s1 h1 => gm h1 fun itv s2 h2 => ?_) hs
  obtain ⟨it, fp, tn, J, H2, e, I2, T, st2, f2, W, ⟨m0, w0⟩, turn⟩ := h2
  subst e
  have G9 : ∀ {H' : Hp}, (∀ b ∈ fp, H' b = none) → ∀ b ∈ fp, pV X pins H' b := fun hn b hb => ⟨hn b hb, (f2 b hb).2⟩
  refine codeAny_forLoop_any (fun n s' => ∃ i σ' H', Inv X pins σ' H' s' ∧ tn i s'.heap ∧ (∀ b ∈ fp, H' b = none) ∧ W i n σ' H') ?_ m0 ⟨0, σ, H2, I2, st2, fun b hb => (f2 b hb).1, w0⟩
  rintro n s3 ⟨i, σ3, H3, I3, st3, Ol, w3⟩
  rcases turn i n σ3 H3 w3 with ⟨stop, qn⟩ | ⟨go, N, hN, step⟩
  · refine wpAny_passesOwn hp (gm (T.done X rfl rfl rfl hc i pins s3 σ3 H3 X.xe I3 (G9 Ol) st3 stop) fun r s4 ⟨hr, I4⟩ => ?_)
    subst hr
    exact wpAny_execs_nil ⟨σ3, H3, I4, qn⟩
  · refine wpAny_passesOwn hp (gm (T.item X rfl rfl rfl hc i pins s3 σ3 H3 X.xe I3 (G9 Ol) st3 go) fun r s4 ⟨u, hr, h4⟩ => ?_)
    subst hr
    refine wpAny_passesOwn hp (gm h4 fun _ s5 ⟨x, H5, I5, r5, y5, Je, LL⟩ => ?_)
    have Qf := I5.pinned (G9 LL) (T.obj _ _ Je)
    refine wpAny_passesOwn hp (gm (hg _ s5 σ3 H5 x u _ Qf r5 (step x H5 y5)) fun _ s6 ⟨σ6, H6, I6, q6⟩ => ?_)
    refine wpAny_passesOwn hp (gm (hb _ s6 σ6 H6 _ I6 q6) fun f s7 q7 => ?_)
    have again : ∀ {σ7 : St} {H7 : Hp}, Inv X (pins ++ qT fp s5.heap) σ7 H7 s7 → N σ7 H7 → ∃ m, m < n ∧ ∃ i σ' H', Inv X pins σ' H' s7 ∧ tn i s7.heap ∧ (∀ b ∈ fp, H' b = none) ∧ W i m σ' H' := fun {σ7 H7} I7 n7 => by
      obtain ⟨m', hm, w7⟩ := hN σ7 H7 n7
      refine ⟨m', hm, i + 1, σ7, H7, I7.tu, T.keep _ _ _ Je fun b hb o e => (I7.pin (b, o) (List.mem_append_right _ (List.mem_append_right _ (lS hb e)))).1, fun b hb => ?_, w7⟩
      obtain ⟨o, e, d⟩ := T.obj _ _ Je b hb
      exact (I7.pin (b, o) (List.mem_append_right _ (List.mem_append_right _ (lS hb e)))).2.1
    cases f with
    | next => obtain ⟨σ7, H7, I7, n7⟩ := q7; exact again I7 n7
    | cont => obtain ⟨σ7, H7, I7, n7⟩ := q7; exact again I7 n7
    | brk => obtain ⟨σ7, H7, I7, q7⟩ := q7; exact ⟨σ7, H7, I7.tu, q7⟩
    | ret v => obtain ⟨x7, σ7, H7, I7, r7, q7⟩ := q7; exact ⟨x7, σ7, H7, I7.tu, r7, q7⟩
end
end L2
namespace L2
open PySem PySem.Spec PyProof.Rows
noncomputable abbrev R2 := V → V → Hp → VK → Prop
noncomputable def nj (X : Cx) (f : Value → Value → Sem Value) (r : R2) : Prop :=
  ∀ (pins : List (Addr × Obj)) (s : Shared) (σ : St) (H : Hp) (x y : V) (v u : Value) (Q : VK), Inv X pins σ H s → RelV x v → RelV y u → r x y H Q →
    wpAny (model X.prog X.w) X.A (f v u) (EP X pins σ Q) X.xe s
noncomputable def jT (X : Cx) (f : Value) (r : List V → Hp → VK → Prop) : Prop :=
  ∀ (pins : List (Addr × Obj)) (s : Shared) (σ : St) (H : Hp) (xs : List V) (us : List Value) (Q : VK), Inv X pins σ H s → Vals xs us → r xs H Q →
    wpAny (model X.prog X.w) X.A (call f us) (EP X pins σ Q) X.xe s
noncomputable def MB (X : Cx) (r : V → Hp → (Bool → Hp → Prop) → Prop) : Prop :=
  ∀ (pins : List (Addr × Obj)) (s : Shared) (σ : St) (H : Hp) (x : V) (v : Value) (Q : Bool → Hp → Prop), Inv X pins σ H s → RelV x v → r x H Q →
    wpAny (model X.prog X.w) X.A (truthy v) (TP X pins σ Q) X.xe s
noncomputable def JK (r : R2) (ta tb : TE) : TE := fun σ H Q => ta σ H fun x H1 => tb σ H1 fun y H2 => r x y H2 Q
noncomputable def rI (C : Int → Int → Prop) (g : Int → Int → V) : R2 := fun x y H Q => ∃ i j, x = .int i ∧ y = .int j ∧ C i j ∧ Q (g i j) H
noncomputable def Hf (g : Int → Int → V) : R2 := fun x y H Q => ∃ i j, x = .int i ∧ y = .int j ∧ Q (g i j) H
section
variable {X : Cx} {a b c : Expr} {ta tb tc : TE} {pos : Pos}
theorem Hg (ha : PE X a ta) (hb : PE X b tb) {pins : List (Addr × Obj)} {s : Shared} {σ : St} {H : Hp} {R : V → V → Hp → Prop} (I : Inv X pins σ H s)
    (h : ta σ H fun x H1 => tb σ H1 fun y H2 => R x y H2) {Q : Value → Shared → Prop} {f : Value → Value → Sem Value}
    (hf : ∀ v u s2 x y H2, Inv X pins σ H2 s2 → RelV x v → RelV y u → R x y H2 → wpAny (model X.prog X.w) X.A (f v u) Q X.xe s2) :
    wpAny (model X.prog X.w) X.A (eval a X.env) (fun v s₁ => wpAny (model X.prog X.w) X.A (eval b X.env) (fun u s₂ => wpAny (model X.prog X.w) X.A (f v u) Q X.xe s₂) X.xe s₁) X.xe s := by
  refine gm (ha pins s σ H _ I h) fun v s1 ⟨x, H1, I1, r1, q1⟩ => ?_
  refine gm (hb pins s1 σ H1 _ I1 q1) fun u s2 ⟨y, H2, I2, r2, q2⟩ => ?_
  exact hf v u s2 x y H2 I2 r1 r2 q2
theorem JL {op : Operator} {r : R2} (ho : nj X (binaryOp op) r) (ha : PE X a ta) (hb : PE X b tb) : PE X (.BinOp a op b pos) (JK r ta tb) := by
  intro pins s σ H Q I h
  exact wpAny_BinOp (Hg ha hb I h fun v u s2 x y H2 I2 rx ry q => ho pins s2 σ H2 x y v u Q I2 rx ry q)
theorem LM {f : Value → Value → Sem Value} {C : Int → Int → Prop} {g : Int → Int → Int}
    (rule : ∀ (i j : Int) (t u : Tok) (s : Shared) (Q : Value → Shared → Prop) (E : Value → Shared → Prop), C i j → Q (.int (g i j) s.toks) { s with toks := s.toks + 1 } → wpAny (model X.prog X.w) X.A (f (.int i t) (.int j u)) Q E s) :
    nj X f (rI C fun i j => .int (g i j)) := by
  intro pins s σ H x y v u Q I rx ry h
  obtain ⟨i, j, rfl, rfl, hc, q⟩ := h
  obtain ⟨t, rfl⟩ := rx
  obtain ⟨t', rfl⟩ := ry
  exact rule i j t t' s _ _ hc ⟨.int (g i j), H, I.tok _, ⟨_, rfl⟩, q⟩
theorem JM {f : Value → Value → Sem Value} {g : Int → Int → Int}
    (rule : ∀ (i j : Int) (t u : Tok) (s : Shared) (Q : Value → Shared → Prop) (E : Value → Shared → Prop), Q (.int (g i j) s.toks) { s with toks := s.toks + 1 } → wpAny (model X.prog X.w) X.A (f (.int i t) (.int j u)) Q E s) :
    nj X f (Hf fun i j => .int (g i j)) := by
  intro pins s σ H x y v u Q I rx ry h
  obtain ⟨i, j, rfl, rfl, q⟩ := h
  obtain ⟨t, rfl⟩ := rx
  obtain ⟨t', rfl⟩ := ry
  exact rule i j t t' s _ _ ⟨.int (g i j), H, I.tok _, ⟨_, rfl⟩, q⟩
theorem JN {f : Value → Value → Sem Value} {g : Int → Int → Bool}
    (rule : ∀ (i j : Int) (t u : Tok) (s : Shared) (Q : Value → Shared → Prop) (E : Value → Shared → Prop), Q (.bool (g i j)) s → wpAny (model X.prog X.w) X.A (f (.int i t) (.int j u)) Q E s) :
    nj X f (Hf fun i j => .bl (g i j)) := by
  intro pins s σ H x y v u Q I rx ry h
  obtain ⟨i, j, rfl, rfl, q⟩ := h
  obtain ⟨t, rfl⟩ := rx
  obtain ⟨t', rfl⟩ := ry
  exact rule i j t t' s _ _ ⟨.bl (g i j), H, I, rfl, q⟩
noncomputable def MC (i j : Int) : Prop := 0 < j ∧ j < 1073741824
noncomputable def MD (i j : Int) : Prop := 0 ≤ j ∧ j ≤ 1000000 ∧ i.natAbs < 2 ^ 64
noncomputable def Hh (i j : Int) : Prop := (-(2 ^ 64) < i ∧ i < 2 ^ 64) ∨ (-(2 ^ 64) < j ∧ j < 2 ^ 64)
theorem Hh.ok {i j : Int} (h : Hh i j) : IntMulOk i j := by
  rcases h with ⟨h1, h2⟩ | ⟨h1, h2⟩
  · exact .of_left (intBits_le_64 h1 h2)
  · exact .of_right (intBits_le_64 h1 h2)
theorem Hi : nj X (binaryOp .Add) (Hf fun i j => .int (i + j)) := JM fun _ _ _ _ _ _ _ q => add_int q
theorem Hj : nj X (binaryOp .Sub) (Hf fun i j => .int (i - j)) := JM fun _ _ _ _ _ _ _ q => sub_int q
theorem Hl : nj X (binaryOp .Mult) (rI Hh fun i j => .int (i * j)) := LM fun _ _ _ _ _ _ _ hc q => mul_int q hc.ok
theorem ED : nj X (binaryOp .FloorDiv) (rI MC fun i j => .int (i / j)) := LM fun i j _ _ _ _ _ hc q => by
  have h1 : (0 : Int) < j := hc.1
  have h2 : j < 1073741824 := hc.2
  exact floordiv_int (by omega) (by rw [Int.fdiv_eq_ediv_of_nonneg i (by omega)]; exact q) (.inl (PyProof.noPylong_small (by omega)))
theorem Ho : nj X (binaryOp .Mod) (rI (fun _ j => 0 < j) fun i j => .int (i % j)) := LM fun i j _ _ _ _ _ hc q => by
  have h1 : (0 : Int) < j := hc
  exact mod_int' (by omega) (by rw [Int.fmod_eq_emod_of_nonneg i (by omega)]; exact q)
theorem Hq : nj X (binaryOp .Pow) (rI MD fun i j => .int (i ^ j.toNat)) := LM fun _ _ _ _ _ _ _ hc q => pow_int_small hc.1 hc.2.1 hc.2.2 q
end
section
variable {X : Cx} {a b c : Expr} {ta tb tc : TE} {pos : Pos}
theorem Cv {pins : List (Addr × Obj)} {σ : St} {H : Hp} {s : Shared} {Q : VK} {k k' : Bool} (I : Inv X pins σ H s) (q : Q (.bl k) H) (e : k = k') : EP X pins σ Q (.bool k') s := by
  subst e
  exact ⟨.bl k, H, I, rfl, q⟩
theorem JO : nj X (compareOp .Lt) (Hf fun i j => .bl (decide (i < j))) := JN fun _ _ _ _ _ _ _ q => lt_int q
theorem JP : nj X (compareOp .Gt) (Hf fun i j => .bl (decide (j < i))) := JN fun _ _ _ _ _ _ _ q => gt_int q
theorem Bq : nj X (compareOp .In) (fun x y H Q => ∃ i j, x = .str i ∧ y = .str j ∧ Q (.bl (!(Builtin.Str.occurrences j i 0 j.length 1).isEmpty)) H) := by
  intro pins s σ H x y v u Q I rx ry h
  obtain ⟨i, j, rfl, rfl, q⟩ := h
  obtain ⟨t, rfl⟩ := rx
  obtain ⟨t', rfl⟩ := ry
  exact in_str (Cv I q rfl)
theorem wC : nj X (compareOp .NotIn) (fun x y H Q => ∃ i j, x = .str i ∧ y = .str j ∧ Q (.bl (!(!(Builtin.Str.occurrences j i 0 j.length 1).isEmpty))) H) := by
  intro pins s σ H x y v u Q I rx ry h
  obtain ⟨i, j, rfl, rfl, q⟩ := h
  obtain ⟨t, rfl⟩ := rx
  obtain ⟨t', rfl⟩ := ry
  exact notIn_str (Cv I q rfl)
theorem Hr (b : Expr) {op : CmpOp} (h : op ≠ .In := by decide) (h2 : op ≠ .NotIn := by decide) : behindInMarks op b = false := by
  have e1 : (op == CmpOp.In) = false := by cases op <;> first | rfl | exact absurd rfl h
  have e2 : (op == CmpOp.NotIn) = false := by cases op <;> first | rfl | exact absurd rfl h2
  cases b <;> simp [behindInMarks, e1, e2]
theorem EF {op : CmpOp} {r : R2} (ho : nj X (compareOp op) r) (ha : PE X a ta) (hb : PE X b tb) (hm : behindInMarks op b = false) : PE X (.Compare a [op] [b] pos) (JK r ta tb) := by
  intro pins s σ H Q I h
  exact wpAny_Compare1 (Hg ha hb I h fun v u s2 x y H2 I2 rx ry q => ho pins s2 σ H2 x y v u Q I2 rx ry q) hm
noncomputable def JQ (t : TE) : TT := fun σ H Q => t σ H fun x H' => ∃ k, x = .bl k ∧ Q k H'
theorem EG {op : CmpOp} {r : R2} (ho : nj X (compareOp op) r) (ha : PE X a ta) (hb : PE X b tb) (hm : behindInMarks op b = false) : PT X (.Compare a [op] [b] pos) (JQ (JK r ta tb)) := by
  intro pins s σ H Q I h
  refine wpAny_isTrue_Compare1 (gm (ha pins s σ H _ I h) fun v s1 ⟨x, H1, I1, r1, q1⟩ => gm (hb pins s1 σ H1 _ I1 q1) fun u s2 ⟨y, H2, I2, r2, q2⟩ =>
    gm (ho pins s2 σ H2 x y v u _ I2 r1 r2 q2) fun c s3 ⟨z, H3, I3, r3, k, e, q3⟩ => ?_) hm
  subst e
  cases r3
  exact wpAny_truthy_bool ⟨H3, I3, q3⟩
noncomputable def Hs (K : PySem.W.Frag) (x : V) (H : Hp) (k : Bool) : Prop :=
  match x with
  | .gk => k = false
  | .bl b => k = b
  | .int i => k = (i != 0)
  | .str y => y.length ≤ sizeLine ∧ k = ((y.length : Int) != 0)
  | .Jq y => y.size ≤ sizeLine ∧ k = ((y.size : Int) != 0)
  | .ref p => (∃ xs, pq K H p xs ∧ k = !xs.isEmpty) ∨ (∃ xs, qS K H p xs ∧ k = !xs.isEmpty) ∨ ∃ kvs, H p = some (.dK kvs) ∧ k = !kvs.isEmpty
  | _ => False
theorem zx {κ : Type} {kvs : List (κ × V)} {vs : List (κ × Value)} (r : KV kvs vs) : (!vs.isEmpty) = !kvs.isEmpty := by
  cases r <;> rfl
theorem tB {xs : List V} {its : List Value} (r : Vals xs its) : (!its.toArray.isEmpty) = !xs.isEmpty := by
  cases r <;> simp
theorem pA : (sizeLine : Nat) < 2 ^ 63 := by rw [sizeLine_eq]; decide
theorem Ht : MB X (fun x H Q => ∃ k, Hs X.K x H k ∧ Q k H) := by
  intro pins s σ H x v Q I rx h
  obtain ⟨k, e, q⟩ := h
  have hl := pA
  have hs : sizeLine = 16777216 := sizeLine_eq
  cases x with
  | gk =>
    cases rx
    have e' : k = false := e
    subst e'
    exact truthy_none ⟨H, I, q⟩
  | bl b =>
    cases rx
    have e' : k = b := e
    subst e'
    exact wpAny_truthy_bool ⟨H, I, q⟩
  | int i =>
    obtain ⟨t, rfl⟩ := rx
    have e' : k = (i != 0) := e
    subst e'
    exact PySem.P.truthy_int ⟨H, I, q⟩
  | str y =>
    obtain ⟨t, rfl⟩ := rx
    obtain ⟨hy, e'⟩ : y.length ≤ sizeLine ∧ k = ((y.length : Int) != 0) := e
    subst e'
    exact PySem.P.truthy_str (by omega) ⟨H, I.tok _, q⟩
  | Jq y =>
    obtain ⟨t, rfl⟩ := rx
    obtain ⟨hy, e'⟩ : y.size ≤ sizeLine ∧ k = ((y.size : Int) != 0) := e
    subst e'
    exact PySem.W.truthy_bytes (by omega) ⟨H, I.tok _, q⟩
  | ref p =>
    cases rx
    have e' : (∃ xs, pq X.K H p xs ∧ k = !xs.isEmpty) ∨ (∃ xs, qS X.K H p xs ∧ k = !xs.isEmpty) ∨ ∃ kvs, H p = some (.dK kvs) ∧ k = !kvs.isEmpty := e
    rcases e' with ⟨xs, hx, e'⟩ | ⟨xs, hx, e'⟩ | ⟨kvs, hx, e'⟩
    · subst e'
      obtain ⟨its, r, pl, hz⟩ := I.list hx
      have hlen := r.length
      exact wpAny_truthy_list pl.isList (by simp only [List.size_toArray]; omega) ⟨H, I.tok _, by rw [tB r]; exact q⟩
    · subst e'
      obtain ⟨its, r, pl, hz⟩ := I.tuple hx
      have hlen := r.length
      exact truthy_tuple pl (by simp only [List.size_toArray]; omega) ⟨H, I.tok _, by rw [tB r]; exact q⟩
    · subst e'
      obtain ⟨hz, hS, vs, r, m⟩ : kvs.length ≤ sizeLine ∧ (p == sysModules) = false ∧ ∃ vs, KV kvs vs ∧ s.heap.DictOf (wz X.prog X.w) p vs := I.hok p _ hx
      have hlen : kvs.length = vs.length := Paired.length r
      exact wpAny_truthy_dict hS m (by omega) ⟨H, I.tok _, by rw [zx r]; exact q⟩
  | _ => exact (show False from e).elim
theorem Cw (ha : PE X a ta) (he : ∀ whole, isTrue a X.env whole = (do let v ← whole; standAt a.pos; holding [v] (truthy v))) :
    PT X a (fun σ H Q => ta σ H fun x H' => ∃ k, Hs X.K x H' k ∧ Q k H') := by
  intro pins s σ H Q I h
  exact isTrue_plain (gm (ha pins s σ H _ I h) fun v s1 ⟨x, H1, I1, r1, q1⟩ => Ht pins s1 σ H1 x v Q I1 r1 q1) (he _)
theorem zy : nj X (binaryOp .Add) (fun x y H Q => ∃ i j, x = .str i ∧ y = .str j ∧ i.length + j.length ≤ sizeLine ∧ Q (.str (i ++ j)) H) := by
  intro pins s σ H x y v u Q I rx ry h
  obtain ⟨i, j, rfl, rfl, hz, q⟩ := h
  obtain ⟨t, rfl⟩ := rx
  obtain ⟨t', rfl⟩ := ry
  exact add_str (fun t' tk => ⟨.str (i ++ j), H, I.tok _, ⟨_, rfl⟩, q⟩) hz
theorem vals1 {x : V} {us : List Value} (r : Vals [x] us) : ∃ u, us = [u] ∧ RelV x u := by
  cases r with
  | cons r1 r2 => cases r2; exact ⟨_, rfl, r1⟩
theorem vals2 {x y : V} {us : List Value} (r : Vals [x, y] us) : ∃ u w', us = [u, w'] ∧ RelV x u ∧ RelV y w' := by
  cases r with
  | cons r1 r2 =>
    cases r2 with
    | cons r3 r4 => cases r4; exact ⟨_, _, rfl, r1, r3⟩
theorem Br (hc : X.calm = true) : jT X (.builtin "max") (fun xs H Q => ∃ i j, xs = [.int i, .int j] ∧ Q (.int (if j > i then j else i)) H) := by
  intro pins s σ H xs us Q I r h
  obtain ⟨i, j, rfl, q⟩ := h
  obtain ⟨u, w', rfl, ⟨t, rfl⟩, ⟨t', rfl⟩⟩ := vals2 r
  refine max_two_ints (I.ok.hd hc) fun h' tk k => ⟨_, H, I.kept k, ?_, q⟩
  by_cases hj : j > i
  · rw [if_pos hj, if_pos hj]; exact ⟨_, rfl⟩
  · rw [if_neg hj, if_neg hj]; exact ⟨_, rfl⟩
end
end L2
namespace L2
open PySem PySem.Spec PyProof.Rows
structure Qg (h : Heap) (x dx C : Addr) (mA : Str → Option Value) : Prop where
  obj : h.get? x = some (PySem.W.instObj C dx)
  ns : h.Ns1 dx mA
  ne : dx ≠ x
theorem qU {h : Heap} {dx : Addr} {mA : Str → Option Value} (n : h.Ns1 dx mA) : ∃ od, h.get? dx = some od ∧ ∀ name, PySem.W.lookIn name od = some (mA name) := by
  obtain ⟨o, es, ep, ho, hd, hk, _, hm⟩ := n
  refine ⟨o, ho, fun name => ?_⟩
  have e := hm name
  unfold nsFind findBy at e
  rw [← Array.find?_toList] at e
  unfold PySem.W.lookIn
  rw [hd]
  dsimp only
  split
  · rename_i y q
    rw [q] at e
    exact congrArg some e
  · rename_i q
    rw [q] at e
    have a : es.toList.any (·.refKey) = false := by
      rw [List.any_eq_false]
      intro y hy
      obtain ⟨z, t, hkey⟩ := hk y (Array.mem_toList_iff.mp hy)
      simp [DictEntry.refKey, hkey]
    have a' : ¬ es.toList.any (·.refKey) = true := by rw [a]; exact Bool.false_ne_true
    rw [if_neg a']
    exact congrArg some e
section
variable {prog : Program} {w : World} {A : Around} {E : Value → Shared → Prop} {s : Shared} {K : PySem.W.Frag} {x dx C f : Addr} {mA : Str → Option Value} {name : Str} {v : Value}
end
section
variable {P : Program} {w : World} {H H' : Hp} {h h' : Heap} {a C dx : Addr} {fs fs' : List (Str × V)}
end
structure Qh (K : PySem.W.Frag) (C : Addr) : Prop where
  pg : PySem.W.plainGet K C Str.empty = true
  hd : PySem.W.hasDictIn K C = true
  po : PySem.W.plainOver K C = true
  sa : PySem.W.findIn K (.ref C) "__setattr__" = some (some (.builtin "object.__setattr__"))
structure TL (K : PySem.W.Frag) (C : Addr) (f : Str) (v : V) (u : Value) : Prop where
  at_ : PySem.W.findIn K (.ref C) f = some (some u)
  rel : RelV v u
  get : PySem.W.specialIn K u "__get__" = some none
  cp : PySem.W.copiedNames.contains f = false
structure Meth (K : PySem.W.Frag) (C : Addr) (m : Str) (f : Addr) : Prop where
  at_ : PySem.W.findIn K (.ref C) m = some (some (.ref f))
  fn : PySem.W.isFn K (.ref f) = true
  kp : PySem.W.keepIn K (.ref f) = true
section
variable {X : Cx} {pins : List (Addr × Obj)} {σ : St} {H : Hp} {s : Shared} {a C dx : Addr} {fs : List (Str × V)} {f : Str} {v : V} {A : Around} {E : Value → Shared → Prop}
theorem EH {prog : Program} {w : World} {env : Env} {e : Expr} {f : Str} {pos : Pos} {s : Shared} {Q : Value → Shared → Prop} (hb : attributeBase e f env (eval e env) = eval e env)
    (h : wpAny (model prog w) A (eval e env) (fun o s₁ => wpAny (model prog w) A (getAttr o f true) Q E s₁) E s) : wpAny (model prog w) A (eval (.Attribute e f pos) env) Q E s :=
  Attribute_any_ h (by rw [arm_eval_Attribute, hb])
end
section
variable {X : Cx} {o e value : Expr} {f : Str} {pos pos' tpos : Pos} {ta tv : TE}
end
section
variable {X : Cx} {pins : List (Addr × Obj)} {σ : St} {H : Hp} {s : Shared} {A : Around} {E : Value → Shared → Prop} {Q : Value → Shared → Prop} {c : Value} {b : Bool}
inductive tD (K : PySem.W.Frag) (H : Hp) : V → Value → Prop where
  | gk : tD K H .gk (.type "NoneType")
  | bl (x : Bool) : tD K H (.bl x) (.type "bool")
  | int (i : Int) : tD K H (.int i) (.type "int")
  | str (x : Str) : tD K H (.str x) (.type "str")
  | Jr (x : UInt64) : tD K H (.Jr x) (.type "float")
  | lst {a : Addr} {xs : List V} (e : H a = some (.lst xs)) : tD K H (.ref a) (.type "list")
  | ly {a : Addr} {o : Obj} {xs : List V} (e : H a = some (.ly o (.lst xs))) : tD K H (.ref a) (.type "list")
  | tup {a : Addr} {xs : List V} (e : H a = some (.tup xs)) : tD K H (.ref a) (.type "tuple")
  | dK {a : Addr} {kvs : List (Key × V)} (e : H a = some (.dK kvs)) : tD K H (.ref a) (.type "dict")
  | dT {a : Addr} {kvs : List (List Key × V)} (e : H a = some (.dT kvs)) : tD K H (.ref a) (.type "dict")
  | ins {a C dx : Addr} {fs : List (Str × V)} (e : H a = some (.ins C dx fs)) (cl : Qh K C) (ha : PySem.W.findIn K (.ref C) "__class__" = some (some (.builtin "object.__class__")))
      (hn : PySem.W.specialIn K (.builtin "object.__class__") "__get__" = some (some (.builtin "getset_descriptor.__get__"))) (htk : PySem.W.takesIn K (.builtin "object.__class__") = some true)
      (hm : PySem.W.mroIn K C (.type "object") = some true) : tD K H (.ref a) (.ref C)
end
end L2
namespace L2
open PySem PySem.Spec PyProof.Rows
structure iA (k : Nat) (A : Around) : Prop where
  hd : A.handled = none
  dp : A.depth + 3 * k + 5 < recursionLimit
  un : A.units + 16 * k + 600 < cLine
theorem iA.mono {j k : Nat} {A : Around} (r : iA k A) (h : j ≤ k) : iA j A := ⟨r.hd, by have := r.dp; omega, by have := r.un; omega⟩
theorem iA.deeper {k : Nat} {A : Around} (r : iA (k + 1) A) (env : Env) : iA k (A.deeper env) :=
  ⟨r.hd, by have := r.dp; show A.depth + 1 + 3 * k + 5 < _; omega, by have := r.un; show A.units + 3 + 16 * k + 600 < _; omega⟩
theorem iA.in1 {k : Nat} {A : Around} (r : iA (k + 1) A) : iA k A.in1 :=
  ⟨r.hd, by have := r.dp; show A.depth + 3 * k + 5 < _; omega, by have := r.un; show A.units + 1 + 16 * k + 600 < _; omega⟩
theorem zz {A : Around} {C : Addr} {us : List Value} {kw : List (Str × Value)} : (A.under (.builtin "type.__call__" ⟨.ref C :: us, kw⟩)).depth = A.depth + 1 := by
  first | rfl | simp [Around.under, Code.weight, Code.isCreation, Code.isGuard, Code.isCaller, Code.frames, Code.isFrame, guardIds]
theorem zA {A : Around} {C : Addr} {us : List Value} {kw : List (Str × Value)} : (A.under (.builtin "type.__call__" ⟨.ref C :: us, kw⟩)).units = A.units + 1 := by
  first | rfl | simp [Around.under, Code.cUnits, Code.frames, Code.isFrame]
theorem iA.make {k : Nat} {A : Around} (r : iA (k + 1) A) (C : Addr) (us : List Value) (kw : List (Str × Value)) : iA k (A.under (.builtin "type.__call__" ⟨.ref C :: us, kw⟩)) :=
  ⟨r.hd, by have := r.dp; rw [zz]; omega, by have := r.un; rw [zA]; omega⟩
theorem iA.depth {k : Nat} {A : Around} (r : iA k A) : A.depth < recursionLimit := by have := r.dp; omega
theorem iA.units {k : Nat} {A : Around} (r : iA k A) : A.units + 64 < cLine := by have := r.un; omega
noncomputable def ME : TA := fun _ H Q => Q [] H
noncomputable def JR (ta : TE) (tr : TA) : TA := fun σ H Q => ta σ H fun x H1 => tr σ H1 fun xs H2 => Q (x :: xs) H2
section
variable {X : Cx} {e : Expr} {es : List Expr} {te : TE} {t : TA} {pos : Pos}
theorem Hu : PA X [] ME := fun _ _ _ _ H Q I h => Calls.spliced_nil ⟨[], H, I, .nil, h⟩
theorem EI (ha : PE X e te) (hr : PA X es t) (hs : starEach (e :: es) X.env = (false, eval e X.env) :: starEach es X.env := by rfl) : PA X (e :: es) (JR te t) := by
  intro pos pins s σ H Q I h
  rw [hs]
  show wpAny _ _ (spliced ((false, eval e X.env) :: backTo pos (starEach es X.env))) _ _ s
  refine Calls.spliced_cons (gm (ha pins s σ H _ I h) fun u s1 ⟨x, H1, I1, r1, q1⟩ => ?_)
  exact gm (hr pos pins s1 σ H1 _ I1 q1) fun us s2 ⟨xs, H2, I2, r2, q2⟩ => ⟨x :: xs, H2, I2, .cons r1 r2, q2⟩
noncomputable def MF (t : TA) : TE := fun σ H Q => t σ H fun xs H1 => xs.length ≤ sizeLine ∧ ∀ p, H1 p = none → Q (.ref p) (upd H1 p (.tup xs))
noncomputable def MG (t : TA) : TE := fun σ H Q => t σ H fun xs H1 => xs.length ≤ sizeLine ∧ ∀ p, H1 p = none → Q (.ref p) (upd H1 p (.lst xs))
theorem Hv {x1} (h : PA X es t) : PE X (.Tuple es x1 pos) (MF t) := by
  intro pins s σ H Q I hq
  refine wpAny_Tuple_spliced (gm (h pos pins s σ H _ I hq) fun us s1 ⟨xs, H1, I1, r, z, q⟩ => ⟨by rw [← r.length]; exact z, ?_⟩)
  have hf : H1 s1.heap.objs.size = none := I1.hok.fresh (Nat.le_refl _)
  refine ⟨.ref s1.heap.objs.size, upd H1 s1.heap.objs.size (.tup xs), I1.laid (t' := s1.toks) (fun b u e => Heap.get?_push_of_some _ e) (Nat.le_refl _) ?_, rfl, q _ hf⟩
  exact ⟨z, us, r, ⟨_, Heap.get?_push_size _ rfl, rfl, _, rfl⟩⟩
theorem Hw (h : PA X es t) : PE X (.List es pos) (MG t) := by
  intro pins s σ H Q I hq
  refine wpAny_List_spliced (gm (h pos pins s σ H _ I hq) fun us s1 ⟨xs, H1, I1, r, z, q⟩ => ⟨by rw [← r.length]; exact z, ?_⟩)
  have hf : H1 s1.heap.objs.size = none := I1.hok.fresh (Nat.le_refl _)
  refine ⟨.ref s1.heap.objs.size, upd H1 s1.heap.objs.size (.lst xs), I1.laid (t' := s1.toks) (fun b u e => Heap.get?_push_of_some _ e) (Nat.le_refl _) ?_, rfl, q _ hf⟩
  exact ⟨z, us, 0, r, Heap.get?_push_size _ rfl⟩
end
noncomputable abbrev Sp := List V → Hp → VK → XK → Prop
noncomputable abbrev zB := List Env → Hp → Shared → XK → Value → Shared → Prop
structure zC (P : Program) (w : World) (K : PySem.W.Frag) (mg : Str → Option Value) (base : Heap) (A : Around) (outer : List Env) (s : Shared) (H : Hp) : Prop where
  frames : A.frames = some outer
  mod : Mod K mg base
  bs : ∀ b o, base.get? b = some o → s.heap.get? b = some o ∧ H b = none
  Bl : base.objs.size ≤ s.heap.objs.size
  nc : s.heap.FunFrames base outer
  Cg : ∀ b ∈ frs outer, H b = none
  hok : m7 P w H s.heap
  bare : AllBare s.gens
noncomputable def CE (outer : List Env) (P : Program) (w : World) (H : Hp) (s : Shared) (Q : VK) (u : Value) (s' : Shared) : Prop :=
  ∃ v H', s'.os = s.os ∧ AllBare s'.gens ∧ Un (frs outer) [] H H' s.heap s'.heap ∧ m7 P w H' s'.heap ∧ RelV v u ∧ Q v H'
noncomputable def CR (CX : zB) (outer : List Env) (P : Program) (w : World) (H : Hp) (s : Shared) (Q : VK) (E : XK) (r : Result) (s' : Shared) : Prop :=
  match r with
  | .ok (.ret u) => CE outer P w H s Q u s'
  | .ok _ => False
  | .error e => CX outer H s E e s'
structure cV (P : Program) (w : World) (K : PySem.W.Frag) (mg : Str → Option Value) (base : Heap) (CX : zB) (k : Nat) (f : Addr) (fd : FuncData) (ps : List Str) (sp : Sp) : Prop where
  len : ∀ vs H Q E, sp vs H Q E → vs.length = ps.length
  run : ∀ (A : Around) (outer : List Env) (s : Shared) (H : Hp) (args : Args) (us : List Value) (vs : List V) (Q : VK) (E : XK), iA k A → zC P w K mg base A outer s H → BindsTo s fd args (ps.zip us) → Vals vs us → sp vs H Q E →
    codeAny (model P w) A (.call (.ref f) args) (CR CX outer P w H s Q E) s
theorem cV.imp {P : Program} {w : World} {K : PySem.W.Frag} {mg : Str → Option Value} {base : Heap} {CX : zB} {k : Nat} {f : Addr} {fd : FuncData} {ps : List Str} {sp Om : Sp} (F : cV P w K mg base CX k f fd ps sp)
    (h : ∀ vs H Q E, Om vs H Q E → sp vs H Q E) : cV P w K mg base CX k f fd ps Om :=
  ⟨fun vs H Q E q => F.len vs H Q E (h _ _ _ _ q), fun A outer s H args us vs Q E hr he hb hv hs => F.run A outer s H args us vs Q E hr he hb hv (h _ _ _ _ hs)⟩
theorem zC.in1 {P : Program} {w : World} {K : PySem.W.Frag} {mg : Str → Option Value} {base : Heap} {A : Around} {outer : List Env} {s : Shared} {H : Hp} (e : zC P w K mg base A outer s H) :
    zC P w K mg base A.in1 outer s H := ⟨e.frames, e.mod, e.bs, e.Bl, e.nc, e.Cg, e.hok, e.bare⟩
section
variable {X : Cx} {pins : List (Addr × Obj)} {σ : St} {H : Hp} {s s' : Shared}
theorem Inv.i0 (I : Inv X pins σ H s) : zC X.prog X.w X.K X.mg X.base X.A X.stack s H :=
  ⟨I.ok.frames, I.ok.mod, I.bs, Nat.le_trans I.ok.Bl I.sz, I.stack, I.pT, I.hok, I.bare⟩
theorem Inv.after {Q : VK} {u : Value} (I : Inv X pins σ H s) (h : CE X.stack X.prog X.w H s Q u s') : EP X pins σ Q u s' := by
  obtain ⟨v, H', os, bare, un, hok, r, q⟩ := h
  obtain ⟨hh, g, d, t, os'⟩ := s'
  obtain rfl : os' = s.os := os
  exact ⟨v, H', I.call (h' := hh) (g' := g) (d' := d) (t' := t) (ch := []) un hok bare (fun b z => absurd z (by simp)), r, q⟩
end
noncomputable def Binds (K : PySem.W.Frag) (fd : FuncData) (ps : List Str) (ds : List Value) : Prop :=
  ∀ (s : Shared) (us : List Value), K.In s.heap → (us ++ ds).length = ps.length → BindsTo s fd ⟨us, []⟩ (ps.zip (us ++ ds))
theorem Binds.all {K : PySem.W.Frag} {fd : FuncData} {ps : List Str} (h : ∀ us : List Value, us.length = ps.length → bindArgs fd ⟨us, []⟩ = pure (ps.zip us)) : Binds K fd ps [] := fun s us _ hl => by
  rw [List.append_nil] at hl ⊢
  exact .of_eq (h us hl)
section
variable {X : Cx} {CX : zB} {k : Nat} {f C : Addr} {fd : FuncData} {ps : List Str} {sp : Sp} {TM : List V} {ds : List Value} {E : XK} {x m : Str} {p pos apos : Pos} {e o : Expr} {es : List Expr} {ta : TE} {t : TA}
structure Mk (K : PySem.W.Frag) (C f : Addr) : Prop where
  makes : PySem.W.makesIn K C = true
  init : PySem.W.findIn K (.ref C) "__init__" = some (some (.ref f))
  fn : PySem.W.isFn K (.ref f) = true
  kp : PySem.W.keepIn K (.ref C) = true
end
section
variable {X : Cx} {CX : zB} {k : Nat} {f C : Addr} {fd : FuncData} {ps ks : List Str} {sp : Sp} {E : XK} {x m : Str} {p pos apos kpos : Pos} {e o : Expr} {es : List Expr} {kws : List Keyword} {te ta : TE} {t tk : TA} {nm : Option Str}
structure MH (K : PySem.W.Frag) (fd : FuncData) (ps ks : List Str) (g : List Value → List Value → List Value) (gV : List V → List V → List V) : Prop where
  to : ∀ (s : Shared) (us ws : List Value), K.In s.heap → (g us ws).length = ps.length → BindsTo s fd ⟨us, ks.zip ws⟩ (ps.zip (g us ws))
  rel : ∀ {vs : List V} {us : List Value} {zs : List V} {ws : List Value}, Vals vs us → Vals zs ws → Vals (gV vs zs) (g us ws)
variable {g : List Value → List Value → List Value} {gV : List V → List V → List V}
end
structure dh (N P : List Str) (sc : Scope) : Prop where
  kind : sc.kind = .function
  co : sc.isCoroutine = false
  gen : sc.isGenerator = false
  nd : N.Nodup
  pre : N.take P.length = P
  par : ∀ x ∈ P, sc.names.lookup x = some .local ∨ sc.names.lookup x = some .cell
  Hx : ∀ y ∈ sc.names, y.2 ≠ .free
theorem vB {kindOf : Str → Option NameKind} {x : Str} : ∀ {binds : List (Str × Value)} {m : Str → Option Value}, (∀ v, (x, v) ∉ binds) → bindL kindOf binds m x = m x
  | [], _, _ => rfl
  | (n, v) :: r, m, h => by
    unfold bindL
    rw [vB fun w hw => h w (List.mem_cons_of_mem _ hw)]
    split
    · have : x ≠ n := by rintro rfl; exact h v List.mem_cons_self
      simp [this]
    · rfl
theorem vC {kindOf : Str → Option NameKind} {x : Str} : ∀ {binds : List (Str × Value)} {m : Str → Option Value}, (∀ v, (x, v) ∉ binds) → bindC kindOf binds m x = m x
  | [], _, _ => rfl
  | (n, v) :: r, m, h => by
    unfold bindC
    rw [vC fun w hw => h w (List.mem_cons_of_mem _ hw)]
    split
    · rfl
    · have : x ≠ n := by rintro rfl; exact h v List.mem_cons_self
      simp [this]
theorem vD {kindOf : Str → Option NameKind} {x : Str} {v : Value} : ∀ {P : List Str} {vs : List Value} {i : Nat} {m : Str → Option Value}, P.Nodup → P[i]? = some x → vs[i]? = some v → kindOf x = some .local →
    bindL kindOf (P.zip vs) m x = some v
  | [], _, _, _, _, h, _, _ => by simp at h
  | _ :: _, [], _, _, _, _, h, _ => by simp at h
  | p :: P, w :: vs, 0, m, nd, h1, h2, hk => by
    simp at h1 h2; subst h1; subst h2
    show bindL kindOf ((p, w) :: P.zip vs) m p = _
    unfold bindL
    rw [vB fun v hv => (List.nodup_cons.mp nd).1 (List.of_mem_zip hv).1, if_pos hk]
    simp
  | p :: P, w :: vs, i + 1, m, nd, h1, h2, hk => by
    show bindL kindOf ((p, w) :: P.zip vs) m x = _
    unfold bindL
    exact vD (i := i) (List.nodup_cons.mp nd).2 (by simpa using h1) (by simpa using h2) hk
theorem vE {kindOf : Str → Option NameKind} {x : Str} {v : Value} : ∀ {P : List Str} {vs : List Value} {i : Nat} {m : Str → Option Value}, P.Nodup → P[i]? = some x → vs[i]? = some v → kindOf x ≠ some .local →
    bindC kindOf (P.zip vs) m x = some v
  | [], _, _, _, _, h, _, _ => by simp at h
  | _ :: _, [], _, _, _, _, h, _ => by simp at h
  | p :: P, w :: vs, 0, m, nd, h1, h2, hk => by
    simp at h1 h2; subst h1; subst h2
    show bindC kindOf ((p, w) :: P.zip vs) m p = _
    unfold bindC
    rw [vC fun v hv => (List.nodup_cons.mp nd).1 (List.of_mem_zip hv).1, if_neg hk]
    simp
  | p :: P, w :: vs, i + 1, m, nd, h1, h2, hk => by
    show bindC kindOf ((p, w) :: P.zip vs) m x = _
    unfold bindC
    exact vE (i := i) (List.nodup_cons.mp nd).2 (by simpa using h1) (by simpa using h2) hk
noncomputable def start (N : List Str) (vs : List V) : St := vs.map some ++ List.replicate (N.length - vs.length) none
noncomputable def lT (CX : zB) (P : Program) (w : World) (K : PySem.W.Frag) (mg : Str → Option Value) (base : Heap) (N : List Str) (qual : Str) (scope : Scope) (f : Addr) (cd : Value) (A : Around) (outer : List Env) (s : Shared) (H : Hp) (E : XK) : Cx where
  prog := P
  w := w
  K := K
  mg := mg
  base := base
  A := A.deeper (envOfC qual scope s.heap.objs.size f cd)
  N := N
  s₀ := s
  H₀ := H
  env := envOfC qual scope s.heap.objs.size f cd
  outer := outer
  stack := envOfC qual scope s.heap.objs.size f cd :: outer
  ex := []
  calm := true
  fn := fun _ => true
  pn := []
  xe := fun e s' => wpAny (model P w) (A.deeper (envOfC qual scope s.heap.objs.size f cd)) (leaving (envOfC qual scope s.heap.objs.size f cd) e) (fun _ s'' => CX outer H s E e s'') (fun e' s'' => CX outer H s E e' s'') s'
theorem xR {sc : Scope} {n : Nat} {x : Str} (h : sc.names.lookup x = some .cell) : ∃ c, (cellsFrom n sc.names []).lookup x = some c := by
  have q := PySem.W.cellsFrom_some sc.names n [] (.inl h)
  exact Option.isSome_iff_exists.mp q
theorem Bs {CX : zB} {P : Program} {w : World} {K : PySem.W.Frag} {mg : Str → Option Value} {base : Heap} {N ps : List Str} {qual : Str} {scope : Scope} {f : Addr} {cd : Value} {A : Around} {outer : List Env} {s s1 : Shared} {H : Hp} {E : XK} {us : List Value} {vs : List V}
    (S : dh N ps scope) (hd : A.handled = none) (e0 : zC P w K mg base A outer s H) (hl : vs.length = ps.length) (r : Vals vs us)
    (x : InCallC s s.heap.objs.size (bindL (envOfC qual scope s.heap.objs.size f cd).kindOf (ps.zip us) fun _ => none) (cellsFrom (s.heap.objs.size + 1) scope.names []) (bindC (envOfC qual scope s.heap.objs.size f cd).kindOf (ps.zip us) fun _ => none) s1) :
    Inv (lT CX P w K mg base N qual scope f cd A outer s H E) [] (start N vs) H s1 := by
  have hpl : ps.length ≤ N.length := by have := congrArg List.length S.pre; rw [List.length_take] at this; omega
  obtain ⟨h1, tk, rfl, hk⟩ := x.done
  have JS : ∀ b : Addr, b ∉ (lT CX P w K mg base N qual scope f cd A outer s H E).ex := fun b z => absurd (show b ∈ ([] : List Addr) from z) (by simp)
  refine ⟨⟨e0.mod, S.kind, rfl, rfl, Nat.le_refl _, fun y z c h1 h2 => ?_, fun y hy => ?_, fun y c _ h => ?_, fun _ => hd, Around.frames_deeper e0.frames, .inr ⟨rfl, rfl⟩, fun b z => absurd z (JS b), e0.bs, e0.Bl, fun b _ _ => JS b, fun b z => absurd z (JS b), e0.nc, e0.Cg⟩,
    rfl, e0.bare, Un.kept hk, ⟨_, x.toInCall.ns, fun i y v h1 h2 h3 => ?_⟩, fun y c h => ⟨_, x.cell y c h⟩, e0.hok.fresh (Nat.le_refl _), fun y c h => ?_, fun p hp => absurd (show p ∈ ([] : List (Addr × Obj)) from hp) (by simp), e0.hok.kept hk, ?_⟩
  · exact name_of_addr x.apart (PySem.mem_of_lookup h1) (PySem.mem_of_lookup h2)
  · have hy : scope.names.lookup y = some .cell ∨ scope.names.lookup y = some .free := hy
    rcases hy with hy | hy
    · exact xR hy
    · exact absurd rfl (S.Hx _ (PySem.mem_of_lookup hy))
  · exact Nat.le_of_lt (x.above y c (PySem.mem_of_lookup h))
  · have hi : i < vs.length := by
      unfold start at h2
      by_cases hi : i < vs.length
      · exact hi
      · rw [List.getElem?_append_right (by simpa using hi)] at h2
        rw [List.getElem?_replicate] at h2
        split at h2 <;> cases h2
    have ha : vs[i]? = some v := by
      unfold start at h2
      rw [List.getElem?_append_left (by simpa using hi), List.getElem?_map] at h2
      cases e : vs[i]? with
      | none => rw [e] at h2; cases h2
      | some a => rw [e] at h2; cases h2; rfl
    obtain ⟨u, hu, rv⟩ := r.get ha
    have hp : ps[i]? = some y := by
      rw [← S.pre, List.getElem?_take_of_lt (by omega)]; exact h1
    have Oo : ps.Nodup := by rw [← S.pre]; exact S.nd.sublist (List.take_sublist _ _)
    refine ⟨u, rv, ?_⟩
    rcases S.par y (List.mem_of_getElem? hp) with k | k
    · exact .inl ⟨k, vD Oo hp hu k⟩
    · obtain ⟨c, e⟩ := xR (n := s.heap.objs.size + 1) k
      refine .inr ⟨.inl k, c, e, ?_⟩
      have q := x.cell y c e
      rw [vE Oo hp hu (by show scope.names.lookup y ≠ _; rw [k]; decide)] at q
      exact q
  · exact e0.hok.fresh (Nat.le_of_lt (x.above y c (PySem.mem_of_lookup h)))
  · unfold start
    show _ = N.length
    rw [List.length_append, List.length_map, List.length_replicate]
    omega
theorem FY {CX : zB} {P : Program} {w : World} {K : PySem.W.Frag} {mg : Str → Option Value} {base : Heap} {k : Nat} {f : Addr} {name qual : Str} {params : Arguments} {body : List Stmt} {scope : Scope} {dV kV doc pm cdv ct oc : Value} {an od : Option Addr}
    {osl : Array (Option Value)} {N ps : List Str} {sp : Sp} (lk : K.lookup f = some ⟨oc, od, .func (PySem.W.fnOf name qual params body scope dV kV doc pm an cdv ct), osl⟩) (hcd : PySem.W.codeIn K cdv qual = true) (S : dh N ps scope)
    (len : ∀ vs H Q E, sp vs H Q E → vs.length = ps.length)
    (hbody : ∀ (A : Around) (outer : List Env) (s : Shared) (H : Hp) (vs : List V) (Q : VK) (E : XK), iA k (A.deeper (envOfC qual scope s.heap.objs.size f cdv)) → sp vs H Q E →
      ∃ t, xJ (lT CX P w K mg base N qual scope f cdv A outer s H E) body t ∧ t { nx := fun _ H' => Q .gk H', rt := Q } (start N vs) H) :
    cV P w K mg base CX (k + 1) f (PySem.W.fnOf name qual params body scope dV kV doc pm an cdv ct) ps sp := by
  refine ⟨len, fun A outer s H args us vs Q E hr e0 hb r Em => ?_⟩
  have hl := len _ _ _ _ Em
  have KX : K.In s.heap := e0.mod.Mm.keeps fun b o e => (e0.bs b o e).1
  have lim : s.heap.NoLimit := e0.mod.nolimit.keeps fun b o e => (e0.bs b o e).1
  have hkind : ∀ y ∈ ps.zip us, scope.names.lookup y.1 = some .local ∨ (scope.names.lookup y.1 = some .cell ∧ ((cellsFrom (s.heap.objs.size + 1) scope.names []).lookup y.1).isSome = true) := fun ⟨n, v⟩ hy => by
    rcases S.par n (List.of_mem_zip hy).1 with q | q
    · exact .inl q
    · exact .inr ⟨q, PySem.W.cellsFrom_some _ _ _ (.inl q)⟩
  refine codeAny_call_function hr.depth (KX _ _ lk) rfl S.co S.gen rfl (PySem.W.codeRec_of KX hcd) (hb _ _ _ _ ?_)
  refine wpAny_newFunctionEnv_cells S.kind hkind fun env he s1 x => ?_
  subst he
  refine ⟨lim.keeps x.toInCall.keep, codeAny_func ?_⟩
  obtain ⟨t, ht, hq⟩ := hbody A outer s H vs Q E (hr.deeper _) Em
  have I : Inv (lT CX P w K mg base N qual scope f cdv A outer s H E) [] (start N vs) H s1 := Bs S hr.hd e0 hl r x
  refine wpAny_mono (ht [] s1 (start N vs) H _ I hq) (fun fl s' hs => ?_) fun e s' hs => hs
  have fin : ∀ {σ' : St} {H' : Hp} {v : V} {u : Value}, Inv (lT CX P w K mg base N qual scope f cdv A outer s H E) [] σ' H' s' → RelV v u → Q v H' → CE outer P w H s Q u s' :=
    fun {σ' H' v u} J rv q => ⟨v, H', J.os, J.bare, J.base, J.hok, rv, q⟩
  cases fl with
  | ret u =>
    obtain ⟨v, σ', H', J, rv, q⟩ := hs
    exact fin J rv q
  | next =>
    obtain ⟨σ', H', J, q⟩ := hs
    exact fin (v := V.gk) (u := Value.none) J rfl q
  | brk =>
    obtain ⟨_, _, _, q⟩ := hs
    exact False.elim q
  | cont =>
    obtain ⟨_, _, _, q⟩ := hs
    exact False.elim q
end L2
namespace L2
open PySem PySem.Spec PyProof.Rows
section
variable {X : Cx} {x : Str} {p pos : Pos} {e : Expr} {es : List Expr} {t : TA} {id T : String} {r : List V → Hp → VK → Prop}
noncomputable def Oq (r : List V → Hp → VK → Prop) (t : TA) : TE := fun σ H Q => t σ H fun vs H1 => r vs H1 Q
theorem Cy (hc : jT X (.builtin id) r) (hg : Gl X x) (hm : X.mg x = none) (hv : bootBuiltins x = some (.builtin id)) (ha : PA X (e :: es) t) (hn : x ≠ "__name__" := by decide) (hdb : (x == ("__debug__" : Str)) = false := by decide)
    (he : starEach (e :: es) X.env = (false, eval e X.env) :: starEach es X.env := by rfl) (hpl : (backTo pos (starEach es X.env)).any (·.1) = false := by rfl) : PE X (.Call (.Name x p) (e :: es) [] pos) (Oq r t) := by
  intro pins s σ H Q I h
  refine wpAny_Call_Name_kw (nh I hg hm hv ?_ hn hdb)
  exact PyProof.Rows.callWith_builtin1 (gm (ha pos pins s σ H _ I h) fun us s1 ⟨vs, H1, I1, r1, q1⟩ => hc pins s1 σ H1 vs us Q I1 r1 q1) he hpl
theorem Bt (hc : jT X (.type T) r) (hg : Gl X x) (hm : X.mg x = none) (hv : bootBuiltins x = some (.type T)) (ha : PA X (e :: es) t) (hn : x ≠ "__name__" := by decide) (hdb : (x == ("__debug__" : Str)) = false := by decide)
    (he : starEach (e :: es) X.env = (false, eval e X.env) :: starEach es X.env := by rfl) (hpl : (backTo pos (starEach es X.env)).any (·.1) = false := by rfl) : PE X (.Call (.Name x p) (e :: es) [] pos) (Oq r t) := by
  intro pins s σ H Q I h
  refine wpAny_Call_Name_kw (nh I hg hm hv ?_ hn hdb)
  exact PyProof.Rows.callWith_type1 (gm (ha pos pins s σ H _ I h) fun us s1 ⟨vs, H1, I1, r1, q1⟩ => hc pins s1 σ H1 vs us Q I1 r1 q1) he hpl
end
end L2
namespace HT
open PySem PyProof.Rows
section
open PySem.SeqAt
open PySem.AutoSeq1 (wpAny_loadPart')
open PySem.MeetsSeq PySem.MeetsSeq2 PySem.MeetsSeq3
end
section
variable {prog : Program} {w : World} {A : Around} {E : Value → Shared → Prop} {s : Shared}
theorem EJ {t b : Addr} {vs ws : List Value} {Q : Value → Shared → Prop} (ht : IsTup s.heap t vs.toArray) (hb : IsTup s.heap b ws.toArray) (hv : vs ≠ [])
    (h1 : ws = [] → Q (.ref t) s) (h2 : ws ≠ [] → Q (.ref s.heap.objs.size) { s with heap := s.heap.push { cls := .type "tuple", data := .seq (vs ++ ws).toArray } })
    (hsz : vs.length + ws.length ≤ sizeLine) : wpAny (model prog w) A (binaryOp .Add (.ref t) (.ref b)) Q E s := by
  obtain ⟨⟨cls, dd, data, sl⟩, ho, hc, n, hd⟩ := id ht
  obtain ⟨⟨JT, dd2, data2, sl2⟩, ho2, hc2, n2, hd2⟩ := id hb
  simp only at hc hd hc2 hd2
  subst hc hd hc2 hd2
  have e : vs.toArray ++ ws.toArray = (vs ++ ws).toArray := by simp
  by_cases hw : ws = []
  · exact concat_meets ⟨_, ho, rfl⟩ ⟨_, ho2, rfl⟩ noFill_tuple_add seq_tuple_add PySem.F.slot_tuple_add PySem.F.entry_tuple_add (PySem.F.args_tuple_add_2 _ _)
      (tuple_addW1 t b vs.toArray ws.toArray n n2 dd dd2 sl sl2 (by simpa using hv) (by simp [hw])) ⟨ho, ho2, h1 hw⟩
  · refine concat_meets ⟨_, ho, rfl⟩ ⟨_, ho2, rfl⟩ noFill_tuple_add seq_tuple_add PySem.F.slot_tuple_add PySem.F.entry_tuple_add (PySem.F.args_tuple_add_2 _ _)
      (tuple_addW2 t b vs.toArray ws.toArray n n2 dd dd2 sl sl2 (by simpa using hv) (by simpa using hw) (by rw [List.size_toArray, List.size_toArray]; exact hsz)) ⟨ho, ho2, ?_⟩
    rw [e]
    exact h2 hw
noncomputable def fY (n d : Nat) : Option Int → Nat
  | none => d
  | some v => if v < 0 then (v + (n : Int)).toNat else min v.toNat n
theorem xS (n d : Nat) : fY n d none = d := rfl
theorem Au (n d k : Nat) : fY n d (some (k : Int)) = min k n := by
  show (if (k : Int) < 0 then ((k : Int) + (n : Int)).toNat else min (k : Int).toNat n) = min k n
  rw [if_neg (by omega), Int.toNat_natCast]
theorem Hy (n d : Nat) (hd : d ≤ n) (o : Option Int) : fY n d o ≤ n := by
  cases o with
  | none => exact hd
  | some v =>
    show (if v < 0 then (v + (n : Int)).toNat else min v.toNat n) ≤ n
    by_cases hv : v < 0
    · rw [if_pos hv]; omega
    · rw [if_neg hv]; exact Nat.min_le_right _ _
theorem Av (v : Int) (n d : Nat) : (if v < 0 then max (v + (n : Int)) 0 else min v (n : Int)) = ((fY n d (some v) : Nat) : Int) := by
  show (if v < 0 then max (v + (n : Int)) 0 else min v (n : Int)) = (((if v < 0 then (v + (n : Int)).toNat else min v.toNat n) : Nat) : Int)
  by_cases hv : v < 0
  · simp only [if_pos hv]; omega
  · simp only [if_neg hv]; omega
theorem zD (lo hi : Option Int) (n : Nat) : Builtin.Slice.sliceAdjust lo hi 1 (n : Int) = (((fY n 0 lo : Nat) : Int), ((fY n n hi : Nat) : Int)) := by
  have h1 : ¬ ((1 : Int) < 0) := by omega
  unfold Builtin.Slice.sliceAdjust
  simp only [h1, if_false]
  refine Prod.ext ?_ ?_
  · cases lo with
    | none => rfl
    | some v => exact Av v n 0
  · cases hi with
    | none => rfl
    | some v => exact Av v n n
theorem zE (i j : Nat) : Builtin.Slice.slicePlaces (i : Int) (j : Int) 1 = j - i := by
  unfold Builtin.Slice.slicePlaces
  have h1 : (1 : Int) > 0 := by omega
  simp only [h1, if_true, Int.ediv_one]
  split <;> omega
theorem tE {v : Value} {o : Option Int} {Q : Option Int → Shared → Prop} (p : IsPart v o) (h : Q o s) : wpAny (model prog w) A (Builtin.Slice.slicePartIndex v) Q E s := by
  cases p with
  | none => exact slicePart_none h
  | int i t => exact slicePart_int h
theorem qV {sl : Addr} {vl vu : Value} {lo hi : Option Int} {n : Nat} {Q : Int × Int × Nat → Shared → Prop} (hs : s.heap.IsSliceOf sl vl vu .none) (pl : IsPart vl lo) (pu : IsPart vu hi)
    (h : Q (((fY n 0 lo : Nat) : Int), 1, fY n n hi - fY n 0 lo) s) : wpAny (model prog w) A (Builtin.Slice.sliceApplied (.ref sl) (pure (n : Int))) Q E s := by
  obtain ⟨os, hos, hcs, hds⟩ := id hs
  unfold Builtin.Slice.sliceApplied Builtin.Slice.sliceFields
  refine wpAny_bind (wpAny_bind (wpAny_field hos hds (x := vl) rfl (wpAny_bind (wpAny_field hos hds (x := vu) rfl (wpAny_bind (wpAny_field hos hds (x := .none) rfl (wpAny_pure ?_)))))))
  refine wpAny_bind (slicePart_none ?_)
  show wpAny _ _ (if ((1 : Int) == 0) = true then _ else _) _ _ s
  rw [if_neg (by decide)]
  refine wpAny_bind (tE pl (wpAny_bind (tE pu (wpAny_bind (wpAny_pure ?_)))))
  show wpAny _ _ (match Builtin.Slice.sliceAdjust lo hi 1 (n : Int) with | (lo, hi) => pure (lo, (1 : Int), Builtin.Slice.slicePlaces lo hi 1)) _ _ s
  rw [zD lo hi n]
  show wpAny _ _ (pure (((fY n 0 lo : Nat) : Int), (1 : Int), Builtin.Slice.slicePlaces ((fY n 0 lo : Nat) : Int) ((fY n n hi : Nat) : Int) 1)) _ _ s
  rw [zE]
  exact wpAny_pure h
theorem Cz (xs : Array Value) (i k : Nat) : ((List.range k).filterMap fun (m : Nat) => xs[((i : Int) + (m : Int) * 1).toNat]?).toArray = ((xs.toList.drop i).take k).toArray := by
  have e : (fun (m : Nat) => xs[((i : Int) + (m : Int) * 1).toNat]?) = fun m => xs[i + m]? := by
    funext m
    have : ((i : Int) + (m : Int) * 1).toNat = i + m := by omega
    rw [this]
  rw [e]
  have := pick_run xs i k
  rw [List.filterMap_map] at this
  have e2 : ((fun x => xs[x]?) ∘ fun x => i + x) = fun m => xs[i + m]? := rfl
  rw [e2] at this
  rw [this]
theorem pW {t sl : Addr} {items : Array Value} {vl vu : Value} {lo hi : Option Int} {Q : Value → Shared → Prop} (ht : IsTup s.heap t items) (hs : s.heap.IsSliceOf sl vl vu .none) (pl : IsPart vl lo) (pu : IsPart vu hi)
    (hw : ¬ (fY items.size 0 lo = 0 ∧ fY items.size items.size hi = items.size))
    (h : Q (.ref s.heap.objs.size) { s with heap := s.heap.push { cls := .type "tuple", data := .seq ((items.toList.drop (fY items.size 0 lo)).take (fY items.size items.size hi - fY items.size 0 lo)).toArray } })
    (hsz : items.size ≤ sizeLine) : wpAny (model prog w) A (getItem (.ref t) (.ref sl)) Q E s := by
  have Aw : sizeOk (.seq ((items.toList.drop (fY items.size 0 lo)).take (fY items.size items.size hi - fY items.size 0 lo)).toArray) := by
    show ((items.toList.drop (fY items.size 0 lo)).take (fY items.size items.size hi - fY items.size 0 lo)).toArray.size ≤ sizeLine
    rw [List.size_toArray, List.length_take, List.length_drop, Array.length_toList]
    omega
  have hj : fY items.size items.size hi ≤ items.size := Hy _ _ (Nat.le_refl _) hi
  obtain ⟨os, hos, hcs, hds⟩ := id hs
  have Qi : s.TypeIs (.ref sl) "slice" := ⟨os, hos, hcs⟩
  unfold getItem
  try with_reducible refine wpAny_holding ?_
  first | refine wpAny_bind (wpAny_pure ?_) | skip
  refine wpAny_bind (wpAny_sequenceKey ht.typeIs (by decide) ?_)
  refine wpAny_bind (wpAny_callSpecial?_slot (name := Str.ofString "__getitem__") ht.typeIs PyProof.Rows.slot_tuple_getitem
    (wpAny_call_entry PyProof.Rows.slot_tuple_getitem ht.typeIs entry_tuple_getitem ?_ (args_tuple_getitem _ _)))
  show wpAny _ _ (Builtin.Tuple.tupleItemsOf (.ref t) >>= _) _ _ s
  refine wpAny_bind (tupleItemsOf_ ht ?_)
  refine wpAny_bind (wpAny_typeOf Qi ?_)
  rw [if_pos (by decide)]
  refine wpAny_bind (qV hs pl pu ?_)
  have hno : ¬ ((((fY items.size 0 lo : Nat) : Int) == 0 && (1 : Int) == 1 && (fY items.size items.size hi - fY items.size 0 lo) == items.size) = true) := by
    intro q
    rw [Bool.and_eq_true, Bool.and_eq_true] at q
    have q1 : ((fY items.size 0 lo : Nat) : Int) = 0 := eq_of_beq q.1.1
    have q2 : fY items.size items.size hi - fY items.size 0 lo = items.size := eq_of_beq q.2
    exact hw ⟨by omega, by omega⟩
  show wpAny _ _ (if (((fY items.size 0 lo : Nat) : Int) == 0 && (1 : Int) == 1 && (fY items.size items.size hi - fY items.size 0 lo) == items.size) = true then _ else _) _ _ s
  rw [if_neg hno, Cz]
  first
    | exact wpAny_bind (m := Builtin.Tuple.tupleExact _) (wpAny_newObj_type (wpAny_pure ⟨_, rfl, wpAny_pure h⟩) Aw)
    | exact wpAny_bind (m := Builtin.Tuple.tupleExact _) (wpAny_newObj_type (wpAny_bind (wpAny_pure (wpAny_pure ⟨_, rfl, wpAny_pure h⟩))) Aw)
    | exact wpAny_bind (wpAny_bind (m := Builtin.Tuple.tupleExact _) (wpAny_newObj_type (wpAny_pure (wpAny_pure ⟨_, rfl, wpAny_pure h⟩)) Aw))
    | exact wpAny_bind (wpAny_bind (m := Builtin.Tuple.tupleExact _) (wpAny_newObj_type (wpAny_pure ⟨_, rfl, wpAny_pure h⟩) Aw))
end
end HT
namespace L2
open PySem PySem.Spec PyProof.Rows
noncomputable abbrev TO := St → Hp → (Option Int → Hp → Prop) → Prop
noncomputable def PO (X : Cx) (e : Option Expr) (t : TO) : Prop :=
  ∀ (pins : List (Addr × Obj)) (s : Shared) (σ : St) (H : Hp) (Q : Option Int → Hp → Prop), Inv X pins σ H s → t σ H Q →
    wpAny (model X.prog X.w) X.A (evalPart e X.env) (fun u s' => ∃ o H', Inv X pins σ H' s' ∧ IsPart u o ∧ Q o H') X.xe s
noncomputable def EK : TO := fun _ H Q => Q none H
noncomputable def JU (t : TE) : TO := fun σ H Q => t σ H fun x H1 => ∃ i, x = .int i ∧ Q (some i) H1
section
variable {X : Cx} {e : Expr} {te : TE} {lo hi : Option Expr} {tl th : TO} {pos p2 : Pos}
theorem EL : PO X none EK := by
  intro pins s σ H Q I h
  rw [evalPart_none]
  exact wpAny_pure ⟨none, H, I, .none, h⟩
theorem EM (h : PE X e te) : PO X (some e) (JU te) := by
  intro pins s σ H Q I hw
  rw [evalPart_some]
  refine gm (h pins s σ H _ I hw) fun u s1 ⟨x, H1, I1, r1, q1⟩ => ?_
  obtain ⟨i, rfl, q⟩ := q1
  obtain ⟨t, rfl⟩ := r1
  exact ⟨some i, H1, I1, .int i t, q⟩
noncomputable def LN (X : Cx) (r : V → Option Int → Option Int → Hp → VK → Prop) : Prop :=
  ∀ (pins : List (Addr × Obj)) (s : Shared) (σ : St) (H : Hp) (x : V) (v vl vu : Value) (lo hi : Option Int) (sl : Addr) (Q : VK), Inv X pins σ H s → RelV x v → s.heap.IsSliceOf sl vl vu .none → IsPart vl lo → IsPart vu hi → r x lo hi H Q →
    ∃ T id, typeLookup (.type T) "__getitem__" = pure (some (.builtin id)) ∧ s.TypeIs v T ∧ wpAny (model X.prog X.w) X.A (getItem v (.ref sl)) (EP X pins σ Q) X.xe s
noncomputable def Qj (r : V → Option Int → Option Int → Hp → VK → Prop) (te : TE) (tl th : TO) : TE := fun σ H Q => te σ H fun x H1 => tl σ H1 fun l H2 => th σ H2 fun u H3 => r x l u H3 Q
theorem CA {r : V → Option Int → Option Int → Hp → VK → Prop} (hr : LN X r) (he : PE X e te) (hl : PO X lo tl) (hu : PO X hi th) : PE X (.Subscript e (.Slice lo hi none p2) pos) (Qj r te tl th) := by
  intro pins s σ H Q I h
  refine Subscript_ (gm (he pins s σ H _ I h) fun v s1 ⟨x, H1, I1, r1, q1⟩ => ?_)
  refine wpAny_Slice (gm (hl pins s1 σ H1 _ I1 q1) fun vl s2 ⟨l, H2, I2, pl, q2⟩ => gm (hu pins s2 σ H2 _ I2 q2) fun vu s3 ⟨u, H3, I3, pu, q3⟩ => ?_)
  rw [evalPart_none]
  refine wpAny_pure ?_
  have I4 : Inv X pins σ H3 { s3 with heap := s3.heap.push { cls := .type "slice", data := .fields #[vl, vu, .none] } } := I3.kept (t' := s3.toks) fun b ob q => Heap.get?_push_of_some _ q
  obtain ⟨T, id, hT, ht, hg⟩ := hr pins { s3 with heap := s3.heap.push { cls := .type "slice", data := .fields #[vl, vu, .none] } } σ H3 x v vl vu l u s3.heap.objs.size Q I4 r1 (Heap.IsSliceOf.new ..) pl pu q3
  show wpAny (model X.prog X.w) X.A (subscriptTail e (.Slice lo hi none p2) v (.ref s3.heap.objs.size)) (EP X pins σ Q) X.xe { s3 with heap := s3.heap.push { cls := .type "slice", data := .fields #[vl, vu, .none] } }
  exact tail_any (ops := [.ref s3.heap.objs.size, v]) ht hT hg (by with_unfolding_all rfl)
noncomputable def xU (xs : List V) (lo hi : Option Int) : List V := (xs.drop (HT.fY xs.length 0 lo)).take (HT.fY xs.length xs.length hi - HT.fY xs.length 0 lo)
theorem rM (xs : List V) (lo hi : Option Int) : (xU xs lo hi).length ≤ xs.length := by
  unfold xU
  rw [List.length_take, List.length_drop]
  omega
noncomputable def MJ (K : PySem.W.Frag) : V → Option Int → Option Int → Hp → VK → Prop := fun x lo hi H Q => ∃ a xs, x = .ref a ∧ qS K H a xs ∧
  ¬ (HT.fY xs.length 0 lo = 0 ∧ HT.fY xs.length xs.length hi = xs.length) ∧ ∀ p, H p = none → Q (.ref p) (upd H p (.tup (xU xs lo hi)))
theorem Hz : LN X (MJ X.K) := by
  intro pins s σ H x v vl vu lo hi sl Q I rx hs pl pu h
  obtain ⟨a, xs, rfl, hx, hw, q⟩ := h
  cases rx
  obtain ⟨its, r, ht, hz⟩ := I.tuple hx
  have hlen : its.toArray.size = xs.length := by rw [List.size_toArray]; exact r.length.symm
  refine ⟨"tuple", _, PyProof.Rows.slot_tuple_getitem.lookup, ht.typeIs, ?_⟩
  refine HT.pW ht hs pl pu (by rw [hlen]; exact hw) ?_ (by rw [hlen]; exact hz)
  rw [hlen]
  refine ⟨.ref s.heap.objs.size, _, I.laid (t' := s.toks) (o := .tup (xU xs lo hi)) (fun b ob q => Heap.get?_push_of_some _ q) (Nat.le_refl _) ?_, rfl, q _ (I.hok.fresh (Nat.le_refl _))⟩
  exact ⟨Nat.le_trans (rM xs lo hi) hz, _, (r.drop (HT.fY xs.length 0 lo)).take (HT.fY xs.length xs.length hi - HT.fY xs.length 0 lo), IsTup.new _ _⟩
noncomputable def JW (K : PySem.W.Frag) : R2 := fun x y H Q => ∃ a b xs ys, x = .ref a ∧ y = .ref b ∧ qS K H a xs ∧ qS K H b ys ∧ xs ≠ [] ∧ xs.length + ys.length ≤ sizeLine ∧
  (ys = [] → Q (.ref a) H) ∧ (ys ≠ [] → ∀ p, H p = none → Q (.ref p) (upd H p (.tup (xs ++ ys))))
theorem Vals.wD {xs : List V} {us : List Value} (r : Vals xs us) : us = [] ↔ xs = [] := by
  cases r with
  | nil => simp
  | cons _ _ => simp
theorem EN : nj X (binaryOp .Add) (JW X.K) := by
  intro pins s σ H x y v u Q I rx ry h
  obtain ⟨a, b, xs, ys, rfl, rfl, ha, hb, hx, hz, q1, q2⟩ := h
  cases rx
  cases ry
  obtain ⟨its, r1, p1, _⟩ := I.tuple ha
  obtain ⟨its2, r2, p2, _⟩ := I.tuple hb
  refine HT.EJ p1 p2 (fun z => hx (r1.wD.mp z)) (fun z => ⟨.ref a, H, I, rfl, q1 (r2.wD.mp z)⟩) (fun z => ?_) (by rw [← r1.length, ← r2.length]; exact hz)
  refine ⟨.ref s.heap.objs.size, _, I.laid (t' := s.toks) (o := .tup (xs ++ ys)) (fun b ob q => Heap.get?_push_of_some _ q) (Nat.le_refl _) ?_, rfl, q2 (fun w => z (r2.wD.mpr w)) _ (I.hok.fresh (Nat.le_refl _))⟩
  exact ⟨by rw [List.length_append]; exact hz, _, r1.append r2, IsTup.new _ _⟩
end
end L2
namespace L2
open PySem PySem.Spec PyProof.Rows
noncomputable def Bu (n : Nat) (i : Int) : Option Nat := if 0 ≤ i then (if i < n then some i.toNat else none) else if -(n : Int) ≤ i then some (i + n).toNat else none
noncomputable def ki {α : Type} (xs : List α) (i : Int) : Option α := (Bu xs.length i).bind fun j => xs[j]?
theorem Ax {n : Nat} {i : Int} {j : Nat} (h : Bu n i = some j) : seqIndex? i n = some j ∧ j < n ∧ -(n : Int) ≤ i ∧ i < n := by
  unfold Bu at h
  by_cases h0 : 0 ≤ i
  · rw [if_pos h0] at h
    by_cases h1 : i < n
    · rw [if_pos h1] at h
      have e : i.toNat = j := Option.some.inj h
      exact ⟨by rw [seqIndex_of h0 h1, e], by omega, by omega, h1⟩
    · rw [if_neg h1] at h; cases h
  · rw [if_neg h0] at h
    by_cases h1 : -(n : Int) ≤ i
    · rw [if_pos h1] at h
      have e : (i + n).toNat = j := Option.some.inj h
      exact ⟨by rw [seqIndex_neg (by omega) h1, e], by omega, h1, by omega⟩
    · rw [if_neg h1] at h; cases h
theorem wF {α : Type} {xs : List α} {i : Int} {v : α} (h : ki xs i = some v) : ∃ j, seqIndex? i xs.length = some j ∧ xs[j]? = some v ∧ j < xs.length ∧ -(xs.length : Int) ≤ i ∧ i < xs.length := by
  unfold ki at h
  cases e : Bu xs.length i with
  | none => rw [e] at h; cases h
  | some j =>
    rw [e] at h
    obtain ⟨h1, h2, h3, h4⟩ := Ax e
    exact ⟨j, h1, h, h2, h3, h4⟩
theorem jH {α : Type} {xs : List α} {j : Nat} {v : α} (h : xs[j]? = some v) : ki xs (j : Int) = some v := by
  have hj : j < xs.length := (List.getElem?_eq_some_iff.mp h).1
  have e : Bu xs.length (j : Int) = some j := by
    unfold Bu
    rw [if_pos (by omega), if_pos (by omega)]; simp
  unfold ki; rw [e]; exact h
noncomputable def sJ (b : Expr) : Prop := ∀ o i, subscripted b false o i = operate [o, i] (getItem o i)
noncomputable def Jf (X : Cx) (r : R2) : Prop :=
  ∀ (value slice : Expr) (pins : List (Addr × Obj)) (s : Shared) (σ : St) (H : Hp) (x y : V) (v u : Value) (Q : VK), Inv X pins σ H s → RelV x v → RelV y u → r x y H Q →
    subscripted slice false v u = operate [v, u] (getItem v u) → wpAny (model X.prog X.w) X.A (subscriptTail value slice v u) (EP X pins σ Q) X.xe s
noncomputable def HA (X : Cx) (id : String) (r : V → List V → Hp → VK → Prop) : Prop :=
  ∀ (pins : List (Addr × Obj)) (s : Shared) (σ : St) (H : Hp) (x : V) (xs : List V) (v : Value) (us : List Value) (Q : VK), Inv X pins σ H s → RelV x v → Vals xs us → r x xs H Q →
    wpAny (model X.prog X.w) X.A (call (.builtin id) (v :: us)) (EP X pins σ Q) X.xe s
section
variable {X : Cx} {a b : Expr} {ta tb : TE} {pos : Pos}
theorem JX {r : R2} (hr : Jf X r) (ha : PE X a ta) (hb : PE X b tb) (hs : sJ b) : PE X (.Subscript a b pos) (JK r ta tb) := by
  intro pins s σ H Q I h
  exact Subscript_ (Hg ha hb I h fun v u s2 x y H2 I2 rx ry q => hr a b pins s2 σ H2 x y v u Q I2 rx ry q (hs _ _))
noncomputable def MK (K : PySem.W.Frag) : R2 := fun x y H Q => ∃ p xs i v, x = .ref p ∧ y = .int i ∧ pq K H p xs ∧ ki xs i = some v ∧ Q v H
noncomputable def ML (K : PySem.W.Frag) : R2 := fun x y H Q => ∃ p xs i v, x = .ref p ∧ y = .int i ∧ qS K H p xs ∧ ki xs i = some v ∧ Q v H
noncomputable def MM : R2 := fun x y H Q => ∃ z i c, x = .str z ∧ y = .int i ∧ z.length ≤ sizeLine ∧ ki z.cps.toList i = some c ∧ Q (.str ⟨#[c]⟩) H
theorem EO : Jf X (MK X.K) := by
  intro value slice pins s σ H x y v u Q I rx ry h hs
  obtain ⟨p, xs, i, z, rfl, rfl, hq, he, q⟩ := h
  cases rx
  obtain ⟨t, rfl⟩ := ry
  obtain ⟨its, r, pl, hz⟩ := I.list hq
  obtain ⟨j, h1, h2, h3, h4, h5⟩ := wF he
  obtain ⟨w, ew, rw'⟩ := r.get h2
  have hl := r.length
  have hn := pA
  have fin : EP X pins σ Q w s := ⟨z, H, I, rw', q⟩
  by_cases h0 : 0 ≤ i
  · have hj : i.toNat = j := by
      rw [seqIndex_of h0 h5] at h1
      exact Option.some.inj h1
    exact item_listR pl.isList h0 (by omega) (by rw [hj]; simpa using ew) fin hs
  · have hj : (i + (its.toArray.size : Int)).toNat = j := by
      rw [seqIndex_neg (by omega) h4] at h1
      rw [List.size_toArray, ← hl]
      exact Option.some.inj h1
    exact subscriptTail_builtinR (x := w) pl.isList.typeIs slot_list_getitem.lookup
      (wpAny_getItem_list_neg (Q := fun r s' => r = w ∧ EP X pins σ Q r s') pl.isList (by omega) (by rw [List.size_toArray] <;> omega) (by omega) (by rw [hj]; simpa using ew) ⟨rfl, fin⟩) hs
theorem HB : Jf X (ML X.K) := by
  intro value slice pins s σ H x y v u Q I rx ry h hs
  obtain ⟨p, xs, i, z, rfl, rfl, hq, he, q⟩ := h
  cases rx
  obtain ⟨t, rfl⟩ := ry
  obtain ⟨its, r, pl, hz⟩ := I.tuple hq
  obtain ⟨j, h1, h2, h3, h4, h5⟩ := wF he
  obtain ⟨w, ew, rw'⟩ := r.get h2
  have hl := r.length
  have hn := pA
  have fin : EP X pins σ Q w s := ⟨z, H, I, rw', q⟩
  exact subscriptTail_builtinR (x := w) pl.typeIs slot_tuple_getitem.lookup
    (getItem_tuple (j := j) (Q := fun r s' => r = w ∧ EP X pins σ Q r s') pl (by omega) (by omega) (by rw [List.size_toArray, ← hl]; exact h1) (by simpa using ew) ⟨rfl, fin⟩) hs
theorem HC : Jf X MM := by
  intro value slice pins s σ H x y v u Q I rx ry h hs
  obtain ⟨z, i, c, rfl, rfl, hz, he, q⟩ := h
  obtain ⟨t, rfl⟩ := rx
  obtain ⟨t', rfl⟩ := ry
  obtain ⟨j, h1, h2, h3, h4, h5⟩ := wF he
  have hl : z.cps.toList.length = z.length := by simp [Str.length]
  rw [hl] at h1 h4 h5
  have hn := pA
  exact tail_any (typeIs_str s z t) slot_str_getitem.lookup (getItem_str (c := c) (by
    have e1 : decide (i < -(2 ^ 63 : Int)) = false := decide_eq_false (by omega)
    have e2 : decide (i ≥ 2 ^ 63) = false := decide_eq_false (by omega)
    rw [e1, e2, Bool.or_false]) (by rw [h1]; simpa using h2) ⟨.str ⟨#[c]⟩, H, I.tok _, ⟨_, rfl⟩, q⟩) hs
theorem zF (its : List Value) (n j : Nat) (u : Value) : Obj.mapSeq (·.setIfInBounds j u) { cls := .type "list", data := .seq its.toArray n } = { cls := .type "list", data := .seq (its.set j u).toArray n } := by
  simp [Obj.mapSeq]
theorem Inv.lst {pins : List (Addr × Obj)} {σ : St} {H : Hp} {s : Shared} {p : Addr} {xs : List V} (I : Inv X pins σ H s) (h : H p = some (.lst xs)) :
    ∃ (its : List Value) (n : Nat), Vals xs its ∧ s.heap.get? p = some { cls := .type "list", data := .seq its.toArray n } ∧ xs.length ≤ sizeLine := by
  obtain ⟨z, its, n, r, e⟩ := I.hok p _ h
  exact ⟨its, n, r, e, z⟩
theorem Inv.HE {pins : List (Addr × Obj)} {σ : St} {H : Hp} {s : Shared} {p : Addr} {xs ys : List V} {its its' : List Value} {n n' : Nat} {f : Obj → Obj} (I : Inv X pins σ H s) (h : H p = some (.lst xs))
    (ho : s.heap.get? p = some { cls := .type "list", data := .seq its.toArray n }) (hf : f { cls := .type "list", data := .seq its.toArray n } = { cls := .type "list", data := .seq its'.toArray n' }) (r : Vals ys its') (hz : ys.length ≤ sizeLine) (t : Nat) :
    Inv X pins σ (upd H p (.lst ys)) { s with heap := s.heap.update p f, toks := t } := by
  have e : (s.heap.update p f).get? p = some { cls := .type "list", data := .seq its'.toArray n' } := by
    rw [Heap.get?_update_self f ho (by rw [hf] <;> rfl), hf]
  refine I.write (x := p) (e := p) (by rw [h]; trivial) (.inl rfl) (fun b u hb q => (Heap.get?_update_other _ _ (Ne.symm hb)).trans q) ⟨_, e⟩ ?_
  exact ⟨hz, its', n', r, e⟩
noncomputable def JY : V → V → V → Hp → (Hp → Prop) → Prop := fun o i v H Q => ∃ p xs k j, o = .ref p ∧ i = .int k ∧ H p = some (.lst xs) ∧ Bu xs.length k = some j ∧ Q (upd H p (.lst (xs.set j v)))
theorem set_list : JH X JY := by
  intro pins s σ H o i v ov iv u Q I ro ri rv h
  obtain ⟨p, xs, k, j, rfl, rfl, hp, hj, q⟩ := h
  cases ro
  obtain ⟨t, rfl⟩ := ri
  obtain ⟨its, n, r, ho, hz⟩ := I.lst hp
  obtain ⟨h1, h2, h3, h4⟩ := Ax hj
  have hl := r.length
  have hn := pA
  have I' : Inv X pins σ (upd H p (.lst (xs.set j v))) { s with heap := s.heap.update p (Obj.mapSeq (·.setIfInBounds j u)) } :=
    I.HE hp ho (zF its n j u) (r.set rv j) (by rw [List.length_set]; exact hz) s.toks
  by_cases h0 : 0 ≤ k
  · have hk : k.toNat = j := by
      rw [seqIndex_of h0 h4] at h1
      exact Option.some.inj h1
    exact PySem.W.ki_setAt ho h0 (by omega) (by rw [List.size_toArray, ← hl]; exact h4) (by rw [hk]; exact ⟨_, I', q⟩)
  · have hk : (k + (its.toArray.size : Int)).toNat = j := by
      rw [seqIndex_neg (by omega) h3] at h1
      rw [List.size_toArray, ← hl]
      exact Option.some.inj h1
    exact PySem.W.ki_setBack ho (by omega) (by rw [List.size_toArray, ← hl]; exact h3) (by omega) (by rw [hk]; exact ⟨_, I', q⟩)
theorem wG (lo hi : Option Int) (n : Nat) : (sliceBounds lo hi none n).1 = ((HT.fY n 0 lo : Nat) : Int) ∧ (sliceBounds lo hi none n).2.1 = ((HT.fY n n hi : Nat) : Int) ∧ (sliceBounds lo hi none n).2.2 = 1 := by
  refine ⟨?_, ?_, rfl⟩
  · cases lo with
    | none => simp [sliceBounds, HT.fY]
    | some i =>
      simp only [sliceBounds, HT.fY, Option.getD_none, show (1 : Int) > 0 by decide, if_true]
      by_cases h : i < 0
      · simp only [h, if_true] <;> omega
      · simp only [h, if_false] <;> omega
  · cases hi with
    | none => simp [sliceBounds, HT.fY]
    | some i =>
      simp only [sliceBounds, HT.fY, Option.getD_none, show (1 : Int) > 0 by decide, if_true]
      by_cases h : i < 0
      · simp only [h, if_true] <;> omega
      · simp only [h, if_false] <;> omega
theorem uM (its : List Value) (lo hi : Option Int) : slicePick its.toArray lo hi none = ((its.drop (HT.fY its.length 0 lo)).take (HT.fY its.length its.length hi - HT.fY its.length 0 lo)).toArray := by
  obtain ⟨h1, h2, h3⟩ := wG lo hi its.toArray.size
  unfold slicePick
  rw [h1, h2, h3]
  simp only [sliceRange_one, pick_run, List.size_toArray] <;> rfl
noncomputable def MN (K : PySem.W.Frag) : V → Option Int → Option Int → Hp → VK → Prop := fun x lo hi H Q => ∃ a xs, x = .ref a ∧ pq K H a xs ∧ ∀ p, H p = none → Q (.ref p) (upd H p (.lst (xU xs lo hi)))
theorem ER : LN X (MN X.K) := by
  intro pins s σ H x v vl vu lo hi sl Q I rx hs pl pu h
  obtain ⟨a, xs, rfl, hx, q⟩ := h
  cases rx
  obtain ⟨its, r, ht, hz⟩ := I.list hx
  have hlen := r.length
  refine ⟨"list", _, slot_list_getitem.lookup, ht.isList.typeIs, ?_⟩
  refine wpAny_getItem_list_slice ht.isList hs pl pu .none (by simp) ?_ (by rw [List.size_toArray] <;> omega)
  rw [uM, ← hlen]
  refine ⟨.ref s.heap.objs.size, _, I.laid (t' := s.toks) (o := .lst (xU xs lo hi)) (fun b ob q => Heap.get?_push_of_some _ q) (Nat.le_refl _) ?_, rfl, q _ (I.hok.fresh (Nat.le_refl _))⟩
  exact ⟨Nat.le_trans (rM xs lo hi) hz, _, 0, (r.drop (HT.fY xs.length 0 lo)).take (HT.fY xs.length xs.length hi - HT.fY xs.length 0 lo), Heap.get?_push_size _ rfl⟩
theorem pX : jT X (.builtin "len") (fun xs H Q => ∃ p ys, xs = [.ref p] ∧ (pq X.K H p ys ∨ qS X.K H p ys) ∧ Q (.int ys.length) H) := by
  intro pins s σ H xs us Q I r h
  obtain ⟨p, ys, rfl, hq, q⟩ := h
  obtain ⟨u, rfl, rx⟩ := vals1 r
  cases rx
  have hn := pA
  rcases hq with hq | hq
  · obtain ⟨its, r', pl, hz⟩ := I.list hq
    have hlen := r'.length
    exact Calls.call_len_list pl.isList (by simp only [List.size_toArray] <;> omega) ⟨.int ys.length, H, I.tok _, ⟨s.toks + 1, by rw [List.size_toArray, hlen]⟩, q⟩
  · obtain ⟨its, r', pl, hz⟩ := I.tuple hq
    have hlen := r'.length
    exact len_tuple pl (by simp only [List.size_toArray] <;> omega) ⟨.int ys.length, H, I.tok _, ⟨s.toks + 1, by rw [List.size_toArray, hlen]⟩, q⟩
theorem wH : jT X (.builtin "len") (fun xs H Q => ∃ z, xs = [.str z] ∧ z.length ≤ sizeLine ∧ Q (.int z.length) H) := by
  intro pins s σ H xs us Q I r h
  obtain ⟨z, rfl, hz, q⟩ := h
  obtain ⟨u, rfl, t, rfl⟩ := vals1 r
  have hn := pA
  exact len_str (by omega) ⟨.int z.length, H, I.tok _, ⟨_, rfl⟩, q⟩
theorem pY : jT X (.type "list") (fun xs H Q => ∃ p ys, xs = [.ref p] ∧ (pq X.K H p ys ∨ qS X.K H p ys) ∧ ∀ l, H l = none → Q (.ref l) (upd H l (.lst ys))) := by
  intro pins s σ H xs us Q I r h
  obtain ⟨p, ys, rfl, hq, q⟩ := h
  obtain ⟨u, rfl, rx⟩ := vals1 r
  cases rx
  have fin : ∀ (its : List Value), Vals ys its → ys.length ≤ sizeLine → ∀ (h' : Heap) (c' : Nat), (∀ b o', s.heap.get? b = some o' → h'.get? b = some o') →
      h'.get? s.heap.objs.size = some { cls := .type "list", dict := none, data := .seq its.toArray c', slots := #[] } → EP X pins σ Q (.ref s.heap.objs.size) { s with heap := h' } := fun its r' hz h' c' kp e =>
    ⟨.ref s.heap.objs.size, _, I.laid (t' := s.toks) kp (Nat.le_refl _) (show fR X.prog X.w _ h' _ (.lst ys) from ⟨hz, its, c', r', e⟩), rfl, q _ (I.hok.fresh (Nat.le_refl _))⟩
  rcases hq with hq | hq
  · obtain ⟨its, r', pl, hz⟩ := I.list hq
    have hlen := r'.length
    obtain ⟨o, ho, hc, n, hd⟩ := pl.isList
    exact call_list_seq p (.inl rfl) ho hc hd (fun h' c' kp e => fin its r' hz h' c' kp e) (by simp only [List.size_toArray] <;> omega)
  · obtain ⟨its, r', pl, hz⟩ := I.tuple hq
    have hlen := r'.length
    obtain ⟨o, ho, hc, n, hd⟩ := pl
    exact call_list_seq p (.inr rfl) ho hc hd (fun h' c' kp e => fin its r' hz h' c' kp e) (by simp only [List.size_toArray] <;> omega)
theorem oj : jT X (.type "tuple") (fun xs H Q => ∃ p ys, xs = [.ref p] ∧ ((pq X.K H p ys ∧ ∀ l, H l = none → Q (.ref l) (upd H l (.tup ys))) ∨ (qS X.K H p ys ∧ Q (.ref p) H))) := by
  intro pins s σ H xs us Q I r h
  obtain ⟨p, ys, rfl, h⟩ := h
  obtain ⟨u, rfl, rx⟩ := vals1 r
  cases rx
  rcases h with ⟨hq, q⟩ | ⟨hq, q⟩
  · obtain ⟨its, r', pl, hz⟩ := I.list hq
    have hlen := r'.length
    refine call_tuple_list pl.isList (fun h' kp => ?_) (by simp only [List.size_toArray] <;> omega)
    have I1 : Inv X pins σ H { s with heap := h' } := I.kept (t' := s.toks) kp
    have I2 : Inv X pins σ (upd H h'.objs.size (.tup ys)) { s with heap := h'.push { cls := .type "tuple", data := .seq its.toArray } } :=
      I1.laid (t' := s.toks) (fun b o e => Heap.get?_push_of_some _ e) (Nat.le_refl _) (show fR X.prog X.w _ _ _ (.tup ys) from ⟨hz, its, r', IsTup.new _ _⟩)
    exact ⟨.ref h'.objs.size, _, I2, rfl, q _ (I1.hok.fresh (Nat.le_refl _))⟩
  · obtain ⟨its, r', pl, hz⟩ := I.tuple hq
    exact call_tuple_same pl ⟨.ref p, H, I, rfl, q⟩
noncomputable def LO (K : PySem.W.Frag) (T : String) (x : V) (H : Hp) : Prop := match x with
  | .str _ => T = "str"
  | .int _ => T = "int"
  | .ref p => (T = "list" ∧ ∃ xs, pq K H p xs) ∨ (T = "tuple" ∧ ∃ o, K.lookup p = some o ∧ o.cls = .type "tuple" ∧ o.dict = none) ∨
      (T = "dict" ∧ ((∃ kvs, H p = some (.dK kvs)) ∨ ∃ kvs, H p = some (.dT kvs))) ∨ (T = "set" ∧ ∃ S n, H p = some (.set S n))
  | _ => False
theorem CB {pins : List (Addr × Obj)} {σ : St} {H : Hp} {s : Shared} {T : String} {x : V} {v : Value} (I : Inv X pins σ H s) (r : RelV x v) (ty : LO X.K T x H) :
    s.TypeIs v T ∧ ∀ a, v = .ref a → ∃ ob, s.heap.get? a = some ob ∧ ob.dict = none := by
  cases x with
  | str z =>
    obtain ⟨t, rfl⟩ := r
    cases (show T = "str" from ty)
    exact ⟨typeIs_str s z t, fun _ e => nomatch e⟩
  | int i =>
    obtain ⟨t, rfl⟩ := r
    cases (show T = "int" from ty)
    exact ⟨typeIs_int s i t, fun _ e => nomatch e⟩
  | ref p =>
    cases r
    rcases ty with ⟨rfl, xs, hq⟩ | ⟨rfl, o, hk, hc, hd⟩ | ⟨rfl, hk⟩ | ⟨rfl, S, n, hk⟩
    · obtain ⟨its, _, pl, _⟩ := I.list hq
      refine ⟨pl.isList.typeIs, fun a e => ?_⟩
      cases e
      obtain ⟨o, n, e, c, hd, _⟩ := pl
      exact ⟨o, e, hd⟩
    · refine ⟨⟨o, I.zm p o hk, hc⟩, fun a e => ?_⟩
      cases e
      exact ⟨o, I.zm _ o hk, hd⟩
    · have z : ∃ o, s.heap.get? p = some o ∧ o.ExactDict := by
        rcases hk with ⟨kvs, hk⟩ | ⟨kvs, hk⟩
        · obtain ⟨_, _, _, _, o, _, _, e, ex, _⟩ := I.hok p _ hk
          exact ⟨o, e, ex⟩
        · obtain ⟨_, _, _, _, o, _, _, e, ex, _⟩ := I.hok p _ hk
          exact ⟨o, e, ex⟩
      obtain ⟨o, e, ex⟩ := z
      refine ⟨⟨o, e, ex.1⟩, fun a e2 => ?_⟩
      cases e2
      exact ⟨o, e, ex.2.1⟩
    · obtain ⟨o, _, _, _, e, ex, _⟩ := I.hok p _ hk
      refine ⟨⟨o, e, ex.1⟩, fun a e2 => ?_⟩
      cases e2
      exact ⟨o, e, ex.2.1⟩
  | _ => exact False.elim ty
noncomputable def MO (K : PySem.W.Frag) (T : String) (r : V → List V → Hp → VK → Prop) (to : TE) : TE := fun σ H Q => to σ H fun x H1 => LO K T x H1 ∧ r x [] H1 Q
noncomputable def Qk (K : PySem.W.Frag) (T : String) (r : V → List V → Hp → VK → Prop) (to : TE) (t : TA) : TE := fun σ H Q => to σ H fun x H1 => LO K T x H1 ∧ t σ H1 fun xs H2 => r x xs H2 Q
variable {o e : Expr} {es : List Expr} {to : TE} {t : TA} {name : Str} {apos cpos : Pos} {T id : String} {r : V → List V → Hp → VK → Prop}
theorem HF (pa : PlainAttrs T) (slot : Slot T name id) (hty : typeOf (.builtin id) = pure (.type "method_descriptor")) (hm : HA X id r) (ho : PE X o to)
    (hbase : attributeBase o name X.env (eval o X.env) = eval o X.env := by rfl) (hline : (apos.endLine == cpos.line) = true := by rfl) : PE X (.Call (.Attribute o name apos) [] [] cpos) (MO X.K T r to) := by
  intro pins s σ H Q I h
  refine wpAny_Call_method0_late hbase hline (gm (ho pins s σ H _ I h) fun v s1 ⟨x, H1, I1, r1, ty, q1⟩ => ?_)
  obtain ⟨h1, h2⟩ := CB I1 r1 ty
  exact ⟨T, id, pa, slot, hty, h1, h2, Calls.callWith_builtin rfl (PySem.evalArgs_none (hm pins s1 σ H1 x [] v [] Q I1 r1 .nil q1))⟩
theorem JZ (pa : PlainAttrs T) (slot : Slot T name id) (hty : typeOf (.builtin id) = pure (.type "method_descriptor")) (hm : HA X id r) (ho : PE X o to) (ha : PA X (e :: es) t)
    (hbase : attributeBase o name X.env (eval o X.env) = eval o X.env := by rfl)
    (hfew : ((backTo cpos (starEach (e :: es) X.env)).all (fun x => !x.1) && (backToKw cpos (keywordEach [] X.env)).all (fun x => x.1.isSome)
      && decide ((e :: es).length + ([] : List Keyword).length + (if ([] : List Keyword).isEmpty then 0 else 1) < 30)) = true := by rfl)
    (hline : (apos.endLine == cpos.line) = true := by rfl) (hs : starEach (e :: es) X.env = (false, eval e X.env) :: starEach es X.env := by rfl) (hplain : (backTo cpos (starEach es X.env)).any (·.1) = false := by rfl) :
    PE X (.Call (.Attribute o name apos) (e :: es) [] cpos) (Qk X.K T r to t) := by
  intro pins s σ H Q I h
  refine wpAny_Call_method_late hbase hfew hline rfl (gm (ho pins s σ H _ I h) fun v s1 ⟨x, H1, I1, r1, ty, q1⟩ => ?_)
  obtain ⟨h1, h2⟩ := CB I1 r1 ty
  refine ⟨T, id, pa, slot, hty, h1, h2, ?_⟩
  have hA := ha cpos pins s1 σ H1 _ I1 q1
  rw [hs] at hA ⊢
  refine Calls.callWith_builtin (by show (false || (backTo cpos (starEach es X.env)).any (·.1)) = false; rw [hplain] <;> rfl) (Calls.evalArgs_plain ?_)
  exact gm hA fun us s2 ⟨vs, H2, I2, r2, q2⟩ => hm pins s2 σ H2 x vs v us Q I2 r1 r2 q2
end
end L2
namespace L2
open PySem PySem.Spec PyProof.Rows
noncomputable def Ot (X : Cx) (id : String) (r : V → List V → Hp → VK → Prop) : Prop :=
  ∀ (pins : List (Addr × Obj)) (s : Shared) (σ : St) (H : Hp) (x : V) (xs : List V) (v : Value) (us : List Value) (Q : VK), Inv X pins σ H s → RelV x v → Vals xs us → r x xs H Q →
    wpAny (model X.prog X.w) X.A (call (.builtin id) (v :: us)) (EP X pins σ Q) X.xe s
theorem Vals.one : ∀ {x : V} {us : List Value}, Vals [x] us → ∃ u, us = [u] ∧ RelV x u
  | _, _, .cons r .nil => ⟨_, rfl, r⟩
theorem Vals.zero : ∀ {us : List Value}, Vals [] us → us = []
  | _, .nil => rfl
theorem Vals.dropLast {xs : List V} {us : List Value} (h : Vals xs us) : Vals xs.dropLast us.dropLast := by
  induction h with
  | nil => exact .nil
  | cons r t ih =>
    cases t with
    | nil => exact .nil
    | cons q t' => exact .cons r ih
theorem Vals.eraseIdx : ∀ {xs : List V} {us : List Value} (i : Nat), Vals xs us → Vals (xs.eraseIdx i) (us.eraseIdx i)
  | _, _, _, .nil => .nil
  | _, _, 0, .cons _ t => t
  | _, _, i + 1, .cons r t => .cons r (Vals.eraseIdx i t)
theorem zG {α : Type} (l : List α) : l.eraseIdx (l.length - 1) = l.dropLast := by
  induction l with
  | nil => rfl
  | cons a r ih =>
    cases r with
    | nil => rfl
    | cons b r =>
      have e : (a :: b :: r).length - 1 = ((b :: r).length - 1) + 1 := by
        have h1 : (a :: b :: r).length = r.length + 2 := rfl
        have h2 : (b :: r).length = r.length + 1 := rfl
        omega
      rw [e, List.eraseIdx_cons_succ, ih]
      all_goals rfl
section
variable {X : Cx} {pins : List (Addr × Obj)} {σ : St} {H : Hp} {s : Shared} {l b : Addr} {xs ys zs : List V}
theorem Inv.HG {its its' : List Value} {n : Nat} {f : Array Value → Array Value} {t' : Nat} (I : Inv X pins σ H s) (hH : H l = some (.lst xs))
    (e : s.heap.get? l = some { cls := .type "list", data := .seq its.toArray n }) (hf : f its.toArray = its'.toArray) (hv : Vals ys its') (hz : ys.length ≤ sizeLine) :
    Inv X pins σ (upd H l (.lst ys)) { s with heap := s.heap.update l (Obj.mapSeq f), toks := t' } := by
  have q := PySem.IsL.update e f
  rw [hf] at q
  refine I.write (x := l) (e := l) (by rw [hH]; exact trivial) (.inl rfl) (fun b' u hb hu => (Heap.get?_update_other s.heap (Obj.mapSeq f) (Ne.symm hb)).trans hu) ⟨_, q⟩ ?_
  exact ⟨hz, its', _, hv, q⟩
theorem Inv.MP {its : List Value} {t' : Nat} (I : Inv X pins σ H s) (hv : Vals ys its) (hz : ys.length ≤ sizeLine) :
    Inv X pins σ (upd H s.heap.objs.size (.lst ys)) { s with heap := s.heap.push { cls := .type "list", data := .seq its.toArray }, toks := t' } :=
  I.laid (fun _ _ q => Heap.get?_push_of_some _ q) (Nat.le_refl _) ⟨hz, its, 0, hv, Heap.get?_push_size _ rfl⟩
theorem Inv.fresh (I : Inv X pins σ H s) : H s.heap.objs.size = none := I.hok.fresh (Nat.le_refl _)
theorem Inv.HH (I : Inv X pins σ H s) (hH : H l = some (.lst xs)) : xs.length ≤ sizeLine ∧ ∃ (its : List Value) (n : Nat), Vals xs its ∧ xs.length = its.length ∧ s.heap.get? l = some { cls := .type "list", data := .seq its.toArray n } := by
  obtain ⟨z, its, n, r, e⟩ := I.hok l _ hH
  exact ⟨z, its, n, r, r.length, e⟩
end
section
variable {X : Cx}
noncomputable def ES : V → List V → Hp → VK → Prop := fun x vs H Q => ∃ l xs y, x = .ref l ∧ vs = [y] ∧ H l = some (.lst xs) ∧ xs.length < sizeLine ∧ Q .gk (upd H l (.lst (xs ++ [y])))
theorem vF : Ot X "list.append" ES := by
  intro pins s σ H x vs v us Q I rx rv h
  obtain ⟨l, xs, y, rfl, rfl, hH, hz, q⟩ := h
  cases rx
  obtain ⟨u, rfl, ru⟩ := rv.one
  obtain ⟨z, its, n, r, hl, e⟩ := I.HH hH
  refine call_meets F.slot_list_append ⟨_, e, rfl⟩ F.entry_list_append (F.args_list_append_2 _ _) (PySem.list_append l its.toArray n u (by rw [List.size_toArray]; omega)) ⟨e, ?_⟩
  refine ⟨.gk, _, I.HG (its' := its ++ [u]) hH e (by simp) (r.append (.cons ru .nil)) ?_, rfl, q⟩
  rw [List.length_append, List.length_singleton]
  omega
noncomputable def MQ : V → List V → Hp → VK → Prop := fun x vs H Q => ∃ l xs y, x = .ref l ∧ vs = [] ∧ H l = some (.lst xs) ∧ xs[xs.length - 1]? = some y ∧ Q y (upd H l (.lst xs.dropLast))
theorem HJ : Ot X "list.pop" MQ := by
  intro pins s σ H x vs v us Q I rx rv h
  obtain ⟨l, xs, y, rfl, rfl, hH, hy, q⟩ := h
  cases rx
  have HK := rv.zero
  subst HK
  obtain ⟨z, its, n, r, hl, e⟩ := I.HH hH
  obtain ⟨u, hu, ru⟩ := r.get hy
  have hy' : its.toArray[its.toArray.size - 1]? = some u := by
    show its.toArray[its.length - 1]? = some u
    rw [← Array.getElem?_toList, ← hl]
    exact hu
  refine call_meets F.slot_list_pop ⟨_, e, rfl⟩ F.entry_list_pop (F.args_list_pop_1 _) (MeetsSeq.list_pop_last l its.toArray n u hy' (by rw [List.size_toArray]; omega)) ⟨e, ?_⟩
  refine ⟨y, _, I.HG (its' := its.dropLast) hH e ?_ r.dropLast ?_, ru, q⟩
  · show its.toArray.eraseIdxIfInBounds (its.toArray.size - 1) = its.dropLast.toArray
    rw [List.size_toArray, List.eraseIdxIfInBounds_toArray, zG]
  · rw [List.length_dropLast]
    omega
end
section
variable {prog : Program} {w : World} {A : Around} {E : Value → Shared → Prop} {s : Shared}
end
section
variable {X : Cx}
end
end L2
namespace Ou
open PySem PySem.W PySem.Calls PyProof.Rows
theorem sd {P : Params} {h : Heap} : ∀ (ns : List Int) (vs : List Value), WellAll P h vs (ns.map WData.int) → IntsAre vs ns := by
  intro ns
  induction ns with
  | nil =>
    intro vs w
    rw [List.map_nil] at w
    cases w
    exact .nil
  | cons n ns ih =>
    intro vs w
    rw [List.map_cons] at w
    cases w with
    | cons a b =>
      cases a
      exact .cons _ _ (ih _ b)
theorem Bv {l : OpenLaw} {n : Nat} (hn : l.most = some n) {P : Params} {h : Heap} {args : List WData} {vals : List Value}
    (hpre : l.row.toRowW.claim.pre args = true) (hwl : WellAll P h vals args) :
    ∃ a vs ns, vals = [Value.ref a] ∧ args = [WData.list (ns.map WData.int)] ∧ h.get? a = some { cls := .type "list", data := .seq vs.toArray } ∧ IntsAre vs ns ∧ ns.length ≤ n := by
  have hsh : WShape.hasAll [] args [.list .int] = true := (pre_splitW hpre).1
  have hc : l.pre.holds [] { args := args } = true := (pre_splitW hpre).2
  obtain ⟨d, r, rfl, h1, h2⟩ := hasAllW_cons hsh
  obtain rfl := hasAllW_nil h2
  obtain ⟨xs, rfl, h3⟩ := hasW_list h1
  obtain ⟨ns, rfl⟩ := items_int h3
  have hlen : ns.length ≤ n := by
    unfold OpenLaw.pre at hc
    have h4 : (WTm.not (.lt (.lit (.int (n : Int))) (.len (.arg 0)))).holds [] { args := [.list (ns.map .int)] } = true := by
      have h4 := (holds_andW hc).1
      rw [hn] at h4
      exact h4
    have h5 := condW_of h4 (w_not (w_lt w_lit (w_len_list (w_arg rfl))))
    rw [List.length_map] at h5
    refine Nat.le_of_not_lt fun q => ?_
    have q' : (n : Int) < ((ns.length : Nat) : Int) := by omega
    first
      | (rw [decide_eq_true q'] at h5; exact absurd h5 (by decide))
      | (simp at h5; omega)
  cases hwl with
  | cons w1 w2 =>
    cases w2
    cases w1 with
    | list ho hall => exact ⟨_, _, ns, rfl, rfl, ho, sd ns _ hall, hlen⟩
theorem Bw (l : OpenLaw) (args : List WData) : l.row.toRowW.claim.post args (.bool true) args = true :=
  postW_of (r := l.row.toRowW) (X := (true == true))
    (show WShape.has [] (.bool true) .bool = true by first | rfl | decide | simp [WShape.has, WShape.arms, WShape.armsAll])
    (show (WTm.eq .res (.lit (.bool true))).value [] { args := args, res := some (.bool true), after := args } = some (.bool (true == true)) from w_eq_bool (w_res rfl) w_lit) rfl
theorem xV {l : OpenLaw} {n : Nat} {q : Program} {loose : List Str} {XP : (Str → Option Value) → Heap → Prop} {YP : World → Heap → Prop} {d : DefRec}
    (hn : l.most = some n) (hdf : d.params.defaults = [])
    (call : ∀ (w : World) (s₀ s₁ : Shared) (mg mb : Str → Option Value) (fa : Addr) (o : Obj) (pm cd doc : Value) (a : Addr) (vs : List Value) (ns : List Int),
      Ground q loose [] XP w s₀ mg mb s₁.heap → YP w s₁.heap →
      s₁.heap.get? fa = some o → o.data = .func (docDef d.name d.params d.body d.scope pm cd doc) → s₁.heap.CodeRec cd d.name → mg d.name = some (.ref fa) →
      s₁.heap.get? a = some { cls := .type "list", data := .seq vs.toArray } → IntsAre vs ns → ns.length ≤ n → s₁.gens = #[] →
      codeAny (model l.prog w) callerA (.call (.ref fa) ⟨[.ref a], []⟩) (fun r s' => r = .ok (.ret (.bool true)) ∧ OldK s₁.heap s'.heap ∧ s'.os = s₁.os ∧ AllBare s'.gens) s₁) :
    WalkO q loose XP YP l.row.toRowW d [] (fun f vs => PySem.call f vs) := by
  intro w s₀ s₁ mg mb G Y fa o pm cd doc dV kV ho hd hcd hD hmg hg args vals as hpre hlay hrd hwl hlo
  obtain rfl : dV = .none := Dflts.none hD hdf
  obtain rfl : kV = .none := Dflts.noKw hD
  obtain ⟨a, vs, ns, rfl, rfl, hobj, hints, hlen⟩ := Bv hn hpre hwl
  refine enter_call (codeAny_mono (call w s₀ s₁ mg mb fa o pm cd doc a vs ns G Y ho (fd_plain hd) hcd hmg hobj hints hlen hg) fun r s' hq => ?_)
  obtain ⟨rfl, h2, h3, h4⟩ := hq
  exact ⟨.inl ⟨.bool true, .bool true, [], rfl, fun _ => rfl, .bool true, Bw l _, fun _ => ⟨List.Pairwise.nil, fun _ hm => (nomatch hm)⟩⟩, h2, h3, h4⟩
section
variable {prog : Program} {w : World} {A : Around} {E : Value → Shared → Prop} {s : Shared} {K : Frag}
end
end Ou
namespace L2
open PySem PySem.Spec PyProof.Rows
theorem vG : ∀ {vs : List Value} {ns : List Int}, IntsAre vs ns → Vals (ns.map V.int) vs
  | _, _, .nil => .nil
  | _, _, .cons n t h => .cons ⟨t, rfl⟩ (vG h)
noncomputable def ET (H : Hp) : Prop := ∀ b, H b = none ∨ ∃ o xs, H b = some (.ly o (.lst xs))
theorem CC {P : Program} {w : World} {K : PySem.W.Frag} {mg mb : Str → Option Value} {CX : zB} {k : Nat} {fa a : Addr} {fd : FuncData} {x : Str} {sp : Sp} {s₁ : Shared} {vs : List Value} {ns : List Int}
    (KX : K.In s₁.heap) (hns : s₁.heap.Ns mainGlobals mg) (hb : s₁.heap.Ns builtinsNs mb) (LP : ∀ x : Str, x ≠ "__name__" → mb x = bootBuiltins x) (hlim : s₁.heap.NoLimit) (hg : s₁.gens = #[])
    (ha : s₁.heap.get? a = some { cls := .type "list", data := .seq vs.toArray }) (hi : IntsAre vs ns) (hl : ns.length ≤ sizeLine) (hr : iA k callerA)
    (F : ∀ base : Heap, K.In base → base.Ns mainGlobals mg → cV P w K mg base CX k fa fd [x] sp) (hbind : ∀ (s : Shared) (u : Value), BindsTo s fd ⟨[u], []⟩ [(x, u)])
    (Em : ∀ H : Hp, ET H → pq K H a (ns.map V.int) → sp [.ref a] H (fun v _ => v = .bl true) fun _ _ _ => False)
    (MR : ∀ H e s', CX [] H s₁ (fun _ _ _ => False) e s' → False) :
    codeAny (model P w) callerA (.call (.ref fa) ⟨[.ref a], []⟩) (fun r s' => r = .ok (.ret (.bool true)) ∧ OldK s₁.heap s'.heap ∧ s'.os = s₁.os ∧ AllBare s'.gens) s₁ := by
  have rv := vG hi
  have MT := hi.length
  have core : ∀ H : Hp, ET H → pq K H a (ns.map V.int) → m7 P w H s₁.heap → (∀ b, H b ≠ none → b = a) → (H a ≠ none → K.lookup a = none) →
      codeAny (model P w) callerA (.call (.ref fa) ⟨[.ref a], []⟩) (fun r s' => r = .ok (.ret (.bool true)) ∧ OldK s₁.heap s'.heap ∧ s'.os = s₁.os ∧ AllBare s'.gens) s₁ := by
    intro H hO hS hok hA hK
    have lU : ∀ {b : Addr} {o : Obj}, s₁.heap.get? b = some o → H b = none → (wA s₁.heap H).get? b = some o := fun e n => Cp e n
    have JS : ∀ {b : Addr} {o : Obj} {es : Array DictEntry} {ep : Nat}, s₁.heap.get? b = some o → o.data = .dict es ep → H b = none := fun {b o es ep} e d => by
      cases q : H b with
      | none => rfl
      | some u =>
        have e' : b = a := hA b (by rw [q]; simp)
        subst e'
        rw [ha] at e; cases e
        have d' : Data.seq vs.toArray _ = Data.dict es ep := d
        cases d'
    have LQ : ∀ {b : Addr} {m : Str → Option Value}, s₁.heap.Ns b m → (wA s₁.heap H).Ns b m := fun {b m} ⟨o, es, ep, e, d, r⟩ => ⟨o, es, ep, lU e (JS e d), d, r⟩
    have Ov : K.In (wA s₁.heap H) := fun b o e => lU (KX b o e) (by
      cases q : H b with
      | none => rfl
      | some u =>
        have e' : b = a := hA b (by rw [q]; simp)
        subst e'
        rw [hK (by rw [q]; simp)] at e; cases e)
    have hM : Mod K mg (wA s₁.heap H) := ⟨Ov, LQ hns, ⟨mb, LQ hb, LP⟩, let ⟨mc, h1, h2⟩ := hlim; ⟨mc, LQ h1, h2⟩⟩
    have e0 : zC P w K mg (wA s₁.heap H) callerA [] s₁ H := ⟨rfl, hM, fun b o e => Ew e, Nat.le_of_eq (Bk _ _), trivial, fun b hb => absurd (show b ∈ ([] : List Addr) from hb) (by simp), hok, .of_eq hg⟩
    refine codeAny_mono ((F _ Ov (LQ hns)).run callerA [] s₁ H ⟨[.ref a], []⟩ [.ref a] [.ref a] _ _ hr e0 (hbind s₁ (.ref a)) (.cons rfl .nil) (Em H hO hS)) fun r s' h => ?_
    cases r with
    | error e => exact (MR H e s' h).elim
    | ok fl =>
      cases fl with
      | next => exact False.elim h
      | brk => exact False.elim h
      | cont => exact False.elim h
      | ret u =>
        obtain ⟨v, H', os, bare, un, MU, r', q⟩ := h
        have q' : v = .bl true := q
        subst q'
        obtain rfl : u = Value.bool true := r'
        refine ⟨rfl, OldK.of_keep fun b o e => ?_, os, bare⟩
        cases q : H b with
        | none => exact un.keep b o e q (by intro z; exact absurd (show b ∈ ([] : List Addr) from z) (by simp)) (by simp)
        | some u =>
          rcases hO b with z | ⟨ob, xs, z⟩
          · rw [q] at z; cases z
          · have z2 := un.mZ b ob _ z
            obtain ⟨e1, _⟩ := hok b _ z
            obtain ⟨e2, _⟩ := MU b _ z2
            rw [e] at e1; cases e1
            exact e2
  cases hk : K.lookup a with
  | some o =>
    have e := KX a o hk
    rw [ha] at e
    cases e
    refine core (fun _ => none) (fun _ => .inl rfl) (.inr ⟨_, vs.toArray, _, hk, rfl, rfl, rfl, by rw [List.size_toArray, MT]; exact hl, by simpa using rv⟩) (fun b u z => by have z' : (none : Option HO) = some u := z; cases z') (fun b z => absurd rfl z) fun z => absurd rfl z
  | none =>
    refine core (fun b => if b = a then some (.ly { cls := .type "list", data := .seq vs.toArray } (.lst (ns.map V.int))) else none) (fun b => ?_) (.inl (.inr ⟨{ cls := .type "list", data := .seq vs.toArray }, if_pos rfl⟩)) (fun b u z => ?_) (fun b z => ?_) fun _ => hk
    · by_cases hb : b = a
      · exact .inr ⟨_, _, if_pos hb⟩
      · exact .inl (if_neg hb)
    · by_cases hb : b = a
      · have z' := (if_pos hb).symm.trans z
        cases z'
        subst hb
        exact ⟨ha, by rw [List.length_map]; exact hl, vs, _, rv, ha⟩
      · have z' := (if_neg hb).symm.trans z
        cases z'
    · by_cases hb : b = a
      · exact hb
      · exact absurd (if_neg hb) z
end L2
namespace L2
open PySem PySem.Spec PyProof.Rows
noncomputable abbrev KOf {K : PySem.W.Frag} {h : Heap} (_ : K.In h) : PySem.W.Frag := K
theorem EU {l : PySem.W.OpenLaw} {n k : Nat} {q : Program} {loose : List Str} {XP : (Str → Option Value) → Heap → Prop} {YP : World → Heap → Prop} {d : DefRec} {K : Params → PySem.W.Frag} {CX : World → zB} {sp : World → Sp} {x : Str}
    (hn : l.most = some n) (hn2 : n ≤ sizeLine) (hdf : d.params.defaults = []) (hr : iA k callerA)
    (hY : ∀ (w : World) (h : Heap), YP w h → (K w.params).In h)
    (F : ∀ (w : World) (mg : Str → Option Value) (fa : Addr) (h : Heap), (K w.params).In h → h.Ns mainGlobals mg → mg d.name = some (.ref fa) →
      ∃ fd : FuncData, (∀ (s : Shared) (u : Value), BindsTo s fd ⟨[u], []⟩ [(x, u)]) ∧
        ∀ base : Heap, (K w.params).In base → base.Ns mainGlobals mg → cV l.prog w (K w.params) mg base (CX w) k fa fd [x] (sp w))
    (Em : ∀ (w : World) (H : Hp) (a : Addr) (ns : List Int), ns.length ≤ n → ET H → pq (K w.params) H a (ns.map V.int) → sp w [.ref a] H (fun v _ => v = .bl true) fun _ _ _ => False)
    (MR : ∀ (w : World) (H : Hp) (s : Shared) (e : Value) (s' : Shared), CX w [] H s (fun _ _ _ => False) e s' → False) :
    PySem.W.WalkO q loose XP YP l.row.toRowW d [] (fun f vs => PySem.call f vs) := by
  refine Ou.xV hn hdf fun w s₀ s₁ mg mb fa o pm cd doc a vs ns G Y ho hd hcd hmg hobj hints hlen hg => ?_
  have KX := hY w _ Y
  obtain ⟨fd, hb, hF⟩ := F w mg fa _ KX G.T.g hmg
  exact CC KX G.T.g G.T.b G.T.builtins G.T.nolimit hg hobj hints (Nat.le_trans hlen hn2) hr hF hb (fun H hO hS => Em w H a ns hlen hO hS) fun H e s' => MR w H s₁ e s'
end L2
namespace L2
open PySem PySem.Spec PyProof.Rows
noncomputable def aZ (s : Stmt) : Arguments := match s with
  | .FunctionDef _ a _ _ _ _ _ _ _ _ => a
  | _ => { posonlyargs := [], args := [], vararg := none, kwonlyargs := [], kw_defaults := [], kwarg := none, defaults := [] }
noncomputable def aT (s : Stmt) : List Stmt := match s with
  | .FunctionDef _ _ b _ _ _ _ _ _ _ => b
  | _ => []
noncomputable def aa (s : Stmt) : Scope := match s with
  | .FunctionDef _ _ _ _ _ _ sc _ _ _ => sc
  | _ => { kind := .function, names := [], isGenerator := false, isCoroutine := false }
noncomputable abbrev HL : zB := fun _ _ _ _ _ _ => False
noncomputable abbrev E0 : XK := fun _ _ _ => False
structure uN (K : PySem.W.Frag) (x qual : Str) (st : Stmt) (f : Addr) (fd : FuncData) : Prop where
  ex : ∃ (oc : Value) (od : Option Addr) (kV doc pm : Value) (an : Option Addr) (cdv ct : Value) (osl : Array (Option Value)),
    fd = PySem.W.fnOf x qual (aZ st) (aT st) (aa st) .none kV doc pm an cdv ct ∧ K.lookup f = some ⟨oc, od, .func fd, osl⟩ ∧ PySem.W.codeIn K cdv qual = true
  kp : PySem.W.keepIn K (.ref f) = true
section
variable {P : Program} {w : World} {K : PySem.W.Frag} {mg : Str → Option Value} {base : Heap}
theorem uN.ok {x qual : Str} {st : Stmt} {f : Addr} {fd : FuncData} {N ps : List Str} {k : Nat} {sp : Sp} (F : uN K x qual st f fd) (S : dh N ps (aa st)) (len : ∀ vs H Q E, sp vs H Q E → vs.length = ps.length)
    (hbody : ∀ (cdv : Value) (A : Around) (outer : List Env) (s : Shared) (H : Hp) (vs : List V) (Q : VK) (E : XK), iA k (A.deeper (envOfC qual (aa st) s.heap.objs.size f cdv)) → sp vs H Q E →
      ∃ t, xJ (lT HL P w K mg base N qual (aa st) f cdv A outer s H E).LH (aT st) t ∧ t { nx := fun _ H' => Q .gk H', rt := Q } (start N vs) H) : cV P w K mg base HL (k + 1) f fd ps sp := by
  obtain ⟨oc, od, kV, doc, pm, an, cdv, ct, osl, rfl, lk, hcd⟩ := F.ex
  refine FY lk hcd S len fun A outer s H vs Q E hr Em => ?_
  obtain ⟨t, h, q⟩ := hbody cdv A outer s H vs Q E hr Em
  exact ⟨t, h.LH, q⟩
theorem uN.binds {x qual : Str} {st : Stmt} {f : Addr} {fd : FuncData} {ps : List Str} (F : uN K x qual st f fd)
    (h : ∀ (kV doc pm : Value) (an : Option Addr) (cdv ct : Value) (us : List Value), us.length = ps.length → bindArgs (PySem.W.fnOf x qual (aZ st) (aT st) (aa st) .none kV doc pm an cdv ct) ⟨us, []⟩ = pure (ps.zip us)) : Binds K fd ps [] := by
  obtain ⟨oc, od, kV, doc, pm, an, cdv, ct, osl, rfl, lk, hcd⟩ := F.ex
  exact .all (h kV doc pm an cdv ct)
theorem fM {x qual : Str} {st : Stmt} {f : Addr} {oc : Value} {od an : Option Addr} {osl : Array (Option Value)} {kV doc pm cdv ct : Value} (l : K.lookup f = some ⟨oc, od, .func (PySem.W.fnOf x qual (aZ st) (aT st) (aa st) .none kV doc pm an cdv ct), osl⟩)
    (c : PySem.W.codeIn K cdv qual = true) (k : PySem.W.keepIn K (.ref f) = true) : uN K x qual st f (PySem.W.fnOf x qual (aZ st) (aT st) (aa st) .none kV doc pm an cdv ct) := ⟨⟨oc, od, kV, doc, pm, an, cdv, ct, osl, rfl, l, c⟩, k⟩
end
section
variable {X : Cx}
end
noncomputable def J0 (H H' : Hp) : Prop := ∀ b o, H b = some o → H' b = some o
theorem J0.free {H H' : Hp} (e : J0 H H') {l : Addr} (h : H' l = Option.none) : H l = Option.none := by
  cases q : H l with
  | none => rfl
  | some o =>
    rw [e l o q] at h
    cases h
end L2
end
section
set_option Elab.async false
set_option linter.all false
set_option maxRecDepth 100000
namespace L2
open PySem PySem.Spec PyProof.Rows
section
variable {κ : Type} [DecidableEq κ]
noncomputable def HM (kvs : List (κ × V)) (k : κ) : Option V := (kvs.find? fun kv => decide (kv.1 = k)).map (·.2)
noncomputable def putK (kvs : List (κ × V)) (k : κ) (v : V) : List (κ × V) :=
  if (kvs.any fun kv => decide (kv.1 = k)) = true then kvs.map (fun kv => if kv.1 = k then (kv.1, v) else kv) else kvs ++ [(k, v)]
theorem Et.getD {o : Option V} {u : Option Value} {d : V} {d' : Value} (r : Et o u) (rd : RelV d d') : RelV (o.getD d) (u.getD d') := by
  cases o with
  | none => cases u with
    | none => exact rd
    | some _ => exact (show False from r).elim
  | some _ => cases u with
    | none => exact (show False from r).elim
    | some _ => exact r
end
noncomputable abbrev KT (H : Hp) : List (List Key × V) → List (List Key × Addr × Value) → Prop := Paired fun p q => p.1 = q.1 ∧ H q.2.1 = some (.tup (p.1.map kV)) ∧ RelV p.2 q.2.2
theorem KT.keeps {H H' : Hp} {kvs : List (List Key × V)} {xs : List (List Key × Addr × Value)} (r : KT H kvs xs) (ht : ∀ b ys, H b = some (.tup ys) → H' b = some (.tup ys)) : KT H' kvs xs :=
  Paired.GO r fun _ _ z => ⟨z.1, ht _ _ z.2.1, z.2.2⟩
section
variable {P : Program} {w : World} {H : Hp} {h : Heap} {a : Addr}
end
noncomputable def J1 (H : Hp) (a : Addr) (y : V) (r : Option V) : Prop :=
  (∃ kvs k, Rd H a (.dK kvs) ∧ y = kV k ∧ r = HM kvs k) ∨ ∃ kvs k b, Rd H a (.dT kvs) ∧ y = .ref b ∧ H b = some (.tup (k.map kV)) ∧ r = HM kvs k
noncomputable def J2 (H : Hp) (a : Addr) (y v : V) (H' : Hp) : Prop :=
  (∃ kvs k, H a = some (.dK kvs) ∧ y = kV k ∧ kvs.length < sizeLine ∧ H' = upd H a (.dK (putK kvs k v))) ∨
  ∃ kvs k b, H a = some (.dT kvs) ∧ y = .ref b ∧ H b = some (.tup (k.map kV)) ∧ kvs.length < sizeLine ∧ H' = upd H a (.dT (putK kvs k v))
theorem J1.k {H : Hp} {a : Addr} {kvs : List (Key × V)} {k : Key} (e : H a = some (.dK kvs)) : J1 H a (kV k) (HM kvs k) := .inl ⟨kvs, k, .inl e, rfl, rfl⟩
theorem J2.k {H : Hp} {a : Addr} {kvs : List (Key × V)} {k : Key} {v : V} (e : H a = some (.dK kvs)) (hl : kvs.length < sizeLine) : J2 H a (kV k) v (upd H a (.dK (putK kvs k v))) := .inl ⟨kvs, k, e, rfl, hl, rfl⟩
section
variable {X : Cx} {pins : List (Addr × Obj)} {σ : St} {H : Hp} {s : Shared} {a : Addr} {y v : V} {u r : Value} {o : Option V} {A : Around} {E : Value → Shared → Prop}
end
section
variable {X : Cx} {pins : List (Addr × Obj)} {σ : St} {H : Hp} {s : Shared} {a : Addr} {kvs : List (Key × V)} {k : Key} {u : Value} {A : Around} {E : Value → Shared → Prop}
end
section
variable {X : Cx} {o i e value : Expr} {pos pos' tpos : Pos} {td ty tv : TE}
end
section
variable {X : Cx} {pos : Pos}
end
structure M1 (X : Cx) (o : Expr) (m : Str) (apos : Pos) (e : Expr) (cpos : Pos) : Prop where
  base : attributeBase o m X.env (eval o X.env) = eval o X.env
  few : ((backTo cpos (starEach [e] X.env)).all (fun x => !x.1) && (backToKw cpos (keywordEach [] X.env)).all (fun x => x.1.isSome)
    && decide (([e] : List Expr).length + ([] : List Keyword).length + (if ([] : List Keyword).isEmpty then 0 else 1) < 30)) = true
  line : (apos.endLine == cpos.line) = true
  trees : backTo cpos (starEach [e] X.env) = [(false, eval e X.env)]
structure M2 (X : Cx) (o : Expr) (m : Str) (apos : Pos) (e f : Expr) (cpos : Pos) : Prop where
  base : attributeBase o m X.env (eval o X.env) = eval o X.env
  few : ((backTo cpos (starEach [e, f] X.env)).all (fun x => !x.1) && (backToKw cpos (keywordEach [] X.env)).all (fun x => x.1.isSome)
    && decide (([e, f] : List Expr).length + ([] : List Keyword).length + (if ([] : List Keyword).isEmpty then 0 else 1) < 30)) = true
  line : (apos.endLine == cpos.line) = true
  trees : backTo cpos (starEach [e, f] X.env) = [(false, eval e X.env), (false, eval f X.env)]
section
variable {X : Cx} {pins : List (Addr × Obj)} {σ : St} {H : Hp} {s : Shared} {a : Addr} {y d : V} {u r : Value} {o : Option V} {A : Around} {E : Value → Shared → Prop}
end
section
variable {X : Cx} {o e f : Expr} {apos cpos : Pos} {td ty tx : TE}
end
section
variable {X : Cx} {pins : List (Addr × Obj)} {σ : St} {H : Hp} {s : Shared} {a : Addr} {kvs : List (Key × V)} {A : Around} {E : Value → Shared → Prop}
end
section
variable {X : Cx} {pins : List (Addr × Obj)} {σ : St} {H : Hp} {s : Shared} {a : Addr} {y : V} {u : Value} {A : Around} {E : Value → Shared → Prop}
end
end L2
end
section
set_option Elab.async false
set_option linter.all false
set_option maxRecDepth 100000
namespace L3
open PySem PySem.Spec L2 Builtin Builtin.ObjectAttr
abbrev J3 : List Value := [.type "ValueError", .type "Exception", .type "BaseException", .type "object"]
noncomputable def CD (K : PySem.W.Frag) (C : Addr) : Bool := match K.lookup C with
 | some ⟨.type "type", _, .cls cd, sl⟩ => (match cd.mro, sl.toList with
  | .ref D :: bm, [_, _, _, _, some (.builtin n), _] => D == C && n == "ValueError.__new__" && !cd.hasDel && PySem.W.tailIn K J3 bm
  | _, _ => false)
 | _ => false
theorem tF {K : PySem.W.Frag} {h : Heap} {C : Addr} (X : K.In h) (e : CD K C = true) :
  ∃ bm N nm q bs hdct sn sub ab col dd k0 k1 k2 k3 k5, h.get? C = some (excClassObj nm q C N bs bm hdct sn sub ab col dd k0 k1 k2 k3 k5 "ValueError.__new__") ∧ OwnTail h J3 bm := by
 unfold CD at e
 split at e
 ·rename_i dd cd sl ho
  split at e
  ·rename_i D bm k0 k1 k2 k3 n k5 hm hs
   simp only [Bool.and_eq_true, beq_iff_eq, Bool.not_eq_true'] at e
   obtain ⟨⟨⟨rfl, rfl⟩, J5⟩, ht⟩ := e
   obtain ⟨nm, bs, mro, ns, qn, hd, sn, sub, ab, col, del⟩ := cd
   dsimp only at hm J5
   subst hm J5
   obtain ⟨l⟩ := sl
   have hl : l = [k0, k1, k2, k3, some (.builtin "ValueError.__new__"), k5] := hs
   subst hl
   exact ⟨bm, ns, nm, qn, bs, hd, sn, sub, ab, col, dd, k0, k1, k2, k3, k5, X _ _ ho, PySem.W.tail_of_in X ht⟩
  ·cases e
 ·cases e
structure lB (K : PySem.W.Frag) (C P fI : Addr) where
 cd : ClassData
 cls : PySem.W.clsIn K C = some cd
 mro : cd.mro = [.ref C, .ref P, .type "ValueError", .type "Exception", .type "BaseException", .type "object"]
 dict : cd.hasDict = true
 sa : PySem.W.findIn K (.ref C) "__setattr__" = some (some (.builtin "object.__setattr__"))
 tk : PySem.W.takerIn K C "name" = some none
 ga : PySem.W.findIn K (.ref C) "__getattribute__" = some (some (.builtin "BaseException.__getattribute__"))
 gh : PySem.W.findIn K (.ref C) "__getattr__" = some none
 nm : PySem.W.findIn K (.ref C) "name" = some none
 ini : PySem.W.findIn K (.ref C) "__init__" = some (some (.ref fI))
 ca : PySem.W.findIn K (.ref C) "__class__" = some (some (.builtin "object.__class__"))
 cg : PySem.W.specialIn K (.builtin "object.__class__") "__get__" = some (some (.builtin "getset_descriptor.__get__"))
 ct : PySem.W.takesIn K (.builtin "object.__class__") = some true
 fn : PySem.W.typeIn K (.ref fI) = some (.type "function")
 ex : CD K C = true
section
variable {prog : Program} {w : World} {A : Around} {E : Value → Shared → Prop} {s : Shared} {K : PySem.W.Frag} {C P fI e : Addr} {v : Value} {vs : Array Value} {sl : Array (Option Value)}
theorem CF {Q : Unit → Shared → Prop} (F : lB K C P fI) (X : K.In s.heap) (hx : s.heap.get? e = some ⟨.ref C, none, .fields vs, sl⟩)
  (h : ∀ h' tk, h'.get? e = some ⟨.ref C, some s.heap.objs.size, .fields vs, sl⟩ → h'.Ns1 s.heap.objs.size (fun y => if y = "name" then some v else none) → (∀ b o, b ≠ e → s.heap.get? b = some o → h'.get? b = some o) → Q () { s with heap := h', toks := tk }) :
  wpAny (model prog w) A (setAttr (.ref e) "name" v) Q E s := by
 have J : PySem.W.InstAt s.heap e ⟨.ref C, none, .fields vs, sl⟩ C none := ⟨hx, rfl, rfl, trivial⟩
 have SF := PySem.F.store_ValueError
 refine PySem.W.set_plain X J F.sa ?_
 have sub : PySem.W.Looks (model prog w) s.heap (isInstance (.ref e) (.type "object")) true := J.type.andThen (PySem.W.looks_mroIn X (by unfold PySem.W.mroIn; rw [F.cls, Option.bind_some, F.mro]; rfl))
 refine codeAny_call_builtin SF.slot.plain SF.entry (@PySem.W.check_slot (model prog w) _ _ { s with toks := s.toks + 1 } "object.__setattr__" "object" "__setattr__" (.ref e) [.str "name" s.toks, v] [] _ SF.kind SF.split sub (SF.args _ _ _) ?_)
 obtain ⟨attr, ha, hr⟩ := Option.bind_eq_some_iff.mp F.tk
 have hm : PySem.W.Looks (model prog w) s.heap (mroOf (.ref C)) F.cd.mro := (PySem.W.looks_clsIn X F.cls).andThen .now
 have ha' : attr = none := by have := F.nm; rw [ha] at this; cases this; rfl
 subst ha'
 rw [PySem.W.osa_eq, refuse_eq]
 refine wpAny_bind (wpAny_bind (PySem.W.Looks.here (s := { s with toks := s.toks + 1 }) J.type (wpAny_bind (PySem.W.Looks.here (s := { s with toks := s.toks + 1 }) hm ?_))))
 rw [F.mro, refuseLoop_ref, refuseLoop_ref, SF.passes]
 refine wpAny_pure (wpAny_bind (PySem.W.Looks.here (s := { s with toks := s.toks + 1 }) J.type (wpAny_bind (PySem.W.Looks.here (s := { s with toks := s.toks + 1 }) (PySem.W.looks_findIn X ha) (wpAny_bind (wpAny_pure ?_))))))
 refine wpAny_bind (wpAny_pure (wpAny_bind (wpAny_bind (wpAny_loadPart hx (wpAny_bind (PySem.W.Looks.here (s := { s with toks := s.toks + 1 }) (PySem.W.looks_clsIn X F.cls) ?_))))))
 rw [F.dict]
 dsimp only
 have hxs : e ≠ s.heap.objs.size := Nat.ne_of_lt (Heap.lt_size hx)
 have Ow : (s.heap.push { cls := .type "dict", data := .dict #[] }).get? e = some ⟨.ref C, none, .fields vs, sl⟩ := Heap.get?_push_of_some _ hx
 refine wpAny_bind (wpAny_alloc (wpAny_bind (wpAny_update Ow (wpAny_pure ?_))))
 generalize hg : (s.heap.push { cls := .type "dict", data := .dict #[] }).update e (fun o => { cls := o.cls, dict := some s.heap.objs.size, data := o.data, slots := o.slots }) = h1
 have g1 : h1.get? s.heap.objs.size = some { cls := .type "dict", data := .dict #[] } := by rw [← hg]; exact (Heap.get?_update_ne _ _ _ _ hxs.symm).trans (Heap.get?_push_at rfl rfl)
 have g2 : h1.get? e = some ⟨.ref C, some s.heap.objs.size, .fields vs, sl⟩ := by rw [← hg]; exact Heap.get?_update_self _ Ow rfl
 have g3 : ∀ b o, b ≠ e → s.heap.get? b = some o → h1.get? b = some o := fun b o hb q => by rw [← hg]; exact (Heap.get?_update_ne _ _ _ _ hb).trans (Heap.get?_push_of_some _ q)
 have n1 : h1.Ns s.heap.objs.size (fun _ => none) := ⟨_, #[], _, g1, rfl, fun _ q => absurd q (by simp), fun _ => rfl⟩
 show wpAny _ _ (storeInDict s.heap.objs.size _ _ v) _ _ ⟨h1, s.gens, s.drawn, s.toks + 1, s.os⟩
 unfold storeInDict newKeyGuard
 refine wpAny_bind (wpAny_pure (wpAny_bind (wpAny_nsSet1 (Heap.Ns1.of_empty n1) fun h2 n2 sb => ?_)))
 obtain ⟨oD, esD, TN, Ql, Qm, Qn⟩ := n2.count (Within.cons "name" v Within.nil)
 refine wpAny_bind (wpAny_lookBehind Ql (by rw [Qm]; exact pastItsLine_dict (Nat.le_trans Qn (by rw [List.length_cons, List.length_nil, sizeLine_eq]; omega))) ?_)
 refine wpAny_pure (h h2 _ ((sb.2 e hxs).trans g2) n2 fun b o hb q => (sb.2 b (Nat.ne_of_lt (Heap.lt_size q))).trans (g3 b o hb q))
theorem CG {Q : Value → Shared → Prop} {expr : Bool} {dx : Addr} {m : Str → Option Value} {oc : Obj} (F : lB K C P fI) (X : K.In s.heap) (hx : s.heap.get? e = some oc) (hcl : oc.cls = .ref C) (hdt : oc.data = .fields vs) (hd : oc.dict = some dx) (hn : s.heap.Ns1 dx m) (hv : m "name" = some v) (hv' : PySem.W.handedIn v = true)
  (h : ∀ tk, Q v { s with toks := tk }) : wpAny (model prog w) A (getAttr (.ref e) "name" expr) Q E s := by
 obtain ⟨od, hod, hlk⟩ := qU hn
 have J : PySem.W.InstAt s.heap e oc C (some od) := ⟨hx, hcl, by unfold PySem.W.notCls; rw [hdt], by rw [hd]; exact hod⟩
 unfold getAttr getAttrBy
 refine wpAny_bind (wpAny_mkText (wpAny_holding (wpAny_bind (PySem.W.Looks.here (s := { s with toks := s.toks + 1 }) J.type (wpAny_bind (PySem.W.Looks.here (s := { s with toks := s.toks + 1 }) (PySem.W.looks_findIn X F.ga) ?_))))))
 dsimp only
 have hb : (onTheHeap (Value.ref C) && Value.builtin "BaseException.__getattribute__" == Value.builtin "object.__getattribute__") = false := by
  rw [show (Value.builtin "BaseException.__getattribute__" == Value.builtin "object.__getattribute__") = false by decide +kernel]; rfl
 rw [if_neg (by rw [hb]; decide)]
 unfold getAttrByItsOwn hookBefore
 refine wpAny_bind ?_
 rw [if_pos (show onTheHeap (Value.ref C) = true from rfl)]
 refine PySem.W.Looks.here (s := { s with toks := s.toks + 1 }) (PySem.W.looks_findIn X F.gh) ?_
 refine wpAny_bind (wpAny_attempt (wpAny_holding ?_))
 have Qo : (expr && onTheHeap (Value.builtin "BaseException.__getattribute__")) = false := by cases expr <;> rfl
 unfold callGetattribute
 rw [if_neg (by rw [Qo]; decide)]
 unfold boundAndCalled
 have FX := PySem.F.excAttr_ValueError
 have sub : PySem.W.Looks (model prog w) s.heap (isInstance (.ref e) (.type "BaseException")) true := J.type.andThen (PySem.W.looks_mroIn X (by unfold PySem.W.mroIn; rw [F.cls, Option.bind_some, F.mro]; rfl))
 refine wpAny_bind (wpAny_of_eq (FX.ga.bind (.ref e)) (wpAny_call ?_))
 refine codeAny_call_builtin FX.ga.plain PySem.F.entry_bexc_ga (@PySem.W.check_slot (model prog w) _ _ { s with toks := s.toks + 1 } "BaseException.__getattribute__" "BaseException" "__getattribute__" (.ref e) [.str "name" s.toks] [] _ (by decide +kernel) (by decide +kernel) sub (PySem.F.args_bexc_ga _ _) ?_)
 have L1 := PySem.W.looks_find (M := model prog w) X J (PySem.W.findObj_own (K := K) (C := C) (name := "name") (od := od) (v := v) (by unfold PySem.W.hasDictIn; rw [F.cls]; exact F.dict) F.nm rfl (by rw [hlk, hv]))
 refine wpAny_bind (wpAny_pure (wpAny_bind (wpAny_pure (wpAny_bind (PySem.W.Looks.here (s := { s with toks := s.toks + 1 }) J.type (wpAny_bind (PySem.W.Looks.here (s := { s with toks := s.toks + 1 }) L1 (wpAny_pure ?_))))))))
 show wpAny _ _ (handedOut v) _ _ _
 rw [PySem.W.handedOut_of hv']
 exact wpAny_pure (h _)
theorem Bx {Q : Option Value → Shared → Prop} {oc od : Obj} (F : lB K C P fI) (X : K.In s.heap) (J : PySem.W.InstAt s.heap e oc C (some od)) (h : Q (some (.ref C)) { s with toks := s.toks + 1 }) : wpAny (model prog w) A (getAttr? (.ref e) "__class__") Q E s := by
 unfold getAttr? getAttrBy? getAttrBy
 refine wpAny_bind (wpAny_mkText (wpAny_bind (wpAny_attempt (wpAny_holding (wpAny_bind (PySem.W.Looks.here (s := { s with toks := s.toks + 1 }) J.type (wpAny_bind (PySem.W.Looks.here (s := { s with toks := s.toks + 1 }) (PySem.W.looks_findIn X F.ga) ?_))))))))
 dsimp only
 have hb : (onTheHeap (Value.ref C) && Value.builtin "BaseException.__getattribute__" == Value.builtin "object.__getattribute__") = false := by
  rw [show (Value.builtin "BaseException.__getattribute__" == Value.builtin "object.__getattribute__") = false by decide +kernel]; rfl
 rw [if_neg (by rw [hb]; decide)]
 unfold getAttrByItsOwn hookBefore
 refine wpAny_bind ?_
 rw [if_pos (show onTheHeap (Value.ref C) = true from rfl)]
 refine PySem.W.Looks.here (s := { s with toks := s.toks + 1 }) (PySem.W.looks_findIn X F.gh) ?_
 refine wpAny_bind (wpAny_attempt (wpAny_holding ?_))
 unfold callGetattribute
 rw [if_neg (by decide)]
 unfold boundAndCalled
 have FX := PySem.F.excAttr_ValueError
 have sub : PySem.W.Looks (model prog w) s.heap (isInstance (.ref e) (.type "BaseException")) true := J.type.andThen (PySem.W.looks_mroIn X (by unfold PySem.W.mroIn; rw [F.cls, Option.bind_some, F.mro]; rfl))
 refine wpAny_bind (wpAny_of_eq (FX.ga.bind (.ref e)) (wpAny_call ?_))
 refine codeAny_call_builtin FX.ga.plain PySem.F.entry_bexc_ga (@PySem.W.check_slot (model prog w) _ _ { s with toks := s.toks + 1 } "BaseException.__getattribute__" "BaseException" "__getattribute__" (.ref e) [.str "__class__" s.toks] [] _ (by decide +kernel) (by decide +kernel) sub (PySem.F.args_bexc_ga _ _) ?_)
 have L1 := PySem.W.looks_find (M := model prog w) X J (PySem.W.findObj_data (K := K) (C := C) (name := "__class__") (od := od) (by rw [F.cls]; rfl) F.ca F.cg F.ct)
 refine wpAny_bind (wpAny_pure (wpAny_bind (wpAny_pure (wpAny_bind (PySem.W.Looks.here (s := { s with toks := s.toks + 1 }) J.type (wpAny_bind (PySem.W.Looks.here (s := { s with toks := s.toks + 1 }) L1 ?_)))))))
 show wpAny _ _ (holding [Value.builtin "object.__class__"] (call (.builtin "getset_descriptor.__get__") [.builtin "object.__class__", .ref e, .ref C]) >>= ret) _ _ _
 refine wpAny_bind (wpAny_holding (wpAny_call (PySem.W.class_get (s := { s with toks := s.toks + 1 }) X J (by unfold PySem.W.mroIn; rw [F.cls, Option.bind_some, F.mro]; rfl) (wpAny_pure ?_))))
 exact wpAny_pure (wpAny_pure h)
theorem xW {oc od : Obj} (F : lB K C P fI) : PySem.W.KitX K (.ref e) (.ref C) (fun h => PySem.W.InstAt h e oc C (some od)) where
 ty := fun _ _ _ I => I.type
 it := fun _ _ X _ => by
  have z := F.cls
  unfold PySem.W.clsIn at z
  split at z
  ·rename_i ho
   intro A' Q' E' s' k q
   unfold isType loadHead
   exact wpAny_bind (wpAny_loadPart (k _ _ (X _ _ ho)) (wpAny_pure q))
  ·cases z
 ne := fun h tp dd its n sl X htp => by
  refine Bool.eq_false_iff.mpr fun q => ?_
  have e : C = tp := Value.ref.inj (beq_iff_eq.mp q)
  subst e
  have z := F.cls
  unfold PySem.W.clsIn at z
  split at z
  ·rename_i ho
   have y := (X _ _ ho).symm.trans htp
   cases y
  ·cases z
 ca := fun X I k => Bx F X I k
noncomputable abbrev jU (C : Addr) (t : Addr) : Obj := { cls := .ref C, data := .fields #[.ref t, .none, .none, .none, .bool false, .none] }
theorem CH {Q : Value → Shared → Prop} {rest : List Value} (F : lB K C P fI) (X : K.In s.heap) (hl : rest.length ≤ sizeLine)
  (h : wpAny (model prog w) (A.under (.builtin "type.__call__" ⟨.ref C :: rest, []⟩)) (call (.ref fI) (.ref (s.heap.objs.size + 1) :: rest)) (fun r s' => r = .none ∧ Q (.ref (s.heap.objs.size + 1)) s') E
   { s with heap := (s.heap.push { cls := .type "tuple", data := .seq rest.toArray }).push (jU C s.heap.objs.size) }) :
  wpAny (model prog w) A (call (.ref C) rest) Q E s := by
 obtain ⟨bm, N, nm, q, bs, hdct, sn, sub, ab, col, dd, k0, k1, k2, k3, k5, hC, T⟩ := tF X F.ex
 obtain ⟨h0, g, d, t, os⟩ := s
 have VE := PySem.F.excBase_ValueError
 have f1 := tc_lookup
 have f2 := tc_bind (.ref C)
 have hT : (⟨h0, g, d, t, os⟩ : Shared).TypeIs (.ref C) "type" := ⟨_, hC, rfl⟩
 refine wpAny_call (codeAny_of_tree (show wpAny _ _ (callAny (.ref C) _) _ _ _ from ?_))
 repeat (any_goals (first | assumption | with_reducible refine wpAny_loadPart_at hC ?_ | wp_step))
 refine ⟨rfl, codeAny_call_builtin_at (Code.quiet_builtin _ (by decide +kernel)) entry_typeCall (wpAny_check_type_call_sub hC ?_)⟩
 repeat (first | with_reducible refine wpAny_madeBy_exc hC ?_ | with_reducible refine wpAny_loadPart_at hC ?_ | wp_step)
 refine codeAny_call_builtin_code (Code.quiet_builtin _ VE.quiet) (wpAny_check_new_subU VE (by decide +kernel) T hC (codeAny_exc_new_subU VE (by decide +kernel) VE T hC ?_ hl))
 show wpAny _ _ _ _ _ _
 have keep : ∀ b o, h0.get? b = some o → ((h0.push { cls := .type "tuple", data := .seq rest.toArray }).push (jU C h0.objs.size)).get? b = some o := fun b o z => Heap.get?_push_of_some _ (Heap.get?_push_of_some _ z)
 have gE : ((h0.push { cls := .type "tuple", data := .seq rest.toArray }).push (jU C h0.objs.size)).get? (h0.objs.size + 1) = some (jU C h0.objs.size) := by heap_get
 have Qp : (Value.ref C :: bm).contains (.ref C) = true := by simp
 have X1 := X.keeps keep
 have Qq := keep _ _ hC
 have J : PySem.W.InstAt ((h0.push { cls := .type "tuple", data := .seq rest.toArray }).push (jU C h0.objs.size)) (h0.objs.size + 1) (jU C h0.objs.size) C none := ⟨gE, rfl, rfl, trivial⟩
 unfold isInstance
 repeat (first | with_reducible refine wpAny_loadPart_at gE ?_ | wp_step)
 refine wpAny_isSubtype_exc Qq ?_
 rw [Qp]
 refine wpAny_bind (wpAny_holding (PySem.W.special_fn X1 J F.ini F.fn (wpAny_mono h (fun r s' z => ?_) fun _ _ z => z)))
 obtain ⟨rfl, z⟩ := z
 exact wpAny_pure z
variable {env : Env}
theorem By {x : Sem Value} {Q : Flow → Shared → Prop} (F : lB K C P fI) (hh : A.handled = none)
  (h : wpAny (model prog w) A x (fun u s1 => ∃ e t dx sl, u = .ref e ∧ K.In s1.heap ∧ s1.heap.get? e = some ⟨.ref C, dx, .fields #[.ref t, .none, .none, .none, .bool false, .none], sl⟩ ∧ E (.ref e) s1) E s) : wpAny (model prog w) A (raiseStmt env (some x) none) Q E s := by
 unfold raiseStmt
 refine wpAny_bind (wpAny_mono h (fun u s1 z => ?_) fun _ _ z => z)
 obtain ⟨e, t0, dx, sl, rfl, X, he, hE⟩ := z
 obtain ⟨bm, N, nm, q, bs, hdct, sn, sub, ab, col, dd, k0, k1, k2, k3, k5, hC, T⟩ := tF X F.ex
 obtain ⟨h1, g, d, t, os⟩ := s1
 have Qs : (Value.ref C :: bm).contains (.type "BaseException") = true := by rw [List.contains_cons, T.hasType (b := true) (by decide +kernel), Bool.or_true]
 repeat (first | with_reducible refine wpAny_loadPart_at he ?_ | with_reducible refine wpAny_loadPart_at hC ?_ | (with_reducible refine wpAny_isSubtype_exc hC ?_; rw [Qs]) | wp_step)
 exact wpAny_raiseNew_none hh hE
theorem BA {x : Str} {np cpos pos : Pos} {args : List Expr} {Q : Flow → Shared → Prop} (F : lB K C P fI) (hh : A.handled = none) (hplain : (backTo cpos (starEach args env)).any (·.1) = false)
  (h : wpAny (model prog w) A (eval (.Name x np) env) (fun f s1 => f = .ref C ∧ wpAny (model prog w) A (evalArgs (.ref C) true (backTo cpos (starEach args env)) []) (fun a s2 => a.kw = [] ∧ K.In s2.heap ∧
   wpAny (model prog w) A (call (.ref C) a.pos) (fun u s3 => ∃ e t dx sl, u = .ref e ∧ K.In s3.heap ∧ s3.heap.get? e = some ⟨.ref C, dx, .fields #[.ref t, .none, .none, .none, .bool false, .none], sl⟩ ∧ E (.ref e) s3) E s2) E s1) E s) :
  wpAny (model prog w) A (exec (.Raise (some (.Call (.Name x np) args [] cpos)) none pos) env) Q E s := by
 rw [arm_exec_Raise]
 refine wpAny_bind (wpAny_standAt (By F hh ?_))
 refine wpAny_bind (wpAny_mono (wpAny_Call_ofName (wpAny_mono h (fun f s1 h1 => ?_) fun _ _ z => z)) (fun u s3 h3 => wpAny_bind (wpAny_standAt (wpAny_pure h3))) fun _ _ z => z)
 obtain ⟨rfl, h1⟩ := h1
 unfold callWith
 refine wpAny_bind (wpAny_holding (wpAny_mono h1 (fun a s2 h2 => wpAny_bind (wpAny_standAt ?_)) fun _ _ z => z))
 obtain ⟨apos, Qt⟩ := a
 obtain ⟨hkw, X, h2⟩ := h2
 obtain rfl : Qt = [] := hkw
 obtain ⟨bm, N, nm, q, bs, hdct, sn, sub, ab, col, dd, k0, k1, k2, k3, k5, hC, T⟩ := tF X F.ex
 obtain ⟨hp, g, d, tk, os⟩ := s2
 simp only [hplain]
 refine wpAny_bind (wpAny_keeperOf_exc hC (wpAny_bind (wpAny_mono h2 (fun u s3 z => ?_) fun _ _ z => z)))
 exact wpAny_bind (wpAny_holding (wpAny_point (wpAny_pure z)))
end
end L3
end
section
set_option Elab.async false
set_option linter.all false
set_option maxRecDepth 100000
namespace L3
open PySem PySem.Spec L2
inductive D where
 | gk | bl (b : Bool) | int (i : Int) | str (x : Str) | tup (xs : List D) | con (xs : List D) | obj (n : Nat) | fn (x : Str) | jV (cls : Str) (args : List D)
inductive DO where
 | lst (xs : List D)
 | dead
 | dct (kvs : List (Key × D))
 | pB (fz : Bool) (kvs : List (List Key × D))
noncomputable abbrev DH := List DO
noncomputable abbrev DS := List (Option D)
inductive XD where
 | mk (cls : Str) (args : List D)
inductive Out (α : Type) where
 | stuck
 | ok (a : α) (G : DH)
 | dG (c : XD) (G : DH)
noncomputable abbrev M (α : Type) := DH → Out α
noncomputable def M.bind {α β : Type} (m : M α) (k : α → M β) : M β := fun G => match m G with
 | .stuck => .stuck
 | .ok a G' => k a G'
 | .dG c G' => .dG c G'
noncomputable def M.ret {α : Type} (a : α) : M α := fun G => .ok a G
noncomputable def M.stop {α : Type} : M α := fun _ => .stuck
noncomputable def zh (H : Hp) (a : Addr) (xs : List V) : Prop := H a = some (.tup xs)
theorem zh.of {H : Hp} {a : Addr} {xs : List V} (h : H a = some (.tup xs)) : zh H a xs := h
theorem zh.t {K : PySem.W.Frag} {H : Hp} {a : Addr} {xs : List V} (h : zh H a xs) : qS K H a xs := .inl (.inl h)
instance {K : PySem.W.Frag} {H : Hp} {a : Addr} {xs : List V} : Coe (zh H a xs) (qS K H a xs) := ⟨zh.t⟩
noncomputable def HN (K : PySem.W.Frag) (H : Hp) (a : Addr) (xs : List V) : Prop :=
 (∃ o, H a = some (.ly o (.lst xs))) ∨
  ∃ (o : Obj) (its : Array Value) (n : Nat), K.lookup a = some o ∧ o.cls = .type "list" ∧ o.dict = none ∧ o.data = .seq its n ∧ its.size ≤ sizeLine ∧ Vals xs its.toList
theorem HN.seq {K : PySem.W.Frag} {H : Hp} {a : Addr} {xs : List V} (h : HN K H a xs) : pq K H a xs := by
 rcases h with ⟨o, h⟩ | h
 ·exact .inl (.inr ⟨o, h⟩)
 ·exact .inr h
noncomputable def Ay (a : Addr) (cv : Value) (pl : Option Addr) : Heap → Prop := fun h => ∃ o vs, h.get? a = some o ∧ o.cls = cv ∧ o.data = .fields vs ∧ o.dict = pl
noncomputable def pC (d : Addr) (x : Str) : Heap → Prop := fun h => ∃ t, h.Ns1 d fun y => if y = "name" then some (.str x t) else none
noncomputable def BB (H : Hp) : List D → Option Addr → Prop
 | [.jV _ [.str x]], pl => ∃ d, pl = some d ∧ H d = some (.ext (pC d x))
 | _, _ => True
mutual
noncomputable def Rep (K : PySem.W.Frag) (mg : Str → Option Value) (ρ : List Addr) (H : Hp) : D → V → Prop
 | .gk, v => v = .gk
 | .bl b, v => v = .bl b
 | .int i, v => v = .int i
 | .str x, v => v = .str x
 | .tup ds, v => ∃ a xs, v = .ref a ∧ zh H a xs ∧ aE K mg ρ H ds xs
 | .con ds, v => ∃ a xs, v = .ref a ∧ HN K H a xs ∧ aE K mg ρ H ds xs
 | .obj n, v => ∃ a, v = .ref a ∧ ρ[n]? = some a
 | .fn x, v => ∃ a, v = .ref a ∧ mg x = some (.ref a)
 | .jV c as, v => ∃ a cv pl, v = .ref a ∧ mg c = some cv ∧ H a = some (.ext (Ay a cv pl)) ∧ BB H as pl
noncomputable def aE (K : PySem.W.Frag) (mg : Str → Option Value) (ρ : List Addr) (H : Hp) : List D → List V → Prop
 | [], vs => vs = []
 | d :: ds, vs => ∃ v r, vs = v :: r ∧ Rep K mg ρ H d v ∧ aE K mg ρ H ds r
end
noncomputable def stay : HO → Bool
 | .ext _ => true
 | .ly _ _ => true
 | _ => false
noncomputable def CI (H : Hp) (a : Addr) (u : HO) : Prop := H a = some u ∧ stay u = true
theorem CI.upd {H : Hp} {p a : Addr} {o u w : HO} (h : CI H a u) (hp : H p = some o) (ho : stay o = false) : CI (L2.upd H p w) a u :=
 ⟨by rw [aK (oi h.1 hp (by rintro rfl; rw [h.2] at ho; cases ho))]; exact h.1, h.2⟩
structure d9 (K : PySem.W.Frag) (H H' : Hp) (ρ ρ' : List Addr) : Prop where
 tup : ∀ a xs, zh H a xs → zh H' a xs
 con : ∀ a xs, HN K H a xs → HN K H' a xs
 pre : ∃ r, ρ' = ρ ++ r
 ext : ∀ a u, CI H a u → CI H' a u
section
variable {K : PySem.W.Frag} {mg : Str → Option Value} {H H' H1 H2 : Hp} {ρ ρ' ρ1 ρ2 : List Addr}
theorem d9.refl : d9 K H H ρ ρ := ⟨fun _ _ h => h, fun _ _ h => h, ⟨[], by simp⟩, fun _ _ h => h⟩
theorem d9.trans (a : d9 K H H1 ρ ρ1) (b : d9 K H1 H2 ρ1 ρ2) : d9 K H H2 ρ ρ2 := by
 obtain ⟨r1, e1⟩ := a.pre
 obtain ⟨r2, e2⟩ := b.pre
 exact ⟨fun x xs h => b.tup x xs (a.tup x xs h), fun x xs h => b.con x xs (a.con x xs h), ⟨r1 ++ r2, by rw [e2, e1, List.append_assoc]⟩, fun x φ h => b.ext x φ (a.ext x φ h)⟩
theorem d9.get (f : d9 K H H' ρ ρ') {n : Nat} {a : Addr} (h : ρ[n]? = some a) : ρ'[n]? = some a := by
 obtain ⟨r, e⟩ := f.pre
 rw [e, List.getElem?_append_left (List.getElem?_eq_some_iff.mp h).1]; exact h
theorem BB.mono (f : d9 K H H' ρ ρ') {as : List D} {pl : Option Addr} (h : BB H as pl) : BB H' as pl := by
 unfold BB at h ⊢
 split at h
 ·obtain ⟨d, e, r⟩ := h
  exact ⟨d, e, (f.ext _ _ ⟨r, rfl⟩).1⟩
 ·exact h
mutual
theorem Rep.mono (f : d9 K H H' ρ ρ') : ∀ (d : D) (v : V), Rep K mg ρ H d v → Rep K mg ρ' H' d v
 | .gk, v, h => by unfold Rep at h ⊢; exact h
 | .bl b, v, h => by unfold Rep at h ⊢; exact h
 | .int i, v, h => by unfold Rep at h ⊢; exact h
 | .str x, v, h => by unfold Rep at h ⊢; exact h
 | .tup ds, v, h => by
  unfold Rep at h ⊢
  obtain ⟨a, xs, e, s, r⟩ := h
  exact ⟨a, xs, e, f.tup _ _ s, aE.mono f ds xs r⟩
 | .con ds, v, h => by
  unfold Rep at h ⊢
  obtain ⟨a, xs, e, s, r⟩ := h
  exact ⟨a, xs, e, f.con _ _ s, aE.mono f ds xs r⟩
 | .obj n, v, h => by
  unfold Rep at h ⊢
  obtain ⟨a, e, r⟩ := h
  exact ⟨a, e, f.get r⟩
 | .fn x, v, h => by unfold Rep at h ⊢; exact h
 | .jV c as, v, h => by
  unfold Rep at h ⊢
  obtain ⟨a, cv, pl, e, m, r, p⟩ := h
  exact ⟨a, cv, pl, e, m, (f.ext _ _ ⟨r, rfl⟩).1, p.mono f⟩
theorem aE.mono (f : d9 K H H' ρ ρ') : ∀ (ds : List D) (vs : List V), aE K mg ρ H ds vs → aE K mg ρ' H' ds vs
 | [], vs, h => by unfold aE at h ⊢; exact h
 | d :: ds, vs, h => by
  unfold aE at h ⊢
  obtain ⟨v, r, e, h1, h2⟩ := h
  exact ⟨v, r, e, Rep.mono f d v h1, aE.mono f ds r h2⟩
end
theorem aE.length : ∀ {ds : List D} {vs : List V}, aE K mg ρ H ds vs → ds.length = vs.length
 | [], vs, h => by unfold aE at h; subst h; rfl
 | d :: ds, vs, h => by
  unfold aE at h
  obtain ⟨v, r, rfl, _, h2⟩ := h
  simp [aE.length h2]
theorem aE.nil : aE K mg ρ H [] [] := by unfold aE; rfl
theorem aE.cons {d : D} {v : V} {ds : List D} {vs : List V} (h : Rep K mg ρ H d v) (t : aE K mg ρ H ds vs) : aE K mg ρ H (d :: ds) (v :: vs) := by
 unfold aE; exact ⟨v, vs, rfl, h, t⟩
theorem aE.get : ∀ {ds : List D} {vs : List V} {i : Nat} {d : D}, aE K mg ρ H ds vs → ds[i]? = some d → ∃ v, vs[i]? = some v ∧ Rep K mg ρ H d v
 | [], vs, i, d, h, e => by simp at e
 | x :: ds, vs, 0, d, h, e => by
  unfold aE at h
  obtain ⟨v, r, rfl, h1, _⟩ := h
  simp at e; subst e
  exact ⟨v, rfl, h1⟩
 | x :: ds, vs, i + 1, d, h, e => by
  unfold aE at h
  obtain ⟨v, r, rfl, _, h2⟩ := h
  obtain ⟨u, e1, e2⟩ := aE.get (i := i) (d := d) h2 (by simpa using e)
  exact ⟨u, by simpa using e1, e2⟩
theorem aE.append : ∀ {ds es : List D} {vs us : List V}, aE K mg ρ H ds vs → aE K mg ρ H es us → aE K mg ρ H (ds ++ es) (vs ++ us)
 | [], es, vs, us, h, h' => by unfold aE at h; subst h; exact h'
 | d :: ds, es, vs, us, h, h' => by
  unfold aE at h
  obtain ⟨v, r, rfl, h1, h2⟩ := h
  exact .cons h1 (aE.append h2 h')
theorem aE.take : ∀ (n : Nat) {ds : List D} {vs : List V}, aE K mg ρ H ds vs → aE K mg ρ H (ds.take n) (vs.take n)
 | 0, _, _, _ => by simpa using aE.nil
 | n + 1, [], vs, h => by unfold aE at h; subst h; simpa using aE.nil
 | n + 1, d :: ds, vs, h => by
  unfold aE at h
  obtain ⟨v, r, rfl, h1, h2⟩ := h
  exact .cons h1 (aE.take n h2)
theorem aE.drop : ∀ (n : Nat) {ds : List D} {vs : List V}, aE K mg ρ H ds vs → aE K mg ρ H (ds.drop n) (vs.drop n)
 | 0, _, _, h => by simpa using h
 | n + 1, [], vs, h => by unfold aE at h; subst h; simpa using aE.nil
 | n + 1, d :: ds, vs, h => by
  unfold aE at h
  obtain ⟨v, r, rfl, h1, h2⟩ := h
  simpa using aE.drop n h2
theorem aE.set {x : D} {y : V} (hx : Rep K mg ρ H x y) : ∀ (n : Nat) {ds : List D} {vs : List V}, aE K mg ρ H ds vs → aE K mg ρ H (ds.set n x) (vs.set n y)
 | _, [], vs, h => by unfold aE at h; subst h; simpa using aE.nil
 | 0, d :: ds, vs, h => by
  unfold aE at h
  obtain ⟨v, r, rfl, h1, h2⟩ := h
  exact .cons hx h2
 | n + 1, d :: ds, vs, h => by
  unfold aE at h
  obtain ⟨v, r, rfl, h1, h2⟩ := h
  exact .cons h1 (aE.set hx n h2)
theorem aE.ints : ∀ (ns : List Int), aE K mg ρ H (ns.map D.int) (ns.map V.int)
 | [] => .nil
 | n :: ns => .cons (by unfold Rep; rfl) (aE.ints ns)
end
noncomputable def EV (K : PySem.W.Frag) (mg : Str → Option Value) (ρ : List Addr) (H : Hp) (a : Addr) : DO → Prop
 | .lst ds => ∃ xs, H a = some (.lst xs) ∧ aE K mg ρ H ds xs
 | .dead => ∃ o, H a = some o
 | .dct kvs => ∃ xs, H a = some (.dK ((kvs.map (·.1)).zip xs)) ∧ aE K mg ρ H (kvs.map (·.2)) xs
 | .pB fz kvs => ∃ xs, (if fz = true then ∃ o, H a = some (.ly o (.dT ((kvs.map (·.1)).zip xs))) else H a = some (.dT ((kvs.map (·.1)).zip xs))) ∧ aE K mg ρ H (kvs.map (·.2)) xs
structure kc (K : PySem.W.Frag) (mg : Str → Option Value) (H : Hp) (ρ : List Addr) (G : DH) : Prop where
 hl : ρ.length = G.length
 nd : ρ.Nodup
 ob : ∀ (n : Nat) (o : DO), G[n]? = some o → ∃ a, ρ[n]? = some a ∧ EV K mg ρ H a o
noncomputable def se (K : PySem.W.Frag) (mg : Str → Option Value) (H : Hp) (ρ : List Addr) (σ : St) (τ : DS) : Prop :=
 σ.length = τ.length ∧ ∀ (i : Nat) (d : D), τ[i]? = some (some d) → ∃ v, σ[i]? = some (some v) ∧ Rep K mg ρ H d v
structure Ab (K : PySem.W.Frag) (mg : Str → Option Value) (σ : St) (H : Hp) (τ : DS) (ρ : List Addr) (G : DH) : Prop where
 st : se K mg H ρ σ τ
 hp : kc K mg H ρ G
section
variable {K : PySem.W.Frag} {mg : Str → Option Value} {H H' H1 H2 : Hp} {ρ ρ' ρ1 ρ2 : List Addr} {G G' : DH} {σ : L2.St} {τ : DS}
theorem se.mono (f : d9 K H H' ρ ρ') (h : se K mg H ρ σ τ) : se K mg H' ρ' σ τ := ⟨h.1, fun i d e => by
 obtain ⟨v, e1, r⟩ := h.2 i d e
 exact ⟨v, e1, r.mono f⟩⟩
theorem se.set {i : Nat} {d : D} {v : V} (h : se K mg H ρ σ τ) (r : Rep K mg ρ H d v) : se K mg H ρ (σ.set i (some v)) (τ.set i (some d)) := by
 refine ⟨by simp [h.1], fun j e he => ?_⟩
 by_cases hj : i = j
 ·subst hj
  rw [List.getElem?_set] at he
  by_cases hi : i < τ.length
  ·rw [if_pos rfl, if_pos hi] at he
   cases he
   exact ⟨v, by rw [List.getElem?_set, if_pos rfl, if_pos (by rw [h.1]; exact hi)], r⟩
  ·rw [if_pos rfl, if_neg hi] at he
   cases he
 ·rw [List.getElem?_set_ne hj] at he
  obtain ⟨u, e1, r1⟩ := h.2 j e he
  exact ⟨u, by rw [List.getElem?_set_ne hj]; exact e1, r1⟩
theorem Ab.fut (ab : Ab K mg σ H τ ρ G) (f : d9 K H H' ρ ρ') (hp : kc K mg H' ρ' G') : Ab K mg σ H' τ ρ' G' := ⟨ab.st.mono f, hp⟩
theorem kc.lst {n : Nat} {ds : List D} (h : kc K mg H ρ G) (e : G[n]? = some (.lst ds)) : ∃ a xs, ρ[n]? = some a ∧ H a = some (.lst xs) ∧ aE K mg ρ H ds xs := by
 obtain ⟨a, e1, xs, e2, r⟩ := h.ob n _ e
 exact ⟨a, xs, e1, e2, r⟩
theorem kc.there {n : Nat} {a : Addr} (h : kc K mg H ρ G) (e : ρ[n]? = some a) : ∃ o, H a = some o := by
 have hn : n < G.length := by rw [← h.hl]; exact (List.getElem?_eq_some_iff.mp e).1
 obtain ⟨a', e1, r⟩ := h.ob n G[n] (List.getElem?_eq_getElem hn)
 rw [e] at e1; cases e1
 cases hg : G[n] with
 | lst xs => rw [hg] at r; obtain ⟨ys, e2, _⟩ := r; exact ⟨_, e2⟩
 | dead => rw [hg] at r; exact r
 | dct kv => rw [hg] at r; obtain ⟨ys, e2, _⟩ := r; exact ⟨_, e2⟩
 | pB fz kv =>
  rw [hg] at r; obtain ⟨ys, e2, _⟩ := r
  cases fz
  ·exact ⟨_, e2⟩
  ·obtain ⟨o, e2⟩ := e2; exact ⟨_, e2⟩
theorem kc.not_mem {p : Addr} (h : kc K mg H ρ G) (hp : H p = none) : p ∉ ρ := fun hm => by
 obtain ⟨n, hn, e⟩ := List.getElem_of_mem hm
 obtain ⟨o, q⟩ := h.there (n := n) (a := p) (by rw [List.getElem?_eq_getElem hn, e])
 rw [hp] at q; cases q
theorem EV.mono {a : Addr} {o : DO} (f : d9 K H H' ρ ρ') (he : ∀ u, H a = some u → H' a = some u) (h : EV K mg ρ H a o) : EV K mg ρ' H' a o := by
 cases o with
 | lst ds =>
  obtain ⟨xs, e, r⟩ := h
  exact ⟨xs, he _ e, r.mono f⟩
 | dead =>
  obtain ⟨o, e⟩ := h
  exact ⟨o, he _ e⟩
 | dct kv =>
  obtain ⟨xs, e, r⟩ := h
  exact ⟨xs, he _ e, r.mono f⟩
 | pB fz kv =>
  obtain ⟨xs, e, r⟩ := h
  refine ⟨xs, ?_, r.mono f⟩
  cases fz
  ·exact he _ e
  ·obtain ⟨o, e⟩ := e; exact ⟨o, he _ e⟩
theorem gD {p : Addr} {o : HO} (hp : H p = none) (ρ : List Addr) : d9 K H (upd H p o) ρ ρ := by
 refine ⟨fun a xs h => ?_, fun a xs h => ?_, ⟨[], by simp⟩, fun a φ h => ⟨by rw [aK (bI h.1 hp)]; exact h.1, h.2⟩⟩
 ·exact (by rw [zh, aK (bI h hp)]; exact h)
 ·rcases h with ⟨q, h⟩ | h
  ·exact .inl ⟨q, by rw [aK (bI h hp)]; exact h⟩
  ·exact .inr h
theorem sL {p : Addr} {xs ys : List V} (hp : H p = some (.lst xs)) (ρ : List Addr) : d9 K H (upd H p (.lst ys)) ρ ρ := by
 refine ⟨fun a zs h => ?_, fun a zs h => ?_, ⟨[], by simp⟩, fun a φ h => h.upd hp rfl⟩
 ·exact (by rw [zh, aK (oi h hp (by intro z; cases z))]; exact h)
 ·rcases h with ⟨q, h⟩ | h
  ·exact .inl ⟨q, by rw [aK (oi h hp (by intro z; cases z))]; exact h⟩
  ·exact .inr h
theorem kc.new {p : Addr} {o : HO} (h : kc K mg H ρ G) (hp : H p = none) : kc K mg (upd H p o) ρ G :=
 ⟨h.hl, h.nd, fun n ob e => by
  obtain ⟨a, e1, r⟩ := h.ob n ob e
  exact ⟨a, e1, r.mono (gD hp ρ) fun u q => by rw [aK (bI q hp)]; exact q⟩⟩
theorem cQ {α : Type} (l : List α) (a : α) : (l ++ [a])[l.length]? = some a := by simp
theorem pZ (ρ : List Addr) (p : Addr) : d9 K H H ρ (ρ ++ [p]) := ⟨fun _ _ h => h, fun _ _ h => h, ⟨[p], rfl⟩, fun _ _ h => h⟩
theorem kc.more {p : Addr} {ds : List D} {xs : List V} (h : kc K mg H ρ G) (hp : H p = none) (r : aE K mg ρ H ds xs) : kc K mg (upd H p (.lst xs)) (ρ ++ [p]) (G ++ [.lst ds]) := by
 have f : d9 K H (upd H p (.lst xs)) ρ (ρ ++ [p]) := (gD hp ρ).trans (pZ ρ p)
 refine ⟨by simp [h.hl], ?_, fun n ob e => ?_⟩
 ·rw [List.nodup_append]
  refine ⟨h.nd, by simp, fun a ha b hb => ?_⟩
  have e : b = p := by simpa using hb
  subst e
  rintro rfl
  exact h.not_mem hp ha
 ·by_cases hn : n < G.length
  ·rw [List.getElem?_append_left hn] at e
   obtain ⟨a, e1, r'⟩ := h.ob n ob e
   exact ⟨a, f.get e1, r'.mono f fun u q => by rw [aK (bI q hp)]; exact q⟩
  ·have hl : n < (G ++ [DO.lst ds]).length := (List.getElem?_eq_some_iff.mp e).1
   have hn' : n = G.length := by simp at hl; omega
   subst hn'
   rw [cQ] at e
   cases e
   refine ⟨p, by rw [← h.hl, cQ], xs, bT, r.mono f⟩
theorem kc.put {n : Nat} {a : Addr} {ds es : List D} {xs ys : List V} (h : kc K mg H ρ G) (hn : ρ[n]? = some a) (ha : H a = some (.lst xs)) (r : aE K mg ρ H es ys) : kc K mg (upd H a (.lst ys)) ρ (G.set n (.lst es)) := by
 have f : d9 K H (upd H a (.lst ys)) ρ ρ := sL ha ρ
 refine ⟨by simp [h.hl], h.nd, fun m ob e => ?_⟩
 by_cases hm : n = m
 ·subst hm
  rw [List.getElem?_set, if_pos rfl] at e
  split at e
  ·cases e
   exact ⟨a, hn, ys, bT, r.mono f⟩
  ·cases e
 ·rw [List.getElem?_set_ne hm] at e
  obtain ⟨b, e1, r'⟩ := h.ob m ob e
  have hb : b ≠ a := by
   rintro rfl
   obtain ⟨h1, Az⟩ := List.getElem?_eq_some_iff.mp hn
   obtain ⟨h2, En⟩ := List.getElem?_eq_some_iff.mp e1
   exact hm ((List.getElem_inj h.nd).mp (Az.trans En.symm))
  exact ⟨b, e1, r'.mono f fun u q => by rw [aK hb]; exact q⟩
end
noncomputable def vH (mg : Str → Option Value) (H : Hp) (c : XD) (cls : Value) (pl : Option Addr) : Prop := match c with | .mk n as => mg n = some cls ∧ BB H as pl
noncomputable abbrev eU := XD → St → Hp → Prop
section
variable (K : PySem.W.Frag) (mg : Str → Option Value) (EE : eU)
noncomputable def nQ (H : Hp) (σ : St) (τ : DS) (ρ : List Addr) : Out D → VK → Prop
 | .stuck, _ => False
 | .ok d G', Q => ∀ v H' ρ', d9 K H H' ρ ρ' → Ab K mg σ H' τ ρ' G' → Rep K mg ρ' H' d v → Q v H'
 | .dG c G', _ => ∀ H' ρ', d9 K H H' ρ ρ' → Ab K mg σ H' τ ρ' G' → EE c σ H'
noncomputable def Jg (H : Hp) (σ : St) (τ : DS) (ρ : List Addr) : Out Bool → (Bool → Hp → Prop) → Prop
 | .stuck, _ => False
 | .ok b G', Q => ∀ H' ρ', d9 K H H' ρ ρ' → Ab K mg σ H' τ ρ' G' → Q b H'
 | .dG c G', _ => ∀ H' ρ', d9 K H H' ρ ρ' → Ab K mg σ H' τ ρ' G' → EE c σ H'
noncomputable def J6 (H : Hp) (σ : St) (τ : DS) (ρ : List Addr) : Out (List D) → (List V → Hp → Prop) → Prop
 | .stuck, _ => False
 | .ok ds G', Q => ∀ vs H' ρ', d9 K H H' ρ ρ' → Ab K mg σ H' τ ρ' G' → aE K mg ρ' H' ds vs → Q vs H'
 | .dG c G', _ => ∀ H' ρ', d9 K H H' ρ ρ' → Ab K mg σ H' τ ρ' G' → EE c σ H'
noncomputable def e7 (m : DS → M D) : TE := fun σ H Q => ∃ τ ρ G, Ab K mg σ H τ ρ G ∧ nQ K mg EE H σ τ ρ (m τ G) Q
noncomputable def liftT (m : DS → M Bool) : TT := fun σ H Q => ∃ τ ρ G, Ab K mg σ H τ ρ G ∧ Jg K mg EE H σ τ ρ (m τ G) Q
noncomputable def tG (m : DS → M (List D)) : TA := fun σ H Q => ∃ τ ρ G, Ab K mg σ H τ ρ G ∧ J6 K mg EE H σ τ ρ (m τ G) Q
inductive Res where
 | stuck
 | nx (τ : DS) (G : DH)
 | rt (d : D) (G : DH)
 | bk (τ : DS) (G : DH)
 | ct (τ : DS) (G : DH)
 | xn (c : XD) (τ : DS) (G : DH)
noncomputable def uO (H : Hp) (ρ : List Addr) (Dd : Ends) : Res → Prop
 | .stuck => False
 | .nx τ G => ∀ σ' H' ρ', d9 K H H' ρ ρ' → Ab K mg σ' H' τ ρ' G → Dd.nx σ' H'
 | .bk τ G => ∀ σ' H' ρ', d9 K H H' ρ ρ' → Ab K mg σ' H' τ ρ' G → Dd.bk σ' H'
 | .ct τ G => ∀ σ' H' ρ', d9 K H H' ρ ρ' → Ab K mg σ' H' τ ρ' G → Dd.ct σ' H'
 | .rt d G => ∀ v H' ρ', d9 K H H' ρ ρ' → kc K mg H' ρ' G → Rep K mg ρ' H' d v → Dd.rt v H'
 | .xn c τ G => ∀ σ' H' ρ', d9 K H H' ρ ρ' → Ab K mg σ' H' τ ρ' G → EE c σ' H'
noncomputable abbrev MS := DS → DH → Res
noncomputable def lC (m : MS) : TS := fun Dd σ H => ∃ τ ρ G, Ab K mg σ H τ ρ G ∧ uO K mg EE H ρ Dd (m τ G)
end
section
variable {K : PySem.W.Frag} {mg : Str → Option Value} {EE : eU} {H H1 : Hp} {σ : L2.St} {τ : DS} {ρ ρ1 : List Addr}
theorem nQ.fut {r : Out D} {Q : VK} (f : d9 K H H1 ρ ρ1) (h : nQ K mg EE H σ τ ρ r Q) : nQ K mg EE H1 σ τ ρ1 r Q := by
 cases r with
 | stuck => exact h
 | ok d G' => exact fun v H' ρ' f' => h v H' ρ' (f.trans f')
 | dG c G' => exact fun H' ρ' f' => h H' ρ' (f.trans f')
theorem Jg.fut {r : Out Bool} {Q : Bool → Hp → Prop} (f : d9 K H H1 ρ ρ1) (h : Jg K mg EE H σ τ ρ r Q) : Jg K mg EE H1 σ τ ρ1 r Q := by
 cases r with
 | stuck => exact h
 | ok d G' => exact fun H' ρ' f' => h H' ρ' (f.trans f')
 | dG c G' => exact fun H' ρ' f' => h H' ρ' (f.trans f')
theorem J6.fut {r : Out (List D)} {Q : List V → Hp → Prop} (f : d9 K H H1 ρ ρ1) (h : J6 K mg EE H σ τ ρ r Q) : J6 K mg EE H1 σ τ ρ1 r Q := by
 cases r with
 | stuck => exact h
 | ok d G' => exact fun v H' ρ' f' => h v H' ρ' (f.trans f')
 | dG c G' => exact fun H' ρ' f' => h H' ρ' (f.trans f')
theorem uO.fut {r : Res} {Dd : Ends} (f : d9 K H H1 ρ ρ1) (h : uO K mg EE H ρ Dd r) : uO K mg EE H1 ρ1 Dd r := by
 cases r with
 | stuck => exact h
 | nx τ G => exact fun s H' ρ' f' => h s H' ρ' (f.trans f')
 | bk τ G => exact fun s H' ρ' f' => h s H' ρ' (f.trans f')
 | ct τ G => exact fun s H' ρ' f' => h s H' ρ' (f.trans f')
 | rt d G => exact fun s H' ρ' f' => h s H' ρ' (f.trans f')
 | xn c τ G => exact fun s H' ρ' f' => h s H' ρ' (f.trans f')
theorem nk {m : DS → M D} {k : DS → D → M D} {Q : VK} (h : e7 K mg EE (fun τ => (m τ).bind (k τ)) σ H Q) :
  e7 K mg EE m σ H fun x H1 => ∃ τ ρ G d, Ab K mg σ H1 τ ρ G ∧ Rep K mg ρ H1 d x ∧ nQ K mg EE H1 σ τ ρ (k τ d G) Q := by
 obtain ⟨τ, ρ, G, ab, ok⟩ := h
 refine ⟨τ, ρ, G, ab, ?_⟩
 dsimp only [M.bind] at ok
 cases e : m τ G with
 | stuck => rw [e] at ok; exact ok
 | dG c G' => rw [e] at ok; exact ok
 | ok d G' => rw [e] at ok; exact fun v H' ρ' f cG r => ⟨τ, ρ', G', d, cG, r, ok.fut f⟩
theorem CJ {m : DS → M D} {k : DS → D → M Bool} {Q : Bool → Hp → Prop} (h : liftT K mg EE (fun τ => (m τ).bind (k τ)) σ H Q) :
  e7 K mg EE m σ H fun x H1 => ∃ τ ρ G d, Ab K mg σ H1 τ ρ G ∧ Rep K mg ρ H1 d x ∧ Jg K mg EE H1 σ τ ρ (k τ d G) Q := by
 obtain ⟨τ, ρ, G, ab, ok⟩ := h
 refine ⟨τ, ρ, G, ab, ?_⟩
 dsimp only [M.bind] at ok
 cases e : m τ G with
 | stuck => rw [e] at ok; exact ok
 | dG c G' => rw [e] at ok; exact ok
 | ok d G' => rw [e] at ok; exact fun v H' ρ' f cG r => ⟨τ, ρ', G', d, cG, r, ok.fut f⟩
theorem HP {m : DS → M Bool} {k : DS → Bool → M D} {Q : VK} (h : e7 K mg EE (fun τ => (m τ).bind (k τ)) σ H Q) :
  liftT K mg EE m σ H fun b H1 => ∃ τ ρ G, Ab K mg σ H1 τ ρ G ∧ nQ K mg EE H1 σ τ ρ (k τ b G) Q := by
 obtain ⟨τ, ρ, G, ab, ok⟩ := h
 refine ⟨τ, ρ, G, ab, ?_⟩
 dsimp only [M.bind] at ok
 cases e : m τ G with
 | stuck => rw [e] at ok; exact ok
 | dG c G' => rw [e] at ok; exact ok
 | ok d G' => rw [e] at ok; exact fun H' ρ' f cG => ⟨τ, ρ', G', cG, ok.fut f⟩
theorem zH {m : DS → M Bool} {k : DS → Bool → M Bool} {Q : Bool → Hp → Prop} (h : liftT K mg EE (fun τ => (m τ).bind (k τ)) σ H Q) :
  liftT K mg EE m σ H fun b H1 => ∃ τ ρ G, Ab K mg σ H1 τ ρ G ∧ Jg K mg EE H1 σ τ ρ (k τ b G) Q := by
 obtain ⟨τ, ρ, G, ab, ok⟩ := h
 refine ⟨τ, ρ, G, ab, ?_⟩
 dsimp only [M.bind] at ok
 cases e : m τ G with
 | stuck => rw [e] at ok; exact ok
 | dG c G' => rw [e] at ok; exact ok
 | ok d G' => rw [e] at ok; exact fun H' ρ' f cG => ⟨τ, ρ', G', cG, ok.fut f⟩
theorem HQ {m : DS → M D} {k : DS → D → M (List D)} {Q : List V → Hp → Prop} (h : tG K mg EE (fun τ => (m τ).bind (k τ)) σ H Q) :
  e7 K mg EE m σ H fun x H1 => ∃ τ ρ G d, Ab K mg σ H1 τ ρ G ∧ Rep K mg ρ H1 d x ∧ J6 K mg EE H1 σ τ ρ (k τ d G) Q := by
 obtain ⟨τ, ρ, G, ab, ok⟩ := h
 refine ⟨τ, ρ, G, ab, ?_⟩
 dsimp only [M.bind] at ok
 cases e : m τ G with
 | stuck => rw [e] at ok; exact ok
 | dG c G' => rw [e] at ok; exact ok
 | ok d G' => rw [e] at ok; exact fun v H' ρ' f cG r => ⟨τ, ρ', G', d, cG, r, ok.fut f⟩
theorem CK {m : DS → M (List D)} {k : DS → List D → M D} {Q : VK} (h : e7 K mg EE (fun τ => (m τ).bind (k τ)) σ H Q) :
  tG K mg EE m σ H fun x H1 => ∃ τ ρ G d, Ab K mg σ H1 τ ρ G ∧ aE K mg ρ H1 d x ∧ nQ K mg EE H1 σ τ ρ (k τ d G) Q := by
 obtain ⟨τ, ρ, G, ab, ok⟩ := h
 refine ⟨τ, ρ, G, ab, ?_⟩
 dsimp only [M.bind] at ok
 cases e : m τ G with
 | stuck => rw [e] at ok; exact ok
 | dG c G' => rw [e] at ok; exact ok
 | ok d G' => rw [e] at ok; exact fun v H' ρ' f cG r => ⟨τ, ρ', G', d, cG, r, ok.fut f⟩
noncomputable def cZ {α : Type} (m : M α) (k : α → DH → Res) (x : XD → DH → Res) : DH → Res := fun G => match m G with
 | .stuck => .stuck
 | .ok a G' => k a G'
 | .dG c G' => x c G'
theorem tH {m : DS → M D} {k : DS → D → DH → Res} {Dd : Ends} (h : lC K mg EE (fun τ => cZ (m τ) (k τ) fun c G => .xn c τ G) Dd σ H) :
  e7 K mg EE m σ H fun x H1 => ∃ τ ρ G d, Ab K mg σ H1 τ ρ G ∧ Rep K mg ρ H1 d x ∧ uO K mg EE H1 ρ Dd (k τ d G) := by
 obtain ⟨τ, ρ, G, ab, ok⟩ := h
 refine ⟨τ, ρ, G, ab, ?_⟩
 dsimp only [cZ] at ok
 cases e : m τ G with
 | stuck => rw [e] at ok; exact ok
 | dG c G' => rw [e] at ok; exact fun H' ρ' f cG => ok σ H' ρ' f cG
 | ok d G' => rw [e] at ok; exact fun v H' ρ' f cG r => ⟨τ, ρ', G', d, cG, r, ok.fut f⟩
theorem HR {m : DS → M Bool} {k : DS → Bool → DH → Res} {Dd : Ends} (h : lC K mg EE (fun τ => cZ (m τ) (k τ) fun c G => .xn c τ G) Dd σ H) :
  liftT K mg EE m σ H fun b H1 => ∃ τ ρ G, Ab K mg σ H1 τ ρ G ∧ uO K mg EE H1 ρ Dd (k τ b G) := by
 obtain ⟨τ, ρ, G, ab, ok⟩ := h
 refine ⟨τ, ρ, G, ab, ?_⟩
 dsimp only [cZ] at ok
 cases e : m τ G with
 | stuck => rw [e] at ok; exact ok
 | dG c G' => rw [e] at ok; exact fun H' ρ' f cG => ok σ H' ρ' f cG
 | ok d G' => rw [e] at ok; exact fun H' ρ' f cG => ⟨τ, ρ', G', cG, ok.fut f⟩
end
noncomputable def QE (X : Cx) (EE : eU) (e : Expr) (m : DS → M D) : Prop := PE X e (e7 X.K X.mg EE m)
noncomputable def QT (X : Cx) (EE : eU) (e : Expr) (m : DS → M Bool) : Prop := PT X e (liftT X.K X.mg EE m)
noncomputable def QW (X : Cx) (EE : eU) (e : Expr) (m : DS → M Bool) : Prop := PW X e (liftT X.K X.mg EE m)
noncomputable def QA (X : Cx) (EE : eU) (es : List Expr) (m : DS → M (List D)) : Prop := PA X es (tG X.K X.mg EE m)
noncomputable def QS (X : Cx) (EE : eU) (st : Stmt) (m : MS) : Prop := PS X st (lC X.K X.mg EE m)
noncomputable def zI (X : Cx) (EE : eU) (st : List Stmt) (m : MS) : Prop := xJ X st (lC X.K X.mg EE m)
section
variable {X : Cx}
theorem PE.mono {e : Expr} {t t' : TE} (h : PE X e t) (i : ∀ σ H Q, t' σ H Q → t σ H Q) : PE X e t' := fun pins s σ H Q I q => h pins s σ H Q I (i _ _ _ q)
theorem PT.mono {e : Expr} {t t' : TT} (h : PT X e t) (i : ∀ σ H Q, t' σ H Q → t σ H Q) : PT X e t' := fun pins s σ H Q I q => h pins s σ H Q I (i _ _ _ q)
theorem PA.mono {e : List Expr} {t t' : TA} (h : PA X e t) (i : ∀ σ H Q, t' σ H Q → t σ H Q) : PA X e t' := fun pos pins s σ H Q I q => h pos pins s σ H Q I (i _ _ _ q)
theorem PS.mono {e : Stmt} {t t' : TS} (h : PS X e t) (i : ∀ D σ H, t' D σ H → t D σ H) : PS X e t' := fun pins s σ H D I q => h pins s σ H D I (i _ _ _ q)
theorem xJ.mono {e : List Stmt} {t t' : TS} (h : xJ X e t) (i : ∀ D σ H, t' D σ H → t D σ H) : xJ X e t' := fun pins s σ H D I q => h pins s σ H D I (i _ _ _ q)
end
end L3
end
section
set_option Elab.async false
set_option linter.all false
set_option maxRecDepth 100000
namespace L3
open PySem PySem.Spec L2
section
variable {X : Cx} {EE : eU} {a b c : Expr} {ma mb mc : DS → M D} {pos : Pos}
noncomputable def aj (i : Nat) : DS → M D := fun τ G => match τ[i]? with
 | some (some d) => .ok d G
 | _ => .stuck
noncomputable def eC (d : D) : DS → M D := fun _ => M.ret d
theorem HS (i : Nat) {x : Str} {pos : Pos} (hN : X.N[i]? = some x := by rfl) (hv : FU X.env.scope x := by first | exact Or.inl rfl | exact Or.inr (Or.inl rfl) | exact Or.inr (Or.inr rfl)) (hd : (x == ("__debug__" : Str)) = false := by decide)
  (hcd : (x == ("__classdict__" : Str)) = false := by decide) : QE X EE (.Name x pos) (aj i) := PE.mono (zp hN hv hd hcd) fun σ H Q ⟨τ, ρ, G, ab, ok⟩ => by
 unfold aj at ok
 cases e : τ[i]? with
 | none => rw [e] at ok; exact ok.elim
 | some o =>
  cases o with
  | none => rw [e] at ok; exact ok.elim
  | some d =>
   rw [e] at ok
   obtain ⟨v, e1, r⟩ := ab.st.2 i d e
   exact ⟨v, e1, ok v H ρ .refl ab r⟩
theorem EW {d : D} {v : V} {e : Expr} (h : PE X e (tC v)) (r : ∀ ρ H, Rep X.K X.mg ρ H d v) : QE X EE e (eC d) := PE.mono h fun σ H Q ⟨τ, ρ, G, ab, ok⟩ => ok v H ρ .refl ab (r ρ H)
theorem ak {i : Int} {j pos} : QE X EE (.Constant (.int i) j pos) (eC (.int i)) := EW GQ fun _ _ => by unfold Rep; rfl
theorem AA {i : Bool} {j pos} : QE X EE (.Constant (.bool i) j pos) (eC (.bl i)) := EW Jz fun _ _ => by unfold Rep; rfl
theorem CL {j pos} : QE X EE (.Constant .none j pos) (eC .gk) := EW GR fun _ _ => by unfold Rep; rfl
theorem qW {x j pos} : QE X EE (.Constant (.str x) j pos) (eC (.str x)) := EW GS fun _ _ => by unfold Rep; rfl
noncomputable def aM (f : D → D → M D) (ma mb : DS → M D) : DS → M D := fun τ => (ma τ).bind fun x => (mb τ).bind fun y => f x y
noncomputable def Eo (X : Cx) (EE : eU) (r : R2) (f : D → D → M D) : Prop := ∀ (σ : L2.St) (H : Hp) (τ : DS) (ρ : List Addr) (G : DH) (x y : V) (d e : D) (Q : VK),
 Ab X.K X.mg σ H τ ρ G → Rep X.K X.mg ρ H d x → Rep X.K X.mg ρ H e y → nQ X.K X.mg EE H σ τ ρ (f d e G) Q → r x y H Q
theorem sM {f : D → D → M D} {r : R2} (hd : Eo X EE r f) {σ : L2.St} {H : Hp} {Q : VK} (h : e7 X.K X.mg EE (aM f ma mb) σ H Q) :
  JK r (e7 X.K X.mg EE ma) (e7 X.K X.mg EE mb) σ H Q := by
 obtain ⟨τ, ρ, G, ab, ok⟩ := nk (k := fun τ x => (mb τ).bind fun y => f x y) h
 refine ⟨τ, ρ, G, ab, ?_⟩
 cases e : ma τ G with
 | stuck => rw [e] at ok; exact ok
 | dG c G' => rw [e] at ok; exact ok
 | ok d G' =>
  rw [e] at ok
  intro v H' ρ' f' cG r'
  obtain ⟨τ2, ρ2, G2, d2, ef, r2, aU⟩ := ok v H' ρ' f' cG r'
  refine ⟨τ2, ρ2, G2, ef, ?_⟩
  dsimp only [M.bind] at aU
  cases e2 : mb τ2 G2 with
  | stuck => rw [e2] at aU; exact aU
  | dG c G' => rw [e2] at aU; exact aU
  | ok d3 G3 =>
   rw [e2] at aU
   exact fun v3 H3 ρ3 f3 xX r3 => hd σ H3 τ2 ρ3 G3 v v3 d2 d3 Q xX (r2.mono f3) r3 (aU.fut f3)
theorem vI {op : Operator} {r : R2} {f : D → D → M D} (ho : nj X (binaryOp op) r) (hd : Eo X EE r f) (ha : QE X EE a ma) (hb : QE X EE b mb) : QE X EE (.BinOp a op b pos) (aM f ma mb) :=
 PE.mono (JL ho ha hb) fun _ _ _ h => sM hd h
theorem HU {op : CmpOp} {r : R2} {f : D → D → M D} (ho : nj X (compareOp op) r) (hd : Eo X EE r f) (ha : QE X EE a ma) (hb : QE X EE b mb) (hm : behindInMarks op b = false) : QE X EE (.Compare a [op] [b] pos) (aM f ma mb) :=
 PE.mono (EF ho ha hb hm) fun _ _ _ h => sM hd h
theorem J7 {r : R2} {f : D → D → M D} (ho : Jf X r) (hd : Eo X EE r f) (ha : QE X EE a ma) (hb : QE X EE b mb) (hs : sJ b := by intro _ _; rfl) : QE X EE (.Subscript a b pos) (aM f ma mb) :=
 PE.mono (JX ho ha hb hs) fun _ _ _ h => sM hd h
noncomputable def jw (C : Int → Int → Bool) (g : Int → Int → D) : D → D → M D
 | .int i, .int j => if C i j then M.ret (g i j) else M.stop
 | _, _ => M.stop
theorem AB {C : Int → Int → Bool} {g : Int → Int → D} {d e : D} {G : DH} {σ : L2.St} {H : Hp} {τ : DS} {ρ : List Addr} {Q : VK} (ok : nQ X.K X.mg EE H σ τ ρ (jw C g d e G) Q) :
  ∃ i j, d = .int i ∧ e = .int j ∧ C i j = true ∧ nQ X.K X.mg EE H σ τ ρ (.ok (g i j) G) Q := by
 cases d <;> cases e <;> try exact ok.elim
 rename_i i j
 dsimp only [jw] at ok
 cases hc : C i j with
 | false => rw [hc] at ok; exact ok.elim
 | true => rw [hc] at ok; exact ⟨i, j, rfl, rfl, hc, ok⟩
theorem sN {C : Int → Int → Bool} {P : Int → Int → Prop} {g : Int → Int → D} {gv : Int → Int → V} (hC : ∀ i j, C i j = true → P i j) (hg : ∀ i j ρ H, Rep X.K X.mg ρ H (g i j) (gv i j)) : Eo X EE (rI P gv) (jw C g) :=
 fun σ H τ ρ G x y d e Q ab r1 r2 ok => by
  obtain ⟨i, j, rfl, rfl, hc, ok⟩ := AB ok
  unfold Rep at r1 r2
  exact ⟨i, j, r1, r2, hC i j hc, ok _ H ρ .refl ab (hg i j ρ H)⟩
theorem tK {g : Int → Int → D} {gv : Int → Int → V} (hg : ∀ i j ρ H, Rep X.K X.mg ρ H (g i j) (gv i j)) : Eo X EE (Hf gv) (jw (fun _ _ => true) g) :=
 fun σ H τ ρ G x y d e Q ab r1 r2 ok => by
  obtain ⟨i, j, rfl, rfl, hc, ok⟩ := AB ok
  unfold Rep at r1 r2
  exact ⟨i, j, r1, r2, ok _ H ρ .refl ab (hg i j ρ H)⟩
noncomputable abbrev J8 := jw (fun _ _ => true) fun i j => .int (i - j)
noncomputable abbrev BC := jw (fun i j => (decide (-(2 ^ 64) < i) && decide (i < 2 ^ 64)) || (decide (-(2 ^ 64) < j) && decide (j < 2 ^ 64))) fun i j => .int (i * j)
noncomputable abbrev gn := jw (fun _ j => decide (0 < j) && decide (j < 1073741824)) fun i j => .int (i / j)
noncomputable abbrev eS := jw (fun _ j => decide (0 < j)) fun i j => .int (i % j)
noncomputable abbrev J9 := jw (fun i j => decide (0 ≤ j) && (decide (j ≤ 1000000) && decide (i.natAbs < 2 ^ 64))) fun i j => .int (i ^ j.toNat)
noncomputable abbrev LR := jw (fun _ _ => true) fun i j => .bl (decide (i < j))
noncomputable abbrev Jh := jw (fun _ _ => true) fun i j => .bl (decide (j < i))
theorem HV (ha : QE X EE a ma) (hb : QE X EE b mb) : QE X EE (.BinOp a .Sub b pos) (aM J8 ma mb) := vI Hj (tK fun _ _ _ _ => by unfold Rep; rfl) ha hb
theorem tL (ha : QE X EE a ma) (hb : QE X EE b mb) : QE X EE (.BinOp a .Mult b pos) (aM BC ma mb) := vI Hl (sN (fun i j h => by
 simp only [Bool.or_eq_true, Bool.and_eq_true, decide_eq_true_eq] at h; exact h) fun _ _ _ _ => by unfold Rep; rfl) ha hb
theorem eH (ha : QE X EE a ma) (hb : QE X EE b mb) : QE X EE (.BinOp a .FloorDiv b pos) (aM gn ma mb) := vI ED (sN (fun i j h => by
 simp only [Bool.and_eq_true, decide_eq_true_eq] at h; exact h) fun _ _ _ _ => by unfold Rep; rfl) ha hb
theorem cy (ha : QE X EE a ma) (hb : QE X EE b mb) : QE X EE (.BinOp a .Mod b pos) (aM eS ma mb) := vI Ho (sN (fun i j h => of_decide_eq_true h) fun _ _ _ _ => by unfold Rep; rfl) ha hb
theorem HW (ha : QE X EE a ma) (hb : QE X EE b mb) : QE X EE (.BinOp a .Pow b pos) (aM J9 ma mb) := vI Hq (sN (fun i j h => by
 simp only [Bool.and_eq_true, decide_eq_true_eq] at h; exact h) fun _ _ _ _ => by unfold Rep; rfl) ha hb
noncomputable def di (ds : List D) : M D := fun G => if ds.length ≤ sizeLine then .ok (.obj G.length) (G ++ [.lst ds]) else .stuck
noncomputable def i6 (ds : List D) : M D := fun G => if ds.length ≤ sizeLine then .ok (.tup ds) G else .stuck
theorem tM {σ : L2.St} {H : Hp} {τ : DS} {ρ : List Addr} {G : DH} {ds : List D} {vs : List V} {Q : VK} (ab : Ab X.K X.mg σ H τ ρ G) (r : aE X.K X.mg ρ H ds vs) (ok : nQ X.K X.mg EE H σ τ ρ (di ds G) Q) :
  vs.length ≤ sizeLine ∧ ∀ p, H p = none → Q (.ref p) (upd H p (.lst vs)) := by
 unfold di at ok
 split at ok
 ·rename_i hl
  rw [r.length] at hl
  refine ⟨hl, fun p hp => ?_⟩
  have f : d9 X.K H (upd H p (.lst vs)) ρ (ρ ++ [p]) := (gD hp ρ).trans (pZ ρ p)
  refine ok (.ref p) _ (ρ ++ [p]) f (ab.fut f (ab.hp.more hp r)) ?_
  unfold Rep
  exact ⟨p, rfl, by rw [← ab.hp.hl, cQ]⟩
 ·exact ok.elim
theorem wI {σ : L2.St} {H : Hp} {τ : DS} {ρ : List Addr} {G : DH} {ds : List D} {vs : List V} {Q : VK} (ab : Ab X.K X.mg σ H τ ρ G) (r : aE X.K X.mg ρ H ds vs) (ok : nQ X.K X.mg EE H σ τ ρ (i6 ds G) Q) :
  vs.length ≤ sizeLine ∧ ∀ p, H p = none → Q (.ref p) (upd H p (.tup vs)) := by
 unfold i6 at ok
 split at ok
 ·rename_i hl
  rw [r.length] at hl
  refine ⟨hl, fun p hp => ?_⟩
  have f : d9 X.K H (upd H p (.tup vs)) ρ ρ := gD hp ρ
  refine ok (.ref p) _ ρ f (ab.fut f (ab.hp.new hp)) ?_
  unfold Rep
  exact ⟨p, vs, rfl, .of bT, r.mono f⟩
 ·exact ok.elim
noncomputable def aL : DS → M (List D) := fun _ => M.ret []
noncomputable def ah (m : DS → M D) (r : DS → M (List D)) : DS → M (List D) := fun τ => (m τ).bind fun x => (r τ).bind fun xs => M.ret (x :: xs)
theorem av : QA X EE [] aL := PA.mono Hu fun σ H Q ⟨τ, ρ, G, ab, ok⟩ => ok [] H ρ .refl ab .nil
theorem EX {e : Expr} {es : List Expr} {m : DS → M D} {r : DS → M (List D)} (ha : QE X EE e m) (hr : QA X EE es r) (hs : starEach (e :: es) X.env = (false, eval e X.env) :: starEach es X.env := by rfl) : QA X EE (e :: es) (ah m r) :=
 PA.mono (EI ha hr hs) fun σ H Q h => by
  obtain ⟨τ, ρ, G, ab, ok⟩ := HQ (k := fun τ x => (r τ).bind fun xs => M.ret (x :: xs)) h
  refine ⟨τ, ρ, G, ab, ?_⟩
  cases e : m τ G with
  | stuck => rw [e] at ok; exact ok
  | dG c G' => rw [e] at ok; exact ok
  | ok d G' =>
   rw [e] at ok
   intro v H' ρ' f' cG r'
   obtain ⟨τ2, ρ2, G2, d2, ef, r2, aU⟩ := ok v H' ρ' f' cG r'
   refine ⟨τ2, ρ2, G2, ef, ?_⟩
   dsimp only [M.bind] at aU
   cases e2 : r τ2 G2 with
   | stuck => rw [e2] at aU; exact aU
   | dG c G' => rw [e2] at aU; exact aU
   | ok d3 G3 =>
    rw [e2] at aU
    exact fun v3 H3 ρ3 f3 xX r3 => aU (v :: v3) H3 ρ3 f3 xX (.cons (r2.mono f3) r3)
noncomputable def aG (f : List D → M D) (m : DS → M (List D)) : DS → M D := fun τ => (m τ).bind f
theorem nR {m : DS → M (List D)} {f : List D → M D} {r : List V → Hp → VK → Prop} {σ : L2.St} {H : Hp} {Q : VK}
  (hd : ∀ (H : Hp) (τ : DS) (ρ : List Addr) (G : DH) (xs : List V) (ds : List D), Ab X.K X.mg σ H τ ρ G → aE X.K X.mg ρ H ds xs → nQ X.K X.mg EE H σ τ ρ (f ds G) Q → r xs H Q)
  (h : e7 X.K X.mg EE (aG f m) σ H Q) : tG X.K X.mg EE m σ H fun xs H1 => r xs H1 Q := by
 obtain ⟨τ, ρ, G, ab, ok⟩ := CK (k := fun _ => f) h
 refine ⟨τ, ρ, G, ab, ?_⟩
 cases e : m τ G with
 | stuck => rw [e] at ok; exact ok
 | dG c G' => rw [e] at ok; exact ok
 | ok d G' =>
  rw [e] at ok
  intro v H' ρ' f' cG r'
  obtain ⟨τ2, ρ2, G2, d2, ef, r2, aU⟩ := ok v H' ρ' f' cG r'
  exact hd H' τ2 ρ2 G2 v d2 ef r2 aU
theorem kK {es : List Expr} {m : DS → M (List D)} {x1} (h : QA X EE es m) : QE X EE (.Tuple es x1 pos) (aG i6 m) :=
 PE.mono (Hv h) fun σ H Q h => nR (r := fun xs H1 Q => xs.length ≤ sizeLine ∧ ∀ p, H1 p = none → Q (.ref p) (upd H1 p (.tup xs))) (fun H τ ρ G xs ds ab r ok => wI ab r ok) h
theorem cM {es : List Expr} {m : DS → M (List D)} (h : QA X EE es m) : QE X EE (.List es pos) (aG di m) :=
 PE.mono (Hw h) fun σ H Q h => nR (r := fun xs H1 Q => xs.length ≤ sizeLine ∧ ∀ p, H1 p = none → Q (.ref p) (upd H1 p (.lst xs))) (fun H τ ρ G xs ds ab r ok => tM ab r ok) h
noncomputable def CallD (X : Cx) (EE : eU) (r : List V → Hp → VK → Prop) (f : List D → M D) : Prop := ∀ (σ : L2.St) (H : Hp) (τ : DS) (ρ : List Addr) (G : DH) (xs : List V) (ds : List D) (Q : VK),
 Ab X.K X.mg σ H τ ρ G → aE X.K X.mg ρ H ds xs → nQ X.K X.mg EE H σ τ ρ (f ds G) Q → r xs H Q
theorem CM {x : Str} {p : Pos} {e : Expr} {es : List Expr} {m : DS → M (List D)} {id : String} {r : List V → Hp → VK → Prop} {f : List D → M D} (hc : jT X (.builtin id) r) (hd : CallD X EE r f) (hm : X.mg x = none) (ha : QA X EE (e :: es) m)
  (hg : Gl X x := by rfl) (hv : bootBuiltins x = some (.builtin id) := by first | rfl | decide) (hn : x ≠ "__name__" := by decide) (hdb : (x == ("__debug__" : Str)) = false := by decide)
  (he : starEach (e :: es) X.env = (false, eval e X.env) :: starEach es X.env := by rfl) (hpl : (backTo pos (starEach es X.env)).any (·.1) = false := by rfl) : QE X EE (.Call (.Name x p) (e :: es) [] pos) (aG f m) :=
 PE.mono (Cy hc hg hm hv ha hn hdb he hpl) fun σ H Q h => nR (r := r) (fun H τ ρ G xs ds ab r ok => hd σ H τ ρ G xs ds Q ab r ok) h
theorem BD {x : Str} {p : Pos} {e : Expr} {es : List Expr} {m : DS → M (List D)} {T : String} {r : List V → Hp → VK → Prop} {f : List D → M D} (hc : jT X (.type T) r) (hd : CallD X EE r f) (hm : X.mg x = none) (ha : QA X EE (e :: es) m)
  (hg : Gl X x := by rfl) (hv : bootBuiltins x = some (.type T) := by first | rfl | decide) (hn : x ≠ "__name__" := by decide) (hdb : (x == ("__debug__" : Str)) = false := by decide)
  (he : starEach (e :: es) X.env = (false, eval e X.env) :: starEach es X.env := by rfl) (hpl : (backTo pos (starEach es X.env)).any (·.1) = false := by rfl) : QE X EE (.Call (.Name x p) (e :: es) [] pos) (aG f m) :=
 PE.mono (Bt hc hg hm hv ha hn hdb he hpl) fun σ H Q h => nR (r := r) (fun H τ ρ G xs ds ab r ok => hd σ H τ ρ G xs ds Q ab r ok) h
noncomputable def qX (f : D → M Bool) (m : DS → M D) : DS → M Bool := fun τ => (m τ).bind f
noncomputable def uP : D → M Bool
 | .gk => M.ret false
 | .bl b => M.ret b
 | .int i => M.ret (i != 0)
 | .str y => if y.length ≤ sizeLine then M.ret ((y.length : Int) != 0) else M.stop
 | .tup xs => M.ret (!xs.isEmpty)
 | .con xs => M.ret (!xs.isEmpty)
 | .obj n => fun G => match G[n]? with
  | some (.lst xs) => .ok (!xs.isEmpty) G
  | _ => .stuck
 | .fn _ => M.stop
 | .jV _ _ => M.stop
theorem lV {K : PySem.W.Frag} {mg : Str → Option Value} {ρ : List Addr} {H : Hp} {ds : List D} {vs : List V} (r : aE K mg ρ H ds vs) : (!vs.isEmpty) = !ds.isEmpty := by
 have := r.length
 cases ds <;> cases vs <;> first | rfl | (simp at this)
theorem CN {m : DS → M D} {σ : L2.St} {H : Hp} {Q : Bool → Hp → Prop} (h : liftT X.K X.mg EE (qX uP m) σ H Q) :
  e7 X.K X.mg EE m σ H fun x H1 => ∃ k, Hs X.K x H1 k ∧ Q k H1 := by
 obtain ⟨τ, ρ, G, ab, ok⟩ := CJ (k := fun _ => uP) h
 refine ⟨τ, ρ, G, ab, ?_⟩
 cases e : m τ G with
 | stuck => rw [e] at ok; exact ok
 | dG c G' => rw [e] at ok; exact ok
 | ok d G' =>
  rw [e] at ok
  intro v H' ρ' f' cG r'
  obtain ⟨τ2, ρ2, G2, d2, ef, r2, aU⟩ := ok v H' ρ' f' cG r'
  cases d2 with
  | gk => unfold Rep at r2; subst r2; exact ⟨false, rfl, aU H' ρ2 .refl ef⟩
  | bl b => unfold Rep at r2; subst r2; exact ⟨b, rfl, aU H' ρ2 .refl ef⟩
  | int i => unfold Rep at r2; subst r2; exact ⟨_, rfl, aU H' ρ2 .refl ef⟩
  | str y =>
   unfold Rep at r2; subst r2
   dsimp only [uP] at aU
   split at aU
   ·rename_i hl; exact ⟨_, ⟨hl, rfl⟩, aU H' ρ2 .refl ef⟩
   ·exact aU.elim
  | tup xs =>
   unfold Rep at r2
   obtain ⟨p, vs, rfl, sq, rs⟩ := r2
   exact ⟨!vs.isEmpty, .inr (.inl ⟨vs, sq, rfl⟩), by rw [lV rs]; exact aU H' ρ2 .refl ef⟩
  | con xs =>
   unfold Rep at r2
   obtain ⟨p, vs, rfl, sq, rs⟩ := r2
   exact ⟨!vs.isEmpty, .inl ⟨vs, sq.seq, rfl⟩, by rw [lV rs]; exact aU H' ρ2 .refl ef⟩
  | obj n =>
   unfold Rep at r2
   obtain ⟨p, rfl, e1⟩ := r2
   dsimp only [uP] at aU
   cases q : G2[n]? with
   | none => rw [q] at aU; exact aU.elim
   | some o =>
    cases o with
    | dead => first | (rw [q] at ok; exact ok.elim) | (rw [q] at aU; exact aU.elim) | (rw [q] at e; cases e; done) | (rw [g] at ok; exact ok.elim) | (rw [g] at q; cases q; done) | (rw [g] at h; cases h; done) | (rw [g2] at ok; exact ok.elim) | (rw [g1, g2] at ok; exact ok.elim) | (rw [q1] at ok; exact ok.elim) | exact ok.elim
    | dct kv => first | (rw [q] at ok; exact ok.elim) | (rw [q] at aU; exact aU.elim) | (rw [q] at e; cases e; done) | (rw [g] at ok; exact ok.elim) | (rw [g] at q; cases q; done) | (rw [g] at h; cases h; done) | (rw [g2] at ok; exact ok.elim) | (rw [g1, g2] at ok; exact ok.elim) | (rw [q1] at ok; exact ok.elim) | exact ok.elim
    | pB fz kv => first | (rw [q] at ok; exact ok.elim) | (rw [q] at aU; exact aU.elim) | (rw [q] at e; cases e; done) | (rw [g] at ok; exact ok.elim) | (rw [g] at q; cases q; done) | (rw [g] at h; cases h; done) | (rw [g2] at ok; exact ok.elim) | (rw [g1, g2] at ok; exact ok.elim) | (rw [q1] at ok; exact ok.elim) | exact ok.elim
    | lst xs =>
     rw [q] at aU
     obtain ⟨p', vs, e2, hp, rs⟩ := ef.hp.lst q
     rw [e1] at e2; cases e2
     exact ⟨!vs.isEmpty, .inl ⟨vs, .of hp, rfl⟩, by rw [lV rs]; exact aU H' ρ2 .refl ef⟩
  | fn x => exact aU.elim
  | jV c as => exact aU.elim
theorem HX (ha : QE X EE a ma) (he : ∀ whole, isTrue a X.env whole = (do let v ← whole; standAt a.pos; holding [v] (truthy v)) := by intro _; rfl) : QT X EE a (qX uP ma) :=
 PT.mono (Cw ha he) fun σ H Q h => CN h
end
end L3
end
section
set_option Elab.async false
set_option linter.all false
set_option maxRecDepth 100000
namespace L3
open PySem PySem.Spec L2
noncomputable def ek {α β : Type} (f : α → Option β) : List α → Option (List β)
 | [] => some []
 | a :: r => match f a, ek f r with
  | some b, some bs => some (b :: bs)
  | _, _ => none
noncomputable def m8 (G : DH) : Nat → D → Option PyData
 | 0, _ => none
 | _ + 1, .gk => some .none
 | _ + 1, .bl b => some (.bool b)
 | _ + 1, .int i => some (.int i)
 | _ + 1, .str x => some (.str x)
 | n + 1, .tup ds => (ek (m8 G n) ds).map .tuple
 | n + 1, .con ds => (ek (m8 G n) ds).map .list
 | n + 1, .obj k => match G[k]? with
  | some (.lst ds) => (ek (m8 G n) ds).map .list
  | _ => none
 | _ + 1, .fn _ => none
 | _ + 1, .jV _ _ => none
section
variable {X : Cx} {EE : eU} {pins : List (Addr × Obj)} {σ : L2.St} {H : Hp} {s : Shared} {ρ : List Addr} {G : DH}
theorem readsAll {f : D → Option PyData} (hf : ∀ (d : D) (x : V) (u : Value) (p : PyData), Rep X.K X.mg ρ H d x → RelV x u → f d = some p → ∃ as, Reads s.heap u p as) :
  ∀ (ds : List D) (xs : List V) (us : List Value) (ps : List PyData), aE X.K X.mg ρ H ds xs → Vals xs us → ek f ds = some ps → ∃ as, ReadsAll s.heap us ps as
 | [], xs, us, ps, r, v, e => by
  unfold aE at r; subst r
  cases v; cases e
  exact ⟨[], .nil⟩
 | d :: ds, xs, us, ps, r, v, e => by
  unfold aE at r
  obtain ⟨x, r', rfl, h1, h2⟩ := r
  cases v with
  | cons v1 v2 =>
  unfold ek at e
  cases e1 : f d with
  | none => rw [e1] at e; cases e
  | some p =>
   cases e2 : ek f ds with
   | none => rw [e1, e2] at e; cases e
   | some qs =>
    rw [e1, e2] at e
    cases e
    obtain ⟨as, a1⟩ := hf d x _ p h1 v1 e1
    obtain ⟨bs, a2⟩ := readsAll hf ds r' _ qs h2 v2 e2
    exact ⟨as ++ bs, .cons a1 a2⟩
theorem eu (I : Inv X pins σ H s) (hp : kc X.K X.mg H ρ G) : ∀ (n : Nat) (d : D) (x : V) (u : Value) (p : PyData), Rep X.K X.mg ρ H d x → RelV x u → m8 G n d = some p → ∃ as, Reads s.heap u p as
 | 0, _, _, _, _, _, _, e => nomatch e
 | n + 1, .gk, x, u, p, r, v, e => by unfold Rep at r; subst r; cases v; cases e; exact ⟨_, .none⟩
 | n + 1, .bl b, x, u, p, r, v, e => by unfold Rep at r; subst r; cases v; cases e; exact ⟨_, .bool b⟩
 | n + 1, .int i, x, u, p, r, v, e => by unfold Rep at r; subst r; obtain ⟨t, rfl⟩ := v; cases e; exact ⟨_, .int i t⟩
 | n + 1, .str y, x, u, p, r, v, e => by unfold Rep at r; subst r; obtain ⟨t, rfl⟩ := v; cases e; exact ⟨_, .str y t⟩
 | n + 1, .tup ds, x, u, p, r, v, e => by
  unfold Rep at r
  obtain ⟨a, xs, rfl, sq, rs⟩ := r
  cases v
  obtain ⟨its, vs, ⟨o, e1, e2, k, e3⟩, _⟩ := I.tuple (zh.t sq)
  unfold m8 at e
  cases q : ek (m8 G n) ds with
  | none => rw [q] at e; cases e
  | some ps =>
   rw [q] at e; cases e
   obtain ⟨as, ra⟩ := readsAll (fun d x u p => eu I hp n d x u p) ds xs its ps rs vs q
   exact ⟨as, .tuple e1 e2 e3 (by simpa using ra)⟩
 | n + 1, .con ds, x, u, p, r, v, e => by
  unfold Rep at r
  obtain ⟨a, xs, rfl, sq, rs⟩ := r
  cases v
  obtain ⟨its, vs, ⟨o, k, e1, e2, e3, e4⟩, _⟩ := I.list sq.seq
  unfold m8 at e
  cases q : ek (m8 G n) ds with
  | none => rw [q] at e; cases e
  | some ps =>
   rw [q] at e; cases e
   obtain ⟨as, ra⟩ := readsAll (fun d x u p => eu I hp n d x u p) ds xs its ps rs vs q
   exact ⟨_, .list e1 e2 e4 (by simpa using ra)⟩
 | n + 1, .obj k, x, u, p, r, v, e => by
  unfold Rep at r
  obtain ⟨a, rfl, e0⟩ := r
  cases v
  dsimp only [m8] at e
  cases q : G[k]? with
  | none => rw [q] at e; cases e
  | some o =>
   cases o with
   | dead => first | (rw [q] at ok; exact ok.elim) | (rw [q] at aU; exact aU.elim) | (rw [q] at e; cases e; done) | (rw [g] at ok; exact ok.elim) | (rw [g] at q; cases q; done) | (rw [g] at h; cases h; done) | (rw [g2] at ok; exact ok.elim) | (rw [g1, g2] at ok; exact ok.elim) | (rw [q1] at ok; exact ok.elim) | exact ok.elim
   | dct kv => first | (rw [q] at ok; exact ok.elim) | (rw [q] at aU; exact aU.elim) | (rw [q] at e; cases e; done) | (rw [g] at ok; exact ok.elim) | (rw [g] at q; cases q; done) | (rw [g] at h; cases h; done) | (rw [g2] at ok; exact ok.elim) | (rw [g1, g2] at ok; exact ok.elim) | (rw [q1] at ok; exact ok.elim) | exact ok.elim
   | pB fz kv => first | (rw [q] at ok; exact ok.elim) | (rw [q] at aU; exact aU.elim) | (rw [q] at e; cases e; done) | (rw [g] at ok; exact ok.elim) | (rw [g] at q; cases q; done) | (rw [g] at h; cases h; done) | (rw [g2] at ok; exact ok.elim) | (rw [g1, g2] at ok; exact ok.elim) | (rw [q1] at ok; exact ok.elim) | exact ok.elim
   | lst ds =>
    rw [q] at e
    obtain ⟨a', xs, e1, e2, rs⟩ := hp.lst q
    rw [e0] at e1; cases e1
    obtain ⟨its, vs, ⟨o, k, e1, e2, e3, e4⟩, _⟩ := I.list (.of e2)
    dsimp only at e
    cases q : ek (m8 G n) ds with
    | none => rw [q] at e; cases e
    | some ps =>
     rw [q] at e; cases e
     obtain ⟨as, ra⟩ := readsAll (fun d x u p => eu I hp n d x u p) ds xs its ps rs vs q
     exact ⟨_, .list e1 e2 e4 (by simpa using ra)⟩
 | n + 1, .fn y, x, u, p, r, v, e => nomatch e
 | n + 1, .jV y _, x, u, p, r, v, e => nomatch e
end
section
variable {X : Cx} {EE : eU} {a b c : Expr} {ma mb mc : DS → M D} {pos : Pos}
noncomputable def rD (X : Cx) (EE : eU) (f : D → D → M D) : R2 := fun x y H Q => ∃ σ τ ρ G d e, Ab X.K X.mg σ H τ ρ G ∧ Rep X.K X.mg ρ H d x ∧ Rep X.K X.mg ρ H e y ∧ nQ X.K X.mg EE H σ τ ρ (f d e G) Q
theorem qc {f : D → D → M D} : Eo X EE (rD X EE f) f := fun σ H τ ρ G x y d e Q ab r1 r2 ok => ⟨σ, τ, ρ, G, d, e, ab, r1, r2, ok⟩
theorem FZ {f : D → D → M D} {r : R2} (h : Eo X EE r f) {x y : V} {H : Hp} {Q : VK} (q : rD X EE f x y H Q) : r x y H Q := by
 obtain ⟨σ, τ, ρ, G, d, e, ab, r1, r2, ok⟩ := q
 exact h σ H τ ρ G x y d e Q ab r1 r2 ok
noncomputable abbrev deep : Nat := 600
noncomputable def BE (d e : D) (G : DH) : Option Bool := match m8 G deep d, m8 G deep e with
 | some p, some q => if p.canLay0 && (q.canLay0 && decide (min p.depth q.depth ≤ 580)) then some (PyData.eqv p q) else none
 | _, _ => none
noncomputable def nS (neg : Bool) (d e : D) : M D := fun G => match BE d e G with
 | some b => .ok (.bl (neg ^^ b)) G
 | none => .stuck
theorem nq (hu : X.A.units + 600 < cLine) : nj X (compareOp .Eq) (rD X EE (nS false)) := by
 intro pins s σ0 H x y v u Q I rx ry ⟨σ, τ, ρ, G, d, e, ab, r1, r2, ok⟩
 dsimp only [nS, BE] at ok
 cases e1 : m8 G deep d with
 | none => rw [e1] at ok; exact ok.elim
 | some p =>
  cases e2 : m8 G deep e with
  | none => rw [e1, e2] at ok; exact ok.elim
  | some q =>
   rw [e1, e2] at ok
   dsimp only at ok
   by_cases hc : (p.canLay0 && (q.canLay0 && decide (min p.depth q.depth ≤ 580))) = true
   ·rw [if_pos hc] at ok
    simp only [Bool.and_eq_true, decide_eq_true_eq] at hc
    obtain ⟨as, ra⟩ := eu I ab.hp deep d x v p r1 rx e1
    obtain ⟨bs, rb⟩ := eu I ab.hp deep e y u q r2 ry e2
    refine SeqAt.compareEq_reads ra rb hc.1 hc.2.1 (by omega) ⟨.bl _, H, I, rfl, ?_⟩
    have := ok (.bl _) H ρ .refl ab (by unfold Rep; rfl)
    simpa using this
   ·rw [if_neg hc] at ok; exact ok.elim
theorem CO (hu : X.A.units + 600 < cLine) : nj X (compareOp .NotEq) (rD X EE (nS true)) := by
 intro pins s σ0 H x y v u Q I rx ry ⟨σ, τ, ρ, G, d, e, ab, r1, r2, ok⟩
 dsimp only [nS, BE] at ok
 cases e1 : m8 G deep d with
 | none => rw [e1] at ok; exact ok.elim
 | some p =>
  cases e2 : m8 G deep e with
  | none => rw [e1, e2] at ok; exact ok.elim
  | some q =>
   rw [e1, e2] at ok
   dsimp only at ok
   by_cases hc : (p.canLay0 && (q.canLay0 && decide (min p.depth q.depth ≤ 580))) = true
   ·rw [if_pos hc] at ok
    simp only [Bool.and_eq_true, decide_eq_true_eq] at hc
    obtain ⟨as, ra⟩ := eu I ab.hp deep d x v p r1 rx e1
    obtain ⟨bs, rb⟩ := eu I ab.hp deep e y u q r2 ry e2
    refine SeqAt.compareNe_reads ra rb hc.1 hc.2.1 (by omega) ⟨.bl _, H, I, rfl, ?_⟩
    have := ok (.bl _) H ρ .refl ab (by unfold Rep; rfl)
    simpa using this
   ·rw [if_neg hc] at ok; exact ok.elim
theorem Ka (hu : X.A.units + 600 < cLine) (ha : QE X EE a ma) (hb : QE X EE b mb) : QE X EE (.Compare a [.Eq] [b] pos) (aM (nS false) ma mb) := HU (nq hu) qc ha hb (Hr _)
inductive MV where
 | lst (xs : List D) | tup (xs : List D) | str (x : Str)
noncomputable def bN (G : DH) : D → Option MV
 | .tup xs => some (.tup xs)
 | .con xs => some (.lst xs)
 | .obj n => match G[n]? with
  | some (.lst xs) => some (.lst xs)
  | _ => none
 | .str x => some (.str x)
 | _ => none
noncomputable def Ep (d : D) (ds : List D) (G : DH) : Option Bool := match m8 G deep d, ek (m8 G deep) ds with
 | some p, some qs => if p.canLay0 && (PyData.canLayAll0 qs && decide (min (PyData.depthAll qs) p.depth ≤ 580)) then some (qs.any fun y => PyData.eqv y p) else none
 | _, _ => none
noncomputable def qY (neg : Bool) (d e : D) : M D := fun G => match bN G e with
 | some (.lst ds) => match Ep d ds G with
  | some b => .ok (.bl (neg ^^ b)) G
  | none => .stuck
 | some (.tup ds) => match Ep d ds G with
  | some b => .ok (.bl (neg ^^ b)) G
  | none => .stuck
 | some (.str j) => match d with
  | .str i => .ok (.bl (neg ^^ !(Builtin.Str.occurrences j i 0 j.length 1).isEmpty)) G
  | _ => .stuck
 | none => .stuck
theorem eV {pins : List (Addr × Obj)} {σ0 : L2.St} {H : Hp} {s : Shared} {ρ : List Addr} {G : DH} {d : D} {ds : List D} {x : V} (h : kc X.K X.mg H ρ G) (r : Rep X.K X.mg ρ H d x) (e : bN G d = some (.lst ds)) :
  ∃ p xs, x = .ref p ∧ pq X.K H p xs ∧ aE X.K X.mg ρ H ds xs := by
 cases d with
 | con xs =>
  cases e
  unfold Rep at r
  obtain ⟨a, xs, rfl, sq, rs⟩ := r
  exact ⟨a, xs, rfl, sq.seq, rs⟩
 | obj n =>
  unfold Rep at r
  obtain ⟨a, rfl, e0⟩ := r
  dsimp only [bN] at e
  cases q : G[n]? with
  | none => rw [q] at e; cases e
  | some o =>
   cases o with
   | dead => first | (rw [q] at ok; exact ok.elim) | (rw [q] at aU; exact aU.elim) | (rw [q] at e; cases e; done) | (rw [g] at ok; exact ok.elim) | (rw [g] at q; cases q; done) | (rw [g] at h; cases h; done) | (rw [g2] at ok; exact ok.elim) | (rw [g1, g2] at ok; exact ok.elim) | (rw [q1] at ok; exact ok.elim) | exact ok.elim
   | dct kv => first | (rw [q] at ok; exact ok.elim) | (rw [q] at aU; exact aU.elim) | (rw [q] at e; cases e; done) | (rw [g] at ok; exact ok.elim) | (rw [g] at q; cases q; done) | (rw [g] at h; cases h; done) | (rw [g2] at ok; exact ok.elim) | (rw [g1, g2] at ok; exact ok.elim) | (rw [q1] at ok; exact ok.elim) | exact ok.elim
   | pB fz kv => first | (rw [q] at ok; exact ok.elim) | (rw [q] at aU; exact aU.elim) | (rw [q] at e; cases e; done) | (rw [g] at ok; exact ok.elim) | (rw [g] at q; cases q; done) | (rw [g] at h; cases h; done) | (rw [g2] at ok; exact ok.elim) | (rw [g1, g2] at ok; exact ok.elim) | (rw [q1] at ok; exact ok.elim) | exact ok.elim
   | lst ys =>
    rw [q] at e; cases e
    obtain ⟨a', xs, e1, e2, rs⟩ := h.lst q
    rw [e0] at e1; cases e1
    exact ⟨a, xs, rfl, .of e2, rs⟩
 | _ => cases e
theorem tN {H : Hp} {ρ : List Addr} {G : DH} {d : D} {ds : List D} {x : V} (r : Rep X.K X.mg ρ H d x) (e : bN G d = some (.tup ds)) :
  ∃ p xs, x = .ref p ∧ zh H p xs ∧ aE X.K X.mg ρ H ds xs := by
 cases d with
 | tup xs =>
  cases e
  unfold Rep at r
  obtain ⟨a, xs, rfl, sq, rs⟩ := r
  exact ⟨a, xs, rfl, sq, rs⟩
 | obj n =>
  dsimp only [bN] at e
  cases q : G[n]? with
  | none => rw [q] at e; cases e
  | some o => cases o <;> (rw [q] at e; cases e)
 | _ => cases e
theorem iK {H : Hp} {ρ : List Addr} {G : DH} {d : D} {ds : List D} {x : V} (r : Rep X.K X.mg ρ H d x) (e : bN G d = some (.tup ds)) :
  ∃ p xs, x = .ref p ∧ qS X.K H p xs ∧ aE X.K X.mg ρ H ds xs := let ⟨p, xs, h1, h2, h3⟩ := tN r e; ⟨p, xs, h1, h2.t, h3⟩
theorem lD {H : Hp} {ρ : List Addr} {G : DH} {d : D} {y : Str} {x : V} (r : Rep X.K X.mg ρ H d x) (e : bN G d = some (.str y)) : d = .str y ∧ x = .str y := by
 cases d with
 | str z => cases e; unfold Rep at r; exact ⟨rfl, r⟩
 | obj n =>
  dsimp only [bN] at e
  cases q : G[n]? with
  | none => rw [q] at e; cases e
  | some o => cases o <;> (rw [q] at e; cases e)
 | _ => cases e
theorem CP {pins : List (Addr × Obj)} {σ0 : L2.St} {H : Hp} {s : Shared} {ρ : List Addr} {G : DH} {p : Addr} {xs : List V} {ds : List D} {qs : List PyData} (I : Inv X pins σ0 H s) (hp : kc X.K X.mg H ρ G) (sq : pq X.K H p xs) (rs : aE X.K X.mg ρ H ds xs)
  (e : ek (m8 G deep) ds = some qs) : ∃ as, Reads s.heap (.ref p) (.list qs) as := by
 obtain ⟨its, vs, ⟨o, k, e1, e2, e3, e4⟩, _⟩ := I.list sq
 obtain ⟨as, ra⟩ := readsAll (fun d x u p => eu I hp deep d x u p) ds xs its qs rs vs e
 exact ⟨_, .list e1 e2 e4 (by simpa using ra)⟩
theorem CQ {pins : List (Addr × Obj)} {σ0 : L2.St} {H : Hp} {s : Shared} {ρ : List Addr} {G : DH} {p : Addr} {xs : List V} {ds : List D} {qs : List PyData} (I : Inv X pins σ0 H s) (hp : kc X.K X.mg H ρ G) (sq : qS X.K H p xs) (rs : aE X.K X.mg ρ H ds xs)
  (e : ek (m8 G deep) ds = some qs) : ∃ as, Reads s.heap (.ref p) (.tuple qs) as := by
 obtain ⟨its, vs, ⟨o, e1, e2, k, e3⟩, _⟩ := I.tuple sq
 obtain ⟨as, ra⟩ := readsAll (fun d x u p => eu I hp deep d x u p) ds xs its qs rs vs e
 exact ⟨_, .tuple e1 e2 e3 (by simpa using ra)⟩
theorem qf {d : D} {ds : List D} {G : DH} {b : Bool} (h : Ep d ds G = some b) : ∃ p qs, m8 G deep d = some p ∧ ek (m8 G deep) ds = some qs ∧ p.canLay0 = true ∧ PyData.canLayAll0 qs = true ∧ min (PyData.depthAll qs) p.depth ≤ 580 ∧ b = qs.any fun y => PyData.eqv y p := by
 unfold Ep at h
 cases e1 : m8 G deep d with
 | none => rw [e1] at h; cases h
 | some p =>
  cases e2 : ek (m8 G deep) ds with
  | none => rw [e1, e2] at h; cases h
  | some qs =>
   rw [e1, e2] at h
   dsimp only at h
   by_cases hc : (p.canLay0 && (PyData.canLayAll0 qs && decide (min (PyData.depthAll qs) p.depth ≤ 580))) = true
   ·rw [if_pos hc] at h
    simp only [Bool.and_eq_true, decide_eq_true_eq] at hc
    exact ⟨p, qs, rfl, rfl, hc.1, hc.2.1, hc.2.2, (Option.some.inj h).symm⟩
   ·rw [if_neg hc] at h; cases h
theorem pD (hu : X.A.units + 600 < cLine) : nj X (compareOp .In) (rD X EE (qY false)) := by
 intro pins s σ0 H x y v u Q I rx ry ⟨σ, τ, ρ, G, d, e, ab, r1, r2, ok⟩
 dsimp only [qY] at ok
 cases q : bN G e with
 | none => rw [q] at ok; exact ok.elim
 | some sk =>
  rw [q] at ok
  cases sk with
  | lst ds =>
   dsimp only at ok
   cases qb : Ep d ds G with
   | none => rw [qb] at ok; exact ok.elim
   | some b =>
    rw [qb] at ok
    obtain ⟨p, qs, e1, e2, h1, h2, h3, rfl⟩ := qf qb
    obtain ⟨l, xs, rfl, sq, rs⟩ := eV (pins := pins) (σ0 := σ0) (s := s) ab.hp r2 q
    cases ry
    obtain ⟨as, ra⟩ := eu I ab.hp deep d x v p r1 rx e1
    obtain ⟨bs, rb⟩ := CP I ab.hp sq rs e2
    refine SeqAt.in_list_reads rb ra h2 h1 (by omega) ⟨.bl _, H, I, rfl, ?_⟩
    have := ok (.bl _) H ρ .refl ab (by unfold Rep; rfl)
    simpa using this
  | tup ds =>
   dsimp only at ok
   cases qb : Ep d ds G with
   | none => rw [qb] at ok; exact ok.elim
   | some b =>
    rw [qb] at ok
    obtain ⟨p, qs, e1, e2, h1, h2, h3, rfl⟩ := qf qb
    obtain ⟨l, xs, rfl, sq, rs⟩ := iK r2 q
    cases ry
    obtain ⟨as, ra⟩ := eu I ab.hp deep d x v p r1 rx e1
    obtain ⟨bs, rb⟩ := CQ I ab.hp sq rs e2
    refine SeqAt.in_tuple_reads rb ra h2 h1 (by omega) ⟨.bl _, H, I, rfl, ?_⟩
    have := ok (.bl _) H ρ .refl ab (by unfold Rep; rfl)
    simpa using this
  | str j =>
   obtain ⟨rfl, rfl⟩ := lD r2 q
   cases d with
   | str i =>
    unfold Rep at r1; subst r1
    refine Bq pins s σ0 H _ _ v u Q I rx ry ⟨i, j, rfl, rfl, ?_⟩
    have := ok (.bl _) H ρ .refl ab (by unfold Rep; rfl)
    simpa using this
   | _ => exact ok.elim
theorem jQ (hu : X.A.units + 600 < cLine) : nj X (compareOp .NotIn) (rD X EE (qY true)) := by
 intro pins s σ0 H x y v u Q I rx ry ⟨σ, τ, ρ, G, d, e, ab, r1, r2, ok⟩
 dsimp only [qY] at ok
 cases q : bN G e with
 | none => rw [q] at ok; exact ok.elim
 | some sk =>
  rw [q] at ok
  cases sk with
  | lst ds =>
   dsimp only at ok
   cases qb : Ep d ds G with
   | none => rw [qb] at ok; exact ok.elim
   | some b =>
    rw [qb] at ok
    obtain ⟨p, qs, e1, e2, h1, h2, h3, rfl⟩ := qf qb
    obtain ⟨l, xs, rfl, sq, rs⟩ := eV (pins := pins) (σ0 := σ0) (s := s) ab.hp r2 q
    cases ry
    obtain ⟨as, ra⟩ := eu I ab.hp deep d x v p r1 rx e1
    obtain ⟨bs, rb⟩ := CP I ab.hp sq rs e2
    refine SeqAt.notIn_list_reads rb ra h2 h1 (by omega) ⟨.bl _, H, I, rfl, ?_⟩
    have := ok (.bl _) H ρ .refl ab (by unfold Rep; rfl)
    simpa using this
  | tup ds =>
   dsimp only at ok
   cases qb : Ep d ds G with
   | none => rw [qb] at ok; exact ok.elim
   | some b =>
    rw [qb] at ok
    obtain ⟨p, qs, e1, e2, h1, h2, h3, rfl⟩ := qf qb
    obtain ⟨l, xs, rfl, sq, rs⟩ := iK r2 q
    cases ry
    obtain ⟨as, ra⟩ := eu I ab.hp deep d x v p r1 rx e1
    obtain ⟨bs, rb⟩ := CQ I ab.hp sq rs e2
    refine SeqAt.notIn_tuple_reads rb ra h2 h1 (by omega) ⟨.bl _, H, I, rfl, ?_⟩
    have := ok (.bl _) H ρ .refl ab (by unfold Rep; rfl)
    simpa using this
  | str j =>
   obtain ⟨rfl, rfl⟩ := lD r2 q
   cases d with
   | str i =>
    unfold Rep at r1; subst r1
    refine wC pins s σ0 H _ _ v u Q I rx ry ⟨i, j, rfl, rfl, ?_⟩
    have := ok (.bl _) H ρ .refl ab (by unfold Rep; rfl)
    simpa using this
   | _ => exact ok.elim
end
end L3
end
section
set_option Elab.async false
set_option linter.all false
set_option maxRecDepth 100000
namespace L3
open PySem PySem.Spec L2
section
variable {X : Cx} {EE : eU} {a b c : Expr} {ma mb mc : DS → M D} {pos : Pos}
noncomputable def dg (d e : D) : M D := fun G => match e with
 | .int i => match bN G d with
  | some (.lst xs) => match ki xs i with
   | some v => .ok v G
   | none => .stuck
  | some (.tup xs) => match ki xs i with
   | some v => .ok v G
   | none => .stuck
  | some (.str z) => if z.length ≤ sizeLine then (match ki z.cps.toList i with
   | some c => .ok (.str ⟨#[c]⟩) G
   | none => .stuck) else .stuck
  | none => .stuck
 | _ => .stuck
theorem xY {K : PySem.W.Frag} {mg : Str → Option Value} {ρ : List Addr} {H : Hp} {ds : List D} {vs : List V} {i : Int} {d : D} (r : aE K mg ρ H ds vs) (h : ki ds i = some d) : ∃ v, ki vs i = some v ∧ Rep K mg ρ H d v := by
 unfold ki at h ⊢
 rw [← r.length]
 cases e : Bu ds.length i with
 | none => rw [e] at h; cases h
 | some j =>
  rw [e] at h
  obtain ⟨v, e1, e2⟩ := r.get (show ds[j]? = some d from h)
  exact ⟨v, e1, e2⟩
theorem MW : Jf X (rD X EE dg) := by
 intro value slice pins s σ0 H x y v u Q I rx ry ⟨σ, τ, ρ, G, d, e, ab, r1, r2, ok⟩ hs
 cases e <;> try exact ok.elim
 rename_i i
 unfold Rep at r2; subst r2
 dsimp only [dg] at ok
 cases q : bN G d with
 | none => rw [q] at ok; exact ok.elim
 | some sk =>
  rw [q] at ok
  cases sk with
  | lst ds =>
   dsimp only at ok
   cases qa : ki ds i with
   | none => rw [qa] at ok; exact ok.elim
   | some z =>
    rw [qa] at ok
    obtain ⟨l, xs, rfl, sq, rs⟩ := eV (pins := pins) (σ0 := σ0) (s := s) ab.hp r1 q
    obtain ⟨w, e1, e2⟩ := xY rs qa
    exact EO value slice pins s σ0 H _ _ v u Q I rx ry ⟨l, xs, i, w, rfl, rfl, sq, e1, ok w H ρ .refl ab e2⟩ hs
  | tup ds =>
   dsimp only at ok
   cases qa : ki ds i with
   | none => rw [qa] at ok; exact ok.elim
   | some z =>
    rw [qa] at ok
    obtain ⟨l, xs, rfl, sq, rs⟩ := iK r1 q
    obtain ⟨w, e1, e2⟩ := xY rs qa
    exact HB value slice pins s σ0 H _ _ v u Q I rx ry ⟨l, xs, i, w, rfl, rfl, sq, e1, ok w H ρ .refl ab e2⟩ hs
  | str z =>
   dsimp only at ok
   obtain ⟨rfl, rfl⟩ := lD r1 q
   by_cases hz : z.length ≤ sizeLine
   ·rw [if_pos hz] at ok
    cases qa : ki z.cps.toList i with
    | none => rw [qa] at ok; exact ok.elim
    | some c =>
     rw [qa] at ok
     exact HC value slice pins s σ0 H _ _ v u Q I rx ry ⟨z, i, c, rfl, rfl, hz, qa, ok _ H ρ .refl ab (by unfold Rep; rfl)⟩ hs
   ·rw [if_neg hz] at ok; exact ok.elim
theorem CS (ha : QE X EE a ma) (hb : QE X EE b mb) (hs : sJ b := by intro _ _; rfl) : QE X EE (.Subscript a b pos) (aM dg ma mb) := J7 MW qc ha hb hs
noncomputable def om : DS → M (Option Int) := fun _ => M.ret none
noncomputable def kj (m : DS → M D) : DS → M (Option Int) := fun τ => (m τ).bind fun d => match d with
 | .int i => M.ret (some i)
 | _ => M.stop
noncomputable def Qu (K : PySem.W.Frag) (mg : Str → Option Value) (EE : eU) (H : Hp) (σ : L2.St) (τ : DS) (ρ : List Addr) : Out (Option Int) → (Option Int → Hp → Prop) → Prop
 | .stuck, _ => False
 | .ok b G', Q => ∀ H' ρ', d9 K H H' ρ ρ' → Ab K mg σ H' τ ρ' G' → Q b H'
 | .dG c G', _ => ∀ H' ρ', d9 K H H' ρ ρ' → Ab K mg σ H' τ ρ' G' → EE c σ H'
noncomputable def Kc (K : PySem.W.Frag) (mg : Str → Option Value) (EE : eU) (m : DS → M (Option Int)) : TO := fun σ H Q => ∃ τ ρ G, Ab K mg σ H τ ρ G ∧ Qu K mg EE H σ τ ρ (m τ G) Q
noncomputable def QO (X : Cx) (EE : eU) (e : Option Expr) (m : DS → M (Option Int)) : Prop := PO X e (Kc X.K X.mg EE m)
theorem PO.mono {e : Option Expr} {t t' : TO} (h : PO X e t) (i : ∀ σ H Q, t' σ H Q → t σ H Q) : PO X e t' := fun pins s σ H Q I q => h pins s σ H Q I (i _ _ _ q)
theorem nU : QO X EE none om := PO.mono EL fun σ H Q ⟨τ, ρ, G, ab, ok⟩ => ok H ρ .refl ab
theorem ko (ha : QE X EE a ma) : QO X EE (some a) (kj ma) := PO.mono (EM ha) fun σ H Q ⟨τ, ρ, G, ab, ok⟩ => by
 refine ⟨τ, ρ, G, ab, ?_⟩
 dsimp only [kj, M.bind] at ok
 cases e : ma τ G with
 | stuck => rw [e] at ok; exact ok
 | dG c G' => rw [e] at ok; exact ok
 | ok d G' =>
  rw [e] at ok
  intro v H' ρ' f cG r
  cases d <;> try exact ok.elim
  rename_i i
  unfold Rep at r
  exact ⟨i, r, ok H' ρ' f cG⟩
noncomputable def cutD (xs : List D) (lo hi : Option Int) : List D := (xs.drop (HT.fY xs.length 0 lo)).take (HT.fY xs.length xs.length hi - HT.fY xs.length 0 lo)
noncomputable def Cj (d : D) (lo hi : Option Int) : M D := fun G => match bN G d with
 | some (.lst xs) => di (cutD xs lo hi) G
 | some (.tup xs) => if HT.fY xs.length 0 lo = 0 ∧ HT.fY xs.length xs.length hi = xs.length then .stuck else i6 (cutD xs lo hi) G
 | some (.str z) => if z.length ≤ sizeLine then .ok (.str (Txt.slice z lo hi)) G else .stuck
 | none => .stuck
noncomputable def Ck (m : DS → M D) (ml mh : DS → M (Option Int)) : DS → M D := fun τ => (m τ).bind fun d => (ml τ).bind fun lo => (mh τ).bind fun hi => Cj d lo hi
noncomputable def MX (X : Cx) (EE : eU) : V → Option Int → Option Int → Hp → VK → Prop := fun x lo hi H Q => ∃ σ τ ρ G d, Ab X.K X.mg σ H τ ρ G ∧ Rep X.K X.mg ρ H d x ∧ nQ X.K X.mg EE H σ τ ρ (Cj d lo hi G) Q
theorem xZ {K : PySem.W.Frag} {mg : Str → Option Value} {ρ : List Addr} {H : Hp} {ds : List D} {vs : List V} (r : aE K mg ρ H ds vs) (lo hi : Option Int) : aE K mg ρ H (cutD ds lo hi) (xU vs lo hi) := by
 unfold cutD xU
 rw [r.length]
 exact (r.drop _).take _
theorem nV (x : Str) (l u : Option (Int × Tok)) (lo hi : Option Int) (hl : l.map (·.1) = lo) (hu : u.map (·.1) = hi) (t : Tok) (s : Shared) (Q : Value → Shared → Prop) (hz : x.length ≤ sizeLine)
  (h : ∀ t' k, Q (.str (Txt.slice x lo hi) t') { s with toks := k }) : (sliceMade x t l u none).post Q s := by
 subst hl hu
 cases l <;> cases u <;> exact post_val_or_str ⟨Nat.le_trans (Txt.slice_le x _ _) hz, fun t' k => h t' k⟩
theorem MY : LN X (MX X EE) := by
 intro pins s σ0 H x v vl vu lo hi sl Q I rx hs pl pu ⟨σ, τ, ρ, G, d, ab, r1, ok⟩
 dsimp only [Cj] at ok
 cases q : bN G d with
 | none => rw [q] at ok; exact ok.elim
 | some sk =>
  rw [q] at ok
  cases sk with
  | lst ds =>
   obtain ⟨l, xs, rfl, sq, rs⟩ := eV (pins := pins) (σ0 := σ0) (s := s) ab.hp r1 q
   exact ER pins s σ0 H _ v vl vu lo hi sl Q I rx hs pl pu ⟨l, xs, rfl, sq, (tM ab (xZ rs lo hi) ok).2⟩
  | tup ds =>
   obtain ⟨l, xs, rfl, sq, rs⟩ := iK r1 q
   dsimp only at ok
   by_cases hw : HT.fY ds.length 0 lo = 0 ∧ HT.fY ds.length ds.length hi = ds.length
   ·rw [if_pos hw] at ok; exact ok.elim
   ·rw [if_neg hw] at ok
    refine Hz pins s σ0 H _ v vl vu lo hi sl Q I rx hs pl pu ⟨l, xs, rfl, sq, ?_, (wI ab (xZ rs lo hi) ok).2⟩
    rw [← rs.length]; exact hw
  | str z =>
   obtain ⟨rfl, rfl⟩ := lD r1 q
   dsimp only at ok
   by_cases hz : z.length ≤ sizeLine
   ·rw [if_pos hz] at ok
    obtain ⟨t, rfl⟩ := rx
    refine ⟨"str", _, F.slot_str_getitem.lookup, typeIs_str _ _ _, ?_⟩
    obtain ⟨o, e1, e2, e3⟩ := hs
    have fin : ∀ t' k, EP X pins σ0 Q (.str (Txt.slice z lo hi) t') { s with toks := k } := fun t' k => ⟨.str _, H, I.tok k, ⟨t', rfl⟩, ok _ H ρ .refl ab (by unfold Rep; rfl)⟩
    cases pl with
    | none =>
     cases pu with
     | none => exact wpAny_getItem_str_slice (l := none) (u := none) (st := none) ⟨o, e1, e2, e3⟩ rfl (nV z none none none none rfl rfl t s _ hz fin)
     | int j tj => exact wpAny_getItem_str_slice (l := none) (u := some (j, tj)) (st := none) ⟨o, e1, e2, e3⟩ rfl (nV z none (some (j, tj)) none (some j) rfl rfl t s _ hz fin)
    | int i ti =>
     cases pu with
     | none => exact wpAny_getItem_str_slice (l := some (i, ti)) (u := none) (st := none) ⟨o, e1, e2, e3⟩ rfl (nV z (some (i, ti)) none (some i) none rfl rfl t s _ hz fin)
     | int j tj => exact wpAny_getItem_str_slice (l := some (i, ti)) (u := some (j, tj)) (st := none) ⟨o, e1, e2, e3⟩ rfl (nV z (some (i, ti)) (some (j, tj)) (some i) (some j) rfl rfl t s _ hz fin)
   ·rw [if_neg hz] at ok; exact ok.elim
theorem jW {lo hi : Option Expr} {ml mh : DS → M (Option Int)} {p2 : Pos} (ha : QE X EE a ma) (hl : QO X EE lo ml) (hh : QO X EE hi mh) : QE X EE (.Subscript a (.Slice lo hi none p2) pos) (Ck ma ml mh) :=
 PE.mono (CA MY ha hl hh) fun σ H Q ⟨τ, ρ, G, ab, ok⟩ => by
  refine ⟨τ, ρ, G, ab, ?_⟩
  dsimp only [Ck, M.bind] at ok
  cases e1 : ma τ G with
  | stuck => rw [e1] at ok; exact ok
  | dG c G' => rw [e1] at ok; exact ok
  | ok d G1 =>
   rw [e1] at ok
   dsimp only at ok
   intro v H1 ρ1 f1 wJ r1
   refine ⟨τ, ρ1, G1, wJ, ?_⟩
   cases e2 : ml τ G1 with
   | stuck => rw [e2] at ok; exact ok
   | dG c G' => rw [e2] at ok; exact fun H' ρ' f' => ok H' ρ' (f1.trans f')
   | ok l G2 =>
    rw [e2] at ok
    dsimp only at ok
    intro H2 ρ2 f2 ef
    refine ⟨τ, ρ2, G2, ef, ?_⟩
    cases e3 : mh τ G2 with
    | stuck => rw [e3] at ok; exact ok
    | dG c G' => rw [e3] at ok; exact fun H' ρ' f' => ok H' ρ' ((f1.trans f2).trans f')
    | ok u G3 =>
     rw [e3] at ok
     dsimp only at ok
     intro H3 ρ3 f3 xX
     exact ⟨σ, τ, ρ3, G3, d, xX, r1.mono (f2.trans f3), ok.fut ((f1.trans f2).trans f3)⟩
noncomputable def oq (ma mb : DS → M Bool) : DS → M Bool := fun τ => (ma τ).bind fun c => if c then mb τ else M.ret false
noncomputable def tO (ma mb : DS → M Bool) : DS → M Bool := fun τ => (ma τ).bind fun c => if c then M.ret true else mb τ
noncomputable def CU (ma : DS → M Bool) : DS → M Bool := fun τ => (ma τ).bind fun c => M.ret (!c)
variable {ta tb tc : DS → M Bool} {rest : List Expr}
theorem CV {σ : L2.St} {H : Hp} {Q : Bool → Hp → Prop} (h : liftT X.K X.mg EE (oq ta tb) σ H Q) : JA (liftT X.K X.mg EE ta) (liftT X.K X.mg EE tb) σ H Q := by
 obtain ⟨τ, ρ, G, ab, ok⟩ := zH (k := fun τ c => if c then tb τ else M.ret false) h
 refine ⟨τ, ρ, G, ab, ?_⟩
 cases e : ta τ G with
 | stuck => rw [e] at ok; exact ok
 | dG c G' => rw [e] at ok; exact ok
 | ok k G' =>
  rw [e] at ok
  intro H' ρ' f' cG
  obtain ⟨τ2, ρ2, G2, ef, aU⟩ := ok H' ρ' f' cG
  cases k with
  | true => exact ⟨τ2, ρ2, G2, ef, aU⟩
  | false => exact aU H' ρ2 .refl ef
theorem EY {σ : L2.St} {H : Hp} {Q : Bool → Hp → Prop} (h : liftT X.K X.mg EE (tO ta tb) σ H Q) : Oi (liftT X.K X.mg EE ta) (liftT X.K X.mg EE tb) σ H Q := by
 obtain ⟨τ, ρ, G, ab, ok⟩ := zH (k := fun τ c => if c then M.ret true else tb τ) h
 refine ⟨τ, ρ, G, ab, ?_⟩
 cases e : ta τ G with
 | stuck => rw [e] at ok; exact ok
 | dG c G' => rw [e] at ok; exact ok
 | ok k G' =>
  rw [e] at ok
  intro H' ρ' f' cG
  obtain ⟨τ2, ρ2, G2, ef, aU⟩ := ok H' ρ' f' cG
  cases k with
  | false => exact ⟨τ2, ρ2, G2, ef, aU⟩
  | true => exact aU H' ρ2 .refl ef
theorem PW.mono {e : Expr} {t t' : TT} (h : PW X e t) (i : ∀ σ H Q, t' σ H Q → t σ H Q) : PW X e t' := fun wh pins s σ H Q I q => h wh pins s σ H Q I (i _ _ _ q)
theorem sO (ha : QT X EE a ta) : QW X EE (.BoolOp .And [a] pos) ta := Ez ha
theorem zJ (ha : QT X EE a ta) : QW X EE (.BoolOp .Or [a] pos) ta := GU ha
theorem wK (ha : QT X EE a ta) (hb : QW X EE (.BoolOp .And (b :: rest) pos) tb) : QW X EE (.BoolOp .And (a :: b :: rest) pos) (oq ta tb) := PW.mono (GV ha hb) fun _ _ _ h => CV h
theorem x6 (ha : QT X EE a ta) (hb : QW X EE (.BoolOp .Or (b :: rest) pos) tb) : QW X EE (.BoolOp .Or (a :: b :: rest) pos) (tO ta tb) := PW.mono (JB ha hb) fun _ _ _ h => EY h
theorem zK {e : Expr} (h : QW X EE e ta) : QT X EE e ta := h.pt
theorem HY (ha : QT X EE a ta) : QT X EE (.UnaryOp .Not a pos) (CU ta) := PT.mono (GW ha) fun σ H Q h => by
 obtain ⟨τ, ρ, G, ab, ok⟩ := zH (k := fun τ c => M.ret (!c)) h
 refine ⟨τ, ρ, G, ab, ?_⟩
 cases e : ta τ G with
 | stuck => rw [e] at ok; exact ok
 | dG c G' => rw [e] at ok; exact ok
 | ok k G' =>
  rw [e] at ok
  intro H' ρ' f' cG
  obtain ⟨τ2, ρ2, G2, ef, aU⟩ := ok H' ρ' f' cG
  exact aU H' ρ2 .refl ef
noncomputable def jR (m : DS → M D) : DS → M Bool := fun τ => (m τ).bind fun d => match d with
 | .bl b => M.ret b
 | _ => M.stop
theorem EZ {m : DS → M D} {σ : L2.St} {H : Hp} {Q : Bool → Hp → Prop} (h : liftT X.K X.mg EE (jR m) σ H Q) : e7 X.K X.mg EE m σ H fun x H1 => ∃ c, x = .bl c ∧ Q c H1 := by
 obtain ⟨τ, ρ, G, ab, ok⟩ := CJ (k := fun _ d => match d with | .bl b => M.ret b | _ => M.stop) h
 refine ⟨τ, ρ, G, ab, ?_⟩
 cases e : m τ G with
 | stuck => rw [e] at ok; exact ok
 | dG c G' => rw [e] at ok; exact ok
 | ok d G' =>
  rw [e] at ok
  intro v H' ρ' f' cG r'
  obtain ⟨τ2, ρ2, G2, d2, ef, r2, aU⟩ := ok v H' ρ' f' cG r'
  cases d2 <;> try exact aU.elim
  rename_i k
  unfold Rep at r2
  exact ⟨k, r2, aU H' ρ2 .refl ef⟩
theorem HZ {op : CmpOp} {f : D → D → M D} (ho : nj X (compareOp op) (rD X EE f)) (ha : QE X EE a ma) (hb : QE X EE b mb) (hm : behindInMarks op b = false) : QT X EE (.Compare a [op] [b] pos) (jR (aM f ma mb)) :=
 PT.mono (EG ho ha hb hm) fun σ H Q h => by
  have h1 := EZ h
  exact sM qc h1
theorem Ga {f : D → D → M D} {g : Value → Value → Sem Value} {r : R2} (ho : nj X g r) (hd : Eo X EE r f) : nj X g (rD X EE f) := fun pins s σ H x y v u Q I rx ry q => ho pins s σ H x y v u Q I rx ry (FZ hd q)
theorem CW : nj X (compareOp .Lt) (rD X EE LR) := Ga JO (tK fun _ _ _ _ => by unfold Rep; rfl)
theorem zL : nj X (compareOp .Gt) (rD X EE Jh) := Ga JP (tK fun _ _ _ _ => by unfold Rep; rfl)
noncomputable def MZ (t : DS → M Bool) (ma mb : DS → M D) : DS → M D := fun τ => (t τ).bind fun c => if c then ma τ else mb τ
theorem Kd {c : Expr} (hc : QT X EE c ta) (ha : QE X EE a ma) (hb : QE X EE b mb) : QE X EE (.IfExp c a b pos) (MZ ta ma mb) := PE.mono (Cq hc ha hb) fun σ H Q h => by
 obtain ⟨τ, ρ, G, ab, ok⟩ := HP (k := fun τ c => if c then ma τ else mb τ) h
 refine ⟨τ, ρ, G, ab, ?_⟩
 cases e : ta τ G with
 | stuck => rw [e] at ok; exact ok
 | dG c G' => rw [e] at ok; exact ok
 | ok k G' =>
  rw [e] at ok
  intro H' ρ' f' cG
  obtain ⟨τ2, ρ2, G2, ef, aU⟩ := ok H' ρ' f' cG
  cases k with
  | true => exact ⟨τ2, ρ2, G2, ef, aU⟩
  | false => exact ⟨τ2, ρ2, G2, ef, aU⟩
noncomputable def E3 (ma mb : DS → M D) : DS → M D := fun τ => (ma τ).bind fun d => match d with
 | .bl true => mb τ
 | .bl false => M.ret (.bl false)
 | _ => M.stop
theorem CY {op} (h : QE X EE a ma) : QE X EE (.BoolOp op [a] pos) ma := GX h
theorem CZ (ha : QE X EE a ma) (hb : QE X EE (.BoolOp .And (b :: rest) pos) mb) : QE X EE (.BoolOp .And (a :: b :: rest) pos) (E3 ma mb) := PE.mono (GY ha hb) fun σ H Q h => by
 obtain ⟨τ, ρ, G, ab, ok⟩ := nk (k := fun τ d => match d with | .bl true => mb τ | .bl false => M.ret (.bl false) | _ => M.stop) h
 refine ⟨τ, ρ, G, ab, ?_⟩
 cases e : ma τ G with
 | stuck => rw [e] at ok; exact ok
 | dG c G' => rw [e] at ok; exact ok
 | ok k G' =>
  rw [e] at ok
  intro v H' ρ' f' cG r'
  obtain ⟨τ2, ρ2, G2, d2, ef, r2, aU⟩ := ok v H' ρ' f' cG r'
  cases d2 <;> try exact aU.elim
  rename_i k
  unfold Rep at r2
  refine ⟨k, r2, ?_⟩
  cases k with
  | true => exact ⟨τ2, ρ2, G2, ef, aU⟩
  | false => exact aU _ H' ρ2 .refl ef (by unfold Rep; rfl)
end
end L3
end
section
set_option Elab.async false
set_option linter.all false
set_option maxRecDepth 100000
namespace L3
open PySem PySem.Spec L2
section
variable {X : Cx} {EE : eU} {a b c : Expr} {ma mb mc : DS → M D} {pos : Pos} {ta tb tc : DS → M Bool} {ms mt : MS}
noncomputable def dS : MS := fun τ G => .nx τ G
noncomputable def bu (m k : MS) : MS := fun τ G => match m τ G with
 | .nx τ' G' => k τ' G'
 | r => r
theorem dm : zI X EE [] dS := xJ.mono EA fun D σ H ⟨τ, ρ, G, ab, ok⟩ => ok σ H ρ .refl ab
theorem C0 {Dd : Ends} {σ : L2.St} {H : Hp} (h : lC X.K X.mg EE (bu ms mt) Dd σ H) : JE (lC X.K X.mg EE ms) (lC X.K X.mg EE mt) Dd σ H := by
 obtain ⟨τ, ρ, G, ab, ok⟩ := h
 refine ⟨τ, ρ, G, ab, ?_⟩
 dsimp only [bu] at ok
 cases e : ms τ G with
 | nx τ' G' => rw [e] at ok; exact fun σ' H' ρ' f cG => ⟨τ', ρ', G', cG, ok.fut f⟩
 | stuck => rw [e] at ok; exact ok
 | rt d G => rw [e] at ok; exact ok
 | bk τ G => rw [e] at ok; exact ok
 | ct τ G => rw [e] at ok; exact ok
 | xn c τ G => rw [e] at ok; exact ok
theorem ay {st : Stmt} {rest : List Stmt} (h1 : QS X EE st ms) (h2 : zI X EE rest mt) : zI X EE (st :: rest) (bu ms mt) := xJ.mono (Cr h1 h2) fun _ _ _ h => C0 h
theorem aJ {st : Stmt} (h1 : QS X EE st ms) : zI X EE [st] ms := An h1
noncomputable def jX (m : DS → M D) : MS := fun τ => cZ (m τ) (fun _ G => .nx τ G) fun c G => .xn c τ G
noncomputable def jI (m : DS → M D) : MS := fun τ => cZ (m τ) (fun d G => .rt d G) fun c G => .xn c τ G
noncomputable def cu (i : Nat) (m : DS → M D) : MS := fun τ => cZ (m τ) (fun d G => .nx (τ.set i (some d)) G) fun c G => .xn c τ G
noncomputable def pS (t : DS → M Bool) (ma mb : MS) : MS := fun τ => cZ (t τ) (fun c G => if c then ma τ G else mb τ G) fun c G => .xn c τ G
theorem E4 (he : QE X EE a ma) (hs : swapsWith a none pos.line X.env = pure false := by rfl) : QS X EE (.Expr a pos) (jX ma) := PS.mono (EB he hs) fun D σ H h => by
 obtain ⟨τ, ρ, G, ab, ok⟩ := tH (k := fun τ d G => .nx τ G) h
 refine ⟨τ, ρ, G, ab, ?_⟩
 cases e : ma τ G with
 | stuck => rw [e] at ok; exact ok
 | dG c G' => rw [e] at ok; exact ok
 | ok d G' =>
  rw [e] at ok
  intro v H' ρ' f' cG r'
  obtain ⟨τ2, ρ2, G2, d2, ef, r2, aU⟩ := ok v H' ρ' f' cG r'
  exact aU σ H' ρ2 .refl ef
theorem e8 (he : QE X EE a ma) : QS X EE (.Return (some a) pos) (jI ma) := PS.mono (GZ he) fun D σ H h => by
 obtain ⟨τ, ρ, G, ab, ok⟩ := tH (k := fun τ d G => .rt d G) h
 refine ⟨τ, ρ, G, ab, ?_⟩
 cases e : ma τ G with
 | stuck => rw [e] at ok; exact ok
 | dG c G' => rw [e] at ok; exact ok
 | ok d G' =>
  rw [e] at ok
  intro v H' ρ' f' cG r'
  obtain ⟨τ2, ρ2, G2, d2, ef, r2, aU⟩ := ok v H' ρ' f' cG r'
  exact aU v H' ρ2 .refl ef.hp r2
theorem Ab.set {K : PySem.W.Frag} {mg : Str → Option Value} {σ : L2.St} {H : Hp} {τ : DS} {ρ : List Addr} {G : DH} {i : Nat} {d : D} {v : V} (ab : Ab K mg σ H τ ρ G) (r : Rep K mg ρ H d v) : Ab K mg (σ.set i (some v)) H (τ.set i (some d)) ρ G := ⟨ab.st.set r, ab.hp⟩
theorem H8 {i : Nat} {x : Str} {pos' : Pos} (hN : X.N.Nodup) (he : QE X EE a ma) (hi : X.N[i]? = some x := by rfl) (hx : Loc X.env.scope x := by first | exact Or.inl rfl | exact Or.inr rfl)
  (hs : swapsWith a (some (.Name x pos')) pos.line X.env = pure false := by rfl) (hf : X.fn x = true ∨ X.env.scope.names.lookup x = some .local := by first | exact .inl rfl | exact .inr rfl | assumption) :
  QS X EE (.Assign [.Name x pos'] a pos) (cu i ma) := PS.mono (G8 hN hi hx he hs hf) fun D σ H h => by
 obtain ⟨τ, ρ, G, ab, ok⟩ := tH (k := fun τ d G => .nx (τ.set i (some d)) G) h
 refine ⟨τ, ρ, G, ab, ?_⟩
 cases e : ma τ G with
 | stuck => rw [e] at ok; exact ok
 | dG c G' => rw [e] at ok; exact ok
 | ok d G' =>
  rw [e] at ok
  intro v H' ρ' f' cG r'
  obtain ⟨τ2, ρ2, G2, d2, ef, r2, aU⟩ := ok v H' ρ' f' cG r'
  exact aU _ H' ρ2 .refl (ef.set r2)
theorem gG {body els : List Stmt} (hc : QT X EE c tc) (ha : zI X EE body ms) (hb : zI X EE els mt) : QS X EE (.If c body els pos) (pS tc ms mt) := PS.mono (JG hc ha hb) fun D σ H h => by
 obtain ⟨τ, ρ, G, ab, ok⟩ := HR (k := fun τ c G => if c then ms τ G else mt τ G) h
 refine ⟨τ, ρ, G, ab, ?_⟩
 cases e : tc τ G with
 | stuck => rw [e] at ok; exact ok
 | dG c G' => rw [e] at ok; exact ok
 | ok k G' =>
  rw [e] at ok
  intro H' ρ' f' cG
  obtain ⟨τ2, ρ2, G2, ef, aU⟩ := ok H' ρ' f' cG
  cases k with
  | true => exact ⟨τ2, ρ2, G2, ef, aU⟩
  | false => exact ⟨τ2, ρ2, G2, ef, aU⟩
noncomputable abbrev pF := D → DS → Option DS
noncomputable def x8 (K : PySem.W.Frag) (mg : Str → Option Value) (g : pF) : TG := fun v σ H Q => ∃ τ ρ G d τ', Ab K mg σ H τ ρ G ∧ Rep K mg ρ H d v ∧ g d τ = some τ' ∧ ∀ σ', Ab K mg σ' H τ' ρ G → Q σ' H
noncomputable def QG (X : Cx) (e : Expr) (g : pF) : Prop := PG X e (x8 X.K X.mg g)
noncomputable def gN (i : Nat) : pF := fun d τ => some (τ.set i (some d))
theorem E5 {i : Nat} {x : Str} (hN : X.N.Nodup) (hi : X.N[i]? = some x := by rfl) (hx : Loc X.env.scope x := by first | exact Or.inl rfl | exact Or.inr rfl) (hf : X.fn x = true ∨ X.env.scope.names.lookup x = some .local := by first | exact .inl rfl | exact .inr rfl | assumption) :
  QG X (.Name x pos) (gN i) := fun pins s σ H v u Q I r ⟨τ, ρ, G, d, τ', ab, rd, e, q⟩ => lR hN hi hx hf pins s σ H v u Q I r (by
 cases e
 exact q _ (ab.set rd))
noncomputable def cN (g : pF) (body : MS) : List D → MS
 | [], τ, G => .nx τ G
 | d :: r, τ, G => match g d τ with
  | none => .stuck
  | some τ1 => match body τ1 G with
   | .nx τ' G' => cN g body r τ' G'
   | .ct τ' G' => cN g body r τ' G'
   | .bk τ' G' => .nx τ' G'
   | x => x
noncomputable def wL (g : pF) (body : MS) (n : Nat) : Nat → Nat → MS
 | 0, _, _, _ => .stuck
 | f + 1, k, τ, G => match G[n]? with
  | some (.lst xs) => match xs[k]? with
   | none => .nx τ G
   | some d => match g d τ with
    | none => .stuck
    | some τ1 => match body τ1 G with
     | .nx τ' G' => wL g body n f (k + 1) τ' G'
     | .ct τ' G' => wL g body n f (k + 1) τ' G'
     | .bk τ' G' => .nx τ' G'
     | x => x
  | _ => .stuck
end
end L3
end
section
set_option Elab.async false
set_option linter.all false
set_option maxRecDepth 100000
namespace L3
open PySem PySem.Spec L2
noncomputable def AD (z : Str) : It := ⟨fun i _ => i < z.cps.size, fun i H x H' => H' = H ∧ ∃ c, z.cps[i]? = some c ∧ x = .str ⟨#[c]⟩, fun i _ => z.cps.size ≤ i⟩
theorem C1 {P : Program} {w : World} {K : PySem.W.Frag} {tg : Expr} (z : Str) (t : Tok) (it : Addr) : Turn P w K tg (AD z) [it] it (fun i h => h.IsStrIter it (strIterType z) z t i) where
 mem := by simp
 obj := fun i h st b hb => by
  have e : b = it := by simpa using hb
  subst e
  obtain ⟨o, e, c, d⟩ := st
  exact ⟨o, e, fun v z => by rw [d] at z; cases z⟩
 keep := fun i h h' st k => by
  obtain ⟨o, e, r⟩ := st
  exact ⟨o, k it (by simp) o e, r⟩
 item := by
  intro X hP hw hK hc i pins s σ H E I hf st hg
  subst hP hw hK
  obtain ⟨f0, f1, f2, f3, f4, f5⟩ := hf it (by simp)
  have hx : z.cps[i]? = some z.cps[i] := Array.getElem?_eq_getElem hg
  have fin : ∀ h', h'.IsStrIter it (strIterType z) z t (i + 1) → Heap.SameBut it s.heap h' → ∃ u, some (Value.str ⟨#[z.cps[i]]⟩ s.toks) = some u ∧
   wpAny (model X.prog X.w) X.A (letOwnedTupleGo tg (.ref it) u) (fun _ s2 => ∃ x H', Inv X pins σ H' s2 ∧ RelV x u ∧ (AD z).xK i H x H' ∧ s2.heap.IsStrIter it (strIterType z) z t (i + 1) ∧ ∀ b ∈ [it], H' b = none) E { s with heap := h', toks := s.toks + 1 } := fun h' st' sb => by
   have I1 : Inv X pins σ H { s with heap := h', toks := s.toks + 1 } := I.turned (t' := s.toks + 1) (fun b o hb e => (sb.2 b hb).trans e) f0 f1 f3 f4 f5
   obtain ⟨o, e, c, d⟩ := id st'
   refine ⟨_, rfl, Ar (s := { s with heap := h', toks := s.toks + 1 }) e c d ?_ ⟨.str ⟨#[z.cps[i]]⟩, H, I1, ⟨_, rfl⟩, ⟨rfl, _, hx, rfl⟩, st', fun b hb => (hf b hb).1⟩⟩
   unfold strIterType
   split <;> decide
  cases ha : z.cps.all (· < 128) with
  | true =>
   have e : strIterType z = "str_ascii_iterator" := by unfold strIterType; rw [ha]; rfl
   rw [e] at st fin
   exact wpAny_pyNext_ascii_item st hx fun h' st' sb => by rw [e]; exact fin h' st' sb
  | false =>
   have e : strIterType z = "str_iterator" := by unfold strIterType; rw [ha]; rfl
   rw [e] at st fin
   exact wpAny_pyNext_wide_item st hx fun h' st' sb => by rw [e]; exact fin h' st' sb
 done := by
  intro X hP hw hK hc i pins s σ H E I hf st hg
  subst hP hw hK
  obtain ⟨f0, f1, f2, f3, f4, f5⟩ := hf it (by simp)
  have hx : z.cps[i]? = none := Array.getElem?_eq_none hg
  have fin : ∀ h', Heap.ExtBut it s.heap h' → (none : Option Value) = none ∧ Inv X pins σ H { s with heap := h' } := fun h' eb => ⟨rfl, I.turned (t' := s.toks) (fun b o hb e => eb b o hb e) f0 f1 f3 f4 f5⟩
  cases ha : z.cps.all (· < 128) with
  | true =>
   have e : strIterType z = "str_ascii_iterator" := by unfold strIterType; rw [ha]; rfl
   rw [e] at st
   exact wpAny_pyNext_ascii_end (I.ok.hd hc) st hx fin
  | false =>
   have e : strIterType z = "str_iterator" := by unfold strIterType; rw [ha]; rfl
   rw [e] at st
   exact wpAny_pyNext_wide_end (I.ok.hd hc) st hx fin
 self := fun A i s Q E st h => by
  cases ha : z.cps.all (· < 128) with
  | true =>
   have e : strIterType z = "str_ascii_iterator" := by unfold strIterType; rw [ha]; rfl
   rw [e] at st
   exact wpAny_pyIter_striter_ascii st h
  | false =>
   have e : strIterType z = "str_iterator" := by unfold strIterType; rw [ha]; rfl
   rw [e] at st
   exact wpAny_pyIter_striter_wide st h
section
variable {X : Cx} {EE : eU} {a b c tg : Expr} {ma mb mc : DS → M D} {pos : Pos} {ms mt : MS}
noncomputable def kL (g : pF) (m : DS → M D) (body : MS) : MS := fun τ => cZ (m τ) (fun d G => match d with
 | .obj n => match G[n]? with
  | some (.lst xs) => wL g body n (xs.length + 1) 0 τ G
  | _ => .stuck
 | .tup xs => cN g body xs τ G
 | .con xs => cN g body xs τ G
 | .str z => cN g body (z.cps.toList.map fun c => .str ⟨#[c]⟩) τ G
 | _ => .stuck) fun c G => .xn c τ G
theorem nW {g : pF} {body : MS} {Dd : Ends} {J : It} {H0 : Hp} {σ0 : L2.St} {ρ0 : List Addr} {G0 : DH} {τ0 : DS} (ds : List D)
  (go : ∀ i H ρ, i < ds.length → d9 X.K H0 H ρ0 ρ → J.go i H) (stop : ∀ i H ρ, ds.length ≤ i → d9 X.K H0 H ρ0 ρ → J.stop i H)
  (xK : ∀ i d H ρ x H', ds[i]? = some d → d9 X.K H0 H ρ0 ρ → J.xK i H x H' → H' = H ∧ Rep X.K X.mg ρ H d x)
  (ab : Ab X.K X.mg σ0 H0 τ0 ρ0 G0) (ok : uO X.K X.mg EE H0 ρ0 Dd (cN g body ds τ0 G0)) :
  ∃ W : Nat → Nat → L2.St → Hp → Prop, (∃ m, W 0 m σ0 H0) ∧ ∀ i m σ H, W i m σ H →
   (J.stop i H ∧ Dd.nx σ H) ∨ (J.go i H ∧ ∃ N : L2.St → Hp → Prop, (∀ σ' H', N σ' H' → ∃ m', m' < m ∧ W (i + 1) m' σ' H') ∧ ∀ x H', J.xK i H x H' → x8 X.K X.mg g x σ H' fun σ2 H2 => lC X.K X.mg EE body { Dd with nx := N, ct := N, bk := Dd.nx } σ2 H2) := by
 refine ⟨fun i m σ H => i ≤ ds.length ∧ m = ds.length - i ∧ ∃ τ ρ G, Ab X.K X.mg σ H τ ρ G ∧ d9 X.K H0 H ρ0 ρ ∧ uO X.K X.mg EE H ρ Dd (cN g body (ds.drop i) τ G), ⟨ds.length, Nat.zero_le _, rfl, τ0, ρ0, G0, ab, .refl, by simpa using ok⟩, ?_⟩
 rintro i m σ H ⟨hi, rfl, τ, ρ, G, ab, f, ok⟩
 by_cases hlt : i < ds.length
 ·refine .inr ⟨go i H ρ hlt f, fun σ' H' => ∃ τ' ρ' G', Ab X.K X.mg σ' H' τ' ρ' G' ∧ d9 X.K H0 H' ρ0 ρ' ∧ uO X.K X.mg EE H' ρ' Dd (cN g body (ds.drop (i + 1)) τ' G'), fun σ' H' n => ⟨ds.length - (i + 1), by omega, hlt, rfl, n⟩, fun x H' y => ?_⟩
  obtain ⟨rfl, rx⟩ := xK i ds[i] H ρ x H' (List.getElem?_eq_getElem hlt) f y
  rw [List.drop_eq_getElem_cons hlt] at ok
  unfold cN at ok
  cases e : g ds[i] τ with
  | none => rw [e] at ok; exact ok.elim
  | some τ1 =>
   rw [e] at ok
   dsimp only at ok
   refine ⟨τ, ρ, G, ds[i], τ1, ab, rx, e, fun σ' cG => ⟨τ1, ρ, G, cG, ?_⟩⟩
   cases eb : body τ1 G with
   | stuck => rw [eb] at ok; exact ok
   | nx τ2 G2 => rw [eb] at ok; exact fun σ2 H2 ρ2 f2 ef => ⟨τ2, ρ2, G2, ef, f.trans f2, ok.fut f2⟩
   | ct τ2 G2 => rw [eb] at ok; exact fun σ2 H2 ρ2 f2 ef => ⟨τ2, ρ2, G2, ef, f.trans f2, ok.fut f2⟩
   | bk τ2 G2 => rw [eb] at ok; exact ok
   | rt d G2 => rw [eb] at ok; exact ok
   | xn c τ2 G2 => rw [eb] at ok; exact ok
 ·have e : i = ds.length := by omega
  subst e
  refine .inl ⟨stop _ H ρ (Nat.le_refl _) f, ?_⟩
  rw [List.drop_eq_nil_of_le (Nat.le_refl _)] at ok
  exact ok σ H ρ .refl ab
theorem E6 {g : pF} {body : MS} {Dd : Ends} {H0 : Hp} {σ0 : L2.St} {ρ0 : List Addr} {G0 : DH} {τ0 : DS} {n : Nat} {p : Addr} {fuel : Nat} (hn : ρ0[n]? = some p)
  (ab : Ab X.K X.mg σ0 H0 τ0 ρ0 G0) (ok : uO X.K X.mg EE H0 ρ0 Dd (wL g body n fuel 0 τ0 G0)) :
  ∃ W : Nat → Nat → L2.St → Hp → Prop, (∃ m, W 0 m σ0 H0) ∧ ∀ i m σ H, W i m σ H →
   ((El X.K p).stop i H ∧ Dd.nx σ H) ∨ ((El X.K p).go i H ∧ ∃ N : L2.St → Hp → Prop, (∀ σ' H', N σ' H' → ∃ m', m' < m ∧ W (i + 1) m' σ' H') ∧ ∀ x H', (El X.K p).xK i H x H' → x8 X.K X.mg g x σ H' fun σ2 H2 => lC X.K X.mg EE body { Dd with nx := N, ct := N, bk := Dd.nx } σ2 H2) := by
 refine ⟨fun i m σ H => ∃ τ ρ G, Ab X.K X.mg σ H τ ρ G ∧ d9 X.K H0 H ρ0 ρ ∧ uO X.K X.mg EE H ρ Dd (wL g body n m i τ G), ⟨fuel, τ0, ρ0, G0, ab, .refl, ok⟩, ?_⟩
 rintro i m σ H ⟨τ, ρ, G, ab, f, ok⟩
 cases m with
 | zero => exact ok.elim
 | succ m =>
  unfold wL at ok
  cases q : G[n]? with
  | none => rw [q] at ok; exact ok.elim
  | some o =>
   cases o with
   | dead => first | (rw [q] at ok; exact ok.elim) | (rw [q] at aU; exact aU.elim) | (rw [q] at e; cases e; done) | (rw [g] at ok; exact ok.elim) | (rw [g] at q; cases q; done) | (rw [g] at h; cases h; done) | (rw [g2] at ok; exact ok.elim) | (rw [g1, g2] at ok; exact ok.elim) | (rw [q1] at ok; exact ok.elim) | exact ok.elim
   | dct kv => first | (rw [q] at ok; exact ok.elim) | (rw [q] at aU; exact aU.elim) | (rw [q] at e; cases e; done) | (rw [g] at ok; exact ok.elim) | (rw [g] at q; cases q; done) | (rw [g] at h; cases h; done) | (rw [g2] at ok; exact ok.elim) | (rw [g1, g2] at ok; exact ok.elim) | (rw [q1] at ok; exact ok.elim) | exact ok.elim
   | pB fz kv => first | (rw [q] at ok; exact ok.elim) | (rw [q] at aU; exact aU.elim) | (rw [q] at e; cases e; done) | (rw [g] at ok; exact ok.elim) | (rw [g] at q; cases q; done) | (rw [g] at h; cases h; done) | (rw [g2] at ok; exact ok.elim) | (rw [g1, g2] at ok; exact ok.elim) | (rw [q1] at ok; exact ok.elim) | exact ok.elim
   | lst ds =>
    rw [q] at ok
    dsimp only at ok
    obtain ⟨p', xs, e1, e2, rs⟩ := ab.hp.lst q
    rw [f.get hn] at e1; cases e1
    cases qd : ds[i]? with
    | none =>
     rw [qd] at ok
     have hl : xs.length ≤ i := by rw [← rs.length]; exact List.getElem?_eq_none_iff.mp qd
     exact .inl ⟨⟨xs, .of e2, hl⟩, ok σ H ρ .refl ab⟩
    | some d =>
     rw [qd] at ok
     dsimp only at ok
     obtain ⟨x0, ex, rx⟩ := rs.get qd
     refine .inr ⟨⟨xs, x0, .of e2, ex⟩, fun σ' H' => ∃ τ' ρ' G', Ab X.K X.mg σ' H' τ' ρ' G' ∧ d9 X.K H0 H' ρ0 ρ' ∧ uO X.K X.mg EE H' ρ' Dd (wL g body n m (i + 1) τ' G'), fun σ' H' z => ⟨m, Nat.lt_succ_self _, z⟩, fun x H' y => ?_⟩
     obtain ⟨rfl, y⟩ := y
     have e3 := y xs (.of e2)
     rw [ex] at e3; cases e3
     cases e : g d τ with
     | none => rw [e] at ok; exact ok.elim
     | some τ1 =>
      rw [e] at ok
      dsimp only at ok
      refine ⟨τ, ρ, G, d, τ1, ab, rx, e, fun σ' cG => ⟨τ1, ρ, G, cG, ?_⟩⟩
      cases eb : body τ1 G with
      | stuck => rw [eb] at ok; exact ok
      | nx τ2 G2 => rw [eb] at ok; exact fun σ2 H2 ρ2 f2 ef => ⟨τ2, ρ2, G2, ef, f.trans f2, ok.fut f2⟩
      | ct τ2 G2 => rw [eb] at ok; exact fun σ2 H2 ρ2 f2 ef => ⟨τ2, ρ2, G2, ef, f.trans f2, ok.fut f2⟩
      | bk τ2 G2 => rw [eb] at ok; exact ok
      | rt d G2 => rw [eb] at ok; exact ok
      | xn c τ2 G2 => rw [eb] at ok; exact ok
theorem PI.any {l : Expr} {tl : TE} (hl : PE X l tl) : PI X tg l (fun σ H R => tl σ H fun x H1 => (∃ p, x = .ref p ∧ (∃ xs, pq X.K H1 p xs) ∧ R (El X.K p) H1) ∨ (∃ p, x = .ref p ∧ (∃ xs, qS X.K H1 p xs) ∧ R (LJ X.K p) H1) ∨ ∃ z, x = .str z ∧ R (AD z) H1) := by
 intro pins s σ H R I h
 refine gm (hl pins s σ H _ I h) fun u s1 ⟨x, H1, I1, r1, q⟩ => ?_
 rcases q with ⟨p, rfl, ⟨xs, sq⟩, q⟩ | ⟨p, rfl, ⟨xs, sq⟩, q⟩ | ⟨z, rfl, q⟩
 ·cases r1
  obtain ⟨its, rv, pl, hz⟩ := I1.list sq
  refine wpAny_pyIter_list pl.isList ?_
  have I2 : Inv X pins σ H1 { s1 with heap := s1.heap.push { cls := .type "list_iterator", data := .fields #[.ref p, .int 0 0] } } := I1.kept (t' := s1.toks) fun b o e => Heap.get?_push_of_some _ e
  refine ⟨s1.heap.objs.size, [s1.heap.objs.size], _, El X.K p, H1, rfl, I2, Bm p _, ⟨_, Heap.get?_push_size _ rfl, rfl, rfl⟩, fun b hb => ?_, q⟩
  have e : b = s1.heap.objs.size := by simpa using hb
  subst e
  exact I1.xQ (Nat.le_refl _) (I1.hok.fresh (Nat.le_refl _))
 ·cases r1
  obtain ⟨its, rv, pl, hz⟩ := I1.tuple sq
  refine wpAny_pyIter_tuple pl ?_
  have I2 : Inv X pins σ H1 { s1 with heap := s1.heap.push { cls := .type "tuple_iterator", data := .fields #[.ref p, .int 0 0] } } := I1.kept (t' := s1.toks) fun b o e => Heap.get?_push_of_some _ e
  refine ⟨s1.heap.objs.size, [s1.heap.objs.size], _, LJ X.K p, H1, rfl, I2, zq p _, ⟨_, Heap.get?_push_size _ rfl, rfl, rfl⟩, fun b hb => ?_, q⟩
  have e : b = s1.heap.objs.size := by simpa using hb
  subst e
  exact I1.xQ (Nat.le_refl _) (I1.hok.fresh (Nat.le_refl _))
 ·obtain ⟨t, rfl⟩ := r1
  refine wpAny_pyIter_strU ?_
  have I2 : Inv X pins σ H1 { s1 with heap := s1.heap.push { cls := .type (strIterType z), data := .fields #[.str z t, .int 0 0] } } := I1.kept (t' := s1.toks) fun b o e => Heap.get?_push_of_some _ e
  refine ⟨s1.heap.objs.size, [s1.heap.objs.size], _, AD z, H1, rfl, I2, C1 z t _, ⟨_, Heap.get?_push_size _ rfl, rfl, rfl⟩, fun b hb => ?_, q⟩
  have e : b = s1.heap.objs.size := by simpa using hb
  subst e
  exact I1.xQ (Nat.le_refl _) (I1.hok.fresh (Nat.le_refl _))
theorem Ia {g : pF} {body : List Stmt} (hp : PassesOwn (model X.prog X.w) X.A X.env X.xe) (hc : X.calm = true) (ha : QE X EE a ma) (hg : QG X tg g) (hb : zI X EE body ms) (hs : ∀ x, foldedSetIterable a X.env x = pure x := by intro _; rfl) :
  QS X EE (.For tg a body [] pos) (kL g ma ms) := PS.mono (zw hp hc (PI.any ha) hg hb hs) fun Dd σ H h => by
 obtain ⟨τ, ρ, G, ab, ok⟩ := tH (k := fun τ d G => match d with
  | .obj n => match G[n]? with
   | some (.lst xs) => wL g ms n (xs.length + 1) 0 τ G
   | _ => .stuck
  | .tup xs => cN g ms xs τ G
  | .con xs => cN g ms xs τ G
  | .str z => cN g ms (z.cps.toList.map fun c => .str ⟨#[c]⟩) τ G
  | _ => .stuck) h
 refine ⟨τ, ρ, G, ab, ?_⟩
 cases e : ma τ G with
 | stuck => rw [e] at ok; exact ok
 | dG c G' => rw [e] at ok; exact ok
 | ok d G' =>
  rw [e] at ok
  intro v H1 ρ1 f1 wJ r1
  obtain ⟨τ2, ρ2, G2, d2, ef, r2, aU⟩ := ok v H1 ρ1 f1 wJ r1
  cases d2 <;> try exact aU.elim
  case obj n =>
   dsimp only at aU
   unfold Rep at r2
   obtain ⟨p, rfl, e1⟩ := r2
   cases q : G2[n]? with
   | none => rw [q] at aU; exact aU.elim
   | some o =>
    cases o with
    | dead => first | (rw [q] at ok; exact ok.elim) | (rw [q] at aU; exact aU.elim) | (rw [q] at e; cases e; done) | (rw [g] at ok; exact ok.elim) | (rw [g] at q; cases q; done) | (rw [g] at h; cases h; done) | (rw [g2] at ok; exact ok.elim) | (rw [g1, g2] at ok; exact ok.elim) | (rw [q1] at ok; exact ok.elim) | exact ok.elim
    | dct kv => first | (rw [q] at ok; exact ok.elim) | (rw [q] at aU; exact aU.elim) | (rw [q] at e; cases e; done) | (rw [g] at ok; exact ok.elim) | (rw [g] at q; cases q; done) | (rw [g] at h; cases h; done) | (rw [g2] at ok; exact ok.elim) | (rw [g1, g2] at ok; exact ok.elim) | (rw [q1] at ok; exact ok.elim) | exact ok.elim
    | pB fz kv => first | (rw [q] at ok; exact ok.elim) | (rw [q] at aU; exact aU.elim) | (rw [q] at e; cases e; done) | (rw [g] at ok; exact ok.elim) | (rw [g] at q; cases q; done) | (rw [g] at h; cases h; done) | (rw [g2] at ok; exact ok.elim) | (rw [g1, g2] at ok; exact ok.elim) | (rw [q1] at ok; exact ok.elim) | exact ok.elim
    | lst xs =>
     rw [q] at aU
     obtain ⟨p', vs, e2, h2, rs⟩ := ef.hp.lst q
     rw [e1] at e2; cases e2
     exact .inl ⟨p, rfl, ⟨vs, .of h2⟩, E6 e1 ef aU⟩
  case tup xs =>
   unfold Rep at r2
   obtain ⟨p, vs, rfl, sq, rs⟩ := r2
   refine .inr (.inl ⟨p, rfl, ⟨vs, sq⟩, nW xs (fun i H' ρ' hi f => ?_) (fun i H' ρ' hi f => ?_) (fun i d' H' ρ' x Ke hd f y => ?_) ef aU⟩)
   ·rw [rs.length] at hi
    exact ⟨vs, vs[i], f.tup _ _ sq, List.getElem?_eq_getElem hi⟩
   ·exact ⟨vs, f.tup _ _ sq, by rw [← rs.length]; exact hi⟩
   ·obtain ⟨rfl, y⟩ := y
    obtain ⟨w', ew, rw'⟩ := rs.get hd
    have := y vs (f.tup _ _ sq)
    rw [ew] at this; cases this
    exact ⟨rfl, rw'.mono f⟩
  case con xs =>
   unfold Rep at r2
   obtain ⟨p, vs, rfl, sq, rs⟩ := r2
   refine .inl ⟨p, rfl, ⟨vs, sq.seq⟩, nW xs (fun i H' ρ' hi f => ?_) (fun i H' ρ' hi f => ?_) (fun i d' H' ρ' x Ke hd f y => ?_) ef aU⟩
   ·rw [rs.length] at hi
    exact ⟨vs, vs[i], (f.con _ _ sq).seq, List.getElem?_eq_getElem hi⟩
   ·exact ⟨vs, (f.con _ _ sq).seq, by rw [← rs.length]; exact hi⟩
   ·obtain ⟨rfl, y⟩ := y
    obtain ⟨w', ew, rw'⟩ := rs.get hd
    have := y vs (f.con _ _ sq).seq
    rw [ew] at this; cases this
    exact ⟨rfl, rw'.mono f⟩
  case str z =>
   unfold Rep at r2; subst r2
   refine .inr (.inr ⟨z, rfl, nW (z.cps.toList.map fun c => .str ⟨#[c]⟩) (fun i H' ρ' hi f => ?_) (fun i H' ρ' hi f => ?_) (fun i d' H' ρ' x Ke hd f y => ?_) ef aU⟩)
   ·simpa [AD] using hi
   ·simpa [AD] using hi
   ·obtain ⟨rfl, c, hc, rfl⟩ := y
    rw [List.getElem?_map] at hd
    have : z.cps.toList[i]? = some c := by simpa using hc
    rw [this] at hd
    cases hd
    exact ⟨rfl, by unfold Rep; rfl⟩
noncomputable def qZ : List D → Option (List D)
 | [.int j] => if -(2 ^ 62) ≤ j ∧ j < 2 ^ 62 then some ((List.range j.toNat).map fun (k : Nat) => .int (0 + (k : Int))) else none
 | _ => none
noncomputable def gH (Eu : List D → Option (List D)) (g : pF) (m : DS → M (List D)) (body : MS) : MS := fun τ => cZ (m τ) (fun ds G => match Eu ds with
 | some xs => cN g body xs τ G
 | none => .stuck) fun c G => .xn c τ G
theorem C2 {K : PySem.W.Frag} {mg : Str → Option Value} {σ : L2.St} {H : Hp} {m : DS → M (List D)} {k : DS → List D → DH → Res} {Dd : Ends} (h : lC K mg EE (fun τ => cZ (m τ) (k τ) fun c G => .xn c τ G) Dd σ H) :
  tG K mg EE m σ H fun x H1 => ∃ τ ρ G d, Ab K mg σ H1 τ ρ G ∧ aE K mg ρ H1 d x ∧ uO K mg EE H1 ρ Dd (k τ d G) := by
 obtain ⟨τ, ρ, G, ab, ok⟩ := h
 refine ⟨τ, ρ, G, ab, ?_⟩
 dsimp only [cZ] at ok
 cases e : m τ G with
 | stuck => rw [e] at ok; exact ok
 | dG c G' => rw [e] at ok; exact fun H' ρ' f cG => ok σ H' ρ' f cG
 | ok d G' => rw [e] at ok; exact fun v H' ρ' f cG r => ⟨τ, ρ', G', d, cG, r, ok.fut f⟩
theorem BF {g : pF} {body : MS} {Dd : Ends} {H0 : Hp} {σ0 : L2.St} {ρ0 : List Addr} {G0 : DH} {τ0 : DS} (lo : Int) (n : Nat) (ab : Ab X.K X.mg σ0 H0 τ0 ρ0 G0) (ok : uO X.K X.mg EE H0 ρ0 Dd (cN g body ((List.range n).map fun (k : Nat) => .int (lo + (k : Int))) τ0 G0)) :
  ∃ W : Nat → Nat → L2.St → Hp → Prop, (∃ m, W 0 m σ0 H0) ∧ ∀ i m σ H, W i m σ H →
   ((EC lo n).stop i H ∧ Dd.nx σ H) ∨ ((EC lo n).go i H ∧ ∃ N : L2.St → Hp → Prop, (∀ σ' H', N σ' H' → ∃ m', m' < m ∧ W (i + 1) m' σ' H') ∧ ∀ x H', (EC lo n).xK i H x H' → x8 X.K X.mg g x σ H' fun σ2 H2 => lC X.K X.mg EE body { Dd with nx := N, ct := N, bk := Dd.nx } σ2 H2) :=
 nW (J := EC lo n) _ (fun i H ρ hi f => by simpa [EC] using hi) (fun i H ρ hi f => by simpa [EC] using hi) (fun i d H ρ x H' hd f y => by
  obtain ⟨rfl, rfl⟩ := y
  rw [List.getElem?_map] at hd
  cases q : (List.range n)[i]? with
  | none => rw [q] at hd; cases hd
  | some k =>
   rw [q] at hd
   obtain ⟨hk, e⟩ := List.getElem?_eq_some_iff.mp q
   rw [List.getElem_range] at e
   subst e
   cases hd
   exact ⟨rfl, by unfold Rep; rfl⟩) ab ok
theorem C3 {g : pF} {m : DS → M (List D)} {body : List Stmt} {p pc : Pos} (hp : PassesOwn (model X.prog X.w) X.A X.env X.xe) (hc : X.calm = true) (hm : X.mg "range" = none) (ha : QA X EE [a] m) (hg : QG X tg g) (hb : zI X EE body ms)
  (Gb : Gl X "range" := by rfl) (hst : starEach [a] X.env = [(false, eval a X.env)] := by rfl) (hs : ∀ x, foldedSetIterable (.Call (.Name "range" p) [a] [] pc) X.env x = pure x := by intro _; rfl) :
  QS X EE (.For tg (.Call (.Name "range" p) [a] [] pc) body [] pos) (gH qZ g m ms) := PS.mono (zw hp hc (Bo Gb hm ha hst) hg hb hs) fun Dd σ H h => by
 obtain ⟨τ, ρ, G, ab, ok⟩ := C2 (k := fun τ ds G => match qZ ds with | some xs => cN g ms xs τ G | none => .stuck) h
 refine ⟨τ, ρ, G, ab, ?_⟩
 cases e : m τ G with
 | stuck => rw [e] at ok; exact ok
 | dG c G' => rw [e] at ok; exact ok
 | ok ds G' =>
  rw [e] at ok
  intro vs H1 ρ1 f1 wJ r1
  obtain ⟨τ2, ρ2, G2, d2, ef, r2, aU⟩ := ok vs H1 ρ1 f1 wJ r1
  cases q : qZ d2 with
  | none => rw [q] at aU; exact aU.elim
  | some xs =>
   rw [q] at aU
   unfold qZ at q
   split at q
   ·rename_i j
    split at q
    ·rename_i hj
     cases q
     unfold aE at r2
     obtain ⟨v, r, rfl, h1, h2⟩ := r2
     unfold aE at h2; subst h2
     unfold Rep at h1; subst h1
     exact ⟨j, rfl, hj.1, hj.2, BF 0 j.toNat ef aU⟩
    ·cases q
   ·cases q
end
end L3
end
section
set_option Elab.async false
set_option linter.all false
set_option maxRecDepth 100000
namespace L3
open PySem PySem.Spec L2
noncomputable def Qv (K : PySem.W.Frag) (mg : Str → Option Value) (H : Hp) (ρ : List Addr) : Out D → VK → XK → Prop
 | .stuck, _, _ => False
 | .ok d G', Q, _ => ∀ v H' ρ', d9 K H H' ρ ρ' → kc K mg H' ρ' G' → Rep K mg ρ' H' d v → Q v H'
 | .dG c G', _, E => ∀ cls pl H' ρ', vH mg H' c cls pl → d9 K H H' ρ ρ' → kc K mg H' ρ' G' → E cls pl H'
noncomputable def dP (K : PySem.W.Frag) (mg : Str → Option Value) (n : Nat) (m : List D → M D) : Sp := fun vs H Q E => ∃ ds ρ G, ds.length = n ∧ kc K mg H ρ G ∧ aE K mg ρ H ds vs ∧ Qv K mg H ρ (m ds G) Q E
theorem dP.len {K : PySem.W.Frag} {mg : Str → Option Value} {n : Nat} {m : List D → M D} {vs : List V} {H : Hp} {Q : VK} {E : XK} (h : dP K mg n m vs H Q E) : vs.length = n := by
 obtain ⟨ds, ρ, G, e, _, r, _⟩ := h
 rw [← r.length, e]
noncomputable def M0 (mg : Str → Option Value) (EE : eU) (σ : L2.St) : XK := fun cls pl H' => ∃ c, vH mg H' c cls pl ∧ EE c σ H'
noncomputable def LS (CX : zB) (X : Cx) (EE : eU) : Prop := ∀ (pins : List (Addr × Obj)) (σ : L2.St) (H : Hp) (s : Shared) (e : Value) (s' : Shared), Inv X pins σ H s → CX X.stack H s (M0 X.mg EE σ) e s' → X.xe e s'
section
variable {X : Cx} {CX : zB} {EE : eU} {k n : Nat} {f : Addr} {fd : FuncData} {ps : List Str} {mf : List D → M D} {x : Str} {p pos : Pos} {e : Expr} {es : List Expr} {m : DS → M (List D)}
theorem kc.ab {K : PySem.W.Frag} {mg : Str → Option Value} {σ : L2.St} {H H' : Hp} {τ : DS} {ρ ρ' : List Addr} {G G' : DH} (ab : Ab K mg σ H τ ρ G) (f : d9 K H H' ρ ρ') (h : kc K mg H' ρ' G') : Ab K mg σ H' τ ρ' G' := ⟨ab.st.mono f, h⟩
theorem E7 {pins : List (Addr × Obj)} {σ : L2.St} {H : Hp} {s : Shared} {Q : VK} {us : List Value} {vs : List V} {τ : DS} {ρ : List Addr} {G : DH} {ds : List D} (F : cV X.prog X.w X.K X.mg X.base CX k f fd ps (dP X.K X.mg n mf)) (hr : iA k X.A) (hb : Binds X.K fd ps [])
  (hx : LS CX X EE) (I : Inv X pins σ H s) (r : Vals vs us) (ab : Ab X.K X.mg σ H τ ρ G) (rs : aE X.K X.mg ρ H ds vs) (hn : ds.length = n) (ok : nQ X.K X.mg EE H σ τ ρ (mf ds G) Q) : wpAny (model X.prog X.w) X.A (call (.ref f) us) (EP X pins σ Q) X.xe s := by
 have h : dP X.K X.mg n mf vs H Q (M0 X.mg EE σ) := by
  refine ⟨ds, ρ, G, hn, ab.hp, rs, ?_⟩
  cases q : mf ds G with
  | stuck => rw [q] at ok; exact ok
  | ok d G' => rw [q] at ok; exact fun v H' ρ' f hp r => ok v H' ρ' f (kc.ab ab f hp) r
  | dG c G' => rw [q] at ok; exact fun cls pl H' ρ' hc f hp => ⟨c, hc, ok H' ρ' f (kc.ab ab f hp)⟩
 have hl : (us ++ []).length = ps.length := by rw [List.append_nil, ← r.length]; exact F.len _ _ _ _ h
 have LP := hb s us I.zm hl
 rw [List.append_nil] at LP
 refine wpAny_call (codeAny_mono (F.run X.A X.stack s H ⟨us, []⟩ us vs Q (M0 X.mg EE σ) hr I.i0 LP r h) fun r s' hq => ?_)
 cases r with
 | error e => exact hx pins σ H s e s' I hq
 | ok fl =>
  cases fl with
  | ret u => exact I.after hq
  | next => exact False.elim hq
  | brk => exact False.elim hq
  | cont => exact False.elim hq
noncomputable def e9 (n : Nat) (mf : List D → M D) (m : DS → M (List D)) : DS → M D := aG (fun ds => if ds.length = n then mf ds else M.stop) m
theorem E8 (F : cV X.prog X.w X.K X.mg X.base CX k f fd ps (dP X.K X.mg n mf)) (hr : iA k X.A) (hm : X.mg x = some (.ref f)) (hk : PySem.W.keepIn X.K (.ref f) = true) (hb : Binds X.K fd ps []) (hx : LS CX X EE)
  (ha : QA X EE (e :: es) m) (hg : Gl X x := by rfl) (hdb : (x == ("__debug__" : Str)) = false := by decide) (he : starEach (e :: es) X.env = (false, eval e X.env) :: starEach es X.env := by rfl) (hpl : (backTo pos (starEach es X.env)).any (·.1) = false := by rfl) :
  QE X EE (.Call (.Name x p) (e :: es) [] pos) (e9 n mf m) := by
 intro pins s σ H Q I h
 obtain ⟨τ, ρ, G, ab, ok⟩ := CK (k := fun _ ds => if ds.length = n then mf ds else M.stop) h
 refine wpAny_Call_Name_kw (sI I hg hm ?_ hdb)
 refine PySem.W.callWith_K (h₀ := X.base) I.ok.mod.Mm hk (gm (ha pos pins s σ H _ I ⟨τ, ρ, G, ab, ok⟩) fun us s1 ⟨vs, H1, I1, r, q⟩ => ⟨I1.zm, ?_⟩) he hpl
 obtain ⟨τ1, ρ1, G1, ds, wJ, rs, LU⟩ := q
 by_cases hn : ds.length = n
 ·rw [if_pos hn] at LU
  exact E7 F hr hb hx I1 r wJ rs hn LU
 ·rw [if_neg hn] at LU
  exact LU.elim
end
noncomputable def iB (N : Nat) (ms : MS) (ds : List D) : M D := fun G => match ms (ds.map some ++ List.replicate (N - ds.length) none) G with
 | .stuck => .stuck
 | .nx _ G' => .ok .gk G'
 | .rt d G' => .ok d G'
 | .bk _ _ => .stuck
 | .ct _ _ => .stuck
 | .xn c _ G' => .dG c G'
theorem zM {K : PySem.W.Frag} {mg : Str → Option Value} {H : Hp} {ρ : List Addr} {ds : List D} {vs : List V} {N : List Str} (r : aE K mg ρ H ds vs) : se K mg H ρ (L2.start N vs) (ds.map some ++ List.replicate (N.length - ds.length) none) := by
 have hl := r.length
 refine ⟨by unfold L2.start; simp [hl], fun i d e => ?_⟩
 have hi : i < ds.length := by
  by_cases hi : i < ds.length
  ·exact hi
  ·rw [List.getElem?_append_right (by simpa using hi), List.getElem?_replicate] at e
   split at e <;> cases e
 rw [List.getElem?_append_left (by simpa using hi), List.getElem?_map] at e
 cases q : ds[i]? with
 | none => rw [q] at e; cases e
 | some d' =>
  rw [q] at e; cases e
  obtain ⟨v, e1, r1⟩ := r.get q
  refine ⟨v, ?_, r1⟩
  unfold L2.start
  rw [List.getElem?_append_left (by simp; omega), List.getElem?_map, e1]
  rfl
noncomputable abbrev Qw : eU := fun _ _ _ => False
section
variable {P : Program} {w : World} {K : PySem.W.Frag} {mg : Str → Option Value} {base : Heap} {f : Addr} {fd : FuncData}
end
end L3
end
section
set_option Elab.async false
set_option linter.all false
set_option maxRecDepth 100000
namespace L3
open PySem PySem.Spec L2
section
variable {X : Cx} {EE : eU} {a b c : Expr} {ma mb mc : DS → M D} {pos : Pos}
noncomputable def Ib (X : Cx) (EE : eU) (f : List D → M D) : List V → Hp → VK → Prop := fun xs H Q => ∃ σ τ ρ G ds, Ab X.K X.mg σ H τ ρ G ∧ aE X.K X.mg ρ H ds xs ∧ nQ X.K X.mg EE H σ τ ρ (f ds G) Q
theorem tP {f : List D → M D} : CallD X EE (Ib X EE f) f := fun σ H τ ρ G xs ds Q ab r ok => ⟨σ, τ, ρ, G, ds, ab, r, ok⟩
theorem rN {K : PySem.W.Frag} {mg : Str → Option Value} {ρ : List Addr} {H : Hp} {d : D} {xs : List V} (r : aE K mg ρ H [d] xs) : ∃ x, xs = [x] ∧ Rep K mg ρ H d x := by
 unfold aE at r
 obtain ⟨v, r', rfl, h1, h2⟩ := r
 unfold aE at h2; subst h2
 exact ⟨v, rfl, h1⟩
theorem C4 {K : PySem.W.Frag} {mg : Str → Option Value} {ρ : List Addr} {H : Hp} {d e : D} {xs : List V} (r : aE K mg ρ H [d, e] xs) : ∃ x y, xs = [x, y] ∧ Rep K mg ρ H d x ∧ Rep K mg ρ H e y := by
 unfold aE at r
 obtain ⟨v, r', rfl, h1, h2⟩ := r
 obtain ⟨y, rfl, h3⟩ := rN h2
 exact ⟨v, y, rfl, h1, h3⟩
noncomputable def i7 : List D → M D
 | [d] => fun G => match bN G d with
  | some (.lst xs) => .ok (.int xs.length) G
  | some (.tup xs) => .ok (.int xs.length) G
  | some (.str z) => if z.length ≤ sizeLine then .ok (.int z.length) G else .stuck
  | none => .stuck
 | _ => M.stop
theorem BG : jT X (.builtin "len") (Ib X EE i7) := by
 intro pins s σ0 H xs us Q I r ⟨σ, τ, ρ, G, ds, ab, rs, ok⟩
 match ds, ok with
 | [], ok => exact ok.elim
 | _ :: _ :: _, ok => exact ok.elim
 | [d], ok =>
  obtain ⟨x, rfl, rx⟩ := rN rs
  dsimp only [i7] at ok
  cases q : bN G d with
  | none => rw [q] at ok; exact ok.elim
  | some sk =>
   rw [q] at ok
   cases sk with
   | lst zs =>
    obtain ⟨p, vs, rfl, sq, rv⟩ := eV (pins := pins) (σ0 := σ0) (s := s) ab.hp rx q
    exact pX pins s σ0 H _ us Q I r ⟨p, vs, rfl, .inl sq, ok _ H ρ .refl ab (by unfold Rep; rw [rv.length])⟩
   | tup zs =>
    obtain ⟨p, vs, rfl, sq, rv⟩ := iK rx q
    exact pX pins s σ0 H _ us Q I r ⟨p, vs, rfl, .inr sq, ok _ H ρ .refl ab (by unfold Rep; rw [rv.length])⟩
   | str z =>
    obtain ⟨rfl, rfl⟩ := lD rx q
    dsimp only at ok
    by_cases hz : z.length ≤ sizeLine
    ·rw [if_pos hz] at ok
     exact wH pins s σ0 H _ us Q I r ⟨z, rfl, hz, ok _ H ρ .refl ab (by unfold Rep; rfl)⟩
    ·rw [if_neg hz] at ok; exact ok.elim
inductive Ty where
 | gk | bl | int | str | tup | lst | dct
 deriving DecidableEq
noncomputable def Ty.nm : Ty → String
 | .gk => "NoneType" | .bl => "bool" | .int => "int" | .str => "str" | .tup => "tuple" | .lst => "list" | .dct => "dict"
noncomputable def Ty.is (t c : Ty) : Bool := decide (t = c) || (decide (t = .bl) && decide (c = .int))
end
end L3
end
section
set_option Elab.async false
set_option linter.all false
set_option maxRecDepth 100000
namespace L3
open PySem PySem.Spec L2
section
variable {X : Cx} {EE : eU} {a b c : Expr} {ma mb mc : DS → M D} {pos : Pos}
noncomputable def nt (g : Int → Int → Int) : List D → M D
 | [.int i, .int j] => M.ret (.int (g i j))
 | _ => M.stop
theorem C5 {g : Int → Int → Int} {ds : List D} {G : DH} {σ : L2.St} {H : Hp} {τ : DS} {ρ : List Addr} {Q : VK} (ok : nQ X.K X.mg EE H σ τ ρ (nt g ds G) Q) : ∃ i j, ds = [.int i, .int j] ∧ nQ X.K X.mg EE H σ τ ρ (.ok (.int (g i j)) G) Q := by
 unfold nt at ok
 split at ok
 ·exact ⟨_, _, rfl, ok⟩
 ·exact ok.elim
theorem BH (hc : X.calm = true) : jT X (.builtin "max") (Ib X EE (nt fun i j => if j > i then j else i)) := by
 intro pins s σ0 H xs us Q I r ⟨σ, τ, ρ, G, ds, ab, rs, ok⟩
 obtain ⟨i, j, rfl, ok⟩ := C5 ok
 obtain ⟨x, y, rfl, r1, r2⟩ := C4 rs
 unfold Rep at r1 r2; subst r1 r2
 exact Br hc pins s σ0 H _ us Q I r ⟨i, j, rfl, ok _ H ρ .refl ab (by unfold Rep; rfl)⟩
noncomputable def Kf (X : Cx) (EE : eU) (f : D → List D → M D) : V → List V → Hp → VK → Prop := fun x xs H Q => ∃ σ τ ρ G d ds, Ab X.K X.mg σ H τ ρ G ∧ Rep X.K X.mg ρ H d x ∧ aE X.K X.mg ρ H ds xs ∧ nQ X.K X.mg EE H σ τ ρ (f d ds G) Q
noncomputable def kM (T : String) (G : DH) : D → Bool
 | .str _ => T == "str"
 | .int _ => T == "int"
 | .con _ => T == "list"
 | .obj n => match G[n]? with
  | some (.lst _) => T == "list"
  | _ => false
 | _ => false
theorem vJ {T : String} {σ : L2.St} {H : Hp} {τ : DS} {ρ : List Addr} {G : DH} {d : D} {x : V} (ab : Ab X.K X.mg σ H τ ρ G) (r : Rep X.K X.mg ρ H d x) (h : kM T G d = true) : LO X.K T x H := by
 cases d with
 | str z => unfold Rep at r; subst r; exact eq_of_beq h
 | int z => unfold Rep at r; subst r; exact eq_of_beq h
 | con zs =>
  unfold Rep at r
  obtain ⟨p, vs, rfl, sq, _⟩ := r
  exact .inl ⟨eq_of_beq h, vs, sq.seq⟩
 | obj n =>
  unfold Rep at r
  obtain ⟨p, rfl, e1⟩ := r
  dsimp only [kM] at h
  cases g : G[n]? with
  | none => rw [g] at h; cases h
  | some o =>
   cases o with
   | dead => first | (rw [q] at ok; exact ok.elim) | (rw [q] at aU; exact aU.elim) | (rw [q] at e; cases e; done) | (rw [g] at ok; exact ok.elim) | (rw [g] at q; cases q; done) | (rw [g] at h; cases h; done) | (rw [g2] at ok; exact ok.elim) | (rw [g1, g2] at ok; exact ok.elim) | (rw [q1] at ok; exact ok.elim) | exact ok.elim
   | dct kv => first | (rw [q] at ok; exact ok.elim) | (rw [q] at aU; exact aU.elim) | (rw [q] at e; cases e; done) | (rw [g] at ok; exact ok.elim) | (rw [g] at q; cases q; done) | (rw [g] at h; cases h; done) | (rw [g2] at ok; exact ok.elim) | (rw [g1, g2] at ok; exact ok.elim) | (rw [q1] at ok; exact ok.elim) | exact ok.elim
   | pB fz kv => first | (rw [q] at ok; exact ok.elim) | (rw [q] at aU; exact aU.elim) | (rw [q] at e; cases e; done) | (rw [g] at ok; exact ok.elim) | (rw [g] at q; cases q; done) | (rw [g] at h; cases h; done) | (rw [g2] at ok; exact ok.elim) | (rw [g1, g2] at ok; exact ok.elim) | (rw [q1] at ok; exact ok.elim) | exact ok.elim
   | lst ys =>
    rw [g] at h
    obtain ⟨p', vs, e2, hp, _⟩ := ab.hp.lst g
    rw [e1] at e2; cases e2
    exact .inl ⟨eq_of_beq h, vs, .of hp⟩
 | _ => cases h
noncomputable def fc (T : String) (f : D → List D → M D) (mo : DS → M D) (m : DS → M (List D)) : DS → M D := fun τ => (mo τ).bind fun d G => if kM T G d then (m τ).bind (fun ds => f d ds) G else .stuck
theorem Gd {o e : Expr} {es : List Expr} {name : Str} {apos cpos : Pos} {T id : String} {f : D → List D → M D} {mo : DS → M D} {m : DS → M (List D)} (pa : PlainAttrs T) (slot : Slot T name id) (hty : typeOf (.builtin id) = pure (.type "method_descriptor")) (hm : HA X id (Kf X EE f)) (ho : QE X EE o mo) (ha : QA X EE (e :: es) m)
  (hbase : attributeBase o name X.env (eval o X.env) = eval o X.env := by rfl)
  (hfew : ((backTo cpos (starEach (e :: es) X.env)).all (fun x => !x.1) && (backToKw cpos (keywordEach [] X.env)).all (fun x => x.1.isSome)
   && decide ((e :: es).length + ([] : List Keyword).length + (if ([] : List Keyword).isEmpty then 0 else 1) < 30)) = true := by rfl)
  (hline : (apos.endLine == cpos.line) = true := by rfl) (hs : starEach (e :: es) X.env = (false, eval e X.env) :: starEach es X.env := by rfl) (hplain : (backTo cpos (starEach es X.env)).any (·.1) = false := by rfl) :
  QE X EE (.Call (.Attribute o name apos) (e :: es) [] cpos) (fc T f mo m) := PE.mono (JZ pa slot hty hm ho ha hbase hfew hline hs hplain) fun σ H Q h => by
 obtain ⟨τ, ρ, G, ab, ok⟩ := nk (k := fun τ d G => if kM T G d then (m τ).bind (fun ds => f d ds) G else .stuck) h
 refine ⟨τ, ρ, G, ab, ?_⟩
 cases e : mo τ G with
 | stuck => rw [e] at ok; exact ok
 | dG c G' => rw [e] at ok; exact ok
 | ok d G' =>
  rw [e] at ok
  intro v H' ρ' f' cG r'
  obtain ⟨τ2, ρ2, G2, d2, ef, r2, aU⟩ := ok v H' ρ' f' cG r'
  by_cases hk : kM T G2 d2 = true
  ·rw [if_pos hk] at aU
   refine ⟨vJ ef r2 hk, τ2, ρ2, G2, ef, ?_⟩
   dsimp only [M.bind] at aU
   cases e2 : m τ2 G2 with
   | stuck => rw [e2] at aU; exact aU
   | dG c G' => rw [e2] at aU; exact aU
   | ok ds G3 =>
    rw [e2] at aU
    exact fun vs H3 ρ3 f3 xX r3 => ⟨σ, τ2, ρ3, G3, d2, ds, xX, r2.mono f3, r3, aU.fut f3⟩
  ·rw [if_neg hk] at aU; exact aU.elim
theorem Ic {o : Expr} {name : Str} {apos cpos : Pos} {T id : String} {f : D → List D → M D} {mo : DS → M D} (pa : PlainAttrs T) (slot : Slot T name id) (hty : typeOf (.builtin id) = pure (.type "method_descriptor")) (hm : HA X id (Kf X EE f)) (ho : QE X EE o mo)
  (hbase : attributeBase o name X.env (eval o X.env) = eval o X.env := by rfl) (hline : (apos.endLine == cpos.line) = true := by rfl) :
  QE X EE (.Call (.Attribute o name apos) [] [] cpos) (fc T f mo aL) := PE.mono (HF pa slot hty hm ho hbase hline) fun σ H Q h => by
 obtain ⟨τ, ρ, G, ab, ok⟩ := nk (k := fun τ d G => if kM T G d then (aL τ).bind (fun ds => f d ds) G else .stuck) h
 refine ⟨τ, ρ, G, ab, ?_⟩
 cases e : mo τ G with
 | stuck => rw [e] at ok; exact ok
 | dG c G' => rw [e] at ok; exact ok
 | ok d G' =>
  rw [e] at ok
  intro v H' ρ' f' cG r'
  obtain ⟨τ2, ρ2, G2, d2, ef, r2, aU⟩ := ok v H' ρ' f' cG r'
  by_cases hk : kM T G2 d2 = true
  ·rw [if_pos hk] at aU
   exact ⟨vJ ef r2 hk, σ, τ2, ρ2, G2, d2, [], ef, r2, .nil, aU⟩
  ·rw [if_neg hk] at aU; exact aU.elim
noncomputable def gJ : D → List D → M D
 | .obj n, [v] => fun G => match G[n]? with
  | some (.lst xs) => if xs.length < sizeLine then .ok .gk (G.set n (.lst (xs ++ [v]))) else .stuck
  | _ => .stuck
 | _, _ => M.stop
theorem zN {σ : L2.St} {H : Hp} {τ : DS} {ρ : List Addr} {G : DH} {n : Nat} {xs ys : List D} {d : D} {w : V} {p : Addr} {vs ws : List V} {Q : VK} (ab : Ab X.K X.mg σ H τ ρ G) (hn : ρ[n]? = some p) (hp : H p = some (.lst vs)) (r : aE X.K X.mg ρ H ys ws)
  (rd : ∀ H', d9 X.K H H' ρ ρ → Rep X.K X.mg ρ H' d w) (ok : nQ X.K X.mg EE H σ τ ρ (.ok d (G.set n (.lst ys))) Q) : Q w (upd H p (.lst ws)) := by
 have f : d9 X.K H (upd H p (.lst ws)) ρ ρ := sL hp ρ
 exact ok w _ ρ f (ab.fut f (ab.hp.put (ds := ys) hn hp r)) (rd _ f)
theorem zO : HA X "list.append" (Kf X EE gJ) := by
 intro pins s σ0 H x xs v us Q I rx Kg ⟨σ, τ, ρ, G, d, ds, ab, rd, BI, ok⟩
 cases d <;> try exact ok.elim
 rename_i n
 match ds, ok with
 | [], ok => exact ok.elim
 | _ :: _ :: _, ok => exact ok.elim
 | [y], ok =>
  obtain ⟨yv, rfl, ry⟩ := rN BI
  unfold Rep at rd
  obtain ⟨p, rfl, e1⟩ := rd
  dsimp only [gJ] at ok
  cases g : G[n]? with
  | none => rw [g] at ok; exact ok.elim
  | some o =>
   cases o with
   | dead => first | (rw [q] at ok; exact ok.elim) | (rw [q] at aU; exact aU.elim) | (rw [q] at e; cases e; done) | (rw [g] at ok; exact ok.elim) | (rw [g] at q; cases q; done) | (rw [g] at h; cases h; done) | (rw [g2] at ok; exact ok.elim) | (rw [g1, g2] at ok; exact ok.elim) | (rw [q1] at ok; exact ok.elim) | exact ok.elim
   | dct kv => first | (rw [q] at ok; exact ok.elim) | (rw [q] at aU; exact aU.elim) | (rw [q] at e; cases e; done) | (rw [g] at ok; exact ok.elim) | (rw [g] at q; cases q; done) | (rw [g] at h; cases h; done) | (rw [g2] at ok; exact ok.elim) | (rw [g1, g2] at ok; exact ok.elim) | (rw [q1] at ok; exact ok.elim) | exact ok.elim
   | pB fz kv => first | (rw [q] at ok; exact ok.elim) | (rw [q] at aU; exact aU.elim) | (rw [q] at e; cases e; done) | (rw [g] at ok; exact ok.elim) | (rw [g] at q; cases q; done) | (rw [g] at h; cases h; done) | (rw [g2] at ok; exact ok.elim) | (rw [g1, g2] at ok; exact ok.elim) | (rw [q1] at ok; exact ok.elim) | exact ok.elim
   | lst zs =>
    rw [g] at ok
    dsimp only at ok
    obtain ⟨p', vs, e2, hp, rs⟩ := ab.hp.lst g
    rw [e1] at e2; cases e2
    by_cases hz : zs.length < sizeLine
    ·rw [if_pos hz] at ok
     exact vF pins s σ0 H _ _ v us Q I rx Kg ⟨p, vs, yv, rfl, rfl, hp, by rw [← rs.length]; exact hz, zN (xs := zs) ab e1 hp (rs.append (.cons ry .nil)) (fun _ _ => by unfold Rep; rfl) ok⟩
    ·rw [if_neg hz] at ok; exact ok.elim
theorem BJ {o e : Expr} {apos cpos : Pos} {mo : DS → M D} {m : DS → M (List D)} (ho : QE X EE o mo) (ha : QA X EE [e] m)
  (hbase : attributeBase o "append" X.env (eval o X.env) = eval o X.env := by rfl)
  (hfew : ((backTo cpos (starEach [e] X.env)).all (fun x => !x.1) && (backToKw cpos (keywordEach [] X.env)).all (fun x => x.1.isSome)
   && decide ([e].length + ([] : List Keyword).length + (if ([] : List Keyword).isEmpty then 0 else 1) < 30)) = true := by rfl)
  (hline : (apos.endLine == cpos.line) = true := by rfl) (hs : starEach [e] X.env = (false, eval e X.env) :: starEach [] X.env := by rfl) (hplain : (backTo cpos (starEach [] X.env)).any (·.1) = false := by rfl) :
  QE X EE (.Call (.Attribute o "append" apos) [e] [] cpos) (fc "list" gJ mo m) := Gd PySem.F.plainAttrs_list PySem.F.slot_list_append PySem.F.type_list_append zO ho ha hbase hfew hline hs hplain
noncomputable def x9 : D → List D → M D
 | .obj n, [] => fun G => match G[n]? with
  | some (.lst xs) => match xs[xs.length - 1]? with
   | some y => .ok y (G.set n (.lst xs.dropLast))
   | none => .stuck
  | _ => .stuck
 | _, _ => M.stop
theorem aE.dropLast {K : PySem.W.Frag} {mg : Str → Option Value} {ρ : List Addr} {H : Hp} {ds : List D} {vs : List V} (r : aE K mg ρ H ds vs) : aE K mg ρ H ds.dropLast vs.dropLast := by
 rw [List.dropLast_eq_take, List.dropLast_eq_take, ← r.length]
 exact r.take _
theorem E9 : HA X "list.pop" (Kf X EE x9) := by
 intro pins s σ0 H x xs v us Q I rx Kg ⟨σ, τ, ρ, G, d, ds, ab, rd, BI, ok⟩
 cases d <;> try exact ok.elim
 rename_i n
 match ds, ok with
 | _ :: _, ok => exact ok.elim
 | [], ok =>
  unfold aE at BI; subst BI
  unfold Rep at rd
  obtain ⟨p, rfl, e1⟩ := rd
  dsimp only [x9] at ok
  cases g : G[n]? with
  | none => rw [g] at ok; exact ok.elim
  | some o =>
   cases o with
   | dead => first | (rw [q] at ok; exact ok.elim) | (rw [q] at aU; exact aU.elim) | (rw [q] at e; cases e; done) | (rw [g] at ok; exact ok.elim) | (rw [g] at q; cases q; done) | (rw [g] at h; cases h; done) | (rw [g2] at ok; exact ok.elim) | (rw [g1, g2] at ok; exact ok.elim) | (rw [q1] at ok; exact ok.elim) | exact ok.elim
   | dct kv => first | (rw [q] at ok; exact ok.elim) | (rw [q] at aU; exact aU.elim) | (rw [q] at e; cases e; done) | (rw [g] at ok; exact ok.elim) | (rw [g] at q; cases q; done) | (rw [g] at h; cases h; done) | (rw [g2] at ok; exact ok.elim) | (rw [g1, g2] at ok; exact ok.elim) | (rw [q1] at ok; exact ok.elim) | exact ok.elim
   | pB fz kv => first | (rw [q] at ok; exact ok.elim) | (rw [q] at aU; exact aU.elim) | (rw [q] at e; cases e; done) | (rw [g] at ok; exact ok.elim) | (rw [g] at q; cases q; done) | (rw [g] at h; cases h; done) | (rw [g2] at ok; exact ok.elim) | (rw [g1, g2] at ok; exact ok.elim) | (rw [q1] at ok; exact ok.elim) | exact ok.elim
   | lst zs =>
    rw [g] at ok
    dsimp only at ok
    obtain ⟨p', vs, e2, hp, rs⟩ := ab.hp.lst g
    rw [e1] at e2; cases e2
    cases qz : zs[zs.length - 1]? with
    | none => rw [qz] at ok; exact ok.elim
    | some y =>
     rw [qz] at ok
     obtain ⟨yv, ey, ry⟩ := rs.get qz
     exact HJ pins s σ0 H _ _ v us Q I rx Kg ⟨p, vs, yv, rfl, rfl, hp, by rw [← rs.length]; exact ey, zN (xs := zs) ab e1 hp rs.dropLast (fun _ f => ry.mono f) ok⟩
theorem Ie {o : Expr} {apos cpos : Pos} {mo : DS → M D} (ho : QE X EE o mo) (hbase : attributeBase o "pop" X.env (eval o X.env) = eval o X.env := by rfl) (hline : (apos.endLine == cpos.line) = true := by rfl) :
  QE X EE (.Call (.Attribute o "pop" apos) [] [] cpos) (fc "list" x9 mo aL) := Ic PySem.F.plainAttrs_list PySem.F.slot_list_pop PySem.F.type_list_pop E9 ho hbase hline
noncomputable def nu (v o i : D) : M D := fun G => match o, i with
 | .obj n, .int k => match G[n]? with
  | some (.lst xs) => match Bu xs.length k with
   | some j => .ok .gk (G.set n (.lst (xs.set j v)))
   | none => .stuck
  | _ => .stuck
 | _, _ => .stuck
noncomputable def jk (mv mo mi : DS → M D) : MS := fun τ => cZ ((mv τ).bind fun v => (mo τ).bind fun o => (mi τ).bind fun i => nu v o i) (fun _ G => .nx τ G) fun c G => .xn c τ G
theorem C6 {o i : Expr} {mv mo mi : DS → M D} {tpos : Pos} (hv : QE X EE a mv) (ho : QE X EE o mo) (hi : QE X EE i mi)
  (hs : swapsWithSole [.Subscript o i tpos] a pos.line X.env = pure false := by rfl) (hw : swappedStores [.Subscript o i tpos] a X.env = pure none := by rfl) (h1 : (assignEach [.Subscript o i tpos] X.env).map (·.2) = [assign (.Subscript o i tpos) X.env] := by rfl)
  (Ig : ∀ v, assign (.Subscript o i tpos) X.env v = (do
   let ov ← holding [v] (eval o X.env)
   let iv ← holding [v, ov] (eval i X.env)
   standAt tpos
   holding [v, ov, iv] (setItem ov iv v)
   release [v, ov, iv] []) := by intro _; rfl) : QS X EE (.Assign [.Subscript o i tpos] a pos) (jk mv mo mi) :=
 PS.mono (Ct hv (G6 ho hi set_list Ig) hs hw h1) fun Dd σ H ⟨τ, ρ, G, ab, ok⟩ => by
  refine ⟨τ, ρ, G, ab, ?_⟩
  dsimp only [jk, cZ, M.bind] at ok
  cases e1 : mv τ G with
  | stuck => rw [e1] at ok; exact ok
  | dG c G' => rw [e1] at ok; exact fun H' ρ' f cG => ok σ H' ρ' f cG
  | ok v G1 =>
   rw [e1] at ok
   intro vv H1 ρ1 f1 wJ r1
   refine ⟨τ, ρ1, G1, wJ, ?_⟩
   dsimp only at ok
   cases e2 : mo τ G1 with
   | stuck => rw [e2] at ok; exact ok
   | dG c G' => rw [e2] at ok; exact fun H' ρ' f cG => ok σ H' ρ' (f1.trans f) cG
   | ok ov G2 =>
    rw [e2] at ok
    intro vo H2 ρ2 f2 ef r2
    refine ⟨τ, ρ2, G2, ef, ?_⟩
    dsimp only at ok
    cases e3 : mi τ G2 with
    | stuck => rw [e3] at ok; exact ok
    | dG c G' => rw [e3] at ok; exact fun H' ρ' f cG => ok σ H' ρ' ((f1.trans f2).trans f) cG
    | ok iv G3 =>
     rw [e3] at ok
     intro vi H3 ρ3 f3 xX r3
     dsimp only [nu] at ok
     cases ov <;> try exact ok.elim
     cases iv <;> try exact ok.elim
     rename_i n k
     have r2' := r2.mono f3
     unfold Rep at r2' r3
     obtain ⟨p, rfl, e4⟩ := r2'
     dsimp only at ok
     cases g : G3[n]? with
     | none => rw [g] at ok; exact ok.elim
     | some ob =>
      cases ob with
      | dead => first | (rw [q] at ok; exact ok.elim) | (rw [q] at aU; exact aU.elim) | (rw [q] at e; cases e; done) | (rw [g] at ok; exact ok.elim) | (rw [g] at q; cases q; done) | (rw [g] at h; cases h; done) | (rw [g2] at ok; exact ok.elim) | (rw [g1, g2] at ok; exact ok.elim) | (rw [q1] at ok; exact ok.elim) | exact ok.elim
      | dct kv => first | (rw [q] at ok; exact ok.elim) | (rw [q] at aU; exact aU.elim) | (rw [q] at e; cases e; done) | (rw [g] at ok; exact ok.elim) | (rw [g] at q; cases q; done) | (rw [g] at h; cases h; done) | (rw [g2] at ok; exact ok.elim) | (rw [g1, g2] at ok; exact ok.elim) | (rw [q1] at ok; exact ok.elim) | exact ok.elim
      | pB fz kv => first | (rw [q] at ok; exact ok.elim) | (rw [q] at aU; exact aU.elim) | (rw [q] at e; cases e; done) | (rw [g] at ok; exact ok.elim) | (rw [g] at q; cases q; done) | (rw [g] at h; cases h; done) | (rw [g2] at ok; exact ok.elim) | (rw [g1, g2] at ok; exact ok.elim) | (rw [q1] at ok; exact ok.elim) | exact ok.elim
      | lst zs =>
       rw [g] at ok
       dsimp only at ok
       obtain ⟨p', vs, e5, hp, rs⟩ := xX.hp.lst g
       rw [e4] at e5; cases e5
       cases qj : Bu zs.length k with
       | none => rw [qj] at ok; exact ok.elim
       | some j =>
        rw [qj] at ok
        have rr := rs.set (r1.mono (f2.trans f3)) j
        have f4 : d9 X.K H3 (upd H3 p (.lst (vs.set j vv))) ρ3 ρ3 := sL hp ρ3
        exact ⟨p, vs, k, j, rfl, r3, hp, by rw [← rs.length]; exact qj, ok σ _ ρ3 (((f1.trans f2).trans f3).trans f4) (xX.fut f4 (xX.hp.put (ds := zs) e4 hp rr))⟩
end
end L3
end
section
set_option Elab.async false
set_option linter.all false
set_option maxRecDepth 100000
namespace L3
open PySem PySem.Spec L2
noncomputable def jY (e : Addr) (pl : Option Addr) (h : Heap) : Prop := ∃ o, h.get? e = some o ∧ o.dict = pl
structure zP (B : Heap) (l : List Env) (e : Addr) (cls : Value) (pl : Option Addr) (h : Heap) : Prop where
 stay : B.StaysIn h
 new : B.get? e = none
 TQ : h.FunFrames B l
 tr : (∃ oe vs a0, h.get? e = some oe ∧ oe.cls = cls ∧ oe.data = .fields vs ∧ vs[0]? = some a0 ∧ vs[1]? = some .none) ∨ ∃ a0 fl, h.TracedAtW B e cls a0 fl
 dct : jY e pl h
section
variable {M : Model} {A : Around} {E : Value → Shared → Prop} {s : Shared} {B : Heap} {env : Env} {outer l : List Env} {L e : Addr} {cls : Value} {pl : Option Addr} {Q : Unit → Shared → Prop}
theorem zQ {env' : Env} (h : env'.frame = env.frame) (v : Value) : noteFrame v env' = noteFrame v env := by
 unfold noteFrame frameOf
 rw [h]
theorem C7 (f : Array Value → Array Value) (o : Obj) : (Obj.mapFields f o).dict = o.dict := by unfold Obj.mapFields; split <;> rfl
theorem ya {oe : Obj} {ws : Array Value} {head a0 : Value} {b : Bool} (hfr : A.frames = some (env :: outer)) (fr : s.heap.FunFrames B (env :: outer)) (hf : env.frame = some L) (he : s.heap.get? e = some oe) (st : B.StaysIn s.heap) (nw : B.get? e = none)
  (hd : oe.data = .fields ws) (sz : 1 < ws.size) (h0 : ws[0]? = some a0) (hQ : ∀ h', Heap.NotedW B (env :: outer) e oe.cls a0 (rawInt L) s.heap h' → jY e oe.dict h' → Q () { s with heap := h' }) :
  wpAny M A (do let a ← frameOf env; let z ← entryPlaceOf L b; let t ← EntryCells.newEntry head a .none (rawInt L) .none z; setField (.ref e) 1 t) Q E s := by
 have ne : e ∉ (env :: outer).filterMap (·.frame) := fun z => by
  obtain ⟨_, o, q, n⟩ := fr.mem z
  rw [he] at q; cases q
  exact n ws hd
 refine wpAny_bind (wpAny_frameOf_fun hfr fr hf fun k1 c1 => wpAny_bind (wpAny_entryPlaceOf fun z hz => ?_))
 have e1 : k1.get? e = some oe := (c1.2.1 e ne).trans he
 have st1 : B.StaysIn k1 := fun x o q => (c1.2.1 x fun m => by rw [(fr.mem m).1] at q; cases q).trans (st x o q)
 have neT : k1.objs.size ≠ e := Nat.ne_of_gt (Heap.lt_size e1)
 unfold EntryCells.newEntry newFields
 refine wpAny_bind (wpAny_newObj_type ?_ (hz.sizeOk5 _ _ _ _ _))
 generalize hT : ({ cls := .type "traceback", dict := none, data := .fields ([head, .ref L, .none, rawInt L, .none] ++ (if z.isEmpty then List.replicate 6 Value.none else z)).toArray } : Obj) = T
 have dT : T.data = .fields ([head, .ref L, .none, rawInt L, .none] ++ (if z.isEmpty then List.replicate 6 Value.none else z)).toArray := by rw [← hT]
 have e2 : (k1.push T).get? e = some oe := Heap.get?_push_of_some T e1
 refine wpAny_setField e2 hd sz ?_
 have d3 := Obj.data_mapFields hd (·.setIfInBounds 1 (Value.ref k1.objs.size))
 generalize hk2 : (k1.push T).update e (Obj.mapFields (·.setIfInBounds 1 (Value.ref k1.objs.size))) = k2
 have e3 : k2.get? e = some (Obj.mapFields (·.setIfInBounds 1 (Value.ref k1.objs.size)) oe) := by rw [← hk2]; exact Heap.get?_update_self _ e2 (Obj.isFreed_of_fields d3)
 have T3 : k2.get? k1.objs.size = some T := by rw [← hk2]; exact (Heap.get?_update_other _ _ (Ne.symm neT)).trans (Heap.get?_push_size k1 (Obj.isFreed_of_fields dT))
 have kp : ∀ x o, x ≠ e → k1.get? x = some o → k2.get? x = some o := fun x o n q => by rw [← hk2, Heap.get?_update_other _ _ (Ne.symm n)]; exact Heap.get?_push_of_some T q
 have nr : ∀ x o, s.heap.get? x = some o → (∀ vs, o.data ≠ .fields vs) → x ≠ e := fun x o q n m => by
  rw [m, he] at q; cases q; exact n ws hd
 have up : s.heap.UpToSlots k2 := fun x o q n => by
  obtain ⟨sl, y⟩ := c1.2.2 x o q
  exact ⟨sl, kp x _ (nr x o q n) y⟩
 refine hQ k2 ⟨fun x o q => kp x o (fun m => by rw [m, nw] at q; cases q) (st1 x o q), fr.of_keeps fun x o q n => ?_, ?_, up⟩ ⟨_, e3, C7 _ _⟩
 ·obtain ⟨sl, y⟩ := up x o q n
  exact ⟨_, y, rfl⟩
 ·refine ⟨_, _, k1.objs.size, T, _, e3, ⟨Obj.cls_mapFields _ _, by rw [Array.getElem?_setIfInBounds_ne (by decide)]; exact h0⟩, d3, by simp [sz], st1.fresh, neT, T3, dT, ?_⟩
  first | (simp; done) | (rcases hz with rfl | ⟨_, _, _, _, _, _, _, rfl⟩ <;> simp)
theorem wM (hfr : A.frames = some (env :: outer)) (hf : env.frame = some L) (f : zP B (env :: outer) e cls pl s.heap)
  (hQ : ∀ h' a0, Heap.HeldW B (env :: outer) e cls a0 L h' → s.heap.UpToSlots h' → jY e pl h' → Q () { s with heap := h' }) : wpAny M A (noteFrame (.ref e) env) Q E s := by
 obtain ⟨st, nw, fr, tr, od, hod, hpl⟩ := f
 rcases tr with ⟨oe, vs, a0, he, hc, hd, h0, h1⟩ | ⟨a0, fl, oe, vs, T, oT, ts, he, hcls, hd, h1, Kh, Ji, hT, yb, h3⟩
 ·subst hc
  unfold noteFrame
  simp only [hf]
  refine wpAny_bind (wpAny_field he hd h1 ?_)
  rw [if_neg (by decide)]
  refine ya hfr fr hf he st nw hd (Array.getElem?_eq_some_iff.mp h1).1 h0 fun h' hN hD => ?_
  exact hQ h' a0 ⟨hN.1, nw, hN.2.1, hN.2.2.1⟩ hN.2.2.2 (by rw [he] at hod; cases hod; rw [← hpl]; exact hD)
 ·by_cases hq : (fl == rawInt L) = true
  ·unfold noteFrame
   simp only [hf]
   refine wpAny_bind (wpAny_field he hd h1 ?_)
   rw [if_pos (show (Value.ref T != Value.none) = true by simp)]
   refine wpAny_bind (wpAny_field hT yb h3 ?_)
   rw [if_pos hq]
   refine wpAny_pure ?_
   have := hQ s.heap a0 ⟨st, nw, fr, oe, vs, T, oT, ts, he, hcls, hd, h1, Kh, Ji, hT, yb, by rw [h3, beq_iff_eq.mp hq]⟩ (.refl _) ⟨od, hod, hpl⟩
   exact this
  ·obtain ⟨rfl, h0⟩ := hcls
   unfold noteFrame
   simp only [hf]
   refine wpAny_bind (wpAny_field he hd h1 ?_)
   rw [if_pos (show (Value.ref T != Value.none) = true by simp)]
   refine wpAny_bind (wpAny_field hT yb h3 ?_)
   rw [if_neg hq]
   refine wpAny_bind (wpAny_setField hT yb (Array.getElem?_eq_some_iff.mp h3).1 ?_)
   have yc : ∀ b, b ≠ T → (s.heap.update T (Obj.mapFields (·.setIfInBounds 3 Value.none))).get? b = s.heap.get? b := fun b hb => Heap.get?_update_other _ _ (Ne.symm hb)
   have Kl : ∀ b o, s.heap.get? b = some o → (∀ vs, o.data ≠ .fields vs) → b ≠ T := fun b o hb hnf z => by
    rw [z, hT] at hb; cases hb; exact hnf ts yb
   refine ya hfr (fr.of_keeps fun b o hb hnf => ⟨o, (yc b (Kl b o hb hnf)).trans hb, rfl⟩) hf ((yc e (Ne.symm Ji)).trans he)
    (fun b o M3 => (yc b fun z => by rw [z, Kh] at M3; cases M3).trans (st b o M3)) nw hd (Array.getElem?_eq_some_iff.mp h1).1 h0 fun h' hN hD => ?_
   exact hQ h' a0 ⟨hN.1, nw, hN.2.1, hN.2.2.1⟩ (fun b o hb hnf => hN.2.2.2 b o ((yc b (Kl b o hb hnf)).trans hb) hnf) (by rw [he] at hod; cases hod; rw [← hpl]; exact hD)
theorem vK {a0 fl : Value} (st : B.StaysIn s.heap) (fr : s.heap.FunFrames B l) (t : s.heap.TracedAtW B e cls a0 fl) (hD : jY e pl s.heap)
  (hQ : ∀ h', B.StaysIn h' → h'.FunFrames B l → h'.TracedW B e cls a0 → (∀ b o, s.heap.get? b = some o → (∀ vs, o.data ≠ .fields vs) → h'.get? b = some o) → jY e pl h' → Q () { s with heap := h' }) : wpAny M A (setFlight (.ref e) none) Q E s := by
 obtain ⟨oe, vs, T, oT, ts, he, hc, hd, h1, nT, Te, hT, yb, h3⟩ := t
 obtain ⟨od, hod, hpl⟩ := hD
 have sz : 3 < ts.size := (Array.getElem?_eq_some_iff.mp h3).1
 generalize hk : s.heap.update T (Obj.mapFields (·.setIfInBounds 3 Value.none)) = k
 have ot : ∀ b, b ≠ T → k.get? b = s.heap.get? b := fun b n => by rw [← hk]; exact Heap.get?_update_other _ _ (Ne.symm n)
 have nr : ∀ b o, s.heap.get? b = some o → (∀ vs, o.data ≠ .fields vs) → b ≠ T := fun b o q n z => by
  rw [z, hT] at q; cases q; exact n ts yb
 have kT : k.get? T = some (Obj.mapFields (·.setIfInBounds 3 Value.none) oT) := by rw [← hk]; exact Heap.get?_update_self _ hT (Obj.isFreed_of_fields (Obj.data_mapFields yb _))
 unfold setFlight
 refine wpAny_bind (wpAny_field he hd h1 ?_)
 rw [if_pos (show (Value.ref T != Value.none) = true by simp)]
 refine wpAny_setField hT yb sz ?_
 show Q () { s with heap := s.heap.update T (Obj.mapFields (·.setIfInBounds 3 Value.none)) }
 rw [hk]
 exact hQ k (fun b o q => (ot b fun z => by rw [z, nT] at q; cases q).trans (st b o q)) (fr.of_keeps fun b o q n => ⟨o, (ot b (nr b o q n)).trans q, rfl⟩)
  ⟨oe, vs, T, _, _, (ot e (Ne.symm Te)).trans he, hc, hd, h1, nT, Te, kT, Obj.data_mapFields yb _, by simp [sz]⟩ (fun b o q n => (ot b (nr b o q n)).trans q) ⟨od, (ot e (Ne.symm Te)).trans hod, hpl⟩
theorem yd {a0 : Value} (hH : Heap.HeldW B l e cls a0 L s.heap) (hD : jY e pl s.heap)
  (hQ : ∀ h', Heap.FlyingW B l e cls a0 h' → s.heap.UpToSlots h' → jY e pl h' → Q () { s with heap := h' }) : wpAny M A (setFlight (.ref e) none) Q E s := by
 obtain ⟨f1, f2, f3, f4⟩ := hH
 exact vK f1 f3 f4 hD fun h' k1 k2 k3 k4 Ii => hQ h' ⟨k1, f2, k2, k3⟩ (fun b o hb hn => ⟨o.slots, k4 b o hb hn⟩) Ii
theorem C8 (hfr : A.frames = some (env :: outer)) (hf : env.frame = some L) (f : zP B (env :: outer) e cls pl s.heap)
  (hQ : ∀ h' a0, Heap.FlyingW B outer e cls a0 h' → s.heap.UpToSlots h' → jY e pl h' → Q () { s with heap := h' }) : wpAny M A (leaving env (.ref e)) Q E s := by
 unfold leaving
 refine wpAny_bind (wM hfr hf f fun h1 a0 hH u1 hD => ?_)
 refine yd hH hD fun h2 hF u2 Ii => ?_
 obtain ⟨k1, k2, ⟨_, _, k3⟩, k4⟩ := hF
 exact hQ h2 a0 ⟨k1, k2, k3, k4⟩ (u1.trans u2) Ii
theorem zP.BK {a0 : Value} {h : Heap} (f : Heap.FlyingW B l e cls a0 h) (d : jY e pl h) : zP B l e cls pl h := ⟨f.1, f.2.1, f.2.2.1, .inr ⟨a0, .none, f.2.2.2⟩, d⟩
end
structure LV (X : Cx) (B : Heap) : Prop where
 keep : ∀ b o, X.s₀.heap.get? b = some o → X.H₀ b = none → b ∉ frs X.stack → b ∉ X.ex → B.get? b = some o
 there : ∀ b o, X.s₀.heap.get? b = some o → b ∉ frs X.stack → b ∉ X.ex → ∃ o', B.get? b = some o'
 pins : ∀ p ∈ X.pn, B.get? p.1 = some p.2
noncomputable def Km (X : Cx) (H : Hp) (e : Addr) (cls : Value) (pl : Option Addr) (s : Shared) : Prop := ∃ B, zP B X.stack e cls pl s.heap ∧ m7 X.prog X.w H B ∧ LV X B
noncomputable def lW (X : Cx) (EE : eU) : Prop := ∀ (pins : List (Addr × Obj)) (σ : L2.St) (H : Hp) (s : Shared) (e : Addr) (cls : Value) (pl : Option Addr) (c : XD), Inv X pins σ H s → Km X H e cls pl s → vH X.mg H c cls pl → EE c σ H → X.xe (.ref e) s
section
variable {X : Cx} {pins : List (Addr × Obj)} {σ : L2.St} {H : Hp} {s : Shared} {h' : Heap}
theorem IsCell.slots {h h' : Heap} {c : Addr} {v : Option Value} (u : h.UpToSlots h') (hc : h.IsCell c v) : h'.IsCell c v := by
 obtain ⟨o, e, d⟩ := hc
 obtain ⟨sl, e'⟩ := u c o e fun vs q => by rw [d] at q; cases q
 exact ⟨_, e', d⟩
theorem Inv.C9 {B : Heap} {t : Nat} (I : Inv X pins σ H s) (C : LV X B) (hok : m7 X.prog X.w H B) (st : B.StaysIn h') (u : s.heap.UpToSlots h') : Inv X [] σ H { s with heap := h', toks := t } := by
 have zo : ∀ b o, X.s₀.heap.get? b = some o → b ≠ X.env.locals := fun b o e => Nat.ne_of_lt (Nat.lt_of_lt_of_le (Heap.lt_size e) I.ok.above)
 have Kn : ∀ b o, X.s₀.heap.get? b = some o → b ∉ X.fs → b ∉ frs X.stack := fun b o e hb z => by
  rcases List.mem_cons.mp (I.ng b z) with z | z
  ·exact zo b o e z
  ·exact hb z
 have slots : ∀ b o, X.s₀.heap.get? b = some o → X.H₀ b = none → b ∈ X.fs → b ∉ X.ex → ∃ sl, h'.get? b = some { o with slots := sl } := fun b o e n hb hx => by
  obtain ⟨sl, e1⟩ := I.base.slot b o e n hb hx
  obtain ⟨_, o', eo, hd⟩ := I.ok.nc.mem hb
  rw [e] at eo; cases eo
  obtain ⟨Jw, e2⟩ := u b _ e1 hd
  exact ⟨Jw, e2⟩
 refine ⟨I.ok, I.os, I.bare, ⟨fun b o e n hb hx => st _ _ (C.keep b o e n (Kn b o e hb) hx), slots, I.base.free, fun b o e hx => ?_, I.base.tups, I.base.mZ, I.base.m9⟩, ?_, fun x c e => ?_, I.free, I.gB, fun p hp => ?_, hok.kept st, I.len⟩
 ·by_cases hb : b ∈ X.fs
  ·obtain ⟨sl, e1⟩ := slots b o e (I.ok.Cg b hb) hb hx
   exact ⟨_, e1⟩
  ·obtain ⟨o', e1⟩ := C.there b o e (Kn b o e hb) hx
   exact ⟨o', st _ _ e1⟩
 ·obtain ⟨m, hn, hl⟩ := I.loc
  refine ⟨m, u.ns hn, fun i x v e1 e2 e3 => ?_⟩
  obtain ⟨w, r, l⟩ := hl i x v e1 e2 e3
  refine ⟨w, r, ?_⟩
  rcases l with l | ⟨k, c, e, z⟩
  ·exact .inl l
  ·exact .inr ⟨k, c, e, IsCell.slots u z⟩
 ·obtain ⟨v, z⟩ := I.cell x c e
  exact ⟨v, IsCell.slots u z⟩
 ·have Er : p ∈ X.pn := by simpa using hp
  obtain ⟨e, n, ne, nf, d⟩ := I.pin p (List.mem_append_left _ Er)
  exact ⟨st _ _ (C.pins p Er), n, ne, nf, d⟩
end
structure Ko (P : Program) (w : World) (outer : List Env) (H : Hp) (s : Shared) (H' : Hp) (B : Heap) (s' : Shared) : Prop where
 os : s'.os = s.os
 bare : PyProof.Rows.AllBare s'.gens
 keep : ∀ b o, s.heap.get? b = some o → H b = none → b ∉ frs outer → B.get? b = some o
 there : ∀ b o, s.heap.get? b = some o → b ∉ frs outer → ∃ o', B.get? b = some o'
 slot : ∀ b o, s.heap.get? b = some o → H b = none → b ∈ frs outer → ∃ sl, s'.heap.get? b = some { o with slots := sl }
 free : ∀ b o, s.heap.get? b = some o → H b = none → H' b = none
 tups : ∀ b xs, H b = some (.tup xs) → H' b = some (.tup xs)
 mZ : ∀ b o u, H b = some (.ly o u) → H' b = some (.ly o u)
 m9 : ∀ b ps, H b = some (.Ej ps) → ∃ more, H' b = some (.Ej (ps ++ more))
 hok : m7 P w H' B
noncomputable def iL (P : Program) (w : World) : zB := fun outer H s E ev s' => ∃ e cls pl a0 B H', ev = .ref e ∧ Heap.FlyingW B outer e cls a0 s'.heap ∧ jY e pl s'.heap ∧ Ko P w outer H s H' B s' ∧ E cls pl H'
theorem pG {X : Cx} {EE : eU} (h : lW X EE) : LS (iL X.prog X.w) X EE := by
 intro pins σ H s ev s' I hq
 obtain ⟨e, cls, pl, a0, B, H', rfl, fl, dc, F, c, hc, ee⟩ := hq
 have un : Un (frs X.stack) [] H H' s.heap s'.heap := ⟨fun b o e n hb _ => fl.1 _ _ (F.keep b o e n hb), fun b o e n hb _ => F.slot b o e n hb, fun b o e n _ => F.free b o e n, fun b o e _ => by
  by_cases hb : b ∈ frs X.stack
  ·obtain ⟨sl, q⟩ := F.slot b o e (I.pT b hb) hb
   exact ⟨_, q⟩
  ·obtain ⟨o', q⟩ := F.there b o e hb
   exact ⟨o', fl.1 _ _ q⟩, F.tups, F.mZ, F.m9⟩
 have I' : Inv X pins σ H' s' := I.Am F.os un (F.hok.kept fl.1) F.bare fun b z => absurd z (by simp)
 refine h pins σ H' s' e cls pl c I' ⟨B, .BK fl dc, F.hok, fun b o eb n hb hx => ?_, fun b o eb hb hx => ?_, fun p hp => ?_⟩ hc ee
 ·have Kp : b ∉ X.fs := fun z => hb (by
   rcases I.ok.stk with q | ⟨q, _⟩
   ·rw [q]; exact z
   ·rw [q]; unfold frs; rw [List.filterMap_cons]; split
    ·exact z
    ·exact List.mem_cons_of_mem _ z)
  exact F.keep b o (I.base.keep b o eb n Kp hx) (I.base.free b o eb n hx) hb
 ·obtain ⟨o', q⟩ := I.base.there b o eb hx
  exact F.there b o' q hb
 ·obtain ⟨q, n, ne, nf, d⟩ := I.pin p (List.mem_append_left _ hp)
  exact F.keep p.1 p.2 q n fun z => by
   rcases List.mem_cons.mp (I.ng _ z) with z | z
   ·exact ne z
   ·exact nf z
end L3
end
section
set_option Elab.async false
set_option linter.all false
set_option maxRecDepth 100000
namespace L3
open PySem PySem.Spec L2
section
variable {P : Program} {w : World} {K : PySem.W.Frag} {mg : Str → Option Value} {base : Heap} {f : Addr} {fd : FuncData}
theorem Cm {x qual : Str} {st : Stmt} {N ps : List Str} {k n nn : Nat} {ms : MS} {m : List D → M D} (F : uN K x qual st f fd) (S : dh N ps (aa st)) (hps : ps.length = n) (hN : N.length = nn) (hm : ∀ ds, m ds = iB nn ms ds)
  (hbody : ∀ (X : Cx) (EE : eU) (cdv : Value) (A : Around) (outer : List Env) (s : Shared) (H : Hp) (E : XK), X = lT (iL P w) P w K mg base N qual (aa st) f cdv A outer s H E → iA k (A.deeper (PyProof.Rows.envOfC qual (aa st) s.heap.objs.size f cdv)) →
   lW X EE → PassesOwn (model P w) X.A X.env X.xe → zI X EE (aT st) ms) :
  cV P w K mg base (iL P w) (k + 1) f fd ps (dP K mg n m) := by
 subst hps hN
 have e : m = fun ds => iB N.length ms ds := funext hm
 subst e
 obtain ⟨oc, od, kV, doc, pm, an, cdv, ct, osl, rfl, lk, hcd⟩ := F.ex
 refine FY lk hcd S (fun vs H Q E h => h.len) fun A outer s H vs Q E hr h => ?_
 obtain ⟨ds, ρ, G, hn, hp, rs, ok⟩ := h
 refine ⟨_, hbody _ (fun c σ H' => ∀ cls pl, vH mg H' c cls pl → E cls pl H') cdv A outer s H E rfl hr ?_ PassesOwn.leaving, ds.map some ++ List.replicate (N.length - ds.length) none, ρ, G, ⟨zM rs, hp⟩, ?_⟩
 ·intro pins σ H' s' e cls pl c I fx hc ee
  obtain ⟨B, fb, hok, vL⟩ := fx
  refine C8 (L := s.heap.objs.size) I.ok.frames rfl fb fun h' a0 fl u hD => ?_
  have I' : Inv _ [] σ H' { s' with heap := h' } := Inv.C9 (t := s'.toks) I vL hok fl.1 u
  have zo : ∀ b o, s.heap.get? b = some o → b ∉ frs outer → b ∉ frs (PyProof.Rows.envOfC qual (aa st) s.heap.objs.size f cdv :: outer) := fun b o e hb z => by
   rcases List.mem_cons.mp (I.ng b z) with z | z
   ·exact absurd (Heap.lt_size e) (by rw [show b = s.heap.objs.size from z]; exact Nat.lt_irrefl _)
   ·exact hb z
  refine ⟨e, cls, pl, a0, B, H', rfl, fl, hD, ⟨I'.os, I'.bare, fun b o eb nb hb => vL.keep b o eb nb (zo b o eb hb) (by intro z; exact absurd (show b ∈ ([] : List Addr) from z) (by simp)), fun b o eb hb => vL.there b o eb (zo b o eb hb) (by intro z; exact absurd (show b ∈ ([] : List Addr) from z) (by simp)),
   fun b o eb nb hb => I'.base.slot b o eb nb hb (by intro z; exact absurd (show b ∈ ([] : List Addr) from z) (by simp)), fun b o eb nb => I'.base.free b o eb nb (by intro z; exact absurd (show b ∈ ([] : List Addr) from z) (by simp)), I'.base.tups, I'.base.mZ, I'.base.m9, hok⟩, ee cls pl hc⟩
 ·dsimp only [iB] at ok
  cases q : ms (ds.map some ++ List.replicate (N.length - ds.length) none) G with
  | stuck => rw [q] at ok; exact ok
  | nx τ G' => rw [q] at ok; exact fun σ' H' ρ' f ab => ok .gk H' ρ' f ab.hp (by unfold Rep; rfl)
  | rt d G' => rw [q] at ok; exact fun v H' ρ' f hp r => ok v H' ρ' f hp r
  | bk τ G' => rw [q] at ok; exact ok.elim
  | ct τ G' => rw [q] at ok; exact ok.elim
  | xn c τ G' => rw [q] at ok; exact fun σ' H' ρ' f ab cls pl hc => ok cls pl H' ρ' hc f ab.hp
end
theorem vM {h B base : Heap} : ∀ {l : List Env}, h.FunFrames base l → (∀ b ∈ frs l, B.get? b = none) → h.FunFrames B l
 | [], _, _ => trivial
 | env :: r, ⟨hk, ⟨L, o, hf, _, ho, hd⟩, hr⟩, hB => by
  have hm : ∀ b, b = L ∨ b ∈ frs r → b ∈ frs (env :: r) := fun b hb => by
   unfold frs; rw [List.filterMap_cons, hf]
   rcases hb with z | z
   ·rw [z]; exact List.mem_cons_self
   ·exact List.mem_cons_of_mem _ z
  exact ⟨hk, ⟨L, o, hf, hB L (hm L (.inl rfl)), ho, hd⟩, vM hr fun b hb => hB b (hm b (.inr hb))⟩
theorem ye {P : Program} {w : World} {H : Hp} {h B : Heap} (x : m7 P w H h) (k : ∀ b o, H b ≠ none → h.get? b = some o → B.get? b = some o) : m7 P w H B := fun a o e =>
 (x a o e).stay (fun b u hb q => k b u (by
  rcases hb with z | z
  ·rw [z, e]; simp
  ·rw [z]; simp) q) (fun _ q => q) fun _ _ q => q
section
variable {X : Cx} {EE : eU} {pins : List (Addr × Obj)} {σ : L2.St} {H : Hp} {s : Shared}
end
end L3
end
section
set_option Elab.async false
set_option linter.all false
set_option maxRecDepth 100000
namespace L3
open PySem PySem.Spec L2
noncomputable abbrev wN (C t : Addr) (d : Option Addr) : Obj := ⟨.ref C, d, .fields #[.ref t, .none, .none, .none, .bool false, .none], #[]⟩
noncomputable def wO (a : Addr) (o : Obj) : Heap → Prop := fun h => h.get? a = some o
theorem Dc {P : Program} {w : World} {H : Hp} {h : Heap} {a : Addr} {o : Obj} (e : h.get? a = some o) : fR P w H h a (.ext (wO a o)) := ⟨e, ⟨o, e⟩, fun _ _ p k => k _ p⟩
theorem Fb {P : Program} {w : World} {H : Hp} {h : Heap} {d : Addr} {x : Str} {t : Tok} (e : h.Ns1 d fun y => if y = "name" then some (.str x t) else none) : fR P w H h d (.ext (pC d x)) :=
 ⟨⟨t, e⟩, let ⟨o, _, _, q, _⟩ := e; ⟨o, q⟩, fun _ _ ⟨t', p⟩ k => ⟨t', p.at k⟩⟩
theorem yf {P : Program} {w : World} {H : Hp} {h : Heap} {d : Addr} {o : HO} (x : m7 P w H h) (hn : H d = none) (new : fR P w (upd H d o) h d o) : m7 P w (upd H d o) h := fun b u e => by
 by_cases hb : b = d
 ·subst hb; rw [bT] at e; cases e; exact new
 ·rw [aK hb] at e
  exact (x b u e).stay (fun _ _ _ q => q) (fun c q => by rw [aK (bI q hn)]; exact q) fun c xs q => by rw [aK (bI q hn)]; exact q
theorem Kq {fs : List Addr} {H : Hp} {h h' : Heap} {a d : Addr} {φ : Heap → Prop} {o1 o2 : HO} (ha : H a = some (.ext φ)) (hp : h.objs.size ≤ d) (hd : H d = none) (k : ∀ b u, b ≠ a → h.get? b = some u → h'.get? b = some u) (hao : ∃ u, h'.get? a = some u) : Un fs [] H (upd (upd H a o1) d o2) h h' := by
 have na : ∀ b, H b = none → b ≠ a := fun b n z => by rw [z, ha] at n; cases n
 have nd : ∀ b u, h.get? b = some u → b ≠ d := fun b u q => Nat.ne_of_lt (Nat.lt_of_lt_of_le (Heap.lt_size q) hp)
 have nx : ∀ b u, H b = some u → (∀ φ, u ≠ .ext φ) → upd (upd H a o1) d o2 b = H b := fun b u q n => by
  rw [aK (bI q hd), aK (fun z => by rw [z, ha] at q; cases q; exact n _ rfl)]
 exact ⟨fun b o q n _ _ => k b o (na b n) q, fun b o q n _ _ => ⟨o.slots, k b o (na b n) q⟩, fun b o q n _ => by rw [aK (nd b o q), aK (na b n)]; exact n,
  fun b o q _ => by
   by_cases hb : b = a
   ·subst hb; exact hao
   ·exact ⟨o, k b o hb q⟩, fun b xs q => by rw [nx b _ q (by intro _ z; cases z)]; exact q, fun b o u q => by rw [nx b _ q (by intro _ z; cases z)]; exact q, fun b ps q => ⟨#[], by rw [nx b _ q (by intro _ z; cases z), q]; simp⟩⟩
noncomputable def Ox (C : Addr) : TS := fun D σ H => ∃ a x t, σ[0]? = some (some (.ref a)) ∧ σ[1]? = some (some (.str x)) ∧ H a = some (.ext (wO a (jU C t))) ∧ ∀ d, H d = none → D.nx σ (upd (upd H a (.ext (wO a (wN C t (some d))))) d (.ext (pC d x)))
theorem Kr {X : Cx} {C P fI : Addr} {p1 p2 p3 pos : Pos} (F : lB X.K C P fI) (h0 : X.N[(0 : Nat)]? = some ("self" : Str)) (h1 : X.N[(1 : Nat)]? = some ("name" : Str)) (v0 : FU X.env.scope "self") (v1 : FU X.env.scope "name") : PS X (.Assign [.Attribute (.Name "self" p1) "name" p2] (.Name "name" p3) pos) (Ox C) := by
 intro pins s σ H D I h
 obtain ⟨a, x, t, e0, e1, ha, q⟩ := h
 have P1 : PE X (.Name "name" p3) (GP 1) := zp h1 v1
 have P0 : PE X (.Name "self" p1) (GP 0) := zp h0 v0
 refine plainObj_wpAny_Assign_Attribute (gm (P1 pins s σ H (fun v H1 => v = .str x ∧ H1 = H) I ⟨_, e1, rfl, rfl⟩) fun u s1 ⟨y, H1, I1, ry, z1, z2⟩ => gm (P0 pins s1 σ H1 (fun v H2 => v = .ref a ∧ H2 = H) I1 ⟨_, e0, rfl, z2⟩) fun ov s2 ⟨y2, H2, I2, rx, z3, z4⟩ => ?_) rfl
 subst z1 z3 z4
 obtain rfl : ov = Value.ref a := rx
 obtain ⟨t', rfl⟩ := ry
 obtain ⟨hx, _, _⟩ := I2.hok a _ ha
 refine CF F I2.zm (sl := #[]) hx fun h' tk g1 g2 g3 => ?_
 have hd := I2.hok.fresh (Nat.le_refl s2.heap.objs.size)
 have m : Js (H2 a) := by rw [ha]; trivial
 refine ⟨σ, _, I2.un (Kq ha (Nat.le_refl _) hd g3 ⟨_, g1⟩) ?_, q _ hd⟩
 have k1 : m7 X.prog X.w (upd H2 a (.ext (wO a (wN C t (some s2.heap.objs.size))))) h' := I2.hok.write m (.inl rfl) g3 ⟨_, g1⟩ (Dc g1)
 exact yf k1 (by rw [aK (fun z => by rw [z, ha] at hd; cases hd)]; exact hd) (Fb g2)
noncomputable def Ks (C : Addr) : Sp := fun vs H Q _ => ∃ a x t, vs = [.ref a, .str x] ∧ H a = some (.ext (wO a (jU C t))) ∧ ∀ d, H d = none → Q .gk (upd (upd H a (.ext (wO a (wN C t (some d))))) d (.ext (pC d x)))
theorem AE {P : Program} {w : World} {K : PySem.W.Frag} {mg : Str → Option Value} {base : Heap} {C Pa f : Addr} {fd : FuncData} {qual : Str} {st : Stmt} {k : Nat} {p1 p2 p3 pos : Pos} (Fn : uN K "__init__" qual st f fd) (S : dh ["self", "name"] ["self", "name"] (aa st)) (F : lB K C Pa f)
  (l0 : (aa st).names.lookup ("self" : Str) = some .local) (l1 : (aa st).names.lookup ("name" : Str) = some .local) (hb : aT st = [.Assign [.Attribute (.Name "self" p1) "name" p2] (.Name "name" p3) pos]) : cV P w K mg base HL (k + 1) f fd ["self", "name"] (Ks C) := by
 refine Fn.ok S (fun vs H Q E ⟨a, x, t, e, _⟩ => by rw [e]; rfl) fun cdv A outer s H vs Q E hr Em => ⟨Ox C, ?_, ?_⟩
 ·rw [hb]
  exact An (Kr (C := C) (P := Pa) (fI := f) F rfl rfl (.inl l0) (.inl l1))
 ·obtain ⟨a, x, t, rfl, ha, q⟩ := Em
  exact ⟨a, x, t, rfl, rfl, ha, q⟩
section
variable {X : Cx} {EE : eU} {pins : List (Addr × Obj)} {σ : L2.St} {H : Hp} {s : Shared}
noncomputable def Ku (x : Str) (τ : DS) (ds : List D) (G : DH) : Res := match ds with
 | [.str y] => .xn (.mk x [.jV "name" [.str y]]) τ G
 | _ => .stuck
noncomputable def nX (x : Str) (m : DS → M (List D)) : MS := fun τ => cZ (m τ) (fun ds G => Ku x τ ds G) fun c G => .xn c τ G
theorem BL {x : Str} {C P fI : Addr} {fd : FuncData} {k : Nat} {np cpos pos : Pos} {e : Expr} {es : List Expr} {m : DS → M (List D)} (hc : X.calm = true) (hx : lW X EE) (hm : X.mg x = some (.ref C)) (N : lB X.K C P fI) (Fn : cV X.prog X.w X.K X.mg X.base HL k fI fd ["self", "name"] (Ks C))
  (hb : Binds X.K fd ["self", "name"] []) (hr : iA (k + 1) X.A) (hg : Gl X x) (hd : (x == ("__debug__" : Str)) = false) (ha : QA X EE (e :: es) m) (he : starEach (e :: es) X.env = (false, eval e X.env) :: starEach es X.env) (hpl : (backTo cpos (starEach es X.env)).any (·.1) = false) :
  QS X EE (.Raise (some (.Call (.Name x np) (e :: es) [] cpos)) none pos) (nX x m) := by
 intro pins s σ H Dd I h
 obtain ⟨τ, ρ, G, ab, ok⟩ := C2 (k := fun τ ds G => Ku x τ ds G) h
 refine BA N (I.ok.hd hc) (by rw [he]; show (false || (backTo cpos (starEach es X.env)).any (·.1)) = false; rw [hpl]; rfl) (sI I hg hm ⟨rfl, ?_⟩ hd)
 have h1 := ha cpos pins s σ H _ I ⟨τ, ρ, G, ab, ok⟩
 rw [he] at h1 ⊢
 refine Calls.evalArgs_plain (wpAny_mono h1 (fun us s2 h2 => ?_) fun _ _ z => z)
 obtain ⟨vs, H2, I2, r2, τ2, ρ2, G2, ds, ef, rs, aU⟩ := h2
 unfold Ku at aU
 split at aU
 case h_2 => exact aU.elim
 rename_i y
 unfold aE at rs
 obtain ⟨v, r, rfl, rv, rr⟩ := rs
 unfold aE at rr
 subst rr
 unfold Rep at rv
 subst rv
 cases r2 with
 | cons r2 r3 =>
 cases r3
 obtain ⟨tk, rfl⟩ := r2
 refine ⟨rfl, I2.zm, CH N I2.zm (by show 1 ≤ sizeLine; decide) ?_⟩
 generalize hT : (s2.heap.push { cls := .type "tuple", data := .seq [Value.str y tk].toArray }) = hA
 have Oz : hA.objs.size = s2.heap.objs.size + 1 := by rw [← hT, Heap.size_push]
 have kA : ∀ b u, s2.heap.get? b = some u → hA.get? b = some u := fun b u q => by rw [← hT]; exact Heap.get?_push_of_some _ q
 have IA : Inv X pins σ H2 { s2 with heap := hA } := I2.kept (t' := s2.toks) kA
 have gE : (hA.push (jU C s2.heap.objs.size)).get? (s2.heap.objs.size + 1) = some (jU C s2.heap.objs.size) := by rw [← Oz]; exact Heap.get?_push_size _ rfl
 have kE : ∀ b u, hA.get? b = some u → (hA.push (jU C s2.heap.objs.size)).get? b = some u := fun b u q => Heap.get?_push_of_some _ q
 have I3 : Inv X pins σ (upd H2 (s2.heap.objs.size + 1) (.ext (wO (s2.heap.objs.size + 1) (jU C s2.heap.objs.size)))) { s2 with heap := hA.push (jU C s2.heap.objs.size) } :=
  Inv.laid (s := { s2 with heap := hA }) (t' := s2.toks) IA kE (Nat.le_of_eq Oz) (Dc gE)
 have M4 : ∀ b o, s2.heap.get? b = some o → b ≠ s2.heap.objs.size + 1 := fun b o q => Nat.ne_of_lt (Nat.lt_succ_of_lt (Heap.lt_size q))
 have OA : ∀ b o, X.s₀.heap.get? b = some o → b ≠ s2.heap.objs.size + 1 := fun b o q => Nat.ne_of_lt (Nat.lt_succ_of_lt (Nat.lt_of_lt_of_le (Heap.lt_size q) I2.sz))
 have hn2 : H2 (s2.heap.objs.size + 1) = none := I2.hok.fresh (Nat.le_succ _)
 generalize TR : s2.heap.objs.size + 1 = ea at *
 generalize TU : s2.heap.objs.size = ta at *
 have hB := hb { s2 with heap := hA.push (jU C ta) } [.ref ea, .str y tk] I3.zm rfl
 rw [List.append_nil] at hB
 have E0 := I3.i0
 refine wpAny_call (codeAny_mono (Fn.run _ X.stack { s2 with heap := hA.push (jU C ta) } _ ⟨[.ref ea, .str y tk], []⟩ [.ref ea, .str y tk] [.ref ea, .str y]
  (fun v H' => v = .gk ∧ ∃ d, upd H2 ea (.ext (wO ea (jU C ta))) d = none ∧ H' = upd (upd (upd H2 ea (.ext (wO ea (jU C ta)))) ea (.ext (wO ea (wN C ta (some d))))) d (.ext (pC d y))) (fun _ _ _ => False) (hr.make _ _ _)
  ⟨E0.frames, E0.mod, E0.bs, E0.Bl, E0.nc, E0.Cg, E0.hok, E0.bare⟩ hB (.cons rfl (.cons ⟨tk, rfl⟩ .nil)) ⟨ea, y, ta, rfl, bT, fun d q => ⟨rfl, d, q, rfl⟩⟩) fun r s' hq => ?_)
 cases r with
 | error ev => exact False.elim hq
 | ok fl =>
  cases fl with
  | next => exact False.elim hq
  | brk => exact False.elim hq
  | cont => exact False.elim hq
  | ret u =>
   obtain ⟨v, H', os, bare, un, hok, rv, rfl, d, hdn, rfl⟩ := hq
   obtain rfl : u = Value.none := rv
   have de : d ≠ ea := fun z => by rw [z, bT] at hdn; cases hdn
   have hd2 : H2 d = none := by rw [aK de] at hdn; exact hdn
   have gF : s'.heap.get? ea = some (wN C ta (some d)) := (show fR _ _ _ _ ea (.ext (wO ea (wN C ta (some d)))) from hok ea _ (by rw [aK (Ne.symm de), bT])).1
   have h4 : ∀ b, b ≠ ea → upd (upd (upd H2 ea (.ext (wO ea (jU C ta)))) ea (.ext (wO ea (wN C ta (some d))))) d (.ext (pC d y)) b = upd H2 d (.ext (pC d y)) b := fun b n => by
    by_cases z : b = d
    ·rw [z, bT, bT]
    ·rw [aK z, aK n, aK n, aK z]
   have n4 : upd H2 d (.ext (pC d y)) ea = none := by rw [aK (Ne.symm de)]; exact hn2
   have ne4 : ∀ b u, upd (upd (upd H2 ea (.ext (wO ea (jU C ta)))) ea (.ext (wO ea (wN C ta (some d))))) d (.ext (pC d y)) b = some u → (∀ φ, u ≠ .ext φ) → b ≠ ea := fun b u q n z => by
    rw [z, aK (Ne.symm de), bT] at q; cases q; exact n _ rfl
   have Kv : m7 X.prog X.w (upd H2 d (.ext (pC d y))) s'.heap := fun b u q => by
    have nb : b ≠ ea := fun z => by rw [z, n4] at q; cases q
    exact (hok b u (by rw [h4 b nb]; exact q)).stay (fun _ _ _ q => q) (fun c q => by rw [← h4 c (ne4 c _ q (by intro _ z; cases z))]; exact q) fun c xs q => by rw [← h4 c (ne4 c _ q (by intro _ z; cases z))]; exact q
   have Qx : Un (frs X.stack) [] H2 (upd H2 d (.ext (pC d y))) s2.heap s'.heap := by
    have u3 : ∀ b o, s2.heap.get? b = some o → (hA.push (jU C ta)).get? b = some o := fun b o q => kE b o (kA b o q)
    have n3 : ∀ b o, s2.heap.get? b = some o → H2 b = none → upd H2 ea (.ext (wO ea (jU C ta))) b = none := fun b o q n => by rw [aK (M4 b o q)]; exact n
    have s3 : ∀ b u, H2 b = some u → upd H2 ea (.ext (wO ea (jU C ta))) b = some u := fun b u q => by rw [aK (bI q hn2)]; exact q
    have back : ∀ b u, upd (upd (upd H2 ea (.ext (wO ea (jU C ta)))) ea (.ext (wO ea (wN C ta (some d))))) d (.ext (pC d y)) b = some u → (∀ φ, u ≠ .ext φ) → upd H2 d (.ext (pC d y)) b = some u := fun b u q n => by rw [← h4 b (ne4 b u q n)]; exact q
    exact ⟨fun b o q n hb hx => un.keep b o (u3 b o q) (n3 b o q n) hb hx, fun b o q n hb hx => un.slot b o (u3 b o q) (n3 b o q n) hb hx, fun b o q n hx => by rw [← h4 b (M4 b o q)]; exact un.free b o (u3 b o q) (n3 b o q n) hx,
     fun b o q hx => un.there b o (u3 b o q) hx, fun b xs q => back _ _ (un.tups b xs (s3 _ _ q)) (by intro _ z; cases z), fun b o u q => back _ _ (un.mZ b o u (s3 _ _ q)) (by intro _ z; cases z), fun b ps q => by
      obtain ⟨more, z⟩ := un.m9 b ps (s3 _ _ q)
      exact ⟨more, back _ _ z (by intro _ z; cases z)⟩⟩
   have I4 : Inv X pins σ (upd H2 d (.ext (pC d y))) s' := I2.Am os Qx Kv bare fun b z => absurd z (by simp)
   have f4 : d9 X.K H2 (upd H2 d (.ext (pC d y))) ρ2 ρ2 := gD hd2 ρ2
   refine ⟨rfl, ea, ta, some d, #[], rfl, I4.zm, gF, hx pins σ _ s' ea (.ref C) (some d) (.mk x [.jV "name" [.str y]]) I4 ?_ ⟨hm, d, rfl, bT⟩ (aU σ _ ρ2 f4 ⟨ef.st.mono f4, ef.hp.new hd2⟩)⟩
   have hgt : ∀ b o, s'.heap.get? b = some o → b ≠ ea → b ∉ frs X.stack → (PySem.W.hideAll s'.heap (ea :: frs X.stack)).get? b = some o := fun b o q n hb => PySem.W.hideAll_get _ q fun z => (List.mem_cons.mp z).elim n hb
   have Kp : ∀ b, b ∉ frs X.stack → b ∉ X.fs := fun b hb z => hb (by
    rcases I.ok.stk with q | ⟨q, _⟩
    ·rw [q]; exact z
    ·rw [q]; unfold frs; rw [List.filterMap_cons]; split
     ·exact z
     ·exact List.mem_cons_of_mem _ z)
   refine ⟨PySem.W.hideAll s'.heap (ea :: frs X.stack), ⟨fun b o q => PySem.W.of_hideAll _ q, PySem.W.hideAll_none _ (List.mem_cons_self), vM I4.stack fun b hb => PySem.W.hideAll_none _ (List.mem_cons_of_mem _ hb), .inl ⟨_, _, _, gF, rfl, rfl, rfl, rfl⟩, ⟨_, gF, rfl⟩⟩,
    ye Kv fun b o n q => hgt b o q (fun z => n (by rw [z]; exact n4)) fun z => n (I4.pT b z), ⟨fun b o q n hb hx => hgt b o (I4.base.keep b o q n (Kp b hb) hx) (OA b o q) hb, fun b o q hb hx => ?_, fun p hp => ?_⟩⟩
   ·obtain ⟨o', q'⟩ := I4.base.there b o q hx
    exact ⟨o', hgt b o' q' (OA b o q) hb⟩
   ·obtain ⟨q2, _⟩ := I2.pin p (List.mem_append_left _ hp)
    obtain ⟨q, n, ne, nf, _⟩ := I4.pin p (List.mem_append_left _ hp)
    exact hgt _ _ q (M4 _ _ q2) fun z => (List.mem_cons.mp (I4.ng _ z)).elim ne nf
end
end L3
end
section
set_option Elab.async false
set_option linter.all false
set_option maxRecDepth 100000
namespace L3
open PySem PySem.Spec L2
noncomputable abbrev Cx.to (X : Cx) (E : Value → Shared → Prop) (pn : List (Addr × Obj)) : Cx := { X with xe := E, pn := pn }
noncomputable abbrev Cx.hand (X : Cx) (e : Addr) : Cx := { X with A := X.A.mark (some (.ref e)), calm := false, xe := fun _ _ => False }
theorem Ge {X : Cx} (ok : X.Ok) (E : Value → Shared → Prop) (pn : List (Addr × Obj)) : (Cx.to X E pn).Ok := ⟨ok.mod, ok.kind, ok.glob, ok.blt, ok.above, ok.inj, ok.has, ok.FW, ok.hd, ok.frames, ok.stk, ok.Ju, ok.bs, ok.Bl, ok.xM, ok.xO, ok.nc, ok.Cg⟩
theorem Gf {X : Cx} {E : Value → Shared → Prop} {pn : List (Addr × Obj)} (ok : (Cx.to X E pn).Ok) : X.Ok := ⟨ok.mod, ok.kind, ok.glob, ok.blt, ok.above, ok.inj, ok.has, ok.FW, ok.hd, ok.frames, ok.stk, ok.Ju, ok.bs, ok.Bl, ok.xM, ok.xO, ok.nc, ok.Cg⟩
theorem Fc {X : Cx} (ok : X.Ok) (e : Addr) : (Cx.hand X e).Ok := ⟨ok.mod, ok.kind, ok.glob, ok.blt, ok.above, ok.inj, ok.has, ok.FW, fun z => absurd z Bool.false_ne_true, ok.frames, ok.stk, ok.Ju, ok.bs, ok.Bl, ok.xM, ok.xO, ok.nc, ok.Cg⟩
section
variable {X : Cx} {EE : eU} {pins : List (Addr × Obj)} {σ : L2.St} {H : Hp} {s : Shared} {E : Value → Shared → Prop}
theorem Ij (I : Inv X pins σ H s) (E : Value → Shared → Prop) : Inv (Cx.to X E (X.pn ++ pins)) [] σ H s := ⟨Ge I.ok _ _, I.os, I.bare, I.base, I.loc, I.cell, I.free, I.gB, fun p hp => I.pin p (by simpa using hp), I.hok, I.len⟩
theorem tQ {gC : List (Addr × Obj)} (I : Inv (Cx.to X E (X.pn ++ pins)) gC σ H s) : Inv X pins σ H s := ⟨Gf I.ok, I.os, I.bare, I.base, I.loc, I.cell, I.free, I.gB, fun p hp => I.pin p (List.mem_append_left _ hp), I.hok, I.len⟩
theorem yg (I : Inv X pins σ H s) (e : Addr) : Inv (Cx.hand X e) pins σ H s := ⟨Fc I.ok e, I.os, I.bare, I.base, I.loc, I.cell, I.free, I.gB, I.pin, I.hok, I.len⟩
theorem lX {e : Addr} (ok : X.Ok) (I : Inv (Cx.hand X e) pins σ H s) : Inv X pins σ H s := ⟨ok, I.os, I.bare, I.base, I.loc, I.cell, I.free, I.gB, I.pin, I.hok, I.len⟩
theorem BN {e : Addr} {Dd : Ends} {f : Flow} (ok : X.Ok) (h : SP (Cx.hand X e) pins Dd f s) : SP X pins Dd f s := by
 cases f with
 | next => obtain ⟨σ', H', I, q⟩ := h; exact ⟨σ', H', lX ok I, q⟩
 | brk => obtain ⟨σ', H', I, q⟩ := h; exact ⟨σ', H', lX ok I, q⟩
 | cont => obtain ⟨σ', H', I, q⟩ := h; exact ⟨σ', H', lX ok I, q⟩
 | ret u => obtain ⟨v, σ', H', I, r, q⟩ := h; exact ⟨v, σ', H', lX ok I, r, q⟩
theorem AF {gC : List (Addr × Obj)} {Dd : Ends} {f : Flow} (h : SP (Cx.to X E (X.pn ++ pins)) gC Dd f s) : SP X pins Dd f s := by
 cases f with
 | next => obtain ⟨σ', H', I, q⟩ := h; exact ⟨σ', H', tQ I, q⟩
 | brk => obtain ⟨σ', H', I, q⟩ := h; exact ⟨σ', H', tQ I, q⟩
 | cont => obtain ⟨σ', H', I, q⟩ := h; exact ⟨σ', H', tQ I, q⟩
 | ret u => obtain ⟨v, σ', H', I, r, q⟩ := h; exact ⟨v, σ', H', tQ I, r, q⟩
noncomputable def M5 (X : Cx) (H : Hp) (e : Addr) (cls : Value) (pl : Option Addr) (s : Shared) : Prop := ∃ B a0 fl, (B.StaysIn s.heap ∧ B.get? e = none ∧ s.heap.FunFrames B X.stack ∧ s.heap.TracedAtW B e cls a0 fl ∧ jY e pl s.heap) ∧ m7 X.prog X.w H B ∧ LV X B
noncomputable def QH (X : Cx) (EE : eU) (hs : List ExceptHandler) (mh : XD → MS) : Prop := ∀ (σ : L2.St) (H : Hp) (s : Shared) (Dd : Ends) (e : Addr) (cls : Value) (pl : Option Addr) (c : XD), Inv X [] σ H s → M5 X H e cls pl s → vH X.mg H c cls pl →
 (∃ τ ρ G, Ab X.K X.mg σ H τ ρ G ∧ uO X.K X.mg EE H ρ Dd (mh c τ G)) → wpAny (model X.prog X.w) X.A (handleBy (.ref e) X.env hs) (SP X [] Dd) X.xe s
noncomputable def Kw : XD → MS := fun _ _ _ => .stuck
theorem Ik : QH X EE [] Kw := fun _ _ _ _ _ _ _ _ _ _ _ ⟨_, _, _, _, ok⟩ => ok.elim
noncomputable def De (mb : MS) (mh : XD → MS) (me : MS) : MS := fun τ G => match mb τ G with
 | .nx τ' G' => me τ' G'
 | .xn c τ' G' => mh c τ' G'
 | r => r
theorem Il {body orelse : List Stmt} {h0 : ExceptHandler} {hs : List ExceptHandler} {pos : Pos} {mb me : MS} {mh : XD → MS} (hst : X.stack = X.env :: X.outer) (hfr : ∃ L, X.env.frame = some L)
  (hb : ∀ (E' : Value → Shared → Prop) (pn : List (Addr × Obj)) (OB : eU), lW (Cx.to X E' pn) OB → PassesOwn (model X.prog X.w) X.A X.env E' → zI (Cx.to X E' pn) OB body mb)
  (hh : ∀ (pn : List (Addr × Obj)), QH (Cx.to X X.xe pn) EE (h0 :: hs) mh) (he : zI X EE orelse me) : QS X EE (.Try body (h0 :: hs) orelse [] pos) (De mb mh me) := by
 intro pins s σ H Dd I h
 obtain ⟨τ, ρ, G, ab, ok⟩ := h
 refine wpAny_Try_except ?_
 obtain ⟨L, hL⟩ := hfr
 refine wpAny_mono (hb (fun e s₁ => wpAny (model X.prog X.w) X.A (noteFrame e X.env) (fun _ s₂ => wpAny (model X.prog X.w) X.A (setFlight e none) (fun _ s₃ => wpAny (model X.prog X.w) X.A (handleBy e X.env (h0 :: hs)) (SP X pins Dd) X.xe s₃) X.xe s₂) X.xe s₁) (X.pn ++ pins)
  (fun c σ' H' => ∃ τ' ρ' G', d9 X.K H H' ρ ρ' ∧ Ab X.K X.mg σ' H' τ' ρ' G' ∧ uO X.K X.mg EE H' ρ' Dd (mh c τ' G')) ?_ PassesOwn.looking [] s σ H { Dd with nx := lC X.K X.mg EE me Dd } (Ij I _) ?_) (fun f s1 h1 => ?_) fun _ _ z => z
 ·intro gC σ' H' s' e cls pl c I' fx hc ee
  obtain ⟨B, fb, hok, vL⟩ := fx
  have M6 : X.A.frames = some (X.env :: X.outer) := by rw [← hst]; exact I.ok.frames
  have M7 : zP B (X.env :: X.outer) e cls pl s'.heap := by rw [← hst]; exact fb
  refine wM M6 hL M7 fun h1 a0 hH u1 hD => ?_
  refine yd hH hD fun h2 hF u2 Ii => ?_
  obtain ⟨τ', ρ', G', _, cG, ok'⟩ := ee
  have I2 : Inv (Cx.to X X.xe (X.pn ++ pins)) [] σ' H' { s' with heap := h2 } := by
   have z := Inv.C9 (t := s'.toks) I' vL hok hF.1 (u1.trans u2)
   exact ⟨Ge (Gf z.ok) _ _, z.os, z.bare, z.base, z.loc, z.cell, z.free, z.gB, z.pin, z.hok, z.len⟩
  refine wpAny_mono (hh (X.pn ++ pins) σ' H' { s' with heap := h2 } Dd e cls pl c I2 ⟨B, a0, .none, ⟨hF.1, hF.2.1, by show h2.FunFrames B X.stack; rw [hst]; exact hF.2.2.1, hF.2.2.2, Ii⟩, hok, ⟨vL.keep, vL.there, vL.pins⟩⟩ hc ⟨τ', ρ', G', cG, ok'⟩) (fun f s3 h3 => AF h3) fun _ _ z => z
 ·refine ⟨τ, ρ, G, ab, ?_⟩
  dsimp only [De] at ok
  cases q : mb τ G with
  | stuck => rw [q] at ok; exact ok
  | nx τ' G' => rw [q] at ok; exact fun σ' H' ρ' f cG => ⟨τ', ρ', G', cG, ok.fut f⟩
  | rt d G' => rw [q] at ok; exact ok
  | bk τ' G' => rw [q] at ok; exact ok
  | ct τ' G' => rw [q] at ok; exact ok
  | xn c τ' G' => rw [q] at ok; exact fun σ' H' ρ' f cG => ⟨τ', ρ', G', f, cG, ok.fut f⟩
 ·cases f with
  | next =>
   obtain ⟨σ', H', I', q⟩ := h1
   exact he pins s1 σ' H' Dd (tQ I') q
  | brk => exact AF h1
  | cont => exact AF h1
  | ret u => exact AF h1
end
end L3
end
section
set_option Elab.async false
set_option linter.all false
set_option maxRecDepth 100000
namespace L3
open PySem PySem.Spec L2
theorem find_erase {α : Type} {p q : α → Bool} (hpq : ∀ x, q x = true → p x = false) : ∀ (l : List α) (i : Nat), l.findIdx? q = some i → (l.eraseIdx i).find? p = l.find? p
 | [], i, h => by simp at h
 | x :: l, i, h => by
  rw [List.findIdx?_cons] at h
  by_cases hx : q x = true
  ·rw [if_pos hx] at h
   cases h
   rw [List.eraseIdx_cons_zero, List.find?_cons_of_neg (by rw [hpq x hx]; decide)]
  ·rw [if_neg hx] at h
   obtain ⟨j, hj, rfl⟩ := Option.map_eq_some_iff.mp h
   rw [List.eraseIdx_cons_succ]
   cases hp : p x with
   | true => rw [List.find?_cons_of_pos hp, List.find?_cons_of_pos hp]
   | false => rw [List.find?_cons_of_neg (by rw [hp]; decide), List.find?_cons_of_neg (by rw [hp]; decide)]; exact find_erase hpq l j hj
section
variable {M : Model} {A : Around} {E : Value → Shared → Prop} {s : Shared}
theorem Im {a : Addr} {m : Str → Option Value} {x : Str} {v : Value} {Q : Bool → Shared → Prop} (hn : s.heap.Ns a m) (hv : m x = some v)
  (hQ : ∀ h' m', h'.Ns a m' → (∀ y, y ≠ x → m' y = m y) → Heap.SameBut a s.heap h' → Q true { s with heap := h' }) : wpAny M A (nsDel a x) Q E s := by
 obtain ⟨o, es, ep, ho, hd, hk, hm⟩ := id hn
 obtain ⟨cl, d, dt, sl⟩ := o
 obtain ⟨l⟩ := es
 dsimp only at hd
 subst hd
 have h1 := hm x
 rw [hv] at h1
 unfold nsFind findBy at h1
 obtain ⟨en, h2, _⟩ := Option.map_eq_some_iff.mp h1
 rw [List.find?_toArray] at h2
 have h3 : en.key.isStr x = true := by simpa using List.find?_some h2
 obtain ⟨i, hi⟩ : ∃ i, l.findIdx? (·.key.isStr x) = some i := by
  cases q : l.findIdx? (·.key.isStr x) with
  | some i => exact ⟨i, rfl⟩
  | none =>
   have := List.findIdx?_eq_none_iff.mp q en (List.mem_of_find?_eq_some h2)
   rw [h3] at this; cases this
 have hany : (l.toArray.any fun z => z.key.isStr x) = true := by
  rw [List.any_toArray]; exact List.any_eq_true.mpr ⟨en, List.mem_of_find?_eq_some h2, h3⟩
 unfold nsDel
 refine wpAny_bind (wpAny_loadPart ho (wpAny_bind ?_))
 rw [nsHas_eq]; unfold nsHasByArray
 dsimp only
 rw [hany]
 refine wpAny_pure (wpAny_bind (wpAny_updatePart ho (wpAny_pure ?_)))
 have dn : Obj.dropName x ⟨cl, d, .dict l.toArray ep, sl⟩ = ⟨cl, d, .dict (l.eraseIdx i).toArray (ep + 1), sl⟩ := by
  rw [Obj.dropName_eq]; unfold Obj.dropNameByArray
  simp only [List.findIdx?_toArray, hi, List.eraseIdxIfInBounds_toArray]
 refine hQ _ (fun y => nsFind (l.eraseIdx i).toArray y) ⟨_, _, _, Heap.get?_update_self _ ho (by rw [dn]; rfl), by rw [dn], ?_, fun _ => rfl⟩ (fun y hy => ?_) (Heap.SameBut.update ..)
 ·intro z hz
  exact hk z (by simpa using List.mem_of_mem_eraseIdx (by simpa using hz))
 ·rw [← hm y]
  unfold nsFind findBy
  rw [List.find?_toArray, List.find?_toArray, find_erase (fun z hz => ?_) l i hi]
  cases hq : z.key with
  | str n t => rw [hq] at hz; unfold Value.isStr at hz ⊢; rw [beq_iff_eq.mp hz]; exact beq_false_of_ne (Ne.symm hy)
  | _ => rw [hq] at hz; unfold Value.isStr at hz; cases hz
end
section
variable {X : Cx} {EE : eU} {pins : List (Addr × Obj)} {σ : L2.St} {H : Hp} {s : Shared} {M : Model} {A : Around} {E : Value → Shared → Prop}
theorem name_goes {i : Nat} {n : Str} {pos : Pos} {Q : Unit → Shared → Prop} (I : Inv X pins σ H s) (hN : X.N.Nodup) (hi : X.N[i]? = some n) (hl : X.env.scope.names.lookup n = some .local) (h : ∀ s', Inv X pins (σ.set i none) H s' → Q () s') :
  wpAny M A (do bindName X.env n .none; unbindBehindTheSuite X.env n pos) Q E s := by
 refine wpAny_bind (wpAny_bindName (pU (v := .gk) I hN hi (.inl hl) rfl (fun s1 I1 => ?_) (.inr hl)))
 have hcls : (X.env.scope.kind == .class || (X.env.scope.kind == .module && X.env.locals != X.env.globals)) = false := by rw [I.ok.kind]; rfl
 have hk : X.env.kindOf n = some .local := hl
 have Jy : i < σ.length := by rw [I.len]; exact (List.getElem?_eq_some_iff.mp hi).1
 obtain ⟨m, hn, hlk⟩ := id I1.loc
 obtain ⟨u, _, lk⟩ := hlk i n .gk hi (List.getElem?_set_self Jy) (.inl hl)
 have hmn : m n = some u := by
  rcases lk with ⟨_, z⟩ | ⟨z, _⟩
  ·exact z
  ·rw [hk] at z; rcases z with z | z <;> cases z
 unfold unbindBehindTheSuite unbindName
 refine wpAny_onRaise (wpAny_bind (wpAny_point (wpAny_bind ?_)))
 unfold deleteName
 simp only [hk, hcls]
 rw [if_neg (by decide)]
 refine wpAny_bind (Im hn hmn fun h' m' hn' hm' sb => ?_)
 simp only [Bool.not_true, Bool.false_eq_true, if_false]
 refine wpAny_pure (wpAny_point (h _ ?_))
 obtain ⟨oL, _, _, Mr, _⟩ := id hn
 have zo : ∀ b o, X.s₀.heap.get? b = some o → b ≠ X.env.locals := fun b o e => Nat.ne_of_lt (Nat.lt_of_lt_of_le (Heap.lt_size e) I.ok.above)
 refine ⟨I1.ok, I1.os, I1.bare, ⟨fun b o e z hb hx => (sb.2 b (zo b o e)).trans (I1.base.keep b o e z hb hx), fun b o e z hb hx => (I1.base.slot b o e z hb hx).imp fun sl q => (sb.2 b (zo b o e)).trans q, I1.base.free, fun b o e hx => (I1.base.there b o e hx).imp fun o' q => (sb.2 b (zo b o e)).trans q,
  I1.base.tups, I1.base.mZ, I1.base.m9⟩, ⟨m', hn', fun j y v e1 e2 e3 => ?_⟩, fun y c e => (I1.cell y c e).imp fun w z => z.sameBut sb (I1.Ci y c e), I1.free, I1.gB, fun p hp => ?_, ?_, by rw [List.length_set]; exact I.len⟩
 ·have hj : j ≠ i := fun z => by
   subst z
   rw [List.getElem?_set_self Jy] at e2; cases e2
  have hy : y ≠ n := fun z => hj (sZ hN e1 (z ▸ hi))
  rw [List.getElem?_set_ne (Ne.symm hj)] at e2
  obtain ⟨w, r, q⟩ := hlk j y v e1 (by rw [List.getElem?_set_ne (Ne.symm hj)]; exact e2) e3
  refine ⟨w, r, ?_⟩
  rcases q with ⟨k, q⟩ | ⟨k, c, q, z⟩
  ·exact .inl ⟨k, by rw [hm' y hy]; exact q⟩
  ·exact .inr ⟨k, c, q, z.sameBut sb (I1.Ci y c q)⟩
 ·obtain ⟨e, z, ne, nf, d⟩ := I1.pin p hp
  exact ⟨(sb.2 p.1 ne).trans e, z, ne, nf, d⟩
 ·intro b ob e
  refine (I1.hok b ob e).stay (fun c w hc q => (sb.2 c ?_).trans q) (fun _ q => q) fun _ _ q => q
  rintro rfl
  rcases hc with rfl | hc
  ·rw [I1.free] at e; cases e
  ·rw [I1.free] at hc; cases hc
theorem fR.there {P : Program} {w : World} {h : Heap} {a : Addr} {o : HO} (x : fR P w H h a o) : ∃ u, h.get? a = some u := by
 cases o with
 | lst xs => obtain ⟨_, _, _, _, e⟩ := x; exact ⟨_, e⟩
 | tup xs => obtain ⟨_, _, _, ob, e, _⟩ := x; exact ⟨_, e⟩
 | dK kvs => obtain ⟨_, _, _, _, o, _, _, e, _⟩ := x; exact ⟨_, e⟩
 | dT kvs => obtain ⟨_, _, _, _, o, _, _, e, _⟩ := x; exact ⟨_, e⟩
 | set S n => obtain ⟨o, _, _, _, e, _⟩ := x; exact ⟨_, e⟩
 | ins C dx fs => obtain ⟨_, _, _, e, _⟩ := x; exact ⟨_, e⟩
 | own y => obtain ⟨_, e⟩ := x; exact ⟨_, e⟩
 | xd fs => obtain ⟨_, ⟨_, _, _, e, _⟩, _⟩ := x; exact ⟨_, e⟩
 | Eu lo hi => obtain ⟨_, _, _, e⟩ := x; exact ⟨_, e⟩
 | ly ob u => obtain ⟨e, _⟩ := x; exact ⟨_, e⟩
 | Ej ps => exact ⟨_, x⟩
 | met f y => exact ⟨_, x⟩
 | ext φ => exact x.2.1
theorem BO {B : Heap} {e : Addr} {oe : Obj} {vs : Array Value} {cls : Value} {pl : Option Addr} (I : Inv X [] σ H s) (hex : X.ex = []) (vL : LV X B) (hkb : m7 X.prog X.w H B) (nw : B.get? e = none) (fr : s.heap.FunFrames B X.stack) (he : s.heap.get? e = some oe) (hc : oe.cls = cls) (hd : oe.data = .fields vs) (hp : oe.dict = pl) :
  H e = none ∧ Inv X [] σ (upd H e (.ext (Ay e cls pl))) s := by
 have hn : H e = none := by
  cases q : H e with
  | none => rfl
  | some u => obtain ⟨o, z⟩ := fR.there (hkb e u q); rw [nw] at z; cases z
 have Qy : e ∉ frs X.stack := fun z => by
  obtain ⟨_, o, q, n⟩ := fr.mem z
  rw [he] at q; cases q; exact n vs hd
 have n0 : ∀ b o, X.s₀.heap.get? b = some o → b ≠ e := fun b o q z => by
  subst z
  obtain ⟨o', q'⟩ := vL.there b o q Qy (by rw [hex]; simp)
  rw [nw] at q'; cases q'
 have nL : X.env.locals ≠ e := fun z => by
  obtain ⟨m, ⟨o, _, _, q, d, _⟩, _⟩ := I.loc
  rw [z, he] at q; cases q; rw [hd] at d; cases d
 have nC : ∀ x c, X.env.cells.lookup x = some c → c ≠ e := fun x c q z => by
  obtain ⟨v, o, ho, d⟩ := I.cell x c q
  rw [z, he] at ho; cases ho; rw [hd] at d; cases d
 refine ⟨hn, I.ok, I.os, I.bare, ⟨I.base.keep, I.base.slot, fun b o q n hx => by rw [aK (n0 b o q)]; exact I.base.free b o q n hx, I.base.there, fun b xs q => ?_, fun b o u q => ?_, fun b ps q => ?_⟩, I.loc, I.cell, by rw [aK nL]; exact I.free, fun x c q => by rw [aK (nC x c q)]; exact I.gB x c q,
  fun p hq => ?_, yf I.hok hn ⟨⟨oe, vs, he, hc, hd, hp⟩, ⟨oe, he⟩, fun h1 h2 ⟨o, ws, q, r⟩ k => ⟨o, ws, k o q, r⟩⟩, I.len⟩
 ·have := I.base.tups b xs q
  rw [aK (bI this hn)]; exact this
 ·have := I.base.mZ b o u q
  rw [aK (bI this hn)]; exact this
 ·obtain ⟨more, z⟩ := I.base.m9 b ps q
  exact ⟨more, by rw [aK (bI z hn)]; exact z⟩
 ·obtain ⟨q, n, r⟩ := I.pin p hq
  have np : p.1 ≠ e := fun z => by
   have := vL.pins p (by simpa using hq)
   rw [z, nw] at this; cases this
  exact ⟨q, by rw [aK np]; exact n, r⟩
noncomputable def Df (i : Nat) : Res → Res
 | .nx τ G => .nx (τ.set i none) G
 | .bk τ G => .bk (τ.set i none) G
 | .ct τ G => .ct (τ.set i none) G
 | .rt d G => .rt d G
 | _ => .stuck
noncomputable def tR (p : Str → Option Bool) (i : Nat) (m : MS) (r : XD → MS) : XD → MS := fun c τ G => match c with
 | .mk n as => match p n with
  | some true => Df i (m (τ.set i (some (.jV n as))) G)
  | some false => r c τ G
  | none => .stuck
theorem rj {K : PySem.W.Frag} {mg : Str → Option Value} {ρ : List Addr} {σ : L2.St} {τ : DS} {H : Hp} (i : Nat) (h : se K mg H ρ σ τ) : se K mg H ρ (σ.set i none) (τ.set i none) := by
 refine ⟨by simp [h.1], fun j d e => ?_⟩
 by_cases hj : i = j
 ·subst hj
  rw [List.getElem?_set] at e
  split at e
  ·split at e <;> cases e
  ·exact absurd rfl ‹_›
 ·rw [List.getElem?_set_ne hj] at e ⊢
  exact h.2 j d e
theorem yh {p : Str → Option Bool} {x nn : Str} {i : Nat} {cv : Value} {np pos : Pos} {b0 : Stmt} {suite : List Stmt} {rest : List ExceptHandler} {m : MS} {mr : XD → MS} (hm : X.mg x = some cv) (hp : ∀ n b cls, p n = some b → X.mg n = some cls → PySem.W.exmOne X.K cls cv = some b) (hg : Gl X x) (hd : (x == ("__debug__" : Str)) = false)
  (hex : X.ex = []) (hN : X.N.Nodup) (hi : X.N[i]? = some nn) (hl : X.env.scope.names.lookup nn = some .local)
  (hb : ∀ e, zI (Cx.hand X e) Qw (b0 :: suite) m) (hr : QH X EE rest mr) : QH X EE (.ExceptHandler (some (.Name x np)) (some nn) (b0 :: suite) pos :: rest) (tR p i m mr) := by
 intro σ H s Dd e cls pl c I ft hc hok
 obtain ⟨n, args⟩ := c
 refine wpAny_handleBy_cons (codeAny_handlers_test ?_) (by intro z; cases z)
 have Ih := yg I e
 refine sI (X := Cx.hand X e) Ih hg hm ?_ hd
 have Qz := ft
 obtain ⟨B, a0, fl, ⟨st, nw, fr, tr, hD⟩, hkb, vL⟩ := Qz
 obtain ⟨ob, hob, hcls⟩ := tr.there
 have LT : PySem.W.Looks (model X.prog X.w) s.heap (typeOf (.ref e)) cls := by subst hcls; exact (PySem.W.Looks.ld hob).andThen .now
 obtain ⟨τ, ρ, G, ab, ok⟩ := hok
 dsimp only [tR] at ok
 cases q : p n with
 | none => rw [q] at ok; exact ok.elim
 | some b =>
  refine (PySem.W.exm_one I.zm LT (hp n b cls q hc.1)).here ?_
  rw [q] at ok
  cases b with
  | false => exact hr σ H s Dd e cls pl (.mk n args) I ft hc ⟨τ, ρ, G, ab, ok⟩
  | true =>
   refine codeAny_handlers_suite_as ?_
   refine vK st fr tr hD fun h' k1 k2 k3 k4 Ii => ?_
   have I' : Inv X [] σ H { s with heap := h' } := Inv.C9 (t := s.toks) I vL hkb k1 fun b o hb hn => ⟨o.slots, k4 b o hb hn⟩
   obtain ⟨oe, vs, _, _, _, he, ⟨hce, _⟩, QB, _⟩ := k3
   obtain ⟨od, hod, hpl⟩ := Ii
   rw [he] at hod; cases hod
   obtain ⟨hn, I1⟩ := BO I' hex vL hkb nw k2 he hce QB hpl
   have f1 : d9 X.K H (upd H e (.ext (Ay e cls pl))) ρ ρ := gD hn ρ
   have r1 : Rep X.K X.mg ρ (upd H e (.ext (Ay e cls pl))) (.jV n args) (.ref e) := by
    unfold Rep; exact ⟨e, cls, pl, rfl, hc.1, bT, hc.2.mono f1⟩
   refine pU (X := X) (v := .ref e) I1 hN hi (.inl hl) rfl (fun s2 I2 => ?_) (.inr hl)
   refine wpAny_mono (hb e [] s2 (σ.set i (some (.ref e))) _ { nx := fun σ' H' => Dd.nx (σ'.set i none) H', bk := fun σ' H' => Dd.bk (σ'.set i none) H', ct := fun σ' H' => Dd.ct (σ'.set i none) H', rt := Dd.rt } (yg I2 e) ⟨τ.set i (some (.jV n args)), ρ, G, ⟨(ab.st.mono f1).set r1, ab.hp.new hn⟩, ?_⟩) (fun f s3 h3 => ?_) fun _ _ z => False.elim z
   ·cases r : m (τ.set i (some (.jV n args))) G with
    | stuck => rw [r] at ok; exact ok
    | nx τ' G' => rw [r] at ok; exact fun σ' H' ρ' f cG => ok (σ'.set i none) H' ρ' (f1.trans f) ⟨rj i cG.st, cG.hp⟩
    | bk τ' G' => rw [r] at ok; exact fun σ' H' ρ' f cG => ok (σ'.set i none) H' ρ' (f1.trans f) ⟨rj i cG.st, cG.hp⟩
    | ct τ' G' => rw [r] at ok; exact fun σ' H' ρ' f cG => ok (σ'.set i none) H' ρ' (f1.trans f) ⟨rj i cG.st, cG.hp⟩
    | rt d G' => rw [r] at ok; exact fun v H' ρ' f Er rp => ok v H' ρ' (f1.trans f) Er rp
    | xn c τ' G' => rw [r] at ok; exact ok.elim
   ·have h4 := BN I.ok h3
    cases f with
    | next => obtain ⟨σ', H', J, z⟩ := h4; exact name_goes J hN hi hl fun s4 J4 => ⟨_, H', J4, z⟩
    | brk => obtain ⟨σ', H', J, z⟩ := h4; exact name_goes J hN hi hl fun s4 J4 => ⟨_, H', J4, z⟩
    | cont => obtain ⟨σ', H', J, z⟩ := h4; exact name_goes J hN hi hl fun s4 J4 => ⟨_, H', J4, z⟩
    | ret u => obtain ⟨v, σ', H', J, r, z⟩ := h4; exact name_goes J hN hi hl fun s4 J4 => ⟨v, _, H', J4, r, z⟩
end
end L3
end
section
set_option Elab.async false
set_option linter.all false
set_option maxRecDepth 100000
namespace L3
open PySem PySem.Spec L2
noncomputable def iM (env : Env) : List (Str × NameKind) → List (Str × Addr) → List (Str × Addr)
 | [], acc => acc
 | (n, k) :: r, acc => iM env r (if k == .free then (match env.cells.lookup n with | some c => (n, c) :: acc | none => acc) else acc)
theorem ou {scope : Scope} {env : Env} (h : ∀ x ∈ scope.names, x.2 = .free → ∃ c, env.cells.lookup x.1 = some c) : closureFor scope env = pure (iM env scope.names []) := by
 unfold closureFor
 have key : ∀ (names : List (Str × NameKind)) (acc : List (Str × Addr)), (∀ x ∈ names, x.2 = .free → ∃ c, env.cells.lookup x.1 = some c) →
   (forIn names acc fun x r => match x with | (name, kind) => if (kind == NameKind.free) = true then do let y ← cellOf env name; pure (ForInStep.yield ((name, y) :: r)) else pure (ForInStep.yield r)) = (pure (iM env names acc) : Sem (List (Str × Addr))) := by
  intro names
  induction names with
  | nil => intro acc _; rfl
  | cons x r ih =>
   intro acc hx
   obtain ⟨n, k⟩ := x
   rw [List.forIn_cons]
   by_cases hk : (k == NameKind.free) = true
   ·obtain ⟨c, hc⟩ := hx (n, k) List.mem_cons_self (eq_of_beq hk)
    have e : cellOf env n = pure c := by unfold cellOf; rw [hc]
    simp only [if_pos hk, e, pure_bind]
    rw [ih _ fun y hy => hx y (List.mem_cons_of_mem _ hy)]
    show _ = pure (iM env r (if (k == NameKind.free) = true then (match env.cells.lookup n with | some c => (n, c) :: acc | none => acc) else acc))
    rw [if_pos hk, hc]
   ·simp only [if_neg hk, pure_bind]
    rw [ih _ fun y hy => hx y (List.mem_cons_of_mem _ hy)]
    show _ = pure (iM env r (if (k == NameKind.free) = true then (match env.cells.lookup n with | some c => (n, c) :: acc | none => acc) else acc))
    rw [if_neg hk]
 have k2 := key scope.names [] h
 first
  | (rw [k2]; rfl)
  | (simp only [k2, pure_bind])
  | exact k2
theorem tS {env : Env} : ∀ (names : List (Str × NameKind)) (acc : List (Str × Addr)), (∀ y c, acc.lookup y = some c → env.cells.lookup y = some c) → ∀ y c, (iM env names acc).lookup y = some c → env.cells.lookup y = some c
 | [], acc, h, y, c, e => h y c e
 | (n, k) :: r, acc, h, y, c, e => by
  refine tS r _ (fun z d ez => ?_) y c e
  by_cases hk : (k == NameKind.free) = true
  ·rw [if_pos hk] at ez
   cases q : env.cells.lookup n with
   | none => rw [q] at ez; exact h z d ez
   | some c' =>
    rw [q] at ez
    dsimp only at ez
    rw [List.lookup_cons] at ez
    cases hz : z == n with
    | true => rw [hz] at ez; cases ez; rw [eq_of_beq hz]; exact q
    | false => rw [hz] at ez; exact h z d ez
  ·rw [if_neg hk] at ez
   exact h z d ez
theorem tT {env : Env} : ∀ (names : List (Str × NameKind)) (acc : List (Str × Addr)) (y : Str), ((∃ c, acc.lookup y = some c) ∨ ((y, NameKind.free) ∈ names ∧ ∃ c, env.cells.lookup y = some c)) → ∃ c, (iM env names acc).lookup y = some c
 | [], acc, y, h => by
  rcases h with h | ⟨h, _⟩
  ·exact h
  ·cases h
 | (n, k) :: r, acc, y, h => by
  refine tT r _ y ?_
  rcases h with ⟨c, h⟩ | ⟨h, c, hc⟩
  ·left
   by_cases hk : (k == NameKind.free) = true
   ·rw [if_pos hk]
    cases q : env.cells.lookup n with
    | none => exact ⟨c, h⟩
    | some c' =>
     dsimp only
     rw [List.lookup_cons]
     cases hz : y == n with
     | true => exact ⟨c', rfl⟩
     | false => exact ⟨c, h⟩
   ·rw [if_neg hk]; exact ⟨c, h⟩
  ·rcases List.mem_cons.mp h with e | h
   ·cases e
    left
    rw [if_pos (by rfl), hc]
    dsimp only
    exact ⟨c, by rw [List.lookup_cons, beq_self_eq_true]⟩
   ·exact .inr ⟨h, c, hc⟩
end L3
end
section
set_option Elab.async false
set_option linter.all false
set_option maxRecDepth 100000
namespace L3
open PySem PySem.Spec L2 PyProof.Rows
noncomputable def mask {α : Type} : List Bool → List (Option α) → List (Option α)
 | _, [] => []
 | [], _ :: r => none :: mask [] r
 | k :: ks, o :: r => (if k then o else none) :: mask ks r
theorem kq {α : Type} : ∀ (ks : List Bool) (l : List (Option α)), (mask ks l).length = l.length
 | _, [] => by unfold mask; rfl
 | [], _ :: r => by unfold mask; simp [kq [] r]
 | k :: ks, o :: r => by unfold mask; simp [kq ks r]
theorem nv {α : Type} {v : α} : ∀ {ks : List Bool} {l : List (Option α)} {i : Nat}, (mask ks l)[i]? = some (some v) → ks[i]? = some true ∧ l[i]? = some (some v)
 | ks, [], i, h => by unfold mask at h; simp at h
 | [], o :: r, 0, h => by unfold mask at h; simp at h
 | [], o :: r, i + 1, h => by
  unfold mask at h
  have := (nv (ks := []) (l := r) (i := i) (by simpa using h)).1
  simp at this
 | k :: ks, o :: r, 0, h => by
  unfold mask at h
  cases k with
  | true => simpa using h
  | false => simp at h
 | k :: ks, o :: r, i + 1, h => by
  unfold mask at h
  have := nv (ks := ks) (l := r) (i := i) (by simpa using h)
  simpa using this
theorem AG {α : Type} {v : α} : ∀ {ks : List Bool} {l : List (Option α)} {i : Nat}, ks[i]? = some true → l[i]? = some (some v) → (mask ks l)[i]? = some (some v)
 | ks, [], i, _, h => by simp at h
 | [], o :: r, i, h, _ => by simp at h
 | k :: ks, o :: r, 0, h, e => by unfold mask; simp at h e; simp [h, e]
 | k :: ks, o :: r, i + 1, h, e => by
  unfold mask
  have := AG (ks := ks) (l := r) (i := i) (by simpa using h) (by simpa using e)
  simpa using this
noncomputable def wQ (env : Env) (n : Str) (k : NameKind) : NameKind := if (k == .free && env.scope.kind == .function && env.kindOf n == some .cell) then .cell else k
theorem gK {env : Env} {y : Str} : ∀ (names : List (Str × NameKind)), (names.map fun (n, k) => if (k == NameKind.free && env.scope.kind == .function && env.kindOf n == some .cell) then (n, NameKind.cell) else (n, k)).lookup y = (names.lookup y).map (wQ env y)
 | [] => rfl
 | (n, k) :: r => by
  have ih := gK (env := env) (y := y) r
  rw [List.map_cons, List.lookup_cons]
  by_cases hc : (k == NameKind.free && env.scope.kind == .function && env.kindOf n == some .cell) = true
  ·rw [if_pos hc, List.lookup_cons]
   cases hy : y == n with
   | true =>
    have e : y = n := eq_of_beq hy
    subst e
    simp [wQ, hc]
   | false => exact ih
  ·rw [if_neg hc, List.lookup_cons]
   cases hy : y == n with
   | true =>
    have e : y = n := eq_of_beq hy
    subst e
    simp [wQ, hc]
   | false => exact ih
structure cW (LW : Scope) (N : List Str) (scope : Scope) (xs : List Str) (ks : List Bool) : Prop where
 nd : xs.Nodup
 kind : scope.kind = .function
 Dg : ∀ y ∈ scope.names, y.2 ≠ .cell
 names : ∀ y ∈ scope.names, y.2 = .local → scope.names.lookup y.1 = some .local
 loc : ∀ x ∈ xs, scope.names.lookup x = some .local
 free : ∀ y ∈ scope.names, y.2 = .free → LW.names.lookup y.1 = some .cell ∨ LW.names.lookup y.1 = some .free
 M8 : ((ks.zip N).all fun p => !p.1 || decide (scope.names.lookup p.2 = some .free)) = true
theorem cW.cap {LW : Scope} {N : List Str} {scope : Scope} {xs : List Str} {ks : List Bool} (S : cW LW N scope xs ks) : ∀ i < ks.length, ks[i]? = some true → ∀ y ∈ N[i]?, scope.names.lookup y = some .free := fun i _ hk y hy => by
 have h := List.all_eq_true.mp S.M8 (true, y) (List.mem_of_getElem? (i := i) (by rw [List.getElem?_zip_eq_some]; exact ⟨hk, hy⟩))
 simpa using h
noncomputable def rO (X : Cx) (scope : Scope) (cl : List (Str × Addr)) (xs : List Str) (C : Addr) (pins : List (Addr × Obj)) (s : Shared) (H : Hp) (fp : List Addr) (E : Value → Shared → Prop) : Cx where
 prog := X.prog
 w := X.w
 K := X.K
 mg := X.mg
 base := X.base
 A := X.A
 N := xs ++ X.N
 s₀ := s
 H₀ := H
 env := compEnvC scope cl C X.env
 outer := X.stack
 stack := X.stack
 ex := fp
 fn := fun _ => false
 calm := X.calm
 pn := X.pn ++ pins
 xe := E
section
variable {X : Cx} {scope : Scope} {xs : List Str} {x : Str} {ks : List Bool} {pins : List (Addr × Obj)} {σ : L2.St} {H : Hp} {s s4 : Shared} {fp : List Addr} {E : Value → Shared → Prop} {h1 : Heap}
theorem mem_lookup {α β : Type} [BEq α] [LawfulBEq α] : ∀ {l : List (α × β)} {a : α} {b : β}, l.lookup a = some b → (a, b) ∈ l
 | [], _, _, h => by simp at h
 | (a', b') :: r, a, b, h => by
  rw [List.lookup_cons] at h
  cases hz : a == a' with
  | true => rw [hz] at h; cases h; rw [eq_of_beq hz]; exact List.mem_cons_self
  | false => rw [hz] at h; exact List.mem_cons_of_mem _ (mem_lookup h)
theorem Dh (S : cW X.env.scope X.N scope xs ks) {cl : List (Str × Addr)} {C : Addr} {y : Str} (h : (compEnvC scope cl C X.env).kindOf y = some .cell ∨ (compEnvC scope cl C X.env).kindOf y = some .free) : scope.names.lookup y = some .free := by
 have h' : (scope.names.lookup y).map (wQ X.env y) = some .cell ∨ (scope.names.lookup y).map (wQ X.env y) = some .free := by
  rw [← gK]; exact h
 cases q : scope.names.lookup y with
 | none => rw [q] at h'; rcases h' with h' | h' <;> cases h'
 | some k =>
  rw [q] at h'
  cases k with
  | free => rfl
  | cell => exact absurd rfl (S.Dg _ (mem_lookup q))
  | _ => rcases h' with h' | h' <;> simp [wQ] at h'
theorem rm (S : cW X.env.scope X.N scope xs ks) {cl : List (Str × Addr)} {C : Addr} {y : Str} (h : scope.names.lookup y = some .free) : (compEnvC scope cl C X.env).kindOf y = some .cell ∨ (compEnvC scope cl C X.env).kindOf y = some .free := by
 have e : (compEnvC scope cl C X.env).kindOf y = (scope.names.lookup y).map (wQ X.env y) := gK scope.names
 rw [e, h]
 unfold wQ
 dsimp only [Option.map]
 split
 ·exact .inl rfl
 ·exact .inr rfl
theorem tU (S : cW X.env.scope X.N scope xs ks) (hx : x ∈ xs) {cl : List (Str × Addr)} {C : Addr} : (compEnvC scope cl C X.env).kindOf x = some .local := by
 have e : (compEnvC scope cl C X.env).kindOf x = (scope.names.lookup x).map (wQ X.env x) := gK scope.names
 rw [e, S.loc x hx]
 rfl
theorem zR (S : cW X.env.scope X.N scope xs ks) (I : Inv X pins σ H s) (hf : ∀ b ∈ fp, pV X pins H b ∧ b < s.heap.objs.size) (hn : h1.Ns s.heap.objs.size fun _ => none) (hk : ∀ b o, s.heap.get? b = some o → h1.get? b = some o) (t : Nat) :
  Inv (rO X scope (iM X.env scope.names []) xs s.heap.objs.size pins s H fp E) [] (List.replicate xs.length none ++ mask ks σ) H { s with heap := h1, toks := t } := by
 have cs : ∀ y c, (iM X.env scope.names []).lookup y = some c → X.env.cells.lookup y = some c := tS scope.names [] fun y c e => by simp at e
 have lt : ∀ b o, s.heap.get? b = some o → b ≠ s.heap.objs.size := fun b o e => Nat.ne_of_lt (Heap.lt_size e)
 have Io : ∀ y c, X.env.cells.lookup y = some c → ∃ v, s.heap.IsCell c v := fun y c e => I.cell y c e
 have Gg : ∀ b, b ≠ X.env.locals → b ∉ X.fs → b ∉ frs X.stack := fun b h1 h2 h3 => (List.mem_cons.mp (I.ng b h3)).elim h1 h2
 refine ⟨⟨I.ok.mod, ?_, I.ok.glob, I.ok.blt, Nat.le_refl _, fun y z c e1 e2 => I.ok.inj y z c (cs y c e1) (cs z c e2), fun y hy => ?_, fun y c h _ => absurd (show false = true from h) Bool.false_ne_true, I.ok.hd, I.ok.frames, .inl rfl, fun b hb => ⟨Nat.ne_of_lt (hf b hb).2, fun y c e => (hf b hb).1.2.2.2.2.1 y c (cs y c e)⟩, I.bs,
   Nat.le_trans I.ok.Bl I.sz, fun b o e hb => ?_, fun b hb => Gg b (hf b hb).1.2.1 (hf b hb).1.2.2.1, I.stack, I.pT⟩, rfl, I.bare, Un.kept hk, ⟨_, hn, fun i y v e1 e2 e3 => ?_⟩, fun y c e => ?_, I.hok.fresh (Nat.le_refl _), fun y c e => I.gB y c (cs y c e), fun p hp => ?_, I.hok.kept hk, ?_⟩
 ·show (relabel scope X.env).kind = .function
  exact S.kind
 ·have hfree := Dh S hy
  have hm := mem_lookup hfree
  refine tT scope.names [] y (.inr ⟨hm, ?_⟩)
  exact I.ok.has y (S.free _ hm rfl)
 ·rcases (hf b hb).1.2.2.2.1 with z | z
  ·exact I.ok.xM b o e z
  ·exact absurd (Nat.lt_of_lt_of_le (Heap.lt_size (I.ok.bs b o e).1) z) (Nat.lt_irrefl _)
 ·by_cases hlt : i < xs.length
  ·rw [List.getElem?_append_left (by simpa using hlt), List.getElem?_replicate] at e2
   rw [if_pos hlt] at e2; cases e2
  ·obtain ⟨j, rfl⟩ : ∃ j, i = xs.length + j := ⟨i - xs.length, by omega⟩
   have En : (mask ks σ)[j]? = some (some v) := by
    rw [List.getElem?_append_right (by simp)] at e2
    simpa using e2
   obtain ⟨hks, eσ⟩ := nv En
   have Az : X.N[j]? = some y := by
    have : (xs ++ X.N)[xs.length + j]? = some y := e1
    rw [List.getElem?_append_right (by omega)] at this
    simpa using this
   have hfree : scope.names.lookup y = some .free := S.cap j (List.getElem?_eq_some_iff.mp hks).1 hks y (by rw [Az]; rfl)
   obtain ⟨m, hm, hl⟩ := I.loc
   have hkind := S.free _ (mem_lookup hfree) rfl
   obtain ⟨u, r, l⟩ := hl j y v Az eσ (hkind.elim (fun z => .inr (.inl z)) fun z => .inr (.inr z))
   refine ⟨u, r, .inr ⟨rm S hfree, ?_⟩⟩
   rcases l with ⟨k, _⟩ | ⟨k, c, ec, hc⟩
   ·have k' : X.env.scope.names.lookup y = some .local := k
    rcases hkind with z | z <;> (rw [k'] at z; cases z)
   ·obtain ⟨c', OC⟩ := tT (env := X.env) scope.names [] y (.inr ⟨mem_lookup hfree, c, ec⟩)
    have := cs y c' OC
    rw [ec] at this; cases this
    exact ⟨c, OC, hc.keeps hk⟩
 ·obtain ⟨v, hc⟩ := Io y c (cs y c e)
  exact ⟨v, hc.keeps hk⟩
 ·have Er : p ∈ X.pn ++ pins := by
   have : p ∈ (X.pn ++ pins) ++ [] := hp
   simpa using this
  obtain ⟨e, n, ne, nf, d⟩ := I.pin p Er
  exact ⟨hk _ _ e, n, lt _ _ e, Gg _ ne nf, d⟩
 ·show (List.replicate xs.length none ++ mask ks σ).length = (xs ++ X.N).length
  simp [kq, I.len]
theorem zS {Xc : Cx} {cl : List (Str × Addr)} {C : Addr} {σ0 : L2.St} {own : List (Option V)} {n : Nat} {v : V} {u : Value} {A' : Around} {Q : Unit → Shared → Prop} {E' : Value → Shared → Prop} {M' : Model} {px : Pos} {s0 : Shared} {H0 H1 : Hp} {s1 : Shared} {gC : List (Addr × Obj)}
  (S : cW X.env.scope X.N scope xs ks) (e : Xc = rO X scope cl xs C pins s0 H0 fp E) (Jj : own.length = xs.length) (hx : xs[n]? = some x) (I : Inv Xc gC (own ++ mask ks σ0) H1 s1) (r : RelV v u) (h : ∀ s', Inv Xc gC (own.set n (some v) ++ mask ks σ0) H1 s' → Q () s') :
  wpAny M' A' (assign (.Name x px) Xc.env u) Q E' s1 := by
 subst e
 obtain ⟨m, hn, hl⟩ := id I.loc
 have OD := tU (cl := cl) (C := C) S (List.mem_of_getElem? hx)
 refine wpAny_assign_Name (wpAny_storeName_local OD hn (fun h' hn' hs => ?_) (by rw [show (rO X scope cl xs C pins s0 H0 fp E).env.scope.kind = .function from S.kind]; rfl))
 refine h _ ?_
 have zo : ∀ b o, s0.heap.get? b = some o → b ≠ C := fun b o e => Nat.ne_of_lt (Nat.lt_of_lt_of_le (Heap.lt_size e) I.ok.above)
 obtain ⟨oL, _, _, Mr, _⟩ := id hn
 have hfree : H1 C = none := I.free
 refine ⟨I.ok, I.os, I.bare, ⟨fun b o e n hb hx => ?_, fun b o e n hb hx => ?_, I.base.free, fun b o e hx => ?_, I.base.tups, I.base.mZ, I.base.m9⟩, ⟨_, hn', fun j y v' e1 e2 e3 => ?_⟩, fun y c e => ?_, I.free, I.gB, fun p hp => ?_, fun b ob e => ?_, by simpa using I.len⟩
 ·exact (hs.2 b (zo b o e)).trans (I.base.keep b o e n hb hx)
 ·obtain ⟨sl, e1⟩ := I.base.slot b o e n hb hx
  exact ⟨sl, (hs.2 b (zo b o e)).trans e1⟩
 ·obtain ⟨o', e1⟩ := I.base.there b o e hx
  exact ⟨o', (hs.2 b (zo b o e)).trans e1⟩
 ·have hnl : n < xs.length := (List.getElem?_eq_some_iff.mp hx).1
  by_cases hlt : j < xs.length
  ·have ey : xs[j]? = some y := by
    have : (xs ++ X.N)[j]? = some y := e1
    rwa [List.getElem?_append_left hlt] at this
   rw [List.getElem?_append_left (by simp; omega)] at e2
   by_cases hj : n = j
   ·subst hj
    rw [hx] at ey; cases ey
    rw [List.getElem?_set, if_pos rfl, if_pos (by omega)] at e2
    cases e2
    exact ⟨u, r, .inl ⟨OD, by simp⟩⟩
   ·rw [List.getElem?_set_ne hj] at e2
    have hne : y ≠ x := by
     rintro rfl
     obtain ⟨h1, Az⟩ := List.getElem?_eq_some_iff.mp hx
     obtain ⟨h2, En⟩ := List.getElem?_eq_some_iff.mp ey
     exact hj ((List.getElem_inj S.nd).mp (Az.trans En.symm))
    obtain ⟨u', r', q⟩ := hl j y v' e1 (by rw [List.getElem?_append_left (by omega)]; exact e2) e3
    refine ⟨u', r', ?_⟩
    rcases q with ⟨k, e⟩ | ⟨k, c, e, z⟩
    ·exact .inl ⟨k, by simpa [hne] using e⟩
    ·exact .inr ⟨k, c, e, z.sameBut hs (I.Ci y c e)⟩
  ·obtain ⟨j, rfl⟩ : ∃ k, j = xs.length + k := ⟨j - xs.length, by omega⟩
   have En : (mask ks σ0)[j]? = some (some v') := by
    rw [List.getElem?_append_right (by simp; omega)] at e2
    simpa [Jj] using e2
   obtain ⟨u', r', q⟩ := hl (xs.length + j) y v' e1 (by rw [List.getElem?_append_right (by omega)]; simpa [Jj] using En) e3
   refine ⟨u', r', ?_⟩
   rcases q with ⟨k, e⟩ | ⟨k, c, e, z⟩
   ·obtain ⟨hks, _⟩ := nv En
    have Az : X.N[j]? = some y := by
     have : (xs ++ X.N)[xs.length + j]? = some y := e1
     rw [List.getElem?_append_right (by omega)] at this
     simpa using this
    have hfr : scope.names.lookup y = some .free := S.cap j (List.getElem?_eq_some_iff.mp hks).1 hks y (by rw [Az]; rfl)
    rcases rm (cl := cl) (C := C) S hfr with z | z
    ·have k' : (compEnvC scope cl C X.env).kindOf y = some .local := k
     rw [k'] at z; cases z
    ·have k' : (compEnvC scope cl C X.env).kindOf y = some .local := k
     rw [k'] at z; cases z
   ·exact .inr ⟨k, c, e, z.sameBut hs (I.Ci y c e)⟩
 ·obtain ⟨w', z⟩ := I.cell y c e
  exact ⟨w', z.sameBut hs (I.Ci y c e)⟩
 ·obtain ⟨e, n, ne, nf, d⟩ := I.pin p hp
  exact ⟨(hs.2 p.1 ne).trans e, n, ne, nf, d⟩
 ·refine (I.hok b ob e).stay (fun c w' hc q => (hs.2 c ?_).trans q) (fun _ q => q) fun _ _ q => q
  intro ec
  rcases hc with hc | hc
  ·have : H1 C = some ob := by rw [← (show c = C from ec), hc]; exact e
   rw [hfree] at this; cases this
  ·have : H1 C = some (.own b) := by rw [← (show c = C from ec)]; exact hc
   rw [hfree] at this; cases this
noncomputable def uQ : V → Hp → List V → Prop := fun x _ vs => vs = [x]
noncomputable def Own (X : Cx) (scope : Scope) (xs : List Str) (ks : List Bool) (tg : Expr) (ow : V → Hp → List V → Prop) : Prop :=
 ∀ (cl : List (Str × Addr)) (C : Addr) (pins : List (Addr × Obj)) (s0 : Shared) (H0 : Hp) (fp : List Addr) (E : Value → Shared → Prop) (Xc : Cx) (σ0 : L2.St) (own : List (Option V)) (x : V) (vs : List V) (u : Value) (H1 : Hp) (s1 : Shared) (gC : List (Addr × Obj)) (E' : Value → Shared → Prop) (Q : Unit → Shared → Prop),
  Xc = rO X scope cl xs C pins s0 H0 fp E → own.length = xs.length → Inv Xc gC (own ++ mask ks σ0) H1 s1 → RelV x u → ow x H1 vs →
  (vs.length = xs.length → ∀ s', Inv Xc gC (vs.map some ++ mask ks σ0) H1 s' → Q () s') → wpAny (model X.prog X.w) X.A (assign tg Xc.env u) Q E' s1
theorem i8 {px : Pos} (S : cW X.env.scope X.N scope [x] ks) : Own X scope [x] ks (.Name x px) uQ := by
 intro cl C pins s0 H0 fp E Xc σ0 own v vs u H1 s1 gC E' Q e ho I r hv h
 cases hv
 match own, ho with
 | [a], _ => exact zS (own := [a]) (n := 0) S e rfl rfl I r fun s' I' => h rfl s' I'
end
end L3
end
section
set_option Elab.async false
set_option linter.all false
set_option maxRecDepth 100000
namespace L3
open PySem PySem.Spec L2
theorem wR {prog : Program} {w : World} {A : Around} {R : Result → Shared → Prop} {s : Shared} {elt target iter : Expr} {ifs : List Expr} {scope : Scope} {pos : Pos} {it acc : Value} {env : Env} (I : Nat → Shared → Prop)
  (turn : ∀ (n : Nat) (s : Shared), I n s → wpAny (model prog w) A (pyNext it) (fun r s₁ => match r with
   | none => R (.ok .next) s₁
   | some v => wpAny (model prog w) A (letOwnedTupleGo target it v) (fun _ s₁' => wpAny (model prog w) A (assign target env v) (fun _ s₂ => wpAny (model prog w) A (forIn ifs true fun c r => if r = true then do let ok ← isTrue c env (eval c env); pure (ForInStep.yield ok) else pure (ForInStep.yield r)) (fun ok s₃ => if ok = true then wpAny (model prog w) A (eval elt env) (fun x s₄ => wpAny (model prog w) A (call (.builtin "list.append") [acc, x]) (fun _ s₅ => ∃ m, m < n ∧ I m s₅) (notedBy (model prog w) A env fun e s' => R (.error e) s') s₄) (notedBy (model prog w) A env fun e s' => R (.error e) s') s₃ else ∃ m, m < n ∧ I m s₃) (notedBy (model prog w) A env fun e s' => R (.error e) s') s₂) (notedBy (model prog w) A env fun e s' => R (.error e) s') s₁') (notedBy (model prog w) A env fun e s' => R (.error e) s') s₁) (notedBy (model prog w) A env fun e s' => R (.error e) s') s) (n : Nat) (h : I n s) :
  codeAny (model prog w) A (.compLoop (.ListComp elt [⟨target, iter, ifs, 0⟩] scope pos) 0 it acc env) R s := by
 refine codeAny_loop rfl I (fun n s hI => ?_) n h
 refine wpAny_noted ?_
 rw [compTurn_list]
 refine wpAny_bind (wpAny_standAt (wpAny_bind (wpAny_mono (turn n s hI) (fun r s₁ h₁ => ?_) fun _ _ z => z)))
 cases r with
 | none => exact wpAny_pure h₁
 | some v =>
  refine wpAny_bind (wpAny_mono h₁ (fun _ s₂ h₂ => wpAny_bind (wpAny_mono h₂ (fun _ s₃ h₃ => wpAny_bind (wpAny_mono h₃ (fun ok s₄ h₄ => ?_) fun _ _ z => z)) fun _ _ z => z)) fun _ _ z => z)
  cases ok with
  | false => exact wpAny_pure ⟨rfl, h₄⟩
  | true => exact wpAny_bind (wpAny_bind (wpAny_mono h₄ (fun x s₅ h₅ => wpAny_bind (wpAny_mono h₅ (fun _ s₆ h₆ => wpAny_pure (wpAny_pure ⟨rfl, h₆⟩)) fun _ _ z => z)) fun _ _ z => z))
noncomputable def CT (X : Cx) (ifs : List Expr) (tt : TT) : Prop := ∀ (pins : List (Addr × Obj)) (s : Shared) (σ : L2.St) (H : Hp) (Q : Bool → Hp → Prop), Inv X pins σ H s → tt σ H Q →
 wpAny (model X.prog X.w) X.A (forIn ifs true fun c r => if r = true then do let ok ← isTrue c X.env (eval c X.env); pure (ForInStep.yield ok) else pure (ForInStep.yield r)) (TP X pins σ Q) X.xe s
theorem Ip {X : Cx} : CT X [] (fun _ H Q => Q true H) := fun _ _ _ H _ I h => wpAny_tests_nil ⟨H, I, h⟩
theorem Iq {X : Cx} {c : Expr} {t : TT} (h : PT X c t) : CT X [c] t := fun pins s σ H Q I q => wpAny_tests_one (h pins s σ H Q I q)
noncomputable def Di (wi : TI) (ks : List Bool) (ow : V → Hp → List V → Prop) (tt : TT) (te : TE) : TE := fun σ H Q => wi σ H fun J H1 => ∀ D, H1 D = none → ∃ W : Nat → Nat → Hp → Prop, (∃ m, W 0 m (upd H1 D (.lst []))) ∧ ∀ i m H, W i m H →
  (J.stop i H ∧ Q (.ref D) H) ∨ (J.go i H ∧ ∀ x H', J.xK i H x H' → ∃ vs, ow x H' vs ∧ tt (vs.map some ++ mask ks σ) H' fun b H2 => if b = true then te (vs.map some ++ mask ks σ) H2 fun v H3 => ∃ ys, H3 D = some (.lst ys) ∧ ys.length < sizeLine ∧ ∃ m', m' < m ∧ W (i + 1) m' (upd H3 D (.lst (ys ++ [v]))) else ∃ m', m' < m ∧ W (i + 1) m' H2)
section
variable {X : Cx} {scope : Scope} {xs : List Str} {tg : Expr} {ow : V → Hp → List V → Prop} {ks : List Bool} {pins : List (Addr × Obj)} {σ : L2.St} {H : Hp} {s s4 : Shared} {fp : List Addr} {E : Value → Shared → Prop} {h1 : Heap} {elt iter : Expr} {ifs : List Expr} {px pos : Pos} {tt : TT} {te : TE} {wi : TI}
theorem rP {h h' B B' : Heap} : ∀ {l : List Env}, h.FunFrames B l → (∀ b ∈ frs l, ∀ o, h.get? b = some o → (∀ vs, o.data ≠ .fields vs) → ∃ o', h'.get? b = some o' ∧ o'.data = o.data) → (∀ b ∈ frs l, B'.get? b = none) → h'.FunFrames B' l
 | [], _, _, _ => trivial
 | env :: r, ⟨hk, ⟨L, o, hf, _, ho, hd⟩, hr⟩, hm, hB => by
  have sub : ∀ b, b = L ∨ b ∈ frs r → b ∈ frs (env :: r) := fun b hb => by
   unfold frs; rw [List.filterMap_cons, hf]
   rcases hb with z | z
   ·rw [z]; exact List.mem_cons_self
   ·exact List.mem_cons_of_mem _ z
  obtain ⟨o', e1, e2⟩ := hm L (sub L (.inl rfl)) o ho hd
  exact ⟨hk, ⟨L, o', hf, hB L (sub L (.inl rfl)), e1, by rw [e2]; exact hd⟩, rP hr (fun b hb => hm b (sub b (.inr hb))) fun b hb => hB b (sub b (.inr hb))⟩
theorem zT {EE : eU} {D C e : Addr} {cls : Value} {pl : Option Addr} {c : XD} {gC : List (Addr × Obj)} {σ' : L2.St} {H' HD : Hp} {s3 s' : Shared} {cl : List (Str × Addr)} {RE : Value → Shared → Prop} (Ir : lW X EE) (hst : ∃ i0 jl L, X.stack = i0 :: jl ∧ X.env.frame = i0.frame ∧ i0.frame = some L)
  (I3 : Inv X pins σ HD s3) (hC : C = s3.heap.objs.size) (f3 : ∀ b ∈ fp, pV X pins HD b ∧ b < s3.heap.objs.size)
  (M9 : ∀ s'' : Shared, (∃ m, s''.heap.Ns C m ∧ ∀ h', Heap.SameBut C s''.heap h' → ∀ cenv : Env, cenv.locals = C → wpAny (model X.prog X.w) X.A (passOn "comprehension.variables-let-go" (.ref e) cenv : Sem Value) (fun _ _ => False) X.xe { s'' with heap := h' }) → RE (.ref e) s'')
  (I' : Inv (rO X scope cl xs C pins s3 HD fp E) gC σ' H' s') (fx : Km (rO X scope cl xs C pins s3 HD fp E) H' e cls pl s') (hc : vH X.mg H' c cls pl) (ee : EE c σ H') :
  notedBy (model X.prog X.w) X.A (compEnvC scope cl C X.env) RE (.ref e) s' := by
 obtain ⟨B, fb, hok, vL⟩ := fx
 obtain ⟨i0, jl, L, h1, h2, h3⟩ := hst
 show wpAny _ X.A (noteFrame (.ref e) (compEnvC scope cl C X.env)) _ _ s'
 rw [zQ (show (compEnvC scope cl C X.env).frame = i0.frame from h2)]
 have hfr : X.A.frames = some (i0 :: jl) := by rw [← h1]; exact I3.ok.frames
 have M7 : zP B (i0 :: jl) e cls pl s'.heap := by rw [← h1]; exact fb
 refine wM hfr h3 M7 fun h5 a0 hH u5 QC => ?_
 obtain ⟨k1, k2, k3, oe, vs, T, oT, ts, he, hcls, hd, hv1, Kh, Ji, hT, yb, QD⟩ := hH
 have OE : h5.FunFrames B X.stack := by rw [h1]; exact k3
 obtain ⟨m, hm, _⟩ := id I'.loc
 have OF : h5.Ns C m := u5.ns hm
 refine M9 _ ⟨m, OF, fun h6 sb cenv _ => ?_⟩
 obtain ⟨oC, TV, TX, QF, QJ, _⟩ := id OF
 have Ey : ∀ {b : Addr} {o : Obj} {ws : Array Value}, h5.get? b = some o → o.data = .fields ws → b ≠ C := fun {b o ws} q d z => by
  rw [z, QF] at q; cases q; rw [QJ] at d; cases d
 have Na := (sb.2 e (Ey he hd)).trans he
 have OG := (sb.2 T (Ey hT yb)).trans hT
 have OH : 3 < ts.size := (Array.getElem?_eq_some_iff.mp QD).1
 unfold passOn setFlight
 refine wpAny_bind (wpAny_field Na hd hv1 ?_)
 rw [if_neg (show ¬ ((Value.ref T == Value.none) = true) by simp)]
 have fin : X.xe (.ref e) { s' with heap := h6.update T (Obj.mapFields (·.setIfInBounds 3 (cenv.frame.elim .none fun f => rawInt f))) } := by
  have Ky : ∀ b, b ≠ T → (h6.update T (Obj.mapFields (·.setIfInBounds 3 (cenv.frame.elim .none fun f => rawInt f)))).get? b = h6.get? b := fun b hb => Heap.get?_update_other _ _ (Ne.symm hb)
  have yc : ∀ b, b ≠ T → b ≠ C → (h6.update T (Obj.mapFields (·.setIfInBounds 3 (cenv.frame.elim .none fun f => rawInt f)))).get? b = h5.get? b := fun b hb hb2 => (Ky b hb).trans (sb.2 b hb2)
  generalize QK : h6.update T (Obj.mapFields (·.setIfInBounds 3 (cenv.frame.elim .none fun f => rawInt f))) = h7 at Ky yc
  have QL : h7.get? T = some (Obj.mapFields (·.setIfInBounds 3 (cenv.frame.elim .none fun f => rawInt f)) oT) := by rw [← QK]; exact Heap.get?_update_self _ OG (Obj.isFreed_of_fields (Obj.data_mapFields yb _))
  have QM : ∀ b o, B.get? b = some o → b ≠ T := fun b o q z => by rw [z, Kh] at q; cases q
  have LX : ∀ b o, (B.hide C).get? b = some o → h7.get? b = some o := fun b o q => by
   have q' := Heap.of_hide q
   have nC : b ≠ C := fun z => by rw [z, Heap.hide_self] at q; cases q
   rw [yc b (QM b o q') nC]
   exact k1 b o q'
  have hide : ∀ b o, b ≠ C → B.get? b = some o → (B.hide C).get? b = some o := fun b o z q => (Heap.hide_ne B z).trans q
  have Iu : ∀ b o, s3.heap.get? b = some o → b ≠ C := fun b o q => by rw [hC]; exact Nat.ne_of_lt (Heap.lt_size q)
  have Kz : m7 X.prog X.w H' (B.hide C) := ye hok fun b o n q => hide b o (fun z => n (by rw [z]; exact I'.free)) q
  have Kp : ∀ b, b ∉ frs X.stack → b ∉ X.fs := fun b hb z => hb (by
   rcases I3.ok.stk with q | ⟨q, _⟩
   ·rw [q]; exact z
   ·rw [q]; unfold frs; rw [List.filterMap_cons]; split
    ·exact z
    ·exact List.mem_cons_of_mem _ z)
  have slot : ∀ b o, s3.heap.get? b = some o → b ∈ frs X.stack → ∃ sl, h7.get? b = some { o with slots := sl } := fun b o q hb => by
   obtain ⟨_, o', q', hnf⟩ := I3.stack.mem hb
   rw [q] at q'; cases q'
   obtain ⟨sl, e1⟩ := I'.base.slot b o q (I3.pT b hb) hb fun z => (I'.ok.xO b z) hb
   obtain ⟨Jw, e2⟩ := u5 b _ e1 hnf
   refine ⟨Jw, ?_⟩
   rw [yc b (fun z => by rw [z, hT] at e2; cases e2; exact hnf _ yb) (Iu b o q)]
   exact e2
  have un : Un (frs X.stack) fp HD H' s3.heap h7 := ⟨fun b o q n hb hx => LX b o (hide b o (Iu b o q) (vL.keep b o q n hb hx)), fun b o q n hb hx => slot b o q hb, fun b o q n hx => I'.base.free b o q n hx, fun b o q hx => by
   by_cases hb : b ∈ frs X.stack
   ·obtain ⟨sl, z⟩ := slot b o q hb
    exact ⟨_, z⟩
   ·obtain ⟨o', z⟩ := vL.there b o q hb hx
    exact ⟨o', LX b o' (hide b o' (Iu b o q) z)⟩, I'.base.tups, I'.base.mZ, I'.base.m9⟩
  have I7 : Inv X pins σ H' { s' with heap := h7 } := I3.Am (ch := fp) I'.os un (Kz.kept LX) I'.bare fun b hb => by
   obtain ⟨g0, g1, g2, g3, g4, g5⟩ := (f3 b hb).1
   exact ⟨g3, g1, g4, g5⟩
  have OI : ∀ b o, X.s₀.heap.get? b = some o → b ∉ X.ex → b ∉ fp := fun b o q hx hb => by
   obtain ⟨g0, g1, g2, g3, g4, g5⟩ := (f3 b hb).1
   rcases g3 with z | z
   ·exact hx z
   ·exact absurd (Nat.lt_of_lt_of_le (Heap.lt_size q) z) (Nat.lt_irrefl _)
  refine Ir pins σ H' _ e cls pl c I7 ⟨B.hide C, ⟨LX, ?_, ?_, .inr ⟨a0, _, oe, vs, T, _, _, ?_, hcls, hd, hv1, ?_, Ji, QL, Obj.data_mapFields yb _, by simp [OH]; rfl⟩, QC.imp fun od z => ⟨(yc e (Ne.symm Ji) (Ey he hd)).trans z.1, z.2⟩⟩, Kz, ⟨fun b o q n hb hx => ?_, fun b o q hb hx => ?_, fun p hp => ?_⟩⟩ hc ee
  ·cases q : (B.hide C).get? e with
   | none => rfl
   | some o => have := Heap.of_hide q; rw [k2] at this; cases this
  ·refine rP OE (fun b hb o q hnf => ?_) fun b hb => ?_
   ·refine ⟨o, ?_, rfl⟩
    show h7.get? b = some o
    rw [yc b (fun z => by rw [z, hT] at q; cases q; exact hnf _ yb) ?_]
    ·exact q
    ·obtain ⟨_, o', q', _⟩ := I3.stack.mem hb
     exact Iu b o' q'
   ·cases q : (B.hide C).get? b with
    | none => rfl
    | some o => have := Heap.of_hide q; rw [(OE.mem hb).1] at this; cases this
  ·exact (yc e (Ne.symm Ji) (Ey he hd)).trans he
  ·cases q : (B.hide C).get? T with
   | none => rfl
   | some o => have := Heap.of_hide q; rw [Kh] at this; cases this
  ·have q3 := I3.base.keep b o q n (Kp b hb) hx
   exact hide b o (Iu b o q3) (vL.keep b o q3 (I3.base.free b o q n hx) hb (OI b o q hx))
  ·obtain ⟨o', q3⟩ := I3.base.there b o q hx
   obtain ⟨OJ, z⟩ := vL.there b o' q3 hb (OI b o q hx)
   exact ⟨OJ, hide b OJ (Iu b o' q3) z⟩
  ·exact hide _ _ (Iu _ _ (I3.pin p (List.mem_append_left _ hp)).1) (vL.pins p (List.mem_append_left _ hp))
 first
  | (refine wpAny_bind (wpAny_pure ?_); refine wpAny_bind (wpAny_bind (wpAny_field Na hd hv1 ?_)))
  | refine wpAny_bind (wpAny_bind (wpAny_field Na hd hv1 ?_))
 rw [if_pos (show (Value.ref T != Value.none) = true by simp)]
 exact wpAny_setField OG yb OH (wpAny_throw fin)
theorem tV {Q : VK} {J : It} {it : Addr} {tn : Nat → Heap → Prop} {RR : Value → Addr → Result → Shared → Prop} {EE : eU} (Ir : lW X EE) (hst : ∃ i0 jl L, X.stack = i0 :: jl ∧ X.env.frame = i0.frame ∧ i0.frame = some L) (S : cW X.env.scope X.N scope xs ks) (how : Own X scope xs ks tg ow) (hc : X.calm = true) (I : Inv X pins σ H s)
  (T : Turn X.prog X.w X.K tg J fp it tn) (st : tn 0 s.heap) (hf : ∀ b ∈ fp, pV X pins H b)
  (hb : ∀ (cl : List (Str × Addr)) (C : Addr) (pins : List (Addr × Obj)) (s0 : Shared) (H0 : Hp) (fp : List Addr) (E : Value → Shared → Prop), lW (rO X scope cl xs C pins s0 H0 fp E) (fun c _ H' => EE c σ H') → CT (rO X scope cl xs C pins s0 H0 fp E) ifs tt ∧ PE (rO X scope cl xs C pins s0 H0 fp E) elt te)
  (hw : ∀ D, H D = none → ∃ W : Nat → Nat → Hp → Prop, (∃ m, W 0 m (upd H D (.lst []))) ∧ ∀ i m H, W i m H →
   (J.stop i H ∧ Q (.ref D) H) ∨ (J.go i H ∧ ∀ x H', J.xK i H x H' → ∃ vs, ow x H' vs ∧ tt (vs.map some ++ mask ks σ) H' fun b H2 => if b = true then te (vs.map some ++ mask ks σ) H2 fun v H3 => ∃ ys, H3 D = some (.lst ys) ∧ ys.length < sizeLine ∧ ∃ m', m' < m ∧ W (i + 1) m' (upd H3 D (.lst (ys ++ [v]))) else ∃ m', m' < m ∧ W (i + 1) m' H2))
  (hRR : ∀ (D C : Addr) (s' : Shared) (H' : Hp) (m : Str → Option Value), Inv X pins σ H' s' → s'.heap.Ns C m → H' C = none → C ≠ X.env.locals → X.s₀.heap.objs.size ≤ C → (∀ x c, X.env.cells.lookup x = some c → c ≠ C) → (∀ p ∈ X.pn ++ pins, p.1 ≠ C) → Q (.ref D) H' → RR (.ref D) C (.ok .next) s')
  (M9 : ∀ (acc : Value) (C e : Addr) (s'' : Shared), (∃ m, s''.heap.Ns C m ∧ ∀ h', Heap.SameBut C s''.heap h' → ∀ cenv : Env, cenv.locals = C → wpAny (model X.prog X.w) X.A (passOn "comprehension.variables-let-go" (.ref e) cenv : Sem Value) (fun _ _ => False) X.xe { s'' with heap := h' }) → RR acc C (.error (.ref e)) s'') :
  wpAny (model X.prog X.w) X.A (newList []) (fun acc s₃ => wpAny (model X.prog X.w) X.A (newFunctionEnv scope X.env.globals (iM X.env scope.names []) [] X.env.qual none .none (some X.env)) (fun cenv s₄ =>
   codeAny (model X.prog X.w) X.A (.compStart (.ListComp elt [⟨tg, iter, ifs, 0⟩] scope pos) 0 (.ref it) acc { cenv with scope := relabel scope X.env }) (RR acc cenv.locals) s₄) E s₃) E s := by
 refine wpAny_newObj_type (wpAny_newFunctionEnv S.Dg (by intro y hy; simp at hy) (fun h₁ KA KC => ?_) S.kind)
 have I3 : Inv X pins σ (upd H s.heap.objs.size (.lst [])) { s with heap := s.heap.push { cls := .type "list", dict := none, data := .seq ([] : List Value).toArray } } :=
  I.laid (t' := s.toks) (fun b o e => Heap.get?_push_of_some _ e) (Nat.le_refl _) ⟨Nat.zero_le _, [], 0, .nil, Heap.get?_push_size _ rfl⟩
 have hfree := I.hok.fresh (Nat.le_refl s.heap.objs.size)
 generalize OL : ({ s with heap := s.heap.push { cls := .type "list", dict := none, data := .seq ([] : List Value).toArray } } : Shared) = s3 at I3 KA KC ⊢
 have hsz : s3.heap.objs.size = s.heap.objs.size + 1 := by rw [← OL]; exact Heap.size_push ..
 have KD : ∀ b o, s.heap.get? b = some o → s3.heap.get? b = some o := fun b o e => by rw [← OL]; exact Heap.get?_push_of_some _ e
 have KG : ∀ b ∈ fp, b < s.heap.objs.size := fun b hb' => by
  obtain ⟨o, e, _⟩ := T.obj 0 _ st b hb'
  exact Heap.lt_size e
 have f3 : ∀ b ∈ fp, pV X pins (upd H s.heap.objs.size (.lst [])) b ∧ b < s3.heap.objs.size := fun b hb' =>
  ⟨⟨by rw [aK (Nat.ne_of_lt (KG b hb'))]; exact (hf b hb').1, (hf b hb').2⟩, by rw [hsz]; exact Nat.lt_succ_of_lt (KG b hb')⟩
 have Dj : ∀ b o, s3.heap.get? b = some o → h₁.get? b = some o := fun b o e => KC.extBut b o (Nat.ne_of_lt (Heap.lt_size e)) (Heap.get?_push_of_some _ e)
 obtain ⟨W, ⟨m0, w0⟩, turn⟩ := hw s.heap.objs.size hfree
 generalize hX : rO X scope (iM X.env scope.names []) xs s3.heap.objs.size pins s3 (upd H s.heap.objs.size (.lst [])) fp (notedBy (model X.prog X.w) X.A (compEnvC scope (iM X.env scope.names []) s3.heap.objs.size X.env) fun e s' => RR (.ref s.heap.objs.size) s3.heap.objs.size (.error e) s') = Xc
 have I4 : Inv Xc [] (List.replicate xs.length none ++ mask ks σ) (upd H s.heap.objs.size (.lst [])) { s3 with heap := h₁, toks := s3.toks + ([] : List (Str × Value)).length } := by
  rw [← hX]
  exact zR S I3 f3 (by simpa using KA) Dj _
 have Ek : CT Xc ifs tt ∧ PE Xc elt te := by
  rw [← hX]
  exact hb _ _ _ _ _ _ _ fun gC σ' H' s' e cls pl c I' fx hc ee => zT (RE := fun e s' => RR (.ref s.heap.objs.size) s3.heap.objs.size (.error e) s') (D := s.heap.objs.size) Ir hst I3 rfl f3 (fun s'' => M9 _ _ e s'') I' fx hc ee
 have yi : Xc.prog = X.prog := by rw [← hX]; rfl
 have ew : Xc.w = X.w := by rw [← hX]; rfl
 have eK : Xc.K = X.K := by rw [← hX]; rfl
 have eA : Xc.A = X.A := by rw [← hX]; rfl
 have Gh : Xc.calm = true := by rw [← hX]; exact hc
 have Nb : Xc.xe = notedBy (model X.prog X.w) X.A Xc.env fun e s' => RR (.ref s.heap.objs.size) s3.heap.objs.size (.error e) s' := by rw [← hX]; rfl
 have Iv : Xc.env = compEnvC scope (iM X.env scope.names []) s3.heap.objs.size X.env := by rw [← hX]; rfl
 have QN : Xc.stack = X.stack := by rw [← hX]; rfl
 have Nc : ∀ {H' : Hp}, (∀ b ∈ fp, H' b = none) → ∀ b ∈ fp, pV Xc [] H' b := fun {H'} hn b hb' => by
  obtain ⟨g0, g1, g2, g3, g4, g5⟩ := (f3 b hb').1
  rw [← hX]
  refine ⟨hn b hb', Nat.ne_of_lt (f3 b hb').2, fun z => (List.mem_cons.mp (I3.ng b z)).elim g1 g2, .inl hb', fun y c e => g4 y c (tS scope.names [] (fun y c e => by simp at e) y c e), fun p hp => g5 p ?_⟩
  have : p ∈ (X.pn ++ pins) ++ [] := hp
  simpa using this
 have fin : ∀ (s' : Shared) (H' : Hp) (a0 : List (Option V)), Inv Xc [] (a0 ++ mask ks σ) H' s' → Q (.ref s.heap.objs.size) H' → RR (.ref s.heap.objs.size) s3.heap.objs.size (.ok .next) s' := fun s' H' a0 I' q => by
  have hloc := I'.loc
  obtain ⟨m, hm, _⟩ := hloc
  have hC : H' s3.heap.objs.size = none := by have := I'.free; rw [Iv] at this; exact this
  have hU : Un (frs X.stack) fp (upd H s.heap.objs.size (.lst [])) H' s3.heap s'.heap := by
   have := I'.base
   rw [← hX] at this
   exact this
  have hos : s'.os = s3.os := by have := I'.os; rw [← hX] at this; exact this
  have Nd : m7 X.prog X.w H' s'.heap := by have := I'.hok; rw [← hX] at this; exact this
  have I5 : Inv X pins σ H' s' := I3.Am hos hU Nd I'.bare fun b hb' => by
   obtain ⟨g0, g1, g2, g3, g4, g5⟩ := (f3 b hb').1
   exact ⟨g3, g1, g4, g5⟩
  refine hRR _ _ s' H' m I5 (by rw [Iv] at hm; exact hm) hC (Nat.ne_of_gt I3.lt) (Nat.le_trans I3.sz (Nat.le_refl _)) (fun y c e z => ?_) (fun p hp z => ?_) q
  ·obtain ⟨v, hv⟩ := I3.cell y c e
   exact absurd hv.lt (by rw [z]; exact Nat.lt_irrefl _)
  ·exact absurd (Heap.lt_size (I3.pin p hp).1) (by rw [z]; exact Nat.lt_irrefl _)
 have loop : codeAny (model X.prog X.w) X.A (.compLoop (.ListComp elt [⟨tg, iter, ifs, 0⟩] scope pos) 0 (.ref it) (.ref s.heap.objs.size) Xc.env) (RR (.ref s.heap.objs.size) s3.heap.objs.size)
   { s3 with heap := h₁, toks := s3.toks + ([] : List (Str × Value)).length } := by
  refine wR (fun n s' => ∃ i a0 H', a0.length = xs.length ∧ Inv Xc [] (a0 ++ mask ks σ) H' s' ∧ tn i s'.heap ∧ (∀ b ∈ fp, H' b = none) ∧ W i n H') ?_ m0 ⟨0, List.replicate xs.length none, _, by simp, I4, T.keep 0 _ _ st fun b hb' o e => Dj b o (KD b o e), fun b hb' => (f3 b hb').1.1, w0⟩
  rintro n s5 ⟨i, a0, H5, QU, I5, Je, LL, w5⟩
  rcases turn i n H5 w5 with ⟨stop, q⟩ | ⟨go, step⟩
  ·have hd := T.done Xc yi ew eK Gh i [] s5 _ H5 (fun _ _ => False) I5 (Nc LL) Je stop
   rw [eA] at hd
   refine wpAny_mono hd (fun r s6 hr => ?_) (fun _ _ z => False.elim z)
   obtain ⟨rfl, I6⟩ := hr
   exact fin s6 H5 a0 I6 q
  ·have hd := T.item Xc yi ew eK Gh i [] s5 _ H5 (fun _ _ => False) I5 (Nc LL) Je go
   rw [eA] at hd
   refine wpAny_mono hd (fun r s6 hr => ?_) (fun _ _ z => False.elim z)
   obtain ⟨u, rfl, h6⟩ := hr
   refine wpAny_mono h6 (fun _ s7 hq => ?_) (fun _ _ z => False.elim z)
   obtain ⟨v, H7, I7, r7, y7, Nf, QV⟩ := hq
   obtain ⟨vs, hvs, step⟩ := step v H7 y7
   have QX : Inv Xc (qT fp s7.heap) (a0 ++ mask ks σ) H7 s7 := by
    have := Inv.pinned (pins := []) I7 (Nc QV) (T.obj _ _ Nf)
    simpa using this
   have back : ∀ {σ' : L2.St} {H' : Hp} {s' : Shared}, Inv Xc (qT fp s7.heap) σ' H' s' → Inv Xc [] σ' H' s' ∧ tn (i + 1) s'.heap ∧ ∀ b ∈ fp, H' b = none := fun {σ' H' s'} I' => by
    refine ⟨I'.wB fun p hp => absurd hp (by simp), T.keep _ _ _ Nf fun b hb' o e => (I'.pin (b, o) (List.mem_append_right _ (lS hb' e))).1, fun b hb' => ?_⟩
    obtain ⟨o, e, d⟩ := T.obj _ _ Nf b hb'
    exact (I'.pin (b, o) (List.mem_append_right _ (lS hb' e))).2.1
   refine how _ _ _ _ _ _ _ Xc σ a0 v vs u H7 s7 _ _ _ hX.symm QU QX r7 hvs fun OM s8 QY => ?_
   have ht := Ek.1 _ s8 _ H7 _ QY step
   rw [yi, ew, eA, Nb] at ht
   refine wpAny_mono ht (fun QZ s9 h9 => ?_) (fun _ _ z => z)
   obtain ⟨H9, I9, q9⟩ := h9
   cases QZ with
   | false =>
    rw [if_neg Bool.false_ne_true] at q9 ⊢
    obtain ⟨m', hm', w'⟩ := q9
    obtain ⟨Q0, Q2, Q3⟩ := back I9
    exact ⟨m', hm', i + 1, vs.map some, H9, by simpa using OM, Q0, Q2, Q3, w'⟩
   | true =>
    rw [if_pos rfl] at q9 ⊢
    have he := Ek.2 _ s9 _ H9 _ I9 q9
    rw [yi, ew, eA, Nb] at he
    refine wpAny_mono he (fun y Q4 Ng => ?_) (fun _ _ z => z)
    obtain ⟨yv, Q5, Q6, Q7, ys, hD, hlen, m', hm', w'⟩ := Ng
    have ha := vF (X := Xc) _ Q4 _ Q5 (.ref s.heap.objs.size) [yv] (.ref s.heap.objs.size) [y] (fun _ H' => ∃ m', m' < n ∧ W (i + 1) m' H') Q6 rfl (.cons Q7 .nil) ⟨_, ys, yv, rfl, rfl, hD, hlen, m', hm', w'⟩
    rw [yi, ew, eA, Nb] at ha
    refine wpAny_mono ha (fun _ TY h11 => ?_) (fun _ _ z => z)
    obtain ⟨_, Q8, Q9, _, Ra, Nh, w''⟩ := h11
    obtain ⟨Ni, Nj, Nk⟩ := back Q9
    exact ⟨Ra, Nh, i + 1, vs.map some, Q8, by simpa using OM, Ni, Nj, Nk, w''⟩
 rw [Iv] at loop
 exact codeAny_compStart_list loop (T.self X.A 0 _ _ _ (T.keep 0 _ _ st fun b hb' o e => Dj b o (KD b o e)) loop)
theorem Fd {EE : eU} {tt : L2.St → TT} {te : L2.St → TE} (Ir : lW X EE) (hst : ∃ i0 jl L, X.stack = i0 :: jl ∧ X.env.frame = i0.frame ∧ i0.frame = some L) (S : cW X.env.scope X.N scope xs ks) (how : Own X scope xs ks tg ow) (hc : X.calm = true) (hi : PI X tg iter wi)
  (hb : ∀ (σ : L2.St) (cl : List (Str × Addr)) (C : Addr) (pins : List (Addr × Obj)) (s0 : Shared) (H0 : Hp) (fp : List Addr) (E : Value → Shared → Prop), lW (rO X scope cl xs C pins s0 H0 fp E) (fun c _ H' => EE c σ H') → CT (rO X scope cl xs C pins s0 H0 fp E) ifs (tt σ) ∧ PE (rO X scope cl xs C pins s0 H0 fp E) elt (te σ))
  (hs : ∀ x, foldedSetIterable iter X.env x = pure x := by intro _; rfl) : PE X (.ListComp elt [⟨tg, iter, ifs, 0⟩] scope pos) (fun σ => Di wi ks ow (tt σ) (te σ) σ) := by
 intro pins s σ H Q I h
 rw [eval_ListComp]
 refine wpAny_comprehension_free (use := none) rfl hs (ou fun y hy hfr => I.ok.has y.1 (S.free y hy hfr)) S.kind S.names (gm (hi pins s σ H _ I h) fun v s1 h1 => gm h1 fun itv s2 h2 => ?_)
 obtain ⟨it, fp, tn, J, H2, rfl, I2, T, st2, f2, q⟩ := h2
 refine tV (RR := fun acc C => compPost (model X.prog X.w) X.A X.xe none (EP X pins σ Q) acc C) Ir hst S how hc I2 T st2 f2 (hb σ) q ?_ (fun _ _ _ _ z => z)
 intro D C s' H' m I' hn hC h1 h2 h3 h4 q'
 refine ⟨m, hn, fun h' sb => ?_⟩
 exact ⟨.ref D, H', I'.turned (t' := s'.toks) (fun b o hb e => (sb.2 b hb).trans e) hC h1 (.inr h2) h3 h4, rfl, q'⟩
theorem Fe {EE : eU} {tt : L2.St → TT} {te : L2.St → TE} (Ir : lW X EE) (hst : ∃ i0 jl L, X.stack = i0 :: jl ∧ X.env.frame = i0.frame ∧ i0.frame = some L) {y : Str} {i : Nat} {py spos : Pos} (S : cW X.env.scope X.N scope xs ks) (how : Own X scope xs ks tg ow) (hc : X.calm = true) (hN : X.N.Nodup) (hi : PI X tg iter wi) (hy : X.N[i]? = some y) (hl : X.env.scope.names.lookup y = some .local)
  (hsw : swapsWith (.ListComp elt [⟨tg, iter, ifs, 0⟩] scope pos) (some (.Name y py)) spos.line X.env = pure true)
  (hb : ∀ (σ : L2.St) (cl : List (Str × Addr)) (C : Addr) (pins : List (Addr × Obj)) (s0 : Shared) (H0 : Hp) (fp : List Addr) (E : Value → Shared → Prop), lW (rO X scope cl xs C pins s0 H0 fp E) (fun c _ H' => EE c σ H') → CT (rO X scope cl xs C pins s0 H0 fp E) ifs (tt σ) ∧ PE (rO X scope cl xs C pins s0 H0 fp E) elt (te σ))
  (hs : ∀ x, foldedSetIterable iter X.env x = pure x := by intro _; rfl) : PS X (.Assign [.Name y py] (.ListComp elt [⟨tg, iter, ifs, 0⟩] scope pos) spos) (G7 (fun σ => Di wi ks ow (tt σ) (te σ) σ) (Ao i)) := by
 intro pins s σ H Dd I h
 rw [exec_Assign_Name_used _ _ _ _ hsw]
 refine wpAny_bind (wpAny_standAt (wpAny_bind ?_))
 show wpAny _ X.A (do let _ ← comprehension (.ListComp elt [⟨tg, iter, ifs, 0⟩] scope pos) scope X.env _ (newList []) false (eval iter X.env) (some (assign (.Name y py) X.env))) _ _ s
 refine wpAny_bind (wpAny_mono (wpAny_comprehension_free (use := some (assign (.Name y py) X.env)) (Q := fun _ s' => SP X pins Dd .next s') rfl hs (ou fun y hy hfr => I.ok.has y.1 (S.free y hy hfr)) S.kind S.names
  (gm (hi pins s σ H _ I h) fun v s1 h1 => gm h1 fun itv s2 h2 => ?_)) (fun _ s' hq => wpAny_pure (wpAny_pure hq)) fun _ _ e => e)
 obtain ⟨it, fp, tn, J, H2, rfl, I2, T, st2, f2, q⟩ := h2
 refine tV (Q := fun v H' => Dd.nx (σ.set i (some v)) H') (RR := fun acc C => compPost (model X.prog X.w) X.A X.xe (some (assign (.Name y py) X.env)) (fun _ s' => SP X pins Dd .next s') acc C) Ir hst S how hc I2 T st2 f2 (hb σ) q ?_ (fun _ _ _ _ z => z)
 intro D C s' H' m I' hn hC h1 h2 h3 h4 q'
 show wpAny _ X.A (assign (.Name y py) X.env (.ref D)) _ _ s'
 refine wpAny_assign_Name (vz I' hN hy (.inl hl) (v := .ref D) (u := .ref D) rfl (fun s'' Rb sb => ?_) (.inr hl))
 obtain ⟨a, sb, ha⟩ := sb
 have hne : C ≠ a := by
  rcases ha with e | e
  ·rw [e]; exact h1
  ·exact fun z => h3 y a e z.symm
 refine ⟨m, hn.sameBut sb hne, fun h'' sb' => ?_⟩
 exact ⟨_, H', Rb.turned (t' := s''.toks) (fun b o hb e => (sb'.2 b hb).trans e) hC h1 (.inr h2) h3 h4, q'⟩
end
end L3
end
section
set_option Elab.async false
set_option linter.all false
set_option maxRecDepth 100000
namespace L3
open PySem PySem.Spec L2
noncomputable def oN : D → Option (List D) := fun d => some [d]
noncomputable def oT (n : Nat) : D → Option (List D)
 | .tup xs => if xs.length = n then some xs else none
 | _ => none
noncomputable def wU (K : PySem.W.Frag) (mg : Str → Option Value) (ow : V → Hp → List V → Prop) (gO : D → Option (List D)) : Prop :=
 ∀ (ρ : List Addr) (H : Hp) (d : D) (v : V) (os : List D), Rep K mg ρ H d v → gO d = some os → ∃ vs, ow v H vs ∧ aE K mg ρ H os vs
theorem gp {K : PySem.W.Frag} {mg : Str → Option Value} : wU K mg uQ oN := fun ρ H d v os r e => by
 cases e
 exact ⟨[v], rfl, .cons r .nil⟩
noncomputable def yj (K : PySem.W.Frag) (mg : Str → Option Value) (H H' : Hp) (ρ : List Addr) : Prop := d9 K H H' ρ ρ ∧ ∀ G, kc K mg H ρ G → kc K mg H' ρ G
theorem yj.refl {K : PySem.W.Frag} {mg : Str → Option Value} {H : Hp} {ρ : List Addr} : yj K mg H H ρ := ⟨.refl, fun _ h => h⟩
theorem yj.new {K : PySem.W.Frag} {mg : Str → Option Value} {H : Hp} {ρ : List Addr} {p : Addr} {o : HO} (hp : H p = none) : yj K mg H (upd H p o) ρ := ⟨gD hp ρ, fun _ h => h.new hp⟩
noncomputable def fZ (gO : D → Option (List D)) (ks : List Bool) (tt : DS → M Bool) (te : DS → M D) (n : Nat) (d : D) (τ : DS) (G : DH) : Out Unit := match gO d with
 | none => .stuck
 | some os => match tt (os.map some ++ mask ks τ) G with
 | .ok true G1 => match te (os.map some ++ mask ks τ) G1 with
  | .ok v G2 => match G2[n]? with
   | some (.lst ys) => if ys.length < sizeLine then .ok () (G2.set n (.lst (ys ++ [v]))) else .stuck
   | _ => .stuck
  | .dG c G2 => .dG c G2
  | .stuck => .stuck
 | .ok false G1 => .ok () G1
 | .dG c G1 => .dG c G1
 | .stuck => .stuck
noncomputable def fG (gO : D → Option (List D)) (ks : List Bool) (tt : DS → M Bool) (te : DS → M D) (n : Nat) : List D → DS → DH → Out D
 | [], _, G => .ok (.obj n) G
 | d :: r, τ, G => match fZ gO ks tt te n d τ G with
  | .ok _ G' => fG gO ks tt te n r τ G'
  | .dG c G' => .dG c G'
  | .stuck => .stuck
noncomputable def oz (gO : D → Option (List D)) (ks : List Bool) (tt : DS → M Bool) (te : DS → M D) (n src : Nat) : Nat → Nat → DS → DH → Out D
 | 0, _, _, _ => .stuck
 | f + 1, k, τ, G => match G[src]? with
  | some (.lst xs) => match xs[k]? with
   | none => .ok (.obj n) G
   | some d => match fZ gO ks tt te n d τ G with
    | .ok _ G' => oz gO ks tt te n src f (k + 1) τ G'
    | .dG c G' => .dG c G'
    | .stuck => .stuck
  | _ => .stuck
noncomputable def jZ (gO : D → Option (List D)) (ks : List Bool) (m : DS → M D) (tt : DS → M Bool) (te : DS → M D) : DS → M D := fun τ => (m τ).bind fun d G => match d with
 | .obj k => match G[k]? with
  | some (.lst xs) => oz gO ks tt te G.length k (xs.length + 1) 0 τ (G ++ [.lst []])
  | _ => .stuck
 | .tup xs => fG gO ks tt te G.length xs τ (G ++ [.lst []])
 | .con xs => fG gO ks tt te G.length xs τ (G ++ [.lst []])
 | .str z => fG gO ks tt te G.length (z.cps.toList.map fun c => .str ⟨#[c]⟩) τ (G ++ [.lst []])
 | _ => .stuck
section
variable {X : Cx} {EE : eU} {gO : D → Option (List D)} {ow : V → Hp → List V → Prop} {xs : List Str} {tg : Expr} {ks : List Bool} {tt : DS → M Bool} {te : DS → M D}
theorem BP {K : PySem.W.Frag} {mg : Str → Option Value} {σ : L2.St} {H : Hp} {τ : DS} {ρ : List Addr} {os : List D} {vs : List V} (h : se K mg H ρ σ τ) (r : aE K mg ρ H os vs) : se K mg H ρ (vs.map some ++ mask ks σ) (os.map some ++ mask ks τ) := by
 have hl := r.length
 refine ⟨by simp [kq, h.1, hl], fun i e he => ?_⟩
 by_cases hi : i < os.length
 ·rw [List.getElem?_append_left (by simpa using hi), List.getElem?_map] at he
  cases q : os[i]? with
  | none => rw [q] at he; cases he
  | some d =>
   rw [q] at he; cases he
   obtain ⟨v, e1, r1⟩ := r.get q
   exact ⟨v, by rw [List.getElem?_append_left (by simp; omega), List.getElem?_map, e1]; rfl, r1⟩
 ·rw [List.getElem?_append_right (by simp; omega)] at he
  obtain ⟨h1, h2⟩ := nv he
  obtain ⟨w, e1, r1⟩ := h.2 _ e h2
  refine ⟨w, ?_, r1⟩
  rw [List.getElem?_append_right (by simp; omega)]
  have := AG h1 e1
  simpa [hl] using this
noncomputable def Cn (EE : eU) (σ : L2.St) : eU := fun c _ H' => EE c σ H'
theorem vN (hO : wU X.K X.mg ow gO) {W : Hp → Prop} {n : Nat} {p : Addr} {σ : L2.St} {H : Hp} {τ : DS} {ρ : List Addr} {G : DH} {d : D} {v : V} (ab : Ab X.K X.mg σ H τ ρ G) (r : Rep X.K X.mg ρ H d v) (hn : ρ[n]? = some p)
  (hW : match fZ gO ks tt te n d τ G with
   | .stuck => False
   | .ok _ G' => ∀ H' ρ', d9 X.K H H' ρ ρ' → Ab X.K X.mg σ H' τ ρ' G' → W H'
   | .dG c G' => ∀ H' ρ', d9 X.K H H' ρ ρ' → Ab X.K X.mg σ H' τ ρ' G' → EE c σ H') :
  ∃ vs, ow v H vs ∧ liftT X.K X.mg (Cn EE σ) tt (vs.map some ++ mask ks σ) H fun b H2 => if b = true then e7 X.K X.mg (Cn EE σ) te (vs.map some ++ mask ks σ) H2 fun u H3 => ∃ ys, H3 p = some (.lst ys) ∧ ys.length < sizeLine ∧ W (upd H3 p (.lst (ys ++ [u]))) else W H2 := by
 unfold fZ at hW
 cases qo : gO d with
 | none => rw [qo] at hW; exact hW.elim
 | some os =>
 rw [qo] at hW
 dsimp only at hW
 obtain ⟨us, HK, Rc⟩ := hO ρ H d v os r qo
 refine ⟨us, HK, ?_⟩
 refine ⟨_, ρ, G, ⟨BP ab.st Rc, ab.hp⟩, ?_⟩
 cases q : tt (os.map some ++ mask ks τ) G with
 | stuck => rw [q] at hW; exact hW
 | dG c G1 => rw [q] at hW; exact fun H' ρ' f cG => hW H' ρ' f ⟨ab.st.mono f, cG.hp⟩
 | ok b G1 =>
  rw [q] at hW
  intro H1 ρ1 f1 wJ
  cases b with
  | false =>
   rw [if_neg Bool.false_ne_true]
   exact hW H1 ρ1 f1 ⟨ab.st.mono f1, wJ.hp⟩
  | true =>
   rw [if_pos rfl]
   dsimp only at hW
   refine ⟨_, ρ1, G1, wJ, ?_⟩
   cases q2 : te (os.map some ++ mask ks τ) G1 with
   | stuck => rw [q2] at hW; exact hW
   | dG c G2 => rw [q2] at hW; exact fun H' ρ' f cG => hW H' ρ' (f1.trans f) ⟨ab.st.mono (f1.trans f), cG.hp⟩
   | ok u G2 =>
    rw [q2] at hW
    dsimp only at hW
    intro w H2 ρ2 f2 ef r2
    cases q3 : G2[n]? with
    | none => rw [q3] at hW; exact hW.elim
    | some o =>
     cases o with
     | dead => first | (rw [q] at ok; exact ok.elim) | (rw [q] at aU; exact aU.elim) | (rw [q3] at hW; exact hW.elim) | (rw [q] at e; cases e; done) | (rw [g] at ok; exact ok.elim) | (rw [g] at q; cases q; done) | (rw [g] at h; cases h; done) | exact ok.elim
     | dct kv => first | (rw [q] at ok; exact ok.elim) | (rw [q] at aU; exact aU.elim) | (rw [q3] at hW; exact hW.elim) | (rw [q] at e; cases e; done) | (rw [g] at ok; exact ok.elim) | (rw [g] at q; cases q; done) | (rw [g] at h; cases h; done) | exact ok.elim
     | pB fz kv => first | (rw [q] at ok; exact ok.elim) | (rw [q] at aU; exact aU.elim) | (rw [q3] at hW; exact hW.elim) | (rw [q] at e; cases e; done) | (rw [g] at ok; exact ok.elim) | (rw [g] at q; cases q; done) | (rw [g] at h; cases h; done) | exact ok.elim
     | lst ys =>
      rw [q3] at hW
      dsimp only at hW
      by_cases hl : ys.length < sizeLine
      ·rw [if_pos hl] at hW
       dsimp only at hW
       obtain ⟨p', vs, e1, e2, rs⟩ := ef.hp.lst q3
       have LY := f1.trans f2
       rw [LY.get hn] at e1; cases e1
       refine ⟨vs, e2, by rw [← rs.length]; exact hl, ?_⟩
       have f3 : d9 X.K H2 (upd H2 p (.lst (vs ++ [w]))) ρ2 ρ2 := sL e2 ρ2
       exact hW _ ρ2 (LY.trans f3) ⟨ab.st.mono (LY.trans f3), ef.hp.put (ds := ys) (LY.get hn) e2 (rs.append (.cons r2 .nil))⟩
      ·rw [if_neg hl] at hW; exact hW.elim
theorem pH (hO : wU X.K X.mg ow gO) {Q : VK} {J : It} {H0 : Hp} {σ : L2.St} {ρ0 : List Addr} {G0 : DH} {τ : DS} (ds : List D)
  (go : ∀ i H ρ, i < ds.length → d9 X.K H0 H ρ0 ρ → J.go i H) (stop : ∀ i H ρ, ds.length ≤ i → d9 X.K H0 H ρ0 ρ → J.stop i H)
  (xK : ∀ i d H ρ x H', ds[i]? = some d → d9 X.K H0 H ρ0 ρ → J.xK i H x H' → yj X.K X.mg H H' ρ ∧ Rep X.K X.mg ρ H' d x)
  (ab : Ab X.K X.mg σ H0 τ ρ0 G0) (ok : nQ X.K X.mg EE H0 σ τ ρ0 (fG gO ks tt te G0.length ds τ (G0 ++ [.lst []])) Q) :
  ∀ D, H0 D = none → ∃ W : Nat → Nat → Hp → Prop, (∃ m, W 0 m (upd H0 D (.lst []))) ∧ ∀ i m H, W i m H →
   (J.stop i H ∧ Q (.ref D) H) ∨ (J.go i H ∧ ∀ x H', J.xK i H x H' → ∃ vs, ow x H' vs ∧ liftT X.K X.mg (Cn EE σ) tt (vs.map some ++ mask ks σ) H' fun b H2 => if b = true then e7 X.K X.mg (Cn EE σ) te (vs.map some ++ mask ks σ) H2 fun v H3 => ∃ ys, H3 D = some (.lst ys) ∧ ys.length < sizeLine ∧ ∃ m', m' < m ∧ W (i + 1) m' (upd H3 D (.lst (ys ++ [v]))) else ∃ m', m' < m ∧ W (i + 1) m' H2) := by
 intro D hD
 have f0 : d9 X.K H0 (upd H0 D (.lst [])) ρ0 (ρ0 ++ [D]) := (gD hD ρ0).trans (pZ ρ0 D)
 have Nl : Ab X.K X.mg σ (upd H0 D (.lst [])) τ (ρ0 ++ [D]) (G0 ++ [.lst []]) := ab.fut f0 (ab.hp.more hD .nil)
 have hn0 : (ρ0 ++ [D])[G0.length]? = some D := by rw [← ab.hp.hl, cQ]
 refine ⟨fun i m H => i ≤ ds.length ∧ m = ds.length - i ∧ ∃ ρ G, Ab X.K X.mg σ H τ ρ G ∧ d9 X.K H0 H ρ0 ρ ∧ ρ[G0.length]? = some D ∧ nQ X.K X.mg EE H σ τ ρ (fG gO ks tt te G0.length (ds.drop i) τ G) Q,
  ⟨ds.length, Nat.zero_le _, rfl, ρ0 ++ [D], _, Nl, f0, hn0, by simpa using ok.fut f0⟩, ?_⟩
 rintro i m H ⟨hi, rfl, ρ, G, ab, f, hn, ok⟩
 by_cases hlt : i < ds.length
 ·refine .inr ⟨go i H ρ hlt f, fun x H' y => ?_⟩
  obtain ⟨⟨fN, hN⟩, rx⟩ := xK i ds[i] H ρ x H' (List.getElem?_eq_getElem hlt) f y
  replace ok := nQ.fut fN ok
  replace ab : Ab X.K X.mg σ H' τ ρ G := ab.fut fN (hN _ ab.hp)
  replace f := f.trans fN
  rw [List.drop_eq_getElem_cons hlt] at ok
  unfold fG at ok
  refine vN hO (W := fun H3 => ∃ m', m' < ds.length - i ∧ i + 1 ≤ ds.length ∧ m' = ds.length - (i + 1) ∧ ∃ ρ G, Ab X.K X.mg σ H3 τ ρ G ∧ d9 X.K H0 H3 ρ0 ρ ∧ ρ[G0.length]? = some D ∧ nQ X.K X.mg EE H3 σ τ ρ (fG gO ks tt te G0.length (ds.drop (i + 1)) τ G) Q)
    ab rx hn ?_
  cases e : fZ gO ks tt te G0.length ds[i] τ G with
  | stuck => rw [e] at ok; exact ok
  | dG c G' => rw [e] at ok; exact ok
  | ok _ G' =>
   rw [e] at ok
   exact fun H3 ρ3 f3 xX => ⟨ds.length - (i + 1), by omega, hlt, rfl, ρ3, G', xX, f.trans f3, f3.get hn, ok.fut f3⟩
 ·have e : i = ds.length := by omega
  subst e
  refine .inl ⟨stop _ H ρ (Nat.le_refl _) f, ?_⟩
  rw [List.drop_eq_nil_of_le (Nat.le_refl _)] at ok
  exact ok _ H ρ .refl ab (by unfold Rep; exact ⟨D, rfl, hn⟩)
theorem Dk (hO : wU X.K X.mg ow gO) {Q : VK} {H0 : Hp} {σ : L2.St} {ρ0 : List Addr} {G0 : DH} {τ : DS} {k fuel : Nat} {p : Addr} (hk : ρ0[k]? = some p)
  (ab : Ab X.K X.mg σ H0 τ ρ0 G0) (ok : nQ X.K X.mg EE H0 σ τ ρ0 (oz gO ks tt te G0.length k fuel 0 τ (G0 ++ [.lst []])) Q) :
  ∀ D, H0 D = none → ∃ W : Nat → Nat → Hp → Prop, (∃ m, W 0 m (upd H0 D (.lst []))) ∧ ∀ i m H, W i m H →
   ((El X.K p).stop i H ∧ Q (.ref D) H) ∨ ((El X.K p).go i H ∧ ∀ x H', (El X.K p).xK i H x H' → ∃ vs, ow x H' vs ∧ liftT X.K X.mg (Cn EE σ) tt (vs.map some ++ mask ks σ) H' fun b H2 => if b = true then e7 X.K X.mg (Cn EE σ) te (vs.map some ++ mask ks σ) H2 fun v H3 => ∃ ys, H3 D = some (.lst ys) ∧ ys.length < sizeLine ∧ ∃ m', m' < m ∧ W (i + 1) m' (upd H3 D (.lst (ys ++ [v]))) else ∃ m', m' < m ∧ W (i + 1) m' H2) := by
 intro D hD
 have f0 : d9 X.K H0 (upd H0 D (.lst [])) ρ0 (ρ0 ++ [D]) := (gD hD ρ0).trans (pZ ρ0 D)
 have Nl : Ab X.K X.mg σ (upd H0 D (.lst [])) τ (ρ0 ++ [D]) (G0 ++ [.lst []]) := ab.fut f0 (ab.hp.more hD .nil)
 have hn0 : (ρ0 ++ [D])[G0.length]? = some D := by rw [← ab.hp.hl, cQ]
 refine ⟨fun i m H => ∃ ρ G, Ab X.K X.mg σ H τ ρ G ∧ d9 X.K H0 H ρ0 ρ ∧ ρ[G0.length]? = some D ∧ nQ X.K X.mg EE H σ τ ρ (oz gO ks tt te G0.length k m i τ G) Q,
  ⟨fuel, ρ0 ++ [D], _, Nl, f0, hn0, ok.fut f0⟩, ?_⟩
 rintro i m H ⟨ρ, G, ab, f, hn, ok⟩
 cases m with
 | zero => exact ok.elim
 | succ m =>
  unfold oz at ok
  cases q : G[k]? with
  | none => rw [q] at ok; exact ok.elim
  | some o =>
   cases o with
   | dead => first | (rw [q] at ok; exact ok.elim) | (rw [q] at aU; exact aU.elim) | (rw [q3] at hW; exact hW.elim) | (rw [q] at e; cases e; done) | (rw [g] at ok; exact ok.elim) | (rw [g] at q; cases q; done) | (rw [g] at h; cases h; done) | exact ok.elim
   | dct kv => first | (rw [q] at ok; exact ok.elim) | (rw [q] at aU; exact aU.elim) | (rw [q3] at hW; exact hW.elim) | (rw [q] at e; cases e; done) | (rw [g] at ok; exact ok.elim) | (rw [g] at q; cases q; done) | (rw [g] at h; cases h; done) | exact ok.elim
   | pB fz kv => first | (rw [q] at ok; exact ok.elim) | (rw [q] at aU; exact aU.elim) | (rw [q3] at hW; exact hW.elim) | (rw [q] at e; cases e; done) | (rw [g] at ok; exact ok.elim) | (rw [g] at q; cases q; done) | (rw [g] at h; cases h; done) | exact ok.elim
   | lst ds =>
    rw [q] at ok
    dsimp only at ok
    obtain ⟨p', xs, e1, e2, rs⟩ := ab.hp.lst q
    rw [f.get hk] at e1; cases e1
    cases qd : ds[i]? with
    | none =>
     rw [qd] at ok
     have hl : xs.length ≤ i := by rw [← rs.length]; exact List.getElem?_eq_none_iff.mp qd
     exact .inl ⟨⟨xs, .of e2, hl⟩, ok _ H ρ .refl ab (by unfold Rep; exact ⟨D, rfl, hn⟩)⟩
    | some d =>
     rw [qd] at ok
     dsimp only at ok
     obtain ⟨x0, ex, rx⟩ := rs.get qd
     refine .inr ⟨⟨xs, x0, .of e2, ex⟩, fun x H' y => ?_⟩
     obtain ⟨rfl, y⟩ := y
     have e3 := y xs (.of e2)
     rw [ex] at e3; cases e3
     refine vN hO (W := fun H3 => ∃ m', m' < m + 1 ∧ ∃ ρ G, Ab X.K X.mg σ H3 τ ρ G ∧ d9 X.K H0 H3 ρ0 ρ ∧ ρ[G0.length]? = some D ∧ nQ X.K X.mg EE H3 σ τ ρ (oz gO ks tt te G0.length k m' (i + 1) τ G) Q)
       ab rx hn ?_
     cases e : fZ gO ks tt te G0.length d τ G with
     | stuck => rw [e] at ok; exact ok
     | dG c G' => rw [e] at ok; exact ok
     | ok _ G' =>
      rw [e] at ok
      exact fun H3 ρ3 f3 xX => ⟨m, Nat.lt_succ_self _, ρ3, G', xX, f.trans f3, f3.get hn, ok.fut f3⟩
variable {scope : Scope} {elt iter a b : Expr} {ifs : List Expr} {px pos : Pos} {m : DS → M D}
theorem vO (hO : wU X.K X.mg ow gO) {σ : L2.St} {H : Hp} {Q : VK} (h : e7 X.K X.mg EE (jZ gO ks m tt te) σ H Q) :
  Di (fun σ H R => e7 X.K X.mg EE m σ H fun x H1 => (∃ p, x = .ref p ∧ (∃ xs, pq X.K H1 p xs) ∧ R (El X.K p) H1) ∨ (∃ p, x = .ref p ∧ (∃ xs, qS X.K H1 p xs) ∧ R (LJ X.K p) H1) ∨ ∃ z, x = .str z ∧ R (AD z) H1) ks ow (liftT X.K X.mg (Cn EE σ) tt) (e7 X.K X.mg (Cn EE σ) te) σ H Q := by
 obtain ⟨τ, ρ, G, ab, ok⟩ := nk (k := fun τ d G => match d with
  | .obj k => match G[k]? with
   | some (.lst xs) => oz gO ks tt te G.length k (xs.length + 1) 0 τ (G ++ [.lst []])
   | _ => .stuck
  | .tup xs => fG gO ks tt te G.length xs τ (G ++ [.lst []])
  | .con xs => fG gO ks tt te G.length xs τ (G ++ [.lst []])
  | .str z => fG gO ks tt te G.length (z.cps.toList.map fun c => .str ⟨#[c]⟩) τ (G ++ [.lst []])
  | _ => .stuck) h
 refine ⟨τ, ρ, G, ab, ?_⟩
 cases e : m τ G with
 | stuck => rw [e] at ok; exact ok
 | dG c G' => rw [e] at ok; exact ok
 | ok d G' =>
  rw [e] at ok
  intro v H1 ρ1 f1 wJ r1
  obtain ⟨τ2, ρ2, G2, d2, ef, r2, aU⟩ := ok v H1 ρ1 f1 wJ r1
  cases d2 <;> try exact aU.elim
  case obj n =>
   dsimp only at aU
   unfold Rep at r2
   obtain ⟨p, rfl, e1⟩ := r2
   cases q : G2[n]? with
   | none => rw [q] at aU; exact aU.elim
   | some o =>
    cases o with
    | dead => first | (rw [q] at ok; exact ok.elim) | (rw [q] at aU; exact aU.elim) | (rw [q3] at hW; exact hW.elim) | (rw [q] at e; cases e; done) | (rw [g] at ok; exact ok.elim) | (rw [g] at q; cases q; done) | (rw [g] at h; cases h; done) | exact ok.elim
    | dct kv => first | (rw [q] at ok; exact ok.elim) | (rw [q] at aU; exact aU.elim) | (rw [q3] at hW; exact hW.elim) | (rw [q] at e; cases e; done) | (rw [g] at ok; exact ok.elim) | (rw [g] at q; cases q; done) | (rw [g] at h; cases h; done) | exact ok.elim
    | pB fz kv => first | (rw [q] at ok; exact ok.elim) | (rw [q] at aU; exact aU.elim) | (rw [q3] at hW; exact hW.elim) | (rw [q] at e; cases e; done) | (rw [g] at ok; exact ok.elim) | (rw [g] at q; cases q; done) | (rw [g] at h; cases h; done) | exact ok.elim
    | lst xs =>
     rw [q] at aU
     obtain ⟨p', vs, e2, h2, rs⟩ := ef.hp.lst q
     rw [e1] at e2; cases e2
     exact .inl ⟨p, rfl, ⟨vs, .of h2⟩, Dk hO e1 ef aU⟩
  case tup xs =>
   unfold Rep at r2
   obtain ⟨p, vs, rfl, sq, rs⟩ := r2
   refine .inr (.inl ⟨p, rfl, ⟨vs, sq⟩, pH hO xs (fun i H' ρ' hi f => ?_) (fun i H' ρ' hi f => ?_) (fun i d' H' ρ' x Ke hd f y => ?_) ef aU⟩)
   ·rw [rs.length] at hi
    exact ⟨vs, vs[i], f.tup _ _ sq, List.getElem?_eq_getElem hi⟩
   ·exact ⟨vs, f.tup _ _ sq, by rw [← rs.length]; exact hi⟩
   ·obtain ⟨rfl, y⟩ := y
    obtain ⟨w', ew, rw'⟩ := rs.get hd
    have := y vs (f.tup _ _ sq)
    rw [ew] at this; cases this
    exact ⟨.refl, rw'.mono f⟩
  case con xs =>
   unfold Rep at r2
   obtain ⟨p, vs, rfl, sq, rs⟩ := r2
   refine .inl ⟨p, rfl, ⟨vs, sq.seq⟩, pH hO xs (fun i H' ρ' hi f => ?_) (fun i H' ρ' hi f => ?_) (fun i d' H' ρ' x Ke hd f y => ?_) ef aU⟩
   ·rw [rs.length] at hi
    exact ⟨vs, vs[i], (f.con _ _ sq).seq, List.getElem?_eq_getElem hi⟩
   ·exact ⟨vs, (f.con _ _ sq).seq, by rw [← rs.length]; exact hi⟩
   ·obtain ⟨rfl, y⟩ := y
    obtain ⟨w', ew, rw'⟩ := rs.get hd
    have := y vs (f.con _ _ sq).seq
    rw [ew] at this; cases this
    exact ⟨.refl, rw'.mono f⟩
  case str z =>
   unfold Rep at r2; subst r2
   refine .inr (.inr ⟨z, rfl, pH hO (z.cps.toList.map fun c => .str ⟨#[c]⟩) (fun i H' ρ' hi f => ?_) (fun i H' ρ' hi f => ?_) (fun i d' H' ρ' x Ke hd f y => ?_) ef aU⟩)
   ·simpa [AD] using hi
   ·simpa [AD] using hi
   ·obtain ⟨rfl, c, hc, rfl⟩ := y
    rw [List.getElem?_map] at hd
    have : z.cps.toList[i]? = some c := by simpa using hc
    rw [this] at hd
    cases hd
    exact ⟨.refl, by unfold Rep; rfl⟩
noncomputable def vP (X : Cx) (scope : Scope) (xs : List Str) (ifs : List Expr) (elt : Expr) (tt : DS → M Bool) (te : DS → M D) : Prop :=
 ∀ (cl : List (Str × Addr)) (C : Addr) (pins : List (Addr × Obj)) (s0 : Shared) (H0 : Hp) (fp : List Addr) (E : Value → Shared → Prop) (EE : eU), lW (rO X scope cl xs C pins s0 H0 fp E) EE → CT (rO X scope cl xs C pins s0 H0 fp E) ifs (liftT X.K X.mg EE tt) ∧ QE (rO X scope cl xs C pins s0 H0 fp E) EE elt te
noncomputable def qg : DS → M Bool := fun _ => M.ret true
theorem iN (h : ∀ (cl : List (Str × Addr)) (C : Addr) (pins : List (Addr × Obj)) (s0 : Shared) (H0 : Hp) (fp : List Addr) (E : Value → Shared → Prop) (EE : eU), lW (rO X scope cl xs C pins s0 H0 fp E) EE → QE (rO X scope cl xs C pins s0 H0 fp E) EE elt te) : vP X scope xs [] elt qg te :=
 fun cl C pins s0 H0 fp E EE hx => ⟨fun gC s σ H Q I ⟨τ, ρ, G, ab, ok⟩ => Ip gC s σ H Q I (ok H ρ .refl ab), h cl C pins s0 H0 fp E EE hx⟩
theorem BQ {c : Expr} (h : ∀ (cl : List (Str × Addr)) (C : Addr) (pins : List (Addr × Obj)) (s0 : Shared) (H0 : Hp) (fp : List Addr) (E : Value → Shared → Prop) (EE : eU), lW (rO X scope cl xs C pins s0 H0 fp E) EE → QT (rO X scope cl xs C pins s0 H0 fp E) EE c tt ∧ QE (rO X scope cl xs C pins s0 H0 fp E) EE elt te) : vP X scope xs [c] elt tt te :=
 fun cl C pins s0 H0 fp E EE hx => ⟨Iq (h cl C pins s0 H0 fp E EE hx).1, (h cl C pins s0 H0 fp E EE hx).2⟩
noncomputable def jx (X : Cx) : Prop := ∃ i0 jl L, X.stack = i0 :: jl ∧ X.env.frame = i0.frame ∧ i0.frame = some L
theorem Ff (hx : lW X EE) (hst : jx X) (S : cW X.env.scope X.N scope xs ks) (how : Own X scope xs ks tg ow) (hO : wU X.K X.mg ow gO) (hc : X.calm = true) (ha : QE X EE iter m) (hb : vP X scope xs ifs elt tt te) (hs : ∀ x, foldedSetIterable iter X.env x = pure x := by intro _; rfl) :
  QE X EE (.ListComp elt [⟨tg, iter, ifs, 0⟩] scope pos) (jZ gO ks m tt te) := PE.mono (Fd (tt := fun σ => liftT X.K X.mg (Cn EE σ) tt) (te := fun σ => e7 X.K X.mg (Cn EE σ) te) hx hst S how hc (PI.any ha) (fun σ cl C pins s0 H0 fp E => hb cl C pins s0 H0 fp E _) hs) fun _ _ _ h => vO hO h
theorem Fg {y : Str} {i : Nat} {py spos : Pos} (hx : lW X EE) (hst : jx X) (S : cW X.env.scope X.N scope xs ks) (how : Own X scope xs ks tg ow) (hO : wU X.K X.mg ow gO) (hc : X.calm = true) (hN : X.N.Nodup) (ha : QE X EE iter m) (hb : vP X scope xs ifs elt tt te) (hy : X.N[i]? = some y := by rfl) (hl : X.env.scope.names.lookup y = some .local := by rfl)
  (hsw : swapsWith (.ListComp elt [⟨tg, iter, ifs, 0⟩] scope pos) (some (.Name y py)) spos.line X.env = pure true := by rfl) (hs : ∀ x, foldedSetIterable iter X.env x = pure x := by intro _; rfl) :
  QS X EE (.Assign [.Name y py] (.ListComp elt [⟨tg, iter, ifs, 0⟩] scope pos) spos) (cu i (jZ gO ks m tt te)) := PS.mono (Fe (tt := fun σ => liftT X.K X.mg (Cn EE σ) tt) (te := fun σ => e7 X.K X.mg (Cn EE σ) te) hx hst S how hc hN (PI.any ha) hy hl hsw (fun σ cl C pins s0 H0 fp E => hb cl C pins s0 H0 fp E _) hs) fun Dd σ H h => by
 obtain ⟨τ, ρ, G, ab, ok⟩ := h
 refine vO hO (EE := EE) (Q := fun v H1 => Ao i v σ H1 Dd.nx) ⟨τ, ρ, G, ab, ?_⟩
 dsimp only [cu, cZ] at ok
 cases e : jZ gO ks m tt te τ G with
 | stuck => rw [e] at ok; exact ok
 | dG c G' => rw [e] at ok; exact fun H' ρ' f cG => ok σ H' ρ' f cG
 | ok d G' => rw [e] at ok; exact fun v H' ρ' f cG r => ok _ H' ρ' f (cG.set r)
variable {ma : DS → M (List D)}
end
end L3
end
section
set_option Elab.async false
set_option linter.all false
set_option maxRecDepth 100000
namespace L3
open PySem PySem.Spec L2
theorem gc {k : Nat} {A : Around} (r : iA k A) : A.units + 600 < cLine := by have := r.un; omega
noncomputable def Gi (K : PySem.W.Frag) : Sp := fun vs H Q _ => ∃ (a : Addr) (ns : List Int), vs = [.ref a] ∧ HN K H a (ns.map V.int) ∧ ns.length ≤ 63 ∧ ∀ H', Q (.bl true) H'
theorem Iw {K : PySem.W.Frag} {H : Hp} {a : Addr} {xs : List V} (hO : ET H) (h : pq K H a xs) : HN K H a xs := by
 rcases h with (h | ⟨o, h⟩) | h
 ·rcases hO a with z | ⟨o, ys, z⟩
  ·rw [h] at z; cases z
  ·rw [h] at z; cases z
 ·exact .inl ⟨o, h⟩
 ·exact .inr h
theorem Dl {K : PySem.W.Frag} {mg : Str → Option Value} {m : List D → M D} (hm : ∀ ns : List Int, ns.length ≤ 63 → ∃ G, m [.con (ns.map .int)] [] = .ok (.bl true) G) (vs : List V) (H : Hp) (Q : VK) (E : XK) (h : Gi K vs H Q E) : dP K mg 1 m vs H Q E := by
 obtain ⟨a, ns, rfl, sq, hl, q⟩ := h
 obtain ⟨G, e⟩ := hm ns hl
 refine ⟨[.con (ns.map .int)], [], [], rfl, ⟨rfl, List.nodup_nil, fun n o e => by simp at e⟩, .cons (by unfold Rep; exact ⟨a, _, rfl, sq, .ints ns⟩) .nil, ?_⟩
 rw [e]
 intro v H' ρ' _ _ r
 unfold Rep at r
 subst r
 exact q H'
end L3
end
section
set_option Elab.async false
set_option linter.all false
set_option maxRecDepth 100000
namespace L3
open PySem PySem.Spec L2
noncomputable def ff : Expr → Bool
 | .Starred .. => false
 | _ => true
noncomputable def plainT : Expr → Bool
 | .UnaryOp .Not _ _ => false
 | .BoolOp .. => false
 | .IfExp .. => false
 | .Compare .. => false
 | _ => true
noncomputable def pI : Expr → Bool
 | .Set .. => false
 | _ => true
noncomputable def wV : Expr → Bool
 | .ListComp .. => false
 | .SetComp .. => false
 | .DictComp .. => false
 | _ => true
noncomputable def tW : Expr → Bool
 | .Call (.Name _ _) [] [] _ => false
 | _ => true
noncomputable def AH : Expr → Bool
 | .Slice .. => false
 | _ => true
noncomputable def bf : List Expr → Bool
 | [] => true
 | e :: es => ff e && bf es
theorem dN {e : Expr} (h : ff e = true) (es : List Expr) (env : Env) : starEach (e :: es) env = (false, eval e env) :: starEach es env := by
 cases e <;> first | rfl | cases h
theorem BS {e : Expr} (h : plainT e = true) (env : Env) (whole : Sem Value) : isTrue e env whole = (do let v ← whole; standAt e.pos; holding [v] (truthy v)) := by
 cases e <;> first | rfl | cases h | (rename_i op _ _; cases op <;> first | rfl | cases h)
theorem qh {e : Expr} (h : pI e = true) (env : Env) (x : Value) : foldedSetIterable e env x = pure x := by
 cases e <;> first | rfl | cases h
theorem wW {e : Expr} (h : wV e = true) (t : Option Expr) (l : Nat) (env : Env) : swapsWith e t l env = pure false := by
 cases e <;> first | rfl | cases h
theorem lU {e : Expr} (h : tW e = true) (n : Str) (env : Env) : attributeBase e n env (eval e env) = eval e env := by
 unfold attributeBase
 split
 ·cases h
 ·rfl
theorem KH {e : Expr} (h : AH e = true) : sJ e := fun o i => by
 cases e <;> first | rfl | cases h
theorem Fi {e : Expr} (h : pI e = true) (op : CmpOp) : behindInMarks op e = false := by
 cases e <;> first | rfl | cases h
theorem eB {env : Env} {pos : Pos} : ∀ {es : List Expr}, bf es = true → (backTo pos (starEach es env)).any (·.1) = false
 | [], _ => rfl
 | e :: es, h => by
  have h' : ff e = true ∧ bf es = true := by simpa [bf] using h
  rw [dN h'.1]
  have ih := eB (env := env) (pos := pos) h'.2
  show (false || (backTo pos (starEach es env)).any (·.1)) = false
  rw [ih]; rfl
theorem vQ {env : Env} {pos : Pos} : ∀ {es : List Expr}, bf es = true → (backTo pos (starEach es env)).all (fun x => !x.1) = true
 | [], _ => rfl
 | e :: es, h => by
  have h' : ff e = true ∧ bf es = true := by simpa [bf] using h
  rw [dN h'.1]
  have ih := vQ (env := env) (pos := pos) h'.2
  show (!false && (backTo pos (starEach es env)).all (fun x => !x.1)) = true
  rw [ih]; rfl
theorem Dm {env : Env} {pos : Pos} {es : List Expr} (h : bf es = true) (hl : es.length < 30) : ((backTo pos (starEach es env)).all (fun x => !x.1) && (backToKw pos (keywordEach [] env)).all (fun x => x.1.isSome)
   && decide (es.length + ([] : List Keyword).length + (if ([] : List Keyword).isEmpty then 0 else 1) < 30)) = true := by
 rw [vQ h]
 simp only [Bool.true_and, Bool.and_eq_true, decide_eq_true_eq]
 exact ⟨rfl, by simpa using hl⟩
section
variable {X : Cx} {EE : eU} {a b c e o : Expr} {es : List Expr} {ma mb mc me mo : DS → M D} {pos p apos cpos : Pos} {m : DS → M (List D)} {ms mt : MS} {x : Str} {ks : List Bool} {tt : DS → M Bool} {te : DS → M D}
theorem wX {m : DS → M D} {r : DS → M (List D)} (ha : QE X EE e m) (hr : QA X EE es r) (h : ff e = true := by rfl) : QA X EE (e :: es) (ah m r) := EX ha hr (dN h _ _)
theorem af (i : Nat) (hv : FU X.env.scope x) (hd : (x == ("__debug__" : Str)) = false ∧ (x == ("__classdict__" : Str)) = false) (hN : X.N[i]? = some x := by rfl) : QE X EE (.Name x pos) (aj i) := HS i hN hv hd.1 hd.2
theorem ao (ha : QE X EE a ma) (hb : QE X EE b mb) (h : AH b = true := by rfl) : QE X EE (.Subscript a b pos) (aM dg ma mb) := CS ha hb (KH h)
theorem cH {op : CmpOp} {f : D → D → M D} (ho : nj X (compareOp op) (rD X EE f)) (ha : QE X EE a ma) (hb : QE X EE b mb) (h : pI b = true := by rfl) : QT X EE (.Compare a [op] [b] pos) (jR (aM f ma mb)) := HZ ho ha hb (Fi h _)
theorem Dn (ha : QE X EE a ma) (h : plainT a = true := by rfl) : QT X EE a (qX uP ma) := HX ha (BS h _)
theorem yk {id : String} {f : List D → M D} (hc : jT X (.builtin id) (Ib X EE f)) (hm : X.mg x = none) (hg : Gl X x) (hv : bootBuiltins x = some (.builtin id)) (ha : QA X EE (e :: es) m) (hn : x ≠ "__name__" := by decide) (hdb : (x == ("__debug__" : Str)) = false := by decide) (h : bf (e :: es) = true := by rfl) :
  QE X EE (.Call (.Name x p) (e :: es) [] pos) (aG f m) := by
 have h' : ff e = true ∧ bf es = true := by simpa [bf] using h
 exact CM hc tP hm ha hg hv hn hdb (dN h'.1 _ _) (eB h'.2)
theorem vR {id : String} {f : List D → M D} (hc : jT X (.type id) (Ib X EE f)) (hm : X.mg x = none) (hg : Gl X x) (hv : bootBuiltins x = some (.type id)) (ha : QA X EE (e :: es) m) (hn : x ≠ "__name__" := by decide) (hdb : (x == ("__debug__" : Str)) = false := by decide) (h : bf (e :: es) = true := by rfl) :
  QE X EE (.Call (.Name x p) (e :: es) [] pos) (aG f m) := by
 have h' : ff e = true ∧ bf es = true := by simpa [bf] using h
 exact BD hc tP hm ha hg hv hn hdb (dN h'.1 _ _) (eB h'.2)
theorem fO (hm : X.mg "len" = none) (hg : Gl X "len") (ha : QA X EE [e] m) (h : bf [e] = true := by rfl) : QE X EE (.Call (.Name "len" p) [e] [] pos) (aG i7 m) := yk BG hm hg PySem.boot_len ha (by decide) (by decide) h
theorem AI (hc : X.calm = true) (hm : X.mg "max" = none) (hg : Gl X "max") (ha : QA X EE [e, a] m) (h : bf [e, a] = true := by rfl) : QE X EE (.Call (.Name "max" p) [e, a] [] pos) (aG (nt fun i j => if j > i then j else i) m) := yk (BH hc) hm hg PyProof.Rows.boot_max ha (by decide) (by decide) h
theorem eL {CX : zB} {k n : Nat} {f : Addr} {fd : FuncData} {ps : List Str} {mf : List D → M D} (F : cV X.prog X.w X.K X.mg X.base CX k f fd ps (dP X.K X.mg n mf)) (hr : iA k X.A) (hm : X.mg x = some (.ref f)) (hk : PySem.W.keepIn X.K (.ref f) = true) (hb : Binds X.K fd ps []) (hx : LS CX X EE) (hg : Gl X x)
  (hd : (x == ("__debug__" : Str)) = false ∧ (x == ("__classdict__" : Str)) = false) (ha : QA X EE (e :: es) m) (h : bf (e :: es) = true := by rfl) : QE X EE (.Call (.Name x p) (e :: es) [] pos) (e9 n mf m) := by
 have h' : ff e = true ∧ bf es = true := by simpa [bf] using h
 exact E8 F hr hm hk hb hx ha hg hd.1 (dN h'.1 _ _) (eB h'.2)
theorem lE (ho : QE X EE o mo) (ha : QA X EE [e] m) (hb : tW o = true := by rfl) (h : bf [e] = true := by rfl) (hline : (apos.endLine == cpos.line) = true := by rfl) : QE X EE (.Call (.Attribute o "append" apos) [e] [] cpos) (fc "list" gJ mo m) := by
 have h' : ff e = true ∧ bf [] = true := by simpa [bf] using h
 exact BJ ho ha (lU hb _ _) (Dm h (by simp)) hline (dN h'.1 _ _) (eB (es := []) rfl)
theorem Iz (ho : QE X EE o mo) (hb : tW o = true := by rfl) (hline : (apos.endLine == cpos.line) = true := by rfl) : QE X EE (.Call (.Attribute o "pop" apos) [] [] cpos) (fc "list" x9 mo aL) := Ie ho (lU hb _ _) hline
theorem iV (he : QE X EE a ma) (h : wV a = true := by rfl) : QS X EE (.Expr a pos) (jX ma) := E4 he (wW h _ _ _)
theorem bE {i : Nat} {pos' : Pos} (hN : X.N.Nodup) (hx : Loc X.env.scope x) (he : QE X EE a ma) (hf : X.fn x = true ∨ X.env.scope.names.lookup x = some .local) (hi : X.N[i]? = some x := by rfl) (h : wV a = true := by rfl) : QS X EE (.Assign [.Name x pos'] a pos) (cu i ma) := H8 hN he hi hx (wW h _ _ _) hf
theorem qk {i : Expr} {mv mi : DS → M D} {tpos : Pos} (hv : QE X EE a mv) (ho : QE X EE o mo) (hi : QE X EE i mi) (h : wV a = true := by rfl)
  (Ig : ∀ v, assign (.Subscript o i tpos) X.env v = (do
   let ov ← holding [v] (eval o X.env)
   let iv ← holding [v, ov] (eval i X.env)
   standAt tpos
   holding [v, ov, iv] (setItem ov iv v)
   release [v, ov, iv] []) := by intro _; rfl) : QS X EE (.Assign [.Subscript o i tpos] a pos) (jk mv mo mi) :=
 C6 hv ho hi (by unfold swapsWithSole; exact wW h _ _ _) (by first | rfl | (unfold swappedStores; rfl)) rfl Ig
theorem fu {i : Nat} (hN : X.N.Nodup) (hx : Loc X.env.scope x) (hf : X.fn x = true ∨ X.env.scope.names.lookup x = some .local) (hi : X.N[i]? = some x := by rfl) : QG X (.Name x pos) (gN i) := E5 hN hi hx hf
theorem rq {tg : Expr} {g : pF} {body : List Stmt} (hp : PassesOwn (model X.prog X.w) X.A X.env X.xe) (hc : X.calm = true) (ha : QE X EE a ma) (hg : QG X tg g) (hb : zI X EE body ms) (h : pI a = true := by rfl) : QS X EE (.For tg a body [] pos) (kL g ma ms) := Ia hp hc ha hg hb (qh h _)
theorem j0 {tg : Expr} {g : pF} {body : List Stmt} {pc : Pos} (hp : PassesOwn (model X.prog X.w) X.A X.env X.xe) (hc : X.calm = true) (hm : X.mg "range" = none) (Gb : Gl X "range") (ha : QA X EE [a] m) (hg : QG X tg g) (hb : zI X EE body ms) (h : ff a = true := by rfl) :
  QS X EE (.For tg (.Call (.Name "range" p) [a] [] pc) body [] pos) (gH qZ g m ms) := C3 hp hc hm ha hg hb Gb (dN h _ _) (qh rfl _)
variable {scope : Scope} {elt iter tg : Expr} {xs : List Str} {ow : V → Hp → List V → Prop} {gO : D → Option (List D)} {ifs : List Expr} {px : Pos}
theorem ql (hx : lW X EE) (hst : jx X) (S : cW X.env.scope X.N scope xs ks) (how : Own X scope xs ks tg ow) (hO : wU X.K X.mg ow gO) (hc : X.calm = true) (ha : QE X EE iter ma) (hb : vP X scope xs ifs elt tt te) (h : pI iter = true := by rfl) : QE X EE (.ListComp elt [⟨tg, iter, ifs, 0⟩] scope pos) (jZ gO ks ma tt te) := Ff hx hst S how hO hc ha hb (qh h _)
theorem wY {y : Str} {i : Nat} {py spos : Pos} (hx : lW X EE) (hst : jx X) (S : cW X.env.scope X.N scope xs ks) (how : Own X scope xs ks tg ow) (hO : wU X.K X.mg ow gO) (hc : X.calm = true) (hN : X.N.Nodup) (hl : X.env.scope.names.lookup y = some .local) (ha : QE X EE iter ma) (hb : vP X scope xs ifs elt tt te) (hsw : swapsWith (.ListComp elt [⟨tg, iter, ifs, 0⟩] scope pos) (some (.Name y py)) spos.line X.env = pure true)
  (hy : X.N[i]? = some y := by rfl) (h : pI iter = true := by rfl) : QS X EE (.Assign [.Name y py] (.ListComp elt [⟨tg, iter, ifs, 0⟩] scope pos) spos) (cu i (jZ gO ks ma tt te)) := Fg hx hst S how hO hc hN ha hb hy hl hsw (qh h _)
theorem rA {gens : List Comprehension} {y : Str} {py : Pos} {l : Nat} {env : Env} (hb : (env.blockKind == .function) = true) (hl : env.scope.names.lookup y = some .local) (hp : (py.line == pos.line) = true) (hq : (scope.names.any fun x => x.1 == y && (x.2 == .local || x.2 == .cell)) = false) : swapsWith (.ListComp elt gens scope pos) (some (.Name y py)) l env = pure true := by
 unfold swapsWith
 dsimp only
 show (pure (env.blockKind == .function && env.kindOf y == some .local && py.line == pos.line && !(scope.names.any fun x => x.1 == y && (x.2 == .local || x.2 == .cell))) : Sem Bool) = pure true
 have e : (env.kindOf y == some NameKind.local) = true := by rw [show env.kindOf y = some NameKind.local from hl]; rfl
 rw [hb, e, hp, hq]; rfl
theorem lY {cl : List (Str × Addr)} {C : Addr} {pins : List (Addr × Obj)} {s0 : Shared} {H0 : Hp} {fp : List Addr} {E : Value → Shared → Prop} (S : cW X.env.scope X.N scope xs ks) (h : x ∈ xs) : FU (rO X scope cl xs C pins s0 H0 fp E).env.scope x := .inl (tU (cl := cl) (C := C) S h)
theorem Fj {cl : List (Str × Addr)} {C : Addr} {pins : List (Addr × Obj)} {s0 : Shared} {H0 : Hp} {fp : List Addr} {E : Value → Shared → Prop} {y : Str} (S : cW X.env.scope X.N scope xs ks) (h : scope.names.lookup y = some .free) : FU (rO X scope cl xs C pins s0 H0 fp E).env.scope y := .inr (rm (cl := cl) (C := C) S h)
end
end L3
end
section
set_option Elab.async false
set_option linter.all false
set_option maxRecDepth 100000
namespace L3
open PySem PySem.Spec L2 Builtin Builtin.Str
section
variable {X : Cx} {EE : eU}
noncomputable def gM : List D → M D
 | [d] => fun G => match bN G d with
  | some (.lst xs) => i6 xs G
  | some (.tup xs) => .ok d G
  | _ => .stuck
 | _ => M.stop
theorem BU : jT X (.type "tuple") (Ib X EE gM) := by
 intro pins s σ0 H xs us Q I r ⟨σ, τ, ρ, G, ds, ab, BI, ok⟩
 match ds, ok with
 | [], ok => exact ok.elim
 | _ :: _ :: _, ok => exact ok.elim
 | [y], ok =>
  obtain ⟨yv, rfl, ry⟩ := rN BI
  dsimp only [gM] at ok
  cases q : bN G y with
  | none => rw [q] at ok; exact ok.elim
  | some sk =>
   rw [q] at ok
   cases sk with
   | str _ => exact ok.elim
   | tup ys =>
    obtain ⟨p, vs, rfl, sq, rs⟩ := iK ry q
    exact oj pins s σ0 H _ us Q I r ⟨p, vs, rfl, .inr ⟨sq, ok _ H ρ .refl ab ry⟩⟩
   | lst ys =>
    obtain ⟨p, vs, rfl, sq, rs⟩ := eV (pins := pins) (σ0 := σ0) (s := s) ab.hp ry q
    exact oj pins s σ0 H _ us Q I r ⟨p, vs, rfl, .inl ⟨sq, fun l hl => (wI ab rs ok).2 l hl⟩⟩
noncomputable def lZ : List D → M D
 | [d] => fun G => match bN G d with
  | some (.lst xs) => di xs G
  | some (.tup xs) => di xs G
  | _ => .stuck
 | _ => M.stop
theorem BV : jT X (.type "list") (Ib X EE lZ) := by
 intro pins s σ0 H xs us Q I r ⟨σ, τ, ρ, G, ds, ab, BI, ok⟩
 match ds, ok with
 | [], ok => exact ok.elim
 | _ :: _ :: _, ok => exact ok.elim
 | [y], ok =>
  obtain ⟨yv, rfl, ry⟩ := rN BI
  dsimp only [lZ] at ok
  cases q : bN G y with
  | none => rw [q] at ok; exact ok.elim
  | some sk =>
   rw [q] at ok
   cases sk with
   | str _ => exact ok.elim
   | tup ys =>
    obtain ⟨p, vs, rfl, sq, rs⟩ := iK ry q
    exact pY pins s σ0 H _ us Q I r ⟨p, vs, rfl, .inr sq, fun l hl => (tM ab rs ok).2 l hl⟩
   | lst ys =>
    obtain ⟨p, vs, rfl, sq, rs⟩ := eV (pins := pins) (σ0 := σ0) (s := s) ab.hp ry q
    exact pY pins s σ0 H _ us Q I r ⟨p, vs, rfl, .inl sq, fun l hl => (tM ab rs ok).2 l hl⟩
variable {x : Str} {p pos apos cpos : Pos} {e o : Expr} {es : List Expr} {m : DS → M (List D)} {mo : DS → M D}
theorem boot_tuple : bootBuiltins "tuple" = some (.type "tuple") := by decide +kernel
theorem boot_list : bootBuiltins "list" = some (.type "list") := by decide +kernel
theorem qm (hm : X.mg "tuple" = none) (hg : Gl X "tuple") (ha : QA X EE [e] m) (h : bf [e] = true := by rfl) : QE X EE (.Call (.Name "tuple" p) [e] [] pos) (aG gM m) := vR BU hm hg boot_tuple ha (by decide) (by decide) h
theorem AJ (hm : X.mg "list" = none) (hg : Gl X "list") (ha : QA X EE [e] m) (h : bf [e] = true := by rfl) : QE X EE (.Call (.Name "list" p) [e] [] pos) (aG lZ m) := vR BV hm hg boot_list ha (by decide) (by decide) h
end
end L3
end
section
set_option Elab.async false
set_option linter.all false
set_option maxRecDepth 100000
namespace L3
open PySem PySem.Spec L2 Builtin Builtin.Str
section
variable {X : Cx} {EE : eU}
noncomputable def ON (X : Cx) (EE : eU) (e : Expr) (m : DS → M D) : Prop := ∀ (pins : List (Addr × Obj)) (s : Shared) (σ : L2.St) (H : Hp) (Q : VK), Inv X pins σ H s → e7 X.K X.mg EE m σ H Q →
 wpAny (model X.prog X.w) X.A (eval e X.env) (fun u s' => 0 < s'.toks ∧ EP X pins σ Q u s') X.xe s
theorem ON.qe {e : Expr} {m : DS → M D} (h : ON X EE e m) : QE X EE e m := fun pins s σ H Q I q => gm (h pins s σ H Q I q) fun _ _ z => z.2
noncomputable def sP (f : D → M D) (m : DS → M D) : DS → M D := fun τ => (m τ).bind f
variable {o : Expr} {mo : DS → M D} {y z : Str} {j1 j2 : Nat} {p1 p2 apos cpos : Pos}
end
section
end
section
variable {X : Cx} {EE : eU}
variable {p pos apos cpos : Pos} {e o : Expr} {es : List Expr} {m : DS → M (List D)} {mo : DS → M D}
end
end L3
end
section
set_option Elab.async false
set_option linter.all false
set_option maxRecDepth 100000
namespace L3
open PySem PySem.Spec L2
noncomputable def KI (K : PySem.W.Frag) (mg : Str → Option Value) (cv : Value) : List (Str × Bool) → Prop
 | [] => True
 | q :: r => (∃ cls, mg q.1 = some cls ∧ PySem.W.exmOne K cls cv = some q.2) ∧ KI K mg cv r
theorem IB {K : PySem.W.Frag} {mg : Str → Option Value} {cv : Value} : ∀ {l : List (Str × Bool)}, KI K mg cv l → ∀ (n : Str) (b : Bool) (cls : Value), l.lookup n = some b → mg n = some cls → PySem.W.exmOne K cls cv = some b
 | [], _, _, _, _, h, _ => nomatch h
 | q :: r, ⟨⟨c, h1, h2⟩, hr⟩, n, b, cls, h, hm => by
  obtain ⟨qn, qb⟩ := q
  rw [List.lookup_cons] at h
  cases e : n == qn with
  | true =>
   rw [e] at h
   cases h
   have := eq_of_beq e
   subst this
   rw [hm] at h1
   cases h1
   exact h2
  | false => rw [e] at h; exact IB hr n b cls h hm
end L3
namespace L3
open PySem PySem.Spec L2
theorem aN {X : Cx} {EE : eU} {e : Expr} {es : List Expr} {m : DS → M D} {r : DS → M (List D)} (ha : QE X EE e m) (h : ff e = true) (hr : QA X EE es r) : QA X EE (e :: es) (ah m r) := wX ha hr h
theorem eE {X : Cx} {EE : eU} {x : Str} {j : Nat} {pos : Pos} {es : List Expr} {r : DS → M (List D)} (hr : QA X EE es r) : QA X EE (.Constant (.str x) j pos :: es) (ah (eC (.str x)) r) := wX qW hr rfl
theorem uR {X : Cx} {EE : eU} {x : Int} {j : Nat} {pos : Pos} {es : List Expr} {r : DS → M (List D)} (hr : QA X EE es r) : QA X EE (.Constant (.int x) j pos :: es) (ah (eC (.int x)) r) := wX ak hr rfl
end L3
end
section
set_option Elab.async false
set_option linter.all false
set_option maxRecDepth 100000
namespace L3
open PySem PySem.Spec L2
end L3
end
section
set_option Elab.async false
set_option linter.all false
set_option maxRecDepth 100000
namespace L3
open PySem PySem.Spec L2
section
variable {X : Cx} {EE : eU} {a b c e o : Expr} {es : List Expr} {ma mb mo : DS → M D} {m : DS → M (List D)} {t : DS → M Bool} {ms : MS} {pos p p2 pos2 apos cpos : Pos}
noncomputable def fuel : Nat := 100000
end
end L3
end
section
set_option Elab.async false
set_option linter.all false
set_option maxRecDepth 100000
namespace L3
open PySem PySem.Spec L2
theorem AK {X : Cx} {pins : List (Addr × Obj)} {σ : L2.St} {H : Hp} {s : Shared} {h' : Heap} {t' : Nat} {ch : List Addr} (I : Inv X pins σ H s) (k : ∀ b o, b ∉ ch → s.heap.get? b = some o → h'.get? b = some o) (hf : ∀ b ∈ ch, pV X pins H b) : Inv X pins σ H { s with heap := h', toks := t' } := by
 have Jx : ∀ b u, H b = some u → b ∉ ch := fun b u e z => by rw [(hf b z).1] at e; cases e
 refine I.step (g' := s.gens) (d' := s.drawn) (ch := ch) (fun b hb => ⟨(hf b hb).2.2.2.1, (hf b hb).2.1, (hf b hb).2.2.2.2.1, (hf b hb).2.2.2.2.2⟩) (fun b o _ _ hc e _ => k b o hc e) (fun b o _ _ hc e _ => ⟨o.slots, k b o hc e⟩) (fun _ _ _ _ n => n)
  (fun b o hc e => ⟨o, k b o hc e⟩) (fun _ _ e => e) (fun _ _ _ e => e) (fun b ps e => ⟨#[], by rw [e]; simp⟩) (fun m hm => ?_) (fun b u e => ?_) I.bare
 ·obtain ⟨o, es, ep, ho, r⟩ := hm
  exact ⟨o, es, ep, k _ o (fun z => (hf _ z).2.1 rfl) ho, r⟩
 ·refine (I.hok b u e).stay (fun c v hc q => k c v ?_ q) (fun _ q => q) fun _ _ q => q
  rcases hc with z | z
  ·rw [z]; exact Jx b u e
  ·exact Jx c _ z
noncomputable abbrev View := DH → Nat → Option (Option D)
noncomputable def JV (K : PySem.W.Frag) (mg : Str → Option Value) (J : It) (vw : View) (H0 : Hp) (ρ0 : List Addr) : Prop :=
 ∀ (i : Nat) (H : Hp) (ρ : List Addr) (G : DH), d9 K H0 H ρ0 ρ → kc K mg H ρ G → (vw G i = some none → J.stop i H) ∧
  ∀ d, vw G i = some (some d) → J.go i H ∧ ∀ x H', J.xK i H x H' → yj K mg H H' ρ ∧ Rep K mg ρ H' d x
noncomputable def tX (g : pF) (body : MS) (vw : View) : Nat → Nat → MS
 | 0, _ => fun _ _ => .stuck
 | f + 1, i => fun τ G => match vw G i with
  | none => .stuck
  | some none => .nx τ G
  | some (some d) => match g d τ with
   | none => .stuck
   | some τ1 => match body τ1 G with
    | .nx τ2 G2 => tX g body vw f (i + 1) τ2 G2
    | .ct τ2 G2 => tX g body vw f (i + 1) τ2 G2
    | .bk τ2 G2 => .nx τ2 G2
    | r => r
noncomputable abbrev MI := DS → M (Nat × View)
noncomputable def KJ (K : PySem.W.Frag) (mg : Str → Option Value) (EE : eU) (mi : MI) : TI := fun σ H R => ∃ τ ρ G, Ab K mg σ H τ ρ G ∧ match mi τ G with
 | .stuck => False
 | .dG c G' => ∀ H' ρ', d9 K H H' ρ ρ' → Ab K mg σ H' τ ρ' G' → EE c σ H'
 | .ok (_, vw) G' => ∀ J H' ρ', d9 K H H' ρ ρ' → Ab K mg σ H' τ ρ' G' → JV K mg J vw H' ρ' → R J H'
noncomputable def QI (X : Cx) (EE : eU) (tg iter : Expr) (mi : MI) : Prop := PI X tg iter (KJ X.K X.mg EE mi)
section
variable {X : Cx} {EE : eU} {tg iter a b : Expr} {g : pF} {mi : MI} {ms : MS} {pos p pc : Pos} {m : DS → M (List D)}
theorem Dp {body : MS} {vw : View} {Dd : Ends} {J : It} {H0 : Hp} {σ0 : L2.St} {ρ0 : List Addr} {G0 : DH} {τ0 : DS} {fuel : Nat} (jv : JV X.K X.mg J vw H0 ρ0)
  (ab : Ab X.K X.mg σ0 H0 τ0 ρ0 G0) (ok : uO X.K X.mg EE H0 ρ0 Dd (tX g body vw fuel 0 τ0 G0)) :
  ∃ W : Nat → Nat → L2.St → Hp → Prop, (∃ m, W 0 m σ0 H0) ∧ ∀ i m σ H, W i m σ H →
   (J.stop i H ∧ Dd.nx σ H) ∨ (J.go i H ∧ ∃ N : L2.St → Hp → Prop, (∀ σ' H', N σ' H' → ∃ m', m' < m ∧ W (i + 1) m' σ' H') ∧ ∀ x H', J.xK i H x H' → x8 X.K X.mg g x σ H' fun σ2 H2 => lC X.K X.mg EE body { Dd with nx := N, ct := N, bk := Dd.nx } σ2 H2) := by
 refine ⟨fun i m σ H => ∃ τ ρ G, Ab X.K X.mg σ H τ ρ G ∧ d9 X.K H0 H ρ0 ρ ∧ uO X.K X.mg EE H ρ Dd (tX g body vw m i τ G), ⟨fuel, τ0, ρ0, G0, ab, .refl, ok⟩, ?_⟩
 rintro i m σ H ⟨τ, ρ, G, ab, f, ok⟩
 cases m with
 | zero => exact ok.elim
 | succ m =>
  unfold tX at ok
  obtain ⟨j1, j2⟩ := jv i H ρ G f ab.hp
  cases q : vw G i with
  | none => rw [q] at ok; exact ok.elim
  | some od =>
   rw [q] at ok
   cases od with
   | none => exact .inl ⟨j1 q, ok σ H ρ .refl ab⟩
   | some d =>
    dsimp only at ok
    obtain ⟨jg, jy⟩ := j2 d q
    refine .inr ⟨jg, fun σ' H' => ∃ τ' ρ' G', Ab X.K X.mg σ' H' τ' ρ' G' ∧ d9 X.K H0 H' ρ0 ρ' ∧ uO X.K X.mg EE H' ρ' Dd (tX g body vw m (i + 1) τ' G'), fun σ' H' z => ⟨m, Nat.lt_succ_self _, z⟩, fun x H' y => ?_⟩
    obtain ⟨⟨fN, hN⟩, rx⟩ := jy x H' y
    replace ok := uO.fut fN ok
    replace ab : Ab X.K X.mg σ H' τ ρ G := ab.fut fN (hN _ ab.hp)
    replace f := f.trans fN
    cases e : g d τ with
    | none => rw [e] at ok; exact ok.elim
    | some τ1 =>
     rw [e] at ok
     dsimp only at ok
     refine ⟨τ, ρ, G, d, τ1, ab, rx, e, fun σ' cG => ⟨τ1, ρ, G, cG, ?_⟩⟩
     cases eb : body τ1 G with
     | stuck => rw [eb] at ok; exact ok
     | nx τ2 G2 => rw [eb] at ok; exact fun σ2 H2 ρ2 f2 ef => ⟨τ2, ρ2, G2, ef, f.trans f2, ok.fut f2⟩
     | ct τ2 G2 => rw [eb] at ok; exact fun σ2 H2 ρ2 f2 ef => ⟨τ2, ρ2, G2, ef, f.trans f2, ok.fut f2⟩
     | bk τ2 G2 => rw [eb] at ok; exact ok
     | rt d G2 => rw [eb] at ok; exact ok
     | xn c τ2 G2 => rw [eb] at ok; exact ok
noncomputable def yl (g : pF) (mi : MI) (body : MS) : MS := fun τ => cZ (mi τ) (fun x G => tX g body x.2 x.1 0 τ G) fun c G => .xn c τ G
theorem Fl {body : List Stmt} (hp : PassesOwn (model X.prog X.w) X.A X.env X.xe) (hc : X.calm = true) (hi : QI X EE tg iter mi) (hg : QG X tg g) (hb : zI X EE body ms) (hs : pI iter = true := by rfl) :
  QS X EE (.For tg iter body [] pos) (yl g mi ms) := PS.mono (zw hp hc hi hg hb (qh hs _)) fun Dd σ H h => by
 obtain ⟨τ, ρ, G, ab, ok⟩ := h
 refine ⟨τ, ρ, G, ab, ?_⟩
 dsimp only [yl, cZ] at ok
 cases e : mi τ G with
 | stuck => rw [e] at ok; exact ok
 | dG c G' => rw [e] at ok; exact fun H' ρ' f cG => ok σ H' ρ' f cG
 | ok x G' => rw [e] at ok; exact fun J H' ρ' f cG jv => Dp jv cG (ok.fut f)
variable {gO : D → Option (List D)} {ow : V → Hp → List V → Prop} {xs : List Str} {ks : List Bool} {tt : DS → M Bool} {te : DS → M D}
variable {scope : Scope} {elt : Expr} {ifs : List Expr}
noncomputable def gP (i j : Nat) : pF := fun d τ => match d with
 | .tup [x, y] => some ((τ.set i (some x)).set j (some y))
 | _ => none
theorem Fo {x y : Str} {i j : Nat} {px py : Pos} {k : Nat} (hc : X.calm = true) (hN : X.N.Nodup) (hx : Loc X.env.scope x) (hy : Loc X.env.scope y) (hfx : X.fn x = true ∨ X.env.scope.names.lookup x = some .local) (Nm : X.fn y = true ∨ X.env.scope.names.lookup y = some .local) (hi : X.N[i]? = some x := by rfl) (hj : X.N[j]? = some y := by rfl) :
  QG X (.Tuple [.Name x px, .Name y py] k pos) (gP i j) := by
 intro pins s σ H v u Q I r ⟨τ, ρ, G, d, τ', ab, rd, e, q⟩
 refine Cs (n := 2) hc (lA (lR hN hi hx hfx) (lA (lR hN hj hy Nm) Aq)) rfl rfl pins s σ H v u Q I r ?_
 cases d <;> try (cases e; done)
 rename_i ds
 match ds, e with
 | [d1, d2], e =>
  cases e
  unfold Rep at rd
  obtain ⟨a, vs, rfl, sq, rs⟩ := rd
  obtain ⟨v1, v2, rfl, r1, r2⟩ := C4 rs
  exact ⟨a, [v1, v2], rfl, sq, rfl, v1, [v2], rfl, v2, [], rfl, rfl, q _ (Ab.set (Ab.set ab r1) r2)⟩
noncomputable def Nn (K : PySem.W.Frag) (a : Addr) : It :=
 ⟨fun i H => ∃ xs x, pq K H a xs ∧ xs[i]? = some x, fun i H y H' => ∃ x p, (∀ xs, pq K H a xs → xs[i]? = some x) ∧ H p = none ∧ y = .ref p ∧ H' = upd H p (.tup [.int i, x]), fun i H => ∃ xs, pq K H a xs ∧ xs.length ≤ i⟩
theorem BW {P : Program} {w : World} {K : PySem.W.Frag} {es : List Expr} {k : Nat} {pt : Pos} (l e it : Addr) (hne : e ≠ it) : Turn P w K (.Tuple es k pt) (Nn K l) [e, it] e (fun i h => ∃ old, IsEnum h e it i old ∧ h.IsListIter it l i) where
 mem := by simp
 obj := fun i h ⟨old, st1, st2⟩ b hb => by
  rcases List.mem_cons.mp hb with rfl | hb
  ·exact ⟨_, st1, fun v z => by cases z⟩
  ·have e : b = it := by simpa using hb
   subst e
   obtain ⟨o, e, c, d⟩ := st2
   exact ⟨o, e, fun v z => by rw [d] at z; cases z⟩
 keep := fun i h h' ⟨old, st1, st2⟩ kp => ⟨old, kp e (by simp) _ st1, st2.at fun o q => kp it (by simp) o q⟩
 item := by
  intro X hP hw hK hc i pins s σ H E I hf ⟨old, st1, st2⟩ hg
  subst hP hw hK
  obtain ⟨xs, x, hq, hx⟩ := hg
  obtain ⟨its, rv, p, hz⟩ := I.list hq
  obtain ⟨u, hu, ru⟩ := rv.get hx
  have Np : e < s.heap.objs.size := Heap.lt_size st1
  have IC : it < s.heap.objs.size := by obtain ⟨o, q, _⟩ := st2; exact Heap.lt_size q
  refine wpAny_pyNext_enum_item st1 st2 p.isList (x := u) (by simpa using hu) hne fun h' hO hL htup hsz kp => ?_
  refine ⟨.ref s.heap.objs.size, rfl, ?_⟩
  have I1 : Inv X pins σ (upd H s.heap.objs.size (.tup [.int i, x])) { s with heap := s.heap.push { cls := .type "tuple", data := .seq #[.int i s.toks, u] } } :=
   I.laid (t' := s.toks) (fun b o q => Heap.get?_push_of_some _ q) (Nat.le_refl _) ⟨by simp [sizeLine_eq], [.int i s.toks, u], .cons ⟨_, rfl⟩ (.cons ru .nil), PyProof.Rows.IsTup.new _ _⟩
  have hfree := I.hok.fresh (Nat.le_refl s.heap.objs.size)
  have hf1 : ∀ b ∈ [e, it], pV X pins (upd H s.heap.objs.size (.tup [.int i, x])) b := fun b hb => by
   have hlt : b ≠ s.heap.objs.size := by
    rcases List.mem_cons.mp hb with rfl | hb
    ·exact Nat.ne_of_lt Np
    ·rw [List.mem_singleton.mp hb]; exact Nat.ne_of_lt IC
   exact ⟨by rw [aK hlt]; exact (hf b hb).1, (hf b hb).2⟩
  unfold letOwnedTupleGo
  refine wpAny_bind (wpAny_load hO ?_)
  dsimp only
  rw [if_pos (by simp)]
  refine wpAny_bind (wpAny_rule ?_)
  unfold updateField
  refine wpAny_bind (wpAny_load hO ?_)
  dsimp only
  rw [if_pos (by simp)]
  refine wpAny_update hO ?_
  have yc : ∀ b, b ≠ e → (h'.update e (Obj.mapFields fun x => x.setIfInBounds 0 Value.none)).get? b = h'.get? b := fun b hb => Heap.get?_update_other _ _ (Ne.symm hb)
  refine ⟨.ref s.heap.objs.size, _, AK (t' := s.toks + 1) (s := { s with heap := s.heap.push { cls := .type "tuple", data := .seq #[.int i s.toks, u] } }) (ch := [e, it]) I1 (fun b o hb q => ?_) hf1, rfl, ⟨x, s.heap.objs.size, fun ys hy => by rw [I.xP hy hq]; exact hx, hfree, rfl, rfl⟩, ⟨u, ?_, ?_⟩, fun b hb => (hf1 b hb).1⟩
  ·have hb1 : b ≠ e := fun z => hb (by simp [z])
   have hb2 : b ≠ it := fun z => hb (by simp [z])
   show (h'.update e _).get? b = some o
   rw [yc b hb1]
   by_cases KL : b = s.heap.objs.size
   ·subst KL
    have := Heap.get?_push_size (o := { cls := .type "tuple", data := .seq #[.int (i : Int) s.toks, u] }) s.heap rfl
    rw [this] at q; cases q
    exact htup
   ·have q' : (s.heap.push { cls := .type "tuple", data := .seq #[.int (i : Int) s.toks, u] }).get? b = some o := q
    refine kp b o hb1 hb2 ?_
    rwa [Heap.get?_push_ne _ _ _ KL] at q'
  ·show (h'.update e _).get? e = _
   rw [Heap.get?_update_self _ hO rfl]
   rfl
  ·exact hL.at fun o q => (yc it (Ne.symm hne)).trans q
 done := by
  intro X hP hw hK hc i pins s σ H E I hf ⟨old, st1, st2⟩ hg
  subst hP hw hK
  obtain ⟨xs, hq, hx⟩ := hg
  obtain ⟨its, rv, p, hz⟩ := I.list hq
  obtain ⟨f0, f1, f2, f3, f4, f5⟩ := hf it (by simp)
  have hl := rv.length
  exact wpAny_pyNext_enum_end (I.ok.hd hc) st1 st2 p.isList (by simp; omega) fun h' eb => ⟨rfl, I.turned (t' := s.toks) (fun b o hb e => eb b o hb e) f0 f1 f3 f4 f5⟩
 self := fun _ _ _ _ _ ⟨old, st1, _⟩ h => wpAny_pyIter_enum st1 h
noncomputable def rQ (d : D) : View := fun G i => match bN G d with
 | some (.lst xs) => some (xs[i]?.map fun x => .tup [.int i, x])
 | _ => none
noncomputable def AL (m : DS → M (List D)) : MI := fun τ => (m τ).bind fun ds => match ds with
 | [d] => fun G => match bN G d with
  | some (.lst xs) => .ok (xs.length + 1, rQ d) G
  | _ => .stuck
 | _ => M.stop
theorem vS : bootBuiltins "enumerate" = some (.type "enumerate") := by decide +kernel
theorem Fp {K : PySem.W.Frag} {mg : Str → Option Value} {H0 : Hp} {ρ0 : List Addr} {G0 : DH} {d : D} {l : Addr} (r : Rep K mg ρ0 H0 d (.ref l)) (hd : ∃ xs, bN G0 d = some (.lst xs)) : JV K mg (Nn K l) (rQ d) H0 ρ0 := by
 intro i H ρ G f hp
 have key : ∀ zs, bN G d = some (.lst zs) → ∃ xs, pq K H l xs ∧ aE K mg ρ H zs xs := fun zs q => by
  have r' := Rep.mono f d _ r
  cases d with
  | con ws =>
   cases q
   unfold Rep at r'
   obtain ⟨a, xs, e, sq, rs⟩ := r'
   cases e
   exact ⟨xs, sq.seq, rs⟩
  | obj n =>
   unfold bN at q
   dsimp only at q
   unfold Rep at r'
   obtain ⟨a, e, e1⟩ := r'
   cases e
   cases g : G[n]? with
   | none => rw [g] at q; cases q
   | some o =>
    cases o with
    | dead => first | (rw [q] at ok; exact ok.elim) | (rw [q] at aU; exact aU.elim) | (rw [q] at e; cases e; done) | (rw [g] at ok; exact ok.elim) | (rw [g] at q; cases q; done) | (rw [g] at h; cases h; done) | (rw [g2] at ok; exact ok.elim) | (rw [g1, g2] at ok; exact ok.elim) | (rw [q1] at ok; exact ok.elim) | exact ok.elim
    | dct kv => first | (rw [q] at ok; exact ok.elim) | (rw [q] at aU; exact aU.elim) | (rw [q] at e; cases e; done) | (rw [g] at ok; exact ok.elim) | (rw [g] at q; cases q; done) | (rw [g] at h; cases h; done) | (rw [g2] at ok; exact ok.elim) | (rw [g1, g2] at ok; exact ok.elim) | (rw [q1] at ok; exact ok.elim) | exact ok.elim
    | pB fz kv => first | (rw [q] at ok; exact ok.elim) | (rw [q] at aU; exact aU.elim) | (rw [q] at e; cases e; done) | (rw [g] at ok; exact ok.elim) | (rw [g] at q; cases q; done) | (rw [g] at h; cases h; done) | (rw [g2] at ok; exact ok.elim) | (rw [g1, g2] at ok; exact ok.elim) | (rw [q1] at ok; exact ok.elim) | exact ok.elim
    | lst ws =>
     rw [g] at q; cases q
     obtain ⟨a', xs, e2, h2, rs⟩ := hp.lst g
     rw [e1] at e2; cases e2
     exact ⟨xs, .of h2, rs⟩
  | tup ws => cases q
  | str z => cases q
  | _ => cases q
 unfold rQ
 cases q : bN G d with
 | none => exact ⟨fun e => (by cases e), fun x e => (by cases e)⟩
 | some sk =>
  cases sk with
  | tup zs => exact ⟨fun e => (by cases e), fun x e => (by cases e)⟩
  | str z => exact ⟨fun e => (by cases e), fun x e => (by cases e)⟩
  | lst zs =>
   obtain ⟨xs, sq, rs⟩ := key zs q
   dsimp only
   constructor
   ·intro e
    cases qi : zs[i]? with
    | some z => rw [qi] at e; cases e
    | none => exact ⟨xs, sq, by rw [← rs.length]; exact List.getElem?_eq_none_iff.mp qi⟩
   ·intro dd e
    cases qi : zs[i]? with
    | none => rw [qi] at e; cases e
    | some z =>
     rw [qi] at e; cases e
     obtain ⟨v, ev, rv⟩ := rs.get qi
     refine ⟨⟨xs, v, sq, ev⟩, fun y H' hy => ?_⟩
     obtain ⟨v', p, ev', hp0, rfl, rfl⟩ := hy
     have ev' := ev' xs sq
     rw [ev] at ev'; cases ev'
     refine ⟨yj.new hp0, ?_⟩
     unfold Rep
     refine ⟨p, [.int i, v], rfl, .of bT, .cons (by unfold Rep; rfl) (.cons (Rep.mono (gD hp0 ρ) _ _ rv) .nil)⟩
theorem Fq {es : List Expr} {k : Nat} {pt : Pos} (hm : X.mg "enumerate" = none) (Gb : Gl X "enumerate") (ha : QA X EE [a] m) (h : bf [a] = true := by rfl) : QI X EE (.Tuple es k pt) (.Call (.Name "enumerate" p) [a] [] pc) (AL m) := by
 have h' : ff a = true ∧ bf [] = true := by simpa [bf] using h
 intro pins s σ H R I hq
 obtain ⟨τ, ρ, G, ab, ok⟩ := hq
 dsimp only [AL, M.bind] at ok
 refine wpAny_Call_Name_kw (nh I Gb hm vS ?_ (by decide) (by decide))
 have hA : tG X.K X.mg EE m σ H fun vs H1 => ∃ ρ1 G1 ds, Ab X.K X.mg σ H1 τ ρ1 G1 ∧ d9 X.K H H1 ρ ρ1 ∧ aE X.K X.mg ρ1 H1 ds vs ∧ m τ G = .ok ds G1 := by
  refine ⟨τ, ρ, G, ab, ?_⟩
  cases e : m τ G with
  | stuck => rw [e] at ok; exact ok
  | dG c G' => rw [e] at ok; exact ok
  | ok ds G' => exact fun vs H' ρ' f cG r => ⟨ρ', G', ds, cG, f, r, rfl⟩
 refine PyProof.Rows.callWith_type1 (gm (ha pc pins s σ H _ I hA) fun us s1 HK => ?_) (dN h'.1 _ _) (eB (es := []) rfl)
 obtain ⟨vs, H1, I1, r1, ρ1, G1, ds, wJ, f1, rs, em⟩ := HK
 rw [em] at ok
 dsimp only at ok
 match ds, rs, ok with
 | [], _, ok => exact ok.elim
 | _ :: _ :: _, _, ok => exact ok.elim
 | [d], rs, ok =>
  obtain ⟨x, rfl, rx⟩ := rN rs
  obtain ⟨u, rfl, ru⟩ := vals1 r1
  dsimp only at ok
  cases q : bN G1 d with
  | none => rw [q] at ok; exact ok.elim
  | some sk =>
   rw [q] at ok
   cases sk with
   | tup zs => exact ok.elim
   | str z => exact ok.elim
   | lst zs =>
    dsimp only at ok
    obtain ⟨l, ys, rfl, sq, rv⟩ := eV (pins := pins) (σ0 := σ) (s := s1) wJ.hp rx q
    cases ru
    obtain ⟨its, vv, pl, hz⟩ := I1.list sq
    refine call_enumerate_list pl.isList fun h2 hE hL hsz kp => ?_
    refine wpAny_pyIter_enum hE ?_
    have I2 : Inv X pins σ H1 { s1 with heap := h2 } := I1.kept (t' := s1.toks) kp
    refine ⟨s1.heap.objs.size + 1, [s1.heap.objs.size + 1, s1.heap.objs.size], _, Nn X.K l, H1, rfl, I2, BW l _ _ (Nat.succ_ne_self _), ⟨_, hE, hL⟩, fun b hb => ?_, ok _ H1 ρ1 f1 wJ (Fp rx ⟨zs, q⟩)⟩
    rcases List.mem_cons.mp hb with rfl | hb
    ·exact I1.xQ (Nat.le_succ _) (I1.hok.fresh (Nat.le_succ _))
    ·rw [List.mem_singleton.mp hb]
     exact I1.xQ (Nat.le_refl _) (I1.hok.fresh (Nat.le_refl _))
end
end L3
end
section
set_option Elab.async false
set_option linter.all false
set_option maxRecDepth 100000
namespace L3
open PySem PySem.Spec L2
theorem lz {n : Nat} (h : n ≤ 2000000) : n ≤ sizeLine := by rw [sizeLine_eq]; omega
theorem zj (A : DH) (x : DO) (B : DH) : (A ++ x :: B)[A.length]? = some x := by simp
theorem BX (A : DH) (x y : DO) (B : DH) : (A ++ x :: y :: B)[A.length + 1]? = some y := by
 rw [List.getElem?_append_right (by omega)]; simp
theorem BY (A : DH) (x y : DO) (B : DH) : (A ++ x :: B).set A.length y = A ++ y :: B := by
 rw [List.set_append_right _ _ (Nat.le_refl _)]; simp
theorem Dq (A : DH) (x y z : DO) (B : DH) : (A ++ x :: y :: B).set (A.length + 1) z = A ++ x :: z :: B := by
 rw [List.set_append_right _ _ (by omega)]; simp
theorem vU {G E : DH} {n : Nat} {o : DO} (h : G[n]? = some o) : (G ++ E)[n]? = some o := by
 rw [List.getElem?_append_left (List.getElem?_eq_some_iff.mp h).1]; exact h
theorem mj (g : Bool) (i j : Int) (G : DH) : nS g (.int i) (.int j) G = .ok (.bl (g ^^ (i == j))) G := by
 simp [nS, BE, m8, PyData.canLay0, PyData.depth, PyData.eqv]
theorem Ft (g : Bool) (a b : Str) (G : DH) (ha : PyData.strOk a = true) (hb : PyData.strOk b = true) : nS g (.str a) (.str b) G = .ok (.bl (g ^^ (a == b))) G := by
 simp [nS, BE, m8, PyData.canLay0, PyData.depth, PyData.eqv, ha, hb]
theorem rR (G : DH) : ∀ ws : List Str, ek (m8 G deep) (ws.map D.str) = some (ws.map PyData.str)
 | [] => rfl
 | w :: ws => by
  have ih := rR G ws
  simp only [List.map_cons, ek, ih]
  rfl
theorem ym (t : Str) (ws : List Str) (G : DH) (h : PyData.strOk t = true) (hw : PyData.canLayAll0 (ws.map PyData.str) = true) : Ep (.str t) (ws.map D.str) G = some (ws.any (· == t)) := by
 have e1 : m8 G deep (.str t) = some (.str t) := rfl
 unfold Ep
 rw [e1, rR]
 dsimp only
 have c1 : (PyData.str t).canLay0 = true := by simpa [PyData.canLay0] using h
 have c3 : min (PyData.depthAll (ws.map PyData.str)) (PyData.str t).depth ≤ 580 := by
  have : (PyData.str t).depth ≤ 580 := by simp [PyData.depth]
  omega
 rw [if_pos (by rw [c1, hw]; simpa using c3)]
 simp only [List.any_map]
 congr 1
theorem good_add {a b : Str} (ha : PyData.strOk a = true) (hb : PyData.strOk b = true) : PyData.strOk (a ++ b) = true := by
 have e : (a ++ b).cps = a.cps ++ b.cps := rfl
 unfold PyData.strOk at *
 rw [e, Array.all_append, ha, hb]; rfl
theorem sQ (a b : Str) : (a ++ b).length = a.length + b.length := by
 show (a.cps ++ b.cps).size = a.cps.size + b.cps.size
 simp
theorem ny {α : Type} {xs : List α} {i : Int} (h0 : 0 ≤ i) (h1 : i < xs.length) : ∃ v, ki xs i = some v ∧ xs[i.toNat]? = some v := by
 have hi : i.toNat < xs.length := by omega
 refine ⟨xs[i.toNat], ?_, List.getElem?_eq_getElem hi⟩
 have := jH (xs := xs) (j := i.toNat) (v := xs[i.toNat]) (List.getElem?_eq_getElem hi)
 rwa [show ((i.toNat : Nat) : Int) = i by omega] at this
theorem ID (z : Str) (i : Int) (G : DH) (h0 : 0 ≤ i) (h1 : i < z.length) (hz : z.length ≤ 1000) (hok : PyData.strOk z = true) : ∃ s, dg (.str z) (.int i) G = .ok (.str s) G ∧ PyData.strOk s = true ∧ s.length = 1 := by
 have hs : z.length ≤ sizeLine := lz (by omega)
 have hl : z.length = z.cps.toList.length := by simp [Str.length]
 have hi : i.toNat < z.cps.toList.length := by omega
 obtain ⟨c, e, ec⟩ := ny (xs := z.cps.toList) (i := i) h0 (by omega)
 refine ⟨⟨#[c]⟩, ?_, ?_, rfl⟩
 ·simp only [dg, bN, if_pos hs, e]
 ·have h2 : z.cps.toList.all (· < 0x110000) = true := by simpa [PyData.strOk] using hok
  have := List.all_eq_true.mp h2 _ (List.mem_of_getElem? ec)
  simpa [PyData.strOk] using this
theorem nY {j : Int} (h0 : 0 ≤ j) (h1 : j < 100000) : qZ [.int j] = some ((List.range' 0 j.toNat).map fun (k : Nat) => .int (0 + (k : Int))) := by
 show (if -(2 ^ 62) ≤ j ∧ j < 2 ^ 62 then some ((List.range j.toNat).map fun (k : Nat) => D.int (0 + (k : Int))) else none) = _
 rw [if_pos ⟨by omega, by omega⟩, List.range_eq_range']
end L3
end
section
set_option Elab.async false
set_option linter.all false
set_option maxRecDepth 100000
namespace L3
open PySem PySem.Spec L2
noncomputable def Res.sq (r : Res) (k : MS) : Res := match r with
 | .nx τ G => k τ G
 | r => r
noncomputable def Out.cs (r : Out Bool) (a b : MS) (τ : DS) : Res := match r with
 | .stuck => .stuck
 | .ok c G => if c = true then a τ G else b τ G
 | .dG c G => .xn c τ G
noncomputable def Out.st (r : Out D) (i : Nat) (τ : DS) : Res := match r with
 | .stuck => .stuck
 | .ok d G => .nx (τ.set i (some d)) G
 | .dG c G => .xn c τ G
noncomputable def Out.xp (r : Out D) (τ : DS) : Res := match r with
 | .stuck => .stuck
 | .ok d G => .nx τ G
 | .dG c G => .xn c τ G
noncomputable def Out.rn (r : Out D) (τ : DS) : Res := match r with
 | .stuck => .stuck
 | .ok d G => .rt d G
 | .dG c G => .xn c τ G
noncomputable def Out.bd {α β : Type} (r : Out α) (k : α → M β) : Out β := match r with
 | .stuck => .stuck
 | .ok a G => k a G
 | .dG c G => .dG c G
noncomputable def Out.sb {α : Type} (r : Out α) (τ : DS) (k : α → DH → Res) : Res := match r with
 | .stuck => .stuck
 | .ok a G => k a G
 | .dG c G => .xn c τ G
noncomputable def Res.fn (r : Res) : Out D := match r with
 | .stuck => .stuck
 | .nx _ G' => .ok .gk G'
 | .rt d G' => .ok d G'
 | .bk _ _ => .stuck
 | .ct _ _ => .stuck
 | .xn c _ G' => .dG c G'
noncomputable def Res.lp (r : Res) (k : MS) : Res := match r with
 | .nx τ G => k τ G
 | .ct τ G => k τ G
 | .bk τ G => .nx τ G
 | r => r
section
variable {m k : MS} {t ta tb : DS → M Bool} {a b : MS} {τ : DS} {G : DH} {e ma mb mo : DS → M D} {i n : Nat} {d : D} {c : XD} {α β : Type} {ml : DS → M (List D)} {f : D → D → M D} {fl : List D → M D}
theorem gf : bu m k τ G = (m τ G).sq k := by
 unfold bu Res.sq
 cases m τ G <;> rfl
theorem jz : (Res.nx τ G).sq k = k τ G := Eq.trans rfl rfl
theorem AM : (Res.rt d G).sq k = .rt d G := Eq.trans rfl rfl
theorem Gj : (Res.xn c τ G).sq k = .xn c τ G := Eq.trans rfl rfl
theorem AN : pS t a b τ G = (t τ G).cs a b τ := by
 unfold pS cZ Out.cs
 cases t τ G <;> rfl
theorem Fv : (Out.ok true G).cs a b τ = a τ G := Eq.trans rfl rfl
theorem Fw : (Out.ok false G).cs a b τ = b τ G := Eq.trans rfl rfl
theorem tY : cu i e τ G = (e τ G).st i τ := by
 unfold cu cZ Out.st
 cases e τ G <;> rfl
theorem yo : (Out.ok d G).st i τ = .nx (τ.set i (some d)) G := Eq.trans rfl rfl
theorem KN : (Out.dG c G).st i τ = .xn c τ G := Eq.trans rfl rfl
theorem AO : jX e τ G = (e τ G).xp τ := by
 unfold jX cZ Out.xp
 cases e τ G <;> rfl
theorem Gk : (Out.ok d G).xp τ = .nx τ G := Eq.trans rfl rfl
theorem KO : (Out.dG c G).xp τ = .xn c τ G := Eq.trans rfl rfl
theorem wZ : jI e τ G = (e τ G).rn τ := by
 unfold jI cZ Out.rn
 cases e τ G <;> rfl
theorem AQ : (Out.ok d G).rn τ = .rt d G := Eq.trans rfl rfl
theorem sR : dS τ G = .nx τ G := Eq.trans rfl rfl
theorem yp {x : α} {q : α → M β} : (Out.ok x G).bd q = q x G := Eq.trans rfl rfl
theorem dw {mm : M α} {q : α → M β} : M.bind mm q G = (mm G).bd q := by
 unfold M.bind Out.bd
 cases mm G <;> rfl
theorem yq {x : α} : M.ret x G = .ok x G := Eq.trans rfl rfl
theorem tZ : aj i τ G = match τ[i]? with
 | some (some d) => .ok d G
 | _ => .stuck := Eq.trans rfl rfl
theorem Dr : eC d τ G = .ok d G := Eq.trans rfl rfl
theorem yr : aM f ma mb τ G = (ma τ G).bd fun x => (mb τ).bind fun y => f x y := dw
theorem sS : aG fl ml τ G = (ml τ G).bd fl := dw
theorem w4 : aL τ G = .ok [] G := Eq.trans rfl rfl
theorem sU : ah ma ml τ G = (ma τ G).bd fun x => (ml τ).bind fun xs => M.ret (x :: xs) := dw
noncomputable def KP : D → M Bool
 | .bl b => M.ret b
 | _ => M.stop
theorem AR : jR e τ G = (e τ G).bd KP := by
 unfold jR
 rw [dw]
 unfold Out.bd
 cases e τ G <;> try rfl
theorem w6 {b : Bool} : KP (.bl b) G = .ok b G := Eq.trans rfl rfl
theorem yt {q : D → M Bool} : qX q e τ G = (e τ G).bd q := dw
theorem AS : CU t τ G = (t τ G).bd fun c => M.ret (!c) := dw
theorem Dt : tO ta tb τ G = (ta τ G).bd fun c => if c = true then M.ret true else tb τ := dw
theorem AU : oq ta tb τ G = (ta τ G).bd fun c => if c = true then tb τ else M.ret false := dw
theorem AV {mf : List D → M D} : e9 n mf ml τ G = (ml τ G).bd fun ds => if ds.length = n then mf ds else M.stop := dw
theorem yu {T : String} {g : D → List D → M D} : fc T g mo ml τ G = (mo τ G).bd fun d G => if kM T G d = true then (ml τ G).bd (g d) else .stuck := by
 unfold fc
 rw [dw]
 unfold Out.bd
 cases mo τ G with
 | stuck => rfl
 | dG c G => rfl
 | ok d G' => simp only [dw]; rfl
theorem Gm : MZ t ma mb τ G = (t τ G).bd fun c => if c = true then ma τ else mb τ := dw
theorem nZ {Eu : List D → Option (List D)} {g : pF} {body : MS} : gH Eu g ml body τ G = (ml τ G).sb τ fun ds G => match Eu ds with
  | some xs => cN g body xs τ G
  | none => .stuck := by
 unfold gH cZ Out.sb
 cases ml τ G <;> rfl
theorem yw {g : pF} {body : MS} : kL g e body τ G = (e τ G).sb τ fun d G => match d with
  | .obj n => match G[n]? with
   | some (.lst xs) => wL g body n (xs.length + 1) 0 τ G
   | _ => .stuck
  | .tup xs => cN g body xs τ G
  | .con xs => cN g body xs τ G
  | .str z => cN g body (z.cps.toList.map fun c => .str ⟨#[c]⟩) τ G
  | _ => .stuck := by
 unfold kL cZ Out.sb
 cases e τ G <;> rfl
theorem AW {g : pF} {mi : MI} {body : MS} : yl g mi body τ G = (mi τ G).sb τ fun x G => tX g body x.2 x.1 0 τ G := by
 unfold yl cZ Out.sb
 cases mi τ G <;> rfl
theorem AX {x : α} {q : α → DH → Res} : (Out.ok x G).sb τ q = q x G := Eq.trans rfl rfl
theorem AY {gO : D → Option (List D)} {ks : List Bool} {tt : DS → M Bool} {te : DS → M D} : jZ gO ks e tt te τ G = (e τ G).bd fun d G => match d with
  | .obj k => match G[k]? with
   | some (.lst xs) => oz gO ks tt te G.length k (xs.length + 1) 0 τ (G ++ [.lst []])
   | _ => .stuck
  | .tup xs => fG gO ks tt te G.length xs τ (G ++ [.lst []])
  | .con xs => fG gO ks tt te G.length xs τ (G ++ [.lst []])
  | .str z => fG gO ks tt te G.length (z.cps.toList.map fun c => .str ⟨#[c]⟩) τ (G ++ [.lst []])
  | _ => .stuck := dw
theorem t6 {ds : List D} : iB n m ds G = (m (ds.map some ++ List.replicate (n - ds.length) none) G).fn := by
 unfold iB Res.fn
 cases m (ds.map some ++ List.replicate (n - ds.length) none) G <;> rfl
theorem Gn : (Res.nx τ G).fn = .ok .gk G := Eq.trans rfl rfl
theorem AZ : (Res.rt d G).fn = .ok d G := Eq.trans rfl rfl
theorem KQ : (Res.xn c τ G).fn = .dG c G := Eq.trans rfl rfl
theorem Gp {lo hi : DS → M (Option Int)} : Ck e lo hi τ G = (e τ G).bd fun d => (lo τ).bind fun l => (hi τ).bind fun h => Cj d l h := dw
theorem A0 : om τ G = .ok none G := Eq.trans rfl rfl
noncomputable def Gq : D → M (Option Int)
 | .int i => M.ret (some i)
 | _ => M.stop
theorem A1 : kj e τ G = (e τ G).bd Gq := by
 unfold kj
 rw [dw]
 unfold Out.bd
 cases e τ G <;> try rfl
theorem A2 {i : Int} : Gq (.int i) G = .ok (some i) G := Eq.trans rfl rfl
theorem jA : (Res.nx τ G).lp k = k τ G := Eq.trans rfl rfl
theorem vV : (Res.rt d G).lp k = .rt d G := Eq.trans rfl rfl
theorem vW : (Res.xn c τ G).lp k = .xn c τ G := Eq.trans rfl rfl
theorem cR {g : pF} {body : MS} {x : D} {r : List D} {τ1 : DS} (h : g x τ = some τ1) : cN g body (x :: r) τ G = (body τ1 G).lp (cN g body r) := by
 rw [cN, h]
 dsimp only
 unfold Res.lp
 cases body τ1 G <;> rfl
end
end L3
end
section
set_option Elab.async false
set_option linter.all false
set_option maxRecDepth 100000
namespace L3
open PySem PySem.Spec L2
noncomputable def rp (c : Nat) (s : List Nat) (l : List Nat) : List Nat := l.flatMap fun x => if x = c then s else [x]
end L3
end
section
set_option Elab.async false
set_option linter.all false
set_option maxRecDepth 100000
namespace L3
open PySem PySem.Spec L2
section
variable {m k mb me : MS} {τ : DS} {G : DH} {e : DS → M D} {c : XD} {x : Str} {ml : DS → M (List D)} {d : D}
theorem Gr {f : D → M D} : sP f e τ G = (e τ G).bd f := dw
noncomputable def Res.tr (r : Res) (mh : XD → MS) (me : MS) : Res := match r with
 | .nx τ' G' => me τ' G'
 | .xn c τ' G' => mh c τ' G'
 | r => r
theorem Du {mh : XD → MS} : De mb mh me τ G = (mb τ G).tr mh me := by
 unfold De Res.tr
 cases mb τ G <;> rfl
theorem Gs {mh : XD → MS} : (Res.nx τ G).tr mh me = me τ G := Eq.trans rfl rfl
theorem Gu {mh : XD → MS} : (Res.xn c τ G).tr mh me = mh c τ G := Eq.trans rfl rfl
end
end L3
end
section
set_option Elab.async false
set_option linter.all false
set_option maxRecDepth 100000
namespace L3
open PySem PySem.Spec L2
mutual
noncomputable def D.closed : D → Bool
 | .tup ds => aO ds
 | .con ds => aO ds
 | .obj _ => false
 | .jV _ _ => false
 | _ => true
noncomputable def aO : List D → Bool
 | [] => true
 | d :: r => d.closed && aO r
end
mutual
noncomputable def D.beq : D → D → Bool
 | .gk, .gk => true
 | .bl a, .bl b => a == b
 | .int a, .int b => a == b
 | .str a, .str b => a == b
 | .tup a, .tup b => rB a b
 | .con a, .con b => rB a b
 | .obj a, .obj b => a == b
 | .fn a, .fn b => a == b
 | .jV a x, .jV b y => a == b && rB x y
 | _, _ => false
noncomputable def rB : List D → List D → Bool
 | [], [] => true
 | a :: r, b :: q => a.beq b && rB r q
 | _, _ => false
end
noncomputable def t7 {κ : Type} [DecidableEq κ] : List (κ × D) → List (κ × D) → Bool
 | [], [] => true
 | a :: r, b :: q => decide (a.1 = b.1) && a.2.beq b.2 && t7 r q
 | _, _ => false
noncomputable def DO.beq : DO → DO → Bool
 | .lst a, .lst b => rB a b
 | .dead, .dead => true
 | .dct a, .dct b => t7 a b
 | .pB f a, .pB g b => (f == g) && t7 a b
 | _, _ => false
noncomputable def lF : DH → DH → Bool
 | [], [] => true
 | a :: r, b :: q => a.beq b && lF r q
 | _, _ => false
mutual
theorem D.beq_eq : ∀ (a b : D), a.beq b = true → a = b
 | .gk, b, h => by cases b <;> simp_all [D.beq]
 | .bl a, b, h => by cases b <;> simp_all [D.beq]
 | .int a, b, h => by cases b <;> simp_all [D.beq]
 | .str a, b, h => by cases b <;> simp_all [D.beq]
 | .tup a, b, h => by
  cases b <;> try (simp [D.beq] at h; done)
  rename_i y
  rw [qp a y (by simpa [D.beq] using h)]
 | .con a, b, h => by
  cases b <;> try (simp [D.beq] at h; done)
  rename_i y
  rw [qp a y (by simpa [D.beq] using h)]
 | .obj a, b, h => by cases b <;> simp_all [D.beq]
 | .fn a, b, h => by cases b <;> simp_all [D.beq]
 | .jV c x, b, h => by
  cases b <;> try (simp [D.beq] at h; done)
  rename_i d y
  have h' : c = d ∧ rB x y = true := by simpa [D.beq] using h
  rw [h'.1, qp x y h'.2]
theorem qp : ∀ (a b : List D), rB a b = true → a = b
 | [], b, h => by cases b <;> simp_all [rB]
 | x :: r, b, h => by
  cases b with
  | nil => simp [rB] at h
  | cons y q =>
   have h' : x.beq y = true ∧ rB r q = true := by simpa [rB] using h
   rw [D.beq_eq x y h'.1, qp r q h'.2]
end
mutual
theorem D.yx : ∀ (a : D), a.beq a = true
 | .gk => rfl
 | .bl a => by simp [D.beq]
 | .int a => by simp [D.beq]
 | .str a => by simp [D.beq]
 | .tup a => by simp [D.beq, lG a]
 | .con a => by simp [D.beq, lG a]
 | .obj a => by simp [D.beq]
 | .fn a => by simp [D.beq]
 | .jV c x => by simp [D.beq, lG x]
theorem lG : ∀ (a : List D), rB a a = true
 | [] => rfl
 | x :: r => by simp [rB, D.yx x, lG r]
end
theorem rC {κ : Type} [DecidableEq κ] : ∀ (a : List (κ × D)), t7 a a = true
 | [] => rfl
 | x :: r => by simp [t7, D.yx x.2, rC r]
theorem w9 {κ : Type} [DecidableEq κ] : ∀ (a b : List (κ × D)), t7 a b = true → a = b
 | [], b, h => by cases b <;> simp_all [t7]
 | x :: r, b, h => by
  cases b with
  | nil => simp [t7] at h
  | cons y q =>
   have h' : (x.1 = y.1 ∧ x.2.beq y.2 = true) ∧ t7 r q = true := by simpa [t7] using h
   rw [w9 r q h'.2, Prod.ext h'.1.1 (D.beq_eq _ _ h'.1.2)]
theorem iO : ∀ (a : DH), lF a a = true
 | [] => rfl
 | x :: r => by
  cases x with
  | lst a => simp [lF, DO.beq, lG a, iO r]
  | dead => simp [lF, DO.beq, iO r]
  | dct kv => simp [lF, DO.beq, rC kv, iO r]
  | pB f kv => simp [lF, DO.beq, rC kv, iO r]
theorem qt : ∀ (a b : DH), lF a b = true → a = b
 | [], b, h => by cases b <;> simp_all [lF]
 | x :: r, b, h => by
  cases b with
  | nil => simp [lF] at h
  | cons y q =>
   have h' : x.beq y = true ∧ lF r q = true := by simpa [lF] using h
   rw [qt r q h'.2]
   congr 1
   cases x with
   | lst u =>
    cases y with
    | lst v => rw [qp u v (by simpa [DO.beq] using h'.1)]
    | dead => simp [DO.beq] at h'
    | dct kv => simp [DO.beq] at h'
    | pB fz kv => simp [DO.beq] at h'
   | dead =>
    cases y with
    | lst v => simp [DO.beq] at h'
    | dead => rfl
    | dct kv => simp [DO.beq] at h'
    | pB fz kv => simp [DO.beq] at h'
   | dct kv =>
    cases y with
    | lst v => simp [DO.beq] at h'
    | dead => simp [DO.beq] at h'
    | dct v => rw [w9 kv v (by simpa [DO.beq] using h'.1)]
    | pB g v => simp [DO.beq] at h'
   | pB f kv =>
    cases y with
    | lst v => simp [DO.beq] at h'
    | dead => simp [DO.beq] at h'
    | dct v => simp [DO.beq] at h'
    | pB g v =>
     have h2 : f = g ∧ t7 kv v = true := by simpa [DO.beq] using h'.1
     rw [h2.1, w9 kv v h2.2]
section
variable {K : PySem.W.Frag} {mg : Str → Option Value} {H H' : Hp} {ρ ρ' : List Addr} {G G' : DH}
mutual
theorem t8 : ∀ (d : D) (v : V), d.closed = true → Rep K mg ρ H d v → Rep K mg ρ' H d v
 | .gk, v, c, h => by unfold Rep at h ⊢; exact h
 | .bl b, v, c, h => by unfold Rep at h ⊢; exact h
 | .int i, v, c, h => by unfold Rep at h ⊢; exact h
 | .str x, v, c, h => by unfold Rep at h ⊢; exact h
 | .tup ds, v, c, h => by
  unfold Rep at h ⊢
  obtain ⟨a, xs, e, s, r⟩ := h
  exact ⟨a, xs, e, s, i9 ds xs (by simpa [D.closed] using c) r⟩
 | .con ds, v, c, h => by
  unfold Rep at h ⊢
  obtain ⟨a, xs, e, s, r⟩ := h
  exact ⟨a, xs, e, s, i9 ds xs (by simpa [D.closed] using c) r⟩
 | .obj n, v, c, h => by simp [D.closed] at c
 | .fn x, v, c, h => by unfold Rep at h ⊢; exact h
 | .jV _ _, v, c, h => by simp [D.closed] at c
theorem i9 : ∀ (ds : List D) (vs : List V), aO ds = true → aE K mg ρ H ds vs → aE K mg ρ' H ds vs
 | [], vs, c, h => by unfold aE at h ⊢; exact h
 | d :: ds, vs, c, h => by
  have c' : d.closed = true ∧ aO ds = true := by simpa [aO] using c
  unfold aE at h ⊢
  obtain ⟨v, r, e, h1, h2⟩ := h
  exact ⟨v, r, e, t8 d v c'.1 h1, i9 ds r c'.2 h2⟩
end
mutual
theorem Rep.back (p : ∃ r, ρ' = ρ ++ r) : ∀ (d : D) (v0 v : V), Rep K mg ρ H d v0 → Rep K mg ρ' H' d v → Rep K mg ρ H' d v
 | .gk, v0, v, h0, h => by unfold Rep at h ⊢; exact h
 | .bl b, v0, v, h0, h => by unfold Rep at h ⊢; exact h
 | .int i, v0, v, h0, h => by unfold Rep at h ⊢; exact h
 | .str x, v0, v, h0, h => by unfold Rep at h ⊢; exact h
 | .tup ds, v0, v, h0, h => by
  unfold Rep at h0 h ⊢
  obtain ⟨a, xs, e, s, r⟩ := h
  obtain ⟨a0, zU, e0, s0, r0⟩ := h0
  exact ⟨a, xs, e, s, aE.back p ds zU xs r0 r⟩
 | .con ds, v0, v, h0, h => by
  unfold Rep at h0 h ⊢
  obtain ⟨a, xs, e, s, r⟩ := h
  obtain ⟨a0, zU, e0, s0, r0⟩ := h0
  exact ⟨a, xs, e, s, aE.back p ds zU xs r0 r⟩
 | .obj n, v0, v, h0, h => by
  unfold Rep at h0 h ⊢
  obtain ⟨a, e, q⟩ := h
  obtain ⟨a0, e0, q0⟩ := h0
  obtain ⟨r, rfl⟩ := p
  rw [List.getElem?_append_left (List.getElem?_eq_some_iff.mp q0).1] at q
  exact ⟨a, e, q⟩
 | .fn x, v0, v, h0, h => by unfold Rep at h ⊢; exact h
 | .jV c as, v0, v, h0, h => by unfold Rep at h ⊢; exact h
theorem aE.back (p : ∃ r, ρ' = ρ ++ r) : ∀ (ds : List D) (Nq vs : List V), aE K mg ρ H ds Nq → aE K mg ρ' H' ds vs → aE K mg ρ H' ds vs
 | [], Nq, vs, h0, h => by unfold aE at h ⊢; exact h
 | d :: ds, Nq, vs, h0, h => by
  unfold aE at h0 h ⊢
  obtain ⟨v, r, e, h1, h2⟩ := h
  obtain ⟨v0, r0, e0, Ng, Nr⟩ := h0
  exact ⟨v, r, e, Rep.back p d v0 v Ng h1, aE.back p ds r0 r Nr h2⟩
end
theorem kc.cut (h : kc K mg H ρ G) (p : ∃ r, ρ' = ρ ++ r) (h' : kc K mg H' ρ' G') (e : G'.take G.length = G) : kc K mg H' ρ G := by
 refine ⟨h.hl, h.nd, fun n o q => ?_⟩
 have hn : n < G.length := (List.getElem?_eq_some_iff.mp q).1
 have q' : G'[n]? = some o := by
  rw [← e, List.getElem?_take] at q
  rw [if_pos hn] at q; exact q
 obtain ⟨a0, e0, r0⟩ := h.ob n o q
 obtain ⟨a, e1, r1⟩ := h'.ob n o q'
 have ea : a = a0 := by
  obtain ⟨r, rfl⟩ := p
  rw [List.getElem?_append_left (by rw [h.hl]; exact hn), e0] at e1
  exact (Option.some.inj e1).symm
 subst ea
 refine ⟨a, e0, ?_⟩
 cases o with
 | dead => exact r1
 | dct kv =>
  obtain ⟨xs, e2, rs⟩ := r1
  obtain ⟨zU, _, IE⟩ := r0
  exact ⟨xs, e2, aE.back p _ zU xs IE rs⟩
 | pB f kv =>
  obtain ⟨xs, e2, rs⟩ := r1
  obtain ⟨zU, _, IE⟩ := r0
  exact ⟨xs, e2, aE.back p _ zU xs IE rs⟩
 | lst ds =>
  obtain ⟨xs, e2, rs⟩ := r1
  obtain ⟨zU, _, IE⟩ := r0
  exact ⟨xs, e2, aE.back p ds zU xs IE rs⟩
theorem sV {a : Addr} {o : Obj} {xs : List V} (e : H a = some (.lst xs)) (ρ : List Addr) : d9 K H (upd H a (.ly o (.lst xs))) ρ ρ := by
 refine ⟨fun b zs h => ?_, fun b zs h => ?_, ⟨[], by simp⟩, fun b φ h => h.upd e rfl⟩
 ·exact (by rw [zh, aK (oi h e (by intro z; cases z))]; exact h)
 ·rcases h with ⟨q, h⟩ | h
  ·exact .inl ⟨q, by rw [aK (oi h e (by intro z; cases z))]; exact h⟩
  ·exact .inr h
theorem kc.ly {n : Nat} {a : Addr} {o : Obj} {xs : List V} (h : kc K mg H ρ G) (hn : ρ[n]? = some a) (e : H a = some (.lst xs)) : kc K mg (upd H a (.ly o (.lst xs))) ρ (G.set n .dead) := by
 have f : d9 K H (upd H a (.ly o (.lst xs))) ρ ρ := sV e ρ
 refine ⟨by simp [h.hl], h.nd, fun m ob q => ?_⟩
 by_cases hm : n = m
 ·subst hm
  rw [List.getElem?_set, if_pos rfl] at q
  split at q
  ·cases q
   exact ⟨a, hn, _, bT⟩
  ·cases q
 ·rw [List.getElem?_set_ne hm] at q
  obtain ⟨b, e1, r'⟩ := h.ob m ob q
  have hb : b ≠ a := by
   rintro rfl
   obtain ⟨h1, Az⟩ := List.getElem?_eq_some_iff.mp hn
   obtain ⟨h2, En⟩ := List.getElem?_eq_some_iff.mp e1
   exact hm ((List.getElem_inj h.nd).mp (Az.trans En.symm))
  exact ⟨b, e1, r'.mono f fun u q => by rw [aK hb]; exact q⟩
end
section
variable {X : Cx} {EE : eU}
theorem A3 {pins : List (Addr × Obj)} {σ : L2.St} {H : Hp} {s : Shared} {a : Addr} {xs : List V} (I : Inv X pins σ H s) (e : H a = some (.lst xs)) : ∃ o, Inv X pins σ (upd H a (.ly o (.lst xs))) s := by
 obtain ⟨z, its, n, r, hg⟩ := I.hok a _ e
 refine ⟨_, I.un (H' := upd H a (.ly { cls := .type "list", data := .seq its.toArray n } (.lst xs))) (h' := s.heap) (t' := s.toks) ⟨fun b o q _ _ _ => q, fun b o q _ _ _ => ⟨o.slots, q⟩, fun b o q hn _ => ?_, fun b o q _ => ⟨o, q⟩, fun b ys q => ?_, fun b o u q => ?_, fun b ps q => ⟨#[], ?_⟩⟩ fun b u q => ?_⟩
 ·rw [aK (by rintro rfl; rw [e] at hn; cases hn)]; exact hn
 ·rw [aK (oi q e (by intro z; cases z))]; exact q
 ·rw [aK (oi q e (by intro z; cases z))]; exact q
 ·rw [aK (oi q e (by intro z; cases z)), q]; simp
 ·have ho : ∀ c y, H c = some (.own y) → upd H a (.ly { cls := .type "list", data := .seq its.toArray n } (.lst xs)) c = some (.own y) := fun c y w => by rw [aK (oi w e (by intro z; cases z))]; exact w
  have ht : ∀ c ys, H c = some (.tup ys) → upd H a (.ly { cls := .type "list", data := .seq its.toArray n } (.lst xs)) c = some (.tup ys) := fun c ys w => by rw [aK (oi w e (by intro z; cases z))]; exact w
  by_cases hb : b = a
  ·subst hb
   rw [bT] at q; cases q
   exact ⟨hg, (I.hok b _ e).stay (fun _ _ _ w => w) (fun c w => ho c b w) ht⟩
  ·rw [aK hb] at q
   exact (I.hok b u q).stay (fun _ _ _ w => w) (fun c w => ho c b w) ht
noncomputable def Gv (m : DS → M D) : DS → M D := fun τ G => match m τ G with
 | .ok (.obj n) G' => match G'[n]? with
  | some (.lst ds) => .ok (.con ds) (G'.set n .dead)
  | _ => .stuck
 | r => r
noncomputable def eFn (m : DS → M D) : DS → M D := fun τ G => match m τ G with
 | .ok (.obj n) G' => match G'[n]? with
  | some (.lst ds) => if n = G.length ∧ G'.length = n + 1 ∧ lF (G'.take G.length) G = true ∧ aO ds = true then .ok (.con ds) G else .stuck
  | _ => .stuck
 | r => r
theorem Dv {pins : List (Addr × Obj)} {σ : L2.St} {Q Q' : VK} {u : Value} {s : Shared} (h : EP X pins σ Q' u s) (hq : ∀ v H', Q' v H' → Q v H' ∨ ∃ a xs, v = .ref a ∧ H' a = some (.lst xs) ∧ ∀ o, Q v (upd H' a (.ly o (.lst xs)))) : EP X pins σ Q u s := by
 obtain ⟨v, H', I, r, q⟩ := h
 rcases hq v H' q with q | ⟨a, xs, rfl, e, q⟩
 ·exact ⟨v, H', I, r, q⟩
 ·obtain ⟨o, I'⟩ := A3 I e
  exact ⟨_, _, I', r, q o⟩
theorem A4 {e : Expr} {m : DS → M D} (ha : QE X EE e m) : QE X EE e (Gv m) := by
 intro pins s σ H Q I ⟨τ, ρ, G, ab, ok⟩
 dsimp only [Gv] at ok
 cases q : m τ G with
 | stuck => rw [q] at ok; exact ok.elim
 | dG c G' => rw [q] at ok; exact ha pins s σ H Q I ⟨τ, ρ, G, ab, by rw [q]; exact ok⟩
 | ok d G' =>
  rw [q] at ok
  by_cases hd : ∃ n, d = .obj n
  ·obtain ⟨n, rfl⟩ := hd
   dsimp only at ok
   cases g : G'[n]? with
   | none => rw [g] at ok; exact ok.elim
   | some o =>
    rw [g] at ok
    cases o with
    | dead => exact ok.elim
    | dct kv => exact ok.elim
    | pB fz kv => exact ok.elim
    | lst ds =>
     refine gm (ha pins s σ H (fun v H' => ∃ a xs, v = .ref a ∧ H' a = some (.lst xs) ∧ ∀ o, Q v (upd H' a (.ly o (.lst xs)))) I ⟨τ, ρ, G, ab, ?_⟩) fun u s' h => Dv h fun v H' q => .inr q
     rw [q]
     intro v H' ρ' f cG r
     unfold Rep at r
     obtain ⟨a, rfl, hn⟩ := r
     obtain ⟨a', xs, e1, e2, rs⟩ := cG.hp.lst g
     rw [hn] at e1; cases e1
     refine ⟨a, xs, rfl, e2, fun ob => ?_⟩
     have f2 : d9 X.K H' (upd H' a (.ly ob (.lst xs))) ρ' ρ' := sV e2 ρ'
     refine ok _ _ ρ' (f.trans f2) ⟨cG.st.mono f2, cG.hp.ly hn e2⟩ ?_
     unfold Rep
     exact ⟨a, xs, rfl, .inl ⟨ob, bT⟩, rs.mono f2⟩
  ·have ok' : nQ X.K X.mg EE H σ τ ρ (.ok d G') Q := by
    cases d <;> first | exact ok | exact absurd ⟨_, rfl⟩ hd
   exact ha pins s σ H Q I ⟨τ, ρ, G, ab, by rw [q]; exact ok'⟩
theorem bG {e : Expr} {m : DS → M D} (ha : QE X EE e m) : QE X EE e (eFn m) := by
 intro pins s σ H Q I ⟨τ, ρ, G, ab, ok⟩
 dsimp only [eFn] at ok
 cases q : m τ G with
 | stuck => rw [q] at ok; exact ok.elim
 | dG c G' => rw [q] at ok; exact ha pins s σ H Q I ⟨τ, ρ, G, ab, by rw [q]; exact ok⟩
 | ok d G' =>
  rw [q] at ok
  by_cases hd : ∃ n, d = .obj n
  ·obtain ⟨n, rfl⟩ := hd
   dsimp only at ok
   cases g : G'[n]? with
   | none => rw [g] at ok; exact ok.elim
   | some o =>
    rw [g] at ok
    cases o with
    | dead => exact ok.elim
    | dct kv => exact ok.elim
    | pB fz kv => exact ok.elim
    | lst ds =>
     dsimp only at ok
     by_cases hc : n = G.length ∧ G'.length = n + 1 ∧ lF (G'.take G.length) G = true ∧ aO ds = true
     ·rw [if_pos hc] at ok
      obtain ⟨hn0, hl, hb, hcl⟩ := hc
      refine gm (ha pins s σ H (fun v H' => ∃ a xs, v = .ref a ∧ H' a = some (.lst xs) ∧ ∀ o, Q v (upd H' a (.ly o (.lst xs)))) I ⟨τ, ρ, G, ab, ?_⟩) fun u s' h => Dv h fun v H' q => .inr q
      rw [q]
      intro v H' ρ' f cG r
      unfold Rep at r
      obtain ⟨a, rfl, hn⟩ := r
      obtain ⟨a', xs, e1, e2, rs⟩ := cG.hp.lst g
      rw [hn] at e1; cases e1
      refine ⟨a, xs, rfl, e2, fun ob => ?_⟩
      have f2 : d9 X.K H' (upd H' a (.ly ob (.lst xs))) ρ' ρ' := sV e2 ρ'
      have f3 : d9 X.K H (upd H' a (.ly ob (.lst xs))) ρ ρ := ⟨fun b ys w => f2.tup b ys (f.tup b ys w), fun b ys w => f2.con b ys (f.con b ys w), ⟨[], by simp⟩, fun b φ w => f2.ext b φ (f.ext b φ w)⟩
      have hp2 := cG.hp.ly (o := ob) hn e2
      have xg : kc X.K X.mg (upd H' a (.ly ob (.lst xs))) ρ G := ab.hp.cut f.pre hp2 (by
       rw [List.take_set_of_le (by omega)]
       exact qt _ _ hb)
      refine ok _ _ ρ f3 ⟨ab.st.mono f3, xg⟩ ?_
      unfold Rep
      exact ⟨a, xs, rfl, .inl ⟨ob, bT⟩, i9 ds xs hcl (rs.mono f2)⟩
     ·rw [if_neg hc] at ok; exact ok.elim
  ·have ok' : nQ X.K X.mg EE H σ τ ρ (.ok d G') Q := by
    cases d <;> first | exact ok | exact absurd ⟨_, rfl⟩ hd
   exact ha pins s σ H Q I ⟨τ, ρ, G, ab, by rw [q]; exact ok'⟩
end
noncomputable def iD (m : List D → M D) : List D → M D := fun ds G => match m ds G with
 | .ok d G' => if lF (G'.take G.length) G = true ∧ d.closed = true then .ok d G else .stuck
 | .dG c G' => if lF (G'.take G.length) G = true then .dG c G else .stuck
 | .stuck => .stuck
section
variable {K : PySem.W.Frag} {mg : Str → Option Value} {n : Nat} {m : List D → M D}
theorem yy {H H' : Hp} {ρ ρ' : List Addr} (f : d9 K H H' ρ ρ') : d9 K H H' ρ ρ := ⟨f.tup, f.con, ⟨[], by simp⟩, f.ext⟩
theorem gQ (vs : List V) (H : Hp) (Q : VK) (E : XK) (h : dP K mg n (iD m) vs H Q E) : dP K mg n m vs H Q E := by
 obtain ⟨ds, ρ, G, hl, hp, rs, ok⟩ := h
 refine ⟨ds, ρ, G, hl, hp, rs, ?_⟩
 dsimp only [iD] at ok
 cases q : m ds G with
 | stuck => rw [q] at ok; exact ok
 | ok d G' =>
  rw [q] at ok
  dsimp only at ok
  by_cases hc : lF (G'.take G.length) G = true ∧ d.closed = true
  ·rw [if_pos hc] at ok
   intro v H' ρ' f Er r
   exact ok v H' ρ (yy f) (hp.cut f.pre Er (qt _ _ hc.1)) (t8 d v hc.2 r)
  ·rw [if_neg hc] at ok; exact ok.elim
 | dG c G' =>
  rw [q] at ok
  dsimp only at ok
  by_cases hc : lF (G'.take G.length) G = true
  ·rw [if_pos hc] at ok
   intro cls pl H' ρ' hcl f Er
   exact ok cls pl H' ρ hcl (yy f) (hp.cut f.pre Er (qt _ _ hc))
  ·rw [if_neg hc] at ok; exact ok.elim
end
end L3
end
section
set_option Elab.async false
set_option linter.all false
set_option maxRecDepth 100000
namespace L3
open PySem PySem.Spec L2
section
variable {X : Cx} {EE : eU} {tg iter a b : Expr} {g : pF} {mi : MI} {ms : MS} {pos p pc : Pos} {m : DS → M (List D)}
end
end L3
end
section
set_option Elab.async false
set_option linter.all false
set_option maxRecDepth 100000
namespace L3
open PySem PySem.Spec L2
section
variable {X : Cx} {EE : eU} {tg iter a b : Expr} {g : pF} {mi : MI} {ms : MS} {pos p pc : Pos} {m : DS → M (List D)}
end
end L3
end
section
set_option Elab.async false
set_option linter.all false
set_option maxRecDepth 100000
namespace L3
open PySem PySem.Spec L2 PyProof.Rows
section
variable {X : Cx} {EE : eU} {a b e : Expr} {ma mb : DS → M D} {pos : Pos}
theorem Fx : nj X (binaryOp .Add) (fun x y H Q => ∃ l b xs zs, x = .ref l ∧ y = .ref b ∧ pq X.K H l xs ∧ pq X.K H b zs ∧ xs.length + zs.length ≤ sizeLine ∧ ∀ p, H p = none → Q (.ref p) (upd H p (.lst (xs ++ zs)))) := by
 intro pins s σ H x y v u Q I rx ry h
 obtain ⟨l, b, xs, zs, rfl, rfl, hH, hB, hz, q⟩ := h
 cases rx
 cases ry
 obtain ⟨its, r, ⟨o, n, e, c, dn, d⟩, hl⟩ := I.list hH
 obtain ⟨its2, r2, ⟨o2, n2, e2, c2, OO, d2⟩, hl2⟩ := I.list hB
 obtain ⟨cls, dd, data, sl⟩ := o
 obtain ⟨JT, dd2, data2, sl2⟩ := o2
 simp only at c dn d c2 OO d2
 subst c dn d c2 OO d2
 have hlen := r.length
 have hlen2 := r2.length
 have ea : its.toArray ++ its2.toArray = (its ++ its2).toArray := by simp
 refine concat_meets ⟨_, e, rfl⟩ ⟨_, e2, rfl⟩ noFill_list_add seq_list_add PySem.F.slot_list_add PySem.F.entry_list_add (PySem.F.args_list_add_2 _ _) (list_addW l b its.toArray its2.toArray n n2 _ _ sl sl2 (by simp only [List.size_toArray]; omega)) ⟨e, e2, ?_⟩
 rw [ea]
 exact ⟨.ref _, _, I.MP (t' := s.toks) (r.append r2) (by rw [List.length_append]; omega), rfl, q _ I.fresh⟩
theorem Fy : nj X (binaryOp .Add) (fun x y H Q => ∃ a b ys, x = .ref a ∧ y = .ref b ∧ qS X.K H a [] ∧ qS X.K H b ys ∧ Q (.ref b) H) := by
 intro pins s σ H x y v u Q I rx ry h
 obtain ⟨a, b, ys, rfl, rfl, ha, hb, q⟩ := h
 cases rx
 cases ry
 obtain ⟨its, r1, p1, _⟩ := I.tuple ha
 obtain ⟨its2, r2, p2, _⟩ := I.tuple hb
 have e0 : its = [] := by cases r1; rfl
 subst e0
 obtain ⟨⟨cls, dd, data, sl⟩, ho, hc, n, hd⟩ := id p1
 obtain ⟨⟨JT, dd2, data2, sl2⟩, ho2, hc2, n2, hd2⟩ := id p2
 simp only at hc hd hc2 hd2
 subst hc hd hc2 hd2
 exact concat_meets ⟨_, ho, rfl⟩ ⟨_, ho2, rfl⟩ noFill_tuple_add seq_tuple_add PySem.F.slot_tuple_add PySem.F.entry_tuple_add (PySem.F.args_tuple_add_2 _ _)
   (tuple_addW0 a b _ _ n n2 dd dd2 sl sl2 (by simp)) ⟨ho, ho2, ⟨.ref b, H, I, rfl, q⟩⟩
noncomputable def sf (G : DH) : D → Option (List D)
 | .con xs => some xs
 | .obj n => match G[n]? with
  | some (.lst xs) => some xs
  | _ => none
 | _ => none
theorem yz {G : DH} {d : D} {xs : List D} (h : sf G d = some xs) : bN G d = some (.lst xs) := by
 cases d with
 | con ys => cases h; rfl
 | obj n =>
  dsimp only [sf] at h
  dsimp only [bN]
  cases g : G[n]? with
  | none => rw [g] at h; cases h
  | some o =>
   cases o with
   | dead => rw [g] at h; cases h
   | dct kv => rw [g] at h; cases h
   | pB fz kv => rw [g] at h; cases h
   | lst ys => rw [g] at h; cases h; rfl
 | _ => cases h
noncomputable def dF (d e : D) : M D := fun G => match d, e with
 | .int i, .int j => .ok (.int (i + j)) G
 | .str i, .str j => if i.length + j.length ≤ sizeLine then .ok (.str (i ++ j)) G else .stuck
 | .tup [], .tup ys => .ok (.tup ys) G
 | .tup (x :: xs), .tup ys => i6 (x :: xs ++ ys) G
 | d, e => match sf G d, sf G e with
  | some xs, some ys => di (xs ++ ys) G
  | _, _ => .stuck
theorem Fz : nj X (binaryOp .Add) (rD X EE dF) := by
 intro pins s σ0 H x y v u Q I rx ry ⟨σ, τ, ρ, G, d, e, ab, r1, r2, ok⟩
 have lists : ∀ xs ys, sf G d = some xs → sf G e = some ys → nQ X.K X.mg EE H σ τ ρ (di (xs ++ ys) G) Q → wpAny (model X.prog X.w) X.A (binaryOp .Add v u) (EP X pins σ0 Q) X.xe s := fun xs ys h1 h2 ok => by
  obtain ⟨l, vs, rfl, s1, t1⟩ := eV (pins := pins) (σ0 := σ0) (s := s) ab.hp r1 (yz h1)
  obtain ⟨l2, ws, rfl, s2, t2⟩ := eV (pins := pins) (σ0 := σ0) (s := s) ab.hp r2 (yz h2)
  obtain ⟨hl, q1⟩ := tM ab (t1.append t2) ok
  rw [List.length_append] at hl
  exact Fx pins s σ0 H _ _ v u Q I rx ry ⟨l, l2, vs, ws, rfl, rfl, s1, s2, hl, q1⟩
 have rest : (nQ X.K X.mg EE H σ τ ρ (match sf G d, sf G e with
  | some xs, some ys => di (xs ++ ys) G
  | _, _ => .stuck) Q) → wpAny (model X.prog X.w) X.A (binaryOp .Add v u) (EP X pins σ0 Q) X.xe s := fun ok => by
  cases h1 : sf G d with
  | none => rw [h1] at ok; exact ok.elim
  | some xs =>
   cases h2 : sf G e with
   | none => rw [h1, h2] at ok; exact ok.elim
   | some ys => rw [h1, h2] at ok; exact lists xs ys h1 h2 ok
 cases d with
 | int i =>
  cases e with
  | int j =>
   unfold Rep at r1 r2; subst r1 r2
   exact Hi pins s σ0 H _ _ v u Q I rx ry ⟨i, j, rfl, rfl, ok _ H ρ .refl ab (by unfold Rep; rfl)⟩
  | _ => exact rest ok
 | str i =>
  cases e with
  | str j =>
   unfold Rep at r1 r2; subst r1 r2
   dsimp only [dF] at ok
   by_cases h : i.length + j.length ≤ sizeLine
   ·rw [if_pos h] at ok
    exact zy pins s σ0 H _ _ v u Q I rx ry ⟨i, j, rfl, rfl, h, ok _ H ρ .refl ab (by unfold Rep; rfl)⟩
   ·rw [if_neg h] at ok; exact ok.elim
  | _ => exact rest ok
 | tup xs =>
  cases e with
  | tup ys =>
   have r2' := r2
   unfold Rep at r1 r2
   obtain ⟨p, vs, rfl, s1, t1⟩ := r1
   obtain ⟨q, ws, rfl, s2, t2⟩ := r2
   cases xs with
   | nil =>
    have hv : vs = [] := by have := t1.length; cases vs with | nil => rfl | cons _ _ => simp at this
    subst hv
    exact Fy pins s σ0 H _ _ v u Q I rx ry ⟨p, q, ws, rfl, rfl, s1, s2, ok _ H ρ .refl ab r2'⟩
   | cons x xs =>
    have ok' : nQ X.K X.mg EE H σ τ ρ (i6 (x :: xs ++ ys) G) Q := ok
    have Rf := t1.append t2
    obtain ⟨hl, q1⟩ := wI ab Rf ok'
    rw [List.length_append] at hl
    have hv : vs ≠ [] := by
     intro z; subst z
     have := t1.length
     simp at this
    refine EN pins s σ0 H _ _ v u Q I rx ry ⟨p, q, vs, ws, rfl, rfl, s1, s2, hv, hl, fun z => ?_, fun z p hp => q1 p hp⟩
    subst z
    have hy : ys = [] := by
     have := t2.length
     cases ys with
     | nil => rfl
     | cons _ _ => simp at this
    subst hy
    unfold i6 at ok'
    split at ok'
    ·exact ok' _ H ρ .refl ab (by rw [List.append_nil]; unfold Rep; exact ⟨p, vs, rfl, s1, t1⟩)
    ·exact ok'.elim
  | _ => cases xs <;> exact rest ok
 | _ => exact rest (by cases e <;> exact ok)
theorem cS (ha : QE X EE a ma) (hb : QE X EE b mb) : QE X EE (.BinOp a .Add b pos) (aM dF ma mb) := vI Fz qc ha hb
theorem IF {pins : List (Addr × Obj)} {Dd D' : Ends} {f : Flow} {s : Shared} (h : SP X pins D' f s) (hb : D'.bk = Dd.bk) (hc : D'.ct = Dd.ct) (hr : D'.rt = Dd.rt)
  (hq : ∀ σ H, D'.nx σ H → Dd.nx σ H ∨ ∃ a xs, H a = some (.lst xs) ∧ ∀ o, Dd.nx σ (upd H a (.ly o (.lst xs)))) : SP X pins Dd f s := by
 obtain ⟨nx, bk, ct, rt⟩ := D'
 subst hb hc hr
 cases f with
 | next =>
  obtain ⟨σ', H', I, q⟩ := h
  rcases hq σ' H' q with q | ⟨a, xs, e, q⟩
  ·exact ⟨σ', H', I, q⟩
  ·obtain ⟨o, I'⟩ := A3 I e
   exact ⟨σ', _, I', q o⟩
 | _ => exact h
theorem Gw {st : Stmt} {i : Nat} {m : DS → M D} (hs : QS X EE st (cu i m)) : QS X EE st (cu i (eFn m)) := by
 intro pins s σ H Dd I ⟨τ, ρ, G, ab, ok⟩
 dsimp only [cu, cZ, eFn] at ok
 cases q : m τ G with
 | stuck => rw [q] at ok; exact ok.elim
 | dG c G' => rw [q] at ok; exact hs pins s σ H Dd I ⟨τ, ρ, G, ab, by dsimp only [cu, cZ]; rw [q]; exact ok⟩
 | ok d G' =>
  rw [q] at ok
  by_cases hd : ∃ n, d = .obj n
  ·obtain ⟨n, rfl⟩ := hd
   dsimp only at ok
   cases g : G'[n]? with
   | none => rw [g] at ok; exact ok.elim
   | some o =>
    rw [g] at ok
    cases o with
    | dead => exact ok.elim
    | dct kv => exact ok.elim
    | pB fz kv => exact ok.elim
    | lst ds =>
     dsimp only at ok
     by_cases hc : n = G.length ∧ G'.length = n + 1 ∧ lF (G'.take G.length) G = true ∧ aO ds = true
     ·rw [if_pos hc] at ok
      obtain ⟨hn0, hl, hb, hcl⟩ := hc
      refine gm (hs pins s σ H { Dd with nx := fun σ' H' => ∃ a xs, H' a = some (.lst xs) ∧ ∀ o, Dd.nx σ' (upd H' a (.ly o (.lst xs))) } I ⟨τ, ρ, G, ab, ?_⟩) fun u s' h => IF h rfl rfl rfl fun σ' H' q => .inr q
      dsimp only [cu, cZ]
      rw [q]
      intro σ' H' ρ' f cG
      obtain ⟨a, xs, e1, e2, rs⟩ := cG.hp.lst g
      refine ⟨a, xs, e2, fun ob => ?_⟩
      have f2 : d9 X.K H' (upd H' a (.ly ob (.lst xs))) ρ' ρ' := sV e2 ρ'
      have f3 : d9 X.K H (upd H' a (.ly ob (.lst xs))) ρ ρ := ⟨fun b ys w => f2.tup b ys (f.tup b ys w), fun b ys w => f2.con b ys (f.con b ys w), ⟨[], by simp⟩, fun b φ w => f2.ext b φ (f.ext b φ w)⟩
      have xg : kc X.K X.mg (upd H' a (.ly ob (.lst xs))) ρ G := ab.hp.cut f.pre (cG.hp.ly (o := ob) e1 e2) (by
       rw [List.take_set_of_le (by omega)]
       exact qt _ _ hb)
      refine ok σ' _ ρ f3 ⟨⟨by rw [cG.st.1]; simp, fun j dj ej => ?_⟩, xg⟩
      by_cases hij : i = j
      ·subst hij
       by_cases hi : i < τ.length
       ·rw [List.getElem?_set, if_pos rfl, if_pos hi] at ej
        cases ej
        obtain ⟨vv, ev, rv⟩ := cG.st.2 i (.obj n) (by rw [List.getElem?_set, if_pos rfl, if_pos hi])
        unfold Rep at rv
        obtain ⟨a', rfl, hn'⟩ := rv
        rw [e1] at hn'; cases hn'
        refine ⟨_, ev, ?_⟩
        unfold Rep
        exact ⟨a, xs, rfl, .inl ⟨ob, bT⟩, i9 ds xs hcl (rs.mono f2)⟩
       ·rw [List.getElem?_set, if_pos rfl, if_neg hi] at ej; cases ej
      ·have TZ := ej
       rw [List.getElem?_set_ne hij] at ej
       obtain ⟨v', ev', Rg⟩ := cG.st.2 j dj (by rw [List.getElem?_set_ne hij]; exact ej)
       obtain ⟨v0, T4, Rh⟩ := ab.st.2 j dj ej
       exact ⟨v', ev', Rep.back f.pre dj v0 v' Rh (Rg.mono f2)⟩
     ·rw [if_neg hc] at ok; exact ok.elim
  ·have ok' : uO X.K X.mg EE H ρ Dd (.nx (τ.set i (some d)) G') := by
    cases d <;> first | exact ok | exact absurd ⟨_, rfl⟩ hd
   exact hs pins s σ H Dd I ⟨τ, ρ, G, ab, by dsimp only [cu, cZ]; rw [q]; exact ok'⟩
end
end L3
end
section
set_option Elab.async false
set_option linter.all false
set_option maxRecDepth 100000
namespace L3
open PySem PySem.Spec L2 PyProof.Rows
section
variable {X : Cx} {EE : eU} {tg iter a b c : Expr} {pos p pc : Pos} {m : DS → M (List D)}
end
end L3
end
section
set_option Elab.async false
set_option linter.all false
set_option maxRecDepth 100000
namespace L3
open PySem PySem.Spec L2
section
variable {K : PySem.W.Frag} {mg : Str → Option Value} {H : Hp} {ρ : List Addr} {G : DH}
theorem kc.dct {n : Nat} {kvs : List (Key × D)} (h : kc K mg H ρ G) (e : G[n]? = some (.dct kvs)) : ∃ a xs, ρ[n]? = some a ∧ H a = some (.dK ((kvs.map (·.1)).zip xs)) ∧ aE K mg ρ H (kvs.map (·.2)) xs := by
 obtain ⟨a, e1, xs, e2, r⟩ := h.ob n _ e
 exact ⟨a, xs, e1, e2, r⟩
end
section
variable {X : Cx} {EE : eU} {e f o i a : Expr} {pos apos cpos tpos : Pos} {mo me mf mv mi : DS → M D}
end
end L3
end
section
set_option Elab.async false
set_option linter.all false
set_option maxRecDepth 100000
namespace L3
open PySem PySem.Spec L2 PyProof.Rows
section
variable {X : Cx} {EE : eU} {e : Expr} {m : DS → M (List D)} {p p2 pos pos2 : Pos}
end
end L3
end
section
set_option Elab.async false
set_option linter.all false
set_option maxRecDepth 100000
namespace L3
open PySem PySem.Spec L2
section
variable {prog : Program} {w : World} {A : Around} {E : Value → Shared → Prop} {s : Shared}
theorem sj {it t : Addr} {i : Nat} {items : Array Value} {x : Value} {Q : Value → Shared → Prop} (hit : s.heap.IsTupleIter it t i)
  (ht : s.heap.IsTuple t items) (hx : items[i]? = some x)
  (hQ : ∀ h', h'.IsTupleIter it t (i + 1) → Heap.SameBut it s.heap h' → Q x { s with heap := h' }) :
  wpAny (model prog w) A (Builtin.SmallTypes.nextOf (.ref it)) Q E s := by
 obtain ⟨o, ho, hc, hd⟩ := id hit
 obtain ⟨ol, Jj, _, nl, hdl⟩ := ht
 unfold Builtin.SmallTypes.nextOf
 refine wpAny_bind (wpAny_callSpecial?_slot (name := Str.ofString "__next__") hit.typeIs F.slot_tuple_iterator_next
  (wpAny_call_entry F.slot_tuple_iterator_next hit.typeIs F.entry_tuple_iterator_next ?_ (F.args_tuple_iterator_next_1 _)))
 show wpAny _ _ (field (.ref it) 0 >>= _) _ _ s
 refine wpAny_bind (wpAny_field ho hd (x := .ref t) rfl ?_)
 show wpAny _ _ (if (Value.ref t == Value.none) = true then _ else _) _ _ s
 rw [if_neg (show ¬ ((Value.ref t == Value.none) = true) from Bool.false_ne_true)]
 show wpAny _ _ (field (.ref it) 1 >>= _) _ _ s
 refine wpAny_bind (wpAny_field ho hd (x := .int i 0) rfl ?_)
 show wpAny _ _ (seqItems? (.ref t) >>= _) _ _ s
 refine wpAny_bind (wpAny_seqItems Jj hdl ?_)
 simp only [Int.toNat_natCast, hx]
 refine wpAny_bind (wpAny_setField ho hd (by simp) (wpAny_pure ⟨x, rfl, wpAny_pure (hQ _ ?_ (Heap.SameBut.update ..))⟩))
 exact ⟨_, Heap.get?_update_self _ ho (Obj.isFreed_of_fields (Obj.data_mapFields hd _)), (Obj.cls_mapFields ..).trans hc, by
  rw [Obj.data_mapFields hd]; simp [rawInt]⟩
theorem t9 {it t : Addr} {i : Nat} {items : Array Value} {Q : Value → Shared → Prop} (hh : A.handled = none)
  (hit : s.heap.IsTupleIter it t i) (ht : s.heap.IsTuple t items) (hx : items[i]? = none)
  (hE : ∀ h' e, Heap.ExtBut it s.heap h' → (∃ o, h'.get? e = some o ∧ o.cls = .type "StopIteration") → E (.ref e) { s with heap := h' }) :
  wpAny (model prog w) A (Builtin.SmallTypes.nextOf (.ref it)) Q E s := by
 obtain ⟨o, ho, hc, hd⟩ := id hit
 obtain ⟨ol, Jj, _, nl, hdl⟩ := ht
 unfold Builtin.SmallTypes.nextOf
 refine wpAny_bind (wpAny_callSpecial?_slot (name := Str.ofString "__next__") hit.typeIs F.slot_tuple_iterator_next
  (wpAny_call_entry F.slot_tuple_iterator_next hit.typeIs F.entry_tuple_iterator_next ?_ (F.args_tuple_iterator_next_1 _)))
 show wpAny _ _ (field (.ref it) 0 >>= _) _ _ s
 refine wpAny_bind (wpAny_field ho hd (x := .ref t) rfl ?_)
 show wpAny _ _ (if (Value.ref t == Value.none) = true then _ else _) _ _ s
 rw [if_neg (show ¬ ((Value.ref t == Value.none) = true) from Bool.false_ne_true)]
 show wpAny _ _ (field (.ref it) 1 >>= _) _ _ s
 refine wpAny_bind (wpAny_field ho hd (x := .int i 0) rfl ?_)
 show wpAny _ _ (seqItems? (.ref t) >>= _) _ _ s
 refine wpAny_bind (wpAny_seqItems Jj hdl ?_)
 simp only [Int.toNat_natCast, hx]
 refine wpAny_bind (wpAny_rule (wpAny_bind (wpAny_setField ho hd (by simp) ?_)))
 show wpAny _ _ (newExc (.type "StopIteration") [] >>= _) _ _ _
 refine wpAny_bind ?_
 simp only [newExc, newTuple]
 refine wpAny_bind (wpAny_newObj_type ?_ (by size_fits))
 refine wpAny_bind (m := firstArgMember _ _) (wpAny_of_eq (a := Value.none) (by first | rfl | (simp only [firstArgMember]; rfl)) ?_)
 refine wpAny_newObj_type ?_ (by size_fits)
 simp only [raiseNew]
 refine wpAny_bind (wpAny_handled ?_)
 first | rw [show A.in1.handled = none from hh] | rw [hh]
 refine wpAny_bind (wpAny_pure (wpAny_throw ?_))
 exact hE _ _ (((Heap.SameBut.update ..).extBut.push _).push _) ⟨_, Heap.get?_push_size _ rfl, rfl⟩
end
theorem vX {prog : Program} {w : World} {A : Around} (hh : A.handled = none) (it l : Addr) (hne : l ≠ it) (items : Array Value) :
  Draws prog w A it [it, l] items.size (fun i v => items[i]? = some v) (fun i h => h.IsTupleIter it l i ∧ h.IsTuple l items) where
 live := fun _ _ st => let ⟨o, ho, _⟩ := st.1; ⟨o, ho⟩
 frame := fun _ _ _ st hk => ⟨st.1.at fun o e => hk it (by simp) o e, st.2.at fun o e => hk l (by simp) o e⟩
 item := fun i s Q E hi st hQ => by
  refine sj st.1 st.2 (x := items[i]) (by simp [hi]) fun h' Nt hs' => ?_
  exact hQ _ h' s.toks (by simp [hi]) ⟨Nt, st.2.extBut hs'.extBut hne⟩ hs'
 done := fun s Q E st hE => t9 hh st.1 st.2 (by simp) hE
theorem yC (l : Addr) (items : Array Value) (n : Nat) (dct : Option Addr) (sl : Array (Option Value)) :
  Meets (Builtin.«enumerate.__new__» ⟨[.type "enumerate", .ref l], []⟩) (fun _ R s => s.heap.get? l = some { cls := .type "tuple", dict := dct, data := .seq items n, slots := sl } ∧
   R (.ok (.ret (.ref (s.heap.push { cls := .type "tuple_iterator", data := .fields #[.ref l, .int 0 0] }).objs.size)))
    { s with heap := (s.heap.push { cls := .type "tuple_iterator", data := .fields #[.ref l, .int 0 0] }).push { cls := .type "enumerate", data := .fields #[.none, .bool false, .ref s.heap.objs.size, rawInt 0, .none, .none] } }) :=
 .of_wp fun prog w A R s h => by
  obtain ⟨hp, g, d, tk, os⟩ := s; obtain ⟨hl, h⟩ := h
  have hsub := sub_enumerate
  have hL : Heap.IsTuple (Shared.heap ⟨hp, g, d, tk, os⟩) l items := ⟨_, hl, rfl, n, rfl⟩
  wp_walk using AutoSeq1.wpAny_loadPart' hl
  refine wpAny_stack_any fun st => wpAny_pure ?_
  split
  ·rename_i c _ _ _ _ _
   cases (c == Value.type "enumerate")
   ·wp_walk using AutoSeq1.wpAny_loadPart' hl, wpAny_pyIter_tuple hL
    exact ⟨_, rfl, h⟩
   ·wp_walk using AutoSeq1.wpAny_loadPart' hl, wpAny_pyIter_tuple hL
    exact ⟨_, rfl, h⟩
  ·wp_walk using AutoSeq1.wpAny_loadPart' hl, wpAny_pyIter_tuple hL
   exact ⟨_, rfl, h⟩
theorem uS {prog : Program} {w : World} {A : Around} {E : Value → Shared → Prop} {s : Shared} {l : Addr} {items : Array Value} {Q : Value → Shared → Prop} (hL : s.heap.IsTuple l items)
  (h : ∀ h', IsEnum h' (s.heap.objs.size + 1) s.heap.objs.size 0 .none → h'.IsTupleIter s.heap.objs.size l 0 → h'.objs.size = s.heap.objs.size + 2 →
   (∀ b o, s.heap.get? b = some o → h'.get? b = some o) → Q (.ref (s.heap.objs.size + 1)) { s with heap := h' }) :
  wpAny (model prog w) A (call (.type "enumerate") [.ref l]) Q E s := by
 obtain ⟨⟨c, dct, dt, sl⟩, hl, hc, n, hd⟩ := hL
 replace hc : c = .type "tuple" := hc
 replace hd : dt = .seq items n := hd
 subst hc hd
 refine callType_new F.called_enumerate (by decide) (F.typeCall_enumerate_1 _) (F.newCall_enumerate_1 _) (fun obj => F.args_object_init_2 obj _) F.entry_enumerate_new
  (yC l items n dct sl) ⟨hl, ?_⟩
 have hz : (s.heap.push { cls := .type "tuple_iterator", data := .fields #[.ref l, .int 0 0] }).objs.size = s.heap.objs.size + 1 := Heap.size_push ..
 show _ ∧ _
 rw [hz]
 have he : IsEnum ((s.heap.push { cls := .type "tuple_iterator", data := .fields #[.ref l, .int 0 0] }).push
   { cls := .type "enumerate", data := .fields #[.none, .bool false, .ref s.heap.objs.size, rawInt 0, .none, .none] }) (s.heap.objs.size + 1) s.heap.objs.size 0 .none := by
  have := Heap.get?_push_size (s.heap.push { cls := .type "tuple_iterator", data := .fields #[.ref l, .int 0 0] })
   (o := { cls := .type "enumerate", data := .fields #[.none, .bool false, .ref s.heap.objs.size, rawInt 0, .none, .none] }) rfl
  rw [hz] at this; exact this
 refine ⟨⟨_, he, rfl⟩, h _ he ⟨_, Heap.get?_push_of_some _ (Heap.get?_push_size _ rfl), rfl, rfl⟩ (by rw [Heap.size_push, hz]) fun b o x => Heap.get?_push_of_some _ (Heap.get?_push_of_some _ x)⟩
noncomputable def IG (K : PySem.W.Frag) (a : Addr) : It :=
 ⟨fun i H => ∃ xs x, qS K H a xs ∧ xs[i]? = some x, fun i H y H' => ∃ x p, (∀ xs, qS K H a xs → xs[i]? = some x) ∧ H p = none ∧ y = .ref p ∧ H' = upd H p (.tup [.int i, x]), fun i H => ∃ xs, qS K H a xs ∧ xs.length = i⟩
theorem zV {P : Program} {w : World} {K : PySem.W.Frag} {es : List Expr} {k : Nat} {pt : Pos} (l e it : Addr) (hne : e ≠ it) (hle : l ≠ e) (hli : l ≠ it) : Turn P w K (.Tuple es k pt) (IG K l) [e, it] e (fun i h => ∃ old, IsEnum h e it i old ∧ h.IsTupleIter it l i) where
 mem := by simp
 obj := fun i h ⟨old, st1, st2⟩ b hb => by
  rcases List.mem_cons.mp hb with rfl | hb
  ·exact ⟨_, st1, fun v z => by cases z⟩
  ·have e : b = it := by simpa using hb
   subst e
   obtain ⟨o, e, c, d⟩ := st2
   exact ⟨o, e, fun v z => by rw [d] at z; cases z⟩
 keep := fun i h h' ⟨old, st1, st2⟩ kp => ⟨old, kp e (by simp) _ st1, st2.at fun o q => kp it (by simp) o q⟩
 item := by
  intro X hP hw hK hc i pins s σ H E I hf ⟨old, st1, st2⟩ hg
  subst hP hw hK
  obtain ⟨xs, x, hq, hx⟩ := hg
  obtain ⟨its, rv, p, hz⟩ := I.tuple hq
  obtain ⟨u, hu, ru⟩ := rv.get hx
  have Np : e < s.heap.objs.size := Heap.lt_size st1
  have IC : it < s.heap.objs.size := by obtain ⟨o, q, _⟩ := st2; exact Heap.lt_size q
  have hlen : i < its.length := (List.getElem?_eq_some_iff.mp hu).1
  refine wpAny_pyNext_enum_itemD (vX (show X.A.in1.handled = none from I.ok.hd hc) it l hli its.toArray) st1 ⟨st2, p⟩ (by simpa using hlen) hne (by simp [hne, Ne.symm hle]) fun x' h' tk hx' hO hst htup hsz kp => ?_
  have Ri : x' = u := by
   have e : its.toArray[i]? = some x' := hx'
   rw [List.getElem?_toArray, hu] at e
   exact (Option.some.inj e).symm
  subst Ri
  have hL := hst.1
  refine ⟨.ref s.heap.objs.size, rfl, ?_⟩
  have I1 : Inv X pins σ (upd H s.heap.objs.size (.tup [.int i, x])) { s with heap := s.heap.push { cls := .type "tuple", data := .seq #[.int i tk, x'] } } :=
   I.laid (t' := s.toks) (fun b o q => Heap.get?_push_of_some _ q) (Nat.le_refl _) ⟨by simp [sizeLine_eq], [.int i tk, x'], .cons ⟨_, rfl⟩ (.cons ru .nil), PyProof.Rows.IsTup.new _ _⟩
  have hfree := I.hok.fresh (Nat.le_refl s.heap.objs.size)
  have hf1 : ∀ b ∈ [e, it], pV X pins (upd H s.heap.objs.size (.tup [.int i, x])) b := fun b hb => by
   have hlt : b ≠ s.heap.objs.size := by
    rcases List.mem_cons.mp hb with rfl | hb
    ·exact Nat.ne_of_lt Np
    ·rw [List.mem_singleton.mp hb]; exact Nat.ne_of_lt IC
   exact ⟨by rw [aK hlt]; exact (hf b hb).1, (hf b hb).2⟩
  unfold letOwnedTupleGo
  refine wpAny_bind (wpAny_load hO ?_)
  dsimp only
  rw [if_pos (by simp)]
  refine wpAny_bind (wpAny_rule ?_)
  unfold updateField
  refine wpAny_bind (wpAny_load hO ?_)
  dsimp only
  rw [if_pos (by simp)]
  refine wpAny_update hO ?_
  have yc : ∀ b, b ≠ e → (h'.update e (Obj.mapFields fun x => x.setIfInBounds 0 Value.none)).get? b = h'.get? b := fun b hb => Heap.get?_update_other _ _ (Ne.symm hb)
  refine ⟨.ref s.heap.objs.size, _, AK (t' := tk + 1) (s := { s with heap := s.heap.push { cls := .type "tuple", data := .seq #[.int i tk, x'] } }) (ch := [e, it]) I1 (fun b o hb q => ?_) hf1, rfl, ⟨x, s.heap.objs.size, fun ys hy => by rw [I.vA hy hq]; exact hx, hfree, rfl, rfl⟩, ⟨x', ?_, ?_⟩, fun b hb => (hf1 b hb).1⟩
  ·have hb1 : b ≠ e := fun z => hb (by simp [z])
   have hb2 : b ≠ it := fun z => hb (by simp [z])
   show (h'.update e _).get? b = some o
   rw [yc b hb1]
   by_cases KL : b = s.heap.objs.size
   ·subst KL
    have := Heap.get?_push_size (o := { cls := .type "tuple", data := .seq #[.int (i : Int) tk, x'] }) s.heap rfl
    rw [this] at q; cases q
    exact htup
   ·have q' : (s.heap.push { cls := .type "tuple", data := .seq #[.int (i : Int) tk, x'] }).get? b = some o := q
    refine kp b o hb1 hb2 ?_
    rwa [Heap.get?_push_ne _ _ _ KL] at q'
  ·show (h'.update e _).get? e = _
   rw [Heap.get?_update_self _ hO rfl]
   rfl
  ·exact hL.at fun o q => (yc it (Ne.symm hne)).trans q
 done := by
  intro X hP hw hK hc i pins s σ H E I hf ⟨old, st1, st2⟩ hg
  subst hP hw hK
  obtain ⟨xs, hq, hx⟩ := hg
  obtain ⟨its, rv, p, hz⟩ := I.tuple hq
  obtain ⟨f0, f1, f2, f3, f4, f5⟩ := hf it (by simp)
  have hl := rv.length
  have hi : i = its.toArray.size := by simp; omega
  subst hi
  exact wpAny_pyNext_enum_endD (vX (show X.A.in1.handled = none from I.ok.hd hc) it l hli its.toArray) st1 ⟨st2, p⟩ fun h' eb => ⟨rfl, I.turned (t' := s.toks) (fun b o hb e => eb b o hb e) f0 f1 f3 f4 f5⟩
 self := fun _ _ _ _ _ ⟨old, st1, _⟩ h => wpAny_pyIter_enum st1 h
noncomputable def xh (xs : List D) : View := fun _ i => if i ≤ xs.length then some (xs[i]?.map fun x => .tup [.int i, x]) else none
noncomputable def rE (m : DS → M (List D)) : MI := fun τ => (m τ).bind fun ds => match ds with
 | [d] => fun G => match bN G d with
  | some (.lst xs) => .ok (xs.length + 1, rQ d) G
  | some (.tup xs) => .ok (xs.length + 1, xh xs) G
  | _ => .stuck
 | _ => M.stop
theorem Dw {K : PySem.W.Frag} {mg : Str → Option Value} {H0 : Hp} {ρ0 : List Addr} {zs : List D} {l : Addr} {zU : List V} (Rj : zh H0 l zU) (IE : aE K mg ρ0 H0 zs zU) : JV K mg (IG K l) (xh zs) H0 ρ0 := by
 intro i H ρ G f hp
 have sq := zh.t (K := K) (f.tup _ _ Rj)
 have rs := IE.mono f
 unfold xh
 constructor
 ·intro e
  by_cases hi : i ≤ zs.length
  ·rw [if_pos hi] at e
   cases qi : zs[i]? with
   | some z => rw [qi] at e; cases e
   | none =>
    have := List.getElem?_eq_none_iff.mp qi
    exact ⟨zU, sq, by rw [← rs.length]; omega⟩
  ·rw [if_neg hi] at e; cases e
 ·intro dd e
  by_cases hi : i ≤ zs.length
  ·rw [if_pos hi] at e
   cases qi : zs[i]? with
   | none => rw [qi] at e; cases e
   | some z =>
    rw [qi] at e; cases e
    obtain ⟨v, ev, rv⟩ := rs.get qi
    refine ⟨⟨zU, v, sq, ev⟩, fun y H' hy => ?_⟩
    obtain ⟨v', p, ev', hp0, rfl, rfl⟩ := hy
    have ev' := ev' zU sq
    rw [ev] at ev'; cases ev'
    refine ⟨yj.new hp0, ?_⟩
    unfold Rep
    refine ⟨p, [.int i, v], rfl, .of bT, .cons (by unfold Rep; rfl) (.cons (Rep.mono (gD hp0 ρ) _ _ rv) .nil)⟩
  ·rw [if_neg hi] at e; cases e
section
variable {X : Cx} {EE : eU} {a : Expr} {p pc : Pos} {m : DS → M (List D)}
theorem Dy {es : List Expr} {k : Nat} {pt : Pos} (hm : X.mg "enumerate" = none) (Gb : Gl X "enumerate") (ha : QA X EE [a] m) (h : bf [a] = true := by rfl) : QI X EE (.Tuple es k pt) (.Call (.Name "enumerate" p) [a] [] pc) (rE m) := by
 have h' : ff a = true ∧ bf [] = true := by simpa [bf] using h
 intro pins s σ H R I hq
 obtain ⟨τ, ρ, G, ab, ok⟩ := hq
 by_cases hT : ∃ d G1 zs, m τ G = .ok [d] G1 ∧ bN G1 d = some (.tup zs)
 ·obtain ⟨d, G1, zs, em, q⟩ := hT
  dsimp only [rE, M.bind] at ok
  rw [em] at ok
  dsimp only at ok
  rw [q] at ok
  dsimp only at ok
  refine wpAny_Call_Name_kw (nh I Gb hm vS ?_ (by decide) (by decide))
  have hA : tG X.K X.mg EE m σ H fun vs H1 => ∃ ρ1, Ab X.K X.mg σ H1 τ ρ1 G1 ∧ d9 X.K H H1 ρ ρ1 ∧ aE X.K X.mg ρ1 H1 [d] vs := by
   refine ⟨τ, ρ, G, ab, ?_⟩
   rw [em]
   exact fun vs H' ρ' f cG r => ⟨ρ', cG, f, r⟩
  refine PyProof.Rows.callWith_type1 (gm (ha pc pins s σ H _ I hA) fun us s1 HK => ?_) (dN h'.1 _ _) (eB (es := []) rfl)
  obtain ⟨vs, H1, I1, r1, ρ1, wJ, f1, rs⟩ := HK
  obtain ⟨x, rfl, rx⟩ := rN rs
  obtain ⟨u, rfl, ru⟩ := vals1 r1
  obtain ⟨l, ys, rfl, sq, rv⟩ := tN rx q
  cases ru
  obtain ⟨its, vv, pl, hz⟩ := I1.tuple sq.t
  have hlt : l < s1.heap.objs.size := by obtain ⟨_, e, _⟩ := pl; exact Heap.lt_size e
  refine uS pl fun h2 hE hL hsz kp => ?_
  refine wpAny_pyIter_enum hE ?_
  have I2 : Inv X pins σ H1 { s1 with heap := h2 } := I1.kept (t' := s1.toks) kp
  refine ⟨s1.heap.objs.size + 1, [s1.heap.objs.size + 1, s1.heap.objs.size], _, IG X.K l, H1, rfl, I2, zV l _ _ (Nat.succ_ne_self _) (Nat.ne_of_lt (Nat.lt_succ_of_lt hlt)) (Nat.ne_of_lt hlt), ⟨_, hE, hL⟩, fun b hb => ?_, ok _ H1 ρ1 f1 wJ (Dw sq rv)⟩
  rcases List.mem_cons.mp hb with rfl | hb
  ·exact I1.xQ (Nat.le_succ _) (I1.hok.fresh (Nat.le_succ _))
  ·rw [List.mem_singleton.mp hb]
   exact I1.xQ (Nat.le_refl _) (I1.hok.fresh (Nat.le_refl _))
 ·refine Fq hm Gb ha h pins s σ H R I ⟨τ, ρ, G, ab, ?_⟩
  have e : AL m τ G = rE m τ G := by
   dsimp only [rE, AL, M.bind]
   cases em : m τ G with
   | stuck => rfl
   | dG c G' => rfl
   | ok ds G' =>
    dsimp only
    match ds with
    | [] => rfl
    | _ :: _ :: _ => rfl
    | [d] =>
     dsimp only
     cases q : bN G' d with
     | none => rfl
     | some sk =>
      cases sk with
      | lst _ => rfl
      | str _ => rfl
      | tup zs => exact absurd ⟨d, G', zs, em, q⟩ hT
  rw [e]; exact ok
end
noncomputable abbrev DN (s : Str) : Prop := (s == ("__debug__" : Str)) = false ∧ (s == ("__classdict__" : Str)) = false
noncomputable abbrev LK (f : Scope) (s : Str) (k : NameKind) : Prop := f.names.lookup s = some k
end L3
end
section
set_option Elab.async false
set_option linter.all false
set_option maxRecDepth 100000
namespace L3
open PySem PySem.Spec L2
noncomputable def Out.fw (r : Out D) (G : DH) : Out D := match r with
 | .ok (.obj n) G' => match G'[n]? with
  | some (.lst ds) => if n = G.length ∧ G'.length = n + 1 ∧ lF (G'.take G.length) G = true ∧ aO ds = true then .ok (.con ds) G else .stuck
  | _ => .stuck
 | r => r
noncomputable def Out.fz (r : Out D) : Out D := match r with
 | .ok (.obj n) G' => match G'[n]? with
  | some (.lst ds) => .ok (.con ds) (G'.set n .dead)
  | _ => .stuck
 | r => r
section
variable {τ : DS} {G G' A B R : DH} {e ma mb mc : DS → M D} {n i : Nat} {d : D} {c : XD} {ml : DS → M (List D)} {ds xs ys : List D} {m : List D → M D}
theorem dI : eFn e τ G = (e τ G).fw G := Eq.trans rfl rfl
theorem Gx : Gv e τ G = (e τ G).fz := Eq.trans rfl rfl
theorem Dz : (Out.ok (.tup xs) G').fw G = .ok (.tup xs) G' := Eq.trans rfl rfl
theorem DA {z : Str} : (Out.ok (.str z) G').fw G = .ok (.str z) G' := Eq.trans rfl rfl
theorem iP (h : aO ds = true) : (Out.ok (.obj G.length) (G ++ [.lst ds])).fw G = .ok (.con ds) G := by
 simp [Out.fw, h, iO]
theorem cT (hz : ds.length ≤ sizeLine) (h : aO ds = true) : (di ds G).fw G = .ok (.con ds) G := by
 rw [di, if_pos hz, iP h]
theorem yD : (Out.ok (.obj A.length) (A ++ .lst ds :: B)).fz = .ok (.con ds) (A ++ .dead :: B) := by
 simp [Out.fz, BY]
theorem qu {d : D} (h : m ds G = .ok d (G ++ R)) (hc : d.closed = true) : iD m ds G = .ok d G := by
 simp [iD, h, hc, iO]
theorem ja {d : D} (h : m ds G = .ok d G) (hc : d.closed = true) : iD m ds G = .ok d G := qu (R := []) (by simpa using h) hc
theorem yE : rE ml τ G = (ml τ G).bd fun ds => match ds with
 | [d] => fun G => match bN G d with
  | some (.lst xs) => .ok (xs.length + 1, rQ d) G
  | some (.tup xs) => .ok (xs.length + 1, xh xs) G
  | _ => .stuck
 | _ => M.stop := dw
theorem ua {g : pF} {body : MS} {vw : View} (hv : ∀ G i, i ≤ xs.length → vw G i = some xs[i]?) : ∀ (fuel i : Nat) (τ : DS) (G : DH), i ≤ xs.length → xs.length < fuel + i → tX g body vw fuel i τ G = cN g body (xs.drop i) τ G
 | 0, i, τ, G, h1, h2 => by omega
 | fuel + 1, i, τ, G, h1, h2 => by
  rw [tX]
  dsimp only
  rw [hv G i h1]
  by_cases hi : i < xs.length
  ·rw [List.getElem?_eq_getElem hi, List.drop_eq_getElem_cons hi, cN]
   dsimp only
   cases g xs[i] τ with
   | none => rfl
   | some τ1 =>
    dsimp only
    cases body τ1 G with
    | nx τ2 G2 => exact ua hv fuel (i + 1) τ2 G2 (by omega) (by omega)
    | ct τ2 G2 => exact ua hv fuel (i + 1) τ2 G2 (by omega) (by omega)
    | _ => rfl
  ·rw [List.getElem?_eq_none (by omega), List.drop_eq_nil_of_le (by omega), cN]
theorem uc {gO : D → Option (List D)} {ks : List Bool} {te : DS → M D} {x v : D} {os acc : List D} (h1 : gO x = some os) (h2 : te (os.map some ++ mask ks τ) (G ++ [.lst acc]) = .ok v (G ++ [.lst acc])) (hz : acc.length < sizeLine) :
  fZ gO ks qg te G.length x τ (G ++ [.lst acc]) = .ok () (G ++ [.lst (acc ++ [v])]) := by
 simp only [fZ, h1, qg, M.ret, h2, zj, if_pos hz, BY]
theorem rF {gO : D → Option (List D)} {ks : List Bool} {te : DS → M D} {own : D → List D} {f : D → D} : ∀ (xs acc : List D), acc.length + xs.length ≤ 1000000 → (∀ x ∈ xs, gO x = some (own x)) → (∀ x ∈ xs, ∀ acc, te ((own x).map some ++ mask ks τ) (G ++ [.lst acc]) = .ok (f x) (G ++ [.lst acc])) →
  fG gO ks qg te G.length xs τ (G ++ [.lst acc]) = .ok (.obj G.length) (G ++ [.lst (acc ++ xs.map f)])
 | [], acc, _, _, _ => by simp [fG]
 | x :: xs, acc, hl, h1, h2 => by
  have hz : acc.length < sizeLine := Nat.lt_of_lt_of_le (by simp at hl; omega) (lz (n := 1000001) (by omega))
  rw [fG, uc (h1 x (by simp)) (h2 x (by simp) acc) hz]
  dsimp only
  rw [rF xs (acc ++ [f x]) (by simp at hl ⊢; omega) (fun y hy => h1 y (by simp [hy])) (fun y hy => h2 y (by simp [hy]))]
  simp
end
theorem j3 : ∀ {xs : List D}, (∀ x ∈ xs, x.closed = true) → aO xs = true
 | [], _ => rfl
 | x :: xs, h => by rw [aO, h x (by simp), j3 fun y hy => h y (by simp [hy])]; rfl
theorem kr {α : Type} {f : α → D} {l : List α} (h : ∀ x, (f x).closed = true) : aO (l.map f) = true := j3 (by
 intro x hx
 obtain ⟨a, _, rfl⟩ := List.mem_map.mp hx
 exact h a)
theorem iQ {xs : List D} : (D.con xs).closed = aO xs := by rw [D.closed]
theorem ud {xs : List D} : (D.tup xs).closed = aO xs := by rw [D.closed]
theorem iR {i : Int} : (D.int i).closed = true := by rw [D.closed] <;> simp
theorem cz {i : Str} : (D.str i).closed = true := by rw [D.closed] <;> simp
theorem jS {i : Bool} : (D.bl i).closed = true := by rw [D.closed] <;> simp
theorem j4 : D.gk.closed = true := by rw [D.closed] <;> simp
theorem bJ : aO [] = true := rfl
theorem bw {x : D} {xs : List D} : aO (x :: xs) = (x.closed && aO xs) := by rw [aO]
mutual
noncomputable def D.pd : D → PyData
 | .bl b => .bool b
 | .int i => .int i
 | .str x => .str x
 | .tup ds => .tuple (zk ds)
 | .con ds => .list (zk ds)
 | _ => .none
noncomputable def zk : List D → List PyData
 | [] => []
 | d :: r => d.pd :: zk r
end
mutual
noncomputable def D.plain : D → Bool
 | .tup ds => jm ds
 | .con ds => jm ds
 | .str x => PyData.strOk x
 | .obj _ => false
 | .jV _ _ => false
 | .fn _ => false
 | _ => true
noncomputable def jm : List D → Bool
 | [] => true
 | d :: r => d.plain && jm r
end
mutual
noncomputable def D.dp : D → Nat
 | .tup ds => Es ds + 1
 | .con ds => Es ds + 1
 | _ => 0
noncomputable def Es : List D → Nat
 | [] => 0
 | d :: r => max d.dp (Es r)
end
mutual
theorem DB (G : DH) : ∀ (d : D) (n : Nat), d.plain = true → d.dp < n → m8 G n d = some d.pd
 | .gk, n + 1, _, _ => by simp [m8, D.pd]
 | .bl b, n + 1, _, _ => by simp [m8, D.pd]
 | .int b, n + 1, _, _ => by simp [m8, D.pd]
 | .str b, n + 1, _, _ => by simp [m8, D.pd]
 | .tup ds, n + 1, h, hn => by
  rw [m8, xj G ds n (by simpa [D.plain] using h) (by rw [D.dp] at hn; omega), D.pd]; rfl
 | .con ds, n + 1, h, hn => by
  rw [m8, xj G ds n (by simpa [D.plain] using h) (by rw [D.dp] at hn; omega), D.pd]; rfl
 | .obj k, n + 1, h, _ => by simp [D.plain] at h
 | .jV _ _, n + 1, h, _ => by simp [D.plain] at h
 | .fn _, n + 1, h, _ => by simp [D.plain] at h
theorem xj (G : DH) : ∀ (ds : List D) (n : Nat), jm ds = true → Es ds < n → ek (m8 G n) ds = some (zk ds)
 | [], n, _, _ => by simp [ek, zk]
 | d :: ds, n, h, hn => by
  have h' : d.plain = true ∧ jm ds = true := by simpa [jm] using h
  rw [Es] at hn
  rw [ek, DB G d n h'.1 (by omega), xj G ds n h'.2 (by omega), zk]
end
mutual
theorem lay_of : ∀ (d : D), d.plain = true → d.pd.canLay0 = true
 | .gk, _ => by simp [D.pd, PyData.canLay0]
 | .bl b, _ => by simp [D.pd, PyData.canLay0]
 | .int b, _ => by simp [D.pd, PyData.canLay0]
 | .str b, h => by simpa [D.pd, PyData.canLay0, D.plain] using h
 | .tup ds, h => by
  rw [D.pd, PyData.canLay0]; exact xm ds (by simpa [D.plain] using h)
 | .con ds, h => by
  rw [D.pd, PyData.canLay0]; exact xm ds (by simpa [D.plain] using h)
 | .obj k, h => by simp [D.plain] at h
 | .jV _ _, h => by simp [D.plain] at h
 | .fn _, h => by simp [D.plain] at h
theorem xm : ∀ (ds : List D), jm ds = true → PyData.canLayAll0 (zk ds) = true
 | [], _ => by simp [zk, PyData.canLayAll0]
 | d :: ds, h => by
  have h' : d.plain = true ∧ jm ds = true := by simpa [jm] using h
  rw [zk, PyData.canLayAll0, lay_of d h'.1, xm ds h'.2]; rfl
end
mutual
theorem Gy : ∀ (d : D), d.pd.depth ≤ d.dp
 | .gk => by simp [D.pd, PyData.depth]
 | .bl b => by simp [D.pd, PyData.depth]
 | .int b => by simp [D.pd, PyData.depth]
 | .str b => by simp [D.pd, PyData.depth]
 | .tup ds => by rw [D.pd, PyData.depth, D.dp]; exact Nat.succ_le_succ (zW ds)
 | .con ds => by rw [D.pd, PyData.depth, D.dp]; exact Nat.succ_le_succ (zW ds)
 | .obj k => by simp [D.pd, PyData.depth]
 | .jV _ _ => by simp [D.pd, PyData.depth]
 | .fn _ => by simp [D.pd, PyData.depth]
theorem zW : ∀ (ds : List D), PyData.depthAll (zk ds) ≤ Es ds
 | [] => by simp [zk, PyData.depthAll]
 | d :: ds => by
  rw [zk, PyData.depthAll, Es]
  have := Gy d
  have := zW ds
  omega
end
mutual
theorem yF : ∀ (d : D), PyData.eqv d.pd d.pd = true
 | .gk => by simp [D.pd, PyData.eqv]
 | .bl b => by simp [D.pd, PyData.eqv]
 | .int b => by simp [D.pd, PyData.eqv]
 | .str b => by simp [D.pd, PyData.eqv]
 | .tup ds => by rw [D.pd, PyData.eqv]; exact rG ds
 | .con ds => by rw [D.pd, PyData.eqv]; exact rG ds
 | .obj k => by simp [D.pd, PyData.eqv]
 | .jV _ _ => by simp [D.pd, PyData.eqv]
 | .fn _ => by simp [D.pd, PyData.eqv]
theorem rG : ∀ (ds : List D), PyData.eqvAll (zk ds) (zk ds) = true
 | [] => by simp [zk, PyData.eqvAll]
 | d :: ds => by rw [zk, PyData.eqvAll, yF d, rG ds]; rfl
end
theorem DC (g : Bool) (d : D) (G : DH) (h : d.plain = true) (hn : d.dp ≤ 580) : nS g d d G = .ok (.bl (g ^^ true)) G := by
 have hd := Gy d
 unfold nS BE
 rw [DB G d deep h (by show d.dp < 600; omega)]
 dsimp only
 rw [if_pos (by rw [lay_of d h]; simp; omega), yF]
end L3
end
section
set_option Elab.async false
set_option linter.all false
set_option maxRecDepth 100000
namespace L3
open PySem PySem.Spec L2
section
variable {prog : Program} {w : World} {A : Around} {E : Value → Shared → Prop} {s : Shared}
end
end L3
end
section
set_option Elab.async false
set_option linter.all false
set_option maxRecDepth 100000
namespace L3
open PySem PySem.Spec L2
noncomputable def Nu (tp : Bool) (h : Heap) (it l : Addr) (i : Nat) : Prop := if tp = true then h.IsTupleIter it l i else h.IsListIter it l i
noncomputable def Nv (tp : Bool) (h : Heap) (l : Addr) (xs : Array Value) : Prop := if tp = true then h.IsTuple l xs else h.IsList l xs
theorem Nu.at {tp : Bool} {h h' : Heap} {it l : Addr} {i : Nat} (x : Nu tp h it l i) (k : ∀ o, h.get? it = some o → h'.get? it = some o) : Nu tp h' it l i := by
 cases tp
 ·exact Heap.IsListIter.at (show h.IsListIter it l i from x) k
 ·exact Heap.IsTupleIter.at (show h.IsTupleIter it l i from x) k
theorem Nv.at {tp : Bool} {h h' : Heap} {l : Addr} {xs : Array Value} (x : Nv tp h l xs) (k : ∀ o, h.get? l = some o → h'.get? l = some o) : Nv tp h' l xs := by
 cases tp
 ·obtain ⟨o, e, r⟩ := (show h.IsList l xs from x)
  exact (⟨o, k o e, r⟩ : h'.IsList l xs)
 ·exact Heap.IsTuple.at (show h.IsTuple l xs from x) k
section
variable {prog : Program} {w : World} {A : Around} {E : Value → Shared → Prop} {s : Shared}
end
end L3
namespace L3
open PySem PySem.Spec L2
section
variable {prog : Program} {w : World} {A : Around} {E : Value → Shared → Prop} {s : Shared}
end
end L3
end
section
set_option Elab.async false
set_option linter.all false
set_option maxRecDepth 100000
namespace L3
open PySem PySem.Spec L2
section
variable {prog : Program} {w : World} {A : Around} {E : Value → Shared → Prop} {s : Shared}
end
end L3
end
section
set_option Elab.async false
set_option linter.all false
set_option maxRecDepth 100000
namespace L3
open PySem PySem.Spec L2
section
variable {X : Cx} {pins : List (Addr × Obj)} {σ : L2.St} {H : Hp} {s : Shared} {a : Addr} {xs ys : List V} {t : Bool}
end
section
variable {X : Cx} {EE : eU} {tg iter a b : Expr} {g : pF} {mi : MI} {ms : MS} {pos p pc : Pos} {m : DS → M (List D)}
end
end L3
end
section
set_option Elab.async false
set_option linter.all false
set_option maxRecDepth 100000
namespace L3
open PySem PySem.Spec L2
section
variable {K : PySem.W.Frag} {mg : Str → Option Value} {H : Hp} {ρ : List Addr} {G : DH}
noncomputable def II (fz : Bool) (H : Hp) (a : Addr) (u : List (List Key × V)) : Prop := if fz = true then ∃ o, H a = some (.ly o (.dT u)) else H a = some (.dT u)
theorem II.rd {fz : Bool} {a : Addr} {u : List (List Key × V)} (h : II fz H a u) : Rd H a (.dT u) := by
 cases fz
 ·exact .inl h
 ·exact .inr h
theorem kc.pB {n : Nat} {fz : Bool} {kvs : List (List Key × D)} (h : kc K mg H ρ G) (e : G[n]? = some (.pB fz kvs)) : ∃ a xs, ρ[n]? = some a ∧ II fz H a ((kvs.map (·.1)).zip xs) ∧ aE K mg ρ H (kvs.map (·.2)) xs := by
 obtain ⟨a, e1, xs, e2, r⟩ := h.ob n _ e
 exact ⟨a, xs, e1, e2, r⟩
end
section
variable {X : Cx} {EE : eU} {e f o i a : Expr} {pos apos cpos tpos : Pos} {mo me mf mv mi : DS → M D}
end
end L3
end
section
set_option Elab.async false
set_option linter.all false
set_option maxRecDepth 100000
namespace L3
open PySem PySem.Spec L2
section
variable {X : Cx} {EE : eU}
end
section
variable {X : Cx} {EE : eU} {tg e : Expr} {m : DS → M D}
end
end L3
end
section
set_option Elab.async false
set_option linter.all false
set_option maxRecDepth 100000
namespace L3
open PySem PySem.Spec L2
section
variable {X : Cx} {EE : eU} {k v : Expr} {pos : Pos} {mk mv : DS → M D}
end
end L3
end
section
set_option Elab.async false
set_option linter.all false
set_option maxRecDepth 100000
namespace L3
open PySem PySem.Spec L2
section
variable {X : Cx} {EE : eU}
theorem aE.eraseIdx {K : PySem.W.Frag} {mg : Str → Option Value} {ρ : List Addr} {H : Hp} : ∀ (n : Nat) {ds : List D} {vs : List V}, aE K mg ρ H ds vs → aE K mg ρ H (ds.eraseIdx n) (vs.eraseIdx n)
 | _, [], vs, h => by unfold aE at h; subst h; exact .nil
 | 0, d :: ds, vs, h => by
  unfold aE at h
  obtain ⟨v, r, rfl, h1, h2⟩ := h
  exact h2
 | n + 1, d :: ds, vs, h => by
  unfold aE at h
  obtain ⟨v, r, rfl, h1, h2⟩ := h
  exact .cons h1 (aE.eraseIdx n h2)
theorem BZ {pins : List (Addr × Obj)} {s : Shared} {σ : L2.St} {H : Hp} {l : Addr} {xs : List V} {k : Int} {y : V} {us : List Value} {Q : VK} (I : Inv X pins σ H s) (hH : H l = some (.lst xs)) (hz : xs.length < sizeLine) (hk : 0 ≤ k) (hk2 : k < 1000) (rv : Vals [.int k, y] us)
  (q : Q .gk (upd H l (.lst (xs.take k.toNat ++ y :: xs.drop k.toNat)))) : wpAny (model X.prog X.w) X.A (call (.builtin "list.insert") (.ref l :: us)) (fun u s' => ∃ v H', Inv X pins σ H' s' ∧ RelV v u ∧ Q v H') X.xe s := by
 cases rv with
 | cons r1 rr =>
 obtain ⟨u2, rfl, r2⟩ := vals1 rr
 obtain ⟨t, rfl⟩ := r1
 obtain ⟨z, its, n, r, hl, e⟩ := I.HH hH
 have h1 : -(2 ^ 63) ≤ k := by omega
 have h2 : k < 2 ^ 63 := by omega
 have h3 : ¬ (!Builtin.List.listFitsIndex k) = true := by
  rw [fitsIndex_both h1 h2]
  exact Bool.false_ne_true
 have h4 : its.toArray.size ≤ sizeLine := by rw [List.size_toArray]; omega
 refine call_meets F.slot_list_insert ⟨_, e, rfl⟩ F.entry_list_insert (F.args_list_insert_3 _ _ _) (@AutoListH.list_insert_list_int_val_1 l its.toArray n k t u2 h3 h4) ⟨e, ?_⟩
 have ht : its.take (min k.toNat its.length) = its.take k.toNat := by
  rcases Nat.le_total k.toNat its.length with h | h
  ·rw [Nat.min_eq_left h]
  ·rw [Nat.min_eq_right h, List.take_length, List.take_of_length_le h]
 have hd : its.drop (min k.toNat its.length) = its.drop k.toNat := by
  rcases Nat.le_total k.toNat its.length with h | h
  ·rw [Nat.min_eq_left h]
  ·rw [Nat.min_eq_right h, List.drop_length, List.drop_of_length_le h]
 refine ⟨.gk, _, I.HG (its' := its.take k.toNat ++ u2 :: its.drop k.toNat) hH e ?_ ((r.take _).append (.cons r2 (r.drop _))) ?_, rfl, q⟩
 ·apply Array.ext'
  have he : its.toArray.size = its.length := by simp
  have hc : (if k < 0 then (k + its.length).toNat else min k.toNat its.length) = min k.toNat its.length := if_neg (by omega)
  simp only [he, hc]
  rw [← ht, ← hd]
  simp
  rw [List.take_of_length_le (by rw [List.length_drop]; exact Nat.le_refl _)]
 ·have := List.length_take_le k.toNat xs
  simp
  omega
noncomputable def qv : D → List D → M D
 | .obj n, [.int k, v] => fun G => match G[n]? with
  | some (.lst xs) => if 0 ≤ k ∧ k < 1000 ∧ xs.length < sizeLine then .ok .gk (G.set n (.lst (xs.take k.toNat ++ v :: xs.drop k.toNat))) else .stuck
  | _ => .stuck
 | _, _ => M.stop
theorem zX : HA X "list.insert" (Kf X EE qv) := by
 intro pins s σ0 H x xs v us Q I rx Kg ⟨σ, τ, ρ, G, d, ds, ab, rd, BI, ok⟩
 cases d <;> try exact ok.elim
 rename_i n
 match ds, ok with
 | [], ok => exact ok.elim
 | [y], ok => cases y <;> exact ok.elim
 | y :: _ :: _ :: _, ok => cases y <;> exact ok.elim
 | [y, z], ok =>
  cases y <;> try exact ok.elim
  rename_i k
  unfold aE at BI
  obtain ⟨kv, rest, rfl, rk, BI⟩ := BI
  obtain ⟨zv, rfl, rz⟩ := rN BI
  unfold Rep at rk
  subst rk
  unfold Rep at rd
  obtain ⟨p, rfl, e1⟩ := rd
  dsimp only [qv] at ok
  cases g : G[n]? with
  | none => rw [g] at ok; exact ok.elim
  | some o =>
   cases o with
   | lst zs =>
    rw [g] at ok
    dsimp only at ok
    obtain ⟨p', vs, e2, hp, rs⟩ := ab.hp.lst g
    rw [e1] at e2; cases e2
    by_cases hk : 0 ≤ k ∧ k < 1000 ∧ zs.length < sizeLine
    ·rw [if_pos hk] at ok
     cases rx
     exact BZ I hp (by rw [← rs.length]; exact hk.2.2) hk.1 hk.2.1 Kg (zN (xs := zs) ab e1 hp ((rs.take _).append (.cons rz (rs.drop _))) (fun _ _ => by unfold Rep; rfl) ok)
    ·rw [if_neg hk] at ok; exact ok.elim
   | _ => rw [g] at ok; exact ok.elim
section
variable {o e e2 : Expr} {apos cpos : Pos} {mo : DS → M D} {m : DS → M (List D)}
theorem B0 (ho : QE X EE o mo) (ha : QA X EE [e, e2] m) (hb : tW o = true := by rfl) (h : bf [e, e2] = true := by rfl) (hline : (apos.endLine == cpos.line) = true := by rfl) : QE X EE (.Call (.Attribute o "insert" apos) [e, e2] [] cpos) (fc "list" qv mo m) := by
 have h' : ff e = true ∧ bf [e2] = true := by simpa [bf] using h
 exact Gd PySem.F.plainAttrs_list PySem.F.slot_list_insert PySem.F.type_list_insert zX ho ha (lU hb _ _) (Dm h (by simp)) hline (dN h'.1 _ _) (eB h'.2)
end
end
end L3
end
section
set_option Elab.async false
set_option linter.all false
set_option maxRecDepth 100000
namespace L3
open PySem PySem.Spec L2
section
variable {X : Cx} {EE : eU} {a b : Expr} {pos : Pos} {ma mb m : DS → M D}
end
end L3
end
section
set_option Elab.async false
set_option linter.all false
set_option maxRecDepth 100000
namespace L3
open PySem PySem.Spec L2
theorem Nx {i j : Int} {G : DH} : dF (.int i) (.int j) G = .ok (.int (i + j)) G := Eq.trans rfl rfl
noncomputable def Out.pu (r : Out D) (G : DH) : Out D := match r with
 | .ok d G' => if lF (G'.take G.length) G = true ∧ d.closed = true then .ok d G else .stuck
 | r => r
section
variable {τ : DS} {G G' A B R : DH} {e ma mb mc : DS → M D} {n i : Nat} {d : D} {c : XD} {ml : DS → M (List D)} {ds xs ys : List D} {m : List D → M D}
theorem DE : E3 ma mb τ G = (ma τ G).bd fun d => match d with
 | .bl true => mb τ
 | .bl false => M.ret (.bl false)
 | _ => M.stop := dw
theorem zY {gO : D → Option (List D)} {ks : List Bool} {tt : DS → M Bool} {te : DS → M D} {x : D} {os acc : List D} (h1 : gO x = some os) (h2 : tt (os.map some ++ mask ks τ) (G ++ [.lst acc]) = .ok false (G ++ [.lst acc])) :
  fZ gO ks tt te G.length x τ (G ++ [.lst acc]) = .ok () (G ++ [.lst acc]) := by
 simp only [fZ, h1, h2]
theorem yG {gO : D → Option (List D)} {ks : List Bool} {tt : DS → M Bool} {te : DS → M D} {x v : D} {os acc : List D} (h1 : gO x = some os) (h2 : tt (os.map some ++ mask ks τ) (G ++ [.lst acc]) = .ok true (G ++ [.lst acc])) (h3 : te (os.map some ++ mask ks τ) (G ++ [.lst acc]) = .ok v (G ++ [.lst acc])) (hz : acc.length < sizeLine) :
  fZ gO ks tt te G.length x τ (G ++ [.lst acc]) = .ok () (G ++ [.lst (acc ++ [v])]) := by
 simp only [fZ, h1, h2, h3, zj, if_pos hz, BY]
theorem mq {gO : D → Option (List D)} {ks : List Bool} {tt : DS → M Bool} {te : DS → M D} {α : Type} {own : α → List D} {dat f : α → D} {c : α → Bool} : ∀ (as : List α) (acc : List D), acc.length + as.length ≤ 1000000 → (∀ x ∈ as, gO (dat x) = some (own x)) →
  (∀ x ∈ as, ∀ acc, tt ((own x).map some ++ mask ks τ) (G ++ [.lst acc]) = .ok (c x) (G ++ [.lst acc])) → (∀ x ∈ as, ∀ acc, te ((own x).map some ++ mask ks τ) (G ++ [.lst acc]) = .ok (f x) (G ++ [.lst acc])) →
  fG gO ks tt te G.length (as.map dat) τ (G ++ [.lst acc]) = .ok (.obj G.length) (G ++ [.lst (acc ++ (as.filter c).map f)])
 | [], acc, _, _, _, _ => by simp [fG]
 | x :: as, acc, hl, h1, h2, h3 => by
  have hz : acc.length < sizeLine := Nat.lt_of_lt_of_le (by simp at hl; omega) (lz (n := 1000001) (by omega))
  rw [List.map_cons, fG]
  have hp := h2 x (by simp) acc
  cases hc : c x with
  | false =>
   rw [hc] at hp
   rw [zY (h1 x (by simp)) hp]
   dsimp only
   rw [mq as acc (by simp at hl; omega) (fun q hq => h1 q (by simp [hq])) (fun q hq => h2 q (by simp [hq])) (fun q hq => h3 q (by simp [hq])), List.filter_cons_of_neg (by rw [hc]; decide)]
  | true =>
   rw [hc] at hp
   rw [yG (h1 x (by simp)) hp (h3 x (by simp) acc) hz]
   dsimp only
   rw [mq as (acc ++ [f x]) (by simp at hl ⊢; omega) (fun q hq => h1 q (by simp [hq])) (fun q hq => h2 q (by simp [hq])) (fun q hq => h3 q (by simp [hq])), List.filter_cons_of_pos hc]
   simp
end
end L3
end
section
set_option Elab.async false
set_option linter.all false
set_option maxRecDepth 100000
namespace L3
open PySem PySem.Spec L2
section
variable {X : Cx} {EE : eU} {a : Expr} {ma : DS → M D} {pos p pt : Pos} {x : Str}
theorem zZ {pins : List (Addr × Obj)} {σ : L2.St} {H : Hp} {s : Shared} {ρ : List Addr} {c f y : Str} {v : V} {u : Value} (I : Inv X pins σ H s) (r : Rep X.K X.mg ρ H (.jV c [.jV f [.str y]]) v) (ru : RelV v u) :
  ∃ e cv d oc vs t, u = .ref e ∧ X.mg c = some cv ∧ s.heap.get? e = some oc ∧ oc.cls = cv ∧ oc.data = .fields vs ∧ oc.dict = some d ∧ s.heap.Ns1 d fun z => if z = "name" then some (.str y t) else none := by
 unfold Rep at r
 obtain ⟨e, cv, pl, rfl, hm, he, hp⟩ := r
 cases ru
 obtain ⟨d, rfl, hd⟩ := hp
 obtain ⟨⟨oc, vs, h1, h2, h3, h4⟩, _⟩ := I.hok e _ he
 obtain ⟨⟨t, h5⟩, _⟩ := I.hok d _ hd
 exact ⟨e, cv, d, oc, vs, t, rfl, hm, h1, h2, h3, h4, h5⟩
noncomputable def FA (ok : Str → Bool) : D → M D
 | .jV c [.jV _ [.str y]] => if ok c = true then M.ret (.str y) else M.stop
 | _ => M.stop
theorem Gz {ok : Str → Bool} (hc : ∀ c cv, ok c = true → X.mg c = some cv → ∃ C P fI, cv = .ref C ∧ Nonempty (lB X.K C P fI)) (ha : QE X EE a ma) (hb : tW a = true := by rfl) : QE X EE (.Attribute a "name" pos) (sP (FA ok) ma) := by
 intro pins s σ H Q I h
 have h2 := nk (k := fun _ => FA ok) h
 refine EH (lU hb _ _) (gm (ha pins s σ H _ I h2) fun u s1 ⟨xv, H1, I1, r1, τ, ρ, G, d, ab, rd, ok'⟩ => ?_)
 unfold FA at ok'
 split at ok'
 case h_2 => exact ok'.elim
 rename_i c f y
 by_cases hk : ok c = true
 ·rw [if_pos hk] at ok'
  obtain ⟨e, cv, dx, oc, vs, t, rfl, hm, g1, g2, g3, g4, g5⟩ := zZ I1 rd r1
  obtain ⟨C, P, fI, rfl, ⟨F⟩⟩ := hc c cv hk hm
  have q := ok' (.str y) H1 ρ .refl ab (by unfold Rep; rfl)
  exact CG F I1.zm g1 g2 g3 g4 g5 (by simp) rfl fun tk => ⟨.str y, H1, I1.tok tk, ⟨t, rfl⟩, q⟩
 ·rw [if_neg hk] at ok'; exact ok'.elim
noncomputable def iC (q : Str → Option Bool) : D → M D
 | .jV c [.jV _ [.str _]] => match q c with
  | some b => M.ret (.bl b)
  | none => M.stop
 | _ => M.stop
theorem fP {q : Str → Option Bool} {cv : Value} (hm : X.mg "isinstance" = none) (hmt : X.mg x = some cv) (hc : ∀ c b cw, q c = some b → X.mg c = some cw → ∃ C P fI, cw = .ref C ∧ Nonempty (lB X.K C P fI) ∧ PySem.W.kitOne X.K cw cv = some b) (hg : Gl X "isinstance") (hgt : Gl X x) (hdt : (x == ("__debug__" : Str)) = false) (ha : QE X EE a ma) (h : ff a = true := by rfl) :
  QE X EE (.Call (.Name "isinstance" p) [a, .Name x pt] [] pos) (sP (iC q) ma) := by
 intro pins s σ H Q I h0
 have h2 := nk (k := fun _ => iC q) h0
 refine wpAny_Call_Name_kw (nh I hg hm PyProof.Rows.boot_isinstance ?_ (by decide) (by decide))
 refine PyProof.Rows.callWith_builtin1 ?_ (dN h _ _) (eB (es := [.Name x pt]) rfl)
 rw [dN h, dN (e := .Name x pt) rfl]
 refine Calls.spliced_cons (gm (ha pins s σ H _ I h2) fun u s1 ⟨xv, H1, I1, r1, τ, ρ, G, d, ab, rd, ok'⟩ => Calls.spliced_cons (sI I1 hgt hmt (Calls.spliced_nil ?_) hdt))
 unfold iC at ok'
 split at ok'
 case h_2 => exact ok'.elim
 rename_i c f y
 cases hq : q c with
 | none => rw [hq] at ok'; exact ok'.elim
 | some b =>
 rw [hq] at ok'
 obtain ⟨e, cw, dx, oc, vs, t, rfl, Ny, g1, g2, g3, g4, g5⟩ := zZ I1 rd r1
 obtain ⟨C, P, fI, rfl, ⟨F⟩, hk⟩ := hc c b cw hq Ny
 have z := ok' (.bl b) H1 ρ .refl ab (by unfold Rep; rfl)
 obtain ⟨od, hod, _⟩ := qU g5
 exact PySem.W.kia_one (xW (oc := oc) (od := od) F) I1.zm ⟨g1, g2, by unfold PySem.W.notCls; rw [g3], by rw [g4]; exact hod⟩ hk (fun z => nomatch z) fun tk => ⟨.bl b, H1, I1.tok tk, rfl, z⟩
theorem DF {q : Str → Option Bool} {T : String} (hm : X.mg "isinstance" = none) (hmt : X.mg x = none) (Rk : bootBuiltins x = some (.type T)) (hc : ∀ c b cw, q c = some b → X.mg c = some cw → ∃ C P fI, cw = .ref C ∧ Nonempty (lB X.K C P fI) ∧ PySem.W.kitOne X.K cw (.type T) = some b) (hg : Gl X "isinstance") (hgt : Gl X x) (hnt : x ≠ "__name__") (hdt : (x == ("__debug__" : Str)) = false) (ha : QE X EE a ma) (h : ff a = true := by rfl) :
  QE X EE (.Call (.Name "isinstance" p) [a, .Name x pt] [] pos) (sP (iC q) ma) := by
 intro pins s σ H Q I h0
 have h2 := nk (k := fun _ => iC q) h0
 refine wpAny_Call_Name_kw (nh I hg hm PyProof.Rows.boot_isinstance ?_ (by decide) (by decide))
 refine PyProof.Rows.callWith_builtin1 ?_ (dN h _ _) (eB (es := [.Name x pt]) rfl)
 rw [dN h, dN (e := .Name x pt) rfl]
 refine Calls.spliced_cons (gm (ha pins s σ H _ I h2) fun u s1 ⟨xv, H1, I1, r1, τ, ρ, G, d, ab, rd, ok'⟩ => Calls.spliced_cons (nh I1 hgt hmt Rk (Calls.spliced_nil ?_) hnt hdt))
 unfold iC at ok'
 split at ok'
 case h_2 => exact ok'.elim
 rename_i c f y
 cases hq : q c with
 | none => rw [hq] at ok'; exact ok'.elim
 | some b =>
 rw [hq] at ok'
 obtain ⟨e, cw, dx, oc, vs, t, rfl, Ny, g1, g2, g3, g4, g5⟩ := zZ I1 rd r1
 obtain ⟨C, P, fI, rfl, ⟨F⟩, hk⟩ := hc c b cw hq Ny
 have z := ok' (.bl b) H1 ρ .refl ab (by unfold Rep; rfl)
 obtain ⟨od, hod, _⟩ := qU g5
 exact PySem.W.kia_one (xW (oc := oc) (od := od) F) I1.zm ⟨g1, g2, by unfold PySem.W.notCls; rw [g3], by rw [g4]; exact hod⟩ hk (fun z => nomatch z) fun tk => ⟨.bl b, H1, I1.tok tk, rfl, z⟩
theorem vY {C P fI : Addr} {fd : FuncData} {k : Nat} {np cpos : Pos} {e : Expr} {es : List Expr} {m : DS → M (List D)} (hc : X.calm = true) (hx : lW X EE) (hm : X.mg x = some (.ref C)) (N : Nonempty (lB X.K C P fI)) (Fn : cV X.prog X.w X.K X.mg X.base HL k fI fd ["self", "name"] (Ks C)) (hb : Binds X.K fd ["self", "name"] []) (hr : iA (k + 1) X.A)
  (hg : Gl X x) (hd : (x == ("__debug__" : Str)) = false ∧ (x == ("__classdict__" : Str)) = false) (ha : QA X EE (e :: es) m) (h : bf (e :: es) = true := by rfl) : QS X EE (.Raise (some (.Call (.Name x np) (e :: es) [] cpos)) none pos) (nX x m) := by
 have h' : ff e = true ∧ bf es = true := by simpa [bf] using h
 obtain ⟨N⟩ := N
 exact BL hc hx hm N Fn hb hr hg hd.1 ha (dN h'.1 _ _) (eB h'.2)
noncomputable def GA (i j l n : Nat) : pF := fun d τ => match d with
 | .tup [x, y, z, u] => some ((((τ.set i (some x)).set j (some y)).set l (some z)).set n (some u))
 | _ => none
theorem A5 {x y z u : Str} {i j l n : Nat} {px py pz pu : Pos} {k : Nat} (hc : X.calm = true) (hN : X.N.Nodup) (hx : Loc X.env.scope x) (hy : Loc X.env.scope y) (hz : Loc X.env.scope z) (hw : Loc X.env.scope u) (hfx : X.fn x = true ∨ X.env.scope.names.lookup x = some .local) (Nm : X.fn y = true ∨ X.env.scope.names.lookup y = some .local) (Rl : X.fn z = true ∨ X.env.scope.names.lookup z = some .local) (hfu : X.fn u = true ∨ X.env.scope.names.lookup u = some .local)
  (hi : X.N[i]? = some x := by rfl) (hj : X.N[j]? = some y := by rfl) (hl : X.N[l]? = some z := by rfl) (hn : X.N[n]? = some u := by rfl) : QG X (.Tuple [.Name x px, .Name y py, .Name z pz, .Name u pu] k pos) (GA i j l n) := by
 intro pins s σ H v w Q I r ⟨τ, ρ, G, d, τ', ab, rd, e, q⟩
 refine Cs (n := 4) hc (lA (lR hN hi hx hfx) (lA (lR hN hj hy Nm) (lA (lR hN hl hz Rl) (lA (lR hN hn hw hfu) Aq)))) rfl rfl pins s σ H v w Q I r ?_
 cases d <;> try (cases e; done)
 rename_i ds
 match ds, e with
 | [d1, d2, d3, d4], e =>
  cases e
  unfold Rep at rd
  obtain ⟨a, vs, rfl, sq, rs⟩ := rd
  unfold aE at rs
  obtain ⟨v1, vs', rfl, r1, rs⟩ := rs
  unfold aE at rs
  obtain ⟨v2, vs', rfl, r2, rs⟩ := rs
  obtain ⟨v3, v4, rfl, r3, r4⟩ := C4 rs
  exact ⟨a, [v1, v2, v3, v4], rfl, sq, rfl, v1, [v2, v3, v4], rfl, v2, [v3, v4], rfl, v3, [v4], rfl, v4, [], rfl, rfl, q _ (Ab.set (Ab.set (Ab.set (Ab.set ab r1) r2) r3) r4)⟩
noncomputable def yH (g : pF) (τ : DS) (d : D) (G : DH) : Res := match g d τ with
 | some τ' => .nx τ' G
 | none => .stuck
noncomputable def B3 (g : pF) (m : DS → M D) : MS := fun τ => cZ (m τ) (fun d G => yH g τ d G) fun c G => .xn c τ G
theorem DG {tg : Expr} {g : pF} (ha : QE X EE a ma) (hg : QG X tg g) (hs : swapsWithSole [tg] a pos.line X.env = pure false) (hw : swappedStores [tg] a X.env = pure none) (h1 : (assignEach [tg] X.env).map (·.2) = [assign tg X.env]) : QS X EE (.Assign [tg] a pos) (B3 g ma) := by
 intro pins s σ H Dd I h
 refine Ct ha hg hs hw h1 pins s σ H Dd I ?_
 have h2 := tH (k := fun τ d G => yH g τ d G) h
 obtain ⟨τ, ρ, G, ab, ok⟩ := h2
 refine ⟨τ, ρ, G, ab, ?_⟩
 cases e : ma τ G with
 | stuck => rw [e] at ok; exact ok
 | dG c G' => rw [e] at ok; exact ok
 | ok d G' =>
  rw [e] at ok
  intro v H' ρ' f cG r
  obtain ⟨τ2, ρ2, G2, d2, ef, r2, aU⟩ := ok v H' ρ' f cG r
  unfold yH at aU
  cases eg : g d2 τ2 with
  | none => rw [eg] at aU; exact aU.elim
  | some τ3 =>
   rw [eg] at aU
   exact ⟨τ2, ρ2, G2, d2, τ3, ef, r2, eg, fun σ' xX => aU σ' H' ρ2 .refl xX⟩
noncomputable def yI : D → D → M D
 | .bl b, .bl true => M.ret (.bl b)
 | _, _ => M.stop
theorem FD : nj X (compareOp .Is) (fun x y H Q => ∃ b, x = .bl b ∧ y = .bl true ∧ Q (.bl b) H) := by
 intro pins s σ H x y v u Q I rx ry h
 obtain ⟨b, rfl, rfl, q⟩ := h
 cases rx
 cases ry
 refine wpAny_pure ⟨.bl b, H, I, ?_, q⟩
 cases b <;> rfl
theorem KR : Eo X EE (fun x y H Q => ∃ b, x = .bl b ∧ y = .bl true ∧ Q (.bl b) H) yI := fun σ H τ ρ G x y d e Q ab r1 r2 ok => by
 unfold yI at ok
 split at ok
 ·unfold Rep at r1 r2
  exact ⟨_, r1, r2, ok _ H ρ .refl ab (by unfold Rep; rfl)⟩
 ·exact ok.elim
theorem DI : nj X (compareOp .Is) (rD X EE yI) := fun pins s σ H x y v u Q I rx ry h => FD pins s σ H x y v u Q I rx ry (FZ KR h)
end
noncomputable def KS (K : PySem.W.Frag) (mg : Str → Option Value) : List Str → Prop
 | [] => True
 | c :: r => (∃ C P fI, mg c = some (.ref C) ∧ Nonempty (lB K C P fI)) ∧ KS K mg r
theorem IJ {K : PySem.W.Frag} {mg : Str → Option Value} : ∀ {l : List Str}, KS K mg l → ∀ (c : Str) (cv : Value), l.contains c = true → mg c = some cv → ∃ C P fI, cv = .ref C ∧ Nonempty (lB K C P fI)
 | [], _, _, _, h, _ => by simp at h
 | x :: r, ⟨⟨C, P, fI, h1, h2⟩, hr⟩, c, cv, h, hm => by
  rw [List.contains_cons] at h
  cases e : c == x with
  | true => have := eq_of_beq e; subst this; rw [h1] at hm; cases hm; exact ⟨C, P, fI, rfl, h2⟩
  | false => rw [e] at h; exact IJ hr c cv h hm
noncomputable def KU (K : PySem.W.Frag) (mg : Str → Option Value) (cv : Value) : List (Str × Bool) → Prop
 | [] => True
 | q :: r => (∃ C P fI, mg q.1 = some (.ref C) ∧ Nonempty (lB K C P fI) ∧ PySem.W.kitOne K (.ref C) cv = some q.2) ∧ KU K mg cv r
theorem mw {K : PySem.W.Frag} {mg : Str → Option Value} {cv : Value} : ∀ {l : List (Str × Bool)}, KU K mg cv l → ∀ (c : Str) (b : Bool) (cw : Value), l.lookup c = some b → mg c = some cw → ∃ C P fI, cw = .ref C ∧ Nonempty (lB K C P fI) ∧ PySem.W.kitOne K cw cv = some b
 | [], _, _, _, _, h, _ => nomatch h
 | q :: r, ⟨⟨C, P, fI, h1, h2, h3⟩, hr⟩, c, b, cw, h, hm => by
  obtain ⟨qn, qb⟩ := q
  rw [List.lookup_cons] at h
  cases e : c == qn with
  | true =>
   rw [e] at h; cases h
   have := eq_of_beq e
   subst this
   rw [h1] at hm; cases hm
   exact ⟨C, P, fI, rfl, h2, h3⟩
  | false => rw [e] at h; exact mw hr c b cw h hm
noncomputable def DJ (s : Stmt) : Stmt := match s with
 | .ClassDef _ _ _ b _ _ _ _ _ _ _ => b.getD 0 (.Pass ⟨0, 0, 0, 0⟩)
 | s => s
section
variable {m : MS} {τ : DS} {G : DH} {x : Str} {ml : DS → M (List D)} {d : D}
theorem vZ : nX x ml τ G = (ml τ G).sb τ fun ds G => Ku x τ ds G := by
 unfold nX cZ Out.sb
 cases ml τ G <;> rfl
theorem GB {y : Str} : Ku x τ [.str y] G = .xn (.mk x [.jV "name" [.str y]]) τ G := Eq.trans rfl rfl
theorem yJ {p : Str → Option Bool} {i : Nat} {r : XD → MS} {n : Str} {as : List D} : tR p i m r (.mk n as) τ G = match p n with
  | some true => Df i (m (τ.set i (some (.jV n as))) G)
  | some false => r (.mk n as) τ G
  | none => .stuck := Eq.trans rfl rfl
theorem yK {i : Nat} : Df i (Res.nx τ G) = .nx (τ.set i none) G := Eq.trans rfl rfl
theorem A6 {ok : Str → Bool} {c f y : Str} : FA ok (.jV c [.jV f [.str y]]) G = if ok c = true then .ok (.str y) G else .stuck := by
 unfold FA; dsimp only; split <;> rfl
theorem DK {q : Str → Option Bool} {c f y : Str} {b : Bool} (h : q c = some b) : iC q (.jV c [.jV f [.str y]]) G = .ok (.bl b) G := by
 unfold iC; dsimp only; rw [h]; rfl
end
section
variable {τ : DS} {G R : DH} {mv mo mi e : DS → M D} {g : pF} {xs ds : List D} {m : List D → M D} {c : XD}
theorem yL : jk mv mo mi τ G = ((mv τ G).bd fun v => (mo τ).bind fun o => (mi τ).bind fun i => nu v o i).xp τ := by
 unfold jk cZ Out.xp
 rw [dw]
 cases (mv τ G).bd fun v => (mo τ).bind fun o => (mi τ).bind fun i => nu v o i <;> rfl
theorem DL : B3 g e τ G = (e τ G).sb τ fun d G => yH g τ d G := by
 unfold B3 cZ Out.sb
 cases e τ G <;> rfl
theorem B4 {body : MS} : tX g body (rQ (.con xs)) (xs.length + 1) 0 τ G = cN g body (xs.mapIdx fun i x => .tup [.int i, x]) τ G := by
 have := ua (g := g) (body := body) (xs := xs.mapIdx fun i x => D.tup [.int i, x]) (vw := rQ (.con xs)) (fun G i h => by
  unfold rQ
  simp only [bN, List.getElem?_mapIdx]) (xs.length + 1) 0 τ G (by simp) (by simp)
 simpa using this
theorem nB (h : m ds G = .dG c (G ++ R)) : iD m ds G = .dG c G := by
 simp [iD, h, iO]
end
end L3
end
section
set_option Elab.async false
set_option linter.all false
set_option maxRecDepth 100000
set_option maxHeartbeats 4000000
namespace K17
open PySem PySem.Spec L2 L3
noncomputable def top (i : Nat) : Stmt := PySem.Challenge.pw_pathshape_k17_sound_shapes.main.body.getD i (.Pass ⟨0, 0, 0, 0⟩)
noncomputable abbrev cA : Stmt := top 11
noncomputable abbrev bV : Stmt := top 12
noncomputable abbrev aV : Stmt := top 13
noncomputable abbrev aC : Stmt := top 14
noncomputable abbrev aW : Stmt := top 16
noncomputable abbrev bA : Stmt := top 17
noncomputable abbrev aP : Stmt := top 18
noncomputable abbrev aH : Stmt := top 19
noncomputable abbrev aB : Stmt := top 20
noncomputable abbrev bC : Stmt := top 21
noncomputable abbrev aF : Stmt := top 22
noncomputable abbrev cU : Stmt := top 23
noncomputable abbrev eW : Stmt := DJ (top 8)
noncomputable abbrev fS : Stmt := DJ (top 7)
noncomputable abbrev mz : List Str := ["rule"]
noncomputable abbrev oA : Nat := 1
noncomputable def jJ : MS := jI (eFn (jZ oN [] (aM dg (aj 0) (eC (.int 3))) (qg) (aM dg (aj 0) (eC (.int 0)))))
noncomputable def fy (ds : List D) : M D := iD (fun ds => iB 1 jJ ds) ds
noncomputable abbrev qw : List Str := ["_law_script", "_law_many", "_law_found", "_law_k", "_law_cell"]
noncomputable abbrev uT : Nat := 1
noncomputable def fT : MS := bu (cu 4 (eC (.int 0))) (bu (pS (jR (aM Jh (aG i7 (ah (aj 0) (aL))) (eC (.int 0)))) (cu 4 (aM eS (aM dg (aj 0) (aM eS (aj 3) (aG i7 (ah (aj 0) (aL))))) (aM J9 (eC (.int 10)) (eC (.int 18))))) (dS)) (jX (fc "list" gJ (aj 2) (ah (aM dF (aj 4) (aM BC (eC (.int 7919)) (aM gn (aj 3) (aG (nt fun i j => if j > i then j else i) (ah (eC (.int 1)) (ah (aG i7 (ah (aj 0) (aL))) (aL))))))) (aL)))))
noncomputable def jK : MS := bu (cu 2 (aG di (aL))) (bu (gH qZ (gN 3) (ah (aj 1) (aL)) fT) (jI (Gv (aj 2))))
noncomputable def fB (ds : List D) : M D := iD (fun ds => iB 5 jK ds) ds
noncomputable abbrev rS : List Str := ["_law_draw", "_law_letters", "_law_name_here", "_law_k", "_law_at", "_law_taken"]
noncomputable abbrev xo : Nat := 1
noncomputable def gR : MS := bu (cu 4 (aM dF (aM dF (aM gn (aj 0) (eC (.int 208))) (aM BC (aM BC (eC (.int 7)) (aj 3)) (aj 3))) (aM BC (aM eS (aM gn (aj 0) (eC (.int 5408))) (eC (.int 26))) (aj 3)))) (cu 2 (aM dF (aj 2) (aM dg (aj 1) (aM eS (aj 4) (eC (.int 26))))))
noncomputable def mC : MS := bu (cu 5 (eFn (aG di (ah (eC (.str "start")) (ah (eC (.str "rule")) (ah (eC (.str "row")) (ah (eC (.str "mix")) (ah (eC (.str "many")) (ah (eC (.str "any")) (ah (eC (.str "kind")) (ah (eC (.str "not")) (ah (eC (.str "both")) (ah (eC (.str "either")) (ah (eC (.str "way")) (ah (eC (.str "mark")) (aL)))))))))))))))) (bu (pS (jR (aM (qY false) (aj 2) (aj 5))) (jI (aM dF (aj 2) (eC (.str "z")))) (dS)) (jI (aj 2)))
noncomputable def jb : MS := bu (cu 1 (eC (.str "abcdefghijklmnopqrstuvwxyz"))) (bu (cu 2 (aM dg (aj 1) (aM eS (aj 0) (eC (.int 26))))) (bu (gH qZ (gN 3) (ah (aM eS (aM gn (aj 0) (eC (.int 26))) (eC (.int 8))) (aL)) gR) (mC)))
noncomputable def gr (ds : List D) : M D := iD (fun ds => iB 6 jb ds) ds
noncomputable abbrev mD : List Str := ["_law_draws_here", "_law_names", "_law_rules", "_law_tops", "_law_k", "_law_draw", "_law_items", "_law_j", "_law_low", "_law_number", "_law_name_here"]
noncomputable abbrev uU : Nat := 1
noncomputable def iW : MS := jX (fc "list" gJ (aj 3) (ah (aM dg (aj 1) (aG (nt fun i j => if j > i then j else i) (ah (eC (.int 0)) (ah (aM J8 (aj 4) (aM eS (aM gn (aM dg (aj 0) (aM dF (eC (.int 9)) (aj 4))) (eC (.int 384))) (eC (.int 2)))) (aL))))) (aL)))
noncomputable def fU : MS := bu (cu 8 (aM eS (aM gn (aj 5) (aM dF (eC (.int 4)) (aj 7))) (eC (.int 3)))) (bu (cu 9 (aM dF (aM gn (aj 5) (eC (.int 12))) (aM BC (aj 7) (aM dF (eC (.int 1)) (aM eS (aM gn (aj 5) (eC (.int 7))) (eC (.int 2))))))) (bu (cu 10 (aM dg (aj 3) (aM eS (aj 9) (aG i7 (ah (aj 3) (aL)))))) (pS (jR (aM (qY true) (aj 10) (eFn (jZ oN [] (aj 6) (qg) (aM dg (aj 0) (eC (.int 0))))))) (jX (fc "list" gJ (aj 6) (ah (aG i6 (ah (aj 10) (ah (aj 8) (ah (aM dg (eFn (aG di (ah (eC .gk) (ah (eC (.int 2)) (aL))))) (aM eS (aM gn (aj 5) (aM dF (eC (.int 5)) (aj 7))) (eC (.int 2)))) (aL))))) (aL)))) (dS))))
noncomputable def iX : MS := bu (cu 5 (aM dg (aj 0) (aM dF (eC (.int 9)) (aj 4)))) (bu (cu 6 (aG di (aL))) (bu (gH qZ (gN 7) (ah (aM eS (aj 5) (eC (.int 4))) (aL)) fU) (jX (fc "list" gJ (aj 2) (ah (aG i6 (ah (aM dg (aj 3) (aj 4)) (ah (aM dg (aj 1) (aM eS (aM gn (aj 5) (eC (.int 24))) (eC (.int 8)))) (ah (aM dg (eFn (aG di (ah (eC (.str "row")) (ah (eC (.str "mix")) (aL))))) (aM eS (aM gn (aj 5) (eC (.int 192))) (eC (.int 2)))) (ah (aG gM (ah (aj 6) (aL))) (aL)))))) (aL))))))
noncomputable def oB : MS := bu (gH qZ (gN 4) (ah (aM dF (eC (.int 1)) (aM eS (aM dg (aj 0) (eC (.int 8))) (eC (.int 8)))) (aL)) iX) (jI (Gv (aj 2)))
noncomputable def jL : MS := bu (cu 2 (aG di (aL))) (bu (cu 3 (aG di (aL))) (bu (gH qZ (gN 4) (ah (aM dF (eC (.int 1)) (aM eS (aM dg (aj 0) (eC (.int 8))) (eC (.int 8)))) (aL)) iW) (oB)))
noncomputable def gS (ds : List D) : M D := iD (fun ds => iB 11 jL ds) ds
noncomputable abbrev kN : List Str := ["_law_draws_here", "_law_rules", "_law_start", "_law_strays", "_law_way", "_law_at", "_law_name_here", "_law_kind", "_law_order", "_law_items", "_law_again"]
noncomputable abbrev ue : Nat := 1
noncomputable def j5 : MS := bu (cu 10 (aM dg (aM dg (aj 9) (aM eS (aM dg (aj 0) (eC (.int 20))) (aG i7 (ah (aj 9) (aL))))) (eC (.int 0)))) (jX (fc "list" qv (aj 9) (ah (aM eS (aM dg (aj 0) (eC (.int 19))) (aM dF (aG i7 (ah (aj 9) (aL))) (eC (.int 1)))) (ah (aG i6 (ah (aj 10) (ah (eC (.int 0)) (ah (eC .gk) (aL))))) (aL)))))
noncomputable def gT : MS := bu (B3 (GA 6 7 8 9) (aM dg (aj 1) (aM eS (aM dg (aj 0) (eC (.int 22))) (aG i7 (ah (aj 1) (aL)))))) (pS (oq (jR (aM (qY true) (aM dg (aj 3) (eC (.int 1))) (eFn (jZ oN [] (aj 9) (qg) (aM dg (aj 0) (eC (.int 0))))))) (jR (aM LR (aG i7 (ah (aj 9) (aL))) (eC (.int 3))))) (jk (aG i6 (ah (aj 6) (ah (aj 7) (ah (aj 8) (ah (eFn (aM dF (aj 9) (aG i6 (ah (aG i6 (ah (aM dg (aj 3) (eC (.int 1))) (ah (eC (.int 0)) (ah (eC (.int 1)) (aL))))) (aL))))) (aL)))))) (aj 1) (aM eS (aM dg (aj 0) (eC (.int 22))) (aG i7 (ah (aj 1) (aL))))) (dS))
noncomputable def kO : MS := bu (cu 4 (aM eS (aM dg (aj 0) (eC (.int 17))) (eC (.int 16)))) (bu (cu 5 (aM eS (aM dg (aj 0) (eC (.int 18))) (aG i7 (ah (aj 1) (aL))))) (bu (B3 (GA 6 7 8 9) (aM dg (aj 1) (aj 5))) (bu (cu 9 (aG lZ (ah (aj 9) (aL)))) (bu (pS (jR (aM (nS false) (aG i7 (ah (aj 9) (aL))) (eC (.int 3)))) (jX (fc "list" x9 (aj 9) aL)) (dS)) (bu (pS (oq (jR (aM (nS false) (aM eS (aj 4) (eC (.int 2))) (eC (.int 1)))) (jR (aM Jh (aG i7 (ah (aj 9) (aL))) (eC (.int 0))))) (j5) (dS)) (bu (pS (oq (jR (aM (nS false) (aM eS (aM gn (aj 4) (eC (.int 2))) (eC (.int 2))) (eC (.int 1)))) (jR (aM Jh (aG i7 (ah (aj 9) (aL))) (eC (.int 0))))) (jk (aG i6 (ah (aM dg (aj 3) (eC (.int 0))) (ah (eC (.int 1)) (ah (eC (.int 2)) (aL))))) (aj 9) (aM eS (aM dg (aj 0) (eC (.int 21))) (aG i7 (ah (aj 9) (aL))))) (dS)) (bu (jk (aG i6 (ah (aj 6) (ah (aj 7) (ah (aj 8) (ah (aG gM (ah (aj 9) (aL))) (aL)))))) (aj 1) (aj 5)) (bu (pS (jR (aM (nS false) (aM eS (aM gn (aj 4) (eC (.int 4))) (eC (.int 2))) (eC (.int 1)))) (gT) (dS)) (bu (pS (jR (aM (nS false) (aM gn (aj 4) (eC (.int 8))) (eC (.int 1)))) (cu 2 (aM dg (aj 3) (aM eS (aM dg (aj 0) (eC (.int 23))) (eC (.int 2))))) (dS)) (jI (aG i6 (ah (aj 2) (ah (aG gM (ah (aj 1) (aL))) (aL))))))))))))))
noncomputable def dX (ds : List D) : M D := iB 11 kO ds
noncomputable abbrev mE : List Str := ["_law_shape", "_law_rule", "_law_k", "_law_known", "_law_item"]
noncomputable abbrev yM : Nat := 1
noncomputable def gu : MS := pS (jR (aM (qY false) (aM dg (aM dg (aM dg (aj 1) (eC (.int 3))) (aj 2)) (eC (.int 0))) (eFn (jZ oN [] (eFn (Ck (aM dg (aj 1) (eC (.int 3))) (om) (kj (aj 2)))) (qg) (aM dg (aj 0) (eC (.int 0))))))) (jI (eFn (aG di (ah (eC (.str "twice")) (ah (aM dg (aM dg (aM dg (aj 1) (eC (.int 3))) (aj 2)) (eC (.int 0))) (aL)))))) (dS)
noncomputable def kB : MS := gH qZ (gN 2) (ah (aG i7 (ah (aM dg (aj 1) (eC (.int 3))) (aL))) (aL)) gu
noncomputable def gw : MS := pS (jR (aM (qY true) (aM dg (aj 4) (eC (.int 0))) (aj 3))) (jI (eFn (aG di (ah (eC (.str "norule")) (ah (aM dg (aj 4) (eC (.int 0))) (aL)))))) (dS)
noncomputable def kC : MS := kL (gN 4) (aM dg (aj 1) (eC (.int 3))) gw
noncomputable def kD : MS := bu (pS (jR (aM (qY true) (aM dg (aj 0) (eC (.int 0))) (aj 3))) (jI (eFn (aG di (ah (eC (.str "norule")) (ah (aM dg (aj 0) (eC (.int 0))) (aL)))))) (dS)) (bu (kL (gN 1) (aM dg (aj 0) (eC (.int 1))) kC) (jI (eFn (aG di (ah (eC (.str "sound")) (ah (eC (.str "")) (aL)))))))
noncomputable def kF : MS := bu (cu 3 (eFn (jZ oN [] (aM dg (aj 0) (eC (.int 1))) (qg) (aM dg (aj 0) (eC (.int 0)))))) (kD)
noncomputable def gg : MS := bu (kL (gN 1) (aM dg (aj 0) (eC (.int 1))) kB) (kF)
noncomputable def iS (ds : List D) : M D := iD (fun ds => iB 5 gg ds) ds
noncomputable abbrev kP : List Str := ["_law_draws_here", "_law_many", "_law_names", "_law_k", "_law_name_here", "_law_spare"]
noncomputable abbrev uf : Nat := 2
noncomputable def nD : MS := bu (cu 5 (eFn (aG di (ah (eC (.str "qa")) (ah (eC (.str "qb")) (ah (eC (.str "qc")) (ah (eC (.str "qd")) (ah (eC (.str "qe")) (ah (eC (.str "qf")) (ah (eC (.str "qg")) (ah (eC (.str "qh")) (aL)))))))))))) (cu 4 (aM dg (eFn (jZ oN [false, false, true] (aj 5) (jR (aM (qY true) (aj 0) (aj 3))) (aj 0))) (eC (.int 0))))
noncomputable def fh : MS := bu (cu 4 (e9 1 gr (ah (aM dg (aj 0) (aj 3)) (aL)))) (bu (pS (jR (aM (qY false) (aj 4) (aj 2))) (nD) (dS)) (jX (fc "list" gJ (aj 2) (ah (aj 4) (aL)))))
noncomputable def iY : MS := bu (cu 2 (aG di (aL))) (bu (gH qZ (gN 3) (ah (aj 1) (aL)) fh) (jI (Gv (aj 2))))
noncomputable def fV (ds : List D) : M D := iD (fun ds => iB 6 iY ds) ds
noncomputable abbrev nE : List Str := ["names", "number", "name"]
noncomputable abbrev sr : Nat := 3
noncomputable def cX : MS := pS (jR (aM (qY false) (aj 2) (eFn (Ck (aj 0) (om) (kj (aj 1)))))) (nX "Twice" (ah (aj 2) (aL))) (dS)
noncomputable def fj : MS := yl (gP 1 2) (rE (ah (aj 0) (aL))) cX
noncomputable def dJ (ds : List D) : M D := iD (fun ds => iB 3 fj ds) ds
noncomputable abbrev iE : List Str := ["names", "ruled", "name"]
noncomputable abbrev gU : Nat := 3
noncomputable def bL : MS := pS (jR (aM (qY true) (aj 2) (aj 1))) (nX "NoRule" (ah (aj 2) (aL))) (dS)
noncomputable def cL : MS := kL (gN 2) (aj 0) bL
noncomputable def aQ (ds : List D) : M D := iD (fun ds => iB 3 cL ds) ds
noncomputable abbrev xq : List Str := ["shape", "rule", "ruled"]
noncomputable abbrev DM : Nat := 4
noncomputable def lH : MS := jX (e9 1 dJ (ah (e9 1 fy (ah (aj 1) (aL))) (aL)))
noncomputable def lI : MS := jX (e9 2 aQ (ah (e9 1 fy (ah (aj 1) (aL))) (ah (aj 2) (aL))))
noncomputable def qx : MS := bu (jX (e9 2 aQ (ah (eFn (aG di (ah (aM dg (aj 0) (eC (.int 0))) (aL)))) (ah (aj 2) (aL))))) (bu (kL (gN 1) (aM dg (aj 0) (eC (.int 1))) lI) (jI (eC (.bl true))))
noncomputable def qy : MS := bu (cu 2 (eFn (jZ oN [] (aM dg (aj 0) (eC (.int 1))) (qg) (aM dg (aj 0) (eC (.int 0)))))) (qx)
noncomputable def mF : MS := bu (kL (gN 1) (aM dg (aj 0) (eC (.int 1))) lH) (qy)
noncomputable def kG (ds : List D) : M D := iD (fun ds => iB 3 mF ds) ds
noncomputable abbrev qA : List Str := ["_law_shape", "_law_good", "e", "_law_kept", "_law_others"]
noncomputable abbrev kQ : Nat := 5
noncomputable def oE : MS := bu (cu 3 (eFn (aG di (ah (sP (iC (fun n => List.lookup n [("NoRule", false), ("Twice", true)])) (aj 2)) (ah (eC (.str "norule")) (ah (sP (FA (fun n => (["NoRule", "Twice"] : List Str).contains n)) (aj 2)) (ah (E3 (sP (iC (fun n => List.lookup n [("NoRule", true), ("Twice", true)])) (aj 2)) (sP (iC (fun n => List.lookup n [("NoRule", true), ("Twice", true)])) (aj 2))) (aL)))))))) (bu (cu 4 (eFn (aG di (ah (sP (iC (fun n => List.lookup n [("NoRule", false), ("Twice", false)])) (aj 2)) (ah (sP (iC (fun n => List.lookup n [("NoRule", false), ("Twice", false)])) (aj 2)) (ah (sP (iC (fun n => List.lookup n [("NoRule", false), ("Twice", false)])) (aj 2)) (ah (sP (iC (fun n => List.lookup n [("NoRule", false), ("Twice", false)])) (aj 2)) (aL)))))))) (cu 4 (eFn (aM dF (aj 4) (eFn (aG di (ah (sP (iC (fun n => List.lookup n [("NoRule", false), ("Twice", false)])) (aj 2)) (ah (sP (iC (fun n => List.lookup n [("NoRule", false), ("Twice", false)])) (aj 2)) (aL)))))))))
noncomputable def oF : MS := bu (cu 3 (eFn (aG di (ah (sP (iC (fun n => List.lookup n [("NoRule", true), ("Twice", false)])) (aj 2)) (ah (eC (.str "twice")) (ah (sP (FA (fun n => (["NoRule", "Twice"] : List Str).contains n)) (aj 2)) (ah (E3 (sP (iC (fun n => List.lookup n [("NoRule", true), ("Twice", true)])) (aj 2)) (sP (iC (fun n => List.lookup n [("NoRule", true), ("Twice", true)])) (aj 2))) (aL)))))))) (bu (cu 4 (eFn (aG di (ah (sP (iC (fun n => List.lookup n [("NoRule", false), ("Twice", false)])) (aj 2)) (ah (sP (iC (fun n => List.lookup n [("NoRule", false), ("Twice", false)])) (aj 2)) (ah (sP (iC (fun n => List.lookup n [("NoRule", false), ("Twice", false)])) (aj 2)) (ah (sP (iC (fun n => List.lookup n [("NoRule", false), ("Twice", false)])) (aj 2)) (aL)))))))) (cu 4 (eFn (aM dF (aj 4) (eFn (aG di (ah (sP (iC (fun n => List.lookup n [("NoRule", false), ("Twice", false)])) (aj 2)) (ah (sP (iC (fun n => List.lookup n [("NoRule", false), ("Twice", false)])) (aj 2)) (aL)))))))))
noncomputable def kR : MS := bu (pS (tO (qX uP (aM dg (aj 3) (eC (.int 0)))) (tO (CU (qX uP (aM dg (aj 3) (eC (.int 3))))) (jR (aM (qY false) (eC (.bl true)) (aj 4))))) (jI (eFn (aG di (ah (eC (.str "")) (ah (eC (.str "")) (aL)))))) (dS)) (jI (eFn (Ck (aj 3) (kj (eC (.int 1))) (kj (eC (.int 3))))))
noncomputable def fC : MS := bu (De (cu 1 (e9 1 kG (ah (aj 0) (aL)))) (tR (fun n => List.lookup n [("NoRule", false), ("Twice", true)]) 2 (oF) (tR (fun n => List.lookup n [("NoRule", true), ("Twice", false)]) 2 (oE) (Kw))) (jI (MZ (jR (aM yI (aj 1) (eC (.bl true)))) (eFn (aG di (ah (eC (.str "sound")) (ah (eC (.str "")) (aL))))) (eFn (aG di (ah (eC (.str "")) (ah (eC (.str "")) (aL)))))))) (kR)
noncomputable def cB (ds : List D) : M D := iD (fun ds => iB 5 fC ds) ds
noncomputable abbrev DP : List Str := ["_law_script", "_law_draws_here", "_law_names", "_law_rules", "_law_many", "_law_good", "_law_strays", "_law_bad"]
noncomputable def z9 : MS := bu (pS (oq (jR (aM LR (aj 4) (eC (.int 7)))) (jR (aM (nS false) (aM eS (aM gn (aM dg (aj 1) (eC (.int 23))) (eC (.int 2))) (eC (.int 2))) (eC (.int 1))))) (jk (aM dg (aj 2) (eC (.int 7))) (aj 6) (eC (.int 0))) (dS)) (bu (pS (tO (jR (aM (qY false) (aM dg (aj 6) (eC (.int 0))) (eFn (Ck (aj 2) (om) (kj (aj 4)))))) (tO (jR (aM (qY false) (aM dg (aj 6) (eC (.int 1))) (eFn (Ck (aj 2) (om) (kj (aj 4)))))) (jR (aM (nS false) (aM dg (aj 6) (eC (.int 0))) (aM dg (aj 6) (eC (.int 1))))))) (cu 6 (eFn (aG di (ah (eC (.str "qqqq")) (ah (eC (.str "jjjj")) (aL)))))) (dS)) (bu (cu 7 (e9 4 dX (ah (aj 1) (ah (aG lZ (ah (aj 3) (aL))) (ah (aM dg (aj 5) (eC (.int 0))) (ah (Gv (aj 6)) (aL))))))) (bu (pS (tO (jR (aM (nS true) (e9 1 cB (ah (aj 5) (aL))) (eFn (aG di (ah (eC (.str "sound")) (ah (eC (.str "")) (aL))))))) (jR (aM (nS true) (e9 1 cB (ah (aj 7) (aL))) (e9 1 iS (ah (aj 7) (aL)))))) (jI (eC (.bl false))) (dS)) (jI (aM (nS false) (e9 1 cB (ah (aj 5) (aL))) (eFn (aG di (ah (eC (.str "sound")) (ah (eC (.str "")) (aL))))))))))
noncomputable def A7 : MS := bu (cu 1 (e9 2 fB (ah (aj 0) (ah (eC (.int 24)) (aL))))) (bu (cu 2 (e9 2 fV (ah (aj 1) (ah (eC (.int 8)) (aL))))) (bu (cu 3 (e9 2 gS (ah (aj 1) (ah (aj 2) (aL))))) (bu (cu 4 (aG i7 (ah (aj 3) (aL)))) (bu (cu 5 (aG i6 (ah (aM dg (aM dg (aj 3) (aM eS (aM dg (aj 1) (eC (.int 18))) (aj 4))) (eC (.int 0))) (ah (aG gM (ah (aj 3) (aL))) (aL))))) (bu (cu 6 (jZ oN [] (eFn (aG di (ah (aM dF (eFn (Ck (aM dg (aj 2) (eC (.int 0))) (om) (kj (eC (.int 6))))) (eC (.str "q"))) (ah (aM dF (eFn (Ck (aM dg (aj 2) (eC (.int 1))) (om) (kj (eC (.int 6))))) (eC (.str "j"))) (aL))))) (qg) (aM dF (aj 0) (eC (.str "x"))))) (z9))))))
noncomputable def A8 (ds : List D) : M D := iD (fun ds => iB 8 A7 ds) ds
structure Nz where
  f : Nat → Addr
  d : Nat → FuncData
  c : Nat → Addr
  i : Nat → Addr
  e : Nat → FuncData
structure Txt (K : PySem.W.Frag) (mg : Str → Option Value) (t : Nz) : Prop where
  A9 : uN K "sound" "sound" cA (t.f 0) (t.d 0)
  FE : Binds K (t.d 0) ["shape"] []
  FF : mg "sound" = some (.ref (t.f 0))
  mG : uN K "item_names" "item_names" bV (t.f 1) (t.d 1)
  qB : Binds K (t.d 1) ["rule"] []
  qC : mg "item_names" = some (.ref (t.f 1))
  nF : uN K "refuse_twice" "refuse_twice" aV (t.f 2) (t.d 2)
  ug : Binds K (t.d 2) ["names"] []
  uh : mg "refuse_twice" = some (.ref (t.f 2))
  eY : uN K "refuse_without_rule" "refuse_without_rule" aC (t.f 3) (t.d 3)
  iF : Binds K (t.d 3) ["names", "ruled"] []
  iG : mg "refuse_without_rule" = some (.ref (t.f 3))
  qD : uN K "_law_draws" "_law_draws" aW (t.f 4) (t.d 4)
  xr : Binds K (t.d 4) ["_law_script", "_law_many"] []
  xu : mg "_law_draws" = some (.ref (t.f 4))
  rT : uN K "_law_name" "_law_name" bA (t.f 5) (t.d 5)
  yN : Binds K (t.d 5) ["_law_draw"] []
  yO : mg "_law_name" = some (.ref (t.f 5))
  oG : uN K "_law_unlike" "_law_unlike" aP (t.f 6) (t.d 6)
  uV : Binds K (t.d 6) ["_law_draws_here", "_law_many"] []
  uW : mg "_law_unlike" = some (.ref (t.f 6))
  qE : uN K "_law_built" "_law_built" aH (t.f 7) (t.d 7)
  xw : Binds K (t.d 7) ["_law_draws_here", "_law_names"] []
  xx : mg "_law_built" = some (.ref (t.f 7))
  oH : uN K "_law_spoilt" "_law_spoilt" aB (t.f 8) (t.d 8)
  uX : Binds K (t.d 8) ["_law_draws_here", "_law_rules", "_law_start", "_law_strays"] []
  uY : mg "_law_spoilt" = some (.ref (t.f 8))
  um : uN K "_law_due" "_law_due" bC (t.f 9) (t.d 9)
  Aa : Binds K (t.d 9) ["_law_shape"] []
  Ac : mg "_law_due" = some (.ref (t.f 9))
  jM : uN K "_law_asked" "_law_asked" aF (t.f 10) (t.d 10)
  mH : Binds K (t.d 10) ["_law_shape"] []
  mJ : mg "_law_asked" = some (.ref (t.f 10))
  KW : uN K "law" "law" cU (t.f 11) (t.d 11)
  OP : Binds K (t.d 11) ["_law_script"] []
  M_law : mg "law" = some (.ref (t.f 11))
  qF : mg "ValueError" = none
  yP : mg "enumerate" = none
  aX : mg "isinstance" = none
  jB : mg "len" = none
  DQ : mg "list" = none
  GC : mg "max" = none
  mK : mg "range" = none
  sW : mg "tuple" = none
  yQ : mg "NoName" = some (.ref (t.c 0))
  Ba : mg "NoRow" = some (.ref (t.c 1))
  bF : mg "NoRule" = some (.ref (t.c 2))
  v5 : mg "NoShape" = some (.ref (t.c 3))
  yR : mg "NoSort" = some (.ref (t.c 4))
  yS : mg "NoText" = some (.ref (t.c 5))
  rU : mg "PathError" = some (.ref (t.c 6))
  uo : mg "TooGreat" = some (.ref (t.c 7))
  bW : mg "Twice" = some (.ref (t.c 8))
  bB : Nonempty (lB K (t.c 2) (t.c 6) (t.i 0))
  B5 : uN K "__init__" "NoRule.__init__" eW (t.i 0) (t.e 0)
  B6 : Binds K (t.e 0) ["self", "name"] []
  bO : Nonempty (lB K (t.c 8) (t.c 6) (t.i 1))
  DR : uN K "__init__" "Twice.__init__" fS (t.i 1) (t.e 1)
  DT : Binds K (t.e 1) ["self", "name"] []
  su : PySem.W.exmOne K (.ref (t.c 2)) (.ref (t.c 2)) = some true
  uq : PySem.W.exmOne K (.ref (t.c 2)) (.ref (t.c 8)) = some false
  ur : PySem.W.exmOne K (.ref (t.c 8)) (.ref (t.c 2)) = some false
  uZ : PySem.W.exmOne K (.ref (t.c 8)) (.ref (t.c 8)) = some true
  mS : PySem.W.kitOne K (.ref (t.c 2)) (.ref (t.c 0)) = some false
  nG : PySem.W.kitOne K (.ref (t.c 2)) (.ref (t.c 1)) = some false
  sy : PySem.W.kitOne K (.ref (t.c 2)) (.ref (t.c 2)) = some true
  lJ : PySem.W.kitOne K (.ref (t.c 2)) (.ref (t.c 3)) = some false
  mT : PySem.W.kitOne K (.ref (t.c 2)) (.ref (t.c 4)) = some false
  mU : PySem.W.kitOne K (.ref (t.c 2)) (.ref (t.c 5)) = some false
  j6 : PySem.W.kitOne K (.ref (t.c 2)) (.ref (t.c 6)) = some true
  kH : PySem.W.kitOne K (.ref (t.c 2)) (.ref (t.c 7)) = some false
  uu : PySem.W.kitOne K (.ref (t.c 2)) (.ref (t.c 8)) = some false
  nH : PySem.W.kitOne K (.ref (t.c 8)) (.ref (t.c 0)) = some false
  oJ : PySem.W.kitOne K (.ref (t.c 8)) (.ref (t.c 1)) = some false
  uv : PySem.W.kitOne K (.ref (t.c 8)) (.ref (t.c 2)) = some false
  mV : PySem.W.kitOne K (.ref (t.c 8)) (.ref (t.c 3)) = some false
  nI : PySem.W.kitOne K (.ref (t.c 8)) (.ref (t.c 4)) = some false
  nJ : PySem.W.kitOne K (.ref (t.c 8)) (.ref (t.c 5)) = some false
  kI : PySem.W.kitOne K (.ref (t.c 8)) (.ref (t.c 6)) = some true
  lK : PySem.W.kitOne K (.ref (t.c 8)) (.ref (t.c 7)) = some false
  u6 : PySem.W.kitOne K (.ref (t.c 8)) (.ref (t.c 8)) = some true
  jC : PySem.W.kitOne K (.ref (t.c 2)) (.type "ValueError") = some true
  j7 : PySem.W.kitOne K (.ref (t.c 8)) (.type "ValueError") = some true
theorem oK : bootBuiltins "ValueError" = some (.type "ValueError") := by decide +kernel
theorem oM : ("ValueError" : Str) ≠ "__name__" := by decide +kernel
theorem v7 : DN "NoName" := by decide +kernel
theorem yT : DN "NoRow" := by decide +kernel
theorem rH : DN "NoRule" := by decide +kernel
theorem uw : DN "NoShape" := by decide +kernel
theorem v8 : DN "NoSort" := by decide +kernel
theorem v9 : DN "NoText" := by decide +kernel
theorem qG : DN "PathError" := by decide +kernel
theorem rV : DN "TooGreat" := by decide +kernel
theorem ux : DN "Twice" := by decide +kernel
theorem oO : DN "ValueError" := by decide +kernel
theorem u7 : DN "_law_again" := by decide +kernel
theorem kU : DN "_law_asked" := by decide +kernel
theorem pJ : DN "_law_at" := by decide +kernel
theorem rW : DN "_law_bad" := by decide +kernel
theorem u9 : DN "_law_built" := by decide +kernel
theorem xy : DN "_law_cell" := by decide +kernel
theorem cC : DN "_law_draw" := by decide +kernel
theorem vc : DN "_law_draws" := by decide +kernel
theorem az : DN "_law_draws_here" := by decide +kernel
theorem yU : DN "_law_due" := by decide +kernel
theorem oQ : DN "_law_found" := by decide +kernel
theorem jN : DN "_law_good" := by decide +kernel
theorem gW : DN "_law_item" := by decide +kernel
theorem aR : DN "_law_items" := by decide +kernel
theorem rJ : DN "_law_j" := by decide +kernel
theorem dH : DN "_law_k" := by decide +kernel
theorem mL : DN "_law_kept" := by decide +kernel
theorem qH : DN "_law_kind" := by decide +kernel
theorem oR : DN "_law_known" := by decide +kernel
theorem mW : DN "_law_letters" := by decide +kernel
theorem yV : DN "_law_low" := by decide +kernel
theorem fD : DN "_law_many" := by decide +kernel
theorem xA : DN "_law_name" := by decide +kernel
theorem bh : DN "_law_name_here" := by decide +kernel
theorem bK : DN "_law_names" := by decide +kernel
theorem uy : DN "_law_number" := by decide +kernel
theorem rX : DN "_law_one" := by decide +kernel
theorem oU : DN "_law_order" := by decide +kernel
theorem j8 : DN "_law_others" := by decide +kernel
theorem fE : DN "_law_rule" := by decide +kernel
theorem bx : DN "_law_rules" := by decide +kernel
theorem fk : DN "_law_script" := by decide +kernel
theorem eX : DN "_law_shape" := by decide +kernel
theorem vd : DN "_law_spare" := by decide +kernel
theorem uz : DN "_law_spoilt" := by decide +kernel
theorem ve : DN "_law_start" := by decide +kernel
theorem bU : DN "_law_strays" := by decide +kernel
theorem vf : DN "_law_taken" := by decide +kernel
theorem jO : DN "_law_tops" := by decide +kernel
theorem uA : DN "_law_unlike" := by decide +kernel
theorem kJ : DN "_law_way" := by decide +kernel
theorem lM : DN "e" := by decide +kernel
theorem FG : DN "item" := by decide +kernel
theorem oV : DN "item_names" := by decide +kernel
theorem sX : DN "name" := by decide +kernel
theorem uB : DN "names" := by decide +kernel
theorem B7 : DN "number" := by decide +kernel
theorem sA : DN "refuse_twice" := by decide +kernel
theorem gX : DN "refuse_without_rule" := by decide +kernel
theorem sY : DN "rule" := by decide +kernel
theorem uC : DN "ruled" := by decide +kernel
theorem qI : DN "shape" := by decide +kernel
theorem DU : DN "sound" := by decide +kernel
noncomputable def Ad : Scope := {kind := .function, names := [(.ofString ".0", .local), (.ofString "rule", .local)], isGenerator := false, isCoroutine := false, more := []}
theorem mO : cW (aa cA) xq Ad ["rule"] [] := ⟨by decide +kernel, rfl, by decide +kernel, by decide +kernel, by decide +kernel, by decide +kernel, by decide +kernel⟩
noncomputable def sC : Scope := {kind := .function, names := [(.ofString ".0", .local), (.ofString "item", .local)], isGenerator := false, isCoroutine := false, more := []}
theorem gY : cW (aa bV) mz sC ["item"] [] := ⟨by decide +kernel, rfl, by decide +kernel, by decide +kernel, by decide +kernel, by decide +kernel, by decide +kernel⟩
noncomputable def lN : Scope := {kind := .function, names := [ (.ofString ".0", .local), (.ofString "_law_one", .local), (.ofString "_law_names", .free)], isGenerator := false, isCoroutine := false, more := []}
theorem dM : cW (aa aP) kP lN ["_law_one"] [false, false, true] := ⟨by decide +kernel, rfl, by decide +kernel, by decide +kernel, by decide +kernel, by decide +kernel, by decide +kernel⟩
noncomputable def sD : Scope := {kind := .function, names := [(.ofString ".0", .local), (.ofString "_law_item", .local)], isGenerator := false, isCoroutine := false, more := []}
theorem gZ : cW (aa aH) mD sD ["_law_item"] [] := ⟨by decide +kernel, rfl, by decide +kernel, by decide +kernel, by decide +kernel, by decide +kernel, by decide +kernel⟩
noncomputable def rK : Scope := {kind := .function, names := [(.ofString ".0", .local), (.ofString "_law_item", .local)], isGenerator := false, isCoroutine := false, more := []}
theorem gi : cW (aa aB) kN rK ["_law_item"] [] := ⟨by decide +kernel, rfl, by decide +kernel, by decide +kernel, by decide +kernel, by decide +kernel, by decide +kernel⟩
noncomputable def vg : Scope := {kind := .function, names := [(.ofString ".0", .local), (.ofString "_law_item", .local)], isGenerator := false, isCoroutine := false, more := []}
theorem jn : cW (aa bC) mE vg ["_law_item"] [] := ⟨by decide +kernel, rfl, by decide +kernel, by decide +kernel, by decide +kernel, by decide +kernel, by decide +kernel⟩
noncomputable def vh : Scope := {kind := .function, names := [(.ofString ".0", .local), (.ofString "_law_rule", .local)], isGenerator := false, isCoroutine := false, more := []}
theorem jo : cW (aa bC) mE vh ["_law_rule"] [] := ⟨by decide +kernel, rfl, by decide +kernel, by decide +kernel, by decide +kernel, by decide +kernel, by decide +kernel⟩
noncomputable def DV : Scope := {kind := .function, names := [(.ofString ".0", .local), (.ofString "_law_name_here", .local)], isGenerator := false, isCoroutine := false, more := []}
theorem pK : cW (aa cU) DP DV ["_law_name_here"] [] := ⟨by decide +kernel, rfl, by decide +kernel, by decide +kernel, by decide +kernel, by decide +kernel, by decide +kernel⟩
theorem jc : LK (aa aF) "NoName" .globalImplicit := by decide +kernel
theorem jD : LK (aa aF) "NoRow" .globalImplicit := by decide +kernel
theorem jd : LK (aa aF) "NoRule" .globalImplicit := by decide +kernel
theorem iH : LK (aa aF) "NoShape" .globalImplicit := by decide +kernel
theorem je : LK (aa aF) "NoSort" .globalImplicit := by decide +kernel
theorem jf : LK (aa aF) "NoText" .globalImplicit := by decide +kernel
theorem gy : LK (aa aF) "PathError" .globalImplicit := by decide +kernel
theorem g9 : LK (aa aF) "TooGreat" .globalImplicit := by decide +kernel
theorem jE : LK (aa aF) "Twice" .globalImplicit := by decide +kernel
theorem fW : LK (aa aF) "ValueError" .globalImplicit := by decide +kernel
theorem gz : LK (aa aF) "_law_good" .local := by decide +kernel
theorem bX : LK (aa aF) "_law_kept" .local := by decide +kernel
theorem bg : LK (aa aF) "_law_others" .local := by decide +kernel
theorem kW : LK (aa aF) "_law_shape" .local := by decide +kernel
theorem aA : LK (aa aF) "e" .local := by decide +kernel
theorem au : LK (aa aF) "isinstance" .globalImplicit := by decide +kernel
theorem n5 : LK (aa aF) "sound" .globalImplicit := by decide +kernel
theorem aY : LK (aa aH) "_law_draw" .local := by decide +kernel
theorem bP : LK (aa aH) "_law_draws_here" .local := by decide +kernel
theorem cO : LK (aa aH) "_law_items" .local := by decide +kernel
theorem dU : LK (aa aH) "_law_j" .local := by decide +kernel
theorem bY : LK (aa aH) "_law_k" .local := by decide +kernel
theorem ia : LK (aa aH) "_law_low" .local := by decide +kernel
theorem cY : LK (aa aH) "_law_name_here" .local := by decide +kernel
theorem fX : LK (aa aH) "_law_names" .local := by decide +kernel
theorem fH : LK (aa aH) "_law_number" .local := by decide +kernel
theorem dY : LK (aa aH) "_law_rules" .local := by decide +kernel
theorem bZ : LK (aa aH) "_law_tops" .local := by decide +kernel
theorem qJ : LK (aa aH) "len" .globalImplicit := by decide +kernel
theorem qK : LK (aa aH) "max" .globalImplicit := by decide +kernel
theorem fQ : LK (aa aH) "range" .globalImplicit := by decide +kernel
theorem n6 : LK (aa aH) "tuple" .globalImplicit := by decide +kernel
theorem eF : LK (aa aW) "_law_cell" .local := by decide +kernel
theorem dZ : LK (aa aW) "_law_found" .local := by decide +kernel
theorem fm : LK (aa aW) "_law_k" .local := by decide +kernel
theorem lO : LK (aa aW) "_law_many" .local := by decide +kernel
theorem cI : LK (aa aW) "_law_script" .local := by decide +kernel
theorem ic : LK (aa aW) "len" .globalImplicit := by decide +kernel
theorem qL : LK (aa aW) "max" .globalImplicit := by decide +kernel
theorem n8 : LK (aa aW) "range" .globalImplicit := by decide +kernel
theorem eZ : LK (aa bC) "_law_item" .local := by decide +kernel
theorem eN : LK (aa bC) "_law_k" .local := by decide +kernel
theorem dz : LK (aa bC) "_law_known" .local := by decide +kernel
theorem bH : LK (aa bC) "_law_rule" .local := by decide +kernel
theorem cD : LK (aa bC) "_law_shape" .local := by decide +kernel
theorem sE : LK (aa bC) "len" .globalImplicit := by decide +kernel
theorem qM : LK (aa bC) "range" .globalImplicit := by decide +kernel
theorem jh : LK (aa bA) "_law_at" .local := by decide +kernel
theorem dB : LK (aa bA) "_law_draw" .local := by decide +kernel
theorem d7 : LK (aa bA) "_law_k" .local := by decide +kernel
theorem dQ : LK (aa bA) "_law_letters" .local := by decide +kernel
theorem br : LK (aa bA) "_law_name_here" .local := by decide +kernel
theorem gA : LK (aa bA) "_law_taken" .local := by decide +kernel
theorem pL : LK (aa bA) "range" .globalImplicit := by decide +kernel
theorem fJ : LK (aa aB) "_law_again" .local := by decide +kernel
theorem eO : LK (aa aB) "_law_at" .local := by decide +kernel
theorem aI : LK (aa aB) "_law_draws_here" .local := by decide +kernel
theorem aq : LK (aa aB) "_law_items" .local := by decide +kernel
theorem cP : LK (aa aB) "_law_kind" .local := by decide +kernel
theorem bQ : LK (aa aB) "_law_name_here" .local := by decide +kernel
theorem cJ : LK (aa aB) "_law_order" .local := by decide +kernel
theorem aS : LK (aa aB) "_law_rules" .local := by decide +kernel
theorem fK : LK (aa aB) "_law_start" .local := by decide +kernel
theorem cE : LK (aa aB) "_law_strays" .local := by decide +kernel
theorem cj : LK (aa aB) "_law_way" .local := by decide +kernel
theorem bq : LK (aa aB) "len" .globalImplicit := by decide +kernel
theorem n9 : LK (aa aB) "list" .globalImplicit := by decide +kernel
theorem ji : LK (aa aB) "tuple" .globalImplicit := by decide +kernel
theorem iT : LK (aa aP) "_law_draws_here" .local := by decide +kernel
theorem iI : LK (aa aP) "_law_k" .local := by decide +kernel
theorem kX : LK (aa aP) "_law_many" .local := by decide +kernel
theorem kY : LK (aa aP) "_law_name" .globalImplicit := by decide +kernel
theorem bR : LK (aa aP) "_law_name_here" .local := by decide +kernel
theorem cK : LK (aa aP) "_law_names" .cell := by decide +kernel
theorem fL : LK (aa aP) "_law_spare" .local := by decide +kernel
theorem nK : LK (aa aP) "range" .globalImplicit := by decide +kernel
theorem iU : LK lN "_law_names" .free := by decide +kernel
theorem pM : LK (aa bV) "rule" .local := by decide +kernel
theorem ie : LK (aa cU) "_law_asked" .globalImplicit := by decide +kernel
theorem jq : LK (aa cU) "_law_bad" .local := by decide +kernel
theorem qN : LK (aa cU) "_law_built" .globalImplicit := by decide +kernel
theorem qO : LK (aa cU) "_law_draws" .globalImplicit := by decide +kernel
theorem bM : LK (aa cU) "_law_draws_here" .local := by decide +kernel
theorem sF : LK (aa cU) "_law_due" .globalImplicit := by decide +kernel
theorem fF : LK (aa cU) "_law_good" .local := by decide +kernel
theorem eG : LK (aa cU) "_law_many" .local := by decide +kernel
theorem cF : LK (aa cU) "_law_names" .local := by decide +kernel
theorem dW : LK (aa cU) "_law_rules" .local := by decide +kernel
theorem pN : LK (aa cU) "_law_script" .local := by decide +kernel
theorem pO : LK (aa cU) "_law_spoilt" .globalImplicit := by decide +kernel
theorem bD : LK (aa cU) "_law_strays" .local := by decide +kernel
theorem pP : LK (aa cU) "_law_unlike" .globalImplicit := by decide +kernel
theorem Ae : LK (aa cU) "len" .globalImplicit := by decide +kernel
theorem yW : LK (aa cU) "list" .globalImplicit := by decide +kernel
theorem xB : LK (aa cU) "tuple" .globalImplicit := by decide +kernel
theorem m5 : LK (aa aV) "Twice" .globalImplicit := by decide +kernel
theorem kg : LK (aa aV) "enumerate" .globalImplicit := by decide +kernel
theorem fq : LK (aa aV) "name" .local := by decide +kernel
theorem iJ : LK (aa aV) "names" .local := by decide +kernel
theorem ig : LK (aa aV) "number" .local := by decide +kernel
theorem jj : LK (aa aC) "NoRule" .globalImplicit := by decide +kernel
theorem dD : LK (aa aC) "name" .local := by decide +kernel
theorem jr : LK (aa aC) "names" .local := by decide +kernel
theorem jt : LK (aa aC) "ruled" .local := by decide +kernel
theorem jF : LK (aa cA) "item_names" .globalImplicit := by decide +kernel
theorem m6 : LK (aa cA) "refuse_twice" .globalImplicit := by decide +kernel
theorem eT : LK (aa cA) "refuse_without_rule" .globalImplicit := by decide +kernel
theorem iZ : LK (aa cA) "rule" .local := by decide +kernel
theorem ir : LK (aa cA) "ruled" .local := by decide +kernel
theorem iu : LK (aa cA) "shape" .local := by decide +kernel
section
variable {P : Program} {w : World} {K : PySem.W.Frag} {mg : Str → Option Value} {base : Heap} {t : Nz}
theorem xC : dh ["self", "name"] ["self", "name"] (aa eW) := ⟨rfl, rfl, rfl, by decide +kernel, rfl, by decide +kernel, by decide +kernel⟩
theorem B8 (T : Txt K mg t) : cV P w K mg base HL 1 (t.i 0) (t.e 0) ["self", "name"] (Ks (t.c 2)) := by
  obtain ⟨N⟩ := T.bB
  exact AE (k := 0) T.B5 xC N (by decide +kernel) (by decide +kernel) rfl
theorem yX : dh ["self", "name"] ["self", "name"] (aa fS) := ⟨rfl, rfl, rfl, by decide +kernel, rfl, by decide +kernel, by decide +kernel⟩
theorem DW (T : Txt K mg t) : cV P w K mg base HL 1 (t.i 1) (t.e 1) ["self", "name"] (Ks (t.c 8)) := by
  obtain ⟨N⟩ := T.bO
  exact AE (k := 0) T.DR yX N (by decide +kernel) (by decide +kernel) rfl
theorem oW : dh mz ["rule"] (aa bV) := ⟨rfl, rfl, rfl, by decide +kernel, rfl, by decide +kernel, by decide +kernel⟩
theorem vj (T : Txt K mg t) : cV P w K mg base (iL P w) 1 (t.f 1) (t.d 1) ["rule"] (dP K mg 1 fy) := by
 refine cV.imp (sp := dP K mg 1 (fun ds => iB 1 jJ ds)) ?_ gQ
 refine Cm (k := 0) (ms := jJ) T.mG oW (by decide) (by decide) (fun _ => rfl) ?_
 intro X EE cdv A outer s H E hX hr hx rY
 subst hX
 have hu := gc hr
 have nd := oW.nd
 have hfr : jx (lT (iL P w) P w K mg base mz "item_names" (aa bV) (t.f 1) cdv A outer s H E) := ⟨_, outer, s.heap.objs.size, rfl, rfl, rfl⟩
 refine aJ ?_
 refine e8 ?_
 refine bG ?_
 refine ql (xs := ["item"]) (ow := uQ) ?_ ?_ ?_ ?_ ?_ ?_ ?_ ?_ ?_
 exact hx
 exact hfr
 exact gY
 exact i8 gY
 exact gp
 exact rfl
 refine ao ?_ ?_ ?_
 refine af 0 ?_ ?_ ?_
 exact (Or.inl pM)
 exact sY
 exact rfl
 exact ak
 decide +kernel
 refine iN fun cl C pins s0 H0 fp E1 GD hx => ?_
 refine ao ?_ ?_ ?_
 refine af 0 ?_ ?_ ?_
 exact (lY gY (by simp))
 exact FG
 exact rfl
 exact ak
 decide +kernel
 decide +kernel
theorem oY : dh qw ["_law_script", "_law_many"] (aa aW) := ⟨rfl, rfl, rfl, by decide +kernel, rfl, by decide +kernel, by decide +kernel⟩
theorem vm (T : Txt K mg t) : cV P w K mg base (iL P w) 1 (t.f 4) (t.d 4) ["_law_script", "_law_many"] (dP K mg 2 fB) := by
 refine cV.imp (sp := dP K mg 2 (fun ds => iB 5 jK ds)) ?_ gQ
 refine Cm (k := 0) (ms := jK) T.qD oY (by decide) (by decide) (fun _ => rfl) ?_
 intro X EE cdv A outer s H E hX hr hx rY
 subst hX
 have hu := gc hr
 have nd := oY.nd
 have hfr : jx (lT (iL P w) P w K mg base qw "_law_draws" (aa aW) (t.f 4) cdv A outer s H E) := ⟨_, outer, s.heap.objs.size, rfl, rfl, rfl⟩
 refine ay ?_ ?_
 refine bE (i := 2) ?_ ?_ ?_ ?_ ?_ ?_
 exact nd
 exact (Or.inl dZ)
 refine cM ?_
 exact av
 exact Or.inl rfl
 exact rfl
 decide +kernel
 refine ay ?_ ?_
 refine j0 ?_ ?_ ?_ ?_ ?_ ?_ ?_ ?_
 exact rY
 exact rfl
 exact T.mK
 exact n8
 refine aN ?_ ?_ ?_
 refine af 1 ?_ ?_ ?_
 exact (Or.inl lO)
 exact fD
 exact rfl
 decide +kernel
 exact av
 refine fu (i := 3) ?_ ?_ ?_ ?_
 exact nd
 exact (Or.inl fm)
 exact Or.inl rfl
 exact rfl
 refine ay ?_ ?_
 refine bE (i := 4) ?_ ?_ ?_ ?_ ?_ ?_
 exact nd
 exact (Or.inl eF)
 exact ak
 exact Or.inl rfl
 exact rfl
 decide +kernel
 refine ay ?_ ?_
 refine gG ?_ ?_ ?_
 refine cH ?_ ?_ ?_ ?_
 exact zL
 refine fO ?_ ?_ ?_ ?_
 exact T.jB
 exact ic
 refine aN ?_ ?_ ?_
 refine af 0 ?_ ?_ ?_
 exact (Or.inl cI)
 exact fk
 exact rfl
 decide +kernel
 exact av
 decide +kernel
 exact ak
 decide +kernel
 refine aJ ?_
 refine bE (i := 4) ?_ ?_ ?_ ?_ ?_ ?_
 exact nd
 exact (Or.inl eF)
 refine cy ?_ ?_
 refine ao ?_ ?_ ?_
 refine af 0 ?_ ?_ ?_
 exact (Or.inl cI)
 exact fk
 exact rfl
 refine cy ?_ ?_
 refine af 3 ?_ ?_ ?_
 exact (Or.inl fm)
 exact dH
 exact rfl
 refine fO ?_ ?_ ?_ ?_
 exact T.jB
 exact ic
 refine aN ?_ ?_ ?_
 refine af 0 ?_ ?_ ?_
 exact (Or.inl cI)
 exact fk
 exact rfl
 decide +kernel
 exact av
 decide +kernel
 decide +kernel
 refine HW ?_ ?_
 exact ak
 exact ak
 exact Or.inl rfl
 exact rfl
 decide +kernel
 exact dm
 refine aJ ?_
 refine iV ?_ ?_
 refine lE ?_ ?_ ?_ ?_ ?_
 refine af 2 ?_ ?_ ?_
 exact (Or.inl dZ)
 exact oQ
 exact rfl
 refine aN ?_ ?_ ?_
 refine cS ?_ ?_
 refine af 4 ?_ ?_ ?_
 exact (Or.inl eF)
 exact xy
 exact rfl
 refine tL ?_ ?_
 exact ak
 refine eH ?_ ?_
 refine af 3 ?_ ?_ ?_
 exact (Or.inl fm)
 exact dH
 exact rfl
 refine AI ?_ ?_ ?_ ?_ ?_
 exact rfl
 exact T.GC
 exact qL
 refine uR ?_
 refine aN ?_ ?_ ?_
 refine fO ?_ ?_ ?_ ?_
 exact T.jB
 exact ic
 refine aN ?_ ?_ ?_
 refine af 0 ?_ ?_ ?_
 exact (Or.inl cI)
 exact fk
 exact rfl
 decide +kernel
 exact av
 decide +kernel
 decide +kernel
 exact av
 decide +kernel
 decide +kernel
 exact av
 decide +kernel
 decide +kernel
 exact rfl
 decide +kernel
 decide +kernel
 refine aJ ?_
 refine e8 ?_
 refine A4 ?_
 refine af 2 ?_ ?_ ?_
 exact (Or.inl dZ)
 exact oQ
 exact rfl
theorem qP : dh rS ["_law_draw"] (aa bA) := ⟨rfl, rfl, rfl, by decide +kernel, rfl, by decide +kernel, by decide +kernel⟩
theorem xD (T : Txt K mg t) : cV P w K mg base (iL P w) 1 (t.f 5) (t.d 5) ["_law_draw"] (dP K mg 1 gr) := by
 refine cV.imp (sp := dP K mg 1 (fun ds => iB 6 jb ds)) ?_ gQ
 refine Cm (k := 0) (ms := jb) T.rT qP (by decide) (by decide) (fun _ => rfl) ?_
 intro X EE cdv A outer s H E hX hr hx rY
 subst hX
 have hu := gc hr
 have nd := qP.nd
 have hfr : jx (lT (iL P w) P w K mg base rS "_law_name" (aa bA) (t.f 5) cdv A outer s H E) := ⟨_, outer, s.heap.objs.size, rfl, rfl, rfl⟩
 refine ay ?_ ?_
 refine bE (i := 1) ?_ ?_ ?_ ?_ ?_ ?_
 exact nd
 exact (Or.inl dQ)
 exact qW
 exact Or.inl rfl
 exact rfl
 decide +kernel
 refine ay ?_ ?_
 refine bE (i := 2) ?_ ?_ ?_ ?_ ?_ ?_
 exact nd
 exact (Or.inl br)
 refine ao ?_ ?_ ?_
 refine af 1 ?_ ?_ ?_
 exact (Or.inl dQ)
 exact mW
 exact rfl
 refine cy ?_ ?_
 refine af 0 ?_ ?_ ?_
 exact (Or.inl dB)
 exact cC
 exact rfl
 exact ak
 decide +kernel
 exact Or.inl rfl
 exact rfl
 decide +kernel
 refine ay ?_ ?_
 refine j0 ?_ ?_ ?_ ?_ ?_ ?_ ?_ ?_
 exact rY
 exact rfl
 exact T.mK
 exact pL
 refine aN ?_ ?_ ?_
 refine cy ?_ ?_
 refine eH ?_ ?_
 refine af 0 ?_ ?_ ?_
 exact (Or.inl dB)
 exact cC
 exact rfl
 exact ak
 exact ak
 decide +kernel
 exact av
 refine fu (i := 3) ?_ ?_ ?_ ?_
 exact nd
 exact (Or.inl d7)
 exact Or.inl rfl
 exact rfl
 refine ay ?_ ?_
 refine bE (i := 4) ?_ ?_ ?_ ?_ ?_ ?_
 exact nd
 exact (Or.inl jh)
 refine cS ?_ ?_
 refine cS ?_ ?_
 refine eH ?_ ?_
 refine af 0 ?_ ?_ ?_
 exact (Or.inl dB)
 exact cC
 exact rfl
 exact ak
 refine tL ?_ ?_
 refine tL ?_ ?_
 exact ak
 refine af 3 ?_ ?_ ?_
 exact (Or.inl d7)
 exact dH
 exact rfl
 refine af 3 ?_ ?_ ?_
 exact (Or.inl d7)
 exact dH
 exact rfl
 refine tL ?_ ?_
 refine cy ?_ ?_
 refine eH ?_ ?_
 refine af 0 ?_ ?_ ?_
 exact (Or.inl dB)
 exact cC
 exact rfl
 exact ak
 exact ak
 refine af 3 ?_ ?_ ?_
 exact (Or.inl d7)
 exact dH
 exact rfl
 exact Or.inl rfl
 exact rfl
 decide +kernel
 refine aJ ?_
 refine bE (i := 2) ?_ ?_ ?_ ?_ ?_ ?_
 exact nd
 exact (Or.inl br)
 refine cS ?_ ?_
 refine af 2 ?_ ?_ ?_
 exact (Or.inl br)
 exact bh
 exact rfl
 refine ao ?_ ?_ ?_
 refine af 1 ?_ ?_ ?_
 exact (Or.inl dQ)
 exact mW
 exact rfl
 refine cy ?_ ?_
 refine af 4 ?_ ?_ ?_
 exact (Or.inl jh)
 exact pJ
 exact rfl
 exact ak
 decide +kernel
 exact Or.inl rfl
 exact rfl
 decide +kernel
 decide +kernel
 refine ay ?_ ?_
 refine bE (i := 5) ?_ ?_ ?_ ?_ ?_ ?_
 exact nd
 exact (Or.inl gA)
 refine bG ?_
 refine cM ?_
 refine eE ?_
 refine eE ?_
 refine eE ?_
 refine eE ?_
 refine eE ?_
 refine eE ?_
 refine eE ?_
 refine eE ?_
 refine eE ?_
 refine eE ?_
 refine eE ?_
 refine eE ?_
 exact av
 exact Or.inl rfl
 exact rfl
 decide +kernel
 refine ay ?_ ?_
 refine gG ?_ ?_ ?_
 refine cH ?_ ?_ ?_ ?_
 exact (pD hu)
 refine af 2 ?_ ?_ ?_
 exact (Or.inl br)
 exact bh
 exact rfl
 refine af 5 ?_ ?_ ?_
 exact (Or.inl gA)
 exact vf
 exact rfl
 decide +kernel
 refine aJ ?_
 refine e8 ?_
 refine cS ?_ ?_
 refine af 2 ?_ ?_ ?_
 exact (Or.inl br)
 exact bh
 exact rfl
 exact qW
 exact dm
 refine aJ ?_
 refine e8 ?_
 refine af 2 ?_ ?_ ?_
 exact (Or.inl br)
 exact bh
 exact rfl
theorem oZ : dh mD ["_law_draws_here", "_law_names"] (aa aH) := ⟨rfl, rfl, rfl, by decide +kernel, rfl, by decide +kernel, by decide +kernel⟩
theorem vn (T : Txt K mg t) : cV P w K mg base (iL P w) 1 (t.f 7) (t.d 7) ["_law_draws_here", "_law_names"] (dP K mg 2 gS) := by
 refine cV.imp (sp := dP K mg 2 (fun ds => iB 11 jL ds)) ?_ gQ
 refine Cm (k := 0) (ms := jL) T.qE oZ (by decide) (by decide) (fun _ => rfl) ?_
 intro X EE cdv A outer s H E hX hr hx rY
 subst hX
 have hu := gc hr
 have nd := oZ.nd
 have hfr : jx (lT (iL P w) P w K mg base mD "_law_built" (aa aH) (t.f 7) cdv A outer s H E) := ⟨_, outer, s.heap.objs.size, rfl, rfl, rfl⟩
 refine ay ?_ ?_
 refine bE (i := 2) ?_ ?_ ?_ ?_ ?_ ?_
 exact nd
 exact (Or.inl dY)
 refine cM ?_
 exact av
 exact Or.inl rfl
 exact rfl
 decide +kernel
 refine ay ?_ ?_
 refine bE (i := 3) ?_ ?_ ?_ ?_ ?_ ?_
 exact nd
 exact (Or.inl bZ)
 refine cM ?_
 exact av
 exact Or.inl rfl
 exact rfl
 decide +kernel
 refine ay ?_ ?_
 refine j0 ?_ ?_ ?_ ?_ ?_ ?_ ?_ ?_
 exact rY
 exact rfl
 exact T.mK
 exact fQ
 refine aN ?_ ?_ ?_
 refine cS ?_ ?_
 exact ak
 refine cy ?_ ?_
 refine ao ?_ ?_ ?_
 refine af 0 ?_ ?_ ?_
 exact (Or.inl bP)
 exact az
 exact rfl
 exact ak
 decide +kernel
 exact ak
 decide +kernel
 exact av
 refine fu (i := 4) ?_ ?_ ?_ ?_
 exact nd
 exact (Or.inl bY)
 exact Or.inl rfl
 exact rfl
 refine aJ ?_
 refine iV ?_ ?_
 refine lE ?_ ?_ ?_ ?_ ?_
 refine af 3 ?_ ?_ ?_
 exact (Or.inl bZ)
 exact jO
 exact rfl
 refine aN ?_ ?_ ?_
 refine ao ?_ ?_ ?_
 refine af 1 ?_ ?_ ?_
 exact (Or.inl fX)
 exact bK
 exact rfl
 refine AI ?_ ?_ ?_ ?_ ?_
 exact rfl
 exact T.GC
 exact qK
 refine uR ?_
 refine aN ?_ ?_ ?_
 refine HV ?_ ?_
 refine af 4 ?_ ?_ ?_
 exact (Or.inl bY)
 exact dH
 exact rfl
 refine cy ?_ ?_
 refine eH ?_ ?_
 refine ao ?_ ?_ ?_
 refine af 0 ?_ ?_ ?_
 exact (Or.inl bP)
 exact az
 exact rfl
 refine cS ?_ ?_
 exact ak
 refine af 4 ?_ ?_ ?_
 exact (Or.inl bY)
 exact dH
 exact rfl
 decide +kernel
 exact ak
 exact ak
 decide +kernel
 exact av
 decide +kernel
 decide +kernel
 decide +kernel
 exact av
 decide +kernel
 decide +kernel
 exact rfl
 decide +kernel
 decide +kernel
 refine ay ?_ ?_
 refine j0 ?_ ?_ ?_ ?_ ?_ ?_ ?_ ?_
 exact rY
 exact rfl
 exact T.mK
 exact fQ
 refine aN ?_ ?_ ?_
 refine cS ?_ ?_
 exact ak
 refine cy ?_ ?_
 refine ao ?_ ?_ ?_
 refine af 0 ?_ ?_ ?_
 exact (Or.inl bP)
 exact az
 exact rfl
 exact ak
 decide +kernel
 exact ak
 decide +kernel
 exact av
 refine fu (i := 4) ?_ ?_ ?_ ?_
 exact nd
 exact (Or.inl bY)
 exact Or.inl rfl
 exact rfl
 refine ay ?_ ?_
 refine bE (i := 5) ?_ ?_ ?_ ?_ ?_ ?_
 exact nd
 exact (Or.inl aY)
 refine ao ?_ ?_ ?_
 refine af 0 ?_ ?_ ?_
 exact (Or.inl bP)
 exact az
 exact rfl
 refine cS ?_ ?_
 exact ak
 refine af 4 ?_ ?_ ?_
 exact (Or.inl bY)
 exact dH
 exact rfl
 decide +kernel
 exact Or.inl rfl
 exact rfl
 decide +kernel
 refine ay ?_ ?_
 refine bE (i := 6) ?_ ?_ ?_ ?_ ?_ ?_
 exact nd
 exact (Or.inl cO)
 refine cM ?_
 exact av
 exact Or.inl rfl
 exact rfl
 decide +kernel
 refine ay ?_ ?_
 refine j0 ?_ ?_ ?_ ?_ ?_ ?_ ?_ ?_
 exact rY
 exact rfl
 exact T.mK
 exact fQ
 refine aN ?_ ?_ ?_
 refine cy ?_ ?_
 refine af 5 ?_ ?_ ?_
 exact (Or.inl aY)
 exact cC
 exact rfl
 exact ak
 decide +kernel
 exact av
 refine fu (i := 7) ?_ ?_ ?_ ?_
 exact nd
 exact (Or.inl dU)
 exact Or.inl rfl
 exact rfl
 refine ay ?_ ?_
 refine bE (i := 8) ?_ ?_ ?_ ?_ ?_ ?_
 exact nd
 exact (Or.inl ia)
 refine cy ?_ ?_
 refine eH ?_ ?_
 refine af 5 ?_ ?_ ?_
 exact (Or.inl aY)
 exact cC
 exact rfl
 refine cS ?_ ?_
 exact ak
 refine af 7 ?_ ?_ ?_
 exact (Or.inl dU)
 exact rJ
 exact rfl
 exact ak
 exact Or.inl rfl
 exact rfl
 decide +kernel
 refine ay ?_ ?_
 refine bE (i := 9) ?_ ?_ ?_ ?_ ?_ ?_
 exact nd
 exact (Or.inl fH)
 refine cS ?_ ?_
 refine eH ?_ ?_
 refine af 5 ?_ ?_ ?_
 exact (Or.inl aY)
 exact cC
 exact rfl
 exact ak
 refine tL ?_ ?_
 refine af 7 ?_ ?_ ?_
 exact (Or.inl dU)
 exact rJ
 exact rfl
 refine cS ?_ ?_
 exact ak
 refine cy ?_ ?_
 refine eH ?_ ?_
 refine af 5 ?_ ?_ ?_
 exact (Or.inl aY)
 exact cC
 exact rfl
 exact ak
 exact ak
 exact Or.inl rfl
 exact rfl
 decide +kernel
 refine ay ?_ ?_
 refine bE (i := 10) ?_ ?_ ?_ ?_ ?_ ?_
 exact nd
 exact (Or.inl cY)
 refine ao ?_ ?_ ?_
 refine af 3 ?_ ?_ ?_
 exact (Or.inl bZ)
 exact jO
 exact rfl
 refine cy ?_ ?_
 refine af 9 ?_ ?_ ?_
 exact (Or.inl fH)
 exact uy
 exact rfl
 refine fO ?_ ?_ ?_ ?_
 exact T.jB
 exact qJ
 refine aN ?_ ?_ ?_
 refine af 3 ?_ ?_ ?_
 exact (Or.inl bZ)
 exact jO
 exact rfl
 decide +kernel
 exact av
 decide +kernel
 decide +kernel
 exact Or.inl rfl
 exact rfl
 decide +kernel
 refine aJ ?_
 refine gG ?_ ?_ ?_
 refine cH ?_ ?_ ?_ ?_
 exact (jQ hu)
 refine af 10 ?_ ?_ ?_
 exact (Or.inl cY)
 exact bh
 exact rfl
 refine bG ?_
 refine ql (xs := ["_law_item"]) (ow := uQ) ?_ ?_ ?_ ?_ ?_ ?_ ?_ ?_ ?_
 exact hx
 exact hfr
 exact gZ
 exact i8 gZ
 exact gp
 exact rfl
 refine af 6 ?_ ?_ ?_
 exact (Or.inl cO)
 exact aR
 exact rfl
 refine iN fun cl C pins s0 H0 fp E1 GD hx => ?_
 refine ao ?_ ?_ ?_
 refine af 0 ?_ ?_ ?_
 exact (lY gZ (by simp))
 exact gW
 exact rfl
 exact ak
 decide +kernel
 decide +kernel
 decide +kernel
 refine aJ ?_
 refine iV ?_ ?_
 refine lE ?_ ?_ ?_ ?_ ?_
 refine af 6 ?_ ?_ ?_
 exact (Or.inl cO)
 exact aR
 exact rfl
 refine aN ?_ ?_ ?_
 refine kK ?_
 refine aN ?_ ?_ ?_
 refine af 10 ?_ ?_ ?_
 exact (Or.inl cY)
 exact bh
 exact rfl
 decide +kernel
 refine aN ?_ ?_ ?_
 refine af 8 ?_ ?_ ?_
 exact (Or.inl ia)
 exact yV
 exact rfl
 decide +kernel
 refine aN ?_ ?_ ?_
 refine ao ?_ ?_ ?_
 refine bG ?_
 refine cM ?_
 refine aN ?_ ?_ ?_
 exact CL
 decide +kernel
 refine uR ?_
 exact av
 refine cy ?_ ?_
 refine eH ?_ ?_
 refine af 5 ?_ ?_ ?_
 exact (Or.inl aY)
 exact cC
 exact rfl
 refine cS ?_ ?_
 exact ak
 refine af 7 ?_ ?_ ?_
 exact (Or.inl dU)
 exact rJ
 exact rfl
 exact ak
 decide +kernel
 decide +kernel
 exact av
 decide +kernel
 exact av
 decide +kernel
 decide +kernel
 exact rfl
 decide +kernel
 exact dm
 decide +kernel
 refine aJ ?_
 refine iV ?_ ?_
 refine lE ?_ ?_ ?_ ?_ ?_
 refine af 2 ?_ ?_ ?_
 exact (Or.inl dY)
 exact bx
 exact rfl
 refine aN ?_ ?_ ?_
 refine kK ?_
 refine aN ?_ ?_ ?_
 refine ao ?_ ?_ ?_
 refine af 3 ?_ ?_ ?_
 exact (Or.inl bZ)
 exact jO
 exact rfl
 refine af 4 ?_ ?_ ?_
 exact (Or.inl bY)
 exact dH
 exact rfl
 decide +kernel
 decide +kernel
 refine aN ?_ ?_ ?_
 refine ao ?_ ?_ ?_
 refine af 1 ?_ ?_ ?_
 exact (Or.inl fX)
 exact bK
 exact rfl
 refine cy ?_ ?_
 refine eH ?_ ?_
 refine af 5 ?_ ?_ ?_
 exact (Or.inl aY)
 exact cC
 exact rfl
 exact ak
 exact ak
 decide +kernel
 decide +kernel
 refine aN ?_ ?_ ?_
 refine ao ?_ ?_ ?_
 refine bG ?_
 refine cM ?_
 refine eE ?_
 refine eE ?_
 exact av
 refine cy ?_ ?_
 refine eH ?_ ?_
 refine af 5 ?_ ?_ ?_
 exact (Or.inl aY)
 exact cC
 exact rfl
 exact ak
 exact ak
 decide +kernel
 decide +kernel
 refine aN ?_ ?_ ?_
 refine qm ?_ ?_ ?_ ?_
 exact T.sW
 exact n6
 refine aN ?_ ?_ ?_
 refine af 6 ?_ ?_ ?_
 exact (Or.inl cO)
 exact aR
 exact rfl
 decide +kernel
 exact av
 decide +kernel
 decide +kernel
 exact av
 decide +kernel
 exact av
 decide +kernel
 decide +kernel
 exact rfl
 decide +kernel
 decide +kernel
 refine aJ ?_
 refine e8 ?_
 refine A4 ?_
 refine af 2 ?_ ?_ ?_
 exact (Or.inl dY)
 exact bx
 exact rfl
theorem nM : dh kN ["_law_draws_here", "_law_rules", "_law_start", "_law_strays"] (aa aB) := ⟨rfl, rfl, rfl, by decide +kernel, rfl, by decide +kernel, by decide +kernel⟩
theorem uD (T : Txt K mg t) : cV P w K mg base (iL P w) 1 (t.f 8) (t.d 8) ["_law_draws_here", "_law_rules", "_law_start", "_law_strays"] (dP K mg 4 dX) := by
 refine Cm (k := 0) (ms := kO) T.oH nM (by decide) (by decide) (fun _ => rfl) ?_
 intro X EE cdv A outer s H E hX hr hx rY
 subst hX
 have hu := gc hr
 have nd := nM.nd
 have hfr : jx (lT (iL P w) P w K mg base kN "_law_spoilt" (aa aB) (t.f 8) cdv A outer s H E) := ⟨_, outer, s.heap.objs.size, rfl, rfl, rfl⟩
 refine ay ?_ ?_
 refine bE (i := 4) ?_ ?_ ?_ ?_ ?_ ?_
 exact nd
 exact (Or.inl cj)
 refine cy ?_ ?_
 refine ao ?_ ?_ ?_
 refine af 0 ?_ ?_ ?_
 exact (Or.inl aI)
 exact az
 exact rfl
 exact ak
 decide +kernel
 exact ak
 exact Or.inl rfl
 exact rfl
 decide +kernel
 refine ay ?_ ?_
 refine bE (i := 5) ?_ ?_ ?_ ?_ ?_ ?_
 exact nd
 exact (Or.inl eO)
 refine cy ?_ ?_
 refine ao ?_ ?_ ?_
 refine af 0 ?_ ?_ ?_
 exact (Or.inl aI)
 exact az
 exact rfl
 exact ak
 decide +kernel
 refine fO ?_ ?_ ?_ ?_
 exact T.jB
 exact bq
 refine aN ?_ ?_ ?_
 refine af 1 ?_ ?_ ?_
 exact (Or.inl aS)
 exact bx
 exact rfl
 decide +kernel
 exact av
 decide +kernel
 exact Or.inl rfl
 exact rfl
 decide +kernel
 refine ay ?_ ?_
 refine DG ?_ ?_ ?_ ?_ ?_
 refine ao ?_ ?_ ?_
 refine af 1 ?_ ?_ ?_
 exact (Or.inl aS)
 exact bx
 exact rfl
 refine af 5 ?_ ?_ ?_
 exact (Or.inl eO)
 exact pJ
 exact rfl
 decide +kernel
 refine A5 (i := 6) (j := 7) (l := 8) (n := 9) ?_ ?_ ?_ ?_ ?_ ?_ ?_ ?_ ?_ ?_ ?_ ?_ ?_ ?_
 exact rfl
 exact nd
 exact (Or.inl bQ)
 exact (Or.inl cP)
 exact (Or.inl cJ)
 exact (Or.inl aq)
 exact Or.inl rfl
 exact Or.inl rfl
 exact Or.inl rfl
 exact Or.inl rfl
 exact rfl
 exact rfl
 exact rfl
 exact rfl
 exact rfl
 exact rfl
 exact rfl
 refine ay ?_ ?_
 refine bE (i := 9) ?_ ?_ ?_ ?_ ?_ ?_
 exact nd
 exact (Or.inl aq)
 refine AJ ?_ ?_ ?_ ?_
 exact T.DQ
 exact n9
 refine aN ?_ ?_ ?_
 refine af 9 ?_ ?_ ?_
 exact (Or.inl aq)
 exact aR
 exact rfl
 decide +kernel
 exact av
 decide +kernel
 exact Or.inl rfl
 exact rfl
 decide +kernel
 refine ay ?_ ?_
 refine gG ?_ ?_ ?_
 refine cH ?_ ?_ ?_ ?_
 exact (nq hu)
 refine fO ?_ ?_ ?_ ?_
 exact T.jB
 exact bq
 refine aN ?_ ?_ ?_
 refine af 9 ?_ ?_ ?_
 exact (Or.inl aq)
 exact aR
 exact rfl
 decide +kernel
 exact av
 decide +kernel
 exact ak
 decide +kernel
 refine aJ ?_
 refine iV ?_ ?_
 refine Iz ?_ ?_ ?_
 refine af 9 ?_ ?_ ?_
 exact (Or.inl aq)
 exact aR
 exact rfl
 decide +kernel
 exact rfl
 decide +kernel
 exact dm
 refine ay ?_ ?_
 refine gG ?_ ?_ ?_
 refine zK ?_
 refine wK ?_ ?_
 refine cH ?_ ?_ ?_ ?_
 exact (nq hu)
 refine cy ?_ ?_
 refine af 4 ?_ ?_ ?_
 exact (Or.inl cj)
 exact kJ
 exact rfl
 exact ak
 exact ak
 decide +kernel
 refine sO ?_
 refine cH ?_ ?_ ?_ ?_
 exact zL
 refine fO ?_ ?_ ?_ ?_
 exact T.jB
 exact bq
 refine aN ?_ ?_ ?_
 refine af 9 ?_ ?_ ?_
 exact (Or.inl aq)
 exact aR
 exact rfl
 decide +kernel
 exact av
 decide +kernel
 exact ak
 decide +kernel
 refine ay ?_ ?_
 refine bE (i := 10) ?_ ?_ ?_ ?_ ?_ ?_
 exact nd
 exact (Or.inl fJ)
 refine ao ?_ ?_ ?_
 refine ao ?_ ?_ ?_
 refine af 9 ?_ ?_ ?_
 exact (Or.inl aq)
 exact aR
 exact rfl
 refine cy ?_ ?_
 refine ao ?_ ?_ ?_
 refine af 0 ?_ ?_ ?_
 exact (Or.inl aI)
 exact az
 exact rfl
 exact ak
 decide +kernel
 refine fO ?_ ?_ ?_ ?_
 exact T.jB
 exact bq
 refine aN ?_ ?_ ?_
 refine af 9 ?_ ?_ ?_
 exact (Or.inl aq)
 exact aR
 exact rfl
 decide +kernel
 exact av
 decide +kernel
 decide +kernel
 exact ak
 decide +kernel
 exact Or.inl rfl
 exact rfl
 decide +kernel
 refine aJ ?_
 refine iV ?_ ?_
 refine B0 ?_ ?_ ?_ ?_ ?_
 refine af 9 ?_ ?_ ?_
 exact (Or.inl aq)
 exact aR
 exact rfl
 refine aN ?_ ?_ ?_
 refine cy ?_ ?_
 refine ao ?_ ?_ ?_
 refine af 0 ?_ ?_ ?_
 exact (Or.inl aI)
 exact az
 exact rfl
 exact ak
 decide +kernel
 refine cS ?_ ?_
 refine fO ?_ ?_ ?_ ?_
 exact T.jB
 exact bq
 refine aN ?_ ?_ ?_
 refine af 9 ?_ ?_ ?_
 exact (Or.inl aq)
 exact aR
 exact rfl
 decide +kernel
 exact av
 decide +kernel
 exact ak
 decide +kernel
 refine aN ?_ ?_ ?_
 refine kK ?_
 refine aN ?_ ?_ ?_
 refine af 10 ?_ ?_ ?_
 exact (Or.inl fJ)
 exact u7
 exact rfl
 decide +kernel
 refine uR ?_
 refine aN ?_ ?_ ?_
 exact CL
 decide +kernel
 exact av
 decide +kernel
 exact av
 decide +kernel
 decide +kernel
 exact rfl
 decide +kernel
 exact dm
 refine ay ?_ ?_
 refine gG ?_ ?_ ?_
 refine zK ?_
 refine wK ?_ ?_
 refine cH ?_ ?_ ?_ ?_
 exact (nq hu)
 refine cy ?_ ?_
 refine eH ?_ ?_
 refine af 4 ?_ ?_ ?_
 exact (Or.inl cj)
 exact kJ
 exact rfl
 exact ak
 exact ak
 exact ak
 decide +kernel
 refine sO ?_
 refine cH ?_ ?_ ?_ ?_
 exact zL
 refine fO ?_ ?_ ?_ ?_
 exact T.jB
 exact bq
 refine aN ?_ ?_ ?_
 refine af 9 ?_ ?_ ?_
 exact (Or.inl aq)
 exact aR
 exact rfl
 decide +kernel
 exact av
 decide +kernel
 exact ak
 decide +kernel
 refine aJ ?_
 refine qk ?_ ?_ ?_ ?_ ?_
 refine kK ?_
 refine aN ?_ ?_ ?_
 refine ao ?_ ?_ ?_
 refine af 3 ?_ ?_ ?_
 exact (Or.inl cE)
 exact bU
 exact rfl
 exact ak
 decide +kernel
 decide +kernel
 refine uR ?_
 refine uR ?_
 exact av
 refine af 9 ?_ ?_ ?_
 exact (Or.inl aq)
 exact aR
 exact rfl
 refine cy ?_ ?_
 refine ao ?_ ?_ ?_
 refine af 0 ?_ ?_ ?_
 exact (Or.inl aI)
 exact az
 exact rfl
 exact ak
 decide +kernel
 refine fO ?_ ?_ ?_ ?_
 exact T.jB
 exact bq
 refine aN ?_ ?_ ?_
 refine af 9 ?_ ?_ ?_
 exact (Or.inl aq)
 exact aR
 exact rfl
 decide +kernel
 exact av
 decide +kernel
 decide +kernel
 intro _; rfl
 exact dm
 refine ay ?_ ?_
 refine qk ?_ ?_ ?_ ?_ ?_
 refine kK ?_
 refine aN ?_ ?_ ?_
 refine af 6 ?_ ?_ ?_
 exact (Or.inl bQ)
 exact bh
 exact rfl
 decide +kernel
 refine aN ?_ ?_ ?_
 refine af 7 ?_ ?_ ?_
 exact (Or.inl cP)
 exact qH
 exact rfl
 decide +kernel
 refine aN ?_ ?_ ?_
 refine af 8 ?_ ?_ ?_
 exact (Or.inl cJ)
 exact oU
 exact rfl
 decide +kernel
 refine aN ?_ ?_ ?_
 refine qm ?_ ?_ ?_ ?_
 exact T.sW
 exact ji
 refine aN ?_ ?_ ?_
 refine af 9 ?_ ?_ ?_
 exact (Or.inl aq)
 exact aR
 exact rfl
 decide +kernel
 exact av
 decide +kernel
 decide +kernel
 exact av
 refine af 1 ?_ ?_ ?_
 exact (Or.inl aS)
 exact bx
 exact rfl
 refine af 5 ?_ ?_ ?_
 exact (Or.inl eO)
 exact pJ
 exact rfl
 decide +kernel
 intro _; rfl
 refine ay ?_ ?_
 refine gG ?_ ?_ ?_
 refine cH ?_ ?_ ?_ ?_
 exact (nq hu)
 refine cy ?_ ?_
 refine eH ?_ ?_
 refine af 4 ?_ ?_ ?_
 exact (Or.inl cj)
 exact kJ
 exact rfl
 exact ak
 exact ak
 exact ak
 decide +kernel
 refine ay ?_ ?_
 refine DG ?_ ?_ ?_ ?_ ?_
 refine ao ?_ ?_ ?_
 refine af 1 ?_ ?_ ?_
 exact (Or.inl aS)
 exact bx
 exact rfl
 refine cy ?_ ?_
 refine ao ?_ ?_ ?_
 refine af 0 ?_ ?_ ?_
 exact (Or.inl aI)
 exact az
 exact rfl
 exact ak
 decide +kernel
 refine fO ?_ ?_ ?_ ?_
 exact T.jB
 exact bq
 refine aN ?_ ?_ ?_
 refine af 1 ?_ ?_ ?_
 exact (Or.inl aS)
 exact bx
 exact rfl
 decide +kernel
 exact av
 decide +kernel
 decide +kernel
 refine A5 (i := 6) (j := 7) (l := 8) (n := 9) ?_ ?_ ?_ ?_ ?_ ?_ ?_ ?_ ?_ ?_ ?_ ?_ ?_ ?_
 exact rfl
 exact nd
 exact (Or.inl bQ)
 exact (Or.inl cP)
 exact (Or.inl cJ)
 exact (Or.inl aq)
 exact Or.inl rfl
 exact Or.inl rfl
 exact Or.inl rfl
 exact Or.inl rfl
 exact rfl
 exact rfl
 exact rfl
 exact rfl
 exact rfl
 exact rfl
 exact rfl
 refine aJ ?_
 refine gG ?_ ?_ ?_
 refine zK ?_
 refine wK ?_ ?_
 refine cH ?_ ?_ ?_ ?_
 exact (jQ hu)
 refine ao ?_ ?_ ?_
 refine af 3 ?_ ?_ ?_
 exact (Or.inl cE)
 exact bU
 exact rfl
 exact ak
 decide +kernel
 refine bG ?_
 refine ql (xs := ["_law_item"]) (ow := uQ) ?_ ?_ ?_ ?_ ?_ ?_ ?_ ?_ ?_
 exact hx
 exact hfr
 exact gi
 exact i8 gi
 exact gp
 exact rfl
 refine af 9 ?_ ?_ ?_
 exact (Or.inl aq)
 exact aR
 exact rfl
 refine iN fun cl C pins s0 H0 fp E1 GD hx => ?_
 refine ao ?_ ?_ ?_
 refine af 0 ?_ ?_ ?_
 exact (lY gi (by simp))
 exact gW
 exact rfl
 exact ak
 decide +kernel
 decide +kernel
 decide +kernel
 refine sO ?_
 refine cH ?_ ?_ ?_ ?_
 exact CW
 refine fO ?_ ?_ ?_ ?_
 exact T.jB
 exact bq
 refine aN ?_ ?_ ?_
 refine af 9 ?_ ?_ ?_
 exact (Or.inl aq)
 exact aR
 exact rfl
 decide +kernel
 exact av
 decide +kernel
 exact ak
 decide +kernel
 refine aJ ?_
 refine qk ?_ ?_ ?_ ?_ ?_
 refine kK ?_
 refine aN ?_ ?_ ?_
 refine af 6 ?_ ?_ ?_
 exact (Or.inl bQ)
 exact bh
 exact rfl
 decide +kernel
 refine aN ?_ ?_ ?_
 refine af 7 ?_ ?_ ?_
 exact (Or.inl cP)
 exact qH
 exact rfl
 decide +kernel
 refine aN ?_ ?_ ?_
 refine af 8 ?_ ?_ ?_
 exact (Or.inl cJ)
 exact oU
 exact rfl
 decide +kernel
 refine aN ?_ ?_ ?_
 refine bG ?_
 refine cS ?_ ?_
 refine af 9 ?_ ?_ ?_
 exact (Or.inl aq)
 exact aR
 exact rfl
 refine kK ?_
 refine aN ?_ ?_ ?_
 refine kK ?_
 refine aN ?_ ?_ ?_
 refine ao ?_ ?_ ?_
 refine af 3 ?_ ?_ ?_
 exact (Or.inl cE)
 exact bU
 exact rfl
 exact ak
 decide +kernel
 decide +kernel
 refine uR ?_
 refine uR ?_
 exact av
 decide +kernel
 exact av
 decide +kernel
 exact av
 refine af 1 ?_ ?_ ?_
 exact (Or.inl aS)
 exact bx
 exact rfl
 refine cy ?_ ?_
 refine ao ?_ ?_ ?_
 refine af 0 ?_ ?_ ?_
 exact (Or.inl aI)
 exact az
 exact rfl
 exact ak
 decide +kernel
 refine fO ?_ ?_ ?_ ?_
 exact T.jB
 exact bq
 refine aN ?_ ?_ ?_
 refine af 1 ?_ ?_ ?_
 exact (Or.inl aS)
 exact bx
 exact rfl
 decide +kernel
 exact av
 decide +kernel
 decide +kernel
 intro _; rfl
 exact dm
 exact dm
 refine ay ?_ ?_
 refine gG ?_ ?_ ?_
 refine cH ?_ ?_ ?_ ?_
 exact (nq hu)
 refine eH ?_ ?_
 refine af 4 ?_ ?_ ?_
 exact (Or.inl cj)
 exact kJ
 exact rfl
 exact ak
 exact ak
 decide +kernel
 refine aJ ?_
 refine bE (i := 2) ?_ ?_ ?_ ?_ ?_ ?_
 exact nd
 exact (Or.inl fK)
 refine ao ?_ ?_ ?_
 refine af 3 ?_ ?_ ?_
 exact (Or.inl cE)
 exact bU
 exact rfl
 refine cy ?_ ?_
 refine ao ?_ ?_ ?_
 refine af 0 ?_ ?_ ?_
 exact (Or.inl aI)
 exact az
 exact rfl
 exact ak
 decide +kernel
 exact ak
 decide +kernel
 exact Or.inl rfl
 exact rfl
 decide +kernel
 exact dm
 refine aJ ?_
 refine e8 ?_
 refine kK ?_
 refine aN ?_ ?_ ?_
 refine af 2 ?_ ?_ ?_
 exact (Or.inl fK)
 exact ve
 exact rfl
 decide +kernel
 refine aN ?_ ?_ ?_
 refine qm ?_ ?_ ?_ ?_
 exact T.sW
 exact ji
 refine aN ?_ ?_ ?_
 refine af 1 ?_ ?_ ?_
 exact (Or.inl aS)
 exact bx
 exact rfl
 decide +kernel
 exact av
 decide +kernel
 decide +kernel
 exact av
theorem rZ : dh mE ["_law_shape"] (aa bC) := ⟨rfl, rfl, rfl, by decide +kernel, rfl, by decide +kernel, by decide +kernel⟩
theorem yY (T : Txt K mg t) : cV P w K mg base (iL P w) 1 (t.f 9) (t.d 9) ["_law_shape"] (dP K mg 1 iS) := by
 refine cV.imp (sp := dP K mg 1 (fun ds => iB 5 gg ds)) ?_ gQ
 refine Cm (k := 0) (ms := gg) T.um rZ (by decide) (by decide) (fun _ => rfl) ?_
 intro X EE cdv A outer s H E hX hr hx rY
 subst hX
 have hu := gc hr
 have nd := rZ.nd
 have hfr : jx (lT (iL P w) P w K mg base mE "_law_due" (aa bC) (t.f 9) cdv A outer s H E) := ⟨_, outer, s.heap.objs.size, rfl, rfl, rfl⟩
 refine ay ?_ ?_
 refine rq ?_ ?_ ?_ ?_ ?_ ?_
 exact rY
 exact rfl
 refine ao ?_ ?_ ?_
 refine af 0 ?_ ?_ ?_
 exact (Or.inl cD)
 exact eX
 exact rfl
 exact ak
 decide +kernel
 refine fu (i := 1) ?_ ?_ ?_ ?_
 exact nd
 exact (Or.inl bH)
 exact Or.inl rfl
 exact rfl
 refine aJ ?_
 refine j0 ?_ ?_ ?_ ?_ ?_ ?_ ?_ ?_
 exact rY
 exact rfl
 exact T.mK
 exact qM
 refine aN ?_ ?_ ?_
 refine fO ?_ ?_ ?_ ?_
 exact T.jB
 exact sE
 refine aN ?_ ?_ ?_
 refine ao ?_ ?_ ?_
 refine af 1 ?_ ?_ ?_
 exact (Or.inl bH)
 exact fE
 exact rfl
 exact ak
 decide +kernel
 decide +kernel
 exact av
 decide +kernel
 decide +kernel
 exact av
 refine fu (i := 2) ?_ ?_ ?_ ?_
 exact nd
 exact (Or.inl eN)
 exact Or.inl rfl
 exact rfl
 refine aJ ?_
 refine gG ?_ ?_ ?_
 refine cH ?_ ?_ ?_ ?_
 exact (pD hu)
 refine ao ?_ ?_ ?_
 refine ao ?_ ?_ ?_
 refine ao ?_ ?_ ?_
 refine af 1 ?_ ?_ ?_
 exact (Or.inl bH)
 exact fE
 exact rfl
 exact ak
 decide +kernel
 refine af 2 ?_ ?_ ?_
 exact (Or.inl eN)
 exact dH
 exact rfl
 decide +kernel
 exact ak
 decide +kernel
 refine bG ?_
 refine ql (xs := ["_law_item"]) (ow := uQ) ?_ ?_ ?_ ?_ ?_ ?_ ?_ ?_ ?_
 exact hx
 exact hfr
 exact jn
 exact i8 jn
 exact gp
 exact rfl
 refine bG ?_
 refine jW ?_ ?_ ?_
 refine ao ?_ ?_ ?_
 refine af 1 ?_ ?_ ?_
 exact (Or.inl bH)
 exact fE
 exact rfl
 exact ak
 decide +kernel
 exact nU
 refine ko ?_
 refine af 2 ?_ ?_ ?_
 exact (Or.inl eN)
 exact dH
 exact rfl
 refine iN fun cl C pins s0 H0 fp E1 GD hx => ?_
 refine ao ?_ ?_ ?_
 refine af 0 ?_ ?_ ?_
 exact (lY jn (by simp))
 exact gW
 exact rfl
 exact ak
 decide +kernel
 decide +kernel
 decide +kernel
 refine aJ ?_
 refine e8 ?_
 refine bG ?_
 refine cM ?_
 refine eE ?_
 refine aN ?_ ?_ ?_
 refine ao ?_ ?_ ?_
 refine ao ?_ ?_ ?_
 refine ao ?_ ?_ ?_
 refine af 1 ?_ ?_ ?_
 exact (Or.inl bH)
 exact fE
 exact rfl
 exact ak
 decide +kernel
 refine af 2 ?_ ?_ ?_
 exact (Or.inl eN)
 exact dH
 exact rfl
 decide +kernel
 exact ak
 decide +kernel
 decide +kernel
 exact av
 exact dm
 decide +kernel
 decide +kernel
 refine ay ?_ ?_
 refine Gw ?_
 refine wY (i := 3) (xs := ["_law_rule"]) (ow := uQ) ?_ ?_ ?_ ?_ ?_ ?_ ?_ ?_ ?_ ?_ ?_ ?_ ?_
 exact hx
 exact hfr
 exact jo
 exact i8 jo
 exact gp
 exact rfl
 exact nd
 exact dz
 refine ao ?_ ?_ ?_
 refine af 0 ?_ ?_ ?_
 exact (Or.inl cD)
 exact eX
 exact rfl
 exact ak
 decide +kernel
 refine iN fun cl C pins s0 H0 fp E1 GD hx => ?_
 refine ao ?_ ?_ ?_
 refine af 0 ?_ ?_ ?_
 exact (lY jo (by simp))
 exact fE
 exact rfl
 exact ak
 decide +kernel
 refine rA ?_ ?_ ?_ ?_
 exact rfl
 exact dz
 exact rfl
 decide +kernel
 exact rfl
 decide +kernel
 refine ay ?_ ?_
 refine gG ?_ ?_ ?_
 refine cH ?_ ?_ ?_ ?_
 exact (jQ hu)
 refine ao ?_ ?_ ?_
 refine af 0 ?_ ?_ ?_
 exact (Or.inl cD)
 exact eX
 exact rfl
 exact ak
 decide +kernel
 refine af 3 ?_ ?_ ?_
 exact (Or.inl dz)
 exact oR
 exact rfl
 decide +kernel
 refine aJ ?_
 refine e8 ?_
 refine bG ?_
 refine cM ?_
 refine eE ?_
 refine aN ?_ ?_ ?_
 refine ao ?_ ?_ ?_
 refine af 0 ?_ ?_ ?_
 exact (Or.inl cD)
 exact eX
 exact rfl
 exact ak
 decide +kernel
 decide +kernel
 exact av
 exact dm
 refine ay ?_ ?_
 refine rq ?_ ?_ ?_ ?_ ?_ ?_
 exact rY
 exact rfl
 refine ao ?_ ?_ ?_
 refine af 0 ?_ ?_ ?_
 exact (Or.inl cD)
 exact eX
 exact rfl
 exact ak
 decide +kernel
 refine fu (i := 1) ?_ ?_ ?_ ?_
 exact nd
 exact (Or.inl bH)
 exact Or.inl rfl
 exact rfl
 refine aJ ?_
 refine rq ?_ ?_ ?_ ?_ ?_ ?_
 exact rY
 exact rfl
 refine ao ?_ ?_ ?_
 refine af 1 ?_ ?_ ?_
 exact (Or.inl bH)
 exact fE
 exact rfl
 exact ak
 decide +kernel
 refine fu (i := 4) ?_ ?_ ?_ ?_
 exact nd
 exact (Or.inl eZ)
 exact Or.inl rfl
 exact rfl
 refine aJ ?_
 refine gG ?_ ?_ ?_
 refine cH ?_ ?_ ?_ ?_
 exact (jQ hu)
 refine ao ?_ ?_ ?_
 refine af 4 ?_ ?_ ?_
 exact (Or.inl eZ)
 exact gW
 exact rfl
 exact ak
 decide +kernel
 refine af 3 ?_ ?_ ?_
 exact (Or.inl dz)
 exact oR
 exact rfl
 decide +kernel
 refine aJ ?_
 refine e8 ?_
 refine bG ?_
 refine cM ?_
 refine eE ?_
 refine aN ?_ ?_ ?_
 refine ao ?_ ?_ ?_
 refine af 4 ?_ ?_ ?_
 exact (Or.inl eZ)
 exact gW
 exact rfl
 exact ak
 decide +kernel
 decide +kernel
 exact av
 exact dm
 decide +kernel
 decide +kernel
 refine aJ ?_
 refine e8 ?_
 refine bG ?_
 refine cM ?_
 refine eE ?_
 refine eE ?_
 exact av
theorem nN : dh kP ["_law_draws_here", "_law_many"] (aa aP) := ⟨rfl, rfl, rfl, by decide +kernel, rfl, by decide +kernel, by decide +kernel⟩
theorem uE (T : Txt K mg t) (nO : cV P w K mg base (iL P w) 1 (t.f 5) (t.d 5) ["_law_draw"] (dP K mg 1 gr)) : cV P w K mg base (iL P w) 2 (t.f 6) (t.d 6) ["_law_draws_here", "_law_many"] (dP K mg 2 fV) := by
 refine cV.imp (sp := dP K mg 2 (fun ds => iB 6 iY ds)) ?_ gQ
 refine Cm (k := 1) (ms := iY) T.oG nN (by decide) (by decide) (fun _ => rfl) ?_
 intro X EE cdv A outer s H E hX hr hx rY
 subst hX
 have hu := gc hr
 have nd := nN.nd
 have hfr : jx (lT (iL P w) P w K mg base kP "_law_unlike" (aa aP) (t.f 6) cdv A outer s H E) := ⟨_, outer, s.heap.objs.size, rfl, rfl, rfl⟩
 refine ay ?_ ?_
 refine bE (i := 2) ?_ ?_ ?_ ?_ ?_ ?_
 exact nd
 exact (Or.inr cK)
 refine cM ?_
 exact av
 exact Or.inl rfl
 exact rfl
 decide +kernel
 refine ay ?_ ?_
 refine j0 ?_ ?_ ?_ ?_ ?_ ?_ ?_ ?_
 exact rY
 exact rfl
 exact T.mK
 exact nK
 refine aN ?_ ?_ ?_
 refine af 1 ?_ ?_ ?_
 exact (Or.inl kX)
 exact fD
 exact rfl
 decide +kernel
 exact av
 refine fu (i := 3) ?_ ?_ ?_ ?_
 exact nd
 exact (Or.inl iI)
 exact Or.inl rfl
 exact rfl
 refine ay ?_ ?_
 refine bE (i := 4) ?_ ?_ ?_ ?_ ?_ ?_
 exact nd
 exact (Or.inl bR)
 refine eL (CX := iL P w) (k := xo) (f := (t.f 5)) (fd := (t.d 5)) (ps := ["_law_draw"]) ?_ ?_ ?_ ?_ ?_ ?_ ?_ ?_ ?_ ?_
 exact nO
 exact hr.mono (by decide)
 exact T.yO
 exact T.rT.kp
 exact T.yN
 exact pG hx
 exact kY
 exact xA
 refine aN ?_ ?_ ?_
 refine ao ?_ ?_ ?_
 refine af 0 ?_ ?_ ?_
 exact (Or.inl iT)
 exact az
 exact rfl
 refine af 3 ?_ ?_ ?_
 exact (Or.inl iI)
 exact dH
 exact rfl
 decide +kernel
 decide +kernel
 exact av
 decide +kernel
 exact Or.inl rfl
 exact rfl
 decide +kernel
 refine ay ?_ ?_
 refine gG ?_ ?_ ?_
 refine cH ?_ ?_ ?_ ?_
 exact (pD hu)
 refine af 4 ?_ ?_ ?_
 exact (Or.inl bR)
 exact bh
 exact rfl
 refine af 2 ?_ ?_ ?_
 exact (Or.inr (Or.inl cK))
 exact bK
 exact rfl
 decide +kernel
 refine ay ?_ ?_
 refine bE (i := 5) ?_ ?_ ?_ ?_ ?_ ?_
 exact nd
 exact (Or.inl fL)
 refine bG ?_
 refine cM ?_
 refine eE ?_
 refine eE ?_
 refine eE ?_
 refine eE ?_
 refine eE ?_
 refine eE ?_
 refine eE ?_
 refine eE ?_
 exact av
 exact Or.inl rfl
 exact rfl
 decide +kernel
 refine aJ ?_
 refine bE (i := 4) ?_ ?_ ?_ ?_ ?_ ?_
 exact nd
 exact (Or.inl bR)
 refine ao ?_ ?_ ?_
 refine bG ?_
 refine ql (xs := ["_law_one"]) (ow := uQ) ?_ ?_ ?_ ?_ ?_ ?_ ?_ ?_ ?_
 exact hx
 exact hfr
 exact dM
 exact i8 dM
 exact gp
 exact rfl
 refine af 5 ?_ ?_ ?_
 exact (Or.inl fL)
 exact vd
 exact rfl
 refine BQ fun cl C pins s0 H0 fp E1 GD hx => ?_
 refine ⟨?_, ?_⟩
 refine cH ?_ ?_ ?_ ?_
 exact (jQ hu)
 refine af 0 ?_ ?_ ?_
 exact (lY dM (by simp))
 exact rX
 exact rfl
 refine af 3 ?_ ?_ ?_
 exact (Fj dM iU)
 exact bK
 exact rfl
 decide +kernel
 refine af 0 ?_ ?_ ?_
 exact (lY dM (by simp))
 exact rX
 exact rfl
 decide +kernel
 exact ak
 decide +kernel
 exact Or.inl rfl
 exact rfl
 decide +kernel
 exact dm
 refine aJ ?_
 refine iV ?_ ?_
 refine lE ?_ ?_ ?_ ?_ ?_
 refine af 2 ?_ ?_ ?_
 exact (Or.inr (Or.inl cK))
 exact bK
 exact rfl
 refine aN ?_ ?_ ?_
 refine af 4 ?_ ?_ ?_
 exact (Or.inl bR)
 exact bh
 exact rfl
 decide +kernel
 exact av
 decide +kernel
 decide +kernel
 exact rfl
 decide +kernel
 decide +kernel
 refine aJ ?_
 refine e8 ?_
 refine A4 ?_
 refine af 2 ?_ ?_ ?_
 exact (Or.inr (Or.inl cK))
 exact bK
 exact rfl
theorem mX : dh nE ["names"] (aa aV) := ⟨rfl, rfl, rfl, by decide +kernel, rfl, by decide +kernel, by decide +kernel⟩
theorem sG (T : Txt K mg t) : cV P w K mg base (iL P w) 3 (t.f 2) (t.d 2) ["names"] (dP K mg 1 dJ) := by
 refine cV.imp (sp := dP K mg 1 (fun ds => iB 3 fj ds)) ?_ gQ
 refine Cm (k := 2) (ms := fj) T.nF mX (by decide) (by decide) (fun _ => rfl) ?_
 intro X EE cdv A outer s H E hX hr hx rY
 subst hX
 have hu := gc hr
 have nd := mX.nd
 have hfr : jx (lT (iL P w) P w K mg base nE "refuse_twice" (aa aV) (t.f 2) cdv A outer s H E) := ⟨_, outer, s.heap.objs.size, rfl, rfl, rfl⟩
 refine aJ ?_
 refine Fl ?_ ?_ ?_ ?_ ?_ ?_
 exact rY
 exact rfl
 refine Dy ?_ ?_ ?_ ?_
 exact T.yP
 exact kg
 refine aN ?_ ?_ ?_
 refine af 0 ?_ ?_ ?_
 exact (Or.inl iJ)
 exact uB
 exact rfl
 decide +kernel
 exact av
 decide +kernel
 refine Fo (i := 1) (j := 2) ?_ ?_ ?_ ?_ ?_ ?_ ?_ ?_
 exact rfl
 exact nd
 exact (Or.inl ig)
 exact (Or.inl fq)
 exact Or.inl rfl
 exact Or.inl rfl
 exact rfl
 exact rfl
 refine aJ ?_
 refine gG ?_ ?_ ?_
 refine cH ?_ ?_ ?_ ?_
 exact (pD hu)
 refine af 2 ?_ ?_ ?_
 exact (Or.inl fq)
 exact sX
 exact rfl
 refine bG ?_
 refine jW ?_ ?_ ?_
 refine af 0 ?_ ?_ ?_
 exact (Or.inl iJ)
 exact uB
 exact rfl
 exact nU
 refine ko ?_
 refine af 1 ?_ ?_ ?_
 exact (Or.inl ig)
 exact B7
 exact rfl
 decide +kernel
 refine aJ ?_
 refine vY (C := (t.c 8)) (P := (t.c 6)) (fI := (t.i 1)) (fd := (t.e 1)) (k := 1) ?_ ?_ ?_ ?_ ?_ ?_ ?_ ?_ ?_ ?_ ?_
 exact rfl
 exact hx
 exact T.bW
 exact T.bO
 exact (DW T)
 exact T.DT
 exact hr.mono (by decide)
 exact m5
 exact ux
 refine aN ?_ ?_ ?_
 refine af 2 ?_ ?_ ?_
 exact (Or.inl fq)
 exact sX
 exact rfl
 decide +kernel
 exact av
 decide +kernel
 exact dm
 decide +kernel
theorem iw : dh iE ["names", "ruled"] (aa aC) := ⟨rfl, rfl, rfl, by decide +kernel, rfl, by decide +kernel, by decide +kernel⟩
theorem mP (T : Txt K mg t) : cV P w K mg base (iL P w) 3 (t.f 3) (t.d 3) ["names", "ruled"] (dP K mg 2 aQ) := by
 refine cV.imp (sp := dP K mg 2 (fun ds => iB 3 cL ds)) ?_ gQ
 refine Cm (k := 2) (ms := cL) T.eY iw (by decide) (by decide) (fun _ => rfl) ?_
 intro X EE cdv A outer s H E hX hr hx rY
 subst hX
 have hu := gc hr
 have nd := iw.nd
 have hfr : jx (lT (iL P w) P w K mg base iE "refuse_without_rule" (aa aC) (t.f 3) cdv A outer s H E) := ⟨_, outer, s.heap.objs.size, rfl, rfl, rfl⟩
 refine aJ ?_
 refine rq ?_ ?_ ?_ ?_ ?_ ?_
 exact rY
 exact rfl
 refine af 0 ?_ ?_ ?_
 exact (Or.inl jr)
 exact uB
 exact rfl
 refine fu (i := 2) ?_ ?_ ?_ ?_
 exact nd
 exact (Or.inl dD)
 exact Or.inl rfl
 exact rfl
 refine aJ ?_
 refine gG ?_ ?_ ?_
 refine cH ?_ ?_ ?_ ?_
 exact (jQ hu)
 refine af 2 ?_ ?_ ?_
 exact (Or.inl dD)
 exact sX
 exact rfl
 refine af 1 ?_ ?_ ?_
 exact (Or.inl jt)
 exact uC
 exact rfl
 decide +kernel
 refine aJ ?_
 refine vY (C := (t.c 2)) (P := (t.c 6)) (fI := (t.i 0)) (fd := (t.e 0)) (k := 1) ?_ ?_ ?_ ?_ ?_ ?_ ?_ ?_ ?_ ?_ ?_
 exact rfl
 exact hx
 exact T.bF
 exact T.bB
 exact (B8 T)
 exact T.B6
 exact hr.mono (by decide)
 exact jj
 exact rH
 refine aN ?_ ?_ ?_
 refine af 2 ?_ ?_ ?_
 exact (Or.inl dD)
 exact sX
 exact rfl
 decide +kernel
 exact av
 decide +kernel
 exact dm
 decide +kernel
theorem yZ : dh xq ["shape"] (aa cA) := ⟨rfl, rfl, rfl, by decide +kernel, rfl, by decide +kernel, by decide +kernel⟩
theorem DX (T : Txt K mg t) (jP : cV P w K mg base (iL P w) 1 (t.f 1) (t.d 1) ["rule"] (dP K mg 1 fy)) (j9 : cV P w K mg base (iL P w) 3 (t.f 2) (t.d 2) ["names"] (dP K mg 1 dJ)) (dO : cV P w K mg base (iL P w) 3 (t.f 3) (t.d 3) ["names", "ruled"] (dP K mg 2 aQ)) : cV P w K mg base (iL P w) 4 (t.f 0) (t.d 0) ["shape"] (dP K mg 1 kG) := by
 refine cV.imp (sp := dP K mg 1 (fun ds => iB 3 mF ds)) ?_ gQ
 refine Cm (k := 3) (ms := mF) T.A9 yZ (by decide) (by decide) (fun _ => rfl) ?_
 intro X EE cdv A outer s H E hX hr hx rY
 subst hX
 have hu := gc hr
 have nd := yZ.nd
 have hfr : jx (lT (iL P w) P w K mg base xq "sound" (aa cA) (t.f 0) cdv A outer s H E) := ⟨_, outer, s.heap.objs.size, rfl, rfl, rfl⟩
 refine ay ?_ ?_
 refine rq ?_ ?_ ?_ ?_ ?_ ?_
 exact rY
 exact rfl
 refine ao ?_ ?_ ?_
 refine af 0 ?_ ?_ ?_
 exact (Or.inl iu)
 exact qI
 exact rfl
 exact ak
 decide +kernel
 refine fu (i := 1) ?_ ?_ ?_ ?_
 exact nd
 exact (Or.inl iZ)
 exact Or.inl rfl
 exact rfl
 refine aJ ?_
 refine iV ?_ ?_
 refine eL (CX := iL P w) (k := sr) (f := (t.f 2)) (fd := (t.d 2)) (ps := ["names"]) ?_ ?_ ?_ ?_ ?_ ?_ ?_ ?_ ?_ ?_
 exact j9
 exact hr.mono (by decide)
 exact T.uh
 exact T.nF.kp
 exact T.ug
 exact pG hx
 exact m6
 exact sA
 refine aN ?_ ?_ ?_
 refine eL (CX := iL P w) (k := oA) (f := (t.f 1)) (fd := (t.d 1)) (ps := ["rule"]) ?_ ?_ ?_ ?_ ?_ ?_ ?_ ?_ ?_ ?_
 exact jP
 exact hr.mono (by decide)
 exact T.qC
 exact T.mG.kp
 exact T.qB
 exact pG hx
 exact jF
 exact oV
 refine aN ?_ ?_ ?_
 refine af 1 ?_ ?_ ?_
 exact (Or.inl iZ)
 exact sY
 exact rfl
 decide +kernel
 exact av
 decide +kernel
 decide +kernel
 exact av
 decide +kernel
 decide +kernel
 decide +kernel
 refine ay ?_ ?_
 refine Gw ?_
 refine wY (i := 2) (xs := ["rule"]) (ow := uQ) ?_ ?_ ?_ ?_ ?_ ?_ ?_ ?_ ?_ ?_ ?_ ?_ ?_
 exact hx
 exact hfr
 exact mO
 exact i8 mO
 exact gp
 exact rfl
 exact nd
 exact ir
 refine ao ?_ ?_ ?_
 refine af 0 ?_ ?_ ?_
 exact (Or.inl iu)
 exact qI
 exact rfl
 exact ak
 decide +kernel
 refine iN fun cl C pins s0 H0 fp E1 GD hx => ?_
 refine ao ?_ ?_ ?_
 refine af 0 ?_ ?_ ?_
 exact (lY mO (by simp))
 exact sY
 exact rfl
 exact ak
 decide +kernel
 refine rA ?_ ?_ ?_ ?_
 exact rfl
 exact ir
 exact rfl
 decide +kernel
 exact rfl
 decide +kernel
 refine ay ?_ ?_
 refine iV ?_ ?_
 refine eL (CX := iL P w) (k := gU) (f := (t.f 3)) (fd := (t.d 3)) (ps := ["names", "ruled"]) ?_ ?_ ?_ ?_ ?_ ?_ ?_ ?_ ?_ ?_
 exact dO
 exact hr.mono (by decide)
 exact T.iG
 exact T.eY.kp
 exact T.iF
 exact pG hx
 exact eT
 exact gX
 refine aN ?_ ?_ ?_
 refine bG ?_
 refine cM ?_
 refine aN ?_ ?_ ?_
 refine ao ?_ ?_ ?_
 refine af 0 ?_ ?_ ?_
 exact (Or.inl iu)
 exact qI
 exact rfl
 exact ak
 decide +kernel
 decide +kernel
 exact av
 decide +kernel
 refine aN ?_ ?_ ?_
 refine af 2 ?_ ?_ ?_
 exact (Or.inl ir)
 exact uC
 exact rfl
 decide +kernel
 exact av
 decide +kernel
 decide +kernel
 refine ay ?_ ?_
 refine rq ?_ ?_ ?_ ?_ ?_ ?_
 exact rY
 exact rfl
 refine ao ?_ ?_ ?_
 refine af 0 ?_ ?_ ?_
 exact (Or.inl iu)
 exact qI
 exact rfl
 exact ak
 decide +kernel
 refine fu (i := 1) ?_ ?_ ?_ ?_
 exact nd
 exact (Or.inl iZ)
 exact Or.inl rfl
 exact rfl
 refine aJ ?_
 refine iV ?_ ?_
 refine eL (CX := iL P w) (k := gU) (f := (t.f 3)) (fd := (t.d 3)) (ps := ["names", "ruled"]) ?_ ?_ ?_ ?_ ?_ ?_ ?_ ?_ ?_ ?_
 exact dO
 exact hr.mono (by decide)
 exact T.iG
 exact T.eY.kp
 exact T.iF
 exact pG hx
 exact eT
 exact gX
 refine aN ?_ ?_ ?_
 refine eL (CX := iL P w) (k := oA) (f := (t.f 1)) (fd := (t.d 1)) (ps := ["rule"]) ?_ ?_ ?_ ?_ ?_ ?_ ?_ ?_ ?_ ?_
 exact jP
 exact hr.mono (by decide)
 exact T.qC
 exact T.mG.kp
 exact T.qB
 exact pG hx
 exact jF
 exact oV
 refine aN ?_ ?_ ?_
 refine af 1 ?_ ?_ ?_
 exact (Or.inl iZ)
 exact sY
 exact rfl
 decide +kernel
 exact av
 decide +kernel
 decide +kernel
 refine aN ?_ ?_ ?_
 refine af 2 ?_ ?_ ?_
 exact (Or.inl ir)
 exact uC
 exact rfl
 decide +kernel
 exact av
 decide +kernel
 decide +kernel
 decide +kernel
 refine aJ ?_
 refine e8 ?_
 exact AA
theorem pe : dh qA ["_law_shape"] (aa aF) := ⟨rfl, rfl, rfl, by decide +kernel, rfl, by decide +kernel, by decide +kernel⟩
theorem vp (T : Txt K mg t) (xE : cV P w K mg base (iL P w) 4 (t.f 0) (t.d 0) ["shape"] (dP K mg 1 kG)) : cV P w K mg base (iL P w) 5 (t.f 10) (t.d 10) ["_law_shape"] (dP K mg 1 cB) := by
 refine cV.imp (sp := dP K mg 1 (fun ds => iB 5 fC ds)) ?_ gQ
 refine Cm (k := 4) (ms := fC) T.jM pe (by decide) (by decide) (fun _ => rfl) ?_
 intro X EE cdv A outer s H E hX hr hx rY
 subst hX
 have hu := gc hr
 have nd := pe.nd
 have hfr : jx (lT (iL P w) P w K mg base qA "_law_asked" (aa aF) (t.f 10) cdv A outer s H E) := ⟨_, outer, s.heap.objs.size, rfl, rfl, rfl⟩
 refine ay ?_ ?_
 refine Il ?_ ?_ ?_ ?_ ?_
 exact rfl
 exact ⟨_, rfl⟩
 refine fun E1 Rm GD hx rY => ?_
 refine aJ ?_
 refine bE (i := 1) ?_ ?_ ?_ ?_ ?_ ?_
 exact nd
 exact (Or.inl gz)
 refine eL (CX := iL P w) (k := DM) (f := (t.f 0)) (fd := (t.d 0)) (ps := ["shape"]) ?_ ?_ ?_ ?_ ?_ ?_ ?_ ?_ ?_ ?_
 exact xE
 exact hr.mono (by decide)
 exact T.FF
 exact T.A9.kp
 exact T.FE
 exact pG hx
 exact n5
 exact DU
 refine aN ?_ ?_ ?_
 refine af 0 ?_ ?_ ?_
 exact (Or.inl kW)
 exact eX
 exact rfl
 decide +kernel
 exact av
 decide +kernel
 exact Or.inl rfl
 exact rfl
 decide +kernel
 refine fun Rm => ?_
 refine yh (cv := .ref (t.c 8)) (i := 2) ?_ ?_ ?_ ?_ ?_ ?_ ?_ ?_ ?_ ?_
 exact T.bW
 exact IB ⟨⟨_, T.bF, T.uq⟩, ⟨⟨_, T.bW, T.uZ⟩, trivial⟩⟩
 exact jE
 exact ux.1
 exact rfl
 exact nd
 exact rfl
 exact aA
 refine fun e1 => ?_
 refine ay ?_ ?_
 refine bE (i := 3) ?_ ?_ ?_ ?_ ?_ ?_
 exact nd
 exact (Or.inl bX)
 refine bG ?_
 refine cM ?_
 refine aN ?_ ?_ ?_
 refine fP (cv := .ref (t.c 2)) ?_ ?_ ?_ ?_ ?_ ?_ ?_ ?_
 exact T.aX
 exact T.bF
 exact mw ⟨⟨_, _, _, T.bF, T.bB, T.sy⟩, ⟨⟨_, _, _, T.bW, T.bO, T.uv⟩, trivial⟩⟩
 exact au
 exact jd
 exact rH.1
 refine af 2 ?_ ?_ ?_
 exact (Or.inl aA)
 exact lM
 exact rfl
 decide +kernel
 decide +kernel
 refine eE ?_
 refine aN ?_ ?_ ?_
 refine Gz ?_ ?_ ?_
 exact IJ ⟨⟨_, _, _, T.bF, T.bB⟩, ⟨⟨_, _, _, T.bW, T.bO⟩, trivial⟩⟩
 refine af 2 ?_ ?_ ?_
 exact (Or.inl aA)
 exact lM
 exact rfl
 decide +kernel
 decide +kernel
 refine aN ?_ ?_ ?_
 refine CZ ?_ ?_
 refine fP (cv := .ref (t.c 6)) ?_ ?_ ?_ ?_ ?_ ?_ ?_ ?_
 exact T.aX
 exact T.rU
 exact mw ⟨⟨_, _, _, T.bF, T.bB, T.j6⟩, ⟨⟨_, _, _, T.bW, T.bO, T.kI⟩, trivial⟩⟩
 exact au
 exact gy
 exact qG.1
 refine af 2 ?_ ?_ ?_
 exact (Or.inl aA)
 exact lM
 exact rfl
 decide +kernel
 refine CY ?_
 refine DF (T := "ValueError") ?_ ?_ ?_ ?_ ?_ ?_ ?_ ?_ ?_ ?_
 exact T.aX
 exact T.qF
 exact oK
 exact mw ⟨⟨_, _, _, T.bF, T.bB, T.jC⟩, ⟨⟨_, _, _, T.bW, T.bO, T.j7⟩, trivial⟩⟩
 exact au
 exact fW
 exact oM
 exact oO.1
 refine af 2 ?_ ?_ ?_
 exact (Or.inl aA)
 exact lM
 exact rfl
 decide +kernel
 decide +kernel
 exact av
 exact Or.inl rfl
 exact rfl
 decide +kernel
 refine ay ?_ ?_
 refine bE (i := 4) ?_ ?_ ?_ ?_ ?_ ?_
 exact nd
 exact (Or.inl bg)
 refine bG ?_
 refine cM ?_
 refine aN ?_ ?_ ?_
 refine fP (cv := .ref (t.c 5)) ?_ ?_ ?_ ?_ ?_ ?_ ?_ ?_
 exact T.aX
 exact T.yS
 exact mw ⟨⟨_, _, _, T.bF, T.bB, T.mU⟩, ⟨⟨_, _, _, T.bW, T.bO, T.nJ⟩, trivial⟩⟩
 exact au
 exact jf
 exact v9.1
 refine af 2 ?_ ?_ ?_
 exact (Or.inl aA)
 exact lM
 exact rfl
 decide +kernel
 decide +kernel
 refine aN ?_ ?_ ?_
 refine fP (cv := .ref (t.c 3)) ?_ ?_ ?_ ?_ ?_ ?_ ?_ ?_
 exact T.aX
 exact T.v5
 exact mw ⟨⟨_, _, _, T.bF, T.bB, T.lJ⟩, ⟨⟨_, _, _, T.bW, T.bO, T.mV⟩, trivial⟩⟩
 exact au
 exact iH
 exact uw.1
 refine af 2 ?_ ?_ ?_
 exact (Or.inl aA)
 exact lM
 exact rfl
 decide +kernel
 decide +kernel
 refine aN ?_ ?_ ?_
 refine fP (cv := .ref (t.c 4)) ?_ ?_ ?_ ?_ ?_ ?_ ?_ ?_
 exact T.aX
 exact T.yR
 exact mw ⟨⟨_, _, _, T.bF, T.bB, T.mT⟩, ⟨⟨_, _, _, T.bW, T.bO, T.nI⟩, trivial⟩⟩
 exact au
 exact je
 exact v8.1
 refine af 2 ?_ ?_ ?_
 exact (Or.inl aA)
 exact lM
 exact rfl
 decide +kernel
 decide +kernel
 refine aN ?_ ?_ ?_
 refine fP (cv := .ref (t.c 7)) ?_ ?_ ?_ ?_ ?_ ?_ ?_ ?_
 exact T.aX
 exact T.uo
 exact mw ⟨⟨_, _, _, T.bF, T.bB, T.kH⟩, ⟨⟨_, _, _, T.bW, T.bO, T.lK⟩, trivial⟩⟩
 exact au
 exact g9
 exact rV.1
 refine af 2 ?_ ?_ ?_
 exact (Or.inl aA)
 exact lM
 exact rfl
 decide +kernel
 decide +kernel
 exact av
 exact Or.inl rfl
 exact rfl
 decide +kernel
 refine aJ ?_
 refine bE (i := 4) ?_ ?_ ?_ ?_ ?_ ?_
 exact nd
 exact (Or.inl bg)
 refine bG ?_
 refine cS ?_ ?_
 refine af 4 ?_ ?_ ?_
 exact (Or.inl bg)
 exact j8
 exact rfl
 refine bG ?_
 refine cM ?_
 refine aN ?_ ?_ ?_
 refine fP (cv := .ref (t.c 1)) ?_ ?_ ?_ ?_ ?_ ?_ ?_ ?_
 exact T.aX
 exact T.Ba
 exact mw ⟨⟨_, _, _, T.bF, T.bB, T.nG⟩, ⟨⟨_, _, _, T.bW, T.bO, T.oJ⟩, trivial⟩⟩
 exact au
 exact jD
 exact yT.1
 refine af 2 ?_ ?_ ?_
 exact (Or.inl aA)
 exact lM
 exact rfl
 decide +kernel
 decide +kernel
 refine aN ?_ ?_ ?_
 refine fP (cv := .ref (t.c 0)) ?_ ?_ ?_ ?_ ?_ ?_ ?_ ?_
 exact T.aX
 exact T.yQ
 exact mw ⟨⟨_, _, _, T.bF, T.bB, T.mS⟩, ⟨⟨_, _, _, T.bW, T.bO, T.nH⟩, trivial⟩⟩
 exact au
 exact jc
 exact v7.1
 refine af 2 ?_ ?_ ?_
 exact (Or.inl aA)
 exact lM
 exact rfl
 decide +kernel
 decide +kernel
 exact av
 exact Or.inl rfl
 exact rfl
 decide +kernel
 refine yh (cv := .ref (t.c 2)) (i := 2) ?_ ?_ ?_ ?_ ?_ ?_ ?_ ?_ ?_ ?_
 exact T.bF
 exact IB ⟨⟨_, T.bF, T.su⟩, ⟨⟨_, T.bW, T.ur⟩, trivial⟩⟩
 exact jd
 exact rH.1
 exact rfl
 exact nd
 exact rfl
 exact aA
 refine fun e1 => ?_
 refine ay ?_ ?_
 refine bE (i := 3) ?_ ?_ ?_ ?_ ?_ ?_
 exact nd
 exact (Or.inl bX)
 refine bG ?_
 refine cM ?_
 refine aN ?_ ?_ ?_
 refine fP (cv := .ref (t.c 8)) ?_ ?_ ?_ ?_ ?_ ?_ ?_ ?_
 exact T.aX
 exact T.bW
 exact mw ⟨⟨_, _, _, T.bF, T.bB, T.uu⟩, ⟨⟨_, _, _, T.bW, T.bO, T.u6⟩, trivial⟩⟩
 exact au
 exact jE
 exact ux.1
 refine af 2 ?_ ?_ ?_
 exact (Or.inl aA)
 exact lM
 exact rfl
 decide +kernel
 decide +kernel
 refine eE ?_
 refine aN ?_ ?_ ?_
 refine Gz ?_ ?_ ?_
 exact IJ ⟨⟨_, _, _, T.bF, T.bB⟩, ⟨⟨_, _, _, T.bW, T.bO⟩, trivial⟩⟩
 refine af 2 ?_ ?_ ?_
 exact (Or.inl aA)
 exact lM
 exact rfl
 decide +kernel
 decide +kernel
 refine aN ?_ ?_ ?_
 refine CZ ?_ ?_
 refine fP (cv := .ref (t.c 6)) ?_ ?_ ?_ ?_ ?_ ?_ ?_ ?_
 exact T.aX
 exact T.rU
 exact mw ⟨⟨_, _, _, T.bF, T.bB, T.j6⟩, ⟨⟨_, _, _, T.bW, T.bO, T.kI⟩, trivial⟩⟩
 exact au
 exact gy
 exact qG.1
 refine af 2 ?_ ?_ ?_
 exact (Or.inl aA)
 exact lM
 exact rfl
 decide +kernel
 refine CY ?_
 refine DF (T := "ValueError") ?_ ?_ ?_ ?_ ?_ ?_ ?_ ?_ ?_ ?_
 exact T.aX
 exact T.qF
 exact oK
 exact mw ⟨⟨_, _, _, T.bF, T.bB, T.jC⟩, ⟨⟨_, _, _, T.bW, T.bO, T.j7⟩, trivial⟩⟩
 exact au
 exact fW
 exact oM
 exact oO.1
 refine af 2 ?_ ?_ ?_
 exact (Or.inl aA)
 exact lM
 exact rfl
 decide +kernel
 decide +kernel
 exact av
 exact Or.inl rfl
 exact rfl
 decide +kernel
 refine ay ?_ ?_
 refine bE (i := 4) ?_ ?_ ?_ ?_ ?_ ?_
 exact nd
 exact (Or.inl bg)
 refine bG ?_
 refine cM ?_
 refine aN ?_ ?_ ?_
 refine fP (cv := .ref (t.c 5)) ?_ ?_ ?_ ?_ ?_ ?_ ?_ ?_
 exact T.aX
 exact T.yS
 exact mw ⟨⟨_, _, _, T.bF, T.bB, T.mU⟩, ⟨⟨_, _, _, T.bW, T.bO, T.nJ⟩, trivial⟩⟩
 exact au
 exact jf
 exact v9.1
 refine af 2 ?_ ?_ ?_
 exact (Or.inl aA)
 exact lM
 exact rfl
 decide +kernel
 decide +kernel
 refine aN ?_ ?_ ?_
 refine fP (cv := .ref (t.c 3)) ?_ ?_ ?_ ?_ ?_ ?_ ?_ ?_
 exact T.aX
 exact T.v5
 exact mw ⟨⟨_, _, _, T.bF, T.bB, T.lJ⟩, ⟨⟨_, _, _, T.bW, T.bO, T.mV⟩, trivial⟩⟩
 exact au
 exact iH
 exact uw.1
 refine af 2 ?_ ?_ ?_
 exact (Or.inl aA)
 exact lM
 exact rfl
 decide +kernel
 decide +kernel
 refine aN ?_ ?_ ?_
 refine fP (cv := .ref (t.c 4)) ?_ ?_ ?_ ?_ ?_ ?_ ?_ ?_
 exact T.aX
 exact T.yR
 exact mw ⟨⟨_, _, _, T.bF, T.bB, T.mT⟩, ⟨⟨_, _, _, T.bW, T.bO, T.nI⟩, trivial⟩⟩
 exact au
 exact je
 exact v8.1
 refine af 2 ?_ ?_ ?_
 exact (Or.inl aA)
 exact lM
 exact rfl
 decide +kernel
 decide +kernel
 refine aN ?_ ?_ ?_
 refine fP (cv := .ref (t.c 7)) ?_ ?_ ?_ ?_ ?_ ?_ ?_ ?_
 exact T.aX
 exact T.uo
 exact mw ⟨⟨_, _, _, T.bF, T.bB, T.kH⟩, ⟨⟨_, _, _, T.bW, T.bO, T.lK⟩, trivial⟩⟩
 exact au
 exact g9
 exact rV.1
 refine af 2 ?_ ?_ ?_
 exact (Or.inl aA)
 exact lM
 exact rfl
 decide +kernel
 decide +kernel
 exact av
 exact Or.inl rfl
 exact rfl
 decide +kernel
 refine aJ ?_
 refine bE (i := 4) ?_ ?_ ?_ ?_ ?_ ?_
 exact nd
 exact (Or.inl bg)
 refine bG ?_
 refine cS ?_ ?_
 refine af 4 ?_ ?_ ?_
 exact (Or.inl bg)
 exact j8
 exact rfl
 refine bG ?_
 refine cM ?_
 refine aN ?_ ?_ ?_
 refine fP (cv := .ref (t.c 1)) ?_ ?_ ?_ ?_ ?_ ?_ ?_ ?_
 exact T.aX
 exact T.Ba
 exact mw ⟨⟨_, _, _, T.bF, T.bB, T.nG⟩, ⟨⟨_, _, _, T.bW, T.bO, T.oJ⟩, trivial⟩⟩
 exact au
 exact jD
 exact yT.1
 refine af 2 ?_ ?_ ?_
 exact (Or.inl aA)
 exact lM
 exact rfl
 decide +kernel
 decide +kernel
 refine aN ?_ ?_ ?_
 refine fP (cv := .ref (t.c 0)) ?_ ?_ ?_ ?_ ?_ ?_ ?_ ?_
 exact T.aX
 exact T.yQ
 exact mw ⟨⟨_, _, _, T.bF, T.bB, T.mS⟩, ⟨⟨_, _, _, T.bW, T.bO, T.nH⟩, trivial⟩⟩
 exact au
 exact jc
 exact v7.1
 refine af 2 ?_ ?_ ?_
 exact (Or.inl aA)
 exact lM
 exact rfl
 decide +kernel
 decide +kernel
 exact av
 exact Or.inl rfl
 exact rfl
 decide +kernel
 exact Ik
 refine aJ ?_
 refine e8 ?_
 refine Kd ?_ ?_ ?_
 refine cH ?_ ?_ ?_ ?_
 exact DI
 refine af 1 ?_ ?_ ?_
 exact (Or.inl gz)
 exact jN
 exact rfl
 exact AA
 decide +kernel
 refine bG ?_
 refine cM ?_
 refine eE ?_
 refine eE ?_
 exact av
 refine bG ?_
 refine cM ?_
 refine eE ?_
 refine eE ?_
 exact av
 refine ay ?_ ?_
 refine gG ?_ ?_ ?_
 refine zK ?_
 refine x6 ?_ ?_
 refine Dn ?_ ?_
 refine ao ?_ ?_ ?_
 refine af 3 ?_ ?_ ?_
 exact (Or.inl bX)
 exact mL
 exact rfl
 exact ak
 decide +kernel
 decide +kernel
 refine x6 ?_ ?_
 refine HY ?_
 refine Dn ?_ ?_
 refine ao ?_ ?_ ?_
 refine af 3 ?_ ?_ ?_
 exact (Or.inl bX)
 exact mL
 exact rfl
 exact ak
 decide +kernel
 decide +kernel
 refine zJ ?_
 refine cH ?_ ?_ ?_ ?_
 exact (pD hu)
 exact AA
 refine af 4 ?_ ?_ ?_
 exact (Or.inl bg)
 exact j8
 exact rfl
 decide +kernel
 refine aJ ?_
 refine e8 ?_
 refine bG ?_
 refine cM ?_
 refine eE ?_
 refine eE ?_
 exact av
 exact dm
 refine aJ ?_
 refine e8 ?_
 refine bG ?_
 refine jW ?_ ?_ ?_
 refine af 3 ?_ ?_ ?_
 exact (Or.inl bX)
 exact mL
 exact rfl
 refine ko ?_
 exact ak
 refine ko ?_
 exact ak
theorem DY : dh DP ["_law_script"] (aa cU) := ⟨rfl, rfl, rfl, by decide +kernel, rfl, by decide +kernel, by decide +kernel⟩
theorem IK (T : Txt K mg t) (mQ : cV P w K mg base (iL P w) 1 (t.f 4) (t.d 4) ["_law_script", "_law_many"] (dP K mg 2 fB)) (kZ : cV P w K mg base (iL P w) 2 (t.f 6) (t.d 6) ["_law_draws_here", "_law_many"] (dP K mg 2 fV)) (mR : cV P w K mg base (iL P w) 1 (t.f 7) (t.d 7) ["_law_draws_here", "_law_names"] (dP K mg 2 gS)) (lg : cV P w K mg base (iL P w) 1 (t.f 8) (t.d 8) ["_law_draws_here", "_law_rules", "_law_start", "_law_strays"] (dP K mg 4 dX)) (pQ : cV P w K mg base (iL P w) 1 (t.f 9) (t.d 9) ["_law_shape"] (dP K mg 1 iS)) (iy : cV P w K mg base (iL P w) 5 (t.f 10) (t.d 10) ["_law_shape"] (dP K mg 1 cB)) : cV P w K mg base (iL P w) 6 (t.f 11) (t.d 11) ["_law_script"] (dP K mg 1 A8) := by
 refine cV.imp (sp := dP K mg 1 (fun ds => iB 8 A7 ds)) ?_ gQ
 refine Cm (k := 5) (ms := A7) T.KW DY (by decide) (by decide) (fun _ => rfl) ?_
 intro X EE cdv A outer s H E hX hr hx rY
 subst hX
 have hu := gc hr
 have nd := DY.nd
 have hfr : jx (lT (iL P w) P w K mg base DP "law" (aa cU) (t.f 11) cdv A outer s H E) := ⟨_, outer, s.heap.objs.size, rfl, rfl, rfl⟩
 refine ay ?_ ?_
 refine bE (i := 1) ?_ ?_ ?_ ?_ ?_ ?_
 exact nd
 exact (Or.inl bM)
 refine eL (CX := iL P w) (k := uT) (f := (t.f 4)) (fd := (t.d 4)) (ps := ["_law_script", "_law_many"]) ?_ ?_ ?_ ?_ ?_ ?_ ?_ ?_ ?_ ?_
 exact mQ
 exact hr.mono (by decide)
 exact T.xu
 exact T.qD.kp
 exact T.xr
 exact pG hx
 exact qO
 exact vc
 refine aN ?_ ?_ ?_
 refine af 0 ?_ ?_ ?_
 exact (Or.inl pN)
 exact fk
 exact rfl
 decide +kernel
 refine uR ?_
 exact av
 decide +kernel
 exact Or.inl rfl
 exact rfl
 decide +kernel
 refine ay ?_ ?_
 refine bE (i := 2) ?_ ?_ ?_ ?_ ?_ ?_
 exact nd
 exact (Or.inl cF)
 refine eL (CX := iL P w) (k := uf) (f := (t.f 6)) (fd := (t.d 6)) (ps := ["_law_draws_here", "_law_many"]) ?_ ?_ ?_ ?_ ?_ ?_ ?_ ?_ ?_ ?_
 exact kZ
 exact hr.mono (by decide)
 exact T.uW
 exact T.oG.kp
 exact T.uV
 exact pG hx
 exact pP
 exact uA
 refine aN ?_ ?_ ?_
 refine af 1 ?_ ?_ ?_
 exact (Or.inl bM)
 exact az
 exact rfl
 decide +kernel
 refine uR ?_
 exact av
 decide +kernel
 exact Or.inl rfl
 exact rfl
 decide +kernel
 refine ay ?_ ?_
 refine bE (i := 3) ?_ ?_ ?_ ?_ ?_ ?_
 exact nd
 exact (Or.inl dW)
 refine eL (CX := iL P w) (k := uU) (f := (t.f 7)) (fd := (t.d 7)) (ps := ["_law_draws_here", "_law_names"]) ?_ ?_ ?_ ?_ ?_ ?_ ?_ ?_ ?_ ?_
 exact mR
 exact hr.mono (by decide)
 exact T.xx
 exact T.qE.kp
 exact T.xw
 exact pG hx
 exact qN
 exact u9
 refine aN ?_ ?_ ?_
 refine af 1 ?_ ?_ ?_
 exact (Or.inl bM)
 exact az
 exact rfl
 decide +kernel
 refine aN ?_ ?_ ?_
 refine af 2 ?_ ?_ ?_
 exact (Or.inl cF)
 exact bK
 exact rfl
 decide +kernel
 exact av
 decide +kernel
 exact Or.inl rfl
 exact rfl
 decide +kernel
 refine ay ?_ ?_
 refine bE (i := 4) ?_ ?_ ?_ ?_ ?_ ?_
 exact nd
 exact (Or.inl eG)
 refine fO ?_ ?_ ?_ ?_
 exact T.jB
 exact Ae
 refine aN ?_ ?_ ?_
 refine af 3 ?_ ?_ ?_
 exact (Or.inl dW)
 exact bx
 exact rfl
 decide +kernel
 exact av
 decide +kernel
 exact Or.inl rfl
 exact rfl
 decide +kernel
 refine ay ?_ ?_
 refine bE (i := 5) ?_ ?_ ?_ ?_ ?_ ?_
 exact nd
 exact (Or.inl fF)
 refine kK ?_
 refine aN ?_ ?_ ?_
 refine ao ?_ ?_ ?_
 refine ao ?_ ?_ ?_
 refine af 3 ?_ ?_ ?_
 exact (Or.inl dW)
 exact bx
 exact rfl
 refine cy ?_ ?_
 refine ao ?_ ?_ ?_
 refine af 1 ?_ ?_ ?_
 exact (Or.inl bM)
 exact az
 exact rfl
 exact ak
 decide +kernel
 refine af 4 ?_ ?_ ?_
 exact (Or.inl eG)
 exact fD
 exact rfl
 decide +kernel
 exact ak
 decide +kernel
 decide +kernel
 refine aN ?_ ?_ ?_
 refine qm ?_ ?_ ?_ ?_
 exact T.sW
 exact xB
 refine aN ?_ ?_ ?_
 refine af 3 ?_ ?_ ?_
 exact (Or.inl dW)
 exact bx
 exact rfl
 decide +kernel
 exact av
 decide +kernel
 decide +kernel
 exact av
 exact Or.inl rfl
 exact rfl
 decide +kernel
 refine ay ?_ ?_
 refine wY (i := 6) (xs := ["_law_name_here"]) (ow := uQ) ?_ ?_ ?_ ?_ ?_ ?_ ?_ ?_ ?_ ?_ ?_ ?_ ?_
 exact hx
 exact hfr
 exact pK
 exact i8 pK
 exact gp
 exact rfl
 exact nd
 exact bD
 refine bG ?_
 refine cM ?_
 refine aN ?_ ?_ ?_
 refine cS ?_ ?_
 refine bG ?_
 refine jW ?_ ?_ ?_
 refine ao ?_ ?_ ?_
 refine af 2 ?_ ?_ ?_
 exact (Or.inl cF)
 exact bK
 exact rfl
 exact ak
 decide +kernel
 exact nU
 refine ko ?_
 exact ak
 exact qW
 decide +kernel
 refine aN ?_ ?_ ?_
 refine cS ?_ ?_
 refine bG ?_
 refine jW ?_ ?_ ?_
 refine ao ?_ ?_ ?_
 refine af 2 ?_ ?_ ?_
 exact (Or.inl cF)
 exact bK
 exact rfl
 exact ak
 decide +kernel
 exact nU
 refine ko ?_
 exact ak
 exact qW
 decide +kernel
 exact av
 refine iN fun cl C pins s0 H0 fp E1 GD hx => ?_
 refine cS ?_ ?_
 refine af 0 ?_ ?_ ?_
 exact (lY pK (by simp))
 exact bh
 exact rfl
 exact qW
 refine rA ?_ ?_ ?_ ?_
 exact rfl
 exact bD
 exact rfl
 decide +kernel
 exact rfl
 decide +kernel
 refine ay ?_ ?_
 refine gG ?_ ?_ ?_
 refine zK ?_
 refine wK ?_ ?_
 refine cH ?_ ?_ ?_ ?_
 exact CW
 refine af 4 ?_ ?_ ?_
 exact (Or.inl eG)
 exact fD
 exact rfl
 exact ak
 decide +kernel
 refine sO ?_
 refine cH ?_ ?_ ?_ ?_
 exact (nq hu)
 refine cy ?_ ?_
 refine eH ?_ ?_
 refine ao ?_ ?_ ?_
 refine af 1 ?_ ?_ ?_
 exact (Or.inl bM)
 exact az
 exact rfl
 exact ak
 decide +kernel
 exact ak
 exact ak
 exact ak
 decide +kernel
 refine aJ ?_
 refine qk ?_ ?_ ?_ ?_ ?_
 refine ao ?_ ?_ ?_
 refine af 2 ?_ ?_ ?_
 exact (Or.inl cF)
 exact bK
 exact rfl
 exact ak
 decide +kernel
 refine af 6 ?_ ?_ ?_
 exact (Or.inl bD)
 exact bU
 exact rfl
 exact ak
 decide +kernel
 intro _; rfl
 exact dm
 refine ay ?_ ?_
 refine gG ?_ ?_ ?_
 refine zK ?_
 refine x6 ?_ ?_
 refine cH ?_ ?_ ?_ ?_
 exact (pD hu)
 refine ao ?_ ?_ ?_
 refine af 6 ?_ ?_ ?_
 exact (Or.inl bD)
 exact bU
 exact rfl
 exact ak
 decide +kernel
 refine bG ?_
 refine jW ?_ ?_ ?_
 refine af 2 ?_ ?_ ?_
 exact (Or.inl cF)
 exact bK
 exact rfl
 exact nU
 refine ko ?_
 refine af 4 ?_ ?_ ?_
 exact (Or.inl eG)
 exact fD
 exact rfl
 decide +kernel
 refine x6 ?_ ?_
 refine cH ?_ ?_ ?_ ?_
 exact (pD hu)
 refine ao ?_ ?_ ?_
 refine af 6 ?_ ?_ ?_
 exact (Or.inl bD)
 exact bU
 exact rfl
 exact ak
 decide +kernel
 refine bG ?_
 refine jW ?_ ?_ ?_
 refine af 2 ?_ ?_ ?_
 exact (Or.inl cF)
 exact bK
 exact rfl
 exact nU
 refine ko ?_
 refine af 4 ?_ ?_ ?_
 exact (Or.inl eG)
 exact fD
 exact rfl
 decide +kernel
 refine zJ ?_
 refine cH ?_ ?_ ?_ ?_
 exact (nq hu)
 refine ao ?_ ?_ ?_
 refine af 6 ?_ ?_ ?_
 exact (Or.inl bD)
 exact bU
 exact rfl
 exact ak
 decide +kernel
 refine ao ?_ ?_ ?_
 refine af 6 ?_ ?_ ?_
 exact (Or.inl bD)
 exact bU
 exact rfl
 exact ak
 decide +kernel
 decide +kernel
 refine aJ ?_
 refine bE (i := 6) ?_ ?_ ?_ ?_ ?_ ?_
 exact nd
 exact (Or.inl bD)
 refine bG ?_
 refine cM ?_
 refine eE ?_
 refine eE ?_
 exact av
 exact Or.inl rfl
 exact rfl
 decide +kernel
 exact dm
 refine ay ?_ ?_
 refine bE (i := 7) ?_ ?_ ?_ ?_ ?_ ?_
 exact nd
 exact (Or.inl jq)
 refine eL (CX := iL P w) (k := ue) (f := (t.f 8)) (fd := (t.d 8)) (ps := ["_law_draws_here", "_law_rules", "_law_start", "_law_strays"]) ?_ ?_ ?_ ?_ ?_ ?_ ?_ ?_ ?_ ?_
 exact lg
 exact hr.mono (by decide)
 exact T.uY
 exact T.oH.kp
 exact T.uX
 exact pG hx
 exact pO
 exact uz
 refine aN ?_ ?_ ?_
 refine af 1 ?_ ?_ ?_
 exact (Or.inl bM)
 exact az
 exact rfl
 decide +kernel
 refine aN ?_ ?_ ?_
 refine AJ ?_ ?_ ?_ ?_
 exact T.DQ
 exact yW
 refine aN ?_ ?_ ?_
 refine af 3 ?_ ?_ ?_
 exact (Or.inl dW)
 exact bx
 exact rfl
 decide +kernel
 exact av
 decide +kernel
 decide +kernel
 refine aN ?_ ?_ ?_
 refine ao ?_ ?_ ?_
 refine af 5 ?_ ?_ ?_
 exact (Or.inl fF)
 exact jN
 exact rfl
 exact ak
 decide +kernel
 decide +kernel
 refine aN ?_ ?_ ?_
 refine A4 ?_
 refine af 6 ?_ ?_ ?_
 exact (Or.inl bD)
 exact bU
 exact rfl
 decide +kernel
 exact av
 decide +kernel
 exact Or.inl rfl
 exact rfl
 decide +kernel
 refine ay ?_ ?_
 refine gG ?_ ?_ ?_
 refine zK ?_
 refine x6 ?_ ?_
 refine cH ?_ ?_ ?_ ?_
 exact (CO hu)
 refine eL (CX := iL P w) (k := kQ) (f := (t.f 10)) (fd := (t.d 10)) (ps := ["_law_shape"]) ?_ ?_ ?_ ?_ ?_ ?_ ?_ ?_ ?_ ?_
 exact iy
 exact hr.mono (by decide)
 exact T.mJ
 exact T.jM.kp
 exact T.mH
 exact pG hx
 exact ie
 exact kU
 refine aN ?_ ?_ ?_
 refine af 5 ?_ ?_ ?_
 exact (Or.inl fF)
 exact jN
 exact rfl
 decide +kernel
 exact av
 decide +kernel
 refine bG ?_
 refine cM ?_
 refine eE ?_
 refine eE ?_
 exact av
 decide +kernel
 refine zJ ?_
 refine cH ?_ ?_ ?_ ?_
 exact (CO hu)
 refine eL (CX := iL P w) (k := kQ) (f := (t.f 10)) (fd := (t.d 10)) (ps := ["_law_shape"]) ?_ ?_ ?_ ?_ ?_ ?_ ?_ ?_ ?_ ?_
 exact iy
 exact hr.mono (by decide)
 exact T.mJ
 exact T.jM.kp
 exact T.mH
 exact pG hx
 exact ie
 exact kU
 refine aN ?_ ?_ ?_
 refine af 7 ?_ ?_ ?_
 exact (Or.inl jq)
 exact rW
 exact rfl
 decide +kernel
 exact av
 decide +kernel
 refine eL (CX := iL P w) (k := yM) (f := (t.f 9)) (fd := (t.d 9)) (ps := ["_law_shape"]) ?_ ?_ ?_ ?_ ?_ ?_ ?_ ?_ ?_ ?_
 exact pQ
 exact hr.mono (by decide)
 exact T.Ac
 exact T.um.kp
 exact T.Aa
 exact pG hx
 exact sF
 exact yU
 refine aN ?_ ?_ ?_
 refine af 7 ?_ ?_ ?_
 exact (Or.inl jq)
 exact rW
 exact rfl
 decide +kernel
 exact av
 decide +kernel
 decide +kernel
 refine aJ ?_
 refine e8 ?_
 exact AA
 exact dm
 refine aJ ?_
 refine e8 ?_
 refine Ka ?_ ?_ ?_
 exact hu
 refine eL (CX := iL P w) (k := kQ) (f := (t.f 10)) (fd := (t.d 10)) (ps := ["_law_shape"]) ?_ ?_ ?_ ?_ ?_ ?_ ?_ ?_ ?_ ?_
 exact iy
 exact hr.mono (by decide)
 exact T.mJ
 exact T.jM.kp
 exact T.mH
 exact pG hx
 exact ie
 exact kU
 refine aN ?_ ?_ ?_
 refine af 5 ?_ ?_ ?_
 exact (Or.inl fF)
 exact jN
 exact rfl
 decide +kernel
 exact av
 decide +kernel
 refine bG ?_
 refine cM ?_
 refine eE ?_
 refine eE ?_
 exact av
end
theorem Af {p : List Value → Prop} (h : ∀ a0, p [a0]) : ∀ us : List Value, us.length = 1 → p us := fun us e => by
  rcases us with _ | ⟨a0, us⟩
  · cases e
  rcases us with _ | ⟨z, us⟩
  · exact h a0
  · cases e
theorem B9 {p : List Value → Prop} (h : ∀ a0 a1, p [a0, a1]) : ∀ us : List Value, us.length = 2 → p us := fun us e => by
  rcases us with _ | ⟨a0, us⟩
  · cases e
  rcases us with _ | ⟨a1, us⟩
  · cases e
  rcases us with _ | ⟨z, us⟩
  · exact h a0 a1
  · cases e
theorem NB {p : List Value → Prop} (h : ∀ a0 a1 a2 a3, p [a0, a1, a2, a3]) : ∀ us : List Value, us.length = 4 → p us := fun us e => by
  rcases us with _ | ⟨a0, us⟩
  · cases e
  rcases us with _ | ⟨a1, us⟩
  · cases e
  rcases us with _ | ⟨a2, us⟩
  · cases e
  rcases us with _ | ⟨a3, us⟩
  · cases e
  rcases us with _ | ⟨z, us⟩
  · exact h a0 a1 a2 a3
  · cases e
theorem IL {K : PySem.W.Frag} {h : Heap} {mg : Str → Option Value} (X : K.In h) (G : h.Ns mainGlobals mg) {f0 : Addr} {Rn LZ : Option Addr} {Ro : Array (Option Value)} {Rp L0 L4 L5 KY L6 : Value} (a0 : PySem.W.nsIn K mainGlobals "sound" = some (some (.ref f0))) (l0 : K.lookup f0 = some ⟨Rp, Rn, .func (PySem.W.fnOf "sound" "sound" (aZ cA) (aT cA) (aa cA) .none L0 L4 L5 LZ KY L6), Ro⟩) (c0 : PySem.W.codeIn K KY "sound" = true) (k0 : PySem.W.keepIn K (.ref f0) = true) {f1 : Addr} {Rq OQ : Option Addr} {Rr : Array (Option Value)} {Rt OR OS OT NC OU : Value} (a1 : PySem.W.nsIn K mainGlobals "item_names" = some (some (.ref f1))) (l1 : K.lookup f1 = some ⟨Rt, Rq, .func (PySem.W.fnOf "item_names" "item_names" (aZ bV) (aT bV) (aa bV) .none OR OS OT OQ NC OU), Rr⟩) (c1 : PySem.W.codeIn K NC "item_names" = true) (k1 : PySem.W.keepIn K (.ref f1) = true) {f2 : Addr} {Ru OV : Option Addr} {sl2 : Array (Option Value)} {Rv OW OX OY ND OZ : Value} (a2 : PySem.W.nsIn K mainGlobals "refuse_twice" = some (some (.ref f2))) (l2 : K.lookup f2 = some ⟨Rv, Ru, .func (PySem.W.fnOf "refuse_twice" "refuse_twice" (aZ aV) (aT aV) (aa aV) .none OW OX OY OV ND OZ), sl2⟩) (c2 : PySem.W.codeIn K ND "refuse_twice" = true) (k2 : PySem.W.keepIn K (.ref f2) = true) {f3 : Addr} {Rw O0 : Option Addr} {Rx : Array (Option Value)} {Ry O1 O2 O3 NF O4 : Value} (a3 : PySem.W.nsIn K mainGlobals "refuse_without_rule" = some (some (.ref f3))) (l3 : K.lookup f3 = some ⟨Ry, Rw, .func (PySem.W.fnOf "refuse_without_rule" "refuse_without_rule" (aZ aC) (aT aC) (aa aC) .none O1 O2 O3 O0 NF O4), Rx⟩) (c3 : PySem.W.codeIn K NF "refuse_without_rule" = true) (k3 : PySem.W.keepIn K (.ref f3) = true) {f4 : Addr} {Rz O5 : Option Addr} {RA : Array (Option Value)} {RB O6 O7 O8 NG O9 : Value} (a4 : PySem.W.nsIn K mainGlobals "_law_draws" = some (some (.ref f4))) (l4 : K.lookup f4 = some ⟨RB, Rz, .func (PySem.W.fnOf "_law_draws" "_law_draws" (aZ aW) (aT aW) (aa aW) .none O6 O7 O8 O5 NG O9), RA⟩) (c4 : PySem.W.codeIn K NG "_law_draws" = true) (k4 : PySem.W.keepIn K (.ref f4) = true) {f5 : Addr} {RC Pb : Option Addr} {RD : Array (Option Value)} {RG Pc Pd Pe NH Pf : Value} (a5 : PySem.W.nsIn K mainGlobals "_law_name" = some (some (.ref f5))) (l5 : K.lookup f5 = some ⟨RG, RC, .func (PySem.W.fnOf "_law_name" "_law_name" (aZ bA) (aT bA) (aa bA) .none Pc Pd Pe Pb NH Pf), RD⟩) (c5 : PySem.W.codeIn K NH "_law_name" = true) (k5 : PySem.W.keepIn K (.ref f5) = true) {f6 : Addr} {RH Pg : Option Addr} {RI : Array (Option Value)} {RJ Ph Pj Pk NI Pn : Value} (a6 : PySem.W.nsIn K mainGlobals "_law_unlike" = some (some (.ref f6))) (l6 : K.lookup f6 = some ⟨RJ, RH, .func (PySem.W.fnOf "_law_unlike" "_law_unlike" (aZ aP) (aT aP) (aa aP) .none Ph Pj Pk Pg NI Pn), RI⟩) (c6 : PySem.W.codeIn K NI "_law_unlike" = true) (k6 : PySem.W.keepIn K (.ref f6) = true) {f7 : Addr} {RK Po : Option Addr} {RL : Array (Option Value)} {RM Pp Pq Pr NJ Pu : Value} (a7 : PySem.W.nsIn K mainGlobals "_law_built" = some (some (.ref f7))) (l7 : K.lookup f7 = some ⟨RM, RK, .func (PySem.W.fnOf "_law_built" "_law_built" (aZ aH) (aT aH) (aa aH) .none Pp Pq Pr Po NJ Pu), RL⟩) (c7 : PySem.W.codeIn K NJ "_law_built" = true) (k7 : PySem.W.keepIn K (.ref f7) = true) {f8 : Addr} {RN Pw : Option Addr} {RO : Array (Option Value)} {RP Px Py Pz NK PB : Value} (a8 : PySem.W.nsIn K mainGlobals "_law_spoilt" = some (some (.ref f8))) (l8 : K.lookup f8 = some ⟨RP, RN, .func (PySem.W.fnOf "_law_spoilt" "_law_spoilt" (aZ aB) (aT aB) (aa aB) .none Px Py Pz Pw NK PB), RO⟩) (c8 : PySem.W.codeIn K NK "_law_spoilt" = true) (k8 : PySem.W.keepIn K (.ref f8) = true) {f9 : Addr} {RQ PC : Option Addr} {RS : Array (Option Value)} {RT PD PF PJ NL PK : Value} (a9 : PySem.W.nsIn K mainGlobals "_law_due" = some (some (.ref f9))) (l9 : K.lookup f9 = some ⟨RT, RQ, .func (PySem.W.fnOf "_law_due" "_law_due" (aZ bC) (aT bC) (aa bC) .none PD PF PJ PC NL PK), RS⟩) (c9 : PySem.W.codeIn K NL "_law_due" = true) (k9 : PySem.W.keepIn K (.ref f9) = true) {L7 : Addr} {NN KZ : Option Addr} {NO : Array (Option Value)} {NP K0 K1 K2 IM K3 : Value} (RU : PySem.W.nsIn K mainGlobals "_law_asked" = some (some (.ref L7))) (RV : K.lookup L7 = some ⟨NP, NN, .func (PySem.W.fnOf "_law_asked" "_law_asked" (aZ aF) (aT aF) (aa aF) .none K0 K1 K2 KZ IM K3), NO⟩) (RW : PySem.W.codeIn K IM "_law_asked" = true) (RX : PySem.W.keepIn K (.ref L7) = true) {L8 : Addr} {NQ K4 : Option Addr} {NR : Array (Option Value)} {NS K5 K6 K7 IP K8 : Value} (RY : PySem.W.nsIn K mainGlobals "law" = some (some (.ref L8))) (RZ : K.lookup L8 = some ⟨NS, NQ, .func (PySem.W.fnOf "law" "law" (aZ cU) (aT cU) (aa cU) .none K5 K6 K7 K4 IP K8), NR⟩) (R0 : PySem.W.codeIn K IP "law" = true) (R1 : PySem.W.keepIn K (.ref L8) = true) (z0 : PySem.W.nsIn K mainGlobals "ValueError" = some none) (z1 : PySem.W.nsIn K mainGlobals "enumerate" = some none) (z2 : PySem.W.nsIn K mainGlobals "isinstance" = some none) (z3 : PySem.W.nsIn K mainGlobals "len" = some none) (z4 : PySem.W.nsIn K mainGlobals "list" = some none) (z5 : PySem.W.nsIn K mainGlobals "max" = some none) (z6 : PySem.W.nsIn K mainGlobals "range" = some none) (z7 : PySem.W.nsIn K mainGlobals "tuple" = some none) {Ma : Addr} (R3 : PySem.W.nsIn K mainGlobals "NoName" = some (some (.ref Ma))) {Mb : Addr} (R4 : PySem.W.nsIn K mainGlobals "NoRow" = some (some (.ref Mb))) {qQ : Addr} (R5 : PySem.W.nsIn K mainGlobals "NoRule" = some (some (.ref qQ))) {Mc : Addr} (R6 : PySem.W.nsIn K mainGlobals "NoShape" = some (some (.ref Mc))) {Me : Addr} (R7 : PySem.W.nsIn K mainGlobals "NoSort" = some (some (.ref Me))) {Mf : Addr} (R8 : PySem.W.nsIn K mainGlobals "NoText" = some (some (.ref Mf))) {Jk : Addr} (R9 : PySem.W.nsIn K mainGlobals "PathError" = some (some (.ref Jk))) {Mg : Addr} (Sa : PySem.W.nsIn K mainGlobals "TooGreat" = some (some (.ref Mg))) {qR : Addr} (Sb : PySem.W.nsIn K mainGlobals "Twice" = some (some (.ref qR))) {FH : ClassData} {K9 : Addr} {NT La : Option Addr} {NU : Array (Option Value)} {NV Lb Lc Ld IQ Le : Value} (Sd : PySem.W.clsIn K qQ = some FH) (Se : FH.mro = [.ref qQ, .ref Jk, .type "ValueError", .type "Exception", .type "BaseException", .type "object"]) (Sf : FH.hasDict = true) (Sg : PySem.W.findIn K (.ref qQ) "__setattr__" = some (some (.builtin "object.__setattr__"))) (Sh : PySem.W.takerIn K qQ "name" = some none) (Si : PySem.W.findIn K (.ref qQ) "__getattribute__" = some (some (.builtin "BaseException.__getattribute__"))) (Sj : PySem.W.findIn K (.ref qQ) "__getattr__" = some none) (Sk : PySem.W.findIn K (.ref qQ) "name" = some none) (Sl : PySem.W.findIn K (.ref qQ) "__init__" = some (some (.ref K9))) (Sm : PySem.W.findIn K (.ref qQ) "__class__" = some (some (.builtin "object.__class__"))) (Sn : PySem.W.specialIn K (.builtin "object.__class__") "__get__" = some (some (.builtin "getset_descriptor.__get__"))) (So : PySem.W.takesIn K (.builtin "object.__class__") = some true) (Sq : PySem.W.typeIn K (.ref K9) = some (.type "function")) (Su : CD K qQ = true) (PL : K.lookup K9 = some ⟨NV, NT, .func (PySem.W.fnOf "__init__" "NoRule.__init__" (aZ eW) (aT eW) (aa eW) .none Lb Lc Ld La IQ Le), NU⟩) (PM : PySem.W.codeIn K IQ "NoRule.__init__" = true) (PN : PySem.W.keepIn K (.ref K9) = true) {FI : ClassData} {if1 : Addr} {NW Lf : Option Addr} {NX : Array (Option Value)} {NY Lg Lh Li IS Lj : Value} (Sv : PySem.W.clsIn K qR = some FI) (Sw : FI.mro = [.ref qR, .ref Jk, .type "ValueError", .type "Exception", .type "BaseException", .type "object"]) (Sx : FI.hasDict = true) (ne1 : PySem.W.findIn K (.ref qR) "__setattr__" = some (some (.builtin "object.__setattr__"))) (Sy : PySem.W.takerIn K qR "name" = some none) (Sz : PySem.W.findIn K (.ref qR) "__getattribute__" = some (some (.builtin "BaseException.__getattribute__"))) (SA : PySem.W.findIn K (.ref qR) "__getattr__" = some none) (SD : PySem.W.findIn K (.ref qR) "name" = some none) (SE : PySem.W.findIn K (.ref qR) "__init__" = some (some (.ref if1))) (SG : PySem.W.findIn K (.ref qR) "__class__" = some (some (.builtin "object.__class__"))) (SH : PySem.W.specialIn K (.builtin "object.__class__") "__get__" = some (some (.builtin "getset_descriptor.__get__"))) (SI : PySem.W.takesIn K (.builtin "object.__class__") = some true) (SJ : PySem.W.typeIn K (.ref if1) = some (.type "function")) (SK : CD K qR = true) (PR : K.lookup if1 = some ⟨NY, NW, .func (PySem.W.fnOf "__init__" "Twice.__init__" (aZ fS) (aT fS) (aa fS) .none Lg Lh Li Lf IS Lj), NX⟩) (PU : PySem.W.codeIn K IS "Twice.__init__" = true) (PV : PySem.W.keepIn K (.ref if1) = true) (SM : PySem.W.exmOne K (.ref qQ) (.ref qQ) = some true) (SN : PySem.W.exmOne K (.ref qQ) (.ref qR) = some false) (SO : PySem.W.exmOne K (.ref qR) (.ref qQ) = some false) (SQ : PySem.W.exmOne K (.ref qR) (.ref qR) = some true) (SR : PySem.W.kitOne K (.ref qQ) (.ref Ma) = some false) (SS : PySem.W.kitOne K (.ref qQ) (.ref Mb) = some false) (SV : PySem.W.kitOne K (.ref qQ) (.ref qQ) = some true) (SW : PySem.W.kitOne K (.ref qQ) (.ref Mc) = some false) (SX : PySem.W.kitOne K (.ref qQ) (.ref Me) = some false) (SY : PySem.W.kitOne K (.ref qQ) (.ref Mf) = some false) (S0 : PySem.W.kitOne K (.ref qQ) (.ref Jk) = some true) (S1 : PySem.W.kitOne K (.ref qQ) (.ref Mg) = some false) (S2 : PySem.W.kitOne K (.ref qQ) (.ref qR) = some false) (S3 : PySem.W.kitOne K (.ref qR) (.ref Ma) = some false) (NZ : PySem.W.kitOne K (.ref qR) (.ref Mb) = some false) (N1 : PySem.W.kitOne K (.ref qR) (.ref qQ) = some false) (N2 : PySem.W.kitOne K (.ref qR) (.ref Mc) = some false) (N3 : PySem.W.kitOne K (.ref qR) (.ref Me) = some false) (N4 : PySem.W.kitOne K (.ref qR) (.ref Mf) = some false) (N5 : PySem.W.kitOne K (.ref qR) (.ref Jk) = some true) (N6 : PySem.W.kitOne K (.ref qR) (.ref Mg) = some false) (N7 : PySem.W.kitOne K (.ref qR) (.ref qR) = some true) (S4 : PySem.W.kitOne K (.ref qQ) (.type "ValueError") = some true) (S5 : PySem.W.kitOne K (.ref qR) (.type "ValueError") = some true) : ∃ t, Txt K mg t ∧ ∃ kV dc pm an cd ct, (t.d 11) = PySem.W.fnOf "law" "law" (aZ cU) (aT cU) (aa cU) .none kV dc pm an cd ct := by
  have F0 := fM (st := cA) l0 c0 k0
  have F1 := fM (st := bV) l1 c1 k1
  have F2 := fM (st := aV) l2 c2 k2
  have F3 := fM (st := aC) l3 c3 k3
  have F4 := fM (st := aW) l4 c4 k4
  have F5 := fM (st := bA) l5 c5 k5
  have F6 := fM (st := aP) l6 c6 k6
  have F7 := fM (st := aH) l7 c7 k7
  have F8 := fM (st := aB) l8 c8 k8
  have F9 := fM (st := bC) l9 c9 k9
  have PX := fM (st := aF) RV RW RX
  have PY := fM (st := cU) RZ R0 R1
  exact ⟨⟨fun i => [f0, f1, f2, f3, f4, f5, f6, f7, f8, f9, L7, L8].getD i f0, fun i => [PySem.W.fnOf "sound" "sound" (aZ cA) (aT cA) (aa cA) .none L0 L4 L5 LZ KY L6, PySem.W.fnOf "item_names" "item_names" (aZ bV) (aT bV) (aa bV) .none OR OS OT OQ NC OU, PySem.W.fnOf "refuse_twice" "refuse_twice" (aZ aV) (aT aV) (aa aV) .none OW OX OY OV ND OZ, PySem.W.fnOf "refuse_without_rule" "refuse_without_rule" (aZ aC) (aT aC) (aa aC) .none O1 O2 O3 O0 NF O4, PySem.W.fnOf "_law_draws" "_law_draws" (aZ aW) (aT aW) (aa aW) .none O6 O7 O8 O5 NG O9, PySem.W.fnOf "_law_name" "_law_name" (aZ bA) (aT bA) (aa bA) .none Pc Pd Pe Pb NH Pf, PySem.W.fnOf "_law_unlike" "_law_unlike" (aZ aP) (aT aP) (aa aP) .none Ph Pj Pk Pg NI Pn, PySem.W.fnOf "_law_built" "_law_built" (aZ aH) (aT aH) (aa aH) .none Pp Pq Pr Po NJ Pu, PySem.W.fnOf "_law_spoilt" "_law_spoilt" (aZ aB) (aT aB) (aa aB) .none Px Py Pz Pw NK PB, PySem.W.fnOf "_law_due" "_law_due" (aZ bC) (aT bC) (aa bC) .none PD PF PJ PC NL PK, PySem.W.fnOf "_law_asked" "_law_asked" (aZ aF) (aT aF) (aa aF) .none K0 K1 K2 KZ IM K3, PySem.W.fnOf "law" "law" (aZ cU) (aT cU) (aa cU) .none K5 K6 K7 K4 IP K8].getD i (PySem.W.fnOf "sound" "sound" (aZ cA) (aT cA) (aa cA) .none L0 L4 L5 LZ KY L6), fun i => [Ma, Mb, qQ, Mc, Me, Mf, Jk, Mg, qR].getD i 0, fun i => [K9, if1].getD i 0, fun i => [PySem.W.fnOf "__init__" "NoRule.__init__" (aZ eW) (aT eW) (aa eW) .none Lb Lc Ld La IQ Le, PySem.W.fnOf "__init__" "Twice.__init__" (aZ fS) (aT fS) (aa fS) .none Lg Lh Li Lf IS Lj].getD i (PySem.W.fnOf "sound" "sound" (aZ cA) (aT cA) (aa cA) .none L0 L4 L5 LZ KY L6)⟩, ⟨F0, F0.binds (fun _ _ _ _ _ _ => Af fun _ => rfl), PySem.W.mg_of X G a0, F1, F1.binds (fun _ _ _ _ _ _ => Af fun _ => rfl), PySem.W.mg_of X G a1, F2, F2.binds (fun _ _ _ _ _ _ => Af fun _ => rfl), PySem.W.mg_of X G a2, F3, F3.binds (fun _ _ _ _ _ _ => B9 fun _ _ => rfl), PySem.W.mg_of X G a3, F4, F4.binds (fun _ _ _ _ _ _ => B9 fun _ _ => rfl), PySem.W.mg_of X G a4, F5, F5.binds (fun _ _ _ _ _ _ => Af fun _ => rfl), PySem.W.mg_of X G a5, F6, F6.binds (fun _ _ _ _ _ _ => B9 fun _ _ => rfl), PySem.W.mg_of X G a6, F7, F7.binds (fun _ _ _ _ _ _ => B9 fun _ _ => rfl), PySem.W.mg_of X G a7, F8, F8.binds (fun _ _ _ _ _ _ => NB fun _ _ _ _ => rfl), PySem.W.mg_of X G a8, F9, F9.binds (fun _ _ _ _ _ _ => Af fun _ => rfl), PySem.W.mg_of X G a9, PX, PX.binds (fun _ _ _ _ _ _ => Af fun _ => rfl), PySem.W.mg_of X G RU, PY, PY.binds (fun _ _ _ _ _ _ => Af fun _ => rfl), PySem.W.mg_of X G RY, PySem.W.mg_none_of X G z0, PySem.W.mg_none_of X G z1, PySem.W.mg_none_of X G z2, PySem.W.mg_none_of X G z3, PySem.W.mg_none_of X G z4, PySem.W.mg_none_of X G z5, PySem.W.mg_none_of X G z6, PySem.W.mg_none_of X G z7, PySem.W.mg_of X G R3, PySem.W.mg_of X G R4, PySem.W.mg_of X G R5, PySem.W.mg_of X G R6, PySem.W.mg_of X G R7, PySem.W.mg_of X G R8, PySem.W.mg_of X G R9, PySem.W.mg_of X G Sa, PySem.W.mg_of X G Sb, ⟨⟨FH, Sd, Se, Sf, Sg, Sh, Si, Sj, Sk, Sl, Sm, Sn, So, Sq, Su⟩⟩, fM (st := eW) PL PM PN, (fM (st := eW) PL PM PN).binds (fun _ _ _ _ _ _ => B9 fun _ _ => rfl), ⟨⟨FI, Sv, Sw, Sx, ne1, Sy, Sz, SA, SD, SE, SG, SH, SI, SJ, SK⟩⟩, fM (st := fS) PR PU PV, (fM (st := fS) PR PU PV).binds (fun _ _ _ _ _ _ => B9 fun _ _ => rfl), SM, SN, SO, SQ, SR, SS, SV, SW, SX, SY, S0, S1, S2, S3, NZ, N1, N2, N3, N4, N5, N6, N7, S4, S5⟩, _, _, _, _, _, _, rfl⟩
section
variable {P : Program} {w : World} {K : PySem.W.Frag} {mg : Str → Option Value} {base : Heap} {t : Nz}
theorem IT (T : Txt K mg t) : cV P w K mg base (iL P w) 6 (t.f 11) (t.d 11) ["_law_script"] (dP K mg 1 A8) := by
  have jP := vj (P := P) (w := w) (base := base) T
  have mQ := vm (P := P) (w := w) (base := base) T
  have nO := xD (P := P) (w := w) (base := base) T
  have mR := vn (P := P) (w := w) (base := base) T
  have lg := uD (P := P) (w := w) (base := base) T
  have pQ := yY (P := P) (w := w) (base := base) T
  have kZ := uE (P := P) (w := w) (base := base) T nO
  have j9 := sG (P := P) (w := w) (base := base) T
  have dO := mP (P := P) (w := w) (base := base) T
  have xE := DX (P := P) (w := w) (base := base) T jP j9 dO
  have iy := vp (P := P) (w := w) (base := base) T xE
  have Lk := IK (P := P) (w := w) (base := base) T mQ kZ mR lg pQ iy
  exact Lk
end
end K17
end
section
open PySem PySem.Spec L2 L3
local macro_rules
 | `(tactic| simp! [$a,*]) => `(tactic| simp [gf, jz, AM, Gj, AN, Fv, Fw, tY, yo, KN, AO, Gk, KO, wZ, AQ, sR, yp, dw, yq, tZ, Dr, yr, sS, w4, sU, AR, w6, yt, AS, Dt, AU, AV, yu, Gm, nZ, yw, AW, AX, AY, t6, Gn, AZ, KQ, Gp, A0, A1, A2, Gr, jA, vV, vW, Dz, DA, yD, yE, Gx, DE, vZ, GB, Du, Gs, Gu, yJ, yK, A6, yL, DL, uP, dg, bN, jw, nt, i7, dF, i6, kM, gJ, x9, Ty.is, $a,*])
local macro_rules
 | `(tactic| dsimp! [$a,*]) => `(tactic| simp [gf, jz, AM, Gj, AN, Fv, Fw, tY, yo, KN, AO, Gk, KO, wZ, AQ, sR, yp, dw, yq, tZ, Dr, yr, sS, w4, sU, AR, w6, yt, AS, Dt, AU, AV, yu, Gm, nZ, yw, AW, AX, AY, t6, Gn, AZ, KQ, Gp, A0, A1, A2, Gr, jA, vV, vW, Dz, DA, yD, yE, Gx, DE, vZ, GB, Du, Gs, Gu, yJ, yK, A6, yL, DL, uP, dg, bN, jw, nt, i7, Nx, i6, kM, gJ, x9, Ty.is, $a,*])
section
set_option Elab.async false
set_option linter.all false
set_option maxRecDepth 100000
set_option maxHeartbeats 1000000
namespace K17
open PySem PySem.Spec L2 L3
structure Itm where
 nm : Str
 r : List D
structure lQ where
 nm : Str
 kd : D
 od : D
 its : List Itm
noncomputable def ck (i : Itm) : D := .tup (.str i.nm :: i.r)
noncomputable def bS (r : lQ) : D := .tup [.str r.nm, r.kd, r.od, .tup (r.its.map ck)]
noncomputable def pR (st : Str) (rs : List lQ) : D := .tup [.str st, .tup (rs.map bS)]
noncomputable abbrev gd (x : Str) : Prop := PyData.strOk x = true
structure sH (i : Itm) : Prop where
 nm : gd i.nm
 r : aO i.r = true
structure kh (r : lQ) : Prop where
 nm : gd r.nm
 kd : r.kd.closed = true
 od : r.od.closed = true
 len : r.its.length ≤ 100
 its : ∀ i ∈ r.its, sH i
noncomputable def nms (r : lQ) : List Str := r.its.map (·.nm)
noncomputable def lP (rs : List lQ) : List Str := rs.map (·.nm)
theorem IU {a b c d : D} : ki [a, b, c, d] 3 = some d := jH (j := 3) rfl
theorem rL {a b : D} : ki [a, b] 0 = some a := jH (j := 0) rfl
theorem oh {a b : D} : ki [a, b] 1 = some b := jH (j := 1) rfl
theorem DZ {a : D} {r : List D} : ki (a :: r) 0 = some a := jH (j := 0) rfl
theorem Ll : ∀ {ws : List Str}, (∀ x ∈ ws, gd x) → PyData.canLayAll0 (ws.map PyData.str) = true
 | [], _ => rfl
 | x :: r, h => by
  have h1 : gd x := h x (by simp)
  have h2 := Ll (ws := r) fun y hy => h y (by simp [hy])
  simp only [List.map_cons, PyData.canLayAll0, PyData.canLay0, h2, Bool.and_true]
  exact h1
theorem vq (g : Bool) (t : Str) (ws : List Str) (G : DH) (h : gd t) (hw : ∀ x ∈ ws, gd x) : qY g (.str t) (.con (ws.map .str)) G = .ok (.bl (g ^^ ws.contains t)) G := by
 have e := ym t ws G h (Ll hw)
 have : ws.contains t = ws.any (· == t) := by
  rw [List.contains_eq_any_beq]
  congr 1
  funext x
  by_cases q : x = t
  ·subst q; rfl
  ·rw [beq_false_of_ne q, beq_false_of_ne (Ne.symm q)]
 simp only [qY, bN, e, this]
theorem nP {α : Type} (as : List α) (dat : α → D) (nm : α → Str) (h : ∀ a ∈ as, ∃ r, dat a = .tup (.str (nm a) :: r)) (hl : as.length ≤ 1000) (τ : DS) (G : DH) :
  fG oN [] qg (aM dg (aj 0) (eC (.int 0))) G.length (as.map dat) τ (G ++ [.lst []]) = .ok (.obj G.length) (G ++ [.lst (as.map fun a => .str (nm a))]) := by
 have c1 := rF (τ := τ) (G := G) (gO := oN) (ks := []) (te := aM dg (aj 0) (eC (.int 0))) (own := fun x => [x]) (f := fun d => match d with | .tup (x :: _) => x | _ => .gk) (as.map dat) [] (by simp; omega) (fun x _ => rfl) (fun x hx acc => by
  obtain ⟨a, ha, rfl⟩ := List.mem_map.mp hx
  obtain ⟨r, e⟩ := h a ha
  rw [e]
  simp! [DZ])
 rw [List.nil_append, List.map_map] at c1
 rw [c1]
 congr 3
 congr 1
 refine List.map_congr_left fun a ha => ?_
 obtain ⟨r, e⟩ := h a ha
 simp only [Function.comp_apply, e]
theorem iz (ws : List Str) : aO (ws.map D.str) = true := kr fun _ => cz
theorem y9 (r : lQ) (h : kh r) (G : DH) : fy [bS r] G = .ok (.con ((nms r).map .str)) G := by
 unfold fy
 refine ja ?_ (by rw [iQ]; exact iz _)
 have c1 := nP r.its ck (·.nm) (fun a _ => ⟨a.r, rfl⟩) (by have := h.len; omega) [some (bS r)] G
 have hcl : aO (r.its.map fun a => D.str a.nm) = true := kr fun _ => cz
 unfold jJ
 unfold bS at c1 ⊢
 unfold nms
 rw [List.map_map]
 simp! [IU, c1, dI, iP hcl]
noncomputable def tw (pre : List Str) : List Str → Option Str
 | [] => none
 | x :: r => if pre.contains x = true then some x else tw (pre ++ [x]) r
noncomputable def nr (GF : List Str) : List Str → Option Str
 | [] => none
 | x :: r => if GF.contains x = true then nr GF r else some x
noncomputable abbrev xT (x : Str) : XD := .mk "Twice" [.jV "name" [.str x]]
noncomputable abbrev xN (x : Str) : XD := .mk "NoRule" [.jV "name" [.str x]]
noncomputable def oX (c : Str → XD) (o : Option Str) (G : DH) : Out D := match o with
 | none => .ok .gk G
 | some x => .dG (c x) G
theorem Bb (ws : List Str) (k : Nat) (h : k ≤ ws.length) (hz : ws.length ≤ 1000) (G : DH) : (Cj (.con (ws.map .str)) none (some (k : Int)) G).fw G = .ok (.con ((ws.take k).map .str)) G := by
 have hs : HT.fY (ws.map D.str).length (ws.map D.str).length (some (k : Int)) = k := by
  rw [HT.Au]; simp; omega
 have xg : cutD (ws.map D.str) none (some (k : Int)) = (ws.take k).map .str := by
  unfold cutD
  rw [hs, HT.xS]; simp
 simp only [Cj, bN]
 rw [xg, cT (lz (by simp; omega)) (iz _)]
theorem uF (ws : List Str) (hw : ∀ x ∈ ws, gd x) (hz : ws.length ≤ 1000) (G : DH) : ∀ (pre rest : List Str) (o1 o2 : Option D), pre ++ rest = ws →
  ∃ Co Jl, cN (gP 1 2) cX ((rest.mapIdx fun i x => (i + pre.length, x)).map fun p => .tup [.int (p.1 : Int), .str p.2]) [some (.con (ws.map .str)), o1, o2] G = match tw pre rest with
   | none => .nx [some (.con (ws.map .str)), Co, Jl] G
   | some x => .xn (xT x) [some (.con (ws.map .str)), Co, Jl] G
 | pre, [], o1, o2, e => ⟨o1, o2, by simp [cN, tw]⟩
 | pre, x :: rest, o1, o2, e => by
  have hx : gd x := hw x (by rw [← e]; simp)
  have ht : ws.take pre.length = pre := by rw [← e]; simp
  have s1 := Bb ws pre.length (by rw [← e]; simp) hz G
  rw [ht] at s1
  have i1 := vq false x pre G hx fun y hy => hw y (by rw [← e]; simp [hy])
  rw [List.mapIdx_cons, List.map_cons, cR rfl]
  cases hc : pre.contains x with
  | true =>
   refine ⟨some (.int (pre.length : Int)), some (.str x), ?_⟩
   rw [hc] at i1
   rw [tw, if_pos hc]
   have e1 : cX [some (.con (ws.map .str)), some (.int (pre.length : Int)), some (.str x)] G = .xn (xT x) [some (.con (ws.map .str)), some (.int (pre.length : Int)), some (.str x)] G := by
    unfold cX
    simp! [dI, s1, i1]
   simp only [List.set_cons_succ, List.set_cons_zero, Nat.zero_add, e1, vW]
  | false =>
   rw [hc] at i1
   obtain ⟨a, b, ih⟩ := uF ws hw hz G (pre ++ [x]) rest (some (.int (pre.length : Int))) (some (.str x)) (by rw [← e]; simp)
   refine ⟨a, b, ?_⟩
   rw [tw, if_neg (by rw [hc]; decide), ← ih]
   have e1 : cX [some (.con (ws.map .str)), some (.int (pre.length : Int)), some (.str x)] G = .nx [some (.con (ws.map .str)), some (.int (pre.length : Int)), some (.str x)] G := by
    unfold cX
    simp! [dI, s1, i1]
   simp only [List.set_cons_succ, List.set_cons_zero, Nat.zero_add, e1, jA]
   congr 1
   congr 1
   simp only [List.length_append, List.length_cons, List.length_nil]
   congr 1
   funext i y
   congr 1
   omega
theorem D0 (ws : List Str) (hw : ∀ x ∈ ws, gd x) (hz : ws.length ≤ 1000) (G : DH) : dJ [.con (ws.map .str)] G = oX xT (tw [] ws) G := by
 obtain ⟨a, b, e⟩ := uF ws hw hz G [] ws none none rfl
 have e0 : ((ws.map D.str).mapIdx fun i x => D.tup [.int (i : Int), x]) = (ws.mapIdx fun i x => (i + ([] : List Str).length, x)).map fun p => .tup [.int (p.1 : Int), .str p.2] := by
  refine List.ext_getElem? fun i => ?_
  simp only [List.getElem?_mapIdx, List.getElem?_map]
  cases ws[i]? <;> rfl
 have f := B4 (g := gP 1 2) (body := cX) (xs := ws.map D.str) (τ := [some (.con (ws.map .str)), none, none]) (G := G)
 rw [e0, e] at f
 unfold dJ
 rw [List.length_map] at f
 cases h : tw [] ws with
 | none =>
  rw [h] at f
  refine ja ?_ j4
  unfold fj
  simp! [f]
 | some x =>
  rw [h] at f
  refine nB (R := []) ?_
  rw [List.append_nil]
  unfold fj
  simp! [f]
theorem r6 (ru : List Str) (hr : ∀ x ∈ ru, gd x) (d0 : D) (G : DH) : ∀ (ws : List Str) (o : Option D), (∀ x ∈ ws, gd x) →
  ∃ o', cN (gN 2) bL (ws.map .str) [some d0, some (.con (ru.map .str)), o] G = match nr ru ws with
   | none => .nx [some d0, some (.con (ru.map .str)), o'] G
   | some x => .xn (xN x) [some d0, some (.con (ru.map .str)), o'] G
 | [], o, _ => ⟨o, by simp [cN, nr]⟩
 | x :: ws, o, hw => by
  have i1 := vq true x ru G (hw x (by simp)) hr
  rw [List.map_cons, cR rfl]
  cases hc : ru.contains x with
  | false =>
   refine ⟨some (.str x), ?_⟩
   rw [hc] at i1
   rw [nr, if_neg (by rw [hc]; decide)]
   have e1 : bL [some d0, some (.con (ru.map .str)), some (.str x)] G = .xn (xN x) [some d0, some (.con (ru.map .str)), some (.str x)] G := by
    unfold bL
    simp! [i1]
   simp only [List.set_cons_succ, List.set_cons_zero, e1, vW]
  | true =>
   rw [hc] at i1
   obtain ⟨a, ih⟩ := r6 ru hr d0 G ws (some (.str x)) fun y hy => hw y (by simp [hy])
   refine ⟨a, ?_⟩
   rw [nr, if_pos hc, ← ih]
   have e1 : bL [some d0, some (.con (ru.map .str)), some (.str x)] G = .nx [some d0, some (.con (ru.map .str)), some (.str x)] G := by
    unfold bL
    simp! [i1]
   simp only [List.set_cons_succ, List.set_cons_zero, e1, jA]
theorem wc (ws ru : List Str) (hw : ∀ x ∈ ws, gd x) (hr : ∀ x ∈ ru, gd x) (G : DH) : aQ [.con (ws.map .str), .con (ru.map .str)] G = oX xN (nr ru ws) G := by
 obtain ⟨a, f⟩ := r6 ru hr (.con (ws.map .str)) G ws none hw
 unfold aQ
 cases h : nr ru ws with
 | none =>
  rw [h] at f
  refine ja ?_ j4
  unfold cL
  simp! [f]
 | some x =>
  rw [h] at f
  refine nB (R := []) ?_
  rw [List.append_nil]
  unfold cL
  simp! [f]
end K17
end
section
set_option Elab.async false
set_option linter.all false
set_option maxRecDepth 100000
set_option maxHeartbeats 1000000
namespace K17
open PySem PySem.Spec L2 L3
noncomputable def res (st : Str) (rs : List lQ) : Option (Bool × Str) := match rs.findSome? fun r => tw [] (nms r) with
 | some x => some (true, x)
 | none => match nr (lP rs) [st] with
  | some x => some (false, x)
  | none => (rs.findSome? fun r => nr (lP rs) (nms r)).map fun x => (false, x)
noncomputable def Mh (p : Bool × Str) : XD := if p.1 = true then xT p.2 else xN p.2
noncomputable def Bc : Option (Bool × Str) → List Str
 | none => ["sound", ""]
 | some p => [if p.1 = true then "twice" else "norule", p.2]
structure vt (st : Str) (rs : List lQ) : Prop where
 st : gd st
 len : rs.length ≤ 100
 rs : ∀ r ∈ rs, kh r
theorem xF {r : lQ} (h : kh r) : ∀ x ∈ nms r, gd x := fun x hx => by
 unfold nms at hx
 obtain ⟨i, hi, rfl⟩ := List.mem_map.mp hx
 exact (h.its i hi).nm
theorem D3 {rs : List lQ} (h : ∀ r ∈ rs, kh r) : ∀ x ∈ lP rs, gd x := fun x hx => by
 unfold lP at hx
 obtain ⟨r, hr, rfl⟩ := List.mem_map.mp hx
 exact (h r hr).nm
theorem Bd (d0 : D) (G : DH) : ∀ (rs : List lQ) (o1 o2 : Option D), (∀ r ∈ rs, kh r) →
  ∃ Co, cN (gN 1) lH (rs.map bS) [some d0, o1, o2] G = match rs.findSome? fun r => tw [] (nms r) with
   | none => .nx [some d0, Co, o2] G
   | some x => .xn (xT x) [some d0, Co, o2] G
 | [], o1, o2, _ => ⟨o1, by simp [cN]⟩
 | r :: rs, o1, o2, h => by
  have hr := h r (by simp)
  have n1 := y9 r hr G
  have t1 := D0 (nms r) (xF hr) (by have := hr.len; unfold nms; simp; omega) G
  rw [List.map_cons, cR rfl, List.findSome?_cons]
  cases hc : tw [] (nms r) with
  | none =>
   rw [hc] at t1
   have t2 : dJ [.con ((nms r).map .str)] G = .ok .gk G := t1
   obtain ⟨a, ih⟩ := Bd d0 G rs (some (bS r)) o2 fun y hy => h y (by simp [hy])
   refine ⟨a, ?_⟩
   have e1 : lH [some d0, some (bS r), o2] G = .nx [some d0, some (bS r), o2] G := by
    unfold lH
    simp! [n1, t2]
   simp only [List.set_cons_succ, List.set_cons_zero, e1, jA]
   exact ih
  | some x =>
   rw [hc] at t1
   have t2 : dJ [.con ((nms r).map .str)] G = .dG (xT x) G := t1
   refine ⟨some (bS r), ?_⟩
   have e1 : lH [some d0, some (bS r), o2] G = .xn (xT x) [some d0, some (bS r), o2] G := by
    unfold lH
    simp! [n1, t2]
   simp only [List.set_cons_succ, List.set_cons_zero, e1, vW]
theorem Be (d0 : D) (ru : List Str) (hu : ∀ x ∈ ru, gd x) (G : DH) : ∀ (rs : List lQ) (o1 : Option D), (∀ r ∈ rs, kh r) →
  ∃ Co, cN (gN 1) lI (rs.map bS) [some d0, o1, some (.con (ru.map .str))] G = match rs.findSome? fun r => nr ru (nms r) with
   | none => .nx [some d0, Co, some (.con (ru.map .str))] G
   | some x => .xn (xN x) [some d0, Co, some (.con (ru.map .str))] G
 | [], o1, _ => ⟨o1, by simp [cN]⟩
 | r :: rs, o1, h => by
  have hr := h r (by simp)
  have n1 := y9 r hr G
  have t1 := wc (nms r) ru (xF hr) hu G
  rw [List.map_cons, cR rfl, List.findSome?_cons]
  cases hc : nr ru (nms r) with
  | none =>
   rw [hc] at t1
   have t2 : aQ [.con ((nms r).map .str), .con (ru.map .str)] G = .ok .gk G := t1
   obtain ⟨a, ih⟩ := Be d0 ru hu G rs (some (bS r)) fun y hy => h y (by simp [hy])
   refine ⟨a, ?_⟩
   have e1 : lI [some d0, some (bS r), some (.con (ru.map .str))] G = .nx [some d0, some (bS r), some (.con (ru.map .str))] G := by
    unfold lI
    simp! [n1, t2]
   simp only [List.set_cons_succ, List.set_cons_zero, e1, jA]
   exact ih
  | some x =>
   rw [hc] at t1
   have t2 : aQ [.con ((nms r).map .str), .con (ru.map .str)] G = .dG (xN x) G := t1
   refine ⟨some (bS r), ?_⟩
   have e1 : lI [some d0, some (bS r), some (.con (ru.map .str))] G = .xn (xN x) [some d0, some (bS r), some (.con (ru.map .str))] G := by
    unfold lI
    simp! [n1, t2]
   simp only [List.set_cons_succ, List.set_cons_zero, e1, vW]
noncomputable def oS (o : Option (Bool × Str)) (G : DH) : Out D := match o with
 | none => .ok (.bl true) G
 | some p => .dG (Mh p) G
theorem D4 (st : Str) (rs : List lQ) (h : vt st rs) (G : DH) : kG [pR st rs] G = oS (res st rs) G := by
 have hu := D3 h.rs
 obtain ⟨a, f0⟩ := Bd (pR st rs) G rs none none h.rs
 have c1 := nP rs bS (·.nm) (fun r _ => ⟨_, rfl⟩) (by have := h.len; omega) [some (pR st rs), a, none] G
 have hcl : aO (rs.map fun r => D.str r.nm) = true := kr fun _ => cz
 have N8 : aO [D.str st] = true := by simp [bw, bJ, cz]
 have hfw := cT (G := G) (ds := [D.str st]) (lz (by simp)) N8
 have e0 : (rs.map fun r => D.str r.nm) = (lP rs).map .str := by unfold lP; rw [List.map_map]; rfl
 have n1 := wc [st] (lP rs) (fun x hx => by rw [List.mem_singleton.mp hx]; exact h.st) hu G
 rw [List.map_cons, List.map_nil] at n1
 rw [e0] at c1 hcl
 obtain ⟨b, f1⟩ := Be (pR st rs) (lP rs) hu G rs a h.rs
 unfold res
 unfold kG
 have d0 : pR st rs = .tup [.str st, .tup (rs.map bS)] := rfl
 cases h0 : rs.findSome? fun r => tw [] (nms r) with
 | some x =>
  rw [h0] at f0
  refine nB (R := []) ?_
  rw [List.append_nil]
  rw [d0] at f0 ⊢
  unfold mF
  generalize rs.map bS = Rs at f0 ⊢
  simp! [oh, f0, Mh]
 | none =>
  rw [h0] at f0
  cases h1 : nr (lP rs) [st] with
  | some x =>
   rw [h1] at n1
   have n2 : aQ [.con [.str st], .con ((lP rs).map .str)] G = .dG (xN x) G := n1
   refine nB (R := []) ?_
   rw [List.append_nil]
   rw [d0] at f0 c1 ⊢
   unfold mF qy qx
   generalize rs.map bS = Rs at f0 c1 ⊢
   generalize (lP rs).map D.str = Ns at n2 c1 hcl ⊢
   simp! [oh, rL, f0, c1, dI, iP hcl, hfw, n2, Mh]
  | none =>
   rw [h1] at n1
   have n2 : aQ [.con [.str st], .con ((lP rs).map .str)] G = .ok .gk G := n1
   cases h2 : rs.findSome? fun r => nr (lP rs) (nms r) with
   | some x =>
    rw [h2] at f1
    refine nB (R := []) ?_
    rw [List.append_nil]
    rw [d0] at f0 f1 c1 ⊢
    unfold mF qy qx
    generalize rs.map bS = Rs at f0 f1 c1 ⊢
    generalize (lP rs).map D.str = Ns at n2 c1 f1 hcl ⊢
    simp! [oh, rL, f0, c1, dI, iP hcl, hfw, n2, f1, Mh]
   | none =>
    rw [h2] at f1
    refine ja ?_ jS
    rw [d0] at f0 f1 c1 ⊢
    unfold mF qy qx
    generalize rs.map bS = Rs at f0 f1 c1 ⊢
    generalize (lP rs).map D.str = Ns at n2 c1 f1 hcl ⊢
    simp! [oh, rL, f0, c1, dI, iP hcl, hfw, n2, f1]
end K17
end
section
set_option Elab.async false
set_option linter.all false
set_option maxRecDepth 100000
set_option maxHeartbeats 1000000
namespace K17
open PySem PySem.Spec L2 L3
theorem PZ (a b : Bool) : List.lookup ("NoRule" : Str) [("NoRule", a), ("Twice", b)] = some a := by cases a <;> cases b <;> decide +kernel
theorem P4 (a b : Bool) : List.lookup ("Twice" : Str) [("NoRule", a), ("Twice", b)] = some b := by cases a <;> cases b <;> decide +kernel
theorem S6 (a b : Bool) (x : Str) (G : DH) : iC (fun n => List.lookup n [("NoRule", a), ("Twice", b)]) (.jV "NoRule" [.jV "name" [.str x]]) G = .ok (.bl a) G := DK (PZ a b)
theorem S7 (a b : Bool) (x : Str) (G : DH) : iC (fun n => List.lookup n [("NoRule", a), ("Twice", b)]) (.jV "Twice" [.jV "name" [.str x]]) G = .ok (.bl b) G := DK (P4 a b)
theorem S8 (x : Str) (G : DH) : FA (fun n => (["NoRule", "Twice"] : List Str).contains n) (.jV "NoRule" [.jV "name" [.str x]]) G = .ok (.str x) G := by rw [A6, if_pos (by decide +kernel)]
theorem S9 (x : Str) (G : DH) : FA (fun n => (["NoRule", "Twice"] : List Str).contains n) (.jV "Twice" [.jV "name" [.str x]]) G = .ok (.str x) G := by rw [A6, if_pos (by decide +kernel)]
theorem D5 (G : DH) : qY false (.bl true) (.con [.bl false, .bl false, .bl false, .bl false, .bl false, .bl false]) G = .ok (.bl false) G := rfl
theorem Lm (a b c d : D) (G : DH) (h : aO [b, c] = true) : (Cj (.con [a, b, c, d]) (some 1) (some 3) G).fw G = .ok (.con [b, c]) G := by
 have hs : HT.fY 4 4 (some 3) = 3 := by decide
 have hl : HT.fY 4 0 (some 1) = 1 := by decide
 have xg : cutD [a, b, c, d] (some 1) (some 3) = [b, c] := by
  unfold cutD
  simp only [List.length_cons, List.length_nil, Nat.zero_add, hs, hl]
  rfl
 simp only [Cj, bN]
 rw [xg, cT (lz (by simp)) h]
theorem za (st : Str) (rs : List lQ) (h : vt st rs) (G : DH) : cB [pR st rs] G = .ok (.con ((Bc (res st rs)).map .str)) G := by
 have s1 := D4 st rs h G
 unfold cB
 have c2 : ∀ (a b : Str), aO [D.str a, .str b] = true := fun a b => by simp [bw, bJ, cz]
 refine ja ?_ (by rw [iQ]; exact iz _)
 generalize pR st rs = sh at s1 ⊢
 cases hr : res st rs with
 | none =>
  rw [hr] at s1
  have s2 : kG [sh] G = .ok (.bl true) G := s1
  have f1 := cT (G := G) (ds := [D.str "sound", .str ""]) (lz (by simp)) (c2 _ _)
  unfold fC
  simp! [s2, yI, dI, f1, Bc]
 | some p =>
  rw [hr] at s1
  obtain ⟨b, x⟩ := p
  have c4 : ∀ (w : Str), aO [D.bl false, .str w, .str x, .bl true] = true := fun w => by simp [bw, bJ, cz, jS]
  have c5 : aO [D.bl false, .bl false, .bl false, .bl false] = true := by simp [bw, bJ, jS]
  have c6 : aO [D.bl false, .bl false] = true := by simp [bw, bJ, jS]
  have c7 : aO [D.bl false, .bl false, .bl false, .bl false, .bl false, .bl false] = true := by simp [bw, bJ, jS]
  have g5 := cT (G := G) (lz (by simp)) c5
  have g6 := cT (G := G) (lz (by simp)) c6
  have g7 := cT (G := G) (lz (by simp)) c7
  cases b with
  | true =>
   have s2 : kG [sh] G = .dG (xT x) G := s1
   have g4 := cT (G := G) (lz (by simp)) (c4 "twice")
   have g8 := Lm (.bl false) (.str "twice") (.str x) (.bl true) G (c2 _ _)
   unfold fC oF kR
   simp! [s2, P4, S7, S9, dI, g4, g5, g6, g7, g8, sf, DZ, IU, D5, Bc]
  | false =>
   have s2 : kG [sh] G = .dG (xN x) G := s1
   have g4 := cT (G := G) (lz (by simp)) (c4 "norule")
   have g8 := Lm (.bl false) (.str "norule") (.str x) (.bl true) G (c2 _ _)
   unfold fC oE kR
   simp! [s2, PZ, S6, S8, dI, g4, g5, g6, g7, g8, sf, DZ, IU, D5, Bc]
theorem D6 (xs : List D) (k : Nat) (h : k < xs.length) (hz : xs.length ≤ 1000) (G : DH) : Cj (.tup xs) none (some (k : Int)) G = .ok (.tup (xs.take k)) G := by
 simp only [Cj, bN]
 have hs : HT.fY xs.length xs.length (some (k : Int)) = k := by
  rw [HT.Au]; omega
 rw [if_neg (by rw [hs]; omega), i6]
 have xg : cutD xs none (some (k : Int)) = xs.take k := by
  unfold cutD
  rw [hs, HT.xS]; simp
 rw [xg, if_pos (lz (by simp; omega))]
noncomputable abbrev aD (w x : Str) : D := .con [.str w, .str x]
theorem c2 (a b : Str) : aO [D.str a, .str b] = true := by simp [bw, bJ, cz]
theorem we (nm : Str) (kd od : D) (its : List Itm) (hi : ∀ i ∈ its, sH i) (hl : its.length ≤ 100) (sh : D) (G : DH) : ∀ (pre rest : List Itm) (o2 : Option D), pre ++ rest = its →
  ∃ Jl, cN (gN 2) gu ((List.range' pre.length rest.length).map fun (k : Nat) => .int (0 + (k : Int))) [some sh, some (bS ⟨nm, kd, od, its⟩), o2, none, none] G = match tw (pre.map (·.nm)) (rest.map (·.nm)) with
   | none => .nx [some sh, some (bS ⟨nm, kd, od, its⟩), Jl, none, none] G
   | some x => .rt (aD "twice" x) G
 | pre, [], o2, e => ⟨o2, by simp [cN, tw]⟩
 | pre, i :: rest, o2, e => by
  have hx : gd i.nm := (hi i (by rw [← e]; simp)).nm
  have hk : pre.length < its.length := by rw [← e]; simp
  have ht : its.take pre.length = pre := by rw [← e]; simp
  have a1 : ki (its.map ck) (pre.length : Int) = some (ck i) := jH (by rw [List.getElem?_map, ← e]; simp)
  have s1 := D6 (its.map ck) pre.length (by simpa using hk) (by simp; omega) G
  rw [← List.map_take, ht] at s1
  have c1 := nP pre ck (·.nm) (fun a _ => ⟨a.r, rfl⟩) (by omega) [some sh, some (bS ⟨nm, kd, od, its⟩), some (.int (pre.length : Int)), none, none] G
  have i1 := vq false i.nm (pre.map (·.nm)) G hx fun y hy => by
   obtain ⟨j, hj, rfl⟩ := List.mem_map.mp hy
   exact (hi j (by rw [← e]; simp [hj])).nm
  have hcl : aO ((pre.map (·.nm)).map D.str) = true := iz _
  rw [show (pre.map fun a => D.str a.nm) = (pre.map (·.nm)).map .str by rw [List.map_map]; rfl] at c1
  have f1 := cT (G := G) (ds := [D.str "twice", .str i.nm]) (lz (by simp)) (c2 _ _)
  rw [List.length_cons, List.range'_succ, List.map_cons, cR rfl, List.map_cons]
  have d0 : bS ⟨nm, kd, od, its⟩ = .tup [.str nm, kd, od, .tup (its.map ck)] := rfl
  have d1 : ck i = .tup (.str i.nm :: i.r) := rfl
  cases hc : (pre.map (·.nm)).contains i.nm with
  | true =>
   refine ⟨o2, ?_⟩
   rw [hc] at i1
   rw [tw, if_pos hc]
   have e1 : gu [some sh, some (bS ⟨nm, kd, od, its⟩), some (.int (pre.length : Int)), none, none] G = .rt (aD "twice" i.nm) G := by
    rw [d1] at a1
    rw [d0] at c1 ⊢
    unfold gu
    generalize its.map ck = Is at a1 s1 c1 ⊢
    generalize pre.map ck = Ps at s1 c1
    generalize (pre.map (·.nm)).map D.str = Ns at c1 i1 hcl
    simp! [IU, DZ, a1, s1, dI, c1, iP hcl, i1, f1]
   simp only [List.set_cons_succ, List.set_cons_zero, Int.zero_add, e1, vV]
  | false =>
   rw [hc] at i1
   obtain ⟨a, ih⟩ := we nm kd od its hi hl sh G (pre ++ [i]) rest (some (.int (pre.length : Int))) (by rw [← e]; simp)
   refine ⟨a, ?_⟩
   rw [tw, if_neg (by rw [hc]; decide)]
   rw [List.map_append, List.map_cons, List.map_nil, List.length_append, List.length_cons, List.length_nil, Nat.zero_add] at ih
   rw [← ih]
   have e1 : gu [some sh, some (bS ⟨nm, kd, od, its⟩), some (.int (pre.length : Int)), none, none] G = .nx [some sh, some (bS ⟨nm, kd, od, its⟩), some (.int (pre.length : Int)), none, none] G := by
    rw [d1] at a1
    rw [d0] at c1 ⊢
    unfold gu
    generalize its.map ck = Is at a1 s1 c1 ⊢
    generalize pre.map ck = Ps at s1 c1
    generalize (pre.map (·.nm)).map D.str = Ns at c1 i1 hcl
    simp! [IU, DZ, a1, s1, dI, c1, iP hcl, i1, f1]
   simp only [List.set_cons_succ, List.set_cons_zero, Int.zero_add, e1, jA]
theorem wg (sh : D) (G : DH) : ∀ (rs : List lQ) (o1 o2 : Option D), (∀ r ∈ rs, kh r) →
  ∃ Co Jl, cN (gN 1) kB (rs.map bS) [some sh, o1, o2, none, none] G = match rs.findSome? fun r => tw [] (nms r) with
   | none => .nx [some sh, Co, Jl, none, none] G
   | some x => .rt (aD "twice" x) G
 | [], o1, o2, _ => ⟨o1, o2, by simp [cN]⟩
 | r :: rs, o1, o2, h => by
  have hr := h r (by simp)
  obtain ⟨nm, kd, od, its⟩ := r
  have hl : its.length ≤ 100 := hr.len
  obtain ⟨b, l1⟩ := we nm kd od its hr.its hl sh G [] its o2 rfl
  rw [List.map_cons, cR rfl, List.findSome?_cons]
  have D7 := nY (j := (its.length : Int)) (by omega) (by omega)
  rw [Int.toNat_natCast] at D7
  rw [List.length_nil, List.map_nil] at l1
  have en : nms ⟨nm, kd, od, its⟩ = its.map (·.nm) := rfl
  rw [← en] at l1
  have e1 : kB [some sh, some (bS ⟨nm, kd, od, its⟩), o2, none, none] G = match tw [] (nms ⟨nm, kd, od, its⟩) with
   | none => .nx [some sh, some (bS ⟨nm, kd, od, its⟩), b, none, none] G
   | some x => .rt (aD "twice" x) G := by
   rw [← l1]
   unfold kB
   generalize ((List.range' 0 its.length).map fun (k : Nat) => D.int (0 + (k : Int))) = ks at D7
   unfold bS
   have hlen : (its.map ck).length = its.length := by simp
   rw [← hlen] at D7
   generalize its.map ck = Is at D7 ⊢
   simp! [IU, D7]
  simp only [List.set_cons_succ, List.set_cons_zero, e1]
  cases hc : tw [] (nms ⟨nm, kd, od, its⟩) with
  | none =>
   obtain ⟨a, c, ih⟩ := wg sh G rs (some (bS ⟨nm, kd, od, its⟩)) b fun y hy => h y (by simp [hy])
   refine ⟨a, c, ?_⟩
   simp only [jA]
   exact ih
  | some x => exact ⟨o1, o2, by simp only [vV]⟩
theorem wj (sh ru : D) (kn : List Str) (hu : ∀ x ∈ kn, gd x) (G : DH) (o2 : Option D) : ∀ (its : List Itm) (o4 : Option D), (∀ i ∈ its, sH i) →
  ∃ D8, cN (gN 4) gw (its.map ck) [some sh, some ru, o2, some (.con (kn.map .str)), o4] G = match nr kn (its.map (·.nm)) with
   | none => .nx [some sh, some ru, o2, some (.con (kn.map .str)), D8] G
   | some x => .rt (aD "norule" x) G
 | [], o4, _ => ⟨o4, by simp [cN, nr]⟩
 | i :: its, o4, h => by
  have i1 := vq true i.nm kn G (h i (by simp)).nm hu
  have f1 := cT (G := G) (ds := [D.str "norule", .str i.nm]) (lz (by simp)) (c2 _ _)
  rw [List.map_cons, cR rfl, List.map_cons]
  have d1 : ck i = .tup (.str i.nm :: i.r) := rfl
  cases hc : kn.contains i.nm with
  | false =>
   rw [hc] at i1
   refine ⟨o4, ?_⟩
   rw [nr, if_neg (by rw [hc]; decide)]
   have e1 : gw [some sh, some ru, o2, some (.con (kn.map .str)), some (ck i)] G = .rt (aD "norule" i.nm) G := by
    rw [d1]
    unfold gw
    simp! [DZ, i1, dI, f1]
   simp only [List.set_cons_succ, List.set_cons_zero, e1, vV]
  | true =>
   rw [hc] at i1
   obtain ⟨a, ih⟩ := wj sh ru kn hu G o2 its (some (ck i)) fun y hy => h y (by simp [hy])
   refine ⟨a, ?_⟩
   rw [nr, if_pos hc, ← ih]
   have e1 : gw [some sh, some ru, o2, some (.con (kn.map .str)), some (ck i)] G = .nx [some sh, some ru, o2, some (.con (kn.map .str)), some (ck i)] G := by
    rw [d1]
    unfold gw
    simp! [DZ, i1, dI, f1]
   simp only [List.set_cons_succ, List.set_cons_zero, e1, jA]
theorem wk (sh : D) (kn : List Str) (hu : ∀ x ∈ kn, gd x) (G : DH) (o2 : Option D) : ∀ (rs : List lQ) (o1 o4 : Option D), (∀ r ∈ rs, kh r) →
  ∃ Co D8, cN (gN 1) kC (rs.map bS) [some sh, o1, o2, some (.con (kn.map .str)), o4] G = match rs.findSome? fun r => nr kn (nms r) with
   | none => .nx [some sh, Co, o2, some (.con (kn.map .str)), D8] G
   | some x => .rt (aD "norule" x) G
 | [], o1, o4, _ => ⟨o1, o4, by simp [cN]⟩
 | r :: rs, o1, o4, h => by
  have hr := h r (by simp)
  obtain ⟨b, l1⟩ := wj sh (bS r) kn hu G o2 r.its o4 hr.its
  rw [List.map_cons, cR rfl, List.findSome?_cons]
  have en : nms r = r.its.map (·.nm) := rfl
  rw [← en] at l1
  have e1 : kC [some sh, some (bS r), o2, some (.con (kn.map .str)), o4] G = match nr kn (nms r) with
   | none => .nx [some sh, some (bS r), o2, some (.con (kn.map .str)), b] G
   | some x => .rt (aD "norule" x) G := by
   rw [← l1]
   unfold kC
   unfold bS
   generalize r.its.map ck = Is
   simp! [IU]
  simp only [List.set_cons_succ, List.set_cons_zero, e1]
  cases hc : nr kn (nms r) with
  | none =>
   obtain ⟨a, c, ih⟩ := wk sh kn hu G o2 rs (some (bS r)) b fun y hy => h y (by simp [hy])
   refine ⟨a, c, ?_⟩
   simp only [jA]
   exact ih
  | some x => exact ⟨o1, o4, by simp only [vV]⟩
theorem IV (st : Str) (rs : List lQ) (h : vt st rs) (G : DH) : iS [pR st rs] G = .ok (.con ((Bc (res st rs)).map .str)) G := by
 have hu := D3 h.rs
 obtain ⟨a, b, f0⟩ := wg (pR st rs) G rs none none h.rs
 have cc := nP rs bS (·.nm) (fun r _ => ⟨_, rfl⟩) (by have := h.len; omega) [some (pR st rs), a, b, none, none] G
 have hcl : aO ((lP rs).map D.str) = true := iz _
 have e0 : (rs.map fun r => D.str r.nm) = (lP rs).map .str := by unfold lP; rw [List.map_map]; rfl
 rw [e0] at cc
 have i1 := vq true st (lP rs) G h.st hu
 obtain ⟨a2, b2, f1⟩ := wk (pR st rs) (lP rs) hu G b rs a none h.rs
 have g1 := cT (G := G) (ds := [D.str "sound", .str ""]) (lz (by simp)) (c2 _ _)
 have g2 := cT (G := G) (ds := [D.str "norule", .str st]) (lz (by simp)) (c2 _ _)
 unfold iS
 refine ja ?_ (by rw [iQ]; exact iz _)
 unfold res
 have d0 : pR st rs = .tup [.str st, .tup (rs.map bS)] := rfl
 rw [d0] at f0 f1 cc ⊢
 cases h0 : rs.findSome? fun r => tw [] (nms r) with
 | some x =>
  rw [h0] at f0
  unfold gg
  generalize rs.map bS = Rs at f0 ⊢
  simp! [oh, f0, Bc]
 | none =>
  rw [h0] at f0
  cases h1 : (lP rs).contains st with
  | false =>
   rw [h1] at i1
   have h2 : nr (lP rs) [st] = some st := by rw [nr, if_neg (by rw [h1]; decide)]
   rw [h2]
   unfold gg kF kD
   generalize rs.map bS = Rs at f0 cc ⊢
   generalize (lP rs).map D.str = Ns at i1 cc hcl ⊢
   simp! [oh, rL, f0, cc, dI, iP hcl, i1, g2, Bc]
  | true =>
   rw [h1] at i1
   have h2 : nr (lP rs) [st] = none := by rw [nr, if_pos h1]; rfl
   rw [h2]
   cases h3 : rs.findSome? fun r => nr (lP rs) (nms r) with
   | some x =>
    rw [h3] at f1
    unfold gg kF kD
    generalize rs.map bS = Rs at f0 f1 cc ⊢
    generalize (lP rs).map D.str = Ns at i1 cc f1 hcl ⊢
    simp! [oh, rL, f0, cc, dI, iP hcl, i1, f1, Bc]
   | none =>
    rw [h3] at f1
    unfold gg kF kD
    generalize rs.map bS = Rs at f0 f1 cc ⊢
    generalize (lP rs).map D.str = Ns at i1 cc f1 hcl ⊢
    simp! [oh, rL, f0, cc, dI, iP hcl, i1, f1, g1, Bc]
end K17
end
section
set_option Elab.async false
set_option linter.all false
set_option maxRecDepth 100000
set_option maxHeartbeats 1000000
namespace K17
open PySem PySem.Spec L2 L3
theorem Ca (ns pre : List Int) (G : DH) (k : Nat) (m : Int) (c : Option D) (hl : ns.length ≤ 63) (hp : pre.length ≤ 1000) :
  ∃ (x : Int) (c' : Option D), fT [some (.con (ns.map .int)), some (.int m), some (.obj G.length), some (.int (0 + (k : Int))), c] (G ++ [.lst (pre.map .int)]) =
   .nx [some (.con (ns.map .int)), some (.int m), some (.obj G.length), some (.int (0 + (k : Int))), c'] (G ++ [.lst ((pre ++ [x]).map .int)]) := by
 have P5 : pre.length < sizeLine := Nat.lt_of_lt_of_le (by omega) (lz (n := 2000) (by omega))
 by_cases h0 : 0 < ns.length
 ·have hm : (0 : Int) ≤ (k : Int) % (ns.length : Int) ∧ (k : Int) % (ns.length : Int) < ns.length := ⟨Int.emod_nonneg _ (by omega), Int.emod_lt_of_pos _ (by omega)⟩
  obtain ⟨d, ed, Tc⟩ := ny (xs := ns.map D.int) (i := (k : Int) % (ns.length : Int)) hm.1 (by simpa using hm.2)
  obtain ⟨v, ev⟩ : ∃ v, d = .int v := by
   have := List.mem_of_getElem? Tc
   simp at this
   obtain ⟨v, _, rfl⟩ := this
   exact ⟨v, rfl⟩
  subst ev
  have Td : (if 1 < ns.length then (ns.length : Int) else 1) = ns.length := by split <;> omega
  have hlt : ns.length < 1073741824 := by omega
  have N9 : (if (1 : Int) < (ns.length : Int) then (ns.length : Int) else 1) = ns.length := by split <;> omega
  have Oa : (ns.length : Int) < 1073741824 := by omega
  have Tf : (0 : Int) < (ns.length : Int) := by omega
  refine ⟨v % 1000000000000000000 + 7919 * ((k : Int) / (ns.length : Int)), some (.int (v % 1000000000000000000)), ?_⟩
  simp! [fT, h0, ed, Td, hlt, P5, N9, Oa, Tf, zj, BY]
 ·have h1 : ns = [] := by
   cases ns with
   | nil => rfl
   | cons a r => exact absurd (by simp) h0
  subst h1
  refine ⟨0 + 7919 * ((k : Int) / 1), some (.int 0), ?_⟩
  simp! [fT, P5, zj, BY]
theorem uG (ns : List Int) (G : DH) (mm : Int) (hl : ns.length ≤ 63) : ∀ (m j : Nat) (pre : List Int) (a3 a4 : Option D), pre.length + m ≤ 1000 →
  ∃ (ds : List Int) (b3 b4 : Option D), ds.length = m ∧ cN (gN 3) fT ((List.range' j m).map fun (k : Nat) => .int (0 + (k : Int))) [some (.con (ns.map .int)), some (.int mm), some (.obj G.length), a3, a4] (G ++ [.lst (pre.map .int)]) =
   .nx [some (.con (ns.map .int)), some (.int mm), some (.obj G.length), b3, b4] (G ++ [.lst ((pre ++ ds).map .int)])
 | 0, j, pre, a3, a4, h => ⟨[], a3, a4, rfl, by simp [cN]⟩
 | m + 1, j, pre, a3, a4, h => by
  obtain ⟨x, c', e⟩ := Ca ns pre G j mm a4 hl (by omega)
  obtain ⟨ds, b3, b4, hd, ih⟩ := uG ns G mm hl m (j + 1) (pre ++ [x]) (some (.int (0 + (j : Int)))) c' (by simp; omega)
  refine ⟨x :: ds, b3, b4, by simp [hd], ?_⟩
  rw [List.range'_succ, List.map_cons, cR rfl]
  simp only [List.set_cons_succ, List.set_cons_zero, e, jA]
  rw [ih]
  simp
theorem D9 (ns : List Int) (m : Nat) (hm : m ≤ 900) (hl : ns.length ≤ 63) (G : DH) : ∃ ds : List Int, ds.length = m ∧ fB [.con (ns.map .int), .int m] G = .ok (.con (ds.map .int)) G := by
 obtain ⟨ds, b3, b4, hd, e⟩ := uG ns G m hl m 0 [] none none (by simp; omega)
 refine ⟨ds, hd, ?_⟩
 have hr := nY (j := (m : Int)) (by omega) (by omega)
 rw [Int.toNat_natCast] at hr
 unfold fB
 refine qu (R := [.dead]) ?_ (by rw [iQ]; exact kr fun _ => iR)
 generalize ((List.range' 0 m).map fun (k : Nat) => D.int (0 + (k : Int))) = its at hr e
 simp only [List.map_nil, List.nil_append] at e
 simp! [jK, hr, e, yD, di]
noncomputable def lets : Str := "abcdefghijklmnopqrstuvwxyz"
theorem Bf (i : Int) (G : DH) : ∃ s, dg (.str lets) (.int (i % 26)) G = .ok (.str s) G ∧ PyData.strOk s = true ∧ s.length = 1 :=
 ID lets (i % 26) G (by omega) (by show i % 26 < ((26 : Nat) : Int); omega) (by decide +kernel) (by decide +kernel)
theorem wm (c : Int) (G : DH) : ∀ (m j : Nat) (t : Str) (a3 a4 a5 : Option D), j + m ≤ 7 → PyData.strOk t = true → t.length ≤ j + 1 →
  ∃ (u : Str) (b3 b4 : Option D), PyData.strOk u = true ∧ u.length ≤ j + m + 1 ∧ cN (gN 3) gR ((List.range' j m).map fun (k : Nat) => .int (0 + (k : Int))) [some (.int c), some (.str lets), some (.str t), a3, a4, a5] G = .nx [some (.int c), some (.str lets), some (.str u), b3, b4, a5] G
 | 0, j, t, a3, a4, a5, h, k1, k2 => ⟨t, a3, a4, k1, by omega, by simp [cN]⟩
 | m + 1, j, t, a3, a4, a5, h, k1, k2 => by
  obtain ⟨s, es, ks, ls⟩ := Bf (c / 208 + 7 * (j : Int) * (j : Int) + c / 5408 % 26 * (j : Int)) G
  have hz : t.length + s.length ≤ sizeLine := lz (by omega)
  have hz2 : t.length + 1 ≤ sizeLine := lz (by omega)
  have hjl : -18446744073709551616 < (j : Int) := by omega
  have Tg : (j : Int) < 18446744073709551616 := by omega
  have e : gR [some (.int c), some (.str lets), some (.str t), some (.int (0 + (j : Int))), a4, a5] G = .nx [some (.int c), some (.str lets), some (.str (t ++ s)), some (.int (0 + (j : Int))), some (.int (c / 208 + 7 * (j : Int) * (j : Int) + c / 5408 % 26 * (j : Int))), a5] G := by
   simp [gR, gf, tY, yr, tZ, Dr, yp, dw, jw, yq, dF, yo, jz, es, hz, hz2, ls, hjl, Tg]
  obtain ⟨u, b3, b4, ku, lu, ih⟩ := wm c G m (j + 1) (t ++ s) (some (.int (0 + (j : Int)))) (some (.int (c / 208 + 7 * (j : Int) * (j : Int) + c / 5408 % 26 * (j : Int)))) a5 (by omega) (good_add k1 ks) (by rw [sQ]; omega)
  refine ⟨u, b3, b4, ku, by omega, ?_⟩
  rw [List.range'_succ, List.map_cons, cR rfl]
  simp only [List.set_cons_succ, List.set_cons_zero, e, jA]
  rw [ih]
theorem FJ (c : Int) (G : DH) : ∃ t : Str, PyData.strOk t = true ∧ t.length ≤ 9 ∧ gr [.int c] G = .ok (.str t) G := by
 obtain ⟨s, es, ks, ls⟩ := Bf c G
 obtain ⟨u, b3, b4, ku, lu, e⟩ := wm c G (c / 26 % 8).toNat 0 s none none none (by omega) ks (by omega)
 have hr := nY (j := c / 26 % 8) (by omega) (by omega)
 generalize ((List.range' 0 (c / 26 % 8).toNat).map fun (k : Nat) => D.int (0 + (k : Int))) = its at hr e
 have hz : u.length + ("z" : Str).length ≤ sizeLine := by
  have : ("z" : Str).length = 1 := by decide +kernel
  exact lz (by omega)
 have hin := ym u ["start", "rule", "row", "mix", "many", "any", "kind", "not", "both", "either", "way", "mark"] G ku (by decide +kernel)
 have hcl : aO [D.str "start", .str "rule", .str "row", .str "mix", .str "many", .str "any", .str "kind", .str "not", .str "both", .str "either", .str "way", .str "mark"] = true := by simp [bw, bJ, cz]
 have hfw := cT (G := G) (ds := [D.str "start", .str "rule", .str "row", .str "mix", .str "many", .str "any", .str "kind", .str "not", .str "both", .str "either", .str "way", .str "mark"]) (lz (by simp)) hcl
 generalize (["start", "rule", "row", "mix", "many", "any", "kind", "not", "both", "either", "way", "mark"] : List Str).any (· == u) = bb at hin
 simp only [List.map_cons, List.map_nil] at hin
 have es' : dg (.str "abcdefghijklmnopqrstuvwxyz") (.int (c % 26)) G = .ok (.str s) G := es
 have e' : cN (gN 3) gR its [some (.int c), some (.str "abcdefghijklmnopqrstuvwxyz"), some (.str s), none, none, none] G = .nx [some (.int c), some (.str "abcdefghijklmnopqrstuvwxyz"), some (.str u), b3, b4, none] G := e
 have hz1 : PyData.strOk ("z" : Str) = true := by decide +kernel
 have T5 : ("z" : Str).length = 1 := by decide +kernel
 cases bb with
 | true =>
  refine ⟨u ++ "z", good_add ku hz1, by rw [sQ]; omega, ?_⟩
  unfold gr
  refine ja ?_ cz
  simp [jb, t6, gf, tY, yr, tZ, Dr, yp, dw, jw, yq, dF, yo, jz, es', nZ, sU, w4, AX, hr, e', mC, dI, sS, hfw, AN, AR, qY, bN, hin, w6, Fv, Fw, wZ, hz, AQ, AM, AZ, sR]
 | false =>
  refine ⟨u, ku, by omega, ?_⟩
  unfold gr
  refine ja ?_ cz
  simp [jb, t6, gf, tY, yr, tZ, Dr, yp, dw, jw, yq, dF, yo, jz, es', nZ, sU, w4, AX, hr, e', mC, dI, sS, hfw, AN, AR, qY, bN, hin, w6, Fv, Fw, wZ, hz, AQ, AM, AZ, sR]
theorem zb : ∀ (l m : List Str), l.Nodup → (∀ x ∈ l, x ∈ m) → l.length ≤ m.length
 | [], _, _, _ => by simp
 | x :: l, m, hn, hs => by
  obtain ⟨h1, h2⟩ := List.nodup_cons.mp hn
  have ih := zb l (m.erase x) h2 fun y hy => (List.mem_erase_of_ne (fun e => h1 (by rw [← e]; exact hy))).mpr (hs y (by simp [hy]))
  have hx := hs x (by simp)
  have := List.length_erase_of_mem hx
  have := List.length_pos_of_mem hx
  simp only [List.length_cons]
  omega
theorem Ln (g : Bool) (t : Str) (ws : List Str) (G : DH) (n : Nat) (hg : G[n]? = some (.lst (ws.map .str))) (h : gd t) (hw : ∀ x ∈ ws, gd x) : qY g (.str t) (.obj n) G = .ok (.bl (g ^^ ws.contains t)) G := by
 have := vq g t ws G h hw
 simp only [qY, bN, hg] at this ⊢
 exact this
noncomputable def jG : List Str := ["qa", "qb", "qc", "qd", "qe", "qf", "qg", "qh"]
theorem zc : ∀ x ∈ jG, gd x := by decide +kernel
theorem Cb : ∀ x ∈ jG, x.length ≤ 9 := by decide +kernel
theorem Ea : jG.Nodup := by decide +kernel
theorem atS (ws : List Str) (k : Nat) (x : Str) (h : ws[k]? = some x) : ki (ws.map D.str) (k : Int) = some (.str x) := jH (by rw [List.getElem?_map, h]; rfl)
noncomputable abbrev gs (x : Str) : Prop := gd x ∧ x.length ≤ 9
theorem zd (ds : List Int) (hd : ds.length = 24) (G : DH) (pre : List Str) (hp : pre.length ≤ 7) (hw : ∀ x ∈ pre, gs x) (o4 o5 : Option D) :
  ∃ (x : Str) (D8 IW : Option D), gs x ∧ fh [some (.con (ds.map .int)), some (.int 8), some (.obj G.length), some (.int (0 + (pre.length : Int))), o4, o5] (G ++ [.lst (pre.map .str)]) =
   .nx [some (.con (ds.map .int)), some (.int 8), some (.obj G.length), some (.int (0 + (pre.length : Int))), D8, IW] (G ++ [.lst ((pre ++ [x]).map .str)]) := by
 have a1 : ki (ds.map D.int) (pre.length : Int) = some (.int (ds[pre.length]'(by omega))) := jH (by rw [List.getElem?_map, List.getElem?_eq_getElem (by omega)]; rfl)
 generalize ds[pre.length]'(by omega) = v at a1
 obtain ⟨t, kt, lt, e1⟩ := FJ v (G ++ [.lst (pre.map .str)])
 have hz : (pre.map D.str).length < sizeLine := Nat.lt_of_lt_of_le (by simp; omega) (lz (n := 100) (by omega))
 have P6 : ∀ x ∈ pre, gd x := fun x hx => (hw x hx).1
 have i1 := Ln false t pre (G ++ [.lst (pre.map .str)]) G.length (by simp) kt P6
 cases hc : pre.contains t with
 | false =>
  rw [hc] at i1
  refine ⟨t, some (.str t), o5, ⟨kt, lt⟩, ?_⟩
  rw [List.map_append, List.map_cons, List.map_nil]
  unfold fh
  generalize pre.map D.str = Ps at i1 e1 hz ⊢
  simp! [a1, e1, i1, hz, zj, BY]
 | true =>
  rw [hc] at i1
  have hcs : aO (jG.map D.str) = true := iz _
  have f1 := cT (G := G ++ [.lst (pre.map .str)]) (ds := jG.map D.str) (lz (by decide)) hcs
  have ze := mq (τ := [some (.con (ds.map .int)), some (.int 8), some (.obj G.length), some (.int (0 + (pre.length : Int))), some (.str t), some (.con (jG.map .str))]) (G := G ++ [.lst (pre.map .str)]) (gO := oN) (ks := [false, false, true]) (tt := jR (aM (qY true) (aj 0) (aj 3))) (te := aj 0) (own := fun x => [D.str x]) (dat := D.str) (f := D.str) (c := fun x => !pre.contains x) jG [] (by decide) (fun x _ => rfl) (fun x hx acc => by
   have i2 := Ln true x pre (G ++ [.lst (pre.map .str)] ++ [.lst acc]) G.length (by simp) (zc x hx) P6
   rw [Bool.true_xor] at i2
   simp only [List.append_assoc, List.cons_append, List.nil_append] at i2
   simp! [i2, mask]) (fun x hx acc => by simp! [mask])
  have hne : ∃ y ys, jG.filter (fun x => !pre.contains x) = y :: ys := by
   cases q : jG.filter (fun x => !pre.contains x) with
   | cons y ys => exact ⟨y, ys, rfl⟩
   | nil =>
    have := zb jG pre Ea fun x hx => by
     have := List.filter_eq_nil_iff.mp q x hx
     simpa using this
    have h8 : jG.length = 8 := rfl
    omega
  obtain ⟨y, ys, hy⟩ := hne
  have my : y ∈ jG := by
   have : y ∈ jG.filter (fun x => !pre.contains x) := by rw [hy]; simp
   exact (List.mem_filter.mp this).1
  rw [hy, List.nil_append, List.map_cons] at ze
  have hcl : aO (D.str y :: ys.map D.str) = true := iz (y :: ys)
  refine ⟨y, some (.str y), some (.con (jG.map .str)), ⟨zc y my, Cb y my⟩, ?_⟩
  rw [List.map_append, List.map_cons, List.map_nil]
  have sp : [D.str "qa", .str "qb", .str "qc", .str "qd", .str "qe", .str "qf", .str "qg", .str "qh"] = jG.map D.str := rfl
  unfold fh nD
  generalize jG.map D.str = Ss at f1 ze sp ⊢
  generalize pre.map D.str = Ps at i1 e1 hz f1 ze ⊢
  have f2 := iP (G := G ++ [.lst Ps]) hcl
  simp only [List.append_assoc, List.cons_append, List.nil_append, List.length_append, List.length_cons, List.length_nil, Nat.zero_add, Int.zero_add] at ze f2
  simp! [a1, e1, i1, hz, zj, BY, sp, dI, f1, ze, f2, DZ]
theorem r9 (ds : List Int) (hd : ds.length = 24) (G : DH) : ∀ (m : Nat) (pre : List Str) (o3 o4 o5 : Option D), pre.length + m = 8 → (∀ x ∈ pre, gs x) →
  ∃ (xs : List Str) (Th D8 IW : Option D), xs.length = 8 ∧ (∀ x ∈ xs, gs x) ∧ cN (gN 3) fh ((List.range' pre.length m).map fun (k : Nat) => .int (0 + (k : Int))) [some (.con (ds.map .int)), some (.int 8), some (.obj G.length), o3, o4, o5] (G ++ [.lst (pre.map .str)]) =
   .nx [some (.con (ds.map .int)), some (.int 8), some (.obj G.length), Th, D8, IW] (G ++ [.lst (xs.map .str)])
 | 0, pre, o3, o4, o5, h, hw => ⟨pre, o3, o4, o5, by omega, hw, by simp [cN]⟩
 | m + 1, pre, o3, o4, o5, h, hw => by
  obtain ⟨x, p4, p5, hx, e1⟩ := zd ds hd G pre (by omega) hw o4 o5
  obtain ⟨xs, a, b, c, h1, h2, ih⟩ := r9 ds hd G m (pre ++ [x]) (some (.int (0 + (pre.length : Int)))) p4 p5 (by simp; omega) (fun y hy => by
   rcases List.mem_append.mp hy with q | q
   ·exact hw y q
   ·rw [List.mem_singleton.mp q]; exact hx)
  refine ⟨xs, a, b, c, h1, h2, ?_⟩
  rw [List.range'_succ, List.map_cons, cR rfl]
  simp only [List.set_cons_succ, List.set_cons_zero, e1, jA]
  rw [List.length_append, List.length_cons, List.length_nil, Nat.zero_add] at ih
  exact ih
theorem Cc (ds : List Int) (hd : ds.length = 24) (G : DH) : ∃ xs : List Str, xs.length = 8 ∧ (∀ x ∈ xs, gs x) ∧ fV [.con (ds.map .int), .int 8] G = .ok (.con (xs.map .str)) G := by
 obtain ⟨xs, a, b, c, h1, h2, e⟩ := r9 ds hd G 8 [] none none none rfl (by simp)
 refine ⟨xs, h1, h2, ?_⟩
 have hr := nY (j := 8) (by omega) (by omega)
 unfold fV
 refine qu (R := [.dead]) ?_ (by rw [iQ]; exact iz _)
 rw [show ((8 : Int)).toNat = 8 from rfl] at hr
 rw [List.length_nil] at e
 generalize ((List.range' 0 8).map fun (k : Nat) => D.int (0 + (k : Int))) = its at hr e
 simp only [List.map_nil] at e
 simp! [iY, hr, e, yD, di]
end K17
end
section
set_option Elab.async false
set_option linter.all false
set_option maxRecDepth 100000
set_option maxHeartbeats 1000000
namespace K17
open PySem PySem.Spec L2 L3
theorem wo {α : Type} (as : List α) (dat : α → D) (nm : α → Str) (h : ∀ a ∈ as, ∃ r, dat a = .tup (.str (nm a) :: r)) (hl : as.length ≤ 1000) (τ : DS) (G : DH) (n : Nat) (hn : G[n]? = some (.lst (as.map dat))) : ∀ (fuel k : Nat) (acc : List D), as.length < fuel + k → k ≤ as.length → acc.length ≤ k →
  oz oN [] qg (aM dg (aj 0) (eC (.int 0))) G.length n fuel k τ (G ++ [.lst acc]) = .ok (.obj G.length) (G ++ [.lst (acc ++ (as.drop k).map fun a => .str (nm a))])
 | 0, k, acc, h1, h2, h3 => by exfalso; omega
 | fuel + 1, k, acc, h1, h2, h3 => by
  have hn' : (G ++ [.lst acc])[n]? = some (.lst (as.map dat)) := vU hn
  unfold oz
  rw [hn']
  dsimp only
  by_cases hk : k < as.length
  ·obtain ⟨r, e⟩ := h as[k] (List.getElem_mem hk)
   have hx : (as.map dat)[k]? = some (dat as[k]) := by rw [List.getElem?_map, List.getElem?_eq_getElem hk]; rfl
   have hz : acc.length < sizeLine := Nat.lt_of_lt_of_le (by omega) (lz (n := 1001) (by omega))
   have one := uc (G := G) (τ := τ) (gO := oN) (ks := []) (te := aM dg (aj 0) (eC (.int 0))) (x := dat as[k]) (v := .str (nm as[k])) (os := [dat as[k]]) (acc := acc) rfl (by
    rw [e]
    simp! [DZ]) hz
   rw [hx]
   dsimp only
   rw [one]
   dsimp only
   have ih := wo as dat nm h hl τ G n hn fuel (k + 1) (acc ++ [D.str (nm (as[k]'hk))]) (by omega) (by omega) (by simp; omega)
   rw [ih, List.drop_eq_getElem_cons hk, List.map_cons, List.append_assoc]
   rfl
  ·have hx : (as.map dat)[k]? = none := by rw [List.getElem?_eq_none_iff]; simp; omega
   rw [hx]
   dsimp only
   rw [List.drop_eq_nil_of_le (by omega)]
   simp
structure PI (tp : List Str) (its : List Itm) : Prop where
 ok : ∀ i ∈ its, sH i
 nd : (its.map (·.nm)).Nodup
 sub : ∀ x ∈ its.map (·.nm), x ∈ tp
theorem at2 (a b : D) (w : Int) (h0 : 0 ≤ w) (h1 : w < 2) : ∃ d, (d = a ∨ d = b) ∧ ki [a, b] w = some d := by
 have : w = 0 ∨ w = 1 := by omega
 rcases this with rfl | rfl
 ·exact ⟨a, .inl rfl, rL⟩
 ·exact ⟨b, .inr rfl, oh⟩
theorem Bg (ws : List Str) (i : Int) (h0 : 0 ≤ i) (h1 : i < ws.length) : ∃ x, x ∈ ws ∧ ki (ws.map D.str) i = some (.str x) := by
 obtain ⟨d, e, e'⟩ := ny (xs := ws.map D.str) (i := i) h0 (by simpa using h1)
 have := List.mem_of_getElem? e'
 obtain ⟨x, hx, rfl⟩ := List.mem_map.mp this
 exact ⟨x, hx, e⟩
theorem Cd (d0 d1 d2 d4 : D) (tp : List Str) (ht0 : 0 < tp.length) (ht : tp.length ≤ 8) (hg : ∀ x ∈ tp, gd x) (dr : Int) (A : DH) (q : Nat) (hq : A[q]? = some (.lst (tp.map .str))) (its : List Itm) (hp : PI tp its) (hl : its.length ≤ 10) (j : Nat) (hj : j ≤ 3) (o8 o9 ju : Option D) :
  ∃ (its' : List Itm) (FL FN xG : Option D), PI tp its' ∧ its'.length ≤ its.length + 1 ∧
   fU [some d0, some d1, some d2, some (.obj q), some d4, some (.int dr), some (.obj A.length), some (.int (0 + (j : Int))), o8, o9, ju] (A ++ [.lst (its.map ck)]) =
   .nx [some d0, some d1, some d2, some (.obj q), some d4, some (.int dr), some (.obj A.length), some (.int (0 + (j : Int))), FL, FN, xG] (A ++ [.lst (its'.map ck)]) := by
 obtain ⟨num, hnum⟩ : ∃ n, n = dr / 12 + (j : Int) * (1 + dr / 7 % 2) := ⟨_, rfl⟩
 obtain ⟨x, hx, ax⟩ := Bg tp (num % (tp.length : Int)) (Int.emod_nonneg _ (by omega)) (Int.emod_lt_of_pos _ (by omega))
 obtain ⟨hi, hhi, Ti⟩ := at2 .gk (.int 2) (dr / (5 + (j : Int)) % 2) (by omega) (by omega)
 have hq1 : (A ++ [DO.lst (its.map ck)])[q]? = some (.lst (tp.map .str)) := vU hq
 have c1 := wo its ck (·.nm) (fun a _ => ⟨a.r, rfl⟩) (by omega) [some d0, some d1, some d2, some (.obj q), some d4, some (.int dr), some (.obj A.length), some (.int (j : Int)), some (.int (dr / (4 + (j : Int)) % 3)), some (.int num), some (.str x)] (A ++ [.lst (its.map ck)]) A.length (by simp) (its.length + 1) 0 [] (by omega) (by omega) (by simp)
 rw [List.drop_zero, List.nil_append, show (its.map fun a => D.str a.nm) = (its.map (·.nm)).map .str by rw [List.map_map]; rfl] at c1
 have hcl : aO ((its.map (·.nm)).map D.str) = true := iz _
 have f2 := iP (G := A ++ [.lst (its.map ck)]) hcl
 have i1 := vq true x (its.map (·.nm)) (A ++ [.lst (its.map ck)]) (hg x hx) fun y hy => hg y (hp.sub y hy)
 have f3 := cT (G := A ++ [.lst (its.map ck)]) (ds := [D.gk, .int 2]) (lz (by simp)) (by simp [bw, bJ, iR, j4])
 have b1 : -18446744073709551616 < 1 + dr / 7 % 2 := by omega
 have b2 : 1 + dr / 7 % 2 < 18446744073709551616 := by omega
 have b3 : tp.length < 1073741824 := by omega
 have b4 : (tp.length : Int) < 1073741824 := by omega
 have b5 : (0 : Int) < (tp.length : Int) := by omega
 have b6 : (0 : Int) < 4 + (j : Int) := by omega
 have b7 : (4 : Int) + (j : Int) < 1073741824 := by omega
 have b8 : (0 : Int) < 5 + (j : Int) := by omega
 have P7 : (5 : Int) + (j : Int) < 1073741824 := by omega
 have b9 : (3 : Nat) ≤ sizeLine := lz (by omega)
 have bz : (its.map ck).length < sizeLine := Nat.lt_of_lt_of_le (by simp; omega) (lz (n := 100) (by omega))
 have bt : (tp.map D.str).length = tp.length := by simp
 have bi : (its.map ck).length + 1 = its.length + 1 := by simp
 simp only [List.append_assoc, List.cons_append, List.nil_append, List.length_append, List.length_cons, List.length_nil, Nat.zero_add] at c1 f2
 rw [← bi] at c1
 cases hc : (its.map (·.nm)).contains x with
 | true =>
  rw [hc] at i1
  refine ⟨its, some (.int (dr / (4 + (j : Int)) % 3)), some (.int num), some (.str x), hp, by omega, ?_⟩
  rw [hnum] at c1 ax ⊢
  unfold fU
  generalize (its.map (·.nm)).map D.str = Ns at c1 hcl f2 i1
  generalize its.map ck = Is at *
  generalize tp.map D.str = Ts at *
  simp! [hq1, bt, ax, ht0, b1, b2, b3, b4, b5, b6, b7, b8, P7, dI, c1, f2, i1, zj]
 | false =>
  rw [hc] at i1
  refine ⟨its ++ [⟨x, [.int (dr / (4 + (j : Int)) % 3), hi]⟩], some (.int (dr / (4 + (j : Int)) % 3)), some (.int num), some (.str x), ⟨fun i h => ?_, ?_, fun y hy => ?_⟩, by simp, ?_⟩
  ·rcases List.mem_append.mp h with z | z
   ·exact hp.ok i z
   ·rw [List.mem_singleton.mp z]
    exact ⟨hg x hx, by rcases hhi with e | e <;> simp [e, bw, bJ, iR, j4]⟩
  ·rw [List.map_append, List.nodup_append]
   refine ⟨hp.nd, by simp, fun a ha b hb => ?_⟩
   have e : b = x := by simpa using hb
   rintro rfl
   subst e
   rw [List.contains_iff_mem.mpr ha] at hc
   cases hc
  ·rw [List.map_append] at hy
   rcases List.mem_append.mp hy with z | z
   ·exact hp.sub y z
   ·have e : y = x := by simpa using z
    rw [e]; exact hx
  ·rw [hnum] at c1 ax ⊢
   rw [List.map_append, List.map_cons, List.map_nil]
   have ei : ck ⟨x, [.int (dr / (4 + (j : Int)) % 3), hi]⟩ = .tup [.str x, .int (dr / (4 + (j : Int)) % 3), hi] := rfl
   rw [ei]
   unfold fU
   generalize (its.map (·.nm)).map D.str = Ns at c1 hcl f2 i1
   generalize its.map ck = Is at *
   generalize tp.map D.str = Ts at *
   simp! [hq1, bt, ax, ht0, b1, b2, b3, b4, b5, b6, b7, b8, P7, b9, bz, dI, c1, f2, f3, Ti, i1, zj, BY]
theorem uH (d0 d1 d2 d4 : D) (tp : List Str) (ht0 : 0 < tp.length) (ht : tp.length ≤ 8) (hg : ∀ x ∈ tp, gd x) (dr : Int) (A : DH) (q : Nat) (hq : A[q]? = some (.lst (tp.map .str))) : ∀ (m j : Nat) (its : List Itm) (o7 o8 o9 ju : Option D), j + m ≤ 4 → its.length ≤ j → PI tp its →
  ∃ (its' : List Itm) (IX FL FN xG : Option D), PI tp its' ∧ its'.length ≤ j + m ∧ cN (gN 7) fU ((List.range' j m).map fun (k : Nat) => .int (0 + (k : Int))) [some d0, some d1, some d2, some (.obj q), some d4, some (.int dr), some (.obj A.length), o7, o8, o9, ju] (A ++ [.lst (its.map ck)]) =
   .nx [some d0, some d1, some d2, some (.obj q), some d4, some (.int dr), some (.obj A.length), IX, FL, FN, xG] (A ++ [.lst (its'.map ck)])
 | 0, j, its, o7, o8, o9, ju, _, hl, hp => ⟨its, o7, o8, o9, ju, hp, by omega, by simp [cN]⟩
 | m + 1, j, its, o7, o8, o9, ju, h, hl, hp => by
  obtain ⟨IY, p8, p9, Jm, h1, h2, e1⟩ := Cd d0 d1 d2 d4 tp ht0 ht hg dr A q hq its hp (by omega) j (by omega) o8 o9 ju
  obtain ⟨its2, q7, q8, q9, Ob, k1, k2, ih⟩ := uH d0 d1 d2 d4 tp ht0 ht hg dr A q hq m (j + 1) IY (some (.int (0 + (j : Int)))) p8 p9 Jm (by omega) (by omega) h1
  refine ⟨its2, q7, q8, q9, Ob, k1, by omega, ?_⟩
  rw [List.range'_succ, List.map_cons, cR rfl]
  simp only [List.set_cons_succ, List.set_cons_zero, e1, jA]
  exact ih
theorem mY (ds : List Int) (k : Nat) (h : k < ds.length) : ∃ v, ki (ds.map D.int) (k : Int) = some (.int v) := by
 refine ⟨ds[k], jH ?_⟩
 rw [List.getElem?_map, List.getElem?_eq_getElem h]; rfl
structure BR (tp : List Str) (r : lQ) : Prop where
 ok : kh r
 len : r.its.length ≤ 3
 pi : PI tp r.its
theorem Ce (ds : List Int) (hd : ds.length = 24) (ns tp : List Str) (hn : ns.length = 8) (hng : ∀ x ∈ ns, gs x) (ht0 : 0 < tp.length) (ht : tp.length ≤ 8) (hg : ∀ x ∈ tp, gd x) (G E : DH) (rs : List lQ) (hr : rs.length < tp.length) (o5 o6 o7 o8 o9 ju : Option D) :
  ∃ (r : lQ) (E' : DH) (IW Lo IX FL FN xG : Option D), BR tp r ∧ some r.nm = tp[rs.length]? ∧
   iX [some (.con (ds.map .int)), some (.con (ns.map .str)), some (.obj G.length), some (.obj (G.length + 1)), some (.int (0 + (rs.length : Int))), o5, o6, o7, o8, o9, ju] (G ++ .lst (rs.map bS) :: .lst (tp.map .str) :: E) =
   .nx [some (.con (ds.map .int)), some (.con (ns.map .str)), some (.obj G.length), some (.obj (G.length + 1)), some (.int (0 + (rs.length : Int))), IW, Lo, IX, FL, FN, xG] (G ++ .lst ((rs ++ [r]).map bS) :: .lst (tp.map .str) :: E') := by
 obtain ⟨dr, hdr⟩ := mY ds (9 + rs.length) (by omega)
 have IZ : ki (ds.map D.int) (9 + (rs.length : Int)) = some (.int dr) := by rw [show (9 + (rs.length : Int)) = ((9 + rs.length : Nat) : Int) by omega]; exact hdr
 obtain ⟨its, p7, p8, p9, Jm, hp, hl, e1⟩ := uH (.con (ds.map .int)) (.con (ns.map .str)) (.obj G.length) (.int (rs.length : Int)) tp ht0 ht hg dr (G ++ .lst (rs.map bS) :: .lst (tp.map .str) :: E) (G.length + 1) (BX _ _ _ _) (dr % 4).toNat 0 [] o7 o8 o9 ju (by omega) (by simp) ⟨by simp, by simp, by simp⟩
 have D7 := nY (j := dr % 4) (by omega) (by omega)
 obtain ⟨kd, hkd, Tj⟩ := Bg ns (dr / 24 % 8) (by omega) (by omega)
 obtain ⟨od, hod, Tn⟩ := at2 (.str "row") (.str "mix") (dr / 192 % 2) (by omega) (by omega)
 have P8 : ki (tp.map D.str) (rs.length : Int) = some (.str (tp[rs.length]'hr)) := atS tp rs.length _ (List.getElem?_eq_getElem hr)
 have hnm : some (tp[rs.length]'hr) = tp[rs.length]? := (List.getElem?_eq_getElem hr).symm
 generalize tp[rs.length]'hr = nm at P8 hnm
 have To : gd nm := hg nm (List.mem_of_getElem? hnm.symm)
 have Oc : od.closed = true := by rcases hod with e | e <;> rw [e] <;> exact cz
 refine ⟨⟨nm, .str kd, od, its⟩, E ++ [.lst (its.map ck)], some (.int dr), some (.obj ((G ++ .lst (rs.map bS) :: .lst (tp.map .str) :: E).length)), p7, p8, p9, Jm, ⟨⟨To, cz, Oc, by show its.length ≤ 100; omega, hp.ok⟩, by show its.length ≤ 3; omega, hp⟩, hnm, ?_⟩
 have f3 := cT (G := G ++ .lst (rs.map bS) :: .lst (tp.map .str) :: (E ++ [.lst (its.map ck)])) (ds := [D.str "row", .str "mix"]) (lz (by simp)) (c2 _ _)
 rw [List.map_append, List.map_cons, List.map_nil]
 have er : bS ⟨nm, .str kd, od, its⟩ = .tup [.str nm, .str kd, od, .tup (its.map ck)] := rfl
 rw [er]
 have z1 : (its.map ck).length ≤ sizeLine := lz (by simp; omega)
 have z2 : (rs.map bS).length < sizeLine := Nat.lt_of_lt_of_le (by simp; omega) (lz (n := 100) (by omega))
 have z3 : (4 : Nat) ≤ sizeLine := lz (by omega)
 have gI : (G ++ .lst (rs.map bS) :: .lst (tp.map .str) :: (E ++ [.lst (its.map ck)]))[(G ++ .lst (rs.map bS) :: .lst (tp.map .str) :: E).length]? = some (.lst (its.map ck)) := by
  have := zj (G ++ .lst (rs.map bS) :: .lst (tp.map .str) :: E) (.lst (its.map ck)) []
  simpa using this
 simp only [List.append_assoc, List.cons_append, List.nil_append, List.map_nil] at e1
 have nw : ∀ (X : DH), di [] X = .ok (.obj X.length) (X ++ [.lst []]) := fun X => by rw [di, if_pos (lz (by simp))]
 have nA := nw (G ++ .lst (rs.map bS) :: .lst (tp.map .str) :: E)
 simp only [List.append_assoc, List.cons_append, List.nil_append] at nA
 generalize its.map ck = Is at *
 generalize rs.map bS = Rs at *
 generalize tp.map D.str = Ts at *
 generalize ds.map D.int = Ds at *
 generalize ns.map D.str = Ns at *
 generalize ((List.range' 0 (dr % 4).toNat).map fun (k : Nat) => D.int (0 + (k : Int))) = ks at D7 e1
 generalize (G ++ .lst Rs :: .lst Ts :: E).length = len at *
 unfold iX
 simp! [IZ, nA, D7, e1, zj, BX, BY, P8, Tj, dI, f3, Tn, gI, gM, z1, z2, z3]
end K17
end
section
set_option Elab.async false
set_option linter.all false
set_option maxRecDepth 100000
set_option maxHeartbeats 1000000
namespace K17
open PySem PySem.Spec L2 L3
theorem uI (ds : List Int) (hd : ds.length = 24) (ns tp : List Str) (hn : ns.length = 8) (hng : ∀ x ∈ ns, gs x) (ht0 : 0 < tp.length) (ht : tp.length ≤ 8) (hg : ∀ x ∈ tp, gd x) (G : DH) : ∀ (m : Nat) (rs : List lQ) (E : DH) (o4 o5 o6 o7 o8 o9 ju : Option D), rs.length + m = tp.length → lP rs = tp.take rs.length → (∀ r ∈ rs, BR tp r) →
  ∃ (rs' : List lQ) (E' : DH) (D8 IW Lo IX FL FN xG : Option D), lP rs' = tp ∧ (∀ r ∈ rs', BR tp r) ∧ cN (gN 4) iX ((List.range' rs.length m).map fun (k : Nat) => .int (0 + (k : Int))) [some (.con (ds.map .int)), some (.con (ns.map .str)), some (.obj G.length), some (.obj (G.length + 1)), o4, o5, o6, o7, o8, o9, ju] (G ++ .lst (rs.map bS) :: .lst (tp.map .str) :: E) =
   .nx [some (.con (ds.map .int)), some (.con (ns.map .str)), some (.obj G.length), some (.obj (G.length + 1)), D8, IW, Lo, IX, FL, FN, xG] (G ++ .lst (rs'.map bS) :: .lst (tp.map .str) :: E')
 | 0, rs, E, o4, o5, o6, o7, o8, o9, ju, h, hr, hb => ⟨rs, E, o4, o5, o6, o7, o8, o9, ju, by rw [hr]; exact List.take_of_length_le (by omega), hb, by simp [cN]⟩
 | m + 1, rs, E, o4, o5, o6, o7, o8, o9, ju, h, hr, hb => by
  obtain ⟨r, E1, p5, p6, p7, p8, p9, Jm, h1, h2, e1⟩ := Ce ds hd ns tp hn hng ht0 ht hg G E rs (by omega) o5 o6 o7 o8 o9 ju
  obtain ⟨rs', E2, q4, q5, q6, q7, q8, q9, Ob, k1, k2, ih⟩ := uI ds hd ns tp hn hng ht0 ht hg G m (rs ++ [r]) E1 (some (.int (0 + (rs.length : Int)))) p5 p6 p7 p8 p9 Jm (by simp; omega) (by
   have h3 : lP (rs ++ [r]) = lP rs ++ [r.nm] := by unfold lP; simp
   rw [h3, hr, List.length_append, List.length_cons, List.length_nil, Nat.zero_add, List.take_add_one, ← h2]
   rfl) (fun y hy => by
   rcases List.mem_append.mp hy with z | z
   ·exact hb y z
   ·rw [List.mem_singleton.mp z]; exact h1)
  refine ⟨rs', E2, q4, q5, q6, q7, q8, q9, Ob, k1, k2, ?_⟩
  rw [List.range'_succ, List.map_cons, cR rfl]
  simp only [List.set_cons_succ, List.set_cons_zero, e1, jA]
  rw [List.length_append, List.length_cons, List.length_nil, Nat.zero_add] at ih
  exact ih
theorem Eb (ds : List Int) (hd : ds.length = 24) (ns tp : List Str) (hn : ns.length = 8) (hng : ∀ x ∈ ns, gs x) (ht : tp.length < 8) (G : DH) (o5 o6 o7 o8 o9 ju : Option D) :
  ∃ (x : Str), gd x ∧ iW [some (.con (ds.map .int)), some (.con (ns.map .str)), some (.obj G.length), some (.obj (G.length + 1)), some (.int (0 + (tp.length : Int))), o5, o6, o7, o8, o9, ju] (G ++ [.lst [], .lst (tp.map .str)]) =
   .nx [some (.con (ds.map .int)), some (.con (ns.map .str)), some (.obj G.length), some (.obj (G.length + 1)), some (.int (0 + (tp.length : Int))), o5, o6, o7, o8, o9, ju] (G ++ [.lst [], .lst ((tp ++ [x]).map .str)]) := by
 obtain ⟨dr, hdr⟩ := mY ds (9 + tp.length) (by omega)
 have IZ : ki (ds.map D.int) (9 + (tp.length : Int)) = some (.int dr) := by rw [show (9 + (tp.length : Int)) = ((9 + tp.length : Nat) : Int) by omega]; exact hdr
 obtain ⟨x, hx, ax⟩ := Bg ns (if dr / 384 % 2 < (tp.length : Int) then (tp.length : Int) - dr / 384 % 2 else 0) (by split <;> omega) (by split <;> omega)
 have hx' := hng x hx
 have z2 : (tp.map D.str).length < sizeLine := Nat.lt_of_lt_of_le (by simp; omega) (lz (n := 100) (by omega))
 refine ⟨x, hx'.1, ?_⟩
 rw [List.map_append, List.map_cons, List.map_nil]
 generalize tp.map D.str = Ts at *
 generalize ds.map D.int = Ds at *
 generalize ns.map D.str = Ns at *
 unfold iW
 simp! [IZ, ax, BX, Dq, z2]
theorem wu (ds : List Int) (hd : ds.length = 24) (ns : List Str) (hn : ns.length = 8) (hng : ∀ x ∈ ns, gs x) (G : DH) (o5 o6 o7 o8 o9 ju : Option D) : ∀ (m : Nat) (tp : List Str) (o4 : Option D), tp.length + m ≤ 8 → (∀ x ∈ tp, gd x) →
  ∃ (tp' : List Str) (D8 : Option D), tp'.length = tp.length + m ∧ (∀ x ∈ tp', gd x) ∧ cN (gN 4) iW ((List.range' tp.length m).map fun (k : Nat) => .int (0 + (k : Int))) [some (.con (ds.map .int)), some (.con (ns.map .str)), some (.obj G.length), some (.obj (G.length + 1)), o4, o5, o6, o7, o8, o9, ju] (G ++ [.lst [], .lst (tp.map .str)]) =
   .nx [some (.con (ds.map .int)), some (.con (ns.map .str)), some (.obj G.length), some (.obj (G.length + 1)), D8, o5, o6, o7, o8, o9, ju] (G ++ [.lst [], .lst (tp'.map .str)])
 | 0, tp, o4, _, hg => ⟨tp, o4, rfl, hg, by simp [cN]⟩
 | m + 1, tp, o4, h, hg => by
  obtain ⟨x, hx, e1⟩ := Eb ds hd ns tp hn hng (by omega) G o5 o6 o7 o8 o9 ju
  obtain ⟨tp', q4, k1, k2, ih⟩ := wu ds hd ns hn hng G o5 o6 o7 o8 o9 ju m (tp ++ [x]) (some (.int (0 + (tp.length : Int)))) (by simp; omega) (fun y hy => by
   rcases List.mem_append.mp hy with z | z
   ·exact hg y z
   ·rw [List.mem_singleton.mp z]; exact hx)
  refine ⟨tp', q4, by rw [k1]; simp; omega, k2, ?_⟩
  rw [List.range'_succ, List.map_cons, cR rfl]
  simp only [List.set_cons_succ, List.set_cons_zero, e1, jA]
  rw [List.length_append, List.length_cons, List.length_nil, Nat.zero_add] at ih
  exact ih
theorem Ag {i : Itm} (h : sH i) : (ck i).closed = true := by
 unfold ck
 rw [ud, bw, cz, h.r]; rfl
theorem j3 {xs : List D} (h : ∀ d ∈ xs, d.closed = true) : aO xs = true := by
 induction xs with
 | nil => exact bJ
 | cons x r ih => rw [bw, h x (by simp), ih fun d hd => h d (by simp [hd])]; rfl
theorem Ah {r : lQ} (h : kh r) : (bS r).closed = true := by
 have : aO (r.its.map ck) = true := j3 fun d hd => by
  obtain ⟨i, hi, rfl⟩ := List.mem_map.mp hd
  exact Ag (h.its i hi)
 unfold bS
 simp only [ud, bw, bJ, cz, h.kd, h.od, this, Bool.and_true]
theorem Ai {rs : List lQ} (h : ∀ r ∈ rs, kh r) : aO (rs.map bS) = true := j3 fun d hd => by
 obtain ⟨r, hr, rfl⟩ := List.mem_map.mp hd
 exact Ah (h r hr)
theorem Ec (ds : List Int) (hd : ds.length = 24) (ns : List Str) (hn : ns.length = 8) (hng : ∀ x ∈ ns, gs x) (G : DH) :
  ∃ rs : List lQ, 0 < rs.length ∧ rs.length ≤ 8 ∧ (∀ r ∈ rs, BR (lP rs) r) ∧ gS [.con (ds.map .int), .con (ns.map .str)] G = .ok (.con (rs.map bS)) G := by
 obtain ⟨d8, h8⟩ := mY ds 8 (by omega)
 have Tp : ki (ds.map D.int) 8 = some (.int d8) := h8
 obtain ⟨tp, o4, lt, gt, e0⟩ := wu ds hd ns hn hng G none none none none none none (1 + d8 % 8).toNat [] none (by simp; omega) (by simp)
 have P9 : tp.length = (1 + d8 % 8).toNat := by rw [lt]; simp
 obtain ⟨rs, E, p4, p5, p6, p7, p8, p9, Jm, k1, k2, e1⟩ := uI ds hd ns tp hn hng (by omega) (by omega) gt G tp.length [] [] o4 none none none none none none (by simp) (by simp [lP]) (by simp)
 have hl : rs.length = tp.length := by have := congrArg List.length k1; unfold lP at this; simpa using this
 refine ⟨rs, by omega, by omega, fun r hr => by rw [k1]; exact k2 r hr, ?_⟩
 have D7 := nY (j := 1 + d8 % 8) (by omega) (by omega)
 have hcl := Ai fun r hr => (k2 r hr).ok
 unfold gS
 refine qu (R := .dead :: .lst (tp.map .str) :: E) ?_ (by rw [iQ]; exact hcl)
 rw [← P9] at D7
 rw [← P9, List.length_nil] at e0
 rw [List.length_nil] at e1
 simp only [List.map_nil] at e0 e1
 have nA : ∀ (X : DH), di [] X = .ok (.obj X.length) (X ++ [.lst []]) := fun X => by rw [di, if_pos (lz (by simp))]
 generalize ((List.range' 0 tp.length).map fun (k : Nat) => D.int (0 + (k : Int))) = ks at *
 generalize rs.map bS = Rs at *
 generalize tp.map D.str = Ts at *
 generalize ds.map D.int = Ds at *
 generalize ns.map D.str = Ns at *
 unfold jL oB
 simp! [Tp, nA, D7, e0, e1, yD]
theorem Bh : ∀ (l pre : List Str), (pre ++ l).Nodup → tw pre l = none
 | [], pre, _ => rfl
 | x :: l, pre, h => by
  have hx : pre.contains x = false := by
   cases q : pre.contains x with
   | false => rfl
   | true =>
    have := List.contains_iff_mem.mp q
    exact absurd rfl ((List.nodup_append.mp h).2.2 x this x (by simp))
  rw [tw, if_neg (by rw [hx]; decide)]
  exact Bh l (pre ++ [x]) (by rw [List.append_assoc]; exact h)
theorem xH (ru : List Str) : ∀ (l : List Str), (∀ x ∈ l, x ∈ ru) → nr ru l = none
 | [], _ => rfl
 | x :: l, h => by
  rw [nr, if_pos (List.contains_iff_mem.mpr (h x (by simp)))]
  exact xH ru l fun y hy => h y (by simp [hy])
theorem Ed (rs : List lQ) (h : ∀ r ∈ rs, BR (lP rs) r) (st : Str) (hs : st ∈ lP rs) : res st rs = none := by
 have h1 : (rs.findSome? fun r => tw [] (nms r)) = none := List.findSome?_eq_none_iff.mpr fun r hr => Bh _ _ (by rw [List.nil_append]; exact (h r hr).pi.nd)
 have h2 : (rs.findSome? fun r => nr (lP rs) (nms r)) = none := List.findSome?_eq_none_iff.mpr fun r hr => xH _ _ fun x hx => (h r hr).pi.sub x hx
 unfold res
 rw [h1, xH (lP rs) [st] (by simpa using hs), h2]
 rfl
end K17
end
section
set_option Elab.async false
set_option linter.all false
set_option maxRecDepth 100000
set_option maxHeartbeats 1000000
namespace K17
open PySem PySem.Spec L2 L3
theorem Ef (rs : List lQ) (i : Int) (h0 : 0 ≤ i) (h1 : i < rs.length) : ∃ r, r ∈ rs ∧ ki (rs.map bS) i = some (bS r) := by
 obtain ⟨d, e, e'⟩ := ny (xs := rs.map bS) (i := i) h0 (by simpa using h1)
 obtain ⟨x, hx, rfl⟩ := List.mem_map.mp (List.mem_of_getElem? e')
 exact ⟨x, hx, e⟩
theorem Lp (is : List Itm) (i : Int) (h0 : 0 ≤ i) (h1 : i < is.length) : ∃ r, r ∈ is ∧ ki (is.map ck) i = some (ck r) := by
 obtain ⟨d, e, e'⟩ := ny (xs := is.map ck) (i := i) h0 (by simpa using h1)
 obtain ⟨x, hx, rfl⟩ := List.mem_map.mp (List.mem_of_getElem? e')
 exact ⟨x, hx, e⟩
theorem Aj {n : Nat} {i : Int} (h0 : 0 ≤ i) (h1 : i < n) : Bu n i = some i.toNat := by
 unfold Bu
 rw [if_pos h0, if_pos h1]
noncomputable abbrev zl (ds : List Int) (A : DH) (st a b : Str) (o4 o5 o6 o7 o8 o9 ju : Option D) : DS := [some (.con (ds.map .int)), some (.obj A.length), some (.str st), some (.con [.str a, .str b]), o4, o5, o6, o7, o8, o9, ju]
noncomputable def q1 : MS := pS (jR (aM (nS false) (aG i7 (ah (aj 9) (aL))) (eC (.int 3)))) (jX (fc "list" x9 (aj 9) aL)) (dS)
theorem Lq (ds : List Int) (A : DH) (st a b : Str) (o4 o5 o6 o7 o8 ju : Option D) (Rs : List D) (its : List Itm) (hi : ∀ i ∈ its, sH i) (hl : its.length ≤ 3) :
  ∃ its' : List Itm, (∀ i ∈ its', sH i) ∧ its'.length ≤ 2 ∧ q1 (zl ds A st a b o4 o5 o6 o7 o8 (some (.obj (A.length + 1))) ju) (A ++ [.lst Rs, .lst (its.map ck)]) = .nx (zl ds A st a b o4 o5 o6 o7 o8 (some (.obj (A.length + 1))) ju) (A ++ [.lst Rs, .lst (its'.map ck)]) := by
 have ln : (its.map ck).length = its.length := by simp
 by_cases h : its.length = 3
 ·refine ⟨its.dropLast, fun i h' => hi i (List.dropLast_subset _ h'), by simp; omega, ?_⟩
  have hd : (its.map ck).dropLast = its.dropLast.map ck := by rw [List.map_dropLast]
  obtain ⟨y, hy⟩ : ∃ y, (its.map ck)[(its.map ck).length - 1]? = some y := ⟨_, List.getElem?_eq_getElem (by rw [ln]; omega)⟩
  have e1 := mj false ((its.map ck).length : Int) 3 (A ++ [.lst Rs, .lst (its.map ck)])
  have e2 : (((its.map ck).length : Int) == 3) = true := by rw [ln, h]; rfl
  rw [e2] at e1
  rw [← hd]
  unfold q1
  generalize its.map ck = Is at *
  simp! [BX, Dq, e1, hy]
 ·refine ⟨its, hi, by omega, ?_⟩
  have e1 := mj false ((its.map ck).length : Int) 3 (A ++ [.lst Rs, .lst (its.map ck)])
  have e2 : (((its.map ck).length : Int) == 3) = false := by rw [ln]; exact beq_false_of_ne (by omega)
  rw [e2] at e1
  unfold q1
  generalize its.map ck = Is at *
  simp! [BX, Dq, e1]
noncomputable def q2 : MS := pS (oq (jR (aM (nS false) (aM eS (aj 4) (eC (.int 2))) (eC (.int 1)))) (jR (aM Jh (aG i7 (ah (aj 9) (aL))) (eC (.int 0))))) (j5) (dS)
theorem Lr (ds : List Int) (hd : ds.length = 24) (A : DH) (st a b : Str) (w : Int) (o5 o6 o7 o8 ju : Option D) (Rs : List D) (its : List Itm) (hi : ∀ i ∈ its, sH i) (hl : its.length ≤ 2) :
  ∃ (its' : List Itm) (xG : Option D), (∀ i ∈ its', sH i) ∧ its'.length ≤ 3 ∧ q2 (zl ds A st a b (some (.int w)) o5 o6 o7 o8 (some (.obj (A.length + 1))) ju) (A ++ [.lst Rs, .lst (its.map ck)]) = .nx (zl ds A st a b (some (.int w)) o5 o6 o7 o8 (some (.obj (A.length + 1))) xG) (A ++ [.lst Rs, .lst (its'.map ck)]) := by
 have ln : (its.map ck).length = its.length := by simp
 have e1 := mj false (w % 2) 1 (A ++ [.lst Rs, .lst (its.map ck)])
 by_cases h : w % 2 = 1
 ·rw [h] at e1
  by_cases h0 : 0 < its.length
  ·obtain ⟨Qa, Nr⟩ := mY ds 20 (by omega)
   obtain ⟨Jo, Tq⟩ := mY ds 19 (by omega)
   have Od : ki (ds.map D.int) 20 = some (.int Qa) := Nr
   have Oe : ki (ds.map D.int) 19 = some (.int Jo) := Tq
   obtain ⟨i, hm, ai⟩ := Lp its (Qa % (its.length : Int)) (Int.emod_nonneg _ (by omega)) (Int.emod_lt_of_pos _ (by omega))
   have k0 : 0 ≤ Jo % ((its.length : Int) + 1) := Int.emod_nonneg _ (by omega)
   have k1 : Jo % ((its.length : Int) + 1) < 1000 := by have := Int.emod_lt_of_pos Jo (b := (its.length : Int) + 1) (by omega); omega
   refine ⟨its.take (Jo % ((its.length : Int) + 1)).toNat ++ ⟨i.nm, [.int 0, .gk]⟩ :: its.drop (Jo % ((its.length : Int) + 1)).toNat, some (.str i.nm), fun j hj => ?_, ?_, ?_⟩
   ·rcases List.mem_append.mp hj with z | z
    ·exact hi j (List.mem_of_mem_take z)
    ·rcases List.mem_cons.mp z with z | z
     ·rw [z]; exact ⟨(hi i hm).nm, by simp [bw, bJ, iR, j4]⟩
     ·exact hi j (List.mem_of_mem_drop z)
   ·simp; omega
   ·rw [List.map_append, List.map_cons, List.map_take, List.map_drop]
    have ei : ck ⟨i.nm, [.int 0, .gk]⟩ = .tup [.str i.nm, .int 0, .gk] := rfl
    have ej : ck i = .tup (.str i.nm :: i.r) := rfl
    rw [ei]
    rw [ej] at ai
    rw [← ln] at ai k0 k1 ⊢
    have z1 : (its.map ck).length < sizeLine := Nat.lt_of_lt_of_le (by rw [ln]; omega) (lz (n := 100) (by omega))
    have z2 : (3 : Nat) ≤ sizeLine := lz (by omega)
    have b0 : (its.map ck).length < 1073741823 := by rw [ln]; omega
    have b1 : ((its.map ck).length : Int) < 1073741824 := by rw [ln]; omega
    have b2 : ((its.map ck).length : Int) + 1 < 1073741824 := by rw [ln]; omega
    have b3 : (0 : Int) < ((its.map ck).length : Int) := by rw [ln]; omega
    have b4 : (0 : Int) < ((its.map ck).length : Int) + 1 := by rw [ln]; omega
    have b5 : (its.map ck).length < 1073741824 := by rw [ln]; omega
    have b6 : 0 < (its.map ck).length := by rw [ln]; omega
    unfold q2 j5
    generalize its.map ck = Is at *
    simp! [BX, Dq, h, e1, Od, Oe, ai, DZ, z1, z2, b0, b1, b2, b3, b4, b5, b6, k0, k1, qv]
  ·refine ⟨its, ju, hi, by omega, ?_⟩
   have hz : its = [] := by
    cases its with
    | nil => rfl
    | cons x r => simp at h0
   subst hz
   unfold q2
   rw [List.map_nil] at *
   simp! [BX, Dq, h, e1]
 ·refine ⟨its, ju, hi, by omega, ?_⟩
  have e2 : (w % 2 == 1) = false := beq_false_of_ne h
  rw [e2] at e1
  unfold q2
  generalize its.map ck = Is at *
  simp! [e1]
noncomputable def q3 : MS := pS (oq (jR (aM (nS false) (aM eS (aM gn (aj 4) (eC (.int 2))) (eC (.int 2))) (eC (.int 1)))) (jR (aM Jh (aG i7 (ah (aj 9) (aL))) (eC (.int 0))))) (jk (aG i6 (ah (aM dg (aj 3) (eC (.int 0))) (ah (eC (.int 1)) (ah (eC (.int 2)) (aL))))) (aj 9) (aM eS (aM dg (aj 0) (eC (.int 21))) (aG i7 (ah (aj 9) (aL))))) (dS)
theorem Ls (ds : List Int) (hd : ds.length = 24) (A : DH) (st a b : Str) (ga : gd a) (w : Int) (o5 o6 o7 o8 ju : Option D) (Rs : List D) (its : List Itm) (hi : ∀ i ∈ its, sH i) (hl : its.length ≤ 3) :
  ∃ (its' : List Itm), (∀ i ∈ its', sH i) ∧ its'.length ≤ 3 ∧ q3 (zl ds A st a b (some (.int w)) o5 o6 o7 o8 (some (.obj (A.length + 1))) ju) (A ++ [.lst Rs, .lst (its.map ck)]) = .nx (zl ds A st a b (some (.int w)) o5 o6 o7 o8 (some (.obj (A.length + 1))) ju) (A ++ [.lst Rs, .lst (its'.map ck)]) := by
 have ln : (its.map ck).length = its.length := by simp
 have e1 := mj false (w / 2 % 2) 1 (A ++ [.lst Rs, .lst (its.map ck)])
 by_cases h : w / 2 % 2 = 1
 ·rw [h] at e1
  by_cases h0 : 0 < its.length
  ·obtain ⟨Lu, h21⟩ := mY ds 21 (by omega)
   have Of : ki (ds.map D.int) 21 = some (.int Lu) := h21
   have k0 : 0 ≤ Lu % (its.length : Int) := Int.emod_nonneg _ (by omega)
   have k1 : Lu % (its.length : Int) < its.length := Int.emod_lt_of_pos Lu (by omega)
   have ix := Aj k0 k1
   refine ⟨its.set (Lu % (its.length : Int)).toNat ⟨a, [.int 1, .int 2]⟩, fun j hj => ?_, by simp; omega, ?_⟩
   ·rcases List.mem_or_eq_of_mem_set hj with z | z
    ·exact hi j z
    ·rw [z]; exact ⟨ga, by simp [bw, bJ, iR]⟩
   ·rw [List.map_set]
    have ei : ck ⟨a, [.int 1, .int 2]⟩ = .tup [.str a, .int 1, .int 2] := rfl
    rw [ei]
    rw [← ln] at ix ⊢
    have z2 : (3 : Nat) ≤ sizeLine := lz (by omega)
    have b1 : ((its.map ck).length : Int) < 1073741824 := by rw [ln]; omega
    have b3 : (0 : Int) < ((its.map ck).length : Int) := by rw [ln]; omega
    have b5 : (its.map ck).length < 1073741824 := by rw [ln]; omega
    have b6 : 0 < (its.map ck).length := by rw [ln]; omega
    unfold q3
    generalize its.map ck = Is at *
    simp! [BX, Dq, h, e1, Of, rL, z2, b1, b3, b5, b6, ix, nu]
  ·refine ⟨its, hi, by omega, ?_⟩
   have hz : its = [] := by
    cases its with
    | nil => rfl
    | cons x r => simp at h0
   subst hz
   unfold q3
   rw [List.map_nil] at *
   simp! [BX, Dq, h, e1]
 ·refine ⟨its, hi, by omega, ?_⟩
  have e2 : (w / 2 % 2 == 1) = false := beq_false_of_ne h
  rw [e2] at e1
  unfold q3
  generalize its.map ck = Is at *
  simp! [e1]
theorem uJ {rs : List lQ} {k : Nat} {r : lQ} (h : ∀ x ∈ rs, kh x) (hr : kh r) : ∀ x ∈ rs.set k r, kh x := fun x hx => by
 rcases List.mem_or_eq_of_mem_set hx with z | z
 ·exact h x z
 ·rw [z]; exact hr
noncomputable def q4 : MS := jk (aG i6 (ah (aj 6) (ah (aj 7) (ah (aj 8) (ah (aG gM (ah (aj 9) (aL))) (aL)))))) (aj 1) (aj 5)
theorem Lv (ds : List Int) (A : DH) (st a b : Str) (o4 ju : Option D) (k : Int) (nm : Str) (kd od : D) (rs : List lQ) (k0 : 0 ≤ k) (k1 : k < rs.length) (its : List Itm) (hl : its.length ≤ 3) :
  q4 (zl ds A st a b o4 (some (.int k)) (some (.str nm)) (some kd) (some od) (some (.obj (A.length + 1))) ju) (A ++ [.lst (rs.map bS), .lst (its.map ck)]) = .nx (zl ds A st a b o4 (some (.int k)) (some (.str nm)) (some kd) (some od) (some (.obj (A.length + 1))) ju) (A ++ [.lst ((rs.set k.toNat ⟨nm, kd, od, its⟩).map bS), .lst (its.map ck)]) := by
 have ix := Aj k0 k1
 rw [List.map_set]
 have er : bS ⟨nm, kd, od, its⟩ = .tup [.str nm, kd, od, .tup (its.map ck)] := rfl
 rw [er]
 have lr : (rs.map bS).length = rs.length := by simp
 rw [← lr] at ix
 have z1 : (its.map ck).length ≤ sizeLine := lz (by simp; omega)
 have z2 : (4 : Nat) ≤ sizeLine := lz (by omega)
 unfold q4
 generalize its.map ck = Is at *
 generalize rs.map bS = Rs at *
 simp! [zj, BY, BX, Dq, gM, z1, z2, ix, nu]
noncomputable def q5 : MS := pS (jR (aM (nS false) (aM eS (aM gn (aj 4) (eC (.int 4))) (eC (.int 2))) (eC (.int 1)))) (gT) (dS)
theorem Lw (ds : List Int) (hd : ds.length = 24) (A : DH) (st a b : Str) (gb : gd b) (w : Int) (o5 o6 o7 o8 o9 ju : Option D) (rs : List lQ) (hr : ∀ r ∈ rs, kh r) (h3 : ∀ r ∈ rs, r.its.length ≤ 3) (r0 : 0 < rs.length) (r8 : rs.length ≤ 8) (Is : List D) :
  ∃ (rs' : List lQ) (Lo IX FL FN : Option D), (∀ r ∈ rs', kh r) ∧ rs'.length = rs.length ∧ q5 (zl ds A st a b (some (.int w)) o5 o6 o7 o8 o9 ju) (A ++ [.lst (rs.map bS), .lst Is]) = .nx (zl ds A st a b (some (.int w)) o5 Lo IX FL FN ju) (A ++ [.lst (rs'.map bS), .lst Is]) := by
 have e1 := mj false (w / 4 % 2) 1 (A ++ [.lst (rs.map bS), .lst Is])
 have lr : (rs.map bS).length = rs.length := by simp
 by_cases h : w / 4 % 2 = 1
 ·rw [h] at e1
  obtain ⟨Jp, h22⟩ := mY ds 22 (by omega)
  have I0 : ki (ds.map D.int) 22 = some (.int Jp) := h22
  have k0 : 0 ≤ Jp % (rs.length : Int) := Int.emod_nonneg _ (by omega)
  have k1 : Jp % (rs.length : Int) < rs.length := Int.emod_lt_of_pos Jp (by omega)
  obtain ⟨r, hm, ar⟩ := Ef rs (Jp % (rs.length : Int)) k0 k1
  obtain ⟨nm, kd, od, its⟩ := r
  have ro := hr _ hm
  have rl : its.length ≤ 3 := h3 _ hm
  have ix := Aj k0 k1
  have er : ∀ its', bS ⟨nm, kd, od, its'⟩ = .tup [.str nm, kd, od, .tup (its'.map ck)] := fun _ => rfl
  have Qc : ∀ i ∈ its, sH i := ro.its
  have c1 := nP its ck (·.nm) (fun a _ => ⟨a.r, rfl⟩) (by omega) (zl ds A st a b (some (.int w)) o5 (some (.str nm)) (some kd) (some od) (some (.tup (its.map ck))) ju) (A ++ [.lst (rs.map bS), .lst Is])
  rw [show (its.map fun a => D.str a.nm) = (its.map (·.nm)).map .str by rw [List.map_map]; rfl] at c1
  have hcl : aO ((its.map (·.nm)).map D.str) = true := iz _
  have f2 := iP (G := A ++ [.lst (rs.map bS), .lst Is]) hcl
  have i1 := vq true b (its.map (·.nm)) (A ++ [.lst (rs.map bS), .lst Is]) gb fun y hy => by
   obtain ⟨j, hj, rfl⟩ := List.mem_map.mp hy
   exact (Qc j hj).nm
  simp only [List.append_assoc, List.cons_append, List.nil_append, List.length_append, List.length_cons, List.length_nil, Nat.zero_add] at c1 f2
  have b1 : ((rs.map bS).length : Int) < 1073741824 := by rw [lr]; omega
  have b3 : (0 : Int) < ((rs.map bS).length : Int) := by rw [lr]; omega
  have b5 : (rs.map bS).length < 1073741824 := by rw [lr]; omega
  have b6 : 0 < (rs.map bS).length := by rw [lr]; omega
  have li : (its.map ck).length = its.length := by simp
  rw [er] at ar
  rw [← lr] at ar ix
  by_cases GG : (its.map (·.nm)).contains b = false ∧ its.length < 3
  ·obtain ⟨hc, hlt⟩ := GG
   rw [hc] at i1
   refine ⟨rs.set (Jp % (rs.length : Int)).toNat ⟨nm, kd, od, its ++ [⟨b, [.int 0, .int 1]⟩]⟩, some (.str nm), some kd, some od, some (.tup (its.map ck)), uJ hr ⟨ro.nm, ro.kd, ro.od, by show (its ++ [_]).length ≤ 100; simp; omega, fun i h' => ?_⟩, by simp, ?_⟩
   ·rcases List.mem_append.mp h' with z | z
    ·exact Qc i z
    ·rw [List.mem_singleton.mp z]; exact ⟨gb, by simp [bw, bJ, iR]⟩
   ·rw [List.map_set, er, List.map_append, List.map_cons, List.map_nil]
    have ei : ck ⟨b, [.int 0, .int 1]⟩ = .tup [.str b, .int 0, .int 1] := rfl
    rw [ei, ← lr]
    have ad : ∀ G : DH, dF (.tup (its.map ck)) (.tup [.tup [.str b, .int 0, .int 1]]) G = .ok (.tup (its.map ck ++ [.tup [.str b, .int 0, .int 1]])) G := fun G => by
     have z1 : (its.map ck ++ [D.tup [.str b, .int 0, .int 1]]).length ≤ sizeLine := lz (by simp; omega)
     generalize its.map ck = AD at z1
     cases AD with
     | nil => rfl
     | cons x r =>
      simp only [dF, List.cons_append]
      rw [List.cons_append] at z1
      rw [i6, if_pos z1]
    have b7 : (its.map ck).length < 3 := by rw [li]; exact hlt
    have b8 : ((its.map ck).length : Int) < 3 := by rw [li]; omega
    have z2 : (4 : Nat) ≤ sizeLine := lz (by omega)
    have z3 : (3 : Nat) ≤ sizeLine := lz (by omega)
    have z4 : (1 : Nat) ≤ sizeLine := lz (by omega)
    unfold q5 gT
    generalize (its.map (·.nm)).map D.str = Ns at c1 hcl f2 i1
    generalize its.map ck = AD at *
    generalize rs.map bS = Rs at *
    dsimp! [zj, BY, BX, Dq, h, e1, I0, ar, b1, b3, b5, b6, yH, GA, oh, dI, c1, f2, i1, b7, b8, ad, z2, z3, z4, ix, nu]
  ·refine ⟨rs, some (.str nm), some kd, some od, some (.tup (its.map ck)), hr, rfl, ?_⟩
   unfold q5 gT
   cases hc : (its.map (·.nm)).contains b with
   | true =>
    rw [hc] at i1
    generalize (its.map (·.nm)).map D.str = Ns at c1 hcl f2 i1
    generalize its.map ck = AD at *
    generalize rs.map bS = Rs at *
    simp! [zj, BY, BX, Dq, h, e1, I0, ar, b1, b3, b5, b6, yH, GA, oh, dI, c1, f2, i1]
   | false =>
    rw [hc] at i1
    have hlt : ¬ its.length < 3 := fun z => GG ⟨hc, z⟩
    have b7 : ¬ (its.map ck).length < 3 := by rw [li]; exact hlt
    have b8 : ¬ ((its.map ck).length : Int) < 3 := by rw [li]; omega
    generalize (its.map (·.nm)).map D.str = Ns at c1 hcl f2 i1
    generalize its.map ck = AD at *
    generalize rs.map bS = Rs at *
    simp! [zj, BY, BX, Dq, h, e1, I0, ar, b1, b3, b5, b6, yH, GA, oh, dI, c1, f2, i1, b7, b8]
 ·refine ⟨rs, o6, o7, o8, o9, hr, rfl, ?_⟩
  have e2 : (w / 4 % 2 == 1) = false := beq_false_of_ne h
  rw [e2] at e1
  unfold q5
  generalize rs.map bS = Rs at *
  simp! [e1]
end K17
end
section
set_option Elab.async false
set_option linter.all false
set_option maxRecDepth 100000
set_option maxHeartbeats 1000000
namespace K17
open PySem PySem.Spec L2 L3
noncomputable def q6 : MS := pS (jR (aM (nS false) (aM gn (aj 4) (eC (.int 8))) (eC (.int 1)))) (cu 2 (aM dg (aj 3) (aM eS (aM dg (aj 0) (eC (.int 23))) (eC (.int 2))))) (dS)
theorem Lx (ds : List Int) (hd : ds.length = 24) (A : DH) (st a b : Str) (FO : gd st) (ga : gd a) (gb : gd b) (w : Int) (o5 o6 o7 o8 o9 ju : Option D) (G : DH) :
  ∃ st' : Str, gd st' ∧ q6 (zl ds A st a b (some (.int w)) o5 o6 o7 o8 o9 ju) G = .nx (zl ds A st' a b (some (.int w)) o5 o6 o7 o8 o9 ju) G := by
 have e1 := mj false (w / 8) 1 G
 by_cases h : w / 8 = 1
 ·rw [h] at e1
  obtain ⟨I8, h23⟩ := mY ds 23 (by omega)
  have FP : ki (ds.map D.int) 23 = some (.int I8) := h23
  obtain ⟨d, Tr, ad⟩ := at2 (.str a) (.str b) (I8 % 2) (by omega) (by omega)
  obtain ⟨x, gx, rfl⟩ : ∃ x, gd x ∧ d = .str x := by
   rcases Tr with e | e
   ·exact ⟨a, ga, e⟩
   ·exact ⟨b, gb, e⟩
  refine ⟨x, gx, ?_⟩
  unfold q6
  simp! [h, e1, FP, ad]
 ·refine ⟨st, FO, ?_⟩
  have e2 : (w / 8 == 1) = false := beq_false_of_ne h
  rw [e2] at e1
  unfold q6
  simp! [e1]
noncomputable def q0 (rest : MS) : MS := bu (cu 4 (aM eS (aM dg (aj 0) (eC (.int 17))) (eC (.int 16)))) (bu (cu 5 (aM eS (aM dg (aj 0) (eC (.int 18))) (aG i7 (ah (aj 1) (aL))))) (bu (B3 (GA 6 7 8 9) (aM dg (aj 1) (aj 5))) (bu (cu 9 (aG lZ (ah (aj 9) (aL)))) rest)))
theorem Eg : kO = q0 (bu q1 (bu q2 (bu q3 (bu q4 (bu q5 (bu q6 (jI (aG i6 (ah (aj 2) (ah (aG gM (ah (aj 1) (aL))) (aL))))))))))) := rfl
theorem Ly (rest : MS) (ds : List Int) (hd : ds.length = 24) (A : DH) (st a b : Str) (rs : List lQ) (hr : ∀ r ∈ rs, kh r) (h3 : ∀ r ∈ rs, r.its.length ≤ 3) (r0 : 0 < rs.length) (r8 : rs.length ≤ 8) :
  ∃ (w k : Int) (nm : Str) (kd od : D) (its : List Itm), 0 ≤ k ∧ k < rs.length ∧ kh ⟨nm, kd, od, its⟩ ∧ its.length ≤ 3 ∧
   q0 rest (zl ds A st a b none none none none none none none) (A ++ [.lst (rs.map bS)]) = rest (zl ds A st a b (some (.int w)) (some (.int k)) (some (.str nm)) (some kd) (some od) (some (.obj (A.length + 1))) none) (A ++ [.lst (rs.map bS), .lst (its.map ck)]) := by
 obtain ⟨Qd, Tt⟩ := mY ds 17 (by omega)
 have Og : ki (ds.map D.int) 17 = some (.int Qd) := Tt
 obtain ⟨FQ, Oh⟩ := mY ds 18 (by omega)
 have Ja : ki (ds.map D.int) 18 = some (.int FQ) := Oh
 have lr : (rs.map bS).length = rs.length := by simp
 have k0 : 0 ≤ FQ % (rs.length : Int) := Int.emod_nonneg _ (by omega)
 have k1 : FQ % (rs.length : Int) < rs.length := Int.emod_lt_of_pos FQ (by omega)
 obtain ⟨r, hm, ar⟩ := Ef rs (FQ % (rs.length : Int)) k0 k1
 obtain ⟨nm, kd, od, its⟩ := r
 have rl : its.length ≤ 3 := h3 _ hm
 refine ⟨Qd % 16, FQ % (rs.length : Int), nm, kd, od, its, k0, k1, hr _ hm, rl, ?_⟩
 have er : bS ⟨nm, kd, od, its⟩ = .tup [.str nm, kd, od, .tup (its.map ck)] := rfl
 rw [er] at ar
 rw [← lr] at ar ⊢
 have b1 : ((rs.map bS).length : Int) < 1073741824 := by rw [lr]; omega
 have b3 : (0 : Int) < ((rs.map bS).length : Int) := by rw [lr]; omega
 have b5 : (rs.map bS).length < 1073741824 := by rw [lr]; omega
 have b6 : 0 < (rs.map bS).length := by rw [lr]; omega
 have z1 : (its.map ck).length ≤ sizeLine := lz (by simp; omega)
 unfold q0
 generalize its.map ck = Is at *
 generalize rs.map bS = Rs at *
 simp! [zj, Og, Ja, ar, b1, b3, b5, b6, yH, GA, lZ, di, z1]
theorem Cf (ds : List Int) (hd : ds.length = 24) (A : DH) (st a b : Str) (FO : gd st) (ga : gd a) (gb : gd b) (rs : List lQ) (hr : ∀ r ∈ rs, kh r) (h3 : ∀ r ∈ rs, r.its.length ≤ 3) (r0 : 0 < rs.length) (r8 : rs.length ≤ 8) :
  ∃ (st' : Str) (rs' : List lQ) (B : DH), vt st' rs' ∧ dX [.con (ds.map .int), .obj A.length, .str st, .con [.str a, .str b]] (A ++ [.lst (rs.map bS)]) = .ok (pR st' rs') B := by
 obtain ⟨w, k, nm, kd, od, its, k0, k1, ro, rl, e0⟩ := Ly (bu q1 (bu q2 (bu q3 (bu q4 (bu q5 (bu q6 (jI (aG i6 (ah (aj 2) (ah (aG gM (ah (aj 1) (aL))) (aL))))))))))) ds hd A st a b rs hr h3 r0 r8
 obtain ⟨IY, i1, l1, e1⟩ := Lq ds A st a b (some (.int w)) (some (.int k)) (some (.str nm)) (some kd) (some od) none (rs.map bS) its ro.its rl
 obtain ⟨its2, ju, i2, l2, e2⟩ := Lr ds hd A st a b w (some (.int k)) (some (.str nm)) (some kd) (some od) none (rs.map bS) IY i1 l1
 obtain ⟨zf, i3, l3, e3⟩ := Ls ds hd A st a b ga w (some (.int k)) (some (.str nm)) (some kd) (some od) ju (rs.map bS) its2 i2 l2
 have e4 := Lv ds A st a b (some (.int w)) ju k nm kd od rs k0 k1 zf l3
 have Tu : ∀ r ∈ rs.set k.toNat ⟨nm, kd, od, zf⟩, kh r := uJ hr ⟨ro.nm, ro.kd, ro.od, by show zf.length ≤ 100; omega, i3⟩
 have Tv : ∀ r ∈ rs.set k.toNat ⟨nm, kd, od, zf⟩, r.its.length ≤ 3 := fun r h => by
  rcases List.mem_or_eq_of_mem_set h with z | z
  ·exact h3 r z
  ·rw [z]; exact l3
 obtain ⟨Lz, o6, o7, o8, o9, Tw, l5, e5⟩ := Lw ds hd A st a b gb w (some (.int k)) (some (.str nm)) (some kd) (some od) (some (.obj (A.length + 1))) ju (rs.set k.toNat ⟨nm, kd, od, zf⟩) Tu Tv (by simpa using r0) (by simpa using r8) (zf.map ck)
 rw [List.length_set] at l5
 obtain ⟨Tz, g6, e6⟩ := Lx ds hd A st a b FO ga gb w (some (.int k)) o6 o7 o8 o9 ju (A ++ [.lst (Lz.map bS), .lst (zf.map ck)])
 refine ⟨Tz, Lz, A ++ [.lst (Lz.map bS), .lst (zf.map ck)], ⟨g6, by omega, Tw⟩, ?_⟩
 have z1 : (Lz.map bS).length ≤ sizeLine := lz (by simp; omega)
 have z2 : (2 : Nat) ≤ sizeLine := lz (by omega)
 unfold dX
 rw [Eg, t6]
 show Res.fn (q0 _ (zl ds A st a b none none none none none none none) _) = _
 rw [e0, gf, e1, jz, gf, e2, jz, gf, e3, jz, gf, e4, jz, gf, e5, jz, gf, e6, jz]
 unfold pR
 generalize Lz.map bS = Rs at *
 simp! [zj, gM, z1, z2]
end K17
end
section
set_option Elab.async false
set_option linter.all false
set_option maxRecDepth 100000
set_option maxHeartbeats 1000000
namespace K17
open PySem PySem.Spec L2 L3
theorem zg (x : Str) (l u : Option Int) (h : PyData.strOk x = true) : PyData.strOk (Txt.slice x l u) = true := by
 unfold Txt.slice
 split
 ·exact h
 ·unfold PyData.strOk at h ⊢
  simp only [List.all_toArray, List.all_eq_true, List.mem_filterMap] at h ⊢
  rintro c ⟨i, _, hi⟩
  have h2 := Array.all_eq_true'.mp h c (Array.mem_of_getElem? hi)
  exact h2
theorem Eh : ∀ (l pre : List Str) (x : Str), tw pre l = some x → x ∈ l
 | [], _, _, h => nomatch h
 | y :: l, pre, x, h => by
  rw [tw] at h
  split at h
  ·cases h; simp
  ·exact List.mem_cons_of_mem _ (Eh l _ x h)
theorem Ak (ru : List Str) : ∀ (l : List Str) (x : Str), nr ru l = some x → x ∈ l
 | [], _, h => nomatch h
 | y :: l, x, h => by
  rw [nr] at h
  split at h
  ·exact List.mem_cons_of_mem _ (Ak ru l x h)
  ·cases h; simp
theorem Jb {st : Str} {rs : List lQ} (h : vt st rs) {p : Bool × Str} (e : res st rs = some p) : gd p.2 := by
 unfold res at e
 split at e
 ·rename_i x hx
  cases e
  obtain ⟨r, hr, e⟩ := List.exists_of_findSome?_eq_some hx
  exact xF (h.rs r hr) x (Eh _ _ x e)
 ·split at e
  ·rename_i x hx
   cases e
   rw [List.mem_singleton.mp (Ak _ _ x hx)]
   exact h.st
  ·obtain ⟨x, hx, rfl⟩ := Option.map_eq_some_iff.mp e
   obtain ⟨r, hr, e⟩ := List.exists_of_findSome?_eq_some hx
   exact xF (h.rs r hr) x (Ak _ _ x e)
theorem Jc {st : Str} {rs : List lQ} (h : vt st rs) : ∀ x ∈ Bc (res st rs), gd x := by
 cases e : res st rs with
 | none => unfold Bc; decide +kernel
 | some p =>
  have g := Jb h e
  intro x hx
  unfold Bc at hx
  rcases List.mem_cons.mp hx with z | z
  ·rw [z]
   split <;> decide +kernel
  ·rw [List.mem_singleton.mp z]; exact g
theorem uK : ∀ {ws : List Str}, (∀ x ∈ ws, gd x) → jm (ws.map D.str) = true
 | [], _ => rfl
 | x :: r, h => by
  have h1 : gd x := h x (by simp)
  rw [List.map_cons, jm, uK fun y hy => h y (by simp [hy])]
  show (PyData.strOk x && true) = true
  rw [h1]; rfl
theorem Bj : ∀ (ws : List Str), Es (ws.map D.str) = 0
 | [] => rfl
 | x :: r => by rw [List.map_cons, Es, Bj r]; rfl
theorem Al (g : Bool) (ws : List Str) (h : ∀ x ∈ ws, gd x) (G : DH) : nS g (.con (ws.map .str)) (.con (ws.map .str)) G = .ok (.bl (g ^^ true)) G := by
 refine DC g _ G ?_ ?_
 ·show jm _ = true
  exact uK h
 ·show Es _ + 1 ≤ 580
  rw [Bj]; omega
noncomputable def y1 : MS := pS (oq (jR (aM LR (aj 4) (eC (.int 7)))) (jR (aM (nS false) (aM eS (aM gn (aM dg (aj 1) (eC (.int 23))) (eC (.int 2))) (eC (.int 2))) (eC (.int 1))))) (jk (aM dg (aj 2) (eC (.int 7))) (aj 6) (eC (.int 0))) (dS)
theorem LA (d0 d3 d5 : D) (ds : List Int) (hd : ds.length = 24) (xs : List Str) (hx : xs.length = 8) (hg : ∀ x ∈ xs, gs x) (n : Int) (a b : Str) (ga : gd a) :
  ∃ a', gd a' ∧ y1 [some d0, some (.con (ds.map .int)), some (.con (xs.map .str)), some d3, some (.int n), some d5, some (.obj 0), none] [.lst [.str a, .str b]] = .nx [some d0, some (.con (ds.map .int)), some (.con (xs.map .str)), some d3, some (.int n), some d5, some (.obj 0), none] [.lst [.str a', .str b]] := by
 obtain ⟨I8, h23⟩ := mY ds 23 (by omega)
 have FP : ki (ds.map D.int) 23 = some (.int I8) := h23
 obtain ⟨x, mx, ax⟩ := Bg xs 7 (by omega) (by omega)
 have e1 := mj false (I8 / 2 % 2) 1 [.lst [.str a, .str b]]
 have ix : Bu 2 0 = some 0 := by decide
 by_cases h : n < 7
 ·by_cases h2 : I8 / 2 % 2 = 1
  ·refine ⟨x, (hg x mx).1, ?_⟩
   rw [h2] at e1
   unfold y1
   generalize xs.map D.str = Xs at *
   simp! [h, h2, FP, e1, ax, nu, ix]
  ·refine ⟨a, ga, ?_⟩
   have e2 : (I8 / 2 % 2 == 1) = false := beq_false_of_ne h2
   rw [e2] at e1
   unfold y1
   simp! [h, FP, e1]
 ·refine ⟨a, ga, ?_⟩
  unfold y1
  simp! [h]
noncomputable def y2 : MS := pS (tO (jR (aM (qY false) (aM dg (aj 6) (eC (.int 0))) (eFn (Ck (aj 2) (om) (kj (aj 4)))))) (tO (jR (aM (qY false) (aM dg (aj 6) (eC (.int 1))) (eFn (Ck (aj 2) (om) (kj (aj 4)))))) (jR (aM (nS false) (aM dg (aj 6) (eC (.int 0))) (aM dg (aj 6) (eC (.int 1))))))) (cu 6 (eFn (aG di (ah (eC (.str "qqqq")) (ah (eC (.str "jjjj")) (aL)))))) (dS)
theorem LB (d0 d1 d3 d5 : D) (xs : List Str) (hx : xs.length = 8) (hg : ∀ x ∈ xs, gs x) (n : Nat) (hn : n ≤ 8) (a b : Str) (ga : gd a) (gb : gd b) :
  y2 [some d0, some d1, some (.con (xs.map .str)), some d3, some (.int (n : Int)), some d5, some (.obj 0), none] [.lst [.str a, .str b]] = .nx [some d0, some d1, some (.con (xs.map .str)), some d3, some (.int (n : Int)), some d5, some (.obj 0), none] [.lst [.str a, .str b]] ∨
  y2 [some d0, some d1, some (.con (xs.map .str)), some d3, some (.int (n : Int)), some d5, some (.obj 0), none] [.lst [.str a, .str b]] = .nx [some d0, some d1, some (.con (xs.map .str)), some d3, some (.int (n : Int)), some d5, some (.con [.str "qqqq", .str "jjjj"]), none] [.lst [.str a, .str b]] := by
 have s1 := Bb xs n (by omega) (by omega) [.lst [.str a, .str b]]
 have hw : ∀ x ∈ xs.take n, gd x := fun x h => (hg x (List.mem_of_mem_take h)).1
 have i1 := vq false a (xs.take n) [.lst [.str a, .str b]] ga hw
 have i2 := vq false b (xs.take n) [.lst [.str a, .str b]] gb hw
 have e1 := Ft false a b [.lst [.str a, .str b]] ga gb
 have f1 := cT (G := [.lst [.str a, .str b]]) (ds := [D.str "qqqq", .str "jjjj"]) (lz (by simp)) (c2 _ _)
 generalize (xs.take n).contains a = b1 at i1
 generalize (xs.take n).contains b = b2 at i2
 generalize (a == b) = b3 at e1
 generalize (xs.take n).map D.str = Ts at *
 generalize xs.map D.str = Xs at *
 unfold y2
 cases b1 with
 | true => right; simp! [rL, oh, dI, s1, i1, f1]
 | false =>
  cases b2 with
  | true => right; simp! [rL, oh, dI, s1, i1, i2, f1]
  | false =>
   cases b3 with
   | true => right; simp! [rL, oh, dI, s1, i1, i2, e1, f1]
   | false => left; simp! [rL, oh, dI, s1, i1, i2, e1]
noncomputable def y3 : MS := cu 7 (e9 4 dX (ah (aj 1) (ah (aG lZ (ah (aj 3) (aL))) (ah (aM dg (aj 5) (eC (.int 0))) (ah (Gv (aj 6)) (aL))))))
noncomputable def y4 : MS := bu (pS (tO (jR (aM (nS true) (e9 1 cB (ah (aj 5) (aL))) (eFn (aG di (ah (eC (.str "sound")) (ah (eC (.str "")) (aL))))))) (jR (aM (nS true) (e9 1 cB (ah (aj 7) (aL))) (e9 1 iS (ah (aj 7) (aL)))))) (jI (eC (.bl false))) (dS)) (jI (aM (nS false) (e9 1 cB (ah (aj 5) (aL))) (eFn (aG di (ah (eC (.str "sound")) (ah (eC (.str "")) (aL)))))))
theorem LC : z9 = bu y1 (bu y2 (bu y3 y4)) := rfl
theorem GH (d0 d1 d2 d3 d4 d6 : D) (st st' : Str) (rs rs' : List lQ) (h : vt st rs) (hres : res st rs = none) (h' : vt st' rs') (G : DH) :
  y4 [some d0, some d1, some d2, some d3, some d4, some (pR st rs), some d6, some (pR st' rs')] G = .rt (.bl true) G := by
 have a1 := za st rs h G
 rw [hres] at a1
 have a1' : cB [pR st rs] G = .ok (.con [.str "sound", .str ""]) G := a1
 have a2 := za st' rs' h' G
 have a3 := IV st' rs' h' G
 have q1 := Al true (Bc (res st' rs')) (Jc h') G
 have q2 := Al true ["sound", ""] (by decide +kernel) G
 have q3 := Al false ["sound", ""] (by decide +kernel) G
 have TF : nS true (.con [.str "sound", .str ""]) (.con [.str "sound", .str ""]) G = .ok (.bl false) G := q2
 have TH : nS false (.con [.str "sound", .str ""]) (.con [.str "sound", .str ""]) G = .ok (.bl true) G := q3
 have f1 := cT (G := G) (ds := [D.str "sound", .str ""]) (lz (by simp)) (c2 _ _)
 generalize pR st rs = s1 at *
 generalize pR st' rs' = s2 at *
 generalize (Bc (res st' rs')).map D.str = As at *
 unfold y4
 simp! [a1', a2, a3, q1, TF, TH, dI, f1]
theorem GI (d0 d2 : D) (ds : List Int) (hd : ds.length = 24) (n : Int) (st a b : Str) (FO : gd st) (ga : gd a) (gb : gd b) (rs : List lQ) (hr : ∀ r ∈ rs, kh r) (h3 : ∀ r ∈ rs, r.its.length ≤ 3) (r0 : 0 < rs.length) (r8 : rs.length ≤ 8) (X : DO) (d6 : D) (hX : (Out.ok d6 [X, .lst (rs.map bS)]).fz = .ok (.con [.str a, .str b]) [.dead, .lst (rs.map bS)] ∨ (Out.ok d6 [X, .lst (rs.map bS)]).fz = .ok (.con [.str a, .str b]) [X, .lst (rs.map bS)]) :
  ∃ (st' : Str) (rs' : List lQ) (B : DH), vt st' rs' ∧ y3 [some d0, some (.con (ds.map .int)), some d2, some (.con (rs.map bS)), some (.int n), some (pR st rs), some d6, none] [X] = .nx [some d0, some (.con (ds.map .int)), some d2, some (.con (rs.map bS)), some (.int n), some (pR st rs), some d6, some (pR st' rs')] B := by
 obtain ⟨Y, hY⟩ : ∃ Y, (Out.ok d6 [X, .lst (rs.map bS)]).fz = .ok (.con [.str a, .str b]) [Y, .lst (rs.map bS)] := by
  rcases hX with z | z
  ·exact ⟨_, z⟩
  ·exact ⟨_, z⟩
 obtain ⟨st', rs', B, k1, e1⟩ := Cf ds hd [Y] st a b FO ga gb rs hr h3 r0 r8
 refine ⟨st', rs', B, k1, ?_⟩
 have Az : dX [.con (ds.map .int), .obj 1, .str st, .con [.str a, .str b]] [Y, .lst (rs.map bS)] = .ok (pR st' rs') B := e1
 have z1 : (rs.map bS).length ≤ sizeLine := lz (by simp; omega)
 have TJ : pR st rs = .tup [.str st, .tup (rs.map bS)] := rfl
 rw [TJ]
 generalize pR st' rs' = S' at *
 unfold y3
 generalize rs.map bS = Rs at *
 simp! [lZ, di, z1, rL, hY, Az]
theorem Ei (ns : List Int) (hl : ns.length ≤ 63) : ∃ G, A8 [.con (ns.map .int)] [] = .ok (.bl true) G := by
 obtain ⟨ds, hd, e1⟩ := D9 ns 24 (by omega) hl []
 obtain ⟨xs, hx, hg, e2⟩ := Cc ds hd []
 obtain ⟨rs, r0, r8, hb, e3⟩ := Ec ds hd xs hx hg []
 have hr : ∀ r ∈ rs, kh r := fun r h => (hb r h).ok
 have h3 : ∀ r ∈ rs, r.its.length ≤ 3 := fun r h => (hb r h).len
 obtain ⟨FQ, Oh⟩ := mY ds 18 (by omega)
 have Ja : ki (ds.map D.int) 18 = some (.int FQ) := Oh
 obtain ⟨r, hm, ar⟩ := Ef rs (FQ % (rs.length : Int)) (Int.emod_nonneg _ (by omega)) (Int.emod_lt_of_pos _ (by omega))
 have hst : r.nm ∈ lP rs := by unfold lP; exact List.mem_map.mpr ⟨r, hm, rfl⟩
 have FO := (hr r hm).nm
 have hres := Ed rs hb r.nm hst
 have hsh : vt r.nm rs := ⟨FO, by omega, hr⟩
 have a0 : ki (xs.map D.str) 0 = some (.str (xs[0]'(by omega))) := atS xs 0 _ (List.getElem?_eq_getElem (by omega))
 have a1 : ki (xs.map D.str) 1 = some (.str (xs[1]'(by omega))) := atS xs 1 _ (List.getElem?_eq_getElem (by omega))
 have g0 := hg (xs[0]'(by omega)) (List.getElem_mem _)
 have g1 := hg (xs[1]'(by omega)) (List.getElem_mem _)
 generalize xs[0]'(by omega) = x0 at a0 g0
 generalize xs[1]'(by omega) = x1 at a1 g1
 have sl : ∀ x : Str, gs x → Cj (.str x) none (some 6) [] = .ok (.str (Txt.slice x none (some 6))) [] := fun x h => by
  simp only [Cj, bN]
  rw [if_pos (lz (by have := h.2; omega))]
 have s0 := sl x0 g0
 have s1 := sl x1 g1
 have k0 := zg x0 none (some 6) g0.1
 have k1 := zg x1 none (some 6) g1.1
 have l0 : (Txt.slice x0 none (some 6)).length ≤ 20 := Nat.le_trans (Txt.slice_le x0 _ _) (by have := g0.2; omega)
 have l1 : (Txt.slice x1 none (some 6)).length ≤ 20 := Nat.le_trans (Txt.slice_le x1 _ _) (by have := g1.2; omega)
 generalize Txt.slice x0 none (some 6) = u0 at s0 k0 l0
 generalize Txt.slice x1 none (some 6) = u1 at s1 k1 l1
 have lq : ("q" : Str).length = 1 := by decide +kernel
 have lj : ("j" : Str).length = 1 := by decide +kernel
 have lx : ("x" : Str).length = 1 := by decide +kernel
 have z0 : u0.length + ("q" : Str).length ≤ sizeLine := lz (by omega)
 have z1 : u1.length + ("j" : Str).length ≤ sizeLine := lz (by omega)
 have c1 := rF (τ := [some (.con (ns.map .int)), some (.con (ds.map .int)), some (.con (xs.map .str)), some (.con (rs.map bS)), some (.int (rs.length : Int)), some (pR r.nm rs), none, none]) (G := []) (gO := oN) (ks := []) (te := aM dF (aj 0) (eC (.str "x"))) (own := fun x => [x]) (f := fun d => match d with | .str y => .str (y ++ "x") | _ => .gk) [.str (u0 ++ "q"), .str (u1 ++ "j")] [] (by simp) (fun x _ => rfl) (fun x hx acc => by
  have w0 : (u0 ++ "q").length + ("x" : Str).length ≤ sizeLine := lz (by rw [sQ]; omega)
  have w1 : (u1 ++ "j").length + ("x" : Str).length ≤ sizeLine := lz (by rw [sQ]; omega)
  rcases List.mem_cons.mp hx with z | z
  ·rw [z]
   generalize u0 ++ "q" = v0 at w0
   simp! [w0]
  ·rw [List.mem_singleton.mp z]
   generalize u1 ++ "j" = v1 at w1
   simp! [w1])
 have gq : gd (u0 ++ "q" ++ "x") := good_add (good_add k0 (by decide +kernel)) (by decide +kernel)
 have gj : gd (u1 ++ "j" ++ "x") := good_add (good_add k1 (by decide +kernel)) (by decide +kernel)
 have LD : fG oN [] qg (aM dF (aj 0) (eC (.str "x"))) 0 [.str (u0 ++ "q"), .str (u1 ++ "j")] [some (.con (ns.map .int)), some (.con (ds.map .int)), some (.con (xs.map .str)), some (.con (rs.map bS)), some (.int (rs.length : Int)), some (pR r.nm rs), none, none] [.lst []] = .ok (.obj 0) [.lst [.str (u0 ++ "q" ++ "x"), .str (u1 ++ "j" ++ "x")]] := c1
 clear c1
 generalize u0 ++ "q" ++ "x" = v0 at gq LD
 generalize u1 ++ "j" ++ "x" = v1 at gj LD
 have f1 := cT (G := []) (ds := [D.str (u0 ++ "q"), .str (u1 ++ "j")]) (lz (by simp)) (c2 _ _)
 obtain ⟨Mi, gv, t1⟩ := LA (.con (ns.map .int)) (.con (rs.map bS)) (pR r.nm rs) ds hd xs hx hg (rs.length : Int) v0 v1 gq
 have t2 := LB (.con (ns.map .int)) (.con (ds.map .int)) (.con (rs.map bS)) (pR r.nm rs) xs hx hg rs.length r8 Mi v1 gv gj
 obtain ⟨B, t3⟩ : ∃ B, z9 [some (.con (ns.map .int)), some (.con (ds.map .int)), some (.con (xs.map .str)), some (.con (rs.map bS)), some (.int (rs.length : Int)), some (pR r.nm rs), some (.obj 0), none] [.lst [.str v0, .str v1]] = .rt (.bl true) B := by
  rw [LC, gf, t1, jz, gf]
  rcases t2 with t2 | t2
  ·obtain ⟨st', rs', B, w1, w2⟩ := GI (.con (ns.map .int)) (.con (xs.map .str)) ds hd (rs.length : Int) r.nm Mi v1 FO gv gj rs hr h3 r0 r8 (.lst [.str Mi, .str v1]) (.obj 0) (.inl (by simp [Out.fz]))
   refine ⟨B, ?_⟩
   rw [t2, jz, gf, w2, jz]
   exact GH _ _ _ _ _ _ r.nm st' rs rs' hsh hres w1 B
  ·obtain ⟨st', rs', B, w1, w2⟩ := GI (.con (ns.map .int)) (.con (xs.map .str)) ds hd (rs.length : Int) r.nm "qqqq" "jjjj" FO (by decide +kernel) (by decide +kernel) rs hr h3 r0 r8 (.lst [.str Mi, .str v1]) (.con [.str "qqqq", .str "jjjj"]) (.inr (by simp [Out.fz]))
   refine ⟨B, ?_⟩
   rw [t2, jz, gf, w2, jz]
   exact GH _ _ _ _ _ _ r.nm st' rs rs' hsh hres w1 B
 refine ⟨[], ?_⟩
 unfold A8
 refine qu (R := B) ?_ jS
 have Az : fB [.con (ns.map .int), .int 24] [] = .ok (.con (ds.map .int)) [] := e1
 have lr : (rs.map bS).length = rs.length := by simp
 have b1 : ((rs.map bS).length : Int) < 1073741824 := by rw [lr]; omega
 have b3 : (0 : Int) < ((rs.map bS).length : Int) := by rw [lr]; omega
 have b5 : (rs.map bS).length < 1073741824 := by rw [lr]; omega
 have b6 : 0 < (rs.map bS).length := by rw [lr]; omega
 have z5 : (rs.map bS).length ≤ sizeLine := lz (by rw [lr]; omega)
 have z6 : (2 : Nat) ≤ sizeLine := lz (by omega)
 have z7 : u0.length + 1 ≤ sizeLine := lz (by omega)
 have z8 : u1.length + 1 ≤ sizeLine := lz (by omega)
 have er : bS r = .tup [.str r.nm, r.kd, r.od, .tup (r.its.map ck)] := rfl
 have d0 : pR r.nm rs = .tup [.str r.nm, .tup (rs.map bS)] := rfl
 rw [er] at ar
 rw [← lr] at ar LD t3
 rw [d0] at LD t3
 unfold A7
 generalize rs.map bS = Rs at *
 generalize xs.map D.str = Xs at *
 generalize ds.map D.int = Ds at *
 generalize r.nm = nm at *
 simp! [Az, e2, e3, Ja, ar, b1, b3, b5, b6, DZ, gM, z5, z6, a0, a1, s0, s1, dI, f1, LD, t3, lq, lj, z7, z8]
end K17
end
end
section
set_option Elab.async false
set_option linter.all false
set_option maxRecDepth 100000
set_option maxHeartbeats 4000000
namespace K17
open PySem PySem.Spec L2 L3
theorem walk {l : PySem.W.OpenLaw} {qq : Program} {loose : List Str} {XP : (Str → Option Value) → Heap → Prop} {YP : World → Heap → Prop} {d : DefRec} {K : Params → PySem.W.Frag} (hn : l.most = some 63) (hdf : d.params.defaults = [])
    (hY : ∀ (w : World) (h : Heap), YP w h → (K w.params).In h)
    (F : ∀ (w : World) (mg : Str → Option Value) (fa : Addr) (h : Heap), (K w.params).In h → h.Ns mainGlobals mg → mg d.name = some (.ref fa) → ∃ t, Txt (K w.params) mg t ∧ (t.f 11) = fa ∧ ∀ (s : Shared) (u : Value), BindsTo s (t.d 11) ⟨[u], []⟩ [("_law_script", u)]) :
    PySem.W.WalkO qq loose XP YP l.row.toRowW d [] (fun f vs => PySem.call f vs) :=
  L2.EU (n := 63) (k := 6) (x := "_law_script") (CX := fun w => iL l.prog w) (sp := fun w => Gi (K w.params)) hn (by decide) hdf ⟨rfl, by decide, by decide⟩ hY (fun w mg fa h KX G hm => by
    obtain ⟨t, T, rfl, hb⟩ := F w mg fa h KX G hm
    exact ⟨(t.d 11), hb, fun base _ _ => (IT T).imp (Dl Ei)⟩) (fun _ _ a ns hl hO hS => ⟨a, ns, rfl, Iw hO hS, hl, fun _ => rfl⟩) fun _ _ _ _ _ ⟨_, _, _, _, _, _, _, _, _, _, z⟩ => z
end K17
end
open PySem PySem.W PyProof.Rows
set_option maxRecDepth 100000 in
set_option maxHeartbeats 0 in
theorem PySem.Challenge.cw_pathshape_k17_sound_shapes_holds : PySem.Challenge.rw_pathshape_k17_sound_shapes.Holds := by
  w_on; o_law; k_head; (case hw => w_witness2)
  k_fill
  refine K17.walk (l := PySem.Challenge.rw_pathshape_k17_sound_shapes) rfl rfl (fun w h Y => PySem.W.kIn_of Y) ?F
  case F =>
    intro w mg fa h KX G hmg
    have T : ∃ t, K17.Txt (L2.KOf KX) mg t ∧ ∃ kV dc pm an cd ct, (t.d 11) = PySem.W.fnOf "law" "law" (L2.aZ K17.cU) (L2.aT K17.cU) (L2.aa K17.cU) .none kV dc pm an cd ct := by
      dsimp only [L2.KOf]
      refine' K17.IL KX G ?my_a0 ?my_l0 ?my_c0 ?my_k0 ?my_a1 ?my_l1 ?my_c1 ?my_k1 ?my_a2 ?my_l2 ?my_c2 ?my_k2 ?my_a3 ?my_l3 ?my_c3 ?my_k3 ?my_a4 ?my_l4 ?my_c4 ?my_k4 ?my_a5 ?my_l5 ?my_c5 ?my_k5 ?my_a6 ?my_l6 ?my_c6 ?my_k6 ?my_a7 ?my_l7 ?my_c7 ?my_k7 ?my_a8 ?my_l8 ?my_c8 ?my_k8 ?my_a9 ?my_l9 ?my_c9 ?my_k9 ?my_a10 ?my_l10 ?my_c10 ?my_k10 ?my_a11 ?my_l11 ?my_c11 ?my_k11 ?my_z0 ?my_z1 ?my_z2 ?my_z3 ?my_z4 ?my_z5 ?my_z6 ?my_z7 ?my_cm0 ?my_cm1 ?my_cm2 ?my_cm3 ?my_cm4 ?my_cm5 ?my_cm6 ?my_cm7 ?my_cm8 ?my_na0 ?my_nb0 ?my_nd0 ?my_ne0 ?my_nf0 ?my_ng0 ?my_nh0 ?my_ni0 ?my_nj0 ?my_nk0 ?my_nl0 ?my_nm0 ?my_nn0 ?my_no0 ?my_np0 ?my_nq0 ?my_nr0 ?my_na1 ?my_nb1 ?my_nd1 ?my_ne1 ?my_nf1 ?my_ng1 ?my_nh1 ?my_ni1 ?my_nj1 ?my_nk1 ?my_nl1 ?my_nm1 ?my_nn1 ?my_no1 ?my_np1 ?my_nq1 ?my_nr1 ?my_cx0 ?my_cx1 ?my_cx2 ?my_cx3 ?my_ci0 ?my_ci1 ?my_ci2 ?my_ci3 ?my_ci4 ?my_ci5 ?my_ci6 ?my_ci7 ?my_ci8 ?my_ci9 ?my_ci10 ?my_ci11 ?my_ci12 ?my_ci13 ?my_ci14 ?my_ci15 ?my_ci16 ?my_ci17 ?my_cj0 ?my_cj1
      (case my_a0 => k_is)
      (case my_l0 => k_is)
      (case my_c0 => k_is)
      (case my_k0 => k_is)
      (case my_a1 => k_is)
      (case my_l1 => k_is)
      (case my_c1 => k_is)
      (case my_k1 => k_is)
      (case my_a2 => k_is)
      (case my_l2 => k_is)
      (case my_c2 => k_is)
      (case my_k2 => k_is)
      (case my_a3 => k_is)
      (case my_l3 => k_is)
      (case my_c3 => k_is)
      (case my_k3 => k_is)
      (case my_a4 => k_is)
      (case my_l4 => k_is)
      (case my_c4 => k_is)
      (case my_k4 => k_is)
      (case my_a5 => k_is)
      (case my_l5 => k_is)
      (case my_c5 => k_is)
      (case my_k5 => k_is)
      (case my_a6 => k_is)
      (case my_l6 => k_is)
      (case my_c6 => k_is)
      (case my_k6 => k_is)
      (case my_a7 => k_is)
      (case my_l7 => k_is)
      (case my_c7 => k_is)
      (case my_k7 => k_is)
      (case my_a8 => k_is)
      (case my_l8 => k_is)
      (case my_c8 => k_is)
      (case my_k8 => k_is)
      (case my_a9 => k_is)
      (case my_l9 => k_is)
      (case my_c9 => k_is)
      (case my_k9 => k_is)
      (case my_a10 => k_is)
      (case my_l10 => k_is)
      (case my_c10 => k_is)
      (case my_k10 => k_is)
      (case my_a11 => k_is)
      (case my_l11 => k_is)
      (case my_c11 => k_is)
      (case my_k11 => k_is)
      (case my_z0 => k_is)
      (case my_z1 => k_is)
      (case my_z2 => k_is)
      (case my_z3 => k_is)
      (case my_z4 => k_is)
      (case my_z5 => k_is)
      (case my_z6 => k_is)
      (case my_z7 => k_is)
      (case my_cm0 => k_is)
      (case my_cm1 => k_is)
      (case my_cm2 => k_is)
      (case my_cm3 => k_is)
      (case my_cm4 => k_is)
      (case my_cm5 => k_is)
      (case my_cm6 => k_is)
      (case my_cm7 => k_is)
      (case my_cm8 => k_is)
      (case my_na0 => k_is)
      (case my_nb0 => rfl)
      (case my_nd0 => rfl)
      (case my_ne0 => k_is)
      (case my_nf0 => k_is)
      (case my_ng0 => k_is)
      (case my_nh0 => k_is)
      (case my_ni0 => k_is)
      (case my_nj0 => k_is)
      (case my_nk0 => k_is)
      (case my_nl0 => k_is)
      (case my_nm0 => k_is)
      (case my_nn0 => k_is)
      (case my_no0 => kernel_rfl)
      (case my_np0 => k_is)
      (case my_nq0 => k_is)
      (case my_nr0 => k_is)
      (case my_na1 => k_is)
      (case my_nb1 => rfl)
      (case my_nd1 => rfl)
      (case my_ne1 => k_is)
      (case my_nf1 => k_is)
      (case my_ng1 => k_is)
      (case my_nh1 => k_is)
      (case my_ni1 => k_is)
      (case my_nj1 => k_is)
      (case my_nk1 => k_is)
      (case my_nl1 => k_is)
      (case my_nm1 => k_is)
      (case my_nn1 => k_is)
      (case my_no1 => kernel_rfl)
      (case my_np1 => k_is)
      (case my_nq1 => k_is)
      (case my_nr1 => k_is)
      (case my_cx0 => kts_exm)
      (case my_cx1 => kts_exm)
      (case my_cx2 => kts_exm)
      (case my_cx3 => kts_exm)
      (case my_ci0 => kit_is)
      (case my_ci1 => kit_is)
      (case my_ci2 => kit_is)
      (case my_ci3 => kit_is)
      (case my_ci4 => kit_is)
      (case my_ci5 => kit_is)
      (case my_ci6 => kit_is)
      (case my_ci7 => kit_is)
      (case my_ci8 => kit_is)
      (case my_ci9 => kit_is)
      (case my_ci10 => kit_is)
      (case my_ci11 => kit_is)
      (case my_ci12 => kit_is)
      (case my_ci13 => kit_is)
      (case my_ci14 => kit_is)
      (case my_ci15 => kit_is)
      (case my_ci16 => kit_is)
      (case my_ci17 => kit_is)
      (case my_cj0 => kit_is)
      (case my_cj1 => kit_is)
    obtain ⟨t, T, kV, dc, pm, an, cd, ct, e⟩ := T
    have e0 := hmg.symm.trans T.M_law
    cases e0
    exact ⟨t, T, rfl, fun s u => by rw [e]; exact .of_eq rfl⟩
