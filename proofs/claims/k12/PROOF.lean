import PyProof.Rows.All
import Wide.All
import OpenK.AllK
import Wide.FinOn
import Lean
import PyProof.EqAt
import PyProof.EqKinds
import PyProof.TupleCall
import PyProof.StrWalks
import KE.KTryMore
import PyProof.ZipIter
import PyProof.Rows.Range3
import PyProof.Draws
import PyProof.WalksMore
import PyProof.ExcBaseAll.ValueError
import PyProof.StrReplace2
import PyProof.FactsAll.range_2
import KE.KRevIter
import PySem.Challenge.RW_pathshape_k12_trees_written
section
set_option Elab.async false
set_option linter.all false
set_option maxRecDepth 100000
namespace L2
open PySem PySem.Spec PyProof.Rows
noncomputable abbrev Key := Sum Int Str
noncomputable def Jo : Key → Value → Bool
  | .inl k, v => Value.isInt k v
  | .inr x, v => Value.isStrOf x v
noncomputable def Po (w : World) : Key → Int
  | .inl k => hashInt k
  | .inr x => hashStr w x
theorem dH : ∀ {k : Key} {v : Value}, Jo k v = true → (∃ i t, k = Sum.inl i ∧ v = Value.int i t) ∨ (∃ x t, k = Sum.inr x ∧ v = Value.str x t)
  | .inl i, v, h => by
    obtain ⟨t, e⟩ := Value.isInt_shape (k := i) (v := v) h
    exact .inl ⟨i, t, rfl, e⟩
  | .inr x, v, h => by
    obtain ⟨t, e⟩ := Value.isStrOf_shape (x := x) (v := v) h
    exact .inr ⟨x, t, rfl, e⟩
theorem JW (a b : Int) : decide ((Sum.inl a : Key) = Sum.inl b) = (a == b) := by
  by_cases e : a = b
  · subst e; simp
  · have h : ¬ (Sum.inl a : Key) = Sum.inl b := fun q => e (Sum.inl.inj q)
    rw [decide_eq_false h]
    exact (beq_eq_false_iff_ne.mpr e).symm
theorem JX (a b : Str) : decide ((Sum.inr a : Key) = Sum.inr b) = decide (a = b) := by
  by_cases e : a = b
  · subst e; simp
  · have h : ¬ (Sum.inr a : Key) = Sum.inr b := fun q => e (Sum.inr.inj q)
    rw [decide_eq_false h, decide_eq_false e]
theorem JY (a : Int) (b : Str) : decide ((Sum.inl a : Key) = Sum.inr b) = false := decide_eq_false (fun q => nomatch q)
theorem JZ (a : Str) (b : Int) : decide ((Sum.inr a : Key) = Sum.inl b) = false := decide_eq_false (fun q => nomatch q)
noncomputable def xS (prog : Program) (w : World) : PySem.KeyKind prog w Key where
  is := Jo
  hash := Po w
  inj := fun v a b ha hb => by
    rcases dH ha with ⟨i, t, rfl, rfl⟩ | ⟨x, t, rfl, rfl⟩
    · rcases dH hb with ⟨j, u, rfl, e⟩ | ⟨y, u, rfl, e⟩
      · injection e with e1 _; rw [e1]
      · exact nomatch e
    · rcases dH hb with ⟨j, u, rfl, e⟩ | ⟨y, u, rfl, e⟩
      · exact nomatch e
      · injection e with e1 _; rw [e1]
  byValue := fun k v h => by
    rcases dH h with ⟨i, t, rfl, rfl⟩ | ⟨x, t, rfl, rfl⟩ <;> rfl
  pyHash := fun hv h => by
    rcases dH hv with ⟨i, t, rfl, rfl⟩ | ⟨x, t, rfl, rfl⟩
    · exact wpAny_pyHash_int h
    · exact wpAny_pyHash_str h
  eqBool := fun hu hv h => by
    rcases dH hu with ⟨i, t, rfl, rfl⟩ | ⟨x, t, rfl, rfl⟩
    · rcases dH hv with ⟨j, u, rfl, rfl⟩ | ⟨y, u, rfl, rfl⟩
      · rw [JW] at h; exact wpAny_eqBool_int h
      · rw [JY] at h; exact SeqAt.EqAt.int_str i t y u _ _ _ _ h
    · rcases dH hv with ⟨j, u, rfl, rfl⟩ | ⟨y, u, rfl, rfl⟩
      · rw [JZ] at h; exact SeqAt.EqAt.str_int x t j u _ _ _ _ h
      · rw [JX] at h; exact wpAny_eqBool_str h
  «strs» := fun k x t v h => by
    rcases dH h with ⟨i, u, rfl, e⟩ | ⟨y, u, rfl, e⟩
    · exact nomatch e
    · injection e with e1 _
      subst e1
      cases v <;> rfl
end L2
namespace L2
open PySem PySem.Spec PyProof.Rows
inductive V where
  | eY | bl (b : Bool) | int (i : Int) | str (x : Str) | Mi (b : Array UInt8) | Mj (b : UInt64) | ref (a : Addr) | ty (n : String)
  deriving DecidableEq
noncomputable def RelV : V → Value → Prop
  | .eY, u => u = Value.none
  | .bl b, u => u = Value.bool b
  | .int i, u => ∃ t, u = Value.int i t
  | .str x, u => ∃ t, u = Value.str x t
  | .Mi b, u => ∃ t, u = Value.bytes b t
  | .Mj b, u => ∃ t, u = Value.float b t
  | .ref a, u => u = Value.ref a
  | .ty n, u => u = Value.type n
noncomputable abbrev Vals : List V → List Value → Prop := Paired RelV
theorem Vals.length {xs : List V} {us : List Value} (r : Vals xs us) : xs.length = us.length := Paired.length r
theorem Vals.get : ∀ {xs : List V} {us : List Value} {i : Nat} {x : V}, Vals xs us → xs[i]? = some x → ∃ u, us[i]? = some u ∧ RelV x u
  | _, _, _, _, .nil, e => by simp at e
  | _, _, 0, _, .cons r _, e => by simp at e; subst e; exact ⟨_, rfl, r⟩
  | _, _, i + 1, x, .cons _ t, e => by
    obtain ⟨u, h1, h2⟩ := Vals.get (i := i) (x := x) t (by simpa using e)
    exact ⟨u, by simpa using h1, h2⟩
theorem Vals.set {x : V} {u : Value} (r : RelV x u) : ∀ {xs : List V} {us : List Value} (i : Nat), Vals xs us → Vals (xs.set i x) (us.set i u)
  | _, _, _, .nil => .nil
  | _, _, 0, .cons _ t => .cons r t
  | _, _, i + 1, .cons q t => .cons q (Vals.set r i t)
theorem Vals.append : ∀ {xs ys : List V} {us ws : List Value}, Vals xs us → Vals ys ws → Vals (xs ++ ys) (us ++ ws)
  | _, _, _, _, .nil, s => s
  | _, _, _, _, .cons r t, s => .cons r (Vals.append t s)
theorem Vals.take : ∀ {xs : List V} {us : List Value} (n : Nat), Vals xs us → Vals (xs.take n) (us.take n)
  | _, _, 0, _ => .nil
  | _, _, _ + 1, .nil => .nil
  | _, _, n + 1, .cons r t => .cons r (Vals.take n t)
theorem Vals.drop : ∀ {xs : List V} {us : List Value} (n : Nat), Vals xs us → Vals (xs.drop n) (us.drop n)
  | _, _, 0, r => r
  | _, _, _ + 1, .nil => .nil
  | _, _, n + 1, .cons _ t => Vals.drop n t
noncomputable def Hr : Option V → Option Value → Prop
  | some v, some u => RelV v u
  | none, none => True
  | _, _ => False
noncomputable def KV {κ : Type} : List (κ × V) → List (κ × Value) → Prop := Paired fun (p : κ × V) (q : κ × Value) => p.1 = q.1 ∧ RelV p.2 q.2
noncomputable def kV : Key → V
  | .inl i => .int i
  | .inr x => .str x
inductive HO where
  | lst (xs : List V)
  | tup (xs : List V)
  | dK (kvs : List (Key × V)) | dT (kvs : List (List Key × V))
  | set (S : Int → Bool) (n : Nat)
  | ins (C dx : Addr) (fs : List (Str × V))
  | own (x : Addr)
  | xd (fs : List (Str × V))
  | met (f x : Addr)
  | tR (lo hi : Int)
  | oS (o : Obj) (u : HO)
  | zv (ps : Array Value)
  | ext (φ : Heap → Prop)
noncomputable abbrev Hp := Addr → Option HO
noncomputable def upd (H : Hp) (a : Addr) (o : HO) : Hp := fun b => if b = a then some o else H b
theorem fU {H : Hp} {a : Addr} {o : HO} : upd H a o a = some o := by unfold upd; rw [if_pos rfl]
theorem aZ {H : Hp} {a b : Addr} {o : HO} (h : b ≠ a) : upd H a o b = H b := by unfold upd; rw [if_neg h]
theorem kK {H : Hp} {a b : Addr} {o u : HO} (h : H a = some o) (h' : H b = some u) (d : o ≠ u) : a ≠ b := by
  intro e; subst e; rw [h] at h'; exact d (Option.some.inj h')
theorem cV {H : Hp} {a b : Addr} {o : HO} (h : H a = some o) (h' : H b = none) : a ≠ b := by
  intro e; subst e; rw [h] at h'; cases h'
section
variable (P : Program) (w : World)
noncomputable def jO (H : Hp) (h : Heap) (a : Addr) : HO → Prop
  | .lst xs => xs.length ≤ sizeLine ∧ ∃ (its : List Value) (n : Nat), Vals xs its ∧ h.get? a = some { cls := .type "list", data := .seq its.toArray n }
  | .tup xs => xs.length ≤ sizeLine ∧ ∃ its : List Value, Vals xs its ∧ IsTup h a its.toArray
  | .dK kvs => kvs.length ≤ sizeLine ∧ (a == sysModules) = false ∧ ∃ vs, KV kvs vs ∧ h.DictOf (xS P w) a vs
  | .dT kvs => kvs.length ≤ sizeLine ∧ (a == sysModules) = false ∧ ∃ xs : List (List Key × Addr × Value),
      Paired (fun (p : List Key × V) (q : List Key × Addr × Value) => p.1 = q.1 ∧ H q.2.1 = some (.tup (p.1.map kV)) ∧ RelV p.2 q.2.2) kvs xs ∧
      ∃ o es ep, h.get? a = some o ∧ o.ExactDict ∧ o.data = .dict es ep ∧ es.toList = xs.map (entryOfKey (tupleKind (xS P w))) ∧ (xs.map (·.1)).Nodup
  | .set S n => h.SetOf (intKind P w) a S n
  | .ins C dx fs => H dx = some (.own a) ∧ fs.length ≤ 1000 ∧ dx ≠ a ∧ h.get? a = some (PySem.W.instObj C dx) ∧
      ∃ mA, h.Ns1 dx mA ∧ (∀ f, Hr (fs.lookup f) (mA f)) ∧ PySem.Within mA (fs.map (·.1))
  | .own _ => ∃ o, h.get? a = some o
  | .xd fs => ∃ mA, h.Ns1 a mA ∧ ∀ f, Hr (fs.lookup f) (mA f)
  | .tR lo hi => ∃ t u v, h.get? a = some { cls := .type "range", data := .fields #[.int lo t, .int hi u, .int 1 v] }
  | .oS o u => h.get? a = some o ∧ jO H h a u
  | .zv ps => h.get? a = some { cls := .none, data := .fields ps }
  | .met f x => h.get? a = some (PySem.W.methodObj (.ref f) (.ref x))
  | .ext φ => φ h ∧ (∃ o, h.get? a = some o) ∧ ∀ h1 h2 : Heap, φ h1 → (∀ o, h1.get? a = some o → h2.get? a = some o) → φ h2
noncomputable def qe (H : Hp) (h : Heap) : Prop := ∀ a o, H a = some o → jO P w H h a o
end
section
variable {P : Program} {w : World} {H H' : Hp} {h h' : Heap} {a : Addr} {o : HO}
theorem jO.lt (x : jO P w H h a o) : a < h.objs.size := by
  cases o with
  | lst xs => obtain ⟨_, _, _, _, e⟩ := x; exact Heap.lt_size e
  | tup xs => obtain ⟨_, _, _, p⟩ := x; exact p.lt
  | dK kvs => obtain ⟨_, _, _, _, o, _, _, e, _⟩ := x; exact Heap.lt_size e
  | dT kvs => obtain ⟨_, _, _, _, o, _, _, e, _⟩ := x; exact Heap.lt_size e
  | set S n => obtain ⟨o, _, _, _, e, _⟩ := x; exact Heap.lt_size e
  | ins C dx fs => obtain ⟨_, _, _, e, _⟩ := x; exact Heap.lt_size e
  | own y => obtain ⟨_, e⟩ := x; exact Heap.lt_size e
  | xd fs => obtain ⟨_, ⟨_, _, _, e, _⟩, _⟩ := x; exact Heap.lt_size e
  | tR lo hi => obtain ⟨_, _, _, e⟩ := x; exact Heap.lt_size e
  | oS ob u => obtain ⟨e, _⟩ := x; exact Heap.lt_size e
  | zv ps => exact Heap.lt_size (show h.get? a = some _ from x)
  | met f y => exact Heap.lt_size (show h.get? a = some _ from x)
  | ext φ => obtain ⟨_, ⟨_, e⟩, _⟩ := x; exact Heap.lt_size e
theorem Paired.J0 {α β : Type} {F G : α → β → Prop} : ∀ {l₁ : List α} {l₂ : List β}, Paired F l₁ l₂ → (∀ a b, F a b → G a b) → Paired G l₁ l₂
  | _, _, .nil, _ => .nil
  | _, _, .cons r t, f => .cons (f _ _ r) (Paired.J0 t f)
theorem jO.stay (x : jO P w H h a o) (k : ∀ b u, (b = a ∨ H b = some (.own a)) → h.get? b = some u → h'.get? b = some u)
    (ho : ∀ b, H b = some (.own a) → H' b = some (.own a)) (ht : ∀ b xs, H b = some (.tup xs) → H' b = some (.tup xs)) : jO P w H' h' a o := by
  induction o with
  | lst xs => obtain ⟨z, its, n, r, e⟩ := x; exact ⟨z, its, n, r, k _ _ (.inl rfl) e⟩
  | tup xs => obtain ⟨z, its, r, ob, e, c⟩ := x; exact ⟨z, its, r, ob, k _ _ (.inl rfl) e, c⟩
  | dK kvs => obtain ⟨z, y, vs, r, ob, es, ep, e, c⟩ := x; exact ⟨z, y, vs, r, ob, es, ep, k _ _ (.inl rfl) e, c⟩
  | dT kvs =>
    obtain ⟨z, y, xs, r, ob, es, ep, e, c⟩ := x
    exact ⟨z, y, xs, Paired.J0 r fun p q z => ⟨z.1, ht _ _ z.2.1, z.2.2⟩, ob, es, ep, k _ _ (.inl rfl) e, c⟩
  | set S n => obtain ⟨ob, es, ep, t, e, c⟩ := x; exact ⟨ob, es, ep, t, k _ _ (.inl rfl) e, c⟩
  | ins C dx fs =>
    obtain ⟨d, z, ne, e, mA, ⟨od, es, ep, e2, c⟩, r⟩ := x
    exact ⟨ho _ d, z, ne, k _ _ (.inl rfl) e, mA, ⟨od, es, ep, k _ _ (.inr d) e2, c⟩, r⟩
  | own y => obtain ⟨ob, e⟩ := x; exact ⟨ob, k _ _ (.inl rfl) e⟩
  | xd fs => obtain ⟨mA, ⟨od, es, ep, e, c⟩, r⟩ := x; exact ⟨mA, ⟨od, es, ep, k _ _ (.inl rfl) e, c⟩, r⟩
  | tR lo hi => obtain ⟨t, u, v, e⟩ := x; exact ⟨t, u, v, k _ _ (.inl rfl) e⟩
  | oS ob u ih => obtain ⟨e, q⟩ := x; exact ⟨k _ _ (.inl rfl) e, ih q⟩
  | zv ps =>
    have e : h.get? a = some { cls := .none, data := .fields ps } := x
    show h'.get? a = some { cls := .none, data := .fields ps }
    exact k a _ (.inl rfl) e
  | met f y =>
    have e : h.get? a = some (PySem.W.methodObj (.ref f) (.ref y)) := x
    show h'.get? a = some (PySem.W.methodObj (.ref f) (.ref y))
    exact k a _ (.inl rfl) e
  | ext φ => obtain ⟨p, ⟨o, e⟩, st⟩ := x; exact ⟨st _ _ p fun o q => k _ _ (.inl rfl) q, ⟨o, k _ _ (.inl rfl) e⟩, st⟩
theorem qe.lt (x : qe P w H h) (e : H a = some o) : a < h.objs.size := (x a o e).lt
theorem qe.fresh (x : qe P w H h) (e : h.objs.size ≤ a) : H a = none := by
  cases q : H a with
  | none => rfl
  | some u => exact absurd (Nat.lt_of_lt_of_le (x.lt q) e) (Nat.lt_irrefl _)
theorem qe.kept (x : qe P w H h) (k : ∀ b u, h.get? b = some u → h'.get? b = some u) : qe P w H h' := fun a o e =>
  (x a o e).stay (fun b u _ q => k b u q) (fun _ q => q) fun _ _ q => q
theorem qe.laid (x : qe P w H h) (k : ∀ b u, h.get? b = some u → h'.get? b = some u) (hp : h.objs.size ≤ a) (new : jO P w (upd H a o) h' a o) : qe P w (upd H a o) h' := fun b u e => by
  have hn := x.fresh hp
  by_cases hb : b = a
  · subst hb; rw [fU] at e; cases e; exact new
  · rw [aZ hb] at e
    exact (x b u e).stay (fun c v _ q => k c v q) (fun c q => by rw [aZ (cV q hn)]; exact q) fun c xs q => by rw [aZ (cV q hn)]; exact q
end
noncomputable def Rd (H : Hp) (a : Addr) (u : HO) : Prop := H a = some u ∨ ∃ o, H a = some (.oS o u)
theorem Rd.of {H : Hp} {a : Addr} {u : HO} (h : H a = some u) : Rd H a u := .inl h
theorem Rd.ok {P : Program} {w : World} {H : Hp} {h : Heap} {a : Addr} {u : HO} (r : Rd H a u) (x : qe P w H h) : jO P w H h a u := by
  rcases r with r | ⟨o, r⟩
  · exact x a u r
  · obtain ⟨_, q⟩ := x a _ r
    exact q
noncomputable def OQ : Option HO → Prop
  | some (.lst _) => True
  | some (.dK _) => True
  | some (.dT _) => True
  | some (.set _ _) => True
  | some (.ins _ _ _) => True
  | some (.ext _) => True
  | _ => False
section
variable {P : Program} {w : World} {H : Hp} {h h' : Heap} {x e : Addr} {o' : HO}
theorem qe.write (ok : qe P w H h) (mu : OQ (H x)) (he : e = x ∨ H e = some (.own x)) (k : ∀ b u, b ≠ e → h.get? b = some u → h'.get? b = some u) (Ma : ∃ u, h'.get? e = some u)
    (new : jO P w (upd H x o') h' x o') : qe P w (upd H x o') h' := fun b u q => by
  have Ml : ∀ c y, H c = some (.own y) → c ≠ x := fun c y r z => by subst z; rw [r] at mu; exact mu
  have Pp : ∀ c xs, H c = some (.tup xs) → c ≠ x := fun c xs r z => by subst z; rw [r] at mu; exact mu
  by_cases hb : b = x
  · subst hb; rw [fU] at q; cases q; exact new
  · rw [aZ hb] at q
    by_cases G9 : b = e
    · have q' : H b = some (.own x) := by
        rcases he with z | z
        · exact absurd (G9.trans z) hb
        · rw [G9]; exact z
      rw [q] at q'; cases q'
      obtain ⟨v, hv⟩ := Ma
      exact ⟨v, by rw [G9]; exact hv⟩
    · refine (ok b u q).stay (fun c v hc r => k c v ?_ r) (fun c r => by rw [aZ (Ml c b r)]; exact r) fun c xs r => by rw [aZ (Pp c xs r)]; exact r
      rcases hc with rfl | hc
      · exact G9
      · rintro rfl
        rcases he with z | z
        · exact Ml c b hc z
        · rw [hc] at z; cases z; exact hb rfl
end
structure Un (fs ex : List Addr) (H H' : Hp) (h h' : Heap) : Prop where
  keep : ∀ b o, h.get? b = some o → H b = none → b ∉ fs → b ∉ ex → h'.get? b = some o
  slot : ∀ b o, h.get? b = some o → H b = none → b ∈ fs → b ∉ ex → ∃ sl, h'.get? b = some { o with slots := sl }
  free : ∀ b o, h.get? b = some o → H b = none → b ∉ ex → H' b = none
  there : ∀ b o, h.get? b = some o → b ∉ ex → ∃ o', h'.get? b = some o'
  tups : ∀ b xs, H b = some (.tup xs) → H' b = some (.tup xs)
  oG : ∀ b o u, H b = some (.oS o u) → H' b = some (.oS o u)
  pC : ∀ b ps, H b = some (.zv ps) → ∃ more, H' b = some (.zv (ps ++ more))
section
variable {fs fs' ex ex' : List Addr} {H H1 H2 : Hp} {h h1 h2 h' : Heap} {a x e : Addr} {o : HO}
theorem Un.any (u : Un fs ex H H1 h h1) {b : Addr} {ob : Obj} (q : h.get? b = some ob) (n : H b = none) (hx : b ∉ ex) : ∃ sl, h1.get? b = some { ob with slots := sl } := by
  by_cases hb : b ∈ fs
  · exact u.slot b ob q n hb hx
  · exact ⟨ob.slots, u.keep b ob q n hb hx⟩
theorem Un.kept (k : ∀ b u, h.get? b = some u → h'.get? b = some u) : Un fs ex H H h h' :=
  ⟨fun b ob q _ _ _ => k b ob q, fun b ob q _ _ _ => ⟨ob.slots, k b ob q⟩, fun _ _ _ n _ => n, fun b ob q _ => ⟨ob, k b ob q⟩, fun _ _ q => q, fun _ _ _ q => q, fun _ ps q => ⟨#[], by rw [q]; simp⟩⟩
theorem Un.refl : Un fs ex H H h h := Un.kept fun _ _ q => q
theorem Un.laid (k : ∀ b u, h.get? b = some u → h'.get? b = some u) (hp : h.objs.size ≤ a) (hn : H a = none) : Un fs ex H (upd H a o) h h' where
  keep := fun b u q _ _ _ => k b u q
  slot := fun b u q _ _ _ => ⟨u.slots, k b u q⟩
  free := fun b u q n _ => by rw [aZ (Nat.ne_of_lt (Nat.lt_of_lt_of_le (Heap.lt_size q) hp))]; exact n
  there := fun b u q _ => ⟨u, k b u q⟩
  tups := fun b xs q => by rw [aZ (cV q hn)]; exact q
  oG := fun b u xs q => by rw [aZ (cV q hn)]; exact q
  pC := fun b ps q => ⟨#[], by rw [aZ (cV q hn), q]; simp⟩
theorem Un.write (mu : OQ (H x)) (he : e = x ∨ H e = some (.own x)) (k : ∀ b u, b ≠ e → h.get? b = some u → h'.get? b = some u) (Ma : ∃ u, h'.get? e = some u) : Un fs ex H (upd H x o) h h' := by
  have hx : ∀ b, H b = none → b ≠ x := fun b n z => by subst z; rw [n] at mu; exact mu
  have hb : ∀ b, H b = none → b ≠ e := fun b n z => by
    subst z
    rcases he with r | r
    · exact hx b n r
    · rw [n] at r; cases r
  have hm : ∀ b u, H b = some u → ¬ OQ (some u) → b ≠ x := fun b u q nm z => by subst z; rw [q] at mu; exact nm mu
  refine ⟨fun b u q n _ _ => k b u (hb b n) q, fun b u q n _ _ => ⟨u.slots, k b u (hb b n) q⟩, fun b u q n _ => by rw [aZ (hx b n)]; exact n, fun b u q _ => ?_,
    fun b xs q => by rw [aZ (hm b _ q fun z => z)]; exact q, fun b u xs q => by rw [aZ (hm b _ q fun z => z)]; exact q, fun b ps q => ⟨#[], by rw [aZ (hm b _ q fun z => z), q]; simp⟩⟩
  by_cases G9 : b = e
  · subst G9; exact Ma
  · exact ⟨u, k b u G9 q⟩
end
noncomputable def OR (h : Heap) (H : Hp) : List Addr := (List.range h.objs.size).filter fun a => (H a).isSome
noncomputable def xT (h : Heap) (H : Hp) : Heap := PySem.W.hideAll h (OR h H)
theorem Dg (h : Heap) (H : Hp) : (xT h H).objs.size = h.objs.size := PySem.W.hideAll_size _ _
theorem Eu {h : Heap} {H : Hp} {b : Addr} {o : Obj} (e : h.get? b = some o) (n : H b = none) : (xT h H).get? b = some o :=
  PySem.W.hideAll_get _ e fun hm => by
    have q : (H b).isSome = true := (List.mem_filter.mp hm).2
    rw [n] at q; simp at q
theorem Hs {h : Heap} {H : Hp} {b : Addr} {o : Obj} (e : (xT h H).get? b = some o) : h.get? b = some o ∧ H b = none := by
  have e' : h.get? b = some o := PySem.W.of_hideAll (OR h H) e
  refine ⟨e', ?_⟩
  cases q : H b with
  | none => rfl
  | some x =>
    have hm : b ∈ OR h H := List.mem_filter.mpr ⟨List.mem_range.mpr (Heap.lt_size e'), by simp [q]⟩
    have z : (xT h H).get? b = none := PySem.W.hideAll_none (OR h H) hm
    rw [z] at e; cases e
noncomputable def Ht (g h : Heap) (L : Addr) : List (Addr × Obj) := (List.range h.objs.size).filterMap fun a => if a = L ∨ (g.get? a).isSome = true then none else (h.get? a).map fun o => (a, o)
noncomputable def rest (g h : Heap) (L d : Addr) : List (Addr × Obj) := (Ht g h L).filter fun p => decide (p.1 ≠ d)
end L2
namespace L2
open PySem PySem.Spec PyProof.Rows
structure Mod (K : PySem.W.Frag) (mg : Str → Option Value) (base : Heap) : Prop where
  J1 : K.In base
  glob : base.Ns mainGlobals mg
  blt : ∃ mb, base.Ns builtinsNs mb ∧ ∀ x : Str, x ≠ "__name__" → mb x = bootBuiltins x
  nolimit : base.NoLimit
structure Cx where
  prog : Program
  w : World
  K : PySem.W.Frag
  mg : Str → Option Value
  base : Heap
  A : Around
  N : List Str
  s₀ : Shared
  H₀ : Hp
  env : Env
  outer : List Env
  stack : List Env
  ex : List Addr
  fn : Str → Bool
  calm : Bool
  pn : List (Addr × Obj)
  xe : Value → Shared → Prop
noncomputable def frs (l : List Env) : List Addr := l.filterMap (·.frame)
noncomputable abbrev Cx.fs (X : Cx) : List Addr := frs X.outer
noncomputable def J2 (sc : Scope) (x : Str) : Prop := sc.names.lookup x = some .local ∨ sc.names.lookup x = some .cell ∨ sc.names.lookup x = some .free
noncomputable def Loc (sc : Scope) (x : Str) : Prop := sc.names.lookup x = some .local ∨ sc.names.lookup x = some .cell
noncomputable def Look (env : Env) (h : Heap) (m : Str → Option Value) (x : Str) (u : Value) : Prop :=
  (env.kindOf x = some .local ∧ m x = some u) ∨ ((env.kindOf x = some .cell ∨ env.kindOf x = some .free) ∧ ∃ c, env.cells.lookup x = some c ∧ h.IsCell c (some u))
structure Cx.Ok (X : Cx) : Prop where
  mod : Mod X.K X.mg X.base
  kind : X.env.scope.kind = .function
  glob : X.env.globals = mainGlobals
  blt : X.env.builtins = builtinsNs
  above : X.s₀.heap.objs.size ≤ X.env.locals
  inj : ∀ x y c, X.env.cells.lookup x = some c → X.env.cells.lookup y = some c → x = y
  has : ∀ x, (X.env.kindOf x = some .cell ∨ X.env.kindOf x = some .free) → ∃ c, X.env.cells.lookup x = some c
  Pq : ∀ x c, X.fn x = true → X.env.cells.lookup x = some c → X.s₀.heap.objs.size ≤ c
  hd : X.calm = true → X.A.handled = none
  frames : X.A.frames = some X.stack
  stk : X.stack = X.outer ∨ (X.stack = X.env :: X.outer ∧ X.env.frame = some X.env.locals)
  W6 : ∀ b ∈ X.ex, b ≠ X.env.locals ∧ ∀ x c, X.env.cells.lookup x = some c → c ≠ b
  bs : ∀ b o, X.base.get? b = some o → X.s₀.heap.get? b = some o ∧ X.H₀ b = none
  Jp : X.base.objs.size ≤ X.s₀.heap.objs.size
  J3 : ∀ b o, X.base.get? b = some o → b ∉ X.ex
  J4 : ∀ b ∈ X.ex, b ∉ X.fs
  tS : X.s₀.heap.FunFrames X.base X.outer
  J5 : ∀ b ∈ X.fs, X.H₀ b = none
structure Inv (X : Cx) (pins : List (Addr × Obj)) (σ : List (Option V)) (H : Hp) (s : Shared) : Prop where
  ok : X.Ok
  os : s.os = X.s₀.os ∧ 0 < s.toks
  bare : AllBare s.gens
  base : Un X.fs X.ex X.H₀ H X.s₀.heap s.heap
  loc : ∃ m, s.heap.Ns X.env.locals m ∧ ∀ (i : Nat) (x : Str) (v : V), X.N[i]? = some x → σ[i]? = some (some v) → J2 X.env.scope x → ∃ u, RelV v u ∧ Look X.env s.heap m x u
  cell : ∀ x c, X.env.cells.lookup x = some c → ∃ v, s.heap.IsCell c v
  free : H X.env.locals = none
  oU : ∀ x c, X.env.cells.lookup x = some c → H c = none
  pin : ∀ p ∈ X.pn ++ pins, s.heap.get? p.1 = some p.2 ∧ H p.1 = none ∧ p.1 ≠ X.env.locals ∧ p.1 ∉ X.fs ∧ ∀ v, p.2.data ≠ .cell v
  hok : qe X.prog X.w H s.heap
  len : σ.length = X.N.length
section
variable {X : Cx} {pins : List (Addr × Obj)} {σ : List (Option V)} {H H' : Hp} {s : Shared} {h' : Heap}
theorem Cx.Ok.Pr (ok : X.Ok) {b : Addr} {o : Obj} (e : X.base.get? b = some o) : b ∉ X.fs := fun hb => by
  have := (ok.tS.mem hb).1
  rw [e] at this; cases this
theorem Inv.bs (I : Inv X pins σ H s) : ∀ b o, X.base.get? b = some o → s.heap.get? b = some o ∧ H b = none := fun b o e =>
  ⟨I.base.keep b o (I.ok.bs b o e).1 (I.ok.bs b o e).2 (I.ok.Pr e) (I.ok.J3 b o e), I.base.free b o (I.ok.bs b o e).1 (I.ok.bs b o e).2 (I.ok.J3 b o e)⟩
theorem Inv.bk (I : Inv X pins σ H s) : ∀ b o, X.base.get? b = some o → s.heap.get? b = some o := fun b o e => (I.bs b o e).1
theorem Inv.mod (I : Inv X pins σ H s) : Mod X.K X.mg X.base := I.ok.mod
theorem Inv.A0 (I : Inv X pins σ H s) : X.K.In s.heap := I.ok.mod.J1.keeps I.bk
theorem Inv.nolimit (I : Inv X pins σ H s) : s.heap.NoLimit := I.ok.mod.nolimit.keeps I.bk
theorem Inv.fr (I : Inv X pins σ H s) : ∃ m, Fr X.base X.env.locals s.heap m :=
  let ⟨m, hn, _⟩ := I.loc
  ⟨m, hn, I.bk, Nat.le_trans I.ok.Jp I.ok.above⟩
theorem Inv.lt (I : Inv X pins σ H s) : X.env.locals < s.heap.objs.size := let ⟨_, hn, _⟩ := I.loc; hn.lt
theorem Inv.sz (I : Inv X pins σ H s) : X.s₀.heap.objs.size ≤ s.heap.objs.size := Nat.le_trans I.ok.above (Nat.le_of_lt I.lt)
theorem Inv.Mm (I : Inv X pins σ H s) {a : Addr} (h : s.heap.objs.size ≤ a) : a ∉ X.fs := fun hb => by
  obtain ⟨_, o, ho, _⟩ := I.ok.tS.mem hb
  exact absurd (Nat.lt_of_lt_of_le (Heap.lt_size ho) (Nat.le_trans I.sz h)) (Nat.lt_irrefl _)
theorem Inv.Hf (I : Inv X pins σ H s) : ∀ x c, X.env.cells.lookup x = some c → c ≠ X.env.locals := fun x c e z => by
  obtain ⟨v, o, ho, hd⟩ := I.cell x c e
  obtain ⟨m, ⟨o', es, ep, ho', hd', _⟩, _⟩ := I.loc
  rw [z, ho'] at ho; cases ho; rw [hd'] at hd; cases hd
theorem Inv.tS (I : Inv X pins σ H s) : s.heap.FunFrames X.base X.outer := by
  have all : ∀ (l : List Env), (∀ b ∈ frs l, b ∈ X.fs) → X.s₀.heap.FunFrames X.base l → s.heap.FunFrames X.base l := by
    intro l
    induction l with
    | nil => intro _ _; trivial
    | cons env r ih =>
      intro hs hl
      obtain ⟨hk, ⟨L, o, hf, hn, ho, hd⟩, hr⟩ := hl
      have hL : L ∈ X.fs := hs L (by unfold frs; rw [List.filterMap_cons, hf]; exact List.mem_cons_self)
      obtain ⟨sl, e⟩ := I.base.slot L o ho (I.ok.J5 L hL) hL fun z => I.ok.J4 L z hL
      exact ⟨hk, ⟨L, _, hf, hn, e, hd⟩, ih (fun b hb => hs b (by unfold frs; rw [List.filterMap_cons, hf]; exact List.mem_cons_of_mem _ hb)) hr⟩
  exact all X.outer (fun _ hb => hb) I.ok.tS
theorem Inv.stack (I : Inv X pins σ H s) : s.heap.FunFrames X.base X.stack := by
  rcases I.ok.stk with e | ⟨e, hf⟩
  · rw [e]; exact I.tS
  · rw [e]
    obtain ⟨m, hn, _⟩ := I.loc
    refine .cons (by rw [I.ok.kind]; decide) hf hn ?_ I.tS
    exact Heap.get?_none_of_le (Nat.le_trans I.ok.Jp I.ok.above)
theorem Inv.lC (I : Inv X pins σ H s) : ∀ b ∈ frs X.stack, b ∈ X.env.locals :: X.fs := fun b hb => by
  rcases I.ok.stk with e | ⟨e, hf⟩
  · rw [e] at hb; exact List.mem_cons_of_mem _ hb
  · rw [e] at hb
    unfold frs at hb
    rw [List.filterMap_cons, hf] at hb
    exact hb
theorem Inv.qg (I : Inv X pins σ H s) : ∀ b ∈ frs X.stack, H b = none := fun b hb => by
  rcases List.mem_cons.mp (I.lC b hb) with e | hb
  · rw [e]; exact I.free
  · obtain ⟨_, o, ho, _⟩ := I.ok.tS.mem hb
    exact I.base.free b o ho (I.ok.J5 b hb) fun z => I.ok.J4 b z hb
theorem Inv.step {g' : Array GenState} {t' : Nat} {d' : Drawn} {ch : List Addr} (I : Inv X pins σ H s)
    (hch : ∀ b ∈ ch, (b ∈ X.ex ∨ X.s₀.heap.objs.size ≤ b) ∧ b ≠ X.env.locals ∧ (∀ x c, X.env.cells.lookup x = some c → c ≠ b) ∧ ∀ p ∈ X.pn ++ pins, p.1 ≠ b)
    (keep : ∀ b o, b ≠ X.env.locals → b ∉ X.fs → b ∉ ch → s.heap.get? b = some o → H b = none → h'.get? b = some o)
    (slot : ∀ b o, b ≠ X.env.locals → b ∈ X.fs → b ∉ ch → s.heap.get? b = some o → H b = none → ∃ sl, h'.get? b = some { o with slots := sl }) (free : ∀ b o, b ∉ ch → s.heap.get? b = some o → H b = none → H' b = none)
    (there : ∀ b o, b ∉ ch → s.heap.get? b = some o → ∃ o', h'.get? b = some o')
    (tups : ∀ b xs, H b = some (.tup xs) → H' b = some (.tup xs)) (oG : ∀ b o u, H b = some (.oS o u) → H' b = some (.oS o u)) (pC : ∀ b ps, H b = some (.zv ps) → ∃ more, H' b = some (.zv (ps ++ more)))
    (ns : ∀ m, s.heap.Ns X.env.locals m → h'.Ns X.env.locals m) (hok : qe X.prog X.w H' h') (hg : AllBare g') (ht : 0 < t' := by first | exact Nat.succ_pos _ | exact (Inv.os (by assumption)).2 | assumption | omega) :
    Inv X pins σ H' { s with heap := h', gens := g', drawn := d', toks := t' } := by
  have Cf : ∀ b o, X.s₀.heap.get? b = some o → b ≠ X.env.locals := fun b o e => Nat.ne_of_lt (Nat.lt_of_lt_of_le (Heap.lt_size e) I.ok.above)
  have Jq : ∀ b o, X.s₀.heap.get? b = some o → b ∉ X.ex → b ∉ ch := fun b o e hx hb => by
    rcases (hch b hb).1 with z | z
    · exact hx z
    · exact absurd (Nat.lt_of_lt_of_le (Heap.lt_size e) z) (Nat.lt_irrefl _)
  have cellK : ∀ x c, X.env.cells.lookup x = some c → ∀ v, s.heap.IsCell c v → h'.IsCell c v := fun x c e v ⟨o, ho, hd⟩ => by
    have Mn : c ∉ ch := fun z => (hch c z).2.2.1 x c e rfl
    by_cases hc : c ∈ X.fs
    · obtain ⟨sl, q⟩ := slot c o (I.Hf x c e) hc Mn ho (I.oU x c e)
      exact ⟨_, q, hd⟩
    · exact ⟨o, keep c o (I.Hf x c e) hc Mn ho (I.oU x c e), hd⟩
  refine ⟨I.ok, ⟨I.os.1, ht⟩, hg, ⟨fun b o e n hb hx => ?_, fun b o e n hb hx => ?_, fun b o e n hx => ?_, fun b o e hx => ?_, fun b xs e => tups b xs (I.base.tups b xs e), fun b o xs e => oG b o xs (I.base.oG b o xs e), fun b ps e => ?_⟩, ?_, fun x c e => ?_, ?_, fun x c e => ?_, fun p hp => ?_, hok, I.len⟩
  · exact keep b o (Cf b o e) hb (Jq b o e hx) (I.base.keep b o e n hb hx) (I.base.free b o e n hx)
  · obtain ⟨sl, e1⟩ := I.base.slot b o e n hb hx
    obtain ⟨Mp, e2⟩ := slot b _ (Cf b o e) hb (Jq b o e hx) e1 (I.base.free b o e n hx)
    exact ⟨Mp, e2⟩
  · obtain ⟨o', e1⟩ := I.base.there b o e hx
    exact free b o' (Jq b o e hx) e1 (I.base.free b o e n hx)
  · obtain ⟨o', e1⟩ := I.base.there b o e hx
    exact there b o' (Jq b o e hx) e1
  · obtain ⟨m1, e1⟩ := I.base.pC b ps e
    obtain ⟨m2, e2⟩ := pC b _ e1
    exact ⟨m1 ++ m2, by rw [e2, Array.append_assoc]⟩
  · obtain ⟨m, hn, hl⟩ := I.loc
    refine ⟨m, ns m hn, fun i x v e1 e2 e3 => ?_⟩
    obtain ⟨u, r, l⟩ := hl i x v e1 e2 e3
    refine ⟨u, r, ?_⟩
    rcases l with l | ⟨k, c, e, z⟩
    · exact .inl l
    · exact .inr ⟨k, c, e, cellK x c e _ z⟩
  · obtain ⟨v, z⟩ := I.cell x c e
    exact ⟨v, cellK x c e v z⟩
  · obtain ⟨m, ⟨o, _, _, ho, _⟩, _⟩ := I.loc
    exact free _ o (fun z => (hch _ z).2.1 rfl) ho I.free
  · obtain ⟨v, o, ho, hd⟩ := I.cell x c e
    exact free c o (fun z => (hch c z).2.2.1 x c e rfl) ho (I.oU x c e)
  · obtain ⟨e, n, ne, nf, d⟩ := I.pin p hp
    have Mn : p.1 ∉ ch := fun z => (hch p.1 z).2.2.2 p hp rfl
    exact ⟨keep p.1 p.2 ne nf Mn e n, free p.1 p.2 Mn e n, ne, nf, d⟩
theorem Inv.un {t' : Nat} (I : Inv X pins σ H s) (u : Un X.fs [] H H' s.heap h') (hok : qe X.prog X.w H' h') (ht : 0 < t' := by first | exact Nat.succ_pos _ | exact (Inv.os (by assumption)).2 | assumption | omega) : Inv X pins σ H' { s with heap := h', toks := t' } := by
  obtain ⟨m, ⟨o, es, ep, ho, r⟩, _⟩ := id I.loc
  obtain ⟨sl, hL⟩ := u.any ho I.free (by simp)
  exact I.step (g' := s.gens) (d' := s.drawn) (ch := []) (fun _ z => nomatch z) (fun b o _ hb _ e n => u.keep b o e n hb (by simp)) (fun b o _ hb _ e n => u.slot b o e n hb (by simp)) (fun b o _ e n => u.free b o e n (by simp)) (fun b o _ e => u.there b o e (by simp)) u.tups u.oG u.pC (fun m' hm => by
    obtain ⟨o', es', Pu, ho', r'⟩ := hm
    rw [ho] at ho'; cases ho'
    exact ⟨_, es', Pu, hL, r'⟩) hok I.bare
theorem Inv.call {g' : Array GenState} {t' : Nat} {d' : Drawn} {ch : List Addr} (I : Inv X pins σ H s) (u : Un (frs X.stack) ch H H' s.heap h') (hok : qe X.prog X.w H' h') (hg : AllBare g')
    (hch : ∀ b ∈ ch, (b ∈ X.ex ∨ X.s₀.heap.objs.size ≤ b) ∧ b ≠ X.env.locals ∧ (∀ x c, X.env.cells.lookup x = some c → c ≠ b) ∧ ∀ p ∈ X.pn ++ pins, p.1 ≠ b) (ht : 0 < t' := by first | exact Nat.succ_pos _ | exact (Inv.os (by assumption)).2 | assumption | omega) :
    Inv X pins σ H' { s with heap := h', gens := g', drawn := d', toks := t' } := by
  obtain ⟨m, ⟨o, es, ep, ho, r⟩, _⟩ := id I.loc
  obtain ⟨sl, hL⟩ := u.any ho I.free fun z => (hch _ z).2.1 rfl
  exact I.step (ch := ch) hch (fun b o hL hb hc e n => u.keep b o e n (fun z => (List.mem_cons.mp (I.lC b z)).elim hL hb) hc) (fun b o _ _ hc e n => u.any e n hc) (fun b o hc e n => u.free b o e n hc) (fun b o hc e => u.there b o e hc) u.tups u.oG u.pC (fun m' hm => by
    obtain ⟨o', es', Pu, ho', r'⟩ := hm
    rw [ho] at ho'; cases ho'
    exact ⟨_, es', Pu, hL, r'⟩) hok hg
theorem Inv.turned {t' : Nat} {it : Addr} (I : Inv X pins σ H s) (k : ∀ b o, b ≠ it → s.heap.get? b = some o → h'.get? b = some o) (hn : H it = none) (hL : it ≠ X.env.locals)
    (h1 : it ∈ X.ex ∨ X.s₀.heap.objs.size ≤ it) (h2 : ∀ x c, X.env.cells.lookup x = some c → c ≠ it) (h3 : ∀ p ∈ X.pn ++ pins, p.1 ≠ it) (ht : 0 < t' := by first | exact Nat.succ_pos _ | exact (Inv.os (by assumption)).2 | assumption | omega) : Inv X pins σ H { s with heap := h', toks := t' } := by
  have Sh : ∀ b u, H b = some u → b ≠ it := fun b u e z => by rw [z, hn] at e; cases e
  refine I.step (g' := s.gens) (d' := s.drawn) (ch := [it]) (fun b hb => ?_) (fun b o _ _ hc e _ => k b o (fun z => hc (by simp [z])) e) (fun b o _ _ hc e _ => ⟨o.slots, k b o (fun z => hc (by simp [z])) e⟩) (fun _ _ _ _ n => n)
    (fun b o hc e => ⟨o, k b o (fun z => hc (by simp [z])) e⟩) (fun _ _ e => e) (fun _ _ _ e => e) (fun b ps e => ⟨#[], by rw [e]; simp⟩) (fun m hm => ?_) (fun b u e => ?_) I.bare
  · have e : b = it := by simpa using hb
    subst e
    exact ⟨h1, hL, h2, h3⟩
  · obtain ⟨o, es, ep, ho, r⟩ := hm
    exact ⟨o, es, ep, k _ o (Ne.symm hL) ho, r⟩
  · refine (I.hok b u e).stay (fun c v hc q => k c v ?_ q) (fun _ q => q) fun _ _ q => q
    rcases hc with z | z
    · rw [z]; exact Sh b u e
    · exact Sh c _ z
theorem Inv.tok (I : Inv X pins σ H s) (t' : Nat) (ht : 0 < t' := by first | exact Nat.succ_pos _ | exact (Inv.os (by assumption)).2 | assumption | omega) : Inv X pins σ H { s with toks := t' } := I.un (h' := s.heap) (t' := t') Un.refl I.hok
theorem kL {α : Type} {M : Model} {A : Around} {t : Sem α} {Q : α → Shared → Prop} {E : Value → Shared → Prop} {s : Shared} (h : 0 < s.toks) (h' : wpAny M A t (fun a s' => 0 < s'.toks → Q a s') (fun e s' => 0 < s'.toks → E e s') s) : wpAny M A t Q E s := wpAny_with_toks (n := 1) h h'
theorem Inv.kept {t' : Nat} (I : Inv X pins σ H s) (k : ∀ b u, s.heap.get? b = some u → h'.get? b = some u) (ht : 0 < t' := by first | exact Nat.succ_pos _ | exact (Inv.os (by assumption)).2 | assumption | omega) : Inv X pins σ H { s with heap := h', toks := t' } := I.un (Un.kept k) (I.hok.kept k)
theorem Inv.laid {a : Addr} {o : HO} {t' : Nat} (I : Inv X pins σ H s) (k : ∀ b u, s.heap.get? b = some u → h'.get? b = some u) (hp : s.heap.objs.size ≤ a) (new : jO X.prog X.w (upd H a o) h' a o) (ht : 0 < t' := by first | exact Nat.succ_pos _ | exact (Inv.os (by assumption)).2 | assumption | omega) :
    Inv X pins σ (upd H a o) { s with heap := h', toks := t' } := I.un (Un.laid k hp (I.hok.fresh hp)) (I.hok.laid k hp new)
theorem Inv.write {x e : Addr} {o : HO} {t' : Nat} (I : Inv X pins σ H s) (mu : OQ (H x)) (he : e = x ∨ H e = some (.own x)) (k : ∀ b u, b ≠ e → s.heap.get? b = some u → h'.get? b = some u) (Ma : ∃ u, h'.get? e = some u)
    (new : jO X.prog X.w (upd H x o) h' x o) (ht : 0 < t' := by first | exact Nat.succ_pos _ | exact (Inv.os (by assumption)).2 | assumption | omega) : Inv X pins σ (upd H x o) { s with heap := h', toks := t' } := I.un (Un.write mu he k Ma) (I.hok.write mu he k Ma new)
theorem Inv.qh {jP : List (Addr × Obj)} (I : Inv X pins σ H s) (h : ∀ p ∈ jP, s.heap.get? p.1 = some p.2 ∧ H p.1 = none ∧ p.1 ≠ X.env.locals ∧ p.1 ∉ X.fs ∧ ∀ v, p.2.data ≠ .cell v) : Inv X jP σ H s :=
  ⟨I.ok, I.os, I.bare, I.base, I.loc, I.cell, I.free, I.oU, fun p hp => (List.mem_append.mp hp).elim (fun z => I.pin p (List.mem_append_left _ z)) (h p), I.hok, I.len⟩
theorem zx {N : List Str} (hN : N.Nodup) {i j : Nat} {x : Str} (a : N[i]? = some x) (b : N[j]? = some x) : i = j := by
  obtain ⟨h1, e1⟩ := List.getElem?_eq_some_iff.mp a
  obtain ⟨h2, e2⟩ := List.getElem?_eq_some_iff.mp b
  exact (List.getElem_inj hN).mp (e1.trans e2.symm)
theorem wL {M : Model} {A : Around} {E : Value → Shared → Prop} {i : Nat} {x : Str} {v : V} {u : Value} {Q : Unit → Shared → Prop} (I : Inv X pins σ H s) (hN : X.N.Nodup) (hi : X.N[i]? = some x) (hx : Loc X.env.scope x) (r : RelV v u)
    (h : ∀ s', Inv X pins (σ.set i (some v)) H s' → (∃ a, Heap.SameBut a s.heap s'.heap ∧ (a = X.env.locals ∨ X.env.cells.lookup x = some a)) → Q () s') (hf : X.fn x = true ∨ X.env.scope.names.lookup x = some .local := by first | exact .inl rfl | exact .inr rfl | assumption) : wpAny M A (storeName X.env x u) Q E s := by
  obtain ⟨m, hn, hl⟩ := id I.loc
  have hcls : (X.env.scope.kind == .class || (X.env.scope.kind == .module && X.env.locals != X.env.globals)) = false := by rw [I.ok.kind]; rfl
  have Si : i < σ.length := by rw [I.len]; exact (List.getElem?_eq_some_iff.mp hi).1
  have Hf := I.Hf
  have tracked : ∀ {a : Addr} {h' : Heap}, (∃ o, s.heap.get? a = some o ∧ H a = none) → Heap.SameBut a s.heap h' → qe X.prog X.w H h' := fun {a h'} ha hs b ob e => by
    obtain ⟨_, _, hfree⟩ := ha
    refine (I.hok b ob e).stay (fun c w' hc q => (hs.2 c ?_).trans q) (fun _ q => q) fun _ _ q => q
    rintro rfl
    rcases hc with rfl | hc
    · rw [hfree] at e; cases e
    · rw [hfree] at hc; cases hc
  rcases hx with hk | hk
  · refine wpAny_storeName_local hk hn (fun h' hn' hs => ?_) hcls
    obtain ⟨oL, _, _, Sj, _⟩ := id hn
    refine h _ ⟨I.ok, ⟨I.os.1, Nat.succ_pos _⟩, I.bare, ⟨fun b o e n hb hx => ?_, fun b o e n hb hx => ?_, I.base.free, fun b o e hx => ?_, I.base.tups, I.base.oG, I.base.pC⟩, ⟨_, hn', fun j y v' e1 e2 e3 => ?_⟩, fun y c e => ?_, I.free, I.oU, fun p hp => ?_, tracked ⟨oL, Sj, I.free⟩ hs, by simpa using I.len⟩ ⟨_, hs, .inl rfl⟩
    · exact (hs.2 b (Nat.ne_of_lt (Nat.lt_of_lt_of_le (Heap.lt_size e) I.ok.above))).trans (I.base.keep b o e n hb hx)
    · obtain ⟨sl, e1⟩ := I.base.slot b o e n hb hx
      exact ⟨sl, (hs.2 b (Nat.ne_of_lt (Nat.lt_of_lt_of_le (Heap.lt_size e) I.ok.above))).trans e1⟩
    · obtain ⟨o', e1⟩ := I.base.there b o e hx
      exact ⟨o', (hs.2 b (Nat.ne_of_lt (Nat.lt_of_lt_of_le (Heap.lt_size e) I.ok.above))).trans e1⟩
    · by_cases hj : j = i
      · subst hj
        rw [hi] at e1; cases e1
        rw [List.getElem?_set_self Si] at e2
        cases e2
        exact ⟨u, r, .inl ⟨hk, by simp⟩⟩
      · rw [List.getElem?_set_ne (Ne.symm hj)] at e2
        obtain ⟨u', r', q⟩ := hl j y v' e1 e2 e3
        refine ⟨u', r', ?_⟩
        rcases q with ⟨k, e⟩ | ⟨k, c, e, z⟩
        · refine .inl ⟨k, ?_⟩
          have : y ≠ x := fun e => hj (zx hN e1 (e ▸ hi))
          simp [this, e]
        · exact .inr ⟨k, c, e, z.sameBut hs (Hf y c e)⟩
    · obtain ⟨w', z⟩ := I.cell y c e
      exact ⟨w', z.sameBut hs (Hf y c e)⟩
    · obtain ⟨e, n, ne, nf, d⟩ := I.pin p hp
      exact ⟨(hs.2 p.1 ne).trans e, n, ne, nf, d⟩
  · have hfn : X.fn x = true := by
      rcases hf with z | z
      · exact z
      · rw [z] at hk; cases hk
    obtain ⟨c, hc⟩ := I.ok.has x (.inl hk)
    obtain ⟨w', z⟩ := I.cell x c hc
    refine wpAny_storeName_cell I.ok.kind hk hc z (fun h' hc' hs => ?_)
    obtain ⟨oc, hoc, Pw⟩ := id z
    refine h { s with heap := h' } ⟨I.ok, I.os, I.bare, ⟨fun b o e n hb hx => ?_, fun b o e n hb hx => ?_, I.base.free, fun b o e hx => ?_, I.base.tups, I.base.oG, I.base.pC⟩, ⟨m, hn.sameBut hs (Ne.symm (Hf x c hc)), fun j y v' e1 e2 e3 => ?_⟩, fun y c' e => ?_, I.free, I.oU, fun p hp => ?_, tracked ⟨oc, hoc, I.oU x c hc⟩ hs, by simpa using I.len⟩ ⟨c, hs, .inr hc⟩
    · exact (hs.2 b (Nat.ne_of_lt (Nat.lt_of_lt_of_le (Heap.lt_size e) (I.ok.Pq x c hfn hc)))).trans (I.base.keep b o e n hb hx)
    · obtain ⟨sl, e1⟩ := I.base.slot b o e n hb hx
      exact ⟨sl, (hs.2 b (Nat.ne_of_lt (Nat.lt_of_lt_of_le (Heap.lt_size e) (I.ok.Pq x c hfn hc)))).trans e1⟩
    · obtain ⟨o', e1⟩ := I.base.there b o e hx
      exact ⟨o', (hs.2 b (Nat.ne_of_lt (Nat.lt_of_lt_of_le (Heap.lt_size e) (I.ok.Pq x c hfn hc)))).trans e1⟩
    · by_cases hj : j = i
      · subst hj
        rw [hi] at e1; cases e1
        rw [List.getElem?_set_self Si] at e2
        cases e2
        exact ⟨u, r, .inr ⟨.inl hk, c, hc, hc'⟩⟩
      · rw [List.getElem?_set_ne (Ne.symm hj)] at e2
        obtain ⟨u', r', q⟩ := hl j y v' e1 e2 e3
        refine ⟨u', r', ?_⟩
        rcases q with q | ⟨k, c', e, z'⟩
        · exact .inl q
        · refine .inr ⟨k, c', e, z'.sameBut hs ?_⟩
          rintro rfl
          exact hj (zx hN e1 (I.ok.inj _ _ _ e hc ▸ hi))
    · by_cases hcc : c' = c
      · subst hcc; exact ⟨_, hc'⟩
      · obtain ⟨w2, z2⟩ := I.cell y c' e
        exact ⟨w2, z2.sameBut hs hcc⟩
    · obtain ⟨e, n, ne, nf, d⟩ := I.pin p hp
      refine ⟨(hs.2 p.1 ?_).trans e, n, ne, nf, d⟩
      intro q
      rw [q, hoc] at e
      have q' : oc = p.2 := Option.some.inj e
      exact d w' (by rw [← q']; exact Pw)
theorem ur {M : Model} {A : Around} {E : Value → Shared → Prop} {i : Nat} {x : Str} {v : V} {u : Value} {Q : Unit → Shared → Prop} (I : Inv X pins σ H s) (hN : X.N.Nodup) (hi : X.N[i]? = some x) (hx : Loc X.env.scope x) (r : RelV v u)
    (h : ∀ s', Inv X pins (σ.set i (some v)) H s' → Q () s') (hf : X.fn x = true ∨ X.env.scope.names.lookup x = some .local := by first | exact .inl rfl | exact .inr rfl | assumption) : wpAny M A (storeName X.env x u) Q E s :=
  wL I hN hi hx r (fun s' I' _ => h s' I') hf
theorem Inv.Ew {s' : Shared} {ch : List Addr} (I : Inv X pins σ H s) (ho : s'.os = s.os ∧ 0 < s'.toks) (u : Un (frs X.stack) ch H H' s.heap s'.heap) (hok : qe X.prog X.w H' s'.heap) (hg : AllBare s'.gens)
    (hch : ∀ b ∈ ch, (b ∈ X.ex ∨ X.s₀.heap.objs.size ≤ b) ∧ b ≠ X.env.locals ∧ (∀ x c, X.env.cells.lookup x = some c → c ≠ b) ∧ ∀ p ∈ X.pn ++ pins, p.1 ≠ b) : Inv X pins σ H' s' := by
  obtain ⟨h', g', d', t', o'⟩ := s'
  have e : o' = s.os := ho.1
  have ht : 0 < t' := ho.2
  subst e
  exact I.call (g' := g') (t' := t') (d' := d') u hok hg hch
end
noncomputable abbrev XK := Value → Option Addr → Hp → Prop
noncomputable abbrev St := List (Option V)
noncomputable abbrev VK := V → Hp → Prop
noncomputable abbrev TE := St → Hp → VK → Prop
noncomputable abbrev TT := St → Hp → (Bool → Hp → Prop) → Prop
noncomputable abbrev TA := St → Hp → (List V → Hp → Prop) → Prop
structure Ends where
  nx : St → Hp → Prop
  rt : VK
  bk : St → Hp → Prop := fun _ _ => False
  ct : St → Hp → Prop := fun _ _ => False
noncomputable abbrev TS := Ends → St → Hp → Prop
noncomputable def EP (X : Cx) (pins : List (Addr × Obj)) (σ : St) (Q : VK) (u : Value) (s' : Shared) : Prop := ∃ v H', Inv X pins σ H' s' ∧ RelV v u ∧ Q v H'
noncomputable def TP (X : Cx) (pins : List (Addr × Obj)) (σ : St) (Q : Bool → Hp → Prop) (b : Bool) (s' : Shared) : Prop := ∃ H', Inv X pins σ H' s' ∧ Q b H'
noncomputable def AP (X : Cx) (pins : List (Addr × Obj)) (σ : St) (Q : List V → Hp → Prop) (us : List Value) (s' : Shared) : Prop := ∃ vs H', Inv X pins σ H' s' ∧ Vals vs us ∧ Q vs H'
noncomputable def SP (X : Cx) (pins : List (Addr × Obj)) (D : Ends) (f : Flow) (s' : Shared) : Prop :=
  match f with
  | .next => ∃ σ' H', Inv X pins σ' H' s' ∧ D.nx σ' H'
  | .brk => ∃ σ' H', Inv X pins σ' H' s' ∧ D.bk σ' H'
  | .cont => ∃ σ' H', Inv X pins σ' H' s' ∧ D.ct σ' H'
  | .ret u => ∃ v σ' H', Inv X pins σ' H' s' ∧ RelV v u ∧ D.rt v H'
noncomputable def PE (X : Cx) (e : Expr) (t : TE) : Prop :=
  ∀ (pins : List (Addr × Obj)) (s : Shared) (σ : St) (H : Hp) (Q : VK), Inv X pins σ H s → t σ H Q → wpAny (model X.prog X.w) X.A (eval e X.env) (EP X pins σ Q) X.xe s
noncomputable def PT (X : Cx) (e : Expr) (t : TT) : Prop :=
  ∀ (pins : List (Addr × Obj)) (s : Shared) (σ : St) (H : Hp) (Q : Bool → Hp → Prop), Inv X pins σ H s → t σ H Q → wpAny (model X.prog X.w) X.A (isTrue e X.env (eval e X.env)) (TP X pins σ Q) X.xe s
noncomputable def PW (X : Cx) (e : Expr) (t : TT) : Prop :=
  ∀ (whole : Sem Value) (pins : List (Addr × Obj)) (s : Shared) (σ : St) (H : Hp) (Q : Bool → Hp → Prop), Inv X pins σ H s → t σ H Q → wpAny (model X.prog X.w) X.A (isTrue e X.env whole) (TP X pins σ Q) X.xe s
theorem PW.pt {X : Cx} {e : Expr} {t : TT} (h : PW X e t) : PT X e t := h _
noncomputable def PA (X : Cx) (es : List Expr) (t : TA) : Prop :=
  ∀ (pos : Pos) (pins : List (Addr × Obj)) (s : Shared) (σ : St) (H : Hp) (Q : List V → Hp → Prop), Inv X pins σ H s → t σ H Q → wpAny (model X.prog X.w) X.A (spliced (backTo pos (starEach es X.env))) (AP X pins σ Q) X.xe s
noncomputable def PS (X : Cx) (st : Stmt) (t : TS) : Prop :=
  ∀ (pins : List (Addr × Obj)) (s : Shared) (σ : St) (H : Hp) (D : Ends), Inv X pins σ H s → t D σ H → wpAny (model X.prog X.w) X.A (exec st X.env) (SP X pins D) X.xe s
noncomputable def A3 (X : Cx) (st : List Stmt) (t : TS) : Prop :=
  ∀ (pins : List (Addr × Obj)) (s : Shared) (σ : St) (H : Hp) (D : Ends), Inv X pins σ H s → t D σ H → wpAny (model X.prog X.w) X.A (execs st X.env) (SP X pins D) X.xe s
theorem fV {α : Type} {t : Sem α} {Q Q' : α → Shared → Prop} {M : Model} {A : Around} {E : Value → Shared → Prop} {s : Shared} (h : wpAny M A t Q E s) (hQ : ∀ a s, Q a s → Q' a s) : wpAny M A t Q' E s := wpAny_mono h hQ fun _ _ x => x
end L2
namespace L2
open PySem PySem.Spec PyProof.Rows
section
variable {X : Cx}
noncomputable def Px (i : Nat) : TE := fun σ H Q => ∃ v, σ[i]? = some (some v) ∧ Q v H
noncomputable def tC (v : V) : TE := fun _ H Q => Q v H
theorem Ex {i : Nat} {x : Str} {pos : Pos} (hN : X.N[i]? = some x) (hv : J2 X.env.scope x) (hd : (x == ("__debug__" : Str)) = false := by decide) (hcd : (x == ("__classdict__" : Str)) = false := by decide) : PE X (.Name x pos) (Px i) := by
  intro pins s σ H Q I h
  obtain ⟨v, e, h⟩ := h
  obtain ⟨m, hn, hl⟩ := I.loc
  obtain ⟨u, r, l⟩ := hl i x v hN e hv
  have fin : EP X pins σ Q u s := ⟨v, H, I, r, h⟩
  rcases l with ⟨hk, hm⟩ | ⟨hk, c, hc, hcell⟩
  · exact wpAny_Name (wpAny_loadName_local I.ok.kind hk hn hm fin) hd
  · rcases hk with hk | hk
    · exact wpAny_Name (wpAny_loadName_cell I.ok.kind hk hc hcell fin) hd
    · exact wpAny_Name (wpAny_loadName_free I.ok.kind hk hc hcell fin hcd) hd
theorem J6 {i j pos} : PE X (.Constant (.int i) j pos) (tC (.int i)) := fun _ _ _ H _ I h => wpAny_Constant_int ⟨.int i, H, I.tok _, ⟨_, rfl⟩, h⟩
theorem Mq {b j pos} : PE X (.Constant (.bool b) j pos) (tC (.bl b)) := fun _ _ _ H _ I h => Constant_bool ⟨.bl b, H, I, rfl, h⟩
theorem J7 {j pos} : PE X (.Constant .none j pos) (tC .eY) := fun _ _ _ H _ I h => Constant_none ⟨.eY, H, I, rfl, h⟩
theorem J8 {x j pos} : PE X (.Constant (.str x) j pos) (tC (.str x)) := fun _ _ _ H _ I h => Calls.Constant_str ⟨.str x, H, I.tok _, ⟨_, rfl⟩, h⟩
noncomputable def Gl (X : Cx) (x : Str) : Prop := X.env.kindOf x = some .globalImplicit
theorem xU {E : Value → Shared → Prop} {pins : List (Addr × Obj)} {s : Shared} {σ : St} {H : Hp} {x : Str} {u : Value} {pos : Pos} {Q : Value → Shared → Prop} (I : Inv X pins σ H s) (hg : Gl X x) (hm : X.mg x = some u) (h : Q u s)
    (hd : (x == ("__debug__" : Str)) = false := by decide) : wpAny (model X.prog X.w) X.A (eval (.Name x pos) X.env) Q E s :=
  Calls.Name_function_global I.ok.kind hg (Calls.loadGlobal_global (by rw [I.ok.glob]; exact I.mod.glob.keeps I.bk) hm h) hd
theorem ji {E : Value → Shared → Prop} {pins : List (Addr × Obj)} {s : Shared} {σ : St} {H : Hp} {x : Str} {u : Value} {pos : Pos} {Q : Value → Shared → Prop} (I : Inv X pins σ H s) (hg : Gl X x) (hm : X.mg x = none) (hv : bootBuiltins x = some u) (h : Q u s)
    (hn : x ≠ "__name__" := by decide) (hd : (x == ("__debug__" : Str)) = false := by decide) : wpAny (model X.prog X.w) X.A (eval (.Name x pos) X.env) Q E s := by
  obtain ⟨mb, h1, h2⟩ := I.mod.blt
  exact Calls.Name_function_global I.ok.kind hg (Calls.loadGlobal_builtin (by rw [I.ok.glob]; exact I.mod.glob.keeps I.bk) hm (by rw [I.ok.blt]; exact h1.keeps I.bk) ((h2 x hn).trans hv) h) hd
theorem Cg {x : Str} {v : V} {u : Value} {pos : Pos} (hg : Gl X x) (hm : X.mg x = some u) (r : RelV v u) (hd : (x == ("__debug__" : Str)) = false := by decide) : PE X (.Name x pos) (tC v) :=
  fun _ _ _ H _ I h => xU I hg hm ⟨v, H, I, r, h⟩ hd
theorem Hu {x : Str} {v : V} {u : Value} {pos : Pos} (hg : Gl X x) (hm : X.mg x = none) (hv : bootBuiltins x = some u) (r : RelV v u) (hn : x ≠ "__name__" := by decide) (hd : (x == ("__debug__" : Str)) = false := by decide) : PE X (.Name x pos) (tC v) :=
  fun _ _ _ H _ I h => ji I hg hm hv ⟨v, H, I, r, h⟩ hn hd
variable {a b : Expr} {ta tb : TE} {pos : Pos}
variable {tA OS : TT} {rest : List Expr}
noncomputable def Mr (t u : TT) : TT := fun σ H Q => t σ H fun c H1 => if c = true then u σ H1 Q else Q false H1
noncomputable def Sk (t u : TT) : TT := fun σ H Q => t σ H fun c H1 => if c = true then Q true H1 else u σ H1 Q
noncomputable def Py (t : TT) : TT := fun σ H Q => t σ H fun c H1 => Q (!c) H1
theorem Hv (ha : PT X a tA) : PW X (.BoolOp .And [a] pos) tA := by
  intro wh pins s σ H Q I h
  refine isTrue_and (fV (ha pins s σ H Q I h) fun c s1 e => ?_)
  cases c with
  | true => exact isTrue_and_nil e
  | false => exact e
theorem J9 (ha : PT X a tA) : PW X (.BoolOp .Or [a] pos) tA := by
  intro wh pins s σ H Q I h
  refine isTrue_or (fV (ha pins s σ H Q I h) fun c s1 e => ?_)
  cases c with
  | false => exact isTrue_or_nil e
  | true => exact e
theorem Ka (ha : PT X a tA) (hb : PW X (.BoolOp .And (b :: rest) pos) OS) : PW X (.BoolOp .And (a :: b :: rest) pos) (Mr tA OS) := by
  intro wh pins s σ H Q I h
  refine isTrue_and (fV (ha pins s σ H _ I h) fun c s1 ⟨H1, I1, q1⟩ => ?_)
  cases c with
  | true => exact hb wh pins s1 σ H1 Q I1 q1
  | false => exact ⟨H1, I1, q1⟩
theorem Ms (ha : PT X a tA) (hb : PW X (.BoolOp .Or (b :: rest) pos) OS) : PW X (.BoolOp .Or (a :: b :: rest) pos) (Sk tA OS) := by
  intro wh pins s σ H Q I h
  refine isTrue_or (fV (ha pins s σ H _ I h) fun c s1 ⟨H1, I1, q1⟩ => ?_)
  cases c with
  | true => exact ⟨H1, I1, q1⟩
  | false => exact hb wh pins s1 σ H1 Q I1 q1
theorem Kc (ha : PT X a tA) : PT X (.UnaryOp .Not a pos) (Py tA) := by
  intro pins s σ H Q I h
  exact isTrue_not (ha pins s σ H (fun c H1 => Q (!c) H1) I h)
noncomputable def Mt (ta tb : TE) : TE := fun σ H Q => ta σ H fun x H1 => ∃ c, x = .bl c ∧ if c = true then tb σ H1 Q else Q (.bl false) H1
theorem Kd {op} {t : TE} (h : PE X a t) : PE X (.BoolOp op [a] pos) t := fun pins s σ H Q I hw => BoolOp_one (h pins s σ H Q I hw)
theorem Ke (ha : PE X a ta) (hb : PE X (.BoolOp .And (b :: rest) pos) tb) : PE X (.BoolOp .And (a :: b :: rest) pos) (Mt ta tb) := by
  intro pins s σ H Q I h
  refine BoolOp_and (fV (ha pins s σ H _ I h) fun v s1 ⟨x, H1, I1, r1, q1⟩ => ?_)
  obtain ⟨c, rfl, q1⟩ := q1
  cases r1
  refine wpAny_truthy_bool ?_
  cases c with
  | true => exact hb pins s1 σ H1 Q I1 q1
  | false => exact ⟨.bl false, H1, I1, rfl, q1⟩
end
end L2
namespace L2
open PySem PySem.Spec PyProof.Rows
noncomputable def pD (K : PySem.W.Frag) (H : Hp) (a : Addr) (xs : List V) : Prop :=
  Rd H a (.lst xs) ∨
    ∃ (o : Obj) (its : Array Value) (n : Nat), K.lookup a = some o ∧ o.cls = .type "list" ∧ o.dict = none ∧ o.data = .seq its n ∧ its.size ≤ sizeLine ∧ Vals xs its.toList
noncomputable def rS (K : PySem.W.Frag) (H : Hp) (a : Addr) (xs : List V) : Prop :=
  Rd H a (.tup xs) ∨
    ∃ (o : Obj) (its : Array Value) (n : Nat), K.lookup a = some o ∧ o.cls = .type "tuple" ∧ o.data = .seq its n ∧ its.size ≤ sizeLine ∧ Vals xs its.toList
noncomputable def Pz : Value → Option V
  | .none => some .eY
  | .bool b => some (.bl b)
  | .int i _ => some (.int i)
  | .str x _ => some (.str x)
  | .bytes b _ => some (.Mi b)
  | .float b _ => some (.Mj b)
  | .ref a => some (.ref a)
  | .type n => some (.ty n)
  | _ => none
theorem RelV.abs {x : V} {u : Value} (r : RelV x u) : Pz u = some x := by
  cases x with
  | eY => cases r; rfl
  | bl _ => cases r; rfl
  | int _ => obtain ⟨t, rfl⟩ := r; rfl
  | str _ => obtain ⟨t, rfl⟩ := r; rfl
  | Mi _ => obtain ⟨t, rfl⟩ := r; rfl
  | Mj _ => obtain ⟨t, rfl⟩ := r; rfl
  | ref _ => cases r; rfl
  | ty _ => cases r; rfl
theorem RelV.inj {x y : V} {u : Value} (r : RelV x u) (q : RelV y u) : x = y := Option.some.inj (r.abs.symm.trans q.abs)
theorem Vals.inj : ∀ {xs ys : List V} {us : List Value}, Vals xs us → Vals ys us → xs = ys
  | _, _, _, .nil, .nil => rfl
  | _, _, _, .cons r t, .cons r' t' => by rw [r.inj r', Vals.inj t t']
section
variable {X : Cx} {pins : List (Addr × Obj)} {σ : St} {H : Hp} {s : Shared} {a : Addr} {xs ys : List V}
theorem pD.of {K : PySem.W.Frag} (h : H a = some (.lst xs)) : pD K H a xs := .inl (.inl h)
theorem rS.of {K : PySem.W.Frag} (h : H a = some (.tup xs)) : rS K H a xs := .inl (.inl h)
theorem Inv.list (I : Inv X pins σ H s) (h : pD X.K H a xs) : ∃ its : List Value, Vals xs its ∧ PlainL s.heap a its.toArray ∧ xs.length ≤ sizeLine := by
  rcases h with h | ⟨o, its, n, hk, hc, hd, hs, hz, r⟩
  · obtain ⟨z, its, n, r, e⟩ := h.ok I.hok
    exact ⟨its, r, ⟨_, n, e, rfl, rfl, rfl⟩, z⟩
  · refine ⟨its.toList, r, ⟨o, n, I.A0 a o hk, hc, hd, by simpa using hs⟩, ?_⟩
    have e := r.length
    simp only [Array.length_toList] at e
    omega
theorem Inv.tuple (I : Inv X pins σ H s) (h : rS X.K H a xs) : ∃ its : List Value, Vals xs its ∧ IsTup s.heap a its.toArray ∧ xs.length ≤ sizeLine := by
  rcases h with h | ⟨o, its, n, hk, hc, hs, hz, r⟩
  · obtain ⟨z, its, r, p⟩ := h.ok I.hok
    exact ⟨its, r, p, z⟩
  · refine ⟨its.toList, r, ⟨o, I.A0 a o hk, hc, n, by simpa using hs⟩, ?_⟩
    have e := r.length
    simp only [Array.length_toList] at e
    omega
theorem Inv.zy (I : Inv X pins σ H s) (h : pD X.K H a xs) (h' : pD X.K H a ys) : xs = ys := by
  obtain ⟨its, r, ⟨o, n, e, _, _, d⟩, _⟩ := I.list h
  obtain ⟨its', r', ⟨o', n', e', _, _, d'⟩, _⟩ := I.list h'
  rw [e] at e'; cases e'
  rw [d] at d'
  injection d' with d1 _
  have : its = its' := by simpa using congrArg Array.toList d1
  subst this
  exact r.inj r'
theorem Inv.Dh (I : Inv X pins σ H s) (h : rS X.K H a xs) (h' : rS X.K H a ys) : xs = ys := by
  obtain ⟨its, r, ⟨o, e, _, n, d⟩, _⟩ := I.tuple h
  obtain ⟨its', r', ⟨o', e', _, n', d'⟩, _⟩ := I.tuple h'
  rw [e] at e'; cases e'
  rw [d] at d'
  injection d' with d1 _
  have : its = its' := by simpa using congrArg Array.toList d1
  subst this
  exact r.inj r'
end
section
variable {X : Cx} {pins : List (Addr × Obj)} {σ : St} {H : Hp} {s : Shared} {E : Value → Shared → Prop}
end
section
variable {X : Cx} {st : Stmt} {rest : List Stmt} {t u : TS} {e : Expr} {te : TE} {pos : Pos}
noncomputable def Mu : TS := fun D σ H => D.nx σ H
noncomputable def Mv (t u : TS) : TS := fun D σ H => t { D with nx := u D } σ H
theorem Hw : A3 X [] Mu := fun _ _ σ H _ I h => wpAny_execs_nil ⟨σ, H, I, h⟩
theorem Ey (h1 : PS X st t) (h2 : A3 X rest u) : A3 X (st :: rest) (Mv t u) := by
  intro pins s σ H D I h
  refine wpAny_execs_cons (fV (h1 pins s σ H { D with nx := u D } I h) fun f s1 q => ?_)
  cases f with
  | next =>
    obtain ⟨σ', H', I', q⟩ := q
    exact h2 pins s1 σ' H' D I' q
  | ret v => exact q
  | brk => exact q
  | cont => exact q
theorem Hx (h1 : PS X st t) : A3 X [st] t := by
  intro pins s σ H D I h
  refine wpAny_execs_cons (fV (h1 pins s σ H D I h) fun f s1 q => ?_)
  cases f with
  | next => exact wpAny_execs_nil q
  | ret v => exact q
  | brk => exact q
  | cont => exact q
theorem Inv.quiet {pins : List (Addr × Obj)} {σ : St} {H : Hp} {s : Shared} (I : Inv X pins σ H s) : interactive X.env = false := by simp [interactive, I.ok.kind]
noncomputable def Mw (te : TE) : TS := fun D σ H => te σ H fun _ H1 => D.nx σ H1
theorem Hy (he : PE X e te) (hs : swapsWith e none pos.line X.env = pure false := by rfl) : PS X (.Expr e pos) (Mw te) := by
  intro pins s σ H D I h
  exact wpAny_Expr_any (fV (he pins s σ H _ I h) fun v s1 ⟨x, H1, I1, r1, q1⟩ => ⟨σ, H1, I1, q1⟩) I.quiet hs
noncomputable def PB (te : TE) : TS := fun D σ H => te σ H D.rt
theorem Kf (he : PE X e te) : PS X (.Return (some e) pos) (PB te) := by
  intro pins s σ H D I h
  exact wpAny_Return_some (fV (he pins s σ H _ I h) fun v s1 ⟨x, H1, I1, r1, q1⟩ => ⟨x, σ, H1, I1, r1, q1⟩)
noncomputable def PC (c : TT) (t u : TS) : TS := fun D σ H => c σ H fun b H1 => if b = true then t D σ H1 else u D σ H1
theorem Mx {c : Expr} {a b : List Stmt} {tc : TT} (hc : PT X c tc) (ha : A3 X a t) (hb : A3 X b u) : PS X (.If c a b pos) (PC tc t u) := by
  intro pins s σ H D I h
  refine wpAny_If (fV (hc pins s σ H _ I h) fun d s1 ⟨H1, I1, q1⟩ => ?_)
  cases d with
  | true => exact ha pins s1 σ H1 D I1 q1
  | false => exact hb pins s1 σ H1 D I1 q1
end
noncomputable abbrev TG := V → St → Hp → (St → Hp → Prop) → Prop
noncomputable abbrev Kg := List V → St → Hp → (St → Hp → Prop) → Prop
noncomputable def PG (X : Cx) (target : Expr) (t : TG) : Prop :=
  ∀ (pins : List (Addr × Obj)) (s : Shared) (σ : St) (H : Hp) (v : V) (u : Value) (Q : St → Hp → Prop), Inv X pins σ H s → RelV v u → t v σ H Q →
    wpAny (model X.prog X.w) X.A (assign target X.env u) (fun _ s' => ∃ σ' H', Inv X pins σ' H' s' ∧ Q σ' H') X.xe s
noncomputable def OT (X : Cx) (ts : List Expr) (t : Kg) : Prop :=
  ∀ (pins : List (Addr × Obj)) (s : Shared) (σ : St) (H : Hp) (vs : List V) (us : List Value) (Q : St → Hp → Prop), Inv X pins σ H s → Vals vs us → t vs σ H Q →
    wpAny (model X.prog X.w) X.A (assignInOrder ((assignEach ts X.env).map (·.2)) us) (fun _ s' => ∃ σ' H', Inv X pins σ' H' s' ∧ Q σ' H') X.xe s
noncomputable abbrev Kh := V → V → V → Hp → (Hp → Prop) → Prop
noncomputable def My (X : Cx) (t : Kh) : Prop :=
  ∀ (pins : List (Addr × Obj)) (s : Shared) (σ : St) (H : Hp) (o i v : V) (ov iv u : Value) (Q : Hp → Prop), Inv X pins σ H s → RelV o ov → RelV i iv → RelV v u → t o i v H Q →
    wpAny (model X.prog X.w) X.A (setItem ov iv u) (fun _ s' => ∃ H', Inv X pins σ H' s' ∧ Q H') X.xe s
section
variable {X : Cx} {pos : Pos}
noncomputable def wM (i : Nat) : TG := fun v σ H Q => Q (σ.set i (some v)) H
theorem xV {i : Nat} {x : Str} (hN : X.N.Nodup) (hi : X.N[i]? = some x) (hx : Loc X.env.scope x) (hf : X.fn x = true ∨ X.env.scope.names.lookup x = some .local := by first | exact .inl rfl | exact .inr rfl | assumption) : PG X (.Name x pos) (wM i) := by
  intro pins s σ H v u Q I r h
  exact wpAny_assign_Name (ur I hN hi hx r (fun s' I' => ⟨_, H, I', h⟩) hf)
noncomputable def PD : Kg := fun vs σ H Q => vs = [] ∧ Q σ H
noncomputable def Mz (t : TG) (u : Kg) : Kg := fun vs σ H Q => ∃ v r, vs = v :: r ∧ t v σ H fun σ' H' => u r σ' H' Q
theorem Hz : OT X [] PD := by
  intro pins s σ H vs us Q I r h
  obtain ⟨e, h⟩ := h
  subst e
  cases r
  exact assignInOrder_nil ⟨σ, H, I, h⟩
theorem zz {e : Expr} {es : List Expr} {t : TG} {u : Kg} (h1 : PG X e t) (h2 : OT X es u)
    (hs : (assignEach (e :: es) X.env).map (·.2) = assign e X.env :: (assignEach es X.env).map (·.2) := by rfl) : OT X (e :: es) (Mz t u) := by
  intro pins s σ H vs us Q I r h
  obtain ⟨v, vr, e1, h⟩ := h
  subst e1
  cases r with
  | cons r rr =>
    rw [hs]
    refine assignInOrder_cons (fV (h1 pins s σ H _ _ _ I r h) fun _ s1 ⟨σ1, H1, I1, q1⟩ => ?_)
    exact h2 pins s1 σ1 H1 _ _ Q I1 rr q1
noncomputable def PF (K : PySem.W.Frag) (n : Nat) (t : Kg) : TG := fun v σ H Q => ∃ a xs, v = .ref a ∧ rS K H a xs ∧ xs.length = n ∧ t xs σ H Q
theorem Kl {es : List Expr} {k : Nat} {t : Kg} {n : Nat} (hc : X.calm = true) (h : OT X es t)
    (hn : (assignEach es X.env).length = n := by rfl) (hst : (assignEach es X.env).findIdx? (·.1) = none := by rfl) : PG X (.Tuple es k pos) (PF X.K n t) := by
  intro pins s σ H v u Q I r hw
  obtain ⟨a, xs, e1, hq, hl, hw⟩ := hw
  subst e1
  cases r
  obtain ⟨its, rv, ht, hz⟩ := I.tuple hq
  refine assign_Tuple_tuple (I.ok.hd hc) ht (by simp [hn, ← hl, rv.length]) hst fun h' hx => ?_
  have I1 : Inv X pins σ H { s with heap := h' } := I.kept (t' := s.toks) fun b o e => hx b o (Nat.ne_of_lt (Heap.lt_size e)) e
  exact h pins _ σ H xs _ Q I1 (by simpa using rv) hw
noncomputable def PJ (to ti : TE) (t : Kh) : TG := fun v σ H Q => to σ H fun o H1 => ti σ H1 fun i H2 => t o i v H2 fun H3 => Q σ H3
theorem Km {o i : Expr} {to ti : TE} {t : Kh} (ho : PE X o to) (hi : PE X i ti) (hs : My X t)
    (ha : ∀ v, assign (.Subscript o i pos) X.env v = (do
      let ov ← holding [v] (eval o X.env)
      let iv ← holding [v, ov] (eval i X.env)
      standAt pos
      holding [v, ov, iv] (setItem ov iv v)
      release [v, ov, iv] []) := by intro _; rfl) : PG X (.Subscript o i pos) (PJ to ti t) := by
  intro pins s σ H v u Q I r h
  rw [ha]
  refine wpAny_bind (wpAny_holding (fV (ho pins s σ H _ I h) fun ov s1 ⟨x, H1, I1, r1, q1⟩ => ?_))
  refine wpAny_bind (wpAny_holding (fV (hi pins s1 σ H1 _ I1 q1) fun iv s2 ⟨y, H2, I2, r2, q2⟩ => ?_))
  refine wpAny_bind (wpAny_standAt (wpAny_bind (wpAny_holding (fV (hs pins s2 σ H2 x y v ov iv u _ I2 r1 r2 r q2) fun _ s3 ⟨H3, I3, q3⟩ => ?_))))
  exact wpAny_release ⟨σ, H3, I3, q3⟩
noncomputable def HA (te : TE) (g : TG) : TS := fun D σ H => te σ H fun x H1 => g x σ H1 D.nx
theorem Ez {tg e : Expr} {te : TE} {g : TG} (he : PE X e te) (hg : PG X tg g) (hs : swapsWithSole [tg] e pos.line X.env = pure false := by rfl) (hw : swappedStores [tg] e X.env = pure none := by rfl)
    (h1 : (assignEach [tg] X.env).map (·.2) = [assign tg X.env] := by rfl) : PS X (.Assign [tg] e pos) (HA te g) := by
  intro pins s σ H D I h
  refine wpAny_Assign_stores (fV (he pins s σ H _ I h) fun v s1 ⟨x, H1, I1, r1, q1⟩ => ?_) hs hw
  rw [h1]
  exact fV (hg pins s1 σ H1 x v _ I1 r1 q1) fun _ s2 q => q
theorem Kn {i : Nat} {x : Str} {e : Expr} {te : TE} {pos' : Pos} (hN : X.N.Nodup) (hi : X.N[i]? = some x) (hx : Loc X.env.scope x) (he : PE X e te) (hs : swapsWith e (some (.Name x pos')) pos.line X.env = pure false := by rfl) (hf : X.fn x = true ∨ X.env.scope.names.lookup x = some .local := by first | exact .inl rfl | exact .inr rfl | assumption) :
    PS X (.Assign [.Name x pos'] e pos) (HA te (wM i)) := by
  intro pins s σ H D I h
  refine wpAny_Assign_Name (fV (he pins s σ H _ I h) fun v s1 ⟨y, H1, I1, r1, q1⟩ => ?_) hs
  exact ur I1 hN hi hx r1 (fun s2 I2 => ⟨_, H1, I2, q1⟩) hf
end
section
variable {X : Cx} {pos : Pos}
noncomputable def Ko (c : TT) (tb : TS) : TS := fun D σ H => ∃ W : Nat → St → Hp → Prop, (∃ m, W m σ H) ∧ ∀ m σ H, W m σ H →
  c σ H fun b H1 => if b = true then ∃ N : St → Hp → Prop, (∀ σ' H', N σ' H' → ∃ m', m' < m ∧ W m' σ' H') ∧ tb { D with nx := N, ct := N, bk := D.nx } σ H1 else D.nx σ H1
theorem EA {c : Expr} {body : List Stmt} {tc : TT} {tb : TS} (hp : PassesOwn (model X.prog X.w) X.A X.env X.xe) (hc : PT X c tc) (hb : A3 X body tb) : PS X (.While c body [] pos) (Ko tc tb) := by
  intro pins s σ H D I h
  obtain ⟨W, ⟨m0, w0⟩, turn⟩ := h
  refine wpAny_While (codeAny_whileLoop (fun n s' => ∃ σ' H', Inv X pins σ' H' s' ∧ W n σ' H') ?_ m0 ⟨σ, H, I, w0⟩)
  rintro n s1 ⟨σ1, H1, I1, w1⟩
  refine wpAny_passesOwn hp (fV (hc pins s1 σ1 H1 _ I1 (turn n σ1 H1 w1)) fun b s2 ⟨H2, I2, q2⟩ => ?_)
  cases b with
  | true =>
    obtain ⟨N, hN, q2⟩ := q2
    rw [if_pos rfl]
    refine wpAny_passesOwn hp (fV (hb pins s2 σ1 H2 _ I2 q2) fun f s3 q3 => ?_)
    cases f with
    | next =>
      obtain ⟨σ3, H3, I3, n3⟩ := q3
      obtain ⟨m', hm, w3⟩ := hN σ3 H3 n3
      exact ⟨m', hm, σ3, H3, I3, w3⟩
    | cont =>
      obtain ⟨σ3, H3, I3, n3⟩ := q3
      obtain ⟨m', hm, w3⟩ := hN σ3 H3 n3
      exact ⟨m', hm, σ3, H3, I3, w3⟩
    | brk => exact q3
    | ret v => exact q3
  | false =>
    rw [if_neg Bool.false_ne_true]
    exact wpAny_execs_nil ⟨σ1, H2, I2, q2⟩
end
structure It where
  go : Nat → Hp → Prop
  xW : Nat → Hp → V → Hp → Prop
  stop : Nat → Hp → Prop
noncomputable def uu (X : Cx) (pins : List (Addr × Obj)) (H : Hp) (b : Addr) : Prop :=
  H b = none ∧ b ≠ X.env.locals ∧ b ∉ X.fs ∧ (b ∈ X.ex ∨ X.s₀.heap.objs.size ≤ b) ∧ (∀ x c, X.env.cells.lookup x = some c → c ≠ b) ∧ ∀ p ∈ X.pn ++ pins, p.1 ≠ b
theorem Inv.Di {X : Cx} {pins : List (Addr × Obj)} {σ : St} {H H' : Hp} {s : Shared} {b : Addr} (I : Inv X pins σ H s) (hb : s.heap.objs.size ≤ b) (hn : H' b = none) : uu X pins H' b := by
  refine ⟨hn, Nat.ne_of_gt (Nat.lt_of_lt_of_le I.lt hb), I.Mm hb, .inr (Nat.le_trans I.sz hb), fun x c e z => ?_, fun p hp z => ?_⟩
  · obtain ⟨v, q⟩ := I.cell x c e
    exact absurd (Nat.lt_of_lt_of_le q.lt (by rw [z]; exact hb)) (Nat.lt_irrefl _)
  · exact absurd (Nat.lt_of_lt_of_le (Heap.lt_size (I.pin p hp).1) (by rw [z]; exact hb)) (Nat.lt_irrefl _)
structure Turn (P : Program) (w : World) (K : PySem.W.Frag) (tg : Expr) (J : It) (fp : List Addr) (it : Addr) (tn : Nat → Heap → Prop) : Prop where
  mem : it ∈ fp
  obj : ∀ i h, tn i h → ∀ b ∈ fp, ∃ o, h.get? b = some o ∧ ∀ v, o.data ≠ .cell v
  keep : ∀ i h h', tn i h → (∀ b ∈ fp, ∀ o, h.get? b = some o → h'.get? b = some o) → tn i h'
  item : ∀ (X : Cx), X.prog = P → X.w = w → X.K = K → X.calm = true → ∀ (i : Nat) (pins : List (Addr × Obj)) (s : Shared) (σ : St) (H : Hp) (E : Value → Shared → Prop), Inv X pins σ H s → (∀ b ∈ fp, uu X pins H b) → tn i s.heap → J.go i H →
    wpAny (model P w) X.A (pyNext (.ref it)) (fun r s1 => ∃ u, r = some u ∧
      wpAny (model P w) X.A (letOwnedTupleGo tg (.ref it) u) (fun _ s2 => ∃ x H', Inv X pins σ H' s2 ∧ RelV x u ∧ J.xW i H x H' ∧ tn (i + 1) s2.heap ∧ ∀ b ∈ fp, H' b = none) E s1) E s
  done : ∀ (X : Cx), X.prog = P → X.w = w → X.K = K → X.calm = true → ∀ (i : Nat) (pins : List (Addr × Obj)) (s : Shared) (σ : St) (H : Hp) (E : Value → Shared → Prop), Inv X pins σ H s → (∀ b ∈ fp, uu X pins H b) → tn i s.heap → J.stop i H →
    wpAny (model P w) X.A (pyNext (.ref it)) (fun r s1 => r = none ∧ Inv X pins σ H s1) E s
  self : ∀ (A : Around) (i : Nat) (s : Shared) (Q : Value → Shared → Prop) (E : Value → Shared → Prop), tn i s.heap → Q (.ref it) s → wpAny (model P w) A (pyIter (.ref it)) Q E s
noncomputable abbrev TI := St → Hp → (It → Hp → Prop) → Prop
noncomputable def Sl (X : Cx) (pins : List (Addr × Obj)) (σ : St) (tg : Expr) (R : It → Hp → Prop) (itv : Value) (s2 : Shared) : Prop :=
  ∃ (it : Addr) (fp : List Addr) (tn : Nat → Heap → Prop) (J : It) (H' : Hp), itv = .ref it ∧ Inv X pins σ H' s2 ∧ Turn X.prog X.w X.K tg J fp it tn ∧ tn 0 s2.heap ∧ (∀ b ∈ fp, uu X pins H' b) ∧ R J H'
noncomputable def PI (X : Cx) (tg iter : Expr) (wi : TI) : Prop :=
  ∀ (pins : List (Addr × Obj)) (s : Shared) (σ : St) (H : Hp) (R : It → Hp → Prop), Inv X pins σ H s → wi σ H R →
    wpAny (model X.prog X.w) X.A (eval iter X.env) (fun v s1 => wpAny (model X.prog X.w) X.A (pyIter v) (Sl X pins σ tg R) X.xe s1) X.xe s
theorem wN {M : Model} {A : Around} {E : Value → Shared → Prop} {s : Shared} {tg : Expr} {it : Addr} {u : Value} {o : Obj} {n : String} {vs : Array Value} {Q : Unit → Shared → Prop} (ho : s.heap.get? it = some o) (hc : o.cls = .type n) (hd : o.data = .fields vs)
    (hn : ["enumerate", "zip", "dict_itemiterator", "dict_reverseitemiterator", "odict_iterator", "itertools.zip_longest", "itertools.pairwise"].contains n = false) (hQ : Q () s) : wpAny M A (letOwnedTupleGo tg (.ref it) u) Q E s := by
  unfold letOwnedTupleGo
  cases tg <;> first
    | exact wpAny_pure hQ
    | (cases u <;> first
        | exact wpAny_pure hQ
        | (refine wpAny_bind (wpAny_load ho ?_)
           rw [hc, hd]
           show wpAny M A (if (["enumerate", "zip", "dict_itemiterator", "dict_reverseitemiterator", "odict_iterator", "itertools.zip_longest", "itertools.pairwise"].contains n && vs[0]? == some (rawInt _)) = true then _ else _) Q E s
           rw [if_neg (by intro h; rw [hn, Bool.false_and] at h; cases h)]
           exact wpAny_pure hQ))
noncomputable def Hg (K : PySem.W.Frag) (a : Addr) : It :=
  ⟨fun i H => ∃ xs x, pD K H a xs ∧ xs[i]? = some x, fun i H x H' => H' = H ∧ ∀ xs, pD K H a xs → xs[i]? = some x, fun i H => ∃ xs, pD K H a xs ∧ xs.length ≤ i⟩
noncomputable def OU (K : PySem.W.Frag) (a : Addr) : It :=
  ⟨fun i H => ∃ xs x, rS K H a xs ∧ xs[i]? = some x, fun i H x H' => H' = H ∧ ∀ xs, rS K H a xs → xs[i]? = some x, fun i H => ∃ xs, rS K H a xs ∧ xs.length ≤ i⟩
noncomputable def wO (lo : Int) (n : Nat) : It := ⟨fun i _ => i < n, fun i H x H' => H' = H ∧ x = .int (lo + i), fun i _ => n ≤ i⟩
theorem Dj {P : Program} {w : World} {K : PySem.W.Frag} {tg : Expr} (a it : Addr) : Turn P w K tg (Hg K a) [it] it (fun i h => h.IsListIter it a i) where
  mem := by simp
  obj := fun i h st b hb => by
    have e : b = it := by simpa using hb
    subst e
    obtain ⟨o, e, c, d⟩ := st
    exact ⟨o, e, fun v z => by rw [d] at z; cases z⟩
  keep := fun i h h' st k => st.at fun o e => k it (by simp) o e
  item := by
    intro X hP hw hK hc i pins s σ H E I hf st hg
    subst hP hw hK
    obtain ⟨xs, x, hq, hx⟩ := hg
    obtain ⟨its, rv, p, hz⟩ := I.list hq
    obtain ⟨u, hu, ru⟩ := rv.get hx
    obtain ⟨f0, f1, f2, f3, f4, f5⟩ := hf it (by simp)
    refine wpAny_pyNext_list_item st p.isList (x := u) (by simpa using hu) fun h' st' sb => ?_
    have I1 : Inv X pins σ H { s with heap := h' } := I.turned (t' := s.toks) (fun b o hb e => (sb.2 b hb).trans e) f0 f1 f3 f4 f5
    obtain ⟨o, e, c, d⟩ := id st'
    exact ⟨u, rfl, wN (s := { s with heap := h' }) e c d (by decide) ⟨x, H, I1, ru, ⟨rfl, fun ys hy => by rw [I.zy hy hq]; exact hx⟩, st', fun b hb => (hf b hb).1⟩⟩
  done := by
    intro X hP hw hK hc i pins s σ H E I hf st hg
    subst hP hw hK
    obtain ⟨xs, hq, hx⟩ := hg
    obtain ⟨its, rv, p, hz⟩ := I.list hq
    obtain ⟨f0, f1, f2, f3, f4, f5⟩ := hf it (by simp)
    have hl := rv.length
    exact wpAny_pyNext_list_end (I.ok.hd hc) st p.isList (by simp; omega) fun h' eb => ⟨rfl, I.turned (t' := s.toks) (fun b o hb e => eb b o hb e) f0 f1 f3 f4 f5⟩
  self := fun _ _ _ _ _ st h => wpAny_pyIter_listiter st h
theorem A4 {P : Program} {w : World} {K : PySem.W.Frag} {tg : Expr} (a it : Addr) : Turn P w K tg (OU K a) [it] it (fun i h => h.IsTupleIter it a i) where
  mem := by simp
  obj := fun i h st b hb => by
    have e : b = it := by simpa using hb
    subst e
    obtain ⟨o, e, c, d⟩ := st
    exact ⟨o, e, fun v z => by rw [d] at z; cases z⟩
  keep := fun i h h' st k => st.at fun o e => k it (by simp) o e
  item := by
    intro X hP hw hK hc i pins s σ H E I hf st hg
    subst hP hw hK
    obtain ⟨xs, x, hq, hx⟩ := hg
    obtain ⟨its, rv, p, hz⟩ := I.tuple hq
    obtain ⟨u, hu, ru⟩ := rv.get hx
    obtain ⟨f0, f1, f2, f3, f4, f5⟩ := hf it (by simp)
    refine wpAny_pyNext_tuple_item st (show s.heap.IsTuple a its.toArray from p) (x := u) (by simpa using hu) fun h' st' sb => ?_
    have I1 : Inv X pins σ H { s with heap := h' } := I.turned (t' := s.toks) (fun b o hb e => (sb.2 b hb).trans e) f0 f1 f3 f4 f5
    obtain ⟨o, e, c, d⟩ := id st'
    exact ⟨u, rfl, wN (s := { s with heap := h' }) e c d (by decide) ⟨x, H, I1, ru, ⟨rfl, fun ys hy => by rw [I.Dh hy hq]; exact hx⟩, st', fun b hb => (hf b hb).1⟩⟩
  done := by
    intro X hP hw hK hc i pins s σ H E I hf st hg
    subst hP hw hK
    obtain ⟨xs, hq, hx⟩ := hg
    obtain ⟨its, rv, p, hz⟩ := I.tuple hq
    obtain ⟨f0, f1, f2, f3, f4, f5⟩ := hf it (by simp)
    have hl := rv.length
    exact wpAny_pyNext_tuple_end (I.ok.hd hc) st (show s.heap.IsTuple a its.toArray from p) (by simp; omega) fun h' eb => ⟨rfl, I.turned (t' := s.toks) (fun b o hb e => eb b o hb e) f0 f1 f3 f4 f5⟩
  self := fun _ _ _ _ _ st h => wpAny_pyIter_tupleiter st h
theorem A5 {P : Program} {w : World} {K : PySem.W.Frag} {tg : Expr} (it : Addr) (lo : Int) (n : Nat) : Turn P w K tg (wO lo n) [it] it (fun i h => IsRangeIter h it (lo + (i : Nat) * 1) ((n : Int) - (i : Nat)) 1) where
  mem := by simp
  obj := fun i h st b hb => by
    have e : b = it := by simpa using hb
    subst e
    exact ⟨_, st, fun v z => by
      have z' : Data.fields _ = Data.cell v := z
      cases z'⟩
  keep := fun i h h' st k => k it (by simp) _ st
  item := by
    intro X hP hw hK hc i pins s σ H E I hf st hg
    subst hP hw hK
    obtain ⟨f0, f1, f2, f3, f4, f5⟩ := hf it (by simp)
    have W := Walks.range (prog := X.prog) (w := X.w) (I.ok.hd hc) it lo 1 n
    refine kL I.os.2 (W.item i s _ _ hg st fun v h' tk hv st' kk => fun ht => ?_)
    obtain ⟨t, rfl⟩ := hv
    have I1 : Inv X pins σ H { s with heap := h', toks := tk } := I.turned (fun b o hb e => kk b o (by simpa using hb) e) f0 f1 f3 f4 f5
    refine ⟨_, rfl, wN (s := { s with heap := h', toks := tk }) (n := "range_iterator") st' rfl rfl (by decide) ⟨.int (lo + i), H, I1, ⟨t, ?_⟩, ⟨rfl, rfl⟩, st', fun b hb => (hf b hb).1⟩⟩
    rw [Int.mul_one]
  done := by
    intro X hP hw hK hc i pins s σ H E I hf st hg
    subst hP hw hK
    obtain ⟨f0, f1, f2, f3, f4, f5⟩ := hf it (by simp)
    exact wpAny_pyNext_range_end (I.ok.hd hc) st (by have : n ≤ i := hg; omega) fun h' eb => ⟨rfl, I.turned (t' := s.toks) (fun b o hb e => eb b o hb e) f0 f1 f3 f4 f5⟩
  self := fun _ _ _ _ _ st h => wpAny_pyIter_rangeiter st h
end L2
namespace L2
open PySem PySem.Spec PyProof.Rows
section
variable {X : Cx} {tg : Expr}
theorem zA {pins : List (Addr × Obj)} {σ : St} {H : Hp} {s : Shared} {R : It → Hp → Prop} {E : Value → Shared → Prop} {lo hi : Int} {t u v : Tok} {tk : Nat} (I : Inv X pins σ H s) (h1 : -(2 ^ 62) ≤ lo) (h2 : lo < 2 ^ 62) (h3 : -(2 ^ 62) ≤ hi) (h4 : hi < 2 ^ 62)
    (q : R (wO lo (hi - lo).toNat) H) (ht : 0 < tk := by first | exact Nat.succ_pos _ | exact (Inv.os (by assumption)).2 | assumption | omega) : wpAny (model X.prog X.w) X.A (pyIter (.ref s.heap.objs.size)) (Sl X pins σ tg R) E { s with heap := s.heap.push { cls := .type "range", data := .fields #[.int lo t, .int hi u, .int 1 v] }, toks := tk } := by
  refine wpAny_pyIter_range (IsRange.new ..) (small_one h1 h2 h3 h4) ?_
  have I1 : Inv X pins σ H { s with heap := s.heap.push { cls := .type "range", data := .fields #[.int lo t, .int hi u, .int 1 v] }, toks := tk } := I.kept fun b o e => Heap.get?_push_of_some _ e
  refine ⟨(s.heap.push { cls := .type "range", data := .fields #[.int lo t, .int hi u, .int 1 v] }).objs.size, [(s.heap.push { cls := .type "range", data := .fields #[.int lo t, .int hi u, .int 1 v] }).objs.size], _, _, H, rfl,
    I1.kept (t' := tk) fun b o e => Heap.get?_push_of_some _ e, A5 _ lo (hi - lo).toNat, ?_, fun b hb => ?_, q⟩
  · have e1 : lo + ((0 : Nat) : Int) * 1 = lo := by simp
    have e2 : (((hi - lo).toNat : Nat) : Int) - ((0 : Nat) : Int) = Builtin.Range.rangeSize lo hi 1 := by rw [rangeSize_one]; split <;> omega
    show IsRangeIter _ _ (lo + ((0 : Nat) : Int) * 1) ((((hi - lo).toNat : Nat) : Int) - ((0 : Nat) : Int)) 1
    rw [e1, e2]
    exact Heap.get?_push_size _ rfl
  · have e : b = (s.heap.push { cls := .type "range", data := .fields #[.int lo t, .int hi u, .int 1 v] }).objs.size := by simpa using hb
    subst e
    exact I1.Di (Nat.le_refl _) (I1.hok.fresh (Nat.le_refl _))
noncomputable def Jr (ta : TA) : TI := fun σ H R => ta σ H fun vs H1 => ∃ j : Int, vs = [.int j] ∧ -(2 ^ 62) ≤ j ∧ j < 2 ^ 62 ∧ R (wO 0 j.toNat) H1
noncomputable def MA (ta : TA) : TI := fun σ H R => ta σ H fun vs H1 => ∃ i j : Int, vs = [.int i, .int j] ∧ (-(2 ^ 62) ≤ i ∧ i < 2 ^ 62 ∧ -(2 ^ 62) ≤ j ∧ j < 2 ^ 62) ∧ R (wO i (j - i).toNat) H1
theorem wQ {a : Expr} {ta : TA} {p pos : Pos} (hg : Gl X "range") (hm : X.mg "range" = none) (ha : PA X [a] ta) (hs : starEach [a] X.env = [(false, eval a X.env)] := by rfl) : PI X tg (.Call (.Name "range" p) [a] [] pos) (Jr ta) := by
  intro pins s σ H R I h
  refine Call_ (ji I hg hm boot_range (PyProof.Rows.callWith_type1 (fV (ha pos pins s σ H _ I h) fun us s1 ⟨vs, H1, I1, r1, q1⟩ => ?_) hs rfl))
  obtain ⟨j, e, q1, q2, q⟩ := q1
  subst e
  cases r1 with
  | cons r rr =>
    cases rr
    obtain ⟨t, rfl⟩ := r
    exact call_range_1 (zA I1 (by omega) (by omega) q1 q2 (by simpa using q))
theorem Dk {a b : Expr} {ta : TA} {p pos : Pos} (hg : Gl X "range") (hm : X.mg "range" = none) (ha : PA X [a, b] ta) (hs : starEach [a, b] X.env = [(false, eval a X.env), (false, eval b X.env)] := by rfl) (hs2 : starEach [b] X.env = [(false, eval b X.env)] := by rfl) :
    PI X tg (.Call (.Name "range" p) [a, b] [] pos) (MA ta) := by
  intro pins s σ H R I h
  refine Call_ (ji I hg hm boot_range (PyProof.Rows.callWith_type1 (fV (ha pos pins s σ H _ I h) fun us s1 ⟨vs, H1, I1, r1, q1⟩ => ?_) (by rw [hs, hs2]) (by rw [hs2]; rfl)))
  obtain ⟨i, j, e, ⟨q1, q2, q3, q4⟩, q⟩ := q1
  subst e
  cases r1 with
  | cons r rr =>
    cases rr with
    | cons r' rr =>
      cases rr
      obtain ⟨t, rfl⟩ := r
      obtain ⟨t', rfl⟩ := r'
      exact call_range_2 (zA I1 q1 q2 q3 q4 q)
noncomputable def PK (wi : TI) (g : TG) (tb : TS) : TS := fun D σ H => wi σ H fun J H1 => ∃ W : Nat → Nat → St → Hp → Prop, (∃ m, W 0 m σ H1) ∧ ∀ i m σ H, W i m σ H →
  (J.stop i H ∧ D.nx σ H) ∨ (J.go i H ∧ ∃ N : St → Hp → Prop, (∀ σ' H', N σ' H' → ∃ m', m' < m ∧ W (i + 1) m' σ' H') ∧ ∀ x H', J.xW i H x H' → g x σ H' fun σ2 H2 => tb { D with nx := N, ct := N, bk := D.nx } σ2 H2)
noncomputable def rT (fp : List Addr) (h : Heap) : List (Addr × Obj) := fp.filterMap fun b => (h.get? b).map fun o => (b, o)
theorem lD {fp : List Addr} {h : Heap} {b : Addr} {o : Obj} (hb : b ∈ fp) (e : h.get? b = some o) : (b, o) ∈ rT fp h := List.mem_filterMap.mpr ⟨b, hb, by rw [e]; rfl⟩
theorem Dl {fp : List Addr} {h : Heap} {p : Addr × Obj} (hp : p ∈ rT fp h) : p.1 ∈ fp ∧ h.get? p.1 = some p.2 := by
  obtain ⟨b, hb, e⟩ := List.mem_filterMap.mp hp
  cases q : h.get? b with
  | none => rw [q] at e; cases e
  | some o =>
    rw [q] at e
    have e' : (b, o) = p := Option.some.inj e
    subst e'
    exact ⟨hb, q⟩
theorem Inv.pinned {pins : List (Addr × Obj)} {σ : St} {H : Hp} {s : Shared} {fp : List Addr} (I : Inv X pins σ H s) (hf : ∀ b ∈ fp, uu X pins H b) (ho : ∀ b ∈ fp, ∃ o, s.heap.get? b = some o ∧ ∀ v, o.data ≠ .cell v) : Inv X (pins ++ rT fp s.heap) σ H s :=
  I.qh fun p hp => (List.mem_append.mp hp).elim (fun z => I.pin p (List.mem_append_right _ z)) fun z => by
    obtain ⟨hb, e⟩ := Dl z
    obtain ⟨f0, f1, f2, _⟩ := hf p.1 hb
    obtain ⟨o, e', d⟩ := ho p.1 hb
    rw [e] at e'; cases e'
    exact ⟨e, f0, f1, f2, d⟩
theorem Inv.uv {pins pl : List (Addr × Obj)} {σ : St} {H : Hp} {s : Shared} (I : Inv X (pins ++ pl) σ H s) : Inv X pins σ H s := I.qh fun p hp => I.pin p (List.mem_append_right _ (List.mem_append_left _ hp))
theorem xX {iter : Expr} {body : List Stmt} {wi : TI} {g : TG} {tb : TS} {pos : Pos} (hp : PassesOwn (model X.prog X.w) X.A X.env X.xe) (hc : X.calm = true) (hi : PI X tg iter wi) (hg : PG X tg g) (hb : A3 X body tb)
    (hs : ∀ x, foldedSetIterable iter X.env x = pure x := by intro _; rfl) : PS X (.For tg iter body [] pos) (PK wi g tb) := by
  intro pins s σ H D I h
  refine wpAny_For (fV (hi pins s σ H _ I h) fun v s1 h1 => fV h1 fun itv s2 h2 => ?_) hs
  obtain ⟨it, fp, tn, J, H2, e, I2, T, st2, f2, W, ⟨m0, w0⟩, turn⟩ := h2
  subst e
  have Kp : ∀ {H' : Hp}, (∀ b ∈ fp, H' b = none) → ∀ b ∈ fp, uu X pins H' b := fun hn b hb => ⟨hn b hb, (f2 b hb).2⟩
  refine codeAny_forLoop_any (fun n s' => ∃ i σ' H', Inv X pins σ' H' s' ∧ tn i s'.heap ∧ (∀ b ∈ fp, H' b = none) ∧ W i n σ' H') ?_ m0 ⟨0, σ, H2, I2, st2, fun b hb => (f2 b hb).1, w0⟩
  rintro n s3 ⟨i, σ3, H3, I3, st3, Sm, w3⟩
  rcases turn i n σ3 H3 w3 with ⟨stop, qn⟩ | ⟨go, N, hN, step⟩
  · refine wpAny_passesOwn hp (fV (T.done X rfl rfl rfl hc i pins s3 σ3 H3 X.xe I3 (Kp Sm) st3 stop) fun r s4 ⟨hr, I4⟩ => ?_)
    subst hr
    exact wpAny_execs_nil ⟨σ3, H3, I4, qn⟩
  · refine wpAny_passesOwn hp (fV (T.item X rfl rfl rfl hc i pins s3 σ3 H3 X.xe I3 (Kp Sm) st3 go) fun r s4 ⟨u, hr, h4⟩ => ?_)
    subst hr
    refine wpAny_passesOwn hp (fV h4 fun _ s5 ⟨x, H5, I5, r5, y5, Mb, OV⟩ => ?_)
    have Ut := I5.pinned (Kp OV) (T.obj _ _ Mb)
    refine wpAny_passesOwn hp (fV (hg _ s5 σ3 H5 x u _ Ut r5 (step x H5 y5)) fun _ s6 ⟨σ6, H6, I6, q6⟩ => ?_)
    refine wpAny_passesOwn hp (fV (hb _ s6 σ6 H6 _ I6 q6) fun f s7 q7 => ?_)
    have again : ∀ {σ7 : St} {H7 : Hp}, Inv X (pins ++ rT fp s5.heap) σ7 H7 s7 → N σ7 H7 → ∃ m, m < n ∧ ∃ i σ' H', Inv X pins σ' H' s7 ∧ tn i s7.heap ∧ (∀ b ∈ fp, H' b = none) ∧ W i m σ' H' := fun {σ7 H7} I7 n7 => by
      obtain ⟨m', hm, w7⟩ := hN σ7 H7 n7
      refine ⟨m', hm, i + 1, σ7, H7, I7.uv, T.keep _ _ _ Mb fun b hb o e => (I7.pin (b, o) (List.mem_append_right _ (List.mem_append_right _ (lD hb e)))).1, fun b hb => ?_, w7⟩
      obtain ⟨o, e, d⟩ := T.obj _ _ Mb b hb
      exact (I7.pin (b, o) (List.mem_append_right _ (List.mem_append_right _ (lD hb e)))).2.1
    cases f with
    | next => obtain ⟨σ7, H7, I7, n7⟩ := q7; exact again I7 n7
    | cont => obtain ⟨σ7, H7, I7, n7⟩ := q7; exact again I7 n7
    | brk => obtain ⟨σ7, H7, I7, q7⟩ := q7; exact ⟨σ7, H7, I7.uv, q7⟩
    | ret v => obtain ⟨x7, σ7, H7, I7, r7, q7⟩ := q7; exact ⟨x7, σ7, H7, I7.uv, r7, q7⟩
end
end L2
namespace L2
open PySem PySem.Spec PyProof.Rows
noncomputable abbrev R2 := V → V → Hp → VK → Prop
noncomputable def pF (X : Cx) (f : Value → Value → Sem Value) (r : R2) : Prop :=
  ∀ (pins : List (Addr × Obj)) (s : Shared) (σ : St) (H : Hp) (x y : V) (v u : Value) (Q : VK), Inv X pins σ H s → RelV x v → RelV y u → r x y H Q →
    wpAny (model X.prog X.w) X.A (f v u) (EP X pins σ Q) X.xe s
noncomputable def PL (X : Cx) (f : Value → Sem Value) (r : V → Hp → VK → Prop) : Prop :=
  ∀ (pins : List (Addr × Obj)) (s : Shared) (σ : St) (H : Hp) (x : V) (v : Value) (Q : VK), Inv X pins σ H s → RelV x v → r x H Q →
    wpAny (model X.prog X.w) X.A (f v) (EP X pins σ Q) X.xe s
noncomputable def iP (X : Cx) (f : Value) (r : List V → Hp → VK → Prop) : Prop :=
  ∀ (pins : List (Addr × Obj)) (s : Shared) (σ : St) (H : Hp) (xs : List V) (us : List Value) (Q : VK), Inv X pins σ H s → Vals xs us → r xs H Q →
    wpAny (model X.prog X.w) X.A (call f us) (EP X pins σ Q) X.xe s
noncomputable def PM (X : Cx) (r : V → Hp → (Bool → Hp → Prop) → Prop) : Prop :=
  ∀ (pins : List (Addr × Obj)) (s : Shared) (σ : St) (H : Hp) (x : V) (v : Value) (Q : Bool → Hp → Prop), Inv X pins σ H s → RelV x v → r x H Q →
    wpAny (model X.prog X.w) X.A (truthy v) (TP X pins σ Q) X.xe s
noncomputable def MB (r : R2) (ta tb : TE) : TE := fun σ H Q => ta σ H fun x H1 => tb σ H1 fun y H2 => r x y H2 Q
noncomputable def Uu (r : V → Hp → VK → Prop) (ta : TE) : TE := fun σ H Q => ta σ H fun x H1 => r x H1 Q
noncomputable def rI (C : Int → Int → Prop) (g : Int → Int → V) : R2 := fun x y H Q => ∃ i j, x = .int i ∧ y = .int j ∧ C i j ∧ Q (g i j) H
noncomputable def Mc (g : Int → Int → V) : R2 := fun x y H Q => ∃ i j, x = .int i ∧ y = .int j ∧ Q (g i j) H
noncomputable def rU (g : Int → V) : V → Hp → VK → Prop := fun x H Q => ∃ i, x = .int i ∧ Q (g i) H
section
variable {X : Cx} {a b c : Expr} {ta tb tc : TE} {pos : Pos}
theorem Kq (ha : PE X a ta) (hb : PE X b tb) {pins : List (Addr × Obj)} {s : Shared} {σ : St} {H : Hp} {R : V → V → Hp → Prop} (I : Inv X pins σ H s)
    (h : ta σ H fun x H1 => tb σ H1 fun y H2 => R x y H2) {Q : Value → Shared → Prop} {f : Value → Value → Sem Value}
    (hf : ∀ v u s2 x y H2, Inv X pins σ H2 s2 → RelV x v → RelV y u → R x y H2 → wpAny (model X.prog X.w) X.A (f v u) Q X.xe s2) :
    wpAny (model X.prog X.w) X.A (eval a X.env) (fun v s₁ => wpAny (model X.prog X.w) X.A (eval b X.env) (fun u s₂ => wpAny (model X.prog X.w) X.A (f v u) Q X.xe s₂) X.xe s₁) X.xe s := by
  refine fV (ha pins s σ H _ I h) fun v s1 ⟨x, H1, I1, r1, q1⟩ => ?_
  refine fV (hb pins s1 σ H1 _ I1 q1) fun u s2 ⟨y, H2, I2, r2, q2⟩ => ?_
  exact hf v u s2 x y H2 I2 r1 r2 q2
theorem MC {op : Operator} {r : R2} (ho : pF X (binaryOp op) r) (ha : PE X a ta) (hb : PE X b tb) : PE X (.BinOp a op b pos) (MB r ta tb) := by
  intro pins s σ H Q I h
  exact wpAny_BinOp (Kq ha hb I h fun v u s2 x y H2 I2 rx ry q => ho pins s2 σ H2 x y v u Q I2 rx ry q)
theorem MD {op : UnaryOp} {r : V → Hp → VK → Prop} (ho : PL X (unaryOp op) r) (ha : PE X a ta) : PE X (.UnaryOp op a pos) (Uu r ta) := by
  intro pins s σ H Q I h
  exact UnaryOp_ (fV (ha pins s σ H _ I h) fun v s1 ⟨x, H1, I1, r1, q1⟩ => ho pins s1 σ H1 x v Q I1 r1 q1)
theorem OW {f : Value → Value → Sem Value} {C : Int → Int → Prop} {g : Int → Int → Int}
    (rule : ∀ (i j : Int) (t u : Tok) (s : Shared) (Q : Value → Shared → Prop) (E : Value → Shared → Prop), C i j → Q (.int (g i j) s.toks) { s with toks := s.toks + 1 } → wpAny (model X.prog X.w) X.A (f (.int i t) (.int j u)) Q E s) :
    pF X f (rI C fun i j => .int (g i j)) := by
  intro pins s σ H x y v u Q I rx ry h
  obtain ⟨i, j, rfl, rfl, hc, q⟩ := h
  obtain ⟨t, rfl⟩ := rx
  obtain ⟨t', rfl⟩ := ry
  exact rule i j t t' s _ _ hc ⟨.int (g i j), H, I.tok _, ⟨_, rfl⟩, q⟩
theorem ME {f : Value → Value → Sem Value} {g : Int → Int → Int}
    (rule : ∀ (i j : Int) (t u : Tok) (s : Shared) (Q : Value → Shared → Prop) (E : Value → Shared → Prop), Q (.int (g i j) s.toks) { s with toks := s.toks + 1 } → wpAny (model X.prog X.w) X.A (f (.int i t) (.int j u)) Q E s) :
    pF X f (Mc fun i j => .int (g i j)) := by
  intro pins s σ H x y v u Q I rx ry h
  obtain ⟨i, j, rfl, rfl, q⟩ := h
  obtain ⟨t, rfl⟩ := rx
  obtain ⟨t', rfl⟩ := ry
  exact rule i j t t' s _ _ ⟨.int (g i j), H, I.tok _, ⟨_, rfl⟩, q⟩
theorem PN {f : Value → Value → Sem Value} {g : Int → Int → Bool}
    (rule : ∀ (i j : Int) (t u : Tok) (s : Shared) (Q : Value → Shared → Prop) (E : Value → Shared → Prop), Q (.bool (g i j)) s → wpAny (model X.prog X.w) X.A (f (.int i t) (.int j u)) Q E s) :
    pF X f (Mc fun i j => .bl (g i j)) := by
  intro pins s σ H x y v u Q I rx ry h
  obtain ⟨i, j, rfl, rfl, q⟩ := h
  obtain ⟨t, rfl⟩ := rx
  obtain ⟨t', rfl⟩ := ry
  exact rule i j t t' s _ _ ⟨.bl (g i j), H, I, rfl, q⟩
noncomputable def PR (i j : Int) : Prop := 0 < j ∧ j < 1073741824
noncomputable def PU (i j : Int) : Prop := 0 ≤ j ∧ j ≤ 1000000 ∧ i.natAbs < 2 ^ 64
noncomputable def Kr (i j : Int) : Prop := (-(2 ^ 64) < i ∧ i < 2 ^ 64) ∨ (-(2 ^ 64) < j ∧ j < 2 ^ 64)
theorem Kr.ok {i j : Int} (h : Kr i j) : IntMulOk i j := by
  rcases h with ⟨h1, h2⟩ | ⟨h1, h2⟩
  · exact .of_left (intBits_le_64 h1 h2)
  · exact .of_right (intBits_le_64 h1 h2)
theorem Ks : pF X (binaryOp .Add) (Mc fun i j => .int (i + j)) := ME fun _ _ _ _ _ _ _ q => add_int q
theorem Ku : pF X (binaryOp .Sub) (Mc fun i j => .int (i - j)) := ME fun _ _ _ _ _ _ _ q => sub_int q
theorem Kv : pF X (binaryOp .Mult) (rI Kr fun i j => .int (i * j)) := OW fun _ _ _ _ _ _ _ hc q => mul_int q hc.ok
theorem HB : pF X (binaryOp .FloorDiv) (rI PR fun i j => .int (i / j)) := OW fun i j _ _ _ _ _ hc q => by
  have h1 : (0 : Int) < j := hc.1
  have h2 : j < 1073741824 := hc.2
  exact floordiv_int (by omega) (by rw [Int.fdiv_eq_ediv_of_nonneg i (by omega)]; exact q) (.inl (PyProof.noPylong_small (by omega)))
theorem Kw : pF X (binaryOp .Mod) (rI (fun _ j => 0 < j) fun i j => .int (i % j)) := OW fun i j _ _ _ _ _ hc q => by
  have h1 : (0 : Int) < j := hc
  exact mod_int' (by omega) (by rw [Int.fmod_eq_emod_of_nonneg i (by omega)]; exact q)
theorem Ky : pF X (binaryOp .Pow) (rI PU fun i j => .int (i ^ j.toNat)) := OW fun _ _ _ _ _ _ _ hc q => pow_int_small hc.1 hc.2.1 hc.2.2 q
theorem Uv {f : Value → Sem Value} {g : Int → Int}
    (rule : ∀ (i : Int) (t : Tok) (s : Shared) (Q : Value → Shared → Prop) (E : Value → Shared → Prop), Q (.int (g i) s.toks) { s with toks := s.toks + 1 } → wpAny (model X.prog X.w) X.A (f (.int i t)) Q E s) :
    PL X f (rU fun i => .int (g i)) := by
  intro pins s σ H x v Q I rx h
  obtain ⟨i, rfl, q⟩ := h
  obtain ⟨t, rfl⟩ := rx
  exact rule i t s _ _ ⟨.int (g i), H, I.tok _, ⟨_, rfl⟩, q⟩
theorem Kz : PL X (unaryOp .USub) (rU fun i => .int (-i)) := Uv fun _ _ _ _ _ q => neg_int q
end
section
variable {X : Cx} {a b c : Expr} {ta tb tc : TE} {pos : Pos}
theorem KA {pins : List (Addr × Obj)} {σ : St} {H : Hp} {s : Shared} {Q : VK} {k k' : Bool} (I : Inv X pins σ H s) (q : Q (.bl k) H) (e : k = k') : EP X pins σ Q (.bool k') s := by
  subst e
  exact ⟨.bl k, H, I, rfl, q⟩
theorem MF : pF X (compareOp .Gt) (Mc fun i j => .bl (decide (j < i))) := PN fun _ _ _ _ _ _ _ q => gt_int q
theorem Dm : pF X (compareOp .In) (fun x y H Q => ∃ i j, x = .str i ∧ y = .str j ∧ Q (.bl (!(Builtin.Str.occurrences j i 0 j.length 1).isEmpty)) H) := by
  intro pins s σ H x y v u Q I rx ry h
  obtain ⟨i, j, rfl, rfl, q⟩ := h
  obtain ⟨t, rfl⟩ := rx
  obtain ⟨t', rfl⟩ := ry
  exact in_str (KA I q rfl)
theorem KC (b : Expr) {op : CmpOp} (h : op ≠ .In := by decide) (h2 : op ≠ .NotIn := by decide) : behindInMarks op b = false := by
  have e1 : (op == CmpOp.In) = false := by cases op <;> first | rfl | exact absurd rfl h
  have e2 : (op == CmpOp.NotIn) = false := by cases op <;> first | rfl | exact absurd rfl h2
  cases b <;> simp [behindInMarks, e1, e2]
theorem HC {op : CmpOp} {r : R2} (ho : pF X (compareOp op) r) (ha : PE X a ta) (hb : PE X b tb) (hm : behindInMarks op b = false) : PE X (.Compare a [op] [b] pos) (MB r ta tb) := by
  intro pins s σ H Q I h
  exact wpAny_Compare1 (Kq ha hb I h fun v u s2 x y H2 I2 rx ry q => ho pins s2 σ H2 x y v u Q I2 rx ry q) hm
noncomputable def MG (t : TE) : TT := fun σ H Q => t σ H fun x H' => ∃ k, x = .bl k ∧ Q k H'
theorem HE {op : CmpOp} {r : R2} (ho : pF X (compareOp op) r) (ha : PE X a ta) (hb : PE X b tb) (hm : behindInMarks op b = false) : PT X (.Compare a [op] [b] pos) (MG (MB r ta tb)) := by
  intro pins s σ H Q I h
  refine wpAny_isTrue_Compare1 (fV (ha pins s σ H _ I h) fun v s1 ⟨x, H1, I1, r1, q1⟩ => fV (hb pins s1 σ H1 _ I1 q1) fun u s2 ⟨y, H2, I2, r2, q2⟩ =>
    fV (ho pins s2 σ H2 x y v u _ I2 r1 r2 q2) fun c s3 ⟨z, H3, I3, r3, k, e, q3⟩ => ?_) hm
  subst e
  cases r3
  exact wpAny_truthy_bool ⟨H3, I3, q3⟩
noncomputable def KD (K : PySem.W.Frag) (x : V) (H : Hp) (k : Bool) : Prop :=
  match x with
  | .eY => k = false
  | .bl b => k = b
  | .int i => k = (i != 0)
  | .str y => y.length ≤ sizeLine ∧ k = ((y.length : Int) != 0)
  | .Mi y => y.size ≤ sizeLine ∧ k = ((y.size : Int) != 0)
  | .ref p => (∃ xs, pD K H p xs ∧ k = !xs.isEmpty) ∨ (∃ xs, rS K H p xs ∧ k = !xs.isEmpty) ∨ ∃ kvs, H p = some (.dK kvs) ∧ k = !kvs.isEmpty
  | _ => False
theorem A6 {κ : Type} {kvs : List (κ × V)} {vs : List (κ × Value)} (r : KV kvs vs) : (!vs.isEmpty) = !kvs.isEmpty := by
  cases r <;> rfl
theorem uw {xs : List V} {its : List Value} (r : Vals xs its) : (!its.toArray.isEmpty) = !xs.isEmpty := by
  cases r <;> simp
theorem pG : (sizeLine : Nat) < 2 ^ 63 := by rw [sizeLine_eq]; decide
theorem KG : PM X (fun x H Q => ∃ k, KD X.K x H k ∧ Q k H) := by
  intro pins s σ H x v Q I rx h
  obtain ⟨k, e, q⟩ := h
  have hl := pG
  have hs : sizeLine = 16777216 := sizeLine_eq
  cases x with
  | eY =>
    cases rx
    have e' : k = false := e
    subst e'
    exact truthy_none ⟨H, I, q⟩
  | bl b =>
    cases rx
    have e' : k = b := e
    subst e'
    exact wpAny_truthy_bool ⟨H, I, q⟩
  | int i =>
    obtain ⟨t, rfl⟩ := rx
    have e' : k = (i != 0) := e
    subst e'
    exact PySem.P.truthy_int ⟨H, I, q⟩
  | str y =>
    obtain ⟨t, rfl⟩ := rx
    obtain ⟨hy, e'⟩ : y.length ≤ sizeLine ∧ k = ((y.length : Int) != 0) := e
    subst e'
    exact PySem.P.truthy_str (by omega) ⟨H, I.tok _, q⟩
  | Mi y =>
    obtain ⟨t, rfl⟩ := rx
    obtain ⟨hy, e'⟩ : y.size ≤ sizeLine ∧ k = ((y.size : Int) != 0) := e
    subst e'
    exact PySem.W.truthy_bytes (by omega) ⟨H, I.tok _, q⟩
  | ref p =>
    cases rx
    have e' : (∃ xs, pD X.K H p xs ∧ k = !xs.isEmpty) ∨ (∃ xs, rS X.K H p xs ∧ k = !xs.isEmpty) ∨ ∃ kvs, H p = some (.dK kvs) ∧ k = !kvs.isEmpty := e
    rcases e' with ⟨xs, hx, e'⟩ | ⟨xs, hx, e'⟩ | ⟨kvs, hx, e'⟩
    · subst e'
      obtain ⟨its, r, pl, hz⟩ := I.list hx
      have hlen := r.length
      exact wpAny_truthy_list pl.isList (by simp only [List.size_toArray]; omega) ⟨H, I.tok _, by rw [uw r]; exact q⟩
    · subst e'
      obtain ⟨its, r, pl, hz⟩ := I.tuple hx
      have hlen := r.length
      exact truthy_tuple pl (by simp only [List.size_toArray]; omega) ⟨H, I.tok _, by rw [uw r]; exact q⟩
    · subst e'
      obtain ⟨hz, hS, vs, r, m⟩ : kvs.length ≤ sizeLine ∧ (p == sysModules) = false ∧ ∃ vs, KV kvs vs ∧ s.heap.DictOf (xS X.prog X.w) p vs := I.hok p _ hx
      have hlen : kvs.length = vs.length := Paired.length r
      exact wpAny_truthy_dict hS m (by omega) ⟨H, I.tok _, by rw [A6 r]; exact q⟩
  | _ => exact (show False from e).elim
theorem EB (ha : PE X a ta) (he : ∀ whole, isTrue a X.env whole = (do let v ← whole; standAt a.pos; holding [v] (truthy v))) :
    PT X a (fun σ H Q => ta σ H fun x H' => ∃ k, KD X.K x H' k ∧ Q k H') := by
  intro pins s σ H Q I h
  exact isTrue_plain (fV (ha pins s σ H _ I h) fun v s1 ⟨x, H1, I1, r1, q1⟩ => KG pins s1 σ H1 x v Q I1 r1 q1) (he _)
theorem A7 : pF X (binaryOp .Add) (fun x y H Q => ∃ i j, x = .str i ∧ y = .str j ∧ i.length + j.length ≤ sizeLine ∧ Q (.str (i ++ j)) H) := by
  intro pins s σ H x y v u Q I rx ry h
  obtain ⟨i, j, rfl, rfl, hz, q⟩ := h
  obtain ⟨t, rfl⟩ := rx
  obtain ⟨t', rfl⟩ := ry
  exact kL I.os.2 (add_str (fun t' tk ht => ⟨.str (i ++ j), H, I.tok _, ⟨_, rfl⟩, q⟩) hz)
theorem vals1 {x : V} {us : List Value} (r : Vals [x] us) : ∃ u, us = [u] ∧ RelV x u := by
  cases r with
  | cons r1 r2 => cases r2; exact ⟨_, rfl, r1⟩
theorem vals2 {x y : V} {us : List Value} (r : Vals [x, y] us) : ∃ u w', us = [u, w'] ∧ RelV x u ∧ RelV y w' := by
  cases r with
  | cons r1 r2 =>
    cases r2 with
    | cons r3 r4 => cases r4; exact ⟨_, _, rfl, r1, r3⟩
theorem Dn (hc : X.calm = true) : iP X (.builtin "max") (fun xs H Q => ∃ i j, xs = [.int i, .int j] ∧ Q (.int (if j > i then j else i)) H) := by
  intro pins s σ H xs us Q I r h
  obtain ⟨i, j, rfl, q⟩ := h
  obtain ⟨u, w', rfl, ⟨t, rfl⟩, ⟨t', rfl⟩⟩ := vals2 r
  refine kL I.os.2 <| max_two_ints (I.ok.hd hc) fun h' tk k ht => ⟨_, H, I.kept k, ?_, q⟩
  by_cases hj : j > i
  · rw [if_pos hj, if_pos hj]; exact ⟨_, rfl⟩
  · rw [if_neg hj, if_neg hj]; exact ⟨_, rfl⟩
end
end L2
namespace L2
open PySem PySem.Spec PyProof.Rows
structure Uw (h : Heap) (x dx C : Addr) (mA : Str → Option Value) : Prop where
  obj : h.get? x = some (PySem.W.instObj C dx)
  ns : h.Ns1 dx mA
  ne : dx ≠ x
section
variable {prog : Program} {w : World} {A : Around} {E : Value → Shared → Prop} {s : Shared} {K : PySem.W.Frag} {x dx C f : Addr} {mA : Str → Option Value} {name : Str} {v : Value}
end
section
variable {P : Program} {w : World} {H H' : Hp} {h h' : Heap} {a C dx : Addr} {fs fs' : List (Str × V)}
end
structure Ux (K : PySem.W.Frag) (C : Addr) : Prop where
  pg : PySem.W.plainGet K C Str.empty = true
  hd : PySem.W.hasDictIn K C = true
  po : PySem.W.plainOver K C = true
  sa : PySem.W.findIn K (.ref C) "__setattr__" = some (some (.builtin "object.__setattr__"))
structure W7 (K : PySem.W.Frag) (C : Addr) (f : Str) (v : V) (u : Value) : Prop where
  at_ : PySem.W.findIn K (.ref C) f = some (some u)
  rel : RelV v u
  get : PySem.W.specialIn K u "__get__" = some none
  cp : PySem.W.copiedNames.contains f = false
structure Meth (K : PySem.W.Frag) (C : Addr) (m : Str) (f : Addr) : Prop where
  at_ : PySem.W.findIn K (.ref C) m = some (some (.ref f))
  fn : PySem.W.isFn K (.ref f) = true
  kp : PySem.W.keepIn K (.ref f) = true
section
variable {X : Cx} {pins : List (Addr × Obj)} {σ : St} {H : Hp} {s : Shared} {a C dx : Addr} {fs : List (Str × V)} {f : Str} {v : V} {A : Around} {E : Value → Shared → Prop}
theorem Inv.made (I : Inv X pins σ H s) : Inv X pins σ (upd (upd H s.heap.objs.size (.own (s.heap.objs.size + 1))) (s.heap.objs.size + 1) (.ins C s.heap.objs.size []))
    { s with heap := (s.heap.push PySem.W.emptyDict).push (PySem.W.instObj C s.heap.objs.size) } := by
  have e1 : (s.heap.push PySem.W.emptyDict).get? s.heap.objs.size = some PySem.W.emptyDict := Heap.get?_push_size s.heap rfl
  have e2 : ((s.heap.push PySem.W.emptyDict).push (PySem.W.instObj C s.heap.objs.size)).get? (s.heap.objs.size + 1) = some (PySem.W.instObj C s.heap.objs.size) := by
    have := Heap.get?_push_size (s.heap.push PySem.W.emptyDict) (o := PySem.W.instObj C s.heap.objs.size) rfl
    rwa [Heap.size_push] at this
  have e3 : (s.heap.push PySem.W.emptyDict).Ns s.heap.objs.size (fun _ => none) := ⟨PySem.W.emptyDict, #[], _, e1, rfl, (fun e he => absurd he (by simp)), fun _ => rfl⟩
  have I1 := I.laid (a := s.heap.objs.size) (o := .own (s.heap.objs.size + 1)) (h' := s.heap.push PySem.W.emptyDict) (t' := s.toks) (fun b u q => Heap.get?_push_of_some _ q) (Nat.le_refl _) ⟨_, e1⟩
  refine I1.laid (a := s.heap.objs.size + 1) (o := .ins C s.heap.objs.size []) (t' := s.toks) (fun b u q => Heap.get?_push_of_some _ q) (Nat.le_of_eq (Heap.size_push _ _)) ?_
  have ne : s.heap.objs.size ≠ s.heap.objs.size + 1 := Nat.ne_of_lt (Nat.lt_succ_self _)
  refine ⟨by rw [aZ ne, fU], Nat.zero_le _, ne, e2, fun _ => none, (Heap.Ns1.of_empty e3).at fun o q => Heap.get?_push_of_some _ q, fun _ => True.intro, fun y hy => absurd rfl hy⟩
end
section
variable {X : Cx} {o e value : Expr} {f : Str} {pos pos' tpos : Pos} {ta tv : TE}
end
section
variable {X : Cx} {pins : List (Addr × Obj)} {σ : St} {H : Hp} {s : Shared} {A : Around} {E : Value → Shared → Prop} {Q : Value → Shared → Prop} {c : Value} {b : Bool}
inductive ux (K : PySem.W.Frag) (H : Hp) : V → Value → Prop where
  | eY : ux K H .eY (.type "NoneType")
  | bl (x : Bool) : ux K H (.bl x) (.type "bool")
  | int (i : Int) : ux K H (.int i) (.type "int")
  | str (x : Str) : ux K H (.str x) (.type "str")
  | Mj (x : UInt64) : ux K H (.Mj x) (.type "float")
  | lst {a : Addr} {xs : List V} (e : H a = some (.lst xs)) : ux K H (.ref a) (.type "list")
  | oS {a : Addr} {o : Obj} {xs : List V} (e : H a = some (.oS o (.lst xs))) : ux K H (.ref a) (.type "list")
  | tup {a : Addr} {xs : List V} (e : H a = some (.tup xs)) : ux K H (.ref a) (.type "tuple")
  | dK {a : Addr} {kvs : List (Key × V)} (e : H a = some (.dK kvs)) : ux K H (.ref a) (.type "dict")
  | dT {a : Addr} {kvs : List (List Key × V)} (e : H a = some (.dT kvs)) : ux K H (.ref a) (.type "dict")
  | ins {a C dx : Addr} {fs : List (Str × V)} (e : H a = some (.ins C dx fs)) (cl : Ux K C) (ha : PySem.W.findIn K (.ref C) "__class__" = some (some (.builtin "object.__class__")))
      (hn : PySem.W.specialIn K (.builtin "object.__class__") "__get__" = some (some (.builtin "getset_descriptor.__get__"))) (htk : PySem.W.takesIn K (.builtin "object.__class__") = some true)
      (hm : PySem.W.mroIn K C (.type "object") = some true) : ux K H (.ref a) (.ref C)
end
end L2
namespace L2
open PySem PySem.Spec PyProof.Rows
structure fW (k : Nat) (A : Around) : Prop where
  hd : A.handled = none
  dp : A.depth + 3 * k + 5 < recursionLimit
  un : A.units + 16 * k + 600 < cLine
theorem fW.mono {j k : Nat} {A : Around} (r : fW k A) (h : j ≤ k) : fW j A := ⟨r.hd, by have := r.dp; omega, by have := r.un; omega⟩
theorem fW.deeper {k : Nat} {A : Around} (r : fW (k + 1) A) (env : Env) : fW k (A.deeper env) :=
  ⟨r.hd, by have := r.dp; show A.depth + 1 + 3 * k + 5 < _; omega, by have := r.un; show A.units + 3 + 16 * k + 600 < _; omega⟩
theorem fW.in1 {k : Nat} {A : Around} (r : fW (k + 1) A) : fW k A.in1 :=
  ⟨r.hd, by have := r.dp; show A.depth + 3 * k + 5 < _; omega, by have := r.un; show A.units + 1 + 16 * k + 600 < _; omega⟩
theorem A8 {A : Around} {C : Addr} {us : List Value} {kw : List (Str × Value)} : (A.under (.builtin "type.__call__" ⟨.ref C :: us, kw⟩)).depth = A.depth + 1 := by
  first | rfl | simp [Around.under, Code.weight, Code.isCreation, Code.isGuard, Code.isCaller, Code.frames, Code.isFrame, guardIds]
theorem A9 {A : Around} {C : Addr} {us : List Value} {kw : List (Str × Value)} : (A.under (.builtin "type.__call__" ⟨.ref C :: us, kw⟩)).units = A.units + 1 := by
  first | rfl | simp [Around.under, Code.cUnits, Code.frames, Code.isFrame]
theorem fW.make {k : Nat} {A : Around} (r : fW (k + 1) A) (C : Addr) (us : List Value) (kw : List (Str × Value)) : fW k (A.under (.builtin "type.__call__" ⟨.ref C :: us, kw⟩)) :=
  ⟨r.hd, by have := r.dp; rw [A8]; omega, by have := r.un; rw [A9]; omega⟩
theorem fW.depth {k : Nat} {A : Around} (r : fW k A) : A.depth < recursionLimit := by have := r.dp; omega
theorem fW.units {k : Nat} {A : Around} (r : fW k A) : A.units + 64 < cLine := by have := r.un; omega
noncomputable def MH : TA := fun _ H Q => Q [] H
noncomputable def EC (ta : TE) (tr : TA) : TA := fun σ H Q => ta σ H fun x H1 => tr σ H1 fun xs H2 => Q (x :: xs) H2
section
variable {X : Cx} {e : Expr} {es : List Expr} {te : TE} {t : TA} {pos : Pos}
theorem ED : PA X [] MH := fun _ _ _ _ H Q I h => Calls.spliced_nil ⟨[], H, I, .nil, h⟩
theorem xY (ha : PE X e te) (hr : PA X es t) (hs : starEach (e :: es) X.env = (false, eval e X.env) :: starEach es X.env := by rfl) : PA X (e :: es) (EC te t) := by
  intro pos pins s σ H Q I h
  rw [hs]
  show wpAny _ _ (spliced ((false, eval e X.env) :: backTo pos (starEach es X.env))) _ _ s
  refine Calls.spliced_cons (fV (ha pins s σ H _ I h) fun u s1 ⟨x, H1, I1, r1, q1⟩ => ?_)
  exact fV (hr pos pins s1 σ H1 _ I1 q1) fun us s2 ⟨xs, H2, I2, r2, q2⟩ => ⟨x :: xs, H2, I2, .cons r1 r2, q2⟩
noncomputable def PV (t : TA) : TE := fun σ H Q => t σ H fun xs H1 => xs.length ≤ sizeLine ∧ ∀ p, H1 p = none → Q (.ref p) (upd H1 p (.tup xs))
noncomputable def PX (t : TA) : TE := fun σ H Q => t σ H fun xs H1 => xs.length ≤ sizeLine ∧ ∀ p, H1 p = none → Q (.ref p) (upd H1 p (.lst xs))
theorem KH {x1} (h : PA X es t) : PE X (.Tuple es x1 pos) (PV t) := by
  intro pins s σ H Q I hq
  refine wpAny_Tuple_spliced (fV (h pos pins s σ H _ I hq) fun us s1 ⟨xs, H1, I1, r, z, q⟩ => ⟨by rw [← r.length]; exact z, ?_⟩)
  have hf : H1 s1.heap.objs.size = none := I1.hok.fresh (Nat.le_refl _)
  refine ⟨.ref s1.heap.objs.size, upd H1 s1.heap.objs.size (.tup xs), I1.laid (t' := s1.toks) (fun b u e => Heap.get?_push_of_some _ e) (Nat.le_refl _) ?_, rfl, q _ hf⟩
  exact ⟨z, us, r, ⟨_, Heap.get?_push_size _ rfl, rfl, _, rfl⟩⟩
theorem KI (h : PA X es t) : PE X (.List es pos) (PX t) := by
  intro pins s σ H Q I hq
  refine wpAny_List_spliced (fV (h pos pins s σ H _ I hq) fun us s1 ⟨xs, H1, I1, r, z, q⟩ => ⟨by rw [← r.length]; exact z, ?_⟩)
  have hf : H1 s1.heap.objs.size = none := I1.hok.fresh (Nat.le_refl _)
  refine ⟨.ref s1.heap.objs.size, upd H1 s1.heap.objs.size (.lst xs), I1.laid (t' := s1.toks) (fun b u e => Heap.get?_push_of_some _ e) (Nat.le_refl _) ?_, rfl, q _ hf⟩
  exact ⟨z, us, 0, r, Heap.get?_push_size _ rfl⟩
end
noncomputable abbrev Sp := List V → Hp → VK → XK → Prop
noncomputable abbrev vM := List Env → Hp → Shared → XK → Value → Shared → Prop
structure uy (P : Program) (w : World) (K : PySem.W.Frag) (mg : Str → Option Value) (base : Heap) (A : Around) (outer : List Env) (s : Shared) (H : Hp) : Prop where
  frames : A.frames = some outer
  mod : Mod K mg base
  bs : ∀ b o, base.get? b = some o → s.heap.get? b = some o ∧ H b = none
  Jp : base.objs.size ≤ s.heap.objs.size
  tS : s.heap.FunFrames base outer
  J5 : ∀ b ∈ frs outer, H b = none
  hok : qe P w H s.heap
  bare : AllBare s.gens
noncomputable def CE (outer : List Env) (P : Program) (w : World) (H : Hp) (s : Shared) (Q : VK) (u : Value) (s' : Shared) : Prop :=
  ∃ v H', (s'.os = s.os ∧ 0 < s'.toks) ∧ AllBare s'.gens ∧ Un (frs outer) [] H H' s.heap s'.heap ∧ qe P w H' s'.heap ∧ RelV v u ∧ Q v H'
noncomputable def CR (CX : vM) (outer : List Env) (P : Program) (w : World) (H : Hp) (s : Shared) (Q : VK) (E : XK) (r : Result) (s' : Shared) : Prop :=
  match r with
  | .ok (.ret u) => CE outer P w H s Q u s'
  | .ok _ => False
  | .error e => CX outer H s E e s'
structure bx (P : Program) (w : World) (K : PySem.W.Frag) (mg : Str → Option Value) (base : Heap) (CX : vM) (k : Nat) (f : Addr) (fd : FuncData) (ps : List Str) (sp : Sp) : Prop where
  len : ∀ vs H Q E, sp vs H Q E → vs.length = ps.length
  run : ∀ (A : Around) (outer : List Env) (s : Shared) (H : Hp) (args : Args) (us : List Value) (vs : List V) (Q : VK) (E : XK), fW k A → uy P w K mg base A outer s H → 0 < s.toks → BindsTo s fd args (ps.zip us) → Vals vs us → sp vs H Q E →
    codeAny (model P w) A (.call (.ref f) args) (CR CX outer P w H s Q E) s
structure oV (P : Program) (w : World) (K : PySem.W.Frag) (mg : Str → Option Value) (base : Heap) (CX : vM) (k : Nat) (f : Addr) (fd : FuncData) (ps : List Str) (sp : Sp) : Prop where
  len : ∀ vs H Q E, sp vs H Q E → vs.length = ps.length
  run : ∀ (A : Around) (outer : List Env) (s : Shared) (H : Hp) (args : Args) (us : List Value) (vs : List V) (Q : VK) (E : XK), fW k A → uy P w K mg base A outer s H → BindsTo s fd args (ps.zip us) → Vals vs us → sp vs H Q E →
    codeAny (model P w) A (.call (.ref f) args) (CR CX outer P w H s Q E) s
theorem oV.imp {P : Program} {w : World} {K : PySem.W.Frag} {mg : Str → Option Value} {base : Heap} {CX : vM} {k : Nat} {f : Addr} {fd : FuncData} {ps : List Str} {sp MJ : Sp} (F : oV P w K mg base CX k f fd ps sp)
    (h : ∀ vs H Q E, MJ vs H Q E → sp vs H Q E) : oV P w K mg base CX k f fd ps MJ :=
  ⟨fun vs H Q E q => F.len vs H Q E (h _ _ _ _ q), fun A outer s H args us vs Q E hr he hb hv hs => F.run A outer s H args us vs Q E hr he hb hv (h _ _ _ _ hs)⟩
theorem bx.imp {P : Program} {w : World} {K : PySem.W.Frag} {mg : Str → Option Value} {base : Heap} {CX : vM} {k : Nat} {f : Addr} {fd : FuncData} {ps : List Str} {sp MJ : Sp} (F : bx P w K mg base CX k f fd ps sp)
    (h : ∀ vs H Q E, MJ vs H Q E → sp vs H Q E) : bx P w K mg base CX k f fd ps MJ :=
  ⟨fun vs H Q E q => F.len vs H Q E (h _ _ _ _ q), fun A outer s H args us vs Q E hr he ht hb hv hs => F.run A outer s H args us vs Q E hr he ht hb hv (h _ _ _ _ hs)⟩
theorem uy.make {P : Program} {w : World} {K : PySem.W.Frag} {mg : Str → Option Value} {base : Heap} {A : Around} {outer : List Env} {s : Shared} {H : Hp} (e : uy P w K mg base A outer s H) (C : Addr) (us : List Value) (kw : List (Str × Value)) :
    uy P w K mg base (A.under (.builtin "type.__call__" ⟨.ref C :: us, kw⟩)) outer s H := ⟨by first | exact e.frames | (simpa [Around.under, Code.envs, Code.isFrame, pushEnvs] using e.frames), e.mod, e.bs, e.Jp, e.tS, e.J5, e.hok, e.bare⟩
theorem uy.in1 {P : Program} {w : World} {K : PySem.W.Frag} {mg : Str → Option Value} {base : Heap} {A : Around} {outer : List Env} {s : Shared} {H : Hp} (e : uy P w K mg base A outer s H) :
    uy P w K mg base A.in1 outer s H := ⟨e.frames, e.mod, e.bs, e.Jp, e.tS, e.J5, e.hok, e.bare⟩
section
variable {X : Cx} {pins : List (Addr × Obj)} {σ : St} {H : Hp} {s s' : Shared}
theorem Inv.iK (I : Inv X pins σ H s) : uy X.prog X.w X.K X.mg X.base X.A X.stack s H :=
  ⟨I.ok.frames, I.ok.mod, I.bs, Nat.le_trans I.ok.Jp I.sz, I.stack, I.qg, I.hok, I.bare⟩
theorem Inv.after {Q : VK} {u : Value} (I : Inv X pins σ H s) (h : CE X.stack X.prog X.w H s Q u s') : EP X pins σ Q u s' := by
  obtain ⟨v, H', os, bare, un, hok, r, q⟩ := h
  obtain ⟨hh, g, d, t, os'⟩ := s'
  have ht : 0 < t := os.2
  obtain rfl : os' = s.os := os.1
  exact ⟨v, H', I.call (h' := hh) (g' := g) (d' := d) (t' := t) (ch := []) un hok bare (fun b z => absurd z (by simp)), r, q⟩
end
noncomputable def Binds (K : PySem.W.Frag) (fd : FuncData) (ps : List Str) (ds : List Value) : Prop :=
  ∀ (s : Shared) (us : List Value), K.In s.heap → (us ++ ds).length = ps.length → BindsTo s fd ⟨us, []⟩ (ps.zip (us ++ ds))
theorem Binds.all {K : PySem.W.Frag} {fd : FuncData} {ps : List Str} (h : ∀ us : List Value, us.length = ps.length → bindArgs fd ⟨us, []⟩ = pure (ps.zip us)) : Binds K fd ps [] := fun s us _ hl => by
  rw [List.append_nil] at hl ⊢
  exact .of_eq (h us hl)
section
variable {X : Cx} {CX : vM} {k : Nat} {f C : Addr} {fd : FuncData} {ps : List Str} {sp : Sp} {W8 : List V} {ds : List Value} {E : XK} {x m : Str} {p pos apos : Pos} {e o : Expr} {es : List Expr} {ta : TE} {t : TA}
structure Mk (K : PySem.W.Frag) (C f : Addr) : Prop where
  makes : PySem.W.makesIn K C = true
  init : PySem.W.findIn K (.ref C) "__init__" = some (some (.ref f))
  fn : PySem.W.isFn K (.ref f) = true
  kp : PySem.W.keepIn K (.ref C) = true
end
section
variable {X : Cx} {CX : vM} {k : Nat} {f C : Addr} {fd : FuncData} {ps ks : List Str} {sp : Sp} {E : XK} {x m : Str} {p pos apos kpos : Pos} {e o : Expr} {es : List Expr} {kws : List Keyword} {te ta : TE} {t tk : TA} {nm : Option Str}
structure PY (K : PySem.W.Frag) (fd : FuncData) (ps ks : List Str) (g : List Value → List Value → List Value) (gV : List V → List V → List V) : Prop where
  to : ∀ (s : Shared) (us ws : List Value), K.In s.heap → (g us ws).length = ps.length → BindsTo s fd ⟨us, ks.zip ws⟩ (ps.zip (g us ws))
  rel : ∀ {vs : List V} {us : List Value} {zs : List V} {ws : List Value}, Vals vs us → Vals zs ws → Vals (gV vs zs) (g us ws)
variable {g : List Value → List Value → List Value} {gV : List V → List V → List V}
end
structure bH (N P : List Str) (sc : Scope) : Prop where
  kind : sc.kind = .function
  co : sc.isCoroutine = false
  gen : sc.isGenerator = false
  nd : N.Nodup
  pre : N.take P.length = P
  par : ∀ x ∈ P, sc.names.lookup x = some .local ∨ sc.names.lookup x = some .cell
  KJ : ∀ y ∈ sc.names, y.2 ≠ .free
theorem wR {kindOf : Str → Option NameKind} {x : Str} : ∀ {binds : List (Str × Value)} {m : Str → Option Value}, (∀ v, (x, v) ∉ binds) → bindL kindOf binds m x = m x
  | [], _, _ => rfl
  | (n, v) :: r, m, h => by
    unfold bindL
    rw [wR fun w hw => h w (List.mem_cons_of_mem _ hw)]
    split
    · have : x ≠ n := by rintro rfl; exact h v List.mem_cons_self
      simp [this]
    · rfl
theorem wU {kindOf : Str → Option NameKind} {x : Str} : ∀ {binds : List (Str × Value)} {m : Str → Option Value}, (∀ v, (x, v) ∉ binds) → bindC kindOf binds m x = m x
  | [], _, _ => rfl
  | (n, v) :: r, m, h => by
    unfold bindC
    rw [wU fun w hw => h w (List.mem_cons_of_mem _ hw)]
    split
    · rfl
    · have : x ≠ n := by rintro rfl; exact h v List.mem_cons_self
      simp [this]
theorem wV {kindOf : Str → Option NameKind} {x : Str} {v : Value} : ∀ {P : List Str} {vs : List Value} {i : Nat} {m : Str → Option Value}, P.Nodup → P[i]? = some x → vs[i]? = some v → kindOf x = some .local →
    bindL kindOf (P.zip vs) m x = some v
  | [], _, _, _, _, h, _, _ => by simp at h
  | _ :: _, [], _, _, _, _, h, _ => by simp at h
  | p :: P, w :: vs, 0, m, nd, h1, h2, hk => by
    simp at h1 h2; subst h1; subst h2
    show bindL kindOf ((p, w) :: P.zip vs) m p = _
    unfold bindL
    rw [wR fun v hv => (List.nodup_cons.mp nd).1 (List.of_mem_zip hv).1, if_pos hk]
    simp
  | p :: P, w :: vs, i + 1, m, nd, h1, h2, hk => by
    show bindL kindOf ((p, w) :: P.zip vs) m x = _
    unfold bindL
    exact wV (i := i) (List.nodup_cons.mp nd).2 (by simpa using h1) (by simpa using h2) hk
theorem wW {kindOf : Str → Option NameKind} {x : Str} {v : Value} : ∀ {P : List Str} {vs : List Value} {i : Nat} {m : Str → Option Value}, P.Nodup → P[i]? = some x → vs[i]? = some v → kindOf x ≠ some .local →
    bindC kindOf (P.zip vs) m x = some v
  | [], _, _, _, _, h, _, _ => by simp at h
  | _ :: _, [], _, _, _, _, h, _ => by simp at h
  | p :: P, w :: vs, 0, m, nd, h1, h2, hk => by
    simp at h1 h2; subst h1; subst h2
    show bindC kindOf ((p, w) :: P.zip vs) m p = _
    unfold bindC
    rw [wU fun v hv => (List.nodup_cons.mp nd).1 (List.of_mem_zip hv).1, if_neg hk]
    simp
  | p :: P, w :: vs, i + 1, m, nd, h1, h2, hk => by
    show bindC kindOf ((p, w) :: P.zip vs) m x = _
    unfold bindC
    exact wW (i := i) (List.nodup_cons.mp nd).2 (by simpa using h1) (by simpa using h2) hk
noncomputable def start (N : List Str) (vs : List V) : St := vs.map some ++ List.replicate (N.length - vs.length) none
noncomputable def gg (CX : vM) (P : Program) (w : World) (K : PySem.W.Frag) (mg : Str → Option Value) (base : Heap) (N : List Str) (qual : Str) (scope : Scope) (f : Addr) (cd : Value) (A : Around) (outer : List Env) (s : Shared) (H : Hp) (E : XK) : Cx where
  prog := P
  w := w
  K := K
  mg := mg
  base := base
  A := A.deeper (envOfC qual scope s.heap.objs.size f cd)
  N := N
  s₀ := s
  H₀ := H
  env := envOfC qual scope s.heap.objs.size f cd
  outer := outer
  stack := envOfC qual scope s.heap.objs.size f cd :: outer
  ex := []
  calm := true
  fn := fun _ => true
  pn := []
  xe := fun e s' => wpAny (model P w) (A.deeper (envOfC qual scope s.heap.objs.size f cd)) (leaving (envOfC qual scope s.heap.objs.size f cd) e) (fun _ s'' => CX outer H s E e s'') (fun e' s'' => CX outer H s E e' s'') s'
theorem zB {sc : Scope} {n : Nat} {x : Str} (h : sc.names.lookup x = some .cell) : ∃ c, (cellsFrom n sc.names []).lookup x = some c := by
  have q := PySem.W.cellsFrom_some sc.names n [] (.inl h)
  exact Option.isSome_iff_exists.mp q
theorem wX {CX : vM} {P : Program} {w : World} {K : PySem.W.Frag} {mg : Str → Option Value} {base : Heap} {N ps : List Str} {qual : Str} {scope : Scope} {f : Addr} {cd : Value} {A : Around} {outer : List Env} {s s1 : Shared} {H : Hp} {E : XK} {us : List Value} {vs : List V}
    (S : bH N ps scope) (hd : A.handled = none) (e0 : uy P w K mg base A outer s H) (hl : vs.length = ps.length) (r : Vals vs us)
    (x : InCallC s s.heap.objs.size (bindL (envOfC qual scope s.heap.objs.size f cd).kindOf (ps.zip us) fun _ => none) (cellsFrom (s.heap.objs.size + 1) scope.names []) (bindC (envOfC qual scope s.heap.objs.size f cd).kindOf (ps.zip us) fun _ => none) s1) {n : Nat} (ht : 0 < n) :
    Inv (gg CX P w K mg base N qual scope f cd A outer s H E) [] (start N vs) H { s1 with toks := n } := by
  have hpl : ps.length ≤ N.length := by have := congrArg List.length S.pre; rw [List.length_take] at this; omega
  obtain ⟨h1, tk, rfl, hk⟩ := x.done
  have MK : ∀ b : Addr, b ∉ (gg CX P w K mg base N qual scope f cd A outer s H E).ex := fun b z => absurd (show b ∈ ([] : List Addr) from z) (by simp)
  refine ⟨⟨e0.mod, S.kind, rfl, rfl, Nat.le_refl _, fun y z c h1 h2 => ?_, fun y hy => ?_, fun y c _ h => ?_, fun _ => hd, Around.frames_deeper e0.frames, .inr ⟨rfl, rfl⟩, fun b z => absurd z (MK b), e0.bs, e0.Jp, fun b _ _ => MK b, fun b z => absurd z (MK b), e0.tS, e0.J5⟩,
    ⟨rfl, ht⟩, e0.bare, Un.kept hk, ⟨_, x.toInCall.ns, fun i y v h1 h2 h3 => ?_⟩, fun y c h => ⟨_, x.cell y c h⟩, e0.hok.fresh (Nat.le_refl _), fun y c h => ?_, fun p hp => absurd (show p ∈ ([] : List (Addr × Obj)) from hp) (by simp), e0.hok.kept hk, ?_⟩
  · exact name_of_addr x.apart (PySem.mem_of_lookup h1) (PySem.mem_of_lookup h2)
  · have hy : scope.names.lookup y = some .cell ∨ scope.names.lookup y = some .free := hy
    rcases hy with hy | hy
    · exact zB hy
    · exact absurd rfl (S.KJ _ (PySem.mem_of_lookup hy))
  · exact Nat.le_of_lt (x.above y c (PySem.mem_of_lookup h))
  · have hi : i < vs.length := by
      unfold start at h2
      by_cases hi : i < vs.length
      · exact hi
      · rw [List.getElem?_append_right (by simpa using hi)] at h2
        rw [List.getElem?_replicate] at h2
        split at h2 <;> cases h2
    have ha : vs[i]? = some v := by
      unfold start at h2
      rw [List.getElem?_append_left (by simpa using hi), List.getElem?_map] at h2
      cases e : vs[i]? with
      | none => rw [e] at h2; cases h2
      | some a => rw [e] at h2; cases h2; rfl
    obtain ⟨u, hu, rv⟩ := r.get ha
    have hp : ps[i]? = some y := by
      rw [← S.pre, List.getElem?_take_of_lt (by omega)]; exact h1
    have Sn : ps.Nodup := by rw [← S.pre]; exact S.nd.sublist (List.take_sublist _ _)
    refine ⟨u, rv, ?_⟩
    rcases S.par y (List.mem_of_getElem? hp) with k | k
    · exact .inl ⟨k, wV Sn hp hu k⟩
    · obtain ⟨c, e⟩ := zB (n := s.heap.objs.size + 1) k
      refine .inr ⟨.inl k, c, e, ?_⟩
      have q := x.cell y c e
      rw [wW Sn hp hu (by show scope.names.lookup y ≠ _; rw [k]; decide)] at q
      exact q
  · exact e0.hok.fresh (Nat.le_of_lt (x.above y c (PySem.mem_of_lookup h)))
  · unfold start
    show _ = N.length
    rw [List.length_append, List.length_map, List.length_replicate]
    omega
theorem ML {CX : vM} {P : Program} {w : World} {K : PySem.W.Frag} {mg : Str → Option Value} {base : Heap} {k : Nat} {f : Addr} {name qual : Str} {params : Arguments} {body : List Stmt} {scope : Scope} {dV kV doc pm cdv ct oc : Value} {an od : Option Addr}
    {osl : Array (Option Value)} {N ps : List Str} {sp : Sp} (lk : K.lookup f = some ⟨oc, od, .func (PySem.W.fnOf name qual params body scope dV kV doc pm an cdv ct), osl⟩) (hcd : PySem.W.codeIn K cdv qual = true) (S : bH N ps scope)
    (len : ∀ vs H Q E, sp vs H Q E → vs.length = ps.length)
    (hbody : ∀ (A : Around) (outer : List Env) (s : Shared) (H : Hp) (vs : List V) (Q : VK) (E : XK), fW k (A.deeper (envOfC qual scope s.heap.objs.size f cdv)) → sp vs H Q E →
      ∃ t, A3 (gg CX P w K mg base N qual scope f cdv A outer s H E) body t ∧ t { nx := fun _ H' => Q .eY H', rt := Q } (start N vs) H) :
    bx P w K mg base CX (k + 1) f (PySem.W.fnOf name qual params body scope dV kV doc pm an cdv ct) ps sp := by
  refine ⟨len, fun A outer s H args us vs Q E hr e0 htk hb r Dp => ?_⟩
  have hl := len _ _ _ _ Dp
  have KX : K.In s.heap := e0.mod.J1.keeps fun b o e => (e0.bs b o e).1
  have lim : s.heap.NoLimit := e0.mod.nolimit.keeps fun b o e => (e0.bs b o e).1
  have hkind : ∀ y ∈ ps.zip us, scope.names.lookup y.1 = some .local ∨ (scope.names.lookup y.1 = some .cell ∧ ((cellsFrom (s.heap.objs.size + 1) scope.names []).lookup y.1).isSome = true) := fun ⟨n, v⟩ hy => by
    rcases S.par n (List.of_mem_zip hy).1 with q | q
    · exact .inl q
    · exact .inr ⟨q, PySem.W.cellsFrom_some _ _ _ (.inl q)⟩
  refine codeAny_call_function hr.depth (KX _ _ lk) rfl S.co S.gen rfl (PySem.W.codeRec_of KX hcd) (hb _ _ _ _ ?_)
  refine kL htk (wpAny_newFunctionEnv_cells S.kind hkind fun env he s1 x => fun PZ => ?_)
  subst he
  refine ⟨lim.keeps x.toInCall.keep, codeAny_func ?_⟩
  obtain ⟨t, ht, hq⟩ := hbody A outer s H vs Q E (hr.deeper _) Dp
  have I : Inv (gg CX P w K mg base N qual scope f cdv A outer s H E) [] (start N vs) H s1 := wX S hr.hd e0 hl r x (n := s1.toks) PZ
  refine wpAny_mono (ht [] s1 (start N vs) H _ I hq) (fun fl s' hs => ?_) fun e s' hs => hs
  have fin : ∀ {σ' : St} {H' : Hp} {v : V} {u : Value}, Inv (gg CX P w K mg base N qual scope f cdv A outer s H E) [] σ' H' s' → RelV v u → Q v H' → CE outer P w H s Q u s' :=
    fun {σ' H' v u} J rv q => ⟨v, H', J.os, J.bare, J.base, J.hok, rv, q⟩
  cases fl with
  | ret u =>
    obtain ⟨v, σ', H', J, rv, q⟩ := hs
    exact fin J rv q
  | next =>
    obtain ⟨σ', H', J, q⟩ := hs
    exact fin (v := V.eY) (u := Value.none) J rfl q
  | brk =>
    obtain ⟨_, _, _, q⟩ := hs
    exact False.elim q
  | cont =>
    obtain ⟨_, _, _, q⟩ := hs
    exact False.elim q
noncomputable def MM (X : Cx) (body : List Stmt) (t : TS) : Prop := ∀ (s : Shared) (σ : St) (H : Hp) (D : Ends), Inv X [] σ H { s with toks := s.toks + 1 } → t D σ H → wpAny (model X.prog X.w) X.A (execs body X.env) (SP X [] D) X.xe s
theorem KL {CX : vM} {P : Program} {w : World} {K : PySem.W.Frag} {mg : Str → Option Value} {base : Heap} {k : Nat} {f : Addr} {name qual : Str} {params : Arguments} {body : List Stmt} {scope : Scope} {dV kV doc pm cdv ct oc : Value} {an od : Option Addr}
    {osl : Array (Option Value)} {N ps : List Str} {sp : Sp} (lk : K.lookup f = some ⟨oc, od, .func (PySem.W.fnOf name qual params body scope dV kV doc pm an cdv ct), osl⟩) (hcd : PySem.W.codeIn K cdv qual = true) (S : bH N ps scope)
    (len : ∀ vs H Q E, sp vs H Q E → vs.length = ps.length)
    (hbody : ∀ (A : Around) (outer : List Env) (s : Shared) (H : Hp) (vs : List V) (Q : VK) (E : XK), fW k (A.deeper (envOfC qual scope s.heap.objs.size f cdv)) → sp vs H Q E →
      ∃ t, MM (gg CX P w K mg base N qual scope f cdv A outer s H E) body t ∧ t { nx := fun _ H' => Q .eY H', rt := Q } (start N vs) H) :
    oV P w K mg base CX (k + 1) f (PySem.W.fnOf name qual params body scope dV kV doc pm an cdv ct) ps sp := by
  refine ⟨len, fun A outer s H args us vs Q E hr e0 hb r Dp => ?_⟩
  have hl := len _ _ _ _ Dp
  have KX : K.In s.heap := e0.mod.J1.keeps fun b o e => (e0.bs b o e).1
  have lim : s.heap.NoLimit := e0.mod.nolimit.keeps fun b o e => (e0.bs b o e).1
  have hkind : ∀ y ∈ ps.zip us, scope.names.lookup y.1 = some .local ∨ (scope.names.lookup y.1 = some .cell ∧ ((cellsFrom (s.heap.objs.size + 1) scope.names []).lookup y.1).isSome = true) := fun ⟨n, v⟩ hy => by
    rcases S.par n (List.of_mem_zip hy).1 with q | q
    · exact .inl q
    · exact .inr ⟨q, PySem.W.cellsFrom_some _ _ _ (.inl q)⟩
  refine codeAny_call_function hr.depth (KX _ _ lk) rfl S.co S.gen rfl (PySem.W.codeRec_of KX hcd) (hb _ _ _ _ ?_)
  refine wpAny_newFunctionEnv_cells S.kind hkind fun env he s1 x => ?_
  subst he
  refine ⟨lim.keeps x.toInCall.keep, codeAny_func ?_⟩
  obtain ⟨t, ht, hq⟩ := hbody A outer s H vs Q E (hr.deeper _) Dp
  have I : Inv (gg CX P w K mg base N qual scope f cdv A outer s H E) [] (start N vs) H { s1 with toks := s1.toks + 1 } := wX S hr.hd e0 hl r x (Nat.succ_pos _)
  refine wpAny_mono (ht s1 (start N vs) H _ I hq) (fun fl s' hs => ?_) fun e s' hs => hs
  have fin : ∀ {σ' : St} {H' : Hp} {v : V} {u : Value}, Inv (gg CX P w K mg base N qual scope f cdv A outer s H E) [] σ' H' s' → RelV v u → Q v H' → CE outer P w H s Q u s' :=
    fun {σ' H' v u} J rv q => ⟨v, H', J.os, J.bare, J.base, J.hok, rv, q⟩
  cases fl with
  | ret u =>
    obtain ⟨v, σ', H', J, rv, q⟩ := hs
    exact fin J rv q
  | next =>
    obtain ⟨σ', H', J, q⟩ := hs
    exact fin (v := V.eY) (u := Value.none) J rfl q
  | brk =>
    obtain ⟨_, _, _, q⟩ := hs
    exact False.elim q
  | cont =>
    obtain ⟨_, _, _, q⟩ := hs
    exact False.elim q
end L2
namespace L2
open PySem PySem.Spec PyProof.Rows
section
variable {X : Cx} {x : Str} {p pos : Pos} {e : Expr} {es : List Expr} {t : TA} {id T : String} {r : List V → Hp → VK → Prop}
noncomputable def So (r : List V → Hp → VK → Prop) (t : TA) : TE := fun σ H Q => t σ H fun vs H1 => r vs H1 Q
theorem EF (hc : iP X (.builtin id) r) (hg : Gl X x) (hm : X.mg x = none) (hv : bootBuiltins x = some (.builtin id)) (ha : PA X (e :: es) t) (hn : x ≠ "__name__" := by decide) (hdb : (x == ("__debug__" : Str)) = false := by decide)
    (he : starEach (e :: es) X.env = (false, eval e X.env) :: starEach es X.env := by rfl) (hpl : (backTo pos (starEach es X.env)).any (·.1) = false := by rfl) : PE X (.Call (.Name x p) (e :: es) [] pos) (So r t) := by
  intro pins s σ H Q I h
  refine wpAny_Call_Name_kw (ji I hg hm hv ?_ hn hdb)
  exact PyProof.Rows.callWith_builtin1 (fV (ha pos pins s σ H _ I h) fun us s1 ⟨vs, H1, I1, r1, q1⟩ => hc pins s1 σ H1 vs us Q I1 r1 q1) he hpl
theorem Dq (hc : iP X (.type T) r) (hg : Gl X x) (hm : X.mg x = none) (hv : bootBuiltins x = some (.type T)) (ha : PA X (e :: es) t) (hn : x ≠ "__name__" := by decide) (hdb : (x == ("__debug__" : Str)) = false := by decide)
    (he : starEach (e :: es) X.env = (false, eval e X.env) :: starEach es X.env := by rfl) (hpl : (backTo pos (starEach es X.env)).any (·.1) = false := by rfl) : PE X (.Call (.Name x p) (e :: es) [] pos) (So r t) := by
  intro pins s σ H Q I h
  refine wpAny_Call_Name_kw (ji I hg hm hv ?_ hn hdb)
  exact PyProof.Rows.callWith_type1 (fV (ha pos pins s σ H _ I h) fun us s1 ⟨vs, H1, I1, r1, q1⟩ => hc pins s1 σ H1 vs us Q I1 r1 q1) he hpl
end
end L2
namespace HT
open PySem PyProof.Rows
section
open PySem.SeqAt
open PySem.AutoSeq1 (wpAny_loadPart')
open PySem.MeetsSeq PySem.MeetsSeq2 PySem.MeetsSeq3
end
section
variable {prog : Program} {w : World} {A : Around} {E : Value → Shared → Prop} {s : Shared}
theorem HF {t b : Addr} {vs ws : List Value} {Q : Value → Shared → Prop} (ht : IsTup s.heap t vs.toArray) (hb : IsTup s.heap b ws.toArray) (hv : vs ≠ [])
    (h1 : ws = [] → Q (.ref t) s) (h2 : ws ≠ [] → Q (.ref s.heap.objs.size) { s with heap := s.heap.push { cls := .type "tuple", data := .seq (vs ++ ws).toArray } })
    (hsz : vs.length + ws.length ≤ sizeLine) : wpAny (model prog w) A (binaryOp .Add (.ref t) (.ref b)) Q E s := by
  obtain ⟨⟨cls, dd, data, sl⟩, ho, hc, n, hd⟩ := id ht
  obtain ⟨⟨KN, dd2, data2, sl2⟩, ho2, hc2, n2, hd2⟩ := id hb
  simp only at hc hd hc2 hd2
  subst hc hd hc2 hd2
  have e : vs.toArray ++ ws.toArray = (vs ++ ws).toArray := by simp
  by_cases hw : ws = []
  · exact concat_meets ⟨_, ho, rfl⟩ ⟨_, ho2, rfl⟩ noFill_tuple_add seq_tuple_add PySem.F.slot_tuple_add PySem.F.entry_tuple_add (PySem.F.args_tuple_add_2 _ _)
      (tuple_addW1 t b vs.toArray ws.toArray n n2 dd dd2 sl sl2 (by simpa using hv) (by simp [hw])) ⟨ho, ho2, h1 hw⟩
  · refine concat_meets ⟨_, ho, rfl⟩ ⟨_, ho2, rfl⟩ noFill_tuple_add seq_tuple_add PySem.F.slot_tuple_add PySem.F.entry_tuple_add (PySem.F.args_tuple_add_2 _ _)
      (tuple_addW2 t b vs.toArray ws.toArray n n2 dd dd2 sl sl2 (by simpa using hv) (by simpa using hw) (by rw [List.size_toArray, List.size_toArray]; exact hsz)) ⟨ho, ho2, ?_⟩
    rw [e]
    exact h2 hw
noncomputable def gh (n d : Nat) : Option Int → Nat
  | none => d
  | some v => if v < 0 then (v + (n : Int)).toNat else min v.toNat n
theorem EG (n d : Nat) : gh n d none = d := rfl
theorem HG (n d k : Nat) : gh n d (some (k : Int)) = min k n := by
  show (if (k : Int) < 0 then ((k : Int) + (n : Int)).toNat else min (k : Int).toNat n) = min k n
  rw [if_neg (by omega), Int.toNat_natCast]
theorem KO (n d : Nat) (hd : d ≤ n) (o : Option Int) : gh n d o ≤ n := by
  cases o with
  | none => exact hd
  | some v =>
    show (if v < 0 then (v + (n : Int)).toNat else min v.toNat n) ≤ n
    by_cases hv : v < 0
    · rw [if_pos hv]; omega
    · rw [if_neg hv]; exact Nat.min_le_right _ _
theorem Ci (v : Int) (n d : Nat) : (if v < 0 then max (v + (n : Int)) 0 else min v (n : Int)) = ((gh n d (some v) : Nat) : Int) := by
  show (if v < 0 then max (v + (n : Int)) 0 else min v (n : Int)) = (((if v < 0 then (v + (n : Int)).toNat else min v.toNat n) : Nat) : Int)
  by_cases hv : v < 0
  · simp only [if_pos hv]; omega
  · simp only [if_neg hv]; omega
theorem Ba (lo hi : Option Int) (n : Nat) : Builtin.Slice.sliceAdjust lo hi 1 (n : Int) = (((gh n 0 lo : Nat) : Int), ((gh n n hi : Nat) : Int)) := by
  have h1 : ¬ ((1 : Int) < 0) := by omega
  unfold Builtin.Slice.sliceAdjust
  simp only [h1, if_false]
  refine Prod.ext ?_ ?_
  · cases lo with
    | none => rfl
    | some v => exact Ci v n 0
  · cases hi with
    | none => rfl
    | some v => exact Ci v n n
theorem Bb (i j : Nat) : Builtin.Slice.slicePlaces (i : Int) (j : Int) 1 = j - i := by
  unfold Builtin.Slice.slicePlaces
  have h1 : (1 : Int) > 0 := by omega
  simp only [h1, if_true, Int.ediv_one]
  split <;> omega
theorem uz {v : Value} {o : Option Int} {Q : Option Int → Shared → Prop} (p : IsPart v o) (h : Q o s) : wpAny (model prog w) A (Builtin.Slice.slicePartIndex v) Q E s := by
  cases p with
  | none => exact slicePart_none h
  | int i t => exact slicePart_int h
theorem rV {sl : Addr} {vl vu : Value} {lo hi : Option Int} {n : Nat} {Q : Int × Int × Nat → Shared → Prop} (hs : s.heap.IsSliceOf sl vl vu .none) (pl : IsPart vl lo) (pu : IsPart vu hi)
    (h : Q (((gh n 0 lo : Nat) : Int), 1, gh n n hi - gh n 0 lo) s) : wpAny (model prog w) A (Builtin.Slice.sliceApplied (.ref sl) (pure (n : Int))) Q E s := by
  obtain ⟨os, hos, hcs, hds⟩ := id hs
  unfold Builtin.Slice.sliceApplied Builtin.Slice.sliceFields
  refine wpAny_bind (wpAny_bind (wpAny_field hos hds (x := vl) rfl (wpAny_bind (wpAny_field hos hds (x := vu) rfl (wpAny_bind (wpAny_field hos hds (x := .none) rfl (wpAny_pure ?_)))))))
  refine wpAny_bind (slicePart_none ?_)
  show wpAny _ _ (if ((1 : Int) == 0) = true then _ else _) _ _ s
  rw [if_neg (by decide)]
  refine wpAny_bind (uz pl (wpAny_bind (uz pu (wpAny_bind (wpAny_pure ?_)))))
  show wpAny _ _ (match Builtin.Slice.sliceAdjust lo hi 1 (n : Int) with | (lo, hi) => pure (lo, (1 : Int), Builtin.Slice.slicePlaces lo hi 1)) _ _ s
  rw [Ba lo hi n]
  show wpAny _ _ (pure (((gh n 0 lo : Nat) : Int), (1 : Int), Builtin.Slice.slicePlaces ((gh n 0 lo : Nat) : Int) ((gh n n hi : Nat) : Int) 1)) _ _ s
  rw [Bb]
  exact wpAny_pure h
theorem EH (xs : Array Value) (i k : Nat) : ((List.range k).filterMap fun (m : Nat) => xs[((i : Int) + (m : Int) * 1).toNat]?).toArray = ((xs.toList.drop i).take k).toArray := by
  have e : (fun (m : Nat) => xs[((i : Int) + (m : Int) * 1).toNat]?) = fun m => xs[i + m]? := by
    funext m
    have : ((i : Int) + (m : Int) * 1).toNat = i + m := by omega
    rw [this]
  rw [e]
  have := pick_run xs i k
  rw [List.filterMap_map] at this
  have e2 : ((fun x => xs[x]?) ∘ fun x => i + x) = fun m => xs[i + m]? := rfl
  rw [e2] at this
  rw [this]
theorem qk {t sl : Addr} {items : Array Value} {vl vu : Value} {lo hi : Option Int} {Q : Value → Shared → Prop} (ht : IsTup s.heap t items) (hs : s.heap.IsSliceOf sl vl vu .none) (pl : IsPart vl lo) (pu : IsPart vu hi)
    (hw : ¬ (gh items.size 0 lo = 0 ∧ gh items.size items.size hi = items.size))
    (h : Q (.ref s.heap.objs.size) { s with heap := s.heap.push { cls := .type "tuple", data := .seq ((items.toList.drop (gh items.size 0 lo)).take (gh items.size items.size hi - gh items.size 0 lo)).toArray } })
    (hsz : items.size ≤ sizeLine) : wpAny (model prog w) A (getItem (.ref t) (.ref sl)) Q E s := by
  have Cj : sizeOk (.seq ((items.toList.drop (gh items.size 0 lo)).take (gh items.size items.size hi - gh items.size 0 lo)).toArray) := by
    show ((items.toList.drop (gh items.size 0 lo)).take (gh items.size items.size hi - gh items.size 0 lo)).toArray.size ≤ sizeLine
    rw [List.size_toArray, List.length_take, List.length_drop, Array.length_toList]
    omega
  have hj : gh items.size items.size hi ≤ items.size := KO _ _ (Nat.le_refl _) hi
  obtain ⟨os, hos, hcs, hds⟩ := id hs
  have Uy : s.TypeIs (.ref sl) "slice" := ⟨os, hos, hcs⟩
  unfold getItem
  try with_reducible refine wpAny_holding ?_
  first | refine wpAny_bind (wpAny_pure ?_) | skip
  refine wpAny_bind (wpAny_sequenceKey ht.typeIs (by decide) ?_)
  refine wpAny_bind (wpAny_callSpecial?_slot (name := Str.ofString "__getitem__") ht.typeIs PyProof.Rows.slot_tuple_getitem
    (wpAny_call_entry PyProof.Rows.slot_tuple_getitem ht.typeIs entry_tuple_getitem ?_ (args_tuple_getitem _ _)))
  show wpAny _ _ (Builtin.Tuple.tupleItemsOf (.ref t) >>= _) _ _ s
  refine wpAny_bind (tupleItemsOf_ ht ?_)
  refine wpAny_bind (wpAny_typeOf Uy ?_)
  rw [if_pos (by decide)]
  refine wpAny_bind (rV hs pl pu ?_)
  have hno : ¬ ((((gh items.size 0 lo : Nat) : Int) == 0 && (1 : Int) == 1 && (gh items.size items.size hi - gh items.size 0 lo) == items.size) = true) := by
    intro q
    rw [Bool.and_eq_true, Bool.and_eq_true] at q
    have q1 : ((gh items.size 0 lo : Nat) : Int) = 0 := eq_of_beq q.1.1
    have q2 : gh items.size items.size hi - gh items.size 0 lo = items.size := eq_of_beq q.2
    exact hw ⟨by omega, by omega⟩
  show wpAny _ _ (if (((gh items.size 0 lo : Nat) : Int) == 0 && (1 : Int) == 1 && (gh items.size items.size hi - gh items.size 0 lo) == items.size) = true then _ else _) _ _ s
  rw [if_neg hno, EH]
  first
    | exact wpAny_bind (m := Builtin.Tuple.tupleExact _) (wpAny_newObj_type (wpAny_pure ⟨_, rfl, wpAny_pure h⟩) Cj)
    | exact wpAny_bind (m := Builtin.Tuple.tupleExact _) (wpAny_newObj_type (wpAny_bind (wpAny_pure (wpAny_pure ⟨_, rfl, wpAny_pure h⟩))) Cj)
    | exact wpAny_bind (wpAny_bind (m := Builtin.Tuple.tupleExact _) (wpAny_newObj_type (wpAny_pure (wpAny_pure ⟨_, rfl, wpAny_pure h⟩)) Cj))
    | exact wpAny_bind (wpAny_bind (m := Builtin.Tuple.tupleExact _) (wpAny_newObj_type (wpAny_pure ⟨_, rfl, wpAny_pure h⟩) Cj))
end
end HT
namespace L2
open PySem PySem.Spec PyProof.Rows
noncomputable abbrev TO := St → Hp → (Option Int → Hp → Prop) → Prop
noncomputable def PO (X : Cx) (e : Option Expr) (t : TO) : Prop :=
  ∀ (pins : List (Addr × Obj)) (s : Shared) (σ : St) (H : Hp) (Q : Option Int → Hp → Prop), Inv X pins σ H s → t σ H Q →
    wpAny (model X.prog X.w) X.A (evalPart e X.env) (fun u s' => ∃ o H', Inv X pins σ H' s' ∧ IsPart u o ∧ Q o H') X.xe s
noncomputable def HH : TO := fun _ H Q => Q none H
noncomputable def MN (t : TE) : TO := fun σ H Q => t σ H fun x H1 => ∃ i, x = .int i ∧ Q (some i) H1
section
variable {X : Cx} {e : Expr} {te : TE} {lo hi : Option Expr} {tl th : TO} {pos p2 : Pos}
theorem HJ : PO X none HH := by
  intro pins s σ H Q I h
  rw [evalPart_none]
  exact wpAny_pure ⟨none, H, I, .none, h⟩
theorem HK (h : PE X e te) : PO X (some e) (MN te) := by
  intro pins s σ H Q I hw
  rw [evalPart_some]
  refine fV (h pins s σ H _ I hw) fun u s1 ⟨x, H1, I1, r1, q1⟩ => ?_
  obtain ⟨i, rfl, q⟩ := q1
  obtain ⟨t, rfl⟩ := r1
  exact ⟨some i, H1, I1, .int i t, q⟩
noncomputable def OX (X : Cx) (r : V → Option Int → Option Int → Hp → VK → Prop) : Prop :=
  ∀ (pins : List (Addr × Obj)) (s : Shared) (σ : St) (H : Hp) (x : V) (v vl vu : Value) (lo hi : Option Int) (sl : Addr) (Q : VK), Inv X pins σ H s → RelV x v → s.heap.IsSliceOf sl vl vu .none → IsPart vl lo → IsPart vu hi → r x lo hi H Q →
    ∃ T id, typeLookup (.type T) "__getitem__" = pure (some (.builtin id)) ∧ s.TypeIs v T ∧ wpAny (model X.prog X.w) X.A (getItem v (.ref sl)) (EP X pins σ Q) X.xe s
noncomputable def Uz (r : V → Option Int → Option Int → Hp → VK → Prop) (te : TE) (tl th : TO) : TE := fun σ H Q => te σ H fun x H1 => tl σ H1 fun l H2 => th σ H2 fun u H3 => r x l u H3 Q
theorem EI {r : V → Option Int → Option Int → Hp → VK → Prop} (hr : OX X r) (he : PE X e te) (hl : PO X lo tl) (hu : PO X hi th) : PE X (.Subscript e (.Slice lo hi none p2) pos) (Uz r te tl th) := by
  intro pins s σ H Q I h
  refine Subscript_ (fV (he pins s σ H _ I h) fun v s1 ⟨x, H1, I1, r1, q1⟩ => ?_)
  refine wpAny_Slice (fV (hl pins s1 σ H1 _ I1 q1) fun vl s2 ⟨l, H2, I2, pl, q2⟩ => fV (hu pins s2 σ H2 _ I2 q2) fun vu s3 ⟨u, H3, I3, pu, q3⟩ => ?_)
  rw [evalPart_none]
  refine wpAny_pure ?_
  have I4 : Inv X pins σ H3 { s3 with heap := s3.heap.push { cls := .type "slice", data := .fields #[vl, vu, .none] } } := I3.kept (t' := s3.toks) fun b ob q => Heap.get?_push_of_some _ q
  obtain ⟨T, id, hT, ht, hg⟩ := hr pins { s3 with heap := s3.heap.push { cls := .type "slice", data := .fields #[vl, vu, .none] } } σ H3 x v vl vu l u s3.heap.objs.size Q I4 r1 (Heap.IsSliceOf.new ..) pl pu q3
  show wpAny (model X.prog X.w) X.A (subscriptTail e (.Slice lo hi none p2) v (.ref s3.heap.objs.size)) (EP X pins σ Q) X.xe { s3 with heap := s3.heap.push { cls := .type "slice", data := .fields #[vl, vu, .none] } }
  exact tail_any (ops := [.ref s3.heap.objs.size, v]) ht hT hg (by with_unfolding_all rfl)
noncomputable def zC (xs : List V) (lo hi : Option Int) : List V := (xs.drop (HT.gh xs.length 0 lo)).take (HT.gh xs.length xs.length hi - HT.gh xs.length 0 lo)
theorem sP (xs : List V) (lo hi : Option Int) : (zC xs lo hi).length ≤ xs.length := by
  unfold zC
  rw [List.length_take, List.length_drop]
  omega
noncomputable def P0 (K : PySem.W.Frag) : V → Option Int → Option Int → Hp → VK → Prop := fun x lo hi H Q => ∃ a xs, x = .ref a ∧ rS K H a xs ∧
  ¬ (HT.gh xs.length 0 lo = 0 ∧ HT.gh xs.length xs.length hi = xs.length) ∧ ∀ p, H p = none → Q (.ref p) (upd H p (.tup (zC xs lo hi)))
theorem KP : OX X (P0 X.K) := by
  intro pins s σ H x v vl vu lo hi sl Q I rx hs pl pu h
  obtain ⟨a, xs, rfl, hx, hw, q⟩ := h
  cases rx
  obtain ⟨its, r, ht, hz⟩ := I.tuple hx
  have hlen : its.toArray.size = xs.length := by rw [List.size_toArray]; exact r.length.symm
  refine ⟨"tuple", _, PyProof.Rows.slot_tuple_getitem.lookup, ht.typeIs, ?_⟩
  refine HT.qk ht hs pl pu (by rw [hlen]; exact hw) ?_ (by rw [hlen]; exact hz)
  rw [hlen]
  refine ⟨.ref s.heap.objs.size, _, I.laid (t' := s.toks) (o := .tup (zC xs lo hi)) (fun b ob q => Heap.get?_push_of_some _ q) (Nat.le_refl _) ?_, rfl, q _ (I.hok.fresh (Nat.le_refl _))⟩
  exact ⟨Nat.le_trans (sP xs lo hi) hz, _, (r.drop (HT.gh xs.length 0 lo)).take (HT.gh xs.length xs.length hi - HT.gh xs.length 0 lo), IsTup.new _ _⟩
noncomputable def MO (K : PySem.W.Frag) : R2 := fun x y H Q => ∃ a b xs ys, x = .ref a ∧ y = .ref b ∧ rS K H a xs ∧ rS K H b ys ∧ xs ≠ [] ∧ xs.length + ys.length ≤ sizeLine ∧
  (ys = [] → Q (.ref a) H) ∧ (ys ≠ [] → ∀ p, H p = none → Q (.ref p) (upd H p (.tup (xs ++ ys))))
theorem Vals.xZ {xs : List V} {us : List Value} (r : Vals xs us) : us = [] ↔ xs = [] := by
  cases r with
  | nil => simp
  | cons _ _ => simp
theorem HL : pF X (binaryOp .Add) (MO X.K) := by
  intro pins s σ H x y v u Q I rx ry h
  obtain ⟨a, b, xs, ys, rfl, rfl, ha, hb, hx, hz, q1, q2⟩ := h
  cases rx
  cases ry
  obtain ⟨its, r1, p1, _⟩ := I.tuple ha
  obtain ⟨its2, r2, p2, _⟩ := I.tuple hb
  refine HT.HF p1 p2 (fun z => hx (r1.xZ.mp z)) (fun z => ⟨.ref a, H, I, rfl, q1 (r2.xZ.mp z)⟩) (fun z => ?_) (by rw [← r1.length, ← r2.length]; exact hz)
  refine ⟨.ref s.heap.objs.size, _, I.laid (t' := s.toks) (o := .tup (xs ++ ys)) (fun b ob q => Heap.get?_push_of_some _ q) (Nat.le_refl _) ?_, rfl, q2 (fun w => z (r2.xZ.mpr w)) _ (I.hok.fresh (Nat.le_refl _))⟩
  exact ⟨by rw [List.length_append]; exact hz, _, r1.append r2, IsTup.new _ _⟩
end
end L2
namespace L2
open PySem PySem.Spec PyProof.Rows
noncomputable def Dr (n : Nat) (i : Int) : Option Nat := if 0 ≤ i then (if i < n then some i.toNat else none) else if -(n : Int) ≤ i then some (i + n).toNat else none
noncomputable def jQ {α : Type} (xs : List α) (i : Int) : Option α := (Dr xs.length i).bind fun j => xs[j]?
theorem Ck {n : Nat} {i : Int} {j : Nat} (h : Dr n i = some j) : seqIndex? i n = some j ∧ j < n ∧ -(n : Int) ≤ i ∧ i < n := by
  unfold Dr at h
  by_cases h0 : 0 ≤ i
  · rw [if_pos h0] at h
    by_cases h1 : i < n
    · rw [if_pos h1] at h
      have e : i.toNat = j := Option.some.inj h
      exact ⟨by rw [seqIndex_of h0 h1, e], by omega, by omega, h1⟩
    · rw [if_neg h1] at h; cases h
  · rw [if_neg h0] at h
    by_cases h1 : -(n : Int) ≤ i
    · rw [if_pos h1] at h
      have e : (i + n).toNat = j := Option.some.inj h
      exact ⟨by rw [seqIndex_neg (by omega) h1, e], by omega, h1, by omega⟩
    · rw [if_neg h1] at h; cases h
theorem x6 {α : Type} {xs : List α} {i : Int} {v : α} (h : jQ xs i = some v) : ∃ j, seqIndex? i xs.length = some j ∧ xs[j]? = some v ∧ j < xs.length ∧ -(xs.length : Int) ≤ i ∧ i < xs.length := by
  unfold jQ at h
  cases e : Dr xs.length i with
  | none => rw [e] at h; cases h
  | some j =>
    rw [e] at h
    obtain ⟨h1, h2, h3, h4⟩ := Ck e
    exact ⟨j, h1, h, h2, h3, h4⟩
theorem gB {α : Type} {xs : List α} {j : Nat} {v : α} (h : xs[j]? = some v) : jQ xs (j : Int) = some v := by
  have hj : j < xs.length := (List.getElem?_eq_some_iff.mp h).1
  have e : Dr xs.length (j : Int) = some j := by
    unfold Dr
    rw [if_pos (by omega), if_pos (by omega)]; simp
  unfold jQ; rw [e]; exact h
noncomputable def ua (b : Expr) : Prop := ∀ o i, subscripted b false o i = operate [o, i] (getItem o i)
noncomputable def Me (X : Cx) (r : R2) : Prop :=
  ∀ (value slice : Expr) (pins : List (Addr × Obj)) (s : Shared) (σ : St) (H : Hp) (x y : V) (v u : Value) (Q : VK), Inv X pins σ H s → RelV x v → RelV y u → r x y H Q →
    subscripted slice false v u = operate [v, u] (getItem v u) → wpAny (model X.prog X.w) X.A (subscriptTail value slice v u) (EP X pins σ Q) X.xe s
noncomputable def Hh (X : Cx) (id : String) (r : V → List V → Hp → VK → Prop) : Prop :=
  ∀ (pins : List (Addr × Obj)) (s : Shared) (σ : St) (H : Hp) (x : V) (xs : List V) (v : Value) (us : List Value) (Q : VK), Inv X pins σ H s → RelV x v → Vals xs us → r x xs H Q →
    wpAny (model X.prog X.w) X.A (call (.builtin id) (v :: us)) (EP X pins σ Q) X.xe s
section
variable {X : Cx} {a b : Expr} {ta tb : TE} {pos : Pos}
theorem MP {r : R2} (hr : Me X r) (ha : PE X a ta) (hb : PE X b tb) (hs : ua b) : PE X (.Subscript a b pos) (MB r ta tb) := by
  intro pins s σ H Q I h
  exact Subscript_ (Kq ha hb I h fun v u s2 x y H2 I2 rx ry q => hr a b pins s2 σ H2 x y v u Q I2 rx ry q (hs _ _))
noncomputable def P1 (K : PySem.W.Frag) : R2 := fun x y H Q => ∃ p xs i v, x = .ref p ∧ y = .int i ∧ pD K H p xs ∧ jQ xs i = some v ∧ Q v H
noncomputable def P4 (K : PySem.W.Frag) : R2 := fun x y H Q => ∃ p xs i v, x = .ref p ∧ y = .int i ∧ rS K H p xs ∧ jQ xs i = some v ∧ Q v H
noncomputable def P5 : R2 := fun x y H Q => ∃ z i c, x = .str z ∧ y = .int i ∧ z.length ≤ sizeLine ∧ jQ z.cps.toList i = some c ∧ Q (.str ⟨#[c]⟩) H
theorem HM : Me X (P1 X.K) := by
  intro value slice pins s σ H x y v u Q I rx ry h hs
  obtain ⟨p, xs, i, z, rfl, rfl, hq, he, q⟩ := h
  cases rx
  obtain ⟨t, rfl⟩ := ry
  obtain ⟨its, r, pl, hz⟩ := I.list hq
  obtain ⟨j, h1, h2, h3, h4, h5⟩ := x6 he
  obtain ⟨w, ew, rw'⟩ := r.get h2
  have hl := r.length
  have hn := pG
  have fin : EP X pins σ Q w s := ⟨z, H, I, rw', q⟩
  by_cases h0 : 0 ≤ i
  · have hj : i.toNat = j := by
      rw [seqIndex_of h0 h5] at h1
      exact Option.some.inj h1
    exact item_listR pl.isList h0 (by omega) (by rw [hj]; simpa using ew) fin hs
  · have hj : (i + (its.toArray.size : Int)).toNat = j := by
      rw [seqIndex_neg (by omega) h4] at h1
      rw [List.size_toArray, ← hl]
      exact Option.some.inj h1
    exact subscriptTail_builtinR (x := w) pl.isList.typeIs slot_list_getitem.lookup
      (wpAny_getItem_list_neg (Q := fun r s' => r = w ∧ EP X pins σ Q r s') pl.isList (by omega) (by rw [List.size_toArray] <;> omega) (by omega) (by rw [hj]; simpa using ew) ⟨rfl, fin⟩) hs
theorem KQ : Me X (P4 X.K) := by
  intro value slice pins s σ H x y v u Q I rx ry h hs
  obtain ⟨p, xs, i, z, rfl, rfl, hq, he, q⟩ := h
  cases rx
  obtain ⟨t, rfl⟩ := ry
  obtain ⟨its, r, pl, hz⟩ := I.tuple hq
  obtain ⟨j, h1, h2, h3, h4, h5⟩ := x6 he
  obtain ⟨w, ew, rw'⟩ := r.get h2
  have hl := r.length
  have hn := pG
  have fin : EP X pins σ Q w s := ⟨z, H, I, rw', q⟩
  exact subscriptTail_builtinR (x := w) pl.typeIs slot_tuple_getitem.lookup
    (getItem_tuple (j := j) (Q := fun r s' => r = w ∧ EP X pins σ Q r s') pl (by omega) (by omega) (by rw [List.size_toArray, ← hl]; exact h1) (by simpa using ew) ⟨rfl, fin⟩) hs
theorem KR : Me X P5 := by
  intro value slice pins s σ H x y v u Q I rx ry h hs
  obtain ⟨z, i, c, rfl, rfl, hz, he, q⟩ := h
  obtain ⟨t, rfl⟩ := rx
  obtain ⟨t', rfl⟩ := ry
  obtain ⟨j, h1, h2, h3, h4, h5⟩ := x6 he
  have hl : z.cps.toList.length = z.length := by simp [Str.length]
  rw [hl] at h1 h4 h5
  have hn := pG
  exact tail_any (typeIs_str s z t) slot_str_getitem.lookup (getItem_str (c := c) (by
    have e1 : decide (i < -(2 ^ 63 : Int)) = false := decide_eq_false (by omega)
    have e2 : decide (i ≥ 2 ^ 63) = false := decide_eq_false (by omega)
    rw [e1, e2, Bool.or_false]) (by rw [h1]; simpa using h2) ⟨.str ⟨#[c]⟩, H, I.tok _, ⟨_, rfl⟩, q⟩) hs
theorem Bc (its : List Value) (n j : Nat) (u : Value) : Obj.mapSeq (·.setIfInBounds j u) { cls := .type "list", data := .seq its.toArray n } = { cls := .type "list", data := .seq (its.set j u).toArray n } := by
  simp [Obj.mapSeq]
theorem Inv.lst {pins : List (Addr × Obj)} {σ : St} {H : Hp} {s : Shared} {p : Addr} {xs : List V} (I : Inv X pins σ H s) (h : H p = some (.lst xs)) :
    ∃ (its : List Value) (n : Nat), Vals xs its ∧ s.heap.get? p = some { cls := .type "list", data := .seq its.toArray n } ∧ xs.length ≤ sizeLine := by
  obtain ⟨z, its, n, r, e⟩ := I.hok p _ h
  exact ⟨its, n, r, e, z⟩
theorem Inv.KS {pins : List (Addr × Obj)} {σ : St} {H : Hp} {s : Shared} {p : Addr} {xs ys : List V} {its its' : List Value} {n n' : Nat} {f : Obj → Obj} (I : Inv X pins σ H s) (h : H p = some (.lst xs))
    (ho : s.heap.get? p = some { cls := .type "list", data := .seq its.toArray n }) (hf : f { cls := .type "list", data := .seq its.toArray n } = { cls := .type "list", data := .seq its'.toArray n' }) (r : Vals ys its') (hz : ys.length ≤ sizeLine) (t : Nat) (ht : 0 < t := by first | exact Nat.succ_pos _ | exact (Inv.os (by assumption)).2 | assumption | omega) :
    Inv X pins σ (upd H p (.lst ys)) { s with heap := s.heap.update p f, toks := t } := by
  have e : (s.heap.update p f).get? p = some { cls := .type "list", data := .seq its'.toArray n' } := by
    rw [Heap.get?_update_self f ho (by rw [hf] <;> rfl), hf]
  refine I.write (x := p) (e := p) (by rw [h]; trivial) (.inl rfl) (fun b u hb q => (Heap.get?_update_other _ _ (Ne.symm hb)).trans q) ⟨_, e⟩ ?_
  exact ⟨hz, its', n', r, e⟩
noncomputable def MQ : V → V → V → Hp → (Hp → Prop) → Prop := fun o i v H Q => ∃ p xs k j, o = .ref p ∧ i = .int k ∧ H p = some (.lst xs) ∧ Dr xs.length k = some j ∧ Q (upd H p (.lst (xs.set j v)))
theorem set_list : My X MQ := by
  intro pins s σ H o i v ov iv u Q I ro ri rv h
  obtain ⟨p, xs, k, j, rfl, rfl, hp, hj, q⟩ := h
  cases ro
  obtain ⟨t, rfl⟩ := ri
  obtain ⟨its, n, r, ho, hz⟩ := I.lst hp
  obtain ⟨h1, h2, h3, h4⟩ := Ck hj
  have hl := r.length
  have hn := pG
  have I' : Inv X pins σ (upd H p (.lst (xs.set j v))) { s with heap := s.heap.update p (Obj.mapSeq (·.setIfInBounds j u)) } :=
    I.KS hp ho (Bc its n j u) (r.set rv j) (by rw [List.length_set]; exact hz) s.toks
  by_cases h0 : 0 ≤ k
  · have hk : k.toNat = j := by
      rw [seqIndex_of h0 h4] at h1
      exact Option.some.inj h1
    exact PySem.W.ki_setAt ho h0 (by omega) (by rw [List.size_toArray, ← hl]; exact h4) (by rw [hk]; exact ⟨_, I', q⟩)
  · have hk : (k + (its.toArray.size : Int)).toNat = j := by
      rw [seqIndex_neg (by omega) h3] at h1
      rw [List.size_toArray, ← hl]
      exact Option.some.inj h1
    exact PySem.W.ki_setBack ho (by omega) (by rw [List.size_toArray, ← hl]; exact h3) (by omega) (by rw [hk]; exact ⟨_, I', q⟩)
theorem x8 (lo hi : Option Int) (n : Nat) : (sliceBounds lo hi none n).1 = ((HT.gh n 0 lo : Nat) : Int) ∧ (sliceBounds lo hi none n).2.1 = ((HT.gh n n hi : Nat) : Int) ∧ (sliceBounds lo hi none n).2.2 = 1 := by
  refine ⟨?_, ?_, rfl⟩
  · cases lo with
    | none => simp [sliceBounds, HT.gh]
    | some i =>
      simp only [sliceBounds, HT.gh, Option.getD_none, show (1 : Int) > 0 by decide, if_true]
      by_cases h : i < 0
      · simp only [h, if_true] <;> omega
      · simp only [h, if_false] <;> omega
  · cases hi with
    | none => simp [sliceBounds, HT.gh]
    | some i =>
      simp only [sliceBounds, HT.gh, Option.getD_none, show (1 : Int) > 0 by decide, if_true]
      by_cases h : i < 0
      · simp only [h, if_true] <;> omega
      · simp only [h, if_false] <;> omega
theorem vN (its : List Value) (lo hi : Option Int) : slicePick its.toArray lo hi none = ((its.drop (HT.gh its.length 0 lo)).take (HT.gh its.length its.length hi - HT.gh its.length 0 lo)).toArray := by
  obtain ⟨h1, h2, h3⟩ := x8 lo hi its.toArray.size
  unfold slicePick
  rw [h1, h2, h3]
  simp only [sliceRange_one, pick_run, List.size_toArray] <;> rfl
noncomputable def P6 (K : PySem.W.Frag) : V → Option Int → Option Int → Hp → VK → Prop := fun x lo hi H Q => ∃ a xs, x = .ref a ∧ pD K H a xs ∧ ∀ p, H p = none → Q (.ref p) (upd H p (.lst (zC xs lo hi)))
theorem HN : OX X (P6 X.K) := by
  intro pins s σ H x v vl vu lo hi sl Q I rx hs pl pu h
  obtain ⟨a, xs, rfl, hx, q⟩ := h
  cases rx
  obtain ⟨its, r, ht, hz⟩ := I.list hx
  have hlen := r.length
  refine ⟨"list", _, slot_list_getitem.lookup, ht.isList.typeIs, ?_⟩
  refine wpAny_getItem_list_slice ht.isList hs pl pu .none (by simp) ?_ (by rw [List.size_toArray] <;> omega)
  rw [vN, ← hlen]
  refine ⟨.ref s.heap.objs.size, _, I.laid (t' := s.toks) (o := .lst (zC xs lo hi)) (fun b ob q => Heap.get?_push_of_some _ q) (Nat.le_refl _) ?_, rfl, q _ (I.hok.fresh (Nat.le_refl _))⟩
  exact ⟨Nat.le_trans (sP xs lo hi) hz, _, 0, (r.drop (HT.gh xs.length 0 lo)).take (HT.gh xs.length xs.length hi - HT.gh xs.length 0 lo), Heap.get?_push_size _ rfl⟩
theorem ql : iP X (.builtin "len") (fun xs H Q => ∃ p ys, xs = [.ref p] ∧ (pD X.K H p ys ∨ rS X.K H p ys) ∧ Q (.int ys.length) H) := by
  intro pins s σ H xs us Q I r h
  obtain ⟨p, ys, rfl, hq, q⟩ := h
  obtain ⟨u, rfl, rx⟩ := vals1 r
  cases rx
  have hn := pG
  rcases hq with hq | hq
  · obtain ⟨its, r', pl, hz⟩ := I.list hq
    have hlen := r'.length
    exact Calls.call_len_list pl.isList (by simp only [List.size_toArray] <;> omega) ⟨.int ys.length, H, I.tok _, ⟨s.toks + 1, by rw [List.size_toArray, hlen]⟩, q⟩
  · obtain ⟨its, r', pl, hz⟩ := I.tuple hq
    have hlen := r'.length
    exact len_tuple pl (by simp only [List.size_toArray] <;> omega) ⟨.int ys.length, H, I.tok _, ⟨s.toks + 1, by rw [List.size_toArray, hlen]⟩, q⟩
theorem ya : iP X (.builtin "len") (fun xs H Q => ∃ z, xs = [.str z] ∧ z.length ≤ sizeLine ∧ Q (.int z.length) H) := by
  intro pins s σ H xs us Q I r h
  obtain ⟨z, rfl, hz, q⟩ := h
  obtain ⟨u, rfl, t, rfl⟩ := vals1 r
  have hn := pG
  exact len_str (by omega) ⟨.int z.length, H, I.tok _, ⟨_, rfl⟩, q⟩
theorem qp : iP X (.type "list") (fun xs H Q => ∃ p ys, xs = [.ref p] ∧ (pD X.K H p ys ∨ rS X.K H p ys) ∧ ∀ l, H l = none → Q (.ref l) (upd H l (.lst ys))) := by
  intro pins s σ H xs us Q I r h
  obtain ⟨p, ys, rfl, hq, q⟩ := h
  obtain ⟨u, rfl, rx⟩ := vals1 r
  cases rx
  have fin : ∀ (its : List Value), Vals ys its → ys.length ≤ sizeLine → ∀ (h' : Heap) (c' : Nat), (∀ b o', s.heap.get? b = some o' → h'.get? b = some o') →
      h'.get? s.heap.objs.size = some { cls := .type "list", dict := none, data := .seq its.toArray c', slots := #[] } → EP X pins σ Q (.ref s.heap.objs.size) { s with heap := h' } := fun its r' hz h' c' kp e =>
    ⟨.ref s.heap.objs.size, _, I.laid (t' := s.toks) kp (Nat.le_refl _) (show jO X.prog X.w _ h' _ (.lst ys) from ⟨hz, its, c', r', e⟩), rfl, q _ (I.hok.fresh (Nat.le_refl _))⟩
  rcases hq with hq | hq
  · obtain ⟨its, r', pl, hz⟩ := I.list hq
    have hlen := r'.length
    obtain ⟨o, ho, hc, n, hd⟩ := pl.isList
    exact call_list_seq p (.inl rfl) ho hc hd (fun h' c' kp e => fin its r' hz h' c' kp e) (by simp only [List.size_toArray] <;> omega)
  · obtain ⟨its, r', pl, hz⟩ := I.tuple hq
    have hlen := r'.length
    obtain ⟨o, ho, hc, n, hd⟩ := pl
    exact call_list_seq p (.inr rfl) ho hc hd (fun h' c' kp e => fin its r' hz h' c' kp e) (by simp only [List.size_toArray] <;> omega)
theorem oW : iP X (.type "tuple") (fun xs H Q => ∃ p ys, xs = [.ref p] ∧ ((pD X.K H p ys ∧ ∀ l, H l = none → Q (.ref l) (upd H l (.tup ys))) ∨ (rS X.K H p ys ∧ Q (.ref p) H))) := by
  intro pins s σ H xs us Q I r h
  obtain ⟨p, ys, rfl, h⟩ := h
  obtain ⟨u, rfl, rx⟩ := vals1 r
  cases rx
  rcases h with ⟨hq, q⟩ | ⟨hq, q⟩
  · obtain ⟨its, r', pl, hz⟩ := I.list hq
    have hlen := r'.length
    refine call_tuple_list pl.isList (fun h' kp => ?_) (by simp only [List.size_toArray] <;> omega)
    have I1 : Inv X pins σ H { s with heap := h' } := I.kept (t' := s.toks) kp
    have I2 : Inv X pins σ (upd H h'.objs.size (.tup ys)) { s with heap := h'.push { cls := .type "tuple", data := .seq its.toArray } } :=
      I1.laid (t' := s.toks) (fun b o e => Heap.get?_push_of_some _ e) (Nat.le_refl _) (show jO X.prog X.w _ _ _ (.tup ys) from ⟨hz, its, r', IsTup.new _ _⟩)
    exact ⟨.ref h'.objs.size, _, I2, rfl, q _ (I1.hok.fresh (Nat.le_refl _))⟩
  · obtain ⟨its, r', pl, hz⟩ := I.tuple hq
    exact call_tuple_same pl ⟨.ref p, H, I, rfl, q⟩
noncomputable def OY (K : PySem.W.Frag) (T : String) (x : V) (H : Hp) : Prop := match x with
  | .str _ => T = "str"
  | .int _ => T = "int"
  | .ref p => (T = "list" ∧ ∃ xs, pD K H p xs) ∨ (T = "tuple" ∧ ∃ o, K.lookup p = some o ∧ o.cls = .type "tuple" ∧ o.dict = none) ∨
      (T = "dict" ∧ ((∃ kvs, H p = some (.dK kvs)) ∨ ∃ kvs, H p = some (.dT kvs))) ∨ (T = "set" ∧ ∃ S n, H p = some (.set S n))
  | _ => False
theorem yb {pins : List (Addr × Obj)} {σ : St} {H : Hp} {s : Shared} {T : String} {x : V} {v : Value} (I : Inv X pins σ H s) (r : RelV x v) (ty : OY X.K T x H) :
    s.TypeIs v T ∧ ∀ a, v = .ref a → ∃ ob, s.heap.get? a = some ob ∧ ob.dict = none := by
  cases x with
  | str z =>
    obtain ⟨t, rfl⟩ := r
    cases (show T = "str" from ty)
    exact ⟨typeIs_str s z t, fun _ e => nomatch e⟩
  | int i =>
    obtain ⟨t, rfl⟩ := r
    cases (show T = "int" from ty)
    exact ⟨typeIs_int s i t, fun _ e => nomatch e⟩
  | ref p =>
    cases r
    rcases ty with ⟨rfl, xs, hq⟩ | ⟨rfl, o, hk, hc, hd⟩ | ⟨rfl, hk⟩ | ⟨rfl, S, n, hk⟩
    · obtain ⟨its, _, pl, _⟩ := I.list hq
      refine ⟨pl.isList.typeIs, fun a e => ?_⟩
      cases e
      obtain ⟨o, n, e, c, hd, _⟩ := pl
      exact ⟨o, e, hd⟩
    · refine ⟨⟨o, I.A0 p o hk, hc⟩, fun a e => ?_⟩
      cases e
      exact ⟨o, I.A0 _ o hk, hd⟩
    · have z : ∃ o, s.heap.get? p = some o ∧ o.ExactDict := by
        rcases hk with ⟨kvs, hk⟩ | ⟨kvs, hk⟩
        · obtain ⟨_, _, _, _, o, _, _, e, ex, _⟩ := I.hok p _ hk
          exact ⟨o, e, ex⟩
        · obtain ⟨_, _, _, _, o, _, _, e, ex, _⟩ := I.hok p _ hk
          exact ⟨o, e, ex⟩
      obtain ⟨o, e, ex⟩ := z
      refine ⟨⟨o, e, ex.1⟩, fun a e2 => ?_⟩
      cases e2
      exact ⟨o, e, ex.2.1⟩
    · obtain ⟨o, _, _, _, e, ex, _⟩ := I.hok p _ hk
      refine ⟨⟨o, e, ex.1⟩, fun a e2 => ?_⟩
      cases e2
      exact ⟨o, e, ex.2.1⟩
  | _ => exact False.elim ty
noncomputable def P7 (K : PySem.W.Frag) (T : String) (r : V → List V → Hp → VK → Prop) (to : TE) : TE := fun σ H Q => to σ H fun x H1 => OY K T x H1 ∧ r x [] H1 Q
noncomputable def UA (K : PySem.W.Frag) (T : String) (r : V → List V → Hp → VK → Prop) (to : TE) (t : TA) : TE := fun σ H Q => to σ H fun x H1 => OY K T x H1 ∧ t σ H1 fun xs H2 => r x xs H2 Q
variable {o e : Expr} {es : List Expr} {to : TE} {t : TA} {name : Str} {apos cpos : Pos} {T id : String} {r : V → List V → Hp → VK → Prop}
theorem KU (pa : PlainAttrs T) (slot : Slot T name id) (hty : typeOf (.builtin id) = pure (.type "method_descriptor")) (hm : Hh X id r) (ho : PE X o to)
    (hbase : attributeBase o name X.env (eval o X.env) = eval o X.env := by rfl) (hline : (apos.endLine == cpos.line) = true := by rfl) : PE X (.Call (.Attribute o name apos) [] [] cpos) (P7 X.K T r to) := by
  intro pins s σ H Q I h
  refine wpAny_Call_method0_late hbase hline (fV (ho pins s σ H _ I h) fun v s1 ⟨x, H1, I1, r1, ty, q1⟩ => ?_)
  obtain ⟨h1, h2⟩ := yb I1 r1 ty
  exact ⟨T, id, pa, slot, hty, h1, h2, Calls.callWith_builtin rfl (PySem.evalArgs_none (hm pins s1 σ H1 x [] v [] Q I1 r1 .nil q1))⟩
theorem MR (pa : PlainAttrs T) (slot : Slot T name id) (hty : typeOf (.builtin id) = pure (.type "method_descriptor")) (hm : Hh X id r) (ho : PE X o to) (ha : PA X (e :: es) t)
    (hbase : attributeBase o name X.env (eval o X.env) = eval o X.env := by rfl)
    (hfew : ((backTo cpos (starEach (e :: es) X.env)).all (fun x => !x.1) && (backToKw cpos (keywordEach [] X.env)).all (fun x => x.1.isSome)
      && decide ((e :: es).length + ([] : List Keyword).length + (if ([] : List Keyword).isEmpty then 0 else 1) < 30)) = true := by rfl)
    (hline : (apos.endLine == cpos.line) = true := by rfl) (hs : starEach (e :: es) X.env = (false, eval e X.env) :: starEach es X.env := by rfl) (hplain : (backTo cpos (starEach es X.env)).any (·.1) = false := by rfl) :
    PE X (.Call (.Attribute o name apos) (e :: es) [] cpos) (UA X.K T r to t) := by
  intro pins s σ H Q I h
  refine wpAny_Call_method_late hbase hfew hline rfl (fV (ho pins s σ H _ I h) fun v s1 ⟨x, H1, I1, r1, ty, q1⟩ => ?_)
  obtain ⟨h1, h2⟩ := yb I1 r1 ty
  refine ⟨T, id, pa, slot, hty, h1, h2, ?_⟩
  have hA := ha cpos pins s1 σ H1 _ I1 q1
  rw [hs] at hA ⊢
  refine Calls.callWith_builtin (by show (false || (backTo cpos (starEach es X.env)).any (·.1)) = false; rw [hplain] <;> rfl) (Calls.evalArgs_plain ?_)
  exact fV hA fun us s2 ⟨vs, H2, I2, r2, q2⟩ => hm pins s2 σ H2 x vs v us Q I2 r1 r2 q2
end
end L2
namespace L2
open PySem PySem.Spec PyProof.Rows
noncomputable def Sq (X : Cx) (id : String) (r : V → List V → Hp → VK → Prop) : Prop :=
  ∀ (pins : List (Addr × Obj)) (s : Shared) (σ : St) (H : Hp) (x : V) (xs : List V) (v : Value) (us : List Value) (Q : VK), Inv X pins σ H s → RelV x v → Vals xs us → r x xs H Q →
    wpAny (model X.prog X.w) X.A (call (.builtin id) (v :: us)) (EP X pins σ Q) X.xe s
theorem Vals.one : ∀ {x : V} {us : List Value}, Vals [x] us → ∃ u, us = [u] ∧ RelV x u
  | _, _, .cons r .nil => ⟨_, rfl, r⟩
theorem Vals.two : ∀ {x y : V} {us : List Value}, Vals [x, y] us → ∃ u v, us = [u, v] ∧ RelV x u ∧ RelV y v
  | _, _, _, .cons r (.cons q .nil) => ⟨_, _, rfl, r, q⟩
theorem Vals.zero : ∀ {us : List Value}, Vals [] us → us = []
  | _, .nil => rfl
theorem Vals.dropLast {xs : List V} {us : List Value} (h : Vals xs us) : Vals xs.dropLast us.dropLast := by
  induction h with
  | nil => exact .nil
  | cons r t ih =>
    cases t with
    | nil => exact .nil
    | cons q t' => exact .cons r ih
theorem Vals.eraseIdx : ∀ {xs : List V} {us : List Value} (i : Nat), Vals xs us → Vals (xs.eraseIdx i) (us.eraseIdx i)
  | _, _, _, .nil => .nil
  | _, _, 0, .cons _ t => t
  | _, _, i + 1, .cons r t => .cons r (Vals.eraseIdx i t)
theorem Vals.reverse {xs : List V} {us : List Value} (h : Vals xs us) : Vals xs.reverse us.reverse := by
  induction h with
  | nil => exact .nil
  | cons r t ih => rw [List.reverse_cons, List.reverse_cons]; exact Vals.append ih (.cons r .nil)
theorem Vals.rep {xs : List V} {us : List Value} (h : Vals xs us) : ∀ k : Nat, Vals (List.replicate k xs).flatten (List.replicate k us).flatten
  | 0 => .nil
  | k + 1 => by
    rw [List.replicate_succ, List.replicate_succ, List.flatten_cons, List.flatten_cons]
    exact Vals.append h (Vals.rep h k)
theorem Bd {α : Type} (l : List α) : l.eraseIdx (l.length - 1) = l.dropLast := by
  induction l with
  | nil => rfl
  | cons a r ih =>
    cases r with
    | nil => rfl
    | cons b r =>
      have e : (a :: b :: r).length - 1 = ((b :: r).length - 1) + 1 := by
        have h1 : (a :: b :: r).length = r.length + 2 := rfl
        have h2 : (b :: r).length = r.length + 1 := rfl
        omega
      rw [e, List.eraseIdx_cons_succ, ih]
      all_goals rfl
theorem foldl_rep (its : List Value) : ∀ (k : Nat) (acc : List Value),
    List.foldl (fun x1 x2 => x1 ++ x2) acc.toArray (List.replicate k its.toArray) = (acc ++ (List.replicate k its).flatten).toArray
  | 0, acc => by simp
  | k + 1, acc => by
    have e : acc.toArray ++ its.toArray = (acc ++ its).toArray := by simp
    have e2 : (acc ++ its) ++ (List.replicate k its).flatten = acc ++ (List.replicate (k + 1) its).flatten := by
      rw [List.replicate_succ, List.flatten_cons, List.append_assoc]
    rw [← e2, ← foldl_rep its k (acc ++ its), ← e, List.replicate_succ, List.foldl_cons]
section
variable {X : Cx} {pins : List (Addr × Obj)} {σ : St} {H : Hp} {s : Shared} {l b : Addr} {xs ys zs : List V}
theorem Inv.KW {its its' : List Value} {n : Nat} {f : Array Value → Array Value} {t' : Nat} (I : Inv X pins σ H s) (hH : H l = some (.lst xs))
    (e : s.heap.get? l = some { cls := .type "list", data := .seq its.toArray n }) (hf : f its.toArray = its'.toArray) (hv : Vals ys its') (hz : ys.length ≤ sizeLine) (ht : 0 < t' := by first | exact Nat.succ_pos _ | exact (Inv.os (by assumption)).2 | assumption | omega) :
    Inv X pins σ (upd H l (.lst ys)) { s with heap := s.heap.update l (Obj.mapSeq f), toks := t' } := by
  have q := PySem.IsL.update e f
  rw [hf] at q
  refine I.write (x := l) (e := l) (by rw [hH]; exact trivial) (.inl rfl) (fun b' u hb hu => (Heap.get?_update_other s.heap (Obj.mapSeq f) (Ne.symm hb)).trans hu) ⟨_, q⟩ ?_
  exact ⟨hz, its', _, hv, q⟩
theorem Inv.MT {its : List Value} {t' : Nat} (I : Inv X pins σ H s) (hv : Vals ys its) (hz : ys.length ≤ sizeLine) (ht : 0 < t' := by first | exact Nat.succ_pos _ | exact (Inv.os (by assumption)).2 | assumption | omega) :
    Inv X pins σ (upd H s.heap.objs.size (.lst ys)) { s with heap := s.heap.push { cls := .type "list", data := .seq its.toArray }, toks := t' } :=
  I.laid (fun _ _ q => Heap.get?_push_of_some _ q) (Nat.le_refl _) ⟨hz, its, 0, hv, Heap.get?_push_size _ rfl⟩
theorem Inv.fresh (I : Inv X pins σ H s) : H s.heap.objs.size = none := I.hok.fresh (Nat.le_refl _)
theorem Inv.HP (I : Inv X pins σ H s) (hH : H l = some (.lst xs)) : xs.length ≤ sizeLine ∧ ∃ (its : List Value) (n : Nat), Vals xs its ∧ xs.length = its.length ∧ s.heap.get? l = some { cls := .type "list", data := .seq its.toArray n } := by
  obtain ⟨z, its, n, r, e⟩ := I.hok l _ hH
  exact ⟨z, its, n, r, r.length, e⟩
theorem zD {n : Nat} (h : n ≤ sizeLine) : Builtin.List.listTooLong n = false := by
  unfold Builtin.List.listTooLong
  exact decide_eq_false (by omega)
end
section
variable {X : Cx}
noncomputable def HQ : V → List V → Hp → VK → Prop := fun x vs H Q => ∃ l xs y, x = .ref l ∧ vs = [y] ∧ H l = some (.lst xs) ∧ xs.length < sizeLine ∧ Q .eY (upd H l (.lst (xs ++ [y])))
theorem wY : Sq X "list.append" HQ := by
  intro pins s σ H x vs v us Q I rx rv h
  obtain ⟨l, xs, y, rfl, rfl, hH, hz, q⟩ := h
  cases rx
  obtain ⟨u, rfl, ru⟩ := rv.one
  obtain ⟨z, its, n, r, hl, e⟩ := I.HP hH
  refine call_meets F.slot_list_append ⟨_, e, rfl⟩ F.entry_list_append (F.args_list_append_2 _ _) (PySem.list_append l its.toArray n u (by rw [List.size_toArray]; omega)) ⟨e, ?_⟩
  refine ⟨.eY, _, I.KW (its' := its ++ [u]) hH e (by simp) (r.append (.cons ru .nil)) ?_, rfl, q⟩
  rw [List.length_append, List.length_singleton]
  omega
noncomputable def P8 : V → List V → Hp → VK → Prop := fun x vs H Q => ∃ l xs y, x = .ref l ∧ vs = [] ∧ H l = some (.lst xs) ∧ xs[xs.length - 1]? = some y ∧ Q y (upd H l (.lst xs.dropLast))
theorem KY : Sq X "list.pop" P8 := by
  intro pins s σ H x vs v us Q I rx rv h
  obtain ⟨l, xs, y, rfl, rfl, hH, hy, q⟩ := h
  cases rx
  have HR := rv.zero
  subst HR
  obtain ⟨z, its, n, r, hl, e⟩ := I.HP hH
  obtain ⟨u, hu, ru⟩ := r.get hy
  have hy' : its.toArray[its.toArray.size - 1]? = some u := by
    show its.toArray[its.length - 1]? = some u
    rw [← Array.getElem?_toList, ← hl]
    exact hu
  refine call_meets F.slot_list_pop ⟨_, e, rfl⟩ F.entry_list_pop (F.args_list_pop_1 _) (MeetsSeq.list_pop_last l its.toArray n u hy' (by rw [List.size_toArray]; omega)) ⟨e, ?_⟩
  refine ⟨y, _, I.KW (its' := its.dropLast) hH e ?_ r.dropLast ?_, ru, q⟩
  · show its.toArray.eraseIdxIfInBounds (its.toArray.size - 1) = its.dropLast.toArray
    rw [List.size_toArray, List.eraseIdxIfInBounds_toArray, Bd]
  · rw [List.length_dropLast]
    omega
noncomputable def P9 : R2 := fun x y H Q => ∃ l k xs, x = .ref l ∧ y = .int k ∧ H l = some (.lst xs) ∧ -(2 ^ 63) ≤ k ∧ k < 2 ^ 63 ∧ xs.length * k.toNat ≤ sizeLine ∧
  ∀ p, H p = none → Q (.ref p) (upd H p (.lst (List.replicate k.toNat xs).flatten))
theorem len_rep {α : Type} (xs : List α) (k : Nat) : (List.replicate k xs).flatten.length = k * xs.length := by
  induction k with
  | zero => simp
  | succ k ih => rw [List.replicate_succ, List.flatten_cons, List.length_append, ih, Nat.succ_mul, Nat.add_comm]
theorem KZ : pF X (binaryOp .Mult) P9 := by
  intro pins s σ H x y v u Q I rx ry h
  obtain ⟨l, k, xs, rfl, rfl, hH, h1, h2, hz, q⟩ := h
  cases rx
  obtain ⟨t, rfl⟩ := ry
  obtain ⟨z, its, n, r, hl, e⟩ := I.HP hH
  have hlen : its.toArray.size * k.toNat ≤ sizeLine := by rw [List.size_toArray, ← hl]; exact hz
  have hcap : ¬ its.toArray.size * k.toNat > (2 ^ 63 - 1) / 8 := by
    have : (sizeLine : Nat) ≤ (2 ^ 63 - 1) / 8 := by decide
    omega
  have hfit : ¬ (!Builtin.List.listFitsIndex k) = true := by
    rw [fitsIndex_both h1 h2]
    exact Bool.false_ne_true
  have EJ : ¬ Builtin.List.listTooLong (its.toArray.size * k.toNat) = true := by
    rw [zD hlen]
    exact Bool.false_ne_true
  have hnew : List.foldl (fun x1 x2 => x1 ++ x2) #[] (List.replicate (if its.toArray.isEmpty = true then 0 else k.toNat) its.toArray) = (List.replicate k.toNat its).flatten.toArray := by
    have f0 : ∀ m : Nat, List.foldl (fun x1 x2 => x1 ++ x2) #[] (List.replicate m its.toArray) = (List.replicate m its).flatten.toArray := fun m => by
      have := foldl_rep its m []
      rw [List.nil_append] at this
      exact this
    rw [f0]
    cases its with
    | nil => simp
    | cons a r' => rw [if_neg (by simp)]
  refine wpAny_binaryOp_repeat_ref (T := "list") (U := "int") (by decide) ⟨_, e, rfl⟩ (fun s' => typeIs_int s' k t) noFill_list_mul F.fills_int_mul F.slot_int_rmul repeat_list F.slot_int_index.lookup
    (call_meets F.slot_int_rmul (typeIs_int s k t) F.entry_int_rmul (F.args_int_rmul_2 _ _) (int___rmul___int_list k t l its.toArray n)
      ⟨e, rfl, ⟨_, e, rfl⟩, call_meets F.slot_list_mul ⟨_, e, rfl⟩ F.entry_list_mul (F.args_list_mul_2 _ _) (AutoListH.list___mul___list_int_3 l its.toArray n k t hfit hcap EJ) ⟨e, ?_⟩⟩)
  rw [hnew]
  exact ⟨.ref _, _, I.MT (t' := s.toks) (r.rep k.toNat) (by rw [len_rep, Nat.mul_comm]; exact hz), rfl, q _ I.fresh⟩
end
section
variable {prog : Program} {w : World} {A : Around} {E : Value → Shared → Prop} {s : Shared}
end
section
variable {X : Cx}
end
end L2
namespace Ss
open PySem PySem.W PySem.Calls PyProof.Rows
theorem tT {P : Params} {h : Heap} : ∀ (ns : List Int) (vs : List Value), WellAll P h vs (ns.map WData.int) → IntsAre vs ns := by
  intro ns
  induction ns with
  | nil =>
    intro vs w
    rw [List.map_nil] at w
    cases w
    exact .nil
  | cons n ns ih =>
    intro vs w
    rw [List.map_cons] at w
    cases w with
    | cons a b =>
      cases a
      exact .cons _ _ (ih _ b)
theorem Ds {l : OpenLaw} {n : Nat} (hn : l.most = some n) {P : Params} {h : Heap} {args : List WData} {vals : List Value}
    (hpre : l.row.toRowW.claim.pre args = true) (hwl : WellAll P h vals args) :
    ∃ a vs ns, vals = [Value.ref a] ∧ args = [WData.list (ns.map WData.int)] ∧ h.get? a = some { cls := .type "list", data := .seq vs.toArray } ∧ IntsAre vs ns ∧ ns.length ≤ n := by
  have hsh : WShape.hasAll [] args [.list .int] = true := (pre_splitW hpre).1
  have hc : l.pre.holds [] { args := args } = true := (pre_splitW hpre).2
  obtain ⟨d, r, rfl, h1, h2⟩ := hasAllW_cons hsh
  obtain rfl := hasAllW_nil h2
  obtain ⟨xs, rfl, h3⟩ := hasW_list h1
  obtain ⟨ns, rfl⟩ := items_int h3
  have hlen : ns.length ≤ n := by
    unfold OpenLaw.pre at hc
    have h4 : (WTm.not (.lt (.lit (.int (n : Int))) (.len (.arg 0)))).holds [] { args := [.list (ns.map .int)] } = true := by
      have h4 := (holds_andW hc).1
      rw [hn] at h4
      exact h4
    have h5 := condW_of h4 (w_not (w_lt w_lit (w_len_list (w_arg rfl))))
    rw [List.length_map] at h5
    refine Nat.le_of_not_lt fun q => ?_
    have q' : (n : Int) < ((ns.length : Nat) : Int) := by omega
    first
      | (rw [decide_eq_true q'] at h5; exact absurd h5 (by decide))
      | (simp at h5; omega)
  cases hwl with
  | cons w1 w2 =>
    cases w2
    cases w1 with
    | list ho hall => exact ⟨_, _, ns, rfl, rfl, ho, tT ns _ hall, hlen⟩
theorem Dt (l : OpenLaw) (args : List WData) : l.row.toRowW.claim.post args (.bool true) args = true :=
  postW_of (r := l.row.toRowW) (X := (true == true))
    (show WShape.has [] (.bool true) .bool = true by first | rfl | decide | simp [WShape.has, WShape.arms, WShape.armsAll])
    (show (WTm.eq .res (.lit (.bool true))).value [] { args := args, res := some (.bool true), after := args } = some (.bool (true == true)) from w_eq_bool (w_res rfl) w_lit) rfl
theorem zE {l : OpenLaw} {n : Nat} {q : Program} {loose : List Str} {XP : (Str → Option Value) → Heap → Prop} {YP : World → Heap → Prop} {d : DefRec}
    (hn : l.most = some n) (hdf : d.params.defaults = [])
    (call : ∀ (w : World) (s₀ s₁ : Shared) (mg mb : Str → Option Value) (fa : Addr) (o : Obj) (pm cd doc : Value) (a : Addr) (vs : List Value) (ns : List Int),
      Ground q loose [] XP w s₀ mg mb s₁.heap → YP w s₁.heap →
      s₁.heap.get? fa = some o → o.data = .func (docDef d.name d.params d.body d.scope pm cd doc) → s₁.heap.CodeRec cd d.name → mg d.name = some (.ref fa) →
      s₁.heap.get? a = some { cls := .type "list", data := .seq vs.toArray } → IntsAre vs ns → ns.length ≤ n → s₁.gens = #[] →
      codeAny (model l.prog w) callerA (.call (.ref fa) ⟨[.ref a], []⟩) (fun r s' => r = .ok (.ret (.bool true)) ∧ OldK s₁.heap s'.heap ∧ s'.os = s₁.os ∧ AllBare s'.gens) s₁) :
    WalkO q loose XP YP l.row.toRowW d [] (fun f vs => PySem.call f vs) := by
  intro w s₀ s₁ mg mb G Y fa o pm cd doc dV kV ho hd hcd hD hmg hg args vals as hpre hlay hrd hwl hlo
  obtain rfl : dV = .none := Dflts.none hD hdf
  obtain rfl : kV = .none := Dflts.noKw hD
  obtain ⟨a, vs, ns, rfl, rfl, hobj, hints, hlen⟩ := Ds hn hpre hwl
  refine enter_call (codeAny_mono (call w s₀ s₁ mg mb fa o pm cd doc a vs ns G Y ho (fd_plain hd) hcd hmg hobj hints hlen hg) fun r s' hq => ?_)
  obtain ⟨rfl, h2, h3, h4⟩ := hq
  exact ⟨.inl ⟨.bool true, .bool true, [], rfl, fun _ => rfl, .bool true, Dt l _, fun _ => ⟨List.Pairwise.nil, fun _ hm => (nomatch hm)⟩⟩, h2, h3, h4⟩
section
variable {prog : Program} {w : World} {A : Around} {E : Value → Shared → Prop} {s : Shared} {K : Frag}
end
end Ss
namespace L2
open PySem PySem.Spec PyProof.Rows
theorem wZ : ∀ {vs : List Value} {ns : List Int}, IntsAre vs ns → Vals (ns.map V.int) vs
  | _, _, .nil => .nil
  | _, _, .cons n t h => .cons ⟨t, rfl⟩ (wZ h)
noncomputable def HS (H : Hp) : Prop := ∀ b, H b = none ∨ ∃ o xs, H b = some (.oS o (.lst xs))
theorem EK {P : Program} {w : World} {K : PySem.W.Frag} {mg mb : Str → Option Value} {CX : vM} {k : Nat} {fa a : Addr} {fd : FuncData} {x : Str} {sp : Sp} {s₁ : Shared} {vs : List Value} {ns : List Int}
    (KX : K.In s₁.heap) (hns : s₁.heap.Ns mainGlobals mg) (hb : s₁.heap.Ns builtinsNs mb) (OZ : ∀ x : Str, x ≠ "__name__" → mb x = bootBuiltins x) (hlim : s₁.heap.NoLimit) (hg : s₁.gens = #[])
    (ha : s₁.heap.get? a = some { cls := .type "list", data := .seq vs.toArray }) (hi : IntsAre vs ns) (hl : ns.length ≤ sizeLine) (hr : fW k callerA)
    (F : ∀ base : Heap, K.In base → base.Ns mainGlobals mg → oV P w K mg base CX k fa fd [x] sp) (hbind : ∀ (s : Shared) (u : Value), BindsTo s fd ⟨[u], []⟩ [(x, u)])
    (Dp : ∀ H : Hp, HS H → pD K H a (ns.map V.int) → sp [.ref a] H (fun v _ => v = .bl true) fun _ _ _ => False)
    (Qa : ∀ H e s', CX [] H s₁ (fun _ _ _ => False) e s' → False) :
    codeAny (model P w) callerA (.call (.ref fa) ⟨[.ref a], []⟩) (fun r s' => r = .ok (.ret (.bool true)) ∧ OldK s₁.heap s'.heap ∧ s'.os = s₁.os ∧ AllBare s'.gens) s₁ := by
  have rv := wZ hi
  have Qc := hi.length
  have core : ∀ H : Hp, HS H → pD K H a (ns.map V.int) → qe P w H s₁.heap → (∀ b, H b ≠ none → b = a) → (H a ≠ none → K.lookup a = none) →
      codeAny (model P w) callerA (.call (.ref fa) ⟨[.ref a], []⟩) (fun r s' => r = .ok (.ret (.bool true)) ∧ OldK s₁.heap s'.heap ∧ s'.os = s₁.os ∧ AllBare s'.gens) s₁ := by
    intro H hO hS hok hA hK
    have ir : ∀ {b : Addr} {o : Obj}, s₁.heap.get? b = some o → H b = none → (xT s₁.heap H).get? b = some o := fun e n => Eu e n
    have MK : ∀ {b : Addr} {o : Obj} {es : Array DictEntry} {ep : Nat}, s₁.heap.get? b = some o → o.data = .dict es ep → H b = none := fun {b o es ep} e d => by
      cases q : H b with
      | none => rfl
      | some u =>
        have e' : b = a := hA b (by rw [q]; simp)
        subst e'
        rw [ha] at e; cases e
        have d' : Data.seq vs.toArray _ = Data.dict es ep := d
        cases d'
    have O0 : ∀ {b : Addr} {m : Str → Option Value}, s₁.heap.Ns b m → (xT s₁.heap H).Ns b m := fun {b m} ⟨o, es, ep, e, d, r⟩ => ⟨o, es, ep, ir e (MK e d), d, r⟩
    have Su : K.In (xT s₁.heap H) := fun b o e => ir (KX b o e) (by
      cases q : H b with
      | none => rfl
      | some u =>
        have e' : b = a := hA b (by rw [q]; simp)
        subst e'
        rw [hK (by rw [q]; simp)] at e; cases e)
    have hM : Mod K mg (xT s₁.heap H) := ⟨Su, O0 hns, ⟨mb, O0 hb, OZ⟩, let ⟨mc, h1, h2⟩ := hlim; ⟨mc, O0 h1, h2⟩⟩
    have e0 : uy P w K mg (xT s₁.heap H) callerA [] s₁ H := ⟨rfl, hM, fun b o e => Hs e, Nat.le_of_eq (Dg _ _), trivial, fun b hb => absurd (show b ∈ ([] : List Addr) from hb) (by simp), hok, .of_eq hg⟩
    refine codeAny_mono ((F _ Su (O0 hns)).run callerA [] s₁ H ⟨[.ref a], []⟩ [.ref a] [.ref a] _ _ hr e0 (hbind s₁ (.ref a)) (.cons rfl .nil) (Dp H hO hS)) fun r s' h => ?_
    cases r with
    | error e => exact (Qa H e s' h).elim
    | ok fl =>
      cases fl with
      | next => exact False.elim h
      | brk => exact False.elim h
      | cont => exact False.elim h
      | ret u =>
        obtain ⟨v, H', os, bare, un, Qd, r', q⟩ := h
        have q' : v = .bl true := q
        subst q'
        obtain rfl : u = Value.bool true := r'
        refine ⟨rfl, OldK.of_keep fun b o e => ?_, os.1, bare⟩
        cases q : H b with
        | none => exact un.keep b o e q (by intro z; exact absurd (show b ∈ ([] : List Addr) from z) (by simp)) (by simp)
        | some u =>
          rcases hO b with z | ⟨ob, xs, z⟩
          · rw [q] at z; cases z
          · have z2 := un.oG b ob _ z
            obtain ⟨e1, _⟩ := hok b _ z
            obtain ⟨e2, _⟩ := Qd b _ z2
            rw [e] at e1; cases e1
            exact e2
  cases hk : K.lookup a with
  | some o =>
    have e := KX a o hk
    rw [ha] at e
    cases e
    refine core (fun _ => none) (fun _ => .inl rfl) (.inr ⟨_, vs.toArray, _, hk, rfl, rfl, rfl, by rw [List.size_toArray, Qc]; exact hl, by simpa using rv⟩) (fun b u z => by have z' : (none : Option HO) = some u := z; cases z') (fun b z => absurd rfl z) fun z => absurd rfl z
  | none =>
    refine core (fun b => if b = a then some (.oS { cls := .type "list", data := .seq vs.toArray } (.lst (ns.map V.int))) else none) (fun b => ?_) (.inl (.inr ⟨{ cls := .type "list", data := .seq vs.toArray }, if_pos rfl⟩)) (fun b u z => ?_) (fun b z => ?_) fun _ => hk
    · by_cases hb : b = a
      · exact .inr ⟨_, _, if_pos hb⟩
      · exact .inl (if_neg hb)
    · by_cases hb : b = a
      · have z' := (if_pos hb).symm.trans z
        cases z'
        subst hb
        exact ⟨ha, by rw [List.length_map]; exact hl, vs, _, rv, ha⟩
      · have z' := (if_neg hb).symm.trans z
        cases z'
    · by_cases hb : b = a
      · exact hb
      · exact absurd (if_neg hb) z
end L2
namespace L2
open PySem PySem.Spec PyProof.Rows
noncomputable abbrev KOf {K : PySem.W.Frag} {h : Heap} (_ : K.In h) : PySem.W.Frag := K
theorem HU {l : PySem.W.OpenLaw} {n k : Nat} {q : Program} {loose : List Str} {XP : (Str → Option Value) → Heap → Prop} {YP : World → Heap → Prop} {d : DefRec} {K : Params → PySem.W.Frag} {CX : World → vM} {sp : World → Sp} {x : Str}
    (hn : l.most = some n) (hn2 : n ≤ sizeLine) (hdf : d.params.defaults = []) (hr : fW k callerA)
    (hY : ∀ (w : World) (h : Heap), YP w h → (K w.params).In h)
    (F : ∀ (w : World) (mg : Str → Option Value) (fa : Addr) (h : Heap), (K w.params).In h → h.Ns mainGlobals mg → mg d.name = some (.ref fa) →
      ∃ fd : FuncData, (∀ (s : Shared) (u : Value), BindsTo s fd ⟨[u], []⟩ [(x, u)]) ∧
        ∀ base : Heap, (K w.params).In base → base.Ns mainGlobals mg → oV l.prog w (K w.params) mg base (CX w) k fa fd [x] (sp w))
    (Dp : ∀ (w : World) (H : Hp) (a : Addr) (ns : List Int), ns.length ≤ n → HS H → pD (K w.params) H a (ns.map V.int) → sp w [.ref a] H (fun v _ => v = .bl true) fun _ _ _ => False)
    (Qa : ∀ (w : World) (H : Hp) (s : Shared) (e : Value) (s' : Shared), CX w [] H s (fun _ _ _ => False) e s' → False) :
    PySem.W.WalkO q loose XP YP l.row.toRowW d [] (fun f vs => PySem.call f vs) := by
  refine Ss.zE hn hdf fun w s₀ s₁ mg mb fa o pm cd doc a vs ns G Y ho hd hcd hmg hobj hints hlen hg => ?_
  have KX := hY w _ Y
  obtain ⟨fd, hb, hF⟩ := F w mg fa _ KX G.T.g hmg
  exact EK KX G.T.g G.T.b G.T.builtins G.T.nolimit hg hobj hints (Nat.le_trans hlen hn2) hr hF hb (fun H hO hS => Dp w H a ns hlen hO hS) fun H e s' => Qa w H s₁ e s'
end L2
namespace L2
open PySem PySem.Spec PyProof.Rows
noncomputable def aA (s : Stmt) : Arguments := match s with
  | .FunctionDef _ a _ _ _ _ _ _ _ _ => a
  | _ => { posonlyargs := [], args := [], vararg := none, kwonlyargs := [], kw_defaults := [], kwarg := none, defaults := [] }
noncomputable def ay (s : Stmt) : List Stmt := match s with
  | .FunctionDef _ _ b _ _ _ _ _ _ _ => b
  | _ => []
noncomputable def aa (s : Stmt) : Scope := match s with
  | .FunctionDef _ _ _ _ _ _ sc _ _ _ => sc
  | _ => { kind := .function, names := [], isGenerator := false, isCoroutine := false }
structure sQ (K : PySem.W.Frag) (x qual : Str) (st : Stmt) (f : Addr) (fd : FuncData) : Prop where
  ex : ∃ (oc : Value) (od : Option Addr) (kV doc pm : Value) (an : Option Addr) (cdv ct : Value) (osl : Array (Option Value)),
    fd = PySem.W.fnOf x qual (aA st) (ay st) (aa st) .none kV doc pm an cdv ct ∧ K.lookup f = some ⟨oc, od, .func fd, osl⟩ ∧ PySem.W.codeIn K cdv qual = true
  kp : PySem.W.keepIn K (.ref f) = true
section
variable {P : Program} {w : World} {K : PySem.W.Frag} {mg : Str → Option Value} {base : Heap}
theorem sQ.binds {x qual : Str} {st : Stmt} {f : Addr} {fd : FuncData} {ps : List Str} (F : sQ K x qual st f fd)
    (h : ∀ (kV doc pm : Value) (an : Option Addr) (cdv ct : Value) (us : List Value), us.length = ps.length → bindArgs (PySem.W.fnOf x qual (aA st) (ay st) (aa st) .none kV doc pm an cdv ct) ⟨us, []⟩ = pure (ps.zip us)) : Binds K fd ps [] := by
  obtain ⟨oc, od, kV, doc, pm, an, cdv, ct, osl, rfl, lk, hcd⟩ := F.ex
  exact .all (h kV doc pm an cdv ct)
theorem dQ {x qual : Str} {st : Stmt} {f : Addr} {oc : Value} {od an : Option Addr} {osl : Array (Option Value)} {kV doc pm cdv ct : Value} (l : K.lookup f = some ⟨oc, od, .func (PySem.W.fnOf x qual (aA st) (ay st) (aa st) .none kV doc pm an cdv ct), osl⟩)
    (c : PySem.W.codeIn K cdv qual = true) (k : PySem.W.keepIn K (.ref f) = true) : sQ K x qual st f (PySem.W.fnOf x qual (aA st) (ay st) (aa st) .none kV doc pm an cdv ct) := ⟨⟨oc, od, kV, doc, pm, an, cdv, ct, osl, rfl, l, c⟩, k⟩
end
section
variable {X : Cx}
end
noncomputable def MU (H H' : Hp) : Prop := ∀ b o, H b = some o → H' b = some o
theorem MU.free {H H' : Hp} (e : MU H H') {l : Addr} (h : H' l = Option.none) : H l = Option.none := by
  cases q : H l with
  | none => rfl
  | some o =>
    rw [e l o q] at h
    cases h
end L2
end
section
set_option Elab.async false
set_option linter.all false
set_option maxRecDepth 100000
namespace L2
open PySem PySem.Spec PyProof.Rows
section
variable {κ : Type} [DecidableEq κ]
noncomputable def HV (kvs : List (κ × V)) (k : κ) : Option V := (kvs.find? fun kv => decide (kv.1 = k)).map (·.2)
noncomputable def putK (kvs : List (κ × V)) (k : κ) (v : V) : List (κ × V) :=
  if (kvs.any fun kv => decide (kv.1 = k)) = true then kvs.map (fun kv => if kv.1 = k then (kv.1, v) else kv) else kvs ++ [(k, v)]
theorem Hr.getD {o : Option V} {u : Option Value} {d : V} {d' : Value} (r : Hr o u) (rd : RelV d d') : RelV (o.getD d) (u.getD d') := by
  cases o with
  | none => cases u with
    | none => exact rd
    | some _ => exact (show False from r).elim
  | some _ => cases u with
    | none => exact (show False from r).elim
    | some _ => exact r
end
noncomputable abbrev KT (H : Hp) : List (List Key × V) → List (List Key × Addr × Value) → Prop := Paired fun p q => p.1 = q.1 ∧ H q.2.1 = some (.tup (p.1.map kV)) ∧ RelV p.2 q.2.2
theorem KT.keeps {H H' : Hp} {kvs : List (List Key × V)} {xs : List (List Key × Addr × Value)} (r : KT H kvs xs) (ht : ∀ b ys, H b = some (.tup ys) → H' b = some (.tup ys)) : KT H' kvs xs :=
  Paired.J0 r fun _ _ z => ⟨z.1, ht _ _ z.2.1, z.2.2⟩
section
variable {P : Program} {w : World} {H : Hp} {h : Heap} {a : Addr}
end
noncomputable def HW (H : Hp) (a : Addr) (y : V) (r : Option V) : Prop :=
  (∃ kvs k, Rd H a (.dK kvs) ∧ y = kV k ∧ r = HV kvs k) ∨ ∃ kvs k b, Rd H a (.dT kvs) ∧ y = .ref b ∧ H b = some (.tup (k.map kV)) ∧ r = HV kvs k
noncomputable def HX (H : Hp) (a : Addr) (y v : V) (H' : Hp) : Prop :=
  (∃ kvs k, H a = some (.dK kvs) ∧ y = kV k ∧ kvs.length < sizeLine ∧ H' = upd H a (.dK (putK kvs k v))) ∨
  ∃ kvs k b, H a = some (.dT kvs) ∧ y = .ref b ∧ H b = some (.tup (k.map kV)) ∧ kvs.length < sizeLine ∧ H' = upd H a (.dT (putK kvs k v))
theorem HW.k {H : Hp} {a : Addr} {kvs : List (Key × V)} {k : Key} (e : H a = some (.dK kvs)) : HW H a (kV k) (HV kvs k) := .inl ⟨kvs, k, .inl e, rfl, rfl⟩
theorem HW.t {H : Hp} {a b : Addr} {kvs : List (List Key × V)} {k : List Key} (e : H a = some (.dT kvs)) (eb : H b = some (.tup (k.map kV))) : HW H a (.ref b) (HV kvs k) := .inr ⟨kvs, k, b, .inl e, rfl, eb, rfl⟩
theorem HX.k {H : Hp} {a : Addr} {kvs : List (Key × V)} {k : Key} {v : V} (e : H a = some (.dK kvs)) (hl : kvs.length < sizeLine) : HX H a (kV k) v (upd H a (.dK (putK kvs k v))) := .inl ⟨kvs, k, e, rfl, hl, rfl⟩
theorem HX.t {H : Hp} {a b : Addr} {kvs : List (List Key × V)} {k : List Key} {v : V} (e : H a = some (.dT kvs)) (eb : H b = some (.tup (k.map kV))) (hl : kvs.length < sizeLine) :
    HX H a (.ref b) v (upd H a (.dT (putK kvs k v))) := .inr ⟨kvs, k, b, e, rfl, eb, hl, rfl⟩
section
variable {X : Cx} {pins : List (Addr × Obj)} {σ : St} {H : Hp} {s : Shared} {a : Addr} {y v : V} {u r : Value} {o : Option V} {A : Around} {E : Value → Shared → Prop}
end
section
variable {X : Cx} {pins : List (Addr × Obj)} {σ : St} {H : Hp} {s : Shared} {a : Addr} {kvs : List (Key × V)} {k : Key} {u : Value} {A : Around} {E : Value → Shared → Prop}
end
section
variable {X : Cx} {o i e value : Expr} {pos pos' tpos : Pos} {td ty tv : TE}
end
section
variable {X : Cx} {pos : Pos}
end
structure M1 (X : Cx) (o : Expr) (m : Str) (apos : Pos) (e : Expr) (cpos : Pos) : Prop where
  base : attributeBase o m X.env (eval o X.env) = eval o X.env
  few : ((backTo cpos (starEach [e] X.env)).all (fun x => !x.1) && (backToKw cpos (keywordEach [] X.env)).all (fun x => x.1.isSome)
    && decide (([e] : List Expr).length + ([] : List Keyword).length + (if ([] : List Keyword).isEmpty then 0 else 1) < 30)) = true
  line : (apos.endLine == cpos.line) = true
  trees : backTo cpos (starEach [e] X.env) = [(false, eval e X.env)]
structure M2 (X : Cx) (o : Expr) (m : Str) (apos : Pos) (e f : Expr) (cpos : Pos) : Prop where
  base : attributeBase o m X.env (eval o X.env) = eval o X.env
  few : ((backTo cpos (starEach [e, f] X.env)).all (fun x => !x.1) && (backToKw cpos (keywordEach [] X.env)).all (fun x => x.1.isSome)
    && decide (([e, f] : List Expr).length + ([] : List Keyword).length + (if ([] : List Keyword).isEmpty then 0 else 1) < 30)) = true
  line : (apos.endLine == cpos.line) = true
  trees : backTo cpos (starEach [e, f] X.env) = [(false, eval e X.env), (false, eval f X.env)]
section
variable {X : Cx} {pins : List (Addr × Obj)} {σ : St} {H : Hp} {s : Shared} {a : Addr} {y d : V} {u r : Value} {o : Option V} {A : Around} {E : Value → Shared → Prop}
end
section
variable {X : Cx} {o e f : Expr} {apos cpos : Pos} {td ty tx : TE}
end
section
variable {X : Cx} {pins : List (Addr × Obj)} {σ : St} {H : Hp} {s : Shared} {a : Addr} {kvs : List (Key × V)} {A : Around} {E : Value → Shared → Prop}
end
section
variable {X : Cx} {pins : List (Addr × Obj)} {σ : St} {H : Hp} {s : Shared} {a : Addr} {y : V} {u : Value} {A : Around} {E : Value → Shared → Prop}
end
end L2
end
section
set_option Elab.async false
set_option linter.all false
set_option maxRecDepth 100000
namespace L3
open PySem PySem.Spec L2
inductive D where
 | eY | bl (b : Bool) | int (i : Int) | str (x : Str) | tup (xs : List D) | con (xs : List D) | obj (n : Nat) | fn (x : Str) | w6 (cls : Str) (args : List D)
inductive DO where
 | lst (xs : List D)
 | dead
 | dct (kvs : List (Key × D))
noncomputable abbrev DH := List DO
noncomputable abbrev DS := List (Option D)
inductive XD where
 | mk (cls : Str) (args : List D)
inductive Out (α : Type) where
 | stuck
 | ok (a : α) (G : DH)
 | dF (c : XD) (G : DH)
noncomputable abbrev M (α : Type) := DH → Out α
noncomputable def M.bind {α β : Type} (m : M α) (k : α → M β) : M β := fun G => match m G with
 | .stuck => .stuck
 | .ok a G' => k a G'
 | .dF c G' => .dF c G'
noncomputable def M.ret {α : Type} (a : α) : M α := fun G => .ok a G
noncomputable def M.stop {α : Type} : M α := fun _ => .stuck
noncomputable def K0 (K : PySem.W.Frag) (H : Hp) (a : Addr) (xs : List V) : Prop :=
 (∃ o, H a = some (.oS o (.lst xs))) ∨
  ∃ (o : Obj) (its : Array Value) (n : Nat), K.lookup a = some o ∧ o.cls = .type "list" ∧ o.dict = none ∧ o.data = .seq its n ∧ its.size ≤ sizeLine ∧ Vals xs its.toList
theorem K0.seq {K : PySem.W.Frag} {H : Hp} {a : Addr} {xs : List V} (h : K0 K H a xs) : pD K H a xs := by
 rcases h with ⟨o, h⟩ | h
 ·exact .inl (.inr ⟨o, h⟩)
 ·exact .inr h
noncomputable def MV (a : Addr) (cv : Value) : Heap → Prop := fun h => ∃ o, h.get? a = some o ∧ o.cls = cv
mutual
noncomputable def Rep (K : PySem.W.Frag) (mg : Str → Option Value) (ρ : List Addr) (H : Hp) : D → V → Prop
 | .eY, v => v = .eY
 | .bl b, v => v = .bl b
 | .int i, v => v = .int i
 | .str x, v => v = .str x
 | .tup ds, v => ∃ a xs, v = .ref a ∧ rS K H a xs ∧ au K mg ρ H ds xs
 | .con ds, v => ∃ a xs, v = .ref a ∧ K0 K H a xs ∧ au K mg ρ H ds xs
 | .obj n, v => ∃ a, v = .ref a ∧ ρ[n]? = some a
 | .fn x, v => ∃ a, v = .ref a ∧ mg x = some (.ref a)
 | .w6 c _, v => ∃ a cv, v = .ref a ∧ mg c = some cv ∧ H a = some (.ext (MV a cv))
noncomputable def au (K : PySem.W.Frag) (mg : Str → Option Value) (ρ : List Addr) (H : Hp) : List D → List V → Prop
 | [], vs => vs = []
 | d :: ds, vs => ∃ v r, vs = v :: r ∧ Rep K mg ρ H d v ∧ au K mg ρ H ds r
end
structure eZ (K : PySem.W.Frag) (H H' : Hp) (ρ ρ' : List Addr) : Prop where
 tup : ∀ a xs, rS K H a xs → rS K H' a xs
 con : ∀ a xs, K0 K H a xs → K0 K H' a xs
 pre : ∃ r, ρ' = ρ ++ r
 ext : ∀ a φ, H a = some (.ext φ) → H' a = some (.ext φ)
section
variable {K : PySem.W.Frag} {mg : Str → Option Value} {H H' H1 H2 : Hp} {ρ ρ' ρ1 ρ2 : List Addr}
theorem eZ.refl : eZ K H H ρ ρ := ⟨fun _ _ h => h, fun _ _ h => h, ⟨[], by simp⟩, fun _ _ h => h⟩
theorem eZ.trans (a : eZ K H H1 ρ ρ1) (b : eZ K H1 H2 ρ1 ρ2) : eZ K H H2 ρ ρ2 := by
 obtain ⟨r1, e1⟩ := a.pre
 obtain ⟨r2, e2⟩ := b.pre
 exact ⟨fun x xs h => b.tup x xs (a.tup x xs h), fun x xs h => b.con x xs (a.con x xs h), ⟨r1 ++ r2, by rw [e2, e1, List.append_assoc]⟩, fun x φ h => b.ext x φ (a.ext x φ h)⟩
theorem eZ.get (f : eZ K H H' ρ ρ') {n : Nat} {a : Addr} (h : ρ[n]? = some a) : ρ'[n]? = some a := by
 obtain ⟨r, e⟩ := f.pre
 rw [e, List.getElem?_append_left (List.getElem?_eq_some_iff.mp h).1]; exact h
mutual
theorem Rep.mono (f : eZ K H H' ρ ρ') : ∀ (d : D) (v : V), Rep K mg ρ H d v → Rep K mg ρ' H' d v
 | .eY, v, h => by unfold Rep at h ⊢; exact h
 | .bl b, v, h => by unfold Rep at h ⊢; exact h
 | .int i, v, h => by unfold Rep at h ⊢; exact h
 | .str x, v, h => by unfold Rep at h ⊢; exact h
 | .tup ds, v, h => by
  unfold Rep at h ⊢
  obtain ⟨a, xs, e, s, r⟩ := h
  exact ⟨a, xs, e, f.tup _ _ s, au.mono f ds xs r⟩
 | .con ds, v, h => by
  unfold Rep at h ⊢
  obtain ⟨a, xs, e, s, r⟩ := h
  exact ⟨a, xs, e, f.con _ _ s, au.mono f ds xs r⟩
 | .obj n, v, h => by
  unfold Rep at h ⊢
  obtain ⟨a, e, r⟩ := h
  exact ⟨a, e, f.get r⟩
 | .fn x, v, h => by unfold Rep at h ⊢; exact h
 | .w6 c as, v, h => by
  unfold Rep at h ⊢
  obtain ⟨a, cv, e, m, r⟩ := h
  exact ⟨a, cv, e, m, f.ext _ _ r⟩
theorem au.mono (f : eZ K H H' ρ ρ') : ∀ (ds : List D) (vs : List V), au K mg ρ H ds vs → au K mg ρ' H' ds vs
 | [], vs, h => by unfold au at h ⊢; exact h
 | d :: ds, vs, h => by
  unfold au at h ⊢
  obtain ⟨v, r, e, h1, h2⟩ := h
  exact ⟨v, r, e, Rep.mono f d v h1, au.mono f ds r h2⟩
end
theorem au.length : ∀ {ds : List D} {vs : List V}, au K mg ρ H ds vs → ds.length = vs.length
 | [], vs, h => by unfold au at h; subst h; rfl
 | d :: ds, vs, h => by
  unfold au at h
  obtain ⟨v, r, rfl, _, h2⟩ := h
  simp [au.length h2]
theorem au.nil : au K mg ρ H [] [] := by unfold au; rfl
theorem au.cons {d : D} {v : V} {ds : List D} {vs : List V} (h : Rep K mg ρ H d v) (t : au K mg ρ H ds vs) : au K mg ρ H (d :: ds) (v :: vs) := by
 unfold au; exact ⟨v, vs, rfl, h, t⟩
theorem au.get : ∀ {ds : List D} {vs : List V} {i : Nat} {d : D}, au K mg ρ H ds vs → ds[i]? = some d → ∃ v, vs[i]? = some v ∧ Rep K mg ρ H d v
 | [], vs, i, d, h, e => by simp at e
 | x :: ds, vs, 0, d, h, e => by
  unfold au at h
  obtain ⟨v, r, rfl, h1, _⟩ := h
  simp at e; subst e
  exact ⟨v, rfl, h1⟩
 | x :: ds, vs, i + 1, d, h, e => by
  unfold au at h
  obtain ⟨v, r, rfl, _, h2⟩ := h
  obtain ⟨u, e1, e2⟩ := au.get (i := i) (d := d) h2 (by simpa using e)
  exact ⟨u, by simpa using e1, e2⟩
theorem au.append : ∀ {ds es : List D} {vs us : List V}, au K mg ρ H ds vs → au K mg ρ H es us → au K mg ρ H (ds ++ es) (vs ++ us)
 | [], es, vs, us, h, h' => by unfold au at h; subst h; exact h'
 | d :: ds, es, vs, us, h, h' => by
  unfold au at h
  obtain ⟨v, r, rfl, h1, h2⟩ := h
  exact .cons h1 (au.append h2 h')
theorem au.take : ∀ (n : Nat) {ds : List D} {vs : List V}, au K mg ρ H ds vs → au K mg ρ H (ds.take n) (vs.take n)
 | 0, _, _, _ => by simpa using au.nil
 | n + 1, [], vs, h => by unfold au at h; subst h; simpa using au.nil
 | n + 1, d :: ds, vs, h => by
  unfold au at h
  obtain ⟨v, r, rfl, h1, h2⟩ := h
  exact .cons h1 (au.take n h2)
theorem au.drop : ∀ (n : Nat) {ds : List D} {vs : List V}, au K mg ρ H ds vs → au K mg ρ H (ds.drop n) (vs.drop n)
 | 0, _, _, h => by simpa using h
 | n + 1, [], vs, h => by unfold au at h; subst h; simpa using au.nil
 | n + 1, d :: ds, vs, h => by
  unfold au at h
  obtain ⟨v, r, rfl, h1, h2⟩ := h
  simpa using au.drop n h2
theorem au.set {x : D} {y : V} (hx : Rep K mg ρ H x y) : ∀ (n : Nat) {ds : List D} {vs : List V}, au K mg ρ H ds vs → au K mg ρ H (ds.set n x) (vs.set n y)
 | _, [], vs, h => by unfold au at h; subst h; simpa using au.nil
 | 0, d :: ds, vs, h => by
  unfold au at h
  obtain ⟨v, r, rfl, h1, h2⟩ := h
  exact .cons hx h2
 | n + 1, d :: ds, vs, h => by
  unfold au at h
  obtain ⟨v, r, rfl, h1, h2⟩ := h
  exact .cons h1 (au.set hx n h2)
theorem au.ints : ∀ (ns : List Int), au K mg ρ H (ns.map D.int) (ns.map V.int)
 | [] => .nil
 | n :: ns => .cons (by unfold Rep; rfl) (au.ints ns)
end
noncomputable def HY (K : PySem.W.Frag) (mg : Str → Option Value) (ρ : List Addr) (H : Hp) (a : Addr) : DO → Prop
 | .lst ds => ∃ xs, H a = some (.lst xs) ∧ au K mg ρ H ds xs
 | .dead => ∃ o, H a = some o
 | .dct kvs => ∃ xs, H a = some (.dK ((kvs.map (·.1)).zip xs)) ∧ au K mg ρ H (kvs.map (·.2)) xs
structure kg (K : PySem.W.Frag) (mg : Str → Option Value) (H : Hp) (ρ : List Addr) (G : DH) : Prop where
 hl : ρ.length = G.length
 nd : ρ.Nodup
 ob : ∀ (n : Nat) (o : DO), G[n]? = some o → ∃ a, ρ[n]? = some a ∧ HY K mg ρ H a o
noncomputable def vO (K : PySem.W.Frag) (mg : Str → Option Value) (H : Hp) (ρ : List Addr) (σ : St) (τ : DS) : Prop :=
 σ.length = τ.length ∧ ∀ (i : Nat) (d : D), τ[i]? = some (some d) → ∃ v, σ[i]? = some (some v) ∧ Rep K mg ρ H d v
structure Ab (K : PySem.W.Frag) (mg : Str → Option Value) (σ : St) (H : Hp) (τ : DS) (ρ : List Addr) (G : DH) : Prop where
 st : vO K mg H ρ σ τ
 hp : kg K mg H ρ G
section
variable {K : PySem.W.Frag} {mg : Str → Option Value} {H H' H1 H2 : Hp} {ρ ρ' ρ1 ρ2 : List Addr} {G G' : DH} {σ : L2.St} {τ : DS}
theorem vO.mono (f : eZ K H H' ρ ρ') (h : vO K mg H ρ σ τ) : vO K mg H' ρ' σ τ := ⟨h.1, fun i d e => by
 obtain ⟨v, e1, r⟩ := h.2 i d e
 exact ⟨v, e1, r.mono f⟩⟩
theorem vO.set {i : Nat} {d : D} {v : V} (h : vO K mg H ρ σ τ) (r : Rep K mg ρ H d v) : vO K mg H ρ (σ.set i (some v)) (τ.set i (some d)) := by
 refine ⟨by simp [h.1], fun j e he => ?_⟩
 by_cases hj : i = j
 ·subst hj
  rw [List.getElem?_set] at he
  by_cases hi : i < τ.length
  ·rw [if_pos rfl, if_pos hi] at he
   cases he
   exact ⟨v, by rw [List.getElem?_set, if_pos rfl, if_pos (by rw [h.1]; exact hi)], r⟩
  ·rw [if_pos rfl, if_neg hi] at he
   cases he
 ·rw [List.getElem?_set_ne hj] at he
  obtain ⟨u, e1, r1⟩ := h.2 j e he
  exact ⟨u, by rw [List.getElem?_set_ne hj]; exact e1, r1⟩
theorem Ab.fut (ab : Ab K mg σ H τ ρ G) (f : eZ K H H' ρ ρ') (hp : kg K mg H' ρ' G') : Ab K mg σ H' τ ρ' G' := ⟨ab.st.mono f, hp⟩
theorem kg.lst {n : Nat} {ds : List D} (h : kg K mg H ρ G) (e : G[n]? = some (.lst ds)) : ∃ a xs, ρ[n]? = some a ∧ H a = some (.lst xs) ∧ au K mg ρ H ds xs := by
 obtain ⟨a, e1, xs, e2, r⟩ := h.ob n _ e
 exact ⟨a, xs, e1, e2, r⟩
theorem kg.there {n : Nat} {a : Addr} (h : kg K mg H ρ G) (e : ρ[n]? = some a) : ∃ o, H a = some o := by
 have hn : n < G.length := by rw [← h.hl]; exact (List.getElem?_eq_some_iff.mp e).1
 obtain ⟨a', e1, r⟩ := h.ob n G[n] (List.getElem?_eq_getElem hn)
 rw [e] at e1; cases e1
 cases hg : G[n] with
 | lst xs => rw [hg] at r; obtain ⟨ys, e2, _⟩ := r; exact ⟨_, e2⟩
 | dead => rw [hg] at r; exact r
 | dct kv => rw [hg] at r; obtain ⟨ys, e2, _⟩ := r; exact ⟨_, e2⟩
theorem kg.not_mem {p : Addr} (h : kg K mg H ρ G) (hp : H p = none) : p ∉ ρ := fun hm => by
 obtain ⟨n, hn, e⟩ := List.getElem_of_mem hm
 obtain ⟨o, q⟩ := h.there (n := n) (a := p) (by rw [List.getElem?_eq_getElem hn, e])
 rw [hp] at q; cases q
theorem HY.mono {a : Addr} {o : DO} (f : eZ K H H' ρ ρ') (he : ∀ u, H a = some u → H' a = some u) (h : HY K mg ρ H a o) : HY K mg ρ' H' a o := by
 cases o with
 | lst ds =>
  obtain ⟨xs, e, r⟩ := h
  exact ⟨xs, he _ e, r.mono f⟩
 | dead =>
  obtain ⟨o, e⟩ := h
  exact ⟨o, he _ e⟩
 | dct kv =>
  obtain ⟨xs, e, r⟩ := h
  exact ⟨xs, he _ e, r.mono f⟩
theorem n5 {p : Addr} {o : HO} (hp : H p = none) (ρ : List Addr) : eZ K H (upd H p o) ρ ρ := by
 refine ⟨fun a xs h => ?_, fun a xs h => ?_, ⟨[], by simp⟩, fun a φ h => by rw [aZ (cV h hp)]; exact h⟩
 ·rcases h with (h | ⟨q, h⟩) | h
  ·exact .inl (.inl (by rw [aZ (cV h hp)]; exact h))
  ·exact .inl (.inr ⟨q, by rw [aZ (cV h hp)]; exact h⟩)
  ·exact .inr h
 ·rcases h with ⟨q, h⟩ | h
  ·exact .inl ⟨q, by rw [aZ (cV h hp)]; exact h⟩
  ·exact .inr h
theorem uc {p : Addr} {xs ys : List V} (hp : H p = some (.lst xs)) (ρ : List Addr) : eZ K H (upd H p (.lst ys)) ρ ρ := by
 refine ⟨fun a zs h => ?_, fun a zs h => ?_, ⟨[], by simp⟩, fun a φ h => by rw [aZ (kK h hp (by intro z; cases z))]; exact h⟩
 ·rcases h with (h | ⟨q, h⟩) | h
  ·exact .inl (.inl (by rw [aZ (kK h hp (by intro z; cases z))]; exact h))
  ·exact .inl (.inr ⟨q, by rw [aZ (kK h hp (by intro z; cases z))]; exact h⟩)
  ·exact .inr h
 ·rcases h with ⟨q, h⟩ | h
  ·exact .inl ⟨q, by rw [aZ (kK h hp (by intro z; cases z))]; exact h⟩
  ·exact .inr h
theorem kg.new {p : Addr} {o : HO} (h : kg K mg H ρ G) (hp : H p = none) : kg K mg (upd H p o) ρ G :=
 ⟨h.hl, h.nd, fun n ob e => by
  obtain ⟨a, e1, r⟩ := h.ob n ob e
  exact ⟨a, e1, r.mono (n5 hp ρ) fun u q => by rw [aZ (cV q hp)]; exact q⟩⟩
theorem cz {α : Type} (l : List α) (a : α) : (l ++ [a])[l.length]? = some a := by simp
theorem qu (ρ : List Addr) (p : Addr) : eZ K H H ρ (ρ ++ [p]) := ⟨fun _ _ h => h, fun _ _ h => h, ⟨[p], rfl⟩, fun _ _ h => h⟩
theorem kg.more {p : Addr} {ds : List D} {xs : List V} (h : kg K mg H ρ G) (hp : H p = none) (r : au K mg ρ H ds xs) : kg K mg (upd H p (.lst xs)) (ρ ++ [p]) (G ++ [.lst ds]) := by
 have f : eZ K H (upd H p (.lst xs)) ρ (ρ ++ [p]) := (n5 hp ρ).trans (qu ρ p)
 refine ⟨by simp [h.hl], ?_, fun n ob e => ?_⟩
 ·rw [List.nodup_append]
  refine ⟨h.nd, by simp, fun a ha b hb => ?_⟩
  have e : b = p := by simpa using hb
  subst e
  rintro rfl
  exact h.not_mem hp ha
 ·by_cases hn : n < G.length
  ·rw [List.getElem?_append_left hn] at e
   obtain ⟨a, e1, r'⟩ := h.ob n ob e
   exact ⟨a, f.get e1, r'.mono f fun u q => by rw [aZ (cV q hp)]; exact q⟩
  ·have hl : n < (G ++ [DO.lst ds]).length := (List.getElem?_eq_some_iff.mp e).1
   have hn' : n = G.length := by simp at hl; omega
   subst hn'
   rw [cz] at e
   cases e
   refine ⟨p, by rw [← h.hl, cz], xs, fU, r.mono f⟩
theorem kg.put {n : Nat} {a : Addr} {ds es : List D} {xs ys : List V} (h : kg K mg H ρ G) (hn : ρ[n]? = some a) (ha : H a = some (.lst xs)) (r : au K mg ρ H es ys) : kg K mg (upd H a (.lst ys)) ρ (G.set n (.lst es)) := by
 have f : eZ K H (upd H a (.lst ys)) ρ ρ := uc ha ρ
 refine ⟨by simp [h.hl], h.nd, fun m ob e => ?_⟩
 by_cases hm : n = m
 ·subst hm
  rw [List.getElem?_set, if_pos rfl] at e
  split at e
  ·cases e
   exact ⟨a, hn, ys, fU, r.mono f⟩
  ·cases e
 ·rw [List.getElem?_set_ne hm] at e
  obtain ⟨b, e1, r'⟩ := h.ob m ob e
  have hb : b ≠ a := by
   rintro rfl
   obtain ⟨h1, Hi⟩ := List.getElem?_eq_some_iff.mp hn
   obtain ⟨h2, Hj⟩ := List.getElem?_eq_some_iff.mp e1
   exact hm ((List.getElem_inj h.nd).mp (Hi.trans Hj.symm))
  exact ⟨b, e1, r'.mono f fun u q => by rw [aZ hb]; exact q⟩
end
noncomputable abbrev fk := XD → St → Hp → Prop
section
variable (K : PySem.W.Frag) (mg : Str → Option Value) (EE : fk)
noncomputable def mW (H : Hp) (σ : St) (τ : DS) (ρ : List Addr) : Out D → VK → Prop
 | .stuck, _ => False
 | .ok d G', Q => ∀ v H' ρ', eZ K H H' ρ ρ' → Ab K mg σ H' τ ρ' G' → Rep K mg ρ' H' d v → Q v H'
 | .dF c G', _ => ∀ H' ρ', eZ K H H' ρ ρ' → Ab K mg σ H' τ ρ' G' → EE c σ H'
noncomputable def HZ (H : Hp) (σ : St) (τ : DS) (ρ : List Addr) : Out Bool → (Bool → Hp → Prop) → Prop
 | .stuck, _ => False
 | .ok b G', Q => ∀ H' ρ', eZ K H H' ρ ρ' → Ab K mg σ H' τ ρ' G' → Q b H'
 | .dF c G', _ => ∀ H' ρ', eZ K H H' ρ ρ' → Ab K mg σ H' τ ρ' G' → EE c σ H'
noncomputable def MW (H : Hp) (σ : St) (τ : DS) (ρ : List Addr) : Out (List D) → (List V → Hp → Prop) → Prop
 | .stuck, _ => False
 | .ok ds G', Q => ∀ vs H' ρ', eZ K H H' ρ ρ' → Ab K mg σ H' τ ρ' G' → au K mg ρ' H' ds vs → Q vs H'
 | .dF c G', _ => ∀ H' ρ', eZ K H H' ρ ρ' → Ab K mg σ H' τ ρ' G' → EE c σ H'
noncomputable def dI (m : DS → M D) : TE := fun σ H Q => ∃ τ ρ G, Ab K mg σ H τ ρ G ∧ mW K mg EE H σ τ ρ (m τ G) Q
noncomputable def liftT (m : DS → M Bool) : TT := fun σ H Q => ∃ τ ρ G, Ab K mg σ H τ ρ G ∧ HZ K mg EE H σ τ ρ (m τ G) Q
noncomputable def sR (m : DS → M (List D)) : TA := fun σ H Q => ∃ τ ρ G, Ab K mg σ H τ ρ G ∧ MW K mg EE H σ τ ρ (m τ G) Q
inductive Res where
 | stuck
 | nx (τ : DS) (G : DH)
 | rt (d : D) (G : DH)
 | bk (τ : DS) (G : DH)
 | ct (τ : DS) (G : DH)
 | xn (c : XD) (τ : DS) (G : DH)
noncomputable def w9 (H : Hp) (ρ : List Addr) (Dd : Ends) : Res → Prop
 | .stuck => False
 | .nx τ G => ∀ σ' H' ρ', eZ K H H' ρ ρ' → Ab K mg σ' H' τ ρ' G → Dd.nx σ' H'
 | .bk τ G => ∀ σ' H' ρ', eZ K H H' ρ ρ' → Ab K mg σ' H' τ ρ' G → Dd.bk σ' H'
 | .ct τ G => ∀ σ' H' ρ', eZ K H H' ρ ρ' → Ab K mg σ' H' τ ρ' G → Dd.ct σ' H'
 | .rt d G => ∀ v H' ρ', eZ K H H' ρ ρ' → kg K mg H' ρ' G → Rep K mg ρ' H' d v → Dd.rt v H'
 | .xn c τ G => ∀ σ' H' ρ', eZ K H H' ρ ρ' → Ab K mg σ' H' τ ρ' G → EE c σ' H'
noncomputable abbrev MS := DS → DH → Res
noncomputable def jj (m : MS) : TS := fun Dd σ H => ∃ τ ρ G, Ab K mg σ H τ ρ G ∧ w9 K mg EE H ρ Dd (m τ G)
end
section
variable {K : PySem.W.Frag} {mg : Str → Option Value} {EE : fk} {H H1 : Hp} {σ : L2.St} {τ : DS} {ρ ρ1 : List Addr}
theorem mW.fut {r : Out D} {Q : VK} (f : eZ K H H1 ρ ρ1) (h : mW K mg EE H σ τ ρ r Q) : mW K mg EE H1 σ τ ρ1 r Q := by
 cases r with
 | stuck => exact h
 | ok d G' => exact fun v H' ρ' f' => h v H' ρ' (f.trans f')
 | dF c G' => exact fun H' ρ' f' => h H' ρ' (f.trans f')
theorem HZ.fut {r : Out Bool} {Q : Bool → Hp → Prop} (f : eZ K H H1 ρ ρ1) (h : HZ K mg EE H σ τ ρ r Q) : HZ K mg EE H1 σ τ ρ1 r Q := by
 cases r with
 | stuck => exact h
 | ok d G' => exact fun H' ρ' f' => h H' ρ' (f.trans f')
 | dF c G' => exact fun H' ρ' f' => h H' ρ' (f.trans f')
theorem MW.fut {r : Out (List D)} {Q : List V → Hp → Prop} (f : eZ K H H1 ρ ρ1) (h : MW K mg EE H σ τ ρ r Q) : MW K mg EE H1 σ τ ρ1 r Q := by
 cases r with
 | stuck => exact h
 | ok d G' => exact fun v H' ρ' f' => h v H' ρ' (f.trans f')
 | dF c G' => exact fun H' ρ' f' => h H' ρ' (f.trans f')
theorem w9.fut {r : Res} {Dd : Ends} (f : eZ K H H1 ρ ρ1) (h : w9 K mg EE H ρ Dd r) : w9 K mg EE H1 ρ1 Dd r := by
 cases r with
 | stuck => exact h
 | nx τ G => exact fun s H' ρ' f' => h s H' ρ' (f.trans f')
 | bk τ G => exact fun s H' ρ' f' => h s H' ρ' (f.trans f')
 | ct τ G => exact fun s H' ρ' f' => h s H' ρ' (f.trans f')
 | rt d G => exact fun s H' ρ' f' => h s H' ρ' (f.trans f')
 | xn c τ G => exact fun s H' ρ' f' => h s H' ρ' (f.trans f')
theorem jk {m : DS → M D} {k : DS → D → M D} {Q : VK} (h : dI K mg EE (fun τ => (m τ).bind (k τ)) σ H Q) :
  dI K mg EE m σ H fun x H1 => ∃ τ ρ G d, Ab K mg σ H1 τ ρ G ∧ Rep K mg ρ H1 d x ∧ mW K mg EE H1 σ τ ρ (k τ d G) Q := by
 obtain ⟨τ, ρ, G, ab, ok⟩ := h
 refine ⟨τ, ρ, G, ab, ?_⟩
 dsimp only [M.bind] at ok
 cases e : m τ G with
 | stuck => rw [e] at ok; exact ok
 | dF c G' => rw [e] at ok; exact ok
 | ok d G' => rw [e] at ok; exact fun v H' ρ' f cy r => ⟨τ, ρ', G', d, cy, r, ok.fut f⟩
theorem EL {m : DS → M D} {k : DS → D → M Bool} {Q : Bool → Hp → Prop} (h : liftT K mg EE (fun τ => (m τ).bind (k τ)) σ H Q) :
  dI K mg EE m σ H fun x H1 => ∃ τ ρ G d, Ab K mg σ H1 τ ρ G ∧ Rep K mg ρ H1 d x ∧ HZ K mg EE H1 σ τ ρ (k τ d G) Q := by
 obtain ⟨τ, ρ, G, ab, ok⟩ := h
 refine ⟨τ, ρ, G, ab, ?_⟩
 dsimp only [M.bind] at ok
 cases e : m τ G with
 | stuck => rw [e] at ok; exact ok
 | dF c G' => rw [e] at ok; exact ok
 | ok d G' => rw [e] at ok; exact fun v H' ρ' f cy r => ⟨τ, ρ', G', d, cy, r, ok.fut f⟩
theorem Be {m : DS → M Bool} {k : DS → Bool → M Bool} {Q : Bool → Hp → Prop} (h : liftT K mg EE (fun τ => (m τ).bind (k τ)) σ H Q) :
  liftT K mg EE m σ H fun b H1 => ∃ τ ρ G, Ab K mg σ H1 τ ρ G ∧ HZ K mg EE H1 σ τ ρ (k τ b G) Q := by
 obtain ⟨τ, ρ, G, ab, ok⟩ := h
 refine ⟨τ, ρ, G, ab, ?_⟩
 dsimp only [M.bind] at ok
 cases e : m τ G with
 | stuck => rw [e] at ok; exact ok
 | dF c G' => rw [e] at ok; exact ok
 | ok d G' => rw [e] at ok; exact fun H' ρ' f cy => ⟨τ, ρ', G', cy, ok.fut f⟩
theorem K1 {m : DS → M D} {k : DS → D → M (List D)} {Q : List V → Hp → Prop} (h : sR K mg EE (fun τ => (m τ).bind (k τ)) σ H Q) :
  dI K mg EE m σ H fun x H1 => ∃ τ ρ G d, Ab K mg σ H1 τ ρ G ∧ Rep K mg ρ H1 d x ∧ MW K mg EE H1 σ τ ρ (k τ d G) Q := by
 obtain ⟨τ, ρ, G, ab, ok⟩ := h
 refine ⟨τ, ρ, G, ab, ?_⟩
 dsimp only [M.bind] at ok
 cases e : m τ G with
 | stuck => rw [e] at ok; exact ok
 | dF c G' => rw [e] at ok; exact ok
 | ok d G' => rw [e] at ok; exact fun v H' ρ' f cy r => ⟨τ, ρ', G', d, cy, r, ok.fut f⟩
theorem uA {m : DS → M (List D)} {k : DS → List D → M D} {Q : VK} (h : dI K mg EE (fun τ => (m τ).bind (k τ)) σ H Q) :
  sR K mg EE m σ H fun x H1 => ∃ τ ρ G d, Ab K mg σ H1 τ ρ G ∧ au K mg ρ H1 d x ∧ mW K mg EE H1 σ τ ρ (k τ d G) Q := by
 obtain ⟨τ, ρ, G, ab, ok⟩ := h
 refine ⟨τ, ρ, G, ab, ?_⟩
 dsimp only [M.bind] at ok
 cases e : m τ G with
 | stuck => rw [e] at ok; exact ok
 | dF c G' => rw [e] at ok; exact ok
 | ok d G' => rw [e] at ok; exact fun v H' ρ' f cy r => ⟨τ, ρ', G', d, cy, r, ok.fut f⟩
noncomputable def cO {α : Type} (m : M α) (k : α → DH → Res) (x : XD → DH → Res) : DH → Res := fun G => match m G with
 | .stuck => .stuck
 | .ok a G' => k a G'
 | .dF c G' => x c G'
theorem rW {m : DS → M D} {k : DS → D → DH → Res} {Dd : Ends} (h : jj K mg EE (fun τ => cO (m τ) (k τ) fun c G => .xn c τ G) Dd σ H) :
  dI K mg EE m σ H fun x H1 => ∃ τ ρ G d, Ab K mg σ H1 τ ρ G ∧ Rep K mg ρ H1 d x ∧ w9 K mg EE H1 ρ Dd (k τ d G) := by
 obtain ⟨τ, ρ, G, ab, ok⟩ := h
 refine ⟨τ, ρ, G, ab, ?_⟩
 dsimp only [cO] at ok
 cases e : m τ G with
 | stuck => rw [e] at ok; exact ok
 | dF c G' => rw [e] at ok; exact fun H' ρ' f cy => ok σ H' ρ' f cy
 | ok d G' => rw [e] at ok; exact fun v H' ρ' f cy r => ⟨τ, ρ', G', d, cy, r, ok.fut f⟩
theorem EM {m : DS → M Bool} {k : DS → Bool → DH → Res} {Dd : Ends} (h : jj K mg EE (fun τ => cO (m τ) (k τ) fun c G => .xn c τ G) Dd σ H) :
  liftT K mg EE m σ H fun b H1 => ∃ τ ρ G, Ab K mg σ H1 τ ρ G ∧ w9 K mg EE H1 ρ Dd (k τ b G) := by
 obtain ⟨τ, ρ, G, ab, ok⟩ := h
 refine ⟨τ, ρ, G, ab, ?_⟩
 dsimp only [cO] at ok
 cases e : m τ G with
 | stuck => rw [e] at ok; exact ok
 | dF c G' => rw [e] at ok; exact fun H' ρ' f cy => ok σ H' ρ' f cy
 | ok d G' => rw [e] at ok; exact fun H' ρ' f cy => ⟨τ, ρ', G', cy, ok.fut f⟩
end
noncomputable def QE (X : Cx) (EE : fk) (e : Expr) (m : DS → M D) : Prop := PE X e (dI X.K X.mg EE m)
noncomputable def QT (X : Cx) (EE : fk) (e : Expr) (m : DS → M Bool) : Prop := PT X e (liftT X.K X.mg EE m)
noncomputable def QW (X : Cx) (EE : fk) (e : Expr) (m : DS → M Bool) : Prop := PW X e (liftT X.K X.mg EE m)
noncomputable def QA (X : Cx) (EE : fk) (es : List Expr) (m : DS → M (List D)) : Prop := PA X es (sR X.K X.mg EE m)
noncomputable def QS (X : Cx) (EE : fk) (st : Stmt) (m : MS) : Prop := PS X st (jj X.K X.mg EE m)
noncomputable def A1 (X : Cx) (EE : fk) (st : List Stmt) (m : MS) : Prop := A3 X st (jj X.K X.mg EE m)
section
variable {X : Cx}
theorem PE.mono {e : Expr} {t t' : TE} (h : PE X e t) (i : ∀ σ H Q, t' σ H Q → t σ H Q) : PE X e t' := fun pins s σ H Q I q => h pins s σ H Q I (i _ _ _ q)
theorem PT.mono {e : Expr} {t t' : TT} (h : PT X e t) (i : ∀ σ H Q, t' σ H Q → t σ H Q) : PT X e t' := fun pins s σ H Q I q => h pins s σ H Q I (i _ _ _ q)
theorem PA.mono {e : List Expr} {t t' : TA} (h : PA X e t) (i : ∀ σ H Q, t' σ H Q → t σ H Q) : PA X e t' := fun pos pins s σ H Q I q => h pos pins s σ H Q I (i _ _ _ q)
theorem PS.mono {e : Stmt} {t t' : TS} (h : PS X e t) (i : ∀ D σ H, t' D σ H → t D σ H) : PS X e t' := fun pins s σ H D I q => h pins s σ H D I (i _ _ _ q)
theorem A3.mono {e : List Stmt} {t t' : TS} (h : A3 X e t) (i : ∀ D σ H, t' D σ H → t D σ H) : A3 X e t' := fun pins s σ H D I q => h pins s σ H D I (i _ _ _ q)
end
end L3
end
section
set_option Elab.async false
set_option linter.all false
set_option maxRecDepth 100000
namespace L3
open PySem PySem.Spec L2
section
variable {X : Cx} {EE : fk} {a b c : Expr} {ma mb mc : DS → M D} {pos : Pos}
noncomputable def ah (i : Nat) : DS → M D := fun τ G => match τ[i]? with
 | some (some d) => .ok d G
 | _ => .stuck
noncomputable def eC (d : D) : DS → M D := fun _ => M.ret d
theorem K2 (i : Nat) {x : Str} {pos : Pos} (hN : X.N[i]? = some x := by rfl) (hv : J2 X.env.scope x := by first | exact Or.inl rfl | exact Or.inr (Or.inl rfl) | exact Or.inr (Or.inr rfl)) (hd : (x == ("__debug__" : Str)) = false := by decide)
  (hcd : (x == ("__classdict__" : Str)) = false := by decide) : QE X EE (.Name x pos) (ah i) := PE.mono (Ex hN hv hd hcd) fun σ H Q ⟨τ, ρ, G, ab, ok⟩ => by
 unfold ah at ok
 cases e : τ[i]? with
 | none => rw [e] at ok; exact ok.elim
 | some o =>
  cases o with
  | none => rw [e] at ok; exact ok.elim
  | some d =>
   rw [e] at ok
   obtain ⟨v, e1, r⟩ := ab.st.2 i d e
   exact ⟨v, e1, ok v H ρ .refl ab r⟩
theorem Du {d : D} {v : V} {e : Expr} (h : PE X e (tC v)) (r : ∀ ρ H, Rep X.K X.mg ρ H d v) : QE X EE e (eC d) := PE.mono h fun σ H Q ⟨τ, ρ, G, ab, ok⟩ => ok v H ρ .refl ab (r ρ H)
theorem ao {i : Int} {j pos} : QE X EE (.Constant (.int i) j pos) (eC (.int i)) := Du J6 fun _ _ => by unfold Rep; rfl
theorem EN {i : Bool} {j pos} : QE X EE (.Constant (.bool i) j pos) (eC (.bl i)) := Du Mq fun _ _ => by unfold Rep; rfl
theorem K3 {j pos} : QE X EE (.Constant .none j pos) (eC .eY) := Du J7 fun _ _ => by unfold Rep; rfl
theorem gZ {x j pos} : QE X EE (.Constant (.str x) j pos) (eC (.str x)) := Du J8 fun _ _ => by unfold Rep; rfl
noncomputable def zF (K : PySem.W.Frag) (mg : Str → Option Value) (x : Str) (d : D) : Prop := ∃ u v, mg x = some u ∧ RelV v u ∧ ∀ ρ H, Rep K mg ρ H d v
theorem H8 {x : Str} {d : D} {pos : Pos} (h : zF X.K X.mg x d) (hg : Gl X x := by rfl) (hd : (x == ("__debug__" : Str)) = false := by decide) : QE X EE (.Name x pos) (eC d) := by
 obtain ⟨u, v, hm, r, hr⟩ := h
 exact Du (Cg hg hm r hd) hr
noncomputable def aF (f : D → D → M D) (ma mb : DS → M D) : DS → M D := fun τ => (ma τ).bind fun x => (mb τ).bind fun y => f x y
noncomputable def Ia (X : Cx) (EE : fk) (r : R2) (f : D → D → M D) : Prop := ∀ (σ : L2.St) (H : Hp) (τ : DS) (ρ : List Addr) (G : DH) (x y : V) (d e : D) (Q : VK),
 Ab X.K X.mg σ H τ ρ G → Rep X.K X.mg ρ H d x → Rep X.K X.mg ρ H e y → mW X.K X.mg EE H σ τ ρ (f d e G) Q → r x y H Q
theorem ud {f : D → D → M D} {r : R2} (hd : Ia X EE r f) {σ : L2.St} {H : Hp} {Q : VK} (h : dI X.K X.mg EE (aF f ma mb) σ H Q) :
  MB r (dI X.K X.mg EE ma) (dI X.K X.mg EE mb) σ H Q := by
 obtain ⟨τ, ρ, G, ab, ok⟩ := jk (k := fun τ x => (mb τ).bind fun y => f x y) h
 refine ⟨τ, ρ, G, ab, ?_⟩
 cases e : ma τ G with
 | stuck => rw [e] at ok; exact ok
 | dF c G' => rw [e] at ok; exact ok
 | ok d G' =>
  rw [e] at ok
  intro v H' ρ' f' cy r'
  obtain ⟨τ2, ρ2, G2, d2, dj, r2, aK⟩ := ok v H' ρ' f' cy r'
  refine ⟨τ2, ρ2, G2, dj, ?_⟩
  dsimp only [M.bind] at aK
  cases e2 : mb τ2 G2 with
  | stuck => rw [e2] at aK; exact aK
  | dF c G' => rw [e2] at aK; exact aK
  | ok d3 G3 =>
   rw [e2] at aK
   exact fun v3 H3 ρ3 f3 zG r3 => hd σ H3 τ2 ρ3 G3 v v3 d2 d3 Q zG (r2.mono f3) r3 (aK.fut f3)
theorem uB {op : Operator} {r : R2} {f : D → D → M D} (ho : pF X (binaryOp op) r) (hd : Ia X EE r f) (ha : QE X EE a ma) (hb : QE X EE b mb) : QE X EE (.BinOp a op b pos) (aF f ma mb) :=
 PE.mono (MC ho ha hb) fun _ _ _ h => ud hd h
theorem EO {op : CmpOp} {r : R2} {f : D → D → M D} (ho : pF X (compareOp op) r) (hd : Ia X EE r f) (ha : QE X EE a ma) (hb : QE X EE b mb) (hm : behindInMarks op b = false) : QE X EE (.Compare a [op] [b] pos) (aF f ma mb) :=
 PE.mono (HC ho ha hb hm) fun _ _ _ h => ud hd h
theorem MX {r : R2} {f : D → D → M D} (ho : Me X r) (hd : Ia X EE r f) (ha : QE X EE a ma) (hb : QE X EE b mb) (hs : ua b := by intro _ _; rfl) : QE X EE (.Subscript a b pos) (aF f ma mb) :=
 PE.mono (MP ho ha hb hs) fun _ _ _ h => ud hd h
noncomputable def jl (C : Int → Int → Bool) (g : Int → Int → D) : D → D → M D
 | .int i, .int j => if C i j then M.ret (g i j) else M.stop
 | _, _ => M.stop
theorem Cm {C : Int → Int → Bool} {g : Int → Int → D} {d e : D} {G : DH} {σ : L2.St} {H : Hp} {τ : DS} {ρ : List Addr} {Q : VK} (ok : mW X.K X.mg EE H σ τ ρ (jl C g d e G) Q) :
  ∃ i j, d = .int i ∧ e = .int j ∧ C i j = true ∧ mW X.K X.mg EE H σ τ ρ (.ok (g i j) G) Q := by
 cases d <;> cases e <;> try exact ok.elim
 rename_i i j
 dsimp only [jl] at ok
 cases hc : C i j with
 | false => rw [hc] at ok; exact ok.elim
 | true => rw [hc] at ok; exact ⟨i, j, rfl, rfl, hc, ok⟩
theorem ue {C : Int → Int → Bool} {P : Int → Int → Prop} {g : Int → Int → D} {gv : Int → Int → V} (hC : ∀ i j, C i j = true → P i j) (hg : ∀ i j ρ H, Rep X.K X.mg ρ H (g i j) (gv i j)) : Ia X EE (rI P gv) (jl C g) :=
 fun σ H τ ρ G x y d e Q ab r1 r2 ok => by
  obtain ⟨i, j, rfl, rfl, hc, ok⟩ := Cm ok
  unfold Rep at r1 r2
  exact ⟨i, j, r1, r2, hC i j hc, ok _ H ρ .refl ab (hg i j ρ H)⟩
theorem zH {g : Int → Int → D} {gv : Int → Int → V} (hg : ∀ i j ρ H, Rep X.K X.mg ρ H (g i j) (gv i j)) : Ia X EE (Mc gv) (jl (fun _ _ => true) g) :=
 fun σ H τ ρ G x y d e Q ab r1 r2 ok => by
  obtain ⟨i, j, rfl, rfl, hc, ok⟩ := Cm ok
  unfold Rep at r1 r2
  exact ⟨i, j, r1, r2, ok _ H ρ .refl ab (hg i j ρ H)⟩
noncomputable abbrev K4 := jl (fun _ _ => true) fun i j => .int (i - j)
noncomputable abbrev Dv := jl (fun i j => (decide (-(2 ^ 64) < i) && decide (i < 2 ^ 64)) || (decide (-(2 ^ 64) < j) && decide (j < 2 ^ 64))) fun i j => .int (i * j)
noncomputable abbrev iC := jl (fun _ j => decide (0 < j) && decide (j < 1073741824)) fun i j => .int (i / j)
noncomputable abbrev d7 := jl (fun _ j => decide (0 < j)) fun i j => .int (i % j)
noncomputable abbrev ER := jl (fun i j => decide (0 ≤ j) && (decide (j ≤ 1000000) && decide (i.natAbs < 2 ^ 64))) fun i j => .int (i ^ j.toNat)
noncomputable abbrev xg := jl (fun _ _ => true) fun i j => .bl (decide (j < i))
theorem K5 (ha : QE X EE a ma) (hb : QE X EE b mb) : QE X EE (.BinOp a .Sub b pos) (aF K4 ma mb) := uB Ku (zH fun _ _ _ _ => by unfold Rep; rfl) ha hb
theorem uC (ha : QE X EE a ma) (hb : QE X EE b mb) : QE X EE (.BinOp a .Mult b pos) (aF Dv ma mb) := uB Kv (ue (fun i j h => by
 simp only [Bool.or_eq_true, Bool.and_eq_true, decide_eq_true_eq] at h; exact h) fun _ _ _ _ => by unfold Rep; rfl) ha hb
theorem iR (ha : QE X EE a ma) (hb : QE X EE b mb) : QE X EE (.BinOp a .FloorDiv b pos) (aF iC ma mb) := uB HB (ue (fun i j h => by
 simp only [Bool.and_eq_true, decide_eq_true_eq] at h; exact h) fun _ _ _ _ => by unfold Rep; rfl) ha hb
theorem dR (ha : QE X EE a ma) (hb : QE X EE b mb) : QE X EE (.BinOp a .Mod b pos) (aF d7 ma mb) := uB Kw (ue (fun i j h => of_decide_eq_true h) fun _ _ _ _ => by unfold Rep; rfl) ha hb
theorem ES (ha : QE X EE a ma) (hb : QE X EE b mb) : QE X EE (.BinOp a .Pow b pos) (aF ER ma mb) := uB Ky (ue (fun i j h => by
 simp only [Bool.and_eq_true, decide_eq_true_eq] at h; exact h) fun _ _ _ _ => by unfold Rep; rfl) ha hb
noncomputable def bM (ds : List D) : M D := fun G => if ds.length ≤ sizeLine then .ok (.obj G.length) (G ++ [.lst ds]) else .stuck
noncomputable def oH (ds : List D) : M D := fun G => if ds.length ≤ sizeLine then .ok (.tup ds) G else .stuck
theorem m8 {σ : L2.St} {H : Hp} {τ : DS} {ρ : List Addr} {G : DH} {ds : List D} {vs : List V} {Q : VK} (ab : Ab X.K X.mg σ H τ ρ G) (r : au X.K X.mg ρ H ds vs) (ok : mW X.K X.mg EE H σ τ ρ (bM ds G) Q) :
  vs.length ≤ sizeLine ∧ ∀ p, H p = none → Q (.ref p) (upd H p (.lst vs)) := by
 unfold bM at ok
 split at ok
 ·rename_i hl
  rw [r.length] at hl
  refine ⟨hl, fun p hp => ?_⟩
  have f : eZ X.K H (upd H p (.lst vs)) ρ (ρ ++ [p]) := (n5 hp ρ).trans (qu ρ p)
  refine ok (.ref p) _ (ρ ++ [p]) f (ab.fut f (ab.hp.more hp r)) ?_
  unfold Rep
  exact ⟨p, rfl, by rw [← ab.hp.hl, cz]⟩
 ·exact ok.elim
theorem yc {σ : L2.St} {H : Hp} {τ : DS} {ρ : List Addr} {G : DH} {ds : List D} {vs : List V} {Q : VK} (ab : Ab X.K X.mg σ H τ ρ G) (r : au X.K X.mg ρ H ds vs) (ok : mW X.K X.mg EE H σ τ ρ (oH ds G) Q) :
  vs.length ≤ sizeLine ∧ ∀ p, H p = none → Q (.ref p) (upd H p (.tup vs)) := by
 unfold oH at ok
 split at ok
 ·rename_i hl
  rw [r.length] at hl
  refine ⟨hl, fun p hp => ?_⟩
  have f : eZ X.K H (upd H p (.tup vs)) ρ ρ := n5 hp ρ
  refine ok (.ref p) _ ρ f (ab.fut f (ab.hp.new hp)) ?_
  unfold Rep
  exact ⟨p, vs, rfl, .of fU, r.mono f⟩
 ·exact ok.elim
noncomputable def aq : DS → M (List D) := fun _ => M.ret []
noncomputable def ai (m : DS → M D) (r : DS → M (List D)) : DS → M (List D) := fun τ => (m τ).bind fun x => (r τ).bind fun xs => M.ret (x :: xs)
theorem aj : QA X EE [] aq := PA.mono ED fun σ H Q ⟨τ, ρ, G, ab, ok⟩ => ok [] H ρ .refl ab .nil
theorem Ib {e : Expr} {es : List Expr} {m : DS → M D} {r : DS → M (List D)} (ha : QE X EE e m) (hr : QA X EE es r) (hs : starEach (e :: es) X.env = (false, eval e X.env) :: starEach es X.env := by rfl) : QA X EE (e :: es) (ai m r) :=
 PA.mono (xY ha hr hs) fun σ H Q h => by
  obtain ⟨τ, ρ, G, ab, ok⟩ := K1 (k := fun τ x => (r τ).bind fun xs => M.ret (x :: xs)) h
  refine ⟨τ, ρ, G, ab, ?_⟩
  cases e : m τ G with
  | stuck => rw [e] at ok; exact ok
  | dF c G' => rw [e] at ok; exact ok
  | ok d G' =>
   rw [e] at ok
   intro v H' ρ' f' cy r'
   obtain ⟨τ2, ρ2, G2, d2, dj, r2, aK⟩ := ok v H' ρ' f' cy r'
   refine ⟨τ2, ρ2, G2, dj, ?_⟩
   dsimp only [M.bind] at aK
   cases e2 : r τ2 G2 with
   | stuck => rw [e2] at aK; exact aK
   | dF c G' => rw [e2] at aK; exact aK
   | ok d3 G3 =>
    rw [e2] at aK
    exact fun v3 H3 ρ3 f3 zG r3 => aK (v :: v3) H3 ρ3 f3 zG (.cons (r2.mono f3) r3)
noncomputable def aC (f : List D → M D) (m : DS → M (List D)) : DS → M D := fun τ => (m τ).bind f
theorem n6 {m : DS → M (List D)} {f : List D → M D} {r : List V → Hp → VK → Prop} {σ : L2.St} {H : Hp} {Q : VK}
  (hd : ∀ (H : Hp) (τ : DS) (ρ : List Addr) (G : DH) (xs : List V) (ds : List D), Ab X.K X.mg σ H τ ρ G → au X.K X.mg ρ H ds xs → mW X.K X.mg EE H σ τ ρ (f ds G) Q → r xs H Q)
  (h : dI X.K X.mg EE (aC f m) σ H Q) : sR X.K X.mg EE m σ H fun xs H1 => r xs H1 Q := by
 obtain ⟨τ, ρ, G, ab, ok⟩ := uA (k := fun _ => f) h
 refine ⟨τ, ρ, G, ab, ?_⟩
 cases e : m τ G with
 | stuck => rw [e] at ok; exact ok
 | dF c G' => rw [e] at ok; exact ok
 | ok d G' =>
  rw [e] at ok
  intro v H' ρ' f' cy r'
  obtain ⟨τ2, ρ2, G2, d2, dj, r2, aK⟩ := ok v H' ρ' f' cy r'
  exact hd H' τ2 ρ2 G2 v d2 dj r2 aK
theorem yd {es : List Expr} {m : DS → M (List D)} {x1} (h : QA X EE es m) : QE X EE (.Tuple es x1 pos) (aC oH m) :=
 PE.mono (KH h) fun σ H Q h => n6 (r := fun xs H1 Q => xs.length ≤ sizeLine ∧ ∀ p, H1 p = none → Q (.ref p) (upd H1 p (.tup xs))) (fun H τ ρ G xs ds ab r ok => yc ab r ok) h
theorem fm {es : List Expr} {m : DS → M (List D)} (h : QA X EE es m) : QE X EE (.List es pos) (aC bM m) :=
 PE.mono (KI h) fun σ H Q h => n6 (r := fun xs H1 Q => xs.length ≤ sizeLine ∧ ∀ p, H1 p = none → Q (.ref p) (upd H1 p (.lst xs))) (fun H τ ρ G xs ds ab r ok => m8 ab r ok) h
noncomputable def CallD (X : Cx) (EE : fk) (r : List V → Hp → VK → Prop) (f : List D → M D) : Prop := ∀ (σ : L2.St) (H : Hp) (τ : DS) (ρ : List Addr) (G : DH) (xs : List V) (ds : List D) (Q : VK),
 Ab X.K X.mg σ H τ ρ G → au X.K X.mg ρ H ds xs → mW X.K X.mg EE H σ τ ρ (f ds G) Q → r xs H Q
theorem ET {x : Str} {p : Pos} {e : Expr} {es : List Expr} {m : DS → M (List D)} {id : String} {r : List V → Hp → VK → Prop} {f : List D → M D} (hc : iP X (.builtin id) r) (hd : CallD X EE r f) (hm : X.mg x = none) (ha : QA X EE (e :: es) m)
  (hg : Gl X x := by rfl) (hv : bootBuiltins x = some (.builtin id) := by first | rfl | decide) (hn : x ≠ "__name__" := by decide) (hdb : (x == ("__debug__" : Str)) = false := by decide)
  (he : starEach (e :: es) X.env = (false, eval e X.env) :: starEach es X.env := by rfl) (hpl : (backTo pos (starEach es X.env)).any (·.1) = false := by rfl) : QE X EE (.Call (.Name x p) (e :: es) [] pos) (aC f m) :=
 PE.mono (EF hc hg hm hv ha hn hdb he hpl) fun σ H Q h => n6 (r := r) (fun H τ ρ G xs ds ab r ok => hd σ H τ ρ G xs ds Q ab r ok) h
theorem Dw {x : Str} {p : Pos} {e : Expr} {es : List Expr} {m : DS → M (List D)} {T : String} {r : List V → Hp → VK → Prop} {f : List D → M D} (hc : iP X (.type T) r) (hd : CallD X EE r f) (hm : X.mg x = none) (ha : QA X EE (e :: es) m)
  (hg : Gl X x := by rfl) (hv : bootBuiltins x = some (.type T) := by first | rfl | decide) (hn : x ≠ "__name__" := by decide) (hdb : (x == ("__debug__" : Str)) = false := by decide)
  (he : starEach (e :: es) X.env = (false, eval e X.env) :: starEach es X.env := by rfl) (hpl : (backTo pos (starEach es X.env)).any (·.1) = false := by rfl) : QE X EE (.Call (.Name x p) (e :: es) [] pos) (aC f m) :=
 PE.mono (Dq hc hg hm hv ha hn hdb he hpl) fun σ H Q h => n6 (r := r) (fun H τ ρ G xs ds ab r ok => hd σ H τ ρ G xs ds Q ab r ok) h
noncomputable def m9 (f : D → M Bool) (m : DS → M D) : DS → M Bool := fun τ => (m τ).bind f
noncomputable def tU : D → M Bool
 | .eY => M.ret false
 | .bl b => M.ret b
 | .int i => M.ret (i != 0)
 | .str y => if y.length ≤ sizeLine then M.ret ((y.length : Int) != 0) else M.stop
 | .tup xs => M.ret (!xs.isEmpty)
 | .con xs => M.ret (!xs.isEmpty)
 | .obj n => fun G => match G[n]? with
  | some (.lst xs) => .ok (!xs.isEmpty) G
  | _ => .stuck
 | .fn _ => M.stop
 | .w6 _ _ => M.stop
theorem lE {K : PySem.W.Frag} {mg : Str → Option Value} {ρ : List Addr} {H : Hp} {ds : List D} {vs : List V} (r : au K mg ρ H ds vs) : (!vs.isEmpty) = !ds.isEmpty := by
 have := r.length
 cases ds <;> cases vs <;> first | rfl | (simp at this)
theorem EU {m : DS → M D} {σ : L2.St} {H : Hp} {Q : Bool → Hp → Prop} (h : liftT X.K X.mg EE (m9 tU m) σ H Q) :
  dI X.K X.mg EE m σ H fun x H1 => ∃ k, KD X.K x H1 k ∧ Q k H1 := by
 obtain ⟨τ, ρ, G, ab, ok⟩ := EL (k := fun _ => tU) h
 refine ⟨τ, ρ, G, ab, ?_⟩
 cases e : m τ G with
 | stuck => rw [e] at ok; exact ok
 | dF c G' => rw [e] at ok; exact ok
 | ok d G' =>
  rw [e] at ok
  intro v H' ρ' f' cy r'
  obtain ⟨τ2, ρ2, G2, d2, dj, r2, aK⟩ := ok v H' ρ' f' cy r'
  cases d2 with
  | eY => unfold Rep at r2; subst r2; exact ⟨false, rfl, aK H' ρ2 .refl dj⟩
  | bl b => unfold Rep at r2; subst r2; exact ⟨b, rfl, aK H' ρ2 .refl dj⟩
  | int i => unfold Rep at r2; subst r2; exact ⟨_, rfl, aK H' ρ2 .refl dj⟩
  | str y =>
   unfold Rep at r2; subst r2
   dsimp only [tU] at aK
   split at aK
   ·rename_i hl; exact ⟨_, ⟨hl, rfl⟩, aK H' ρ2 .refl dj⟩
   ·exact aK.elim
  | tup xs =>
   unfold Rep at r2
   obtain ⟨p, vs, rfl, sq, rs⟩ := r2
   exact ⟨!vs.isEmpty, .inr (.inl ⟨vs, sq, rfl⟩), by rw [lE rs]; exact aK H' ρ2 .refl dj⟩
  | con xs =>
   unfold Rep at r2
   obtain ⟨p, vs, rfl, sq, rs⟩ := r2
   exact ⟨!vs.isEmpty, .inl ⟨vs, sq.seq, rfl⟩, by rw [lE rs]; exact aK H' ρ2 .refl dj⟩
  | obj n =>
   unfold Rep at r2
   obtain ⟨p, rfl, e1⟩ := r2
   dsimp only [tU] at aK
   cases q : G2[n]? with
   | none => rw [q] at aK; exact aK.elim
   | some o =>
    cases o with
    | dead => first | (rw [q] at ok; exact ok.elim) | (rw [q] at aK; exact aK.elim) | (rw [q] at e; cases e; done) | (rw [g] at ok; exact ok.elim) | (rw [g] at q; cases q; done) | (rw [g] at h; cases h; done) | (rw [g2] at ok; exact ok.elim) | (rw [g1, g2] at ok; exact ok.elim) | (rw [q1] at ok; exact ok.elim) | exact ok.elim
    | dct kv => first | (rw [q] at ok; exact ok.elim) | (rw [q] at aK; exact aK.elim) | (rw [q] at e; cases e; done) | (rw [g] at ok; exact ok.elim) | (rw [g] at q; cases q; done) | (rw [g] at h; cases h; done) | (rw [g2] at ok; exact ok.elim) | (rw [g1, g2] at ok; exact ok.elim) | (rw [q1] at ok; exact ok.elim) | exact ok.elim
    | lst xs =>
     rw [q] at aK
     obtain ⟨p', vs, e2, hp, rs⟩ := dj.hp.lst q
     rw [e1] at e2; cases e2
     exact ⟨!vs.isEmpty, .inl ⟨vs, .of hp, rfl⟩, by rw [lE rs]; exact aK H' ρ2 .refl dj⟩
  | fn x => exact aK.elim
  | w6 c as => exact aK.elim
theorem K6 (ha : QE X EE a ma) (he : ∀ whole, isTrue a X.env whole = (do let v ← whole; standAt a.pos; holding [v] (truthy v)) := by intro _; rfl) : QT X EE a (m9 tU ma) :=
 PT.mono (EB ha he) fun σ H Q h => EU h
end
end L3
end
section
set_option Elab.async false
set_option linter.all false
set_option maxRecDepth 100000
namespace L3
open PySem PySem.Spec L2
noncomputable def d8 {α β : Type} (f : α → Option β) : List α → Option (List β)
 | [] => some []
 | a :: r => match f a, d8 f r with
  | some b, some bs => some (b :: bs)
  | _, _ => none
noncomputable def m7 (G : DH) : Nat → D → Option PyData
 | 0, _ => none
 | _ + 1, .eY => some .none
 | _ + 1, .bl b => some (.bool b)
 | _ + 1, .int i => some (.int i)
 | _ + 1, .str x => some (.str x)
 | n + 1, .tup ds => (d8 (m7 G n) ds).map .tuple
 | n + 1, .con ds => (d8 (m7 G n) ds).map .list
 | n + 1, .obj k => match G[k]? with
  | some (.lst ds) => (d8 (m7 G n) ds).map .list
  | _ => none
 | _ + 1, .fn _ => none
 | _ + 1, .w6 _ _ => none
section
variable {X : Cx} {EE : fk} {pins : List (Addr × Obj)} {σ : L2.St} {H : Hp} {s : Shared} {ρ : List Addr} {G : DH}
theorem readsAll {f : D → Option PyData} (hf : ∀ (d : D) (x : V) (u : Value) (p : PyData), Rep X.K X.mg ρ H d x → RelV x u → f d = some p → ∃ as, Reads s.heap u p as) :
  ∀ (ds : List D) (xs : List V) (us : List Value) (ps : List PyData), au X.K X.mg ρ H ds xs → Vals xs us → d8 f ds = some ps → ∃ as, ReadsAll s.heap us ps as
 | [], xs, us, ps, r, v, e => by
  unfold au at r; subst r
  cases v; cases e
  exact ⟨[], .nil⟩
 | d :: ds, xs, us, ps, r, v, e => by
  unfold au at r
  obtain ⟨x, r', rfl, h1, h2⟩ := r
  cases v with
  | cons v1 v2 =>
  unfold d8 at e
  cases e1 : f d with
  | none => rw [e1] at e; cases e
  | some p =>
   cases e2 : d8 f ds with
   | none => rw [e1, e2] at e; cases e
   | some qs =>
    rw [e1, e2] at e
    cases e
    obtain ⟨as, a1⟩ := hf d x _ p h1 v1 e1
    obtain ⟨bs, a2⟩ := readsAll hf ds r' _ qs h2 v2 e2
    exact ⟨as ++ bs, .cons a1 a2⟩
theorem fq (I : Inv X pins σ H s) (hp : kg X.K X.mg H ρ G) : ∀ (n : Nat) (d : D) (x : V) (u : Value) (p : PyData), Rep X.K X.mg ρ H d x → RelV x u → m7 G n d = some p → ∃ as, Reads s.heap u p as
 | 0, _, _, _, _, _, _, e => nomatch e
 | n + 1, .eY, x, u, p, r, v, e => by unfold Rep at r; subst r; cases v; cases e; exact ⟨_, .none⟩
 | n + 1, .bl b, x, u, p, r, v, e => by unfold Rep at r; subst r; cases v; cases e; exact ⟨_, .bool b⟩
 | n + 1, .int i, x, u, p, r, v, e => by unfold Rep at r; subst r; obtain ⟨t, rfl⟩ := v; cases e; exact ⟨_, .int i t⟩
 | n + 1, .str y, x, u, p, r, v, e => by unfold Rep at r; subst r; obtain ⟨t, rfl⟩ := v; cases e; exact ⟨_, .str y t⟩
 | n + 1, .tup ds, x, u, p, r, v, e => by
  unfold Rep at r
  obtain ⟨a, xs, rfl, sq, rs⟩ := r
  cases v
  obtain ⟨its, vs, ⟨o, e1, e2, k, e3⟩, _⟩ := I.tuple sq
  unfold m7 at e
  cases q : d8 (m7 G n) ds with
  | none => rw [q] at e; cases e
  | some ps =>
   rw [q] at e; cases e
   obtain ⟨as, ra⟩ := readsAll (fun d x u p => fq I hp n d x u p) ds xs its ps rs vs q
   exact ⟨as, .tuple e1 e2 e3 (by simpa using ra)⟩
 | n + 1, .con ds, x, u, p, r, v, e => by
  unfold Rep at r
  obtain ⟨a, xs, rfl, sq, rs⟩ := r
  cases v
  obtain ⟨its, vs, ⟨o, k, e1, e2, e3, e4⟩, _⟩ := I.list sq.seq
  unfold m7 at e
  cases q : d8 (m7 G n) ds with
  | none => rw [q] at e; cases e
  | some ps =>
   rw [q] at e; cases e
   obtain ⟨as, ra⟩ := readsAll (fun d x u p => fq I hp n d x u p) ds xs its ps rs vs q
   exact ⟨_, .list e1 e2 e4 (by simpa using ra)⟩
 | n + 1, .obj k, x, u, p, r, v, e => by
  unfold Rep at r
  obtain ⟨a, rfl, e0⟩ := r
  cases v
  dsimp only [m7] at e
  cases q : G[k]? with
  | none => rw [q] at e; cases e
  | some o =>
   cases o with
   | dead => first | (rw [q] at ok; exact ok.elim) | (rw [q] at aK; exact aK.elim) | (rw [q] at e; cases e; done) | (rw [g] at ok; exact ok.elim) | (rw [g] at q; cases q; done) | (rw [g] at h; cases h; done) | (rw [g2] at ok; exact ok.elim) | (rw [g1, g2] at ok; exact ok.elim) | (rw [q1] at ok; exact ok.elim) | exact ok.elim
   | dct kv => first | (rw [q] at ok; exact ok.elim) | (rw [q] at aK; exact aK.elim) | (rw [q] at e; cases e; done) | (rw [g] at ok; exact ok.elim) | (rw [g] at q; cases q; done) | (rw [g] at h; cases h; done) | (rw [g2] at ok; exact ok.elim) | (rw [g1, g2] at ok; exact ok.elim) | (rw [q1] at ok; exact ok.elim) | exact ok.elim
   | lst ds =>
    rw [q] at e
    obtain ⟨a', xs, e1, e2, rs⟩ := hp.lst q
    rw [e0] at e1; cases e1
    obtain ⟨its, vs, ⟨o, k, e1, e2, e3, e4⟩, _⟩ := I.list (.of e2)
    dsimp only at e
    cases q : d8 (m7 G n) ds with
    | none => rw [q] at e; cases e
    | some ps =>
     rw [q] at e; cases e
     obtain ⟨as, ra⟩ := readsAll (fun d x u p => fq I hp n d x u p) ds xs its ps rs vs q
     exact ⟨_, .list e1 e2 e4 (by simpa using ra)⟩
 | n + 1, .fn y, x, u, p, r, v, e => nomatch e
 | n + 1, .w6 y _, x, u, p, r, v, e => nomatch e
end
section
variable {X : Cx} {EE : fk} {a b c : Expr} {ma mb mc : DS → M D} {pos : Pos}
noncomputable def rD (X : Cx) (EE : fk) (f : D → D → M D) : R2 := fun x y H Q => ∃ σ τ ρ G d e, Ab X.K X.mg σ H τ ρ G ∧ Rep X.K X.mg ρ H d x ∧ Rep X.K X.mg ρ H e y ∧ mW X.K X.mg EE H σ τ ρ (f d e G) Q
theorem kM {f : D → D → M D} : Ia X EE (rD X EE f) f := fun σ H τ ρ G x y d e Q ab r1 r2 ok => ⟨σ, τ, ρ, G, d, e, ab, r1, r2, ok⟩
theorem MY {f : D → D → M D} {r : R2} (h : Ia X EE r f) {x y : V} {H : Hp} {Q : VK} (q : rD X EE f x y H Q) : r x y H Q := by
 obtain ⟨σ, τ, ρ, G, d, e, ab, r1, r2, ok⟩ := q
 exact h σ H τ ρ G x y d e Q ab r1 r2 ok
noncomputable abbrev deep : Nat := 600
noncomputable def Dy (d e : D) (G : DH) : Option Bool := match m7 G deep d, m7 G deep e with
 | some p, some q => if p.canLay0 && (q.canLay0 && decide (min p.depth q.depth ≤ 580)) then some (PyData.eqv p q) else none
 | _, _ => none
noncomputable def kI (neg : Bool) (d e : D) : M D := fun G => match Dy d e G with
 | some b => .ok (.bl (neg ^^ b)) G
 | none => .stuck
theorem iL (hu : X.A.units + 600 < cLine) : pF X (compareOp .Eq) (rD X EE (kI false)) := by
 intro pins s σ0 H x y v u Q I rx ry ⟨σ, τ, ρ, G, d, e, ab, r1, r2, ok⟩
 dsimp only [kI, Dy] at ok
 cases e1 : m7 G deep d with
 | none => rw [e1] at ok; exact ok.elim
 | some p =>
  cases e2 : m7 G deep e with
  | none => rw [e1, e2] at ok; exact ok.elim
  | some q =>
   rw [e1, e2] at ok
   dsimp only at ok
   by_cases hc : (p.canLay0 && (q.canLay0 && decide (min p.depth q.depth ≤ 580))) = true
   ·rw [if_pos hc] at ok
    simp only [Bool.and_eq_true, decide_eq_true_eq] at hc
    obtain ⟨as, ra⟩ := fq I ab.hp deep d x v p r1 rx e1
    obtain ⟨bs, rb⟩ := fq I ab.hp deep e y u q r2 ry e2
    refine SeqAt.compareEq_reads ra rb hc.1 hc.2.1 (by omega) ⟨.bl _, H, I, rfl, ?_⟩
    have := ok (.bl _) H ρ .refl ab (by unfold Rep; rfl)
    simpa using this
   ·rw [if_neg hc] at ok; exact ok.elim
theorem Bf (hu : X.A.units + 600 < cLine) : pF X (compareOp .NotEq) (rD X EE (kI true)) := by
 intro pins s σ0 H x y v u Q I rx ry ⟨σ, τ, ρ, G, d, e, ab, r1, r2, ok⟩
 dsimp only [kI, Dy] at ok
 cases e1 : m7 G deep d with
 | none => rw [e1] at ok; exact ok.elim
 | some p =>
  cases e2 : m7 G deep e with
  | none => rw [e1, e2] at ok; exact ok.elim
  | some q =>
   rw [e1, e2] at ok
   dsimp only at ok
   by_cases hc : (p.canLay0 && (q.canLay0 && decide (min p.depth q.depth ≤ 580))) = true
   ·rw [if_pos hc] at ok
    simp only [Bool.and_eq_true, decide_eq_true_eq] at hc
    obtain ⟨as, ra⟩ := fq I ab.hp deep d x v p r1 rx e1
    obtain ⟨bs, rb⟩ := fq I ab.hp deep e y u q r2 ry e2
    refine SeqAt.compareNe_reads ra rb hc.1 hc.2.1 (by omega) ⟨.bl _, H, I, rfl, ?_⟩
    have := ok (.bl _) H ρ .refl ab (by unfold Rep; rfl)
    simpa using this
   ·rw [if_neg hc] at ok; exact ok.elim
theorem EV (hu : X.A.units + 600 < cLine) (ha : QE X EE a ma) (hb : QE X EE b mb) : QE X EE (.Compare a [.Eq] [b] pos) (aF (kI false) ma mb) := EO (iL hu) kM ha hb (KC _)
inductive Qe where
 | lst (xs : List D) | tup (xs : List D) | str (x : Str)
noncomputable def bz (G : DH) : D → Option Qe
 | .tup xs => some (.tup xs)
 | .con xs => some (.lst xs)
 | .obj n => match G[n]? with
  | some (.lst xs) => some (.lst xs)
  | _ => none
 | .str x => some (.str x)
 | _ => none
noncomputable def Js (d : D) (ds : List D) (G : DH) : Option Bool := match m7 G deep d, d8 (m7 G deep) ds with
 | some p, some qs => if p.canLay0 && (PyData.canLayAll0 qs && decide (min (PyData.depthAll qs) p.depth ≤ 580)) then some (qs.any fun y => PyData.eqv y p) else none
 | _, _ => none
noncomputable def Dz (neg : Bool) (d e : D) : M D := fun G => match bz G e with
 | some (.lst ds) => match Js d ds G with
  | some b => .ok (.bl (neg ^^ b)) G
  | none => .stuck
 | some (.tup ds) => match Js d ds G with
  | some b => .ok (.bl (neg ^^ b)) G
  | none => .stuck
 | some (.str j) => match d with
  | .str i => .ok (.bl (neg ^^ !(Builtin.Str.occurrences j i 0 j.length 1).isEmpty)) G
  | _ => .stuck
 | none => .stuck
theorem cS {pins : List (Addr × Obj)} {σ0 : L2.St} {H : Hp} {s : Shared} {ρ : List Addr} {G : DH} {d : D} {ds : List D} {x : V} (h : kg X.K X.mg H ρ G) (r : Rep X.K X.mg ρ H d x) (e : bz G d = some (.lst ds)) :
  ∃ p xs, x = .ref p ∧ pD X.K H p xs ∧ au X.K X.mg ρ H ds xs := by
 cases d with
 | con xs =>
  cases e
  unfold Rep at r
  obtain ⟨a, xs, rfl, sq, rs⟩ := r
  exact ⟨a, xs, rfl, sq.seq, rs⟩
 | obj n =>
  unfold Rep at r
  obtain ⟨a, rfl, e0⟩ := r
  dsimp only [bz] at e
  cases q : G[n]? with
  | none => rw [q] at e; cases e
  | some o =>
   cases o with
   | dead => first | (rw [q] at ok; exact ok.elim) | (rw [q] at aK; exact aK.elim) | (rw [q] at e; cases e; done) | (rw [g] at ok; exact ok.elim) | (rw [g] at q; cases q; done) | (rw [g] at h; cases h; done) | (rw [g2] at ok; exact ok.elim) | (rw [g1, g2] at ok; exact ok.elim) | (rw [q1] at ok; exact ok.elim) | exact ok.elim
   | dct kv => first | (rw [q] at ok; exact ok.elim) | (rw [q] at aK; exact aK.elim) | (rw [q] at e; cases e; done) | (rw [g] at ok; exact ok.elim) | (rw [g] at q; cases q; done) | (rw [g] at h; cases h; done) | (rw [g2] at ok; exact ok.elim) | (rw [g1, g2] at ok; exact ok.elim) | (rw [q1] at ok; exact ok.elim) | exact ok.elim
   | lst ys =>
    rw [q] at e; cases e
    obtain ⟨a', xs, e1, e2, rs⟩ := h.lst q
    rw [e0] at e1; cases e1
    exact ⟨a, xs, rfl, .of e2, rs⟩
 | _ => cases e
theorem jb {H : Hp} {ρ : List Addr} {G : DH} {d : D} {ds : List D} {x : V} (r : Rep X.K X.mg ρ H d x) (e : bz G d = some (.tup ds)) :
  ∃ p xs, x = .ref p ∧ rS X.K H p xs ∧ au X.K X.mg ρ H ds xs := by
 cases d with
 | tup xs =>
  cases e
  unfold Rep at r
  obtain ⟨a, xs, rfl, sq, rs⟩ := r
  exact ⟨a, xs, rfl, sq, rs⟩
 | obj n =>
  dsimp only [bz] at e
  cases q : G[n]? with
  | none => rw [q] at e; cases e
  | some o => cases o <;> (rw [q] at e; cases e)
 | _ => cases e
theorem n8 {H : Hp} {ρ : List Addr} {G : DH} {d : D} {y : Str} {x : V} (r : Rep X.K X.mg ρ H d x) (e : bz G d = some (.str y)) : d = .str y ∧ x = .str y := by
 cases d with
 | str z => cases e; unfold Rep at r; exact ⟨rfl, r⟩
 | obj n =>
  dsimp only [bz] at e
  cases q : G[n]? with
  | none => rw [q] at e; cases e
  | some o => cases o <;> (rw [q] at e; cases e)
 | _ => cases e
theorem K7 {pins : List (Addr × Obj)} {σ0 : L2.St} {H : Hp} {s : Shared} {ρ : List Addr} {G : DH} {p : Addr} {xs : List V} {ds : List D} {qs : List PyData} (I : Inv X pins σ0 H s) (hp : kg X.K X.mg H ρ G) (sq : pD X.K H p xs) (rs : au X.K X.mg ρ H ds xs)
  (e : d8 (m7 G deep) ds = some qs) : ∃ as, Reads s.heap (.ref p) (.list qs) as := by
 obtain ⟨its, vs, ⟨o, k, e1, e2, e3, e4⟩, _⟩ := I.list sq
 obtain ⟨as, ra⟩ := readsAll (fun d x u p => fq I hp deep d x u p) ds xs its qs rs vs e
 exact ⟨_, .list e1 e2 e4 (by simpa using ra)⟩
theorem K8 {pins : List (Addr × Obj)} {σ0 : L2.St} {H : Hp} {s : Shared} {ρ : List Addr} {G : DH} {p : Addr} {xs : List V} {ds : List D} {qs : List PyData} (I : Inv X pins σ0 H s) (hp : kg X.K X.mg H ρ G) (sq : rS X.K H p xs) (rs : au X.K X.mg ρ H ds xs)
  (e : d8 (m7 G deep) ds = some qs) : ∃ as, Reads s.heap (.ref p) (.tuple qs) as := by
 obtain ⟨its, vs, ⟨o, e1, e2, k, e3⟩, _⟩ := I.tuple sq
 obtain ⟨as, ra⟩ := readsAll (fun d x u p => fq I hp deep d x u p) ds xs its qs rs vs e
 exact ⟨_, .tuple e1 e2 e3 (by simpa using ra)⟩
theorem zI {d : D} {ds : List D} {G : DH} {b : Bool} (h : Js d ds G = some b) : ∃ p qs, m7 G deep d = some p ∧ d8 (m7 G deep) ds = some qs ∧ p.canLay0 = true ∧ PyData.canLayAll0 qs = true ∧ min (PyData.depthAll qs) p.depth ≤ 580 ∧ b = qs.any fun y => PyData.eqv y p := by
 unfold Js at h
 cases e1 : m7 G deep d with
 | none => rw [e1] at h; cases h
 | some p =>
  cases e2 : d8 (m7 G deep) ds with
  | none => rw [e1, e2] at h; cases h
  | some qs =>
   rw [e1, e2] at h
   dsimp only at h
   by_cases hc : (p.canLay0 && (PyData.canLayAll0 qs && decide (min (PyData.depthAll qs) p.depth ≤ 580))) = true
   ·rw [if_pos hc] at h
    simp only [Bool.and_eq_true, decide_eq_true_eq] at hc
    exact ⟨p, qs, rfl, rfl, hc.1, hc.2.1, hc.2.2, (Option.some.inj h).symm⟩
   ·rw [if_neg hc] at h; cases h
theorem Bg (hu : X.A.units + 600 < cLine) : pF X (compareOp .In) (rD X EE (Dz false)) := by
 intro pins s σ0 H x y v u Q I rx ry ⟨σ, τ, ρ, G, d, e, ab, r1, r2, ok⟩
 dsimp only [Dz] at ok
 cases q : bz G e with
 | none => rw [q] at ok; exact ok.elim
 | some sk =>
  rw [q] at ok
  cases sk with
  | lst ds =>
   dsimp only at ok
   cases qb : Js d ds G with
   | none => rw [qb] at ok; exact ok.elim
   | some b =>
    rw [qb] at ok
    obtain ⟨p, qs, e1, e2, h1, h2, h3, rfl⟩ := zI qb
    obtain ⟨l, xs, rfl, sq, rs⟩ := cS (pins := pins) (σ0 := σ0) (s := s) ab.hp r2 q
    cases ry
    obtain ⟨as, ra⟩ := fq I ab.hp deep d x v p r1 rx e1
    obtain ⟨bs, rb⟩ := K7 I ab.hp sq rs e2
    refine SeqAt.in_list_reads rb ra h2 h1 (by omega) ⟨.bl _, H, I, rfl, ?_⟩
    have := ok (.bl _) H ρ .refl ab (by unfold Rep; rfl)
    simpa using this
  | tup ds =>
   dsimp only at ok
   cases qb : Js d ds G with
   | none => rw [qb] at ok; exact ok.elim
   | some b =>
    rw [qb] at ok
    obtain ⟨p, qs, e1, e2, h1, h2, h3, rfl⟩ := zI qb
    obtain ⟨l, xs, rfl, sq, rs⟩ := jb r2 q
    cases ry
    obtain ⟨as, ra⟩ := fq I ab.hp deep d x v p r1 rx e1
    obtain ⟨bs, rb⟩ := K8 I ab.hp sq rs e2
    refine SeqAt.in_tuple_reads rb ra h2 h1 (by omega) ⟨.bl _, H, I, rfl, ?_⟩
    have := ok (.bl _) H ρ .refl ab (by unfold Rep; rfl)
    simpa using this
  | str j =>
   obtain ⟨rfl, rfl⟩ := n8 r2 q
   cases d with
   | str i =>
    unfold Rep at r1; subst r1
    refine Dm pins s σ0 H _ _ v u Q I rx ry ⟨i, j, rfl, rfl, ?_⟩
    have := ok (.bl _) H ρ .refl ab (by unfold Rep; rfl)
    simpa using this
   | _ => exact ok.elim
theorem MZ (hu : X.A.units + 600 < cLine) (ha : QE X EE a ma) (hb : QE X EE b mb) (hm : behindInMarks .In b = false := by first | rfl | (with_unfolding_all rfl)) : QE X EE (.Compare a [.In] [b] pos) (aF (Dz false) ma mb) := EO (Bg hu) kM ha hb hm
end
end L3
end
section
set_option Elab.async false
set_option linter.all false
set_option maxRecDepth 100000
namespace L3
open PySem PySem.Spec L2
section
variable {X : Cx} {EE : fk} {a b c : Expr} {ma mb mc : DS → M D} {pos : Pos}
noncomputable def dY (d e : D) : M D := fun G => match e with
 | .int i => match bz G d with
  | some (.lst xs) => match jQ xs i with
   | some v => .ok v G
   | none => .stuck
  | some (.tup xs) => match jQ xs i with
   | some v => .ok v G
   | none => .stuck
  | some (.str z) => if z.length ≤ sizeLine then (match jQ z.cps.toList i with
   | some c => .ok (.str ⟨#[c]⟩) G
   | none => .stuck) else .stuck
  | none => .stuck
 | _ => .stuck
theorem zJ {K : PySem.W.Frag} {mg : Str → Option Value} {ρ : List Addr} {H : Hp} {ds : List D} {vs : List V} {i : Int} {d : D} (r : au K mg ρ H ds vs) (h : jQ ds i = some d) : ∃ v, jQ vs i = some v ∧ Rep K mg ρ H d v := by
 unfold jQ at h ⊢
 rw [← r.length]
 cases e : Dr ds.length i with
 | none => rw [e] at h; cases h
 | some j =>
  rw [e] at h
  obtain ⟨v, e1, e2⟩ := r.get (show ds[j]? = some d from h)
  exact ⟨v, e1, e2⟩
theorem Qf : Me X (rD X EE dY) := by
 intro value slice pins s σ0 H x y v u Q I rx ry ⟨σ, τ, ρ, G, d, e, ab, r1, r2, ok⟩ hs
 cases e <;> try exact ok.elim
 rename_i i
 unfold Rep at r2; subst r2
 dsimp only [dY] at ok
 cases q : bz G d with
 | none => rw [q] at ok; exact ok.elim
 | some sk =>
  rw [q] at ok
  cases sk with
  | lst ds =>
   dsimp only at ok
   cases qa : jQ ds i with
   | none => rw [qa] at ok; exact ok.elim
   | some z =>
    rw [qa] at ok
    obtain ⟨l, xs, rfl, sq, rs⟩ := cS (pins := pins) (σ0 := σ0) (s := s) ab.hp r1 q
    obtain ⟨w, e1, e2⟩ := zJ rs qa
    exact HM value slice pins s σ0 H _ _ v u Q I rx ry ⟨l, xs, i, w, rfl, rfl, sq, e1, ok w H ρ .refl ab e2⟩ hs
  | tup ds =>
   dsimp only at ok
   cases qa : jQ ds i with
   | none => rw [qa] at ok; exact ok.elim
   | some z =>
    rw [qa] at ok
    obtain ⟨l, xs, rfl, sq, rs⟩ := jb r1 q
    obtain ⟨w, e1, e2⟩ := zJ rs qa
    exact KQ value slice pins s σ0 H _ _ v u Q I rx ry ⟨l, xs, i, w, rfl, rfl, sq, e1, ok w H ρ .refl ab e2⟩ hs
  | str z =>
   dsimp only at ok
   obtain ⟨rfl, rfl⟩ := n8 r1 q
   by_cases hz : z.length ≤ sizeLine
   ·rw [if_pos hz] at ok
    cases qa : jQ z.cps.toList i with
    | none => rw [qa] at ok; exact ok.elim
    | some c =>
     rw [qa] at ok
     exact KR value slice pins s σ0 H _ _ v u Q I rx ry ⟨z, i, c, rfl, rfl, hz, qa, ok _ H ρ .refl ab (by unfold Rep; rfl)⟩ hs
   ·rw [if_neg hz] at ok; exact ok.elim
theorem EW (ha : QE X EE a ma) (hb : QE X EE b mb) (hs : ua b := by intro _ _; rfl) : QE X EE (.Subscript a b pos) (aF dY ma mb) := MX Qf kM ha hb hs
noncomputable def zK : DS → M (Option Int) := fun _ => M.ret none
noncomputable def nc (m : DS → M D) : DS → M (Option Int) := fun τ => (m τ).bind fun d => match d with
 | .int i => M.ret (some i)
 | _ => M.stop
noncomputable def UB (K : PySem.W.Frag) (mg : Str → Option Value) (EE : fk) (H : Hp) (σ : L2.St) (τ : DS) (ρ : List Addr) : Out (Option Int) → (Option Int → Hp → Prop) → Prop
 | .stuck, _ => False
 | .ok b G', Q => ∀ H' ρ', eZ K H H' ρ ρ' → Ab K mg σ H' τ ρ' G' → Q b H'
 | .dF c G', _ => ∀ H' ρ', eZ K H H' ρ ρ' → Ab K mg σ H' τ ρ' G' → EE c σ H'
noncomputable def M0 (K : PySem.W.Frag) (mg : Str → Option Value) (EE : fk) (m : DS → M (Option Int)) : TO := fun σ H Q => ∃ τ ρ G, Ab K mg σ H τ ρ G ∧ UB K mg EE H σ τ ρ (m τ G) Q
noncomputable def QO (X : Cx) (EE : fk) (e : Option Expr) (m : DS → M (Option Int)) : Prop := PO X e (M0 X.K X.mg EE m)
theorem PO.mono {e : Option Expr} {t t' : TO} (h : PO X e t) (i : ∀ σ H Q, t' σ H Q → t σ H Q) : PO X e t' := fun pins s σ H Q I q => h pins s σ H Q I (i _ _ _ q)
theorem Cn : QO X EE none zK := PO.mono HJ fun σ H Q ⟨τ, ρ, G, ab, ok⟩ => ok H ρ .refl ab
theorem uf (ha : QE X EE a ma) : QO X EE (some a) (nc ma) := PO.mono (HK ha) fun σ H Q ⟨τ, ρ, G, ab, ok⟩ => by
 refine ⟨τ, ρ, G, ab, ?_⟩
 dsimp only [nc, M.bind] at ok
 cases e : ma τ G with
 | stuck => rw [e] at ok; exact ok
 | dF c G' => rw [e] at ok; exact ok
 | ok d G' =>
  rw [e] at ok
  intro v H' ρ' f cy r
  cases d <;> try exact ok.elim
  rename_i i
  unfold Rep at r
  exact ⟨i, r, ok H' ρ' f cy⟩
noncomputable def cutD (xs : List D) (lo hi : Option Int) : List D := (xs.drop (HT.gh xs.length 0 lo)).take (HT.gh xs.length xs.length hi - HT.gh xs.length 0 lo)
noncomputable def K9 (d : D) (lo hi : Option Int) : M D := fun G => match bz G d with
 | some (.lst xs) => bM (cutD xs lo hi) G
 | some (.tup xs) => if HT.gh xs.length 0 lo = 0 ∧ HT.gh xs.length xs.length hi = xs.length then .stuck else oH (cutD xs lo hi) G
 | some (.str z) => if z.length ≤ sizeLine then .ok (.str (Txt.slice z lo hi)) G else .stuck
 | none => .stuck
noncomputable def Jt (m : DS → M D) (ml mh : DS → M (Option Int)) : DS → M D := fun τ => (m τ).bind fun d => (ml τ).bind fun lo => (mh τ).bind fun hi => K9 d lo hi
noncomputable def Qg (X : Cx) (EE : fk) : V → Option Int → Option Int → Hp → VK → Prop := fun x lo hi H Q => ∃ σ τ ρ G d, Ab X.K X.mg σ H τ ρ G ∧ Rep X.K X.mg ρ H d x ∧ mW X.K X.mg EE H σ τ ρ (K9 d lo hi G) Q
theorem zL {K : PySem.W.Frag} {mg : Str → Option Value} {ρ : List Addr} {H : Hp} {ds : List D} {vs : List V} (r : au K mg ρ H ds vs) (lo hi : Option Int) : au K mg ρ H (cutD ds lo hi) (zC vs lo hi) := by
 unfold cutD zC
 rw [r.length]
 exact (r.drop _).take _
theorem n9 (x : Str) (l u : Option (Int × Tok)) (lo hi : Option Int) (hl : l.map (·.1) = lo) (hu : u.map (·.1) = hi) (t : Tok) (s : Shared) (Q : Value → Shared → Prop) (hz : x.length ≤ sizeLine)
  (h : ∀ t' k, Q (.str (Txt.slice x lo hi) t') { s with toks := k }) : (sliceMade x t l u none).post Q s := by
 subst hl hu
 cases l <;> cases u <;> exact post_val_or_str ⟨Nat.le_trans (Txt.slice_le x _ _) hz, fun t' k => h t' k⟩
theorem Qh : OX X (Qg X EE) := by
 intro pins s σ0 H x v vl vu lo hi sl Q I rx hs pl pu ⟨σ, τ, ρ, G, d, ab, r1, ok⟩
 dsimp only [K9] at ok
 cases q : bz G d with
 | none => rw [q] at ok; exact ok.elim
 | some sk =>
  rw [q] at ok
  cases sk with
  | lst ds =>
   obtain ⟨l, xs, rfl, sq, rs⟩ := cS (pins := pins) (σ0 := σ0) (s := s) ab.hp r1 q
   exact HN pins s σ0 H _ v vl vu lo hi sl Q I rx hs pl pu ⟨l, xs, rfl, sq, (m8 ab (zL rs lo hi) ok).2⟩
  | tup ds =>
   obtain ⟨l, xs, rfl, sq, rs⟩ := jb r1 q
   dsimp only at ok
   by_cases hw : HT.gh ds.length 0 lo = 0 ∧ HT.gh ds.length ds.length hi = ds.length
   ·rw [if_pos hw] at ok; exact ok.elim
   ·rw [if_neg hw] at ok
    refine KP pins s σ0 H _ v vl vu lo hi sl Q I rx hs pl pu ⟨l, xs, rfl, sq, ?_, (yc ab (zL rs lo hi) ok).2⟩
    rw [← rs.length]; exact hw
  | str z =>
   obtain ⟨rfl, rfl⟩ := n8 r1 q
   dsimp only at ok
   by_cases hz : z.length ≤ sizeLine
   ·rw [if_pos hz] at ok
    obtain ⟨t, rfl⟩ := rx
    refine ⟨"str", _, F.slot_str_getitem.lookup, typeIs_str _ _ _, ?_⟩
    obtain ⟨o, e1, e2, e3⟩ := hs
    refine kL I.os.2 ?_
    have fin : ∀ t' k, 0 < k → EP X pins σ0 Q (.str (Txt.slice z lo hi) t') { s with toks := k } := fun t' k ht => ⟨.str _, H, I.tok k, ⟨t', rfl⟩, ok _ H ρ .refl ab (by unfold Rep; rfl)⟩
    cases pl with
    | none =>
     cases pu with
     | none => exact wpAny_getItem_str_slice (l := none) (u := none) (st := none) ⟨o, e1, e2, e3⟩ rfl (n9 z none none none none rfl rfl t s _ hz fin)
     | int j tj => exact wpAny_getItem_str_slice (l := none) (u := some (j, tj)) (st := none) ⟨o, e1, e2, e3⟩ rfl (n9 z none (some (j, tj)) none (some j) rfl rfl t s _ hz fin)
    | int i ti =>
     cases pu with
     | none => exact wpAny_getItem_str_slice (l := some (i, ti)) (u := none) (st := none) ⟨o, e1, e2, e3⟩ rfl (n9 z (some (i, ti)) none (some i) none rfl rfl t s _ hz fin)
     | int j tj => exact wpAny_getItem_str_slice (l := some (i, ti)) (u := some (j, tj)) (st := none) ⟨o, e1, e2, e3⟩ rfl (n9 z (some (i, ti)) (some (j, tj)) (some i) (some j) rfl rfl t s _ hz fin)
   ·rw [if_neg hz] at ok; exact ok.elim
theorem uD {lo hi : Option Expr} {ml mh : DS → M (Option Int)} {p2 : Pos} (ha : QE X EE a ma) (hl : QO X EE lo ml) (hh : QO X EE hi mh) : QE X EE (.Subscript a (.Slice lo hi none p2) pos) (Jt ma ml mh) :=
 PE.mono (EI Qh ha hl hh) fun σ H Q ⟨τ, ρ, G, ab, ok⟩ => by
  refine ⟨τ, ρ, G, ab, ?_⟩
  dsimp only [Jt, M.bind] at ok
  cases e1 : ma τ G with
  | stuck => rw [e1] at ok; exact ok
  | dF c G' => rw [e1] at ok; exact ok
  | ok d G1 =>
   rw [e1] at ok
   dsimp only at ok
   intro v H1 ρ1 f1 qv r1
   refine ⟨τ, ρ1, G1, qv, ?_⟩
   cases e2 : ml τ G1 with
   | stuck => rw [e2] at ok; exact ok
   | dF c G' => rw [e2] at ok; exact fun H' ρ' f' => ok H' ρ' (f1.trans f')
   | ok l G2 =>
    rw [e2] at ok
    dsimp only at ok
    intro H2 ρ2 f2 dj
    refine ⟨τ, ρ2, G2, dj, ?_⟩
    cases e3 : mh τ G2 with
    | stuck => rw [e3] at ok; exact ok
    | dF c G' => rw [e3] at ok; exact fun H' ρ' f' => ok H' ρ' ((f1.trans f2).trans f')
    | ok u G3 =>
     rw [e3] at ok
     dsimp only at ok
     intro H3 ρ3 f3 zG
     exact ⟨σ, τ, ρ3, G3, d, zG, r1.mono (f2.trans f3), ok.fut ((f1.trans f2).trans f3)⟩
noncomputable def xh (ma mb : DS → M Bool) : DS → M Bool := fun τ => (ma τ).bind fun c => if c then mb τ else M.ret false
noncomputable def EX (ma mb : DS → M Bool) : DS → M Bool := fun τ => (ma τ).bind fun c => if c then M.ret true else mb τ
noncomputable def Co (ma : DS → M Bool) : DS → M Bool := fun τ => (ma τ).bind fun c => M.ret (!c)
variable {ta tb tc : DS → M Bool} {rest : List Expr}
theorem EY {σ : L2.St} {H : Hp} {Q : Bool → Hp → Prop} (h : liftT X.K X.mg EE (xh ta tb) σ H Q) : Mr (liftT X.K X.mg EE ta) (liftT X.K X.mg EE tb) σ H Q := by
 obtain ⟨τ, ρ, G, ab, ok⟩ := Be (k := fun τ c => if c then tb τ else M.ret false) h
 refine ⟨τ, ρ, G, ab, ?_⟩
 cases e : ta τ G with
 | stuck => rw [e] at ok; exact ok
 | dF c G' => rw [e] at ok; exact ok
 | ok k G' =>
  rw [e] at ok
  intro H' ρ' f' cy
  obtain ⟨τ2, ρ2, G2, dj, aK⟩ := ok H' ρ' f' cy
  cases k with
  | true => exact ⟨τ2, ρ2, G2, dj, aK⟩
  | false => exact aK H' ρ2 .refl dj
theorem Ic {σ : L2.St} {H : Hp} {Q : Bool → Hp → Prop} (h : liftT X.K X.mg EE (EX ta tb) σ H Q) : Sk (liftT X.K X.mg EE ta) (liftT X.K X.mg EE tb) σ H Q := by
 obtain ⟨τ, ρ, G, ab, ok⟩ := Be (k := fun τ c => if c then M.ret true else tb τ) h
 refine ⟨τ, ρ, G, ab, ?_⟩
 cases e : ta τ G with
 | stuck => rw [e] at ok; exact ok
 | dF c G' => rw [e] at ok; exact ok
 | ok k G' =>
  rw [e] at ok
  intro H' ρ' f' cy
  obtain ⟨τ2, ρ2, G2, dj, aK⟩ := ok H' ρ' f' cy
  cases k with
  | false => exact ⟨τ2, ρ2, G2, dj, aK⟩
  | true => exact aK H' ρ2 .refl dj
theorem PW.mono {e : Expr} {t t' : TT} (h : PW X e t) (i : ∀ σ H Q, t' σ H Q → t σ H Q) : PW X e t' := fun wh pins s σ H Q I q => h wh pins s σ H Q I (i _ _ _ q)
theorem Cp (ha : QT X EE a ta) : QW X EE (.BoolOp .And [a] pos) ta := Hv ha
theorem EZ (ha : QT X EE a ta) : QW X EE (.BoolOp .Or [a] pos) ta := J9 ha
theorem E0 (ha : QT X EE a ta) (hb : QW X EE (.BoolOp .And (b :: rest) pos) tb) : QW X EE (.BoolOp .And (a :: b :: rest) pos) (xh ta tb) := PW.mono (Ka ha hb) fun _ _ _ h => EY h
theorem Ju (ha : QT X EE a ta) (hb : QW X EE (.BoolOp .Or (b :: rest) pos) tb) : QW X EE (.BoolOp .Or (a :: b :: rest) pos) (EX ta tb) := PW.mono (Ms ha hb) fun _ _ _ h => Ic h
theorem Ie {e : Expr} (h : QW X EE e ta) : QT X EE e ta := h.pt
theorem E3 (ha : QT X EE a ta) : QT X EE (.UnaryOp .Not a pos) (Co ta) := PT.mono (Kc ha) fun σ H Q h => by
 obtain ⟨τ, ρ, G, ab, ok⟩ := Be (k := fun τ c => M.ret (!c)) h
 refine ⟨τ, ρ, G, ab, ?_⟩
 cases e : ta τ G with
 | stuck => rw [e] at ok; exact ok
 | dF c G' => rw [e] at ok; exact ok
 | ok k G' =>
  rw [e] at ok
  intro H' ρ' f' cy
  obtain ⟨τ2, ρ2, G2, dj, aK⟩ := ok H' ρ' f' cy
  exact aK H' ρ2 .refl dj
noncomputable def kJ (m : DS → M D) : DS → M Bool := fun τ => (m τ).bind fun d => match d with
 | .bl b => M.ret b
 | _ => M.stop
theorem Ig {m : DS → M D} {σ : L2.St} {H : Hp} {Q : Bool → Hp → Prop} (h : liftT X.K X.mg EE (kJ m) σ H Q) : dI X.K X.mg EE m σ H fun x H1 => ∃ c, x = .bl c ∧ Q c H1 := by
 obtain ⟨τ, ρ, G, ab, ok⟩ := EL (k := fun _ d => match d with | .bl b => M.ret b | _ => M.stop) h
 refine ⟨τ, ρ, G, ab, ?_⟩
 cases e : m τ G with
 | stuck => rw [e] at ok; exact ok
 | dF c G' => rw [e] at ok; exact ok
 | ok d G' =>
  rw [e] at ok
  intro v H' ρ' f' cy r'
  obtain ⟨τ2, ρ2, G2, d2, dj, r2, aK⟩ := ok v H' ρ' f' cy r'
  cases d2 <;> try exact aK.elim
  rename_i k
  unfold Rep at r2
  exact ⟨k, r2, aK H' ρ2 .refl dj⟩
theorem La {op : CmpOp} {f : D → D → M D} (ho : pF X (compareOp op) (rD X EE f)) (ha : QE X EE a ma) (hb : QE X EE b mb) (hm : behindInMarks op b = false) : QT X EE (.Compare a [op] [b] pos) (kJ (aF f ma mb)) :=
 PT.mono (HE ho ha hb hm) fun σ H Q h => by
  have h1 := Ig h
  exact ud kM h1
theorem M3 {f : D → D → M D} {g : Value → Value → Sem Value} {r : R2} (ho : pF X g r) (hd : Ia X EE r f) : pF X g (rD X EE f) := fun pins s σ H x y v u Q I rx ry q => ho pins s σ H x y v u Q I rx ry (MY hd q)
theorem rX : pF X (compareOp .Gt) (rD X EE xg) := M3 MF (zH fun _ _ _ _ => by unfold Rep; rfl)
noncomputable def DA (ma mb : DS → M D) : DS → M D := fun τ => (ma τ).bind fun d => match d with
 | .bl true => mb τ
 | .bl false => M.ret (.bl false)
 | _ => M.stop
theorem Lb {op} (h : QE X EE a ma) : QE X EE (.BoolOp op [a] pos) ma := Kd h
theorem E4 (ha : QE X EE a ma) (hb : QE X EE (.BoolOp .And (b :: rest) pos) mb) : QE X EE (.BoolOp .And (a :: b :: rest) pos) (DA ma mb) := PE.mono (Ke ha hb) fun σ H Q h => by
 obtain ⟨τ, ρ, G, ab, ok⟩ := jk (k := fun τ d => match d with | .bl true => mb τ | .bl false => M.ret (.bl false) | _ => M.stop) h
 refine ⟨τ, ρ, G, ab, ?_⟩
 cases e : ma τ G with
 | stuck => rw [e] at ok; exact ok
 | dF c G' => rw [e] at ok; exact ok
 | ok k G' =>
  rw [e] at ok
  intro v H' ρ' f' cy r'
  obtain ⟨τ2, ρ2, G2, d2, dj, r2, aK⟩ := ok v H' ρ' f' cy r'
  cases d2 <;> try exact aK.elim
  rename_i k
  unfold Rep at r2
  refine ⟨k, r2, ?_⟩
  cases k with
  | true => exact ⟨τ2, ρ2, G2, dj, aK⟩
  | false => exact aK _ H' ρ2 .refl dj (by unfold Rep; rfl)
noncomputable def E5 (ma : DS → M D) : DS → M D := fun τ => (ma τ).bind fun d => match d with
 | .int i => M.ret (.int (-i))
 | _ => M.stop
theorem E6 (ha : QE X EE a ma) : QE X EE (.UnaryOp .USub a pos) (E5 ma) := PE.mono (MD Kz ha) fun σ H Q h => by
 obtain ⟨τ, ρ, G, ab, ok⟩ := jk (k := fun τ d => match d with | .int i => M.ret (.int (-i)) | _ => M.stop) h
 refine ⟨τ, ρ, G, ab, ?_⟩
 cases e : ma τ G with
 | stuck => rw [e] at ok; exact ok
 | dF c G' => rw [e] at ok; exact ok
 | ok k G' =>
  rw [e] at ok
  intro v H' ρ' f' cy r'
  obtain ⟨τ2, ρ2, G2, d2, dj, r2, aK⟩ := ok v H' ρ' f' cy r'
  cases d2 <;> try exact aK.elim
  rename_i k
  unfold Rep at r2
  exact ⟨k, r2, aK _ H' ρ2 .refl dj (by unfold Rep; rfl)⟩
end
end L3
end
section
set_option Elab.async false
set_option linter.all false
set_option maxRecDepth 100000
namespace L3
open PySem PySem.Spec L2
section
variable {X : Cx} {EE : fk} {a b c : Expr} {ma mb mc : DS → M D} {pos : Pos} {ta tb tc : DS → M Bool} {ms mt : MS}
noncomputable def cP : MS := fun τ G => .nx τ G
noncomputable def bh (m k : MS) : MS := fun τ G => match m τ G with
 | .nx τ' G' => k τ' G'
 | r => r
theorem cY : A1 X EE [] cP := A3.mono Hw fun D σ H ⟨τ, ρ, G, ab, ok⟩ => ok σ H ρ .refl ab
theorem zM {Dd : Ends} {σ : L2.St} {H : Hp} (h : jj X.K X.mg EE (bh ms mt) Dd σ H) : Mv (jj X.K X.mg EE ms) (jj X.K X.mg EE mt) Dd σ H := by
 obtain ⟨τ, ρ, G, ab, ok⟩ := h
 refine ⟨τ, ρ, G, ab, ?_⟩
 dsimp only [bh] at ok
 cases e : ms τ G with
 | nx τ' G' => rw [e] at ok; exact fun σ' H' ρ' f cy => ⟨τ', ρ', G', cy, ok.fut f⟩
 | stuck => rw [e] at ok; exact ok
 | rt d G => rw [e] at ok; exact ok
 | bk τ G => rw [e] at ok; exact ok
 | ct τ G => rw [e] at ok; exact ok
 | xn c τ G => rw [e] at ok; exact ok
theorem ak {st : Stmt} {rest : List Stmt} (h1 : QS X EE st ms) (h2 : A1 X EE rest mt) : A1 X EE (st :: rest) (bh ms mt) := A3.mono (Ey h1 h2) fun _ _ _ h => zM h
theorem av {st : Stmt} (h1 : QS X EE st ms) : A1 X EE [st] ms := Hx h1
noncomputable def fX (m : DS → M D) : MS := fun τ => cO (m τ) (fun _ G => .nx τ G) fun c G => .xn c τ G
noncomputable def gi (m : DS → M D) : MS := fun τ => cO (m τ) (fun d G => .rt d G) fun c G => .xn c τ G
noncomputable def bC (i : Nat) (m : DS → M D) : MS := fun τ => cO (m τ) (fun d G => .nx (τ.set i (some d)) G) fun c G => .xn c τ G
noncomputable def oh (t : DS → M Bool) (ma mb : MS) : MS := fun τ => cO (t τ) (fun c G => if c then ma τ G else mb τ G) fun c G => .xn c τ G
theorem Ih (he : QE X EE a ma) (hs : swapsWith a none pos.line X.env = pure false := by rfl) : QS X EE (.Expr a pos) (fX ma) := PS.mono (Hy he hs) fun D σ H h => by
 obtain ⟨τ, ρ, G, ab, ok⟩ := rW (k := fun τ d G => .nx τ G) h
 refine ⟨τ, ρ, G, ab, ?_⟩
 cases e : ma τ G with
 | stuck => rw [e] at ok; exact ok
 | dF c G' => rw [e] at ok; exact ok
 | ok d G' =>
  rw [e] at ok
  intro v H' ρ' f' cy r'
  obtain ⟨τ2, ρ2, G2, d2, dj, r2, aK⟩ := ok v H' ρ' f' cy r'
  exact aK σ H' ρ2 .refl dj
theorem cI (he : QE X EE a ma) : QS X EE (.Return (some a) pos) (gi ma) := PS.mono (Kf he) fun D σ H h => by
 obtain ⟨τ, ρ, G, ab, ok⟩ := rW (k := fun τ d G => .rt d G) h
 refine ⟨τ, ρ, G, ab, ?_⟩
 cases e : ma τ G with
 | stuck => rw [e] at ok; exact ok
 | dF c G' => rw [e] at ok; exact ok
 | ok d G' =>
  rw [e] at ok
  intro v H' ρ' f' cy r'
  obtain ⟨τ2, ρ2, G2, d2, dj, r2, aK⟩ := ok v H' ρ' f' cy r'
  exact aK v H' ρ2 .refl dj.hp r2
theorem Ab.set {K : PySem.W.Frag} {mg : Str → Option Value} {σ : L2.St} {H : Hp} {τ : DS} {ρ : List Addr} {G : DH} {i : Nat} {d : D} {v : V} (ab : Ab K mg σ H τ ρ G) (r : Rep K mg ρ H d v) : Ab K mg (σ.set i (some v)) H (τ.set i (some d)) ρ G := ⟨ab.st.set r, ab.hp⟩
theorem Lc {i : Nat} {x : Str} {pos' : Pos} (hN : X.N.Nodup) (he : QE X EE a ma) (hi : X.N[i]? = some x := by rfl) (hx : Loc X.env.scope x := by first | exact Or.inl rfl | exact Or.inr rfl)
  (hs : swapsWith a (some (.Name x pos')) pos.line X.env = pure false := by rfl) (hf : X.fn x = true ∨ X.env.scope.names.lookup x = some .local := by first | exact .inl rfl | exact .inr rfl | assumption) :
  QS X EE (.Assign [.Name x pos'] a pos) (bC i ma) := PS.mono (Kn hN hi hx he hs hf) fun D σ H h => by
 obtain ⟨τ, ρ, G, ab, ok⟩ := rW (k := fun τ d G => .nx (τ.set i (some d)) G) h
 refine ⟨τ, ρ, G, ab, ?_⟩
 cases e : ma τ G with
 | stuck => rw [e] at ok; exact ok
 | dF c G' => rw [e] at ok; exact ok
 | ok d G' =>
  rw [e] at ok
  intro v H' ρ' f' cy r'
  obtain ⟨τ2, ρ2, G2, d2, dj, r2, aK⟩ := ok v H' ρ' f' cy r'
  exact aK _ H' ρ2 .refl (dj.set r2)
theorem gw {body els : List Stmt} (hc : QT X EE c tc) (ha : A1 X EE body ms) (hb : A1 X EE els mt) : QS X EE (.If c body els pos) (oh tc ms mt) := PS.mono (Mx hc ha hb) fun D σ H h => by
 obtain ⟨τ, ρ, G, ab, ok⟩ := EM (k := fun τ c G => if c then ms τ G else mt τ G) h
 refine ⟨τ, ρ, G, ab, ?_⟩
 cases e : tc τ G with
 | stuck => rw [e] at ok; exact ok
 | dF c G' => rw [e] at ok; exact ok
 | ok k G' =>
  rw [e] at ok
  intro H' ρ' f' cy
  obtain ⟨τ2, ρ2, G2, dj, aK⟩ := ok H' ρ' f' cy
  cases k with
  | true => exact ⟨τ2, ρ2, G2, dj, aK⟩
  | false => exact ⟨τ2, ρ2, G2, dj, aK⟩
noncomputable abbrev ng := D → DS → Option DS
noncomputable def zN (K : PySem.W.Frag) (mg : Str → Option Value) (g : ng) : TG := fun v σ H Q => ∃ τ ρ G d τ', Ab K mg σ H τ ρ G ∧ Rep K mg ρ H d v ∧ g d τ = some τ' ∧ ∀ σ', Ab K mg σ' H τ' ρ G → Q σ' H
noncomputable def QG (X : Cx) (e : Expr) (g : ng) : Prop := PG X e (zN X.K X.mg g)
noncomputable def gN (i : Nat) : ng := fun d τ => some (τ.set i (some d))
theorem Ii {i : Nat} {x : Str} (hN : X.N.Nodup) (hi : X.N[i]? = some x := by rfl) (hx : Loc X.env.scope x := by first | exact Or.inl rfl | exact Or.inr rfl) (hf : X.fn x = true ∨ X.env.scope.names.lookup x = some .local := by first | exact .inl rfl | exact .inr rfl | assumption) :
  QG X (.Name x pos) (gN i) := fun pins s σ H v u Q I r ⟨τ, ρ, G, d, τ', ab, rd, e, q⟩ => xV hN hi hx hf pins s σ H v u Q I r (by
 cases e
 exact q _ (ab.set rd))
noncomputable def cJ (g : ng) (body : MS) : List D → MS
 | [], τ, G => .nx τ G
 | d :: r, τ, G => match g d τ with
  | none => .stuck
  | some τ1 => match body τ1 G with
   | .nx τ' G' => cJ g body r τ' G'
   | .ct τ' G' => cJ g body r τ' G'
   | .bk τ' G' => .nx τ' G'
   | x => x
noncomputable def ye (g : ng) (body : MS) (n : Nat) : Nat → Nat → MS
 | 0, _, _, _ => .stuck
 | f + 1, k, τ, G => match G[n]? with
  | some (.lst xs) => match xs[k]? with
   | none => .nx τ G
   | some d => match g d τ with
    | none => .stuck
    | some τ1 => match body τ1 G with
     | .nx τ' G' => ye g body n f (k + 1) τ' G'
     | .ct τ' G' => ye g body n f (k + 1) τ' G'
     | .bk τ' G' => .nx τ' G'
     | x => x
  | _ => .stuck
end
end L3
end
section
set_option Elab.async false
set_option linter.all false
set_option maxRecDepth 100000
namespace L3
open PySem PySem.Spec L2
noncomputable def Ij (z : Str) : It := ⟨fun i _ => i < z.cps.size, fun i H x H' => H' = H ∧ ∃ c, z.cps[i]? = some c ∧ x = .str ⟨#[c]⟩, fun i _ => z.cps.size ≤ i⟩
theorem E7 {P : Program} {w : World} {K : PySem.W.Frag} {tg : Expr} (z : Str) (t : Tok) (it : Addr) : Turn P w K tg (Ij z) [it] it (fun i h => h.IsStrIter it (strIterType z) z t i) where
 mem := by simp
 obj := fun i h st b hb => by
  have e : b = it := by simpa using hb
  subst e
  obtain ⟨o, e, c, d⟩ := st
  exact ⟨o, e, fun v z => by rw [d] at z; cases z⟩
 keep := fun i h h' st k => by
  obtain ⟨o, e, r⟩ := st
  exact ⟨o, k it (by simp) o e, r⟩
 item := by
  intro X hP hw hK hc i pins s σ H E I hf st hg
  subst hP hw hK
  obtain ⟨f0, f1, f2, f3, f4, f5⟩ := hf it (by simp)
  have hx : z.cps[i]? = some z.cps[i] := Array.getElem?_eq_getElem hg
  have fin : ∀ h', h'.IsStrIter it (strIterType z) z t (i + 1) → Heap.SameBut it s.heap h' → ∃ u, some (Value.str ⟨#[z.cps[i]]⟩ s.toks) = some u ∧
   wpAny (model X.prog X.w) X.A (letOwnedTupleGo tg (.ref it) u) (fun _ s2 => ∃ x H', Inv X pins σ H' s2 ∧ RelV x u ∧ (Ij z).xW i H x H' ∧ s2.heap.IsStrIter it (strIterType z) z t (i + 1) ∧ ∀ b ∈ [it], H' b = none) E { s with heap := h', toks := s.toks + 1 } := fun h' st' sb => by
   have I1 : Inv X pins σ H { s with heap := h', toks := s.toks + 1 } := I.turned (t' := s.toks + 1) (fun b o hb e => (sb.2 b hb).trans e) f0 f1 f3 f4 f5
   obtain ⟨o, e, c, d⟩ := id st'
   refine ⟨_, rfl, wN (s := { s with heap := h', toks := s.toks + 1 }) e c d ?_ ⟨.str ⟨#[z.cps[i]]⟩, H, I1, ⟨_, rfl⟩, ⟨rfl, _, hx, rfl⟩, st', fun b hb => (hf b hb).1⟩⟩
   unfold strIterType
   split <;> decide
  cases ha : z.cps.all (· < 128) with
  | true =>
   have e : strIterType z = "str_ascii_iterator" := by unfold strIterType; rw [ha]; rfl
   rw [e] at st fin
   exact wpAny_pyNext_ascii_item st hx fun h' st' sb => by rw [e]; exact fin h' st' sb
  | false =>
   have e : strIterType z = "str_iterator" := by unfold strIterType; rw [ha]; rfl
   rw [e] at st fin
   exact wpAny_pyNext_wide_item st hx fun h' st' sb => by rw [e]; exact fin h' st' sb
 done := by
  intro X hP hw hK hc i pins s σ H E I hf st hg
  subst hP hw hK
  obtain ⟨f0, f1, f2, f3, f4, f5⟩ := hf it (by simp)
  have hx : z.cps[i]? = none := Array.getElem?_eq_none hg
  have fin : ∀ h', Heap.ExtBut it s.heap h' → (none : Option Value) = none ∧ Inv X pins σ H { s with heap := h' } := fun h' eb => ⟨rfl, I.turned (t' := s.toks) (fun b o hb e => eb b o hb e) f0 f1 f3 f4 f5⟩
  cases ha : z.cps.all (· < 128) with
  | true =>
   have e : strIterType z = "str_ascii_iterator" := by unfold strIterType; rw [ha]; rfl
   rw [e] at st
   exact wpAny_pyNext_ascii_end (I.ok.hd hc) st hx fin
  | false =>
   have e : strIterType z = "str_iterator" := by unfold strIterType; rw [ha]; rfl
   rw [e] at st
   exact wpAny_pyNext_wide_end (I.ok.hd hc) st hx fin
 self := fun A i s Q E st h => by
  cases ha : z.cps.all (· < 128) with
  | true =>
   have e : strIterType z = "str_ascii_iterator" := by unfold strIterType; rw [ha]; rfl
   rw [e] at st
   exact wpAny_pyIter_striter_ascii st h
  | false =>
   have e : strIterType z = "str_iterator" := by unfold strIterType; rw [ha]; rfl
   rw [e] at st
   exact wpAny_pyIter_striter_wide st h
section
variable {X : Cx} {EE : fk} {a b c tg : Expr} {ma mb mc : DS → M D} {pos : Pos} {ms mt : MS}
noncomputable def uE (g : ng) (m : DS → M D) (body : MS) : MS := fun τ => cO (m τ) (fun d G => match d with
 | .obj n => match G[n]? with
  | some (.lst xs) => ye g body n (xs.length + 1) 0 τ G
  | _ => .stuck
 | .tup xs => cJ g body xs τ G
 | .con xs => cJ g body xs τ G
 | .str z => cJ g body (z.cps.toList.map fun c => .str ⟨#[c]⟩) τ G
 | _ => .stuck) fun c G => .xn c τ G
theorem oi {g : ng} {body : MS} {Dd : Ends} {J : It} {H0 : Hp} {σ0 : L2.St} {ρ0 : List Addr} {G0 : DH} {τ0 : DS} (ds : List D)
  (go : ∀ i H ρ, i < ds.length → eZ X.K H0 H ρ0 ρ → J.go i H) (stop : ∀ i H ρ, ds.length ≤ i → eZ X.K H0 H ρ0 ρ → J.stop i H)
  (xW : ∀ i d H ρ x H', ds[i]? = some d → eZ X.K H0 H ρ0 ρ → J.xW i H x H' → H' = H ∧ Rep X.K X.mg ρ H d x)
  (ab : Ab X.K X.mg σ0 H0 τ0 ρ0 G0) (ok : w9 X.K X.mg EE H0 ρ0 Dd (cJ g body ds τ0 G0)) :
  ∃ W : Nat → Nat → L2.St → Hp → Prop, (∃ m, W 0 m σ0 H0) ∧ ∀ i m σ H, W i m σ H →
   (J.stop i H ∧ Dd.nx σ H) ∨ (J.go i H ∧ ∃ N : L2.St → Hp → Prop, (∀ σ' H', N σ' H' → ∃ m', m' < m ∧ W (i + 1) m' σ' H') ∧ ∀ x H', J.xW i H x H' → zN X.K X.mg g x σ H' fun σ2 H2 => jj X.K X.mg EE body { Dd with nx := N, ct := N, bk := Dd.nx } σ2 H2) := by
 refine ⟨fun i m σ H => i ≤ ds.length ∧ m = ds.length - i ∧ ∃ τ ρ G, Ab X.K X.mg σ H τ ρ G ∧ eZ X.K H0 H ρ0 ρ ∧ w9 X.K X.mg EE H ρ Dd (cJ g body (ds.drop i) τ G), ⟨ds.length, Nat.zero_le _, rfl, τ0, ρ0, G0, ab, .refl, by simpa using ok⟩, ?_⟩
 rintro i m σ H ⟨hi, rfl, τ, ρ, G, ab, f, ok⟩
 by_cases hlt : i < ds.length
 ·refine .inr ⟨go i H ρ hlt f, fun σ' H' => ∃ τ' ρ' G', Ab X.K X.mg σ' H' τ' ρ' G' ∧ eZ X.K H0 H' ρ0 ρ' ∧ w9 X.K X.mg EE H' ρ' Dd (cJ g body (ds.drop (i + 1)) τ' G'), fun σ' H' n => ⟨ds.length - (i + 1), by omega, hlt, rfl, n⟩, fun x H' y => ?_⟩
  obtain ⟨rfl, rx⟩ := xW i ds[i] H ρ x H' (List.getElem?_eq_getElem hlt) f y
  rw [List.drop_eq_getElem_cons hlt] at ok
  unfold cJ at ok
  cases e : g ds[i] τ with
  | none => rw [e] at ok; exact ok.elim
  | some τ1 =>
   rw [e] at ok
   dsimp only at ok
   refine ⟨τ, ρ, G, ds[i], τ1, ab, rx, e, fun σ' cy => ⟨τ1, ρ, G, cy, ?_⟩⟩
   cases eb : body τ1 G with
   | stuck => rw [eb] at ok; exact ok
   | nx τ2 G2 => rw [eb] at ok; exact fun σ2 H2 ρ2 f2 dj => ⟨τ2, ρ2, G2, dj, f.trans f2, ok.fut f2⟩
   | ct τ2 G2 => rw [eb] at ok; exact fun σ2 H2 ρ2 f2 dj => ⟨τ2, ρ2, G2, dj, f.trans f2, ok.fut f2⟩
   | bk τ2 G2 => rw [eb] at ok; exact ok
   | rt d G2 => rw [eb] at ok; exact ok
   | xn c τ2 G2 => rw [eb] at ok; exact ok
 ·have e : i = ds.length := by omega
  subst e
  refine .inl ⟨stop _ H ρ (Nat.le_refl _) f, ?_⟩
  rw [List.drop_eq_nil_of_le (Nat.le_refl _)] at ok
  exact ok σ H ρ .refl ab
theorem Ik {g : ng} {body : MS} {Dd : Ends} {H0 : Hp} {σ0 : L2.St} {ρ0 : List Addr} {G0 : DH} {τ0 : DS} {n : Nat} {p : Addr} {fuel : Nat} (hn : ρ0[n]? = some p)
  (ab : Ab X.K X.mg σ0 H0 τ0 ρ0 G0) (ok : w9 X.K X.mg EE H0 ρ0 Dd (ye g body n fuel 0 τ0 G0)) :
  ∃ W : Nat → Nat → L2.St → Hp → Prop, (∃ m, W 0 m σ0 H0) ∧ ∀ i m σ H, W i m σ H →
   ((Hg X.K p).stop i H ∧ Dd.nx σ H) ∨ ((Hg X.K p).go i H ∧ ∃ N : L2.St → Hp → Prop, (∀ σ' H', N σ' H' → ∃ m', m' < m ∧ W (i + 1) m' σ' H') ∧ ∀ x H', (Hg X.K p).xW i H x H' → zN X.K X.mg g x σ H' fun σ2 H2 => jj X.K X.mg EE body { Dd with nx := N, ct := N, bk := Dd.nx } σ2 H2) := by
 refine ⟨fun i m σ H => ∃ τ ρ G, Ab X.K X.mg σ H τ ρ G ∧ eZ X.K H0 H ρ0 ρ ∧ w9 X.K X.mg EE H ρ Dd (ye g body n m i τ G), ⟨fuel, τ0, ρ0, G0, ab, .refl, ok⟩, ?_⟩
 rintro i m σ H ⟨τ, ρ, G, ab, f, ok⟩
 cases m with
 | zero => exact ok.elim
 | succ m =>
  unfold ye at ok
  cases q : G[n]? with
  | none => rw [q] at ok; exact ok.elim
  | some o =>
   cases o with
   | dead => first | (rw [q] at ok; exact ok.elim) | (rw [q] at aK; exact aK.elim) | (rw [q] at e; cases e; done) | (rw [g] at ok; exact ok.elim) | (rw [g] at q; cases q; done) | (rw [g] at h; cases h; done) | (rw [g2] at ok; exact ok.elim) | (rw [g1, g2] at ok; exact ok.elim) | (rw [q1] at ok; exact ok.elim) | exact ok.elim
   | dct kv => first | (rw [q] at ok; exact ok.elim) | (rw [q] at aK; exact aK.elim) | (rw [q] at e; cases e; done) | (rw [g] at ok; exact ok.elim) | (rw [g] at q; cases q; done) | (rw [g] at h; cases h; done) | (rw [g2] at ok; exact ok.elim) | (rw [g1, g2] at ok; exact ok.elim) | (rw [q1] at ok; exact ok.elim) | exact ok.elim
   | lst ds =>
    rw [q] at ok
    dsimp only at ok
    obtain ⟨p', xs, e1, e2, rs⟩ := ab.hp.lst q
    rw [f.get hn] at e1; cases e1
    cases qd : ds[i]? with
    | none =>
     rw [qd] at ok
     have hl : xs.length ≤ i := by rw [← rs.length]; exact List.getElem?_eq_none_iff.mp qd
     exact .inl ⟨⟨xs, .of e2, hl⟩, ok σ H ρ .refl ab⟩
    | some d =>
     rw [qd] at ok
     dsimp only at ok
     obtain ⟨x0, ex, rx⟩ := rs.get qd
     refine .inr ⟨⟨xs, x0, .of e2, ex⟩, fun σ' H' => ∃ τ' ρ' G', Ab X.K X.mg σ' H' τ' ρ' G' ∧ eZ X.K H0 H' ρ0 ρ' ∧ w9 X.K X.mg EE H' ρ' Dd (ye g body n m (i + 1) τ' G'), fun σ' H' z => ⟨m, Nat.lt_succ_self _, z⟩, fun x H' y => ?_⟩
     obtain ⟨rfl, y⟩ := y
     have e3 := y xs (.of e2)
     rw [ex] at e3; cases e3
     cases e : g d τ with
     | none => rw [e] at ok; exact ok.elim
     | some τ1 =>
      rw [e] at ok
      dsimp only at ok
      refine ⟨τ, ρ, G, d, τ1, ab, rx, e, fun σ' cy => ⟨τ1, ρ, G, cy, ?_⟩⟩
      cases eb : body τ1 G with
      | stuck => rw [eb] at ok; exact ok
      | nx τ2 G2 => rw [eb] at ok; exact fun σ2 H2 ρ2 f2 dj => ⟨τ2, ρ2, G2, dj, f.trans f2, ok.fut f2⟩
      | ct τ2 G2 => rw [eb] at ok; exact fun σ2 H2 ρ2 f2 dj => ⟨τ2, ρ2, G2, dj, f.trans f2, ok.fut f2⟩
      | bk τ2 G2 => rw [eb] at ok; exact ok
      | rt d G2 => rw [eb] at ok; exact ok
      | xn c τ2 G2 => rw [eb] at ok; exact ok
theorem PI.any {l : Expr} {tl : TE} (hl : PE X l tl) : PI X tg l (fun σ H R => tl σ H fun x H1 => (∃ p, x = .ref p ∧ (∃ xs, pD X.K H1 p xs) ∧ R (Hg X.K p) H1) ∨ (∃ p, x = .ref p ∧ (∃ xs, rS X.K H1 p xs) ∧ R (OU X.K p) H1) ∨ ∃ z, x = .str z ∧ R (Ij z) H1) := by
 intro pins s σ H R I h
 refine fV (hl pins s σ H _ I h) fun u s1 ⟨x, H1, I1, r1, q⟩ => ?_
 rcases q with ⟨p, rfl, ⟨xs, sq⟩, q⟩ | ⟨p, rfl, ⟨xs, sq⟩, q⟩ | ⟨z, rfl, q⟩
 ·cases r1
  obtain ⟨its, rv, pl, hz⟩ := I1.list sq
  refine wpAny_pyIter_list pl.isList ?_
  have I2 : Inv X pins σ H1 { s1 with heap := s1.heap.push { cls := .type "list_iterator", data := .fields #[.ref p, .int 0 0] } } := I1.kept (t' := s1.toks) fun b o e => Heap.get?_push_of_some _ e
  refine ⟨s1.heap.objs.size, [s1.heap.objs.size], _, Hg X.K p, H1, rfl, I2, Dj p _, ⟨_, Heap.get?_push_size _ rfl, rfl, rfl⟩, fun b hb => ?_, q⟩
  have e : b = s1.heap.objs.size := by simpa using hb
  subst e
  exact I1.Di (Nat.le_refl _) (I1.hok.fresh (Nat.le_refl _))
 ·cases r1
  obtain ⟨its, rv, pl, hz⟩ := I1.tuple sq
  refine wpAny_pyIter_tuple pl ?_
  have I2 : Inv X pins σ H1 { s1 with heap := s1.heap.push { cls := .type "tuple_iterator", data := .fields #[.ref p, .int 0 0] } } := I1.kept (t' := s1.toks) fun b o e => Heap.get?_push_of_some _ e
  refine ⟨s1.heap.objs.size, [s1.heap.objs.size], _, OU X.K p, H1, rfl, I2, A4 p _, ⟨_, Heap.get?_push_size _ rfl, rfl, rfl⟩, fun b hb => ?_, q⟩
  have e : b = s1.heap.objs.size := by simpa using hb
  subst e
  exact I1.Di (Nat.le_refl _) (I1.hok.fresh (Nat.le_refl _))
 ·obtain ⟨t, rfl⟩ := r1
  refine wpAny_pyIter_strU ?_
  have I2 : Inv X pins σ H1 { s1 with heap := s1.heap.push { cls := .type (strIterType z), data := .fields #[.str z t, .int 0 0] } } := I1.kept (t' := s1.toks) fun b o e => Heap.get?_push_of_some _ e
  refine ⟨s1.heap.objs.size, [s1.heap.objs.size], _, Ij z, H1, rfl, I2, E7 z t _, ⟨_, Heap.get?_push_size _ rfl, rfl, rfl⟩, fun b hb => ?_, q⟩
  have e : b = s1.heap.objs.size := by simpa using hb
  subst e
  exact I1.Di (Nat.le_refl _) (I1.hok.fresh (Nat.le_refl _))
theorem Ld {g : ng} {body : List Stmt} (hp : PassesOwn (model X.prog X.w) X.A X.env X.xe) (hc : X.calm = true) (ha : QE X EE a ma) (hg : QG X tg g) (hb : A1 X EE body ms) (hs : ∀ x, foldedSetIterable a X.env x = pure x := by intro _; rfl) :
  QS X EE (.For tg a body [] pos) (uE g ma ms) := PS.mono (xX hp hc (PI.any ha) hg hb hs) fun Dd σ H h => by
 obtain ⟨τ, ρ, G, ab, ok⟩ := rW (k := fun τ d G => match d with
  | .obj n => match G[n]? with
   | some (.lst xs) => ye g ms n (xs.length + 1) 0 τ G
   | _ => .stuck
  | .tup xs => cJ g ms xs τ G
  | .con xs => cJ g ms xs τ G
  | .str z => cJ g ms (z.cps.toList.map fun c => .str ⟨#[c]⟩) τ G
  | _ => .stuck) h
 refine ⟨τ, ρ, G, ab, ?_⟩
 cases e : ma τ G with
 | stuck => rw [e] at ok; exact ok
 | dF c G' => rw [e] at ok; exact ok
 | ok d G' =>
  rw [e] at ok
  intro v H1 ρ1 f1 qv r1
  obtain ⟨τ2, ρ2, G2, d2, dj, r2, aK⟩ := ok v H1 ρ1 f1 qv r1
  cases d2 <;> try exact aK.elim
  case obj n =>
   dsimp only at aK
   unfold Rep at r2
   obtain ⟨p, rfl, e1⟩ := r2
   cases q : G2[n]? with
   | none => rw [q] at aK; exact aK.elim
   | some o =>
    cases o with
    | dead => first | (rw [q] at ok; exact ok.elim) | (rw [q] at aK; exact aK.elim) | (rw [q] at e; cases e; done) | (rw [g] at ok; exact ok.elim) | (rw [g] at q; cases q; done) | (rw [g] at h; cases h; done) | (rw [g2] at ok; exact ok.elim) | (rw [g1, g2] at ok; exact ok.elim) | (rw [q1] at ok; exact ok.elim) | exact ok.elim
    | dct kv => first | (rw [q] at ok; exact ok.elim) | (rw [q] at aK; exact aK.elim) | (rw [q] at e; cases e; done) | (rw [g] at ok; exact ok.elim) | (rw [g] at q; cases q; done) | (rw [g] at h; cases h; done) | (rw [g2] at ok; exact ok.elim) | (rw [g1, g2] at ok; exact ok.elim) | (rw [q1] at ok; exact ok.elim) | exact ok.elim
    | lst xs =>
     rw [q] at aK
     obtain ⟨p', vs, e2, h2, rs⟩ := dj.hp.lst q
     rw [e1] at e2; cases e2
     exact .inl ⟨p, rfl, ⟨vs, .of h2⟩, Ik e1 dj aK⟩
  case tup xs =>
   unfold Rep at r2
   obtain ⟨p, vs, rfl, sq, rs⟩ := r2
   refine .inr (.inl ⟨p, rfl, ⟨vs, sq⟩, oi xs (fun i H' ρ' hi f => ?_) (fun i H' ρ' hi f => ?_) (fun i d' H' ρ' x M4 hd f y => ?_) dj aK⟩)
   ·rw [rs.length] at hi
    exact ⟨vs, vs[i], f.tup _ _ sq, List.getElem?_eq_getElem hi⟩
   ·exact ⟨vs, f.tup _ _ sq, by rw [← rs.length]; exact hi⟩
   ·obtain ⟨rfl, y⟩ := y
    obtain ⟨w', ew, rw'⟩ := rs.get hd
    have := y vs (f.tup _ _ sq)
    rw [ew] at this; cases this
    exact ⟨rfl, rw'.mono f⟩
  case con xs =>
   unfold Rep at r2
   obtain ⟨p, vs, rfl, sq, rs⟩ := r2
   refine .inl ⟨p, rfl, ⟨vs, sq.seq⟩, oi xs (fun i H' ρ' hi f => ?_) (fun i H' ρ' hi f => ?_) (fun i d' H' ρ' x M4 hd f y => ?_) dj aK⟩
   ·rw [rs.length] at hi
    exact ⟨vs, vs[i], (f.con _ _ sq).seq, List.getElem?_eq_getElem hi⟩
   ·exact ⟨vs, (f.con _ _ sq).seq, by rw [← rs.length]; exact hi⟩
   ·obtain ⟨rfl, y⟩ := y
    obtain ⟨w', ew, rw'⟩ := rs.get hd
    have := y vs (f.con _ _ sq).seq
    rw [ew] at this; cases this
    exact ⟨rfl, rw'.mono f⟩
  case str z =>
   unfold Rep at r2; subst r2
   refine .inr (.inr ⟨z, rfl, oi (z.cps.toList.map fun c => .str ⟨#[c]⟩) (fun i H' ρ' hi f => ?_) (fun i H' ρ' hi f => ?_) (fun i d' H' ρ' x M4 hd f y => ?_) dj aK⟩)
   ·simpa [Ij] using hi
   ·simpa [Ij] using hi
   ·obtain ⟨rfl, c, hc, rfl⟩ := y
    rw [List.getElem?_map] at hd
    have : z.cps.toList[i]? = some c := by simpa using hc
    rw [this] at hd
    cases hd
    exact ⟨rfl, by unfold Rep; rfl⟩
noncomputable def mX : List D → Option (List D)
 | [.int j] => if -(2 ^ 62) ≤ j ∧ j < 2 ^ 62 then some ((List.range j.toNat).map fun (k : Nat) => .int (0 + (k : Int))) else none
 | _ => none
noncomputable def zO : List D → Option (List D)
 | [.int i, .int j] => if -(2 ^ 62) ≤ i ∧ i < 2 ^ 62 ∧ -(2 ^ 62) ≤ j ∧ j < 2 ^ 62 then some ((List.range (j - i).toNat).map fun (k : Nat) => .int (i + (k : Int))) else none
 | _ => none
noncomputable def gC (tR : List D → Option (List D)) (g : ng) (m : DS → M (List D)) (body : MS) : MS := fun τ => cO (m τ) (fun ds G => match tR ds with
 | some xs => cJ g body xs τ G
 | none => .stuck) fun c G => .xn c τ G
theorem Bh {K : PySem.W.Frag} {mg : Str → Option Value} {σ : L2.St} {H : Hp} {m : DS → M (List D)} {k : DS → List D → DH → Res} {Dd : Ends} (h : jj K mg EE (fun τ => cO (m τ) (k τ) fun c G => .xn c τ G) Dd σ H) :
  sR K mg EE m σ H fun x H1 => ∃ τ ρ G d, Ab K mg σ H1 τ ρ G ∧ au K mg ρ H1 d x ∧ w9 K mg EE H1 ρ Dd (k τ d G) := by
 obtain ⟨τ, ρ, G, ab, ok⟩ := h
 refine ⟨τ, ρ, G, ab, ?_⟩
 dsimp only [cO] at ok
 cases e : m τ G with
 | stuck => rw [e] at ok; exact ok
 | dF c G' => rw [e] at ok; exact fun H' ρ' f cy => ok σ H' ρ' f cy
 | ok d G' => rw [e] at ok; exact fun v H' ρ' f cy r => ⟨τ, ρ', G', d, cy, r, ok.fut f⟩
theorem xj {g : ng} {body : MS} {Dd : Ends} {H0 : Hp} {σ0 : L2.St} {ρ0 : List Addr} {G0 : DH} {τ0 : DS} (lo : Int) (n : Nat) (ab : Ab X.K X.mg σ0 H0 τ0 ρ0 G0) (ok : w9 X.K X.mg EE H0 ρ0 Dd (cJ g body ((List.range n).map fun (k : Nat) => .int (lo + (k : Int))) τ0 G0)) :
  ∃ W : Nat → Nat → L2.St → Hp → Prop, (∃ m, W 0 m σ0 H0) ∧ ∀ i m σ H, W i m σ H →
   ((wO lo n).stop i H ∧ Dd.nx σ H) ∨ ((wO lo n).go i H ∧ ∃ N : L2.St → Hp → Prop, (∀ σ' H', N σ' H' → ∃ m', m' < m ∧ W (i + 1) m' σ' H') ∧ ∀ x H', (wO lo n).xW i H x H' → zN X.K X.mg g x σ H' fun σ2 H2 => jj X.K X.mg EE body { Dd with nx := N, ct := N, bk := Dd.nx } σ2 H2) :=
 oi (J := wO lo n) _ (fun i H ρ hi f => by simpa [wO] using hi) (fun i H ρ hi f => by simpa [wO] using hi) (fun i d H ρ x H' hd f y => by
  obtain ⟨rfl, rfl⟩ := y
  rw [List.getElem?_map] at hd
  cases q : (List.range n)[i]? with
  | none => rw [q] at hd; cases hd
  | some k =>
   rw [q] at hd
   obtain ⟨hk, e⟩ := List.getElem?_eq_some_iff.mp q
   rw [List.getElem_range] at e
   subst e
   cases hd
   exact ⟨rfl, by unfold Rep; rfl⟩) ab ok
theorem E8 {g : ng} {m : DS → M (List D)} {body : List Stmt} {p pc : Pos} (hp : PassesOwn (model X.prog X.w) X.A X.env X.xe) (hc : X.calm = true) (hm : X.mg "range" = none) (ha : QA X EE [a] m) (hg : QG X tg g) (hb : A1 X EE body ms)
  (Bj : Gl X "range" := by rfl) (hst : starEach [a] X.env = [(false, eval a X.env)] := by rfl) (hs : ∀ x, foldedSetIterable (.Call (.Name "range" p) [a] [] pc) X.env x = pure x := by intro _; rfl) :
  QS X EE (.For tg (.Call (.Name "range" p) [a] [] pc) body [] pos) (gC mX g m ms) := PS.mono (xX hp hc (wQ Bj hm ha hst) hg hb hs) fun Dd σ H h => by
 obtain ⟨τ, ρ, G, ab, ok⟩ := Bh (k := fun τ ds G => match mX ds with | some xs => cJ g ms xs τ G | none => .stuck) h
 refine ⟨τ, ρ, G, ab, ?_⟩
 cases e : m τ G with
 | stuck => rw [e] at ok; exact ok
 | dF c G' => rw [e] at ok; exact ok
 | ok ds G' =>
  rw [e] at ok
  intro vs H1 ρ1 f1 qv r1
  obtain ⟨τ2, ρ2, G2, d2, dj, r2, aK⟩ := ok vs H1 ρ1 f1 qv r1
  cases q : mX d2 with
  | none => rw [q] at aK; exact aK.elim
  | some xs =>
   rw [q] at aK
   unfold mX at q
   split at q
   ·rename_i j
    split at q
    ·rename_i hj
     cases q
     unfold au at r2
     obtain ⟨v, r, rfl, h1, h2⟩ := r2
     unfold au at h2; subst h2
     unfold Rep at h1; subst h1
     exact ⟨j, rfl, hj.1, hj.2, xj 0 j.toNat dj aK⟩
    ·cases q
   ·cases q
theorem E9 {g : ng} {m : DS → M (List D)} {body : List Stmt} {p pc : Pos} (hp : PassesOwn (model X.prog X.w) X.A X.env X.xe) (hc : X.calm = true) (hm : X.mg "range" = none) (ha : QA X EE [a, b] m) (hg : QG X tg g) (hb : A1 X EE body ms)
  (Bj : Gl X "range" := by rfl) (hst : starEach [a, b] X.env = [(false, eval a X.env), (false, eval b X.env)] := by rfl) (hs2 : starEach [b] X.env = [(false, eval b X.env)] := by rfl) (hs : ∀ x, foldedSetIterable (.Call (.Name "range" p) [a, b] [] pc) X.env x = pure x := by intro _; rfl) :
  QS X EE (.For tg (.Call (.Name "range" p) [a, b] [] pc) body [] pos) (gC zO g m ms) := PS.mono (xX hp hc (Dk Bj hm ha hst hs2) hg hb hs) fun Dd σ H h => by
 obtain ⟨τ, ρ, G, ab, ok⟩ := Bh (k := fun τ ds G => match zO ds with | some xs => cJ g ms xs τ G | none => .stuck) h
 refine ⟨τ, ρ, G, ab, ?_⟩
 cases e : m τ G with
 | stuck => rw [e] at ok; exact ok
 | dF c G' => rw [e] at ok; exact ok
 | ok ds G' =>
  rw [e] at ok
  intro vs H1 ρ1 f1 qv r1
  obtain ⟨τ2, ρ2, G2, d2, dj, r2, aK⟩ := ok vs H1 ρ1 f1 qv r1
  cases q : zO d2 with
  | none => rw [q] at aK; exact aK.elim
  | some xs =>
   rw [q] at aK
   unfold zO at q
   split at q
   ·rename_i i j
    split at q
    ·rename_i hj
     cases q
     unfold au at r2
     obtain ⟨v, r, rfl, h1, h2⟩ := r2
     unfold au at h2
     obtain ⟨v', r', rfl, h3, h4⟩ := h2
     unfold au at h4; subst h4
     unfold Rep at h1 h3; subst h1 h3
     exact ⟨i, j, rfl, hj, xj i (j - i).toNat dj aK⟩
    ·cases q
   ·cases q
end
end L3
end
section
set_option Elab.async false
set_option linter.all false
set_option maxRecDepth 100000
namespace L3
open PySem PySem.Spec L2
noncomputable def UC (K : PySem.W.Frag) (mg : Str → Option Value) (H : Hp) (ρ : List Addr) : Out D → VK → XK → Prop
 | .stuck, _, _ => False
 | .ok d G', Q, _ => ∀ v H' ρ', eZ K H H' ρ ρ' → kg K mg H' ρ' G' → Rep K mg ρ' H' d v → Q v H'
 | .dF c G', _, E => ∀ cls H' ρ', (match c with | .mk n _ => mg n = some cls) → eZ K H H' ρ ρ' → kg K mg H' ρ' G' → E cls none H'
noncomputable def aW (K : PySem.W.Frag) (mg : Str → Option Value) (n : Nat) (m : List D → M D) : Sp := fun vs H Q E => ∃ ds ρ G, ds.length = n ∧ kg K mg H ρ G ∧ au K mg ρ H ds vs ∧ UC K mg H ρ (m ds G) Q E
theorem aW.len {K : PySem.W.Frag} {mg : Str → Option Value} {n : Nat} {m : List D → M D} {vs : List V} {H : Hp} {Q : VK} {E : XK} (h : aW K mg n m vs H Q E) : vs.length = n := by
 obtain ⟨ds, ρ, G, e, _, r, _⟩ := h
 rw [← r.length, e]
noncomputable def Qi (mg : Str → Option Value) (EE : fk) (σ : L2.St) : XK := fun cls _ H' => ∃ c, (match c with | .mk n _ => mg n = some cls) ∧ EE c σ H'
noncomputable def Mf (CX : vM) (X : Cx) (EE : fk) : Prop := ∀ (pins : List (Addr × Obj)) (σ : L2.St) (H : Hp) (s : Shared) (e : Value) (s' : Shared), Inv X pins σ H s → CX X.stack H s (Qi X.mg EE σ) e s' → X.xe e s'
section
variable {X : Cx} {CX : vM} {EE : fk} {k n : Nat} {f : Addr} {fd : FuncData} {ps : List Str} {mf : List D → M D} {x : Str} {p pos : Pos} {e : Expr} {es : List Expr} {m : DS → M (List D)}
theorem kg.ab {K : PySem.W.Frag} {mg : Str → Option Value} {σ : L2.St} {H H' : Hp} {τ : DS} {ρ ρ' : List Addr} {G G' : DH} (ab : Ab K mg σ H τ ρ G) (f : eZ K H H' ρ ρ') (h : kg K mg H' ρ' G') : Ab K mg σ H' τ ρ' G' := ⟨ab.st.mono f, h⟩
theorem yf {pins : List (Addr × Obj)} {σ : L2.St} {H : Hp} {s : Shared} {Q : VK} {us : List Value} {vs : List V} {τ : DS} {ρ : List Addr} {G : DH} {ds : List D} (F : bx X.prog X.w X.K X.mg X.base CX k f fd ps (aW X.K X.mg n mf)) (hr : fW k X.A) (hb : Binds X.K fd ps [])
  (hx : Mf CX X EE) (I : Inv X pins σ H s) (r : Vals vs us) (ab : Ab X.K X.mg σ H τ ρ G) (rs : au X.K X.mg ρ H ds vs) (hn : ds.length = n) (ok : mW X.K X.mg EE H σ τ ρ (mf ds G) Q) : wpAny (model X.prog X.w) X.A (call (.ref f) us) (EP X pins σ Q) X.xe s := by
 have h : aW X.K X.mg n mf vs H Q (Qi X.mg EE σ) := by
  refine ⟨ds, ρ, G, hn, ab.hp, rs, ?_⟩
  cases q : mf ds G with
  | stuck => rw [q] at ok; exact ok
  | ok d G' => rw [q] at ok; exact fun v H' ρ' f hp r => ok v H' ρ' f (kg.ab ab f hp) r
  | dF c G' => rw [q] at ok; exact fun cls H' ρ' hc f hp => ⟨c, hc, ok H' ρ' f (kg.ab ab f hp)⟩
 have hl : (us ++ []).length = ps.length := by rw [List.append_nil, ← r.length]; exact F.len _ _ _ _ h
 have OZ := hb s us I.A0 hl
 rw [List.append_nil] at OZ
 refine wpAny_call (codeAny_mono (F.run X.A X.stack s H ⟨us, []⟩ us vs Q (Qi X.mg EE σ) hr I.iK I.os.2 OZ r h) fun r s' hq => ?_)
 cases r with
 | error e => exact hx pins σ H s e s' I hq
 | ok fl =>
  cases fl with
  | ret u => exact I.after hq
  | next => exact False.elim hq
  | brk => exact False.elim hq
  | cont => exact False.elim hq
noncomputable def bZ (n : Nat) (mf : List D → M D) (m : DS → M (List D)) : DS → M D := aC (fun ds => if ds.length = n then mf ds else M.stop) m
theorem Il (F : bx X.prog X.w X.K X.mg X.base CX k f fd ps (aW X.K X.mg n mf)) (hr : fW k X.A) (hm : X.mg x = some (.ref f)) (hk : PySem.W.keepIn X.K (.ref f) = true) (hb : Binds X.K fd ps []) (hx : Mf CX X EE)
  (ha : QA X EE (e :: es) m) (hg : Gl X x := by rfl) (hdb : (x == ("__debug__" : Str)) = false := by decide) (he : starEach (e :: es) X.env = (false, eval e X.env) :: starEach es X.env := by rfl) (hpl : (backTo pos (starEach es X.env)).any (·.1) = false := by rfl) :
  QE X EE (.Call (.Name x p) (e :: es) [] pos) (bZ n mf m) := by
 intro pins s σ H Q I h
 obtain ⟨τ, ρ, G, ab, ok⟩ := uA (k := fun _ ds => if ds.length = n then mf ds else M.stop) h
 refine wpAny_Call_Name_kw (xU I hg hm ?_ hdb)
 refine PySem.W.callWith_K (h₀ := X.base) I.ok.mod.J1 hk (fV (ha pos pins s σ H _ I ⟨τ, ρ, G, ab, ok⟩) fun us s1 ⟨vs, H1, I1, r, q⟩ => ⟨I1.A0, ?_⟩) he hpl
 obtain ⟨τ1, ρ1, G1, ds, qv, rs, Hl⟩ := q
 by_cases hn : ds.length = n
 ·rw [if_pos hn] at Hl
  exact yf F hr hb hx I1 r qv rs hn Hl
 ·rw [if_neg hn] at Hl
  exact Hl.elim
end
noncomputable def cT (N : Nat) (ms : MS) (ds : List D) : M D := fun G => match ms (ds.map some ++ List.replicate (N - ds.length) none) G with
 | .stuck => .stuck
 | .nx _ G' => .ok .eY G'
 | .rt d G' => .ok d G'
 | .bk _ _ => .stuck
 | .ct _ _ => .stuck
 | .xn c _ G' => .dF c G'
theorem uF {K : PySem.W.Frag} {mg : Str → Option Value} {H : Hp} {ρ : List Addr} {ds : List D} {vs : List V} {N : List Str} (r : au K mg ρ H ds vs) : vO K mg H ρ (L2.start N vs) (ds.map some ++ List.replicate (N.length - ds.length) none) := by
 have hl := r.length
 refine ⟨by unfold L2.start; simp [hl], fun i d e => ?_⟩
 have hi : i < ds.length := by
  by_cases hi : i < ds.length
  ·exact hi
  ·rw [List.getElem?_append_right (by simpa using hi), List.getElem?_replicate] at e
   split at e <;> cases e
 rw [List.getElem?_append_left (by simpa using hi), List.getElem?_map] at e
 cases q : ds[i]? with
 | none => rw [q] at e; cases e
 | some d' =>
  rw [q] at e; cases e
  obtain ⟨v, e1, r1⟩ := r.get q
  refine ⟨v, ?_, r1⟩
  unfold L2.start
  rw [List.getElem?_append_left (by simp; omega), List.getElem?_map, e1]
  rfl
section
variable {P : Program} {w : World} {K : PySem.W.Frag} {mg : Str → Option Value} {base : Heap} {f : Addr} {fd : FuncData}
end
end L3
end
section
set_option Elab.async false
set_option linter.all false
set_option maxRecDepth 100000
namespace L3
open PySem PySem.Spec L2
section
variable {X : Cx} {EE : fk} {a b c : Expr} {ma mb mc : DS → M D} {pos : Pos}
noncomputable def Jv (X : Cx) (EE : fk) (f : List D → M D) : List V → Hp → VK → Prop := fun xs H Q => ∃ σ τ ρ G ds, Ab X.K X.mg σ H τ ρ G ∧ au X.K X.mg ρ H ds xs ∧ mW X.K X.mg EE H σ τ ρ (f ds G) Q
theorem uG {f : List D → M D} : CallD X EE (Jv X EE f) f := fun σ H τ ρ G xs ds Q ab r ok => ⟨σ, τ, ρ, G, ds, ab, r, ok⟩
theorem kO {K : PySem.W.Frag} {mg : Str → Option Value} {ρ : List Addr} {H : Hp} {d : D} {xs : List V} (r : au K mg ρ H [d] xs) : ∃ x, xs = [x] ∧ Rep K mg ρ H d x := by
 unfold au at r
 obtain ⟨v, r', rfl, h1, h2⟩ := r
 unfold au at h2; subst h2
 exact ⟨v, rfl, h1⟩
theorem Jw {K : PySem.W.Frag} {mg : Str → Option Value} {ρ : List Addr} {H : Hp} {d e : D} {xs : List V} (r : au K mg ρ H [d, e] xs) : ∃ x y, xs = [x, y] ∧ Rep K mg ρ H d x ∧ Rep K mg ρ H e y := by
 unfold au at r
 obtain ⟨v, r', rfl, h1, h2⟩ := r
 obtain ⟨y, rfl, h3⟩ := kO h2
 exact ⟨v, y, rfl, h1, h3⟩
noncomputable def gj : List D → M D
 | [d] => fun G => match bz G d with
  | some (.lst xs) => .ok (.int xs.length) G
  | some (.tup xs) => .ok (.int xs.length) G
  | some (.str z) => if z.length ≤ sizeLine then .ok (.int z.length) G else .stuck
  | none => .stuck
 | _ => M.stop
theorem DB : iP X (.builtin "len") (Jv X EE gj) := by
 intro pins s σ0 H xs us Q I r ⟨σ, τ, ρ, G, ds, ab, rs, ok⟩
 match ds, ok with
 | [], ok => exact ok.elim
 | _ :: _ :: _, ok => exact ok.elim
 | [d], ok =>
  obtain ⟨x, rfl, rx⟩ := kO rs
  dsimp only [gj] at ok
  cases q : bz G d with
  | none => rw [q] at ok; exact ok.elim
  | some sk =>
   rw [q] at ok
   cases sk with
   | lst zs =>
    obtain ⟨p, vs, rfl, sq, rv⟩ := cS (pins := pins) (σ0 := σ0) (s := s) ab.hp rx q
    exact ql pins s σ0 H _ us Q I r ⟨p, vs, rfl, .inl sq, ok _ H ρ .refl ab (by unfold Rep; rw [rv.length])⟩
   | tup zs =>
    obtain ⟨p, vs, rfl, sq, rv⟩ := jb rx q
    exact ql pins s σ0 H _ us Q I r ⟨p, vs, rfl, .inr sq, ok _ H ρ .refl ab (by unfold Rep; rw [rv.length])⟩
   | str z =>
    obtain ⟨rfl, rfl⟩ := n8 rx q
    dsimp only at ok
    by_cases hz : z.length ≤ sizeLine
    ·rw [if_pos hz] at ok
     exact ya pins s σ0 H _ us Q I r ⟨z, rfl, hz, ok _ H ρ .refl ab (by unfold Rep; rfl)⟩
    ·rw [if_neg hz] at ok; exact ok.elim
inductive Ty where
 | eY | bl | int | str | tup | lst | dct
 deriving DecidableEq
noncomputable def Ty.nm : Ty → String
 | .eY => "NoneType" | .bl => "bool" | .int => "int" | .str => "str" | .tup => "tuple" | .lst => "list" | .dct => "dict"
noncomputable def O1 (G : DH) : D → Option Ty
 | .eY => some .eY
 | .bl _ => some .bl
 | .int _ => some .int
 | .str _ => some .str
 | .tup _ => some .tup
 | .con _ => some .lst
 | .obj n => match G[n]? with
  | some (.lst _) => some .lst
  | _ => none
 | .fn _ => none
 | .w6 _ _ => none
noncomputable def Ty.is (t c : Ty) : Bool := decide (t = c) || (decide (t = .bl) && decide (c = .int))
theorem pH (K : PySem.W.Frag) : ∀ (t c : Ty), c ≠ .eY → PySem.W.kitOne K (.type t.nm) (.type c.nm) = some (t.is c) := by
 intro t c h
 cases t <;> cases c <;> first | exact absurd rfl h | rfl | (with_unfolding_all rfl) | decide +kernel
noncomputable def zP (c : Ty) (d : D) : M D := fun G => match O1 G d with
 | some t => .ok (.bl (t.is c)) G
 | none => .stuck
noncomputable def DC (c : Ty) (m : DS → M D) : DS → M D := fun τ => (m τ).bind (zP c)
theorem Im {c : Ty} (hc : c ≠ .eY) {pins : List (Addr × Obj)} {s : Shared} {σ0 σ : L2.St} {H : Hp} {τ : DS} {ρ : List Addr} {G : DH} {d : D} {x : V} {u : Value} {Q : VK} (I : Inv X pins σ0 H s) (ab : Ab X.K X.mg σ H τ ρ G) (rx : Rep X.K X.mg ρ H d x) (ru : RelV x u)
  (ok : mW X.K X.mg EE H σ τ ρ (zP c d G) Q) : wpAny (model X.prog X.w) X.A (call (.builtin "isinstance") [u, .type c.nm]) (EP X pins σ0 Q) X.xe s := by
 dsimp only [zP] at ok
 refine kL I.os.2 ?_
 have fin : ∀ {b : Bool}, Q (.bl b) H → ∀ tk, 0 < tk → EP X pins σ0 Q (.bool b) { s with toks := tk } := fun q tk ht => ⟨.bl _, H, I.tok tk, rfl, q⟩
 cases d with
 | eY =>
  have q := ok (.bl _) H ρ .refl ab (by unfold Rep; rfl)
  unfold Rep at rx; subst rx; cases ru
  exact PySem.W.kia_one PySem.W.kitx_none I.A0 True.intro (pH X.K .eY c hc) (fun z => nomatch z) (fin q)
 | bl y =>
  have q := ok (.bl _) H ρ .refl ab (by unfold Rep; rfl)
  unfold Rep at rx; subst rx; cases ru
  exact PySem.W.kia_one PySem.W.kitx_bool I.A0 True.intro (pH X.K .bl c hc) (fun z => nomatch z) (fin q)
 | int y =>
  have q := ok (.bl _) H ρ .refl ab (by unfold Rep; rfl)
  unfold Rep at rx; subst rx; obtain ⟨t, rfl⟩ := ru
  exact PySem.W.kia_one PySem.W.kitx_int I.A0 True.intro (pH X.K .int c hc) (fun z => nomatch z) (fin q)
 | str y =>
  have q := ok (.bl _) H ρ .refl ab (by unfold Rep; rfl)
  unfold Rep at rx; subst rx; obtain ⟨t, rfl⟩ := ru
  exact PySem.W.kia_one PySem.W.kitx_str I.A0 True.intro (pH X.K .str c hc) (fun z => nomatch z) (fin q)
 | tup ys =>
  have q := ok (.bl _) H ρ .refl ab (by unfold Rep; rfl)
  unfold Rep at rx
  obtain ⟨p, vs, rfl, sq, _⟩ := rx
  cases ru
  obtain ⟨its, _, ⟨o, h1, h2, _⟩, _⟩ := I.tuple sq
  exact PySem.W.kia_one PySem.W.kitx_tuple I.A0 ⟨o, h1, h2⟩ (pH X.K .tup c hc) (fun z => nomatch z) (fin q)
 | con ys =>
  have q := ok (.bl _) H ρ .refl ab (by unfold Rep; rfl)
  unfold Rep at rx
  obtain ⟨p, vs, rfl, sq, _⟩ := rx
  cases ru
  obtain ⟨its, _, ⟨o, k, h1, h2, _⟩, _⟩ := I.list sq.seq
  exact PySem.W.kia_one PySem.W.kitx_list I.A0 ⟨o, h1, h2⟩ (pH X.K .lst c hc) (fun z => nomatch z) (fin q)
 | obj n =>
  unfold Rep at rx
  obtain ⟨p, rfl, e1⟩ := rx
  cases ru
  dsimp only [O1] at ok
  cases g : G[n]? with
  | none => rw [g] at ok; exact ok.elim
  | some o =>
   cases o with
   | dead => first | (rw [q] at ok; exact ok.elim) | (rw [q] at aK; exact aK.elim) | (rw [q] at e; cases e; done) | (rw [g] at ok; exact ok.elim) | (rw [g] at q; cases q; done) | (rw [g] at h; cases h; done) | (rw [g2] at ok; exact ok.elim) | (rw [g1, g2] at ok; exact ok.elim) | (rw [q1] at ok; exact ok.elim) | exact ok.elim
   | dct kv => first | (rw [q] at ok; exact ok.elim) | (rw [q] at aK; exact aK.elim) | (rw [q] at e; cases e; done) | (rw [g] at ok; exact ok.elim) | (rw [g] at q; cases q; done) | (rw [g] at h; cases h; done) | (rw [g2] at ok; exact ok.elim) | (rw [g1, g2] at ok; exact ok.elim) | (rw [q1] at ok; exact ok.elim) | exact ok.elim
   | lst ys =>
    rw [g] at ok
    have q := ok (.bl _) H ρ .refl ab (by unfold Rep; rfl)
    obtain ⟨p', vs, e2, hp, _⟩ := ab.hp.lst g
    rw [e1] at e2; cases e2
    obtain ⟨its, _, ⟨o, k, h1, h2, _⟩, _⟩ := I.list (.of hp)
    exact PySem.W.kia_one PySem.W.kitx_list I.A0 ⟨o, h1, h2⟩ (pH X.K .lst c hc) (fun z => nomatch z) (fin q)
 | w6 _ _ => exact ok.elim
 | fn x => exact ok.elim
theorem Le (c : Ty) {p pt : Pos} {x : Str} (hc : c ≠ .eY) (hm : X.mg "isinstance" = none) (hmt : X.mg x = none) (ha : QE X EE a ma) (hb : bootBuiltins x = some (.type c.nm))
  (hg : Gl X "isinstance" := by rfl) (hgt : Gl X x := by rfl) (hnt : x ≠ "__name__" := by decide) (hdt : (x == ("__debug__" : Str)) = false := by decide)
  (he : starEach [a, .Name x pt] X.env = (false, eval a X.env) :: starEach [.Name x pt] X.env := by rfl) (UD : starEach [.Name x pt] X.env = (false, eval (.Name x pt) X.env) :: starEach [] X.env := by rfl) (hpl : (backTo pos (starEach [.Name x pt] X.env)).any (·.1) = false := by rfl)
  (hbi : bootBuiltins "isinstance" = some (.builtin "isinstance") := by first | exact PyProof.Rows.boot_isinstance | decide +kernel) :
  QE X EE (.Call (.Name "isinstance" p) [a, .Name x pt] [] pos) (DC c ma) := by
 have hT : PE X (.Name x pt) (tC (.ty c.nm)) := Hu hgt hmt hb rfl hnt hdt
 have hA : PA X [a, .Name x pt] (EC (dI X.K X.mg EE ma) (EC (tC (.ty c.nm)) MH)) := xY ha (xY hT ED UD) he
 intro pins s σ H Q I h
 obtain ⟨τ, ρ, G, ab, ok⟩ := jk (k := fun _ d => zP c d) h
 refine wpAny_Call_Name_kw (ji I hg hm hbi ?_ (by decide) (by decide))
 refine PyProof.Rows.callWith_builtin1 (fV (hA pos pins s σ H (fun vs H1 => ∃ x, vs = [x, .ty c.nm] ∧ ∃ τ ρ G d, Ab X.K X.mg σ H1 τ ρ G ∧ Rep X.K X.mg ρ H1 d x ∧ mW X.K X.mg EE H1 σ τ ρ (zP c d G) Q) I ⟨τ, ρ, G, ab, ?_⟩) fun us s1 ⟨vs, H1, I1, r1, q1⟩ => ?_) he hpl
 ·cases e : ma τ G with
  | stuck => rw [e] at ok; exact ok
  | dF c G' => rw [e] at ok; exact ok
  | ok d G' => rw [e] at ok; exact fun v H' ρ' f' cy r' => ⟨v, rfl, ok v H' ρ' f' cy r'⟩
 ·obtain ⟨y, rfl, τ2, ρ2, G2, d, dj, rd, aK⟩ := q1
  cases r1 with
  | cons ry rr =>
   cases rr with
   | cons rt rr =>
    cases rr
    cases rt
    exact Im hc I1 dj rd ry aK
end
end L3
end
section
set_option Elab.async false
set_option linter.all false
set_option maxRecDepth 100000
namespace L3
open PySem PySem.Spec L2
section
variable {X : Cx} {EE : fk} {a b c : Expr} {ma mb mc : DS → M D} {pos : Pos}
noncomputable def qw : List D → Option (List Bool)
 | [] => some []
 | .bl b :: r => (qw r).map (b :: ·)
 | _ :: _ => none
noncomputable def Fb (any : Bool) : List D → M D
 | [d] => fun G => match bz G d with
  | some (.lst xs) => match qw xs with
   | some bs => .ok (.bl (if any then bs.any id else bs.all id)) G
   | none => .stuck
  | _ => .stuck
 | _ => M.stop
theorem xm {K : PySem.W.Frag} {mg : Str → Option Value} {ρ : List Addr} {H : Hp} : ∀ {ds : List D} {vs : List V} {us : List Value} {bs : List Bool}, au K mg ρ H ds vs → Vals vs us → qw ds = some bs → us = bs.map Value.bool
 | [], vs, us, bs, r, v, e => by unfold au at r; subst r; cases v; cases e; rfl
 | d :: ds, vs, us, bs, r, v, e => by
  unfold au at r
  obtain ⟨x, r', rfl, h1, h2⟩ := r
  cases v with
  | cons v1 v2 =>
   cases d <;> try (cases e; done)
   rename_i b
   dsimp only [qw] at e
   cases q : qw ds with
   | none => rw [q] at e; cases e
   | some bs' =>
    rw [q] at e; cases e
    unfold Rep at h1; subst h1; cases v1
    rw [xm h2 v2 q]; rfl
theorem Bk {s : Shared} {h' : Heap} {o : Obj} (hk : ∀ b x, b ∉ [s.heap.objs.size] → (s.heap.push o).get? b = some x → h'.get? b = some x) : ∀ b x, s.heap.get? b = some x → h'.get? b = some x :=
 fun b x e => hk b x (fun hm => by rw [List.mem_singleton.mp hm] at e; exact Nat.lt_irrefl _ (Heap.lt_size e)) (Heap.get?_push_of_some _ e)
theorem Bl (bs : List Bool) : ((List.range bs.length).all fun i => (bs[i]?).getD true) = bs.all id := by
 rw [Bool.eq_iff_iff, List.all_eq_true, List.all_eq_true]
 constructor
 ·intro h b hb
  obtain ⟨i, hi, rfl⟩ := List.getElem_of_mem hb
  have := h i (List.mem_range.mpr hi)
  simpa [List.getElem?_eq_getElem hi] using this
 ·intro h i hi
  have hi' := List.mem_range.mp hi
  simp only [List.getElem?_eq_getElem hi', Option.getD_some]
  exact h _ (List.getElem_mem hi')
theorem DE (hc : X.calm = true) : iP X (.builtin "all") (Jv X EE (Fb false)) := by
 intro pins s σ0 H xs us Q I r ⟨σ, τ, ρ, G, ds, ab, rs, ok⟩
 match ds, ok with
 | [], ok => exact ok.elim
 | _ :: _ :: _, ok => exact ok.elim
 | [d], ok =>
  obtain ⟨x, rfl, rx⟩ := kO rs
  obtain ⟨u, rfl, ru⟩ := vals1 r
  dsimp only [Fb] at ok
  cases q : bz G d with
  | none => rw [q] at ok; exact ok.elim
  | some sk =>
   rw [q] at ok
   cases sk with
   | tup zs => exact ok.elim
   | str z => exact ok.elim
   | lst zs =>
    dsimp only at ok
    cases qb : qw zs with
    | none => rw [qb] at ok; exact ok.elim
    | some bs =>
     rw [qb] at ok
     obtain ⟨p, vs, rfl, sq, rv⟩ := cS (pins := pins) (σ0 := σ0) (s := s) ab.hp rx q
     cases ru
     obtain ⟨its, vv, pl, hz⟩ := I.list sq
     have e := xm rv vv qb
     subst e
     have hl := pl.isList
     have hlt : p < s.heap.objs.size := by obtain ⟨_, e, _⟩ := hl; exact Heap.lt_size e
     refine kL I.os.2 (call_all_walk (wpAny_pyIter_list hl ?_))
     refine ⟨s.heap.objs.size, [s.heap.objs.size, p], [s.heap.objs.size], (bs.map Value.bool).toArray.size, _, _, fun i => (bs[i]?).getD true, rfl, Walks.list (A := X.A.in1) (I.ok.hd hc) _ p (Nat.ne_of_lt hlt) _,
      ⟨⟨_, Heap.get?_push_size _ rfl, rfl, rfl⟩, hl.push _⟩, fun i v s' Q' E' hP hQ => ?_, fun h' tk hk ht => ?_⟩
     ·have M5 : (bs.map Value.bool)[i]? = some v := by simpa using hP
      rw [List.getElem?_map] at M5
      cases qi : bs[i]? with
      | none => rw [qi] at M5; cases M5
      | some k =>
       rw [qi] at M5; cases M5
       simp only [qi, Option.getD_some] at hQ
       exact wpAny_truthy_bool hQ
     ·rw [show (bs.map Value.bool).toArray.size = bs.length by simp, Bl]
      exact ⟨.bl _, H, I.kept (t' := tk) (Bk hk), rfl, ok _ H ρ .refl ab (by unfold Rep; rfl)⟩
noncomputable def lF (g : Int → Int → Int) : List D → M D
 | [.int i, .int j] => M.ret (.int (g i j))
 | _ => M.stop
theorem Fc {g : Int → Int → Int} {ds : List D} {G : DH} {σ : L2.St} {H : Hp} {τ : DS} {ρ : List Addr} {Q : VK} (ok : mW X.K X.mg EE H σ τ ρ (lF g ds G) Q) : ∃ i j, ds = [.int i, .int j] ∧ mW X.K X.mg EE H σ τ ρ (.ok (.int (g i j)) G) Q := by
 unfold lF at ok
 split at ok
 ·exact ⟨_, _, rfl, ok⟩
 ·exact ok.elim
theorem DF (hc : X.calm = true) : iP X (.builtin "max") (Jv X EE (lF fun i j => if j > i then j else i)) := by
 intro pins s σ0 H xs us Q I r ⟨σ, τ, ρ, G, ds, ab, rs, ok⟩
 obtain ⟨i, j, rfl, ok⟩ := Fc ok
 obtain ⟨x, y, rfl, r1, r2⟩ := Jw rs
 unfold Rep at r1 r2; subst r1 r2
 exact Dn hc pins s σ0 H _ us Q I r ⟨i, j, rfl, ok _ H ρ .refl ab (by unfold Rep; rfl)⟩
noncomputable def Lf (X : Cx) (EE : fk) (f : D → List D → M D) : V → List V → Hp → VK → Prop := fun x xs H Q => ∃ σ τ ρ G d ds, Ab X.K X.mg σ H τ ρ G ∧ Rep X.K X.mg ρ H d x ∧ au X.K X.mg ρ H ds xs ∧ mW X.K X.mg EE H σ τ ρ (f d ds G) Q
noncomputable def gk (T : String) (G : DH) : D → Bool
 | .str _ => T == "str"
 | .int _ => T == "int"
 | .con _ => T == "list"
 | .obj n => match G[n]? with
  | some (.lst _) => T == "list"
  | _ => false
 | _ => false
theorem xo {T : String} {σ : L2.St} {H : Hp} {τ : DS} {ρ : List Addr} {G : DH} {d : D} {x : V} (ab : Ab X.K X.mg σ H τ ρ G) (r : Rep X.K X.mg ρ H d x) (h : gk T G d = true) : OY X.K T x H := by
 cases d with
 | str z => unfold Rep at r; subst r; exact eq_of_beq h
 | int z => unfold Rep at r; subst r; exact eq_of_beq h
 | con zs =>
  unfold Rep at r
  obtain ⟨p, vs, rfl, sq, _⟩ := r
  exact .inl ⟨eq_of_beq h, vs, sq.seq⟩
 | obj n =>
  unfold Rep at r
  obtain ⟨p, rfl, e1⟩ := r
  dsimp only [gk] at h
  cases g : G[n]? with
  | none => rw [g] at h; cases h
  | some o =>
   cases o with
   | dead => first | (rw [q] at ok; exact ok.elim) | (rw [q] at aK; exact aK.elim) | (rw [q] at e; cases e; done) | (rw [g] at ok; exact ok.elim) | (rw [g] at q; cases q; done) | (rw [g] at h; cases h; done) | (rw [g2] at ok; exact ok.elim) | (rw [g1, g2] at ok; exact ok.elim) | (rw [q1] at ok; exact ok.elim) | exact ok.elim
   | dct kv => first | (rw [q] at ok; exact ok.elim) | (rw [q] at aK; exact aK.elim) | (rw [q] at e; cases e; done) | (rw [g] at ok; exact ok.elim) | (rw [g] at q; cases q; done) | (rw [g] at h; cases h; done) | (rw [g2] at ok; exact ok.elim) | (rw [g1, g2] at ok; exact ok.elim) | (rw [q1] at ok; exact ok.elim) | exact ok.elim
   | lst ys =>
    rw [g] at h
    obtain ⟨p', vs, e2, hp, _⟩ := ab.hp.lst g
    rw [e1] at e2; cases e2
    exact .inl ⟨eq_of_beq h, vs, .of hp⟩
 | _ => cases h
noncomputable def bq (T : String) (f : D → List D → M D) (mo : DS → M D) (m : DS → M (List D)) : DS → M D := fun τ => (mo τ).bind fun d G => if gk T G d then (m τ).bind (fun ds => f d ds) G else .stuck
theorem Cq {o e : Expr} {es : List Expr} {name : Str} {apos cpos : Pos} {T id : String} {f : D → List D → M D} {mo : DS → M D} {m : DS → M (List D)} (pa : PlainAttrs T) (slot : Slot T name id) (hty : typeOf (.builtin id) = pure (.type "method_descriptor")) (hm : Hh X id (Lf X EE f)) (ho : QE X EE o mo) (ha : QA X EE (e :: es) m)
  (hbase : attributeBase o name X.env (eval o X.env) = eval o X.env := by rfl)
  (hfew : ((backTo cpos (starEach (e :: es) X.env)).all (fun x => !x.1) && (backToKw cpos (keywordEach [] X.env)).all (fun x => x.1.isSome)
   && decide ((e :: es).length + ([] : List Keyword).length + (if ([] : List Keyword).isEmpty then 0 else 1) < 30)) = true := by rfl)
  (hline : (apos.endLine == cpos.line) = true := by rfl) (hs : starEach (e :: es) X.env = (false, eval e X.env) :: starEach es X.env := by rfl) (hplain : (backTo cpos (starEach es X.env)).any (·.1) = false := by rfl) :
  QE X EE (.Call (.Attribute o name apos) (e :: es) [] cpos) (bq T f mo m) := PE.mono (MR pa slot hty hm ho ha hbase hfew hline hs hplain) fun σ H Q h => by
 obtain ⟨τ, ρ, G, ab, ok⟩ := jk (k := fun τ d G => if gk T G d then (m τ).bind (fun ds => f d ds) G else .stuck) h
 refine ⟨τ, ρ, G, ab, ?_⟩
 cases e : mo τ G with
 | stuck => rw [e] at ok; exact ok
 | dF c G' => rw [e] at ok; exact ok
 | ok d G' =>
  rw [e] at ok
  intro v H' ρ' f' cy r'
  obtain ⟨τ2, ρ2, G2, d2, dj, r2, aK⟩ := ok v H' ρ' f' cy r'
  by_cases hk : gk T G2 d2 = true
  ·rw [if_pos hk] at aK
   refine ⟨xo dj r2 hk, τ2, ρ2, G2, dj, ?_⟩
   dsimp only [M.bind] at aK
   cases e2 : m τ2 G2 with
   | stuck => rw [e2] at aK; exact aK
   | dF c G' => rw [e2] at aK; exact aK
   | ok ds G3 =>
    rw [e2] at aK
    exact fun vs H3 ρ3 f3 zG r3 => ⟨σ, τ2, ρ3, G3, d2, ds, zG, r2.mono f3, r3, aK.fut f3⟩
  ·rw [if_neg hk] at aK; exact aK.elim
theorem Lg {o : Expr} {name : Str} {apos cpos : Pos} {T id : String} {f : D → List D → M D} {mo : DS → M D} (pa : PlainAttrs T) (slot : Slot T name id) (hty : typeOf (.builtin id) = pure (.type "method_descriptor")) (hm : Hh X id (Lf X EE f)) (ho : QE X EE o mo)
  (hbase : attributeBase o name X.env (eval o X.env) = eval o X.env := by rfl) (hline : (apos.endLine == cpos.line) = true := by rfl) :
  QE X EE (.Call (.Attribute o name apos) [] [] cpos) (bq T f mo aq) := PE.mono (KU pa slot hty hm ho hbase hline) fun σ H Q h => by
 obtain ⟨τ, ρ, G, ab, ok⟩ := jk (k := fun τ d G => if gk T G d then (aq τ).bind (fun ds => f d ds) G else .stuck) h
 refine ⟨τ, ρ, G, ab, ?_⟩
 cases e : mo τ G with
 | stuck => rw [e] at ok; exact ok
 | dF c G' => rw [e] at ok; exact ok
 | ok d G' =>
  rw [e] at ok
  intro v H' ρ' f' cy r'
  obtain ⟨τ2, ρ2, G2, d2, dj, r2, aK⟩ := ok v H' ρ' f' cy r'
  by_cases hk : gk T G2 d2 = true
  ·rw [if_pos hk] at aK
   exact ⟨xo dj r2 hk, σ, τ2, ρ2, G2, d2, [], dj, r2, .nil, aK⟩
  ·rw [if_neg hk] at aK; exact aK.elim
noncomputable def bX : D → List D → M D
 | .obj n, [v] => fun G => match G[n]? with
  | some (.lst xs) => if xs.length < sizeLine then .ok .eY (G.set n (.lst (xs ++ [v]))) else .stuck
  | _ => .stuck
 | _, _ => M.stop
theorem Bm {σ : L2.St} {H : Hp} {τ : DS} {ρ : List Addr} {G : DH} {n : Nat} {xs ys : List D} {d : D} {w : V} {p : Addr} {vs ws : List V} {Q : VK} (ab : Ab X.K X.mg σ H τ ρ G) (hn : ρ[n]? = some p) (hp : H p = some (.lst vs)) (r : au X.K X.mg ρ H ys ws)
  (rd : ∀ H', eZ X.K H H' ρ ρ → Rep X.K X.mg ρ H' d w) (ok : mW X.K X.mg EE H σ τ ρ (.ok d (G.set n (.lst ys))) Q) : Q w (upd H p (.lst ws)) := by
 have f : eZ X.K H (upd H p (.lst ws)) ρ ρ := uc hp ρ
 exact ok w _ ρ f (ab.fut f (ab.hp.put (ds := ys) hn hp r)) (rd _ f)
theorem Bo : Hh X "list.append" (Lf X EE bX) := by
 intro pins s σ0 H x xs v us Q I rx Io ⟨σ, τ, ρ, G, d, ds, ab, rd, Cr, ok⟩
 cases d <;> try exact ok.elim
 rename_i n
 match ds, ok with
 | [], ok => exact ok.elim
 | _ :: _ :: _, ok => exact ok.elim
 | [y], ok =>
  obtain ⟨yv, rfl, ry⟩ := kO Cr
  unfold Rep at rd
  obtain ⟨p, rfl, e1⟩ := rd
  dsimp only [bX] at ok
  cases g : G[n]? with
  | none => rw [g] at ok; exact ok.elim
  | some o =>
   cases o with
   | dead => first | (rw [q] at ok; exact ok.elim) | (rw [q] at aK; exact aK.elim) | (rw [q] at e; cases e; done) | (rw [g] at ok; exact ok.elim) | (rw [g] at q; cases q; done) | (rw [g] at h; cases h; done) | (rw [g2] at ok; exact ok.elim) | (rw [g1, g2] at ok; exact ok.elim) | (rw [q1] at ok; exact ok.elim) | exact ok.elim
   | dct kv => first | (rw [q] at ok; exact ok.elim) | (rw [q] at aK; exact aK.elim) | (rw [q] at e; cases e; done) | (rw [g] at ok; exact ok.elim) | (rw [g] at q; cases q; done) | (rw [g] at h; cases h; done) | (rw [g2] at ok; exact ok.elim) | (rw [g1, g2] at ok; exact ok.elim) | (rw [q1] at ok; exact ok.elim) | exact ok.elim
   | lst zs =>
    rw [g] at ok
    dsimp only at ok
    obtain ⟨p', vs, e2, hp, rs⟩ := ab.hp.lst g
    rw [e1] at e2; cases e2
    by_cases hz : zs.length < sizeLine
    ·rw [if_pos hz] at ok
     exact wY pins s σ0 H _ _ v us Q I rx Io ⟨p, vs, yv, rfl, rfl, hp, by rw [← rs.length]; exact hz, Bm (xs := zs) ab e1 hp (rs.append (.cons ry .nil)) (fun _ _ => by unfold Rep; rfl) ok⟩
    ·rw [if_neg hz] at ok; exact ok.elim
theorem DG {o e : Expr} {apos cpos : Pos} {mo : DS → M D} {m : DS → M (List D)} (ho : QE X EE o mo) (ha : QA X EE [e] m)
  (hbase : attributeBase o "append" X.env (eval o X.env) = eval o X.env := by rfl)
  (hfew : ((backTo cpos (starEach [e] X.env)).all (fun x => !x.1) && (backToKw cpos (keywordEach [] X.env)).all (fun x => x.1.isSome)
   && decide ([e].length + ([] : List Keyword).length + (if ([] : List Keyword).isEmpty then 0 else 1) < 30)) = true := by rfl)
  (hline : (apos.endLine == cpos.line) = true := by rfl) (hs : starEach [e] X.env = (false, eval e X.env) :: starEach [] X.env := by rfl) (hplain : (backTo cpos (starEach [] X.env)).any (·.1) = false := by rfl) :
  QE X EE (.Call (.Attribute o "append" apos) [e] [] cpos) (bq "list" bX mo m) := Cq PySem.F.plainAttrs_list PySem.F.slot_list_append PySem.F.type_list_append Bo ho ha hbase hfew hline hs hplain
noncomputable def pI : D → List D → M D
 | .obj n, [] => fun G => match G[n]? with
  | some (.lst xs) => match xs[xs.length - 1]? with
   | some y => .ok y (G.set n (.lst xs.dropLast))
   | none => .stuck
  | _ => .stuck
 | _, _ => M.stop
theorem au.dropLast {K : PySem.W.Frag} {mg : Str → Option Value} {ρ : List Addr} {H : Hp} {ds : List D} {vs : List V} (r : au K mg ρ H ds vs) : au K mg ρ H ds.dropLast vs.dropLast := by
 rw [List.dropLast_eq_take, List.dropLast_eq_take, ← r.length]
 exact r.take _
theorem Ip : Hh X "list.pop" (Lf X EE pI) := by
 intro pins s σ0 H x xs v us Q I rx Io ⟨σ, τ, ρ, G, d, ds, ab, rd, Cr, ok⟩
 cases d <;> try exact ok.elim
 rename_i n
 match ds, ok with
 | _ :: _, ok => exact ok.elim
 | [], ok =>
  unfold au at Cr; subst Cr
  unfold Rep at rd
  obtain ⟨p, rfl, e1⟩ := rd
  dsimp only [pI] at ok
  cases g : G[n]? with
  | none => rw [g] at ok; exact ok.elim
  | some o =>
   cases o with
   | dead => first | (rw [q] at ok; exact ok.elim) | (rw [q] at aK; exact aK.elim) | (rw [q] at e; cases e; done) | (rw [g] at ok; exact ok.elim) | (rw [g] at q; cases q; done) | (rw [g] at h; cases h; done) | (rw [g2] at ok; exact ok.elim) | (rw [g1, g2] at ok; exact ok.elim) | (rw [q1] at ok; exact ok.elim) | exact ok.elim
   | dct kv => first | (rw [q] at ok; exact ok.elim) | (rw [q] at aK; exact aK.elim) | (rw [q] at e; cases e; done) | (rw [g] at ok; exact ok.elim) | (rw [g] at q; cases q; done) | (rw [g] at h; cases h; done) | (rw [g2] at ok; exact ok.elim) | (rw [g1, g2] at ok; exact ok.elim) | (rw [q1] at ok; exact ok.elim) | exact ok.elim
   | lst zs =>
    rw [g] at ok
    dsimp only at ok
    obtain ⟨p', vs, e2, hp, rs⟩ := ab.hp.lst g
    rw [e1] at e2; cases e2
    cases qz : zs[zs.length - 1]? with
    | none => rw [qz] at ok; exact ok.elim
    | some y =>
     rw [qz] at ok
     obtain ⟨yv, ey, ry⟩ := rs.get qz
     exact KY pins s σ0 H _ _ v us Q I rx Io ⟨p, vs, yv, rfl, rfl, hp, by rw [← rs.length]; exact ey, Bm (xs := zs) ab e1 hp rs.dropLast (fun _ f => ry.mono f) ok⟩
theorem Lh {o : Expr} {apos cpos : Pos} {mo : DS → M D} (ho : QE X EE o mo) (hbase : attributeBase o "pop" X.env (eval o X.env) = eval o X.env := by rfl) (hline : (apos.endLine == cpos.line) = true := by rfl) :
  QE X EE (.Call (.Attribute o "pop" apos) [] [] cpos) (bq "list" pI mo aq) := Lg PySem.F.plainAttrs_list PySem.F.slot_list_pop PySem.F.type_list_pop Ip ho hbase hline
noncomputable def rY (v o i : D) : M D := fun G => match o, i with
 | .obj n, .int k => match G[n]? with
  | some (.lst xs) => match Dr xs.length k with
   | some j => .ok .eY (G.set n (.lst (xs.set j v)))
   | none => .stuck
  | _ => .stuck
 | _, _ => .stuck
noncomputable def pJ (mv mo mi : DS → M D) : MS := fun τ => cO ((mv τ).bind fun v => (mo τ).bind fun o => (mi τ).bind fun i => rY v o i) (fun _ G => .nx τ G) fun c G => .xn c τ G
theorem Fd {o i : Expr} {mv mo mi : DS → M D} {tpos : Pos} (hv : QE X EE a mv) (ho : QE X EE o mo) (hi : QE X EE i mi)
  (hs : swapsWithSole [.Subscript o i tpos] a pos.line X.env = pure false := by rfl) (hw : swappedStores [.Subscript o i tpos] a X.env = pure none := by rfl) (h1 : (assignEach [.Subscript o i tpos] X.env).map (·.2) = [assign (.Subscript o i tpos) X.env] := by rfl)
  (Li : ∀ v, assign (.Subscript o i tpos) X.env v = (do
   let ov ← holding [v] (eval o X.env)
   let iv ← holding [v, ov] (eval i X.env)
   standAt tpos
   holding [v, ov, iv] (setItem ov iv v)
   release [v, ov, iv] []) := by intro _; rfl) : QS X EE (.Assign [.Subscript o i tpos] a pos) (pJ mv mo mi) :=
 PS.mono (Ez hv (Km ho hi set_list Li) hs hw h1) fun Dd σ H ⟨τ, ρ, G, ab, ok⟩ => by
  refine ⟨τ, ρ, G, ab, ?_⟩
  dsimp only [pJ, cO, M.bind] at ok
  cases e1 : mv τ G with
  | stuck => rw [e1] at ok; exact ok
  | dF c G' => rw [e1] at ok; exact fun H' ρ' f cy => ok σ H' ρ' f cy
  | ok v G1 =>
   rw [e1] at ok
   intro vv H1 ρ1 f1 qv r1
   refine ⟨τ, ρ1, G1, qv, ?_⟩
   dsimp only at ok
   cases e2 : mo τ G1 with
   | stuck => rw [e2] at ok; exact ok
   | dF c G' => rw [e2] at ok; exact fun H' ρ' f cy => ok σ H' ρ' (f1.trans f) cy
   | ok ov G2 =>
    rw [e2] at ok
    intro vo H2 ρ2 f2 dj r2
    refine ⟨τ, ρ2, G2, dj, ?_⟩
    dsimp only at ok
    cases e3 : mi τ G2 with
    | stuck => rw [e3] at ok; exact ok
    | dF c G' => rw [e3] at ok; exact fun H' ρ' f cy => ok σ H' ρ' ((f1.trans f2).trans f) cy
    | ok iv G3 =>
     rw [e3] at ok
     intro vi H3 ρ3 f3 zG r3
     dsimp only [rY] at ok
     cases ov <;> try exact ok.elim
     cases iv <;> try exact ok.elim
     rename_i n k
     have r2' := r2.mono f3
     unfold Rep at r2' r3
     obtain ⟨p, rfl, e4⟩ := r2'
     dsimp only at ok
     cases g : G3[n]? with
     | none => rw [g] at ok; exact ok.elim
     | some ob =>
      cases ob with
      | dead => first | (rw [q] at ok; exact ok.elim) | (rw [q] at aK; exact aK.elim) | (rw [q] at e; cases e; done) | (rw [g] at ok; exact ok.elim) | (rw [g] at q; cases q; done) | (rw [g] at h; cases h; done) | (rw [g2] at ok; exact ok.elim) | (rw [g1, g2] at ok; exact ok.elim) | (rw [q1] at ok; exact ok.elim) | exact ok.elim
      | dct kv => first | (rw [q] at ok; exact ok.elim) | (rw [q] at aK; exact aK.elim) | (rw [q] at e; cases e; done) | (rw [g] at ok; exact ok.elim) | (rw [g] at q; cases q; done) | (rw [g] at h; cases h; done) | (rw [g2] at ok; exact ok.elim) | (rw [g1, g2] at ok; exact ok.elim) | (rw [q1] at ok; exact ok.elim) | exact ok.elim
      | lst zs =>
       rw [g] at ok
       dsimp only at ok
       obtain ⟨p', vs, e5, hp, rs⟩ := zG.hp.lst g
       rw [e4] at e5; cases e5
       cases qj : Dr zs.length k with
       | none => rw [qj] at ok; exact ok.elim
       | some j =>
        rw [qj] at ok
        have rr := rs.set (r1.mono (f2.trans f3)) j
        have f4 : eZ X.K H3 (upd H3 p (.lst (vs.set j vv))) ρ3 ρ3 := uc hp ρ3
        exact ⟨p, vs, k, j, rfl, r3, hp, by rw [← rs.length]; exact qj, ok σ _ ρ3 (((f1.trans f2).trans f3).trans f4) (zG.fut f4 (zG.hp.put (ds := zs) e4 hp rr))⟩
end
end L3
end
section
set_option Elab.async false
set_option linter.all false
set_option maxRecDepth 100000
namespace L3
open PySem PySem.Spec L2
structure DI (B : Heap) (l : List Env) (e : Addr) (cls : Value) (h : Heap) : Prop where
 stay : B.StaysIn h
 new : B.get? e = none
 W9 : h.FunFrames B l
 tr : (∃ oe vs a0, h.get? e = some oe ∧ oe.cls = cls ∧ oe.data = .fields vs ∧ vs[0]? = some a0 ∧ vs[1]? = some .none) ∨ ∃ a0 fl, h.TracedAtW B e cls a0 fl
section
variable {M : Model} {A : Around} {E : Value → Shared → Prop} {s : Shared} {B : Heap} {env : Env} {outer l : List Env} {L e : Addr} {cls : Value} {Q : Unit → Shared → Prop}
theorem Bp {env' : Env} (h : env'.frame = env.frame) (v : Value) : noteFrame v env' = noteFrame v env := by
 unfold noteFrame frameOf
 rw [h]
theorem Cs (hfr : A.frames = some (env :: outer)) (hf : env.frame = some L) (f : DI B (env :: outer) e cls s.heap)
  (hQ : ∀ h' a0, Heap.HeldW B (env :: outer) e cls a0 L h' → s.heap.UpToSlots h' → Q () { s with heap := h' }) : wpAny M A (noteFrame (.ref e) env) Q E s := by
 obtain ⟨st, nw, fr, tr⟩ := f
 rcases tr with ⟨oe, vs, a0, he, hc, hd, h0, h1⟩ | ⟨a0, fl, oe, vs, T, oT, ts, he, hcls, hd, h1, M6, M7, hT, Er, h3⟩
 ·subst hc
  unfold noteFrame
  simp only [hf]
  refine wpAny_bind (wpAny_field he hd h1 ?_)
  rw [if_neg (by decide)]
  refine wpAny_entryW hfr fr hf he st nw hd (Array.getElem?_eq_some_iff.mp h1).1 h0 fun h' hN => ?_
  exact hQ h' a0 ⟨hN.1, nw, hN.2.1, hN.2.2.1⟩ hN.2.2.2
 ·by_cases hq : (fl == rawInt L) = true
  ·unfold noteFrame
   simp only [hf]
   refine wpAny_bind (wpAny_field he hd h1 ?_)
   rw [if_pos (show (Value.ref T != Value.none) = true by simp)]
   refine wpAny_bind (wpAny_field hT Er h3 ?_)
   rw [if_pos hq]
   refine wpAny_pure ?_
   have := hQ s.heap a0 ⟨st, nw, fr, oe, vs, T, oT, ts, he, hcls, hd, h1, M6, M7, hT, Er, by rw [h3, beq_iff_eq.mp hq]⟩ (.refl _)
   exact this
  ·obtain ⟨rfl, h0⟩ := hcls
   unfold noteFrame
   simp only [hf]
   refine wpAny_bind (wpAny_field he hd h1 ?_)
   rw [if_pos (show (Value.ref T != Value.none) = true by simp)]
   refine wpAny_bind (wpAny_field hT Er h3 ?_)
   rw [if_neg hq]
   refine wpAny_bind (wpAny_setField hT Er (Array.getElem?_eq_some_iff.mp h3).1 ?_)
   have Es : ∀ b, b ≠ T → (s.heap.update T (Obj.mapFields (·.setIfInBounds 3 Value.none))).get? b = s.heap.get? b := fun b hb => Heap.get?_update_other _ _ (Ne.symm hb)
   have M8 : ∀ b o, s.heap.get? b = some o → (∀ vs, o.data ≠ .fields vs) → b ≠ T := fun b o hb hnf z => by
    rw [z, hT] at hb; cases hb; exact hnf ts Er
   refine wpAny_entryW hfr (fr.of_keeps fun b o hb hnf => ⟨o, (Es b (M8 b o hb hnf)).trans hb, rfl⟩) hf ((Es e (Ne.symm M7)).trans he)
    (fun b o Qj => (Es b fun z => by rw [z, M6] at Qj; cases Qj).trans (st b o Qj)) nw hd (Array.getElem?_eq_some_iff.mp h1).1 h0 fun h' hN => ?_
   exact hQ h' a0 ⟨hN.1, nw, hN.2.1, hN.2.2.1⟩ fun b o hb hnf => hN.2.2.2 b o ((Es b (M8 b o hb hnf)).trans hb) hnf
theorem zQ (hfr : A.frames = some (env :: outer)) (hf : env.frame = some L) (f : DI B (env :: outer) e cls s.heap)
  (hQ : ∀ h' a0, Heap.FlyingW B outer e cls a0 h' → s.heap.UpToSlots h' → Q () { s with heap := h' }) : wpAny M A (leaving env (.ref e)) Q E s := by
 unfold leaving
 refine wpAny_bind (Cs hfr hf f fun h1 a0 hH u1 => ?_)
 refine wpAny_landsW hH fun h2 hF u2 => ?_
 obtain ⟨k1, k2, ⟨_, _, k3⟩, k4⟩ := hF
 exact hQ h2 a0 ⟨k1, k2, k3, k4⟩ (u1.trans u2)
theorem DI.DJ {a0 : Value} {h : Heap} (f : Heap.FlyingW B l e cls a0 h) : DI B l e cls h := ⟨f.1, f.2.1, f.2.2.1, .inr ⟨a0, .none, f.2.2.2⟩⟩
end
structure Sv (X : Cx) (B : Heap) : Prop where
 keep : ∀ b o, X.s₀.heap.get? b = some o → X.H₀ b = none → b ∉ frs X.stack → b ∉ X.ex → B.get? b = some o
 there : ∀ b o, X.s₀.heap.get? b = some o → b ∉ frs X.stack → b ∉ X.ex → ∃ o', B.get? b = some o'
 pins : ∀ p ∈ X.pn, B.get? p.1 = some p.2
noncomputable def Lj (X : Cx) (H : Hp) (e : Addr) (cls : Value) (s : Shared) : Prop := ∃ B, DI B X.stack e cls s.heap ∧ qe X.prog X.w H B ∧ Sv X B
noncomputable def Ct (mg : Str → Option Value) (c : XD) (cls : Value) : Prop := match c with | .mk n _ => mg n = some cls
noncomputable def kh (X : Cx) (EE : fk) : Prop := ∀ (pins : List (Addr × Obj)) (σ : L2.St) (H : Hp) (s : Shared) (e : Addr) (cls : Value) (c : XD), Inv X pins σ H s → Lj X H e cls s → Ct X.mg c cls → EE c σ H → X.xe (.ref e) s
section
variable {X : Cx} {pins : List (Addr × Obj)} {σ : L2.St} {H : Hp} {s : Shared} {h' : Heap}
theorem IsCell.slots {h h' : Heap} {c : Addr} {v : Option Value} (u : h.UpToSlots h') (hc : h.IsCell c v) : h'.IsCell c v := by
 obtain ⟨o, e, d⟩ := hc
 obtain ⟨sl, e'⟩ := u c o e fun vs q => by rw [d] at q; cases q
 exact ⟨_, e', d⟩
theorem Inv.Jx {B : Heap} {t : Nat} (I : Inv X pins σ H s) (C : Sv X B) (hok : qe X.prog X.w H B) (st : B.StaysIn h') (u : s.heap.UpToSlots h') (ht : 0 < t := by first | exact Nat.succ_pos _ | exact (Inv.os (by assumption)).2 | assumption | omega) : Inv X [] σ H { s with heap := h', toks := t } := by
 have Cf : ∀ b o, X.s₀.heap.get? b = some o → b ≠ X.env.locals := fun b o e => Nat.ne_of_lt (Nat.lt_of_lt_of_le (Heap.lt_size e) I.ok.above)
 have M9 : ∀ b o, X.s₀.heap.get? b = some o → b ∉ X.fs → b ∉ frs X.stack := fun b o e hb z => by
  rcases List.mem_cons.mp (I.lC b z) with z | z
  ·exact Cf b o e z
  ·exact hb z
 have slots : ∀ b o, X.s₀.heap.get? b = some o → X.H₀ b = none → b ∈ X.fs → b ∉ X.ex → ∃ sl, h'.get? b = some { o with slots := sl } := fun b o e n hb hx => by
  obtain ⟨sl, e1⟩ := I.base.slot b o e n hb hx
  obtain ⟨_, o', eo, hd⟩ := I.ok.tS.mem hb
  rw [e] at eo; cases eo
  obtain ⟨Mp, e2⟩ := u b _ e1 hd
  exact ⟨Mp, e2⟩
 refine ⟨I.ok, ⟨I.os.1, ht⟩, I.bare, ⟨fun b o e n hb hx => st _ _ (C.keep b o e n (M9 b o e hb) hx), slots, I.base.free, fun b o e hx => ?_, I.base.tups, I.base.oG, I.base.pC⟩, ?_, fun x c e => ?_, I.free, I.oU, fun p hp => ?_, hok.kept st, I.len⟩
 ·by_cases hb : b ∈ X.fs
  ·obtain ⟨sl, e1⟩ := slots b o e (I.ok.J5 b hb) hb hx
   exact ⟨_, e1⟩
  ·obtain ⟨o', e1⟩ := C.there b o e (M9 b o e hb) hx
   exact ⟨o', st _ _ e1⟩
 ·obtain ⟨m, hn, hl⟩ := I.loc
  refine ⟨m, u.ns hn, fun i x v e1 e2 e3 => ?_⟩
  obtain ⟨w, r, l⟩ := hl i x v e1 e2 e3
  refine ⟨w, r, ?_⟩
  rcases l with l | ⟨k, c, e, z⟩
  ·exact .inl l
  ·exact .inr ⟨k, c, e, IsCell.slots u z⟩
 ·obtain ⟨v, z⟩ := I.cell x c e
  exact ⟨v, IsCell.slots u z⟩
 ·have Jy : p ∈ X.pn := by simpa using hp
  obtain ⟨e, n, ne, nf, d⟩ := I.pin p (List.mem_append_left _ Jy)
  exact ⟨st _ _ (C.pins p Jy), n, ne, nf, d⟩
end
structure Na (P : Program) (w : World) (outer : List Env) (H : Hp) (s : Shared) (H' : Hp) (B : Heap) (s' : Shared) : Prop where
 os : s'.os = s.os ∧ 0 < s'.toks
 bare : PyProof.Rows.AllBare s'.gens
 keep : ∀ b o, s.heap.get? b = some o → H b = none → b ∉ frs outer → B.get? b = some o
 there : ∀ b o, s.heap.get? b = some o → b ∉ frs outer → ∃ o', B.get? b = some o'
 slot : ∀ b o, s.heap.get? b = some o → H b = none → b ∈ frs outer → ∃ sl, s'.heap.get? b = some { o with slots := sl }
 free : ∀ b o, s.heap.get? b = some o → H b = none → H' b = none
 tups : ∀ b xs, H b = some (.tup xs) → H' b = some (.tup xs)
 oG : ∀ b o u, H b = some (.oS o u) → H' b = some (.oS o u)
 pC : ∀ b ps, H b = some (.zv ps) → ∃ more, H' b = some (.zv (ps ++ more))
 hok : qe P w H' B
noncomputable def cQ (P : Program) (w : World) : vM := fun outer H s E ev s' => ∃ e cls a0 B H', ev = .ref e ∧ Heap.FlyingW B outer e cls a0 s'.heap ∧ Na P w outer H s H' B s' ∧ E cls none H'
theorem iS {X : Cx} {EE : fk} (h : kh X EE) : Mf (cQ X.prog X.w) X EE := by
 intro pins σ H s ev s' I hq
 obtain ⟨e, cls, a0, B, H', rfl, fl, F, c, hc, ee⟩ := hq
 have un : Un (frs X.stack) [] H H' s.heap s'.heap := ⟨fun b o e n hb _ => fl.1 _ _ (F.keep b o e n hb), fun b o e n hb _ => F.slot b o e n hb, fun b o e n _ => F.free b o e n, fun b o e _ => by
  by_cases hb : b ∈ frs X.stack
  ·obtain ⟨sl, q⟩ := F.slot b o e (I.qg b hb) hb
   exact ⟨_, q⟩
  ·obtain ⟨o', q⟩ := F.there b o e hb
   exact ⟨o', fl.1 _ _ q⟩, F.tups, F.oG, F.pC⟩
 have I' : Inv X pins σ H' s' := I.Ew F.os un (F.hok.kept fl.1) F.bare fun b z => absurd z (by simp)
 refine h pins σ H' s' e cls c I' ⟨B, .DJ fl, F.hok, fun b o eb n hb hx => ?_, fun b o eb hb hx => ?_, fun p hp => ?_⟩ hc ee
 ·have Nb : b ∉ X.fs := fun z => hb (by
   rcases I.ok.stk with q | ⟨q, _⟩
   ·rw [q]; exact z
   ·rw [q]; unfold frs; rw [List.filterMap_cons]; split
    ·exact z
    ·exact List.mem_cons_of_mem _ z)
  exact F.keep b o (I.base.keep b o eb n Nb hx) (I.base.free b o eb n hx) hb
 ·obtain ⟨o', q⟩ := I.base.there b o eb hx
  exact F.there b o' q hb
 ·obtain ⟨q, n, ne, nf, d⟩ := I.pin p (List.mem_append_left _ hp)
  exact F.keep p.1 p.2 q n fun z => by
   rcases List.mem_cons.mp (I.lC _ z) with z | z
   ·exact ne z
   ·exact nf z
end L3
end
section
set_option Elab.async false
set_option linter.all false
set_option maxRecDepth 100000
namespace L3
open PySem PySem.Spec L2
section
variable {P : Program} {w : World} {K : PySem.W.Frag} {mg : Str → Option Value} {base : Heap} {f : Addr} {fd : FuncData}
theorem xq {x qual : Str} {st : Stmt} {N ps : List Str} {k n nn : Nat} {ms : MS} {m : List D → M D} (F : sQ K x qual st f fd) (S : bH N ps (aa st)) (hps : ps.length = n) (hN : N.length = nn) (hm : ∀ ds, m ds = cT nn ms ds)
  (hbody : ∀ (X : Cx) (EE : fk) (cdv : Value) (A : Around) (outer : List Env) (s : Shared) (H : Hp) (E : XK), X = gg (cQ P w) P w K mg base N qual (aa st) f cdv A outer s H E → fW k (A.deeper (PyProof.Rows.envOfC qual (aa st) s.heap.objs.size f cdv)) →
   kh X EE → PassesOwn (model P w) X.A X.env X.xe → A1 X EE (ay st) ms) :
  bx P w K mg base (cQ P w) (k + 1) f fd ps (aW K mg n m) := by
 subst hps hN
 have e : m = fun ds => cT N.length ms ds := funext hm
 subst e
 obtain ⟨oc, od, kV, doc, pm, an, cdv, ct, osl, rfl, lk, hcd⟩ := F.ex
 refine ML lk hcd S (fun vs H Q E h => h.len) fun A outer s H vs Q E hr h => ?_
 obtain ⟨ds, ρ, G, hn, hp, rs, ok⟩ := h
 refine ⟨_, hbody _ (fun c σ H' => ∀ cls, Ct mg c cls → E cls none H') cdv A outer s H E rfl hr ?_ PassesOwn.leaving, ds.map some ++ List.replicate (N.length - ds.length) none, ρ, G, ⟨uF rs, hp⟩, ?_⟩
 ·intro pins σ H' s' e cls c I fx hc ee
  obtain ⟨B, fb, hok, DK⟩ := fx
  refine zQ (L := s.heap.objs.size) I.ok.frames rfl fb fun h' a0 fl u => ?_
  have I' : Inv _ [] σ H' { s' with heap := h' } := Inv.Jx (t := s'.toks) I DK hok fl.1 u
  have Cf : ∀ b o, s.heap.get? b = some o → b ∉ frs outer → b ∉ frs (PyProof.Rows.envOfC qual (aa st) s.heap.objs.size f cdv :: outer) := fun b o e hb z => by
   rcases List.mem_cons.mp (I.lC b z) with z | z
   ·exact absurd (Heap.lt_size e) (by rw [show b = s.heap.objs.size from z]; exact Nat.lt_irrefl _)
   ·exact hb z
  refine ⟨e, cls, a0, B, H', rfl, fl, ⟨I'.os, I'.bare, fun b o eb nb hb => DK.keep b o eb nb (Cf b o eb hb) (by intro z; exact absurd (show b ∈ ([] : List Addr) from z) (by simp)), fun b o eb hb => DK.there b o eb (Cf b o eb hb) (by intro z; exact absurd (show b ∈ ([] : List Addr) from z) (by simp)),
   fun b o eb nb hb => I'.base.slot b o eb nb hb (by intro z; exact absurd (show b ∈ ([] : List Addr) from z) (by simp)), fun b o eb nb => I'.base.free b o eb nb (by intro z; exact absurd (show b ∈ ([] : List Addr) from z) (by simp)), I'.base.tups, I'.base.oG, I'.base.pC, hok⟩, ee cls hc⟩
 ·dsimp only [cT] at ok
  cases q : ms (ds.map some ++ List.replicate (N.length - ds.length) none) G with
  | stuck => rw [q] at ok; exact ok
  | nx τ G' => rw [q] at ok; exact fun σ' H' ρ' f ab => ok .eY H' ρ' f ab.hp (by unfold Rep; rfl)
  | rt d G' => rw [q] at ok; exact fun v H' ρ' f hp r => ok v H' ρ' f hp r
  | bk τ G' => rw [q] at ok; exact ok.elim
  | ct τ G' => rw [q] at ok; exact ok.elim
  | xn c τ G' => rw [q] at ok; exact fun σ' H' ρ' f ab cls hc => ok cls H' ρ' hc f ab.hp
end
abbrev Bq : List Value := [.type "ValueError", .type "Exception", .type "BaseException", .type "object"]
theorem Iq {K : PySem.W.Frag} {h : Heap} {C : Addr} (X : K.In h) (e : PySem.W.excIn K C Bq "ValueError.__new__" = true) :
  ∃ bm N nm q bs hdct sn sub ab col dd k0 k1 k2 k3 k5 mN, h.get? C = some (excClassObj nm q C N bs bm hdct sn sub ab col dd k0 k1 k2 k3 k5 "ValueError.__new__") ∧ h.Ns N mN ∧ mN "__init__" = none ∧ OwnTail h Bq bm := by
 unfold PySem.W.excIn at e
 split at e
 ·rename_i dd cd sl ho
  split at e
  ·rename_i C' bm k0 k1 k2 k3 n k5 hm hs
   simp only [Bool.and_eq_true, beq_iff_eq, Bool.not_eq_true'] at e
   obtain ⟨⟨⟨⟨⟨rfl, rfl⟩, Nc⟩, ht⟩, hok⟩, hni⟩ := e
   obtain ⟨nm, bs, mro, ns, qn, hd, sn, sub, ab, col, del⟩ := cd
   dsimp only at hm Nc hok hni
   subst hm Nc
   have hl : sl = #[k0, k1, k2, k3, some (.builtin "ValueError.__new__"), k5] := by
    cases sl with
    | mk l => exact congrArg Array.mk hs
   subst hl
   exact ⟨bm, ns, nm, qn, bs, hd, sn, sub, ab, col, dd, k0, k1, k2, k3, k5, _, X _ _ ho, .of_isNs (PySem.W.isNs_of_in X hok), PySem.W.nsMap_none_of_in X hok hni, PySem.W.tail_of_in X ht⟩
  ·cases e
 ·cases e
theorem xr {h B base : Heap} : ∀ {l : List Env}, h.FunFrames base l → (∀ b ∈ frs l, B.get? b = none) → h.FunFrames B l
 | [], _, _ => trivial
 | env :: r, ⟨hk, ⟨L, o, hf, _, ho, hd⟩, hr⟩, hB => by
  have hm : ∀ b, b = L ∨ b ∈ frs r → b ∈ frs (env :: r) := fun b hb => by
   unfold frs; rw [List.filterMap_cons, hf]
   rcases hb with z | z
   ·rw [z]; exact List.mem_cons_self
   ·exact List.mem_cons_of_mem _ z
  exact ⟨hk, ⟨L, o, hf, hB L (hm L (.inl rfl)), ho, hd⟩, xr hr fun b hb => hB b (hm b (.inr hb))⟩
theorem zR {P : Program} {w : World} {H : Hp} {h B : Heap} (x : qe P w H h) (k : ∀ b o, H b ≠ none → h.get? b = some o → B.get? b = some o) : qe P w H B := fun a o e =>
 (x a o e).stay (fun b u hb q => k b u (by
  rcases hb with z | z
  ·rw [z, e]; simp
  ·rw [z]; simp) q) (fun _ q => q) fun _ _ q => q
section
variable {X : Cx} {EE : fk} {pins : List (Addr × Obj)} {σ : L2.St} {H : Hp} {s : Shared}
theorem DL {h' : Heap} {e : Addr} {C : Addr} {args : List Value} (I : Inv X pins σ H s) (hm : Heap.MadeExcOf s.heap h' e (.ref C) args) : Lj X H e (.ref C) { s with heap := h' } := by
 have hg : ∀ b o, s.heap.get? b = some o → b ∉ frs X.stack → (PySem.W.hideAll s.heap (frs X.stack)).get? b = some o := fun b o e hb => PySem.W.hideAll_get _ e hb
 have Nb : ∀ b, b ∉ frs X.stack → b ∉ X.fs := fun b hb z => hb (by
  rcases I.ok.stk with q | ⟨q, _⟩
  ·rw [q]; exact z
  ·rw [q]; unfold frs; rw [List.filterMap_cons]; split
   ·exact z
   ·exact List.mem_cons_of_mem _ z)
 obtain ⟨t, he, _, _⟩ := hm.there
 refine ⟨PySem.W.hideAll s.heap (frs X.stack), ⟨fun b o q => hm.keeps b o (PySem.W.of_hideAll _ q), ?_, ?_, .inl ⟨_, _, _, he, rfl, rfl, rfl, rfl⟩⟩, ?_, ⟨fun b o q n hb hx => ?_, fun b o q hb hx => ?_, fun p hp => ?_⟩⟩
 ·cases q : (PySem.W.hideAll s.heap (frs X.stack)).get? e with
  | none => rfl
  | some o => have := PySem.W.of_hideAll _ q; rw [hm.new] at this; cases this
 ·exact (xr I.stack fun b hb => PySem.W.hideAll_none _ hb).of_keeps fun b o q _ => ⟨o, hm.keeps b o q, rfl⟩
 ·exact zR I.hok fun b o n q => hg b o q fun z => n (I.qg b z)
 ·exact hg b o (I.base.keep b o q n (Nb b hb) hx) hb
 ·obtain ⟨o', q'⟩ := I.base.there b o q hx
  exact ⟨o', hg b o' q' hb⟩
 ·obtain ⟨q, n, ne, nf, d⟩ := I.pin p (List.mem_append_left _ hp)
  exact hg _ _ q fun z => (List.mem_cons.mp (I.lC _ z)).elim ne nf
noncomputable def ki (x : Str) (m : DS → M (List D)) : MS := fun τ => cO (m τ) (fun ds G => if ds.length ≤ sizeLine then .xn (.mk x ds) τ G else .stuck) fun c G => .xn c τ G
theorem Fe {x : Str} {C : Addr} {np cpos pos : Pos} {e : Expr} {es : List Expr} {m : DS → M (List D)} (hc : X.calm = true) (hx : kh X EE) (hm : X.mg x = some (.ref C)) (hq : PySem.W.excIn X.K C Bq "ValueError.__new__" = true) (hg : Gl X x) (hd : (x == ("__debug__" : Str)) = false)
  (ha : QA X EE (e :: es) m) (he : starEach (e :: es) X.env = (false, eval e X.env) :: starEach es X.env) (hpl : (backTo cpos (starEach es X.env)).any (·.1) = false) :
  QS X EE (.Raise (some (.Call (.Name x np) (e :: es) [] cpos)) none pos) (ki x m) := by
 intro pins s σ H Dd I h
 obtain ⟨τ, ρ, G, ab, ok⟩ := Bh (k := fun τ ds G => if ds.length ≤ sizeLine then .xn (.mk x ds) τ G else .stuck) h
 obtain ⟨bm, N, nm, q, bs, hdct, sn, sub, cy, col, dd, k0, k1, k2, k3, k5, mN, hC, hN, hni, T⟩ := Iq I.ok.mod.J1 hq
 refine wpAny_Raise_call_subU (C := C) (nm := nm) (q := q) (N := N) (bs := bs) (bm := bm) (hdct := hdct) (sn := sn) (sub := sub) (ab := cy) (col := col) (dd := dd) (k0 := k0) (k1 := k1) (k2 := k2) (k3 := k3) (k5 := k5) PySem.F.excBase_ValueError (bmB := Bq) (by decide +kernel) PySem.F.excBase_ValueError (mN := mN) (T.hasType PySem.F.excBase_ValueError.hasBase) (I.ok.hd hc)
  (by rw [he]; show (false || (backTo cpos (starEach es X.env)).any (·.1)) = false; rw [hpl]; rfl) hni (xU I hg hm ⟨rfl, ?_⟩ hd)
 have h1 := ha cpos pins s σ H _ I ⟨τ, ρ, G, ab, ok⟩
 rw [he] at h1 ⊢
 refine Calls.evalArgs_plain (wpAny_mono h1 (fun us s2 h2 => ?_) fun _ _ z => z)
 obtain ⟨vs, H2, I2, r2, τ2, ρ2, G2, ds, dj, rs, aK⟩ := h2
 by_cases hl : ds.length ≤ sizeLine
 ·rw [if_pos hl] at aK
  refine ⟨rfl, by show us.length ≤ _; rw [← r2.length, ← rs.length]; exact hl, I2.bk _ _ hC, hN.keeps I2.bk, T.keeps I2.bk, fun h' e hmade => ?_⟩
  exact hx pins σ H2 _ e (.ref C) (.mk x ds) (I2.kept (t' := s2.toks) hmade.keeps) (DL I2 hmade) hm (aK σ H2 ρ2 .refl dj)
 ·rw [if_neg hl] at aK; exact aK.elim
end
end L3
end
section
set_option Elab.async false
set_option linter.all false
set_option maxRecDepth 100000
namespace L3
open PySem PySem.Spec L2
noncomputable abbrev Cx.to (X : Cx) (E : Value → Shared → Prop) (pn : List (Addr × Obj)) : Cx := { X with xe := E, pn := pn }
section
variable {X : Cx} {EE : fk} {pins : List (Addr × Obj)} {σ : L2.St} {H : Hp} {s : Shared} {E : Value → Shared → Prop}
end
end L3
end
section
set_option Elab.async false
set_option linter.all false
set_option maxRecDepth 100000
namespace L3
open PySem PySem.Spec L2
noncomputable def g6 (env : Env) : List (Str × NameKind) → List (Str × Addr) → List (Str × Addr)
 | [], acc => acc
 | (n, k) :: r, acc => g6 env r (if k == .free then (match env.cells.lookup n with | some c => (n, c) :: acc | none => acc) else acc)
theorem oX {scope : Scope} {env : Env} (h : ∀ x ∈ scope.names, x.2 = .free → ∃ c, env.cells.lookup x.1 = some c) : closureFor scope env = pure (g6 env scope.names []) := by
 unfold closureFor
 have key : ∀ (names : List (Str × NameKind)) (acc : List (Str × Addr)), (∀ x ∈ names, x.2 = .free → ∃ c, env.cells.lookup x.1 = some c) →
   (forIn names acc fun x r => match x with | (name, kind) => if (kind == NameKind.free) = true then do let y ← cellOf env name; pure (ForInStep.yield ((name, y) :: r)) else pure (ForInStep.yield r)) = (pure (g6 env names acc) : Sem (List (Str × Addr))) := by
  intro names
  induction names with
  | nil => intro acc _; rfl
  | cons x r ih =>
   intro acc hx
   obtain ⟨n, k⟩ := x
   rw [List.forIn_cons]
   by_cases hk : (k == NameKind.free) = true
   ·obtain ⟨c, hc⟩ := hx (n, k) List.mem_cons_self (eq_of_beq hk)
    have e : cellOf env n = pure c := by unfold cellOf; rw [hc]
    simp only [if_pos hk, e, pure_bind]
    rw [ih _ fun y hy => hx y (List.mem_cons_of_mem _ hy)]
    show _ = pure (g6 env r (if (k == NameKind.free) = true then (match env.cells.lookup n with | some c => (n, c) :: acc | none => acc) else acc))
    rw [if_pos hk, hc]
   ·simp only [if_neg hk, pure_bind]
    rw [ih _ fun y hy => hx y (List.mem_cons_of_mem _ hy)]
    show _ = pure (g6 env r (if (k == NameKind.free) = true then (match env.cells.lookup n with | some c => (n, c) :: acc | none => acc) else acc))
    rw [if_neg hk]
 have k2 := key scope.names [] h
 first
  | (rw [k2]; rfl)
  | (simp only [k2, pure_bind])
  | exact k2
theorem uH {env : Env} : ∀ (names : List (Str × NameKind)) (acc : List (Str × Addr)), (∀ y c, acc.lookup y = some c → env.cells.lookup y = some c) → ∀ y c, (g6 env names acc).lookup y = some c → env.cells.lookup y = some c
 | [], acc, h, y, c, e => h y c e
 | (n, k) :: r, acc, h, y, c, e => by
  refine uH r _ (fun z d ez => ?_) y c e
  by_cases hk : (k == NameKind.free) = true
  ·rw [if_pos hk] at ez
   cases q : env.cells.lookup n with
   | none => rw [q] at ez; exact h z d ez
   | some c' =>
    rw [q] at ez
    dsimp only at ez
    rw [List.lookup_cons] at ez
    cases hz : z == n with
    | true => rw [hz] at ez; cases ez; rw [eq_of_beq hz]; exact q
    | false => rw [hz] at ez; exact h z d ez
  ·rw [if_neg hk] at ez
   exact h z d ez
theorem uI {env : Env} : ∀ (names : List (Str × NameKind)) (acc : List (Str × Addr)) (y : Str), ((∃ c, acc.lookup y = some c) ∨ ((y, NameKind.free) ∈ names ∧ ∃ c, env.cells.lookup y = some c)) → ∃ c, (g6 env names acc).lookup y = some c
 | [], acc, y, h => by
  rcases h with h | ⟨h, _⟩
  ·exact h
  ·cases h
 | (n, k) :: r, acc, y, h => by
  refine uI r _ y ?_
  rcases h with ⟨c, h⟩ | ⟨h, c, hc⟩
  ·left
   by_cases hk : (k == NameKind.free) = true
   ·rw [if_pos hk]
    cases q : env.cells.lookup n with
    | none => exact ⟨c, h⟩
    | some c' =>
     dsimp only
     rw [List.lookup_cons]
     cases hz : y == n with
     | true => exact ⟨c', rfl⟩
     | false => exact ⟨c, h⟩
   ·rw [if_neg hk]; exact ⟨c, h⟩
  ·rcases List.mem_cons.mp h with e | h
   ·cases e
    left
    rw [if_pos (by rfl), hc]
    dsimp only
    exact ⟨c, by rw [List.lookup_cons, beq_self_eq_true]⟩
   ·exact .inr ⟨h, c, hc⟩
end L3
end
section
set_option Elab.async false
set_option linter.all false
set_option maxRecDepth 100000
namespace L3
open PySem PySem.Spec L2 PyProof.Rows
noncomputable def mask {α : Type} : List Bool → List (Option α) → List (Option α)
 | _, [] => []
 | [], _ :: r => none :: mask [] r
 | k :: ks, o :: r => (if k then o else none) :: mask ks r
theorem jR {α : Type} : ∀ (ks : List Bool) (l : List (Option α)), (mask ks l).length = l.length
 | _, [] => by unfold mask; rfl
 | [], _ :: r => by unfold mask; simp [jR [] r]
 | k :: ks, o :: r => by unfold mask; simp [jR ks r]
theorem nh {α : Type} {v : α} : ∀ {ks : List Bool} {l : List (Option α)} {i : Nat}, (mask ks l)[i]? = some (some v) → ks[i]? = some true ∧ l[i]? = some (some v)
 | ks, [], i, h => by unfold mask at h; simp at h
 | [], o :: r, 0, h => by unfold mask at h; simp at h
 | [], o :: r, i + 1, h => by
  unfold mask at h
  have := (nh (ks := []) (l := r) (i := i) (by simpa using h)).1
  simp at this
 | k :: ks, o :: r, 0, h => by
  unfold mask at h
  cases k with
  | true => simpa using h
  | false => simp at h
 | k :: ks, o :: r, i + 1, h => by
  unfold mask at h
  have := nh (ks := ks) (l := r) (i := i) (by simpa using h)
  simpa using this
theorem Cu {α : Type} {v : α} : ∀ {ks : List Bool} {l : List (Option α)} {i : Nat}, ks[i]? = some true → l[i]? = some (some v) → (mask ks l)[i]? = some (some v)
 | ks, [], i, _, h => by simp at h
 | [], o :: r, i, h, _ => by simp at h
 | k :: ks, o :: r, 0, h, e => by unfold mask; simp at h e; simp [h, e]
 | k :: ks, o :: r, i + 1, h, e => by
  unfold mask
  have := Cu (ks := ks) (l := r) (i := i) (by simpa using h) (by simpa using e)
  simpa using this
noncomputable def vP (env : Env) (n : Str) (k : NameKind) : NameKind := if (k == .free && env.scope.kind == .function && env.kindOf n == some .cell) then .cell else k
theorem fu {env : Env} {y : Str} : ∀ (names : List (Str × NameKind)), (names.map fun (n, k) => if (k == NameKind.free && env.scope.kind == .function && env.kindOf n == some .cell) then (n, NameKind.cell) else (n, k)).lookup y = (names.lookup y).map (vP env y)
 | [] => rfl
 | (n, k) :: r => by
  have ih := fu (env := env) (y := y) r
  rw [List.map_cons, List.lookup_cons]
  by_cases hc : (k == NameKind.free && env.scope.kind == .function && env.kindOf n == some .cell) = true
  ·rw [if_pos hc, List.lookup_cons]
   cases hy : y == n with
   | true =>
    have e : y = n := eq_of_beq hy
    subst e
    simp [vP, hc]
   | false => exact ih
  ·rw [if_neg hc, List.lookup_cons]
   cases hy : y == n with
   | true =>
    have e : y = n := eq_of_beq hy
    subst e
    simp [vP, hc]
   | false => exact ih
structure cA (O2 : Scope) (N : List Str) (scope : Scope) (xs : List Str) (ks : List Bool) : Prop where
 nd : xs.Nodup
 kind : scope.kind = .function
 Ff : ∀ y ∈ scope.names, y.2 ≠ .cell
 names : ∀ y ∈ scope.names, y.2 = .local → scope.names.lookup y.1 = some .local
 loc : ∀ x ∈ xs, scope.names.lookup x = some .local
 free : ∀ y ∈ scope.names, y.2 = .free → O2.names.lookup y.1 = some .cell ∨ O2.names.lookup y.1 = some .free
 Qk : ((ks.zip N).all fun p => !p.1 || decide (scope.names.lookup p.2 = some .free)) = true
theorem cA.cap {O2 : Scope} {N : List Str} {scope : Scope} {xs : List Str} {ks : List Bool} (S : cA O2 N scope xs ks) : ∀ i < ks.length, ks[i]? = some true → ∀ y ∈ N[i]?, scope.names.lookup y = some .free := fun i _ hk y hy => by
 have h := List.all_eq_true.mp S.Qk (true, y) (List.mem_of_getElem? (i := i) (by rw [List.getElem?_zip_eq_some]; exact ⟨hk, hy⟩))
 simpa using h
noncomputable def rZ (X : Cx) (scope : Scope) (cl : List (Str × Addr)) (xs : List Str) (C : Addr) (pins : List (Addr × Obj)) (s : Shared) (H : Hp) (fp : List Addr) (E : Value → Shared → Prop) : Cx where
 prog := X.prog
 w := X.w
 K := X.K
 mg := X.mg
 base := X.base
 A := X.A
 N := xs ++ X.N
 s₀ := s
 H₀ := H
 env := compEnvC scope cl C X.env
 outer := X.stack
 stack := X.stack
 ex := fp
 fn := fun _ => false
 calm := X.calm
 pn := X.pn ++ pins
 xe := E
section
variable {X : Cx} {scope : Scope} {xs : List Str} {x : Str} {ks : List Bool} {pins : List (Addr × Obj)} {σ : L2.St} {H : Hp} {s s4 : Shared} {fp : List Addr} {E : Value → Shared → Prop} {h1 : Heap}
theorem mem_lookup {α β : Type} [BEq α] [LawfulBEq α] : ∀ {l : List (α × β)} {a : α} {b : β}, l.lookup a = some b → (a, b) ∈ l
 | [], _, _, h => by simp at h
 | (a', b') :: r, a, b, h => by
  rw [List.lookup_cons] at h
  cases hz : a == a' with
  | true => rw [hz] at h; cases h; rw [eq_of_beq hz]; exact List.mem_cons_self
  | false => rw [hz] at h; exact List.mem_cons_of_mem _ (mem_lookup h)
theorem Fg (S : cA X.env.scope X.N scope xs ks) {cl : List (Str × Addr)} {C : Addr} {y : Str} (h : (compEnvC scope cl C X.env).kindOf y = some .cell ∨ (compEnvC scope cl C X.env).kindOf y = some .free) : scope.names.lookup y = some .free := by
 have h' : (scope.names.lookup y).map (vP X.env y) = some .cell ∨ (scope.names.lookup y).map (vP X.env y) = some .free := by
  rw [← fu]; exact h
 cases q : scope.names.lookup y with
 | none => rw [q] at h'; rcases h' with h' | h' <;> cases h'
 | some k =>
  rw [q] at h'
  cases k with
  | free => rfl
  | cell => exact absurd rfl (S.Ff _ (mem_lookup q))
  | _ => rcases h' with h' | h' <;> simp [vP] at h'
theorem r6 (S : cA X.env.scope X.N scope xs ks) {cl : List (Str × Addr)} {C : Addr} {y : Str} (h : scope.names.lookup y = some .free) : (compEnvC scope cl C X.env).kindOf y = some .cell ∨ (compEnvC scope cl C X.env).kindOf y = some .free := by
 have e : (compEnvC scope cl C X.env).kindOf y = (scope.names.lookup y).map (vP X.env y) := fu scope.names
 rw [e, h]
 unfold vP
 dsimp only [Option.map]
 split
 ·exact .inl rfl
 ·exact .inr rfl
theorem uJ (S : cA X.env.scope X.N scope xs ks) (hx : x ∈ xs) {cl : List (Str × Addr)} {C : Addr} : (compEnvC scope cl C X.env).kindOf x = some .local := by
 have e : (compEnvC scope cl C X.env).kindOf x = (scope.names.lookup x).map (vP X.env x) := fu scope.names
 rw [e, S.loc x hx]
 rfl
theorem Br (S : cA X.env.scope X.N scope xs ks) (I : Inv X pins σ H s) (hf : ∀ b ∈ fp, uu X pins H b ∧ b < s.heap.objs.size) (hn : h1.Ns s.heap.objs.size fun _ => none) (hk : ∀ b o, s.heap.get? b = some o → h1.get? b = some o) (t : Nat) (ht : 0 < t := by first | exact Nat.succ_pos _ | exact (Inv.os (by assumption)).2 | assumption | omega) :
  Inv (rZ X scope (g6 X.env scope.names []) xs s.heap.objs.size pins s H fp E) [] (List.replicate xs.length none ++ mask ks σ) H { s with heap := h1, toks := t } := by
 have cs : ∀ y c, (g6 X.env scope.names []).lookup y = some c → X.env.cells.lookup y = some c := uH scope.names [] fun y c e => by simp at e
 have lt : ∀ b o, s.heap.get? b = some o → b ≠ s.heap.objs.size := fun b o e => Nat.ne_of_lt (Heap.lt_size e)
 have Lk : ∀ y c, X.env.cells.lookup y = some c → ∃ v, s.heap.IsCell c v := fun y c e => I.cell y c e
 have Jz : ∀ b, b ≠ X.env.locals → b ∉ X.fs → b ∉ frs X.stack := fun b h1 h2 h3 => (List.mem_cons.mp (I.lC b h3)).elim h1 h2
 refine ⟨⟨I.ok.mod, ?_, I.ok.glob, I.ok.blt, Nat.le_refl _, fun y z c e1 e2 => I.ok.inj y z c (cs y c e1) (cs z c e2), fun y hy => ?_, fun y c h _ => absurd (show false = true from h) Bool.false_ne_true, I.ok.hd, I.ok.frames, .inl rfl, fun b hb => ⟨Nat.ne_of_lt (hf b hb).2, fun y c e => (hf b hb).1.2.2.2.2.1 y c (cs y c e)⟩, I.bs,
   Nat.le_trans I.ok.Jp I.sz, fun b o e hb => ?_, fun b hb => Jz b (hf b hb).1.2.1 (hf b hb).1.2.2.1, I.stack, I.qg⟩, ⟨rfl, ht⟩, I.bare, Un.kept hk, ⟨_, hn, fun i y v e1 e2 e3 => ?_⟩, fun y c e => ?_, I.hok.fresh (Nat.le_refl _), fun y c e => I.oU y c (cs y c e), fun p hp => ?_, I.hok.kept hk, ?_⟩
 ·show (relabel scope X.env).kind = .function
  exact S.kind
 ·have hfree := Fg S hy
  have hm := mem_lookup hfree
  refine uI scope.names [] y (.inr ⟨hm, ?_⟩)
  exact I.ok.has y (S.free _ hm rfl)
 ·rcases (hf b hb).1.2.2.2.1 with z | z
  ·exact I.ok.J3 b o e z
  ·exact absurd (Nat.lt_of_lt_of_le (Heap.lt_size (I.ok.bs b o e).1) z) (Nat.lt_irrefl _)
 ·by_cases hlt : i < xs.length
  ·rw [List.getElem?_append_left (by simpa using hlt), List.getElem?_replicate] at e2
   rw [if_pos hlt] at e2; cases e2
  ·obtain ⟨j, rfl⟩ : ∃ j, i = xs.length + j := ⟨i - xs.length, by omega⟩
   have Hj : (mask ks σ)[j]? = some (some v) := by
    rw [List.getElem?_append_right (by simp)] at e2
    simpa using e2
   obtain ⟨hks, eσ⟩ := nh Hj
   have Hi : X.N[j]? = some y := by
    have : (xs ++ X.N)[xs.length + j]? = some y := e1
    rw [List.getElem?_append_right (by omega)] at this
    simpa using this
   have hfree : scope.names.lookup y = some .free := S.cap j (List.getElem?_eq_some_iff.mp hks).1 hks y (by rw [Hi]; rfl)
   obtain ⟨m, hm, hl⟩ := I.loc
   have hkind := S.free _ (mem_lookup hfree) rfl
   obtain ⟨u, r, l⟩ := hl j y v Hi eσ (hkind.elim (fun z => .inr (.inl z)) fun z => .inr (.inr z))
   refine ⟨u, r, .inr ⟨r6 S hfree, ?_⟩⟩
   rcases l with ⟨k, _⟩ | ⟨k, c, ec, hc⟩
   ·have k' : X.env.scope.names.lookup y = some .local := k
    rcases hkind with z | z <;> (rw [k'] at z; cases z)
   ·obtain ⟨c', Sw⟩ := uI (env := X.env) scope.names [] y (.inr ⟨mem_lookup hfree, c, ec⟩)
    have := cs y c' Sw
    rw [ec] at this; cases this
    exact ⟨c, Sw, hc.keeps hk⟩
 ·obtain ⟨v, hc⟩ := Lk y c (cs y c e)
  exact ⟨v, hc.keeps hk⟩
 ·have Jy : p ∈ X.pn ++ pins := by
   have : p ∈ (X.pn ++ pins) ++ [] := hp
   simpa using this
  obtain ⟨e, n, ne, nf, d⟩ := I.pin p Jy
  exact ⟨hk _ _ e, n, lt _ _ e, Jz _ ne nf, d⟩
 ·show (List.replicate xs.length none ++ mask ks σ).length = (xs ++ X.N).length
  simp [jR, I.len]
theorem Bs {Xc : Cx} {cl : List (Str × Addr)} {C : Addr} {σ0 : L2.St} {own : List (Option V)} {n : Nat} {v : V} {u : Value} {A' : Around} {Q : Unit → Shared → Prop} {E' : Value → Shared → Prop} {M' : Model} {px : Pos} {s0 : Shared} {H0 H1 : Hp} {s1 : Shared} {jP : List (Addr × Obj)}
  (S : cA X.env.scope X.N scope xs ks) (e : Xc = rZ X scope cl xs C pins s0 H0 fp E) (Sx : own.length = xs.length) (hx : xs[n]? = some x) (I : Inv Xc jP (own ++ mask ks σ0) H1 s1) (r : RelV v u) (h : ∀ s', Inv Xc jP (own.set n (some v) ++ mask ks σ0) H1 s' → Q () s') :
  wpAny M' A' (assign (.Name x px) Xc.env u) Q E' s1 := by
 subst e
 obtain ⟨m, hn, hl⟩ := id I.loc
 have Ho := uJ (cl := cl) (C := C) S (List.mem_of_getElem? hx)
 refine wpAny_assign_Name (wpAny_storeName_local Ho hn (fun h' hn' hs => ?_) (by rw [show (rZ X scope cl xs C pins s0 H0 fp E).env.scope.kind = .function from S.kind]; rfl))
 refine h _ ?_
 have Cf : ∀ b o, s0.heap.get? b = some o → b ≠ C := fun b o e => Nat.ne_of_lt (Nat.lt_of_lt_of_le (Heap.lt_size e) I.ok.above)
 obtain ⟨oL, _, _, Sj, _⟩ := id hn
 have hfree : H1 C = none := I.free
 refine ⟨I.ok, ⟨I.os.1, Nat.succ_pos _⟩, I.bare, ⟨fun b o e n hb hx => ?_, fun b o e n hb hx => ?_, I.base.free, fun b o e hx => ?_, I.base.tups, I.base.oG, I.base.pC⟩, ⟨_, hn', fun j y v' e1 e2 e3 => ?_⟩, fun y c e => ?_, I.free, I.oU, fun p hp => ?_, fun b ob e => ?_, by simpa using I.len⟩
 ·exact (hs.2 b (Cf b o e)).trans (I.base.keep b o e n hb hx)
 ·obtain ⟨sl, e1⟩ := I.base.slot b o e n hb hx
  exact ⟨sl, (hs.2 b (Cf b o e)).trans e1⟩
 ·obtain ⟨o', e1⟩ := I.base.there b o e hx
  exact ⟨o', (hs.2 b (Cf b o e)).trans e1⟩
 ·have hnl : n < xs.length := (List.getElem?_eq_some_iff.mp hx).1
  by_cases hlt : j < xs.length
  ·have ey : xs[j]? = some y := by
    have : (xs ++ X.N)[j]? = some y := e1
    rwa [List.getElem?_append_left hlt] at this
   rw [List.getElem?_append_left (by simp; omega)] at e2
   by_cases hj : n = j
   ·subst hj
    rw [hx] at ey; cases ey
    rw [List.getElem?_set, if_pos rfl, if_pos (by omega)] at e2
    cases e2
    exact ⟨u, r, .inl ⟨Ho, by simp⟩⟩
   ·rw [List.getElem?_set_ne hj] at e2
    have hne : y ≠ x := by
     rintro rfl
     obtain ⟨h1, Hi⟩ := List.getElem?_eq_some_iff.mp hx
     obtain ⟨h2, Hj⟩ := List.getElem?_eq_some_iff.mp ey
     exact hj ((List.getElem_inj S.nd).mp (Hi.trans Hj.symm))
    obtain ⟨u', r', q⟩ := hl j y v' e1 (by rw [List.getElem?_append_left (by omega)]; exact e2) e3
    refine ⟨u', r', ?_⟩
    rcases q with ⟨k, e⟩ | ⟨k, c, e, z⟩
    ·exact .inl ⟨k, by simpa [hne] using e⟩
    ·exact .inr ⟨k, c, e, z.sameBut hs (I.Hf y c e)⟩
  ·obtain ⟨j, rfl⟩ : ∃ k, j = xs.length + k := ⟨j - xs.length, by omega⟩
   have Hj : (mask ks σ0)[j]? = some (some v') := by
    rw [List.getElem?_append_right (by simp; omega)] at e2
    simpa [Sx] using e2
   obtain ⟨u', r', q⟩ := hl (xs.length + j) y v' e1 (by rw [List.getElem?_append_right (by omega)]; simpa [Sx] using Hj) e3
   refine ⟨u', r', ?_⟩
   rcases q with ⟨k, e⟩ | ⟨k, c, e, z⟩
   ·obtain ⟨hks, _⟩ := nh Hj
    have Hi : X.N[j]? = some y := by
     have : (xs ++ X.N)[xs.length + j]? = some y := e1
     rw [List.getElem?_append_right (by omega)] at this
     simpa using this
    have hfr : scope.names.lookup y = some .free := S.cap j (List.getElem?_eq_some_iff.mp hks).1 hks y (by rw [Hi]; rfl)
    rcases r6 (cl := cl) (C := C) S hfr with z | z
    ·have k' : (compEnvC scope cl C X.env).kindOf y = some .local := k
     rw [k'] at z; cases z
    ·have k' : (compEnvC scope cl C X.env).kindOf y = some .local := k
     rw [k'] at z; cases z
   ·exact .inr ⟨k, c, e, z.sameBut hs (I.Hf y c e)⟩
 ·obtain ⟨w', z⟩ := I.cell y c e
  exact ⟨w', z.sameBut hs (I.Hf y c e)⟩
 ·obtain ⟨e, n, ne, nf, d⟩ := I.pin p hp
  exact ⟨(hs.2 p.1 ne).trans e, n, ne, nf, d⟩
 ·refine (I.hok b ob e).stay (fun c w' hc q => (hs.2 c ?_).trans q) (fun _ q => q) fun _ _ q => q
  intro ec
  rcases hc with hc | hc
  ·have : H1 C = some ob := by rw [← (show c = C from ec), hc]; exact e
   rw [hfree] at this; cases this
  ·have : H1 C = some (.own b) := by rw [← (show c = C from ec)]; exact hc
   rw [hfree] at this; cases this
noncomputable def yg : V → Hp → List V → Prop := fun x _ vs => vs = [x]
noncomputable def Own (X : Cx) (scope : Scope) (xs : List Str) (ks : List Bool) (tg : Expr) (ow : V → Hp → List V → Prop) : Prop :=
 ∀ (cl : List (Str × Addr)) (C : Addr) (pins : List (Addr × Obj)) (s0 : Shared) (H0 : Hp) (fp : List Addr) (E : Value → Shared → Prop) (Xc : Cx) (σ0 : L2.St) (own : List (Option V)) (x : V) (vs : List V) (u : Value) (H1 : Hp) (s1 : Shared) (jP : List (Addr × Obj)) (E' : Value → Shared → Prop) (Q : Unit → Shared → Prop),
  Xc = rZ X scope cl xs C pins s0 H0 fp E → own.length = xs.length → Inv Xc jP (own ++ mask ks σ0) H1 s1 → RelV x u → ow x H1 vs →
  (vs.length = xs.length → ∀ s', Inv Xc jP (vs.map some ++ mask ks σ0) H1 s' → Q () s') → wpAny (model X.prog X.w) X.A (assign tg Xc.env u) Q E' s1
theorem jm {px : Pos} (S : cA X.env.scope X.N scope [x] ks) : Own X scope [x] ks (.Name x px) yg := by
 intro cl C pins s0 H0 fp E Xc σ0 own v vs u H1 s1 jP E' Q e ho I r hv h
 cases hv
 match own, ho with
 | [a], _ => exact Bs (own := [a]) (n := 0) S e rfl rfl I r fun s' I' => h rfl s' I'
end
end L3
end
section
set_option Elab.async false
set_option linter.all false
set_option maxRecDepth 100000
namespace L3
open PySem PySem.Spec L2
theorem yh {prog : Program} {w : World} {A : Around} {R : Result → Shared → Prop} {s : Shared} {elt target iter : Expr} {ifs : List Expr} {scope : Scope} {pos : Pos} {it acc : Value} {env : Env} (I : Nat → Shared → Prop)
  (turn : ∀ (n : Nat) (s : Shared), I n s → wpAny (model prog w) A (pyNext it) (fun r s₁ => match r with
   | none => R (.ok .next) s₁
   | some v => wpAny (model prog w) A (letOwnedTupleGo target it v) (fun _ s₁' => wpAny (model prog w) A (assign target env v) (fun _ s₂ => wpAny (model prog w) A (forIn ifs true fun c r => if r = true then do let ok ← isTrue c env (eval c env); pure (ForInStep.yield ok) else pure (ForInStep.yield r)) (fun ok s₃ => if ok = true then wpAny (model prog w) A (eval elt env) (fun x s₄ => wpAny (model prog w) A (call (.builtin "list.append") [acc, x]) (fun _ s₅ => ∃ m, m < n ∧ I m s₅) (notedBy (model prog w) A env fun e s' => R (.error e) s') s₄) (notedBy (model prog w) A env fun e s' => R (.error e) s') s₃ else ∃ m, m < n ∧ I m s₃) (notedBy (model prog w) A env fun e s' => R (.error e) s') s₂) (notedBy (model prog w) A env fun e s' => R (.error e) s') s₁') (notedBy (model prog w) A env fun e s' => R (.error e) s') s₁) (notedBy (model prog w) A env fun e s' => R (.error e) s') s) (n : Nat) (h : I n s) :
  codeAny (model prog w) A (.compLoop (.ListComp elt [⟨target, iter, ifs, 0⟩] scope pos) 0 it acc env) R s := by
 refine codeAny_loop rfl I (fun n s hI => ?_) n h
 refine wpAny_noted ?_
 rw [compTurn_list]
 refine wpAny_bind (wpAny_standAt (wpAny_bind (wpAny_mono (turn n s hI) (fun r s₁ h₁ => ?_) fun _ _ z => z)))
 cases r with
 | none => exact wpAny_pure h₁
 | some v =>
  refine wpAny_bind (wpAny_mono h₁ (fun _ s₂ h₂ => wpAny_bind (wpAny_mono h₂ (fun _ s₃ h₃ => wpAny_bind (wpAny_mono h₃ (fun ok s₄ h₄ => ?_) fun _ _ z => z)) fun _ _ z => z)) fun _ _ z => z)
  cases ok with
  | false => exact wpAny_pure ⟨rfl, h₄⟩
  | true => exact wpAny_bind (wpAny_bind (wpAny_mono h₄ (fun x s₅ h₅ => wpAny_bind (wpAny_mono h₅ (fun _ s₆ h₆ => wpAny_pure (wpAny_pure ⟨rfl, h₆⟩)) fun _ _ z => z)) fun _ _ z => z))
noncomputable def CT (X : Cx) (ifs : List Expr) (tt : TT) : Prop := ∀ (pins : List (Addr × Obj)) (s : Shared) (σ : L2.St) (H : Hp) (Q : Bool → Hp → Prop), Inv X pins σ H s → tt σ H Q →
 wpAny (model X.prog X.w) X.A (forIn ifs true fun c r => if r = true then do let ok ← isTrue c X.env (eval c X.env); pure (ForInStep.yield ok) else pure (ForInStep.yield r)) (TP X pins σ Q) X.xe s
theorem Ll {X : Cx} : CT X [] (fun _ H Q => Q true H) := fun _ _ _ H _ I h => wpAny_tests_nil ⟨H, I, h⟩
theorem Lm {X : Cx} {c : Expr} {t : TT} (h : PT X c t) : CT X [c] t := fun pins s σ H Q I q => wpAny_tests_one (h pins s σ H Q I q)
noncomputable def Cv (wi : TI) (ks : List Bool) (ow : V → Hp → List V → Prop) (tt : TT) (te : TE) : TE := fun σ H Q => wi σ H fun J H1 => ∀ D, H1 D = none → ∃ W : Nat → Nat → Hp → Prop, (∃ m, W 0 m (upd H1 D (.lst []))) ∧ ∀ i m H, W i m H →
  (J.stop i H ∧ Q (.ref D) H) ∨ (J.go i H ∧ ∀ x H', J.xW i H x H' → ∃ vs, ow x H' vs ∧ tt (vs.map some ++ mask ks σ) H' fun b H2 => if b = true then te (vs.map some ++ mask ks σ) H2 fun v H3 => ∃ ys, H3 D = some (.lst ys) ∧ ys.length < sizeLine ∧ ∃ m', m' < m ∧ W (i + 1) m' (upd H3 D (.lst (ys ++ [v]))) else ∃ m', m' < m ∧ W (i + 1) m' H2)
section
variable {X : Cx} {scope : Scope} {xs : List Str} {tg : Expr} {ow : V → Hp → List V → Prop} {ks : List Bool} {pins : List (Addr × Obj)} {σ : L2.St} {H : Hp} {s s4 : Shared} {fp : List Addr} {E : Value → Shared → Prop} {h1 : Heap} {elt iter : Expr} {ifs : List Expr} {px pos : Pos} {tt : TT} {te : TE} {wi : TI}
theorem sS {h h' B B' : Heap} : ∀ {l : List Env}, h.FunFrames B l → (∀ b ∈ frs l, ∀ o, h.get? b = some o → (∀ vs, o.data ≠ .fields vs) → ∃ o', h'.get? b = some o' ∧ o'.data = o.data) → (∀ b ∈ frs l, B'.get? b = none) → h'.FunFrames B' l
 | [], _, _, _ => trivial
 | env :: r, ⟨hk, ⟨L, o, hf, _, ho, hd⟩, hr⟩, hm, hB => by
  have sub : ∀ b, b = L ∨ b ∈ frs r → b ∈ frs (env :: r) := fun b hb => by
   unfold frs; rw [List.filterMap_cons, hf]
   rcases hb with z | z
   ·rw [z]; exact List.mem_cons_self
   ·exact List.mem_cons_of_mem _ z
  obtain ⟨o', e1, e2⟩ := hm L (sub L (.inl rfl)) o ho hd
  exact ⟨hk, ⟨L, o', hf, hB L (sub L (.inl rfl)), e1, by rw [e2]; exact hd⟩, sS hr (fun b hb => hm b (sub b (.inr hb))) fun b hb => hB b (sub b (.inr hb))⟩
theorem Bt {EE : fk} {D C e : Addr} {cls : Value} {c : XD} {jP : List (Addr × Obj)} {σ' : L2.St} {H' HD : Hp} {s3 s' : Shared} {cl : List (Str × Addr)} {RE : Value → Shared → Prop} (Ln : kh X EE) (hst : ∃ iK iM L, X.stack = iK :: iM ∧ X.env.frame = iK.frame ∧ iK.frame = some L)
  (I3 : Inv X pins σ HD s3) (hC : C = s3.heap.objs.size) (f3 : ∀ b ∈ fp, uu X pins HD b ∧ b < s3.heap.objs.size)
  (Ql : ∀ s'' : Shared, (∃ m, s''.heap.Ns C m ∧ ∀ h', Heap.SameBut C s''.heap h' → ∀ cenv : Env, cenv.locals = C → wpAny (model X.prog X.w) X.A (passOn "comprehension.variables-let-go" (.ref e) cenv : Sem Value) (fun _ _ => False) X.xe { s'' with heap := h' }) → RE (.ref e) s'')
  (I' : Inv (rZ X scope cl xs C pins s3 HD fp E) jP σ' H' s') (fx : Lj (rZ X scope cl xs C pins s3 HD fp E) H' e cls s') (hc : Ct X.mg c cls) (ee : EE c σ H') :
  notedBy (model X.prog X.w) X.A (compEnvC scope cl C X.env) RE (.ref e) s' := by
 obtain ⟨B, fb, hok, DK⟩ := fx
 obtain ⟨iK, iM, L, h1, h2, h3⟩ := hst
 show wpAny _ X.A (noteFrame (.ref e) (compEnvC scope cl C X.env)) _ _ s'
 rw [Bp (show (compEnvC scope cl C X.env).frame = iK.frame from h2)]
 have hfr : X.A.frames = some (iK :: iM) := by rw [← h1]; exact I3.ok.frames
 have UE : DI B (iK :: iM) e cls s'.heap := by rw [← h1]; exact fb
 refine Cs hfr h3 UE fun h5 a0 hH u5 => ?_
 obtain ⟨k1, k2, k3, oe, vs, T, oT, ts, he, hcls, hd, hv1, M6, M7, hT, Er, UG⟩ := hH
 have Sy : h5.FunFrames B X.stack := by rw [h1]; exact k3
 obtain ⟨m, hm, _⟩ := id I'.loc
 have Sz : h5.Ns C m := u5.ns hm
 refine Ql _ ⟨m, Sz, fun h6 sb cenv _ => ?_⟩
 obtain ⟨oC, Xa, Xb, UH, UI, _⟩ := id Sz
 have Jq : ∀ {b : Addr} {o : Obj} {ws : Array Value}, h5.get? b = some o → o.data = .fields ws → b ≠ C := fun {b o ws} q d z => by
  rw [z, UH] at q; cases q; rw [UI] at d; cases d
 have Qm := (sb.2 e (Jq he hd)).trans he
 have SA := (sb.2 T (Jq hT Er)).trans hT
 have SD : 3 < ts.size := (Array.getElem?_eq_some_iff.mp UG).1
 unfold passOn setFlight
 refine wpAny_bind (wpAny_field Qm hd hv1 ?_)
 rw [if_neg (show ¬ ((Value.ref T == Value.none) = true) by simp)]
 have fin : X.xe (.ref e) { s' with heap := h6.update T (Obj.mapFields (·.setIfInBounds 3 (cenv.frame.elim .none fun f => rawInt f))) } := by
  have Nd : ∀ b, b ≠ T → (h6.update T (Obj.mapFields (·.setIfInBounds 3 (cenv.frame.elim .none fun f => rawInt f)))).get? b = h6.get? b := fun b hb => Heap.get?_update_other _ _ (Ne.symm hb)
  have Es : ∀ b, b ≠ T → b ≠ C → (h6.update T (Obj.mapFields (·.setIfInBounds 3 (cenv.frame.elim .none fun f => rawInt f)))).get? b = h5.get? b := fun b hb hb2 => (Nd b hb).trans (sb.2 b hb2)
  generalize UJ : h6.update T (Obj.mapFields (·.setIfInBounds 3 (cenv.frame.elim .none fun f => rawInt f))) = h7 at Nd Es
  have UK : h7.get? T = some (Obj.mapFields (·.setIfInBounds 3 (cenv.frame.elim .none fun f => rawInt f)) oT) := by rw [← UJ]; exact Heap.get?_update_self _ SA (Obj.isFreed_of_fields (Obj.data_mapFields Er _))
  have UL : ∀ b o, B.get? b = some o → b ≠ T := fun b o q z => by rw [z, M6] at q; cases q
  have O3 : ∀ b o, (B.hide C).get? b = some o → h7.get? b = some o := fun b o q => by
   have q' := Heap.of_hide q
   have nC : b ≠ C := fun z => by rw [z, Heap.hide_self] at q; cases q
   rw [Es b (UL b o q') nC]
   exact k1 b o q'
  have hide : ∀ b o, b ≠ C → B.get? b = some o → (B.hide C).get? b = some o := fun b o z q => (Heap.hide_ne B z).trans q
  have Lo : ∀ b o, s3.heap.get? b = some o → b ≠ C := fun b o q => by rw [hC]; exact Nat.ne_of_lt (Heap.lt_size q)
  have Nf : qe X.prog X.w H' (B.hide C) := zR hok fun b o n q => hide b o (fun z => n (by rw [z]; exact I'.free)) q
  have Nb : ∀ b, b ∉ frs X.stack → b ∉ X.fs := fun b hb z => hb (by
   rcases I3.ok.stk with q | ⟨q, _⟩
   ·rw [q]; exact z
   ·rw [q]; unfold frs; rw [List.filterMap_cons]; split
    ·exact z
    ·exact List.mem_cons_of_mem _ z)
  have slot : ∀ b o, s3.heap.get? b = some o → b ∈ frs X.stack → ∃ sl, h7.get? b = some { o with slots := sl } := fun b o q hb => by
   obtain ⟨_, o', q', hnf⟩ := I3.stack.mem hb
   rw [q] at q'; cases q'
   obtain ⟨sl, e1⟩ := I'.base.slot b o q (I3.qg b hb) hb fun z => (I'.ok.J4 b z) hb
   obtain ⟨Mp, e2⟩ := u5 b _ e1 hnf
   refine ⟨Mp, ?_⟩
   rw [Es b (fun z => by rw [z, hT] at e2; cases e2; exact hnf _ Er) (Lo b o q)]
   exact e2
  have un : Un (frs X.stack) fp HD H' s3.heap h7 := ⟨fun b o q n hb hx => O3 b o (hide b o (Lo b o q) (DK.keep b o q n hb hx)), fun b o q n hb hx => slot b o q hb, fun b o q n hx => I'.base.free b o q n hx, fun b o q hx => by
   by_cases hb : b ∈ frs X.stack
   ·obtain ⟨sl, z⟩ := slot b o q hb
    exact ⟨_, z⟩
   ·obtain ⟨o', z⟩ := DK.there b o q hb hx
    exact ⟨o', O3 b o' (hide b o' (Lo b o q) z)⟩, I'.base.tups, I'.base.oG, I'.base.pC⟩
  have I7 : Inv X pins σ H' { s' with heap := h7 } := I3.Ew (ch := fp) I'.os un (Nf.kept O3) I'.bare fun b hb => by
   obtain ⟨g0, g1, g2, g3, g4, g5⟩ := (f3 b hb).1
   exact ⟨g3, g1, g4, g5⟩
  have SE : ∀ b o, X.s₀.heap.get? b = some o → b ∉ X.ex → b ∉ fp := fun b o q hx hb => by
   obtain ⟨g0, g1, g2, g3, g4, g5⟩ := (f3 b hb).1
   rcases g3 with z | z
   ·exact hx z
   ·exact absurd (Nat.lt_of_lt_of_le (Heap.lt_size q) z) (Nat.lt_irrefl _)
  refine Ln pins σ H' _ e cls c I7 ⟨B.hide C, ⟨O3, ?_, ?_, .inr ⟨a0, _, oe, vs, T, _, _, ?_, hcls, hd, hv1, ?_, M7, UK, Obj.data_mapFields Er _, by simp [SD]; rfl⟩⟩, Nf, ⟨fun b o q n hb hx => ?_, fun b o q hb hx => ?_, fun p hp => ?_⟩⟩ hc ee
  ·cases q : (B.hide C).get? e with
   | none => rfl
   | some o => have := Heap.of_hide q; rw [k2] at this; cases this
  ·refine sS Sy (fun b hb o q hnf => ?_) fun b hb => ?_
   ·refine ⟨o, ?_, rfl⟩
    show h7.get? b = some o
    rw [Es b (fun z => by rw [z, hT] at q; cases q; exact hnf _ Er) ?_]
    ·exact q
    ·obtain ⟨_, o', q', _⟩ := I3.stack.mem hb
     exact Lo b o' q'
   ·cases q : (B.hide C).get? b with
    | none => rfl
    | some o => have := Heap.of_hide q; rw [(Sy.mem hb).1] at this; cases this
  ·exact (Es e (Ne.symm M7) (Jq he hd)).trans he
  ·cases q : (B.hide C).get? T with
   | none => rfl
   | some o => have := Heap.of_hide q; rw [M6] at this; cases this
  ·have q3 := I3.base.keep b o q n (Nb b hb) hx
   exact hide b o (Lo b o q3) (DK.keep b o q3 (I3.base.free b o q n hx) hb (SE b o q hx))
  ·obtain ⟨o', q3⟩ := I3.base.there b o q hx
   obtain ⟨SG, z⟩ := DK.there b o' q3 hb (SE b o q hx)
   exact ⟨SG, hide b SG (Lo b o' q3) z⟩
  ·exact hide _ _ (Lo _ _ (I3.pin p (List.mem_append_left _ hp)).1) (DK.pins p (List.mem_append_left _ hp))
 first
  | (refine wpAny_bind (wpAny_pure ?_); refine wpAny_bind (wpAny_bind (wpAny_field Qm hd hv1 ?_)))
  | refine wpAny_bind (wpAny_bind (wpAny_field Qm hd hv1 ?_))
 rw [if_pos (show (Value.ref T != Value.none) = true by simp)]
 exact wpAny_setField SA Er SD (wpAny_throw fin)
theorem uK {Q : VK} {J : It} {it : Addr} {tn : Nat → Heap → Prop} {RR : Value → Addr → Result → Shared → Prop} {EE : fk} (Ln : kh X EE) (hst : ∃ iK iM L, X.stack = iK :: iM ∧ X.env.frame = iK.frame ∧ iK.frame = some L) (S : cA X.env.scope X.N scope xs ks) (how : Own X scope xs ks tg ow) (hc : X.calm = true) (I : Inv X pins σ H s)
  (T : Turn X.prog X.w X.K tg J fp it tn) (st : tn 0 s.heap) (hf : ∀ b ∈ fp, uu X pins H b)
  (hb : ∀ (cl : List (Str × Addr)) (C : Addr) (pins : List (Addr × Obj)) (s0 : Shared) (H0 : Hp) (fp : List Addr) (E : Value → Shared → Prop), kh (rZ X scope cl xs C pins s0 H0 fp E) (fun c _ H' => EE c σ H') → CT (rZ X scope cl xs C pins s0 H0 fp E) ifs tt ∧ PE (rZ X scope cl xs C pins s0 H0 fp E) elt te)
  (hw : ∀ D, H D = none → ∃ W : Nat → Nat → Hp → Prop, (∃ m, W 0 m (upd H D (.lst []))) ∧ ∀ i m H, W i m H →
   (J.stop i H ∧ Q (.ref D) H) ∨ (J.go i H ∧ ∀ x H', J.xW i H x H' → ∃ vs, ow x H' vs ∧ tt (vs.map some ++ mask ks σ) H' fun b H2 => if b = true then te (vs.map some ++ mask ks σ) H2 fun v H3 => ∃ ys, H3 D = some (.lst ys) ∧ ys.length < sizeLine ∧ ∃ m', m' < m ∧ W (i + 1) m' (upd H3 D (.lst (ys ++ [v]))) else ∃ m', m' < m ∧ W (i + 1) m' H2))
  (hRR : ∀ (D C : Addr) (s' : Shared) (H' : Hp) (m : Str → Option Value), Inv X pins σ H' s' → s'.heap.Ns C m → H' C = none → C ≠ X.env.locals → X.s₀.heap.objs.size ≤ C → (∀ x c, X.env.cells.lookup x = some c → c ≠ C) → (∀ p ∈ X.pn ++ pins, p.1 ≠ C) → Q (.ref D) H' → RR (.ref D) C (.ok .next) s')
  (Ql : ∀ (acc : Value) (C e : Addr) (s'' : Shared), (∃ m, s''.heap.Ns C m ∧ ∀ h', Heap.SameBut C s''.heap h' → ∀ cenv : Env, cenv.locals = C → wpAny (model X.prog X.w) X.A (passOn "comprehension.variables-let-go" (.ref e) cenv : Sem Value) (fun _ _ => False) X.xe { s'' with heap := h' }) → RR acc C (.error (.ref e)) s'') :
  wpAny (model X.prog X.w) X.A (newList []) (fun acc s₃ => wpAny (model X.prog X.w) X.A (newFunctionEnv scope X.env.globals (g6 X.env scope.names []) [] X.env.qual none .none (some X.env)) (fun cenv s₄ =>
   codeAny (model X.prog X.w) X.A (.compStart (.ListComp elt [⟨tg, iter, ifs, 0⟩] scope pos) 0 (.ref it) acc { cenv with scope := relabel scope X.env }) (RR acc cenv.locals) s₄) E s₃) E s := by
 refine wpAny_newObj_type (wpAny_newFunctionEnv S.Ff (by intro y hy; simp at hy) (fun h₁ Ng Nh => ?_) S.kind)
 have I3 : Inv X pins σ (upd H s.heap.objs.size (.lst [])) { s with heap := s.heap.push { cls := .type "list", dict := none, data := .seq ([] : List Value).toArray } } :=
  I.laid (t' := s.toks) (fun b o e => Heap.get?_push_of_some _ e) (Nat.le_refl _) ⟨Nat.zero_le _, [], 0, .nil, Heap.get?_push_size _ rfl⟩
 have hfree := I.hok.fresh (Nat.le_refl s.heap.objs.size)
 generalize SH : ({ s with heap := s.heap.push { cls := .type "list", dict := none, data := .seq ([] : List Value).toArray } } : Shared) = s3 at I3 Ng Nh ⊢
 have hsz : s3.heap.objs.size = s.heap.objs.size + 1 := by rw [← SH]; exact Heap.size_push ..
 have Ni : ∀ b o, s.heap.get? b = some o → s3.heap.get? b = some o := fun b o e => by rw [← SH]; exact Heap.get?_push_of_some _ e
 have Nj : ∀ b ∈ fp, b < s.heap.objs.size := fun b hb' => by
  obtain ⟨o, e, _⟩ := T.obj 0 _ st b hb'
  exact Heap.lt_size e
 have f3 : ∀ b ∈ fp, uu X pins (upd H s.heap.objs.size (.lst [])) b ∧ b < s3.heap.objs.size := fun b hb' =>
  ⟨⟨by rw [aZ (Nat.ne_of_lt (Nj b hb'))]; exact (hf b hb').1, (hf b hb').2⟩, by rw [hsz]; exact Nat.lt_succ_of_lt (Nj b hb')⟩
 have Fi : ∀ b o, s3.heap.get? b = some o → h₁.get? b = some o := fun b o e => Nh.extBut b o (Nat.ne_of_lt (Heap.lt_size e)) (Heap.get?_push_of_some _ e)
 obtain ⟨W, ⟨m0, w0⟩, turn⟩ := hw s.heap.objs.size hfree
 generalize hX : rZ X scope (g6 X.env scope.names []) xs s3.heap.objs.size pins s3 (upd H s.heap.objs.size (.lst [])) fp (notedBy (model X.prog X.w) X.A (compEnvC scope (g6 X.env scope.names []) s3.heap.objs.size X.env) fun e s' => RR (.ref s.heap.objs.size) s3.heap.objs.size (.error e) s') = Xc
 have I4 : Inv Xc [] (List.replicate xs.length none ++ mask ks σ) (upd H s.heap.objs.size (.lst [])) { s3 with heap := h₁, toks := s3.toks + ([] : List (Str × Value)).length } := by
  rw [← hX]
  exact Br S I3 f3 (by simpa using Ng) Fi _
 have G9 : CT Xc ifs tt ∧ PE Xc elt te := by
  rw [← hX]
  exact hb _ _ _ _ _ _ _ fun jP σ' H' s' e cls c I' fx hc ee => Bt (RE := fun e s' => RR (.ref s.heap.objs.size) s3.heap.objs.size (.error e) s') (D := s.heap.objs.size) Ln hst I3 rfl f3 (fun s'' => Ql _ _ e s'') I' fx hc ee
 have zS : Xc.prog = X.prog := by rw [← hX]; rfl
 have ew : Xc.w = X.w := by rw [← hX]; rfl
 have eK : Xc.K = X.K := by rw [← hX]; rfl
 have eA : Xc.A = X.A := by rw [← hX]; rfl
 have JA : Xc.calm = true := by rw [← hX]; exact hc
 have Qn : Xc.xe = notedBy (model X.prog X.w) X.A Xc.env fun e s' => RR (.ref s.heap.objs.size) s3.heap.objs.size (.error e) s' := by rw [← hX]; rfl
 have Lp : Xc.env = compEnvC scope (g6 X.env scope.names []) s3.heap.objs.size X.env := by rw [← hX]; rfl
 have UM : Xc.stack = X.stack := by rw [← hX]; rfl
 have Qo : ∀ {H' : Hp}, (∀ b ∈ fp, H' b = none) → ∀ b ∈ fp, uu Xc [] H' b := fun {H'} hn b hb' => by
  obtain ⟨g0, g1, g2, g3, g4, g5⟩ := (f3 b hb').1
  rw [← hX]
  refine ⟨hn b hb', Nat.ne_of_lt (f3 b hb').2, fun z => (List.mem_cons.mp (I3.lC b z)).elim g1 g2, .inl hb', fun y c e => g4 y c (uH scope.names [] (fun y c e => by simp at e) y c e), fun p hp => g5 p ?_⟩
  have : p ∈ (X.pn ++ pins) ++ [] := hp
  simpa using this
 have fin : ∀ (s' : Shared) (H' : Hp) (a0 : List (Option V)), Inv Xc [] (a0 ++ mask ks σ) H' s' → Q (.ref s.heap.objs.size) H' → RR (.ref s.heap.objs.size) s3.heap.objs.size (.ok .next) s' := fun s' H' a0 I' q => by
  have hloc := I'.loc
  obtain ⟨m, hm, _⟩ := hloc
  have hC : H' s3.heap.objs.size = none := by have := I'.free; rw [Lp] at this; exact this
  have hU : Un (frs X.stack) fp (upd H s.heap.objs.size (.lst [])) H' s3.heap s'.heap := by
   have := I'.base
   rw [← hX] at this
   exact this
  have hos : s'.os = s3.os ∧ 0 < s'.toks := by have := I'.os; rw [← hX] at this; exact this
  have Qp : qe X.prog X.w H' s'.heap := by have := I'.hok; rw [← hX] at this; exact this
  have I5 : Inv X pins σ H' s' := I3.Ew hos hU Qp I'.bare fun b hb' => by
   obtain ⟨g0, g1, g2, g3, g4, g5⟩ := (f3 b hb').1
   exact ⟨g3, g1, g4, g5⟩
  refine hRR _ _ s' H' m I5 (by rw [Lp] at hm; exact hm) hC (Nat.ne_of_gt I3.lt) (Nat.le_trans I3.sz (Nat.le_refl _)) (fun y c e z => ?_) (fun p hp z => ?_) q
  ·obtain ⟨v, hv⟩ := I3.cell y c e
   exact absurd hv.lt (by rw [z]; exact Nat.lt_irrefl _)
  ·exact absurd (Heap.lt_size (I3.pin p hp).1) (by rw [z]; exact Nat.lt_irrefl _)
 have loop : codeAny (model X.prog X.w) X.A (.compLoop (.ListComp elt [⟨tg, iter, ifs, 0⟩] scope pos) 0 (.ref it) (.ref s.heap.objs.size) Xc.env) (RR (.ref s.heap.objs.size) s3.heap.objs.size)
   { s3 with heap := h₁, toks := s3.toks + ([] : List (Str × Value)).length } := by
  refine yh (fun n s' => ∃ i a0 H', a0.length = xs.length ∧ Inv Xc [] (a0 ++ mask ks σ) H' s' ∧ tn i s'.heap ∧ (∀ b ∈ fp, H' b = none) ∧ W i n H') ?_ m0 ⟨0, List.replicate xs.length none, _, by simp, I4, T.keep 0 _ _ st fun b hb' o e => Fi b o (Ni b o e), fun b hb' => (f3 b hb').1.1, w0⟩
  rintro n s5 ⟨i, a0, H5, UN, I5, Mb, OV, w5⟩
  rcases turn i n H5 w5 with ⟨stop, q⟩ | ⟨go, step⟩
  ·have hd := T.done Xc zS ew eK JA i [] s5 _ H5 (fun _ _ => False) I5 (Qo OV) Mb stop
   rw [eA] at hd
   refine wpAny_mono hd (fun r s6 hr => ?_) (fun _ _ z => False.elim z)
   obtain ⟨rfl, I6⟩ := hr
   exact fin s6 H5 a0 I6 q
  ·have hd := T.item Xc zS ew eK JA i [] s5 _ H5 (fun _ _ => False) I5 (Qo OV) Mb go
   rw [eA] at hd
   refine wpAny_mono hd (fun r s6 hr => ?_) (fun _ _ z => False.elim z)
   obtain ⟨u, rfl, h6⟩ := hr
   refine wpAny_mono h6 (fun _ s7 hq => ?_) (fun _ _ z => False.elim z)
   obtain ⟨v, H7, I7, r7, y7, Qq, UO⟩ := hq
   obtain ⟨vs, hvs, step⟩ := step v H7 y7
   have UP : Inv Xc (rT fp s7.heap) (a0 ++ mask ks σ) H7 s7 := by
    have := Inv.pinned (pins := []) I7 (Qo UO) (T.obj _ _ Qq)
    simpa using this
   have back : ∀ {σ' : L2.St} {H' : Hp} {s' : Shared}, Inv Xc (rT fp s7.heap) σ' H' s' → Inv Xc [] σ' H' s' ∧ tn (i + 1) s'.heap ∧ ∀ b ∈ fp, H' b = none := fun {σ' H' s'} I' => by
    refine ⟨I'.qh fun p hp => absurd hp (by simp), T.keep _ _ _ Qq fun b hb' o e => (I'.pin (b, o) (List.mem_append_right _ (lD hb' e))).1, fun b hb' => ?_⟩
    obtain ⟨o, e, d⟩ := T.obj _ _ Qq b hb'
    exact (I'.pin (b, o) (List.mem_append_right _ (lD hb' e))).2.1
   refine how _ _ _ _ _ _ _ Xc σ a0 v vs u H7 s7 _ _ _ hX.symm UN UP r7 hvs fun SI s8 UQ => ?_
   have ht := G9.1 _ s8 _ H7 _ UQ step
   rw [zS, ew, eA, Qn] at ht
   refine wpAny_mono ht (fun UR s9 h9 => ?_) (fun _ _ z => z)
   obtain ⟨H9, I9, q9⟩ := h9
   cases UR with
   | false =>
    rw [if_neg Bool.false_ne_true] at q9 ⊢
    obtain ⟨m', hm', w'⟩ := q9
    obtain ⟨US, UT, UU⟩ := back I9
    exact ⟨m', hm', i + 1, vs.map some, H9, by simpa using SI, US, UT, UU, w'⟩
   | true =>
    rw [if_pos rfl] at q9 ⊢
    have he := G9.2 _ s9 _ H9 _ I9 q9
    rw [zS, ew, eA, Qn] at he
    refine wpAny_mono he (fun y UW Lq => ?_) (fun _ _ z => z)
    obtain ⟨yv, UX, UY, UZ, ys, hD, hlen, m', hm', w'⟩ := Lq
    have ha := wY (X := Xc) _ UW _ UX (.ref s.heap.objs.size) [yv] (.ref s.heap.objs.size) [y] (fun _ H' => ∃ m', m' < n ∧ W (i + 1) m' H') UY rfl (.cons UZ .nil) ⟨_, ys, yv, rfl, rfl, hD, hlen, m', hm', w'⟩
    rw [zS, ew, eA, Qn] at ha
    refine wpAny_mono ha (fun _ Xd h11 => ?_) (fun _ _ z => z)
    obtain ⟨_, U0, U1, _, U3, Qs, w''⟩ := h11
    obtain ⟨Qt, Qu, Qv⟩ := back U1
    exact ⟨U3, Qs, i + 1, vs.map some, U0, by simpa using SI, Qt, Qu, Qv, w''⟩
 rw [Lp] at loop
 exact codeAny_compStart_list loop (T.self X.A 0 _ _ _ (T.keep 0 _ _ st fun b hb' o e => Fi b o (Ni b o e)) loop)
theorem Ir {EE : fk} {tt : L2.St → TT} {te : L2.St → TE} (Ln : kh X EE) (hst : ∃ iK iM L, X.stack = iK :: iM ∧ X.env.frame = iK.frame ∧ iK.frame = some L) (S : cA X.env.scope X.N scope xs ks) (how : Own X scope xs ks tg ow) (hc : X.calm = true) (hi : PI X tg iter wi)
  (hb : ∀ (σ : L2.St) (cl : List (Str × Addr)) (C : Addr) (pins : List (Addr × Obj)) (s0 : Shared) (H0 : Hp) (fp : List Addr) (E : Value → Shared → Prop), kh (rZ X scope cl xs C pins s0 H0 fp E) (fun c _ H' => EE c σ H') → CT (rZ X scope cl xs C pins s0 H0 fp E) ifs (tt σ) ∧ PE (rZ X scope cl xs C pins s0 H0 fp E) elt (te σ))
  (hs : ∀ x, foldedSetIterable iter X.env x = pure x := by intro _; rfl) : PE X (.ListComp elt [⟨tg, iter, ifs, 0⟩] scope pos) (fun σ => Cv wi ks ow (tt σ) (te σ) σ) := by
 intro pins s σ H Q I h
 rw [eval_ListComp]
 refine wpAny_comprehension_free (use := none) rfl hs (oX fun y hy hfr => I.ok.has y.1 (S.free y hy hfr)) S.kind S.names (fV (hi pins s σ H _ I h) fun v s1 h1 => fV h1 fun itv s2 h2 => ?_)
 obtain ⟨it, fp, tn, J, H2, rfl, I2, T, st2, f2, q⟩ := h2
 refine uK (RR := fun acc C => compPost (model X.prog X.w) X.A X.xe none (EP X pins σ Q) acc C) Ln hst S how hc I2 T st2 f2 (hb σ) q ?_ (fun _ _ _ _ z => z)
 intro D C s' H' m I' hn hC h1 h2 h3 h4 q'
 refine ⟨m, hn, fun h' sb => ?_⟩
 exact ⟨.ref D, H', I'.turned (t' := s'.toks) (fun b o hb e => (sb.2 b hb).trans e) hC h1 (.inr h2) h3 h4, rfl, q'⟩
theorem Cw {EE : fk} {tt : L2.St → TT} {te : L2.St → TE} (Ln : kh X EE) (hst : ∃ iK iM L, X.stack = iK :: iM ∧ X.env.frame = iK.frame ∧ iK.frame = some L) {y : Str} {i : Nat} {py spos : Pos} (S : cA X.env.scope X.N scope xs ks) (how : Own X scope xs ks tg ow) (hc : X.calm = true) (hN : X.N.Nodup) (hi : PI X tg iter wi) (hy : X.N[i]? = some y) (hl : X.env.scope.names.lookup y = some .local)
  (hsw : swapsWith (.ListComp elt [⟨tg, iter, ifs, 0⟩] scope pos) (some (.Name y py)) spos.line X.env = pure true)
  (hb : ∀ (σ : L2.St) (cl : List (Str × Addr)) (C : Addr) (pins : List (Addr × Obj)) (s0 : Shared) (H0 : Hp) (fp : List Addr) (E : Value → Shared → Prop), kh (rZ X scope cl xs C pins s0 H0 fp E) (fun c _ H' => EE c σ H') → CT (rZ X scope cl xs C pins s0 H0 fp E) ifs (tt σ) ∧ PE (rZ X scope cl xs C pins s0 H0 fp E) elt (te σ))
  (hs : ∀ x, foldedSetIterable iter X.env x = pure x := by intro _; rfl) : PS X (.Assign [.Name y py] (.ListComp elt [⟨tg, iter, ifs, 0⟩] scope pos) spos) (HA (fun σ => Cv wi ks ow (tt σ) (te σ) σ) (wM i)) := by
 intro pins s σ H Dd I h
 rw [exec_Assign_Name_used _ _ _ _ hsw]
 refine wpAny_bind (wpAny_standAt (wpAny_bind ?_))
 show wpAny _ X.A (do let _ ← comprehension (.ListComp elt [⟨tg, iter, ifs, 0⟩] scope pos) scope X.env _ (newList []) false (eval iter X.env) (some (assign (.Name y py) X.env))) _ _ s
 refine wpAny_bind (wpAny_mono (wpAny_comprehension_free (use := some (assign (.Name y py) X.env)) (Q := fun _ s' => SP X pins Dd .next s') rfl hs (oX fun y hy hfr => I.ok.has y.1 (S.free y hy hfr)) S.kind S.names
  (fV (hi pins s σ H _ I h) fun v s1 h1 => fV h1 fun itv s2 h2 => ?_)) (fun _ s' hq => wpAny_pure (wpAny_pure hq)) fun _ _ e => e)
 obtain ⟨it, fp, tn, J, H2, rfl, I2, T, st2, f2, q⟩ := h2
 refine uK (Q := fun v H' => Dd.nx (σ.set i (some v)) H') (RR := fun acc C => compPost (model X.prog X.w) X.A X.xe (some (assign (.Name y py) X.env)) (fun _ s' => SP X pins Dd .next s') acc C) Ln hst S how hc I2 T st2 f2 (hb σ) q ?_ (fun _ _ _ _ z => z)
 intro D C s' H' m I' hn hC h1 h2 h3 h4 q'
 show wpAny _ X.A (assign (.Name y py) X.env (.ref D)) _ _ s'
 refine wpAny_assign_Name (wL I' hN hy (.inl hl) (v := .ref D) (u := .ref D) rfl (fun s'' U4 sb => ?_) (.inr hl))
 obtain ⟨a, sb, ha⟩ := sb
 have hne : C ≠ a := by
  rcases ha with e | e
  ·rw [e]; exact h1
  ·exact fun z => h3 y a e z.symm
 refine ⟨m, hn.sameBut sb hne, fun h'' sb' => ?_⟩
 exact ⟨_, H', U4.turned (t' := s''.toks) (fun b o hb e => (sb'.2 b hb).trans e) hC h1 (.inr h2) h3 h4, q'⟩
end
end L3
end
section
set_option Elab.async false
set_option linter.all false
set_option maxRecDepth 100000
namespace L3
open PySem PySem.Spec L2
noncomputable def oN : D → Option (List D) := fun d => some [d]
noncomputable def oT (n : Nat) : D → Option (List D)
 | .tup xs => if xs.length = n then some xs else none
 | _ => none
noncomputable def r8 (K : PySem.W.Frag) (mg : Str → Option Value) (ow : V → Hp → List V → Prop) (gO : D → Option (List D)) : Prop :=
 ∀ (ρ : List Addr) (H : Hp) (d : D) (v : V) (os : List D), Rep K mg ρ H d v → gO d = some os → ∃ vs, ow v H vs ∧ au K mg ρ H os vs
theorem g7 {K : PySem.W.Frag} {mg : Str → Option Value} : r8 K mg yg oN := fun ρ H d v os r e => by
 cases e
 exact ⟨[v], rfl, .cons r .nil⟩
noncomputable def Iu (K : PySem.W.Frag) (mg : Str → Option Value) (H H' : Hp) (ρ : List Addr) : Prop := eZ K H H' ρ ρ ∧ ∀ G, kg K mg H ρ G → kg K mg H' ρ G
theorem Iu.refl {K : PySem.W.Frag} {mg : Str → Option Value} {H : Hp} {ρ : List Addr} : Iu K mg H H ρ := ⟨.refl, fun _ h => h⟩
noncomputable def cZ (gO : D → Option (List D)) (ks : List Bool) (tt : DS → M Bool) (te : DS → M D) (n : Nat) (d : D) (τ : DS) (G : DH) : Out Unit := match gO d with
 | none => .stuck
 | some os => match tt (os.map some ++ mask ks τ) G with
 | .ok true G1 => match te (os.map some ++ mask ks τ) G1 with
  | .ok v G2 => match G2[n]? with
   | some (.lst ys) => if ys.length < sizeLine then .ok () (G2.set n (.lst (ys ++ [v]))) else .stuck
   | _ => .stuck
  | .dF c G2 => .dF c G2
  | .stuck => .stuck
 | .ok false G1 => .ok () G1
 | .dF c G1 => .dF c G1
 | .stuck => .stuck
noncomputable def dm (gO : D → Option (List D)) (ks : List Bool) (tt : DS → M Bool) (te : DS → M D) (n : Nat) : List D → DS → DH → Out D
 | [], _, G => .ok (.obj n) G
 | d :: r, τ, G => match cZ gO ks tt te n d τ G with
  | .ok _ G' => dm gO ks tt te n r τ G'
  | .dF c G' => .dF c G'
  | .stuck => .stuck
noncomputable def ni (gO : D → Option (List D)) (ks : List Bool) (tt : DS → M Bool) (te : DS → M D) (n src : Nat) : Nat → Nat → DS → DH → Out D
 | 0, _, _, _ => .stuck
 | f + 1, k, τ, G => match G[src]? with
  | some (.lst xs) => match xs[k]? with
   | none => .ok (.obj n) G
   | some d => match cZ gO ks tt te n d τ G with
    | .ok _ G' => ni gO ks tt te n src f (k + 1) τ G'
    | .dF c G' => .dF c G'
    | .stuck => .stuck
  | _ => .stuck
noncomputable def gD (gO : D → Option (List D)) (ks : List Bool) (m : DS → M D) (tt : DS → M Bool) (te : DS → M D) : DS → M D := fun τ => (m τ).bind fun d G => match d with
 | .obj k => match G[k]? with
  | some (.lst xs) => ni gO ks tt te G.length k (xs.length + 1) 0 τ (G ++ [.lst []])
  | _ => .stuck
 | .tup xs => dm gO ks tt te G.length xs τ (G ++ [.lst []])
 | .con xs => dm gO ks tt te G.length xs τ (G ++ [.lst []])
 | .str z => dm gO ks tt te G.length (z.cps.toList.map fun c => .str ⟨#[c]⟩) τ (G ++ [.lst []])
 | _ => .stuck
noncomputable def uL (tR : List D → Option (List D)) (gO : D → Option (List D)) (ks : List Bool) (m : DS → M (List D)) (tt : DS → M Bool) (te : DS → M D) : DS → M D := fun τ => (m τ).bind fun ds G => match tR ds with
 | some xs => dm gO ks tt te G.length xs τ (G ++ [.lst []])
 | none => .stuck
section
variable {X : Cx} {EE : fk} {gO : D → Option (List D)} {ow : V → Hp → List V → Prop} {xs : List Str} {tg : Expr} {ks : List Bool} {tt : DS → M Bool} {te : DS → M D}
theorem DM {K : PySem.W.Frag} {mg : Str → Option Value} {σ : L2.St} {H : Hp} {τ : DS} {ρ : List Addr} {os : List D} {vs : List V} (h : vO K mg H ρ σ τ) (r : au K mg ρ H os vs) : vO K mg H ρ (vs.map some ++ mask ks σ) (os.map some ++ mask ks τ) := by
 have hl := r.length
 refine ⟨by simp [jR, h.1, hl], fun i e he => ?_⟩
 by_cases hi : i < os.length
 ·rw [List.getElem?_append_left (by simpa using hi), List.getElem?_map] at he
  cases q : os[i]? with
  | none => rw [q] at he; cases he
  | some d =>
   rw [q] at he; cases he
   obtain ⟨v, e1, r1⟩ := r.get q
   exact ⟨v, by rw [List.getElem?_append_left (by simp; omega), List.getElem?_map, e1]; rfl, r1⟩
 ·rw [List.getElem?_append_right (by simp; omega)] at he
  obtain ⟨h1, h2⟩ := nh he
  obtain ⟨w, e1, r1⟩ := h.2 _ e h2
  refine ⟨w, ?_, r1⟩
  rw [List.getElem?_append_right (by simp; omega)]
  have := Cu h1 e1
  simpa [hl] using this
noncomputable def zw (EE : fk) (σ : L2.St) : fk := fun c _ H' => EE c σ H'
theorem xu (hO : r8 X.K X.mg ow gO) {W : Hp → Prop} {n : Nat} {p : Addr} {σ : L2.St} {H : Hp} {τ : DS} {ρ : List Addr} {G : DH} {d : D} {v : V} (ab : Ab X.K X.mg σ H τ ρ G) (r : Rep X.K X.mg ρ H d v) (hn : ρ[n]? = some p)
  (hW : match cZ gO ks tt te n d τ G with
   | .stuck => False
   | .ok _ G' => ∀ H' ρ', eZ X.K H H' ρ ρ' → Ab X.K X.mg σ H' τ ρ' G' → W H'
   | .dF c G' => ∀ H' ρ', eZ X.K H H' ρ ρ' → Ab X.K X.mg σ H' τ ρ' G' → EE c σ H') :
  ∃ vs, ow v H vs ∧ liftT X.K X.mg (zw EE σ) tt (vs.map some ++ mask ks σ) H fun b H2 => if b = true then dI X.K X.mg (zw EE σ) te (vs.map some ++ mask ks σ) H2 fun u H3 => ∃ ys, H3 p = some (.lst ys) ∧ ys.length < sizeLine ∧ W (upd H3 p (.lst (ys ++ [u]))) else W H2 := by
 unfold cZ at hW
 cases qo : gO d with
 | none => rw [qo] at hW; exact hW.elim
 | some os =>
 rw [qo] at hW
 dsimp only at hW
 obtain ⟨us, HR, U5⟩ := hO ρ H d v os r qo
 refine ⟨us, HR, ?_⟩
 refine ⟨_, ρ, G, ⟨DM ab.st U5, ab.hp⟩, ?_⟩
 cases q : tt (os.map some ++ mask ks τ) G with
 | stuck => rw [q] at hW; exact hW
 | dF c G1 => rw [q] at hW; exact fun H' ρ' f cy => hW H' ρ' f ⟨ab.st.mono f, cy.hp⟩
 | ok b G1 =>
  rw [q] at hW
  intro H1 ρ1 f1 qv
  cases b with
  | false =>
   rw [if_neg Bool.false_ne_true]
   exact hW H1 ρ1 f1 ⟨ab.st.mono f1, qv.hp⟩
  | true =>
   rw [if_pos rfl]
   dsimp only at hW
   refine ⟨_, ρ1, G1, qv, ?_⟩
   cases q2 : te (os.map some ++ mask ks τ) G1 with
   | stuck => rw [q2] at hW; exact hW
   | dF c G2 => rw [q2] at hW; exact fun H' ρ' f cy => hW H' ρ' (f1.trans f) ⟨ab.st.mono (f1.trans f), cy.hp⟩
   | ok u G2 =>
    rw [q2] at hW
    dsimp only at hW
    intro w H2 ρ2 f2 dj r2
    cases q3 : G2[n]? with
    | none => rw [q3] at hW; exact hW.elim
    | some o =>
     cases o with
     | dead => first | (rw [q] at ok; exact ok.elim) | (rw [q] at aK; exact aK.elim) | (rw [q3] at hW; exact hW.elim) | (rw [q] at e; cases e; done) | (rw [g] at ok; exact ok.elim) | (rw [g] at q; cases q; done) | (rw [g] at h; cases h; done) | exact ok.elim
     | dct kv => first | (rw [q] at ok; exact ok.elim) | (rw [q] at aK; exact aK.elim) | (rw [q3] at hW; exact hW.elim) | (rw [q] at e; cases e; done) | (rw [g] at ok; exact ok.elim) | (rw [g] at q; cases q; done) | (rw [g] at h; cases h; done) | exact ok.elim
     | lst ys =>
      rw [q3] at hW
      dsimp only at hW
      by_cases hl : ys.length < sizeLine
      ·rw [if_pos hl] at hW
       dsimp only at hW
       obtain ⟨p', vs, e1, e2, rs⟩ := dj.hp.lst q3
       have Iv := f1.trans f2
       rw [Iv.get hn] at e1; cases e1
       refine ⟨vs, e2, by rw [← rs.length]; exact hl, ?_⟩
       have f3 : eZ X.K H2 (upd H2 p (.lst (vs ++ [w]))) ρ2 ρ2 := uc e2 ρ2
       exact hW _ ρ2 (Iv.trans f3) ⟨ab.st.mono (Iv.trans f3), dj.hp.put (ds := ys) (Iv.get hn) e2 (rs.append (.cons r2 .nil))⟩
      ·rw [if_neg hl] at hW; exact hW.elim
theorem lG (hO : r8 X.K X.mg ow gO) {Q : VK} {J : It} {H0 : Hp} {σ : L2.St} {ρ0 : List Addr} {G0 : DH} {τ : DS} (ds : List D)
  (go : ∀ i H ρ, i < ds.length → eZ X.K H0 H ρ0 ρ → J.go i H) (stop : ∀ i H ρ, ds.length ≤ i → eZ X.K H0 H ρ0 ρ → J.stop i H)
  (xW : ∀ i d H ρ x H', ds[i]? = some d → eZ X.K H0 H ρ0 ρ → J.xW i H x H' → Iu X.K X.mg H H' ρ ∧ Rep X.K X.mg ρ H' d x)
  (ab : Ab X.K X.mg σ H0 τ ρ0 G0) (ok : mW X.K X.mg EE H0 σ τ ρ0 (dm gO ks tt te G0.length ds τ (G0 ++ [.lst []])) Q) :
  ∀ D, H0 D = none → ∃ W : Nat → Nat → Hp → Prop, (∃ m, W 0 m (upd H0 D (.lst []))) ∧ ∀ i m H, W i m H →
   (J.stop i H ∧ Q (.ref D) H) ∨ (J.go i H ∧ ∀ x H', J.xW i H x H' → ∃ vs, ow x H' vs ∧ liftT X.K X.mg (zw EE σ) tt (vs.map some ++ mask ks σ) H' fun b H2 => if b = true then dI X.K X.mg (zw EE σ) te (vs.map some ++ mask ks σ) H2 fun v H3 => ∃ ys, H3 D = some (.lst ys) ∧ ys.length < sizeLine ∧ ∃ m', m' < m ∧ W (i + 1) m' (upd H3 D (.lst (ys ++ [v]))) else ∃ m', m' < m ∧ W (i + 1) m' H2) := by
 intro D hD
 have f0 : eZ X.K H0 (upd H0 D (.lst [])) ρ0 (ρ0 ++ [D]) := (n5 hD ρ0).trans (qu ρ0 D)
 have Lr : Ab X.K X.mg σ (upd H0 D (.lst [])) τ (ρ0 ++ [D]) (G0 ++ [.lst []]) := ab.fut f0 (ab.hp.more hD .nil)
 have hn0 : (ρ0 ++ [D])[G0.length]? = some D := by rw [← ab.hp.hl, cz]
 refine ⟨fun i m H => i ≤ ds.length ∧ m = ds.length - i ∧ ∃ ρ G, Ab X.K X.mg σ H τ ρ G ∧ eZ X.K H0 H ρ0 ρ ∧ ρ[G0.length]? = some D ∧ mW X.K X.mg EE H σ τ ρ (dm gO ks tt te G0.length (ds.drop i) τ G) Q,
  ⟨ds.length, Nat.zero_le _, rfl, ρ0 ++ [D], _, Lr, f0, hn0, by simpa using ok.fut f0⟩, ?_⟩
 rintro i m H ⟨hi, rfl, ρ, G, ab, f, hn, ok⟩
 by_cases hlt : i < ds.length
 ·refine .inr ⟨go i H ρ hlt f, fun x H' y => ?_⟩
  obtain ⟨⟨fN, hN⟩, rx⟩ := xW i ds[i] H ρ x H' (List.getElem?_eq_getElem hlt) f y
  replace ok := mW.fut fN ok
  replace ab : Ab X.K X.mg σ H' τ ρ G := ab.fut fN (hN _ ab.hp)
  replace f := f.trans fN
  rw [List.drop_eq_getElem_cons hlt] at ok
  unfold dm at ok
  refine xu hO (W := fun H3 => ∃ m', m' < ds.length - i ∧ i + 1 ≤ ds.length ∧ m' = ds.length - (i + 1) ∧ ∃ ρ G, Ab X.K X.mg σ H3 τ ρ G ∧ eZ X.K H0 H3 ρ0 ρ ∧ ρ[G0.length]? = some D ∧ mW X.K X.mg EE H3 σ τ ρ (dm gO ks tt te G0.length (ds.drop (i + 1)) τ G) Q)
    ab rx hn ?_
  cases e : cZ gO ks tt te G0.length ds[i] τ G with
  | stuck => rw [e] at ok; exact ok
  | dF c G' => rw [e] at ok; exact ok
  | ok _ G' =>
   rw [e] at ok
   exact fun H3 ρ3 f3 zG => ⟨ds.length - (i + 1), by omega, hlt, rfl, ρ3, G', zG, f.trans f3, f3.get hn, ok.fut f3⟩
 ·have e : i = ds.length := by omega
  subst e
  refine .inl ⟨stop _ H ρ (Nat.le_refl _) f, ?_⟩
  rw [List.drop_eq_nil_of_le (Nat.le_refl _)] at ok
  exact ok _ H ρ .refl ab (by unfold Rep; exact ⟨D, rfl, hn⟩)
theorem qx (hO : r8 X.K X.mg ow gO) {Q : VK} {H0 : Hp} {σ : L2.St} {ρ0 : List Addr} {G0 : DH} {τ : DS} {k fuel : Nat} {p : Addr} (hk : ρ0[k]? = some p)
  (ab : Ab X.K X.mg σ H0 τ ρ0 G0) (ok : mW X.K X.mg EE H0 σ τ ρ0 (ni gO ks tt te G0.length k fuel 0 τ (G0 ++ [.lst []])) Q) :
  ∀ D, H0 D = none → ∃ W : Nat → Nat → Hp → Prop, (∃ m, W 0 m (upd H0 D (.lst []))) ∧ ∀ i m H, W i m H →
   ((Hg X.K p).stop i H ∧ Q (.ref D) H) ∨ ((Hg X.K p).go i H ∧ ∀ x H', (Hg X.K p).xW i H x H' → ∃ vs, ow x H' vs ∧ liftT X.K X.mg (zw EE σ) tt (vs.map some ++ mask ks σ) H' fun b H2 => if b = true then dI X.K X.mg (zw EE σ) te (vs.map some ++ mask ks σ) H2 fun v H3 => ∃ ys, H3 D = some (.lst ys) ∧ ys.length < sizeLine ∧ ∃ m', m' < m ∧ W (i + 1) m' (upd H3 D (.lst (ys ++ [v]))) else ∃ m', m' < m ∧ W (i + 1) m' H2) := by
 intro D hD
 have f0 : eZ X.K H0 (upd H0 D (.lst [])) ρ0 (ρ0 ++ [D]) := (n5 hD ρ0).trans (qu ρ0 D)
 have Lr : Ab X.K X.mg σ (upd H0 D (.lst [])) τ (ρ0 ++ [D]) (G0 ++ [.lst []]) := ab.fut f0 (ab.hp.more hD .nil)
 have hn0 : (ρ0 ++ [D])[G0.length]? = some D := by rw [← ab.hp.hl, cz]
 refine ⟨fun i m H => ∃ ρ G, Ab X.K X.mg σ H τ ρ G ∧ eZ X.K H0 H ρ0 ρ ∧ ρ[G0.length]? = some D ∧ mW X.K X.mg EE H σ τ ρ (ni gO ks tt te G0.length k m i τ G) Q,
  ⟨fuel, ρ0 ++ [D], _, Lr, f0, hn0, ok.fut f0⟩, ?_⟩
 rintro i m H ⟨ρ, G, ab, f, hn, ok⟩
 cases m with
 | zero => exact ok.elim
 | succ m =>
  unfold ni at ok
  cases q : G[k]? with
  | none => rw [q] at ok; exact ok.elim
  | some o =>
   cases o with
   | dead => first | (rw [q] at ok; exact ok.elim) | (rw [q] at aK; exact aK.elim) | (rw [q3] at hW; exact hW.elim) | (rw [q] at e; cases e; done) | (rw [g] at ok; exact ok.elim) | (rw [g] at q; cases q; done) | (rw [g] at h; cases h; done) | exact ok.elim
   | dct kv => first | (rw [q] at ok; exact ok.elim) | (rw [q] at aK; exact aK.elim) | (rw [q3] at hW; exact hW.elim) | (rw [q] at e; cases e; done) | (rw [g] at ok; exact ok.elim) | (rw [g] at q; cases q; done) | (rw [g] at h; cases h; done) | exact ok.elim
   | lst ds =>
    rw [q] at ok
    dsimp only at ok
    obtain ⟨p', xs, e1, e2, rs⟩ := ab.hp.lst q
    rw [f.get hk] at e1; cases e1
    cases qd : ds[i]? with
    | none =>
     rw [qd] at ok
     have hl : xs.length ≤ i := by rw [← rs.length]; exact List.getElem?_eq_none_iff.mp qd
     exact .inl ⟨⟨xs, .of e2, hl⟩, ok _ H ρ .refl ab (by unfold Rep; exact ⟨D, rfl, hn⟩)⟩
    | some d =>
     rw [qd] at ok
     dsimp only at ok
     obtain ⟨x0, ex, rx⟩ := rs.get qd
     refine .inr ⟨⟨xs, x0, .of e2, ex⟩, fun x H' y => ?_⟩
     obtain ⟨rfl, y⟩ := y
     have e3 := y xs (.of e2)
     rw [ex] at e3; cases e3
     refine xu hO (W := fun H3 => ∃ m', m' < m + 1 ∧ ∃ ρ G, Ab X.K X.mg σ H3 τ ρ G ∧ eZ X.K H0 H3 ρ0 ρ ∧ ρ[G0.length]? = some D ∧ mW X.K X.mg EE H3 σ τ ρ (ni gO ks tt te G0.length k m' (i + 1) τ G) Q)
       ab rx hn ?_
     cases e : cZ gO ks tt te G0.length d τ G with
     | stuck => rw [e] at ok; exact ok
     | dF c G' => rw [e] at ok; exact ok
     | ok _ G' =>
      rw [e] at ok
      exact fun H3 ρ3 f3 zG => ⟨m, Nat.lt_succ_self _, ρ3, G', zG, f.trans f3, f3.get hn, ok.fut f3⟩
variable {scope : Scope} {elt iter a b : Expr} {ifs : List Expr} {px pos : Pos} {m : DS → M D}
theorem xw (hO : r8 X.K X.mg ow gO) {σ : L2.St} {H : Hp} {Q : VK} (h : dI X.K X.mg EE (gD gO ks m tt te) σ H Q) :
  Cv (fun σ H R => dI X.K X.mg EE m σ H fun x H1 => (∃ p, x = .ref p ∧ (∃ xs, pD X.K H1 p xs) ∧ R (Hg X.K p) H1) ∨ (∃ p, x = .ref p ∧ (∃ xs, rS X.K H1 p xs) ∧ R (OU X.K p) H1) ∨ ∃ z, x = .str z ∧ R (Ij z) H1) ks ow (liftT X.K X.mg (zw EE σ) tt) (dI X.K X.mg (zw EE σ) te) σ H Q := by
 obtain ⟨τ, ρ, G, ab, ok⟩ := jk (k := fun τ d G => match d with
  | .obj k => match G[k]? with
   | some (.lst xs) => ni gO ks tt te G.length k (xs.length + 1) 0 τ (G ++ [.lst []])
   | _ => .stuck
  | .tup xs => dm gO ks tt te G.length xs τ (G ++ [.lst []])
  | .con xs => dm gO ks tt te G.length xs τ (G ++ [.lst []])
  | .str z => dm gO ks tt te G.length (z.cps.toList.map fun c => .str ⟨#[c]⟩) τ (G ++ [.lst []])
  | _ => .stuck) h
 refine ⟨τ, ρ, G, ab, ?_⟩
 cases e : m τ G with
 | stuck => rw [e] at ok; exact ok
 | dF c G' => rw [e] at ok; exact ok
 | ok d G' =>
  rw [e] at ok
  intro v H1 ρ1 f1 qv r1
  obtain ⟨τ2, ρ2, G2, d2, dj, r2, aK⟩ := ok v H1 ρ1 f1 qv r1
  cases d2 <;> try exact aK.elim
  case obj n =>
   dsimp only at aK
   unfold Rep at r2
   obtain ⟨p, rfl, e1⟩ := r2
   cases q : G2[n]? with
   | none => rw [q] at aK; exact aK.elim
   | some o =>
    cases o with
    | dead => first | (rw [q] at ok; exact ok.elim) | (rw [q] at aK; exact aK.elim) | (rw [q3] at hW; exact hW.elim) | (rw [q] at e; cases e; done) | (rw [g] at ok; exact ok.elim) | (rw [g] at q; cases q; done) | (rw [g] at h; cases h; done) | exact ok.elim
    | dct kv => first | (rw [q] at ok; exact ok.elim) | (rw [q] at aK; exact aK.elim) | (rw [q3] at hW; exact hW.elim) | (rw [q] at e; cases e; done) | (rw [g] at ok; exact ok.elim) | (rw [g] at q; cases q; done) | (rw [g] at h; cases h; done) | exact ok.elim
    | lst xs =>
     rw [q] at aK
     obtain ⟨p', vs, e2, h2, rs⟩ := dj.hp.lst q
     rw [e1] at e2; cases e2
     exact .inl ⟨p, rfl, ⟨vs, .of h2⟩, qx hO e1 dj aK⟩
  case tup xs =>
   unfold Rep at r2
   obtain ⟨p, vs, rfl, sq, rs⟩ := r2
   refine .inr (.inl ⟨p, rfl, ⟨vs, sq⟩, lG hO xs (fun i H' ρ' hi f => ?_) (fun i H' ρ' hi f => ?_) (fun i d' H' ρ' x M4 hd f y => ?_) dj aK⟩)
   ·rw [rs.length] at hi
    exact ⟨vs, vs[i], f.tup _ _ sq, List.getElem?_eq_getElem hi⟩
   ·exact ⟨vs, f.tup _ _ sq, by rw [← rs.length]; exact hi⟩
   ·obtain ⟨rfl, y⟩ := y
    obtain ⟨w', ew, rw'⟩ := rs.get hd
    have := y vs (f.tup _ _ sq)
    rw [ew] at this; cases this
    exact ⟨.refl, rw'.mono f⟩
  case con xs =>
   unfold Rep at r2
   obtain ⟨p, vs, rfl, sq, rs⟩ := r2
   refine .inl ⟨p, rfl, ⟨vs, sq.seq⟩, lG hO xs (fun i H' ρ' hi f => ?_) (fun i H' ρ' hi f => ?_) (fun i d' H' ρ' x M4 hd f y => ?_) dj aK⟩
   ·rw [rs.length] at hi
    exact ⟨vs, vs[i], (f.con _ _ sq).seq, List.getElem?_eq_getElem hi⟩
   ·exact ⟨vs, (f.con _ _ sq).seq, by rw [← rs.length]; exact hi⟩
   ·obtain ⟨rfl, y⟩ := y
    obtain ⟨w', ew, rw'⟩ := rs.get hd
    have := y vs (f.con _ _ sq).seq
    rw [ew] at this; cases this
    exact ⟨.refl, rw'.mono f⟩
  case str z =>
   unfold Rep at r2; subst r2
   refine .inr (.inr ⟨z, rfl, lG hO (z.cps.toList.map fun c => .str ⟨#[c]⟩) (fun i H' ρ' hi f => ?_) (fun i H' ρ' hi f => ?_) (fun i d' H' ρ' x M4 hd f y => ?_) dj aK⟩)
   ·simpa [Ij] using hi
   ·simpa [Ij] using hi
   ·obtain ⟨rfl, c, hc, rfl⟩ := y
    rw [List.getElem?_map] at hd
    have : z.cps.toList[i]? = some c := by simpa using hc
    rw [this] at hd
    cases hd
    exact ⟨.refl, by unfold Rep; rfl⟩
noncomputable def sU (X : Cx) (scope : Scope) (xs : List Str) (ifs : List Expr) (elt : Expr) (tt : DS → M Bool) (te : DS → M D) : Prop :=
 ∀ (cl : List (Str × Addr)) (C : Addr) (pins : List (Addr × Obj)) (s0 : Shared) (H0 : Hp) (fp : List Addr) (E : Value → Shared → Prop) (EE : fk), kh (rZ X scope cl xs C pins s0 H0 fp E) EE → CT (rZ X scope cl xs C pins s0 H0 fp E) ifs (liftT X.K X.mg EE tt) ∧ QE (rZ X scope cl xs C pins s0 H0 fp E) EE elt te
noncomputable def iN : DS → M Bool := fun _ => M.ret true
theorem jd (h : ∀ (cl : List (Str × Addr)) (C : Addr) (pins : List (Addr × Obj)) (s0 : Shared) (H0 : Hp) (fp : List Addr) (E : Value → Shared → Prop) (EE : fk), kh (rZ X scope cl xs C pins s0 H0 fp E) EE → QE (rZ X scope cl xs C pins s0 H0 fp E) EE elt te) : sU X scope xs [] elt iN te :=
 fun cl C pins s0 H0 fp E EE hx => ⟨fun jP s σ H Q I ⟨τ, ρ, G, ab, ok⟩ => Ll jP s σ H Q I (ok H ρ .refl ab), h cl C pins s0 H0 fp E EE hx⟩
theorem DP {c : Expr} (h : ∀ (cl : List (Str × Addr)) (C : Addr) (pins : List (Addr × Obj)) (s0 : Shared) (H0 : Hp) (fp : List Addr) (E : Value → Shared → Prop) (EE : fk), kh (rZ X scope cl xs C pins s0 H0 fp E) EE → QT (rZ X scope cl xs C pins s0 H0 fp E) EE c tt ∧ QE (rZ X scope cl xs C pins s0 H0 fp E) EE elt te) : sU X scope xs [c] elt tt te :=
 fun cl C pins s0 H0 fp E EE hx => ⟨Lm (h cl C pins s0 H0 fp E EE hx).1, (h cl C pins s0 H0 fp E EE hx).2⟩
noncomputable def d9 (X : Cx) : Prop := ∃ iK iM L, X.stack = iK :: iM ∧ X.env.frame = iK.frame ∧ iK.frame = some L
theorem Iw (hx : kh X EE) (hst : d9 X) (S : cA X.env.scope X.N scope xs ks) (how : Own X scope xs ks tg ow) (hO : r8 X.K X.mg ow gO) (hc : X.calm = true) (ha : QE X EE iter m) (hb : sU X scope xs ifs elt tt te) (hs : ∀ x, foldedSetIterable iter X.env x = pure x := by intro _; rfl) :
  QE X EE (.ListComp elt [⟨tg, iter, ifs, 0⟩] scope pos) (gD gO ks m tt te) := PE.mono (Ir (tt := fun σ => liftT X.K X.mg (zw EE σ) tt) (te := fun σ => dI X.K X.mg (zw EE σ) te) hx hst S how hc (PI.any ha) (fun σ cl C pins s0 H0 fp E => hb cl C pins s0 H0 fp E _) hs) fun _ _ _ h => xw hO h
theorem Iz {y : Str} {i : Nat} {py spos : Pos} (hx : kh X EE) (hst : d9 X) (S : cA X.env.scope X.N scope xs ks) (how : Own X scope xs ks tg ow) (hO : r8 X.K X.mg ow gO) (hc : X.calm = true) (hN : X.N.Nodup) (ha : QE X EE iter m) (hb : sU X scope xs ifs elt tt te) (hy : X.N[i]? = some y := by rfl) (hl : X.env.scope.names.lookup y = some .local := by rfl)
  (hsw : swapsWith (.ListComp elt [⟨tg, iter, ifs, 0⟩] scope pos) (some (.Name y py)) spos.line X.env = pure true := by rfl) (hs : ∀ x, foldedSetIterable iter X.env x = pure x := by intro _; rfl) :
  QS X EE (.Assign [.Name y py] (.ListComp elt [⟨tg, iter, ifs, 0⟩] scope pos) spos) (bC i (gD gO ks m tt te)) := PS.mono (Cw (tt := fun σ => liftT X.K X.mg (zw EE σ) tt) (te := fun σ => dI X.K X.mg (zw EE σ) te) hx hst S how hc hN (PI.any ha) hy hl hsw (fun σ cl C pins s0 H0 fp E => hb cl C pins s0 H0 fp E _) hs) fun Dd σ H h => by
 obtain ⟨τ, ρ, G, ab, ok⟩ := h
 refine xw hO (EE := EE) (Q := fun v H1 => wM i v σ H1 Dd.nx) ⟨τ, ρ, G, ab, ?_⟩
 dsimp only [bC, cO] at ok
 cases e : gD gO ks m tt te τ G with
 | stuck => rw [e] at ok; exact ok
 | dF c G' => rw [e] at ok; exact fun H' ρ' f cy => ok σ H' ρ' f cy
 | ok d G' => rw [e] at ok; exact fun v H' ρ' f cy r => ok _ H' ρ' f (cy.set r)
theorem Fj (hO : r8 X.K X.mg ow gO) {Q : VK} {H0 : Hp} {σ : L2.St} {ρ0 : List Addr} {G0 : DH} {τ : DS} (lo : Int) (n : Nat) (ab : Ab X.K X.mg σ H0 τ ρ0 G0)
  (ok : mW X.K X.mg EE H0 σ τ ρ0 (dm gO ks tt te G0.length ((List.range n).map fun (k : Nat) => .int (lo + (k : Int))) τ (G0 ++ [.lst []])) Q) :
  ∀ D, H0 D = none → ∃ W : Nat → Nat → Hp → Prop, (∃ m, W 0 m (upd H0 D (.lst []))) ∧ ∀ i m H, W i m H →
   ((wO lo n).stop i H ∧ Q (.ref D) H) ∨ ((wO lo n).go i H ∧ ∀ x H', (wO lo n).xW i H x H' → ∃ vs, ow x H' vs ∧ liftT X.K X.mg (zw EE σ) tt (vs.map some ++ mask ks σ) H' fun b H2 => if b = true then dI X.K X.mg (zw EE σ) te (vs.map some ++ mask ks σ) H2 fun v H3 => ∃ ys, H3 D = some (.lst ys) ∧ ys.length < sizeLine ∧ ∃ m', m' < m ∧ W (i + 1) m' (upd H3 D (.lst (ys ++ [v]))) else ∃ m', m' < m ∧ W (i + 1) m' H2) :=
 lG hO (J := wO lo n) _ (fun i H ρ hi f => by simpa [wO] using hi) (fun i H ρ hi f => by simpa [wO] using hi) (fun i d H ρ x H' hd f y => by
  obtain ⟨rfl, rfl⟩ := y
  rw [List.getElem?_map] at hd
  cases q : (List.range n)[i]? with
  | none => rw [q] at hd; cases hd
  | some k =>
   rw [q] at hd
   obtain ⟨hk, e⟩ := List.getElem?_eq_some_iff.mp q
   rw [List.getElem_range] at e
   subst e
   cases hd
   exact ⟨.refl, by unfold Rep; rfl⟩) ab ok
variable {ma : DS → M (List D)}
theorem zT (hO : r8 X.K X.mg ow gO) {σ : L2.St} {H : Hp} {Q : VK} (h : dI X.K X.mg EE (uL mX gO ks ma tt te) σ H Q) : Cv (Jr (sR X.K X.mg EE ma)) ks ow (liftT X.K X.mg (zw EE σ) tt) (dI X.K X.mg (zw EE σ) te) σ H Q := by
 obtain ⟨τ, ρ, G, ab, ok⟩ := uA (k := fun τ ds G => match mX ds with | some xs => dm gO ks tt te G.length xs τ (G ++ [.lst []]) | none => .stuck) h
 refine ⟨τ, ρ, G, ab, ?_⟩
 cases e : ma τ G with
 | stuck => rw [e] at ok; exact ok
 | dF c G' => rw [e] at ok; exact ok
 | ok ds G' =>
  rw [e] at ok
  intro vs H1 ρ1 f1 qv r1
  obtain ⟨τ2, ρ2, G2, d2, dj, r2, aK⟩ := ok vs H1 ρ1 f1 qv r1
  cases q : mX d2 with
  | none => rw [q] at aK; exact aK.elim
  | some xs =>
   rw [q] at aK
   unfold mX at q
   split at q
   ·rename_i j
    split at q
    ·rename_i hj
     cases q
     obtain ⟨v, rfl, h1⟩ := kO r2
     unfold Rep at h1; subst h1
     exact ⟨j, rfl, hj.1, hj.2, Fj hO 0 j.toNat dj aK⟩
    ·cases q
   ·cases q
theorem Fl {me : DS → M D} {t : TE} {i : Nat} (hl : ∀ σ H Q, dI X.K X.mg EE me σ H Q → t σ H Q) {Dd : Ends} {σ : L2.St} {H : Hp} (h : jj X.K X.mg EE (bC i me) Dd σ H) : HA t (wM i) Dd σ H := by
 obtain ⟨τ, ρ, G, ab, ok⟩ := h
 refine hl σ H (fun v H1 => wM i v σ H1 Dd.nx) ⟨τ, ρ, G, ab, ?_⟩
 dsimp only [bC, cO] at ok
 cases e : me τ G with
 | stuck => rw [e] at ok; exact ok
 | dF c G' => rw [e] at ok; exact fun H' ρ' f cy => ok σ H' ρ' f cy
 | ok d G' => rw [e] at ok; exact fun v H' ρ' f cy r => ok _ H' ρ' f (cy.set r)
theorem DQ {y : Str} {i : Nat} {py spos p pc : Pos} (hx : kh X EE) (hst : d9 X) (S : cA X.env.scope X.N scope xs ks) (how : Own X scope xs ks tg ow) (hO : r8 X.K X.mg ow gO) (hc : X.calm = true) (hN : X.N.Nodup) (hm : X.mg "range" = none) (ha : QA X EE [a] ma) (hb : sU X scope xs ifs elt tt te) (hy : X.N[i]? = some y := by rfl) (hl : X.env.scope.names.lookup y = some .local := by rfl)
  (Bj : Gl X "range" := by rfl) (Qw : starEach [a] X.env = [(false, eval a X.env)] := by rfl)
  (hsw : swapsWith (.ListComp elt [⟨tg, .Call (.Name "range" p) [a] [] pc, ifs, 0⟩] scope pos) (some (.Name y py)) spos.line X.env = pure true := by rfl) (hs : ∀ x, foldedSetIterable (.Call (.Name "range" p) [a] [] pc) X.env x = pure x := by intro _; rfl) :
  QS X EE (.Assign [.Name y py] (.ListComp elt [⟨tg, .Call (.Name "range" p) [a] [] pc, ifs, 0⟩] scope pos) spos) (bC i (uL mX gO ks ma tt te)) :=
 PS.mono (Cw (tt := fun σ => liftT X.K X.mg (zw EE σ) tt) (te := fun σ => dI X.K X.mg (zw EE σ) te) hx hst S how hc hN (wQ Bj hm ha Qw) hy hl hsw (fun σ cl C pins s0 H0 fp E => hb cl C pins s0 H0 fp E _) hs) fun _ _ _ h => Fl (fun _ _ _ h => zT hO h) h
end
end L3
end
section
set_option Elab.async false
set_option linter.all false
set_option maxRecDepth 100000
namespace L3
open PySem PySem.Spec L2
theorem cg {k : Nat} {A : Around} (r : fW k A) : A.units + 600 < cLine := by have := r.un; omega
theorem Nk {X : Cx} {EE : fk} {x : Str} {f : Addr} {pos : Pos} (hm : X.mg x = some (.ref f)) (hg : Gl X x := by rfl) (hd : (x == ("__debug__" : Str)) = false := by decide) : QE X EE (.Name x pos) (eC (.fn x)) :=
 Du (Cg hg hm (v := .ref f) rfl hd) fun _ _ => by unfold Rep; exact ⟨f, rfl, hm⟩
noncomputable def JB (K : PySem.W.Frag) : Sp := fun vs H Q _ => ∃ (a : Addr) (ns : List Int), vs = [.ref a] ∧ K0 K H a (ns.map V.int) ∧ ns.length ≤ 63 ∧ ∀ H', Q (.bl true) H'
theorem Ls {K : PySem.W.Frag} {H : Hp} {a : Addr} {xs : List V} (hO : HS H) (h : pD K H a xs) : K0 K H a xs := by
 rcases h with (h | ⟨o, h⟩) | h
 ·rcases hO a with z | ⟨o, ys, z⟩
  ·rw [h] at z; cases z
  ·rw [h] at z; cases z
 ·exact .inl ⟨o, h⟩
 ·exact .inr h
theorem Fo {K : PySem.W.Frag} {mg : Str → Option Value} {m : List D → M D} (hm : ∀ ns : List Int, ns.length ≤ 63 → ∃ G, m [.con (ns.map .int)] [] = .ok (.bl true) G) (vs : List V) (H : Hp) (Q : VK) (E : XK) (h : JB K vs H Q E) : aW K mg 1 m vs H Q E := by
 obtain ⟨a, ns, rfl, sq, hl, q⟩ := h
 obtain ⟨G, e⟩ := hm ns hl
 refine ⟨[.con (ns.map .int)], [], [], rfl, ⟨rfl, List.nodup_nil, fun n o e => by simp at e⟩, .cons (by unfold Rep; exact ⟨a, _, rfl, sq, .ints ns⟩) .nil, ?_⟩
 rw [e]
 intro v H' ρ' _ _ r
 unfold Rep at r
 subst r
 exact q H'
end L3
end
section
set_option Elab.async false
set_option linter.all false
set_option maxRecDepth 100000
namespace L3
open PySem PySem.Spec L2
noncomputable def cW : Expr → Bool
 | .Starred .. => false
 | _ => true
noncomputable def plainT : Expr → Bool
 | .UnaryOp .Not _ _ => false
 | .BoolOp .. => false
 | .IfExp .. => false
 | .Compare .. => false
 | _ => true
noncomputable def nj : Expr → Bool
 | .Set .. => false
 | _ => true
noncomputable def yi : Expr → Bool
 | .ListComp .. => false
 | .SetComp .. => false
 | .DictComp .. => false
 | _ => true
noncomputable def nq : Expr → Bool
 | .Call (.Name _ _) [] [] _ => false
 | _ => true
noncomputable def yj : Expr → Bool
 | .Slice .. => false
 | _ => true
noncomputable def aB : List Expr → Bool
 | [] => true
 | e :: es => cW e && aB es
theorem aV {e : Expr} (h : cW e = true) (es : List Expr) (env : Env) : starEach (e :: es) env = (false, eval e env) :: starEach es env := by
 cases e <;> first | rfl | cases h
theorem DR {e : Expr} (h : plainT e = true) (env : Env) (whole : Sem Value) : isTrue e env whole = (do let v ← whole; standAt e.pos; holding [v] (truthy v)) := by
 cases e <;> first | rfl | cases h | (rename_i op _ _; cases op <;> first | rfl | cases h)
theorem lH {e : Expr} (h : nj e = true) (env : Env) (x : Value) : foldedSetIterable e env x = pure x := by
 cases e <;> first | rfl | cases h
theorem ug {e : Expr} (h : yi e = true) (t : Option Expr) (l : Nat) (env : Env) : swapsWith e t l env = pure false := by
 cases e <;> first | rfl | cases h
theorem ir {e : Expr} (h : nq e = true) (n : Str) (env : Env) : attributeBase e n env (eval e env) = eval e env := by
 unfold attributeBase
 split
 ·cases h
 ·rfl
theorem JC {e : Expr} (h : yj e = true) : ua e := fun o i => by
 cases e <;> first | rfl | cases h
theorem Cy {e : Expr} (h : nj e = true) (op : CmpOp) : behindInMarks op e = false := by
 cases e <;> first | rfl | cases h
theorem bR {env : Env} {pos : Pos} : ∀ {es : List Expr}, aB es = true → (backTo pos (starEach es env)).any (·.1) = false
 | [], _ => rfl
 | e :: es, h => by
  have h' : cW e = true ∧ aB es = true := by simpa [aB] using h
  rw [aV h'.1]
  have ih := bR (env := env) (pos := pos) h'.2
  show (false || (backTo pos (starEach es env)).any (·.1)) = false
  rw [ih]; rfl
theorem xx {env : Env} {pos : Pos} : ∀ {es : List Expr}, aB es = true → (backTo pos (starEach es env)).all (fun x => !x.1) = true
 | [], _ => rfl
 | e :: es, h => by
  have h' : cW e = true ∧ aB es = true := by simpa [aB] using h
  rw [aV h'.1]
  have ih := xx (env := env) (pos := pos) h'.2
  show (!false && (backTo pos (starEach es env)).all (fun x => !x.1)) = true
  rw [ih]; rfl
theorem r9 {env : Env} {pos : Pos} {es : List Expr} (h : aB es = true) (hl : es.length < 30) : ((backTo pos (starEach es env)).all (fun x => !x.1) && (backToKw pos (keywordEach [] env)).all (fun x => x.1.isSome)
   && decide (es.length + ([] : List Keyword).length + (if ([] : List Keyword).isEmpty then 0 else 1) < 30)) = true := by
 rw [xx h]
 simp only [Bool.true_and, Bool.and_eq_true, decide_eq_true_eq]
 exact ⟨rfl, by simpa using hl⟩
section
variable {X : Cx} {EE : fk} {a b c e o : Expr} {es : List Expr} {ma mb mc me mo : DS → M D} {pos p apos cpos : Pos} {m : DS → M (List D)} {ms mt : MS} {x : Str} {ks : List Bool} {tt : DS → M Bool} {te : DS → M D}
theorem yk {m : DS → M D} {r : DS → M (List D)} (ha : QE X EE e m) (hr : QA X EE es r) (h : cW e = true := by rfl) : QA X EE (e :: es) (ai m r) := Ib ha hr (aV h _ _)
theorem af (i : Nat) (hv : J2 X.env.scope x) (hd : (x == ("__debug__" : Str)) = false ∧ (x == ("__classdict__" : Str)) = false) (hN : X.N[i]? = some x := by rfl) : QE X EE (.Name x pos) (ah i) := K2 i hN hv hd.1 hd.2
theorem yl {d : D} (h : zF X.K X.mg x d) (hg : Gl X x) (hd : (x == ("__debug__" : Str)) = false ∧ (x == ("__classdict__" : Str)) = false) : QE X EE (.Name x pos) (eC d) := H8 h hg hd.1
theorem Fp {f : Addr} (hm : X.mg x = some (.ref f)) (hg : Gl X x) (hd : (x == ("__debug__" : Str)) = false ∧ (x == ("__classdict__" : Str)) = false) : QE X EE (.Name x pos) (eC (.fn x)) := Nk hm hg hd.1
theorem aD (ha : QE X EE a ma) (hb : QE X EE b mb) (h : yj b = true := by rfl) : QE X EE (.Subscript a b pos) (aF dY ma mb) := EW ha hb (JC h)
theorem Nl (hu : X.A.units + 600 < cLine) (ha : QE X EE a ma) (hb : QE X EE b mb) (h : nj b = true := by rfl) : QE X EE (.Compare a [.In] [b] pos) (aF (Dz false) ma mb) := MZ hu ha hb (Cy h _)
theorem dw {op : CmpOp} {f : D → D → M D} (ho : pF X (compareOp op) (rD X EE f)) (ha : QE X EE a ma) (hb : QE X EE b mb) (h : nj b = true := by rfl) : QT X EE (.Compare a [op] [b] pos) (kJ (aF f ma mb)) := La ho ha hb (Cy h _)
theorem ym (ha : QE X EE a ma) (h : plainT a = true := by rfl) : QT X EE a (m9 tU ma) := K6 ha (DR h _)
theorem uM {id : String} {f : List D → M D} (hc : iP X (.builtin id) (Jv X EE f)) (hm : X.mg x = none) (hg : Gl X x) (hv : bootBuiltins x = some (.builtin id)) (ha : QA X EE (e :: es) m) (hn : x ≠ "__name__" := by decide) (hdb : (x == ("__debug__" : Str)) = false := by decide) (h : aB (e :: es) = true := by rfl) :
  QE X EE (.Call (.Name x p) (e :: es) [] pos) (aC f m) := by
 have h' : cW e = true ∧ aB es = true := by simpa [aB] using h
 exact ET hc uG hm ha hg hv hn hdb (aV h'.1 _ _) (bR h'.2)
theorem xy {id : String} {f : List D → M D} (hc : iP X (.type id) (Jv X EE f)) (hm : X.mg x = none) (hg : Gl X x) (hv : bootBuiltins x = some (.type id)) (ha : QA X EE (e :: es) m) (hn : x ≠ "__name__" := by decide) (hdb : (x == ("__debug__" : Str)) = false := by decide) (h : aB (e :: es) = true := by rfl) :
  QE X EE (.Call (.Name x p) (e :: es) [] pos) (aC f m) := by
 have h' : cW e = true ∧ aB es = true := by simpa [aB] using h
 exact Dw hc uG hm ha hg hv hn hdb (aV h'.1 _ _) (bR h'.2)
theorem eu (hm : X.mg "len" = none) (hg : Gl X "len") (ha : QA X EE [e] m) (h : aB [e] = true := by rfl) : QE X EE (.Call (.Name "len" p) [e] [] pos) (aC gj m) := uM DB hm hg PySem.boot_len ha (by decide) (by decide) h
theorem Lu (hc : X.calm = true) (hm : X.mg "all" = none) (hg : Gl X "all") (ha : QA X EE [e] m) (h : aB [e] = true := by rfl) : QE X EE (.Call (.Name "all" p) [e] [] pos) (aC (Fb false) m) := uM (DE hc) hm hg PyProof.Rows.boot_all ha (by decide) (by decide) h
theorem Cz (hc : X.calm = true) (hm : X.mg "max" = none) (hg : Gl X "max") (ha : QA X EE [e, a] m) (h : aB [e, a] = true := by rfl) : QE X EE (.Call (.Name "max" p) [e, a] [] pos) (aC (lF fun i j => if j > i then j else i) m) := uM (DF hc) hm hg PyProof.Rows.boot_max ha (by decide) (by decide) h
theorem Bu (c : Ty) {pt : Pos} (hc : c ≠ .eY) (hm : X.mg "isinstance" = none) (hmt : X.mg x = none) (hg : Gl X "isinstance") (hgt : Gl X x) (ha : QE X EE a ma) (hb : bootBuiltins x = some (.type c.nm)) (hnt : x ≠ "__name__") (hdt : (x == ("__debug__" : Str)) = false) (h : cW a = true := by rfl) :
  QE X EE (.Call (.Name "isinstance" p) [a, .Name x pt] [] pos) (DC c ma) := Le c hc hm hmt ha hb hg hgt hnt hdt (aV h _ _) (aV rfl _ _) (bR (es := [.Name x pt]) rfl)
theorem cK {CX : vM} {k n : Nat} {f : Addr} {fd : FuncData} {ps : List Str} {mf : List D → M D} (F : bx X.prog X.w X.K X.mg X.base CX k f fd ps (aW X.K X.mg n mf)) (hr : fW k X.A) (hm : X.mg x = some (.ref f)) (hk : PySem.W.keepIn X.K (.ref f) = true) (hb : Binds X.K fd ps []) (hx : Mf CX X EE) (hg : Gl X x)
  (hd : (x == ("__debug__" : Str)) = false ∧ (x == ("__classdict__" : Str)) = false) (ha : QA X EE (e :: es) m) (h : aB (e :: es) = true := by rfl) : QE X EE (.Call (.Name x p) (e :: es) [] pos) (bZ n mf m) := by
 have h' : cW e = true ∧ aB es = true := by simpa [aB] using h
 exact Il F hr hm hk hb hx ha hg hd.1 (aV h'.1 _ _) (bR h'.2)
theorem dG (ho : QE X EE o mo) (ha : QA X EE [e] m) (hb : nq o = true := by rfl) (h : aB [e] = true := by rfl) (hline : (apos.endLine == cpos.line) = true := by rfl) : QE X EE (.Call (.Attribute o "append" apos) [e] [] cpos) (bq "list" bX mo m) := by
 have h' : cW e = true ∧ aB [] = true := by simpa [aB] using h
 exact DG ho ha (ir hb _ _) (r9 h (by simp)) hline (aV h'.1 _ _) (bR (es := []) rfl)
theorem Bv (ho : QE X EE o mo) (hb : nq o = true := by rfl) (hline : (apos.endLine == cpos.line) = true := by rfl) : QE X EE (.Call (.Attribute o "pop" apos) [] [] cpos) (bq "list" pI mo aq) := Lh ho (ir hb _ _) hline
theorem fH (he : QE X EE a ma) (h : yi a = true := by rfl) : QS X EE (.Expr a pos) (fX ma) := Ih he (ug h _ _ _)
theorem bA {i : Nat} {pos' : Pos} (hN : X.N.Nodup) (hx : Loc X.env.scope x) (he : QE X EE a ma) (hf : X.fn x = true ∨ X.env.scope.names.lookup x = some .local) (hi : X.N[i]? = some x := by rfl) (h : yi a = true := by rfl) : QS X EE (.Assign [.Name x pos'] a pos) (bC i ma) := Lc hN he hi hx (ug h _ _ _) hf
theorem zU {i : Expr} {mv mi : DS → M D} {tpos : Pos} (hv : QE X EE a mv) (ho : QE X EE o mo) (hi : QE X EE i mi) (h : yi a = true := by rfl)
  (Li : ∀ v, assign (.Subscript o i tpos) X.env v = (do
   let ov ← holding [v] (eval o X.env)
   let iv ← holding [v, ov] (eval i X.env)
   standAt tpos
   holding [v, ov, iv] (setItem ov iv v)
   release [v, ov, iv] []) := by intro _; rfl) : QS X EE (.Assign [.Subscript o i tpos] a pos) (pJ mv mo mi) :=
 Fd hv ho hi (by unfold swapsWithSole; exact ug h _ _ _) (by first | rfl | (unfold swappedStores; rfl)) rfl Li
theorem iT {i : Nat} (hN : X.N.Nodup) (hx : Loc X.env.scope x) (hf : X.fn x = true ∨ X.env.scope.names.lookup x = some .local) (hi : X.N[i]? = some x := by rfl) : QG X (.Name x pos) (gN i) := Ii hN hi hx hf
theorem Lv {tg : Expr} {g : ng} {body : List Stmt} (hp : PassesOwn (model X.prog X.w) X.A X.env X.xe) (hc : X.calm = true) (ha : QE X EE a ma) (hg : QG X tg g) (hb : A1 X EE body ms) (h : nj a = true := by rfl) : QS X EE (.For tg a body [] pos) (uE g ma ms) := Ld hp hc ha hg hb (lH h _)
theorem qy {tg : Expr} {g : ng} {body : List Stmt} {pc : Pos} (hp : PassesOwn (model X.prog X.w) X.A X.env X.xe) (hc : X.calm = true) (hm : X.mg "range" = none) (Bj : Gl X "range") (ha : QA X EE [a] m) (hg : QG X tg g) (hb : A1 X EE body ms) (h : cW a = true := by rfl) :
  QS X EE (.For tg (.Call (.Name "range" p) [a] [] pc) body [] pos) (gC mX g m ms) := E8 hp hc hm ha hg hb Bj (aV h _ _) (lH rfl _)
theorem Fq {tg : Expr} {g : ng} {body : List Stmt} {pc : Pos} (hp : PassesOwn (model X.prog X.w) X.A X.env X.xe) (hc : X.calm = true) (hm : X.mg "range" = none) (Bj : Gl X "range") (ha : QA X EE [a, b] m) (hg : QG X tg g) (hb : A1 X EE body ms) (h : cW a = true := by rfl) (h2 : cW b = true := by rfl) :
  QS X EE (.For tg (.Call (.Name "range" p) [a, b] [] pc) body [] pos) (gC zO g m ms) := E9 hp hc hm ha hg hb Bj (by rw [aV h, aV h2]; rfl) (aV h2 _ _) (lH rfl _)
variable {scope : Scope} {elt iter tg : Expr} {xs : List Str} {ow : V → Hp → List V → Prop} {gO : D → Option (List D)} {ifs : List Expr} {px : Pos}
theorem qA (hx : kh X EE) (hst : d9 X) (S : cA X.env.scope X.N scope xs ks) (how : Own X scope xs ks tg ow) (hO : r8 X.K X.mg ow gO) (hc : X.calm = true) (ha : QE X EE iter ma) (hb : sU X scope xs ifs elt tt te) (h : nj iter = true := by rfl) : QE X EE (.ListComp elt [⟨tg, iter, ifs, 0⟩] scope pos) (gD gO ks ma tt te) := Iw hx hst S how hO hc ha hb (lH h _)
theorem IA {y : Str} {i : Nat} {py spos : Pos} (hx : kh X EE) (hst : d9 X) (S : cA X.env.scope X.N scope xs ks) (how : Own X scope xs ks tg ow) (hO : r8 X.K X.mg ow gO) (hc : X.calm = true) (hN : X.N.Nodup) (hl : X.env.scope.names.lookup y = some .local) (ha : QE X EE iter ma) (hb : sU X scope xs ifs elt tt te) (hsw : swapsWith (.ListComp elt [⟨tg, iter, ifs, 0⟩] scope pos) (some (.Name y py)) spos.line X.env = pure true)
  (hy : X.N[i]? = some y := by rfl) (h : nj iter = true := by rfl) : QS X EE (.Assign [.Name y py] (.ListComp elt [⟨tg, iter, ifs, 0⟩] scope pos) spos) (bC i (gD gO ks ma tt te)) := Iz hx hst S how hO hc hN ha hb hy hl hsw (lH h _)
theorem DT {y : Str} {i : Nat} {py spos pc : Pos} (hx : kh X EE) (hst : d9 X) (S : cA X.env.scope X.N scope xs ks) (how : Own X scope xs ks tg ow) (hO : r8 X.K X.mg ow gO) (hc : X.calm = true) (hN : X.N.Nodup) (hl : X.env.scope.names.lookup y = some .local) (hm : X.mg "range" = none) (Bj : Gl X "range") (ha : QA X EE [a] m) (hb : sU X scope xs ifs elt tt te)
  (hsw : swapsWith (.ListComp elt [⟨tg, .Call (.Name "range" p) [a] [] pc, ifs, 0⟩] scope pos) (some (.Name y py)) spos.line X.env = pure true) (hy : X.N[i]? = some y := by rfl) (h : cW a = true := by rfl) :
  QS X EE (.Assign [.Name y py] (.ListComp elt [⟨tg, .Call (.Name "range" p) [a] [] pc, ifs, 0⟩] scope pos) spos) (bC i (uL mX gO ks m tt te)) := DQ hx hst S how hO hc hN hm ha hb hy hl Bj (aV h _ _) hsw (lH rfl _)
theorem xA {gens : List Comprehension} {y : Str} {py : Pos} {l : Nat} {env : Env} (hb : (env.blockKind == .function) = true) (hl : env.scope.names.lookup y = some .local) (hp : (py.line == pos.line) = true) (hq : (scope.names.any fun x => x.1 == y && (x.2 == .local || x.2 == .cell)) = false) : swapsWith (.ListComp elt gens scope pos) (some (.Name y py)) l env = pure true := by
 unfold swapsWith
 dsimp only
 show (pure (env.blockKind == .function && env.kindOf y == some .local && py.line == pos.line && !(scope.names.any fun x => x.1 == y && (x.2 == .local || x.2 == .cell))) : Sem Bool) = pure true
 have e : (env.kindOf y == some NameKind.local) = true := by rw [show env.kindOf y = some NameKind.local from hl]; rfl
 rw [hb, e, hp, hq]; rfl
theorem nt {cl : List (Str × Addr)} {C : Addr} {pins : List (Addr × Obj)} {s0 : Shared} {H0 : Hp} {fp : List Addr} {E : Value → Shared → Prop} (S : cA X.env.scope X.N scope xs ks) (h : x ∈ xs) : J2 (rZ X scope cl xs C pins s0 H0 fp E).env.scope x := .inl (uJ (cl := cl) (C := C) S h)
theorem uh {cl : List (Str × Addr)} {C : Addr} {pins : List (Addr × Obj)} {s0 : Shared} {H0 : Hp} {fp : List Addr} {E : Value → Shared → Prop} {y : Str} (S : cA X.env.scope X.N scope xs ks) (h : scope.names.lookup y = some .free) : J2 (rZ X scope cl xs C pins s0 H0 fp E).env.scope y := .inr (r6 (cl := cl) (C := C) S h)
theorem yo {cl : List (Str × Addr)} {C : Addr} {pins : List (Addr × Obj)} {s0 : Shared} {H0 : Hp} {fp : List Addr} {E : Value → Shared → Prop} {y : Str} (h : scope.names.lookup y = some .globalImplicit) : Gl (rZ X scope cl xs C pins s0 H0 fp E) y := by
 show (compEnvC scope cl C X.env).kindOf y = some .globalImplicit
 have e : (compEnvC scope cl C X.env).kindOf y = (scope.names.lookup y).map (vP X.env y) := fu scope.names
 rw [e, h]; rfl
end
theorem jn {X : Cx} {EE : fk} {x : Str} {C : Addr} {np cpos pos : Pos} {e : Expr} {es : List Expr} {m : DS → M (List D)} (hc : X.calm = true) (hx : kh X EE) (hm : X.mg x = some (.ref C)) (hq : PySem.W.excIn X.K C Bq "ValueError.__new__" = true) (hg : Gl X x) (hd : (x == ("__debug__" : Str)) = false ∧ (x == ("__classdict__" : Str)) = false)
  (ha : QA X EE (e :: es) m) (h : aB (e :: es) = true := by rfl) : QS X EE (.Raise (some (.Call (.Name x np) (e :: es) [] cpos)) none pos) (ki x m) := by
 have h' : cW e = true ∧ aB es = true := by simpa [aB] using h
 exact Fe hc hx hm hq hg hd.1 ha (aV h'.1 _ _) (bR h'.2)
end L3
end
section
set_option Elab.async false
set_option linter.all false
set_option maxRecDepth 100000
namespace L3
open PySem PySem.Spec L2 Builtin Builtin.Str
section
variable {X : Cx} {EE : fk}
theorem Bw {prog : Program} {w : World} {A : Around} {E : Value → Shared → Prop} {s : Shared} {x y : Str} {t u : Tok} {Q : Value → Shared → Prop} (hy : (y.length == 0) = false) (hsz : x.length + 2 ≤ sizeLine)
  (hq : ∀ (l : List (Str × Tok)) (k : Nat), l.map (·.1) = Txt.split x y → Q (.ref s.heap.objs.size) { s with heap := s.heap.push { cls := .type "list", data := .seq (strValues l).toArray }, toks := k }) :
  wpAny (model prog w) A (call (.builtin "str.split") [.str x t, .str y u]) Q E s := by
 have U6 : (partsBetween x (occurrences x y 0 x.length (x.length + 1)) y.length).length ≤ sizeLine := by
  rw [length_partsBetween]
  have := StrLaws.occ_length_le x y 0 x.length (x.length + 1)
  omega
 unfold Txt.split at hq
 cases h1 : (decide (x.length < y.length) || decide (strKind x < strKind y)) with
 | true =>
  rw [h1, if_pos rfl] at hq
  exact call_meets F.slot_str_split (typeIs_str _ _ _) F.entry_str_split (F.args_str_split_2 _ _) (meets_str_split_cannot_occur x y t u h1) (hq [(x, t)] s.toks rfl)
 | false =>
  rw [h1, if_neg Bool.false_ne_true] at hq
  cases hf : (occurrences x y 0 x.length (x.length + 1)).isEmpty with
  | true =>
   rw [hf, if_pos rfl] at hq
   exact call_meets F.slot_str_split (typeIs_str _ _ _) F.entry_str_split (F.args_str_split_2 _ _) (meets_str_split_not_found x y t u h1 hy hf) (hq [(x, t)] s.toks rfl)
  | false =>
   rw [hf, if_neg Bool.false_ne_true] at hq
   refine call_meets F.slot_str_split (typeIs_str _ _ _) F.entry_str_split (F.args_str_split_2 _ _) (meets_str_split_sep x y t u h1 hy hf (by omega) U6) ?_
   have := hq (numbered s.toks (partsBetween x (occurrences x y 0 x.length (x.length + 1)) y.length)) (s.toks + (partsBetween x (occurrences x y 0 x.length (x.length + 1)) y.length).length) (numbered_texts _ _)
   rw [← strsFrom_eq] at this
   exact this
noncomputable def uN : D → List D → M D
 | .str x, [.str y] => fun G => if y.length ≠ 0 ∧ x.length + 2 ≤ sizeLine then bM ((Txt.split x y).map .str) G else .stuck
 | _, _ => M.stop
theorem Vals.strs : ∀ (l : List (Str × Tok)), Vals ((l.map (·.1)).map V.str) (strValues l)
 | [] => .nil
 | p :: r => .cons ⟨_, rfl⟩ (Vals.strs r)
theorem au.strs {K : PySem.W.Frag} {mg : Str → Option Value} {ρ : List Addr} {H : Hp} : ∀ (l : List Str), au K mg ρ H (l.map D.str) (l.map V.str)
 | [] => .nil
 | p :: r => .cons (by unfold Rep; rfl) (au.strs r)
theorem DU : Hh X "str.split" (Lf X EE uN) := by
 intro pins s σ0 H x xs v us Q I rx Io ⟨σ, τ, ρ, G, d, ds, ab, rd, Cr, ok⟩
 cases d <;> try exact ok.elim
 rename_i z
 match ds, ok with
 | [], ok => exact ok.elim
 | a :: _ :: _, ok => cases a <;> exact ok.elim
 | [y], ok =>
  cases y <;> try exact ok.elim
  rename_i y
  obtain ⟨yv, rfl, ry⟩ := kO Cr
  unfold Rep at rd ry
  subst rd ry
  obtain ⟨t, rfl⟩ := rx
  obtain ⟨u, rfl, ru⟩ := vals1 Io
  obtain ⟨t', rfl⟩ := ru
  dsimp only [uN] at ok
  by_cases hc : y.length ≠ 0 ∧ z.length + 2 ≤ sizeLine
  ·rw [if_pos hc] at ok
   obtain ⟨hl, hn⟩ := m8 ab (au.strs (Txt.split z y)) ok
   refine kL I.os.2 <| Bw (by simpa using hc.1) hc.2 fun l k hlk => fun ht => ?_
   refine ⟨.ref s.heap.objs.size, upd H s.heap.objs.size (.lst ((Txt.split z y).map V.str)), I.laid (t' := k) (fun b o e => Heap.get?_push_of_some _ e) (Nat.le_refl _) ?_, rfl, hn _ (I.hok.fresh (Nat.le_refl _))⟩
   exact ⟨hl, strValues l, 0, by rw [← hlk]; exact Vals.strs l, Heap.get?_push_size _ rfl⟩
  ·rw [if_neg hc] at ok; exact ok.elim
noncomputable def strsOf : List D → Option (List Str)
 | [] => some []
 | .str x :: r => (strsOf r).map (x :: ·)
 | _ :: _ => none
theorem uO {K : PySem.W.Frag} {mg : Str → Option Value} {ρ : List Addr} {H : Hp} : ∀ {ds : List D} {vs : List V} {us : List Value} {ts : List Str}, au K mg ρ H ds vs → Vals vs us → strsOf ds = some ts → ∃ l : List (Str × Tok), us = strValues l ∧ l.map (·.1) = ts
 | [], vs, us, ts, r, v, e => by unfold au at r; subst r; cases v; cases e; exact ⟨[], rfl, rfl⟩
 | d :: ds, vs, us, ts, r, v, e => by
  unfold au at r
  obtain ⟨x, r', rfl, h1, h2⟩ := r
  cases v with
  | cons v1 v2 =>
   cases d <;> try (cases e; done)
   rename_i y
   dsimp only [strsOf] at e
   cases q : strsOf ds with
   | none => rw [q] at e; cases e
   | some ts' =>
    rw [q] at e; cases e
    unfold Rep at h1; subst h1
    obtain ⟨t, rfl⟩ := v1
    obtain ⟨l, rfl, e2⟩ := uO h2 v2 q
    exact ⟨(y, t) :: l, rfl, by simp [e2]⟩
noncomputable def nv : D → List D → M D
 | .str x, [d] => fun G => match bz G d with
  | some (.lst xs) => match strsOf xs with
   | some ts => if JoinOk x ts = true then .ok (.str (Txt.join x ts)) G else .stuck
   | none => .stuck
  | _ => .stuck
 | _, _ => M.stop
theorem Ft : Hh X "str.join" (Lf X EE nv) := by
 intro pins s σ0 H x xs v us Q I rx Io ⟨σ, τ, ρ, G, d, ds, ab, rd, Cr, ok⟩
 cases d <;> try exact ok.elim
 rename_i z
 match ds, ok with
 | [], ok => exact ok.elim
 | _ :: _ :: _, ok => exact ok.elim
 | [y], ok =>
  obtain ⟨yv, rfl, ry⟩ := kO Cr
  unfold Rep at rd
  subst rd
  obtain ⟨t, rfl⟩ := rx
  obtain ⟨u, rfl, ru⟩ := vals1 Io
  dsimp only [nv] at ok
  cases q : bz G y with
  | none => rw [q] at ok; exact ok.elim
  | some sk =>
   rw [q] at ok
   cases sk with
   | tup _ => exact ok.elim
   | str _ => exact ok.elim
   | lst ys =>
    dsimp only at ok
    cases qs : strsOf ys with
    | none => rw [qs] at ok; exact ok.elim
    | some ts =>
     rw [qs] at ok
     dsimp only at ok
     by_cases hj : JoinOk z ts = true
     ·rw [if_pos hj] at ok
      obtain ⟨p, vs, rfl, sq, rs⟩ := cS (pins := pins) (σ0 := σ0) (s := s) ab.hp ry q
      cases ru
      obtain ⟨its, rv, pl, _⟩ := I.list sq
      obtain ⟨l, rfl, el⟩ := uO rs rv qs
      have hq := ok (.str _) H ρ .refl ab (by unfold Rep; rfl)
      exact kL I.os.2 <| SC.join pl.isList el hj fun t' k => fun ht => ⟨.str _, H, I.tok k, ⟨_, rfl⟩, hq⟩
     ·rw [if_neg hj] at ok; exact ok.elim
noncomputable def ny : List D → M D
 | [d] => fun G => match bz G d with
  | some (.lst xs) => oH xs G
  | some (.tup xs) => .ok d G
  | _ => .stuck
 | _ => M.stop
theorem DV : iP X (.type "tuple") (Jv X EE ny) := by
 intro pins s σ0 H xs us Q I r ⟨σ, τ, ρ, G, ds, ab, Cr, ok⟩
 match ds, ok with
 | [], ok => exact ok.elim
 | _ :: _ :: _, ok => exact ok.elim
 | [y], ok =>
  obtain ⟨yv, rfl, ry⟩ := kO Cr
  dsimp only [ny] at ok
  cases q : bz G y with
  | none => rw [q] at ok; exact ok.elim
  | some sk =>
   rw [q] at ok
   cases sk with
   | str _ => exact ok.elim
   | tup ys =>
    obtain ⟨p, vs, rfl, sq, rs⟩ := jb ry q
    exact oW pins s σ0 H _ us Q I r ⟨p, vs, rfl, .inr ⟨sq, ok _ H ρ .refl ab ry⟩⟩
   | lst ys =>
    obtain ⟨p, vs, rfl, sq, rs⟩ := cS (pins := pins) (σ0 := σ0) (s := s) ab.hp ry q
    exact oW pins s σ0 H _ us Q I r ⟨p, vs, rfl, .inl ⟨sq, fun l hl => (yc ab rs ok).2 l hl⟩⟩
noncomputable def uP : List D → M D
 | [d] => fun G => match bz G d with
  | some (.lst xs) => bM xs G
  | some (.tup xs) => bM xs G
  | _ => .stuck
 | _ => M.stop
theorem DW : iP X (.type "list") (Jv X EE uP) := by
 intro pins s σ0 H xs us Q I r ⟨σ, τ, ρ, G, ds, ab, Cr, ok⟩
 match ds, ok with
 | [], ok => exact ok.elim
 | _ :: _ :: _, ok => exact ok.elim
 | [y], ok =>
  obtain ⟨yv, rfl, ry⟩ := kO Cr
  dsimp only [uP] at ok
  cases q : bz G y with
  | none => rw [q] at ok; exact ok.elim
  | some sk =>
   rw [q] at ok
   cases sk with
   | str _ => exact ok.elim
   | tup ys =>
    obtain ⟨p, vs, rfl, sq, rs⟩ := jb ry q
    exact qp pins s σ0 H _ us Q I r ⟨p, vs, rfl, .inr sq, fun l hl => (m8 ab rs ok).2 l hl⟩
   | lst ys =>
    obtain ⟨p, vs, rfl, sq, rs⟩ := cS (pins := pins) (σ0 := σ0) (s := s) ab.hp ry q
    exact qp pins s σ0 H _ us Q I r ⟨p, vs, rfl, .inl sq, fun l hl => (m8 ab rs ok).2 l hl⟩
variable {x : Str} {p pos apos cpos : Pos} {e o : Expr} {es : List Expr} {m : DS → M (List D)} {mo : DS → M D}
theorem Fv (ho : QE X EE o mo) (ha : QA X EE [e] m) (hb : nq o = true := by rfl) (h : aB [e] = true := by rfl) (hline : (apos.endLine == cpos.line) = true := by rfl) : QE X EE (.Call (.Attribute o "split" apos) [e] [] cpos) (bq "str" uN mo m) := by
 have h' : cW e = true ∧ aB [] = true := by simpa [aB] using h
 exact Cq F.plainAttrs_str F.slot_str_split F.type_str_split DU ho ha (ir hb _ _) (r9 h (by simp)) hline (aV h'.1 _ _) (bR (es := []) rfl)
theorem CA (ho : QE X EE o mo) (ha : QA X EE [e] m) (hb : nq o = true := by rfl) (h : aB [e] = true := by rfl) (hline : (apos.endLine == cpos.line) = true := by rfl) : QE X EE (.Call (.Attribute o "join" apos) [e] [] cpos) (bq "str" nv mo m) := by
 have h' : cW e = true ∧ aB [] = true := by simpa [aB] using h
 exact Cq F.plainAttrs_str F.slot_str_join F.type_str_join Ft ho ha (ir hb _ _) (r9 h (by simp)) hline (aV h'.1 _ _) (bR (es := []) rfl)
theorem boot_tuple : bootBuiltins "tuple" = some (.type "tuple") := by decide +kernel
theorem boot_list : bootBuiltins "list" = some (.type "list") := by decide +kernel
theorem zV (hm : X.mg "tuple" = none) (hg : Gl X "tuple") (ha : QA X EE [e] m) (h : aB [e] = true := by rfl) : QE X EE (.Call (.Name "tuple" p) [e] [] pos) (aC ny m) := xy DV hm hg boot_tuple ha (by decide) (by decide) h
theorem IB (hm : X.mg "list" = none) (hg : Gl X "list") (ha : QA X EE [e] m) (h : aB [e] = true := by rfl) : QE X EE (.Call (.Name "list" p) [e] [] pos) (aC uP m) := xy DW hm hg boot_list ha (by decide) (by decide) h
noncomputable def pK (i n : Nat) (zv : Str → Option (List D → M D)) (m : DS → M (List D)) : DS → M D := fun τ G => match τ[i]? with
 | some (some (.fn y)) => match zv y with
  | some mf => bZ n mf m τ G
  | none => .stuck
 | _ => .stuck
theorem qB {CX : vM} {i n : Nat} {zv : Str → Option (List D → M D)} (hN : X.N[i]? = some x) (hv : J2 X.env.scope x) (hd : (x == ("__debug__" : Str)) = false ∧ (x == ("__classdict__" : Str)) = false)
  (hF : ∀ y mf, zv y = some mf → ∃ k f fd ps, bx X.prog X.w X.K X.mg X.base CX k f fd ps (aW X.K X.mg n mf) ∧ fW k X.A ∧ X.mg y = some (.ref f) ∧ PySem.W.keepIn X.K (.ref f) = true ∧ Binds X.K fd ps []) (hx : Mf CX X EE)
  (ha : QA X EE (e :: es) m) (h : aB (e :: es) = true := by rfl) : QE X EE (.Call (.Name x p) (e :: es) [] pos) (pK i n zv m) := by
 have h' : cW e = true ∧ aB es = true := by simpa [aB] using h
 intro pins s σ H Q I hq
 obtain ⟨τ, ρ, G, ab, ok⟩ := hq
 unfold pK at ok
 cases q : τ[i]? with
 | none => rw [q] at ok; exact ok.elim
 | some od =>
  cases od with
  | none => rw [q] at ok; exact ok.elim
  | some d =>
   rw [q] at ok
   cases d <;> try exact ok.elim
   rename_i y
   dsimp only at ok
   cases qt : zv y with
   | none => rw [qt] at ok; exact ok.elim
   | some mf =>
    rw [qt] at ok
    obtain ⟨k, f, fd, ps, F, hr, hm, hk, hb⟩ := hF y mf qt
    obtain ⟨v, ev, rv⟩ := ab.st.2 i (.fn y) q
    unfold Rep at rv
    obtain ⟨a, rfl, ha'⟩ := rv
    rw [hm] at ha'
    cases ha'
    obtain ⟨τ1, ρ1, G1, qv, Hl⟩ := uA (k := fun _ ds => if ds.length = n then mf ds else M.stop) ⟨τ, ρ, G, ab, ok⟩
    refine wpAny_Call_Name_kw (wpAny_mono (Ex hN hv hd.1 hd.2 pins s σ H (fun v' H' => v' = .ref f ∧ H' = H) I ⟨_, ev, rfl, rfl⟩) (fun u s0 hu => ?_) fun _ _ z => z)
    obtain ⟨v', H', I0, r0, rfl, rfl⟩ := hu
    cases r0
    refine PySem.W.callWith_K (h₀ := X.base) I0.ok.mod.J1 hk (fV (ha pos pins s0 σ H' _ I0 ⟨τ1, ρ1, G1, qv, Hl⟩) fun us s1 ⟨vs, H1, I1, r, q⟩ => ⟨I1.A0, ?_⟩) (aV h'.1 _ _) (bR h'.2)
    obtain ⟨τ2, ρ2, G2, ds, dj, rs, aK⟩ := q
    by_cases hn : ds.length = n
    ·rw [if_pos hn] at aK
     exact yf F hr hb hx I1 r dj rs hn aK
    ·rw [if_neg hn] at aK
     exact aK.elim
noncomputable def Lw (c : Str) (m : DS → M D) : DS → M D := fun τ => if c.length ≤ sizeLine then (m τ).bind fun d => match d with
 | .str y => if (c ++ y).length ≤ sizeLine ∧ y.length ≤ sizeLine then M.ret (.str (c ++ y)) else M.stop
 | _ => M.stop else M.stop
theorem Lx {c : Str} {j : Nat} {p1 p2 : Pos} (ha : QE X EE e mo) : QE X EE (.JoinedStr [.Constant (.str c) j p1, .FormattedValue e (-1) none p2] pos) (Lw c mo) := by
 intro pins s σ H Q I h
 have emp : Str.empty ++ c = c := by
  cases c with
  | mk cs => show Str.mk (#[] ++ cs) = _; simp
 obtain ⟨τ0, ρ0, G0, Lr, Ly⟩ := h
 unfold Lw at Ly
 by_cases hc : c.length ≤ sizeLine
 ·rw [if_pos hc] at Ly
  have h1 : dI X.K X.mg EE (fun τ => (mo τ).bind fun d => match d with
    | .str y => if (c ++ y).length ≤ sizeLine ∧ y.length ≤ sizeLine then M.ret (.str (c ++ y)) else M.stop
    | _ => M.stop) σ H Q := ⟨τ0, ρ0, G0, Lr, Ly⟩
  have h2 := jk (k := fun _ d => match d with
    | .str y => if (c ++ y).length ≤ sizeLine ∧ y.length ≤ sizeLine then M.ret (.str (c ++ y)) else M.stop
    | _ => M.stop) h1
  refine wpAny_JoinedStr ?_
  show wpAny _ _ (eval (.Constant (.str c) j p1) X.env) _ _ s
  refine Calls.Constant_str ⟨c, _, rfl, by rw [emp]; exact hc, ?_⟩
  rw [emp]
  show wpAny _ _ (eval (.FormattedValue e (-1) none p2) X.env) _ _ _
  refine wpAny_FormattedValue_plain (wpAny_mono (ha pins { s with toks := s.toks + 1 } σ H _ (I.tok _) h2) (fun u s1 hu => ?_) fun _ _ z => z)
  obtain ⟨v, H1, I1, r1, τ, ρ, G, d, ab, rd, ok⟩ := hu
  cases d <;> try exact ok.elim
  rename_i y
  unfold Rep at rd; subst rd
  obtain ⟨t, rfl⟩ := r1
  dsimp only at ok
  by_cases hy : (c ++ y).length ≤ sizeLine ∧ y.length ≤ sizeLine
  ·rw [if_pos hy] at ok
   have hq := ok (.str (c ++ y)) H1 ρ .refl ab (by unfold Rep; rfl)
   refine wpAny_formatField_str ⟨y, _, rfl, hy.1, hy.1, .str _, H1, I1.tok _, ⟨_, rfl⟩, hq⟩ ⟨y, _, rfl, hy.1, hy.1, .str _, H1, I1.tok _, ⟨_, rfl⟩, hq⟩ hy.2
  ·rw [if_neg hy] at ok; exact ok.elim
 ·rw [if_neg hc] at Ly; exact Ly.elim
end
end L3
end
section
set_option Elab.async false
set_option linter.all false
set_option maxRecDepth 100000
namespace L3
open PySem PySem.Spec L2 Builtin Builtin.Str
section
variable {X : Cx} {EE : fk}
noncomputable def vQ (y z : Str) : D → M D
 | .str x => if (y == z) = false ∧ x.length + (x.length + 1) * z.length ≤ 16777216 then M.ret (.str (Txt.replace x y z)) else M.stop
 | _ => M.stop
noncomputable def Lz (f : D → M D) (m : DS → M D) : DS → M D := fun τ => (m τ).bind f
variable {o : Expr} {mo : DS → M D} {y z : Str} {j1 j2 : Nat} {p1 p2 apos cpos : Pos}
theorem yp (ho : QE X EE o mo) (hb : nq o = true := by rfl) (hline : (apos.endLine == cpos.line) = true := by rfl) : QE X EE (.Call (.Attribute o "replace" apos) [.Constant (.str y) j1 p1, .Constant (.str z) j2 p2] [] cpos) (Lz (vQ y z) mo) := by
 intro pins s σ H Q I h
 have h2 := jk (k := fun _ => vQ y z) h
 have hst : starEach [.Constant (.str y) j1 p1, .Constant (.str z) j2 p2] X.env = [(false, eval (.Constant (.str y) j1 p1) X.env), (false, eval (.Constant (.str z) j2 p2) X.env)] := by
  rw [aV rfl, aV rfl]; rfl
 refine wpAny_Call_method_late (ir hb _ _) (r9 (es := [.Constant (.str y) j1 p1, .Constant (.str z) j2 p2]) rfl (by simp)) hline rfl (fV (ho pins s σ H _ I h2) fun v s1 hv => ?_)
 obtain ⟨xv, H1, I1, r1, τ, ρ, G, d, ab, rd, ok⟩ := hv
 cases d <;> try exact ok.elim
 rename_i x
 dsimp only [vQ] at ok
 by_cases hc : (y == z) = false ∧ x.length + (x.length + 1) * z.length ≤ 16777216
 ·rw [if_pos hc] at ok
  unfold Rep at rd; subst rd
  obtain ⟨t, rfl⟩ := r1
  have hq := ok (.str (Txt.replace x y z)) H1 ρ .refl ab (by unfold Rep; rfl)
  obtain ⟨g1, g2⟩ := yb I1 (x := .str x) (v := .str x t) ⟨t, rfl⟩ (T := "str") rfl
  refine ⟨"str", "str.replace", F.plainAttrs_str, F.slot_str_replace, F.type_str_replace, g1, g2, ?_⟩
  rw [hst]
  refine Calls.callWith_builtin (by rfl) (Calls.evalArgs_plain ?_)
  refine Calls.spliced_cons (Calls.Constant_str (k := j1) (pos := p1) (Calls.spliced_cons (Calls.Constant_str (k := j2) (pos := p2) (Calls.spliced_nil ?_))))
  show wpAny _ _ (call (.builtin "str.replace") [.str x t, .str y s1.toks, .str z (s1.toks + 1)]) _ _ _
  exact kL (Nat.succ_pos _) (SC.replace (Nat.ne_of_gt I1.os.2) (Nat.succ_ne_zero _) (Nat.ne_of_lt (Nat.lt_succ_self _)) hc.1 hc.2 fun t' k => fun ht => ⟨.str _, H1, I1.tok k (ht := ht), ⟨_, rfl⟩, hq⟩)
 ·rw [if_neg hc] at ok; exact ok.elim
end
section
end
section
variable {X : Cx} {EE : fk}
variable {p pos apos cpos : Pos} {e o : Expr} {es : List Expr} {m : DS → M (List D)} {mo : DS → M D}
end
end L3
end
section
set_option Elab.async false
set_option linter.all false
set_option maxRecDepth 100000
namespace L3
open PySem PySem.Spec L2
noncomputable def Nn (CX : vM) (X : Cx) (n : Nat) : List (Str × (List D → M D)) → Prop
 | [] => True
 | q :: r => (∃ k f fd ps, bx X.prog X.w X.K X.mg X.base CX k f fd ps (aW X.K X.mg n q.2) ∧ fW k X.A ∧ X.mg q.1 = some (.ref f) ∧ PySem.W.keepIn X.K (.ref f) = true ∧ Binds X.K fd ps []) ∧ Nn CX X n r
theorem Fw {CX : vM} {X : Cx} {n : Nat} : ∀ {l : List (Str × (List D → M D))}, Nn CX X n l → ∀ (y : Str) (mf : List D → M D), l.lookup y = some mf → ∃ k f fd ps, bx X.prog X.w X.K X.mg X.base CX k f fd ps (aW X.K X.mg n mf) ∧ fW k X.A ∧ X.mg y = some (.ref f) ∧ PySem.W.keepIn X.K (.ref f) = true ∧ Binds X.K fd ps []
 | [], _, _, _, h => nomatch h
 | q :: r, ⟨h1, hr⟩, y, mf, h => by
  obtain ⟨qn, qm⟩ := q
  rw [List.lookup_cons] at h
  cases e : y == qn with
  | true =>
   rw [e] at h
   cases h
   have := eq_of_beq e
   subst this
   exact h1
  | false => rw [e] at h; exact Fw hr y mf h
end L3
namespace L3
open PySem PySem.Spec L2
theorem aL {X : Cx} {EE : fk} {e : Expr} {es : List Expr} {m : DS → M D} {r : DS → M (List D)} (ha : QE X EE e m) (h : cW e = true) (hr : QA X EE es r) : QA X EE (e :: es) (ai m r) := yk ha hr h
theorem jo {X : Cx} {EE : fk} {x : Str} {j : Nat} {pos : Pos} {es : List Expr} {r : DS → M (List D)} (hr : QA X EE es r) : QA X EE (.Constant (.str x) j pos :: es) (ai (eC (.str x)) r) := yk gZ hr rfl
theorem IC {X : Cx} {EE : fk} {x : Int} {j : Nat} {pos : Pos} {es : List Expr} {r : DS → M (List D)} (hr : QA X EE es r) : QA X EE (.Constant (.int x) j pos :: es) (ai (eC (.int x)) r) := yk ao hr rfl
end L3
end
section
set_option Elab.async false
set_option linter.all false
set_option maxRecDepth 100000
namespace L3
open PySem PySem.Spec L2
theorem Bx : typeLookup (.type "list_reverseiterator") (Str.ofString "__len__") = (pure none : Sem (Option Value)) := by
 rw [typeLookup_type, builtinLookup_eq_fast]; rfl
theorem Fx : typeLookup (.type "list_reverseiterator") (Str.ofString "__length_hint__") = (pure (some (.builtin "list_reverseiterator.__length_hint__")) : Sem (Option Value)) := by
 rw [typeLookup_type, builtinLookup_eq_fast]; rfl
theorem Fy : isSubtype (.type "list_reverseiterator") (.type "list_reverseiterator") = (pure true : Sem Bool) := by
 rw [isSubtype_type]; rfl
theorem Fz {M : Model} {A : Around} {E : Value → Shared → Prop} {s : Shared} {it l : Addr} {i : Int} {Q : Bool → Shared → Prop} (hr : s.heap.IsRevIter it l i) (h : Q false s) : wpAny M A (Builtin.List.listLengthHint (.ref it)) Q E s := by
 have ty : s.TypeIs (.ref it) "list_reverseiterator" := by
  obtain ⟨o, e, c, _⟩ := hr
  exact ⟨o, e, c⟩
 unfold Builtin.List.listLengthHint
 refine wpAny_bind (wpAny_specialOf ty Bx ?_)
 refine wpAny_bind (wpAny_specialOf ty Fx ?_)
 have e1 : splitId "list_reverseiterator.__length_hint__" = some ("list_reverseiterator", "__length_hint__") := by decide +kernel
 dsimp only
 rw [e1]
 dsimp only
 refine wpAny_bind (wpAny_isInstance ty Fy ?_)
 rw [if_neg (by decide)]
 split
 ·rw [if_neg (by decide)]
  exact wpAny_pure h
 ·rename_i hs
  exact absurd (by decide +kernel) hs
theorem By {prog : Program} {w : World} {A : Around} {s : Shared} {R : Result → Shared → Prop} {it l : Addr} {items : Array Value} (hh : A.handled = none) (hit : s.heap.IsRevIter it l ((items.size : Int) - 1)) (hl : s.heap.IsList l items) (hne : l ≠ it) (hz : items.size ≤ sizeLine) (S : Addr) (res : Value) (c₀ : Nat)
  (hS : s.heap.get? S = some { cls := .type "list", data := .seq #[] c₀ }) (U7 : S ≠ l)
  (hR : ∀ (s' : Shared) (acc' : Array Value) (c' : Nat), Moved [S, it] (fun a b => b = a) s s' → s'.heap.get? S = some { cls := .type "list", data := .seq acc' c' } → ItemsOf (fun i v => items[items.size - 1 - i]? = some v) acc' items.size → R (.ok (.ret res)) s') :
  wpAny (model prog w) A.in1 (Builtin.List.listExtendWith (.ref S) (.ref it) res) (fun fin s' => match fin with
   | .done f => R (.ok f) s'
   | .again c' => c'.quiet = true ∧ codeAny (model prog w) A c' R s') (fun e s' => R (.error e) s') s := by
 have Np : S ≠ it := by
  rintro rfl
  obtain ⟨o, e, c, d⟩ := hit
  rw [hS] at e; cases e
  exact absurd (Value.type.inj c) (by decide)
 have ty : s.TypeIs (.ref it) "list_reverseiterator" := by
  obtain ⟨o, e, c, _⟩ := hit
  exact ⟨o, e, c⟩
 have Wk := Walks.toS (Walks.listRev (prog := prog) (w := w) (A := A.in1) (show A.in1.handled = none from hh) it l hne items)
 have key := codeAny_extend_loopS Wk hz S (by simp [Np, U7]) res items.size 0 (R := R)
 unfold Builtin.List.listExtendWith
 refine wpAny_bind (wpAny_typeOf ty ?_)
 have h1 : Builtin.List.listSameRef (.ref S) (.ref it) = false := by simp [Builtin.List.listSameRef, Np]
 rw [if_neg (by rw [h1]; decide)]
 refine wpAny_bind (wpAny_pyIter_revIter hit ?_)
 refine wpAny_bind (wpAny_holding (Fz hit ?_))
 dsimp only
 split
 ·rename_i hs
  exact absurd hs (by decide +kernel)
 ·exact wpAny_pure ⟨plainId_quiet F.plain_extend_loop _, key s #[] c₀ rfl (Nat.zero_le _) ⟨Nat.zero_le _, by simpa using hit, hl⟩ hS (ItemsOf.nil _) hR⟩
theorem vR {prog : Program} {w : World} {A : Around} {E : Value → Shared → Prop} {s : Shared} {it l : Addr} {items : Array Value} {Q : Value → Shared → Prop} (hh : A.handled = none) (hit : s.heap.IsRevIter it l ((items.size : Int) - 1)) (hl : s.heap.IsList l items) (hne : l ≠ it) (hz : items.size ≤ sizeLine)
  (hQ : ∀ (h' : Heap) (tk : Nat) (acc' : Array Value) (c' : Nat), (∀ b o, b ≠ it → s.heap.get? b = some o → h'.get? b = some o) → h'.get? s.heap.objs.size = some { cls := .type "list", data := .seq acc' c' } → ItemsOf (fun i v => items[items.size - 1 - i]? = some v) acc' items.size → Q (.ref s.heap.objs.size) { s with heap := h', toks := tk }) :
  wpAny (model prog w) A (call (.type "list") [.ref it]) Q E s := by
 have U8 : l < s.heap.objs.size := by obtain ⟨o, e, _⟩ := hl; exact Heap.lt_size e
 have Xe : it < s.heap.objs.size := by obtain ⟨o, e, _⟩ := hit; exact Heap.lt_size e
 refine callType_codes (Q₁ := fun v s1 => v = .ref s.heap.objs.size ∧ s1 = { s with heap := s.heap.push { cls := .type "list", data := .seq #[] } }) F.called_list (F.typeCall_list_1 (.ref it)) F.entry_list_init (code_list_new (.ref it) ⟨rfl, rfl⟩) fun obj s₁ h₁ => ?_
 obtain ⟨rfl, rfl⟩ := h₁
 have hS := Heap.get?_push_size (o := { cls := .type "list", data := .seq #[] }) s.heap rfl
 refine ⟨⟨_, hS, rfl⟩, F.args_list_init_2 (.ref s.heap.objs.size) (.ref it), ?_⟩
 have kp : ∀ b o, s.heap.get? b = some o → (s.heap.push { cls := .type "list", data := .seq #[] }).get? b = some o := fun b o e => Heap.get?_push_of_some _ e
 unfold Builtin.«list.__init__»
 refine wpAny_bind ?_
 unfold Builtin.List.listItems
 refine wpAny_bind (wpAny_seqItems hS rfl (wpAny_pure ?_))
 refine wpAny_bind ?_
 unfold Builtin.List.listUpdate
 refine wpAny_updateSeq hS rfl ?_ (by simp [sizeLine_eq]) (by simp [sizeLine_eq])
 have U9 := Heap.get?_update_self (Obj.mapSeq fun x => #[]) hS rfl
 have Es : ∀ b o, b ≠ s.heap.objs.size → (s.heap.push { cls := .type "list", data := .seq #[] }).get? b = some o → ((s.heap.push { cls := .type "list", data := .seq #[] }).update s.heap.objs.size (Obj.mapSeq fun x => #[])).get? b = some o := fun b o hb e => (Heap.get?_update_other _ _ (Ne.symm hb)).trans e
 refine wpAny_bind (wpAny_letGo ?_)
 have up : ∀ b o, s.heap.get? b = some o → ((s.heap.push { cls := .type "list", data := .seq #[] }).update s.heap.objs.size (Obj.mapSeq fun x => #[])).get? b = some o := fun b o e => Es b o (Nat.ne_of_lt (Heap.lt_size e)) (kp b o e)
 refine By (l := l) (items := items) (show A.in1.handled = none from hh) ?_ ?_ hne hz s.heap.objs.size .none (if ((#[] : Array Value).size == (#[] : Array Value).size) = true then 0 else 0 + 1) ?_ (Nat.ne_of_gt U8) ?_
 ·obtain ⟨o, e, r⟩ := hit
  exact ⟨o, up _ _ e, r⟩
 ·obtain ⟨o, e, r⟩ := hl
  exact ⟨o, up _ _ e, r⟩
 ·exact U9
 ·intro s' acc' c' hm hS' hacc
  rw [Moved.eq_with hm]
  refine ⟨rfl, hQ s'.heap s'.toks acc' c' (fun b o hb e => ?_) hS' hacc⟩
  refine hm.heap b o ?_ (up b o e)
  simp [hb, Nat.ne_of_lt (Heap.lt_size e)]
end L3
end
section
set_option Elab.async false
set_option linter.all false
set_option maxRecDepth 100000
namespace L3
open PySem PySem.Spec L2
section
variable {X : Cx} {EE : fk} {a b c e o : Expr} {es : List Expr} {ma mb mo : DS → M D} {m : DS → M (List D)} {t : DS → M Bool} {ms : MS} {pos p p2 pos2 apos cpos : Pos}
noncomputable def fuel : Nat := 100000
noncomputable def gE (t : DS → M Bool) (ms : MS) : Nat → MS
 | 0 => fun _ _ => .stuck
 | n + 1 => fun τ => cO (t τ) (fun c G => if c = true then (match ms τ G with
   | .nx τ' G' => gE t ms n τ' G'
   | .ct τ' G' => gE t ms n τ' G'
   | .bk τ' G' => .nx τ' G'
   | r => r) else .nx τ G) fun c G => .xn c τ G
theorem HZ.imp {H : Hp} {σ : L2.St} {τ : DS} {ρ : List Addr} {r : Out Bool} {Q Q' : Bool → Hp → Prop} (h : HZ X.K X.mg EE H σ τ ρ r Q) (i : ∀ b H', Q b H' → Q' b H') : HZ X.K X.mg EE H σ τ ρ r Q' := by
 cases r with
 | stuck => exact h
 | ok b G => exact fun H' ρ' f ab => i b H' (h H' ρ' f ab)
 | dF c G => exact h
theorem FA {n : Nat} {body : List Stmt} (hp : PassesOwn (model X.prog X.w) X.A X.env X.xe) (hc : QT X EE c t) (hb : A1 X EE body ms) : QS X EE (.While c body [] pos) (gE t ms n) := PS.mono (EA hp hc hb) fun Dd σ H h => by
 obtain ⟨τ0, ρ0, G0, Lr, Ly⟩ := h
 refine ⟨fun m σ H => ∃ τ ρ G, Ab X.K X.mg σ H τ ρ G ∧ w9 X.K X.mg EE H ρ Dd (gE t ms m τ G), ⟨n, τ0, ρ0, G0, Lr, Ly⟩, ?_⟩
 rintro m σ H ⟨τ, ρ, G, ab, ok⟩
 cases m with
 | zero => exact ok.elim
 | succ m =>
  obtain ⟨τ1, ρ1, G1, qv, Hl⟩ := EM (k := fun τ c G => if c = true then (match ms τ G with
   | .nx τ' G' => gE t ms m τ' G'
   | .ct τ' G' => gE t ms m τ' G'
   | .bk τ' G' => .nx τ' G'
   | r => r) else .nx τ G) (show jj X.K X.mg EE (fun τ => cO (t τ) (fun c G => if c = true then (match ms τ G with
   | .nx τ' G' => gE t ms m τ' G'
   | .ct τ' G' => gE t ms m τ' G'
   | .bk τ' G' => .nx τ' G'
   | r => r) else .nx τ G) fun c G => .xn c τ G) Dd σ H from ⟨τ, ρ, G, ab, ok⟩)
  refine ⟨τ1, ρ1, G1, qv, Hl.imp fun b H1 hq => ?_⟩
  obtain ⟨τ2, ρ2, G2, dj, aK⟩ := hq
  cases b with
  | false =>
   rw [if_neg Bool.false_ne_true] at aK ⊢
   exact aK σ H1 ρ2 .refl dj
  | true =>
   rw [if_pos rfl] at aK ⊢
   refine ⟨fun σ' H' => ∃ τ ρ G, Ab X.K X.mg σ' H' τ ρ G ∧ w9 X.K X.mg EE H' ρ Dd (gE t ms m τ G), fun σ' H' w => ⟨m, Nat.lt_succ_self _, w⟩, τ2, ρ2, G2, dj, ?_⟩
   cases q : ms τ2 G2 with
   | stuck => rw [q] at aK; exact aK
   | nx τ' G' => rw [q] at aK; exact fun σ' H' ρ' f cy => ⟨τ', ρ', G', cy, aK.fut f⟩
   | ct τ' G' => rw [q] at aK; exact fun σ' H' ρ' f cy => ⟨τ', ρ', G', cy, aK.fut f⟩
   | bk τ' G' => rw [q] at aK; exact aK
   | rt d G' => rw [q] at aK; exact aK
   | xn c τ' G' => rw [q] at aK; exact aK
noncomputable def zW : List D → M D
 | [d] => fun G => match bz G d with
  | some (.lst xs) => bM xs.reverse G
  | _ => .stuck
 | _ => M.stop
theorem uQ : bootBuiltins "reversed" = some (.type "reversed") := by decide +kernel
theorem au.rev {K : PySem.W.Frag} {mg : Str → Option Value} {ρ : List Addr} {H : Hp} : ∀ {ds : List D} {vs : List V}, au K mg ρ H ds vs → au K mg ρ H ds.reverse vs.reverse
 | [], vs, h => by unfold au at h; subst h; exact .nil
 | d :: ds, vs, h => by
  unfold au at h
  obtain ⟨v, r, rfl, h1, h2⟩ := h
  rw [List.reverse_cons, List.reverse_cons]
  exact (au.rev h2).append (.cons h1 .nil)
theorem Vals.app : ∀ {xs ys : List V} {us vs : List Value}, Vals xs us → Vals ys vs → Vals (xs ++ ys) (us ++ vs)
 | _, _, _, _, .nil, h => h
 | _, _, _, _, .cons r t, h => .cons r (Vals.app t h)
theorem Vals.rev : ∀ {xs : List V} {us : List Value}, Vals xs us → Vals xs.reverse us.reverse
 | _, _, .nil => .nil
 | _, _, .cons r t => by
  rw [List.reverse_cons, List.reverse_cons]
  exact Vals.app (Vals.rev t) (.cons r .nil)
theorem DX {its : List Value} {acc : Array Value} (h : ItemsOf (fun i v => its.toArray[its.toArray.size - 1 - i]? = some v) acc its.toArray.size) : acc = its.reverse.toArray := by
 obtain ⟨h1, h2⟩ := h
 have hs : its.toArray.size = its.length := by simp
 rw [hs] at h1
 apply Array.ext_getElem?
 intro i
 by_cases hi : i < acc.size
 ·have e := h2 i acc[i] (Array.getElem?_eq_getElem hi)
  rw [Array.getElem?_eq_getElem hi, ← e]
  rw [List.getElem?_toArray, List.getElem?_toArray, List.getElem?_reverse (by omega), hs]
 ·rw [Array.getElem?_eq_none (by omega), Array.getElem?_eq_none (by simp; omega)]
theorem BA (hc : X.calm = true) (hm1 : X.mg "list" = none) (Va : Gl X "list") (hm2 : X.mg "reversed" = none) (Vb : Gl X "reversed") (ha : QA X EE [e] m) (h : aB [e] = true := by rfl) :
  QE X EE (.Call (.Name "list" p) [.Call (.Name "reversed" p2) [e] [] pos2] [] pos) (aC zW m) := by
 have h' : cW e = true ∧ aB [] = true := by simpa [aB] using h
 intro pins s σ H Q I hq
 have hq' := uA (k := fun _ ds => zW ds) hq
 refine wpAny_Call_Name_kw (ji I Va hm1 boot_list ?_ (by decide) (by decide))
 refine PyProof.Rows.callWith_type1 ?_ (aV rfl _ _) (bR (es := []) rfl)
 rw [aV (e := .Call (.Name "reversed" p2) [e] [] pos2) rfl]
 show wpAny _ _ (spliced ((false, eval _ X.env) :: backTo pos (starEach [] X.env))) _ _ s
 refine Calls.spliced_cons ?_
 refine wpAny_Call_Name_kw (ji I Vb hm2 uQ ?_ (by decide) (by decide))
 refine PyProof.Rows.callWith_type1 (fV (ha pos2 pins s σ H _ I hq') fun us s1 HR => ?_) (aV h'.1 _ _) (bR (es := []) rfl)
 obtain ⟨vs, H1, I1, r1, τ, ρ, G, ds, ab, rs, ok⟩ := HR
 match ds, ok with
 | [], ok => exact ok.elim
 | _ :: _ :: _, ok => exact ok.elim
 | [d], ok =>
  obtain ⟨x, rfl, rx⟩ := kO rs
  obtain ⟨u, rfl, ru⟩ := vals1 r1
  dsimp only [zW] at ok
  cases q : bz G d with
  | none => rw [q] at ok; exact ok.elim
  | some sk =>
   rw [q] at ok
   cases sk with
   | tup zs => exact ok.elim
   | str z => exact ok.elim
   | lst zs =>
    dsimp only at ok
    obtain ⟨l, ys, rfl, sq, rv⟩ := cS (pins := pins) (σ0 := σ) (s := s1) ab.hp rx q
    cases ru
    obtain ⟨its, vv, pl, hz⟩ := I1.list sq
    have hlen := vv.length
    have hl := pl.isList
    have hlt : l < s1.heap.objs.size := by obtain ⟨_, e, _⟩ := hl; exact Heap.lt_size e
    refine call_reversed_list hl ?_
    refine Calls.spliced_nil ?_
    refine kL (by first | exact I1.os.2 | exact Nat.succ_pos _) <| vR (l := l) (items := its.toArray) (show X.A.handled = none from I.ok.hd hc) ⟨_, Heap.get?_push_size _ rfl, rfl, rfl⟩ (hl.push _) (Nat.ne_of_lt hlt) (by simp; omega) fun h' tk acc' c' kp hS hacc ht => ?_
    have ea := DX hacc
    subst ea
    obtain ⟨hlr, hn⟩ := m8 ab rv.rev ok
    have hsz : (s1.heap.push (revObj l ((its.toArray.size : Int) - 1))).objs.size = s1.heap.objs.size + 1 := Heap.size_push ..
    refine ⟨.ref _, upd H1 _ (.lst ys.reverse), I1.laid (t' := tk) (fun b o e => kp b o (Nat.ne_of_lt (Heap.lt_size e)) (Heap.get?_push_of_some _ e)) ?_ ⟨hlr, its.reverse, c', Vals.rev vv, hS⟩, rfl, hn _ (I1.hok.fresh ?_)⟩
    ·show s1.heap.objs.size ≤ (s1.heap.push _).objs.size
     rw [hsz]; omega
    ·show s1.heap.objs.size ≤ (s1.heap.push _).objs.size
     rw [hsz]; omega
end
end L3
end
section
set_option Elab.async false
set_option linter.all false
set_option maxRecDepth 100000
namespace L3
open PySem PySem.Spec L2
noncomputable abbrev View := DH → Nat → Option (Option D)
noncomputable def JV (K : PySem.W.Frag) (mg : Str → Option Value) (J : It) (vw : View) (H0 : Hp) (ρ0 : List Addr) : Prop :=
 ∀ (i : Nat) (H : Hp) (ρ : List Addr) (G : DH), eZ K H0 H ρ0 ρ → kg K mg H ρ G → (vw G i = some none → J.stop i H) ∧
  ∀ d, vw G i = some (some d) → J.go i H ∧ ∀ x H', J.xW i H x H' → Iu K mg H H' ρ ∧ Rep K mg ρ H' d x
noncomputable def tV (g : ng) (body : MS) (vw : View) : Nat → Nat → MS
 | 0, _ => fun _ _ => .stuck
 | f + 1, i => fun τ G => match vw G i with
  | none => .stuck
  | some none => .nx τ G
  | some (some d) => match g d τ with
   | none => .stuck
   | some τ1 => match body τ1 G with
    | .nx τ2 G2 => tV g body vw f (i + 1) τ2 G2
    | .ct τ2 G2 => tV g body vw f (i + 1) τ2 G2
    | .bk τ2 G2 => .nx τ2 G2
    | r => r
noncomputable abbrev MI := DS → M (Nat × View)
noncomputable def Nq (K : PySem.W.Frag) (mg : Str → Option Value) (EE : fk) (mi : MI) : TI := fun σ H R => ∃ τ ρ G, Ab K mg σ H τ ρ G ∧ match mi τ G with
 | .stuck => False
 | .dF c G' => ∀ H' ρ', eZ K H H' ρ ρ' → Ab K mg σ H' τ ρ' G' → EE c σ H'
 | .ok (_, vw) G' => ∀ J H' ρ', eZ K H H' ρ ρ' → Ab K mg σ H' τ ρ' G' → JV K mg J vw H' ρ' → R J H'
noncomputable def QI (X : Cx) (EE : fk) (tg iter : Expr) (mi : MI) : Prop := PI X tg iter (Nq X.K X.mg EE mi)
section
variable {X : Cx} {EE : fk} {tg iter a b : Expr} {g : ng} {mi : MI} {ms : MS} {pos p pc : Pos} {m : DS → M (List D)}
theorem FD {body : MS} {vw : View} {Dd : Ends} {J : It} {H0 : Hp} {σ0 : L2.St} {ρ0 : List Addr} {G0 : DH} {τ0 : DS} {fuel : Nat} (jv : JV X.K X.mg J vw H0 ρ0)
  (ab : Ab X.K X.mg σ0 H0 τ0 ρ0 G0) (ok : w9 X.K X.mg EE H0 ρ0 Dd (tV g body vw fuel 0 τ0 G0)) :
  ∃ W : Nat → Nat → L2.St → Hp → Prop, (∃ m, W 0 m σ0 H0) ∧ ∀ i m σ H, W i m σ H →
   (J.stop i H ∧ Dd.nx σ H) ∨ (J.go i H ∧ ∃ N : L2.St → Hp → Prop, (∀ σ' H', N σ' H' → ∃ m', m' < m ∧ W (i + 1) m' σ' H') ∧ ∀ x H', J.xW i H x H' → zN X.K X.mg g x σ H' fun σ2 H2 => jj X.K X.mg EE body { Dd with nx := N, ct := N, bk := Dd.nx } σ2 H2) := by
 refine ⟨fun i m σ H => ∃ τ ρ G, Ab X.K X.mg σ H τ ρ G ∧ eZ X.K H0 H ρ0 ρ ∧ w9 X.K X.mg EE H ρ Dd (tV g body vw m i τ G), ⟨fuel, τ0, ρ0, G0, ab, .refl, ok⟩, ?_⟩
 rintro i m σ H ⟨τ, ρ, G, ab, f, ok⟩
 cases m with
 | zero => exact ok.elim
 | succ m =>
  unfold tV at ok
  obtain ⟨j1, j2⟩ := jv i H ρ G f ab.hp
  cases q : vw G i with
  | none => rw [q] at ok; exact ok.elim
  | some od =>
   rw [q] at ok
   cases od with
   | none => exact .inl ⟨j1 q, ok σ H ρ .refl ab⟩
   | some d =>
    dsimp only at ok
    obtain ⟨jg, jy⟩ := j2 d q
    refine .inr ⟨jg, fun σ' H' => ∃ τ' ρ' G', Ab X.K X.mg σ' H' τ' ρ' G' ∧ eZ X.K H0 H' ρ0 ρ' ∧ w9 X.K X.mg EE H' ρ' Dd (tV g body vw m (i + 1) τ' G'), fun σ' H' z => ⟨m, Nat.lt_succ_self _, z⟩, fun x H' y => ?_⟩
    obtain ⟨⟨fN, hN⟩, rx⟩ := jy x H' y
    replace ok := w9.fut fN ok
    replace ab : Ab X.K X.mg σ H' τ ρ G := ab.fut fN (hN _ ab.hp)
    replace f := f.trans fN
    cases e : g d τ with
    | none => rw [e] at ok; exact ok.elim
    | some τ1 =>
     rw [e] at ok
     dsimp only at ok
     refine ⟨τ, ρ, G, d, τ1, ab, rx, e, fun σ' cy => ⟨τ1, ρ, G, cy, ?_⟩⟩
     cases eb : body τ1 G with
     | stuck => rw [eb] at ok; exact ok
     | nx τ2 G2 => rw [eb] at ok; exact fun σ2 H2 ρ2 f2 dj => ⟨τ2, ρ2, G2, dj, f.trans f2, ok.fut f2⟩
     | ct τ2 G2 => rw [eb] at ok; exact fun σ2 H2 ρ2 f2 dj => ⟨τ2, ρ2, G2, dj, f.trans f2, ok.fut f2⟩
     | bk τ2 G2 => rw [eb] at ok; exact ok
     | rt d G2 => rw [eb] at ok; exact ok
     | xn c τ2 G2 => rw [eb] at ok; exact ok
noncomputable def uR (g : ng) (mi : MI) (body : MS) : MS := fun τ => cO (mi τ) (fun x G => tV g body x.2 x.1 0 τ G) fun c G => .xn c τ G
theorem yq {body : List Stmt} (hp : PassesOwn (model X.prog X.w) X.A X.env X.xe) (hc : X.calm = true) (hi : QI X EE tg iter mi) (hg : QG X tg g) (hb : A1 X EE body ms) (hs : nj iter = true := by rfl) :
  QS X EE (.For tg iter body [] pos) (uR g mi ms) := PS.mono (xX hp hc hi hg hb (lH hs _)) fun Dd σ H h => by
 obtain ⟨τ, ρ, G, ab, ok⟩ := h
 refine ⟨τ, ρ, G, ab, ?_⟩
 dsimp only [uR, cO] at ok
 cases e : mi τ G with
 | stuck => rw [e] at ok; exact ok
 | dF c G' => rw [e] at ok; exact fun H' ρ' f cy => ok σ H' ρ' f cy
 | ok x G' => rw [e] at ok; exact fun J H' ρ' f cy jv => FD jv cy (ok.fut f)
variable {gO : D → Option (List D)} {ow : V → Hp → List V → Prop} {xs : List Str} {ks : List Bool} {tt : DS → M Bool} {te : DS → M D}
variable {scope : Scope} {elt : Expr} {ifs : List Expr}
noncomputable def gP (i j : Nat) : ng := fun d τ => match d with
 | .tup [x, y] => some ((τ.set i (some x)).set j (some y))
 | _ => none
theorem ID {x y : Str} {i j : Nat} {px py : Pos} {k : Nat} (hc : X.calm = true) (hN : X.N.Nodup) (hx : Loc X.env.scope x) (hy : Loc X.env.scope y) (hfx : X.fn x = true ∨ X.env.scope.names.lookup x = some .local) (Vc : X.fn y = true ∨ X.env.scope.names.lookup y = some .local) (hi : X.N[i]? = some x := by rfl) (hj : X.N[j]? = some y := by rfl) :
  QG X (.Tuple [.Name x px, .Name y py] k pos) (gP i j) := by
 intro pins s σ H v u Q I r ⟨τ, ρ, G, d, τ', ab, rd, e, q⟩
 refine Kl (n := 2) hc (zz (xV hN hi hx hfx) (zz (xV hN hj hy Vc) Hz)) rfl rfl pins s σ H v u Q I r ?_
 cases d <;> try (cases e; done)
 rename_i ds
 match ds, e with
 | [d1, d2], e =>
  cases e
  unfold Rep at rd
  obtain ⟨a, vs, rfl, sq, rs⟩ := rd
  obtain ⟨v1, v2, rfl, r1, r2⟩ := Jw rs
  exact ⟨a, [v1, v2], rfl, sq, rfl, v1, [v2], rfl, v2, [], rfl, rfl, q _ (Ab.set (Ab.set ab r1) r2)⟩
end
end L3
end
section
set_option Elab.async false
set_option linter.all false
set_option maxRecDepth 100000
namespace L3
open PySem PySem.Spec L2
theorem lz {n : Nat} (h : n ≤ 2000000) : n ≤ sizeLine := by rw [sizeLine_eq]; omega
theorem uS (A : DH) (x : DO) (B : DH) : (A ++ x :: B)[A.length]? = some x := by simp
theorem Hq (A : DH) (x y : DO) (B : DH) : (A ++ x :: y :: B)[A.length + 1]? = some y := by
 rw [List.getElem?_append_right (by omega)]; simp
theorem Et (A : DH) (x y : DO) (B : DH) : (A ++ x :: B).set A.length y = A ++ y :: B := by
 rw [List.set_append_right _ _ (Nat.le_refl _)]; simp
theorem Qx (A : DH) (x y z : DO) (B : DH) : (A ++ x :: y :: B).set (A.length + 1) z = A ++ x :: z :: B := by
 rw [List.set_append_right _ _ (by omega)]; simp
theorem bD {G E : DH} {n : Nat} {o : DO} (h : G[n]? = some o) : (G ++ E)[n]? = some o := by
 rw [List.getElem?_append_left (List.getElem?_eq_some_iff.mp h).1]; exact h
theorem e9 (g : Bool) (i j : Int) (G : DH) : kI g (.int i) (.int j) G = .ok (.bl (g ^^ (i == j))) G := by
 simp [kI, Dy, m7, PyData.canLay0, PyData.depth, PyData.eqv]
theorem jS (g : Bool) (a b : Str) (G : DH) (ha : PyData.strOk a = true) (hb : PyData.strOk b = true) : kI g (.str a) (.str b) G = .ok (.bl (g ^^ (a == b))) G := by
 simp [kI, Dy, m7, PyData.canLay0, PyData.depth, PyData.eqv, ha, hb]
theorem sV (G : DH) : ∀ ws : List Str, d8 (m7 G deep) (ws.map D.str) = some (ws.map PyData.str)
 | [] => rfl
 | w :: ws => by
  have ih := sV G ws
  simp only [List.map_cons, d8, ih]
  rfl
theorem zX (t : Str) (ws : List Str) (G : DH) (h : PyData.strOk t = true) (hw : PyData.canLayAll0 (ws.map PyData.str) = true) : Js (.str t) (ws.map D.str) G = some (ws.any (· == t)) := by
 have e1 : m7 G deep (.str t) = some (.str t) := rfl
 unfold Js
 rw [e1, sV]
 dsimp only
 have c1 : (PyData.str t).canLay0 = true := by simpa [PyData.canLay0] using h
 have c3 : min (PyData.depthAll (ws.map PyData.str)) (PyData.str t).depth ≤ 580 := by
  have : (PyData.str t).depth ≤ 580 := by simp [PyData.depth]
  omega
 rw [if_pos (by rw [c1, hw]; simpa using c3)]
 simp only [List.any_map]
 congr 1
theorem IE (a b : Str) : (a ++ b).length = a.length + b.length := by
 show (a.cps ++ b.cps).size = a.cps.size + b.cps.size
 simp
theorem zY {α : Type} {xs : List α} {i : Int} (h0 : 0 ≤ i) (h1 : i < xs.length) : ∃ v, jQ xs i = some v ∧ xs[i.toNat]? = some v := by
 have hi : i.toNat < xs.length := by omega
 refine ⟨xs[i.toNat], ?_, List.getElem?_eq_getElem hi⟩
 have := gB (xs := xs) (j := i.toNat) (v := xs[i.toNat]) (List.getElem?_eq_getElem hi)
 rwa [show ((i.toNat : Nat) : Int) = i by omega] at this
theorem qC {j : Int} (h0 : 0 ≤ j) (h1 : j < 100000) : mX [.int j] = some ((List.range' 0 j.toNat).map fun (k : Nat) => .int (0 + (k : Int))) := by
 show (if -(2 ^ 62) ≤ j ∧ j < 2 ^ 62 then some ((List.range j.toNat).map fun (k : Nat) => D.int (0 + (k : Int))) else none) = _
 rw [if_pos ⟨by omega, by omega⟩, List.range_eq_range']
theorem CB {gO : D → Option (List D)} {ks : List Bool} {tt : DS → M Bool} {te : DS → M D} {n src : Nat} {τ : DS} {xs : List D} (inv : DH → Prop) (Nr : ∀ G, inv G → G[src]? = some (.lst xs)) (hstep : ∀ G d G', d ∈ xs → inv G → cZ gO ks tt te n d τ G = .ok () G' → inv G') :
  ∀ (fuel k : Nat) (G : DH), xs.length < fuel + k → k ≤ xs.length → inv G → ni gO ks tt te n src fuel k τ G = dm gO ks tt te n (xs.drop k) τ G
 | 0, k, G, hf, Ho, hi => by exfalso; omega
 | fuel + 1, k, G, hf, Ho, hi => by
  unfold ni
  rw [Nr G hi]
  dsimp only
  by_cases hk : k < xs.length
  ·rw [List.getElem?_eq_getElem hk, List.drop_eq_getElem_cons hk, dm]
   dsimp only
   cases e : cZ gO ks tt te n xs[k] τ G with
   | stuck => rfl
   | dF c G' => rfl
   | ok u G' =>
    dsimp only
    exact CB inv Nr hstep fuel (k + 1) G' (by omega) (by omega) (hstep G _ G' (List.getElem_mem hk) hi e)
  ·rw [List.getElem?_eq_none (by omega), List.drop_eq_nil_of_le (by omega), dm]
end L3
end
section
set_option Elab.async false
set_option linter.all false
set_option maxRecDepth 100000
namespace L3
open PySem PySem.Spec L2
noncomputable def Res.sq (r : Res) (k : MS) : Res := match r with
 | .nx τ G => k τ G
 | r => r
noncomputable def Out.cs (r : Out Bool) (a b : MS) (τ : DS) : Res := match r with
 | .stuck => .stuck
 | .ok c G => if c = true then a τ G else b τ G
 | .dF c G => .xn c τ G
noncomputable def Out.st (r : Out D) (i : Nat) (τ : DS) : Res := match r with
 | .stuck => .stuck
 | .ok d G => .nx (τ.set i (some d)) G
 | .dF c G => .xn c τ G
noncomputable def Out.xp (r : Out D) (τ : DS) : Res := match r with
 | .stuck => .stuck
 | .ok d G => .nx τ G
 | .dF c G => .xn c τ G
noncomputable def Out.rn (r : Out D) (τ : DS) : Res := match r with
 | .stuck => .stuck
 | .ok d G => .rt d G
 | .dF c G => .xn c τ G
noncomputable def Out.bd {α β : Type} (r : Out α) (k : α → M β) : Out β := match r with
 | .stuck => .stuck
 | .ok a G => k a G
 | .dF c G => .dF c G
noncomputable def Out.sb {α : Type} (r : Out α) (τ : DS) (k : α → DH → Res) : Res := match r with
 | .stuck => .stuck
 | .ok a G => k a G
 | .dF c G => .xn c τ G
noncomputable def Res.fn (r : Res) : Out D := match r with
 | .stuck => .stuck
 | .nx _ G' => .ok .eY G'
 | .rt d G' => .ok d G'
 | .bk _ _ => .stuck
 | .ct _ _ => .stuck
 | .xn c _ G' => .dF c G'
noncomputable def Res.lp (r : Res) (k : MS) : Res := match r with
 | .nx τ G => k τ G
 | .ct τ G => k τ G
 | .bk τ G => .nx τ G
 | r => r
noncomputable def Qy (m k : MS) : MS := fun τ G => (m τ G).lp k
section
variable {m k : MS} {t ta tb : DS → M Bool} {a b : MS} {τ : DS} {G : DH} {e ma mb mo : DS → M D} {i n : Nat} {d : D} {c : XD} {α β : Type} {ml : DS → M (List D)} {f : D → D → M D} {fl : List D → M D}
theorem cL : bh m k τ G = (m τ G).sq k := by
 unfold bh Res.sq
 cases m τ G <;> rfl
theorem fc : (Res.nx τ G).sq k = k τ G := Eq.trans rfl rfl
theorem CC : (Res.rt d G).sq k = .rt d G := Eq.trans rfl rfl
theorem zZ : oh t a b τ G = (t τ G).cs a b τ := by
 unfold oh cO Out.cs
 cases t τ G <;> rfl
theorem DY : (Out.ok true G).cs a b τ = a τ G := Eq.trans rfl rfl
theorem FE : (Out.ok false G).cs a b τ = b τ G := Eq.trans rfl rfl
theorem pL : bC i e τ G = (e τ G).st i τ := by
 unfold bC cO Out.st
 cases e τ G <;> rfl
theorem uT : (Out.ok d G).st i τ = .nx (τ.set i (some d)) G := Eq.trans rfl rfl
theorem yr : fX e τ G = (e τ G).xp τ := by
 unfold fX cO Out.xp
 cases e τ G <;> rfl
theorem z9 : (Out.ok d G).xp τ = .nx τ G := Eq.trans rfl rfl
theorem yt : gi e τ G = (e τ G).rn τ := by
 unfold gi cO Out.rn
 cases e τ G <;> rfl
theorem CD : (Out.ok d G).rn τ = .rt d G := Eq.trans rfl rfl
theorem um : cP τ G = .nx τ G := Eq.trans rfl rfl
theorem fQ {x : α} {q : α → M β} : (Out.ok x G).bd q = q x G := Eq.trans rfl rfl
theorem aT {mm : M α} {q : α → M β} : M.bind mm q G = (mm G).bd q := by
 unfold M.bind Out.bd
 cases mm G <;> rfl
theorem oY {x : α} : M.ret x G = .ok x G := Eq.trans rfl rfl
theorem eS : ah i τ G = match τ[i]? with
 | some (some d) => .ok d G
 | _ => .stuck := Eq.trans rfl rfl
theorem Aa : eC d τ G = .ok d G := Eq.trans rfl rfl
theorem jq : aF f ma mb τ G = (ma τ G).bd fun x => (mb τ).bind fun y => f x y := aT
theorem oj : aC fl ml τ G = (ml τ G).bd fl := aT
theorem jr : aq τ G = .ok [] G := Eq.trans rfl rfl
theorem jT : ai ma ml τ G = (ma τ G).bd fun x => (ml τ).bind fun xs => M.ret (x :: xs) := aT
noncomputable def Nt : D → M Bool
 | .bl b => M.ret b
 | _ => M.stop
theorem Ac : kJ e τ G = (e τ G).bd Nt := by
 unfold kJ
 rw [aT]
 unfold Out.bd
 cases e τ G <;> try rfl
theorem uU {b : Bool} : Nt (.bl b) G = .ok b G := Eq.trans rfl rfl
theorem Ad {q : D → M Bool} : m9 q e τ G = (e τ G).bd q := aT
theorem CF : Co t τ G = (t τ G).bd fun c => M.ret (!c) := aT
theorem FF : EX ta tb τ G = (ta τ G).bd fun c => if c = true then M.ret true else tb τ := aT
theorem CG : xh ta tb τ G = (ta τ G).bd fun c => if c = true then tb τ else M.ret false := aT
theorem FG {y : Ty} : DC y e τ G = (e τ G).bd (zP y) := aT
theorem CH {mf : List D → M D} : bZ n mf ml τ G = (ml τ G).bd fun ds => if ds.length = n then mf ds else M.stop := aT
theorem jt {T : String} {g : D → List D → M D} : bq T g mo ml τ G = (mo τ G).bd fun d G => if gk T G d = true then (ml τ G).bd (g d) else .stuck := by
 unfold bq
 rw [aT]
 unfold Out.bd
 cases mo τ G with
 | stuck => rfl
 | dF c G => rfl
 | ok d G' => simp only [aT]; rfl
theorem om {tR : List D → Option (List D)} {g : ng} {body : MS} : gC tR g ml body τ G = (ml τ G).sb τ fun ds G => match tR ds with
  | some xs => cJ g body xs τ G
  | none => .stuck := by
 unfold gC cO Out.sb
 cases ml τ G <;> rfl
theorem Ae {g : ng} {body : MS} : uE g e body τ G = (e τ G).sb τ fun d G => match d with
  | .obj n => match G[n]? with
   | some (.lst xs) => ye g body n (xs.length + 1) 0 τ G
   | _ => .stuck
  | .tup xs => cJ g body xs τ G
  | .con xs => cJ g body xs τ G
  | .str z => cJ g body (z.cps.toList.map fun c => .str ⟨#[c]⟩) τ G
  | _ => .stuck := by
 unfold uE cO Out.sb
 cases e τ G <;> rfl
theorem CI {g : ng} {mi : MI} {body : MS} : uR g mi body τ G = (mi τ G).sb τ fun x G => tV g body x.2 x.1 0 τ G := by
 unfold uR cO Out.sb
 cases mi τ G <;> rfl
theorem CJ {x : α} {q : α → DH → Res} : (Out.ok x G).sb τ q = q x G := Eq.trans rfl rfl
theorem uo {gO : D → Option (List D)} {ks : List Bool} {tt : DS → M Bool} {te : DS → M D} : gD gO ks e tt te τ G = (e τ G).bd fun d G => match d with
  | .obj k => match G[k]? with
   | some (.lst xs) => ni gO ks tt te G.length k (xs.length + 1) 0 τ (G ++ [.lst []])
   | _ => .stuck
  | .tup xs => dm gO ks tt te G.length xs τ (G ++ [.lst []])
  | .con xs => dm gO ks tt te G.length xs τ (G ++ [.lst []])
  | .str z => dm gO ks tt te G.length (z.cps.toList.map fun c => .str ⟨#[c]⟩) τ (G ++ [.lst []])
  | _ => .stuck := aT
theorem Af {tR : List D → Option (List D)} {gO : D → Option (List D)} {ks : List Bool} {tt : DS → M Bool} {te : DS → M D} : uL tR gO ks ml tt te τ G = (ml τ G).bd fun ds G => match tR ds with
  | some xs => dm gO ks tt te G.length xs τ (G ++ [.lst []])
  | none => .stuck := aT
theorem uV {ds : List D} : cT n m ds G = (m (ds.map some ++ List.replicate (n - ds.length) none) G).fn := by
 unfold cT Res.fn
 cases m (ds.map some ++ List.replicate (n - ds.length) none) G <;> rfl
theorem CK : (Res.rt d G).fn = .ok d G := Eq.trans rfl rfl
theorem JD {lo hi : DS → M (Option Int)} : Jt e lo hi τ G = (e τ G).bd fun d => (lo τ).bind fun l => (hi τ).bind fun h => K9 d l h := aT
theorem CL : zK τ G = .ok none G := Eq.trans rfl rfl
noncomputable def JE : D → M (Option Int)
 | .int i => M.ret (some i)
 | _ => M.stop
theorem CM : nc e τ G = (e τ G).bd JE := by
 unfold nc
 rw [aT]
 unfold Out.bd
 cases e τ G <;> try rfl
theorem CN {i : Int} : JE (.int i) G = .ok (some i) G := Eq.trans rfl rfl
noncomputable def Nu : D → M D
 | .int i => M.ret (.int (-i))
 | _ => M.stop
theorem FH : E5 e τ G = (e τ G).bd Nu := by
 unfold E5
 rw [aT]
 unfold Out.bd
 cases e τ G <;> try rfl
theorem FI {i : Int} : Nu (.int i) G = .ok (.int (-i)) G := Eq.trans rfl rfl
theorem Ag {zv : Str → Option (List D → M D)} : pK i n zv ml τ G = match τ[i]? with
 | some (some (.fn y)) => match zv y with
  | some mf => bZ n mf ml τ G
  | none => .stuck
 | _ => .stuck := Eq.trans rfl rfl
theorem FJ : Qy m k τ G = (m τ G).lp k := Eq.trans rfl rfl
theorem jU : (Res.nx τ G).lp k = k τ G := Eq.trans rfl rfl
theorem qD : gE t m (n + 1) τ G = (t τ G).cs (Qy m (gE t m n)) cP τ := by
 rw [gE]
 unfold cO Out.cs
 dsimp only
 cases t τ G with
 | stuck => rfl
 | dF c G => rfl
 | ok b G' =>
  cases b with
  | false => rfl
  | true =>
   simp only [if_true]
   unfold Qy Res.lp
   cases m τ G' <;> rfl
theorem FL {g : ng} {body : MS} : cJ g body [] τ G = .nx τ G := Eq.trans rfl rfl
theorem eB {g : ng} {body : MS} {x : D} {r : List D} {τ1 : DS} (h : g x τ = some τ1) : cJ g body (x :: r) τ G = (body τ1 G).lp (cJ g body r) := by
 rw [cJ, h]
 dsimp only
 unfold Res.lp
 cases body τ1 G <;> rfl
end
end L3
end
section
set_option Elab.async false
set_option linter.all false
set_option maxRecDepth 100000
namespace L3
open PySem PySem.Spec L2
noncomputable def aU (l : List Nat) : Str := ⟨l.toArray⟩
theorem fY (l : List Nat) : (aU l).cps.toList = l := by simp [aU]
theorem FN (s : Str) : aU s.cps.toList = s := by cases s; simp [aU]
theorem qE {a b : Str} (h : a.cps.toList = b.cps.toList) : a = b := by rw [← FN a, ← FN b, h]
noncomputable def br (c : Nat) : List Nat → List (List Nat)
 | [] => [[]]
 | x :: xs => if x = c then [] :: br c xs else match br c xs with
  | p :: ps => (x :: p) :: ps
  | [] => [[x]]
noncomputable def cB (s : List Nat) : List (List Nat) → List Nat
 | [] => []
 | [p] => p
 | p :: q :: ps => p ++ s ++ cB s (q :: ps)
noncomputable def rp (c : Nat) (s : List Nat) (l : List Nat) : List Nat := l.flatMap fun x => if x = c then s else [x]
theorem se (c : Nat) : ∀ l, br c l ≠ []
 | [] => by simp [br]
 | x :: xs => by
  unfold br
  split
  ·simp
  ·split <;> simp
theorem nA (c : Nat) : ∀ l, c ∉ l → br c l = [l]
 | [], _ => rfl
 | x :: xs, h => by
  have h1 : ¬ x = c := fun e => h (by simp [e])
  rw [br, if_neg h1, nA c xs fun z => h (by simp [z])]
theorem gm (c : Nat) : ∀ p l, br c (p ++ c :: l) = br c p ++ br c l
 | [], l => by simp [br]
 | x :: xs, l => by
  rw [List.cons_append, br, br, gm c xs l]
  by_cases h : x = c
  ·rw [if_pos h, if_pos h]; rfl
  ·rw [if_neg h, if_neg h]
   cases e : br c xs with
   | nil => exact absurd e (se c xs)
   | cons q qs => rfl
theorem qF (c : Nat) : ∀ ps : List (List Nat), ps ≠ [] → br c (cB [c] ps) = ps.flatMap (br c)
 | [], h => absurd rfl h
 | [p], _ => by simp [cB]
 | p :: q :: ps, _ => by
  rw [cB, List.append_assoc, List.singleton_append, gm, qF c (q :: ps) (by simp)]
  simp
theorem uW (c : Nat) (ps : List (List Nat)) (hn : ps ≠ []) (h : ∀ p ∈ ps, c ∉ p) : br c (cB [c] ps) = ps := by
 rw [qF c ps hn]
 clear hn
 induction ps with
 | nil => rfl
 | cons p ps ih => rw [List.flatMap_cons, nA c p (h p (by simp)), ih fun q hq => h q (by simp [hq])]; rfl
theorem qG (c : Nat) (s : List Nat) : ∀ l, cB s (br c l) = rp c s l
 | [] => rfl
 | x :: xs => by
  have ih := qG c s xs
  unfold br rp
  rw [List.flatMap_cons]
  by_cases h : x = c
  ·rw [if_pos h, if_pos h]
   cases e : br c xs with
   | nil => exact absurd e (se c xs)
   | cons q qs => rw [e] at ih; rw [cB, ih]; rfl
  ·rw [if_neg h, if_neg h]
   cases e : br c xs with
   | nil => exact absurd e (se c xs)
   | cons q qs =>
    rw [e] at ih
    cases qs with
    | nil => rw [cB] at ih ⊢; rw [ih]; rfl
    | cons r rs => rw [cB] at ih ⊢; rw [List.cons_append, List.cons_append, ih]; rfl
theorem ko (y : Str) : ∀ ps : List Str, (y.join ps).cps.toList = cB y.cps.toList (ps.map fun p => p.cps.toList)
 | [] => by
  rw [← StrLaws.glued_eq_join]
  simp [Builtin.Str.glued, cB, Str.empty]
 | p :: ps => by
  rw [← StrLaws.glued_eq_join]
  have key : ∀ (ps : List Str) (a : Array Nat), (List.foldl (fun acc (p : Str) => acc ++ y.cps ++ p.cps) a ps).toList = cB y.cps.toList (a.toList :: ps.map fun p => p.cps.toList) := by
   intro ps
   induction ps with
   | nil => intro a; simp [cB]
   | cons q qs ih =>
    intro a
    rw [List.foldl_cons, ih]
    cases qs with
    | nil => simp [cB]
    | cons r rs => simp [cB]
  simpa [Builtin.Str.glued] using key ps p.cps
theorem FO (x : Str) (c : Nat) : Txt.split x ⟨#[c]⟩ ≠ [] := by
 unfold Txt.split
 split
 ·simp
 ·split
  ·simp
  ·rw [StrLaws.partsBetween_eq]
   obtain ⟨p, r, e⟩ := StrLaws.partsFrom_ne x (Str.mk #[c]).length 0 (Builtin.Str.occurrences x ⟨#[c]⟩ 0 x.length (x.length + 1))
   rw [e]; simp
theorem CO (x : Str) (c : Nat) : (Txt.split x ⟨#[c]⟩).map (fun p => p.cps.toList) = br c x.cps.toList := by
 have h1 := congrArg (fun s : Str => s.cps.toList) (StrLaws.join_split x ⟨#[c]⟩)
 rw [ko] at h1
 rw [← h1]
 refine (uW c _ (by simp [FO]) fun p hp => ?_).symm
 obtain ⟨q, hq, rfl⟩ := List.mem_map.mp hp
 exact StrLaws.split_free x c q hq
theorem FP (x : Str) (c : Nat) : Txt.split x ⟨#[c]⟩ = (br c x.cps.toList).map aU := by
 rw [← CO, List.map_map]
 conv => lhs; rw [← List.map_id (Txt.split x ⟨#[c]⟩)]
 exact List.map_congr_left fun p _ => (FN p).symm
theorem je (x z : Str) (c : Nat) : (Txt.replace x ⟨#[c]⟩ z).cps.toList = rp c z.cps.toList x.cps.toList := by
 rw [StrLaws.replace_one, ko, CO, qG]
noncomputable def Qz (t : Str) : List Nat := rp 41 [32, 41, 32] (rp 40 [32, 40, 32] t.cps.toList)
end L3
end
section
set_option Elab.async false
set_option linter.all false
set_option maxRecDepth 100000
namespace L3
open PySem PySem.Spec L2
section
variable {m k mb me : MS} {τ : DS} {G : DH} {e : DS → M D} {c : XD} {x : Str} {ml : DS → M (List D)} {d : D}
theorem JF {f : D → M D} : Lz f e τ G = (e τ G).bd f := aT
noncomputable def Res.tr (r : Res) (mh : XD → MS) (me : MS) : Res := match r with
 | .nx τ' G' => me τ' G'
 | .xn c τ' G' => mh c τ' G'
 | r => r
end
end L3
end
section
set_option Elab.async false
set_option linter.all false
set_option maxRecDepth 100000
namespace L3
open PySem PySem.Spec L2
mutual
noncomputable def D.closed : D → Bool
 | .tup ds => aR ds
 | .con ds => aR ds
 | .obj _ => false
 | .w6 _ _ => false
 | _ => true
noncomputable def aR : List D → Bool
 | [] => true
 | d :: r => d.closed && aR r
end
mutual
noncomputable def D.beq : D → D → Bool
 | .eY, .eY => true
 | .bl a, .bl b => a == b
 | .int a, .int b => a == b
 | .str a, .str b => a == b
 | .tup a, .tup b => sf a b
 | .con a, .con b => sf a b
 | .obj a, .obj b => a == b
 | .fn a, .fn b => a == b
 | .w6 a x, .w6 b y => a == b && sf x y
 | _, _ => false
noncomputable def sf : List D → List D → Bool
 | [], [] => true
 | a :: r, b :: q => a.beq b && sf r q
 | _, _ => false
end
noncomputable def yu : List (Key × D) → List (Key × D) → Bool
 | [], [] => true
 | a :: r, b :: q => decide (a.1 = b.1) && a.2.beq b.2 && yu r q
 | _, _ => false
noncomputable def DO.beq : DO → DO → Bool
 | .lst a, .lst b => sf a b
 | .dead, .dead => true
 | .dct a, .dct b => yu a b
 | _, _ => false
noncomputable def nB : DH → DH → Bool
 | [], [] => true
 | a :: r, b :: q => a.beq b && nB r q
 | _, _ => false
mutual
theorem D.beq_eq : ∀ (a b : D), a.beq b = true → a = b
 | .eY, b, h => by cases b <;> simp_all [D.beq]
 | .bl a, b, h => by cases b <;> simp_all [D.beq]
 | .int a, b, h => by cases b <;> simp_all [D.beq]
 | .str a, b, h => by cases b <;> simp_all [D.beq]
 | .tup a, b, h => by
  cases b <;> try (simp [D.beq] at h; done)
  rename_i y
  rw [qH a y (by simpa [D.beq] using h)]
 | .con a, b, h => by
  cases b <;> try (simp [D.beq] at h; done)
  rename_i y
  rw [qH a y (by simpa [D.beq] using h)]
 | .obj a, b, h => by cases b <;> simp_all [D.beq]
 | .fn a, b, h => by cases b <;> simp_all [D.beq]
 | .w6 c x, b, h => by
  cases b <;> try (simp [D.beq] at h; done)
  rename_i d y
  have h' : c = d ∧ sf x y = true := by simpa [D.beq] using h
  rw [h'.1, qH x y h'.2]
theorem qH : ∀ (a b : List D), sf a b = true → a = b
 | [], b, h => by cases b <;> simp_all [sf]
 | x :: r, b, h => by
  cases b with
  | nil => simp [sf] at h
  | cons y q =>
   have h' : x.beq y = true ∧ sf r q = true := by simpa [sf] using h
   rw [D.beq_eq x y h'.1, qH r q h'.2]
end
mutual
theorem D.Ah : ∀ (a : D), a.beq a = true
 | .eY => rfl
 | .bl a => by simp [D.beq]
 | .int a => by simp [D.beq]
 | .str a => by simp [D.beq]
 | .tup a => by simp [D.beq, kP a]
 | .con a => by simp [D.beq, kP a]
 | .obj a => by simp [D.beq]
 | .fn a => by simp [D.beq]
 | .w6 c x => by simp [D.beq, kP x]
theorem kP : ∀ (a : List D), sf a a = true
 | [] => rfl
 | x :: r => by simp [sf, D.Ah x, kP r]
end
theorem xB : ∀ (a : List (Key × D)), yu a a = true
 | [] => rfl
 | x :: r => by simp [yu, D.Ah x.2, xB r]
theorem CP : ∀ (a b : List (Key × D)), yu a b = true → a = b
 | [], b, h => by cases b <;> simp_all [yu]
 | x :: r, b, h => by
  cases b with
  | nil => simp [yu] at h
  | cons y q =>
   have h' : (x.1 = y.1 ∧ x.2.beq y.2 = true) ∧ yu r q = true := by simpa [yu] using h
   rw [CP r q h'.2, Prod.ext h'.1.1 (D.beq_eq _ _ h'.1.2)]
theorem kQ : ∀ (a : DH), nB a a = true
 | [] => rfl
 | x :: r => by
  cases x with
  | lst a => simp [nB, DO.beq, kP a, kQ r]
  | dead => simp [nB, DO.beq, kQ r]
  | dct kv => simp [nB, DO.beq, xB kv, kQ r]
theorem uq : ∀ (a b : DH), nB a b = true → a = b
 | [], b, h => by cases b <;> simp_all [nB]
 | x :: r, b, h => by
  cases b with
  | nil => simp [nB] at h
  | cons y q =>
   have h' : x.beq y = true ∧ nB r q = true := by simpa [nB] using h
   rw [uq r q h'.2]
   congr 1
   cases x with
   | lst u =>
    cases y with
    | lst v => rw [qH u v (by simpa [DO.beq] using h'.1)]
    | dead => simp [DO.beq] at h'
    | dct kv => simp [DO.beq] at h'
   | dead =>
    cases y with
    | lst v => simp [DO.beq] at h'
    | dead => rfl
    | dct kv => simp [DO.beq] at h'
   | dct kv =>
    cases y with
    | lst v => simp [DO.beq] at h'
    | dead => simp [DO.beq] at h'
    | dct v => rw [CP kv v (by simpa [DO.beq] using h'.1)]
section
variable {K : PySem.W.Frag} {mg : Str → Option Value} {H H' : Hp} {ρ ρ' : List Addr} {G G' : DH}
mutual
theorem uX : ∀ (d : D) (v : V), d.closed = true → Rep K mg ρ H d v → Rep K mg ρ' H d v
 | .eY, v, c, h => by unfold Rep at h ⊢; exact h
 | .bl b, v, c, h => by unfold Rep at h ⊢; exact h
 | .int i, v, c, h => by unfold Rep at h ⊢; exact h
 | .str x, v, c, h => by unfold Rep at h ⊢; exact h
 | .tup ds, v, c, h => by
  unfold Rep at h ⊢
  obtain ⟨a, xs, e, s, r⟩ := h
  exact ⟨a, xs, e, s, jV ds xs (by simpa [D.closed] using c) r⟩
 | .con ds, v, c, h => by
  unfold Rep at h ⊢
  obtain ⟨a, xs, e, s, r⟩ := h
  exact ⟨a, xs, e, s, jV ds xs (by simpa [D.closed] using c) r⟩
 | .obj n, v, c, h => by simp [D.closed] at c
 | .fn x, v, c, h => by unfold Rep at h ⊢; exact h
 | .w6 _ _, v, c, h => by simp [D.closed] at c
theorem jV : ∀ (ds : List D) (vs : List V), aR ds = true → au K mg ρ H ds vs → au K mg ρ' H ds vs
 | [], vs, c, h => by unfold au at h ⊢; exact h
 | d :: ds, vs, c, h => by
  have c' : d.closed = true ∧ aR ds = true := by simpa [aR] using c
  unfold au at h ⊢
  obtain ⟨v, r, e, h1, h2⟩ := h
  exact ⟨v, r, e, uX d v c'.1 h1, jV ds r c'.2 h2⟩
end
mutual
theorem Rep.back (p : ∃ r, ρ' = ρ ++ r) : ∀ (d : D) (v0 v : V), Rep K mg ρ H d v0 → Rep K mg ρ' H' d v → Rep K mg ρ H' d v
 | .eY, v0, v, h0, h => by unfold Rep at h ⊢; exact h
 | .bl b, v0, v, h0, h => by unfold Rep at h ⊢; exact h
 | .int i, v0, v, h0, h => by unfold Rep at h ⊢; exact h
 | .str x, v0, v, h0, h => by unfold Rep at h ⊢; exact h
 | .tup ds, v0, v, h0, h => by
  unfold Rep at h0 h ⊢
  obtain ⟨a, xs, e, s, r⟩ := h
  obtain ⟨a0, LA, e0, s0, r0⟩ := h0
  exact ⟨a, xs, e, s, au.back p ds LA xs r0 r⟩
 | .con ds, v0, v, h0, h => by
  unfold Rep at h0 h ⊢
  obtain ⟨a, xs, e, s, r⟩ := h
  obtain ⟨a0, LA, e0, s0, r0⟩ := h0
  exact ⟨a, xs, e, s, au.back p ds LA xs r0 r⟩
 | .obj n, v0, v, h0, h => by
  unfold Rep at h0 h ⊢
  obtain ⟨a, e, q⟩ := h
  obtain ⟨a0, e0, q0⟩ := h0
  obtain ⟨r, rfl⟩ := p
  rw [List.getElem?_append_left (List.getElem?_eq_some_iff.mp q0).1] at q
  exact ⟨a, e, q⟩
 | .fn x, v0, v, h0, h => by unfold Rep at h ⊢; exact h
 | .w6 c as, v0, v, h0, h => by unfold Rep at h ⊢; exact h
theorem au.back (p : ∃ r, ρ' = ρ ++ r) : ∀ (ds : List D) (QB vs : List V), au K mg ρ H ds QB → au K mg ρ' H' ds vs → au K mg ρ H' ds vs
 | [], QB, vs, h0, h => by unfold au at h ⊢; exact h
 | d :: ds, QB, vs, h0, h => by
  unfold au at h0 h ⊢
  obtain ⟨v, r, e, h1, h2⟩ := h
  obtain ⟨v0, r0, e0, Lq, Vd⟩ := h0
  exact ⟨v, r, e, Rep.back p d v0 v Lq h1, au.back p ds r0 r Vd h2⟩
end
theorem kg.cut (h : kg K mg H ρ G) (p : ∃ r, ρ' = ρ ++ r) (h' : kg K mg H' ρ' G') (e : G'.take G.length = G) : kg K mg H' ρ G := by
 refine ⟨h.hl, h.nd, fun n o q => ?_⟩
 have hn : n < G.length := (List.getElem?_eq_some_iff.mp q).1
 have q' : G'[n]? = some o := by
  rw [← e, List.getElem?_take] at q
  rw [if_pos hn] at q; exact q
 obtain ⟨a0, e0, r0⟩ := h.ob n o q
 obtain ⟨a, e1, r1⟩ := h'.ob n o q'
 have ea : a = a0 := by
  obtain ⟨r, rfl⟩ := p
  rw [List.getElem?_append_left (by rw [h.hl]; exact hn), e0] at e1
  exact (Option.some.inj e1).symm
 subst ea
 refine ⟨a, e0, ?_⟩
 cases o with
 | dead => exact r1
 | dct kv =>
  obtain ⟨xs, e2, rs⟩ := r1
  obtain ⟨LA, _, QC⟩ := r0
  exact ⟨xs, e2, au.back p _ LA xs QC rs⟩
 | lst ds =>
  obtain ⟨xs, e2, rs⟩ := r1
  obtain ⟨LA, _, QC⟩ := r0
  exact ⟨xs, e2, au.back p ds LA xs QC rs⟩
theorem yw {a : Addr} {o : Obj} {xs : List V} (e : H a = some (.lst xs)) (ρ : List Addr) : eZ K H (upd H a (.oS o (.lst xs))) ρ ρ := by
 refine ⟨fun b zs h => ?_, fun b zs h => ?_, ⟨[], by simp⟩, fun b φ h => by rw [aZ (kK h e (by intro z; cases z))]; exact h⟩
 ·rcases h with (h | ⟨q, h⟩) | h
  ·exact .inl (.inl (by rw [aZ (kK h e (by intro z; cases z))]; exact h))
  ·exact .inl (.inr ⟨q, by rw [aZ (kK h e (by intro z; cases z))]; exact h⟩)
  ·exact .inr h
 ·rcases h with ⟨q, h⟩ | h
  ·exact .inl ⟨q, by rw [aZ (kK h e (by intro z; cases z))]; exact h⟩
  ·exact .inr h
theorem kg.oS {n : Nat} {a : Addr} {o : Obj} {xs : List V} (h : kg K mg H ρ G) (hn : ρ[n]? = some a) (e : H a = some (.lst xs)) : kg K mg (upd H a (.oS o (.lst xs))) ρ (G.set n .dead) := by
 have f : eZ K H (upd H a (.oS o (.lst xs))) ρ ρ := yw e ρ
 refine ⟨by simp [h.hl], h.nd, fun m ob q => ?_⟩
 by_cases hm : n = m
 ·subst hm
  rw [List.getElem?_set, if_pos rfl] at q
  split at q
  ·cases q
   exact ⟨a, hn, _, fU⟩
  ·cases q
 ·rw [List.getElem?_set_ne hm] at q
  obtain ⟨b, e1, r'⟩ := h.ob m ob q
  have hb : b ≠ a := by
   rintro rfl
   obtain ⟨h1, Hi⟩ := List.getElem?_eq_some_iff.mp hn
   obtain ⟨h2, Hj⟩ := List.getElem?_eq_some_iff.mp e1
   exact hm ((List.getElem_inj h.nd).mp (Hi.trans Hj.symm))
  exact ⟨b, e1, r'.mono f fun u q => by rw [aZ hb]; exact q⟩
end
section
variable {X : Cx} {EE : fk}
theorem IF {pins : List (Addr × Obj)} {σ : L2.St} {H : Hp} {s : Shared} {a : Addr} {xs : List V} (I : Inv X pins σ H s) (e : H a = some (.lst xs)) : ∃ o, Inv X pins σ (upd H a (.oS o (.lst xs))) s := by
 obtain ⟨z, its, n, r, hg⟩ := I.hok a _ e
 refine ⟨_, I.un (H' := upd H a (.oS { cls := .type "list", data := .seq its.toArray n } (.lst xs))) (h' := s.heap) (t' := s.toks) ⟨fun b o q _ _ _ => q, fun b o q _ _ _ => ⟨o.slots, q⟩, fun b o q hn _ => ?_, fun b o q _ => ⟨o, q⟩, fun b ys q => ?_, fun b o u q => ?_, fun b ps q => ⟨#[], ?_⟩⟩ fun b u q => ?_⟩
 ·rw [aZ (by rintro rfl; rw [e] at hn; cases hn)]; exact hn
 ·rw [aZ (kK q e (by intro z; cases z))]; exact q
 ·rw [aZ (kK q e (by intro z; cases z))]; exact q
 ·rw [aZ (kK q e (by intro z; cases z)), q]; simp
 ·have ho : ∀ c y, H c = some (.own y) → upd H a (.oS { cls := .type "list", data := .seq its.toArray n } (.lst xs)) c = some (.own y) := fun c y w => by rw [aZ (kK w e (by intro z; cases z))]; exact w
  have ht : ∀ c ys, H c = some (.tup ys) → upd H a (.oS { cls := .type "list", data := .seq its.toArray n } (.lst xs)) c = some (.tup ys) := fun c ys w => by rw [aZ (kK w e (by intro z; cases z))]; exact w
  by_cases hb : b = a
  ·subst hb
   rw [fU] at q; cases q
   exact ⟨hg, (I.hok b _ e).stay (fun _ _ _ w => w) (fun c w => ho c b w) ht⟩
  ·rw [aZ hb] at q
   exact (I.hok b u q).stay (fun _ _ _ w => w) (fun c w => ho c b w) ht
noncomputable def IG (m : DS → M D) : DS → M D := fun τ G => match m τ G with
 | .ok (.obj n) G' => match G'[n]? with
  | some (.lst ds) => .ok (.con ds) (G'.set n .dead)
  | _ => .stuck
 | r => r
noncomputable def eFn (m : DS → M D) : DS → M D := fun τ G => match m τ G with
 | .ok (.obj n) G' => match G'[n]? with
  | some (.lst ds) => if n = G.length ∧ G'.length = n + 1 ∧ nB (G'.take G.length) G = true ∧ aR ds = true then .ok (.con ds) G else .stuck
  | _ => .stuck
 | r => r
theorem FQ {pins : List (Addr × Obj)} {σ : L2.St} {Q Q' : VK} {u : Value} {s : Shared} (h : EP X pins σ Q' u s) (hq : ∀ v H', Q' v H' → Q v H' ∨ ∃ a xs, v = .ref a ∧ H' a = some (.lst xs) ∧ ∀ o, Q v (upd H' a (.oS o (.lst xs)))) : EP X pins σ Q u s := by
 obtain ⟨v, H', I, r, q⟩ := h
 rcases hq v H' q with q | ⟨a, xs, rfl, e, q⟩
 ·exact ⟨v, H', I, r, q⟩
 ·obtain ⟨o, I'⟩ := IF I e
  exact ⟨_, _, I', r, q o⟩
theorem xC {e : Expr} {m : DS → M D} (ha : QE X EE e m) : QE X EE e (IG m) := by
 intro pins s σ H Q I ⟨τ, ρ, G, ab, ok⟩
 dsimp only [IG] at ok
 cases q : m τ G with
 | stuck => rw [q] at ok; exact ok.elim
 | dF c G' => rw [q] at ok; exact ha pins s σ H Q I ⟨τ, ρ, G, ab, by rw [q]; exact ok⟩
 | ok d G' =>
  rw [q] at ok
  by_cases hd : ∃ n, d = .obj n
  ·obtain ⟨n, rfl⟩ := hd
   dsimp only at ok
   cases g : G'[n]? with
   | none => rw [g] at ok; exact ok.elim
   | some o =>
    rw [g] at ok
    cases o with
    | dead => exact ok.elim
    | dct kv => exact ok.elim
    | lst ds =>
     refine fV (ha pins s σ H (fun v H' => ∃ a xs, v = .ref a ∧ H' a = some (.lst xs) ∧ ∀ o, Q v (upd H' a (.oS o (.lst xs)))) I ⟨τ, ρ, G, ab, ?_⟩) fun u s' h => FQ h fun v H' q => .inr q
     rw [q]
     intro v H' ρ' f cy r
     unfold Rep at r
     obtain ⟨a, rfl, hn⟩ := r
     obtain ⟨a', xs, e1, e2, rs⟩ := cy.hp.lst g
     rw [hn] at e1; cases e1
     refine ⟨a, xs, rfl, e2, fun ob => ?_⟩
     have f2 : eZ X.K H' (upd H' a (.oS ob (.lst xs))) ρ' ρ' := yw e2 ρ'
     refine ok _ _ ρ' (f.trans f2) ⟨cy.st.mono f2, cy.hp.oS hn e2⟩ ?_
     unfold Rep
     exact ⟨a, xs, rfl, .inl ⟨ob, fU⟩, rs.mono f2⟩
  ·have ok' : mW X.K X.mg EE H σ τ ρ (.ok d G') Q := by
    cases d <;> first | exact ok | exact absurd ⟨_, rfl⟩ hd
   exact ha pins s σ H Q I ⟨τ, ρ, G, ab, by rw [q]; exact ok'⟩
theorem fR {e : Expr} {m : DS → M D} (ha : QE X EE e m) : QE X EE e (eFn m) := by
 intro pins s σ H Q I ⟨τ, ρ, G, ab, ok⟩
 dsimp only [eFn] at ok
 cases q : m τ G with
 | stuck => rw [q] at ok; exact ok.elim
 | dF c G' => rw [q] at ok; exact ha pins s σ H Q I ⟨τ, ρ, G, ab, by rw [q]; exact ok⟩
 | ok d G' =>
  rw [q] at ok
  by_cases hd : ∃ n, d = .obj n
  ·obtain ⟨n, rfl⟩ := hd
   dsimp only at ok
   cases g : G'[n]? with
   | none => rw [g] at ok; exact ok.elim
   | some o =>
    rw [g] at ok
    cases o with
    | dead => exact ok.elim
    | dct kv => exact ok.elim
    | lst ds =>
     dsimp only at ok
     by_cases hc : n = G.length ∧ G'.length = n + 1 ∧ nB (G'.take G.length) G = true ∧ aR ds = true
     ·rw [if_pos hc] at ok
      obtain ⟨hn0, hl, hb, hcl⟩ := hc
      refine fV (ha pins s σ H (fun v H' => ∃ a xs, v = .ref a ∧ H' a = some (.lst xs) ∧ ∀ o, Q v (upd H' a (.oS o (.lst xs)))) I ⟨τ, ρ, G, ab, ?_⟩) fun u s' h => FQ h fun v H' q => .inr q
      rw [q]
      intro v H' ρ' f cy r
      unfold Rep at r
      obtain ⟨a, rfl, hn⟩ := r
      obtain ⟨a', xs, e1, e2, rs⟩ := cy.hp.lst g
      rw [hn] at e1; cases e1
      refine ⟨a, xs, rfl, e2, fun ob => ?_⟩
      have f2 : eZ X.K H' (upd H' a (.oS ob (.lst xs))) ρ' ρ' := yw e2 ρ'
      have f3 : eZ X.K H (upd H' a (.oS ob (.lst xs))) ρ ρ := ⟨fun b ys w => f2.tup b ys (f.tup b ys w), fun b ys w => f2.con b ys (f.con b ys w), ⟨[], by simp⟩, fun b φ w => f2.ext b φ (f.ext b φ w)⟩
      have hp2 := cy.hp.oS (o := ob) hn e2
      have QD : kg X.K X.mg (upd H' a (.oS ob (.lst xs))) ρ G := ab.hp.cut f.pre hp2 (by
       rw [List.take_set_of_le (by omega)]
       exact uq _ _ hb)
      refine ok _ _ ρ f3 ⟨ab.st.mono f3, QD⟩ ?_
      unfold Rep
      exact ⟨a, xs, rfl, .inl ⟨ob, fU⟩, jV ds xs hcl (rs.mono f2)⟩
     ·rw [if_neg hc] at ok; exact ok.elim
  ·have ok' : mW X.K X.mg EE H σ τ ρ (.ok d G') Q := by
    cases d <;> first | exact ok | exact absurd ⟨_, rfl⟩ hd
   exact ha pins s σ H Q I ⟨τ, ρ, G, ab, by rw [q]; exact ok'⟩
end
noncomputable def fy (m : List D → M D) : List D → M D := fun ds G => match m ds G with
 | .ok d G' => if nB (G'.take G.length) G = true ∧ d.closed = true then .ok d G else .stuck
 | .dF c G' => if nB (G'.take G.length) G = true then .dF c G else .stuck
 | .stuck => .stuck
section
variable {K : PySem.W.Frag} {mg : Str → Option Value} {n : Nat} {m : List D → M D}
theorem Ai {H H' : Hp} {ρ ρ' : List Addr} (f : eZ K H H' ρ ρ') : eZ K H H' ρ ρ := ⟨f.tup, f.con, ⟨[], by simp⟩, f.ext⟩
theorem dg (vs : List V) (H : Hp) (Q : VK) (E : XK) (h : aW K mg n (fy m) vs H Q E) : aW K mg n m vs H Q E := by
 obtain ⟨ds, ρ, G, hl, hp, rs, ok⟩ := h
 refine ⟨ds, ρ, G, hl, hp, rs, ?_⟩
 dsimp only [fy] at ok
 cases q : m ds G with
 | stuck => rw [q] at ok; exact ok
 | ok d G' =>
  rw [q] at ok
  dsimp only at ok
  by_cases hc : nB (G'.take G.length) G = true ∧ d.closed = true
  ·rw [if_pos hc] at ok
   intro v H' ρ' f Jy r
   exact ok v H' ρ (Ai f) (hp.cut f.pre Jy (uq _ _ hc.1)) (uX d v hc.2 r)
  ·rw [if_neg hc] at ok; exact ok.elim
 | dF c G' =>
  rw [q] at ok
  dsimp only at ok
  by_cases hc : nB (G'.take G.length) G = true
  ·rw [if_pos hc] at ok
   intro cls H' ρ' hcl f Jy
   exact ok cls H' ρ hcl (Ai f) (hp.cut f.pre Jy (uq _ _ hc))
  ·rw [if_neg hc] at ok; exact ok.elim
end
end L3
end
section
set_option Elab.async false
set_option linter.all false
set_option maxRecDepth 100000
namespace L3
open PySem PySem.Spec L2
noncomputable def wO (K : PySem.W.Frag) (a : Addr) (n : Nat) : It :=
 ⟨fun i H => ∃ xs x, pD K H a xs ∧ xs.length = n ∧ i < n ∧ xs[n - 1 - i]? = some x, fun i H y H' => H' = H ∧ ∀ xs, pD K H a xs → xs[n - 1 - i]? = some y, fun i H => i = n⟩
theorem FT {P : Program} {w : World} {K : PySem.W.Frag} {tg : Expr} (a it : Addr) (n : Nat) : Turn P w K tg (wO K a n) [it] it (fun i h => h.IsRevIter it a ((n : Int) - 1 - (i : Int))) where
 mem := by simp
 obj := fun i h st b hb => by
  have e : b = it := by simpa using hb
  subst e
  obtain ⟨o, e, c, d⟩ := st
  exact ⟨o, e, fun v z => by rw [d] at z; cases z⟩
 keep := fun i h h' st k => st.at fun o e => k it (by simp) o e
 item := by
  intro X hP hw hK hc i pins s σ H E I hf st hg
  subst hP hw hK
  obtain ⟨xs, x, hq, hn, hi, hx⟩ := hg
  obtain ⟨its, rv, p, hz⟩ := I.list hq
  obtain ⟨u, hu, ru⟩ := rv.get hx
  obtain ⟨f0, f1, f2, f3, f4, f5⟩ := hf it (by simp)
  have e : (n : Int) - 1 - (i : Int) = ((n - 1 - i : Nat) : Int) := by omega
  rw [e] at st
  refine wpAny_pyNext_rev_item st p.isList (x := u) (by simpa using hu) fun h' st' sb => ?_
  have I1 : Inv X pins σ H { s with heap := h' } := I.turned (t' := s.toks) (fun b o hb e => (sb.2 b hb).trans e) f0 f1 f3 f4 f5
  have e2 : ((n - 1 - i : Nat) : Int) - 1 = (n : Int) - 1 - ((i + 1 : Nat) : Int) := by omega
  rw [e2] at st'
  obtain ⟨o, e, c, d⟩ := id st'
  exact ⟨u, rfl, wN (s := { s with heap := h' }) e c d (by decide) ⟨x, H, I1, ru, ⟨rfl, fun ys hy => by rw [I.zy hy hq]; exact hx⟩, st', fun b hb => (hf b hb).1⟩⟩
 done := by
  intro X hP hw hK hc i pins s σ H E I hf st hg
  subst hP hw hK
  have hi : i = n := hg
  subst hi
  obtain ⟨f0, f1, f2, f3, f4, f5⟩ := hf it (by simp)
  rw [show (i : Int) - 1 - (i : Int) = -1 by omega] at st
  exact wpAny_pyNext_rev_end (I.ok.hd hc) st fun h' eb => ⟨rfl, I.turned (t' := s.toks) (fun b o hb e => eb b o hb e) f0 f1 f3 f4 f5⟩
 self := fun _ _ _ _ _ st h => wpAny_pyIter_revIter st h
noncomputable def BB (d : D) (n : Nat) : View := fun G i => match bz G d with
 | some (.lst xs) => if xs.length = n then (if i = n then some none else if i < n then some xs[n - 1 - i]? else none) else none
 | _ => none
noncomputable def II (m : DS → M (List D)) : MI := fun τ => (m τ).bind fun ds => match ds with
 | [d] => fun G => match bz G d with
  | some (.lst xs) => .ok (xs.length + 1, BB d xs.length) G
  | _ => .stuck
 | _ => M.stop
section
variable {X : Cx} {EE : fk} {tg iter a b : Expr} {g : ng} {mi : MI} {ms : MS} {pos p pc : Pos} {m : DS → M (List D)}
theorem LB {H : Hp} {ρ ρ' : List Addr} {H' : Hp} {G' : DH} {d : D} {l : Addr} {ws : List D} (f : eZ X.K H H' ρ ρ') (rx : Rep X.K X.mg ρ H d (.ref l)) (hp : kg X.K X.mg H' ρ' G') (q : bz G' d = some (.lst ws)) : ∃ xs, pD X.K H' l xs ∧ au X.K X.mg ρ' H' ws xs := by
 have O4 := rx.mono f
 cases d with
 | con ds =>
  cases q
  unfold Rep at O4
  obtain ⟨a', xs, e, s, r⟩ := O4
  cases e
  exact ⟨xs, s.seq, r⟩
 | obj n =>
  unfold Rep at O4
  obtain ⟨a', e, r⟩ := O4
  cases e
  dsimp only [bz] at q
  cases g : G'[n]? with
  | none => rw [g] at q; cases q
  | some o =>
   cases o with
   | dead => rw [g] at q; cases q
   | dct kv => rw [g] at q; cases q
   | lst ys =>
    rw [g] at q; cases q
    obtain ⟨a', xs, e1, e2, rs⟩ := hp.lst g
    rw [r] at e1; cases e1
    exact ⟨xs, .inl (.of e2), rs⟩
 | _ => cases q
theorem LC {H : Hp} {ρ : List Addr} {d : D} {l : Addr} {n : Nat} (rx : Rep X.K X.mg ρ H d (.ref l)) : JV X.K X.mg (wO X.K l n) (BB d n) H ρ := by
 intro i H' ρ' G' f hp
 unfold BB
 cases q : bz G' d with
 | none => exact ⟨fun e => (by cases e), fun x e => (by cases e)⟩
 | some sk =>
  cases sk with
  | tup zs => exact ⟨fun e => (by cases e), fun x e => (by cases e)⟩
  | str z => exact ⟨fun e => (by cases e), fun x e => (by cases e)⟩
  | lst zs =>
   dsimp only
   by_cases hn : zs.length = n
   ·rw [if_pos hn]
    by_cases hi : i = n
    ·rw [if_pos hi]
     exact ⟨fun _ => hi, fun x e => (by cases e)⟩
    ·rw [if_neg hi]
     by_cases hlt : i < n
     ·rw [if_pos hlt]
      obtain ⟨xs, sq, rs⟩ := LB f rx hp q
      refine ⟨fun e => ?_, fun x e => ?_⟩
      ·have := Option.some.inj e
       rw [List.getElem?_eq_none_iff] at this
       omega
      ·have e' := Option.some.inj e
       obtain ⟨v, hv, rv⟩ := rs.get e'
       refine ⟨⟨xs, v, sq, by rw [← rs.length]; exact hn, hlt, hv⟩, fun y H2 hy => ?_⟩
       obtain ⟨rfl, hy⟩ := hy
       have := hy xs sq
       rw [hv] at this; cases this
       exact ⟨⟨.refl, fun _ h => h⟩, rv⟩
     ·rw [if_neg hlt]; exact ⟨fun e => (by cases e), fun x e => (by cases e)⟩
   ·rw [if_neg hn]; exact ⟨fun e => (by cases e), fun x e => (by cases e)⟩
theorem LD (hm : X.mg "reversed" = none) (Bj : Gl X "reversed") (ha : QA X EE [a] m) (h : aB [a] = true := by rfl) : QI X EE tg (.Call (.Name "reversed" p) [a] [] pc) (II m) := by
 have h' : cW a = true ∧ aB [] = true := by simpa [aB] using h
 intro pins s σ H R I hq
 obtain ⟨τ, ρ, G, ab, ok⟩ := hq
 dsimp only [II, M.bind] at ok
 refine wpAny_Call_Name_kw (ji I Bj hm uQ ?_ (by decide) (by decide))
 have hA : sR X.K X.mg EE m σ H fun vs H1 => ∃ ρ1 G1 ds, Ab X.K X.mg σ H1 τ ρ1 G1 ∧ eZ X.K H H1 ρ ρ1 ∧ au X.K X.mg ρ1 H1 ds vs ∧ m τ G = .ok ds G1 := by
  refine ⟨τ, ρ, G, ab, ?_⟩
  cases e : m τ G with
  | stuck => rw [e] at ok; exact ok
  | dF c G' => rw [e] at ok; exact ok
  | ok ds G' => exact fun vs H' ρ' f cy r => ⟨ρ', G', ds, cy, f, r, rfl⟩
 refine PyProof.Rows.callWith_type1 (fV (ha pc pins s σ H _ I hA) fun us s1 HR => ?_) (aV h'.1 _ _) (bR (es := []) rfl)
 obtain ⟨vs, H1, I1, r1, ρ1, G1, ds, qv, f1, rs, em⟩ := HR
 rw [em] at ok
 dsimp only at ok
 match ds, rs, ok with
 | [], _, ok => exact ok.elim
 | _ :: _ :: _, _, ok => exact ok.elim
 | [d], rs, ok =>
  obtain ⟨x, rfl, rx⟩ := kO rs
  obtain ⟨u, rfl, ru⟩ := vals1 r1
  dsimp only at ok
  cases q : bz G1 d with
  | none => rw [q] at ok; exact ok.elim
  | some sk =>
   rw [q] at ok
   cases sk with
   | tup zs => exact ok.elim
   | str z => exact ok.elim
   | lst zs =>
    dsimp only at ok
    obtain ⟨l, ys, rfl, sq, rv⟩ := cS (pins := pins) (σ0 := σ) (s := s1) qv.hp rx q
    cases ru
    obtain ⟨its, vv, pl, hz⟩ := I1.list sq
    refine call_reversed_list pl.isList ?_
    have hst : (s1.heap.push (revObj l ((its.toArray.size : Int) - 1))).IsRevIter s1.heap.objs.size l ((its.toArray.size : Int) - 1) := ⟨_, Heap.get?_push_size _ rfl, rfl, rfl⟩
    refine wpAny_pyIter_revIter (s := { s1 with heap := s1.heap.push (revObj l ((its.toArray.size : Int) - 1)) }) hst ?_
    have I2 : Inv X pins σ H1 { s1 with heap := s1.heap.push (revObj l ((its.toArray.size : Int) - 1)) } := I1.kept (t' := s1.toks) fun b o e => Heap.get?_push_of_some _ e
    have hlen : its.toArray.size = zs.length := by rw [List.size_toArray, ← vv.length, rv.length]
    refine ⟨s1.heap.objs.size, [s1.heap.objs.size], _, wO X.K l zs.length, H1, rfl, I2, FT l _ _, ?_, fun b hb => ?_, ok _ H1 ρ1 f1 qv (LC rx)⟩
    ·show (s1.heap.push (revObj l ((its.toArray.size : Int) - 1))).IsRevIter s1.heap.objs.size l ((zs.length : Int) - 1 - ((0 : Nat) : Int))
     rw [← hlen]
     simpa using hst
    ·rw [List.mem_singleton.mp hb]
     exact I1.Di (Nat.le_refl _) (I1.hok.fresh (Nat.le_refl _))
end
end L3
end
section
set_option Elab.async false
set_option linter.all false
set_option maxRecDepth 100000
namespace L3
open PySem PySem.Spec L2
section
variable {X : Cx} {EE : fk} {tg iter a b : Expr} {g : ng} {mi : MI} {ms : MS} {pos p pc : Pos} {m : DS → M (List D)}
end
end L3
end
section
set_option Elab.async false
set_option linter.all false
set_option maxRecDepth 100000
namespace L3
open PySem PySem.Spec L2 PyProof.Rows
section
variable {X : Cx} {EE : fk} {a b e : Expr} {ma mb : DS → M D} {pos : Pos}
theorem IJ : pF X (binaryOp .Add) (fun x y H Q => ∃ l b xs zs, x = .ref l ∧ y = .ref b ∧ pD X.K H l xs ∧ pD X.K H b zs ∧ xs.length + zs.length ≤ sizeLine ∧ ∀ p, H p = none → Q (.ref p) (upd H p (.lst (xs ++ zs)))) := by
 intro pins s σ H x y v u Q I rx ry h
 obtain ⟨l, b, xs, zs, rfl, rfl, hH, hB, hz, q⟩ := h
 cases rx
 cases ry
 obtain ⟨its, r, ⟨o, n, e, c, dn, d⟩, hl⟩ := I.list hH
 obtain ⟨its2, r2, ⟨o2, n2, e2, c2, Nv, d2⟩, hl2⟩ := I.list hB
 obtain ⟨cls, dd, data, sl⟩ := o
 obtain ⟨KN, dd2, data2, sl2⟩ := o2
 simp only at c dn d c2 Nv d2
 subst c dn d c2 Nv d2
 have hlen := r.length
 have hlen2 := r2.length
 have ea : its.toArray ++ its2.toArray = (its ++ its2).toArray := by simp
 refine concat_meets ⟨_, e, rfl⟩ ⟨_, e2, rfl⟩ noFill_list_add seq_list_add PySem.F.slot_list_add PySem.F.entry_list_add (PySem.F.args_list_add_2 _ _) (list_addW l b its.toArray its2.toArray n n2 _ _ sl sl2 (by simp only [List.size_toArray]; omega)) ⟨e, e2, ?_⟩
 rw [ea]
 exact ⟨.ref _, _, I.MT (t' := s.toks) (r.append r2) (by rw [List.length_append]; omega), rfl, q _ I.fresh⟩
theorem IK : pF X (binaryOp .Add) (fun x y H Q => ∃ a b ys, x = .ref a ∧ y = .ref b ∧ rS X.K H a [] ∧ rS X.K H b ys ∧ Q (.ref b) H) := by
 intro pins s σ H x y v u Q I rx ry h
 obtain ⟨a, b, ys, rfl, rfl, ha, hb, q⟩ := h
 cases rx
 cases ry
 obtain ⟨its, r1, p1, _⟩ := I.tuple ha
 obtain ⟨its2, r2, p2, _⟩ := I.tuple hb
 have e0 : its = [] := by cases r1; rfl
 subst e0
 obtain ⟨⟨cls, dd, data, sl⟩, ho, hc, n, hd⟩ := id p1
 obtain ⟨⟨KN, dd2, data2, sl2⟩, ho2, hc2, n2, hd2⟩ := id p2
 simp only at hc hd hc2 hd2
 subst hc hd hc2 hd2
 exact concat_meets ⟨_, ho, rfl⟩ ⟨_, ho2, rfl⟩ noFill_tuple_add seq_tuple_add PySem.F.slot_tuple_add PySem.F.entry_tuple_add (PySem.F.args_tuple_add_2 _ _)
   (tuple_addW0 a b _ _ n n2 dd dd2 sl sl2 (by simp)) ⟨ho, ho2, ⟨.ref b, H, I, rfl, q⟩⟩
noncomputable def qI (G : DH) : D → Option (List D)
 | .con xs => some xs
 | .obj n => match G[n]? with
  | some (.lst xs) => some xs
  | _ => none
 | _ => none
theorem uY {G : DH} {d : D} {xs : List D} (h : qI G d = some xs) : bz G d = some (.lst xs) := by
 cases d with
 | con ys => cases h; rfl
 | obj n =>
  dsimp only [qI] at h
  dsimp only [bz]
  cases g : G[n]? with
  | none => rw [g] at h; cases h
  | some o =>
   cases o with
   | dead => rw [g] at h; cases h
   | dct kv => rw [g] at h; cases h
   | lst ys => rw [g] at h; cases h; rfl
 | _ => cases h
noncomputable def dJ (d e : D) : M D := fun G => match d, e with
 | .int i, .int j => .ok (.int (i + j)) G
 | .str i, .str j => if i.length + j.length ≤ sizeLine then .ok (.str (i ++ j)) G else .stuck
 | .tup [], .tup ys => .ok (.tup ys) G
 | .tup (x :: xs), .tup ys => oH (x :: xs ++ ys) G
 | d, e => match qI G d, qI G e with
  | some xs, some ys => bM (xs ++ ys) G
  | _, _ => .stuck
theorem IL : pF X (binaryOp .Add) (rD X EE dJ) := by
 intro pins s σ0 H x y v u Q I rx ry ⟨σ, τ, ρ, G, d, e, ab, r1, r2, ok⟩
 have lists : ∀ xs ys, qI G d = some xs → qI G e = some ys → mW X.K X.mg EE H σ τ ρ (bM (xs ++ ys) G) Q → wpAny (model X.prog X.w) X.A (binaryOp .Add v u) (EP X pins σ0 Q) X.xe s := fun xs ys h1 h2 ok => by
  obtain ⟨l, vs, rfl, s1, t1⟩ := cS (pins := pins) (σ0 := σ0) (s := s) ab.hp r1 (uY h1)
  obtain ⟨l2, ws, rfl, s2, t2⟩ := cS (pins := pins) (σ0 := σ0) (s := s) ab.hp r2 (uY h2)
  obtain ⟨hl, q1⟩ := m8 ab (t1.append t2) ok
  rw [List.length_append] at hl
  exact IJ pins s σ0 H _ _ v u Q I rx ry ⟨l, l2, vs, ws, rfl, rfl, s1, s2, hl, q1⟩
 have rest : (mW X.K X.mg EE H σ τ ρ (match qI G d, qI G e with
  | some xs, some ys => bM (xs ++ ys) G
  | _, _ => .stuck) Q) → wpAny (model X.prog X.w) X.A (binaryOp .Add v u) (EP X pins σ0 Q) X.xe s := fun ok => by
  cases h1 : qI G d with
  | none => rw [h1] at ok; exact ok.elim
  | some xs =>
   cases h2 : qI G e with
   | none => rw [h1, h2] at ok; exact ok.elim
   | some ys => rw [h1, h2] at ok; exact lists xs ys h1 h2 ok
 cases d with
 | int i =>
  cases e with
  | int j =>
   unfold Rep at r1 r2; subst r1 r2
   exact Ks pins s σ0 H _ _ v u Q I rx ry ⟨i, j, rfl, rfl, ok _ H ρ .refl ab (by unfold Rep; rfl)⟩
  | _ => exact rest ok
 | str i =>
  cases e with
  | str j =>
   unfold Rep at r1 r2; subst r1 r2
   dsimp only [dJ] at ok
   by_cases h : i.length + j.length ≤ sizeLine
   ·rw [if_pos h] at ok
    exact A7 pins s σ0 H _ _ v u Q I rx ry ⟨i, j, rfl, rfl, h, ok _ H ρ .refl ab (by unfold Rep; rfl)⟩
   ·rw [if_neg h] at ok; exact ok.elim
  | _ => exact rest ok
 | tup xs =>
  cases e with
  | tup ys =>
   have r2' := r2
   unfold Rep at r1 r2
   obtain ⟨p, vs, rfl, s1, t1⟩ := r1
   obtain ⟨q, ws, rfl, s2, t2⟩ := r2
   cases xs with
   | nil =>
    have hv : vs = [] := by have := t1.length; cases vs with | nil => rfl | cons _ _ => simp at this
    subst hv
    exact IK pins s σ0 H _ _ v u Q I rx ry ⟨p, q, ws, rfl, rfl, s1, s2, ok _ H ρ .refl ab r2'⟩
   | cons x xs =>
    have ok' : mW X.K X.mg EE H σ τ ρ (oH (x :: xs ++ ys) G) Q := ok
    have Ve := t1.append t2
    obtain ⟨hl, q1⟩ := yc ab Ve ok'
    rw [List.length_append] at hl
    have hv : vs ≠ [] := by
     intro z; subst z
     have := t1.length
     simp at this
    refine HL pins s σ0 H _ _ v u Q I rx ry ⟨p, q, vs, ws, rfl, rfl, s1, s2, hv, hl, fun z => ?_, fun z p hp => q1 p hp⟩
    subst z
    have hy : ys = [] := by
     have := t2.length
     cases ys with
     | nil => rfl
     | cons _ _ => simp at this
    subst hy
    unfold oH at ok'
    split at ok'
    ·exact ok' _ H ρ .refl ab (by rw [List.append_nil]; unfold Rep; exact ⟨p, vs, rfl, s1, t1⟩)
    ·exact ok'.elim
  | _ => cases xs <;> exact rest ok
 | _ => exact rest (by cases e <;> exact ok)
theorem ff (ha : QE X EE a ma) (hb : QE X EE b mb) : QE X EE (.BinOp a .Add b pos) (aF dJ ma mb) := uB IL kM ha hb
theorem BC (l : Addr) (items : Array Value) (n : Nat) (b : Addr) (items2 : Array Value) (n2 : Nat) (sl2 : Array (Option Value)) (hc0 : ¬(!items.isEmpty && Builtin.List.listTooLong (items.size + items2.size)) = true) (hc1 : items.size ≤ sizeLine) (hs2 : items.size + items2.size ≤ sizeLine + 1) :
  Meets (Builtin.«list.extend» ⟨[.ref l, .ref b], []⟩) (fun _ R s => s.heap.get? l = some { cls := .type "list", dict := none, data := .seq items n, slots := #[] } ∧ s.heap.get? b = some { cls := .type "list", dict := none, data := .seq items2 n2, slots := sl2 } ∧ R (.ok (.ret Value.none)) { s with heap := s.heap.update l (Obj.mapSeq fun x => x ++ items2), toks := s.toks }) :=
 .of_wp fun prog w A R s h => by
  obtain ⟨hp, g, d, tk, os⟩ := s; obtain ⟨hl, hb, h⟩ := h; have f1 := AutoSeq1.idx_int; have f2 := AutoSeq1.sub_tuple_tuple; have f3 := AutoSeq1.sub_list_list; have f4 := AutoSeq1.sub_tuple_list; have f5 := AutoSeq1.sub_list_tuple;
  have hz' : (items ++ items2).size ≤ sizeLine + 1 := by rw [Array.size_append]; exact hs2
  wp_walk using (wpAny_updateSeq hl rfl (hz := hc1) (_hz' := hz')), wpAny_loadPart' hl, wpAny_loadPart' hb; exact ⟨_, rfl, h⟩
theorem BD : Hh X "list.extend" (fun x vs H Q => ∃ l b xs zs, x = .ref l ∧ vs = [.ref b] ∧ H l = some (.lst xs) ∧ pD X.K H b zs ∧ xs.length + zs.length ≤ sizeLine ∧ Q .eY (upd H l (.lst (xs ++ zs)))) := by
 intro pins s σ H x vs v us Q I rx rv h
 obtain ⟨l, b, xs, zs, rfl, rfl, hH, hB, hz, q⟩ := h
 cases rx
 obtain ⟨u, rfl, ru⟩ := rv.one
 cases ru
 obtain ⟨z, its, n, r, hl, e⟩ := I.HP hH
 obtain ⟨its2, r2, ⟨o2, n2, e2, c2, Nv, d2⟩, _⟩ := I.list hB
 obtain ⟨KN, dd2, data2, sl2⟩ := o2
 simp only at c2 Nv d2
 subst c2 Nv d2
 have hl2 := r2.length
 have hsz : its.toArray.size + its2.toArray.size ≤ sizeLine := by rw [List.size_toArray, List.size_toArray]; omega
 have EJ : ¬ (!its.toArray.isEmpty && Builtin.List.listTooLong (its.toArray.size + its2.toArray.size)) = true := by
  rw [zD hsz, Bool.and_false]
  exact Bool.false_ne_true
 refine call_meets F.slot_list_extend ⟨_, e, rfl⟩ F.entry_list_extend (F.args_list_extend_2 _ _)
  (BC l its.toArray n b its2.toArray n2 sl2 EJ (by rw [List.size_toArray]; omega) (by omega)) ⟨e, e2, ?_⟩
 refine ⟨.eY, _, I.KW (its' := its ++ its2) hH e (by simp) (r.append r2) ?_, rfl, q⟩
 rw [List.length_append]
 omega
noncomputable def Aj : D → List D → M D
 | .obj n, [y] => fun G => match G[n]?, qI G y with
  | some (.lst xs), some ys => if xs.length + ys.length ≤ sizeLine then .ok .eY (G.set n (.lst (xs ++ ys))) else .stuck
  | _, _ => .stuck
 | _, _ => M.stop
theorem IM : Hh X "list.extend" (Lf X EE Aj) := by
 intro pins s σ0 H x xs v us Q I rx Io ⟨σ, τ, ρ, G, d, ds, ab, rd, Cr, ok⟩
 cases d <;> try exact ok.elim
 rename_i n
 match ds, ok with
 | [], ok => exact ok.elim
 | a :: _ :: _, ok => exact ok.elim
 | [y], ok =>
  obtain ⟨yv, rfl, ry⟩ := kO Cr
  unfold Rep at rd
  obtain ⟨p, rfl, e1⟩ := rd
  dsimp only [Aj] at ok
  cases g : G[n]? with
  | none => rw [g] at ok; exact ok.elim
  | some o =>
   cases g2 : qI G y with
   | none => rw [g, g2] at ok; cases o <;> exact ok.elim
   | some ys =>
    rw [g, g2] at ok
    cases o with
    | dead => exact ok.elim
    | dct kv => exact ok.elim
    | lst zs =>
     dsimp only at ok
     obtain ⟨p', vs, e3, hp, rs⟩ := ab.hp.lst g
     rw [e1] at e3; cases e3
     obtain ⟨p2, ws, rfl, s2, SJ⟩ := cS (pins := pins) (σ0 := σ0) (s := s) ab.hp ry (uY g2)
     by_cases hz : zs.length + ys.length ≤ sizeLine
     ·rw [if_pos hz] at ok
      exact BD pins s σ0 H _ _ v us Q I rx Io ⟨p, p2, vs, ws, rfl, rfl, hp, s2, by rw [← rs.length, ← SJ.length]; exact hz, Bm (xs := zs) ab e1 hp (rs.append SJ) (fun _ _ => by unfold Rep; rfl) ok⟩
     ·rw [if_neg hz] at ok; exact ok.elim
theorem IP {o : Expr} {apos cpos : Pos} {mo : DS → M D} {m : DS → M (List D)} (ho : QE X EE o mo) (ha : QA X EE [e] m) (hb : nq o = true := by rfl) (h : aB [e] = true := by rfl) (hline : (apos.endLine == cpos.line) = true := by rfl) : QE X EE (.Call (.Attribute o "extend" apos) [e] [] cpos) (bq "list" Aj mo m) := by
 have h' : cW e = true ∧ aB [] = true := by simpa [aB] using h
 exact Cq F.plainAttrs_list F.slot_list_extend F.type_list_extend IM ho ha (ir hb _ _) (r9 h (by simp)) hline (aV h'.1 _ _) (bR (es := []) rfl)
end
end L3
end
section
set_option Elab.async false
set_option linter.all false
set_option maxRecDepth 100000
namespace L3
open PySem PySem.Spec L2 PyProof.Rows
noncomputable def LF (lo st : Int) (n : Nat) : It := ⟨fun i _ => i < n, fun i H x H' => H' = H ∧ x = .int (lo + (i : Int) * st), fun i _ => n ≤ i⟩
theorem Ak {P : Program} {w : World} {K : PySem.W.Frag} {tg : Expr} (it : Addr) (lo c : Int) (n : Nat) : Turn P w K tg (LF lo c n) [it] it (fun i h => IsRangeIter h it (lo + (i : Nat) * c) ((n : Int) - (i : Nat)) c) where
 mem := by simp
 obj := fun i h st b hb => by
  have e : b = it := by simpa using hb
  subst e
  exact ⟨_, st, fun v z => by
   have z' : Data.fields _ = Data.cell v := z
   cases z'⟩
 keep := fun i h h' st k => k it (by simp) _ st
 item := by
  intro X hP hw hK hc i pins s σ H E I hf st hg
  subst hP hw hK
  obtain ⟨f0, f1, f2, f3, f4, f5⟩ := hf it (by simp)
  have W := Walks.range (prog := X.prog) (w := X.w) (I.ok.hd hc) it lo c n
  refine kL I.os.2 <| W.item i s _ _ hg st fun v h' tk hv st' kk ht => ?_
  obtain ⟨t, rfl⟩ := hv
  have I1 : Inv X pins σ H { s with heap := h', toks := tk } := I.turned (fun b o hb e => kk b o (by simpa using hb) e) f0 f1 f3 f4 f5
  exact ⟨_, rfl, wN (s := { s with heap := h', toks := tk }) (n := "range_iterator") st' rfl rfl (by decide) ⟨.int (lo + i * c), H, I1, ⟨t, rfl⟩, ⟨rfl, rfl⟩, st', fun b hb => (hf b hb).1⟩⟩
 done := by
  intro X hP hw hK hc i pins s σ H E I hf st hg
  subst hP hw hK
  obtain ⟨f0, f1, f2, f3, f4, f5⟩ := hf it (by simp)
  exact wpAny_pyNext_range_end (I.ok.hd hc) st (by have : n ≤ i := hg; omega) fun h' eb => ⟨rfl, I.turned (t' := s.toks) (fun b o hb e => eb b o hb e) f0 f1 f3 f4 f5⟩
 self := fun _ _ _ _ _ st h => wpAny_pyIter_rangeiter st h
noncomputable def BE (lo c : Int) (n : Nat) : View := fun _ i => some (if i < n then some (.int (lo + (i : Int) * c)) else none)
section
variable {X : Cx} {EE : fk} {tg iter a b c : Expr} {pos p pc : Pos} {m : DS → M (List D)}
theorem LG {H : Hp} {ρ : List Addr} {lo c : Int} {n : Nat} : JV X.K X.mg (LF lo c n) (BE lo c n) H ρ := by
 intro i H' ρ' G' f hp
 unfold BE
 by_cases h : i < n
 ·rw [if_pos h]
  refine ⟨fun e => (by cases e), fun d e => ⟨h, fun x H2 hy => ?_⟩⟩
  cases e
  obtain ⟨rfl, rfl⟩ := hy
  exact ⟨⟨.refl, fun _ h => h⟩, by unfold Rep; rfl⟩
 ·rw [if_neg h]
  exact ⟨fun _ => Nat.le_of_not_lt h, fun d e => (by cases e)⟩
end
end L3
end
section
set_option Elab.async false
set_option linter.all false
set_option maxRecDepth 100000
namespace L3
open PySem PySem.Spec L2
section
variable {K : PySem.W.Frag} {mg : Str → Option Value} {H : Hp} {ρ : List Addr} {G : DH}
theorem kg.dct {n : Nat} {kvs : List (Key × D)} (h : kg K mg H ρ G) (e : G[n]? = some (.dct kvs)) : ∃ a xs, ρ[n]? = some a ∧ H a = some (.dK ((kvs.map (·.1)).zip xs)) ∧ au K mg ρ H (kvs.map (·.2)) xs := by
 obtain ⟨a, e1, xs, e2, r⟩ := h.ob n _ e
 exact ⟨a, xs, e1, e2, r⟩
end
section
variable {X : Cx} {EE : fk} {e f o i a : Expr} {pos apos cpos tpos : Pos} {mo me mf mv mi : DS → M D}
end
end L3
end
section
set_option Elab.async false
set_option linter.all false
set_option maxRecDepth 100000
namespace L3
open PySem PySem.Spec L2 PyProof.Rows
section
variable {X : Cx} {EE : fk} {e : Expr} {m : DS → M (List D)} {p p2 pos pos2 : Pos}
end
end L3
end
section
set_option Elab.async false
set_option linter.all false
set_option maxRecDepth 100000
namespace L3
open PySem PySem.Spec L2
section
variable {prog : Program} {w : World} {A : Around} {E : Value → Shared → Prop} {s : Shared}
end
section
variable {X : Cx} {EE : fk} {a : Expr} {p pc : Pos} {m : DS → M (List D)}
end
noncomputable abbrev DN (s : Str) : Prop := (s == ("__debug__" : Str)) = false ∧ (s == ("__classdict__" : Str)) = false
noncomputable abbrev LK (f : Scope) (s : Str) (k : NameKind) : Prop := f.names.lookup s = some k
end L3
end
section
set_option Elab.async false
set_option linter.all false
set_option maxRecDepth 100000
namespace L3
open PySem PySem.Spec L2
noncomputable def Out.fw (r : Out D) (G : DH) : Out D := match r with
 | .ok (.obj n) G' => match G'[n]? with
  | some (.lst ds) => if n = G.length ∧ G'.length = n + 1 ∧ nB (G'.take G.length) G = true ∧ aR ds = true then .ok (.con ds) G else .stuck
  | _ => .stuck
 | r => r
noncomputable def Out.fz (r : Out D) : Out D := match r with
 | .ok (.obj n) G' => match G'[n]? with
  | some (.lst ds) => .ok (.con ds) (G'.set n .dead)
  | _ => .stuck
 | r => r
section
variable {τ : DS} {G G' A B R : DH} {e ma mb mc : DS → M D} {n i : Nat} {d : D} {c : XD} {ml : DS → M (List D)} {ds xs ys : List D} {m : List D → M D}
theorem ju : eFn e τ G = (e τ G).fw G := Eq.trans rfl rfl
theorem JG : IG e τ G = (e τ G).fz := Eq.trans rfl rfl
theorem FU {z : Str} : (Out.ok (.str z) G').fw G = .ok (.str z) G' := Eq.trans rfl rfl
theorem sj (h : aR ds = true) : (Out.ok (.obj G.length) (G ++ [.lst ds])).fw G = .ok (.con ds) G := by
 simp [Out.fw, h, kQ]
theorem iu (hz : ds.length ≤ sizeLine) (h : aR ds = true) : (bM ds G).fw G = .ok (.con ds) G := by
 rw [bM, if_pos hz, sj h]
theorem Al : (Out.ok (.obj A.length) (A ++ .lst ds :: B)).fz = .ok (.con ds) (A ++ .dead :: B) := by
 simp [Out.fz, Et]
theorem lI {d : D} (h : m ds G = .ok d (G ++ R)) (hc : d.closed = true) : fy m ds G = .ok d G := by
 simp [fy, h, hc, kQ]
theorem eE {d : D} (h : m ds G = .ok d G) (hc : d.closed = true) : fy m ds G = .ok d G := lI (R := []) (by simpa using h) hc
theorem FW : II ml τ G = (ml τ G).bd fun ds => match ds with
 | [d] => fun G => match bz G d with
  | some (.lst xs) => .ok (xs.length + 1, BB d xs.length) G
  | _ => .stuck
 | _ => M.stop := aT
theorem qJ {g : ng} {body : MS} {vw : View} (hv : ∀ G i, i ≤ xs.length → vw G i = some xs[i]?) : ∀ (fuel i : Nat) (τ : DS) (G : DH), i ≤ xs.length → xs.length < fuel + i → tV g body vw fuel i τ G = cJ g body (xs.drop i) τ G
 | 0, i, τ, G, h1, h2 => by omega
 | fuel + 1, i, τ, G, h1, h2 => by
  rw [tV]
  dsimp only
  rw [hv G i h1]
  by_cases hi : i < xs.length
  ·rw [List.getElem?_eq_getElem hi, List.drop_eq_getElem_cons hi, cJ]
   dsimp only
   cases g xs[i] τ with
   | none => rfl
   | some τ1 =>
    dsimp only
    cases body τ1 G with
    | nx τ2 G2 => exact qJ hv fuel (i + 1) τ2 G2 (by omega) (by omega)
    | ct τ2 G2 => exact qJ hv fuel (i + 1) τ2 G2 (by omega) (by omega)
    | _ => rfl
  ·rw [List.getElem?_eq_none (by omega), List.drop_eq_nil_of_le (by omega), cJ]
theorem IQ {g : ng} {body : MS} : tV g body (BB (.con xs) xs.length) (xs.length + 1) 0 τ G = cJ g body xs.reverse τ G := by
 have := qJ (g := g) (body := body) (xs := xs.reverse) (vw := BB (.con xs) xs.length) (fun G i h => by
  simp only [List.length_reverse] at h
  simp only [BB, bz, if_true]
  by_cases hi : i = xs.length
  ·rw [if_pos hi, List.getElem?_eq_none (by simp; omega)]
  ·rw [if_neg hi, if_pos (by omega), List.getElem?_reverse (by omega)]) (xs.length + 1) 0 τ G (by simp) (by simp)
 simpa using this
theorem BF {gO : D → Option (List D)} {ks : List Bool} {te : DS → M D} {x v : D} {os acc : List D} (h1 : gO x = some os) (h2 : te (os.map some ++ mask ks τ) (G ++ [.lst acc]) = .ok v (G ++ [.lst acc])) (hz : acc.length < sizeLine) :
  cZ gO ks iN te G.length x τ (G ++ [.lst acc]) = .ok () (G ++ [.lst (acc ++ [v])]) := by
 simp only [cZ, h1, iN, M.ret, h2, uS, if_pos hz, Et]
theorem sr {gO : D → Option (List D)} {ks : List Bool} {te : DS → M D} {own : D → List D} {f : D → D} : ∀ (xs acc : List D), acc.length + xs.length ≤ 1000000 → (∀ x ∈ xs, gO x = some (own x)) → (∀ x ∈ xs, ∀ acc, te ((own x).map some ++ mask ks τ) (G ++ [.lst acc]) = .ok (f x) (G ++ [.lst acc])) →
  dm gO ks iN te G.length xs τ (G ++ [.lst acc]) = .ok (.obj G.length) (G ++ [.lst (acc ++ xs.map f)])
 | [], acc, _, _, _ => by simp [dm]
 | x :: xs, acc, hl, h1, h2 => by
  have hz : acc.length < sizeLine := Nat.lt_of_lt_of_le (by simp at hl; omega) (lz (n := 1000001) (by omega))
  rw [dm, BF (h1 x (by simp)) (h2 x (by simp) acc) hz]
  dsimp only
  rw [sr xs (acc ++ [f x]) (by simp at hl ⊢; omega) (fun y hy => h1 y (by simp [hy])) (fun y hy => h2 y (by simp [hy]))]
  simp
end
theorem pM : ∀ {xs : List D}, (∀ x ∈ xs, x.closed = true) → aR xs = true
 | [], _ => rfl
 | x :: xs, h => by rw [aR, h x (by simp), pM fun y hy => h y (by simp [hy])]; rfl
theorem bI {α : Type} {f : α → D} {l : List α} (h : ∀ x, (f x).closed = true) : aR (l.map f) = true := pM (by
 intro x hx
 obtain ⟨a, _, rfl⟩ := List.mem_map.mp hx
 exact h a)
theorem jw {xs : List D} : (D.con xs).closed = aR xs := by rw [D.closed]
theorem uZ {i : Int} : (D.int i).closed = true := by rw [D.closed] <;> simp
theorem bf {i : Str} : (D.str i).closed = true := by rw [D.closed] <;> simp
theorem iD : aR [] = true := rfl
theorem eT {x : D} {xs : List D} : aR (x :: xs) = (x.closed && aR xs) := by rw [aR]
mutual
noncomputable def D.pd : D → PyData
 | .bl b => .bool b
 | .int i => .int i
 | .str x => .str x
 | .tup ds => .tuple (A2 ds)
 | .con ds => .list (A2 ds)
 | _ => .none
noncomputable def A2 : List D → List PyData
 | [] => []
 | d :: r => d.pd :: A2 r
end
mutual
noncomputable def D.plain : D → Bool
 | .tup ds => g8 ds
 | .con ds => g8 ds
 | .str x => PyData.strOk x
 | .obj _ => false
 | .w6 _ _ => false
 | .fn _ => false
 | _ => true
noncomputable def g8 : List D → Bool
 | [] => true
 | d :: r => d.plain && g8 r
end
mutual
noncomputable def D.dp : D → Nat
 | .tup ds => FY ds + 1
 | .con ds => FY ds + 1
 | _ => 0
noncomputable def FY : List D → Nat
 | [] => 0
 | d :: r => max d.dp (FY r)
end
mutual
theorem FZ (G : DH) : ∀ (d : D) (n : Nat), d.plain = true → d.dp < n → m7 G n d = some d.pd
 | .eY, n + 1, _, _ => by simp [m7, D.pd]
 | .bl b, n + 1, _, _ => by simp [m7, D.pd]
 | .int b, n + 1, _, _ => by simp [m7, D.pd]
 | .str b, n + 1, _, _ => by simp [m7, D.pd]
 | .tup ds, n + 1, h, hn => by
  rw [m7, yx G ds n (by simpa [D.plain] using h) (by rw [D.dp] at hn; omega), D.pd]; rfl
 | .con ds, n + 1, h, hn => by
  rw [m7, yx G ds n (by simpa [D.plain] using h) (by rw [D.dp] at hn; omega), D.pd]; rfl
 | .obj k, n + 1, h, _ => by simp [D.plain] at h
 | .w6 _ _, n + 1, h, _ => by simp [D.plain] at h
 | .fn _, n + 1, h, _ => by simp [D.plain] at h
theorem yx (G : DH) : ∀ (ds : List D) (n : Nat), g8 ds = true → FY ds < n → d8 (m7 G n) ds = some (A2 ds)
 | [], n, _, _ => by simp [d8, A2]
 | d :: ds, n, h, hn => by
  have h' : d.plain = true ∧ g8 ds = true := by simpa [g8] using h
  rw [FY] at hn
  rw [d8, FZ G d n h'.1 (by omega), yx G ds n h'.2 (by omega), A2]
end
mutual
theorem lay_of : ∀ (d : D), d.plain = true → d.pd.canLay0 = true
 | .eY, _ => by simp [D.pd, PyData.canLay0]
 | .bl b, _ => by simp [D.pd, PyData.canLay0]
 | .int b, _ => by simp [D.pd, PyData.canLay0]
 | .str b, h => by simpa [D.pd, PyData.canLay0, D.plain] using h
 | .tup ds, h => by
  rw [D.pd, PyData.canLay0]; exact yy ds (by simpa [D.plain] using h)
 | .con ds, h => by
  rw [D.pd, PyData.canLay0]; exact yy ds (by simpa [D.plain] using h)
 | .obj k, h => by simp [D.plain] at h
 | .w6 _ _, h => by simp [D.plain] at h
 | .fn _, h => by simp [D.plain] at h
theorem yy : ∀ (ds : List D), g8 ds = true → PyData.canLayAll0 (A2 ds) = true
 | [], _ => by simp [A2, PyData.canLayAll0]
 | d :: ds, h => by
  have h' : d.plain = true ∧ g8 ds = true := by simpa [g8] using h
  rw [A2, PyData.canLayAll0, lay_of d h'.1, yy ds h'.2]; rfl
end
mutual
theorem JH : ∀ (d : D), d.pd.depth ≤ d.dp
 | .eY => by simp [D.pd, PyData.depth]
 | .bl b => by simp [D.pd, PyData.depth]
 | .int b => by simp [D.pd, PyData.depth]
 | .str b => by simp [D.pd, PyData.depth]
 | .tup ds => by rw [D.pd, PyData.depth, D.dp]; exact Nat.succ_le_succ (BG ds)
 | .con ds => by rw [D.pd, PyData.depth, D.dp]; exact Nat.succ_le_succ (BG ds)
 | .obj k => by simp [D.pd, PyData.depth]
 | .w6 _ _ => by simp [D.pd, PyData.depth]
 | .fn _ => by simp [D.pd, PyData.depth]
theorem BG : ∀ (ds : List D), PyData.depthAll (A2 ds) ≤ FY ds
 | [] => by simp [A2, PyData.depthAll]
 | d :: ds => by
  rw [A2, PyData.depthAll, FY]
  have := JH d
  have := BG ds
  omega
end
mutual
theorem Am : ∀ (d : D), PyData.eqv d.pd d.pd = true
 | .eY => by simp [D.pd, PyData.eqv]
 | .bl b => by simp [D.pd, PyData.eqv]
 | .int b => by simp [D.pd, PyData.eqv]
 | .str b => by simp [D.pd, PyData.eqv]
 | .tup ds => by rw [D.pd, PyData.eqv]; exact su ds
 | .con ds => by rw [D.pd, PyData.eqv]; exact su ds
 | .obj k => by simp [D.pd, PyData.eqv]
 | .w6 _ _ => by simp [D.pd, PyData.eqv]
 | .fn _ => by simp [D.pd, PyData.eqv]
theorem su : ∀ (ds : List D), PyData.eqvAll (A2 ds) (A2 ds) = true
 | [] => by simp [A2, PyData.eqvAll]
 | d :: ds => by rw [A2, PyData.eqvAll, Am d, su ds]; rfl
end
theorem Ga (g : Bool) (d : D) (G : DH) (h : d.plain = true) (hn : d.dp ≤ 580) : kI g d d G = .ok (.bl (g ^^ true)) G := by
 have hd := JH d
 unfold kI Dy
 rw [FZ G d deep h (by show d.dp < 600; omega)]
 dsimp only
 rw [if_pos (by rw [lay_of d h]; simp; omega), Am]
end L3
end
section
set_option Elab.async false
set_option linter.all false
set_option maxRecDepth 100000
namespace L3
open PySem PySem.Spec L2
section
variable {prog : Program} {w : World} {A : Around} {E : Value → Shared → Prop} {s : Shared}
end
end L3
end
section
set_option Elab.async false
set_option linter.all false
set_option maxRecDepth 100000
namespace L3
open PySem PySem.Spec L2
noncomputable def QF (tp : Bool) (h : Heap) (it l : Addr) (i : Nat) : Prop := if tp = true then h.IsTupleIter it l i else h.IsListIter it l i
noncomputable def QH (tp : Bool) (h : Heap) (l : Addr) (xs : Array Value) : Prop := if tp = true then h.IsTuple l xs else h.IsList l xs
theorem QF.at {tp : Bool} {h h' : Heap} {it l : Addr} {i : Nat} (x : QF tp h it l i) (k : ∀ o, h.get? it = some o → h'.get? it = some o) : QF tp h' it l i := by
 cases tp
 ·exact Heap.IsListIter.at (show h.IsListIter it l i from x) k
 ·exact Heap.IsTupleIter.at (show h.IsTupleIter it l i from x) k
theorem QH.at {tp : Bool} {h h' : Heap} {l : Addr} {xs : Array Value} (x : QH tp h l xs) (k : ∀ o, h.get? l = some o → h'.get? l = some o) : QH tp h' l xs := by
 cases tp
 ·obtain ⟨o, e, r⟩ := (show h.IsList l xs from x)
  exact (⟨o, k o e, r⟩ : h'.IsList l xs)
 ·exact Heap.IsTuple.at (show h.IsTuple l xs from x) k
section
variable {prog : Program} {w : World} {A : Around} {E : Value → Shared → Prop} {s : Shared}
end
end L3
namespace L3
open PySem PySem.Spec L2
section
variable {prog : Program} {w : World} {A : Around} {E : Value → Shared → Prop} {s : Shared}
end
end L3
end
section
set_option Elab.async false
set_option linter.all false
set_option maxRecDepth 100000
namespace L3
open PySem PySem.Spec L2
section
variable {prog : Program} {w : World} {A : Around} {E : Value → Shared → Prop} {s : Shared}
end
end L3
end
section
set_option Elab.async false
set_option linter.all false
set_option maxRecDepth 100000
namespace L3
open PySem PySem.Spec L2
section
variable {X : Cx} {pins : List (Addr × Obj)} {σ : L2.St} {H : Hp} {s : Shared} {a : Addr} {xs ys : List V} {t : Bool}
end
section
variable {X : Cx} {EE : fk} {tg iter a b : Expr} {g : ng} {mi : MI} {ms : MS} {pos p pc : Pos} {m : DS → M (List D)}
end
end L3
end
section
set_option Elab.async false
set_option linter.all false
set_option maxRecDepth 100000
namespace L3
open PySem PySem.Spec L2 PyProof.Rows
section
variable {X : Cx} {EE : fk} {p pos apos cpos : Pos} {e o : Expr} {m : DS → M (List D)} {mo : DS → M D}
end
section
variable {X : Cx} {pos : Pos}
end
noncomputable def QJ (K : PySem.W.Frag) : Prop := ∀ h, K.In h → NoneBooked h
theorem LH {K : PySem.W.Frag} (h1 : PySem.W.nsOkIn K cStatics = true) (h2 : PySem.W.nsIn K cStatics sharingNotToldKey = some none) : QJ K := fun h X => ⟨_, .of_isNs (PySem.W.isNs_of_in X h1), PySem.W.nsMap_none_of_in X h1 h2⟩
section
variable {X : Cx} {EE : fk} {o i : Expr} {mo mi : DS → M D} {y : Str} {j1 : Nat} {p1 lp sp apos cpos : Pos}
noncomputable def An : List Expr → Option (List Str)
 | [] => some []
 | .Constant (.str x) _ _ :: es => (An es).map (x :: ·)
 | _ :: _ => none
noncomputable def Ao : Nat → List Str → List Value
 | _, [] => []
 | t, x :: xs => .str x t :: Ao (t + 1) xs
theorem Aq : ∀ {zs : List Str} {t n : Nat} {z : Str}, zs[n]? = some z → (Ao t zs)[n]? = some (.str z (t + n))
 | [], _, _, _, h => by simp at h
 | x :: xs, t, 0, z, h => by cases h; rfl
 | x :: xs, t, n + 1, z, h => by
  show (Ao (t + 1) xs)[n]? = _
  rw [Aq (zs := xs) (t := t + 1) (n := n) (z := z) (by simpa using h)]
  rw [show t + 1 + n = t + (n + 1) by omega]
theorem Ar : ∀ {zs : List Str} {t : Nat}, (Ao t zs).length = zs.length
 | [], _ => rfl
 | x :: xs, t => congrArg (· + 1) (Ar (zs := xs) (t := t + 1))
theorem xD {M : Model} {A : Around} {E : Value → Shared → Prop} {env : Env} {pos : Pos} : ∀ {es : List Expr} {zs : List Str} {s : Shared} {Q : List Value → Shared → Prop}, An es = some zs → Q (Ao s.toks zs) { s with toks := s.toks + zs.length } → wpAny M A (spliced (backTo pos (starEach es env))) Q E s
 | [], zs, s, Q, h, q => by
  cases h
  exact Calls.spliced_nil q
 | e :: es, zs, s, Q, h, q => by
  match e, h, q with
  | .Constant (.str x) j p, h, q =>
   dsimp only [An] at h
   cases h' : An es with
   | none => rw [h'] at h; cases h
   | some ws =>
    rw [h'] at h; cases h
    rw [aV (e := .Constant (.str x) j p) rfl]
    show wpAny _ _ (spliced ((false, eval (.Constant (.str x) j p) env) :: backTo pos (starEach es env))) _ _ s
    refine Calls.spliced_cons (Calls.Constant_str ?_)
    refine xD (es := es) h' ?_
    have e1 : s.toks + 1 + ws.length = s.toks + (x :: ws).length := by simp; omega
    show Q (.str x s.toks :: Ao (s.toks + 1) ws) { s with toks := s.toks + 1 + ws.length }
    rw [e1]; exact q
noncomputable def jx (y : Str) (zs : List Str) (x : Str) : D → M D
 | .int k => if 0 ≤ k ∧ k < 1000 then (match zs[k.toNat]? with
  | some z => if x.length + (x.length + 1) * z.length ≤ 16777216 then M.ret (.str (Txt.replace x y z)) else M.stop
  | none => M.stop) else M.stop
 | _ => M.stop
noncomputable def IS (y : Str) (zs : List Str) (m : M D) : D → M D
 | .str x => m.bind (jx y zs x)
 | _ => M.stop
noncomputable def jz (y : Str) (zs : List Str) (mo mi : DS → M D) : DS → M D := fun τ => (mo τ).bind (IS y zs (mi τ))
theorem u0 {es : List Expr} {zs : List Str} (hnb : QJ X.K) (ho : QE X EE o mo) (hi : QE X EE i mi) (hes : An es = some zs) (Vf : zs.length ≤ 1000) (Vg : yj i = true) (hb : nq o = true) (hline : (apos.endLine == cpos.line) = true) : QE X EE (.Call (.Attribute o "replace" apos) [.Constant (.str y) j1 p1, .Subscript (.List es lp) i sp] [] cpos) (jz y zs mo mi) := by
 intro pins s σ H Q I h
 have h2 := jk (k := fun τ => IS y zs (mi τ)) h
 have hst : starEach [.Constant (.str y) j1 p1, .Subscript (.List es lp) i sp] X.env = [(false, eval (.Constant (.str y) j1 p1) X.env), (false, eval (.Subscript (.List es lp) i sp) X.env)] := by
  rw [aV rfl, aV rfl]; rfl
 refine wpAny_Call_method_late (ir hb _ _) (r9 (es := [.Constant (.str y) j1 p1, .Subscript (.List es lp) i sp]) rfl (by simp)) hline rfl (fV (ho pins s σ H _ I h2) fun v s1 hv => ?_)
 obtain ⟨xv, H1, I1, r1, τ, ρ, G, d, ab, rd, ok⟩ := hv
 cases d <;> try exact ok.elim
 rename_i x
 have h3 : dI X.K X.mg EE (fun τ => (mi τ).bind (jx y zs x)) σ H1 Q := ⟨τ, ρ, G, ab, ok⟩
 have h4 := jk (k := fun _ => jx y zs x) h3
 unfold Rep at rd; subst rd
 obtain ⟨t, rfl⟩ := r1
 obtain ⟨g1, g2⟩ := yb I1 (x := .str x) (v := .str x t) ⟨t, rfl⟩ (T := "str") rfl
 refine ⟨"str", "str.replace", F.plainAttrs_str, F.slot_str_replace, F.type_str_replace, g1, g2, ?_⟩
 rw [hst]
 refine Calls.callWith_builtin (by rfl) (Calls.evalArgs_plain ?_)
 refine Calls.spliced_cons (Calls.Constant_str (k := j1) (pos := p1) (Calls.spliced_cons ?_))
 refine Subscript_ (wpAny_List_spliced (xD hes ⟨by rw [Ar]; exact Nat.le_trans Vf (by decide), ?_⟩))
 let ob : Obj := { cls := .type "list", data := .seq (Ao (s1.toks + 1) zs).toArray }
 have I2 : Inv X pins σ H1 { s1 with heap := s1.heap.push ob, toks := s1.toks + 1 + zs.length } := I1.kept (t' := s1.toks + 1 + zs.length) (fun b u e => Heap.get?_push_of_some _ e) (by omega)
 have I3 : Inv X ((s1.heap.objs.size, ob) :: pins) σ H1 { s1 with heap := s1.heap.push ob, toks := s1.toks + 1 + zs.length } := I2.qh fun p hp => by
  rcases List.mem_cons.mp hp with rfl | hp
  ·exact ⟨Heap.get?_push_size _ rfl, I1.hok.fresh (Nat.le_refl _), Nat.ne_of_gt I1.lt, I1.Mm (Nat.le_refl _), fun v z => nomatch z⟩
  ·exact I2.pin p (List.mem_append_right _ hp)
 refine fV (hi _ _ σ H1 _ I3 h4) fun u s3 hu => ?_
 obtain ⟨kv, H3, I4, r3, τ', ρ', G', d', cy, SK, ok'⟩ := hu
 cases d' <;> try exact ok'.elim
 rename_i k
 dsimp only [jx] at ok'
 by_cases hk : 0 ≤ k ∧ k < 1000
 ·rw [if_pos hk] at ok'
  cases hz : zs[k.toNat]? with
  | none => rw [hz] at ok'; exact ok'.elim
  | some z =>
   rw [hz] at ok'
   dsimp only at ok'
   by_cases hc : x.length + (x.length + 1) * z.length ≤ 16777216
   ·rw [if_pos hc] at ok'
    unfold Rep at SK; subst SK
    obtain ⟨t', rfl⟩ := r3
    have hq := ok' (.str (Txt.replace x y z)) H3 ρ' .refl cy (by unfold Rep; rfl)
    have hp := (I4.pin (s1.heap.objs.size, ob) (List.mem_append_right _ (List.mem_cons_self ..))).1
    have hl : s3.heap.IsList s1.heap.objs.size (Ao (s1.toks + 1) zs).toArray := ⟨ob, hp, rfl, _, rfl⟩
    refine item_listR hl hk.1 (by omega) (x := .str z (s1.toks + 1 + k.toNat)) (by rw [List.getElem?_toArray]; exact Aq hz) ?_ (JC Vg _ _)
    refine Calls.spliced_nil ?_
    show wpAny _ _ (call (.builtin "str.replace") [.str x t, .str y s1.toks, .str z (s1.toks + 1 + k.toNat)]) _ _ _
    have h0 := I1.os.2
    have t1 : s1.toks ≠ 0 := Nat.ne_of_gt h0
    have t2 : s1.toks + 1 + k.toNat ≠ 0 := by omega
    have t3 : s1.toks ≠ s1.toks + 1 + k.toNat := by omega
    exact kL I4.os.2 (SC.replaceA t1 t2 t3 hc (fun t' k => fun ht => ⟨.str _, H3, (I4.tok k (ht := ht)).qh (fun p hp => I4.pin p (by simp at hp ⊢; exact .inr (.inr hp))), ⟨_, rfl⟩, hq⟩) (hnb _ I4.A0))
   ·rw [if_neg hc] at ok'; exact ok'.elim
 ·rw [if_neg hk] at ok'; exact ok'.elim
end
section
variable {X : Cx} {EE : fk}
noncomputable def Nx (X : Cx) (EE : fk) (st : List Stmt) (m : MS) : Prop := MM X st (jj X.K X.mg EE m)
theorem QK {CX : vM} {k : Nat} {f : Addr} {fd : FuncData} {ps : List Str} {mf : List D → M D} {g x y : Str} {i j jc : Nat} {n : Int} {px py pc pg cpos pos : Pos} {rest : List Stmt} {mt : MS} (F : bx X.prog X.w X.K X.mg X.base CX k f fd ps (aW X.K X.mg 2 mf)) (hr : fW k X.A) (hm : X.mg g = some (.ref f)) (hk : PySem.W.keepIn X.K (.ref f) = true) (hb : Binds X.K fd ps []) (hx : Mf CX X EE) (hg : Gl X g)
  (hdg : (g == ("__debug__" : Str)) = false ∧ (g == ("__classdict__" : Str)) = false) (hN : X.N.Nodup) (Vh : Loc X.env.scope x) (hf : X.fn x = true ∨ X.env.scope.names.lookup x = some .local) (hv : X.env.scope.names.lookup y = some .local) (Vi : (y == ("__debug__" : Str)) = false ∧ (y == ("__classdict__" : Str)) = false) (h2 : A1 X EE rest mt) (hi : X.N[i]? = some x := by rfl) (hj : X.N[j]? = some y := by rfl) :
  Nx X EE (.Assign [.Name x px] (.Call (.Name g pg) [.Name y py, .Constant (.int n) jc pc] [] cpos) pos :: rest) (bh (bC i (bZ 2 mf (ai (ah j) (ai (eC (.int n)) aq)))) mt) := by
 intro s σ H Dd I h
 have h1 := zM h
 have h3 := rW (m := bZ 2 mf (ai (ah j) (ai (eC (.int n)) aq))) (k := fun τ d G => .nx (τ.set i (some d)) G) h1
 obtain ⟨τ, ρ, G, ab, ok⟩ := h3
 have hst : starEach [.Name y py, .Constant (.int n) jc pc] X.env = (false, eval (.Name y py) X.env) :: starEach [.Constant (.int n) jc pc] X.env := aV rfl _ _
 have QL : starEach [.Constant (.int n) jc pc] X.env = (false, eval (.Constant (.int n) jc pc) X.env) :: starEach [] X.env := aV rfl _ _
 unfold bZ aC ai ah eC aq at ok
 dsimp only [M.bind, M.ret] at ok
 cases e : τ[j]? with
 | none => rw [e] at ok; exact ok.elim
 | some o =>
  cases o with
  | none => rw [e] at ok; exact ok.elim
  | some d =>
   rw [e] at ok
   obtain ⟨v, e1, r⟩ := ab.st.2 j d e
   obtain ⟨m, hn, hl⟩ := I.loc
   obtain ⟨u, ru, l⟩ := hl j y v hj e1 (.inl hv)
   refine wpAny_execs_cons (wpAny_Assign_Name ?_ (ug (e := .Call (.Name g pg) [.Name y py, .Constant (.int n) jc pc] [] cpos) rfl _ _ _))
   refine wpAny_Call_Name_kw (Calls.Name_function_global I.ok.kind hg (Calls.loadGlobal_global (by rw [I.ok.glob]; exact I.mod.glob.keeps I.bk) hm ?_) hdg.1)
   refine PySem.W.callWith_K (h₀ := X.base) I.ok.mod.J1 hk ?_ hst (bR (es := [.Constant (.int n) jc pc]) rfl)
   rw [hst]
   show wpAny _ _ (spliced ((false, eval (.Name y py) X.env) :: backTo cpos (starEach [.Constant (.int n) jc pc] X.env))) _ _ s
   refine Calls.spliced_cons ?_
   rcases l with ⟨Ho, hml⟩ | ⟨Ho, c, hc, hcell⟩
   ·refine wpAny_Name (wpAny_loadName_local I.ok.kind Ho hn hml ?_) Vi.1
    rw [QL]
    show wpAny _ _ (spliced ((false, eval (.Constant (.int n) jc pc) X.env) :: backTo cpos (starEach [] X.env))) _ _ s
    refine Calls.spliced_cons (wpAny_Constant_int ?_)
    refine Calls.spliced_nil ⟨I.A0, ?_⟩
    have hn2 : [d, D.int n].length = 2 := rfl
    have ok : mW X.K X.mg EE H σ τ ρ ((if [d, D.int n].length = 2 then mf [d, .int n] else M.stop) G) _ := ok
    rw [if_pos hn2] at ok
    have hrs : au X.K X.mg ρ H [d, .int n] [v, .int n] := .cons r (.cons (by unfold Rep; rfl) .nil)
    have Vj : Vals [v, .int n] [u, .int n s.toks] := .cons ru (.cons ⟨_, rfl⟩ .nil)
    refine fV (yf F hr hb hx I Vj ab hrs hn2 ok) fun w s1 ⟨z, H1, I1, r1, τ1, ρ1, G1, d1, qv, Vk, Hl⟩ => ?_
    refine ur I1 hN hi Vh r1 (fun s2 I2 => ?_) hf
    exact h2 [] s2 _ H1 Dd I2 (Hl _ H1 ρ1 .refl (Ab.set qv Vk))
   ·rcases Ho with z | z <;> (have z' := hv.symm.trans z; cases z')
theorem QM {P : Program} {w : World} {K : PySem.W.Frag} {mg : Str → Option Value} {base : Heap} {f : Addr} {fd : FuncData} {x qual : Str} {st : Stmt} {N ps : List Str} {k n nn : Nat} {ms : MS} {m : List D → M D} (F : sQ K x qual st f fd) (S : bH N ps (aa st)) (hps : ps.length = n) (hN : N.length = nn) (hm : ∀ ds, m ds = cT nn ms ds)
  (hbody : ∀ (X : Cx) (EE : fk) (cdv : Value) (A : Around) (outer : List Env) (s : Shared) (H : Hp) (E : XK), X = gg (cQ P w) P w K mg base N qual (aa st) f cdv A outer s H E → fW k (A.deeper (PyProof.Rows.envOfC qual (aa st) s.heap.objs.size f cdv)) →
   kh X EE → PassesOwn (model P w) X.A X.env X.xe → Nx X EE (ay st) ms) :
  oV P w K mg base (cQ P w) (k + 1) f fd ps (aW K mg n m) := by
 subst hps hN
 have e : m = fun ds => cT N.length ms ds := funext hm
 subst e
 obtain ⟨oc, od, kV, doc, pm, an, cdv, ct, osl, rfl, lk, hcd⟩ := F.ex
 refine KL lk hcd S (fun vs H Q E h => h.len) fun A outer s H vs Q E hr h => ?_
 obtain ⟨ds, ρ, G, hn, hp, rs, ok⟩ := h
 refine ⟨_, hbody _ (fun c σ H' => ∀ cls, Ct mg c cls → E cls none H') cdv A outer s H E rfl hr ?_ PassesOwn.leaving, ds.map some ++ List.replicate (N.length - ds.length) none, ρ, G, ⟨uF rs, hp⟩, ?_⟩
 ·intro pins σ H' s' e cls c I fx hc ee
  obtain ⟨B, fb, hok, DK⟩ := fx
  refine zQ (L := s.heap.objs.size) I.ok.frames rfl fb fun h' a0 fl u => ?_
  have I' : Inv _ [] σ H' { s' with heap := h' } := Inv.Jx (t := s'.toks) I DK hok fl.1 u
  have Cf : ∀ b o, s.heap.get? b = some o → b ∉ frs outer → b ∉ frs (PyProof.Rows.envOfC qual (aa st) s.heap.objs.size f cdv :: outer) := fun b o e hb z => by
   rcases List.mem_cons.mp (I.lC b z) with z | z
   ·exact absurd (Heap.lt_size e) (by rw [show b = s.heap.objs.size from z]; exact Nat.lt_irrefl _)
   ·exact hb z
  refine ⟨e, cls, a0, B, H', rfl, fl, ⟨I'.os, I'.bare, fun b o eb nb hb => DK.keep b o eb nb (Cf b o eb hb) (by intro z; exact absurd (show b ∈ ([] : List Addr) from z) (by simp)), fun b o eb hb => DK.there b o eb (Cf b o eb hb) (by intro z; exact absurd (show b ∈ ([] : List Addr) from z) (by simp)),
   fun b o eb nb hb => I'.base.slot b o eb nb hb (by intro z; exact absurd (show b ∈ ([] : List Addr) from z) (by simp)), fun b o eb nb => I'.base.free b o eb nb (by intro z; exact absurd (show b ∈ ([] : List Addr) from z) (by simp)), I'.base.tups, I'.base.oG, I'.base.pC, hok⟩, ee cls hc⟩
 ·dsimp only [cT] at ok
  cases q : ms (ds.map some ++ List.replicate (N.length - ds.length) none) G with
  | stuck => rw [q] at ok; exact ok
  | nx τ G' => rw [q] at ok; exact fun σ' H' ρ' f ab => ok .eY H' ρ' f ab.hp (by unfold Rep; rfl)
  | rt d G' => rw [q] at ok; exact fun v H' ρ' f hp r => ok v H' ρ' f hp r
  | bk τ G' => rw [q] at ok; exact ok.elim
  | ct τ G' => rw [q] at ok; exact ok.elim
  | xn c τ G' => rw [q] at ok; exact fun σ' H' ρ' f ab cls hc => ok cls H' ρ' hc f ab.hp
end
end L3
end
section
set_option Elab.async false
set_option linter.all false
set_option maxRecDepth 100000
namespace L3
open PySem PySem.Spec L2
theorem Ny {i j : Int} {G : DH} : dJ (.int i) (.int j) G = .ok (.int (i + j)) G := Eq.trans rfl rfl
section
variable {τ : DS} {G : DH} {ma mb mo mi : DS → M D}
theorem Gb : DA ma mb τ G = (ma τ G).bd fun d => match d with
 | .bl true => mb τ
 | .bl false => M.ret (.bl false)
 | _ => M.stop := aT
theorem As {y : Str} {zs : List Str} : jz y zs mo mi τ G = (mo τ G).bd (IS y zs (mi τ)) := aT
theorem Gd {y x : Str} {zs : List Str} {m : M D} : IS y zs m (.str x) G = (m G).bd (jx y zs x) := aT
theorem IT {y x z : Str} {zs : List Str} {k : Int} (h0 : 0 ≤ k ∧ k < 1000) (hz : zs[k.toNat]? = some z) (hl : x.length ≤ 1000000) (hz' : z.length ≤ 10) : jx y zs x (.int k) G = .ok (.str (Txt.replace x y z)) G := by
 have : (x.length + 1) * z.length ≤ (1000000 + 1) * 10 := Nat.mul_le_mul (by omega) hz'
 simp only [jx, if_pos h0, hz]
 rw [if_pos (by omega)]; rfl
theorem CQ {y z x : Str} (hne : (y == z) = false) (hl : x.length ≤ 1000000) (hz' : z.length ≤ 10) : vQ y z (.str x) G = .ok (.str (Txt.replace x y z)) G := by
 have : (x.length + 1) * z.length ≤ (1000000 + 1) * 10 := Nat.mul_le_mul (by omega) hz'
 simp only [vQ]
 rw [if_pos ⟨hne, by omega⟩]; rfl
theorem BH {gO : D → Option (List D)} {ks : List Bool} {tt : DS → M Bool} {te : DS → M D} {x : D} {os acc : List D} (h1 : gO x = some os) (h2 : tt (os.map some ++ mask ks τ) (G ++ [.lst acc]) = .ok false (G ++ [.lst acc])) :
  cZ gO ks tt te G.length x τ (G ++ [.lst acc]) = .ok () (G ++ [.lst acc]) := by
 simp only [cZ, h1, h2]
theorem sW {gO : D → Option (List D)} {ks : List Bool} {tt : DS → M Bool} {te : DS → M D} {x v : D} {os acc : List D} (h1 : gO x = some os) (h2 : tt (os.map some ++ mask ks τ) (G ++ [.lst acc]) = .ok true (G ++ [.lst acc])) (h3 : te (os.map some ++ mask ks τ) (G ++ [.lst acc]) = .ok v (G ++ [.lst acc])) (hz : acc.length < sizeLine) :
  cZ gO ks tt te G.length x τ (G ++ [.lst acc]) = .ok () (G ++ [.lst (acc ++ [v])]) := by
 simp only [cZ, h1, h2, h3, uS, if_pos hz, Et]
theorem gF {gO : D → Option (List D)} {ks : List Bool} {tt : DS → M Bool} {te : DS → M D} {α : Type} {own : α → List D} {dat f : α → D} {c : α → Bool} : ∀ (as : List α) (acc : List D), acc.length + as.length ≤ 1000000 → (∀ x ∈ as, gO (dat x) = some (own x)) →
  (∀ x ∈ as, ∀ acc, tt ((own x).map some ++ mask ks τ) (G ++ [.lst acc]) = .ok (c x) (G ++ [.lst acc])) → (∀ x ∈ as, ∀ acc, te ((own x).map some ++ mask ks τ) (G ++ [.lst acc]) = .ok (f x) (G ++ [.lst acc])) →
  dm gO ks tt te G.length (as.map dat) τ (G ++ [.lst acc]) = .ok (.obj G.length) (G ++ [.lst (acc ++ (as.filter c).map f)])
 | [], acc, _, _, _, _ => by simp [dm]
 | x :: as, acc, hl, h1, h2, h3 => by
  have hz : acc.length < sizeLine := Nat.lt_of_lt_of_le (by simp at hl; omega) (lz (n := 1000001) (by omega))
  rw [List.map_cons, dm]
  have hp := h2 x (by simp) acc
  cases hc : c x with
  | false =>
   rw [hc] at hp
   rw [BH (h1 x (by simp)) hp]
   dsimp only
   rw [gF as acc (by simp at hl; omega) (fun q hq => h1 q (by simp [hq])) (fun q hq => h2 q (by simp [hq])) (fun q hq => h3 q (by simp [hq])), List.filter_cons_of_neg (by rw [hc]; decide)]
  | true =>
   rw [hc] at hp
   rw [sW (h1 x (by simp)) hp (h3 x (by simp) acc) hz]
   dsimp only
   rw [gF as (acc ++ [f x]) (by simp at hl ⊢; omega) (fun q hq => h1 q (by simp [hq])) (fun q hq => h2 q (by simp [hq])) (fun q hq => h3 q (by simp [hq])), List.filter_cons_of_pos hc]
   simp
end
noncomputable def DZ (cur : List Nat) : List (List Nat) := if cur.isEmpty then [] else [cur]
noncomputable def bw : List Nat → List Nat → List (List Nat)
 | cur, [] => DZ cur
 | cur, c :: r => if c = 32 then DZ cur ++ bw [] r else if c = 10 then DZ cur ++ bw [] r else if c = 40 then DZ cur ++ [40] :: bw [] r else if c = 41 then DZ cur ++ [41] :: bw [] r else bw (cur ++ [c]) r
noncomputable def yz (x : List Nat) : List Nat := rp 41 [32, 41, 32] (rp 40 [32, 40, 32] (rp 10 [32] x))
theorem kR {cur : List Nat} (h : 32 ∉ cur) : (br 32 cur).filter (fun l => !l.isEmpty) = DZ cur := by
 rw [nA 32 cur h]
 unfold DZ
 cases cur <;> rfl
theorem iw : DZ [] = [] := rfl
theorem wl : ∀ (x cur : List Nat), 32 ∉ cur → (br 32 (cur ++ yz x)).filter (fun l => !l.isEmpty) = bw cur x
 | [], cur, h => by
  show (br 32 (cur ++ [])).filter _ = _
  rw [List.append_nil, kR h]; rfl
 | c :: r, cur, h => by
  have one : ∀ {s : List Nat}, (yz (c :: r)) = s ++ 32 :: yz r → 32 ∉ s → (br 32 (cur ++ yz (c :: r))).filter (fun l => !l.isEmpty) = (br 32 (cur ++ s)).filter (fun l => !l.isEmpty) ++ bw [] r := fun {s} e hs => by
   rw [e, ← List.append_assoc, gm, List.filter_append]
   have := wl r [] (by simp)
   rw [List.nil_append] at this
   rw [this]
  by_cases QN : c = 32
  ·subst QN
   rw [one (s := []) rfl (by simp), List.append_nil, kR h]; rfl
  ·by_cases Lq : c = 10
   ·subst Lq
    rw [one (s := []) rfl (by simp), List.append_nil, kR h]; rfl
   ·by_cases QU : c = 40
    ·subst QU
     have e : yz (40 :: r) = [32, 40] ++ 32 :: yz r := rfl
     rw [e, ← List.append_assoc, gm, List.filter_append, show cur ++ [32, 40] = cur ++ 32 :: [40] from rfl, gm, List.filter_append, kR h]
     have := wl r [] (by simp)
     rw [List.nil_append] at this
     rw [this]
     show (DZ cur ++ [[40]]) ++ bw [] r = DZ cur ++ [40] :: bw [] r
     simp
    ·by_cases QV : c = 41
     ·subst QV
      have e : yz (41 :: r) = [32, 41] ++ 32 :: yz r := rfl
      rw [e, ← List.append_assoc, gm, List.filter_append, show cur ++ [32, 41] = cur ++ 32 :: [41] from rfl, gm, List.filter_append, kR h]
      have := wl r [] (by simp)
      rw [List.nil_append] at this
      rw [this]
      show (DZ cur ++ [[41]]) ++ bw [] r = DZ cur ++ [41] :: bw [] r
      simp
     ·have e : yz (c :: r) = [c] ++ yz r := by simp [yz, rp, Lq, QU, QV]
      rw [e, ← List.append_assoc, wl r (cur ++ [c]) (by simp [h]; exact fun z => QN z.symm)]
      rw [bw, if_neg QN, if_neg Lq, if_neg QU, if_neg QV]
theorem yC (c : Nat) (b : List Nat) (h : ∀ cur r, bw cur (b ++ r) = bw cur (c :: r)) : ∀ (x cur : List Nat), bw cur (rp c b x) = bw cur x
 | [], _ => rfl
 | d :: r, cur => by
  have ih := yC c b h r
  by_cases e : d = c
  ·subst e
   have : rp d b (d :: r) = b ++ rp d b r := by simp [rp]
   rw [this, h]
   simp only [bw, ih]
  ·have : rp c b (d :: r) = d :: rp c b r := by simp [rp, e]
   rw [this]
   simp only [bw, ih]
theorem BI (b : List Nat) (hb : b = [32] ∨ b = [32, 32] ∨ b = [10, 32]) (x cur : List Nat) : bw cur (rp 32 b x) = bw cur x :=
 yC 32 b (fun cur r => by rcases hb with rfl | rfl | rfl <;> simp [bw, iw]) x cur
theorem BJ (b : List Nat) (hb : b = [40, 32] ∨ b = [10, 40] ∨ b = [32, 40, 32]) (x cur : List Nat) : bw cur (rp 40 b x) = bw cur x :=
 yC 40 b (fun cur r => by rcases hb with rfl | rfl | rfl <;> simp [bw, iw]) x cur
theorem BK (b : List Nat) (hb : b = [32, 41] ∨ b = [41, 10] ∨ b = [10, 32, 41, 32]) (x cur : List Nat) : bw cur (rp 41 b x) = bw cur x :=
 yC 41 b (fun cur r => by rcases hb with rfl | rfl | rfl <;> simp [bw, iw]) x cur
theorem Au : ∀ (p cur r r' : List Nat), (∀ cur, bw cur r = bw cur r') → bw cur (p ++ 32 :: 40 :: r) = bw cur (p ++ 40 :: r')
 | [], cur, r, r', h => by simp [bw, iw, h]
 | c :: p, cur, r, r', h => by
  have ih := fun cur => Au p cur r r' h
  simp only [List.cons_append, bw, ih]
theorem xE : ∀ (ps : List (List Nat)) (cur : List Nat), bw cur (cB [40] ps) = bw cur (cB [32, 40] ps)
 | [], cur => rfl
 | [p], cur => rfl
 | p :: q :: ps, cur => by
  have ih := xE (q :: ps)
  simp only [cB, List.append_assoc]
  exact (Au p cur _ _ fun cur => (ih cur).symm).symm
theorem sy (x y z : Str) (hy : (y.length == 0) = false) : ∃ ps, x = Str.join y ps ∧ Txt.replace x y z = Str.join z ps := by
 unfold Txt.replace
 rw [hy, Bool.false_and, Bool.or_false]
 cases he : (Builtin.Str.occurrences x y 0 x.length (x.length + 1)).isEmpty
 ·refine ⟨Builtin.Str.partsBetween x (Builtin.Str.occurrences x y 0 x.length (x.length + 1)) y.length, ?_, ?_⟩
  ·rw [← StrLaws.glued_eq_join, StrLaws.glued_between_self]
  ·rw [if_neg Bool.false_ne_true, StrLaws.glued_eq_join]
 ·exact ⟨[x], by rw [← StrLaws.glued_eq_join]; simp [Builtin.Str.glued], by rw [if_pos rfl, ← StrLaws.glued_eq_join]; simp [Builtin.Str.glued]⟩
theorem IU (x : Str) (cur : List Nat) : bw cur (Txt.replace x " (" "(").cps.toList = bw cur x.cps.toList := by
 obtain ⟨ps, e1, e2⟩ := sy x " (" "(" rfl
 rw [e2, ko]
 conv => rhs; rw [e1, ko]
 exact xE _ cur
theorem xF (a b : List Nat) (h : a.length ≤ b.length) : ∀ ps, (cB a ps).length ≤ (cB b ps).length
 | [] => Nat.le_refl _
 | [p] => Nat.le_refl _
 | p :: q :: ps => by
  have := xF a b h (q :: ps)
  simp only [cB, List.length_append]
  omega
theorem IV (x : Str) : (Txt.replace x " (" "(").length ≤ x.length := by
 obtain ⟨ps, e1, e2⟩ := sy x " (" "(" rfl
 have h1 : (Txt.replace x " (" "(").cps.toList.length ≤ x.cps.toList.length := by
  rw [e2, ko]
  conv => rhs; rw [e1, ko]
  exact xF _ _ (by decide) _
 simpa [Str.length] using h1
theorem u6 (c k : Nat) (b : List Nat) (hb : b.length ≤ k) (hk : 1 ≤ k) : ∀ x : List Nat, (rp c b x).length ≤ k * x.length
 | [] => by simp [rp]
 | d :: r => by
  have ih := u6 c k b hb hk r
  have e : rp c b (d :: r) = (if d = c then b else [d]) ++ rp c b r := by simp [rp]
  rw [e, List.length_append, List.length_cons, Nat.mul_add]
  split <;> simp <;> omega
end L3
end
section
set_option Elab.async false
set_option linter.all false
set_option maxRecDepth 100000
namespace L3
open PySem PySem.Spec L2 PyProof.Rows
section
variable {prog : Program} {w : World} {A : Around} {E : Value → Shared → Prop} {s : Shared}
theorem BL (r : Addr) (a b c : Int) (t u v : Tok) (hs : (Builtin.Range.rangeFitsLong a && Builtin.Range.rangeFitsLong b && Builtin.Range.rangeFitsLong c && Builtin.Range.rangeFitsLong (-c) && Builtin.Range.rangeFitsLong (a - c) && Builtin.Range.rangeFitsLong (Builtin.Range.rangeSize a b c)) = true) :
  Meets (Builtin.«range.__reversed__» ⟨[.ref r], []⟩) (fun _ R s => s.heap.get? r = some { cls := .type "range", dict := none, data := .fields #[.int a t, .int b u, .int c v], slots := #[] } ∧ R (.ok (.ret (Value.ref s.heap.objs.size))) { s with heap := s.heap.push { cls := .type "range_iterator", data := .fields #[rawInt (a + (Builtin.Range.rangeSize a b c - 1) * c), rawInt (Builtin.Range.rangeSize a b c), rawInt (-c)] } }) :=
 .of_wp fun prog w A R s h => by
  obtain ⟨hp, g, d, tk, os⟩ := s
  obtain ⟨hl, h⟩ := h
  wp_walk
  rw [if_pos hs]
  exact ⟨_, rfl, h⟩
theorem tW : isSubtype (.type "range_iterator") (.type "reversed") = pure false := by rw [isSubtype_type]; kernel_rfl
noncomputable def D0 (n : Int) : Obj := { cls := .type "range_iterator", data := .fields #[rawInt (n - 1), rawInt n, rawInt (-1)] }
theorem LI {n : Int} (h : 0 ≤ n) : Builtin.Range.rangeSize 0 n 1 = n := by
 unfold Builtin.Range.rangeSize
 rw [if_pos (by decide)]
 split
 ·simp only [Int.sub_zero]; omega
 ·omega
theorem u7 {r : Addr} {n : Int} {t u v : Tok} {Q : Value → Shared → Prop} (hr : IsRange s.heap r 0 n 1 t u v) (h0 : 0 ≤ n) (h1 : n < 2 ^ 30)
  (h : Q (.ref s.heap.objs.size) { s with heap := s.heap.push (D0 n) }) : wpAny (model prog w) A (call (.builtin "range.__reversed__") [.ref r]) Q E s := by
 have hT : s.TypeIs (.ref r) "range" := ⟨_, hr, rfl⟩
 have hz := LI h0
 refine call_meets F.slot_range_reversed hT F.entry_range_reversed (F.args_range_reversed_1 _) (BL r 0 n 1 t u v ?_) ⟨hr, ?_⟩
 ·rw [hz]
  simp only [Builtin.Range.rangeFitsLong, Bool.and_eq_true, decide_eq_true_eq]
  omega
 ·rw [hz]
  have e : (0 : Int) + (n - 1) * 1 = n - 1 := by omega
  rw [e]
  exact h
theorem qK {r : Addr} {n : Int} {t u v : Tok} {Q₁ : Value → Shared → Prop} (hr : IsRange s.heap r 0 n 1 t u v) (h0 : 0 ≤ n) (h1 : n < 2 ^ 30)
  (h : Q₁ (.ref s.heap.objs.size) { s with heap := s.heap.push (D0 n) }) :
  codeAny (model prog w) A (.call (.builtin "reversed.__new__") ⟨[.type "reversed", .ref r], []⟩) (wants Q₁ E) s := by
 have hT : s.TypeIs (.ref r) "range" := ⟨_, hr, rfl⟩
 refine codeAny_of_tree ?_
 show wpAny _ A.in1 (do checkBuiltinCall "reversed.__new__" ⟨[.type "reversed", .ref r], []⟩; again (.builtin "reversed.__new__" ⟨[.type "reversed", .ref r], []⟩)) _ _ s
 refine wpAny_bind (wpAny_of_eq (F.newCall_reversed_1 _) (wpAny_pure ⟨plainId_quiet F.plain_reversed_new _, codeAny_builtin F.entry_reversed_new ?_⟩))
 rw [Around.under_plainId F.plain_reversed_new _]
 unfold Builtin.«reversed.__new__»
 refine wpAny_bind (wpAny_of_eq (newClass_reversed _) ?_)
 try dsimp only
 refine wpAny_bind (wpAny_of_eq (a := ()) (by first | rfl | kernel_rfl) ?_)
 refine wpAny_bind (wpAny_of_eq (a := ()) (by first | rfl | kernel_rfl) ?_)
 try dsimp only
 refine wpAny_bind (wpAny_specialOf hT F.slot_range_reversed.lookup ?_)
 try dsimp only
 refine wpAny_bind (wpAny_of_eq (F.slot_range_reversed.bind _) ?_)
 try dsimp only
 first
 | rw [if_neg (show ¬ ((Value.builtin "range.__reversed__" == Value.none) = true) from Bool.false_ne_true)]
 | (show wpAny _ _ (if (Value.builtin "range.__reversed__" == Value.none) = true then _ else _) _ _ _; rw [if_neg (show ¬ ((Value.builtin "range.__reversed__" == Value.none) = true) from Bool.false_ne_true)])
 refine wpAny_bind (wpAny_rule ?_)
 refine wpAny_bind (m := runValue (.call (.builtin "range.__reversed__") ⟨[.ref r], []⟩)) (show wpAny _ _ (call (.builtin "range.__reversed__") [.ref r]) _ _ _ from u7 hr h0 h1 ?_)
 first
 | exact wpAny_pure h
 | exact wpAny_bind (wpAny_pure (wpAny_pure h))
theorem qL {r : Addr} {n : Int} {t u v : Tok} {Q : Value → Shared → Prop} (hr : IsRange s.heap r 0 n 1 t u v) (h0 : 0 ≤ n) (h1 : n < 2 ^ 30)
  (h : Q (.ref s.heap.objs.size) { s with heap := s.heap.push (D0 n) }) : wpAny (model prog w) A (call (.type "reversed") [.ref r]) Q E s := by
 refine callType_other (U := "range_iterator") (Q₁ := fun obj s₁ => obj = .ref s.heap.objs.size ∧ s₁ = { s with heap := s.heap.push (D0 n) }) (by decide +kernel) F.create_reversed ⟨_, _, F.mro_reversed⟩ F.made_reversed tW (F.typeCall_reversed_1 _) (qK hr h0 h1 ⟨rfl, rfl⟩) ?_
 rintro obj s₁ ⟨rfl, rfl⟩
 exact ⟨⟨_, Heap.get?_push_size _ rfl, rfl⟩, h⟩
end
noncomputable def sA : List D → Option Int
 | [.int n] => some n
 | _ => none
theorem D3 {ds : List D} {n : Int} (h : sA ds = some n) : ds = [.int n] := by
 unfold sA at h
 split at h
 ·cases h; rfl
 ·cases h
noncomputable def Av (m : DS → M (List D)) : MI := fun τ => (m τ).bind fun ds => match sA ds with
 | some n => fun G => if 0 ≤ n ∧ n < 2 ^ 30 then .ok (n.toNat + 1, BE (n - 1) (-1) n.toNat) G else .stuck
 | none => M.stop
section
variable {X : Cx} {EE : fk} {tg a : Expr} {p p2 pc Nz : Pos} {m : DS → M (List D)}
theorem CS (hm : X.mg "reversed" = none) (Bj : Gl X "reversed") (hm2 : X.mg "range" = none) (QX : Gl X "range") (ha : QA X EE [a] m) (h : aB [a] = true := by rfl) : QI X EE tg (.Call (.Name "reversed" p) [.Call (.Name "range" p2) [a] [] Nz] [] pc) (Av m) := by
 have h' : cW a = true ∧ aB [] = true := by simpa [aB] using h
 intro pins s σ H R I hq
 obtain ⟨τ, ρ, G, ab, ok⟩ := hq
 dsimp only [Av, M.bind] at ok
 refine wpAny_Call_Name_kw (ji I Bj hm uQ ?_ (by decide) (by decide))
 have hA : sR X.K X.mg EE m σ H fun vs H1 => ∃ ρ1 G1 ds, Ab X.K X.mg σ H1 τ ρ1 G1 ∧ eZ X.K H H1 ρ ρ1 ∧ au X.K X.mg ρ1 H1 ds vs ∧ m τ G = .ok ds G1 := by
  refine ⟨τ, ρ, G, ab, ?_⟩
  cases e : m τ G with
  | stuck => rw [e] at ok; exact ok
  | dF c G' => rw [e] at ok; exact ok
  | ok ds G' => exact fun vs H' ρ' f cy r => ⟨ρ', G', ds, cy, f, r, rfl⟩
 have hs1 : starEach [.Call (.Name "range" p2) [a] [] Nz] X.env = (false, eval (.Call (.Name "range" p2) [a] [] Nz) X.env) :: starEach [] X.env := aV rfl _ _
 refine PyProof.Rows.callWith_type1 ?_ hs1 (bR (es := []) rfl)
 rw [hs1]
 show wpAny _ _ (spliced ((false, eval (.Call (.Name "range" p2) [a] [] Nz) X.env) :: backTo pc (starEach [] X.env))) _ _ s
 refine Calls.spliced_cons ?_
 refine wpAny_Call_Name_kw (ji I QX hm2 boot_range ?_ (by decide) (by decide))
 refine PyProof.Rows.callWith_type1 (fV (ha Nz pins s σ H _ I hA) fun us s1 HR => ?_) (aV h'.1 _ _) (bR (es := []) rfl)
 obtain ⟨vs, H1, I1, r1, ρ1, G1, ds, qv, f1, rs, em⟩ := HR
 rw [em] at ok
 dsimp only at ok
 cases q : sA ds with
 | none => rw [q] at ok; exact ok.elim
 | some n =>
  rw [q] at ok
  dsimp only at ok
  have e := D3 q
  subst e
  by_cases hc : 0 ≤ n ∧ n < 2 ^ 30
  ·rw [if_pos hc] at ok
   obtain ⟨x, rfl, rx⟩ := kO rs
   unfold Rep at rx; subst rx
   obtain ⟨u, rfl, t, rfl⟩ := vals1 r1
   refine call_range_1 ?_
   refine Calls.spliced_nil ?_
   have I2 : Inv X pins σ H1 { s1 with heap := s1.heap.push { cls := .type "range", data := .fields #[.int 0 s1.toks, .int n t, .int 1 (s1.toks + 1)] }, toks := s1.toks + 1 + 1 } := I1.kept fun b o e => Heap.get?_push_of_some _ e
   refine qL (t := s1.toks) (u := t) (v := s1.toks + 1) (IsRange.new ..) hc.1 hc.2 ?_
   have hst : IsRangeIter ((s1.heap.push { cls := .type "range", data := .fields #[.int 0 s1.toks, .int n t, .int 1 (s1.toks + 1)] }).push (D0 n)) (s1.heap.push { cls := .type "range", data := .fields #[.int 0 s1.toks, .int n t, .int 1 (s1.toks + 1)] }).objs.size (n - 1) n (-1) := Heap.get?_push_size _ rfl
   refine wpAny_pyIter_rangeiter (s := { s1 with heap := (s1.heap.push { cls := .type "range", data := .fields #[.int 0 s1.toks, .int n t, .int 1 (s1.toks + 1)] }).push (D0 n), toks := s1.toks + 1 + 1 }) hst ?_
   refine ⟨_, [_], _, LF (n - 1) (-1) n.toNat, H1, rfl, I2.kept (t' := s1.toks + 1 + 1) fun b o e => Heap.get?_push_of_some _ e, Ak _ (n - 1) (-1) n.toNat, ?_, fun b hb => ?_, ok _ H1 ρ1 f1 qv LG⟩
   ·have e1 : (n - 1) + ((0 : Nat) : Int) * (-1) = n - 1 := by simp
    have e2 : ((n.toNat : Nat) : Int) - ((0 : Nat) : Int) = n := by omega
    show IsRangeIter _ _ ((n - 1) + ((0 : Nat) : Int) * (-1)) (((n.toNat : Nat) : Int) - ((0 : Nat) : Int)) (-1)
    rw [e1, e2]
    exact hst
   ·rw [List.mem_singleton.mp hb]
    exact I2.Di (Nat.le_refl _) (I2.hok.fresh (Nat.le_refl _))
  ·rw [if_neg hc] at ok; exact ok.elim
end
end L3
end
section
set_option Elab.async false
set_option linter.all false
set_option maxRecDepth 100000
namespace L3
open PySem PySem.Spec L2
section
variable {X : Cx} {EE : fk} {a b : Expr} {pos : Pos} {ma mb m : DS → M D}
noncomputable def qM (d e : D) : M D := fun G => match d, e with
 | .obj n, .int k => match G[n]? with
  | some (.lst xs) => if k < 1000 ∧ -1000 < k ∧ xs.length * k.toNat ≤ sizeLine then bM (List.replicate k.toNat xs).flatten G else .stuck
  | _ => .stuck
 | _, _ => .stuck
theorem au.rep {K : PySem.W.Frag} {mg : Str → Option Value} {ρ : List Addr} {H : Hp} {ds : List D} {vs : List V} (r : au K mg ρ H ds vs) : ∀ k : Nat, au K mg ρ H (List.replicate k ds).flatten (List.replicate k vs).flatten
 | 0 => .nil
 | k + 1 => by
  rw [List.replicate_succ, List.flatten_cons, List.replicate_succ, List.flatten_cons]
  exact r.append (r.rep k)
theorem IW : pF X (binaryOp .Mult) (rD X EE qM) := by
 intro pins s σ0 H x y v u Q I rx ry ⟨σ, τ, ρ, G, d, e, ab, r1, r2, ok⟩
 cases d <;> try exact ok.elim
 rename_i n
 cases e <;> try exact ok.elim
 rename_i k
 dsimp only [qM] at ok
 cases g : G[n]? with
 | none => rw [g] at ok; exact ok.elim
 | some o =>
  cases o with
  | lst zs =>
   rw [g] at ok
   dsimp only at ok
   unfold Rep at r1 r2
   subst r2
   obtain ⟨p, rfl, e1⟩ := r1
   obtain ⟨p', vs, e2, hp, rs⟩ := ab.hp.lst g
   rw [e1] at e2; cases e2
   by_cases hk : k < 1000 ∧ -1000 < k ∧ zs.length * k.toNat ≤ sizeLine
   ·rw [if_pos hk] at ok
    obtain ⟨hl, q1⟩ := m8 ab (rs.rep k.toNat) ok
    exact KZ pins s σ0 H _ _ v u Q I rx ry ⟨p, k, vs, rfl, rfl, hp, by omega, by omega, by rw [← rs.length]; exact hk.2.2, q1⟩
   ·rw [if_neg hk] at ok; exact ok.elim
  | _ => rw [g] at ok; exact ok.elim
theorem Ge (ha : QE X EE a ma) (hb : QE X EE b mb) : QE X EE (.BinOp a .Mult b pos) (aF qM ma mb) := uB IW kM ha hb
noncomputable def Gf (g : ng) (τ : DS) (d : D) (G : DH) : Res := match g d τ with
 | some τ' => .nx τ' G
 | none => .stuck
noncomputable def Gg (g : ng) (m : DS → M D) : MS := fun τ => cO (m τ) (fun d G => Gf g τ d G) fun c G => .xn c τ G
theorem LJ {tg : Expr} {g : ng} (ha : QE X EE a ma) (hg : QG X tg g) (hs : swapsWithSole [tg] a pos.line X.env = pure false) (hw : swappedStores [tg] a X.env = pure none) (h1 : (assignEach [tg] X.env).map (·.2) = [assign tg X.env]) : QS X EE (.Assign [tg] a pos) (Gg g ma) := by
 intro pins s σ H Dd I h
 refine Ez ha hg hs hw h1 pins s σ H Dd I ?_
 have h2 := rW (k := fun τ d G => Gf g τ d G) h
 obtain ⟨τ, ρ, G, ab, ok⟩ := h2
 refine ⟨τ, ρ, G, ab, ?_⟩
 cases e : ma τ G with
 | stuck => rw [e] at ok; exact ok
 | dF c G' => rw [e] at ok; exact ok
 | ok d G' =>
  rw [e] at ok
  intro v H' ρ' f cy r
  obtain ⟨τ2, ρ2, G2, d2, dj, r2, aK⟩ := ok v H' ρ' f cy r
  unfold Gf at aK
  cases eg : g d2 τ2 with
  | none => rw [eg] at aK; exact aK.elim
  | some τ3 =>
   rw [eg] at aK
   exact ⟨τ2, ρ2, G2, d2, τ3, dj, r2, eg, fun σ' zG => aK σ' H' ρ2 .refl zG⟩
end
section
variable {τ : DS} {G : DH} {e : DS → M D} {ml : DS → M (List D)} {d : D}
theorem CU : Av ml τ G = (ml τ G).bd fun ds => match sA ds with
 | some n => fun G => if 0 ≤ n ∧ n < 2 ^ 30 then .ok (n.toNat + 1, BE (n - 1) (-1) n.toNat) G else .stuck
 | none => M.stop := aT
section
variable {mv mo mi : DS → M D} {g : ng}
theorem Aw : pJ mv mo mi τ G = ((mv τ G).bd fun v => (mo τ).bind fun o => (mi τ).bind fun i => rY v o i).xp τ := by
 unfold pJ cO Out.xp
 rw [aT]
 cases (mv τ G).bd fun v => (mo τ).bind fun o => (mi τ).bind fun i => rY v o i <;> rfl
theorem LL : Gg g e τ G = (e τ G).sb τ fun d G => Gf g τ d G := by
 unfold Gg cO Out.sb
 cases e τ G <;> rfl
end
theorem Ax {n : Int} : sA [.int n] = some n := Eq.trans rfl rfl
end
end L3
end
section
set_option Elab.async false
set_option linter.all false
set_option maxRecDepth 100000
set_option maxHeartbeats 4000000
namespace K12
open PySem PySem.Spec L2 L3
noncomputable def top (i : Nat) : Stmt := PySem.Challenge.pw_pathshape_k12_trees_written.main.body.getD i (.Pass ⟨0, 0, 0, 0⟩)
noncomputable abbrev bg : Stmt := top 1
noncomputable abbrev aM : Stmt := top 2
noncomputable abbrev bO : Stmt := top 3
noncomputable abbrev bJ : Stmt := top 5
noncomputable abbrev eF : Stmt := top 6
noncomputable abbrev bS : Stmt := top 7
noncomputable abbrev bN : Stmt := top 15
noncomputable abbrev bK : Stmt := top 17
noncomputable abbrev bG : Stmt := top 18
noncomputable abbrev aE : Stmt := top 19
noncomputable abbrev bQ : Stmt := top 20
noncomputable abbrev bT : Stmt := top 21
noncomputable abbrev cU : Stmt := top 22
noncomputable abbrev bB : Stmt := top 23
noncomputable abbrev aN : Stmt := top 25
noncomputable abbrev aX : Stmt := top 26
noncomputable abbrev aI : Stmt := top 27
noncomputable abbrev aH : Stmt := top 28
noncomputable abbrev aG : Stmt := top 29
noncomputable abbrev aO : Stmt := top 30
noncomputable abbrev cF : Stmt := top 31
noncomputable def iU : D := .tup [.str "start", .str "rule", .str "row", .str "mix", .str "many", .str "any", .str "kind", .str "not", .str "both", .str "either", .str "way", .str "mark"]
noncomputable def jf : D := .str "abcdefghijklmnopqrstuvwxyz"
noncomputable def ou : D := .int (8)
noncomputable abbrev qN : List Str := ["tree"]
noncomputable def iV : MS := gi (eFn (aC uP (ai (aF dY (ah 0) (eC (.int 1))) (aq))))
noncomputable def bP (ds : List D) : M D := fy (fun ds => cT 1 iV ds) ds
noncomputable abbrev xG : List Str := ["words"]
noncomputable abbrev BN : Nat := 1
noncomputable def oz : MS := gi (aF dJ (aF dJ (eC (.str "(")) (bq "str" nv (eC (.str " ")) (ai (ah 0) (aq)))) (eC (.str ")")))
noncomputable def jh (ds : List D) : M D := fy (fun ds => cT 1 oz ds) ds
noncomputable abbrev sC : List Str := ["text"]
noncomputable abbrev BO : Nat := 1
noncomputable def oA : MS := bh (oh (EX (Co (m9 tU (DC .str (ah 0)))) (kJ (aF (Dz false) (ah 0) (eC iU)))) (gi (eC (.bl false))) (cP)) (bh (oh (EX (kJ (aF (kI false) (aC gj (ai (ah 0) (aq))) (eC (.int 0)))) (kJ (aF xg (aC gj (ai (ah 0) (aq))) (eC ou)))) (gi (eC (.bl false))) (cP)) (gi (aC (Fb false) (ai (eFn (gD oN [] (ah 0) (iN) (aF (Dz false) (ah 0) (eC jf)))) (aq)))))
noncomputable def kT (ds : List D) : M D := fy (fun ds => cT 1 oA ds) ds
noncomputable abbrev pO : List Str := ["text", "spaced"]
noncomputable abbrev Ay : Nat := 1
noncomputable def lJ : MS := bh (oh (Co (m9 tU (DC .str (ah 0)))) (ki "NoText" (ai (eC (.str "what is read must be a text")) (aq))) (cP)) (bh (bC 1 (Lz (vQ ")" " ) ") (Lz (vQ "(" " ( ") (Lz (vQ "\n" " ") (ah 0))))) (gi (eFn (gD oN [] (eFn (bq "str" uN (ah 1) (ai (eC (.str " ")) (aq)))) (kJ (aF (kI true) (ah 0) (eC (.str "")))) (ah 0)))))
noncomputable def jA (ds : List D) : M D := fy (fun ds => cT 2 lJ ds) ds
noncomputable abbrev u9 : List Str := ["part", "sort"]
noncomputable abbrev sX : Nat := 1
noncomputable def lK : MS := bh (oh (xh (m9 tU (DC .tup (ah 0))) (kJ (aF (kI false) (aF dY (ah 0) (eC (.int 0))) (ah 1)))) (gi (aF dY (ah 0) (eC (.int 1)))) (cP)) (ki "NoText" (ai (Lw "what must stand here: " (ah 1)) (aq)))
noncomputable def fB (ds : List D) : M D := fy (fun ds => cT 2 lK ds) ds
noncomputable abbrev qO : List Str := ["_law_script", "_law_many", "_law_found", "_law_k", "_law_cell"]
noncomputable abbrev vS : Nat := 1
noncomputable def fZ : MS := bh (bC 4 (eC (.int 0))) (bh (oh (kJ (aF xg (aC gj (ai (ah 0) (aq))) (eC (.int 0)))) (bC 4 (aF d7 (aF dY (ah 0) (aF d7 (ah 3) (aC gj (ai (ah 0) (aq))))) (aF ER (eC (.int 10)) (eC (.int 18))))) (cP)) (fX (bq "list" bX (ah 2) (ai (aF dJ (ah 4) (aF Dv (eC (.int 7919)) (aF iC (ah 3) (aC (lF fun i j => if j > i then j else i) (ai (eC (.int 1)) (ai (aC gj (ai (ah 0) (aq))) (aq))))))) (aq)))))
noncomputable def iW : MS := bh (bC 2 (aC bM (aq))) (bh (gC mX (gN 3) (ai (ah 1) (aq)) fZ) (gi (IG (ah 2))))
noncomputable def fJ (ds : List D) : M D := fy (fun ds => cT 5 iW ds) ds
noncomputable abbrev sY : List Str := ["_law_draw", "_law_letters", "_law_name_here", "_law_k", "_law_at", "_law_taken"]
noncomputable abbrev yD : Nat := 1
noncomputable def gG : MS := bh (bC 4 (aF dJ (aF dJ (aF iC (ah 0) (eC (.int 208))) (aF Dv (aF Dv (eC (.int 7)) (ah 3)) (ah 3))) (aF Dv (aF d7 (aF iC (ah 0) (eC (.int 5408))) (eC (.int 26))) (ah 3)))) (bC 2 (aF dJ (ah 2) (aF dY (ah 1) (aF d7 (ah 4) (eC (.int 26))))))
noncomputable def lM : MS := bh (bC 5 (eFn (aC bM (ai (eC (.str "start")) (ai (eC (.str "rule")) (ai (eC (.str "row")) (ai (eC (.str "mix")) (ai (eC (.str "many")) (ai (eC (.str "any")) (ai (eC (.str "kind")) (ai (eC (.str "not")) (ai (eC (.str "both")) (ai (eC (.str "either")) (ai (eC (.str "way")) (ai (eC (.str "mark")) (aq)))))))))))))))) (bh (oh (kJ (aF (Dz false) (ah 2) (ah 5))) (gi (aF dJ (ah 2) (eC (.str "z")))) (cP)) (gi (ah 2)))
noncomputable def iE : MS := bh (bC 1 (eC (.str "abcdefghijklmnopqrstuvwxyz"))) (bh (bC 2 (aF dY (ah 1) (aF d7 (ah 0) (eC (.int 26))))) (bh (gC mX (gN 3) (ai (aF d7 (aF iC (ah 0) (eC (.int 26))) (eC (.int 8))) (aq)) gG) (lM)))
noncomputable def dM (ds : List D) : M D := fy (fun ds => cT 6 iE ds) ds
noncomputable abbrev qP : List Str := ["_law_cells_here", "_law_pool", "_law_kinds", "_law_parts", "_law_k", "_law_cell", "_law_above"]
noncomputable abbrev vU : Nat := 1
noncomputable def iy : MS := bh (bC 5 (aF dY (ah 0) (ah 4))) (bh (bC 6 (aF d7 (aF iC (ah 5) (eC (.int 8))) (ah 4))) (bh (oh (kJ (aF (kI false) (aF d7 (ah 5) (eC (.int 4))) (eC (.int 1)))) (bC 6 (aF K4 (ah 4) (eC (.int 1)))) (cP)) (bh (oh (kJ (aF (kI false) (aF d7 (ah 5) (eC (.int 4))) (eC (.int 2)))) (bC 6 (eC (.int 0))) (cP)) (bh (fX (bq "list" bX (ah 2) (ai (aF dY (ah 1) (aF d7 (aF iC (ah 5) (eC (.int 5))) (aC gj (ai (ah 1) (aq))))) (aq)))) (bh (fX (bq "list" bX (ah 3) (ai (aC bM (aq)) (aq)))) (fX (bq "list" bX (aF dY (ah 3) (ah 6)) (ai (ah 4) (aq)))))))))
noncomputable def lN : MS := bh (bC 2 (aC bM (ai (aF dY (ah 1) (aF d7 (aF dY (ah 0) (eC (.int 0))) (aC gj (ai (ah 1) (aq))))) (aq)))) (bh (bC 3 (aC bM (ai (aC bM (aq)) (aq)))) (bh (gC zO (gN 4) (ai (eC (.int 1)) (ai (aC gj (ai (ah 0) (aq))) (aq))) iy) (gi (aC oH (ai (IG (ah 2)) (ai (ah 3) (aq)))))))
noncomputable def fK (ds : List D) : M D := cT 7 lN ds
noncomputable abbrev lO : List Str := ["_law_script", "_law_least", "_law_cells_here", "_law_many", "_law_number", "_law_k"]
noncomputable abbrev vV : Nat := 1
noncomputable def iz : MS := bh (bC 4 (aF d7 (aF dJ (aF dJ (aF Dv (ah 4) (eC (.int 48271))) (eC (.int 7919))) (ah 5)) (eC (.int 2147483647)))) (fX (bq "list" bX (ah 2) (ai (ah 4) (aq))))
noncomputable def oZ : MS := bh (bC 3 (ah 1)) (bh (oh (xh (kJ (aF xg (aC gj (ai (ah 0) (aq))) (eC (.int 1)))) (kJ (aF (kI false) (aF d7 (aF dY (ah 0) (eC (.int 1))) (eC (.int 4))) (eC (.int 1))))) (bC 3 (aC (lF fun i j => if j > i then j else i) (ai (ah 1) (ai (aF d7 (aF iC (aF dY (ah 0) (eC (.int 1))) (eC (.int 4))) (eC (.int 38))) (aq))))) (cP)) (bh (bC 4 (eC (.int 12345))) (bh (oh (kJ (aF xg (aC gj (ai (ah 0) (aq))) (eC (.int 0)))) (bC 4 (aF d7 (aF dY (ah 0) (eC (.int 0))) (eC (.int 1000003)))) (cP)) (bh (gC mX (gN 5) (ai (ah 3) (aq)) iz) (gi (IG (ah 2)))))))
noncomputable def eU : MS := bh (bC 2 (gD oN [] (eFn (Jt (ah 0) (nc (eC (.int 2))) (nc (eC (.int 64))))) (iN) (aF d7 (ah 0) (aF ER (eC (.int 10)) (eC (.int 18)))))) (oZ)
noncomputable def fL (ds : List D) : M D := fy (fun ds => cT 6 eU ds) ds
noncomputable abbrev kr : List Str := ["_law_kinds", "_law_parts", "_law_trees", "_law_k"]
noncomputable abbrev vc : Nat := 1
noncomputable def fC : MS := pJ (aC oH (ai (aF dY (ah 0) (ah 3)) (ai (aC ny (ai (eFn (gD oN [false, false, true] (aF dY (ah 1) (ah 3)) (iN) (aF dY (ah 3) (ah 0)))) (aq))) (aq)))) (ah 2) (ah 3)
noncomputable def kB : MS := bh (bC 2 (aF qM (aC bM (ai (eC .eY) (aq))) (aC gj (ai (ah 0) (aq))))) (bh (uR (gN 3) (Av (ai (aC gj (ai (ah 0) (aq))) (aq))) fC) (gi (aF dY (ah 2) (eC (.int 0)))))
noncomputable def e8 (ds : List D) : M D := cT 4 kB ds
noncomputable abbrev lP : List Str := ["_law_kinds", "_law_parts", "_law_texts_here", "_law_k"]
noncomputable abbrev vW : Nat := 1
noncomputable def gb : MS := pJ (aF dJ (aF dJ (eC (.str "(")) (bq "str" nv (eC (.str " ")) (ai (eFn (aF dJ (eFn (aC bM (ai (aF dY (ah 0) (ah 3)) (aq)))) (eFn (gD oN [false, false, true] (aF dY (ah 1) (ah 3)) (iN) (aF dY (ah 3) (ah 0)))))) (aq)))) (eC (.str ")"))) (ah 2) (ah 3)
noncomputable def lQ : MS := bh (bC 2 (aF qM (aC bM (ai (eC (.str "")) (aq))) (aC gj (ai (ah 0) (aq))))) (bh (uR (gN 3) (Av (ai (aC gj (ai (ah 0) (aq))) (aq))) gb) (gi (aF dY (ah 2) (eC (.int 0)))))
noncomputable def fM (ds : List D) : M D := cT 4 lQ ds
noncomputable abbrev sZ : List Str := ["tree", "parts"]
noncomputable def jW : MS := gi (bZ 1 jh (ai (eFn (aF dJ (eFn (aC bM (ai (aF dY (ah 0) (eC (.int 0))) (aq)))) (ah 1))) (aq)))
noncomputable def fD (ds : List D) : M D := fy (fun ds => cT 2 jW ds) ds
noncomputable abbrev nD : List Str := ["parts", "sort"]
noncomputable abbrev yE : Nat := 2
noncomputable def jX : MS := gi (aC ny (ai (eFn (gD oN [false, true] (ah 0) (iN) (bZ 2 fB (ai (ah 0) (ai (ah 2) (aq)))))) (aq)))
noncomputable def iF (ds : List D) : M D := fy (fun ds => cT 2 jX ds) ds
noncomputable abbrev xH : List Str := ["part"]
noncomputable abbrev BP : Nat := 2
noncomputable def oB : MS := bh (oh (m9 tU (bZ 1 kT (ai (ah 0) (aq)))) (gi (ah 0)) (cP)) (ki "NoText" (ai (eC (.str "a name must stand here")) (aq)))
noncomputable def kU (ds : List D) : M D := fy (fun ds => cT 1 oB ds) ds
noncomputable abbrev tu : List Str := ["parts"]
noncomputable def jY : MS := bh (oh (kJ (aF (kI false) (aC gj (ai (ah 0) (aq))) (eC (.int 0)))) (ki "NoText" (ai (eC (.str "a tree must have a kind")) (aq))) (cP)) (gi (aC oH (ai (eC (.str "tree")) (ai (aC oH (ai (bZ 1 kU (ai (aF dY (ah 0) (eC (.int 0))) (aq))) (ai (bZ 2 iF (ai (eFn (Jt (ah 0) (nc (eC (.int 1))) (zK))) (ai (eC (.str "tree")) (aq)))) (aq)))) (aq)))))
noncomputable def bU (ds : List D) : M D := fy (fun ds => cT 1 jY ds) ds
noncomputable abbrev qQ : List Str := ["top", "parts_of", "found", "waiting", "one"]
noncomputable abbrev vX : Nat := 4
noncomputable def iA : MS := bh (bC 4 (bq "list" pI (ah 3) aq)) (bh (fX (bq "list" bX (ah 2) (ai (ah 4) (aq)))) (fX (bq "list" Aj (ah 3) (ai (eFn (aC zW (ai (pK 1 1 (fun y => List.lookup y [("tree_parts", bP), ("make_tree", bU)]) (ai (ah 4) (aq))) (aq)))) (aq)))))
noncomputable def iX : MS := bh (bC 2 (aC bM (aq))) (bh (bC 3 (aC bM (ai (ah 0) (aq)))) (bh (gE (kJ (aF xg (aC gj (ai (ah 3) (aq))) (eC (.int 0)))) iA fuel) (gi (IG (ah 2)))))
noncomputable def gH (ds : List D) : M D := fy (fun ds => cT 5 iX ds) ds
noncomputable abbrev nE : List Str := ["text", "make", "unshut", "word", "parts"]
noncomputable abbrev tX : Nat := 4
noncomputable def mQ : MS := bh (bC 4 (bq "list" pI (ah 2) aq)) (bh (oh (kJ (aF (kI false) (aC gj (ai (ah 2) (aq))) (eC (.int 0)))) (ki "NoText" (ai (eC (.str "a bracket is shut that was never begun")) (aq))) (cP)) (fX (bq "list" bX (aF dY (ah 2) (E5 (eC (.int 1)))) (ai (pK 1 1 (fun y => List.lookup y [("tree_parts", bP), ("make_tree", bU)]) (ai (IG (ah 4)) (aq))) (aq)))))
noncomputable def b7 : MS := oh (kJ (aF (kI false) (ah 3) (eC (.str "(")))) (fX (bq "list" bX (ah 2) (ai (aC bM (aq)) (aq)))) (oh (kJ (aF (kI false) (ah 3) (eC (.str ")")))) (mQ) (fX (bq "list" bX (aF dY (ah 2) (E5 (eC (.int 1)))) (ai (ah 3) (aq)))))
noncomputable def mR : MS := bh (oh (kJ (aF xg (aC gj (ai (ah 2) (aq))) (eC (.int 1)))) (ki "NoText" (ai (eC (.str "a bracket is not shut")) (aq))) (cP)) (bh (oh (kJ (aF (kI true) (aC gj (ai (aF dY (ah 2) (eC (.int 0))) (aq))) (eC (.int 1)))) (ki "NoText" (ai (eC (.str "a text must write one thing")) (aq))) (cP)) (gi (aF dY (aF dY (ah 2) (eC (.int 0))) (eC (.int 0)))))
noncomputable def gI : MS := bh (bC 2 (aC bM (ai (aC bM (aq)) (aq)))) (bh (uE (gN 3) (bZ 1 jA (ai (ah 0) (aq))) b7) (mR))
noncomputable def fE (ds : List D) : M D := fy (fun ds => cT 5 gI ds) ds
noncomputable abbrev Az : List Str := ["top", "parts_of", "make", "made", "one", "parts", "number"]
noncomputable abbrev D4 : Nat := 5
noncomputable def oE : MS := fX (bq "list" bX (ah 5) (ai (bq "list" pI (ah 3) aq) (aq)))
noncomputable def gx : MS := bh (bC 5 (aC bM (aq))) (bh (gC mX (gN 6) (ai (aC gj (ai (pK 1 1 (fun y => List.lookup y [("tree_parts", bP), ("make_tree", bU)]) (ai (ah 4) (aq))) (aq))) (aq)) oE) (fX (bq "list" bX (ah 3) (ai (pK 2 2 (fun y => List.lookup y [("tree_text", fD)]) (ai (ah 4) (ai (IG (ah 5)) (aq)))) (aq)))))
noncomputable def qR : MS := bh (bC 3 (aC bM (aq))) (bh (uR (gN 4) (II (ai (bZ 2 gH (ai (ah 0) (ai (ah 1) (aq)))) (aq))) gx) (gi (aF dY (ah 3) (eC (.int 0)))))
noncomputable def nF (ds : List D) : M D := fy (fun ds => cT 7 qR ds) ds
noncomputable abbrev tw : List Str := ["text"]
noncomputable abbrev lR : Nat := 5
noncomputable def jZ : MS := gi (bZ 2 fB (ai (bZ 2 fE (ai (ah 0) (ai (eC (.fn "make_tree")) (aq)))) (ai (eC (.str "tree")) (aq))))
noncomputable def cR (ds : List D) : M D := fy (fun ds => cT 1 jZ ds) ds
noncomputable abbrev tB : List Str := ["tree"]
noncomputable abbrev yF : Nat := 6
noncomputable def j0 : MS := gi (bZ 3 nF (ai (ah 0) (ai (eC (.fn "tree_parts")) (ai (eC (.fn "tree_text")) (aq)))))
noncomputable def fF (ds : List D) : M D := fy (fun ds => cT 1 j0 ds) ds
noncomputable abbrev Gh : List Str := ["_law_script", "_law_draws_here", "_law_pool", "_law_kinds", "_law_parts", "_law_tree", "_law_text", "_law_loose", "_law_tight"]
noncomputable def BQ : MS := bh (fX (bq "list" bX (ah 2) (ai (aF dJ (eFn (Jt (aF dY (ah 2) (eC (.int 0))) (zK) (nc (eC (.int 7))))) (eC (.str "q"))) (aq)))) (bh (Gg (gP 3 4) (bZ 2 fK (ai (bZ 2 fL (ai (ah 0) (ai (eC (.int 1)) (aq)))) (ai (ah 2) (aq))))) (bh (bC 5 (bZ 2 e8 (ai (ah 3) (ai (ah 4) (aq))))) (bh (bC 6 (bZ 2 fM (ai (ah 3) (ai (ah 4) (aq))))) (bh (oh (kJ (aF (kI true) (bZ 1 fF (ai (ah 5) (aq))) (ah 6))) (gi (eC (.bl false))) (cP)) (bh (bC 7 (jz " " [" ", "  ", "\n "] (ah 6) (aF d7 (aF dY (ah 1) (eC (.int 5))) (eC (.int 3))))) (bh (oh (kJ (aF (kI false) (aF d7 (aF iC (aF dY (ah 1) (eC (.int 5))) (eC (.int 3))) (eC (.int 2))) (eC (.int 1)))) (bC 7 (jz "(" ["( ", "\n(", " ( "] (ah 7) (aF d7 (aF dY (ah 1) (eC (.int 6))) (eC (.int 3))))) (cP)) (bh (oh (kJ (aF (kI false) (aF d7 (aF iC (aF dY (ah 1) (eC (.int 5))) (eC (.int 6))) (eC (.int 2))) (eC (.int 1)))) (bC 7 (jz ")" [" )", ")\n", "\n ) "] (ah 7) (aF d7 (aF dY (ah 1) (eC (.int 7))) (eC (.int 3))))) (cP)) (bh (bC 8 (Lz (vQ " (" "(") (ah 6))) (gi (DA (aF (kI false) (bZ 1 cR (ai (ah 6) (aq))) (ah 5)) (DA (aF (kI false) (bZ 1 cR (ai (ah 7) (aq))) (ah 5)) (aF (kI false) (bZ 1 cR (ai (ah 8) (aq))) (ah 5)))))))))))))
noncomputable def CV : MS := bh (bC 1 (bZ 2 fJ (ai (ah 0) (ai (eC (.int 8)) (aq))))) (bh (bC 2 (uL mX oN [false, true] (ai (eC (.int 4)) (aq)) (iN) (bZ 1 dM (ai (aF dY (ah 2) (ah 0)) (aq))))) (BQ))
noncomputable def CW (ds : List D) : M D := fy (fun ds => cT 9 CV ds) ds
structure QY where
  f : Nat → Addr
  d : Nat → FuncData
  c : Nat → Addr
structure Txt (K : PySem.W.Frag) (mg : Str → Option Value) (t : QY) : Prop where
  iY : sQ K "tree_parts" "tree_parts" bg (t.f 0) (t.d 0)
  lS : Binds K (t.d 0) ["tree"] []
  iZ : mg "tree_parts" = some (.ref (t.f 0))
  qS : sQ K "all_within" "all_within" aM (t.f 1) (t.d 1)
  yG : Binds K (t.d 1) ["top", "parts_of"] []
  yH : mg "all_within" = some (.ref (t.f 1))
  AA : sQ K "folded" "folded" bO (t.f 2) (t.d 2)
  Gi : Binds K (t.d 2) ["top", "parts_of", "make"] []
  Gj : mg "folded" = some (.ref (t.f 2))
  tD : sQ K "show_tree" "show_tree" bJ (t.f 3) (t.d 3)
  AB : Binds K (t.d 3) ["tree"] []
  AD : mg "show_tree" = some (.ref (t.f 3))
  xJ : sQ K "bracket" "bracket" eF (t.f 4) (t.d 4)
  D5 : Binds K (t.d 4) ["words"] []
  D6 : mg "bracket" = some (.ref (t.f 4))
  tE : sQ K "tree_text" "tree_text" bS (t.f 5) (t.d 5)
  AE : Binds K (t.d 5) ["tree", "parts"] []
  tF : mg "tree_text" = some (.ref (t.f 5))
  xK : sQ K "is_name" "is_name" bN (t.f 6) (t.d 6)
  D7 : Binds K (t.d 6) ["text"] []
  D8 : mg "is_name" = some (.ref (t.f 6))
  j3 : sQ K "read_tree" "read_tree" bK (t.f 7) (t.d 7)
  nG : Binds K (t.d 7) ["text"] []
  nH : mg "read_tree" = some (.ref (t.f 7))
  vd : sQ K "words_of" "words_of" bG (t.f 8) (t.d 8)
  BR : Binds K (t.d 8) ["text"] []
  BS : mg "words_of" = some (.ref (t.f 8))
  nI : sQ K "read_bracket" "read_bracket" aE (t.f 9) (t.d 9)
  ve : Binds K (t.d 9) ["text", "make"] []
  vf : mg "read_bracket" = some (.ref (t.f 9))
  pP : sQ K "value_of" "value_of" bQ (t.f 10) (t.d 10)
  vg : Binds K (t.d 10) ["part", "sort"] []
  vh : mg "value_of" = some (.ref (t.f 10))
  tG : sQ K "values_of" "values_of" bT (t.f 11) (t.d 11)
  AF : Binds K (t.d 11) ["parts", "sort"] []
  AG : mg "values_of" = some (.ref (t.f 11))
  xM : sQ K "name_of" "name_of" cU (t.f 12) (t.d 12)
  D9 : Binds K (t.d 12) ["part"] []
  Ea : mg "name_of" = some (.ref (t.f 12))
  j4 : sQ K "make_tree" "make_tree" bB (t.f 13) (t.d 13)
  nJ : Binds K (t.d 13) ["parts"] []
  j5 : mg "make_tree" = some (.ref (t.f 13))
  qT : sQ K "_law_draws" "_law_draws" aN (t.f 14) (t.d 14)
  yI : Binds K (t.d 14) ["_law_script", "_law_many"] []
  yJ : mg "_law_draws" = some (.ref (t.f 14))
  tH : sQ K "_law_name" "_law_name" aX (t.f 15) (t.d 15)
  AH : Binds K (t.d 15) ["_law_draw"] []
  AI : mg "_law_name" = some (.ref (t.f 15))
  qU : sQ K "_law_grown" "_law_grown" aI (t.f 16) (t.d 16)
  yK : Binds K (t.d 16) ["_law_cells_here", "_law_pool"] []
  yL : mg "_law_grown" = some (.ref (t.f 16))
  qV : sQ K "_law_cells" "_law_cells" aH (t.f 17) (t.d 17)
  yM : Binds K (t.d 17) ["_law_script", "_law_least"] []
  yN : mg "_law_cells" = some (.ref (t.f 17))
  o4 : sQ K "_law_folded" "_law_folded" aG (t.f 18) (t.d 18)
  vY : Binds K (t.d 18) ["_law_kinds", "_law_parts"] []
  vZ : mg "_law_folded" = some (.ref (t.f 18))
  qW : sQ K "_law_texts" "_law_texts" aO (t.f 19) (t.d 19)
  yO : Binds K (t.d 19) ["_law_kinds", "_law_parts"] []
  yP : mg "_law_texts" = some (.ref (t.f 19))
  NC : sQ K "law" "law" cF (t.f 20) (t.d 20)
  SM : Binds K (t.d 20) ["_law_script"] []
  M_law : mg "law" = some (.ref (t.f 20))
  ND : mg "all" = none
  lT : mg "isinstance" = none
  gy : mg "len" = none
  Gk : mg "list" = none
  JI : mg "max" = none
  j6 : mg "range" = none
  lU : mg "reversed" = none
  JJ : mg "str" = none
  yQ : mg "tuple" = none
  yR : zF K mg "KEPT_WORDS" iU
  Eb : zF K mg "LETTERS" jf
  Ec : zF K mg "LONGEST" ou
  NB : QJ K
  jB : mg "NoText" = some (.ref (t.c 0))
  jC : PySem.W.excIn K (t.c 0) Bq "ValueError.__new__" = true
theorem v5 : DN "KEPT_WORDS" := by decide +kernel
theorem BU : DN "LETTERS" := by decide +kernel
theorem BV : DN "LONGEST" := by decide +kernel
theorem g9 : DN "NoText" := by decide +kernel
theorem v7 : DN "_law_above" := by decide +kernel
theorem BW : DN "_law_at" := by decide +kernel
theorem fO : DN "_law_cell" := by decide +kernel
theorem v8 : DN "_law_cells" := by decide +kernel
theorem cX : DN "_law_cells_here" := by decide +kernel
theorem i0 : DN "_law_draw" := by decide +kernel
theorem wc : DN "_law_draws" := by decide +kernel
theorem b9 : DN "_law_draws_here" := by decide +kernel
theorem vj : DN "_law_folded" := by decide +kernel
theorem o5 : DN "_law_found" := by decide +kernel
theorem we : DN "_law_grown" := by decide +kernel
theorem xN : DN "_law_j" := by decide +kernel
theorem bV : DN "_law_k" := by decide +kernel
theorem bY : DN "_law_kinds" := by decide +kernel
theorem o6 : DN "_law_least" := by decide +kernel
theorem mS : DN "_law_letters" := by decide +kernel
theorem kC : DN "_law_loose" := by decide +kernel
theorem qX : DN "_law_many" := by decide +kernel
theorem yS : DN "_law_name" := by decide +kernel
theorem fh : DN "_law_name_here" := by decide +kernel
theorem nK : DN "_law_number" := by decide +kernel
theorem dS : DN "_law_parts" := by decide +kernel
theorem eV : DN "_law_pool" := by decide +kernel
theorem bu : DN "_law_script" := by decide +kernel
theorem wg : DN "_law_taken" := by decide +kernel
theorem i6 : DN "_law_text" := by decide +kernel
theorem wj : DN "_law_texts" := by decide +kernel
theorem gn : DN "_law_texts_here" := by decide +kernel
theorem wk : DN "_law_tight" := by decide +kernel
theorem i7 : DN "_law_tree" := by decide +kernel
theorem kD : DN "_law_trees" := by decide +kernel
theorem wm : DN "all_within" := by decide +kernel
theorem BX : DN "bracket" := by decide +kernel
theorem Ed : DN "folded" := by decide +kernel
theorem AJ : DN "found" := by decide +kernel
theorem BY : DN "is_name" := by decide +kernel
theorem yT : DN "made" := by decide +kernel
theorem CY : DN "make" := by decide +kernel
theorem yU : DN "make_tree" := by decide +kernel
theorem BZ : DN "name_of" := by decide +kernel
theorem yV : DN "one" := by decide +kernel
theorem oF : DN "part" := by decide +kernel
theorem iG : DN "parts" := by decide +kernel
theorem nL : DN "parts_of" := by decide +kernel
theorem tY : DN "read_bracket" := by decide +kernel
theorem lV : DN "read_tree" := by decide +kernel
theorem yW : DN "show_tree" := by decide +kernel
theorem IX : DN "sign" := by decide +kernel
theorem yX : DN "sort" := by decide +kernel
theorem Ef : DN "spaced" := by decide +kernel
theorem Gm : DN "str" := by decide +kernel
theorem i8 : DN "text" := by decide +kernel
theorem Gn : DN "top" := by decide +kernel
theorem yY : DN "tree" := by decide +kernel
theorem wu : DN "tree_parts" := by decide +kernel
theorem yZ : DN "tree_text" := by decide +kernel
theorem Gq : DN "tuple" := by decide +kernel
theorem gz : DN "unshut" := by decide +kernel
theorem tK : DN "value_of" := by decide +kernel
theorem y9 : DN "values_of" := by decide +kernel
theorem pQ : DN "waiting" := by decide +kernel
theorem qY : DN "word" := by decide +kernel
theorem Gr : DN "words" := by decide +kernel
theorem AK : DN "words_of" := by decide +kernel
theorem Gu : bootBuiltins "str" = some (.type (Ty.nm .str)) := by decide +kernel
theorem Gv : ("str" : Str) ≠ "__name__" := by decide +kernel
theorem Gw : bootBuiltins "tuple" = some (.type (Ty.nm .tup)) := by decide +kernel
theorem Gx : ("tuple" : Str) ≠ "__name__" := by decide +kernel
noncomputable def qZ : Scope := {kind := .function, names := [ (.ofString ".0", .local), (.ofString "sign", .local), (.ofString "LETTERS", .globalImplicit)], isGenerator := false, isCoroutine := false, more := []}
theorem jD : cA (aa bN) sC qZ ["sign"] [] := ⟨by decide +kernel, rfl, by decide +kernel, by decide +kernel, by decide +kernel, by decide +kernel, by decide +kernel⟩
noncomputable def wz : Scope := {kind := .function, names := [(.ofString ".0", .local), (.ofString "word", .local)], isGenerator := false, isCoroutine := false, more := []}
theorem gf : cA (aa bG) pO wz ["word"] [] := ⟨by decide +kernel, rfl, by decide +kernel, by decide +kernel, by decide +kernel, by decide +kernel, by decide +kernel⟩
noncomputable def jE : Scope := {kind := .function, names := [ (.ofString ".0", .local), (.ofString "part", .local), (.ofString "value_of", .globalImplicit), (.ofString "sort", .free)], isGenerator := false, isCoroutine := false, more := []}
theorem fP : cA (aa bT) nD jE ["part"] [false, true] := ⟨by decide +kernel, rfl, by decide +kernel, by decide +kernel, by decide +kernel, by decide +kernel, by decide +kernel⟩
noncomputable def tZ : Scope := {kind := .function, names := [(.ofString ".0", .local), (.ofString "_law_cell", .local)], isGenerator := false, isCoroutine := false, more := []}
theorem gJ : cA (aa aH) lO tZ ["_law_cell"] [] := ⟨by decide +kernel, rfl, by decide +kernel, by decide +kernel, by decide +kernel, by decide +kernel, by decide +kernel⟩
noncomputable def kW : Scope := {kind := .function, names := [ (.ofString ".0", .local), (.ofString "_law_j", .local), (.ofString "_law_trees", .free)], isGenerator := false, isCoroutine := false, more := []}
theorem eW : cA (aa aG) kr kW ["_law_j"] [false, false, true] := ⟨by decide +kernel, rfl, by decide +kernel, by decide +kernel, by decide +kernel, by decide +kernel, by decide +kernel⟩
noncomputable def mT : Scope := {kind := .function, names := [ (.ofString ".0", .local), (.ofString "_law_j", .local), (.ofString "_law_texts_here", .free)], isGenerator := false, isCoroutine := false, more := []}
theorem fj : cA (aa aO) lP mT ["_law_j"] [false, false, true] := ⟨by decide +kernel, rfl, by decide +kernel, by decide +kernel, by decide +kernel, by decide +kernel, by decide +kernel⟩
noncomputable def vm : Scope := {kind := .function, names := [ (.ofString ".0", .local), (.ofString "_law_k", .local), (.ofString "_law_name", .globalImplicit), (.ofString "_law_draws_here", .free)], isGenerator := false, isCoroutine := false, more := []}
theorem lW : cA (aa cF) Gh vm ["_law_k"] [false, true] := ⟨by decide +kernel, rfl, by decide +kernel, by decide +kernel, by decide +kernel, by decide +kernel, by decide +kernel⟩
theorem bL : LK (aa aH) "_law_cells_here" .local := by decide +kernel
theorem iH : LK (aa aH) "_law_k" .local := by decide +kernel
theorem gc : LK (aa aH) "_law_least" .local := by decide +kernel
theorem eG : LK (aa aH) "_law_many" .local := by decide +kernel
theorem bF : LK (aa aH) "_law_number" .local := by decide +kernel
theorem aY : LK (aa aH) "_law_script" .local := by decide +kernel
theorem j7 : LK (aa aH) "len" .globalImplicit := by decide +kernel
theorem q8 : LK (aa aH) "max" .globalImplicit := by decide +kernel
theorem oJ : LK (aa aH) "range" .globalImplicit := by decide +kernel
theorem eH : LK (aa aN) "_law_cell" .local := by decide +kernel
theorem dU : LK (aa aN) "_law_found" .local := by decide +kernel
theorem fG : LK (aa aN) "_law_k" .local := by decide +kernel
theorem kX : LK (aa aN) "_law_many" .local := by decide +kernel
theorem b8 : LK (aa aN) "_law_script" .local := by decide +kernel
theorem gK : LK (aa aN) "len" .globalImplicit := by decide +kernel
theorem rj : LK (aa aN) "max" .globalImplicit := by decide +kernel
theorem oK : LK (aa aN) "range" .globalImplicit := by decide +kernel
theorem dh : LK (aa aG) "_law_k" .local := by decide +kernel
theorem dz : LK (aa aG) "_law_kinds" .local := by decide +kernel
theorem jL : LK (aa aG) "_law_parts" .local := by decide +kernel
theorem dB : LK (aa aG) "_law_trees" .cell := by decide +kernel
theorem jF : LK (aa aG) "len" .globalImplicit := by decide +kernel
theorem nM : LK (aa aG) "range" .globalImplicit := by decide +kernel
theorem kY : LK (aa aG) "reversed" .globalImplicit := by decide +kernel
theorem nN : LK (aa aG) "tuple" .globalImplicit := by decide +kernel
theorem ck : LK (aa aI) "_law_above" .local := by decide +kernel
theorem bW : LK (aa aI) "_law_cell" .local := by decide +kernel
theorem cC : LK (aa aI) "_law_cells_here" .local := by decide +kernel
theorem cD : LK (aa aI) "_law_k" .local := by decide +kernel
theorem dW : LK (aa aI) "_law_kinds" .local := by decide +kernel
theorem cu : LK (aa aI) "_law_parts" .local := by decide +kernel
theorem cG : LK (aa aI) "_law_pool" .local := by decide +kernel
theorem gM : LK (aa aI) "len" .globalImplicit := by decide +kernel
theorem oM : LK (aa aI) "range" .globalImplicit := by decide +kernel
theorem iI : LK (aa aX) "_law_at" .local := by decide +kernel
theorem cM : LK (aa aX) "_law_draw" .local := by decide +kernel
theorem dZ : LK (aa aX) "_law_k" .local := by decide +kernel
theorem dD : LK (aa aX) "_law_letters" .local := by decide +kernel
theorem aS : LK (aa aX) "_law_name_here" .local := by decide +kernel
theorem gA : LK (aa aX) "_law_taken" .local := by decide +kernel
theorem pR : LK (aa aX) "range" .globalImplicit := by decide +kernel
theorem dN : LK (aa aO) "_law_k" .local := by decide +kernel
theorem dX : LK (aa aO) "_law_kinds" .local := by decide +kernel
theorem kE : LK (aa aO) "_law_parts" .local := by decide +kernel
theorem cE : LK (aa aO) "_law_texts_here" .cell := by decide +kernel
theorem j8 : LK (aa aO) "len" .globalImplicit := by decide +kernel
theorem oO : LK (aa aO) "range" .globalImplicit := by decide +kernel
theorem lX : LK (aa aO) "reversed" .globalImplicit := by decide +kernel
theorem fS : LK (aa aM) "found" .local := by decide +kernel
theorem rm : LK (aa aM) "len" .globalImplicit := by decide +kernel
theorem pS : LK (aa aM) "list" .globalImplicit := by decide +kernel
theorem gQ : LK (aa aM) "one" .local := by decide +kernel
theorem lY : LK (aa aM) "parts_of" .local := by decide +kernel
theorem lZ : LK (aa aM) "reversed" .globalImplicit := by decide +kernel
theorem rq : LK (aa aM) "top" .local := by decide +kernel
theorem di : LK (aa aM) "waiting" .local := by decide +kernel
theorem sD : LK (aa eF) "words" .local := by decide +kernel
theorem ia : LK kW "_law_trees" .free := by decide +kernel
theorem gq : LK mT "_law_texts_here" .free := by decide +kernel
theorem kZ : LK qZ "LETTERS" .globalImplicit := by decide +kernel
theorem i9 : LK vm "_law_draws_here" .free := by decide +kernel
theorem mY : LK vm "_law_name" .globalImplicit := by decide +kernel
theorem mj : LK jE "sort" .free := by decide +kernel
theorem jG : LK jE "value_of" .globalImplicit := by decide +kernel
theorem nO : LK (aa bO) "all_within" .globalImplicit := by decide +kernel
theorem wA : LK (aa bO) "len" .globalImplicit := by decide +kernel
theorem gR : LK (aa bO) "made" .local := by decide +kernel
theorem vn : LK (aa bO) "make" .local := by decide +kernel
theorem sE : LK (aa bO) "number" .local := by decide +kernel
theorem kF : LK (aa bO) "one" .local := by decide +kernel
theorem iO : LK (aa bO) "parts" .local := by decide +kernel
theorem jH : LK (aa bO) "parts_of" .local := by decide +kernel
theorem t6 : LK (aa bO) "range" .globalImplicit := by decide +kernel
theorem pT : LK (aa bO) "reversed" .globalImplicit := by decide +kernel
theorem wB : LK (aa bO) "top" .local := by decide +kernel
theorem mZ : LK (aa bN) "KEPT_WORDS" .globalImplicit := by decide +kernel
theorem pU : LK (aa bN) "LONGEST" .globalImplicit := by decide +kernel
theorem vp : LK (aa bN) "all" .globalImplicit := by decide +kernel
theorem m5 : LK (aa bN) "isinstance" .globalImplicit := by decide +kernel
theorem nP : LK (aa bN) "len" .globalImplicit := by decide +kernel
theorem vq : LK (aa bN) "str" .globalImplicit := by decide +kernel
theorem e7 : LK (aa bN) "text" .local := by decide +kernel
theorem rz : LK (aa cF) "_law_cells" .globalImplicit := by decide +kernel
theorem rA : LK (aa cF) "_law_draws" .globalImplicit := by decide +kernel
theorem bE : LK (aa cF) "_law_draws_here" .cell := by decide +kernel
theorem pV : LK (aa cF) "_law_folded" .globalImplicit := by decide +kernel
theorem rB : LK (aa cF) "_law_grown" .globalImplicit := by decide +kernel
theorem gS : LK (aa cF) "_law_kinds" .local := by decide +kernel
theorem cH : LK (aa cF) "_law_loose" .local := by decide +kernel
theorem gT : LK (aa cF) "_law_parts" .local := by decide +kernel
theorem eL : LK (aa cF) "_law_pool" .local := by decide +kernel
theorem jI : LK (aa cF) "_law_script" .local := by decide +kernel
theorem eN : LK (aa cF) "_law_text" .local := by decide +kernel
theorem rC : LK (aa cF) "_law_texts" .globalImplicit := by decide +kernel
theorem j9 : LK (aa cF) "_law_tight" .local := by decide +kernel
theorem eO : LK (aa cF) "_law_tree" .local := by decide +kernel
theorem za : LK (aa cF) "range" .globalImplicit := by decide +kernel
theorem ic : LK (aa cF) "read_tree" .globalImplicit := by decide +kernel
theorem sF : LK (aa cF) "show_tree" .globalImplicit := by decide +kernel
theorem oQ : LK (aa bB) "NoText" .globalImplicit := by decide +kernel
theorem sG : LK (aa bB) "len" .globalImplicit := by decide +kernel
theorem nQ : LK (aa bB) "name_of" .globalImplicit := by decide +kernel
theorem gr : LK (aa bB) "parts" .local := by decide +kernel
theorem mq : LK (aa bB) "values_of" .globalImplicit := by decide +kernel
theorem rE : LK (aa cU) "NoText" .globalImplicit := by decide +kernel
theorem pW : LK (aa cU) "is_name" .globalImplicit := by decide +kernel
theorem mU : LK (aa cU) "part" .local := by decide +kernel
theorem eX : LK (aa aE) "NoText" .globalImplicit := by decide +kernel
theorem fT : LK (aa aE) "len" .globalImplicit := by decide +kernel
theorem nR : LK (aa aE) "make" .local := by decide +kernel
theorem gY : LK (aa aE) "parts" .local := by decide +kernel
theorem nS : LK (aa aE) "text" .local := by decide +kernel
theorem aJ : LK (aa aE) "unshut" .local := by decide +kernel
theorem dO : LK (aa aE) "word" .local := by decide +kernel
theorem kG : LK (aa aE) "words_of" .globalImplicit := by decide +kernel
theorem mw : LK (aa bK) "make_tree" .globalImplicit := by decide +kernel
theorem jM : LK (aa bK) "read_bracket" .globalImplicit := by decide +kernel
theorem rF : LK (aa bK) "text" .local := by decide +kernel
theorem m6 : LK (aa bK) "value_of" .globalImplicit := by decide +kernel
theorem oR : LK (aa bJ) "folded" .globalImplicit := by decide +kernel
theorem rG : LK (aa bJ) "tree" .local := by decide +kernel
theorem lg : LK (aa bJ) "tree_parts" .globalImplicit := by decide +kernel
theorem mz : LK (aa bJ) "tree_text" .globalImplicit := by decide +kernel
theorem pX : LK (aa bg) "list" .globalImplicit := by decide +kernel
theorem pY : LK (aa bg) "tree" .local := by decide +kernel
theorem nT : LK (aa bS) "bracket" .globalImplicit := by decide +kernel
theorem pZ : LK (aa bS) "parts" .local := by decide +kernel
theorem rH : LK (aa bS) "tree" .local := by decide +kernel
theorem p5 : LK (aa bQ) "NoText" .globalImplicit := by decide +kernel
theorem mC : LK (aa bQ) "isinstance" .globalImplicit := by decide +kernel
theorem ie : LK (aa bQ) "part" .local := by decide +kernel
theorem ly : LK (aa bQ) "sort" .local := by decide +kernel
theorem rJ : LK (aa bQ) "tuple" .globalImplicit := by decide +kernel
theorem p6 : LK (aa bT) "parts" .local := by decide +kernel
theorem p7 : LK (aa bT) "tuple" .globalImplicit := by decide +kernel
theorem p8 : LK (aa bG) "NoText" .globalImplicit := by decide +kernel
theorem mD : LK (aa bG) "isinstance" .globalImplicit := by decide +kernel
theorem jJ : LK (aa bG) "spaced" .local := by decide +kernel
theorem t7 : LK (aa bG) "str" .globalImplicit := by decide +kernel
theorem lA : LK (aa bG) "text" .local := by decide +kernel
section
variable {P : Program} {w : World} {K : PySem.W.Frag} {mg : Str → Option Value} {base : Heap} {t : QY}
theorem o7 : bH qN ["tree"] (aa bg) := ⟨rfl, rfl, rfl, by decide +kernel, rfl, by decide +kernel, by decide +kernel⟩
theorem wC (T : Txt K mg t) : bx P w K mg base (cQ P w) 1 (t.f 0) (t.d 0) ["tree"] (aW K mg 1 bP) := by
 refine bx.imp (sp := aW K mg 1 (fun ds => cT 1 iV ds)) ?_ dg
 refine xq (k := 0) (ms := iV) T.iY o7 (by decide) (by decide) (fun _ => rfl) ?_
 intro X EE cdv A outer s H E hX hr hx qf
 subst hX
 have hu := cg hr
 have nd := o7.nd
 have hfr : d9 (gg (cQ P w) P w K mg base qN "tree_parts" (aa bg) (t.f 0) cdv A outer s H E) := ⟨_, outer, s.heap.objs.size, rfl, rfl, rfl⟩
 refine av ?_
 refine cI ?_
 refine fR ?_
 refine IB ?_ ?_ ?_ ?_
 exact T.Gk
 exact pX
 refine aL ?_ ?_ ?_
 refine aD ?_ ?_ ?_
 refine af 0 ?_ ?_ ?_
 exact (Or.inl pY)
 exact yY
 exact rfl
 exact ao
 decide +kernel
 decide +kernel
 exact aj
 decide +kernel
theorem vt : bH xG ["words"] (aa eF) := ⟨rfl, rfl, rfl, by decide +kernel, rfl, by decide +kernel, by decide +kernel⟩
theorem B0 (T : Txt K mg t) : bx P w K mg base (cQ P w) 1 (t.f 4) (t.d 4) ["words"] (aW K mg 1 jh) := by
 refine bx.imp (sp := aW K mg 1 (fun ds => cT 1 oz ds)) ?_ dg
 refine xq (k := 0) (ms := oz) T.xJ vt (by decide) (by decide) (fun _ => rfl) ?_
 intro X EE cdv A outer s H E hX hr hx qf
 subst hX
 have hu := cg hr
 have nd := vt.nd
 have hfr : d9 (gg (cQ P w) P w K mg base xG "bracket" (aa eF) (t.f 4) cdv A outer s H E) := ⟨_, outer, s.heap.objs.size, rfl, rfl, rfl⟩
 refine av ?_
 refine cI ?_
 refine ff ?_ ?_
 refine ff ?_ ?_
 exact gZ
 refine CA ?_ ?_ ?_ ?_ ?_
 exact gZ
 refine aL ?_ ?_ ?_
 refine af 0 ?_ ?_ ?_
 exact (Or.inl sD)
 exact Gr
 exact rfl
 decide +kernel
 exact aj
 decide +kernel
 decide +kernel
 exact rfl
 exact gZ
theorem vz : bH sC ["text"] (aa bN) := ⟨rfl, rfl, rfl, by decide +kernel, rfl, by decide +kernel, by decide +kernel⟩
theorem B3 (T : Txt K mg t) : bx P w K mg base (cQ P w) 1 (t.f 6) (t.d 6) ["text"] (aW K mg 1 kT) := by
 refine bx.imp (sp := aW K mg 1 (fun ds => cT 1 oA ds)) ?_ dg
 refine xq (k := 0) (ms := oA) T.xK vz (by decide) (by decide) (fun _ => rfl) ?_
 intro X EE cdv A outer s H E hX hr hx qf
 subst hX
 have hu := cg hr
 have nd := vz.nd
 have hfr : d9 (gg (cQ P w) P w K mg base sC "is_name" (aa bN) (t.f 6) cdv A outer s H E) := ⟨_, outer, s.heap.objs.size, rfl, rfl, rfl⟩
 refine ak ?_ ?_
 refine gw ?_ ?_ ?_
 refine Ie ?_
 refine Ju ?_ ?_
 refine E3 ?_
 refine ym ?_ ?_
 refine Bu .str ?_ ?_ ?_ ?_ ?_ ?_ ?_ ?_ ?_ ?_
 decide
 exact T.lT
 exact T.JJ
 exact m5
 exact vq
 refine af 0 ?_ ?_ ?_
 exact (Or.inl e7)
 exact i8
 exact rfl
 exact Gu
 exact Gv
 exact Gm.1
 decide +kernel
 decide +kernel
 refine EZ ?_
 refine dw ?_ ?_ ?_ ?_
 exact (Bg hu)
 refine af 0 ?_ ?_ ?_
 exact (Or.inl e7)
 exact i8
 exact rfl
 refine yl ?_ ?_ ?_
 exact T.yR
 exact mZ
 exact v5
 decide +kernel
 refine av ?_
 refine cI ?_
 exact EN
 exact cY
 refine ak ?_ ?_
 refine gw ?_ ?_ ?_
 refine Ie ?_
 refine Ju ?_ ?_
 refine dw ?_ ?_ ?_ ?_
 exact (iL hu)
 refine eu ?_ ?_ ?_ ?_
 exact T.gy
 exact nP
 refine aL ?_ ?_ ?_
 refine af 0 ?_ ?_ ?_
 exact (Or.inl e7)
 exact i8
 exact rfl
 decide +kernel
 exact aj
 decide +kernel
 exact ao
 decide +kernel
 refine EZ ?_
 refine dw ?_ ?_ ?_ ?_
 exact rX
 refine eu ?_ ?_ ?_ ?_
 exact T.gy
 exact nP
 refine aL ?_ ?_ ?_
 refine af 0 ?_ ?_ ?_
 exact (Or.inl e7)
 exact i8
 exact rfl
 decide +kernel
 exact aj
 decide +kernel
 refine yl ?_ ?_ ?_
 exact T.Ec
 exact pU
 exact BV
 decide +kernel
 refine av ?_
 refine cI ?_
 exact EN
 exact cY
 refine av ?_
 refine cI ?_
 refine Lu ?_ ?_ ?_ ?_ ?_
 exact rfl
 exact T.ND
 exact vp
 refine aL ?_ ?_ ?_
 refine fR ?_
 refine qA (xs := ["sign"]) (ow := yg) ?_ ?_ ?_ ?_ ?_ ?_ ?_ ?_ ?_
 exact hx
 exact hfr
 exact jD
 exact jm jD
 exact g7
 exact rfl
 refine af 0 ?_ ?_ ?_
 exact (Or.inl e7)
 exact i8
 exact rfl
 refine jd fun cl C pins s0 H0 fp E1 Mg hx => ?_
 refine Nl ?_ ?_ ?_ ?_
 exact hu
 refine af 0 ?_ ?_ ?_
 exact (nt jD (by simp))
 exact IX
 exact rfl
 refine yl ?_ ?_ ?_
 exact T.Eb
 exact (yo kZ)
 exact BU
 decide +kernel
 decide +kernel
 decide +kernel
 exact aj
 decide +kernel
theorem tL : bH pO ["text"] (aa bG) := ⟨rfl, rfl, rfl, by decide +kernel, rfl, by decide +kernel, by decide +kernel⟩
theorem AL (T : Txt K mg t) : bx P w K mg base (cQ P w) 1 (t.f 8) (t.d 8) ["text"] (aW K mg 1 jA) := by
 refine bx.imp (sp := aW K mg 1 (fun ds => cT 2 lJ ds)) ?_ dg
 refine xq (k := 0) (ms := lJ) T.vd tL (by decide) (by decide) (fun _ => rfl) ?_
 intro X EE cdv A outer s H E hX hr hx qf
 subst hX
 have hu := cg hr
 have nd := tL.nd
 have hfr : d9 (gg (cQ P w) P w K mg base pO "words_of" (aa bG) (t.f 8) cdv A outer s H E) := ⟨_, outer, s.heap.objs.size, rfl, rfl, rfl⟩
 refine ak ?_ ?_
 refine gw ?_ ?_ ?_
 refine E3 ?_
 refine ym ?_ ?_
 refine Bu .str ?_ ?_ ?_ ?_ ?_ ?_ ?_ ?_ ?_ ?_
 decide
 exact T.lT
 exact T.JJ
 exact mD
 exact t7
 refine af 0 ?_ ?_ ?_
 exact (Or.inl lA)
 exact i8
 exact rfl
 exact Gu
 exact Gv
 exact Gm.1
 decide +kernel
 decide +kernel
 refine av ?_
 refine jn (C := (t.c 0)) ?_ ?_ ?_ ?_ ?_ ?_ ?_ ?_
 exact rfl
 exact hx
 exact T.jB
 exact T.jC
 exact p8
 exact g9
 refine jo ?_
 exact aj
 decide +kernel
 exact cY
 refine ak ?_ ?_
 refine bA (i := 1) ?_ ?_ ?_ ?_ ?_ ?_
 exact nd
 exact (Or.inl jJ)
 refine yp ?_ ?_ ?_
 refine yp ?_ ?_ ?_
 refine yp ?_ ?_ ?_
 refine af 0 ?_ ?_ ?_
 exact (Or.inl lA)
 exact i8
 exact rfl
 decide +kernel
 exact rfl
 decide +kernel
 exact rfl
 decide +kernel
 exact rfl
 exact Or.inl rfl
 exact rfl
 decide +kernel
 refine av ?_
 refine cI ?_
 refine fR ?_
 refine qA (xs := ["word"]) (ow := yg) ?_ ?_ ?_ ?_ ?_ ?_ ?_ ?_ ?_
 exact hx
 exact hfr
 exact gf
 exact jm gf
 exact g7
 exact rfl
 refine fR ?_
 refine Fv ?_ ?_ ?_ ?_ ?_
 refine af 1 ?_ ?_ ?_
 exact (Or.inl jJ)
 exact Ef
 exact rfl
 refine jo ?_
 exact aj
 decide +kernel
 decide +kernel
 exact rfl
 refine DP fun cl C pins s0 H0 fp E1 Mg hx => ?_
 refine ⟨?_, ?_⟩
 refine dw ?_ ?_ ?_ ?_
 exact (Bf hu)
 refine af 0 ?_ ?_ ?_
 exact (nt gf (by simp))
 exact qY
 exact rfl
 exact gZ
 decide +kernel
 refine af 0 ?_ ?_ ?_
 exact (nt gf (by simp))
 exact qY
 exact rfl
 decide +kernel
theorem tM : bH u9 ["part", "sort"] (aa bQ) := ⟨rfl, rfl, rfl, by decide +kernel, rfl, by decide +kernel, by decide +kernel⟩
theorem AM (T : Txt K mg t) : bx P w K mg base (cQ P w) 1 (t.f 10) (t.d 10) ["part", "sort"] (aW K mg 2 fB) := by
 refine bx.imp (sp := aW K mg 2 (fun ds => cT 2 lK ds)) ?_ dg
 refine xq (k := 0) (ms := lK) T.pP tM (by decide) (by decide) (fun _ => rfl) ?_
 intro X EE cdv A outer s H E hX hr hx qf
 subst hX
 have hu := cg hr
 have nd := tM.nd
 have hfr : d9 (gg (cQ P w) P w K mg base u9 "value_of" (aa bQ) (t.f 10) cdv A outer s H E) := ⟨_, outer, s.heap.objs.size, rfl, rfl, rfl⟩
 refine ak ?_ ?_
 refine gw ?_ ?_ ?_
 refine Ie ?_
 refine E0 ?_ ?_
 refine ym ?_ ?_
 refine Bu .tup ?_ ?_ ?_ ?_ ?_ ?_ ?_ ?_ ?_ ?_
 decide
 exact T.lT
 exact T.yQ
 exact mC
 exact rJ
 refine af 0 ?_ ?_ ?_
 exact (Or.inl ie)
 exact oF
 exact rfl
 exact Gw
 exact Gx
 exact Gq.1
 decide +kernel
 decide +kernel
 refine Cp ?_
 refine dw ?_ ?_ ?_ ?_
 exact (iL hu)
 refine aD ?_ ?_ ?_
 refine af 0 ?_ ?_ ?_
 exact (Or.inl ie)
 exact oF
 exact rfl
 exact ao
 decide +kernel
 refine af 1 ?_ ?_ ?_
 exact (Or.inl ly)
 exact yX
 exact rfl
 decide +kernel
 refine av ?_
 refine cI ?_
 refine aD ?_ ?_ ?_
 refine af 0 ?_ ?_ ?_
 exact (Or.inl ie)
 exact oF
 exact rfl
 exact ao
 decide +kernel
 exact cY
 refine av ?_
 refine jn (C := (t.c 0)) ?_ ?_ ?_ ?_ ?_ ?_ ?_ ?_
 exact rfl
 exact hx
 exact T.jB
 exact T.jC
 exact p5
 exact g9
 refine aL ?_ ?_ ?_
 refine Lx ?_
 refine af 1 ?_ ?_ ?_
 exact (Or.inl ly)
 exact yX
 exact rfl
 decide +kernel
 exact aj
 decide +kernel
theorem o8 : bH qO ["_law_script", "_law_many"] (aa aN) := ⟨rfl, rfl, rfl, by decide +kernel, rfl, by decide +kernel, by decide +kernel⟩
theorem wD (T : Txt K mg t) : bx P w K mg base (cQ P w) 1 (t.f 14) (t.d 14) ["_law_script", "_law_many"] (aW K mg 2 fJ) := by
 refine bx.imp (sp := aW K mg 2 (fun ds => cT 5 iW ds)) ?_ dg
 refine xq (k := 0) (ms := iW) T.qT o8 (by decide) (by decide) (fun _ => rfl) ?_
 intro X EE cdv A outer s H E hX hr hx qf
 subst hX
 have hu := cg hr
 have nd := o8.nd
 have hfr : d9 (gg (cQ P w) P w K mg base qO "_law_draws" (aa aN) (t.f 14) cdv A outer s H E) := ⟨_, outer, s.heap.objs.size, rfl, rfl, rfl⟩
 refine ak ?_ ?_
 refine bA (i := 2) ?_ ?_ ?_ ?_ ?_ ?_
 exact nd
 exact (Or.inl dU)
 refine fm ?_
 exact aj
 exact Or.inl rfl
 exact rfl
 decide +kernel
 refine ak ?_ ?_
 refine qy ?_ ?_ ?_ ?_ ?_ ?_ ?_ ?_
 exact qf
 exact rfl
 exact T.j6
 exact oK
 refine aL ?_ ?_ ?_
 refine af 1 ?_ ?_ ?_
 exact (Or.inl kX)
 exact qX
 exact rfl
 decide +kernel
 exact aj
 refine iT (i := 3) ?_ ?_ ?_ ?_
 exact nd
 exact (Or.inl fG)
 exact Or.inl rfl
 exact rfl
 refine ak ?_ ?_
 refine bA (i := 4) ?_ ?_ ?_ ?_ ?_ ?_
 exact nd
 exact (Or.inl eH)
 exact ao
 exact Or.inl rfl
 exact rfl
 decide +kernel
 refine ak ?_ ?_
 refine gw ?_ ?_ ?_
 refine dw ?_ ?_ ?_ ?_
 exact rX
 refine eu ?_ ?_ ?_ ?_
 exact T.gy
 exact gK
 refine aL ?_ ?_ ?_
 refine af 0 ?_ ?_ ?_
 exact (Or.inl b8)
 exact bu
 exact rfl
 decide +kernel
 exact aj
 decide +kernel
 exact ao
 decide +kernel
 refine av ?_
 refine bA (i := 4) ?_ ?_ ?_ ?_ ?_ ?_
 exact nd
 exact (Or.inl eH)
 refine dR ?_ ?_
 refine aD ?_ ?_ ?_
 refine af 0 ?_ ?_ ?_
 exact (Or.inl b8)
 exact bu
 exact rfl
 refine dR ?_ ?_
 refine af 3 ?_ ?_ ?_
 exact (Or.inl fG)
 exact bV
 exact rfl
 refine eu ?_ ?_ ?_ ?_
 exact T.gy
 exact gK
 refine aL ?_ ?_ ?_
 refine af 0 ?_ ?_ ?_
 exact (Or.inl b8)
 exact bu
 exact rfl
 decide +kernel
 exact aj
 decide +kernel
 decide +kernel
 refine ES ?_ ?_
 exact ao
 exact ao
 exact Or.inl rfl
 exact rfl
 decide +kernel
 exact cY
 refine av ?_
 refine fH ?_ ?_
 refine dG ?_ ?_ ?_ ?_ ?_
 refine af 2 ?_ ?_ ?_
 exact (Or.inl dU)
 exact o5
 exact rfl
 refine aL ?_ ?_ ?_
 refine ff ?_ ?_
 refine af 4 ?_ ?_ ?_
 exact (Or.inl eH)
 exact fO
 exact rfl
 refine uC ?_ ?_
 exact ao
 refine iR ?_ ?_
 refine af 3 ?_ ?_ ?_
 exact (Or.inl fG)
 exact bV
 exact rfl
 refine Cz ?_ ?_ ?_ ?_ ?_
 exact rfl
 exact T.JI
 exact rj
 refine IC ?_
 refine aL ?_ ?_ ?_
 refine eu ?_ ?_ ?_ ?_
 exact T.gy
 exact gK
 refine aL ?_ ?_ ?_
 refine af 0 ?_ ?_ ?_
 exact (Or.inl b8)
 exact bu
 exact rfl
 decide +kernel
 exact aj
 decide +kernel
 decide +kernel
 exact aj
 decide +kernel
 decide +kernel
 exact aj
 decide +kernel
 decide +kernel
 exact rfl
 decide +kernel
 decide +kernel
 refine av ?_
 refine cI ?_
 refine xC ?_
 refine af 2 ?_ ?_ ?_
 exact (Or.inl dU)
 exact o5
 exact rfl
theorem rK : bH sY ["_law_draw"] (aa aX) := ⟨rfl, rfl, rfl, by decide +kernel, rfl, by decide +kernel, by decide +kernel⟩
theorem zb (T : Txt K mg t) : bx P w K mg base (cQ P w) 1 (t.f 15) (t.d 15) ["_law_draw"] (aW K mg 1 dM) := by
 refine bx.imp (sp := aW K mg 1 (fun ds => cT 6 iE ds)) ?_ dg
 refine xq (k := 0) (ms := iE) T.tH rK (by decide) (by decide) (fun _ => rfl) ?_
 intro X EE cdv A outer s H E hX hr hx qf
 subst hX
 have hu := cg hr
 have nd := rK.nd
 have hfr : d9 (gg (cQ P w) P w K mg base sY "_law_name" (aa aX) (t.f 15) cdv A outer s H E) := ⟨_, outer, s.heap.objs.size, rfl, rfl, rfl⟩
 refine ak ?_ ?_
 refine bA (i := 1) ?_ ?_ ?_ ?_ ?_ ?_
 exact nd
 exact (Or.inl dD)
 exact gZ
 exact Or.inl rfl
 exact rfl
 decide +kernel
 refine ak ?_ ?_
 refine bA (i := 2) ?_ ?_ ?_ ?_ ?_ ?_
 exact nd
 exact (Or.inl aS)
 refine aD ?_ ?_ ?_
 refine af 1 ?_ ?_ ?_
 exact (Or.inl dD)
 exact mS
 exact rfl
 refine dR ?_ ?_
 refine af 0 ?_ ?_ ?_
 exact (Or.inl cM)
 exact i0
 exact rfl
 exact ao
 decide +kernel
 exact Or.inl rfl
 exact rfl
 decide +kernel
 refine ak ?_ ?_
 refine qy ?_ ?_ ?_ ?_ ?_ ?_ ?_ ?_
 exact qf
 exact rfl
 exact T.j6
 exact pR
 refine aL ?_ ?_ ?_
 refine dR ?_ ?_
 refine iR ?_ ?_
 refine af 0 ?_ ?_ ?_
 exact (Or.inl cM)
 exact i0
 exact rfl
 exact ao
 exact ao
 decide +kernel
 exact aj
 refine iT (i := 3) ?_ ?_ ?_ ?_
 exact nd
 exact (Or.inl dZ)
 exact Or.inl rfl
 exact rfl
 refine ak ?_ ?_
 refine bA (i := 4) ?_ ?_ ?_ ?_ ?_ ?_
 exact nd
 exact (Or.inl iI)
 refine ff ?_ ?_
 refine ff ?_ ?_
 refine iR ?_ ?_
 refine af 0 ?_ ?_ ?_
 exact (Or.inl cM)
 exact i0
 exact rfl
 exact ao
 refine uC ?_ ?_
 refine uC ?_ ?_
 exact ao
 refine af 3 ?_ ?_ ?_
 exact (Or.inl dZ)
 exact bV
 exact rfl
 refine af 3 ?_ ?_ ?_
 exact (Or.inl dZ)
 exact bV
 exact rfl
 refine uC ?_ ?_
 refine dR ?_ ?_
 refine iR ?_ ?_
 refine af 0 ?_ ?_ ?_
 exact (Or.inl cM)
 exact i0
 exact rfl
 exact ao
 exact ao
 refine af 3 ?_ ?_ ?_
 exact (Or.inl dZ)
 exact bV
 exact rfl
 exact Or.inl rfl
 exact rfl
 decide +kernel
 refine av ?_
 refine bA (i := 2) ?_ ?_ ?_ ?_ ?_ ?_
 exact nd
 exact (Or.inl aS)
 refine ff ?_ ?_
 refine af 2 ?_ ?_ ?_
 exact (Or.inl aS)
 exact fh
 exact rfl
 refine aD ?_ ?_ ?_
 refine af 1 ?_ ?_ ?_
 exact (Or.inl dD)
 exact mS
 exact rfl
 refine dR ?_ ?_
 refine af 4 ?_ ?_ ?_
 exact (Or.inl iI)
 exact BW
 exact rfl
 exact ao
 decide +kernel
 exact Or.inl rfl
 exact rfl
 decide +kernel
 decide +kernel
 refine ak ?_ ?_
 refine bA (i := 5) ?_ ?_ ?_ ?_ ?_ ?_
 exact nd
 exact (Or.inl gA)
 refine fR ?_
 refine fm ?_
 refine jo ?_
 refine jo ?_
 refine jo ?_
 refine jo ?_
 refine jo ?_
 refine jo ?_
 refine jo ?_
 refine jo ?_
 refine jo ?_
 refine jo ?_
 refine jo ?_
 refine jo ?_
 exact aj
 exact Or.inl rfl
 exact rfl
 decide +kernel
 refine ak ?_ ?_
 refine gw ?_ ?_ ?_
 refine dw ?_ ?_ ?_ ?_
 exact (Bg hu)
 refine af 2 ?_ ?_ ?_
 exact (Or.inl aS)
 exact fh
 exact rfl
 refine af 5 ?_ ?_ ?_
 exact (Or.inl gA)
 exact wg
 exact rfl
 decide +kernel
 refine av ?_
 refine cI ?_
 refine ff ?_ ?_
 refine af 2 ?_ ?_ ?_
 exact (Or.inl aS)
 exact fh
 exact rfl
 exact gZ
 exact cY
 refine av ?_
 refine cI ?_
 refine af 2 ?_ ?_ ?_
 exact (Or.inl aS)
 exact fh
 exact rfl
theorem o9 : bH qP ["_law_cells_here", "_law_pool"] (aa aI) := ⟨rfl, rfl, rfl, by decide +kernel, rfl, by decide +kernel, by decide +kernel⟩
theorem wF (T : Txt K mg t) : bx P w K mg base (cQ P w) 1 (t.f 16) (t.d 16) ["_law_cells_here", "_law_pool"] (aW K mg 2 fK) := by
 refine xq (k := 0) (ms := lN) T.qU o9 (by decide) (by decide) (fun _ => rfl) ?_
 intro X EE cdv A outer s H E hX hr hx qf
 subst hX
 have hu := cg hr
 have nd := o9.nd
 have hfr : d9 (gg (cQ P w) P w K mg base qP "_law_grown" (aa aI) (t.f 16) cdv A outer s H E) := ⟨_, outer, s.heap.objs.size, rfl, rfl, rfl⟩
 refine ak ?_ ?_
 refine bA (i := 2) ?_ ?_ ?_ ?_ ?_ ?_
 exact nd
 exact (Or.inl dW)
 refine fm ?_
 refine aL ?_ ?_ ?_
 refine aD ?_ ?_ ?_
 refine af 1 ?_ ?_ ?_
 exact (Or.inl cG)
 exact eV
 exact rfl
 refine dR ?_ ?_
 refine aD ?_ ?_ ?_
 refine af 0 ?_ ?_ ?_
 exact (Or.inl cC)
 exact cX
 exact rfl
 exact ao
 decide +kernel
 refine eu ?_ ?_ ?_ ?_
 exact T.gy
 exact gM
 refine aL ?_ ?_ ?_
 refine af 1 ?_ ?_ ?_
 exact (Or.inl cG)
 exact eV
 exact rfl
 decide +kernel
 exact aj
 decide +kernel
 decide +kernel
 decide +kernel
 exact aj
 exact Or.inl rfl
 exact rfl
 decide +kernel
 refine ak ?_ ?_
 refine bA (i := 3) ?_ ?_ ?_ ?_ ?_ ?_
 exact nd
 exact (Or.inl cu)
 refine fm ?_
 refine aL ?_ ?_ ?_
 refine fm ?_
 exact aj
 decide +kernel
 exact aj
 exact Or.inl rfl
 exact rfl
 decide +kernel
 refine ak ?_ ?_
 refine Fq ?_ ?_ ?_ ?_ ?_ ?_ ?_ ?_ ?_
 exact qf
 exact rfl
 exact T.j6
 exact oM
 refine IC ?_
 refine aL ?_ ?_ ?_
 refine eu ?_ ?_ ?_ ?_
 exact T.gy
 exact gM
 refine aL ?_ ?_ ?_
 refine af 0 ?_ ?_ ?_
 exact (Or.inl cC)
 exact cX
 exact rfl
 decide +kernel
 exact aj
 decide +kernel
 decide +kernel
 exact aj
 refine iT (i := 4) ?_ ?_ ?_ ?_
 exact nd
 exact (Or.inl cD)
 exact Or.inl rfl
 exact rfl
 refine ak ?_ ?_
 refine bA (i := 5) ?_ ?_ ?_ ?_ ?_ ?_
 exact nd
 exact (Or.inl bW)
 refine aD ?_ ?_ ?_
 refine af 0 ?_ ?_ ?_
 exact (Or.inl cC)
 exact cX
 exact rfl
 refine af 4 ?_ ?_ ?_
 exact (Or.inl cD)
 exact bV
 exact rfl
 decide +kernel
 exact Or.inl rfl
 exact rfl
 decide +kernel
 refine ak ?_ ?_
 refine bA (i := 6) ?_ ?_ ?_ ?_ ?_ ?_
 exact nd
 exact (Or.inl ck)
 refine dR ?_ ?_
 refine iR ?_ ?_
 refine af 5 ?_ ?_ ?_
 exact (Or.inl bW)
 exact fO
 exact rfl
 exact ao
 refine af 4 ?_ ?_ ?_
 exact (Or.inl cD)
 exact bV
 exact rfl
 exact Or.inl rfl
 exact rfl
 decide +kernel
 refine ak ?_ ?_
 refine gw ?_ ?_ ?_
 refine dw ?_ ?_ ?_ ?_
 exact (iL hu)
 refine dR ?_ ?_
 refine af 5 ?_ ?_ ?_
 exact (Or.inl bW)
 exact fO
 exact rfl
 exact ao
 exact ao
 decide +kernel
 refine av ?_
 refine bA (i := 6) ?_ ?_ ?_ ?_ ?_ ?_
 exact nd
 exact (Or.inl ck)
 refine K5 ?_ ?_
 refine af 4 ?_ ?_ ?_
 exact (Or.inl cD)
 exact bV
 exact rfl
 exact ao
 exact Or.inl rfl
 exact rfl
 decide +kernel
 exact cY
 refine ak ?_ ?_
 refine gw ?_ ?_ ?_
 refine dw ?_ ?_ ?_ ?_
 exact (iL hu)
 refine dR ?_ ?_
 refine af 5 ?_ ?_ ?_
 exact (Or.inl bW)
 exact fO
 exact rfl
 exact ao
 exact ao
 decide +kernel
 refine av ?_
 refine bA (i := 6) ?_ ?_ ?_ ?_ ?_ ?_
 exact nd
 exact (Or.inl ck)
 exact ao
 exact Or.inl rfl
 exact rfl
 decide +kernel
 exact cY
 refine ak ?_ ?_
 refine fH ?_ ?_
 refine dG ?_ ?_ ?_ ?_ ?_
 refine af 2 ?_ ?_ ?_
 exact (Or.inl dW)
 exact bY
 exact rfl
 refine aL ?_ ?_ ?_
 refine aD ?_ ?_ ?_
 refine af 1 ?_ ?_ ?_
 exact (Or.inl cG)
 exact eV
 exact rfl
 refine dR ?_ ?_
 refine iR ?_ ?_
 refine af 5 ?_ ?_ ?_
 exact (Or.inl bW)
 exact fO
 exact rfl
 exact ao
 refine eu ?_ ?_ ?_ ?_
 exact T.gy
 exact gM
 refine aL ?_ ?_ ?_
 refine af 1 ?_ ?_ ?_
 exact (Or.inl cG)
 exact eV
 exact rfl
 decide +kernel
 exact aj
 decide +kernel
 decide +kernel
 decide +kernel
 exact aj
 decide +kernel
 decide +kernel
 exact rfl
 decide +kernel
 refine ak ?_ ?_
 refine fH ?_ ?_
 refine dG ?_ ?_ ?_ ?_ ?_
 refine af 3 ?_ ?_ ?_
 exact (Or.inl cu)
 exact dS
 exact rfl
 refine aL ?_ ?_ ?_
 refine fm ?_
 exact aj
 decide +kernel
 exact aj
 decide +kernel
 decide +kernel
 exact rfl
 decide +kernel
 refine av ?_
 refine fH ?_ ?_
 refine dG ?_ ?_ ?_ ?_ ?_
 refine aD ?_ ?_ ?_
 refine af 3 ?_ ?_ ?_
 exact (Or.inl cu)
 exact dS
 exact rfl
 refine af 6 ?_ ?_ ?_
 exact (Or.inl ck)
 exact v7
 exact rfl
 decide +kernel
 refine aL ?_ ?_ ?_
 refine af 4 ?_ ?_ ?_
 exact (Or.inl cD)
 exact bV
 exact rfl
 decide +kernel
 exact aj
 decide +kernel
 decide +kernel
 exact rfl
 decide +kernel
 decide +kernel
 decide +kernel
 refine av ?_
 refine cI ?_
 refine yd ?_
 refine aL ?_ ?_ ?_
 refine xC ?_
 refine af 2 ?_ ?_ ?_
 exact (Or.inl dW)
 exact bY
 exact rfl
 decide +kernel
 refine aL ?_ ?_ ?_
 refine af 3 ?_ ?_ ?_
 exact (Or.inl cu)
 exact dS
 exact rfl
 decide +kernel
 exact aj
theorem pe : bH lO ["_law_script", "_law_least"] (aa aH) := ⟨rfl, rfl, rfl, by decide +kernel, rfl, by decide +kernel, by decide +kernel⟩
theorem wG (T : Txt K mg t) : bx P w K mg base (cQ P w) 1 (t.f 17) (t.d 17) ["_law_script", "_law_least"] (aW K mg 2 fL) := by
 refine bx.imp (sp := aW K mg 2 (fun ds => cT 6 eU ds)) ?_ dg
 refine xq (k := 0) (ms := eU) T.qV pe (by decide) (by decide) (fun _ => rfl) ?_
 intro X EE cdv A outer s H E hX hr hx qf
 subst hX
 have hu := cg hr
 have nd := pe.nd
 have hfr : d9 (gg (cQ P w) P w K mg base lO "_law_cells" (aa aH) (t.f 17) cdv A outer s H E) := ⟨_, outer, s.heap.objs.size, rfl, rfl, rfl⟩
 refine ak ?_ ?_
 refine IA (i := 2) (xs := ["_law_cell"]) (ow := yg) ?_ ?_ ?_ ?_ ?_ ?_ ?_ ?_ ?_ ?_ ?_ ?_ ?_
 exact hx
 exact hfr
 exact gJ
 exact jm gJ
 exact g7
 exact rfl
 exact nd
 exact bL
 refine fR ?_
 refine uD ?_ ?_ ?_
 refine af 0 ?_ ?_ ?_
 exact (Or.inl aY)
 exact bu
 exact rfl
 refine uf ?_
 exact ao
 refine uf ?_
 exact ao
 refine jd fun cl C pins s0 H0 fp E1 Mg hx => ?_
 refine dR ?_ ?_
 refine af 0 ?_ ?_ ?_
 exact (nt gJ (by simp))
 exact fO
 exact rfl
 refine ES ?_ ?_
 exact ao
 exact ao
 refine xA ?_ ?_ ?_ ?_
 exact rfl
 exact bL
 exact rfl
 decide +kernel
 exact rfl
 decide +kernel
 refine ak ?_ ?_
 refine bA (i := 3) ?_ ?_ ?_ ?_ ?_ ?_
 exact nd
 exact (Or.inl eG)
 refine af 1 ?_ ?_ ?_
 exact (Or.inl gc)
 exact o6
 exact rfl
 exact Or.inl rfl
 exact rfl
 decide +kernel
 refine ak ?_ ?_
 refine gw ?_ ?_ ?_
 refine Ie ?_
 refine E0 ?_ ?_
 refine dw ?_ ?_ ?_ ?_
 exact rX
 refine eu ?_ ?_ ?_ ?_
 exact T.gy
 exact j7
 refine aL ?_ ?_ ?_
 refine af 0 ?_ ?_ ?_
 exact (Or.inl aY)
 exact bu
 exact rfl
 decide +kernel
 exact aj
 decide +kernel
 exact ao
 decide +kernel
 refine Cp ?_
 refine dw ?_ ?_ ?_ ?_
 exact (iL hu)
 refine dR ?_ ?_
 refine aD ?_ ?_ ?_
 refine af 0 ?_ ?_ ?_
 exact (Or.inl aY)
 exact bu
 exact rfl
 exact ao
 decide +kernel
 exact ao
 exact ao
 decide +kernel
 refine av ?_
 refine bA (i := 3) ?_ ?_ ?_ ?_ ?_ ?_
 exact nd
 exact (Or.inl eG)
 refine Cz ?_ ?_ ?_ ?_ ?_
 exact rfl
 exact T.JI
 exact q8
 refine aL ?_ ?_ ?_
 refine af 1 ?_ ?_ ?_
 exact (Or.inl gc)
 exact o6
 exact rfl
 decide +kernel
 refine aL ?_ ?_ ?_
 refine dR ?_ ?_
 refine iR ?_ ?_
 refine aD ?_ ?_ ?_
 refine af 0 ?_ ?_ ?_
 exact (Or.inl aY)
 exact bu
 exact rfl
 exact ao
 decide +kernel
 exact ao
 exact ao
 decide +kernel
 exact aj
 decide +kernel
 exact Or.inl rfl
 exact rfl
 decide +kernel
 exact cY
 refine ak ?_ ?_
 refine bA (i := 4) ?_ ?_ ?_ ?_ ?_ ?_
 exact nd
 exact (Or.inl bF)
 exact ao
 exact Or.inl rfl
 exact rfl
 decide +kernel
 refine ak ?_ ?_
 refine gw ?_ ?_ ?_
 refine dw ?_ ?_ ?_ ?_
 exact rX
 refine eu ?_ ?_ ?_ ?_
 exact T.gy
 exact j7
 refine aL ?_ ?_ ?_
 refine af 0 ?_ ?_ ?_
 exact (Or.inl aY)
 exact bu
 exact rfl
 decide +kernel
 exact aj
 decide +kernel
 exact ao
 decide +kernel
 refine av ?_
 refine bA (i := 4) ?_ ?_ ?_ ?_ ?_ ?_
 exact nd
 exact (Or.inl bF)
 refine dR ?_ ?_
 refine aD ?_ ?_ ?_
 refine af 0 ?_ ?_ ?_
 exact (Or.inl aY)
 exact bu
 exact rfl
 exact ao
 decide +kernel
 exact ao
 exact Or.inl rfl
 exact rfl
 decide +kernel
 exact cY
 refine ak ?_ ?_
 refine qy ?_ ?_ ?_ ?_ ?_ ?_ ?_ ?_
 exact qf
 exact rfl
 exact T.j6
 exact oJ
 refine aL ?_ ?_ ?_
 refine af 3 ?_ ?_ ?_
 exact (Or.inl eG)
 exact qX
 exact rfl
 decide +kernel
 exact aj
 refine iT (i := 5) ?_ ?_ ?_ ?_
 exact nd
 exact (Or.inl iH)
 exact Or.inl rfl
 exact rfl
 refine ak ?_ ?_
 refine bA (i := 4) ?_ ?_ ?_ ?_ ?_ ?_
 exact nd
 exact (Or.inl bF)
 refine dR ?_ ?_
 refine ff ?_ ?_
 refine ff ?_ ?_
 refine uC ?_ ?_
 refine af 4 ?_ ?_ ?_
 exact (Or.inl bF)
 exact nK
 exact rfl
 exact ao
 exact ao
 refine af 5 ?_ ?_ ?_
 exact (Or.inl iH)
 exact bV
 exact rfl
 exact ao
 exact Or.inl rfl
 exact rfl
 decide +kernel
 refine av ?_
 refine fH ?_ ?_
 refine dG ?_ ?_ ?_ ?_ ?_
 refine af 2 ?_ ?_ ?_
 exact (Or.inl bL)
 exact cX
 exact rfl
 refine aL ?_ ?_ ?_
 refine af 4 ?_ ?_ ?_
 exact (Or.inl bF)
 exact nK
 exact rfl
 decide +kernel
 exact aj
 decide +kernel
 decide +kernel
 exact rfl
 decide +kernel
 decide +kernel
 refine av ?_
 refine cI ?_
 refine xC ?_
 refine af 2 ?_ ?_ ?_
 exact (Or.inl bL)
 exact cX
 exact rfl
theorem nU : bH kr ["_law_kinds", "_law_parts"] (aa aG) := ⟨rfl, rfl, rfl, by decide +kernel, rfl, by decide +kernel, by decide +kernel⟩
theorem vA (T : Txt K mg t) : bx P w K mg base (cQ P w) 1 (t.f 18) (t.d 18) ["_law_kinds", "_law_parts"] (aW K mg 2 e8) := by
 refine xq (k := 0) (ms := kB) T.o4 nU (by decide) (by decide) (fun _ => rfl) ?_
 intro X EE cdv A outer s H E hX hr hx qf
 subst hX
 have hu := cg hr
 have nd := nU.nd
 have hfr : d9 (gg (cQ P w) P w K mg base kr "_law_folded" (aa aG) (t.f 18) cdv A outer s H E) := ⟨_, outer, s.heap.objs.size, rfl, rfl, rfl⟩
 refine ak ?_ ?_
 refine bA (i := 2) ?_ ?_ ?_ ?_ ?_ ?_
 exact nd
 exact (Or.inr dB)
 refine Ge ?_ ?_
 refine fm ?_
 refine aL ?_ ?_ ?_
 exact K3
 decide +kernel
 exact aj
 refine eu ?_ ?_ ?_ ?_
 exact T.gy
 exact jF
 refine aL ?_ ?_ ?_
 refine af 0 ?_ ?_ ?_
 exact (Or.inl dz)
 exact bY
 exact rfl
 decide +kernel
 exact aj
 decide +kernel
 exact Or.inl rfl
 exact rfl
 decide +kernel
 refine ak ?_ ?_
 refine yq ?_ ?_ ?_ ?_ ?_ ?_
 exact qf
 exact rfl
 refine CS ?_ ?_ ?_ ?_ ?_ ?_
 exact T.lU
 exact kY
 exact T.j6
 exact nM
 refine aL ?_ ?_ ?_
 refine eu ?_ ?_ ?_ ?_
 exact T.gy
 exact jF
 refine aL ?_ ?_ ?_
 refine af 0 ?_ ?_ ?_
 exact (Or.inl dz)
 exact bY
 exact rfl
 decide +kernel
 exact aj
 decide +kernel
 decide +kernel
 exact aj
 decide +kernel
 refine iT (i := 3) ?_ ?_ ?_ ?_
 exact nd
 exact (Or.inl dh)
 exact Or.inl rfl
 exact rfl
 refine av ?_
 refine zU ?_ ?_ ?_ ?_ ?_
 refine yd ?_
 refine aL ?_ ?_ ?_
 refine aD ?_ ?_ ?_
 refine af 0 ?_ ?_ ?_
 exact (Or.inl dz)
 exact bY
 exact rfl
 refine af 3 ?_ ?_ ?_
 exact (Or.inl dh)
 exact bV
 exact rfl
 decide +kernel
 decide +kernel
 refine aL ?_ ?_ ?_
 refine zV ?_ ?_ ?_ ?_
 exact T.yQ
 exact nN
 refine aL ?_ ?_ ?_
 refine fR ?_
 refine qA (xs := ["_law_j"]) (ow := yg) ?_ ?_ ?_ ?_ ?_ ?_ ?_ ?_ ?_
 exact hx
 exact hfr
 exact eW
 exact jm eW
 exact g7
 exact rfl
 refine aD ?_ ?_ ?_
 refine af 1 ?_ ?_ ?_
 exact (Or.inl jL)
 exact dS
 exact rfl
 refine af 3 ?_ ?_ ?_
 exact (Or.inl dh)
 exact bV
 exact rfl
 decide +kernel
 refine jd fun cl C pins s0 H0 fp E1 Mg hx => ?_
 refine aD ?_ ?_ ?_
 refine af 3 ?_ ?_ ?_
 exact (uh eW ia)
 exact kD
 exact rfl
 refine af 0 ?_ ?_ ?_
 exact (nt eW (by simp))
 exact xN
 exact rfl
 decide +kernel
 decide +kernel
 decide +kernel
 exact aj
 decide +kernel
 decide +kernel
 exact aj
 refine af 2 ?_ ?_ ?_
 exact (Or.inr (Or.inl dB))
 exact kD
 exact rfl
 refine af 3 ?_ ?_ ?_
 exact (Or.inl dh)
 exact bV
 exact rfl
 decide +kernel
 intro _; rfl
 decide +kernel
 refine av ?_
 refine cI ?_
 refine aD ?_ ?_ ?_
 refine af 2 ?_ ?_ ?_
 exact (Or.inr (Or.inl dB))
 exact kD
 exact rfl
 exact ao
 decide +kernel
theorem pq : bH lP ["_law_kinds", "_law_parts"] (aa aO) := ⟨rfl, rfl, rfl, by decide +kernel, rfl, by decide +kernel, by decide +kernel⟩
theorem wH (T : Txt K mg t) : bx P w K mg base (cQ P w) 1 (t.f 19) (t.d 19) ["_law_kinds", "_law_parts"] (aW K mg 2 fM) := by
 refine xq (k := 0) (ms := lQ) T.qW pq (by decide) (by decide) (fun _ => rfl) ?_
 intro X EE cdv A outer s H E hX hr hx qf
 subst hX
 have hu := cg hr
 have nd := pq.nd
 have hfr : d9 (gg (cQ P w) P w K mg base lP "_law_texts" (aa aO) (t.f 19) cdv A outer s H E) := ⟨_, outer, s.heap.objs.size, rfl, rfl, rfl⟩
 refine ak ?_ ?_
 refine bA (i := 2) ?_ ?_ ?_ ?_ ?_ ?_
 exact nd
 exact (Or.inr cE)
 refine Ge ?_ ?_
 refine fm ?_
 refine jo ?_
 exact aj
 refine eu ?_ ?_ ?_ ?_
 exact T.gy
 exact j8
 refine aL ?_ ?_ ?_
 refine af 0 ?_ ?_ ?_
 exact (Or.inl dX)
 exact bY
 exact rfl
 decide +kernel
 exact aj
 decide +kernel
 exact Or.inl rfl
 exact rfl
 decide +kernel
 refine ak ?_ ?_
 refine yq ?_ ?_ ?_ ?_ ?_ ?_
 exact qf
 exact rfl
 refine CS ?_ ?_ ?_ ?_ ?_ ?_
 exact T.lU
 exact lX
 exact T.j6
 exact oO
 refine aL ?_ ?_ ?_
 refine eu ?_ ?_ ?_ ?_
 exact T.gy
 exact j8
 refine aL ?_ ?_ ?_
 refine af 0 ?_ ?_ ?_
 exact (Or.inl dX)
 exact bY
 exact rfl
 decide +kernel
 exact aj
 decide +kernel
 decide +kernel
 exact aj
 decide +kernel
 refine iT (i := 3) ?_ ?_ ?_ ?_
 exact nd
 exact (Or.inl dN)
 exact Or.inl rfl
 exact rfl
 refine av ?_
 refine zU ?_ ?_ ?_ ?_ ?_
 refine ff ?_ ?_
 refine ff ?_ ?_
 exact gZ
 refine CA ?_ ?_ ?_ ?_ ?_
 exact gZ
 refine aL ?_ ?_ ?_
 refine fR ?_
 refine ff ?_ ?_
 refine fR ?_
 refine fm ?_
 refine aL ?_ ?_ ?_
 refine aD ?_ ?_ ?_
 refine af 0 ?_ ?_ ?_
 exact (Or.inl dX)
 exact bY
 exact rfl
 refine af 3 ?_ ?_ ?_
 exact (Or.inl dN)
 exact bV
 exact rfl
 decide +kernel
 decide +kernel
 exact aj
 refine fR ?_
 refine qA (xs := ["_law_j"]) (ow := yg) ?_ ?_ ?_ ?_ ?_ ?_ ?_ ?_ ?_
 exact hx
 exact hfr
 exact fj
 exact jm fj
 exact g7
 exact rfl
 refine aD ?_ ?_ ?_
 refine af 1 ?_ ?_ ?_
 exact (Or.inl kE)
 exact dS
 exact rfl
 refine af 3 ?_ ?_ ?_
 exact (Or.inl dN)
 exact bV
 exact rfl
 decide +kernel
 refine jd fun cl C pins s0 H0 fp E1 Mg hx => ?_
 refine aD ?_ ?_ ?_
 refine af 3 ?_ ?_ ?_
 exact (uh fj gq)
 exact gn
 exact rfl
 refine af 0 ?_ ?_ ?_
 exact (nt fj (by simp))
 exact xN
 exact rfl
 decide +kernel
 decide +kernel
 decide +kernel
 exact aj
 decide +kernel
 decide +kernel
 exact rfl
 exact gZ
 refine af 2 ?_ ?_ ?_
 exact (Or.inr (Or.inl cE))
 exact gn
 exact rfl
 refine af 3 ?_ ?_ ?_
 exact (Or.inl dN)
 exact bV
 exact rfl
 decide +kernel
 intro _; rfl
 decide +kernel
 refine av ?_
 refine cI ?_
 refine aD ?_ ?_ ?_
 refine af 2 ?_ ?_ ?_
 exact (Or.inr (Or.inl cE))
 exact gn
 exact rfl
 exact ao
 decide +kernel
theorem rL : bH sZ ["tree", "parts"] (aa bS) := ⟨rfl, rfl, rfl, by decide +kernel, rfl, by decide +kernel, by decide +kernel⟩
theorem zc (T : Txt K mg t) (sH : bx P w K mg base (cQ P w) 1 (t.f 4) (t.d 4) ["words"] (aW K mg 1 jh)) : bx P w K mg base (cQ P w) 2 (t.f 5) (t.d 5) ["tree", "parts"] (aW K mg 2 fD) := by
 refine bx.imp (sp := aW K mg 2 (fun ds => cT 2 jW ds)) ?_ dg
 refine xq (k := 1) (ms := jW) T.tE rL (by decide) (by decide) (fun _ => rfl) ?_
 intro X EE cdv A outer s H E hX hr hx qf
 subst hX
 have hu := cg hr
 have nd := rL.nd
 have hfr : d9 (gg (cQ P w) P w K mg base sZ "tree_text" (aa bS) (t.f 5) cdv A outer s H E) := ⟨_, outer, s.heap.objs.size, rfl, rfl, rfl⟩
 refine av ?_
 refine cI ?_
 refine cK (CX := cQ P w) (k := BN) (f := (t.f 4)) (fd := (t.d 4)) (ps := ["words"]) ?_ ?_ ?_ ?_ ?_ ?_ ?_ ?_ ?_ ?_
 exact sH
 exact hr.mono (by decide)
 exact T.D6
 exact T.xJ.kp
 exact T.D5
 exact iS hx
 exact nT
 exact BX
 refine aL ?_ ?_ ?_
 refine fR ?_
 refine ff ?_ ?_
 refine fR ?_
 refine fm ?_
 refine aL ?_ ?_ ?_
 refine aD ?_ ?_ ?_
 refine af 0 ?_ ?_ ?_
 exact (Or.inl rH)
 exact yY
 exact rfl
 exact ao
 decide +kernel
 decide +kernel
 exact aj
 refine af 1 ?_ ?_ ?_
 exact (Or.inl pZ)
 exact iG
 exact rfl
 decide +kernel
 exact aj
 decide +kernel
theorem rM : bH nD ["parts", "sort"] (aa bT) := ⟨rfl, rfl, rfl, by decide +kernel, rfl, by decide +kernel, by decide +kernel⟩
theorem zd (T : Txt K mg t) (ig : bx P w K mg base (cQ P w) 1 (t.f 10) (t.d 10) ["part", "sort"] (aW K mg 2 fB)) : bx P w K mg base (cQ P w) 2 (t.f 11) (t.d 11) ["parts", "sort"] (aW K mg 2 iF) := by
 refine bx.imp (sp := aW K mg 2 (fun ds => cT 2 jX ds)) ?_ dg
 refine xq (k := 1) (ms := jX) T.tG rM (by decide) (by decide) (fun _ => rfl) ?_
 intro X EE cdv A outer s H E hX hr hx qf
 subst hX
 have hu := cg hr
 have nd := rM.nd
 have hfr : d9 (gg (cQ P w) P w K mg base nD "values_of" (aa bT) (t.f 11) cdv A outer s H E) := ⟨_, outer, s.heap.objs.size, rfl, rfl, rfl⟩
 refine av ?_
 refine cI ?_
 refine zV ?_ ?_ ?_ ?_
 exact T.yQ
 exact p7
 refine aL ?_ ?_ ?_
 refine fR ?_
 refine qA (xs := ["part"]) (ow := yg) ?_ ?_ ?_ ?_ ?_ ?_ ?_ ?_ ?_
 exact hx
 exact hfr
 exact fP
 exact jm fP
 exact g7
 exact rfl
 refine af 0 ?_ ?_ ?_
 exact (Or.inl p6)
 exact iG
 exact rfl
 refine jd fun cl C pins s0 H0 fp E1 Mg hx => ?_
 refine cK (CX := cQ P w) (k := sX) (f := (t.f 10)) (fd := (t.d 10)) (ps := ["part", "sort"]) ?_ ?_ ?_ ?_ ?_ ?_ ?_ ?_ ?_ ?_
 exact ig
 exact hr.mono (by decide)
 exact T.vh
 exact T.pP.kp
 exact T.vg
 exact iS hx
 exact (yo jG)
 exact tK
 refine aL ?_ ?_ ?_
 refine af 0 ?_ ?_ ?_
 exact (nt fP (by simp))
 exact oF
 exact rfl
 decide +kernel
 refine aL ?_ ?_ ?_
 refine af 2 ?_ ?_ ?_
 exact (uh fP mj)
 exact yX
 exact rfl
 decide +kernel
 exact aj
 decide +kernel
 decide +kernel
 decide +kernel
 exact aj
 decide +kernel
theorem vB : bH xH ["part"] (aa cU) := ⟨rfl, rfl, rfl, by decide +kernel, rfl, by decide +kernel, by decide +kernel⟩
theorem B4 (T : Txt K mg t) (sI : bx P w K mg base (cQ P w) 1 (t.f 6) (t.d 6) ["text"] (aW K mg 1 kT)) : bx P w K mg base (cQ P w) 2 (t.f 12) (t.d 12) ["part"] (aW K mg 1 kU) := by
 refine bx.imp (sp := aW K mg 1 (fun ds => cT 1 oB ds)) ?_ dg
 refine xq (k := 1) (ms := oB) T.xM vB (by decide) (by decide) (fun _ => rfl) ?_
 intro X EE cdv A outer s H E hX hr hx qf
 subst hX
 have hu := cg hr
 have nd := vB.nd
 have hfr : d9 (gg (cQ P w) P w K mg base xH "name_of" (aa cU) (t.f 12) cdv A outer s H E) := ⟨_, outer, s.heap.objs.size, rfl, rfl, rfl⟩
 refine ak ?_ ?_
 refine gw ?_ ?_ ?_
 refine ym ?_ ?_
 refine cK (CX := cQ P w) (k := BO) (f := (t.f 6)) (fd := (t.d 6)) (ps := ["text"]) ?_ ?_ ?_ ?_ ?_ ?_ ?_ ?_ ?_ ?_
 exact sI
 exact hr.mono (by decide)
 exact T.D8
 exact T.xK.kp
 exact T.D7
 exact iS hx
 exact pW
 exact BY
 refine aL ?_ ?_ ?_
 refine af 0 ?_ ?_ ?_
 exact (Or.inl mU)
 exact oF
 exact rfl
 decide +kernel
 exact aj
 decide +kernel
 decide +kernel
 refine av ?_
 refine cI ?_
 refine af 0 ?_ ?_ ?_
 exact (Or.inl mU)
 exact oF
 exact rfl
 exact cY
 refine av ?_
 refine jn (C := (t.c 0)) ?_ ?_ ?_ ?_ ?_ ?_ ?_ ?_
 exact rfl
 exact hx
 exact T.jB
 exact T.jC
 exact rE
 exact g9
 refine jo ?_
 exact aj
 decide +kernel
theorem rN : bH tu ["parts"] (aa bB) := ⟨rfl, rfl, rfl, by decide +kernel, rfl, by decide +kernel, by decide +kernel⟩
theorem ze (T : Txt K mg t) (nV : bx P w K mg base (cQ P w) 2 (t.f 11) (t.d 11) ["parts", "sort"] (aW K mg 2 iF)) (sJ : bx P w K mg base (cQ P w) 2 (t.f 12) (t.d 12) ["part"] (aW K mg 1 kU)) : bx P w K mg base (cQ P w) 3 (t.f 13) (t.d 13) ["parts"] (aW K mg 1 bU) := by
 refine bx.imp (sp := aW K mg 1 (fun ds => cT 1 jY ds)) ?_ dg
 refine xq (k := 2) (ms := jY) T.j4 rN (by decide) (by decide) (fun _ => rfl) ?_
 intro X EE cdv A outer s H E hX hr hx qf
 subst hX
 have hu := cg hr
 have nd := rN.nd
 have hfr : d9 (gg (cQ P w) P w K mg base tu "make_tree" (aa bB) (t.f 13) cdv A outer s H E) := ⟨_, outer, s.heap.objs.size, rfl, rfl, rfl⟩
 refine ak ?_ ?_
 refine gw ?_ ?_ ?_
 refine dw ?_ ?_ ?_ ?_
 exact (iL hu)
 refine eu ?_ ?_ ?_ ?_
 exact T.gy
 exact sG
 refine aL ?_ ?_ ?_
 refine af 0 ?_ ?_ ?_
 exact (Or.inl gr)
 exact iG
 exact rfl
 decide +kernel
 exact aj
 decide +kernel
 exact ao
 decide +kernel
 refine av ?_
 refine jn (C := (t.c 0)) ?_ ?_ ?_ ?_ ?_ ?_ ?_ ?_
 exact rfl
 exact hx
 exact T.jB
 exact T.jC
 exact oQ
 exact g9
 refine jo ?_
 exact aj
 decide +kernel
 exact cY
 refine av ?_
 refine cI ?_
 refine yd ?_
 refine jo ?_
 refine aL ?_ ?_ ?_
 refine yd ?_
 refine aL ?_ ?_ ?_
 refine cK (CX := cQ P w) (k := BP) (f := (t.f 12)) (fd := (t.d 12)) (ps := ["part"]) ?_ ?_ ?_ ?_ ?_ ?_ ?_ ?_ ?_ ?_
 exact sJ
 exact hr.mono (by decide)
 exact T.Ea
 exact T.xM.kp
 exact T.D9
 exact iS hx
 exact nQ
 exact BZ
 refine aL ?_ ?_ ?_
 refine aD ?_ ?_ ?_
 refine af 0 ?_ ?_ ?_
 exact (Or.inl gr)
 exact iG
 exact rfl
 exact ao
 decide +kernel
 decide +kernel
 exact aj
 decide +kernel
 decide +kernel
 refine aL ?_ ?_ ?_
 refine cK (CX := cQ P w) (k := yE) (f := (t.f 11)) (fd := (t.d 11)) (ps := ["parts", "sort"]) ?_ ?_ ?_ ?_ ?_ ?_ ?_ ?_ ?_ ?_
 exact nV
 exact hr.mono (by decide)
 exact T.AG
 exact T.tG.kp
 exact T.AF
 exact iS hx
 exact mq
 exact y9
 refine aL ?_ ?_ ?_
 refine fR ?_
 refine uD ?_ ?_ ?_
 refine af 0 ?_ ?_ ?_
 exact (Or.inl gr)
 exact iG
 exact rfl
 refine uf ?_
 exact ao
 exact Cn
 decide +kernel
 refine jo ?_
 exact aj
 decide +kernel
 decide +kernel
 exact aj
 decide +kernel
 exact aj
theorem pA : bH qQ ["top", "parts_of"] (aa aM) := ⟨rfl, rfl, rfl, by decide +kernel, rfl, by decide +kernel, by decide +kernel⟩
theorem wI (T : Txt K mg t) (cN : bx P w K mg base (cQ P w) 1 (t.f 0) (t.d 0) ["tree"] (aW K mg 1 bP)) (dP : bx P w K mg base (cQ P w) 3 (t.f 13) (t.d 13) ["parts"] (aW K mg 1 bU)) : bx P w K mg base (cQ P w) 4 (t.f 1) (t.d 1) ["top", "parts_of"] (aW K mg 2 gH) := by
 refine bx.imp (sp := aW K mg 2 (fun ds => cT 5 iX ds)) ?_ dg
 refine xq (k := 3) (ms := iX) T.qS pA (by decide) (by decide) (fun _ => rfl) ?_
 intro X EE cdv A outer s H E hX hr hx qf
 subst hX
 have hu := cg hr
 have nd := pA.nd
 have hfr : d9 (gg (cQ P w) P w K mg base qQ "all_within" (aa aM) (t.f 1) cdv A outer s H E) := ⟨_, outer, s.heap.objs.size, rfl, rfl, rfl⟩
 refine ak ?_ ?_
 refine bA (i := 2) ?_ ?_ ?_ ?_ ?_ ?_
 exact nd
 exact (Or.inl fS)
 refine fm ?_
 exact aj
 exact Or.inl rfl
 exact rfl
 decide +kernel
 refine ak ?_ ?_
 refine bA (i := 3) ?_ ?_ ?_ ?_ ?_ ?_
 exact nd
 exact (Or.inl di)
 refine fm ?_
 refine aL ?_ ?_ ?_
 refine af 0 ?_ ?_ ?_
 exact (Or.inl rq)
 exact Gn
 exact rfl
 decide +kernel
 exact aj
 exact Or.inl rfl
 exact rfl
 decide +kernel
 refine ak ?_ ?_
 refine FA ?_ ?_ ?_
 exact qf
 refine dw ?_ ?_ ?_ ?_
 exact rX
 refine eu ?_ ?_ ?_ ?_
 exact T.gy
 exact rm
 refine aL ?_ ?_ ?_
 refine af 3 ?_ ?_ ?_
 exact (Or.inl di)
 exact pQ
 exact rfl
 decide +kernel
 exact aj
 decide +kernel
 exact ao
 decide +kernel
 refine ak ?_ ?_
 refine bA (i := 4) ?_ ?_ ?_ ?_ ?_ ?_
 exact nd
 exact (Or.inl gQ)
 refine Bv ?_ ?_ ?_
 refine af 3 ?_ ?_ ?_
 exact (Or.inl di)
 exact pQ
 exact rfl
 decide +kernel
 exact rfl
 exact Or.inl rfl
 exact rfl
 decide +kernel
 refine ak ?_ ?_
 refine fH ?_ ?_
 refine dG ?_ ?_ ?_ ?_ ?_
 refine af 2 ?_ ?_ ?_
 exact (Or.inl fS)
 exact AJ
 exact rfl
 refine aL ?_ ?_ ?_
 refine af 4 ?_ ?_ ?_
 exact (Or.inl gQ)
 exact yV
 exact rfl
 decide +kernel
 exact aj
 decide +kernel
 decide +kernel
 exact rfl
 decide +kernel
 refine av ?_
 refine fH ?_ ?_
 refine IP ?_ ?_ ?_ ?_ ?_
 refine af 3 ?_ ?_ ?_
 exact (Or.inl di)
 exact pQ
 exact rfl
 refine aL ?_ ?_ ?_
 refine fR ?_
 refine BA ?_ ?_ ?_ ?_ ?_ ?_ ?_
 exact rfl
 exact T.Gk
 exact pS
 exact T.lU
 exact lZ
 refine aL ?_ ?_ ?_
 refine qB (CX := cQ P w) ?_ ?_ ?_ ?_ ?_ ?_ ?_
 exact rfl
 exact (Or.inl lY)
 exact nL
 exact Fw ⟨⟨_, _, _, _, cN, hr.mono (by decide), T.iZ, T.iY.kp, T.lS⟩, ⟨⟨_, _, _, _, dP, hr.mono (by decide), T.j5, T.j4.kp, T.nJ⟩, trivial⟩⟩
 exact iS hx
 refine aL ?_ ?_ ?_
 refine af 4 ?_ ?_ ?_
 exact (Or.inl gQ)
 exact yV
 exact rfl
 decide +kernel
 exact aj
 decide +kernel
 decide +kernel
 exact aj
 decide +kernel
 decide +kernel
 exact aj
 decide +kernel
 decide +kernel
 exact rfl
 decide +kernel
 refine av ?_
 refine cI ?_
 refine xC ?_
 refine af 2 ?_ ?_ ?_
 exact (Or.inl fS)
 exact AJ
 exact rfl
theorem mV : bH nE ["text", "make"] (aa aE) := ⟨rfl, rfl, rfl, by decide +kernel, rfl, by decide +kernel, by decide +kernel⟩
theorem t8 (T : Txt K mg t) (cN : bx P w K mg base (cQ P w) 1 (t.f 0) (t.d 0) ["tree"] (aW K mg 1 bP)) (p9 : bx P w K mg base (cQ P w) 1 (t.f 8) (t.d 8) ["text"] (aW K mg 1 jA)) (dP : bx P w K mg base (cQ P w) 3 (t.f 13) (t.d 13) ["parts"] (aW K mg 1 bU)) : bx P w K mg base (cQ P w) 4 (t.f 9) (t.d 9) ["text", "make"] (aW K mg 2 fE) := by
 refine bx.imp (sp := aW K mg 2 (fun ds => cT 5 gI ds)) ?_ dg
 refine xq (k := 3) (ms := gI) T.nI mV (by decide) (by decide) (fun _ => rfl) ?_
 intro X EE cdv A outer s H E hX hr hx qf
 subst hX
 have hu := cg hr
 have nd := mV.nd
 have hfr : d9 (gg (cQ P w) P w K mg base nE "read_bracket" (aa aE) (t.f 9) cdv A outer s H E) := ⟨_, outer, s.heap.objs.size, rfl, rfl, rfl⟩
 refine ak ?_ ?_
 refine bA (i := 2) ?_ ?_ ?_ ?_ ?_ ?_
 exact nd
 exact (Or.inl aJ)
 refine fm ?_
 refine aL ?_ ?_ ?_
 refine fm ?_
 exact aj
 decide +kernel
 exact aj
 exact Or.inl rfl
 exact rfl
 decide +kernel
 refine ak ?_ ?_
 refine Lv ?_ ?_ ?_ ?_ ?_ ?_
 exact qf
 exact rfl
 refine cK (CX := cQ P w) (k := Ay) (f := (t.f 8)) (fd := (t.d 8)) (ps := ["text"]) ?_ ?_ ?_ ?_ ?_ ?_ ?_ ?_ ?_ ?_
 exact p9
 exact hr.mono (by decide)
 exact T.BS
 exact T.vd.kp
 exact T.BR
 exact iS hx
 exact kG
 exact AK
 refine aL ?_ ?_ ?_
 refine af 0 ?_ ?_ ?_
 exact (Or.inl nS)
 exact i8
 exact rfl
 decide +kernel
 exact aj
 decide +kernel
 refine iT (i := 3) ?_ ?_ ?_ ?_
 exact nd
 exact (Or.inl dO)
 exact Or.inl rfl
 exact rfl
 refine av ?_
 refine gw ?_ ?_ ?_
 refine dw ?_ ?_ ?_ ?_
 exact (iL hu)
 refine af 3 ?_ ?_ ?_
 exact (Or.inl dO)
 exact qY
 exact rfl
 exact gZ
 decide +kernel
 refine av ?_
 refine fH ?_ ?_
 refine dG ?_ ?_ ?_ ?_ ?_
 refine af 2 ?_ ?_ ?_
 exact (Or.inl aJ)
 exact gz
 exact rfl
 refine aL ?_ ?_ ?_
 refine fm ?_
 exact aj
 decide +kernel
 exact aj
 decide +kernel
 decide +kernel
 exact rfl
 decide +kernel
 refine av ?_
 refine gw ?_ ?_ ?_
 refine dw ?_ ?_ ?_ ?_
 exact (iL hu)
 refine af 3 ?_ ?_ ?_
 exact (Or.inl dO)
 exact qY
 exact rfl
 exact gZ
 decide +kernel
 refine ak ?_ ?_
 refine bA (i := 4) ?_ ?_ ?_ ?_ ?_ ?_
 exact nd
 exact (Or.inl gY)
 refine Bv ?_ ?_ ?_
 refine af 2 ?_ ?_ ?_
 exact (Or.inl aJ)
 exact gz
 exact rfl
 decide +kernel
 exact rfl
 exact Or.inl rfl
 exact rfl
 decide +kernel
 refine ak ?_ ?_
 refine gw ?_ ?_ ?_
 refine dw ?_ ?_ ?_ ?_
 exact (iL hu)
 refine eu ?_ ?_ ?_ ?_
 exact T.gy
 exact fT
 refine aL ?_ ?_ ?_
 refine af 2 ?_ ?_ ?_
 exact (Or.inl aJ)
 exact gz
 exact rfl
 decide +kernel
 exact aj
 decide +kernel
 exact ao
 decide +kernel
 refine av ?_
 refine jn (C := (t.c 0)) ?_ ?_ ?_ ?_ ?_ ?_ ?_ ?_
 exact rfl
 exact hx
 exact T.jB
 exact T.jC
 exact eX
 exact g9
 refine jo ?_
 exact aj
 decide +kernel
 exact cY
 refine av ?_
 refine fH ?_ ?_
 refine dG ?_ ?_ ?_ ?_ ?_
 refine aD ?_ ?_ ?_
 refine af 2 ?_ ?_ ?_
 exact (Or.inl aJ)
 exact gz
 exact rfl
 refine E6 ?_
 exact ao
 decide +kernel
 refine aL ?_ ?_ ?_
 refine qB (CX := cQ P w) ?_ ?_ ?_ ?_ ?_ ?_ ?_
 exact rfl
 exact (Or.inl nR)
 exact CY
 exact Fw ⟨⟨_, _, _, _, cN, hr.mono (by decide), T.iZ, T.iY.kp, T.lS⟩, ⟨⟨_, _, _, _, dP, hr.mono (by decide), T.j5, T.j4.kp, T.nJ⟩, trivial⟩⟩
 exact iS hx
 refine aL ?_ ?_ ?_
 refine xC ?_
 refine af 4 ?_ ?_ ?_
 exact (Or.inl gY)
 exact iG
 exact rfl
 decide +kernel
 exact aj
 decide +kernel
 decide +kernel
 exact aj
 decide +kernel
 decide +kernel
 exact rfl
 decide +kernel
 refine av ?_
 refine fH ?_ ?_
 refine dG ?_ ?_ ?_ ?_ ?_
 refine aD ?_ ?_ ?_
 refine af 2 ?_ ?_ ?_
 exact (Or.inl aJ)
 exact gz
 exact rfl
 refine E6 ?_
 exact ao
 decide +kernel
 refine aL ?_ ?_ ?_
 refine af 3 ?_ ?_ ?_
 exact (Or.inl dO)
 exact qY
 exact rfl
 decide +kernel
 exact aj
 decide +kernel
 decide +kernel
 exact rfl
 decide +kernel
 decide +kernel
 refine ak ?_ ?_
 refine gw ?_ ?_ ?_
 refine dw ?_ ?_ ?_ ?_
 exact rX
 refine eu ?_ ?_ ?_ ?_
 exact T.gy
 exact fT
 refine aL ?_ ?_ ?_
 refine af 2 ?_ ?_ ?_
 exact (Or.inl aJ)
 exact gz
 exact rfl
 decide +kernel
 exact aj
 decide +kernel
 exact ao
 decide +kernel
 refine av ?_
 refine jn (C := (t.c 0)) ?_ ?_ ?_ ?_ ?_ ?_ ?_ ?_
 exact rfl
 exact hx
 exact T.jB
 exact T.jC
 exact eX
 exact g9
 refine jo ?_
 exact aj
 decide +kernel
 exact cY
 refine ak ?_ ?_
 refine gw ?_ ?_ ?_
 refine dw ?_ ?_ ?_ ?_
 exact (Bf hu)
 refine eu ?_ ?_ ?_ ?_
 exact T.gy
 exact fT
 refine aL ?_ ?_ ?_
 refine aD ?_ ?_ ?_
 refine af 2 ?_ ?_ ?_
 exact (Or.inl aJ)
 exact gz
 exact rfl
 exact ao
 decide +kernel
 decide +kernel
 exact aj
 decide +kernel
 exact ao
 decide +kernel
 refine av ?_
 refine jn (C := (t.c 0)) ?_ ?_ ?_ ?_ ?_ ?_ ?_ ?_
 exact rfl
 exact hx
 exact T.jB
 exact T.jC
 exact eX
 exact g9
 refine jo ?_
 exact aj
 decide +kernel
 exact cY
 refine av ?_
 refine cI ?_
 refine aD ?_ ?_ ?_
 refine aD ?_ ?_ ?_
 refine af 2 ?_ ?_ ?_
 exact (Or.inl aJ)
 exact gz
 exact rfl
 exact ao
 decide +kernel
 exact ao
 decide +kernel
theorem xO : bH Az ["top", "parts_of", "make"] (aa bO) := ⟨rfl, rfl, rfl, by decide +kernel, rfl, by decide +kernel, by decide +kernel⟩
theorem Eg (T : Txt K mg t) (cN : bx P w K mg base (cQ P w) 1 (t.f 0) (t.d 0) ["tree"] (aW K mg 1 bP)) (mE : bx P w K mg base (cQ P w) 4 (t.f 1) (t.d 1) ["top", "parts_of"] (aW K mg 2 gH)) (nW : bx P w K mg base (cQ P w) 2 (t.f 5) (t.d 5) ["tree", "parts"] (aW K mg 2 fD)) (dP : bx P w K mg base (cQ P w) 3 (t.f 13) (t.d 13) ["parts"] (aW K mg 1 bU)) : bx P w K mg base (cQ P w) 5 (t.f 2) (t.d 2) ["top", "parts_of", "make"] (aW K mg 3 nF) := by
 refine bx.imp (sp := aW K mg 3 (fun ds => cT 7 qR ds)) ?_ dg
 refine xq (k := 4) (ms := qR) T.AA xO (by decide) (by decide) (fun _ => rfl) ?_
 intro X EE cdv A outer s H E hX hr hx qf
 subst hX
 have hu := cg hr
 have nd := xO.nd
 have hfr : d9 (gg (cQ P w) P w K mg base Az "folded" (aa bO) (t.f 2) cdv A outer s H E) := ⟨_, outer, s.heap.objs.size, rfl, rfl, rfl⟩
 refine ak ?_ ?_
 refine bA (i := 3) ?_ ?_ ?_ ?_ ?_ ?_
 exact nd
 exact (Or.inl gR)
 refine fm ?_
 exact aj
 exact Or.inl rfl
 exact rfl
 decide +kernel
 refine ak ?_ ?_
 refine yq ?_ ?_ ?_ ?_ ?_ ?_
 exact qf
 exact rfl
 refine LD ?_ ?_ ?_ ?_
 exact T.lU
 exact pT
 refine aL ?_ ?_ ?_
 refine cK (CX := cQ P w) (k := vX) (f := (t.f 1)) (fd := (t.d 1)) (ps := ["top", "parts_of"]) ?_ ?_ ?_ ?_ ?_ ?_ ?_ ?_ ?_ ?_
 exact mE
 exact hr.mono (by decide)
 exact T.yH
 exact T.qS.kp
 exact T.yG
 exact iS hx
 exact nO
 exact wm
 refine aL ?_ ?_ ?_
 refine af 0 ?_ ?_ ?_
 exact (Or.inl wB)
 exact Gn
 exact rfl
 decide +kernel
 refine aL ?_ ?_ ?_
 refine af 1 ?_ ?_ ?_
 exact (Or.inl jH)
 exact nL
 exact rfl
 decide +kernel
 exact aj
 decide +kernel
 decide +kernel
 exact aj
 decide +kernel
 refine iT (i := 4) ?_ ?_ ?_ ?_
 exact nd
 exact (Or.inl kF)
 exact Or.inl rfl
 exact rfl
 refine ak ?_ ?_
 refine bA (i := 5) ?_ ?_ ?_ ?_ ?_ ?_
 exact nd
 exact (Or.inl iO)
 refine fm ?_
 exact aj
 exact Or.inl rfl
 exact rfl
 decide +kernel
 refine ak ?_ ?_
 refine qy ?_ ?_ ?_ ?_ ?_ ?_ ?_ ?_
 exact qf
 exact rfl
 exact T.j6
 exact t6
 refine aL ?_ ?_ ?_
 refine eu ?_ ?_ ?_ ?_
 exact T.gy
 exact wA
 refine aL ?_ ?_ ?_
 refine qB (CX := cQ P w) ?_ ?_ ?_ ?_ ?_ ?_ ?_
 exact rfl
 exact (Or.inl jH)
 exact nL
 exact Fw ⟨⟨_, _, _, _, cN, hr.mono (by decide), T.iZ, T.iY.kp, T.lS⟩, ⟨⟨_, _, _, _, dP, hr.mono (by decide), T.j5, T.j4.kp, T.nJ⟩, trivial⟩⟩
 exact iS hx
 refine aL ?_ ?_ ?_
 refine af 4 ?_ ?_ ?_
 exact (Or.inl kF)
 exact yV
 exact rfl
 decide +kernel
 exact aj
 decide +kernel
 decide +kernel
 exact aj
 decide +kernel
 decide +kernel
 exact aj
 refine iT (i := 6) ?_ ?_ ?_ ?_
 exact nd
 exact (Or.inl sE)
 exact Or.inl rfl
 exact rfl
 refine av ?_
 refine fH ?_ ?_
 refine dG ?_ ?_ ?_ ?_ ?_
 refine af 5 ?_ ?_ ?_
 exact (Or.inl iO)
 exact iG
 exact rfl
 refine aL ?_ ?_ ?_
 refine Bv ?_ ?_ ?_
 refine af 3 ?_ ?_ ?_
 exact (Or.inl gR)
 exact yT
 exact rfl
 decide +kernel
 exact rfl
 decide +kernel
 exact aj
 decide +kernel
 decide +kernel
 exact rfl
 decide +kernel
 decide +kernel
 refine av ?_
 refine fH ?_ ?_
 refine dG ?_ ?_ ?_ ?_ ?_
 refine af 3 ?_ ?_ ?_
 exact (Or.inl gR)
 exact yT
 exact rfl
 refine aL ?_ ?_ ?_
 refine qB (CX := cQ P w) ?_ ?_ ?_ ?_ ?_ ?_ ?_
 exact rfl
 exact (Or.inl vn)
 exact CY
 exact Fw ⟨⟨_, _, _, _, nW, hr.mono (by decide), T.tF, T.tE.kp, T.AE⟩, trivial⟩
 exact iS hx
 refine aL ?_ ?_ ?_
 refine af 4 ?_ ?_ ?_
 exact (Or.inl kF)
 exact yV
 exact rfl
 decide +kernel
 refine aL ?_ ?_ ?_
 refine xC ?_
 refine af 5 ?_ ?_ ?_
 exact (Or.inl iO)
 exact iG
 exact rfl
 decide +kernel
 exact aj
 decide +kernel
 decide +kernel
 exact aj
 decide +kernel
 decide +kernel
 exact rfl
 decide +kernel
 decide +kernel
 refine av ?_
 refine cI ?_
 refine aD ?_ ?_ ?_
 refine af 3 ?_ ?_ ?_
 exact (Or.inl gR)
 exact yT
 exact rfl
 exact ao
 decide +kernel
theorem rO : bH tw ["text"] (aa bK) := ⟨rfl, rfl, rfl, by decide +kernel, rfl, by decide +kernel, by decide +kernel⟩
theorem zf (T : Txt K mg t) (jK : bx P w K mg base (cQ P w) 4 (t.f 9) (t.d 9) ["text", "make"] (aW K mg 2 fE)) (ig : bx P w K mg base (cQ P w) 1 (t.f 10) (t.d 10) ["part", "sort"] (aW K mg 2 fB)) : bx P w K mg base (cQ P w) 5 (t.f 7) (t.d 7) ["text"] (aW K mg 1 cR) := by
 refine bx.imp (sp := aW K mg 1 (fun ds => cT 1 jZ ds)) ?_ dg
 refine xq (k := 4) (ms := jZ) T.j3 rO (by decide) (by decide) (fun _ => rfl) ?_
 intro X EE cdv A outer s H E hX hr hx qf
 subst hX
 have hu := cg hr
 have nd := rO.nd
 have hfr : d9 (gg (cQ P w) P w K mg base tw "read_tree" (aa bK) (t.f 7) cdv A outer s H E) := ⟨_, outer, s.heap.objs.size, rfl, rfl, rfl⟩
 refine av ?_
 refine cI ?_
 refine cK (CX := cQ P w) (k := sX) (f := (t.f 10)) (fd := (t.d 10)) (ps := ["part", "sort"]) ?_ ?_ ?_ ?_ ?_ ?_ ?_ ?_ ?_ ?_
 exact ig
 exact hr.mono (by decide)
 exact T.vh
 exact T.pP.kp
 exact T.vg
 exact iS hx
 exact m6
 exact tK
 refine aL ?_ ?_ ?_
 refine cK (CX := cQ P w) (k := tX) (f := (t.f 9)) (fd := (t.d 9)) (ps := ["text", "make"]) ?_ ?_ ?_ ?_ ?_ ?_ ?_ ?_ ?_ ?_
 exact jK
 exact hr.mono (by decide)
 exact T.vf
 exact T.nI.kp
 exact T.ve
 exact iS hx
 exact jM
 exact tY
 refine aL ?_ ?_ ?_
 refine af 0 ?_ ?_ ?_
 exact (Or.inl rF)
 exact i8
 exact rfl
 decide +kernel
 refine aL ?_ ?_ ?_
 refine Fp (f := (t.f 13)) ?_ ?_ ?_
 exact T.j5
 exact mw
 exact yU
 decide +kernel
 exact aj
 decide +kernel
 decide +kernel
 refine jo ?_
 exact aj
 decide +kernel
theorem rP : bH tB ["tree"] (aa bJ) := ⟨rfl, rfl, rfl, by decide +kernel, rfl, by decide +kernel, by decide +kernel⟩
theorem zg (T : Txt K mg t) (vC : bx P w K mg base (cQ P w) 5 (t.f 2) (t.d 2) ["top", "parts_of", "make"] (aW K mg 3 nF)) : bx P w K mg base (cQ P w) 6 (t.f 3) (t.d 3) ["tree"] (aW K mg 1 fF) := by
 refine bx.imp (sp := aW K mg 1 (fun ds => cT 1 j0 ds)) ?_ dg
 refine xq (k := 5) (ms := j0) T.tD rP (by decide) (by decide) (fun _ => rfl) ?_
 intro X EE cdv A outer s H E hX hr hx qf
 subst hX
 have hu := cg hr
 have nd := rP.nd
 have hfr : d9 (gg (cQ P w) P w K mg base tB "show_tree" (aa bJ) (t.f 3) cdv A outer s H E) := ⟨_, outer, s.heap.objs.size, rfl, rfl, rfl⟩
 refine av ?_
 refine cI ?_
 refine cK (CX := cQ P w) (k := D4) (f := (t.f 2)) (fd := (t.d 2)) (ps := ["top", "parts_of", "make"]) ?_ ?_ ?_ ?_ ?_ ?_ ?_ ?_ ?_ ?_
 exact vC
 exact hr.mono (by decide)
 exact T.Gj
 exact T.AA.kp
 exact T.Gi
 exact iS hx
 exact oR
 exact Ed
 refine aL ?_ ?_ ?_
 refine af 0 ?_ ?_ ?_
 exact (Or.inl rG)
 exact yY
 exact rfl
 decide +kernel
 refine aL ?_ ?_ ?_
 refine Fp (f := (t.f 0)) ?_ ?_ ?_
 exact T.iZ
 exact lg
 exact wu
 decide +kernel
 refine aL ?_ ?_ ?_
 refine Fp (f := (t.f 5)) ?_ ?_ ?_
 exact T.tF
 exact mz
 exact yZ
 decide +kernel
 exact aj
 decide +kernel
theorem Gy : bH Gh ["_law_script"] (aa cF) := ⟨rfl, rfl, rfl, by decide +kernel, rfl, by decide +kernel, by decide +kernel⟩
theorem LM (T : Txt K mg t) (nX : bx P w K mg base (cQ P w) 6 (t.f 3) (t.d 3) ["tree"] (aW K mg 1 fF)) (iJ : bx P w K mg base (cQ P w) 5 (t.f 7) (t.d 7) ["text"] (aW K mg 1 cR)) (mF : bx P w K mg base (cQ P w) 1 (t.f 14) (t.d 14) ["_law_script", "_law_many"] (aW K mg 2 fJ)) (nY : bx P w K mg base (cQ P w) 1 (t.f 15) (t.d 15) ["_law_draw"] (aW K mg 1 dM)) (mG : bx P w K mg base (cQ P w) 1 (t.f 16) (t.d 16) ["_law_cells_here", "_law_pool"] (aW K mg 2 fK)) (mH : bx P w K mg base (cQ P w) 1 (t.f 17) (t.d 17) ["_law_script", "_law_least"] (aW K mg 2 fL)) (kH : bx P w K mg base (cQ P w) 1 (t.f 18) (t.d 18) ["_law_kinds", "_law_parts"] (aW K mg 2 e8)) (mJ : bx P w K mg base (cQ P w) 1 (t.f 19) (t.d 19) ["_law_kinds", "_law_parts"] (aW K mg 2 fM)) : oV P w K mg base (cQ P w) 7 (t.f 20) (t.d 20) ["_law_script"] (aW K mg 1 CW) := by
 refine oV.imp (sp := aW K mg 1 (fun ds => cT 9 CV ds)) ?_ dg
 refine QM (k := 6) (ms := CV) T.NC Gy (by decide) (by decide) (fun _ => rfl) ?_
 intro X EE cdv A outer s H E hX hr hx qf
 subst hX
 have hu := cg hr
 have nd := Gy.nd
 have hfr : d9 (gg (cQ P w) P w K mg base Gh "law" (aa cF) (t.f 20) cdv A outer s H E) := ⟨_, outer, s.heap.objs.size, rfl, rfl, rfl⟩
 refine QK (CX := cQ P w) (k := vS) (f := (t.f 14)) (fd := (t.d 14)) (ps := ["_law_script", "_law_many"]) (i := 1) (j := 0) ?_ ?_ ?_ ?_ ?_ ?_ ?_ ?_ ?_ ?_ ?_ ?_ ?_ ?_ ?_ ?_
 exact mF
 exact hr.mono (by decide)
 exact T.yJ
 exact T.qT.kp
 exact T.yI
 exact iS hx
 exact rA
 exact wc
 exact nd
 exact (Or.inr bE)
 exact Or.inl rfl
 exact jI
 exact bu
 refine ak ?_ ?_
 refine DT (i := 2) (xs := ["_law_k"]) (ow := yg) ?_ ?_ ?_ ?_ ?_ ?_ ?_ ?_ ?_ ?_ ?_ ?_ ?_ ?_ ?_
 exact hx
 exact hfr
 exact lW
 exact jm lW
 exact g7
 exact rfl
 exact nd
 exact eL
 exact T.j6
 exact za
 refine IC ?_
 exact aj
 refine jd fun cl C pins s0 H0 fp E1 Mg hx => ?_
 refine cK (CX := cQ P w) (k := yD) (f := (t.f 15)) (fd := (t.d 15)) (ps := ["_law_draw"]) ?_ ?_ ?_ ?_ ?_ ?_ ?_ ?_ ?_ ?_
 exact nY
 exact hr.mono (by decide)
 exact T.AI
 exact T.tH.kp
 exact T.AH
 exact iS hx
 exact (yo mY)
 exact yS
 refine aL ?_ ?_ ?_
 refine aD ?_ ?_ ?_
 refine af 2 ?_ ?_ ?_
 exact (uh lW i9)
 exact b9
 exact rfl
 refine af 0 ?_ ?_ ?_
 exact (nt lW (by simp))
 exact bV
 exact rfl
 decide +kernel
 decide +kernel
 exact aj
 decide +kernel
 refine xA ?_ ?_ ?_ ?_
 exact rfl
 exact eL
 exact rfl
 decide +kernel
 exact rfl
 decide +kernel
 refine ak ?_ ?_
 refine fH ?_ ?_
 refine dG ?_ ?_ ?_ ?_ ?_
 refine af 2 ?_ ?_ ?_
 exact (Or.inl eL)
 exact eV
 exact rfl
 refine aL ?_ ?_ ?_
 refine ff ?_ ?_
 refine fR ?_
 refine uD ?_ ?_ ?_
 refine aD ?_ ?_ ?_
 refine af 2 ?_ ?_ ?_
 exact (Or.inl eL)
 exact eV
 exact rfl
 exact ao
 decide +kernel
 exact Cn
 refine uf ?_
 exact ao
 exact gZ
 decide +kernel
 exact aj
 decide +kernel
 decide +kernel
 exact rfl
 decide +kernel
 refine ak ?_ ?_
 refine LJ ?_ ?_ ?_ ?_ ?_
 refine cK (CX := cQ P w) (k := vU) (f := (t.f 16)) (fd := (t.d 16)) (ps := ["_law_cells_here", "_law_pool"]) ?_ ?_ ?_ ?_ ?_ ?_ ?_ ?_ ?_ ?_
 exact mG
 exact hr.mono (by decide)
 exact T.yL
 exact T.qU.kp
 exact T.yK
 exact iS hx
 exact rB
 exact we
 refine aL ?_ ?_ ?_
 refine cK (CX := cQ P w) (k := vV) (f := (t.f 17)) (fd := (t.d 17)) (ps := ["_law_script", "_law_least"]) ?_ ?_ ?_ ?_ ?_ ?_ ?_ ?_ ?_ ?_
 exact mH
 exact hr.mono (by decide)
 exact T.yN
 exact T.qV.kp
 exact T.yM
 exact iS hx
 exact rz
 exact v8
 refine aL ?_ ?_ ?_
 refine af 0 ?_ ?_ ?_
 exact (Or.inl jI)
 exact bu
 exact rfl
 decide +kernel
 refine IC ?_
 exact aj
 decide +kernel
 decide +kernel
 refine aL ?_ ?_ ?_
 refine af 2 ?_ ?_ ?_
 exact (Or.inl eL)
 exact eV
 exact rfl
 decide +kernel
 exact aj
 decide +kernel
 refine ID (i := 3) (j := 4) ?_ ?_ ?_ ?_ ?_ ?_ ?_ ?_
 exact rfl
 exact nd
 exact (Or.inl gS)
 exact (Or.inl gT)
 exact Or.inl rfl
 exact Or.inl rfl
 exact rfl
 exact rfl
 exact rfl
 exact rfl
 exact rfl
 refine ak ?_ ?_
 refine bA (i := 5) ?_ ?_ ?_ ?_ ?_ ?_
 exact nd
 exact (Or.inl eO)
 refine cK (CX := cQ P w) (k := vc) (f := (t.f 18)) (fd := (t.d 18)) (ps := ["_law_kinds", "_law_parts"]) ?_ ?_ ?_ ?_ ?_ ?_ ?_ ?_ ?_ ?_
 exact kH
 exact hr.mono (by decide)
 exact T.vZ
 exact T.o4.kp
 exact T.vY
 exact iS hx
 exact pV
 exact vj
 refine aL ?_ ?_ ?_
 refine af 3 ?_ ?_ ?_
 exact (Or.inl gS)
 exact bY
 exact rfl
 decide +kernel
 refine aL ?_ ?_ ?_
 refine af 4 ?_ ?_ ?_
 exact (Or.inl gT)
 exact dS
 exact rfl
 decide +kernel
 exact aj
 decide +kernel
 exact Or.inl rfl
 exact rfl
 decide +kernel
 refine ak ?_ ?_
 refine bA (i := 6) ?_ ?_ ?_ ?_ ?_ ?_
 exact nd
 exact (Or.inl eN)
 refine cK (CX := cQ P w) (k := vW) (f := (t.f 19)) (fd := (t.d 19)) (ps := ["_law_kinds", "_law_parts"]) ?_ ?_ ?_ ?_ ?_ ?_ ?_ ?_ ?_ ?_
 exact mJ
 exact hr.mono (by decide)
 exact T.yP
 exact T.qW.kp
 exact T.yO
 exact iS hx
 exact rC
 exact wj
 refine aL ?_ ?_ ?_
 refine af 3 ?_ ?_ ?_
 exact (Or.inl gS)
 exact bY
 exact rfl
 decide +kernel
 refine aL ?_ ?_ ?_
 refine af 4 ?_ ?_ ?_
 exact (Or.inl gT)
 exact dS
 exact rfl
 decide +kernel
 exact aj
 decide +kernel
 exact Or.inl rfl
 exact rfl
 decide +kernel
 refine ak ?_ ?_
 refine gw ?_ ?_ ?_
 refine dw ?_ ?_ ?_ ?_
 exact (Bf hu)
 refine cK (CX := cQ P w) (k := yF) (f := (t.f 3)) (fd := (t.d 3)) (ps := ["tree"]) ?_ ?_ ?_ ?_ ?_ ?_ ?_ ?_ ?_ ?_
 exact nX
 exact hr.mono (by decide)
 exact T.AD
 exact T.tD.kp
 exact T.AB
 exact iS hx
 exact sF
 exact yW
 refine aL ?_ ?_ ?_
 refine af 5 ?_ ?_ ?_
 exact (Or.inl eO)
 exact i7
 exact rfl
 decide +kernel
 exact aj
 decide +kernel
 refine af 6 ?_ ?_ ?_
 exact (Or.inl eN)
 exact i6
 exact rfl
 decide +kernel
 refine av ?_
 refine cI ?_
 exact EN
 exact cY
 refine ak ?_ ?_
 refine bA (i := 7) ?_ ?_ ?_ ?_ ?_ ?_
 exact nd
 exact (Or.inl cH)
 refine u0 (zs := [" ", "  ", "\n "]) ?_ ?_ ?_ ?_ ?_ ?_ ?_ ?_
 exact T.NB
 refine af 6 ?_ ?_ ?_
 exact (Or.inl eN)
 exact i6
 exact rfl
 refine dR ?_ ?_
 refine aD ?_ ?_ ?_
 refine af 1 ?_ ?_ ?_
 exact (Or.inr (Or.inl bE))
 exact b9
 exact rfl
 exact ao
 decide +kernel
 exact ao
 exact rfl
 decide +kernel
 decide +kernel
 decide +kernel
 exact rfl
 exact Or.inl rfl
 exact rfl
 decide +kernel
 refine ak ?_ ?_
 refine gw ?_ ?_ ?_
 refine dw ?_ ?_ ?_ ?_
 exact (iL hu)
 refine dR ?_ ?_
 refine iR ?_ ?_
 refine aD ?_ ?_ ?_
 refine af 1 ?_ ?_ ?_
 exact (Or.inr (Or.inl bE))
 exact b9
 exact rfl
 exact ao
 decide +kernel
 exact ao
 exact ao
 exact ao
 decide +kernel
 refine av ?_
 refine bA (i := 7) ?_ ?_ ?_ ?_ ?_ ?_
 exact nd
 exact (Or.inl cH)
 refine u0 (zs := ["( ", "\n(", " ( "]) ?_ ?_ ?_ ?_ ?_ ?_ ?_ ?_
 exact T.NB
 refine af 7 ?_ ?_ ?_
 exact (Or.inl cH)
 exact kC
 exact rfl
 refine dR ?_ ?_
 refine aD ?_ ?_ ?_
 refine af 1 ?_ ?_ ?_
 exact (Or.inr (Or.inl bE))
 exact b9
 exact rfl
 exact ao
 decide +kernel
 exact ao
 exact rfl
 decide +kernel
 decide +kernel
 decide +kernel
 exact rfl
 exact Or.inl rfl
 exact rfl
 decide +kernel
 exact cY
 refine ak ?_ ?_
 refine gw ?_ ?_ ?_
 refine dw ?_ ?_ ?_ ?_
 exact (iL hu)
 refine dR ?_ ?_
 refine iR ?_ ?_
 refine aD ?_ ?_ ?_
 refine af 1 ?_ ?_ ?_
 exact (Or.inr (Or.inl bE))
 exact b9
 exact rfl
 exact ao
 decide +kernel
 exact ao
 exact ao
 exact ao
 decide +kernel
 refine av ?_
 refine bA (i := 7) ?_ ?_ ?_ ?_ ?_ ?_
 exact nd
 exact (Or.inl cH)
 refine u0 (zs := [" )", ")\n", "\n ) "]) ?_ ?_ ?_ ?_ ?_ ?_ ?_ ?_
 exact T.NB
 refine af 7 ?_ ?_ ?_
 exact (Or.inl cH)
 exact kC
 exact rfl
 refine dR ?_ ?_
 refine aD ?_ ?_ ?_
 refine af 1 ?_ ?_ ?_
 exact (Or.inr (Or.inl bE))
 exact b9
 exact rfl
 exact ao
 decide +kernel
 exact ao
 exact rfl
 decide +kernel
 decide +kernel
 decide +kernel
 exact rfl
 exact Or.inl rfl
 exact rfl
 decide +kernel
 exact cY
 refine ak ?_ ?_
 refine bA (i := 8) ?_ ?_ ?_ ?_ ?_ ?_
 exact nd
 exact (Or.inl j9)
 refine yp ?_ ?_ ?_
 refine af 6 ?_ ?_ ?_
 exact (Or.inl eN)
 exact i6
 exact rfl
 decide +kernel
 exact rfl
 exact Or.inl rfl
 exact rfl
 decide +kernel
 refine av ?_
 refine cI ?_
 refine E4 ?_ ?_
 refine EV ?_ ?_ ?_
 exact hu
 refine cK (CX := cQ P w) (k := lR) (f := (t.f 7)) (fd := (t.d 7)) (ps := ["text"]) ?_ ?_ ?_ ?_ ?_ ?_ ?_ ?_ ?_ ?_
 exact iJ
 exact hr.mono (by decide)
 exact T.nH
 exact T.j3.kp
 exact T.nG
 exact iS hx
 exact ic
 exact lV
 refine aL ?_ ?_ ?_
 refine af 6 ?_ ?_ ?_
 exact (Or.inl eN)
 exact i6
 exact rfl
 decide +kernel
 exact aj
 decide +kernel
 refine af 5 ?_ ?_ ?_
 exact (Or.inl eO)
 exact i7
 exact rfl
 refine E4 ?_ ?_
 refine EV ?_ ?_ ?_
 exact hu
 refine cK (CX := cQ P w) (k := lR) (f := (t.f 7)) (fd := (t.d 7)) (ps := ["text"]) ?_ ?_ ?_ ?_ ?_ ?_ ?_ ?_ ?_ ?_
 exact iJ
 exact hr.mono (by decide)
 exact T.nH
 exact T.j3.kp
 exact T.nG
 exact iS hx
 exact ic
 exact lV
 refine aL ?_ ?_ ?_
 refine af 7 ?_ ?_ ?_
 exact (Or.inl cH)
 exact kC
 exact rfl
 decide +kernel
 exact aj
 decide +kernel
 refine af 5 ?_ ?_ ?_
 exact (Or.inl eO)
 exact i7
 exact rfl
 refine Lb ?_
 refine EV ?_ ?_ ?_
 exact hu
 refine cK (CX := cQ P w) (k := lR) (f := (t.f 7)) (fd := (t.d 7)) (ps := ["text"]) ?_ ?_ ?_ ?_ ?_ ?_ ?_ ?_ ?_ ?_
 exact iJ
 exact hr.mono (by decide)
 exact T.nH
 exact T.j3.kp
 exact T.nG
 exact iS hx
 exact ic
 exact lV
 refine aL ?_ ?_ ?_
 refine af 8 ?_ ?_ ?_
 exact (Or.inl j9)
 exact wk
 exact rfl
 decide +kernel
 exact aj
 decide +kernel
 refine af 5 ?_ ?_ ?_
 exact (Or.inl eO)
 exact i7
 exact rfl
 exact rfl
 exact rfl
end
theorem wJ {p : List Value → Prop} (h : ∀ a0, p [a0]) : ∀ us : List Value, us.length = 1 → p us := fun us e => by
  rcases us with _ | ⟨a0, us⟩
  · cases e
  rcases us with _ | ⟨z, us⟩
  · exact h a0
  · cases e
theorem wK {p : List Value → Prop} (h : ∀ a0 a1, p [a0, a1]) : ∀ us : List Value, us.length = 2 → p us := fun us e => by
  rcases us with _ | ⟨a0, us⟩
  · cases e
  rcases us with _ | ⟨a1, us⟩
  · cases e
  rcases us with _ | ⟨z, us⟩
  · exact h a0 a1
  · cases e
theorem QZ {p : List Value → Prop} (h : ∀ a0 a1 a2, p [a0, a1, a2]) : ∀ us : List Value, us.length = 3 → p us := fun us e => by
  rcases us with _ | ⟨a0, us⟩
  · cases e
  rcases us with _ | ⟨a1, us⟩
  · cases e
  rcases us with _ | ⟨a2, us⟩
  · cases e
  rcases us with _ | ⟨z, us⟩
  · exact h a0 a1 a2
  · cases e
theorem LN {K : PySem.W.Frag} {h : Heap} {mg : Str → Option Value} (X : K.In h) (G : h.Ns mainGlobals mg) {f0 : Addr} {Vl Q0 : Option Addr} {Vm : Array (Option Value)} {Vn Q2 Q3 Q4 O5 Q5 : Value} (a0 : PySem.W.nsIn K mainGlobals "tree_parts" = some (some (.ref f0))) (l0 : K.lookup f0 = some ⟨Vn, Vl, .func (PySem.W.fnOf "tree_parts" "tree_parts" (aA bg) (ay bg) (aa bg) .none Q2 Q3 Q4 Q0 O5 Q5), Vm⟩) (c0 : PySem.W.codeIn K O5 "tree_parts" = true) (k0 : PySem.W.keepIn K (.ref f0) = true) {f1 : Addr} {Vo SN : Option Addr} {Vp : Array (Option Value)} {Vq SO SQ SR Q6 SS : Value} (a1 : PySem.W.nsIn K mainGlobals "all_within" = some (some (.ref f1))) (l1 : K.lookup f1 = some ⟨Vq, Vo, .func (PySem.W.fnOf "all_within" "all_within" (aA aM) (ay aM) (aa aM) .none SO SQ SR SN Q6 SS), Vp⟩) (c1 : PySem.W.codeIn K Q6 "all_within" = true) (k1 : PySem.W.keepIn K (.ref f1) = true) {f2 : Addr} {Vr SV : Option Addr} {sl2 : Array (Option Value)} {Vs SW SX SY Q7 S4 : Value} (a2 : PySem.W.nsIn K mainGlobals "folded" = some (some (.ref f2))) (l2 : K.lookup f2 = some ⟨Vs, Vr, .func (PySem.W.fnOf "folded" "folded" (aA bO) (ay bO) (aa bO) .none SW SX SY SV Q7 S4), sl2⟩) (c2 : PySem.W.codeIn K Q7 "folded" = true) (k2 : PySem.W.keepIn K (.ref f2) = true) {f3 : Addr} {Vt S5 : Option Addr} {Vu : Array (Option Value)} {Vv S6 S7 S8 Q8 S9 : Value} (a3 : PySem.W.nsIn K mainGlobals "show_tree" = some (some (.ref f3))) (l3 : K.lookup f3 = some ⟨Vv, Vt, .func (PySem.W.fnOf "show_tree" "show_tree" (aA bJ) (ay bJ) (aa bJ) .none S6 S7 S8 S5 Q8 S9), Vu⟩) (c3 : PySem.W.codeIn K Q8 "show_tree" = true) (k3 : PySem.W.keepIn K (.ref f3) = true) {f4 : Addr} {Vw Tc : Option Addr} {Vx : Array (Option Value)} {Vy Td Te Tf Q9 Tg : Value} (a4 : PySem.W.nsIn K mainGlobals "bracket" = some (some (.ref f4))) (l4 : K.lookup f4 = some ⟨Vy, Vw, .func (PySem.W.fnOf "bracket" "bracket" (aA eF) (ay eF) (aa eF) .none Td Te Tf Tc Q9 Tg), Vx⟩) (c4 : PySem.W.codeIn K Q9 "bracket" = true) (k4 : PySem.W.keepIn K (.ref f4) = true) {f5 : Addr} {Vz Th : Option Addr} {VA : Array (Option Value)} {VB Ti Tj Tn Ra To : Value} (a5 : PySem.W.nsIn K mainGlobals "tree_text" = some (some (.ref f5))) (l5 : K.lookup f5 = some ⟨VB, Vz, .func (PySem.W.fnOf "tree_text" "tree_text" (aA bS) (ay bS) (aa bS) .none Ti Tj Tn Th Ra To), VA⟩) (c5 : PySem.W.codeIn K Ra "tree_text" = true) (k5 : PySem.W.keepIn K (.ref f5) = true) {f6 : Addr} {VC Tp : Option Addr} {VD : Array (Option Value)} {VE Tq Tt Tu Rb Tv : Value} (a6 : PySem.W.nsIn K mainGlobals "is_name" = some (some (.ref f6))) (l6 : K.lookup f6 = some ⟨VE, VC, .func (PySem.W.fnOf "is_name" "is_name" (aA bN) (ay bN) (aa bN) .none Tq Tt Tu Tp Rb Tv), VD⟩) (c6 : PySem.W.codeIn K Rb "is_name" = true) (k6 : PySem.W.keepIn K (.ref f6) = true) {f7 : Addr} {VF Tw : Option Addr} {VG : Array (Option Value)} {VH Tz TF TH Rc TJ : Value} (a7 : PySem.W.nsIn K mainGlobals "read_tree" = some (some (.ref f7))) (l7 : K.lookup f7 = some ⟨VH, VF, .func (PySem.W.fnOf "read_tree" "read_tree" (aA bK) (ay bK) (aa bK) .none Tz TF TH Tw Rc TJ), VG⟩) (c7 : PySem.W.codeIn K Rc "read_tree" = true) (k7 : PySem.W.keepIn K (.ref f7) = true) {f8 : Addr} {VI TL : Option Addr} {VJ : Array (Option Value)} {VL TM TN TQ Rf TR : Value} (a8 : PySem.W.nsIn K mainGlobals "words_of" = some (some (.ref f8))) (l8 : K.lookup f8 = some ⟨VL, VI, .func (PySem.W.fnOf "words_of" "words_of" (aA bG) (ay bG) (aa bG) .none TM TN TQ TL Rf TR), VJ⟩) (c8 : PySem.W.codeIn K Rf "words_of" = true) (k8 : PySem.W.keepIn K (.ref f8) = true) {f9 : Addr} {VM TU : Option Addr} {VN : Array (Option Value)} {VO TV TX TY Rg TZ : Value} (a9 : PySem.W.nsIn K mainGlobals "read_bracket" = some (some (.ref f9))) (l9 : K.lookup f9 = some ⟨VO, VM, .func (PySem.W.fnOf "read_bracket" "read_bracket" (aA aE) (ay aE) (aa aE) .none TV TX TY TU Rg TZ), VN⟩) (c9 : PySem.W.codeIn K Rg "read_bracket" = true) (k9 : PySem.W.keepIn K (.ref f9) = true) {O6 : Addr} {Rh NF : Option Addr} {Ri : Array (Option Value)} {Rj NG NH NI LO NJ : Value} (VP : PySem.W.nsIn K mainGlobals "value_of" = some (some (.ref O6))) (VQ : K.lookup O6 = some ⟨Rj, Rh, .func (PySem.W.fnOf "value_of" "value_of" (aA bQ) (ay bQ) (aa bQ) .none NG NH NI NF LO NJ), Ri⟩) (VR : PySem.W.codeIn K LO "value_of" = true) (VS : PySem.W.keepIn K (.ref O6) = true) {O7 : Addr} {Rk NK : Option Addr} {Rl : Array (Option Value)} {Rm NL NN NO LP NP : Value} (VT : PySem.W.nsIn K mainGlobals "values_of" = some (some (.ref O7))) (VU : K.lookup O7 = some ⟨Rm, Rk, .func (PySem.W.fnOf "values_of" "values_of" (aA bT) (ay bT) (aa bT) .none NL NN NO NK LP NP), Rl⟩) (VV : PySem.W.codeIn K LP "values_of" = true) (VW : PySem.W.keepIn K (.ref O7) = true) {Iv : Addr} {Rn NQ : Option Addr} {Ro : Array (Option Value)} {Rp NR NS NT LQ NU : Value} (VX : PySem.W.nsIn K mainGlobals "name_of" = some (some (.ref Iv))) (VY : K.lookup Iv = some ⟨Rp, Rn, .func (PySem.W.fnOf "name_of" "name_of" (aA cU) (ay cU) (aa cU) .none NR NS NT NQ LQ NU), Ro⟩) (c12 : PySem.W.codeIn K LQ "name_of" = true) (VZ : PySem.W.keepIn K (.ref Iv) = true) {O8 : Addr} {Rq NV : Option Addr} {Rr : Array (Option Value)} {Rt NW NX NY LR NZ : Value} (V0 : PySem.W.nsIn K mainGlobals "make_tree" = some (some (.ref O8))) (V1 : K.lookup O8 = some ⟨Rt, Rq, .func (PySem.W.fnOf "make_tree" "make_tree" (aA bB) (ay bB) (aa bB) .none NW NX NY NV LR NZ), Rr⟩) (V2 : PySem.W.codeIn K LR "make_tree" = true) (V3 : PySem.W.keepIn K (.ref O8) = true) {O9 : Addr} {Ru N1 : Option Addr} {Rv : Array (Option Value)} {Rw N2 N3 N4 LS N5 : Value} (V4 : PySem.W.nsIn K mainGlobals "_law_draws" = some (some (.ref O9))) (V5 : K.lookup O9 = some ⟨Rw, Ru, .func (PySem.W.fnOf "_law_draws" "_law_draws" (aA aN) (ay aN) (aa aN) .none N2 N3 N4 N1 LS N5), Rv⟩) (V6 : PySem.W.codeIn K LS "_law_draws" = true) (V7 : PySem.W.keepIn K (.ref O9) = true) {Pa : Addr} {Rx N6 : Option Addr} {Ry : Array (Option Value)} {Rz N7 N8 N9 LU Oa : Value} (V8 : PySem.W.nsIn K mainGlobals "_law_name" = some (some (.ref Pa))) (V9 : K.lookup Pa = some ⟨Rz, Rx, .func (PySem.W.fnOf "_law_name" "_law_name" (aA aX) (ay aX) (aa aX) .none N7 N8 N9 N6 LU Oa), Ry⟩) (Wa : PySem.W.codeIn K LU "_law_name" = true) (Wb : PySem.W.keepIn K (.ref Pa) = true) {Pb : Addr} {RA Ob : Option Addr} {RB : Array (Option Value)} {RC Oc Od Oe LV Of : Value} (Wc : PySem.W.nsIn K mainGlobals "_law_grown" = some (some (.ref Pb))) (Wd : K.lookup Pb = some ⟨RC, RA, .func (PySem.W.fnOf "_law_grown" "_law_grown" (aA aI) (ay aI) (aa aI) .none Oc Od Oe Ob LV Of), RB⟩) (We : PySem.W.codeIn K LV "_law_grown" = true) (Wf : PySem.W.keepIn K (.ref Pb) = true) {Pc : Addr} {RD Og : Option Addr} {RG : Array (Option Value)} {RH Oh Oi Oj LW Ol : Value} (Wg : PySem.W.nsIn K mainGlobals "_law_cells" = some (some (.ref Pc))) (Wh : K.lookup Pc = some ⟨RH, RD, .func (PySem.W.fnOf "_law_cells" "_law_cells" (aA aH) (ay aH) (aa aH) .none Oh Oi Oj Og LW Ol), RG⟩) (Wi : PySem.W.codeIn K LW "_law_cells" = true) (Wj : PySem.W.keepIn K (.ref Pc) = true) {Pd : Addr} {RI Om : Option Addr} {RJ : Array (Option Value)} {RK Oo Oq Ot LX Ou : Value} (Wl : PySem.W.nsIn K mainGlobals "_law_folded" = some (some (.ref Pd))) (Wm : K.lookup Pd = some ⟨RK, RI, .func (PySem.W.fnOf "_law_folded" "_law_folded" (aA aG) (ay aG) (aa aG) .none Oo Oq Ot Om LX Ou), RJ⟩) (Wn : PySem.W.codeIn K LX "_law_folded" = true) (Wq : PySem.W.keepIn K (.ref Pd) = true) {Pe : Addr} {RL Ov : Option Addr} {RM : Array (Option Value)} {RN Ow Ox Oz LY OA : Value} (Wr : PySem.W.nsIn K mainGlobals "_law_texts" = some (some (.ref Pe))) (Ws : K.lookup Pe = some ⟨RN, RL, .func (PySem.W.fnOf "_law_texts" "_law_texts" (aA aO) (ay aO) (aa aO) .none Ow Ox Oz Ov LY OA), RM⟩) (Wt : PySem.W.codeIn K LY "_law_texts" = true) (Wu : PySem.W.keepIn K (.ref Pe) = true) {Pf : Addr} {RO OB : Option Addr} {RP : Array (Option Value)} {RQ OC OD OE LZ OF : Value} (RS : PySem.W.nsIn K mainGlobals "law" = some (some (.ref Pf))) (Wv : K.lookup Pf = some ⟨RQ, RO, .func (PySem.W.fnOf "law" "law" (aA cF) (ay cF) (aa cF) .none OC OD OE OB LZ OF), RP⟩) (Ww : PySem.W.codeIn K LZ "law" = true) (Wx : PySem.W.keepIn K (.ref Pf) = true) (z0 : PySem.W.nsIn K mainGlobals "all" = some none) (z1 : PySem.W.nsIn K mainGlobals "isinstance" = some none) (z2 : PySem.W.nsIn K mainGlobals "len" = some none) (z3 : PySem.W.nsIn K mainGlobals "list" = some none) (z4 : PySem.W.nsIn K mainGlobals "max" = some none) (z5 : PySem.W.nsIn K mainGlobals "range" = some none) (z6 : PySem.W.nsIn K mainGlobals "reversed" = some none) (z7 : PySem.W.nsIn K mainGlobals "str" = some none) (z8 : PySem.W.nsIn K mainGlobals "tuple" = some none) {uS : Addr} {RT : Array Value} {T3 : Nat} {Et : Array (Option Value)} (g0 : PySem.W.nsIn K mainGlobals "KEPT_WORDS" = some (some (.ref uS))) (Wy : K.lookup uS = some ⟨.type "tuple", none, .seq RT T3, Et⟩) (T4 : Vals [V.str "start", V.str "rule", V.str "row", V.str "mix", V.str "many", V.str "any", V.str "kind", V.str "not", V.str "both", V.str "either", V.str "way", V.str "mark"] RT.toList) {Wz : Tok} (g1 : PySem.W.nsIn K mainGlobals "LETTERS" = some (some (.str "abcdefghijklmnopqrstuvwxyz" Wz))) {WA : Tok} (g2 : PySem.W.nsIn K mainGlobals "LONGEST" = some (some (.int (8) WA))) (WB : PySem.W.nsOkIn K cStatics = true) (WC : PySem.W.nsIn K cStatics sharingNotToldKey = some none) {RU : Addr} (WD : PySem.W.nsIn K mainGlobals "NoText" = some (some (.ref RU))) (WE : PySem.W.excIn K RU Bq "ValueError.__new__" = true) : ∃ t, Txt K mg t ∧ ∃ kV dc pm an cd ct, (t.d 20) = PySem.W.fnOf "law" "law" (aA cF) (ay cF) (aa cF) .none kV dc pm an cd ct := by
  have F0 := dQ (st := bg) l0 c0 k0
  have F1 := dQ (st := aM) l1 c1 k1
  have F2 := dQ (st := bO) l2 c2 k2
  have F3 := dQ (st := bJ) l3 c3 k3
  have F4 := dQ (st := eF) l4 c4 k4
  have F5 := dQ (st := bS) l5 c5 k5
  have F6 := dQ (st := bN) l6 c6 k6
  have F7 := dQ (st := bK) l7 c7 k7
  have F8 := dQ (st := bG) l8 c8 k8
  have F9 := dQ (st := aE) l9 c9 k9
  have T5 := dQ (st := bQ) VQ VR VS
  have T6 := dQ (st := bT) VU VV VW
  have T7 := dQ (st := cU) VY c12 VZ
  have T8 := dQ (st := bB) V1 V2 V3
  have T9 := dQ (st := aN) V5 V6 V7
  have Ua := dQ (st := aX) V9 Wa Wb
  have Ub := dQ (st := aI) Wd We Wf
  have Uc := dQ (st := aH) Wh Wi Wj
  have Ud := dQ (st := aG) Wm Wn Wq
  have Ue := dQ (st := aO) Ws Wt Wu
  have Ug := dQ (st := cF) Wv Ww Wx
  exact ⟨⟨fun i => [f0, f1, f2, f3, f4, f5, f6, f7, f8, f9, O6, O7, Iv, O8, O9, Pa, Pb, Pc, Pd, Pe, Pf].getD i f0, fun i => [PySem.W.fnOf "tree_parts" "tree_parts" (aA bg) (ay bg) (aa bg) .none Q2 Q3 Q4 Q0 O5 Q5, PySem.W.fnOf "all_within" "all_within" (aA aM) (ay aM) (aa aM) .none SO SQ SR SN Q6 SS, PySem.W.fnOf "folded" "folded" (aA bO) (ay bO) (aa bO) .none SW SX SY SV Q7 S4, PySem.W.fnOf "show_tree" "show_tree" (aA bJ) (ay bJ) (aa bJ) .none S6 S7 S8 S5 Q8 S9, PySem.W.fnOf "bracket" "bracket" (aA eF) (ay eF) (aa eF) .none Td Te Tf Tc Q9 Tg, PySem.W.fnOf "tree_text" "tree_text" (aA bS) (ay bS) (aa bS) .none Ti Tj Tn Th Ra To, PySem.W.fnOf "is_name" "is_name" (aA bN) (ay bN) (aa bN) .none Tq Tt Tu Tp Rb Tv, PySem.W.fnOf "read_tree" "read_tree" (aA bK) (ay bK) (aa bK) .none Tz TF TH Tw Rc TJ, PySem.W.fnOf "words_of" "words_of" (aA bG) (ay bG) (aa bG) .none TM TN TQ TL Rf TR, PySem.W.fnOf "read_bracket" "read_bracket" (aA aE) (ay aE) (aa aE) .none TV TX TY TU Rg TZ, PySem.W.fnOf "value_of" "value_of" (aA bQ) (ay bQ) (aa bQ) .none NG NH NI NF LO NJ, PySem.W.fnOf "values_of" "values_of" (aA bT) (ay bT) (aa bT) .none NL NN NO NK LP NP, PySem.W.fnOf "name_of" "name_of" (aA cU) (ay cU) (aa cU) .none NR NS NT NQ LQ NU, PySem.W.fnOf "make_tree" "make_tree" (aA bB) (ay bB) (aa bB) .none NW NX NY NV LR NZ, PySem.W.fnOf "_law_draws" "_law_draws" (aA aN) (ay aN) (aa aN) .none N2 N3 N4 N1 LS N5, PySem.W.fnOf "_law_name" "_law_name" (aA aX) (ay aX) (aa aX) .none N7 N8 N9 N6 LU Oa, PySem.W.fnOf "_law_grown" "_law_grown" (aA aI) (ay aI) (aa aI) .none Oc Od Oe Ob LV Of, PySem.W.fnOf "_law_cells" "_law_cells" (aA aH) (ay aH) (aa aH) .none Oh Oi Oj Og LW Ol, PySem.W.fnOf "_law_folded" "_law_folded" (aA aG) (ay aG) (aa aG) .none Oo Oq Ot Om LX Ou, PySem.W.fnOf "_law_texts" "_law_texts" (aA aO) (ay aO) (aa aO) .none Ow Ox Oz Ov LY OA, PySem.W.fnOf "law" "law" (aA cF) (ay cF) (aa cF) .none OC OD OE OB LZ OF].getD i (PySem.W.fnOf "tree_parts" "tree_parts" (aA bg) (ay bg) (aa bg) .none Q2 Q3 Q4 Q0 O5 Q5), fun i => [RU].getD i 0⟩, ⟨F0, F0.binds (fun _ _ _ _ _ _ => wJ fun _ => rfl), PySem.W.mg_of X G a0, F1, F1.binds (fun _ _ _ _ _ _ => wK fun _ _ => rfl), PySem.W.mg_of X G a1, F2, F2.binds (fun _ _ _ _ _ _ => QZ fun _ _ _ => rfl), PySem.W.mg_of X G a2, F3, F3.binds (fun _ _ _ _ _ _ => wJ fun _ => rfl), PySem.W.mg_of X G a3, F4, F4.binds (fun _ _ _ _ _ _ => wJ fun _ => rfl), PySem.W.mg_of X G a4, F5, F5.binds (fun _ _ _ _ _ _ => wK fun _ _ => rfl), PySem.W.mg_of X G a5, F6, F6.binds (fun _ _ _ _ _ _ => wJ fun _ => rfl), PySem.W.mg_of X G a6, F7, F7.binds (fun _ _ _ _ _ _ => wJ fun _ => rfl), PySem.W.mg_of X G a7, F8, F8.binds (fun _ _ _ _ _ _ => wJ fun _ => rfl), PySem.W.mg_of X G a8, F9, F9.binds (fun _ _ _ _ _ _ => wK fun _ _ => rfl), PySem.W.mg_of X G a9, T5, T5.binds (fun _ _ _ _ _ _ => wK fun _ _ => rfl), PySem.W.mg_of X G VP, T6, T6.binds (fun _ _ _ _ _ _ => wK fun _ _ => rfl), PySem.W.mg_of X G VT, T7, T7.binds (fun _ _ _ _ _ _ => wJ fun _ => rfl), PySem.W.mg_of X G VX, T8, T8.binds (fun _ _ _ _ _ _ => wJ fun _ => rfl), PySem.W.mg_of X G V0, T9, T9.binds (fun _ _ _ _ _ _ => wK fun _ _ => rfl), PySem.W.mg_of X G V4, Ua, Ua.binds (fun _ _ _ _ _ _ => wJ fun _ => rfl), PySem.W.mg_of X G V8, Ub, Ub.binds (fun _ _ _ _ _ _ => wK fun _ _ => rfl), PySem.W.mg_of X G Wc, Uc, Uc.binds (fun _ _ _ _ _ _ => wK fun _ _ => rfl), PySem.W.mg_of X G Wg, Ud, Ud.binds (fun _ _ _ _ _ _ => wK fun _ _ => rfl), PySem.W.mg_of X G Wl, Ue, Ue.binds (fun _ _ _ _ _ _ => wK fun _ _ => rfl), PySem.W.mg_of X G Wr, Ug, Ug.binds (fun _ _ _ _ _ _ => wJ fun _ => rfl), PySem.W.mg_of X G RS, PySem.W.mg_none_of X G z0, PySem.W.mg_none_of X G z1, PySem.W.mg_none_of X G z2, PySem.W.mg_none_of X G z3, PySem.W.mg_none_of X G z4, PySem.W.mg_none_of X G z5, PySem.W.mg_none_of X G z6, PySem.W.mg_none_of X G z7, PySem.W.mg_none_of X G z8, ⟨.ref uS, .ref uS, PySem.W.mg_of X G g0, rfl, fun ρ H => by unfold iU Rep; exact ⟨uS, _, rfl, .inr ⟨_, RT, T3, Wy, rfl, rfl, by have := T4.length; rw [← Array.length_toList, ← this]; decide, T4⟩, by simp only [au, Rep]; simp⟩⟩, ⟨_, V.str "abcdefghijklmnopqrstuvwxyz", PySem.W.mg_of X G g1, ⟨_, rfl⟩, fun ρ H => by unfold jf Rep; rfl⟩, ⟨_, V.int (8), PySem.W.mg_of X G g2, ⟨_, rfl⟩, fun ρ H => by unfold ou Rep; rfl⟩, LH WB WC, PySem.W.mg_of X G WD, WE⟩, _, _, _, _, _, _, rfl⟩
section
variable {P : Program} {w : World} {K : PySem.W.Frag} {mg : Str → Option Value} {base : Heap} {t : QY}
theorem L0 (T : Txt K mg t) : oV P w K mg base (cQ P w) 7 (t.f 20) (t.d 20) ["_law_script"] (aW K mg 1 CW) := by
  have cN := wC (P := P) (w := w) (base := base) T
  have sH := B0 (P := P) (w := w) (base := base) T
  have sI := B3 (P := P) (w := w) (base := base) T
  have p9 := AL (P := P) (w := w) (base := base) T
  have ig := AM (P := P) (w := w) (base := base) T
  have mF := wD (P := P) (w := w) (base := base) T
  have nY := zb (P := P) (w := w) (base := base) T
  have mG := wF (P := P) (w := w) (base := base) T
  have mH := wG (P := P) (w := w) (base := base) T
  have kH := vA (P := P) (w := w) (base := base) T
  have mJ := wH (P := P) (w := w) (base := base) T
  have nW := zc (P := P) (w := w) (base := base) T sH
  have nV := zd (P := P) (w := w) (base := base) T ig
  have sJ := B4 (P := P) (w := w) (base := base) T sI
  have dP := ze (P := P) (w := w) (base := base) T nV sJ
  have mE := wI (P := P) (w := w) (base := base) T cN dP
  have jK := t8 (P := P) (w := w) (base := base) T cN p9 dP
  have vC := Eg (P := P) (w := w) (base := base) T cN mE nW dP
  have iJ := zf (P := P) (w := w) (base := base) T jK ig
  have nX := zg (P := P) (w := w) (base := base) T vC
  have OG := LM (P := P) (w := w) (base := base) T nX iJ mF nY mG mH kH mJ
  exact OG
end
end K12
end
section
open PySem PySem.Spec L2 L3
local macro_rules
 | `(tactic| simp! [$a,*]) => `(tactic| simp [cL, fc, CC, zZ, DY, FE, pL, uT, yr, z9, yt, CD, um, fQ, aT, oY, eS, Aa, jq, oj, jr, jT, Ac, uU, Ad, CF, FF, CG, FG, CH, jt, om, Ae, CI, CJ, uo, Af, uV, CK, JD, CL, CM, CN, FH, FI, Ag, JF, qD, FJ, jU, FU, Al, FW, JG, Gb, As, Gd, tU, dY, bz, jl, lF, gj, dJ, oH, gk, bX, pI, zP, O1, Ty.is, $a,*])
local macro_rules
 | `(tactic| dsimp! [$a,*]) => `(tactic| simp [cL, fc, CC, zZ, DY, FE, pL, uT, yr, z9, yt, CD, um, fQ, aT, oY, eS, Aa, jq, oj, jr, jT, Ac, uU, Ad, CF, FF, CG, FG, CH, jt, om, Ae, CI, CJ, uo, Af, uV, CK, JD, CL, CM, CN, FH, FI, Ag, JF, qD, FJ, jU, FU, Al, FW, JG, Gb, As, Gd, tU, dY, bz, jl, lF, gj, Ny, oH, gk, bX, pI, zP, O1, Ty.is, $a,*])
section
set_option Elab.async false
set_option linter.all false
set_option maxRecDepth 100000
set_option maxHeartbeats 1000000
namespace K12
open PySem PySem.Spec L2 L3
structure Nm (l : List Nat) : Prop where
 ne : l ≠ []
 le : l.length ≤ 8
 az : ∀ x ∈ l, 97 ≤ x ∧ x ≤ 122
 kw : ((["start", "rule", "row", "mix", "many", "any", "kind", "not", "both", "either", "way", "mark"] : List Str).any (· == aU l)) = false
noncomputable def Ph (w : List Nat) : Prop := ∀ x ∈ w, x ≠ 32 ∧ x ≠ 10 ∧ x ≠ 40 ∧ x ≠ 41
theorem Nm.wd {l : List Nat} (h : Nm l) : Ph l := fun x hx => by have := h.az x hx; omega
theorem AN : ∀ (w cur r : List Nat), Ph w → bw cur (w ++ r) = bw (cur ++ w) r
 | [], cur, r, _ => by simp
 | x :: w, cur, r, h => by
  have hx := h x (by simp)
  rw [List.cons_append, bw, if_neg hx.1, if_neg hx.2.1, if_neg hx.2.2.1, if_neg hx.2.2.2, AN w (cur ++ [x]) r fun y hy => h y (by simp [hy])]
  simp
noncomputable def Ends (r : List Nat) : Prop := (∃ r', r = 32 :: r') ∨ ∃ r', r = 41 :: r'
theorem IY {w r : List Nat} (hn : w ≠ []) (hw : Ph w) (hr : Ends r) : bw [] (w ++ r) = w :: bw [] r := by
 rw [AN w [] r hw, List.nil_append]
 have hf : DZ w = [w] := by cases w with
  | nil => exact absurd rfl hn
  | cons a b => rfl
 rcases hr with ⟨r', rfl⟩ | ⟨r', rfl⟩
 ·simp [bw, hf, iw]
 ·simp [bw, hf, iw]
theorem OH (r : List Nat) : bw [] (32 :: r) = bw [] r := by simp [bw, iw]
theorem OI (r : List Nat) : bw [] (40 :: r) = [40] :: bw [] r := by simp [bw, iw]
theorem OJ (r : List Nat) : bw [] (41 :: r) = [41] :: bw [] r := by simp [bw, iw]
theorem WG (r : List Nat) : Ends (41 :: r) := .inr ⟨r, rfl⟩
inductive Tr where
 | nd (nm : List Nat) (ts : List Tr)
mutual
noncomputable def Tr.D : Tr → L3.D
 | .nd nm ts => .tup [.str (aU nm), .tup (sL ts)]
noncomputable def sL : List Tr → List L3.D
 | [] => []
 | t :: ts => t.D :: sL ts
end
mutual
noncomputable def Tr.L : Tr → List Nat
 | .nd nm ts => 40 :: (nm ++ (mK ts ++ [41]))
noncomputable def mK : List Tr → List Nat
 | [] => []
 | t :: ts => 32 :: (t.L ++ mK ts)
end
mutual
noncomputable def Tr.W : Tr → List (List Nat)
 | .nd nm ts => [40] :: nm :: (t9 ts ++ [[41]])
noncomputable def t9 : List Tr → List (List Nat)
 | [] => []
 | t :: ts => t.W ++ t9 ts
end
mutual
noncomputable def Tr.sz : Tr → Nat
 | .nd _ ts => 1 + mL ts
noncomputable def mL : List Tr → Nat
 | [] => 0
 | t :: ts => t.sz + mL ts
end
mutual
noncomputable def Tr.Ok : Tr → Prop
 | .nd nm ts => Nm nm ∧ zh ts
noncomputable def zh : List Tr → Prop
 | [] => True
 | t :: ts => t.Ok ∧ zh ts
end
mutual
noncomputable def Tr.pre : Tr → List Tr
 | .nd nm ts => .nd nm ts :: jN ts
noncomputable def jN : List Tr → List Tr
 | [] => []
 | t :: ts => t.pre ++ jN ts
end
theorem IZ (ts : List Tr) (r : List Nat) (hr : Ends r) : Ends (mK ts ++ r) := by
 cases ts with
 | nil => simpa [mK] using hr
 | cons t ts => rw [mK]; exact .inl ⟨_, rfl⟩
mutual
theorem Gz : ∀ (t : Tr), t.Ok → ∀ r, bw [] (t.L ++ r) = t.W ++ bw [] r
 | .nd nm ts, h, r => by
  rw [Tr.Ok] at h
  have e : (Tr.nd nm ts).L ++ r = 40 :: (nm ++ (mK ts ++ 41 :: r)) := by simp [Tr.L]
  rw [e, OI, IY h.1.ne h.1.wd (IZ _ _ (WG _)), CZ ts h.2, OJ]
  simp [Tr.W]
theorem CZ : ∀ (ts : List Tr), zh ts → ∀ r, bw [] (mK ts ++ r) = t9 ts ++ bw [] r
 | [], _, r => by simp [mK, t9]
 | t :: ts, h, r => by
  rw [zh] at h
  have e : mK (t :: ts) ++ r = 32 :: (t.L ++ (mK ts ++ r)) := by simp [mK]
  rw [e, OH, Gz t h.1, CZ ts h.2]
  simp [t9]
end
mutual
theorem B5 : ∀ (t : Tr), t.Ok → t.L.length + 1 ≤ 11 * t.sz
 | .nd nm ts, h => by
  rw [Tr.Ok] at h
  have := h.1.le
  have := C0 ts h.2
  simp only [Tr.L, Tr.sz, List.length_cons, List.length_append, List.length_nil]; omega
theorem C0 : ∀ (ts : List Tr), zh ts → (mK ts).length ≤ 11 * mL ts
 | [], _ => by simp [mK, mL]
 | t :: ts, h => by
  rw [zh] at h
  have := B5 t h.1
  have := C0 ts h.2
  simp only [mK, mL, List.length_cons, List.length_append]; omega
end
mutual
theorem C1 : ∀ (t : Tr), t.W.length = 3 * t.sz
 | .nd nm ts => by
  have := AO ts
  simp only [Tr.W, Tr.sz, List.length_cons, List.length_append, List.length_nil]; omega
theorem AO : ∀ (ts : List Tr), (t9 ts).length = 3 * mL ts
 | [] => by simp [t9, mL]
 | t :: ts => by
  have := C1 t
  have := AO ts
  simp only [t9, mL, List.length_append]; omega
end
mutual
theorem GA : ∀ (t : Tr), t.Ok → ∀ c ∈ t.L, c < 1114112
 | .nd nm ts, h, c, hc => by
  rw [Tr.Ok] at h
  simp only [Tr.L, List.mem_cons, List.mem_append, List.not_mem_nil, or_false] at hc
  rcases hc with hc | hc | hc | hc
  ·omega
  ·have := h.1.az c hc; omega
  ·exact GB ts h.2 c hc
  ·omega
theorem GB : ∀ (ts : List Tr), zh ts → ∀ c ∈ mK ts, c < 1114112
 | [], _, c, hc => by simp [mK] at hc
 | t :: ts, h, c, hc => by
  rw [zh] at h
  simp only [mK, List.mem_cons, List.mem_append] at hc
  rcases hc with hc | hc | hc
  ·omega
  ·exact GA t h.1 c hc
  ·exact GB ts h.2 c hc
end
theorem tN : ∀ (ts : List Tr), ts.length ≤ mL ts
 | [] => by simp
 | .nd nm us :: ts => by
  have := tN ts
  simp only [List.length_cons, mL, Tr.sz]; omega
theorem C2 : ∀ {ts : List Tr}, (∀ t ∈ ts, t.Ok) → zh ts
 | [], _ => by simp [zh]
 | t :: ts, h => by rw [zh]; exact ⟨h t (by simp), C2 fun u hu => h u (by simp [hu])⟩
theorem nZ : ∀ ts : List Tr, sL ts = ts.map Tr.D
 | [] => rfl
 | t :: ts => by rw [sL, nZ ts]; rfl
theorem sM : ∀ ts : List Tr, mK ts = (ts.map Tr.L).flatMap fun q => 32 :: q
 | [] => rfl
 | t :: ts => by rw [mK, sM ts]; simp
theorem C3 : ∀ ts : List Tr, mL ts = (ts.map Tr.sz).sum
 | [] => rfl
 | t :: ts => by rw [mL, C3 ts]; simp
end K12
end
section
set_option Elab.async false
set_option linter.all false
set_option maxRecDepth 100000
set_option maxHeartbeats 1000000
namespace K12
open PySem PySem.Spec L2 L3
theorem AQ {l : List Nat} (h : ∀ x ∈ l, x < 1114112) : PyData.strOk (aU l) = true := by
 unfold PyData.strOk aU
 rw [Array.all_eq_true_iff_forall_mem]
 intro x hx
 simpa using h x (by simpa using hx)
theorem Nm.gd {l : List Nat} (h : Nm l) : PyData.strOk (aU l) = true := AQ fun x hx => by have := h.az x hx; omega
theorem iB (l : List Nat) : (aU l).length = l.length := by simp [aU, Str.length]
noncomputable def gU : Str := "abcdefghijklmnopqrstuvwxyz"
noncomputable def sgn (c : Nat) : Bool := !(Builtin.Str.occurrences gU ⟨#[c]⟩ 0 gU.length 1).isEmpty
theorem L1 {c : Nat} (h : 97 ≤ c ∧ c ≤ 122) : sgn c = true := by
 have RV : ∀ k < 26, sgn (97 + k) = true := by decide +kernel
 have := RV (c - 97) (by omega)
 rwa [show 97 + (c - 97) = c by omega] at this
noncomputable def words : List Str := ["start", "rule", "row", "mix", "many", "any", "kind", "not", "both", "either", "way", "mark"]
theorem vD (τ : DS) (G0 : DH) : ∀ (cs : List Nat) (acc : List D), acc.length + cs.length ≤ 1000 → (∀ c ∈ cs, 97 ≤ c ∧ c ≤ 122) →
  dm oN [] iN (aF (Dz false) (ah 0) (eC jf)) G0.length (cs.map fun c => .str ⟨#[c]⟩) τ (G0 ++ [.lst acc]) = .ok (.obj G0.length) (G0 ++ [.lst (acc ++ cs.map fun _ => .bl true)])
 | [], acc, hl, _ => by simp [dm]
 | c :: cs, acc, hl, h => by
  have hs : acc.length < sizeLine := Nat.lt_of_lt_of_le (by simp at hl; omega) (lz (n := 2000) (by omega))
  have hc := L1 (h c (by simp))
  unfold sgn gU at hc
  have e : cZ oN [] iN (aF (Dz false) (ah 0) (eC jf)) G0.length (.str ⟨#[c]⟩) τ (G0 ++ [.lst acc]) = .ok () (G0 ++ [.lst (acc ++ [.bl true])]) := by
   simp [cZ, oN, iN, oY, jq, eS, fQ, aT, Aa, jf, Dz, bz, hs, hc]
  rw [List.map_cons, dm, e]
  dsimp only
  rw [vD τ G0 cs (acc ++ [D.bl true]) (by simp at hl ⊢; omega) fun c hc => h c (by simp [hc])]
  simp
theorem I8 (bs : List Bool) : qw (bs.map D.bl) = some bs := by
 induction bs with
 | nil => rfl
 | cons b r ih => simp [qw, ih]
theorem B6 {l : List Nat} (h : Nm l) (G : DH) : kT [.str (aU l)] G = .ok (.bl true) G := by
 have hz : l.length ≤ sizeLine := lz (by have := h.le; omega)
 have hk := zX (aU l) words G h.gd (by decide +kernel)
 rw [show words.any (· == aU l) = false from h.kw] at hk
 have ek : iU = .tup (words.map D.str) := rfl
 have h8 := h.le
 have h1 : 1 ≤ l.length := by cases l with
  | nil => exact absurd rfl h.ne
  | cons a b => simp
 have hc := vD [some (.str (aU l))] G l [] (by simp only [List.length_nil]; omega) h.az
 have hb : qw (l.map fun c => D.bl true) = some (l.map fun _ => true) := by
  have := I8 (l.map fun _ => true)
  rw [List.map_map] at this
  exact this
 have h0' : ((l.length : Int) == 0) = false := beq_eq_false_iff_ne.mpr (by omega)
 have h9 : ¬ 8 < l.length := by omega
 have WH : ¬ (8 : Int) < (l.length : Int) := by omega
 have hcl : aR (l.map fun c => D.bl true) = true := bI fun _ => rfl
 have hcs : (aU l).cps.toList = l := fY l
 simp only [List.nil_append] at hc
 unfold kT
 refine eE ?_ rfl
 simp! [oA, Dz, ek, hk, hz, e9, h0', ou, h9, WH, iB, hcs, hc, Fb, hb, ju, sj hcl]
theorem B7 {l : List Nat} (h : Nm l) (G : DH) : kU [.str (aU l)] G = .ok (.str (aU l)) G := by
 have e := B6 h G
 unfold kU
 refine eE ?_ bf
 simp! [oB, e]
theorem AR (s : Str) (hs : PyData.strOk s = true) (v : D) (hv : v.closed = true) (G : DH) : fB [.tup [.str s, v], .str s] G = .ok v G := by
 have e := jS false s s G hs hs
 have e' : (s == s) = true := by simp
 rw [e'] at e
 have a0 : jQ [D.str s, v] 0 = some (.str s) := rfl
 have a1 : jQ [D.str s, v] 1 = some v := rfl
 unfold fB
 refine eE ?_ hv
 simp! [lK, e, a0, a1]
theorem Eh (s : Str) (hs : PyData.strOk s = true) (vs : List D) (hv : ∀ v ∈ vs, v.closed = true) (hl : vs.length ≤ 1000) (G : DH) : iF [.con (vs.map fun v => .tup [.str s, v]), .str s] G = .ok (.tup vs) G := by
 have hz : vs.length ≤ sizeLine := lz (by omega)
 have hcl : aR vs = true := pM hv
 have hc := sr (gO := oN) (ks := [false, true]) (te := bZ 2 fB (ai (ah 0) (ai (ah 2) (aq)))) (own := fun d => [d]) (f := fun d => match d with | .tup [_, v] => v | d => d) (G := G) (τ := [some (.con (vs.map fun v => .tup [.str s, v])), some (.str s)]) (vs.map fun v => .tup [.str s, v]) [] (by simp; omega) (fun _ _ => rfl) (by
  intro x hx acc
  obtain ⟨v, WI, rfl⟩ := List.mem_map.mp hx
  have e := AR s hs v (hv v WI) (G ++ [.lst acc])
  simp! [mask, e])
 rw [List.map_map] at hc
 have hid : (vs.map ((fun d => match d with | D.tup [_, v] => v | d => d) ∘ fun v => D.tup [D.str s, v])) = vs := by
  conv => rhs; rw [← List.map_id vs]
  exact List.map_congr_left fun _ _ => rfl
 rw [hid, List.nil_append] at hc
 unfold iF
 refine eE ?_ (by rw [D.closed]; exact hcl)
 simp! [jX, hc, ju, sj hcl, ny, hz]
theorem RW (k : Nat) (l r : List D) (h : l.length = k) : cutD (l ++ r) (some k) none = r := by
 subst h
 simp [cutD, HT.HG, HT.EG]
theorem vE (c : Nat) : ∀ l, (br c l).length ≤ l.length + 1
 | [] => by simp [br]
 | x :: xs => by
  have ih := vE c xs
  unfold br
  split
  ·simp; omega
  ·split
   ·rename_i e; rw [e] at ih; simp at ih ⊢; omega
   ·simp
theorem mO {c : Nat} : ∀ {y l : List Nat} {a : Nat}, l ∈ br c y → a ∈ l → a ∈ y
 | [], l, a, h, ha => by simp [br] at h; subst h; simp at ha
 | x :: xs, l, a, h, ha => by
  unfold br at h
  split at h
  ·rcases List.mem_cons.mp h with rfl | h
   ·simp at ha
   ·exact List.mem_cons_of_mem _ (mO h ha)
  ·split at h
   ·rename_i p ps e
    rcases List.mem_cons.mp h with rfl | h
    ·rcases List.mem_cons.mp ha with rfl | ha
     ·simp
     ·exact List.mem_cons_of_mem _ (mO (y := xs) (l := p) (by rw [e]; simp) ha)
    ·exact List.mem_cons_of_mem _ (mO (y := xs) (l := l) (by rw [e]; simp [h]) ha)
   ·simp at h; subst h; simp at ha; simp [ha]
theorem zj {c : Nat} {b y : List Nat} {a : Nat} (h : a ∈ rp c b y) : a ∈ b ∨ a ∈ y := by
 unfold rp at h
 obtain ⟨x, hx, h⟩ := List.mem_flatMap.mp h
 split at h
 ·exact .inl h
 ·simp at h; subst h; exact .inr hx
theorem str_len (x : Str) : x.length = x.cps.toList.length := by simp [Str.length]
theorem GC (x : Str) (hx : ∀ c ∈ x.cps.toList, c < 1114112) (hl : x.length ≤ 100000) (G : DH) : jA [.str x] G = .ok (.con ((bw [] x.cps.toList).map fun w => .str (aU w))) G := by
 have s1 : (Txt.replace x "\n" " ").cps.toList = rp 10 [32] x.cps.toList := je x " " 10
 have s2 : (Txt.replace (Txt.replace x "\n" " ") "(" " ( ").cps.toList = rp 40 [32, 40, 32] (rp 10 [32] x.cps.toList) := by rw [← s1]; exact je _ " ( " 40
 have s3 : (Txt.replace (Txt.replace (Txt.replace x "\n" " ") "(" " ( ") ")" " ) ").cps.toList = yz x.cps.toList := by unfold yz; rw [← s2]; exact je _ " ) " 41
 have l1 : (Txt.replace x "\n" " ").length ≤ 1 * x.length := by rw [str_len, str_len, s1]; exact u6 10 1 _ (by decide) (by decide) _
 have l2 : (Txt.replace (Txt.replace x "\n" " ") "(" " ( ").length ≤ 3 * (Txt.replace x "\n" " ").length := by rw [str_len, str_len, s2, s1]; exact u6 40 3 _ (by decide) (by decide) _
 have l3 : (Txt.replace (Txt.replace (Txt.replace x "\n" " ") "(" " ( ") ")" " ) ").length ≤ 3 * (Txt.replace (Txt.replace x "\n" " ") "(" " ( ").length := by rw [str_len, str_len, s3, s2]; unfold yz; exact u6 41 3 _ (by decide) (by decide) _
 have r1 := CQ (G := G) (y := "\n") (z := " ") (x := x) (by decide +kernel) (by omega) (by decide +kernel)
 have r2 := CQ (G := G) (y := "(") (z := " ( ") (x := Txt.replace x "\n" " ") (by decide +kernel) (by omega) (by decide +kernel)
 have r3 := CQ (G := G) (y := ")") (z := " ) ") (x := Txt.replace (Txt.replace x "\n" " ") "(" " ( ") (by decide +kernel) (by omega) (by decide +kernel)
 have Dp : Txt.split (Txt.replace (Txt.replace (Txt.replace x "\n" " ") "(" " ( ") ")" " ) ") " " = (br 32 (yz x.cps.toList)).map aU := by rw [← s3]; exact FP _ 32
 have WJ : (Txt.replace (Txt.replace (Txt.replace x "\n" " ") "(" " ( ") ")" " ) ").length ≤ 900000 := by omega
 have hsl : (br 32 (yz x.cps.toList)).length ≤ 900001 := by
  have := vE 32 (yz x.cps.toList)
  rw [← s3, ← str_len] at this
  rw [← s3]; omega
 generalize Txt.replace (Txt.replace (Txt.replace x "\n" " ") "(" " ( ") ")" " ) " = x3 at r3 Dp WJ
 generalize Txt.replace (Txt.replace x "\n" " ") "(" " ( " = x2 at r2 r3
 generalize Txt.replace x "\n" " " = x1 at r1 r2
 have hmem : ∀ l ∈ br 32 (yz x.cps.toList), PyData.strOk (aU l) = true := fun l hl => AQ fun a ha => by
  have := mO hl ha
  rcases zj this with h | h
  ·simp at h; omega
  ·rcases zj h with h | h
   ·simp at h; omega
   ·rcases zj h with h | h
    ·simp at h; omega
    ·exact hx a h
 have hw := wl x.cps.toList [] (by simp)
 rw [List.nil_append] at hw
 generalize br 32 (yz x.cps.toList) = ps at Dp hsl hmem hw
 have hc1 : aR ((ps.map aU).map D.str) = true := bI fun _ => bf
 have hz : (ps.map aU).length ≤ sizeLine := by rw [List.length_map]; exact lz (by omega)
 have f1 : (bM ((ps.map aU).map D.str) G).fw G = .ok (.con ((ps.map aU).map D.str)) G := iu (by simpa using hz) hc1
 have hc := gF (gO := oN) (ks := []) (tt := kJ (aF (kI true) (ah 0) (eC (.str "")))) (te := ah 0) (own := fun l => [D.str (aU l)]) (dat := fun l => D.str (aU l)) (f := fun l => D.str (aU l)) (c := fun l => !l.isEmpty) (G := G) (τ := [some (.str x), some (.str x3)]) ps [] (by simp; omega) (fun _ _ => rfl) (fun l hl acc => by
   have e := jS true (aU l) "" (G ++ [.lst acc]) (hmem l hl) (by decide +kernel)
   have e2 : (aU l == ("" : Str)) = l.isEmpty := by
    cases l with
    | nil => decide +kernel
    | cons a r =>
     cases e : (aU (a :: r) == ("" : Str)) with
     | false => rfl
     | true =>
      rw [beq_iff_eq] at e
      have := congrArg (fun s : Str => s.cps.toList) e
      simp only [fY] at this
      cases this
   rw [e2] at e
   simp! [mask, e]) (fun l hl acc => by simp! [mask])
 rw [hw, List.nil_append] at hc
 have hc2 : aR ((bw [] x.cps.toList).map fun w => D.str (aU w)) = true := bI fun _ => bf
 have hfm : (ps.map aU).map D.str = ps.map fun l => D.str (aU l) := by rw [List.map_map]; rfl
 rw [hfm] at f1
 have f2 : (bM (ps.map (D.str ∘ aU)) G).fw G = .ok (.con (ps.map fun l => D.str (aU l))) G := f1
 have hsz : x3.length + 2 ≤ sizeLine := lz (by omega)
 have hy : ¬ (" " : Str).length = 0 := by decide +kernel
 unfold jA
 refine eE ?_ (by rw [jw]; exact hc2)
 simp! [lJ, r1, r2, r3, uN, hsz, hy, Dp, f2, ju, hc, sj hc2]
mutual
theorem vF : ∀ (t : Tr), t.D.closed = true
 | .nd nm ts => by
  have := JK ts
  simp [Tr.D, D.closed, eT, iD, bf, this]
theorem JK : ∀ (ts : List Tr), aR (sL ts) = true
 | [] => by simp [sL, iD]
 | t :: ts => by rw [sL, eT, vF t, JK ts]; rfl
end
mutual
theorem JL : ∀ (t : Tr), t.Ok → t.D.plain = true
 | .nd nm ts, h => by
  rw [Tr.Ok] at h
  have h1 := h.1.gd
  have := GD ts h.2
  simp [Tr.D, D.plain, g8, h1, this]
theorem GD : ∀ (ts : List Tr), zh ts → g8 (sL ts) = true
 | [], _ => by simp [sL, g8]
 | t :: ts, h => by rw [zh] at h; rw [sL, g8, JL t h.1, GD ts h.2]; rfl
end
mutual
theorem JM : ∀ (t : Tr), t.D.dp ≤ 3 * t.sz
 | .nd nm ts => by
  have := GF ts
  simp only [Tr.D, D.dp, FY, Tr.sz]; omega
theorem GF : ∀ (ts : List Tr), FY (sL ts) ≤ 3 * mL ts
 | [] => by simp [sL, FY]
 | t :: ts => by
  have := JM t
  have := GF ts
  simp only [sL, FY, mL]; omega
end
noncomputable def vG (t : Tr) : D := .tup [.str "tree", t.D]
theorem Ja {nm : List Nat} (h : Nm nm) (ts : List Tr) (hl : ts.length ≤ 1000) (G : DH) : bU [.con (.str (aU nm) :: ts.map vG)] G = .ok (vG (.nd nm ts)) G := by
 have e1 := B7 h G
 have hvs : ts.map vG = (ts.map Tr.D).map fun v => D.tup [.str "tree", v] := by rw [List.map_map]; rfl
 have WK : ∀ v ∈ ts.map Tr.D, v.closed = true := fun v hv => by
  obtain ⟨i, _, rfl⟩ := List.mem_map.mp hv
  exact vF i
 have e3 := Eh "tree" (by decide +kernel) (ts.map Tr.D) WK (by simpa using hl) G
 rw [← hvs] at e3
 have z2 : (2 : Nat) ≤ sizeLine := lz (by omega)
 have hz : ts.length + 1 ≤ sizeLine := lz (by omega)
 have hz' : ts.length ≤ sizeLine := lz (by omega)
 have a0 : jQ (D.str (aU nm) :: ts.map vG) 0 = some (.str (aU nm)) := gB (j := 0) rfl
 have c4 : cutD (D.str (aU nm) :: ts.map vG) (some 1) none = ts.map vG := RW 1 [.str (aU nm)] (ts.map vG) rfl
 have hcl : aR (ts.map vG) = true := bI fun i => by simp [vG, D.closed, eT, iD, bf, vF]
 have f4 : (bM (ts.map vG) G).fw G = .ok (.con (ts.map vG)) G := iu (by simpa using hz') hcl
 have h0 : ((ts.length : Int) + 1 == 0) = false := beq_eq_false_iff_ne.mpr (by omega)
 have et : (Tr.nd nm ts).D = .tup [.str (aU nm), .tup (ts.map Tr.D)] := by rw [Tr.D, nZ]
 unfold bU
 refine eE ?_ (by simp [vG, D.closed, eT, iD, bf, vF])
 simp! [jY, hz, e9, h0, a0, e1, e3, z2, K9, c4, ju, f4, vG, et]
end K12
end
section
set_option Elab.async false
set_option linter.all false
set_option maxRecDepth 100000
set_option maxHeartbeats 1000000
namespace K12
open PySem PySem.Spec L2 L3
noncomputable def Fr (G : DH) : List Nat → List (List D) → Prop
 | [], [] => True
 | o :: os, ds :: sk => G[o]? = some (.lst ds) ∧ Fr G os sk
 | _, _ => False
theorem Fr.mono {G G' : DH} : ∀ {os : List Nat} {sk : List (List D)}, (∀ o ∈ os, ∀ x, G[o]? = some x → G'[o]? = some x) → Fr G os sk → Fr G' os sk
 | [], [], _, _ => trivial
 | o :: os, ps :: sk, hg, ⟨e, f⟩ => ⟨hg o (by simp) _ e, Fr.mono (fun o ho => hg o (by simp [ho])) f⟩
 | [], _ :: _, _, f => f.elim
 | _ :: _, [], _, f => f.elim
theorem Fr.len {G : DH} : ∀ {os : List Nat} {sk : List (List D)}, Fr G os sk → os.length = sk.length
 | [], [], _ => rfl
 | o :: os, ps :: sk, ⟨e, f⟩ => congrArg (· + 1) (Fr.len f)
 | [], _ :: _, f => f.elim
 | _ :: _, [], f => f.elim
structure St (G0 G : DH) (u : Nat) (ok : List Nat) (sk : List (List D)) : Prop where
 pre : ∃ X, G = G0 ++ X
 hu : G[u]? = some (.lst (ok.reverse.map .obj))
 fr : Fr G ok sk
 nd : ok.Nodup
 nu : u ∉ ok
 ge : G0.length ≤ u ∧ ∀ o ∈ ok, G0.length ≤ o
theorem kc {G0 G : DH} (h : ∃ X, G = G0 ++ X) {i : Nat} (hi : G0.length ≤ i) (x : DO) : ∃ X, G.set i x = G0 ++ X := by
 obtain ⟨X, rfl⟩ := h
 exact ⟨_, List.set_append_right _ _ hi⟩
theorem pre_app {G0 G : DH} (h : ∃ X, G = G0 ++ X) (E : DH) : ∃ X, G ++ E = G0 ++ X := by
 obtain ⟨X, rfl⟩ := h
 exact ⟨X ++ E, by simp⟩
theorem get_set {G : DH} {i j : Nat} {x y : DO} (h : G[j]? = some y) (hn : i ≠ j) : (G.set i x)[j]? = some y := by rw [List.getElem?_set_ne hn]; exact h
theorem mP {G : DH} {i : Nat} {x y : DO} (h : G[i]? = some y) : (G.set i x)[i]? = some x := by
 have := (List.getElem?_eq_some_iff.mp h).1
 rw [List.getElem?_set, if_pos rfl, if_pos this]
theorem lB {G : DH} {i : Nat} {y : DO} (h : G[i]? = some y) : i < G.length := (List.getElem?_eq_some_iff.mp h).1
variable {G0 G : DH} {u : Nat} {ok : List Nat} {sk : List (List D)}
theorem GG : ∀ {ok : List Nat} {sk : List (List D)}, Fr G ok sk → ∀ o ∈ ok, o < G.length
 | [], [], _, o, ho => by simp at ho
 | p :: os, ps :: sk, ⟨e, f⟩, o, ho => by
  rcases List.mem_cons.mp ho with rfl | ho
  ·exact lB e
  ·exact GG f o ho
 | [], _ :: _, f, _, _ => f.elim
 | _ :: _, [], f, _, _ => f.elim
theorem St.push (s : St G0 G u ok sk) : St G0 ((G ++ [DO.lst []]).set u (DO.lst ((G.length :: ok).reverse.map D.obj))) u (G.length :: ok) ([] :: sk) := by
 have lu := lB s.hu
 have hlt := GG s.fr
 have Uh : G0.length ≤ G.length := by obtain ⟨X, rfl⟩ := s.pre; simp
 have nn : G.length ∉ ok := fun h => absurd (hlt _ h) (Nat.lt_irrefl _)
 refine ⟨kc (pre_app s.pre _) s.ge.1 _, mP (bD s.hu), ⟨get_set (uS _ _ _) (by omega), s.fr.mono fun o ho x e => get_set (bD e) fun z => s.nu (z ▸ ho)⟩, List.nodup_cons.mpr ⟨nn, s.nd⟩, ?_, s.ge.1, ?_⟩
 ·intro h; rcases List.mem_cons.mp h with h | h
  ·omega
  ·exact s.nu h
 ·intro o ho
  rcases List.mem_cons.mp ho with rfl | ho
  ·exact Uh
  ·exact s.ge.2 o ho
theorem St.add {o : Nat} {d : D} {ds : List D} (s : St G0 G u (o :: ok) (ds :: sk)) : St G0 (G.set o (.lst (ds ++ [d]))) u (o :: ok) ((ds ++ [d]) :: sk) := by
 have nd := List.nodup_cons.mp s.nd
 have no : u ≠ o := fun z => s.nu (by simp [z])
 exact ⟨kc s.pre (s.ge.2 o (by simp)) _, get_set s.hu no.symm, ⟨mP s.fr.1, s.fr.2.mono fun q hq x e => get_set e fun z => nd.1 (z ▸ hq)⟩, s.nd, s.nu, s.ge⟩
theorem St.pop {o : Nat} {ds : List D} (s : St G0 G u (o :: ok) (ds :: sk)) : St G0 (G.set u (.lst (ok.reverse.map .obj))) u ok sk := by
 have nd := List.nodup_cons.mp s.nd
 exact ⟨kc s.pre s.ge.1 _, mP s.hu, s.fr.2.mono fun q hq x e => get_set e fun z => s.nu (by simp [z, hq]), nd.2, fun h => s.nu (by simp [h]), s.ge.1, fun q hq => s.ge.2 q (by simp [hq])⟩
theorem St.WL {o : Nat} (s : St G0 G u ok sk) (h0 : G0.length ≤ o) (hu : u ≠ o) (ho : o ∉ ok) : St G0 (G.set o .dead) u ok sk :=
 ⟨kc s.pre h0 _, get_set s.hu hu.symm, s.fr.mono fun q hq x e => get_set e fun z => ho (z ▸ hq), s.nd, s.nu, s.ge⟩
theorem C4 {α : Type} (xs : List α) (x : α) : jQ (xs ++ [x]) (-1) = some x := by
 unfold jQ Dr
 rw [if_neg (by omega), if_pos (by simp; omega)]
 show (xs ++ [x])[(-1 + ((xs ++ [x]).length : Int)).toNat]? = some x
 rw [show (-1 + ((xs ++ [x]).length : Int)).toNat = xs.length by simp; omega]
 simp
structure Wo (w : List Nat) : Prop where
 ok : PyData.strOk (aU w) = true
 o : (aU w == ("(" : Str)) = false
 s : (aU w == (")" : Str)) = false
theorem Ei (s : St G0 G u ok sk) (hlen : ok.length ≤ 100000) (t f b4 : Option D) :
  b7 [t, f, some (.obj u), some (.str (aU [40])), b4] G = .nx [t, f, some (.obj u), some (.str (aU [40])), b4] ((G ++ [DO.lst []]).set u (DO.lst ((G.length :: ok).reverse.map D.obj))) := by
 have e := jS false (aU [40]) "(" G (by decide +kernel) (by decide +kernel)
 rw [show (aU [40] == ("(" : Str)) = true by decide +kernel] at e
 have hz : ok.length < sizeLine := Nat.lt_of_lt_of_le (by omega) (lz (n := 100001) (by omega))
 have WM : (G ++ [DO.lst []])[u]? = some (.lst (ok.reverse.map .obj)) := bD s.hu
 have hu := s.hu
 simp! [b7, e, hu, WM, hz, bM]
theorem Ej {w : List Nat} (hw : Wo w) {o : Nat} {ds : List D} (s : St G0 G u (o :: ok) (ds :: sk)) (hl : ds.length ≤ 100000) (t f b4 : Option D) :
  b7 [t, f, some (.obj u), some (.str (aU w)), b4] G = .nx [t, f, some (.obj u), some (.str (aU w)), b4] (G.set o (.lst (ds ++ [.str (aU w)]))) := by
 have e := jS false (aU w) "(" G hw.ok (by decide +kernel)
 have e1 := jS false (aU w) ")" G hw.ok (by decide +kernel)
 rw [hw.o] at e
 rw [hw.s] at e1
 have hz : ds.length < sizeLine := Nat.lt_of_lt_of_le (by omega) (lz (n := 100001) (by omega))
 have hu := s.hu
 have hd := s.fr.1
 simp only [List.reverse_cons, List.map_append, List.map_cons, List.map_nil] at hu
 simp! [b7, e, e1, hu, C4, hd, hz]
theorem Jb : List.lookup ("make_tree" : Str) [("tree_parts", bP), ("make_tree", bU)] = some bU := by
 have h : (("make_tree" : Str) == "tree_parts") = false := by decide +kernel
 simp only [List.lookup, h, beq_self_eq_true]
theorem AS : List.lookup ("tree_parts" : Str) [("tree_parts", bP), ("make_tree", bU)] = some bP := by
 simp only [List.lookup, beq_self_eq_true]
noncomputable def Mk (p : List D) (v : D) : Prop := ∀ G, bU [.con p] G = .ok v G
theorem Ek {o o2 : Nat} {ds Pj : List D} {v : D} (hm : Mk ds v) (s : St G0 G u (o :: o2 :: ok) (ds :: Pj :: sk)) (hl : Pj.length ≤ 100000) (t b4 : Option D) :
  ∃ G', b7 [t, some (.fn "make_tree"), some (.obj u), some (.str (aU [41])), b4] G = .nx [t, some (.fn "make_tree"), some (.obj u), some (.str (aU [41])), some (.obj o)] G' ∧ St G0 G' u (o2 :: ok) ((Pj ++ [v]) :: sk) := by
 have e := jS false (aU [41]) "(" G (by decide +kernel) (by decide +kernel)
 have e1 := jS false (aU [41]) ")" G (by decide +kernel) (by decide +kernel)
 rw [show (aU [41] == ("(" : Str)) = false by decide +kernel] at e
 rw [show (aU [41] == (")" : Str)) = true by decide +kernel] at e1
 have nd := List.nodup_cons.mp s.nd
 have no : u ≠ o := fun z => s.nu (by simp [z])
 have Xf : o ≠ o2 := fun z => nd.1 (by simp [z])
 have sp := s.pop
 have sd := sp.WL (s.ge.2 o (by simp)) no nd.1
 have sa := sd.add (d := v)
 refine ⟨_, ?_, sa⟩
 have hz : Pj.length < sizeLine := Nat.lt_of_lt_of_le (by omega) (lz (n := 100001) (by omega))
 have hu := s.hu
 have Pk := sp.hu
 have hd' : (G.set u (.lst ((o2 :: ok).reverse.map .obj)))[o]? = some (.lst ds) := get_set s.fr.1 no
 have hd2 := sp.fr.1
 have Ui := sd.fr.1
 have hm' := hm ((G.set u (.lst ((o2 :: ok).reverse.map .obj))).set o .dead)
 generalize Uj : G.set u (.lst ((o2 :: ok).reverse.map .obj)) = G1 at sp Pk hd' hd2 Ui hm'
 simp only [List.reverse_cons, List.map_append, List.map_cons, List.map_nil] at Pk Uj hu
 have hne : ((ok.length : Int) + 1 == 0) = false := by simp; omega
 have hdl : (((ok.reverse.map D.obj) ++ [D.obj o2]) ++ [D.obj o]).dropLast = (ok.reverse.map D.obj) ++ [D.obj o2] := List.dropLast_concat
 have hix : (((ok.reverse.map D.obj) ++ [D.obj o2]) ++ [D.obj o])[(((ok.reverse.map D.obj) ++ [D.obj o2]) ++ [D.obj o]).length - 1]? = some (D.obj o) := by simp
 have ep : (bC 4 (bq "list" pI (ah 2) aq)) [t, some (.fn "make_tree"), some (.obj u), some (.str (aU [41])), b4] G = .nx [t, some (.fn "make_tree"), some (.obj u), some (.str (aU [41])), some (.obj o)] G1 := by
  simp only [pL, jt, eS, List.getElem?_cons_succ, List.getElem?_cons_zero, fQ, gk, hu, jr, pI, hix, hdl, beq_self_eq_true, if_true, uT, List.set_cons_succ, List.set_cons_zero, Uj]
 have ei : (oh (kJ (aF (kI false) (aC gj (ai (ah 2) (aq))) (eC (.int 0)))) (ki "NoText" (ai (eC (.str "a bracket is shut that was never begun")) (aq))) (cP)) [t, some (.fn "make_tree"), some (.obj u), some (.str (aU [41])), some (.obj o)] G1 = .nx [t, some (.fn "make_tree"), some (.obj u), some (.str (aU [41])), some (.obj o)] G1 := by
  simp! [Pk, e9, hne]
 have Jc : (Out.ok (D.obj o) G1).fz = .ok (.con ds) (G1.set o .dead) := by simp only [Out.fz, hd']
 simp only [b7, zZ, Ac, jq, eS, Aa, List.getElem?_cons_succ, List.getElem?_cons_zero, fQ, aT, e, e1, uU, DY, FE, Bool.false_xor]
 rw [mQ, cL, ep, fc, cL, ei, fc]
 simp! [Pk, C4, hd2, Jc, hm', Ui, hz, Jb]
inductive Rd : List (List D) → List (List Nat) → List (List D) → Prop
 | nil (fs) : Rd fs [] fs
 | op {fs ws fs'} : Rd ([] :: fs) ws fs' → Rd fs ([40] :: ws) fs'
 | wd {w p r ws fs'} : Wo w → Rd ((p ++ [.str (aU w)]) :: r) ws fs' → Rd (p :: r) (w :: ws) fs'
 | sh {p v q r ws fs'} : Mk p v → Rd ((q ++ [v]) :: r) ws fs' → Rd (p :: q :: r) ([41] :: ws) fs'
theorem Jd {G0 : DH} {u : Nat} {t : Option D} {fs : List (List D)} {ws : List (List Nat)} {fs' : List (List D)} (h : Rd fs ws fs') : ∀ (G : DH) (ok : List Nat) (b3 b4 : Option D), St G0 G u ok fs → (∀ f ∈ fs, f.length + ws.length ≤ 100000) → fs.length + ws.length ≤ 100000 →
  ∃ G' ok' JN JO, cJ (gN 3) b7 (ws.map fun w => .str (aU w)) [t, some (.fn "make_tree"), some (.obj u), b3, b4] G = .nx [t, some (.fn "make_tree"), some (.obj u), JN, JO] G' ∧ St G0 G' u ok' fs' := by
 induction h with
 | nil fs => exact fun G ok b3 b4 s _ _ => ⟨G, ok, b3, b4, by simp [cJ], s⟩
 | @op fs ws fs' h ih =>
  intro G ok b3 b4 s h1 h2
  have hl := s.fr.len
  have e := Ei s (by simp at h2; omega) t (some (.fn "make_tree")) b4
  obtain ⟨G', ok', JN, JO, e', s'⟩ := ih _ _ (some (.str (aU [40]))) b4 s.push (fun f hf => by
   rcases List.mem_cons.mp hf with rfl | hf
   ·simp at h2 ⊢; omega
   ·have := h1 f hf
    simp at this; omega) (by simp at h2 ⊢; omega)
  refine ⟨G', ok', JN, JO, ?_, s'⟩
  rw [List.map_cons, eB rfl]
  simp only [List.set_cons_succ, List.set_cons_zero, e, jU]
  exact e'
 | @wd w p r ws fs' hw h ih =>
  intro G ok b3 b4 s h1 h2
  match ok, s with
  | o :: ok, s =>
   have hp := h1 p (by simp)
   have e := Ej hw s (by simp at hp; omega) t (some (.fn "make_tree")) b4
   obtain ⟨G', ok', JN, JO, e', s'⟩ := ih _ _ (some (.str (aU w))) b4 (s.add (d := .str (aU w))) (fun f hf => by
    rcases List.mem_cons.mp hf with rfl | hf
    ·simp at hp ⊢; omega
    ·have := h1 f (by simp [hf])
     simp at this; omega) (by simp at h2 ⊢; omega)
   refine ⟨G', ok', JN, JO, ?_, s'⟩
   rw [List.map_cons, eB rfl]
   simp only [List.set_cons_succ, List.set_cons_zero, e, jU]
   exact e'
  | [], s => exact s.fr.elim
 | @sh p v q r ws fs' hm h ih =>
  intro G ok b3 b4 s h1 h2
  match ok, s with
  | o :: o2 :: ok, s =>
   have hq := h1 q (by simp)
   obtain ⟨G1, e, s1⟩ := Ek hm s (by simp at hq; omega) t b4
   obtain ⟨G', ok', JN, JO, e', s'⟩ := ih _ _ (some (.str (aU [41]))) (some (.obj o)) s1 (fun f hf => by
    rcases List.mem_cons.mp hf with rfl | hf
    ·simp at hq ⊢; omega
    ·have := h1 f (by simp [hf])
     simp at this; omega) (by simp at h2 ⊢; omega)
   refine ⟨G', ok', JN, JO, ?_, s'⟩
   rw [List.map_cons, eB rfl]
   simp only [List.set_cons_succ, List.set_cons_zero, e, jU]
   exact e'
  | [_], s => exact s.fr.2.elim
  | [], s => exact s.fr.elim
theorem OL {w : List Nat} (h : Ph w) (hx : ∀ x ∈ w, x < 1114112) : Wo w := by
 refine ⟨AQ hx, ?_, ?_⟩
 ·cases e : (aU w == ("(" : Str)) with
  | false => rfl
  | true =>
   rw [beq_iff_eq] at e
   have e2 := congrArg (fun s : Str => s.cps.toList) e
   rw [fY] at e2
   have e3 : w = [40] := e2
   exact absurd rfl (h 40 (by simp [e3])).2.2.1
 ·cases e : (aU w == (")" : Str)) with
  | false => rfl
  | true =>
   rw [beq_iff_eq] at e
   have e2 := congrArg (fun s : Str => s.cps.toList) e
   rw [fY] at e2
   have e3 : w = [41] := e2
   exact absurd rfl (h 41 (by simp [e3])).2.2.2
theorem Nm.wo {l : List Nat} (h : Nm l) : Wo l := OL h.wd fun x hx => by have := h.az x hx; omega
mutual
theorem JP : ∀ (t : Tr), t.Ok → t.sz ≤ 1000 → ∀ {p : List D} {r ws fs'}, Rd ((p ++ [vG t]) :: r) ws fs' → Rd (p :: r) (t.W ++ ws) fs'
 | .nd nm ts, h, hz, p, r, ws, fs', hr => by
  rw [Tr.Ok] at h
  rw [Tr.sz] at hz
  have e : (Tr.nd nm ts).W ++ ws = [40] :: nm :: (t9 ts ++ [41] :: ws) := by simp [Tr.W]
  rw [e]
  refine .op (.wd h.1.wo (GH ts h.2 (by omega) (.sh (v := vG (.nd nm ts)) ?_ hr)))
  intro G
  exact Ja h.1 ts (by have := tN ts; omega) G
theorem GH : ∀ (ts : List Tr), zh ts → mL ts ≤ 1000 → ∀ {p : List D} {r ws fs'}, Rd ((p ++ ts.map vG) :: r) ws fs' → Rd (p :: r) (t9 ts ++ ws) fs'
 | [], _, _, p, r, ws, fs', hr => by simpa [t9] using hr
 | t :: ts, h, hz, p, r, ws, fs', hr => by
  rw [zh] at h
  rw [mL] at hz
  rw [t9, List.append_assoc]
  refine JP t h.1 (by omega) (GH ts h.2 (by omega) ?_)
  simpa using hr
end
theorem B8 {t : Tr} (h : t.Ok) (hsz : t.sz ≤ 1000) (x : Str) (hx : ∀ c ∈ x.cps.toList, c < 1114112) (hl : x.length ≤ 100000) (hw : bw [] x.cps.toList = t.W) (G : DH) : fE [.str x, .fn "make_tree"] G = .ok (vG t) G := by
 have ew := GC x hx hl (G ++ [.lst [], .lst [.obj G.length]])
 rw [hw] at ew
 have Xg := C1 t
 have s0 : St G (G ++ [.lst [], .lst [.obj G.length]]) (G.length + 1) [G.length] [[]] := by
  refine ⟨⟨_, rfl⟩, ?_, ⟨uS _ _ _, trivial⟩, by simp, by simp, by omega, by simp⟩
  exact Hq _ _ _ _
 have hrd : Rd [[]] t.W [[vG t]] := by
  have := JP t h hsz (p := []) (r := []) (ws := []) (Rd.nil [[vG t]])
  rwa [List.append_nil] at this
 obtain ⟨G', ok', JN, JO, e, s'⟩ := Jd (t := some (.str x)) hrd _ _ none none s0 (by simp; omega) (by simp; omega)
 match ok', s' with
 | [o], s' =>
  have hu := s'.hu
  have hd := s'.fr.1
  obtain ⟨X, hX⟩ := s'.pre
  have z1 : (1 : Nat) ≤ sizeLine := lz (by omega)
  have z0 : (0 : Nat) ≤ sizeLine := Nat.zero_le _
  unfold fE
  refine lI (R := X) ?_ (by simp [vG, D.closed, eT, iD, bf, vF])
  rw [← hX]
  simp only [List.reverse_cons, List.reverse_nil, List.nil_append, List.map_cons, List.map_nil] at hu
  have a0 : jQ [D.obj o] 0 = some (.obj o) := rfl
  have a1 : jQ [vG t] 0 = some (vG t) := rfl
  simp! [gI, bM, z1, ew, e, mR, hu, hd, xg, e9, a0, a1]
 | [], s' => exact s'.fr.elim
 | _ :: _ :: _, s' => exact s'.fr.2.elim
theorem zk {t : Tr} (h : t.Ok) (hsz : t.sz ≤ 1000) (x : Str) (hx : ∀ c ∈ x.cps.toList, c < 1114112) (hl : x.length ≤ 100000) (hw : bw [] x.cps.toList = t.W) (G : DH) : cR [.str x] G = .ok t.D G := by
 have e := B8 h hsz x hx hl hw G
 have e2 := AR "tree" (by decide +kernel) t.D (vF t) G
 rw [vG] at e
 unfold cR
 refine eE ?_ (vF t)
 simp! [jZ, e, e2]
end K12
end
section
set_option Elab.async false
set_option linter.all false
set_option maxRecDepth 100000
set_option maxHeartbeats 1000000
namespace K12
open PySem PySem.Spec L2 L3
section
variable {a b c d : D}
theorem RS : jQ [a, b] 0 = some a := rfl
theorem WN : jQ [a, b] 1 = some b := rfl
end
theorem B9 (a b : Str) (G : DH) (h : a.length + b.length ≤ 2000000) : ∃ t, dJ (.str a) (.str b) G = .ok (.str t) G ∧ t.cps.toList = a.cps.toList ++ b.cps.toList ∧ t.length = a.length + b.length := by
 refine ⟨a ++ b, ?_, ?_, IE a b⟩
 ·simp [dJ, lz h]
 ·show (a.cps ++ b.cps).toList = _
  simp
theorem strs_map (ws : List Str) : strsOf (ws.map D.str) = some ws := by
 induction ws with
 | nil => rfl
 | cons w ws ih => simp [strsOf, ih]
theorem sN : ∀ (ws : List Str) (n : Nat), ws.foldl (fun a (w : Str) => a + w.length + 1) n = n + (ws.map fun w => w.length + 1).sum
 | [], n => by simp
 | w :: ws, n => by
  rw [List.foldl_cons, sN ws]
  simp; omega
theorem AU (ws : List Str) (hl : (ws.map fun w => w.length + 1).sum ≤ 100000) (G : DH) : jh [.con (ws.map .str)] G = .ok (.str (aU (40 :: cB [32] (ws.map fun w => w.cps.toList) ++ [41]))) G := by
 have hj : JoinOk " " ws = true := by
  have n2 : (" " : Str).length = 1 := by decide +kernel
  have e : ws.toArray.foldl (fun a (w : Str) => a + w.length + (" " : Str).length) 0 = (ws.map fun w => w.length + 1).sum := by
   rw [n2, List.foldl_toArray, sN]; simp
  unfold JoinOk
  rw [e]
  rw [Bool.not_eq_true']
  unfold Builtin.Str.tooLong
  exact decide_eq_false (by have := lz (n := 100000) (by omega); omega)
 have hs := strs_map ws
 have hjl : (Txt.join " " ws).cps.toList = cB [32] (ws.map fun w => w.cps.toList) := by
  show (Builtin.Str.glued " " ws).cps.toList = _
  rw [StrLaws.glued_eq_join]
  exact ko " " ws
 have hlen : (Txt.join " " ws).length ≤ 100000 := by
  have := StrLaws.join_length_le " " ws
  have e1 : Txt.join " " ws = Str.join " " ws := StrLaws.glued_eq_join ..
  have n2 : (" " : Str).length = 1 := by decide +kernel
  rw [n2] at this
  have e2 : (ws.map fun w => w.length + 1).sum = (ws.map (·.length)).sum + ws.length := by
   clear this hl hj hs hjl e1
   induction ws with
   | nil => rfl
   | cons w ws ih => simp [ih]; omega
  rw [e1]; omega
 have n1 : ("(" : Str).length = 1 := by decide +kernel
 have n3 : (")" : Str).length = 1 := by decide +kernel
 have ej : nv (.str " ") [.con (ws.map .str)] G = .ok (.str (Txt.join " " ws)) G := by
  simp [nv, bz, hs, hj]
 generalize Txt.join " " ws = j at hjl hlen ej
 obtain ⟨t1, e1, c1, k1⟩ := B9 "(" j G (by omega)
 obtain ⟨t2, e2, c2, k2⟩ := B9 t1 ")" G (by omega)
 have ht : t2 = aU (40 :: cB [32] (ws.map fun w => w.cps.toList) ++ [41]) := by
  apply qE
  rw [c2, c1, hjl, fY]
  rfl
 rw [← ht]
 unfold jh
 refine eE ?_ bf
 dsimp! [oz, ej, e1, e2]
theorem qc : ∀ (ps : List (List Nat)) (p : List Nat), cB [32] (p :: ps) = p ++ ps.flatMap (fun q => 32 :: q)
 | [], p => by simp [cB]
 | q :: ps, p => by
  rw [cB, qc ps q]
  simp
theorem OM (a b : List D) (G : DH) : dJ (.con a) (.con b) G = bM (a ++ b) G := by simp [dJ, qI]
theorem pB (nm : List Nat) (ts : List Tr) (hl : ts.length ≤ 1000) (G : DH) : bP [(Tr.nd nm ts).D] G = .ok (.con (ts.map Tr.D)) G := by
 have hz : ts.length ≤ sizeLine := lz (by omega)
 have hcl : aR (ts.map Tr.D) = true := bI vF
 have f : (bM (ts.map Tr.D) G).fw G = .ok (.con (ts.map Tr.D)) G := iu (by simpa using hz) hcl
 have et : (Tr.nd nm ts).D = .tup [.str (aU nm), .tup (ts.map Tr.D)] := by rw [Tr.D, nZ]
 unfold bP
 refine eE ?_ (by rw [jw]; exact hcl)
 simp! [iV, et, WN, uP, ju, f]
theorem zl : ∀ ts : List Tr, zh ts → (ts.map fun i => i.L.length + 1).sum ≤ 11 * mL ts
 | [], _ => by simp
 | t :: ts, h => by
  rw [zh] at h
  have := zl ts h.2
  have := B5 t h.1
  simp only [List.map_cons, List.sum_cons, mL]; omega
noncomputable def iQ (t : Tr) : D := .str (aU t.L)
theorem zm {nm : List Nat} {ts : List Tr} (h : (Tr.nd nm ts).Ok) (hsz : mL ts ≤ 1000) (G : DH) : fD [(Tr.nd nm ts).D, .con (ts.map iQ)] G = .ok (iQ (.nd nm ts)) G := by
 rw [Tr.Ok] at h
 have h1 := h.1.le
 have hs := zl ts h.2
 have hlt := tN ts
 have b := AU (aU nm :: ts.map fun i => aU i.L) (by
  simp only [List.map_cons, List.map_map, List.sum_cons, iB]
  have e : (ts.map ((fun w : Str => w.length + 1) ∘ fun i => aU i.L)) = ts.map fun i => i.L.length + 1 := List.map_congr_left fun i _ => by simp [iB]
  rw [e]; omega) G
 have hL : 40 :: cB [32] ((aU nm :: ts.map fun i => aU i.L).map fun w => w.cps.toList) ++ [41] = (Tr.nd nm ts).L := by
  simp only [List.map_cons, qc, List.map_map, fY]
  have e : (ts.map ((fun w : Str => w.cps.toList) ∘ fun i => aU i.L)) = ts.map Tr.L := List.map_congr_left fun i _ => fY _
  rw [e, Tr.L, sM]
  simp
 rw [hL] at b
 simp only [List.map_cons, List.map_map] at b
 have z1 : (1 : Nat) ≤ sizeLine := lz (by omega)
 have f1 : ∀ x : Str, (bM [.str x] G).fw G = .ok (.con [.str x]) G := fun x => iu (by simpa using z1) rfl
 have L4 : aR (.str (aU nm) :: ts.map iQ) = true := by
  rw [eT, bf]
  exact bI fun _ => bf
 have hz : (D.str (aU nm) :: ts.map iQ).length ≤ sizeLine := lz (by simp; omega)
 have f5 := iu (G := G) hz L4
 have b' : jh [.con (.str (aU nm) :: ts.map iQ)] G = .ok (.str (aU (Tr.nd nm ts).L)) G := b
 have et : (Tr.nd nm ts).D = .tup [.str (aU nm), .tup (ts.map Tr.D)] := by rw [Tr.D, nZ]
 unfold fD
 refine eE ?_ bf
 dsimp! [jW, et, RS, ju, f1, OM, f5, b', iQ]
theorem AV : ∀ (a b : List Tr), jN (a ++ b) = jN a ++ jN b
 | [], b => by simp [jN]
 | t :: a, b => by rw [List.cons_append, jN, jN, AV a b, List.append_assoc]
theorem zo : ∀ (a b : List Tr), mL (a ++ b) = mL a + mL b
 | [], b => by simp [mL]
 | t :: a, b => by rw [List.cons_append, mL, mL, zo a b]; omega
mutual
theorem Je : ∀ t : Tr, t.pre.length = t.sz
 | .nd nm ts => by rw [Tr.pre, Tr.sz, List.length_cons, AW ts]; omega
theorem AW : ∀ ts : List Tr, (jN ts).length = mL ts
 | [] => by simp [jN, mL]
 | t :: ts => by rw [jN, mL, List.length_append, Je t, AW ts]
end
theorem AX (G : DH) (a0 : Option D) (nm : List Nat) (ts rest acc : List Tr) (one : Option D) (h1 : acc.length ≤ 10000) (h2 : rest.length ≤ 10000) (h3 : ts.length ≤ 1000) :
  iA [a0, some (.fn "tree_parts"), some (.obj G.length), some (.obj (G.length + 1)), one] (G ++ [.lst (acc.map Tr.D), .lst ((Tr.nd nm ts :: rest).reverse.map Tr.D)]) =
   .nx [a0, some (.fn "tree_parts"), some (.obj G.length), some (.obj (G.length + 1)), some (Tr.nd nm ts).D] (G ++ [.lst ((acc ++ [Tr.nd nm ts]).map Tr.D), .lst ((ts ++ rest).reverse.map Tr.D)]) := by
 generalize ht : Tr.nd nm ts = t
 have hz1 : acc.length < sizeLine := Nat.lt_of_lt_of_le (by omega) (lz (n := 20000) (by omega))
 have hz2 : rest.length + ts.length ≤ sizeLine := lz (by omega)
 have WO : ts.length ≤ sizeLine := lz (by omega)
 have ep := fun G => pB nm ts h3 G
 rw [ht] at ep
 have hcl : aR (ts.map Tr.D).reverse = true := by
  rw [← List.map_reverse]; exact bI vF
 have f : ∀ G, (bM (ts.map Tr.D).reverse G).fw G = .ok (.con (ts.map Tr.D).reverse) G := fun G => iu (by simpa using WO) hcl
 have hdl : ((rest.map Tr.D).reverse ++ [t.D]).dropLast = (rest.map Tr.D).reverse := List.dropLast_concat
 have hix : ((rest.map Tr.D).reverse ++ [t.D])[((rest.map Tr.D).reverse ++ [t.D]).length - 1]? = some t.D := by simp
 have g1 : ∀ x y : DO, (G ++ [x, y])[G.length + 1]? = some y := fun x y => Hq G x y []
 have s1 : ∀ x y z : DO, (G ++ [x, y]).set (G.length + 1) z = G ++ [x, z] := fun x y z => Qx G x y z []
 have g0 : ∀ x y : DO, (G ++ [x, y])[G.length]? = some x := fun x y => uS G x [y]
 have s0 : ∀ x y z : DO, (G ++ [x, y]).set G.length z = G ++ [z, y] := fun x y z => Et G x z [y]
 have er : (t :: rest).reverse.map Tr.D = (rest.map Tr.D).reverse ++ [t.D] := by simp
 rw [er]
 have e1 : (bC 4 (bq "list" pI (ah 3) aq)) [a0, some (.fn "tree_parts"), some (.obj G.length), some (.obj (G.length + 1)), one] (G ++ [.lst (acc.map Tr.D), .lst ((rest.map Tr.D).reverse ++ [t.D])]) = .nx [a0, some (.fn "tree_parts"), some (.obj G.length), some (.obj (G.length + 1)), some t.D] (G ++ [.lst (acc.map Tr.D), .lst (rest.map Tr.D).reverse]) := by
  simp only [pL, jt, eS, List.getElem?_cons_succ, List.getElem?_cons_zero, fQ, gk, g1, jr, pI, hix, hdl, beq_self_eq_true, if_true, uT, List.set_cons_succ, List.set_cons_zero, s1]
 rw [iA, cL, e1, fc]
 simp! [g0, s0, g1, s1, hz1, AS, ep, zW, ju, f, Aj, qI, hz2]
theorem tO (G : DH) (a0 : Option D) : ∀ (n fl : Nat) (stk acc : List Tr) (one : Option D), mL stk = n → n < fl → acc.length + n ≤ 1000 →
  ∃ one', gE (kJ (aF xg (aC gj (ai (ah 3) (aq))) (eC (.int 0)))) iA fl [a0, some (.fn "tree_parts"), some (.obj G.length), some (.obj (G.length + 1)), one] (G ++ [.lst (acc.map Tr.D), .lst (stk.reverse.map Tr.D)]) = .nx [a0, some (.fn "tree_parts"), some (.obj G.length), some (.obj (G.length + 1)), one'] (G ++ [.lst ((acc ++ jN stk).map Tr.D), .lst []])
 | n, 0, stk, acc, one, _, h, _ => by omega
 | n, fl + 1, [], acc, one, hn, h, hb => by
  refine ⟨one, ?_⟩
  have g1 : ∀ x y : DO, (G ++ [x, y])[G.length + 1]? = some y := fun x y => Hq G x y []
  rw [qD]
  simp! [g1, xg, jN]
 | n, fl + 1, .nd nm ts :: stk, acc, one, hn, h, hb => by
  have hs : mL (ts ++ stk) + 1 = n := by rw [zo, ← hn, mL, Tr.sz]; omega
  have hl1 := tN ts
  have hl2 := tN stk
  have hss := zo ts stk
  obtain ⟨one', e⟩ := tO G a0 (n - 1) fl (ts ++ stk) (acc ++ [.nd nm ts]) (some (Tr.nd nm ts).D) (by omega) (by omega) (by simp; omega)
  refine ⟨one', ?_⟩
  have g1 : ∀ x y : DO, (G ++ [x, y])[G.length + 1]? = some y := fun x y => Hq G x y []
  have hz : stk.length + 1 ≤ sizeLine := lz (by omega)
  have hp : (0 : Int) < (stk.length : Int) + 1 := by omega
  have et := AX G a0 nm ts stk acc one (by omega) (by omega) (by omega)
  have ec : kJ (aF xg (aC gj (ai (ah 3) (aq))) (eC (.int 0))) [a0, some (.fn "tree_parts"), some (.obj G.length), some (.obj (G.length + 1)), one] (G ++ [.lst (acc.map Tr.D), .lst ((Tr.nd nm ts :: stk).reverse.map Tr.D)]) = .ok true (G ++ [.lst (acc.map Tr.D), .lst ((Tr.nd nm ts :: stk).reverse.map Tr.D)]) := by
   simp! [g1, xg, hz, hp]
  rw [qD, ec, DY, FJ, et, jU, e]
  simp [jN, Tr.pre, AV]
theorem El (t : Tr) (h : t.sz ≤ 1000) (G : DH) : gH [t.D, .fn "tree_parts"] G = .ok (.con (t.pre.map Tr.D)) G := by
 obtain ⟨one', e⟩ := tO G (some t.D) t.sz fuel [t] [] none (by simp [mL]) (by unfold fuel; omega) (by simp; omega)
 have hp : jN [t] = t.pre := by simp [jN]
 rw [hp] at e
 simp only [List.reverse_cons, List.reverse_nil, List.nil_append, List.map_cons, List.map_nil] at e
 have z1 : (1 : Nat) ≤ sizeLine := lz (by omega)
 have hcl : aR (t.pre.map Tr.D) = true := bI vF
 unfold gH
 refine lI (R := [.dead, .lst []]) ?_ (by rw [jw]; exact hcl)
 have Jc : (Out.ok (D.obj G.length) (G ++ [.lst (t.pre.map Tr.D), .lst []])).fz = .ok (.con (t.pre.map Tr.D)) (G ++ [.dead, .lst []]) := Al
 unfold iX
 generalize fuel = fl at e ⊢
 simp! [bM, z1, e, Jc]
end K12
end
section
set_option Elab.async false
set_option linter.all false
set_option maxRecDepth 100000
set_option maxHeartbeats 1000000
namespace K12
open PySem PySem.Spec L2 L3
theorem JQ (G Z : DH) (x y : DO) : (G ++ x :: (Z ++ [y]))[G.length + (Z.length + 1)]? = some y := by
 have e : G ++ x :: (Z ++ [y]) = (G ++ x :: Z) ++ y :: [] := by simp
 have l : G.length + (Z.length + 1) = (G ++ x :: Z).length := by simp
 rw [e, l]
 exact uS _ _ _
theorem JR (G Z : DH) (x y z : DO) : (G ++ x :: (Z ++ [y])).set (G.length + (Z.length + 1)) z = G ++ x :: (Z ++ [z]) := by
 have e : G ++ x :: (Z ++ [y]) = (G ++ x :: Z) ++ y :: [] := by simp
 have l : G.length + (Z.length + 1) = (G ++ x :: Z).length := by simp
 rw [e, l, Et]
 simp
theorem xP (G Z : DH) (a0 a1 a2 a4 : Option D) (B : List D) : ∀ (xs : List D) (j : Nat) (ps : List D) (a6 : Option D), ps.length + xs.length ≤ 1000 →
  ∃ b6, cJ (gN 6) oE ((List.range' j xs.length).map fun (k : Nat) => .int (0 + (k : Int))) [a0, a1, a2, some (.obj G.length), a4, some (.obj (G.length + (Z.length + 1))), a6] (G ++ .lst (B ++ xs.reverse) :: (Z ++ [.lst ps])) =
   .nx [a0, a1, a2, some (.obj G.length), a4, some (.obj (G.length + (Z.length + 1))), b6] (G ++ .lst B :: (Z ++ [.lst (ps ++ xs)]))
 | [], j, ps, a6, _ => ⟨a6, by simp [cJ]⟩
 | x :: xs, j, ps, a6, h => by
  simp only [List.length_cons] at h
  obtain ⟨b6, e⟩ := xP G Z a0 a1 a2 a4 B xs (j + 1) (ps ++ [x]) (some (.int (0 + (j : Int)))) (by simp; omega)
  refine ⟨b6, ?_⟩
  have hz : ps.length < sizeLine := Nat.lt_of_lt_of_le (by omega) (lz (n := 2000) (by omega))
  have er : B ++ (x :: xs).reverse = (B ++ xs.reverse) ++ [x] := by simp
  rw [er]
  generalize B ++ xs.reverse = C at e
  have hdl : (C ++ [x]).dropLast = C := List.dropLast_concat
  have hix : (C ++ [x])[(C ++ [x]).length - 1]? = some x := by simp
  have g1 := fun x y => JQ G Z x y
  have s1 := fun x y z => JR G Z x y z
  have g0 : ∀ x y, (G ++ x :: (Z ++ [y]))[G.length]? = some x := fun x y => uS G x _
  have s0 : ∀ x y z, (G ++ x :: (Z ++ [y])).set G.length z = G ++ z :: (Z ++ [y]) := fun x y z => Et G x z _
  have ep : bq "list" pI (ah 3) aq [a0, a1, a2, some (.obj G.length), a4, some (.obj (G.length + (Z.length + 1))), some (.int (0 + (j : Int)))] (G ++ .lst (C ++ [x]) :: (Z ++ [.lst ps])) = .ok x (G ++ .lst C :: (Z ++ [.lst ps])) := by
   simp only [jt, eS, List.getElem?_cons_succ, List.getElem?_cons_zero, fQ, gk, g0, jr, pI, hix, hdl, beq_self_eq_true, if_true, s0]
  have e1 : oE [a0, a1, a2, some (.obj G.length), a4, some (.obj (G.length + (Z.length + 1))), some (.int (0 + (j : Int)))] (G ++ .lst (C ++ [x]) :: (Z ++ [.lst ps])) = .nx [a0, a1, a2, some (.obj G.length), a4, some (.obj (G.length + (Z.length + 1))), some (.int (0 + (j : Int)))] (G ++ .lst C :: (Z ++ [.lst (ps ++ [x])])) := by
   simp only [oE, yr, jt (g := bX), eS, List.getElem?_cons_succ, List.getElem?_cons_zero, fQ, gk, g1, jT, ep, jr, aT, oY, bX, beq_self_eq_true, if_true, hz, s1, z9]
  rw [List.length_cons, List.range'_succ, List.map_cons, eB rfl]
  simp only [List.set_cons_succ, List.set_cons_zero, e1, jU]
  rw [e]
  simp
theorem Jf : List.lookup ("tree_text" : Str) [("tree_text", fD)] = some fD := by
 simp only [List.lookup, beq_self_eq_true]
theorem GI (G Z : DH) (a0 a5 a6 : Option D) (B : List D) {nm : List Nat} {ts : List Tr} (h : (Tr.nd nm ts).Ok) (hsz : mL ts ≤ 1000) (hB : B.length ≤ 10000) :
  ∃ (b5 b6 : Option D), gx [a0, some (.fn "tree_parts"), some (.fn "tree_text"), some (.obj G.length), some (Tr.nd nm ts).D, a5, a6] (G ++ .lst (B ++ (ts.map iQ).reverse) :: Z) =
   .nx [a0, some (.fn "tree_parts"), some (.fn "tree_text"), some (.obj G.length), some (Tr.nd nm ts).D, b5, b6] (G ++ .lst (B ++ [iQ (.nd nm ts)]) :: (Z ++ [.dead])) := by
 have hlt := tN ts
 obtain ⟨b6, e⟩ := xP G Z a0 (some (.fn "tree_parts")) (some (.fn "tree_text")) (some (Tr.nd nm ts).D) B (ts.map iQ) 0 [] a6 (by simp; omega)
 have ep := fun G => pB nm ts (by omega) G
 have et := fun G => zm h hsz G
 have hr := qC (j := (ts.length : Int)) (by omega) (by omega)
 rw [Int.toNat_natCast] at hr
 rw [List.length_map] at e
 generalize ((List.range' 0 ts.length).map fun (k : Nat) => D.int (0 + (k : Int))) = rg at hr e
 have hz : ts.length ≤ sizeLine := lz (by omega)
 have WQ : B.length < sizeLine := Nat.lt_of_lt_of_le (by omega) (lz (n := 20000) (by omega))
 generalize (Tr.nd nm ts).D = td at e ep et
 generalize iQ (.nd nm ts) = tx at et
 rw [List.nil_append] at e
 refine ⟨some (.obj (G.length + (Z.length + 1))), b6, ?_⟩
 have n0 : ∀ M : DO, bM [] (G ++ M :: Z) = .ok (.obj (G.length + (Z.length + 1))) (G ++ M :: (Z ++ [.lst []])) := fun M => by simp [bM]
 have Jc : ∀ (M : DO) (xs : List D), (Out.ok (D.obj (G.length + (Z.length + 1))) (G ++ M :: (Z ++ [.lst xs]))).fz = .ok (.con xs) (G ++ M :: (Z ++ [.dead])) := fun M xs => by
  simp only [Out.fz, JQ, JR]
 have g0 : ∀ x Y, (G ++ x :: Y)[G.length]? = some x := fun x Y => uS G x Y
 have s0 : ∀ x z Y, (G ++ x :: Y).set G.length z = G ++ z :: Y := fun x z Y => Et G x z Y
 simp! [gx, n0, AS, ep, hz, hr, e, g0, s0, Jf, Jc, et, WQ]
mutual
theorem C5 (G : DH) (a0 : Option D) : ∀ (t : Tr), t.Ok → t.sz ≤ 1000 → ∀ (B : List D) (Z : DH) (a4 a5 a6 : Option D), B.length + t.sz ≤ 5000 → ∃ (Z' : DH) (b4 b5 b6 : Option D), ∀ rest : List D,
  cJ (gN 4) gx (t.pre.reverse.map Tr.D ++ rest) [a0, some (.fn "tree_parts"), some (.fn "tree_text"), some (.obj G.length), a4, a5, a6] (G ++ .lst B :: Z) =
  cJ (gN 4) gx rest [a0, some (.fn "tree_parts"), some (.fn "tree_text"), some (.obj G.length), b4, b5, b6] (G ++ .lst (B ++ [iQ t]) :: Z')
 | .nd nm ts, h, hz, B, Z, a4, a5, a6, hB => by
  rw [Tr.sz] at hz hB
  obtain ⟨Z', b4, b5, b6, e⟩ := AY G a0 ts (by rw [Tr.Ok] at h; exact h.2) (by omega) B Z a4 a5 a6 (by omega)
  obtain ⟨c5, c6, e1⟩ := GI G Z' a0 b5 b6 B h (by omega) (by omega)
  refine ⟨Z' ++ [.dead], some (Tr.nd nm ts).D, c5, c6, fun rest => ?_⟩
  have er : (Tr.nd nm ts).pre.reverse.map Tr.D ++ rest = (jN ts).reverse.map Tr.D ++ (Tr.nd nm ts).D :: rest := by
   rw [Tr.pre, List.reverse_cons, List.map_append, List.append_assoc]; rfl
  rw [er, e, eB rfl]
  simp only [List.set_cons_succ, List.set_cons_zero, e1, jU]
theorem AY (G : DH) (a0 : Option D) : ∀ (ts : List Tr), zh ts → mL ts ≤ 1000 → ∀ (B : List D) (Z : DH) (a4 a5 a6 : Option D), B.length + mL ts ≤ 5000 → ∃ (Z' : DH) (b4 b5 b6 : Option D), ∀ rest : List D,
  cJ (gN 4) gx ((jN ts).reverse.map Tr.D ++ rest) [a0, some (.fn "tree_parts"), some (.fn "tree_text"), some (.obj G.length), a4, a5, a6] (G ++ .lst B :: Z) =
  cJ (gN 4) gx rest [a0, some (.fn "tree_parts"), some (.fn "tree_text"), some (.obj G.length), b4, b5, b6] (G ++ .lst (B ++ (ts.map iQ).reverse) :: Z')
 | [], _, _, B, Z, a4, a5, a6, _ => ⟨Z, a4, a5, a6, fun rest => by simp [jN]⟩
 | t :: ts, h, hz, B, Z, a4, a5, a6, hB => by
  rw [zh] at h
  rw [mL] at hz hB
  have hlt := tN ts
  obtain ⟨Z', b4, b5, b6, e⟩ := AY G a0 ts h.2 (by omega) B Z a4 a5 a6 (by omega)
  obtain ⟨Z2, c4, c5, c6, e1⟩ := C5 G a0 t h.1 (by omega) (B ++ (ts.map iQ).reverse) Z' b4 b5 b6 (by simp; omega)
  refine ⟨Z2, c4, c5, c6, fun rest => ?_⟩
  have er : (jN (t :: ts)).reverse.map Tr.D ++ rest = (jN ts).reverse.map Tr.D ++ (t.pre.reverse.map Tr.D ++ rest) := by
   rw [jN, List.reverse_append, List.map_append, List.append_assoc]
  rw [er, e, e1]
  simp
end
theorem Em {t : Tr} (h : t.Ok) (hz : t.sz ≤ 1000) (G : DH) : nF [t.D, .fn "tree_parts", .fn "tree_text"] G = .ok (iQ t) G := by
 obtain ⟨Z', b4, b5, b6, e⟩ := C5 G (some t.D) t h hz [] [] none none none (by simp; omega)
 have e := e []
 rw [List.append_nil, FL, List.nil_append, List.map_reverse] at e
 have ew := El t hz (G ++ [.lst []])
 have n0 : bM [] G = .ok (.obj G.length) (G ++ [.lst []]) := by simp [bM]
 have hfr := fun τ G => IQ (g := gN 4) (body := gx) (xs := t.pre.map Tr.D) (τ := τ) (G := G)
 rw [List.length_map] at hfr
 have g0 : ∀ x Y, (G ++ x :: Y)[G.length]? = some x := fun x Y => uS G x Y
 have a0 : jQ [iQ t] 0 = some (iQ t) := rfl
 unfold nF
 refine lI (R := .lst [iQ t] :: Z') ?_ bf
 simp! [qR, n0, ew, hfr, e, g0, a0]
theorem Jg {t : Tr} (h : t.Ok) (hz : t.sz ≤ 1000) (G : DH) : fF [t.D] G = .ok (iQ t) G := by
 have e := Em h hz G
 unfold fF
 refine eE ?_ bf
 simp! [j0, e]
end K12
end
section
set_option Elab.async false
set_option linter.all false
set_option maxRecDepth 100000
set_option maxHeartbeats 1000000
namespace K12
open PySem PySem.Spec L2 L3
theorem En (ns pre : List Int) (G : DH) (k : Nat) (m : Int) (c : Option D) (hl : ns.length ≤ 63) (hp : pre.length ≤ 1000) :
  ∃ (x : Int) (c' : Option D), fZ [some (.con (ns.map .int)), some (.int m), some (.obj G.length), some (.int (0 + (k : Int))), c] (G ++ [.lst (pre.map .int)]) =
   .nx [some (.con (ns.map .int)), some (.int m), some (.obj G.length), some (.int (0 + (k : Int))), c'] (G ++ [.lst ((pre ++ [x]).map .int)]) := by
 have Uk : pre.length < sizeLine := Nat.lt_of_lt_of_le (by omega) (lz (n := 2000) (by omega))
 by_cases h0 : 0 < ns.length
 ·have hm : (0 : Int) ≤ (k : Int) % (ns.length : Int) ∧ (k : Int) % (ns.length : Int) < ns.length := ⟨Int.emod_nonneg _ (by omega), Int.emod_lt_of_pos _ (by omega)⟩
  obtain ⟨d, ed, RX⟩ := zY (xs := ns.map D.int) (i := (k : Int) % (ns.length : Int)) hm.1 (by simpa using hm.2)
  obtain ⟨v, ev⟩ : ∃ v, d = .int v := by
   have := List.mem_of_getElem? RX
   simp at this
   obtain ⟨v, _, rfl⟩ := this
   exact ⟨v, rfl⟩
  subst ev
  have WR : (if 1 < ns.length then (ns.length : Int) else 1) = ns.length := by split <;> omega
  have hlt : ns.length < 1073741824 := by omega
  have RY : (if (1 : Int) < (ns.length : Int) then (ns.length : Int) else 1) = ns.length := by split <;> omega
  have RZ : (ns.length : Int) < 1073741824 := by omega
  have WS : (0 : Int) < (ns.length : Int) := by omega
  refine ⟨v % 1000000000000000000 + 7919 * ((k : Int) / (ns.length : Int)), some (.int (v % 1000000000000000000)), ?_⟩
  simp! [fZ, h0, ed, WR, hlt, Uk, RY, RZ, WS, uS, Et]
 ·have h1 : ns = [] := by
   cases ns with
   | nil => rfl
   | cons a r => exact absurd (by simp) h0
  subst h1
  refine ⟨0 + 7919 * ((k : Int) / 1), some (.int 0), ?_⟩
  simp! [fZ, Uk, uS, Et]
theorem vH (ns : List Int) (G : DH) (mm : Int) (hl : ns.length ≤ 63) : ∀ (m j : Nat) (pre : List Int) (a3 a4 : Option D), pre.length + m ≤ 1000 →
  ∃ (ds : List Int) (b3 b4 : Option D), ds.length = m ∧ cJ (gN 3) fZ ((List.range' j m).map fun (k : Nat) => .int (0 + (k : Int))) [some (.con (ns.map .int)), some (.int mm), some (.obj G.length), a3, a4] (G ++ [.lst (pre.map .int)]) =
   .nx [some (.con (ns.map .int)), some (.int mm), some (.obj G.length), b3, b4] (G ++ [.lst ((pre ++ ds).map .int)])
 | 0, j, pre, a3, a4, h => ⟨[], a3, a4, rfl, by simp [cJ]⟩
 | m + 1, j, pre, a3, a4, h => by
  obtain ⟨x, c', e⟩ := En ns pre G j mm a4 hl (by omega)
  obtain ⟨ds, b3, b4, hd, ih⟩ := vH ns G mm hl m (j + 1) (pre ++ [x]) (some (.int (0 + (j : Int)))) c' (by simp; omega)
  refine ⟨x :: ds, b3, b4, by simp [hd], ?_⟩
  rw [List.range'_succ, List.map_cons, eB rfl]
  simp only [List.set_cons_succ, List.set_cons_zero, e, jU]
  rw [ih]
  simp
theorem GJ (ns : List Int) (m : Nat) (hm : m ≤ 900) (hl : ns.length ≤ 63) (G : DH) : ∃ ds : List Int, ds.length = m ∧ fJ [.con (ns.map .int), .int m] G = .ok (.con (ds.map .int)) G := by
 obtain ⟨ds, b3, b4, hd, e⟩ := vH ns G m hl m 0 [] none none (by simp; omega)
 refine ⟨ds, hd, ?_⟩
 have hr := qC (j := (m : Int)) (by omega) (by omega)
 rw [Int.toNat_natCast] at hr
 unfold fJ
 refine lI (R := [.dead]) ?_ (by rw [jw]; exact bI fun _ => uZ)
 generalize ((List.range' 0 m).map fun (k : Nat) => D.int (0 + (k : Int))) = its at hr e
 simp only [List.map_nil, List.nil_append] at e
 simp! [iW, hr, e, Al, bM]
theorem C6 (i : Int) (G : DH) : dY (.str gU) (.int (i % 26)) G = .ok (.str (aU [97 + (i % 26).toNat])) G := by
 have RV : ∀ k < 26, gU.cps.toList[k]? = some (97 + k) := by decide +kernel
 have hk := RV (i % 26).toNat (by omega)
 have ha : jQ gU.cps.toList (i % 26) = some (97 + (i % 26).toNat) := by
  have := gB hk
  rwa [show (((i % 26).toNat : Nat) : Int) = i % 26 by omega] at this
 have hz : gU.length ≤ sizeLine := lz (by decide +kernel)
 simp only [dY, bz, hz, if_true, ha]
 rfl
theorem xQ (c : Int) : ∀ (m j : Nat) (l : List Nat) (a3 a4 a5 : Option D), j + m ≤ 7 → l.length = j + 1 → (∀ x ∈ l, 97 ≤ x ∧ x ≤ 122) →
  ∃ (l' : List Nat) (b3 b4 : Option D), l'.length = j + m + 1 ∧ (∀ x ∈ l', 97 ≤ x ∧ x ≤ 122) ∧ ∀ G, cJ (gN 3) gG ((List.range' j m).map fun (k : Nat) => .int (0 + (k : Int))) [some (.int c), some (.str gU), some (.str (aU l)), a3, a4, a5] G = .nx [some (.int c), some (.str gU), some (.str (aU l')), b3, b4, a5] G
 | 0, j, l, a3, a4, a5, h, k1, k2 => ⟨l, a3, a4, by omega, k2, fun G => by simp [cJ]⟩
 | m + 1, j, l, a3, a4, a5, h, k1, k2 => by
  have es := C6 (c / 208 + 7 * (j : Int) * (j : Int) + c / 5408 % 26 * (j : Int))
  generalize hv : (c / 208 + 7 * (j : Int) * (j : Int) + c / 5408 % 26 * (j : Int)) = v at es
  have hd : 97 ≤ 97 + (v % 26).toNat ∧ 97 + (v % 26).toNat ≤ 122 := by omega
  have ha : ∀ G, dJ (.str (aU l)) (.str (aU [97 + (v % 26).toNat])) G = .ok (.str (aU (l ++ [97 + (v % 26).toNat]))) G := fun G => by
   obtain ⟨t, e, hc, _⟩ := B9 (aU l) (aU [97 + (v % 26).toNat]) G (by rw [iB, iB]; simp; omega)
   rw [e]
   have : t = aU (l ++ [97 + (v % 26).toNat]) := qE (by rw [hc, fY, fY, fY])
   rw [this]
  obtain ⟨l', b3, b4, ku, lu, ih⟩ := xQ c m (j + 1) (l ++ [97 + (v % 26).toNat]) (some (.int (0 + (j : Int)))) (some (.int v)) a5 (by omega) (by simp; omega) (fun x hx => by
   rcases List.mem_append.mp hx with hx | hx
   ·exact k2 x hx
   ·simp at hx; omega)
  refine ⟨l', b3, b4, by omega, lu, fun G => ?_⟩
  have hjl : -18446744073709551616 < (j : Int) := by omega
  have WT : (j : Int) < 18446744073709551616 := by omega
  have e : gG [some (.int c), some (.str gU), some (.str (aU l)), some (.int (0 + (j : Int))), a4, a5] G = .nx [some (.int c), some (.str gU), some (.str (aU (l ++ [97 + (v % 26).toNat]))), some (.int (0 + (j : Int))), some (.int v), a5] G := by
   simp [gG, cL, pL, jq, eS, Aa, fQ, aT, jl, oY, Ny, uT, fc, hv, es, ha, hjl, WT]
  rw [List.range'_succ, List.map_cons, eB rfl]
  simp only [List.set_cons_succ, List.set_cons_zero, e, jU]
  exact ih G
theorem L5 : ∀ w ∈ words, words.any (· == aU (w.cps.toList ++ [122])) = false ∧ w.cps.toList.length ≤ 7 := by decide +kernel
theorem Jh (c : Int) : ∃ l : List Nat, Nm l ∧ ∀ G, dM [.int c] G = .ok (.str (aU l)) G := by
 obtain ⟨l, b3, b4, ku, lu, e⟩ := xQ c (c / 26 % 8).toNat 0 [97 + (c % 26).toNat] none none none (by omega) rfl (by simp; omega)
 have es := C6 c
 have hr := qC (j := c / 26 % 8) (by omega) (by omega)
 generalize ((List.range' 0 (c / 26 % 8).toNat).map fun (k : Nat) => D.int (0 + (k : Int))) = its at hr e
 have hg : PyData.strOk (aU l) = true := AQ fun x hx => by have := lu x hx; omega
 have hin := fun G => zX (aU l) words G hg (by decide +kernel)
 have hcl : aR (words.map D.str) = true := bI fun _ => bf
 have hfw := fun G => iu (G := G) (ds := words.map D.str) (lz (by simp [words])) hcl
 have WU : l.length ≤ 8 := by omega
 have hne : l ≠ [] := fun z => by rw [z] at ku; simp at ku
 have es' : ∀ G, dY (.str "abcdefghijklmnopqrstuvwxyz") (.int (c % 26)) G = .ok (.str (aU [97 + (c % 26).toNat])) G := es
 have e' : ∀ G, cJ (gN 3) gG its [some (.int c), some (.str "abcdefghijklmnopqrstuvwxyz"), some (.str (aU [97 + (c % 26).toNat])), none, none, none] G = .nx [some (.int c), some (.str "abcdefghijklmnopqrstuvwxyz"), some (.str (aU l)), b3, b4, none] G := e
 cases hb : words.any (· == aU l) with
 | true =>
  obtain ⟨w, hw, R0⟩ := List.any_eq_true.mp hb
  have L6 : w = aU l := by simpa using R0
  obtain ⟨z1, z2⟩ := L5 w hw
  rw [L6, fY] at z1 z2
  refine ⟨l ++ [122], ⟨by simp, by simp; omega, fun x hx => ?_, z1⟩, fun G => ?_⟩
  ·rcases List.mem_append.mp hx with hx | hx
   ·exact lu x hx
   ·simp at hx; omega
  ·obtain ⟨t, et, hc, _⟩ := B9 (aU l) "z" G (by rw [iB, show ("z" : Str).length = 1 by decide +kernel]; omega)
   have ht : t = aU (l ++ [122]) := qE (by rw [hc, fY, fY]; rfl)
   rw [ht] at et
   have Ca := hin G
   have GK := hfw G
   rw [hb] at Ca
   simp only [words, List.map_cons, List.map_nil] at Ca GK
   unfold dM
   refine eE ?_ bf
   simp [iE, uV, cL, pL, jq, eS, Aa, fQ, aT, jl, oY, et, uT, fc, es', om, jT, jr, CJ, hr, e', lM, ju, oj, GK, zZ, Ac, Dz, bz, Ca, uU, DY, FE, yt, CD, CC, CK, um]
 | false =>
  refine ⟨l, ⟨hne, WU, lu, hb⟩, fun G => ?_⟩
  have Ca := hin G
  have GK := hfw G
  rw [hb] at Ca
  simp only [words, List.map_cons, List.map_nil] at Ca GK
  unfold dM
  refine eE ?_ bf
  simp [iE, uV, cL, pL, jq, eS, Aa, fQ, aT, jl, oY, uT, fc, es', om, jT, jr, CJ, hr, e', lM, ju, oj, GK, zZ, Ac, Dz, bz, Ca, uU, DY, FE, yt, CD, CC, CK, um]
noncomputable def aP (ps : List (List Nat)) : List D := ps.map fun l => .str (aU l)
theorem C7 (ps : List (List Nat)) (h : ∀ l ∈ ps, Nm l) (hn : ps ≠ []) (v : Int) : ∃ l, Nm l ∧ jQ (aP ps) (v % (ps.length : Int)) = some (.str (aU l)) := by
 have hp : 0 < ps.length := List.length_pos_iff.mpr hn
 have h0 : 0 ≤ v % (ps.length : Int) := Int.emod_nonneg _ (by omega)
 have h1 : v % (ps.length : Int) < ps.length := Int.emod_lt_of_pos _ (by omega)
 obtain ⟨d, e, e'⟩ := zY (xs := aP ps) h0 (by simpa [aP] using h1)
 have := List.mem_of_getElem? e'
 obtain ⟨l, hl, rfl⟩ := List.mem_map.mp this
 exact ⟨l, h l hl, e⟩
theorem GL (ns : List Int) (lo hi : Option Int) : ∃ ys : List Int, cutD (ns.map .int) lo hi = ys.map .int ∧ ys.length ≤ ns.length := by
 refine ⟨(ns.drop (HT.gh ns.length 0 lo)).take (HT.gh ns.length ns.length hi - HT.gh ns.length 0 lo), ?_, ?_⟩
 ·simp [cutD, List.map_take, List.map_drop]
 ·simp; omega
noncomputable def Ch (x : Str) : Prop := ∀ c ∈ x.cps.toList, c < 1114112
theorem ja (x z : Str) (c k : Nat) (zs : List Str) (v : Int) (hx : Ch x) (hl : x.length ≤ 100000) (hv : 0 ≤ v ∧ v < 1000) (hz : zs[v.toNat]? = some z) (hk : z.length ≤ k) (hk1 : 1 ≤ k) (hk2 : k ≤ 10) (R1 : ∀ a ∈ z.cps.toList, a < 1114112) (R3 : ∀ y cur, bw cur (rp c z.cps.toList y) = bw cur y) :
  ∃ y : Str, (∀ G, jx ⟨#[c]⟩ zs x (.int v) G = .ok (.str y) G) ∧ bw [] y.cps.toList = bw [] x.cps.toList ∧ Ch y ∧ y.length ≤ k * x.length := by
 refine ⟨Txt.replace x ⟨#[c]⟩ z, fun G => IT hv hz (by omega) (by omega), ?_, ?_, ?_⟩
 ·rw [je, R3]
 ·intro a ha
  rw [je] at ha
  rcases zj ha with h | h
  ·exact R1 a h
  ·exact hx a h
 ·rw [str_len, str_len, je]
  exact u6 c k _ (by rw [← str_len]; exact hk) hk1 _
theorem GN (x : Str) (hx : Ch x) (hl : x.length ≤ 100000) (v : Int) : ∃ y : Str, (∀ G, jx " " [" ", "  ", "\n "] x (.int (v % 3)) G = .ok (.str y) G) ∧ bw [] y.cps.toList = bw [] x.cps.toList ∧ Ch y ∧ y.length ≤ 4 * x.length := by
 rcases (by omega : v % 3 = 0 ∨ v % 3 = 1 ∨ v % 3 = 2) with q | q | q <;> rw [q]
 ·exact ja x " " 32 4 _ 0 hx hl (by omega) rfl (by decide +kernel) (by omega) (by omega) (by decide +kernel) (fun y cur => BI _ (.inl rfl) y cur)
 ·exact ja x "  " 32 4 _ 1 hx hl (by omega) rfl (by decide +kernel) (by omega) (by omega) (by decide +kernel) (fun y cur => BI _ (.inr (.inl rfl)) y cur)
 ·exact ja x "\n " 32 4 _ 2 hx hl (by omega) rfl (by decide +kernel) (by omega) (by omega) (by decide +kernel) (fun y cur => BI _ (.inr (.inr rfl)) y cur)
theorem GO (x : Str) (hx : Ch x) (hl : x.length ≤ 100000) (v : Int) : ∃ y : Str, (∀ G, jx "(" ["( ", "\n(", " ( "] x (.int (v % 3)) G = .ok (.str y) G) ∧ bw [] y.cps.toList = bw [] x.cps.toList ∧ Ch y ∧ y.length ≤ 4 * x.length := by
 rcases (by omega : v % 3 = 0 ∨ v % 3 = 1 ∨ v % 3 = 2) with q | q | q <;> rw [q]
 ·exact ja x "( " 40 4 _ 0 hx hl (by omega) rfl (by decide +kernel) (by omega) (by omega) (by decide +kernel) (fun y cur => BJ _ (.inl rfl) y cur)
 ·exact ja x "\n(" 40 4 _ 1 hx hl (by omega) rfl (by decide +kernel) (by omega) (by omega) (by decide +kernel) (fun y cur => BJ _ (.inr (.inl rfl)) y cur)
 ·exact ja x " ( " 40 4 _ 2 hx hl (by omega) rfl (by decide +kernel) (by omega) (by omega) (by decide +kernel) (fun y cur => BJ _ (.inr (.inr rfl)) y cur)
theorem GP (x : Str) (hx : Ch x) (hl : x.length ≤ 100000) (v : Int) : ∃ y : Str, (∀ G, jx ")" [" )", ")\n", "\n ) "] x (.int (v % 3)) G = .ok (.str y) G) ∧ bw [] y.cps.toList = bw [] x.cps.toList ∧ Ch y ∧ y.length ≤ 4 * x.length := by
 rcases (by omega : v % 3 = 0 ∨ v % 3 = 1 ∨ v % 3 = 2) with q | q | q <;> rw [q]
 ·exact ja x " )" 41 4 _ 0 hx hl (by omega) rfl (by decide +kernel) (by omega) (by omega) (by decide +kernel) (fun y cur => BK _ (.inl rfl) y cur)
 ·exact ja x ")\n" 41 4 _ 1 hx hl (by omega) rfl (by decide +kernel) (by omega) (by omega) (by decide +kernel) (fun y cur => BK _ (.inr (.inl rfl)) y cur)
 ·exact ja x "\n ) " 41 4 _ 2 hx hl (by omega) rfl (by decide +kernel) (by omega) (by omega) (by decide +kernel) (fun y cur => BK _ (.inr (.inr rfl)) y cur)
theorem Cb (c : Int) : ∃ l : List Nat, Nm l ∧ ∀ G, dM [.int c] G = .ok (.str (aU l)) G := Jh c
noncomputable def JS (c : Int) : List Nat := Classical.choose (Cb c)
theorem L7 (c : Int) : Nm (JS c) := (Classical.choose_spec (Cb c)).1
theorem Ji (c : Int) (G : DH) : dM [.int c] G = .ok (.str (aU (JS c))) G := (Classical.choose_spec (Cb c)).2 G
noncomputable def zp (ds : List Int) (k : Nat) : Int := ds.getD k 0
theorem tP (ds : List Int) (k : Nat) (h : k < ds.length) : jQ (ds.map D.int) (k : Int) = some (.int (zp ds k)) := by
 unfold zp
 refine gB ?_
 rw [List.getElem?_map, List.getElem?_eq_getElem h]
 simp [List.getD, List.getElem?_eq_getElem h]
theorem vI (a0 a1 a3 : Option D) (G : DH) : ∀ (m j : Nat) (pre : List Int) (v : Int) (a5 : Option D), 0 ≤ v → v < 4294967296 → j + m ≤ 100 → pre.length + m ≤ 1000 →
  ∃ (cs : List Int) (b4 b5 : Option D), cs.length = m ∧ cJ (gN 5) iz ((List.range' j m).map fun (k : Nat) => .int (0 + (k : Int))) [a0, a1, some (.obj G.length), a3, some (.int v), a5] (G ++ [.lst (pre.map .int)]) =
   .nx [a0, a1, some (.obj G.length), a3, b4, b5] (G ++ [.lst ((pre ++ cs).map .int)])
 | 0, j, pre, v, a5, _, _, _, _ => ⟨[], some (.int v), a5, rfl, by simp [cJ]⟩
 | m + 1, j, pre, v, a5, h0, h1, hj, hp => by
  have hr0 : 0 ≤ (v * 48271 + 7919 + (j : Int)) % 2147483647 := Int.emod_nonneg _ (by omega)
  have hr1 : (v * 48271 + 7919 + (j : Int)) % 2147483647 < 2147483647 := Int.emod_lt_of_pos _ (by omega)
  obtain ⟨cs, b4, b5, hl, e⟩ := vI a0 a1 a3 G m (j + 1) (pre ++ [(v * 48271 + 7919 + (j : Int)) % 2147483647]) ((v * 48271 + 7919 + (j : Int)) % 2147483647) (some (.int (0 + (j : Int)))) hr0 (by omega) (by omega) (by simp; omega)
  refine ⟨(v * 48271 + 7919 + (j : Int)) % 2147483647 :: cs, b4, b5, by simp [hl], ?_⟩
  have hz : pre.length < sizeLine := Nat.lt_of_lt_of_le (by omega) (lz (n := 2000) (by omega))
  have hv1 : -18446744073709551616 < v := by omega
  have hv2 : v < 18446744073709551616 := by omega
  have e1 : iz [a0, a1, some (.obj G.length), a3, some (.int v), some (.int (0 + (j : Int)))] (G ++ [.lst (pre.map .int)]) = .nx [a0, a1, some (.obj G.length), a3, some (.int ((v * 48271 + 7919 + (j : Int)) % 2147483647)), some (.int (0 + (j : Int)))] (G ++ [.lst ((pre ++ [(v * 48271 + 7919 + (j : Int)) % 2147483647]).map .int)]) := by
   simp! [iz, hv1, hv2, uS, Et, hz]
  rw [List.range'_succ, List.map_cons, eB rfl]
  simp only [List.set_cons_succ, List.set_cons_zero, e1, jU]
  rw [e]
  simp
theorem GQ (ns : List Int) (hl : ns.length ≤ 63) (G : DH) : ∃ cs : List Int, cs ≠ [] ∧ cs.length ≤ 110 ∧ fL [.con (ns.map .int), .int 1] G = .ok (.con (cs.map .int)) G := by
 obtain ⟨y1, e1, l1⟩ := GL ns (some 2) (some 64)
 have ci : ∀ l : List Int, aR (l.map D.int) = true := fun l => bI fun _ => uZ
 have f1 : (bM (y1.map D.int) G).fw G = .ok (.con (y1.map .int)) G := iu (lz (by simp; omega)) (ci _)
 have cc := sr (gO := oN) (ks := []) (te := aF d7 (ah 0) (aF ER (eC (.int 10)) (eC (.int 18)))) (own := fun d => [d]) (f := fun d => match d with | .int i => .int (i % 1000000000000000000) | d => d) (G := G) (τ := [some (.con (ns.map .int)), some (.int 1), none, none, none, none]) (y1.map D.int) [] (by simp; omega) (fun _ _ => rfl) (by
  intro x hx acc
  obtain ⟨i, _, rfl⟩ := List.mem_map.mp hx
  simp! [mask])
 rw [List.map_map] at cc
 have hid : (y1.map ((fun d => match d with | D.int i => D.int (i % 1000000000000000000) | d => d) ∘ D.int)) = (y1.map (· % 1000000000000000000)).map D.int := by
  rw [List.map_map]
  exact List.map_congr_left fun _ _ => rfl
 rw [hid, List.nil_append] at cc
 have WV : (y1.map (· % 1000000000000000000)).length ≤ 63 := by simp; omega
 generalize (y1.map (· % 1000000000000000000)) = y2 at cc WV
 have hz : ns.length ≤ sizeLine := lz (by omega)
 obtain ⟨mm, hm1, hm2, em⟩ : ∃ mm : Nat, 1 ≤ mm ∧ mm ≤ 38 ∧ ∀ (a4 a5 : Option D) (G : DH), (oh (xh (kJ (aF xg (aC gj (ai (ah 0) (aq))) (eC (.int 1)))) (kJ (aF (kI false) (aF d7 (aF dY (ah 0) (eC (.int 1))) (eC (.int 4))) (eC (.int 1))))) (bC 3 (aC (lF fun i j => if j > i then j else i) (ai (ah 1) (ai (aF d7 (aF iC (aF dY (ah 0) (eC (.int 1))) (eC (.int 4))) (eC (.int 38))) (aq))))) (cP)) [some (.con (ns.map .int)), some (.int 1), some (.obj G.length), some (.int 1), a4, a5] (G ++ [.lst (y2.map .int)]) = .nx [some (.con (ns.map .int)), some (.int 1), some (.obj G.length), some (.int mm), a4, a5] (G ++ [.lst (y2.map .int)]) := by
  by_cases h1 : 1 < ns.length
  ·have x1 := tP ns 1 h1
   generalize zp ns 1 = v at x1
   have ON : jQ (ns.map D.int) 1 = some (.int v) := x1
   have JT : (1 : Int) < (ns.length : Int) := by omega
   cases hb : (v % 4 == 1) with
   | true =>
    by_cases hg : 1 < v / 4 % 38
    ·refine ⟨(v / 4 % 38).toNat, by omega, by omega, fun a4 a5 G => ?_⟩
     have ht : ((v / 4 % 38).toNat : Int) = v / 4 % 38 := by omega
     simp! [hz, xg, h1, JT, ON, e9, hb, hg, ht]
    ·refine ⟨1, by omega, by omega, fun a4 a5 G => ?_⟩
     simp! [hz, xg, h1, JT, ON, e9, hb, hg]
   | false =>
    refine ⟨1, by omega, by omega, fun a4 a5 G => ?_⟩
    simp! [hz, xg, h1, JT, ON, e9, hb]
  ·refine ⟨1, by omega, by omega, fun a4 a5 G => ?_⟩
   have JT : ¬ (1 : Int) < (ns.length : Int) := by omega
   simp! [hz, xg, h1, JT]
 obtain ⟨v0, hv0, hv1, ev⟩ : ∃ v0 : Int, 0 ≤ v0 ∧ v0 < 4294967296 ∧ ∀ (a3 a5 : Option D) (G : DH), (oh (kJ (aF xg (aC gj (ai (ah 0) (aq))) (eC (.int 0)))) (bC 4 (aF d7 (aF dY (ah 0) (eC (.int 0))) (eC (.int 1000003)))) (cP)) [some (.con (ns.map .int)), some (.int 1), some (.obj G.length), a3, some (.int 12345), a5] (G ++ [.lst (y2.map .int)]) = .nx [some (.con (ns.map .int)), some (.int 1), some (.obj G.length), a3, some (.int v0), a5] (G ++ [.lst (y2.map .int)]) := by
  by_cases h1 : 0 < ns.length
  ·have x1 := tP ns 0 h1
   generalize zp ns 0 = v at x1
   have ON : jQ (ns.map D.int) 0 = some (.int v) := x1
   have JT : (0 : Int) < (ns.length : Int) := by omega
   refine ⟨v % 1000003, by omega, by omega, fun a3 a5 G => ?_⟩
   simp! [hz, xg, h1, JT, ON]
  ·have JT : ¬ (0 : Int) < (ns.length : Int) := by omega
   have hn : ns = [] := by cases ns with
    | nil => rfl
    | cons a r => exact absurd (by simp) h1
   subst hn
   refine ⟨12345, by omega, by omega, fun a3 a5 G => ?_⟩
   simp! [xg]
 obtain ⟨cs, b4, b5, hcl, el⟩ := vI (some (.con (ns.map .int))) (some (.int 1)) (some (.int mm)) G mm 0 y2 v0 none hv0 hv1 (by omega) (by omega)
 have hr := qC (j := (mm : Int)) (by omega) (by omega)
 rw [Int.toNat_natCast] at hr
 generalize ((List.range' 0 mm).map fun (k : Nat) => D.int (0 + (k : Int))) = rg at hr el
 refine ⟨y2 ++ cs, fun z => ?_, by rw [List.length_append]; omega, ?_⟩
 ·have := congrArg List.length z
  rw [List.length_append, hcl, List.length_nil] at this
  omega
 ·unfold fL
  refine lI (R := [.dead]) ?_ (by rw [jw]; exact ci _)
  have WW := em none none G
  have ev' := ev (some (.int mm)) none G
  have Jc : ∀ xs, (Out.ok (D.obj G.length) (G ++ [.lst xs])).fz = .ok (.con xs) (G ++ [.dead]) := fun xs => Al
  have eA : (bC 2 (gD oN [] (eFn (Jt (ah 0) (nc (eC (.int 2))) (nc (eC (.int 64))))) (iN) (aF d7 (ah 0) (aF ER (eC (.int 10)) (eC (.int 18)))))) [some (.con (ns.map .int)), some (.int 1), none, none, none, none] G = .nx [some (.con (ns.map .int)), some (.int 1), some (.obj G.length), none, none, none] (G ++ [.lst (y2.map .int)]) := by
   simp! [K9, e1, ju, f1, cc]
  have s3 : (bC 3 (ah 1)) [some (.con (ns.map .int)), some (.int 1), some (.obj G.length), none, none, none] (G ++ [.lst (y2.map .int)]) = .nx [some (.con (ns.map .int)), some (.int 1), some (.obj G.length), some (.int 1), none, none] (G ++ [.lst (y2.map .int)]) := by simp! []
  have s4 : (bC 4 (eC (.int 12345))) [some (.con (ns.map .int)), some (.int 1), some (.obj G.length), some (.int mm), none, none] (G ++ [.lst (y2.map .int)]) = .nx [some (.con (ns.map .int)), some (.int 1), some (.obj G.length), some (.int mm), some (.int 12345), none] (G ++ [.lst (y2.map .int)]) := by simp! []
  have hb : eU [some (.con (ns.map .int)), some (.int 1), none, none, none, none] G = .rt (.con ((y2 ++ cs).map .int)) (G ++ [.dead]) := by
   rw [eU, cL, eA, fc, oZ, cL, s3, fc, cL, WW, fc, cL, s4, fc, cL, ev', fc]
   generalize (y2 ++ cs).map D.int = ws at el ⊢
   simp! [hr, el, Jc]
  show cT 6 eU [.con (ns.map .int), .int 1] G = _
  rw [uV]
  show (eU [some (.con (ns.map .int)), some (.int 1), none, none, none, none] G).fn = _
  rw [hb]; rfl
end K12
end
section
set_option Elab.async false
set_option linter.all false
set_option maxRecDepth 100000
set_option maxHeartbeats 1000000
namespace K12
open PySem PySem.Spec L2 L3
noncomputable def gX (aQ : List (List Nat)) (i : Nat) : List Nat := aQ.getD i []
structure Pg (n : Nat) (aQ : List (List Nat)) : Prop where
 len : aQ.length = n
 tR : ∀ i j, j ∈ gX aQ i → i < j ∧ j < n
 nd : ∀ i, (gX aQ i).Nodup
 un : ∀ i i' j, j ∈ gX aQ i → j ∈ gX aQ i' → i = i'
noncomputable def grow (aQ : List (List Nat)) (a n : Nat) : List (List Nat) := aQ.set a (gX aQ a ++ [n]) ++ [[]]
theorem GR {aQ : List (List Nat)} {a n : Nat} (h : aQ.length = n) (ha : a < n) (i : Nat) : gX (grow aQ a n) i = if i = a then gX aQ a ++ [n] else gX aQ i := by
 unfold gX grow
 by_cases hi : i < n
 ·rw [List.getD_eq_getElem?_getD, List.getElem?_append_left (by simp [h, hi]), List.getElem?_set]
  by_cases e : a = i
  ·subst e; simp [h, ha, gX]
  ·rw [if_neg e, if_neg (fun z => e z.symm), List.getD_eq_getElem?_getD]
 ·have e : ¬ i = a := by omega
  rw [if_neg e, List.getD_eq_getElem?_getD, List.getElem?_append_right (by simp [h]; omega), List.getD_eq_getElem?_getD, List.getElem?_eq_none (show aQ.length ≤ i by omega)]
  simp only [List.length_set, h]
  rcases Nat.lt_or_ge n i with q | q
  ·rw [List.getElem?_eq_none (by simp; omega)]
  ·have : i = n := by omega
   subst this; simp
theorem Pg.grow {n : Nat} {aQ : List (List Nat)} (h : Pg n aQ) {a : Nat} (ha : a < n) : Pg (n + 1) (grow aQ a n) := by
 have g := fun i => GR h.len ha i
 have hn : ∀ i, n ∉ gX aQ i := fun i hi => Nat.lt_irrefl _ (h.tR i n hi).2
 refine ⟨by simp [K12.grow, h.len], fun i j hj => ?_, fun i => ?_, fun i i' j hj hj' => ?_⟩
 ·rw [g] at hj
  by_cases e : i = a
  ·rw [if_pos e] at hj
   rcases List.mem_append.mp hj with hj | hj
   ·have := h.tR a j hj; omega
   ·simp at hj; omega
  ·rw [if_neg e] at hj
   have := h.tR i j hj; omega
 ·rw [g]
  by_cases e : i = a
  ·rw [if_pos e, List.nodup_append]
   exact ⟨h.nd a, by simp, fun x hx y hy => by simp at hy; subst hy; intro z; subst z; exact hn a hx⟩
  ·rw [if_neg e]; exact h.nd i
 ·have key : ∀ i, j ∈ gX (K12.grow aQ a n) i → (j = n ∧ i = a) ∨ j ∈ gX aQ i := fun i hi => by
   rw [g] at hi
   by_cases e : i = a
   ·rw [if_pos e] at hi
    rcases List.mem_append.mp hi with hi | hi
    ·exact .inr (by rw [e]; exact hi)
    ·simp at hi; exact .inl ⟨hi, e⟩
   ·rw [if_neg e] at hi; exact .inr hi
  rcases key i hj with ⟨e1, e2⟩ | q <;> rcases key i' hj' with ⟨e3, e4⟩ | q'
  ·omega
  ·exact absurd (e1 ▸ q') (hn i')
  ·exact absurd (e3 ▸ q) (hn i)
  ·exact h.un i i' j q q'
theorem L8 : Pg 1 [[]] := by
 have g : ∀ i, gX [[]] i = [] := fun i => by
  cases i <;> rfl
 refine ⟨rfl, fun i j h => ?_, fun i => ?_, fun i i' j h => ?_⟩
 ·rw [g] at h; simp at h
 ·rw [g]; simp
 ·rw [g] at h; simp at h
noncomputable def gW (l : List Nat) : List D := l.map fun j => .int (j : Nat)
structure Gs (G0 H : DH) (kN pN : Nat) (nms : List (List Nat)) (os : List Nat) (aQ : List (List Nat)) : Prop where
 pre : ∃ X, H = G0 ++ X
 hk : H[kN]? = some (.lst (aP nms))
 hp : H[pN]? = some (.lst (os.map .obj))
 fr : Fr H os (aQ.map gW)
 nd : os.Nodup
 nk : kN ∉ os
 np : pN ∉ os
 kp : kN ≠ pN
 ge : G0.length ≤ kN ∧ G0.length ≤ pN ∧ ∀ o ∈ os, G0.length ≤ o
theorem Fr.app {G : DH} : ∀ {os os' : List Nat} {sk sk' : List (List D)}, Fr G os sk → Fr G os' sk' → Fr G (os ++ os') (sk ++ sk')
 | [], _, [], _, _, h => h
 | o :: os, _, p :: sk, _, ⟨e, f⟩, h => ⟨e, Fr.app f h⟩
 | [], _, _ :: _, _, f, _ => f.elim
 | _ :: _, _, [], _, f, _ => f.elim
theorem Fr.get {G : DH} : ∀ {os : List Nat} {sk : List (List D)} {i o : Nat}, Fr G os sk → os[i]? = some o → ∃ p, sk[i]? = some p ∧ G[o]? = some (.lst p)
 | o' :: os, p :: sk, 0, o, ⟨e, f⟩, h => by cases h; exact ⟨p, rfl, e⟩
 | o' :: os, p :: sk, i + 1, o, ⟨e, f⟩, h => by
  obtain ⟨q, h1, h2⟩ := Fr.get f (i := i) (o := o) (by simpa using h)
  exact ⟨q, by simpa using h1, h2⟩
 | [], [], i, o, _, h => by simp at h
 | [], _ :: _, _, _, f, _ => f.elim
 | _ :: _, [], _, _, f, _ => f.elim
theorem Fr.put {G : DH} : ∀ {os : List Nat} {sk : List (List D)} {i o : Nat} {p : List D}, Fr G os sk → os.Nodup → os[i]? = some o → Fr (G.set o (.lst p)) os (sk.set i p)
 | o' :: os, q :: sk, 0, o, p, ⟨e, f⟩, nd, h => by
  cases h
  have nd := List.nodup_cons.mp nd
  exact ⟨mP e, f.mono fun x hx y ey => get_set ey fun z => nd.1 (z ▸ hx)⟩
 | o' :: os, q :: sk, i + 1, o, p, ⟨e, f⟩, nd, h => by
  have nd := List.nodup_cons.mp nd
  have ho : os[i]? = some o := by simpa using h
  have hm : o ∈ os := List.mem_of_getElem? ho
  exact ⟨get_set e fun z => nd.1 (z ▸ hm), Fr.put f nd.2 ho⟩
 | [], [], i, o, p, _, _, h => by simp at h
 | [], _ :: _, _, _, _, f, _, _ => f.elim
 | _ :: _, [], _, _, _, f, _, _ => f.elim
variable {G0 H : DH} {kN pN : Nat} {nms : List (List Nat)} {os : List Nat} {aQ : List (List Nat)}
theorem Gs.turn (s : Gs G0 H kN pN nms os aQ) (l : List Nat) (a o : Nat) (ho : os[a]? = some o) (n : Nat) (hn : aQ.length = n) :
  Gs G0 (((H.set kN (DO.lst (aP (nms ++ [l]))) ++ [DO.lst []]).set pN (DO.lst ((os ++ [H.length]).map D.obj))).set o (DO.lst (gW (gX aQ a ++ [n])))) kN pN (nms ++ [l]) (os ++ [H.length]) (grow aQ a n) := by
 have hlt := GG s.fr
 have lk := lB s.hk
 have lp := lB s.hp
 have Mh : o ∈ os := List.mem_of_getElem? ho
 have Uh : G0.length ≤ H.length := by obtain ⟨X, rfl⟩ := s.pre; simp
 have nn : H.length ∉ os := fun h => absurd (hlt _ h) (Nat.lt_irrefl _)
 have R4 : o ≠ kN := fun z => s.nk (z ▸ Mh)
 have R5 : o ≠ pN := fun z => s.np (z ▸ Mh)
 have hla : a < os.length := (List.getElem?_eq_some_iff.mp ho).1
 have hlen := s.fr.len
 rw [List.length_map] at hlen
 have f1 : Fr ((H.set kN (DO.lst (aP (nms ++ [l]))) ++ [DO.lst []]).set pN (DO.lst ((os ++ [H.length]).map D.obj))) os (aQ.map gW) := s.fr.mono fun x hx y e => get_set (bD (get_set e fun z => s.nk (z ▸ hx))) fun z => s.np (z ▸ hx)
 have Pn : (H.set kN (DO.lst (aP (nms ++ [l])))).length = H.length := by simp
 have f2 : ((H.set kN (DO.lst (aP (nms ++ [l]))) ++ [DO.lst []]).set pN (DO.lst ((os ++ [H.length]).map D.obj)))[H.length]? = some (DO.lst []) := by
  refine get_set ?_ (by omega)
  have := uS (H.set kN (DO.lst (aP (nms ++ [l])))) (DO.lst []) []
  rwa [Pn] at this
 have f3 : Fr ((H.set kN (DO.lst (aP (nms ++ [l]))) ++ [DO.lst []]).set pN (DO.lst ((os ++ [H.length]).map D.obj))) (os ++ [H.length]) (aQ.map gW ++ [[]]) := f1.app ⟨f2, trivial⟩
 have Ul : (os ++ [H.length]).Nodup := by
  rw [List.nodup_append]
  exact ⟨s.nd, by simp, fun x hx y hy => by simp at hy; subst hy; intro z; subst z; exact nn hx⟩
 have ho' : (os ++ [H.length])[a]? = some o := by rw [List.getElem?_append_left hla]; exact ho
 have f4 := f3.put (p := gW (gX aQ a ++ [n])) Ul ho'
 have es : (aQ.map gW ++ [[]]).set a (gW (gX aQ a ++ [n])) = (grow aQ a n).map gW := by
  unfold grow
  rw [List.set_append_left _ _ (by rw [List.length_map]; omega), List.map_append, List.map_set]
  rfl
 rw [es] at f4
 refine ⟨kc (kc (pre_app (kc s.pre s.ge.1 _) _) s.ge.2.1 _) (s.ge.2.2 o Mh) _, ?_, ?_, f4, Ul, ?_, ?_, s.kp, s.ge.1, s.ge.2.1, ?_⟩
 ·exact get_set (get_set (bD (mP s.hk)) (Ne.symm s.kp)) R4
 ·refine get_set (mP (y := DO.lst (os.map D.obj)) (bD (get_set s.hp s.kp))) R5
 ·intro h
  rcases List.mem_append.mp h with h | h
  ·exact s.nk h
  ·simp at h; omega
 ·intro h
  rcases List.mem_append.mp h with h | h
  ·exact s.np h
  ·simp at h; omega
 ·intro x hx
  rcases List.mem_append.mp hx with hx | hx
  ·exact s.ge.2.2 x hx
  ·simp at hx; omega
end K12
end
section
set_option Elab.async false
set_option linter.all false
set_option maxRecDepth 100000
set_option maxHeartbeats 1000000
namespace K12
open PySem PySem.Spec L2 L3
theorem rQ : ∀ (l m : List Nat), l.Nodup → (∀ x ∈ l, x ∈ m) → l.length ≤ m.length
 | [], _, _, _ => by simp
 | x :: l, m, hn, hs => by
  obtain ⟨h1, h2⟩ := List.nodup_cons.mp hn
  have ih := rQ l (m.erase x) h2 fun y hy => (List.mem_erase_of_ne (fun e => h1 (by rw [← e]; exact hy))).mpr (hs y (by simp [hy]))
  have hx := hs x (by simp)
  have := List.length_erase_of_mem hx
  have := List.length_pos_of_mem hx
  simp only [List.length_cons]
  omega
variable {G0 H : DH} {kN pN p : Nat} {nms : List (List Nat)} {os : List Nat} {aQ : List (List Nat)}
theorem Jj {n : Nat} (h : n ≤ 100000) : zO [.int 1, .int (n : Int)] = some ((List.range' 0 (n - 1)).map fun (k : Nat) => .int (1 + (k : Int))) := by
 have e : ((n : Int) - 1).toNat = n - 1 := by omega
 simp only [zO]
 rw [if_pos (by omega), e, List.range_eq_range']
theorem Eo (c : Int) (j : Nat) (hj : j ≤ 1000) (a0 a1 a2 a3 a6 : Option D) (G : DH) : ∃ a : Nat, a < 1 + j ∧
  ∀ rest : MS, bh (bC 6 (aF d7 (aF iC (ah 5) (eC (.int 8))) (ah 4))) (bh (oh (kJ (aF (kI false) (aF d7 (ah 5) (eC (.int 4))) (eC (.int 1)))) (bC 6 (aF K4 (ah 4) (eC (.int 1)))) (cP)) (bh (oh (kJ (aF (kI false) (aF d7 (ah 5) (eC (.int 4))) (eC (.int 2)))) (bC 6 (eC (.int 0))) (cP)) rest)) [a0, a1, a2, a3, some (.int (1 + (j : Int))), some (.int c), a6] G = rest [a0, a1, a2, a3, some (.int (1 + (j : Int))), some (.int c), some (.int (a : Int))] G := by
 have hp : (0 : Int) < 1 + (j : Int) := by omega
 have hb : 1 + (j : Int) < 1073741824 := by omega
 have h0 : 0 ≤ c / 8 % (1 + (j : Int)) := Int.emod_nonneg _ (by omega)
 have h1 : c / 8 % (1 + (j : Int)) < 1 + (j : Int) := Int.emod_lt_of_pos _ hp
 obtain ⟨q, hq⟩ : ∃ q : Nat, c / 8 % (1 + (j : Int)) = q := ⟨(c / 8 % (1 + (j : Int))).toNat, by omega⟩
 cases b2 : (c % 4 == 2) with
 | true =>
  have b1 : (c % 4 == 1) = false := by
   rw [beq_iff_eq] at b2
   exact beq_eq_false_iff_ne.mpr (by omega)
  exact ⟨0, by omega, fun rest => by simp! [hp, hb, hq, e9, b1, b2]⟩
 | false =>
  cases b1 : (c % 4 == 1) with
  | true =>
   refine ⟨j, by omega, fun rest => ?_⟩
   have ej : 1 + (j : Int) - 1 = j := by omega
   simp! [hp, hb, hq, e9, b1, b2, ej]
  | false => exact ⟨q, by omega, fun rest => by simp! [hp, hb, hq, e9, b1, b2]⟩
theorem Cc (cs : List Int) (j : Nat) (hj : 1 + j < cs.length) (hcl : cs.length ≤ 200) (ps : List (List Nat)) (hps : ∀ l ∈ ps, Nm l) (Jk : ps ≠ []) (hpl : ps.length ≤ 100) (rR : G0[p]? = some (.lst (aP ps))) (s : Gs G0 H kN pN nms os aQ) (hos : os.length = 1 + j) (Um : Pg (1 + j) aQ) (a5 a6 : Option D) (hnl : nms.length ≤ 1000) :
  ∃ (l : List Nat) (a o : Nat) (b5 b6 : Option D), Nm l ∧ a < 1 + j ∧ os[a]? = some o ∧ iy [some (.con (cs.map .int)), some (.obj p), some (.obj kN), some (.obj pN), some (.int (1 + (j : Int))), a5, a6] H =
   .nx [some (.con (cs.map .int)), some (.obj p), some (.obj kN), some (.obj pN), some (.int (1 + (j : Int))), b5, b6] (((H.set kN (DO.lst (aP (nms ++ [l]))) ++ [DO.lst []]).set pN (DO.lst ((os ++ [H.length]).map D.obj))).set o (DO.lst (gW (gX aQ a ++ [1 + j])))) := by
 have x := tP cs (1 + j) hj
 generalize zp cs (1 + j) = c at x
 have x' : jQ (cs.map D.int) (1 + (j : Int)) = some (.int c) := by
  rwa [show ((1 + j : Nat) : Int) = 1 + (j : Int) by omega] at x
 obtain ⟨a, ha, ea⟩ := Eo c j (by omega) (some (.con (cs.map .int))) (some (.obj p)) (some (.obj kN)) (some (.obj pN)) a6 H
 obtain ⟨l, hl, el⟩ := C7 ps hps Jk (c / 5)
 obtain ⟨o, ho⟩ : ∃ o, os[a]? = some o := ⟨_, List.getElem?_eq_getElem (by omega)⟩
 refine ⟨l, a, o, some (.int c), some (.int (a : Int)), hl, ha, ho, ?_⟩
 have hsl : (aP ps).length = ps.length := by simp [aP]
 have R6 : ps.length ≤ sizeLine := lz (by omega)
 have hpp : 0 < ps.length := List.length_pos_iff.mpr Jk
 have Uo : H[p]? = some (.lst (aP ps)) := by obtain ⟨X, rfl⟩ := s.pre; exact bD rR
 have WX : (aP nms).length < sizeLine := Nat.lt_of_lt_of_le (by simp [aP]; omega) (lz (n := 2000) (by omega))
 have WY : os.length < sizeLine := Nat.lt_of_lt_of_le (by omega) (lz (n := 2000) (by omega))
 have hk := s.hk
 have Mh : o ∈ os := List.mem_of_getElem? ho
 have e1 : (bC 5 (aF dY (ah 0) (ah 4))) [some (.con (cs.map .int)), some (.obj p), some (.obj kN), some (.obj pN), some (.int (1 + (j : Int))), a5, a6] H = .nx [some (.con (cs.map .int)), some (.obj p), some (.obj kN), some (.obj pN), some (.int (1 + (j : Int))), some (.int c), a6] H := by
  simp! [x']
 have en : aP nms ++ [.str (aU l)] = aP (nms ++ [l]) := by simp [aP]
 have e2 : (fX (bq "list" bX (ah 2) (ai (aF dY (ah 1) (aF d7 (aF iC (ah 5) (eC (.int 5))) (aC gj (ai (ah 1) (aq))))) (aq)))) [some (.con (cs.map .int)), some (.obj p), some (.obj kN), some (.obj pN), some (.int (1 + (j : Int))), some (.int c), some (.int (a : Int))] H = .nx [some (.con (cs.map .int)), some (.obj p), some (.obj kN), some (.obj pN), some (.int (1 + (j : Int))), some (.int c), some (.int (a : Int))] (H.set kN (DO.lst (aP (nms ++ [l])))) := by
  simp! [Uo, hk, hsl, R6, hpp, el, WX, en]
 have hp1 : (H.set kN (DO.lst (aP (nms ++ [l]))))[pN]? = some (.lst (os.map .obj)) := get_set s.hp s.kp
 have hp2 : (H.set kN (DO.lst (aP (nms ++ [l]))) ++ [DO.lst []])[pN]? = some (.lst (os.map .obj)) := bD hp1
 have Pn : (H.set kN (DO.lst (aP (nms ++ [l])))).length = H.length := by simp
 have hp3 : ((H.set kN (DO.lst (aP (nms ++ [l]))) ++ [DO.lst []]).set pN (DO.lst ((os ++ [H.length]).map D.obj)))[pN]? = some (.lst ((os ++ [H.length]).map .obj)) := mP hp2
 have R7 : ((H.set kN (DO.lst (aP (nms ++ [l]))) ++ [DO.lst []]).set pN (DO.lst ((os ++ [H.length]).map D.obj)))[o]? = some (.lst (gW (gX aQ a))) := by
  obtain ⟨q, h1, h2⟩ := s.fr.get ho
  have : q = gW (gX aQ a) := by
   rw [List.getElem?_map] at h1
   unfold gX
   rw [List.getD_eq_getElem?_getD]
   cases e : aQ[a]? with
   | none => rw [e] at h1; cases h1
   | some w => rw [e] at h1; cases h1; rfl
  rw [this] at h2
  exact get_set (bD (get_set h2 fun z => s.nk (z ▸ Mh))) fun z => s.np (z ▸ Mh)
 generalize Xh : H.set kN (DO.lst (aP (nms ++ [l]))) = H1 at e2 hp1 hp2 hp3 R7 Pn
 have e3 : (fX (bq "list" bX (ah 3) (ai (aC bM (aq)) (aq)))) [some (.con (cs.map .int)), some (.obj p), some (.obj kN), some (.obj pN), some (.int (1 + (j : Int))), some (.int c), some (.int (a : Int))] H1 = .nx [some (.con (cs.map .int)), some (.obj p), some (.obj kN), some (.obj pN), some (.int (1 + (j : Int))), some (.int c), some (.int (a : Int))] ((H1 ++ [DO.lst []]).set pN (DO.lst ((os ++ [H.length]).map D.obj))) := by
  have n0 : bM [] H1 = .ok (.obj H.length) (H1 ++ [.lst []]) := by simp [bM, Pn]
  simp! [hp1, n0, hp2, WY]
 generalize (H1 ++ [DO.lst []]).set pN (DO.lst ((os ++ [H.length]).map D.obj)) = H3 at e3 hp3 R7
 have hat : jQ ((os ++ [H.length]).map D.obj) (a : Int) = some (.obj o) := gB (by
  rw [List.getElem?_map, List.getElem?_append_left (by omega), ho]; rfl)
 generalize (os ++ [H.length]).map D.obj = Xi at hp3 hat
 have WZ : (gW (gX aQ a)).length < sizeLine := by
  have hnd := Um.nd a
  have hle : (gX aQ a).length ≤ 1 + j := by
   have hsub : ∀ x ∈ gX aQ a, x ∈ List.range (1 + j) := fun x hx => by
    have := Um.tR a x hx
    simp; omega
   have := rQ (gX aQ a) (List.range (1 + j)) hnd hsub
   simpa using this
  exact Nat.lt_of_lt_of_le (by simp [gW]; omega) (lz (n := 2000) (by omega))
 have eg : gW (gX aQ a) ++ [.int (1 + (j : Int))] = gW (gX aQ a ++ [1 + j]) := by simp [gW]
 have e4 : (fX (bq "list" bX (aF dY (ah 3) (ah 6)) (ai (ah 4) (aq)))) [some (.con (cs.map .int)), some (.obj p), some (.obj kN), some (.obj pN), some (.int (1 + (j : Int))), some (.int c), some (.int (a : Int))] H3 = .nx [some (.con (cs.map .int)), some (.obj p), some (.obj kN), some (.obj pN), some (.int (1 + (j : Int))), some (.int c), some (.int (a : Int))] (H3.set o (DO.lst (gW (gX aQ a ++ [1 + j])))) := by
  simp! [hp3, hat, R7, WZ, eg]
 rw [iy, cL, e1, fc, ea, cL, e2, fc, cL, e3, fc, e4]
end K12
end
section
set_option Elab.async false
set_option linter.all false
set_option maxRecDepth 100000
set_option maxHeartbeats 1000000
namespace K12
open PySem PySem.Spec L2 L3
variable {G0 : DH} {kN pN p : Nat}
theorem vJ (cs : List Int) (hcl : cs.length ≤ 200) (ps : List (List Nat)) (hps : ∀ l ∈ ps, Nm l) (Jk : ps ≠ []) (hpl : ps.length ≤ 100) (rR : G0[p]? = some (.lst (aP ps))) : ∀ (m j : Nat) (H : DH) (nms : List (List Nat)) (os : List Nat) (aQ : List (List Nat)) (a4 a5 a6 : Option D), 1 + j + m = cs.length → Gs G0 H kN pN nms os aQ → os.length = 1 + j → nms.length = 1 + j → (∀ l ∈ nms, Nm l) → Pg (1 + j) aQ →
  ∃ (H' : DH) (GS : List (List Nat)) (os' : List Nat) (Jl : List (List Nat)) (b4 b5 b6 : Option D), cJ (gN 4) iy ((List.range' j m).map fun (k : Nat) => .int (1 + (k : Int))) [some (.con (cs.map .int)), some (.obj p), some (.obj kN), some (.obj pN), a4, a5, a6] H = .nx [some (.con (cs.map .int)), some (.obj p), some (.obj kN), some (.obj pN), b4, b5, b6] H' ∧
   Gs G0 H' kN pN GS os' Jl ∧ os'.length = cs.length ∧ GS.length = cs.length ∧ (∀ l ∈ GS, Nm l) ∧ Pg cs.length Jl
 | 0, j, H, nms, os, aQ, a4, a5, a6, hm, s, h1, h2, h3, h4 => ⟨H, nms, os, aQ, a4, a5, a6, by simp [cJ], s, by omega, by omega, h3, by rw [← hm]; exact h4⟩
 | m + 1, j, H, nms, os, aQ, a4, a5, a6, hm, s, h1, h2, h3, h4 => by
  obtain ⟨l, a, o, b5, b6, hl, ha, ho, e⟩ := Cc cs j (by omega) hcl ps hps Jk hpl rR s h1 h4 a5 a6 (by omega)
  have s' := s.turn l a o ho (1 + j) h4.len
  have W0 : Pg (1 + (j + 1)) (grow aQ a (1 + j)) := by
   have := h4.grow ha
   rwa [show 1 + (j + 1) = 1 + j + 1 by omega]
  obtain ⟨H', GS, os', Jl, c4, c5, c6, e', r⟩ := vJ cs hcl ps hps Jk hpl rR m (j + 1) _ (nms ++ [l]) (os ++ [H.length]) (grow aQ a (1 + j)) (some (.int (1 + (j : Int)))) b5 b6 (by omega) s' (by simp; omega) (by simp; omega) (fun q hq => by
   rcases List.mem_append.mp hq with hq | hq
   ·exact h3 q hq
   ·simp at hq; rw [hq]; exact hl) W0
  refine ⟨H', GS, os', Jl, c4, c5, c6, ?_, r⟩
  rw [List.range'_succ, List.map_cons, eB rfl]
  simp only [List.set_cons_succ, List.set_cons_zero, e, jU]
  exact e'
structure Gp (G0 H : DH) (pN : Nat) (os : List Nat) (aQ : List (List Nat)) : Prop where
 pre : ∃ X, H = G0 ++ X
 hp : H[pN]? = some (.lst (os.map .obj))
 fr : Fr H os (aQ.map gW)
theorem Gp.more {H : DH} {os : List Nat} {aQ : List (List Nat)} (s : Gp G0 H pN os aQ) (E : DH) : Gp G0 (H ++ E) pN os aQ := ⟨pre_app s.pre E, bD s.hp, s.fr.mono fun _ _ _ e => bD e⟩
theorem GU (G : DH) (cs : List Int) (hcn : cs ≠ []) (hcl : cs.length ≤ 200) (ps : List (List Nat)) (hps : ∀ l ∈ ps, Nm l) (Jk : ps ≠ []) (hpl : ps.length ≤ 100) (rR : G[p]? = some (.lst (aP ps))) :
  ∃ (H : DH) (pN : Nat) (nms : List (List Nat)) (os : List Nat) (aQ : List (List Nat)), fK [.con (cs.map .int), .obj p] G = .ok (.tup [.con (aP nms), .obj pN]) H ∧ Gp G H pN os aQ ∧ os.length = cs.length ∧ nms.length = cs.length ∧ (∀ l ∈ nms, Nm l) ∧ Pg cs.length aQ := by
 have hpos : 0 < cs.length := List.length_pos_iff.mpr hcn
 have x0 := tP cs 0 hpos
 generalize zp cs 0 = c at x0
 have x0' : jQ (cs.map D.int) 0 = some (.int c) := x0
 obtain ⟨l, hl, el⟩ := C7 ps hps Jk c
 have hsl : (aP ps).length = ps.length := by simp [aP]
 have R6 : ps.length ≤ sizeLine := lz (by omega)
 have hpp : 0 < ps.length := List.length_pos_iff.mpr Jk
 have R1 : cs.length ≤ sizeLine := lz (by omega)
 have z1 : (1 : Nat) ≤ sizeLine := lz (by omega)
 have z2 : (2 : Nat) ≤ sizeLine := lz (by omega)
 have W2 := lB rR
 have s0 : Gs G (G ++ [.lst (aP [l]), .lst [], .lst [.obj (G.length + 1)]]) G.length (G.length + 2) [l] [G.length + 1] [[]] := by
  refine ⟨⟨_, rfl⟩, uS _ _ _, ?_, ⟨Hq _ _ _ _, trivial⟩, by simp, by simp, by simp, by omega, by omega, by omega, by simp⟩
  show (G ++ [DO.lst (aP [l]), .lst [], .lst [.obj (G.length + 1)]])[G.length + 2]? = _
  have e : G ++ [DO.lst (aP [l]), .lst [], .lst [.obj (G.length + 1)]] = (G ++ [DO.lst (aP [l])]) ++ .lst [] :: .lst [.obj (G.length + 1)] :: [] := by simp
  have q : G.length + 2 = (G ++ [DO.lst (aP [l])]).length + 1 := by simp
  rw [e, q]
  exact Hq _ _ _ _
 obtain ⟨H, nms, os, aQ, b4, b5, b6, e, s, h1, h2, h3, h4⟩ := vJ cs hcl ps hps Jk hpl rR (cs.length - 1) 0 _ [l] [G.length + 1] [[]] none none none (by omega) s0 rfl rfl (by simpa using hl) L8
 have hr := Jj (n := cs.length) (by omega)
 generalize ((List.range' 0 (cs.length - 1)).map fun (k : Nat) => D.int (1 + (k : Int))) = rg at hr e
 refine ⟨H.set G.length .dead, G.length + 2, nms, os, aQ, ?_, ⟨kc s.pre (Nat.le_refl _) _, get_set s.hp s.kp, s.fr.mono fun q hq x ex => get_set ex fun z => s.nk (z ▸ hq)⟩, h1, h2, h3, h4⟩
 have Uo : (G ++ [.lst (aP [l])])[p]? = some (.lst (aP ps)) := bD rR
 have Jc : (Out.ok (D.obj G.length) H).fz = .ok (.con (aP nms)) (H.set G.length .dead) := by
  simp only [Out.fz, s.hk]
 have n1 : bM [.str (aU l)] G = .ok (.obj G.length) (G ++ [.lst (aP [l])]) := by simp [bM, z1, aP]
 have n2 : bM [] (G ++ [.lst (aP [l])]) = .ok (.obj (G.length + 1)) (G ++ [.lst (aP [l]), .lst []]) := by simp [bM]
 have n3 : ∀ d : D, bM [d] (G ++ [.lst (aP [l]), .lst []]) = .ok (.obj (G.length + 2)) (G ++ [.lst (aP [l]), .lst [], .lst [d]]) := fun d => by simp [bM, z1]
 unfold fK
 simp! [lN, x0', rR, hsl, R6, hpp, el, n1, n2, n3, R1, hr, e, Jc, z2]
end K12
end
section
set_option Elab.async false
set_option linter.all false
set_option maxRecDepth 100000
set_option maxHeartbeats 1000000
namespace K12
open PySem PySem.Spec L2 L3
noncomputable def gu (ts : List Tr) (i : Nat) : Tr := ts.getD i (.nd [] [])
noncomputable def kids (aQ : List (List Nat)) (m : Nat) (ts : List Tr) : List Tr := (gX aQ m).map fun j => gu ts (j - m - 1)
noncomputable def xR (nms : List (List Nat)) (aQ : List (List Nat)) (m : Nat) (ts : List Tr) : Tr := .nd (nms.getD m []) (kids aQ m ts)
noncomputable def vL (nms : List (List Nat)) (aQ : List (List Nat)) : Nat → List Tr → List Tr
 | 0, ts => ts
 | m + 1, ts => vL nms aQ m (xR nms aQ m ts :: ts)
noncomputable def era (F : List Nat) : List Nat → List Nat
 | [] => F
 | a :: A => era (F.erase a) A
theorem sO (w : Nat → Nat) (a : Nat) : ∀ F : List Nat, a ∈ F → (F.map w).sum = w a + ((F.erase a).map w).sum
 | [], h => by simp at h
 | b :: F, h => by
  by_cases e : b = a
  ·subst e; simp
  ·have hb : (b == a) = false := beq_eq_false_iff_ne.mpr e
   have ha : a ∈ F := by
    rcases List.mem_cons.mp h with h | h
    ·exact absurd h.symm e
    ·exact h
   have ih := sO w a F ha
   rw [List.erase_cons, hb]
   simp only [List.map_cons, List.sum_cons, Bool.false_eq_true, if_false]
   omega
theorem C8 (w : Nat → Nat) : ∀ (A F : List Nat), A.Nodup → (∀ a ∈ A, a ∈ F) → (A.map w).sum + ((era F A).map w).sum = (F.map w).sum
 | [], F, _, _ => by simp [era]
 | a :: A, F, hn, h => by
  obtain ⟨h1, h2⟩ := List.nodup_cons.mp hn
  have e := sO w a F (h a (by simp))
  have ih := C8 w A (F.erase a) h2 fun b hb => (List.mem_erase_of_ne (fun z => h1 (by rw [← z]; exact hb))).mpr (h b (by simp [hb]))
  rw [era, List.map_cons, List.sum_cons]
  omega
theorem C9 : ∀ (A F : List Nat) (j : Nat), j ∈ F → j ∉ A → j ∈ era F A
 | [], F, j, h, _ => h
 | a :: A, F, j, h, hn => by
  rw [era]
  exact C9 A (F.erase a) j ((List.mem_erase_of_ne (fun z => hn (by simp [z]))).mpr h) fun z => hn (by simp [z])
theorem zq : ∀ (A F : List Nat) (j : Nat), j ∈ era F A → j ∈ F
 | [], F, j, h => h
 | a :: A, F, j, h => List.mem_of_mem_erase (zq A (F.erase a) j h)
structure Bi (aQ : List (List Nat)) (n m : Nat) (ts : List Tr) : Prop where
 len : ts.length + m = n
 ok : ∀ t ∈ ts, t.Ok
 fs : ∃ F : List Nat, (F.map fun j => (gu ts (j - m)).sz).sum + m = n ∧ (∀ j, m ≤ j → j < n → (∀ i, m ≤ i → j ∉ gX aQ i) → j ∈ F) ∧ ∀ j ∈ F, m ≤ j
theorem GV (aQ : List (List Nat)) (n : Nat) : Bi aQ n n [] := ⟨by simp, by simp, [], by simp, fun j h1 h2 => by omega, by simp⟩
theorem GW (aQ : List (List Nat)) (m : Nat) (ts : List Tr) : mL (kids aQ m ts) = ((gX aQ m).map fun j => (gu ts (j - (m + 1))).sz).sum := by
 rw [C3, kids, List.map_map]
 congr 1
theorem Bi.step {nms : List (List Nat)} {aQ : List (List Nat)} {n m : Nat} {ts : List Tr} (b : Bi aQ n (m + 1) ts) (hp : Pg n aQ) (hn : nms.length = n) (ho : ∀ l ∈ nms, Nm l) : Bi aQ n m (xR nms aQ m ts :: ts) ∧ mL (kids aQ m ts) + m < n ∧ (xR nms aQ m ts).Ok := by
 have hl := b.len
 obtain ⟨F, f1, f2, f3⟩ := b.fs
 have hA : ∀ a ∈ gX aQ m, a ∈ F := fun a ha => by
  have := hp.tR m a ha
  refine f2 a (by omega) (by omega) fun i hi z => ?_
  have := hp.un m i a ha z
  omega
 have hsum := C8 (fun j => (gu ts (j - (m + 1))).sz) (gX aQ m) F (hp.nd m) hA
 have hk := GW aQ m ts
 have hok : (xR nms aQ m ts).Ok := by
  rw [xR, Tr.Ok]
  refine ⟨ho _ ?_, C2 fun t ht => ?_⟩
  ·rw [List.getD_eq_getElem?_getD, List.getElem?_eq_getElem (by omega)]
   exact List.getElem_mem (by omega)
  ·obtain ⟨j, hj, rfl⟩ := List.mem_map.mp ht
   have := hp.tR m j hj
   unfold gu
   rw [List.getD_eq_getElem?_getD, List.getElem?_eq_getElem (by omega)]
   exact b.ok _ (List.getElem_mem (by omega))
 refine ⟨⟨by simp; omega, fun t ht => ?_, m :: era F (gX aQ m), ?_, fun j h1 h2 h3 => ?_, fun j hj => ?_⟩, by omega, hok⟩
 ·rcases List.mem_cons.mp ht with rfl | ht
  ·exact hok
  ·exact b.ok t ht
 ·have e0 : gu (xR nms aQ m ts :: ts) (m - m) = xR nms aQ m ts := by rw [Nat.sub_self]; rfl
  have e1 : (era F (gX aQ m)).map (fun j => (gu (xR nms aQ m ts :: ts) (j - m)).sz) = (era F (gX aQ m)).map fun j => (gu ts (j - (m + 1))).sz := List.map_congr_left fun j hj => by
   have := f3 j (zq _ _ _ hj)
   have e : j - m = (j - (m + 1)) + 1 := by omega
   rw [e]; rfl
  rw [List.map_cons, List.sum_cons, e0, e1, xR, Tr.sz, hk]
  omega
 ·by_cases e : j = m
  ·simp [e]
  ·refine List.mem_cons_of_mem _ (C9 _ _ _ (f2 j (by omega) h2 fun i hi => h3 i (by omega)) (h3 m (Nat.le_refl _)))
 ·rcases List.mem_cons.mp hj with rfl | hj
  ·exact Nat.le_refl _
  ·have := f3 j (zq _ _ _ hj); omega
theorem Bi.root {aQ : List (List Nat)} {n : Nat} {ts : List Tr} (b : Bi aQ n 0 ts) (hp : Pg n aQ) (hn : 0 < n) : (gu ts 0).Ok ∧ (gu ts 0).sz ≤ n := by
 obtain ⟨F, f1, f2, f3⟩ := b.fs
 have hl := b.len
 have h0 : 0 ∈ F := f2 0 (Nat.le_refl _) hn fun i _ z => by
  have := hp.tR i 0 z; omega
 have e := sO (fun j => (gu ts (j - 0)).sz) 0 F h0
 refine ⟨?_, by simp only [Nat.sub_zero] at e f1; omega⟩
 unfold gu
 rw [List.getD_eq_getElem?_getD, List.getElem?_eq_getElem (by omega)]
 exact b.ok _ (List.getElem_mem (by omega))
end K12
end
section
set_option Elab.async false
set_option linter.all false
set_option maxRecDepth 100000
set_option maxHeartbeats 1000000
namespace K12
open PySem PySem.Spec L2 L3
theorem qx {ks : List Bool} {te : DS → M D} {τ : DS} {G : DH} {src : Nat} {α : Type} {as : List α} {dat f : α → D} (hs : G[src]? = some (.lst (as.map dat))) (hl : as.length ≤ 10000) (h : ∀ x ∈ as, ∀ acc, te ([some (dat x)] ++ mask ks τ) (G ++ [.lst acc]) = .ok (f x) (G ++ [.lst acc])) :
  ni oN ks iN te G.length src ((as.map dat).length + 1) 0 τ (G ++ [.lst []]) = .ok (.obj G.length) (G ++ [.lst (as.map f)]) := by
 have h1 := CB (gO := oN) (ks := ks) (tt := iN) (te := te) (n := G.length) (src := src) (τ := τ) (xs := as.map dat) (fun H => ∃ acc : List D, H = G ++ [.lst acc]) (by
  rintro H ⟨acc, rfl⟩
  exact bD hs) (by
  rintro H d H' hd ⟨acc, rfl⟩ e
  obtain ⟨x, hx, rfl⟩ := List.mem_map.mp hd
  have ht := h x hx acc
  by_cases hz : acc.length < sizeLine
  ·rw [sW (os := [dat x]) (v := f x) rfl rfl ht hz] at e
   cases e
   exact ⟨_, rfl⟩
  ·have e2 : cZ oN ks iN te G.length (dat x) τ (G ++ [.lst acc]) = .stuck := by
    have ht' : te (([dat x] : List D).map some ++ mask ks τ) (G ++ [.lst acc]) = .ok (f x) (G ++ [.lst acc]) := ht
    simp only [cZ, oN, iN, M.ret, ht', uS, if_neg hz]
   rw [e2] at e; cases e) ((as.map dat).length + 1) 0 (G ++ [.lst []]) (by omega) (by omega) ⟨[], rfl⟩
 rw [h1, List.drop_zero]
 have h2 := gF (gO := oN) (ks := ks) (tt := iN) (te := te) (own := fun x : α => [dat x]) (dat := dat) (f := f) (c := fun _ => true) (G := G) (τ := τ) as [] (by simp; omega) (fun _ _ => rfl) (fun _ _ _ => rfl) (fun x hx acc => h x hx acc)
 rw [h2, List.nil_append, List.filter_eq_self.mpr (fun _ _ => rfl)]
noncomputable def dn : Nat → List D
 | 0 => []
 | m + 1 => .int (m : Nat) :: dn m
theorem JU (n : Nat) : ∀ (m s : Nat), s + m = n → (List.range' s m).map (fun (i : Nat) => D.int ((n : Int) - 1 + (i : Int) * (-1))) = dn m
 | 0, s, _ => by simp [dn]
 | m + 1, s, h => by
  rw [List.range'_succ, List.map_cons, JU n m (s + 1) (by omega), dn]
  have : (n : Int) - 1 + (s : Int) * (-1) = (m : Int) := by omega
  rw [this]
theorem GX {g : ng} {body : MS} {τ : DS} {G : DH} (n : Nat) : tV g body (BE ((n : Int) - 1) (-1) n) (n + 1) 0 τ G = cJ g body (dn n) τ G := by
 have := qJ (g := g) (body := body) (xs := (List.range n).map fun (i : Nat) => D.int ((n : Int) - 1 + (i : Int) * (-1))) (vw := BE ((n : Int) - 1) (-1) n) (fun G i h => by
  simp only [BE, List.getElem?_map]
  by_cases hi : i < n
  ·rw [if_pos hi, List.getElem?_range hi]; rfl
  ·rw [if_neg hi, List.getElem?_eq_none (by simp; omega)]; rfl) (n + 1) 0 τ G (by simp) (by simp)
 rw [this, List.drop_zero, List.range_eq_range', JU n n 0 (by omega)]
section
variable {v : Tr → D} {z : D}
theorem GY (ts : List Tr) (m j : Nat) (h1 : m < j) (h2 : j < m + 1 + ts.length) : jQ (List.replicate (m + 1) z ++ ts.map v) (j : Int) = some (v (gu ts (j - m - 1))) := by
 refine gB ?_
 rw [List.getElem?_append_right (by simp; omega), List.length_replicate, List.getElem?_map, show j - (m + 1) = j - m - 1 by omega, List.getElem?_eq_getElem (by omega)]
 unfold gu
 rw [List.getD_eq_getElem?_getD, List.getElem?_eq_getElem (by omega)]
 rfl
theorem Dc (ts : List Tr) (m : Nat) (t : Tr) : (List.replicate (m + 1) z ++ ts.map v).set m (v t) = List.replicate m z ++ (t :: ts).map v := by
 have e : List.replicate (m + 1) z = List.replicate m z ++ [z] := by rw [List.replicate_succ']
 rw [e, List.append_assoc, List.set_append_right _ _ (by simp), List.length_replicate, Nat.sub_self]
 rfl
theorem GZ (ts : List Tr) (m : Nat) : Dr (List.replicate (m + 1) z ++ ts.map v).length (m : Int) = some m := by
 unfold Dr
 rw [if_pos (by omega), if_pos (by simp; omega)]
 simp
end
theorem De (n : Nat) (z : D) : (List.replicate n [z]).flatten = List.replicate n z := by
 induction n with
 | zero => rfl
 | succ n ih => rw [List.replicate_succ, List.flatten_cons, ih, List.replicate_succ]; rfl
variable {G0 H : DH} {pN : Nat} {os : List Nat} {aQ nms : List (List Nat)}
theorem G4 (nms : List (List Nat)) (m : Nat) (h : m < nms.length) : jQ (aP nms) (m : Int) = some (.str (aU (nms.getD m []))) := by
 refine gB ?_
 unfold aP
 rw [List.getElem?_map, List.getD_eq_getElem?_getD, List.getElem?_eq_getElem h]
 rfl
theorem Df (s : Gp G0 H pN os aQ) (m : Nat) (h : m < os.length) : ∃ o, jQ (os.map D.obj) (m : Int) = some (.obj o) ∧ H[o]? = some (.lst ((gX aQ m).map fun j => D.int (j : Nat))) := by
 have ho : os[m]? = some os[m] := List.getElem?_eq_getElem h
 obtain ⟨q, h1, h2⟩ := s.fr.get ho
 refine ⟨os[m], gB (by rw [List.getElem?_map, ho]; rfl), ?_⟩
 have : q = gW (gX aQ m) := by
  rw [List.getElem?_map] at h1
  unfold gX
  rw [List.getD_eq_getElem?_getD]
  cases e : aQ[m]? with
  | none => rw [e] at h1; cases h1
  | some w => rw [e] at h1; cases h1; rfl
 rw [this] at h2
 exact h2
theorem AZ {n : Nat} (s : Gp G0 H pN os aQ) (hp : Pg n aQ) (hno : os.length = n) (hnn : nms.length = n) (hn : n ≤ 200) (m : Nat) (hm : m < n) (ts : List Tr) (hl : ts.length + (m + 1) = n) :
  fC [some (.con (aP nms)), some (.obj pN), some (.obj (H.length + 1)), some (.int (m : Nat))] (H ++ [.lst [.eY], .lst (List.replicate (m + 1) .eY ++ ts.map Tr.D)]) =
   .nx [some (.con (aP nms)), some (.obj pN), some (.obj (H.length + 1)), some (.int (m : Nat))] (H ++ [.lst [.eY], .lst (List.replicate m .eY ++ (xR nms aQ m ts :: ts).map Tr.D)]) := by
 have ea := G4 nms m (by omega)
 obtain ⟨o, eo, ho⟩ := Df s m (by omega)
 have er := Dc (v := Tr.D) (z := D.eY) ts m (xR nms aQ m ts)
 have ei := GZ (v := Tr.D) (z := D.eY) ts m
 have OO := fun j h1 h2 => GY (v := Tr.D) (z := D.eY) ts m j h1 h2
 have Ho : (gX aQ m).length ≤ 200 := by
  have hsub : ∀ x ∈ gX aQ m, x ∈ List.range n := fun x hx => by
   have := hp.tR m x hx
   simp; omega
  have := rQ (gX aQ m) (List.range n) (hp.nd m) hsub
  simp at this; omega
 generalize List.replicate (m + 1) D.eY ++ ts.map Tr.D = row at er ei OO
 have g1 : ∀ x y : DO, (H ++ [x, y])[H.length + 1]? = some y := fun x y => Hq H x y []
 have s1 : ∀ x y z : DO, (H ++ [x, y]).set (H.length + 1) z = H ++ [x, z] := fun x y z => Qx H x y z []
 have gp : ∀ E : DH, (H ++ E)[pN]? = some (.lst (os.map .obj)) := fun E => bD s.hp
 have go : ∀ E : DH, (H ++ E)[o]? = some (.lst ((gX aQ m).map fun j => D.int (j : Nat))) := fun E => bD ho
 have cc := qx (ks := [false, false, true]) (te := aF dY (ah 3) (ah 0)) (τ := [some (.con (aP nms)), some (.obj pN), some (.obj (H.length + 1)), some (.int (m : Nat))]) (G := H ++ [.lst [.eY], .lst row]) (src := o) (as := gX aQ m) (dat := fun j => D.int (j : Nat)) (f := fun j => (gu ts (j - m - 1)).D) (go _) (by omega) (fun j hj acc => by
  have hr := hp.tR m j hj
  have e1 := OO j hr.1 (by omega)
  have e2 : ((H ++ [.lst [.eY], .lst row]) ++ [.lst acc])[H.length + 1]? = some (.lst row) := bD (g1 _ _)
  simp only [mask, List.cons_append, List.nil_append, jq, eS, List.getElem?_cons_succ, List.getElem?_cons_zero, fQ, aT, dY, bz, if_true, Bool.false_eq_true, if_false, e2, e1])
 have hcl : aR ((gX aQ m).map fun j => (gu ts (j - m - 1)).D) = true := bI fun _ => vF _
 have hz : ((gX aQ m).map fun j => (gu ts (j - m - 1)).D).length ≤ sizeLine := by rw [List.length_map]; exact lz (by omega)
 have z2 : (2 : Nat) ≤ sizeLine := lz (by omega)
 have ed : (xR nms aQ m ts).D = .tup [.str (aU (nms.getD m [])), .tup ((gX aQ m).map fun j => (gu ts (j - m - 1)).D)] := by
  rw [xR, Tr.D, nZ, kids, List.map_map]; rfl
 rw [ed] at er
 generalize (nms.getD m []) = nm at ea er ed
 have ef : eFn (gD oN [false, false, true] (aF dY (ah 1) (ah 3)) (iN) (aF dY (ah 3) (ah 0))) [some (.con (aP nms)), some (.obj pN), some (.obj (H.length + 1)), some (.int (m : Nat))] (H ++ [.lst [.eY], .lst row]) = .ok (.con ((gX aQ m).map fun j => (gu ts (j - m - 1)).D)) (H ++ [.lst [.eY], .lst row]) := by
  simp only [ju, uo, jq, eS, List.getElem?_cons_succ, List.getElem?_cons_zero, fQ, aT, dY, bz, gp, eo, go, cc, sj hcl]
 generalize ((gX aQ m).map fun j => (gu ts (j - m - 1)).D) = kd at ef er hz ed hcl
 have et : aC oH (ai (aF dY (ah 0) (ah 3)) (ai (aC ny (ai (eFn (gD oN [false, false, true] (aF dY (ah 1) (ah 3)) (iN) (aF dY (ah 3) (ah 0)))) (aq))) (aq))) [some (.con (aP nms)), some (.obj pN), some (.obj (H.length + 1)), some (.int (m : Nat))] (H ++ [.lst [.eY], .lst row]) = .ok (.tup [.str (aU nm), .tup kd]) (H ++ [.lst [.eY], .lst row]) := by
  simp only [oj, jT, jq, eS, List.getElem?_cons_succ, List.getElem?_cons_zero, fQ, aT, dY, bz, ea, ef, jr, oY, ny, oH, hz, if_true, List.length_cons, List.length_nil, z2]
 simp only [fC, Aw, et, fQ, aT, eS, List.getElem?_cons_succ, List.getElem?_cons_zero, rY, g1, ei, s1, er, z9]
theorem tQ {n : Nat} (s : Gp G0 H pN os aQ) (hp : Pg n aQ) (hno : os.length = n) (hnn : nms.length = n) (hn : n ≤ 200) : ∀ (m : Nat) (ts : List Tr) (a3 : Option D), ts.length + m = n →
  ∃ b3, cJ (gN 3) fC (dn m) [some (.con (aP nms)), some (.obj pN), some (.obj (H.length + 1)), a3] (H ++ [.lst [.eY], .lst (List.replicate m .eY ++ ts.map Tr.D)]) = .nx [some (.con (aP nms)), some (.obj pN), some (.obj (H.length + 1)), b3] (H ++ [.lst [.eY], .lst ((vL nms aQ m ts).map Tr.D)])
 | 0, ts, a3, _ => ⟨a3, by simp [dn, cJ, vL]⟩
 | m + 1, ts, a3, hl => by
  have e := AZ s hp hno hnn hn m (by omega) ts hl
  obtain ⟨b3, e'⟩ := tQ s hp hno hnn hn m (xR nms aQ m ts :: ts) (some (.int (m : Nat))) (by simp; omega)
  refine ⟨b3, ?_⟩
  rw [dn, eB rfl]
  simp only [List.set_cons_succ, List.set_cons_zero, e, jU]
  rw [e', vL]
theorem zu (nms aQ : List (List Nat)) : ∀ (m : Nat) (ts : List Tr), (vL nms aQ m ts).length = ts.length + m
 | 0, ts => rfl
 | m + 1, ts => by rw [vL, zu nms aQ m]; simp; omega
theorem Cd {n : Nat} (s : Gp G0 H pN os aQ) (hp : Pg n aQ) (hno : os.length = n) (hnn : nms.length = n) (hn : n ≤ 200) (h0 : 0 < n) : ∃ E, e8 [.con (aP nms), .obj pN] H = .ok (gu (vL nms aQ n []) 0).D (H ++ E) := by
 obtain ⟨b3, e⟩ := tQ s hp hno hnn hn n [] none (by simp)
 rw [List.map_nil, List.append_nil] at e
 have hsl : (aP nms).length = n := by simp [aP, hnn]
 have hz : n ≤ sizeLine := lz (by omega)
 have z1 : (1 : Nat) ≤ sizeLine := lz (by omega)
 have n1 : bM [.eY] H = .ok (.obj H.length) (H ++ [.lst [.eY]]) := by simp [bM, z1]
 have r1 : qM (.obj H.length) (.int (n : Int)) (H ++ [.lst [.eY]]) = .ok (.obj (H.length + 1)) (H ++ [.lst [.eY], .lst (List.replicate n .eY)]) := by
  have hc : (n : Int) < 1000 ∧ -1000 < (n : Int) ∧ [D.eY].length * (n : Int).toNat ≤ sizeLine := ⟨by omega, by omega, by simp; exact hz⟩
  simp only [qM, uS, if_pos hc, Int.toNat_natCast, De, bM, List.length_replicate, if_pos hz]
  simp
  exact ⟨by omega, by omega, hz⟩
 have g1 : ∀ x y : DO, (H ++ [x, y])[H.length + 1]? = some y := fun x y => Hq H x y []
 have R8 := zu nms aQ n []
 have a0 : jQ ((vL nms aQ n []).map Tr.D) 0 = some (gu (vL nms aQ n []) 0).D := by
  refine gB (j := 0) ?_
  unfold gu
  rw [List.getElem?_map, List.getD_eq_getElem?_getD, List.getElem?_eq_getElem (by rw [R8]; simp; omega)]
  rfl
 refine ⟨[.lst [.eY], .lst ((vL nms aQ n []).map Tr.D)], ?_⟩
 have fd := fun τ G => GX (g := gN 3) (body := fC) (τ := τ) (G := G) n
 have hn2 : (0 : Int) ≤ (n : Int) ∧ (n : Int) < 2 ^ 30 := ⟨by omega, by omega⟩
 generalize (vL nms aQ n []).map Tr.D = row at e a0
 have R9 : (n : Int) < 1073741824 := by omega
 have Sa : n < 1073741824 := by omega
 unfold e8
 simp! [kB, n1, hsl, hz, r1, CU, Ax, R9, Sa, fd, e, g1, a0]
end K12
end
section
set_option Elab.async false
set_option linter.all false
set_option maxRecDepth 100000
set_option maxHeartbeats 1000000
namespace K12
open PySem PySem.Spec L2 L3
theorem G5 (ws : List Str) (hl : (ws.map fun w => w.length + 1).sum ≤ 100000) (G : DH) : ∃ j : Str, nv (.str " ") [.con (ws.map .str)] G = .ok (.str j) G ∧ j.cps.toList = cB [32] (ws.map fun w => w.cps.toList) ∧ j.length ≤ 100000 := by
 have hj : JoinOk " " ws = true := by
  have n2 : (" " : Str).length = 1 := by decide +kernel
  have e : ws.toArray.foldl (fun a (w : Str) => a + w.length + (" " : Str).length) 0 = (ws.map fun w => w.length + 1).sum := by
   rw [n2, List.foldl_toArray, sN]; simp
  unfold JoinOk
  rw [e]
  rw [Bool.not_eq_true']
  unfold Builtin.Str.tooLong
  exact decide_eq_false (by have := lz (n := 100000) (by omega); omega)
 have hs := strs_map ws
 have hjl : (Txt.join " " ws).cps.toList = cB [32] (ws.map fun w => w.cps.toList) := by
  show (Builtin.Str.glued " " ws).cps.toList = _
  rw [StrLaws.glued_eq_join]
  exact ko " " ws
 have hlen : (Txt.join " " ws).length ≤ 100000 := by
  have := StrLaws.join_length_le " " ws
  have e1 : Txt.join " " ws = Str.join " " ws := StrLaws.glued_eq_join ..
  have n2 : (" " : Str).length = 1 := by decide +kernel
  rw [n2] at this
  have e2 : (ws.map fun w => w.length + 1).sum = (ws.map (·.length)).sum + ws.length := by
   clear this hl hj hs hjl e1
   induction ws with
   | nil => rfl
   | cons w ws ih => simp [ih]; omega
  rw [e1]; omega
 refine ⟨Txt.join " " ws, ?_, hjl, hlen⟩
 simp [nv, bz, hs, hj]
variable {G0 H : DH} {pN : Nat} {os : List Nat} {aQ nms : List (List Nat)}
theorem Ce {n : Nat} (s : Gp G0 H pN os aQ) (hp : Pg n aQ) (hno : os.length = n) (hnn : nms.length = n) (hn : n ≤ 200) (m : Nat) (hm : m < n) (ts : List Tr) (hl : ts.length + (m + 1) = n) (hok : (xR nms aQ m ts).Ok) (hsz : mL (kids aQ m ts) ≤ 1000) :
  gb [some (.con (aP nms)), some (.obj pN), some (.obj (H.length + 1)), some (.int (m : Nat))] (H ++ [.lst [.str ""], .lst (List.replicate (m + 1) (.str "") ++ ts.map iQ)]) =
   .nx [some (.con (aP nms)), some (.obj pN), some (.obj (H.length + 1)), some (.int (m : Nat))] (H ++ [.lst [.str ""], .lst (List.replicate m (.str "") ++ (xR nms aQ m ts :: ts).map iQ)]) := by
 have ea := G4 nms m (by omega)
 obtain ⟨o, eo, ho⟩ := Df s m (by omega)
 have er := Dc (v := iQ) (z := D.str "") ts m (xR nms aQ m ts)
 have ei := GZ (v := iQ) (z := D.str "") ts m
 have OO := fun j h1 h2 => GY (v := iQ) (z := D.str "") ts m j h1 h2
 have Ho : (gX aQ m).length ≤ 200 := by
  have hsub : ∀ x ∈ gX aQ m, x ∈ List.range n := fun x hx => by
   have := hp.tR m x hx
   simp; omega
  have := rQ (gX aQ m) (List.range n) (hp.nd m) hsub
  simp at this; omega
 generalize List.replicate (m + 1) (D.str "") ++ ts.map iQ = row at er ei OO
 have g1 : ∀ x y : DO, (H ++ [x, y])[H.length + 1]? = some y := fun x y => Hq H x y []
 have s1 : ∀ x y z : DO, (H ++ [x, y]).set (H.length + 1) z = H ++ [x, z] := fun x y z => Qx H x y z []
 have gp : ∀ E : DH, (H ++ E)[pN]? = some (.lst (os.map .obj)) := fun E => bD s.hp
 have go : ∀ E : DH, (H ++ E)[o]? = some (.lst ((gX aQ m).map fun j => D.int (j : Nat))) := fun E => bD ho
 have cc := qx (ks := [false, false, true]) (te := aF dY (ah 3) (ah 0)) (τ := [some (.con (aP nms)), some (.obj pN), some (.obj (H.length + 1)), some (.int (m : Nat))]) (G := H ++ [.lst [.str ""], .lst row]) (src := o) (as := gX aQ m) (dat := fun j => D.int (j : Nat)) (f := fun j => iQ (gu ts (j - m - 1))) (go _) (by omega) (fun j hj acc => by
  have hr := hp.tR m j hj
  have e1 := OO j hr.1 (by omega)
  have e2 : ((H ++ [.lst [.str ""], .lst row]) ++ [.lst acc])[H.length + 1]? = some (.lst row) := bD (g1 _ _)
  simp only [mask, List.cons_append, List.nil_append, jq, eS, List.getElem?_cons_succ, List.getElem?_cons_zero, fQ, aT, dY, bz, if_true, Bool.false_eq_true, if_false, e2, e1])
 have hcl : aR ((gX aQ m).map fun j => iQ (gu ts (j - m - 1))) = true := bI fun _ => bf
 have ek : ((gX aQ m).map fun j => iQ (gu ts (j - m - 1))) = (kids aQ m ts).map iQ := by rw [kids, List.map_map]; rfl
 have et : xR nms aQ m ts = .nd (nms.getD m []) (kids aQ m ts) := rfl
 generalize xR nms aQ m ts = t at et er hok
 generalize (nms.getD m []) = nm at ea et
 have ef : eFn (gD oN [false, false, true] (aF dY (ah 1) (ah 3)) (iN) (aF dY (ah 3) (ah 0))) [some (.con (aP nms)), some (.obj pN), some (.obj (H.length + 1)), some (.int (m : Nat))] (H ++ [.lst [.str ""], .lst row]) = .ok (.con ((gX aQ m).map fun j => iQ (gu ts (j - m - 1)))) (H ++ [.lst [.str ""], .lst row]) := by
  simp only [ju, uo, jq, eS, List.getElem?_cons_succ, List.getElem?_cons_zero, fQ, aT, dY, bz, gp, eo, go, cc, sj hcl]
 rw [ek] at ef
 generalize kids aQ m ts = ks at ef et hsz
 rw [et, Tr.Ok] at hok
 have hlt := tN ks
 have hs := zl ks hok.2
 have hnl := hok.1.le
 obtain ⟨j, ej, cj, kj⟩ := G5 (aU nm :: ks.map fun i => aU i.L) (by
  simp only [List.map_cons, List.map_map, List.sum_cons, iB]
  have e : (ks.map ((fun w : Str => w.length + 1) ∘ fun i => aU i.L)) = ks.map fun i => i.L.length + 1 := List.map_congr_left fun i _ => by simp [iB]
  rw [e]; omega) (H ++ [.lst [.str ""], .lst row])
 have hL : 40 :: cB [32] ((aU nm :: ks.map fun i => aU i.L).map fun w => w.cps.toList) ++ [41] = (Tr.nd nm ks).L := by
  simp only [List.map_cons, qc, List.map_map, fY]
  have e : (ks.map ((fun w : Str => w.cps.toList) ∘ fun i => aU i.L)) = ks.map Tr.L := List.map_congr_left fun i _ => fY _
  rw [e, Tr.L, sM]
  simp
 have n1 : ("(" : Str).length = 1 := by decide +kernel
 have n3 : (")" : Str).length = 1 := by decide +kernel
 obtain ⟨t1, e1, c1, k1⟩ := B9 "(" j (H ++ [.lst [.str ""], .lst row]) (by omega)
 obtain ⟨t2, e2, c2, k2⟩ := B9 t1 ")" (H ++ [.lst [.str ""], .lst row]) (by omega)
 have ht : D.str t2 = iQ t := by
  rw [et, iQ]
  congr 1
  apply qE
  rw [c2, c1, cj, fY, ← hL]
  rfl
 rw [← ht] at er
 simp only [List.map_cons, List.map_map] at ej
 have Up : nv (.str " ") [.con (.str (aU nm) :: ks.map iQ)] (H ++ [.lst [.str ""], .lst row]) = .ok (.str j) (H ++ [.lst [.str ""], .lst row]) := ej
 have z1 : (1 : Nat) ≤ sizeLine := lz (by omega)
 have f1 : ∀ (x : Str) (G : DH), (bM [.str x] G).fw G = .ok (.con [.str x]) G := fun x G => iu (by simpa using z1) rfl
 have L4 : aR (.str (aU nm) :: ks.map iQ) = true := by
  rw [eT, bf]
  exact bI fun _ => bf
 have hz : (D.str (aU nm) :: ks.map iQ).length ≤ sizeLine := lz (by simp; omega)
 have f5 := fun G => iu (G := G) hz L4
 generalize hH : H ++ [DO.lst [.str ""], .lst row] = H2 at ef Up e1 e2
 have h1 : H2[H.length + 1]? = some (.lst row) := by rw [← hH]; exact g1 _ _
 have h2 : ∀ z, H2.set (H.length + 1) z = H ++ [.lst [.str ""], z] := fun z => by rw [← hH]; exact s1 _ _ _
 have ev : aF dJ (aF dJ (eC (.str "(")) (bq "str" nv (eC (.str " ")) (ai (eFn (aF dJ (eFn (aC bM (ai (aF dY (ah 0) (ah 3)) (aq)))) (eFn (gD oN [false, false, true] (aF dY (ah 1) (ah 3)) (iN) (aF dY (ah 3) (ah 0)))))) (aq)))) (eC (.str ")")) [some (.con (aP nms)), some (.obj pN), some (.obj (H.length + 1)), some (.int (m : Nat))] H2 = .ok (.str t2) H2 := by
  have eg : eFn (aF dJ (eFn (aC bM (ai (aF dY (ah 0) (ah 3)) (aq)))) (eFn (gD oN [false, false, true] (aF dY (ah 1) (ah 3)) (iN) (aF dY (ah 3) (ah 0))))) [some (.con (aP nms)), some (.obj pN), some (.obj (H.length + 1)), some (.int (m : Nat))] H2 = .ok (.con (.str (aU nm) :: ks.map iQ)) H2 := by
   rw [ju, jq]
   have eh : eFn (aC bM (ai (aF dY (ah 0) (ah 3)) (aq))) [some (.con (aP nms)), some (.obj pN), some (.obj (H.length + 1)), some (.int (m : Nat))] H2 = .ok (.con [.str (aU nm)]) H2 := by
    simp only [ju, oj, jT, jq, eS, List.getElem?_cons_succ, List.getElem?_cons_zero, fQ, aT, dY, bz, ea, jr, oY, f1]
   rw [eh, fQ, aT, ef, fQ, OM]
   exact f5 _
  simp only [jq, Aa, fQ, aT, jt, gk, beq_self_eq_true, if_true, jT, eg, jr, oY, Up, e1, e2]
 simp only [gb, Aw, ev, fQ, aT, eS, List.getElem?_cons_succ, List.getElem?_cons_zero, rY, h1, ei, h2, er, z9]
end K12
end
section
set_option Elab.async false
set_option linter.all false
set_option maxRecDepth 100000
set_option maxHeartbeats 1000000
namespace K12
open PySem PySem.Spec L2 L3
variable {G0 H : DH} {pN : Nat} {os : List Nat} {aQ nms : List (List Nat)}
theorem vK {n : Nat} (s : Gp G0 H pN os aQ) (hp : Pg n aQ) (hno : os.length = n) (hnn : nms.length = n) (hnm : ∀ l ∈ nms, Nm l) (hn : n ≤ 200) : ∀ (m : Nat) (ts : List Tr) (a3 : Option D), Bi aQ n m ts →
  ∃ b3, cJ (gN 3) gb (dn m) [some (.con (aP nms)), some (.obj pN), some (.obj (H.length + 1)), a3] (H ++ [.lst [.str ""], .lst (List.replicate m (.str "") ++ ts.map iQ)]) = .nx [some (.con (aP nms)), some (.obj pN), some (.obj (H.length + 1)), b3] (H ++ [.lst [.str ""], .lst ((vL nms aQ m ts).map iQ)])
 | 0, ts, a3, _ => ⟨a3, by simp [dn, cJ, vL]⟩
 | m + 1, ts, a3, hb => by
  have hl := hb.len
  obtain ⟨hb', hk, hok⟩ := hb.step (nms := nms) hp hnn hnm
  have e := Ce s hp hno hnn hn m (by omega) ts hl hok (by omega)
  obtain ⟨b3, e'⟩ := vK s hp hno hnn hnm hn m (xR nms aQ m ts :: ts) (some (.int (m : Nat))) hb'
  refine ⟨b3, ?_⟩
  rw [dn, eB rfl]
  simp only [List.set_cons_succ, List.set_cons_zero, e, jU]
  rw [e', vL]
theorem G6 {n : Nat} (hp : Pg n aQ) (hnn : nms.length = n) (hnm : ∀ l ∈ nms, Nm l) : ∀ (m : Nat) (ts : List Tr), Bi aQ n m ts → Bi aQ n 0 (vL nms aQ m ts)
 | 0, ts, hb => hb
 | m + 1, ts, hb => by rw [vL]; exact G6 hp hnn hnm m _ (hb.step hp hnn hnm).1
theorem Ep {n : Nat} (s : Gp G0 H pN os aQ) (hp : Pg n aQ) (hno : os.length = n) (hnn : nms.length = n) (hnm : ∀ l ∈ nms, Nm l) (hn : n ≤ 200) (h0 : 0 < n) : ∃ E, fM [.con (aP nms), .obj pN] H = .ok (iQ (gu (vL nms aQ n []) 0)) (H ++ E) := by
 obtain ⟨b3, e⟩ := vK s hp hno hnn hnm hn n [] none (GV aQ n)
 rw [List.map_nil, List.append_nil] at e
 have hsl : (aP nms).length = n := by simp [aP, hnn]
 have hz : n ≤ sizeLine := lz (by omega)
 have z1 : (1 : Nat) ≤ sizeLine := lz (by omega)
 have n1 : bM [.str ""] H = .ok (.obj H.length) (H ++ [.lst [.str ""]]) := by simp [bM, z1]
 have r1 : qM (.obj H.length) (.int (n : Int)) (H ++ [.lst [.str ""]]) = .ok (.obj (H.length + 1)) (H ++ [.lst [.str ""], .lst (List.replicate n (.str ""))]) := by
  have hc : (n : Int) < 1000 ∧ -1000 < (n : Int) ∧ [D.str ""].length * (n : Int).toNat ≤ sizeLine := ⟨by omega, by omega, by simp; exact hz⟩
  simp only [qM, uS, if_pos hc, Int.toNat_natCast, De, bM, List.length_replicate, if_pos hz]
  simp
  exact ⟨by omega, by omega, hz⟩
 have g1 : ∀ x y : DO, (H ++ [x, y])[H.length + 1]? = some y := fun x y => Hq H x y []
 have R8 := zu nms aQ n []
 have a0 : jQ ((vL nms aQ n []).map iQ) 0 = some (iQ (gu (vL nms aQ n []) 0)) := by
  refine gB (j := 0) ?_
  unfold gu
  rw [List.getElem?_map, List.getD_eq_getElem?_getD, List.getElem?_eq_getElem (by rw [R8]; simp; omega)]
  rfl
 refine ⟨[.lst [.str ""], .lst ((vL nms aQ n []).map iQ)], ?_⟩
 have fd := fun τ G => GX (g := gN 3) (body := gb) (τ := τ) (G := G) n
 generalize (vL nms aQ n []).map iQ = row at e a0
 have R9 : (n : Int) < 1073741824 := by omega
 have Sa : n < 1073741824 := by omega
 unfold fM
 simp! [lQ, n1, hsl, hz, r1, CU, Ax, R9, Sa, fd, e, g1, a0]
end K12
end
section
set_option Elab.async false
set_option linter.all false
set_option maxRecDepth 100000
set_option maxHeartbeats 1000000
namespace K12
open PySem PySem.Spec L2 L3
theorem G7 (x : Str) : (∀ c ∈ (Txt.slice x none (some 7)).cps.toList, c ∈ x.cps.toList) ∧ (Txt.slice x none (some 7)).length ≤ 7 := by
 constructor
 ·intro c hc
  unfold Txt.slice at hc
  split at hc
  ·exact hc
  ·simp only [List.mem_filterMap] at hc
   obtain ⟨i, _, hi⟩ := hc
   exact List.mem_of_getElem? (i := i) (by simpa using hi)
 ·by_cases h : 7 ≤ x.cps.toList.length
  ·have e : Txt.slice x none (some 7) = ⟨((x.cps.toList.drop 0).take ((7 : Int) - 0).toNat).toArray⟩ := StrLaws.sliceText_to ⟨by omega, by omega⟩
   rw [e, str_len]
   simp
   omega
  ·have := Txt.slice_le x none (some 7)
   rw [str_len x] at this
   omega
theorem Sb : ∀ w ∈ words, w.cps.toList.getLast? ≠ some 113 := by decide +kernel
theorem Sd {l : List Nat} (h : Nm l) : Nm ((Txt.slice (aU l) none (some 7)).cps.toList ++ [113]) := by
 obtain ⟨h1, h2⟩ := G7 (aU l)
 rw [str_len] at h2
 refine ⟨by simp, by simp; simpa using h2, fun x hx => ?_, ?_⟩
 ·rcases List.mem_append.mp hx with hx | hx
  ·have := h1 x hx
   rw [fY] at this
   exact h.az x this
  ·simp at hx; omega
 ·show words.any (· == aU ((Txt.slice (aU l) none (some 7)).cps.toList ++ [113])) = false
  cases e : words.any (· == aU ((Txt.slice (aU l) none (some 7)).cps.toList ++ [113])) with
  | false => rfl
  | true =>
   obtain ⟨w, hw, R0⟩ := List.any_eq_true.mp e
   have L6 : w = aU ((Txt.slice (aU l) none (some 7)).cps.toList ++ [113]) := by simpa using R0
   refine absurd ?_ (Sb w hw)
   rw [L6, fY, List.getLast?_append]
   simp
theorem Jm (ds : List Int) (hd : ds.length = 8) (t : Tr) (ho : t.Ok) (hsz : t.sz ≤ 110) (a0 a2 a3 a4 : Option D) (G : DH) :
  (bh (oh (kJ (aF (kI true) (bZ 1 fF (ai (ah 5) (aq))) (ah 6))) (gi (eC (.bl false))) (cP)) (bh (bC 7 (jz " " [" ", "  ", "\n "] (ah 6) (aF d7 (aF dY (ah 1) (eC (.int 5))) (eC (.int 3))))) (bh (oh (kJ (aF (kI false) (aF d7 (aF iC (aF dY (ah 1) (eC (.int 5))) (eC (.int 3))) (eC (.int 2))) (eC (.int 1)))) (bC 7 (jz "(" ["( ", "\n(", " ( "] (ah 7) (aF d7 (aF dY (ah 1) (eC (.int 6))) (eC (.int 3))))) (cP)) (bh (oh (kJ (aF (kI false) (aF d7 (aF iC (aF dY (ah 1) (eC (.int 5))) (eC (.int 6))) (eC (.int 2))) (eC (.int 1)))) (bC 7 (jz ")" [" )", ")\n", "\n ) "] (ah 7) (aF d7 (aF dY (ah 1) (eC (.int 7))) (eC (.int 3))))) (cP)) (bh (bC 8 (Lz (vQ " (" "(") (ah 6))) (gi (DA (aF (kI false) (bZ 1 cR (ai (ah 6) (aq))) (ah 5)) (DA (aF (kI false) (bZ 1 cR (ai (ah 7) (aq))) (ah 5)) (aF (kI false) (bZ 1 cR (ai (ah 8) (aq))) (ah 5)))))))))) [a0, some (.con (ds.map .int)), a2, a3, a4, some t.D, some (iQ t), none, none] G = .rt (.bl true) G := by
 have x9 : jQ (ds.map D.int) 5 = some (.int (zp ds 5)) := tP ds 5 (by omega)
 have Se : jQ (ds.map D.int) 6 = some (.int (zp ds 6)) := tP ds 6 (by omega)
 have Sf : jQ (ds.map D.int) 7 = some (.int (zp ds 7)) := tP ds 7 (by omega)
 generalize zp ds 5 = v9 at x9
 generalize zp ds 6 = v10 at Se
 generalize zp ds 7 = v11 at Sf
 have hch : Ch (aU t.L) := fun c hc => by rw [fY] at hc; exact GA t ho c hc
 have hlen : (aU t.L).length ≤ 1210 := by rw [iB]; have := B5 t ho; omega
 have hlx : bw [] (aU t.L).cps.toList = t.W := by
  rw [fY]
  have := Gz t ho []
  simpa [bw, iw] using this
 obtain ⟨y1, q1, w1, c1, k1⟩ := GN (aU t.L) hch (by omega) v9
 obtain ⟨y2, q2, w2, c2, k2⟩ := GO y1 c1 (by omega) v10
 have i1 : ∃ y3, bw [] y3.cps.toList = t.W ∧ Ch y3 ∧ y3.length ≤ 19360 ∧ (oh (kJ (aF (kI false) (aF d7 (aF iC (aF dY (ah 1) (eC (.int 5))) (eC (.int 3))) (eC (.int 2))) (eC (.int 1)))) (bC 7 (jz "(" ["( ", "\n(", " ( "] (ah 7) (aF d7 (aF dY (ah 1) (eC (.int 6))) (eC (.int 3))))) (cP)) [a0, some (.con (ds.map .int)), a2, a3, a4, some t.D, some (iQ t), some (.str y1), none] G = .nx [a0, some (.con (ds.map .int)), a2, a3, a4, some t.D, some (iQ t), some (.str y3), none] G := by
  cases hb : (v9 / 3 % 2 == 1) with
  | true =>
   refine ⟨y2, by rw [w2, w1, hlx], c2, by omega, ?_⟩
   simp! [x9, Se, e9, hb, q2]
  | false =>
   refine ⟨y1, by rw [w1, hlx], c1, by omega, ?_⟩
   simp! [x9, Se, e9, hb]
 obtain ⟨y3, w3, c3, k3, i1⟩ := i1
 obtain ⟨y4, q4, w4, c4, k4⟩ := GP y3 c3 (by omega) v11
 have i2 : ∃ y5, bw [] y5.cps.toList = t.W ∧ Ch y5 ∧ y5.length ≤ 100000 ∧ (oh (kJ (aF (kI false) (aF d7 (aF iC (aF dY (ah 1) (eC (.int 5))) (eC (.int 6))) (eC (.int 2))) (eC (.int 1)))) (bC 7 (jz ")" [" )", ")\n", "\n ) "] (ah 7) (aF d7 (aF dY (ah 1) (eC (.int 7))) (eC (.int 3))))) (cP)) [a0, some (.con (ds.map .int)), a2, a3, a4, some t.D, some (iQ t), some (.str y3), none] G = .nx [a0, some (.con (ds.map .int)), a2, a3, a4, some t.D, some (iQ t), some (.str y5), none] G := by
  cases hb : (v9 / 6 % 2 == 1) with
  | true =>
   refine ⟨y4, by rw [w4, w3], c4, by omega, ?_⟩
   simp! [x9, Sf, e9, hb, q4]
  | false =>
   refine ⟨y3, w3, c3, by omega, ?_⟩
   simp! [x9, Sf, e9, hb]
 obtain ⟨y5, w5, c5, k5, i2⟩ := i2
 have r1 := zk ho (by omega) y5 c5 (by omega) w5 G
 have r2 := zk ho (by omega) (aU t.L) hch (by omega) hlx G
 have two : Ch (Txt.replace (aU t.L) " (" "(") := by
  obtain ⟨qs, e1, e2⟩ := sy (aU t.L) " (" "(" rfl
  intro a ha
  rw [e2, ko] at ha
  have key : ∀ (qs : List (List Nat)) (u v : List Nat), a ∈ cB u qs → a ∈ u ∨ a ∈ cB v qs := by
   intro qs
   induction qs with
   | nil => intro u v h; simp [cB] at h
   | cons p qs ih =>
    intro u v h
    cases qs with
    | nil => exact .inr h
    | cons q qs =>
     rw [cB] at h ⊢
     rcases List.mem_append.mp h with h | h
     ·rcases List.mem_append.mp h with h | h
      ·exact .inr (by simp [h])
      ·exact .inl h
     ·rcases ih u v h with h | h
      ·exact .inl h
      ·exact .inr (by simp only [List.mem_append]; exact .inr h)
  rcases key _ _ (" (" : Str).cps.toList ha with h | h
  ·have : a = 40 := by
    have h' : a ∈ [40] := h
    simpa using h'
   omega
  ·rw [← ko, ← e1] at h
   exact hch a h
 have r3 := zk ho (by omega) (Txt.replace (aU t.L) " (" "(") two (by have := IV (aU t.L); omega) (by rw [IU, hlx]) G
 have p3 := CQ (G := G) (y := " (") (z := "(") (x := aU t.L) (by decide +kernel) (by omega) (by decide +kernel)
 have sh := Jg ho (by omega) G
 have hpl := JL t ho
 have Xj := JM t
 have q6 := Ga false t.D G hpl (by omega)
 have hg : PyData.strOk (aU t.L) = true := AQ (GA t ho)
 have q7 := jS true (aU t.L) (aU t.L) G hg hg
 rw [show (aU t.L == aU t.L) = true by simp] at q7
 rw [iQ] at sh i1 i2
 rw [iQ]
 generalize Txt.replace (aU t.L) " (" "(" = y6 at r3 p3
 generalize t.D = td at sh i1 i2 r1 r2 r3 q6
 generalize aU t.L = tx at sh i1 i2 r2 q1 q7 p3
 have A : (oh (kJ (aF (kI true) (bZ 1 fF (ai (ah 5) (aq))) (ah 6))) (gi (eC (.bl false))) (cP)) [a0, some (.con (ds.map .int)), a2, a3, a4, some td, some (.str tx), none, none] G = .nx [a0, some (.con (ds.map .int)), a2, a3, a4, some td, some (.str tx), none, none] G := by
  simp! [sh, q7]
 have C : (bC 7 (jz " " [" ", "  ", "\n "] (ah 6) (aF d7 (aF dY (ah 1) (eC (.int 5))) (eC (.int 3))))) [a0, some (.con (ds.map .int)), a2, a3, a4, some td, some (.str tx), none, none] G = .nx [a0, some (.con (ds.map .int)), a2, a3, a4, some td, some (.str tx), some (.str y1), none] G := by
  simp! [x9, q1]
 rw [cL, A, fc, cL, C, fc, cL, i1, fc, cL, i2, fc]
 simp! [p3, r2, q6, r1, r3]
end K12
end
section
set_option Elab.async false
set_option linter.all false
set_option maxRecDepth 100000
set_option maxHeartbeats 1000000
namespace K12
open PySem PySem.Spec L2 L3
theorem G8 (ns : List Int) (hl : ns.length ≤ 63) : ∃ G, CW [.con (ns.map .int)] [] = .ok (.bl true) G := by
 obtain ⟨ds, hd, ed⟩ := GJ ns 8 (by omega) hl []
 have RX : fJ [.con (ns.map .int), .int 8] [] = .ok (.con (ds.map .int)) [] := ed
 have r4 := qC (j := 4) (by omega) (by omega)
 have p4 := gF (gO := oN) (ks := [false, true]) (tt := iN) (te := bZ 1 dM (ai (aF dY (ah 2) (ah 0)) (aq))) (own := fun k : Nat => [D.int (0 + (k : Int))]) (dat := fun k : Nat => D.int (0 + (k : Int))) (f := fun k => D.str (aU (JS (zp ds k)))) (c := fun _ => true) (G := []) (τ := [some (.con (ns.map .int)), some (.con (ds.map .int)), none, none, none, none, none, none, none]) (List.range' 0 4) [] (by simp) (fun _ _ => rfl) (fun i hi acc => rfl) (fun k hk acc => by
  have hk' : k < 4 := by have := List.mem_range'_1.mp hk; omega
  have x := tP ds k (by omega)
  have e := Ji (zp ds k) ([] ++ [.lst acc])
  simp only [List.nil_append] at e
  simp! [mask, x, e])
 simp only [List.nil_append, List.length_nil, List.filter_eq_self.mpr (fun _ _ => rfl)] at p4
 have hps : ((List.range' 0 4).map fun k => D.str (aU (JS (zp ds k)))) = aP ((List.range' 0 4).map fun k => JS (zp ds k)) := by simp [aP]
 rw [hps] at p4
 have op : ∀ l ∈ (List.range' 0 4).map fun k => JS (zp ds k), Nm l := fun l hl => by
  obtain ⟨k, _, rfl⟩ := List.mem_map.mp hl
  exact L7 _
 have lp : ((List.range' 0 4).map fun k => JS (zp ds k)).length = 4 := by simp
 have Uq : mX [.int 4] = some ((List.range' 0 4).map fun (k : Nat) => .int (0 + (k : Int))) := r4
 generalize ((List.range' 0 4).map fun k => JS (zp ds k)) = ps at p4 op lp
 generalize ((List.range' 0 4).map fun (k : Nat) => D.int (0 + (k : Int))) = i4 at Uq p4
 obtain ⟨l0, pr, rfl⟩ : ∃ l0 pr, ps = l0 :: pr := by cases ps with
  | nil => simp at lp
  | cons a b => exact ⟨a, b, rfl⟩
 have o0 := op l0 (by simp)
 have oq := Sd o0
 have h7 := (G7 (aU l0)).2
 have hq1 : ("q" : Str).length = 1 := by decide +kernel
 obtain ⟨tq, eq1, cq, kq⟩ := B9 (Txt.slice (aU l0) none (some 7)) "q" [.lst (aP (l0 :: pr))] (by omega)
 have W3 : tq = aU ((Txt.slice (aU l0) none (some 7)).cps.toList ++ [113]) := qE (by rw [cq, fY]; rfl)
 rw [W3] at eq1
 generalize (Txt.slice (aU l0) none (some 7)).cps.toList ++ [113] = lq at oq eq1
 have a0 : jQ (aP (l0 :: pr)) 0 = some (.str (aU l0)) := gB (j := 0) rfl
 have hz0 : (aU l0).length ≤ sizeLine := by rw [iB]; exact lz (by have := o0.le; omega)
 have W4 : (aP (l0 :: pr)).length < sizeLine := Nat.lt_of_lt_of_le (show _ < 100 by simp [aP] at lp ⊢; omega) (lz (by omega))
 have Ur : aP (l0 :: pr) ++ [.str (aU lq)] = aP (l0 :: pr ++ [lq]) := by simp [aP]
 have Us : ∀ l ∈ l0 :: pr ++ [lq], Nm l := fun l hl => by
  rcases List.mem_append.mp hl with hl | hl
  ·exact op l hl
  ·simp at hl; rw [hl]; exact oq
 have Sg : (l0 :: pr ++ [lq]).length = 5 := by simp at lp ⊢; omega
 generalize W5 : l0 :: pr ++ [lq] = OP at Ur Us Sg
 obtain ⟨cs, hcn, hcl, ec⟩ := GQ ns hl [.lst (aP OP)]
 obtain ⟨H, pN, nms, os, aQ, eg, sg, h1, h2, h3, h4⟩ := GU (p := 0) [.lst (aP OP)] cs hcn (by omega) OP Us (fun z => by rw [z] at Sg; simp at Sg) (by omega) rfl
 have hn0 : 0 < cs.length := List.length_pos_iff.mpr hcn
 obtain ⟨E1, e1⟩ := Cd sg h4 h1 h2 (by omega) hn0
 obtain ⟨E2, e2⟩ := Ep (sg.more E1) h4 h1 h2 h3 (by omega) hn0
 have hb := G6 h4 h2 h3 cs.length [] (GV aQ cs.length)
 obtain ⟨to, tz⟩ := hb.root h4 hn0
 generalize gu (vL nms aQ cs.length []) 0 = t at e1 e2 to tz
 have tl := Jm ds hd t to (by omega) (some (.con (ns.map .int))) (some (.obj 0)) (some (.con (aP nms))) (some (.obj pN)) (H ++ E1 ++ E2)
 have S0 : (fX (bq "list" bX (ah 2) (ai (aF dJ (eFn (Jt (aF dY (ah 2) (eC (.int 0))) (zK) (nc (eC (.int 7))))) (eC (.str "q"))) (aq)))) [some (.con (ns.map .int)), some (.con (ds.map .int)), some (.obj 0), none, none, none, none, none, none] [.lst (aP (l0 :: pr))] = .nx [some (.con (ns.map .int)), some (.con (ds.map .int)), some (.obj 0), none, none, none, none, none, none] [.lst (aP OP)] := by
  dsimp! [a0, K9, hz0, ju, eq1, W4, Ur]
 have S1 : (Gg (gP 3 4) (bZ 2 fK (ai (bZ 2 fL (ai (ah 0) (ai (eC (.int 1)) (aq)))) (ai (ah 2) (aq))))) [some (.con (ns.map .int)), some (.con (ds.map .int)), some (.obj 0), none, none, none, none, none, none] [.lst (aP OP)] = .nx [some (.con (ns.map .int)), some (.con (ds.map .int)), some (.obj 0), some (.con (aP nms)), some (.obj pN), none, none, none, none] H := by
  simp! [LL, ec, eg, Gf, gP]
 have S2 : (bC 5 (bZ 2 e8 (ai (ah 3) (ai (ah 4) (aq))))) [some (.con (ns.map .int)), some (.con (ds.map .int)), some (.obj 0), some (.con (aP nms)), some (.obj pN), none, none, none, none] H = .nx [some (.con (ns.map .int)), some (.con (ds.map .int)), some (.obj 0), some (.con (aP nms)), some (.obj pN), some t.D, none, none, none] (H ++ E1) := by
  simp! [e1]
 have S3 : (bC 6 (bZ 2 fM (ai (ah 3) (ai (ah 4) (aq))))) [some (.con (ns.map .int)), some (.con (ds.map .int)), some (.obj 0), some (.con (aP nms)), some (.obj pN), some t.D, none, none, none] (H ++ E1) = .nx [some (.con (ns.map .int)), some (.con (ds.map .int)), some (.obj 0), some (.con (aP nms)), some (.obj pN), some t.D, some (iQ t), none, none] (H ++ E1 ++ E2) := by
  generalize H ++ E1 = H1 at e2
  simp! [e2]
 have ST : BQ [some (.con (ns.map .int)), some (.con (ds.map .int)), some (.obj 0), none, none, none, none, none, none] [.lst (aP (l0 :: pr))] = .rt (.bl true) (H ++ E1 ++ E2) := by
  rw [BQ, cL, S0, fc, cL, S1, fc, cL, S2, fc, cL, S3, fc]
  exact tl
 refine ⟨[], ?_⟩
 unfold CW
 refine lI (R := H ++ E1 ++ E2) ?_ rfl
 generalize aP (l0 :: pr) = pd at p4 ST
 dsimp! [CV, RX, Uq, p4, ST]
end K12
end
end
section
set_option Elab.async false
set_option linter.all false
set_option maxRecDepth 100000
set_option maxHeartbeats 4000000
namespace K12
open PySem PySem.Spec L2 L3
theorem walk {l : PySem.W.OpenLaw} {qq : Program} {loose : List Str} {XP : (Str → Option Value) → Heap → Prop} {YP : World → Heap → Prop} {d : DefRec} {K : Params → PySem.W.Frag} (hn : l.most = some 63) (hdf : d.params.defaults = [])
    (hY : ∀ (w : World) (h : Heap), YP w h → (K w.params).In h)
    (F : ∀ (w : World) (mg : Str → Option Value) (fa : Addr) (h : Heap), (K w.params).In h → h.Ns mainGlobals mg → mg d.name = some (.ref fa) → ∃ t, Txt (K w.params) mg t ∧ (t.f 20) = fa ∧ ∀ (s : Shared) (u : Value), BindsTo s (t.d 20) ⟨[u], []⟩ [("_law_script", u)]) :
    PySem.W.WalkO qq loose XP YP l.row.toRowW d [] (fun f vs => PySem.call f vs) :=
  L2.HU (n := 63) (k := 7) (x := "_law_script") (CX := fun w => cQ l.prog w) (sp := fun w => JB (K w.params)) hn (by decide) hdf ⟨rfl, by decide, by decide⟩ hY (fun w mg fa h KX G hm => by
    obtain ⟨t, T, rfl, hb⟩ := F w mg fa h KX G hm
    exact ⟨(t.d 20), hb, fun base _ _ => (L0 T).imp (Fo G8)⟩) (fun _ _ a ns hl hO hS => ⟨a, ns, rfl, Ls hO hS, hl, fun _ => rfl⟩) fun _ _ _ _ _ ⟨_, _, _, _, _, _, _, _, z⟩ => z
end K12
end
open PySem PySem.W PyProof.Rows
set_option maxRecDepth 100000 in
set_option maxHeartbeats 0 in
theorem PySem.Challenge.cw_pathshape_k12_trees_written_holds : PySem.Challenge.rw_pathshape_k12_trees_written.Holds := by
  w_on; o_law; k_head; (case hw => w_witness2)
  k_fill
  refine K12.walk (l := PySem.Challenge.rw_pathshape_k12_trees_written) rfl rfl (fun w h Y => PySem.W.kIn_of Y) ?F
  case F =>
    intro w mg fa h KX G hmg
    have T : ∃ t, K12.Txt (L2.KOf KX) mg t ∧ ∃ kV dc pm an cd ct, (t.d 20) = PySem.W.fnOf "law" "law" (L2.aA K12.cF) (L2.ay K12.cF) (L2.aa K12.cF) .none kV dc pm an cd ct := by
      dsimp only [L2.KOf]
      refine' K12.LN KX G ?my_a0 ?my_l0 ?my_c0 ?my_k0 ?my_a1 ?my_l1 ?my_c1 ?my_k1 ?my_a2 ?my_l2 ?my_c2 ?my_k2 ?my_a3 ?my_l3 ?my_c3 ?my_k3 ?my_a4 ?my_l4 ?my_c4 ?my_k4 ?my_a5 ?my_l5 ?my_c5 ?my_k5 ?my_a6 ?my_l6 ?my_c6 ?my_k6 ?my_a7 ?my_l7 ?my_c7 ?my_k7 ?my_a8 ?my_l8 ?my_c8 ?my_k8 ?my_a9 ?my_l9 ?my_c9 ?my_k9 ?my_a10 ?my_l10 ?my_c10 ?my_k10 ?my_a11 ?my_l11 ?my_c11 ?my_k11 ?my_a12 ?my_l12 ?my_c12 ?my_k12 ?my_a13 ?my_l13 ?my_c13 ?my_k13 ?my_a14 ?my_l14 ?my_c14 ?my_k14 ?my_a15 ?my_l15 ?my_c15 ?my_k15 ?my_a16 ?my_l16 ?my_c16 ?my_k16 ?my_a17 ?my_l17 ?my_c17 ?my_k17 ?my_a18 ?my_l18 ?my_c18 ?my_k18 ?my_a19 ?my_l19 ?my_c19 ?my_k19 ?my_a20 ?my_l20 ?my_c20 ?my_k20 ?my_z0 ?my_z1 ?my_z2 ?my_z3 ?my_z4 ?my_z5 ?my_z6 ?my_z7 ?my_z8 ?my_g0 ?my_gl0 ?my_gv0 ?my_g1 ?my_g2 ?my_nb0 ?my_nb1 ?my_cm0 ?my_ce0
      (case my_a0 => k_is)
      (case my_l0 => k_is)
      (case my_c0 => k_is)
      (case my_k0 => k_is)
      (case my_a1 => k_is)
      (case my_l1 => k_is)
      (case my_c1 => k_is)
      (case my_k1 => k_is)
      (case my_a2 => k_is)
      (case my_l2 => k_is)
      (case my_c2 => k_is)
      (case my_k2 => k_is)
      (case my_a3 => k_is)
      (case my_l3 => k_is)
      (case my_c3 => k_is)
      (case my_k3 => k_is)
      (case my_a4 => k_is)
      (case my_l4 => k_is)
      (case my_c4 => k_is)
      (case my_k4 => k_is)
      (case my_a5 => k_is)
      (case my_l5 => k_is)
      (case my_c5 => k_is)
      (case my_k5 => k_is)
      (case my_a6 => k_is)
      (case my_l6 => k_is)
      (case my_c6 => k_is)
      (case my_k6 => k_is)
      (case my_a7 => k_is)
      (case my_l7 => k_is)
      (case my_c7 => k_is)
      (case my_k7 => k_is)
      (case my_a8 => k_is)
      (case my_l8 => k_is)
      (case my_c8 => k_is)
      (case my_k8 => k_is)
      (case my_a9 => k_is)
      (case my_l9 => k_is)
      (case my_c9 => k_is)
      (case my_k9 => k_is)
      (case my_a10 => k_is)
      (case my_l10 => k_is)
      (case my_c10 => k_is)
      (case my_k10 => k_is)
      (case my_a11 => k_is)
      (case my_l11 => k_is)
      (case my_c11 => k_is)
      (case my_k11 => k_is)
      (case my_a12 => k_is)
      (case my_l12 => k_is)
      (case my_c12 => k_is)
      (case my_k12 => k_is)
      (case my_a13 => k_is)
      (case my_l13 => k_is)
      (case my_c13 => k_is)
      (case my_k13 => k_is)
      (case my_a14 => k_is)
      (case my_l14 => k_is)
      (case my_c14 => k_is)
      (case my_k14 => k_is)
      (case my_a15 => k_is)
      (case my_l15 => k_is)
      (case my_c15 => k_is)
      (case my_k15 => k_is)
      (case my_a16 => k_is)
      (case my_l16 => k_is)
      (case my_c16 => k_is)
      (case my_k16 => k_is)
      (case my_a17 => k_is)
      (case my_l17 => k_is)
      (case my_c17 => k_is)
      (case my_k17 => k_is)
      (case my_a18 => k_is)
      (case my_l18 => k_is)
      (case my_c18 => k_is)
      (case my_k18 => k_is)
      (case my_a19 => k_is)
      (case my_l19 => k_is)
      (case my_c19 => k_is)
      (case my_k19 => k_is)
      (case my_a20 => k_is)
      (case my_l20 => k_is)
      (case my_c20 => k_is)
      (case my_k20 => k_is)
      (case my_z0 => k_is)
      (case my_z1 => k_is)
      (case my_z2 => k_is)
      (case my_z3 => k_is)
      (case my_z4 => k_is)
      (case my_z5 => k_is)
      (case my_z6 => k_is)
      (case my_z7 => k_is)
      (case my_z8 => k_is)
      (case my_g0 => k_is)
      (case my_gl0 => k_is)
      (case my_gv0 => exact .cons ⟨_, rfl⟩ (.cons ⟨_, rfl⟩ (.cons ⟨_, rfl⟩ (.cons ⟨_, rfl⟩ (.cons ⟨_, rfl⟩ (.cons ⟨_, rfl⟩ (.cons ⟨_, rfl⟩ (.cons ⟨_, rfl⟩ (.cons ⟨_, rfl⟩ (.cons ⟨_, rfl⟩ (.cons ⟨_, rfl⟩ (.cons ⟨_, rfl⟩ (.nil)))))))))))))
      (case my_g1 => k_is)
      (case my_g2 => k_is)
      (case my_nb0 => kernel_rfl)
      (case my_nb1 => k_is)
      (case my_cm0 => k_is)
      (case my_ce0 => k_exc)
    obtain ⟨t, T, kV, dc, pm, an, cd, ct, e⟩ := T
    have e0 := hmg.symm.trans T.M_law
    cases e0
    exact ⟨t, T, rfl, fun s u => by rw [e]; exact .of_eq rfl⟩
