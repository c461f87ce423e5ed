import PyProof.Rows.All
import Wide.All
import OpenK.AllK
import Wide.FinOn
import Lean
import PyProof.EqAt
import PyProof.EqKinds
import PyProof.TupleCall
import PyProof.StrWalks
import KE.KTryMore
import PyProof.ZipIter
import PyProof.Rows.Range3
import PyProof.Draws
import PyProof.WalksMore
import PyProof.ExcBaseAll.ValueError
import PyProof.StrReplace2
import PyProof.FactsAll.range_2
import KE.KRevIter
import KE.KNest
import PySem.Challenge.RW_pathshape_k71_looks_numbered
section
set_option Elab.async false
set_option linter.all false
set_option maxRecDepth 100000
namespace L2
open PySem PySem.Spec PyProof.Rows
noncomputable abbrev Key := Sum Int Str
noncomputable def IX : Key → Value → Bool
  | .inl k, v => Value.isInt k v
  | .inr x, v => Value.isStrOf x v
noncomputable def OR (w : World) : Key → Int
  | .inl k => hashInt k
  | .inr x => hashStr w x
theorem d9 : ∀ {k : Key} {v : Value}, IX k v = true → (∃ i t, k = Sum.inl i ∧ v = Value.int i t) ∨ (∃ x t, k = Sum.inr x ∧ v = Value.str x t)
  | .inl i, v, h => by
    obtain ⟨t, e⟩ := Value.isInt_shape (k := i) (v := v) h
    exact .inl ⟨i, t, rfl, e⟩
  | .inr x, v, h => by
    obtain ⟨t, e⟩ := Value.isStrOf_shape (x := x) (v := v) h
    exact .inr ⟨x, t, rfl, e⟩
theorem JH (a b : Int) : decide ((Sum.inl a : Key) = Sum.inl b) = (a == b) := by
  by_cases e : a = b
  · subst e; simp
  · have h : ¬ (Sum.inl a : Key) = Sum.inl b := fun q => e (Sum.inl.inj q)
    rw [decide_eq_false h]
    exact (beq_eq_false_iff_ne.mpr e).symm
theorem JI (a b : Str) : decide ((Sum.inr a : Key) = Sum.inr b) = decide (a = b) := by
  by_cases e : a = b
  · subst e; simp
  · have h : ¬ (Sum.inr a : Key) = Sum.inr b := fun q => e (Sum.inr.inj q)
    rw [decide_eq_false h, decide_eq_false e]
theorem JJ (a : Int) (b : Str) : decide ((Sum.inl a : Key) = Sum.inr b) = false := decide_eq_false (fun q => nomatch q)
theorem JK (a : Str) (b : Int) : decide ((Sum.inr a : Key) = Sum.inl b) = false := decide_eq_false (fun q => nomatch q)
noncomputable def yi (prog : Program) (w : World) : PySem.KeyKind prog w Key where
  is := IX
  hash := OR w
  inj := fun v a b ha hb => by
    rcases d9 ha with ⟨i, t, rfl, rfl⟩ | ⟨x, t, rfl, rfl⟩
    · rcases d9 hb with ⟨j, u, rfl, e⟩ | ⟨y, u, rfl, e⟩
      · injection e with e1 _; rw [e1]
      · exact nomatch e
    · rcases d9 hb with ⟨j, u, rfl, e⟩ | ⟨y, u, rfl, e⟩
      · exact nomatch e
      · injection e with e1 _; rw [e1]
  byValue := fun k v h => by
    rcases d9 h with ⟨i, t, rfl, rfl⟩ | ⟨x, t, rfl, rfl⟩ <;> rfl
  pyHash := fun hv h => by
    rcases d9 hv with ⟨i, t, rfl, rfl⟩ | ⟨x, t, rfl, rfl⟩
    · exact wpAny_pyHash_int h
    · exact wpAny_pyHash_str h
  eqBool := fun hu hv h => by
    rcases d9 hu with ⟨i, t, rfl, rfl⟩ | ⟨x, t, rfl, rfl⟩
    · rcases d9 hv with ⟨j, u, rfl, rfl⟩ | ⟨y, u, rfl, rfl⟩
      · rw [JH] at h; exact wpAny_eqBool_int h
      · rw [JJ] at h; exact SeqAt.EqAt.int_str i t y u _ _ _ _ h
    · rcases d9 hv with ⟨j, u, rfl, rfl⟩ | ⟨y, u, rfl, rfl⟩
      · rw [JK] at h; exact SeqAt.EqAt.str_int x t j u _ _ _ _ h
      · rw [JI] at h; exact wpAny_eqBool_str h
  «strs» := fun k x t v h => by
    rcases d9 h with ⟨i, u, rfl, e⟩ | ⟨y, u, rfl, e⟩
    · exact nomatch e
    · injection e with e1 _
      subst e1
      cases v <;> rfl
end L2
namespace L2
open PySem PySem.Spec PyProof.Rows
inductive V where
  | jd | bl (b : Bool) | int (i : Int) | str (x : Str) | LS (b : Array UInt8) | LU (b : UInt64) | ref (a : Addr) | ty (n : String)
  deriving DecidableEq
noncomputable def RelV : V → Value → Prop
  | .jd, u => u = Value.none
  | .bl b, u => u = Value.bool b
  | .int i, u => ∃ t, u = Value.int i t
  | .str x, u => ∃ t, u = Value.str x t
  | .LS b, u => ∃ t, u = Value.bytes b t
  | .LU b, u => ∃ t, u = Value.float b t
  | .ref a, u => u = Value.ref a
  | .ty n, u => u = Value.type n
noncomputable abbrev Vals : List V → List Value → Prop := Paired RelV
theorem Vals.length {xs : List V} {us : List Value} (r : Vals xs us) : xs.length = us.length := Paired.length r
theorem Vals.get : ∀ {xs : List V} {us : List Value} {i : Nat} {x : V}, Vals xs us → xs[i]? = some x → ∃ u, us[i]? = some u ∧ RelV x u
  | _, _, _, _, .nil, e => by simp at e
  | _, _, 0, _, .cons r _, e => by simp at e; subst e; exact ⟨_, rfl, r⟩
  | _, _, i + 1, x, .cons _ t, e => by
    obtain ⟨u, h1, h2⟩ := Vals.get (i := i) (x := x) t (by simpa using e)
    exact ⟨u, by simpa using h1, h2⟩
theorem Vals.set {x : V} {u : Value} (r : RelV x u) : ∀ {xs : List V} {us : List Value} (i : Nat), Vals xs us → Vals (xs.set i x) (us.set i u)
  | _, _, _, .nil => .nil
  | _, _, 0, .cons _ t => .cons r t
  | _, _, i + 1, .cons q t => .cons q (Vals.set r i t)
theorem Vals.append : ∀ {xs ys : List V} {us ws : List Value}, Vals xs us → Vals ys ws → Vals (xs ++ ys) (us ++ ws)
  | _, _, _, _, .nil, s => s
  | _, _, _, _, .cons r t, s => .cons r (Vals.append t s)
theorem Vals.take : ∀ {xs : List V} {us : List Value} (n : Nat), Vals xs us → Vals (xs.take n) (us.take n)
  | _, _, 0, _ => .nil
  | _, _, _ + 1, .nil => .nil
  | _, _, n + 1, .cons r t => .cons r (Vals.take n t)
theorem Vals.drop : ∀ {xs : List V} {us : List Value} (n : Nat), Vals xs us → Vals (xs.drop n) (us.drop n)
  | _, _, 0, r => r
  | _, _, _ + 1, .nil => .nil
  | _, _, n + 1, .cons _ t => Vals.drop n t
noncomputable def GP : Option V → Option Value → Prop
  | some v, some u => RelV v u
  | none, none => True
  | _, _ => False
noncomputable def KV {κ : Type} : List (κ × V) → List (κ × Value) → Prop := Paired fun (p : κ × V) (q : κ × Value) => p.1 = q.1 ∧ RelV p.2 q.2
noncomputable def kV : Key → V
  | .inl i => .int i
  | .inr x => .str x
inductive HO where
  | lst (xs : List V)
  | tup (xs : List V)
  | dK (kvs : List (Key × V)) | dT (kvs : List (List Key × V))
  | set (S : Int → Bool) (n : Nat)
  | ins (C dx : Addr) (fs : List (Str × V))
  | own (x : Addr)
  | xd (fs : List (Str × V))
  | met (f x : Addr)
  | CW (lo hi : Int)
  | gY (o : Obj) (u : HO)
  | tu (ps : Array Value)
  | ext (φ : Heap → Prop)
noncomputable abbrev Hp := Addr → Option HO
noncomputable def upd (H : Hp) (a : Addr) (o : HO) : Hp := fun b => if b = a then some o else H b
theorem cg {H : Hp} {a : Addr} {o : HO} : upd H a o a = some o := by unfold upd; rw [if_pos rfl]
theorem aK {H : Hp} {a b : Addr} {o : HO} (h : b ≠ a) : upd H a o b = H b := by unfold upd; rw [if_neg h]
theorem mz {H : Hp} {a b : Addr} {o u : HO} (h : H a = some o) (h' : H b = some u) (d : o ≠ u) : a ≠ b := by
  intro e; subst e; rw [h] at h'; exact d (Option.some.inj h')
theorem dM {H : Hp} {a b : Addr} {o : HO} (h : H a = some o) (h' : H b = none) : a ≠ b := by
  intro e; subst e; rw [h] at h'; cases h'
section
variable (P : Program) (w : World)
noncomputable def kU (H : Hp) (h : Heap) (a : Addr) : HO → Prop
  | .lst xs => xs.length ≤ sizeLine ∧ ∃ (its : List Value) (n : Nat), Vals xs its ∧ h.get? a = some { cls := .type "list", data := .seq its.toArray n }
  | .tup xs => xs.length ≤ sizeLine ∧ ∃ its : List Value, Vals xs its ∧ IsTup h a its.toArray
  | .dK kvs => kvs.length ≤ sizeLine ∧ (a == sysModules) = false ∧ ∃ vs, KV kvs vs ∧ h.DictOf (yi P w) a vs
  | .dT kvs => kvs.length ≤ sizeLine ∧ (a == sysModules) = false ∧ ∃ xs : List (List Key × Addr × Value),
      Paired (fun (p : List Key × V) (q : List Key × Addr × Value) => p.1 = q.1 ∧ H q.2.1 = some (.tup (p.1.map kV)) ∧ RelV p.2 q.2.2) kvs xs ∧
      ∃ o es ep, h.get? a = some o ∧ o.ExactDict ∧ o.data = .dict es ep ∧ es.toList = xs.map (entryOfKey (tupleKind (yi P w))) ∧ (xs.map (·.1)).Nodup
  | .set S n => h.SetOf (intKind P w) a S n
  | .ins C dx fs => H dx = some (.own a) ∧ fs.length ≤ 1000 ∧ dx ≠ a ∧ h.get? a = some (PySem.W.instObj C dx) ∧
      ∃ mA, h.Ns1 dx mA ∧ (∀ f, GP (fs.lookup f) (mA f)) ∧ PySem.Within mA (fs.map (·.1))
  | .own _ => ∃ o, h.get? a = some o
  | .xd fs => ∃ mA, h.Ns1 a mA ∧ ∀ f, GP (fs.lookup f) (mA f)
  | .CW lo hi => ∃ t u v, h.get? a = some { cls := .type "range", data := .fields #[.int lo t, .int hi u, .int 1 v] }
  | .gY o u => h.get? a = some o ∧ kU H h a u
  | .tu ps => h.get? a = some { cls := .none, data := .fields ps }
  | .met f x => h.get? a = some (PySem.W.methodObj (.ref f) (.ref x))
  | .ext φ => φ h ∧ (∃ o, h.get? a = some o) ∧ ∀ h1 h2 : Heap, φ h1 → (∀ o, h1.get? a = some o → h2.get? a = some o) → φ h2
noncomputable def pN (H : Hp) (h : Heap) : Prop := ∀ a o, H a = some o → kU P w H h a o
end
section
variable {P : Program} {w : World} {H H' : Hp} {h h' : Heap} {a : Addr} {o : HO}
theorem kU.lt (x : kU P w H h a o) : a < h.objs.size := by
  cases o with
  | lst xs => obtain ⟨_, _, _, _, e⟩ := x; exact Heap.lt_size e
  | tup xs => obtain ⟨_, _, _, p⟩ := x; exact p.lt
  | dK kvs => obtain ⟨_, _, _, _, o, _, _, e, _⟩ := x; exact Heap.lt_size e
  | dT kvs => obtain ⟨_, _, _, _, o, _, _, e, _⟩ := x; exact Heap.lt_size e
  | set S n => obtain ⟨o, _, _, _, e, _⟩ := x; exact Heap.lt_size e
  | ins C dx fs => obtain ⟨_, _, _, e, _⟩ := x; exact Heap.lt_size e
  | own y => obtain ⟨_, e⟩ := x; exact Heap.lt_size e
  | xd fs => obtain ⟨_, ⟨_, _, _, e, _⟩, _⟩ := x; exact Heap.lt_size e
  | CW lo hi => obtain ⟨_, _, _, e⟩ := x; exact Heap.lt_size e
  | gY ob u => obtain ⟨e, _⟩ := x; exact Heap.lt_size e
  | tu ps => exact Heap.lt_size (show h.get? a = some _ from x)
  | met f y => exact Heap.lt_size (show h.get? a = some _ from x)
  | ext φ => obtain ⟨_, ⟨_, e⟩, _⟩ := x; exact Heap.lt_size e
theorem Paired.JL {α β : Type} {F G : α → β → Prop} : ∀ {l₁ : List α} {l₂ : List β}, Paired F l₁ l₂ → (∀ a b, F a b → G a b) → Paired G l₁ l₂
  | _, _, .nil, _ => .nil
  | _, _, .cons r t, f => .cons (f _ _ r) (Paired.JL t f)
theorem kU.stay (x : kU P w H h a o) (k : ∀ b u, (b = a ∨ H b = some (.own a)) → h.get? b = some u → h'.get? b = some u)
    (ho : ∀ b, H b = some (.own a) → H' b = some (.own a)) (ht : ∀ b xs, H b = some (.tup xs) → H' b = some (.tup xs)) : kU P w H' h' a o := by
  induction o with
  | lst xs => obtain ⟨z, its, n, r, e⟩ := x; exact ⟨z, its, n, r, k _ _ (.inl rfl) e⟩
  | tup xs => obtain ⟨z, its, r, ob, e, c⟩ := x; exact ⟨z, its, r, ob, k _ _ (.inl rfl) e, c⟩
  | dK kvs => obtain ⟨z, y, vs, r, ob, es, ep, e, c⟩ := x; exact ⟨z, y, vs, r, ob, es, ep, k _ _ (.inl rfl) e, c⟩
  | dT kvs =>
    obtain ⟨z, y, xs, r, ob, es, ep, e, c⟩ := x
    exact ⟨z, y, xs, Paired.JL r fun p q z => ⟨z.1, ht _ _ z.2.1, z.2.2⟩, ob, es, ep, k _ _ (.inl rfl) e, c⟩
  | set S n => obtain ⟨ob, es, ep, t, e, c⟩ := x; exact ⟨ob, es, ep, t, k _ _ (.inl rfl) e, c⟩
  | ins C dx fs =>
    obtain ⟨d, z, ne, e, mA, ⟨od, es, ep, e2, c⟩, r⟩ := x
    exact ⟨ho _ d, z, ne, k _ _ (.inl rfl) e, mA, ⟨od, es, ep, k _ _ (.inr d) e2, c⟩, r⟩
  | own y => obtain ⟨ob, e⟩ := x; exact ⟨ob, k _ _ (.inl rfl) e⟩
  | xd fs => obtain ⟨mA, ⟨od, es, ep, e, c⟩, r⟩ := x; exact ⟨mA, ⟨od, es, ep, k _ _ (.inl rfl) e, c⟩, r⟩
  | CW lo hi => obtain ⟨t, u, v, e⟩ := x; exact ⟨t, u, v, k _ _ (.inl rfl) e⟩
  | gY ob u ih => obtain ⟨e, q⟩ := x; exact ⟨k _ _ (.inl rfl) e, ih q⟩
  | tu ps =>
    have e : h.get? a = some { cls := .none, data := .fields ps } := x
    show h'.get? a = some { cls := .none, data := .fields ps }
    exact k a _ (.inl rfl) e
  | met f y =>
    have e : h.get? a = some (PySem.W.methodObj (.ref f) (.ref y)) := x
    show h'.get? a = some (PySem.W.methodObj (.ref f) (.ref y))
    exact k a _ (.inl rfl) e
  | ext φ => obtain ⟨p, ⟨o, e⟩, st⟩ := x; exact ⟨st _ _ p fun o q => k _ _ (.inl rfl) q, ⟨o, k _ _ (.inl rfl) e⟩, st⟩
theorem pN.lt (x : pN P w H h) (e : H a = some o) : a < h.objs.size := (x a o e).lt
theorem pN.fresh (x : pN P w H h) (e : h.objs.size ≤ a) : H a = none := by
  cases q : H a with
  | none => rfl
  | some u => exact absurd (Nat.lt_of_lt_of_le (x.lt q) e) (Nat.lt_irrefl _)
theorem pN.kept (x : pN P w H h) (k : ∀ b u, h.get? b = some u → h'.get? b = some u) : pN P w H h' := fun a o e =>
  (x a o e).stay (fun b u _ q => k b u q) (fun _ q => q) fun _ _ q => q
theorem pN.laid (x : pN P w H h) (k : ∀ b u, h.get? b = some u → h'.get? b = some u) (hp : h.objs.size ≤ a) (new : kU P w (upd H a o) h' a o) : pN P w (upd H a o) h' := fun b u e => by
  have hn := x.fresh hp
  by_cases hb : b = a
  · subst hb; rw [cg] at e; cases e; exact new
  · rw [aK hb] at e
    exact (x b u e).stay (fun c v _ q => k c v q) (fun c q => by rw [aK (dM q hn)]; exact q) fun c xs q => by rw [aK (dM q hn)]; exact q
end
noncomputable def Rd (H : Hp) (a : Addr) (u : HO) : Prop := H a = some u ∨ ∃ o, H a = some (.gY o u)
theorem Rd.of {H : Hp} {a : Addr} {u : HO} (h : H a = some u) : Rd H a u := .inl h
theorem Rd.ok {P : Program} {w : World} {H : Hp} {h : Heap} {a : Addr} {u : HO} (r : Rd H a u) (x : pN P w H h) : kU P w H h a u := by
  rcases r with r | ⟨o, r⟩
  · exact x a u r
  · obtain ⟨_, q⟩ := x a _ r
    exact q
noncomputable def Oe : Option HO → Prop
  | some (.lst _) => True
  | some (.dK _) => True
  | some (.dT _) => True
  | some (.set _ _) => True
  | some (.ins _ _ _) => True
  | some (.ext _) => True
  | _ => False
section
variable {P : Program} {w : World} {H : Hp} {h h' : Heap} {x e : Addr} {o' : HO}
theorem pN.write (ok : pN P w H h) (mu : Oe (H x)) (he : e = x ∨ H e = some (.own x)) (k : ∀ b u, b ≠ e → h.get? b = some u → h'.get? b = some u) (LF : ∃ u, h'.get? e = some u)
    (new : kU P w (upd H x o') h' x o') : pN P w (upd H x o') h' := fun b u q => by
  have LV : ∀ c y, H c = some (.own y) → c ≠ x := fun c y r z => by subst z; rw [r] at mu; exact mu
  have OS : ∀ c xs, H c = some (.tup xs) → c ≠ x := fun c xs r z => by subst z; rw [r] at mu; exact mu
  by_cases hb : b = x
  · subst hb; rw [cg] at q; cases q; exact new
  · rw [aK hb] at q
    by_cases GJ : b = e
    · have q' : H b = some (.own x) := by
        rcases he with z | z
        · exact absurd (GJ.trans z) hb
        · rw [GJ]; exact z
      rw [q] at q'; cases q'
      obtain ⟨v, hv⟩ := LF
      exact ⟨v, by rw [GJ]; exact hv⟩
    · refine (ok b u q).stay (fun c v hc r => k c v ?_ r) (fun c r => by rw [aK (LV c b r)]; exact r) fun c xs r => by rw [aK (OS c xs r)]; exact r
      rcases hc with rfl | hc
      · exact GJ
      · rintro rfl
        rcases he with z | z
        · exact LV c b hc z
        · rw [hc] at z; cases z; exact hb rfl
end
structure Un (fs ex : List Addr) (H H' : Hp) (h h' : Heap) : Prop where
  keep : ∀ b o, h.get? b = some o → H b = none → b ∉ fs → b ∉ ex → h'.get? b = some o
  slot : ∀ b o, h.get? b = some o → H b = none → b ∈ fs → b ∉ ex → ∃ sl, h'.get? b = some { o with slots := sl }
  free : ∀ b o, h.get? b = some o → H b = none → b ∉ ex → H' b = none
  there : ∀ b o, h.get? b = some o → b ∉ ex → ∃ o', h'.get? b = some o'
  tups : ∀ b xs, H b = some (.tup xs) → H' b = some (.tup xs)
  nV : ∀ b o u, H b = some (.gY o u) → H' b = some (.gY o u)
  pO : ∀ b ps, H b = some (.tu ps) → ∃ more, H' b = some (.tu (ps ++ more))
section
variable {fs fs' ex ex' : List Addr} {H H1 H2 : Hp} {h h1 h2 h' : Heap} {a x e : Addr} {o : HO}
theorem Un.any (u : Un fs ex H H1 h h1) {b : Addr} {ob : Obj} (q : h.get? b = some ob) (n : H b = none) (hx : b ∉ ex) : ∃ sl, h1.get? b = some { ob with slots := sl } := by
  by_cases hb : b ∈ fs
  · exact u.slot b ob q n hb hx
  · exact ⟨ob.slots, u.keep b ob q n hb hx⟩
theorem Un.kept (k : ∀ b u, h.get? b = some u → h'.get? b = some u) : Un fs ex H H h h' :=
  ⟨fun b ob q _ _ _ => k b ob q, fun b ob q _ _ _ => ⟨ob.slots, k b ob q⟩, fun _ _ _ n _ => n, fun b ob q _ => ⟨ob, k b ob q⟩, fun _ _ q => q, fun _ _ _ q => q, fun _ ps q => ⟨#[], by rw [q]; simp⟩⟩
theorem Un.refl : Un fs ex H H h h := Un.kept fun _ _ q => q
theorem Un.laid (k : ∀ b u, h.get? b = some u → h'.get? b = some u) (hp : h.objs.size ≤ a) (hn : H a = none) : Un fs ex H (upd H a o) h h' where
  keep := fun b u q _ _ _ => k b u q
  slot := fun b u q _ _ _ => ⟨u.slots, k b u q⟩
  free := fun b u q n _ => by rw [aK (Nat.ne_of_lt (Nat.lt_of_lt_of_le (Heap.lt_size q) hp))]; exact n
  there := fun b u q _ => ⟨u, k b u q⟩
  tups := fun b xs q => by rw [aK (dM q hn)]; exact q
  nV := fun b u xs q => by rw [aK (dM q hn)]; exact q
  pO := fun b ps q => ⟨#[], by rw [aK (dM q hn), q]; simp⟩
theorem Un.write (mu : Oe (H x)) (he : e = x ∨ H e = some (.own x)) (k : ∀ b u, b ≠ e → h.get? b = some u → h'.get? b = some u) (LF : ∃ u, h'.get? e = some u) : Un fs ex H (upd H x o) h h' := by
  have hx : ∀ b, H b = none → b ≠ x := fun b n z => by subst z; rw [n] at mu; exact mu
  have hb : ∀ b, H b = none → b ≠ e := fun b n z => by
    subst z
    rcases he with r | r
    · exact hx b n r
    · rw [n] at r; cases r
  have hm : ∀ b u, H b = some u → ¬ Oe (some u) → b ≠ x := fun b u q nm z => by subst z; rw [q] at mu; exact nm mu
  refine ⟨fun b u q n _ _ => k b u (hb b n) q, fun b u q n _ _ => ⟨u.slots, k b u (hb b n) q⟩, fun b u q n _ => by rw [aK (hx b n)]; exact n, fun b u q _ => ?_,
    fun b xs q => by rw [aK (hm b _ q fun z => z)]; exact q, fun b u xs q => by rw [aK (hm b _ q fun z => z)]; exact q, fun b ps q => ⟨#[], by rw [aK (hm b _ q fun z => z), q]; simp⟩⟩
  by_cases GJ : b = e
  · subst GJ; exact LF
  · exact ⟨u, k b u GJ q⟩
end
noncomputable def Of (h : Heap) (H : Hp) : List Addr := (List.range h.objs.size).filter fun a => (H a).isSome
noncomputable def vm (h : Heap) (H : Hp) : Heap := PySem.W.hideAll h (Of h H)
theorem CY (h : Heap) (H : Hp) : (vm h H).objs.size = h.objs.size := PySem.W.hideAll_size _ _
theorem Ec {h : Heap} {H : Hp} {b : Addr} {o : Obj} (e : h.get? b = some o) (n : H b = none) : (vm h H).get? b = some o :=
  PySem.W.hideAll_get _ e fun hm => by
    have q : (H b).isSome = true := (List.mem_filter.mp hm).2
    rw [n] at q; simp at q
theorem GQ {h : Heap} {H : Hp} {b : Addr} {o : Obj} (e : (vm h H).get? b = some o) : h.get? b = some o ∧ H b = none := by
  have e' : h.get? b = some o := PySem.W.of_hideAll (Of h H) e
  refine ⟨e', ?_⟩
  cases q : H b with
  | none => rfl
  | some x =>
    have hm : b ∈ Of h H := List.mem_filter.mpr ⟨List.mem_range.mpr (Heap.lt_size e'), by simp [q]⟩
    have z : (vm h H).get? b = none := PySem.W.hideAll_none (Of h H) hm
    rw [z] at e; cases e
noncomputable def GR (g h : Heap) (L : Addr) : List (Addr × Obj) := (List.range h.objs.size).filterMap fun a => if a = L ∨ (g.get? a).isSome = true then none else (h.get? a).map fun o => (a, o)
noncomputable def rest (g h : Heap) (L d : Addr) : List (Addr × Obj) := (GR g h L).filter fun p => decide (p.1 ≠ d)
end L2
namespace L2
open PySem PySem.Spec PyProof.Rows
structure Mod (K : PySem.W.Frag) (mg : Str → Option Value) (base : Heap) : Prop where
  IY : K.In base
  glob : base.Ns mainGlobals mg
  blt : ∃ mb, base.Ns builtinsNs mb ∧ ∀ x : Str, x ≠ "__name__" → mb x = bootBuiltins x
  nolimit : base.NoLimit
structure Cx where
  prog : Program
  w : World
  K : PySem.W.Frag
  mg : Str → Option Value
  base : Heap
  A : Around
  N : List Str
  s₀ : Shared
  H₀ : Hp
  env : Env
  outer : List Env
  stack : List Env
  ex : List Addr
  fn : Str → Bool
  calm : Bool
  pn : List (Addr × Obj)
  xe : Value → Shared → Prop
noncomputable def frs (l : List Env) : List Addr := l.filterMap (·.frame)
noncomputable abbrev Cx.fs (X : Cx) : List Addr := frs X.outer
noncomputable def IZ (sc : Scope) (x : Str) : Prop := sc.names.lookup x = some .local ∨ sc.names.lookup x = some .cell ∨ sc.names.lookup x = some .free
noncomputable def Loc (sc : Scope) (x : Str) : Prop := sc.names.lookup x = some .local ∨ sc.names.lookup x = some .cell
noncomputable def Look (env : Env) (h : Heap) (m : Str → Option Value) (x : Str) (u : Value) : Prop :=
  (env.kindOf x = some .local ∧ m x = some u) ∨ ((env.kindOf x = some .cell ∨ env.kindOf x = some .free) ∧ ∃ c, env.cells.lookup x = some c ∧ h.IsCell c (some u))
structure Cx.Ok (X : Cx) : Prop where
  mod : Mod X.K X.mg X.base
  kind : X.env.scope.kind = .function
  glob : X.env.globals = mainGlobals
  blt : X.env.builtins = builtinsNs
  above : X.s₀.heap.objs.size ≤ X.env.locals
  inj : ∀ x y c, X.env.cells.lookup x = some c → X.env.cells.lookup y = some c → x = y
  has : ∀ x, (X.env.kindOf x = some .cell ∨ X.env.kindOf x = some .free) → ∃ c, X.env.cells.lookup x = some c
  LW : ∀ x c, X.fn x = true → X.env.cells.lookup x = some c → X.s₀.heap.objs.size ≤ c
  hd : X.calm = true → X.A.handled = none
  frames : X.A.frames = some X.stack
  stk : X.stack = X.outer ∨ (X.stack = X.env :: X.outer ∧ X.env.frame = some X.env.locals)
  TM : ∀ b ∈ X.ex, b ≠ X.env.locals ∧ ∀ x c, X.env.cells.lookup x = some c → c ≠ b
  bs : ∀ b o, X.base.get? b = some o → X.s₀.heap.get? b = some o ∧ X.H₀ b = none
  GK : X.base.objs.size ≤ X.s₀.heap.objs.size
  GS : ∀ b o, X.base.get? b = some o → b ∉ X.ex
  GU : ∀ b ∈ X.ex, b ∉ X.fs
  rC : X.s₀.heap.FunFrames X.base X.outer
  GV : ∀ b ∈ X.fs, X.H₀ b = none
structure Inv (X : Cx) (pins : List (Addr × Obj)) (σ : List (Option V)) (H : Hp) (s : Shared) : Prop where
  ok : X.Ok
  os : s.os = X.s₀.os ∧ 0 < s.toks
  bare : AllBare s.gens
  base : Un X.fs X.ex X.H₀ H X.s₀.heap s.heap
  loc : ∃ m, s.heap.Ns X.env.locals m ∧ ∀ (i : Nat) (x : Str) (v : V), X.N[i]? = some x → σ[i]? = some (some v) → IZ X.env.scope x → ∃ u, RelV v u ∧ Look X.env s.heap m x u
  cell : ∀ x c, X.env.cells.lookup x = some c → ∃ v, s.heap.IsCell c v
  free : H X.env.locals = none
  nP : ∀ x c, X.env.cells.lookup x = some c → H c = none ∨ (X.fn x = false ∧ ∃ o u, H c = some (.gY o u))
  pin : ∀ p ∈ X.pn ++ pins, s.heap.get? p.1 = some p.2 ∧ H p.1 = none ∧ p.1 ≠ X.env.locals ∧ p.1 ∉ X.fs ∧ ∀ v, p.2.data ≠ .cell v
  hok : pN X.prog X.w H s.heap
  len : σ.length = X.N.length
section
variable {X : Cx} {pins : List (Addr × Obj)} {σ : List (Option V)} {H H' : Hp} {s : Shared} {h' : Heap}
theorem Cx.Ok.OT (ok : X.Ok) {b : Addr} {o : Obj} (e : X.base.get? b = some o) : b ∉ X.fs := fun hb => by
  have := (ok.rC.mem hb).1
  rw [e] at this; cases this
theorem Inv.bs (I : Inv X pins σ H s) : ∀ b o, X.base.get? b = some o → s.heap.get? b = some o ∧ H b = none := fun b o e =>
  ⟨I.base.keep b o (I.ok.bs b o e).1 (I.ok.bs b o e).2 (I.ok.OT e) (I.ok.GS b o e), I.base.free b o (I.ok.bs b o e).1 (I.ok.bs b o e).2 (I.ok.GS b o e)⟩
theorem Inv.bk (I : Inv X pins σ H s) : ∀ b o, X.base.get? b = some o → s.heap.get? b = some o := fun b o e => (I.bs b o e).1
theorem Inv.mod (I : Inv X pins σ H s) : Mod X.K X.mg X.base := I.ok.mod
theorem Inv.BX (I : Inv X pins σ H s) : X.K.In s.heap := I.ok.mod.IY.keeps I.bk
theorem Inv.nolimit (I : Inv X pins σ H s) : s.heap.NoLimit := I.ok.mod.nolimit.keeps I.bk
theorem Inv.fr (I : Inv X pins σ H s) : ∃ m, Fr X.base X.env.locals s.heap m :=
  let ⟨m, hn, _⟩ := I.loc
  ⟨m, hn, I.bk, Nat.le_trans I.ok.GK I.ok.above⟩
theorem Inv.lt (I : Inv X pins σ H s) : X.env.locals < s.heap.objs.size := let ⟨_, hn, _⟩ := I.loc; hn.lt
theorem Inv.sz (I : Inv X pins σ H s) : X.s₀.heap.objs.size ≤ s.heap.objs.size := Nat.le_trans I.ok.above (Nat.le_of_lt I.lt)
theorem Inv.OU (I : Inv X pins σ H s) {a : Addr} (h : s.heap.objs.size ≤ a) : a ∉ X.fs := fun hb => by
  obtain ⟨_, o, ho, _⟩ := I.ok.rC.mem hb
  exact absurd (Nat.lt_of_lt_of_le (Heap.lt_size ho) (Nat.le_trans I.sz h)) (Nat.lt_irrefl _)
theorem Inv.Ed (I : Inv X pins σ H s) : ∀ x c, X.env.cells.lookup x = some c → c ≠ X.env.locals := fun x c e z => by
  obtain ⟨v, o, ho, hd⟩ := I.cell x c e
  obtain ⟨m, ⟨o', es, ep, ho', hd', _⟩, _⟩ := I.loc
  rw [z, ho'] at ho; cases ho; rw [hd'] at hd; cases hd
theorem Inv.rC (I : Inv X pins σ H s) : s.heap.FunFrames X.base X.outer := by
  have all : ∀ (l : List Env), (∀ b ∈ frs l, b ∈ X.fs) → X.s₀.heap.FunFrames X.base l → s.heap.FunFrames X.base l := by
    intro l
    induction l with
    | nil => intro _ _; trivial
    | cons env r ih =>
      intro hs hl
      obtain ⟨hk, ⟨L, o, hf, hn, ho, hd⟩, hr⟩ := hl
      have hL : L ∈ X.fs := hs L (by unfold frs; rw [List.filterMap_cons, hf]; exact List.mem_cons_self)
      obtain ⟨sl, e⟩ := I.base.slot L o ho (I.ok.GV L hL) hL fun z => I.ok.GU L z hL
      exact ⟨hk, ⟨L, _, hf, hn, e, hd⟩, ih (fun b hb => hs b (by unfold frs; rw [List.filterMap_cons, hf]; exact List.mem_cons_of_mem _ hb)) hr⟩
  exact all X.outer (fun _ hb => hb) I.ok.rC
theorem Inv.stack (I : Inv X pins σ H s) : s.heap.FunFrames X.base X.stack := by
  rcases I.ok.stk with e | ⟨e, hf⟩
  · rw [e]; exact I.rC
  · rw [e]
    obtain ⟨m, hn, _⟩ := I.loc
    refine .cons (by rw [I.ok.kind]; decide) hf hn ?_ I.rC
    exact Heap.get?_none_of_le (Nat.le_trans I.ok.GK I.ok.above)
theorem Inv.qw (I : Inv X pins σ H s) : ∀ b ∈ frs X.stack, b ∈ X.env.locals :: X.fs := fun b hb => by
  rcases I.ok.stk with e | ⟨e, hf⟩
  · rw [e] at hb; exact List.mem_cons_of_mem _ hb
  · rw [e] at hb
    unfold frs at hb
    rw [List.filterMap_cons, hf] at hb
    exact hb
theorem Inv.uV (I : Inv X pins σ H s) : ∀ b ∈ frs X.stack, H b = none := fun b hb => by
  rcases List.mem_cons.mp (I.qw b hb) with e | hb
  · rw [e]; exact I.free
  · obtain ⟨_, o, ho, _⟩ := I.ok.rC.mem hb
    exact I.base.free b o ho (I.ok.GV b hb) fun z => I.ok.GU b z hb
theorem Inv.step {g' : Array GenState} {t' : Nat} {d' : Drawn} {ch : List Addr} (I : Inv X pins σ H s)
    (hch : ∀ b ∈ ch, (b ∈ X.ex ∨ X.s₀.heap.objs.size ≤ b) ∧ b ≠ X.env.locals ∧ (∀ x c, X.env.cells.lookup x = some c → c ≠ b) ∧ ∀ p ∈ X.pn ++ pins, p.1 ≠ b)
    (keep : ∀ b o, b ≠ X.env.locals → b ∉ X.fs → b ∉ ch → s.heap.get? b = some o → H b = none → h'.get? b = some o)
    (slot : ∀ b o, b ≠ X.env.locals → b ∈ X.fs → b ∉ ch → s.heap.get? b = some o → H b = none → ∃ sl, h'.get? b = some { o with slots := sl }) (free : ∀ b o, b ∉ ch → s.heap.get? b = some o → H b = none → H' b = none)
    (there : ∀ b o, b ∉ ch → s.heap.get? b = some o → ∃ o', h'.get? b = some o')
    (tups : ∀ b xs, H b = some (.tup xs) → H' b = some (.tup xs)) (nV : ∀ b o u, H b = some (.gY o u) → H' b = some (.gY o u)) (pO : ∀ b ps, H b = some (.tu ps) → ∃ more, H' b = some (.tu (ps ++ more)))
    (ns : ∀ m, s.heap.Ns X.env.locals m → h'.Ns X.env.locals m) (hok : pN X.prog X.w H' h') (hg : AllBare g') (ht : 0 < t' := by first | exact Nat.succ_pos _ | exact (Inv.os (by assumption)).2 | assumption | omega) :
    Inv X pins σ H' { s with heap := h', gens := g', drawn := d', toks := t' } := by
  have Ef : ∀ b o, X.s₀.heap.get? b = some o → b ≠ X.env.locals := fun b o e => Nat.ne_of_lt (Nat.lt_of_lt_of_le (Heap.lt_size e) I.ok.above)
  have I8 : ∀ b o, X.s₀.heap.get? b = some o → b ∉ X.ex → b ∉ ch := fun b o e hx hb => by
    rcases (hch b hb).1 with z | z
    · exact hx z
    · exact absurd (Nat.lt_of_lt_of_le (Heap.lt_size e) z) (Nat.lt_irrefl _)
  have cellK : ∀ x c, X.env.cells.lookup x = some c → ∀ v, s.heap.IsCell c v → h'.IsCell c v := fun x c e v ⟨o, ho, hd⟩ => by
    have LX : c ∉ ch := fun z => (hch c z).2.2.1 x c e rfl
    rcases I.nP x c e with hfr | ⟨_, fo, fu, hfr⟩
    · by_cases hc : c ∈ X.fs
      · obtain ⟨sl, q⟩ := slot c o (I.Ed x c e) hc LX ho hfr
        exact ⟨_, q, hd⟩
      · exact ⟨o, keep c o (I.Ed x c e) hc LX ho hfr, hd⟩
    · have q1 := (I.hok c _ hfr).1
      have q2 := (hok c _ (nV c fo fu hfr)).1
      rw [ho] at q1
      cases q1
      exact ⟨o, q2, hd⟩
  refine ⟨I.ok, ⟨I.os.1, ht⟩, hg, ⟨fun b o e n hb hx => ?_, fun b o e n hb hx => ?_, fun b o e n hx => ?_, fun b o e hx => ?_, fun b xs e => tups b xs (I.base.tups b xs e), fun b o xs e => nV b o xs (I.base.nV b o xs e), fun b ps e => ?_⟩, ?_, fun x c e => ?_, ?_, fun x c e => ?_, fun p hp => ?_, hok, I.len⟩
  · exact keep b o (Ef b o e) hb (I8 b o e hx) (I.base.keep b o e n hb hx) (I.base.free b o e n hx)
  · obtain ⟨sl, e1⟩ := I.base.slot b o e n hb hx
    obtain ⟨LY, e2⟩ := slot b _ (Ef b o e) hb (I8 b o e hx) e1 (I.base.free b o e n hx)
    exact ⟨LY, e2⟩
  · obtain ⟨o', e1⟩ := I.base.there b o e hx
    exact free b o' (I8 b o e hx) e1 (I.base.free b o e n hx)
  · obtain ⟨o', e1⟩ := I.base.there b o e hx
    exact there b o' (I8 b o e hx) e1
  · obtain ⟨m1, e1⟩ := I.base.pO b ps e
    obtain ⟨m2, e2⟩ := pO b _ e1
    exact ⟨m1 ++ m2, by rw [e2, Array.append_assoc]⟩
  · obtain ⟨m, hn, hl⟩ := I.loc
    refine ⟨m, ns m hn, fun i x v e1 e2 e3 => ?_⟩
    obtain ⟨u, r, l⟩ := hl i x v e1 e2 e3
    refine ⟨u, r, ?_⟩
    rcases l with l | ⟨k, c, e, z⟩
    · exact .inl l
    · exact .inr ⟨k, c, e, cellK x c e _ z⟩
  · obtain ⟨v, z⟩ := I.cell x c e
    exact ⟨v, cellK x c e v z⟩
  · obtain ⟨m, ⟨o, _, _, ho, _⟩, _⟩ := I.loc
    exact free _ o (fun z => (hch _ z).2.1 rfl) ho I.free
  · obtain ⟨v, o, ho, hd⟩ := I.cell x c e
    rcases I.nP x c e with hfr | ⟨hx, fo, fu, hfr⟩
    · exact .inl (free c o (fun z => (hch c z).2.2.1 x c e rfl) ho hfr)
    · exact .inr ⟨hx, fo, fu, nV c fo fu hfr⟩
  · obtain ⟨e, n, ne, nf, d⟩ := I.pin p hp
    have LX : p.1 ∉ ch := fun z => (hch p.1 z).2.2.2 p hp rfl
    exact ⟨keep p.1 p.2 ne nf LX e n, free p.1 p.2 LX e n, ne, nf, d⟩
theorem Inv.un {t' : Nat} (I : Inv X pins σ H s) (u : Un X.fs [] H H' s.heap h') (hok : pN X.prog X.w H' h') (ht : 0 < t' := by first | exact Nat.succ_pos _ | exact (Inv.os (by assumption)).2 | assumption | omega) : Inv X pins σ H' { s with heap := h', toks := t' } := by
  obtain ⟨m, ⟨o, es, ep, ho, r⟩, _⟩ := id I.loc
  obtain ⟨sl, hL⟩ := u.any ho I.free (by simp)
  exact I.step (g' := s.gens) (d' := s.drawn) (ch := []) (fun _ z => nomatch z) (fun b o _ hb _ e n => u.keep b o e n hb (by simp)) (fun b o _ hb _ e n => u.slot b o e n hb (by simp)) (fun b o _ e n => u.free b o e n (by simp)) (fun b o _ e => u.there b o e (by simp)) u.tups u.nV u.pO (fun m' hm => by
    obtain ⟨o', es', OV, ho', r'⟩ := hm
    rw [ho] at ho'; cases ho'
    exact ⟨_, es', OV, hL, r'⟩) hok I.bare
theorem Inv.call {g' : Array GenState} {t' : Nat} {d' : Drawn} {ch : List Addr} (I : Inv X pins σ H s) (u : Un (frs X.stack) ch H H' s.heap h') (hok : pN X.prog X.w H' h') (hg : AllBare g')
    (hch : ∀ b ∈ ch, (b ∈ X.ex ∨ X.s₀.heap.objs.size ≤ b) ∧ b ≠ X.env.locals ∧ (∀ x c, X.env.cells.lookup x = some c → c ≠ b) ∧ ∀ p ∈ X.pn ++ pins, p.1 ≠ b) (ht : 0 < t' := by first | exact Nat.succ_pos _ | exact (Inv.os (by assumption)).2 | assumption | omega) :
    Inv X pins σ H' { s with heap := h', gens := g', drawn := d', toks := t' } := by
  obtain ⟨m, ⟨o, es, ep, ho, r⟩, _⟩ := id I.loc
  obtain ⟨sl, hL⟩ := u.any ho I.free fun z => (hch _ z).2.1 rfl
  exact I.step (ch := ch) hch (fun b o hL hb hc e n => u.keep b o e n (fun z => (List.mem_cons.mp (I.qw b z)).elim hL hb) hc) (fun b o _ _ hc e n => u.any e n hc) (fun b o hc e n => u.free b o e n hc) (fun b o hc e => u.there b o e hc) u.tups u.nV u.pO (fun m' hm => by
    obtain ⟨o', es', OV, ho', r'⟩ := hm
    rw [ho] at ho'; cases ho'
    exact ⟨_, es', OV, hL, r'⟩) hok hg
theorem Inv.turned {t' : Nat} {it : Addr} (I : Inv X pins σ H s) (k : ∀ b o, b ≠ it → s.heap.get? b = some o → h'.get? b = some o) (hn : H it = none) (hL : it ≠ X.env.locals)
    (h1 : it ∈ X.ex ∨ X.s₀.heap.objs.size ≤ it) (h2 : ∀ x c, X.env.cells.lookup x = some c → c ≠ it) (h3 : ∀ p ∈ X.pn ++ pins, p.1 ≠ it) (ht : 0 < t' := by first | exact Nat.succ_pos _ | exact (Inv.os (by assumption)).2 | assumption | omega) : Inv X pins σ H { s with heap := h', toks := t' } := by
  have LZ : ∀ b u, H b = some u → b ≠ it := fun b u e z => by rw [z, hn] at e; cases e
  refine I.step (g' := s.gens) (d' := s.drawn) (ch := [it]) (fun b hb => ?_) (fun b o _ _ hc e _ => k b o (fun z => hc (by simp [z])) e) (fun b o _ _ hc e _ => ⟨o.slots, k b o (fun z => hc (by simp [z])) e⟩) (fun _ _ _ _ n => n)
    (fun b o hc e => ⟨o, k b o (fun z => hc (by simp [z])) e⟩) (fun _ _ e => e) (fun _ _ _ e => e) (fun b ps e => ⟨#[], by rw [e]; simp⟩) (fun m hm => ?_) (fun b u e => ?_) I.bare
  · have e : b = it := by simpa using hb
    subst e
    exact ⟨h1, hL, h2, h3⟩
  · obtain ⟨o, es, ep, ho, r⟩ := hm
    exact ⟨o, es, ep, k _ o (Ne.symm hL) ho, r⟩
  · refine (I.hok b u e).stay (fun c v hc q => k c v ?_ q) (fun _ q => q) fun _ _ q => q
    rcases hc with z | z
    · rw [z]; exact LZ b u e
    · exact LZ c _ z
theorem Inv.tok (I : Inv X pins σ H s) (t' : Nat) (ht : 0 < t' := by first | exact Nat.succ_pos _ | exact (Inv.os (by assumption)).2 | assumption | omega) : Inv X pins σ H { s with toks := t' } := I.un (h' := s.heap) (t' := t') Un.refl I.hok
theorem nZ {α : Type} {M : Model} {A : Around} {t : Sem α} {Q : α → Shared → Prop} {E : Value → Shared → Prop} {s : Shared} (h : 0 < s.toks) (h' : wpAny M A t (fun a s' => 0 < s'.toks → Q a s') (fun e s' => 0 < s'.toks → E e s') s) : wpAny M A t Q E s := wpAny_with_toks (n := 1) h h'
theorem Inv.kept {t' : Nat} (I : Inv X pins σ H s) (k : ∀ b u, s.heap.get? b = some u → h'.get? b = some u) (ht : 0 < t' := by first | exact Nat.succ_pos _ | exact (Inv.os (by assumption)).2 | assumption | omega) : Inv X pins σ H { s with heap := h', toks := t' } := I.un (Un.kept k) (I.hok.kept k)
theorem Inv.laid {a : Addr} {o : HO} {t' : Nat} (I : Inv X pins σ H s) (k : ∀ b u, s.heap.get? b = some u → h'.get? b = some u) (hp : s.heap.objs.size ≤ a) (new : kU X.prog X.w (upd H a o) h' a o) (ht : 0 < t' := by first | exact Nat.succ_pos _ | exact (Inv.os (by assumption)).2 | assumption | omega) :
    Inv X pins σ (upd H a o) { s with heap := h', toks := t' } := I.un (Un.laid k hp (I.hok.fresh hp)) (I.hok.laid k hp new)
theorem Inv.write {x e : Addr} {o : HO} {t' : Nat} (I : Inv X pins σ H s) (mu : Oe (H x)) (he : e = x ∨ H e = some (.own x)) (k : ∀ b u, b ≠ e → s.heap.get? b = some u → h'.get? b = some u) (LF : ∃ u, h'.get? e = some u)
    (new : kU X.prog X.w (upd H x o) h' x o) (ht : 0 < t' := by first | exact Nat.succ_pos _ | exact (Inv.os (by assumption)).2 | assumption | omega) : Inv X pins σ (upd H x o) { s with heap := h', toks := t' } := I.un (Un.write mu he k LF) (I.hok.write mu he k LF new)
theorem Inv.yj {jV : List (Addr × Obj)} (I : Inv X pins σ H s) (h : ∀ p ∈ jV, s.heap.get? p.1 = some p.2 ∧ H p.1 = none ∧ p.1 ≠ X.env.locals ∧ p.1 ∉ X.fs ∧ ∀ v, p.2.data ≠ .cell v) : Inv X jV σ H s :=
  ⟨I.ok, I.os, I.bare, I.base, I.loc, I.cell, I.free, I.nP, fun p hp => (List.mem_append.mp hp).elim (fun z => I.pin p (List.mem_append_left _ z)) (h p), I.hok, I.len⟩
theorem zC {N : List Str} (hN : N.Nodup) {i j : Nat} {x : Str} (a : N[i]? = some x) (b : N[j]? = some x) : i = j := by
  obtain ⟨h1, e1⟩ := List.getElem?_eq_some_iff.mp a
  obtain ⟨h2, e2⟩ := List.getElem?_eq_some_iff.mp b
  exact (List.getElem_inj hN).mp (e1.trans e2.symm)
theorem tw {M : Model} {A : Around} {E : Value → Shared → Prop} {i : Nat} {x : Str} {v : V} {u : Value} {Q : Unit → Shared → Prop} (I : Inv X pins σ H s) (hN : X.N.Nodup) (hi : X.N[i]? = some x) (hx : Loc X.env.scope x) (r : RelV v u)
    (h : ∀ s', Inv X pins (σ.set i (some v)) H s' → (∃ a, Heap.SameBut a s.heap s'.heap ∧ (a = X.env.locals ∨ X.env.cells.lookup x = some a)) → Q () s') (hf : X.fn x = true ∨ X.env.scope.names.lookup x = some .local := by first | exact .inl rfl | exact .inr rfl | assumption) : wpAny M A (storeName X.env x u) Q E s := by
  obtain ⟨m, hn, hl⟩ := id I.loc
  have hcls : (X.env.scope.kind == .class || (X.env.scope.kind == .module && X.env.locals != X.env.globals)) = false := by rw [I.ok.kind]; rfl
  have Ro : i < σ.length := by rw [I.len]; exact (List.getElem?_eq_some_iff.mp hi).1
  have Ed := I.Ed
  have tracked : ∀ {a : Addr} {h' : Heap}, (∃ o, s.heap.get? a = some o ∧ H a = none) → Heap.SameBut a s.heap h' → pN X.prog X.w H h' := fun {a h'} ha hs b ob e => by
    obtain ⟨_, _, hfree⟩ := ha
    refine (I.hok b ob e).stay (fun c w' hc q => (hs.2 c ?_).trans q) (fun _ q => q) fun _ _ q => q
    rintro rfl
    rcases hc with rfl | hc
    · rw [hfree] at e; cases e
    · rw [hfree] at hc; cases hc
  rcases hx with hk | hk
  · refine wpAny_storeName_local hk hn (fun h' hn' hs => ?_) hcls
    obtain ⟨oL, _, _, Rp, _⟩ := id hn
    refine h _ ⟨I.ok, ⟨I.os.1, Nat.succ_pos _⟩, I.bare, ⟨fun b o e n hb hx => ?_, fun b o e n hb hx => ?_, I.base.free, fun b o e hx => ?_, I.base.tups, I.base.nV, I.base.pO⟩, ⟨_, hn', fun j y v' e1 e2 e3 => ?_⟩, fun y c e => ?_, I.free, I.nP, fun p hp => ?_, tracked ⟨oL, Rp, I.free⟩ hs, by simpa using I.len⟩ ⟨_, hs, .inl rfl⟩
    · exact (hs.2 b (Nat.ne_of_lt (Nat.lt_of_lt_of_le (Heap.lt_size e) I.ok.above))).trans (I.base.keep b o e n hb hx)
    · obtain ⟨sl, e1⟩ := I.base.slot b o e n hb hx
      exact ⟨sl, (hs.2 b (Nat.ne_of_lt (Nat.lt_of_lt_of_le (Heap.lt_size e) I.ok.above))).trans e1⟩
    · obtain ⟨o', e1⟩ := I.base.there b o e hx
      exact ⟨o', (hs.2 b (Nat.ne_of_lt (Nat.lt_of_lt_of_le (Heap.lt_size e) I.ok.above))).trans e1⟩
    · by_cases hj : j = i
      · subst hj
        rw [hi] at e1; cases e1
        rw [List.getElem?_set_self Ro] at e2
        cases e2
        exact ⟨u, r, .inl ⟨hk, by simp⟩⟩
      · rw [List.getElem?_set_ne (Ne.symm hj)] at e2
        obtain ⟨u', r', q⟩ := hl j y v' e1 e2 e3
        refine ⟨u', r', ?_⟩
        rcases q with ⟨k, e⟩ | ⟨k, c, e, z⟩
        · refine .inl ⟨k, ?_⟩
          have : y ≠ x := fun e => hj (zC hN e1 (e ▸ hi))
          simp [this, e]
        · exact .inr ⟨k, c, e, z.sameBut hs (Ed y c e)⟩
    · obtain ⟨w', z⟩ := I.cell y c e
      exact ⟨w', z.sameBut hs (Ed y c e)⟩
    · obtain ⟨e, n, ne, nf, d⟩ := I.pin p hp
      exact ⟨(hs.2 p.1 ne).trans e, n, ne, nf, d⟩
  · have hfn : X.fn x = true := by
      rcases hf with z | z
      · exact z
      · rw [z] at hk; cases hk
    obtain ⟨c, hc⟩ := I.ok.has x (.inl hk)
    obtain ⟨w', z⟩ := I.cell x c hc
    refine wpAny_storeName_cell I.ok.kind hk hc z (fun h' hc' hs => ?_)
    obtain ⟨oc, hoc, OW⟩ := id z
    refine h { s with heap := h' } ⟨I.ok, I.os, I.bare, ⟨fun b o e n hb hx => ?_, fun b o e n hb hx => ?_, I.base.free, fun b o e hx => ?_, I.base.tups, I.base.nV, I.base.pO⟩, ⟨m, hn.sameBut hs (Ne.symm (Ed x c hc)), fun j y v' e1 e2 e3 => ?_⟩, fun y c' e => ?_, I.free, I.nP, fun p hp => ?_, tracked ⟨oc, hoc, (I.nP x c hc).resolve_right fun z => by rw [hfn] at z; cases z.1⟩ hs, by simpa using I.len⟩ ⟨c, hs, .inr hc⟩
    · exact (hs.2 b (Nat.ne_of_lt (Nat.lt_of_lt_of_le (Heap.lt_size e) (I.ok.LW x c hfn hc)))).trans (I.base.keep b o e n hb hx)
    · obtain ⟨sl, e1⟩ := I.base.slot b o e n hb hx
      exact ⟨sl, (hs.2 b (Nat.ne_of_lt (Nat.lt_of_lt_of_le (Heap.lt_size e) (I.ok.LW x c hfn hc)))).trans e1⟩
    · obtain ⟨o', e1⟩ := I.base.there b o e hx
      exact ⟨o', (hs.2 b (Nat.ne_of_lt (Nat.lt_of_lt_of_le (Heap.lt_size e) (I.ok.LW x c hfn hc)))).trans e1⟩
    · by_cases hj : j = i
      · subst hj
        rw [hi] at e1; cases e1
        rw [List.getElem?_set_self Ro] at e2
        cases e2
        exact ⟨u, r, .inr ⟨.inl hk, c, hc, hc'⟩⟩
      · rw [List.getElem?_set_ne (Ne.symm hj)] at e2
        obtain ⟨u', r', q⟩ := hl j y v' e1 e2 e3
        refine ⟨u', r', ?_⟩
        rcases q with q | ⟨k, c', e, z'⟩
        · exact .inl q
        · refine .inr ⟨k, c', e, z'.sameBut hs ?_⟩
          rintro rfl
          exact hj (zC hN e1 (I.ok.inj _ _ _ e hc ▸ hi))
    · by_cases hcc : c' = c
      · subst hcc; exact ⟨_, hc'⟩
      · obtain ⟨w2, z2⟩ := I.cell y c' e
        exact ⟨w2, z2.sameBut hs hcc⟩
    · obtain ⟨e, n, ne, nf, d⟩ := I.pin p hp
      refine ⟨(hs.2 p.1 ?_).trans e, n, ne, nf, d⟩
      intro q
      rw [q, hoc] at e
      have q' : oc = p.2 := Option.some.inj e
      exact d w' (by rw [← q']; exact OW)
theorem zD {M : Model} {A : Around} {E : Value → Shared → Prop} {i : Nat} {x : Str} {v : V} {u : Value} {Q : Unit → Shared → Prop} (I : Inv X pins σ H s) (hN : X.N.Nodup) (hi : X.N[i]? = some x) (hx : Loc X.env.scope x) (r : RelV v u)
    (h : ∀ s', Inv X pins (σ.set i (some v)) H s' → Q () s') (hf : X.fn x = true ∨ X.env.scope.names.lookup x = some .local := by first | exact .inl rfl | exact .inr rfl | assumption) : wpAny M A (storeName X.env x u) Q E s :=
  tw I hN hi hx r (fun s' I' _ => h s' I') hf
theorem Inv.Eg {s' : Shared} {ch : List Addr} (I : Inv X pins σ H s) (ho : s'.os = s.os ∧ 0 < s'.toks) (u : Un (frs X.stack) ch H H' s.heap s'.heap) (hok : pN X.prog X.w H' s'.heap) (hg : AllBare s'.gens)
    (hch : ∀ b ∈ ch, (b ∈ X.ex ∨ X.s₀.heap.objs.size ≤ b) ∧ b ≠ X.env.locals ∧ (∀ x c, X.env.cells.lookup x = some c → c ≠ b) ∧ ∀ p ∈ X.pn ++ pins, p.1 ≠ b) : Inv X pins σ H' s' := by
  obtain ⟨h', g', d', t', o'⟩ := s'
  have e : o' = s.os := ho.1
  have ht : 0 < t' := ho.2
  subst e
  exact I.call (g' := g') (t' := t') (d' := d') u hok hg hch
end
noncomputable abbrev XK := Value → Option Addr → Hp → Prop
noncomputable abbrev St := List (Option V)
noncomputable abbrev VK := V → Hp → Prop
noncomputable abbrev TE := St → Hp → VK → Prop
noncomputable abbrev TT := St → Hp → (Bool → Hp → Prop) → Prop
noncomputable abbrev TA := St → Hp → (List V → Hp → Prop) → Prop
structure Ends where
  nx : St → Hp → Prop
  rt : VK
  bk : St → Hp → Prop := fun _ _ => False
  ct : St → Hp → Prop := fun _ _ => False
noncomputable abbrev TS := Ends → St → Hp → Prop
noncomputable def EP (X : Cx) (pins : List (Addr × Obj)) (σ : St) (Q : VK) (u : Value) (s' : Shared) : Prop := ∃ v H', Inv X pins σ H' s' ∧ RelV v u ∧ Q v H'
noncomputable def TP (X : Cx) (pins : List (Addr × Obj)) (σ : St) (Q : Bool → Hp → Prop) (b : Bool) (s' : Shared) : Prop := ∃ H', Inv X pins σ H' s' ∧ Q b H'
noncomputable def AP (X : Cx) (pins : List (Addr × Obj)) (σ : St) (Q : List V → Hp → Prop) (us : List Value) (s' : Shared) : Prop := ∃ vs H', Inv X pins σ H' s' ∧ Vals vs us ∧ Q vs H'
noncomputable def SP (X : Cx) (pins : List (Addr × Obj)) (D : Ends) (f : Flow) (s' : Shared) : Prop :=
  match f with
  | .next => ∃ σ' H', Inv X pins σ' H' s' ∧ D.nx σ' H'
  | .brk => ∃ σ' H', Inv X pins σ' H' s' ∧ D.bk σ' H'
  | .cont => ∃ σ' H', Inv X pins σ' H' s' ∧ D.ct σ' H'
  | .ret u => ∃ v σ' H', Inv X pins σ' H' s' ∧ RelV v u ∧ D.rt v H'
noncomputable def PE (X : Cx) (e : Expr) (t : TE) : Prop :=
  ∀ (pins : List (Addr × Obj)) (s : Shared) (σ : St) (H : Hp) (Q : VK), Inv X pins σ H s → t σ H Q → wpAny (model X.prog X.w) X.A (eval e X.env) (EP X pins σ Q) X.xe s
noncomputable def PT (X : Cx) (e : Expr) (t : TT) : Prop :=
  ∀ (pins : List (Addr × Obj)) (s : Shared) (σ : St) (H : Hp) (Q : Bool → Hp → Prop), Inv X pins σ H s → t σ H Q → wpAny (model X.prog X.w) X.A (isTrue e X.env (eval e X.env)) (TP X pins σ Q) X.xe s
noncomputable def PW (X : Cx) (e : Expr) (t : TT) : Prop :=
  ∀ (whole : Sem Value) (pins : List (Addr × Obj)) (s : Shared) (σ : St) (H : Hp) (Q : Bool → Hp → Prop), Inv X pins σ H s → t σ H Q → wpAny (model X.prog X.w) X.A (isTrue e X.env whole) (TP X pins σ Q) X.xe s
theorem PW.pt {X : Cx} {e : Expr} {t : TT} (h : PW X e t) : PT X e t := h _
noncomputable def PA (X : Cx) (es : List Expr) (t : TA) : Prop :=
  ∀ (pos : Pos) (pins : List (Addr × Obj)) (s : Shared) (σ : St) (H : Hp) (Q : List V → Hp → Prop), Inv X pins σ H s → t σ H Q → wpAny (model X.prog X.w) X.A (spliced (backTo pos (starEach es X.env))) (AP X pins σ Q) X.xe s
noncomputable def PS (X : Cx) (st : Stmt) (t : TS) : Prop :=
  ∀ (pins : List (Addr × Obj)) (s : Shared) (σ : St) (H : Hp) (D : Ends), Inv X pins σ H s → t D σ H → wpAny (model X.prog X.w) X.A (exec st X.env) (SP X pins D) X.xe s
noncomputable def A5 (X : Cx) (st : List Stmt) (t : TS) : Prop :=
  ∀ (pins : List (Addr × Obj)) (s : Shared) (σ : St) (H : Hp) (D : Ends), Inv X pins σ H s → t D σ H → wpAny (model X.prog X.w) X.A (execs st X.env) (SP X pins D) X.xe s
theorem gX {α : Type} {t : Sem α} {Q Q' : α → Shared → Prop} {M : Model} {A : Around} {E : Value → Shared → Prop} {s : Shared} (h : wpAny M A t Q E s) (hQ : ∀ a s, Q a s → Q' a s) : wpAny M A t Q' E s := wpAny_mono h hQ fun _ _ x => x
end L2
namespace L2
open PySem PySem.Spec PyProof.Rows
section
variable {X : Cx}
theorem bin {a b : Expr} {ta tb : TE} (ha : PE X a ta) (hb : PE X b tb) {pins : List (Addr × Obj)} {s : Shared} {σ : St} {H : Hp} {R : V → V → Hp → Prop} (I : Inv X pins σ H s) (h : ta σ H fun x H1 => tb σ H1 fun y H2 => R x y H2)
    {α : Type} {Q : α → Shared → Prop} {f : Value → Value → Sem α}
    (hf : ∀ v u s2 x y H2, Inv X pins σ H2 s2 → RelV x v → RelV y u → R x y H2 → wpAny (model X.prog X.w) X.A (f v u) Q X.xe s2) :
    wpAny (model X.prog X.w) X.A (eval a X.env) (fun v s₁ => wpAny (model X.prog X.w) X.A (eval b X.env) (fun u s₂ => wpAny (model X.prog X.w) X.A (f v u) Q X.xe s₂) X.xe s₁) X.xe s := by
  refine gX (ha pins s σ H _ I h) fun v s1 ⟨x, H1, I1, r1, q1⟩ => ?_
  refine gX (hb pins s1 σ H1 _ I1 q1) fun u s2 ⟨y, H2, I2, r2, q2⟩ => ?_
  exact hf v u s2 x y H2 I2 r1 r2 q2
noncomputable def OX (i : Nat) : TE := fun σ H Q => ∃ v, σ[i]? = some (some v) ∧ Q v H
noncomputable def tC (v : V) : TE := fun _ H Q => Q v H
theorem A6 {i : Nat} {x : Str} {pos : Pos} (hN : X.N[i]? = some x) (hv : IZ X.env.scope x) (hd : (x == ("__debug__" : Str)) = false := by decide) (hcd : (x == ("__classdict__" : Str)) = false := by decide) : PE X (.Name x pos) (OX i) := by
  intro pins s σ H Q I h
  obtain ⟨v, e, h⟩ := h
  obtain ⟨m, hn, hl⟩ := I.loc
  obtain ⟨u, r, l⟩ := hl i x v hN e hv
  have fin : EP X pins σ Q u s := ⟨v, H, I, r, h⟩
  rcases l with ⟨hk, hm⟩ | ⟨hk, c, hc, hcell⟩
  · exact wpAny_Name (wpAny_loadName_local I.ok.kind hk hn hm fin) hd
  · rcases hk with hk | hk
    · exact wpAny_Name (wpAny_loadName_cell I.ok.kind hk hc hcell fin) hd
    · exact wpAny_Name (wpAny_loadName_free I.ok.kind hk hc hcell fin hcd) hd
theorem JM {i j pos} : PE X (.Constant (.int i) j pos) (tC (.int i)) := fun _ _ _ H _ I h => wpAny_Constant_int ⟨.int i, H, I.tok _, ⟨_, rfl⟩, h⟩
theorem L0 {b j pos} : PE X (.Constant (.bool b) j pos) (tC (.bl b)) := fun _ _ _ H _ I h => Constant_bool ⟨.bl b, H, I, rfl, h⟩
theorem JN {x j pos} : PE X (.Constant (.str x) j pos) (tC (.str x)) := fun _ _ _ H _ I h => Calls.Constant_str ⟨.str x, H, I.tok _, ⟨_, rfl⟩, h⟩
noncomputable def Gl (X : Cx) (x : Str) : Prop := X.env.kindOf x = some .globalImplicit
theorem BY {E : Value → Shared → Prop} {pins : List (Addr × Obj)} {s : Shared} {σ : St} {H : Hp} {x : Str} {u : Value} {pos : Pos} {Q : Value → Shared → Prop} (I : Inv X pins σ H s) (hg : Gl X x) (hm : X.mg x = some u) (h : Q u s)
    (hd : (x == ("__debug__" : Str)) = false := by decide) : wpAny (model X.prog X.w) X.A (eval (.Name x pos) X.env) Q E s :=
  Calls.Name_function_global I.ok.kind hg (Calls.loadGlobal_global (by rw [I.ok.glob]; exact I.mod.glob.keeps I.bk) hm h) hd
theorem mV {E : Value → Shared → Prop} {pins : List (Addr × Obj)} {s : Shared} {σ : St} {H : Hp} {x : Str} {u : Value} {pos : Pos} {Q : Value → Shared → Prop} (I : Inv X pins σ H s) (hg : Gl X x) (hm : X.mg x = none) (hv : bootBuiltins x = some u) (h : Q u s)
    (hn : x ≠ "__name__" := by decide) (hd : (x == ("__debug__" : Str)) = false := by decide) : wpAny (model X.prog X.w) X.A (eval (.Name x pos) X.env) Q E s := by
  obtain ⟨mb, h1, h2⟩ := I.mod.blt
  exact Calls.Name_function_global I.ok.kind hg (Calls.loadGlobal_builtin (by rw [I.ok.glob]; exact I.mod.glob.keeps I.bk) hm (by rw [I.ok.blt]; exact h1.keeps I.bk) ((h2 x hn).trans hv) h) hd
theorem BZ {x : Str} {v : V} {u : Value} {pos : Pos} (hg : Gl X x) (hm : X.mg x = some u) (r : RelV v u) (hd : (x == ("__debug__" : Str)) = false := by decide) : PE X (.Name x pos) (tC v) :=
  fun _ _ _ H _ I h => BY I hg hm ⟨v, H, I, r, h⟩ hd
theorem GW {x : Str} {v : V} {u : Value} {pos : Pos} (hg : Gl X x) (hm : X.mg x = none) (hv : bootBuiltins x = some u) (r : RelV v u) (hn : x ≠ "__name__" := by decide) (hd : (x == ("__debug__" : Str)) = false := by decide) : PE X (.Name x pos) (tC v) :=
  fun _ _ _ H _ I h => mV I hg hm hv ⟨v, H, I, r, h⟩ hn hd
variable {a b : Expr} {ta tb : TE} {pos : Pos}
variable {tA Og : TT} {rest : List Expr}
noncomputable def L1 (t u : TT) : TT := fun σ H Q => t σ H fun c H1 => if c = true then u σ H1 Q else Q false H1
noncomputable def Rq (t u : TT) : TT := fun σ H Q => t σ H fun c H1 => if c = true then Q true H1 else u σ H1 Q
noncomputable def OY (t : TT) : TT := fun σ H Q => t σ H fun c H1 => Q (!c) H1
theorem GX (ha : PT X a tA) : PW X (.BoolOp .And [a] pos) tA := by
  intro wh pins s σ H Q I h
  refine isTrue_and (gX (ha pins s σ H Q I h) fun c s1 e => ?_)
  cases c with
  | true => exact isTrue_and_nil e
  | false => exact e
theorem JO (ha : PT X a tA) : PW X (.BoolOp .Or [a] pos) tA := by
  intro wh pins s σ H Q I h
  refine isTrue_or (gX (ha pins s σ H Q I h) fun c s1 e => ?_)
  cases c with
  | false => exact isTrue_or_nil e
  | true => exact e
theorem JP (ha : PT X a tA) (hb : PW X (.BoolOp .And (b :: rest) pos) Og) : PW X (.BoolOp .And (a :: b :: rest) pos) (L1 tA Og) := by
  intro wh pins s σ H Q I h
  refine isTrue_and (gX (ha pins s σ H _ I h) fun c s1 ⟨H1, I1, q1⟩ => ?_)
  cases c with
  | true => exact hb wh pins s1 σ H1 Q I1 q1
  | false => exact ⟨H1, I1, q1⟩
theorem L4 (ha : PT X a tA) (hb : PW X (.BoolOp .Or (b :: rest) pos) Og) : PW X (.BoolOp .Or (a :: b :: rest) pos) (Rq tA Og) := by
  intro wh pins s σ H Q I h
  refine isTrue_or (gX (ha pins s σ H _ I h) fun c s1 ⟨H1, I1, q1⟩ => ?_)
  cases c with
  | true => exact ⟨H1, I1, q1⟩
  | false => exact hb wh pins s1 σ H1 Q I1 q1
theorem JQ (ha : PT X a tA) : PT X (.UnaryOp .Not a pos) (OY tA) := by
  intro pins s σ H Q I h
  exact isTrue_not (ha pins s σ H (fun c H1 => Q (!c) H1) I h)
noncomputable def TN (t : TT) (ta tb : TE) : TE := fun σ H Q => t σ H fun c H1 => if c = true then ta σ H1 Q else tb σ H1 Q
theorem Eh {c : Expr} (hc : PT X c tA) (ha : PE X a ta) (hb : PE X b tb) : PE X (.IfExp c a b pos) (TN tA ta tb) := by
  intro pins s σ H Q I h
  refine wpAny_IfExp (gX (hc pins s σ H _ I h) fun d s1 ⟨H1, I1, q1⟩ => ?_)
  cases d with
  | true => exact ha pins s1 σ H1 Q I1 q1
  | false => exact hb pins s1 σ H1 Q I1 q1
end
end L2
namespace L2
open PySem PySem.Spec PyProof.Rows
noncomputable def qx (K : PySem.W.Frag) (H : Hp) (a : Addr) (xs : List V) : Prop :=
  Rd H a (.lst xs) ∨
    ∃ (o : Obj) (its : Array Value) (n : Nat), K.lookup a = some o ∧ o.cls = .type "list" ∧ o.dict = none ∧ o.data = .seq its n ∧ its.size ≤ sizeLine ∧ Vals xs its.toList
noncomputable def pQ (K : PySem.W.Frag) (H : Hp) (a : Addr) (xs : List V) : Prop :=
  Rd H a (.tup xs) ∨
    ∃ (o : Obj) (its : Array Value) (n : Nat), K.lookup a = some o ∧ o.cls = .type "tuple" ∧ o.data = .seq its n ∧ its.size ≤ sizeLine ∧ Vals xs its.toList
noncomputable def OZ : Value → Option V
  | .none => some .jd
  | .bool b => some (.bl b)
  | .int i _ => some (.int i)
  | .str x _ => some (.str x)
  | .bytes b _ => some (.LS b)
  | .float b _ => some (.LU b)
  | .ref a => some (.ref a)
  | .type n => some (.ty n)
  | _ => none
theorem RelV.abs {x : V} {u : Value} (r : RelV x u) : OZ u = some x := by
  cases x with
  | jd => cases r; rfl
  | bl _ => cases r; rfl
  | int _ => obtain ⟨t, rfl⟩ := r; rfl
  | str _ => obtain ⟨t, rfl⟩ := r; rfl
  | LS _ => obtain ⟨t, rfl⟩ := r; rfl
  | LU _ => obtain ⟨t, rfl⟩ := r; rfl
  | ref _ => cases r; rfl
  | ty _ => cases r; rfl
theorem RelV.inj {x y : V} {u : Value} (r : RelV x u) (q : RelV y u) : x = y := Option.some.inj (r.abs.symm.trans q.abs)
theorem Vals.inj : ∀ {xs ys : List V} {us : List Value}, Vals xs us → Vals ys us → xs = ys
  | _, _, _, .nil, .nil => rfl
  | _, _, _, .cons r t, .cons r' t' => by rw [r.inj r', Vals.inj t t']
section
variable {X : Cx} {pins : List (Addr × Obj)} {σ : St} {H : Hp} {s : Shared} {a : Addr} {xs ys : List V}
theorem qx.of {K : PySem.W.Frag} (h : H a = some (.lst xs)) : qx K H a xs := .inl (.inl h)
theorem pQ.of {K : PySem.W.Frag} (h : H a = some (.tup xs)) : pQ K H a xs := .inl (.inl h)
theorem Inv.list (I : Inv X pins σ H s) (h : qx X.K H a xs) : ∃ its : List Value, Vals xs its ∧ PlainL s.heap a its.toArray ∧ xs.length ≤ sizeLine := by
  rcases h with h | ⟨o, its, n, hk, hc, hd, hs, hz, r⟩
  · obtain ⟨z, its, n, r, e⟩ := h.ok I.hok
    exact ⟨its, r, ⟨_, n, e, rfl, rfl, rfl⟩, z⟩
  · refine ⟨its.toList, r, ⟨o, n, I.BX a o hk, hc, hd, by simpa using hs⟩, ?_⟩
    have e := r.length
    simp only [Array.length_toList] at e
    omega
theorem Inv.tuple (I : Inv X pins σ H s) (h : pQ X.K H a xs) : ∃ its : List Value, Vals xs its ∧ IsTup s.heap a its.toArray ∧ xs.length ≤ sizeLine := by
  rcases h with h | ⟨o, its, n, hk, hc, hs, hz, r⟩
  · obtain ⟨z, its, r, p⟩ := h.ok I.hok
    exact ⟨its, r, p, z⟩
  · refine ⟨its.toList, r, ⟨o, I.BX a o hk, hc, n, by simpa using hs⟩, ?_⟩
    have e := r.length
    simp only [Array.length_toList] at e
    omega
theorem Inv.vn (I : Inv X pins σ H s) (h : qx X.K H a xs) (h' : qx X.K H a ys) : xs = ys := by
  obtain ⟨its, r, ⟨o, n, e, _, _, d⟩, _⟩ := I.list h
  obtain ⟨its', r', ⟨o', n', e', _, _, d'⟩, _⟩ := I.list h'
  rw [e] at e'; cases e'
  rw [d] at d'
  injection d' with d1 _
  have : its = its' := by simpa using congrArg Array.toList d1
  subst this
  exact r.inj r'
theorem Inv.xo (I : Inv X pins σ H s) (h : pQ X.K H a xs) (h' : pQ X.K H a ys) : xs = ys := by
  obtain ⟨its, r, ⟨o, e, _, n, d⟩, _⟩ := I.tuple h
  obtain ⟨its', r', ⟨o', e', _, n', d'⟩, _⟩ := I.tuple h'
  rw [e] at e'; cases e'
  rw [d] at d'
  injection d' with d1 _
  have : its = its' := by simpa using congrArg Array.toList d1
  subst this
  exact r.inj r'
end
section
variable {X : Cx} {pins : List (Addr × Obj)} {σ : St} {H : Hp} {s : Shared} {E : Value → Shared → Prop}
end
section
variable {X : Cx} {st : Stmt} {rest : List Stmt} {t u : TS} {e : Expr} {te : TE} {pos : Pos}
noncomputable def L5 : TS := fun D σ H => D.nx σ H
noncomputable def L6 (t u : TS) : TS := fun D σ H => t { D with nx := u D } σ H
theorem GY : A5 X [] L5 := fun _ _ σ H _ I h => wpAny_execs_nil ⟨σ, H, I, h⟩
theorem Ei (h1 : PS X st t) (h2 : A5 X rest u) : A5 X (st :: rest) (L6 t u) := by
  intro pins s σ H D I h
  refine wpAny_execs_cons (gX (h1 pins s σ H { D with nx := u D } I h) fun f s1 q => ?_)
  cases f with
  | next =>
    obtain ⟨σ', H', I', q⟩ := q
    exact h2 pins s1 σ' H' D I' q
  | ret v => exact q
  | brk => exact q
  | cont => exact q
theorem GZ (h1 : PS X st t) : A5 X [st] t := by
  intro pins s σ H D I h
  refine wpAny_execs_cons (gX (h1 pins s σ H D I h) fun f s1 q => ?_)
  cases f with
  | next => exact wpAny_execs_nil q
  | ret v => exact q
  | brk => exact q
  | cont => exact q
theorem Inv.quiet {pins : List (Addr × Obj)} {σ : St} {H : Hp} {s : Shared} (I : Inv X pins σ H s) : interactive X.env = false := by simp [interactive, I.ok.kind]
noncomputable def L7 (te : TE) : TS := fun D σ H => te σ H fun _ H1 => D.nx σ H1
theorem G4 (he : PE X e te) (hs : swapsWith e none pos.line X.env = pure false := by rfl) : PS X (.Expr e pos) (L7 te) := by
  intro pins s σ H D I h
  exact wpAny_Expr_any (gX (he pins s σ H _ I h) fun v s1 ⟨x, H1, I1, r1, q1⟩ => ⟨σ, H1, I1, q1⟩) I.quiet hs
noncomputable def O0 (te : TE) : TS := fun D σ H => te σ H D.rt
theorem JR (he : PE X e te) : PS X (.Return (some e) pos) (O0 te) := by
  intro pins s σ H D I h
  exact wpAny_Return_some (gX (he pins s σ H _ I h) fun v s1 ⟨x, H1, I1, r1, q1⟩ => ⟨x, σ, H1, I1, r1, q1⟩)
noncomputable def O1 (c : TT) (t u : TS) : TS := fun D σ H => c σ H fun b H1 => if b = true then t D σ H1 else u D σ H1
theorem L8 {c : Expr} {a b : List Stmt} {tc : TT} (hc : PT X c tc) (ha : A5 X a t) (hb : A5 X b u) : PS X (.If c a b pos) (O1 tc t u) := by
  intro pins s σ H D I h
  refine wpAny_If (gX (hc pins s σ H _ I h) fun d s1 ⟨H1, I1, q1⟩ => ?_)
  cases d with
  | true => exact ha pins s1 σ H1 D I1 q1
  | false => exact hb pins s1 σ H1 D I1 q1
end
noncomputable abbrev TG := V → St → Hp → (St → Hp → Prop) → Prop
noncomputable abbrev JS := List V → St → Hp → (St → Hp → Prop) → Prop
noncomputable def PG (X : Cx) (target : Expr) (t : TG) : Prop :=
  ∀ (pins : List (Addr × Obj)) (s : Shared) (σ : St) (H : Hp) (v : V) (u : Value) (Q : St → Hp → Prop), Inv X pins σ H s → RelV v u → t v σ H Q →
    wpAny (model X.prog X.w) X.A (assign target X.env u) (fun _ s' => ∃ σ' H', Inv X pins σ' H' s' ∧ Q σ' H') X.xe s
noncomputable def Oh (X : Cx) (ts : List Expr) (t : JS) : Prop :=
  ∀ (pins : List (Addr × Obj)) (s : Shared) (σ : St) (H : Hp) (vs : List V) (us : List Value) (Q : St → Hp → Prop), Inv X pins σ H s → Vals vs us → t vs σ H Q →
    wpAny (model X.prog X.w) X.A (assignInOrder ((assignEach ts X.env).map (·.2)) us) (fun _ s' => ∃ σ' H', Inv X pins σ' H' s' ∧ Q σ' H') X.xe s
noncomputable abbrev JT := V → V → V → Hp → (Hp → Prop) → Prop
noncomputable def Ma (X : Cx) (t : JT) : Prop :=
  ∀ (pins : List (Addr × Obj)) (s : Shared) (σ : St) (H : Hp) (o i v : V) (ov iv u : Value) (Q : Hp → Prop), Inv X pins σ H s → RelV o ov → RelV i iv → RelV v u → t o i v H Q →
    wpAny (model X.prog X.w) X.A (setItem ov iv u) (fun _ s' => ∃ H', Inv X pins σ H' s' ∧ Q H') X.xe s
section
variable {X : Cx} {pos : Pos}
noncomputable def xq (i : Nat) : TG := fun v σ H Q => Q (σ.set i (some v)) H
theorem yk {i : Nat} {x : Str} (hN : X.N.Nodup) (hi : X.N[i]? = some x) (hx : Loc X.env.scope x) (hf : X.fn x = true ∨ X.env.scope.names.lookup x = some .local := by first | exact .inl rfl | exact .inr rfl | assumption) : PG X (.Name x pos) (xq i) := by
  intro pins s σ H v u Q I r h
  exact wpAny_assign_Name (zD I hN hi hx r (fun s' I' => ⟨_, H, I', h⟩) hf)
noncomputable def O2 : JS := fun vs σ H Q => vs = [] ∧ Q σ H
noncomputable def Mb (t : TG) (u : JS) : JS := fun vs σ H Q => ∃ v r, vs = v :: r ∧ t v σ H fun σ' H' => u r σ' H' Q
theorem G5 : Oh X [] O2 := by
  intro pins s σ H vs us Q I r h
  obtain ⟨e, h⟩ := h
  subst e
  cases r
  exact assignInOrder_nil ⟨σ, H, I, h⟩
theorem zE {e : Expr} {es : List Expr} {t : TG} {u : JS} (h1 : PG X e t) (h2 : Oh X es u)
    (hs : (assignEach (e :: es) X.env).map (·.2) = assign e X.env :: (assignEach es X.env).map (·.2) := by rfl) : Oh X (e :: es) (Mb t u) := by
  intro pins s σ H vs us Q I r h
  obtain ⟨v, vr, e1, h⟩ := h
  subst e1
  cases r with
  | cons r rr =>
    rw [hs]
    refine assignInOrder_cons (gX (h1 pins s σ H _ _ _ I r h) fun _ s1 ⟨σ1, H1, I1, q1⟩ => ?_)
    exact h2 pins s1 σ1 H1 _ _ Q I1 rr q1
noncomputable def O3 (K : PySem.W.Frag) (n : Nat) (t : JS) : TG := fun v σ H Q => ∃ a xs, v = .ref a ∧ pQ K H a xs ∧ xs.length = n ∧ t xs σ H Q
theorem JU {es : List Expr} {k : Nat} {t : JS} {n : Nat} (hc : X.calm = true) (h : Oh X es t)
    (hn : (assignEach es X.env).length = n := by rfl) (hst : (assignEach es X.env).findIdx? (·.1) = none := by rfl) : PG X (.Tuple es k pos) (O3 X.K n t) := by
  intro pins s σ H v u Q I r hw
  obtain ⟨a, xs, e1, hq, hl, hw⟩ := hw
  subst e1
  cases r
  obtain ⟨its, rv, ht, hz⟩ := I.tuple hq
  refine assign_Tuple_tuple (I.ok.hd hc) ht (by simp [hn, ← hl, rv.length]) hst fun h' hx => ?_
  have I1 : Inv X pins σ H { s with heap := h' } := I.kept (t' := s.toks) fun b o e => hx b o (Nat.ne_of_lt (Heap.lt_size e)) e
  exact h pins _ σ H xs _ Q I1 (by simpa using rv) hw
noncomputable def O4 (to ti : TE) (t : JT) : TG := fun v σ H Q => to σ H fun o H1 => ti σ H1 fun i H2 => t o i v H2 fun H3 => Q σ H3
theorem JW {o i : Expr} {to ti : TE} {t : JT} (ho : PE X o to) (hi : PE X i ti) (hs : Ma X t)
    (ha : ∀ v, assign (.Subscript o i pos) X.env v = (do
      let ov ← holding [v] (eval o X.env)
      let iv ← holding [v, ov] (eval i X.env)
      standAt pos
      holding [v, ov, iv] (setItem ov iv v)
      release [v, ov, iv] []) := by intro _; rfl) : PG X (.Subscript o i pos) (O4 to ti t) := by
  intro pins s σ H v u Q I r h
  rw [ha]
  refine wpAny_bind (wpAny_holding (gX (ho pins s σ H _ I h) fun ov s1 ⟨x, H1, I1, r1, q1⟩ => ?_))
  refine wpAny_bind (wpAny_holding (gX (hi pins s1 σ H1 _ I1 q1) fun iv s2 ⟨y, H2, I2, r2, q2⟩ => ?_))
  refine wpAny_bind (wpAny_standAt (wpAny_bind (wpAny_holding (gX (hs pins s2 σ H2 x y v ov iv u _ I2 r1 r2 r q2) fun _ s3 ⟨H3, I3, q3⟩ => ?_))))
  exact wpAny_release ⟨σ, H3, I3, q3⟩
noncomputable def G6 (te : TE) (g : TG) : TS := fun D σ H => te σ H fun x H1 => g x σ H1 D.nx
theorem JX {tg e : Expr} {te : TE} {g : TG} (he : PE X e te) (hg : PG X tg g) (hs : swapsWithSole [tg] e pos.line X.env = pure false := by rfl) (hw : swappedStores [tg] e X.env = pure none := by rfl)
    (h1 : (assignEach [tg] X.env).map (·.2) = [assign tg X.env] := by rfl) : PS X (.Assign [tg] e pos) (G6 te g) := by
  intro pins s σ H D I h
  refine wpAny_Assign_stores (gX (he pins s σ H _ I h) fun v s1 ⟨x, H1, I1, r1, q1⟩ => ?_) hs hw
  rw [h1]
  exact gX (hg pins s1 σ H1 x v _ I1 r1 q1) fun _ s2 q => q
theorem JY {i : Nat} {x : Str} {e : Expr} {te : TE} {pos' : Pos} (hN : X.N.Nodup) (hi : X.N[i]? = some x) (hx : Loc X.env.scope x) (he : PE X e te) (hs : swapsWith e (some (.Name x pos')) pos.line X.env = pure false := by rfl) (hf : X.fn x = true ∨ X.env.scope.names.lookup x = some .local := by first | exact .inl rfl | exact .inr rfl | assumption) :
    PS X (.Assign [.Name x pos'] e pos) (G6 te (xq i)) := by
  intro pins s σ H D I h
  refine wpAny_Assign_Name (gX (he pins s σ H _ I h) fun v s1 ⟨y, H1, I1, r1, q1⟩ => ?_) hs
  exact zD I1 hN hi hx r1 (fun s2 I2 => ⟨_, H1, I2, q1⟩) hf
end
section
variable {X : Cx} {pos : Pos}
noncomputable def JZ (c : TT) (tb : TS) : TS := fun D σ H => ∃ W : Nat → St → Hp → Prop, (∃ m, W m σ H) ∧ ∀ m σ H, W m σ H →
  c σ H fun b H1 => if b = true then ∃ N : St → Hp → Prop, (∀ σ' H', N σ' H' → ∃ m', m' < m ∧ W m' σ' H') ∧ tb { D with nx := N, ct := N, bk := D.nx } σ H1 else D.nx σ H1
theorem Ej {c : Expr} {body : List Stmt} {tc : TT} {tb : TS} (hp : PassesOwn (model X.prog X.w) X.A X.env X.xe) (hc : PT X c tc) (hb : A5 X body tb) : PS X (.While c body [] pos) (JZ tc tb) := by
  intro pins s σ H D I h
  obtain ⟨W, ⟨m0, w0⟩, turn⟩ := h
  refine wpAny_While (codeAny_whileLoop (fun n s' => ∃ σ' H', Inv X pins σ' H' s' ∧ W n σ' H') ?_ m0 ⟨σ, H, I, w0⟩)
  rintro n s1 ⟨σ1, H1, I1, w1⟩
  refine wpAny_passesOwn hp (gX (hc pins s1 σ1 H1 _ I1 (turn n σ1 H1 w1)) fun b s2 ⟨H2, I2, q2⟩ => ?_)
  cases b with
  | true =>
    obtain ⟨N, hN, q2⟩ := q2
    rw [if_pos rfl]
    refine wpAny_passesOwn hp (gX (hb pins s2 σ1 H2 _ I2 q2) fun f s3 q3 => ?_)
    cases f with
    | next =>
      obtain ⟨σ3, H3, I3, n3⟩ := q3
      obtain ⟨m', hm, w3⟩ := hN σ3 H3 n3
      exact ⟨m', hm, σ3, H3, I3, w3⟩
    | cont =>
      obtain ⟨σ3, H3, I3, n3⟩ := q3
      obtain ⟨m', hm, w3⟩ := hN σ3 H3 n3
      exact ⟨m', hm, σ3, H3, I3, w3⟩
    | brk => exact q3
    | ret v => exact q3
  | false =>
    rw [if_neg Bool.false_ne_true]
    exact wpAny_execs_nil ⟨σ1, H2, I2, q2⟩
end
structure It where
  go : Nat → Hp → Prop
  xr : Nat → Hp → V → Hp → Prop
  stop : Nat → Hp → Prop
noncomputable def tB (X : Cx) (pins : List (Addr × Obj)) (H : Hp) (b : Addr) : Prop :=
  H b = none ∧ b ≠ X.env.locals ∧ b ∉ X.fs ∧ (b ∈ X.ex ∨ X.s₀.heap.objs.size ≤ b) ∧ (∀ x c, X.env.cells.lookup x = some c → c ≠ b) ∧ ∀ p ∈ X.pn ++ pins, p.1 ≠ b
theorem Inv.CZ {X : Cx} {pins : List (Addr × Obj)} {σ : St} {H H' : Hp} {s : Shared} {b : Addr} (I : Inv X pins σ H s) (hb : s.heap.objs.size ≤ b) (hn : H' b = none) : tB X pins H' b := by
  refine ⟨hn, Nat.ne_of_gt (Nat.lt_of_lt_of_le I.lt hb), I.OU hb, .inr (Nat.le_trans I.sz hb), fun x c e z => ?_, fun p hp z => ?_⟩
  · obtain ⟨v, q⟩ := I.cell x c e
    exact absurd (Nat.lt_of_lt_of_le q.lt (by rw [z]; exact hb)) (Nat.lt_irrefl _)
  · exact absurd (Nat.lt_of_lt_of_le (Heap.lt_size (I.pin p hp).1) (by rw [z]; exact hb)) (Nat.lt_irrefl _)
structure Turn (P : Program) (w : World) (K : PySem.W.Frag) (tg : Expr) (J : It) (fp : List Addr) (it : Addr) (tn : Nat → Heap → Prop) : Prop where
  mem : it ∈ fp
  obj : ∀ i h, tn i h → ∀ b ∈ fp, ∃ o, h.get? b = some o ∧ ∀ v, o.data ≠ .cell v
  keep : ∀ i h h', tn i h → (∀ b ∈ fp, ∀ o, h.get? b = some o → h'.get? b = some o) → tn i h'
  item : ∀ (X : Cx), X.prog = P → X.w = w → X.K = K → X.calm = true → ∀ (i : Nat) (pins : List (Addr × Obj)) (s : Shared) (σ : St) (H : Hp) (E : Value → Shared → Prop), Inv X pins σ H s → (∀ b ∈ fp, tB X pins H b) → tn i s.heap → J.go i H →
    wpAny (model P w) X.A (pyNext (.ref it)) (fun r s1 => ∃ u, r = some u ∧
      wpAny (model P w) X.A (letOwnedTupleGo tg (.ref it) u) (fun _ s2 => ∃ x H', Inv X pins σ H' s2 ∧ RelV x u ∧ J.xr i H x H' ∧ tn (i + 1) s2.heap ∧ ∀ b ∈ fp, H' b = none) E s1) E s
  done : ∀ (X : Cx), X.prog = P → X.w = w → X.K = K → X.calm = true → ∀ (i : Nat) (pins : List (Addr × Obj)) (s : Shared) (σ : St) (H : Hp) (E : Value → Shared → Prop), Inv X pins σ H s → (∀ b ∈ fp, tB X pins H b) → tn i s.heap → J.stop i H →
    wpAny (model P w) X.A (pyNext (.ref it)) (fun r s1 => r = none ∧ Inv X pins σ H s1) E s
  self : ∀ (A : Around) (i : Nat) (s : Shared) (Q : Value → Shared → Prop) (E : Value → Shared → Prop), tn i s.heap → Q (.ref it) s → wpAny (model P w) A (pyIter (.ref it)) Q E s
noncomputable abbrev TI := St → Hp → (It → Hp → Prop) → Prop
noncomputable def Rr (X : Cx) (pins : List (Addr × Obj)) (σ : St) (tg : Expr) (R : It → Hp → Prop) (itv : Value) (s2 : Shared) : Prop :=
  ∃ (it : Addr) (fp : List Addr) (tn : Nat → Heap → Prop) (J : It) (H' : Hp), itv = .ref it ∧ Inv X pins σ H' s2 ∧ Turn X.prog X.w X.K tg J fp it tn ∧ tn 0 s2.heap ∧ (∀ b ∈ fp, tB X pins H' b) ∧ R J H'
noncomputable def PI (X : Cx) (tg iter : Expr) (wi : TI) : Prop :=
  ∀ (pins : List (Addr × Obj)) (s : Shared) (σ : St) (H : Hp) (R : It → Hp → Prop), Inv X pins σ H s → wi σ H R →
    wpAny (model X.prog X.w) X.A (eval iter X.env) (fun v s1 => wpAny (model X.prog X.w) X.A (pyIter v) (Rr X pins σ tg R) X.xe s1) X.xe s
theorem zF {M : Model} {A : Around} {E : Value → Shared → Prop} {s : Shared} {tg : Expr} {it : Addr} {u : Value} {o : Obj} {n : String} {vs : Array Value} {Q : Unit → Shared → Prop} (ho : s.heap.get? it = some o) (hc : o.cls = .type n) (hd : o.data = .fields vs)
    (hn : ["enumerate", "zip", "dict_itemiterator", "dict_reverseitemiterator", "odict_iterator", "itertools.zip_longest", "itertools.pairwise"].contains n = false) (hQ : Q () s) : wpAny M A (letOwnedTupleGo tg (.ref it) u) Q E s := by
  unfold letOwnedTupleGo
  cases tg <;> first
    | exact wpAny_pure hQ
    | (cases u <;> first
        | exact wpAny_pure hQ
        | (refine wpAny_bind (wpAny_load ho ?_)
           rw [hc, hd]
           show wpAny M A (if (["enumerate", "zip", "dict_itemiterator", "dict_reverseitemiterator", "odict_iterator", "itertools.zip_longest", "itertools.pairwise"].contains n && vs[0]? == some (rawInt _)) = true then _ else _) Q E s
           rw [if_neg (by intro h; rw [hn, Bool.false_and] at h; cases h)]
           exact wpAny_pure hQ))
noncomputable def GL (K : PySem.W.Frag) (a : Addr) : It :=
  ⟨fun i H => ∃ xs x, qx K H a xs ∧ xs[i]? = some x, fun i H x H' => H' = H ∧ ∀ xs, qx K H a xs → xs[i]? = some x, fun i H => ∃ xs, qx K H a xs ∧ xs.length ≤ i⟩
noncomputable def Oi (K : PySem.W.Frag) (a : Addr) : It :=
  ⟨fun i H => ∃ xs x, pQ K H a xs ∧ xs[i]? = some x, fun i H x H' => H' = H ∧ ∀ xs, pQ K H a xs → xs[i]? = some x, fun i H => ∃ xs, pQ K H a xs ∧ xs.length ≤ i⟩
noncomputable def yl (lo : Int) (n : Nat) : It := ⟨fun i _ => i < n, fun i H x H' => H' = H ∧ x = .int (lo + i), fun i _ => n ≤ i⟩
theorem C0 {P : Program} {w : World} {K : PySem.W.Frag} {tg : Expr} (a it : Addr) : Turn P w K tg (GL K a) [it] it (fun i h => h.IsListIter it a i) where
  mem := by simp
  obj := fun i h st b hb => by
    have e : b = it := by simpa using hb
    subst e
    obtain ⟨o, e, c, d⟩ := st
    exact ⟨o, e, fun v z => by rw [d] at z; cases z⟩
  keep := fun i h h' st k => st.at fun o e => k it (by simp) o e
  item := by
    intro X hP hw hK hc i pins s σ H E I hf st hg
    subst hP hw hK
    obtain ⟨xs, x, hq, hx⟩ := hg
    obtain ⟨its, rv, p, hz⟩ := I.list hq
    obtain ⟨u, hu, ru⟩ := rv.get hx
    obtain ⟨f0, f1, f2, f3, f4, f5⟩ := hf it (by simp)
    refine wpAny_pyNext_list_item st p.isList (x := u) (by simpa using hu) fun h' st' sb => ?_
    have I1 : Inv X pins σ H { s with heap := h' } := I.turned (t' := s.toks) (fun b o hb e => (sb.2 b hb).trans e) f0 f1 f3 f4 f5
    obtain ⟨o, e, c, d⟩ := id st'
    exact ⟨u, rfl, zF (s := { s with heap := h' }) e c d (by decide) ⟨x, H, I1, ru, ⟨rfl, fun ys hy => by rw [I.vn hy hq]; exact hx⟩, st', fun b hb => (hf b hb).1⟩⟩
  done := by
    intro X hP hw hK hc i pins s σ H E I hf st hg
    subst hP hw hK
    obtain ⟨xs, hq, hx⟩ := hg
    obtain ⟨its, rv, p, hz⟩ := I.list hq
    obtain ⟨f0, f1, f2, f3, f4, f5⟩ := hf it (by simp)
    have hl := rv.length
    exact wpAny_pyNext_list_end (I.ok.hd hc) st p.isList (by simp; omega) fun h' eb => ⟨rfl, I.turned (t' := s.toks) (fun b o hb e => eb b o hb e) f0 f1 f3 f4 f5⟩
  self := fun _ _ _ _ _ st h => wpAny_pyIter_listiter st h
theorem A7 {P : Program} {w : World} {K : PySem.W.Frag} {tg : Expr} (a it : Addr) : Turn P w K tg (Oi K a) [it] it (fun i h => h.IsTupleIter it a i) where
  mem := by simp
  obj := fun i h st b hb => by
    have e : b = it := by simpa using hb
    subst e
    obtain ⟨o, e, c, d⟩ := st
    exact ⟨o, e, fun v z => by rw [d] at z; cases z⟩
  keep := fun i h h' st k => st.at fun o e => k it (by simp) o e
  item := by
    intro X hP hw hK hc i pins s σ H E I hf st hg
    subst hP hw hK
    obtain ⟨xs, x, hq, hx⟩ := hg
    obtain ⟨its, rv, p, hz⟩ := I.tuple hq
    obtain ⟨u, hu, ru⟩ := rv.get hx
    obtain ⟨f0, f1, f2, f3, f4, f5⟩ := hf it (by simp)
    refine wpAny_pyNext_tuple_item st (show s.heap.IsTuple a its.toArray from p) (x := u) (by simpa using hu) fun h' st' sb => ?_
    have I1 : Inv X pins σ H { s with heap := h' } := I.turned (t' := s.toks) (fun b o hb e => (sb.2 b hb).trans e) f0 f1 f3 f4 f5
    obtain ⟨o, e, c, d⟩ := id st'
    exact ⟨u, rfl, zF (s := { s with heap := h' }) e c d (by decide) ⟨x, H, I1, ru, ⟨rfl, fun ys hy => by rw [I.xo hy hq]; exact hx⟩, st', fun b hb => (hf b hb).1⟩⟩
  done := by
    intro X hP hw hK hc i pins s σ H E I hf st hg
    subst hP hw hK
    obtain ⟨xs, hq, hx⟩ := hg
    obtain ⟨its, rv, p, hz⟩ := I.tuple hq
    obtain ⟨f0, f1, f2, f3, f4, f5⟩ := hf it (by simp)
    have hl := rv.length
    exact wpAny_pyNext_tuple_end (I.ok.hd hc) st (show s.heap.IsTuple a its.toArray from p) (by simp; omega) fun h' eb => ⟨rfl, I.turned (t' := s.toks) (fun b o hb e => eb b o hb e) f0 f1 f3 f4 f5⟩
  self := fun _ _ _ _ _ st h => wpAny_pyIter_tupleiter st h
theorem A8 {P : Program} {w : World} {K : PySem.W.Frag} {tg : Expr} (it : Addr) (lo : Int) (n : Nat) : Turn P w K tg (yl lo n) [it] it (fun i h => IsRangeIter h it (lo + (i : Nat) * 1) ((n : Int) - (i : Nat)) 1) where
  mem := by simp
  obj := fun i h st b hb => by
    have e : b = it := by simpa using hb
    subst e
    exact ⟨_, st, fun v z => by
      have z' : Data.fields _ = Data.cell v := z
      cases z'⟩
  keep := fun i h h' st k => k it (by simp) _ st
  item := by
    intro X hP hw hK hc i pins s σ H E I hf st hg
    subst hP hw hK
    obtain ⟨f0, f1, f2, f3, f4, f5⟩ := hf it (by simp)
    have W := Walks.range (prog := X.prog) (w := X.w) (I.ok.hd hc) it lo 1 n
    refine nZ I.os.2 (W.item i s _ _ hg st fun v h' tk hv st' kk => fun ht => ?_)
    obtain ⟨t, rfl⟩ := hv
    have I1 : Inv X pins σ H { s with heap := h', toks := tk } := I.turned (fun b o hb e => kk b o (by simpa using hb) e) f0 f1 f3 f4 f5
    refine ⟨_, rfl, zF (s := { s with heap := h', toks := tk }) (n := "range_iterator") st' rfl rfl (by decide) ⟨.int (lo + i), H, I1, ⟨t, ?_⟩, ⟨rfl, rfl⟩, st', fun b hb => (hf b hb).1⟩⟩
    rw [Int.mul_one]
  done := by
    intro X hP hw hK hc i pins s σ H E I hf st hg
    subst hP hw hK
    obtain ⟨f0, f1, f2, f3, f4, f5⟩ := hf it (by simp)
    exact wpAny_pyNext_range_end (I.ok.hd hc) st (by have : n ≤ i := hg; omega) fun h' eb => ⟨rfl, I.turned (t' := s.toks) (fun b o hb e => eb b o hb e) f0 f1 f3 f4 f5⟩
  self := fun _ _ _ _ _ st h => wpAny_pyIter_rangeiter st h
end L2
namespace L2
open PySem PySem.Spec PyProof.Rows
section
variable {X : Cx} {tg : Expr}
theorem Ek {pins : List (Addr × Obj)} {σ : St} {H : Hp} {s : Shared} {R : It → Hp → Prop} {E : Value → Shared → Prop} {lo hi : Int} {t u v : Tok} {tk : Nat} (I : Inv X pins σ H s) (h1 : -(2 ^ 62) ≤ lo) (h2 : lo < 2 ^ 62) (h3 : -(2 ^ 62) ≤ hi) (h4 : hi < 2 ^ 62)
    (q : R (yl lo (hi - lo).toNat) H) (ht : 0 < tk := by first | exact Nat.succ_pos _ | exact (Inv.os (by assumption)).2 | assumption | omega) : wpAny (model X.prog X.w) X.A (pyIter (.ref s.heap.objs.size)) (Rr X pins σ tg R) E { s with heap := s.heap.push { cls := .type "range", data := .fields #[.int lo t, .int hi u, .int 1 v] }, toks := tk } := by
  refine wpAny_pyIter_range (IsRange.new ..) (small_one h1 h2 h3 h4) ?_
  have I1 : Inv X pins σ H { s with heap := s.heap.push { cls := .type "range", data := .fields #[.int lo t, .int hi u, .int 1 v] }, toks := tk } := I.kept fun b o e => Heap.get?_push_of_some _ e
  refine ⟨(s.heap.push { cls := .type "range", data := .fields #[.int lo t, .int hi u, .int 1 v] }).objs.size, [(s.heap.push { cls := .type "range", data := .fields #[.int lo t, .int hi u, .int 1 v] }).objs.size], _, _, H, rfl,
    I1.kept (t' := tk) fun b o e => Heap.get?_push_of_some _ e, A8 _ lo (hi - lo).toNat, ?_, fun b hb => ?_, q⟩
  · have e1 : lo + ((0 : Nat) : Int) * 1 = lo := by simp
    have e2 : (((hi - lo).toNat : Nat) : Int) - ((0 : Nat) : Int) = Builtin.Range.rangeSize lo hi 1 := by rw [rangeSize_one]; split <;> omega
    show IsRangeIter _ _ (lo + ((0 : Nat) : Int) * 1) ((((hi - lo).toNat : Nat) : Int) - ((0 : Nat) : Int)) 1
    rw [e1, e2]
    exact Heap.get?_push_size _ rfl
  · have e : b = (s.heap.push { cls := .type "range", data := .fields #[.int lo t, .int hi u, .int 1 v] }).objs.size := by simpa using hb
    subst e
    exact I1.CZ (Nat.le_refl _) (I1.hok.fresh (Nat.le_refl _))
noncomputable def Ja (ta : TA) : TI := fun σ H R => ta σ H fun vs H1 => ∃ j : Int, vs = [.int j] ∧ -(2 ^ 62) ≤ j ∧ j < 2 ^ 62 ∧ R (yl 0 j.toNat) H1
theorem xu {a : Expr} {ta : TA} {p pos : Pos} (hg : Gl X "range") (hm : X.mg "range" = none) (ha : PA X [a] ta) (hs : starEach [a] X.env = [(false, eval a X.env)] := by rfl) : PI X tg (.Call (.Name "range" p) [a] [] pos) (Ja ta) := by
  intro pins s σ H R I h
  refine Call_ (mV I hg hm boot_range (PyProof.Rows.callWith_type1 (gX (ha pos pins s σ H _ I h) fun us s1 ⟨vs, H1, I1, r1, q1⟩ => ?_) hs rfl))
  obtain ⟨j, e, q1, q2, q⟩ := q1
  subst e
  cases r1 with
  | cons r rr =>
    cases rr
    obtain ⟨t, rfl⟩ := r
    exact call_range_1 (Ek I1 (by omega) (by omega) q1 q2 (by simpa using q))
noncomputable def O5 (wi : TI) (g : TG) (tb : TS) : TS := fun D σ H => wi σ H fun J H1 => ∃ W : Nat → Nat → St → Hp → Prop, (∃ m, W 0 m σ H1) ∧ ∀ i m σ H, W i m σ H →
  (J.stop i H ∧ D.nx σ H) ∨ (J.go i H ∧ ∃ N : St → Hp → Prop, (∀ σ' H', N σ' H' → ∃ m', m' < m ∧ W (i + 1) m' σ' H') ∧ ∀ x H', J.xr i H x H' → g x σ H' fun σ2 H2 => tb { D with nx := N, ct := N, bk := D.nx } σ2 H2)
noncomputable def tD (fp : List Addr) (h : Heap) : List (Addr × Obj) := fp.filterMap fun b => (h.get? b).map fun o => (b, o)
theorem mW {fp : List Addr} {h : Heap} {b : Addr} {o : Obj} (hb : b ∈ fp) (e : h.get? b = some o) : (b, o) ∈ tD fp h := List.mem_filterMap.mpr ⟨b, hb, by rw [e]; rfl⟩
theorem C1 {fp : List Addr} {h : Heap} {p : Addr × Obj} (hp : p ∈ tD fp h) : p.1 ∈ fp ∧ h.get? p.1 = some p.2 := by
  obtain ⟨b, hb, e⟩ := List.mem_filterMap.mp hp
  cases q : h.get? b with
  | none => rw [q] at e; cases e
  | some o =>
    rw [q] at e
    have e' : (b, o) = p := Option.some.inj e
    subst e'
    exact ⟨hb, q⟩
theorem Inv.pinned {pins : List (Addr × Obj)} {σ : St} {H : Hp} {s : Shared} {fp : List Addr} (I : Inv X pins σ H s) (hf : ∀ b ∈ fp, tB X pins H b) (ho : ∀ b ∈ fp, ∃ o, s.heap.get? b = some o ∧ ∀ v, o.data ≠ .cell v) : Inv X (pins ++ tD fp s.heap) σ H s :=
  I.yj fun p hp => (List.mem_append.mp hp).elim (fun z => I.pin p (List.mem_append_right _ z)) fun z => by
    obtain ⟨hb, e⟩ := C1 z
    obtain ⟨f0, f1, f2, _⟩ := hf p.1 hb
    obtain ⟨o, e', d⟩ := ho p.1 hb
    rw [e] at e'; cases e'
    exact ⟨e, f0, f1, f2, d⟩
theorem Inv.vp {pins pl : List (Addr × Obj)} {σ : St} {H : Hp} {s : Shared} (I : Inv X (pins ++ pl) σ H s) : Inv X pins σ H s := I.yj fun p hp => I.pin p (List.mem_append_right _ (List.mem_append_left _ hp))
theorem A9 {iter : Expr} {body : List Stmt} {wi : TI} {g : TG} {tb : TS} {pos : Pos} (hp : PassesOwn (model X.prog X.w) X.A X.env X.xe) (hc : X.calm = true) (hi : PI X tg iter wi) (hg : PG X tg g) (hb : A5 X body tb)
    (hs : ∀ x, foldedSetIterable iter X.env x = pure x := by intro _; rfl) : PS X (.For tg iter body [] pos) (O5 wi g tb) := by
  intro pins s σ H D I h
  refine wpAny_For (gX (hi pins s σ H _ I h) fun v s1 h1 => gX h1 fun itv s2 h2 => ?_) hs
  obtain ⟨it, fp, tn, J, H2, e, I2, T, st2, f2, W, ⟨m0, w0⟩, turn⟩ := h2
  subst e
  have J0 : ∀ {H' : Hp}, (∀ b ∈ fp, H' b = none) → ∀ b ∈ fp, tB X pins H' b := fun hn b hb => ⟨hn b hb, (f2 b hb).2⟩
  refine codeAny_forLoop_any (fun n s' => ∃ i σ' H', Inv X pins σ' H' s' ∧ tn i s'.heap ∧ (∀ b ∈ fp, H' b = none) ∧ W i n σ' H') ?_ m0 ⟨0, σ, H2, I2, st2, fun b hb => (f2 b hb).1, w0⟩
  rintro n s3 ⟨i, σ3, H3, I3, st3, Rt, w3⟩
  rcases turn i n σ3 H3 w3 with ⟨stop, qn⟩ | ⟨go, N, hN, step⟩
  · refine wpAny_passesOwn hp (gX (T.done X rfl rfl rfl hc i pins s3 σ3 H3 X.xe I3 (J0 Rt) st3 stop) fun r s4 ⟨hr, I4⟩ => ?_)
    subst hr
    exact wpAny_execs_nil ⟨σ3, H3, I4, qn⟩
  · refine wpAny_passesOwn hp (gX (T.item X rfl rfl rfl hc i pins s3 σ3 H3 X.xe I3 (J0 Rt) st3 go) fun r s4 ⟨u, hr, h4⟩ => ?_)
    subst hr
    refine wpAny_passesOwn hp (gX h4 fun _ s5 ⟨x, H5, I5, r5, y5, LG, Oj⟩ => ?_)
    have TQ := I5.pinned (J0 Oj) (T.obj _ _ LG)
    refine wpAny_passesOwn hp (gX (hg _ s5 σ3 H5 x u _ TQ r5 (step x H5 y5)) fun _ s6 ⟨σ6, H6, I6, q6⟩ => ?_)
    refine wpAny_passesOwn hp (gX (hb _ s6 σ6 H6 _ I6 q6) fun f s7 q7 => ?_)
    have again : ∀ {σ7 : St} {H7 : Hp}, Inv X (pins ++ tD fp s5.heap) σ7 H7 s7 → N σ7 H7 → ∃ m, m < n ∧ ∃ i σ' H', Inv X pins σ' H' s7 ∧ tn i s7.heap ∧ (∀ b ∈ fp, H' b = none) ∧ W i m σ' H' := fun {σ7 H7} I7 n7 => by
      obtain ⟨m', hm, w7⟩ := hN σ7 H7 n7
      refine ⟨m', hm, i + 1, σ7, H7, I7.vp, T.keep _ _ _ LG fun b hb o e => (I7.pin (b, o) (List.mem_append_right _ (List.mem_append_right _ (mW hb e)))).1, fun b hb => ?_, w7⟩
      obtain ⟨o, e, d⟩ := T.obj _ _ LG b hb
      exact (I7.pin (b, o) (List.mem_append_right _ (List.mem_append_right _ (mW hb e)))).2.1
    cases f with
    | next => obtain ⟨σ7, H7, I7, n7⟩ := q7; exact again I7 n7
    | cont => obtain ⟨σ7, H7, I7, n7⟩ := q7; exact again I7 n7
    | brk => obtain ⟨σ7, H7, I7, q7⟩ := q7; exact ⟨σ7, H7, I7.vp, q7⟩
    | ret v => obtain ⟨x7, σ7, H7, I7, r7, q7⟩ := q7; exact ⟨x7, σ7, H7, I7.vp, r7, q7⟩
end
end L2
namespace L2
open PySem PySem.Spec PyProof.Rows
noncomputable abbrev R2 := V → V → Hp → VK → Prop
noncomputable def qy (X : Cx) (f : Value → Value → Sem Value) (r : R2) : Prop :=
  ∀ (pins : List (Addr × Obj)) (s : Shared) (σ : St) (H : Hp) (x y : V) (v u : Value) (Q : VK), Inv X pins σ H s → RelV x v → RelV y u → r x y H Q →
    wpAny (model X.prog X.w) X.A (f v u) (EP X pins σ Q) X.xe s
noncomputable def O6 (X : Cx) (f : Value → Sem Value) (r : V → Hp → VK → Prop) : Prop :=
  ∀ (pins : List (Addr × Obj)) (s : Shared) (σ : St) (H : Hp) (x : V) (v : Value) (Q : VK), Inv X pins σ H s → RelV x v → r x H Q →
    wpAny (model X.prog X.w) X.A (f v) (EP X pins σ Q) X.xe s
noncomputable def jC (X : Cx) (f : Value) (r : List V → Hp → VK → Prop) : Prop :=
  ∀ (pins : List (Addr × Obj)) (s : Shared) (σ : St) (H : Hp) (xs : List V) (us : List Value) (Q : VK), Inv X pins σ H s → Vals xs us → r xs H Q →
    wpAny (model X.prog X.w) X.A (call f us) (EP X pins σ Q) X.xe s
noncomputable def O7 (X : Cx) (r : V → Hp → (Bool → Hp → Prop) → Prop) : Prop :=
  ∀ (pins : List (Addr × Obj)) (s : Shared) (σ : St) (H : Hp) (x : V) (v : Value) (Q : Bool → Hp → Prop), Inv X pins σ H s → RelV x v → r x H Q →
    wpAny (model X.prog X.w) X.A (truthy v) (TP X pins σ Q) X.xe s
noncomputable def Mc (r : R2) (ta tb : TE) : TE := fun σ H Q => ta σ H fun x H1 => tb σ H1 fun y H2 => r x y H2 Q
noncomputable def TR (r : V → Hp → VK → Prop) (ta : TE) : TE := fun σ H Q => ta σ H fun x H1 => r x H1 Q
noncomputable def rI (C : Int → Int → Prop) (g : Int → Int → V) : R2 := fun x y H Q => ∃ i j, x = .int i ∧ y = .int j ∧ C i j ∧ Q (g i j) H
noncomputable def J1 (g : Int → Int → V) : R2 := fun x y H Q => ∃ i j, x = .int i ∧ y = .int j ∧ Q (g i j) H
noncomputable def rU (g : Int → V) : V → Hp → VK → Prop := fun x H Q => ∃ i, x = .int i ∧ Q (g i) H
section
variable {X : Cx} {a b c : Expr} {ta tb tc : TE} {pos : Pos}
theorem J2 (ha : PE X a ta) (hb : PE X b tb) {pins : List (Addr × Obj)} {s : Shared} {σ : St} {H : Hp} {R : V → V → Hp → Prop} (I : Inv X pins σ H s)
    (h : ta σ H fun x H1 => tb σ H1 fun y H2 => R x y H2) {Q : Value → Shared → Prop} {f : Value → Value → Sem Value}
    (hf : ∀ v u s2 x y H2, Inv X pins σ H2 s2 → RelV x v → RelV y u → R x y H2 → wpAny (model X.prog X.w) X.A (f v u) Q X.xe s2) :
    wpAny (model X.prog X.w) X.A (eval a X.env) (fun v s₁ => wpAny (model X.prog X.w) X.A (eval b X.env) (fun u s₂ => wpAny (model X.prog X.w) X.A (f v u) Q X.xe s₂) X.xe s₁) X.xe s := by
  refine gX (ha pins s σ H _ I h) fun v s1 ⟨x, H1, I1, r1, q1⟩ => ?_
  refine gX (hb pins s1 σ H1 _ I1 q1) fun u s2 ⟨y, H2, I2, r2, q2⟩ => ?_
  exact hf v u s2 x y H2 I2 r1 r2 q2
theorem Me {op : Operator} {r : R2} (ho : qy X (binaryOp op) r) (ha : PE X a ta) (hb : PE X b tb) : PE X (.BinOp a op b pos) (Mc r ta tb) := by
  intro pins s σ H Q I h
  exact wpAny_BinOp (J2 ha hb I h fun v u s2 x y H2 I2 rx ry q => ho pins s2 σ H2 x y v u Q I2 rx ry q)
theorem Mf {op : UnaryOp} {r : V → Hp → VK → Prop} (ho : O6 X (unaryOp op) r) (ha : PE X a ta) : PE X (.UnaryOp op a pos) (TR r ta) := by
  intro pins s σ H Q I h
  exact UnaryOp_ (gX (ha pins s σ H _ I h) fun v s1 ⟨x, H1, I1, r1, q1⟩ => ho pins s1 σ H1 x v Q I1 r1 q1)
theorem Ol {f : Value → Value → Sem Value} {C : Int → Int → Prop} {g : Int → Int → Int}
    (rule : ∀ (i j : Int) (t u : Tok) (s : Shared) (Q : Value → Shared → Prop) (E : Value → Shared → Prop), C i j → Q (.int (g i j) s.toks) { s with toks := s.toks + 1 } → wpAny (model X.prog X.w) X.A (f (.int i t) (.int j u)) Q E s) :
    qy X f (rI C fun i j => .int (g i j)) := by
  intro pins s σ H x y v u Q I rx ry h
  obtain ⟨i, j, rfl, rfl, hc, q⟩ := h
  obtain ⟨t, rfl⟩ := rx
  obtain ⟨t', rfl⟩ := ry
  exact rule i j t t' s _ _ hc ⟨.int (g i j), H, I.tok _, ⟨_, rfl⟩, q⟩
theorem Mg {f : Value → Value → Sem Value} {g : Int → Int → Int}
    (rule : ∀ (i j : Int) (t u : Tok) (s : Shared) (Q : Value → Shared → Prop) (E : Value → Shared → Prop), Q (.int (g i j) s.toks) { s with toks := s.toks + 1 } → wpAny (model X.prog X.w) X.A (f (.int i t) (.int j u)) Q E s) :
    qy X f (J1 fun i j => .int (g i j)) := by
  intro pins s σ H x y v u Q I rx ry h
  obtain ⟨i, j, rfl, rfl, q⟩ := h
  obtain ⟨t, rfl⟩ := rx
  obtain ⟨t', rfl⟩ := ry
  exact rule i j t t' s _ _ ⟨.int (g i j), H, I.tok _, ⟨_, rfl⟩, q⟩
theorem Mh {f : Value → Value → Sem Value} {g : Int → Int → Bool}
    (rule : ∀ (i j : Int) (t u : Tok) (s : Shared) (Q : Value → Shared → Prop) (E : Value → Shared → Prop), Q (.bool (g i j)) s → wpAny (model X.prog X.w) X.A (f (.int i t) (.int j u)) Q E s) :
    qy X f (J1 fun i j => .bl (g i j)) := by
  intro pins s σ H x y v u Q I rx ry h
  obtain ⟨i, j, rfl, rfl, q⟩ := h
  obtain ⟨t, rfl⟩ := rx
  obtain ⟨t', rfl⟩ := ry
  exact rule i j t t' s _ _ ⟨.bl (g i j), H, I, rfl, q⟩
noncomputable def O8 (i j : Int) : Prop := 0 < j ∧ j < 1073741824
noncomputable def J3 (i j : Int) : Prop := (-(2 ^ 64) < i ∧ i < 2 ^ 64) ∨ (-(2 ^ 64) < j ∧ j < 2 ^ 64)
theorem J3.ok {i j : Int} (h : J3 i j) : IntMulOk i j := by
  rcases h with ⟨h1, h2⟩ | ⟨h1, h2⟩
  · exact .of_left (intBits_le_64 h1 h2)
  · exact .of_right (intBits_le_64 h1 h2)
theorem J4 : qy X (binaryOp .Add) (J1 fun i j => .int (i + j)) := Mg fun _ _ _ _ _ _ _ q => add_int q
theorem J5 : qy X (binaryOp .Sub) (J1 fun i j => .int (i - j)) := Mg fun _ _ _ _ _ _ _ q => sub_int q
theorem J6 : qy X (binaryOp .Mult) (rI J3 fun i j => .int (i * j)) := Ol fun _ _ _ _ _ _ _ hc q => mul_int q hc.ok
theorem G7 : qy X (binaryOp .FloorDiv) (rI O8 fun i j => .int (i / j)) := Ol fun i j _ _ _ _ _ hc q => by
  have h1 : (0 : Int) < j := hc.1
  have h2 : j < 1073741824 := hc.2
  exact floordiv_int (by omega) (by rw [Int.fdiv_eq_ediv_of_nonneg i (by omega)]; exact q) (.inl (PyProof.noPylong_small (by omega)))
theorem J7 : qy X (binaryOp .Mod) (rI (fun _ j => 0 < j) fun i j => .int (i % j)) := Ol fun i j _ _ _ _ _ hc q => by
  have h1 : (0 : Int) < j := hc
  exact mod_int' (by omega) (by rw [Int.fmod_eq_emod_of_nonneg i (by omega)]; exact q)
theorem TU {f : Value → Sem Value} {g : Int → Int}
    (rule : ∀ (i : Int) (t : Tok) (s : Shared) (Q : Value → Shared → Prop) (E : Value → Shared → Prop), Q (.int (g i) s.toks) { s with toks := s.toks + 1 } → wpAny (model X.prog X.w) X.A (f (.int i t)) Q E s) :
    O6 X f (rU fun i => .int (g i)) := by
  intro pins s σ H x v Q I rx h
  obtain ⟨i, rfl, q⟩ := h
  obtain ⟨t, rfl⟩ := rx
  exact rule i t s _ _ ⟨.int (g i), H, I.tok _, ⟨_, rfl⟩, q⟩
theorem J8 : O6 X (unaryOp .USub) (rU fun i => .int (-i)) := TU fun _ _ _ _ _ q => neg_int q
end
section
variable {X : Cx} {a b c : Expr} {ta tb tc : TE} {pos : Pos}
theorem J9 {pins : List (Addr × Obj)} {σ : St} {H : Hp} {s : Shared} {Q : VK} {k k' : Bool} (I : Inv X pins σ H s) (q : Q (.bl k) H) (e : k = k') : EP X pins σ Q (.bool k') s := by
  subst e
  exact ⟨.bl k, H, I, rfl, q⟩
theorem Mi : qy X (compareOp .Lt) (J1 fun i j => .bl (decide (i < j))) := Mh fun _ _ _ _ _ _ _ q => lt_int q
theorem Mj : qy X (compareOp .Gt) (J1 fun i j => .bl (decide (j < i))) := Mh fun _ _ _ _ _ _ _ q => gt_int q
theorem C2 : qy X (compareOp .In) (fun x y H Q => ∃ i j, x = .str i ∧ y = .str j ∧ Q (.bl (!(Builtin.Str.occurrences j i 0 j.length 1).isEmpty)) H) := by
  intro pins s σ H x y v u Q I rx ry h
  obtain ⟨i, j, rfl, rfl, q⟩ := h
  obtain ⟨t, rfl⟩ := rx
  obtain ⟨t', rfl⟩ := ry
  exact in_str (J9 I q rfl)
theorem Ka (b : Expr) {op : CmpOp} (h : op ≠ .In := by decide) (h2 : op ≠ .NotIn := by decide) : behindInMarks op b = false := by
  have e1 : (op == CmpOp.In) = false := by cases op <;> first | rfl | exact absurd rfl h
  have e2 : (op == CmpOp.NotIn) = false := by cases op <;> first | rfl | exact absurd rfl h2
  cases b <;> simp [behindInMarks, e1, e2]
theorem G8 {op : CmpOp} {r : R2} (ho : qy X (compareOp op) r) (ha : PE X a ta) (hb : PE X b tb) (hm : behindInMarks op b = false) : PE X (.Compare a [op] [b] pos) (Mc r ta tb) := by
  intro pins s σ H Q I h
  exact wpAny_Compare1 (J2 ha hb I h fun v u s2 x y H2 I2 rx ry q => ho pins s2 σ H2 x y v u Q I2 rx ry q) hm
noncomputable def Ml (t : TE) : TT := fun σ H Q => t σ H fun x H' => ∃ k, x = .bl k ∧ Q k H'
theorem G9 {op : CmpOp} {r : R2} (ho : qy X (compareOp op) r) (ha : PE X a ta) (hb : PE X b tb) (hm : behindInMarks op b = false) : PT X (.Compare a [op] [b] pos) (Ml (Mc r ta tb)) := by
  intro pins s σ H Q I h
  refine wpAny_isTrue_Compare1 (gX (ha pins s σ H _ I h) fun v s1 ⟨x, H1, I1, r1, q1⟩ => gX (hb pins s1 σ H1 _ I1 q1) fun u s2 ⟨y, H2, I2, r2, q2⟩ =>
    gX (ho pins s2 σ H2 x y v u _ I2 r1 r2 q2) fun c s3 ⟨z, H3, I3, r3, k, e, q3⟩ => ?_) hm
  subst e
  cases r3
  exact wpAny_truthy_bool ⟨H3, I3, q3⟩
noncomputable def Kc (K : PySem.W.Frag) (x : V) (H : Hp) (k : Bool) : Prop :=
  match x with
  | .jd => k = false
  | .bl b => k = b
  | .int i => k = (i != 0)
  | .str y => y.length ≤ sizeLine ∧ k = ((y.length : Int) != 0)
  | .LS y => y.size ≤ sizeLine ∧ k = ((y.size : Int) != 0)
  | .ref p => (∃ xs, qx K H p xs ∧ k = !xs.isEmpty) ∨ (∃ xs, pQ K H p xs ∧ k = !xs.isEmpty) ∨ ∃ kvs, H p = some (.dK kvs) ∧ k = !kvs.isEmpty
  | _ => False
theorem Ba {κ : Type} {kvs : List (κ × V)} {vs : List (κ × Value)} (r : KV kvs vs) : (!vs.isEmpty) = !kvs.isEmpty := by
  cases r <;> rfl
theorem vq {xs : List V} {its : List Value} (r : Vals xs its) : (!its.toArray.isEmpty) = !xs.isEmpty := by
  cases r <;> simp
theorem qA : (sizeLine : Nat) < 2 ^ 63 := by rw [sizeLine_eq]; decide
theorem Kd : O7 X (fun x H Q => ∃ k, Kc X.K x H k ∧ Q k H) := by
  intro pins s σ H x v Q I rx h
  obtain ⟨k, e, q⟩ := h
  have hl := qA
  have hs : sizeLine = 16777216 := sizeLine_eq
  cases x with
  | jd =>
    cases rx
    have e' : k = false := e
    subst e'
    exact truthy_none ⟨H, I, q⟩
  | bl b =>
    cases rx
    have e' : k = b := e
    subst e'
    exact wpAny_truthy_bool ⟨H, I, q⟩
  | int i =>
    obtain ⟨t, rfl⟩ := rx
    have e' : k = (i != 0) := e
    subst e'
    exact PySem.P.truthy_int ⟨H, I, q⟩
  | str y =>
    obtain ⟨t, rfl⟩ := rx
    obtain ⟨hy, e'⟩ : y.length ≤ sizeLine ∧ k = ((y.length : Int) != 0) := e
    subst e'
    exact PySem.P.truthy_str (by omega) ⟨H, I.tok _, q⟩
  | LS y =>
    obtain ⟨t, rfl⟩ := rx
    obtain ⟨hy, e'⟩ : y.size ≤ sizeLine ∧ k = ((y.size : Int) != 0) := e
    subst e'
    exact PySem.W.truthy_bytes (by omega) ⟨H, I.tok _, q⟩
  | ref p =>
    cases rx
    have e' : (∃ xs, qx X.K H p xs ∧ k = !xs.isEmpty) ∨ (∃ xs, pQ X.K H p xs ∧ k = !xs.isEmpty) ∨ ∃ kvs, H p = some (.dK kvs) ∧ k = !kvs.isEmpty := e
    rcases e' with ⟨xs, hx, e'⟩ | ⟨xs, hx, e'⟩ | ⟨kvs, hx, e'⟩
    · subst e'
      obtain ⟨its, r, pl, hz⟩ := I.list hx
      have hlen := r.length
      exact wpAny_truthy_list pl.isList (by simp only [List.size_toArray]; omega) ⟨H, I.tok _, by rw [vq r]; exact q⟩
    · subst e'
      obtain ⟨its, r, pl, hz⟩ := I.tuple hx
      have hlen := r.length
      exact truthy_tuple pl (by simp only [List.size_toArray]; omega) ⟨H, I.tok _, by rw [vq r]; exact q⟩
    · subst e'
      obtain ⟨hz, hS, vs, r, m⟩ : kvs.length ≤ sizeLine ∧ (p == sysModules) = false ∧ ∃ vs, KV kvs vs ∧ s.heap.DictOf (yi X.prog X.w) p vs := I.hok p _ hx
      have hlen : kvs.length = vs.length := Paired.length r
      exact wpAny_truthy_dict hS m (by omega) ⟨H, I.tok _, by rw [Ba r]; exact q⟩
  | _ => exact (show False from e).elim
theorem El (ha : PE X a ta) (he : ∀ whole, isTrue a X.env whole = (do let v ← whole; standAt a.pos; holding [v] (truthy v))) :
    PT X a (fun σ H Q => ta σ H fun x H' => ∃ k, Kc X.K x H' k ∧ Q k H') := by
  intro pins s σ H Q I h
  exact isTrue_plain (gX (ha pins s σ H _ I h) fun v s1 ⟨x, H1, I1, r1, q1⟩ => Kd pins s1 σ H1 x v Q I1 r1 q1) (he _)
theorem Bb : qy X (binaryOp .Add) (fun x y H Q => ∃ i j, x = .str i ∧ y = .str j ∧ i.length + j.length ≤ sizeLine ∧ Q (.str (i ++ j)) H) := by
  intro pins s σ H x y v u Q I rx ry h
  obtain ⟨i, j, rfl, rfl, hz, q⟩ := h
  obtain ⟨t, rfl⟩ := rx
  obtain ⟨t', rfl⟩ := ry
  exact nZ I.os.2 (add_str (fun t' tk ht => ⟨.str (i ++ j), H, I.tok _, ⟨_, rfl⟩, q⟩) hz)
theorem vals1 {x : V} {us : List Value} (r : Vals [x] us) : ∃ u, us = [u] ∧ RelV x u := by
  cases r with
  | cons r1 r2 => cases r2; exact ⟨_, rfl, r1⟩
theorem vals2 {x y : V} {us : List Value} (r : Vals [x, y] us) : ∃ u w', us = [u, w'] ∧ RelV x u ∧ RelV y w' := by
  cases r with
  | cons r1 r2 =>
    cases r2 with
    | cons r3 r4 => cases r4; exact ⟨_, _, rfl, r1, r3⟩
theorem Em : jC X (.builtin "abs") (fun xs H Q => ∃ i, xs = [.int i] ∧ Q (.int (if i < 0 then -i else i)) H) := by
  intro pins s σ H xs us Q I r h
  obtain ⟨i, rfl, q⟩ := h
  obtain ⟨u, rfl, t, rfl⟩ := vals1 r
  exact nZ I.os.2 <| call_abs_int fun u tk ht => ⟨.int (if i < 0 then -i else i), H, I.tok _, ⟨_, rfl⟩, q⟩
theorem C3 (hc : X.calm = true) : jC X (.builtin "min") (fun xs H Q => ∃ i j, xs = [.int i, .int j] ∧ Q (.int (if j < i then j else i)) H) := by
  intro pins s σ H xs us Q I r h
  obtain ⟨i, j, rfl, q⟩ := h
  obtain ⟨u, w', rfl, ⟨t, rfl⟩, ⟨t', rfl⟩⟩ := vals2 r
  refine nZ I.os.2 <| min_two_ints (I.ok.hd hc) fun h' tk k ht => ⟨_, H, I.kept k, ?_, q⟩
  by_cases hj : j < i
  · rw [if_pos hj, if_pos hj]; exact ⟨_, rfl⟩
  · rw [if_neg hj, if_neg hj]; exact ⟨_, rfl⟩
end
end L2
namespace L2
open PySem PySem.Spec PyProof.Rows
structure Mm (h : Heap) (x dx C : Addr) (mA : Str → Option Value) : Prop where
  obj : h.get? x = some (PySem.W.instObj C dx)
  ns : h.Ns1 dx mA
  ne : dx ≠ x
theorem C4 {h : Heap} {dx : Addr} {mA : Str → Option Value} (n : h.Ns1 dx mA) : ∃ od, h.get? dx = some od ∧ ∀ name, PySem.W.lookIn name od = some (mA name) := by
  obtain ⟨o, es, ep, ho, hd, hk, _, hm⟩ := n
  refine ⟨o, ho, fun name => ?_⟩
  have e := hm name
  unfold nsFind findBy at e
  rw [← Array.find?_toList] at e
  unfold PySem.W.lookIn
  rw [hd]
  dsimp only
  split
  · rename_i y q
    rw [q] at e
    exact congrArg some e
  · rename_i q
    rw [q] at e
    have a : es.toList.any (·.refKey) = false := by
      rw [List.any_eq_false]
      intro y hy
      obtain ⟨z, t, hkey⟩ := hk y (Array.mem_toList_iff.mp hy)
      simp [DictEntry.refKey, hkey]
    have a' : ¬ es.toList.any (·.refKey) = true := by rw [a]; exact Bool.false_ne_true
    rw [if_neg a']
    exact congrArg some e
theorem Mm.look {h : Heap} {x dx C : Addr} {mA : Str → Option Value} (I : Mm h x dx C mA) : ∃ od, PySem.W.InstAt h x (PySem.W.instObj C dx) C (some od) ∧ ∀ name, PySem.W.lookIn name od = some (mA name) :=
  let ⟨od, ho, hl⟩ := C4 I.ns
  ⟨od, ⟨I.obj, rfl, rfl, ho⟩, hl⟩
section
variable {prog : Program} {w : World} {A : Around} {E : Value → Shared → Prop} {s : Shared} {K : PySem.W.Frag} {x dx C f : Addr} {mA : Str → Option Value} {name : Str} {v : Value}
end
section
variable {P : Program} {w : World} {H H' : Hp} {h h' : Heap} {a C dx : Addr} {fs fs' : List (Str × V)}
end
structure TV (K : PySem.W.Frag) (C : Addr) : Prop where
  pg : PySem.W.plainGet K C Str.empty = true
  hd : PySem.W.hasDictIn K C = true
  po : PySem.W.plainOver K C = true
  sa : PySem.W.findIn K (.ref C) "__setattr__" = some (some (.builtin "object.__setattr__"))
structure Ws (K : PySem.W.Frag) (C : Addr) (f : Str) (v : V) (u : Value) : Prop where
  at_ : PySem.W.findIn K (.ref C) f = some (some u)
  rel : RelV v u
  get : PySem.W.specialIn K u "__get__" = some none
  cp : PySem.W.copiedNames.contains f = false
structure Meth (K : PySem.W.Frag) (C : Addr) (m : Str) (f : Addr) : Prop where
  at_ : PySem.W.findIn K (.ref C) m = some (some (.ref f))
  fn : PySem.W.isFn K (.ref f) = true
  kp : PySem.W.keepIn K (.ref f) = true
section
variable {X : Cx} {pins : List (Addr × Obj)} {σ : St} {H : Hp} {s : Shared} {a C dx : Addr} {fs : List (Str × V)} {f : Str} {v : V} {A : Around} {E : Value → Shared → Prop}
theorem Inv.made (I : Inv X pins σ H s) : Inv X pins σ (upd (upd H s.heap.objs.size (.own (s.heap.objs.size + 1))) (s.heap.objs.size + 1) (.ins C s.heap.objs.size []))
    { s with heap := (s.heap.push PySem.W.emptyDict).push (PySem.W.instObj C s.heap.objs.size) } := by
  have e1 : (s.heap.push PySem.W.emptyDict).get? s.heap.objs.size = some PySem.W.emptyDict := Heap.get?_push_size s.heap rfl
  have e2 : ((s.heap.push PySem.W.emptyDict).push (PySem.W.instObj C s.heap.objs.size)).get? (s.heap.objs.size + 1) = some (PySem.W.instObj C s.heap.objs.size) := by
    have := Heap.get?_push_size (s.heap.push PySem.W.emptyDict) (o := PySem.W.instObj C s.heap.objs.size) rfl
    rwa [Heap.size_push] at this
  have e3 : (s.heap.push PySem.W.emptyDict).Ns s.heap.objs.size (fun _ => none) := ⟨PySem.W.emptyDict, #[], _, e1, rfl, (fun e he => absurd he (by simp)), fun _ => rfl⟩
  have I1 := I.laid (a := s.heap.objs.size) (o := .own (s.heap.objs.size + 1)) (h' := s.heap.push PySem.W.emptyDict) (t' := s.toks) (fun b u q => Heap.get?_push_of_some _ q) (Nat.le_refl _) ⟨_, e1⟩
  refine I1.laid (a := s.heap.objs.size + 1) (o := .ins C s.heap.objs.size []) (t' := s.toks) (fun b u q => Heap.get?_push_of_some _ q) (Nat.le_of_eq (Heap.size_push _ _)) ?_
  have ne : s.heap.objs.size ≠ s.heap.objs.size + 1 := Nat.ne_of_lt (Nat.lt_succ_self _)
  refine ⟨by rw [aK ne, cg], Nat.zero_le _, ne, e2, fun _ => none, (Heap.Ns1.of_empty e3).at fun o q => Heap.get?_push_of_some _ q, fun _ => True.intro, fun y hy => absurd rfl hy⟩
end
section
variable {X : Cx} {o e value : Expr} {f : Str} {pos pos' tpos : Pos} {ta tv : TE}
end
section
variable {X : Cx} {pins : List (Addr × Obj)} {σ : St} {H : Hp} {s : Shared} {A : Around} {E : Value → Shared → Prop} {Q : Value → Shared → Prop} {c : Value} {b : Bool}
inductive vt (K : PySem.W.Frag) (H : Hp) : V → Value → Prop where
  | jd : vt K H .jd (.type "NoneType")
  | bl (x : Bool) : vt K H (.bl x) (.type "bool")
  | int (i : Int) : vt K H (.int i) (.type "int")
  | str (x : Str) : vt K H (.str x) (.type "str")
  | LU (x : UInt64) : vt K H (.LU x) (.type "float")
  | lst {a : Addr} {xs : List V} (e : H a = some (.lst xs)) : vt K H (.ref a) (.type "list")
  | gY {a : Addr} {o : Obj} {xs : List V} (e : H a = some (.gY o (.lst xs))) : vt K H (.ref a) (.type "list")
  | tup {a : Addr} {xs : List V} (e : H a = some (.tup xs)) : vt K H (.ref a) (.type "tuple")
  | dK {a : Addr} {kvs : List (Key × V)} (e : H a = some (.dK kvs)) : vt K H (.ref a) (.type "dict")
  | dT {a : Addr} {kvs : List (List Key × V)} (e : H a = some (.dT kvs)) : vt K H (.ref a) (.type "dict")
  | ins {a C dx : Addr} {fs : List (Str × V)} (e : H a = some (.ins C dx fs)) (cl : TV K C) (ha : PySem.W.findIn K (.ref C) "__class__" = some (some (.builtin "object.__class__")))
      (hn : PySem.W.specialIn K (.builtin "object.__class__") "__get__" = some (some (.builtin "getset_descriptor.__get__"))) (htk : PySem.W.takesIn K (.builtin "object.__class__") = some true)
      (hm : PySem.W.mroIn K C (.type "object") = some true) : vt K H (.ref a) (.ref C)
end
end L2
namespace L2
open PySem PySem.Spec PyProof.Rows
structure gm (k : Nat) (A : Around) : Prop where
  hd : A.handled = none
  dp : A.depth + 3 * k + 5 < recursionLimit
  un : A.units + 16 * k + 600 < cLine
theorem gm.mono {j k : Nat} {A : Around} (r : gm k A) (h : j ≤ k) : gm j A := ⟨r.hd, by have := r.dp; omega, by have := r.un; omega⟩
theorem gm.deeper {k : Nat} {A : Around} (r : gm (k + 1) A) (env : Env) : gm k (A.deeper env) :=
  ⟨r.hd, by have := r.dp; show A.depth + 1 + 3 * k + 5 < _; omega, by have := r.un; show A.units + 3 + 16 * k + 600 < _; omega⟩
theorem gm.in1 {k : Nat} {A : Around} (r : gm (k + 1) A) : gm k A.in1 :=
  ⟨r.hd, by have := r.dp; show A.depth + 3 * k + 5 < _; omega, by have := r.un; show A.units + 1 + 16 * k + 600 < _; omega⟩
theorem Bc {A : Around} {C : Addr} {us : List Value} {kw : List (Str × Value)} : (A.under (.builtin "type.__call__" ⟨.ref C :: us, kw⟩)).depth = A.depth + 1 := by
  first | rfl | simp [Around.under, Code.weight, Code.isCreation, Code.isGuard, Code.isCaller, Code.frames, Code.isFrame, guardIds]
theorem Bd {A : Around} {C : Addr} {us : List Value} {kw : List (Str × Value)} : (A.under (.builtin "type.__call__" ⟨.ref C :: us, kw⟩)).units = A.units + 1 := by
  first | rfl | simp [Around.under, Code.cUnits, Code.frames, Code.isFrame]
theorem gm.make {k : Nat} {A : Around} (r : gm (k + 1) A) (C : Addr) (us : List Value) (kw : List (Str × Value)) : gm k (A.under (.builtin "type.__call__" ⟨.ref C :: us, kw⟩)) :=
  ⟨r.hd, by have := r.dp; rw [Bc]; omega, by have := r.un; rw [Bd]; omega⟩
theorem gm.depth {k : Nat} {A : Around} (r : gm k A) : A.depth < recursionLimit := by have := r.dp; omega
theorem gm.units {k : Nat} {A : Around} (r : gm k A) : A.units + 64 < cLine := by have := r.un; omega
noncomputable def Mn : TA := fun _ H Q => Q [] H
noncomputable def En (ta : TE) (tr : TA) : TA := fun σ H Q => ta σ H fun x H1 => tr σ H1 fun xs H2 => Q (x :: xs) H2
section
variable {X : Cx} {e : Expr} {es : List Expr} {te : TE} {t : TA} {pos : Pos}
theorem Eo : PA X [] Mn := fun _ _ _ _ H Q I h => Calls.spliced_nil ⟨[], H, I, .nil, h⟩
theorem ym (ha : PE X e te) (hr : PA X es t) (hs : starEach (e :: es) X.env = (false, eval e X.env) :: starEach es X.env := by rfl) : PA X (e :: es) (En te t) := by
  intro pos pins s σ H Q I h
  rw [hs]
  show wpAny _ _ (spliced ((false, eval e X.env) :: backTo pos (starEach es X.env))) _ _ s
  refine Calls.spliced_cons (gX (ha pins s σ H _ I h) fun u s1 ⟨x, H1, I1, r1, q1⟩ => ?_)
  exact gX (hr pos pins s1 σ H1 _ I1 q1) fun us s2 ⟨xs, H2, I2, r2, q2⟩ => ⟨x :: xs, H2, I2, .cons r1 r2, q2⟩
noncomputable def O9 (t : TA) : TE := fun σ H Q => t σ H fun xs H1 => xs.length ≤ sizeLine ∧ ∀ p, H1 p = none → Q (.ref p) (upd H1 p (.tup xs))
noncomputable def Pa (t : TA) : TE := fun σ H Q => t σ H fun xs H1 => xs.length ≤ sizeLine ∧ ∀ p, H1 p = none → Q (.ref p) (upd H1 p (.lst xs))
theorem Ke {x1} (h : PA X es t) : PE X (.Tuple es x1 pos) (O9 t) := by
  intro pins s σ H Q I hq
  refine wpAny_Tuple_spliced (gX (h pos pins s σ H _ I hq) fun us s1 ⟨xs, H1, I1, r, z, q⟩ => ⟨by rw [← r.length]; exact z, ?_⟩)
  have hf : H1 s1.heap.objs.size = none := I1.hok.fresh (Nat.le_refl _)
  refine ⟨.ref s1.heap.objs.size, upd H1 s1.heap.objs.size (.tup xs), I1.laid (t' := s1.toks) (fun b u e => Heap.get?_push_of_some _ e) (Nat.le_refl _) ?_, rfl, q _ hf⟩
  exact ⟨z, us, r, ⟨_, Heap.get?_push_size _ rfl, rfl, _, rfl⟩⟩
theorem Kf (h : PA X es t) : PE X (.List es pos) (Pa t) := by
  intro pins s σ H Q I hq
  refine wpAny_List_spliced (gX (h pos pins s σ H _ I hq) fun us s1 ⟨xs, H1, I1, r, z, q⟩ => ⟨by rw [← r.length]; exact z, ?_⟩)
  have hf : H1 s1.heap.objs.size = none := I1.hok.fresh (Nat.le_refl _)
  refine ⟨.ref s1.heap.objs.size, upd H1 s1.heap.objs.size (.lst xs), I1.laid (t' := s1.toks) (fun b u e => Heap.get?_push_of_some _ e) (Nat.le_refl _) ?_, rfl, q _ hf⟩
  exact ⟨z, us, 0, r, Heap.get?_push_size _ rfl⟩
end
noncomputable abbrev Sp := List V → Hp → VK → XK → Prop
noncomputable abbrev uW := List Env → Hp → Shared → XK → Value → Shared → Prop
structure tE (P : Program) (w : World) (K : PySem.W.Frag) (mg : Str → Option Value) (base : Heap) (A : Around) (outer : List Env) (s : Shared) (H : Hp) : Prop where
  frames : A.frames = some outer
  mod : Mod K mg base
  bs : ∀ b o, base.get? b = some o → s.heap.get? b = some o ∧ H b = none
  GK : base.objs.size ≤ s.heap.objs.size
  rC : s.heap.FunFrames base outer
  GV : ∀ b ∈ frs outer, H b = none
  hok : pN P w H s.heap
  bare : AllBare s.gens
noncomputable def CE (outer : List Env) (P : Program) (w : World) (H : Hp) (s : Shared) (Q : VK) (u : Value) (s' : Shared) : Prop :=
  ∃ v H', (s'.os = s.os ∧ 0 < s'.toks) ∧ AllBare s'.gens ∧ Un (frs outer) [] H H' s.heap s'.heap ∧ pN P w H' s'.heap ∧ RelV v u ∧ Q v H'
noncomputable def CR (CX : uW) (outer : List Env) (P : Program) (w : World) (H : Hp) (s : Shared) (Q : VK) (E : XK) (r : Result) (s' : Shared) : Prop :=
  match r with
  | .ok (.ret u) => CE outer P w H s Q u s'
  | .ok _ => False
  | .error e => CX outer H s E e s'
structure bC (P : Program) (w : World) (K : PySem.W.Frag) (mg : Str → Option Value) (base : Heap) (CX : uW) (k : Nat) (f : Addr) (fd : FuncData) (ps : List Str) (sp : Sp) : Prop where
  len : ∀ vs H Q E, sp vs H Q E → vs.length = ps.length
  run : ∀ (A : Around) (outer : List Env) (s : Shared) (H : Hp) (args : Args) (us : List Value) (vs : List V) (Q : VK) (E : XK), gm k A → tE P w K mg base A outer s H → 0 < s.toks → BindsTo s fd args (ps.zip us) → Vals vs us → sp vs H Q E →
    codeAny (model P w) A (.call (.ref f) args) (CR CX outer P w H s Q E) s
structure rE (P : Program) (w : World) (K : PySem.W.Frag) (mg : Str → Option Value) (base : Heap) (CX : uW) (k : Nat) (f : Addr) (fd : FuncData) (ps : List Str) (sp : Sp) : Prop where
  len : ∀ vs H Q E, sp vs H Q E → vs.length = ps.length
  run : ∀ (A : Around) (outer : List Env) (s : Shared) (H : Hp) (args : Args) (us : List Value) (vs : List V) (Q : VK) (E : XK), gm k A → tE P w K mg base A outer s H → BindsTo s fd args (ps.zip us) → Vals vs us → sp vs H Q E →
    codeAny (model P w) A (.call (.ref f) args) (CR CX outer P w H s Q E) s
theorem rE.imp {P : Program} {w : World} {K : PySem.W.Frag} {mg : Str → Option Value} {base : Heap} {CX : uW} {k : Nat} {f : Addr} {fd : FuncData} {ps : List Str} {sp Mp : Sp} (F : rE P w K mg base CX k f fd ps sp)
    (h : ∀ vs H Q E, Mp vs H Q E → sp vs H Q E) : rE P w K mg base CX k f fd ps Mp :=
  ⟨fun vs H Q E q => F.len vs H Q E (h _ _ _ _ q), fun A outer s H args us vs Q E hr he hb hv hs => F.run A outer s H args us vs Q E hr he hb hv (h _ _ _ _ hs)⟩
theorem bC.imp {P : Program} {w : World} {K : PySem.W.Frag} {mg : Str → Option Value} {base : Heap} {CX : uW} {k : Nat} {f : Addr} {fd : FuncData} {ps : List Str} {sp Mp : Sp} (F : bC P w K mg base CX k f fd ps sp)
    (h : ∀ vs H Q E, Mp vs H Q E → sp vs H Q E) : bC P w K mg base CX k f fd ps Mp :=
  ⟨fun vs H Q E q => F.len vs H Q E (h _ _ _ _ q), fun A outer s H args us vs Q E hr he ht hb hv hs => F.run A outer s H args us vs Q E hr he ht hb hv (h _ _ _ _ hs)⟩
theorem tE.make {P : Program} {w : World} {K : PySem.W.Frag} {mg : Str → Option Value} {base : Heap} {A : Around} {outer : List Env} {s : Shared} {H : Hp} (e : tE P w K mg base A outer s H) (C : Addr) (us : List Value) (kw : List (Str × Value)) :
    tE P w K mg base (A.under (.builtin "type.__call__" ⟨.ref C :: us, kw⟩)) outer s H := ⟨by first | exact e.frames | (simpa [Around.under, Code.envs, Code.isFrame, pushEnvs] using e.frames), e.mod, e.bs, e.GK, e.rC, e.GV, e.hok, e.bare⟩
theorem tE.in1 {P : Program} {w : World} {K : PySem.W.Frag} {mg : Str → Option Value} {base : Heap} {A : Around} {outer : List Env} {s : Shared} {H : Hp} (e : tE P w K mg base A outer s H) :
    tE P w K mg base A.in1 outer s H := ⟨e.frames, e.mod, e.bs, e.GK, e.rC, e.GV, e.hok, e.bare⟩
section
variable {X : Cx} {pins : List (Addr × Obj)} {σ : St} {H : Hp} {s s' : Shared}
theorem Inv.jD (I : Inv X pins σ H s) : tE X.prog X.w X.K X.mg X.base X.A X.stack s H :=
  ⟨I.ok.frames, I.ok.mod, I.bs, Nat.le_trans I.ok.GK I.sz, I.stack, I.uV, I.hok, I.bare⟩
theorem Inv.after {Q : VK} {u : Value} (I : Inv X pins σ H s) (h : CE X.stack X.prog X.w H s Q u s') : EP X pins σ Q u s' := by
  obtain ⟨v, H', os, bare, un, hok, r, q⟩ := h
  obtain ⟨hh, g, d, t, os'⟩ := s'
  have ht : 0 < t := os.2
  obtain rfl : os' = s.os := os.1
  exact ⟨v, H', I.call (h' := hh) (g' := g) (d' := d) (t' := t) (ch := []) un hok bare (fun b z => absurd z (by simp)), r, q⟩
end
noncomputable def Binds (K : PySem.W.Frag) (fd : FuncData) (ps : List Str) (ds : List Value) : Prop :=
  ∀ (s : Shared) (us : List Value), K.In s.heap → (us ++ ds).length = ps.length → BindsTo s fd ⟨us, []⟩ (ps.zip (us ++ ds))
theorem Binds.all {K : PySem.W.Frag} {fd : FuncData} {ps : List Str} (h : ∀ us : List Value, us.length = ps.length → bindArgs fd ⟨us, []⟩ = pure (ps.zip us)) : Binds K fd ps [] := fun s us _ hl => by
  rw [List.append_nil] at hl ⊢
  exact .of_eq (h us hl)
section
variable {X : Cx} {CX : uW} {k : Nat} {f C : Addr} {fd : FuncData} {ps : List Str} {sp : Sp} {Wt : List V} {ds : List Value} {E : XK} {x m : Str} {p pos apos : Pos} {e o : Expr} {es : List Expr} {ta : TE} {t : TA}
structure Mk (K : PySem.W.Frag) (C f : Addr) : Prop where
  makes : PySem.W.makesIn K C = true
  init : PySem.W.findIn K (.ref C) "__init__" = some (some (.ref f))
  fn : PySem.W.isFn K (.ref f) = true
  kp : PySem.W.keepIn K (.ref C) = true
end
section
variable {X : Cx} {CX : uW} {k : Nat} {f C : Addr} {fd : FuncData} {ps ks : List Str} {sp : Sp} {E : XK} {x m : Str} {p pos apos kpos : Pos} {e o : Expr} {es : List Expr} {kws : List Keyword} {te ta : TE} {t tk : TA} {nm : Option Str}
structure Pb (K : PySem.W.Frag) (fd : FuncData) (ps ks : List Str) (g : List Value → List Value → List Value) (gV : List V → List V → List V) : Prop where
  to : ∀ (s : Shared) (us ws : List Value), K.In s.heap → (g us ws).length = ps.length → BindsTo s fd ⟨us, ks.zip ws⟩ (ps.zip (g us ws))
  rel : ∀ {vs : List V} {us : List Value} {zs : List V} {ws : List Value}, Vals vs us → Vals zs ws → Vals (gV vs zs) (g us ws)
variable {g : List Value → List Value → List Value} {gV : List V → List V → List V}
end
structure cN (N P : List Str) (sc : Scope) : Prop where
  kind : sc.kind = .function
  co : sc.isCoroutine = false
  gen : sc.isGenerator = false
  nd : N.Nodup
  pre : N.take P.length = P
  par : ∀ x ∈ P, sc.names.lookup x = some .local ∨ sc.names.lookup x = some .cell
  Kg : ∀ y ∈ sc.names, y.2 ≠ .free
theorem xw {kindOf : Str → Option NameKind} {x : Str} : ∀ {binds : List (Str × Value)} {m : Str → Option Value}, (∀ v, (x, v) ∉ binds) → bindL kindOf binds m x = m x
  | [], _, _ => rfl
  | (n, v) :: r, m, h => by
    unfold bindL
    rw [xw fun w hw => h w (List.mem_cons_of_mem _ hw)]
    split
    · have : x ≠ n := by rintro rfl; exact h v List.mem_cons_self
      simp [this]
    · rfl
theorem xx {kindOf : Str → Option NameKind} {x : Str} : ∀ {binds : List (Str × Value)} {m : Str → Option Value}, (∀ v, (x, v) ∉ binds) → bindC kindOf binds m x = m x
  | [], _, _ => rfl
  | (n, v) :: r, m, h => by
    unfold bindC
    rw [xx fun w hw => h w (List.mem_cons_of_mem _ hw)]
    split
    · rfl
    · have : x ≠ n := by rintro rfl; exact h v List.mem_cons_self
      simp [this]
theorem xy {kindOf : Str → Option NameKind} {x : Str} {v : Value} : ∀ {P : List Str} {vs : List Value} {i : Nat} {m : Str → Option Value}, P.Nodup → P[i]? = some x → vs[i]? = some v → kindOf x = some .local →
    bindL kindOf (P.zip vs) m x = some v
  | [], _, _, _, _, h, _, _ => by simp at h
  | _ :: _, [], _, _, _, _, h, _ => by simp at h
  | p :: P, w :: vs, 0, m, nd, h1, h2, hk => by
    simp at h1 h2; subst h1; subst h2
    show bindL kindOf ((p, w) :: P.zip vs) m p = _
    unfold bindL
    rw [xw fun v hv => (List.nodup_cons.mp nd).1 (List.of_mem_zip hv).1, if_pos hk]
    simp
  | p :: P, w :: vs, i + 1, m, nd, h1, h2, hk => by
    show bindL kindOf ((p, w) :: P.zip vs) m x = _
    unfold bindL
    exact xy (i := i) (List.nodup_cons.mp nd).2 (by simpa using h1) (by simpa using h2) hk
theorem xA {kindOf : Str → Option NameKind} {x : Str} {v : Value} : ∀ {P : List Str} {vs : List Value} {i : Nat} {m : Str → Option Value}, P.Nodup → P[i]? = some x → vs[i]? = some v → kindOf x ≠ some .local →
    bindC kindOf (P.zip vs) m x = some v
  | [], _, _, _, _, h, _, _ => by simp at h
  | _ :: _, [], _, _, _, _, h, _ => by simp at h
  | p :: P, w :: vs, 0, m, nd, h1, h2, hk => by
    simp at h1 h2; subst h1; subst h2
    show bindC kindOf ((p, w) :: P.zip vs) m p = _
    unfold bindC
    rw [xx fun v hv => (List.nodup_cons.mp nd).1 (List.of_mem_zip hv).1, if_neg hk]
    simp
  | p :: P, w :: vs, i + 1, m, nd, h1, h2, hk => by
    show bindC kindOf ((p, w) :: P.zip vs) m x = _
    unfold bindC
    exact xA (i := i) (List.nodup_cons.mp nd).2 (by simpa using h1) (by simpa using h2) hk
noncomputable def start (N : List Str) (vs : List V) : St := vs.map some ++ List.replicate (N.length - vs.length) none
noncomputable def jE (CX : uW) (P : Program) (w : World) (K : PySem.W.Frag) (mg : Str → Option Value) (base : Heap) (N : List Str) (qual : Str) (scope : Scope) (f : Addr) (cd : Value) (A : Around) (outer : List Env) (s : Shared) (H : Hp) (E : XK) : Cx where
  prog := P
  w := w
  K := K
  mg := mg
  base := base
  A := A.deeper (envOfC qual scope s.heap.objs.size f cd)
  N := N
  s₀ := s
  H₀ := H
  env := envOfC qual scope s.heap.objs.size f cd
  outer := outer
  stack := envOfC qual scope s.heap.objs.size f cd :: outer
  ex := []
  calm := true
  fn := fun _ => true
  pn := []
  xe := fun e s' => wpAny (model P w) (A.deeper (envOfC qual scope s.heap.objs.size f cd)) (leaving (envOfC qual scope s.heap.objs.size f cd) e) (fun _ s'' => CX outer H s E e s'') (fun e' s'' => CX outer H s E e' s'') s'
theorem zG {sc : Scope} {n : Nat} {x : Str} (h : sc.names.lookup x = some .cell) : ∃ c, (cellsFrom n sc.names []).lookup x = some c := by
  have q := PySem.W.cellsFrom_some sc.names n [] (.inl h)
  exact Option.isSome_iff_exists.mp q
theorem xB {CX : uW} {P : Program} {w : World} {K : PySem.W.Frag} {mg : Str → Option Value} {base : Heap} {N ps : List Str} {qual : Str} {scope : Scope} {f : Addr} {cd : Value} {A : Around} {outer : List Env} {s s1 : Shared} {H : Hp} {E : XK} {us : List Value} {vs : List V}
    (S : cN N ps scope) (hd : A.handled = none) (e0 : tE P w K mg base A outer s H) (hl : vs.length = ps.length) (r : Vals vs us)
    (x : InCallC s s.heap.objs.size (bindL (envOfC qual scope s.heap.objs.size f cd).kindOf (ps.zip us) fun _ => none) (cellsFrom (s.heap.objs.size + 1) scope.names []) (bindC (envOfC qual scope s.heap.objs.size f cd).kindOf (ps.zip us) fun _ => none) s1) {n : Nat} (ht : 0 < n) :
    Inv (jE CX P w K mg base N qual scope f cd A outer s H E) [] (start N vs) H { s1 with toks := n } := by
  have hpl : ps.length ≤ N.length := by have := congrArg List.length S.pre; rw [List.length_take] at this; omega
  obtain ⟨h1, tk, rfl, hk⟩ := x.done
  have Hf : ∀ b : Addr, b ∉ (jE CX P w K mg base N qual scope f cd A outer s H E).ex := fun b z => absurd (show b ∈ ([] : List Addr) from z) (by simp)
  refine ⟨⟨e0.mod, S.kind, rfl, rfl, Nat.le_refl _, fun y z c h1 h2 => ?_, fun y hy => ?_, fun y c _ h => ?_, fun _ => hd, Around.frames_deeper e0.frames, .inr ⟨rfl, rfl⟩, fun b z => absurd z (Hf b), e0.bs, e0.GK, fun b _ _ => Hf b, fun b z => absurd z (Hf b), e0.rC, e0.GV⟩,
    ⟨rfl, ht⟩, e0.bare, Un.kept hk, ⟨_, x.toInCall.ns, fun i y v h1 h2 h3 => ?_⟩, fun y c h => ⟨_, x.cell y c h⟩, e0.hok.fresh (Nat.le_refl _), fun y c h => ?_, fun p hp => absurd (show p ∈ ([] : List (Addr × Obj)) from hp) (by simp), e0.hok.kept hk, ?_⟩
  · exact name_of_addr x.apart (PySem.mem_of_lookup h1) (PySem.mem_of_lookup h2)
  · have hy : scope.names.lookup y = some .cell ∨ scope.names.lookup y = some .free := hy
    rcases hy with hy | hy
    · exact zG hy
    · exact absurd rfl (S.Kg _ (PySem.mem_of_lookup hy))
  · exact Nat.le_of_lt (x.above y c (PySem.mem_of_lookup h))
  · have hi : i < vs.length := by
      unfold start at h2
      by_cases hi : i < vs.length
      · exact hi
      · rw [List.getElem?_append_right (by simpa using hi)] at h2
        rw [List.getElem?_replicate] at h2
        split at h2 <;> cases h2
    have ha : vs[i]? = some v := by
      unfold start at h2
      rw [List.getElem?_append_left (by simpa using hi), List.getElem?_map] at h2
      cases e : vs[i]? with
      | none => rw [e] at h2; cases h2
      | some a => rw [e] at h2; cases h2; rfl
    obtain ⟨u, hu, rv⟩ := r.get ha
    have hp : ps[i]? = some y := by
      rw [← S.pre, List.getElem?_take_of_lt (by omega)]; exact h1
    have Om : ps.Nodup := by rw [← S.pre]; exact S.nd.sublist (List.take_sublist _ _)
    refine ⟨u, rv, ?_⟩
    rcases S.par y (List.mem_of_getElem? hp) with k | k
    · exact .inl ⟨k, xy Om hp hu k⟩
    · obtain ⟨c, e⟩ := zG (n := s.heap.objs.size + 1) k
      refine .inr ⟨.inl k, c, e, ?_⟩
      have q := x.cell y c e
      rw [xA Om hp hu (by show scope.names.lookup y ≠ _; rw [k]; decide)] at q
      exact q
  · exact .inl (e0.hok.fresh (Nat.le_of_lt (x.above y c (PySem.mem_of_lookup h))))
  · unfold start
    show _ = N.length
    rw [List.length_append, List.length_map, List.length_replicate]
    omega
theorem Mq {CX : uW} {P : Program} {w : World} {K : PySem.W.Frag} {mg : Str → Option Value} {base : Heap} {k : Nat} {f : Addr} {name qual : Str} {params : Arguments} {body : List Stmt} {scope : Scope} {dV kV doc pm cdv ct oc : Value} {an od : Option Addr}
    {osl : Array (Option Value)} {N ps : List Str} {sp : Sp} (lk : K.lookup f = some ⟨oc, od, .func (PySem.W.fnOf name qual params body scope dV kV doc pm an cdv ct), osl⟩) (hcd : PySem.W.codeIn K cdv qual = true) (S : cN N ps scope)
    (len : ∀ vs H Q E, sp vs H Q E → vs.length = ps.length)
    (hbody : ∀ (A : Around) (outer : List Env) (s : Shared) (H : Hp) (vs : List V) (Q : VK) (E : XK), gm k (A.deeper (envOfC qual scope s.heap.objs.size f cdv)) → sp vs H Q E →
      ∃ t, A5 (jE CX P w K mg base N qual scope f cdv A outer s H E) body t ∧ t { nx := fun _ H' => Q .jd H', rt := Q } (start N vs) H) :
    bC P w K mg base CX (k + 1) f (PySem.W.fnOf name qual params body scope dV kV doc pm an cdv ct) ps sp := by
  refine ⟨len, fun A outer s H args us vs Q E hr e0 htk hb r B0 => ?_⟩
  have hl := len _ _ _ _ B0
  have KX : K.In s.heap := e0.mod.IY.keeps fun b o e => (e0.bs b o e).1
  have lim : s.heap.NoLimit := e0.mod.nolimit.keeps fun b o e => (e0.bs b o e).1
  have hkind : ∀ y ∈ ps.zip us, scope.names.lookup y.1 = some .local ∨ (scope.names.lookup y.1 = some .cell ∧ ((cellsFrom (s.heap.objs.size + 1) scope.names []).lookup y.1).isSome = true) := fun ⟨n, v⟩ hy => by
    rcases S.par n (List.of_mem_zip hy).1 with q | q
    · exact .inl q
    · exact .inr ⟨q, PySem.W.cellsFrom_some _ _ _ (.inl q)⟩
  refine codeAny_call_function hr.depth (KX _ _ lk) rfl S.co S.gen rfl (PySem.W.codeRec_of KX hcd) (hb _ _ _ _ ?_)
  refine nZ htk (wpAny_newFunctionEnv_cells S.kind hkind fun env he s1 x => fun Kh => ?_)
  subst he
  refine ⟨lim.keeps x.toInCall.keep, codeAny_func ?_⟩
  obtain ⟨t, ht, hq⟩ := hbody A outer s H vs Q E (hr.deeper _) B0
  have I : Inv (jE CX P w K mg base N qual scope f cdv A outer s H E) [] (start N vs) H s1 := xB S hr.hd e0 hl r x (n := s1.toks) Kh
  refine wpAny_mono (ht [] s1 (start N vs) H _ I hq) (fun fl s' hs => ?_) fun e s' hs => hs
  have fin : ∀ {σ' : St} {H' : Hp} {v : V} {u : Value}, Inv (jE CX P w K mg base N qual scope f cdv A outer s H E) [] σ' H' s' → RelV v u → Q v H' → CE outer P w H s Q u s' :=
    fun {σ' H' v u} J rv q => ⟨v, H', J.os, J.bare, J.base, J.hok, rv, q⟩
  cases fl with
  | ret u =>
    obtain ⟨v, σ', H', J, rv, q⟩ := hs
    exact fin J rv q
  | next =>
    obtain ⟨σ', H', J, q⟩ := hs
    exact fin (v := V.jd) (u := Value.none) J rfl q
  | brk =>
    obtain ⟨_, _, _, q⟩ := hs
    exact False.elim q
  | cont =>
    obtain ⟨_, _, _, q⟩ := hs
    exact False.elim q
end L2
namespace L2
open PySem PySem.Spec PyProof.Rows
section
variable {X : Cx} {x : Str} {p pos : Pos} {e : Expr} {es : List Expr} {t : TA} {id T : String} {r : List V → Hp → VK → Prop}
noncomputable def Ru (r : List V → Hp → VK → Prop) (t : TA) : TE := fun σ H Q => t σ H fun vs H1 => r vs H1 Q
theorem Ep (hc : jC X (.builtin id) r) (hg : Gl X x) (hm : X.mg x = none) (hv : bootBuiltins x = some (.builtin id)) (ha : PA X (e :: es) t) (hn : x ≠ "__name__" := by decide) (hdb : (x == ("__debug__" : Str)) = false := by decide)
    (he : starEach (e :: es) X.env = (false, eval e X.env) :: starEach es X.env := by rfl) (hpl : (backTo pos (starEach es X.env)).any (·.1) = false := by rfl) : PE X (.Call (.Name x p) (e :: es) [] pos) (Ru r t) := by
  intro pins s σ H Q I h
  refine wpAny_Call_Name_kw (mV I hg hm hv ?_ hn hdb)
  exact PyProof.Rows.callWith_builtin1 (gX (ha pos pins s σ H _ I h) fun us s1 ⟨vs, H1, I1, r1, q1⟩ => hc pins s1 σ H1 vs us Q I1 r1 q1) he hpl
theorem C5 (hc : jC X (.type T) r) (hg : Gl X x) (hm : X.mg x = none) (hv : bootBuiltins x = some (.type T)) (ha : PA X (e :: es) t) (hn : x ≠ "__name__" := by decide) (hdb : (x == ("__debug__" : Str)) = false := by decide)
    (he : starEach (e :: es) X.env = (false, eval e X.env) :: starEach es X.env := by rfl) (hpl : (backTo pos (starEach es X.env)).any (·.1) = false := by rfl) : PE X (.Call (.Name x p) (e :: es) [] pos) (Ru r t) := by
  intro pins s σ H Q I h
  refine wpAny_Call_Name_kw (mV I hg hm hv ?_ hn hdb)
  exact PyProof.Rows.callWith_type1 (gX (ha pos pins s σ H _ I h) fun us s1 ⟨vs, H1, I1, r1, q1⟩ => hc pins s1 σ H1 vs us Q I1 r1 q1) he hpl
end
end L2
namespace HT
open PySem PyProof.Rows
section
open PySem.SeqAt
open PySem.AutoSeq1 (wpAny_loadPart')
open PySem.MeetsSeq PySem.MeetsSeq2 PySem.MeetsSeq3
end
section
variable {prog : Program} {w : World} {A : Around} {E : Value → Shared → Prop} {s : Shared}
theorem Hg {t b : Addr} {vs ws : List Value} {Q : Value → Shared → Prop} (ht : IsTup s.heap t vs.toArray) (hb : IsTup s.heap b ws.toArray) (hv : vs ≠ [])
    (h1 : ws = [] → Q (.ref t) s) (h2 : ws ≠ [] → Q (.ref s.heap.objs.size) { s with heap := s.heap.push { cls := .type "tuple", data := .seq (vs ++ ws).toArray } })
    (hsz : vs.length + ws.length ≤ sizeLine) : wpAny (model prog w) A (binaryOp .Add (.ref t) (.ref b)) Q E s := by
  obtain ⟨⟨cls, dd, data, sl⟩, ho, hc, n, hd⟩ := id ht
  obtain ⟨⟨Kl, dd2, data2, sl2⟩, ho2, hc2, n2, hd2⟩ := id hb
  simp only at hc hd hc2 hd2
  subst hc hd hc2 hd2
  have e : vs.toArray ++ ws.toArray = (vs ++ ws).toArray := by simp
  by_cases hw : ws = []
  · exact concat_meets ⟨_, ho, rfl⟩ ⟨_, ho2, rfl⟩ noFill_tuple_add seq_tuple_add PySem.F.slot_tuple_add PySem.F.entry_tuple_add (PySem.F.args_tuple_add_2 _ _)
      (tuple_addW1 t b vs.toArray ws.toArray n n2 dd dd2 sl sl2 (by simpa using hv) (by simp [hw])) ⟨ho, ho2, h1 hw⟩
  · refine concat_meets ⟨_, ho, rfl⟩ ⟨_, ho2, rfl⟩ noFill_tuple_add seq_tuple_add PySem.F.slot_tuple_add PySem.F.entry_tuple_add (PySem.F.args_tuple_add_2 _ _)
      (tuple_addW2 t b vs.toArray ws.toArray n n2 dd dd2 sl sl2 (by simpa using hv) (by simpa using hw) (by rw [List.size_toArray, List.size_toArray]; exact hsz)) ⟨ho, ho2, ?_⟩
    rw [e]
    exact h2 hw
noncomputable def gZ (n d : Nat) : Option Int → Nat
  | none => d
  | some v => if v < 0 then (v + (n : Int)).toNat else min v.toNat n
theorem Er (n d : Nat) : gZ n d none = d := rfl
theorem Km (n d : Nat) (hd : d ≤ n) (o : Option Int) : gZ n d o ≤ n := by
  cases o with
  | none => exact hd
  | some v =>
    show (if v < 0 then (v + (n : Int)).toNat else min v.toNat n) ≤ n
    by_cases hv : v < 0
    · rw [if_pos hv]; omega
    · rw [if_neg hv]; exact Nat.min_le_right _ _
theorem B3 (v : Int) (n d : Nat) : (if v < 0 then max (v + (n : Int)) 0 else min v (n : Int)) = ((gZ n d (some v) : Nat) : Int) := by
  show (if v < 0 then max (v + (n : Int)) 0 else min v (n : Int)) = (((if v < 0 then (v + (n : Int)).toNat else min v.toNat n) : Nat) : Int)
  by_cases hv : v < 0
  · simp only [if_pos hv]; omega
  · simp only [if_neg hv]; omega
theorem Be (lo hi : Option Int) (n : Nat) : Builtin.Slice.sliceAdjust lo hi 1 (n : Int) = (((gZ n 0 lo : Nat) : Int), ((gZ n n hi : Nat) : Int)) := by
  have h1 : ¬ ((1 : Int) < 0) := by omega
  unfold Builtin.Slice.sliceAdjust
  simp only [h1, if_false]
  refine Prod.ext ?_ ?_
  · cases lo with
    | none => rfl
    | some v => exact B3 v n 0
  · cases hi with
    | none => rfl
    | some v => exact B3 v n n
theorem Bf (i j : Nat) : Builtin.Slice.slicePlaces (i : Int) (j : Int) 1 = j - i := by
  unfold Builtin.Slice.slicePlaces
  have h1 : (1 : Int) > 0 := by omega
  simp only [h1, if_true, Int.ediv_one]
  split <;> omega
theorem vz {v : Value} {o : Option Int} {Q : Option Int → Shared → Prop} (p : IsPart v o) (h : Q o s) : wpAny (model prog w) A (Builtin.Slice.slicePartIndex v) Q E s := by
  cases p with
  | none => exact slicePart_none h
  | int i t => exact slicePart_int h
theorem tF {sl : Addr} {vl vu : Value} {lo hi : Option Int} {n : Nat} {Q : Int × Int × Nat → Shared → Prop} (hs : s.heap.IsSliceOf sl vl vu .none) (pl : IsPart vl lo) (pu : IsPart vu hi)
    (h : Q (((gZ n 0 lo : Nat) : Int), 1, gZ n n hi - gZ n 0 lo) s) : wpAny (model prog w) A (Builtin.Slice.sliceApplied (.ref sl) (pure (n : Int))) Q E s := by
  obtain ⟨os, hos, hcs, hds⟩ := id hs
  unfold Builtin.Slice.sliceApplied Builtin.Slice.sliceFields
  refine wpAny_bind (wpAny_bind (wpAny_field hos hds (x := vl) rfl (wpAny_bind (wpAny_field hos hds (x := vu) rfl (wpAny_bind (wpAny_field hos hds (x := .none) rfl (wpAny_pure ?_)))))))
  refine wpAny_bind (slicePart_none ?_)
  show wpAny _ _ (if ((1 : Int) == 0) = true then _ else _) _ _ s
  rw [if_neg (by decide)]
  refine wpAny_bind (vz pl (wpAny_bind (vz pu (wpAny_bind (wpAny_pure ?_)))))
  show wpAny _ _ (match Builtin.Slice.sliceAdjust lo hi 1 (n : Int) with | (lo, hi) => pure (lo, (1 : Int), Builtin.Slice.slicePlaces lo hi 1)) _ _ s
  rw [Be lo hi n]
  show wpAny _ _ (pure (((gZ n 0 lo : Nat) : Int), (1 : Int), Builtin.Slice.slicePlaces ((gZ n 0 lo : Nat) : Int) ((gZ n n hi : Nat) : Int) 1)) _ _ s
  rw [Bf]
  exact wpAny_pure h
theorem Es (xs : Array Value) (i k : Nat) : ((List.range k).filterMap fun (m : Nat) => xs[((i : Int) + (m : Int) * 1).toNat]?).toArray = ((xs.toList.drop i).take k).toArray := by
  have e : (fun (m : Nat) => xs[((i : Int) + (m : Int) * 1).toNat]?) = fun m => xs[i + m]? := by
    funext m
    have : ((i : Int) + (m : Int) * 1).toNat = i + m := by omega
    rw [this]
  rw [e]
  have := pick_run xs i k
  rw [List.filterMap_map] at this
  have e2 : ((fun x => xs[x]?) ∘ fun x => i + x) = fun m => xs[i + m]? := rfl
  rw [e2] at this
  rw [this]
theorem rF {t sl : Addr} {items : Array Value} {vl vu : Value} {lo hi : Option Int} {Q : Value → Shared → Prop} (ht : IsTup s.heap t items) (hs : s.heap.IsSliceOf sl vl vu .none) (pl : IsPart vl lo) (pu : IsPart vu hi)
    (hw : ¬ (gZ items.size 0 lo = 0 ∧ gZ items.size items.size hi = items.size))
    (h : Q (.ref s.heap.objs.size) { s with heap := s.heap.push { cls := .type "tuple", data := .seq ((items.toList.drop (gZ items.size 0 lo)).take (gZ items.size items.size hi - gZ items.size 0 lo)).toArray } })
    (hsz : items.size ≤ sizeLine) : wpAny (model prog w) A (getItem (.ref t) (.ref sl)) Q E s := by
  have B4 : sizeOk (.seq ((items.toList.drop (gZ items.size 0 lo)).take (gZ items.size items.size hi - gZ items.size 0 lo)).toArray) := by
    show ((items.toList.drop (gZ items.size 0 lo)).take (gZ items.size items.size hi - gZ items.size 0 lo)).toArray.size ≤ sizeLine
    rw [List.size_toArray, List.length_take, List.length_drop, Array.length_toList]
    omega
  have hj : gZ items.size items.size hi ≤ items.size := Km _ _ (Nat.le_refl _) hi
  obtain ⟨os, hos, hcs, hds⟩ := id hs
  have TX : s.TypeIs (.ref sl) "slice" := ⟨os, hos, hcs⟩
  unfold getItem
  try with_reducible refine wpAny_holding ?_
  first | refine wpAny_bind (wpAny_pure ?_) | skip
  refine wpAny_bind (wpAny_sequenceKey ht.typeIs (by decide) ?_)
  refine wpAny_bind (wpAny_callSpecial?_slot (name := Str.ofString "__getitem__") ht.typeIs PyProof.Rows.slot_tuple_getitem
    (wpAny_call_entry PyProof.Rows.slot_tuple_getitem ht.typeIs entry_tuple_getitem ?_ (args_tuple_getitem _ _)))
  show wpAny _ _ (Builtin.Tuple.tupleItemsOf (.ref t) >>= _) _ _ s
  refine wpAny_bind (tupleItemsOf_ ht ?_)
  refine wpAny_bind (wpAny_typeOf TX ?_)
  rw [if_pos (by decide)]
  refine wpAny_bind (tF hs pl pu ?_)
  have hno : ¬ ((((gZ items.size 0 lo : Nat) : Int) == 0 && (1 : Int) == 1 && (gZ items.size items.size hi - gZ items.size 0 lo) == items.size) = true) := by
    intro q
    rw [Bool.and_eq_true, Bool.and_eq_true] at q
    have q1 : ((gZ items.size 0 lo : Nat) : Int) = 0 := eq_of_beq q.1.1
    have q2 : gZ items.size items.size hi - gZ items.size 0 lo = items.size := eq_of_beq q.2
    exact hw ⟨by omega, by omega⟩
  show wpAny _ _ (if (((gZ items.size 0 lo : Nat) : Int) == 0 && (1 : Int) == 1 && (gZ items.size items.size hi - gZ items.size 0 lo) == items.size) = true then _ else _) _ _ s
  rw [if_neg hno, Es]
  first
    | exact wpAny_bind (m := Builtin.Tuple.tupleExact _) (wpAny_newObj_type (wpAny_pure ⟨_, rfl, wpAny_pure h⟩) B4)
    | exact wpAny_bind (m := Builtin.Tuple.tupleExact _) (wpAny_newObj_type (wpAny_bind (wpAny_pure (wpAny_pure ⟨_, rfl, wpAny_pure h⟩))) B4)
    | exact wpAny_bind (wpAny_bind (m := Builtin.Tuple.tupleExact _) (wpAny_newObj_type (wpAny_pure (wpAny_pure ⟨_, rfl, wpAny_pure h⟩)) B4))
    | exact wpAny_bind (wpAny_bind (m := Builtin.Tuple.tupleExact _) (wpAny_newObj_type (wpAny_pure ⟨_, rfl, wpAny_pure h⟩) B4))
end
end HT
namespace L2
open PySem PySem.Spec PyProof.Rows
noncomputable abbrev TO := St → Hp → (Option Int → Hp → Prop) → Prop
noncomputable def PO (X : Cx) (e : Option Expr) (t : TO) : Prop :=
  ∀ (pins : List (Addr × Obj)) (s : Shared) (σ : St) (H : Hp) (Q : Option Int → Hp → Prop), Inv X pins σ H s → t σ H Q →
    wpAny (model X.prog X.w) X.A (evalPart e X.env) (fun u s' => ∃ o H', Inv X pins σ H' s' ∧ IsPart u o ∧ Q o H') X.xe s
noncomputable def Hh : TO := fun _ H Q => Q none H
noncomputable def Mr (t : TE) : TO := fun σ H Q => t σ H fun x H1 => ∃ i, x = .int i ∧ Q (some i) H1
section
variable {X : Cx} {e : Expr} {te : TE} {lo hi : Option Expr} {tl th : TO} {pos p2 : Pos}
theorem Hi : PO X none Hh := by
  intro pins s σ H Q I h
  rw [evalPart_none]
  exact wpAny_pure ⟨none, H, I, .none, h⟩
theorem Hj (h : PE X e te) : PO X (some e) (Mr te) := by
  intro pins s σ H Q I hw
  rw [evalPart_some]
  refine gX (h pins s σ H _ I hw) fun u s1 ⟨x, H1, I1, r1, q1⟩ => ?_
  obtain ⟨i, rfl, q⟩ := q1
  obtain ⟨t, rfl⟩ := r1
  exact ⟨some i, H1, I1, .int i t, q⟩
noncomputable def Oo (X : Cx) (r : V → Option Int → Option Int → Hp → VK → Prop) : Prop :=
  ∀ (pins : List (Addr × Obj)) (s : Shared) (σ : St) (H : Hp) (x : V) (v vl vu : Value) (lo hi : Option Int) (sl : Addr) (Q : VK), Inv X pins σ H s → RelV x v → s.heap.IsSliceOf sl vl vu .none → IsPart vl lo → IsPart vu hi → r x lo hi H Q →
    ∃ T id, typeLookup (.type T) "__getitem__" = pure (some (.builtin id)) ∧ s.TypeIs v T ∧ wpAny (model X.prog X.w) X.A (getItem v (.ref sl)) (EP X pins σ Q) X.xe s
noncomputable def TY (r : V → Option Int → Option Int → Hp → VK → Prop) (te : TE) (tl th : TO) : TE := fun σ H Q => te σ H fun x H1 => tl σ H1 fun l H2 => th σ H2 fun u H3 => r x l u H3 Q
theorem Et {r : V → Option Int → Option Int → Hp → VK → Prop} (hr : Oo X r) (he : PE X e te) (hl : PO X lo tl) (hu : PO X hi th) : PE X (.Subscript e (.Slice lo hi none p2) pos) (TY r te tl th) := by
  intro pins s σ H Q I h
  refine Subscript_ (gX (he pins s σ H _ I h) fun v s1 ⟨x, H1, I1, r1, q1⟩ => ?_)
  refine wpAny_Slice (gX (hl pins s1 σ H1 _ I1 q1) fun vl s2 ⟨l, H2, I2, pl, q2⟩ => gX (hu pins s2 σ H2 _ I2 q2) fun vu s3 ⟨u, H3, I3, pu, q3⟩ => ?_)
  rw [evalPart_none]
  refine wpAny_pure ?_
  have I4 : Inv X pins σ H3 { s3 with heap := s3.heap.push { cls := .type "slice", data := .fields #[vl, vu, .none] } } := I3.kept (t' := s3.toks) fun b ob q => Heap.get?_push_of_some _ q
  obtain ⟨T, id, hT, ht, hg⟩ := hr pins { s3 with heap := s3.heap.push { cls := .type "slice", data := .fields #[vl, vu, .none] } } σ H3 x v vl vu l u s3.heap.objs.size Q I4 r1 (Heap.IsSliceOf.new ..) pl pu q3
  show wpAny (model X.prog X.w) X.A (subscriptTail e (.Slice lo hi none p2) v (.ref s3.heap.objs.size)) (EP X pins σ Q) X.xe { s3 with heap := s3.heap.push { cls := .type "slice", data := .fields #[vl, vu, .none] } }
  exact tail_any (ops := [.ref s3.heap.objs.size, v]) ht hT hg (by with_unfolding_all rfl)
noncomputable def zH (xs : List V) (lo hi : Option Int) : List V := (xs.drop (HT.gZ xs.length 0 lo)).take (HT.gZ xs.length xs.length hi - HT.gZ xs.length 0 lo)
theorem ud (xs : List V) (lo hi : Option Int) : (zH xs lo hi).length ≤ xs.length := by
  unfold zH
  rw [List.length_take, List.length_drop]
  omega
noncomputable def Pc (K : PySem.W.Frag) : V → Option Int → Option Int → Hp → VK → Prop := fun x lo hi H Q => ∃ a xs, x = .ref a ∧ pQ K H a xs ∧
  ¬ (HT.gZ xs.length 0 lo = 0 ∧ HT.gZ xs.length xs.length hi = xs.length) ∧ ∀ p, H p = none → Q (.ref p) (upd H p (.tup (zH xs lo hi)))
theorem Kn : Oo X (Pc X.K) := by
  intro pins s σ H x v vl vu lo hi sl Q I rx hs pl pu h
  obtain ⟨a, xs, rfl, hx, hw, q⟩ := h
  cases rx
  obtain ⟨its, r, ht, hz⟩ := I.tuple hx
  have hlen : its.toArray.size = xs.length := by rw [List.size_toArray]; exact r.length.symm
  refine ⟨"tuple", _, PyProof.Rows.slot_tuple_getitem.lookup, ht.typeIs, ?_⟩
  refine HT.rF ht hs pl pu (by rw [hlen]; exact hw) ?_ (by rw [hlen]; exact hz)
  rw [hlen]
  refine ⟨.ref s.heap.objs.size, _, I.laid (t' := s.toks) (o := .tup (zH xs lo hi)) (fun b ob q => Heap.get?_push_of_some _ q) (Nat.le_refl _) ?_, rfl, q _ (I.hok.fresh (Nat.le_refl _))⟩
  exact ⟨Nat.le_trans (ud xs lo hi) hz, _, (r.drop (HT.gZ xs.length 0 lo)).take (HT.gZ xs.length xs.length hi - HT.gZ xs.length 0 lo), IsTup.new _ _⟩
noncomputable def Ms (K : PySem.W.Frag) : R2 := fun x y H Q => ∃ a b xs ys, x = .ref a ∧ y = .ref b ∧ pQ K H a xs ∧ pQ K H b ys ∧ xs ≠ [] ∧ xs.length + ys.length ≤ sizeLine ∧
  (ys = [] → Q (.ref a) H) ∧ (ys ≠ [] → ∀ p, H p = none → Q (.ref p) (upd H p (.tup (xs ++ ys))))
theorem Vals.yo {xs : List V} {us : List Value} (r : Vals xs us) : us = [] ↔ xs = [] := by
  cases r with
  | nil => simp
  | cons _ _ => simp
theorem Hl : qy X (binaryOp .Add) (Ms X.K) := by
  intro pins s σ H x y v u Q I rx ry h
  obtain ⟨a, b, xs, ys, rfl, rfl, ha, hb, hx, hz, q1, q2⟩ := h
  cases rx
  cases ry
  obtain ⟨its, r1, p1, _⟩ := I.tuple ha
  obtain ⟨its2, r2, p2, _⟩ := I.tuple hb
  refine HT.Hg p1 p2 (fun z => hx (r1.yo.mp z)) (fun z => ⟨.ref a, H, I, rfl, q1 (r2.yo.mp z)⟩) (fun z => ?_) (by rw [← r1.length, ← r2.length]; exact hz)
  refine ⟨.ref s.heap.objs.size, _, I.laid (t' := s.toks) (o := .tup (xs ++ ys)) (fun b ob q => Heap.get?_push_of_some _ q) (Nat.le_refl _) ?_, rfl, q2 (fun w => z (r2.yo.mpr w)) _ (I.hok.fresh (Nat.le_refl _))⟩
  exact ⟨by rw [List.length_append]; exact hz, _, r1.append r2, IsTup.new _ _⟩
end
end L2
namespace L2
open PySem PySem.Spec PyProof.Rows
noncomputable def A0 (n : Nat) (i : Int) : Option Nat := if 0 ≤ i then (if i < n then some i.toNat else none) else if -(n : Int) ≤ i then some (i + n).toNat else none
noncomputable def pR {α : Type} (xs : List α) (i : Int) : Option α := (A0 xs.length i).bind fun j => xs[j]?
theorem B5 {n : Nat} {i : Int} {j : Nat} (h : A0 n i = some j) : seqIndex? i n = some j ∧ j < n ∧ -(n : Int) ≤ i ∧ i < n := by
  unfold A0 at h
  by_cases h0 : 0 ≤ i
  · rw [if_pos h0] at h
    by_cases h1 : i < n
    · rw [if_pos h1] at h
      have e : i.toNat = j := Option.some.inj h
      exact ⟨by rw [seqIndex_of h0 h1, e], by omega, by omega, h1⟩
    · rw [if_neg h1] at h; cases h
  · rw [if_neg h0] at h
    by_cases h1 : -(n : Int) ≤ i
    · rw [if_pos h1] at h
      have e : (i + n).toNat = j := Option.some.inj h
      exact ⟨by rw [seqIndex_neg (by omega) h1, e], by omega, h1, by omega⟩
    · rw [if_neg h1] at h; cases h
theorem yp {α : Type} {xs : List α} {i : Int} {v : α} (h : pR xs i = some v) : ∃ j, seqIndex? i xs.length = some j ∧ xs[j]? = some v ∧ j < xs.length ∧ -(xs.length : Int) ≤ i ∧ i < xs.length := by
  unfold pR at h
  cases e : A0 xs.length i with
  | none => rw [e] at h; cases h
  | some j =>
    rw [e] at h
    obtain ⟨h1, h2, h3, h4⟩ := B5 e
    exact ⟨j, h1, h, h2, h3, h4⟩
theorem B6 {α : Type} {xs : List α} {j : Nat} {v : α} (h : xs[j]? = some v) : pR xs (j : Int) = some v := by
  have hj : j < xs.length := (List.getElem?_eq_some_iff.mp h).1
  have e : A0 xs.length (j : Int) = some j := by
    unfold A0
    rw [if_pos (by omega), if_pos (by omega)]; simp
  unfold pR; rw [e]; exact h
theorem Eu {α : Type} (xs : List α) (v : α) : pR (xs ++ [v]) (-1) = some v := by
  have hl : (xs ++ [v]).length = xs.length + 1 := by simp
  have e : A0 (xs ++ [v]).length (-1) = some xs.length := by
    unfold A0
    rw [hl, if_neg (by decide), if_pos (by omega)]
    congr 1
    omega
  unfold pR
  rw [e]
  show (xs ++ [v])[xs.length]? = some v
  simp
noncomputable def uX (b : Expr) : Prop := ∀ o i, subscripted b false o i = operate [o, i] (getItem o i)
noncomputable def LH (X : Cx) (r : R2) : Prop :=
  ∀ (value slice : Expr) (pins : List (Addr × Obj)) (s : Shared) (σ : St) (H : Hp) (x y : V) (v u : Value) (Q : VK), Inv X pins σ H s → RelV x v → RelV y u → r x y H Q →
    subscripted slice false v u = operate [v, u] (getItem v u) → wpAny (model X.prog X.w) X.A (subscriptTail value slice v u) (EP X pins σ Q) X.xe s
noncomputable def Jb (X : Cx) (id : String) (r : V → List V → Hp → VK → Prop) : Prop :=
  ∀ (pins : List (Addr × Obj)) (s : Shared) (σ : St) (H : Hp) (x : V) (xs : List V) (v : Value) (us : List Value) (Q : VK), Inv X pins σ H s → RelV x v → Vals xs us → r x xs H Q →
    wpAny (model X.prog X.w) X.A (call (.builtin id) (v :: us)) (EP X pins σ Q) X.xe s
section
variable {X : Cx} {a b : Expr} {ta tb : TE} {pos : Pos}
theorem Mt {r : R2} (hr : LH X r) (ha : PE X a ta) (hb : PE X b tb) (hs : uX b) : PE X (.Subscript a b pos) (Mc r ta tb) := by
  intro pins s σ H Q I h
  exact Subscript_ (J2 ha hb I h fun v u s2 x y H2 I2 rx ry q => hr a b pins s2 σ H2 x y v u Q I2 rx ry q (hs _ _))
noncomputable def Pd (K : PySem.W.Frag) : R2 := fun x y H Q => ∃ p xs i v, x = .ref p ∧ y = .int i ∧ qx K H p xs ∧ pR xs i = some v ∧ Q v H
noncomputable def Pe (K : PySem.W.Frag) : R2 := fun x y H Q => ∃ p xs i v, x = .ref p ∧ y = .int i ∧ pQ K H p xs ∧ pR xs i = some v ∧ Q v H
noncomputable def Pf : R2 := fun x y H Q => ∃ z i c, x = .str z ∧ y = .int i ∧ z.length ≤ sizeLine ∧ pR z.cps.toList i = some c ∧ Q (.str ⟨#[c]⟩) H
theorem Ho : LH X (Pd X.K) := by
  intro value slice pins s σ H x y v u Q I rx ry h hs
  obtain ⟨p, xs, i, z, rfl, rfl, hq, he, q⟩ := h
  cases rx
  obtain ⟨t, rfl⟩ := ry
  obtain ⟨its, r, pl, hz⟩ := I.list hq
  obtain ⟨j, h1, h2, h3, h4, h5⟩ := yp he
  obtain ⟨w, ew, rw'⟩ := r.get h2
  have hl := r.length
  have hn := qA
  have fin : EP X pins σ Q w s := ⟨z, H, I, rw', q⟩
  by_cases h0 : 0 ≤ i
  · have hj : i.toNat = j := by
      rw [seqIndex_of h0 h5] at h1
      exact Option.some.inj h1
    exact item_listR pl.isList h0 (by omega) (by rw [hj]; simpa using ew) fin hs
  · have hj : (i + (its.toArray.size : Int)).toNat = j := by
      rw [seqIndex_neg (by omega) h4] at h1
      rw [List.size_toArray, ← hl]
      exact Option.some.inj h1
    exact subscriptTail_builtinR (x := w) pl.isList.typeIs slot_list_getitem.lookup
      (wpAny_getItem_list_neg (Q := fun r s' => r = w ∧ EP X pins σ Q r s') pl.isList (by omega) (by rw [List.size_toArray] <;> omega) (by omega) (by rw [hj]; simpa using ew) ⟨rfl, fin⟩) hs
theorem Ko : LH X (Pe X.K) := by
  intro value slice pins s σ H x y v u Q I rx ry h hs
  obtain ⟨p, xs, i, z, rfl, rfl, hq, he, q⟩ := h
  cases rx
  obtain ⟨t, rfl⟩ := ry
  obtain ⟨its, r, pl, hz⟩ := I.tuple hq
  obtain ⟨j, h1, h2, h3, h4, h5⟩ := yp he
  obtain ⟨w, ew, rw'⟩ := r.get h2
  have hl := r.length
  have hn := qA
  have fin : EP X pins σ Q w s := ⟨z, H, I, rw', q⟩
  exact subscriptTail_builtinR (x := w) pl.typeIs slot_tuple_getitem.lookup
    (getItem_tuple (j := j) (Q := fun r s' => r = w ∧ EP X pins σ Q r s') pl (by omega) (by omega) (by rw [List.size_toArray, ← hl]; exact h1) (by simpa using ew) ⟨rfl, fin⟩) hs
theorem Kp : LH X Pf := by
  intro value slice pins s σ H x y v u Q I rx ry h hs
  obtain ⟨z, i, c, rfl, rfl, hz, he, q⟩ := h
  obtain ⟨t, rfl⟩ := rx
  obtain ⟨t', rfl⟩ := ry
  obtain ⟨j, h1, h2, h3, h4, h5⟩ := yp he
  have hl : z.cps.toList.length = z.length := by simp [Str.length]
  rw [hl] at h1 h4 h5
  have hn := qA
  exact tail_any (typeIs_str s z t) slot_str_getitem.lookup (getItem_str (c := c) (by
    have e1 : decide (i < -(2 ^ 63 : Int)) = false := decide_eq_false (by omega)
    have e2 : decide (i ≥ 2 ^ 63) = false := decide_eq_false (by omega)
    rw [e1, e2, Bool.or_false]) (by rw [h1]; simpa using h2) ⟨.str ⟨#[c]⟩, H, I.tok _, ⟨_, rfl⟩, q⟩) hs
theorem Bg (its : List Value) (n j : Nat) (u : Value) : Obj.mapSeq (·.setIfInBounds j u) { cls := .type "list", data := .seq its.toArray n } = { cls := .type "list", data := .seq (its.set j u).toArray n } := by
  simp [Obj.mapSeq]
theorem Inv.lst {pins : List (Addr × Obj)} {σ : St} {H : Hp} {s : Shared} {p : Addr} {xs : List V} (I : Inv X pins σ H s) (h : H p = some (.lst xs)) :
    ∃ (its : List Value) (n : Nat), Vals xs its ∧ s.heap.get? p = some { cls := .type "list", data := .seq its.toArray n } ∧ xs.length ≤ sizeLine := by
  obtain ⟨z, its, n, r, e⟩ := I.hok p _ h
  exact ⟨its, n, r, e, z⟩
theorem Inv.Kq {pins : List (Addr × Obj)} {σ : St} {H : Hp} {s : Shared} {p : Addr} {xs ys : List V} {its its' : List Value} {n n' : Nat} {f : Obj → Obj} (I : Inv X pins σ H s) (h : H p = some (.lst xs))
    (ho : s.heap.get? p = some { cls := .type "list", data := .seq its.toArray n }) (hf : f { cls := .type "list", data := .seq its.toArray n } = { cls := .type "list", data := .seq its'.toArray n' }) (r : Vals ys its') (hz : ys.length ≤ sizeLine) (t : Nat) (ht : 0 < t := by first | exact Nat.succ_pos _ | exact (Inv.os (by assumption)).2 | assumption | omega) :
    Inv X pins σ (upd H p (.lst ys)) { s with heap := s.heap.update p f, toks := t } := by
  have e : (s.heap.update p f).get? p = some { cls := .type "list", data := .seq its'.toArray n' } := by
    rw [Heap.get?_update_self f ho (by rw [hf] <;> rfl), hf]
  refine I.write (x := p) (e := p) (by rw [h]; trivial) (.inl rfl) (fun b u hb q => (Heap.get?_update_other _ _ (Ne.symm hb)).trans q) ⟨_, e⟩ ?_
  exact ⟨hz, its', n', r, e⟩
noncomputable def Mu : V → V → V → Hp → (Hp → Prop) → Prop := fun o i v H Q => ∃ p xs k j, o = .ref p ∧ i = .int k ∧ H p = some (.lst xs) ∧ A0 xs.length k = some j ∧ Q (upd H p (.lst (xs.set j v)))
theorem set_list : Ma X Mu := by
  intro pins s σ H o i v ov iv u Q I ro ri rv h
  obtain ⟨p, xs, k, j, rfl, rfl, hp, hj, q⟩ := h
  cases ro
  obtain ⟨t, rfl⟩ := ri
  obtain ⟨its, n, r, ho, hz⟩ := I.lst hp
  obtain ⟨h1, h2, h3, h4⟩ := B5 hj
  have hl := r.length
  have hn := qA
  have I' : Inv X pins σ (upd H p (.lst (xs.set j v))) { s with heap := s.heap.update p (Obj.mapSeq (·.setIfInBounds j u)) } :=
    I.Kq hp ho (Bg its n j u) (r.set rv j) (by rw [List.length_set]; exact hz) s.toks
  by_cases h0 : 0 ≤ k
  · have hk : k.toNat = j := by
      rw [seqIndex_of h0 h4] at h1
      exact Option.some.inj h1
    exact PySem.W.ki_setAt ho h0 (by omega) (by rw [List.size_toArray, ← hl]; exact h4) (by rw [hk]; exact ⟨_, I', q⟩)
  · have hk : (k + (its.toArray.size : Int)).toNat = j := by
      rw [seqIndex_neg (by omega) h3] at h1
      rw [List.size_toArray, ← hl]
      exact Option.some.inj h1
    exact PySem.W.ki_setBack ho (by omega) (by rw [List.size_toArray, ← hl]; exact h3) (by omega) (by rw [hk]; exact ⟨_, I', q⟩)
theorem yq (lo hi : Option Int) (n : Nat) : (sliceBounds lo hi none n).1 = ((HT.gZ n 0 lo : Nat) : Int) ∧ (sliceBounds lo hi none n).2.1 = ((HT.gZ n n hi : Nat) : Int) ∧ (sliceBounds lo hi none n).2.2 = 1 := by
  refine ⟨?_, ?_, rfl⟩
  · cases lo with
    | none => simp [sliceBounds, HT.gZ]
    | some i =>
      simp only [sliceBounds, HT.gZ, Option.getD_none, show (1 : Int) > 0 by decide, if_true]
      by_cases h : i < 0
      · simp only [h, if_true] <;> omega
      · simp only [h, if_false] <;> omega
  · cases hi with
    | none => simp [sliceBounds, HT.gZ]
    | some i =>
      simp only [sliceBounds, HT.gZ, Option.getD_none, show (1 : Int) > 0 by decide, if_true]
      by_cases h : i < 0
      · simp only [h, if_true] <;> omega
      · simp only [h, if_false] <;> omega
theorem wM (its : List Value) (lo hi : Option Int) : slicePick its.toArray lo hi none = ((its.drop (HT.gZ its.length 0 lo)).take (HT.gZ its.length its.length hi - HT.gZ its.length 0 lo)).toArray := by
  obtain ⟨h1, h2, h3⟩ := yq lo hi its.toArray.size
  unfold slicePick
  rw [h1, h2, h3]
  simp only [sliceRange_one, pick_run, List.size_toArray] <;> rfl
noncomputable def Ph (K : PySem.W.Frag) : V → Option Int → Option Int → Hp → VK → Prop := fun x lo hi H Q => ∃ a xs, x = .ref a ∧ qx K H a xs ∧ ∀ p, H p = none → Q (.ref p) (upd H p (.lst (zH xs lo hi)))
theorem Hq : Oo X (Ph X.K) := by
  intro pins s σ H x v vl vu lo hi sl Q I rx hs pl pu h
  obtain ⟨a, xs, rfl, hx, q⟩ := h
  cases rx
  obtain ⟨its, r, ht, hz⟩ := I.list hx
  have hlen := r.length
  refine ⟨"list", _, slot_list_getitem.lookup, ht.isList.typeIs, ?_⟩
  refine wpAny_getItem_list_slice ht.isList hs pl pu .none (by simp) ?_ (by rw [List.size_toArray] <;> omega)
  rw [wM, ← hlen]
  refine ⟨.ref s.heap.objs.size, _, I.laid (t' := s.toks) (o := .lst (zH xs lo hi)) (fun b ob q => Heap.get?_push_of_some _ q) (Nat.le_refl _) ?_, rfl, q _ (I.hok.fresh (Nat.le_refl _))⟩
  exact ⟨Nat.le_trans (ud xs lo hi) hz, _, 0, (r.drop (HT.gZ xs.length 0 lo)).take (HT.gZ xs.length xs.length hi - HT.gZ xs.length 0 lo), Heap.get?_push_size _ rfl⟩
theorem rG : jC X (.builtin "len") (fun xs H Q => ∃ p ys, xs = [.ref p] ∧ (qx X.K H p ys ∨ pQ X.K H p ys) ∧ Q (.int ys.length) H) := by
  intro pins s σ H xs us Q I r h
  obtain ⟨p, ys, rfl, hq, q⟩ := h
  obtain ⟨u, rfl, rx⟩ := vals1 r
  cases rx
  have hn := qA
  rcases hq with hq | hq
  · obtain ⟨its, r', pl, hz⟩ := I.list hq
    have hlen := r'.length
    exact Calls.call_len_list pl.isList (by simp only [List.size_toArray] <;> omega) ⟨.int ys.length, H, I.tok _, ⟨s.toks + 1, by rw [List.size_toArray, hlen]⟩, q⟩
  · obtain ⟨its, r', pl, hz⟩ := I.tuple hq
    have hlen := r'.length
    exact len_tuple pl (by simp only [List.size_toArray] <;> omega) ⟨.int ys.length, H, I.tok _, ⟨s.toks + 1, by rw [List.size_toArray, hlen]⟩, q⟩
theorem yr : jC X (.builtin "len") (fun xs H Q => ∃ z, xs = [.str z] ∧ z.length ≤ sizeLine ∧ Q (.int z.length) H) := by
  intro pins s σ H xs us Q I r h
  obtain ⟨z, rfl, hz, q⟩ := h
  obtain ⟨u, rfl, t, rfl⟩ := vals1 r
  have hn := qA
  exact len_str (by omega) ⟨.int z.length, H, I.tok _, ⟨_, rfl⟩, q⟩
theorem rH : jC X (.type "list") (fun xs H Q => ∃ p ys, xs = [.ref p] ∧ (qx X.K H p ys ∨ pQ X.K H p ys) ∧ ∀ l, H l = none → Q (.ref l) (upd H l (.lst ys))) := by
  intro pins s σ H xs us Q I r h
  obtain ⟨p, ys, rfl, hq, q⟩ := h
  obtain ⟨u, rfl, rx⟩ := vals1 r
  cases rx
  have fin : ∀ (its : List Value), Vals ys its → ys.length ≤ sizeLine → ∀ (h' : Heap) (c' : Nat), (∀ b o', s.heap.get? b = some o' → h'.get? b = some o') →
      h'.get? s.heap.objs.size = some { cls := .type "list", dict := none, data := .seq its.toArray c', slots := #[] } → EP X pins σ Q (.ref s.heap.objs.size) { s with heap := h' } := fun its r' hz h' c' kp e =>
    ⟨.ref s.heap.objs.size, _, I.laid (t' := s.toks) kp (Nat.le_refl _) (show kU X.prog X.w _ h' _ (.lst ys) from ⟨hz, its, c', r', e⟩), rfl, q _ (I.hok.fresh (Nat.le_refl _))⟩
  rcases hq with hq | hq
  · obtain ⟨its, r', pl, hz⟩ := I.list hq
    have hlen := r'.length
    obtain ⟨o, ho, hc, n, hd⟩ := pl.isList
    exact call_list_seq p (.inl rfl) ho hc hd (fun h' c' kp e => fin its r' hz h' c' kp e) (by simp only [List.size_toArray] <;> omega)
  · obtain ⟨its, r', pl, hz⟩ := I.tuple hq
    have hlen := r'.length
    obtain ⟨o, ho, hc, n, hd⟩ := pl
    exact call_list_seq p (.inr rfl) ho hc hd (fun h' c' kp e => fin its r' hz h' c' kp e) (by simp only [List.size_toArray] <;> omega)
theorem pU : jC X (.type "tuple") (fun xs H Q => ∃ p ys, xs = [.ref p] ∧ ((qx X.K H p ys ∧ ∀ l, H l = none → Q (.ref l) (upd H l (.tup ys))) ∨ (pQ X.K H p ys ∧ Q (.ref p) H))) := by
  intro pins s σ H xs us Q I r h
  obtain ⟨p, ys, rfl, h⟩ := h
  obtain ⟨u, rfl, rx⟩ := vals1 r
  cases rx
  rcases h with ⟨hq, q⟩ | ⟨hq, q⟩
  · obtain ⟨its, r', pl, hz⟩ := I.list hq
    have hlen := r'.length
    refine call_tuple_list pl.isList (fun h' kp => ?_) (by simp only [List.size_toArray] <;> omega)
    have I1 : Inv X pins σ H { s with heap := h' } := I.kept (t' := s.toks) kp
    have I2 : Inv X pins σ (upd H h'.objs.size (.tup ys)) { s with heap := h'.push { cls := .type "tuple", data := .seq its.toArray } } :=
      I1.laid (t' := s.toks) (fun b o e => Heap.get?_push_of_some _ e) (Nat.le_refl _) (show kU X.prog X.w _ _ _ (.tup ys) from ⟨hz, its, r', IsTup.new _ _⟩)
    exact ⟨.ref h'.objs.size, _, I2, rfl, q _ (I1.hok.fresh (Nat.le_refl _))⟩
  · obtain ⟨its, r', pl, hz⟩ := I.tuple hq
    exact call_tuple_same pl ⟨.ref p, H, I, rfl, q⟩
noncomputable def Oq (K : PySem.W.Frag) (T : String) (x : V) (H : Hp) : Prop := match x with
  | .str _ => T = "str"
  | .int _ => T = "int"
  | .ref p => (T = "list" ∧ ∃ xs, qx K H p xs) ∨ (T = "tuple" ∧ ∃ o, K.lookup p = some o ∧ o.cls = .type "tuple" ∧ o.dict = none) ∨
      (T = "dict" ∧ ((∃ kvs, H p = some (.dK kvs)) ∨ ∃ kvs, H p = some (.dT kvs))) ∨ (T = "set" ∧ ∃ S n, H p = some (.set S n))
  | _ => False
theorem Ew {pins : List (Addr × Obj)} {σ : St} {H : Hp} {s : Shared} {T : String} {x : V} {v : Value} (I : Inv X pins σ H s) (r : RelV x v) (ty : Oq X.K T x H) :
    s.TypeIs v T ∧ ∀ a, v = .ref a → ∃ ob, s.heap.get? a = some ob ∧ ob.dict = none := by
  cases x with
  | str z =>
    obtain ⟨t, rfl⟩ := r
    cases (show T = "str" from ty)
    exact ⟨typeIs_str s z t, fun _ e => nomatch e⟩
  | int i =>
    obtain ⟨t, rfl⟩ := r
    cases (show T = "int" from ty)
    exact ⟨typeIs_int s i t, fun _ e => nomatch e⟩
  | ref p =>
    cases r
    rcases ty with ⟨rfl, xs, hq⟩ | ⟨rfl, o, hk, hc, hd⟩ | ⟨rfl, hk⟩ | ⟨rfl, S, n, hk⟩
    · obtain ⟨its, _, pl, _⟩ := I.list hq
      refine ⟨pl.isList.typeIs, fun a e => ?_⟩
      cases e
      obtain ⟨o, n, e, c, hd, _⟩ := pl
      exact ⟨o, e, hd⟩
    · refine ⟨⟨o, I.BX p o hk, hc⟩, fun a e => ?_⟩
      cases e
      exact ⟨o, I.BX _ o hk, hd⟩
    · have z : ∃ o, s.heap.get? p = some o ∧ o.ExactDict := by
        rcases hk with ⟨kvs, hk⟩ | ⟨kvs, hk⟩
        · obtain ⟨_, _, _, _, o, _, _, e, ex, _⟩ := I.hok p _ hk
          exact ⟨o, e, ex⟩
        · obtain ⟨_, _, _, _, o, _, _, e, ex, _⟩ := I.hok p _ hk
          exact ⟨o, e, ex⟩
      obtain ⟨o, e, ex⟩ := z
      refine ⟨⟨o, e, ex.1⟩, fun a e2 => ?_⟩
      cases e2
      exact ⟨o, e, ex.2.1⟩
    · obtain ⟨o, _, _, _, e, ex, _⟩ := I.hok p _ hk
      refine ⟨⟨o, e, ex.1⟩, fun a e2 => ?_⟩
      cases e2
      exact ⟨o, e, ex.2.1⟩
  | _ => exact False.elim ty
noncomputable def Pj (K : PySem.W.Frag) (T : String) (r : V → List V → Hp → VK → Prop) (to : TE) : TE := fun σ H Q => to σ H fun x H1 => Oq K T x H1 ∧ r x [] H1 Q
noncomputable def TZ (K : PySem.W.Frag) (T : String) (r : V → List V → Hp → VK → Prop) (to : TE) (t : TA) : TE := fun σ H Q => to σ H fun x H1 => Oq K T x H1 ∧ t σ H1 fun xs H2 => r x xs H2 Q
variable {o e : Expr} {es : List Expr} {to : TE} {t : TA} {name : Str} {apos cpos : Pos} {T id : String} {r : V → List V → Hp → VK → Prop}
theorem Kr (pa : PlainAttrs T) (slot : Slot T name id) (hty : typeOf (.builtin id) = pure (.type "method_descriptor")) (hm : Jb X id r) (ho : PE X o to)
    (hbase : attributeBase o name X.env (eval o X.env) = eval o X.env := by rfl) (hline : (apos.endLine == cpos.line) = true := by rfl) : PE X (.Call (.Attribute o name apos) [] [] cpos) (Pj X.K T r to) := by
  intro pins s σ H Q I h
  refine wpAny_Call_method0_late hbase hline (gX (ho pins s σ H _ I h) fun v s1 ⟨x, H1, I1, r1, ty, q1⟩ => ?_)
  obtain ⟨h1, h2⟩ := Ew I1 r1 ty
  exact ⟨T, id, pa, slot, hty, h1, h2, Calls.callWith_builtin rfl (PySem.evalArgs_none (hm pins s1 σ H1 x [] v [] Q I1 r1 .nil q1))⟩
theorem Mv (pa : PlainAttrs T) (slot : Slot T name id) (hty : typeOf (.builtin id) = pure (.type "method_descriptor")) (hm : Jb X id r) (ho : PE X o to) (ha : PA X (e :: es) t)
    (hbase : attributeBase o name X.env (eval o X.env) = eval o X.env := by rfl)
    (hfew : ((backTo cpos (starEach (e :: es) X.env)).all (fun x => !x.1) && (backToKw cpos (keywordEach [] X.env)).all (fun x => x.1.isSome)
      && decide ((e :: es).length + ([] : List Keyword).length + (if ([] : List Keyword).isEmpty then 0 else 1) < 30)) = true := by rfl)
    (hline : (apos.endLine == cpos.line) = true := by rfl) (hs : starEach (e :: es) X.env = (false, eval e X.env) :: starEach es X.env := by rfl) (hplain : (backTo cpos (starEach es X.env)).any (·.1) = false := by rfl) :
    PE X (.Call (.Attribute o name apos) (e :: es) [] cpos) (TZ X.K T r to t) := by
  intro pins s σ H Q I h
  refine wpAny_Call_method_late hbase hfew hline rfl (gX (ho pins s σ H _ I h) fun v s1 ⟨x, H1, I1, r1, ty, q1⟩ => ?_)
  obtain ⟨h1, h2⟩ := Ew I1 r1 ty
  refine ⟨T, id, pa, slot, hty, h1, h2, ?_⟩
  have hA := ha cpos pins s1 σ H1 _ I1 q1
  rw [hs] at hA ⊢
  refine Calls.callWith_builtin (by show (false || (backTo cpos (starEach es X.env)).any (·.1)) = false; rw [hplain] <;> rfl) (Calls.evalArgs_plain ?_)
  exact gX hA fun us s2 ⟨vs, H2, I2, r2, q2⟩ => hm pins s2 σ H2 x vs v us Q I2 r1 r2 q2
end
end L2
namespace L2
open PySem PySem.Spec PyProof.Rows
noncomputable def Rv (X : Cx) (id : String) (r : V → List V → Hp → VK → Prop) : Prop :=
  ∀ (pins : List (Addr × Obj)) (s : Shared) (σ : St) (H : Hp) (x : V) (xs : List V) (v : Value) (us : List Value) (Q : VK), Inv X pins σ H s → RelV x v → Vals xs us → r x xs H Q →
    wpAny (model X.prog X.w) X.A (call (.builtin id) (v :: us)) (EP X pins σ Q) X.xe s
theorem Vals.one : ∀ {x : V} {us : List Value}, Vals [x] us → ∃ u, us = [u] ∧ RelV x u
  | _, _, .cons r .nil => ⟨_, rfl, r⟩
theorem Vals.zero : ∀ {us : List Value}, Vals [] us → us = []
  | _, .nil => rfl
theorem Vals.dropLast {xs : List V} {us : List Value} (h : Vals xs us) : Vals xs.dropLast us.dropLast := by
  induction h with
  | nil => exact .nil
  | cons r t ih =>
    cases t with
    | nil => exact .nil
    | cons q t' => exact .cons r ih
theorem Vals.eraseIdx : ∀ {xs : List V} {us : List Value} (i : Nat), Vals xs us → Vals (xs.eraseIdx i) (us.eraseIdx i)
  | _, _, _, .nil => .nil
  | _, _, 0, .cons _ t => t
  | _, _, i + 1, .cons r t => .cons r (Vals.eraseIdx i t)
theorem Vals.reverse {xs : List V} {us : List Value} (h : Vals xs us) : Vals xs.reverse us.reverse := by
  induction h with
  | nil => exact .nil
  | cons r t ih => rw [List.reverse_cons, List.reverse_cons]; exact Vals.append ih (.cons r .nil)
theorem Bh {α : Type} (l : List α) : l.eraseIdx (l.length - 1) = l.dropLast := by
  induction l with
  | nil => rfl
  | cons a r ih =>
    cases r with
    | nil => rfl
    | cons b r =>
      have e : (a :: b :: r).length - 1 = ((b :: r).length - 1) + 1 := by
        have h1 : (a :: b :: r).length = r.length + 2 := rfl
        have h2 : (b :: r).length = r.length + 1 := rfl
        omega
      rw [e, List.eraseIdx_cons_succ, ih]
      all_goals rfl
section
variable {X : Cx} {pins : List (Addr × Obj)} {σ : St} {H : Hp} {s : Shared} {l b : Addr} {xs ys zs : List V}
theorem Inv.Ks {its its' : List Value} {n : Nat} {f : Array Value → Array Value} {t' : Nat} (I : Inv X pins σ H s) (hH : H l = some (.lst xs))
    (e : s.heap.get? l = some { cls := .type "list", data := .seq its.toArray n }) (hf : f its.toArray = its'.toArray) (hv : Vals ys its') (hz : ys.length ≤ sizeLine) (ht : 0 < t' := by first | exact Nat.succ_pos _ | exact (Inv.os (by assumption)).2 | assumption | omega) :
    Inv X pins σ (upd H l (.lst ys)) { s with heap := s.heap.update l (Obj.mapSeq f), toks := t' } := by
  have q := PySem.IsL.update e f
  rw [hf] at q
  refine I.write (x := l) (e := l) (by rw [hH]; exact trivial) (.inl rfl) (fun b' u hb hu => (Heap.get?_update_other s.heap (Obj.mapSeq f) (Ne.symm hb)).trans hu) ⟨_, q⟩ ?_
  exact ⟨hz, its', _, hv, q⟩
theorem Inv.Pk {its : List Value} {t' : Nat} (I : Inv X pins σ H s) (hv : Vals ys its) (hz : ys.length ≤ sizeLine) (ht : 0 < t' := by first | exact Nat.succ_pos _ | exact (Inv.os (by assumption)).2 | assumption | omega) :
    Inv X pins σ (upd H s.heap.objs.size (.lst ys)) { s with heap := s.heap.push { cls := .type "list", data := .seq its.toArray }, toks := t' } :=
  I.laid (fun _ _ q => Heap.get?_push_of_some _ q) (Nat.le_refl _) ⟨hz, its, 0, hv, Heap.get?_push_size _ rfl⟩
theorem Inv.fresh (I : Inv X pins σ H s) : H s.heap.objs.size = none := I.hok.fresh (Nat.le_refl _)
theorem Inv.Ku (I : Inv X pins σ H s) (hH : H l = some (.lst xs)) : xs.length ≤ sizeLine ∧ ∃ (its : List Value) (n : Nat), Vals xs its ∧ xs.length = its.length ∧ s.heap.get? l = some { cls := .type "list", data := .seq its.toArray n } := by
  obtain ⟨z, its, n, r, e⟩ := I.hok l _ hH
  exact ⟨z, its, n, r, r.length, e⟩
theorem Ex {n : Nat} (h : n ≤ sizeLine) : Builtin.List.listTooLong n = false := by
  unfold Builtin.List.listTooLong
  exact decide_eq_false (by omega)
end
section
variable {X : Cx}
noncomputable def Hr : V → List V → Hp → VK → Prop := fun x vs H Q => ∃ l xs y, x = .ref l ∧ vs = [y] ∧ H l = some (.lst xs) ∧ xs.length < sizeLine ∧ Q .jd (upd H l (.lst (xs ++ [y])))
theorem xC : Rv X "list.append" Hr := by
  intro pins s σ H x vs v us Q I rx rv h
  obtain ⟨l, xs, y, rfl, rfl, hH, hz, q⟩ := h
  cases rx
  obtain ⟨u, rfl, ru⟩ := rv.one
  obtain ⟨z, its, n, r, hl, e⟩ := I.Ku hH
  refine call_meets F.slot_list_append ⟨_, e, rfl⟩ F.entry_list_append (F.args_list_append_2 _ _) (PySem.list_append l its.toArray n u (by rw [List.size_toArray]; omega)) ⟨e, ?_⟩
  refine ⟨.jd, _, I.Ks (its' := its ++ [u]) hH e (by simp) (r.append (.cons ru .nil)) ?_, rfl, q⟩
  rw [List.length_append, List.length_singleton]
  omega
noncomputable def Pn : V → List V → Hp → VK → Prop := fun x vs H Q => ∃ l xs y, x = .ref l ∧ vs = [] ∧ H l = some (.lst xs) ∧ xs[xs.length - 1]? = some y ∧ Q y (upd H l (.lst xs.dropLast))
theorem Kv : Rv X "list.pop" Pn := by
  intro pins s σ H x vs v us Q I rx rv h
  obtain ⟨l, xs, y, rfl, rfl, hH, hy, q⟩ := h
  cases rx
  have Hs := rv.zero
  subst Hs
  obtain ⟨z, its, n, r, hl, e⟩ := I.Ku hH
  obtain ⟨u, hu, ru⟩ := r.get hy
  have hy' : its.toArray[its.toArray.size - 1]? = some u := by
    show its.toArray[its.length - 1]? = some u
    rw [← Array.getElem?_toList, ← hl]
    exact hu
  refine call_meets F.slot_list_pop ⟨_, e, rfl⟩ F.entry_list_pop (F.args_list_pop_1 _) (MeetsSeq.list_pop_last l its.toArray n u hy' (by rw [List.size_toArray]; omega)) ⟨e, ?_⟩
  refine ⟨y, _, I.Ks (its' := its.dropLast) hH e ?_ r.dropLast ?_, ru, q⟩
  · show its.toArray.eraseIdxIfInBounds (its.toArray.size - 1) = its.dropLast.toArray
    rw [List.size_toArray, List.eraseIdxIfInBounds_toArray, Bh]
  · rw [List.length_dropLast]
    omega
end
section
variable {prog : Program} {w : World} {A : Around} {E : Value → Shared → Prop} {s : Shared}
end
section
variable {X : Cx}
end
end L2
namespace Rw
open PySem PySem.W PySem.Calls PyProof.Rows
theorem uK {P : Params} {h : Heap} : ∀ (ns : List Int) (vs : List Value), WellAll P h vs (ns.map WData.int) → IntsAre vs ns := by
  intro ns
  induction ns with
  | nil =>
    intro vs w
    rw [List.map_nil] at w
    cases w
    exact .nil
  | cons n ns ih =>
    intro vs w
    rw [List.map_cons] at w
    cases w with
    | cons a b =>
      cases a
      exact .cons _ _ (ih _ b)
theorem C6 {l : OpenLaw} {n : Nat} (hn : l.most = some n) {P : Params} {h : Heap} {args : List WData} {vals : List Value}
    (hpre : l.row.toRowW.claim.pre args = true) (hwl : WellAll P h vals args) :
    ∃ a vs ns, vals = [Value.ref a] ∧ args = [WData.list (ns.map WData.int)] ∧ h.get? a = some { cls := .type "list", data := .seq vs.toArray } ∧ IntsAre vs ns ∧ ns.length ≤ n := by
  have hsh : WShape.hasAll [] args [.list .int] = true := (pre_splitW hpre).1
  have hc : l.pre.holds [] { args := args } = true := (pre_splitW hpre).2
  obtain ⟨d, r, rfl, h1, h2⟩ := hasAllW_cons hsh
  obtain rfl := hasAllW_nil h2
  obtain ⟨xs, rfl, h3⟩ := hasW_list h1
  obtain ⟨ns, rfl⟩ := items_int h3
  have hlen : ns.length ≤ n := by
    unfold OpenLaw.pre at hc
    have h4 : (WTm.not (.lt (.lit (.int (n : Int))) (.len (.arg 0)))).holds [] { args := [.list (ns.map .int)] } = true := by
      have h4 := (holds_andW hc).1
      rw [hn] at h4
      exact h4
    have h5 := condW_of h4 (w_not (w_lt w_lit (w_len_list (w_arg rfl))))
    rw [List.length_map] at h5
    refine Nat.le_of_not_lt fun q => ?_
    have q' : (n : Int) < ((ns.length : Nat) : Int) := by omega
    first
      | (rw [decide_eq_true q'] at h5; exact absurd h5 (by decide))
      | (simp at h5; omega)
  cases hwl with
  | cons w1 w2 =>
    cases w2
    cases w1 with
    | list ho hall => exact ⟨_, _, ns, rfl, rfl, ho, uK ns _ hall, hlen⟩
theorem C7 (l : OpenLaw) (args : List WData) : l.row.toRowW.claim.post args (.bool true) args = true :=
  postW_of (r := l.row.toRowW) (X := (true == true))
    (show WShape.has [] (.bool true) .bool = true by first | rfl | decide | simp [WShape.has, WShape.arms, WShape.armsAll])
    (show (WTm.eq .res (.lit (.bool true))).value [] { args := args, res := some (.bool true), after := args } = some (.bool (true == true)) from w_eq_bool (w_res rfl) w_lit) rfl
theorem zI {l : OpenLaw} {n : Nat} {q : Program} {loose : List Str} {XP : (Str → Option Value) → Heap → Prop} {YP : World → Heap → Prop} {d : DefRec}
    (hn : l.most = some n) (hdf : d.params.defaults = [])
    (call : ∀ (w : World) (s₀ s₁ : Shared) (mg mb : Str → Option Value) (fa : Addr) (o : Obj) (pm cd doc : Value) (a : Addr) (vs : List Value) (ns : List Int),
      Ground q loose [] XP w s₀ mg mb s₁.heap → YP w s₁.heap →
      s₁.heap.get? fa = some o → o.data = .func (docDef d.name d.params d.body d.scope pm cd doc) → s₁.heap.CodeRec cd d.name → mg d.name = some (.ref fa) →
      s₁.heap.get? a = some { cls := .type "list", data := .seq vs.toArray } → IntsAre vs ns → ns.length ≤ n → s₁.gens = #[] →
      codeAny (model l.prog w) callerA (.call (.ref fa) ⟨[.ref a], []⟩) (fun r s' => r = .ok (.ret (.bool true)) ∧ OldK s₁.heap s'.heap ∧ s'.os = s₁.os ∧ AllBare s'.gens) s₁) :
    WalkO q loose XP YP l.row.toRowW d [] (fun f vs => PySem.call f vs) := by
  intro w s₀ s₁ mg mb G Y fa o pm cd doc dV kV ho hd hcd hD hmg hg args vals as hpre hlay hrd hwl hlo
  obtain rfl : dV = .none := Dflts.none hD hdf
  obtain rfl : kV = .none := Dflts.noKw hD
  obtain ⟨a, vs, ns, rfl, rfl, hobj, hints, hlen⟩ := C6 hn hpre hwl
  refine enter_call (codeAny_mono (call w s₀ s₁ mg mb fa o pm cd doc a vs ns G Y ho (fd_plain hd) hcd hmg hobj hints hlen hg) fun r s' hq => ?_)
  obtain ⟨rfl, h2, h3, h4⟩ := hq
  exact ⟨.inl ⟨.bool true, .bool true, [], rfl, fun _ => rfl, .bool true, C7 l _, fun _ => ⟨List.Pairwise.nil, fun _ hm => (nomatch hm)⟩⟩, h2, h3, h4⟩
section
variable {prog : Program} {w : World} {A : Around} {E : Value → Shared → Prop} {s : Shared} {K : Frag}
end
end Rw
namespace L2
open PySem PySem.Spec PyProof.Rows
theorem xD : ∀ {vs : List Value} {ns : List Int}, IntsAre vs ns → Vals (ns.map V.int) vs
  | _, _, .nil => .nil
  | _, _, .cons n t h => .cons ⟨t, rfl⟩ (xD h)
end L2
namespace L2
open PySem PySem.Spec PyProof.Rows
noncomputable abbrev KOf {K : PySem.W.Frag} {h : Heap} (_ : K.In h) : PySem.W.Frag := K
end L2
namespace L2
open PySem PySem.Spec PyProof.Rows
noncomputable def aE (s : Stmt) : Arguments := match s with
  | .FunctionDef _ a _ _ _ _ _ _ _ _ => a
  | _ => { posonlyargs := [], args := [], vararg := none, kwonlyargs := [], kw_defaults := [], kwarg := none, defaults := [] }
noncomputable def az (s : Stmt) : List Stmt := match s with
  | .FunctionDef _ _ b _ _ _ _ _ _ _ => b
  | _ => []
noncomputable def aa (s : Stmt) : Scope := match s with
  | .FunctionDef _ _ _ _ _ _ sc _ _ _ => sc
  | _ => { kind := .function, names := [], isGenerator := false, isCoroutine := false }
structure uY (K : PySem.W.Frag) (x qual : Str) (st : Stmt) (f : Addr) (fd : FuncData) : Prop where
  ex : ∃ (oc : Value) (od : Option Addr) (kV doc pm : Value) (an : Option Addr) (cdv ct : Value) (osl : Array (Option Value)),
    fd = PySem.W.fnOf x qual (aE st) (az st) (aa st) .none kV doc pm an cdv ct ∧ K.lookup f = some ⟨oc, od, .func fd, osl⟩ ∧ PySem.W.codeIn K cdv qual = true
  kp : PySem.W.keepIn K (.ref f) = true
section
variable {P : Program} {w : World} {K : PySem.W.Frag} {mg : Str → Option Value} {base : Heap}
theorem uY.binds {x qual : Str} {st : Stmt} {f : Addr} {fd : FuncData} {ps : List Str} (F : uY K x qual st f fd)
    (h : ∀ (kV doc pm : Value) (an : Option Addr) (cdv ct : Value) (us : List Value), us.length = ps.length → bindArgs (PySem.W.fnOf x qual (aE st) (az st) (aa st) .none kV doc pm an cdv ct) ⟨us, []⟩ = pure (ps.zip us)) : Binds K fd ps [] := by
  obtain ⟨oc, od, kV, doc, pm, an, cdv, ct, osl, rfl, lk, hcd⟩ := F.ex
  exact .all (h kV doc pm an cdv ct)
theorem gn {x qual : Str} {st : Stmt} {f : Addr} {oc : Value} {od an : Option Addr} {osl : Array (Option Value)} {kV doc pm cdv ct : Value} (l : K.lookup f = some ⟨oc, od, .func (PySem.W.fnOf x qual (aE st) (az st) (aa st) .none kV doc pm an cdv ct), osl⟩)
    (c : PySem.W.codeIn K cdv qual = true) (k : PySem.W.keepIn K (.ref f) = true) : uY K x qual st f (PySem.W.fnOf x qual (aE st) (az st) (aa st) .none kV doc pm an cdv ct) := ⟨⟨oc, od, kV, doc, pm, an, cdv, ct, osl, rfl, l, c⟩, k⟩
end
section
variable {X : Cx}
end
noncomputable def Mw (H H' : Hp) : Prop := ∀ b o, H b = some o → H' b = some o
theorem Mw.free {H H' : Hp} (e : Mw H H') {l : Addr} (h : H' l = Option.none) : H l = Option.none := by
  cases q : H l with
  | none => rfl
  | some o =>
    rw [e l o q] at h
    cases h
end L2
end
section
set_option Elab.async false
set_option linter.all false
set_option maxRecDepth 100000
namespace L2
open PySem PySem.Spec PyProof.Rows
section
variable {κ : Type} [DecidableEq κ]
noncomputable def Ht (kvs : List (κ × V)) (k : κ) : Option V := (kvs.find? fun kv => decide (kv.1 = k)).map (·.2)
noncomputable def putK (kvs : List (κ × V)) (k : κ) (v : V) : List (κ × V) :=
  if (kvs.any fun kv => decide (kv.1 = k)) = true then kvs.map (fun kv => if kv.1 = k then (kv.1, v) else kv) else kvs ++ [(k, v)]
theorem GP.getD {o : Option V} {u : Option Value} {d : V} {d' : Value} (r : GP o u) (rd : RelV d d') : RelV (o.getD d) (u.getD d') := by
  cases o with
  | none => cases u with
    | none => exact rd
    | some _ => exact (show False from r).elim
  | some _ => cases u with
    | none => exact (show False from r).elim
    | some _ => exact r
end
noncomputable abbrev KT (H : Hp) : List (List Key × V) → List (List Key × Addr × Value) → Prop := Paired fun p q => p.1 = q.1 ∧ H q.2.1 = some (.tup (p.1.map kV)) ∧ RelV p.2 q.2.2
theorem KT.keeps {H H' : Hp} {kvs : List (List Key × V)} {xs : List (List Key × Addr × Value)} (r : KT H kvs xs) (ht : ∀ b ys, H b = some (.tup ys) → H' b = some (.tup ys)) : KT H' kvs xs :=
  Paired.JL r fun _ _ z => ⟨z.1, ht _ _ z.2.1, z.2.2⟩
section
variable {P : Program} {w : World} {H : Hp} {h : Heap} {a : Addr}
end
noncomputable def Hu (H : Hp) (a : Addr) (y : V) (r : Option V) : Prop :=
  (∃ kvs k, Rd H a (.dK kvs) ∧ y = kV k ∧ r = Ht kvs k) ∨ ∃ kvs k b, Rd H a (.dT kvs) ∧ y = .ref b ∧ H b = some (.tup (k.map kV)) ∧ r = Ht kvs k
noncomputable def Hv (H : Hp) (a : Addr) (y v : V) (H' : Hp) : Prop :=
  (∃ kvs k, H a = some (.dK kvs) ∧ y = kV k ∧ kvs.length < sizeLine ∧ H' = upd H a (.dK (putK kvs k v))) ∨
  ∃ kvs k b, H a = some (.dT kvs) ∧ y = .ref b ∧ H b = some (.tup (k.map kV)) ∧ kvs.length < sizeLine ∧ H' = upd H a (.dT (putK kvs k v))
theorem Hu.k {H : Hp} {a : Addr} {kvs : List (Key × V)} {k : Key} (e : H a = some (.dK kvs)) : Hu H a (kV k) (Ht kvs k) := .inl ⟨kvs, k, .inl e, rfl, rfl⟩
theorem Hu.t {H : Hp} {a b : Addr} {kvs : List (List Key × V)} {k : List Key} (e : H a = some (.dT kvs)) (eb : H b = some (.tup (k.map kV))) : Hu H a (.ref b) (Ht kvs k) := .inr ⟨kvs, k, b, .inl e, rfl, eb, rfl⟩
theorem Hv.k {H : Hp} {a : Addr} {kvs : List (Key × V)} {k : Key} {v : V} (e : H a = some (.dK kvs)) (hl : kvs.length < sizeLine) : Hv H a (kV k) v (upd H a (.dK (putK kvs k v))) := .inl ⟨kvs, k, e, rfl, hl, rfl⟩
theorem Hv.t {H : Hp} {a b : Addr} {kvs : List (List Key × V)} {k : List Key} {v : V} (e : H a = some (.dT kvs)) (eb : H b = some (.tup (k.map kV))) (hl : kvs.length < sizeLine) :
    Hv H a (.ref b) v (upd H a (.dT (putK kvs k v))) := .inr ⟨kvs, k, b, e, rfl, eb, hl, rfl⟩
section
variable {X : Cx} {pins : List (Addr × Obj)} {σ : St} {H : Hp} {s : Shared} {a : Addr} {y v : V} {u r : Value} {o : Option V} {A : Around} {E : Value → Shared → Prop}
end
section
variable {X : Cx} {pins : List (Addr × Obj)} {σ : St} {H : Hp} {s : Shared} {a : Addr} {kvs : List (Key × V)} {k : Key} {u : Value} {A : Around} {E : Value → Shared → Prop}
end
section
variable {X : Cx} {o i e value : Expr} {pos pos' tpos : Pos} {td ty tv : TE}
end
section
variable {X : Cx} {pos : Pos}
end
structure M1 (X : Cx) (o : Expr) (m : Str) (apos : Pos) (e : Expr) (cpos : Pos) : Prop where
  base : attributeBase o m X.env (eval o X.env) = eval o X.env
  few : ((backTo cpos (starEach [e] X.env)).all (fun x => !x.1) && (backToKw cpos (keywordEach [] X.env)).all (fun x => x.1.isSome)
    && decide (([e] : List Expr).length + ([] : List Keyword).length + (if ([] : List Keyword).isEmpty then 0 else 1) < 30)) = true
  line : (apos.endLine == cpos.line) = true
  trees : backTo cpos (starEach [e] X.env) = [(false, eval e X.env)]
structure M2 (X : Cx) (o : Expr) (m : Str) (apos : Pos) (e f : Expr) (cpos : Pos) : Prop where
  base : attributeBase o m X.env (eval o X.env) = eval o X.env
  few : ((backTo cpos (starEach [e, f] X.env)).all (fun x => !x.1) && (backToKw cpos (keywordEach [] X.env)).all (fun x => x.1.isSome)
    && decide (([e, f] : List Expr).length + ([] : List Keyword).length + (if ([] : List Keyword).isEmpty then 0 else 1) < 30)) = true
  line : (apos.endLine == cpos.line) = true
  trees : backTo cpos (starEach [e, f] X.env) = [(false, eval e X.env), (false, eval f X.env)]
section
variable {X : Cx} {pins : List (Addr × Obj)} {σ : St} {H : Hp} {s : Shared} {a : Addr} {y d : V} {u r : Value} {o : Option V} {A : Around} {E : Value → Shared → Prop}
end
section
variable {X : Cx} {o e f : Expr} {apos cpos : Pos} {td ty tx : TE}
end
section
variable {X : Cx} {pins : List (Addr × Obj)} {σ : St} {H : Hp} {s : Shared} {a : Addr} {kvs : List (Key × V)} {A : Around} {E : Value → Shared → Prop}
end
section
variable {X : Cx} {pins : List (Addr × Obj)} {σ : St} {H : Hp} {s : Shared} {a : Addr} {y : V} {u : Value} {A : Around} {E : Value → Shared → Prop}
end
end L2
end
section
set_option Elab.async false
set_option linter.all false
set_option maxRecDepth 100000
namespace L3
open PySem PySem.Spec L2
structure pS where
 name : Str
 qual : Str
 params : Arguments
 body : List Stmt
 scope : Scope
 pos : Pos
 names : List Str
noncomputable def freeNames (sc : Scope) : List Str := ((sc.names.filter fun q => q.2 == .free).map (·.1)).reverse
noncomputable def rJ (q : Str) : List Stmt → Option pS
 | .FunctionDef name params body _ _ _ scope _ _ pos :: _ => some ⟨name, q ++ ".<locals>." ++ name, params, body, scope, pos, freeNames scope⟩
 | _ :: r => rJ q r
 | [] => none
noncomputable def vA (K : PySem.W.Frag) (mg : Str → Option Value) (y : Str) : Option pS := match mg y with
 | some (.ref f) => (match K.lookup f with
  | some ⟨_, _, .func fd, _⟩ => (match fd.body with
   | .stmts b => rJ fd.qualname b
   | _ => none)
  | _ => none)
 | _ => none
inductive D where
 | jd | bl (b : Bool) | int (i : Int) | str (x : Str) | tup (xs : List D) | con (xs : List D) | obj (n : Nat) | fn (x : Str) | xE (cls : Str) (args : List D) | lN (y : Str) (caps : List D)
inductive DO where
 | lst (xs : List D)
 | dead
 | dct (kvs : List (Key × D))
 | tab (y : Str)
noncomputable abbrev DH := List DO
noncomputable abbrev DS := List (Option D)
inductive XD where
 | mk (cls : Str) (args : List D)
inductive Out (α : Type) where
 | stuck
 | ok (a : α) (G : DH)
 | dz (c : XD) (G : DH)
noncomputable abbrev M (α : Type) := DH → Out α
noncomputable def M.bind {α β : Type} (m : M α) (k : α → M β) : M β := fun G => match m G with
 | .stuck => .stuck
 | .ok a G' => k a G'
 | .dz c G' => .dz c G'
noncomputable def M.ret {α : Type} (a : α) : M α := fun G => .ok a G
noncomputable def M.stop {α : Type} : M α := fun _ => .stuck
noncomputable def Hw (K : PySem.W.Frag) (H : Hp) (a : Addr) (xs : List V) : Prop :=
 (∃ o, H a = some (.gY o (.lst xs))) ∨
  ∃ (o : Obj) (its : Array Value) (n : Nat), K.lookup a = some o ∧ o.cls = .type "list" ∧ o.dict = none ∧ o.data = .seq its n ∧ its.size ≤ sizeLine ∧ Vals xs its.toList
theorem Hw.seq {K : PySem.W.Frag} {H : Hp} {a : Addr} {xs : List V} (h : Hw K H a xs) : qx K H a xs := by
 rcases h with ⟨o, h⟩ | h
 ·exact .inl (.inr ⟨o, h⟩)
 ·exact .inr h
noncomputable def Mx (a : Addr) (cv : Value) : Heap → Prop := fun h => ∃ o, h.get? a = some o ∧ o.cls = cv
noncomputable def zJ (H : Hp) (a : Addr) (o : Obj) : Prop := H a = some (.gY o (.own 0))
noncomputable def tG (H : Hp) (c : Addr) (qual : Str) : Prop := ∃ (oc : Obj) (vs : Array Value) (t : Tok), zJ H c oc ∧ oc.data = .fields vs ∧ vs[1]? = some (.str qual t)
noncomputable def rK (H : Hp) (k : pS) (a : Addr) (cs : List Addr) : Prop := cs.length = k.names.length ∧ cs.Nodup ∧ ∃ (doc pm ctv : Value) (c : Addr), zJ H a (PySem.W.fnMade k.name k.qual k.params k.body k.scope (k.names.zip cs) doc pm c ctv) ∧ tG H c k.qual
noncomputable def fH (H : Hp) : List Addr → List V → Prop
 | [], xs => xs = []
 | c :: cs, xs => ∃ (x : V) (r : List V) (o : Obj) (u : Value), xs = x :: r ∧ zJ H c o ∧ o.data = .cell (some u) ∧ RelV x u ∧ fH H cs r
mutual
noncomputable def Rep (K : PySem.W.Frag) (mg : Str → Option Value) (ρ : List Addr) (H : Hp) : D → V → Prop
 | .jd, v => v = .jd
 | .bl b, v => v = .bl b
 | .int i, v => v = .int i
 | .str x, v => v = .str x
 | .tup ds, v => ∃ a xs, v = .ref a ∧ pQ K H a xs ∧ ay K mg ρ H ds xs
 | .con ds, v => ∃ a xs, v = .ref a ∧ Hw K H a xs ∧ ay K mg ρ H ds xs
 | .obj n, v => ∃ a, v = .ref a ∧ ρ[n]? = some a
 | .fn x, v => ∃ a, v = .ref a ∧ mg x = some (.ref a)
 | .xE c _, v => ∃ a cv, v = .ref a ∧ mg c = some cv ∧ H a = some (.ext (Mx a cv))
 | .lN y ds, v => ∃ k a cs xs, v = .ref a ∧ vA K mg y = some k ∧ rK H k a cs ∧ fH H cs xs ∧ ay K mg ρ H ds xs
noncomputable def ay (K : PySem.W.Frag) (mg : Str → Option Value) (ρ : List Addr) (H : Hp) : List D → List V → Prop
 | [], vs => vs = []
 | d :: ds, vs => ∃ v r, vs = v :: r ∧ Rep K mg ρ H d v ∧ ay K mg ρ H ds r
end
theorem tG.mono {H H' : Hp} {c : Addr} {q : Str} (h : tG H c q) (f : ∀ a o u, H a = some (.gY o u) → H' a = some (.gY o u)) : tG H' c q :=
 let ⟨oc, vs, t, e, r⟩ := h; ⟨oc, vs, t, f _ _ _ e, r⟩
theorem rK.mono {H H' : Hp} {k : pS} {a : Addr} {cs : List Addr} (h : rK H k a cs) (f : ∀ a o u, H a = some (.gY o u) → H' a = some (.gY o u)) : rK H' k a cs :=
 let ⟨l, n, doc, pm, ctv, c, e, r⟩ := h; ⟨l, n, doc, pm, ctv, c, f _ _ _ e, r.mono f⟩
theorem fH.mono {H H' : Hp} (f : ∀ a o u, H a = some (.gY o u) → H' a = some (.gY o u)) : ∀ {cs : List Addr} {xs : List V}, fH H cs xs → fH H' cs xs
 | [], xs, h => h
 | c :: cs, xs, ⟨x, r, o, u, e, h1, h2, h3, h4⟩ => ⟨x, r, o, u, e, f _ _ _ h1, h2, h3, h4.mono f⟩
structure eX (K : PySem.W.Frag) (H H' : Hp) (ρ ρ' : List Addr) : Prop where
 tup : ∀ a xs, pQ K H a xs → pQ K H' a xs
 gY : ∀ a o u, H a = some (.gY o u) → H' a = some (.gY o u)
 pre : ∃ r, ρ' = ρ ++ r
 ext : ∀ a φ, H a = some (.ext φ) → H' a = some (.ext φ)
section
variable {K : PySem.W.Frag} {mg : Str → Option Value} {H H' H1 H2 : Hp} {ρ ρ' ρ1 ρ2 : List Addr}
theorem eX.con (f : eX K H H' ρ ρ') (a : Addr) (xs : List V) (h : Hw K H a xs) : Hw K H' a xs := by
 rcases h with ⟨o, h⟩ | h
 ·exact .inl ⟨o, f.gY _ _ _ h⟩
 ·exact .inr h
theorem eX.refl : eX K H H ρ ρ := ⟨fun _ _ h => h, fun _ _ _ h => h, ⟨[], by simp⟩, fun _ _ h => h⟩
theorem eX.trans (a : eX K H H1 ρ ρ1) (b : eX K H1 H2 ρ1 ρ2) : eX K H H2 ρ ρ2 := by
 obtain ⟨r1, e1⟩ := a.pre
 obtain ⟨r2, e2⟩ := b.pre
 exact ⟨fun x xs h => b.tup x xs (a.tup x xs h), fun x o u h => b.gY x o u (a.gY x o u h), ⟨r1 ++ r2, by rw [e2, e1, List.append_assoc]⟩, fun x φ h => b.ext x φ (a.ext x φ h)⟩
theorem eX.get (f : eX K H H' ρ ρ') {n : Nat} {a : Addr} (h : ρ[n]? = some a) : ρ'[n]? = some a := by
 obtain ⟨r, e⟩ := f.pre
 rw [e, List.getElem?_append_left (List.getElem?_eq_some_iff.mp h).1]; exact h
mutual
theorem Rep.mono (f : eX K H H' ρ ρ') : ∀ (d : D) (v : V), Rep K mg ρ H d v → Rep K mg ρ' H' d v
 | .jd, v, h => by unfold Rep at h ⊢; exact h
 | .bl b, v, h => by unfold Rep at h ⊢; exact h
 | .int i, v, h => by unfold Rep at h ⊢; exact h
 | .str x, v, h => by unfold Rep at h ⊢; exact h
 | .tup ds, v, h => by
  unfold Rep at h ⊢
  obtain ⟨a, xs, e, s, r⟩ := h
  exact ⟨a, xs, e, f.tup _ _ s, ay.mono f ds xs r⟩
 | .con ds, v, h => by
  unfold Rep at h ⊢
  obtain ⟨a, xs, e, s, r⟩ := h
  exact ⟨a, xs, e, f.con _ _ s, ay.mono f ds xs r⟩
 | .obj n, v, h => by
  unfold Rep at h ⊢
  obtain ⟨a, e, r⟩ := h
  exact ⟨a, e, f.get r⟩
 | .fn x, v, h => by unfold Rep at h ⊢; exact h
 | .xE c as, v, h => by
  unfold Rep at h ⊢
  obtain ⟨a, cv, e, m, r⟩ := h
  exact ⟨a, cv, e, m, f.ext _ _ r⟩
 | .lN k ds, v, h => by
  unfold Rep at h ⊢
  obtain ⟨k, a, cs, xs, e, h0, h1, h2, h3⟩ := h
  exact ⟨k, a, cs, xs, e, h0, h1.mono f.gY, h2.mono f.gY, ay.mono f ds xs h3⟩
theorem ay.mono (f : eX K H H' ρ ρ') : ∀ (ds : List D) (vs : List V), ay K mg ρ H ds vs → ay K mg ρ' H' ds vs
 | [], vs, h => by unfold ay at h ⊢; exact h
 | d :: ds, vs, h => by
  unfold ay at h ⊢
  obtain ⟨v, r, e, h1, h2⟩ := h
  exact ⟨v, r, e, Rep.mono f d v h1, ay.mono f ds r h2⟩
end
theorem ay.length : ∀ {ds : List D} {vs : List V}, ay K mg ρ H ds vs → ds.length = vs.length
 | [], vs, h => by unfold ay at h; subst h; rfl
 | d :: ds, vs, h => by
  unfold ay at h
  obtain ⟨v, r, rfl, _, h2⟩ := h
  simp [ay.length h2]
theorem ay.nil : ay K mg ρ H [] [] := by unfold ay; rfl
theorem ay.cons {d : D} {v : V} {ds : List D} {vs : List V} (h : Rep K mg ρ H d v) (t : ay K mg ρ H ds vs) : ay K mg ρ H (d :: ds) (v :: vs) := by
 unfold ay; exact ⟨v, vs, rfl, h, t⟩
theorem ay.get : ∀ {ds : List D} {vs : List V} {i : Nat} {d : D}, ay K mg ρ H ds vs → ds[i]? = some d → ∃ v, vs[i]? = some v ∧ Rep K mg ρ H d v
 | [], vs, i, d, h, e => by simp at e
 | x :: ds, vs, 0, d, h, e => by
  unfold ay at h
  obtain ⟨v, r, rfl, h1, _⟩ := h
  simp at e; subst e
  exact ⟨v, rfl, h1⟩
 | x :: ds, vs, i + 1, d, h, e => by
  unfold ay at h
  obtain ⟨v, r, rfl, _, h2⟩ := h
  obtain ⟨u, e1, e2⟩ := ay.get (i := i) (d := d) h2 (by simpa using e)
  exact ⟨u, by simpa using e1, e2⟩
theorem ay.append : ∀ {ds es : List D} {vs us : List V}, ay K mg ρ H ds vs → ay K mg ρ H es us → ay K mg ρ H (ds ++ es) (vs ++ us)
 | [], es, vs, us, h, h' => by unfold ay at h; subst h; exact h'
 | d :: ds, es, vs, us, h, h' => by
  unfold ay at h
  obtain ⟨v, r, rfl, h1, h2⟩ := h
  exact .cons h1 (ay.append h2 h')
theorem ay.take : ∀ (n : Nat) {ds : List D} {vs : List V}, ay K mg ρ H ds vs → ay K mg ρ H (ds.take n) (vs.take n)
 | 0, _, _, _ => by simpa using ay.nil
 | n + 1, [], vs, h => by unfold ay at h; subst h; simpa using ay.nil
 | n + 1, d :: ds, vs, h => by
  unfold ay at h
  obtain ⟨v, r, rfl, h1, h2⟩ := h
  exact .cons h1 (ay.take n h2)
theorem ay.drop : ∀ (n : Nat) {ds : List D} {vs : List V}, ay K mg ρ H ds vs → ay K mg ρ H (ds.drop n) (vs.drop n)
 | 0, _, _, h => by simpa using h
 | n + 1, [], vs, h => by unfold ay at h; subst h; simpa using ay.nil
 | n + 1, d :: ds, vs, h => by
  unfold ay at h
  obtain ⟨v, r, rfl, h1, h2⟩ := h
  simpa using ay.drop n h2
theorem ay.set {x : D} {y : V} (hx : Rep K mg ρ H x y) : ∀ (n : Nat) {ds : List D} {vs : List V}, ay K mg ρ H ds vs → ay K mg ρ H (ds.set n x) (vs.set n y)
 | _, [], vs, h => by unfold ay at h; subst h; simpa using ay.nil
 | 0, d :: ds, vs, h => by
  unfold ay at h
  obtain ⟨v, r, rfl, h1, h2⟩ := h
  exact .cons hx h2
 | n + 1, d :: ds, vs, h => by
  unfold ay at h
  obtain ⟨v, r, rfl, h1, h2⟩ := h
  exact .cons h1 (ay.set hx n h2)
theorem ay.ints : ∀ (ns : List Int), ay K mg ρ H (ns.map D.int) (ns.map V.int)
 | [] => .nil
 | n :: ns => .cons (by unfold Rep; rfl) (ay.ints ns)
end
noncomputable def Hx (K : PySem.W.Frag) (mg : Str → Option Value) (ρ : List Addr) (H : Hp) (a : Addr) : DO → Prop
 | .lst ds => ∃ xs, H a = some (.lst xs) ∧ ay K mg ρ H ds xs
 | .dead => ∃ o, H a = some o
 | .dct kvs => ∃ xs, H a = some (.dK ((kvs.map (·.1)).zip xs)) ∧ ay K mg ρ H (kvs.map (·.2)) xs
 | .tab y => ∃ (ps : Array Value) (c : Addr) (k : pS), H a = some (.tu ps) ∧ PySem.W.tabIn K y = some (c, a) ∧ vA K mg y = some k ∧ (ps = #[] ∨ ∃ c', ps = #[PySem.rawInt k.pos.line, PySem.rawInt k.pos.col, .ref c'] ∧ tG H c' k.qual)
structure kh (K : PySem.W.Frag) (mg : Str → Option Value) (H : Hp) (ρ : List Addr) (G : DH) : Prop where
 hl : ρ.length = G.length
 nd : ρ.Nodup
 ob : ∀ (n : Nat) (o : DO), G[n]? = some o → ∃ a, ρ[n]? = some a ∧ Hx K mg ρ H a o
noncomputable def vB (K : PySem.W.Frag) (mg : Str → Option Value) (H : Hp) (ρ : List Addr) (σ : St) (τ : DS) : Prop :=
 σ.length = τ.length ∧ ∀ (i : Nat) (d : D), τ[i]? = some (some d) → ∃ v, σ[i]? = some (some v) ∧ Rep K mg ρ H d v
structure Ab (K : PySem.W.Frag) (mg : Str → Option Value) (σ : St) (H : Hp) (τ : DS) (ρ : List Addr) (G : DH) : Prop where
 st : vB K mg H ρ σ τ
 hp : kh K mg H ρ G
section
variable {K : PySem.W.Frag} {mg : Str → Option Value} {H H' H1 H2 : Hp} {ρ ρ' ρ1 ρ2 : List Addr} {G G' : DH} {σ : L2.St} {τ : DS}
theorem vB.mono (f : eX K H H' ρ ρ') (h : vB K mg H ρ σ τ) : vB K mg H' ρ' σ τ := ⟨h.1, fun i d e => by
 obtain ⟨v, e1, r⟩ := h.2 i d e
 exact ⟨v, e1, r.mono f⟩⟩
theorem vB.set {i : Nat} {d : D} {v : V} (h : vB K mg H ρ σ τ) (r : Rep K mg ρ H d v) : vB K mg H ρ (σ.set i (some v)) (τ.set i (some d)) := by
 refine ⟨by simp [h.1], fun j e he => ?_⟩
 by_cases hj : i = j
 ·subst hj
  rw [List.getElem?_set] at he
  by_cases hi : i < τ.length
  ·rw [if_pos rfl, if_pos hi] at he
   cases he
   exact ⟨v, by rw [List.getElem?_set, if_pos rfl, if_pos (by rw [h.1]; exact hi)], r⟩
  ·rw [if_pos rfl, if_neg hi] at he
   cases he
 ·rw [List.getElem?_set_ne hj] at he
  obtain ⟨u, e1, r1⟩ := h.2 j e he
  exact ⟨u, by rw [List.getElem?_set_ne hj]; exact e1, r1⟩
theorem Ab.fut (ab : Ab K mg σ H τ ρ G) (f : eX K H H' ρ ρ') (hp : kh K mg H' ρ' G') : Ab K mg σ H' τ ρ' G' := ⟨ab.st.mono f, hp⟩
theorem kh.lst {n : Nat} {ds : List D} (h : kh K mg H ρ G) (e : G[n]? = some (.lst ds)) : ∃ a xs, ρ[n]? = some a ∧ H a = some (.lst xs) ∧ ay K mg ρ H ds xs := by
 obtain ⟨a, e1, xs, e2, r⟩ := h.ob n _ e
 exact ⟨a, xs, e1, e2, r⟩
theorem kh.there {n : Nat} {a : Addr} (h : kh K mg H ρ G) (e : ρ[n]? = some a) : ∃ o, H a = some o := by
 have hn : n < G.length := by rw [← h.hl]; exact (List.getElem?_eq_some_iff.mp e).1
 obtain ⟨a', e1, r⟩ := h.ob n G[n] (List.getElem?_eq_getElem hn)
 rw [e] at e1; cases e1
 cases hg : G[n] with
 | lst xs => rw [hg] at r; obtain ⟨ys, e2, _⟩ := r; exact ⟨_, e2⟩
 | dead => rw [hg] at r; exact r
 | dct kv => rw [hg] at r; obtain ⟨ys, e2, _⟩ := r; exact ⟨_, e2⟩
 | tab t => rw [hg] at r; obtain ⟨ps, c, k, e2, _⟩ := r; exact ⟨_, e2⟩
theorem kh.not_mem {p : Addr} (h : kh K mg H ρ G) (hp : H p = none) : p ∉ ρ := fun hm => by
 obtain ⟨n, hn, e⟩ := List.getElem_of_mem hm
 obtain ⟨o, q⟩ := h.there (n := n) (a := p) (by rw [List.getElem?_eq_getElem hn, e])
 rw [hp] at q; cases q
theorem Hx.mono {a : Addr} {o : DO} (f : eX K H H' ρ ρ') (he : ∀ u, H a = some u → H' a = some u) (h : Hx K mg ρ H a o) : Hx K mg ρ' H' a o := by
 cases o with
 | lst ds =>
  obtain ⟨xs, e, r⟩ := h
  exact ⟨xs, he _ e, r.mono f⟩
 | dead =>
  obtain ⟨o, e⟩ := h
  exact ⟨o, he _ e⟩
 | dct kv =>
  obtain ⟨xs, e, r⟩ := h
  exact ⟨xs, he _ e, r.mono f⟩
 | tab t =>
  obtain ⟨ps, c, k, e, q, q2, r⟩ := h
  exact ⟨ps, c, k, he _ e, q, q2, r.imp id fun ⟨c', e, z⟩ => ⟨c', e, z.mono f.gY⟩⟩
theorem kW {p : Addr} {o : HO} (hp : H p = none) (ρ : List Addr) : eX K H (upd H p o) ρ ρ := by
 refine ⟨fun a xs h => ?_, fun a q u h => by rw [aK (dM h hp)]; exact h, ⟨[], by simp⟩, fun a φ h => by rw [aK (dM h hp)]; exact h⟩
 ·rcases h with (h | ⟨q, h⟩) | h
  ·exact .inl (.inl (by rw [aK (dM h hp)]; exact h))
  ·exact .inl (.inr ⟨q, by rw [aK (dM h hp)]; exact h⟩)
  ·exact .inr h
theorem uZ {p : Addr} {xs ys : List V} (hp : H p = some (.lst xs)) (ρ : List Addr) : eX K H (upd H p (.lst ys)) ρ ρ := by
 refine ⟨fun a zs h => ?_, fun a q u h => by rw [aK (mz h hp (by intro z; cases z))]; exact h, ⟨[], by simp⟩, fun a φ h => by rw [aK (mz h hp (by intro z; cases z))]; exact h⟩
 ·rcases h with (h | ⟨q, h⟩) | h
  ·exact .inl (.inl (by rw [aK (mz h hp (by intro z; cases z))]; exact h))
  ·exact .inl (.inr ⟨q, by rw [aK (mz h hp (by intro z; cases z))]; exact h⟩)
  ·exact .inr h
theorem kh.new {p : Addr} {o : HO} (h : kh K mg H ρ G) (hp : H p = none) : kh K mg (upd H p o) ρ G :=
 ⟨h.hl, h.nd, fun n ob e => by
  obtain ⟨a, e1, r⟩ := h.ob n ob e
  exact ⟨a, e1, r.mono (kW hp ρ) fun u q => by rw [aK (dM q hp)]; exact q⟩⟩
theorem bw {α : Type} (l : List α) (a : α) : (l ++ [a])[l.length]? = some a := by simp
theorem jF (ρ : List Addr) (p : Addr) : eX K H H ρ (ρ ++ [p]) := ⟨fun _ _ h => h, fun _ _ _ h => h, ⟨[p], rfl⟩, fun _ _ h => h⟩
theorem kh.more {p : Addr} {ds : List D} {xs : List V} (h : kh K mg H ρ G) (hp : H p = none) (r : ay K mg ρ H ds xs) : kh K mg (upd H p (.lst xs)) (ρ ++ [p]) (G ++ [.lst ds]) := by
 have f : eX K H (upd H p (.lst xs)) ρ (ρ ++ [p]) := (kW hp ρ).trans (jF ρ p)
 refine ⟨by simp [h.hl], ?_, fun n ob e => ?_⟩
 ·rw [List.nodup_append]
  refine ⟨h.nd, by simp, fun a ha b hb => ?_⟩
  have e : b = p := by simpa using hb
  subst e
  rintro rfl
  exact h.not_mem hp ha
 ·by_cases hn : n < G.length
  ·rw [List.getElem?_append_left hn] at e
   obtain ⟨a, e1, r'⟩ := h.ob n ob e
   exact ⟨a, f.get e1, r'.mono f fun u q => by rw [aK (dM q hp)]; exact q⟩
  ·have hl : n < (G ++ [DO.lst ds]).length := (List.getElem?_eq_some_iff.mp e).1
   have hn' : n = G.length := by simp at hl; omega
   subst hn'
   rw [bw] at e
   cases e
   refine ⟨p, by rw [← h.hl, bw], xs, cg, r.mono f⟩
theorem kh.put {n : Nat} {a : Addr} {ds es : List D} {xs ys : List V} (h : kh K mg H ρ G) (hn : ρ[n]? = some a) (ha : H a = some (.lst xs)) (r : ay K mg ρ H es ys) : kh K mg (upd H a (.lst ys)) ρ (G.set n (.lst es)) := by
 have f : eX K H (upd H a (.lst ys)) ρ ρ := uZ ha ρ
 refine ⟨by simp [h.hl], h.nd, fun m ob e => ?_⟩
 by_cases hm : n = m
 ·subst hm
  rw [List.getElem?_set, if_pos rfl] at e
  split at e
  ·cases e
   exact ⟨a, hn, ys, cg, r.mono f⟩
  ·cases e
 ·rw [List.getElem?_set_ne hm] at e
  obtain ⟨b, e1, r'⟩ := h.ob m ob e
  have hb : b ≠ a := by
   rintro rfl
   obtain ⟨h1, D6⟩ := List.getElem?_eq_some_iff.mp hn
   obtain ⟨h2, GN⟩ := List.getElem?_eq_some_iff.mp e1
   exact hm ((List.getElem_inj h.nd).mp (D6.trans GN.symm))
  exact ⟨b, e1, r'.mono f fun u q => by rw [aK hb]; exact q⟩
end
noncomputable abbrev fC := XD → St → Hp → Prop
section
variable (K : PySem.W.Frag) (mg : Str → Option Value) (EE : fC)
noncomputable def mw (H : Hp) (σ : St) (τ : DS) (ρ : List Addr) : Out D → VK → Prop
 | .stuck, _ => False
 | .ok d G', Q => ∀ v H' ρ', eX K H H' ρ ρ' → Ab K mg σ H' τ ρ' G' → Rep K mg ρ' H' d v → Q v H'
 | .dz c G', _ => ∀ H' ρ', eX K H H' ρ ρ' → Ab K mg σ H' τ ρ' G' → EE c σ H'
noncomputable def Hy (H : Hp) (σ : St) (τ : DS) (ρ : List Addr) : Out Bool → (Bool → Hp → Prop) → Prop
 | .stuck, _ => False
 | .ok b G', Q => ∀ H' ρ', eX K H H' ρ ρ' → Ab K mg σ H' τ ρ' G' → Q b H'
 | .dz c G', _ => ∀ H' ρ', eX K H H' ρ ρ' → Ab K mg σ H' τ ρ' G' → EE c σ H'
noncomputable def My (H : Hp) (σ : St) (τ : DS) (ρ : List Addr) : Out (List D) → (List V → Hp → Prop) → Prop
 | .stuck, _ => False
 | .ok ds G', Q => ∀ vs H' ρ', eX K H H' ρ ρ' → Ab K mg σ H' τ ρ' G' → ay K mg ρ' H' ds vs → Q vs H'
 | .dz c G', _ => ∀ H' ρ', eX K H H' ρ ρ' → Ab K mg σ H' τ ρ' G' → EE c σ H'
noncomputable def dB (m : DS → M D) : TE := fun σ H Q => ∃ τ ρ G, Ab K mg σ H τ ρ G ∧ mw K mg EE H σ τ ρ (m τ G) Q
noncomputable def liftT (m : DS → M Bool) : TT := fun σ H Q => ∃ τ ρ G, Ab K mg σ H τ ρ G ∧ Hy K mg EE H σ τ ρ (m τ G) Q
noncomputable def ue (m : DS → M (List D)) : TA := fun σ H Q => ∃ τ ρ G, Ab K mg σ H τ ρ G ∧ My K mg EE H σ τ ρ (m τ G) Q
inductive Res where
 | stuck
 | nx (τ : DS) (G : DH)
 | rt (d : D) (G : DH)
 | bk (τ : DS) (G : DH)
 | ct (τ : DS) (G : DH)
 | xn (c : XD) (τ : DS) (G : DH)
noncomputable def wN (H : Hp) (ρ : List Addr) (Dd : Ends) : Res → Prop
 | .stuck => False
 | .nx τ G => ∀ σ' H' ρ', eX K H H' ρ ρ' → Ab K mg σ' H' τ ρ' G → Dd.nx σ' H'
 | .bk τ G => ∀ σ' H' ρ', eX K H H' ρ ρ' → Ab K mg σ' H' τ ρ' G → Dd.bk σ' H'
 | .ct τ G => ∀ σ' H' ρ', eX K H H' ρ ρ' → Ab K mg σ' H' τ ρ' G → Dd.ct σ' H'
 | .rt d G => ∀ v H' ρ', eX K H H' ρ ρ' → kh K mg H' ρ' G → Rep K mg ρ' H' d v → Dd.rt v H'
 | .xn c τ G => ∀ σ' H' ρ', eX K H H' ρ ρ' → Ab K mg σ' H' τ ρ' G → EE c σ' H'
noncomputable abbrev MS := DS → DH → Res
noncomputable def iK (m : MS) : TS := fun Dd σ H => ∃ τ ρ G, Ab K mg σ H τ ρ G ∧ wN K mg EE H ρ Dd (m τ G)
end
section
variable {K : PySem.W.Frag} {mg : Str → Option Value} {EE : fC} {H H1 : Hp} {σ : L2.St} {τ : DS} {ρ ρ1 : List Addr}
theorem mw.fut {r : Out D} {Q : VK} (f : eX K H H1 ρ ρ1) (h : mw K mg EE H σ τ ρ r Q) : mw K mg EE H1 σ τ ρ1 r Q := by
 cases r with
 | stuck => exact h
 | ok d G' => exact fun v H' ρ' f' => h v H' ρ' (f.trans f')
 | dz c G' => exact fun H' ρ' f' => h H' ρ' (f.trans f')
theorem Hy.fut {r : Out Bool} {Q : Bool → Hp → Prop} (f : eX K H H1 ρ ρ1) (h : Hy K mg EE H σ τ ρ r Q) : Hy K mg EE H1 σ τ ρ1 r Q := by
 cases r with
 | stuck => exact h
 | ok d G' => exact fun H' ρ' f' => h H' ρ' (f.trans f')
 | dz c G' => exact fun H' ρ' f' => h H' ρ' (f.trans f')
theorem My.fut {r : Out (List D)} {Q : List V → Hp → Prop} (f : eX K H H1 ρ ρ1) (h : My K mg EE H σ τ ρ r Q) : My K mg EE H1 σ τ ρ1 r Q := by
 cases r with
 | stuck => exact h
 | ok d G' => exact fun v H' ρ' f' => h v H' ρ' (f.trans f')
 | dz c G' => exact fun H' ρ' f' => h H' ρ' (f.trans f')
theorem wN.fut {r : Res} {Dd : Ends} (f : eX K H H1 ρ ρ1) (h : wN K mg EE H ρ Dd r) : wN K mg EE H1 ρ1 Dd r := by
 cases r with
 | stuck => exact h
 | nx τ G => exact fun s H' ρ' f' => h s H' ρ' (f.trans f')
 | bk τ G => exact fun s H' ρ' f' => h s H' ρ' (f.trans f')
 | ct τ G => exact fun s H' ρ' f' => h s H' ρ' (f.trans f')
 | rt d G => exact fun s H' ρ' f' => h s H' ρ' (f.trans f')
 | xn c τ G => exact fun s H' ρ' f' => h s H' ρ' (f.trans f')
theorem tH {m : DS → M D} {k : DS → D → M D} {Q : VK} (h : dB K mg EE (fun τ => (m τ).bind (k τ)) σ H Q) :
  dB K mg EE m σ H fun x H1 => ∃ τ ρ G d, Ab K mg σ H1 τ ρ G ∧ Rep K mg ρ H1 d x ∧ mw K mg EE H1 σ τ ρ (k τ d G) Q := by
 obtain ⟨τ, ρ, G, ab, ok⟩ := h
 refine ⟨τ, ρ, G, ab, ?_⟩
 dsimp only [M.bind] at ok
 cases e : m τ G with
 | stuck => rw [e] at ok; exact ok
 | dz c G' => rw [e] at ok; exact ok
 | ok d G' => rw [e] at ok; exact fun v H' ρ' f cB r => ⟨τ, ρ', G', d, cB, r, ok.fut f⟩
theorem Ey {m : DS → M D} {k : DS → D → M Bool} {Q : Bool → Hp → Prop} (h : liftT K mg EE (fun τ => (m τ).bind (k τ)) σ H Q) :
  dB K mg EE m σ H fun x H1 => ∃ τ ρ G d, Ab K mg σ H1 τ ρ G ∧ Rep K mg ρ H1 d x ∧ Hy K mg EE H1 σ τ ρ (k τ d G) Q := by
 obtain ⟨τ, ρ, G, ab, ok⟩ := h
 refine ⟨τ, ρ, G, ab, ?_⟩
 dsimp only [M.bind] at ok
 cases e : m τ G with
 | stuck => rw [e] at ok; exact ok
 | dz c G' => rw [e] at ok; exact ok
 | ok d G' => rw [e] at ok; exact fun v H' ρ' f cB r => ⟨τ, ρ', G', d, cB, r, ok.fut f⟩
theorem Kw {m : DS → M Bool} {k : DS → Bool → M D} {Q : VK} (h : dB K mg EE (fun τ => (m τ).bind (k τ)) σ H Q) :
  liftT K mg EE m σ H fun b H1 => ∃ τ ρ G, Ab K mg σ H1 τ ρ G ∧ mw K mg EE H1 σ τ ρ (k τ b G) Q := by
 obtain ⟨τ, ρ, G, ab, ok⟩ := h
 refine ⟨τ, ρ, G, ab, ?_⟩
 dsimp only [M.bind] at ok
 cases e : m τ G with
 | stuck => rw [e] at ok; exact ok
 | dz c G' => rw [e] at ok; exact ok
 | ok d G' => rw [e] at ok; exact fun H' ρ' f cB => ⟨τ, ρ', G', cB, ok.fut f⟩
theorem Bj {m : DS → M Bool} {k : DS → Bool → M Bool} {Q : Bool → Hp → Prop} (h : liftT K mg EE (fun τ => (m τ).bind (k τ)) σ H Q) :
  liftT K mg EE m σ H fun b H1 => ∃ τ ρ G, Ab K mg σ H1 τ ρ G ∧ Hy K mg EE H1 σ τ ρ (k τ b G) Q := by
 obtain ⟨τ, ρ, G, ab, ok⟩ := h
 refine ⟨τ, ρ, G, ab, ?_⟩
 dsimp only [M.bind] at ok
 cases e : m τ G with
 | stuck => rw [e] at ok; exact ok
 | dz c G' => rw [e] at ok; exact ok
 | ok d G' => rw [e] at ok; exact fun H' ρ' f cB => ⟨τ, ρ', G', cB, ok.fut f⟩
theorem Ky {m : DS → M D} {k : DS → D → M (List D)} {Q : List V → Hp → Prop} (h : ue K mg EE (fun τ => (m τ).bind (k τ)) σ H Q) :
  dB K mg EE m σ H fun x H1 => ∃ τ ρ G d, Ab K mg σ H1 τ ρ G ∧ Rep K mg ρ H1 d x ∧ My K mg EE H1 σ τ ρ (k τ d G) Q := by
 obtain ⟨τ, ρ, G, ab, ok⟩ := h
 refine ⟨τ, ρ, G, ab, ?_⟩
 dsimp only [M.bind] at ok
 cases e : m τ G with
 | stuck => rw [e] at ok; exact ok
 | dz c G' => rw [e] at ok; exact ok
 | ok d G' => rw [e] at ok; exact fun v H' ρ' f cB r => ⟨τ, ρ', G', d, cB, r, ok.fut f⟩
theorem tK {m : DS → M (List D)} {k : DS → List D → M D} {Q : VK} (h : dB K mg EE (fun τ => (m τ).bind (k τ)) σ H Q) :
  ue K mg EE m σ H fun x H1 => ∃ τ ρ G d, Ab K mg σ H1 τ ρ G ∧ ay K mg ρ H1 d x ∧ mw K mg EE H1 σ τ ρ (k τ d G) Q := by
 obtain ⟨τ, ρ, G, ab, ok⟩ := h
 refine ⟨τ, ρ, G, ab, ?_⟩
 dsimp only [M.bind] at ok
 cases e : m τ G with
 | stuck => rw [e] at ok; exact ok
 | dz c G' => rw [e] at ok; exact ok
 | ok d G' => rw [e] at ok; exact fun v H' ρ' f cB r => ⟨τ, ρ', G', d, cB, r, ok.fut f⟩
noncomputable def cT {α : Type} (m : M α) (k : α → DH → Res) (x : XD → DH → Res) : DH → Res := fun G => match m G with
 | .stuck => .stuck
 | .ok a G' => k a G'
 | .dz c G' => x c G'
theorem yt {m : DS → M D} {k : DS → D → DH → Res} {Dd : Ends} (h : iK K mg EE (fun τ => cT (m τ) (k τ) fun c G => .xn c τ G) Dd σ H) :
  dB K mg EE m σ H fun x H1 => ∃ τ ρ G d, Ab K mg σ H1 τ ρ G ∧ Rep K mg ρ H1 d x ∧ wN K mg EE H1 ρ Dd (k τ d G) := by
 obtain ⟨τ, ρ, G, ab, ok⟩ := h
 refine ⟨τ, ρ, G, ab, ?_⟩
 dsimp only [cT] at ok
 cases e : m τ G with
 | stuck => rw [e] at ok; exact ok
 | dz c G' => rw [e] at ok; exact fun H' ρ' f cB => ok σ H' ρ' f cB
 | ok d G' => rw [e] at ok; exact fun v H' ρ' f cB r => ⟨τ, ρ', G', d, cB, r, ok.fut f⟩
theorem Ez {m : DS → M Bool} {k : DS → Bool → DH → Res} {Dd : Ends} (h : iK K mg EE (fun τ => cT (m τ) (k τ) fun c G => .xn c τ G) Dd σ H) :
  liftT K mg EE m σ H fun b H1 => ∃ τ ρ G, Ab K mg σ H1 τ ρ G ∧ wN K mg EE H1 ρ Dd (k τ b G) := by
 obtain ⟨τ, ρ, G, ab, ok⟩ := h
 refine ⟨τ, ρ, G, ab, ?_⟩
 dsimp only [cT] at ok
 cases e : m τ G with
 | stuck => rw [e] at ok; exact ok
 | dz c G' => rw [e] at ok; exact fun H' ρ' f cB => ok σ H' ρ' f cB
 | ok d G' => rw [e] at ok; exact fun H' ρ' f cB => ⟨τ, ρ', G', cB, ok.fut f⟩
end
noncomputable def QE (X : Cx) (EE : fC) (e : Expr) (m : DS → M D) : Prop := PE X e (dB X.K X.mg EE m)
noncomputable def QT (X : Cx) (EE : fC) (e : Expr) (m : DS → M Bool) : Prop := PT X e (liftT X.K X.mg EE m)
noncomputable def QW (X : Cx) (EE : fC) (e : Expr) (m : DS → M Bool) : Prop := PW X e (liftT X.K X.mg EE m)
noncomputable def QA (X : Cx) (EE : fC) (es : List Expr) (m : DS → M (List D)) : Prop := PA X es (ue X.K X.mg EE m)
noncomputable def QS (X : Cx) (EE : fC) (st : Stmt) (m : MS) : Prop := PS X st (iK X.K X.mg EE m)
noncomputable def A1 (X : Cx) (EE : fC) (st : List Stmt) (m : MS) : Prop := A5 X st (iK X.K X.mg EE m)
section
variable {X : Cx}
theorem PE.mono {e : Expr} {t t' : TE} (h : PE X e t) (i : ∀ σ H Q, t' σ H Q → t σ H Q) : PE X e t' := fun pins s σ H Q I q => h pins s σ H Q I (i _ _ _ q)
theorem PT.mono {e : Expr} {t t' : TT} (h : PT X e t) (i : ∀ σ H Q, t' σ H Q → t σ H Q) : PT X e t' := fun pins s σ H Q I q => h pins s σ H Q I (i _ _ _ q)
theorem PA.mono {e : List Expr} {t t' : TA} (h : PA X e t) (i : ∀ σ H Q, t' σ H Q → t σ H Q) : PA X e t' := fun pos pins s σ H Q I q => h pos pins s σ H Q I (i _ _ _ q)
theorem PS.mono {e : Stmt} {t t' : TS} (h : PS X e t) (i : ∀ D σ H, t' D σ H → t D σ H) : PS X e t' := fun pins s σ H D I q => h pins s σ H D I (i _ _ _ q)
theorem A5.mono {e : List Stmt} {t t' : TS} (h : A5 X e t) (i : ∀ D σ H, t' D σ H → t D σ H) : A5 X e t' := fun pins s σ H D I q => h pins s σ H D I (i _ _ _ q)
end
end L3
end
section
set_option Elab.async false
set_option linter.all false
set_option maxRecDepth 100000
namespace L3
open PySem PySem.Spec L2
section
variable {X : Cx} {EE : fC} {a b c : Expr} {ma mb mc : DS → M D} {pos : Pos}
noncomputable def ai (i : Nat) : DS → M D := fun τ G => match τ[i]? with
 | some (some d) => .ok d G
 | _ => .stuck
noncomputable def eC (d : D) : DS → M D := fun _ => M.ret d
theorem Kz (i : Nat) {x : Str} {pos : Pos} (hN : X.N[i]? = some x := by rfl) (hv : IZ X.env.scope x := by first | exact Or.inl rfl | exact Or.inr (Or.inl rfl) | exact Or.inr (Or.inr rfl)) (hd : (x == ("__debug__" : Str)) = false := by decide)
  (hcd : (x == ("__classdict__" : Str)) = false := by decide) : QE X EE (.Name x pos) (ai i) := PE.mono (A6 hN hv hd hcd) fun σ H Q ⟨τ, ρ, G, ab, ok⟩ => by
 unfold ai at ok
 cases e : τ[i]? with
 | none => rw [e] at ok; exact ok.elim
 | some o =>
  cases o with
  | none => rw [e] at ok; exact ok.elim
  | some d =>
   rw [e] at ok
   obtain ⟨v, e1, r⟩ := ab.st.2 i d e
   exact ⟨v, e1, ok v H ρ .refl ab r⟩
theorem EA {d : D} {v : V} {e : Expr} (h : PE X e (tC v)) (r : ∀ ρ H, Rep X.K X.mg ρ H d v) : QE X EE e (eC d) := PE.mono h fun σ H Q ⟨τ, ρ, G, ab, ok⟩ => ok v H ρ .refl ab (r ρ H)
theorem au {i : Int} {j pos} : QE X EE (.Constant (.int i) j pos) (eC (.int i)) := EA JM fun _ _ => by unfold Rep; rfl
theorem EB {i : Bool} {j pos} : QE X EE (.Constant (.bool i) j pos) (eC (.bl i)) := EA L0 fun _ _ => by unfold Rep; rfl
theorem n6 {x j pos} : QE X EE (.Constant (.str x) j pos) (eC (.str x)) := EA JN fun _ _ => by unfold Rep; rfl
noncomputable def EC (K : PySem.W.Frag) (mg : Str → Option Value) (x : Str) (d : D) : Prop := ∃ u v, mg x = some u ∧ RelV v u ∧ ∀ ρ H, Rep K mg ρ H d v
theorem Hz {x : Str} {d : D} {pos : Pos} (h : EC X.K X.mg x d) (hg : Gl X x := by rfl) (hd : (x == ("__debug__" : Str)) = false := by decide) : QE X EE (.Name x pos) (eC d) := by
 obtain ⟨u, v, hm, r, hr⟩ := h
 exact EA (BZ hg hm r hd) hr
noncomputable def aM (f : D → D → M D) (ma mb : DS → M D) : DS → M D := fun τ => (ma τ).bind fun x => (mb τ).bind fun y => f x y
noncomputable def HA (X : Cx) (EE : fC) (r : R2) (f : D → D → M D) : Prop := ∀ (σ : L2.St) (H : Hp) (τ : DS) (ρ : List Addr) (G : DH) (x y : V) (d e : D) (Q : VK),
 Ab X.K X.mg σ H τ ρ G → Rep X.K X.mg ρ H d x → Rep X.K X.mg ρ H e y → mw X.K X.mg EE H σ τ ρ (f d e G) Q → r x y H Q
theorem u0 {f : D → D → M D} {r : R2} (hd : HA X EE r f) {σ : L2.St} {H : Hp} {Q : VK} (h : dB X.K X.mg EE (aM f ma mb) σ H Q) :
  Mc r (dB X.K X.mg EE ma) (dB X.K X.mg EE mb) σ H Q := by
 obtain ⟨τ, ρ, G, ab, ok⟩ := tH (k := fun τ x => (mb τ).bind fun y => f x y) h
 refine ⟨τ, ρ, G, ab, ?_⟩
 cases e : ma τ G with
 | stuck => rw [e] at ok; exact ok
 | dz c G' => rw [e] at ok; exact ok
 | ok d G' =>
  rw [e] at ok
  intro v H' ρ' f' cB r'
  obtain ⟨τ2, ρ2, G2, d2, eu, r2, aI⟩ := ok v H' ρ' f' cB r'
  refine ⟨τ2, ρ2, G2, eu, ?_⟩
  dsimp only [M.bind] at aI
  cases e2 : mb τ2 G2 with
  | stuck => rw [e2] at aI; exact aI
  | dz c G' => rw [e2] at aI; exact aI
  | ok d3 G3 =>
   rw [e2] at aI
   exact fun v3 H3 ρ3 f3 zK r3 => hd σ H3 τ2 ρ3 G3 v v3 d2 d3 Q zK (r2.mono f3) r3 (aI.fut f3)
theorem xF {op : Operator} {r : R2} {f : D → D → M D} (ho : qy X (binaryOp op) r) (hd : HA X EE r f) (ha : QE X EE a ma) (hb : QE X EE b mb) : QE X EE (.BinOp a op b pos) (aM f ma mb) :=
 PE.mono (Me ho ha hb) fun _ _ _ h => u0 hd h
theorem KA {op : CmpOp} {r : R2} {f : D → D → M D} (ho : qy X (compareOp op) r) (hd : HA X EE r f) (ha : QE X EE a ma) (hb : QE X EE b mb) (hm : behindInMarks op b = false) : QE X EE (.Compare a [op] [b] pos) (aM f ma mb) :=
 PE.mono (G8 ho ha hb hm) fun _ _ _ h => u0 hd h
theorem Mz {r : R2} {f : D → D → M D} (ho : LH X r) (hd : HA X EE r f) (ha : QE X EE a ma) (hb : QE X EE b mb) (hs : uX b := by intro _ _; rfl) : QE X EE (.Subscript a b pos) (aM f ma mb) :=
 PE.mono (Mt ho ha hb hs) fun _ _ _ h => u0 hd h
noncomputable def mC (C : Int → Int → Bool) (g : Int → Int → D) : D → D → M D
 | .int i, .int j => if C i j then M.ret (g i j) else M.stop
 | _, _ => M.stop
theorem B7 {C : Int → Int → Bool} {g : Int → Int → D} {d e : D} {G : DH} {σ : L2.St} {H : Hp} {τ : DS} {ρ : List Addr} {Q : VK} (ok : mw X.K X.mg EE H σ τ ρ (mC C g d e G) Q) :
  ∃ i j, d = .int i ∧ e = .int j ∧ C i j = true ∧ mw X.K X.mg EE H σ τ ρ (.ok (g i j) G) Q := by
 cases d <;> cases e <;> try exact ok.elim
 rename_i i j
 dsimp only [mC] at ok
 cases hc : C i j with
 | false => rw [hc] at ok; exact ok.elim
 | true => rw [hc] at ok; exact ⟨i, j, rfl, rfl, hc, ok⟩
theorem u6 {C : Int → Int → Bool} {P : Int → Int → Prop} {g : Int → Int → D} {gv : Int → Int → V} (hC : ∀ i j, C i j = true → P i j) (hg : ∀ i j ρ H, Rep X.K X.mg ρ H (g i j) (gv i j)) : HA X EE (rI P gv) (mC C g) :=
 fun σ H τ ρ G x y d e Q ab r1 r2 ok => by
  obtain ⟨i, j, rfl, rfl, hc, ok⟩ := B7 ok
  unfold Rep at r1 r2
  exact ⟨i, j, r1, r2, hC i j hc, ok _ H ρ .refl ab (hg i j ρ H)⟩
theorem vC {g : Int → Int → D} {gv : Int → Int → V} (hg : ∀ i j ρ H, Rep X.K X.mg ρ H (g i j) (gv i j)) : HA X EE (J1 gv) (mC (fun _ _ => true) g) :=
 fun σ H τ ρ G x y d e Q ab r1 r2 ok => by
  obtain ⟨i, j, rfl, rfl, hc, ok⟩ := B7 ok
  unfold Rep at r1 r2
  exact ⟨i, j, r1, r2, ok _ H ρ .refl ab (hg i j ρ H)⟩
noncomputable abbrev mD := mC (fun _ _ => true) fun i j => .int (i - j)
noncomputable abbrev zL := mC (fun i j => (decide (-(2 ^ 64) < i) && decide (i < 2 ^ 64)) || (decide (-(2 ^ 64) < j) && decide (j < 2 ^ 64))) fun i j => .int (i * j)
noncomputable abbrev nQ := mC (fun _ j => decide (0 < j) && decide (j < 1073741824)) fun i j => .int (i / j)
noncomputable abbrev g7 := mC (fun _ j => decide (0 < j)) fun i j => .int (i % j)
noncomputable abbrev C8 := mC (fun _ _ => true) fun i j => .bl (decide (i < j))
noncomputable abbrev zM := mC (fun _ _ => true) fun i j => .bl (decide (j < i))
theorem mX (ha : QE X EE a ma) (hb : QE X EE b mb) : QE X EE (.BinOp a .Sub b pos) (aM mD ma mb) := xF J5 (vC fun _ _ _ _ => by unfold Rep; rfl) ha hb
theorem qB (ha : QE X EE a ma) (hb : QE X EE b mb) : QE X EE (.BinOp a .Mult b pos) (aM zL ma mb) := xF J6 (u6 (fun i j h => by
 simp only [Bool.or_eq_true, Bool.and_eq_true, decide_eq_true_eq] at h; exact h) fun _ _ _ _ => by unfold Rep; rfl) ha hb
theorem kX (ha : QE X EE a ma) (hb : QE X EE b mb) : QE X EE (.BinOp a .FloorDiv b pos) (aM nQ ma mb) := xF G7 (u6 (fun i j h => by
 simp only [Bool.and_eq_true, decide_eq_true_eq] at h; exact h) fun _ _ _ _ => by unfold Rep; rfl) ha hb
theorem eY (ha : QE X EE a ma) (hb : QE X EE b mb) : QE X EE (.BinOp a .Mod b pos) (aM g7 ma mb) := xF J7 (u6 (fun i j h => of_decide_eq_true h) fun _ _ _ _ => by unfold Rep; rfl) ha hb
noncomputable def bU (ds : List D) : M D := fun G => if ds.length ≤ sizeLine then .ok (.obj G.length) (G ++ [.lst ds]) else .stuck
noncomputable def bY (ds : List D) : M D := fun G => if ds.length ≤ sizeLine then .ok (.tup ds) G else .stuck
theorem tL {σ : L2.St} {H : Hp} {τ : DS} {ρ : List Addr} {G : DH} {ds : List D} {vs : List V} {Q : VK} (ab : Ab X.K X.mg σ H τ ρ G) (r : ay X.K X.mg ρ H ds vs) (ok : mw X.K X.mg EE H σ τ ρ (bU ds G) Q) :
  vs.length ≤ sizeLine ∧ ∀ p, H p = none → Q (.ref p) (upd H p (.lst vs)) := by
 unfold bU at ok
 split at ok
 ·rename_i hl
  rw [r.length] at hl
  refine ⟨hl, fun p hp => ?_⟩
  have f : eX X.K H (upd H p (.lst vs)) ρ (ρ ++ [p]) := (kW hp ρ).trans (jF ρ p)
  refine ok (.ref p) _ (ρ ++ [p]) f (ab.fut f (ab.hp.more hp r)) ?_
  unfold Rep
  exact ⟨p, rfl, by rw [← ab.hp.hl, bw]⟩
 ·exact ok.elim
theorem yu {σ : L2.St} {H : Hp} {τ : DS} {ρ : List Addr} {G : DH} {ds : List D} {vs : List V} {Q : VK} (ab : Ab X.K X.mg σ H τ ρ G) (r : ay X.K X.mg ρ H ds vs) (ok : mw X.K X.mg EE H σ τ ρ (bY ds G) Q) :
  vs.length ≤ sizeLine ∧ ∀ p, H p = none → Q (.ref p) (upd H p (.tup vs)) := by
 unfold bY at ok
 split at ok
 ·rename_i hl
  rw [r.length] at hl
  refine ⟨hl, fun p hp => ?_⟩
  have f : eX X.K H (upd H p (.tup vs)) ρ ρ := kW hp ρ
  refine ok (.ref p) _ ρ f (ab.fut f (ab.hp.new hp)) ?_
  unfold Rep
  exact ⟨p, vs, rfl, .of cg, r.mono f⟩
 ·exact ok.elim
noncomputable def aq : DS → M (List D) := fun _ => M.ret []
noncomputable def af (m : DS → M D) (r : DS → M (List D)) : DS → M (List D) := fun τ => (m τ).bind fun x => (r τ).bind fun xs => M.ret (x :: xs)
theorem aj : QA X EE [] aq := PA.mono Eo fun σ H Q ⟨τ, ρ, G, ab, ok⟩ => ok [] H ρ .refl ab .nil
theorem HB {e : Expr} {es : List Expr} {m : DS → M D} {r : DS → M (List D)} (ha : QE X EE e m) (hr : QA X EE es r) (hs : starEach (e :: es) X.env = (false, eval e X.env) :: starEach es X.env := by rfl) : QA X EE (e :: es) (af m r) :=
 PA.mono (ym ha hr hs) fun σ H Q h => by
  obtain ⟨τ, ρ, G, ab, ok⟩ := Ky (k := fun τ x => (r τ).bind fun xs => M.ret (x :: xs)) h
  refine ⟨τ, ρ, G, ab, ?_⟩
  cases e : m τ G with
  | stuck => rw [e] at ok; exact ok
  | dz c G' => rw [e] at ok; exact ok
  | ok d G' =>
   rw [e] at ok
   intro v H' ρ' f' cB r'
   obtain ⟨τ2, ρ2, G2, d2, eu, r2, aI⟩ := ok v H' ρ' f' cB r'
   refine ⟨τ2, ρ2, G2, eu, ?_⟩
   dsimp only [M.bind] at aI
   cases e2 : r τ2 G2 with
   | stuck => rw [e2] at aI; exact aI
   | dz c G' => rw [e2] at aI; exact aI
   | ok d3 G3 =>
    rw [e2] at aI
    exact fun v3 H3 ρ3 f3 zK r3 => aI (v :: v3) H3 ρ3 f3 zK (.cons (r2.mono f3) r3)
noncomputable def av (f : List D → M D) (m : DS → M (List D)) : DS → M D := fun τ => (m τ).bind f
theorem pe {m : DS → M (List D)} {f : List D → M D} {r : List V → Hp → VK → Prop} {σ : L2.St} {H : Hp} {Q : VK}
  (hd : ∀ (H : Hp) (τ : DS) (ρ : List Addr) (G : DH) (xs : List V) (ds : List D), Ab X.K X.mg σ H τ ρ G → ay X.K X.mg ρ H ds xs → mw X.K X.mg EE H σ τ ρ (f ds G) Q → r xs H Q)
  (h : dB X.K X.mg EE (av f m) σ H Q) : ue X.K X.mg EE m σ H fun xs H1 => r xs H1 Q := by
 obtain ⟨τ, ρ, G, ab, ok⟩ := tK (k := fun _ => f) h
 refine ⟨τ, ρ, G, ab, ?_⟩
 cases e : m τ G with
 | stuck => rw [e] at ok; exact ok
 | dz c G' => rw [e] at ok; exact ok
 | ok d G' =>
  rw [e] at ok
  intro v H' ρ' f' cB r'
  obtain ⟨τ2, ρ2, G2, d2, eu, r2, aI⟩ := ok v H' ρ' f' cB r'
  exact hd H' τ2 ρ2 G2 v d2 eu r2 aI
theorem dN {es : List Expr} {m : DS → M (List D)} {x1} (h : QA X EE es m) : QE X EE (.Tuple es x1 pos) (av bY m) :=
 PE.mono (Ke h) fun σ H Q h => pe (r := fun xs H1 Q => xs.length ≤ sizeLine ∧ ∀ p, H1 p = none → Q (.ref p) (upd H1 p (.tup xs))) (fun H τ ρ G xs ds ab r ok => yu ab r ok) h
theorem gR {es : List Expr} {m : DS → M (List D)} (h : QA X EE es m) : QE X EE (.List es pos) (av bU m) :=
 PE.mono (Kf h) fun σ H Q h => pe (r := fun xs H1 Q => xs.length ≤ sizeLine ∧ ∀ p, H1 p = none → Q (.ref p) (upd H1 p (.lst xs))) (fun H τ ρ G xs ds ab r ok => tL ab r ok) h
noncomputable def CallD (X : Cx) (EE : fC) (r : List V → Hp → VK → Prop) (f : List D → M D) : Prop := ∀ (σ : L2.St) (H : Hp) (τ : DS) (ρ : List Addr) (G : DH) (xs : List V) (ds : List D) (Q : VK),
 Ab X.K X.mg σ H τ ρ G → ay X.K X.mg ρ H ds xs → mw X.K X.mg EE H σ τ ρ (f ds G) Q → r xs H Q
theorem ED {x : Str} {p : Pos} {e : Expr} {es : List Expr} {m : DS → M (List D)} {id : String} {r : List V → Hp → VK → Prop} {f : List D → M D} (hc : jC X (.builtin id) r) (hd : CallD X EE r f) (hm : X.mg x = none) (ha : QA X EE (e :: es) m)
  (hg : Gl X x := by rfl) (hv : bootBuiltins x = some (.builtin id) := by first | rfl | decide) (hn : x ≠ "__name__" := by decide) (hdb : (x == ("__debug__" : Str)) = false := by decide)
  (he : starEach (e :: es) X.env = (false, eval e X.env) :: starEach es X.env := by rfl) (hpl : (backTo pos (starEach es X.env)).any (·.1) = false := by rfl) : QE X EE (.Call (.Name x p) (e :: es) [] pos) (av f m) :=
 PE.mono (Ep hc hg hm hv ha hn hdb he hpl) fun σ H Q h => pe (r := r) (fun H τ ρ G xs ds ab r ok => hd σ H τ ρ G xs ds Q ab r ok) h
theorem C9 {x : Str} {p : Pos} {e : Expr} {es : List Expr} {m : DS → M (List D)} {T : String} {r : List V → Hp → VK → Prop} {f : List D → M D} (hc : jC X (.type T) r) (hd : CallD X EE r f) (hm : X.mg x = none) (ha : QA X EE (e :: es) m)
  (hg : Gl X x := by rfl) (hv : bootBuiltins x = some (.type T) := by first | rfl | decide) (hn : x ≠ "__name__" := by decide) (hdb : (x == ("__debug__" : Str)) = false := by decide)
  (he : starEach (e :: es) X.env = (false, eval e X.env) :: starEach es X.env := by rfl) (hpl : (backTo pos (starEach es X.env)).any (·.1) = false := by rfl) : QE X EE (.Call (.Name x p) (e :: es) [] pos) (av f m) :=
 PE.mono (C5 hc hg hm hv ha hn hdb he hpl) fun σ H Q h => pe (r := r) (fun H τ ρ G xs ds ab r ok => hd σ H τ ρ G xs ds Q ab r ok) h
noncomputable def qC (f : D → M Bool) (m : DS → M D) : DS → M Bool := fun τ => (m τ).bind f
noncomputable def tM : D → M Bool
 | .jd => M.ret false
 | .bl b => M.ret b
 | .int i => M.ret (i != 0)
 | .str y => if y.length ≤ sizeLine then M.ret ((y.length : Int) != 0) else M.stop
 | .tup xs => M.ret (!xs.isEmpty)
 | .con xs => M.ret (!xs.isEmpty)
 | .obj n => fun G => match G[n]? with
  | some (.lst xs) => .ok (!xs.isEmpty) G
  | _ => .stuck
 | .fn _ => M.stop
 | .xE _ _ => M.stop
 | .lN _ _ => M.stop
theorem mY {K : PySem.W.Frag} {mg : Str → Option Value} {ρ : List Addr} {H : Hp} {ds : List D} {vs : List V} (r : ay K mg ρ H ds vs) : (!vs.isEmpty) = !ds.isEmpty := by
 have := r.length
 cases ds <;> cases vs <;> first | rfl | (simp at this)
theorem EF {m : DS → M D} {σ : L2.St} {H : Hp} {Q : Bool → Hp → Prop} (h : liftT X.K X.mg EE (qC tM m) σ H Q) :
  dB X.K X.mg EE m σ H fun x H1 => ∃ k, Kc X.K x H1 k ∧ Q k H1 := by
 obtain ⟨τ, ρ, G, ab, ok⟩ := Ey (k := fun _ => tM) h
 refine ⟨τ, ρ, G, ab, ?_⟩
 cases e : m τ G with
 | stuck => rw [e] at ok; exact ok
 | dz c G' => rw [e] at ok; exact ok
 | ok d G' =>
  rw [e] at ok
  intro v H' ρ' f' cB r'
  obtain ⟨τ2, ρ2, G2, d2, eu, r2, aI⟩ := ok v H' ρ' f' cB r'
  cases d2 with
  | jd => unfold Rep at r2; subst r2; exact ⟨false, rfl, aI H' ρ2 .refl eu⟩
  | bl b => unfold Rep at r2; subst r2; exact ⟨b, rfl, aI H' ρ2 .refl eu⟩
  | int i => unfold Rep at r2; subst r2; exact ⟨_, rfl, aI H' ρ2 .refl eu⟩
  | str y =>
   unfold Rep at r2; subst r2
   dsimp only [tM] at aI
   split at aI
   ·rename_i hl; exact ⟨_, ⟨hl, rfl⟩, aI H' ρ2 .refl eu⟩
   ·exact aI.elim
  | tup xs =>
   unfold Rep at r2
   obtain ⟨p, vs, rfl, sq, rs⟩ := r2
   exact ⟨!vs.isEmpty, .inr (.inl ⟨vs, sq, rfl⟩), by rw [mY rs]; exact aI H' ρ2 .refl eu⟩
  | con xs =>
   unfold Rep at r2
   obtain ⟨p, vs, rfl, sq, rs⟩ := r2
   exact ⟨!vs.isEmpty, .inl ⟨vs, sq.seq, rfl⟩, by rw [mY rs]; exact aI H' ρ2 .refl eu⟩
  | obj n =>
   unfold Rep at r2
   obtain ⟨p, rfl, e1⟩ := r2
   dsimp only [tM] at aI
   cases q : G2[n]? with
   | none => rw [q] at aI; exact aI.elim
   | some o =>
    cases o with
    | dead => first | (rw [q] at ok; exact ok.elim) | (rw [q] at aI; exact aI.elim) | (rw [q] at e; cases e; done) | (rw [g] at ok; exact ok.elim) | (rw [g] at q; cases q; done) | (rw [g] at h; cases h; done) | (rw [g2] at ok; exact ok.elim) | (rw [g1, g2] at ok; exact ok.elim) | (rw [q1] at ok; exact ok.elim) | exact ok.elim
    | dct kv => first | (rw [q] at ok; exact ok.elim) | (rw [q] at aI; exact aI.elim) | (rw [q] at e; cases e; done) | (rw [g] at ok; exact ok.elim) | (rw [g] at q; cases q; done) | (rw [g] at h; cases h; done) | (rw [g2] at ok; exact ok.elim) | (rw [g1, g2] at ok; exact ok.elim) | (rw [q1] at ok; exact ok.elim) | exact ok.elim
    | tab y0 => first | (rw [q] at ok; exact ok.elim) | (rw [q] at aI; exact aI.elim) | (rw [q] at e; cases e; done) | (rw [g] at ok; exact ok.elim) | (rw [g] at q; cases q; done) | (rw [g] at h; cases h; done) | (rw [g2] at ok; exact ok.elim) | (rw [g1, g2] at ok; exact ok.elim) | (rw [q1] at ok; exact ok.elim) | exact ok.elim
    | lst xs =>
     rw [q] at aI
     obtain ⟨p', vs, e2, hp, rs⟩ := eu.hp.lst q
     rw [e1] at e2; cases e2
     exact ⟨!vs.isEmpty, .inl ⟨vs, .of hp, rfl⟩, by rw [mY rs]; exact aI H' ρ2 .refl eu⟩
  | fn x => exact aI.elim
  | xE c as => exact aI.elim
  | lN y0 c0 => exact aI.elim
theorem KC (ha : QE X EE a ma) (he : ∀ whole, isTrue a X.env whole = (do let v ← whole; standAt a.pos; holding [v] (truthy v)) := by intro _; rfl) : QT X EE a (qC tM ma) :=
 PT.mono (El ha he) fun σ H Q h => EF h
end
end L3
end
section
set_option Elab.async false
set_option linter.all false
set_option maxRecDepth 100000
namespace L3
open PySem PySem.Spec L2
noncomputable def eZ {α β : Type} (f : α → Option β) : List α → Option (List β)
 | [] => some []
 | a :: r => match f a, eZ f r with
  | some b, some bs => some (b :: bs)
  | _, _ => none
noncomputable def nR (G : DH) : Nat → D → Option PyData
 | 0, _ => none
 | _ + 1, .jd => some .none
 | _ + 1, .bl b => some (.bool b)
 | _ + 1, .int i => some (.int i)
 | _ + 1, .str x => some (.str x)
 | n + 1, .tup ds => (eZ (nR G n) ds).map .tuple
 | n + 1, .con ds => (eZ (nR G n) ds).map .list
 | n + 1, .obj k => match G[k]? with
  | some (.lst ds) => (eZ (nR G n) ds).map .list
  | _ => none
 | _ + 1, .fn _ => none
 | _ + 1, .xE _ _ => none
 | _ + 1, .lN _ _ => none
section
variable {X : Cx} {EE : fC} {pins : List (Addr × Obj)} {σ : L2.St} {H : Hp} {s : Shared} {ρ : List Addr} {G : DH}
theorem readsAll {f : D → Option PyData} (hf : ∀ (d : D) (x : V) (u : Value) (p : PyData), Rep X.K X.mg ρ H d x → RelV x u → f d = some p → ∃ as, Reads s.heap u p as) :
  ∀ (ds : List D) (xs : List V) (us : List Value) (ps : List PyData), ay X.K X.mg ρ H ds xs → Vals xs us → eZ f ds = some ps → ∃ as, ReadsAll s.heap us ps as
 | [], xs, us, ps, r, v, e => by
  unfold ay at r; subst r
  cases v; cases e
  exact ⟨[], .nil⟩
 | d :: ds, xs, us, ps, r, v, e => by
  unfold ay at r
  obtain ⟨x, r', rfl, h1, h2⟩ := r
  cases v with
  | cons v1 v2 =>
  unfold eZ at e
  cases e1 : f d with
  | none => rw [e1] at e; cases e
  | some p =>
   cases e2 : eZ f ds with
   | none => rw [e1, e2] at e; cases e
   | some qs =>
    rw [e1, e2] at e
    cases e
    obtain ⟨as, a1⟩ := hf d x _ p h1 v1 e1
    obtain ⟨bs, a2⟩ := readsAll hf ds r' _ qs h2 v2 e2
    exact ⟨as ++ bs, .cons a1 a2⟩
theorem gp (I : Inv X pins σ H s) (hp : kh X.K X.mg H ρ G) : ∀ (n : Nat) (d : D) (x : V) (u : Value) (p : PyData), Rep X.K X.mg ρ H d x → RelV x u → nR G n d = some p → ∃ as, Reads s.heap u p as
 | 0, _, _, _, _, _, _, e => nomatch e
 | n + 1, .jd, x, u, p, r, v, e => by unfold Rep at r; subst r; cases v; cases e; exact ⟨_, .none⟩
 | n + 1, .bl b, x, u, p, r, v, e => by unfold Rep at r; subst r; cases v; cases e; exact ⟨_, .bool b⟩
 | n + 1, .int i, x, u, p, r, v, e => by unfold Rep at r; subst r; obtain ⟨t, rfl⟩ := v; cases e; exact ⟨_, .int i t⟩
 | n + 1, .str y, x, u, p, r, v, e => by unfold Rep at r; subst r; obtain ⟨t, rfl⟩ := v; cases e; exact ⟨_, .str y t⟩
 | n + 1, .tup ds, x, u, p, r, v, e => by
  unfold Rep at r
  obtain ⟨a, xs, rfl, sq, rs⟩ := r
  cases v
  obtain ⟨its, vs, ⟨o, e1, e2, k, e3⟩, _⟩ := I.tuple sq
  unfold nR at e
  cases q : eZ (nR G n) ds with
  | none => rw [q] at e; cases e
  | some ps =>
   rw [q] at e; cases e
   obtain ⟨as, ra⟩ := readsAll (fun d x u p => gp I hp n d x u p) ds xs its ps rs vs q
   exact ⟨as, .tuple e1 e2 e3 (by simpa using ra)⟩
 | n + 1, .con ds, x, u, p, r, v, e => by
  unfold Rep at r
  obtain ⟨a, xs, rfl, sq, rs⟩ := r
  cases v
  obtain ⟨its, vs, ⟨o, k, e1, e2, e3, e4⟩, _⟩ := I.list sq.seq
  unfold nR at e
  cases q : eZ (nR G n) ds with
  | none => rw [q] at e; cases e
  | some ps =>
   rw [q] at e; cases e
   obtain ⟨as, ra⟩ := readsAll (fun d x u p => gp I hp n d x u p) ds xs its ps rs vs q
   exact ⟨_, .list e1 e2 e4 (by simpa using ra)⟩
 | n + 1, .obj k, x, u, p, r, v, e => by
  unfold Rep at r
  obtain ⟨a, rfl, e0⟩ := r
  cases v
  dsimp only [nR] at e
  cases q : G[k]? with
  | none => rw [q] at e; cases e
  | some o =>
   cases o with
   | dead => first | (rw [q] at ok; exact ok.elim) | (rw [q] at aI; exact aI.elim) | (rw [q] at e; cases e; done) | (rw [g] at ok; exact ok.elim) | (rw [g] at q; cases q; done) | (rw [g] at h; cases h; done) | (rw [g2] at ok; exact ok.elim) | (rw [g1, g2] at ok; exact ok.elim) | (rw [q1] at ok; exact ok.elim) | exact ok.elim
   | dct kv => first | (rw [q] at ok; exact ok.elim) | (rw [q] at aI; exact aI.elim) | (rw [q] at e; cases e; done) | (rw [g] at ok; exact ok.elim) | (rw [g] at q; cases q; done) | (rw [g] at h; cases h; done) | (rw [g2] at ok; exact ok.elim) | (rw [g1, g2] at ok; exact ok.elim) | (rw [q1] at ok; exact ok.elim) | exact ok.elim
   | tab y0 => first | (rw [q] at ok; exact ok.elim) | (rw [q] at aI; exact aI.elim) | (rw [q] at e; cases e; done) | (rw [g] at ok; exact ok.elim) | (rw [g] at q; cases q; done) | (rw [g] at h; cases h; done) | (rw [g2] at ok; exact ok.elim) | (rw [g1, g2] at ok; exact ok.elim) | (rw [q1] at ok; exact ok.elim) | exact ok.elim
   | lst ds =>
    rw [q] at e
    obtain ⟨a', xs, e1, e2, rs⟩ := hp.lst q
    rw [e0] at e1; cases e1
    obtain ⟨its, vs, ⟨o, k, e1, e2, e3, e4⟩, _⟩ := I.list (.of e2)
    dsimp only at e
    cases q : eZ (nR G n) ds with
    | none => rw [q] at e; cases e
    | some ps =>
     rw [q] at e; cases e
     obtain ⟨as, ra⟩ := readsAll (fun d x u p => gp I hp n d x u p) ds xs its ps rs vs q
     exact ⟨_, .list e1 e2 e4 (by simpa using ra)⟩
 | n + 1, .fn y, x, u, p, r, v, e => nomatch e
 | n + 1, .xE y _, x, u, p, r, v, e => nomatch e
 | n + 1, .lN y _, x, u, p, r, v, e => nomatch e
end
section
variable {X : Cx} {EE : fC} {a b c : Expr} {ma mb mc : DS → M D} {pos : Pos}
noncomputable def rD (X : Cx) (EE : fC) (f : D → D → M D) : R2 := fun x y H Q => ∃ σ τ ρ G d e, Ab X.K X.mg σ H τ ρ G ∧ Rep X.K X.mg ρ H d x ∧ Rep X.K X.mg ρ H e y ∧ mw X.K X.mg EE H σ τ ρ (f d e G) Q
theorem rL {f : D → D → M D} : HA X EE (rD X EE f) f := fun σ H τ ρ G x y d e Q ab r1 r2 ok => ⟨σ, τ, ρ, G, d, e, ab, r1, r2, ok⟩
theorem MA {f : D → D → M D} {r : R2} (h : HA X EE r f) {x y : V} {H : Hp} {Q : VK} (q : rD X EE f x y H Q) : r x y H Q := by
 obtain ⟨σ, τ, ρ, G, d, e, ab, r1, r2, ok⟩ := q
 exact h σ H τ ρ G x y d e Q ab r1 r2 ok
noncomputable abbrev deep : Nat := 600
noncomputable def Bk (d e : D) (G : DH) : Option Bool := match nR G deep d, nR G deep e with
 | some p, some q => if p.canLay0 && (q.canLay0 && decide (min p.depth q.depth ≤ 580)) then some (PyData.eqv p q) else none
 | _, _ => none
noncomputable def mZ (neg : Bool) (d e : D) : M D := fun G => match Bk d e G with
 | some b => .ok (.bl (neg ^^ b)) G
 | none => .stuck
theorem m5 (hu : X.A.units + 600 < cLine) : qy X (compareOp .Eq) (rD X EE (mZ false)) := by
 intro pins s σ0 H x y v u Q I rx ry ⟨σ, τ, ρ, G, d, e, ab, r1, r2, ok⟩
 dsimp only [mZ, Bk] at ok
 cases e1 : nR G deep d with
 | none => rw [e1] at ok; exact ok.elim
 | some p =>
  cases e2 : nR G deep e with
  | none => rw [e1, e2] at ok; exact ok.elim
  | some q =>
   rw [e1, e2] at ok
   dsimp only at ok
   by_cases hc : (p.canLay0 && (q.canLay0 && decide (min p.depth q.depth ≤ 580))) = true
   ·rw [if_pos hc] at ok
    simp only [Bool.and_eq_true, decide_eq_true_eq] at hc
    obtain ⟨as, ra⟩ := gp I ab.hp deep d x v p r1 rx e1
    obtain ⟨bs, rb⟩ := gp I ab.hp deep e y u q r2 ry e2
    refine SeqAt.compareEq_reads ra rb hc.1 hc.2.1 (by omega) ⟨.bl _, H, I, rfl, ?_⟩
    have := ok (.bl _) H ρ .refl ab (by unfold Rep; rfl)
    simpa using this
   ·rw [if_neg hc] at ok; exact ok.elim
theorem Bl (hu : X.A.units + 600 < cLine) : qy X (compareOp .NotEq) (rD X EE (mZ true)) := by
 intro pins s σ0 H x y v u Q I rx ry ⟨σ, τ, ρ, G, d, e, ab, r1, r2, ok⟩
 dsimp only [mZ, Bk] at ok
 cases e1 : nR G deep d with
 | none => rw [e1] at ok; exact ok.elim
 | some p =>
  cases e2 : nR G deep e with
  | none => rw [e1, e2] at ok; exact ok.elim
  | some q =>
   rw [e1, e2] at ok
   dsimp only at ok
   by_cases hc : (p.canLay0 && (q.canLay0 && decide (min p.depth q.depth ≤ 580))) = true
   ·rw [if_pos hc] at ok
    simp only [Bool.and_eq_true, decide_eq_true_eq] at hc
    obtain ⟨as, ra⟩ := gp I ab.hp deep d x v p r1 rx e1
    obtain ⟨bs, rb⟩ := gp I ab.hp deep e y u q r2 ry e2
    refine SeqAt.compareNe_reads ra rb hc.1 hc.2.1 (by omega) ⟨.bl _, H, I, rfl, ?_⟩
    have := ok (.bl _) H ρ .refl ab (by unfold Rep; rfl)
    simpa using this
   ·rw [if_neg hc] at ok; exact ok.elim
theorem MB (hu : X.A.units + 600 < cLine) (ha : QE X EE a ma) (hb : QE X EE b mb) : QE X EE (.Compare a [.Eq] [b] pos) (aM (mZ false) ma mb) := KA (m5 hu) rL ha hb (Ka _)
inductive MC where
 | lst (xs : List D) | tup (xs : List D) | str (x : Str)
noncomputable def bS (G : DH) : D → Option MC
 | .tup xs => some (.tup xs)
 | .con xs => some (.lst xs)
 | .obj n => match G[n]? with
  | some (.lst xs) => some (.lst xs)
  | _ => none
 | .str x => some (.str x)
 | _ => none
noncomputable def Jc (d : D) (ds : List D) (G : DH) : Option Bool := match nR G deep d, eZ (nR G deep) ds with
 | some p, some qs => if p.canLay0 && (PyData.canLayAll0 qs && decide (min (PyData.depthAll qs) p.depth ≤ 580)) then some (qs.any fun y => PyData.eqv y p) else none
 | _, _ => none
noncomputable def B8 (neg : Bool) (d e : D) : M D := fun G => match bS G e with
 | some (.lst ds) => match Jc d ds G with
  | some b => .ok (.bl (neg ^^ b)) G
  | none => .stuck
 | some (.tup ds) => match Jc d ds G with
  | some b => .ok (.bl (neg ^^ b)) G
  | none => .stuck
 | some (.str j) => match d with
  | .str i => .ok (.bl (neg ^^ !(Builtin.Str.occurrences j i 0 j.length 1).isEmpty)) G
  | _ => .stuck
 | none => .stuck
theorem d8 {pins : List (Addr × Obj)} {σ0 : L2.St} {H : Hp} {s : Shared} {ρ : List Addr} {G : DH} {d : D} {ds : List D} {x : V} (h : kh X.K X.mg H ρ G) (r : Rep X.K X.mg ρ H d x) (e : bS G d = some (.lst ds)) :
  ∃ p xs, x = .ref p ∧ qx X.K H p xs ∧ ay X.K X.mg ρ H ds xs := by
 cases d with
 | con xs =>
  cases e
  unfold Rep at r
  obtain ⟨a, xs, rfl, sq, rs⟩ := r
  exact ⟨a, xs, rfl, sq.seq, rs⟩
 | obj n =>
  unfold Rep at r
  obtain ⟨a, rfl, e0⟩ := r
  dsimp only [bS] at e
  cases q : G[n]? with
  | none => rw [q] at e; cases e
  | some o =>
   cases o with
   | dead => first | (rw [q] at ok; exact ok.elim) | (rw [q] at aI; exact aI.elim) | (rw [q] at e; cases e; done) | (rw [g] at ok; exact ok.elim) | (rw [g] at q; cases q; done) | (rw [g] at h; cases h; done) | (rw [g2] at ok; exact ok.elim) | (rw [g1, g2] at ok; exact ok.elim) | (rw [q1] at ok; exact ok.elim) | exact ok.elim
   | dct kv => first | (rw [q] at ok; exact ok.elim) | (rw [q] at aI; exact aI.elim) | (rw [q] at e; cases e; done) | (rw [g] at ok; exact ok.elim) | (rw [g] at q; cases q; done) | (rw [g] at h; cases h; done) | (rw [g2] at ok; exact ok.elim) | (rw [g1, g2] at ok; exact ok.elim) | (rw [q1] at ok; exact ok.elim) | exact ok.elim
   | tab y0 => first | (rw [q] at ok; exact ok.elim) | (rw [q] at aI; exact aI.elim) | (rw [q] at e; cases e; done) | (rw [g] at ok; exact ok.elim) | (rw [g] at q; cases q; done) | (rw [g] at h; cases h; done) | (rw [g2] at ok; exact ok.elim) | (rw [g1, g2] at ok; exact ok.elim) | (rw [q1] at ok; exact ok.elim) | exact ok.elim
   | lst ys =>
    rw [q] at e; cases e
    obtain ⟨a', xs, e1, e2, rs⟩ := h.lst q
    rw [e0] at e1; cases e1
    exact ⟨a, xs, rfl, .of e2, rs⟩
 | _ => cases e
theorem iy {H : Hp} {ρ : List Addr} {G : DH} {d : D} {ds : List D} {x : V} (r : Rep X.K X.mg ρ H d x) (e : bS G d = some (.tup ds)) :
  ∃ p xs, x = .ref p ∧ pQ X.K H p xs ∧ ay X.K X.mg ρ H ds xs := by
 cases d with
 | tup xs =>
  cases e
  unfold Rep at r
  obtain ⟨a, xs, rfl, sq, rs⟩ := r
  exact ⟨a, xs, rfl, sq, rs⟩
 | obj n =>
  dsimp only [bS] at e
  cases q : G[n]? with
  | none => rw [q] at e; cases e
  | some o => cases o <;> (rw [q] at e; cases e)
 | _ => cases e
theorem pq {H : Hp} {ρ : List Addr} {G : DH} {d : D} {y : Str} {x : V} (r : Rep X.K X.mg ρ H d x) (e : bS G d = some (.str y)) : d = .str y ∧ x = .str y := by
 cases d with
 | str z => cases e; unfold Rep at r; exact ⟨rfl, r⟩
 | obj n =>
  dsimp only [bS] at e
  cases q : G[n]? with
  | none => rw [q] at e; cases e
  | some o => cases o <;> (rw [q] at e; cases e)
 | _ => cases e
theorem KD {pins : List (Addr × Obj)} {σ0 : L2.St} {H : Hp} {s : Shared} {ρ : List Addr} {G : DH} {p : Addr} {xs : List V} {ds : List D} {qs : List PyData} (I : Inv X pins σ0 H s) (hp : kh X.K X.mg H ρ G) (sq : qx X.K H p xs) (rs : ay X.K X.mg ρ H ds xs)
  (e : eZ (nR G deep) ds = some qs) : ∃ as, Reads s.heap (.ref p) (.list qs) as := by
 obtain ⟨its, vs, ⟨o, k, e1, e2, e3, e4⟩, _⟩ := I.list sq
 obtain ⟨as, ra⟩ := readsAll (fun d x u p => gp I hp deep d x u p) ds xs its qs rs vs e
 exact ⟨_, .list e1 e2 e4 (by simpa using ra)⟩
theorem KG {pins : List (Addr × Obj)} {σ0 : L2.St} {H : Hp} {s : Shared} {ρ : List Addr} {G : DH} {p : Addr} {xs : List V} {ds : List D} {qs : List PyData} (I : Inv X pins σ0 H s) (hp : kh X.K X.mg H ρ G) (sq : pQ X.K H p xs) (rs : ay X.K X.mg ρ H ds xs)
  (e : eZ (nR G deep) ds = some qs) : ∃ as, Reads s.heap (.ref p) (.tuple qs) as := by
 obtain ⟨its, vs, ⟨o, e1, e2, k, e3⟩, _⟩ := I.tuple sq
 obtain ⟨as, ra⟩ := readsAll (fun d x u p => gp I hp deep d x u p) ds xs its qs rs vs e
 exact ⟨_, .tuple e1 e2 e3 (by simpa using ra)⟩
theorem zN {d : D} {ds : List D} {G : DH} {b : Bool} (h : Jc d ds G = some b) : ∃ p qs, nR G deep d = some p ∧ eZ (nR G deep) ds = some qs ∧ p.canLay0 = true ∧ PyData.canLayAll0 qs = true ∧ min (PyData.depthAll qs) p.depth ≤ 580 ∧ b = qs.any fun y => PyData.eqv y p := by
 unfold Jc at h
 cases e1 : nR G deep d with
 | none => rw [e1] at h; cases h
 | some p =>
  cases e2 : eZ (nR G deep) ds with
  | none => rw [e1, e2] at h; cases h
  | some qs =>
   rw [e1, e2] at h
   dsimp only at h
   by_cases hc : (p.canLay0 && (PyData.canLayAll0 qs && decide (min (PyData.depthAll qs) p.depth ≤ 580))) = true
   ·rw [if_pos hc] at h
    simp only [Bool.and_eq_true, decide_eq_true_eq] at hc
    exact ⟨p, qs, rfl, rfl, hc.1, hc.2.1, hc.2.2, (Option.some.inj h).symm⟩
   ·rw [if_neg hc] at h; cases h
theorem yw (hu : X.A.units + 600 < cLine) : qy X (compareOp .In) (rD X EE (B8 false)) := by
 intro pins s σ0 H x y v u Q I rx ry ⟨σ, τ, ρ, G, d, e, ab, r1, r2, ok⟩
 dsimp only [B8] at ok
 cases q : bS G e with
 | none => rw [q] at ok; exact ok.elim
 | some sk =>
  rw [q] at ok
  cases sk with
  | lst ds =>
   dsimp only at ok
   cases qb : Jc d ds G with
   | none => rw [qb] at ok; exact ok.elim
   | some b =>
    rw [qb] at ok
    obtain ⟨p, qs, e1, e2, h1, h2, h3, rfl⟩ := zN qb
    obtain ⟨l, xs, rfl, sq, rs⟩ := d8 (pins := pins) (σ0 := σ0) (s := s) ab.hp r2 q
    cases ry
    obtain ⟨as, ra⟩ := gp I ab.hp deep d x v p r1 rx e1
    obtain ⟨bs, rb⟩ := KD I ab.hp sq rs e2
    refine SeqAt.in_list_reads rb ra h2 h1 (by omega) ⟨.bl _, H, I, rfl, ?_⟩
    have := ok (.bl _) H ρ .refl ab (by unfold Rep; rfl)
    simpa using this
  | tup ds =>
   dsimp only at ok
   cases qb : Jc d ds G with
   | none => rw [qb] at ok; exact ok.elim
   | some b =>
    rw [qb] at ok
    obtain ⟨p, qs, e1, e2, h1, h2, h3, rfl⟩ := zN qb
    obtain ⟨l, xs, rfl, sq, rs⟩ := iy r2 q
    cases ry
    obtain ⟨as, ra⟩ := gp I ab.hp deep d x v p r1 rx e1
    obtain ⟨bs, rb⟩ := KG I ab.hp sq rs e2
    refine SeqAt.in_tuple_reads rb ra h2 h1 (by omega) ⟨.bl _, H, I, rfl, ?_⟩
    have := ok (.bl _) H ρ .refl ab (by unfold Rep; rfl)
    simpa using this
  | str j =>
   obtain ⟨rfl, rfl⟩ := pq r2 q
   cases d with
   | str i =>
    unfold Rep at r1; subst r1
    refine C2 pins s σ0 H _ _ v u Q I rx ry ⟨i, j, rfl, rfl, ?_⟩
    have := ok (.bl _) H ρ .refl ab (by unfold Rep; rfl)
    simpa using this
   | _ => exact ok.elim
end
end L3
end
section
set_option Elab.async false
set_option linter.all false
set_option maxRecDepth 100000
namespace L3
open PySem PySem.Spec L2
section
variable {X : Cx} {EE : fC} {a b c : Expr} {ma mb mc : DS → M D} {pos : Pos}
noncomputable def ia (d e : D) : M D := fun G => match e with
 | .int i => match bS G d with
  | some (.lst xs) => match pR xs i with
   | some v => .ok v G
   | none => .stuck
  | some (.tup xs) => match pR xs i with
   | some v => .ok v G
   | none => .stuck
  | some (.str z) => if z.length ≤ sizeLine then (match pR z.cps.toList i with
   | some c => .ok (.str ⟨#[c]⟩) G
   | none => .stuck) else .stuck
  | none => .stuck
 | _ => .stuck
theorem zO {K : PySem.W.Frag} {mg : Str → Option Value} {ρ : List Addr} {H : Hp} {ds : List D} {vs : List V} {i : Int} {d : D} (r : ay K mg ρ H ds vs) (h : pR ds i = some d) : ∃ v, pR vs i = some v ∧ Rep K mg ρ H d v := by
 unfold pR at h ⊢
 rw [← r.length]
 cases e : A0 ds.length i with
 | none => rw [e] at h; cases h
 | some j =>
  rw [e] at h
  obtain ⟨v, e1, e2⟩ := r.get (show ds[j]? = some d from h)
  exact ⟨v, e1, e2⟩
theorem Po : LH X (rD X EE ia) := by
 intro value slice pins s σ0 H x y v u Q I rx ry ⟨σ, τ, ρ, G, d, e, ab, r1, r2, ok⟩ hs
 cases e <;> try exact ok.elim
 rename_i i
 unfold Rep at r2; subst r2
 dsimp only [ia] at ok
 cases q : bS G d with
 | none => rw [q] at ok; exact ok.elim
 | some sk =>
  rw [q] at ok
  cases sk with
  | lst ds =>
   dsimp only at ok
   cases qa : pR ds i with
   | none => rw [qa] at ok; exact ok.elim
   | some z =>
    rw [qa] at ok
    obtain ⟨l, xs, rfl, sq, rs⟩ := d8 (pins := pins) (σ0 := σ0) (s := s) ab.hp r1 q
    obtain ⟨w, e1, e2⟩ := zO rs qa
    exact Ho value slice pins s σ0 H _ _ v u Q I rx ry ⟨l, xs, i, w, rfl, rfl, sq, e1, ok w H ρ .refl ab e2⟩ hs
  | tup ds =>
   dsimp only at ok
   cases qa : pR ds i with
   | none => rw [qa] at ok; exact ok.elim
   | some z =>
    rw [qa] at ok
    obtain ⟨l, xs, rfl, sq, rs⟩ := iy r1 q
    obtain ⟨w, e1, e2⟩ := zO rs qa
    exact Ko value slice pins s σ0 H _ _ v u Q I rx ry ⟨l, xs, i, w, rfl, rfl, sq, e1, ok w H ρ .refl ab e2⟩ hs
  | str z =>
   dsimp only at ok
   obtain ⟨rfl, rfl⟩ := pq r1 q
   by_cases hz : z.length ≤ sizeLine
   ·rw [if_pos hz] at ok
    cases qa : pR z.cps.toList i with
    | none => rw [qa] at ok; exact ok.elim
    | some c =>
     rw [qa] at ok
     exact Kp value slice pins s σ0 H _ _ v u Q I rx ry ⟨z, i, c, rfl, rfl, hz, qa, ok _ H ρ .refl ab (by unfold Rep; rfl)⟩ hs
   ·rw [if_neg hz] at ok; exact ok.elim
theorem EG (ha : QE X EE a ma) (hb : QE X EE b mb) (hs : uX b := by intro _ _; rfl) : QE X EE (.Subscript a b pos) (aM ia ma mb) := Mz Po rL ha hb hs
noncomputable def uf : DS → M (Option Int) := fun _ => M.ret none
noncomputable def pV (m : DS → M D) : DS → M (Option Int) := fun τ => (m τ).bind fun d => match d with
 | .int i => M.ret (some i)
 | _ => M.stop
noncomputable def T3 (K : PySem.W.Frag) (mg : Str → Option Value) (EE : fC) (H : Hp) (σ : L2.St) (τ : DS) (ρ : List Addr) : Out (Option Int) → (Option Int → Hp → Prop) → Prop
 | .stuck, _ => False
 | .ok b G', Q => ∀ H' ρ', eX K H H' ρ ρ' → Ab K mg σ H' τ ρ' G' → Q b H'
 | .dz c G', _ => ∀ H' ρ', eX K H H' ρ ρ' → Ab K mg σ H' τ ρ' G' → EE c σ H'
noncomputable def MD (K : PySem.W.Frag) (mg : Str → Option Value) (EE : fC) (m : DS → M (Option Int)) : TO := fun σ H Q => ∃ τ ρ G, Ab K mg σ H τ ρ G ∧ T3 K mg EE H σ τ ρ (m τ G) Q
noncomputable def QO (X : Cx) (EE : fC) (e : Option Expr) (m : DS → M (Option Int)) : Prop := PO X e (MD X.K X.mg EE m)
theorem PO.mono {e : Option Expr} {t t' : TO} (h : PO X e t) (i : ∀ σ H Q, t' σ H Q → t σ H Q) : PO X e t' := fun pins s σ H Q I q => h pins s σ H Q I (i _ _ _ q)
theorem rM : QO X EE none uf := PO.mono Hi fun σ H Q ⟨τ, ρ, G, ab, ok⟩ => ok H ρ .refl ab
theorem rN (ha : QE X EE a ma) : QO X EE (some a) (pV ma) := PO.mono (Hj ha) fun σ H Q ⟨τ, ρ, G, ab, ok⟩ => by
 refine ⟨τ, ρ, G, ab, ?_⟩
 dsimp only [pV, M.bind] at ok
 cases e : ma τ G with
 | stuck => rw [e] at ok; exact ok
 | dz c G' => rw [e] at ok; exact ok
 | ok d G' =>
  rw [e] at ok
  intro v H' ρ' f cB r
  cases d <;> try exact ok.elim
  rename_i i
  unfold Rep at r
  exact ⟨i, r, ok H' ρ' f cB⟩
noncomputable def cutD (xs : List D) (lo hi : Option Int) : List D := (xs.drop (HT.gZ xs.length 0 lo)).take (HT.gZ xs.length xs.length hi - HT.gZ xs.length 0 lo)
noncomputable def EH (d : D) (lo hi : Option Int) : M D := fun G => match bS G d with
 | some (.lst xs) => bU (cutD xs lo hi) G
 | some (.tup xs) => if HT.gZ xs.length 0 lo = 0 ∧ HT.gZ xs.length xs.length hi = xs.length then .stuck else bY (cutD xs lo hi) G
 | some (.str z) => if z.length ≤ sizeLine then .ok (.str (Txt.slice z lo hi)) G else .stuck
 | none => .stuck
noncomputable def HC (m : DS → M D) (ml mh : DS → M (Option Int)) : DS → M D := fun τ => (m τ).bind fun d => (ml τ).bind fun lo => (mh τ).bind fun hi => EH d lo hi
noncomputable def Pp (X : Cx) (EE : fC) : V → Option Int → Option Int → Hp → VK → Prop := fun x lo hi H Q => ∃ σ τ ρ G d, Ab X.K X.mg σ H τ ρ G ∧ Rep X.K X.mg ρ H d x ∧ mw X.K X.mg EE H σ τ ρ (EH d lo hi G) Q
theorem zP {K : PySem.W.Frag} {mg : Str → Option Value} {ρ : List Addr} {H : Hp} {ds : List D} {vs : List V} (r : ay K mg ρ H ds vs) (lo hi : Option Int) : ay K mg ρ H (cutD ds lo hi) (zH vs lo hi) := by
 unfold cutD zH
 rw [r.length]
 exact (r.drop _).take _
theorem pA (x : Str) (l u : Option (Int × Tok)) (lo hi : Option Int) (hl : l.map (·.1) = lo) (hu : u.map (·.1) = hi) (t : Tok) (s : Shared) (Q : Value → Shared → Prop) (hz : x.length ≤ sizeLine)
  (h : ∀ t' k, Q (.str (Txt.slice x lo hi) t') { s with toks := k }) : (sliceMade x t l u none).post Q s := by
 subst hl hu
 cases l <;> cases u <;> exact post_val_or_str ⟨Nat.le_trans (Txt.slice_le x _ _) hz, fun t' k => h t' k⟩
theorem Pq : Oo X (Pp X EE) := by
 intro pins s σ0 H x v vl vu lo hi sl Q I rx hs pl pu ⟨σ, τ, ρ, G, d, ab, r1, ok⟩
 dsimp only [EH] at ok
 cases q : bS G d with
 | none => rw [q] at ok; exact ok.elim
 | some sk =>
  rw [q] at ok
  cases sk with
  | lst ds =>
   obtain ⟨l, xs, rfl, sq, rs⟩ := d8 (pins := pins) (σ0 := σ0) (s := s) ab.hp r1 q
   exact Hq pins s σ0 H _ v vl vu lo hi sl Q I rx hs pl pu ⟨l, xs, rfl, sq, (tL ab (zP rs lo hi) ok).2⟩
  | tup ds =>
   obtain ⟨l, xs, rfl, sq, rs⟩ := iy r1 q
   dsimp only at ok
   by_cases hw : HT.gZ ds.length 0 lo = 0 ∧ HT.gZ ds.length ds.length hi = ds.length
   ·rw [if_pos hw] at ok; exact ok.elim
   ·rw [if_neg hw] at ok
    refine Kn pins s σ0 H _ v vl vu lo hi sl Q I rx hs pl pu ⟨l, xs, rfl, sq, ?_, (yu ab (zP rs lo hi) ok).2⟩
    rw [← rs.length]; exact hw
  | str z =>
   obtain ⟨rfl, rfl⟩ := pq r1 q
   dsimp only at ok
   by_cases hz : z.length ≤ sizeLine
   ·rw [if_pos hz] at ok
    obtain ⟨t, rfl⟩ := rx
    refine ⟨"str", _, F.slot_str_getitem.lookup, typeIs_str _ _ _, ?_⟩
    obtain ⟨o, e1, e2, e3⟩ := hs
    refine nZ I.os.2 ?_
    have fin : ∀ t' k, 0 < k → EP X pins σ0 Q (.str (Txt.slice z lo hi) t') { s with toks := k } := fun t' k ht => ⟨.str _, H, I.tok k, ⟨t', rfl⟩, ok _ H ρ .refl ab (by unfold Rep; rfl)⟩
    cases pl with
    | none =>
     cases pu with
     | none => exact wpAny_getItem_str_slice (l := none) (u := none) (st := none) ⟨o, e1, e2, e3⟩ rfl (pA z none none none none rfl rfl t s _ hz fin)
     | int j tj => exact wpAny_getItem_str_slice (l := none) (u := some (j, tj)) (st := none) ⟨o, e1, e2, e3⟩ rfl (pA z none (some (j, tj)) none (some j) rfl rfl t s _ hz fin)
    | int i ti =>
     cases pu with
     | none => exact wpAny_getItem_str_slice (l := some (i, ti)) (u := none) (st := none) ⟨o, e1, e2, e3⟩ rfl (pA z (some (i, ti)) none (some i) none rfl rfl t s _ hz fin)
     | int j tj => exact wpAny_getItem_str_slice (l := some (i, ti)) (u := some (j, tj)) (st := none) ⟨o, e1, e2, e3⟩ rfl (pA z (some (i, ti)) (some (j, tj)) (some i) (some j) rfl rfl t s _ hz fin)
   ·rw [if_neg hz] at ok; exact ok.elim
theorem n8 {lo hi : Option Expr} {ml mh : DS → M (Option Int)} {p2 : Pos} (ha : QE X EE a ma) (hl : QO X EE lo ml) (hh : QO X EE hi mh) : QE X EE (.Subscript a (.Slice lo hi none p2) pos) (HC ma ml mh) :=
 PE.mono (Et Pq ha hl hh) fun σ H Q ⟨τ, ρ, G, ab, ok⟩ => by
  refine ⟨τ, ρ, G, ab, ?_⟩
  dsimp only [HC, M.bind] at ok
  cases e1 : ma τ G with
  | stuck => rw [e1] at ok; exact ok
  | dz c G' => rw [e1] at ok; exact ok
  | ok d G1 =>
   rw [e1] at ok
   dsimp only at ok
   intro v H1 ρ1 f1 rO r1
   refine ⟨τ, ρ1, G1, rO, ?_⟩
   cases e2 : ml τ G1 with
   | stuck => rw [e2] at ok; exact ok
   | dz c G' => rw [e2] at ok; exact fun H' ρ' f' => ok H' ρ' (f1.trans f')
   | ok l G2 =>
    rw [e2] at ok
    dsimp only at ok
    intro H2 ρ2 f2 eu
    refine ⟨τ, ρ2, G2, eu, ?_⟩
    cases e3 : mh τ G2 with
    | stuck => rw [e3] at ok; exact ok
    | dz c G' => rw [e3] at ok; exact fun H' ρ' f' => ok H' ρ' ((f1.trans f2).trans f')
    | ok u G3 =>
     rw [e3] at ok
     dsimp only at ok
     intro H3 ρ3 f3 zK
     exact ⟨σ, τ, ρ3, G3, d, zK, r1.mono (f2.trans f3), ok.fut ((f1.trans f2).trans f3)⟩
noncomputable def xG (ma mb : DS → M Bool) : DS → M Bool := fun τ => (ma τ).bind fun c => if c then mb τ else M.ret false
noncomputable def zQ (ma mb : DS → M Bool) : DS → M Bool := fun τ => (ma τ).bind fun c => if c then M.ret true else mb τ
noncomputable def zR (ma : DS → M Bool) : DS → M Bool := fun τ => (ma τ).bind fun c => M.ret (!c)
variable {ta tb tc : DS → M Bool} {rest : List Expr}
theorem EI {σ : L2.St} {H : Hp} {Q : Bool → Hp → Prop} (h : liftT X.K X.mg EE (xG ta tb) σ H Q) : L1 (liftT X.K X.mg EE ta) (liftT X.K X.mg EE tb) σ H Q := by
 obtain ⟨τ, ρ, G, ab, ok⟩ := Bj (k := fun τ c => if c then tb τ else M.ret false) h
 refine ⟨τ, ρ, G, ab, ?_⟩
 cases e : ta τ G with
 | stuck => rw [e] at ok; exact ok
 | dz c G' => rw [e] at ok; exact ok
 | ok k G' =>
  rw [e] at ok
  intro H' ρ' f' cB
  obtain ⟨τ2, ρ2, G2, eu, aI⟩ := ok H' ρ' f' cB
  cases k with
  | true => exact ⟨τ2, ρ2, G2, eu, aI⟩
  | false => exact aI H' ρ2 .refl eu
theorem HE {σ : L2.St} {H : Hp} {Q : Bool → Hp → Prop} (h : liftT X.K X.mg EE (zQ ta tb) σ H Q) : Rq (liftT X.K X.mg EE ta) (liftT X.K X.mg EE tb) σ H Q := by
 obtain ⟨τ, ρ, G, ab, ok⟩ := Bj (k := fun τ c => if c then M.ret true else tb τ) h
 refine ⟨τ, ρ, G, ab, ?_⟩
 cases e : ta τ G with
 | stuck => rw [e] at ok; exact ok
 | dz c G' => rw [e] at ok; exact ok
 | ok k G' =>
  rw [e] at ok
  intro H' ρ' f' cB
  obtain ⟨τ2, ρ2, G2, eu, aI⟩ := ok H' ρ' f' cB
  cases k with
  | false => exact ⟨τ2, ρ2, G2, eu, aI⟩
  | true => exact aI H' ρ2 .refl eu
theorem PW.mono {e : Expr} {t t' : TT} (h : PW X e t) (i : ∀ σ H Q, t' σ H Q → t σ H Q) : PW X e t' := fun wh pins s σ H Q I q => h wh pins s σ H Q I (i _ _ _ q)
theorem HF (ha : QT X EE a ta) : QW X EE (.BoolOp .And [a] pos) ta := GX ha
theorem Bm (ha : QT X EE a ta) : QW X EE (.BoolOp .Or [a] pos) ta := JO ha
theorem KH (ha : QT X EE a ta) (hb : QW X EE (.BoolOp .And (b :: rest) pos) tb) : QW X EE (.BoolOp .And (a :: b :: rest) pos) (xG ta tb) := PW.mono (JP ha hb) fun _ _ _ h => EI h
theorem EJ (ha : QT X EE a ta) (hb : QW X EE (.BoolOp .Or (b :: rest) pos) tb) : QW X EE (.BoolOp .Or (a :: b :: rest) pos) (zQ ta tb) := PW.mono (L4 ha hb) fun _ _ _ h => HE h
theorem HG {e : Expr} (h : QW X EE e ta) : QT X EE e ta := h.pt
theorem EK (ha : QT X EE a ta) : QT X EE (.UnaryOp .Not a pos) (zR ta) := PT.mono (JQ ha) fun σ H Q h => by
 obtain ⟨τ, ρ, G, ab, ok⟩ := Bj (k := fun τ c => M.ret (!c)) h
 refine ⟨τ, ρ, G, ab, ?_⟩
 cases e : ta τ G with
 | stuck => rw [e] at ok; exact ok
 | dz c G' => rw [e] at ok; exact ok
 | ok k G' =>
  rw [e] at ok
  intro H' ρ' f' cB
  obtain ⟨τ2, ρ2, G2, eu, aI⟩ := ok H' ρ' f' cB
  exact aI H' ρ2 .refl eu
noncomputable def lO (m : DS → M D) : DS → M Bool := fun τ => (m τ).bind fun d => match d with
 | .bl b => M.ret b
 | _ => M.stop
theorem HH {m : DS → M D} {σ : L2.St} {H : Hp} {Q : Bool → Hp → Prop} (h : liftT X.K X.mg EE (lO m) σ H Q) : dB X.K X.mg EE m σ H fun x H1 => ∃ c, x = .bl c ∧ Q c H1 := by
 obtain ⟨τ, ρ, G, ab, ok⟩ := Ey (k := fun _ d => match d with | .bl b => M.ret b | _ => M.stop) h
 refine ⟨τ, ρ, G, ab, ?_⟩
 cases e : m τ G with
 | stuck => rw [e] at ok; exact ok
 | dz c G' => rw [e] at ok; exact ok
 | ok d G' =>
  rw [e] at ok
  intro v H' ρ' f' cB r'
  obtain ⟨τ2, ρ2, G2, d2, eu, r2, aI⟩ := ok v H' ρ' f' cB r'
  cases d2 <;> try exact aI.elim
  rename_i k
  unfold Rep at r2
  exact ⟨k, r2, aI H' ρ2 .refl eu⟩
theorem KI {op : CmpOp} {f : D → D → M D} (ho : qy X (compareOp op) (rD X EE f)) (ha : QE X EE a ma) (hb : QE X EE b mb) (hm : behindInMarks op b = false) : QT X EE (.Compare a [op] [b] pos) (lO (aM f ma mb)) :=
 PT.mono (G9 ho ha hb hm) fun σ H Q h => by
  have h1 := HH h
  exact u0 rL h1
theorem Jd {f : D → D → M D} {g : Value → Value → Sem Value} {r : R2} (ho : qy X g r) (hd : HA X EE r f) : qy X g (rD X EE f) := fun pins s σ H x y v u Q I rx ry q => ho pins s σ H x y v u Q I rx ry (MA hd q)
theorem tN : qy X (compareOp .Lt) (rD X EE C8) := Jd Mi (vC fun _ _ _ _ => by unfold Rep; rfl)
theorem yx : qy X (compareOp .Gt) (rD X EE zM) := Jd Mj (vC fun _ _ _ _ => by unfold Rep; rfl)
noncomputable def Pu (t : DS → M Bool) (ma mb : DS → M D) : DS → M D := fun τ => (t τ).bind fun c => if c then ma τ else mb τ
theorem ME {c : Expr} (hc : QT X EE c ta) (ha : QE X EE a ma) (hb : QE X EE b mb) : QE X EE (.IfExp c a b pos) (Pu ta ma mb) := PE.mono (Eh hc ha hb) fun σ H Q h => by
 obtain ⟨τ, ρ, G, ab, ok⟩ := Kw (k := fun τ c => if c then ma τ else mb τ) h
 refine ⟨τ, ρ, G, ab, ?_⟩
 cases e : ta τ G with
 | stuck => rw [e] at ok; exact ok
 | dz c G' => rw [e] at ok; exact ok
 | ok k G' =>
  rw [e] at ok
  intro H' ρ' f' cB
  obtain ⟨τ2, ρ2, G2, eu, aI⟩ := ok H' ρ' f' cB
  cases k with
  | true => exact ⟨τ2, ρ2, G2, eu, aI⟩
  | false => exact ⟨τ2, ρ2, G2, eu, aI⟩
noncomputable def zS (ma : DS → M D) : DS → M D := fun τ => (ma τ).bind fun d => match d with
 | .int i => M.ret (.int (-i))
 | _ => M.stop
theorem EL (ha : QE X EE a ma) : QE X EE (.UnaryOp .USub a pos) (zS ma) := PE.mono (Mf J8 ha) fun σ H Q h => by
 obtain ⟨τ, ρ, G, ab, ok⟩ := tH (k := fun τ d => match d with | .int i => M.ret (.int (-i)) | _ => M.stop) h
 refine ⟨τ, ρ, G, ab, ?_⟩
 cases e : ma τ G with
 | stuck => rw [e] at ok; exact ok
 | dz c G' => rw [e] at ok; exact ok
 | ok k G' =>
  rw [e] at ok
  intro v H' ρ' f' cB r'
  obtain ⟨τ2, ρ2, G2, d2, eu, r2, aI⟩ := ok v H' ρ' f' cB r'
  cases d2 <;> try exact aI.elim
  rename_i k
  unfold Rep at r2
  exact ⟨k, r2, aI _ H' ρ2 .refl eu (by unfold Rep; rfl)⟩
end
end L3
end
section
set_option Elab.async false
set_option linter.all false
set_option maxRecDepth 100000
namespace L3
open PySem PySem.Spec L2
section
variable {X : Cx} {EE : fC} {a b c : Expr} {ma mb mc : DS → M D} {pos : Pos} {ta tb tc : DS → M Bool} {ms mt : MS}
noncomputable def eE : MS := fun τ G => .nx τ G
noncomputable def aY (m k : MS) : MS := fun τ G => match m τ G with
 | .nx τ' G' => k τ' G'
 | r => r
theorem cO : A1 X EE [] eE := A5.mono GY fun D σ H ⟨τ, ρ, G, ab, ok⟩ => ok σ H ρ .refl ab
theorem zT {Dd : Ends} {σ : L2.St} {H : Hp} (h : iK X.K X.mg EE (aY ms mt) Dd σ H) : L6 (iK X.K X.mg EE ms) (iK X.K X.mg EE mt) Dd σ H := by
 obtain ⟨τ, ρ, G, ab, ok⟩ := h
 refine ⟨τ, ρ, G, ab, ?_⟩
 dsimp only [aY] at ok
 cases e : ms τ G with
 | nx τ' G' => rw [e] at ok; exact fun σ' H' ρ' f cB => ⟨τ', ρ', G', cB, ok.fut f⟩
 | stuck => rw [e] at ok; exact ok
 | rt d G => rw [e] at ok; exact ok
 | bk τ G => rw [e] at ok; exact ok
 | ct τ G => rw [e] at ok; exact ok
 | xn c τ G => rw [e] at ok; exact ok
theorem ak {st : Stmt} {rest : List Stmt} (h1 : QS X EE st ms) (h2 : A1 X EE rest mt) : A1 X EE (st :: rest) (aY ms mt) := A5.mono (Ei h1 h2) fun _ _ _ h => zT h
theorem aB {st : Stmt} (h1 : QS X EE st ms) : A1 X EE [st] ms := GZ h1
noncomputable def kj (m : DS → M D) : MS := fun τ => cT (m τ) (fun _ G => .nx τ G) fun c G => .xn c τ G
noncomputable def dO (m : DS → M D) : MS := fun τ => cT (m τ) (fun d G => .rt d G) fun c G => .xn c τ G
noncomputable def br (i : Nat) (m : DS → M D) : MS := fun τ => cT (m τ) (fun d G => .nx (τ.set i (some d)) G) fun c G => .xn c τ G
noncomputable def rB (t : DS → M Bool) (ma mb : MS) : MS := fun τ => cT (t τ) (fun c G => if c then ma τ G else mb τ G) fun c G => .xn c τ G
theorem HJ (he : QE X EE a ma) (hs : swapsWith a none pos.line X.env = pure false := by rfl) : QS X EE (.Expr a pos) (kj ma) := PS.mono (G4 he hs) fun D σ H h => by
 obtain ⟨τ, ρ, G, ab, ok⟩ := yt (k := fun τ d G => .nx τ G) h
 refine ⟨τ, ρ, G, ab, ?_⟩
 cases e : ma τ G with
 | stuck => rw [e] at ok; exact ok
 | dz c G' => rw [e] at ok; exact ok
 | ok d G' =>
  rw [e] at ok
  intro v H' ρ' f' cB r'
  obtain ⟨τ2, ρ2, G2, d2, eu, r2, aI⟩ := ok v H' ρ' f' cB r'
  exact aI σ H' ρ2 .refl eu
theorem bD (he : QE X EE a ma) : QS X EE (.Return (some a) pos) (dO ma) := PS.mono (JR he) fun D σ H h => by
 obtain ⟨τ, ρ, G, ab, ok⟩ := yt (k := fun τ d G => .rt d G) h
 refine ⟨τ, ρ, G, ab, ?_⟩
 cases e : ma τ G with
 | stuck => rw [e] at ok; exact ok
 | dz c G' => rw [e] at ok; exact ok
 | ok d G' =>
  rw [e] at ok
  intro v H' ρ' f' cB r'
  obtain ⟨τ2, ρ2, G2, d2, eu, r2, aI⟩ := ok v H' ρ' f' cB r'
  exact aI v H' ρ2 .refl eu.hp r2
theorem Ab.set {K : PySem.W.Frag} {mg : Str → Option Value} {σ : L2.St} {H : Hp} {τ : DS} {ρ : List Addr} {G : DH} {i : Nat} {d : D} {v : V} (ab : Ab K mg σ H τ ρ G) (r : Rep K mg ρ H d v) : Ab K mg (σ.set i (some v)) H (τ.set i (some d)) ρ G := ⟨ab.st.set r, ab.hp⟩
theorem KJ {i : Nat} {x : Str} {pos' : Pos} (hN : X.N.Nodup) (he : QE X EE a ma) (hi : X.N[i]? = some x := by rfl) (hx : Loc X.env.scope x := by first | exact Or.inl rfl | exact Or.inr rfl)
  (hs : swapsWith a (some (.Name x pos')) pos.line X.env = pure false := by rfl) (hf : X.fn x = true ∨ X.env.scope.names.lookup x = some .local := by first | exact .inl rfl | exact .inr rfl | assumption) :
  QS X EE (.Assign [.Name x pos'] a pos) (br i ma) := PS.mono (JY hN hi hx he hs hf) fun D σ H h => by
 obtain ⟨τ, ρ, G, ab, ok⟩ := yt (k := fun τ d G => .nx (τ.set i (some d)) G) h
 refine ⟨τ, ρ, G, ab, ?_⟩
 cases e : ma τ G with
 | stuck => rw [e] at ok; exact ok
 | dz c G' => rw [e] at ok; exact ok
 | ok d G' =>
  rw [e] at ok
  intro v H' ρ' f' cB r'
  obtain ⟨τ2, ρ2, G2, d2, eu, r2, aI⟩ := ok v H' ρ' f' cB r'
  exact aI _ H' ρ2 .refl (eu.set r2)
theorem g8 {body els : List Stmt} (hc : QT X EE c tc) (ha : A1 X EE body ms) (hb : A1 X EE els mt) : QS X EE (.If c body els pos) (rB tc ms mt) := PS.mono (L8 hc ha hb) fun D σ H h => by
 obtain ⟨τ, ρ, G, ab, ok⟩ := Ez (k := fun τ c G => if c then ms τ G else mt τ G) h
 refine ⟨τ, ρ, G, ab, ?_⟩
 cases e : tc τ G with
 | stuck => rw [e] at ok; exact ok
 | dz c G' => rw [e] at ok; exact ok
 | ok k G' =>
  rw [e] at ok
  intro H' ρ' f' cB
  obtain ⟨τ2, ρ2, G2, eu, aI⟩ := ok H' ρ' f' cB
  cases k with
  | true => exact ⟨τ2, ρ2, G2, eu, aI⟩
  | false => exact ⟨τ2, ρ2, G2, eu, aI⟩
noncomputable abbrev rP := D → DS → Option DS
noncomputable def zU (K : PySem.W.Frag) (mg : Str → Option Value) (g : rP) : TG := fun v σ H Q => ∃ τ ρ G d τ', Ab K mg σ H τ ρ G ∧ Rep K mg ρ H d v ∧ g d τ = some τ' ∧ ∀ σ', Ab K mg σ' H τ' ρ G → Q σ' H
noncomputable def QG (X : Cx) (e : Expr) (g : rP) : Prop := PG X e (zU X.K X.mg g)
noncomputable def gN (i : Nat) : rP := fun d τ => some (τ.set i (some d))
theorem HK {i : Nat} {x : Str} (hN : X.N.Nodup) (hi : X.N[i]? = some x := by rfl) (hx : Loc X.env.scope x := by first | exact Or.inl rfl | exact Or.inr rfl) (hf : X.fn x = true ∨ X.env.scope.names.lookup x = some .local := by first | exact .inl rfl | exact .inr rfl | assumption) :
  QG X (.Name x pos) (gN i) := fun pins s σ H v u Q I r ⟨τ, ρ, G, d, τ', ab, rd, e, q⟩ => yk hN hi hx hf pins s σ H v u Q I r (by
 cases e
 exact q _ (ab.set rd))
noncomputable def dY (g : rP) (body : MS) : List D → MS
 | [], τ, G => .nx τ G
 | d :: r, τ, G => match g d τ with
  | none => .stuck
  | some τ1 => match body τ1 G with
   | .nx τ' G' => dY g body r τ' G'
   | .ct τ' G' => dY g body r τ' G'
   | .bk τ' G' => .nx τ' G'
   | x => x
noncomputable def yy (g : rP) (body : MS) (n : Nat) : Nat → Nat → MS
 | 0, _, _, _ => .stuck
 | f + 1, k, τ, G => match G[n]? with
  | some (.lst xs) => match xs[k]? with
   | none => .nx τ G
   | some d => match g d τ with
    | none => .stuck
    | some τ1 => match body τ1 G with
     | .nx τ' G' => yy g body n f (k + 1) τ' G'
     | .ct τ' G' => yy g body n f (k + 1) τ' G'
     | .bk τ' G' => .nx τ' G'
     | x => x
  | _ => .stuck
end
end L3
end
section
set_option Elab.async false
set_option linter.all false
set_option maxRecDepth 100000
namespace L3
open PySem PySem.Spec L2
noncomputable def HL (z : Str) : It := ⟨fun i _ => i < z.cps.size, fun i H x H' => H' = H ∧ ∃ c, z.cps[i]? = some c ∧ x = .str ⟨#[c]⟩, fun i _ => z.cps.size ≤ i⟩
theorem EM {P : Program} {w : World} {K : PySem.W.Frag} {tg : Expr} (z : Str) (t : Tok) (it : Addr) : Turn P w K tg (HL z) [it] it (fun i h => h.IsStrIter it (strIterType z) z t i) where
 mem := by simp
 obj := fun i h st b hb => by
  have e : b = it := by simpa using hb
  subst e
  obtain ⟨o, e, c, d⟩ := st
  exact ⟨o, e, fun v z => by rw [d] at z; cases z⟩
 keep := fun i h h' st k => by
  obtain ⟨o, e, r⟩ := st
  exact ⟨o, k it (by simp) o e, r⟩
 item := by
  intro X hP hw hK hc i pins s σ H E I hf st hg
  subst hP hw hK
  obtain ⟨f0, f1, f2, f3, f4, f5⟩ := hf it (by simp)
  have hx : z.cps[i]? = some z.cps[i] := Array.getElem?_eq_getElem hg
  have fin : ∀ h', h'.IsStrIter it (strIterType z) z t (i + 1) → Heap.SameBut it s.heap h' → ∃ u, some (Value.str ⟨#[z.cps[i]]⟩ s.toks) = some u ∧
   wpAny (model X.prog X.w) X.A (letOwnedTupleGo tg (.ref it) u) (fun _ s2 => ∃ x H', Inv X pins σ H' s2 ∧ RelV x u ∧ (HL z).xr i H x H' ∧ s2.heap.IsStrIter it (strIterType z) z t (i + 1) ∧ ∀ b ∈ [it], H' b = none) E { s with heap := h', toks := s.toks + 1 } := fun h' st' sb => by
   have I1 : Inv X pins σ H { s with heap := h', toks := s.toks + 1 } := I.turned (t' := s.toks + 1) (fun b o hb e => (sb.2 b hb).trans e) f0 f1 f3 f4 f5
   obtain ⟨o, e, c, d⟩ := id st'
   refine ⟨_, rfl, zF (s := { s with heap := h', toks := s.toks + 1 }) e c d ?_ ⟨.str ⟨#[z.cps[i]]⟩, H, I1, ⟨_, rfl⟩, ⟨rfl, _, hx, rfl⟩, st', fun b hb => (hf b hb).1⟩⟩
   unfold strIterType
   split <;> decide
  cases ha : z.cps.all (· < 128) with
  | true =>
   have e : strIterType z = "str_ascii_iterator" := by unfold strIterType; rw [ha]; rfl
   rw [e] at st fin
   exact wpAny_pyNext_ascii_item st hx fun h' st' sb => by rw [e]; exact fin h' st' sb
  | false =>
   have e : strIterType z = "str_iterator" := by unfold strIterType; rw [ha]; rfl
   rw [e] at st fin
   exact wpAny_pyNext_wide_item st hx fun h' st' sb => by rw [e]; exact fin h' st' sb
 done := by
  intro X hP hw hK hc i pins s σ H E I hf st hg
  subst hP hw hK
  obtain ⟨f0, f1, f2, f3, f4, f5⟩ := hf it (by simp)
  have hx : z.cps[i]? = none := Array.getElem?_eq_none hg
  have fin : ∀ h', Heap.ExtBut it s.heap h' → (none : Option Value) = none ∧ Inv X pins σ H { s with heap := h' } := fun h' eb => ⟨rfl, I.turned (t' := s.toks) (fun b o hb e => eb b o hb e) f0 f1 f3 f4 f5⟩
  cases ha : z.cps.all (· < 128) with
  | true =>
   have e : strIterType z = "str_ascii_iterator" := by unfold strIterType; rw [ha]; rfl
   rw [e] at st
   exact wpAny_pyNext_ascii_end (I.ok.hd hc) st hx fin
  | false =>
   have e : strIterType z = "str_iterator" := by unfold strIterType; rw [ha]; rfl
   rw [e] at st
   exact wpAny_pyNext_wide_end (I.ok.hd hc) st hx fin
 self := fun A i s Q E st h => by
  cases ha : z.cps.all (· < 128) with
  | true =>
   have e : strIterType z = "str_ascii_iterator" := by unfold strIterType; rw [ha]; rfl
   rw [e] at st
   exact wpAny_pyIter_striter_ascii st h
  | false =>
   have e : strIterType z = "str_iterator" := by unfold strIterType; rw [ha]; rfl
   rw [e] at st
   exact wpAny_pyIter_striter_wide st h
section
variable {X : Cx} {EE : fC} {a b c tg : Expr} {ma mb mc : DS → M D} {pos : Pos} {ms mt : MS}
noncomputable def n9 (g : rP) (m : DS → M D) (body : MS) : MS := fun τ => cT (m τ) (fun d G => match d with
 | .obj n => match G[n]? with
  | some (.lst xs) => yy g body n (xs.length + 1) 0 τ G
  | _ => .stuck
 | .tup xs => dY g body xs τ G
 | .con xs => dY g body xs τ G
 | .str z => dY g body (z.cps.toList.map fun c => .str ⟨#[c]⟩) τ G
 | _ => .stuck) fun c G => .xn c τ G
theorem pB {g : rP} {body : MS} {Dd : Ends} {J : It} {H0 : Hp} {σ0 : L2.St} {ρ0 : List Addr} {G0 : DH} {τ0 : DS} (ds : List D)
  (go : ∀ i H ρ, i < ds.length → eX X.K H0 H ρ0 ρ → J.go i H) (stop : ∀ i H ρ, ds.length ≤ i → eX X.K H0 H ρ0 ρ → J.stop i H)
  (xr : ∀ i d H ρ x H', ds[i]? = some d → eX X.K H0 H ρ0 ρ → J.xr i H x H' → H' = H ∧ Rep X.K X.mg ρ H d x)
  (ab : Ab X.K X.mg σ0 H0 τ0 ρ0 G0) (ok : wN X.K X.mg EE H0 ρ0 Dd (dY g body ds τ0 G0)) :
  ∃ W : Nat → Nat → L2.St → Hp → Prop, (∃ m, W 0 m σ0 H0) ∧ ∀ i m σ H, W i m σ H →
   (J.stop i H ∧ Dd.nx σ H) ∨ (J.go i H ∧ ∃ N : L2.St → Hp → Prop, (∀ σ' H', N σ' H' → ∃ m', m' < m ∧ W (i + 1) m' σ' H') ∧ ∀ x H', J.xr i H x H' → zU X.K X.mg g x σ H' fun σ2 H2 => iK X.K X.mg EE body { Dd with nx := N, ct := N, bk := Dd.nx } σ2 H2) := by
 refine ⟨fun i m σ H => i ≤ ds.length ∧ m = ds.length - i ∧ ∃ τ ρ G, Ab X.K X.mg σ H τ ρ G ∧ eX X.K H0 H ρ0 ρ ∧ wN X.K X.mg EE H ρ Dd (dY g body (ds.drop i) τ G), ⟨ds.length, Nat.zero_le _, rfl, τ0, ρ0, G0, ab, .refl, by simpa using ok⟩, ?_⟩
 rintro i m σ H ⟨hi, rfl, τ, ρ, G, ab, f, ok⟩
 by_cases hlt : i < ds.length
 ·refine .inr ⟨go i H ρ hlt f, fun σ' H' => ∃ τ' ρ' G', Ab X.K X.mg σ' H' τ' ρ' G' ∧ eX X.K H0 H' ρ0 ρ' ∧ wN X.K X.mg EE H' ρ' Dd (dY g body (ds.drop (i + 1)) τ' G'), fun σ' H' n => ⟨ds.length - (i + 1), by omega, hlt, rfl, n⟩, fun x H' y => ?_⟩
  obtain ⟨rfl, rx⟩ := xr i ds[i] H ρ x H' (List.getElem?_eq_getElem hlt) f y
  rw [List.drop_eq_getElem_cons hlt] at ok
  unfold dY at ok
  cases e : g ds[i] τ with
  | none => rw [e] at ok; exact ok.elim
  | some τ1 =>
   rw [e] at ok
   dsimp only at ok
   refine ⟨τ, ρ, G, ds[i], τ1, ab, rx, e, fun σ' cB => ⟨τ1, ρ, G, cB, ?_⟩⟩
   cases eb : body τ1 G with
   | stuck => rw [eb] at ok; exact ok
   | nx τ2 G2 => rw [eb] at ok; exact fun σ2 H2 ρ2 f2 eu => ⟨τ2, ρ2, G2, eu, f.trans f2, ok.fut f2⟩
   | ct τ2 G2 => rw [eb] at ok; exact fun σ2 H2 ρ2 f2 eu => ⟨τ2, ρ2, G2, eu, f.trans f2, ok.fut f2⟩
   | bk τ2 G2 => rw [eb] at ok; exact ok
   | rt d G2 => rw [eb] at ok; exact ok
   | xn c τ2 G2 => rw [eb] at ok; exact ok
 ·have e : i = ds.length := by omega
  subst e
  refine .inl ⟨stop _ H ρ (Nat.le_refl _) f, ?_⟩
  rw [List.drop_eq_nil_of_le (Nat.le_refl _)] at ok
  exact ok σ H ρ .refl ab
theorem HM {g : rP} {body : MS} {Dd : Ends} {H0 : Hp} {σ0 : L2.St} {ρ0 : List Addr} {G0 : DH} {τ0 : DS} {n : Nat} {p : Addr} {fuel : Nat} (hn : ρ0[n]? = some p)
  (ab : Ab X.K X.mg σ0 H0 τ0 ρ0 G0) (ok : wN X.K X.mg EE H0 ρ0 Dd (yy g body n fuel 0 τ0 G0)) :
  ∃ W : Nat → Nat → L2.St → Hp → Prop, (∃ m, W 0 m σ0 H0) ∧ ∀ i m σ H, W i m σ H →
   ((GL X.K p).stop i H ∧ Dd.nx σ H) ∨ ((GL X.K p).go i H ∧ ∃ N : L2.St → Hp → Prop, (∀ σ' H', N σ' H' → ∃ m', m' < m ∧ W (i + 1) m' σ' H') ∧ ∀ x H', (GL X.K p).xr i H x H' → zU X.K X.mg g x σ H' fun σ2 H2 => iK X.K X.mg EE body { Dd with nx := N, ct := N, bk := Dd.nx } σ2 H2) := by
 refine ⟨fun i m σ H => ∃ τ ρ G, Ab X.K X.mg σ H τ ρ G ∧ eX X.K H0 H ρ0 ρ ∧ wN X.K X.mg EE H ρ Dd (yy g body n m i τ G), ⟨fuel, τ0, ρ0, G0, ab, .refl, ok⟩, ?_⟩
 rintro i m σ H ⟨τ, ρ, G, ab, f, ok⟩
 cases m with
 | zero => exact ok.elim
 | succ m =>
  unfold yy at ok
  cases q : G[n]? with
  | none => rw [q] at ok; exact ok.elim
  | some o =>
   cases o with
   | dead => first | (rw [q] at ok; exact ok.elim) | (rw [q] at aI; exact aI.elim) | (rw [q] at e; cases e; done) | (rw [g] at ok; exact ok.elim) | (rw [g] at q; cases q; done) | (rw [g] at h; cases h; done) | (rw [g2] at ok; exact ok.elim) | (rw [g1, g2] at ok; exact ok.elim) | (rw [q1] at ok; exact ok.elim) | exact ok.elim
   | dct kv => first | (rw [q] at ok; exact ok.elim) | (rw [q] at aI; exact aI.elim) | (rw [q] at e; cases e; done) | (rw [g] at ok; exact ok.elim) | (rw [g] at q; cases q; done) | (rw [g] at h; cases h; done) | (rw [g2] at ok; exact ok.elim) | (rw [g1, g2] at ok; exact ok.elim) | (rw [q1] at ok; exact ok.elim) | exact ok.elim
   | tab y0 => first | (rw [q] at ok; exact ok.elim) | (rw [q] at aI; exact aI.elim) | (rw [q] at e; cases e; done) | (rw [g] at ok; exact ok.elim) | (rw [g] at q; cases q; done) | (rw [g] at h; cases h; done) | (rw [g2] at ok; exact ok.elim) | (rw [g1, g2] at ok; exact ok.elim) | (rw [q1] at ok; exact ok.elim) | exact ok.elim
   | lst ds =>
    rw [q] at ok
    dsimp only at ok
    obtain ⟨p', xs, e1, e2, rs⟩ := ab.hp.lst q
    rw [f.get hn] at e1; cases e1
    cases qd : ds[i]? with
    | none =>
     rw [qd] at ok
     have hl : xs.length ≤ i := by rw [← rs.length]; exact List.getElem?_eq_none_iff.mp qd
     exact .inl ⟨⟨xs, .of e2, hl⟩, ok σ H ρ .refl ab⟩
    | some d =>
     rw [qd] at ok
     dsimp only at ok
     obtain ⟨x0, ex, rx⟩ := rs.get qd
     refine .inr ⟨⟨xs, x0, .of e2, ex⟩, fun σ' H' => ∃ τ' ρ' G', Ab X.K X.mg σ' H' τ' ρ' G' ∧ eX X.K H0 H' ρ0 ρ' ∧ wN X.K X.mg EE H' ρ' Dd (yy g body n m (i + 1) τ' G'), fun σ' H' z => ⟨m, Nat.lt_succ_self _, z⟩, fun x H' y => ?_⟩
     obtain ⟨rfl, y⟩ := y
     have e3 := y xs (.of e2)
     rw [ex] at e3; cases e3
     cases e : g d τ with
     | none => rw [e] at ok; exact ok.elim
     | some τ1 =>
      rw [e] at ok
      dsimp only at ok
      refine ⟨τ, ρ, G, d, τ1, ab, rx, e, fun σ' cB => ⟨τ1, ρ, G, cB, ?_⟩⟩
      cases eb : body τ1 G with
      | stuck => rw [eb] at ok; exact ok
      | nx τ2 G2 => rw [eb] at ok; exact fun σ2 H2 ρ2 f2 eu => ⟨τ2, ρ2, G2, eu, f.trans f2, ok.fut f2⟩
      | ct τ2 G2 => rw [eb] at ok; exact fun σ2 H2 ρ2 f2 eu => ⟨τ2, ρ2, G2, eu, f.trans f2, ok.fut f2⟩
      | bk τ2 G2 => rw [eb] at ok; exact ok
      | rt d G2 => rw [eb] at ok; exact ok
      | xn c τ2 G2 => rw [eb] at ok; exact ok
theorem PI.any {l : Expr} {tl : TE} (hl : PE X l tl) : PI X tg l (fun σ H R => tl σ H fun x H1 => (∃ p, x = .ref p ∧ (∃ xs, qx X.K H1 p xs) ∧ R (GL X.K p) H1) ∨ (∃ p, x = .ref p ∧ (∃ xs, pQ X.K H1 p xs) ∧ R (Oi X.K p) H1) ∨ ∃ z, x = .str z ∧ R (HL z) H1) := by
 intro pins s σ H R I h
 refine gX (hl pins s σ H _ I h) fun u s1 ⟨x, H1, I1, r1, q⟩ => ?_
 rcases q with ⟨p, rfl, ⟨xs, sq⟩, q⟩ | ⟨p, rfl, ⟨xs, sq⟩, q⟩ | ⟨z, rfl, q⟩
 ·cases r1
  obtain ⟨its, rv, pl, hz⟩ := I1.list sq
  refine wpAny_pyIter_list pl.isList ?_
  have I2 : Inv X pins σ H1 { s1 with heap := s1.heap.push { cls := .type "list_iterator", data := .fields #[.ref p, .int 0 0] } } := I1.kept (t' := s1.toks) fun b o e => Heap.get?_push_of_some _ e
  refine ⟨s1.heap.objs.size, [s1.heap.objs.size], _, GL X.K p, H1, rfl, I2, C0 p _, ⟨_, Heap.get?_push_size _ rfl, rfl, rfl⟩, fun b hb => ?_, q⟩
  have e : b = s1.heap.objs.size := by simpa using hb
  subst e
  exact I1.CZ (Nat.le_refl _) (I1.hok.fresh (Nat.le_refl _))
 ·cases r1
  obtain ⟨its, rv, pl, hz⟩ := I1.tuple sq
  refine wpAny_pyIter_tuple pl ?_
  have I2 : Inv X pins σ H1 { s1 with heap := s1.heap.push { cls := .type "tuple_iterator", data := .fields #[.ref p, .int 0 0] } } := I1.kept (t' := s1.toks) fun b o e => Heap.get?_push_of_some _ e
  refine ⟨s1.heap.objs.size, [s1.heap.objs.size], _, Oi X.K p, H1, rfl, I2, A7 p _, ⟨_, Heap.get?_push_size _ rfl, rfl, rfl⟩, fun b hb => ?_, q⟩
  have e : b = s1.heap.objs.size := by simpa using hb
  subst e
  exact I1.CZ (Nat.le_refl _) (I1.hok.fresh (Nat.le_refl _))
 ·obtain ⟨t, rfl⟩ := r1
  refine wpAny_pyIter_strU ?_
  have I2 : Inv X pins σ H1 { s1 with heap := s1.heap.push { cls := .type (strIterType z), data := .fields #[.str z t, .int 0 0] } } := I1.kept (t' := s1.toks) fun b o e => Heap.get?_push_of_some _ e
  refine ⟨s1.heap.objs.size, [s1.heap.objs.size], _, HL z, H1, rfl, I2, EM z t _, ⟨_, Heap.get?_push_size _ rfl, rfl, rfl⟩, fun b hb => ?_, q⟩
  have e : b = s1.heap.objs.size := by simpa using hb
  subst e
  exact I1.CZ (Nat.le_refl _) (I1.hok.fresh (Nat.le_refl _))
theorem KL {g : rP} {body : List Stmt} (hp : PassesOwn (model X.prog X.w) X.A X.env X.xe) (hc : X.calm = true) (ha : QE X EE a ma) (hg : QG X tg g) (hb : A1 X EE body ms) (hs : ∀ x, foldedSetIterable a X.env x = pure x := by intro _; rfl) :
  QS X EE (.For tg a body [] pos) (n9 g ma ms) := PS.mono (A9 hp hc (PI.any ha) hg hb hs) fun Dd σ H h => by
 obtain ⟨τ, ρ, G, ab, ok⟩ := yt (k := fun τ d G => match d with
  | .obj n => match G[n]? with
   | some (.lst xs) => yy g ms n (xs.length + 1) 0 τ G
   | _ => .stuck
  | .tup xs => dY g ms xs τ G
  | .con xs => dY g ms xs τ G
  | .str z => dY g ms (z.cps.toList.map fun c => .str ⟨#[c]⟩) τ G
  | _ => .stuck) h
 refine ⟨τ, ρ, G, ab, ?_⟩
 cases e : ma τ G with
 | stuck => rw [e] at ok; exact ok
 | dz c G' => rw [e] at ok; exact ok
 | ok d G' =>
  rw [e] at ok
  intro v H1 ρ1 f1 rO r1
  obtain ⟨τ2, ρ2, G2, d2, eu, r2, aI⟩ := ok v H1 ρ1 f1 rO r1
  cases d2 <;> try exact aI.elim
  case obj n =>
   dsimp only at aI
   unfold Rep at r2
   obtain ⟨p, rfl, e1⟩ := r2
   cases q : G2[n]? with
   | none => rw [q] at aI; exact aI.elim
   | some o =>
    cases o with
    | dead => first | (rw [q] at ok; exact ok.elim) | (rw [q] at aI; exact aI.elim) | (rw [q] at e; cases e; done) | (rw [g] at ok; exact ok.elim) | (rw [g] at q; cases q; done) | (rw [g] at h; cases h; done) | (rw [g2] at ok; exact ok.elim) | (rw [g1, g2] at ok; exact ok.elim) | (rw [q1] at ok; exact ok.elim) | exact ok.elim
    | dct kv => first | (rw [q] at ok; exact ok.elim) | (rw [q] at aI; exact aI.elim) | (rw [q] at e; cases e; done) | (rw [g] at ok; exact ok.elim) | (rw [g] at q; cases q; done) | (rw [g] at h; cases h; done) | (rw [g2] at ok; exact ok.elim) | (rw [g1, g2] at ok; exact ok.elim) | (rw [q1] at ok; exact ok.elim) | exact ok.elim
    | tab y0 => first | (rw [q] at ok; exact ok.elim) | (rw [q] at aI; exact aI.elim) | (rw [q] at e; cases e; done) | (rw [g] at ok; exact ok.elim) | (rw [g] at q; cases q; done) | (rw [g] at h; cases h; done) | (rw [g2] at ok; exact ok.elim) | (rw [g1, g2] at ok; exact ok.elim) | (rw [q1] at ok; exact ok.elim) | exact ok.elim
    | lst xs =>
     rw [q] at aI
     obtain ⟨p', vs, e2, h2, rs⟩ := eu.hp.lst q
     rw [e1] at e2; cases e2
     exact .inl ⟨p, rfl, ⟨vs, .of h2⟩, HM e1 eu aI⟩
  case tup xs =>
   unfold Rep at r2
   obtain ⟨p, vs, rfl, sq, rs⟩ := r2
   refine .inr (.inl ⟨p, rfl, ⟨vs, sq⟩, pB xs (fun i H' ρ' hi f => ?_) (fun i H' ρ' hi f => ?_) (fun i d' H' ρ' x MF hd f y => ?_) eu aI⟩)
   ·rw [rs.length] at hi
    exact ⟨vs, vs[i], f.tup _ _ sq, List.getElem?_eq_getElem hi⟩
   ·exact ⟨vs, f.tup _ _ sq, by rw [← rs.length]; exact hi⟩
   ·obtain ⟨rfl, y⟩ := y
    obtain ⟨w', ew, rw'⟩ := rs.get hd
    have := y vs (f.tup _ _ sq)
    rw [ew] at this; cases this
    exact ⟨rfl, rw'.mono f⟩
  case con xs =>
   unfold Rep at r2
   obtain ⟨p, vs, rfl, sq, rs⟩ := r2
   refine .inl ⟨p, rfl, ⟨vs, sq.seq⟩, pB xs (fun i H' ρ' hi f => ?_) (fun i H' ρ' hi f => ?_) (fun i d' H' ρ' x MF hd f y => ?_) eu aI⟩
   ·rw [rs.length] at hi
    exact ⟨vs, vs[i], (f.con _ _ sq).seq, List.getElem?_eq_getElem hi⟩
   ·exact ⟨vs, (f.con _ _ sq).seq, by rw [← rs.length]; exact hi⟩
   ·obtain ⟨rfl, y⟩ := y
    obtain ⟨w', ew, rw'⟩ := rs.get hd
    have := y vs (f.con _ _ sq).seq
    rw [ew] at this; cases this
    exact ⟨rfl, rw'.mono f⟩
  case str z =>
   unfold Rep at r2; subst r2
   refine .inr (.inr ⟨z, rfl, pB (z.cps.toList.map fun c => .str ⟨#[c]⟩) (fun i H' ρ' hi f => ?_) (fun i H' ρ' hi f => ?_) (fun i d' H' ρ' x MF hd f y => ?_) eu aI⟩)
   ·simpa [HL] using hi
   ·simpa [HL] using hi
   ·obtain ⟨rfl, c, hc, rfl⟩ := y
    rw [List.getElem?_map] at hd
    have : z.cps.toList[i]? = some c := by simpa using hc
    rw [this] at hd
    cases hd
    exact ⟨rfl, by unfold Rep; rfl⟩
noncomputable def ko : List D → Option (List D)
 | [.int j] => if -(2 ^ 62) ≤ j ∧ j < 2 ^ 62 then some ((List.range j.toNat).map fun (k : Nat) => .int (0 + (k : Int))) else none
 | _ => none
noncomputable def iL (CW : List D → Option (List D)) (g : rP) (m : DS → M (List D)) (body : MS) : MS := fun τ => cT (m τ) (fun ds G => match CW ds with
 | some xs => dY g body xs τ G
 | none => .stuck) fun c G => .xn c τ G
theorem KN {K : PySem.W.Frag} {mg : Str → Option Value} {σ : L2.St} {H : Hp} {m : DS → M (List D)} {k : DS → List D → DH → Res} {Dd : Ends} (h : iK K mg EE (fun τ => cT (m τ) (k τ) fun c G => .xn c τ G) Dd σ H) :
  ue K mg EE m σ H fun x H1 => ∃ τ ρ G d, Ab K mg σ H1 τ ρ G ∧ ay K mg ρ H1 d x ∧ wN K mg EE H1 ρ Dd (k τ d G) := by
 obtain ⟨τ, ρ, G, ab, ok⟩ := h
 refine ⟨τ, ρ, G, ab, ?_⟩
 dsimp only [cT] at ok
 cases e : m τ G with
 | stuck => rw [e] at ok; exact ok
 | dz c G' => rw [e] at ok; exact fun H' ρ' f cB => ok σ H' ρ' f cB
 | ok d G' => rw [e] at ok; exact fun v H' ρ' f cB r => ⟨τ, ρ', G', d, cB, r, ok.fut f⟩
theorem Dc {g : rP} {body : MS} {Dd : Ends} {H0 : Hp} {σ0 : L2.St} {ρ0 : List Addr} {G0 : DH} {τ0 : DS} (lo : Int) (n : Nat) (ab : Ab X.K X.mg σ0 H0 τ0 ρ0 G0) (ok : wN X.K X.mg EE H0 ρ0 Dd (dY g body ((List.range n).map fun (k : Nat) => .int (lo + (k : Int))) τ0 G0)) :
  ∃ W : Nat → Nat → L2.St → Hp → Prop, (∃ m, W 0 m σ0 H0) ∧ ∀ i m σ H, W i m σ H →
   ((yl lo n).stop i H ∧ Dd.nx σ H) ∨ ((yl lo n).go i H ∧ ∃ N : L2.St → Hp → Prop, (∀ σ' H', N σ' H' → ∃ m', m' < m ∧ W (i + 1) m' σ' H') ∧ ∀ x H', (yl lo n).xr i H x H' → zU X.K X.mg g x σ H' fun σ2 H2 => iK X.K X.mg EE body { Dd with nx := N, ct := N, bk := Dd.nx } σ2 H2) :=
 pB (J := yl lo n) _ (fun i H ρ hi f => by simpa [yl] using hi) (fun i H ρ hi f => by simpa [yl] using hi) (fun i d H ρ x H' hd f y => by
  obtain ⟨rfl, rfl⟩ := y
  rw [List.getElem?_map] at hd
  cases q : (List.range n)[i]? with
  | none => rw [q] at hd; cases hd
  | some k =>
   rw [q] at hd
   obtain ⟨hk, e⟩ := List.getElem?_eq_some_iff.mp q
   rw [List.getElem_range] at e
   subst e
   cases hd
   exact ⟨rfl, by unfold Rep; rfl⟩) ab ok
theorem EN {g : rP} {m : DS → M (List D)} {body : List Stmt} {p pc : Pos} (hp : PassesOwn (model X.prog X.w) X.A X.env X.xe) (hc : X.calm = true) (hm : X.mg "range" = none) (ha : QA X EE [a] m) (hg : QG X tg g) (hb : A1 X EE body ms)
  (EO : Gl X "range" := by rfl) (hst : starEach [a] X.env = [(false, eval a X.env)] := by rfl) (hs : ∀ x, foldedSetIterable (.Call (.Name "range" p) [a] [] pc) X.env x = pure x := by intro _; rfl) :
  QS X EE (.For tg (.Call (.Name "range" p) [a] [] pc) body [] pos) (iL ko g m ms) := PS.mono (A9 hp hc (xu EO hm ha hst) hg hb hs) fun Dd σ H h => by
 obtain ⟨τ, ρ, G, ab, ok⟩ := KN (k := fun τ ds G => match ko ds with | some xs => dY g ms xs τ G | none => .stuck) h
 refine ⟨τ, ρ, G, ab, ?_⟩
 cases e : m τ G with
 | stuck => rw [e] at ok; exact ok
 | dz c G' => rw [e] at ok; exact ok
 | ok ds G' =>
  rw [e] at ok
  intro vs H1 ρ1 f1 rO r1
  obtain ⟨τ2, ρ2, G2, d2, eu, r2, aI⟩ := ok vs H1 ρ1 f1 rO r1
  cases q : ko d2 with
  | none => rw [q] at aI; exact aI.elim
  | some xs =>
   rw [q] at aI
   unfold ko at q
   split at q
   ·rename_i j
    split at q
    ·rename_i hj
     cases q
     unfold ay at r2
     obtain ⟨v, r, rfl, h1, h2⟩ := r2
     unfold ay at h2; subst h2
     unfold Rep at h1; subst h1
     exact ⟨j, rfl, hj.1, hj.2, Dc 0 j.toNat eu aI⟩
    ·cases q
   ·cases q
end
end L3
end
section
set_option Elab.async false
set_option linter.all false
set_option maxRecDepth 100000
namespace L3
open PySem PySem.Spec L2
noncomputable def T4 (K : PySem.W.Frag) (mg : Str → Option Value) (H : Hp) (ρ : List Addr) : Out D → VK → XK → Prop
 | .stuck, _, _ => False
 | .ok d G', Q, _ => ∀ v H' ρ', eX K H H' ρ ρ' → kh K mg H' ρ' G' → Rep K mg ρ' H' d v → Q v H'
 | .dz c G', _, E => ∀ cls H' ρ', (match c with | .mk n _ => mg n = some cls) → eX K H H' ρ ρ' → kh K mg H' ρ' G' → E cls none H'
noncomputable def aZ (K : PySem.W.Frag) (mg : Str → Option Value) (n : Nat) (m : List D → M D) : Sp := fun vs H Q E => ∃ ds ρ G, ds.length = n ∧ kh K mg H ρ G ∧ ay K mg ρ H ds vs ∧ T4 K mg H ρ (m ds G) Q E
theorem aZ.len {K : PySem.W.Frag} {mg : Str → Option Value} {n : Nat} {m : List D → M D} {vs : List V} {H : Hp} {Q : VK} {E : XK} (h : aZ K mg n m vs H Q E) : vs.length = n := by
 obtain ⟨ds, ρ, G, e, _, r, _⟩ := h
 rw [← r.length, e]
noncomputable def MG (mg : Str → Option Value) (EE : fC) (σ : L2.St) : XK := fun cls _ H' => ∃ c, (match c with | .mk n _ => mg n = some cls) ∧ EE c σ H'
noncomputable def KO (CX : uW) (X : Cx) (EE : fC) : Prop := ∀ (pins : List (Addr × Obj)) (σ : L2.St) (H : Hp) (s : Shared) (e : Value) (s' : Shared), Inv X pins σ H s → CX X.stack H s (MG X.mg EE σ) e s' → X.xe e s'
section
variable {X : Cx} {CX : uW} {EE : fC} {k n : Nat} {f : Addr} {fd : FuncData} {ps : List Str} {mf : List D → M D} {x : Str} {p pos : Pos} {e : Expr} {es : List Expr} {m : DS → M (List D)}
theorem kh.ab {K : PySem.W.Frag} {mg : Str → Option Value} {σ : L2.St} {H H' : Hp} {τ : DS} {ρ ρ' : List Addr} {G G' : DH} (ab : Ab K mg σ H τ ρ G) (f : eX K H H' ρ ρ') (h : kh K mg H' ρ' G') : Ab K mg σ H' τ ρ' G' := ⟨ab.st.mono f, h⟩
theorem B9 {pins : List (Addr × Obj)} {σ : L2.St} {H : Hp} {s : Shared} {Q : VK} {us : List Value} {vs : List V} {τ : DS} {ρ : List Addr} {G : DH} {ds : List D} (F : bC X.prog X.w X.K X.mg X.base CX k f fd ps (aZ X.K X.mg n mf)) (hr : gm k X.A) (hb : Binds X.K fd ps [])
  (hx : KO CX X EE) (I : Inv X pins σ H s) (r : Vals vs us) (ab : Ab X.K X.mg σ H τ ρ G) (rs : ay X.K X.mg ρ H ds vs) (hn : ds.length = n) (ok : mw X.K X.mg EE H σ τ ρ (mf ds G) Q) : wpAny (model X.prog X.w) X.A (call (.ref f) us) (EP X pins σ Q) X.xe s := by
 have h : aZ X.K X.mg n mf vs H Q (MG X.mg EE σ) := by
  refine ⟨ds, ρ, G, hn, ab.hp, rs, ?_⟩
  cases q : mf ds G with
  | stuck => rw [q] at ok; exact ok
  | ok d G' => rw [q] at ok; exact fun v H' ρ' f hp r => ok v H' ρ' f (kh.ab ab f hp) r
  | dz c G' => rw [q] at ok; exact fun cls H' ρ' hc f hp => ⟨c, hc, ok H' ρ' f (kh.ab ab f hp)⟩
 have hl : (us ++ []).length = ps.length := by rw [List.append_nil, ← r.length]; exact F.len _ _ _ _ h
 have LI := hb s us I.BX hl
 rw [List.append_nil] at LI
 refine wpAny_call (codeAny_mono (F.run X.A X.stack s H ⟨us, []⟩ us vs Q (MG X.mg EE σ) hr I.jD I.os.2 LI r h) fun r s' hq => ?_)
 cases r with
 | error e => exact hx pins σ H s e s' I hq
 | ok fl =>
  cases fl with
  | ret u => exact I.after hq
  | next => exact False.elim hq
  | brk => exact False.elim hq
  | cont => exact False.elim hq
noncomputable def aH (n : Nat) (mf : List D → M D) (m : DS → M (List D)) : DS → M D := av (fun ds => if ds.length = n then mf ds else M.stop) m
theorem HN (F : bC X.prog X.w X.K X.mg X.base CX k f fd ps (aZ X.K X.mg n mf)) (hr : gm k X.A) (hm : X.mg x = some (.ref f)) (hk : PySem.W.keepIn X.K (.ref f) = true) (hb : Binds X.K fd ps []) (hx : KO CX X EE)
  (ha : QA X EE (e :: es) m) (hg : Gl X x := by rfl) (hdb : (x == ("__debug__" : Str)) = false := by decide) (he : starEach (e :: es) X.env = (false, eval e X.env) :: starEach es X.env := by rfl) (hpl : (backTo pos (starEach es X.env)).any (·.1) = false := by rfl) :
  QE X EE (.Call (.Name x p) (e :: es) [] pos) (aH n mf m) := by
 intro pins s σ H Q I h
 obtain ⟨τ, ρ, G, ab, ok⟩ := tK (k := fun _ ds => if ds.length = n then mf ds else M.stop) h
 refine wpAny_Call_Name_kw (BY I hg hm ?_ hdb)
 refine PySem.W.callWith_K (h₀ := X.base) I.ok.mod.IY hk (gX (ha pos pins s σ H _ I ⟨τ, ρ, G, ab, ok⟩) fun us s1 ⟨vs, H1, I1, r, q⟩ => ⟨I1.BX, ?_⟩) he hpl
 obtain ⟨τ1, ρ1, G1, ds, rO, rs, GO⟩ := q
 by_cases hn : ds.length = n
 ·rw [if_pos hn] at GO
  exact B9 F hr hb hx I1 r rO rs hn GO
 ·rw [if_neg hn] at GO
  exact GO.elim
end
noncomputable def cG (N : Nat) (ms : MS) (ds : List D) : M D := fun G => match ms (ds.map some ++ List.replicate (N - ds.length) none) G with
 | .stuck => .stuck
 | .nx _ G' => .ok .jd G'
 | .rt d G' => .ok d G'
 | .bk _ _ => .stuck
 | .ct _ _ => .stuck
 | .xn c _ G' => .dz c G'
theorem m6 {K : PySem.W.Frag} {mg : Str → Option Value} {H : Hp} {ρ : List Addr} {ds : List D} {vs : List V} {N : List Str} (r : ay K mg ρ H ds vs) : vB K mg H ρ (L2.start N vs) (ds.map some ++ List.replicate (N.length - ds.length) none) := by
 have hl := r.length
 refine ⟨by unfold L2.start; simp [hl], fun i d e => ?_⟩
 have hi : i < ds.length := by
  by_cases hi : i < ds.length
  ·exact hi
  ·rw [List.getElem?_append_right (by simpa using hi), List.getElem?_replicate] at e
   split at e <;> cases e
 rw [List.getElem?_append_left (by simpa using hi), List.getElem?_map] at e
 cases q : ds[i]? with
 | none => rw [q] at e; cases e
 | some d' =>
  rw [q] at e; cases e
  obtain ⟨v, e1, r1⟩ := r.get q
  refine ⟨v, ?_, r1⟩
  unfold L2.start
  rw [List.getElem?_append_left (by simp; omega), List.getElem?_map, e1]
  rfl
section
variable {P : Program} {w : World} {K : PySem.W.Frag} {mg : Str → Option Value} {base : Heap} {f : Addr} {fd : FuncData}
end
end L3
end
section
set_option Elab.async false
set_option linter.all false
set_option maxRecDepth 100000
namespace L3
open PySem PySem.Spec L2
section
variable {X : Cx} {EE : fC} {a b c : Expr} {ma mb mc : DS → M D} {pos : Pos}
noncomputable def Je (X : Cx) (EE : fC) (f : List D → M D) : List V → Hp → VK → Prop := fun xs H Q => ∃ σ τ ρ G ds, Ab X.K X.mg σ H τ ρ G ∧ ay X.K X.mg ρ H ds xs ∧ mw X.K X.mg EE H σ τ ρ (f ds G) Q
theorem vD {f : List D → M D} : CallD X EE (Je X EE f) f := fun σ H τ ρ G xs ds Q ab r ok => ⟨σ, τ, ρ, G, ds, ab, r, ok⟩
theorem oh {K : PySem.W.Frag} {mg : Str → Option Value} {ρ : List Addr} {H : Hp} {d : D} {xs : List V} (r : ay K mg ρ H [d] xs) : ∃ x, xs = [x] ∧ Rep K mg ρ H d x := by
 unfold ay at r
 obtain ⟨v, r', rfl, h1, h2⟩ := r
 unfold ay at h2; subst h2
 exact ⟨v, rfl, h1⟩
theorem Jf {K : PySem.W.Frag} {mg : Str → Option Value} {ρ : List Addr} {H : Hp} {d e : D} {xs : List V} (r : ay K mg ρ H [d, e] xs) : ∃ x y, xs = [x, y] ∧ Rep K mg ρ H d x ∧ Rep K mg ρ H e y := by
 unfold ay at r
 obtain ⟨v, r', rfl, h1, h2⟩ := r
 obtain ⟨y, rfl, h3⟩ := oh h2
 exact ⟨v, y, rfl, h1, h3⟩
noncomputable def kq : List D → M D
 | [d] => fun G => match bS G d with
  | some (.lst xs) => .ok (.int xs.length) G
  | some (.tup xs) => .ok (.int xs.length) G
  | some (.str z) => if z.length ≤ sizeLine then .ok (.int z.length) G else .stuck
  | none => .stuck
 | _ => M.stop
theorem De : jC X (.builtin "len") (Je X EE kq) := by
 intro pins s σ0 H xs us Q I r ⟨σ, τ, ρ, G, ds, ab, rs, ok⟩
 match ds, ok with
 | [], ok => exact ok.elim
 | _ :: _ :: _, ok => exact ok.elim
 | [d], ok =>
  obtain ⟨x, rfl, rx⟩ := oh rs
  dsimp only [kq] at ok
  cases q : bS G d with
  | none => rw [q] at ok; exact ok.elim
  | some sk =>
   rw [q] at ok
   cases sk with
   | lst zs =>
    obtain ⟨p, vs, rfl, sq, rv⟩ := d8 (pins := pins) (σ0 := σ0) (s := s) ab.hp rx q
    exact rG pins s σ0 H _ us Q I r ⟨p, vs, rfl, .inl sq, ok _ H ρ .refl ab (by unfold Rep; rw [rv.length])⟩
   | tup zs =>
    obtain ⟨p, vs, rfl, sq, rv⟩ := iy rx q
    exact rG pins s σ0 H _ us Q I r ⟨p, vs, rfl, .inr sq, ok _ H ρ .refl ab (by unfold Rep; rw [rv.length])⟩
   | str z =>
    obtain ⟨rfl, rfl⟩ := pq rx q
    dsimp only at ok
    by_cases hz : z.length ≤ sizeLine
    ·rw [if_pos hz] at ok
     exact yr pins s σ0 H _ us Q I r ⟨z, rfl, hz, ok _ H ρ .refl ab (by unfold Rep; rfl)⟩
    ·rw [if_neg hz] at ok; exact ok.elim
inductive Ty where
 | jd | bl | int | str | tup | lst | dct
 deriving DecidableEq
noncomputable def Ty.nm : Ty → String
 | .jd => "NoneType" | .bl => "bool" | .int => "int" | .str => "str" | .tup => "tuple" | .lst => "list" | .dct => "dict"
noncomputable def MH (G : DH) : D → Option Ty
 | .jd => some .jd
 | .bl _ => some .bl
 | .int _ => some .int
 | .str _ => some .str
 | .tup _ => some .tup
 | .con _ => some .lst
 | .obj n => match G[n]? with
  | some (.lst _) => some .lst
  | _ => none
 | .fn _ => none
 | .xE _ _ => none
 | .lN _ _ => none
noncomputable def Ty.is (t c : Ty) : Bool := decide (t = c) || (decide (t = .bl) && decide (c = .int))
theorem qD (K : PySem.W.Frag) : ∀ (t c : Ty), c ≠ .jd → PySem.W.kitOne K (.type t.nm) (.type c.nm) = some (t.is c) := by
 intro t c h
 cases t <;> cases c <;> first | exact absurd rfl h | rfl | (with_unfolding_all rfl) | decide +kernel
noncomputable def vE (c : Ty) (d : D) : M D := fun G => match MH G d with
 | some t => .ok (.bl (t.is c)) G
 | none => .stuck
noncomputable def Df (c : Ty) (m : DS → M D) : DS → M D := fun τ => (m τ).bind (vE c)
theorem HP {c : Ty} (hc : c ≠ .jd) {pins : List (Addr × Obj)} {s : Shared} {σ0 σ : L2.St} {H : Hp} {τ : DS} {ρ : List Addr} {G : DH} {d : D} {x : V} {u : Value} {Q : VK} (I : Inv X pins σ0 H s) (ab : Ab X.K X.mg σ H τ ρ G) (rx : Rep X.K X.mg ρ H d x) (ru : RelV x u)
  (ok : mw X.K X.mg EE H σ τ ρ (vE c d G) Q) : wpAny (model X.prog X.w) X.A (call (.builtin "isinstance") [u, .type c.nm]) (EP X pins σ0 Q) X.xe s := by
 dsimp only [vE] at ok
 refine nZ I.os.2 ?_
 have fin : ∀ {b : Bool}, Q (.bl b) H → ∀ tk, 0 < tk → EP X pins σ0 Q (.bool b) { s with toks := tk } := fun q tk ht => ⟨.bl _, H, I.tok tk, rfl, q⟩
 cases d with
 | jd =>
  have q := ok (.bl _) H ρ .refl ab (by unfold Rep; rfl)
  unfold Rep at rx; subst rx; cases ru
  exact PySem.W.kia_one PySem.W.kitx_none I.BX True.intro (qD X.K .jd c hc) (fun z => nomatch z) (fin q)
 | bl y =>
  have q := ok (.bl _) H ρ .refl ab (by unfold Rep; rfl)
  unfold Rep at rx; subst rx; cases ru
  exact PySem.W.kia_one PySem.W.kitx_bool I.BX True.intro (qD X.K .bl c hc) (fun z => nomatch z) (fin q)
 | int y =>
  have q := ok (.bl _) H ρ .refl ab (by unfold Rep; rfl)
  unfold Rep at rx; subst rx; obtain ⟨t, rfl⟩ := ru
  exact PySem.W.kia_one PySem.W.kitx_int I.BX True.intro (qD X.K .int c hc) (fun z => nomatch z) (fin q)
 | str y =>
  have q := ok (.bl _) H ρ .refl ab (by unfold Rep; rfl)
  unfold Rep at rx; subst rx; obtain ⟨t, rfl⟩ := ru
  exact PySem.W.kia_one PySem.W.kitx_str I.BX True.intro (qD X.K .str c hc) (fun z => nomatch z) (fin q)
 | tup ys =>
  have q := ok (.bl _) H ρ .refl ab (by unfold Rep; rfl)
  unfold Rep at rx
  obtain ⟨p, vs, rfl, sq, _⟩ := rx
  cases ru
  obtain ⟨its, _, ⟨o, h1, h2, _⟩, _⟩ := I.tuple sq
  exact PySem.W.kia_one PySem.W.kitx_tuple I.BX ⟨o, h1, h2⟩ (qD X.K .tup c hc) (fun z => nomatch z) (fin q)
 | con ys =>
  have q := ok (.bl _) H ρ .refl ab (by unfold Rep; rfl)
  unfold Rep at rx
  obtain ⟨p, vs, rfl, sq, _⟩ := rx
  cases ru
  obtain ⟨its, _, ⟨o, k, h1, h2, _⟩, _⟩ := I.list sq.seq
  exact PySem.W.kia_one PySem.W.kitx_list I.BX ⟨o, h1, h2⟩ (qD X.K .lst c hc) (fun z => nomatch z) (fin q)
 | obj n =>
  unfold Rep at rx
  obtain ⟨p, rfl, e1⟩ := rx
  cases ru
  dsimp only [MH] at ok
  cases g : G[n]? with
  | none => rw [g] at ok; exact ok.elim
  | some o =>
   cases o with
   | dead => first | (rw [q] at ok; exact ok.elim) | (rw [q] at aI; exact aI.elim) | (rw [q] at e; cases e; done) | (rw [g] at ok; exact ok.elim) | (rw [g] at q; cases q; done) | (rw [g] at h; cases h; done) | (rw [g2] at ok; exact ok.elim) | (rw [g1, g2] at ok; exact ok.elim) | (rw [q1] at ok; exact ok.elim) | exact ok.elim
   | dct kv => first | (rw [q] at ok; exact ok.elim) | (rw [q] at aI; exact aI.elim) | (rw [q] at e; cases e; done) | (rw [g] at ok; exact ok.elim) | (rw [g] at q; cases q; done) | (rw [g] at h; cases h; done) | (rw [g2] at ok; exact ok.elim) | (rw [g1, g2] at ok; exact ok.elim) | (rw [q1] at ok; exact ok.elim) | exact ok.elim
   | tab y0 => first | (rw [q] at ok; exact ok.elim) | (rw [q] at aI; exact aI.elim) | (rw [q] at e; cases e; done) | (rw [g] at ok; exact ok.elim) | (rw [g] at q; cases q; done) | (rw [g] at h; cases h; done) | (rw [g2] at ok; exact ok.elim) | (rw [g1, g2] at ok; exact ok.elim) | (rw [q1] at ok; exact ok.elim) | exact ok.elim
   | lst ys =>
    rw [g] at ok
    have q := ok (.bl _) H ρ .refl ab (by unfold Rep; rfl)
    obtain ⟨p', vs, e2, hp, _⟩ := ab.hp.lst g
    rw [e1] at e2; cases e2
    obtain ⟨its, _, ⟨o, k, h1, h2, _⟩, _⟩ := I.list (.of hp)
    exact PySem.W.kia_one PySem.W.kitx_list I.BX ⟨o, h1, h2⟩ (qD X.K .lst c hc) (fun z => nomatch z) (fin q)
 | xE _ _ => exact ok.elim
 | lN y0 c0 => exact ok.elim
 | fn x => exact ok.elim
theorem KP (c : Ty) {p pt : Pos} {x : Str} (hc : c ≠ .jd) (hm : X.mg "isinstance" = none) (hmt : X.mg x = none) (ha : QE X EE a ma) (hb : bootBuiltins x = some (.type c.nm))
  (hg : Gl X "isinstance" := by rfl) (hgt : Gl X x := by rfl) (hnt : x ≠ "__name__" := by decide) (hdt : (x == ("__debug__" : Str)) = false := by decide)
  (he : starEach [a, .Name x pt] X.env = (false, eval a X.env) :: starEach [.Name x pt] X.env := by rfl) (T5 : starEach [.Name x pt] X.env = (false, eval (.Name x pt) X.env) :: starEach [] X.env := by rfl) (hpl : (backTo pos (starEach [.Name x pt] X.env)).any (·.1) = false := by rfl)
  (hbi : bootBuiltins "isinstance" = some (.builtin "isinstance") := by first | exact PyProof.Rows.boot_isinstance | decide +kernel) :
  QE X EE (.Call (.Name "isinstance" p) [a, .Name x pt] [] pos) (Df c ma) := by
 have hT : PE X (.Name x pt) (tC (.ty c.nm)) := GW hgt hmt hb rfl hnt hdt
 have hA : PA X [a, .Name x pt] (En (dB X.K X.mg EE ma) (En (tC (.ty c.nm)) Mn)) := ym ha (ym hT Eo T5) he
 intro pins s σ H Q I h
 obtain ⟨τ, ρ, G, ab, ok⟩ := tH (k := fun _ d => vE c d) h
 refine wpAny_Call_Name_kw (mV I hg hm hbi ?_ (by decide) (by decide))
 refine PyProof.Rows.callWith_builtin1 (gX (hA pos pins s σ H (fun vs H1 => ∃ x, vs = [x, .ty c.nm] ∧ ∃ τ ρ G d, Ab X.K X.mg σ H1 τ ρ G ∧ Rep X.K X.mg ρ H1 d x ∧ mw X.K X.mg EE H1 σ τ ρ (vE c d G) Q) I ⟨τ, ρ, G, ab, ?_⟩) fun us s1 ⟨vs, H1, I1, r1, q1⟩ => ?_) he hpl
 ·cases e : ma τ G with
  | stuck => rw [e] at ok; exact ok
  | dz c G' => rw [e] at ok; exact ok
  | ok d G' => rw [e] at ok; exact fun v H' ρ' f' cB r' => ⟨v, rfl, ok v H' ρ' f' cB r'⟩
 ·obtain ⟨y, rfl, τ2, ρ2, G2, d, eu, rd, aI⟩ := q1
  cases r1 with
  | cons ry rr =>
   cases rr with
   | cons rt rr =>
    cases rr
    cases rt
    exact HP hc I1 eu rd ry aI
end
end L3
end
section
set_option Elab.async false
set_option linter.all false
set_option maxRecDepth 100000
namespace L3
open PySem PySem.Spec L2
section
variable {X : Cx} {EE : fC} {a b c : Expr} {ma mb mc : DS → M D} {pos : Pos}
noncomputable def oi (g : Int → Int → Int) : List D → M D
 | [.int i, .int j] => M.ret (.int (g i j))
 | _ => M.stop
theorem ER {g : Int → Int → Int} {ds : List D} {G : DH} {σ : L2.St} {H : Hp} {τ : DS} {ρ : List Addr} {Q : VK} (ok : mw X.K X.mg EE H σ τ ρ (oi g ds G) Q) : ∃ i j, ds = [.int i, .int j] ∧ mw X.K X.mg EE H σ τ ρ (.ok (.int (g i j)) G) Q := by
 unfold oi at ok
 split at ok
 ·exact ⟨_, _, rfl, ok⟩
 ·exact ok.elim
theorem Dg (hc : X.calm = true) : jC X (.builtin "min") (Je X EE (oi fun i j => if j < i then j else i)) := by
 intro pins s σ0 H xs us Q I r ⟨σ, τ, ρ, G, ds, ab, rs, ok⟩
 obtain ⟨i, j, rfl, ok⟩ := ER ok
 obtain ⟨x, y, rfl, r1, r2⟩ := Jf rs
 unfold Rep at r1 r2; subst r1 r2
 exact C3 hc pins s σ0 H _ us Q I r ⟨i, j, rfl, ok _ H ρ .refl ab (by unfold Rep; rfl)⟩
noncomputable def MJ (X : Cx) (EE : fC) (f : D → List D → M D) : V → List V → Hp → VK → Prop := fun x xs H Q => ∃ σ τ ρ G d ds, Ab X.K X.mg σ H τ ρ G ∧ Rep X.K X.mg ρ H d x ∧ ay X.K X.mg ρ H ds xs ∧ mw X.K X.mg EE H σ τ ρ (f d ds G) Q
noncomputable def iM (T : String) (G : DH) : D → Bool
 | .str _ => T == "str"
 | .int _ => T == "int"
 | .con _ => T == "list"
 | .obj n => match G[n]? with
  | some (.lst _) => T == "list"
  | _ => false
 | _ => false
theorem xH {T : String} {σ : L2.St} {H : Hp} {τ : DS} {ρ : List Addr} {G : DH} {d : D} {x : V} (ab : Ab X.K X.mg σ H τ ρ G) (r : Rep X.K X.mg ρ H d x) (h : iM T G d = true) : Oq X.K T x H := by
 cases d with
 | str z => unfold Rep at r; subst r; exact eq_of_beq h
 | int z => unfold Rep at r; subst r; exact eq_of_beq h
 | con zs =>
  unfold Rep at r
  obtain ⟨p, vs, rfl, sq, _⟩ := r
  exact .inl ⟨eq_of_beq h, vs, sq.seq⟩
 | obj n =>
  unfold Rep at r
  obtain ⟨p, rfl, e1⟩ := r
  dsimp only [iM] at h
  cases g : G[n]? with
  | none => rw [g] at h; cases h
  | some o =>
   cases o with
   | dead => first | (rw [q] at ok; exact ok.elim) | (rw [q] at aI; exact aI.elim) | (rw [q] at e; cases e; done) | (rw [g] at ok; exact ok.elim) | (rw [g] at q; cases q; done) | (rw [g] at h; cases h; done) | (rw [g2] at ok; exact ok.elim) | (rw [g1, g2] at ok; exact ok.elim) | (rw [q1] at ok; exact ok.elim) | exact ok.elim
   | dct kv => first | (rw [q] at ok; exact ok.elim) | (rw [q] at aI; exact aI.elim) | (rw [q] at e; cases e; done) | (rw [g] at ok; exact ok.elim) | (rw [g] at q; cases q; done) | (rw [g] at h; cases h; done) | (rw [g2] at ok; exact ok.elim) | (rw [g1, g2] at ok; exact ok.elim) | (rw [q1] at ok; exact ok.elim) | exact ok.elim
   | tab y0 => first | (rw [q] at ok; exact ok.elim) | (rw [q] at aI; exact aI.elim) | (rw [q] at e; cases e; done) | (rw [g] at ok; exact ok.elim) | (rw [g] at q; cases q; done) | (rw [g] at h; cases h; done) | (rw [g2] at ok; exact ok.elim) | (rw [g1, g2] at ok; exact ok.elim) | (rw [q1] at ok; exact ok.elim) | exact ok.elim
   | lst ys =>
    rw [g] at h
    obtain ⟨p', vs, e2, hp, _⟩ := ab.hp.lst g
    rw [e1] at e2; cases e2
    exact .inl ⟨eq_of_beq h, vs, .of hp⟩
 | _ => cases h
noncomputable def cU (T : String) (f : D → List D → M D) (mo : DS → M D) (m : DS → M (List D)) : DS → M D := fun τ => (mo τ).bind fun d G => if iM T G d then (m τ).bind (fun ds => f d ds) G else .stuck
theorem Jg {o e : Expr} {es : List Expr} {name : Str} {apos cpos : Pos} {T id : String} {f : D → List D → M D} {mo : DS → M D} {m : DS → M (List D)} (pa : PlainAttrs T) (slot : Slot T name id) (hty : typeOf (.builtin id) = pure (.type "method_descriptor")) (hm : Jb X id (MJ X EE f)) (ho : QE X EE o mo) (ha : QA X EE (e :: es) m)
  (hbase : attributeBase o name X.env (eval o X.env) = eval o X.env := by rfl)
  (hfew : ((backTo cpos (starEach (e :: es) X.env)).all (fun x => !x.1) && (backToKw cpos (keywordEach [] X.env)).all (fun x => x.1.isSome)
   && decide ((e :: es).length + ([] : List Keyword).length + (if ([] : List Keyword).isEmpty then 0 else 1) < 30)) = true := by rfl)
  (hline : (apos.endLine == cpos.line) = true := by rfl) (hs : starEach (e :: es) X.env = (false, eval e X.env) :: starEach es X.env := by rfl) (hplain : (backTo cpos (starEach es X.env)).any (·.1) = false := by rfl) :
  QE X EE (.Call (.Attribute o name apos) (e :: es) [] cpos) (cU T f mo m) := PE.mono (Mv pa slot hty hm ho ha hbase hfew hline hs hplain) fun σ H Q h => by
 obtain ⟨τ, ρ, G, ab, ok⟩ := tH (k := fun τ d G => if iM T G d then (m τ).bind (fun ds => f d ds) G else .stuck) h
 refine ⟨τ, ρ, G, ab, ?_⟩
 cases e : mo τ G with
 | stuck => rw [e] at ok; exact ok
 | dz c G' => rw [e] at ok; exact ok
 | ok d G' =>
  rw [e] at ok
  intro v H' ρ' f' cB r'
  obtain ⟨τ2, ρ2, G2, d2, eu, r2, aI⟩ := ok v H' ρ' f' cB r'
  by_cases hk : iM T G2 d2 = true
  ·rw [if_pos hk] at aI
   refine ⟨xH eu r2 hk, τ2, ρ2, G2, eu, ?_⟩
   dsimp only [M.bind] at aI
   cases e2 : m τ2 G2 with
   | stuck => rw [e2] at aI; exact aI
   | dz c G' => rw [e2] at aI; exact aI
   | ok ds G3 =>
    rw [e2] at aI
    exact fun vs H3 ρ3 f3 zK r3 => ⟨σ, τ2, ρ3, G3, d2, ds, zK, r2.mono f3, r3, aI.fut f3⟩
  ·rw [if_neg hk] at aI; exact aI.elim
theorem KQ {o : Expr} {name : Str} {apos cpos : Pos} {T id : String} {f : D → List D → M D} {mo : DS → M D} (pa : PlainAttrs T) (slot : Slot T name id) (hty : typeOf (.builtin id) = pure (.type "method_descriptor")) (hm : Jb X id (MJ X EE f)) (ho : QE X EE o mo)
  (hbase : attributeBase o name X.env (eval o X.env) = eval o X.env := by rfl) (hline : (apos.endLine == cpos.line) = true := by rfl) :
  QE X EE (.Call (.Attribute o name apos) [] [] cpos) (cU T f mo aq) := PE.mono (Kr pa slot hty hm ho hbase hline) fun σ H Q h => by
 obtain ⟨τ, ρ, G, ab, ok⟩ := tH (k := fun τ d G => if iM T G d then (aq τ).bind (fun ds => f d ds) G else .stuck) h
 refine ⟨τ, ρ, G, ab, ?_⟩
 cases e : mo τ G with
 | stuck => rw [e] at ok; exact ok
 | dz c G' => rw [e] at ok; exact ok
 | ok d G' =>
  rw [e] at ok
  intro v H' ρ' f' cB r'
  obtain ⟨τ2, ρ2, G2, d2, eu, r2, aI⟩ := ok v H' ρ' f' cB r'
  by_cases hk : iM T G2 d2 = true
  ·rw [if_pos hk] at aI
   exact ⟨xH eu r2 hk, σ, τ2, ρ2, G2, d2, [], eu, r2, .nil, aI⟩
  ·rw [if_neg hk] at aI; exact aI.elim
noncomputable def dW : D → List D → M D
 | .obj n, [v] => fun G => match G[n]? with
  | some (.lst xs) => if xs.length < sizeLine then .ok .jd (G.set n (.lst (xs ++ [v]))) else .stuck
  | _ => .stuck
 | _, _ => M.stop
theorem Bo {σ : L2.St} {H : Hp} {τ : DS} {ρ : List Addr} {G : DH} {n : Nat} {xs ys : List D} {d : D} {w : V} {p : Addr} {vs ws : List V} {Q : VK} (ab : Ab X.K X.mg σ H τ ρ G) (hn : ρ[n]? = some p) (hp : H p = some (.lst vs)) (r : ay X.K X.mg ρ H ys ws)
  (rd : ∀ H', eX X.K H H' ρ ρ → Rep X.K X.mg ρ H' d w) (ok : mw X.K X.mg EE H σ τ ρ (.ok d (G.set n (.lst ys))) Q) : Q w (upd H p (.lst ws)) := by
 have f : eX X.K H (upd H p (.lst ws)) ρ ρ := uZ hp ρ
 exact ok w _ ρ f (ab.fut f (ab.hp.put (ds := ys) hn hp r)) (rd _ f)
theorem Bp : Jb X "list.append" (MJ X EE dW) := by
 intro pins s σ0 H x xs v us Q I rx MK ⟨σ, τ, ρ, G, d, ds, ab, rd, D7, ok⟩
 cases d <;> try exact ok.elim
 rename_i n
 match ds, ok with
 | [], ok => exact ok.elim
 | _ :: _ :: _, ok => exact ok.elim
 | [y], ok =>
  obtain ⟨yv, rfl, ry⟩ := oh D7
  unfold Rep at rd
  obtain ⟨p, rfl, e1⟩ := rd
  dsimp only [dW] at ok
  cases g : G[n]? with
  | none => rw [g] at ok; exact ok.elim
  | some o =>
   cases o with
   | dead => first | (rw [q] at ok; exact ok.elim) | (rw [q] at aI; exact aI.elim) | (rw [q] at e; cases e; done) | (rw [g] at ok; exact ok.elim) | (rw [g] at q; cases q; done) | (rw [g] at h; cases h; done) | (rw [g2] at ok; exact ok.elim) | (rw [g1, g2] at ok; exact ok.elim) | (rw [q1] at ok; exact ok.elim) | exact ok.elim
   | dct kv => first | (rw [q] at ok; exact ok.elim) | (rw [q] at aI; exact aI.elim) | (rw [q] at e; cases e; done) | (rw [g] at ok; exact ok.elim) | (rw [g] at q; cases q; done) | (rw [g] at h; cases h; done) | (rw [g2] at ok; exact ok.elim) | (rw [g1, g2] at ok; exact ok.elim) | (rw [q1] at ok; exact ok.elim) | exact ok.elim
   | tab y0 => first | (rw [q] at ok; exact ok.elim) | (rw [q] at aI; exact aI.elim) | (rw [q] at e; cases e; done) | (rw [g] at ok; exact ok.elim) | (rw [g] at q; cases q; done) | (rw [g] at h; cases h; done) | (rw [g2] at ok; exact ok.elim) | (rw [g1, g2] at ok; exact ok.elim) | (rw [q1] at ok; exact ok.elim) | exact ok.elim
   | lst zs =>
    rw [g] at ok
    dsimp only at ok
    obtain ⟨p', vs, e2, hp, rs⟩ := ab.hp.lst g
    rw [e1] at e2; cases e2
    by_cases hz : zs.length < sizeLine
    ·rw [if_pos hz] at ok
     exact xC pins s σ0 H _ _ v us Q I rx MK ⟨p, vs, yv, rfl, rfl, hp, by rw [← rs.length]; exact hz, Bo (xs := zs) ab e1 hp (rs.append (.cons ry .nil)) (fun _ _ => by unfold Rep; rfl) ok⟩
    ·rw [if_neg hz] at ok; exact ok.elim
theorem Dh {o e : Expr} {apos cpos : Pos} {mo : DS → M D} {m : DS → M (List D)} (ho : QE X EE o mo) (ha : QA X EE [e] m)
  (hbase : attributeBase o "append" X.env (eval o X.env) = eval o X.env := by rfl)
  (hfew : ((backTo cpos (starEach [e] X.env)).all (fun x => !x.1) && (backToKw cpos (keywordEach [] X.env)).all (fun x => x.1.isSome)
   && decide ([e].length + ([] : List Keyword).length + (if ([] : List Keyword).isEmpty then 0 else 1) < 30)) = true := by rfl)
  (hline : (apos.endLine == cpos.line) = true := by rfl) (hs : starEach [e] X.env = (false, eval e X.env) :: starEach [] X.env := by rfl) (hplain : (backTo cpos (starEach [] X.env)).any (·.1) = false := by rfl) :
  QE X EE (.Call (.Attribute o "append" apos) [e] [] cpos) (cU "list" dW mo m) := Jg PySem.F.plainAttrs_list PySem.F.slot_list_append PySem.F.type_list_append Bp ho ha hbase hfew hline hs hplain
noncomputable def uL : D → List D → M D
 | .obj n, [] => fun G => match G[n]? with
  | some (.lst xs) => match xs[xs.length - 1]? with
   | some y => .ok y (G.set n (.lst xs.dropLast))
   | none => .stuck
  | _ => .stuck
 | _, _ => M.stop
theorem ay.dropLast {K : PySem.W.Frag} {mg : Str → Option Value} {ρ : List Addr} {H : Hp} {ds : List D} {vs : List V} (r : ay K mg ρ H ds vs) : ay K mg ρ H ds.dropLast vs.dropLast := by
 rw [List.dropLast_eq_take, List.dropLast_eq_take, ← r.length]
 exact r.take _
theorem HQ : Jb X "list.pop" (MJ X EE uL) := by
 intro pins s σ0 H x xs v us Q I rx MK ⟨σ, τ, ρ, G, d, ds, ab, rd, D7, ok⟩
 cases d <;> try exact ok.elim
 rename_i n
 match ds, ok with
 | _ :: _, ok => exact ok.elim
 | [], ok =>
  unfold ay at D7; subst D7
  unfold Rep at rd
  obtain ⟨p, rfl, e1⟩ := rd
  dsimp only [uL] at ok
  cases g : G[n]? with
  | none => rw [g] at ok; exact ok.elim
  | some o =>
   cases o with
   | dead => first | (rw [q] at ok; exact ok.elim) | (rw [q] at aI; exact aI.elim) | (rw [q] at e; cases e; done) | (rw [g] at ok; exact ok.elim) | (rw [g] at q; cases q; done) | (rw [g] at h; cases h; done) | (rw [g2] at ok; exact ok.elim) | (rw [g1, g2] at ok; exact ok.elim) | (rw [q1] at ok; exact ok.elim) | exact ok.elim
   | dct kv => first | (rw [q] at ok; exact ok.elim) | (rw [q] at aI; exact aI.elim) | (rw [q] at e; cases e; done) | (rw [g] at ok; exact ok.elim) | (rw [g] at q; cases q; done) | (rw [g] at h; cases h; done) | (rw [g2] at ok; exact ok.elim) | (rw [g1, g2] at ok; exact ok.elim) | (rw [q1] at ok; exact ok.elim) | exact ok.elim
   | tab y0 => first | (rw [q] at ok; exact ok.elim) | (rw [q] at aI; exact aI.elim) | (rw [q] at e; cases e; done) | (rw [g] at ok; exact ok.elim) | (rw [g] at q; cases q; done) | (rw [g] at h; cases h; done) | (rw [g2] at ok; exact ok.elim) | (rw [g1, g2] at ok; exact ok.elim) | (rw [q1] at ok; exact ok.elim) | exact ok.elim
   | lst zs =>
    rw [g] at ok
    dsimp only at ok
    obtain ⟨p', vs, e2, hp, rs⟩ := ab.hp.lst g
    rw [e1] at e2; cases e2
    cases qz : zs[zs.length - 1]? with
    | none => rw [qz] at ok; exact ok.elim
    | some y =>
     rw [qz] at ok
     obtain ⟨yv, ey, ry⟩ := rs.get qz
     exact Kv pins s σ0 H _ _ v us Q I rx MK ⟨p, vs, yv, rfl, rfl, hp, by rw [← rs.length]; exact ey, Bo (xs := zs) ab e1 hp rs.dropLast (fun _ f => ry.mono f) ok⟩
theorem KR {o : Expr} {apos cpos : Pos} {mo : DS → M D} (ho : QE X EE o mo) (hbase : attributeBase o "pop" X.env (eval o X.env) = eval o X.env := by rfl) (hline : (apos.endLine == cpos.line) = true := by rfl) :
  QE X EE (.Call (.Attribute o "pop" apos) [] [] cpos) (cU "list" uL mo aq) := KQ PySem.F.plainAttrs_list PySem.F.slot_list_pop PySem.F.type_list_pop HQ ho hbase hline
noncomputable def lP (v o i : D) : M D := fun G => match o, i with
 | .obj n, .int k => match G[n]? with
  | some (.lst xs) => match A0 xs.length k with
   | some j => .ok .jd (G.set n (.lst (xs.set j v)))
   | none => .stuck
  | _ => .stuck
 | _, _ => .stuck
noncomputable def jj (mv mo mi : DS → M D) : MS := fun τ => cT ((mv τ).bind fun v => (mo τ).bind fun o => (mi τ).bind fun i => lP v o i) (fun _ G => .nx τ G) fun c G => .xn c τ G
theorem ES {o i : Expr} {mv mo mi : DS → M D} {tpos : Pos} (hv : QE X EE a mv) (ho : QE X EE o mo) (hi : QE X EE i mi)
  (hs : swapsWithSole [.Subscript o i tpos] a pos.line X.env = pure false := by rfl) (hw : swappedStores [.Subscript o i tpos] a X.env = pure none := by rfl) (h1 : (assignEach [.Subscript o i tpos] X.env).map (·.2) = [assign (.Subscript o i tpos) X.env] := by rfl)
  (KS : ∀ v, assign (.Subscript o i tpos) X.env v = (do
   let ov ← holding [v] (eval o X.env)
   let iv ← holding [v, ov] (eval i X.env)
   standAt tpos
   holding [v, ov, iv] (setItem ov iv v)
   release [v, ov, iv] []) := by intro _; rfl) : QS X EE (.Assign [.Subscript o i tpos] a pos) (jj mv mo mi) :=
 PS.mono (JX hv (JW ho hi set_list KS) hs hw h1) fun Dd σ H ⟨τ, ρ, G, ab, ok⟩ => by
  refine ⟨τ, ρ, G, ab, ?_⟩
  dsimp only [jj, cT, M.bind] at ok
  cases e1 : mv τ G with
  | stuck => rw [e1] at ok; exact ok
  | dz c G' => rw [e1] at ok; exact fun H' ρ' f cB => ok σ H' ρ' f cB
  | ok v G1 =>
   rw [e1] at ok
   intro vv H1 ρ1 f1 rO r1
   refine ⟨τ, ρ1, G1, rO, ?_⟩
   dsimp only at ok
   cases e2 : mo τ G1 with
   | stuck => rw [e2] at ok; exact ok
   | dz c G' => rw [e2] at ok; exact fun H' ρ' f cB => ok σ H' ρ' (f1.trans f) cB
   | ok ov G2 =>
    rw [e2] at ok
    intro vo H2 ρ2 f2 eu r2
    refine ⟨τ, ρ2, G2, eu, ?_⟩
    dsimp only at ok
    cases e3 : mi τ G2 with
    | stuck => rw [e3] at ok; exact ok
    | dz c G' => rw [e3] at ok; exact fun H' ρ' f cB => ok σ H' ρ' ((f1.trans f2).trans f) cB
    | ok iv G3 =>
     rw [e3] at ok
     intro vi H3 ρ3 f3 zK r3
     dsimp only [lP] at ok
     cases ov <;> try exact ok.elim
     cases iv <;> try exact ok.elim
     rename_i n k
     have r2' := r2.mono f3
     unfold Rep at r2' r3
     obtain ⟨p, rfl, e4⟩ := r2'
     dsimp only at ok
     cases g : G3[n]? with
     | none => rw [g] at ok; exact ok.elim
     | some ob =>
      cases ob with
      | dead => first | (rw [q] at ok; exact ok.elim) | (rw [q] at aI; exact aI.elim) | (rw [q] at e; cases e; done) | (rw [g] at ok; exact ok.elim) | (rw [g] at q; cases q; done) | (rw [g] at h; cases h; done) | (rw [g2] at ok; exact ok.elim) | (rw [g1, g2] at ok; exact ok.elim) | (rw [q1] at ok; exact ok.elim) | exact ok.elim
      | dct kv => first | (rw [q] at ok; exact ok.elim) | (rw [q] at aI; exact aI.elim) | (rw [q] at e; cases e; done) | (rw [g] at ok; exact ok.elim) | (rw [g] at q; cases q; done) | (rw [g] at h; cases h; done) | (rw [g2] at ok; exact ok.elim) | (rw [g1, g2] at ok; exact ok.elim) | (rw [q1] at ok; exact ok.elim) | exact ok.elim
      | tab y0 => first | (rw [q] at ok; exact ok.elim) | (rw [q] at aI; exact aI.elim) | (rw [q] at e; cases e; done) | (rw [g] at ok; exact ok.elim) | (rw [g] at q; cases q; done) | (rw [g] at h; cases h; done) | (rw [g2] at ok; exact ok.elim) | (rw [g1, g2] at ok; exact ok.elim) | (rw [q1] at ok; exact ok.elim) | exact ok.elim
      | lst zs =>
       rw [g] at ok
       dsimp only at ok
       obtain ⟨p', vs, e5, hp, rs⟩ := zK.hp.lst g
       rw [e4] at e5; cases e5
       cases qj : A0 zs.length k with
       | none => rw [qj] at ok; exact ok.elim
       | some j =>
        rw [qj] at ok
        have rr := rs.set (r1.mono (f2.trans f3)) j
        have f4 : eX X.K H3 (upd H3 p (.lst (vs.set j vv))) ρ3 ρ3 := uZ hp ρ3
        exact ⟨p, vs, k, j, rfl, r3, hp, by rw [← rs.length]; exact qj, ok σ _ ρ3 (((f1.trans f2).trans f3).trans f4) (zK.fut f4 (zK.hp.put (ds := zs) e4 hp rr))⟩
end
end L3
end
section
set_option Elab.async false
set_option linter.all false
set_option maxRecDepth 100000
namespace L3
open PySem PySem.Spec L2
structure Di (B : Heap) (l : List Env) (e : Addr) (cls : Value) (h : Heap) : Prop where
 stay : B.StaysIn h
 new : B.get? e = none
 Wu : h.FunFrames B l
 tr : (∃ oe vs a0, h.get? e = some oe ∧ oe.cls = cls ∧ oe.data = .fields vs ∧ vs[0]? = some a0 ∧ vs[1]? = some .none) ∨ ∃ a0 fl, h.TracedAtW B e cls a0 fl
section
variable {M : Model} {A : Around} {E : Value → Shared → Prop} {s : Shared} {B : Heap} {env : Env} {outer l : List Env} {L e : Addr} {cls : Value} {Q : Unit → Shared → Prop}
theorem Bq {env' : Env} (h : env'.frame = env.frame) (v : Value) : noteFrame v env' = noteFrame v env := by
 unfold noteFrame frameOf
 rw [h]
theorem Ca (hfr : A.frames = some (env :: outer)) (hf : env.frame = some L) (f : Di B (env :: outer) e cls s.heap)
  (hQ : ∀ h' a0, Heap.HeldW B (env :: outer) e cls a0 L h' → s.heap.UpToSlots h' → Q () { s with heap := h' }) : wpAny M A (noteFrame (.ref e) env) Q E s := by
 obtain ⟨st, nw, fr, tr⟩ := f
 rcases tr with ⟨oe, vs, a0, he, hc, hd, h0, h1⟩ | ⟨a0, fl, oe, vs, T, oT, ts, he, hcls, hd, h1, ML, MM, hT, D8, h3⟩
 ·subst hc
  unfold noteFrame
  simp only [hf]
  refine wpAny_bind (wpAny_field he hd h1 ?_)
  rw [if_neg (by decide)]
  refine wpAny_entryW hfr fr hf he st nw hd (Array.getElem?_eq_some_iff.mp h1).1 h0 fun h' hN => ?_
  exact hQ h' a0 ⟨hN.1, nw, hN.2.1, hN.2.2.1⟩ hN.2.2.2
 ·by_cases hq : (fl == rawInt L) = true
  ·unfold noteFrame
   simp only [hf]
   refine wpAny_bind (wpAny_field he hd h1 ?_)
   rw [if_pos (show (Value.ref T != Value.none) = true by simp)]
   refine wpAny_bind (wpAny_field hT D8 h3 ?_)
   rw [if_pos hq]
   refine wpAny_pure ?_
   have := hQ s.heap a0 ⟨st, nw, fr, oe, vs, T, oT, ts, he, hcls, hd, h1, ML, MM, hT, D8, by rw [h3, beq_iff_eq.mp hq]⟩ (.refl _)
   exact this
  ·obtain ⟨rfl, h0⟩ := hcls
   unfold noteFrame
   simp only [hf]
   refine wpAny_bind (wpAny_field he hd h1 ?_)
   rw [if_pos (show (Value.ref T != Value.none) = true by simp)]
   refine wpAny_bind (wpAny_field hT D8 h3 ?_)
   rw [if_neg hq]
   refine wpAny_bind (wpAny_setField hT D8 (Array.getElem?_eq_some_iff.mp h3).1 ?_)
   have D9 : ∀ b, b ≠ T → (s.heap.update T (Obj.mapFields (·.setIfInBounds 3 Value.none))).get? b = s.heap.get? b := fun b hb => Heap.get?_update_other _ _ (Ne.symm hb)
   have MN : ∀ b o, s.heap.get? b = some o → (∀ vs, o.data ≠ .fields vs) → b ≠ T := fun b o hb hnf z => by
    rw [z, hT] at hb; cases hb; exact hnf ts D8
   refine wpAny_entryW hfr (fr.of_keeps fun b o hb hnf => ⟨o, (D9 b (MN b o hb hnf)).trans hb, rfl⟩) hf ((D9 e (Ne.symm MM)).trans he)
    (fun b o Pw => (D9 b fun z => by rw [z, ML] at Pw; cases Pw).trans (st b o Pw)) nw hd (Array.getElem?_eq_some_iff.mp h1).1 h0 fun h' hN => ?_
   exact hQ h' a0 ⟨hN.1, nw, hN.2.1, hN.2.2.1⟩ fun b o hb hnf => hN.2.2.2 b o ((D9 b (MN b o hb hnf)).trans hb) hnf
theorem ET (hfr : A.frames = some (env :: outer)) (hf : env.frame = some L) (f : Di B (env :: outer) e cls s.heap)
  (hQ : ∀ h' a0, Heap.FlyingW B outer e cls a0 h' → s.heap.UpToSlots h' → Q () { s with heap := h' }) : wpAny M A (leaving env (.ref e)) Q E s := by
 unfold leaving
 refine wpAny_bind (Ca hfr hf f fun h1 a0 hH u1 => ?_)
 refine wpAny_landsW hH fun h2 hF u2 => ?_
 obtain ⟨k1, k2, ⟨_, _, k3⟩, k4⟩ := hF
 exact hQ h2 a0 ⟨k1, k2, k3, k4⟩ (u1.trans u2)
theorem Di.Dj {a0 : Value} {h : Heap} (f : Heap.FlyingW B l e cls a0 h) : Di B l e cls h := ⟨f.1, f.2.1, f.2.2.1, .inr ⟨a0, .none, f.2.2.2⟩⟩
end
structure Rx (X : Cx) (B : Heap) : Prop where
 keep : ∀ b o, X.s₀.heap.get? b = some o → X.H₀ b = none → b ∉ frs X.stack → b ∉ X.ex → B.get? b = some o
 there : ∀ b o, X.s₀.heap.get? b = some o → b ∉ frs X.stack → b ∉ X.ex → ∃ o', B.get? b = some o'
 pins : ∀ p ∈ X.pn, B.get? p.1 = some p.2
noncomputable def MO (X : Cx) (H : Hp) (e : Addr) (cls : Value) (s : Shared) : Prop := ∃ B, Di B X.stack e cls s.heap ∧ pN X.prog X.w H B ∧ Rx X B
noncomputable def EU (mg : Str → Option Value) (c : XD) (cls : Value) : Prop := match c with | .mk n _ => mg n = some cls
noncomputable def kP (X : Cx) (EE : fC) : Prop := ∀ (pins : List (Addr × Obj)) (σ : L2.St) (H : Hp) (s : Shared) (e : Addr) (cls : Value) (c : XD), Inv X pins σ H s → MO X H e cls s → EU X.mg c cls → EE c σ H → X.xe (.ref e) s
section
variable {X : Cx} {pins : List (Addr × Obj)} {σ : L2.St} {H : Hp} {s : Shared} {h' : Heap}
theorem IsCell.slots {h h' : Heap} {c : Addr} {v : Option Value} (u : h.UpToSlots h') (hc : h.IsCell c v) : h'.IsCell c v := by
 obtain ⟨o, e, d⟩ := hc
 obtain ⟨sl, e'⟩ := u c o e fun vs q => by rw [d] at q; cases q
 exact ⟨_, e', d⟩
theorem Inv.MP {B : Heap} {t : Nat} (I : Inv X pins σ H s) (C : Rx X B) (hok : pN X.prog X.w H B) (st : B.StaysIn h') (u : s.heap.UpToSlots h') (ht : 0 < t := by first | exact Nat.succ_pos _ | exact (Inv.os (by assumption)).2 | assumption | omega) : Inv X [] σ H { s with heap := h', toks := t } := by
 have Ef : ∀ b o, X.s₀.heap.get? b = some o → b ≠ X.env.locals := fun b o e => Nat.ne_of_lt (Nat.lt_of_lt_of_le (Heap.lt_size e) I.ok.above)
 have MQ : ∀ b o, X.s₀.heap.get? b = some o → b ∉ X.fs → b ∉ frs X.stack := fun b o e hb z => by
  rcases List.mem_cons.mp (I.qw b z) with z | z
  ·exact Ef b o e z
  ·exact hb z
 have slots : ∀ b o, X.s₀.heap.get? b = some o → X.H₀ b = none → b ∈ X.fs → b ∉ X.ex → ∃ sl, h'.get? b = some { o with slots := sl } := fun b o e n hb hx => by
  obtain ⟨sl, e1⟩ := I.base.slot b o e n hb hx
  obtain ⟨_, o', eo, hd⟩ := I.ok.rC.mem hb
  rw [e] at eo; cases eo
  obtain ⟨LY, e2⟩ := u b _ e1 hd
  exact ⟨LY, e2⟩
 refine ⟨I.ok, ⟨I.os.1, ht⟩, I.bare, ⟨fun b o e n hb hx => st _ _ (C.keep b o e n (MQ b o e hb) hx), slots, I.base.free, fun b o e hx => ?_, I.base.tups, I.base.nV, I.base.pO⟩, ?_, fun x c e => ?_, I.free, I.nP, fun p hp => ?_, hok.kept st, I.len⟩
 ·by_cases hb : b ∈ X.fs
  ·obtain ⟨sl, e1⟩ := slots b o e (I.ok.GV b hb) hb hx
   exact ⟨_, e1⟩
  ·obtain ⟨o', e1⟩ := C.there b o e (MQ b o e hb) hx
   exact ⟨o', st _ _ e1⟩
 ·obtain ⟨m, hn, hl⟩ := I.loc
  refine ⟨m, u.ns hn, fun i x v e1 e2 e3 => ?_⟩
  obtain ⟨w, r, l⟩ := hl i x v e1 e2 e3
  refine ⟨w, r, ?_⟩
  rcases l with l | ⟨k, c, e, z⟩
  ·exact .inl l
  ·exact .inr ⟨k, c, e, IsCell.slots u z⟩
 ·obtain ⟨v, z⟩ := I.cell x c e
  exact ⟨v, IsCell.slots u z⟩
 ·have A2 : p ∈ X.pn := by simpa using hp
  obtain ⟨e, n, ne, nf, d⟩ := I.pin p (List.mem_append_left _ A2)
  exact ⟨st _ _ (C.pins p A2), n, ne, nf, d⟩
end
structure MR (P : Program) (w : World) (outer : List Env) (H : Hp) (s : Shared) (H' : Hp) (B : Heap) (s' : Shared) : Prop where
 os : s'.os = s.os ∧ 0 < s'.toks
 bare : PyProof.Rows.AllBare s'.gens
 keep : ∀ b o, s.heap.get? b = some o → H b = none → b ∉ frs outer → B.get? b = some o
 there : ∀ b o, s.heap.get? b = some o → b ∉ frs outer → ∃ o', B.get? b = some o'
 slot : ∀ b o, s.heap.get? b = some o → H b = none → b ∈ frs outer → ∃ sl, s'.heap.get? b = some { o with slots := sl }
 free : ∀ b o, s.heap.get? b = some o → H b = none → H' b = none
 tups : ∀ b xs, H b = some (.tup xs) → H' b = some (.tup xs)
 nV : ∀ b o u, H b = some (.gY o u) → H' b = some (.gY o u)
 pO : ∀ b ps, H b = some (.tu ps) → ∃ more, H' b = some (.tu (ps ++ more))
 hok : pN P w H' B
noncomputable def bV (P : Program) (w : World) : uW := fun outer H s E ev s' => ∃ e cls a0 B H', ev = .ref e ∧ Heap.FlyingW B outer e cls a0 s'.heap ∧ MR P w outer H s H' B s' ∧ E cls none H'
theorem gf {X : Cx} {EE : fC} (h : kP X EE) : KO (bV X.prog X.w) X EE := by
 intro pins σ H s ev s' I hq
 obtain ⟨e, cls, a0, B, H', rfl, fl, F, c, hc, ee⟩ := hq
 have un : Un (frs X.stack) [] H H' s.heap s'.heap := ⟨fun b o e n hb _ => fl.1 _ _ (F.keep b o e n hb), fun b o e n hb _ => F.slot b o e n hb, fun b o e n _ => F.free b o e n, fun b o e _ => by
  by_cases hb : b ∈ frs X.stack
  ·obtain ⟨sl, q⟩ := F.slot b o e (I.uV b hb) hb
   exact ⟨_, q⟩
  ·obtain ⟨o', q⟩ := F.there b o e hb
   exact ⟨o', fl.1 _ _ q⟩, F.tups, F.nV, F.pO⟩
 have I' : Inv X pins σ H' s' := I.Eg F.os un (F.hok.kept fl.1) F.bare fun b z => absurd z (by simp)
 refine h pins σ H' s' e cls c I' ⟨B, .Dj fl, F.hok, fun b o eb n hb hx => ?_, fun b o eb hb hx => ?_, fun p hp => ?_⟩ hc ee
 ·have Px : b ∉ X.fs := fun z => hb (by
   rcases I.ok.stk with q | ⟨q, _⟩
   ·rw [q]; exact z
   ·rw [q]; unfold frs; rw [List.filterMap_cons]; split
    ·exact z
    ·exact List.mem_cons_of_mem _ z)
  exact F.keep b o (I.base.keep b o eb n Px hx) (I.base.free b o eb n hx) hb
 ·obtain ⟨o', q⟩ := I.base.there b o eb hx
  exact F.there b o' q hb
 ·obtain ⟨q, n, ne, nf, d⟩ := I.pin p (List.mem_append_left _ hp)
  exact F.keep p.1 p.2 q n fun z => by
   rcases List.mem_cons.mp (I.qw _ z) with z | z
   ·exact ne z
   ·exact nf z
end L3
end
section
set_option Elab.async false
set_option linter.all false
set_option maxRecDepth 100000
namespace L3
open PySem PySem.Spec L2
section
variable {P : Program} {w : World} {K : PySem.W.Frag} {mg : Str → Option Value} {base : Heap} {f : Addr} {fd : FuncData}
theorem A3 {x qual : Str} {st : Stmt} {N ps : List Str} {k n nn : Nat} {ms : MS} {m : List D → M D} (F : uY K x qual st f fd) (S : cN N ps (aa st)) (hps : ps.length = n) (hN : N.length = nn) (hm : ∀ ds, m ds = cG nn ms ds)
  (hbody : ∀ (X : Cx) (EE : fC) (cdv : Value) (A : Around) (outer : List Env) (s : Shared) (H : Hp) (E : XK), X = jE (bV P w) P w K mg base N qual (aa st) f cdv A outer s H E → gm k (A.deeper (PyProof.Rows.envOfC qual (aa st) s.heap.objs.size f cdv)) →
   kP X EE → PassesOwn (model P w) X.A X.env X.xe → A1 X EE (az st) ms) :
  bC P w K mg base (bV P w) (k + 1) f fd ps (aZ K mg n m) := by
 subst hps hN
 have e : m = fun ds => cG N.length ms ds := funext hm
 subst e
 obtain ⟨oc, od, kV, doc, pm, an, cdv, ct, osl, rfl, lk, hcd⟩ := F.ex
 refine Mq lk hcd S (fun vs H Q E h => h.len) fun A outer s H vs Q E hr h => ?_
 obtain ⟨ds, ρ, G, hn, hp, rs, ok⟩ := h
 refine ⟨_, hbody _ (fun c σ H' => ∀ cls, EU mg c cls → E cls none H') cdv A outer s H E rfl hr ?_ PassesOwn.leaving, ds.map some ++ List.replicate (N.length - ds.length) none, ρ, G, ⟨m6 rs, hp⟩, ?_⟩
 ·intro pins σ H' s' e cls c I fx hc ee
  obtain ⟨B, fb, hok, HR⟩ := fx
  refine ET (L := s.heap.objs.size) I.ok.frames rfl fb fun h' a0 fl u => ?_
  have I' : Inv _ [] σ H' { s' with heap := h' } := Inv.MP (t := s'.toks) I HR hok fl.1 u
  have Ef : ∀ b o, s.heap.get? b = some o → b ∉ frs outer → b ∉ frs (PyProof.Rows.envOfC qual (aa st) s.heap.objs.size f cdv :: outer) := fun b o e hb z => by
   rcases List.mem_cons.mp (I.qw b z) with z | z
   ·exact absurd (Heap.lt_size e) (by rw [show b = s.heap.objs.size from z]; exact Nat.lt_irrefl _)
   ·exact hb z
  refine ⟨e, cls, a0, B, H', rfl, fl, ⟨I'.os, I'.bare, fun b o eb nb hb => HR.keep b o eb nb (Ef b o eb hb) (by intro z; exact absurd (show b ∈ ([] : List Addr) from z) (by simp)), fun b o eb hb => HR.there b o eb (Ef b o eb hb) (by intro z; exact absurd (show b ∈ ([] : List Addr) from z) (by simp)),
   fun b o eb nb hb => I'.base.slot b o eb nb hb (by intro z; exact absurd (show b ∈ ([] : List Addr) from z) (by simp)), fun b o eb nb => I'.base.free b o eb nb (by intro z; exact absurd (show b ∈ ([] : List Addr) from z) (by simp)), I'.base.tups, I'.base.nV, I'.base.pO, hok⟩, ee cls hc⟩
 ·dsimp only [cG] at ok
  cases q : ms (ds.map some ++ List.replicate (N.length - ds.length) none) G with
  | stuck => rw [q] at ok; exact ok
  | nx τ G' => rw [q] at ok; exact fun σ' H' ρ' f ab => ok .jd H' ρ' f ab.hp (by unfold Rep; rfl)
  | rt d G' => rw [q] at ok; exact fun v H' ρ' f hp r => ok v H' ρ' f hp r
  | bk τ G' => rw [q] at ok; exact ok.elim
  | ct τ G' => rw [q] at ok; exact ok.elim
  | xn c τ G' => rw [q] at ok; exact fun σ' H' ρ' f ab cls hc => ok cls H' ρ' hc f ab.hp
end
theorem EV {P : Program} {w : World} {H : Hp} {h B : Heap} (x : pN P w H h) (k : ∀ b o, H b ≠ none → h.get? b = some o → B.get? b = some o) : pN P w H B := fun a o e =>
 (x a o e).stay (fun b u hb q => k b u (by
  rcases hb with z | z
  ·rw [z, e]; simp
  ·rw [z]; simp) q) (fun _ q => q) fun _ _ q => q
section
variable {X : Cx} {EE : fC} {pins : List (Addr × Obj)} {σ : L2.St} {H : Hp} {s : Shared}
end
end L3
end
section
set_option Elab.async false
set_option linter.all false
set_option maxRecDepth 100000
namespace L3
open PySem PySem.Spec L2
noncomputable abbrev Cx.to (X : Cx) (E : Value → Shared → Prop) (pn : List (Addr × Obj)) : Cx := { X with xe := E, pn := pn }
section
variable {X : Cx} {EE : fC} {pins : List (Addr × Obj)} {σ : L2.St} {H : Hp} {s : Shared} {E : Value → Shared → Prop}
end
end L3
end
section
set_option Elab.async false
set_option linter.all false
set_option maxRecDepth 100000
namespace L3
open PySem PySem.Spec L2
noncomputable def jk (env : Env) : List (Str × NameKind) → List (Str × Addr) → List (Str × Addr)
 | [], acc => acc
 | (n, k) :: r, acc => jk env r (if k == .free then (match env.cells.lookup n with | some c => (n, c) :: acc | none => acc) else acc)
theorem pW {scope : Scope} {env : Env} (h : ∀ x ∈ scope.names, x.2 = .free → ∃ c, env.cells.lookup x.1 = some c) : closureFor scope env = pure (jk env scope.names []) := by
 unfold closureFor
 have key : ∀ (names : List (Str × NameKind)) (acc : List (Str × Addr)), (∀ x ∈ names, x.2 = .free → ∃ c, env.cells.lookup x.1 = some c) →
   (forIn names acc fun x r => match x with | (name, kind) => if (kind == NameKind.free) = true then do let y ← cellOf env name; pure (ForInStep.yield ((name, y) :: r)) else pure (ForInStep.yield r)) = (pure (jk env names acc) : Sem (List (Str × Addr))) := by
  intro names
  induction names with
  | nil => intro acc _; rfl
  | cons x r ih =>
   intro acc hx
   obtain ⟨n, k⟩ := x
   rw [List.forIn_cons]
   by_cases hk : (k == NameKind.free) = true
   ·obtain ⟨c, hc⟩ := hx (n, k) List.mem_cons_self (eq_of_beq hk)
    have e : cellOf env n = pure c := by unfold cellOf; rw [hc]
    simp only [if_pos hk, e, pure_bind]
    rw [ih _ fun y hy => hx y (List.mem_cons_of_mem _ hy)]
    show _ = pure (jk env r (if (k == NameKind.free) = true then (match env.cells.lookup n with | some c => (n, c) :: acc | none => acc) else acc))
    rw [if_pos hk, hc]
   ·simp only [if_neg hk, pure_bind]
    rw [ih _ fun y hy => hx y (List.mem_cons_of_mem _ hy)]
    show _ = pure (jk env r (if (k == NameKind.free) = true then (match env.cells.lookup n with | some c => (n, c) :: acc | none => acc) else acc))
    rw [if_neg hk]
 have k2 := key scope.names [] h
 first
  | (rw [k2]; rfl)
  | (simp only [k2, pure_bind])
  | exact k2
theorem vF {env : Env} : ∀ (names : List (Str × NameKind)) (acc : List (Str × Addr)), (∀ y c, acc.lookup y = some c → env.cells.lookup y = some c) → ∀ y c, (jk env names acc).lookup y = some c → env.cells.lookup y = some c
 | [], acc, h, y, c, e => h y c e
 | (n, k) :: r, acc, h, y, c, e => by
  refine vF r _ (fun z d ez => ?_) y c e
  by_cases hk : (k == NameKind.free) = true
  ·rw [if_pos hk] at ez
   cases q : env.cells.lookup n with
   | none => rw [q] at ez; exact h z d ez
   | some c' =>
    rw [q] at ez
    dsimp only at ez
    rw [List.lookup_cons] at ez
    cases hz : z == n with
    | true => rw [hz] at ez; cases ez; rw [eq_of_beq hz]; exact q
    | false => rw [hz] at ez; exact h z d ez
  ·rw [if_neg hk] at ez
   exact h z d ez
theorem vG {env : Env} : ∀ (names : List (Str × NameKind)) (acc : List (Str × Addr)) (y : Str), ((∃ c, acc.lookup y = some c) ∨ ((y, NameKind.free) ∈ names ∧ ∃ c, env.cells.lookup y = some c)) → ∃ c, (jk env names acc).lookup y = some c
 | [], acc, y, h => by
  rcases h with h | ⟨h, _⟩
  ·exact h
  ·cases h
 | (n, k) :: r, acc, y, h => by
  refine vG r _ y ?_
  rcases h with ⟨c, h⟩ | ⟨h, c, hc⟩
  ·left
   by_cases hk : (k == NameKind.free) = true
   ·rw [if_pos hk]
    cases q : env.cells.lookup n with
    | none => exact ⟨c, h⟩
    | some c' =>
     dsimp only
     rw [List.lookup_cons]
     cases hz : y == n with
     | true => exact ⟨c', rfl⟩
     | false => exact ⟨c, h⟩
   ·rw [if_neg hk]; exact ⟨c, h⟩
  ·rcases List.mem_cons.mp h with e | h
   ·cases e
    left
    rw [if_pos (by rfl), hc]
    dsimp only
    exact ⟨c, by rw [List.lookup_cons, beq_self_eq_true]⟩
   ·exact .inr ⟨h, c, hc⟩
end L3
end
section
set_option Elab.async false
set_option linter.all false
set_option maxRecDepth 100000
namespace L3
open PySem PySem.Spec L2 PyProof.Rows
noncomputable def mask {α : Type} : List Bool → List (Option α) → List (Option α)
 | _, [] => []
 | [], _ :: r => none :: mask [] r
 | k :: ks, o :: r => (if k then o else none) :: mask ks r
theorem kY {α : Type} : ∀ (ks : List Bool) (l : List (Option α)), (mask ks l).length = l.length
 | _, [] => by unfold mask; rfl
 | [], _ :: r => by unfold mask; simp [kY [] r]
 | k :: ks, o :: r => by unfold mask; simp [kY ks r]
theorem oj {α : Type} {v : α} : ∀ {ks : List Bool} {l : List (Option α)} {i : Nat}, (mask ks l)[i]? = some (some v) → ks[i]? = some true ∧ l[i]? = some (some v)
 | ks, [], i, h => by unfold mask at h; simp at h
 | [], o :: r, 0, h => by unfold mask at h; simp at h
 | [], o :: r, i + 1, h => by
  unfold mask at h
  have := (oj (ks := []) (l := r) (i := i) (by simpa using h)).1
  simp at this
 | k :: ks, o :: r, 0, h => by
  unfold mask at h
  cases k with
  | true => simpa using h
  | false => simp at h
 | k :: ks, o :: r, i + 1, h => by
  unfold mask at h
  have := oj (ks := ks) (l := r) (i := i) (by simpa using h)
  simpa using this
theorem Cb {α : Type} {v : α} : ∀ {ks : List Bool} {l : List (Option α)} {i : Nat}, ks[i]? = some true → l[i]? = some (some v) → (mask ks l)[i]? = some (some v)
 | ks, [], i, _, h => by simp at h
 | [], o :: r, i, h, _ => by simp at h
 | k :: ks, o :: r, 0, h, e => by unfold mask; simp at h e; simp [h, e]
 | k :: ks, o :: r, i + 1, h, e => by
  unfold mask
  have := Cb (ks := ks) (l := r) (i := i) (by simpa using h) (by simpa using e)
  simpa using this
noncomputable def wO (env : Env) (n : Str) (k : NameKind) : NameKind := if (k == .free && env.scope.kind == .function && env.kindOf n == some .cell) then .cell else k
theorem gq {env : Env} {y : Str} : ∀ (names : List (Str × NameKind)), (names.map fun (n, k) => if (k == NameKind.free && env.scope.kind == .function && env.kindOf n == some .cell) then (n, NameKind.cell) else (n, k)).lookup y = (names.lookup y).map (wO env y)
 | [] => rfl
 | (n, k) :: r => by
  have ih := gq (env := env) (y := y) r
  rw [List.map_cons, List.lookup_cons]
  by_cases hc : (k == NameKind.free && env.scope.kind == .function && env.kindOf n == some .cell) = true
  ·rw [if_pos hc, List.lookup_cons]
   cases hy : y == n with
   | true =>
    have e : y = n := eq_of_beq hy
    subst e
    simp [wO, hc]
   | false => exact ih
  ·rw [if_neg hc, List.lookup_cons]
   cases hy : y == n with
   | true =>
    have e : y = n := eq_of_beq hy
    subst e
    simp [wO, hc]
   | false => exact ih
structure cj (Ot : Scope) (N : List Str) (scope : Scope) (xs : List Str) (ks : List Bool) : Prop where
 nd : xs.Nodup
 kind : scope.kind = .function
 tO : ∀ y ∈ scope.names, y.2 ≠ .cell
 names : ∀ y ∈ scope.names, y.2 = .local → scope.names.lookup y.1 = some .local
 loc : ∀ x ∈ xs, scope.names.lookup x = some .local
 free : ∀ y ∈ scope.names, y.2 = .free → Ot.names.lookup y.1 = some .cell ∨ Ot.names.lookup y.1 = some .free
 Py : ((ks.zip N).all fun p => !p.1 || decide (scope.names.lookup p.2 = some .free)) = true
theorem cj.cap {Ot : Scope} {N : List Str} {scope : Scope} {xs : List Str} {ks : List Bool} (S : cj Ot N scope xs ks) : ∀ i < ks.length, ks[i]? = some true → ∀ y ∈ N[i]?, scope.names.lookup y = some .free := fun i _ hk y hy => by
 have h := List.all_eq_true.mp S.Py (true, y) (List.mem_of_getElem? (i := i) (by rw [List.getElem?_zip_eq_some]; exact ⟨hk, hy⟩))
 simpa using h
noncomputable def u7 (X : Cx) (scope : Scope) (cl : List (Str × Addr)) (xs : List Str) (C : Addr) (pins : List (Addr × Obj)) (s : Shared) (H : Hp) (fp : List Addr) (E : Value → Shared → Prop) : Cx where
 prog := X.prog
 w := X.w
 K := X.K
 mg := X.mg
 base := X.base
 A := X.A
 N := xs ++ X.N
 s₀ := s
 H₀ := H
 env := compEnvC scope cl C X.env
 outer := X.stack
 stack := X.stack
 ex := fp
 fn := fun _ => false
 calm := X.calm
 pn := X.pn ++ pins
 xe := E
section
variable {X : Cx} {scope : Scope} {xs : List Str} {x : Str} {ks : List Bool} {pins : List (Addr × Obj)} {σ : L2.St} {H : Hp} {s s4 : Shared} {fp : List Addr} {E : Value → Shared → Prop} {h1 : Heap}
theorem mem_lookup {α β : Type} [BEq α] [LawfulBEq α] : ∀ {l : List (α × β)} {a : α} {b : β}, l.lookup a = some b → (a, b) ∈ l
 | [], _, _, h => by simp at h
 | (a', b') :: r, a, b, h => by
  rw [List.lookup_cons] at h
  cases hz : a == a' with
  | true => rw [hz] at h; cases h; rw [eq_of_beq hz]; exact List.mem_cons_self
  | false => rw [hz] at h; exact List.mem_cons_of_mem _ (mem_lookup h)
theorem EW (S : cj X.env.scope X.N scope xs ks) {cl : List (Str × Addr)} {C : Addr} {y : Str} (h : (compEnvC scope cl C X.env).kindOf y = some .cell ∨ (compEnvC scope cl C X.env).kindOf y = some .free) : scope.names.lookup y = some .free := by
 have h' : (scope.names.lookup y).map (wO X.env y) = some .cell ∨ (scope.names.lookup y).map (wO X.env y) = some .free := by
  rw [← gq]; exact h
 cases q : scope.names.lookup y with
 | none => rw [q] at h'; rcases h' with h' | h' <;> cases h'
 | some k =>
  rw [q] at h'
  cases k with
  | free => rfl
  | cell => exact absurd rfl (S.tO _ (mem_lookup q))
  | _ => rcases h' with h' | h' <;> simp [wO] at h'
theorem tP (S : cj X.env.scope X.N scope xs ks) {cl : List (Str × Addr)} {C : Addr} {y : Str} (h : scope.names.lookup y = some .free) : (compEnvC scope cl C X.env).kindOf y = some .cell ∨ (compEnvC scope cl C X.env).kindOf y = some .free := by
 have e : (compEnvC scope cl C X.env).kindOf y = (scope.names.lookup y).map (wO X.env y) := gq scope.names
 rw [e, h]
 unfold wO
 dsimp only [Option.map]
 split
 ·exact .inl rfl
 ·exact .inr rfl
theorem vH (S : cj X.env.scope X.N scope xs ks) (hx : x ∈ xs) {cl : List (Str × Addr)} {C : Addr} : (compEnvC scope cl C X.env).kindOf x = some .local := by
 have e : (compEnvC scope cl C X.env).kindOf x = (scope.names.lookup x).map (wO X.env x) := gq scope.names
 rw [e, S.loc x hx]
 rfl
theorem Br (S : cj X.env.scope X.N scope xs ks) (I : Inv X pins σ H s) (hf : ∀ b ∈ fp, tB X pins H b ∧ b < s.heap.objs.size) (hn : h1.Ns s.heap.objs.size fun _ => none) (hk : ∀ b o, s.heap.get? b = some o → h1.get? b = some o) (t : Nat) (ht : 0 < t := by first | exact Nat.succ_pos _ | exact (Inv.os (by assumption)).2 | assumption | omega) :
  Inv (u7 X scope (jk X.env scope.names []) xs s.heap.objs.size pins s H fp E) [] (List.replicate xs.length none ++ mask ks σ) H { s with heap := h1, toks := t } := by
 have cs : ∀ y c, (jk X.env scope.names []).lookup y = some c → X.env.cells.lookup y = some c := vF scope.names [] fun y c e => by simp at e
 have lt : ∀ b o, s.heap.get? b = some o → b ≠ s.heap.objs.size := fun b o e => Nat.ne_of_lt (Heap.lt_size e)
 have KU : ∀ y c, X.env.cells.lookup y = some c → ∃ v, s.heap.IsCell c v := fun y c e => I.cell y c e
 have Jh : ∀ b, b ≠ X.env.locals → b ∉ X.fs → b ∉ frs X.stack := fun b h1 h2 h3 => (List.mem_cons.mp (I.qw b h3)).elim h1 h2
 refine ⟨⟨I.ok.mod, ?_, I.ok.glob, I.ok.blt, Nat.le_refl _, fun y z c e1 e2 => I.ok.inj y z c (cs y c e1) (cs z c e2), fun y hy => ?_, fun y c h _ => absurd (show false = true from h) Bool.false_ne_true, I.ok.hd, I.ok.frames, .inl rfl, fun b hb => ⟨Nat.ne_of_lt (hf b hb).2, fun y c e => (hf b hb).1.2.2.2.2.1 y c (cs y c e)⟩, I.bs,
   Nat.le_trans I.ok.GK I.sz, fun b o e hb => ?_, fun b hb => Jh b (hf b hb).1.2.1 (hf b hb).1.2.2.1, I.stack, I.uV⟩, ⟨rfl, ht⟩, I.bare, Un.kept hk, ⟨_, hn, fun i y v e1 e2 e3 => ?_⟩, fun y c e => ?_, I.hok.fresh (Nat.le_refl _), fun y c e => (I.nP y c (cs y c e)).imp id fun z => ⟨rfl, z.2⟩, fun p hp => ?_, I.hok.kept hk, ?_⟩
 ·show (relabel scope X.env).kind = .function
  exact S.kind
 ·have hfree := EW S hy
  have hm := mem_lookup hfree
  refine vG scope.names [] y (.inr ⟨hm, ?_⟩)
  exact I.ok.has y (S.free _ hm rfl)
 ·rcases (hf b hb).1.2.2.2.1 with z | z
  ·exact I.ok.GS b o e z
  ·exact absurd (Nat.lt_of_lt_of_le (Heap.lt_size (I.ok.bs b o e).1) z) (Nat.lt_irrefl _)
 ·by_cases hlt : i < xs.length
  ·rw [List.getElem?_append_left (by simpa using hlt), List.getElem?_replicate] at e2
   rw [if_pos hlt] at e2; cases e2
  ·obtain ⟨j, rfl⟩ : ∃ j, i = xs.length + j := ⟨i - xs.length, by omega⟩
   have GN : (mask ks σ)[j]? = some (some v) := by
    rw [List.getElem?_append_right (by simp)] at e2
    simpa using e2
   obtain ⟨hks, eσ⟩ := oj GN
   have D6 : X.N[j]? = some y := by
    have : (xs ++ X.N)[xs.length + j]? = some y := e1
    rw [List.getElem?_append_right (by omega)] at this
    simpa using this
   have hfree : scope.names.lookup y = some .free := S.cap j (List.getElem?_eq_some_iff.mp hks).1 hks y (by rw [D6]; rfl)
   obtain ⟨m, hm, hl⟩ := I.loc
   have hkind := S.free _ (mem_lookup hfree) rfl
   obtain ⟨u, r, l⟩ := hl j y v D6 eσ (hkind.elim (fun z => .inr (.inl z)) fun z => .inr (.inr z))
   refine ⟨u, r, .inr ⟨tP S hfree, ?_⟩⟩
   rcases l with ⟨k, _⟩ | ⟨k, c, ec, hc⟩
   ·have k' : X.env.scope.names.lookup y = some .local := k
    rcases hkind with z | z <;> (rw [k'] at z; cases z)
   ·obtain ⟨c', Ry⟩ := vG (env := X.env) scope.names [] y (.inr ⟨mem_lookup hfree, c, ec⟩)
    have := cs y c' Ry
    rw [ec] at this; cases this
    exact ⟨c, Ry, hc.keeps hk⟩
 ·obtain ⟨v, hc⟩ := KU y c (cs y c e)
  exact ⟨v, hc.keeps hk⟩
 ·have A2 : p ∈ X.pn ++ pins := by
   have : p ∈ (X.pn ++ pins) ++ [] := hp
   simpa using this
  obtain ⟨e, n, ne, nf, d⟩ := I.pin p A2
  exact ⟨hk _ _ e, n, lt _ _ e, Jh _ ne nf, d⟩
 ·show (List.replicate xs.length none ++ mask ks σ).length = (xs ++ X.N).length
  simp [kY, I.len]
theorem qE {Xc : Cx} {cl : List (Str × Addr)} {C : Addr} {σ0 : L2.St} {own : List (Option V)} {n : Nat} {v : V} {u : Value} {A' : Around} {Q : Unit → Shared → Prop} {E' : Value → Shared → Prop} {M' : Model} {px : Pos} {s0 : Shared} {H0 H1 : Hp} {s1 : Shared} {jV : List (Addr × Obj)}
  (S : cj X.env.scope X.N scope xs ks) (e : Xc = u7 X scope cl xs C pins s0 H0 fp E) (LJ : own.length = xs.length) (hx : xs[n]? = some x) (I : Inv Xc jV (own ++ mask ks σ0) H1 s1) (r : RelV v u) (h : ∀ s', Inv Xc jV (own.set n (some v) ++ mask ks σ0) H1 s' → Q () s') :
  wpAny M' A' (assign (.Name x px) Xc.env u) Q E' s1 := by
 subst e
 obtain ⟨m, hn, hl⟩ := id I.loc
 have Rz := vH (cl := cl) (C := C) S (List.mem_of_getElem? hx)
 refine wpAny_assign_Name (wpAny_storeName_local Rz hn (fun h' hn' hs => ?_) (by rw [show (u7 X scope cl xs C pins s0 H0 fp E).env.scope.kind = .function from S.kind]; rfl))
 refine h _ ?_
 have Ef : ∀ b o, s0.heap.get? b = some o → b ≠ C := fun b o e => Nat.ne_of_lt (Nat.lt_of_lt_of_le (Heap.lt_size e) I.ok.above)
 obtain ⟨oL, _, _, Rp, _⟩ := id hn
 have hfree : H1 C = none := I.free
 refine ⟨I.ok, ⟨I.os.1, Nat.succ_pos _⟩, I.bare, ⟨fun b o e n hb hx => ?_, fun b o e n hb hx => ?_, I.base.free, fun b o e hx => ?_, I.base.tups, I.base.nV, I.base.pO⟩, ⟨_, hn', fun j y v' e1 e2 e3 => ?_⟩, fun y c e => ?_, I.free, I.nP, fun p hp => ?_, fun b ob e => ?_, by simpa using I.len⟩
 ·exact (hs.2 b (Ef b o e)).trans (I.base.keep b o e n hb hx)
 ·obtain ⟨sl, e1⟩ := I.base.slot b o e n hb hx
  exact ⟨sl, (hs.2 b (Ef b o e)).trans e1⟩
 ·obtain ⟨o', e1⟩ := I.base.there b o e hx
  exact ⟨o', (hs.2 b (Ef b o e)).trans e1⟩
 ·have hnl : n < xs.length := (List.getElem?_eq_some_iff.mp hx).1
  by_cases hlt : j < xs.length
  ·have ey : xs[j]? = some y := by
    have : (xs ++ X.N)[j]? = some y := e1
    rwa [List.getElem?_append_left hlt] at this
   rw [List.getElem?_append_left (by simp; omega)] at e2
   by_cases hj : n = j
   ·subst hj
    rw [hx] at ey; cases ey
    rw [List.getElem?_set, if_pos rfl, if_pos (by omega)] at e2
    cases e2
    exact ⟨u, r, .inl ⟨Rz, by simp⟩⟩
   ·rw [List.getElem?_set_ne hj] at e2
    have hne : y ≠ x := by
     rintro rfl
     obtain ⟨h1, D6⟩ := List.getElem?_eq_some_iff.mp hx
     obtain ⟨h2, GN⟩ := List.getElem?_eq_some_iff.mp ey
     exact hj ((List.getElem_inj S.nd).mp (D6.trans GN.symm))
    obtain ⟨u', r', q⟩ := hl j y v' e1 (by rw [List.getElem?_append_left (by omega)]; exact e2) e3
    refine ⟨u', r', ?_⟩
    rcases q with ⟨k, e⟩ | ⟨k, c, e, z⟩
    ·exact .inl ⟨k, by simpa [hne] using e⟩
    ·exact .inr ⟨k, c, e, z.sameBut hs (I.Ed y c e)⟩
  ·obtain ⟨j, rfl⟩ : ∃ k, j = xs.length + k := ⟨j - xs.length, by omega⟩
   have GN : (mask ks σ0)[j]? = some (some v') := by
    rw [List.getElem?_append_right (by simp; omega)] at e2
    simpa [LJ] using e2
   obtain ⟨u', r', q⟩ := hl (xs.length + j) y v' e1 (by rw [List.getElem?_append_right (by omega)]; simpa [LJ] using GN) e3
   refine ⟨u', r', ?_⟩
   rcases q with ⟨k, e⟩ | ⟨k, c, e, z⟩
   ·obtain ⟨hks, _⟩ := oj GN
    have D6 : X.N[j]? = some y := by
     have : (xs ++ X.N)[xs.length + j]? = some y := e1
     rw [List.getElem?_append_right (by omega)] at this
     simpa using this
    have hfr : scope.names.lookup y = some .free := S.cap j (List.getElem?_eq_some_iff.mp hks).1 hks y (by rw [D6]; rfl)
    rcases tP (cl := cl) (C := C) S hfr with z | z
    ·have k' : (compEnvC scope cl C X.env).kindOf y = some .local := k
     rw [k'] at z; cases z
    ·have k' : (compEnvC scope cl C X.env).kindOf y = some .local := k
     rw [k'] at z; cases z
   ·exact .inr ⟨k, c, e, z.sameBut hs (I.Ed y c e)⟩
 ·obtain ⟨w', z⟩ := I.cell y c e
  exact ⟨w', z.sameBut hs (I.Ed y c e)⟩
 ·obtain ⟨e, n, ne, nf, d⟩ := I.pin p hp
  exact ⟨(hs.2 p.1 ne).trans e, n, ne, nf, d⟩
 ·refine (I.hok b ob e).stay (fun c w' hc q => (hs.2 c ?_).trans q) (fun _ q => q) fun _ _ q => q
  intro ec
  rcases hc with hc | hc
  ·have : H1 C = some ob := by rw [← (show c = C from ec), hc]; exact e
   rw [hfree] at this; cases this
  ·have : H1 C = some (.own b) := by rw [← (show c = C from ec)]; exact hc
   rw [hfree] at this; cases this
noncomputable def Dk : V → Hp → List V → Prop := fun x _ vs => vs = [x]
noncomputable def Dl (K : PySem.W.Frag) (n : Nat) : V → Hp → List V → Prop := fun x H vs => ∃ a, x = .ref a ∧ pQ K H a vs ∧ vs.length = n
noncomputable def Own (X : Cx) (scope : Scope) (xs : List Str) (ks : List Bool) (tg : Expr) (ow : V → Hp → List V → Prop) : Prop :=
 ∀ (cl : List (Str × Addr)) (C : Addr) (pins : List (Addr × Obj)) (s0 : Shared) (H0 : Hp) (fp : List Addr) (E : Value → Shared → Prop) (Xc : Cx) (σ0 : L2.St) (own : List (Option V)) (x : V) (vs : List V) (u : Value) (H1 : Hp) (s1 : Shared) (jV : List (Addr × Obj)) (E' : Value → Shared → Prop) (Q : Unit → Shared → Prop),
  Xc = u7 X scope cl xs C pins s0 H0 fp E → own.length = xs.length → Inv Xc jV (own ++ mask ks σ0) H1 s1 → RelV x u → ow x H1 vs →
  (vs.length = xs.length → ∀ s', Inv Xc jV (vs.map some ++ mask ks σ0) H1 s' → Q () s') → wpAny (model X.prog X.w) X.A (assign tg Xc.env u) Q E' s1
theorem rQ {px : Pos} (S : cj X.env.scope X.N scope [x] ks) : Own X scope [x] ks (.Name x px) Dk := by
 intro cl C pins s0 H0 fp E Xc σ0 own v vs u H1 s1 jV E' Q e ho I r hv h
 cases hv
 match own, ho with
 | [a], _ => exact qE (own := [a]) (n := 0) S e rfl rfl I r fun s' I' => h rfl s' I'
theorem rR {x y : Str} {px py pt : Pos} {k : Nat} (hc : X.calm = true) (S : cj X.env.scope X.N scope [x, y] ks) : Own X scope [x, y] ks (.Tuple [.Name x px, .Name y py] k pt) (Dl X.K 2) := by
 intro cl C pins s0 H0 fp E Xc σ0 own v vs u H1 s1 jV E' Q e ho I r hv h
 obtain ⟨a, rfl, sq, hl⟩ := hv
 cases r
 match own, ho, vs, hl with
 | [a1, a2], _, [v1, v2], _ =>
  have T6 : pQ Xc.K H1 a [v1, v2] := by rw [e]; exact sq
  obtain ⟨its, rv, ht, hz⟩ := I.tuple T6
  cases rv with
  | cons r1 rv =>
  cases rv with
  | cons r2 rv =>
  cases rv
  have hd : X.A.handled = none := by
   have := I.ok.hd (by rw [e]; exact hc)
   rw [e] at this; exact this
  refine assign_Tuple_tuple hd ht rfl rfl fun h' hx => ?_
  have I1 : Inv Xc jV ([a1, a2] ++ mask ks σ0) H1 { s1 with heap := h' } := I.kept (t' := s1.toks) fun b o e => hx b o (Nat.ne_of_lt (Heap.lt_size e)) e
  refine assignInOrder_cons (qE (own := [a1, a2]) (n := 0) S e rfl rfl I1 r1 fun s2 I2 => ?_)
  refine assignInOrder_cons (qE (own := [some v1, a2]) (n := 1) S e rfl rfl I2 r2 fun s3 I3 => ?_)
  exact assignInOrder_nil (h rfl _ I3)
end
end L3
end
section
set_option Elab.async false
set_option linter.all false
set_option maxRecDepth 100000
namespace L3
open PySem PySem.Spec L2
theorem yz {prog : Program} {w : World} {A : Around} {R : Result → Shared → Prop} {s : Shared} {elt target iter : Expr} {ifs : List Expr} {scope : Scope} {pos : Pos} {it acc : Value} {env : Env} (I : Nat → Shared → Prop)
  (turn : ∀ (n : Nat) (s : Shared), I n s → wpAny (model prog w) A (pyNext it) (fun r s₁ => match r with
   | none => R (.ok .next) s₁
   | some v => wpAny (model prog w) A (letOwnedTupleGo target it v) (fun _ s₁' => wpAny (model prog w) A (assign target env v) (fun _ s₂ => wpAny (model prog w) A (forIn ifs true fun c r => if r = true then do let ok ← isTrue c env (eval c env); pure (ForInStep.yield ok) else pure (ForInStep.yield r)) (fun ok s₃ => if ok = true then wpAny (model prog w) A (eval elt env) (fun x s₄ => wpAny (model prog w) A (call (.builtin "list.append") [acc, x]) (fun _ s₅ => ∃ m, m < n ∧ I m s₅) (notedBy (model prog w) A env fun e s' => R (.error e) s') s₄) (notedBy (model prog w) A env fun e s' => R (.error e) s') s₃ else ∃ m, m < n ∧ I m s₃) (notedBy (model prog w) A env fun e s' => R (.error e) s') s₂) (notedBy (model prog w) A env fun e s' => R (.error e) s') s₁') (notedBy (model prog w) A env fun e s' => R (.error e) s') s₁) (notedBy (model prog w) A env fun e s' => R (.error e) s') s) (n : Nat) (h : I n s) :
  codeAny (model prog w) A (.compLoop (.ListComp elt [⟨target, iter, ifs, 0⟩] scope pos) 0 it acc env) R s := by
 refine codeAny_loop rfl I (fun n s hI => ?_) n h
 refine wpAny_noted ?_
 rw [compTurn_list]
 refine wpAny_bind (wpAny_standAt (wpAny_bind (wpAny_mono (turn n s hI) (fun r s₁ h₁ => ?_) fun _ _ z => z)))
 cases r with
 | none => exact wpAny_pure h₁
 | some v =>
  refine wpAny_bind (wpAny_mono h₁ (fun _ s₂ h₂ => wpAny_bind (wpAny_mono h₂ (fun _ s₃ h₃ => wpAny_bind (wpAny_mono h₃ (fun ok s₄ h₄ => ?_) fun _ _ z => z)) fun _ _ z => z)) fun _ _ z => z)
  cases ok with
  | false => exact wpAny_pure ⟨rfl, h₄⟩
  | true => exact wpAny_bind (wpAny_bind (wpAny_mono h₄ (fun x s₅ h₅ => wpAny_bind (wpAny_mono h₅ (fun _ s₆ h₆ => wpAny_pure (wpAny_pure ⟨rfl, h₆⟩)) fun _ _ z => z)) fun _ _ z => z))
noncomputable def CT (X : Cx) (ifs : List Expr) (tt : TT) : Prop := ∀ (pins : List (Addr × Obj)) (s : Shared) (σ : L2.St) (H : Hp) (Q : Bool → Hp → Prop), Inv X pins σ H s → tt σ H Q →
 wpAny (model X.prog X.w) X.A (forIn ifs true fun c r => if r = true then do let ok ← isTrue c X.env (eval c X.env); pure (ForInStep.yield ok) else pure (ForInStep.yield r)) (TP X pins σ Q) X.xe s
theorem KW {X : Cx} : CT X [] (fun _ H Q => Q true H) := fun _ _ _ H _ I h => wpAny_tests_nil ⟨H, I, h⟩
noncomputable def zV (wi : TI) (ks : List Bool) (ow : V → Hp → List V → Prop) (tt : TT) (te : TE) : TE := fun σ H Q => wi σ H fun J H1 => ∀ D, H1 D = none → ∃ W : Nat → Nat → Hp → Prop, (∃ m, W 0 m (upd H1 D (.lst []))) ∧ ∀ i m H, W i m H →
  (J.stop i H ∧ Q (.ref D) H) ∨ (J.go i H ∧ ∀ x H', J.xr i H x H' → ∃ vs, ow x H' vs ∧ tt (vs.map some ++ mask ks σ) H' fun b H2 => if b = true then te (vs.map some ++ mask ks σ) H2 fun v H3 => ∃ ys, H3 D = some (.lst ys) ∧ ys.length < sizeLine ∧ ∃ m', m' < m ∧ W (i + 1) m' (upd H3 D (.lst (ys ++ [v]))) else ∃ m', m' < m ∧ W (i + 1) m' H2)
section
variable {X : Cx} {scope : Scope} {xs : List Str} {tg : Expr} {ow : V → Hp → List V → Prop} {ks : List Bool} {pins : List (Addr × Obj)} {σ : L2.St} {H : Hp} {s s4 : Shared} {fp : List Addr} {E : Value → Shared → Prop} {h1 : Heap} {elt iter : Expr} {ifs : List Expr} {px pos : Pos} {tt : TT} {te : TE} {wi : TI}
theorem ug {h h' B B' : Heap} : ∀ {l : List Env}, h.FunFrames B l → (∀ b ∈ frs l, ∀ o, h.get? b = some o → (∀ vs, o.data ≠ .fields vs) → ∃ o', h'.get? b = some o' ∧ o'.data = o.data) → (∀ b ∈ frs l, B'.get? b = none) → h'.FunFrames B' l
 | [], _, _, _ => trivial
 | env :: r, ⟨hk, ⟨L, o, hf, _, ho, hd⟩, hr⟩, hm, hB => by
  have sub : ∀ b, b = L ∨ b ∈ frs r → b ∈ frs (env :: r) := fun b hb => by
   unfold frs; rw [List.filterMap_cons, hf]
   rcases hb with z | z
   ·rw [z]; exact List.mem_cons_self
   ·exact List.mem_cons_of_mem _ z
  obtain ⟨o', e1, e2⟩ := hm L (sub L (.inl rfl)) o ho hd
  exact ⟨hk, ⟨L, o', hf, hB L (sub L (.inl rfl)), e1, by rw [e2]; exact hd⟩, ug hr (fun b hb => hm b (sub b (.inr hb))) fun b hb => hB b (sub b (.inr hb))⟩
theorem Bs {EE : fC} {D C e : Addr} {cls : Value} {c : XD} {jV : List (Addr × Obj)} {σ' : L2.St} {H' HD : Hp} {s3 s' : Shared} {cl : List (Str × Addr)} {RE : Value → Shared → Prop} (KY : kP X EE) (hst : ∃ jD jP L, X.stack = jD :: jP ∧ X.env.frame = jD.frame ∧ jD.frame = some L)
  (I3 : Inv X pins σ HD s3) (hC : C = s3.heap.objs.size) (f3 : ∀ b ∈ fp, tB X pins HD b ∧ b < s3.heap.objs.size)
  (Pz : ∀ s'' : Shared, (∃ m, s''.heap.Ns C m ∧ ∀ h', Heap.SameBut C s''.heap h' → ∀ cenv : Env, cenv.locals = C → wpAny (model X.prog X.w) X.A (passOn "comprehension.variables-let-go" (.ref e) cenv : Sem Value) (fun _ _ => False) X.xe { s'' with heap := h' }) → RE (.ref e) s'')
  (I' : Inv (u7 X scope cl xs C pins s3 HD fp E) jV σ' H' s') (fx : MO (u7 X scope cl xs C pins s3 HD fp E) H' e cls s') (hc : EU X.mg c cls) (ee : EE c σ H') :
  notedBy (model X.prog X.w) X.A (compEnvC scope cl C X.env) RE (.ref e) s' := by
 obtain ⟨B, fb, hok, HR⟩ := fx
 obtain ⟨jD, jP, L, h1, h2, h3⟩ := hst
 show wpAny _ X.A (noteFrame (.ref e) (compEnvC scope cl C X.env)) _ _ s'
 rw [Bq (show (compEnvC scope cl C X.env).frame = jD.frame from h2)]
 have hfr : X.A.frames = some (jD :: jP) := by rw [← h1]; exact I3.ok.frames
 have T7 : Di B (jD :: jP) e cls s'.heap := by rw [← h1]; exact fb
 refine Ca hfr h3 T7 fun h5 a0 hH u5 => ?_
 obtain ⟨k1, k2, k3, oe, vs, T, oT, ts, he, hcls, hd, hv1, ML, MM, hT, D8, T8⟩ := hH
 have RA : h5.FunFrames B X.stack := by rw [h1]; exact k3
 obtain ⟨m, hm, _⟩ := id I'.loc
 have RB : h5.Ns C m := u5.ns hm
 refine Pz _ ⟨m, RB, fun h6 sb cenv _ => ?_⟩
 obtain ⟨oC, Wv, Ww, T9, Ua, _⟩ := id RB
 have I8 : ∀ {b : Addr} {o : Obj} {ws : Array Value}, h5.get? b = some o → o.data = .fields ws → b ≠ C := fun {b o ws} q d z => by
  rw [z, T9] at q; cases q; rw [Ua] at d; cases d
 have PB := (sb.2 e (I8 he hd)).trans he
 have RC := (sb.2 T (I8 hT D8)).trans hT
 have RD : 3 < ts.size := (Array.getElem?_eq_some_iff.mp T8).1
 unfold passOn setFlight
 refine wpAny_bind (wpAny_field PB hd hv1 ?_)
 rw [if_neg (show ¬ ((Value.ref T == Value.none) = true) by simp)]
 have fin : X.xe (.ref e) { s' with heap := h6.update T (Obj.mapFields (·.setIfInBounds 3 (cenv.frame.elim .none fun f => rawInt f))) } := by
  have MT : ∀ b, b ≠ T → (h6.update T (Obj.mapFields (·.setIfInBounds 3 (cenv.frame.elim .none fun f => rawInt f)))).get? b = h6.get? b := fun b hb => Heap.get?_update_other _ _ (Ne.symm hb)
  have D9 : ∀ b, b ≠ T → b ≠ C → (h6.update T (Obj.mapFields (·.setIfInBounds 3 (cenv.frame.elim .none fun f => rawInt f)))).get? b = h5.get? b := fun b hb hb2 => (MT b hb).trans (sb.2 b hb2)
  generalize Ub : h6.update T (Obj.mapFields (·.setIfInBounds 3 (cenv.frame.elim .none fun f => rawInt f))) = h7 at MT D9
  have Uc : h7.get? T = some (Obj.mapFields (·.setIfInBounds 3 (cenv.frame.elim .none fun f => rawInt f)) oT) := by rw [← Ub]; exact Heap.get?_update_self _ RC (Obj.isFreed_of_fields (Obj.data_mapFields D8 _))
  have Ud : ∀ b o, B.get? b = some o → b ≠ T := fun b o q z => by rw [z, ML] at q; cases q
  have Ou : ∀ b o, (B.hide C).get? b = some o → h7.get? b = some o := fun b o q => by
   have q' := Heap.of_hide q
   have nC : b ≠ C := fun z => by rw [z, Heap.hide_self] at q; cases q
   rw [D9 b (Ud b o q') nC]
   exact k1 b o q'
  have hide : ∀ b o, b ≠ C → B.get? b = some o → (B.hide C).get? b = some o := fun b o z q => (Heap.hide_ne B z).trans q
  have KZ : ∀ b o, s3.heap.get? b = some o → b ≠ C := fun b o q => by rw [hC]; exact Nat.ne_of_lt (Heap.lt_size q)
  have MU : pN X.prog X.w H' (B.hide C) := EV hok fun b o n q => hide b o (fun z => n (by rw [z]; exact I'.free)) q
  have Px : ∀ b, b ∉ frs X.stack → b ∉ X.fs := fun b hb z => hb (by
   rcases I3.ok.stk with q | ⟨q, _⟩
   ·rw [q]; exact z
   ·rw [q]; unfold frs; rw [List.filterMap_cons]; split
    ·exact z
    ·exact List.mem_cons_of_mem _ z)
  have slot : ∀ b o, s3.heap.get? b = some o → b ∈ frs X.stack → ∃ sl, h7.get? b = some { o with slots := sl } := fun b o q hb => by
   obtain ⟨_, o', q', hnf⟩ := I3.stack.mem hb
   rw [q] at q'; cases q'
   obtain ⟨sl, e1⟩ := I'.base.slot b o q (I3.uV b hb) hb fun z => (I'.ok.GU b z) hb
   obtain ⟨LY, e2⟩ := u5 b _ e1 hnf
   refine ⟨LY, ?_⟩
   rw [D9 b (fun z => by rw [z, hT] at e2; cases e2; exact hnf _ D8) (KZ b o q)]
   exact e2
  have un : Un (frs X.stack) fp HD H' s3.heap h7 := ⟨fun b o q n hb hx => Ou b o (hide b o (KZ b o q) (HR.keep b o q n hb hx)), fun b o q n hb hx => slot b o q hb, fun b o q n hx => I'.base.free b o q n hx, fun b o q hx => by
   by_cases hb : b ∈ frs X.stack
   ·obtain ⟨sl, z⟩ := slot b o q hb
    exact ⟨_, z⟩
   ·obtain ⟨o', z⟩ := HR.there b o q hb hx
    exact ⟨o', Ou b o' (hide b o' (KZ b o q) z)⟩, I'.base.tups, I'.base.nV, I'.base.pO⟩
  have I7 : Inv X pins σ H' { s' with heap := h7 } := I3.Eg (ch := fp) I'.os un (MU.kept Ou) I'.bare fun b hb => by
   obtain ⟨g0, g1, g2, g3, g4, g5⟩ := (f3 b hb).1
   exact ⟨g3, g1, g4, g5⟩
  have RG : ∀ b o, X.s₀.heap.get? b = some o → b ∉ X.ex → b ∉ fp := fun b o q hx hb => by
   obtain ⟨g0, g1, g2, g3, g4, g5⟩ := (f3 b hb).1
   rcases g3 with z | z
   ·exact hx z
   ·exact absurd (Nat.lt_of_lt_of_le (Heap.lt_size q) z) (Nat.lt_irrefl _)
  refine KY pins σ H' _ e cls c I7 ⟨B.hide C, ⟨Ou, ?_, ?_, .inr ⟨a0, _, oe, vs, T, _, _, ?_, hcls, hd, hv1, ?_, MM, Uc, Obj.data_mapFields D8 _, by simp [RD]; rfl⟩⟩, MU, ⟨fun b o q n hb hx => ?_, fun b o q hb hx => ?_, fun p hp => ?_⟩⟩ hc ee
  ·cases q : (B.hide C).get? e with
   | none => rfl
   | some o => have := Heap.of_hide q; rw [k2] at this; cases this
  ·refine ug RA (fun b hb o q hnf => ?_) fun b hb => ?_
   ·refine ⟨o, ?_, rfl⟩
    show h7.get? b = some o
    rw [D9 b (fun z => by rw [z, hT] at q; cases q; exact hnf _ D8) ?_]
    ·exact q
    ·obtain ⟨_, o', q', _⟩ := I3.stack.mem hb
     exact KZ b o' q'
   ·cases q : (B.hide C).get? b with
    | none => rfl
    | some o => have := Heap.of_hide q; rw [(RA.mem hb).1] at this; cases this
  ·exact (D9 e (Ne.symm MM) (I8 he hd)).trans he
  ·cases q : (B.hide C).get? T with
   | none => rfl
   | some o => have := Heap.of_hide q; rw [ML] at this; cases this
  ·have q3 := I3.base.keep b o q n (Px b hb) hx
   exact hide b o (KZ b o q3) (HR.keep b o q3 (I3.base.free b o q n hx) hb (RG b o q hx))
  ·obtain ⟨o', q3⟩ := I3.base.there b o q hx
   obtain ⟨RH, z⟩ := HR.there b o' q3 hb (RG b o q hx)
   exact ⟨RH, hide b RH (KZ b o' q3) z⟩
  ·exact hide _ _ (KZ _ _ (I3.pin p (List.mem_append_left _ hp)).1) (HR.pins p (List.mem_append_left _ hp))
 first
  | (refine wpAny_bind (wpAny_pure ?_); refine wpAny_bind (wpAny_bind (wpAny_field PB hd hv1 ?_)))
  | refine wpAny_bind (wpAny_bind (wpAny_field PB hd hv1 ?_))
 rw [if_pos (show (Value.ref T != Value.none) = true by simp)]
 exact wpAny_setField RC D8 RD (wpAny_throw fin)
theorem vI {Q : VK} {J : It} {it : Addr} {tn : Nat → Heap → Prop} {RR : Value → Addr → Result → Shared → Prop} {EE : fC} (KY : kP X EE) (hst : ∃ jD jP L, X.stack = jD :: jP ∧ X.env.frame = jD.frame ∧ jD.frame = some L) (S : cj X.env.scope X.N scope xs ks) (how : Own X scope xs ks tg ow) (hc : X.calm = true) (I : Inv X pins σ H s)
  (T : Turn X.prog X.w X.K tg J fp it tn) (st : tn 0 s.heap) (hf : ∀ b ∈ fp, tB X pins H b)
  (hb : ∀ (cl : List (Str × Addr)) (C : Addr) (pins : List (Addr × Obj)) (s0 : Shared) (H0 : Hp) (fp : List Addr) (E : Value → Shared → Prop), kP (u7 X scope cl xs C pins s0 H0 fp E) (fun c _ H' => EE c σ H') → CT (u7 X scope cl xs C pins s0 H0 fp E) ifs tt ∧ PE (u7 X scope cl xs C pins s0 H0 fp E) elt te)
  (hw : ∀ D, H D = none → ∃ W : Nat → Nat → Hp → Prop, (∃ m, W 0 m (upd H D (.lst []))) ∧ ∀ i m H, W i m H →
   (J.stop i H ∧ Q (.ref D) H) ∨ (J.go i H ∧ ∀ x H', J.xr i H x H' → ∃ vs, ow x H' vs ∧ tt (vs.map some ++ mask ks σ) H' fun b H2 => if b = true then te (vs.map some ++ mask ks σ) H2 fun v H3 => ∃ ys, H3 D = some (.lst ys) ∧ ys.length < sizeLine ∧ ∃ m', m' < m ∧ W (i + 1) m' (upd H3 D (.lst (ys ++ [v]))) else ∃ m', m' < m ∧ W (i + 1) m' H2))
  (hRR : ∀ (D C : Addr) (s' : Shared) (H' : Hp) (m : Str → Option Value), Inv X pins σ H' s' → s'.heap.Ns C m → H' C = none → C ≠ X.env.locals → X.s₀.heap.objs.size ≤ C → (∀ x c, X.env.cells.lookup x = some c → c ≠ C) → (∀ p ∈ X.pn ++ pins, p.1 ≠ C) → Q (.ref D) H' → RR (.ref D) C (.ok .next) s')
  (Pz : ∀ (acc : Value) (C e : Addr) (s'' : Shared), (∃ m, s''.heap.Ns C m ∧ ∀ h', Heap.SameBut C s''.heap h' → ∀ cenv : Env, cenv.locals = C → wpAny (model X.prog X.w) X.A (passOn "comprehension.variables-let-go" (.ref e) cenv : Sem Value) (fun _ _ => False) X.xe { s'' with heap := h' }) → RR acc C (.error (.ref e)) s'') :
  wpAny (model X.prog X.w) X.A (newList []) (fun acc s₃ => wpAny (model X.prog X.w) X.A (newFunctionEnv scope X.env.globals (jk X.env scope.names []) [] X.env.qual none .none (some X.env)) (fun cenv s₄ =>
   codeAny (model X.prog X.w) X.A (.compStart (.ListComp elt [⟨tg, iter, ifs, 0⟩] scope pos) 0 (.ref it) acc { cenv with scope := relabel scope X.env }) (RR acc cenv.locals) s₄) E s₃) E s := by
 refine wpAny_newObj_type (wpAny_newFunctionEnv S.tO (by intro y hy; simp at hy) (fun h₁ MV MW => ?_) S.kind)
 have I3 : Inv X pins σ (upd H s.heap.objs.size (.lst [])) { s with heap := s.heap.push { cls := .type "list", dict := none, data := .seq ([] : List Value).toArray } } :=
  I.laid (t' := s.toks) (fun b o e => Heap.get?_push_of_some _ e) (Nat.le_refl _) ⟨Nat.zero_le _, [], 0, .nil, Heap.get?_push_size _ rfl⟩
 have hfree := I.hok.fresh (Nat.le_refl s.heap.objs.size)
 generalize RI : ({ s with heap := s.heap.push { cls := .type "list", dict := none, data := .seq ([] : List Value).toArray } } : Shared) = s3 at I3 MV MW ⊢
 have hsz : s3.heap.objs.size = s.heap.objs.size + 1 := by rw [← RI]; exact Heap.size_push ..
 have MX : ∀ b o, s.heap.get? b = some o → s3.heap.get? b = some o := fun b o e => by rw [← RI]; exact Heap.get?_push_of_some _ e
 have MY : ∀ b ∈ fp, b < s.heap.objs.size := fun b hb' => by
  obtain ⟨o, e, _⟩ := T.obj 0 _ st b hb'
  exact Heap.lt_size e
 have f3 : ∀ b ∈ fp, tB X pins (upd H s.heap.objs.size (.lst [])) b ∧ b < s3.heap.objs.size := fun b hb' =>
  ⟨⟨by rw [aK (Nat.ne_of_lt (MY b hb'))]; exact (hf b hb').1, (hf b hb').2⟩, by rw [hsz]; exact Nat.lt_succ_of_lt (MY b hb')⟩
 have EX : ∀ b o, s3.heap.get? b = some o → h₁.get? b = some o := fun b o e => MW.extBut b o (Nat.ne_of_lt (Heap.lt_size e)) (Heap.get?_push_of_some _ e)
 obtain ⟨W, ⟨m0, w0⟩, turn⟩ := hw s.heap.objs.size hfree
 generalize hX : u7 X scope (jk X.env scope.names []) xs s3.heap.objs.size pins s3 (upd H s.heap.objs.size (.lst [])) fp (notedBy (model X.prog X.w) X.A (compEnvC scope (jk X.env scope.names []) s3.heap.objs.size X.env) fun e s' => RR (.ref s.heap.objs.size) s3.heap.objs.size (.error e) s') = Xc
 have I4 : Inv Xc [] (List.replicate xs.length none ++ mask ks σ) (upd H s.heap.objs.size (.lst [])) { s3 with heap := h₁, toks := s3.toks + ([] : List (Str × Value)).length } := by
  rw [← hX]
  exact Br S I3 f3 (by simpa using MV) EX _
 have GJ : CT Xc ifs tt ∧ PE Xc elt te := by
  rw [← hX]
  exact hb _ _ _ _ _ _ _ fun jV σ' H' s' e cls c I' fx hc ee => Bs (RE := fun e s' => RR (.ref s.heap.objs.size) s3.heap.objs.size (.error e) s') (D := s.heap.objs.size) KY hst I3 rfl f3 (fun s'' => Pz _ _ e s'') I' fx hc ee
 have zW : Xc.prog = X.prog := by rw [← hX]; rfl
 have ew : Xc.w = X.w := by rw [← hX]; rfl
 have eK : Xc.K = X.K := by rw [← hX]; rfl
 have eA : Xc.A = X.A := by rw [← hX]; rfl
 have Ji : Xc.calm = true := by rw [← hX]; exact hc
 have PC : Xc.xe = notedBy (model X.prog X.w) X.A Xc.env fun e s' => RR (.ref s.heap.objs.size) s3.heap.objs.size (.error e) s' := by rw [← hX]; rfl
 have K0 : Xc.env = compEnvC scope (jk X.env scope.names []) s3.heap.objs.size X.env := by rw [← hX]; rfl
 have Ue : Xc.stack = X.stack := by rw [← hX]; rfl
 have PD : ∀ {H' : Hp}, (∀ b ∈ fp, H' b = none) → ∀ b ∈ fp, tB Xc [] H' b := fun {H'} hn b hb' => by
  obtain ⟨g0, g1, g2, g3, g4, g5⟩ := (f3 b hb').1
  rw [← hX]
  refine ⟨hn b hb', Nat.ne_of_lt (f3 b hb').2, fun z => (List.mem_cons.mp (I3.qw b z)).elim g1 g2, .inl hb', fun y c e => g4 y c (vF scope.names [] (fun y c e => by simp at e) y c e), fun p hp => g5 p ?_⟩
  have : p ∈ (X.pn ++ pins) ++ [] := hp
  simpa using this
 have fin : ∀ (s' : Shared) (H' : Hp) (a0 : List (Option V)), Inv Xc [] (a0 ++ mask ks σ) H' s' → Q (.ref s.heap.objs.size) H' → RR (.ref s.heap.objs.size) s3.heap.objs.size (.ok .next) s' := fun s' H' a0 I' q => by
  have hloc := I'.loc
  obtain ⟨m, hm, _⟩ := hloc
  have hC : H' s3.heap.objs.size = none := by have := I'.free; rw [K0] at this; exact this
  have hU : Un (frs X.stack) fp (upd H s.heap.objs.size (.lst [])) H' s3.heap s'.heap := by
   have := I'.base
   rw [← hX] at this
   exact this
  have hos : s'.os = s3.os ∧ 0 < s'.toks := by have := I'.os; rw [← hX] at this; exact this
  have PF : pN X.prog X.w H' s'.heap := by have := I'.hok; rw [← hX] at this; exact this
  have I5 : Inv X pins σ H' s' := I3.Eg hos hU PF I'.bare fun b hb' => by
   obtain ⟨g0, g1, g2, g3, g4, g5⟩ := (f3 b hb').1
   exact ⟨g3, g1, g4, g5⟩
  refine hRR _ _ s' H' m I5 (by rw [K0] at hm; exact hm) hC (Nat.ne_of_gt I3.lt) (Nat.le_trans I3.sz (Nat.le_refl _)) (fun y c e z => ?_) (fun p hp z => ?_) q
  ·obtain ⟨v, hv⟩ := I3.cell y c e
   exact absurd hv.lt (by rw [z]; exact Nat.lt_irrefl _)
  ·exact absurd (Heap.lt_size (I3.pin p hp).1) (by rw [z]; exact Nat.lt_irrefl _)
 have loop : codeAny (model X.prog X.w) X.A (.compLoop (.ListComp elt [⟨tg, iter, ifs, 0⟩] scope pos) 0 (.ref it) (.ref s.heap.objs.size) Xc.env) (RR (.ref s.heap.objs.size) s3.heap.objs.size)
   { s3 with heap := h₁, toks := s3.toks + ([] : List (Str × Value)).length } := by
  refine yz (fun n s' => ∃ i a0 H', a0.length = xs.length ∧ Inv Xc [] (a0 ++ mask ks σ) H' s' ∧ tn i s'.heap ∧ (∀ b ∈ fp, H' b = none) ∧ W i n H') ?_ m0 ⟨0, List.replicate xs.length none, _, by simp, I4, T.keep 0 _ _ st fun b hb' o e => EX b o (MX b o e), fun b hb' => (f3 b hb').1.1, w0⟩
  rintro n s5 ⟨i, a0, H5, Ug, I5, LG, Oj, w5⟩
  rcases turn i n H5 w5 with ⟨stop, q⟩ | ⟨go, step⟩
  ·have hd := T.done Xc zW ew eK Ji i [] s5 _ H5 (fun _ _ => False) I5 (PD Oj) LG stop
   rw [eA] at hd
   refine wpAny_mono hd (fun r s6 hr => ?_) (fun _ _ z => False.elim z)
   obtain ⟨rfl, I6⟩ := hr
   exact fin s6 H5 a0 I6 q
  ·have hd := T.item Xc zW ew eK Ji i [] s5 _ H5 (fun _ _ => False) I5 (PD Oj) LG go
   rw [eA] at hd
   refine wpAny_mono hd (fun r s6 hr => ?_) (fun _ _ z => False.elim z)
   obtain ⟨u, rfl, h6⟩ := hr
   refine wpAny_mono h6 (fun _ s7 hq => ?_) (fun _ _ z => False.elim z)
   obtain ⟨v, H7, I7, r7, y7, PJ, Uh⟩ := hq
   obtain ⟨vs, hvs, step⟩ := step v H7 y7
   have Ui : Inv Xc (tD fp s7.heap) (a0 ++ mask ks σ) H7 s7 := by
    have := Inv.pinned (pins := []) I7 (PD Uh) (T.obj _ _ PJ)
    simpa using this
   have back : ∀ {σ' : L2.St} {H' : Hp} {s' : Shared}, Inv Xc (tD fp s7.heap) σ' H' s' → Inv Xc [] σ' H' s' ∧ tn (i + 1) s'.heap ∧ ∀ b ∈ fp, H' b = none := fun {σ' H' s'} I' => by
    refine ⟨I'.yj fun p hp => absurd hp (by simp), T.keep _ _ _ PJ fun b hb' o e => (I'.pin (b, o) (List.mem_append_right _ (mW hb' e))).1, fun b hb' => ?_⟩
    obtain ⟨o, e, d⟩ := T.obj _ _ PJ b hb'
    exact (I'.pin (b, o) (List.mem_append_right _ (mW hb' e))).2.1
   refine how _ _ _ _ _ _ _ Xc σ a0 v vs u H7 s7 _ _ _ hX.symm Ug Ui r7 hvs fun RJ s8 Uj => ?_
   have ht := GJ.1 _ s8 _ H7 _ Uj step
   rw [zW, ew, eA, PC] at ht
   refine wpAny_mono ht (fun Uk s9 h9 => ?_) (fun _ _ z => z)
   obtain ⟨H9, I9, q9⟩ := h9
   cases Uk with
   | false =>
    rw [if_neg Bool.false_ne_true] at q9 ⊢
    obtain ⟨m', hm', w'⟩ := q9
    obtain ⟨Ul, Um, Uo⟩ := back I9
    exact ⟨m', hm', i + 1, vs.map some, H9, by simpa using RJ, Ul, Um, Uo, w'⟩
   | true =>
    rw [if_pos rfl] at q9 ⊢
    have he := GJ.2 _ s9 _ H9 _ I9 q9
    rw [zW, ew, eA, PC] at he
    refine wpAny_mono he (fun y Up Dm => ?_) (fun _ _ z => z)
    obtain ⟨yv, Uq, Ur, Ov, ys, hD, hlen, m', hm', w'⟩ := Dm
    have ha := xC (X := Xc) _ Up _ Uq (.ref s.heap.objs.size) [yv] (.ref s.heap.objs.size) [y] (fun _ H' => ∃ m', m' < n ∧ W (i + 1) m' H') Ur rfl (.cons Ov .nil) ⟨_, ys, yv, rfl, rfl, hD, hlen, m', hm', w'⟩
    rw [zW, ew, eA, PC] at ha
    refine wpAny_mono ha (fun _ Wx h11 => ?_) (fun _ _ z => z)
    obtain ⟨_, Us, Ut, _, Uu, PK, w''⟩ := h11
    obtain ⟨PL, PM, PN⟩ := back Ut
    exact ⟨Uu, PK, i + 1, vs.map some, Us, by simpa using RJ, PL, PM, PN, w''⟩
 rw [K0] at loop
 exact codeAny_compStart_list loop (T.self X.A 0 _ _ _ (T.keep 0 _ _ st fun b hb' o e => EX b o (MX b o e)) loop)
theorem Cc {EE : fC} {tt : L2.St → TT} {te : L2.St → TE} (KY : kP X EE) (hst : ∃ jD jP L, X.stack = jD :: jP ∧ X.env.frame = jD.frame ∧ jD.frame = some L) (S : cj X.env.scope X.N scope xs ks) (how : Own X scope xs ks tg ow) (hc : X.calm = true) (hi : PI X tg iter wi)
  (hb : ∀ (σ : L2.St) (cl : List (Str × Addr)) (C : Addr) (pins : List (Addr × Obj)) (s0 : Shared) (H0 : Hp) (fp : List Addr) (E : Value → Shared → Prop), kP (u7 X scope cl xs C pins s0 H0 fp E) (fun c _ H' => EE c σ H') → CT (u7 X scope cl xs C pins s0 H0 fp E) ifs (tt σ) ∧ PE (u7 X scope cl xs C pins s0 H0 fp E) elt (te σ))
  (hs : ∀ x, foldedSetIterable iter X.env x = pure x := by intro _; rfl) : PE X (.ListComp elt [⟨tg, iter, ifs, 0⟩] scope pos) (fun σ => zV wi ks ow (tt σ) (te σ) σ) := by
 intro pins s σ H Q I h
 rw [eval_ListComp]
 refine wpAny_comprehension_free (use := none) rfl hs (pW fun y hy hfr => I.ok.has y.1 (S.free y hy hfr)) S.kind S.names (gX (hi pins s σ H _ I h) fun v s1 h1 => gX h1 fun itv s2 h2 => ?_)
 obtain ⟨it, fp, tn, J, H2, rfl, I2, T, st2, f2, q⟩ := h2
 refine vI (RR := fun acc C => compPost (model X.prog X.w) X.A X.xe none (EP X pins σ Q) acc C) KY hst S how hc I2 T st2 f2 (hb σ) q ?_ (fun _ _ _ _ z => z)
 intro D C s' H' m I' hn hC h1 h2 h3 h4 q'
 refine ⟨m, hn, fun h' sb => ?_⟩
 exact ⟨.ref D, H', I'.turned (t' := s'.toks) (fun b o hb e => (sb.2 b hb).trans e) hC h1 (.inr h2) h3 h4, rfl, q'⟩
theorem Cd {EE : fC} {tt : L2.St → TT} {te : L2.St → TE} (KY : kP X EE) (hst : ∃ jD jP L, X.stack = jD :: jP ∧ X.env.frame = jD.frame ∧ jD.frame = some L) {y : Str} {i : Nat} {py spos : Pos} (S : cj X.env.scope X.N scope xs ks) (how : Own X scope xs ks tg ow) (hc : X.calm = true) (hN : X.N.Nodup) (hi : PI X tg iter wi) (hy : X.N[i]? = some y) (hl : X.env.scope.names.lookup y = some .local)
  (hsw : swapsWith (.ListComp elt [⟨tg, iter, ifs, 0⟩] scope pos) (some (.Name y py)) spos.line X.env = pure true)
  (hb : ∀ (σ : L2.St) (cl : List (Str × Addr)) (C : Addr) (pins : List (Addr × Obj)) (s0 : Shared) (H0 : Hp) (fp : List Addr) (E : Value → Shared → Prop), kP (u7 X scope cl xs C pins s0 H0 fp E) (fun c _ H' => EE c σ H') → CT (u7 X scope cl xs C pins s0 H0 fp E) ifs (tt σ) ∧ PE (u7 X scope cl xs C pins s0 H0 fp E) elt (te σ))
  (hs : ∀ x, foldedSetIterable iter X.env x = pure x := by intro _; rfl) : PS X (.Assign [.Name y py] (.ListComp elt [⟨tg, iter, ifs, 0⟩] scope pos) spos) (G6 (fun σ => zV wi ks ow (tt σ) (te σ) σ) (xq i)) := by
 intro pins s σ H Dd I h
 rw [exec_Assign_Name_used _ _ _ _ hsw]
 refine wpAny_bind (wpAny_standAt (wpAny_bind ?_))
 show wpAny _ X.A (do let _ ← comprehension (.ListComp elt [⟨tg, iter, ifs, 0⟩] scope pos) scope X.env _ (newList []) false (eval iter X.env) (some (assign (.Name y py) X.env))) _ _ s
 refine wpAny_bind (wpAny_mono (wpAny_comprehension_free (use := some (assign (.Name y py) X.env)) (Q := fun _ s' => SP X pins Dd .next s') rfl hs (pW fun y hy hfr => I.ok.has y.1 (S.free y hy hfr)) S.kind S.names
  (gX (hi pins s σ H _ I h) fun v s1 h1 => gX h1 fun itv s2 h2 => ?_)) (fun _ s' hq => wpAny_pure (wpAny_pure hq)) fun _ _ e => e)
 obtain ⟨it, fp, tn, J, H2, rfl, I2, T, st2, f2, q⟩ := h2
 refine vI (Q := fun v H' => Dd.nx (σ.set i (some v)) H') (RR := fun acc C => compPost (model X.prog X.w) X.A X.xe (some (assign (.Name y py) X.env)) (fun _ s' => SP X pins Dd .next s') acc C) KY hst S how hc I2 T st2 f2 (hb σ) q ?_ (fun _ _ _ _ z => z)
 intro D C s' H' m I' hn hC h1 h2 h3 h4 q'
 show wpAny _ X.A (assign (.Name y py) X.env (.ref D)) _ _ s'
 refine wpAny_assign_Name (tw I' hN hy (.inl hl) (v := .ref D) (u := .ref D) rfl (fun s'' Uv sb => ?_) (.inr hl))
 obtain ⟨a, sb, ha⟩ := sb
 have hne : C ≠ a := by
  rcases ha with e | e
  ·rw [e]; exact h1
  ·exact fun z => h3 y a e z.symm
 refine ⟨m, hn.sameBut sb hne, fun h'' sb' => ?_⟩
 exact ⟨_, H', Uv.turned (t' := s''.toks) (fun b o hb e => (sb'.2 b hb).trans e) hC h1 (.inr h2) h3 h4, q'⟩
end
end L3
end
section
set_option Elab.async false
set_option linter.all false
set_option maxRecDepth 100000
namespace L3
open PySem PySem.Spec L2
noncomputable def oN : D → Option (List D) := fun d => some [d]
noncomputable def oT (n : Nat) : D → Option (List D)
 | .tup xs => if xs.length = n then some xs else none
 | _ => none
noncomputable def om (K : PySem.W.Frag) (mg : Str → Option Value) (ow : V → Hp → List V → Prop) (gO : D → Option (List D)) : Prop :=
 ∀ (ρ : List Addr) (H : Hp) (d : D) (v : V) (os : List D), Rep K mg ρ H d v → gO d = some os → ∃ vs, ow v H vs ∧ ay K mg ρ H os vs
theorem pC {K : PySem.W.Frag} {mg : Str → Option Value} : om K mg Dk oN := fun ρ H d v os r e => by
 cases e
 exact ⟨[v], rfl, .cons r .nil⟩
theorem rS {K : PySem.W.Frag} {mg : Str → Option Value} {n : Nat} : om K mg (Dl K n) (oT n) := fun ρ H d v os r e => by
 cases d <;> try (cases e; done)
 rename_i xs
 dsimp only [oT] at e
 by_cases h : xs.length = n
 ·rw [if_pos h] at e; cases e
  unfold Rep at r
  obtain ⟨a, vs, rfl, sq, rs⟩ := r
  exact ⟨vs, ⟨a, rfl, sq, by rw [← rs.length]; exact h⟩, rs⟩
 ·rw [if_neg h] at e; cases e
noncomputable def HS (K : PySem.W.Frag) (mg : Str → Option Value) (H H' : Hp) (ρ : List Addr) : Prop := eX K H H' ρ ρ ∧ ∀ G, kh K mg H ρ G → kh K mg H' ρ G
theorem HS.refl {K : PySem.W.Frag} {mg : Str → Option Value} {H : Hp} {ρ : List Addr} : HS K mg H H ρ := ⟨.refl, fun _ h => h⟩
noncomputable def cH (gO : D → Option (List D)) (ks : List Bool) (tt : DS → M Bool) (te : DS → M D) (n : Nat) (d : D) (τ : DS) (G : DH) : Out Unit := match gO d with
 | none => .stuck
 | some os => match tt (os.map some ++ mask ks τ) G with
 | .ok true G1 => match te (os.map some ++ mask ks τ) G1 with
  | .ok v G2 => match G2[n]? with
   | some (.lst ys) => if ys.length < sizeLine then .ok () (G2.set n (.lst (ys ++ [v]))) else .stuck
   | _ => .stuck
  | .dz c G2 => .dz c G2
  | .stuck => .stuck
 | .ok false G1 => .ok () G1
 | .dz c G1 => .dz c G1
 | .stuck => .stuck
noncomputable def cE (gO : D → Option (List D)) (ks : List Bool) (tt : DS → M Bool) (te : DS → M D) (n : Nat) : List D → DS → DH → Out D
 | [], _, G => .ok (.obj n) G
 | d :: r, τ, G => match cH gO ks tt te n d τ G with
  | .ok _ G' => cE gO ks tt te n r τ G'
  | .dz c G' => .dz c G'
  | .stuck => .stuck
noncomputable def uh (gO : D → Option (List D)) (ks : List Bool) (tt : DS → M Bool) (te : DS → M D) (n src : Nat) : Nat → Nat → DS → DH → Out D
 | 0, _, _, _ => .stuck
 | f + 1, k, τ, G => match G[src]? with
  | some (.lst xs) => match xs[k]? with
   | none => .ok (.obj n) G
   | some d => match cH gO ks tt te n d τ G with
    | .ok _ G' => uh gO ks tt te n src f (k + 1) τ G'
    | .dz c G' => .dz c G'
    | .stuck => .stuck
  | _ => .stuck
noncomputable def je (gO : D → Option (List D)) (ks : List Bool) (m : DS → M D) (tt : DS → M Bool) (te : DS → M D) : DS → M D := fun τ => (m τ).bind fun d G => match d with
 | .obj k => match G[k]? with
  | some (.lst xs) => uh gO ks tt te G.length k (xs.length + 1) 0 τ (G ++ [.lst []])
  | _ => .stuck
 | .tup xs => cE gO ks tt te G.length xs τ (G ++ [.lst []])
 | .con xs => cE gO ks tt te G.length xs τ (G ++ [.lst []])
 | .str z => cE gO ks tt te G.length (z.cps.toList.map fun c => .str ⟨#[c]⟩) τ (G ++ [.lst []])
 | _ => .stuck
noncomputable def qF (CW : List D → Option (List D)) (gO : D → Option (List D)) (ks : List Bool) (m : DS → M (List D)) (tt : DS → M Bool) (te : DS → M D) : DS → M D := fun τ => (m τ).bind fun ds G => match CW ds with
 | some xs => cE gO ks tt te G.length xs τ (G ++ [.lst []])
 | none => .stuck
section
variable {X : Cx} {EE : fC} {gO : D → Option (List D)} {ow : V → Hp → List V → Prop} {xs : List Str} {tg : Expr} {ks : List Bool} {tt : DS → M Bool} {te : DS → M D}
theorem Dn {K : PySem.W.Frag} {mg : Str → Option Value} {σ : L2.St} {H : Hp} {τ : DS} {ρ : List Addr} {os : List D} {vs : List V} (h : vB K mg H ρ σ τ) (r : ay K mg ρ H os vs) : vB K mg H ρ (vs.map some ++ mask ks σ) (os.map some ++ mask ks τ) := by
 have hl := r.length
 refine ⟨by simp [kY, h.1, hl], fun i e he => ?_⟩
 by_cases hi : i < os.length
 ·rw [List.getElem?_append_left (by simpa using hi), List.getElem?_map] at he
  cases q : os[i]? with
  | none => rw [q] at he; cases he
  | some d =>
   rw [q] at he; cases he
   obtain ⟨v, e1, r1⟩ := r.get q
   exact ⟨v, by rw [List.getElem?_append_left (by simp; omega), List.getElem?_map, e1]; rfl, r1⟩
 ·rw [List.getElem?_append_right (by simp; omega)] at he
  obtain ⟨h1, h2⟩ := oj he
  obtain ⟨w, e1, r1⟩ := h.2 _ e h2
  refine ⟨w, ?_, r1⟩
  rw [List.getElem?_append_right (by simp; omega)]
  have := Cb h1 e1
  simpa [hl] using this
noncomputable def u9 (EE : fC) (σ : L2.St) : fC := fun c _ H' => EE c σ H'
theorem tQ (hO : om X.K X.mg ow gO) {W : Hp → Prop} {n : Nat} {p : Addr} {σ : L2.St} {H : Hp} {τ : DS} {ρ : List Addr} {G : DH} {d : D} {v : V} (ab : Ab X.K X.mg σ H τ ρ G) (r : Rep X.K X.mg ρ H d v) (hn : ρ[n]? = some p)
  (hW : match cH gO ks tt te n d τ G with
   | .stuck => False
   | .ok _ G' => ∀ H' ρ', eX X.K H H' ρ ρ' → Ab X.K X.mg σ H' τ ρ' G' → W H'
   | .dz c G' => ∀ H' ρ', eX X.K H H' ρ ρ' → Ab X.K X.mg σ H' τ ρ' G' → EE c σ H') :
  ∃ vs, ow v H vs ∧ liftT X.K X.mg (u9 EE σ) tt (vs.map some ++ mask ks σ) H fun b H2 => if b = true then dB X.K X.mg (u9 EE σ) te (vs.map some ++ mask ks σ) H2 fun u H3 => ∃ ys, H3 p = some (.lst ys) ∧ ys.length < sizeLine ∧ W (upd H3 p (.lst (ys ++ [u]))) else W H2 := by
 unfold cH at hW
 cases qo : gO d with
 | none => rw [qo] at hW; exact hW.elim
 | some os =>
 rw [qo] at hW
 dsimp only at hW
 obtain ⟨us, Hs, Uw⟩ := hO ρ H d v os r qo
 refine ⟨us, Hs, ?_⟩
 refine ⟨_, ρ, G, ⟨Dn ab.st Uw, ab.hp⟩, ?_⟩
 cases q : tt (os.map some ++ mask ks τ) G with
 | stuck => rw [q] at hW; exact hW
 | dz c G1 => rw [q] at hW; exact fun H' ρ' f cB => hW H' ρ' f ⟨ab.st.mono f, cB.hp⟩
 | ok b G1 =>
  rw [q] at hW
  intro H1 ρ1 f1 rO
  cases b with
  | false =>
   rw [if_neg Bool.false_ne_true]
   exact hW H1 ρ1 f1 ⟨ab.st.mono f1, rO.hp⟩
  | true =>
   rw [if_pos rfl]
   dsimp only at hW
   refine ⟨_, ρ1, G1, rO, ?_⟩
   cases q2 : te (os.map some ++ mask ks τ) G1 with
   | stuck => rw [q2] at hW; exact hW
   | dz c G2 => rw [q2] at hW; exact fun H' ρ' f cB => hW H' ρ' (f1.trans f) ⟨ab.st.mono (f1.trans f), cB.hp⟩
   | ok u G2 =>
    rw [q2] at hW
    dsimp only at hW
    intro w H2 ρ2 f2 eu r2
    cases q3 : G2[n]? with
    | none => rw [q3] at hW; exact hW.elim
    | some o =>
     cases o with
     | dead => first | (rw [q] at ok; exact ok.elim) | (rw [q] at aI; exact aI.elim) | (rw [q3] at hW; exact hW.elim) | (rw [q] at e; cases e; done) | (rw [g] at ok; exact ok.elim) | (rw [g] at q; cases q; done) | (rw [g] at h; cases h; done) | exact ok.elim
     | dct kv => first | (rw [q] at ok; exact ok.elim) | (rw [q] at aI; exact aI.elim) | (rw [q3] at hW; exact hW.elim) | (rw [q] at e; cases e; done) | (rw [g] at ok; exact ok.elim) | (rw [g] at q; cases q; done) | (rw [g] at h; cases h; done) | exact ok.elim
     | tab y0 => first | (rw [q] at ok; exact ok.elim) | (rw [q] at aI; exact aI.elim) | (rw [q3] at hW; exact hW.elim) | (rw [q] at e; cases e; done) | (rw [g] at ok; exact ok.elim) | (rw [g] at q; cases q; done) | (rw [g] at h; cases h; done) | exact ok.elim
     | lst ys =>
      rw [q3] at hW
      dsimp only at hW
      by_cases hl : ys.length < sizeLine
      ·rw [if_pos hl] at hW
       dsimp only at hW
       obtain ⟨p', vs, e1, e2, rs⟩ := eu.hp.lst q3
       have HU := f1.trans f2
       rw [HU.get hn] at e1; cases e1
       refine ⟨vs, e2, by rw [← rs.length]; exact hl, ?_⟩
       have f3 : eX X.K H2 (upd H2 p (.lst (vs ++ [w]))) ρ2 ρ2 := uZ e2 ρ2
       exact hW _ ρ2 (HU.trans f3) ⟨ab.st.mono (HU.trans f3), eu.hp.put (ds := ys) (HU.get hn) e2 (rs.append (.cons r2 .nil))⟩
      ·rw [if_neg hl] at hW; exact hW.elim
theorem m7 (hO : om X.K X.mg ow gO) {Q : VK} {J : It} {H0 : Hp} {σ : L2.St} {ρ0 : List Addr} {G0 : DH} {τ : DS} (ds : List D)
  (go : ∀ i H ρ, i < ds.length → eX X.K H0 H ρ0 ρ → J.go i H) (stop : ∀ i H ρ, ds.length ≤ i → eX X.K H0 H ρ0 ρ → J.stop i H)
  (xr : ∀ i d H ρ x H', ds[i]? = some d → eX X.K H0 H ρ0 ρ → J.xr i H x H' → HS X.K X.mg H H' ρ ∧ Rep X.K X.mg ρ H' d x)
  (ab : Ab X.K X.mg σ H0 τ ρ0 G0) (ok : mw X.K X.mg EE H0 σ τ ρ0 (cE gO ks tt te G0.length ds τ (G0 ++ [.lst []])) Q) :
  ∀ D, H0 D = none → ∃ W : Nat → Nat → Hp → Prop, (∃ m, W 0 m (upd H0 D (.lst []))) ∧ ∀ i m H, W i m H →
   (J.stop i H ∧ Q (.ref D) H) ∨ (J.go i H ∧ ∀ x H', J.xr i H x H' → ∃ vs, ow x H' vs ∧ liftT X.K X.mg (u9 EE σ) tt (vs.map some ++ mask ks σ) H' fun b H2 => if b = true then dB X.K X.mg (u9 EE σ) te (vs.map some ++ mask ks σ) H2 fun v H3 => ∃ ys, H3 D = some (.lst ys) ∧ ys.length < sizeLine ∧ ∃ m', m' < m ∧ W (i + 1) m' (upd H3 D (.lst (ys ++ [v]))) else ∃ m', m' < m ∧ W (i + 1) m' H2) := by
 intro D hD
 have f0 : eX X.K H0 (upd H0 D (.lst [])) ρ0 (ρ0 ++ [D]) := (kW hD ρ0).trans (jF ρ0 D)
 have K1 : Ab X.K X.mg σ (upd H0 D (.lst [])) τ (ρ0 ++ [D]) (G0 ++ [.lst []]) := ab.fut f0 (ab.hp.more hD .nil)
 have hn0 : (ρ0 ++ [D])[G0.length]? = some D := by rw [← ab.hp.hl, bw]
 refine ⟨fun i m H => i ≤ ds.length ∧ m = ds.length - i ∧ ∃ ρ G, Ab X.K X.mg σ H τ ρ G ∧ eX X.K H0 H ρ0 ρ ∧ ρ[G0.length]? = some D ∧ mw X.K X.mg EE H σ τ ρ (cE gO ks tt te G0.length (ds.drop i) τ G) Q,
  ⟨ds.length, Nat.zero_le _, rfl, ρ0 ++ [D], _, K1, f0, hn0, by simpa using ok.fut f0⟩, ?_⟩
 rintro i m H ⟨hi, rfl, ρ, G, ab, f, hn, ok⟩
 by_cases hlt : i < ds.length
 ·refine .inr ⟨go i H ρ hlt f, fun x H' y => ?_⟩
  obtain ⟨⟨fN, hN⟩, rx⟩ := xr i ds[i] H ρ x H' (List.getElem?_eq_getElem hlt) f y
  replace ok := mw.fut fN ok
  replace ab : Ab X.K X.mg σ H' τ ρ G := ab.fut fN (hN _ ab.hp)
  replace f := f.trans fN
  rw [List.drop_eq_getElem_cons hlt] at ok
  unfold cE at ok
  refine tQ hO (W := fun H3 => ∃ m', m' < ds.length - i ∧ i + 1 ≤ ds.length ∧ m' = ds.length - (i + 1) ∧ ∃ ρ G, Ab X.K X.mg σ H3 τ ρ G ∧ eX X.K H0 H3 ρ0 ρ ∧ ρ[G0.length]? = some D ∧ mw X.K X.mg EE H3 σ τ ρ (cE gO ks tt te G0.length (ds.drop (i + 1)) τ G) Q)
    ab rx hn ?_
  cases e : cH gO ks tt te G0.length ds[i] τ G with
  | stuck => rw [e] at ok; exact ok
  | dz c G' => rw [e] at ok; exact ok
  | ok _ G' =>
   rw [e] at ok
   exact fun H3 ρ3 f3 zK => ⟨ds.length - (i + 1), by omega, hlt, rfl, ρ3, G', zK, f.trans f3, f3.get hn, ok.fut f3⟩
 ·have e : i = ds.length := by omega
  subst e
  refine .inl ⟨stop _ H ρ (Nat.le_refl _) f, ?_⟩
  rw [List.drop_eq_nil_of_le (Nat.le_refl _)] at ok
  exact ok _ H ρ .refl ab (by unfold Rep; exact ⟨D, rfl, hn⟩)
theorem EY (hO : om X.K X.mg ow gO) {Q : VK} {H0 : Hp} {σ : L2.St} {ρ0 : List Addr} {G0 : DH} {τ : DS} {k fuel : Nat} {p : Addr} (hk : ρ0[k]? = some p)
  (ab : Ab X.K X.mg σ H0 τ ρ0 G0) (ok : mw X.K X.mg EE H0 σ τ ρ0 (uh gO ks tt te G0.length k fuel 0 τ (G0 ++ [.lst []])) Q) :
  ∀ D, H0 D = none → ∃ W : Nat → Nat → Hp → Prop, (∃ m, W 0 m (upd H0 D (.lst []))) ∧ ∀ i m H, W i m H →
   ((GL X.K p).stop i H ∧ Q (.ref D) H) ∨ ((GL X.K p).go i H ∧ ∀ x H', (GL X.K p).xr i H x H' → ∃ vs, ow x H' vs ∧ liftT X.K X.mg (u9 EE σ) tt (vs.map some ++ mask ks σ) H' fun b H2 => if b = true then dB X.K X.mg (u9 EE σ) te (vs.map some ++ mask ks σ) H2 fun v H3 => ∃ ys, H3 D = some (.lst ys) ∧ ys.length < sizeLine ∧ ∃ m', m' < m ∧ W (i + 1) m' (upd H3 D (.lst (ys ++ [v]))) else ∃ m', m' < m ∧ W (i + 1) m' H2) := by
 intro D hD
 have f0 : eX X.K H0 (upd H0 D (.lst [])) ρ0 (ρ0 ++ [D]) := (kW hD ρ0).trans (jF ρ0 D)
 have K1 : Ab X.K X.mg σ (upd H0 D (.lst [])) τ (ρ0 ++ [D]) (G0 ++ [.lst []]) := ab.fut f0 (ab.hp.more hD .nil)
 have hn0 : (ρ0 ++ [D])[G0.length]? = some D := by rw [← ab.hp.hl, bw]
 refine ⟨fun i m H => ∃ ρ G, Ab X.K X.mg σ H τ ρ G ∧ eX X.K H0 H ρ0 ρ ∧ ρ[G0.length]? = some D ∧ mw X.K X.mg EE H σ τ ρ (uh gO ks tt te G0.length k m i τ G) Q,
  ⟨fuel, ρ0 ++ [D], _, K1, f0, hn0, ok.fut f0⟩, ?_⟩
 rintro i m H ⟨ρ, G, ab, f, hn, ok⟩
 cases m with
 | zero => exact ok.elim
 | succ m =>
  unfold uh at ok
  cases q : G[k]? with
  | none => rw [q] at ok; exact ok.elim
  | some o =>
   cases o with
   | dead => first | (rw [q] at ok; exact ok.elim) | (rw [q] at aI; exact aI.elim) | (rw [q3] at hW; exact hW.elim) | (rw [q] at e; cases e; done) | (rw [g] at ok; exact ok.elim) | (rw [g] at q; cases q; done) | (rw [g] at h; cases h; done) | exact ok.elim
   | dct kv => first | (rw [q] at ok; exact ok.elim) | (rw [q] at aI; exact aI.elim) | (rw [q3] at hW; exact hW.elim) | (rw [q] at e; cases e; done) | (rw [g] at ok; exact ok.elim) | (rw [g] at q; cases q; done) | (rw [g] at h; cases h; done) | exact ok.elim
   | tab y0 => first | (rw [q] at ok; exact ok.elim) | (rw [q] at aI; exact aI.elim) | (rw [q3] at hW; exact hW.elim) | (rw [q] at e; cases e; done) | (rw [g] at ok; exact ok.elim) | (rw [g] at q; cases q; done) | (rw [g] at h; cases h; done) | exact ok.elim
   | lst ds =>
    rw [q] at ok
    dsimp only at ok
    obtain ⟨p', xs, e1, e2, rs⟩ := ab.hp.lst q
    rw [f.get hk] at e1; cases e1
    cases qd : ds[i]? with
    | none =>
     rw [qd] at ok
     have hl : xs.length ≤ i := by rw [← rs.length]; exact List.getElem?_eq_none_iff.mp qd
     exact .inl ⟨⟨xs, .of e2, hl⟩, ok _ H ρ .refl ab (by unfold Rep; exact ⟨D, rfl, hn⟩)⟩
    | some d =>
     rw [qd] at ok
     dsimp only at ok
     obtain ⟨x0, ex, rx⟩ := rs.get qd
     refine .inr ⟨⟨xs, x0, .of e2, ex⟩, fun x H' y => ?_⟩
     obtain ⟨rfl, y⟩ := y
     have e3 := y xs (.of e2)
     rw [ex] at e3; cases e3
     refine tQ hO (W := fun H3 => ∃ m', m' < m + 1 ∧ ∃ ρ G, Ab X.K X.mg σ H3 τ ρ G ∧ eX X.K H0 H3 ρ0 ρ ∧ ρ[G0.length]? = some D ∧ mw X.K X.mg EE H3 σ τ ρ (uh gO ks tt te G0.length k m' (i + 1) τ G) Q)
       ab rx hn ?_
     cases e : cH gO ks tt te G0.length d τ G with
     | stuck => rw [e] at ok; exact ok
     | dz c G' => rw [e] at ok; exact ok
     | ok _ G' =>
      rw [e] at ok
      exact fun H3 ρ3 f3 zK => ⟨m, Nat.lt_succ_self _, ρ3, G', zK, f.trans f3, f3.get hn, ok.fut f3⟩
variable {scope : Scope} {elt iter a b : Expr} {ifs : List Expr} {px pos : Pos} {m : DS → M D}
theorem xJ (hO : om X.K X.mg ow gO) {σ : L2.St} {H : Hp} {Q : VK} (h : dB X.K X.mg EE (je gO ks m tt te) σ H Q) :
  zV (fun σ H R => dB X.K X.mg EE m σ H fun x H1 => (∃ p, x = .ref p ∧ (∃ xs, qx X.K H1 p xs) ∧ R (GL X.K p) H1) ∨ (∃ p, x = .ref p ∧ (∃ xs, pQ X.K H1 p xs) ∧ R (Oi X.K p) H1) ∨ ∃ z, x = .str z ∧ R (HL z) H1) ks ow (liftT X.K X.mg (u9 EE σ) tt) (dB X.K X.mg (u9 EE σ) te) σ H Q := by
 obtain ⟨τ, ρ, G, ab, ok⟩ := tH (k := fun τ d G => match d with
  | .obj k => match G[k]? with
   | some (.lst xs) => uh gO ks tt te G.length k (xs.length + 1) 0 τ (G ++ [.lst []])
   | _ => .stuck
  | .tup xs => cE gO ks tt te G.length xs τ (G ++ [.lst []])
  | .con xs => cE gO ks tt te G.length xs τ (G ++ [.lst []])
  | .str z => cE gO ks tt te G.length (z.cps.toList.map fun c => .str ⟨#[c]⟩) τ (G ++ [.lst []])
  | _ => .stuck) h
 refine ⟨τ, ρ, G, ab, ?_⟩
 cases e : m τ G with
 | stuck => rw [e] at ok; exact ok
 | dz c G' => rw [e] at ok; exact ok
 | ok d G' =>
  rw [e] at ok
  intro v H1 ρ1 f1 rO r1
  obtain ⟨τ2, ρ2, G2, d2, eu, r2, aI⟩ := ok v H1 ρ1 f1 rO r1
  cases d2 <;> try exact aI.elim
  case obj n =>
   dsimp only at aI
   unfold Rep at r2
   obtain ⟨p, rfl, e1⟩ := r2
   cases q : G2[n]? with
   | none => rw [q] at aI; exact aI.elim
   | some o =>
    cases o with
    | dead => first | (rw [q] at ok; exact ok.elim) | (rw [q] at aI; exact aI.elim) | (rw [q3] at hW; exact hW.elim) | (rw [q] at e; cases e; done) | (rw [g] at ok; exact ok.elim) | (rw [g] at q; cases q; done) | (rw [g] at h; cases h; done) | exact ok.elim
    | dct kv => first | (rw [q] at ok; exact ok.elim) | (rw [q] at aI; exact aI.elim) | (rw [q3] at hW; exact hW.elim) | (rw [q] at e; cases e; done) | (rw [g] at ok; exact ok.elim) | (rw [g] at q; cases q; done) | (rw [g] at h; cases h; done) | exact ok.elim
    | tab y0 => first | (rw [q] at ok; exact ok.elim) | (rw [q] at aI; exact aI.elim) | (rw [q3] at hW; exact hW.elim) | (rw [q] at e; cases e; done) | (rw [g] at ok; exact ok.elim) | (rw [g] at q; cases q; done) | (rw [g] at h; cases h; done) | exact ok.elim
    | lst xs =>
     rw [q] at aI
     obtain ⟨p', vs, e2, h2, rs⟩ := eu.hp.lst q
     rw [e1] at e2; cases e2
     exact .inl ⟨p, rfl, ⟨vs, .of h2⟩, EY hO e1 eu aI⟩
  case tup xs =>
   unfold Rep at r2
   obtain ⟨p, vs, rfl, sq, rs⟩ := r2
   refine .inr (.inl ⟨p, rfl, ⟨vs, sq⟩, m7 hO xs (fun i H' ρ' hi f => ?_) (fun i H' ρ' hi f => ?_) (fun i d' H' ρ' x MF hd f y => ?_) eu aI⟩)
   ·rw [rs.length] at hi
    exact ⟨vs, vs[i], f.tup _ _ sq, List.getElem?_eq_getElem hi⟩
   ·exact ⟨vs, f.tup _ _ sq, by rw [← rs.length]; exact hi⟩
   ·obtain ⟨rfl, y⟩ := y
    obtain ⟨w', ew, rw'⟩ := rs.get hd
    have := y vs (f.tup _ _ sq)
    rw [ew] at this; cases this
    exact ⟨.refl, rw'.mono f⟩
  case con xs =>
   unfold Rep at r2
   obtain ⟨p, vs, rfl, sq, rs⟩ := r2
   refine .inl ⟨p, rfl, ⟨vs, sq.seq⟩, m7 hO xs (fun i H' ρ' hi f => ?_) (fun i H' ρ' hi f => ?_) (fun i d' H' ρ' x MF hd f y => ?_) eu aI⟩
   ·rw [rs.length] at hi
    exact ⟨vs, vs[i], (f.con _ _ sq).seq, List.getElem?_eq_getElem hi⟩
   ·exact ⟨vs, (f.con _ _ sq).seq, by rw [← rs.length]; exact hi⟩
   ·obtain ⟨rfl, y⟩ := y
    obtain ⟨w', ew, rw'⟩ := rs.get hd
    have := y vs (f.con _ _ sq).seq
    rw [ew] at this; cases this
    exact ⟨.refl, rw'.mono f⟩
  case str z =>
   unfold Rep at r2; subst r2
   refine .inr (.inr ⟨z, rfl, m7 hO (z.cps.toList.map fun c => .str ⟨#[c]⟩) (fun i H' ρ' hi f => ?_) (fun i H' ρ' hi f => ?_) (fun i d' H' ρ' x MF hd f y => ?_) eu aI⟩)
   ·simpa [HL] using hi
   ·simpa [HL] using hi
   ·obtain ⟨rfl, c, hc, rfl⟩ := y
    rw [List.getElem?_map] at hd
    have : z.cps.toList[i]? = some c := by simpa using hc
    rw [this] at hd
    cases hd
    exact ⟨.refl, by unfold Rep; rfl⟩
noncomputable def um (X : Cx) (scope : Scope) (xs : List Str) (ifs : List Expr) (elt : Expr) (tt : DS → M Bool) (te : DS → M D) : Prop :=
 ∀ (cl : List (Str × Addr)) (C : Addr) (pins : List (Addr × Obj)) (s0 : Shared) (H0 : Hp) (fp : List Addr) (E : Value → Shared → Prop) (EE : fC), kP (u7 X scope cl xs C pins s0 H0 fp E) EE → CT (u7 X scope cl xs C pins s0 H0 fp E) ifs (liftT X.K X.mg EE tt) ∧ QE (u7 X scope cl xs C pins s0 H0 fp E) EE elt te
noncomputable def gS : DS → M Bool := fun _ => M.ret true
theorem iz (h : ∀ (cl : List (Str × Addr)) (C : Addr) (pins : List (Addr × Obj)) (s0 : Shared) (H0 : Hp) (fp : List Addr) (E : Value → Shared → Prop) (EE : fC), kP (u7 X scope cl xs C pins s0 H0 fp E) EE → QE (u7 X scope cl xs C pins s0 H0 fp E) EE elt te) : um X scope xs [] elt gS te :=
 fun cl C pins s0 H0 fp E EE hx => ⟨fun jV s σ H Q I ⟨τ, ρ, G, ab, ok⟩ => KW jV s σ H Q I (ok H ρ .refl ab), h cl C pins s0 H0 fp E EE hx⟩
noncomputable def fV (X : Cx) : Prop := ∃ jD jP L, X.stack = jD :: jP ∧ X.env.frame = jD.frame ∧ jD.frame = some L
theorem HV (hx : kP X EE) (hst : fV X) (S : cj X.env.scope X.N scope xs ks) (how : Own X scope xs ks tg ow) (hO : om X.K X.mg ow gO) (hc : X.calm = true) (ha : QE X EE iter m) (hb : um X scope xs ifs elt tt te) (hs : ∀ x, foldedSetIterable iter X.env x = pure x := by intro _; rfl) :
  QE X EE (.ListComp elt [⟨tg, iter, ifs, 0⟩] scope pos) (je gO ks m tt te) := PE.mono (Cc (tt := fun σ => liftT X.K X.mg (u9 EE σ) tt) (te := fun σ => dB X.K X.mg (u9 EE σ) te) hx hst S how hc (PI.any ha) (fun σ cl C pins s0 H0 fp E => hb cl C pins s0 H0 fp E _) hs) fun _ _ _ h => xJ hO h
theorem HW {y : Str} {i : Nat} {py spos : Pos} (hx : kP X EE) (hst : fV X) (S : cj X.env.scope X.N scope xs ks) (how : Own X scope xs ks tg ow) (hO : om X.K X.mg ow gO) (hc : X.calm = true) (hN : X.N.Nodup) (ha : QE X EE iter m) (hb : um X scope xs ifs elt tt te) (hy : X.N[i]? = some y := by rfl) (hl : X.env.scope.names.lookup y = some .local := by rfl)
  (hsw : swapsWith (.ListComp elt [⟨tg, iter, ifs, 0⟩] scope pos) (some (.Name y py)) spos.line X.env = pure true := by rfl) (hs : ∀ x, foldedSetIterable iter X.env x = pure x := by intro _; rfl) :
  QS X EE (.Assign [.Name y py] (.ListComp elt [⟨tg, iter, ifs, 0⟩] scope pos) spos) (br i (je gO ks m tt te)) := PS.mono (Cd (tt := fun σ => liftT X.K X.mg (u9 EE σ) tt) (te := fun σ => dB X.K X.mg (u9 EE σ) te) hx hst S how hc hN (PI.any ha) hy hl hsw (fun σ cl C pins s0 H0 fp E => hb cl C pins s0 H0 fp E _) hs) fun Dd σ H h => by
 obtain ⟨τ, ρ, G, ab, ok⟩ := h
 refine xJ hO (EE := EE) (Q := fun v H1 => xq i v σ H1 Dd.nx) ⟨τ, ρ, G, ab, ?_⟩
 dsimp only [br, cT] at ok
 cases e : je gO ks m tt te τ G with
 | stuck => rw [e] at ok; exact ok
 | dz c G' => rw [e] at ok; exact fun H' ρ' f cB => ok σ H' ρ' f cB
 | ok d G' => rw [e] at ok; exact fun v H' ρ' f cB r => ok _ H' ρ' f (cB.set r)
theorem EZ (hO : om X.K X.mg ow gO) {Q : VK} {H0 : Hp} {σ : L2.St} {ρ0 : List Addr} {G0 : DH} {τ : DS} (lo : Int) (n : Nat) (ab : Ab X.K X.mg σ H0 τ ρ0 G0)
  (ok : mw X.K X.mg EE H0 σ τ ρ0 (cE gO ks tt te G0.length ((List.range n).map fun (k : Nat) => .int (lo + (k : Int))) τ (G0 ++ [.lst []])) Q) :
  ∀ D, H0 D = none → ∃ W : Nat → Nat → Hp → Prop, (∃ m, W 0 m (upd H0 D (.lst []))) ∧ ∀ i m H, W i m H →
   ((yl lo n).stop i H ∧ Q (.ref D) H) ∨ ((yl lo n).go i H ∧ ∀ x H', (yl lo n).xr i H x H' → ∃ vs, ow x H' vs ∧ liftT X.K X.mg (u9 EE σ) tt (vs.map some ++ mask ks σ) H' fun b H2 => if b = true then dB X.K X.mg (u9 EE σ) te (vs.map some ++ mask ks σ) H2 fun v H3 => ∃ ys, H3 D = some (.lst ys) ∧ ys.length < sizeLine ∧ ∃ m', m' < m ∧ W (i + 1) m' (upd H3 D (.lst (ys ++ [v]))) else ∃ m', m' < m ∧ W (i + 1) m' H2) :=
 m7 hO (J := yl lo n) _ (fun i H ρ hi f => by simpa [yl] using hi) (fun i H ρ hi f => by simpa [yl] using hi) (fun i d H ρ x H' hd f y => by
  obtain ⟨rfl, rfl⟩ := y
  rw [List.getElem?_map] at hd
  cases q : (List.range n)[i]? with
  | none => rw [q] at hd; cases hd
  | some k =>
   rw [q] at hd
   obtain ⟨hk, e⟩ := List.getElem?_eq_some_iff.mp q
   rw [List.getElem_range] at e
   subst e
   cases hd
   exact ⟨.refl, by unfold Rep; rfl⟩) ab ok
variable {ma : DS → M (List D)}
theorem zX (hO : om X.K X.mg ow gO) {σ : L2.St} {H : Hp} {Q : VK} (h : dB X.K X.mg EE (qF ko gO ks ma tt te) σ H Q) : zV (Ja (ue X.K X.mg EE ma)) ks ow (liftT X.K X.mg (u9 EE σ) tt) (dB X.K X.mg (u9 EE σ) te) σ H Q := by
 obtain ⟨τ, ρ, G, ab, ok⟩ := tK (k := fun τ ds G => match ko ds with | some xs => cE gO ks tt te G.length xs τ (G ++ [.lst []]) | none => .stuck) h
 refine ⟨τ, ρ, G, ab, ?_⟩
 cases e : ma τ G with
 | stuck => rw [e] at ok; exact ok
 | dz c G' => rw [e] at ok; exact ok
 | ok ds G' =>
  rw [e] at ok
  intro vs H1 ρ1 f1 rO r1
  obtain ⟨τ2, ρ2, G2, d2, eu, r2, aI⟩ := ok vs H1 ρ1 f1 rO r1
  cases q : ko d2 with
  | none => rw [q] at aI; exact aI.elim
  | some xs =>
   rw [q] at aI
   unfold ko at q
   split at q
   ·rename_i j
    split at q
    ·rename_i hj
     cases q
     obtain ⟨v, rfl, h1⟩ := oh r2
     unfold Rep at h1; subst h1
     exact ⟨j, rfl, hj.1, hj.2, EZ hO 0 j.toNat eu aI⟩
    ·cases q
   ·cases q
theorem E0 {me : DS → M D} {t : TE} {i : Nat} (hl : ∀ σ H Q, dB X.K X.mg EE me σ H Q → t σ H Q) {Dd : Ends} {σ : L2.St} {H : Hp} (h : iK X.K X.mg EE (br i me) Dd σ H) : G6 t (xq i) Dd σ H := by
 obtain ⟨τ, ρ, G, ab, ok⟩ := h
 refine hl σ H (fun v H1 => xq i v σ H1 Dd.nx) ⟨τ, ρ, G, ab, ?_⟩
 dsimp only [br, cT] at ok
 cases e : me τ G with
 | stuck => rw [e] at ok; exact ok
 | dz c G' => rw [e] at ok; exact fun H' ρ' f cB => ok σ H' ρ' f cB
 | ok d G' => rw [e] at ok; exact fun v H' ρ' f cB r => ok _ H' ρ' f (cB.set r)
theorem Dp {y : Str} {i : Nat} {py spos p pc : Pos} (hx : kP X EE) (hst : fV X) (S : cj X.env.scope X.N scope xs ks) (how : Own X scope xs ks tg ow) (hO : om X.K X.mg ow gO) (hc : X.calm = true) (hN : X.N.Nodup) (hm : X.mg "range" = none) (ha : QA X EE [a] ma) (hb : um X scope xs ifs elt tt te) (hy : X.N[i]? = some y := by rfl) (hl : X.env.scope.names.lookup y = some .local := by rfl)
  (EO : Gl X "range" := by rfl) (PR : starEach [a] X.env = [(false, eval a X.env)] := by rfl)
  (hsw : swapsWith (.ListComp elt [⟨tg, .Call (.Name "range" p) [a] [] pc, ifs, 0⟩] scope pos) (some (.Name y py)) spos.line X.env = pure true := by rfl) (hs : ∀ x, foldedSetIterable (.Call (.Name "range" p) [a] [] pc) X.env x = pure x := by intro _; rfl) :
  QS X EE (.Assign [.Name y py] (.ListComp elt [⟨tg, .Call (.Name "range" p) [a] [] pc, ifs, 0⟩] scope pos) spos) (br i (qF ko gO ks ma tt te)) :=
 PS.mono (Cd (tt := fun σ => liftT X.K X.mg (u9 EE σ) tt) (te := fun σ => dB X.K X.mg (u9 EE σ) te) hx hst S how hc hN (xu EO hm ha PR) hy hl hsw (fun σ cl C pins s0 H0 fp E => hb cl C pins s0 H0 fp E _) hs) fun _ _ _ h => E0 (fun _ _ _ h => zX hO h) h
end
end L3
end
section
set_option Elab.async false
set_option linter.all false
set_option maxRecDepth 100000
namespace L3
open PySem PySem.Spec L2
theorem cV {k : Nat} {A : Around} (r : gm k A) : A.units + 600 < cLine := by have := r.un; omega
theorem MZ {X : Cx} {EE : fC} {x : Str} {f : Addr} {pos : Pos} (hm : X.mg x = some (.ref f)) (hg : Gl X x := by rfl) (hd : (x == ("__debug__" : Str)) = false := by decide) : QE X EE (.Name x pos) (eC (.fn x)) :=
 EA (BZ hg hm (v := .ref f) rfl hd) fun _ _ => by unfold Rep; exact ⟨f, rfl, hm⟩
end L3
end
section
set_option Elab.async false
set_option linter.all false
set_option maxRecDepth 100000
namespace L3
open PySem PySem.Spec L2
noncomputable def fJ : Expr → Bool
 | .Starred .. => false
 | _ => true
noncomputable def plainT : Expr → Bool
 | .UnaryOp .Not _ _ => false
 | .BoolOp .. => false
 | .IfExp .. => false
 | .Compare .. => false
 | _ => true
noncomputable def oq : Expr → Bool
 | .Set .. => false
 | _ => true
noncomputable def yC : Expr → Bool
 | .ListComp .. => false
 | .SetComp .. => false
 | .DictComp .. => false
 | _ => true
noncomputable def yD : Expr → Bool
 | .Call (.Name _ _) [] [] _ => false
 | _ => true
noncomputable def Ce : Expr → Bool
 | .Slice .. => false
 | _ => true
noncomputable def aL : List Expr → Bool
 | [] => true
 | e :: es => fJ e && aL es
theorem cW {e : Expr} (h : fJ e = true) (es : List Expr) (env : Env) : starEach (e :: es) env = (false, eval e env) :: starEach es env := by
 cases e <;> first | rfl | cases h
theorem Dq {e : Expr} (h : plainT e = true) (env : Env) (whole : Sem Value) : isTrue e env whole = (do let v ← whole; standAt e.pos; holding [v] (truthy v)) := by
 cases e <;> first | rfl | cases h | (rename_i op _ _; cases op <;> first | rfl | cases h)
theorem m8 {e : Expr} (h : oq e = true) (env : Env) (x : Value) : foldedSetIterable e env x = pure x := by
 cases e <;> first | rfl | cases h
theorem yE {e : Expr} (h : yC e = true) (t : Option Expr) (l : Nat) (env : Env) : swapsWith e t l env = pure false := by
 cases e <;> first | rfl | cases h
theorem kZ {e : Expr} (h : yD e = true) (n : Str) (env : Env) : attributeBase e n env (eval e env) = eval e env := by
 unfold attributeBase
 split
 ·cases h
 ·rfl
theorem M0 {e : Expr} (h : Ce e = true) : uX e := fun o i => by
 cases e <;> first | rfl | cases h
theorem HX {e : Expr} (h : oq e = true) (op : CmpOp) : behindInMarks op e = false := by
 cases e <;> first | rfl | cases h
theorem dI {env : Env} {pos : Pos} : ∀ {es : List Expr}, aL es = true → (backTo pos (starEach es env)).any (·.1) = false
 | [], _ => rfl
 | e :: es, h => by
  have h' : fJ e = true ∧ aL es = true := by simpa [aL] using h
  rw [cW h'.1]
  have ih := dI (env := env) (pos := pos) h'.2
  show (false || (backTo pos (starEach es env)).any (·.1)) = false
  rw [ih]; rfl
theorem xK {env : Env} {pos : Pos} : ∀ {es : List Expr}, aL es = true → (backTo pos (starEach es env)).all (fun x => !x.1) = true
 | [], _ => rfl
 | e :: es, h => by
  have h' : fJ e = true ∧ aL es = true := by simpa [aL] using h
  rw [cW h'.1]
  have ih := xK (env := env) (pos := pos) h'.2
  show (!false && (backTo pos (starEach es env)).all (fun x => !x.1)) = true
  rw [ih]; rfl
theorem E5 {env : Env} {pos : Pos} {es : List Expr} (h : aL es = true) (hl : es.length < 30) : ((backTo pos (starEach es env)).all (fun x => !x.1) && (backToKw pos (keywordEach [] env)).all (fun x => x.1.isSome)
   && decide (es.length + ([] : List Keyword).length + (if ([] : List Keyword).isEmpty then 0 else 1) < 30)) = true := by
 rw [xK h]
 simp only [Bool.true_and, Bool.and_eq_true, decide_eq_true_eq]
 exact ⟨rfl, by simpa using hl⟩
section
variable {X : Cx} {EE : fC} {a b c e o : Expr} {es : List Expr} {ma mb mc me mo : DS → M D} {pos p apos cpos : Pos} {m : DS → M (List D)} {ms mt : MS} {x : Str} {ks : List Bool} {tt : DS → M Bool} {te : DS → M D}
theorem yF {m : DS → M D} {r : DS → M (List D)} (ha : QE X EE e m) (hr : QA X EE es r) (h : fJ e = true := by rfl) : QA X EE (e :: es) (af m r) := HB ha hr (cW h _ _)
theorem ah (i : Nat) (hv : IZ X.env.scope x) (hd : (x == ("__debug__" : Str)) = false ∧ (x == ("__classdict__" : Str)) = false) (hN : X.N[i]? = some x := by rfl) : QE X EE (.Name x pos) (ai i) := Kz i hN hv hd.1 hd.2
theorem HY {d : D} (h : EC X.K X.mg x d) (hg : Gl X x) (hd : (x == ("__debug__" : Str)) = false ∧ (x == ("__classdict__" : Str)) = false) : QE X EE (.Name x pos) (eC d) := Hz h hg hd.1
theorem E6 {f : Addr} (hm : X.mg x = some (.ref f)) (hg : Gl X x) (hd : (x == ("__debug__" : Str)) = false ∧ (x == ("__classdict__" : Str)) = false) : QE X EE (.Name x pos) (eC (.fn x)) := MZ hm hg hd.1
theorem aF (ha : QE X EE a ma) (hb : QE X EE b mb) (h : Ce b = true := by rfl) : QE X EE (.Subscript a b pos) (aM ia ma mb) := EG ha hb (M0 h)
theorem cQ {op : CmpOp} {f : D → D → M D} (ho : qy X (compareOp op) (rD X EE f)) (ha : QE X EE a ma) (hb : QE X EE b mb) (h : oq b = true := by rfl) : QT X EE (.Compare a [op] [b] pos) (lO (aM f ma mb)) := KI ho ha hb (HX h _)
theorem E7 (ha : QE X EE a ma) (h : plainT a = true := by rfl) : QT X EE a (qC tM ma) := KC ha (Dq h _)
theorem vJ {id : String} {f : List D → M D} (hc : jC X (.builtin id) (Je X EE f)) (hm : X.mg x = none) (hg : Gl X x) (hv : bootBuiltins x = some (.builtin id)) (ha : QA X EE (e :: es) m) (hn : x ≠ "__name__" := by decide) (hdb : (x == ("__debug__" : Str)) = false := by decide) (h : aL (e :: es) = true := by rfl) :
  QE X EE (.Call (.Name x p) (e :: es) [] pos) (av f m) := by
 have h' : fJ e = true ∧ aL es = true := by simpa [aL] using h
 exact ED hc vD hm ha hg hv hn hdb (cW h'.1 _ _) (dI h'.2)
theorem xM {id : String} {f : List D → M D} (hc : jC X (.type id) (Je X EE f)) (hm : X.mg x = none) (hg : Gl X x) (hv : bootBuiltins x = some (.type id)) (ha : QA X EE (e :: es) m) (hn : x ≠ "__name__" := by decide) (hdb : (x == ("__debug__" : Str)) = false := by decide) (h : aL (e :: es) = true := by rfl) :
  QE X EE (.Call (.Name x p) (e :: es) [] pos) (av f m) := by
 have h' : fJ e = true ∧ aL es = true := by simpa [aL] using h
 exact C9 hc vD hm ha hg hv hn hdb (cW h'.1 _ _) (dI h'.2)
theorem kr (hm : X.mg "len" = none) (hg : Gl X "len") (ha : QA X EE [e] m) (h : aL [e] = true := by rfl) : QE X EE (.Call (.Name "len" p) [e] [] pos) (av kq m) := vJ De hm hg PySem.boot_len ha (by decide) (by decide) h
theorem HZ (hc : X.calm = true) (hm : X.mg "min" = none) (hg : Gl X "min") (ha : QA X EE [e, a] m) (h : aL [e, a] = true := by rfl) : QE X EE (.Call (.Name "min" p) [e, a] [] pos) (av (oi fun i j => if j < i then j else i) m) := vJ (Dg hc) hm hg PyProof.Rows.boot_min ha (by decide) (by decide) h
theorem E8 (c : Ty) {pt : Pos} (hc : c ≠ .jd) (hm : X.mg "isinstance" = none) (hmt : X.mg x = none) (hg : Gl X "isinstance") (hgt : Gl X x) (ha : QE X EE a ma) (hb : bootBuiltins x = some (.type c.nm)) (hnt : x ≠ "__name__") (hdt : (x == ("__debug__" : Str)) = false) (h : fJ a = true := by rfl) :
  QE X EE (.Call (.Name "isinstance" p) [a, .Name x pt] [] pos) (Df c ma) := KP c hc hm hmt ha hb hg hgt hnt hdt (cW h _ _) (cW rfl _ _) (dI (es := [.Name x pt]) rfl)
theorem aW {CX : uW} {k n : Nat} {f : Addr} {fd : FuncData} {ps : List Str} {mf : List D → M D} (F : bC X.prog X.w X.K X.mg X.base CX k f fd ps (aZ X.K X.mg n mf)) (hr : gm k X.A) (hm : X.mg x = some (.ref f)) (hk : PySem.W.keepIn X.K (.ref f) = true) (hb : Binds X.K fd ps []) (hx : KO CX X EE) (hg : Gl X x)
  (hd : (x == ("__debug__" : Str)) = false ∧ (x == ("__classdict__" : Str)) = false) (ha : QA X EE (e :: es) m) (h : aL (e :: es) = true := by rfl) : QE X EE (.Call (.Name x p) (e :: es) [] pos) (aH n mf m) := by
 have h' : fJ e = true ∧ aL es = true := by simpa [aL] using h
 exact HN F hr hm hk hb hx ha hg hd.1 (cW h'.1 _ _) (dI h'.2)
theorem jl (ho : QE X EE o mo) (ha : QA X EE [e] m) (hb : yD o = true := by rfl) (h : aL [e] = true := by rfl) (hline : (apos.endLine == cpos.line) = true := by rfl) : QE X EE (.Call (.Attribute o "append" apos) [e] [] cpos) (cU "list" dW mo m) := by
 have h' : fJ e = true ∧ aL [] = true := by simpa [aL] using h
 exact Dh ho ha (kZ hb _ _) (E5 h (by simp)) hline (cW h'.1 _ _) (dI (es := []) rfl)
theorem E9 (ho : QE X EE o mo) (hb : yD o = true := by rfl) (hline : (apos.endLine == cpos.line) = true := by rfl) : QE X EE (.Call (.Attribute o "pop" apos) [] [] cpos) (cU "list" uL mo aq) := KR ho (kZ hb _ _) hline
theorem jt (he : QE X EE a ma) (h : yC a = true := by rfl) : QS X EE (.Expr a pos) (kj ma) := HJ he (yE h _ _ _)
theorem aU {i : Nat} {pos' : Pos} (hN : X.N.Nodup) (hx : Loc X.env.scope x) (he : QE X EE a ma) (hf : X.fn x = true ∨ X.env.scope.names.lookup x = some .local) (hi : X.N[i]? = some x := by rfl) (h : yC a = true := by rfl) : QS X EE (.Assign [.Name x pos'] a pos) (br i ma) := KJ hN he hi hx (yE h _ _ _) hf
theorem ou {i : Expr} {mv mi : DS → M D} {tpos : Pos} (hv : QE X EE a mv) (ho : QE X EE o mo) (hi : QE X EE i mi) (h : yC a = true := by rfl)
  (KS : ∀ v, assign (.Subscript o i tpos) X.env v = (do
   let ov ← holding [v] (eval o X.env)
   let iv ← holding [v, ov] (eval i X.env)
   standAt tpos
   holding [v, ov, iv] (setItem ov iv v)
   release [v, ov, iv] []) := by intro _; rfl) : QS X EE (.Assign [.Subscript o i tpos] a pos) (jj mv mo mi) :=
 ES hv ho hi (by unfold swapsWithSole; exact yE h _ _ _) (by first | rfl | (unfold swappedStores; rfl)) rfl KS
theorem lg {i : Nat} (hN : X.N.Nodup) (hx : Loc X.env.scope x) (hf : X.fn x = true ∨ X.env.scope.names.lookup x = some .local) (hi : X.N[i]? = some x := by rfl) : QG X (.Name x pos) (gN i) := HK hN hi hx hf
theorem Bt {tg : Expr} {g : rP} {body : List Stmt} (hp : PassesOwn (model X.prog X.w) X.A X.env X.xe) (hc : X.calm = true) (ha : QE X EE a ma) (hg : QG X tg g) (hb : A1 X EE body ms) (h : oq a = true := by rfl) : QS X EE (.For tg a body [] pos) (n9 g ma ms) := KL hp hc ha hg hb (m8 h _)
theorem oz {tg : Expr} {g : rP} {body : List Stmt} {pc : Pos} (hp : PassesOwn (model X.prog X.w) X.A X.env X.xe) (hc : X.calm = true) (hm : X.mg "range" = none) (EO : Gl X "range") (ha : QA X EE [a] m) (hg : QG X tg g) (hb : A1 X EE body ms) (h : fJ a = true := by rfl) :
  QS X EE (.For tg (.Call (.Name "range" p) [a] [] pc) body [] pos) (iL ko g m ms) := EN hp hc hm ha hg hb EO (cW h _ _) (m8 rfl _)
variable {scope : Scope} {elt iter tg : Expr} {xs : List Str} {ow : V → Hp → List V → Prop} {gO : D → Option (List D)} {ifs : List Expr} {px : Pos}
theorem vc (hx : kP X EE) (hst : fV X) (S : cj X.env.scope X.N scope xs ks) (how : Own X scope xs ks tg ow) (hO : om X.K X.mg ow gO) (hc : X.calm = true) (ha : QE X EE iter ma) (hb : um X scope xs ifs elt tt te) (h : oq iter = true := by rfl) : QE X EE (.ListComp elt [⟨tg, iter, ifs, 0⟩] scope pos) (je gO ks ma tt te) := HV hx hst S how hO hc ha hb (m8 h _)
theorem H8 {y : Str} {i : Nat} {py spos : Pos} (hx : kP X EE) (hst : fV X) (S : cj X.env.scope X.N scope xs ks) (how : Own X scope xs ks tg ow) (hO : om X.K X.mg ow gO) (hc : X.calm = true) (hN : X.N.Nodup) (hl : X.env.scope.names.lookup y = some .local) (ha : QE X EE iter ma) (hb : um X scope xs ifs elt tt te) (hsw : swapsWith (.ListComp elt [⟨tg, iter, ifs, 0⟩] scope pos) (some (.Name y py)) spos.line X.env = pure true)
  (hy : X.N[i]? = some y := by rfl) (h : oq iter = true := by rfl) : QS X EE (.Assign [.Name y py] (.ListComp elt [⟨tg, iter, ifs, 0⟩] scope pos) spos) (br i (je gO ks ma tt te)) := HW hx hst S how hO hc hN ha hb hy hl hsw (m8 h _)
theorem Dr {y : Str} {i : Nat} {py spos pc : Pos} (hx : kP X EE) (hst : fV X) (S : cj X.env.scope X.N scope xs ks) (how : Own X scope xs ks tg ow) (hO : om X.K X.mg ow gO) (hc : X.calm = true) (hN : X.N.Nodup) (hl : X.env.scope.names.lookup y = some .local) (hm : X.mg "range" = none) (EO : Gl X "range") (ha : QA X EE [a] m) (hb : um X scope xs ifs elt tt te)
  (hsw : swapsWith (.ListComp elt [⟨tg, .Call (.Name "range" p) [a] [] pc, ifs, 0⟩] scope pos) (some (.Name y py)) spos.line X.env = pure true) (hy : X.N[i]? = some y := by rfl) (h : fJ a = true := by rfl) :
  QS X EE (.Assign [.Name y py] (.ListComp elt [⟨tg, .Call (.Name "range" p) [a] [] pc, ifs, 0⟩] scope pos) spos) (br i (qF ko gO ks m tt te)) := Dp hx hst S how hO hc hN hm ha hb hy hl EO (cW h _ _) hsw (m8 rfl _)
theorem xN {gens : List Comprehension} {y : Str} {py : Pos} {l : Nat} {env : Env} (hb : (env.blockKind == .function) = true) (hl : env.scope.names.lookup y = some .local) (hp : (py.line == pos.line) = true) (hq : (scope.names.any fun x => x.1 == y && (x.2 == .local || x.2 == .cell)) = false) : swapsWith (.ListComp elt gens scope pos) (some (.Name y py)) l env = pure true := by
 unfold swapsWith
 dsimp only
 show (pure (env.blockKind == .function && env.kindOf y == some .local && py.line == pos.line && !(scope.names.any fun x => x.1 == y && (x.2 == .local || x.2 == .cell))) : Sem Bool) = pure true
 have e : (env.kindOf y == some NameKind.local) = true := by rw [show env.kindOf y = some NameKind.local from hl]; rfl
 rw [hb, e, hp, hq]; rfl
theorem lQ {cl : List (Str × Addr)} {C : Addr} {pins : List (Addr × Obj)} {s0 : Shared} {H0 : Hp} {fp : List Addr} {E : Value → Shared → Prop} (S : cj X.env.scope X.N scope xs ks) (h : x ∈ xs) : IZ (u7 X scope cl xs C pins s0 H0 fp E).env.scope x := .inl (vH (cl := cl) (C := C) S h)
theorem pF {cl : List (Str × Addr)} {C : Addr} {pins : List (Addr × Obj)} {s0 : Shared} {H0 : Hp} {fp : List Addr} {E : Value → Shared → Prop} {y : Str} (S : cj X.env.scope X.N scope xs ks) (h : scope.names.lookup y = some .free) : IZ (u7 X scope cl xs C pins s0 H0 fp E).env.scope y := .inr (tP (cl := cl) (C := C) S h)
theorem vd {cl : List (Str × Addr)} {C : Addr} {pins : List (Addr × Obj)} {s0 : Shared} {H0 : Hp} {fp : List Addr} {E : Value → Shared → Prop} {y : Str} (h : scope.names.lookup y = some .globalImplicit) : Gl (u7 X scope cl xs C pins s0 H0 fp E) y := by
 show (compEnvC scope cl C X.env).kindOf y = some .globalImplicit
 have e : (compEnvC scope cl C X.env).kindOf y = (scope.names.lookup y).map (wO X.env y) := gq scope.names
 rw [e, h]; rfl
end
end L3
end
section
set_option Elab.async false
set_option linter.all false
set_option maxRecDepth 100000
namespace L3
open PySem PySem.Spec L2 Builtin Builtin.Str
section
variable {X : Cx} {EE : fC}
noncomputable def fK : List D → M D
 | [d] => fun G => match bS G d with
  | some (.lst xs) => bY xs G
  | some (.tup xs) => .ok d G
  | _ => .stuck
 | _ => M.stop
theorem Dt : jC X (.type "tuple") (Je X EE fK) := by
 intro pins s σ0 H xs us Q I r ⟨σ, τ, ρ, G, ds, ab, D7, ok⟩
 match ds, ok with
 | [], ok => exact ok.elim
 | _ :: _ :: _, ok => exact ok.elim
 | [y], ok =>
  obtain ⟨yv, rfl, ry⟩ := oh D7
  dsimp only [fK] at ok
  cases q : bS G y with
  | none => rw [q] at ok; exact ok.elim
  | some sk =>
   rw [q] at ok
   cases sk with
   | str _ => exact ok.elim
   | tup ys =>
    obtain ⟨p, vs, rfl, sq, rs⟩ := iy ry q
    exact pU pins s σ0 H _ us Q I r ⟨p, vs, rfl, .inr ⟨sq, ok _ H ρ .refl ab ry⟩⟩
   | lst ys =>
    obtain ⟨p, vs, rfl, sq, rs⟩ := d8 (pins := pins) (σ0 := σ0) (s := s) ab.hp ry q
    exact pU pins s σ0 H _ us Q I r ⟨p, vs, rfl, .inl ⟨sq, fun l hl => (yu ab rs ok).2 l hl⟩⟩
noncomputable def m9 : List D → M D
 | [d] => fun G => match bS G d with
  | some (.lst xs) => bU xs G
  | some (.tup xs) => bU xs G
  | _ => .stuck
 | _ => M.stop
theorem Du : jC X (.type "list") (Je X EE m9) := by
 intro pins s σ0 H xs us Q I r ⟨σ, τ, ρ, G, ds, ab, D7, ok⟩
 match ds, ok with
 | [], ok => exact ok.elim
 | _ :: _ :: _, ok => exact ok.elim
 | [y], ok =>
  obtain ⟨yv, rfl, ry⟩ := oh D7
  dsimp only [m9] at ok
  cases q : bS G y with
  | none => rw [q] at ok; exact ok.elim
  | some sk =>
   rw [q] at ok
   cases sk with
   | str _ => exact ok.elim
   | tup ys =>
    obtain ⟨p, vs, rfl, sq, rs⟩ := iy ry q
    exact rH pins s σ0 H _ us Q I r ⟨p, vs, rfl, .inr sq, fun l hl => (tL ab rs ok).2 l hl⟩
   | lst ys =>
    obtain ⟨p, vs, rfl, sq, rs⟩ := d8 (pins := pins) (σ0 := σ0) (s := s) ab.hp ry q
    exact rH pins s σ0 H _ us Q I r ⟨p, vs, rfl, .inl sq, fun l hl => (tL ab rs ok).2 l hl⟩
variable {x : Str} {p pos apos cpos : Pos} {e o : Expr} {es : List Expr} {m : DS → M (List D)} {mo : DS → M D}
theorem boot_tuple : bootBuiltins "tuple" = some (.type "tuple") := by decide +kernel
theorem boot_list : bootBuiltins "list" = some (.type "list") := by decide +kernel
theorem ku (hm : X.mg "tuple" = none) (hg : Gl X "tuple") (ha : QA X EE [e] m) (h : aL [e] = true := by rfl) : QE X EE (.Call (.Name "tuple" p) [e] [] pos) (av fK m) := xM Dt hm hg boot_tuple ha (by decide) (by decide) h
theorem Cf (hm : X.mg "list" = none) (hg : Gl X "list") (ha : QA X EE [e] m) (h : aL [e] = true := by rfl) : QE X EE (.Call (.Name "list" p) [e] [] pos) (av m9 m) := xM Du hm hg boot_list ha (by decide) (by decide) h
noncomputable def tR (i n : Nat) (tu : Str → Option (List D → M D)) (m : DS → M (List D)) : DS → M D := fun τ G => match τ[i]? with
 | some (some (.fn y)) => match tu y with
  | some mf => aH n mf m τ G
  | none => .stuck
 | _ => .stuck
theorem zY {CX : uW} {i n : Nat} {tu : Str → Option (List D → M D)} (hN : X.N[i]? = some x) (hv : IZ X.env.scope x) (hd : (x == ("__debug__" : Str)) = false ∧ (x == ("__classdict__" : Str)) = false)
  (hF : ∀ y mf, tu y = some mf → ∃ k f fd ps, bC X.prog X.w X.K X.mg X.base CX k f fd ps (aZ X.K X.mg n mf) ∧ gm k X.A ∧ X.mg y = some (.ref f) ∧ PySem.W.keepIn X.K (.ref f) = true ∧ Binds X.K fd ps []) (hx : KO CX X EE)
  (ha : QA X EE (e :: es) m) (h : aL (e :: es) = true := by rfl) : QE X EE (.Call (.Name x p) (e :: es) [] pos) (tR i n tu m) := by
 have h' : fJ e = true ∧ aL es = true := by simpa [aL] using h
 intro pins s σ H Q I hq
 obtain ⟨τ, ρ, G, ab, ok⟩ := hq
 unfold tR at ok
 cases q : τ[i]? with
 | none => rw [q] at ok; exact ok.elim
 | some od =>
  cases od with
  | none => rw [q] at ok; exact ok.elim
  | some d =>
   rw [q] at ok
   cases d <;> try exact ok.elim
   rename_i y
   dsimp only at ok
   cases qt : tu y with
   | none => rw [qt] at ok; exact ok.elim
   | some mf =>
    rw [qt] at ok
    obtain ⟨k, f, fd, ps, F, hr, hm, hk, hb⟩ := hF y mf qt
    obtain ⟨v, ev, rv⟩ := ab.st.2 i (.fn y) q
    unfold Rep at rv
    obtain ⟨a, rfl, ha'⟩ := rv
    rw [hm] at ha'
    cases ha'
    obtain ⟨τ1, ρ1, G1, rO, GO⟩ := tK (k := fun _ ds => if ds.length = n then mf ds else M.stop) ⟨τ, ρ, G, ab, ok⟩
    refine wpAny_Call_Name_kw (wpAny_mono (A6 hN hv hd.1 hd.2 pins s σ H (fun v' H' => v' = .ref f ∧ H' = H) I ⟨_, ev, rfl, rfl⟩) (fun u s0 hu => ?_) fun _ _ z => z)
    obtain ⟨v', H', I0, r0, rfl, rfl⟩ := hu
    cases r0
    refine PySem.W.callWith_K (h₀ := X.base) I0.ok.mod.IY hk (gX (ha pos pins s0 σ H' _ I0 ⟨τ1, ρ1, G1, rO, GO⟩) fun us s1 ⟨vs, H1, I1, r, q⟩ => ⟨I1.BX, ?_⟩) (cW h'.1 _ _) (dI h'.2)
    obtain ⟨τ2, ρ2, G2, ds, eu, rs, aI⟩ := q
    by_cases hn : ds.length = n
    ·rw [if_pos hn] at aI
     exact B9 F hr hb hx I1 r eu rs hn aI
    ·rw [if_neg hn] at aI
     exact aI.elim
end
end L3
end
section
set_option Elab.async false
set_option linter.all false
set_option maxRecDepth 100000
namespace L3
open PySem PySem.Spec L2 Builtin Builtin.Str
section
variable {X : Cx} {EE : fC}
variable {o : Expr} {mo : DS → M D} {y z : Str} {j1 j2 : Nat} {p1 p2 apos cpos : Pos}
end
section
end
section
variable {X : Cx} {EE : fC}
variable {p pos apos cpos : Pos} {e o : Expr} {es : List Expr} {m : DS → M (List D)} {mo : DS → M D}
end
end L3
end
section
set_option Elab.async false
set_option linter.all false
set_option maxRecDepth 100000
namespace L3
open PySem PySem.Spec L2
noncomputable def M3 (CX : uW) (X : Cx) (n : Nat) : List (Str × (List D → M D)) → Prop
 | [] => True
 | q :: r => (∃ k f fd ps, bC X.prog X.w X.K X.mg X.base CX k f fd ps (aZ X.K X.mg n q.2) ∧ gm k X.A ∧ X.mg q.1 = some (.ref f) ∧ PySem.W.keepIn X.K (.ref f) = true ∧ Binds X.K fd ps []) ∧ M3 CX X n r
theorem K2 {CX : uW} {X : Cx} {n : Nat} : ∀ {l : List (Str × (List D → M D))}, M3 CX X n l → ∀ (y : Str) (mf : List D → M D), l.lookup y = some mf → ∃ k f fd ps, bC X.prog X.w X.K X.mg X.base CX k f fd ps (aZ X.K X.mg n mf) ∧ gm k X.A ∧ X.mg y = some (.ref f) ∧ PySem.W.keepIn X.K (.ref f) = true ∧ Binds X.K fd ps []
 | [], _, _, _, h => nomatch h
 | q :: r, ⟨h1, hr⟩, y, mf, h => by
  obtain ⟨qn, qm⟩ := q
  rw [List.lookup_cons] at h
  cases e : y == qn with
  | true =>
   rw [e] at h
   cases h
   have := eq_of_beq e
   subst this
   exact h1
  | false => rw [e] at h; exact K2 hr y mf h
end L3
namespace L3
open PySem PySem.Spec L2
theorem aA {X : Cx} {EE : fC} {e : Expr} {es : List Expr} {m : DS → M D} {r : DS → M (List D)} (ha : QE X EE e m) (h : fJ e = true) (hr : QA X EE es r) : QA X EE (e :: es) (af m r) := yF ha hr h
theorem fB {X : Cx} {EE : fC} {x : Str} {j : Nat} {pos : Pos} {es : List Expr} {r : DS → M (List D)} (hr : QA X EE es r) : QA X EE (.Constant (.str x) j pos :: es) (af (eC (.str x)) r) := yF n6 hr rfl
theorem Ia {X : Cx} {EE : fC} {x : Int} {j : Nat} {pos : Pos} {es : List Expr} {r : DS → M (List D)} (hr : QA X EE es r) : QA X EE (.Constant (.int x) j pos :: es) (af (eC (.int x)) r) := yF au hr rfl
end L3
end
section
set_option Elab.async false
set_option linter.all false
set_option maxRecDepth 100000
namespace L3
open PySem PySem.Spec L2
theorem Bu : typeLookup (.type "list_reverseiterator") (Str.ofString "__len__") = (pure none : Sem (Option Value)) := by
 rw [typeLookup_type, builtinLookup_eq_fast]; rfl
theorem Fb : typeLookup (.type "list_reverseiterator") (Str.ofString "__length_hint__") = (pure (some (.builtin "list_reverseiterator.__length_hint__")) : Sem (Option Value)) := by
 rw [typeLookup_type, builtinLookup_eq_fast]; rfl
theorem Fc : isSubtype (.type "list_reverseiterator") (.type "list_reverseiterator") = (pure true : Sem Bool) := by
 rw [isSubtype_type]; rfl
theorem Fd {M : Model} {A : Around} {E : Value → Shared → Prop} {s : Shared} {it l : Addr} {i : Int} {Q : Bool → Shared → Prop} (hr : s.heap.IsRevIter it l i) (h : Q false s) : wpAny M A (Builtin.List.listLengthHint (.ref it)) Q E s := by
 have ty : s.TypeIs (.ref it) "list_reverseiterator" := by
  obtain ⟨o, e, c, _⟩ := hr
  exact ⟨o, e, c⟩
 unfold Builtin.List.listLengthHint
 refine wpAny_bind (wpAny_specialOf ty Bu ?_)
 refine wpAny_bind (wpAny_specialOf ty Fb ?_)
 have e1 : splitId "list_reverseiterator.__length_hint__" = some ("list_reverseiterator", "__length_hint__") := by decide +kernel
 dsimp only
 rw [e1]
 dsimp only
 refine wpAny_bind (wpAny_isInstance ty Fc ?_)
 rw [if_neg (by decide)]
 split
 ·rw [if_neg (by decide)]
  exact wpAny_pure h
 ·rename_i hs
  exact absurd (by decide +kernel) hs
theorem Bv {prog : Program} {w : World} {A : Around} {s : Shared} {R : Result → Shared → Prop} {it l : Addr} {items : Array Value} (hh : A.handled = none) (hit : s.heap.IsRevIter it l ((items.size : Int) - 1)) (hl : s.heap.IsList l items) (hne : l ≠ it) (hz : items.size ≤ sizeLine) (S : Addr) (res : Value) (c₀ : Nat)
  (hS : s.heap.get? S = some { cls := .type "list", data := .seq #[] c₀ }) (Ux : S ≠ l)
  (hR : ∀ (s' : Shared) (acc' : Array Value) (c' : Nat), Moved [S, it] (fun a b => b = a) s s' → s'.heap.get? S = some { cls := .type "list", data := .seq acc' c' } → ItemsOf (fun i v => items[items.size - 1 - i]? = some v) acc' items.size → R (.ok (.ret res)) s') :
  wpAny (model prog w) A.in1 (Builtin.List.listExtendWith (.ref S) (.ref it) res) (fun fin s' => match fin with
   | .done f => R (.ok f) s'
   | .again c' => c'.quiet = true ∧ codeAny (model prog w) A c' R s') (fun e s' => R (.error e) s') s := by
 have M4 : S ≠ it := by
  rintro rfl
  obtain ⟨o, e, c, d⟩ := hit
  rw [hS] at e; cases e
  exact absurd (Value.type.inj c) (by decide)
 have ty : s.TypeIs (.ref it) "list_reverseiterator" := by
  obtain ⟨o, e, c, _⟩ := hit
  exact ⟨o, e, c⟩
 have Wk := Walks.toS (Walks.listRev (prog := prog) (w := w) (A := A.in1) (show A.in1.handled = none from hh) it l hne items)
 have key := codeAny_extend_loopS Wk hz S (by simp [M4, Ux]) res items.size 0 (R := R)
 unfold Builtin.List.listExtendWith
 refine wpAny_bind (wpAny_typeOf ty ?_)
 have h1 : Builtin.List.listSameRef (.ref S) (.ref it) = false := by simp [Builtin.List.listSameRef, M4]
 rw [if_neg (by rw [h1]; decide)]
 refine wpAny_bind (wpAny_pyIter_revIter hit ?_)
 refine wpAny_bind (wpAny_holding (Fd hit ?_))
 dsimp only
 split
 ·rename_i hs
  exact absurd hs (by decide +kernel)
 ·exact wpAny_pure ⟨plainId_quiet F.plain_extend_loop _, key s #[] c₀ rfl (Nat.zero_le _) ⟨Nat.zero_le _, by simpa using hit, hl⟩ hS (ItemsOf.nil _) hR⟩
theorem wQ {prog : Program} {w : World} {A : Around} {E : Value → Shared → Prop} {s : Shared} {it l : Addr} {items : Array Value} {Q : Value → Shared → Prop} (hh : A.handled = none) (hit : s.heap.IsRevIter it l ((items.size : Int) - 1)) (hl : s.heap.IsList l items) (hne : l ≠ it) (hz : items.size ≤ sizeLine)
  (hQ : ∀ (h' : Heap) (tk : Nat) (acc' : Array Value) (c' : Nat), (∀ b o, b ≠ it → s.heap.get? b = some o → h'.get? b = some o) → h'.get? s.heap.objs.size = some { cls := .type "list", data := .seq acc' c' } → ItemsOf (fun i v => items[items.size - 1 - i]? = some v) acc' items.size → Q (.ref s.heap.objs.size) { s with heap := h', toks := tk }) :
  wpAny (model prog w) A (call (.type "list") [.ref it]) Q E s := by
 have Uy : l < s.heap.objs.size := by obtain ⟨o, e, _⟩ := hl; exact Heap.lt_size e
 have Wz : it < s.heap.objs.size := by obtain ⟨o, e, _⟩ := hit; exact Heap.lt_size e
 refine callType_codes (Q₁ := fun v s1 => v = .ref s.heap.objs.size ∧ s1 = { s with heap := s.heap.push { cls := .type "list", data := .seq #[] } }) F.called_list (F.typeCall_list_1 (.ref it)) F.entry_list_init (code_list_new (.ref it) ⟨rfl, rfl⟩) fun obj s₁ h₁ => ?_
 obtain ⟨rfl, rfl⟩ := h₁
 have hS := Heap.get?_push_size (o := { cls := .type "list", data := .seq #[] }) s.heap rfl
 refine ⟨⟨_, hS, rfl⟩, F.args_list_init_2 (.ref s.heap.objs.size) (.ref it), ?_⟩
 have kp : ∀ b o, s.heap.get? b = some o → (s.heap.push { cls := .type "list", data := .seq #[] }).get? b = some o := fun b o e => Heap.get?_push_of_some _ e
 unfold Builtin.«list.__init__»
 refine wpAny_bind ?_
 unfold Builtin.List.listItems
 refine wpAny_bind (wpAny_seqItems hS rfl (wpAny_pure ?_))
 refine wpAny_bind ?_
 unfold Builtin.List.listUpdate
 refine wpAny_updateSeq hS rfl ?_ (by simp [sizeLine_eq]) (by simp [sizeLine_eq])
 have Uz := Heap.get?_update_self (Obj.mapSeq fun x => #[]) hS rfl
 have D9 : ∀ b o, b ≠ s.heap.objs.size → (s.heap.push { cls := .type "list", data := .seq #[] }).get? b = some o → ((s.heap.push { cls := .type "list", data := .seq #[] }).update s.heap.objs.size (Obj.mapSeq fun x => #[])).get? b = some o := fun b o hb e => (Heap.get?_update_other _ _ (Ne.symm hb)).trans e
 refine wpAny_bind (wpAny_letGo ?_)
 have up : ∀ b o, s.heap.get? b = some o → ((s.heap.push { cls := .type "list", data := .seq #[] }).update s.heap.objs.size (Obj.mapSeq fun x => #[])).get? b = some o := fun b o e => D9 b o (Nat.ne_of_lt (Heap.lt_size e)) (kp b o e)
 refine Bv (l := l) (items := items) (show A.in1.handled = none from hh) ?_ ?_ hne hz s.heap.objs.size .none (if ((#[] : Array Value).size == (#[] : Array Value).size) = true then 0 else 0 + 1) ?_ (Nat.ne_of_gt Uy) ?_
 ·obtain ⟨o, e, r⟩ := hit
  exact ⟨o, up _ _ e, r⟩
 ·obtain ⟨o, e, r⟩ := hl
  exact ⟨o, up _ _ e, r⟩
 ·exact Uz
 ·intro s' acc' c' hm hS' hacc
  rw [Moved.eq_with hm]
  refine ⟨rfl, hQ s'.heap s'.toks acc' c' (fun b o hb e => ?_) hS' hacc⟩
  refine hm.heap b o ?_ (up b o e)
  simp [hb, Nat.ne_of_lt (Heap.lt_size e)]
end L3
end
section
set_option Elab.async false
set_option linter.all false
set_option maxRecDepth 100000
namespace L3
open PySem PySem.Spec L2
section
variable {X : Cx} {EE : fC} {a b c e o : Expr} {es : List Expr} {ma mb mo : DS → M D} {m : DS → M (List D)} {t : DS → M Bool} {ms : MS} {pos p p2 pos2 apos cpos : Pos}
noncomputable def fuel : Nat := 100000
noncomputable def iN (t : DS → M Bool) (ms : MS) : Nat → MS
 | 0 => fun _ _ => .stuck
 | n + 1 => fun τ => cT (t τ) (fun c G => if c = true then (match ms τ G with
   | .nx τ' G' => iN t ms n τ' G'
   | .ct τ' G' => iN t ms n τ' G'
   | .bk τ' G' => .nx τ' G'
   | r => r) else .nx τ G) fun c G => .xn c τ G
theorem Hy.imp {H : Hp} {σ : L2.St} {τ : DS} {ρ : List Addr} {r : Out Bool} {Q Q' : Bool → Hp → Prop} (h : Hy X.K X.mg EE H σ τ ρ r Q) (i : ∀ b H', Q b H' → Q' b H') : Hy X.K X.mg EE H σ τ ρ r Q' := by
 cases r with
 | stuck => exact h
 | ok b G => exact fun H' ρ' f ab => i b H' (h H' ρ' f ab)
 | dz c G => exact h
theorem Fe {n : Nat} {body : List Stmt} (hp : PassesOwn (model X.prog X.w) X.A X.env X.xe) (hc : QT X EE c t) (hb : A1 X EE body ms) : QS X EE (.While c body [] pos) (iN t ms n) := PS.mono (Ej hp hc hb) fun Dd σ H h => by
 obtain ⟨τ0, ρ0, G0, K1, UA⟩ := h
 refine ⟨fun m σ H => ∃ τ ρ G, Ab X.K X.mg σ H τ ρ G ∧ wN X.K X.mg EE H ρ Dd (iN t ms m τ G), ⟨n, τ0, ρ0, G0, K1, UA⟩, ?_⟩
 rintro m σ H ⟨τ, ρ, G, ab, ok⟩
 cases m with
 | zero => exact ok.elim
 | succ m =>
  obtain ⟨τ1, ρ1, G1, rO, GO⟩ := Ez (k := fun τ c G => if c = true then (match ms τ G with
   | .nx τ' G' => iN t ms m τ' G'
   | .ct τ' G' => iN t ms m τ' G'
   | .bk τ' G' => .nx τ' G'
   | r => r) else .nx τ G) (show iK X.K X.mg EE (fun τ => cT (t τ) (fun c G => if c = true then (match ms τ G with
   | .nx τ' G' => iN t ms m τ' G'
   | .ct τ' G' => iN t ms m τ' G'
   | .bk τ' G' => .nx τ' G'
   | r => r) else .nx τ G) fun c G => .xn c τ G) Dd σ H from ⟨τ, ρ, G, ab, ok⟩)
  refine ⟨τ1, ρ1, G1, rO, GO.imp fun b H1 hq => ?_⟩
  obtain ⟨τ2, ρ2, G2, eu, aI⟩ := hq
  cases b with
  | false =>
   rw [if_neg Bool.false_ne_true] at aI ⊢
   exact aI σ H1 ρ2 .refl eu
  | true =>
   rw [if_pos rfl] at aI ⊢
   refine ⟨fun σ' H' => ∃ τ ρ G, Ab X.K X.mg σ' H' τ ρ G ∧ wN X.K X.mg EE H' ρ Dd (iN t ms m τ G), fun σ' H' w => ⟨m, Nat.lt_succ_self _, w⟩, τ2, ρ2, G2, eu, ?_⟩
   cases q : ms τ2 G2 with
   | stuck => rw [q] at aI; exact aI
   | nx τ' G' => rw [q] at aI; exact fun σ' H' ρ' f cB => ⟨τ', ρ', G', cB, aI.fut f⟩
   | ct τ' G' => rw [q] at aI; exact fun σ' H' ρ' f cB => ⟨τ', ρ', G', cB, aI.fut f⟩
   | bk τ' G' => rw [q] at aI; exact aI
   | rt d G' => rw [q] at aI; exact aI
   | xn c τ' G' => rw [q] at aI; exact aI
noncomputable def zZ : List D → M D
 | [d] => fun G => match bS G d with
  | some (.lst xs) => bU xs.reverse G
  | _ => .stuck
 | _ => M.stop
theorem z9 : bootBuiltins "reversed" = some (.type "reversed") := by decide +kernel
theorem ay.rev {K : PySem.W.Frag} {mg : Str → Option Value} {ρ : List Addr} {H : Hp} : ∀ {ds : List D} {vs : List V}, ay K mg ρ H ds vs → ay K mg ρ H ds.reverse vs.reverse
 | [], vs, h => by unfold ay at h; subst h; exact .nil
 | d :: ds, vs, h => by
  unfold ay at h
  obtain ⟨v, r, rfl, h1, h2⟩ := h
  rw [List.reverse_cons, List.reverse_cons]
  exact (ay.rev h2).append (.cons h1 .nil)
theorem Vals.app : ∀ {xs ys : List V} {us vs : List Value}, Vals xs us → Vals ys vs → Vals (xs ++ ys) (us ++ vs)
 | _, _, _, _, .nil, h => h
 | _, _, _, _, .cons r t, h => .cons r (Vals.app t h)
theorem Vals.rev : ∀ {xs : List V} {us : List Value}, Vals xs us → Vals xs.reverse us.reverse
 | _, _, .nil => .nil
 | _, _, .cons r t => by
  rw [List.reverse_cons, List.reverse_cons]
  exact Vals.app (Vals.rev t) (.cons r .nil)
theorem Dv {its : List Value} {acc : Array Value} (h : ItemsOf (fun i v => its.toArray[its.toArray.size - 1 - i]? = some v) acc its.toArray.size) : acc = its.reverse.toArray := by
 obtain ⟨h1, h2⟩ := h
 have hs : its.toArray.size = its.length := by simp
 rw [hs] at h1
 apply Array.ext_getElem?
 intro i
 by_cases hi : i < acc.size
 ·have e := h2 i acc[i] (Array.getElem?_eq_getElem hi)
  rw [Array.getElem?_eq_getElem hi, ← e]
  rw [List.getElem?_toArray, List.getElem?_toArray, List.getElem?_reverse (by omega), hs]
 ·rw [Array.getElem?_eq_none (by omega), Array.getElem?_eq_none (by simp; omega)]
theorem Bw (hc : X.calm = true) (hm1 : X.mg "list" = none) (UB : Gl X "list") (hm2 : X.mg "reversed" = none) (Ff : Gl X "reversed") (ha : QA X EE [e] m) (h : aL [e] = true := by rfl) :
  QE X EE (.Call (.Name "list" p) [.Call (.Name "reversed" p2) [e] [] pos2] [] pos) (av zZ m) := by
 have h' : fJ e = true ∧ aL [] = true := by simpa [aL] using h
 intro pins s σ H Q I hq
 have hq' := tK (k := fun _ ds => zZ ds) hq
 refine wpAny_Call_Name_kw (mV I UB hm1 boot_list ?_ (by decide) (by decide))
 refine PyProof.Rows.callWith_type1 ?_ (cW rfl _ _) (dI (es := []) rfl)
 rw [cW (e := .Call (.Name "reversed" p2) [e] [] pos2) rfl]
 show wpAny _ _ (spliced ((false, eval _ X.env) :: backTo pos (starEach [] X.env))) _ _ s
 refine Calls.spliced_cons ?_
 refine wpAny_Call_Name_kw (mV I Ff hm2 z9 ?_ (by decide) (by decide))
 refine PyProof.Rows.callWith_type1 (gX (ha pos2 pins s σ H _ I hq') fun us s1 Hs => ?_) (cW h'.1 _ _) (dI (es := []) rfl)
 obtain ⟨vs, H1, I1, r1, τ, ρ, G, ds, ab, rs, ok⟩ := Hs
 match ds, ok with
 | [], ok => exact ok.elim
 | _ :: _ :: _, ok => exact ok.elim
 | [d], ok =>
  obtain ⟨x, rfl, rx⟩ := oh rs
  obtain ⟨u, rfl, ru⟩ := vals1 r1
  dsimp only [zZ] at ok
  cases q : bS G d with
  | none => rw [q] at ok; exact ok.elim
  | some sk =>
   rw [q] at ok
   cases sk with
   | tup zs => exact ok.elim
   | str z => exact ok.elim
   | lst zs =>
    dsimp only at ok
    obtain ⟨l, ys, rfl, sq, rv⟩ := d8 (pins := pins) (σ0 := σ) (s := s1) ab.hp rx q
    cases ru
    obtain ⟨its, vv, pl, hz⟩ := I1.list sq
    have hlen := vv.length
    have hl := pl.isList
    have hlt : l < s1.heap.objs.size := by obtain ⟨_, e, _⟩ := hl; exact Heap.lt_size e
    refine call_reversed_list hl ?_
    refine Calls.spliced_nil ?_
    refine nZ (by first | exact I1.os.2 | exact Nat.succ_pos _) <| wQ (l := l) (items := its.toArray) (show X.A.handled = none from I.ok.hd hc) ⟨_, Heap.get?_push_size _ rfl, rfl, rfl⟩ (hl.push _) (Nat.ne_of_lt hlt) (by simp; omega) fun h' tk acc' c' kp hS hacc ht => ?_
    have ea := Dv hacc
    subst ea
    obtain ⟨hlr, hn⟩ := tL ab rv.rev ok
    have hsz : (s1.heap.push (revObj l ((its.toArray.size : Int) - 1))).objs.size = s1.heap.objs.size + 1 := Heap.size_push ..
    refine ⟨.ref _, upd H1 _ (.lst ys.reverse), I1.laid (t' := tk) (fun b o e => kp b o (Nat.ne_of_lt (Heap.lt_size e)) (Heap.get?_push_of_some _ e)) ?_ ⟨hlr, its.reverse, c', Vals.rev vv, hS⟩, rfl, hn _ (I1.hok.fresh ?_)⟩
    ·show s1.heap.objs.size ≤ (s1.heap.push _).objs.size
     rw [hsz]; omega
    ·show s1.heap.objs.size ≤ (s1.heap.push _).objs.size
     rw [hsz]; omega
end
end L3
end
section
set_option Elab.async false
set_option linter.all false
set_option maxRecDepth 100000
namespace L3
open PySem PySem.Spec L2
theorem Cg {X : Cx} {pins : List (Addr × Obj)} {σ : L2.St} {H : Hp} {s : Shared} {h' : Heap} {t' : Nat} {ch : List Addr} (I : Inv X pins σ H s) (k : ∀ b o, b ∉ ch → s.heap.get? b = some o → h'.get? b = some o) (hf : ∀ b ∈ ch, tB X pins H b) (ht : 0 < t' := by first | exact Nat.succ_pos _ | exact (Inv.os (by assumption)).2 | assumption | omega) : Inv X pins σ H { s with heap := h', toks := t' } := by
 have LZ : ∀ b u, H b = some u → b ∉ ch := fun b u e z => by rw [(hf b z).1] at e; cases e
 refine I.step (g' := s.gens) (d' := s.drawn) (ch := ch) (fun b hb => ⟨(hf b hb).2.2.2.1, (hf b hb).2.1, (hf b hb).2.2.2.2.1, (hf b hb).2.2.2.2.2⟩) (fun b o _ _ hc e _ => k b o hc e) (fun b o _ _ hc e _ => ⟨o.slots, k b o hc e⟩) (fun _ _ _ _ n => n)
  (fun b o hc e => ⟨o, k b o hc e⟩) (fun _ _ e => e) (fun _ _ _ e => e) (fun b ps e => ⟨#[], by rw [e]; simp⟩) (fun m hm => ?_) (fun b u e => ?_) I.bare
 ·obtain ⟨o, es, ep, ho, r⟩ := hm
  exact ⟨o, es, ep, k _ o (fun z => (hf _ z).2.1 rfl) ho, r⟩
 ·refine (I.hok b u e).stay (fun c v hc q => k c v ?_ q) (fun _ q => q) fun _ _ q => q
  rcases hc with z | z
  ·rw [z]; exact LZ b u e
  ·exact LZ c _ z
noncomputable abbrev View := DH → Nat → Option (Option D)
noncomputable def JV (K : PySem.W.Frag) (mg : Str → Option Value) (J : It) (vw : View) (H0 : Hp) (ρ0 : List Addr) : Prop :=
 ∀ (i : Nat) (H : Hp) (ρ : List Addr) (G : DH), eX K H0 H ρ0 ρ → kh K mg H ρ G → (vw G i = some none → J.stop i H) ∧
  ∀ d, vw G i = some (some d) → J.go i H ∧ ∀ x H', J.xr i H x H' → HS K mg H H' ρ ∧ Rep K mg ρ H' d x
noncomputable def vK (g : rP) (body : MS) (vw : View) : Nat → Nat → MS
 | 0, _ => fun _ _ => .stuck
 | f + 1, i => fun τ G => match vw G i with
  | none => .stuck
  | some none => .nx τ G
  | some (some d) => match g d τ with
   | none => .stuck
   | some τ1 => match body τ1 G with
    | .nx τ2 G2 => vK g body vw f (i + 1) τ2 G2
    | .ct τ2 G2 => vK g body vw f (i + 1) τ2 G2
    | .bk τ2 G2 => .nx τ2 G2
    | r => r
noncomputable abbrev MI := DS → M (Nat × View)
noncomputable def Jj (K : PySem.W.Frag) (mg : Str → Option Value) (EE : fC) (mi : MI) : TI := fun σ H R => ∃ τ ρ G, Ab K mg σ H τ ρ G ∧ match mi τ G with
 | .stuck => False
 | .dz c G' => ∀ H' ρ', eX K H H' ρ ρ' → Ab K mg σ H' τ ρ' G' → EE c σ H'
 | .ok (_, vw) G' => ∀ J H' ρ', eX K H H' ρ ρ' → Ab K mg σ H' τ ρ' G' → JV K mg J vw H' ρ' → R J H'
noncomputable def QI (X : Cx) (EE : fC) (tg iter : Expr) (mi : MI) : Prop := PI X tg iter (Jj X.K X.mg EE mi)
section
variable {X : Cx} {EE : fC} {tg iter a b : Expr} {g : rP} {mi : MI} {ms : MS} {pos p pc : Pos} {m : DS → M (List D)}
theorem Fg {body : MS} {vw : View} {Dd : Ends} {J : It} {H0 : Hp} {σ0 : L2.St} {ρ0 : List Addr} {G0 : DH} {τ0 : DS} {fuel : Nat} (jv : JV X.K X.mg J vw H0 ρ0)
  (ab : Ab X.K X.mg σ0 H0 τ0 ρ0 G0) (ok : wN X.K X.mg EE H0 ρ0 Dd (vK g body vw fuel 0 τ0 G0)) :
  ∃ W : Nat → Nat → L2.St → Hp → Prop, (∃ m, W 0 m σ0 H0) ∧ ∀ i m σ H, W i m σ H →
   (J.stop i H ∧ Dd.nx σ H) ∨ (J.go i H ∧ ∃ N : L2.St → Hp → Prop, (∀ σ' H', N σ' H' → ∃ m', m' < m ∧ W (i + 1) m' σ' H') ∧ ∀ x H', J.xr i H x H' → zU X.K X.mg g x σ H' fun σ2 H2 => iK X.K X.mg EE body { Dd with nx := N, ct := N, bk := Dd.nx } σ2 H2) := by
 refine ⟨fun i m σ H => ∃ τ ρ G, Ab X.K X.mg σ H τ ρ G ∧ eX X.K H0 H ρ0 ρ ∧ wN X.K X.mg EE H ρ Dd (vK g body vw m i τ G), ⟨fuel, τ0, ρ0, G0, ab, .refl, ok⟩, ?_⟩
 rintro i m σ H ⟨τ, ρ, G, ab, f, ok⟩
 cases m with
 | zero => exact ok.elim
 | succ m =>
  unfold vK at ok
  obtain ⟨j1, j2⟩ := jv i H ρ G f ab.hp
  cases q : vw G i with
  | none => rw [q] at ok; exact ok.elim
  | some od =>
   rw [q] at ok
   cases od with
   | none => exact .inl ⟨j1 q, ok σ H ρ .refl ab⟩
   | some d =>
    dsimp only at ok
    obtain ⟨jg, jy⟩ := j2 d q
    refine .inr ⟨jg, fun σ' H' => ∃ τ' ρ' G', Ab X.K X.mg σ' H' τ' ρ' G' ∧ eX X.K H0 H' ρ0 ρ' ∧ wN X.K X.mg EE H' ρ' Dd (vK g body vw m (i + 1) τ' G'), fun σ' H' z => ⟨m, Nat.lt_succ_self _, z⟩, fun x H' y => ?_⟩
    obtain ⟨⟨fN, hN⟩, rx⟩ := jy x H' y
    replace ok := wN.fut fN ok
    replace ab : Ab X.K X.mg σ H' τ ρ G := ab.fut fN (hN _ ab.hp)
    replace f := f.trans fN
    cases e : g d τ with
    | none => rw [e] at ok; exact ok.elim
    | some τ1 =>
     rw [e] at ok
     dsimp only at ok
     refine ⟨τ, ρ, G, d, τ1, ab, rx, e, fun σ' cB => ⟨τ1, ρ, G, cB, ?_⟩⟩
     cases eb : body τ1 G with
     | stuck => rw [eb] at ok; exact ok
     | nx τ2 G2 => rw [eb] at ok; exact fun σ2 H2 ρ2 f2 eu => ⟨τ2, ρ2, G2, eu, f.trans f2, ok.fut f2⟩
     | ct τ2 G2 => rw [eb] at ok; exact fun σ2 H2 ρ2 f2 eu => ⟨τ2, ρ2, G2, eu, f.trans f2, ok.fut f2⟩
     | bk τ2 G2 => rw [eb] at ok; exact ok
     | rt d G2 => rw [eb] at ok; exact ok
     | xn c τ2 G2 => rw [eb] at ok; exact ok
noncomputable def Aa (g : rP) (mi : MI) (body : MS) : MS := fun τ => cT (mi τ) (fun x G => vK g body x.2 x.1 0 τ G) fun c G => .xn c τ G
theorem Ib {body : List Stmt} (hp : PassesOwn (model X.prog X.w) X.A X.env X.xe) (hc : X.calm = true) (hi : QI X EE tg iter mi) (hg : QG X tg g) (hb : A1 X EE body ms) (hs : oq iter = true := by rfl) :
  QS X EE (.For tg iter body [] pos) (Aa g mi ms) := PS.mono (A9 hp hc hi hg hb (m8 hs _)) fun Dd σ H h => by
 obtain ⟨τ, ρ, G, ab, ok⟩ := h
 refine ⟨τ, ρ, G, ab, ?_⟩
 dsimp only [Aa, cT] at ok
 cases e : mi τ G with
 | stuck => rw [e] at ok; exact ok
 | dz c G' => rw [e] at ok; exact fun H' ρ' f cB => ok σ H' ρ' f cB
 | ok x G' => rw [e] at ok; exact fun J H' ρ' f cB jv => Fg jv cB (ok.fut f)
noncomputable def pX (gO : D → Option (List D)) (ks : List Bool) (tt : DS → M Bool) (te : DS → M D) (n : Nat) (vw : View) : Nat → Nat → DS → DH → Out D
 | 0, _, _, _ => .stuck
 | f + 1, i, τ, G => match vw G i with
  | none => .stuck
  | some none => .ok (.obj n) G
  | some (some d) => match cH gO ks tt te n d τ G with
   | .ok _ G' => pX gO ks tt te n vw f (i + 1) τ G'
   | .dz c G' => .dz c G'
   | .stuck => .stuck
variable {gO : D → Option (List D)} {ow : V → Hp → List V → Prop} {xs : List Str} {ks : List Bool} {tt : DS → M Bool} {te : DS → M D}
theorem Dw (hO : om X.K X.mg ow gO) {Q : VK} {J : It} {vw : View} {H0 : Hp} {σ : L2.St} {ρ0 : List Addr} {G0 : DH} {τ : DS} {fuel : Nat} (jv : JV X.K X.mg J vw H0 ρ0)
  (ab : Ab X.K X.mg σ H0 τ ρ0 G0) (ok : mw X.K X.mg EE H0 σ τ ρ0 (pX gO ks tt te G0.length vw fuel 0 τ (G0 ++ [.lst []])) Q) :
  ∀ D, H0 D = none → ∃ W : Nat → Nat → Hp → Prop, (∃ m, W 0 m (upd H0 D (.lst []))) ∧ ∀ i m H, W i m H →
   (J.stop i H ∧ Q (.ref D) H) ∨ (J.go i H ∧ ∀ x H', J.xr i H x H' → ∃ vs, ow x H' vs ∧ liftT X.K X.mg (u9 EE σ) tt (vs.map some ++ mask ks σ) H' fun b H2 => if b = true then dB X.K X.mg (u9 EE σ) te (vs.map some ++ mask ks σ) H2 fun v H3 => ∃ ys, H3 D = some (.lst ys) ∧ ys.length < sizeLine ∧ ∃ m', m' < m ∧ W (i + 1) m' (upd H3 D (.lst (ys ++ [v]))) else ∃ m', m' < m ∧ W (i + 1) m' H2) := by
 intro D hD
 have f0 : eX X.K H0 (upd H0 D (.lst [])) ρ0 (ρ0 ++ [D]) := (kW hD ρ0).trans (jF ρ0 D)
 have K1 : Ab X.K X.mg σ (upd H0 D (.lst [])) τ (ρ0 ++ [D]) (G0 ++ [.lst []]) := ab.fut f0 (ab.hp.more hD .nil)
 have hn0 : (ρ0 ++ [D])[G0.length]? = some D := by rw [← ab.hp.hl, bw]
 refine ⟨fun i m H => ∃ ρ G, Ab X.K X.mg σ H τ ρ G ∧ eX X.K H0 H ρ0 ρ ∧ ρ[G0.length]? = some D ∧ mw X.K X.mg EE H σ τ ρ (pX gO ks tt te G0.length vw m i τ G) Q,
  ⟨fuel, ρ0 ++ [D], _, K1, f0, hn0, ok.fut f0⟩, ?_⟩
 rintro i m H ⟨ρ, G, ab, f, hn, ok⟩
 cases m with
 | zero => exact ok.elim
 | succ m =>
  unfold pX at ok
  obtain ⟨j1, j2⟩ := jv i H ρ G f ab.hp
  cases q : vw G i with
  | none => rw [q] at ok; exact ok.elim
  | some od =>
   rw [q] at ok
   cases od with
   | none => exact .inl ⟨j1 q, ok _ H ρ .refl ab (by unfold Rep; exact ⟨D, rfl, hn⟩)⟩
   | some d =>
    dsimp only at ok
    obtain ⟨jg, jy⟩ := j2 d q
    refine .inr ⟨jg, fun x H' y => ?_⟩
    obtain ⟨⟨fN, hN⟩, rx⟩ := jy x H' y
    replace ok := mw.fut fN ok
    replace ab : Ab X.K X.mg σ H' τ ρ G := ab.fut fN (hN _ ab.hp)
    replace f := f.trans fN
    refine tQ hO (W := fun H3 => ∃ m', m' < m + 1 ∧ ∃ ρ G, Ab X.K X.mg σ H3 τ ρ G ∧ eX X.K H0 H3 ρ0 ρ ∧ ρ[G0.length]? = some D ∧ mw X.K X.mg EE H3 σ τ ρ (pX gO ks tt te G0.length vw m' (i + 1) τ G) Q)
      ab rx hn ?_
    cases e : cH gO ks tt te G0.length d τ G with
    | stuck => rw [e] at ok; exact ok
    | dz c G' => rw [e] at ok; exact ok
    | ok _ G' =>
     rw [e] at ok
     exact fun H3 ρ3 f3 zK => ⟨m, Nat.lt_succ_self _, ρ3, G', zK, f.trans f3, f3.get hn, ok.fut f3⟩
noncomputable def qG (gO : D → Option (List D)) (ks : List Bool) (mi : MI) (tt : DS → M Bool) (te : DS → M D) : DS → M D := fun τ => (mi τ).bind fun x G => pX gO ks tt te G.length x.2 x.1 0 τ (G ++ [.lst []])
theorem Bx (hO : om X.K X.mg ow gO) {σ : L2.St} {H : Hp} {Q : VK} (h : dB X.K X.mg EE (qG gO ks mi tt te) σ H Q) :
  zV (Jj X.K X.mg EE mi) ks ow (liftT X.K X.mg (u9 EE σ) tt) (dB X.K X.mg (u9 EE σ) te) σ H Q := by
 obtain ⟨τ, ρ, G, ab, ok⟩ := h
 refine ⟨τ, ρ, G, ab, ?_⟩
 dsimp only [qG, M.bind] at ok
 cases e : mi τ G with
 | stuck => rw [e] at ok; exact ok
 | dz c G' => rw [e] at ok; exact ok
 | ok x G' => rw [e] at ok; exact fun J H' ρ' f cB jv => Dw hO jv cB (ok.fut f)
variable {scope : Scope} {elt : Expr} {ifs : List Expr}
theorem Ac (hx : kP X EE) (hst : fV X) (S : cj X.env.scope X.N scope xs ks) (how : Own X scope xs ks tg ow) (hO : om X.K X.mg ow gO) (hc : X.calm = true) (ha : QI X EE tg iter mi) (hb : um X scope xs ifs elt tt te) (hs : oq iter = true := by rfl) :
  QE X EE (.ListComp elt [⟨tg, iter, ifs, 0⟩] scope pos) (qG gO ks mi tt te) := PE.mono (Cc (tt := fun σ => liftT X.K X.mg (u9 EE σ) tt) (te := fun σ => dB X.K X.mg (u9 EE σ) te) hx hst S how hc ha (fun σ cl C pins s0 H0 fp E => hb cl C pins s0 H0 fp E _) (m8 hs _)) fun _ _ _ h => Bx hO h
noncomputable def gP (i j : Nat) : rP := fun d τ => match d with
 | .tup [x, y] => some ((τ.set i (some x)).set j (some y))
 | _ => none
theorem Ic {x y : Str} {i j : Nat} {px py : Pos} {k : Nat} (hc : X.calm = true) (hN : X.N.Nodup) (hx : Loc X.env.scope x) (hy : Loc X.env.scope y) (hfx : X.fn x = true ∨ X.env.scope.names.lookup x = some .local) (UC : X.fn y = true ∨ X.env.scope.names.lookup y = some .local) (hi : X.N[i]? = some x := by rfl) (hj : X.N[j]? = some y := by rfl) :
  QG X (.Tuple [.Name x px, .Name y py] k pos) (gP i j) := by
 intro pins s σ H v u Q I r ⟨τ, ρ, G, d, τ', ab, rd, e, q⟩
 refine JU (n := 2) hc (zE (yk hN hi hx hfx) (zE (yk hN hj hy UC) G5)) rfl rfl pins s σ H v u Q I r ?_
 cases d <;> try (cases e; done)
 rename_i ds
 match ds, e with
 | [d1, d2], e =>
  cases e
  unfold Rep at rd
  obtain ⟨a, vs, rfl, sq, rs⟩ := rd
  obtain ⟨v1, v2, rfl, r1, r2⟩ := Jf rs
  exact ⟨a, [v1, v2], rfl, sq, rfl, v1, [v2], rfl, v2, [], rfl, rfl, q _ (Ab.set (Ab.set ab r1) r2)⟩
end
end L3
end
section
set_option Elab.async false
set_option linter.all false
set_option maxRecDepth 100000
namespace L3
open PySem PySem.Spec L2
theorem lz {n : Nat} (h : n ≤ 2000000) : n ≤ sizeLine := by rw [sizeLine_eq]; omega
theorem wK (A : DH) (x : DO) (B : DH) : (A ++ x :: B)[A.length]? = some x := by simp
theorem M5 (A : DH) (x y : DO) (B : DH) : (A ++ x :: y :: B)[A.length + 1]? = some y := by
 rw [List.getElem?_append_right (by omega)]; simp
theorem Ad (A : DH) (x y : DO) (B : DH) : (A ++ x :: B).set A.length y = A ++ y :: B := by
 rw [List.set_append_right _ _ (Nat.le_refl _)]; simp
theorem RK (A : DH) (x y z : DO) (B : DH) : (A ++ x :: y :: B).set (A.length + 1) z = A ++ x :: z :: B := by
 rw [List.set_append_right _ _ (by omega)]; simp
theorem ju (g : Bool) (i j : Int) (G : DH) : mZ g (.int i) (.int j) G = .ok (.bl (g ^^ (i == j))) G := by
 simp [mZ, Bk, nR, PyData.canLay0, PyData.depth, PyData.eqv]
theorem Ie (g : Bool) (a b : Str) (G : DH) (ha : PyData.strOk a = true) (hb : PyData.strOk b = true) : mZ g (.str a) (.str b) G = .ok (.bl (g ^^ (a == b))) G := by
 simp [mZ, Bk, nR, PyData.canLay0, PyData.depth, PyData.eqv, ha, hb]
theorem uo (G : DH) : ∀ ws : List Str, eZ (nR G deep) (ws.map D.str) = some (ws.map PyData.str)
 | [] => rfl
 | w :: ws => by
  have ih := uo G ws
  simp only [List.map_cons, eZ, ih]
  rfl
theorem Fi (t : Str) (ws : List Str) (G : DH) (h : PyData.strOk t = true) (hw : PyData.canLayAll0 (ws.map PyData.str) = true) : Jc (.str t) (ws.map D.str) G = some (ws.any (· == t)) := by
 have e1 : nR G deep (.str t) = some (.str t) := rfl
 unfold Jc
 rw [e1, uo]
 dsimp only
 have c1 : (PyData.str t).canLay0 = true := by simpa [PyData.canLay0] using h
 have c3 : min (PyData.depthAll (ws.map PyData.str)) (PyData.str t).depth ≤ 580 := by
  have : (PyData.str t).depth ≤ 580 := by simp [PyData.depth]
  omega
 rw [if_pos (by rw [c1, hw]; simpa using c3)]
 simp only [List.any_map]
 congr 1
theorem Ig (a b : Str) : (a ++ b).length = a.length + b.length := by
 show (a.cps ++ b.cps).size = a.cps.size + b.cps.size
 simp
theorem Ae {α : Type} {xs : List α} {i : Int} (h0 : 0 ≤ i) (h1 : i < xs.length) : ∃ v, pR xs i = some v ∧ xs[i.toNat]? = some v := by
 have hi : i.toNat < xs.length := by omega
 refine ⟨xs[i.toNat], ?_, List.getElem?_eq_getElem hi⟩
 have := B6 (xs := xs) (j := i.toNat) (v := xs[i.toNat]) (List.getElem?_eq_getElem hi)
 rwa [show ((i.toNat : Nat) : Int) = i by omega] at this
theorem pG {j : Int} (h0 : 0 ≤ j) (h1 : j < 100000) : ko [.int j] = some ((List.range' 0 j.toNat).map fun (k : Nat) => .int (0 + (k : Int))) := by
 show (if -(2 ^ 62) ≤ j ∧ j < 2 ^ 62 then some ((List.range j.toNat).map fun (k : Nat) => D.int (0 + (k : Int))) else none) = _
 rw [if_pos ⟨by omega, by omega⟩, List.range_eq_range']
end L3
end
section
set_option Elab.async false
set_option linter.all false
set_option maxRecDepth 100000
namespace L3
open PySem PySem.Spec L2
noncomputable def Res.sq (r : Res) (k : MS) : Res := match r with
 | .nx τ G => k τ G
 | r => r
noncomputable def Out.cs (r : Out Bool) (a b : MS) (τ : DS) : Res := match r with
 | .stuck => .stuck
 | .ok c G => if c = true then a τ G else b τ G
 | .dz c G => .xn c τ G
noncomputable def Out.st (r : Out D) (i : Nat) (τ : DS) : Res := match r with
 | .stuck => .stuck
 | .ok d G => .nx (τ.set i (some d)) G
 | .dz c G => .xn c τ G
noncomputable def Out.xp (r : Out D) (τ : DS) : Res := match r with
 | .stuck => .stuck
 | .ok d G => .nx τ G
 | .dz c G => .xn c τ G
noncomputable def Out.rn (r : Out D) (τ : DS) : Res := match r with
 | .stuck => .stuck
 | .ok d G => .rt d G
 | .dz c G => .xn c τ G
noncomputable def Out.bd {α β : Type} (r : Out α) (k : α → M β) : Out β := match r with
 | .stuck => .stuck
 | .ok a G => k a G
 | .dz c G => .dz c G
noncomputable def Out.sb {α : Type} (r : Out α) (τ : DS) (k : α → DH → Res) : Res := match r with
 | .stuck => .stuck
 | .ok a G => k a G
 | .dz c G => .xn c τ G
noncomputable def Res.fn (r : Res) : Out D := match r with
 | .stuck => .stuck
 | .nx _ G' => .ok .jd G'
 | .rt d G' => .ok d G'
 | .bk _ _ => .stuck
 | .ct _ _ => .stuck
 | .xn c _ G' => .dz c G'
noncomputable def Res.lp (r : Res) (k : MS) : Res := match r with
 | .nx τ G => k τ G
 | .ct τ G => k τ G
 | .bk τ G => .nx τ G
 | r => r
noncomputable def PU (m k : MS) : MS := fun τ G => (m τ G).lp k
section
variable {m k : MS} {t ta tb : DS → M Bool} {a b : MS} {τ : DS} {G : DH} {e ma mb mo : DS → M D} {i n : Nat} {d : D} {c : XD} {α β : Type} {ml : DS → M (List D)} {f : D → D → M D} {fl : List D → M D}
theorem bu : aY m k τ G = (m τ G).sq k := by
 unfold aY Res.sq
 cases m τ G <;> rfl
theorem ck : (Res.nx τ G).sq k = k τ G := Eq.trans rfl rfl
theorem Fj : (Res.rt d G).sq k = .rt d G := Eq.trans rfl rfl
theorem Ci : rB t a b τ G = (t τ G).cs a b τ := by
 unfold rB cT Out.cs
 cases t τ G <;> rfl
theorem Ih : (Out.ok true G).cs a b τ = a τ G := Eq.trans rfl rfl
theorem K3 : (Out.ok false G).cs a b τ = b τ G := Eq.trans rfl rfl
theorem qH : br i e τ G = (e τ G).st i τ := by
 unfold br cT Out.st
 cases e τ G <;> rfl
theorem vL : (Out.ok d G).st i τ = .nx (τ.set i (some d)) G := Eq.trans rfl rfl
theorem ve : kj e τ G = (e τ G).xp τ := by
 unfold kj cT Out.xp
 cases e τ G <;> rfl
theorem Cj : (Out.ok d G).xp τ = .nx τ G := Eq.trans rfl rfl
theorem yG : dO e τ G = (e τ G).rn τ := by
 unfold dO cT Out.rn
 cases e τ G <;> rfl
theorem Jk : (Out.ok d G).rn τ = .rt d G := Eq.trans rfl rfl
theorem yH : eE τ G = .nx τ G := Eq.trans rfl rfl
theorem jG {x : α} {q : α → M β} : (Out.ok x G).bd q = q x G := Eq.trans rfl rfl
theorem bK {mm : M α} {q : α → M β} : M.bind mm q G = (mm G).bd q := by
 unfold M.bind Out.bd
 cases mm G <;> rfl
theorem uq {x : α} : M.ret x G = .ok x G := Eq.trans rfl rfl
theorem jm : ai i τ G = match τ[i]? with
 | some (some d) => .ok d G
 | _ => .stuck := Eq.trans rfl rfl
theorem Dy : eC d τ G = .ok d G := Eq.trans rfl rfl
theorem Ck : aM f ma mb τ G = (ma τ G).bd fun x => (mb τ).bind fun y => f x y := bK
theorem pH : av fl ml τ G = (ml τ G).bd fl := bK
theorem kB : aq τ G = .ok [] G := Eq.trans rfl rfl
theorem g9 : af ma ml τ G = (ma τ G).bd fun x => (ml τ).bind fun xs => M.ret (x :: xs) := bK
noncomputable def M6 : D → M Bool
 | .bl b => M.ret b
 | _ => M.stop
theorem Jl : lO e τ G = (e τ G).bd M6 := by
 unfold lO
 rw [bK]
 unfold Out.bd
 cases e τ G <;> try rfl
theorem Fl {b : Bool} : M6 (.bl b) G = .ok b G := Eq.trans rfl rfl
theorem Af {q : D → M Bool} : qC q e τ G = (e τ G).bd q := bK
theorem Cm : zR t τ G = (t τ G).bd fun c => M.ret (!c) := bK
theorem Fo : zQ ta tb τ G = (ta τ G).bd fun c => if c = true then M.ret true else tb τ := bK
theorem Cn : xG ta tb τ G = (ta τ G).bd fun c => if c = true then tb τ else M.ret false := bK
theorem Fp {y : Ty} : Df y e τ G = (e τ G).bd (vE y) := bK
theorem Co {mf : List D → M D} : aH n mf ml τ G = (ml τ G).bd fun ds => if ds.length = n then mf ds else M.stop := bK
theorem mE {T : String} {g : D → List D → M D} : cU T g mo ml τ G = (mo τ G).bd fun d G => if iM T G d = true then (ml τ G).bd (g d) else .stuck := by
 unfold cU
 rw [bK]
 unfold Out.bd
 cases mo τ G with
 | stuck => rfl
 | dz c G => rfl
 | ok d G' => simp only [bK]; rfl
theorem Cp : Pu t ma mb τ G = (t τ G).bd fun c => if c = true then ma τ else mb τ := bK
theorem xO {CW : List D → Option (List D)} {g : rP} {body : MS} : iL CW g ml body τ G = (ml τ G).sb τ fun ds G => match CW ds with
  | some xs => dY g body xs τ G
  | none => .stuck := by
 unfold iL cT Out.sb
 cases ml τ G <;> rfl
theorem Ag {g : rP} {body : MS} : n9 g e body τ G = (e τ G).sb τ fun d G => match d with
  | .obj n => match G[n]? with
   | some (.lst xs) => yy g body n (xs.length + 1) 0 τ G
   | _ => .stuck
  | .tup xs => dY g body xs τ G
  | .con xs => dY g body xs τ G
  | .str z => dY g body (z.cps.toList.map fun c => .str ⟨#[c]⟩) τ G
  | _ => .stuck := by
 unfold n9 cT Out.sb
 cases e τ G <;> rfl
theorem Cq {g : rP} {mi : MI} {body : MS} : Aa g mi body τ G = (mi τ G).sb τ fun x G => vK g body x.2 x.1 0 τ G := by
 unfold Aa cT Out.sb
 cases mi τ G <;> rfl
theorem Jm {x : α} {q : α → DH → Res} : (Out.ok x G).sb τ q = q x G := Eq.trans rfl rfl
theorem rT {gO : D → Option (List D)} {ks : List Bool} {tt : DS → M Bool} {te : DS → M D} : je gO ks e tt te τ G = (e τ G).bd fun d G => match d with
  | .obj k => match G[k]? with
   | some (.lst xs) => uh gO ks tt te G.length k (xs.length + 1) 0 τ (G ++ [.lst []])
   | _ => .stuck
  | .tup xs => cE gO ks tt te G.length xs τ (G ++ [.lst []])
  | .con xs => cE gO ks tt te G.length xs τ (G ++ [.lst []])
  | .str z => cE gO ks tt te G.length (z.cps.toList.map fun c => .str ⟨#[c]⟩) τ (G ++ [.lst []])
  | _ => .stuck := bK
theorem vM {CW : List D → Option (List D)} {gO : D → Option (List D)} {ks : List Bool} {tt : DS → M Bool} {te : DS → M D} : qF CW gO ks ml tt te τ G = (ml τ G).bd fun ds G => match CW ds with
  | some xs => cE gO ks tt te G.length xs τ (G ++ [.lst []])
  | none => .stuck := bK
theorem vN {gO : D → Option (List D)} {ks : List Bool} {mi : MI} {tt : DS → M Bool} {te : DS → M D} : qG gO ks mi tt te τ G = (mi τ G).bd fun x G => pX gO ks tt te G.length x.2 x.1 0 τ (G ++ [.lst []]) := bK
theorem lR {ds : List D} : cG n m ds G = (m (ds.map some ++ List.replicate (n - ds.length) none) G).fn := by
 unfold cG Res.fn
 cases m (ds.map some ++ List.replicate (n - ds.length) none) G <;> rfl
theorem Jo : (Res.rt d G).fn = .ok d G := Eq.trans rfl rfl
theorem Jp {lo hi : DS → M (Option Int)} : HC e lo hi τ G = (e τ G).bd fun d => (lo τ).bind fun l => (hi τ).bind fun h => EH d l h := bK
theorem Cr : uf τ G = .ok none G := Eq.trans rfl rfl
noncomputable def Jq : D → M (Option Int)
 | .int i => M.ret (some i)
 | _ => M.stop
theorem Cs : pV e τ G = (e τ G).bd Jq := by
 unfold pV
 rw [bK]
 unfold Out.bd
 cases e τ G <;> try rfl
theorem Ct {i : Int} : Jq (.int i) G = .ok (some i) G := Eq.trans rfl rfl
noncomputable def M7 : D → M D
 | .int i => M.ret (.int (-i))
 | _ => M.stop
theorem Fq : zS e τ G = (e τ G).bd M7 := by
 unfold zS
 rw [bK]
 unfold Out.bd
 cases e τ G <;> try rfl
theorem Ft {i : Int} : M7 (.int i) G = .ok (.int (-i)) G := Eq.trans rfl rfl
theorem Ah {tu : Str → Option (List D → M D)} : tR i n tu ml τ G = match τ[i]? with
 | some (some (.fn y)) => match tu y with
  | some mf => aH n mf ml τ G
  | none => .stuck
 | _ => .stuck := Eq.trans rfl rfl
theorem Fv : PU m k τ G = (m τ G).lp k := Eq.trans rfl rfl
theorem mF : (Res.nx τ G).lp k = k τ G := Eq.trans rfl rfl
theorem rV : iN t m (n + 1) τ G = (t τ G).cs (PU m (iN t m n)) eE τ := by
 rw [iN]
 unfold cT Out.cs
 dsimp only
 cases t τ G with
 | stuck => rfl
 | dz c G => rfl
 | ok b G' =>
  cases b with
  | false => rfl
  | true =>
   simp only [if_true]
   unfold PU Res.lp
   cases m τ G' <;> rfl
theorem rW {g : rP} {body : MS} : dY g body [] τ G = .nx τ G := Eq.trans rfl rfl
theorem fZ {g : rP} {body : MS} {x : D} {r : List D} {τ1 : DS} (h : g x τ = some τ1) : dY g body (x :: r) τ G = (body τ1 G).lp (dY g body r) := by
 rw [dY, h]
 dsimp only
 unfold Res.lp
 cases body τ1 G <;> rfl
end
end L3
end
section
set_option Elab.async false
set_option linter.all false
set_option maxRecDepth 100000
namespace L3
open PySem PySem.Spec L2
noncomputable def mU (l : List Nat) : Str := ⟨l.toArray⟩
theorem Fw (l : List Nat) : (mU l).cps.toList = l := by simp [mU]
theorem Jr (s : Str) : mU s.cps.toList = s := by cases s; simp [mU]
theorem Ii {a b : Str} (h : a.cps.toList = b.cps.toList) : a = b := by rw [← Jr a, ← Jr b, h]
noncomputable def fL (c : Nat) : List Nat → List (List Nat)
 | [] => [[]]
 | x :: xs => if x = c then [] :: fL c xs else match fL c xs with
  | p :: ps => (x :: p) :: ps
  | [] => [[x]]
noncomputable def rp (c : Nat) (s : List Nat) (l : List Nat) : List Nat := l.flatMap fun x => if x = c then s else [x]
theorem Dz (c : Nat) : ∀ l, fL c l ≠ []
 | [] => by simp [fL]
 | x :: xs => by
  unfold fL
  split
  ·simp
  ·split <;> simp
theorem ur (c : Nat) : ∀ l, c ∉ l → fL c l = [l]
 | [], _ => rfl
 | x :: xs, h => by
  have h1 : ¬ x = c := fun e => h (by simp [e])
  rw [fL, if_neg h1, ur c xs fun z => h (by simp [z])]
theorem jn (c : Nat) : ∀ p l, fL c (p ++ c :: l) = fL c p ++ fL c l
 | [], l => by simp [fL]
 | x :: xs, l => by
  rw [List.cons_append, fL, fL, jn c xs l]
  by_cases h : x = c
  ·rw [if_pos h, if_pos h]; rfl
  ·rw [if_neg h, if_neg h]
   cases e : fL c xs with
   | nil => exact absurd e (Dz c xs)
   | cons q qs => rfl
end L3
end
section
set_option Elab.async false
set_option linter.all false
set_option maxRecDepth 100000
namespace L3
open PySem PySem.Spec L2
section
variable {m k mb me : MS} {τ : DS} {G : DH} {e : DS → M D} {c : XD} {x : Str} {ml : DS → M (List D)} {d : D}
noncomputable def Res.tr (r : Res) (mh : XD → MS) (me : MS) : Res := match r with
 | .nx τ' G' => me τ' G'
 | .xn c τ' G' => mh c τ' G'
 | r => r
end
end L3
end
section
set_option Elab.async false
set_option linter.all false
set_option maxRecDepth 100000
namespace L3
open PySem PySem.Spec L2
mutual
noncomputable def D.closed : D → Bool
 | .tup ds => aQ ds
 | .con ds => aQ ds
 | .obj _ => false
 | .xE _ _ => false
 | .lN _ _ => false
 | _ => true
noncomputable def aQ : List D → Bool
 | [] => true
 | d :: r => d.closed && aQ r
end
mutual
noncomputable def D.beq : D → D → Bool
 | .jd, .jd => true
 | .bl a, .bl b => a == b
 | .int a, .int b => a == b
 | .str a, .str b => a == b
 | .tup a, .tup b => qI a b
 | .con a, .con b => qI a b
 | .obj a, .obj b => a == b
 | .fn a, .fn b => a == b
 | .xE a x, .xE b y => a == b && qI x y
 | .lN a x, .lN b y => a == b && qI x y
 | _, _ => false
noncomputable def qI : List D → List D → Bool
 | [], [] => true
 | a :: r, b :: q => a.beq b && qI r q
 | _, _ => false
end
noncomputable def yI : List (Key × D) → List (Key × D) → Bool
 | [], [] => true
 | a :: r, b :: q => decide (a.1 = b.1) && a.2.beq b.2 && yI r q
 | _, _ => false
noncomputable def DO.beq : DO → DO → Bool
 | .lst a, .lst b => qI a b
 | .dead, .dead => true
 | .dct a, .dct b => yI a b
 | .tab a, .tab b => a == b
 | _, _ => false
noncomputable def kQ : DH → DH → Bool
 | [], [] => true
 | a :: r, b :: q => a.beq b && kQ r q
 | _, _ => false
mutual
theorem D.beq_eq : ∀ (a b : D), a.beq b = true → a = b
 | .jd, b, h => by cases b <;> simp_all [D.beq]
 | .bl a, b, h => by cases b <;> simp_all [D.beq]
 | .int a, b, h => by cases b <;> simp_all [D.beq]
 | .str a, b, h => by cases b <;> simp_all [D.beq]
 | .tup a, b, h => by
  cases b <;> try (simp [D.beq] at h; done)
  rename_i y
  rw [pI a y (by simpa [D.beq] using h)]
 | .con a, b, h => by
  cases b <;> try (simp [D.beq] at h; done)
  rename_i y
  rw [pI a y (by simpa [D.beq] using h)]
 | .obj a, b, h => by cases b <;> simp_all [D.beq]
 | .fn a, b, h => by cases b <;> simp_all [D.beq]
 | .xE c x, b, h => by
  cases b <;> try (simp [D.beq] at h; done)
  rename_i d y
  have h' : c = d ∧ qI x y = true := by simpa [D.beq] using h
  rw [h'.1, pI x y h'.2]
 | .lN c x, b, h => by
  cases b <;> try (simp [D.beq] at h; done)
  rename_i d y
  have h' : c = d ∧ qI x y = true := by simpa [D.beq] using h
  rw [h'.1, pI x y h'.2]
theorem pI : ∀ (a b : List D), qI a b = true → a = b
 | [], b, h => by cases b <;> simp_all [qI]
 | x :: r, b, h => by
  cases b with
  | nil => simp [qI] at h
  | cons y q =>
   have h' : x.beq y = true ∧ qI r q = true := by simpa [qI] using h
   rw [D.beq_eq x y h'.1, pI r q h'.2]
end
mutual
theorem D.Ai : ∀ (a : D), a.beq a = true
 | .jd => rfl
 | .bl a => by simp [D.beq]
 | .int a => by simp [D.beq]
 | .str a => by simp [D.beq]
 | .tup a => by simp [D.beq, ki a]
 | .con a => by simp [D.beq, ki a]
 | .obj a => by simp [D.beq]
 | .fn a => by simp [D.beq]
 | .xE c x => by simp [D.beq, ki x]
 | .lN c x => by simp [D.beq, ki x]
theorem ki : ∀ (a : List D), qI a a = true
 | [] => rfl
 | x :: r => by simp [qI, D.Ai x, ki r]
end
theorem xP : ∀ (a : List (Key × D)), yI a a = true
 | [] => rfl
 | x :: r => by simp [yI, D.Ai x.2, xP r]
theorem Cu : ∀ (a b : List (Key × D)), yI a b = true → a = b
 | [], b, h => by cases b <;> simp_all [yI]
 | x :: r, b, h => by
  cases b with
  | nil => simp [yI] at h
  | cons y q =>
   have h' : (x.1 = y.1 ∧ x.2.beq y.2 = true) ∧ yI r q = true := by simpa [yI] using h
   rw [Cu r q h'.2, Prod.ext h'.1.1 (D.beq_eq _ _ h'.1.2)]
theorem iA : ∀ (a : DH), kQ a a = true
 | [] => rfl
 | x :: r => by
  cases x with
  | lst a => simp [kQ, DO.beq, ki a, iA r]
  | dead => simp [kQ, DO.beq, iA r]
  | dct kv => simp [kQ, DO.beq, xP kv, iA r]
  | tab y0 => simp [kQ, DO.beq, iA r]
theorem pJ : ∀ (a b : DH), kQ a b = true → a = b
 | [], b, h => by cases b <;> simp_all [kQ]
 | x :: r, b, h => by
  cases b with
  | nil => simp [kQ] at h
  | cons y q =>
   have h' : x.beq y = true ∧ kQ r q = true := by simpa [kQ] using h
   rw [pJ r q h'.2]
   congr 1
   cases x with
   | lst u =>
    cases y with
    | lst v => rw [pI u v (by simpa [DO.beq] using h'.1)]
    | dead => simp [DO.beq] at h'
    | dct kv => simp [DO.beq] at h'
    | tab y0 => simp [DO.beq] at h'
   | dead =>
    cases y with
    | lst v => simp [DO.beq] at h'
    | dead => rfl
    | dct kv => simp [DO.beq] at h'
    | tab y0 => simp [DO.beq] at h'
   | dct kv =>
    cases y with
    | lst v => simp [DO.beq] at h'
    | dead => simp [DO.beq] at h'
    | dct v => rw [Cu kv v (by simpa [DO.beq] using h'.1)]
    | tab y0 => simp [DO.beq] at h'
   | tab u =>
    cases y with
    | lst v => simp [DO.beq] at h'
    | dead => simp [DO.beq] at h'
    | dct v => simp [DO.beq] at h'
    | tab v => rw [show u = v by simpa [DO.beq] using h'.1]
section
variable {K : PySem.W.Frag} {mg : Str → Option Value} {H H' : Hp} {ρ ρ' : List Addr} {G G' : DH}
mutual
theorem vO : ∀ (d : D) (v : V), d.closed = true → Rep K mg ρ H d v → Rep K mg ρ' H d v
 | .jd, v, c, h => by unfold Rep at h ⊢; exact h
 | .bl b, v, c, h => by unfold Rep at h ⊢; exact h
 | .int i, v, c, h => by unfold Rep at h ⊢; exact h
 | .str x, v, c, h => by unfold Rep at h ⊢; exact h
 | .tup ds, v, c, h => by
  unfold Rep at h ⊢
  obtain ⟨a, xs, e, s, r⟩ := h
  exact ⟨a, xs, e, s, jH ds xs (by simpa [D.closed] using c) r⟩
 | .con ds, v, c, h => by
  unfold Rep at h ⊢
  obtain ⟨a, xs, e, s, r⟩ := h
  exact ⟨a, xs, e, s, jH ds xs (by simpa [D.closed] using c) r⟩
 | .obj n, v, c, h => by simp [D.closed] at c
 | .fn x, v, c, h => by unfold Rep at h ⊢; exact h
 | .xE _ _, v, c, h => by simp [D.closed] at c
 | .lN _ _, v, c, h => by simp [D.closed] at c
theorem jH : ∀ (ds : List D) (vs : List V), aQ ds = true → ay K mg ρ H ds vs → ay K mg ρ' H ds vs
 | [], vs, c, h => by unfold ay at h ⊢; exact h
 | d :: ds, vs, c, h => by
  have c' : d.closed = true ∧ aQ ds = true := by simpa [aQ] using c
  unfold ay at h ⊢
  obtain ⟨v, r, e, h1, h2⟩ := h
  exact ⟨v, r, e, vO d v c'.1 h1, jH ds r c'.2 h2⟩
end
mutual
theorem Rep.back (p : ∃ r, ρ' = ρ ++ r) : ∀ (d : D) (v0 v : V), Rep K mg ρ H d v0 → Rep K mg ρ' H' d v → Rep K mg ρ H' d v
 | .jd, v0, v, h0, h => by unfold Rep at h ⊢; exact h
 | .bl b, v0, v, h0, h => by unfold Rep at h ⊢; exact h
 | .int i, v0, v, h0, h => by unfold Rep at h ⊢; exact h
 | .str x, v0, v, h0, h => by unfold Rep at h ⊢; exact h
 | .tup ds, v0, v, h0, h => by
  unfold Rep at h0 h ⊢
  obtain ⟨a, xs, e, s, r⟩ := h
  obtain ⟨a0, Ij, e0, s0, r0⟩ := h0
  exact ⟨a, xs, e, s, ay.back p ds Ij xs r0 r⟩
 | .con ds, v0, v, h0, h => by
  unfold Rep at h0 h ⊢
  obtain ⟨a, xs, e, s, r⟩ := h
  obtain ⟨a0, Ij, e0, s0, r0⟩ := h0
  exact ⟨a, xs, e, s, ay.back p ds Ij xs r0 r⟩
 | .obj n, v0, v, h0, h => by
  unfold Rep at h0 h ⊢
  obtain ⟨a, e, q⟩ := h
  obtain ⟨a0, e0, q0⟩ := h0
  obtain ⟨r, rfl⟩ := p
  rw [List.getElem?_append_left (List.getElem?_eq_some_iff.mp q0).1] at q
  exact ⟨a, e, q⟩
 | .fn x, v0, v, h0, h => by unfold Rep at h ⊢; exact h
 | .xE c as, v0, v, h0, h => by unfold Rep at h ⊢; exact h
 | .lN y ds, v0, v, h0, h => by
  unfold Rep at h0 h ⊢
  obtain ⟨k, a, cs, xs, e, q0, q1, q2, r⟩ := h
  obtain ⟨_, _, _, Ij, _, _, _, _, r0⟩ := h0
  exact ⟨k, a, cs, xs, e, q0, q1, q2, ay.back p ds Ij xs r0 r⟩
theorem ay.back (p : ∃ r, ρ' = ρ ++ r) : ∀ (ds : List D) (PV vs : List V), ay K mg ρ H ds PV → ay K mg ρ' H' ds vs → ay K mg ρ H' ds vs
 | [], PV, vs, h0, h => by unfold ay at h ⊢; exact h
 | d :: ds, PV, vs, h0, h => by
  unfold ay at h0 h ⊢
  obtain ⟨v, r, e, h1, h2⟩ := h
  obtain ⟨v0, r0, e0, Dm, UD⟩ := h0
  exact ⟨v, r, e, Rep.back p d v0 v Dm h1, ay.back p ds r0 r UD h2⟩
end
theorem kh.cut (h : kh K mg H ρ G) (p : ∃ r, ρ' = ρ ++ r) (h' : kh K mg H' ρ' G') (e : G'.take G.length = G) : kh K mg H' ρ G := by
 refine ⟨h.hl, h.nd, fun n o q => ?_⟩
 have hn : n < G.length := (List.getElem?_eq_some_iff.mp q).1
 have q' : G'[n]? = some o := by
  rw [← e, List.getElem?_take] at q
  rw [if_pos hn] at q; exact q
 obtain ⟨a0, e0, r0⟩ := h.ob n o q
 obtain ⟨a, e1, r1⟩ := h'.ob n o q'
 have ea : a = a0 := by
  obtain ⟨r, rfl⟩ := p
  rw [List.getElem?_append_left (by rw [h.hl]; exact hn), e0] at e1
  exact (Option.some.inj e1).symm
 subst ea
 refine ⟨a, e0, ?_⟩
 cases o with
 | dead => exact r1
 | tab y => exact r1
 | dct kv =>
  obtain ⟨xs, e2, rs⟩ := r1
  obtain ⟨Ij, _, PX⟩ := r0
  exact ⟨xs, e2, ay.back p _ Ij xs PX rs⟩
 | lst ds =>
  obtain ⟨xs, e2, rs⟩ := r1
  obtain ⟨Ij, _, PX⟩ := r0
  exact ⟨xs, e2, ay.back p ds Ij xs PX rs⟩
theorem vf {a : Addr} {o : Obj} {xs : List V} (e : H a = some (.lst xs)) (ρ : List Addr) : eX K H (upd H a (.gY o (.lst xs))) ρ ρ := by
 refine ⟨fun b zs h => ?_, fun b q u h => by rw [aK (mz h e (by intro z; cases z))]; exact h, ⟨[], by simp⟩, fun b φ h => by rw [aK (mz h e (by intro z; cases z))]; exact h⟩
 ·rcases h with (h | ⟨q, h⟩) | h
  ·exact .inl (.inl (by rw [aK (mz h e (by intro z; cases z))]; exact h))
  ·exact .inl (.inr ⟨q, by rw [aK (mz h e (by intro z; cases z))]; exact h⟩)
  ·exact .inr h
theorem kh.gY {n : Nat} {a : Addr} {o : Obj} {xs : List V} (h : kh K mg H ρ G) (hn : ρ[n]? = some a) (e : H a = some (.lst xs)) : kh K mg (upd H a (.gY o (.lst xs))) ρ (G.set n .dead) := by
 have f : eX K H (upd H a (.gY o (.lst xs))) ρ ρ := vf e ρ
 refine ⟨by simp [h.hl], h.nd, fun m ob q => ?_⟩
 by_cases hm : n = m
 ·subst hm
  rw [List.getElem?_set, if_pos rfl] at q
  split at q
  ·cases q
   exact ⟨a, hn, _, cg⟩
  ·cases q
 ·rw [List.getElem?_set_ne hm] at q
  obtain ⟨b, e1, r'⟩ := h.ob m ob q
  have hb : b ≠ a := by
   rintro rfl
   obtain ⟨h1, D6⟩ := List.getElem?_eq_some_iff.mp hn
   obtain ⟨h2, GN⟩ := List.getElem?_eq_some_iff.mp e1
   exact hm ((List.getElem_inj h.nd).mp (D6.trans GN.symm))
  exact ⟨b, e1, r'.mono f fun u q => by rw [aK hb]; exact q⟩
end
section
variable {X : Cx} {EE : fC}
theorem Cv {pins : List (Addr × Obj)} {σ : L2.St} {H : Hp} {s : Shared} {a : Addr} {xs : List V} (I : Inv X pins σ H s) (e : H a = some (.lst xs)) : ∃ o, Inv X pins σ (upd H a (.gY o (.lst xs))) s := by
 obtain ⟨z, its, n, r, hg⟩ := I.hok a _ e
 refine ⟨_, I.un (H' := upd H a (.gY { cls := .type "list", data := .seq its.toArray n } (.lst xs))) (h' := s.heap) (t' := s.toks) ⟨fun b o q _ _ _ => q, fun b o q _ _ _ => ⟨o.slots, q⟩, fun b o q hn _ => ?_, fun b o q _ => ⟨o, q⟩, fun b ys q => ?_, fun b o u q => ?_, fun b ps q => ⟨#[], ?_⟩⟩ fun b u q => ?_⟩
 ·rw [aK (by rintro rfl; rw [e] at hn; cases hn)]; exact hn
 ·rw [aK (mz q e (by intro z; cases z))]; exact q
 ·rw [aK (mz q e (by intro z; cases z))]; exact q
 ·rw [aK (mz q e (by intro z; cases z)), q]; simp
 ·have ho : ∀ c y, H c = some (.own y) → upd H a (.gY { cls := .type "list", data := .seq its.toArray n } (.lst xs)) c = some (.own y) := fun c y w => by rw [aK (mz w e (by intro z; cases z))]; exact w
  have ht : ∀ c ys, H c = some (.tup ys) → upd H a (.gY { cls := .type "list", data := .seq its.toArray n } (.lst xs)) c = some (.tup ys) := fun c ys w => by rw [aK (mz w e (by intro z; cases z))]; exact w
  by_cases hb : b = a
  ·subst hb
   rw [cg] at q; cases q
   exact ⟨hg, (I.hok b _ e).stay (fun _ _ _ w => w) (fun c w => ho c b w) ht⟩
  ·rw [aK hb] at q
   exact (I.hok b u q).stay (fun _ _ _ w => w) (fun c w => ho c b w) ht
noncomputable def uu (m : DS → M D) : DS → M D := fun τ G => match m τ G with
 | .ok (.obj n) G' => match G'[n]? with
  | some (.lst ds) => .ok (.con ds) (G'.set n .dead)
  | _ => .stuck
 | r => r
noncomputable def eFn (m : DS → M D) : DS → M D := fun τ G => match m τ G with
 | .ok (.obj n) G' => match G'[n]? with
  | some (.lst ds) => if n = G.length ∧ G'.length = n + 1 ∧ kQ (G'.take G.length) G = true ∧ aQ ds = true then .ok (.con ds) G else .stuck
  | _ => .stuck
 | r => r
theorem Fx {pins : List (Addr × Obj)} {σ : L2.St} {Q Q' : VK} {u : Value} {s : Shared} (h : EP X pins σ Q' u s) (hq : ∀ v H', Q' v H' → Q v H' ∨ ∃ a xs, v = .ref a ∧ H' a = some (.lst xs) ∧ ∀ o, Q v (upd H' a (.gY o (.lst xs)))) : EP X pins σ Q u s := by
 obtain ⟨v, H', I, r, q⟩ := h
 rcases hq v H' q with q | ⟨a, xs, rfl, e, q⟩
 ·exact ⟨v, H', I, r, q⟩
 ·obtain ⟨o, I'⟩ := Cv I e
  exact ⟨_, _, I', r, q o⟩
theorem vP {e : Expr} {m : DS → M D} (ha : QE X EE e m) : QE X EE e (uu m) := by
 intro pins s σ H Q I ⟨τ, ρ, G, ab, ok⟩
 dsimp only [uu] at ok
 cases q : m τ G with
 | stuck => rw [q] at ok; exact ok.elim
 | dz c G' => rw [q] at ok; exact ha pins s σ H Q I ⟨τ, ρ, G, ab, by rw [q]; exact ok⟩
 | ok d G' =>
  rw [q] at ok
  by_cases hd : ∃ n, d = .obj n
  ·obtain ⟨n, rfl⟩ := hd
   dsimp only at ok
   cases g : G'[n]? with
   | none => rw [g] at ok; exact ok.elim
   | some o =>
    rw [g] at ok
    cases o with
    | dead => exact ok.elim
    | dct kv => exact ok.elim
    | tab y0 => exact ok.elim
    | lst ds =>
     refine gX (ha pins s σ H (fun v H' => ∃ a xs, v = .ref a ∧ H' a = some (.lst xs) ∧ ∀ o, Q v (upd H' a (.gY o (.lst xs)))) I ⟨τ, ρ, G, ab, ?_⟩) fun u s' h => Fx h fun v H' q => .inr q
     rw [q]
     intro v H' ρ' f cB r
     unfold Rep at r
     obtain ⟨a, rfl, hn⟩ := r
     obtain ⟨a', xs, e1, e2, rs⟩ := cB.hp.lst g
     rw [hn] at e1; cases e1
     refine ⟨a, xs, rfl, e2, fun ob => ?_⟩
     have f2 : eX X.K H' (upd H' a (.gY ob (.lst xs))) ρ' ρ' := vf e2 ρ'
     refine ok _ _ ρ' (f.trans f2) ⟨cB.st.mono f2, cB.hp.gY hn e2⟩ ?_
     unfold Rep
     exact ⟨a, xs, rfl, .inl ⟨ob, cg⟩, rs.mono f2⟩
  ·have ok' : mw X.K X.mg EE H σ τ ρ (.ok d G') Q := by
    cases d <;> first | exact ok | exact absurd ⟨_, rfl⟩ hd
   exact ha pins s σ H Q I ⟨τ, ρ, G, ab, by rw [q]; exact ok'⟩
theorem gT {e : Expr} {m : DS → M D} (ha : QE X EE e m) : QE X EE e (eFn m) := by
 intro pins s σ H Q I ⟨τ, ρ, G, ab, ok⟩
 dsimp only [eFn] at ok
 cases q : m τ G with
 | stuck => rw [q] at ok; exact ok.elim
 | dz c G' => rw [q] at ok; exact ha pins s σ H Q I ⟨τ, ρ, G, ab, by rw [q]; exact ok⟩
 | ok d G' =>
  rw [q] at ok
  by_cases hd : ∃ n, d = .obj n
  ·obtain ⟨n, rfl⟩ := hd
   dsimp only at ok
   cases g : G'[n]? with
   | none => rw [g] at ok; exact ok.elim
   | some o =>
    rw [g] at ok
    cases o with
    | dead => exact ok.elim
    | dct kv => exact ok.elim
    | tab y0 => exact ok.elim
    | lst ds =>
     dsimp only at ok
     by_cases hc : n = G.length ∧ G'.length = n + 1 ∧ kQ (G'.take G.length) G = true ∧ aQ ds = true
     ·rw [if_pos hc] at ok
      obtain ⟨hn0, hl, hb, hcl⟩ := hc
      refine gX (ha pins s σ H (fun v H' => ∃ a xs, v = .ref a ∧ H' a = some (.lst xs) ∧ ∀ o, Q v (upd H' a (.gY o (.lst xs)))) I ⟨τ, ρ, G, ab, ?_⟩) fun u s' h => Fx h fun v H' q => .inr q
      rw [q]
      intro v H' ρ' f cB r
      unfold Rep at r
      obtain ⟨a, rfl, hn⟩ := r
      obtain ⟨a', xs, e1, e2, rs⟩ := cB.hp.lst g
      rw [hn] at e1; cases e1
      refine ⟨a, xs, rfl, e2, fun ob => ?_⟩
      have f2 : eX X.K H' (upd H' a (.gY ob (.lst xs))) ρ' ρ' := vf e2 ρ'
      have f3 : eX X.K H (upd H' a (.gY ob (.lst xs))) ρ ρ := ⟨fun b ys w => f2.tup b ys (f.tup b ys w), fun b o u w => f2.gY b o u (f.gY b o u w), ⟨[], by simp⟩, fun b φ w => f2.ext b φ (f.ext b φ w)⟩
      have hp2 := cB.hp.gY (o := ob) hn e2
      have K4 : kh X.K X.mg (upd H' a (.gY ob (.lst xs))) ρ G := ab.hp.cut f.pre hp2 (by
       rw [List.take_set_of_le (by omega)]
       exact pJ _ _ hb)
      refine ok _ _ ρ f3 ⟨ab.st.mono f3, K4⟩ ?_
      unfold Rep
      exact ⟨a, xs, rfl, .inl ⟨ob, cg⟩, jH ds xs hcl (rs.mono f2)⟩
     ·rw [if_neg hc] at ok; exact ok.elim
  ·have ok' : mw X.K X.mg EE H σ τ ρ (.ok d G') Q := by
    cases d <;> first | exact ok | exact absurd ⟨_, rfl⟩ hd
   exact ha pins s σ H Q I ⟨τ, ρ, G, ab, by rw [q]; exact ok'⟩
end
noncomputable def jf (m : List D → M D) : List D → M D := fun ds G => match m ds G with
 | .ok d G' => if kQ (G'.take G.length) G = true ∧ d.closed = true then .ok d G else .stuck
 | .dz c G' => if kQ (G'.take G.length) G = true then .dz c G else .stuck
 | .stuck => .stuck
noncomputable def qJ (m : List D → M D) : List D → M D := fun ds G => match m ds G with
 | .ok (.obj n) G' => match G'[n]? with
  | some (.lst xs) => if kQ (G'.take G.length) G = true ∧ G.length ≤ n ∧ aQ xs = true then .ok (.obj G.length) (G ++ [.lst xs]) else .stuck
  | _ => .stuck
 | .dz c G' => if kQ (G'.take G.length) G = true then .dz c G else .stuck
 | _ => .stuck
section
variable {K : PySem.W.Frag} {mg : Str → Option Value} {n : Nat} {m : List D → M D}
theorem rX {H H' : Hp} {ρ ρ' : List Addr} (f : eX K H H' ρ ρ') : eX K H H' ρ ρ := ⟨f.tup, f.gY, ⟨[], by simp⟩, f.ext⟩
theorem iO (vs : List V) (H : Hp) (Q : VK) (E : XK) (h : aZ K mg n (jf m) vs H Q E) : aZ K mg n m vs H Q E := by
 obtain ⟨ds, ρ, G, hl, hp, rs, ok⟩ := h
 refine ⟨ds, ρ, G, hl, hp, rs, ?_⟩
 dsimp only [jf] at ok
 cases q : m ds G with
 | stuck => rw [q] at ok; exact ok
 | ok d G' =>
  rw [q] at ok
  dsimp only at ok
  by_cases hc : kQ (G'.take G.length) G = true ∧ d.closed = true
  ·rw [if_pos hc] at ok
   intro v H' ρ' f A2 r
   exact ok v H' ρ (rX f) (hp.cut f.pre A2 (pJ _ _ hc.1)) (vO d v hc.2 r)
  ·rw [if_neg hc] at ok; exact ok.elim
 | dz c G' =>
  rw [q] at ok
  dsimp only at ok
  by_cases hc : kQ (G'.take G.length) G = true
  ·rw [if_pos hc] at ok
   intro cls H' ρ' hcl f A2
   exact ok cls H' ρ hcl (rX f) (hp.cut f.pre A2 (pJ _ _ hc))
  ·rw [if_neg hc] at ok; exact ok.elim
theorem Aj (vs : List V) (H : Hp) (Q : VK) (E : XK) (h : aZ K mg n (qJ m) vs H Q E) : aZ K mg n m vs H Q E := by
 obtain ⟨ds, ρ, G, hl, hp, rs, ok⟩ := h
 refine ⟨ds, ρ, G, hl, hp, rs, ?_⟩
 dsimp only [qJ] at ok
 cases q : m ds G with
 | stuck => rw [q] at ok; exact ok
 | dz c G' =>
  rw [q] at ok
  dsimp only at ok
  by_cases hc : kQ (G'.take G.length) G = true
  ·rw [if_pos hc] at ok
   intro cls H' ρ' hcl f A2
   exact ok cls H' ρ hcl (rX f) (hp.cut f.pre A2 (pJ _ _ hc))
  ·rw [if_neg hc] at ok; exact ok.elim
 | ok d G' =>
  rw [q] at ok
  cases d <;> try exact ok.elim
  rename_i k
  dsimp only at ok
  cases g : G'[k]? with
  | none => rw [g] at ok; exact ok.elim
  | some o =>
   rw [g] at ok
   cases o with
   | dead => exact ok.elim
   | dct kv => exact ok.elim
   | tab y0 => exact ok.elim
   | lst xs =>
    dsimp only at ok
    by_cases hc : kQ (G'.take G.length) G = true ∧ G.length ≤ k ∧ aQ xs = true
    ·rw [if_pos hc] at ok
     intro v H' ρ' f A2 r
     unfold Rep at r
     obtain ⟨a, rfl, hn⟩ := r
     obtain ⟨a', ys, e1, e2, rs'⟩ := A2.lst g
     rw [hn] at e1; cases e1
     have hp2 := hp.cut f.pre A2 (pJ _ _ hc.1)
     have hna : a ∉ ρ := by
      intro hm
      obtain ⟨j, hj, ej⟩ := List.getElem_of_mem hm
      obtain ⟨r, rfl⟩ := f.pre
      obtain ⟨h1, D6⟩ := List.getElem?_eq_some_iff.mp hn
      have hjl : j < (ρ ++ r).length := by simp; omega
      have : (ρ ++ r)[j] = (ρ ++ r)[k] := by rw [D6, List.getElem_append_left hj, ej]
      have := (List.getElem_inj A2.nd).mp this
      have := hp.hl
      omega
     refine ok (.ref a) H' (ρ ++ [a]) ((rX f).trans (jF ρ a)) ?_ (by unfold Rep; exact ⟨a, rfl, by rw [← hp.hl]; simp⟩)
     refine ⟨by simp [hp.hl], ?_, fun j ob e => ?_⟩
     ·rw [List.nodup_append]
      refine ⟨hp.nd, by simp, fun x hx y hy => ?_⟩
      have e : y = a := by simpa using hy
      subst e
      rintro rfl
      exact hna hx
     ·by_cases hj : j < G.length
      ·rw [List.getElem?_append_left hj] at e
       obtain ⟨b, e3, r3⟩ := hp2.ob j ob e
       exact ⟨b, (jF (K := K) (H := H') ρ a).get e3, r3.mono (jF ρ a) fun u q => q⟩
      ·have hl2 : j < (G ++ [DO.lst xs]).length := (List.getElem?_eq_some_iff.mp e).1
       have hj' : j = G.length := by simp at hl2; omega
       subst hj'
       rw [bw] at e
       cases e
       exact ⟨a, by rw [← hp.hl, bw], ys, e2, jH xs ys hc.2.2 rs'⟩
    ·rw [if_neg hc] at ok; exact ok.elim
end
end L3
end
section
set_option Elab.async false
set_option linter.all false
set_option maxRecDepth 100000
namespace L3
open PySem PySem.Spec L2
noncomputable def yl (K : PySem.W.Frag) (a : Addr) (n : Nat) : It :=
 ⟨fun i H => ∃ xs x, qx K H a xs ∧ xs.length = n ∧ i < n ∧ xs[n - 1 - i]? = some x, fun i H y H' => H' = H ∧ ∀ xs, qx K H a xs → xs[n - 1 - i]? = some y, fun i H => i = n⟩
theorem Fy {P : Program} {w : World} {K : PySem.W.Frag} {tg : Expr} (a it : Addr) (n : Nat) : Turn P w K tg (yl K a n) [it] it (fun i h => h.IsRevIter it a ((n : Int) - 1 - (i : Int))) where
 mem := by simp
 obj := fun i h st b hb => by
  have e : b = it := by simpa using hb
  subst e
  obtain ⟨o, e, c, d⟩ := st
  exact ⟨o, e, fun v z => by rw [d] at z; cases z⟩
 keep := fun i h h' st k => st.at fun o e => k it (by simp) o e
 item := by
  intro X hP hw hK hc i pins s σ H E I hf st hg
  subst hP hw hK
  obtain ⟨xs, x, hq, hn, hi, hx⟩ := hg
  obtain ⟨its, rv, p, hz⟩ := I.list hq
  obtain ⟨u, hu, ru⟩ := rv.get hx
  obtain ⟨f0, f1, f2, f3, f4, f5⟩ := hf it (by simp)
  have e : (n : Int) - 1 - (i : Int) = ((n - 1 - i : Nat) : Int) := by omega
  rw [e] at st
  refine wpAny_pyNext_rev_item st p.isList (x := u) (by simpa using hu) fun h' st' sb => ?_
  have I1 : Inv X pins σ H { s with heap := h' } := I.turned (t' := s.toks) (fun b o hb e => (sb.2 b hb).trans e) f0 f1 f3 f4 f5
  have e2 : ((n - 1 - i : Nat) : Int) - 1 = (n : Int) - 1 - ((i + 1 : Nat) : Int) := by omega
  rw [e2] at st'
  obtain ⟨o, e, c, d⟩ := id st'
  exact ⟨u, rfl, zF (s := { s with heap := h' }) e c d (by decide) ⟨x, H, I1, ru, ⟨rfl, fun ys hy => by rw [I.vn hy hq]; exact hx⟩, st', fun b hb => (hf b hb).1⟩⟩
 done := by
  intro X hP hw hK hc i pins s σ H E I hf st hg
  subst hP hw hK
  have hi : i = n := hg
  subst hi
  obtain ⟨f0, f1, f2, f3, f4, f5⟩ := hf it (by simp)
  rw [show (i : Int) - 1 - (i : Int) = -1 by omega] at st
  exact wpAny_pyNext_rev_end (I.ok.hd hc) st fun h' eb => ⟨rfl, I.turned (t' := s.toks) (fun b o hb e => eb b o hb e) f0 f1 f3 f4 f5⟩
 self := fun _ _ _ _ _ st h => wpAny_pyIter_revIter st h
noncomputable def By (d : D) (n : Nat) : View := fun G i => match bS G d with
 | some (.lst xs) => if xs.length = n then (if i = n then some none else if i < n then some xs[n - 1 - i]? else none) else none
 | _ => none
noncomputable def Ik (m : DS → M (List D)) : MI := fun τ => (m τ).bind fun ds => match ds with
 | [d] => fun G => match bS G d with
  | some (.lst xs) => .ok (xs.length + 1, By d xs.length) G
  | _ => .stuck
 | _ => M.stop
section
variable {X : Cx} {EE : fC} {tg iter a b : Expr} {g : rP} {mi : MI} {ms : MS} {pos p pc : Pos} {m : DS → M (List D)}
theorem Fz {H : Hp} {ρ ρ' : List Addr} {H' : Hp} {G' : DH} {d : D} {l : Addr} {ws : List D} (f : eX X.K H H' ρ ρ') (rx : Rep X.K X.mg ρ H d (.ref l)) (hp : kh X.K X.mg H' ρ' G') (q : bS G' d = some (.lst ws)) : ∃ xs, qx X.K H' l xs ∧ ay X.K X.mg ρ' H' ws xs := by
 have Ow := rx.mono f
 cases d with
 | con ds =>
  cases q
  unfold Rep at Ow
  obtain ⟨a', xs, e, s, r⟩ := Ow
  cases e
  exact ⟨xs, s.seq, r⟩
 | obj n =>
  unfold Rep at Ow
  obtain ⟨a', e, r⟩ := Ow
  cases e
  dsimp only [bS] at q
  cases g : G'[n]? with
  | none => rw [g] at q; cases q
  | some o =>
   cases o with
   | dead => rw [g] at q; cases q
   | dct kv => rw [g] at q; cases q
   | tab y0 => rw [g] at q; cases q
   | lst ys =>
    rw [g] at q; cases q
    obtain ⟨a', xs, e1, e2, rs⟩ := hp.lst g
    rw [r] at e1; cases e1
    exact ⟨xs, .inl (.of e2), rs⟩
 | _ => cases q
theorem K5 {H : Hp} {ρ : List Addr} {d : D} {l : Addr} {n : Nat} (rx : Rep X.K X.mg ρ H d (.ref l)) : JV X.K X.mg (yl X.K l n) (By d n) H ρ := by
 intro i H' ρ' G' f hp
 unfold By
 cases q : bS G' d with
 | none => exact ⟨fun e => (by cases e), fun x e => (by cases e)⟩
 | some sk =>
  cases sk with
  | tup zs => exact ⟨fun e => (by cases e), fun x e => (by cases e)⟩
  | str z => exact ⟨fun e => (by cases e), fun x e => (by cases e)⟩
  | lst zs =>
   dsimp only
   by_cases hn : zs.length = n
   ·rw [if_pos hn]
    by_cases hi : i = n
    ·rw [if_pos hi]
     exact ⟨fun _ => hi, fun x e => (by cases e)⟩
    ·rw [if_neg hi]
     by_cases hlt : i < n
     ·rw [if_pos hlt]
      obtain ⟨xs, sq, rs⟩ := Fz f rx hp q
      refine ⟨fun e => ?_, fun x e => ?_⟩
      ·have := Option.some.inj e
       rw [List.getElem?_eq_none_iff] at this
       omega
      ·have e' := Option.some.inj e
       obtain ⟨v, hv, rv⟩ := rs.get e'
       refine ⟨⟨xs, v, sq, by rw [← rs.length]; exact hn, hlt, hv⟩, fun y H2 hy => ?_⟩
       obtain ⟨rfl, hy⟩ := hy
       have := hy xs sq
       rw [hv] at this; cases this
       exact ⟨⟨.refl, fun _ h => h⟩, rv⟩
     ·rw [if_neg hlt]; exact ⟨fun e => (by cases e), fun x e => (by cases e)⟩
   ·rw [if_neg hn]; exact ⟨fun e => (by cases e), fun x e => (by cases e)⟩
theorem K6 (hm : X.mg "reversed" = none) (EO : Gl X "reversed") (ha : QA X EE [a] m) (h : aL [a] = true := by rfl) : QI X EE tg (.Call (.Name "reversed" p) [a] [] pc) (Ik m) := by
 have h' : fJ a = true ∧ aL [] = true := by simpa [aL] using h
 intro pins s σ H R I hq
 obtain ⟨τ, ρ, G, ab, ok⟩ := hq
 dsimp only [Ik, M.bind] at ok
 refine wpAny_Call_Name_kw (mV I EO hm z9 ?_ (by decide) (by decide))
 have hA : ue X.K X.mg EE m σ H fun vs H1 => ∃ ρ1 G1 ds, Ab X.K X.mg σ H1 τ ρ1 G1 ∧ eX X.K H H1 ρ ρ1 ∧ ay X.K X.mg ρ1 H1 ds vs ∧ m τ G = .ok ds G1 := by
  refine ⟨τ, ρ, G, ab, ?_⟩
  cases e : m τ G with
  | stuck => rw [e] at ok; exact ok
  | dz c G' => rw [e] at ok; exact ok
  | ok ds G' => exact fun vs H' ρ' f cB r => ⟨ρ', G', ds, cB, f, r, rfl⟩
 refine PyProof.Rows.callWith_type1 (gX (ha pc pins s σ H _ I hA) fun us s1 Hs => ?_) (cW h'.1 _ _) (dI (es := []) rfl)
 obtain ⟨vs, H1, I1, r1, ρ1, G1, ds, rO, f1, rs, em⟩ := Hs
 rw [em] at ok
 dsimp only at ok
 match ds, rs, ok with
 | [], _, ok => exact ok.elim
 | _ :: _ :: _, _, ok => exact ok.elim
 | [d], rs, ok =>
  obtain ⟨x, rfl, rx⟩ := oh rs
  obtain ⟨u, rfl, ru⟩ := vals1 r1
  dsimp only at ok
  cases q : bS G1 d with
  | none => rw [q] at ok; exact ok.elim
  | some sk =>
   rw [q] at ok
   cases sk with
   | tup zs => exact ok.elim
   | str z => exact ok.elim
   | lst zs =>
    dsimp only at ok
    obtain ⟨l, ys, rfl, sq, rv⟩ := d8 (pins := pins) (σ0 := σ) (s := s1) rO.hp rx q
    cases ru
    obtain ⟨its, vv, pl, hz⟩ := I1.list sq
    refine call_reversed_list pl.isList ?_
    have hst : (s1.heap.push (revObj l ((its.toArray.size : Int) - 1))).IsRevIter s1.heap.objs.size l ((its.toArray.size : Int) - 1) := ⟨_, Heap.get?_push_size _ rfl, rfl, rfl⟩
    refine wpAny_pyIter_revIter (s := { s1 with heap := s1.heap.push (revObj l ((its.toArray.size : Int) - 1)) }) hst ?_
    have I2 : Inv X pins σ H1 { s1 with heap := s1.heap.push (revObj l ((its.toArray.size : Int) - 1)) } := I1.kept (t' := s1.toks) fun b o e => Heap.get?_push_of_some _ e
    have hlen : its.toArray.size = zs.length := by rw [List.size_toArray, ← vv.length, rv.length]
    refine ⟨s1.heap.objs.size, [s1.heap.objs.size], _, yl X.K l zs.length, H1, rfl, I2, Fy l _ _, ?_, fun b hb => ?_, ok _ H1 ρ1 f1 rO (K5 rx)⟩
    ·show (s1.heap.push (revObj l ((its.toArray.size : Int) - 1))).IsRevIter s1.heap.objs.size l ((zs.length : Int) - 1 - ((0 : Nat) : Int))
     rw [← hlen]
     simpa using hst
    ·rw [List.mem_singleton.mp hb]
     exact I1.CZ (Nat.le_refl _) (I1.hok.fresh (Nat.le_refl _))
end
end L3
end
section
set_option Elab.async false
set_option linter.all false
set_option maxRecDepth 100000
namespace L3
open PySem PySem.Spec L2
theorem boot_zip : bootBuiltins "zip" = some (.type "zip") := by decide +kernel
section
variable {X : Cx} {EE : fC} {tg iter a b : Expr} {g : rP} {mi : MI} {ms : MS} {pos p pc : Pos} {m : DS → M (List D)}
end
end L3
end
section
set_option Elab.async false
set_option linter.all false
set_option maxRecDepth 100000
namespace L3
open PySem PySem.Spec L2 PyProof.Rows
section
variable {X : Cx} {EE : fC} {a b e : Expr} {ma mb : DS → M D} {pos : Pos}
theorem Il : qy X (binaryOp .Add) (fun x y H Q => ∃ l b xs zs, x = .ref l ∧ y = .ref b ∧ qx X.K H l xs ∧ qx X.K H b zs ∧ xs.length + zs.length ≤ sizeLine ∧ ∀ p, H p = none → Q (.ref p) (upd H p (.lst (xs ++ zs)))) := by
 intro pins s σ H x y v u Q I rx ry h
 obtain ⟨l, b, xs, zs, rfl, rfl, hH, hB, hz, q⟩ := h
 cases rx
 cases ry
 obtain ⟨its, r, ⟨o, n, e, c, dn, d⟩, hl⟩ := I.list hH
 obtain ⟨its2, r2, ⟨o2, n2, e2, c2, M8, d2⟩, hl2⟩ := I.list hB
 obtain ⟨cls, dd, data, sl⟩ := o
 obtain ⟨Kl, dd2, data2, sl2⟩ := o2
 simp only at c dn d c2 M8 d2
 subst c dn d c2 M8 d2
 have hlen := r.length
 have hlen2 := r2.length
 have ea : its.toArray ++ its2.toArray = (its ++ its2).toArray := by simp
 refine concat_meets ⟨_, e, rfl⟩ ⟨_, e2, rfl⟩ noFill_list_add seq_list_add PySem.F.slot_list_add PySem.F.entry_list_add (PySem.F.args_list_add_2 _ _) (list_addW l b its.toArray its2.toArray n n2 _ _ sl sl2 (by simp only [List.size_toArray]; omega)) ⟨e, e2, ?_⟩
 rw [ea]
 exact ⟨.ref _, _, I.Pk (t' := s.toks) (r.append r2) (by rw [List.length_append]; omega), rfl, q _ I.fresh⟩
theorem Im : qy X (binaryOp .Add) (fun x y H Q => ∃ a b ys, x = .ref a ∧ y = .ref b ∧ pQ X.K H a [] ∧ pQ X.K H b ys ∧ Q (.ref b) H) := by
 intro pins s σ H x y v u Q I rx ry h
 obtain ⟨a, b, ys, rfl, rfl, ha, hb, q⟩ := h
 cases rx
 cases ry
 obtain ⟨its, r1, p1, _⟩ := I.tuple ha
 obtain ⟨its2, r2, p2, _⟩ := I.tuple hb
 have e0 : its = [] := by cases r1; rfl
 subst e0
 obtain ⟨⟨cls, dd, data, sl⟩, ho, hc, n, hd⟩ := id p1
 obtain ⟨⟨Kl, dd2, data2, sl2⟩, ho2, hc2, n2, hd2⟩ := id p2
 simp only at hc hd hc2 hd2
 subst hc hd hc2 hd2
 exact concat_meets ⟨_, ho, rfl⟩ ⟨_, ho2, rfl⟩ noFill_tuple_add seq_tuple_add PySem.F.slot_tuple_add PySem.F.entry_tuple_add (PySem.F.args_tuple_add_2 _ _)
   (tuple_addW0 a b _ _ n n2 dd dd2 sl sl2 (by simp)) ⟨ho, ho2, ⟨.ref b, H, I, rfl, q⟩⟩
noncomputable def qK (G : DH) : D → Option (List D)
 | .con xs => some xs
 | .obj n => match G[n]? with
  | some (.lst xs) => some xs
  | _ => none
 | _ => none
theorem vQ {G : DH} {d : D} {xs : List D} (h : qK G d = some xs) : bS G d = some (.lst xs) := by
 cases d with
 | con ys => cases h; rfl
 | obj n =>
  dsimp only [qK] at h
  dsimp only [bS]
  cases g : G[n]? with
  | none => rw [g] at h; cases h
  | some o =>
   cases o with
   | dead => rw [g] at h; cases h
   | dct kv => rw [g] at h; cases h
   | tab y0 => rw [g] at h; cases h
   | lst ys => rw [g] at h; cases h; rfl
 | _ => cases h
noncomputable def eF (d e : D) : M D := fun G => match d, e with
 | .int i, .int j => .ok (.int (i + j)) G
 | .str i, .str j => if i.length + j.length ≤ sizeLine then .ok (.str (i ++ j)) G else .stuck
 | .tup [], .tup ys => .ok (.tup ys) G
 | .tup (x :: xs), .tup ys => bY (x :: xs ++ ys) G
 | d, e => match qK G d, qK G e with
  | some xs, some ys => bU (xs ++ ys) G
  | _, _ => .stuck
theorem Io : qy X (binaryOp .Add) (rD X EE eF) := by
 intro pins s σ0 H x y v u Q I rx ry ⟨σ, τ, ρ, G, d, e, ab, r1, r2, ok⟩
 have lists : ∀ xs ys, qK G d = some xs → qK G e = some ys → mw X.K X.mg EE H σ τ ρ (bU (xs ++ ys) G) Q → wpAny (model X.prog X.w) X.A (binaryOp .Add v u) (EP X pins σ0 Q) X.xe s := fun xs ys h1 h2 ok => by
  obtain ⟨l, vs, rfl, s1, t1⟩ := d8 (pins := pins) (σ0 := σ0) (s := s) ab.hp r1 (vQ h1)
  obtain ⟨l2, ws, rfl, s2, t2⟩ := d8 (pins := pins) (σ0 := σ0) (s := s) ab.hp r2 (vQ h2)
  obtain ⟨hl, q1⟩ := tL ab (t1.append t2) ok
  rw [List.length_append] at hl
  exact Il pins s σ0 H _ _ v u Q I rx ry ⟨l, l2, vs, ws, rfl, rfl, s1, s2, hl, q1⟩
 have rest : (mw X.K X.mg EE H σ τ ρ (match qK G d, qK G e with
  | some xs, some ys => bU (xs ++ ys) G
  | _, _ => .stuck) Q) → wpAny (model X.prog X.w) X.A (binaryOp .Add v u) (EP X pins σ0 Q) X.xe s := fun ok => by
  cases h1 : qK G d with
  | none => rw [h1] at ok; exact ok.elim
  | some xs =>
   cases h2 : qK G e with
   | none => rw [h1, h2] at ok; exact ok.elim
   | some ys => rw [h1, h2] at ok; exact lists xs ys h1 h2 ok
 cases d with
 | int i =>
  cases e with
  | int j =>
   unfold Rep at r1 r2; subst r1 r2
   exact J4 pins s σ0 H _ _ v u Q I rx ry ⟨i, j, rfl, rfl, ok _ H ρ .refl ab (by unfold Rep; rfl)⟩
  | _ => exact rest ok
 | str i =>
  cases e with
  | str j =>
   unfold Rep at r1 r2; subst r1 r2
   dsimp only [eF] at ok
   by_cases h : i.length + j.length ≤ sizeLine
   ·rw [if_pos h] at ok
    exact Bb pins s σ0 H _ _ v u Q I rx ry ⟨i, j, rfl, rfl, h, ok _ H ρ .refl ab (by unfold Rep; rfl)⟩
   ·rw [if_neg h] at ok; exact ok.elim
  | _ => exact rest ok
 | tup xs =>
  cases e with
  | tup ys =>
   have r2' := r2
   unfold Rep at r1 r2
   obtain ⟨p, vs, rfl, s1, t1⟩ := r1
   obtain ⟨q, ws, rfl, s2, t2⟩ := r2
   cases xs with
   | nil =>
    have hv : vs = [] := by have := t1.length; cases vs with | nil => rfl | cons _ _ => simp at this
    subst hv
    exact Im pins s σ0 H _ _ v u Q I rx ry ⟨p, q, ws, rfl, rfl, s1, s2, ok _ H ρ .refl ab r2'⟩
   | cons x xs =>
    have ok' : mw X.K X.mg EE H σ τ ρ (bY (x :: xs ++ ys) G) Q := ok
    have UE := t1.append t2
    obtain ⟨hl, q1⟩ := yu ab UE ok'
    rw [List.length_append] at hl
    have hv : vs ≠ [] := by
     intro z; subst z
     have := t1.length
     simp at this
    refine Hl pins s σ0 H _ _ v u Q I rx ry ⟨p, q, vs, ws, rfl, rfl, s1, s2, hv, hl, fun z => ?_, fun z p hp => q1 p hp⟩
    subst z
    have hy : ys = [] := by
     have := t2.length
     cases ys with
     | nil => rfl
     | cons _ _ => simp at this
    subst hy
    unfold bY at ok'
    split at ok'
    ·exact ok' _ H ρ .refl ab (by rw [List.append_nil]; unfold Rep; exact ⟨p, vs, rfl, s1, t1⟩)
    ·exact ok'.elim
  | _ => cases xs <;> exact rest ok
 | _ => exact rest (by cases e <;> exact ok)
theorem eH (ha : QE X EE a ma) (hb : QE X EE b mb) : QE X EE (.BinOp a .Add b pos) (aM eF ma mb) := xF Io rL ha hb
theorem K7 {pins : List (Addr × Obj)} {Dd D' : Ends} {f : Flow} {s : Shared} (h : SP X pins D' f s) (hb : D'.bk = Dd.bk) (hc : D'.ct = Dd.ct) (hr : D'.rt = Dd.rt)
  (hq : ∀ σ H, D'.nx σ H → Dd.nx σ H ∨ ∃ a xs, H a = some (.lst xs) ∧ ∀ o, Dd.nx σ (upd H a (.gY o (.lst xs)))) : SP X pins Dd f s := by
 obtain ⟨nx, bk, ct, rt⟩ := D'
 subst hb hc hr
 cases f with
 | next =>
  obtain ⟨σ', H', I, q⟩ := h
  rcases hq σ' H' q with q | ⟨a, xs, e, q⟩
  ·exact ⟨σ', H', I, q⟩
  ·obtain ⟨o, I'⟩ := Cv I e
   exact ⟨σ', _, I', q o⟩
 | _ => exact h
theorem BA (l : Addr) (items : Array Value) (n : Nat) (b : Addr) (items2 : Array Value) (n2 : Nat) (sl2 : Array (Option Value)) (hc0 : ¬(!items.isEmpty && Builtin.List.listTooLong (items.size + items2.size)) = true) (hc1 : items.size ≤ sizeLine) (hs2 : items.size + items2.size ≤ sizeLine + 1) :
  Meets (Builtin.«list.extend» ⟨[.ref l, .ref b], []⟩) (fun _ R s => s.heap.get? l = some { cls := .type "list", dict := none, data := .seq items n, slots := #[] } ∧ s.heap.get? b = some { cls := .type "list", dict := none, data := .seq items2 n2, slots := sl2 } ∧ R (.ok (.ret Value.none)) { s with heap := s.heap.update l (Obj.mapSeq fun x => x ++ items2), toks := s.toks }) :=
 .of_wp fun prog w A R s h => by
  obtain ⟨hp, g, d, tk, os⟩ := s; obtain ⟨hl, hb, h⟩ := h; have f1 := AutoSeq1.idx_int; have f2 := AutoSeq1.sub_tuple_tuple; have f3 := AutoSeq1.sub_list_list; have f4 := AutoSeq1.sub_tuple_list; have f5 := AutoSeq1.sub_list_tuple;
  have hz' : (items ++ items2).size ≤ sizeLine + 1 := by rw [Array.size_append]; exact hs2
  wp_walk using (wpAny_updateSeq hl rfl (hz := hc1) (_hz' := hz')), wpAny_loadPart' hl, wpAny_loadPart' hb; exact ⟨_, rfl, h⟩
theorem BB : Jb X "list.extend" (fun x vs H Q => ∃ l b xs zs, x = .ref l ∧ vs = [.ref b] ∧ H l = some (.lst xs) ∧ qx X.K H b zs ∧ xs.length + zs.length ≤ sizeLine ∧ Q .jd (upd H l (.lst (xs ++ zs)))) := by
 intro pins s σ H x vs v us Q I rx rv h
 obtain ⟨l, b, xs, zs, rfl, rfl, hH, hB, hz, q⟩ := h
 cases rx
 obtain ⟨u, rfl, ru⟩ := rv.one
 cases ru
 obtain ⟨z, its, n, r, hl, e⟩ := I.Ku hH
 obtain ⟨its2, r2, ⟨o2, n2, e2, c2, M8, d2⟩, _⟩ := I.list hB
 obtain ⟨Kl, dd2, data2, sl2⟩ := o2
 simp only at c2 M8 d2
 subst c2 M8 d2
 have hl2 := r2.length
 have hsz : its.toArray.size + its2.toArray.size ≤ sizeLine := by rw [List.size_toArray, List.size_toArray]; omega
 have M9 : ¬ (!its.toArray.isEmpty && Builtin.List.listTooLong (its.toArray.size + its2.toArray.size)) = true := by
  rw [Ex hsz, Bool.and_false]
  exact Bool.false_ne_true
 refine call_meets F.slot_list_extend ⟨_, e, rfl⟩ F.entry_list_extend (F.args_list_extend_2 _ _)
  (BA l its.toArray n b its2.toArray n2 sl2 M9 (by rw [List.size_toArray]; omega) (by omega)) ⟨e, e2, ?_⟩
 refine ⟨.jd, _, I.Ks (its' := its ++ its2) hH e (by simp) (r.append r2) ?_, rfl, q⟩
 rw [List.length_append]
 omega
noncomputable def rY : D → List D → M D
 | .obj n, [y] => fun G => match G[n]?, qK G y with
  | some (.lst xs), some ys => if xs.length + ys.length ≤ sizeLine then .ok .jd (G.set n (.lst (xs ++ ys))) else .stuck
  | _, _ => .stuck
 | _, _ => M.stop
theorem Ip : Jb X "list.extend" (MJ X EE rY) := by
 intro pins s σ0 H x xs v us Q I rx MK ⟨σ, τ, ρ, G, d, ds, ab, rd, D7, ok⟩
 cases d <;> try exact ok.elim
 rename_i n
 match ds, ok with
 | [], ok => exact ok.elim
 | a :: _ :: _, ok => exact ok.elim
 | [y], ok =>
  obtain ⟨yv, rfl, ry⟩ := oh D7
  unfold Rep at rd
  obtain ⟨p, rfl, e1⟩ := rd
  dsimp only [rY] at ok
  cases g : G[n]? with
  | none => rw [g] at ok; exact ok.elim
  | some o =>
   cases g2 : qK G y with
   | none => rw [g, g2] at ok; cases o <;> exact ok.elim
   | some ys =>
    rw [g, g2] at ok
    cases o with
    | dead => exact ok.elim
    | dct kv => exact ok.elim
    | tab y0 => exact ok.elim
    | lst zs =>
     dsimp only at ok
     obtain ⟨p', vs, e3, hp, rs⟩ := ab.hp.lst g
     rw [e1] at e3; cases e3
     obtain ⟨p2, ws, rfl, s2, Na⟩ := d8 (pins := pins) (σ0 := σ0) (s := s) ab.hp ry (vQ g2)
     by_cases hz : zs.length + ys.length ≤ sizeLine
     ·rw [if_pos hz] at ok
      exact BB pins s σ0 H _ _ v us Q I rx MK ⟨p, p2, vs, ws, rfl, rfl, hp, s2, by rw [← rs.length, ← Na.length]; exact hz, Bo (xs := zs) ab e1 hp (rs.append Na) (fun _ _ => by unfold Rep; rfl) ok⟩
     ·rw [if_neg hz] at ok; exact ok.elim
theorem yJ {o : Expr} {apos cpos : Pos} {mo : DS → M D} {m : DS → M (List D)} (ho : QE X EE o mo) (ha : QA X EE [e] m) (hb : yD o = true := by rfl) (h : aL [e] = true := by rfl) (hline : (apos.endLine == cpos.line) = true := by rfl) : QE X EE (.Call (.Attribute o "extend" apos) [e] [] cpos) (cU "list" rY mo m) := by
 have h' : fJ e = true ∧ aL [] = true := by simpa [aL] using h
 exact Jg F.plainAttrs_list F.slot_list_extend F.type_list_extend Ip ho ha (kZ hb _ _) (E5 h (by simp)) hline (cW h'.1 _ _) (dI (es := []) rfl)
end
end L3
end
section
set_option Elab.async false
set_option linter.all false
set_option maxRecDepth 100000
namespace L3
open PySem PySem.Spec L2 PyProof.Rows
section
variable {X : Cx} {EE : fC} {tg iter a b c : Expr} {pos p pc : Pos} {m : DS → M (List D)}
end
end L3
end
section
set_option Elab.async false
set_option linter.all false
set_option maxRecDepth 100000
namespace L3
open PySem PySem.Spec L2
section
variable {K : PySem.W.Frag} {mg : Str → Option Value} {H : Hp} {ρ : List Addr} {G : DH}
theorem kh.dct {n : Nat} {kvs : List (Key × D)} (h : kh K mg H ρ G) (e : G[n]? = some (.dct kvs)) : ∃ a xs, ρ[n]? = some a ∧ H a = some (.dK ((kvs.map (·.1)).zip xs)) ∧ ay K mg ρ H (kvs.map (·.2)) xs := by
 obtain ⟨a, e1, xs, e2, r⟩ := h.ob n _ e
 exact ⟨a, xs, e1, e2, r⟩
end
section
variable {X : Cx} {EE : fC} {e f o i a : Expr} {pos apos cpos tpos : Pos} {mo me mf mv mi : DS → M D}
end
end L3
end
section
set_option Elab.async false
set_option linter.all false
set_option maxRecDepth 100000
namespace L3
open PySem PySem.Spec L2 PyProof.Rows
section
variable {X : Cx} {EE : fC} {e : Expr} {m : DS → M (List D)} {p p2 pos pos2 : Pos}
end
end L3
end
section
set_option Elab.async false
set_option linter.all false
set_option maxRecDepth 100000
namespace L3
open PySem PySem.Spec L2
section
variable {prog : Program} {w : World} {A : Around} {E : Value → Shared → Prop} {s : Shared}
theorem uM {it t : Addr} {i : Nat} {items : Array Value} {x : Value} {Q : Value → Shared → Prop} (hit : s.heap.IsTupleIter it t i)
  (ht : s.heap.IsTuple t items) (hx : items[i]? = some x)
  (hQ : ∀ h', h'.IsTupleIter it t (i + 1) → Heap.SameBut it s.heap h' → Q x { s with heap := h' }) :
  wpAny (model prog w) A (Builtin.SmallTypes.nextOf (.ref it)) Q E s := by
 obtain ⟨o, ho, hc, hd⟩ := id hit
 obtain ⟨ol, LJ, _, nl, hdl⟩ := ht
 unfold Builtin.SmallTypes.nextOf
 refine wpAny_bind (wpAny_callSpecial?_slot (name := Str.ofString "__next__") hit.typeIs F.slot_tuple_iterator_next
  (wpAny_call_entry F.slot_tuple_iterator_next hit.typeIs F.entry_tuple_iterator_next ?_ (F.args_tuple_iterator_next_1 _)))
 show wpAny _ _ (field (.ref it) 0 >>= _) _ _ s
 refine wpAny_bind (wpAny_field ho hd (x := .ref t) rfl ?_)
 show wpAny _ _ (if (Value.ref t == Value.none) = true then _ else _) _ _ s
 rw [if_neg (show ¬ ((Value.ref t == Value.none) = true) from Bool.false_ne_true)]
 show wpAny _ _ (field (.ref it) 1 >>= _) _ _ s
 refine wpAny_bind (wpAny_field ho hd (x := .int i 0) rfl ?_)
 show wpAny _ _ (seqItems? (.ref t) >>= _) _ _ s
 refine wpAny_bind (wpAny_seqItems LJ hdl ?_)
 simp only [Int.toNat_natCast, hx]
 refine wpAny_bind (wpAny_setField ho hd (by simp) (wpAny_pure ⟨x, rfl, wpAny_pure (hQ _ ?_ (Heap.SameBut.update ..))⟩))
 exact ⟨_, Heap.get?_update_self _ ho (Obj.isFreed_of_fields (Obj.data_mapFields hd _)), (Obj.cls_mapFields ..).trans hc, by
  rw [Obj.data_mapFields hd]; simp [rawInt]⟩
theorem vR {it t : Addr} {i : Nat} {items : Array Value} {Q : Value → Shared → Prop} (hh : A.handled = none)
  (hit : s.heap.IsTupleIter it t i) (ht : s.heap.IsTuple t items) (hx : items[i]? = none)
  (hE : ∀ h' e, Heap.ExtBut it s.heap h' → (∃ o, h'.get? e = some o ∧ o.cls = .type "StopIteration") → E (.ref e) { s with heap := h' }) :
  wpAny (model prog w) A (Builtin.SmallTypes.nextOf (.ref it)) Q E s := by
 obtain ⟨o, ho, hc, hd⟩ := id hit
 obtain ⟨ol, LJ, _, nl, hdl⟩ := ht
 unfold Builtin.SmallTypes.nextOf
 refine wpAny_bind (wpAny_callSpecial?_slot (name := Str.ofString "__next__") hit.typeIs F.slot_tuple_iterator_next
  (wpAny_call_entry F.slot_tuple_iterator_next hit.typeIs F.entry_tuple_iterator_next ?_ (F.args_tuple_iterator_next_1 _)))
 show wpAny _ _ (field (.ref it) 0 >>= _) _ _ s
 refine wpAny_bind (wpAny_field ho hd (x := .ref t) rfl ?_)
 show wpAny _ _ (if (Value.ref t == Value.none) = true then _ else _) _ _ s
 rw [if_neg (show ¬ ((Value.ref t == Value.none) = true) from Bool.false_ne_true)]
 show wpAny _ _ (field (.ref it) 1 >>= _) _ _ s
 refine wpAny_bind (wpAny_field ho hd (x := .int i 0) rfl ?_)
 show wpAny _ _ (seqItems? (.ref t) >>= _) _ _ s
 refine wpAny_bind (wpAny_seqItems LJ hdl ?_)
 simp only [Int.toNat_natCast, hx]
 refine wpAny_bind (wpAny_rule (wpAny_bind (wpAny_setField ho hd (by simp) ?_)))
 show wpAny _ _ (newExc (.type "StopIteration") [] >>= _) _ _ _
 refine wpAny_bind ?_
 simp only [newExc, newTuple]
 refine wpAny_bind (wpAny_newObj_type ?_ (by size_fits))
 refine wpAny_bind (m := firstArgMember _ _) (wpAny_of_eq (a := Value.none) (by first | rfl | (simp only [firstArgMember]; rfl)) ?_)
 refine wpAny_newObj_type ?_ (by size_fits)
 simp only [raiseNew]
 refine wpAny_bind (wpAny_handled ?_)
 first | rw [show A.in1.handled = none from hh] | rw [hh]
 refine wpAny_bind (wpAny_pure (wpAny_throw ?_))
 exact hE _ _ (((Heap.SameBut.update ..).extBut.push _).push _) ⟨_, Heap.get?_push_size _ rfl, rfl⟩
end
section
variable {X : Cx} {EE : fC} {a : Expr} {p pc : Pos} {m : DS → M (List D)}
end
noncomputable abbrev DN (s : Str) : Prop := (s == ("__debug__" : Str)) = false ∧ (s == ("__classdict__" : Str)) = false
noncomputable abbrev LK (f : Scope) (s : Str) (k : NameKind) : Prop := f.names.lookup s = some k
end L3
end
section
set_option Elab.async false
set_option linter.all false
set_option maxRecDepth 100000
namespace L3
open PySem PySem.Spec L2
noncomputable def Out.fw (r : Out D) (G : DH) : Out D := match r with
 | .ok (.obj n) G' => match G'[n]? with
  | some (.lst ds) => if n = G.length ∧ G'.length = n + 1 ∧ kQ (G'.take G.length) G = true ∧ aQ ds = true then .ok (.con ds) G else .stuck
  | _ => .stuck
 | r => r
noncomputable def Out.fz (r : Out D) : Out D := match r with
 | .ok (.obj n) G' => match G'[n]? with
  | some (.lst ds) => .ok (.con ds) (G'.set n .dead)
  | _ => .stuck
 | r => r
section
variable {τ : DS} {G G' A B R : DH} {e ma mb mc : DS → M D} {n i : Nat} {d : D} {c : XD} {ml : DS → M (List D)} {ds xs ys : List D} {m : List D → M D}
theorem jI : eFn e τ G = (e τ G).fw G := Eq.trans rfl rfl
theorem Js : uu e τ G = (e τ G).fz := Eq.trans rfl rfl
theorem FA : (Out.ok (.tup xs) G').fw G = .ok (.tup xs) G' := Eq.trans rfl rfl
theorem yK (h : aQ ds = true) : (Out.ok (.obj G.length) (G ++ [.lst ds])).fw G = .ok (.con ds) G := by
 simp [Out.fw, h, iA]
theorem iP (hz : ds.length ≤ sizeLine) (h : aQ ds = true) : (bU ds G).fw G = .ok (.con ds) G := by
 rw [bU, if_pos hz, yK h]
theorem xQ : (Out.ok (.obj A.length) (A ++ .lst ds :: B)).fz = .ok (.con ds) (A ++ .dead :: B) := by
 simp [Out.fz, Ad]
theorem lq {d : D} (h : m ds G = .ok d (G ++ R)) (hc : d.closed = true) : jf m ds G = .ok d G := by
 simp [jf, h, hc, iA]
theorem rZ {d : D} (h : m ds G = .ok d G) (hc : d.closed = true) : jf m ds G = .ok d G := lq (R := []) (by simpa using h) hc
theorem Ak (h : m ds G = .ok (.obj G.length) (G ++ [.lst xs])) (hc : aQ xs = true) : qJ m ds G = .ok (.obj G.length) (G ++ [.lst xs]) := by
 simp [qJ, h, hc, iA]
theorem FD : Ik ml τ G = (ml τ G).bd fun ds => match ds with
 | [d] => fun G => match bS G d with
  | some (.lst xs) => .ok (xs.length + 1, By d xs.length) G
  | _ => .stuck
 | _ => M.stop := bK
theorem vS {g : rP} {body : MS} {vw : View} (hv : ∀ G i, i ≤ xs.length → vw G i = some xs[i]?) : ∀ (fuel i : Nat) (τ : DS) (G : DH), i ≤ xs.length → xs.length < fuel + i → vK g body vw fuel i τ G = dY g body (xs.drop i) τ G
 | 0, i, τ, G, h1, h2 => by omega
 | fuel + 1, i, τ, G, h1, h2 => by
  rw [vK]
  dsimp only
  rw [hv G i h1]
  by_cases hi : i < xs.length
  ·rw [List.getElem?_eq_getElem hi, List.drop_eq_getElem_cons hi, dY]
   dsimp only
   cases g xs[i] τ with
   | none => rfl
   | some τ1 =>
    dsimp only
    cases body τ1 G with
    | nx τ2 G2 => exact vS hv fuel (i + 1) τ2 G2 (by omega) (by omega)
    | ct τ2 G2 => exact vS hv fuel (i + 1) τ2 G2 (by omega) (by omega)
    | _ => rfl
  ·rw [List.getElem?_eq_none (by omega), List.drop_eq_nil_of_le (by omega), dY]
theorem xR {gO : D → Option (List D)} {ks : List Bool} {tt : DS → M Bool} {te : DS → M D} {vw : View} (hv : ∀ G i, i ≤ xs.length → vw G i = some xs[i]?) : ∀ (fuel i : Nat) (τ : DS) (G : DH), i ≤ xs.length → xs.length < fuel + i → pX gO ks tt te n vw fuel i τ G = cE gO ks tt te n (xs.drop i) τ G
 | 0, i, τ, G, h1, h2 => by omega
 | fuel + 1, i, τ, G, h1, h2 => by
  rw [pX]
  rw [hv G i h1]
  by_cases hi : i < xs.length
  ·rw [List.getElem?_eq_getElem hi, List.drop_eq_getElem_cons hi, cE]
   dsimp only
   cases cH gO ks tt te n xs[i] τ G with
   | ok u G2 => exact xR hv fuel (i + 1) τ G2 (by omega) (by omega)
   | _ => rfl
  ·rw [List.getElem?_eq_none (by omega), List.drop_eq_nil_of_le (by omega), cE]
theorem Iq {g : rP} {body : MS} : vK g body (By (.con xs) xs.length) (xs.length + 1) 0 τ G = dY g body xs.reverse τ G := by
 have := vS (g := g) (body := body) (xs := xs.reverse) (vw := By (.con xs) xs.length) (fun G i h => by
  simp only [List.length_reverse] at h
  simp only [By, bS, if_true]
  by_cases hi : i = xs.length
  ·rw [if_pos hi, List.getElem?_eq_none (by simp; omega)]
  ·rw [if_neg hi, if_pos (by omega), List.getElem?_reverse (by omega)]) (xs.length + 1) 0 τ G (by simp) (by simp)
 simpa using this
end
theorem vU : ∀ {xs : List D}, (∀ x ∈ xs, x.closed = true) → aQ xs = true
 | [], _ => rfl
 | x :: xs, h => by rw [aQ, h x (by simp), vU fun y hy => h y (by simp [hy])]; rfl
theorem cz {α : Type} {f : α → D} {l : List α} (h : ∀ x, (f x).closed = true) : aQ (l.map f) = true := vU (by
 intro x hx
 obtain ⟨a, _, rfl⟩ := List.mem_map.mp hx
 exact h a)
theorem gr {xs : List D} : (D.con xs).closed = aQ xs := by rw [D.closed]
theorem vV {i : Int} : (D.int i).closed = true := by rw [D.closed] <;> simp
theorem ic {i : Str} : (D.str i).closed = true := by rw [D.closed] <;> simp
theorem cA : aQ [] = true := rfl
theorem bN {x : D} {xs : List D} : aQ (x :: xs) = (x.closed && aQ xs) := by rw [aQ]
mutual
noncomputable def D.pd : D → PyData
 | .bl b => .bool b
 | .int i => .int i
 | .str x => .str x
 | .tup ds => .tuple (A4 ds)
 | .con ds => .list (A4 ds)
 | _ => .none
noncomputable def A4 : List D → List PyData
 | [] => []
 | d :: r => d.pd :: A4 r
end
mutual
noncomputable def D.plain : D → Bool
 | .tup ds => dP ds
 | .con ds => dP ds
 | .str x => PyData.strOk x
 | .obj _ => false
 | .xE _ _ => false
 | .lN _ _ => false
 | .fn _ => false
 | _ => true
noncomputable def dP : List D → Bool
 | [] => true
 | d :: r => d.plain && dP r
end
mutual
noncomputable def D.dp : D → Nat
 | .tup ds => yL ds + 1
 | .con ds => yL ds + 1
 | _ => 0
noncomputable def yL : List D → Nat
 | [] => 0
 | d :: r => max d.dp (yL r)
end
mutual
theorem BC (G : DH) : ∀ (d : D) (n : Nat), d.plain = true → d.dp < n → nR G n d = some d.pd
 | .jd, n + 1, _, _ => by simp [nR, D.pd]
 | .bl b, n + 1, _, _ => by simp [nR, D.pd]
 | .int b, n + 1, _, _ => by simp [nR, D.pd]
 | .str b, n + 1, _, _ => by simp [nR, D.pd]
 | .tup ds, n + 1, h, hn => by
  rw [nR, vg G ds n (by simpa [D.plain] using h) (by rw [D.dp] at hn; omega), D.pd]; rfl
 | .con ds, n + 1, h, hn => by
  rw [nR, vg G ds n (by simpa [D.plain] using h) (by rw [D.dp] at hn; omega), D.pd]; rfl
 | .obj k, n + 1, h, _ => by simp [D.plain] at h
 | .xE _ _, n + 1, h, _ => by simp [D.plain] at h
 | .lN _ _, n + 1, h, _ => by simp [D.plain] at h
 | .fn _, n + 1, h, _ => by simp [D.plain] at h
theorem vg (G : DH) : ∀ (ds : List D) (n : Nat), dP ds = true → yL ds < n → eZ (nR G n) ds = some (A4 ds)
 | [], n, _, _ => by simp [eZ, A4]
 | d :: ds, n, h, hn => by
  have h' : d.plain = true ∧ dP ds = true := by simpa [dP] using h
  rw [yL] at hn
  rw [eZ, BC G d n h'.1 (by omega), vg G ds n h'.2 (by omega), A4]
end
mutual
theorem lay_of : ∀ (d : D), d.plain = true → d.pd.canLay0 = true
 | .jd, _ => by simp [D.pd, PyData.canLay0]
 | .bl b, _ => by simp [D.pd, PyData.canLay0]
 | .int b, _ => by simp [D.pd, PyData.canLay0]
 | .str b, h => by simpa [D.pd, PyData.canLay0, D.plain] using h
 | .tup ds, h => by
  rw [D.pd, PyData.canLay0]; exact yM ds (by simpa [D.plain] using h)
 | .con ds, h => by
  rw [D.pd, PyData.canLay0]; exact yM ds (by simpa [D.plain] using h)
 | .obj k, h => by simp [D.plain] at h
 | .xE _ _, h => by simp [D.plain] at h
 | .lN _ _, h => by simp [D.plain] at h
 | .fn _, h => by simp [D.plain] at h
theorem yM : ∀ (ds : List D), dP ds = true → PyData.canLayAll0 (A4 ds) = true
 | [], _ => by simp [A4, PyData.canLayAll0]
 | d :: ds, h => by
  have h' : d.plain = true ∧ dP ds = true := by simpa [dP] using h
  rw [A4, PyData.canLayAll0, lay_of d h'.1, yM ds h'.2]; rfl
end
mutual
theorem FE : ∀ (d : D), d.pd.depth ≤ d.dp
 | .jd => by simp [D.pd, PyData.depth]
 | .bl b => by simp [D.pd, PyData.depth]
 | .int b => by simp [D.pd, PyData.depth]
 | .str b => by simp [D.pd, PyData.depth]
 | .tup ds => by rw [D.pd, PyData.depth, D.dp]; exact Nat.succ_le_succ (yN ds)
 | .con ds => by rw [D.pd, PyData.depth, D.dp]; exact Nat.succ_le_succ (yN ds)
 | .obj k => by simp [D.pd, PyData.depth]
 | .xE _ _ => by simp [D.pd, PyData.depth]
 | .lN _ _ => by simp [D.pd, PyData.depth]
 | .fn _ => by simp [D.pd, PyData.depth]
theorem yN : ∀ (ds : List D), PyData.depthAll (A4 ds) ≤ yL ds
 | [] => by simp [A4, PyData.depthAll]
 | d :: ds => by
  rw [A4, PyData.depthAll, yL]
  have := FE d
  have := yN ds
  omega
end
mutual
theorem vW : ∀ (d : D), PyData.eqv d.pd d.pd = true
 | .jd => by simp [D.pd, PyData.eqv]
 | .bl b => by simp [D.pd, PyData.eqv]
 | .int b => by simp [D.pd, PyData.eqv]
 | .str b => by simp [D.pd, PyData.eqv]
 | .tup ds => by rw [D.pd, PyData.eqv]; exact tS ds
 | .con ds => by rw [D.pd, PyData.eqv]; exact tS ds
 | .obj k => by simp [D.pd, PyData.eqv]
 | .xE _ _ => by simp [D.pd, PyData.eqv]
 | .lN _ _ => by simp [D.pd, PyData.eqv]
 | .fn _ => by simp [D.pd, PyData.eqv]
theorem tS : ∀ (ds : List D), PyData.eqvAll (A4 ds) (A4 ds) = true
 | [] => by simp [A4, PyData.eqvAll]
 | d :: ds => by rw [A4, PyData.eqvAll, vW d, tS ds]; rfl
end
theorem vX (g : Bool) (d : D) (G : DH) (h : d.plain = true) (hn : d.dp ≤ 580) : mZ g d d G = .ok (.bl (g ^^ true)) G := by
 have hd := FE d
 unfold mZ Bk
 rw [BC G d deep h (by show d.dp < 600; omega)]
 dsimp only
 rw [if_pos (by rw [lay_of d h]; simp; omega), vW]
theorem Ir (g : Bool) (ds : List D) (k : Nat) (G : DH) (hk : G[k]? = some (.lst ds)) (h : dP ds = true) (hn : yL ds ≤ 570) : mZ g (.obj k) (.con ds) G = .ok (.bl (g ^^ true)) G := by
 have hd := yN ds
 have e1 : nR G deep (.obj k) = some (D.con ds).pd := by
  show (match G[k]? with
   | some (.lst ds) => (eZ (nR G 599) ds).map PyData.list
   | _ => none) = _
  rw [hk]
  dsimp only
  rw [vg G ds 599 h (by omega), D.pd]; rfl
 have hp : (D.con ds).plain = true := by rw [D.plain]; exact h
 have WA : (D.con ds).dp ≤ 580 := by rw [D.dp]; omega
 have := FE (.con ds)
 unfold mZ Bk
 rw [e1, BC G (.con ds) deep hp (by show (D.con ds).dp < 600; omega)]
 dsimp only
 rw [if_pos (by rw [lay_of _ hp]; simp; omega), vW]
end L3
end
section
set_option Elab.async false
set_option linter.all false
set_option maxRecDepth 100000
namespace L3
open PySem PySem.Spec L2
section
variable {prog : Program} {w : World} {A : Around} {E : Value → Shared → Prop} {s : Shared}
end
end L3
end
section
set_option Elab.async false
set_option linter.all false
set_option maxRecDepth 100000
namespace L3
open PySem PySem.Spec L2
noncomputable def uv (tp : Bool) (h : Heap) (it l : Addr) (i : Nat) : Prop := if tp = true then h.IsTupleIter it l i else h.IsListIter it l i
noncomputable def wL (tp : Bool) (h : Heap) (l : Addr) (xs : Array Value) : Prop := if tp = true then h.IsTuple l xs else h.IsList l xs
theorem uv.at {tp : Bool} {h h' : Heap} {it l : Addr} {i : Nat} (x : uv tp h it l i) (k : ∀ o, h.get? it = some o → h'.get? it = some o) : uv tp h' it l i := by
 cases tp
 ·exact Heap.IsListIter.at (show h.IsListIter it l i from x) k
 ·exact Heap.IsTupleIter.at (show h.IsTupleIter it l i from x) k
theorem wL.at {tp : Bool} {h h' : Heap} {l : Addr} {xs : Array Value} (x : wL tp h l xs) (k : ∀ o, h.get? l = some o → h'.get? l = some o) : wL tp h' l xs := by
 cases tp
 ·obtain ⟨o, e, r⟩ := (show h.IsList l xs from x)
  exact (⟨o, k o e, r⟩ : h'.IsList l xs)
 ·exact Heap.IsTuple.at (show h.IsTuple l xs from x) k
theorem uv.get {tp : Bool} {h : Heap} {it l : Addr} {i : Nat} (x : uv tp h it l i) : ∃ o, h.get? it = some o ∧ ∀ v, o.data ≠ .cell v := by
 cases tp
 ·obtain ⟨o, e, c, d⟩ := (show h.IsListIter it l i from x)
  exact ⟨o, e, fun v q => by rw [d] at q; cases q⟩
 ·obtain ⟨o, e, c, d⟩ := (show h.IsTupleIter it l i from x)
  exact ⟨o, e, fun v q => by rw [d] at q; cases q⟩
section
variable {prog : Program} {w : World} {A : Around} {E : Value → Shared → Prop} {s : Shared}
theorem qL {tp : Bool} {it l : Addr} {i : Nat} {items : Array Value} {x : Value} {Q : Value → Shared → Prop} (hit : uv tp s.heap it l i)
  (ht : wL tp s.heap l items) (hx : items[i]? = some x)
  (hQ : ∀ h', uv tp h' it l (i + 1) → Heap.SameBut it s.heap h' → Q x { s with heap := h' }) :
  wpAny (model prog w) A (Builtin.SmallTypes.nextOf (.ref it)) Q E s := by
 cases tp
 ·exact wpAny_nextOf_list_item (show s.heap.IsListIter it l i from hit) (show s.heap.IsList l items from ht) hx hQ
 ·exact uM (show s.heap.IsTupleIter it l i from hit) (show s.heap.IsTuple l items from ht) hx hQ
theorem DA {t1 t2 : Bool} {z TI TO i1 i2 l1 l2 : Addr} {k : Nat} {a b x y : Value} {xs ys : Array Value} {Q : Value → Shared → Prop} (D : ZipApart z TI TO i1 i2 l1 l2) (hz : IsZip s.heap z TI TO Value.none) (hTI : IsPair s.heap TI (.ref i1) (.ref i2)) (hTO : IsPair s.heap TO a b)
  (h1 : uv t1 s.heap i1 l1 k) (h2 : uv t2 s.heap i2 l2 k) (p1 : wL t1 s.heap l1 xs) (p2 : wL t2 s.heap l2 ys) (hx : xs[k]? = some x) (hy : ys[k]? = some y)
  (hQ : ∀ h', IsZip h' z TI TO (rawInt s.heap.objs.size) → IsPair h' TO x y → uv t1 h' i1 l1 (k + 1) → uv t2 h' i2 l2 (k + 1) → IsPair h' s.heap.objs.size x y → h'.objs.size = s.heap.objs.size + 1 →
   (∀ c o, c ≠ z → c ≠ TO → c ≠ i1 → c ≠ i2 → s.heap.get? c = some o → h'.get? c = some o) → Q (.ref s.heap.objs.size) { s with heap := h' }) :
  wpAny (model prog w) A (Builtin.«zip.__next__» { pos := [Value.ref z] }) (fun fin s' => ∃ v, fin = Fin.done (Flow.ret v) ∧ Q v s') E s := by
 unfold «Builtin».«zip.__next__»
 refine wpAny_bind (wpAny_pure ?_)
 dsimp only
 refine wpAny_bind (wpAny_field hz rfl (x := .bool false) rfl ?_)
 refine wpAny_bind (wpAny_field hz rfl (x := .ref TI) rfl ?_)
 refine wpAny_bind (wpAny_seqItems hTI rfl ?_)
 dsimp only
 rw [if_neg (by simp)]
 refine wpAny_bind ?_
 unfold Builtin.SmallTypes.ownedTupleIsFree
 refine wpAny_bind (wpAny_field hz rfl (x := .none) rfl ?_)
 dsimp only
 refine wpAny_pure ?_
 rw [if_pos rfl]
 refine wpAny_bind (wpAny_rule ?_)
 refine wpAny_bind (wpAny_field hz rfl (x := .ref TO) rfl ?_)
 dsimp only
 refine wpAny_bind (wpAny_setField_rec hz (by simp) fun PY z1 s1 => ?_)
 have k1 : ∀ c o, c ≠ z → s.heap.get? c = some o → PY.get? c = some o := fun c o hc q => (s1.2 c hc).trans q
 refine wpAny_bind ?_
 rw [show [Value.ref i1, Value.ref i2].zipIdx = [(.ref i1, 0), (.ref i2, 1)] from rfl, List.forIn_cons]
 refine wpAny_bind ?_
 dsimp only
 refine wpAny_bind (wpAny_onRaise ?_)
 refine wpAny_bind (qL (h1.at fun o q => k1 _ _ D.i1z q) (p1.at fun o q => k1 _ _ D.l1z q) hx fun h2' m1 s2 => wpAny_pure ?_)
 have k2 : ∀ c o, c ≠ z → c ≠ i1 → s.heap.get? c = some o → h2'.get? c = some o := fun c o hc hd q => (s2.2 c hd).trans (k1 c o hc q)
 dsimp only
 have Nb : IsPair h2' TO a b := k2 _ _ D.TOz D.TOi1 hTO
 refine wpAny_bind (wpAny_seqItems Nb rfl ?_)
 dsimp only
 refine wpAny_bind (wpAny_updateSeq_pair Nb fun h3' e3 s3 => ?_)
 refine wpAny_bind (wpAny_letGo (wpAny_pure ?_))
 have k3 : ∀ c o, c ≠ z → c ≠ i1 → c ≠ TO → s.heap.get? c = some o → h3'.get? c = some o := fun c o hc hd he q => (s3.2 c he).trans (k2 c o hc hd q)
 have UG : IsPair h3' TO x b := e3
 dsimp only
 rw [List.forIn_cons]
 refine wpAny_bind ?_
 dsimp only
 refine wpAny_bind (wpAny_onRaise ?_)
 refine wpAny_bind (qL (h2.at fun o q => k3 _ _ D.i2z D.i12.symm D.TOi2.symm q) (p2.at fun o q => k3 _ _ D.l2z D.l2i1 D.l2TO q) hy fun RL m2 s4 => wpAny_pure ?_)
 dsimp only
 have RM : IsPair RL TO x b := (s4.2 _ D.TOi2).trans UG
 refine wpAny_bind (wpAny_seqItems RM rfl ?_)
 dsimp only
 refine wpAny_bind (wpAny_updateSeq_pair RM fun K8 e5 s5 => ?_)
 refine wpAny_bind (wpAny_letGo (wpAny_pure ?_))
 have k5 : ∀ c o, c ≠ z → c ≠ i1 → c ≠ TO → c ≠ i2 → s.heap.get? c = some o → K8.get? c = some o := fun c o hc hd he hf q => (s5.2 c he).trans ((s4.2 c hf).trans (k3 c o hc hd he q))
 have RN : IsPair K8 TO x y := e5
 dsimp only
 rw [List.forIn_nil]
 refine wpAny_pure ?_
 dsimp only
 refine wpAny_bind (wpAny_seqItems RN rfl ?_)
 dsimp only
 refine wpAny_bind (wpAny_newTuple ?_)
 refine wpAny_bind ?_
 unfold Builtin.SmallTypes.ownedTupleHandOut
 dsimp only
 have hsz : K8.objs.size = s.heap.objs.size := by
  have a1 := s1.1; have a2 := s2.1; have a3 := s3.1; have a4 := s4.1; have a5 := s5.1
  dsimp only at a2 a3 a4 a5
  omega
 have z5 := (s5.2 z D.TOz.symm).trans ((s4.2 z D.i2z.symm).trans ((s3.2 z D.TOz.symm).trans ((s2.2 z D.i1z.symm).trans z1)))
 have zn : z ≠ s.heap.objs.size := Nat.ne_of_lt (Heap.lt_size hz)
 rw [hsz]
 refine wpAny_bind (wpAny_setField_rec (Heap.get?_push_of_some _ z5) (by simp) fun Ox z6 s6 => ?_)
 refine wpAny_setField_rec z6 (by simp) fun PZ z7 s7 => ?_
 refine wpAny_pure ⟨_, rfl, ?_⟩
 have k7 : ∀ c, c ≠ z → PZ.get? c = (K8.push { cls := .type "tuple", data := .seq #[x, y] }).get? c := fun c hc => (s7.2 c hc).trans (s6.2 c hc)
 have k8 : ∀ c o, c ≠ z → K8.get? c = some o → PZ.get? c = some o := fun c o hc q => (k7 c hc).trans (Heap.get?_push_of_some _ q)
 refine hQ PZ z7 (k8 _ _ D.TOz RN) (m1.at fun o q => ?_) (m2.at fun o q => ?_) ?_ ?_ (fun c o c1 c2 c3 c4 q => k8 c o c1 (k5 c o c1 c3 c2 c4 q))
 ·exact k8 _ _ D.i1z ((s5.2 _ D.TOi1.symm).trans ((s4.2 _ D.i12).trans ((s3.2 _ D.TOi1.symm).trans q)))
 ·exact k8 _ _ D.i2z ((s5.2 _ D.TOi2.symm).trans q)
 ·refine (k7 _ zn.symm).trans ?_
  rw [← hsz]; exact Heap.get?_push_size _ rfl
 ·have a6 := s6.1; have a7 := s7.1
  have a8 := Heap.size_push K8 { cls := .type "tuple", data := .seq #[x, y] }
  dsimp only at a6 a7
  omega
end
end L3
namespace L3
open PySem PySem.Spec L2
section
variable {prog : Program} {w : World} {A : Around} {E : Value → Shared → Prop} {s : Shared}
theorem xS {tp : Bool} {it l : Addr} {i : Nat} {items : Array Value} {Q : Value → Shared → Prop} (hh : A.handled = none) (hit : uv tp s.heap it l i)
  (ht : wL tp s.heap l items) (hx : items[i]? = none)
  (hE : ∀ h' e, Heap.ExtBut it s.heap h' → (∃ o, h'.get? e = some o ∧ o.cls = .type "StopIteration") → E (.ref e) { s with heap := h' }) :
  wpAny (model prog w) A (Builtin.SmallTypes.nextOf (.ref it)) Q E s := by
 cases tp
 ·exact wpAny_nextOf_list_end hh (show s.heap.IsListIter it l i from hit) (show s.heap.IsList l items from ht) hx hE
 ·exact vR hh (show s.heap.IsTupleIter it l i from hit) (show s.heap.IsTuple l items from ht) hx hE
theorem FF {t1 t2 : Bool} {z TI TO i1 i2 l1 l2 : Addr} {k : Nat} {a b : Value} {xs ys : Array Value} {Q : PySem.Fin → Shared → Prop} (hh : A.handled = none) (D : ZipApart z TI TO i1 i2 l1 l2) (hz : IsZip s.heap z TI TO Value.none) (hTI : IsPair s.heap TI (.ref i1) (.ref i2)) (hTO : IsPair s.heap TO a b)
  (h1 : uv t1 s.heap i1 l1 k) (h2 : uv t2 s.heap i2 l2 k) (p1 : wL t1 s.heap l1 xs) (p2 : wL t2 s.heap l2 ys) (hx : xs[k]? = none ∨ ys[k]? = none)
  (hE : ∀ h' e, (∀ c o, c ≠ z → c ≠ TO → c ≠ i1 → c ≠ i2 → s.heap.get? c = some o → h'.get? c = some o) → (∃ o, h'.get? e = some o ∧ o.cls = .type "StopIteration") → E (.ref e) { s with heap := h' }) :
  wpAny (model prog w) A (Builtin.«zip.__next__» { pos := [Value.ref z] }) Q E s := by
 unfold «Builtin».«zip.__next__»
 refine wpAny_bind (wpAny_pure ?_)
 dsimp only
 refine wpAny_bind (wpAny_field hz rfl (x := .bool false) rfl ?_)
 refine wpAny_bind (wpAny_field hz rfl (x := .ref TI) rfl ?_)
 refine wpAny_bind (wpAny_seqItems hTI rfl ?_)
 dsimp only
 rw [if_neg (by simp)]
 refine wpAny_bind ?_
 unfold Builtin.SmallTypes.ownedTupleIsFree
 refine wpAny_bind (wpAny_field hz rfl (x := .none) rfl ?_)
 dsimp only
 refine wpAny_pure ?_
 rw [if_pos rfl]
 refine wpAny_bind (wpAny_rule ?_)
 refine wpAny_bind (wpAny_field hz rfl (x := .ref TO) rfl ?_)
 dsimp only
 refine wpAny_bind (wpAny_setField_rec hz (by simp) fun PY z1 s1 => ?_)
 have k1 : ∀ c o, c ≠ z → s.heap.get? c = some o → PY.get? c = some o := fun c o hc q => (s1.2 c hc).trans q
 refine wpAny_bind ?_
 rw [show [Value.ref i1, Value.ref i2].zipIdx = [(.ref i1, 0), (.ref i2, 1)] from rfl, List.forIn_cons]
 refine wpAny_bind ?_
 dsimp only
 refine wpAny_bind (wpAny_onRaise ?_)
 cases P0 : xs[k]? with
 | none =>
  refine wpAny_bind (xS hh (h1.at fun o q => k1 _ _ D.i1z q) (p1.at fun o q => k1 _ _ D.l1z q) P0 fun h2' e s2 he => ?_)
  obtain ⟨oe, ge, ce⟩ := he
  have z2 := s2 _ _ D.i1z.symm z1
  have P1 : e ≠ z := by
   rintro rfl
   rw [z2] at ge; cases ge; exact absurd (show Value.type "zip" = Value.type "StopIteration" from ce) (by decide)
  refine wpAny_setField_rec z2 (by simp) fun h3' z3 s3 => ?_
  exact hE _ _ (fun c o c1 c2 c3 c4 q => (s3.2 c c1).trans (s2 _ _ c3 (k1 c o c1 q))) ⟨oe, (s3.2 e P1).trans ge, ce⟩
 | some x =>
 refine wpAny_bind (qL (h1.at fun o q => k1 _ _ D.i1z q) (p1.at fun o q => k1 _ _ D.l1z q) P0 fun h2' m1 s2 => wpAny_pure ?_)
 have hy : ys[k]? = none := by
  rcases hx with hx | hx
  ·rw [P0] at hx; cases hx
  ·exact hx
 have k2 : ∀ c o, c ≠ z → c ≠ i1 → s.heap.get? c = some o → h2'.get? c = some o := fun c o hc hd q => (s2.2 c hd).trans (k1 c o hc q)
 dsimp only
 have Nb : IsPair h2' TO a b := k2 _ _ D.TOz D.TOi1 hTO
 refine wpAny_bind (wpAny_seqItems Nb rfl ?_)
 dsimp only
 refine wpAny_bind (wpAny_updateSeq_pair Nb fun h3' e3 s3 => ?_)
 refine wpAny_bind (wpAny_letGo (wpAny_pure ?_))
 have k3 : ∀ c o, c ≠ z → c ≠ i1 → c ≠ TO → s.heap.get? c = some o → h3'.get? c = some o := fun c o hc hd he q => (s3.2 c he).trans (k2 c o hc hd q)
 dsimp only
 rw [List.forIn_cons]
 refine wpAny_bind ?_
 dsimp only
 refine wpAny_bind (wpAny_onRaise ?_)
 refine wpAny_bind (xS hh (h2.at fun o q => k3 _ _ D.i2z D.i12.symm D.TOi2.symm q) (p2.at fun o q => k3 _ _ D.l2z D.l2i1 D.l2TO q) hy fun RL e s4 he => ?_)
 obtain ⟨oe, ge, ce⟩ := he
 have z4 := s4 _ _ D.i2z.symm ((s3.2 z D.TOz.symm).trans ((s2.2 z D.i1z.symm).trans z1))
 have P1 : e ≠ z := by
  rintro rfl
  rw [z4] at ge; cases ge; exact absurd (show Value.type "zip" = Value.type "StopIteration" from ce) (by decide)
 refine wpAny_setField_rec z4 (by simp) fun K8 z5 s5 => ?_
 exact hE _ _ (fun c o c1 c2 c3 c4 q => (s5.2 c c1).trans (s4 _ _ c4 (k3 c o c1 c3 c2 q))) ⟨oe, (s5.2 e P1).trans ge, ce⟩
end
end L3
end
section
set_option Elab.async false
set_option linter.all false
set_option maxRecDepth 100000
namespace L3
open PySem PySem.Spec L2
section
variable {prog : Program} {w : World} {A : Around} {E : Value → Shared → Prop} {s : Shared}
theorem wR {t1 t2 : Bool} {z TI TO i1 i2 l1 l2 : Addr} {k : Nat} {a b x y : Value} {xs ys : Array Value} {Q : Option Value → Shared → Prop} (D : ZipApart z TI TO i1 i2 l1 l2) (hz : IsZip s.heap z TI TO Value.none) (hTI : IsPair s.heap TI (.ref i1) (.ref i2)) (hTO : IsPair s.heap TO a b)
  (h1 : uv t1 s.heap i1 l1 k) (h2 : uv t2 s.heap i2 l2 k) (p1 : wL t1 s.heap l1 xs) (p2 : wL t2 s.heap l2 ys) (hx : xs[k]? = some x) (hy : ys[k]? = some y)
  (hQ : ∀ h', IsZip h' z TI TO (rawInt s.heap.objs.size) → IsPair h' TO x y → uv t1 h' i1 l1 (k + 1) → uv t2 h' i2 l2 (k + 1) → IsPair h' s.heap.objs.size x y → h'.objs.size = s.heap.objs.size + 1 →
   (∀ c o, c ≠ z → c ≠ TO → c ≠ i1 → c ≠ i2 → s.heap.get? c = some o → h'.get? c = some o) → Q (some (.ref s.heap.objs.size)) { s with heap := h' }) :
  wpAny (model prog w) A (pyNext (.ref z)) Q E s := by
 have ht : s.TypeIs (.ref z) "zip" := ⟨_, hz, rfl⟩
 unfold pyNext
 refine wpAny_bind (wpAny_attempt (wpAny_callSpecial?_slot (name := Str.ofString "__next__") ht F.slot_zip_next (wpAny_call_entry F.slot_zip_next ht F.entry_zip_next ?_ (F.args_zip_next_1 _))))
 exact DA D hz hTI hTO h1 h2 p1 p2 hx hy fun h' a1 a2 a3 a4 a5 a6 a7 => wpAny_pure (hQ h' a1 a2 a3 a4 a5 a6 a7)
theorem yO {t1 t2 : Bool} {z TI TO i1 i2 l1 l2 : Addr} {k : Nat} {a b : Value} {xs ys : Array Value} {Q : Option Value → Shared → Prop} (hh : A.handled = none) (D : ZipApart z TI TO i1 i2 l1 l2) (hz : IsZip s.heap z TI TO Value.none) (hTI : IsPair s.heap TI (.ref i1) (.ref i2)) (hTO : IsPair s.heap TO a b)
  (h1 : uv t1 s.heap i1 l1 k) (h2 : uv t2 s.heap i2 l2 k) (p1 : wL t1 s.heap l1 xs) (p2 : wL t2 s.heap l2 ys) (hx : xs[k]? = none ∨ ys[k]? = none)
  (hQ : ∀ h', (∀ c o, c ≠ z → c ≠ TO → c ≠ i1 → c ≠ i2 → s.heap.get? c = some o → h'.get? c = some o) → Q none { s with heap := h' }) :
  wpAny (model prog w) A (pyNext (.ref z)) Q E s := by
 have ht : s.TypeIs (.ref z) "zip" := ⟨_, hz, rfl⟩
 unfold pyNext
 refine wpAny_bind (wpAny_attempt (wpAny_callSpecial?_slot (name := Str.ofString "__next__") ht F.slot_zip_next (wpAny_call_entry F.slot_zip_next ht F.entry_zip_next ?_ (F.args_zip_next_1 _))))
 refine FF hh D hz hTI hTO h1 h2 p1 p2 hx fun h' e hk he => ?_
 refine wpAny_bind (wpAny_isInstance (T := "StopIteration") (v := .ref e) he isSubtype_stop ?_)
 rw [if_pos rfl]
 exact wpAny_pure (hQ _ hk)
noncomputable def LL (tp : Bool) (l : Addr) : Obj := { cls := .type (if tp = true then "tuple_iterator" else "list_iterator"), data := .fields #[.ref l, .int 0 0] }
theorem Jt {tp : Bool} {l : Addr} {xs : Array Value} {Q : Value → Shared → Prop} (h : wL tp s.heap l xs) (hQ : Q (.ref s.heap.objs.size) { s with heap := s.heap.push (LL tp l) }) : wpAny (model prog w) A (pyIter (.ref l)) Q E s := by
 cases tp
 ·exact wpAny_pyIter_list (show s.heap.IsList l xs from h) hQ
 ·exact wpAny_pyIter_tuple (show s.heap.IsTuple l xs from h) hQ
end
noncomputable abbrev LM (t1 : Bool) (h : Heap) (l1 : Addr) : Heap := h.push (LL t1 l1)
noncomputable abbrev K9 (t1 t2 : Bool) (h : Heap) (l1 l2 : Addr) : Heap := (LM t1 h l1).push (LL t2 l2)
noncomputable abbrev La (t1 t2 : Bool) (h : Heap) (l1 l2 : Addr) : Heap := (K9 t1 t2 h l1 l2).push { cls := .type "tuple", data := .seq #[.ref h.objs.size, .ref (LM t1 h l1).objs.size] }
noncomputable abbrev LN (t1 t2 : Bool) (h : Heap) (l1 l2 : Addr) : Heap := (La t1 t2 h l1 l2).push { cls := .type "tuple", data := .seq #[.none, .none] }
noncomputable abbrev Oz (t1 t2 : Bool) (h : Heap) (l1 l2 : Addr) : Heap := (LN t1 t2 h l1 l2).push { cls := .type "zip", data := .fields #[.none, .bool false, .bool false, .ref (K9 t1 t2 h l1 l2).objs.size, .ref (La t1 t2 h l1 l2).objs.size] }
theorem BD (t1 t2 : Bool) (l1 l2 : Addr) (xs ys : Array Value) :
  Meets (Builtin.«zip.__new__» ⟨[.type "zip", .ref l1, .ref l2], []⟩) (fun _ R s => wL t1 s.heap l1 xs ∧ wL t2 s.heap l2 ys ∧
   R (.ok (.ret (.ref (LN t1 t2 s.heap l1 l2).objs.size))) { s with heap := Oz t1 t2 s.heap l1 l2 }) :=
 .of_wp fun prog w A R s h => by
  obtain ⟨h1, h2, h⟩ := h
  have hsub := sub_zip
  have h2' : wL t2 (s.heap.push (LL t1 l1)) l2 ys := h2.at fun o q => Heap.get?_push_of_some _ q
  unfold «Builtin».«zip.__new__»
  refine wpAny_bind ?_
  unfold Builtin.SmallTypes.newClass
  dsimp only
  refine wpAny_bind (wpAny_pure ?_)
  rw [if_neg (by decide), hsub]
  refine wpAny_bind (wpAny_pure ?_)
  rw [if_neg (by decide)]
  refine wpAny_pure ?_
  dsimp only
  rw [if_neg (by simp)]
  refine wpAny_bind ?_
  unfold Builtin.SmallTypes.iterAll
  dsimp only
  refine wpAny_bind ?_
  rw [List.forIn_cons]
  refine wpAny_bind (wpAny_bind (wpAny_holding (Jt h1 (wpAny_pure ?_))))
  dsimp only
  rw [List.forIn_cons]
  refine wpAny_bind (wpAny_bind (wpAny_holding (Jt h2' (wpAny_pure ?_))))
  dsimp only
  rw [List.forIn_nil]
  refine wpAny_pure (wpAny_pure ?_)
  refine wpAny_bind (wpAny_newTuple ?_ (by simp [sizeLine_eq]))
  refine wpAny_bind (wpAny_newTuple ?_ (by simp [sizeLine_eq]))
  refine wpAny_bind ?_
  unfold Builtin.SmallTypes.newRecord
  dsimp only
  exact wpAny_newObj_type (wpAny_pure ⟨_, rfl, h⟩) (by simp [sizeOk, sizeLine_eq, Builtin.SmallTypes.ownedTupleFields])
theorem DB {prog : Program} {w : World} {A : Around} {E : Value → Shared → Prop} {s : Shared} {t1 t2 : Bool} {l1 l2 : Addr} {xs ys : Array Value} {Q : Value → Shared → Prop} (h1 : wL t1 s.heap l1 xs) (h2 : wL t2 s.heap l2 ys)
  (h : ∀ h', IsZip h' (s.heap.objs.size + 4) (s.heap.objs.size + 2) (s.heap.objs.size + 3) .none → IsPair h' (s.heap.objs.size + 2) (.ref s.heap.objs.size) (.ref (s.heap.objs.size + 1)) → IsPair h' (s.heap.objs.size + 3) .none .none →
   uv t1 h' s.heap.objs.size l1 0 → uv t2 h' (s.heap.objs.size + 1) l2 0 → h'.objs.size = s.heap.objs.size + 5 → (∀ c o, s.heap.get? c = some o → h'.get? c = some o) → Q (.ref (s.heap.objs.size + 4)) { s with heap := h' }) :
  wpAny (model prog w) A (call (.type "zip") [.ref l1, .ref l2]) Q E s := by
 refine callType_new F.called_zip (by decide) (F.typeCall_zip_2 _ _) (F.newCall_zip_2 _ _) (fun obj => F.args_object_init_3 obj _ _) F.entry_zip_new
  (BD t1 t2 l1 l2 xs ys) ⟨h1, h2, ?_⟩
 have n1 : (LM t1 s.heap l1).objs.size = s.heap.objs.size + 1 := Heap.size_push ..
 have n2 : (K9 t1 t2 s.heap l1 l2).objs.size = s.heap.objs.size + 2 := by rw [K9, Heap.size_push, n1]
 have n3 : (La t1 t2 s.heap l1 l2).objs.size = s.heap.objs.size + 3 := by rw [La, Heap.size_push, n2]
 have n4 : (LN t1 t2 s.heap l1 l2).objs.size = s.heap.objs.size + 4 := by rw [LN, Heap.size_push, n3]
 have n5 : (Oz t1 t2 s.heap l1 l2).objs.size = s.heap.objs.size + 5 := by rw [Oz, Heap.size_push, n4]
 have gz := Heap.get?_push_size (LN t1 t2 s.heap l1 l2) (o := { cls := .type "zip", data := .fields #[.none, .bool false, .bool false, .ref (K9 t1 t2 s.heap l1 l2).objs.size, .ref (La t1 t2 s.heap l1 l2).objs.size] }) rfl
 have gO := Heap.get?_push_size (La t1 t2 s.heap l1 l2) (o := { cls := .type "tuple", data := .seq #[.none, .none] }) rfl
 have gI := Heap.get?_push_size (K9 t1 t2 s.heap l1 l2) (o := { cls := .type "tuple", data := .seq #[.ref s.heap.objs.size, .ref (LM t1 s.heap l1).objs.size] }) rfl
 have g2 : uv t2 (K9 t1 t2 s.heap l1 l2) (s.heap.objs.size + 1) l2 0 := by
  have := Heap.get?_push_size (LM t1 s.heap l1) (o := LL t2 l2) rfl
  rw [n1] at this
  cases t2 <;> exact ⟨_, this, rfl, rfl⟩
 have g1 : uv t1 (LM t1 s.heap l1) s.heap.objs.size l1 0 := by
  have := Heap.get?_push_size s.heap (o := LL t1 l1) rfl
  cases t1 <;> exact ⟨_, this, rfl, rfl⟩
 replace gz : IsZip (Oz t1 t2 s.heap l1 l2) (s.heap.objs.size + 4) (s.heap.objs.size + 2) (s.heap.objs.size + 3) .none := by rw [IsZip, ← n4, ← n2, ← n3]; exact gz
 replace gO : IsPair (LN t1 t2 s.heap l1 l2) (s.heap.objs.size + 3) .none .none := by rw [IsPair, ← n3]; exact gO
 replace gI : IsPair (La t1 t2 s.heap l1 l2) (s.heap.objs.size + 2) (.ref s.heap.objs.size) (.ref (s.heap.objs.size + 1)) := by rw [IsPair, ← n2, ← n1]; exact gI
 have kp : ∀ {h : Heap} {o' : Obj} {c : Addr} {o : Obj}, h.get? c = some o → (h.push o').get? c = some o := fun q => Heap.get?_push_of_some _ q
 refine ⟨?_, ?_⟩
 ·rw [n4]; exact ⟨_, gz, rfl⟩
 ·rw [n4]
  exact h _ gz (kp (kp gI)) (kp gO) (g1.at fun o q => kp (kp (kp (kp q)))) (g2.at fun o q => kp (kp (kp q))) n5 fun c o q => kp (kp (kp (kp (kp q))))
end L3
end
section
set_option Elab.async false
set_option linter.all false
set_option maxRecDepth 100000
namespace L3
open PySem PySem.Spec L2
noncomputable def FG (t : Bool) (K : PySem.W.Frag) (H : Hp) (a : Addr) (xs : List V) : Prop := if t = true then pQ K H a xs else qx K H a xs
section
variable {X : Cx} {pins : List (Addr × Obj)} {σ : L2.St} {H : Hp} {s : Shared} {a : Addr} {xs ys : List V} {t : Bool}
theorem _root_.L2.Inv.DC (I : Inv X pins σ H s) (h : FG t X.K H a xs) : ∃ its : List Value, Vals xs its ∧ wL t s.heap a its.toArray := by
 cases t
 ·obtain ⟨its, r, p, _⟩ := I.list (show qx X.K H a xs from h)
  exact ⟨its, r, p.isList⟩
 ·obtain ⟨its, r, p, _⟩ := I.tuple (show pQ X.K H a xs from h)
  exact ⟨its, r, p⟩
theorem _root_.L2.Inv.Al (I : Inv X pins σ H s) (h : FG t X.K H a xs) (h' : FG t X.K H a ys) : xs = ys := by
 cases t
 ·exact I.vn (show qx X.K H a xs from h) (show qx X.K H a ys from h')
 ·exact I.xo (show pQ X.K H a xs from h) (show pQ X.K H a ys from h')
theorem wL.lt {h : Heap} {its : Array Value} (p : wL t h a its) : a < h.objs.size := by
 cases t
 ·obtain ⟨o, e, _⟩ := (show h.IsList a its from p); exact Heap.lt_size e
 ·obtain ⟨o, e, _⟩ := (show h.IsTuple a its from p); exact Heap.lt_size e
end
noncomputable def Lb (K : PySem.W.Frag) (t1 t2 : Bool) (a b : Addr) : It :=
 ⟨fun i H => ∃ xs ys x y, FG t1 K H a xs ∧ FG t2 K H b ys ∧ xs[i]? = some x ∧ ys[i]? = some y, fun i H v H' => ∃ x y p, (∀ xs, FG t1 K H a xs → xs[i]? = some x) ∧ (∀ ys, FG t2 K H b ys → ys[i]? = some y) ∧ H p = none ∧ v = .ref p ∧ H' = upd H p (.tup [x, y]), fun i H => ∃ xs ys, FG t1 K H a xs ∧ FG t2 K H b ys ∧ (xs.length ≤ i ∨ ys.length ≤ i)⟩
theorem DE {P : Program} {w : World} {K : PySem.W.Frag} {es : List Expr} {k : Nat} {pt : Pos} (t1 t2 : Bool) (l1 l2 z TI TO i1 i2 : Addr) (D : ZipApart z TI TO i1 i2 l1 l2) : Turn P w K (.Tuple es k pt) (Lb K t1 t2 l1 l2) [z, TI, TO, i1, i2] z
  (fun i h => IsZip h z TI TO .none ∧ IsPair h TI (.ref i1) (.ref i2) ∧ (∃ a b, IsPair h TO a b) ∧ uv t1 h i1 l1 i ∧ uv t2 h i2 l2 i) where
 mem := by simp
 obj := fun i h ⟨hz, hTI, ⟨a, b, hTO⟩, h1, h2⟩ c hc => by
  simp only [List.mem_cons, List.not_mem_nil, or_false] at hc
  rcases hc with rfl | rfl | rfl | rfl | rfl
  ·exact ⟨_, hz, fun v e => by cases e⟩
  ·exact ⟨_, hTI, fun v e => by cases e⟩
  ·exact ⟨_, hTO, fun v e => by cases e⟩
  ·exact h1.get
  ·exact h2.get
 keep := fun i h h' ⟨hz, hTI, ⟨a, b, hTO⟩, h1, h2⟩ kp => ⟨kp z (by simp) _ hz, kp TI (by simp) _ hTI, ⟨a, b, kp TO (by simp) _ hTO⟩, h1.at fun o q => kp i1 (by simp) o q, h2.at fun o q => kp i2 (by simp) o q⟩
 item := by
  intro X hP hw hK hc i pins s σ H E I hf ⟨hz, hTI, ⟨a, b, hTO⟩, h1, h2⟩ hg
  subst hP hw hK
  obtain ⟨xs, ys, x, y, hq1, hq2, hx, hy⟩ := hg
  obtain ⟨P4, Nc, p1⟩ := I.DC hq1
  obtain ⟨its2, Iu, p2⟩ := I.DC hq2
  obtain ⟨u1, hu1, UH⟩ := Nc.get hx
  obtain ⟨u2, UI, P5⟩ := Iu.get hy
  have lt : ∀ {c o}, s.heap.get? c = some o → c ≠ s.heap.objs.size := fun e => Nat.ne_of_lt (Heap.lt_size e)
  have P6 : i1 ≠ s.heap.objs.size := by obtain ⟨o, q, _⟩ := h1.get; exact lt q
  have P7 : i2 ≠ s.heap.objs.size := by obtain ⟨o, q, _⟩ := h2.get; exact lt q
  refine wR D hz hTI hTO h1 h2 p1 p2 (x := u1) (y := u2) (by simpa using hu1) (by simpa using UI) fun h' a1 a2 a3 a4 a5 a6 hk => ?_
  refine ⟨.ref s.heap.objs.size, rfl, ?_⟩
  have I1 : Inv X pins σ (upd H s.heap.objs.size (.tup [x, y])) { s with heap := s.heap.push { cls := .type "tuple", data := .seq #[u1, u2] } } :=
   I.laid (t' := s.toks) (fun b o q => Heap.get?_push_of_some _ q) (Nat.le_refl _) ⟨by simp [sizeLine_eq], [u1, u2], .cons UH (.cons P5 .nil), PyProof.Rows.IsTup.new _ _⟩
  have hfree := I.hok.fresh (Nat.le_refl s.heap.objs.size)
  have hne : ∀ c ∈ [z, TI, TO, i1, i2], c ≠ s.heap.objs.size := fun c hc => by
   simp only [List.mem_cons, List.not_mem_nil, or_false] at hc
   rcases hc with rfl | rfl | rfl | rfl | rfl
   ·exact lt hz
   ·exact lt hTI
   ·exact lt hTO
   ·exact P6
   ·exact P7
  have hf1 : ∀ c ∈ [z, TI, TO, i1, i2], tB X pins (upd H s.heap.objs.size (.tup [x, y])) c := fun c hc => ⟨by rw [aK (hne c hc)]; exact (hf c hc).1, (hf c hc).2⟩
  refine wpAny_letOwnedTupleGo_zip (s := { s with heap := h' }) a1 fun h2' hz' hs' => ?_
  have P8 : IsPair h' TI (.ref i1) (.ref i2) := hk _ _ D.TIz D.TITO D.TIi1 D.TIi2 hTI
  refine ⟨.ref s.heap.objs.size, _, Cg (t' := s.toks) (s := { s with heap := s.heap.push { cls := .type "tuple", data := .seq #[u1, u2] } }) (ch := [z, TI, TO, i1, i2]) I1 (fun c o hc q => ?_) hf1, rfl, ⟨x, y, s.heap.objs.size, fun zs hz => by rw [I.Al hz hq1]; exact hx, fun zs hz => by rw [I.Al hz hq2]; exact hy, hfree, rfl, rfl⟩, ⟨hz', hs'.extBut _ _ D.TIz P8, ⟨_, _, hs'.extBut _ _ D.TOz a2⟩, a3.at fun o q => hs'.extBut _ _ D.i1z q, a4.at fun o q => hs'.extBut _ _ D.i2z q⟩, fun c hc => (hf1 c hc).1⟩
  have c1 : c ≠ z := fun q => hc (by simp [q])
  have c2 : c ≠ TO := fun q => hc (by simp [q])
  have c3 : c ≠ i1 := fun q => hc (by simp [q])
  have c4 : c ≠ i2 := fun q => hc (by simp [q])
  refine hs'.extBut _ _ c1 ?_
  by_cases hcs : c = s.heap.objs.size
  ·subst hcs
   have := Heap.get?_push_size (o := { cls := .type "tuple", data := .seq #[u1, u2] }) s.heap rfl
   rw [this] at q; cases q
   exact a5
  ·have q' : (s.heap.push { cls := .type "tuple", data := .seq #[u1, u2] }).get? c = some o := q
   refine hk c o c1 c2 c3 c4 ?_
   rwa [Heap.get?_push_ne _ _ _ hcs] at q'
 done := by
  intro X hP hw hK hc i pins s σ H E I hf ⟨hz, hTI, ⟨a, b, hTO⟩, h1, h2⟩ hg
  subst hP hw hK
  obtain ⟨xs, ys, hq1, hq2, hx⟩ := hg
  obtain ⟨P4, Nc, p1⟩ := I.DC hq1
  obtain ⟨its2, Iu, p2⟩ := I.DC hq2
  have hl1 := Nc.length
  have hl2 := Iu.length
  refine yO (I.ok.hd hc) D hz hTI hTO h1 h2 p1 p2 (by
   rcases hx with hx | hx
   ·left; simp; omega
   ·right; simp; omega) fun h' hk => ⟨rfl, Cg (t' := s.toks) (ch := [z, TI, TO, i1, i2]) I (fun c o hc q => hk c o (fun e => hc (by simp [e])) (fun e => hc (by simp [e])) (fun e => hc (by simp [e])) (fun e => hc (by simp [e])) q) hf⟩
 self := fun _ _ _ _ _ ⟨hz, _⟩ h => wpAny_pyIter_zip hz h
noncomputable def cX (G : DH) (d : D) : Option (Bool × List D) := match bS G d with
 | some (.lst xs) => some (false, xs)
 | some (.tup xs) => some (true, xs)
 | _ => none
noncomputable def uw (d e : D) : View := fun G i => match cX G d, cX G e with
 | some (_, xs), some (_, ys) => some (match xs[i]?, ys[i]? with
  | some x, some y => some (.tup [x, y])
  | _, _ => none)
 | _, _ => none
noncomputable def vY (m : DS → M (List D)) : MI := fun τ => (m τ).bind fun ds => match ds with
 | [d, e] => fun G => match cX G d, cX G e with
  | some (_, xs), some (_, ys) => .ok (min xs.length ys.length + 1, uw d e) G
  | _, _ => .stuck
 | _ => M.stop
section
variable {X : Cx} {EE : fC} {tg iter a b : Expr} {g : rP} {mi : MI} {ms : MS} {pos p pc : Pos} {m : DS → M (List D)}
theorem Am {pins : List (Addr × Obj)} {σ0 : L2.St} {H : Hp} {s : Shared} {ρ : List Addr} {G : DH} {d : D} {ds : List D} {x : V} {t : Bool} (h : kh X.K X.mg H ρ G) (r : Rep X.K X.mg ρ H d x) (e : cX G d = some (t, ds)) :
  ∃ p xs, x = .ref p ∧ FG t X.K H p xs ∧ ay X.K X.mg ρ H ds xs := by
 unfold cX at e
 cases q : bS G d with
 | none => rw [q] at e; cases e
 | some k =>
  rw [q] at e
  cases k with
  | lst zs =>
   cases e
   obtain ⟨p, xs, h1, h2, h3⟩ := d8 (pins := pins) (σ0 := σ0) (s := s) h r q
   exact ⟨p, xs, h1, h2, h3⟩
  | tup zs =>
   cases e
   obtain ⟨p, xs, h1, h2, h3⟩ := iy r q
   exact ⟨p, xs, h1, h2, h3⟩
  | str z => cases e
theorem Cw {H : Hp} {ρ : List Addr} {G : DH} {d : D} {ds : List D} {x : V} {t : Bool} (r : Rep X.K X.mg ρ H d x) (h : kh X.K X.mg H ρ G) (e : cX G d = some (t, ds)) :
  ∃ p xs, x = .ref p ∧ FG t X.K H p xs ∧ ay X.K X.mg ρ H ds xs := by
 unfold cX at e
 cases q : bS G d with
 | none => rw [q] at e; cases e
 | some k =>
  rw [q] at e
  cases k with
  | lst zs =>
   cases e
   cases d with
   | con ds =>
    cases q
    unfold Rep at r
    obtain ⟨a', xs, e, s, r⟩ := r
    exact ⟨a', xs, e, s.seq, r⟩
   | obj n =>
    obtain ⟨a', rfl, e⟩ := (show ∃ a, x = .ref a ∧ ρ[n]? = some a by unfold Rep at r; exact r)
    obtain ⟨xs, h1, h2⟩ := Fz eX.refl r h q
    exact ⟨a', xs, rfl, h1, h2⟩
   | _ => cases q
  | tup zs =>
   cases e
   obtain ⟨p, xs, h1, h2, h3⟩ := iy r q
   exact ⟨p, xs, h1, h2, h3⟩
  | str z => cases e
theorem xT {H H' : Hp} {ρ ρ' : List Addr} {G G' : DH} {d : D} {l : Addr} {t t' : Bool} {ds ds' : List D} (q : cX G d = some (t, ds)) (q' : cX G' d = some (t', ds')) : t = t' := by
 unfold cX at q q'
 cases d with
 | tup xs => cases q; cases q'; rfl
 | con xs => cases q; cases q'; rfl
 | obj n =>
  dsimp only [bS] at q q'
  have f : ∀ {G : DH} {t : Bool} {ds : List D}, (match (match G[n]? with | some (.lst xs) => some (MC.lst xs) | _ => none) with | some (.lst xs) => some (false, xs) | some (.tup xs) => some (true, xs) | _ => none) = some (t, ds) → t = false := by
   intro G t ds h
   cases g : G[n]? with
   | none => rw [g] at h; cases h
   | some o => cases o <;> (rw [g] at h; cases h) <;> rfl
  exact (f q).trans (f q').symm
 | _ => cases q
theorem Iv {H : Hp} {ρ : List Addr} {G : DH} {d e : D} {l1 l2 : Addr} {t1 t2 : Bool} {ds es : List D} (r1 : Rep X.K X.mg ρ H d (.ref l1)) (r2 : Rep X.K X.mg ρ H e (.ref l2)) (k1 : cX G d = some (t1, ds)) (k2 : cX G e = some (t2, es)) : JV X.K X.mg (Lb X.K t1 t2 l1 l2) (uw d e) H ρ := by
 intro i H' ρ' G' f hp
 unfold uw
 cases q1 : cX G' d with
 | none => exact ⟨fun e => (by cases e), fun x e => (by cases e)⟩
 | some s1 =>
  cases q2 : cX G' e with
  | none => exact ⟨fun e => (by cases e), fun x e => (by cases e)⟩
  | some s2 =>
     obtain ⟨u1, zs⟩ := s1
     obtain ⟨u2, ws⟩ := s2
     have e1 := xT (H := H) (H' := H') (ρ := ρ) (ρ' := ρ') (l := l1) k1 q1
     have e2 := xT (H := H) (H' := H') (ρ := ρ) (ρ' := ρ') (l := l2) k2 q2
     subst e1 e2
     dsimp only
     obtain ⟨p1, xs, y1, OA, RO⟩ := Cw (r1.mono f) hp q1
     obtain ⟨p2, ys, y2, LO, Na⟩ := Cw (r2.mono f) hp q2
     cases y1; cases y2
     have WB := RO.length
     have WC := Na.length
     cases h1 : zs[i]? with
     | none =>
      refine ⟨fun _ => ⟨xs, ys, OA, LO, .inl ?_⟩, fun x e => (by cases e)⟩
      rw [List.getElem?_eq_none_iff] at h1; omega
     | some x =>
      cases h2 : ws[i]? with
      | none =>
       refine ⟨fun _ => ⟨xs, ys, OA, LO, .inr ?_⟩, fun x e => (by cases e)⟩
       rw [List.getElem?_eq_none_iff] at h2; omega
      | some y =>
       refine ⟨fun e => (by cases e), fun t e => ?_⟩
       cases e
       obtain ⟨v1, hv1, Nc⟩ := RO.get h1
       obtain ⟨v2, hv2, Iu⟩ := Na.get h2
       refine ⟨⟨xs, ys, v1, v2, OA, LO, hv1, hv2⟩, fun v H2 hy => ?_⟩
       obtain ⟨x', y', pp, hx', hy', hfree, rfl, rfl⟩ := hy
       have e1 := hx' xs OA
       rw [hv1] at e1; cases e1
       have e2 := hy' ys LO
       rw [hv2] at e2; cases e2
       have ff : eX X.K H' (upd H' pp (.tup [v1, v2])) ρ' ρ' := kW hfree ρ'
       refine ⟨⟨ff, fun G hG => hG.new hfree⟩, ?_⟩
       unfold Rep
       exact ⟨pp, [v1, v2], rfl, .of cg, .cons (Nc.mono ff) (.cons (Iu.mono ff) .nil)⟩
theorem Cy {es : List Expr} {k : Nat} {pt : Pos} (hm : X.mg "zip" = none) (EO : Gl X "zip") (ha : QA X EE [a, b] m) (h : aL [a, b] = true := by rfl) : QI X EE (.Tuple es k pt) (.Call (.Name "zip" p) [a, b] [] pc) (vY m) := by
 have h' : fJ a = true ∧ aL [b] = true := by simpa [aL] using h
 intro pins s σ H R I hq
 obtain ⟨τ, ρ, G, ab, ok⟩ := hq
 dsimp only [vY, M.bind] at ok
 refine wpAny_Call_Name_kw (mV I EO hm boot_zip ?_ (by decide) (by decide))
 have hA : ue X.K X.mg EE m σ H fun vs H1 => ∃ ρ1 G1 ds, Ab X.K X.mg σ H1 τ ρ1 G1 ∧ eX X.K H H1 ρ ρ1 ∧ ay X.K X.mg ρ1 H1 ds vs ∧ m τ G = .ok ds G1 := by
  refine ⟨τ, ρ, G, ab, ?_⟩
  cases e : m τ G with
  | stuck => rw [e] at ok; exact ok
  | dz c G' => rw [e] at ok; exact ok
  | ok ds G' => exact fun vs H' ρ' f cB r => ⟨ρ', G', ds, cB, f, r, rfl⟩
 refine PyProof.Rows.callWith_type1 (gX (ha pc pins s σ H _ I hA) fun us s1 Hs => ?_) (cW h'.1 _ _) (dI h'.2)
 obtain ⟨vs, H1, I1, r1, ρ1, G1, ds, rO, f1, rs, em⟩ := Hs
 rw [em] at ok
 dsimp only at ok
 match ds, rs, ok with
 | [], _, ok => exact ok.elim
 | [_], _, ok => exact ok.elim
 | _ :: _ :: _ :: _, _, ok => exact ok.elim
 | [d, e], rs, ok =>
  unfold ay at rs
  obtain ⟨x, rest, rfl, rx, rs⟩ := rs
  obtain ⟨y, rfl, ry⟩ := oh rs
  cases r1 with
  | cons ru rr =>
  rename_i u us'
  obtain ⟨u2, rfl, P5⟩ := vals1 rr
  dsimp only at ok
  cases q : cX G1 d with
  | none => rw [q] at ok; exact ok.elim
  | some sk =>
   cases q2 : cX G1 e with
   | none => rw [q, q2] at ok; exact ok.elim
   | some UJ =>
      rw [q, q2] at ok
      dsimp only at ok
      obtain ⟨t1, zs⟩ := sk
      obtain ⟨t2, ws⟩ := UJ
      obtain ⟨l, ys, rfl, sq, rv⟩ := Am (pins := pins) (σ0 := σ) (s := s1) rO.hp rx q
      obtain ⟨l2, WD, rfl, LO, Iu⟩ := Am (pins := pins) (σ0 := σ) (s := s1) rO.hp ry q2
      cases ru
      cases P5
      obtain ⟨its, vv, pl⟩ := I1.DC sq
      obtain ⟨its2, WE, RP⟩ := I1.DC LO
      refine DB pl RP fun h2 b1 b2 b3 b4 b5 hsz kp => ?_
      refine wpAny_pyIter_zip (s := { s1 with heap := h2 }) b1 ?_
      have I2 : Inv X pins σ H1 { s1 with heap := h2 } := I1.kept (t' := s1.toks) kp
      have ll : l < s1.heap.objs.size := pl.lt
      have UK : l2 < s1.heap.objs.size := RP.lt
      have WG : (l : Nat) < s1.heap.objs.size := ll
      have UL : (l2 : Nat) < s1.heap.objs.size := UK
      have D : ZipApart (s1.heap.objs.size + 4) (s1.heap.objs.size + 2) (s1.heap.objs.size + 3) s1.heap.objs.size (s1.heap.objs.size + 1) l l2 := by
       constructor <;> (intro q; simp only [Addr] at *; omega)
      refine ⟨s1.heap.objs.size + 4, _, _, Lb X.K t1 t2 l l2, H1, rfl, I2, DE t1 t2 l l2 _ _ _ _ _ D, ⟨b1, b2, ⟨_, _, b3⟩, b4, b5⟩, fun c hc => ?_, ok _ H1 ρ1 f1 rO (Iv rx ry q q2)⟩
      have hge : s1.heap.objs.size ≤ c := by
       simp only [List.mem_cons, List.not_mem_nil, or_false] at hc
       rcases hc with rfl | rfl | rfl | rfl | rfl <;> omega
      exact I1.CZ hge (I1.hok.fresh hge)
end
end L3
end
section
set_option Elab.async false
set_option linter.all false
set_option maxRecDepth 100000
namespace L3
open PySem PySem.Spec L2 PyProof.Rows
section
variable {X : Cx} {EE : fC} {p pos apos cpos : Pos} {e o : Expr} {m : DS → M (List D)} {mo : DS → M D}
end
section
variable {X : Cx} {pos : Pos}
end
section
variable {X : Cx} {EE : fC} {o i : Expr} {mo mi : DS → M D} {y : Str} {j1 : Nat} {p1 lp sp apos cpos : Pos}
end
section
variable {X : Cx} {EE : fC}
end
end L3
end
section
set_option Elab.async false
set_option linter.all false
set_option maxRecDepth 100000
namespace L3
open PySem PySem.Spec L2
theorem P9 {i j : Int} {G : DH} : eF (.int i) (.int j) G = .ok (.int (i + j)) G := Eq.trans rfl rfl
section
variable {τ : DS} {G : DH} {ma mb mo mi : DS → M D}
theorem BE {gO : D → Option (List D)} {ks : List Bool} {tt : DS → M Bool} {te : DS → M D} {x : D} {os acc : List D} (h1 : gO x = some os) (h2 : tt (os.map some ++ mask ks τ) (G ++ [.lst acc]) = .ok false (G ++ [.lst acc])) :
  cH gO ks tt te G.length x τ (G ++ [.lst acc]) = .ok () (G ++ [.lst acc]) := by
 simp only [cH, h1, h2]
theorem An {gO : D → Option (List D)} {ks : List Bool} {tt : DS → M Bool} {te : DS → M D} {x v : D} {os acc : List D} (h1 : gO x = some os) (h2 : tt (os.map some ++ mask ks τ) (G ++ [.lst acc]) = .ok true (G ++ [.lst acc])) (h3 : te (os.map some ++ mask ks τ) (G ++ [.lst acc]) = .ok v (G ++ [.lst acc])) (hz : acc.length < sizeLine) :
  cH gO ks tt te G.length x τ (G ++ [.lst acc]) = .ok () (G ++ [.lst (acc ++ [v])]) := by
 simp only [cH, h1, h2, h3, wK, if_pos hz, Ad]
theorem iQ {gO : D → Option (List D)} {ks : List Bool} {tt : DS → M Bool} {te : DS → M D} {α : Type} {own : α → List D} {dat f : α → D} {c : α → Bool} : ∀ (as : List α) (acc : List D), acc.length + as.length ≤ 1000000 → (∀ x ∈ as, gO (dat x) = some (own x)) →
  (∀ x ∈ as, ∀ acc, tt ((own x).map some ++ mask ks τ) (G ++ [.lst acc]) = .ok (c x) (G ++ [.lst acc])) → (∀ x ∈ as, ∀ acc, te ((own x).map some ++ mask ks τ) (G ++ [.lst acc]) = .ok (f x) (G ++ [.lst acc])) →
  cE gO ks tt te G.length (as.map dat) τ (G ++ [.lst acc]) = .ok (.obj G.length) (G ++ [.lst (acc ++ (as.filter c).map f)])
 | [], acc, _, _, _, _ => by simp [cE]
 | x :: as, acc, hl, h1, h2, h3 => by
  have hz : acc.length < sizeLine := Nat.lt_of_lt_of_le (by simp at hl; omega) (lz (n := 1000001) (by omega))
  rw [List.map_cons, cE]
  have hp := h2 x (by simp) acc
  cases hc : c x with
  | false =>
   rw [hc] at hp
   rw [BE (h1 x (by simp)) hp]
   dsimp only
   rw [iQ as acc (by simp at hl; omega) (fun q hq => h1 q (by simp [hq])) (fun q hq => h2 q (by simp [hq])) (fun q hq => h3 q (by simp [hq])), List.filter_cons_of_neg (by rw [hc]; decide)]
  | true =>
   rw [hc] at hp
   rw [An (h1 x (by simp)) hp (h3 x (by simp) acc) hz]
   dsimp only
   rw [iQ as (acc ++ [f x]) (by simp at hl ⊢; omega) (fun q hq => h1 q (by simp [hq])) (fun q hq => h2 q (by simp [hq])) (fun q hq => h3 q (by simp [hq])), List.filter_cons_of_pos hc]
   simp
end
noncomputable def FH (cur : List Nat) : List (List Nat) := if cur.isEmpty then [] else [cur]
noncomputable def uN : List Nat → List Nat → List (List Nat)
 | cur, [] => FH cur
 | cur, c :: r => if c = 32 then FH cur ++ uN [] r else if c = 10 then FH cur ++ uN [] r else if c = 40 then FH cur ++ [40] :: uN [] r else if c = 41 then FH cur ++ [41] :: uN [] r else uN (cur ++ [c]) r
noncomputable def FI (x : List Nat) : List Nat := rp 41 [32, 41, 32] (rp 40 [32, 40, 32] (rp 10 [32] x))
theorem mG {cur : List Nat} (h : 32 ∉ cur) : (fL 32 cur).filter (fun l => !l.isEmpty) = FH cur := by
 rw [ur 32 cur h]
 unfold FH
 cases cur <;> rfl
theorem wl : ∀ (x cur : List Nat), 32 ∉ cur → (fL 32 (cur ++ FI x)).filter (fun l => !l.isEmpty) = uN cur x
 | [], cur, h => by
  show (fL 32 (cur ++ [])).filter _ = _
  rw [List.append_nil, mG h]; rfl
 | c :: r, cur, h => by
  have one : ∀ {s : List Nat}, (FI (c :: r)) = s ++ 32 :: FI r → 32 ∉ s → (fL 32 (cur ++ FI (c :: r))).filter (fun l => !l.isEmpty) = (fL 32 (cur ++ s)).filter (fun l => !l.isEmpty) ++ uN [] r := fun {s} e hs => by
   rw [e, ← List.append_assoc, jn, List.filter_append]
   have := wl r [] (by simp)
   rw [List.nil_append] at this
   rw [this]
  by_cases Qa : c = 32
  ·subst Qa
   rw [one (s := []) rfl (by simp), List.append_nil, mG h]; rfl
  ·by_cases Dm : c = 10
   ·subst Dm
    rw [one (s := []) rfl (by simp), List.append_nil, mG h]; rfl
   ·by_cases Qc : c = 40
    ·subst Qc
     have e : FI (40 :: r) = [32, 40] ++ 32 :: FI r := rfl
     rw [e, ← List.append_assoc, jn, List.filter_append, show cur ++ [32, 40] = cur ++ 32 :: [40] from rfl, jn, List.filter_append, mG h]
     have := wl r [] (by simp)
     rw [List.nil_append] at this
     rw [this]
     show (FH cur ++ [[40]]) ++ uN [] r = FH cur ++ [40] :: uN [] r
     simp
    ·by_cases Qd : c = 41
     ·subst Qd
      have e : FI (41 :: r) = [32, 41] ++ 32 :: FI r := rfl
      rw [e, ← List.append_assoc, jn, List.filter_append, show cur ++ [32, 41] = cur ++ 32 :: [41] from rfl, jn, List.filter_append, mG h]
      have := wl r [] (by simp)
      rw [List.nil_append] at this
      rw [this]
      show (FH cur ++ [[41]]) ++ uN [] r = FH cur ++ [41] :: uN [] r
      simp
     ·have e : FI (c :: r) = [c] ++ FI r := by simp [FI, rp, Dm, Qc, Qd]
      rw [e, ← List.append_assoc, wl r (cur ++ [c]) (by simp [h]; exact fun z => Qa z.symm)]
      rw [uN, if_neg Qa, if_neg Dm, if_neg Qc, if_neg Qd]
end L3
end
section
set_option Elab.async false
set_option linter.all false
set_option maxRecDepth 100000
namespace L3
open PySem PySem.Spec L2 PyProof.Rows
section
variable {prog : Program} {w : World} {A : Around} {E : Value → Shared → Prop} {s : Shared}
end
section
variable {X : Cx} {EE : fC} {tg a : Expr} {p p2 pc WH : Pos} {m : DS → M (List D)}
end
end L3
end
section
set_option Elab.async false
set_option linter.all false
set_option maxRecDepth 100000
namespace L3
open PySem PySem.Spec L2
section
variable {X : Cx} {EE : fC} {a b : Expr} {pos : Pos} {ma mb m : DS → M D}
end
section
variable {τ : DS} {G : DH} {e : DS → M D} {ml : DS → M (List D)} {d : D}
section
variable {mv mo mi : DS → M D} {g : rP}
theorem mH : jj mv mo mi τ G = ((mv τ G).bd fun v => (mo τ).bind fun o => (mi τ).bind fun i => lP v o i).xp τ := by
 unfold jj cT Out.xp
 rw [bK]
 cases (mv τ G).bd fun v => (mo τ).bind fun o => (mi τ).bind fun i => lP v o i <;> rfl
end
end
end L3
end
section
set_option Elab.async false
set_option linter.all false
set_option maxRecDepth 100000
namespace L3
open PySem PySem.Spec L2
section
variable {X : Cx} {EE : fC}
theorem ay.eraseIdx {K : PySem.W.Frag} {mg : Str → Option Value} {ρ : List Addr} {H : Hp} : ∀ (n : Nat) {ds : List D} {vs : List V}, ay K mg ρ H ds vs → ay K mg ρ H (ds.eraseIdx n) (vs.eraseIdx n)
 | _, [], vs, h => by unfold ay at h; subst h; exact .nil
 | 0, d :: ds, vs, h => by
  unfold ay at h
  obtain ⟨v, r, rfl, h1, h2⟩ := h
  exact h2
 | n + 1, d :: ds, vs, h => by
  unfold ay at h
  obtain ⟨v, r, rfl, h1, h2⟩ := h
  exact .cons h1 (ay.eraseIdx n h2)
end
section
variable {X : Cx} {EE : fC}  {o e e2 : Expr} {apos cpos : Pos} {mo : DS → M D} {m : DS → M (List D)}
end
theorem yP {P : Program} {w : World} {K : PySem.W.Frag} {mg : Str → Option Value} {base : Heap} {CX : uW} {k n : Nat} {f : Addr} {fd : FuncData} {ps : List Str} : bC P w K mg base CX k f fd ps (aZ K mg n (fun _ => M.stop)) :=
 ⟨fun vs H Q E ⟨ds, ρ, G, hn, hp, rs, ok⟩ => ok.elim, fun A outer s H args us vs Q E _ _ _ _ _ ⟨ds, ρ, G, hn, hp, rs, ok⟩ => ok.elim⟩
end L3
end
section
set_option Elab.async false
set_option linter.all false
set_option maxRecDepth 100000
namespace L3
open PySem PySem.Spec L2
structure oA (N ps names : List Str) (sc : Scope) : Prop where
 kind : sc.kind = .function
 co : sc.isCoroutine = false
 gen : sc.isGenerator = false
 nd : N.Nodup
 pre : N.take (ps.length + names.length) = ps ++ names
 par : ∀ x ∈ ps, sc.names.lookup x = some .local
 fr : ∀ x ∈ names, sc.names.lookup x = some .free
 tO : ∀ y ∈ sc.names, y.2 ≠ .cell
 frs : ∀ y ∈ sc.names, y.2 = .free → y.1 ∈ names
noncomputable abbrev BF (k : pS) (cs : List Addr) (L a c : Addr) : Env := PySem.W.envX k.qual k.scope L a (.ref c) (k.names.zip cs)
noncomputable def Iw (CX : uW) (P : Program) (w : World) (K : PySem.W.Frag) (mg : Str → Option Value) (base : Heap) (N : List Str) (k : pS) (cs : List Addr) (a c : Addr) (A : Around) (outer : List Env) (s : Shared) (H : Hp) (E : XK) : Cx where
 prog := P
 w := w
 K := K
 mg := mg
 base := base
 A := A.deeper (BF k cs s.heap.objs.size a c)
 N := N
 s₀ := s
 H₀ := H
 env := BF k cs s.heap.objs.size a c
 outer := outer
 stack := BF k cs s.heap.objs.size a c :: outer
 ex := []
 fn := fun _ => false
 calm := true
 pn := []
 xe := fun e s' => wpAny (model P w) (A.deeper (BF k cs s.heap.objs.size a c)) (leaving (BF k cs s.heap.objs.size a c) e) (fun _ s'' => CX outer H s E e s'') (fun e' s'' => CX outer H s E e' s'') s'
theorem nc : ∀ {ns : List Str} {cs : List Addr} {y : Str} {c : Addr}, (ns.zip cs).lookup y = some c → ∃ i : Nat, ns[i]? = some y ∧ cs[i]? = some c
 | [], cs, y, c, h => by simp at h
 | n :: ns, [], y, c, h => by simp at h
 | n :: ns, d :: cs, y, c, h => by
  rw [List.zip_cons_cons, List.lookup_cons] at h
  cases e : (y == n) with
  | true =>
   rw [e] at h
   cases h
   exact ⟨0, by rw [beq_iff_eq.mp e]; rfl, rfl⟩
  | false =>
   rw [e] at h
   obtain ⟨i, h1, h2⟩ := nc h
   exact ⟨i + 1, by simpa using h1, by simpa using h2⟩
theorem qM : ∀ {ns : List Str} {cs : List Addr} {y : Str} {c : Addr} {i : Nat}, ns.Nodup → ns[i]? = some y → cs[i]? = some c → (ns.zip cs).lookup y = some c
 | [], cs, y, c, i, _, h, _ => by simp at h
 | n :: ns, [], y, c, i, _, _, h => by simp at h
 | n :: ns, d :: cs, y, c, 0, _, h, h2 => by
  simp at h h2
  subst h h2
  simp
 | n :: ns, d :: cs, y, c, i + 1, nd, h, h2 => by
  have h' : ns[i]? = some y := by simpa using h
  have ne : (y == n) = false := beq_eq_false_iff_ne.mpr fun z => (List.nodup_cons.mp nd).1 (z ▸ List.mem_of_getElem? h')
  rw [List.zip_cons_cons, List.lookup_cons, ne]
  exact qM (List.nodup_cons.mp nd).2 h' (by simpa using h2)
theorem fH.get {H : Hp} : ∀ {cs : List Addr} {xs : List V} {i : Nat} {c : Addr}, fH H cs xs → cs[i]? = some c → ∃ x o u, xs[i]? = some x ∧ zJ H c o ∧ o.data = .cell (some u) ∧ RelV x u
 | [], xs, i, c, _, h => by simp at h
 | d :: cs, xs, 0, c, ⟨x, r, o, u, e, h1, h2, h3, _⟩, h => by
  simp at h
  subst h e
  exact ⟨x, o, u, rfl, h1, h2, h3⟩
 | d :: cs, xs, i + 1, c, ⟨x, r, o, u, e, _, _, _, h4⟩, h => by
  subst e
  obtain ⟨x', o', u', g⟩ := fH.get h4 (i := i) (by simpa using h)
  exact ⟨x', o', u', by simpa using g⟩
theorem fH.len {H : Hp} : ∀ {cs : List Addr} {xs : List V}, fH H cs xs → xs.length = cs.length
 | [], xs, h => by rw [show xs = [] from h]; rfl
 | d :: cs, xs, ⟨x, r, o, u, e, _, _, _, h4⟩ => by rw [e, List.length_cons, List.length_cons, h4.len]
theorem yQ : ∀ {ps : List Str} {us : List Value} {y : Str} {u : Value} {i : Nat}, ps.Nodup → ps[i]? = some y → us[i]? = some u → (ps.zip us).reverse.lookup y = some u := by
 intro ps us y u i nd h1 h2
 have key : ∀ {ps : List Str} {us : List Value} {i : Nat} (r : List (Str × Value)), ps.Nodup → ps[i]? = some y → us[i]? = some u → ((ps.zip us).reverse ++ r).lookup y = some u := by
  intro ps
  induction ps with
  | nil => intro us i r _ h; simp at h
  | cons p ps ih =>
   intro us i r nd h1 h2
   cases us with
   | nil => simp at h2
   | cons w us =>
    rw [List.zip_cons_cons, List.reverse_cons, List.append_assoc]
    cases i with
    | zero =>
     simp at h1 h2
     subst h1 h2
     have none : ∀ (q : List (Str × Value)) (r : List (Str × Value)), (∀ z ∈ q, z.1 ≠ p) → (q ++ r).lookup p = r.lookup p := by
      intro q
      induction q with
      | nil => intro r _; rfl
      | cons z q UM =>
       intro r hz
       rw [List.cons_append, List.lookup_cons, beq_eq_false_iff_ne.mpr (Ne.symm (hz z (by simp)))]
       exact UM r fun z' h' => hz z' (by simp [h'])
     rw [none _ _ (fun z hz => by
      have := (List.of_mem_zip (List.mem_reverse.mp hz)).1
      intro e
      exact (List.nodup_cons.mp nd).1 (e ▸ this))]
     simp
    | succ i => exact ih ([(p, w)] ++ r) (List.nodup_cons.mp nd).2 (by simpa using h1) (by simpa using h2)
 have := key (ps := ps) (us := us) (i := i) [] nd h1 h2
 rwa [List.append_nil] at this
theorem Cz {CX : uW} {P : Program} {w : World} {K : PySem.W.Frag} {mg : Str → Option Value} {base h1 : Heap} {N ps : List Str} {k : pS} {cs : List Addr} {a c : Addr} {A : Around} {outer : List Env} {s : Shared} {H : Hp} {E : XK} {us : List Value} {vs xs : List V}
  (S : oA N ps k.names k.scope) (hd : A.handled = none) (e0 : tE P w K mg base A outer s H) (hl : vs.length = ps.length) (r : Vals vs us) (hcl : cs.length = k.names.length) (hnd : cs.Nodup) (hc : fH H cs xs)
  (hns : h1.Ns s.heap.objs.size fun y => (ps.zip us).reverse.lookup y) (hk : ∀ b o, s.heap.get? b = some o → h1.get? b = some o) {n : Nat} (ht : 0 < n) :
  Inv (Iw CX P w K mg base N k cs a c A outer s H E) [] (start N (vs ++ xs)) H { s with heap := h1, toks := n } := by
 have Nd : (ps ++ k.names).Nodup := by rw [← S.pre]; exact S.nd.sublist (List.take_sublist _ _)
 have Om : ps.Nodup := (List.nodup_append.mp Nd).1
 have RQ : k.names.Nodup := (List.nodup_append.mp Nd).2.1
 have RS : xs.length = k.names.length := by rw [hc.len, hcl]
 have hpl : ps.length + k.names.length ≤ N.length := by have := congrArg List.length S.pre; rw [List.length_take, List.length_append] at this; omega
 have cellAt : ∀ y d, (k.names.zip cs).lookup y = some d → ∃ i x o u, k.names[i]? = some y ∧ xs[i]? = some x ∧ zJ H d o ∧ o.data = .cell (some u) ∧ RelV x u ∧ s.heap.get? d = some o := fun y d e => by
  obtain ⟨i, h1, h2⟩ := nc e
  obtain ⟨x, o, u, g1, g2, g3, g4⟩ := hc.get h2
  exact ⟨i, x, o, u, h1, g1, g2, g3, g4, (e0.hok d _ g2).1⟩
 have Hf : ∀ b : Addr, b ∉ (Iw CX P w K mg base N k cs a c A outer s H E).ex := fun b z => absurd (show b ∈ ([] : List Addr) from z) (by simp)
 refine ⟨⟨e0.mod, S.kind, rfl, rfl, Nat.le_refl _, fun y z d h1 h2 => ?_, fun y hy => ?_, fun y d h _ => absurd (show false = true from h) Bool.false_ne_true, fun _ => hd, Around.frames_deeper e0.frames, .inr ⟨rfl, rfl⟩, fun b z => absurd z (Hf b), e0.bs, e0.GK, fun b _ _ => Hf b, fun b z => absurd z (Hf b), e0.rC, e0.GV⟩,
  ⟨rfl, ht⟩, e0.bare, Un.kept hk, ⟨_, hns, fun i y v h1 h2 h3 => ?_⟩, fun y d h => ?_, e0.hok.fresh (Nat.le_refl _), fun y d h => ?_, fun p hp => absurd (show p ∈ ([] : List (Addr × Obj)) from hp) (by simp), e0.hok.kept hk, ?_⟩
 ·obtain ⟨i, a1, a2⟩ := nc h1
  obtain ⟨j, b1, b2⟩ := nc h2
  have ij : i = j := by
   obtain ⟨l1, e1⟩ := List.getElem?_eq_some_iff.mp a2
   obtain ⟨l2, e2⟩ := List.getElem?_eq_some_iff.mp b2
   exact (List.getElem_inj hnd).mp (e1.trans e2.symm)
  subst ij
  rw [a1] at b1
  exact Option.some.inj b1
 ·have hy : k.scope.names.lookup y = some .cell ∨ k.scope.names.lookup y = some .free := hy
  rcases hy with hy | hy
  ·exact absurd rfl (S.tO _ (PySem.mem_of_lookup hy))
  ·have hm := S.frs _ (PySem.mem_of_lookup hy) rfl
   obtain ⟨i, hi, e⟩ := List.getElem_of_mem hm
   have e' : k.names[i]? = some y := by rw [List.getElem?_eq_getElem hi, e]
   exact ⟨_, qM RQ e' (List.getElem?_eq_getElem (by omega))⟩
 ·have hi : i < (vs ++ xs).length := by
   unfold L2.start at h2
   by_cases hi : i < (vs ++ xs).length
   ·exact hi
   ·rw [List.getElem?_append_right (by simpa using hi)] at h2
    rw [List.getElem?_replicate] at h2
    split at h2 <;> cases h2
  have ha : (vs ++ xs)[i]? = some v := by
   unfold L2.start at h2
   rw [List.getElem?_append_left (by simpa using hi), List.getElem?_map] at h2
   cases e : (vs ++ xs)[i]? with
   | none => rw [e] at h2; cases h2
   | some a => rw [e] at h2; cases h2; rfl
  rw [List.length_append] at hi
  have hy : (ps ++ k.names)[i]? = some y := by
   rw [← S.pre, List.getElem?_take_of_lt (by omega)]; exact h1
  by_cases hiv : i < vs.length
  ·rw [List.getElem?_append_left hiv] at ha
   rw [List.getElem?_append_left (by omega)] at hy
   obtain ⟨u, hu, rv⟩ := r.get ha
   exact ⟨u, rv, .inl ⟨S.par y (List.mem_of_getElem? hy), yQ Om hy hu⟩⟩
  ·rw [List.getElem?_append_right (by omega)] at ha hy
   rw [hl] at ha
   have hic : i - ps.length < cs.length := by omega
   have ec := List.getElem?_eq_getElem hic
   obtain ⟨x, o, u, g1, g2, g3, g4⟩ := hc.get ec
   rw [g1] at ha
   cases ha
   refine ⟨u, g4, .inr ⟨.inr (S.fr y (List.mem_of_getElem? hy)), _, qM RQ hy ec, o, hk _ _ (e0.hok _ _ g2).1, g3⟩⟩
 ·obtain ⟨i, x, o, u, _, _, _, g3, _, g5⟩ := cellAt y d h
  exact ⟨_, o, hk _ _ g5, g3⟩
 ·obtain ⟨i, x, o, u, _, _, g2, _⟩ := cellAt y d h
  exact .inr ⟨rfl, o, _, g2⟩
 ·unfold L2.start
  show _ = N.length
  rw [List.length_append, List.length_map, List.length_replicate, List.length_append]
  omega
noncomputable def Ao (P : Program) (w : World) (K : PySem.W.Frag) (mg : Str → Option Value) (base : Heap) (CX : uW) (k : Nat) (c : pS) (n : Nat) (m : List D → M D) : Prop :=
 ∀ (A : Around) (outer : List Env) (s : Shared) (H : Hp) (us : List Value) (vs xs : List V) (Q : VK) (E : XK) (a : Addr) (cs : List Addr), gm k A → tE P w K mg base A outer s H → 0 < s.toks → rK H c a cs → fH H cs xs → Vals vs us → us.length = n →
  aZ K mg (n + c.names.length) m (vs ++ xs) H Q E → codeAny (model P w) A (.call (.ref a) ⟨us, []⟩) (CR CX outer P w H s Q E) s
noncomputable def pY (r : Out D) : Out D := match r with
 | .dz _ _ => .stuck
 | r => r
theorem Lc {P : Program} {w : World} {K : PySem.W.Frag} {mg : Str → Option Value} {base : Heap} {c : pS} {N ps : List Str} {k n nn : Nat} {ms : MS} {m : List D → M D} (S : oA N ps c.names c.scope) (hps : ps.length = n) (hN : N.length = nn) (hm : ∀ ds G, m ds G = pY (cG nn ms ds G))
  (hbind : ∀ (doc pm ctv : Value) (c' : Addr) (cs : List Addr) (us : List Value) (s : Shared), us.length = ps.length → BindsTo s (PySem.W.fnX c.name c.qual c.params c.body c.scope (c.names.zip cs) .none .none doc pm none (.ref c') ctv) ⟨us, []⟩ (ps.zip us))
  (hbody : ∀ (X : Cx) (EE : fC) (cs : List Addr) (a c' : Addr) (A : Around) (outer : List Env) (s : Shared) (H : Hp) (E : XK), X = Iw (bV P w) P w K mg base N c cs a c' A outer s H E → gm k (A.deeper (BF c cs s.heap.objs.size a c')) →
   kP X EE → PassesOwn (model P w) X.A X.env X.xe → A1 X EE c.body ms) :
  Ao P w K mg base (bV P w) (k + 1) c n m := by
 intro A outer s H us vs xs Q E a cs hr e0 htk hca hce r OB B0
 obtain ⟨hcl, hnd, doc, pm, ctv, c', fo, oc, ws, t, fc, hd, hv⟩ := hca
 subst hps hN
 obtain ⟨ds, ρ, G, hn, hp, rs, ok⟩ := B0
 have hvl : vs.length = ps.length := by rw [r.length]; exact OB
 have ho := (e0.hok a _ fo).1
 have hoc := (e0.hok c' _ fc).1
 have lim : s.heap.NoLimit := e0.mod.nolimit.keeps fun b o e => (e0.bs b o e).1
 refine codeAny_call_def (fd := PySem.W.fnX c.name c.qual c.params c.body c.scope (c.names.zip cs) .none .none doc pm none (.ref c') ctv) (body := c.body) (binds := ps.zip us) hr.depth ho rfl lim ⟨c', oc, ws, t, rfl, hoc, hd, hv⟩ rfl (hbind doc pm ctv c' cs us s OB) S.tO (fun y hy => S.par y.1 (List.of_mem_zip hy).1) (fun h1 hns hk1 => ?_) S.co S.gen S.kind
 have I : Inv (Iw (bV P w) P w K mg base N c cs a c' A outer s H E) [] (start N (vs ++ xs)) H { s with heap := h1, toks := s.toks + (ps.zip us).length } := Cz S hr.hd e0 hvl r hcl hnd hce hns hk1 (Nat.lt_of_lt_of_le htk (Nat.le_add_right _ _))
 have hB := hbody _ (fun _ _ _ => False) cs a c' A outer s H E rfl (hr.deeper _) (fun _ _ _ _ _ _ _ _ _ _ z => z.elim) PassesOwn.leaving
 have hlen : (ds.map some ++ List.replicate (N.length - ds.length) none) = ds.map some ++ List.replicate (N.length - ds.length) none := rfl
 have hq : iK K mg (fun _ _ _ => False) ms { nx := fun _ H' => Q .jd H', rt := Q } (start N (vs ++ xs)) H := by
  refine ⟨ds.map some ++ List.replicate (N.length - ds.length) none, ρ, G, ⟨m6 rs, hp⟩, ?_⟩
  rw [hm] at ok
  dsimp only [cG] at ok
  cases q : ms (ds.map some ++ List.replicate (N.length - ds.length) none) G with
  | stuck => rw [q] at ok; exact ok
  | nx τ G' => rw [q] at ok; exact fun σ' H' ρ' f ab => ok .jd H' ρ' f ab.hp (by unfold Rep; rfl)
  | rt d G' => rw [q] at ok; exact fun v H' ρ' f hp r => ok v H' ρ' f hp r
  | bk τ G' => rw [q] at ok; exact ok.elim
  | ct τ G' => rw [q] at ok; exact ok.elim
  | xn c τ G' => rw [q] at ok; exact ok.elim
 refine wpAny_mono (hB [] _ (start N (vs ++ xs)) H _ I hq) (fun fl s' hs => ?_) fun e s' hs => hs
 have fin : ∀ {σ' : St} {H' : Hp} {v : V} {u : Value}, Inv (Iw (bV P w) P w K mg base N c cs a c' A outer s H E) [] σ' H' s' → RelV v u → Q v H' → CE outer P w H s Q u s' :=
  fun {σ' H' v u} J rv q => ⟨v, H', J.os, J.bare, J.base, J.hok, rv, q⟩
 cases fl with
 | ret u =>
  obtain ⟨v, σ', H', J, rv, q⟩ := hs
  exact fin J rv q
 | next =>
  obtain ⟨σ', H', J, q⟩ := hs
  exact fin (v := V.jd) (u := Value.none) J rfl q
 | brk =>
  obtain ⟨_, _, _, q⟩ := hs
  exact False.elim q
 | cont =>
  obtain ⟨_, _, _, q⟩ := hs
  exact False.elim q
end L3
end
section
set_option Elab.async false
set_option linter.all false
set_option maxRecDepth 100000
namespace L3
open PySem PySem.Spec L2
noncomputable def yR (i n : Nat) (Ju : Str → Option (Nat × (List D → M D))) (τ : DS) (ds : List D) : M D := match τ[i]? with
 | some (some (.lN y caps)) => match Ju y with
  | some (c, mf) => if ds.length = n ∧ caps.length = c then mf (ds ++ caps) else M.stop
  | none => M.stop
 | _ => M.stop
noncomputable def vZ (i n : Nat) (Ju : Str → Option (Nat × (List D → M D))) (m : DS → M (List D)) : DS → M D := fun τ G => match τ[i]? with
 | some (some (.lN _ _)) => ((m τ).bind (yR i n Ju τ)) G
 | _ => .stuck
section
variable {X : Cx} {CX : uW} {EE : fC} {k n : Nat} {x : Str} {p pos : Pos} {e : Expr} {es : List Expr} {m : DS → M (List D)}
theorem FJ {pins : List (Addr × Obj)} {σ : L2.St} {H : Hp} {s : Shared} {Q : VK} {us : List Value} {vs xs : List V} {τ : DS} {ρ : List Addr} {G : DH} {ds caps : List D} {Ea : pS} {a : Addr} {cs : List Addr} {mf : List D → M D} (F : Ao X.prog X.w X.K X.mg X.base CX k Ea n mf) (hr : gm k X.A)
  (hx : KO CX X EE) (I : Inv X pins σ H s) (r : Vals vs us) (ab : Ab X.K X.mg σ H τ ρ G) (rs : ay X.K X.mg ρ H ds vs) (hn : ds.length = n) (hca : rK H Ea a cs) (hce : fH H cs xs) (rc : ay X.K X.mg ρ H caps xs) (ok : mw X.K X.mg EE H σ τ ρ (mf (ds ++ caps) G) Q) : wpAny (model X.prog X.w) X.A (call (.ref a) us) (EP X pins σ Q) X.xe s := by
 have h : aZ X.K X.mg (n + Ea.names.length) mf (vs ++ xs) H Q (MG X.mg EE σ) := by
  refine ⟨ds ++ caps, ρ, G, ?_, ab.hp, rs.append rc, ?_⟩
  ·rw [List.length_append, hn, rc.length, hce.len, hca.1]
  cases q : mf (ds ++ caps) G with
  | stuck => rw [q] at ok; exact ok
  | ok d G' => rw [q] at ok; exact fun v H' ρ' f hp r => ok v H' ρ' f (kh.ab ab f hp) r
  | dz c G' => rw [q] at ok; exact fun cls H' ρ' hc f hp => ⟨c, hc, ok H' ρ' f (kh.ab ab f hp)⟩
 refine wpAny_call (codeAny_mono (F X.A X.stack s H us vs xs Q (MG X.mg EE σ) a cs hr I.jD I.os.2 hca hce r (by rw [← r.length, ← rs.length, hn]) h) fun r s' hq => ?_)
 cases r with
 | error e => exact hx pins σ H s e s' I hq
 | ok fl =>
  cases fl with
  | ret u => exact I.after hq
  | next => exact False.elim hq
  | brk => exact False.elim hq
  | cont => exact False.elim hq
theorem rK.fn {H : Hp} {Ea : pS} {a : Addr} {cs : List Addr} {h : Heap} {P : Program} {w : World} (hok : pN P w H h) (hc : rK H Ea a cs) : PySem.W.FnAt a h := by
 obtain ⟨_, _, doc, pm, ctv, c, fo, _⟩ := hc
 exact ⟨_, _, _, _, (hok a _ fo).1⟩
theorem FL {i : Nat} {Ju : Str → Option (Nat × (List D → M D))} (hN : X.N[i]? = some x) (hv : IZ X.env.scope x) (hd : (x == ("__debug__" : Str)) = false ∧ (x == ("__classdict__" : Str)) = false)
  (hC : ∀ y c mf, Ju y = some (c, mf) → ∃ k Ea, vA X.K X.mg y = some Ea ∧ Ao X.prog X.w X.K X.mg X.base CX k Ea n mf ∧ gm k X.A) (hx : KO CX X EE)
  (ha : QA X EE (e :: es) m) (h : aL (e :: es) = true := by rfl) : QE X EE (.Call (.Name x p) (e :: es) [] pos) (vZ i n Ju m) := by
 have h' : fJ e = true ∧ aL es = true := by simpa [aL] using h
 intro pins s σ H Q I hq
 obtain ⟨τ, ρ, G, ab, ok⟩ := hq
 unfold vZ at ok
 cases q : τ[i]? with
 | none => rw [q] at ok; exact ok.elim
 | some od =>
  cases od with
  | none => rw [q] at ok; exact ok.elim
  | some d =>
   rw [q] at ok
   cases d <;> try exact ok.elim
   rename_i y caps
   dsimp only at ok
   obtain ⟨v, ev, rv⟩ := ab.st.2 i (.lN y caps) q
   unfold Rep at rv
   obtain ⟨Ea, a, cs, xs, rfl, hk, hca, hce, rc⟩ := rv
   obtain ⟨τ1, ρ1, G1, rO, GO⟩ := tK (m := m) (k := yR i n Ju) ⟨τ, ρ, G, ab, ok⟩
   refine wpAny_Call_Name_kw (wpAny_mono (A6 hN hv hd.1 hd.2 pins s σ H (fun v' H' => v' = .ref a ∧ H' = H) I ⟨_, ev, rfl, rfl⟩) (fun u s0 hu => ?_) fun _ _ z => z)
   obtain ⟨v', H', I0, r0, rfl, rfl⟩ := hu
   cases r0
   refine PySem.W.callWith_F (hca.fn I0.hok) (gX (ha pos pins s0 σ H' _ I0 ⟨τ1, ρ1, G1, rO, GO⟩) fun us s1 ⟨vs, H1, I1, r, q⟩ => ?_) (cW h'.1 _ _) (dI h'.2)
   obtain ⟨τ2, ρ2, G2, ds, eu, rs, aI⟩ := q
   unfold yR at aI
   cases q2 : τ2[i]? with
   | none => rw [q2] at aI; exact aI.elim
   | some od =>
    cases od with
    | none => rw [q2] at aI; exact aI.elim
    | some d =>
     rw [q2] at aI
     cases d <;> try exact aI.elim
     rename_i y2 Jv
     dsimp only at aI
     obtain ⟨v2, RT, Iu⟩ := eu.st.2 i (.lN y2 Jv) q2
     unfold Rep at Iu
     obtain ⟨UN, a2, WI, WJ, rfl, hk2, Iz, Qe, UO⟩ := Iu
     rw [ev] at RT
     cases RT
     refine ⟨Iz.fn I1.hok, ?_⟩
     cases qt : Ju y2 with
     | none => rw [qt] at aI; exact aI.elim
     | some z =>
      obtain ⟨c, mf⟩ := z
      rw [qt] at aI
      dsimp only at aI
      obtain ⟨k, UP, e3, F, hr⟩ := hC y2 c mf qt
      rw [hk2] at e3
      cases e3
      by_cases hn : ds.length = n ∧ Jv.length = c
      ·rw [if_pos hn] at aI
       exact FJ F hr hx I1 r eu rs hn.1 Iz Qe UO aI
      ·rw [if_neg hn] at aI
       exact aI.elim
end
end L3
end
section
set_option Elab.async false
set_option linter.all false
set_option maxRecDepth 100000
namespace L3
open PySem PySem.Spec L2
noncomputable def Cx.held (X : Cx) (ns : List Str) : Cx := { X with fn := fun x => X.fn x && !(ns.contains x) }
structure FN (X : Cx) (H' : Hp) (s' : Shared) : Prop where
 os : s'.os = X.s₀.os ∧ 0 < s'.toks
 bare : PyProof.Rows.AllBare s'.gens
 base : Un X.fs X.ex X.H₀ H' X.s₀.heap s'.heap
 hok : pN X.prog X.w H' s'.heap
noncomputable def RU (X : Cx) (D : Ends) (fl : Flow) (s' : Shared) : Prop := match fl with
 | .ret u => ∃ v H', FN X H' s' ∧ RelV v u ∧ D.rt v H'
 | .next => ∃ σ' H', FN X H' s' ∧ D.nx σ' H'
 | .brk => ∃ σ' H', D.bk σ' H'
 | .cont => ∃ σ' H', D.ct σ' H'
noncomputable def IA (X : Cx) (EE : fC) (st : List Stmt) (m : MS) : Prop := ∀ (pins : List (Addr × Obj)) (s : Shared) (σ : L2.St) (H : Hp) (D : Ends), Inv X pins σ H s → iK X.K X.mg EE m D σ H → wpAny (model X.prog X.w) X.A (execs st X.env) (RU X D) X.xe s
section
variable {X : Cx} {EE : fC} {pins : List (Addr × Obj)} {σ : L2.St} {H : Hp} {s : Shared} {st : Stmt} {rest : List Stmt} {ms mt : MS}
theorem FN.of (I : Inv X pins σ H s) : FN X H s := ⟨I.os, I.bare, I.base, I.hok⟩
theorem Aq (h1 : QS X EE st ms) (h2 : IA X EE rest mt) : IA X EE (st :: rest) (aY ms mt) := by
 intro pins s σ H D I h
 refine wpAny_execs_cons (gX (h1 pins s σ H { D with nx := iK X.K X.mg EE mt D } I (zT h)) fun f s1 q => ?_)
 cases f with
 | next =>
  obtain ⟨σ', H', I', q⟩ := q
  exact h2 pins s1 σ' H' D I' q
 | ret v =>
  obtain ⟨v, σ', H', J, r, q⟩ := q
  exact ⟨v, H', .of J, r, q⟩
 | brk =>
  obtain ⟨σ', H', J, q⟩ := q
  exact ⟨σ', H', q⟩
 | cont =>
  obtain ⟨σ', H', J, q⟩ := q
  exact ⟨σ', H', q⟩
noncomputable def v5 (y : Str) : DO → Bool
 | .tab z => z == y
 | _ => false
noncomputable def Ar (i : Nat) (y : Str) (js : List Nat) : MS := fun τ G => if G.any (v5 y) = true then match js.mapM (fun j => (τ[j]?).join) with
 | some caps => .nx (τ.set i (some (.lN y caps))) G
 | none => .stuck
 else .stuck
theorem CA {K : PySem.W.Frag} {mg : Str → Option Value} {ρ : List Addr} {τ : DS} (h : vB K mg H ρ σ τ) : ∀ (js : List Nat) (caps : List D), js.mapM (fun j => (τ[j]?).join) = some caps → ∃ xs, ay K mg ρ H caps xs ∧ xs.length = js.length ∧ ∀ (l j : Nat), js[l]? = some j → ∃ x : V, xs[l]? = some x ∧ σ[j]? = some (some x)
 | [], caps, e => by
  simp at e
  subst e
  exact ⟨[], .nil, rfl, fun l j h => by simp at h⟩
 | j :: js, caps, e => by
  rw [List.mapM_cons] at e
  cases q : (τ[j]?).join with
  | none => rw [q] at e; cases e
  | some d =>
   rw [q] at e
   cases q2 : js.mapM (fun j => (τ[j]?).join) with
   | none => rw [q2] at e; cases e
   | some ds =>
    rw [q2] at e
    cases e
    obtain ⟨xs, r, hl, hx⟩ := CA h js ds q2
    have qj : τ[j]? = some (some d) := by
     cases z : τ[j]? with
     | none => rw [z] at q; cases q
     | some o => rw [z] at q; cases q; rfl
    obtain ⟨v, e1, rv⟩ := h.2 j d qj
    refine ⟨v :: xs, .cons rv r, by simp [hl], fun l j' hj => ?_⟩
    cases l with
    | zero =>
     simp at hj
     subst hj
     exact ⟨v, rfl, e1⟩
    | succ l => exact hx l j' (by simpa using hj)
theorem v7 {H : Hp} : ∀ {cs : List Addr} {xs : List V}, xs.length = cs.length → (∀ (l : Nat) (c : Addr) (x : V), cs[l]? = some c → xs[l]? = some x → ∃ (o : Obj) (u : Value), zJ H c o ∧ o.data = .cell (some u) ∧ RelV x u) → fH H cs xs
 | [], [], _, _ => rfl
 | [], x :: xs, h, _ => by simp at h
 | c :: cs, [], h, _ => by simp at h
 | c :: cs, x :: xs, h, k => by
  obtain ⟨o, u, h1, h2, h3⟩ := k 0 c x rfl rfl
  exact ⟨x, xs, o, u, rfl, h1, h2, h3, v7 (by simpa using h) fun l c' x' e1 e2 => k (l + 1) c' x' (by simpa using e1) (by simpa using e2)⟩
noncomputable def ie (H : Hp) (h : Heap) (cs : List Addr) : Hp := fun b => if b ∈ cs then (h.get? b).map fun o => .gY o (.own 0) else H b
theorem ig {h : Heap} {cs : List Addr} {b : Addr} (e : b ∉ cs) : ie H h cs b = H b := if_neg e
theorem tT {h : Heap} {cs : List Addr} {b : Addr} {o : Obj} (e : b ∈ cs) (q : h.get? b = some o) : zJ (ie H h cs) b o := by
 unfold zJ ie
 rw [if_pos e, q]; rfl
theorem FO {ns : List Str} {cs : List Addr} (I : Inv X pins σ H s) (hfn : ∀ x, X.fn x = true) (hlen : cs.length = ns.length) (hcs : ∀ (l : Nat) (y : Str), ns[l]? = some y → ∃ c, cs[l]? = some c ∧ X.env.cells.lookup y = some c) : Inv (Cx.held X ns) pins σ (ie H s.heap cs) s := by
 have name : ∀ c ∈ cs, ∃ y ∈ ns, X.env.cells.lookup y = some c := fun c hc => by
  obtain ⟨l, hl, e⟩ := List.getElem_of_mem hc
  have hl2 : l < ns.length := by omega
  obtain ⟨c', e1, e2⟩ := hcs l ns[l] (List.getElem?_eq_getElem hl2)
  rw [List.getElem?_eq_getElem hl, e] at e1
  cases e1
  exact ⟨ns[l], List.getElem_mem hl2, e2⟩
 have hnone : ∀ c ∈ cs, H c = none := fun c hc => by
  obtain ⟨y, _, e⟩ := name c hc
  exact (I.nP y c e).resolve_right fun z => by rw [hfn] at z; cases z.1
 have out : ∀ {b : Addr} {u : HO}, H b = some u → ie H s.heap cs b = some u := fun {b u} e => by
  rw [ig (fun hb => by rw [hnone b hb] at e; cases e)]; exact e
 have obj : ∀ c ∈ cs, ∃ o v, s.heap.get? c = some o ∧ o.data = .cell v := fun c hc => by
  obtain ⟨y, _, e⟩ := name c hc
  obtain ⟨v, o, h1, h2⟩ := I.cell y c e
  exact ⟨o, v, h1, h2⟩
 refine ⟨⟨I.ok.mod, I.ok.kind, I.ok.glob, I.ok.blt, I.ok.above, I.ok.inj, I.ok.has, fun x c h e => I.ok.LW x c (hfn x) e, I.ok.hd, I.ok.frames, I.ok.stk, I.ok.TM, I.ok.bs, I.ok.GK, I.ok.GS, I.ok.GU, I.ok.rC, I.ok.GV⟩, I.os, I.bare,
  ⟨I.base.keep, I.base.slot, fun b o e n hx => ?_, I.base.there, fun b xs e => out (I.base.tups b xs e), fun b o u e => out (I.base.nV b o u e), fun b ps e => ?_⟩, I.loc, I.cell, ?_, fun x c e => ?_, fun p hp => ?_, fun b ob e => ?_, I.len⟩
 ·rw [ig (fun hb => ?_)]
  ·exact I.base.free b o e n hx
  ·obtain ⟨y, _, ec⟩ := name b hb
   exact absurd (Nat.lt_of_lt_of_le (Heap.lt_size e) (I.ok.LW y b (hfn y) ec)) (Nat.lt_irrefl _)
 ·obtain ⟨more, z⟩ := I.base.pO b ps e
  exact ⟨more, out z⟩
 ·show ie H s.heap cs X.env.locals = none
  rw [ig (fun hb => ?_)]
  ·exact I.free
  ·obtain ⟨y, _, ec⟩ := name _ hb
   exact I.Ed y _ ec rfl
 ·by_cases hc : c ∈ cs
  ·obtain ⟨o, v, h1, _⟩ := obj c hc
   obtain ⟨y, hy, ec⟩ := name c hc
   have e' : X.env.cells.lookup x = some c := e
   have hxy : x = y := I.ok.inj x y c e' ec
   subst hxy
   refine .inr ⟨?_, o, _, tT hc h1⟩
   show (X.fn x && !(ns.contains x)) = false
   rw [List.contains_iff_mem.mpr hy]
   simp
  ·refine .inl ?_
   rw [ig hc]
   exact (I.nP x c e).resolve_right fun z => by rw [hfn] at z; cases z.1
 ·obtain ⟨e, n, ne, nf, d⟩ := I.pin p hp
  refine ⟨e, ?_, ne, nf, d⟩
  rw [ig (fun hb => ?_)]
  ·exact n
  ·obtain ⟨o, v, h1, h2⟩ := obj _ hb
   rw [e] at h1
   cases h1
   exact d v h2
 ·by_cases hb : b ∈ cs
  ·obtain ⟨o, v, h1, h2⟩ := obj b hb
   have z : some (HO.gY o (.own 0)) = some ob := (tT (H := H) hb h1).symm.trans e
   cases z
   exact ⟨h1, o, h1⟩
  ·rw [ig hb] at e
   exact (I.hok b ob e).stay (fun c u hc q => q) (fun c q => out q) fun c xs q => out q
end
end L3
end
section
set_option Elab.async false
set_option linter.all false
set_option maxRecDepth 100000
namespace L3
open PySem PySem.Spec L2
section
variable {X : Cx} {EE : fC} {pins : List (Addr × Obj)} {σ : L2.St} {H : Hp} {s : Shared} {st : Stmt} {rest : List Stmt} {ms mt : MS}
structure Made (P c' : Addr) (H : Hp) (h h' : Heap) (ps ps' : Array Value) (oc : Obj) : Prop where
 ext : ∀ b o, b ≠ P → h.get? b = some o → h'.get? b = some o
 tab : h'.get? P = some (PySem.W.tabObj ps')
 code : h'.get? c' = some oc
 sz : h.objs.size ≤ h'.objs.size
 old : (H c' = none ∧ h.objs.size ≤ c') ∨ H c' = some (.gY oc (.own 0))
 grow : ∃ more, ps' = ps ++ more
noncomputable def jh (H : Hp) (P c' a : Addr) (ps' : Array Value) (oc fo : Obj) : Hp := upd (upd (upd H P (.tu ps')) c' (.gY oc (.own 0))) a (.gY fo (.own 0))
theorem xU {P c' a : Addr} {h h' : Heap} {ps ps' : Array Value} {oc fo : Obj} {Pg : Program} {w : World} (M : Made P c' H h h' ps ps' oc) (hok : pN Pg w H h) (ha : a = h'.objs.size) (eP : H P = some (.tu ps)) {b : Addr} {u : HO} (e : H b = some u) (hb : b ≠ P) : jh H P c' a ps' oc fo b = some u := by
 have hba : b ≠ a := fun z => by
  have := hok.fresh (a := b) (by rw [z, ha]; exact M.sz)
  rw [this] at e; cases e
 unfold jh
 rw [aK hba]
 by_cases hbc : b = c'
 ·subst hbc
  rcases M.old with ⟨z, _⟩ | z
  ·rw [z] at e; cases e
  ·rw [cg, ← e, z]
 ·rw [aK hbc, aK hb]; exact e
theorem FP {P c' : Addr} {h' : Heap} {ps ps' : Array Value} {oc fo : Obj} {t' : Nat} (I : Inv X pins σ H s) (M : Made P c' H s.heap h' ps ps' oc) (eP : H P = some (.tu ps)) (ht : 0 < t') (hfo : fo.isFreed = false) :
  Inv X pins σ (jh H P c' h'.objs.size ps' oc fo) { s with heap := h'.push fo, toks := t' } := by
 have hca : c' ≠ h'.objs.size := Nat.ne_of_lt (Heap.lt_size M.code)
 have Qf : P < s.heap.objs.size := I.hok.lt eP
 have hPa : P ≠ h'.objs.size := Nat.ne_of_lt (Nat.lt_of_lt_of_le Qf M.sz)
 have Qg : c' ≠ P := by
  rintro rfl
  rcases M.old with ⟨z, _⟩ | z
  ·rw [eP] at z; cases z
  ·rw [eP] at z; cases z
 have As : ∀ {b : Addr} {u : HO}, H b = some u → b ≠ P → jh H P c' h'.objs.size ps' oc fo b = some u := fun e hb => xU M I.hok rfl eP e hb
 have Nf : jh H P c' h'.objs.size ps' oc fo P = some (.tu ps') := by
  unfold jh
  rw [aK hPa, aK (Ne.symm Qg), cg]
 have atC : jh H P c' h'.objs.size ps' oc fo c' = some (.gY oc (.own 0)) := by
  unfold jh
  rw [aK hca, cg]
 have OC : jh H P c' h'.objs.size ps' oc fo h'.objs.size = some (.gY fo (.own 0)) := cg
 have pP : (h'.push fo).get? P = some (PySem.W.tabObj ps') := Heap.get?_push_of_some _ M.tab
 have keep : ∀ b o, b ≠ P → s.heap.get? b = some o → (h'.push fo).get? b = some o := fun b o hb e => Heap.get?_push_of_some _ (M.ext b o hb e)
 refine I.step (g' := s.gens) (d' := s.drawn) (t' := t') (ch := []) (fun _ z => nomatch z) (fun b o hL hb _ e n => keep b o (fun z => by rw [z, eP] at n; cases n) e) (fun b o hL hb _ e n => ⟨o.slots, keep b o (fun z => by rw [z, eP] at n; cases n) e⟩) (fun b o _ e n => ?_) (fun b o _ e => ?_) (fun b xs e => As e fun z => by rw [z, eP] at e; cases e) (fun b o u e => As e fun z => by rw [z, eP] at e; cases e) (fun b qs e => ?_) (fun m hn => ?_) (fun b ob e => ?_) I.bare ht
 ·have RV := Heap.lt_size e
  have h1 : b ≠ h'.objs.size := Nat.ne_of_lt (Nat.lt_of_lt_of_le RV M.sz)
  have h2 : b ≠ c' := by
   rintro rfl
   rcases M.old with ⟨_, z⟩ | z
   ·exact absurd (Nat.lt_of_lt_of_le RV z) (Nat.lt_irrefl _)
   ·rw [n] at z; cases z
  have h3 : b ≠ P := fun z => by rw [z, eP] at n; cases n
  unfold jh
  rw [aK h1, aK h2, aK h3]; exact n
 ·by_cases hb : b = P
  ·exact ⟨_, hb ▸ pP⟩
  ·exact ⟨o, keep b o hb e⟩
 ·by_cases hb : b = P
  ·subst hb
   rw [eP] at e
   cases e
   obtain ⟨more, z⟩ := M.grow
   exact ⟨more, by rw [Nf, z]⟩
  ·exact ⟨#[], by rw [As e hb]; simp⟩
 ·have UQ : X.env.locals ≠ P := fun z => by
   have := I.free
   rw [z, eP] at this; cases this
  exact (hn.extBut (fun b o hb e => M.ext b o hb e) UQ).push _
 ·by_cases RW : b = h'.objs.size
  ·subst RW
   rw [OC] at e
   cases e
   exact ⟨Heap.get?_push_size _ hfo, _, Heap.get?_push_size _ hfo⟩
  ·by_cases RX : b = c'
   ·subst RX
    rw [atC] at e
    cases e
    exact ⟨Heap.get?_push_of_some _ M.code, _, Heap.get?_push_of_some _ M.code⟩
   ·by_cases Jw : b = P
    ·subst Jw
     rw [Nf] at e
     cases e
     exact pP
    ·have e' : H b = some ob := by
      unfold jh at e
      rw [aK RW, aK RX, aK Jw] at e; exact e
     refine (I.hok b ob e').stay (fun c u hc q => keep c u (fun z => ?_) q) (fun c q => As q fun z => by rw [z, eP] at q; cases q) fun c xs q => As q fun z => by rw [z, eP] at q; cases q
     rcases hc with rfl | hc
     ·exact Jw z
     ·rw [z, eP] at hc; cases hc
theorem IB {k : pS} {y : Str} {i : Nat} {js : List Nat} {cs : List Addr} {c P : Addr} (hst : st = .FunctionDef k.name k.params k.body [] none [] k.scope none k.name k.pos) (hk : vA X.K X.mg y = some k) (hd0 : k.params.defaults = []) (hk0 : k.params.kw_defaults = []) (ha : PySem.annTrees k.params none X.env = [])
  (hq : qualnameIn X.env k.name k.name = k.qual) (hcode : X.env.code = .ref c) (htab : PySem.W.tabIn X.K y = some (c, P)) (hC : PySem.W.CodeHd X.base c P) (hB : X.base.BuiltinsAt X.mg P)
  (hcl : closureFor k.scope X.env = pure (k.names.zip cs)) (hlen : cs.length = k.names.length) (hnd : cs.Nodup) (hcs : ∀ (l : Nat) (z : Str), k.names[l]? = some z → ∃ d, cs[l]? = some d ∧ X.env.cells.lookup z = some d)
  (hN : X.N[i]? = some k.name) (UR : X.N.Nodup) (hloc : X.env.scope.names.lookup k.name = some .local) (US : js.length = k.names.length) (hjn : ∀ (l j : Nat) (z : Str), js[l]? = some j → k.names[l]? = some z → X.N[j]? = some z) (hji : i ∉ js) (hcell : ∀ z ∈ k.names, X.env.scope.names.lookup z = some .cell) (hfn : ∀ x, X.fn x = true)
  (h2 : A1 (Cx.held X k.names) EE rest mt) : IA X EE (st :: rest) (aY (Ar i y js) mt) := by
 subst hst
 intro pins s σ H D I h
 obtain ⟨τ, ρ, G, ab, ok⟩ := h
 unfold aY Ar at ok
 by_cases hG : G.any (v5 y) = true
 ·rw [if_pos hG] at ok
  cases hcap : js.mapM (fun j => (τ[j]?).join) with
  | none => rw [hcap] at ok; exact ok.elim
  | some caps =>
   rw [hcap] at ok
   dsimp only at ok
   obtain ⟨o, hm, ho⟩ := List.any_eq_true.mp hG
   obtain ⟨t, UT, UU⟩ := List.getElem_of_mem hm
   have gt : G[t]? = some (.tab y) := by
    rw [List.getElem?_eq_getElem UT, UU]
    cases o with
    | tab z => rw [show z = y from beq_iff_eq.mp ho]
    | lst _ => cases ho
    | dead => cases ho
    | dct _ => cases ho
   obtain ⟨P', eρ, ps, c0, k0, eP, et, ek, hps⟩ := ab.hp.ob t _ gt
   rw [htab] at et
   cases et
   rw [hk] at ek
   cases ek
   have hP : s.heap.get? P = some (PySem.W.tabObj ps) := I.hok P _ eP
   have RY : PySem.W.CodeHd s.heap c P := hC.keeps I.bk
   have hg : s.heap.Ns mainGlobals X.mg := I.ok.mod.glob.keeps I.bk
   have hgP : mainGlobals ≠ P := fun z => by
    obtain ⟨o, es, ep, e, hd, _⟩ := hg
    rw [z, hP] at e; cases e; cases hd
   have RZ : s.heap.BuiltinsAt X.mg P := by
    obtain ⟨bm, o, b1, b2, b3, b4, b5, b6⟩ := hB
    exact ⟨bm, o, b1, b2, b3, b4, I.bk _ _ b5, b6⟩
   obtain ⟨xs, Ng, RS, hx⟩ := CA ab.st js caps hcap
   have fin : ∀ (h' : Heap) (tk : Nat) (c' : Addr) (doc pm ctv : Value) (ps' : Array Value) (oc : Obj) (ws : Array Value) (tz : Tok), 0 < tk → Made P c' H s.heap h' ps ps' oc → oc.data = .fields ws → ws[1]? = some (.str k.qual tz) →
     ps' = #[PySem.rawInt k.pos.line, PySem.rawInt k.pos.col, .ref c'] →
     wpAny (model X.prog X.w) X.A (storeName X.env k.name (.ref h'.objs.size)) (fun _ s'' => wpAny (model X.prog X.w) X.A (execs rest X.env) (RU X D) X.xe s'') X.xe { s with heap := h'.push (PySem.W.fnMade k.name k.qual k.params k.body k.scope (k.names.zip cs) doc pm c' ctv), toks := tk } := by
    intro h' tk c' doc pm ctv ps' oc ws tz htk M hd hv Qh
    have I1 := FP (fo := PySem.W.fnMade k.name k.qual k.params k.body k.scope (k.names.zip cs) doc pm c' ctv) I M eP htk rfl
    have As : ∀ {b : Addr} {u : HO}, H b = some u → b ≠ P → jh H P c' h'.objs.size ps' oc (PySem.W.fnMade k.name k.qual k.params k.body k.scope (k.names.zip cs) doc pm c' ctv) b = some u := fun e hb => xU M I.hok rfl eP e hb
    have hca : c' ≠ h'.objs.size := Nat.ne_of_lt (Heap.lt_size M.code)
    have Qf : P < s.heap.objs.size := I.hok.lt eP
    have hPa : P ≠ h'.objs.size := Nat.ne_of_lt (Nat.lt_of_lt_of_le Qf M.sz)
    have Qg : c' ≠ P := by
     rintro rfl
     rcases M.old with ⟨z, _⟩ | z
     ·rw [eP] at z; cases z
     ·rw [eP] at z; cases z
    have Nf : jh H P c' h'.objs.size ps' oc (PySem.W.fnMade k.name k.qual k.params k.body k.scope (k.names.zip cs) doc pm c' ctv) P = some (.tu ps') := by
     unfold jh
     rw [aK hPa, aK (Ne.symm Qg), cg]
    have atC : jh H P c' h'.objs.size ps' oc (PySem.W.fnMade k.name k.qual k.params k.body k.scope (k.names.zip cs) doc pm c' ctv) c' = some (.gY oc (.own 0)) := by
     unfold jh
     rw [aK hca, cg]
    have OC : jh H P c' h'.objs.size ps' oc (PySem.W.fnMade k.name k.qual k.params k.body k.scope (k.names.zip cs) doc pm c' ctv) h'.objs.size = some (.gY (PySem.W.fnMade k.name k.qual k.params k.body k.scope (k.names.zip cs) doc pm c' ctv) (.own 0)) := cg
    generalize jh H P c' h'.objs.size ps' oc (PySem.W.fnMade k.name k.qual k.params k.body k.scope (k.names.zip cs) doc pm c' ctv) = H1 at I1 As Nf atC OC
    generalize hs1 : ({ s with heap := h'.push (PySem.W.fnMade k.name k.qual k.params k.body k.scope (k.names.zip cs) doc pm c' ctv), toks := tk } : Shared) = s1 at I1 ⊢
    refine tw (v := .ref h'.objs.size) I1 UR hN (.inl hloc) rfl (fun s2 I2 _ => ?_) (.inr hloc)
    have I3 := FO (ns := k.names) I2 hfn hlen hcs
    have Nh : ∀ d ∈ cs, H1 d = none := fun d UW => by
     obtain ⟨l, hl, e⟩ := List.getElem_of_mem UW
     have hl2 : l < k.names.length := by omega
     obtain ⟨d', e1, e2⟩ := hcs l k.names[l] (List.getElem?_eq_getElem hl2)
     rw [List.getElem?_eq_getElem hl, e] at e1
     cases e1
     exact (I2.nP _ _ e2).resolve_right fun z => by rw [hfn] at z; cases z.1
    have out : ∀ {b : Addr} {u : HO}, H1 b = some u → ie H1 s2.heap cs b = some u := fun {b u} e => by
     rw [ig (fun hb => by rw [Nh b hb] at e; cases e)]; exact e
    have FQ : ∀ {b : Addr} {u : HO}, H b = some u → b ≠ P → ie H1 s2.heap cs b = some u := fun e hb => out (As e hb)
    have fut : eX X.K H (ie H1 s2.heap cs) ρ ρ := by
     refine ⟨fun b zs hh => ?_, fun b q u hh => FQ hh fun z => (by rw [z, eP] at hh; cases hh), ⟨[], by simp⟩, fun b φ hh => FQ hh fun z => (by rw [z, eP] at hh; cases hh)⟩
     rcases hh with (hh | ⟨q, hh⟩) | hh
     ·exact .inl (.inl (FQ hh fun z => by rw [z, eP] at hh; cases hh))
     ·exact .inl (.inr ⟨q, FQ hh fun z => by rw [z, eP] at hh; cases hh⟩)
     ·exact .inr hh
    have FT : tG (ie H1 s2.heap cs) c' k.qual := ⟨oc, ws, tz, out atC, hd, hv⟩
    have A2 : kh X.K X.mg (ie H1 s2.heap cs) ρ G := by
     refine ⟨ab.hp.hl, ab.hp.nd, fun n ob e => ?_⟩
     obtain ⟨a', e1, r⟩ := ab.hp.ob n ob e
     by_cases ha' : a' = P
     ·subst ha'
      have hnt : n = t := by
       obtain ⟨l1, q1⟩ := List.getElem?_eq_some_iff.mp e1
       obtain ⟨l2, q2⟩ := List.getElem?_eq_some_iff.mp eρ
       exact (List.getElem_inj ab.hp.nd).mp (q1.trans q2.symm)
      subst hnt
      rw [gt] at e
      cases e
      exact ⟨a', e1, ps', c, k, out Nf, htab, hk, .inr ⟨c', Qh, FT⟩⟩
     ·exact ⟨a', e1, r.mono fut fun u q => FQ q ha'⟩
    have hce : fH (ie H1 s2.heap cs) cs xs := by
     refine v7 (by rw [RS, US, hlen]) fun l d x e1 e2 => ?_
     have hl : l < js.length := by
      have := (List.getElem?_eq_some_iff.mp e2).1
      omega
     have hl2 : l < k.names.length := by omega
     obtain ⟨x', e3, e4⟩ := hx l js[l] (List.getElem?_eq_getElem hl)
     rw [e2] at e3
     cases e3
     have hne : i ≠ js[l] := fun z => hji (z ▸ List.getElem_mem hl)
     have nm := hjn l js[l] k.names[l] (List.getElem?_eq_getElem hl) (List.getElem?_eq_getElem hl2)
     have kc := hcell k.names[l] (List.getElem_mem hl2)
     obtain ⟨m, _, hlk⟩ := I2.loc
     obtain ⟨u, ru, lk⟩ := hlk js[l] k.names[l] x nm (by rw [List.getElem?_set_ne hne]; exact e4) (.inr (.inl kc))
     rcases lk with ⟨kk, _⟩ | ⟨_, d', e5, UX, e6, e7⟩
     ·have R0 : X.env.scope.names.lookup k.names[l] = some .local := kk
      rw [kc] at R0; cases R0
     ·obtain ⟨d2, e8, e9⟩ := hcs l k.names[l] (List.getElem?_eq_getElem hl2)
      rw [e1] at e8
      cases e8
      rw [e9] at e5
      cases e5
      exact ⟨UX, u, tT (List.mem_of_getElem? e1) e6, e7, ru⟩
    have Iz : rK (ie H1 s2.heap cs) k h'.objs.size cs := ⟨hlen, hnd, doc, pm, ctv, c', out OC, FT⟩
    have UY : Rep X.K X.mg ρ (ie H1 s2.heap cs) (.lN y caps) (.ref h'.objs.size) := by
     unfold Rep
     exact ⟨k, _, cs, xs, rfl, hk, Iz, hce, Ng.mono fut⟩
    have cB : Ab X.K X.mg (σ.set i (some (.ref h'.objs.size))) (ie H1 s2.heap cs) (τ.set i (some (.lN y caps))) ρ G := ⟨(ab.st.mono fut).set UY, A2⟩
    have hw := h2 pins s2 _ _ D I3 ⟨_, ρ, G, cB, ok.fut fut⟩
    refine gX hw fun fl s' hs => ?_
    cases fl with
    | next =>
     obtain ⟨σ', H', J, q⟩ := hs
     exact ⟨σ', H', ⟨J.os, J.bare, J.base, J.hok⟩, q⟩
    | ret u =>
     obtain ⟨v, σ', H', J, rv, q⟩ := hs
     exact ⟨v, H', ⟨J.os, J.bare, J.base, J.hok⟩, rv, q⟩
    | brk =>
     obtain ⟨σ', H', J, q⟩ := hs
     exact ⟨σ', H', q⟩
    | cont =>
     obtain ⟨σ', H', J, q⟩ := hs
     exact ⟨σ', H', q⟩
   refine wpAny_execs_cons (PySem.W.nestDef_K hd0 hk0 ha ?_)
   rw [hq]
   rcases hps with rfl | ⟨c', rfl, oc, ws, t, fc, hd, hv⟩
   ·refine nZ I.os.2 (PySem.W.makeFunction_K (mg := X.mg) hcl I.ok.glob hg hcode RY hP trivial rfl hgP RZ fun c' ctv doc h' tk hx hge hlt hrec htb => fun htk => ?_)
    obtain ⟨c₂, oc, ws, t, e2, hoc, hd, hv⟩ := hrec
    cases e2
    exact fin h' tk c' doc _ ctv _ oc ws t htk ⟨fun b o hb e => hx b o hb e, htb, hoc, Nat.le_trans hge (Nat.le_of_lt hlt), .inl ⟨I.hok.fresh hge, hge⟩, ⟨_, rfl⟩⟩ hd hv (by simp)
   ·have Ld : s.heap.get? c' = some oc := (I.hok c' _ fc).1
    refine nZ I.os.2 (PySem.W.makeFunction_hit (mg := X.mg) (cv := .ref c') hcl I.ok.glob hg hcode RY hP trivial (by simp [codeAmong, PySem.rawInt]) RZ fun ctv doc h' tk hkp hsz => fun htk => ?_)
    exact fin h' tk c' doc _ ctv _ oc ws t htk ⟨fun b o _ e => hkp b o e, hkp _ _ hP, hkp _ _ Ld, hsz, .inr fc, ⟨#[], by simp⟩⟩ hd hv rfl
 ·rw [if_neg hG] at ok
  exact ok.elim
end
end L3
end
section
set_option Elab.async false
set_option linter.all false
set_option maxRecDepth 100000
namespace L3
open PySem PySem.Spec L2
section
variable {P : Program} {w : World} {K : PySem.W.Frag} {mg : Str → Option Value} {base : Heap} {f : Addr} {fd : FuncData}
theorem Qi {x qual : Str} {st : Stmt} {N ps : List Str} {k n nn : Nat} {ms : MS} {m : List D → M D} {c Pt : Addr} (F : uY K x qual st f fd) (S : cN N ps (aa st)) (hps : ps.length = n) (hN : N.length = nn) (hm : ∀ ds G, m ds G = pY (cG nn ms ds G))
  (htab : PySem.W.tabIn K x = some (c, Pt)) (UZ : mg x = some (.ref f))
  (hbody : ∀ (X : Cx) (EE : fC) (A : Around) (outer : List Env) (s : Shared) (H : Hp) (E : XK), X = jE (bV P w) P w K mg base N qual (aa st) f (.ref c) A outer s H E → gm k (A.deeper (PyProof.Rows.envOfC qual (aa st) s.heap.objs.size f (.ref c))) →
   kP X EE → (∀ ns, kP (Cx.held X ns) EE) → PassesOwn (model P w) X.A X.env X.xe → IA X EE (az st) ms) :
  bC P w K mg base (bV P w) (k + 1) f fd ps (aZ K mg n m) := by
 subst hps hN
 obtain ⟨oc, od, kV, doc, pm, an, cdv, ct, osl, rfl, lk, hcd⟩ := F.ex
 refine ⟨fun vs H Q E h => h.len, fun A outer s H args us vs Q E hr e0 htk hb r B0 => ?_⟩
 have hc : cdv = .ref c := PySem.W.law_code e0.mod.IY e0.mod.glob htab UZ (e0.mod.IY _ _ lk) rfl
 subst hc
 have hl := B0.len
 obtain ⟨ds, ρ, G, hn, hp, rs, ok⟩ := B0
 have KX : K.In s.heap := e0.mod.IY.keeps fun b o e => (e0.bs b o e).1
 have lim : s.heap.NoLimit := e0.mod.nolimit.keeps fun b o e => (e0.bs b o e).1
 have hkind : ∀ y ∈ ps.zip us, (aa st).names.lookup y.1 = some .local ∨ ((aa st).names.lookup y.1 = some .cell ∧ ((cellsFrom (s.heap.objs.size + 1) (aa st).names []).lookup y.1).isSome = true) := fun ⟨n, v⟩ hy => by
  rcases S.par n (List.of_mem_zip hy).1 with q | q
  ·exact .inl q
  ·exact .inr ⟨q, PySem.W.cellsFrom_some _ _ _ (.inl q)⟩
 refine codeAny_call_function hr.depth (KX _ _ lk) rfl S.co S.gen rfl (PySem.W.codeRec_of KX hcd) (hb _ _ _ _ ?_)
 refine nZ htk (wpAny_newFunctionEnv_cells S.kind hkind fun env he s1 x => fun Kh => ?_)
 subst he
 refine ⟨lim.keeps x.toInCall.keep, codeAny_func ?_⟩
 have hB := hbody _ (fun _ _ _ => False) A outer s H E rfl (hr.deeper _) (fun _ _ _ _ _ _ _ _ _ _ z => z.elim) (fun _ _ _ _ _ _ _ _ _ _ _ z => z.elim) PassesOwn.leaving
 have I : Inv (jE (bV P w) P w K mg base N qual (aa st) f (.ref c) A outer s H E) [] (L2.start N vs) H s1 := xB S hr.hd e0 hl r x (n := s1.toks) Kh
 have hq : iK K mg (fun _ _ _ => False) ms { nx := fun _ H' => Q .jd H', rt := Q } (L2.start N vs) H := by
  refine ⟨ds.map some ++ List.replicate (N.length - ds.length) none, ρ, G, ⟨m6 rs, hp⟩, ?_⟩
  rw [hm] at ok
  dsimp only [cG] at ok
  cases q : ms (ds.map some ++ List.replicate (N.length - ds.length) none) G with
  | stuck => rw [q] at ok; exact ok
  | nx τ G' => rw [q] at ok; exact fun σ' H' ρ' f ab => ok .jd H' ρ' f ab.hp (by unfold Rep; rfl)
  | rt d G' => rw [q] at ok; exact fun v H' ρ' f hp r => ok v H' ρ' f hp r
  | bk τ G' => rw [q] at ok; exact ok.elim
  | ct τ G' => rw [q] at ok; exact ok.elim
  | xn c τ G' => rw [q] at ok; exact ok.elim
 refine wpAny_mono (hB [] s1 (L2.start N vs) H _ I hq) (fun fl s' hs => ?_) fun e s' hs => hs
 have fin : ∀ {H' : Hp} {v : V} {u : Value}, FN (jE (bV P w) P w K mg base N qual (aa st) f (.ref c) A outer s H E) H' s' → RelV v u → Q v H' → CE outer P w H s Q u s' :=
  fun {H' v u} J rv q => ⟨v, H', J.os, J.bare, J.base, J.hok, rv, q⟩
 cases fl with
 | ret u =>
  obtain ⟨v, H', J, rv, q⟩ := hs
  exact fin J rv q
 | next =>
  obtain ⟨σ', H', J, q⟩ := hs
  exact fin (v := V.jd) (u := Value.none) J rfl q
 | brk =>
  obtain ⟨_, _, q⟩ := hs
  exact False.elim q
 | cont =>
  obtain ⟨_, _, q⟩ := hs
  exact False.elim q
theorem Ni {x qual : Str} {st : Stmt} {N ps : List Str} {k n nn : Nat} {ms : MS} {m : List D → M D} (F : uY K x qual st f fd) (S : oA N ps [] (aa st)) (hps : ps.length = n) (hn0 : 0 < n) (hN : N.length = nn) (hm : ∀ ds G, m ds G = pY (cG nn ms ds G))
  (hbody : ∀ (X : Cx) (EE : fC) (c : Addr) (A : Around) (outer : List Env) (s : Shared) (H : Hp) (E : XK), X = Iw (bV P w) P w K mg base N ⟨x, qual, aE st, az st, aa st, ⟨0, 0, 0, 0⟩, []⟩ [] f c A outer s H E → gm k (A.deeper (BF ⟨x, qual, aE st, az st, aa st, ⟨0, 0, 0, 0⟩, []⟩ [] s.heap.objs.size f c)) →
   kP X EE → PassesOwn (model P w) X.A X.env X.xe → A1 X EE (az st) ms) :
  rE P w K mg base (bV P w) (k + 1) f fd ps (aZ K mg n m) := by
 subst hps hN
 obtain ⟨oc, od, kV, doc, pm, an, cdv, ct, osl, rfl, lk, hcd⟩ := F.ex
 refine ⟨fun vs H Q E h => h.len, fun A outer s H args us vs Q E hr e0 hb r B0 => ?_⟩
 have hl := B0.len
 obtain ⟨ds, ρ, G, hn, hp, rs, ok⟩ := B0
 have KX : K.In s.heap := e0.mod.IY.keeps fun b o e => (e0.bs b o e).1
 have lim : s.heap.NoLimit := e0.mod.nolimit.keeps fun b o e => (e0.bs b o e).1
 have hrec := PySem.W.codeRec_of KX hcd
 obtain ⟨c, WK, ws, t, rfl, hoc, hd, hv⟩ := id hrec
 refine codeAny_call_def (fd := PySem.W.fnOf x qual (aE st) (az st) (aa st) .none kV doc pm an (.ref c) ct) (body := az st) (binds := ps.zip us) hr.depth (KX _ _ lk) rfl lim hrec rfl hb S.tO (fun y hy => S.par y.1 (List.of_mem_zip hy).1) (fun h1 hns hk1 => ?_) S.co S.gen S.kind
 have OB : us.length = ps.length := by rw [← r.length]; exact hl
 have htk : 0 < s.toks + (ps.zip us).length := by rw [List.length_zip, OB, Nat.min_self]; omega
 have I : Inv (Iw (bV P w) P w K mg base N ⟨x, qual, aE st, az st, aa st, ⟨0, 0, 0, 0⟩, []⟩ [] f c A outer s H E) [] (L2.start N (vs ++ [])) H { s with heap := h1, toks := s.toks + (ps.zip us).length } := Cz (cs := []) (xs := []) S hr.hd e0 hl r rfl List.nodup_nil rfl hns hk1 htk
 rw [List.append_nil] at I
 have hB := hbody _ (fun _ _ _ => False) c A outer s H E rfl (hr.deeper _) (fun _ _ _ _ _ _ _ _ _ _ z => z.elim) PassesOwn.leaving
 have hq : iK K mg (fun _ _ _ => False) ms { nx := fun _ H' => Q .jd H', rt := Q } (L2.start N vs) H := by
  refine ⟨ds.map some ++ List.replicate (N.length - ds.length) none, ρ, G, ⟨m6 rs, hp⟩, ?_⟩
  rw [hm] at ok
  dsimp only [cG] at ok
  cases q : ms (ds.map some ++ List.replicate (N.length - ds.length) none) G with
  | stuck => rw [q] at ok; exact ok
  | nx τ G' => rw [q] at ok; exact fun σ' H' ρ' f ab => ok .jd H' ρ' f ab.hp (by unfold Rep; rfl)
  | rt d G' => rw [q] at ok; exact fun v H' ρ' f hp r => ok v H' ρ' f hp r
  | bk τ G' => rw [q] at ok; exact ok.elim
  | ct τ G' => rw [q] at ok; exact ok.elim
  | xn c τ G' => rw [q] at ok; exact ok.elim
 refine wpAny_mono (hB [] _ (L2.start N vs) H _ I hq) (fun fl s' hs => ?_) fun e s' hs => hs
 have fin : ∀ {σ' : St} {H' : Hp} {v : V} {u : Value}, Inv (Iw (bV P w) P w K mg base N ⟨x, qual, aE st, az st, aa st, ⟨0, 0, 0, 0⟩, []⟩ [] f c A outer s H E) [] σ' H' s' → RelV v u → Q v H' → CE outer P w H s Q u s' :=
  fun {σ' H' v u} J rv q => ⟨v, H', J.os, J.bare, J.base, J.hok, rv, q⟩
 cases fl with
 | ret u =>
  obtain ⟨v, σ', H', J, rv, q⟩ := hs
  exact fin J rv q
 | next =>
  obtain ⟨σ', H', J, q⟩ := hs
  exact fin (v := V.jd) (u := Value.none) J rfl q
 | brk =>
  obtain ⟨_, _, _, q⟩ := hs
  exact False.elim q
 | cont =>
  obtain ⟨_, _, _, q⟩ := hs
  exact False.elim q
end
end L3
end
section
set_option Elab.async false
set_option linter.all false
set_option maxRecDepth 100000
namespace L3
open PySem PySem.Spec L2 PyProof.Rows
noncomputable def CB (Pt : Addr) (H : Hp) : Prop := H Pt = some (.tu #[]) ∧ ∀ b, b ≠ Pt → H b = none ∨ ∃ o xs, H b = some (.gY o (.lst xs))
theorem DF {P : Program} {w : World} {K : PySem.W.Frag} {mg mb : Str → Option Value} {CX : uW} {k : Nat} {fa a c Pt : Addr} {fd : FuncData} {x : Str} {sp : Sp} {s₁ : Shared} {vs : List Value} {ns : List Int}
  (KX : K.In s₁.heap) (hns : s₁.heap.Ns mainGlobals mg) (hb : s₁.heap.Ns builtinsNs mb) (LI : ∀ x : Str, x ≠ "__name__" → mb x = bootBuiltins x) (hlim : s₁.heap.NoLimit) (hg : s₁.gens = #[])
  (ha : s₁.heap.get? a = some { cls := .type "list", data := .seq vs.toArray }) (hi : PyProof.Rows.IntsAre vs ns) (hl : ns.length ≤ sizeLine) (hr : gm k callerA)
  (LP : PySem.W.CodeHd s₁.heap c Pt) (LQ : s₁.heap.get? Pt = some (PySem.W.tabObj #[])) (U0 : K.lookup Pt = none) (Nj : s₁.heap.BuiltinsAt mg Pt)
  (F : ∀ base : Heap, K.In base → base.Ns mainGlobals mg → PySem.W.CodeHd base c Pt → base.BuiltinsAt mg Pt → rE P w K mg base CX k fa fd [x] sp) (hbind : ∀ (s : Shared) (u : Value), BindsTo s fd ⟨[u], []⟩ [(x, u)])
  (B0 : ∀ H : Hp, CB Pt H → Hw K H a (ns.map V.int) → sp [.ref a] H (fun v _ => v = .bl true) fun _ _ _ => False)
  (Qj : ∀ H e s', CX [] H s₁ (fun _ _ _ => False) e s' → False) :
  codeAny (model P w) callerA (.call (.ref fa) ⟨[.ref a], []⟩) (fun r s' => r = .ok (.ret (.bool true)) ∧ OldK s₁.heap s'.heap ∧ s'.os = s₁.os ∧ PyProof.Rows.AllBare s'.gens) s₁ := by
 have rv := xD hi
 have Qk := hi.length
 have R1 : a ≠ Pt := fun z => by rw [z, LQ] at ha; cases ha
 have core : ∀ H : Hp, CB Pt H → Hw K H a (ns.map V.int) → pN P w H s₁.heap → (∀ b, H b ≠ none → b = a ∨ b = Pt) → (H a ≠ none → K.lookup a = none) →
   codeAny (model P w) callerA (.call (.ref fa) ⟨[.ref a], []⟩) (fun r s' => r = .ok (.ret (.bool true)) ∧ OldK s₁.heap s'.heap ∧ s'.os = s₁.os ∧ PyProof.Rows.AllBare s'.gens) s₁ := by
  intro H hO hS hok hA hK
  have kZ : ∀ {b : Addr} {o : Obj}, s₁.heap.get? b = some o → H b = none → (vm s₁.heap H).get? b = some o := fun e n => Ec e n
  have free : ∀ {b : Addr} {o : Obj}, s₁.heap.get? b = some o → o ≠ { cls := .type "list", data := .seq vs.toArray } → o ≠ PySem.W.tabObj #[] → H b = none := fun {b o} e n1 n2 => by
   cases q : H b with
   | none => rfl
   | some u =>
    rcases hA b (by rw [q]; simp) with z | z
    ·rw [z, ha] at e; cases e; exact absurd rfl n1
    ·rw [z, LQ] at e; cases e; exact absurd rfl n2
  have Hf : ∀ {b : Addr} {o : Obj} {es : Array DictEntry} {ep : Nat}, s₁.heap.get? b = some o → o.data = .dict es ep → H b = none := fun {b o es ep} e d => free e (fun z => by rw [z] at d; cases d) fun z => by rw [z] at d; cases d
  have OD : ∀ {b : Addr} {m : Str → Option Value}, s₁.heap.Ns b m → (vm s₁.heap H).Ns b m := fun {b m} ⟨o, es, ep, e, d, r⟩ => ⟨o, es, ep, kZ e (Hf e d), d, r⟩
  have R3 : K.In (vm s₁.heap H) := fun b o e => kZ (KX b o e) (by
   cases q : H b with
   | none => rfl
   | some u =>
    rcases hA b (by rw [q]; simp) with z | z
    ·subst z
     rw [hK (by rw [q]; simp)] at e; cases e
    ·rw [z, U0] at e; cases e)
  have hM : Mod K mg (vm s₁.heap H) := ⟨R3, OD hns, ⟨mb, OD hb, LI⟩, let ⟨mc, h1, h2⟩ := hlim; ⟨mc, OD h1, h2⟩⟩
  have U1 : PySem.W.CodeHd (vm s₁.heap H) c Pt := by
   obtain ⟨o, ws, file, tf, flags, tg, U3, text, tt, e, hcl, r⟩ := id LP
   exact ⟨o, ws, file, tf, flags, tg, U3, text, tt, kZ e (free e (fun z => by rw [z] at hcl; simp at hcl) fun z => by rw [z] at hcl; cases hcl), hcl, r⟩
  have U4 : (vm s₁.heap H).BuiltinsAt mg Pt := by
   obtain ⟨bm, o, b1, b2, b3, b4, e, hcl, r⟩ := id Nj
   exact ⟨bm, o, b1, b2, b3, b4, kZ e (free e (fun z => by rw [z] at hcl; simp at hcl) fun z => by rw [z] at hcl; cases hcl), hcl, r⟩
  have e0 : tE P w K mg (vm s₁.heap H) callerA [] s₁ H := ⟨rfl, hM, fun b o e => GQ e, Nat.le_of_eq (CY _ _), trivial, fun b hb => absurd (show b ∈ ([] : List Addr) from hb) (by simp), hok, .of_eq hg⟩
  refine codeAny_mono ((F _ R3 (OD hns) U1 U4).run callerA [] s₁ H ⟨[.ref a], []⟩ [.ref a] [.ref a] _ _ hr e0 (hbind s₁ (.ref a)) (.cons rfl .nil) (B0 H hO hS)) fun r s' h => ?_
  cases r with
  | error e => exact (Qj H e s' h).elim
  | ok fl =>
   cases fl with
   | next => exact False.elim h
   | brk => exact False.elim h
   | cont => exact False.elim h
   | ret u =>
    obtain ⟨v, H', os, bare, un, Nk, r', q⟩ := h
    have q' : v = .bl true := q
    subst q'
    obtain rfl : u = Value.bool true := r'
    refine ⟨rfl, ⟨fun b o e => ?_, fun b o e => un.there b o e (by simp)⟩, os.1, bare⟩
    cases q : H b with
    | none => exact .inl (un.keep b o e q (by intro z; exact absurd (show b ∈ ([] : List Addr) from z) (by simp)) (by simp))
    | some u =>
     by_cases Jw : b = Pt
     ·subst Jw
      obtain ⟨more, z2⟩ := un.pO b _ hO.1
      have e2 : s'.heap.get? b = some (PySem.W.tabObj (#[] ++ more)) := Nk b _ z2
      rw [LQ] at e
      cases e
      exact .inr (.inl ⟨(LP.tab LQ).isCodeTable, rfl, #[], more, rfl, e2⟩)
     ·rcases hO.2 b Jw with z | ⟨ob, xs, z⟩
      ·rw [q] at z; cases z
      ·have z2 := un.nV b ob _ z
       obtain ⟨e1, _⟩ := hok b _ z
       obtain ⟨e2, _⟩ := Nk b _ z2
       rw [e] at e1; cases e1
       exact .inl e2
 cases hk : K.lookup a with
 | some o =>
  have e := KX a o hk
  rw [ha] at e
  cases e
  refine core (fun b => if b = Pt then some (.tu #[]) else none) ⟨if_pos rfl, fun b hb => .inl (if_neg hb)⟩ (.inr ⟨_, vs.toArray, _, hk, rfl, rfl, rfl, by rw [List.size_toArray, Qk]; exact hl, by simpa using rv⟩) (fun b u z => ?_) (fun b z => ?_) fun z => absurd (if_neg R1) z
  ·by_cases hb : b = Pt
   ·have z' := (if_pos hb).symm.trans z
    cases z'
    subst hb
    exact LQ
   ·have z' := (if_neg hb).symm.trans z
    cases z'
  ·by_cases hb : b = Pt
   ·exact .inr hb
   ·exact absurd (if_neg hb) z
 | none =>
  refine core (fun b => if b = Pt then some (.tu #[]) else if b = a then some (.gY { cls := .type "list", data := .seq vs.toArray } (.lst (ns.map V.int))) else none) ⟨if_pos rfl, fun b hb => ?_⟩ (.inl ⟨{ cls := .type "list", data := .seq vs.toArray }, (if_neg R1).trans (if_pos rfl)⟩) (fun b u z => ?_) (fun b z => ?_) fun _ => hk
  ·by_cases hba : b = a
   ·exact .inr ⟨_, _, (if_neg hb).trans (if_pos hba)⟩
   ·exact .inl ((if_neg hb).trans (if_neg hba))
  ·by_cases hb : b = Pt
   ·have z' := (if_pos hb).symm.trans z
    cases z'
    subst hb
    exact LQ
   ·have z0 := (if_neg hb).symm.trans z
    by_cases hba : b = a
    ·have z' := (if_pos hba).symm.trans z0
     cases z'
     subst hba
     exact ⟨ha, by rw [List.length_map]; exact hl, vs, _, rv, ha⟩
    ·have z' := (if_neg hba).symm.trans z0
     cases z'
  ·by_cases hb : b = Pt
   ·exact .inr hb
   ·by_cases hba : b = a
    ·exact .inl hba
    ·exact absurd ((if_neg hb).trans (if_neg hba)) z
theorem yS {K : PySem.W.Frag} {h : Heap} {Pt : Addr} (X : K.In h) (hK : PySem.W.noTabs K = true) (hP : h.get? Pt = some (PySem.W.tabObj #[])) : K.lookup Pt = none := by
 cases e : K.lookup Pt with
 | none => rfl
 | some o =>
  have e1 := X Pt o e
  rw [hP] at e1
  cases e1
  have := List.all_eq_true.mp hK _ (PySem.W.mem_of_lookupK e)
  cases this
theorem FU {l : PySem.W.OpenLaw} {n k : Nat} {q : Program} {loose : List Str} {XP : (Str → Option Value) → Heap → Prop} {YP : World → Heap → Prop} {d : DefRec} {K : Params → PySem.W.Frag} {CX : World → uW} {x y : Str} {dy : DefRec}
  (hn : l.most = some n) (hn2 : n ≤ sizeLine) (hdf : d.params.defaults = []) (hr : gm k callerA) (hrec : (recsOf q).find? (fun e => e.name == y) = some dy)
  (hY : ∀ (w : World) (h : Heap), YP w h → (K w.params).In h) (hT : ∀ w : World, PySem.W.noTabs (K w.params) = true)
  (F : ∀ (w : World) (mg : Str → Option Value) (fa : Addr) (h : Heap), (K w.params).In h → h.Ns mainGlobals mg → mg d.name = some (.ref fa) →
   ∃ (fd : FuncData) (c Pt : Addr) (sp : Sp), PySem.W.tabIn (K w.params) y = some (c, Pt) ∧ (∀ (s : Shared) (u : Value), BindsTo s fd ⟨[u], []⟩ [(x, u)]) ∧
    (∀ base : Heap, (K w.params).In base → base.Ns mainGlobals mg → PySem.W.CodeHd base c Pt → base.BuiltinsAt mg Pt → rE l.prog w (K w.params) mg base (CX w) k fa fd [x] sp) ∧
    ∀ (H : Hp) (a : Addr) (ns : List Int), ns.length ≤ n → CB Pt H → Hw (K w.params) H a (ns.map V.int) → sp [.ref a] H (fun v _ => v = .bl true) fun _ _ _ => False)
  (Qj : ∀ (w : World) (H : Hp) (s : Shared) (e : Value) (s' : Shared), CX w [] H s (fun _ _ _ => False) e s' → False) :
  PySem.W.WalkO q loose XP YP l.row.toRowW d [] (fun f vs => PySem.call f vs) := by
 refine Rw.zI hn hdf fun w s₀ s₁ mg mb fa o pm cd doc a vs ns G Y ho hd hcd hmg hobj hints hlen hg => ?_
 have KX := hY w _ Y
 obtain ⟨fd, c, Pt, sp, ht, hb, hF, B0⟩ := F w mg fa _ KX G.T.g hmg
 obtain ⟨hC, hP⟩ := PySem.W.tab_of G.T KX hrec ht
 obtain ⟨bm, ob, b1, b2, b3, b4, b5, b6⟩ := G.T.bmain
 have Jw : bm ≠ Pt := fun z => by rw [z, hP] at b3; cases b3; cases b4
 have U5 : bm ≠ mainGlobals := fun z => by
  obtain ⟨o, es, ep, e, hd, _⟩ := G.T.g
  rw [z, e] at b3; cases b3; rw [hd] at b6; cases b6
 exact DF KX G.T.g G.T.b G.T.builtins G.T.nolimit hg hobj hints (Nat.le_trans hlen hn2) hr hC hP (yS KX (hT w) hP) ⟨bm, ob, b1, b2, U5, Jw, b3, b4, b5, b6⟩ hF hb (fun H hO hS => B0 H a ns hlen hO hS) fun H e s' => Qj w H s₁ e s'
theorem Le {K : PySem.W.Frag} {mg : Str → Option Value} {m : List D → M D} {y : Str} {c Pt a : Addr} {Ea : pS} {H : Hp} {ns : List Int} (hm : ∀ ns : List Int, ns.length ≤ 63 → ∃ G, m [.con (ns.map .int)] [.tab y] = .ok (.bl true) G) (hl : ns.length ≤ 63) (ht : PySem.W.tabIn K y = some (c, Pt)) (hk : vA K mg y = some Ea) (hO : CB Pt H) (hS : Hw K H a (ns.map V.int)) :
  aZ K mg 1 m [.ref a] H (fun v _ => v = .bl true) fun _ _ _ => False := by
 obtain ⟨G, e⟩ := hm ns hl
 refine ⟨[.con (ns.map .int)], [Pt], [.tab y], rfl, ⟨rfl, by simp, fun n o e => ?_⟩, .cons (by unfold Rep; exact ⟨a, _, rfl, hS, .ints ns⟩) .nil, ?_⟩
 ·cases n with
  | zero =>
   simp at e
   subst e
   exact ⟨Pt, rfl, #[], c, Ea, hO.1, ht, hk, .inl rfl⟩
  | succ n => simp at e
 ·rw [e]
  intro v H' ρ' _ _ r
  unfold Rep at r
  exact r
end L3
end
section
set_option Elab.async false
set_option linter.all false
set_option maxRecDepth 100000
namespace L3
open PySem PySem.Spec L2 PyProof.Rows
section
variable {X : Cx} {EE : fC} {e : Expr} {m : DS → M (List D)} {p pos : Pos}
noncomputable def IC : List D → M D
 | [.int i] => M.ret (.int (if i < 0 then -i else i))
 | _ => M.stop
theorem DG : jC X (.builtin "abs") (Je X EE IC) := by
 intro pins s σ0 H xs us Q I r ⟨σ, τ, ρ, G, ds, ab, D7, ok⟩
 match ds, ok with
 | [], ok => exact ok.elim
 | d :: _ :: _, ok => cases d <;> exact ok.elim
 | [d], ok =>
  obtain ⟨x, rfl, rx⟩ := oh D7
  cases d <;> try exact ok.elim
  rename_i i
  unfold Rep at rx; subst rx
  exact Em pins s σ0 H _ us Q I r ⟨i, rfl, ok _ H ρ .refl ab (by unfold Rep; rfl)⟩
theorem DI : bootBuiltins "abs" = some (.builtin "abs") := by decide +kernel
theorem Lf (hm : X.mg "abs" = none) (hg : Gl X "abs") (ha : QA X EE [e] m) (h : aL [e] = true := by rfl) : QE X EE (.Call (.Name "abs" p) [e] [] pos) (av IC m) := vJ DG hm hg DI ha (by decide) (by decide) h
end
theorem Ql {y0 : Str} {c0 : Nat} {m0 : List D → M D} {Pr : Str → Nat → (List D → M D) → Prop} (h : Pr y0 c0 m0) : ∀ y c mf, List.lookup y [(y0, (c0, m0))] = some (c, mf) → Pr y c mf := fun y c mf e => by
 rw [List.lookup_cons] at e
 cases q : (y == y0) with
 | false => rw [q] at e; cases e
 | true =>
  rw [q] at e
  cases e
  rw [beq_iff_eq.mp q]; exact h
theorem BG {K : PySem.W.Frag} {mg : Str → Option Value} {x qual : Str} {st : Stmt} {f : Addr} {fd : FuncData} {k : pS} (F : uY K x qual st f fd) (hm : mg x = some (.ref f)) (h : rJ qual (az st) = some k) : vA K mg x = some k := by
 obtain ⟨oc, od, kV, doc, pm, an, cdv, ct, osl, rfl, lk, hcd⟩ := F.ex
 unfold vA
 rw [hm]
 dsimp only
 rw [lk]
 exact h
theorem FW {K : PySem.W.Frag} {x : Str} {f c Pt : Addr} {oc o1 : Value} {od o2 : Option Addr} {fd : FuncData} {sl o4 : Array (Option Value)} {vs : Array Value} (h1 : PySem.W.nsIn K mainGlobals x = some (some (.ref f))) (h2 : K.lookup f = some ⟨oc, od, .func fd, sl⟩) (h3 : fd.code = .ref c)
  (h4 : K.lookup c = some ⟨o1, o2, .fields vs, o4⟩) (h5 : vs[11]? = some (.ref Pt)) : PySem.W.tabIn K x = some (c, Pt) := by
 unfold PySem.W.tabIn
 rw [h1]
 dsimp only
 rw [h2]
 dsimp only
 rw [h3]
 dsimp only
 rw [h4]
 dsimp only
 rw [h5]
noncomputable def Lg (s : Stmt) : Pos := match s with
 | .FunctionDef _ _ _ _ _ _ _ _ _ p => p
 | _ => ⟨0, 0, 0, 0⟩
section
variable {X : Cx} {EE : fC} {a b : Expr} {ma mb : DS → M D} {pos : Pos}
noncomputable abbrev BH := mC (fun _ j => decide (0 < j) && decide (j < 18446744073709551616)) fun i j => .int (i / j)
theorem FY : qy X (binaryOp .FloorDiv) (rI (fun _ j => 0 < j ∧ j < 18446744073709551616) fun i j => .int (i / j)) := Ol fun i j _ _ _ _ _ hc q => by
 have h1 : (0 : Int) < j := hc.1
 have h2 : j < 18446744073709551616 := hc.2
 refine floordiv_int (by omega) (by rw [Int.fdiv_eq_ediv_of_nonneg i (by omega)]; exact q) (.inl (PyProof.noPylong_of_log2 ?_))
 have h3 : j.natAbs ≠ 0 := by omega
 have h4 : j.natAbs < 2 ^ 64 := by omega
 exact Nat.lt_of_lt_of_le ((Nat.log2_lt h3).mpr h4) (by decide)
theorem Au (ha : QE X EE a ma) (hb : QE X EE b mb) : QE X EE (.BinOp a .FloorDiv b pos) (aM BH ma mb) := xF FY (u6 (fun i j h => by simpa using h) fun _ _ _ _ => by unfold Rep; rfl) ha hb
end
section
variable {X : Cx} {EE : fC}
theorem FZ {st : Stmt} {i : Nat} {m : DS → M D} (hs : QS X EE st (br i m)) : QS X EE st (br i (uu m)) := by
 intro pins s σ H Dd I ⟨τ, ρ, G, ab, ok⟩
 dsimp only [br, cT, uu] at ok
 cases q : m τ G with
 | stuck => rw [q] at ok; exact ok.elim
 | dz c G' => rw [q] at ok; exact hs pins s σ H Dd I ⟨τ, ρ, G, ab, by dsimp only [br, cT]; rw [q]; exact ok⟩
 | ok d G' =>
  rw [q] at ok
  by_cases hd : ∃ n, d = .obj n
  ·obtain ⟨n, rfl⟩ := hd
   dsimp only at ok
   cases g : G'[n]? with
   | none => rw [g] at ok; exact ok.elim
   | some o =>
    rw [g] at ok
    cases o with
    | dead => exact ok.elim
    | dct kv => exact ok.elim
    | tab y0 => exact ok.elim
    | lst ds =>
     dsimp only at ok
     refine gX (hs pins s σ H { Dd with nx := fun σ' H' => ∃ a xs, H' a = some (.lst xs) ∧ ∀ o, Dd.nx σ' (upd H' a (.gY o (.lst xs))) } I ⟨τ, ρ, G, ab, ?_⟩) fun u s' h => K7 h rfl rfl rfl fun σ' H' q => .inr q
     dsimp only [br, cT]
     rw [q]
     intro σ' H' ρ' f cB
     obtain ⟨a, xs, e1, e2, rs⟩ := cB.hp.lst g
     refine ⟨a, xs, e2, fun ob => ?_⟩
     have f2 : eX X.K H' (upd H' a (.gY ob (.lst xs))) ρ' ρ' := vf e2 ρ'
     refine ok σ' _ ρ' (f.trans f2) ⟨⟨by rw [cB.st.1]; simp, fun j dj ej => ?_⟩, cB.hp.gY (o := ob) e1 e2⟩
     by_cases hij : i = j
     ·subst hij
      by_cases hi : i < τ.length
      ·rw [List.getElem?_set, if_pos rfl, if_pos hi] at ej
       cases ej
       obtain ⟨vv, ev, rv⟩ := cB.st.2 i (.obj n) (by rw [List.getElem?_set, if_pos rfl, if_pos hi])
       unfold Rep at rv
       obtain ⟨a', rfl, hn'⟩ := rv
       rw [e1] at hn'; cases hn'
       refine ⟨_, ev, ?_⟩
       unfold Rep
       exact ⟨a, xs, rfl, .inl ⟨ob, cg⟩, rs.mono f2⟩
      ·rw [List.getElem?_set, if_pos rfl, if_neg hi] at ej; cases ej
     ·rw [List.getElem?_set_ne hij] at ej
      obtain ⟨v', ev', U6⟩ := cB.st.2 j dj (by rw [List.getElem?_set_ne hij]; exact ej)
      exact ⟨v', ev', U6.mono f2⟩
  ·have ok' : wN X.K X.mg EE H ρ Dd (.nx (τ.set i (some d)) G') := by
    cases d <;> first | exact ok | exact absurd ⟨_, rfl⟩ hd
   exact hs pins s σ H Dd I ⟨τ, ρ, G, ab, by dsimp only [br, cT]; rw [q]; exact ok'⟩
end
end L3
end
section
set_option Elab.async false
set_option linter.all false
set_option maxRecDepth 100000
set_option maxHeartbeats 4000000
namespace K71
open PySem PySem.Spec L2 L3
noncomputable def top (i : Nat) : Stmt := PySem.Challenge.pw_pathshape_k71_looks_numbered.main.body.getD i (.Pass ⟨0, 0, 0, 0⟩)
noncomputable abbrev bg : Stmt := top 1
noncomputable abbrev bA : Stmt := top 2
noncomputable abbrev aR : Stmt := top 3
noncomputable abbrev bL : Stmt := top 4
noncomputable abbrev cu : Stmt := top 7
noncomputable abbrev bE : Stmt := top 8
noncomputable abbrev bF : Stmt := top 10
noncomputable abbrev bh : Stmt := top 11
noncomputable abbrev aS : Stmt := top 12
noncomputable abbrev aD : Stmt := top 13
noncomputable abbrev bH : Stmt := top 14
noncomputable abbrev aV : Stmt := top 15
noncomputable abbrev bx : Stmt := top 16
noncomputable abbrev bf : Stmt := top 17
noncomputable abbrev bT : Stmt := top 18
noncomputable abbrev aT : Stmt := top 19
noncomputable abbrev bZ : Stmt := top 20
noncomputable abbrev bM : Stmt := (az bE).getD 2 (.Pass ⟨0, 0, 0, 0⟩)
noncomputable abbrev cL : pS := ⟨"make", "let_go.<locals>.make", aE bM, az bM, aa bM, Lg bM, ["made", "behind"]⟩
noncomputable def CC : D := .tup [.str "any"]
noncomputable abbrev ng : List Str := ["look"]
noncomputable def eO : MS := aY (rB (lO (aM (mZ false) (aM ia (ai 0) (eC (.int 0))) (eC (.str "way")))) (dO (eFn (je (oT 2) [] (aM ia (ai 0) (eC (.int 1))) (gS) (ai 1)))) (eE)) (aY (rB (lO (aM (B8 false) (aM ia (ai 0) (eC (.int 0))) (av bY (af (eC (.str "not")) (af (eC (.str "both")) (af (eC (.str "either")) (aq))))))) (dO (eFn (av m9 (af (eFn (HC (ai 0) (pV (eC (.int 1))) (uf))) (aq))))) (eE)) (dO (eFn (av bU (aq)))))
noncomputable def cI (ds : List D) : M D := jf (fun ds => cG 1 eO ds) ds
noncomputable abbrev oB : List Str := ["look", "parts"]
noncomputable abbrev yT : Nat := 1
noncomputable def fD : MS := aY (rB (lO (aM (mZ false) (aM ia (ai 0) (eC (.int 0))) (eC (.str "way")))) (dO (av bY (af (eC (.str "way")) (af (av fK (af (eFn (qG (oT 2) [] (vY (af (aM ia (ai 0) (eC (.int 1))) (af (ai 1) (aq)))) (gS) (av bY (af (aM ia (ai 0) (eC (.int 0))) (af (ai 1) (aq)))))) (aq))) (aq))))) (eE)) (aY (rB (lO (aM (mZ false) (av kq (af (ai 1) (aq))) (eC (.int 0)))) (dO (ai 0)) (eE)) (dO (aM eF (av bY (af (aM ia (ai 0) (eC (.int 0))) (aq))) (av fK (af (ai 1) (aq))))))
noncomputable def jJ (ds : List D) : M D := jf (fun ds => cG 2 fD ds) ds
noncomputable abbrev ux : List Str := ["_law_state_here", "_law_at", "_law_cell", "_law_number"]
noncomputable abbrev eS : Nat := 1
noncomputable def r6 : MS := aY (br 2 (aM g7 (aM ia (ai 0) (eC (.int 4))) (eC (.int 1000000000000000000)))) (aY (jj (aM BH (aM ia (ai 0) (eC (.int 4))) (eC (.int 1000000000000000000))) (ai 0) (eC (.int 4))) (dO (ai 2)))
noncomputable def jK : MS := aY (br 1 (aM ia (ai 0) (eC (.int 0)))) (aY (jj (aM eF (ai 1) (eC (.int 1))) (ai 0) (eC (.int 0))) (aY (rB (lO (aM C8 (ai 1) (av kq (af (aM ia (ai 0) (eC (.int 1))) (aq))))) (dO (aM g7 (aM ia (aM ia (ai 0) (eC (.int 1))) (ai 1)) (eC (.int 1000000000000000000)))) (eE)) (aY (rB (lO (aM zM (aM ia (ai 0) (eC (.int 4))) (eC (.int 0)))) (r6) (eE)) (aY (br 3 (aM g7 (aM eF (aM eF (aM zL (ai 1) (eC (.int 48271))) (aM zL (aM ia (ai 0) (eC (.int 2))) (eC (.int 16807)))) (eC (.int 12345))) (eC (.int 2147483647)))) (aY (br 3 (aM g7 (aM zL (ai 3) (ai 3)) (eC (.int 2147483629)))) (dO (aM g7 (aM zL (ai 3) (aM eF (ai 3) (aM zL (eC (.int 16807)) (ai 1)))) (eC (.int 1000000007)))))))))
noncomputable def aO (ds : List D) : M D := cG 4 jK ds
noncomputable abbrev uy : List Str := ["_law_cell", "_law_many", "_law_letters", "_law_wide", "_law_at", "_law_pool_here", "_law_k", "_law_name", "_law_j"]
noncomputable abbrev yU : Nat := 1
noncomputable def gC : MS := rB (lO (aM (mZ false) (ai 8) (ai 4))) (br 7 (aM eF (ai 7) (aM ia (ai 2) (aM g7 (aM eF (aM nQ (ai 0) (eC (.int 64))) (ai 6)) (eC (.int 26)))))) (br 7 (aM eF (ai 7) (aM ia (ai 2) (aM g7 (aM nQ (ai 0) (aM eF (eC (.int 64)) (aM zL (eC (.int 5)) (ai 8)))) (eC (.int 26))))))
noncomputable def nh : MS := aY (rB (lO (aM (B8 false) (ai 7) (av bY (af (eC (.str "start")) (af (eC (.str "rule")) (af (eC (.str "row")) (af (eC (.str "mix")) (af (eC (.str "many")) (af (eC (.str "any")) (af (eC (.str "kind")) (af (eC (.str "not")) (af (eC (.str "both")) (af (eC (.str "either")) (af (eC (.str "way")) (af (eC (.str "mark")) (aq)))))))))))))))) (br 7 (aM eF (ai 7) (eC (.str "q")))) (eE)) (kj (cU "list" dW (ai 5) (af (ai 7) (aq))))
noncomputable def gD : MS := aY (br 7 (eC (.str ""))) (aY (iL ko (gN 8) (af (ai 3) (aq)) gC) (nh))
noncomputable def lu : MS := aY (br 2 (eC (.str "abcdefghijklmnopqrstuvwxyz"))) (aY (br 3 (aM eF (eC (.int 1)) (aM g7 (ai 0) (eC (.int 8))))) (aY (br 4 (aM g7 (aM nQ (ai 0) (eC (.int 8))) (ai 3))) (aY (br 5 (av bU (aq))) (aY (iL ko (gN 6) (af (ai 1) (aq)) gD) (dO (uu (ai 5)))))))
noncomputable def iB (ds : List D) : M D := jf (fun ds => cG 9 lu ds) ds
noncomputable abbrev ni : List Str := ["_law_look_here"]
noncomputable abbrev jw : Nat := 1
noncomputable def eT : MS := aY (rB (lO (aM (mZ false) (aM ia (ai 0) (eC (.int 0))) (eC (.str "way")))) (dO (eFn (je oN [] (aM ia (ai 0) (eC (.int 1))) (gS) (aM ia (ai 0) (eC (.int 1)))))) (eE)) (aY (rB (lO (aM (B8 false) (aM ia (ai 0) (eC (.int 0))) (av bY (af (eC (.str "not")) (af (eC (.str "both")) (af (eC (.str "either")) (aq))))))) (dO (eFn (av m9 (af (eFn (HC (ai 0) (pV (eC (.int 1))) (uf))) (aq))))) (eE)) (dO (eFn (av bU (aq)))))
noncomputable def bO (ds : List D) : M D := jf (fun ds => cG 1 eT ds) ds
noncomputable abbrev r8 : List Str := ["_law_script", "_law_seed", "_law_cell", "_law_rest"]
noncomputable abbrev uO : Nat := 1
noncomputable def fW : MS := br 1 (aM g7 (aM eF (aM zL (ai 1) (eC (.int 31))) (ai 2)) (eC (.int 1000003)))
noncomputable def jQ : MS := aY (br 3 (eC (.int 0))) (aY (rB (lO (aM zM (av kq (af (ai 0) (aq))) (eC (.int 0)))) (br 3 (aM BH (av IC (af (aM ia (ai 0) (zS (eC (.int 1)))) (aq))) (eC (.int 1000000000000000000)))) (eE)) (dO (av bU (af (eC (.int 0)) (af (ai 0) (af (ai 1) (af (eC (.int 0)) (af (ai 3) (aq)))))))))
noncomputable def dQ : MS := aY (br 1 (eC (.int 0))) (aY (n9 (gN 2) (eFn (HC (ai 0) (uf) (pV (eC (.int 64))))) fW) (jQ))
noncomputable def dR (ds : List D) : M D := qJ (fun ds => cG 4 dQ ds) ds
noncomputable abbrev r9 : List Str := ["top", "parts_of", "found", "waiting", "one"]
noncomputable abbrev lS : Nat := 2
noncomputable def jx : MS := aY (br 4 (cU "list" uL (ai 3) aq)) (aY (kj (cU "list" dW (ai 2) (af (ai 4) (aq)))) (kj (cU "list" rY (ai 3) (af (eFn (av zZ (af (tR 1 1 (fun y => List.lookup y [("look_parts", cI)]) (af (ai 4) (aq))) (aq)))) (aq)))))
noncomputable def jZ : MS := aY (br 2 (av bU (aq))) (aY (br 3 (av bU (af (ai 0) (aq)))) (aY (iN (lO (aM zM (av kq (af (ai 3) (aq))) (eC (.int 0)))) jx fuel) (dO (uu (ai 2)))))
noncomputable def cJ (ds : List D) : M D := jf (fun ds => cG 5 jZ ds) ds
noncomputable abbrev pZ : List Str := ["look", "parts", "made", "behind"]
noncomputable def jz : MS := aY (kj (cU "list" dW (ai 2) (af (ai 0) (aq)))) (dO (Pu (lO (aM (mZ false) (aM mD (av kq (af (ai 2) (aq))) (eC (.int 1))) (ai 3))) (eC CC) (aH 2 jJ (af (ai 0) (af (ai 1) (aq))))))
noncomputable def dD (ds : List D) : M D := fun G => pY (cG 4 jz ds G)
noncomputable abbrev Av : List Str := ["top", "parts_of", "make", "made", "one", "parts", "number"]
noncomputable abbrev DJ : Nat := 3
noncomputable def mJ : MS := kj (cU "list" dW (ai 5) (af (cU "list" uL (ai 3) aq) (aq)))
noncomputable def iC : MS := aY (br 5 (av bU (aq))) (aY (iL ko (gN 6) (af (av kq (af (tR 1 1 (fun y => List.lookup y [("look_parts", cI)]) (af (ai 4) (aq))) (aq))) (aq)) mJ) (kj (cU "list" dW (ai 3) (af (vZ 2 2 (fun y => List.lookup y [("let_go", (2, dD))]) (af (ai 4) (af (uu (ai 5)) (aq)))) (aq)))))
noncomputable def v8 : MS := aY (br 3 (av bU (aq))) (aY (Aa (gN 4) (Ik (af (aH 2 cJ (af (ai 0) (af (ai 1) (aq)))) (aq))) iC) (dO (aM ia (ai 3) (eC (.int 0)))))
noncomputable def oE (ds : List D) : M D := cG 7 v8 ds
noncomputable abbrev qN : List Str := ["way"]
noncomputable abbrev oF : Nat := 3
noncomputable def nj : MS := dO (eFn (HC (aH 2 cJ (af (av bY (af (eC (.str "way")) (af (ai 0) (aq)))) (af (eC (.fn "look_parts")) (aq)))) (pV (eC (.int 1))) (uf)))
noncomputable def dS (ds : List D) : M D := jf (fun ds => cG 1 nj ds) ds
noncomputable abbrev wU : Nat := 3
noncomputable def iR : MS := dO (HC (aH 2 cJ (af (av bY (af (eC (.str "way")) (af (ai 0) (aq)))) (af (eC (.fn "look_parts")) (aq)))) (pV (eC (.int 1))) (uf))
noncomputable def gE (ds : List D) : M D := qJ (fun ds => cG 1 iR ds) ds
noncomputable abbrev v9 : List Str := ["way", "number", "behind", "made", "make"]
noncomputable abbrev DK : Nat := 4
noncomputable def mK : MS := aY (br 2 (aM mD (aM mD (av kq (af (aH 1 dS (af (ai 0) (aq))) (aq))) (eC (.int 1))) (ai 1))) (aY (br 3 (av bU (aq))) (aY (Ar 4 "let_go" [3, 2]) (dO (aM ia (aH 3 oE (af (av bY (af (eC (.str "way")) (af (ai 0) (aq)))) (af (eC (.fn "look_parts")) (af (ai 4) (aq))))) (eC (.int 1))))))
noncomputable def oG (ds : List D) : M D := jf (fun ds G => pY (cG 5 mK ds G)) ds
noncomputable abbrev lA : List Str := ["_law_state_here", "_law_kinds", "_law_fuel", "_law_cell", "_law_way", "_law_kind", "_law_many", "_law_goes", "_law_one"]
noncomputable abbrev yV : Nat := 31
noncomputable abbrev nk : Nat := 1
noncomputable def nq (dF : List D → M D) : MS := aY (br 6 (aM eF (eC (.int 1)) (aM g7 (aM nQ (ai 3) (eC (.int 36))) (aM ia (ai 0) (eC (.int 3)))))) (aY (jj (aM mD (aM ia (ai 0) (eC (.int 3))) (ai 6)) (ai 0) (eC (.int 3))) (aY (br 7 (uu (qF ko oN [true] (af (ai 6) (aq)) (gS) (aM ia (eFn (av bU (af (eC (.str "down")) (af (eC (.str "deep")) (af (eC (.str "later")) (aq)))))) (aM g7 (aH 1 aO (af (ai 1) (aq))) (eC (.int 3))))))) (dO (av bY (af (eC (.str "way")) (af (av fK (af (uu (je oN [true, true, true] (ai 7) (gS) (av bY (af (ai 0) (af (aH 3 dF (af (ai 1) (af (ai 2) (af (aM mD (ai 3) (eC (.int 1))) (aq))))) (aq)))))) (aq))) (aq)))))))
noncomputable def eU (dF : List D → M D) : MS := aY (br 3 (aH 1 aO (af (ai 0) (aq)))) (aY (br 4 (aM g7 (ai 3) (eC (.int 12)))) (aY (br 5 (av bY (af (eC (.str "kind")) (af (aM ia (ai 1) (aM g7 (aM nQ (ai 3) (eC (.int 12))) (av kq (af (ai 1) (aq))))) (aq))))) (aY (rB (lO (aM C8 (ai 4) (eC (.int 3)))) (dO (av bY (af (eC (.str "any")) (aq)))) (eE)) (aY (rB (zQ (lO (aM C8 (ai 4) (eC (.int 6)))) (lO (aM C8 (ai 2) (eC (.int 1))))) (dO (ai 5)) (eE)) (aY (rB (lO (aM C8 (ai 4) (eC (.int 8)))) (dO (av bY (af (eC (.str "not")) (af (aH 3 dF (af (ai 0) (af (ai 1) (af (aM mD (ai 2) (eC (.int 1))) (aq))))) (aq))))) (eE)) (aY (rB (xG (lO (aM C8 (ai 4) (eC (.int 10)))) (lO (aM zM (aM ia (ai 0) (eC (.int 3))) (eC (.int 0))))) ((nq dF)) (eE)) (aY (br 8 (aH 3 dF (af (ai 0) (af (ai 1) (af (aM mD (ai 2) (eC (.int 1))) (aq)))))) (dO (av bY (af (aM ia (eFn (av bU (af (eC (.str "both")) (af (eC (.str "either")) (aq))))) (aM g7 (aM nQ (ai 3) (eC (.int 36))) (eC (.int 2)))) (af (ai 8) (af (aH 3 dF (af (ai 0) (af (ai 1) (af (aM mD (ai 2) (eC (.int 1))) (aq))))) (aq)))))))))))))
mutual
noncomputable def bB : Nat → List D → M D
  | 0, _ => M.stop
  | n + 1, ds => cG 9 (eU (bB n)) ds
end
noncomputable abbrev iD : List D → M D := bB 30
noncomputable abbrev uz : List Str := ["_law_state_here", "_law_kinds", "_law_cell", "_law_steps", "_law_k", "_law_go"]
noncomputable abbrev sd : Nat := 32
noncomputable def j0 : MS := aY (jj (aM g7 (aM nQ (ai 2) (eC (.int 3))) (eC (.int 4))) (ai 0) (eC (.int 3))) (aY (br 5 (aM ia (eFn (av bU (af (eC (.str "down")) (af (eC (.str "deep")) (af (eC (.str "later")) (aq)))))) (aM g7 (aH 1 aO (af (ai 0) (aq))) (eC (.int 3))))) (kj (cU "list" dW (ai 3) (af (av bY (af (ai 5) (af (aH 3 iD (af (ai 0) (af (ai 1) (af (aM eF (eC (.int 1)) (aM g7 (aM nQ (ai 2) (eC (.int 12))) (eC (.int 3)))) (aq))))) (aq)))) (aq)))))
noncomputable def oH : MS := aY (br 2 (aH 1 aO (af (ai 0) (aq)))) (aY (br 3 (av bU (aq))) (aY (iL ko (gN 4) (af (aM eF (eC (.int 1)) (aM g7 (ai 2) (eC (.int 3)))) (aq)) j0) (dO (av fK (af (ai 3) (aq))))))
noncomputable def fE (ds : List D) : M D := cG 6 oH ds
noncomputable abbrev p5 : List Str := ["_law_look_here", "_law_found", "_law_inner_here"]
noncomputable abbrev wc : Nat := 61
noncomputable abbrev oJ : Nat := 1
noncomputable def iS (dG : List D → M D) : MS := kj (cU "list" rY (ai 1) (af (aH 1 dG (af (ai 2) (aq))) (aq)))
noncomputable def gb (dG : List D → M D) : MS := aY (br 1 (av bU (af (ai 0) (aq)))) (aY (n9 (gN 2) (aH 1 bO (af (ai 0) (aq))) (iS dG)) (dO (uu (ai 1))))
mutual
noncomputable def bq : Nat → List D → M D
  | 0, _ => M.stop
  | n + 1, ds => jf (fun ds => cG 3 (gb (bq n)) ds) ds
end
noncomputable abbrev lT : List D → M D := bq 60
noncomputable abbrev lB : List Str := ["_law_look_here", "_law_left", "_law_some"]
noncomputable abbrev yW : Nat := 61
noncomputable abbrev se : Nat := 1
noncomputable def fM (gu : List D → M D) : MS := aY (rB (lO (aM (mZ false) (aM ia (ai 0) (eC (.int 0))) (eC (.str "way")))) (dO (av bY (af (eC (.str "way")) (af (av fK (af (eFn (qG (oT 2) [] (vY (af (aM ia (ai 0) (eC (.int 1))) (af (ai 2) (aq)))) (gS) (av bY (af (aM ia (ai 0) (eC (.int 0))) (af (ai 1) (aq)))))) (aq))) (aq))))) (eE)) (aY (rB (lO (aM (B8 false) (aM ia (ai 0) (eC (.int 0))) (av bY (af (eC (.str "not")) (af (eC (.str "both")) (af (eC (.str "either")) (aq))))))) (dO (aM eF (av bY (af (aM ia (ai 0) (eC (.int 0))) (aq))) (av fK (af (ai 2) (aq))))) (eE)) (dO (ai 0)))
noncomputable def fF (gu : List D → M D) : MS := aY (jj (aM mD (aM ia (ai 1) (eC (.int 0))) (eC (.int 1))) (ai 1) (eC (.int 0))) (aY (rB (lO (aM (mZ false) (aM ia (ai 1) (eC (.int 0))) (zS (eC (.int 1))))) (dO (av bY (af (eC (.str "any")) (aq)))) (eE)) (aY (br 2 (uu (je oN [false, true] (aH 1 bO (af (ai 0) (aq))) (gS) (aH 2 gu (af (ai 0) (af (ai 2) (aq))))))) ((fM gu))))
mutual
noncomputable def aP : Nat → List D → M D
  | 0, _ => M.stop
  | n + 1, ds => cG 3 (fF (aP n)) ds
end
noncomputable abbrev lC : List D → M D := aP 60
noncomputable abbrev sf : List Str := ["_law_way", "_law_found", "_law_go", "_law_look_here"]
noncomputable abbrev p6 : Nat := 62
noncomputable def jA : MS := kj (cU "list" rY (ai 1) (af (aH 1 lT (af (ai 3) (aq))) (aq)))
noncomputable def j3 : MS := aY (br 1 (av bU (aq))) (aY (n9 (gP 2 3) (ai 0) jA) (dO (uu (ai 1))))
noncomputable def eV (ds : List D) : M D := jf (fun ds => cG 4 j3 ds) ds
noncomputable abbrev qO : List Str := ["_law_way", "_law_number", "_law_left"]
noncomputable abbrev Aw : Nat := 62
noncomputable def kC : MS := aY (br 2 (av bU (af (ai 1) (aq)))) (dO (av fK (af (uu (je (oT 2) [false, false, true] (ai 0) (gS) (av bY (af (ai 0) (af (aH 2 lC (af (ai 1) (af (ai 4) (aq)))) (aq)))))) (aq))))
noncomputable def kD (ds : List D) : M D := jf (fun ds => cG 3 kC ds) ds
noncomputable abbrev Nl : List Str := ["_law_script", "_law_state_here", "_law_kinds", "_law_way", "_law_other", "_law_due", "_law_told", "_law_begin", "_law_k", "_law_number", "_law_found"]
noncomputable def we : MS := aY (br 9 (aM g7 (aM eF (ai 7) (ai 8)) (av kq (af (ai 5) (aq))))) (aY (br 10 (aH 2 oG (af (ai 3) (af (ai 9) (aq))))) (rB (zQ (zR (qC tM (Df .tup (ai 10)))) (lO (aM (mZ true) (ai 10) (aH 2 kD (af (ai 3) (af (ai 9) (aq))))))) (dO (eC (.bl false))) (eE)))
noncomputable def xV : MS := aY (br 1 (aH 1 dR (af (ai 0) (aq)))) (aY (br 2 (aH 2 iB (af (aH 1 aO (af (ai 1) (aq))) (af (eC (.int 4)) (aq))))) (aY (br 3 (aH 2 fE (af (ai 1) (af (ai 2) (aq))))) (aY (br 4 (aH 2 fE (af (ai 1) (af (ai 2) (aq))))) (aY (br 5 (aH 1 eV (af (ai 3) (aq)))) (aY (br 6 (aH 1 gE (af (ai 3) (aq)))) (aY (rB (zQ (zR (qC tM (Df .lst (ai 6)))) (lO (aM (mZ true) (ai 6) (ai 5)))) (dO (eC (.bl false))) (eE)) (aY (kj (cU "list" dW (ai 6) (af (av bY (af (eC (.str "any")) (aq))) (aq)))) (aY (rB (lO (aM (mZ true) (aH 1 dS (af (ai 4) (aq))) (aH 1 eV (af (ai 4) (aq))))) (dO (eC (.bl false))) (eE)) (aY (br 7 (aM g7 (aH 1 aO (af (ai 1) (aq))) (av kq (af (ai 5) (aq))))) (aY (iL ko (gN 8) (af (av (oi fun i j => if j < i then j else i) (af (eC (.int 8)) (af (av kq (af (ai 5) (aq))) (aq)))) (aq)) we) (dO (aM (mZ false) (aH 1 dS (af (ai 3) (aq))) (ai 5)))))))))))))
noncomputable def CD (ds : List D) : M D := jf (fun ds G => pY (cG 11 xV ds G)) ds
structure Qm where
  f : Nat → Addr
  d : Nat → FuncData
  c : Nat → Addr
structure Txt (K : PySem.W.Frag) (mg : Str → Option Value) (t : Qm) : Prop where
  nt : uY K "look_parts" "look_parts" bg (t.f 0) (t.d 0)
  sj : Binds K (t.d 0) ["look"] []
  iT : mg "look_parts" = some (.ref (t.f 0))
  uA : uY K "look_with" "look_with" bA (t.f 1) (t.d 1)
  Ax : Binds K (t.d 1) ["look", "parts"] []
  Ay : mg "look_with" = some (.ref (t.f 1))
  j4 : uY K "all_within" "all_within" aR (t.f 2) (t.d 2)
  nu : Binds K (t.d 2) ["top", "parts_of"] []
  nv : mg "all_within" = some (.ref (t.f 2))
  Az : uY K "folded" "folded" bL (t.f 3) (t.d 3)
  Ga : Binds K (t.d 3) ["top", "parts_of", "make"] []
  Gb : mg "folded" = some (.ref (t.f 3))
  jo : uY K "looks_in" "looks_in" cu (t.f 4) (t.d 4)
  ny : Binds K (t.d 4) ["way"] []
  nA : mg "looks_in" = some (.ref (t.f 4))
  oK : uY K "let_go" "let_go" bE (t.f 5) (t.d 5)
  Gd : Binds K (t.d 5) ["way", "number"] []
  oM : mg "let_go" = some (.ref (t.f 5))
  gw : uY K "_law_next" "_law_next" bF (t.f 6) (t.d 6)
  iE : Binds K (t.d 6) ["_law_state_here"] []
  iF : mg "_law_next" = some (.ref (t.f 6))
  sr : uY K "_law_state" "_law_state" bh (t.f 7) (t.d 7)
  yX : Binds K (t.d 7) ["_law_script"] []
  yY : mg "_law_state" = some (.ref (t.f 7))
  uB : uY K "_law_pool" "_law_pool" aS (t.f 8) (t.d 8)
  AA : Binds K (t.d 8) ["_law_cell", "_law_many"] []
  AB : mg "_law_pool" = some (.ref (t.f 8))
  iG : uY K "_law_look" "_law_look" aD (t.f 9) (t.d 9)
  jL : Binds K (t.d 9) ["_law_state_here", "_law_kinds", "_law_fuel"] []
  bB : mg "_law_look" = some (.ref (t.f 9))
  nB : uY K "_law_inner" "_law_inner" bH (t.f 10) (t.d 10)
  su : Binds K (t.d 10) ["_law_look_here"] []
  sy : mg "_law_inner" = some (.ref (t.f 10))
  lU : uY K "_law_all_in" "_law_all_in" aV (t.f 11) (t.d 11)
  p7 : Binds K (t.d 11) ["_law_look_here"] []
  bq : mg "_law_all_in" = some (.ref (t.f 11))
  nE : uY K "_law_looks" "_law_looks" bx (t.f 12) (t.d 12)
  sA : Binds K (t.d 12) ["_law_way"] []
  sC : mg "_law_looks" = some (.ref (t.f 12))
  oO : uY K "_law_free" "_law_free" bf (t.f 13) (t.d 13)
  uC : Binds K (t.d 13) ["_law_look_here", "_law_left"] []
  aP : mg "_law_free" = some (.ref (t.f 13))
  wg : uY K "_law_let" "_law_let" bT (t.f 14) (t.d 14)
  BI : Binds K (t.d 14) ["_law_way", "_law_number"] []
  BJ : mg "_law_let" = some (.ref (t.f 14))
  oQ : uY K "_law_long" "_law_long" aT (t.f 15) (t.d 15)
  uD : Binds K (t.d 15) ["_law_state_here", "_law_kinds"] []
  uE : mg "_law_long" = some (.ref (t.f 15))
  Nm : uY K "law" "law" bZ (t.f 16) (t.d 16)
  R4 : Binds K (t.d 16) ["_law_script"] []
  M_law : mg "law" = some (.ref (t.f 16))
  Nn : mg "abs" = none
  sD : mg "isinstance" = none
  oR : mg "len" = none
  yZ : mg "list" = none
  Np : mg "min" = none
  pK : mg "range" = none
  wj : mg "reversed" = none
  lE : mg "tuple" = none
  Jx : mg "zip" = none
  Nq : EC K mg "ANY" CC
theorem Lh : DN "ANY" := by decide +kernel
theorem oS : DN "_law_all_in" := by decide +kernel
theorem jq : DN "_law_at" := by decide +kernel
theorem wV : DN "_law_begin" := by decide +kernel
theorem bI : DN "_law_cell" := by decide +kernel
theorem jM : DN "_law_due" := by decide +kernel
theorem gc : DN "_law_found" := by decide +kernel
theorem sE : DN "_law_free" := by decide +kernel
theorem iU : DN "_law_fuel" := by decide +kernel
theorem qP : DN "_law_go" := by decide +kernel
theorem y9 : DN "_law_goes" := by decide +kernel
theorem p8 : DN "_law_inner" := by decide +kernel
theorem ir : DN "_law_inner_here" := by decide +kernel
theorem xW : DN "_law_j" := by decide +kernel
theorem xX : DN "_law_k" := by decide +kernel
theorem za : DN "_law_kind" := by decide +kernel
theorem cK : DN "_law_kinds" := by decide +kernel
theorem iV : DN "_law_left" := by decide +kernel
theorem AD : DN "_law_let" := by decide +kernel
theorem nS : DN "_law_letters" := by decide +kernel
theorem sF : DN "_law_long" := by decide +kernel
theorem iW : DN "_law_look" := by decide +kernel
theorem aJ : DN "_law_look_here" := by decide +kernel
theorem p9 : DN "_law_looks" := by decide +kernel
theorem nF : DN "_law_many" := by decide +kernel
theorem iX : DN "_law_name" := by decide +kernel
theorem gF : DN "_law_next" := by decide +kernel
theorem dU : DN "_law_number" := by decide +kernel
theorem AE : DN "_law_one" := by decide +kernel
theorem qc : DN "_law_other" := by decide +kernel
theorem zb : DN "_law_pool" := by decide +kernel
theorem lF : DN "_law_pool_here" := by decide +kernel
theorem zc : DN "_law_rest" := by decide +kernel
theorem gx : DN "_law_script" := by decide +kernel
theorem sG : DN "_law_seed" := by decide +kernel
theorem sH : DN "_law_some" := by decide +kernel
theorem wW : DN "_law_state" := by decide +kernel
theorem ao : DN "_law_state_here" := by decide +kernel
theorem sI : DN "_law_step" := by decide +kernel
theorem qe : DN "_law_steps" := by decide +kernel
theorem nG : DN "_law_told" := by decide +kernel
theorem cM : DN "_law_way" := by decide +kernel
theorem sJ : DN "_law_wide" := by decide +kernel
theorem lV : DN "all_within" := by decide +kernel
theorem DL : DN "behind" := by decide +kernel
theorem DM : DN "folded" := by decide +kernel
theorem AF : DN "found" := by decide +kernel
theorem Ge : DN "inner" := by decide +kernel
theorem DP : DN "let_go" := by decide +kernel
theorem ID : DN "list" := by decide +kernel
theorem jB : DN "look" := by decide +kernel
theorem lW : DN "look_parts" := by decide +kernel
theorem zd : DN "look_with" := by decide +kernel
theorem lG : DN "looks_in" := by decide +kernel
theorem sL : DN "made" := by decide +kernel
theorem CF : DN "make" := by decide +kernel
theorem DQ : DN "number" := by decide +kernel
theorem ze : DN "one" := by decide +kernel
theorem IE : DN "part" := by decide +kernel
theorem mL : DN "parts" := by decide +kernel
theorem oU : DN "parts_of" := by decide +kernel
theorem IF : DN "step" := by decide +kernel
theorem Gf : DN "top" := by decide +kernel
theorem Gg : DN "tuple" := by decide +kernel
theorem qQ : DN "waiting" := by decide +kernel
theorem zf : DN "way" := by decide +kernel
theorem IG : bootBuiltins "list" = some (.type (Ty.nm .lst)) := by decide +kernel
theorem II : ("list" : Str) ≠ "__name__" := by decide +kernel
theorem Gh : bootBuiltins "tuple" = some (.type (Ty.nm .tup)) := by decide +kernel
theorem Gi : ("tuple" : Str) ≠ "__name__" := by decide +kernel
noncomputable def uP : Scope := {kind := .function, names := [ (.ofString ".0", .local), (.ofString "go", .local), (.ofString "inner", .local)], isGenerator := false, isCoroutine := false, more := []}
theorem iY : cj (aa bg) ng uP ["go", "inner"] [] := ⟨by decide +kernel, rfl, by decide +kernel, by decide +kernel, by decide +kernel, by decide +kernel, by decide +kernel⟩
noncomputable def wk : Scope := {kind := .function, names := [ (.ofString ".0", .local), (.ofString "step", .local), (.ofString "part", .local)], isGenerator := false, isCoroutine := false, more := []}
theorem gG : cj (aa bA) oB wk ["step", "part"] [] := ⟨by decide +kernel, rfl, by decide +kernel, by decide +kernel, by decide +kernel, by decide +kernel, by decide +kernel⟩
noncomputable def kE : Scope := {kind := .function, names := [ (.ofString ".0", .local), (.ofString "_law_k", .local), (.ofString "_law_next", .globalImplicit), (.ofString "_law_state_here", .free)], isGenerator := false, isCoroutine := false, more := []}
theorem jr : cj (aa aD) lA kE ["_law_k"] [true] := ⟨by decide +kernel, rfl, by decide +kernel, by decide +kernel, by decide +kernel, by decide +kernel, by decide +kernel⟩
noncomputable def gy : Scope := {kind := .function, names := [ (.ofString ".0", .local), (.ofString "_law_go", .local), (.ofString "_law_look", .globalImplicit), (.ofString "_law_fuel", .free), (.ofString "_law_kinds", .free), (.ofString "_law_state_here", .free)], isGenerator := false, isCoroutine := false, more := []}
theorem dJ : cj (aa aD) lA gy ["_law_go"] [true, true, true] := ⟨by decide +kernel, rfl, by decide +kernel, by decide +kernel, by decide +kernel, by decide +kernel, by decide +kernel⟩
noncomputable def uQ : Scope := {kind := .function, names := [(.ofString ".0", .local), (.ofString "_law_step", .local)], isGenerator := false, isCoroutine := false, more := []}
theorem iZ : cj (aa bH) ni uQ ["_law_step"] [] := ⟨by decide +kernel, rfl, by decide +kernel, by decide +kernel, by decide +kernel, by decide +kernel, by decide +kernel⟩
noncomputable def kF : Scope := {kind := .function, names := [ (.ofString ".0", .local), (.ofString "_law_inner_here", .local), (.ofString "_law_free", .globalImplicit), (.ofString "_law_left", .free)], isGenerator := false, isCoroutine := false, more := []}
theorem gH : cj (aa bf) lB kF ["_law_inner_here"] [false, true] := ⟨by decide +kernel, rfl, by decide +kernel, by decide +kernel, by decide +kernel, by decide +kernel, by decide +kernel⟩
noncomputable def wm : Scope := {kind := .function, names := [ (.ofString ".0", .local), (.ofString "_law_step", .local), (.ofString "_law_inner_here", .local)], isGenerator := false, isCoroutine := false, more := []}
theorem gJ : cj (aa bf) lB wm ["_law_step", "_law_inner_here"] [] := ⟨by decide +kernel, rfl, by decide +kernel, by decide +kernel, by decide +kernel, by decide +kernel, by decide +kernel⟩
noncomputable def lX : Scope := {kind := .function, names := [ (.ofString ".0", .local), (.ofString "_law_go", .local), (.ofString "_law_look_here", .local), (.ofString "_law_free", .globalImplicit), (.ofString "_law_left", .free)], isGenerator := false, isCoroutine := false, more := []}
theorem fX : cj (aa bT) qO lX ["_law_go", "_law_look_here"] [false, false, true] := ⟨by decide +kernel, rfl, by decide +kernel, by decide +kernel, by decide +kernel, by decide +kernel, by decide +kernel⟩
theorem kG : LK (aa aV) "_law_all_in" .globalImplicit := by decide +kernel
theorem dZ : LK (aa aV) "_law_found" .local := by decide +kernel
theorem kR : LK (aa aV) "_law_inner" .globalImplicit := by decide +kernel
theorem fk : LK (aa aV) "_law_inner_here" .local := by decide +kernel
theorem fG : LK (aa aV) "_law_look_here" .local := by decide +kernel
theorem mO : LK (aa bf) "_law_inner" .globalImplicit := by decide +kernel
theorem fO : LK (aa bf) "_law_left" .cell := by decide +kernel
theorem aX : LK (aa bf) "_law_look_here" .local := by decide +kernel
theorem cY : LK (aa bf) "_law_some" .local := by decide +kernel
theorem kH : LK (aa bf) "tuple" .globalImplicit := by decide +kernel
theorem tU : LK (aa bf) "zip" .globalImplicit := by decide +kernel
theorem bP : LK (aa bH) "_law_look_here" .local := by decide +kernel
theorem qR : LK (aa bH) "list" .globalImplicit := by decide +kernel
theorem nW : LK (aa bT) "_law_left" .cell := by decide +kernel
theorem mP : LK (aa bT) "_law_number" .local := by decide +kernel
theorem oV : LK (aa bT) "_law_way" .local := by decide +kernel
theorem sM : LK (aa bT) "tuple" .globalImplicit := by decide +kernel
theorem cZ : LK (aa aT) "_law_cell" .local := by decide +kernel
theorem jN : LK (aa aT) "_law_go" .local := by decide +kernel
theorem pT : LK (aa aT) "_law_k" .local := by decide +kernel
theorem mQ : LK (aa aT) "_law_kinds" .local := by decide +kernel
theorem nH : LK (aa aT) "_law_look" .globalImplicit := by decide +kernel
theorem i0 : LK (aa aT) "_law_next" .globalImplicit := by decide +kernel
theorem bQ : LK (aa aT) "_law_state_here" .local := by decide +kernel
theorem fm : LK (aa aT) "_law_steps" .local := by decide +kernel
theorem qS : LK (aa aT) "range" .globalImplicit := by decide +kernel
theorem qT : LK (aa aT) "tuple" .globalImplicit := by decide +kernel
theorem cy : LK (aa aD) "_law_cell" .local := by decide +kernel
theorem dg : LK (aa aD) "_law_fuel" .cell := by decide +kernel
theorem fP : LK (aa aD) "_law_goes" .local := by decide +kernel
theorem i6 : LK (aa aD) "_law_kind" .local := by decide +kernel
theorem bW : LK (aa aD) "_law_kinds" .cell := by decide +kernel
theorem fQ : LK (aa aD) "_law_look" .globalImplicit := by decide +kernel
theorem fR : LK (aa aD) "_law_many" .local := by decide +kernel
theorem nI : LK (aa aD) "_law_next" .globalImplicit := by decide +kernel
theorem ji : LK (aa aD) "_law_one" .local := by decide +kernel
theorem aG : LK (aa aD) "_law_state_here" .cell := by decide +kernel
theorem cF : LK (aa aD) "_law_way" .local := by decide +kernel
theorem tV : LK (aa aD) "len" .globalImplicit := by decide +kernel
theorem qU : LK (aa aD) "range" .globalImplicit := by decide +kernel
theorem qV : LK (aa aD) "tuple" .globalImplicit := by decide +kernel
theorem kT : LK (aa bx) "_law_all_in" .globalImplicit := by decide +kernel
theorem fh : LK (aa bx) "_law_found" .local := by decide +kernel
theorem nX : LK (aa bx) "_law_go" .local := by decide +kernel
theorem fY : LK (aa bx) "_law_look_here" .local := by decide +kernel
theorem nJ : LK (aa bx) "_law_way" .local := by decide +kernel
theorem bX : LK (aa bF) "_law_at" .local := by decide +kernel
theorem i7 : LK (aa bF) "_law_cell" .local := by decide +kernel
theorem bz : LK (aa bF) "_law_number" .local := by decide +kernel
theorem aC : LK (aa bF) "_law_state_here" .local := by decide +kernel
theorem tW : LK (aa bF) "len" .globalImplicit := by decide +kernel
theorem jO : LK (aa aS) "_law_at" .local := by decide +kernel
theorem dh : LK (aa aS) "_law_cell" .local := by decide +kernel
theorem gU : LK (aa aS) "_law_j" .local := by decide +kernel
theorem jW : LK (aa aS) "_law_k" .local := by decide +kernel
theorem d7 : LK (aa aS) "_law_letters" .local := by decide +kernel
theorem nK : LK (aa aS) "_law_many" .local := by decide +kernel
theorem aN : LK (aa aS) "_law_name" .local := by decide +kernel
theorem dm : LK (aa aS) "_law_pool_here" .local := by decide +kernel
theorem fS : LK (aa aS) "_law_wide" .local := by decide +kernel
theorem kI : LK (aa aS) "range" .globalImplicit := by decide +kernel
theorem iH : LK (aa bh) "_law_cell" .local := by decide +kernel
theorem fq : LK (aa bh) "_law_rest" .local := by decide +kernel
theorem cC : LK (aa bh) "_law_script" .local := by decide +kernel
theorem cP : LK (aa bh) "_law_seed" .local := by decide +kernel
theorem sN : LK (aa bh) "abs" .globalImplicit := by decide +kernel
theorem sO : LK (aa bh) "len" .globalImplicit := by decide +kernel
theorem gW : LK (aa aR) "found" .local := by decide +kernel
theorem sP : LK (aa aR) "len" .globalImplicit := by decide +kernel
theorem qW : LK (aa aR) "list" .globalImplicit := by decide +kernel
theorem i8 : LK (aa aR) "one" .local := by decide +kernel
theorem nL : LK (aa aR) "parts_of" .local := by decide +kernel
theorem nM : LK (aa aR) "reversed" .globalImplicit := by decide +kernel
theorem sQ : LK (aa aR) "top" .local := by decide +kernel
theorem dX : LK (aa aR) "waiting" .local := by decide +kernel
theorem j5 : LK kF "_law_free" .globalImplicit := by decide +kernel
theorem j6 : LK kF "_law_left" .free := by decide +kernel
theorem kJ : LK lX "_law_free" .globalImplicit := by decide +kernel
theorem kK : LK lX "_law_left" .free := by decide +kernel
theorem j7 : LK kE "_law_next" .globalImplicit := by decide +kernel
theorem iI : LK kE "_law_state_here" .free := by decide +kernel
theorem j8 : LK gy "_law_fuel" .free := by decide +kernel
theorem jR : LK gy "_law_kinds" .free := by decide +kernel
theorem j9 : LK gy "_law_look" .globalImplicit := by decide +kernel
theorem iJ : LK gy "_law_state_here" .free := by decide +kernel
theorem oW : LK (aa bL) "all_within" .globalImplicit := by decide +kernel
theorem wX : LK (aa bL) "len" .globalImplicit := by decide +kernel
theorem i9 : LK (aa bL) "made" .local := by decide +kernel
theorem wu : LK (aa bL) "make" .local := by decide +kernel
theorem tX : LK (aa bL) "number" .local := by decide +kernel
theorem lY : LK (aa bL) "one" .local := by decide +kernel
theorem jS : LK (aa bL) "parts" .local := by decide +kernel
theorem kL : LK (aa bL) "parts_of" .local := by decide +kernel
theorem uR : LK (aa bL) "range" .globalImplicit := by decide +kernel
theorem qX : LK (aa bL) "reversed" .globalImplicit := by decide +kernel
theorem wY : LK (aa bL) "top" .local := by decide +kernel
theorem ja : LK (aa bZ) "_law_begin" .local := by decide +kernel
theorem cR : LK (aa bZ) "_law_due" .local := by decide +kernel
theorem gg : LK (aa bZ) "_law_found" .local := by decide +kernel
theorem lZ : LK (aa bZ) "_law_k" .local := by decide +kernel
theorem gh : LK (aa bZ) "_law_kinds" .local := by decide +kernel
theorem uS : LK (aa bZ) "_law_let" .globalImplicit := by decide +kernel
theorem mR : LK (aa bZ) "_law_long" .globalImplicit := by decide +kernel
theorem lH : LK (aa bZ) "_law_looks" .globalImplicit := by decide +kernel
theorem mS : LK (aa bZ) "_law_next" .globalImplicit := by decide +kernel
theorem fT : LK (aa bZ) "_law_number" .local := by decide +kernel
theorem gi : LK (aa bZ) "_law_other" .local := by decide +kernel
theorem tY : LK (aa bZ) "_law_pool" .globalImplicit := by decide +kernel
theorem qY : LK (aa bZ) "_law_script" .local := by decide +kernel
theorem sR : LK (aa bZ) "_law_state" .globalImplicit := by decide +kernel
theorem bJ : LK (aa bZ) "_law_state_here" .local := by decide +kernel
theorem fy : LK (aa bZ) "_law_told" .local := by decide +kernel
theorem cS : LK (aa bZ) "_law_way" .local := by decide +kernel
theorem lI : LK (aa bZ) "isinstance" .globalImplicit := by decide +kernel
theorem qZ : LK (aa bZ) "len" .globalImplicit := by decide +kernel
theorem wZ : LK (aa bZ) "let_go" .globalImplicit := by decide +kernel
theorem AG : LK (aa bZ) "list" .globalImplicit := by decide +kernel
theorem jT : LK (aa bZ) "looks_in" .globalImplicit := by decide +kernel
theorem BK : LK (aa bZ) "min" .globalImplicit := by decide +kernel
theorem zg : LK (aa bZ) "range" .globalImplicit := by decide +kernel
theorem zh : LK (aa bZ) "tuple" .globalImplicit := by decide +kernel
theorem tZ : LK (aa bE) "behind" .cell := by decide +kernel
theorem t6 : LK (aa bE) "folded" .globalImplicit := by decide +kernel
theorem w4 : LK (aa bE) "len" .globalImplicit := by decide +kernel
theorem oX : LK (aa bE) "look_parts" .globalImplicit := by decide +kernel
theorem q4 : LK (aa bE) "looks_in" .globalImplicit := by decide +kernel
theorem wA : LK (aa bE) "made" .cell := by decide +kernel
theorem oY : LK (aa bE) "make" .local := by decide +kernel
theorem t7 : LK (aa bE) "number" .local := by decide +kernel
theorem qf : LK (aa bE) "way" .local := by decide +kernel
theorem q8 : LK (aa bM) "ANY" .globalImplicit := by decide +kernel
theorem nY : LK (aa bM) "behind" .free := by decide +kernel
theorem rj : LK (aa bM) "len" .globalImplicit := by decide +kernel
theorem jX : LK (aa bM) "look" .local := by decide +kernel
theorem mj : LK (aa bM) "look_with" .globalImplicit := by decide +kernel
theorem jY : LK (aa bM) "made" .free := by decide +kernel
theorem oZ : LK (aa bM) "parts" .local := by decide +kernel
theorem rm : LK (aa bg) "list" .globalImplicit := by decide +kernel
theorem fU : LK (aa bg) "look" .local := by decide +kernel
theorem t8 : LK (aa bA) "len" .globalImplicit := by decide +kernel
theorem gj : LK (aa bA) "look" .local := by decide +kernel
theorem iu : LK (aa bA) "parts" .local := by decide +kernel
theorem kM : LK (aa bA) "tuple" .globalImplicit := by decide +kernel
theorem t9 : LK (aa bA) "zip" .globalImplicit := by decide +kernel
theorem jb : LK (aa cu) "all_within" .globalImplicit := by decide +kernel
theorem jc : LK (aa cu) "look_parts" .globalImplicit := by decide +kernel
theorem nT : LK (aa cu) "way" .local := by decide +kernel
theorem AH {p : List Value → Prop} (h : ∀ a0, p [a0]) : ∀ us : List Value, us.length = 1 → p us := fun us e => by
  rcases us with _ | ⟨a0, us⟩
  · cases e
  rcases us with _ | ⟨z, us⟩
  · exact h a0
  · cases e
theorem AI {p : List Value → Prop} (h : ∀ a0 a1, p [a0, a1]) : ∀ us : List Value, us.length = 2 → p us := fun us e => by
  rcases us with _ | ⟨a0, us⟩
  · cases e
  rcases us with _ | ⟨a1, us⟩
  · cases e
  rcases us with _ | ⟨z, us⟩
  · exact h a0 a1
  · cases e
theorem Nr {p : List Value → Prop} (h : ∀ a0 a1 a2, p [a0, a1, a2]) : ∀ us : List Value, us.length = 3 → p us := fun us e => by
  rcases us with _ | ⟨a0, us⟩
  · cases e
  rcases us with _ | ⟨a1, us⟩
  · cases e
  rcases us with _ | ⟨a2, us⟩
  · cases e
  rcases us with _ | ⟨z, us⟩
  · exact h a0 a1 a2
  · cases e
theorem ua : rJ "let_go" (az bE) = some cL := rfl
theorem DR : ∀ (l j : Nat) (z : Str), [3, 2][l]? = some j → cL.names[l]? = some z → v9[j]? = some z := by
  intro l j z h1 h2
  match l, h1, h2 with
  | 0, h1, h2 => cases h1; cases h2; rfl
  | 1, h1, h2 => cases h1; cases h2; rfl
  | l + 2, h1, h2 => cases h1
theorem DT : ∀ z ∈ cL.names, (aa bE).names.lookup z = some .cell := by decide +kernel
theorem DU {L : Nat} : ∀ (l : Nat) (z : Str), cL.names[l]? = some z → ∃ d, [L + 1 + 1, L + 1][l]? = some d ∧ (cellsFrom (L + 1) (aa bE).names []).lookup z = some d := by
  intro l z h
  match l, h with
  | 0, h => cases h; exact ⟨_, rfl, rfl⟩
  | 1, h => cases h; exact ⟨_, rfl, rfl⟩
  | l + 2, h => cases h
section
variable {P : Program} {w : World} {K : PySem.W.Frag} {mg : Str → Option Value} {base : Heap} {t : Qm}
theorem qg : cN ng ["look"] (aa bg) := ⟨rfl, rfl, rfl, by decide +kernel, rfl, by decide +kernel, by decide +kernel⟩
theorem w6 (T : Txt K mg t) : bC P w K mg base (bV P w) 1 (t.f 0) (t.d 0) ["look"] (aZ K mg 1 cI) := by
 refine bC.imp (sp := aZ K mg 1 (fun ds => cG 1 eO ds)) ?_ iO
 refine A3 (k := 0) (ms := eO) T.nt qg (by decide) (by decide) (fun _ => rfl) ?_
 intro X EE cdv A outer s H E hX hr hx sZ
 subst hX
 have hu := cV hr
 have nd := qg.nd
 have hfr : fV (jE (bV P w) P w K mg base ng "look_parts" (aa bg) (t.f 0) cdv A outer s H E) := ⟨_, outer, s.heap.objs.size, rfl, rfl, rfl⟩
 refine ak ?_ ?_
 refine g8 ?_ ?_ ?_
 refine cQ ?_ ?_ ?_ ?_
 exact (m5 hu)
 refine aF ?_ ?_ ?_
 refine ah 0 ?_ ?_ ?_
 exact (Or.inl fU)
 exact jB
 exact rfl
 exact au
 decide +kernel
 exact n6
 decide +kernel
 refine aB ?_
 refine bD ?_
 refine gT ?_
 refine vc (xs := ["go", "inner"]) (ow := Dl K 2) ?_ ?_ ?_ ?_ ?_ ?_ ?_ ?_ ?_
 exact hx
 exact hfr
 exact iY
 exact rR rfl iY
 exact rS
 exact rfl
 refine aF ?_ ?_ ?_
 refine ah 0 ?_ ?_ ?_
 exact (Or.inl fU)
 exact jB
 exact rfl
 exact au
 decide +kernel
 refine iz fun cl C pins s0 H0 fp E1 Li hx => ?_
 refine ah 1 ?_ ?_ ?_
 exact (lQ iY (by simp))
 exact Ge
 exact rfl
 decide +kernel
 exact cO
 refine ak ?_ ?_
 refine g8 ?_ ?_ ?_
 refine cQ ?_ ?_ ?_ ?_
 exact (yw hu)
 refine aF ?_ ?_ ?_
 refine ah 0 ?_ ?_ ?_
 exact (Or.inl fU)
 exact jB
 exact rfl
 exact au
 decide +kernel
 refine dN ?_
 refine fB ?_
 refine fB ?_
 refine fB ?_
 exact aj
 decide +kernel
 refine aB ?_
 refine bD ?_
 refine gT ?_
 refine Cf ?_ ?_ ?_ ?_
 exact T.yZ
 exact rm
 refine aA ?_ ?_ ?_
 refine gT ?_
 refine n8 ?_ ?_ ?_
 refine ah 0 ?_ ?_ ?_
 exact (Or.inl fU)
 exact jB
 exact rfl
 refine rN ?_
 exact au
 exact rM
 decide +kernel
 exact aj
 decide +kernel
 exact cO
 refine aB ?_
 refine bD ?_
 refine gT ?_
 refine gR ?_
 exact aj
theorem sS : cN oB ["look", "parts"] (aa bA) := ⟨rfl, rfl, rfl, by decide +kernel, rfl, by decide +kernel, by decide +kernel⟩
theorem zj (T : Txt K mg t) : bC P w K mg base (bV P w) 1 (t.f 1) (t.d 1) ["look", "parts"] (aZ K mg 2 jJ) := by
 refine bC.imp (sp := aZ K mg 2 (fun ds => cG 2 fD ds)) ?_ iO
 refine A3 (k := 0) (ms := fD) T.uA sS (by decide) (by decide) (fun _ => rfl) ?_
 intro X EE cdv A outer s H E hX hr hx sZ
 subst hX
 have hu := cV hr
 have nd := sS.nd
 have hfr : fV (jE (bV P w) P w K mg base oB "look_with" (aa bA) (t.f 1) cdv A outer s H E) := ⟨_, outer, s.heap.objs.size, rfl, rfl, rfl⟩
 refine ak ?_ ?_
 refine g8 ?_ ?_ ?_
 refine cQ ?_ ?_ ?_ ?_
 exact (m5 hu)
 refine aF ?_ ?_ ?_
 refine ah 0 ?_ ?_ ?_
 exact (Or.inl gj)
 exact jB
 exact rfl
 exact au
 decide +kernel
 exact n6
 decide +kernel
 refine aB ?_
 refine bD ?_
 refine dN ?_
 refine fB ?_
 refine aA ?_ ?_ ?_
 refine ku ?_ ?_ ?_ ?_
 exact T.lE
 exact kM
 refine aA ?_ ?_ ?_
 refine gT ?_
 refine Ac (xs := ["step", "part"]) (ow := Dl K 2) ?_ ?_ ?_ ?_ ?_ ?_ ?_ ?_ ?_
 exact hx
 exact hfr
 exact gG
 exact rR rfl gG
 exact rS
 exact rfl
 refine Cy ?_ ?_ ?_ ?_
 exact T.Jx
 exact t9
 refine aA ?_ ?_ ?_
 refine aF ?_ ?_ ?_
 refine ah 0 ?_ ?_ ?_
 exact (Or.inl gj)
 exact jB
 exact rfl
 exact au
 decide +kernel
 decide +kernel
 refine aA ?_ ?_ ?_
 refine ah 1 ?_ ?_ ?_
 exact (Or.inl iu)
 exact mL
 exact rfl
 decide +kernel
 exact aj
 decide +kernel
 refine iz fun cl C pins s0 H0 fp E1 Li hx => ?_
 refine dN ?_
 refine aA ?_ ?_ ?_
 refine aF ?_ ?_ ?_
 refine ah 0 ?_ ?_ ?_
 exact (lQ gG (by simp))
 exact IF
 exact rfl
 exact au
 decide +kernel
 decide +kernel
 refine aA ?_ ?_ ?_
 refine ah 1 ?_ ?_ ?_
 exact (lQ gG (by simp))
 exact IE
 exact rfl
 decide +kernel
 exact aj
 decide +kernel
 decide +kernel
 exact aj
 decide +kernel
 decide +kernel
 exact aj
 exact cO
 refine ak ?_ ?_
 refine g8 ?_ ?_ ?_
 refine cQ ?_ ?_ ?_ ?_
 exact (m5 hu)
 refine kr ?_ ?_ ?_ ?_
 exact T.oR
 exact t8
 refine aA ?_ ?_ ?_
 refine ah 1 ?_ ?_ ?_
 exact (Or.inl iu)
 exact mL
 exact rfl
 decide +kernel
 exact aj
 decide +kernel
 exact au
 decide +kernel
 refine aB ?_
 refine bD ?_
 refine ah 0 ?_ ?_ ?_
 exact (Or.inl gj)
 exact jB
 exact rfl
 exact cO
 refine aB ?_
 refine bD ?_
 refine eH ?_ ?_
 refine dN ?_
 refine aA ?_ ?_ ?_
 refine aF ?_ ?_ ?_
 refine ah 0 ?_ ?_ ?_
 exact (Or.inl gj)
 exact jB
 exact rfl
 exact au
 decide +kernel
 decide +kernel
 exact aj
 refine ku ?_ ?_ ?_ ?_
 exact T.lE
 exact kM
 refine aA ?_ ?_ ?_
 refine ah 1 ?_ ?_ ?_
 exact (Or.inl iu)
 exact mL
 exact rfl
 decide +kernel
 exact aj
 decide +kernel
theorem sU : cN ux ["_law_state_here"] (aa bF) := ⟨rfl, rfl, rfl, by decide +kernel, rfl, by decide +kernel, by decide +kernel⟩
theorem zk (T : Txt K mg t) : bC P w K mg base (bV P w) 1 (t.f 6) (t.d 6) ["_law_state_here"] (aZ K mg 1 aO) := by
 refine A3 (k := 0) (ms := jK) T.gw sU (by decide) (by decide) (fun _ => rfl) ?_
 intro X EE cdv A outer s H E hX hr hx sZ
 subst hX
 have hu := cV hr
 have nd := sU.nd
 have hfr : fV (jE (bV P w) P w K mg base ux "_law_next" (aa bF) (t.f 6) cdv A outer s H E) := ⟨_, outer, s.heap.objs.size, rfl, rfl, rfl⟩
 refine ak ?_ ?_
 refine aU (i := 1) ?_ ?_ ?_ ?_ ?_ ?_
 exact nd
 exact (Or.inl bX)
 refine aF ?_ ?_ ?_
 refine ah 0 ?_ ?_ ?_
 exact (Or.inl aC)
 exact ao
 exact rfl
 exact au
 decide +kernel
 exact Or.inl rfl
 exact rfl
 decide +kernel
 refine ak ?_ ?_
 refine ou ?_ ?_ ?_ ?_ ?_
 refine eH ?_ ?_
 refine ah 1 ?_ ?_ ?_
 exact (Or.inl bX)
 exact jq
 exact rfl
 exact au
 refine ah 0 ?_ ?_ ?_
 exact (Or.inl aC)
 exact ao
 exact rfl
 exact au
 decide +kernel
 intro _; rfl
 refine ak ?_ ?_
 refine g8 ?_ ?_ ?_
 refine cQ ?_ ?_ ?_ ?_
 exact tN
 refine ah 1 ?_ ?_ ?_
 exact (Or.inl bX)
 exact jq
 exact rfl
 refine kr ?_ ?_ ?_ ?_
 exact T.oR
 exact tW
 refine aA ?_ ?_ ?_
 refine aF ?_ ?_ ?_
 refine ah 0 ?_ ?_ ?_
 exact (Or.inl aC)
 exact ao
 exact rfl
 exact au
 decide +kernel
 decide +kernel
 exact aj
 decide +kernel
 decide +kernel
 refine aB ?_
 refine bD ?_
 refine eY ?_ ?_
 refine aF ?_ ?_ ?_
 refine aF ?_ ?_ ?_
 refine ah 0 ?_ ?_ ?_
 exact (Or.inl aC)
 exact ao
 exact rfl
 exact au
 decide +kernel
 refine ah 1 ?_ ?_ ?_
 exact (Or.inl bX)
 exact jq
 exact rfl
 decide +kernel
 exact au
 exact cO
 refine ak ?_ ?_
 refine g8 ?_ ?_ ?_
 refine cQ ?_ ?_ ?_ ?_
 exact yx
 refine aF ?_ ?_ ?_
 refine ah 0 ?_ ?_ ?_
 exact (Or.inl aC)
 exact ao
 exact rfl
 exact au
 decide +kernel
 exact au
 decide +kernel
 refine ak ?_ ?_
 refine aU (i := 2) ?_ ?_ ?_ ?_ ?_ ?_
 exact nd
 exact (Or.inl i7)
 refine eY ?_ ?_
 refine aF ?_ ?_ ?_
 refine ah 0 ?_ ?_ ?_
 exact (Or.inl aC)
 exact ao
 exact rfl
 exact au
 decide +kernel
 exact au
 exact Or.inl rfl
 exact rfl
 decide +kernel
 refine ak ?_ ?_
 refine ou ?_ ?_ ?_ ?_ ?_
 refine Au ?_ ?_
 refine aF ?_ ?_ ?_
 refine ah 0 ?_ ?_ ?_
 exact (Or.inl aC)
 exact ao
 exact rfl
 exact au
 decide +kernel
 exact au
 refine ah 0 ?_ ?_ ?_
 exact (Or.inl aC)
 exact ao
 exact rfl
 exact au
 decide +kernel
 intro _; rfl
 refine aB ?_
 refine bD ?_
 refine ah 2 ?_ ?_ ?_
 exact (Or.inl i7)
 exact bI
 exact rfl
 exact cO
 refine ak ?_ ?_
 refine aU (i := 3) ?_ ?_ ?_ ?_ ?_ ?_
 exact nd
 exact (Or.inl bz)
 refine eY ?_ ?_
 refine eH ?_ ?_
 refine eH ?_ ?_
 refine qB ?_ ?_
 refine ah 1 ?_ ?_ ?_
 exact (Or.inl bX)
 exact jq
 exact rfl
 exact au
 refine qB ?_ ?_
 refine aF ?_ ?_ ?_
 refine ah 0 ?_ ?_ ?_
 exact (Or.inl aC)
 exact ao
 exact rfl
 exact au
 decide +kernel
 exact au
 exact au
 exact au
 exact Or.inl rfl
 exact rfl
 decide +kernel
 refine ak ?_ ?_
 refine aU (i := 3) ?_ ?_ ?_ ?_ ?_ ?_
 exact nd
 exact (Or.inl bz)
 refine eY ?_ ?_
 refine qB ?_ ?_
 refine ah 3 ?_ ?_ ?_
 exact (Or.inl bz)
 exact dU
 exact rfl
 refine ah 3 ?_ ?_ ?_
 exact (Or.inl bz)
 exact dU
 exact rfl
 exact au
 exact Or.inl rfl
 exact rfl
 decide +kernel
 refine aB ?_
 refine bD ?_
 refine eY ?_ ?_
 refine qB ?_ ?_
 refine ah 3 ?_ ?_ ?_
 exact (Or.inl bz)
 exact dU
 exact rfl
 refine eH ?_ ?_
 refine ah 3 ?_ ?_ ?_
 exact (Or.inl bz)
 exact dU
 exact rfl
 refine qB ?_ ?_
 exact au
 refine ah 1 ?_ ?_ ?_
 exact (Or.inl bX)
 exact jq
 exact rfl
 exact au
theorem sV : cN uy ["_law_cell", "_law_many"] (aa aS) := ⟨rfl, rfl, rfl, by decide +kernel, rfl, by decide +kernel, by decide +kernel⟩
theorem zl (T : Txt K mg t) : bC P w K mg base (bV P w) 1 (t.f 8) (t.d 8) ["_law_cell", "_law_many"] (aZ K mg 2 iB) := by
 refine bC.imp (sp := aZ K mg 2 (fun ds => cG 9 lu ds)) ?_ iO
 refine A3 (k := 0) (ms := lu) T.uB sV (by decide) (by decide) (fun _ => rfl) ?_
 intro X EE cdv A outer s H E hX hr hx sZ
 subst hX
 have hu := cV hr
 have nd := sV.nd
 have hfr : fV (jE (bV P w) P w K mg base uy "_law_pool" (aa aS) (t.f 8) cdv A outer s H E) := ⟨_, outer, s.heap.objs.size, rfl, rfl, rfl⟩
 refine ak ?_ ?_
 refine aU (i := 2) ?_ ?_ ?_ ?_ ?_ ?_
 exact nd
 exact (Or.inl d7)
 exact n6
 exact Or.inl rfl
 exact rfl
 decide +kernel
 refine ak ?_ ?_
 refine aU (i := 3) ?_ ?_ ?_ ?_ ?_ ?_
 exact nd
 exact (Or.inl fS)
 refine eH ?_ ?_
 exact au
 refine eY ?_ ?_
 refine ah 0 ?_ ?_ ?_
 exact (Or.inl dh)
 exact bI
 exact rfl
 exact au
 exact Or.inl rfl
 exact rfl
 decide +kernel
 refine ak ?_ ?_
 refine aU (i := 4) ?_ ?_ ?_ ?_ ?_ ?_
 exact nd
 exact (Or.inl jO)
 refine eY ?_ ?_
 refine kX ?_ ?_
 refine ah 0 ?_ ?_ ?_
 exact (Or.inl dh)
 exact bI
 exact rfl
 exact au
 refine ah 3 ?_ ?_ ?_
 exact (Or.inl fS)
 exact sJ
 exact rfl
 exact Or.inl rfl
 exact rfl
 decide +kernel
 refine ak ?_ ?_
 refine aU (i := 5) ?_ ?_ ?_ ?_ ?_ ?_
 exact nd
 exact (Or.inl dm)
 refine gR ?_
 exact aj
 exact Or.inl rfl
 exact rfl
 decide +kernel
 refine ak ?_ ?_
 refine oz ?_ ?_ ?_ ?_ ?_ ?_ ?_ ?_
 exact sZ
 exact rfl
 exact T.pK
 exact kI
 refine aA ?_ ?_ ?_
 refine ah 1 ?_ ?_ ?_
 exact (Or.inl nK)
 exact nF
 exact rfl
 decide +kernel
 exact aj
 refine lg (i := 6) ?_ ?_ ?_ ?_
 exact nd
 exact (Or.inl jW)
 exact Or.inl rfl
 exact rfl
 refine ak ?_ ?_
 refine aU (i := 7) ?_ ?_ ?_ ?_ ?_ ?_
 exact nd
 exact (Or.inl aN)
 exact n6
 exact Or.inl rfl
 exact rfl
 decide +kernel
 refine ak ?_ ?_
 refine oz ?_ ?_ ?_ ?_ ?_ ?_ ?_ ?_
 exact sZ
 exact rfl
 exact T.pK
 exact kI
 refine aA ?_ ?_ ?_
 refine ah 3 ?_ ?_ ?_
 exact (Or.inl fS)
 exact sJ
 exact rfl
 decide +kernel
 exact aj
 refine lg (i := 8) ?_ ?_ ?_ ?_
 exact nd
 exact (Or.inl gU)
 exact Or.inl rfl
 exact rfl
 refine aB ?_
 refine g8 ?_ ?_ ?_
 refine cQ ?_ ?_ ?_ ?_
 exact (m5 hu)
 refine ah 8 ?_ ?_ ?_
 exact (Or.inl gU)
 exact xW
 exact rfl
 refine ah 4 ?_ ?_ ?_
 exact (Or.inl jO)
 exact jq
 exact rfl
 decide +kernel
 refine aB ?_
 refine aU (i := 7) ?_ ?_ ?_ ?_ ?_ ?_
 exact nd
 exact (Or.inl aN)
 refine eH ?_ ?_
 refine ah 7 ?_ ?_ ?_
 exact (Or.inl aN)
 exact iX
 exact rfl
 refine aF ?_ ?_ ?_
 refine ah 2 ?_ ?_ ?_
 exact (Or.inl d7)
 exact nS
 exact rfl
 refine eY ?_ ?_
 refine eH ?_ ?_
 refine kX ?_ ?_
 refine ah 0 ?_ ?_ ?_
 exact (Or.inl dh)
 exact bI
 exact rfl
 exact au
 refine ah 6 ?_ ?_ ?_
 exact (Or.inl jW)
 exact xX
 exact rfl
 exact au
 decide +kernel
 exact Or.inl rfl
 exact rfl
 decide +kernel
 refine aB ?_
 refine aU (i := 7) ?_ ?_ ?_ ?_ ?_ ?_
 exact nd
 exact (Or.inl aN)
 refine eH ?_ ?_
 refine ah 7 ?_ ?_ ?_
 exact (Or.inl aN)
 exact iX
 exact rfl
 refine aF ?_ ?_ ?_
 refine ah 2 ?_ ?_ ?_
 exact (Or.inl d7)
 exact nS
 exact rfl
 refine eY ?_ ?_
 refine kX ?_ ?_
 refine ah 0 ?_ ?_ ?_
 exact (Or.inl dh)
 exact bI
 exact rfl
 refine eH ?_ ?_
 exact au
 refine qB ?_ ?_
 exact au
 refine ah 8 ?_ ?_ ?_
 exact (Or.inl gU)
 exact xW
 exact rfl
 exact au
 decide +kernel
 exact Or.inl rfl
 exact rfl
 decide +kernel
 decide +kernel
 refine ak ?_ ?_
 refine g8 ?_ ?_ ?_
 refine cQ ?_ ?_ ?_ ?_
 exact (yw hu)
 refine ah 7 ?_ ?_ ?_
 exact (Or.inl aN)
 exact iX
 exact rfl
 refine dN ?_
 refine fB ?_
 refine fB ?_
 refine fB ?_
 refine fB ?_
 refine fB ?_
 refine fB ?_
 refine fB ?_
 refine fB ?_
 refine fB ?_
 refine fB ?_
 refine fB ?_
 refine fB ?_
 exact aj
 decide +kernel
 refine aB ?_
 refine aU (i := 7) ?_ ?_ ?_ ?_ ?_ ?_
 exact nd
 exact (Or.inl aN)
 refine eH ?_ ?_
 refine ah 7 ?_ ?_ ?_
 exact (Or.inl aN)
 exact iX
 exact rfl
 exact n6
 exact Or.inl rfl
 exact rfl
 decide +kernel
 exact cO
 refine aB ?_
 refine jt ?_ ?_
 refine jl ?_ ?_ ?_ ?_ ?_
 refine ah 5 ?_ ?_ ?_
 exact (Or.inl dm)
 exact lF
 exact rfl
 refine aA ?_ ?_ ?_
 refine ah 7 ?_ ?_ ?_
 exact (Or.inl aN)
 exact iX
 exact rfl
 decide +kernel
 exact aj
 decide +kernel
 decide +kernel
 exact rfl
 decide +kernel
 decide +kernel
 refine aB ?_
 refine bD ?_
 refine vP ?_
 refine ah 5 ?_ ?_ ?_
 exact (Or.inl dm)
 exact lF
 exact rfl
theorem qh : cN ni ["_law_look_here"] (aa bH) := ⟨rfl, rfl, rfl, by decide +kernel, rfl, by decide +kernel, by decide +kernel⟩
theorem w9 (T : Txt K mg t) : bC P w K mg base (bV P w) 1 (t.f 10) (t.d 10) ["_law_look_here"] (aZ K mg 1 bO) := by
 refine bC.imp (sp := aZ K mg 1 (fun ds => cG 1 eT ds)) ?_ iO
 refine A3 (k := 0) (ms := eT) T.nB qh (by decide) (by decide) (fun _ => rfl) ?_
 intro X EE cdv A outer s H E hX hr hx sZ
 subst hX
 have hu := cV hr
 have nd := qh.nd
 have hfr : fV (jE (bV P w) P w K mg base ni "_law_inner" (aa bH) (t.f 10) cdv A outer s H E) := ⟨_, outer, s.heap.objs.size, rfl, rfl, rfl⟩
 refine ak ?_ ?_
 refine g8 ?_ ?_ ?_
 refine cQ ?_ ?_ ?_ ?_
 exact (m5 hu)
 refine aF ?_ ?_ ?_
 refine ah 0 ?_ ?_ ?_
 exact (Or.inl bP)
 exact aJ
 exact rfl
 exact au
 decide +kernel
 exact n6
 decide +kernel
 refine aB ?_
 refine bD ?_
 refine gT ?_
 refine vc (xs := ["_law_step"]) (ow := Dk) ?_ ?_ ?_ ?_ ?_ ?_ ?_ ?_ ?_
 exact hx
 exact hfr
 exact iZ
 exact rQ iZ
 exact pC
 exact rfl
 refine aF ?_ ?_ ?_
 refine ah 0 ?_ ?_ ?_
 exact (Or.inl bP)
 exact aJ
 exact rfl
 exact au
 decide +kernel
 refine iz fun cl C pins s0 H0 fp E1 Li hx => ?_
 refine aF ?_ ?_ ?_
 refine ah 0 ?_ ?_ ?_
 exact (lQ iZ (by simp))
 exact sI
 exact rfl
 exact au
 decide +kernel
 decide +kernel
 exact cO
 refine ak ?_ ?_
 refine g8 ?_ ?_ ?_
 refine cQ ?_ ?_ ?_ ?_
 exact (yw hu)
 refine aF ?_ ?_ ?_
 refine ah 0 ?_ ?_ ?_
 exact (Or.inl bP)
 exact aJ
 exact rfl
 exact au
 decide +kernel
 refine dN ?_
 refine fB ?_
 refine fB ?_
 refine fB ?_
 exact aj
 decide +kernel
 refine aB ?_
 refine bD ?_
 refine gT ?_
 refine Cf ?_ ?_ ?_ ?_
 exact T.yZ
 exact qR
 refine aA ?_ ?_ ?_
 refine gT ?_
 refine n8 ?_ ?_ ?_
 refine ah 0 ?_ ?_ ?_
 exact (Or.inl bP)
 exact aJ
 exact rfl
 refine rN ?_
 exact au
 exact rM
 decide +kernel
 exact aj
 decide +kernel
 exact cO
 refine aB ?_
 refine bD ?_
 refine gT ?_
 refine gR ?_
 exact aj
theorem qi : cN r8 ["_law_script"] (aa bh) := ⟨rfl, rfl, rfl, by decide +kernel, rfl, by decide +kernel, by decide +kernel⟩
theorem uT (T : Txt K mg t) : bC P w K mg base (bV P w) 1 (t.f 7) (t.d 7) ["_law_script"] (aZ K mg 1 dR) := by
 refine bC.imp (sp := aZ K mg 1 (fun ds => cG 4 dQ ds)) ?_ Aj
 refine A3 (k := 0) (ms := dQ) T.sr qi (by decide) (by decide) (fun _ => rfl) ?_
 intro X EE cdv A outer s H E hX hr hx sZ
 subst hX
 have hu := cV hr
 have nd := qi.nd
 have hfr : fV (jE (bV P w) P w K mg base r8 "_law_state" (aa bh) (t.f 7) cdv A outer s H E) := ⟨_, outer, s.heap.objs.size, rfl, rfl, rfl⟩
 refine ak ?_ ?_
 refine aU (i := 1) ?_ ?_ ?_ ?_ ?_ ?_
 exact nd
 exact (Or.inl cP)
 exact au
 exact Or.inl rfl
 exact rfl
 decide +kernel
 refine ak ?_ ?_
 refine Bt ?_ ?_ ?_ ?_ ?_ ?_
 exact sZ
 exact rfl
 refine gT ?_
 refine n8 ?_ ?_ ?_
 refine ah 0 ?_ ?_ ?_
 exact (Or.inl cC)
 exact gx
 exact rfl
 exact rM
 refine rN ?_
 exact au
 refine lg (i := 2) ?_ ?_ ?_ ?_
 exact nd
 exact (Or.inl iH)
 exact Or.inl rfl
 exact rfl
 refine aB ?_
 refine aU (i := 1) ?_ ?_ ?_ ?_ ?_ ?_
 exact nd
 exact (Or.inl cP)
 refine eY ?_ ?_
 refine eH ?_ ?_
 refine qB ?_ ?_
 refine ah 1 ?_ ?_ ?_
 exact (Or.inl cP)
 exact sG
 exact rfl
 exact au
 refine ah 2 ?_ ?_ ?_
 exact (Or.inl iH)
 exact bI
 exact rfl
 exact au
 exact Or.inl rfl
 exact rfl
 decide +kernel
 decide +kernel
 refine ak ?_ ?_
 refine aU (i := 3) ?_ ?_ ?_ ?_ ?_ ?_
 exact nd
 exact (Or.inl fq)
 exact au
 exact Or.inl rfl
 exact rfl
 decide +kernel
 refine ak ?_ ?_
 refine g8 ?_ ?_ ?_
 refine cQ ?_ ?_ ?_ ?_
 exact yx
 refine kr ?_ ?_ ?_ ?_
 exact T.oR
 exact sO
 refine aA ?_ ?_ ?_
 refine ah 0 ?_ ?_ ?_
 exact (Or.inl cC)
 exact gx
 exact rfl
 decide +kernel
 exact aj
 decide +kernel
 exact au
 decide +kernel
 refine aB ?_
 refine aU (i := 3) ?_ ?_ ?_ ?_ ?_ ?_
 exact nd
 exact (Or.inl fq)
 refine Au ?_ ?_
 refine Lf ?_ ?_ ?_ ?_
 exact T.Nn
 exact sN
 refine aA ?_ ?_ ?_
 refine aF ?_ ?_ ?_
 refine ah 0 ?_ ?_ ?_
 exact (Or.inl cC)
 exact gx
 exact rfl
 refine EL ?_
 exact au
 decide +kernel
 decide +kernel
 exact aj
 decide +kernel
 exact au
 exact Or.inl rfl
 exact rfl
 decide +kernel
 exact cO
 refine aB ?_
 refine bD ?_
 refine gR ?_
 refine Ia ?_
 refine aA ?_ ?_ ?_
 refine ah 0 ?_ ?_ ?_
 exact (Or.inl cC)
 exact gx
 exact rfl
 decide +kernel
 refine aA ?_ ?_ ?_
 refine ah 1 ?_ ?_ ?_
 exact (Or.inl cP)
 exact sG
 exact rfl
 decide +kernel
 refine Ia ?_
 refine aA ?_ ?_ ?_
 refine ah 3 ?_ ?_ ?_
 exact (Or.inl fq)
 exact zc
 exact rfl
 decide +kernel
 exact aj
theorem qk : cN r9 ["top", "parts_of"] (aa aR) := ⟨rfl, rfl, rfl, by decide +kernel, rfl, by decide +kernel, by decide +kernel⟩
theorem xg (T : Txt K mg t) (gK : bC P w K mg base (bV P w) 1 (t.f 0) (t.d 0) ["look"] (aZ K mg 1 cI)) : bC P w K mg base (bV P w) 2 (t.f 2) (t.d 2) ["top", "parts_of"] (aZ K mg 2 cJ) := by
 refine bC.imp (sp := aZ K mg 2 (fun ds => cG 5 jZ ds)) ?_ iO
 refine A3 (k := 1) (ms := jZ) T.j4 qk (by decide) (by decide) (fun _ => rfl) ?_
 intro X EE cdv A outer s H E hX hr hx sZ
 subst hX
 have hu := cV hr
 have nd := qk.nd
 have hfr : fV (jE (bV P w) P w K mg base r9 "all_within" (aa aR) (t.f 2) cdv A outer s H E) := ⟨_, outer, s.heap.objs.size, rfl, rfl, rfl⟩
 refine ak ?_ ?_
 refine aU (i := 2) ?_ ?_ ?_ ?_ ?_ ?_
 exact nd
 exact (Or.inl gW)
 refine gR ?_
 exact aj
 exact Or.inl rfl
 exact rfl
 decide +kernel
 refine ak ?_ ?_
 refine aU (i := 3) ?_ ?_ ?_ ?_ ?_ ?_
 exact nd
 exact (Or.inl dX)
 refine gR ?_
 refine aA ?_ ?_ ?_
 refine ah 0 ?_ ?_ ?_
 exact (Or.inl sQ)
 exact Gf
 exact rfl
 decide +kernel
 exact aj
 exact Or.inl rfl
 exact rfl
 decide +kernel
 refine ak ?_ ?_
 refine Fe ?_ ?_ ?_
 exact sZ
 refine cQ ?_ ?_ ?_ ?_
 exact yx
 refine kr ?_ ?_ ?_ ?_
 exact T.oR
 exact sP
 refine aA ?_ ?_ ?_
 refine ah 3 ?_ ?_ ?_
 exact (Or.inl dX)
 exact qQ
 exact rfl
 decide +kernel
 exact aj
 decide +kernel
 exact au
 decide +kernel
 refine ak ?_ ?_
 refine aU (i := 4) ?_ ?_ ?_ ?_ ?_ ?_
 exact nd
 exact (Or.inl i8)
 refine E9 ?_ ?_ ?_
 refine ah 3 ?_ ?_ ?_
 exact (Or.inl dX)
 exact qQ
 exact rfl
 decide +kernel
 exact rfl
 exact Or.inl rfl
 exact rfl
 decide +kernel
 refine ak ?_ ?_
 refine jt ?_ ?_
 refine jl ?_ ?_ ?_ ?_ ?_
 refine ah 2 ?_ ?_ ?_
 exact (Or.inl gW)
 exact AF
 exact rfl
 refine aA ?_ ?_ ?_
 refine ah 4 ?_ ?_ ?_
 exact (Or.inl i8)
 exact ze
 exact rfl
 decide +kernel
 exact aj
 decide +kernel
 decide +kernel
 exact rfl
 decide +kernel
 refine aB ?_
 refine jt ?_ ?_
 refine yJ ?_ ?_ ?_ ?_ ?_
 refine ah 3 ?_ ?_ ?_
 exact (Or.inl dX)
 exact qQ
 exact rfl
 refine aA ?_ ?_ ?_
 refine gT ?_
 refine Bw ?_ ?_ ?_ ?_ ?_ ?_ ?_
 exact rfl
 exact T.yZ
 exact qW
 exact T.wj
 exact nM
 refine aA ?_ ?_ ?_
 refine zY (CX := bV P w) ?_ ?_ ?_ ?_ ?_ ?_ ?_
 exact rfl
 exact (Or.inl nL)
 exact oU
 exact K2 ⟨⟨_, _, _, _, gK, hr.mono (by decide), T.iT, T.nt.kp, T.sj⟩, trivial⟩
 exact gf hx
 refine aA ?_ ?_ ?_
 refine ah 4 ?_ ?_ ?_
 exact (Or.inl i8)
 exact ze
 exact rfl
 decide +kernel
 exact aj
 decide +kernel
 decide +kernel
 exact aj
 decide +kernel
 decide +kernel
 exact aj
 decide +kernel
 decide +kernel
 exact rfl
 decide +kernel
 refine aB ?_
 refine bD ?_
 refine vP ?_
 refine ah 2 ?_ ?_ ?_
 exact (Or.inl gW)
 exact AF
 exact rfl
theorem o5 : oA pZ ["look", "parts"] cL.names cL.scope := ⟨rfl, rfl, rfl, by decide +kernel, rfl, by decide +kernel, by decide +kernel, by decide +kernel, by decide +kernel⟩
theorem wB (T : Txt K mg t) (o6 : bC P w K mg base (bV P w) 1 (t.f 1) (t.d 1) ["look", "parts"] (aZ K mg 2 jJ)) : Ao P w K mg base (bV P w) 2 cL 2 dD := by
 refine Lc (k := 1) (ms := jz) o5 (by decide) (by decide) (fun _ _ => rfl) (fun doc pm ctv c cs us s => AI (p := fun us => BindsTo s (PySem.W.fnX cL.name cL.qual cL.params cL.body cL.scope (cL.names.zip cs) .none .none doc pm none (.ref c) ctv) ⟨us, []⟩ ((["look", "parts"] : List Str).zip us)) (fun _ _ => .of_eq rfl) us) ?_
 intro X EE cs a c A outer s H E hX hr hx sZ
 subst hX
 have hu := cV hr
 have nd := o5.nd
 have hfr : fV (Iw (bV P w) P w K mg base pZ cL cs a c A outer s H E) := ⟨_, outer, s.heap.objs.size, rfl, rfl, rfl⟩
 refine ak ?_ ?_
 refine jt ?_ ?_
 refine jl ?_ ?_ ?_ ?_ ?_
 refine ah 2 ?_ ?_ ?_
 exact (Or.inr (Or.inr jY))
 exact sL
 exact rfl
 refine aA ?_ ?_ ?_
 refine ah 0 ?_ ?_ ?_
 exact (Or.inl jX)
 exact jB
 exact rfl
 decide +kernel
 exact aj
 decide +kernel
 decide +kernel
 exact rfl
 decide +kernel
 refine aB ?_
 refine bD ?_
 refine ME ?_ ?_ ?_
 refine cQ ?_ ?_ ?_ ?_
 exact (m5 hu)
 refine mX ?_ ?_
 refine kr ?_ ?_ ?_ ?_
 exact T.oR
 exact rj
 refine aA ?_ ?_ ?_
 refine ah 2 ?_ ?_ ?_
 exact (Or.inr (Or.inr jY))
 exact sL
 exact rfl
 decide +kernel
 exact aj
 decide +kernel
 exact au
 refine ah 3 ?_ ?_ ?_
 exact (Or.inr (Or.inr nY))
 exact DL
 exact rfl
 decide +kernel
 refine HY ?_ ?_ ?_
 exact T.Nq
 exact q8
 exact Lh
 refine aW (CX := bV P w) (k := yT) (f := (t.f 1)) (fd := (t.d 1)) (ps := ["look", "parts"]) ?_ ?_ ?_ ?_ ?_ ?_ ?_ ?_ ?_ ?_
 exact o6
 exact hr.mono (by decide)
 exact T.Ay
 exact T.uA.kp
 exact T.Ax
 exact gf hx
 exact mj
 exact zd
 refine aA ?_ ?_ ?_
 refine ah 0 ?_ ?_ ?_
 exact (Or.inl jX)
 exact jB
 exact rfl
 decide +kernel
 refine aA ?_ ?_ ?_
 refine ah 1 ?_ ?_ ?_
 exact (Or.inl oZ)
 exact mL
 exact rfl
 decide +kernel
 exact aj
 decide +kernel
theorem xY : cN Av ["top", "parts_of", "make"] (aa bL) := ⟨rfl, rfl, rfl, by decide +kernel, rfl, by decide +kernel, by decide +kernel⟩
theorem DV (T : Txt K mg t) (gK : bC P w K mg base (bV P w) 1 (t.f 0) (t.d 0) ["look"] (aZ K mg 1 cI)) (dw : bC P w K mg base (bV P w) 2 (t.f 2) (t.d 2) ["top", "parts_of"] (aZ K mg 2 cJ)) (mq : Ao P w K mg base (bV P w) 2 cL 2 dD) : bC P w K mg base (bV P w) 3 (t.f 3) (t.d 3) ["top", "parts_of", "make"] (aZ K mg 3 oE) := by
 refine A3 (k := 2) (ms := v8) T.Az xY (by decide) (by decide) (fun _ => rfl) ?_
 intro X EE cdv A outer s H E hX hr hx sZ
 subst hX
 have hu := cV hr
 have nd := xY.nd
 have hfr : fV (jE (bV P w) P w K mg base Av "folded" (aa bL) (t.f 3) cdv A outer s H E) := ⟨_, outer, s.heap.objs.size, rfl, rfl, rfl⟩
 refine ak ?_ ?_
 refine aU (i := 3) ?_ ?_ ?_ ?_ ?_ ?_
 exact nd
 exact (Or.inl i9)
 refine gR ?_
 exact aj
 exact Or.inl rfl
 exact rfl
 decide +kernel
 refine ak ?_ ?_
 refine Ib ?_ ?_ ?_ ?_ ?_ ?_
 exact sZ
 exact rfl
 refine K6 ?_ ?_ ?_ ?_
 exact T.wj
 exact qX
 refine aA ?_ ?_ ?_
 refine aW (CX := bV P w) (k := lS) (f := (t.f 2)) (fd := (t.d 2)) (ps := ["top", "parts_of"]) ?_ ?_ ?_ ?_ ?_ ?_ ?_ ?_ ?_ ?_
 exact dw
 exact hr.mono (by decide)
 exact T.nv
 exact T.j4.kp
 exact T.nu
 exact gf hx
 exact oW
 exact lV
 refine aA ?_ ?_ ?_
 refine ah 0 ?_ ?_ ?_
 exact (Or.inl wY)
 exact Gf
 exact rfl
 decide +kernel
 refine aA ?_ ?_ ?_
 refine ah 1 ?_ ?_ ?_
 exact (Or.inl kL)
 exact oU
 exact rfl
 decide +kernel
 exact aj
 decide +kernel
 decide +kernel
 exact aj
 decide +kernel
 refine lg (i := 4) ?_ ?_ ?_ ?_
 exact nd
 exact (Or.inl lY)
 exact Or.inl rfl
 exact rfl
 refine ak ?_ ?_
 refine aU (i := 5) ?_ ?_ ?_ ?_ ?_ ?_
 exact nd
 exact (Or.inl jS)
 refine gR ?_
 exact aj
 exact Or.inl rfl
 exact rfl
 decide +kernel
 refine ak ?_ ?_
 refine oz ?_ ?_ ?_ ?_ ?_ ?_ ?_ ?_
 exact sZ
 exact rfl
 exact T.pK
 exact uR
 refine aA ?_ ?_ ?_
 refine kr ?_ ?_ ?_ ?_
 exact T.oR
 exact wX
 refine aA ?_ ?_ ?_
 refine zY (CX := bV P w) ?_ ?_ ?_ ?_ ?_ ?_ ?_
 exact rfl
 exact (Or.inl kL)
 exact oU
 exact K2 ⟨⟨_, _, _, _, gK, hr.mono (by decide), T.iT, T.nt.kp, T.sj⟩, trivial⟩
 exact gf hx
 refine aA ?_ ?_ ?_
 refine ah 4 ?_ ?_ ?_
 exact (Or.inl lY)
 exact ze
 exact rfl
 decide +kernel
 exact aj
 decide +kernel
 decide +kernel
 exact aj
 decide +kernel
 decide +kernel
 exact aj
 refine lg (i := 6) ?_ ?_ ?_ ?_
 exact nd
 exact (Or.inl tX)
 exact Or.inl rfl
 exact rfl
 refine aB ?_
 refine jt ?_ ?_
 refine jl ?_ ?_ ?_ ?_ ?_
 refine ah 5 ?_ ?_ ?_
 exact (Or.inl jS)
 exact mL
 exact rfl
 refine aA ?_ ?_ ?_
 refine E9 ?_ ?_ ?_
 refine ah 3 ?_ ?_ ?_
 exact (Or.inl i9)
 exact sL
 exact rfl
 decide +kernel
 exact rfl
 decide +kernel
 exact aj
 decide +kernel
 decide +kernel
 exact rfl
 decide +kernel
 decide +kernel
 refine aB ?_
 refine jt ?_ ?_
 refine jl ?_ ?_ ?_ ?_ ?_
 refine ah 3 ?_ ?_ ?_
 exact (Or.inl i9)
 exact sL
 exact rfl
 refine aA ?_ ?_ ?_
 refine FL (CX := bV P w) ?_ ?_ ?_ ?_ ?_ ?_ ?_
 exact rfl
 exact (Or.inl wu)
 exact CF
 exact Ql ⟨_, _, BG T.oK T.oM ua, mq, hr.mono (by decide)⟩
 exact gf hx
 refine aA ?_ ?_ ?_
 refine ah 4 ?_ ?_ ?_
 exact (Or.inl lY)
 exact ze
 exact rfl
 decide +kernel
 refine aA ?_ ?_ ?_
 refine vP ?_
 refine ah 5 ?_ ?_ ?_
 exact (Or.inl jS)
 exact mL
 exact rfl
 decide +kernel
 exact aj
 decide +kernel
 decide +kernel
 exact aj
 decide +kernel
 decide +kernel
 exact rfl
 decide +kernel
 decide +kernel
 refine aB ?_
 refine bD ?_
 refine aF ?_ ?_ ?_
 refine ah 3 ?_ ?_ ?_
 exact (Or.inl i9)
 exact sL
 exact rfl
 exact au
 decide +kernel
theorem lJ : cN qN ["way"] (aa cu) := ⟨rfl, rfl, rfl, by decide +kernel, rfl, by decide +kernel, by decide +kernel⟩
theorem AJ (T : Txt K mg t) (dw : bC P w K mg base (bV P w) 2 (t.f 2) (t.d 2) ["top", "parts_of"] (aZ K mg 2 cJ)) : bC P w K mg base (bV P w) 3 (t.f 4) (t.d 4) ["way"] (aZ K mg 1 dS) := by
 refine bC.imp (sp := aZ K mg 1 (fun ds => cG 1 nj ds)) ?_ iO
 refine A3 (k := 2) (ms := nj) T.jo lJ (by decide) (by decide) (fun _ => rfl) ?_
 intro X EE cdv A outer s H E hX hr hx sZ
 subst hX
 have hu := cV hr
 have nd := lJ.nd
 have hfr : fV (jE (bV P w) P w K mg base qN "looks_in" (aa cu) (t.f 4) cdv A outer s H E) := ⟨_, outer, s.heap.objs.size, rfl, rfl, rfl⟩
 refine aB ?_
 refine bD ?_
 refine gT ?_
 refine n8 ?_ ?_ ?_
 refine aW (CX := bV P w) (k := lS) (f := (t.f 2)) (fd := (t.d 2)) (ps := ["top", "parts_of"]) ?_ ?_ ?_ ?_ ?_ ?_ ?_ ?_ ?_ ?_
 exact dw
 exact hr.mono (by decide)
 exact T.nv
 exact T.j4.kp
 exact T.nu
 exact gf hx
 exact jb
 exact lV
 refine aA ?_ ?_ ?_
 refine dN ?_
 refine fB ?_
 refine aA ?_ ?_ ?_
 refine ah 0 ?_ ?_ ?_
 exact (Or.inl nT)
 exact zf
 exact rfl
 decide +kernel
 exact aj
 decide +kernel
 refine aA ?_ ?_ ?_
 refine E6 (f := (t.f 0)) ?_ ?_ ?_
 exact T.iT
 exact jc
 exact lW
 decide +kernel
 exact aj
 decide +kernel
 refine rN ?_
 exact au
 exact rM
theorem xh (T : Txt K mg t) (dw : bC P w K mg base (bV P w) 2 (t.f 2) (t.d 2) ["top", "parts_of"] (aZ K mg 2 cJ)) : bC P w K mg base (bV P w) 3 (t.f 4) (t.d 4) ["way"] (aZ K mg 1 gE) := by
 refine bC.imp (sp := aZ K mg 1 (fun ds => cG 1 iR ds)) ?_ Aj
 refine A3 (k := 2) (ms := iR) T.jo lJ (by decide) (by decide) (fun _ => rfl) ?_
 intro X EE cdv A outer s H E hX hr hx sZ
 subst hX
 have hu := cV hr
 have nd := lJ.nd
 have hfr : fV (jE (bV P w) P w K mg base qN "looks_in" (aa cu) (t.f 4) cdv A outer s H E) := ⟨_, outer, s.heap.objs.size, rfl, rfl, rfl⟩
 refine aB ?_
 refine bD ?_
 refine n8 ?_ ?_ ?_
 refine aW (CX := bV P w) (k := lS) (f := (t.f 2)) (fd := (t.d 2)) (ps := ["top", "parts_of"]) ?_ ?_ ?_ ?_ ?_ ?_ ?_ ?_ ?_ ?_
 exact dw
 exact hr.mono (by decide)
 exact T.nv
 exact T.j4.kp
 exact T.nu
 exact gf hx
 exact jb
 exact lV
 refine aA ?_ ?_ ?_
 refine dN ?_
 refine fB ?_
 refine aA ?_ ?_ ?_
 refine ah 0 ?_ ?_ ?_
 exact (Or.inl nT)
 exact zf
 exact rfl
 decide +kernel
 exact aj
 decide +kernel
 refine aA ?_ ?_ ?_
 refine E6 (f := (t.f 0)) ?_ ?_ ?_
 exact T.iT
 exact jc
 exact lW
 decide +kernel
 exact aj
 decide +kernel
 refine rN ?_
 exact au
 exact rM
theorem xZ : cN v9 ["way", "number"] (aa bE) := ⟨rfl, rfl, rfl, by decide +kernel, rfl, by decide +kernel, by decide +kernel⟩
theorem DW (T : Txt K mg t) {c Pt : Addr} (htab : PySem.W.tabIn K "let_go" = some (c, Pt)) (LP : PySem.W.CodeHd base c Pt) (Nj : base.BuiltinsAt mg Pt) (wC : bC P w K mg base (bV P w) 3 (t.f 3) (t.d 3) ["top", "parts_of", "make"] (aZ K mg 3 oE)) (iw : bC P w K mg base (bV P w) 3 (t.f 4) (t.d 4) ["way"] (aZ K mg 1 dS)) : bC P w K mg base (bV P w) 4 (t.f 5) (t.d 5) ["way", "number"] (aZ K mg 2 oG) := by
 refine bC.imp (sp := aZ K mg 2 (fun ds G => pY (cG 5 mK ds G))) ?_ iO
 refine Qi (k := 3) (ms := mK) T.oK xZ (by decide) (by decide) (fun _ _ => rfl) htab T.oM ?_
 intro X EE A outer s H E hX hr hx hxs sZ
 subst hX
 have hu := cV hr
 have nd := xZ.nd
 have hfr : fV (jE (bV P w) P w K mg base v9 "let_go" (aa bE) (t.f 5) (.ref c) A outer s H E) := ⟨_, outer, s.heap.objs.size, rfl, rfl, rfl⟩
 refine Aq ?_ ?_
 refine aU (i := 2) ?_ ?_ ?_ ?_ ?_ ?_
 exact nd
 exact (Or.inr tZ)
 refine mX ?_ ?_
 refine mX ?_ ?_
 refine kr ?_ ?_ ?_ ?_
 exact T.oR
 exact w4
 refine aA ?_ ?_ ?_
 refine aW (CX := bV P w) (k := oF) (f := (t.f 4)) (fd := (t.d 4)) (ps := ["way"]) ?_ ?_ ?_ ?_ ?_ ?_ ?_ ?_ ?_ ?_
 exact iw
 exact hr.mono (by decide)
 exact T.nA
 exact T.jo.kp
 exact T.ny
 exact gf hx
 exact q4
 exact lG
 refine aA ?_ ?_ ?_
 refine ah 0 ?_ ?_ ?_
 exact (Or.inl qf)
 exact zf
 exact rfl
 decide +kernel
 exact aj
 decide +kernel
 decide +kernel
 exact aj
 decide +kernel
 exact au
 refine ah 1 ?_ ?_ ?_
 exact (Or.inl t7)
 exact DQ
 exact rfl
 exact Or.inl rfl
 exact rfl
 decide +kernel
 refine Aq ?_ ?_
 refine aU (i := 3) ?_ ?_ ?_ ?_ ?_ ?_
 exact nd
 exact (Or.inr wA)
 refine gR ?_
 exact aj
 exact Or.inl rfl
 exact rfl
 decide +kernel
 refine IB (k := cL) (y := "let_go") (i := 4) (js := [3, 2]) (cs := [s.heap.objs.size + 1 + 1, s.heap.objs.size + 1]) (c := c) (P := Pt) ?_ ?_ ?_ ?_ ?_ ?_ ?_ ?_ ?_ ?_ ?_ ?_ ?_ ?_ ?_ ?_ ?_ ?_ ?_ ?_ ?_ ?_ ?_
 exact rfl
 exact BG T.oK T.oM ua
 exact rfl
 exact rfl
 exact rfl
 exact rfl
 exact rfl
 exact htab
 exact LP
 exact Nj
 exact rfl
 exact rfl
 simp
 exact DU
 exact rfl
 exact nd
 exact oY
 exact rfl
 exact DR
 decide +kernel
 exact DT
 exact fun _ => rfl
 refine id ?_
 have hx := hxs cL.names
 refine aB ?_
 refine bD ?_
 refine aF ?_ ?_ ?_
 refine aW (CX := bV P w) (k := DJ) (f := (t.f 3)) (fd := (t.d 3)) (ps := ["top", "parts_of", "make"]) ?_ ?_ ?_ ?_ ?_ ?_ ?_ ?_ ?_ ?_
 exact wC
 exact hr.mono (by decide)
 exact T.Gb
 exact T.Az.kp
 exact T.Ga
 exact gf hx
 exact t6
 exact DM
 refine aA ?_ ?_ ?_
 refine dN ?_
 refine fB ?_
 refine aA ?_ ?_ ?_
 refine ah 0 ?_ ?_ ?_
 exact (Or.inl qf)
 exact zf
 exact rfl
 decide +kernel
 exact aj
 decide +kernel
 refine aA ?_ ?_ ?_
 refine E6 (f := (t.f 0)) ?_ ?_ ?_
 exact T.iT
 exact oX
 exact lW
 decide +kernel
 refine aA ?_ ?_ ?_
 refine ah 4 ?_ ?_ ?_
 exact (Or.inl oY)
 exact CF
 exact rfl
 decide +kernel
 exact aj
 decide +kernel
 exact au
 decide +kernel
theorem sW : cN lA ["_law_state_here", "_law_kinds", "_law_fuel"] (aa aD) := ⟨rfl, rfl, rfl, by decide +kernel, rfl, by decide +kernel, by decide +kernel⟩
theorem zm {k : Nat} {dF : List D → M D} (hk : nk ≤ k) (T : Txt K mg t) (bG : bC P w K mg base (bV P w) 1 (t.f 6) (t.d 6) ["_law_state_here"] (aZ K mg 1 (aO))) (dH : bC P w K mg base (bV P w) k (t.f 9) (t.d 9) ["_law_state_here", "_law_kinds", "_law_fuel"] (aZ K mg 3 (dF))) : bC P w K mg base (bV P w) (k + 1) (t.f 9) (t.d 9) ["_law_state_here", "_law_kinds", "_law_fuel"] (aZ K mg 3 (fun ds => cG 9 (eU dF) ds)) := by
 refine A3 (k := k) (ms := eU dF) T.iG sW (by decide) (by decide) (fun _ => rfl) ?_
 intro X EE cdv A outer s H E hX hr hx sZ
 subst hX
 have hu := cV hr
 have nd := sW.nd
 have hfr : fV (jE (bV P w) P w K mg base lA "_law_look" (aa aD) (t.f 9) cdv A outer s H E) := ⟨_, outer, s.heap.objs.size, rfl, rfl, rfl⟩
 refine ak ?_ ?_
 refine aU (i := 3) ?_ ?_ ?_ ?_ ?_ ?_
 exact nd
 exact (Or.inl cy)
 refine aW (CX := bV P w) (k := eS) (f := (t.f 6)) (fd := (t.d 6)) (ps := ["_law_state_here"]) ?_ ?_ ?_ ?_ ?_ ?_ ?_ ?_ ?_ ?_
 exact bG
 exact hr.mono (Nat.le_trans (show eS ≤ nk by decide) hk)
 exact T.iF
 exact T.gw.kp
 exact T.iE
 exact gf hx
 exact nI
 exact gF
 refine aA ?_ ?_ ?_
 refine ah 0 ?_ ?_ ?_
 exact (Or.inr (Or.inl aG))
 exact ao
 exact rfl
 decide +kernel
 exact aj
 decide +kernel
 exact Or.inl rfl
 exact rfl
 decide +kernel
 refine ak ?_ ?_
 refine aU (i := 4) ?_ ?_ ?_ ?_ ?_ ?_
 exact nd
 exact (Or.inl cF)
 refine eY ?_ ?_
 refine ah 3 ?_ ?_ ?_
 exact (Or.inl cy)
 exact bI
 exact rfl
 exact au
 exact Or.inl rfl
 exact rfl
 decide +kernel
 refine ak ?_ ?_
 refine aU (i := 5) ?_ ?_ ?_ ?_ ?_ ?_
 exact nd
 exact (Or.inl i6)
 refine dN ?_
 refine fB ?_
 refine aA ?_ ?_ ?_
 refine aF ?_ ?_ ?_
 refine ah 1 ?_ ?_ ?_
 exact (Or.inr (Or.inl bW))
 exact cK
 exact rfl
 refine eY ?_ ?_
 refine kX ?_ ?_
 refine ah 3 ?_ ?_ ?_
 exact (Or.inl cy)
 exact bI
 exact rfl
 exact au
 refine kr ?_ ?_ ?_ ?_
 exact T.oR
 exact tV
 refine aA ?_ ?_ ?_
 refine ah 1 ?_ ?_ ?_
 exact (Or.inr (Or.inl bW))
 exact cK
 exact rfl
 decide +kernel
 exact aj
 decide +kernel
 decide +kernel
 decide +kernel
 exact aj
 exact Or.inl rfl
 exact rfl
 decide +kernel
 refine ak ?_ ?_
 refine g8 ?_ ?_ ?_
 refine cQ ?_ ?_ ?_ ?_
 exact tN
 refine ah 4 ?_ ?_ ?_
 exact (Or.inl cF)
 exact cM
 exact rfl
 exact au
 decide +kernel
 refine aB ?_
 refine bD ?_
 refine dN ?_
 refine fB ?_
 exact aj
 exact cO
 refine ak ?_ ?_
 refine g8 ?_ ?_ ?_
 refine HG ?_
 refine EJ ?_ ?_
 refine cQ ?_ ?_ ?_ ?_
 exact tN
 refine ah 4 ?_ ?_ ?_
 exact (Or.inl cF)
 exact cM
 exact rfl
 exact au
 decide +kernel
 refine Bm ?_
 refine cQ ?_ ?_ ?_ ?_
 exact tN
 refine ah 2 ?_ ?_ ?_
 exact (Or.inr (Or.inl dg))
 exact iU
 exact rfl
 exact au
 decide +kernel
 refine aB ?_
 refine bD ?_
 refine ah 5 ?_ ?_ ?_
 exact (Or.inl i6)
 exact za
 exact rfl
 exact cO
 refine ak ?_ ?_
 refine g8 ?_ ?_ ?_
 refine cQ ?_ ?_ ?_ ?_
 exact tN
 refine ah 4 ?_ ?_ ?_
 exact (Or.inl cF)
 exact cM
 exact rfl
 exact au
 decide +kernel
 refine aB ?_
 refine bD ?_
 refine dN ?_
 refine fB ?_
 refine aA ?_ ?_ ?_
 refine aW (CX := bV P w) (k := k) (f := (t.f 9)) (fd := (t.d 9)) (ps := ["_law_state_here", "_law_kinds", "_law_fuel"]) ?_ ?_ ?_ ?_ ?_ ?_ ?_ ?_ ?_ ?_
 exact dH
 exact hr
 exact T.bB
 exact T.iG.kp
 exact T.jL
 exact gf hx
 exact fQ
 exact iW
 refine aA ?_ ?_ ?_
 refine ah 0 ?_ ?_ ?_
 exact (Or.inr (Or.inl aG))
 exact ao
 exact rfl
 decide +kernel
 refine aA ?_ ?_ ?_
 refine ah 1 ?_ ?_ ?_
 exact (Or.inr (Or.inl bW))
 exact cK
 exact rfl
 decide +kernel
 refine aA ?_ ?_ ?_
 refine mX ?_ ?_
 refine ah 2 ?_ ?_ ?_
 exact (Or.inr (Or.inl dg))
 exact iU
 exact rfl
 exact au
 decide +kernel
 exact aj
 decide +kernel
 decide +kernel
 exact aj
 exact cO
 refine ak ?_ ?_
 refine g8 ?_ ?_ ?_
 refine HG ?_
 refine KH ?_ ?_
 refine cQ ?_ ?_ ?_ ?_
 exact tN
 refine ah 4 ?_ ?_ ?_
 exact (Or.inl cF)
 exact cM
 exact rfl
 exact au
 decide +kernel
 refine HF ?_
 refine cQ ?_ ?_ ?_ ?_
 exact yx
 refine aF ?_ ?_ ?_
 refine ah 0 ?_ ?_ ?_
 exact (Or.inr (Or.inl aG))
 exact ao
 exact rfl
 exact au
 decide +kernel
 exact au
 decide +kernel
 refine ak ?_ ?_
 refine aU (i := 6) ?_ ?_ ?_ ?_ ?_ ?_
 exact nd
 exact (Or.inl fR)
 refine eH ?_ ?_
 exact au
 refine eY ?_ ?_
 refine kX ?_ ?_
 refine ah 3 ?_ ?_ ?_
 exact (Or.inl cy)
 exact bI
 exact rfl
 exact au
 refine aF ?_ ?_ ?_
 refine ah 0 ?_ ?_ ?_
 exact (Or.inr (Or.inl aG))
 exact ao
 exact rfl
 exact au
 decide +kernel
 exact Or.inl rfl
 exact rfl
 decide +kernel
 refine ak ?_ ?_
 refine ou ?_ ?_ ?_ ?_ ?_
 refine mX ?_ ?_
 refine aF ?_ ?_ ?_
 refine ah 0 ?_ ?_ ?_
 exact (Or.inr (Or.inl aG))
 exact ao
 exact rfl
 exact au
 decide +kernel
 refine ah 6 ?_ ?_ ?_
 exact (Or.inl fR)
 exact nF
 exact rfl
 refine ah 0 ?_ ?_ ?_
 exact (Or.inr (Or.inl aG))
 exact ao
 exact rfl
 exact au
 decide +kernel
 intro _; rfl
 refine ak ?_ ?_
 refine FZ ?_
 refine Dr (i := 7) (xs := ["_law_k"]) (ow := Dk) ?_ ?_ ?_ ?_ ?_ ?_ ?_ ?_ ?_ ?_ ?_ ?_ ?_ ?_ ?_
 exact hx
 exact hfr
 exact jr
 exact rQ jr
 exact pC
 exact rfl
 exact nd
 exact fP
 exact T.pK
 exact qU
 refine aA ?_ ?_ ?_
 refine ah 6 ?_ ?_ ?_
 exact (Or.inl fR)
 exact nF
 exact rfl
 decide +kernel
 exact aj
 refine iz fun cl C pins s0 H0 fp E1 Li hx => ?_
 refine aF ?_ ?_ ?_
 refine gT ?_
 refine gR ?_
 refine fB ?_
 refine fB ?_
 refine fB ?_
 exact aj
 refine eY ?_ ?_
 refine aW (CX := bV P w) (k := eS) (f := (t.f 6)) (fd := (t.d 6)) (ps := ["_law_state_here"]) ?_ ?_ ?_ ?_ ?_ ?_ ?_ ?_ ?_ ?_
 exact bG
 exact hr.mono (Nat.le_trans (show eS ≤ nk by decide) hk)
 exact T.iF
 exact T.gw.kp
 exact T.iE
 exact gf hx
 exact (vd j7)
 exact gF
 refine aA ?_ ?_ ?_
 refine ah 1 ?_ ?_ ?_
 exact (pF jr iI)
 exact ao
 exact rfl
 decide +kernel
 exact aj
 decide +kernel
 exact au
 decide +kernel
 refine xN ?_ ?_ ?_ ?_
 exact rfl
 exact fP
 exact rfl
 decide +kernel
 exact rfl
 decide +kernel
 refine aB ?_
 refine bD ?_
 refine dN ?_
 refine fB ?_
 refine aA ?_ ?_ ?_
 refine ku ?_ ?_ ?_ ?_
 exact T.lE
 exact qV
 refine aA ?_ ?_ ?_
 refine vP ?_
 refine vc (xs := ["_law_go"]) (ow := Dk) ?_ ?_ ?_ ?_ ?_ ?_ ?_ ?_ ?_
 exact hx
 exact hfr
 exact dJ
 exact rQ dJ
 exact pC
 exact rfl
 refine ah 7 ?_ ?_ ?_
 exact (Or.inl fP)
 exact y9
 exact rfl
 refine iz fun cl C pins s0 H0 fp E1 Li hx => ?_
 refine dN ?_
 refine aA ?_ ?_ ?_
 refine ah 0 ?_ ?_ ?_
 exact (lQ dJ (by simp))
 exact qP
 exact rfl
 decide +kernel
 refine aA ?_ ?_ ?_
 refine aW (CX := bV P w) (k := k) (f := (t.f 9)) (fd := (t.d 9)) (ps := ["_law_state_here", "_law_kinds", "_law_fuel"]) ?_ ?_ ?_ ?_ ?_ ?_ ?_ ?_ ?_ ?_
 exact dH
 exact hr
 exact T.bB
 exact T.iG.kp
 exact T.jL
 exact gf hx
 exact (vd j9)
 exact iW
 refine aA ?_ ?_ ?_
 refine ah 1 ?_ ?_ ?_
 exact (pF dJ iJ)
 exact ao
 exact rfl
 decide +kernel
 refine aA ?_ ?_ ?_
 refine ah 2 ?_ ?_ ?_
 exact (pF dJ jR)
 exact cK
 exact rfl
 decide +kernel
 refine aA ?_ ?_ ?_
 refine mX ?_ ?_
 refine ah 3 ?_ ?_ ?_
 exact (pF dJ j8)
 exact iU
 exact rfl
 exact au
 decide +kernel
 exact aj
 decide +kernel
 decide +kernel
 exact aj
 decide +kernel
 decide +kernel
 exact aj
 decide +kernel
 decide +kernel
 exact aj
 exact cO
 refine ak ?_ ?_
 refine aU (i := 8) ?_ ?_ ?_ ?_ ?_ ?_
 exact nd
 exact (Or.inl ji)
 refine aW (CX := bV P w) (k := k) (f := (t.f 9)) (fd := (t.d 9)) (ps := ["_law_state_here", "_law_kinds", "_law_fuel"]) ?_ ?_ ?_ ?_ ?_ ?_ ?_ ?_ ?_ ?_
 exact dH
 exact hr
 exact T.bB
 exact T.iG.kp
 exact T.jL
 exact gf hx
 exact fQ
 exact iW
 refine aA ?_ ?_ ?_
 refine ah 0 ?_ ?_ ?_
 exact (Or.inr (Or.inl aG))
 exact ao
 exact rfl
 decide +kernel
 refine aA ?_ ?_ ?_
 refine ah 1 ?_ ?_ ?_
 exact (Or.inr (Or.inl bW))
 exact cK
 exact rfl
 decide +kernel
 refine aA ?_ ?_ ?_
 refine mX ?_ ?_
 refine ah 2 ?_ ?_ ?_
 exact (Or.inr (Or.inl dg))
 exact iU
 exact rfl
 exact au
 decide +kernel
 exact aj
 decide +kernel
 exact Or.inl rfl
 exact rfl
 decide +kernel
 refine aB ?_
 refine bD ?_
 refine dN ?_
 refine aA ?_ ?_ ?_
 refine aF ?_ ?_ ?_
 refine gT ?_
 refine gR ?_
 refine fB ?_
 refine fB ?_
 exact aj
 refine eY ?_ ?_
 refine kX ?_ ?_
 refine ah 3 ?_ ?_ ?_
 exact (Or.inl cy)
 exact bI
 exact rfl
 exact au
 exact au
 decide +kernel
 decide +kernel
 refine aA ?_ ?_ ?_
 refine ah 8 ?_ ?_ ?_
 exact (Or.inl ji)
 exact AE
 exact rfl
 decide +kernel
 refine aA ?_ ?_ ?_
 refine aW (CX := bV P w) (k := k) (f := (t.f 9)) (fd := (t.d 9)) (ps := ["_law_state_here", "_law_kinds", "_law_fuel"]) ?_ ?_ ?_ ?_ ?_ ?_ ?_ ?_ ?_ ?_
 exact dH
 exact hr
 exact T.bB
 exact T.iG.kp
 exact T.jL
 exact gf hx
 exact fQ
 exact iW
 refine aA ?_ ?_ ?_
 refine ah 0 ?_ ?_ ?_
 exact (Or.inr (Or.inl aG))
 exact ao
 exact rfl
 decide +kernel
 refine aA ?_ ?_ ?_
 refine ah 1 ?_ ?_ ?_
 exact (Or.inr (Or.inl bW))
 exact cK
 exact rfl
 decide +kernel
 refine aA ?_ ?_ ?_
 refine mX ?_ ?_
 refine ah 2 ?_ ?_ ?_
 exact (Or.inr (Or.inl dg))
 exact iU
 exact rfl
 exact au
 decide +kernel
 exact aj
 decide +kernel
 decide +kernel
 exact aj
theorem ql (T : Txt K mg t) (bG : bC P w K mg base (bV P w) 1 (t.f 6) (t.d 6) ["_law_state_here"] (aZ K mg 1 (aO))) : ∀ n : Nat, bC P w K mg base (bV P w) (1 + n) (t.f 9) (t.d 9) ["_law_state_here", "_law_kinds", "_law_fuel"] (aZ K mg 3 (bB n))
  | 0 => by rw [show bB 0 = fun _ => M.stop from by funext ds; rw [bB]]; exact yP
  | n + 1 => by
    have dH := ql T bG n
    have uF := zm (Nat.le_add_right 1 n) T bG dH
    rw [show (fun ds => cG 9 (eU (bB n)) ds) = bB (n + 1) from by funext ds; rw [bB]] at uF
    exact uF
theorem sX : cN uz ["_law_state_here", "_law_kinds"] (aa aT) := ⟨rfl, rfl, rfl, by decide +kernel, rfl, by decide +kernel, by decide +kernel⟩
theorem zo (T : Txt K mg t) (bG : bC P w K mg base (bV P w) 1 (t.f 6) (t.d 6) ["_law_state_here"] (aZ K mg 1 aO)) (dH : bC P w K mg base (bV P w) 31 (t.f 9) (t.d 9) ["_law_state_here", "_law_kinds", "_law_fuel"] (aZ K mg 3 iD)) : bC P w K mg base (bV P w) 32 (t.f 15) (t.d 15) ["_law_state_here", "_law_kinds"] (aZ K mg 2 fE) := by
 refine A3 (k := 31) (ms := oH) T.oQ sX (by decide) (by decide) (fun _ => rfl) ?_
 intro X EE cdv A outer s H E hX hr hx sZ
 subst hX
 have hu := cV hr
 have nd := sX.nd
 have hfr : fV (jE (bV P w) P w K mg base uz "_law_long" (aa aT) (t.f 15) cdv A outer s H E) := ⟨_, outer, s.heap.objs.size, rfl, rfl, rfl⟩
 refine ak ?_ ?_
 refine aU (i := 2) ?_ ?_ ?_ ?_ ?_ ?_
 exact nd
 exact (Or.inl cZ)
 refine aW (CX := bV P w) (k := eS) (f := (t.f 6)) (fd := (t.d 6)) (ps := ["_law_state_here"]) ?_ ?_ ?_ ?_ ?_ ?_ ?_ ?_ ?_ ?_
 exact bG
 exact hr.mono (by decide)
 exact T.iF
 exact T.gw.kp
 exact T.iE
 exact gf hx
 exact i0
 exact gF
 refine aA ?_ ?_ ?_
 refine ah 0 ?_ ?_ ?_
 exact (Or.inl bQ)
 exact ao
 exact rfl
 decide +kernel
 exact aj
 decide +kernel
 exact Or.inl rfl
 exact rfl
 decide +kernel
 refine ak ?_ ?_
 refine aU (i := 3) ?_ ?_ ?_ ?_ ?_ ?_
 exact nd
 exact (Or.inl fm)
 refine gR ?_
 exact aj
 exact Or.inl rfl
 exact rfl
 decide +kernel
 refine ak ?_ ?_
 refine oz ?_ ?_ ?_ ?_ ?_ ?_ ?_ ?_
 exact sZ
 exact rfl
 exact T.pK
 exact qS
 refine aA ?_ ?_ ?_
 refine eH ?_ ?_
 exact au
 refine eY ?_ ?_
 refine ah 2 ?_ ?_ ?_
 exact (Or.inl cZ)
 exact bI
 exact rfl
 exact au
 decide +kernel
 exact aj
 refine lg (i := 4) ?_ ?_ ?_ ?_
 exact nd
 exact (Or.inl pT)
 exact Or.inl rfl
 exact rfl
 refine ak ?_ ?_
 refine ou ?_ ?_ ?_ ?_ ?_
 refine eY ?_ ?_
 refine kX ?_ ?_
 refine ah 2 ?_ ?_ ?_
 exact (Or.inl cZ)
 exact bI
 exact rfl
 exact au
 exact au
 refine ah 0 ?_ ?_ ?_
 exact (Or.inl bQ)
 exact ao
 exact rfl
 exact au
 decide +kernel
 intro _; rfl
 refine ak ?_ ?_
 refine aU (i := 5) ?_ ?_ ?_ ?_ ?_ ?_
 exact nd
 exact (Or.inl jN)
 refine aF ?_ ?_ ?_
 refine gT ?_
 refine gR ?_
 refine fB ?_
 refine fB ?_
 refine fB ?_
 exact aj
 refine eY ?_ ?_
 refine aW (CX := bV P w) (k := eS) (f := (t.f 6)) (fd := (t.d 6)) (ps := ["_law_state_here"]) ?_ ?_ ?_ ?_ ?_ ?_ ?_ ?_ ?_ ?_
 exact bG
 exact hr.mono (by decide)
 exact T.iF
 exact T.gw.kp
 exact T.iE
 exact gf hx
 exact i0
 exact gF
 refine aA ?_ ?_ ?_
 refine ah 0 ?_ ?_ ?_
 exact (Or.inl bQ)
 exact ao
 exact rfl
 decide +kernel
 exact aj
 decide +kernel
 exact au
 decide +kernel
 exact Or.inl rfl
 exact rfl
 decide +kernel
 refine aB ?_
 refine jt ?_ ?_
 refine jl ?_ ?_ ?_ ?_ ?_
 refine ah 3 ?_ ?_ ?_
 exact (Or.inl fm)
 exact qe
 exact rfl
 refine aA ?_ ?_ ?_
 refine dN ?_
 refine aA ?_ ?_ ?_
 refine ah 5 ?_ ?_ ?_
 exact (Or.inl jN)
 exact qP
 exact rfl
 decide +kernel
 refine aA ?_ ?_ ?_
 refine aW (CX := bV P w) (k := yV) (f := (t.f 9)) (fd := (t.d 9)) (ps := ["_law_state_here", "_law_kinds", "_law_fuel"]) ?_ ?_ ?_ ?_ ?_ ?_ ?_ ?_ ?_ ?_
 exact dH
 exact hr.mono (by decide)
 exact T.bB
 exact T.iG.kp
 exact T.jL
 exact gf hx
 exact nH
 exact iW
 refine aA ?_ ?_ ?_
 refine ah 0 ?_ ?_ ?_
 exact (Or.inl bQ)
 exact ao
 exact rfl
 decide +kernel
 refine aA ?_ ?_ ?_
 refine ah 1 ?_ ?_ ?_
 exact (Or.inl mQ)
 exact cK
 exact rfl
 decide +kernel
 refine aA ?_ ?_ ?_
 refine eH ?_ ?_
 exact au
 refine eY ?_ ?_
 refine kX ?_ ?_
 refine ah 2 ?_ ?_ ?_
 exact (Or.inl cZ)
 exact bI
 exact rfl
 exact au
 exact au
 decide +kernel
 exact aj
 decide +kernel
 decide +kernel
 exact aj
 decide +kernel
 exact aj
 decide +kernel
 decide +kernel
 exact rfl
 decide +kernel
 decide +kernel
 refine aB ?_
 refine bD ?_
 refine ku ?_ ?_ ?_ ?_
 exact T.lE
 exact qT
 refine aA ?_ ?_ ?_
 refine ah 3 ?_ ?_ ?_
 exact (Or.inl fm)
 exact qe
 exact rfl
 decide +kernel
 exact aj
 decide +kernel
theorem o7 : cN p5 ["_law_look_here"] (aa aV) := ⟨rfl, rfl, rfl, by decide +kernel, rfl, by decide +kernel, by decide +kernel⟩
theorem wD {k : Nat} {dG : List D → M D} (hk : oJ ≤ k) (T : Txt K mg t) (bR : bC P w K mg base (bV P w) 1 (t.f 10) (t.d 10) ["_law_look_here"] (aZ K mg 1 (bO))) (fj : bC P w K mg base (bV P w) k (t.f 11) (t.d 11) ["_law_look_here"] (aZ K mg 1 (dG))) : bC P w K mg base (bV P w) (k + 1) (t.f 11) (t.d 11) ["_law_look_here"] (aZ K mg 1 (fun ds => jf (fun ds => cG 3 (gb dG) ds) ds)) := by
 refine bC.imp (sp := aZ K mg 1 (fun ds => cG 3 (gb dG) ds)) ?_ iO
 refine A3 (k := k) (ms := gb dG) T.lU o7 (by decide) (by decide) (fun _ => rfl) ?_
 intro X EE cdv A outer s H E hX hr hx sZ
 subst hX
 have hu := cV hr
 have nd := o7.nd
 have hfr : fV (jE (bV P w) P w K mg base p5 "_law_all_in" (aa aV) (t.f 11) cdv A outer s H E) := ⟨_, outer, s.heap.objs.size, rfl, rfl, rfl⟩
 refine ak ?_ ?_
 refine aU (i := 1) ?_ ?_ ?_ ?_ ?_ ?_
 exact nd
 exact (Or.inl dZ)
 refine gR ?_
 refine aA ?_ ?_ ?_
 refine ah 0 ?_ ?_ ?_
 exact (Or.inl fG)
 exact aJ
 exact rfl
 decide +kernel
 exact aj
 exact Or.inl rfl
 exact rfl
 decide +kernel
 refine ak ?_ ?_
 refine Bt ?_ ?_ ?_ ?_ ?_ ?_
 exact sZ
 exact rfl
 refine aW (CX := bV P w) (k := jw) (f := (t.f 10)) (fd := (t.d 10)) (ps := ["_law_look_here"]) ?_ ?_ ?_ ?_ ?_ ?_ ?_ ?_ ?_ ?_
 exact bR
 exact hr.mono (Nat.le_trans (show jw ≤ oJ by decide) hk)
 exact T.sy
 exact T.nB.kp
 exact T.su
 exact gf hx
 exact kR
 exact p8
 refine aA ?_ ?_ ?_
 refine ah 0 ?_ ?_ ?_
 exact (Or.inl fG)
 exact aJ
 exact rfl
 decide +kernel
 exact aj
 decide +kernel
 refine lg (i := 2) ?_ ?_ ?_ ?_
 exact nd
 exact (Or.inl fk)
 exact Or.inl rfl
 exact rfl
 refine aB ?_
 refine jt ?_ ?_
 refine yJ ?_ ?_ ?_ ?_ ?_
 refine ah 1 ?_ ?_ ?_
 exact (Or.inl dZ)
 exact gc
 exact rfl
 refine aA ?_ ?_ ?_
 refine aW (CX := bV P w) (k := k) (f := (t.f 11)) (fd := (t.d 11)) (ps := ["_law_look_here"]) ?_ ?_ ?_ ?_ ?_ ?_ ?_ ?_ ?_ ?_
 exact fj
 exact hr
 exact T.bq
 exact T.lU.kp
 exact T.p7
 exact gf hx
 exact kG
 exact oS
 refine aA ?_ ?_ ?_
 refine ah 2 ?_ ?_ ?_
 exact (Or.inl fk)
 exact ir
 exact rfl
 decide +kernel
 exact aj
 decide +kernel
 decide +kernel
 exact aj
 decide +kernel
 decide +kernel
 exact rfl
 decide +kernel
 decide +kernel
 refine aB ?_
 refine bD ?_
 refine vP ?_
 refine ah 1 ?_ ?_ ?_
 exact (Or.inl dZ)
 exact gc
 exact rfl
theorem nU (T : Txt K mg t) (bR : bC P w K mg base (bV P w) 1 (t.f 10) (t.d 10) ["_law_look_here"] (aZ K mg 1 (bO))) : ∀ n : Nat, bC P w K mg base (bV P w) (1 + n) (t.f 11) (t.d 11) ["_law_look_here"] (aZ K mg 1 (bq n))
  | 0 => by rw [show bq 0 = fun _ => M.stop from by funext ds; rw [bq]]; exact yP
  | n + 1 => by
    have fj := nU T bR n
    have qp := wD (Nat.le_add_right 1 n) T bR fj
    rw [show (fun ds => jf (fun ds => cG 3 (gb (bq n)) ds) ds) = bq (n + 1) from by funext ds; rw [bq]] at qp
    exact qp
theorem sY : cN lB ["_law_look_here", "_law_left"] (aa bf) := ⟨rfl, rfl, rfl, by decide +kernel, rfl, by decide +kernel, by decide +kernel⟩
theorem zp {k : Nat} {gu : List D → M D} (hk : se ≤ k) (T : Txt K mg t) (bR : bC P w K mg base (bV P w) 1 (t.f 10) (t.d 10) ["_law_look_here"] (aZ K mg 1 (bO))) (gA : bC P w K mg base (bV P w) k (t.f 13) (t.d 13) ["_law_look_here", "_law_left"] (aZ K mg 2 (gu))) : bC P w K mg base (bV P w) (k + 1) (t.f 13) (t.d 13) ["_law_look_here", "_law_left"] (aZ K mg 2 (fun ds => cG 3 (fF gu) ds)) := by
 refine A3 (k := k) (ms := fF gu) T.oO sY (by decide) (by decide) (fun _ => rfl) ?_
 intro X EE cdv A outer s H E hX hr hx sZ
 subst hX
 have hu := cV hr
 have nd := sY.nd
 have hfr : fV (jE (bV P w) P w K mg base lB "_law_free" (aa bf) (t.f 13) cdv A outer s H E) := ⟨_, outer, s.heap.objs.size, rfl, rfl, rfl⟩
 refine ak ?_ ?_
 refine ou ?_ ?_ ?_ ?_ ?_
 refine mX ?_ ?_
 refine aF ?_ ?_ ?_
 refine ah 1 ?_ ?_ ?_
 exact (Or.inr (Or.inl fO))
 exact iV
 exact rfl
 exact au
 decide +kernel
 exact au
 refine ah 1 ?_ ?_ ?_
 exact (Or.inr (Or.inl fO))
 exact iV
 exact rfl
 exact au
 decide +kernel
 intro _; rfl
 refine ak ?_ ?_
 refine g8 ?_ ?_ ?_
 refine cQ ?_ ?_ ?_ ?_
 exact (m5 hu)
 refine aF ?_ ?_ ?_
 refine ah 1 ?_ ?_ ?_
 exact (Or.inr (Or.inl fO))
 exact iV
 exact rfl
 exact au
 decide +kernel
 refine EL ?_
 exact au
 decide +kernel
 refine aB ?_
 refine bD ?_
 refine dN ?_
 refine fB ?_
 exact aj
 exact cO
 refine ak ?_ ?_
 refine FZ ?_
 refine H8 (i := 2) (xs := ["_law_inner_here"]) (ow := Dk) ?_ ?_ ?_ ?_ ?_ ?_ ?_ ?_ ?_ ?_ ?_ ?_ ?_
 exact hx
 exact hfr
 exact gH
 exact rQ gH
 exact pC
 exact rfl
 exact nd
 exact cY
 refine aW (CX := bV P w) (k := jw) (f := (t.f 10)) (fd := (t.d 10)) (ps := ["_law_look_here"]) ?_ ?_ ?_ ?_ ?_ ?_ ?_ ?_ ?_ ?_
 exact bR
 exact hr.mono (Nat.le_trans (show jw ≤ se by decide) hk)
 exact T.sy
 exact T.nB.kp
 exact T.su
 exact gf hx
 exact mO
 exact p8
 refine aA ?_ ?_ ?_
 refine ah 0 ?_ ?_ ?_
 exact (Or.inl aX)
 exact aJ
 exact rfl
 decide +kernel
 exact aj
 decide +kernel
 refine iz fun cl C pins s0 H0 fp E1 Li hx => ?_
 refine aW (CX := bV P w) (k := k) (f := (t.f 13)) (fd := (t.d 13)) (ps := ["_law_look_here", "_law_left"]) ?_ ?_ ?_ ?_ ?_ ?_ ?_ ?_ ?_ ?_
 exact gA
 exact hr
 exact T.aP
 exact T.oO.kp
 exact T.uC
 exact gf hx
 exact (vd j5)
 exact sE
 refine aA ?_ ?_ ?_
 refine ah 0 ?_ ?_ ?_
 exact (lQ gH (by simp))
 exact ir
 exact rfl
 decide +kernel
 refine aA ?_ ?_ ?_
 refine ah 2 ?_ ?_ ?_
 exact (pF gH j6)
 exact iV
 exact rfl
 decide +kernel
 exact aj
 decide +kernel
 refine xN ?_ ?_ ?_ ?_
 exact rfl
 exact cY
 exact rfl
 decide +kernel
 exact rfl
 decide +kernel
 refine ak ?_ ?_
 refine g8 ?_ ?_ ?_
 refine cQ ?_ ?_ ?_ ?_
 exact (m5 hu)
 refine aF ?_ ?_ ?_
 refine ah 0 ?_ ?_ ?_
 exact (Or.inl aX)
 exact aJ
 exact rfl
 exact au
 decide +kernel
 exact n6
 decide +kernel
 refine aB ?_
 refine bD ?_
 refine dN ?_
 refine fB ?_
 refine aA ?_ ?_ ?_
 refine ku ?_ ?_ ?_ ?_
 exact T.lE
 exact kH
 refine aA ?_ ?_ ?_
 refine gT ?_
 refine Ac (xs := ["_law_step", "_law_inner_here"]) (ow := Dl K 2) ?_ ?_ ?_ ?_ ?_ ?_ ?_ ?_ ?_
 exact hx
 exact hfr
 exact gJ
 exact rR rfl gJ
 exact rS
 exact rfl
 refine Cy ?_ ?_ ?_ ?_
 exact T.Jx
 exact tU
 refine aA ?_ ?_ ?_
 refine aF ?_ ?_ ?_
 refine ah 0 ?_ ?_ ?_
 exact (Or.inl aX)
 exact aJ
 exact rfl
 exact au
 decide +kernel
 decide +kernel
 refine aA ?_ ?_ ?_
 refine ah 2 ?_ ?_ ?_
 exact (Or.inl cY)
 exact sH
 exact rfl
 decide +kernel
 exact aj
 decide +kernel
 refine iz fun cl C pins s0 H0 fp E1 Li hx => ?_
 refine dN ?_
 refine aA ?_ ?_ ?_
 refine aF ?_ ?_ ?_
 refine ah 0 ?_ ?_ ?_
 exact (lQ gJ (by simp))
 exact sI
 exact rfl
 exact au
 decide +kernel
 decide +kernel
 refine aA ?_ ?_ ?_
 refine ah 1 ?_ ?_ ?_
 exact (lQ gJ (by simp))
 exact ir
 exact rfl
 decide +kernel
 exact aj
 decide +kernel
 decide +kernel
 exact aj
 decide +kernel
 decide +kernel
 exact aj
 exact cO
 refine ak ?_ ?_
 refine g8 ?_ ?_ ?_
 refine cQ ?_ ?_ ?_ ?_
 exact (yw hu)
 refine aF ?_ ?_ ?_
 refine ah 0 ?_ ?_ ?_
 exact (Or.inl aX)
 exact aJ
 exact rfl
 exact au
 decide +kernel
 refine dN ?_
 refine fB ?_
 refine fB ?_
 refine fB ?_
 exact aj
 decide +kernel
 refine aB ?_
 refine bD ?_
 refine eH ?_ ?_
 refine dN ?_
 refine aA ?_ ?_ ?_
 refine aF ?_ ?_ ?_
 refine ah 0 ?_ ?_ ?_
 exact (Or.inl aX)
 exact aJ
 exact rfl
 exact au
 decide +kernel
 decide +kernel
 exact aj
 refine ku ?_ ?_ ?_ ?_
 exact T.lE
 exact kH
 refine aA ?_ ?_ ?_
 refine ah 2 ?_ ?_ ?_
 exact (Or.inl cY)
 exact sH
 exact rfl
 decide +kernel
 exact aj
 decide +kernel
 exact cO
 refine aB ?_
 refine bD ?_
 refine ah 0 ?_ ?_ ?_
 exact (Or.inl aX)
 exact aJ
 exact rfl
theorem qu (T : Txt K mg t) (bR : bC P w K mg base (bV P w) 1 (t.f 10) (t.d 10) ["_law_look_here"] (aZ K mg 1 (bO))) : ∀ n : Nat, bC P w K mg base (bV P w) (1 + n) (t.f 13) (t.d 13) ["_law_look_here", "_law_left"] (aZ K mg 2 (aP n))
  | 0 => by rw [show aP 0 = fun _ => M.stop from by funext ds; rw [aP]]; exact yP
  | n + 1 => by
    have gA := qu T bR n
    have uG := zp (Nat.le_add_right 1 n) T bR gA
    rw [show (fun ds => cG 3 (fF (aP n)) ds) = aP (n + 1) from by funext ds; rw [aP]] at uG
    exact uG
theorem qv : cN sf ["_law_way"] (aa bx) := ⟨rfl, rfl, rfl, by decide +kernel, rfl, by decide +kernel, by decide +kernel⟩
theorem xj (T : Txt K mg t) (fj : bC P w K mg base (bV P w) 61 (t.f 11) (t.d 11) ["_law_look_here"] (aZ K mg 1 lT)) : bC P w K mg base (bV P w) 62 (t.f 12) (t.d 12) ["_law_way"] (aZ K mg 1 eV) := by
 refine bC.imp (sp := aZ K mg 1 (fun ds => cG 4 j3 ds)) ?_ iO
 refine A3 (k := 61) (ms := j3) T.nE qv (by decide) (by decide) (fun _ => rfl) ?_
 intro X EE cdv A outer s H E hX hr hx sZ
 subst hX
 have hu := cV hr
 have nd := qv.nd
 have hfr : fV (jE (bV P w) P w K mg base sf "_law_looks" (aa bx) (t.f 12) cdv A outer s H E) := ⟨_, outer, s.heap.objs.size, rfl, rfl, rfl⟩
 refine ak ?_ ?_
 refine aU (i := 1) ?_ ?_ ?_ ?_ ?_ ?_
 exact nd
 exact (Or.inl fh)
 refine gR ?_
 exact aj
 exact Or.inl rfl
 exact rfl
 decide +kernel
 refine ak ?_ ?_
 refine Bt ?_ ?_ ?_ ?_ ?_ ?_
 exact sZ
 exact rfl
 refine ah 0 ?_ ?_ ?_
 exact (Or.inl nJ)
 exact cM
 exact rfl
 refine Ic (i := 2) (j := 3) ?_ ?_ ?_ ?_ ?_ ?_ ?_ ?_
 exact rfl
 exact nd
 exact (Or.inl nX)
 exact (Or.inl fY)
 exact Or.inl rfl
 exact Or.inl rfl
 exact rfl
 exact rfl
 refine aB ?_
 refine jt ?_ ?_
 refine yJ ?_ ?_ ?_ ?_ ?_
 refine ah 1 ?_ ?_ ?_
 exact (Or.inl fh)
 exact gc
 exact rfl
 refine aA ?_ ?_ ?_
 refine aW (CX := bV P w) (k := wc) (f := (t.f 11)) (fd := (t.d 11)) (ps := ["_law_look_here"]) ?_ ?_ ?_ ?_ ?_ ?_ ?_ ?_ ?_ ?_
 exact fj
 exact hr.mono (by decide)
 exact T.bq
 exact T.lU.kp
 exact T.p7
 exact gf hx
 exact kT
 exact oS
 refine aA ?_ ?_ ?_
 refine ah 3 ?_ ?_ ?_
 exact (Or.inl fY)
 exact aJ
 exact rfl
 decide +kernel
 exact aj
 decide +kernel
 decide +kernel
 exact aj
 decide +kernel
 decide +kernel
 exact rfl
 decide +kernel
 decide +kernel
 refine aB ?_
 refine bD ?_
 refine vP ?_
 refine ah 1 ?_ ?_ ?_
 exact (Or.inl fh)
 exact gc
 exact rfl
theorem uH : cN qO ["_law_way", "_law_number"] (aa bT) := ⟨rfl, rfl, rfl, by decide +kernel, rfl, by decide +kernel, by decide +kernel⟩
theorem AK (T : Txt K mg t) (gA : bC P w K mg base (bV P w) 61 (t.f 13) (t.d 13) ["_law_look_here", "_law_left"] (aZ K mg 2 lC)) : bC P w K mg base (bV P w) 62 (t.f 14) (t.d 14) ["_law_way", "_law_number"] (aZ K mg 2 kD) := by
 refine bC.imp (sp := aZ K mg 2 (fun ds => cG 3 kC ds)) ?_ iO
 refine A3 (k := 61) (ms := kC) T.wg uH (by decide) (by decide) (fun _ => rfl) ?_
 intro X EE cdv A outer s H E hX hr hx sZ
 subst hX
 have hu := cV hr
 have nd := uH.nd
 have hfr : fV (jE (bV P w) P w K mg base qO "_law_let" (aa bT) (t.f 14) cdv A outer s H E) := ⟨_, outer, s.heap.objs.size, rfl, rfl, rfl⟩
 refine ak ?_ ?_
 refine aU (i := 2) ?_ ?_ ?_ ?_ ?_ ?_
 exact nd
 exact (Or.inr nW)
 refine gR ?_
 refine aA ?_ ?_ ?_
 refine ah 1 ?_ ?_ ?_
 exact (Or.inl mP)
 exact dU
 exact rfl
 decide +kernel
 exact aj
 exact Or.inl rfl
 exact rfl
 decide +kernel
 refine aB ?_
 refine bD ?_
 refine ku ?_ ?_ ?_ ?_
 exact T.lE
 exact sM
 refine aA ?_ ?_ ?_
 refine vP ?_
 refine vc (xs := ["_law_go", "_law_look_here"]) (ow := Dl K 2) ?_ ?_ ?_ ?_ ?_ ?_ ?_ ?_ ?_
 exact hx
 exact hfr
 exact fX
 exact rR rfl fX
 exact rS
 exact rfl
 refine ah 0 ?_ ?_ ?_
 exact (Or.inl oV)
 exact cM
 exact rfl
 refine iz fun cl C pins s0 H0 fp E1 Li hx => ?_
 refine dN ?_
 refine aA ?_ ?_ ?_
 refine ah 0 ?_ ?_ ?_
 exact (lQ fX (by simp))
 exact qP
 exact rfl
 decide +kernel
 refine aA ?_ ?_ ?_
 refine aW (CX := bV P w) (k := yW) (f := (t.f 13)) (fd := (t.d 13)) (ps := ["_law_look_here", "_law_left"]) ?_ ?_ ?_ ?_ ?_ ?_ ?_ ?_ ?_ ?_
 exact gA
 exact hr.mono (by decide)
 exact T.aP
 exact T.oO.kp
 exact T.uC
 exact gf hx
 exact (vd kJ)
 exact sE
 refine aA ?_ ?_ ?_
 refine ah 1 ?_ ?_ ?_
 exact (lQ fX (by simp))
 exact aJ
 exact rfl
 decide +kernel
 refine aA ?_ ?_ ?_
 refine ah 4 ?_ ?_ ?_
 exact (pF fX kK)
 exact iV
 exact rfl
 decide +kernel
 exact aj
 decide +kernel
 decide +kernel
 exact aj
 decide +kernel
 decide +kernel
 exact aj
 decide +kernel
theorem Gj : oA Nl ["_law_script"] [] (aa bZ) := ⟨rfl, rfl, rfl, by decide +kernel, rfl, by decide +kernel, by decide +kernel, by decide +kernel, by decide +kernel⟩
theorem Lj (T : Txt K mg t) (iw : bC P w K mg base (bV P w) 3 (t.f 4) (t.d 4) ["way"] (aZ K mg 1 dS)) (wF : bC P w K mg base (bV P w) 4 (t.f 5) (t.d 5) ["way", "number"] (aZ K mg 2 oG)) (bG : bC P w K mg base (bV P w) 1 (t.f 6) (t.d 6) ["_law_state_here"] (aZ K mg 1 aO)) (o8 : bC P w K mg base (bV P w) 1 (t.f 8) (t.d 8) ["_law_cell", "_law_many"] (aZ K mg 2 iB)) (kg : bC P w K mg base (bV P w) 62 (t.f 12) (t.d 12) ["_law_way"] (aZ K mg 1 eV)) (rq : bC P w K mg base (bV P w) 62 (t.f 14) (t.d 14) ["_law_way", "_law_number"] (aZ K mg 2 kD)) (lK : bC P w K mg base (bV P w) 32 (t.f 15) (t.d 15) ["_law_state_here", "_law_kinds"] (aZ K mg 2 fE)) (kN : bC P w K mg base (bV P w) 1 (t.f 7) (t.d 7) ["_law_script"] (aZ K mg 1 dR)) (nN : bC P w K mg base (bV P w) 3 (t.f 4) (t.d 4) ["way"] (aZ K mg 1 gE)) : rE P w K mg base (bV P w) 63 (t.f 16) (t.d 16) ["_law_script"] (aZ K mg 1 CD) := by
 refine rE.imp (sp := aZ K mg 1 (fun ds G => pY (cG 11 xV ds G))) ?_ iO
 refine Ni (k := 62) (ms := xV) T.Nm Gj (by decide) (by decide) (by decide) (fun _ _ => rfl) ?_
 intro X EE c A outer s H E hX hr hx sZ
 subst hX
 have hu := cV hr
 have nd := Gj.nd
 refine ak ?_ ?_
 refine aU (i := 1) ?_ ?_ ?_ ?_ ?_ ?_
 exact nd
 exact (Or.inl bJ)
 refine aW (CX := bV P w) (k := uO) (f := (t.f 7)) (fd := (t.d 7)) (ps := ["_law_script"]) ?_ ?_ ?_ ?_ ?_ ?_ ?_ ?_ ?_ ?_
 exact kN
 exact hr.mono (by decide)
 exact T.yY
 exact T.sr.kp
 exact T.yX
 exact gf hx
 exact sR
 exact wW
 refine aA ?_ ?_ ?_
 refine ah 0 ?_ ?_ ?_
 exact (Or.inl qY)
 exact gx
 exact rfl
 decide +kernel
 exact aj
 decide +kernel
 exact Or.inr bJ
 exact rfl
 decide +kernel
 refine ak ?_ ?_
 refine aU (i := 2) ?_ ?_ ?_ ?_ ?_ ?_
 exact nd
 exact (Or.inl gh)
 refine aW (CX := bV P w) (k := yU) (f := (t.f 8)) (fd := (t.d 8)) (ps := ["_law_cell", "_law_many"]) ?_ ?_ ?_ ?_ ?_ ?_ ?_ ?_ ?_ ?_
 exact o8
 exact hr.mono (by decide)
 exact T.AB
 exact T.uB.kp
 exact T.AA
 exact gf hx
 exact tY
 exact zb
 refine aA ?_ ?_ ?_
 refine aW (CX := bV P w) (k := eS) (f := (t.f 6)) (fd := (t.d 6)) (ps := ["_law_state_here"]) ?_ ?_ ?_ ?_ ?_ ?_ ?_ ?_ ?_ ?_
 exact bG
 exact hr.mono (by decide)
 exact T.iF
 exact T.gw.kp
 exact T.iE
 exact gf hx
 exact mS
 exact gF
 refine aA ?_ ?_ ?_
 refine ah 1 ?_ ?_ ?_
 exact (Or.inl bJ)
 exact ao
 exact rfl
 decide +kernel
 exact aj
 decide +kernel
 decide +kernel
 refine Ia ?_
 exact aj
 decide +kernel
 exact Or.inr gh
 exact rfl
 decide +kernel
 refine ak ?_ ?_
 refine aU (i := 3) ?_ ?_ ?_ ?_ ?_ ?_
 exact nd
 exact (Or.inl cS)
 refine aW (CX := bV P w) (k := sd) (f := (t.f 15)) (fd := (t.d 15)) (ps := ["_law_state_here", "_law_kinds"]) ?_ ?_ ?_ ?_ ?_ ?_ ?_ ?_ ?_ ?_
 exact lK
 exact hr.mono (by decide)
 exact T.uE
 exact T.oQ.kp
 exact T.uD
 exact gf hx
 exact mR
 exact sF
 refine aA ?_ ?_ ?_
 refine ah 1 ?_ ?_ ?_
 exact (Or.inl bJ)
 exact ao
 exact rfl
 decide +kernel
 refine aA ?_ ?_ ?_
 refine ah 2 ?_ ?_ ?_
 exact (Or.inl gh)
 exact cK
 exact rfl
 decide +kernel
 exact aj
 decide +kernel
 exact Or.inr cS
 exact rfl
 decide +kernel
 refine ak ?_ ?_
 refine aU (i := 4) ?_ ?_ ?_ ?_ ?_ ?_
 exact nd
 exact (Or.inl gi)
 refine aW (CX := bV P w) (k := sd) (f := (t.f 15)) (fd := (t.d 15)) (ps := ["_law_state_here", "_law_kinds"]) ?_ ?_ ?_ ?_ ?_ ?_ ?_ ?_ ?_ ?_
 exact lK
 exact hr.mono (by decide)
 exact T.uE
 exact T.oQ.kp
 exact T.uD
 exact gf hx
 exact mR
 exact sF
 refine aA ?_ ?_ ?_
 refine ah 1 ?_ ?_ ?_
 exact (Or.inl bJ)
 exact ao
 exact rfl
 decide +kernel
 refine aA ?_ ?_ ?_
 refine ah 2 ?_ ?_ ?_
 exact (Or.inl gh)
 exact cK
 exact rfl
 decide +kernel
 exact aj
 decide +kernel
 exact Or.inr gi
 exact rfl
 decide +kernel
 refine ak ?_ ?_
 refine aU (i := 5) ?_ ?_ ?_ ?_ ?_ ?_
 exact nd
 exact (Or.inl cR)
 refine aW (CX := bV P w) (k := p6) (f := (t.f 12)) (fd := (t.d 12)) (ps := ["_law_way"]) ?_ ?_ ?_ ?_ ?_ ?_ ?_ ?_ ?_ ?_
 exact kg
 exact hr.mono (by decide)
 exact T.sC
 exact T.nE.kp
 exact T.sA
 exact gf hx
 exact lH
 exact p9
 refine aA ?_ ?_ ?_
 refine ah 3 ?_ ?_ ?_
 exact (Or.inl cS)
 exact cM
 exact rfl
 decide +kernel
 exact aj
 decide +kernel
 exact Or.inr cR
 exact rfl
 decide +kernel
 refine ak ?_ ?_
 refine aU (i := 6) ?_ ?_ ?_ ?_ ?_ ?_
 exact nd
 exact (Or.inl fy)
 refine aW (CX := bV P w) (k := wU) (f := (t.f 4)) (fd := (t.d 4)) (ps := ["way"]) ?_ ?_ ?_ ?_ ?_ ?_ ?_ ?_ ?_ ?_
 exact nN
 exact hr.mono (by decide)
 exact T.nA
 exact T.jo.kp
 exact T.ny
 exact gf hx
 exact jT
 exact lG
 refine aA ?_ ?_ ?_
 refine ah 3 ?_ ?_ ?_
 exact (Or.inl cS)
 exact cM
 exact rfl
 decide +kernel
 exact aj
 decide +kernel
 exact Or.inr fy
 exact rfl
 decide +kernel
 refine ak ?_ ?_
 refine g8 ?_ ?_ ?_
 refine HG ?_
 refine EJ ?_ ?_
 refine EK ?_
 refine E7 ?_ ?_
 refine E8 .lst ?_ ?_ ?_ ?_ ?_ ?_ ?_ ?_ ?_ ?_
 decide
 exact T.sD
 exact T.yZ
 exact lI
 exact AG
 refine ah 6 ?_ ?_ ?_
 exact (Or.inl fy)
 exact nG
 exact rfl
 exact IG
 exact II
 exact ID.1
 decide +kernel
 decide +kernel
 refine Bm ?_
 refine cQ ?_ ?_ ?_ ?_
 exact (Bl hu)
 refine ah 6 ?_ ?_ ?_
 exact (Or.inl fy)
 exact nG
 exact rfl
 refine ah 5 ?_ ?_ ?_
 exact (Or.inl cR)
 exact jM
 exact rfl
 decide +kernel
 refine aB ?_
 refine bD ?_
 exact EB
 exact cO
 refine ak ?_ ?_
 refine jt ?_ ?_
 refine jl ?_ ?_ ?_ ?_ ?_
 refine ah 6 ?_ ?_ ?_
 exact (Or.inl fy)
 exact nG
 exact rfl
 refine aA ?_ ?_ ?_
 refine dN ?_
 refine fB ?_
 exact aj
 decide +kernel
 exact aj
 decide +kernel
 decide +kernel
 exact rfl
 decide +kernel
 refine ak ?_ ?_
 refine g8 ?_ ?_ ?_
 refine cQ ?_ ?_ ?_ ?_
 exact (Bl hu)
 refine aW (CX := bV P w) (k := oF) (f := (t.f 4)) (fd := (t.d 4)) (ps := ["way"]) ?_ ?_ ?_ ?_ ?_ ?_ ?_ ?_ ?_ ?_
 exact iw
 exact hr.mono (by decide)
 exact T.nA
 exact T.jo.kp
 exact T.ny
 exact gf hx
 exact jT
 exact lG
 refine aA ?_ ?_ ?_
 refine ah 4 ?_ ?_ ?_
 exact (Or.inl gi)
 exact qc
 exact rfl
 decide +kernel
 exact aj
 decide +kernel
 refine aW (CX := bV P w) (k := p6) (f := (t.f 12)) (fd := (t.d 12)) (ps := ["_law_way"]) ?_ ?_ ?_ ?_ ?_ ?_ ?_ ?_ ?_ ?_
 exact kg
 exact hr.mono (by decide)
 exact T.sC
 exact T.nE.kp
 exact T.sA
 exact gf hx
 exact lH
 exact p9
 refine aA ?_ ?_ ?_
 refine ah 4 ?_ ?_ ?_
 exact (Or.inl gi)
 exact qc
 exact rfl
 decide +kernel
 exact aj
 decide +kernel
 decide +kernel
 refine aB ?_
 refine bD ?_
 exact EB
 exact cO
 refine ak ?_ ?_
 refine aU (i := 7) ?_ ?_ ?_ ?_ ?_ ?_
 exact nd
 exact (Or.inl ja)
 refine eY ?_ ?_
 refine aW (CX := bV P w) (k := eS) (f := (t.f 6)) (fd := (t.d 6)) (ps := ["_law_state_here"]) ?_ ?_ ?_ ?_ ?_ ?_ ?_ ?_ ?_ ?_
 exact bG
 exact hr.mono (by decide)
 exact T.iF
 exact T.gw.kp
 exact T.iE
 exact gf hx
 exact mS
 exact gF
 refine aA ?_ ?_ ?_
 refine ah 1 ?_ ?_ ?_
 exact (Or.inl bJ)
 exact ao
 exact rfl
 decide +kernel
 exact aj
 decide +kernel
 refine kr ?_ ?_ ?_ ?_
 exact T.oR
 exact qZ
 refine aA ?_ ?_ ?_
 refine ah 5 ?_ ?_ ?_
 exact (Or.inl cR)
 exact jM
 exact rfl
 decide +kernel
 exact aj
 decide +kernel
 exact Or.inr ja
 exact rfl
 decide +kernel
 refine ak ?_ ?_
 refine oz ?_ ?_ ?_ ?_ ?_ ?_ ?_ ?_
 exact sZ
 exact rfl
 exact T.pK
 exact zg
 refine aA ?_ ?_ ?_
 refine HZ ?_ ?_ ?_ ?_ ?_
 exact rfl
 exact T.Np
 exact BK
 refine Ia ?_
 refine aA ?_ ?_ ?_
 refine kr ?_ ?_ ?_ ?_
 exact T.oR
 exact qZ
 refine aA ?_ ?_ ?_
 refine ah 5 ?_ ?_ ?_
 exact (Or.inl cR)
 exact jM
 exact rfl
 decide +kernel
 exact aj
 decide +kernel
 decide +kernel
 exact aj
 decide +kernel
 decide +kernel
 exact aj
 refine lg (i := 8) ?_ ?_ ?_ ?_
 exact nd
 exact (Or.inl lZ)
 exact Or.inr lZ
 exact rfl
 refine ak ?_ ?_
 refine aU (i := 9) ?_ ?_ ?_ ?_ ?_ ?_
 exact nd
 exact (Or.inl fT)
 refine eY ?_ ?_
 refine eH ?_ ?_
 refine ah 7 ?_ ?_ ?_
 exact (Or.inl ja)
 exact wV
 exact rfl
 refine ah 8 ?_ ?_ ?_
 exact (Or.inl lZ)
 exact xX
 exact rfl
 refine kr ?_ ?_ ?_ ?_
 exact T.oR
 exact qZ
 refine aA ?_ ?_ ?_
 refine ah 5 ?_ ?_ ?_
 exact (Or.inl cR)
 exact jM
 exact rfl
 decide +kernel
 exact aj
 decide +kernel
 exact Or.inr fT
 exact rfl
 decide +kernel
 refine ak ?_ ?_
 refine aU (i := 10) ?_ ?_ ?_ ?_ ?_ ?_
 exact nd
 exact (Or.inl gg)
 refine aW (CX := bV P w) (k := DK) (f := (t.f 5)) (fd := (t.d 5)) (ps := ["way", "number"]) ?_ ?_ ?_ ?_ ?_ ?_ ?_ ?_ ?_ ?_
 exact wF
 exact hr.mono (by decide)
 exact T.oM
 exact T.oK.kp
 exact T.Gd
 exact gf hx
 exact wZ
 exact DP
 refine aA ?_ ?_ ?_
 refine ah 3 ?_ ?_ ?_
 exact (Or.inl cS)
 exact cM
 exact rfl
 decide +kernel
 refine aA ?_ ?_ ?_
 refine ah 9 ?_ ?_ ?_
 exact (Or.inl fT)
 exact dU
 exact rfl
 decide +kernel
 exact aj
 decide +kernel
 exact Or.inr gg
 exact rfl
 decide +kernel
 refine aB ?_
 refine g8 ?_ ?_ ?_
 refine HG ?_
 refine EJ ?_ ?_
 refine EK ?_
 refine E7 ?_ ?_
 refine E8 .tup ?_ ?_ ?_ ?_ ?_ ?_ ?_ ?_ ?_ ?_
 decide
 exact T.sD
 exact T.lE
 exact lI
 exact zh
 refine ah 10 ?_ ?_ ?_
 exact (Or.inl gg)
 exact gc
 exact rfl
 exact Gh
 exact Gi
 exact Gg.1
 decide +kernel
 decide +kernel
 refine Bm ?_
 refine cQ ?_ ?_ ?_ ?_
 exact (Bl hu)
 refine ah 10 ?_ ?_ ?_
 exact (Or.inl gg)
 exact gc
 exact rfl
 refine aW (CX := bV P w) (k := Aw) (f := (t.f 14)) (fd := (t.d 14)) (ps := ["_law_way", "_law_number"]) ?_ ?_ ?_ ?_ ?_ ?_ ?_ ?_ ?_ ?_
 exact rq
 exact hr.mono (by decide)
 exact T.BJ
 exact T.wg.kp
 exact T.BI
 exact gf hx
 exact uS
 exact AD
 refine aA ?_ ?_ ?_
 refine ah 3 ?_ ?_ ?_
 exact (Or.inl cS)
 exact cM
 exact rfl
 decide +kernel
 refine aA ?_ ?_ ?_
 refine ah 9 ?_ ?_ ?_
 exact (Or.inl fT)
 exact dU
 exact rfl
 decide +kernel
 exact aj
 decide +kernel
 decide +kernel
 refine aB ?_
 refine bD ?_
 exact EB
 exact cO
 decide +kernel
 refine aB ?_
 refine bD ?_
 refine MB ?_ ?_ ?_
 exact hu
 refine aW (CX := bV P w) (k := oF) (f := (t.f 4)) (fd := (t.d 4)) (ps := ["way"]) ?_ ?_ ?_ ?_ ?_ ?_ ?_ ?_ ?_ ?_
 exact iw
 exact hr.mono (by decide)
 exact T.nA
 exact T.jo.kp
 exact T.ny
 exact gf hx
 exact jT
 exact lG
 refine aA ?_ ?_ ?_
 refine ah 3 ?_ ?_ ?_
 exact (Or.inl cS)
 exact cM
 exact rfl
 decide +kernel
 exact aj
 decide +kernel
 refine ah 5 ?_ ?_ ?_
 exact (Or.inl cR)
 exact jM
 exact rfl
end
theorem Ll {K : PySem.W.Frag} {h : Heap} {mg : Str → Option Value} (X : K.In h) (G : h.Ns mainGlobals mg) {f0 : Addr} {U7 Qn : Option Addr} {U8 : Array (Option Value)} {U9 Qo Qp Qq OE Qs : Value} (a0 : PySem.W.nsIn K mainGlobals "look_parts" = some (some (.ref f0))) (l0 : K.lookup f0 = some ⟨U9, U7, .func (PySem.W.fnOf "look_parts" "look_parts" (aE bg) (az bg) (aa bg) .none Qo Qp Qq Qn OE Qs), U8⟩) (c0 : PySem.W.codeIn K OE "look_parts" = true) (k0 : PySem.W.keepIn K (.ref f0) = true) {f1 : Addr} {Va R5 : Option Addr} {Vb : Array (Option Value)} {Vc R6 R7 R8 Qt R9 : Value} (a1 : PySem.W.nsIn K mainGlobals "look_with" = some (some (.ref f1))) (l1 : K.lookup f1 = some ⟨Vc, Va, .func (PySem.W.fnOf "look_with" "look_with" (aE bA) (az bA) (aa bA) .none R6 R7 R8 R5 Qt R9), Vb⟩) (c1 : PySem.W.codeIn K Qt "look_with" = true) (k1 : PySem.W.keepIn K (.ref f1) = true) {f2 : Addr} {Vd Sa : Option Addr} {sl2 : Array (Option Value)} {Ve Sb Sd Se Qu Sf : Value} (a2 : PySem.W.nsIn K mainGlobals "all_within" = some (some (.ref f2))) (l2 : K.lookup f2 = some ⟨Ve, Vd, .func (PySem.W.fnOf "all_within" "all_within" (aE aR) (az aR) (aa aR) .none Sb Sd Se Sa Qu Sf), sl2⟩) (c2 : PySem.W.codeIn K Qu "all_within" = true) (k2 : PySem.W.keepIn K (.ref f2) = true) {f3 : Addr} {Vf Sg : Option Addr} {Vg : Array (Option Value)} {Vh Sh Si Sj Qv Sk : Value} (a3 : PySem.W.nsIn K mainGlobals "folded" = some (some (.ref f3))) (l3 : K.lookup f3 = some ⟨Vh, Vf, .func (PySem.W.fnOf "folded" "folded" (aE bL) (az bL) (aa bL) .none Sh Si Sj Sg Qv Sk), Vg⟩) (c3 : PySem.W.codeIn K Qv "folded" = true) (k3 : PySem.W.keepIn K (.ref f3) = true) {f4 : Addr} {Vi Sl : Option Addr} {Vj : Array (Option Value)} {Vk Sm Sn So Qw Sq : Value} (a4 : PySem.W.nsIn K mainGlobals "looks_in" = some (some (.ref f4))) (l4 : K.lookup f4 = some ⟨Vk, Vi, .func (PySem.W.fnOf "looks_in" "looks_in" (aE cu) (az cu) (aa cu) .none Sm Sn So Sl Qw Sq), Vj⟩) (c4 : PySem.W.codeIn K Qw "looks_in" = true) (k4 : PySem.W.keepIn K (.ref f4) = true) {f5 : Addr} {Vl Ss : Option Addr} {Vm : Array (Option Value)} {Vn Su Sv Sw Qx Sx : Value} (a5 : PySem.W.nsIn K mainGlobals "let_go" = some (some (.ref f5))) (l5 : K.lookup f5 = some ⟨Vn, Vl, .func (PySem.W.fnOf "let_go" "let_go" (aE bE) (az bE) (aa bE) .none Su Sv Sw Ss Qx Sx), Vm⟩) (c5 : PySem.W.codeIn K Qx "let_go" = true) (k5 : PySem.W.keepIn K (.ref f5) = true) {f6 : Addr} {Vo Sy : Option Addr} {Vp : Array (Option Value)} {Vq Sz SA SD Qy SE : Value} (a6 : PySem.W.nsIn K mainGlobals "_law_next" = some (some (.ref f6))) (l6 : K.lookup f6 = some ⟨Vq, Vo, .func (PySem.W.fnOf "_law_next" "_law_next" (aE bF) (az bF) (aa bF) .none Sz SA SD Sy Qy SE), Vp⟩) (c6 : PySem.W.codeIn K Qy "_law_next" = true) (k6 : PySem.W.keepIn K (.ref f6) = true) {f7 : Addr} {Vr SG : Option Addr} {Vs : Array (Option Value)} {Vt SH SI SJ Qz SK : Value} (a7 : PySem.W.nsIn K mainGlobals "_law_state" = some (some (.ref f7))) (l7 : K.lookup f7 = some ⟨Vt, Vr, .func (PySem.W.fnOf "_law_state" "_law_state" (aE bh) (az bh) (aa bh) .none SH SI SJ SG Qz SK), Vs⟩) (c7 : PySem.W.codeIn K Qz "_law_state" = true) (k7 : PySem.W.keepIn K (.ref f7) = true) {f8 : Addr} {Vu SM : Option Addr} {Vv : Array (Option Value)} {Vw SN SO SQ QB SR : Value} (a8 : PySem.W.nsIn K mainGlobals "_law_pool" = some (some (.ref f8))) (l8 : K.lookup f8 = some ⟨Vw, Vu, .func (PySem.W.fnOf "_law_pool" "_law_pool" (aE aS) (az aS) (aa aS) .none SN SO SQ SM QB SR), Vv⟩) (c8 : PySem.W.codeIn K QB "_law_pool" = true) (k8 : PySem.W.keepIn K (.ref f8) = true) {f9 : Addr} {Vx SS : Option Addr} {Vy : Array (Option Value)} {Vz SV SW SX QC SY : Value} (a9 : PySem.W.nsIn K mainGlobals "_law_look" = some (some (.ref f9))) (l9 : K.lookup f9 = some ⟨Vz, Vx, .func (PySem.W.fnOf "_law_look" "_law_look" (aE aD) (az aD) (aa aD) .none SV SW SX SS QC SY), Vy⟩) (c9 : PySem.W.codeIn K QC "_law_look" = true) (k9 : PySem.W.keepIn K (.ref f9) = true) {OF : Addr} {QD Nt : Option Addr} {QF : Array (Option Value)} {QH Nu Nv Nx Lm Ny : Value} (IJ : PySem.W.nsIn K mainGlobals "_law_inner" = some (some (.ref OF))) (VA : K.lookup OF = some ⟨QH, QD, .func (PySem.W.fnOf "_law_inner" "_law_inner" (aE bH) (az bH) (aa bH) .none Nu Nv Nx Nt Lm Ny), QF⟩) (IK : PySem.W.codeIn K Lm "_law_inner" = true) (VB : PySem.W.keepIn K (.ref OF) = true) {OG : Addr} {QJ Nz : Option Addr} {QK : Array (Option Value)} {QL NB NC ND Ln NF : Value} (VC : PySem.W.nsIn K mainGlobals "_law_all_in" = some (some (.ref OG))) (VD : K.lookup OG = some ⟨QL, QJ, .func (PySem.W.fnOf "_law_all_in" "_law_all_in" (aE aV) (az aV) (aa aV) .none NB NC ND Nz Ln NF), QK⟩) (VE : PySem.W.codeIn K Ln "_law_all_in" = true) (VF : PySem.W.keepIn K (.ref OG) = true) {HU : Addr} {QM NG : Option Addr} {QN : Array (Option Value)} {QU NH NI NJ Lo NK : Value} (VG : PySem.W.nsIn K mainGlobals "_law_looks" = some (some (.ref HU))) (VH : K.lookup HU = some ⟨QU, QM, .func (PySem.W.fnOf "_law_looks" "_law_looks" (aE bx) (az bx) (aa bx) .none NH NI NJ NG Lo NK), QN⟩) (c12 : PySem.W.codeIn K Lo "_law_looks" = true) (VI : PySem.W.keepIn K (.ref HU) = true) {OH : Addr} {QV NL : Option Addr} {QX : Array (Option Value)} {QY NN NO NP Lp NQ : Value} (VJ : PySem.W.nsIn K mainGlobals "_law_free" = some (some (.ref OH))) (VL : K.lookup OH = some ⟨QY, QV, .func (PySem.W.fnOf "_law_free" "_law_free" (aE bf) (az bf) (aa bf) .none NN NO NP NL Lp NQ), QX⟩) (VM : PySem.W.codeIn K Lp "_law_free" = true) (VN : PySem.W.keepIn K (.ref OH) = true) {OI : Addr} {QZ NR : Option Addr} {Q0 : Array (Option Value)} {Q2 NS NT NU Lq NV : Value} (VO : PySem.W.nsIn K mainGlobals "_law_let" = some (some (.ref OI))) (VP : K.lookup OI = some ⟨Q2, QZ, .func (PySem.W.fnOf "_law_let" "_law_let" (aE bT) (az bT) (aa bT) .none NS NT NU NR Lq NV), Q0⟩) (VQ : PySem.W.codeIn K Lq "_law_let" = true) (VR : PySem.W.keepIn K (.ref OI) = true) {OJ : Addr} {Q3 NW : Option Addr} {Q4 : Array (Option Value)} {Q5 NX NY NZ Lr N1 : Value} (VS : PySem.W.nsIn K mainGlobals "_law_long" = some (some (.ref OJ))) (VT : K.lookup OJ = some ⟨Q5, Q3, .func (PySem.W.fnOf "_law_long" "_law_long" (aE aT) (az aT) (aa aT) .none NX NY NZ NW Lr N1), Q4⟩) (VU : PySem.W.codeIn K Lr "_law_long" = true) (VV : PySem.W.keepIn K (.ref OJ) = true) {OL : Addr} {Q6 N2 : Option Addr} {Q7 : Array (Option Value)} {Q8 N3 N4 N5 Ls N6 : Value} (VW : PySem.W.nsIn K mainGlobals "law" = some (some (.ref OL))) (VX : K.lookup OL = some ⟨Q8, Q6, .func (PySem.W.fnOf "law" "law" (aE bZ) (az bZ) (aa bZ) .none N3 N4 N5 N2 Ls N6), Q7⟩) (VY : PySem.W.codeIn K Ls "law" = true) (VZ : PySem.W.keepIn K (.ref OL) = true) (z0 : PySem.W.nsIn K mainGlobals "abs" = some none) (z1 : PySem.W.nsIn K mainGlobals "isinstance" = some none) (z2 : PySem.W.nsIn K mainGlobals "len" = some none) (z3 : PySem.W.nsIn K mainGlobals "list" = some none) (z4 : PySem.W.nsIn K mainGlobals "min" = some none) (z5 : PySem.W.nsIn K mainGlobals "range" = some none) (z6 : PySem.W.nsIn K mainGlobals "reversed" = some none) (z7 : PySem.W.nsIn K mainGlobals "tuple" = some none) (z8 : PySem.W.nsIn K mainGlobals "zip" = some none) {wK : Addr} {Q9 : Array Value} {Tc : Nat} {Ad : Array (Option Value)} (g0 : PySem.W.nsIn K mainGlobals "ANY" = some (some (.ref wK))) (V0 : K.lookup wK = some ⟨.type "tuple", none, .seq Q9 Tc, Ad⟩) (Td : Vals [V.str "any"] Q9.toList) : ∃ t, Txt K mg t ∧ ∃ kV dc pm an cd ct, (t.d 16) = PySem.W.fnOf "law" "law" (aE bZ) (az bZ) (aa bZ) .none kV dc pm an cd ct := by
  have F0 := gn (st := bg) l0 c0 k0
  have F1 := gn (st := bA) l1 c1 k1
  have F2 := gn (st := aR) l2 c2 k2
  have F3 := gn (st := bL) l3 c3 k3
  have F4 := gn (st := cu) l4 c4 k4
  have F5 := gn (st := bE) l5 c5 k5
  have F6 := gn (st := bF) l6 c6 k6
  have F7 := gn (st := bh) l7 c7 k7
  have F8 := gn (st := aS) l8 c8 k8
  have F9 := gn (st := aD) l9 c9 k9
  have Te := gn (st := bH) VA IK VB
  have Tf := gn (st := aV) VD VE VF
  have Tg := gn (st := bx) VH c12 VI
  have Th := gn (st := bf) VL VM VN
  have Ti := gn (st := bT) VP VQ VR
  have Tj := gn (st := aT) VT VU VV
  have Tn := gn (st := bZ) VX VY VZ
  exact ⟨⟨fun i => [f0, f1, f2, f3, f4, f5, f6, f7, f8, f9, OF, OG, HU, OH, OI, OJ, OL].getD i f0, fun i => [PySem.W.fnOf "look_parts" "look_parts" (aE bg) (az bg) (aa bg) .none Qo Qp Qq Qn OE Qs, PySem.W.fnOf "look_with" "look_with" (aE bA) (az bA) (aa bA) .none R6 R7 R8 R5 Qt R9, PySem.W.fnOf "all_within" "all_within" (aE aR) (az aR) (aa aR) .none Sb Sd Se Sa Qu Sf, PySem.W.fnOf "folded" "folded" (aE bL) (az bL) (aa bL) .none Sh Si Sj Sg Qv Sk, PySem.W.fnOf "looks_in" "looks_in" (aE cu) (az cu) (aa cu) .none Sm Sn So Sl Qw Sq, PySem.W.fnOf "let_go" "let_go" (aE bE) (az bE) (aa bE) .none Su Sv Sw Ss Qx Sx, PySem.W.fnOf "_law_next" "_law_next" (aE bF) (az bF) (aa bF) .none Sz SA SD Sy Qy SE, PySem.W.fnOf "_law_state" "_law_state" (aE bh) (az bh) (aa bh) .none SH SI SJ SG Qz SK, PySem.W.fnOf "_law_pool" "_law_pool" (aE aS) (az aS) (aa aS) .none SN SO SQ SM QB SR, PySem.W.fnOf "_law_look" "_law_look" (aE aD) (az aD) (aa aD) .none SV SW SX SS QC SY, PySem.W.fnOf "_law_inner" "_law_inner" (aE bH) (az bH) (aa bH) .none Nu Nv Nx Nt Lm Ny, PySem.W.fnOf "_law_all_in" "_law_all_in" (aE aV) (az aV) (aa aV) .none NB NC ND Nz Ln NF, PySem.W.fnOf "_law_looks" "_law_looks" (aE bx) (az bx) (aa bx) .none NH NI NJ NG Lo NK, PySem.W.fnOf "_law_free" "_law_free" (aE bf) (az bf) (aa bf) .none NN NO NP NL Lp NQ, PySem.W.fnOf "_law_let" "_law_let" (aE bT) (az bT) (aa bT) .none NS NT NU NR Lq NV, PySem.W.fnOf "_law_long" "_law_long" (aE aT) (az aT) (aa aT) .none NX NY NZ NW Lr N1, PySem.W.fnOf "law" "law" (aE bZ) (az bZ) (aa bZ) .none N3 N4 N5 N2 Ls N6].getD i (PySem.W.fnOf "look_parts" "look_parts" (aE bg) (az bg) (aa bg) .none Qo Qp Qq Qn OE Qs), fun i => [].getD i 0⟩, ⟨F0, F0.binds (fun _ _ _ _ _ _ => AH fun _ => rfl), PySem.W.mg_of X G a0, F1, F1.binds (fun _ _ _ _ _ _ => AI fun _ _ => rfl), PySem.W.mg_of X G a1, F2, F2.binds (fun _ _ _ _ _ _ => AI fun _ _ => rfl), PySem.W.mg_of X G a2, F3, F3.binds (fun _ _ _ _ _ _ => Nr fun _ _ _ => rfl), PySem.W.mg_of X G a3, F4, F4.binds (fun _ _ _ _ _ _ => AH fun _ => rfl), PySem.W.mg_of X G a4, F5, F5.binds (fun _ _ _ _ _ _ => AI fun _ _ => rfl), PySem.W.mg_of X G a5, F6, F6.binds (fun _ _ _ _ _ _ => AH fun _ => rfl), PySem.W.mg_of X G a6, F7, F7.binds (fun _ _ _ _ _ _ => AH fun _ => rfl), PySem.W.mg_of X G a7, F8, F8.binds (fun _ _ _ _ _ _ => AI fun _ _ => rfl), PySem.W.mg_of X G a8, F9, F9.binds (fun _ _ _ _ _ _ => Nr fun _ _ _ => rfl), PySem.W.mg_of X G a9, Te, Te.binds (fun _ _ _ _ _ _ => AH fun _ => rfl), PySem.W.mg_of X G IJ, Tf, Tf.binds (fun _ _ _ _ _ _ => AH fun _ => rfl), PySem.W.mg_of X G VC, Tg, Tg.binds (fun _ _ _ _ _ _ => AH fun _ => rfl), PySem.W.mg_of X G VG, Th, Th.binds (fun _ _ _ _ _ _ => AI fun _ _ => rfl), PySem.W.mg_of X G VJ, Ti, Ti.binds (fun _ _ _ _ _ _ => AI fun _ _ => rfl), PySem.W.mg_of X G VO, Tj, Tj.binds (fun _ _ _ _ _ _ => AI fun _ _ => rfl), PySem.W.mg_of X G VS, Tn, Tn.binds (fun _ _ _ _ _ _ => AH fun _ => rfl), PySem.W.mg_of X G VW, PySem.W.mg_none_of X G z0, PySem.W.mg_none_of X G z1, PySem.W.mg_none_of X G z2, PySem.W.mg_none_of X G z3, PySem.W.mg_none_of X G z4, PySem.W.mg_none_of X G z5, PySem.W.mg_none_of X G z6, PySem.W.mg_none_of X G z7, PySem.W.mg_none_of X G z8, ⟨.ref wK, .ref wK, PySem.W.mg_of X G g0, rfl, fun ρ H => by unfold CC Rep; exact ⟨wK, _, rfl, .inr ⟨_, Q9, Tc, V0, rfl, rfl, by have := Td.length; rw [← Array.length_toList, ← this]; decide, Td⟩, by simp only [ay, Rep]; simp⟩⟩⟩, _, _, _, _, _, _, rfl⟩
section
variable {P : Program} {w : World} {K : PySem.W.Frag} {mg : Str → Option Value} {base : Heap} {t : Qm}
theorem Lu (T : Txt K mg t) {c Pt : Addr} (htab : PySem.W.tabIn K "let_go" = some (c, Pt)) (LP : PySem.W.CodeHd base c Pt) (Nj : base.BuiltinsAt mg Pt) : rE P w K mg base (bV P w) 63 (t.f 16) (t.d 16) ["_law_script"] (aZ K mg 1 CD) := by
  have gK := w6 (P := P) (w := w) (base := base) T
  have o6 := zj (P := P) (w := w) (base := base) T
  have bG := zk (P := P) (w := w) (base := base) T
  have o8 := zl (P := P) (w := w) (base := base) T
  have bR := w9 (P := P) (w := w) (base := base) T
  have kN := uT (P := P) (w := w) (base := base) T
  have dw := xg (P := P) (w := w) (base := base) T gK
  have mq := wB (P := P) (w := w) (base := base) T o6
  have wC := DV (P := P) (w := w) (base := base) T gK dw mq
  have iw := AJ (P := P) (w := w) (base := base) T dw
  have nN := xh (P := P) (w := w) (base := base) T dw
  have wF := DW (P := P) (w := w) (base := base) T htab LP Nj wC iw
  have dH := ql (P := P) (w := w) (base := base) T bG 30
  have lK := zo (P := P) (w := w) (base := base) T bG dH
  have fj := nU (P := P) (w := w) (base := base) T bR 60
  have gA := qu (P := P) (w := w) (base := base) T bR 60
  have kg := xj (P := P) (w := w) (base := base) T fj
  have rq := AK (P := P) (w := w) (base := base) T gA
  have N7 := Lj (P := P) (w := w) (base := base) T iw wF bG o8 kg rq lK kN nN
  exact N7
end
end K71
end
section
open PySem PySem.Spec L2 L3
local macro_rules
 | `(tactic| simp! [$a,*]) => `(tactic| simp [bu, ck, Fj, Ci, Ih, K3, qH, vL, ve, Cj, yG, Jk, yH, jG, bK, uq, jm, Dy, Ck, pH, kB, g9, Jl, Fl, Af, Cm, Fo, Cn, Fp, Co, mE, Cp, xO, Ag, Cq, Jm, rT, vM, vN, lR, Jo, Jp, Cr, Cs, Ct, Fq, Ft, Ah, rV, Fv, mF, FA, xQ, FD, Js, cX, tM, ia, bS, mC, oi, kq, eF, bY, iM, dW, uL, vE, MH, Ty.is, $a,*])
local macro_rules
 | `(tactic| dsimp! [$a,*]) => `(tactic| simp [bu, ck, Fj, Ci, Ih, K3, qH, vL, ve, Cj, yG, Jk, yH, jG, bK, uq, jm, Dy, Ck, pH, kB, g9, Jl, Fl, Af, Cm, Fo, Cn, Fp, Co, mE, Cp, xO, Ag, Cq, Jm, rT, vM, vN, lR, Jo, Jp, Cr, Cs, Ct, Fq, Ft, Ah, rV, Fv, mF, FA, xQ, FD, Js, cX, tM, ia, bS, mC, oi, kq, P9, bY, iM, dW, uL, vE, MH, Ty.is, $a,*])
section
set_option Elab.async false
set_option linter.all false
set_option maxRecDepth 100000
set_option maxHeartbeats 1000000
namespace K71
open PySem PySem.Spec L2 L3
theorem DX {a b : D} : pR [a, b] 0 = some a := rfl
theorem LR {a b : D} : pR [a, b] 1 = some b := rfl
theorem OM {a b c : D} : pR [a, b, c] 0 = some a := rfl
theorem Jy {a : D} : pR [a] 0 = some a := rfl
mutual
inductive Lk where
 | any
 | kind (s : Str)
 | not (l : Lk)
 | bin (e : Bool) (l r : Lk)
 | way (w : Wy)
inductive Wy where
 | nil
 | cons (g : Str) (l : Lk) (w : Wy)
end
noncomputable def BL (e : Bool) : Str := if e then "either" else "both"
mutual
noncomputable def Lk.D : Lk → L3.D
 | .any => .tup [.str "any"]
 | .kind s => .tup [.str "kind", .str s]
 | .not l => .tup [.str "not", l.D]
 | .bin e l r => .tup [.str (BL e), l.D, r.D]
 | .way w => .tup [.str "way", .tup w.Ds]
noncomputable def Wy.Ds : Wy → List L3.D
 | .nil => []
 | .cons g l w => .tup [.str g, l.D] :: w.Ds
end
mutual
noncomputable def Lk.sz : Lk → Nat
 | .any => 1
 | .kind _ => 1
 | .not l => 1 + l.sz
 | .bin _ l r => 1 + (l.sz + r.sz)
 | .way w => 1 + w.sz
noncomputable def Wy.sz : Wy → Nat
 | .nil => 0
 | .cons _ l w => l.sz + w.sz
end
mutual
noncomputable def Lk.Ok : Lk → Prop
 | .any => True
 | .kind s => PyData.strOk s = true
 | .not l => l.Ok
 | .bin _ l r => l.Ok ∧ r.Ok
 | .way w => w.Ok
noncomputable def Wy.Ok : Wy → Prop
 | .nil => True
 | .cons g l w => PyData.strOk g = true ∧ l.Ok ∧ w.Ok
end
mutual
noncomputable def Lk.dep : Lk → Nat
 | .any => 1
 | .kind _ => 1
 | .not l => 1 + l.dep
 | .bin _ l r => 1 + max l.dep r.dep
 | .way w => 1 + w.dep
noncomputable def Wy.dep : Wy → Nat
 | .nil => 0
 | .cons _ l w => max l.dep w.dep
end
theorem BN : PyData.strOk ("any" : Str) = true := by decide +kernel
theorem zq : PyData.strOk ("kind" : Str) = true := by decide +kernel
theorem BO : PyData.strOk ("not" : Str) = true := by decide +kernel
theorem rz : PyData.strOk ("way" : Str) = true := by decide +kernel
theorem zu (e : Bool) : PyData.strOk (BL e) = true := by cases e <;> decide +kernel
mutual
theorem nO : ∀ (l : Lk), l.D.closed = true
 | .any => by simp [Lk.D, D.closed, bN, cA, ic]
 | .kind nm => by simp [Lk.D, D.closed, bN, cA, ic]
 | .not l => by simp [Lk.D, D.closed, bN, cA, ic, nO l]
 | .bin e l r => by simp [Lk.D, D.closed, bN, cA, ic, nO l, nO r]
 | .way w => by simp [Lk.D, D.closed, bN, cA, ic, Gk w]
theorem Gk : ∀ (w : Wy), aQ w.Ds = true
 | .nil => by simp [Wy.Ds, cA]
 | .cons g l w => by
  rw [Wy.Ds, bN, Gk w]
  simp [D.closed, bN, cA, ic, nO l]
end
mutual
theorem AL : ∀ (l : Lk), l.Ok → l.D.plain = true
 | .any, _ => by simp [Lk.D, D.plain, dP, BN]
 | .kind nm, h => by rw [Lk.Ok] at h; simp [Lk.D, D.plain, dP, zq, h]
 | .not l, h => by rw [Lk.Ok] at h; simp [Lk.D, D.plain, dP, BO, AL l h]
 | .bin e l r, h => by rw [Lk.Ok] at h; simp [Lk.D, D.plain, dP, zu, AL l h.1, AL r h.2]
 | .way w, h => by rw [Lk.Ok] at h; simp [Lk.D, D.plain, dP, rz, Gm w h]
theorem Gm : ∀ (w : Wy), w.Ok → dP w.Ds = true
 | .nil, _ => by simp [Wy.Ds, dP]
 | .cons g l w, h => by
  rw [Wy.Ok] at h
  simp [Wy.Ds, dP, D.plain, h.1, AL l h.2.1, Gm w h.2.2]
end
mutual
theorem AM : ∀ (l : Lk), l.D.dp ≤ 4 * l.sz
 | .any => by simp [Lk.D, D.dp, yL, Lk.sz]
 | .kind nm => by simp [Lk.D, D.dp, yL, Lk.sz]
 | .not l => by have := AM l; simp only [Lk.D, D.dp, yL, Lk.sz]; omega
 | .bin e l r => by have := AM l; have := AM r; simp only [Lk.D, D.dp, yL, Lk.sz]; omega
 | .way w => by have := Gn w; simp only [Lk.D, D.dp, yL, Lk.sz]; omega
theorem Gn : ∀ (w : Wy), yL w.Ds ≤ 4 * w.sz + 1
 | .nil => by simp [Wy.Ds, yL]
 | .cons g l w => by have := AM l; have := Gn w; simp only [Wy.Ds, D.dp, yL, Wy.sz]; omega
end
noncomputable def Wy.ps : Wy → List (Str × Lk)
 | .nil => []
 | .cons g l w => (g, l) :: w.ps
noncomputable def csl : Lk → List Lk
 | .not l => [l]
 | .bin _ l r => [l, r]
 | .way w => w.ps.map (·.2)
 | _ => []
noncomputable def Eb (q : Str × Lk) : D := .tup [.str q.1, q.2.D]
theorem Gp : ∀ w : Wy, w.Ds = w.ps.map Eb
 | .nil => rfl
 | .cons g l w => by rw [Wy.Ds, Gp w]; rfl
theorem wG (l : Lk) : 1 ≤ l.sz := by cases l <;> simp [Lk.sz]
theorem rA : ∀ w : Wy, w.ps.length ≤ w.sz
 | .nil => by simp [Wy.ps]
 | .cons g l w => by
  have := rA w
  have := wG l
  simp only [Wy.ps, Wy.sz, List.length_cons]; omega
noncomputable def szl : List Lk → Nat
 | [] => 0
 | l :: ls => l.sz + szl ls
theorem CG : ∀ a b : List Lk, szl (a ++ b) = szl a + szl b
 | [], b => by simp [szl]
 | t :: a, b => by rw [List.cons_append, szl, szl, CG a b]; omega
theorem Ra : ∀ w : Wy, w.sz = szl (w.ps.map (·.2))
 | .nil => by simp [Wy.sz, Wy.ps, szl]
 | .cons g l w => by rw [Wy.sz, Ra w, Wy.ps]; simp [szl]
theorem x8 (l : Lk) : l.sz = 1 + szl (csl l) := by
 cases l <;> simp [Lk.sz, csl, Ra, szl]
theorem BP : ∀ ls : List Lk, ls.length ≤ szl ls
 | [] => by simp [szl]
 | l :: ls => by
  have := BP ls
  have := wG l
  simp only [szl, List.length_cons]; omega
mutual
noncomputable def Lk.pre : Lk → List Lk
 | .any => [.any]
 | .kind nm => [.kind nm]
 | .not l => .not l :: l.pre
 | .bin e l r => .bin e l r :: (l.pre ++ r.pre)
 | .way w => .way w :: w.pre
noncomputable def Wy.pre : Wy → List Lk
 | .nil => []
 | .cons _ l w => l.pre ++ w.pre
end
theorem N8 : ∀ w : Wy, w.pre = (w.ps.map (·.2)).flatMap Lk.pre
 | .nil => by simp [Wy.pre, Wy.ps]
 | .cons g l w => by rw [Wy.pre, N8 w, Wy.ps]; simp
theorem zv (l : Lk) : l.pre = l :: (csl l).flatMap Lk.pre := by
 cases l <;> simp [Lk.pre, csl, N8, List.flatMap_map]
mutual
theorem lM : ∀ l : Lk, l.pre.length = l.sz
 | .any => rfl
 | .kind _ => rfl
 | .not l => by rw [Lk.pre, Lk.sz, List.length_cons, lM l]; omega
 | .bin e l r => by rw [Lk.pre, Lk.sz, List.length_cons, List.length_append, lM l, lM r]; omega
 | .way w => by rw [Lk.pre, Lk.sz, List.length_cons, kO w]; omega
theorem kO : ∀ w : Wy, w.pre.length = w.sz
 | .nil => rfl
 | .cons g l w => by rw [Wy.pre, Wy.sz, List.length_append, lM l, kO w]
end
theorem eqs (s t : Str) (G : DH) (hs : PyData.strOk s = true) (ht : PyData.strOk t = true) {b : Bool} (h : (s == t) = b) : mZ false (.str s) (.str t) G = .ok (.bl b) G := by
 rw [Ie false s t G hs ht, h]; simp
theorem ins (s : Str) (ws : List Str) (G : DH) (hs : PyData.strOk s = true) (hw : PyData.canLayAll0 (ws.map PyData.str) = true) {b : Bool} (h : ws.any (· == s) = b) : B8 false (.str s) (.tup (ws.map .str)) G = .ok (.bl b) G := by
 have hk := Fi s ws G hs hw
 rw [h] at hk
 simp [B8, bS, hk]
theorem ON (s : Str) (G : DH) (hs : PyData.strOk s = true) {b : Bool} (h : (["not", "both", "either"] : List Str).any (· == s) = b) : B8 false (.str s) (.tup [.str "not", .str "both", .str "either"]) G = .ok (.bl b) G := ins s ["not", "both", "either"] G hs (by decide +kernel) h
theorem CH (G : DH) : mZ false (.str "any") (.str "way") G = .ok (.bl false) G := eqs _ _ G BN rz (by decide +kernel)
theorem zw (G : DH) : mZ false (.str "kind") (.str "way") G = .ok (.bl false) G := eqs _ _ G zq rz (by decide +kernel)
theorem CI (G : DH) : mZ false (.str "not") (.str "way") G = .ok (.bl false) G := eqs _ _ G BO rz (by decide +kernel)
theorem CJ (e : Bool) (G : DH) : mZ false (.str (BL e)) (.str "way") G = .ok (.bl false) G := eqs _ _ G (zu e) rz (by cases e <;> decide +kernel)
theorem CK (G : DH) : mZ false (.str "way") (.str "way") G = .ok (.bl true) G := eqs _ _ G rz rz (by decide +kernel)
theorem Gq (G : DH) : B8 false (.str "any") (.tup [.str "not", .str "both", .str "either"]) G = .ok (.bl false) G := ON _ G BN (by decide +kernel)
theorem BQ (G : DH) : B8 false (.str "kind") (.tup [.str "not", .str "both", .str "either"]) G = .ok (.bl false) G := ON _ G zq (by decide +kernel)
theorem Gr (G : DH) : B8 false (.str "not") (.tup [.str "not", .str "both", .str "either"]) G = .ok (.bl true) G := ON _ G BO (by decide +kernel)
theorem Gs (e : Bool) (G : DH) : B8 false (.str (BL e)) (.tup [.str "not", .str "both", .str "either"]) G = .ok (.bl true) G := ON _ G (zu e) (by cases e <;> decide +kernel)
theorem Gu (l : Lk) (G : DH) : EH (.tup [.str "not", l.D]) (some 1) none G = .ok (.tup [l.D]) G := by
 have z1 : (1 : Nat) ≤ sizeLine := lz (by omega)
 simp [EH, bS, cutD, HT.gZ, bY, z1]
theorem Gv (s : Str) (l r : Lk) (G : DH) : EH (.tup [.str s, l.D, r.D]) (some 1) none G = .ok (.tup [l.D, r.D]) G := by
 have z2 : (2 : Nat) ≤ sizeLine := lz (by omega)
 simp [EH, bS, cutD, HT.gZ, bY, z2]
theorem AN (l : Lk) (hsz : l.sz ≤ 1000) (G : DH) : cI [l.D] G = .ok (.con ((csl l).map Lk.D)) G := by
 have z1 : (1 : Nat) ≤ sizeLine := lz (by omega)
 have z2 : (2 : Nat) ≤ sizeLine := lz (by omega)
 have z3 : (3 : Nat) ≤ sizeLine := lz (by omega)
 have hcl : aQ ((csl l).map Lk.D) = true := cz nO
 have n0 : (bU [] G).fw G = .ok (.con []) G := iP (Nat.zero_le _) rfl
 unfold cI
 refine rZ ?_ (by rw [gr]; exact hcl)
 cases l with
 | any => simp! [eO, Lk.D, csl, Jy, CH, Gq, z3, jI, n0]
 | kind nm => simp! [eO, Lk.D, csl, DX, zw, BQ, z3, jI, n0]
 | not l =>
  have f : (bU [l.D] G).fw G = .ok (.con [l.D]) G := iP (by simpa using z1) (by simp [bN, cA, nO])
  simp! [eO, Lk.D, csl, DX, CI, Gr, z3, jI, Gu, m9, f]
 | bin e l r =>
  have f : (bU [l.D, r.D] G).fw G = .ok (.con [l.D, r.D]) G := iP (by simpa using z2) (by simp [bN, cA, nO])
  simp! [eO, Lk.D, csl, OM, CJ, Gs, z3, jI, Gv, m9, f]
 | way w =>
  have hl := rA w
  rw [Lk.sz] at hsz
  have hc := iQ (gO := oT 2) (ks := []) (tt := gS) (te := ai 1) (own := fun q : Str × Lk => [D.str q.1, q.2.D]) (dat := Eb) (f := fun q => q.2.D) (c := fun _ => true) (G := G) (τ := [some (Lk.way w).D]) w.ps [] (by simp; omega) (fun _ _ => rfl) (fun i hi acc => rfl) (fun i hi acc => by simp! [mask])
  rw [List.nil_append, List.filter_eq_self.mpr (fun _ _ => rfl)] at hc
  have Lv : aQ (w.ps.map fun q => q.2.D) = true := cz fun _ => nO _
  rw [Lk.D] at hc
  rw [← Gp] at hc
  simp! [eO, Lk.D, csl, DX, LR, CK, hc, jI, yK Lv]
theorem AO (l : Lk) (hsz : l.sz ≤ 1000) (G : DH) : bO [l.D] G = .ok (.con ((csl l).map Lk.D)) G := by
 have z1 : (1 : Nat) ≤ sizeLine := lz (by omega)
 have z2 : (2 : Nat) ≤ sizeLine := lz (by omega)
 have z3 : (3 : Nat) ≤ sizeLine := lz (by omega)
 have hcl : aQ ((csl l).map Lk.D) = true := cz nO
 have n0 : (bU [] G).fw G = .ok (.con []) G := iP (Nat.zero_le _) rfl
 unfold bO
 refine rZ ?_ (by rw [gr]; exact hcl)
 cases l with
 | any => simp! [eT, Lk.D, csl, Jy, CH, Gq, z3, jI, n0]
 | kind nm => simp! [eT, Lk.D, csl, DX, zw, BQ, z3, jI, n0]
 | not l =>
  have f : (bU [l.D] G).fw G = .ok (.con [l.D]) G := iP (by simpa using z1) (by simp [bN, cA, nO])
  simp! [eT, Lk.D, csl, DX, CI, Gr, z3, jI, Gu, m9, f]
 | bin e l r =>
  have f : (bU [l.D, r.D] G).fw G = .ok (.con [l.D, r.D]) G := iP (by simpa using z2) (by simp [bN, cA, nO])
  simp! [eT, Lk.D, csl, OM, CJ, Gs, z3, jI, Gv, m9, f]
 | way w =>
  have hl := rA w
  rw [Lk.sz] at hsz
  have hc := iQ (gO := oN) (ks := []) (tt := gS) (te := aM ia (ai 0) (eC (.int 1))) (own := fun q : Str × Lk => [Eb q]) (dat := Eb) (f := fun q => q.2.D) (c := fun _ => true) (G := G) (τ := [some (Lk.way w).D]) w.ps [] (by simp; omega) (fun _ _ => rfl) (fun i hi acc => rfl) (fun i hi acc => by simp! [mask, Eb, LR])
  rw [List.nil_append, List.filter_eq_self.mpr (fun _ _ => rfl)] at hc
  have Lv : aQ (w.ps.map fun q => q.2.D) = true := cz fun _ => nO _
  rw [Lk.D] at hc
  rw [← Gp] at hc
  simp! [eT, Lk.D, csl, DX, LR, CK, hc, jI, yK Lv]
end K71
end
section
set_option Elab.async false
set_option linter.all false
set_option maxRecDepth 100000
set_option maxHeartbeats 1000000
namespace K71
open PySem PySem.Spec L2 L3
theorem Gw : List.lookup ("look_parts" : Str) [("look_parts", cI)] = some cI := by
 simp only [List.lookup, beq_self_eq_true]
theorem AQ (G : DH) (a0 : Option D) (t : Lk) (rest acc : List Lk) (one : Option D) (h1 : acc.length ≤ 10000) (h2 : rest.length ≤ 10000) (h3 : t.sz ≤ 1000) :
  jx [a0, some (.fn "look_parts"), some (.obj G.length), some (.obj (G.length + 1)), one] (G ++ [.lst (acc.map Lk.D), .lst ((t :: rest).reverse.map Lk.D)]) =
   .nx [a0, some (.fn "look_parts"), some (.obj G.length), some (.obj (G.length + 1)), some t.D] (G ++ [.lst ((acc ++ [t]).map Lk.D), .lst ((csl t ++ rest).reverse.map Lk.D)]) := by
 have hl := BP (csl t)
 have hs := x8 t
 have ep := fun G => AN t h3 G
 generalize csl t = ts at hl hs ep ⊢
 have hz1 : acc.length < sizeLine := Nat.lt_of_lt_of_le (by omega) (lz (n := 20000) (by omega))
 have hz2 : rest.length + ts.length ≤ sizeLine := lz (by omega)
 have V1 : ts.length ≤ sizeLine := lz (by omega)
 have hcl : aQ (ts.map Lk.D).reverse = true := by
  rw [← List.map_reverse]; exact cz nO
 have f : ∀ G, (bU (ts.map Lk.D).reverse G).fw G = .ok (.con (ts.map Lk.D).reverse) G := fun G => iP (by simpa using V1) hcl
 have hdl : ((rest.map Lk.D).reverse ++ [t.D]).dropLast = (rest.map Lk.D).reverse := List.dropLast_concat
 have hix : ((rest.map Lk.D).reverse ++ [t.D])[((rest.map Lk.D).reverse ++ [t.D]).length - 1]? = some t.D := by simp
 have g1 : ∀ x y : DO, (G ++ [x, y])[G.length + 1]? = some y := fun x y => M5 G x y []
 have s1 : ∀ x y z : DO, (G ++ [x, y]).set (G.length + 1) z = G ++ [x, z] := fun x y z => RK G x y z []
 have g0 : ∀ x y : DO, (G ++ [x, y])[G.length]? = some x := fun x y => wK G x [y]
 have s0 : ∀ x y z : DO, (G ++ [x, y]).set G.length z = G ++ [z, y] := fun x y z => Ad G x z [y]
 have er : (t :: rest).reverse.map Lk.D = (rest.map Lk.D).reverse ++ [t.D] := by simp
 rw [er]
 have e1 : (br 4 (cU "list" uL (ai 3) aq)) [a0, some (.fn "look_parts"), some (.obj G.length), some (.obj (G.length + 1)), one] (G ++ [.lst (acc.map Lk.D), .lst ((rest.map Lk.D).reverse ++ [t.D])]) = .nx [a0, some (.fn "look_parts"), some (.obj G.length), some (.obj (G.length + 1)), some t.D] (G ++ [.lst (acc.map Lk.D), .lst (rest.map Lk.D).reverse]) := by
  simp only [qH, mE, jm, List.getElem?_cons_succ, List.getElem?_cons_zero, jG, iM, g1, kB, uL, hix, hdl, beq_self_eq_true, if_true, vL, List.set_cons_succ, List.set_cons_zero, s1]
 rw [jx, bu, e1, ck]
 simp! [g0, s0, g1, s1, hz1, Gw, ep, zZ, jI, f, rY, qK, hz2]
theorem uI (G : DH) (a0 : Option D) : ∀ (n fl : Nat) (stk acc : List Lk) (one : Option D), szl stk = n → n < fl → acc.length + n ≤ 1000 →
  ∃ one', iN (lO (aM zM (av kq (af (ai 3) (aq))) (eC (.int 0)))) jx fl [a0, some (.fn "look_parts"), some (.obj G.length), some (.obj (G.length + 1)), one] (G ++ [.lst (acc.map Lk.D), .lst (stk.reverse.map Lk.D)]) = .nx [a0, some (.fn "look_parts"), some (.obj G.length), some (.obj (G.length + 1)), one'] (G ++ [.lst ((acc ++ stk.flatMap Lk.pre).map Lk.D), .lst []])
 | n, 0, stk, acc, one, _, h, _ => by omega
 | n, fl + 1, [], acc, one, hn, h, hb => by
  refine ⟨one, ?_⟩
  have g1 : ∀ x y : DO, (G ++ [x, y])[G.length + 1]? = some y := fun x y => M5 G x y []
  rw [rV]
  simp! [g1, zM]
 | n, fl + 1, t :: stk, acc, one, hn, h, hb => by
  rw [szl] at hn
  have hq := x8 t
  have hss := CG (csl t) stk
  have hl1 := BP (csl t)
  have hl2 := BP stk
  obtain ⟨one', e⟩ := uI G a0 (n - 1) fl (csl t ++ stk) (acc ++ [t]) (some t.D) (by omega) (by omega) (by simp; omega)
  refine ⟨one', ?_⟩
  have g1 : ∀ x y : DO, (G ++ [x, y])[G.length + 1]? = some y := fun x y => M5 G x y []
  have hz : stk.length + 1 ≤ sizeLine := lz (by omega)
  have hp : (0 : Int) < (stk.length : Int) + 1 := by omega
  have et := AQ G a0 t stk acc one (by omega) (by omega) (by omega)
  have ec : lO (aM zM (av kq (af (ai 3) (aq))) (eC (.int 0))) [a0, some (.fn "look_parts"), some (.obj G.length), some (.obj (G.length + 1)), one] (G ++ [.lst (acc.map Lk.D), .lst ((t :: stk).reverse.map Lk.D)]) = .ok true (G ++ [.lst (acc.map Lk.D), .lst ((t :: stk).reverse.map Lk.D)]) := by
   simp! [g1, zM, hz, hp]
  rw [rV, ec, Ih, Fv, et, mF, e, List.flatMap_append, List.flatMap_cons, zv t]
  simp
theorem x9 (t : Lk) (h : t.sz ≤ 1000) (G : DH) : cJ [t.D, .fn "look_parts"] G = .ok (.con (t.pre.map Lk.D)) G := by
 obtain ⟨one', e⟩ := uI G (some t.D) t.sz fuel [t] [] none (by simp [szl]) (by unfold fuel; omega) (by simp; omega)
 have hp : [t].flatMap Lk.pre = t.pre := by simp
 rw [hp] at e
 simp only [List.reverse_cons, List.reverse_nil, List.nil_append, List.map_cons, List.map_nil] at e
 have z1 : (1 : Nat) ≤ sizeLine := lz (by omega)
 have hcl : aQ (t.pre.map Lk.D) = true := cz nO
 unfold cJ
 refine lq (R := [.dead, .lst []]) ?_ (by rw [gr]; exact hcl)
 have Lw : (Out.ok (D.obj G.length) (G ++ [.lst (t.pre.map Lk.D), .lst []])).fz = .ok (.con (t.pre.map Lk.D)) (G ++ [.dead, .lst []]) := xQ
 unfold jZ
 generalize fuel = fl at e ⊢
 simp! [bU, z1, e, Lw]
theorem wH (w : Wy) (h : w.sz ≤ 900) (G : DH) : cJ [.tup [.str "way", .tup w.Ds], .fn "look_parts"] G = .ok (.con (.tup [.str "way", .tup w.Ds] :: w.pre.map Lk.D)) G := by
 have e := x9 (.way w) (by rw [Lk.sz]; omega) G
 rw [Lk.pre, List.map_cons, Lk.D] at e
 exact e
theorem AR (x : D) (xs : List D) : cutD (x :: xs) (some 1) none = xs := by
 have e1 : HT.gZ (xs.length + 1) 0 (some 1) = 1 := by
  show min (1 : Int).toNat (xs.length + 1) = 1
  simp
 simp [cutD, e1, HT.Er]
theorem o9 (w : Wy) (h : w.sz ≤ 900) (G : DH) : dS [.tup w.Ds] G = .ok (.con (w.pre.map Lk.D)) G := by
 have e := wH w h G
 have z2 : (2 : Nat) ≤ sizeLine := lz (by omega)
 have hcl : aQ (w.pre.map Lk.D) = true := cz nO
 have hz : (w.pre.map Lk.D).length ≤ sizeLine := lz (by rw [List.length_map, kO]; omega)
 have f := iP (G := G) hz hcl
 unfold dS
 refine rZ ?_ (by rw [gr]; exact hcl)
 generalize w.pre.map Lk.D = ls at e f
 simp! [nj, z2, e, jI, EH, AR, f]
theorem xm (w : Wy) (h : w.sz ≤ 900) (G : DH) : gE [.tup w.Ds] G = .ok (.obj G.length) (G ++ [.lst (w.pre.map Lk.D)]) := by
 have e := wH w h G
 have z2 : (2 : Nat) ≤ sizeLine := lz (by omega)
 have hcl : aQ (w.pre.map Lk.D) = true := cz nO
 have hz : (w.pre.map Lk.D).length ≤ sizeLine := lz (by rw [List.length_map, kO]; omega)
 have er : cG 1 iR [.tup w.Ds] G = .ok (.obj G.length) (G ++ [.lst (w.pre.map Lk.D)]) := by
  generalize w.pre.map Lk.D = ls at e hz
  simp! [iR, z2, e, EH, AR, bU, hz]
 have g0 := wK G (.lst (w.pre.map Lk.D)) []
 unfold gE qJ
 dsimp only
 rw [er]
 dsimp only
 rw [g0]
 dsimp only
 rw [if_pos ⟨by simp [iA], Nat.le_refl _, hcl⟩]
theorem uJ (r : List D → M D) (a0 : Option D) (G : DH) : ∀ (ls : List Lk), (∀ l ∈ ls, ∀ G, r [l.D] G = .ok (.con (l.pre.map Lk.D)) G) → szl ls ≤ 1000 → ∀ (acc : List Lk) (a2 : Option D), acc.length + szl ls ≤ 5000 →
  ∃ b2, dY (gN 2) (iS r) (ls.map Lk.D) [a0, some (.obj G.length), a2] (G ++ [.lst (acc.map Lk.D)]) = .nx [a0, some (.obj G.length), b2] (G ++ [.lst ((acc ++ ls.flatMap Lk.pre).map Lk.D)])
 | [], _, _, acc, a2, _ => ⟨a2, by simp [rW]⟩
 | l :: ls, hr, hs, acc, a2, hl => by
  rw [szl] at hs hl
  obtain ⟨b2, e⟩ := uJ r a0 G ls (fun x hx => hr x (by simp [hx])) (by omega) (acc ++ l.pre) (some l.D) (by rw [List.length_append, lM]; omega)
  refine ⟨b2, ?_⟩
  have er := hr l (by simp) (G ++ [.lst (acc.map Lk.D)])
  have g0 : ∀ x : DO, (G ++ [x])[G.length]? = some x := fun x => wK G x []
  have s0 : ∀ x z : DO, (G ++ [x]).set G.length z = G ++ [z] := fun x z => Ad G x z []
  have hz : acc.length + l.pre.length ≤ sizeLine := lz (by rw [lM]; omega)
  have et : iS r [a0, some (.obj G.length), some l.D] (G ++ [.lst (acc.map Lk.D)]) = .nx [a0, some (.obj G.length), some l.D] (G ++ [.lst ((acc ++ l.pre).map Lk.D)]) := by
   simp! [iS, g0, s0, er, rY, qK, hz]
  rw [List.map_cons, fZ (τ1 := [a0, some (.obj G.length), some l.D]) rfl, et, mF, e]
  simp
theorem CL (l : Lk) {n : Nat} (h : l.dep ≤ n + 1) : ∀ c ∈ csl l, c.dep ≤ n := by
 cases l with
 | any => intro c hc; simp [csl] at hc
 | kind s => intro c hc; simp [csl] at hc
 | not l => intro c hc; simp [csl] at hc; subst hc; rw [Lk.dep] at h; omega
 | bin e l r => intro c hc; simp [csl] at hc; rw [Lk.dep] at h; rcases hc with rfl | rfl <;> omega
 | way w =>
  rw [Lk.dep] at h
  have key : ∀ w : Wy, w.dep ≤ n → ∀ c ∈ w.ps.map (·.2), c.dep ≤ n := by
   intro w
   cases w with
   | nil => intro _ c hc; simp [Wy.ps] at hc
   | cons g l w =>
    intro hw c hc
    have aux : ∀ w : Wy, w.dep ≤ n → ∀ q ∈ w.ps, q.2.dep ≤ n := by
     intro w
     induction w using Wy.rec (motive_1 := fun _ => True) with
     | nil => intro _ q hq; simp [Wy.ps] at hq
     | cons g l w _ ih =>
      intro hw q hq
      rw [Wy.dep] at hw
      rw [Wy.ps] at hq
      rcases List.mem_cons.mp hq with rfl | hq
      ·show l.dep ≤ n; omega
      ·exact ih (by omega) q hq
     | _ => trivial
    obtain ⟨q, hq, rfl⟩ := List.mem_map.mp hc
    exact aux _ hw q hq
  exact key w (by omega)
theorem vh : ∀ {ls : List Lk} {l : Lk}, l ∈ ls → l.sz ≤ szl ls
 | l' :: ls, l, h => by
  rw [szl]
  rcases List.mem_cons.mp h with rfl | h
  ·omega
  ·have := vh h; omega
theorem ya : ∀ (n : Nat) (l : Lk), l.dep ≤ n → l.sz ≤ 1000 → ∀ G, bq n [l.D] G = .ok (.con (l.pre.map Lk.D)) G
 | 0, l, h, _, G => by cases l <;> simp [Lk.dep] at h
 | n + 1, l, h, hz, G => by
  have hq := x8 l
  obtain ⟨b2, e⟩ := uJ (bq n) (some l.D) G (csl l) (fun c hc => ya n c (CL l h c hc) (by have := vh hc; omega)) (by omega) [l] none (by simp; omega)
  have ei := AO l hz (G ++ [.lst [l.D]])
  have z1 : (1 : Nat) ≤ sizeLine := lz (by omega)
  have hcl : aQ (l.pre.map Lk.D) = true := cz nO
  have hp : [l] ++ (csl l).flatMap Lk.pre = l.pre := by rw [zv]; rfl
  rw [hp] at e
  simp only [List.map_cons, List.map_nil] at e
  have Lw : (Out.ok (D.obj G.length) (G ++ [.lst (l.pre.map Lk.D)])).fz = .ok (.con (l.pre.map Lk.D)) (G ++ [.dead]) := xQ
  unfold bq
  refine lq (R := [.dead]) ?_ (by rw [gr]; exact hcl)
  simp! [gb, bU, z1, ei, e, Lw]
theorem wI (a0 : Option D) (G : DH) : ∀ (w : Wy), w.dep ≤ 60 → w.sz ≤ 1000 → ∀ (acc : List Lk) (a2 a3 : Option D), acc.length + w.sz ≤ 5000 →
  ∃ b2 b3, dY (gP 2 3) jA w.Ds [a0, some (.obj G.length), a2, a3] (G ++ [.lst (acc.map Lk.D)]) = .nx [a0, some (.obj G.length), b2, b3] (G ++ [.lst ((acc ++ w.pre).map Lk.D)])
 | .nil, _, _, acc, a2, a3, _ => ⟨a2, a3, by simp [Wy.Ds, rW, Wy.pre]⟩
 | .cons g l w, hd, hs, acc, a2, a3, hl => by
  rw [Wy.dep] at hd
  rw [Wy.sz] at hs hl
  obtain ⟨b2, b3, e⟩ := wI a0 G w (by omega) (by omega) (acc ++ l.pre) (some (.str g)) (some l.D) (by rw [List.length_append, lM]; omega)
  refine ⟨b2, b3, ?_⟩
  have er : lT [l.D] (G ++ [.lst (acc.map Lk.D)]) = .ok (.con (l.pre.map Lk.D)) (G ++ [.lst (acc.map Lk.D)]) := ya 60 l (by omega) (by omega) _
  have g0 : ∀ x : DO, (G ++ [x])[G.length]? = some x := fun x => wK G x []
  have s0 : ∀ x z : DO, (G ++ [x]).set G.length z = G ++ [z] := fun x z => Ad G x z []
  have hz : acc.length + l.pre.length ≤ sizeLine := lz (by rw [lM]; omega)
  have et : jA [a0, some (.obj G.length), some (.str g), some l.D] (G ++ [.lst (acc.map Lk.D)]) = .nx [a0, some (.obj G.length), some (.str g), some l.D] (G ++ [.lst ((acc ++ l.pre).map Lk.D)]) := by
   simp! [jA, g0, s0, er, rY, qK, hz]
  rw [Wy.Ds, fZ (τ1 := [a0, some (.obj G.length), some (.str g), some l.D]) rfl, et, mF, e, Wy.pre]
  simp
theorem AS (w : Wy) (hd : w.dep ≤ 60) (hs : w.sz ≤ 900) (G : DH) : eV [.tup w.Ds] G = .ok (.con (w.pre.map Lk.D)) G := by
 obtain ⟨b2, b3, e⟩ := wI (some (.tup w.Ds)) G w hd (by omega) [] none none (by simp; omega)
 rw [List.nil_append, List.map_nil] at e
 have hcl : aQ (w.pre.map Lk.D) = true := cz nO
 have Lw : (Out.ok (D.obj G.length) (G ++ [.lst (w.pre.map Lk.D)])).fz = .ok (.con (w.pre.map Lk.D)) (G ++ [.dead]) := xQ
 unfold eV
 refine lq (R := [.dead]) ?_ (by rw [gr]; exact hcl)
 simp! [j3, bU, e, Lw]
end K71
end
section
set_option Elab.async false
set_option linter.all false
set_option maxRecDepth 100000
set_option maxHeartbeats 1000000
namespace K71
open PySem PySem.Spec L2 L3
mutual
noncomputable def jU (k : Nat) : Lk → Nat → Lk
 | .any, _ => .any
 | .kind s, o => if o = k then .any else .kind s
 | .not l, o => if o = k then .any else .not (jU k l (o + 1))
 | .bin e l r, o => if o = k then .any else .bin e (jU k l (o + 1)) (jU k r (o + 1 + l.sz))
 | .way w, o => if o = k then .any else .way (gB k w (o + 1))
noncomputable def gB (k : Nat) : Wy → Nat → Wy
 | .nil, _ => .nil
 | .cons g l w, o => .cons g (jU k l o) (gB k w (o + l.sz))
end
noncomputable def gQ (k : Nat) : List Lk → Nat → List Lk
 | [], _ => []
 | l :: ls, o => jU k l o :: gQ k ls (o + l.sz)
noncomputable def AU : Wy → List Lk → Wy
 | .cons g _ w, l :: ls => .cons g l (AU w ls)
 | _, _ => .nil
noncomputable def rb : Lk → List Lk → Lk
 | .not _, [a] => .not a
 | .bin e _ _, [a, b] => .bin e a b
 | .way w, ls => .way (AU w ls)
 | l, _ => l
theorem Gx (k : Nat) (l : Lk) : jU k l k = .any := by cases l <;> simp [jU]
theorem zx (k : Nat) : ∀ (w : Wy) (o : Nat), gB k w o = AU w (gQ k (w.ps.map (·.2)) o)
 | .nil, o => by simp [gB, Wy.ps, gQ, AU]
 | .cons g l w, o => by simp [gB, Wy.ps, gQ, AU, zx k w]
theorem Gy {k o : Nat} (h : o ≠ k) (l : Lk) : jU k l o = rb l (gQ k (csl l) (o + 1)) := by
 cases l <;> simp [jU, h, csl, gQ, rb, zx]
theorem mT (k : Nat) : ∀ (ls : List Lk) (o : Nat), (gQ k ls o).length = ls.length
 | [], _ => rfl
 | l :: ls, o => by simp [gQ, mT k ls]
theorem BR : ∀ (w : Wy) (ls : List Lk), ls.length = w.ps.length → (AU w ls).Ds = (w.ps.zip ls).map fun q => D.tup [.str q.1.1, q.2.D]
 | .nil, [], _ => by simp [AU, Wy.Ds, Wy.ps]
 | .nil, l :: ls, h => by simp [Wy.ps] at h
 | .cons g l w, [], h => by simp [Wy.ps] at h
 | .cons g l w, a :: ls, h => by
  have h' : ls.length = w.ps.length := by simpa [Wy.ps] using h
  simp [AU, Wy.Ds, Wy.ps, BR w ls h']
theorem CM : ∀ (w : Wy) (ls : List Lk), ls.length = w.ps.length → List.zipWith (fun x y => D.tup [x, y]) w.Ds (ls.map Lk.D) = (w.ps.zip ls).map fun q => D.tup [Eb q.1, q.2.D]
 | .nil, [], _ => by simp [Wy.Ds, Wy.ps]
 | .nil, l :: ls, h => by simp [Wy.ps] at h
 | .cons g l w, [], h => by simp [Wy.ps] at h
 | .cons g l w, a :: ls, h => by
  have h' : ls.length = w.ps.length := by simpa [Wy.ps] using h
  simp [Wy.Ds, Wy.ps, CM w ls h', Eb]
theorem CN {ml : DS → M (List D)} {τ : DS} {G : DH} : vY ml τ G = (ml τ G).bd fun ds => match ds with
 | [d, e] => fun G => match cX G d, cX G e with
  | some (_, xs), some (_, ys) => .ok (min xs.length ys.length + 1, uw d e) G
  | _, _ => .stuck
 | _ => M.stop := bK
theorem BS {gO : D → Option (List D)} {ks : List Bool} {tt : DS → M Bool} {te : DS → M D} {n : Nat} {τ : DS} {G : DH} {xs ys : List D} : pX gO ks tt te n (uw (.tup xs) (.con ys)) (min xs.length ys.length + 1) 0 τ G = cE gO ks tt te n (List.zipWith (fun x y => .tup [x, y]) xs ys) τ G := by
 have := xR (n := n) (gO := gO) (ks := ks) (tt := tt) (te := te) (xs := List.zipWith (fun x y => D.tup [x, y]) xs ys) (vw := uw (.tup xs) (.con ys)) (fun G i h => by
  simp only [uw, cX, bS, List.getElem?_zipWith]
  cases xs[i]? <;> cases ys[i]? <;> rfl) (min xs.length ys.length + 1) 0 τ G (by simp) (by simp)
 simpa using this
theorem N9 (w : Wy) (ls : List Lk) (hl : ls.length = w.ps.length) (hz : w.sz ≤ 1000) (τ : DS) (G : DH) (mi : MI) (hmi : mi τ G = .ok (min w.Ds.length (ls.map Lk.D).length + 1, uw (.tup w.Ds) (.con (ls.map Lk.D))) G) :
  eFn (qG (oT 2) [] mi gS (av bY (af (aM ia (ai 0) (eC (.int 0))) (af (ai 1) (aq))))) τ G = .ok (.con (AU w ls).Ds) G := by
 have hpl := rA w
 have z2 : (2 : Nat) ≤ sizeLine := lz (by omega)
 have hc := iQ (gO := oT 2) (ks := []) (tt := gS) (te := av bY (af (aM ia (ai 0) (eC (.int 0))) (af (ai 1) (aq)))) (own := fun q : (Str × Lk) × Lk => [Eb q.1, q.2.D]) (dat := fun q => .tup [Eb q.1, q.2.D]) (f := fun q => D.tup [.str q.1.1, q.2.D]) (c := fun _ => true) (G := G) (τ := τ) (w.ps.zip ls) [] (by simp; omega) (fun _ _ => rfl) (fun i hi acc => rfl) (fun q hq acc => by
  have e : ∀ r : DS, (([Eb q.1, q.2.D] : List D).map some ++ r) = some (Eb q.1) :: some q.2.D :: r := fun r => rfl
  rw [e]
  generalize mask [] τ = r
  simp! [Eb, DX, z2])
 rw [List.nil_append, List.filter_eq_self.mpr (fun _ _ => rfl), ← CM w ls hl, ← BR w ls hl] at hc
 have hcl : aQ (AU w ls).Ds = true := Gk _
 rw [jI, vN, hmi, jG]
 dsimp only
 rw [BS, hc]
 exact yK hcl
theorem CO (w : Wy) (ls : List Lk) (hl : ls.length = w.ps.length) : (AU w ls).Ds.length = w.ps.length := by
 rw [BR w ls hl]; simp [hl]
theorem IL (l : Lk) (ls : List Lk) (hl : ls.length = (csl l).length) (hz : l.sz ≤ 1000) (G : DH) : jJ [l.D, .con (ls.map Lk.D)] G = .ok (rb l ls).D G := by
 have z1 : (1 : Nat) ≤ sizeLine := lz (by omega)
 have z2 : (2 : Nat) ≤ sizeLine := lz (by omega)
 have z3 : (3 : Nat) ≤ sizeLine := lz (by omega)
 unfold jJ
 refine rZ ?_ (nO _)
 cases l with
 | any =>
  have : ls = [] := List.length_eq_zero_iff.mp (by simpa [csl] using hl)
  subst this
  simp! [fD, Lk.D, Jy, CH, rb, ju]
 | kind s =>
  have : ls = [] := List.length_eq_zero_iff.mp (by simpa [csl] using hl)
  subst this
  simp! [fD, Lk.D, DX, zw, rb, ju]
 | not l =>
  match ls, hl with
  | [a], _ =>
   simp! [fD, Lk.D, DX, CI, rb, ju, z1, z2, fK, bY]
 | bin e l r =>
  match ls, hl with
  | [a, b], _ =>
   simp! [fD, Lk.D, OM, CJ, rb, ju, z1, z2, z3, fK, bY]
 | way w =>
  have hl' : ls.length = w.ps.length := by simpa [csl] using hl
  rw [Lk.sz] at hz
  have hpl := rA w
  have IM := N9 w ls hl' (by omega) [some (.tup [.str "way", .tup w.Ds]), some (.con (ls.map Lk.D))] G (vY (af (aM ia (ai 0) (eC (.int 1))) (af (ai 1) (aq)))) (by
   generalize w.Ds = ws
   generalize ls.map Lk.D = lD
   simp only [CN, g9, Ck, jm, Dy, List.getElem?_cons_succ, List.getElem?_cons_zero, jG, bK, ia, bS, LR, kB, uq, cX])
  have hrl := CO w ls hl'
  have Oa : (AU w ls).Ds.length ≤ sizeLine := lz (by omega)
  have eD : (rb (.way w) ls).D = .tup [.str "way", .tup (AU w ls).Ds] := by rw [rb, Lk.D]
  have eW : (Lk.way w).D = .tup [.str "way", .tup w.Ds] := by rw [Lk.D]
  rw [eD, eW]
  generalize (AU w ls).Ds = rs at IM Oa
  generalize w.Ds = ws at IM
  generalize ls.map Lk.D = lD at IM
  simp! [fD, DX, CK, IM, fK, bY, Oa, z2]
noncomputable def Rk (k off : Nat) (v : Int) : Prop := (off ≤ k ∧ v = (k : Int) - (off : Int)) ∨ (k < off ∧ v < 0)
theorem Ff (A B E : DH) (x y : DO) : (A ++ x :: (B ++ y :: E))[A.length + (B.length + 1)]? = some y := by
 have e : A ++ x :: (B ++ y :: E) = (A ++ x :: B) ++ y :: E := by simp
 have l : A.length + (B.length + 1) = (A ++ x :: B).length := by simp
 rw [e, l]
 exact wK _ _ _
theorem hs2 (A B E : DH) (x y z : DO) : (A ++ x :: (B ++ y :: E)).set (A.length + (B.length + 1)) z = A ++ x :: (B ++ z :: E) := by
 have e : A ++ x :: (B ++ y :: E) = (A ++ x :: B) ++ y :: E := by simp
 have l : A.length + (B.length + 1) = (A ++ x :: B).length := by simp
 rw [e, l, Ad]
 simp
noncomputable def BU (r : List D → M D) (k : Nat) (l : Lk) : Prop := ∀ (off : Nat) (v : Int) (A B : DH), Rk k off v → ∃ (v' : Int) (E : DH), Rk k (off + l.sz) v' ∧ r [l.D, .obj A.length] (A ++ .lst [.int v] :: B) = .ok (jU k l off).D (A ++ .lst [.int v'] :: (B ++ E))
theorem yb {r : List D → M D} {k : Nat} (A B : DH) (a0 a2 : Option D) : ∀ (ls : List Lk), (∀ l ∈ ls, BU r k l) → ∀ (off : Nat) (v : Int) (acc : List D) (E : DH), Rk k off v → acc.length + ls.length ≤ 1000 → ∃ (v' : Int) (E' : DH), Rk k (off + szl ls) v' ∧
  cE oN [false, true] gS (aH 2 r (af (ai 0) (af (ai 2) (aq)))) (A.length + (B.length + 1)) (ls.map Lk.D) [a0, some (.obj A.length), a2] (A ++ .lst [.int v] :: (B ++ .lst acc :: E)) =
   .ok (.obj (A.length + (B.length + 1))) (A ++ .lst [.int v'] :: (B ++ .lst (acc ++ (gQ k ls off).map Lk.D) :: E'))
 | [], _, off, v, acc, E, hv, _ => ⟨v, E, by simpa [szl] using hv, by simp [cE, gQ]⟩
 | l :: ls, hr, off, v, acc, E, hv, hl => by
  simp only [List.length_cons] at hl
  obtain ⟨v1, E1, hv1, e1⟩ := hr l (by simp) off v A (B ++ .lst acc :: E) hv
  obtain ⟨v2, E2, hv2, e2⟩ := yb A B a0 a2 ls (fun x hx => hr x (by simp [hx])) (off + l.sz) v1 (acc ++ [(jU k l off).D]) (E ++ E1) hv1 (by simp; omega)
  refine ⟨v2, E2, by rw [szl, ← Nat.add_assoc]; exact hv2, ?_⟩
  simp only [List.append_assoc, List.cons_append] at e1
  have hz : acc.length < sizeLine := Nat.lt_of_lt_of_le (by omega) (lz (n := 2000) (by omega))
  have ht : aH 2 r (af (ai 0) (af (ai 2) (aq))) (([l.D] : List D).map some ++ mask [false, true] [a0, some (.obj A.length), a2]) (A ++ .lst [.int v] :: (B ++ .lst acc :: E)) = .ok (jU k l off).D (A ++ .lst [.int v1] :: (B ++ .lst acc :: (E ++ E1))) := by
   simp! [mask, e1]
  have eo : cH oN [false, true] gS (aH 2 r (af (ai 0) (af (ai 2) (aq)))) (A.length + (B.length + 1)) l.D [a0, some (.obj A.length), a2] (A ++ .lst [.int v] :: (B ++ .lst acc :: E)) = .ok () (A ++ .lst [.int v1] :: (B ++ .lst (acc ++ [(jU k l off).D]) :: (E ++ E1))) := by
   simp only [cH, oN, gS, M.ret, ht, Ff, if_pos hz, hs2]
  rw [List.map_cons, cE, eo]
  dsimp only
  rw [e2, gQ]
  simp
theorem IP {k off : Nat} {v : Int} (h : Rk k off v) (hn : v ≠ 0) : Rk k (off + 1) (v - 1) := by
 rcases h with ⟨h1, h2⟩ | ⟨h1, h2⟩
 ·exact .inl ⟨by omega, by omega⟩
 ·exact .inr ⟨by omega, by omega⟩
theorem DY (r : List D → M D) (l : Lk) (ls : List Lk) (hl : ls.length = (csl l).length) (hz : l.sz ≤ 1000) (a1 : Option D) (G : DH) : fM r [some l.D, a1, some (.con (ls.map Lk.D))] G = .rt (rb l ls).D G := by
 have z1 : (1 : Nat) ≤ sizeLine := lz (by omega)
 have z2 : (2 : Nat) ≤ sizeLine := lz (by omega)
 have z3 : (3 : Nat) ≤ sizeLine := lz (by omega)
 cases l with
 | any =>
  have : ls = [] := List.length_eq_zero_iff.mp (by simpa [csl] using hl)
  subst this
  simp! [fM, Lk.D, Jy, CH, Gq, rb, z3]
 | kind s =>
  have : ls = [] := List.length_eq_zero_iff.mp (by simpa [csl] using hl)
  subst this
  simp! [fM, Lk.D, DX, zw, BQ, rb, z3]
 | not l =>
  match ls, hl with
  | [a], _ => simp! [fM, Lk.D, DX, CI, Gr, rb, z1, z2, z3, fK, bY]
 | bin e l r =>
  match ls, hl with
  | [a, b], _ => simp! [fM, Lk.D, OM, CJ, Gs, rb, z1, z2, z3, fK, bY]
 | way w =>
  have hl' : ls.length = w.ps.length := by simpa [csl] using hl
  rw [Lk.sz] at hz
  have hpl := rA w
  have IM := N9 w ls hl' (by omega) [some (.tup [.str "way", .tup w.Ds]), a1, some (.con (ls.map Lk.D))] G (vY (af (aM ia (ai 0) (eC (.int 1))) (af (ai 2) (aq)))) (by
   generalize w.Ds = ws
   generalize ls.map Lk.D = lD
   simp only [CN, g9, Ck, jm, Dy, List.getElem?_cons_succ, List.getElem?_cons_zero, jG, bK, ia, bS, LR, kB, uq, cX])
  have hrl := CO w ls hl'
  have Oa : (AU w ls).Ds.length ≤ sizeLine := lz (by omega)
  have eD : (rb (.way w) ls).D = .tup [.str "way", .tup (AU w ls).Ds] := by rw [rb, Lk.D]
  have eW : (Lk.way w).D = .tup [.str "way", .tup w.Ds] := by rw [Lk.D]
  rw [eD, eW]
  generalize (AU w ls).Ds = rs at IM Oa
  generalize w.Ds = ws at IM
  generalize ls.map Lk.D = lD at IM
  simp! [fM, DX, CK, IM, fK, bY, Oa, z2]
theorem CP (k : Nat) : ∀ (n : Nat) (l : Lk), l.dep ≤ n → l.sz ≤ 1000 → BU (aP n) k l
 | 0, l, h, _ => by cases l <;> simp [Lk.dep] at h
 | n + 1, l, h, hz => by
  intro off v A B hv
  have hq := x8 l
  have g0 : ∀ x Y, (A ++ x :: Y)[A.length]? = some x := fun x Y => wK A x Y
  have s0 : ∀ x z Y, (A ++ x :: Y).set A.length z = A ++ z :: Y := fun x z Y => Ad A x z Y
  have z1 : (1 : Nat) ≤ sizeLine := lz (by omega)
  have S1 : (jj (aM mD (aM ia (ai 1) (eC (.int 0))) (eC (.int 1))) (ai 1) (eC (.int 0))) [some l.D, some (.obj A.length), none] (A ++ .lst [.int v] :: B) = .nx [some l.D, some (.obj A.length), none] (A ++ .lst [.int (v - 1)] :: B) := by
   generalize l.D = ld
   have ix : A0 1 0 = some 0 := by decide +kernel
   simp! [mH, g0, Jy, lP, s0, ix]
  have hneg : ∀ G, zS (eC (.int 1)) [some l.D, some (.obj A.length), none] G = .ok (.int (-1)) G := fun G => rfl
  by_cases h0 : v = 0
  ·subst h0
   have hk : off = k := by
    rcases hv with ⟨h1, h2⟩ | ⟨h1, h2⟩
    ·omega
    ·omega
   subst hk
   refine ⟨-1, [], .inr ⟨by have := wG l; omega, by omega⟩, ?_⟩
   rw [Gx, List.append_nil]
   have eA : Lk.any.D = .tup [.str "any"] := by rw [Lk.D]
   rw [eA]
   unfold aP
   rw [lR]
   show (fF (aP n) [some l.D, some (.obj A.length), none] (A ++ .lst [.int 0] :: B)).fn = _
   rw [fF, bu, S1, ck]
   generalize l.D = ld at hneg
   simp! [g0, Jy, ju, hneg, z1]
  ·obtain ⟨v2, E2, hv2, e2⟩ := yb (r := aP n) A B (some l.D) none (csl l) (fun c hc => CP k n c (CL l h c hc) (by have := vh hc; omega)) (off + 1) (v - 1) [] [] (IP hv h0) (by have := BP (csl l); simp; omega)
   have hok : off ≠ k := by
    rintro rfl
    rcases hv with ⟨h1, h2⟩ | ⟨h1, h2⟩ <;> omega
   refine ⟨v2, .dead :: E2, by rw [hq, ← Nat.add_assoc]; exact hv2, ?_⟩
   rw [Gy hok]
   rw [List.nil_append] at e2
   have ei := fun G => AO l hz G
   have ft := DY (aP n) l (gQ k (csl l) (off + 1)) (mT ..) hz (some (.obj A.length)) (A ++ .lst [.int v2] :: (B ++ .dead :: E2))
   have hne : ¬ (v - 1 = -1) := by omega
   have Rb : ((v - 1 : Int) == -1) = false := beq_eq_false_iff_ne.mpr hne
   have S2 : (rB (lO (aM (mZ false) (aM ia (ai 1) (eC (.int 0))) (zS (eC (.int 1))))) (dO (av bY (af (eC (.str "any")) (aq)))) (eE)) [some l.D, some (.obj A.length), none] (A ++ .lst [.int (v - 1)] :: B) = .nx [some l.D, some (.obj A.length), none] (A ++ .lst [.int (v - 1)] :: B) := by
    generalize l.D = ld at hneg
    simp! [g0, Jy, ju, hneg, Rb]
   have en : (A ++ .lst [.int (v - 1)] :: B).length = A.length + (B.length + 1) := by simp
   have S3 : (br 2 (uu (je oN [false, true] (aH 1 bO (af (ai 0) (aq))) (gS) (aH 2 (aP n) (af (ai 0) (af (ai 2) (aq))))))) [some l.D, some (.obj A.length), none] (A ++ .lst [.int (v - 1)] :: B) = .nx [some l.D, some (.obj A.length), some (.con ((gQ k (csl l) (off + 1)).map Lk.D))] (A ++ .lst [.int v2] :: (B ++ .dead :: E2)) := by
    have ec : je oN [false, true] (aH 1 bO (af (ai 0) (aq))) (gS) (aH 2 (aP n) (af (ai 0) (af (ai 2) (aq)))) [some l.D, some (.obj A.length), none] (A ++ .lst [.int (v - 1)] :: B) = .ok (.obj (A.length + (B.length + 1))) (A ++ .lst [.int v2] :: (B ++ .lst ((gQ k (csl l) (off + 1)).map Lk.D) :: E2)) := by
     rw [rT]
     have e3 : aH 1 bO (af (ai 0) (aq)) [some l.D, some (.obj A.length), none] (A ++ .lst [.int (v - 1)] :: B) = .ok (.con ((csl l).map Lk.D)) (A ++ .lst [.int (v - 1)] :: B) := by
      have := ei (A ++ .lst [.int (v - 1)] :: B)
      generalize l.D = ld at this
      simp! [this]
     rw [e3, jG]
     dsimp only
     rw [en, show (A ++ .lst [.int (v - 1)] :: B) ++ [DO.lst []] = A ++ .lst [.int (v - 1)] :: (B ++ .lst [] :: []) by simp]
     exact e2
    rw [qH]
    unfold uu
    rw [ec]
    dsimp only
    rw [Ff]
    dsimp only
    rw [hs2, vL]
    rfl
   unfold aP
   rw [lR]
   show (fF (aP n) [some l.D, some (.obj A.length), none] (A ++ .lst [.int v] :: B)).fn = _
   rw [fF, bu, S1, ck, bu, S2, ck, bu, S3, ck, ft]
   rfl
end K71
end
section
set_option Elab.async false
set_option linter.all false
set_option maxRecDepth 100000
set_option maxHeartbeats 1000000
namespace K71
open PySem PySem.Spec L2 L3
theorem AV {r : List D → M D} {k : Nat} (A B : DH) (a0 a1 : Option D) : ∀ (w : Wy), (∀ l ∈ w.ps.map (·.2), BU r k l) → ∀ (off : Nat) (v : Int) (acc : List D) (E : DH), Rk k off v → acc.length + w.ps.length ≤ 1000 → ∃ (v' : Int) (E' : DH), Rk k (off + w.sz) v' ∧
  cE (oT 2) [false, false, true] gS (av bY (af (ai 0) (af (aH 2 r (af (ai 1) (af (ai 4) (aq)))) (aq)))) (A.length + (B.length + 1)) w.Ds [a0, a1, some (.obj A.length)] (A ++ .lst [.int v] :: (B ++ .lst acc :: E)) =
   .ok (.obj (A.length + (B.length + 1))) (A ++ .lst [.int v'] :: (B ++ .lst (acc ++ (gB k w off).Ds) :: E'))
 | .nil, _, off, v, acc, E, hv, _ => ⟨v, E, by simpa [Wy.sz] using hv, by simp [cE, gB, Wy.Ds]⟩
 | .cons g l w, hr, off, v, acc, E, hv, hl => by
  simp only [Wy.ps, List.length_cons] at hl
  obtain ⟨v1, E1, hv1, e1⟩ := hr l (by simp [Wy.ps]) off v A (B ++ .lst acc :: E) hv
  obtain ⟨v2, E2, hv2, e2⟩ := AV A B a0 a1 w (fun x hx => hr x (by simp only [Wy.ps, List.map_cons, List.mem_cons]; exact .inr hx)) (off + l.sz) v1 (acc ++ [.tup [.str g, (jU k l off).D]]) (E ++ E1) hv1 (by simp; omega)
  refine ⟨v2, E2, by rw [Wy.sz, ← Nat.add_assoc]; exact hv2, ?_⟩
  simp only [List.append_assoc, List.cons_append] at e1
  have hz : acc.length < sizeLine := Nat.lt_of_lt_of_le (by omega) (lz (n := 2000) (by omega))
  have z2 : (2 : Nat) ≤ sizeLine := lz (by omega)
  have ht : av bY (af (ai 0) (af (aH 2 r (af (ai 1) (af (ai 4) (aq)))) (aq))) (([.str g, l.D] : List D).map some ++ mask [false, false, true] [a0, a1, some (.obj A.length)]) (A ++ .lst [.int v] :: (B ++ .lst acc :: E)) = .ok (.tup [.str g, (jU k l off).D]) (A ++ .lst [.int v1] :: (B ++ .lst acc :: (E ++ E1))) := by
   simp! [mask, e1, z2]
  have eo : cH (oT 2) [false, false, true] gS (av bY (af (ai 0) (af (aH 2 r (af (ai 1) (af (ai 4) (aq)))) (aq)))) (A.length + (B.length + 1)) (.tup [.str g, l.D]) [a0, a1, some (.obj A.length)] (A ++ .lst [.int v] :: (B ++ .lst acc :: E)) = .ok () (A ++ .lst [.int v1] :: (B ++ .lst (acc ++ [.tup [.str g, (jU k l off).D]]) :: (E ++ E1))) := by
   have ho : oT 2 (.tup [.str g, l.D]) = some [.str g, l.D] := rfl
   simp only [cH, ho, gS, M.ret, ht, Ff, if_pos hz, hs2]
  rw [Wy.Ds, cE, eo]
  dsimp only
  rw [e2, gB, Wy.Ds]
  simp
theorem BV : ∀ {w : Wy} {l : Lk}, l ∈ w.ps.map (·.2) → l.dep ≤ w.dep ∧ l.sz ≤ w.sz
 | .nil, l, h => by simp [Wy.ps] at h
 | .cons g a w, l, h => by
  simp only [Wy.ps, List.map_cons, List.mem_cons] at h
  rw [Wy.dep, Wy.sz]
  rcases h with rfl | h
  ·omega
  ·have := BV h; omega
theorem AW (k : Nat) : ∀ (w : Wy) (o : Nat), (gB k w o).Ds.length = w.ps.length
 | .nil, o => rfl
 | .cons g l w, o => by rw [gB, Wy.Ds, List.length_cons, AW k w, Wy.ps, List.length_cons]
theorem Lx (w : Wy) (k : Nat) (hd : w.dep ≤ 60) (hz : w.sz ≤ 900) (G : DH) : kD [.tup w.Ds, .int (k : Int)] G = .ok (.tup (gB k w 0).Ds) G := by
 have hpl := rA w
 obtain ⟨v', E, _, e⟩ := AV (r := aP 60) (k := k) G [] (some (.tup w.Ds)) (some (.int (k : Int))) w (fun l hl => CP k 60 l (by have := BV hl; omega) (by have := BV hl; omega)) 0 (k : Int) [] [] (.inl ⟨by omega, by simp⟩) (by simp; omega)
 have z1 : (1 : Nat) ≤ sizeLine := lz (by omega)
 have To : (gB k w 0).Ds.length ≤ sizeLine := lz (by rw [AW]; omega)
 have hcl : (D.tup (gB k w 0).Ds).closed = true := by rw [D.closed]; exact Gk _
 have hg := Ff G [] E (.lst [.int v']) (.lst (gB k w 0).Ds)
 have hs := hs2 G [] E (.lst [.int v']) (.lst (gB k w 0).Ds) .dead
 simp only [List.nil_append, List.length_nil] at hg hs e
 unfold kD
 refine lq (R := .lst [.int v'] :: .dead :: E) ?_ hcl
 have ec : je (oT 2) [false, false, true] (ai 0) (gS) (av bY (af (ai 0) (af (aH 2 lC (af (ai 1) (af (ai 4) (aq)))) (aq)))) [some (.tup w.Ds), some (.int (k : Int)), some (.obj G.length)] (G ++ [.lst [.int (k : Int)]]) = .ok (.obj (G.length + (0 + 1))) (G ++ .lst [.int v'] :: .lst (gB k w 0).Ds :: E) := by
  rw [rT, jm]
  simp only [List.getElem?_cons_zero, jG]
  rw [show (G ++ [DO.lst [.int (k : Int)]]).length = G.length + (0 + 1) by simp, show (G ++ [DO.lst [.int (k : Int)]]) ++ [DO.lst []] = G ++ .lst [.int (k : Int)] :: [.lst []] by simp]
  exact e
 have ef : uu (je (oT 2) [false, false, true] (ai 0) (gS) (av bY (af (ai 0) (af (aH 2 lC (af (ai 1) (af (ai 4) (aq)))) (aq))))) [some (.tup w.Ds), some (.int (k : Int)), some (.obj G.length)] (G ++ [.lst [.int (k : Int)]]) = .ok (.con (gB k w 0).Ds) (G ++ .lst [.int v'] :: .dead :: E) := by
  unfold uu
  rw [ec]
  dsimp only
  rw [hg]
  dsimp only
  rw [hs]
 have n1 : bU [.int (k : Int)] G = .ok (.obj G.length) (G ++ [.lst [.int (k : Int)]]) := by simp [bU, z1]
 generalize (gB k w 0).Ds = cs at To ef
 generalize w.Ds = ws at ef
 have S1 : (br 2 (av bU (af (ai 1) (aq)))) [some (.tup ws), some (.int (k : Int)), none] G = .nx [some (.tup ws), some (.int (k : Int)), some (.obj G.length)] (G ++ [.lst [.int (k : Int)]]) := by
  simp! [n1]
 rw [lR]
 show (kC [some (.tup ws), some (.int (k : Int)), none] G).fn = _
 rw [kC, bu, S1, ck, yG, pH, g9, ef]
 simp! [fK, bY, To]
end K71
end
section
set_option Elab.async false
set_option linter.all false
set_option maxRecDepth 100000
set_option maxHeartbeats 1000000
namespace K71
open PySem PySem.Spec L2 L3
theorem Jz (G Z : DH) (x y : DO) : (G ++ x :: (Z ++ [y]))[G.length + (Z.length + 1)]? = some y := by
 have e : G ++ x :: (Z ++ [y]) = (G ++ x :: Z) ++ y :: [] := by simp
 have l : G.length + (Z.length + 1) = (G ++ x :: Z).length := by simp
 rw [e, l]
 exact wK _ _ _
theorem JA (G Z : DH) (x y z : DO) : (G ++ x :: (Z ++ [y])).set (G.length + (Z.length + 1)) z = G ++ x :: (Z ++ [z]) := by
 have e : G ++ x :: (Z ++ [y]) = (G ++ x :: Z) ++ y :: [] := by simp
 have l : G.length + (Z.length + 1) = (G ++ x :: Z).length := by simp
 rw [e, l, Ad]
 simp
theorem yc (G Z : DH) (a0 a1 a2 a4 : Option D) (B : List D) : ∀ (xs : List D) (j : Nat) (ps : List D) (a6 : Option D), ps.length + xs.length ≤ 1000 →
  ∃ b6, dY (gN 6) mJ ((List.range' j xs.length).map fun (k : Nat) => .int (0 + (k : Int))) [a0, a1, a2, some (.obj G.length), a4, some (.obj (G.length + (Z.length + 1))), a6] (G ++ .lst (B ++ xs.reverse) :: (Z ++ [.lst ps])) =
   .nx [a0, a1, a2, some (.obj G.length), a4, some (.obj (G.length + (Z.length + 1))), b6] (G ++ .lst B :: (Z ++ [.lst (ps ++ xs)]))
 | [], j, ps, a6, _ => ⟨a6, by simp [dY]⟩
 | x :: xs, j, ps, a6, h => by
  simp only [List.length_cons] at h
  obtain ⟨b6, e⟩ := yc G Z a0 a1 a2 a4 B xs (j + 1) (ps ++ [x]) (some (.int (0 + (j : Int)))) (by simp; omega)
  refine ⟨b6, ?_⟩
  have hz : ps.length < sizeLine := Nat.lt_of_lt_of_le (by omega) (lz (n := 2000) (by omega))
  have er : B ++ (x :: xs).reverse = (B ++ xs.reverse) ++ [x] := by simp
  rw [er]
  generalize B ++ xs.reverse = C at e
  have hdl : (C ++ [x]).dropLast = C := List.dropLast_concat
  have hix : (C ++ [x])[(C ++ [x]).length - 1]? = some x := by simp
  have g1 := fun x y => Jz G Z x y
  have s1 := fun x y z => JA G Z x y z
  have g0 : ∀ x y, (G ++ x :: (Z ++ [y]))[G.length]? = some x := fun x y => wK G x _
  have s0 : ∀ x y z, (G ++ x :: (Z ++ [y])).set G.length z = G ++ z :: (Z ++ [y]) := fun x y z => Ad G x z _
  have ep : cU "list" uL (ai 3) aq [a0, a1, a2, some (.obj G.length), a4, some (.obj (G.length + (Z.length + 1))), some (.int (0 + (j : Int)))] (G ++ .lst (C ++ [x]) :: (Z ++ [.lst ps])) = .ok x (G ++ .lst C :: (Z ++ [.lst ps])) := by
   simp only [mE, jm, List.getElem?_cons_succ, List.getElem?_cons_zero, jG, iM, g0, kB, uL, hix, hdl, beq_self_eq_true, if_true, s0]
  have e1 : mJ [a0, a1, a2, some (.obj G.length), a4, some (.obj (G.length + (Z.length + 1))), some (.int (0 + (j : Int)))] (G ++ .lst (C ++ [x]) :: (Z ++ [.lst ps])) = .nx [a0, a1, a2, some (.obj G.length), a4, some (.obj (G.length + (Z.length + 1))), some (.int (0 + (j : Int)))] (G ++ .lst C :: (Z ++ [.lst (ps ++ [x])])) := by
   simp only [mJ, ve, mE (g := dW), jm, List.getElem?_cons_succ, List.getElem?_cons_zero, jG, iM, g1, g9, ep, kB, bK, uq, dW, beq_self_eq_true, if_true, hz, s1, Cj]
  rw [List.length_cons, List.range'_succ, List.map_cons, fZ rfl]
  simp only [List.set_cons_succ, List.set_cons_zero, e1, mF]
  rw [e]
  simp
theorem JB : Lk.any.D = .tup [.str "any"] := by rw [Lk.D]
theorem IQ (l : Lk) (ls : List Lk) (hl : ls.length = (csl l).length) (hz : l.sz ≤ 1000) (A B : DH) (ms : List D) (hm : ms.length ≤ 5000) (b : Int) :
  dD [l.D, .con (ls.map Lk.D), .obj A.length, .int b] (A ++ .lst ms :: B) = .ok (if (ms.length : Int) = b then Lk.any else rb l ls).D (A ++ .lst (ms ++ [l.D]) :: B) := by
 have g0 : ∀ x Y, (A ++ x :: Y)[A.length]? = some x := fun x Y => wK A x Y
 have s0 : ∀ x z Y, (A ++ x :: Y).set A.length z = A ++ z :: Y := fun x z Y => Ad A x z Y
 have hz1 : ms.length < sizeLine := Nat.lt_of_lt_of_le (by omega) (lz (n := 6000) (by omega))
 have hz2 : ms.length + 1 ≤ sizeLine := lz (by omega)
 have ew := fun G => IL l ls hl hz G
 unfold dD
 by_cases hb : (ms.length : Int) = b
 ·subst hb
  rw [if_pos rfl, JB]
  generalize l.D = ld
  generalize ls.map Lk.D = lD
  simp! [jz, g0, s0, hz1, hz2, ju, Cp, CC, pY]
 ·rw [if_neg hb]
  have LI : ((ms.length : Int) == b) = false := beq_eq_false_iff_ne.mpr hb
  generalize (rb l ls).D = rd at ew
  generalize l.D = ld at ew
  generalize ls.map Lk.D = lD at ew
  simp! [jz, g0, s0, hz1, hz2, ju, LI, Cp, ew, pY]
theorem Ly : List.lookup ("let_go" : Str) [("let_go", ((2 : Nat), dD))] = some (2, dD) := by
 simp only [List.lookup, beq_self_eq_true]
theorem AX (A Z : DH) (a0 a5 a6 : Option D) (B ms : List D) (b : Int) (t : Lk) (ls : List Lk) (hl : ls.length = (csl t).length) (hz : t.sz ≤ 1000) (hm : ms.length ≤ 5000) (hB : B.length ≤ 5000) :
  ∃ (b5 b6 : Option D), iC [a0, some (.fn "look_parts"), some (.lN "let_go" [.obj A.length, .int b]), some (.obj (A.length + 1)), some t.D, a5, a6] (A ++ .lst ms :: .lst (B ++ (ls.map Lk.D).reverse) :: Z) =
   .nx [a0, some (.fn "look_parts"), some (.lN "let_go" [.obj A.length, .int b]), some (.obj (A.length + 1)), some t.D, b5, b6] (A ++ .lst (ms ++ [t.D]) :: .lst (B ++ [(if (ms.length : Int) = b then Lk.any else rb t ls).D]) :: (Z ++ [.dead])) := by
 have hlt := BP (csl t)
 have WL := x8 t
 have WM : ls.length ≤ 1000 := by omega
 have eG : ∀ (x y : DO) (Y : DH), (A ++ [x]) ++ y :: Y = A ++ x :: y :: Y := fun x y Y => by simp
 have eL : ∀ x : DO, (A ++ [x]).length = A.length + 1 := fun x => by simp
 obtain ⟨b6, e⟩ := yc (A ++ [.lst ms]) Z a0 (some (.fn "look_parts")) (some (.lN "let_go" [.obj A.length, .int b])) (some t.D) B (ls.map Lk.D) 0 [] a6 (by simp; omega)
 have ep := fun G => AN t hz G
 have em := IQ t ls hl hz A (.lst B :: (Z ++ [.dead])) ms hm b
 have hr := pG (j := (ls.length : Int)) (by omega) (by omega)
 rw [Int.toNat_natCast] at hr
 rw [List.length_map] at e
 simp only [List.nil_append, eL, eG] at e
 have hcl : ((csl t).map Lk.D).length = ls.length := by rw [List.length_map, hl]
 generalize (if (ms.length : Int) = b then Lk.any else rb t ls).D = rd at em ⊢
 generalize t.D = td at e ep em
 generalize (csl t).map Lk.D = cD at ep hcl
 generalize ((List.range' 0 ls.length).map fun (k : Nat) => D.int (0 + (k : Int))) = rg at hr e
 have JC : ls.length ≤ sizeLine := lz (by omega)
 have V2 : B.length < sizeLine := Nat.lt_of_lt_of_le (by omega) (lz (n := 6000) (by omega))
 generalize ls.map Lk.D = lD at e em
 refine ⟨some (.obj (A.length + 1 + (Z.length + 1))), b6, ?_⟩
 have n0 : ∀ M N : DO, bU [] (A ++ M :: N :: Z) = .ok (.obj (A.length + 1 + (Z.length + 1))) (A ++ M :: N :: (Z ++ [.lst []])) := fun M N => by simp [bU]; omega
 have V3 : ∀ (M N : DO) (y : DO), (A ++ M :: N :: (Z ++ [y]))[A.length + 1 + (Z.length + 1)]? = some y := fun M N y => by
  have := Jz (A ++ [M]) Z N y
  rw [eG, eL] at this
  exact this
 have hsz : ∀ (M N : DO) (y z : DO), (A ++ M :: N :: (Z ++ [y])).set (A.length + 1 + (Z.length + 1)) z = A ++ M :: N :: (Z ++ [z]) := fun M N y z => by
  have := JA (A ++ [M]) Z N y z
  rw [eG, eL, eG] at this
  exact this
 have g1 : ∀ x y Y, (A ++ x :: y :: Y)[A.length + 1]? = some y := fun x y Y => M5 A x y Y
 have s1 : ∀ x y z Y, (A ++ x :: y :: Y).set (A.length + 1) z = A ++ x :: z :: Y := fun x y z Y => RK A x y z Y
 have S1 : (br 5 (av bU (aq))) [a0, some (.fn "look_parts"), some (.lN "let_go" [.obj A.length, .int b]), some (.obj (A.length + 1)), some td, a5, a6] (A ++ .lst ms :: .lst (B ++ lD.reverse) :: Z) = .nx [a0, some (.fn "look_parts"), some (.lN "let_go" [.obj A.length, .int b]), some (.obj (A.length + 1)), some td, some (.obj (A.length + 1 + (Z.length + 1))), a6] (A ++ .lst ms :: .lst (B ++ lD.reverse) :: (Z ++ [.lst []])) := by
  simp only [qH, pH, kB, jG, n0, vL, List.set_cons_succ, List.set_cons_zero]
 have S2 : (iL ko (gN 6) (af (av kq (af (tR 1 1 (fun y => List.lookup y [("look_parts", cI)]) (af (ai 4) (aq))) (aq))) (aq)) mJ) [a0, some (.fn "look_parts"), some (.lN "let_go" [.obj A.length, .int b]), some (.obj (A.length + 1)), some td, some (.obj (A.length + 1 + (Z.length + 1))), a6] (A ++ .lst ms :: .lst (B ++ lD.reverse) :: (Z ++ [.lst []])) = .nx [a0, some (.fn "look_parts"), some (.lN "let_go" [.obj A.length, .int b]), some (.obj (A.length + 1)), some td, some (.obj (A.length + 1 + (Z.length + 1))), b6] (A ++ .lst ms :: .lst B :: (Z ++ [.lst lD])) := by
  simp! [Gw, ep, hcl, JC, hr, e]
 have eA : (af (ai 4) (af (uu (ai 5)) (aq))) [a0, some (.fn "look_parts"), some (.lN "let_go" [.obj A.length, .int b]), some (.obj (A.length + 1)), some td, some (.obj (A.length + 1 + (Z.length + 1))), b6] (A ++ .lst ms :: .lst B :: (Z ++ [.lst lD])) = .ok [td, .con lD] (A ++ .lst ms :: .lst B :: (Z ++ [.dead])) := by
  have ef : uu (ai 5) [a0, some (.fn "look_parts"), some (.lN "let_go" [.obj A.length, .int b]), some (.obj (A.length + 1)), some td, some (.obj (A.length + 1 + (Z.length + 1))), b6] (A ++ .lst ms :: .lst B :: (Z ++ [.lst lD])) = .ok (.con lD) (A ++ .lst ms :: .lst B :: (Z ++ [.dead])) := by
   unfold uu
   rw [jm]
   simp only [List.getElem?_cons_succ, List.getElem?_cons_zero, V3, hsz]
  simp only [g9, jm, List.getElem?_cons_succ, List.getElem?_cons_zero, jG, bK, ef, kB, uq]
 have eC : vZ 2 2 (fun y => List.lookup y [("let_go", (2, dD))]) (af (ai 4) (af (uu (ai 5)) (aq))) [a0, some (.fn "look_parts"), some (.lN "let_go" [.obj A.length, .int b]), some (.obj (A.length + 1)), some td, some (.obj (A.length + 1 + (Z.length + 1))), b6] (A ++ .lst ms :: .lst B :: (Z ++ [.lst lD])) = .ok rd (A ++ .lst (ms ++ [td]) :: .lst B :: (Z ++ [.dead])) := by
  unfold vZ
  simp only [List.getElem?_cons_succ, List.getElem?_cons_zero]
  rw [bK, eA, jG]
  unfold yR
  simp only [List.getElem?_cons_succ, List.getElem?_cons_zero, Ly]
  exact em
 rw [iC, bu, S1, ck, bu, S2, ck, ve, mE (g := dW), jm]
 simp only [List.getElem?_cons_succ, List.getElem?_cons_zero, jG, iM, g1, g9, eC, bK, kB, uq, dW, beq_self_eq_true, if_true, V2, s1, Cj]
noncomputable def Gz (A : DH) (a0 : Option D) (b : Int) (k S : Nat) (t : Lk) : Prop := ∀ (off : Nat) (ms B : List D) (Z : DH) (a4 a5 a6 : Option D), ms.length + off + t.sz = S → B.length + t.sz ≤ 4000 → ∃ (ms' : List D) (Z' : DH) (b4 b5 b6 : Option D), ms'.length = ms.length + t.sz ∧ ∀ rest : List D,
  dY (gN 4) iC (t.pre.reverse.map Lk.D ++ rest) [a0, some (.fn "look_parts"), some (.lN "let_go" [.obj A.length, .int b]), some (.obj (A.length + 1)), a4, a5, a6] (A ++ .lst ms :: .lst B :: Z) =
  dY (gN 4) iC rest [a0, some (.fn "look_parts"), some (.lN "let_go" [.obj A.length, .int b]), some (.obj (A.length + 1)), b4, b5, b6] (A ++ .lst ms' :: .lst (B ++ [(jU k t off).D]) :: Z')
theorem zy (A : DH) (a0 : Option D) (b : Int) (k S : Nat) : ∀ (ts : List Lk), (∀ t ∈ ts, Gz A a0 b k S t) → ∀ (off : Nat) (ms B : List D) (Z : DH) (a4 a5 a6 : Option D), ms.length + off + szl ts = S → B.length + szl ts ≤ 4000 → ∃ (ms' : List D) (Z' : DH) (b4 b5 b6 : Option D), ms'.length = ms.length + szl ts ∧ ∀ rest : List D,
  dY (gN 4) iC ((ts.flatMap Lk.pre).reverse.map Lk.D ++ rest) [a0, some (.fn "look_parts"), some (.lN "let_go" [.obj A.length, .int b]), some (.obj (A.length + 1)), a4, a5, a6] (A ++ .lst ms :: .lst B :: Z) =
  dY (gN 4) iC rest [a0, some (.fn "look_parts"), some (.lN "let_go" [.obj A.length, .int b]), some (.obj (A.length + 1)), b4, b5, b6] (A ++ .lst ms' :: .lst (B ++ ((gQ k ts off).map Lk.D).reverse) :: Z')
 | [], _, off, ms, B, Z, a4, a5, a6, _, _ => ⟨ms, Z, a4, a5, a6, by simp [szl], fun rest => by simp [gQ]⟩
 | t :: ts, h, off, ms, B, Z, a4, a5, a6, hs, hB => by
  rw [szl] at hs hB
  have hlt := BP ts
  obtain ⟨ms1, Z', b4, b5, b6, l1, e⟩ := zy A a0 b k S ts (fun x hx => h x (by simp [hx])) (off + t.sz) ms B Z a4 a5 a6 (by omega) (by omega)
  obtain ⟨ms2, Z2, c4, c5, c6, l2, e1⟩ := h t (by simp) off ms1 (B ++ ((gQ k ts (off + t.sz)).map Lk.D).reverse) Z' b4 b5 b6 (by omega) (by rw [List.length_append, List.length_reverse, List.length_map, mT]; omega)
  refine ⟨ms2, Z2, c4, c5, c6, by rw [szl]; omega, fun rest => ?_⟩
  have er : ((t :: ts).flatMap Lk.pre).reverse.map Lk.D ++ rest = (ts.flatMap Lk.pre).reverse.map Lk.D ++ (t.pre.reverse.map Lk.D ++ rest) := by
   rw [List.flatMap_cons, List.reverse_append, List.map_append, List.append_assoc]
  rw [er, e, e1, gQ]
  simp
theorem CQ (A : DH) (a0 : Option D) (b : Int) (k S : Nat) (hb : b = (S : Int) - 1 - (k : Int)) (hS : S ≤ 1000) : ∀ (n : Nat) (t : Lk), t.sz ≤ n → Gz A a0 b k S t
 | 0, t, h => by have := wG t; omega
 | n + 1, t, hn => fun off ms B Z a4 a5 a6 hs hB => by
  have hq := x8 t
  obtain ⟨ms1, Z', b4, b5, b6, l1, e⟩ := zy A a0 b k S (csl t) (fun c hc => CQ A a0 b k S hb hS n c (by have := vh hc; omega)) (off + 1) ms B Z a4 a5 a6 (by omega) (by omega)
  obtain ⟨c5, c6, e1⟩ := AX A Z' a0 b5 b6 B ms1 b t (gQ k (csl t) (off + 1)) (mT ..) (by omega) (by omega) (by omega)
  have K4 : (if (ms1.length : Int) = b then Lk.any else rb t (gQ k (csl t) (off + 1))) = jU k t off := by
   by_cases ho : off = k
   ·subst ho
    rw [if_pos (by omega), Gx]
   ·rw [if_neg (by omega), Gy ho]
  rw [K4] at e1
  refine ⟨ms1 ++ [t.D], Z' ++ [.dead], some t.D, c5, c6, by simp; omega, fun rest => ?_⟩
  have er : t.pre.reverse.map Lk.D ++ rest = ((csl t).flatMap Lk.pre).reverse.map Lk.D ++ t.D :: rest := by
   rw [zv, List.reverse_cons, List.map_append, List.append_assoc]; rfl
  rw [er, e, fZ rfl]
  simp only [List.set_cons_succ, List.set_cons_zero, e1, mF]
theorem DZ (w : Wy) (k : Nat) (hz : w.sz ≤ 900) (A : DH) (b : Int) (hb : b = (w.sz : Int) - 1 - (k : Int)) : ∃ R : DH, oE [.tup [.str "way", .tup w.Ds], .fn "look_parts", .lN "let_go" [.obj A.length, .int b]] (A ++ [.lst []]) = .ok (.tup [.str "way", .tup (gB k w 0).Ds]) (A ++ R) := by
 have eW : (Lk.way w).D = .tup [.str "way", .tup w.Ds] := by rw [Lk.D]
 have hcs : csl (.way w) = w.ps.map (·.2) := rfl
 have hsl : szl (csl (.way w)) = w.sz := by rw [hcs, ← Ra]
 obtain ⟨ms1, Z', b4, b5, b6, l1, e⟩ := zy A (some (Lk.way w).D) b k w.sz (csl (.way w)) (fun c hc => CQ A _ b k w.sz hb (by omega) c.sz c (Nat.le_refl _)) 0 [] [] [] none none none (by simp; omega) (by simp; omega)
 obtain ⟨c5, c6, e1⟩ := AX A Z' (some (Lk.way w).D) b5 b6 [] ms1 b (.way w) (gQ k (csl (.way w)) 0) (mT ..) (by rw [Lk.sz]; omega) (by simp at l1; omega) (by simp)
 simp only [List.length_nil, Nat.zero_add] at l1
 rw [if_neg (by omega)] at e1
 have hrb : (rb (.way w) (gQ k (csl (.way w)) 0)).D = .tup [.str "way", .tup (gB k w 0).Ds] := by rw [rb, Lk.D, zx, hcs]
 rw [hrb] at e1
 have er : (Lk.way w).pre.reverse.map Lk.D = ((csl (.way w)).flatMap Lk.pre).reverse.map Lk.D ++ [(Lk.way w).D] := by
  rw [zv, List.reverse_cons, List.map_append]; rfl
 have e2 := e [(Lk.way w).D]
 rw [← er, fZ rfl] at e2
 simp only [List.set_cons_succ, List.set_cons_zero, List.nil_append] at e1 e2
 rw [e1, mF, rW] at e2
 have ew := x9 (.way w) (by rw [Lk.sz]; omega) (A ++ [.lst [], .lst []])
 have hfr := fun τ G => Iq (g := gN 4) (body := iC) (xs := (Lk.way w).pre.map Lk.D) (τ := τ) (G := G)
 rw [List.map_reverse] at e2
 rw [eW] at e2 ew
 refine ⟨.lst (ms1 ++ [.tup [.str "way", .tup w.Ds]]) :: .lst [.tup [.str "way", .tup (gB k w 0).Ds]] :: (Z' ++ [.dead]), ?_⟩
 have n0 : bU [] (A ++ [.lst []]) = .ok (.obj (A.length + 1)) (A ++ [.lst [], .lst []]) := by simp [bU]
 have g1 : ∀ x y Y, (A ++ x :: y :: Y)[A.length + 1]? = some y := fun x y Y => M5 A x y Y
 unfold oE
 generalize (Lk.way w).pre.map Lk.D = pD at e2 ew hfr
 generalize (gB k w 0).Ds = cs at e2
 generalize w.Ds = ws at e2 ew
 simp! [v8, n0, ew, hfr, e2, g1, Jy]
theorem D0 (w : Wy) (k : Nat) (hz : w.sz ≤ 900) (G : DH) (hG : G.any (v5 "let_go") = true) : oG [.tup w.Ds, .int (k : Int)] G = .ok (.tup (gB k w 0).Ds) G := by
 obtain ⟨R, e⟩ := DZ w k hz G ((w.sz : Int) - 1 - (k : Int)) rfl
 have el := o9 w hz G
 have hlen : (w.pre.map Lk.D).length = w.sz := by rw [List.length_map, kO]
 have hcl : (D.tup (gB k w 0).Ds).closed = true := by rw [D.closed]; exact Gk _
 have JC : w.sz ≤ sizeLine := lz (by omega)
 have z2 : (2 : Nat) ≤ sizeLine := lz (by omega)
 unfold oG
 refine lq (R := R) ?_ hcl
 generalize (gB k w 0).Ds = cs at e
 generalize w.pre.map Lk.D = pD at el hlen
 generalize w.Ds = ws at e el
 have OO : (G ++ [DO.lst []]).any (v5 "let_go") = true := by rw [List.any_append, hG]; rfl
 have S1 : (br 2 (aM mD (aM mD (av kq (af (aH 1 dS (af (ai 0) (aq))) (aq))) (eC (.int 1))) (ai 1))) [some (.tup ws), some (.int (k : Int)), none, none, none] G = .nx [some (.tup ws), some (.int (k : Int)), some (.int ((w.sz : Int) - 1 - (k : Int))), none, none] G := by
  simp! [el, hlen, JC]
 have S2 : (br 3 (av bU (aq))) [some (.tup ws), some (.int (k : Int)), some (.int ((w.sz : Int) - 1 - (k : Int))), none, none] G = .nx [some (.tup ws), some (.int (k : Int)), some (.int ((w.sz : Int) - 1 - (k : Int))), some (.obj G.length), none] (G ++ [.lst []]) := by
  simp! [bU]
 have S3 : Ar 4 "let_go" [3, 2] [some (.tup ws), some (.int (k : Int)), some (.int ((w.sz : Int) - 1 - (k : Int))), some (.obj G.length), none] (G ++ [.lst []]) = .nx [some (.tup ws), some (.int (k : Int)), some (.int ((w.sz : Int) - 1 - (k : Int))), some (.obj G.length), some (.lN "let_go" [.obj G.length, .int ((w.sz : Int) - 1 - (k : Int))])] (G ++ [.lst []]) := by
  unfold Ar
  rw [if_pos OO]
  rfl
 have hr : cG 5 mK [.tup ws, .int (k : Int)] G = .ok (.tup cs) (G ++ R) := by
  rw [lR]
  show (mK [some (.tup ws), some (.int (k : Int)), none, none, none] G).fn = _
  rw [mK, bu, S1, ck, bu, S2, ck, bu, S3, ck]
  simp! [z2, e, LR]
 rw [hr]
 rfl
end K71
end
section
set_option Elab.async false
set_option linter.all false
set_option maxRecDepth 100000
set_option maxHeartbeats 1000000
namespace K71
open PySem PySem.Spec L2 L3
theorem CS (l : List Nat) : (mU l).length = l.length := by simp [mU, Str.length]
theorem JD {l : List Nat} (h : ∀ x ∈ l, x < 1114112) : PyData.strOk (mU l) = true := by
 unfold PyData.strOk mU
 rw [Array.all_eq_true_iff_forall_mem]
 intro x hx
 simpa using h x (by simpa using hx)
theorem Rc (a b : Str) (G : DH) (h : a.length + b.length ≤ 2000000) : ∃ t, eF (.str a) (.str b) G = .ok (.str t) G ∧ t.cps.toList = a.cps.toList ++ b.cps.toList ∧ t.length = a.length + b.length := by
 refine ⟨a ++ b, ?_, ?_, Ig a b⟩
 ·simp [eF, lz h]
 ·show (a.cps ++ b.cps).toList = _
  simp
theorem Lz (a b : List Nat) (G : DH) (h : a.length + b.length ≤ 1000000) : eF (.str (mU a)) (.str (mU b)) G = .ok (.str (mU (a ++ b))) G := by
 obtain ⟨t, e, c, _⟩ := Rc (mU a) (mU b) G (by rw [CS, CS]; omega)
 rw [e]
 have : t = mU (a ++ b) := by
  apply Ii
  rw [c, Fw, Fw, Fw]
 rw [this]
noncomputable def gM : Str := "abcdefghijklmnopqrstuvwxyz"
noncomputable def St (a : Int) (sc : List Int) (s f r : Int) : List D := [.int a, .con (sc.map .int), .int s, .int f, .int r]
theorem Rf {a b c d e : D} : pR [a, b, c, d, e] 0 = some a := rfl
theorem Rg {a b c d e : D} : pR [a, b, c, d, e] 1 = some b := rfl
theorem V4 {a b c d e : D} : pR [a, b, c, d, e] 2 = some c := rfl
theorem OP {a b c d e : D} : pR [a, b, c, d, e] 3 = some d := rfl
theorem Tp {a b c d e : D} : pR [a, b, c, d, e] 4 = some e := rfl
theorem Rh : A0 5 0 = some 0 := by decide +kernel
theorem Tq : A0 5 3 = some 3 := by decide +kernel
theorem V5 : A0 5 4 = some 4 := by decide +kernel
theorem pL (A B : DH) (a : Int) (sc : List Int) (s f r : Int) (ha : 0 ≤ a) (hl : sc.length ≤ 63) : ∃ (c r' : Int), aO [.obj A.length] (A ++ .lst (St a sc s f r) :: B) = .ok (.int c) (A ++ .lst (St (a + 1) sc s f r') :: B) := by
 have g0 : ∀ x Y, (A ++ x :: Y)[A.length]? = some x := fun x Y => wK A x Y
 have s0 : ∀ x z Y, (A ++ x :: Y).set A.length z = A ++ z :: Y := fun x z Y => Ad A x z Y
 have hzs : sc.length ≤ sizeLine := lz (by omega)
 unfold aO
 by_cases h1 : a < (sc.length : Int)
 ·obtain ⟨d, ed, V6⟩ := Ae (xs := sc.map D.int) (i := a) ha (by simpa using h1)
  obtain ⟨v, ev⟩ : ∃ v, d = .int v := by
   have := List.mem_of_getElem? V6
   simp at this
   obtain ⟨v, _, rfl⟩ := this
   exact ⟨v, rfl⟩
  subst ev
  refine ⟨v % 1000000000000000000, r, ?_⟩
  unfold St
  simp! [jK, mH, lP, g0, s0, Rf, Rg, Rh, hzs, h1, ed]
 ·by_cases h2 : 0 < r
  ·refine ⟨r % 1000000000000000000, r / 1000000000000000000, ?_⟩
   unfold St
   simp! [jK, r6, mH, lP, g0, s0, Rf, Rg, Tp, Rh, V5, hzs, h1, h2, zM]
  ·have hb : ∀ (x : Int), (-18446744073709551616 < x % 2147483629 ∧ x % 2147483629 < 18446744073709551616) := fun x => by omega
   have hb2 : ∀ (x : Int), (-18446744073709551616 < x % 2147483647 ∧ x % 2147483647 < 18446744073709551616) := fun x => by omega
   refine ⟨((a * 48271 + s * 16807 + 12345) % 2147483647 * ((a * 48271 + s * 16807 + 12345) % 2147483647) % 2147483629) * ((a * 48271 + s * 16807 + 12345) % 2147483647 * ((a * 48271 + s * 16807 + 12345) % 2147483647) % 2147483629 + 16807 * a) % 1000000007, r, ?_⟩
   unfold St
   simp! [jK, mH, lP, g0, s0, Rf, Rg, V4, Tp, Rh, hzs, h1, h2, zM, (hb _).1, (hb _).2, (hb2 _).1, (hb2 _).2]
theorem IS (ns : List Int) (h : ns ≠ []) : ∃ x, pR (ns.map D.int) (-1) = some (.int x) := by
 refine ⟨ns.getLast h, ?_⟩
 have e : ns.map D.int = ns.dropLast.map D.int ++ [.int (ns.getLast h)] := by
  conv => lhs; rw [← List.dropLast_concat_getLast h]
  simp
 rw [e]
 exact Eu _ _
theorem yd (a0 a3 : Option D) (G : DH) : ∀ (xs : List Int) (v : Int) (a2 : Option D), ∃ (v' : Int) (b2 : Option D), dY (gN 2) fW (xs.map .int) [a0, some (.int v), a2, a3] G = .nx [a0, some (.int v'), b2, a3] G
 | [], v, a2 => ⟨v, a2, by simp [rW]⟩
 | x :: xs, v, a2 => by
  obtain ⟨v', b2, e⟩ := yd a0 a3 G xs ((v * 31 + x) % 1000003) (some (.int x))
  refine ⟨v', b2, ?_⟩
  have et : fW [a0, some (.int v), some (.int x), a3] G = .nx [a0, some (.int ((v * 31 + x) % 1000003)), some (.int x), a3] G := by
   simp! [fW]
  rw [List.map_cons, fZ (τ1 := [a0, some (.int v), some (.int x), a3]) rfl, et, mF, e]
theorem GA (ns : List Int) (lo hi : Option Int) : ∃ ys : List Int, cutD (ns.map .int) lo hi = ys.map .int ∧ ys.length ≤ ns.length := by
 refine ⟨(ns.drop (HT.gZ ns.length 0 lo)).take (HT.gZ ns.length ns.length hi - HT.gZ ns.length 0 lo), ?_, ?_⟩
 ·simp [cutD, List.map_take, List.map_drop]
 ·simp; omega
theorem GB (ns : List Int) (hl : ns.length ≤ 63) (G : DH) : ∃ s r : Int, dR [.con (ns.map .int)] G = .ok (.obj G.length) (G ++ [.lst (St 0 ns s 0 r)]) := by
 obtain ⟨ys, ey, ly⟩ := GA ns none (some 64)
 obtain ⟨s, b2, e⟩ := yd (some (.con (ns.map .int))) none G ys 0 none
 have ci : ∀ l : List Int, aQ (l.map D.int) = true := fun l => cz fun _ => vV
 have f1 : (bU (ys.map D.int) G).fw G = .ok (.con (ys.map .int)) G := iP (lz (by simp; omega)) (ci _)
 have hzs : ns.length ≤ sizeLine := lz (by omega)
 have z5 : (5 : Nat) ≤ sizeLine := lz (by omega)
 have hneg : ∀ τ G, zS (eC (.int 1)) τ G = .ok (.int (-1)) G := fun τ G => rfl
 have hcl : ∀ s r : Int, aQ (St 0 ns s 0 r) = true := fun s r => by
  unfold St
  simp [bN, cA, vV, gr, ci]
 have n5 : ∀ (d : D) (s r : Int), bU [.int 0, d, .int s, .int 0, .int r] G = .ok (.obj G.length) (G ++ [.lst [.int 0, d, .int s, .int 0, .int r]]) := fun d s r => by simp [bU, z5]
 have S0 : (br 1 (eC (.int 0))) [some (.con (ns.map .int)), none, none, none] G = .nx [some (.con (ns.map .int)), some (.int 0), none, none] G := by
  simp only [qH, Dy, vL, List.set_cons_succ, List.set_cons_zero]
 have S1 : (n9 (gN 2) (eFn (HC (ai 0) (uf) (pV (eC (.int 64))))) fW) [some (.con (ns.map .int)), some (.int 0), none, none] G = .nx [some (.con (ns.map .int)), some (.int s), b2, none] G := by
  generalize ns.map D.int = nD at ey e
  simp! [jI, EH, ey, f1, e]
 by_cases hn : ns = []
 ·refine ⟨s, 0, ?_⟩
  unfold dR
  refine Ak ?_ (hcl s 0)
  rw [lR]
  show (dQ [some (.con (ns.map .int)), none, none, none] G).fn = _
  rw [dQ, bu, S0, ck, bu, S1, ck]
  have h0 : (ns.map D.int).length = 0 := by rw [hn]; rfl
  unfold St
  generalize ns.map D.int = nD at h0
  simp! [jQ, zM, n5, h0]
 ·obtain ⟨x, hx⟩ := IS ns hn
  have hp : 0 < (ns.map D.int).length := by rw [List.length_map]; exact List.length_pos_iff.mpr hn
  have OQ : (0 : Int) < ((ns.map D.int).length : Int) := by omega
  have hz0 : (ns.map D.int).length ≤ sizeLine := by rw [List.length_map]; exact hzs
  refine ⟨s, (if x < 0 then -x else x) / 1000000000000000000, ?_⟩
  unfold dR
  refine Ak ?_ (hcl s _)
  rw [lR]
  show (dQ [some (.con (ns.map .int)), none, none, none] G).fn = _
  rw [dQ, bu, S0, ck, bu, S1, ck]
  unfold St
  generalize ns.map D.int = nD at hp OQ hx hz0
  simp! [jQ, zM, n5, hz0, hp, OQ, IC, hx, hneg]
end K71
end
section
set_option Elab.async false
set_option linter.all false
set_option maxRecDepth 100000
set_option maxHeartbeats 1000000
namespace K71
open PySem PySem.Spec L2 L3
noncomputable def words : List Str := ["start", "rule", "row", "mix", "many", "any", "kind", "not", "both", "either", "way", "mark"]
theorem CU (i : Int) : pR gM.cps.toList (i % 26) = some (97 + (i % 26).toNat) := by
 have V7 : ∀ k < 26, gM.cps.toList[k]? = some (97 + k) := by decide +kernel
 have hk := V7 (i % 26).toNat (by omega)
 have := B6 hk
 rwa [show (((i % 26).toNat : Nat) : Int) = i % 26 by omega] at this
theorem GC : gM.length ≤ sizeLine := lz (by decide +kernel)
theorem IT {i : Int} : 97 ≤ 97 + (i % 26).toNat ∧ 97 + (i % 26).toNat ≤ 122 := by omega
theorem ye (c w at_ k : Int) (a1 a5 : Option D) (G : DH) : ∀ (m j : Nat) (l : List Nat) (a8 : Option D), j + m ≤ 8 → l.length = j → (∀ x ∈ l, 97 ≤ x ∧ x ≤ 122) →
  ∃ (l' : List Nat) (b8 : Option D), l'.length = j + m ∧ (∀ x ∈ l', 97 ≤ x ∧ x ≤ 122) ∧ dY (gN 8) gC ((List.range' j m).map fun (k : Nat) => .int (0 + (k : Int))) [some (.int c), a1, some (.str gM), some (.int w), some (.int at_), a5, some (.int k), some (.str (mU l)), a8] G = .nx [some (.int c), a1, some (.str gM), some (.int w), some (.int at_), a5, some (.int k), some (.str (mU l')), b8] G
 | 0, j, l, a8, _, hl, hx => ⟨l, a8, by omega, hx, by simp [dY]⟩
 | m + 1, j, l, a8, hm, hl, hx => by
  have step : ∃ v : Int, gC [some (.int c), a1, some (.str gM), some (.int w), some (.int at_), a5, some (.int k), some (.str (mU l)), some (.int (0 + (j : Int)))] G = .nx [some (.int c), a1, some (.str gM), some (.int w), some (.int at_), a5, some (.int k), some (.str (mU (l ++ [97 + (v % 26).toNat]))), some (.int (0 + (j : Int)))] G := by
   have hjl : -18446744073709551616 < (j : Int) := by omega
   have V8 : (j : Int) < 18446744073709551616 := by omega
   have hd1 : (0 : Int) < 64 + 5 * (j : Int) := by omega
   have hd2 : (64 : Int) + 5 * (j : Int) < 1073741824 := by omega
   cases hb : ((j : Int) == at_) with
   | true =>
    refine ⟨c / 64 + k, ?_⟩
    have es := CU (c / 64 + k)
    have ha : eF (.str (mU l)) (.str ⟨#[97 + ((c / 64 + k) % 26).toNat]⟩) G = .ok (.str (mU (l ++ [97 + ((c / 64 + k) % 26).toNat]))) G := Lz l [97 + ((c / 64 + k) % 26).toNat] G (by simp; omega)
    generalize mU (l ++ [97 + ((c / 64 + k) % 26).toNat]) = r at ha
    generalize 97 + ((c / 64 + k) % 26).toNat = r2 at es ha
    dsimp! [gC, ju, hb, es, ha, GC]
   | false =>
    refine ⟨c / (64 + 5 * (j : Int)), ?_⟩
    have es := CU (c / (64 + 5 * (j : Int)))
    have ha : eF (.str (mU l)) (.str ⟨#[97 + ((c / (64 + 5 * (j : Int))) % 26).toNat]⟩) G = .ok (.str (mU (l ++ [97 + ((c / (64 + 5 * (j : Int))) % 26).toNat]))) G := Lz l [97 + ((c / (64 + 5 * (j : Int))) % 26).toNat] G (by simp; omega)
    generalize mU (l ++ [97 + ((c / (64 + 5 * (j : Int))) % 26).toNat]) = r at ha
    generalize 97 + ((c / (64 + 5 * (j : Int))) % 26).toNat = r2 at es ha
    dsimp! [gC, ju, hb, es, ha, GC, hjl, V8, hd1, hd2]
  obtain ⟨v, e⟩ := step
  obtain ⟨l', b8, h1, h2, ih⟩ := ye c w at_ k a1 a5 G m (j + 1) (l ++ [97 + (v % 26).toNat]) (some (.int (0 + (j : Int)))) (by omega) (by simp [hl]) (fun x hx' => by
   rcases List.mem_append.mp hx' with hx' | hx'
   ·exact hx x hx'
   ·have := @IT v
    simp at hx'
    omega)
  refine ⟨l', b8, by omega, h2, ?_⟩
  rw [List.range'_succ, List.map_cons, fZ rfl]
  simp only [List.set_cons_succ, List.set_cons_zero, e, mF]
  exact ih
theorem D3 (c w at_ k : Int) (hw : 1 ≤ w ∧ w ≤ 8) (a1 a7 a8 : Option D) (G : DH) (ps : List Str) (hp : ps.length ≤ 100) :
  ∃ (s : Str) (b7 b8 : Option D), PyData.strOk s = true ∧ gD [some (.int c), a1, some (.str gM), some (.int w), some (.int at_), some (.obj G.length), some (.int k), a7, a8] (G ++ [.lst (ps.map .str)]) = .nx [some (.int c), a1, some (.str gM), some (.int w), some (.int at_), some (.obj G.length), some (.int k), b7, b8] (G ++ [.lst ((ps ++ [s]).map .str)]) := by
 obtain ⟨l, b8, hl, hx, e⟩ := ye c w at_ k a1 (some (.obj G.length)) (G ++ [.lst (ps.map .str)]) w.toNat 0 [] a8 (by omega) rfl (by simp)
 have hr := pG (j := w) (by omega) (by omega)
 generalize ((List.range' 0 w.toNat).map fun (k : Nat) => D.int (0 + (k : Int))) = rg at hr e
 have hg : PyData.strOk (mU l) = true := JD fun x hx' => by have := hx x hx'; omega
 have V9 : PyData.strOk (mU (l ++ [113])) = true := JD fun x hx' => by
  rcases List.mem_append.mp hx' with hx' | hx'
  ·have := hx x hx'; omega
  ·simp at hx'; omega
 have g0 : ∀ x : DO, (G ++ [x])[G.length]? = some x := fun x => wK G x []
 have s0 : ∀ x z : DO, (G ++ [x]).set G.length z = G ++ [z] := fun x z => Ad G x z []
 have hz : ps.length < sizeLine := Nat.lt_of_lt_of_le (by omega) (lz (n := 1000) (by omega))
 have Tr : (12 : Nat) ≤ sizeLine := lz (by omega)
 have e' : dY (gN 8) gC rg [some (.int c), a1, some (.str gM), some (.int w), some (.int at_), some (.obj G.length), some (.int k), some (.str ""), a8] (G ++ [.lst (ps.map .str)]) = .nx [some (.int c), a1, some (.str gM), some (.int w), some (.int at_), some (.obj G.length), some (.int k), some (.str (mU l)), b8] (G ++ [.lst (ps.map .str)]) := e
 have hin : ∀ b, words.any (· == mU l) = b → B8 false (.str (mU l)) (.tup [.str "start", .str "rule", .str "row", .str "mix", .str "many", .str "any", .str "kind", .str "not", .str "both", .str "either", .str "way", .str "mark"]) (G ++ [.lst (ps.map .str)]) = .ok (.bl b) (G ++ [.lst (ps.map .str)]) := fun b h => ins (mU l) words _ hg (by decide +kernel) h
 have ha : eF (.str (mU l)) (.str "q") (G ++ [.lst (ps.map .str)]) = .ok (.str (mU (l ++ [113]))) (G ++ [.lst (ps.map .str)]) := Lz l [113] _ (by simp; omega)
 cases hb : words.any (· == mU l) with
 | true =>
  have hi := hin true hb
  refine ⟨mU (l ++ [113]), some (.str (mU (l ++ [113]))), b8, V9, ?_⟩
  generalize mU (l ++ [113]) = r at ha
  generalize mU l = r0 at ha hi e'
  dsimp! [gD, nh, hr, e', Tr, hi, ha, g0, s0, hz]
 | false =>
  have hi := hin false hb
  refine ⟨mU l, some (.str (mU l)), b8, hg, ?_⟩
  generalize mU l = r0 at hi e'
  dsimp! [gD, nh, hr, e', Tr, hi, g0, s0, hz]
theorem yf (c w at_ : Int) (hw : 1 ≤ w ∧ w ≤ 8) (a1 : Option D) (G : DH) : ∀ (m j : Nat) (ps : List Str) (a6 a7 a8 : Option D), ps.length + m ≤ 90 →
  ∃ (qs : List Str) (b6 b7 b8 : Option D), qs.length = m ∧ (∀ s ∈ qs, PyData.strOk s = true) ∧ dY (gN 6) gD ((List.range' j m).map fun (k : Nat) => .int (0 + (k : Int))) [some (.int c), a1, some (.str gM), some (.int w), some (.int at_), some (.obj G.length), a6, a7, a8] (G ++ [.lst (ps.map .str)]) = .nx [some (.int c), a1, some (.str gM), some (.int w), some (.int at_), some (.obj G.length), b6, b7, b8] (G ++ [.lst ((ps ++ qs).map .str)])
 | 0, j, ps, a6, a7, a8, _ => ⟨[], a6, a7, a8, rfl, by simp, by simp [dY]⟩
 | m + 1, j, ps, a6, a7, a8, h => by
  obtain ⟨s, b7, b8, hs, e⟩ := D3 c w at_ (0 + (j : Int)) hw a1 a7 a8 G ps (by omega)
  obtain ⟨qs, c6, c7, c8, hl, hq, ih⟩ := yf c w at_ hw a1 G m (j + 1) (ps ++ [s]) (some (.int (0 + (j : Int)))) b7 b8 (by simp; omega)
  refine ⟨s :: qs, c6, c7, c8, by simp [hl], fun x hx => ?_, ?_⟩
  ·rcases List.mem_cons.mp hx with rfl | hx
   ·exact hs
   ·exact hq x hx
  rw [List.range'_succ, List.map_cons, fZ rfl]
  simp only [List.set_cons_succ, List.set_cons_zero, e, mF]
  rw [ih]
  simp
theorem IU (c : Int) (G : DH) : ∃ ps : List Str, ps.length = 4 ∧ (∀ s ∈ ps, PyData.strOk s = true) ∧ iB [.int c, .int 4] G = .ok (.con (ps.map .str)) G := by
 obtain ⟨qs, b6, b7, b8, hl, hq, e⟩ := yf c (1 + c % 8) (c / 8 % (1 + c % 8)) (by omega) (some (.int 4)) G 4 0 [] none none none (by simp)
 refine ⟨qs, hl, hq, ?_⟩
 have hr := pG (j := 4) (by omega) (by omega)
 have hr' : ko [.int 4] = some ((List.range' 0 4).map fun (k : Nat) => .int (0 + (k : Int))) := hr
 generalize ((List.range' 0 4).map fun (k : Nat) => D.int (0 + (k : Int))) = rg at hr' e
 rw [List.nil_append, List.map_nil] at e
 have hcl : aQ (qs.map D.str) = true := cz fun _ => ic
 have hw : (0 : Int) < 1 + c % 8 := by omega
 have e' : dY (gN 6) gD rg [some (.int c), some (.int 4), some (.str "abcdefghijklmnopqrstuvwxyz"), some (.int (1 + c % 8)), some (.int (c / 8 % (1 + c % 8))), some (.obj G.length), none, none, none] (G ++ [.lst []]) = .nx [some (.int c), some (.int 4), some (.str "abcdefghijklmnopqrstuvwxyz"), some (.int (1 + c % 8)), some (.int (c / 8 % (1 + c % 8))), some (.obj G.length), b6, b7, b8] (G ++ [.lst (qs.map .str)]) := e
 have Lw : (Out.ok (D.obj G.length) (G ++ [.lst (qs.map .str)])).fz = .ok (.con (qs.map .str)) (G ++ [.dead]) := xQ
 unfold iB
 refine lq (R := [.dead]) ?_ (by rw [gr]; exact hcl)
 simp! [lu, bU, hw, hr', e', Lw]
end K71
end
section
set_option Elab.async false
set_option linter.all false
set_option maxRecDepth 100000
set_option maxHeartbeats 1000000
namespace K71
open PySem PySem.Spec L2 L3
noncomputable def sB : Nat → Nat
 | 0 => 1
 | d + 1 => 1 + 3 * sB d
theorem GD (d : Nat) : 1 ≤ sB d := by cases d <;> simp [sB]
theorem JE (v : Int) : ∃ g : Str, PyData.strOk g = true ∧ pR [D.str "down", .str "deep", .str "later"] (v % 3) = some (.str g) := by
 rcases (by omega : v % 3 = 0 ∨ v % 3 = 1 ∨ v % 3 = 2) with q | q | q <;> rw [q]
 ·exact ⟨"down", by decide +kernel, rfl⟩
 ·exact ⟨"deep", by decide +kernel, rfl⟩
 ·exact ⟨"later", by decide +kernel, rfl⟩
theorem JF (G : DH) : (bU [.str "down", .str "deep", .str "later"] G).fw G = .ok (.con [.str "down", .str "deep", .str "later"]) G := iP (lz (by simp)) rfl
theorem yg {sc : List Int} (hl : sc.length ≤ 63) (A B E : DH) (s f : Int) (τ : DS) : ∀ (m j : Nat) (acc : List D) (a r : Int), 0 ≤ a → acc.length + m ≤ 100 → ∃ (gs : List Str) (a' r' : Int), gs.length = m ∧ (∀ g ∈ gs, PyData.strOk g = true) ∧ 0 ≤ a' ∧
  cE oN [true] gS (aM ia (eFn (av bU (af (eC (.str "down")) (af (eC (.str "deep")) (af (eC (.str "later")) (aq)))))) (aM g7 (aH 1 aO (af (ai 1) (aq))) (eC (.int 3)))) (A.length + (B.length + 1)) ((List.range' j m).map fun (k : Nat) => .int (0 + (k : Int))) (some (.obj A.length) :: τ) (A ++ .lst (St a sc s f r) :: (B ++ .lst acc :: E)) =
   .ok (.obj (A.length + (B.length + 1))) (A ++ .lst (St a' sc s f r') :: (B ++ .lst (acc ++ gs.map .str) :: E))
 | 0, j, acc, a, r, ha, _ => ⟨[], a, r, rfl, by simp, ha, by simp [cE]⟩
 | m + 1, j, acc, a, r, ha, hm => by
  obtain ⟨c, r1, e1⟩ := pL A (B ++ .lst acc :: E) a sc s f r ha hl
  obtain ⟨g, hg, eg⟩ := JE c
  obtain ⟨gs, a2, r2, h1, h2, h3, ih⟩ := yg hl A B E s f τ m (j + 1) (acc ++ [.str g]) (a + 1) r1 (by omega) (by simp; omega)
  refine ⟨g :: gs, a2, r2, by simp [h1], fun x hx => ?_, h3, ?_⟩
  ·rcases List.mem_cons.mp hx with rfl | hx
   ·exact hg
   ·exact h2 x hx
  have hz : acc.length < sizeLine := Nat.lt_of_lt_of_le (by omega) (lz (n := 1000) (by omega))
  have ht : aM ia (eFn (av bU (af (eC (.str "down")) (af (eC (.str "deep")) (af (eC (.str "later")) (aq)))))) (aM g7 (aH 1 aO (af (ai 1) (aq))) (eC (.int 3))) (([D.int (0 + (j : Int))] : List D).map some ++ mask [true] (some (.obj A.length) :: τ)) (A ++ .lst (St a sc s f r) :: (B ++ .lst acc :: E)) = .ok (.str g) (A ++ .lst (St (a + 1) sc s f r1) :: (B ++ .lst acc :: E)) := by
   have em : ([D.int (0 + (j : Int))] : List D).map some ++ mask [true] (some (.obj A.length) :: τ) = some (.int (0 + (j : Int))) :: some (.obj A.length) :: mask [] τ := rfl
   rw [em]
   generalize mask [] τ = τ'
   generalize St a sc s f r = s1 at e1
   generalize St (a + 1) sc s f r1 = s2 at e1
   simp! [jI, JF, e1, eg]
  have eo : cH oN [true] gS (aM ia (eFn (av bU (af (eC (.str "down")) (af (eC (.str "deep")) (af (eC (.str "later")) (aq)))))) (aM g7 (aH 1 aO (af (ai 1) (aq))) (eC (.int 3)))) (A.length + (B.length + 1)) (.int (0 + (j : Int))) (some (.obj A.length) :: τ) (A ++ .lst (St a sc s f r) :: (B ++ .lst acc :: E)) = .ok () (A ++ .lst (St (a + 1) sc s f r1) :: (B ++ .lst (acc ++ [.str g]) :: E)) := by
   simp only [cH, oN, gS, M.ret, ht, Ff, if_pos hz, hs2]
  rw [List.range'_succ, List.map_cons, cE, eo]
  dsimp only
  rw [ih]
  simp
noncomputable def Good (ps : List Str) (sc : List Int) (r : List D → M D) (d : Nat) : Prop := ∀ (A B : DH) (a s f rr : Int), 0 ≤ a → 0 ≤ f → f ≤ 3 → ∃ (l : Lk) (a' f' r' : Int) (E : DH), l.Ok ∧ l.sz ≤ sB d ∧ l.dep ≤ d + 1 ∧ 0 ≤ a' ∧ 0 ≤ f' ∧ f' ≤ 3 ∧
 r [.obj A.length, .con (ps.map .str), .int (d : Int)] (A ++ .lst (St a sc s f rr) :: B) = .ok l.D (A ++ .lst (St a' sc s f' r') :: (B ++ E))
theorem wJ {ps : List Str} {sc : List Int} {r : List D → M D} {d : Nat} (hr : Good ps sc r d) (A B : DH) (s : Int) (τ : DS) : ∀ (gs : List Str), (∀ g ∈ gs, PyData.strOk g = true) → ∀ (acc : List D) (E : DH) (a f rr : Int), 0 ≤ a → 0 ≤ f → f ≤ 3 → acc.length + gs.length ≤ 100 → ∃ (w : Wy) (a' f' r' : Int) (E' : DH), w.Ok ∧ w.sz ≤ gs.length * sB d ∧ w.dep ≤ d + 1 ∧ w.Ds.length = gs.length ∧ 0 ≤ a' ∧ 0 ≤ f' ∧ f' ≤ 3 ∧
  cE oN [true, true, true] gS (av bY (af (ai 0) (af (aH 3 r (af (ai 1) (af (ai 2) (af (aM mD (ai 3) (eC (.int 1))) (aq))))) (aq)))) (A.length + (B.length + 1)) (gs.map .str) (some (.obj A.length) :: some (.con (ps.map .str)) :: some (.int ((d : Int) + 1)) :: τ) (A ++ .lst (St a sc s f rr) :: (B ++ .lst acc :: E)) =
   .ok (.obj (A.length + (B.length + 1))) (A ++ .lst (St a' sc s f' r') :: (B ++ .lst (acc ++ w.Ds) :: E'))
 | [], _, acc, E, a, f, rr, ha, hf, zB, _ => ⟨.nil, a, f, rr, E, by rw [Wy.Ok]; trivial, by simp [Wy.sz], by rw [Wy.dep]; omega, rfl, ha, hf, zB, by simp [cE, Wy.Ds]⟩
 | g :: gs, hg, acc, E, a, f, rr, ha, hf, zB, hm => by
  simp only [List.length_cons] at hm
  obtain ⟨l, a1, f1, r1, E1, lo, Wa, ld, ha1, hf1, LA, e1⟩ := hr A (B ++ .lst acc :: E) a s f rr ha hf zB
  obtain ⟨w, a2, f2, r2, E2, wo, wz, wd, wl, ha2, hf2, uU, ih⟩ := wJ hr A B s τ gs (fun x hx => hg x (by simp [hx])) (acc ++ [.tup [.str g, l.D]]) (E ++ E1) a1 f1 r1 ha1 hf1 LA (by simp; omega)
  refine ⟨.cons g l w, a2, f2, r2, E2, by rw [Wy.Ok]; exact ⟨hg g (by simp), lo, wo⟩, ?_, by rw [Wy.dep]; omega, by rw [Wy.Ds, List.length_cons, wl, List.length_cons], ha2, hf2, uU, ?_⟩
  ·rw [Wy.sz, List.length_cons, Nat.add_mul]; omega
  simp only [List.append_assoc, List.cons_append] at e1
  have hz : acc.length < sizeLine := Nat.lt_of_lt_of_le (by omega) (lz (n := 1000) (by omega))
  have z2 : (2 : Nat) ≤ sizeLine := lz (by omega)
  have ht : av bY (af (ai 0) (af (aH 3 r (af (ai 1) (af (ai 2) (af (aM mD (ai 3) (eC (.int 1))) (aq))))) (aq))) (([D.str g] : List D).map some ++ mask [true, true, true] (some (.obj A.length) :: some (.con (ps.map .str)) :: some (.int ((d : Int) + 1)) :: τ)) (A ++ .lst (St a sc s f rr) :: (B ++ .lst acc :: E)) = .ok (.tup [.str g, l.D]) (A ++ .lst (St a1 sc s f1 r1) :: (B ++ .lst acc :: (E ++ E1))) := by
   have em : ([D.str g] : List D).map some ++ mask [true, true, true] (some (.obj A.length) :: some (.con (ps.map .str)) :: some (.int ((d : Int) + 1)) :: τ) = some (.str g) :: some (.obj A.length) :: some (.con (ps.map .str)) :: some (.int ((d : Int) + 1)) :: mask [] τ := rfl
   rw [em]
   have hd1 : (d : Int) + 1 - 1 = d := by omega
   generalize mask [] τ = τ'
   generalize St a sc s f rr = s1 at e1
   generalize St a1 sc s f1 r1 = s2 at e1
   generalize ps.map D.str = pD at e1
   simp! [e1, z2, hd1]
  have eo : cH oN [true, true, true] gS (av bY (af (ai 0) (af (aH 3 r (af (ai 1) (af (ai 2) (af (aM mD (ai 3) (eC (.int 1))) (aq))))) (aq)))) (A.length + (B.length + 1)) (.str g) (some (.obj A.length) :: some (.con (ps.map .str)) :: some (.int ((d : Int) + 1)) :: τ) (A ++ .lst (St a sc s f rr) :: (B ++ .lst acc :: E)) = .ok () (A ++ .lst (St a1 sc s f1 r1) :: (B ++ .lst (acc ++ [.tup [.str g, l.D]]) :: (E ++ E1))) := by
   simp only [cH, oN, gS, M.ret, ht, Ff, if_pos hz, hs2]
  rw [List.map_cons, cE, eo]
  dsimp only
  rw [ih, Wy.Ds]
  simp
theorem IV {ps : List Str} (hp : ∀ s ∈ ps, PyData.strOk s = true) (hl : ps.length = 4) (v : Int) : ∃ s, PyData.strOk s = true ∧ pR (ps.map D.str) (v % 4) = some (.str s) := by
 have h0 : 0 ≤ v % 4 := by omega
 have h1 : v % 4 < (ps.map D.str).length := by rw [List.length_map, hl]; omega
 obtain ⟨d, e, e'⟩ := Ae (xs := ps.map D.str) h0 h1
 obtain ⟨s, hs, rfl⟩ := List.mem_map.mp (List.mem_of_getElem? e')
 exact ⟨s, hp s hs, e⟩
theorem LB (v : Int) : ∃ e : Bool, pR [D.str "both", .str "either"] (v % 2) = some (.str (BL e)) := by
 rcases (by omega : v % 2 = 0 ∨ v % 2 = 1) with q | q <;> rw [q]
 ·exact ⟨false, rfl⟩
 ·exact ⟨true, rfl⟩
end K71
end
section
set_option Elab.async false
set_option linter.all false
set_option maxRecDepth 100000
set_option maxHeartbeats 1000000
namespace K71
open PySem PySem.Spec L2 L3
theorem Tt {e : DS → M D} {τ : DS} {G A B E : DH} {x : DO} {xs : List D} (h : e τ G = .ok (.obj (A.length + (B.length + 1))) (A ++ x :: (B ++ .lst xs :: E))) : uu e τ G = .ok (.con xs) (A ++ x :: (B ++ .dead :: E)) := by
 have hg := Ff A B E x (.lst xs)
 have hs := hs2 A B E x (.lst xs) .dead
 simp only [uu, h, hg, hs]
theorem GF {ps : List Str} {sc : List Int} {r : List D → M D} {d : Nat} (hr : Good ps sc r d) (hl : sc.length ≤ 63) (A B : DH) (a s f rr c : Int) (a4 a5 : Option D) (ha : 0 ≤ a) (hf : 0 < f) (zB : f ≤ 3) : ∃ (w : Wy) (a' f' r' : Int) (E : DH), w.Ok ∧ w.sz ≤ 3 * sB d ∧ w.dep ≤ d + 1 ∧ 0 ≤ a' ∧ 0 ≤ f' ∧ f' ≤ 3 ∧
  nq r [some (.obj A.length), some (.con (ps.map .str)), some (.int ((d : Int) + 1)), some (.int c), a4, a5, none, none, none] (A ++ .lst (St a sc s f rr) :: B) = .rt (.tup [.str "way", .tup w.Ds]) (A ++ .lst (St a' sc s f' r') :: (B ++ E)) := by
 have g0 : ∀ x Y, (A ++ x :: Y)[A.length]? = some x := fun x Y => wK A x Y
 have s0 : ∀ x z Y, (A ++ x :: Y).set A.length z = A ++ z :: Y := fun x z Y => Ad A x z Y
 obtain ⟨m, hm, hm1, WN⟩ : ∃ m : Nat, 1 + c / 36 % f = (m : Int) ∧ 1 ≤ m ∧ (m : Int) ≤ f := by
  have h1 := Int.emod_nonneg (c / 36) (show f ≠ 0 by omega)
  have h2 := Int.emod_lt_of_pos (c / 36) hf
  exact ⟨(1 + c / 36 % f).toNat, by omega, by omega, by omega⟩
 obtain ⟨gs, a1, r1, gl, gk, ha1, e1⟩ := yg hl A B [] s (f - (m : Int)) [some (.con (ps.map .str)), some (.int ((d : Int) + 1)), some (.int c), a4, a5, some (.int (m : Int)), none, none] m 0 [] a rr ha (by simp; omega)
 obtain ⟨w, a2, f2, r2, E2, wo, wz, wd, wl, ha2, hf2, uU, e2⟩ := wJ hr A (B ++ [.dead]) s [some (.int c), a4, a5, some (.int (m : Int)), some (.con (gs.map .str)), none] gs gk [] [] a1 (f - (m : Int)) r1 ha1 (by omega) (by omega) (by simp; omega)
 have hbd : w.sz ≤ 3 * sB d := Nat.le_trans wz (Nat.mul_le_mul_right _ (by omega))
 refine ⟨w, a2, f2, r2, .dead :: .dead :: E2, wo, hbd, wd, ha2, hf2, uU, ?_⟩
 have S1 : (br 6 (aM eF (eC (.int 1)) (aM g7 (aM nQ (ai 3) (eC (.int 36))) (aM ia (ai 0) (eC (.int 3)))))) [some (.obj A.length), some (.con (ps.map .str)), some (.int ((d : Int) + 1)), some (.int c), a4, a5, none, none, none] (A ++ .lst (St a sc s f rr) :: B) = .nx [some (.obj A.length), some (.con (ps.map .str)), some (.int ((d : Int) + 1)), some (.int c), a4, a5, some (.int (m : Int)), none, none] (A ++ .lst (St a sc s f rr) :: B) := by
  unfold St
  generalize ps.map D.str = pD
  simp! [g0, OP, hf, hm]
 have S2 : (jj (aM mD (aM ia (ai 0) (eC (.int 3))) (ai 6)) (ai 0) (eC (.int 3))) [some (.obj A.length), some (.con (ps.map .str)), some (.int ((d : Int) + 1)), some (.int c), a4, a5, some (.int (m : Int)), none, none] (A ++ .lst (St a sc s f rr) :: B) = .nx [some (.obj A.length), some (.con (ps.map .str)), some (.int ((d : Int) + 1)), some (.int c), a4, a5, some (.int (m : Int)), none, none] (A ++ .lst (St a sc s (f - (m : Int)) rr) :: B) := by
  unfold St
  generalize ps.map D.str = pD
  simp! [mH, lP, g0, s0, OP, Tq]
 have IW := pG (j := (m : Int)) (by omega) (by omega)
 rw [Int.toNat_natCast] at IW
 have en : (A ++ DO.lst (St a sc s (f - (m : Int)) rr) :: B).length = A.length + (B.length + 1) := by simp
 have S3 : (br 7 (uu (qF ko oN [true] (af (ai 6) (aq)) (gS) (aM ia (eFn (av bU (af (eC (.str "down")) (af (eC (.str "deep")) (af (eC (.str "later")) (aq)))))) (aM g7 (aH 1 aO (af (ai 1) (aq))) (eC (.int 3))))))) [some (.obj A.length), some (.con (ps.map .str)), some (.int ((d : Int) + 1)), some (.int c), a4, a5, some (.int (m : Int)), none, none] (A ++ .lst (St a sc s (f - (m : Int)) rr) :: B) = .nx [some (.obj A.length), some (.con (ps.map .str)), some (.int ((d : Int) + 1)), some (.int c), a4, a5, some (.int (m : Int)), some (.con (gs.map .str)), none] (A ++ .lst (St a1 sc s (f - (m : Int)) r1) :: (B ++ [.dead])) := by
  have ec : qF ko oN [true] (af (ai 6) (aq)) (gS) (aM ia (eFn (av bU (af (eC (.str "down")) (af (eC (.str "deep")) (af (eC (.str "later")) (aq)))))) (aM g7 (aH 1 aO (af (ai 1) (aq))) (eC (.int 3)))) [some (.obj A.length), some (.con (ps.map .str)), some (.int ((d : Int) + 1)), some (.int c), a4, a5, some (.int (m : Int)), none, none] (A ++ .lst (St a sc s (f - (m : Int)) rr) :: B) = .ok (.obj (A.length + (B.length + 1))) (A ++ .lst (St a1 sc s (f - (m : Int)) r1) :: (B ++ .lst (gs.map .str) :: [])) := by
   rw [vM]
   simp only [g9, jm, List.getElem?_cons_succ, List.getElem?_cons_zero, jG, bK, kB, uq, IW]
   rw [en, show (A ++ .lst (St a sc s (f - (m : Int)) rr) :: B) ++ [DO.lst []] = A ++ .lst (St a sc s (f - (m : Int)) rr) :: (B ++ .lst [] :: []) by simp]
   rw [e1]
   simp
  have ef := Tt ec
  rw [qH, ef, vL]
  simp only [List.set_cons_succ, List.set_cons_zero]
 have Wb : (A ++ DO.lst (St a1 sc s (f - (m : Int)) r1) :: (B ++ [DO.dead])).length = A.length + ((B ++ [DO.dead]).length + 1) := by simp
 have ef : uu (je oN [true, true, true] (ai 7) (gS) (av bY (af (ai 0) (af (aH 3 r (af (ai 1) (af (ai 2) (af (aM mD (ai 3) (eC (.int 1))) (aq))))) (aq))))) [some (.obj A.length), some (.con (ps.map .str)), some (.int ((d : Int) + 1)), some (.int c), a4, a5, some (.int (m : Int)), some (.con (gs.map .str)), none] (A ++ .lst (St a1 sc s (f - (m : Int)) r1) :: (B ++ [.dead])) = .ok (.con w.Ds) (A ++ .lst (St a2 sc s f2 r2) :: ((B ++ [.dead]) ++ .dead :: E2)) := by
  have ec : je oN [true, true, true] (ai 7) (gS) (av bY (af (ai 0) (af (aH 3 r (af (ai 1) (af (ai 2) (af (aM mD (ai 3) (eC (.int 1))) (aq))))) (aq)))) [some (.obj A.length), some (.con (ps.map .str)), some (.int ((d : Int) + 1)), some (.int c), a4, a5, some (.int (m : Int)), some (.con (gs.map .str)), none] (A ++ .lst (St a1 sc s (f - (m : Int)) r1) :: (B ++ [.dead])) = .ok (.obj (A.length + ((B ++ [DO.dead]).length + 1))) (A ++ .lst (St a2 sc s f2 r2) :: ((B ++ [.dead]) ++ .lst w.Ds :: E2)) := by
   rw [rT]
   simp only [jm, List.getElem?_cons_succ, List.getElem?_cons_zero, jG]
   rw [Wb, show (A ++ .lst (St a1 sc s (f - (m : Int)) r1) :: (B ++ [.dead])) ++ [DO.lst []] = A ++ .lst (St a1 sc s (f - (m : Int)) r1) :: ((B ++ [.dead]) ++ .lst [] :: []) by simp]
   rw [e2]
   simp
  exact Tt ec
 have Ob : w.Ds.length ≤ sizeLine := lz (by omega)
 have z2 : (2 : Nat) ≤ sizeLine := lz (by omega)
 rw [nq, bu, S1, ck, bu, S2, ck, bu, S3, ck, yG, pH, g9, Dy, jG, bK, g9, pH, g9, ef]
 rw [show (B ++ [DO.dead]) ++ .dead :: E2 = B ++ .dead :: .dead :: E2 by simp]
 generalize St a2 sc s f2 r2 = s2
 generalize w.Ds = ws at Ob
 simp! [fK, bY, Ob, z2]
theorem D4 {ps : List Str} (hp : ∀ s ∈ ps, PyData.strOk s = true) (hpl : ps.length = 4) {sc : List Int} (hl : sc.length ≤ 63) {r : List D → M D} (d : Nat) (hr : ∀ e, d = e + 1 → Good ps sc r e) : Good ps sc (fun ds => cG 9 (eU r) ds) d := by
 intro A B a s f rr ha hf zB
 have g0 : ∀ x Y, (A ++ x :: Y)[A.length]? = some x := fun x Y => wK A x Y
 obtain ⟨c, r1, e1⟩ := pL A B a sc s f rr ha hl
 obtain ⟨kn, hkn, ek⟩ := IV hp hpl (c / 12)
 have z1 : (1 : Nat) ≤ sizeLine := lz (by omega)
 have z2 : (2 : Nat) ≤ sizeLine := lz (by omega)
 have z3 : (3 : Nat) ≤ sizeLine := lz (by omega)
 have z4 : (4 : Nat) ≤ sizeLine := lz (by omega)
 have Tu : (ps.map D.str).length = 4 := by rw [List.length_map, hpl]
 suffices hs : ∃ (l : Lk) (a' f' r' : Int) (E : DH), l.Ok ∧ l.sz ≤ sB d ∧ l.dep ≤ d + 1 ∧ 0 ≤ a' ∧ 0 ≤ f' ∧ f' ≤ 3 ∧ eU r [some (.obj A.length), some (.con (ps.map .str)), some (.int (d : Int)), none, none, none, none, none, none] (A ++ .lst (St a sc s f rr) :: B) = .rt l.D (A ++ .lst (St a' sc s f' r') :: (B ++ E)) by
  obtain ⟨l, a', f', r', E, x1, x2, x3, x4, x5, x6, x7⟩ := hs
  refine ⟨l, a', f', r', E, x1, x2, x3, x4, x5, x6, ?_⟩
  show cG 9 (eU r) _ _ = _
  rw [lR]
  show (eU r [some (.obj A.length), some (.con (ps.map .str)), some (.int (d : Int)), none, none, none, none, none, none] (A ++ .lst (St a sc s f rr) :: B)).fn = _
  rw [x7]; rfl
 have S1 : (br 3 (aH 1 aO (af (ai 0) (aq)))) [some (.obj A.length), some (.con (ps.map .str)), some (.int (d : Int)), none, none, none, none, none, none] (A ++ .lst (St a sc s f rr) :: B) = .nx [some (.obj A.length), some (.con (ps.map .str)), some (.int (d : Int)), some (.int c), none, none, none, none, none] (A ++ .lst (St (a + 1) sc s f r1) :: B) := by
  generalize St a sc s f rr = s1 at e1
  generalize St (a + 1) sc s f r1 = s2 at e1
  generalize ps.map D.str = pD
  simp! [e1]
 have S2 : (br 4 (aM g7 (ai 3) (eC (.int 12)))) [some (.obj A.length), some (.con (ps.map .str)), some (.int (d : Int)), some (.int c), none, none, none, none, none] (A ++ .lst (St (a + 1) sc s f r1) :: B) = .nx [some (.obj A.length), some (.con (ps.map .str)), some (.int (d : Int)), some (.int c), some (.int (c % 12)), none, none, none, none] (A ++ .lst (St (a + 1) sc s f r1) :: B) := by
  generalize ps.map D.str = pD
  simp! []
 have S3 : (br 5 (av bY (af (eC (.str "kind")) (af (aM ia (ai 1) (aM g7 (aM nQ (ai 3) (eC (.int 12))) (av kq (af (ai 1) (aq))))) (aq))))) [some (.obj A.length), some (.con (ps.map .str)), some (.int (d : Int)), some (.int c), some (.int (c % 12)), none, none, none, none] (A ++ .lst (St (a + 1) sc s f r1) :: B) = .nx [some (.obj A.length), some (.con (ps.map .str)), some (.int (d : Int)), some (.int c), some (.int (c % 12)), some (.tup [.str "kind", .str kn]), none, none, none] (A ++ .lst (St (a + 1) sc s f r1) :: B) := by
  generalize ps.map D.str = pD at Tu ek
  simp! [Tu, ek, z2, z4]
 rw [eU, bu, S1, ck, bu, S2, ck, bu, S3, ck]
 by_cases h3 : c % 12 < 3
 ·refine ⟨.any, a + 1, f, r1, [], by rw [Lk.Ok]; trivial, by rw [Lk.sz]; exact GD d, by rw [Lk.dep]; omega, by omega, hf, zB, ?_⟩
  rw [JB, List.append_nil]
  generalize ps.map D.str = pD
  generalize St (a + 1) sc s f r1 = s2
  simp! [h3, z1]
 by_cases h6 : c % 12 < 6 ∨ (d : Int) < 1
 ·refine ⟨.kind kn, a + 1, f, r1, [], by rw [Lk.Ok]; exact hkn, by rw [Lk.sz]; exact GD d, by rw [Lk.dep]; omega, by omega, hf, zB, ?_⟩
  have eK : (Lk.kind kn).D = .tup [.str "kind", .str kn] := by rw [Lk.D]
  rw [eK, List.append_nil]
  generalize ps.map D.str = pD
  generalize St (a + 1) sc s f r1 = s2
  by_cases Ox : c % 12 < 6
  ·simp! [h3, Ox]
  ·have hd1 : (d : Int) < 1 := h6.resolve_left Ox
   generalize (d : Int) = di at hd1
   simp! [h3, Ox, hd1]
 have Wc : ¬ c % 12 < 6 := fun z => h6 (.inl z)
 have Ri : ¬ (d : Int) < 1 := fun z => h6 (.inr z)
 obtain ⟨e, rfl⟩ : ∃ e, d = e + 1 := ⟨d - 1, by omega⟩
 have hG := hr e rfl
 have Wd : ((e + 1 : Nat) : Int) = (e : Int) + 1 := by omega
 rw [Wd] at Ri ⊢
 have hd1 : (e : Int) + 1 - 1 = e := by omega
 have S4 : (rB (lO (aM C8 (ai 4) (eC (.int 3)))) (dO (av bY (af (eC (.str "any")) (aq)))) (eE)) [some (.obj A.length), some (.con (ps.map .str)), some (.int ((e : Int) + 1)), some (.int c), some (.int (c % 12)), some (.tup [.str "kind", .str kn]), none, none, none] (A ++ .lst (St (a + 1) sc s f r1) :: B) = .nx [some (.obj A.length), some (.con (ps.map .str)), some (.int ((e : Int) + 1)), some (.int c), some (.int (c % 12)), some (.tup [.str "kind", .str kn]), none, none, none] (A ++ .lst (St (a + 1) sc s f r1) :: B) := by
  generalize ps.map D.str = pD
  simp! [h3]
 have S5 : (rB (zQ (lO (aM C8 (ai 4) (eC (.int 6)))) (lO (aM C8 (ai 2) (eC (.int 1))))) (dO (ai 5)) (eE)) [some (.obj A.length), some (.con (ps.map .str)), some (.int ((e : Int) + 1)), some (.int c), some (.int (c % 12)), some (.tup [.str "kind", .str kn]), none, none, none] (A ++ .lst (St (a + 1) sc s f r1) :: B) = .nx [some (.obj A.length), some (.con (ps.map .str)), some (.int ((e : Int) + 1)), some (.int c), some (.int (c % 12)), some (.tup [.str "kind", .str kn]), none, none, none] (A ++ .lst (St (a + 1) sc s f r1) :: B) := by
  generalize ps.map D.str = pD
  generalize (e : Int) + 1 = di at Ri
  simp! [Wc, Ri]
 rw [bu, S4, ck, bu, S5, ck]
 obtain ⟨l, a2, f2, r2, E2, lo, Tv, ld, ha2, hf2, uU, e2⟩ := hG A B (a + 1) s f r1 (by omega) hf zB
 by_cases h8 : c % 12 < 8
 ·refine ⟨.not l, a2, f2, r2, E2, by rw [Lk.Ok]; exact lo, by rw [Lk.sz, sB]; omega, by rw [Lk.dep]; omega, ha2, hf2, uU, ?_⟩
  have eN : (Lk.not l).D = .tup [.str "not", l.D] := by rw [Lk.D]
  rw [eN]
  generalize l.D = ld at e2
  generalize ps.map D.str = pD at e2
  generalize St (a + 1) sc s f r1 = s2 at e2
  generalize St a2 sc s f2 r2 = s3 at e2
  simp! [h8, e2, z2, hd1]
 have S6 : (rB (lO (aM C8 (ai 4) (eC (.int 8)))) (dO (av bY (af (eC (.str "not")) (af (aH 3 r (af (ai 0) (af (ai 1) (af (aM mD (ai 2) (eC (.int 1))) (aq))))) (aq))))) (eE)) [some (.obj A.length), some (.con (ps.map .str)), some (.int ((e : Int) + 1)), some (.int c), some (.int (c % 12)), some (.tup [.str "kind", .str kn]), none, none, none] (A ++ .lst (St (a + 1) sc s f r1) :: B) = .nx [some (.obj A.length), some (.con (ps.map .str)), some (.int ((e : Int) + 1)), some (.int c), some (.int (c % 12)), some (.tup [.str "kind", .str kn]), none, none, none] (A ++ .lst (St (a + 1) sc s f r1) :: B) := by
  generalize ps.map D.str = pD
  simp! [h8]
 rw [bu, S6, ck]
 by_cases hw : c % 12 < 10 ∧ 0 < f
 ·obtain ⟨w, a3, f3, r3, E3, wo, wz, wd, Oc, LC, GG, e3⟩ := GF hG hl A B (a + 1) s f r1 c (some (.int (c % 12))) (some (.tup [.str "kind", .str kn])) (by omega) hw.2 zB
  refine ⟨.way w, a3, f3, r3, E3, by rw [Lk.Ok]; exact wo, by rw [Lk.sz, sB]; omega, by rw [Lk.dep]; omega, Oc, LC, GG, ?_⟩
  have We : (Lk.way w).D = .tup [.str "way", .tup w.Ds] := by rw [Lk.D]
  rw [We]
  have ec : xG (lO (aM C8 (ai 4) (eC (.int 10)))) (lO (aM zM (aM ia (ai 0) (eC (.int 3))) (eC (.int 0)))) [some (.obj A.length), some (.con (ps.map .str)), some (.int ((e : Int) + 1)), some (.int c), some (.int (c % 12)), some (.tup [.str "kind", .str kn]), none, none, none] (A ++ .lst (St (a + 1) sc s f r1) :: B) = .ok true (A ++ .lst (St (a + 1) sc s f r1) :: B) := by
   have Dm := hw.1
   have hfp := hw.2
   unfold St
   generalize ps.map D.str = pD
   simp! [Dm, hfp, g0, OP, zM]
  rw [bu, Ci, ec, Ih, e3, Fj]
 ·have ec : xG (lO (aM C8 (ai 4) (eC (.int 10)))) (lO (aM zM (aM ia (ai 0) (eC (.int 3))) (eC (.int 0)))) [some (.obj A.length), some (.con (ps.map .str)), some (.int ((e : Int) + 1)), some (.int c), some (.int (c % 12)), some (.tup [.str "kind", .str kn]), none, none, none] (A ++ .lst (St (a + 1) sc s f r1) :: B) = .ok false (A ++ .lst (St (a + 1) sc s f r1) :: B) := by
   unfold St
   generalize ps.map D.str = pD
   by_cases Dm : c % 12 < 10
   ·have hfp : ¬ 0 < f := fun z => hw ⟨Dm, z⟩
    simp! [Dm, hfp, g0, OP, zM]
   ·simp! [Dm]
  obtain ⟨l3, a3, f3, r3, E3, Wf, WO, Wg, Oc, LC, GG, e3⟩ := hG A (B ++ E2) a2 s f2 r2 ha2 hf2 uU
  obtain ⟨o, eo⟩ := LB (c / 36)
  simp only [List.append_assoc] at e3
  refine ⟨.bin o l l3, a3, f3, r3, E2 ++ E3, by rw [Lk.Ok]; exact ⟨lo, Wf⟩, by rw [Lk.sz, sB]; omega, by rw [Lk.dep]; omega, Oc, LC, GG, ?_⟩
  have eB : (Lk.bin o l l3).D = .tup [.str (BL o), l.D, l3.D] := by rw [Lk.D]
  have Wh : ∀ (x y : Str) (G : DH), (bU [.str x, .str y] G).fw G = .ok (.con [.str x, .str y]) G := fun x y G => iP (by simpa using z2) rfl
  rw [eB, bu, Ci, ec, K3, yH, ck]
  generalize l.D = ld at e2
  generalize l3.D = Wg at e3
  generalize BL o = bo at eo
  generalize ps.map D.str = pD at e2 e3
  generalize St (a + 1) sc s f r1 = s2 at e2
  generalize St a2 sc s f2 r2 = s3 at e2 e3
  generalize St a3 sc s f3 r3 = s4 at e3
  simp! [e2, e3, z3, hd1, jI, Wh, eo]
theorem AY {ps : List Str} (hp : ∀ s ∈ ps, PyData.strOk s = true) (hpl : ps.length = 4) {sc : List Int} (hl : sc.length ≤ 63) : ∀ (n d : Nat), d < n → Good ps sc (bB n) d
 | 0, d, h => by omega
 | n + 1, d, h => by
  have := D4 hp hpl hl (r := bB n) d fun e he => AY hp hpl hl n e (by omega)
  intro A B a s f rr ha hf zB
  obtain ⟨l, a', f', r', E, x1, x2, x3, x4, x5, x6, x7⟩ := this A B a s f rr ha hf zB
  exact ⟨l, a', f', r', E, x1, x2, x3, x4, x5, x6, x7⟩
end K71
end
section
set_option Elab.async false
set_option linter.all false
set_option maxRecDepth 100000
set_option maxHeartbeats 1000000
namespace K71
open PySem PySem.Spec L2 L3
theorem Wi {d : Nat} (h : d ≤ 3) : sB d ≤ 40 := by
 match d, h with
 | 0, _ => simp [sB]
 | 1, _ => simp [sB]
 | 2, _ => simp [sB]
 | 3, _ => simp [sB]
theorem D5 {ps : List Str} {sc : List Int} (hl : sc.length ≤ 63) (hG : ∀ d, d ≤ 3 → Good ps sc iD d) (A B E : DH) (a s f rr c : Int) (acc : List D) (hacc : acc.length ≤ 100) (a4 a5 : Option D) (ha : 0 ≤ a) : ∃ (g : Str) (l : Lk) (a' f' r' : Int) (E' : DH) (b5 : Option D), PyData.strOk g = true ∧ l.Ok ∧ l.sz ≤ 40 ∧ l.dep ≤ 4 ∧ 0 ≤ a' ∧ 0 ≤ f' ∧ f' ≤ 3 ∧
  j0 [some (.obj A.length), some (.con (ps.map .str)), some (.int c), some (.obj (A.length + (B.length + 1))), a4, a5] (A ++ .lst (St a sc s f rr) :: (B ++ .lst acc :: E)) =
   .nx [some (.obj A.length), some (.con (ps.map .str)), some (.int c), some (.obj (A.length + (B.length + 1))), a4, b5] (A ++ .lst (St a' sc s f' r') :: (B ++ .lst (acc ++ [.tup [.str g, l.D]]) :: E')) := by
 have g0 : ∀ x Y, (A ++ x :: Y)[A.length]? = some x := fun x Y => wK A x Y
 have s0 : ∀ x z Y, (A ++ x :: Y).set A.length z = A ++ z :: Y := fun x z Y => Ad A x z Y
 obtain ⟨c2, r1, e1⟩ := pL A (B ++ .lst acc :: E) a sc s (c / 3 % 4) rr ha hl
 obtain ⟨g, hg, eg⟩ := JE c2
 obtain ⟨d, hd, Tw⟩ : ∃ d : Nat, 1 + c / 12 % 3 = (d : Int) ∧ d ≤ 3 := ⟨(1 + c / 12 % 3).toNat, by omega, by omega⟩
 obtain ⟨l, a2, f2, r2, E2, lo, Tv, ld, ha2, hf2, uU, e2⟩ := hG d Tw A (B ++ .lst acc :: E) (a + 1) s (c / 3 % 4) r1 (by omega) (by omega) (by omega)
 refine ⟨g, l, a2, f2, r2, E ++ E2, some (.str g), hg, lo, Nat.le_trans Tv (Wi Tw), by omega, ha2, hf2, uU, ?_⟩
 have hz : acc.length < sizeLine := Nat.lt_of_lt_of_le (by omega) (lz (n := 1000) (by omega))
 have z2 : (2 : Nat) ≤ sizeLine := lz (by omega)
 simp only [List.append_assoc, List.cons_append] at e2
 have S1 : (jj (aM g7 (aM nQ (ai 2) (eC (.int 3))) (eC (.int 4))) (ai 0) (eC (.int 3))) [some (.obj A.length), some (.con (ps.map .str)), some (.int c), some (.obj (A.length + (B.length + 1))), a4, a5] (A ++ .lst (St a sc s f rr) :: (B ++ .lst acc :: E)) = .nx [some (.obj A.length), some (.con (ps.map .str)), some (.int c), some (.obj (A.length + (B.length + 1))), a4, a5] (A ++ .lst (St a sc s (c / 3 % 4) rr) :: (B ++ .lst acc :: E)) := by
  unfold St
  generalize ps.map D.str = pD
  simp! [mH, lP, g0, s0, Tq]
 have hg' := Ff A B
 have hs' := hs2 A B
 rw [j0, bu, S1, ck]
 generalize St a sc s (c / 3 % 4) rr = s1 at e1
 generalize St (a + 1) sc s (c / 3 % 4) r1 = s2 at e1 e2
 generalize St a2 sc s f2 r2 = s3 at e2
 generalize l.D = ld at e2
 generalize ps.map D.str = pD at e2
 simp! [jI, JF, e1, eg, hd, e2, hg', hs', hz, z2]
theorem yh {ps : List Str} {sc : List Int} (hl : sc.length ≤ 63) (hG : ∀ d, d ≤ 3 → Good ps sc iD d) (A B : DH) (s c : Int) : ∀ (m j : Nat) (acc : List D) (E : DH) (a f rr : Int) (a4 a5 : Option D), 0 ≤ a → 0 ≤ f → f ≤ 3 → acc.length + m ≤ 50 → ∃ (w : Wy) (a' f' r' : Int) (E' : DH) (b4 b5 : Option D), w.Ok ∧ w.sz ≤ 40 * m ∧ w.dep ≤ 4 ∧ w.Ds.length = m ∧ 0 ≤ a' ∧ 0 ≤ f' ∧ f' ≤ 3 ∧
  dY (gN 4) j0 ((List.range' j m).map fun (k : Nat) => .int (0 + (k : Int))) [some (.obj A.length), some (.con (ps.map .str)), some (.int c), some (.obj (A.length + (B.length + 1))), a4, a5] (A ++ .lst (St a sc s f rr) :: (B ++ .lst acc :: E)) =
   .nx [some (.obj A.length), some (.con (ps.map .str)), some (.int c), some (.obj (A.length + (B.length + 1))), b4, b5] (A ++ .lst (St a' sc s f' r') :: (B ++ .lst (acc ++ w.Ds) :: E'))
 | 0, j, acc, E, a, f, rr, a4, a5, ha, hf, zB, _ => ⟨.nil, a, f, rr, E, a4, a5, by rw [Wy.Ok]; trivial, by simp [Wy.sz], by rw [Wy.dep]; omega, rfl, ha, hf, zB, by simp [dY, Wy.Ds]⟩
 | m + 1, j, acc, E, a, f, rr, a4, a5, ha, hf, zB, hm => by
  obtain ⟨g, l, a1, f1, r1, E1, b5, hg, lo, Wa, ld, ha1, hf1, LA, e1⟩ := D5 hl hG A B E a s f rr c acc (by omega) (some (.int (0 + (j : Int)))) a5 ha
  obtain ⟨w, a2, f2, r2, E2, c4, c5, wo, wz, wd, wl, ha2, hf2, uU, ih⟩ := yh hl hG A B s c m (j + 1) (acc ++ [.tup [.str g, l.D]]) E1 a1 f1 r1 (some (.int (0 + (j : Int)))) b5 ha1 hf1 LA (by simp; omega)
  refine ⟨.cons g l w, a2, f2, r2, E2, c4, c5, by rw [Wy.Ok]; exact ⟨hg, lo, wo⟩, by rw [Wy.sz]; omega, by rw [Wy.dep]; omega, by rw [Wy.Ds, List.length_cons, wl], ha2, hf2, uU, ?_⟩
  rw [List.range'_succ, List.map_cons, fZ rfl]
  simp only [List.set_cons_succ, List.set_cons_zero, e1, mF]
  rw [ih, Wy.Ds]
  simp
theorem CV {ps : List Str} {sc : List Int} (hl : sc.length ≤ 63) (hG : ∀ d, d ≤ 3 → Good ps sc iD d) (A B : DH) (a s f rr : Int) (ha : 0 ≤ a) (hf : 0 ≤ f) (zB : f ≤ 3) : ∃ (w : Wy) (a' f' r' : Int) (E : DH), w.Ok ∧ w.sz ≤ 120 ∧ w.dep ≤ 4 ∧ w ≠ .nil ∧ 0 ≤ a' ∧ 0 ≤ f' ∧ f' ≤ 3 ∧
  fE [.obj A.length, .con (ps.map .str)] (A ++ .lst (St a sc s f rr) :: B) = .ok (.tup w.Ds) (A ++ .lst (St a' sc s f' r') :: (B ++ E)) := by
 obtain ⟨c, r1, e1⟩ := pL A B a sc s f rr ha hl
 obtain ⟨w, a2, f2, r2, E2, b4, b5, wo, wz, wd, wl, ha2, hf2, uU, e2⟩ := yh hl hG A B s c (1 + c % 3).toNat 0 [] [] (a + 1) f r1 none none (by omega) hf zB (by simp; omega)
 have hne : w ≠ .nil := fun z => by rw [z, Wy.Ds, List.length_nil] at wl; omega
 refine ⟨w, a2, f2, r2, .lst w.Ds :: E2, wo, by omega, wd, hne, ha2, hf2, uU, ?_⟩
 have IW := pG (j := 1 + c % 3) (by omega) (by omega)
 generalize ((List.range' 0 (1 + c % 3).toNat).map fun (k : Nat) => D.int (0 + (k : Int))) = rg at IW e2
 rw [List.nil_append] at e2
 have Ob : w.Ds.length ≤ sizeLine := lz (by omega)
 have n0 : bU [] (A ++ .lst (St (a + 1) sc s f r1) :: B) = .ok (.obj (A.length + (B.length + 1))) (A ++ .lst (St (a + 1) sc s f r1) :: (B ++ [.lst []])) := by simp [bU]
 have Rj := Ff A B E2 (.lst (St a2 sc s f2 r2)) (.lst w.Ds)
 unfold fE
 generalize St a sc s f rr = s1 at e1
 generalize St (a + 1) sc s f r1 = s2 at e1 e2 n0
 generalize St a2 sc s f2 r2 = s3 at e2 Rj
 generalize w.Ds = ws at e2 Rj Ob
 generalize ps.map D.str = pD at e2
 simp! [oH, e1, n0, IW, e2, fK, Rj, bY, Ob]
mutual
theorem vj (k : Nat) : ∀ (l : Lk) (o : Nat), l.Ok → (jU k l o).Ok ∧ (jU k l o).sz ≤ l.sz
 | .any, o, h => by simp [jU, Lk.Ok, Lk.sz]
 | .kind s, o, h => by
  rw [jU]
  split
  ·simp [Lk.Ok, Lk.sz]
  ·exact ⟨h, Nat.le_refl _⟩
 | .not l, o, h => by
  rw [Lk.Ok] at h
  have := vj k l (o + 1) h
  rw [jU]
  split
  ·simp [Lk.Ok, Lk.sz]
  ·rw [Lk.Ok, Lk.sz, Lk.sz]; exact ⟨this.1, by omega⟩
 | .bin e l r, o, h => by
  rw [Lk.Ok] at h
  have h1 := vj k l (o + 1) h.1
  have h2 := vj k r (o + 1 + l.sz) h.2
  rw [jU]
  split
  ·simp [Lk.Ok, Lk.sz]
  ·rw [Lk.Ok, Lk.sz, Lk.sz]; exact ⟨⟨h1.1, h2.1⟩, by omega⟩
 | .way w, o, h => by
  rw [Lk.Ok] at h
  have := zz k w (o + 1) h
  rw [jU]
  split
  ·simp [Lk.Ok, Lk.sz]
  ·rw [Lk.Ok, Lk.sz, Lk.sz]; exact ⟨this.1, by omega⟩
theorem zz (k : Nat) : ∀ (w : Wy) (o : Nat), w.Ok → (gB k w o).Ok ∧ (gB k w o).sz ≤ w.sz
 | .nil, o, h => by simp [gB, Wy.Ok, Wy.sz]
 | .cons g l w, o, h => by
  rw [Wy.Ok] at h
  have h1 := vj k l o h.2.1
  have h2 := zz k w (o + l.sz) h.2.2
  rw [gB, Wy.Ok, Wy.sz, Wy.sz]
  exact ⟨⟨h.1, h1.1, h2.1⟩, by omega⟩
end
mutual
theorem zA : ∀ (l : Lk), l.Ok → ∀ x ∈ l.pre, x.Ok ∧ x.sz ≤ l.sz
 | .any, h, x, hx => by simp [Lk.pre] at hx; subst hx; exact ⟨h, Nat.le_refl _⟩
 | .kind s, h, x, hx => by simp [Lk.pre] at hx; subst hx; exact ⟨h, Nat.le_refl _⟩
 | .not l, h, x, hx => by
  rw [Lk.pre] at hx
  rcases List.mem_cons.mp hx with rfl | hx
  ·exact ⟨h, Nat.le_refl _⟩
  ·rw [Lk.Ok] at h
   have := zA l h x hx
   rw [Lk.sz]; exact ⟨this.1, by omega⟩
 | .bin e l r, h, x, hx => by
  rw [Lk.pre] at hx
  rcases List.mem_cons.mp hx with rfl | hx
  ·exact ⟨h, Nat.le_refl _⟩
  ·rw [Lk.Ok] at h
   rw [Lk.sz]
   rcases List.mem_append.mp hx with hx | hx
   ·have := zA l h.1 x hx; exact ⟨this.1, by omega⟩
   ·have := zA r h.2 x hx; exact ⟨this.1, by omega⟩
 | .way w, h, x, hx => by
  rw [Lk.pre] at hx
  rcases List.mem_cons.mp hx with rfl | hx
  ·exact ⟨h, Nat.le_refl _⟩
  ·rw [Lk.Ok] at h
   have := pM w h x hx
   rw [Lk.sz]; exact ⟨this.1, by omega⟩
theorem pM : ∀ (w : Wy), w.Ok → ∀ x ∈ w.pre, x.Ok ∧ x.sz ≤ w.sz
 | .nil, h, x, hx => by simp [Wy.pre] at hx
 | .cons g l w, h, x, hx => by
  rw [Wy.pre] at hx
  rw [Wy.Ok] at h
  rw [Wy.sz]
  rcases List.mem_append.mp hx with hx | hx
  ·have := zA l h.2.1 x hx; exact ⟨this.1, by omega⟩
  ·have := pM w h.2.2 x hx; exact ⟨this.1, by omega⟩
end
theorem uc : ∀ (ls : List Lk), (∀ l ∈ ls, l.Ok) → dP (ls.map Lk.D) = true
 | [], _ => by simp [dP]
 | l :: ls, h => by simp [dP, AL l (h l (by simp)), uc ls fun x hx => h x (by simp [hx])]
theorem BW (n : Nat) : ∀ (ls : List Lk), (∀ l ∈ ls, l.sz ≤ n) → yL (ls.map Lk.D) ≤ 4 * n + 1
 | [], _ => by simp [yL]
 | l :: ls, h => by
  have h1 := BW n ls fun x hx => h x (by simp [hx])
  have h2 := AM l
  have h3 := h l (by simp)
  simp only [List.map_cons, yL]
  omega
end K71
end
section
set_option Elab.async false
set_option linter.all false
set_option maxRecDepth 100000
set_option maxHeartbeats 1000000
namespace K71
open PySem PySem.Spec L2 L3
theorem GH (ns : List Int) (w : Wy) (wo : w.Ok) (wz : w.sz ≤ 120) (wd : w.dep ≤ 4) (hw : 0 < w.sz) (G : DH) (hG : G.any (v5 "let_go") = true) (b : Int) (k : Nat) (a0 a1 a2 a4 a6 IJ a9 : Option D) : ∃ b9 JG, we [a0, a1, a2, some (.tup w.Ds), a4, some (.con (w.pre.map Lk.D)), a6, some (.int b), some (.int (0 + (k : Int))), a9, IJ] G = .nx [a0, a1, a2, some (.tup w.Ds), a4, some (.con (w.pre.map Lk.D)), a6, some (.int b), some (.int (0 + (k : Int))), b9, JG] G := by
 have hlen : (w.pre.map Lk.D).length = w.sz := by rw [List.length_map, kO]
 have JC : w.sz ≤ sizeLine := lz (by omega)
 have hp : (0 : Int) < (w.sz : Int) := by omega
 obtain ⟨n, hn⟩ : ∃ n : Nat, (b + (k : Int)) % (w.sz : Int) = (n : Int) := ⟨((b + (k : Int)) % (w.sz : Int)).toNat, by have := Int.emod_nonneg (b + (k : Int)) (show (w.sz : Int) ≠ 0 by omega); omega⟩
 have e1 := D0 w n (by omega) G hG
 have e2 := Lx w n (by omega) (by omega) G
 have hc := zz n w 0 wo
 have q : mZ true (.tup (gB n w 0).Ds) (.tup (gB n w 0).Ds) G = .ok (.bl false) G := vX true (.tup (gB n w 0).Ds) G (by rw [D.plain]; exact Gm _ hc.1) (by have := Gn (gB n w 0); rw [D.dp]; omega)
 refine ⟨some (.int (n : Int)), some (.tup (gB n w 0).Ds), ?_⟩
 have it : ∀ ds : List D, vE .tup (.tup ds) G = .ok (.bl true) G := fun ds => rfl
 generalize (gB n w 0).Ds = cs at e1 e2 q
 generalize w.pre.map Lk.D = pD at hlen
 generalize w.Ds = ws at e1 e2
 simp! [we, hlen, JC, hp, hw, hn, e1, e2, it, tM, q]
theorem AZ (ns : List Int) (w : Wy) (wo : w.Ok) (wz : w.sz ≤ 120) (wd : w.dep ≤ 4) (hw : 0 < w.sz) (G : DH) (hG : G.any (v5 "let_go") = true) (b : Int) (a0 a1 a2 a4 a6 : Option D) : ∀ (m j : Nat) (a8 a9 IJ : Option D), ∃ b8 b9 JG, dY (gN 8) we ((List.range' j m).map fun (k : Nat) => .int (0 + (k : Int))) [a0, a1, a2, some (.tup w.Ds), a4, some (.con (w.pre.map Lk.D)), a6, some (.int b), a8, a9, IJ] G = .nx [a0, a1, a2, some (.tup w.Ds), a4, some (.con (w.pre.map Lk.D)), a6, some (.int b), b8, b9, JG] G
 | 0, j, a8, a9, IJ => ⟨a8, a9, IJ, by simp [dY]⟩
 | m + 1, j, a8, a9, IJ => by
  obtain ⟨b9, JG, e⟩ := GH ns w wo wz wd hw G hG b j a0 a1 a2 a4 a6 IJ a9
  obtain ⟨c8, c9, IK, ih⟩ := AZ ns w wo wz wd hw G hG b a0 a1 a2 a4 a6 m (j + 1) (some (.int (0 + (j : Int)))) b9 JG
  refine ⟨c8, c9, IK, ?_⟩
  rw [List.range'_succ, List.map_cons, fZ rfl]
  simp only [List.set_cons_succ, List.set_cons_zero, e, mF]
  exact ih
theorem GI (ns : List Int) (hl : ns.length ≤ 63) : ∃ G, CD [.con (ns.map .int)] [.tab "let_go"] = .ok (.bl true) G := by
 generalize hA : ([.tab "let_go"] : DH) = A
 obtain ⟨s, r0, e0⟩ := GB ns hl A
 obtain ⟨c1, r1, e1⟩ := pL A [] 0 ns s 0 r0 (by omega) hl
 obtain ⟨ps, hpl, hps, e2⟩ := IU c1 (A ++ .lst (St (0 + 1) ns s 0 r1) :: [])
 have hG : ∀ d, d ≤ 3 → Good ps ns iD d := fun d hd => AY hps hpl hl 30 d (by omega)
 obtain ⟨w, a3, f3, r3, E3, wo, wz, wd, wn, Oc, zB, GG, e3⟩ := CV hl hG A [] (0 + 1) s 0 r1 (by omega) (by omega) (by omega)
 obtain ⟨w2, a4, f4, r4, E4, Tz, WQ, WR, WS, Wj, WT, Wl, e4⟩ := CV hl hG A ([] ++ E3) a3 s f3 r3 Oc zB GG
 generalize hB : ([] ++ E3) ++ E4 = B at e4
 have hsz : 0 < w.sz := by
  cases w with
  | nil => exact absurd rfl wn
  | cons g l w => rw [Wy.sz]; have := wG l; omega
 have hlen : (w.pre.map Lk.D).length = w.sz := by rw [List.length_map, kO]
 have JC : w.sz ≤ sizeLine := lz (by omega)
 have LD : w.sz < sizeLine := Nat.lt_of_lt_of_le (by omega) (lz (n := 1000) (by omega))
 have z1 : (1 : Nat) ≤ sizeLine := lz (by omega)
 have hpp : dP (w.pre.map Lk.D) = true := uc _ fun l hl => (pM w wo l hl).1
 have Rl : dP (w2.pre.map Lk.D) = true := uc _ fun l hl => (pM w2 Tz l hl).1
 have WU := BW w.sz w.pre fun l hl => (pM w wo l hl).2
 have Wm := BW w2.sz w2.pre fun l hl => (pM w2 Tz l hl).2
 obtain ⟨G1, TF⟩ : ∃ G1 : DH, G1 = A ++ .lst (St a4 ns s f4 r4) :: B := ⟨_, rfl⟩
 have e5 := AS w (by omega) (by omega) G1
 have e6 := xm w (by omega) G1
 have g6 : ∀ x : DO, (G1 ++ [x])[G1.length]? = some x := fun x => wK G1 x []
 have s6 : ∀ x z : DO, (G1 ++ [x]).set G1.length z = G1 ++ [z] := fun x z => Ad G1 x z []
 have q7 := Ir true (w.pre.map Lk.D) G1.length (G1 ++ [.lst (w.pre.map Lk.D)]) (g6 _) hpp (by omega)
 obtain ⟨G2, OO⟩ : ∃ G2 : DH, G2 = G1 ++ [.lst (w.pre.map Lk.D ++ [.tup [.str "any"]])] := ⟨_, rfl⟩
 have e9 := o9 w2 (by omega) G2
 have TH := AS w2 (by omega) (by omega) G2
 have q9 : mZ true (.con (w2.pre.map Lk.D)) (.con (w2.pre.map Lk.D)) G2 = .ok (.bl false) G2 := vX true _ G2 (by rw [D.plain]; exact Rl) (by rw [D.dp]; omega)
 obtain ⟨IK, Ov, Rm⟩ := pL A (B ++ [.lst (w.pre.map Lk.D ++ [.tup [.str "any"]])]) a4 ns s f4 r4 Wj hl
 have Wn : G2 = A ++ .lst (St a4 ns s f4 r4) :: (B ++ [.lst (w.pre.map Lk.D ++ [.tup [.str "any"]])]) := by rw [OO, TF]; simp
 rw [← Wn] at Rm
 obtain ⟨G3, Rn⟩ : ∃ G3 : DH, G3 = A ++ .lst (St (a4 + 1) ns s f4 Ov) :: (B ++ [.lst (w.pre.map Lk.D ++ [.tup [.str "any"]])]) := ⟨_, rfl⟩
 rw [← Rn] at Rm
 have hT : G3.any (v5 "let_go") = true := by rw [Rn, ← hA]; rfl
 obtain ⟨m, hm⟩ : ∃ m : Nat, (if (w.sz : Int) < 8 then (w.sz : Int) else 8) = (m : Int) := by
  split
  ·exact ⟨w.sz, rfl⟩
  ·exact ⟨8, rfl⟩
 obtain ⟨b8, b9, JG, Od⟩ := AZ ns w wo wz wd hsz G3 hT (IK % (w.sz : Int)) (some (.con (ns.map .int))) (some (.obj A.length)) (some (.con (ps.map .str))) (some (.tup w2.Ds)) (some (.obj G1.length)) m 0 none none none
 have IW := pG (j := (m : Int)) (by omega) (by split at hm <;> omega)
 rw [Int.toNat_natCast] at IW
 generalize ((List.range' 0 m).map fun (k : Nat) => D.int (0 + (k : Int))) = rg at IW Od
 have TJ := o9 w (by omega) G3
 have TL : mZ false (.con (w.pre.map Lk.D)) (.con (w.pre.map Lk.D)) G3 = .ok (.bl true) G3 := vX false _ G3 (by rw [D.plain]; exact hpp) (by rw [D.dp]; omega)
 have OQ : (0 : Int) < (w.sz : Int) := by omega
 have S0 : (br 1 (aH 1 dR (af (ai 0) (aq)))) [some (.con (ns.map .int)), none, none, none, none, none, none, none, none, none, none] A = .nx [some (.con (ns.map .int)), some (.obj A.length), none, none, none, none, none, none, none, none, none] (A ++ .lst (St 0 ns s 0 r0) :: []) := by
  generalize ns.map D.int = nD at e0
  generalize St 0 ns s 0 r0 = s1 at e0
  simp! [e0]
 have S1 : (br 2 (aH 2 iB (af (aH 1 aO (af (ai 1) (aq))) (af (eC (.int 4)) (aq))))) [some (.con (ns.map .int)), some (.obj A.length), none, none, none, none, none, none, none, none, none] (A ++ .lst (St 0 ns s 0 r0) :: []) = .nx [some (.con (ns.map .int)), some (.obj A.length), some (.con (ps.map .str)), none, none, none, none, none, none, none, none] (A ++ .lst (St (0 + 1) ns s 0 r1) :: []) := by
  generalize ns.map D.int = nD
  generalize St 0 ns s 0 r0 = s1 at e1
  generalize St (0 + 1) ns s 0 r1 = s2 at e1 e2
  simp! [e1, e2]
 have S2 : (br 3 (aH 2 fE (af (ai 1) (af (ai 2) (aq))))) [some (.con (ns.map .int)), some (.obj A.length), some (.con (ps.map .str)), none, none, none, none, none, none, none, none] (A ++ .lst (St (0 + 1) ns s 0 r1) :: []) = .nx [some (.con (ns.map .int)), some (.obj A.length), some (.con (ps.map .str)), some (.tup w.Ds), none, none, none, none, none, none, none] (A ++ .lst (St a3 ns s f3 r3) :: ([] ++ E3)) := by
  generalize A ++ .lst (St (0 + 1) ns s 0 r1) :: [] = X1 at e3
  generalize A ++ .lst (St a3 ns s f3 r3) :: ([] ++ E3) = X2 at e3
  generalize ns.map D.int = nD
  generalize ps.map D.str = pD at e3
  simp! [e3]
 have S3 : (br 4 (aH 2 fE (af (ai 1) (af (ai 2) (aq))))) [some (.con (ns.map .int)), some (.obj A.length), some (.con (ps.map .str)), some (.tup w.Ds), none, none, none, none, none, none, none] (A ++ .lst (St a3 ns s f3 r3) :: ([] ++ E3)) = .nx [some (.con (ns.map .int)), some (.obj A.length), some (.con (ps.map .str)), some (.tup w.Ds), some (.tup w2.Ds), none, none, none, none, none, none] G1 := by
  rw [← TF] at e4
  generalize A ++ .lst (St a3 ns s f3 r3) :: ([] ++ E3) = X2 at e4
  generalize ns.map D.int = nD
  generalize ps.map D.str = pD at e4
  simp! [e4]
 have S4 : (br 5 (aH 1 eV (af (ai 3) (aq)))) [some (.con (ns.map .int)), some (.obj A.length), some (.con (ps.map .str)), some (.tup w.Ds), some (.tup w2.Ds), none, none, none, none, none, none] G1 = .nx [some (.con (ns.map .int)), some (.obj A.length), some (.con (ps.map .str)), some (.tup w.Ds), some (.tup w2.Ds), some (.con (w.pre.map Lk.D)), none, none, none, none, none] G1 := by
  generalize ns.map D.int = nD
  generalize ps.map D.str = pD
  generalize w.pre.map Lk.D = wp at e5
  simp! [e5]
 have S5 : (br 6 (aH 1 gE (af (ai 3) (aq)))) [some (.con (ns.map .int)), some (.obj A.length), some (.con (ps.map .str)), some (.tup w.Ds), some (.tup w2.Ds), some (.con (w.pre.map Lk.D)), none, none, none, none, none] G1 = .nx [some (.con (ns.map .int)), some (.obj A.length), some (.con (ps.map .str)), some (.tup w.Ds), some (.tup w2.Ds), some (.con (w.pre.map Lk.D)), some (.obj G1.length), none, none, none, none] (G1 ++ [.lst (w.pre.map Lk.D)]) := by
  generalize ns.map D.int = nD
  generalize ps.map D.str = pD
  generalize w.pre.map Lk.D = wp at e6
  simp! [e6]
 have S6 : (rB (zQ (zR (qC tM (Df .lst (ai 6)))) (lO (aM (mZ true) (ai 6) (ai 5)))) (dO (eC (.bl false))) (eE)) [some (.con (ns.map .int)), some (.obj A.length), some (.con (ps.map .str)), some (.tup w.Ds), some (.tup w2.Ds), some (.con (w.pre.map Lk.D)), some (.obj G1.length), none, none, none, none] (G1 ++ [.lst (w.pre.map Lk.D)]) = .nx [some (.con (ns.map .int)), some (.obj A.length), some (.con (ps.map .str)), some (.tup w.Ds), some (.tup w2.Ds), some (.con (w.pre.map Lk.D)), some (.obj G1.length), none, none, none, none] (G1 ++ [.lst (w.pre.map Lk.D)]) := by
  generalize ns.map D.int = nD
  generalize ps.map D.str = pD
  generalize w.pre.map Lk.D = wp at q7
  have il : vE .lst (.obj G1.length) (G1 ++ [.lst wp]) = .ok (.bl true) (G1 ++ [.lst wp]) := by
   have := g6 (.lst wp)
   simp only [vE, MH, this]
   rfl
  have Wo : mZ true (.obj G1.length) (.con wp) (G1 ++ [.lst wp]) = .ok (.bl false) (G1 ++ [.lst wp]) := q7
  simp! [il, tM, Wo]
 have S7 : (kj (cU "list" dW (ai 6) (af (av bY (af (eC (.str "any")) (aq))) (aq)))) [some (.con (ns.map .int)), some (.obj A.length), some (.con (ps.map .str)), some (.tup w.Ds), some (.tup w2.Ds), some (.con (w.pre.map Lk.D)), some (.obj G1.length), none, none, none, none] (G1 ++ [.lst (w.pre.map Lk.D)]) = .nx [some (.con (ns.map .int)), some (.obj A.length), some (.con (ps.map .str)), some (.tup w.Ds), some (.tup w2.Ds), some (.con (w.pre.map Lk.D)), some (.obj G1.length), none, none, none, none] G2 := by
  rw [OO]
  rw [← hlen] at LD
  generalize ns.map D.int = nD
  generalize ps.map D.str = pD
  generalize w.pre.map Lk.D = wp at LD
  simp! [g6, s6, LD, z1]
 have S8 : (rB (lO (aM (mZ true) (aH 1 dS (af (ai 4) (aq))) (aH 1 eV (af (ai 4) (aq))))) (dO (eC (.bl false))) (eE)) [some (.con (ns.map .int)), some (.obj A.length), some (.con (ps.map .str)), some (.tup w.Ds), some (.tup w2.Ds), some (.con (w.pre.map Lk.D)), some (.obj G1.length), none, none, none, none] G2 = .nx [some (.con (ns.map .int)), some (.obj A.length), some (.con (ps.map .str)), some (.tup w.Ds), some (.tup w2.Ds), some (.con (w.pre.map Lk.D)), some (.obj G1.length), none, none, none, none] G2 := by
  generalize ns.map D.int = nD
  generalize ps.map D.str = pD
  generalize w.pre.map Lk.D = wp
  generalize w2.pre.map Lk.D = WV at e9 TH q9
  simp! [e9, TH, q9]
 have S9 : (br 7 (aM g7 (aH 1 aO (af (ai 1) (aq))) (av kq (af (ai 5) (aq))))) [some (.con (ns.map .int)), some (.obj A.length), some (.con (ps.map .str)), some (.tup w.Ds), some (.tup w2.Ds), some (.con (w.pre.map Lk.D)), some (.obj G1.length), none, none, none, none] G2 = .nx [some (.con (ns.map .int)), some (.obj A.length), some (.con (ps.map .str)), some (.tup w.Ds), some (.tup w2.Ds), some (.con (w.pre.map Lk.D)), some (.obj G1.length), some (.int (IK % (w.sz : Int))), none, none, none] G3 := by
  generalize ns.map D.int = nD
  generalize ps.map D.str = pD
  generalize w.pre.map Lk.D = wp at hlen
  simp! [Rm, hlen, JC, OQ, hsz]
 have Wq : (iL ko (gN 8) (af (av (oi fun i j => if j < i then j else i) (af (eC (.int 8)) (af (av kq (af (ai 5) (aq))) (aq)))) (aq)) we) [some (.con (ns.map .int)), some (.obj A.length), some (.con (ps.map .str)), some (.tup w.Ds), some (.tup w2.Ds), some (.con (w.pre.map Lk.D)), some (.obj G1.length), some (.int (IK % (w.sz : Int))), none, none, none] G3 = .nx [some (.con (ns.map .int)), some (.obj A.length), some (.con (ps.map .str)), some (.tup w.Ds), some (.tup w2.Ds), some (.con (w.pre.map Lk.D)), some (.obj G1.length), some (.int (IK % (w.sz : Int))), b8, b9, JG] G3 := by
  have hmn : (if w.sz < 8 then (w.sz : Int) else 8) = (m : Int) := by
   rw [← hm]
   by_cases h8 : w.sz < 8
   ·rw [if_pos h8, if_pos (by omega)]
   ·rw [if_neg h8, if_neg (by omega)]
  generalize ns.map D.int = nD at Od
  generalize ps.map D.str = pD at Od
  generalize w.pre.map Lk.D = wp at hlen Od
  simp! [hlen, JC, hm, hmn, IW, Od]
 have Wr : (dO (aM (mZ false) (aH 1 dS (af (ai 3) (aq))) (ai 5))) [some (.con (ns.map .int)), some (.obj A.length), some (.con (ps.map .str)), some (.tup w.Ds), some (.tup w2.Ds), some (.con (w.pre.map Lk.D)), some (.obj G1.length), some (.int (IK % (w.sz : Int))), b8, b9, JG] G3 = .rt (.bl true) G3 := by
  generalize ns.map D.int = nD
  generalize ps.map D.str = pD
  generalize w.pre.map Lk.D = wp at TJ TL
  simp! [TJ, TL]
 refine ⟨A, ?_⟩
 unfold CD
 refine lq (R := .lst (St (a4 + 1) ns s f4 Ov) :: (B ++ [.lst (w.pre.map Lk.D ++ [.tup [.str "any"]])])) ?_ rfl
 rw [← Rn]
 have hr : cG 11 xV [.con (ns.map .int)] A = .ok (.bl true) G3 := by
  rw [lR]
  show (xV [some (.con (ns.map .int)), none, none, none, none, none, none, none, none, none, none] A).fn = _
  rw [xV, bu, S0, ck, bu, S1, ck, bu, S2, ck, bu, S3, ck, bu, S4, ck, bu, S5, ck, bu, S6, ck, bu, S7, ck, bu, S8, ck, bu, S9, ck, bu, Wq, ck, Wr]
  rfl
 rw [hr]
 rfl
end K71
end
end
section
set_option Elab.async false
set_option linter.all false
set_option maxRecDepth 100000
set_option maxHeartbeats 4000000
namespace K71
open PySem PySem.Spec L2 L3
theorem walk {l : PySem.W.OpenLaw} {qq : Program} {loose : List Str} {XP : (Str → Option Value) → Heap → Prop} {YP : World → Heap → Prop} {d dy : DefRec} {K : Params → PySem.W.Frag} (hn : l.most = some 63) (hdf : d.params.defaults = []) (hrec : (PyProof.Rows.recsOf qq).find? (fun e => e.name == ("let_go" : Str)) = some dy)
    (hY : ∀ (w : World) (h : Heap), YP w h → (K w.params).In h) (hT : ∀ w : World, PySem.W.noTabs (K w.params) = true)
    (F : ∀ (w : World) (mg : Str → Option Value) (fa : Addr) (h : Heap), (K w.params).In h → h.Ns mainGlobals mg → mg d.name = some (.ref fa) → ∃ t c Pt, Txt (K w.params) mg t ∧ (t.f 16) = fa ∧ PySem.W.tabIn (K w.params) "let_go" = some (c, Pt) ∧ ∀ (s : Shared) (u : Value), BindsTo s (t.d 16) ⟨[u], []⟩ [("_law_script", u)]) :
    PySem.W.WalkO qq loose XP YP l.row.toRowW d [] (fun f vs => PySem.call f vs) :=
  FU (n := 63) (k := 63) (x := "_law_script") (y := "let_go") (CX := fun w => bV l.prog w) hn (by decide) hdf ⟨rfl, by decide, by decide⟩ hrec hY hT (fun w mg fa h KX G hm => by
    obtain ⟨t, c, Pt, T, rfl, ht, hb⟩ := F w mg fa h KX G hm
    exact ⟨(t.d 16), c, Pt, _, ht, hb, fun base _ _ hC hB => Lu T ht hC hB, fun H a ns hl hO hS => Le GI hl ht (BG T.oK T.oM ua) hO hS⟩) fun _ _ _ _ _ ⟨_, _, _, _, _, _, _, _, z⟩ => z
end K71
end
open PySem PySem.W PyProof.Rows
set_option maxRecDepth 100000 in
set_option maxHeartbeats 0 in
theorem PySem.Challenge.cw_pathshape_k71_looks_numbered_holds : PySem.Challenge.rw_pathshape_k71_looks_numbered.Holds := by
  w_on; o_law; k_head; (case hw => w_witness2)
  k_fill
  refine K71.walk (l := PySem.Challenge.rw_pathshape_k71_looks_numbered) rfl rfl rfl (fun w h Y => PySem.W.km_in_of Y) ?TB ?F
  case TB => intro w; kernel_rfl
  case F =>
    intro w mg fa h KX G hmg
    have T : ∃ t, K71.Txt (L2.KOf KX) mg t ∧ ∃ kV dc pm an cd ct, (t.d 16) = PySem.W.fnOf "law" "law" (L2.aE K71.bZ) (L2.az K71.bZ) (L2.aa K71.bZ) .none kV dc pm an cd ct := by
      dsimp only [L2.KOf]
      refine' K71.Ll KX G ?my_a0 ?my_l0 ?my_c0 ?my_k0 ?my_a1 ?my_l1 ?my_c1 ?my_k1 ?my_a2 ?my_l2 ?my_c2 ?my_k2 ?my_a3 ?my_l3 ?my_c3 ?my_k3 ?my_a4 ?my_l4 ?my_c4 ?my_k4 ?my_a5 ?my_l5 ?my_c5 ?my_k5 ?my_a6 ?my_l6 ?my_c6 ?my_k6 ?my_a7 ?my_l7 ?my_c7 ?my_k7 ?my_a8 ?my_l8 ?my_c8 ?my_k8 ?my_a9 ?my_l9 ?my_c9 ?my_k9 ?my_a10 ?my_l10 ?my_c10 ?my_k10 ?my_a11 ?my_l11 ?my_c11 ?my_k11 ?my_a12 ?my_l12 ?my_c12 ?my_k12 ?my_a13 ?my_l13 ?my_c13 ?my_k13 ?my_a14 ?my_l14 ?my_c14 ?my_k14 ?my_a15 ?my_l15 ?my_c15 ?my_k15 ?my_a16 ?my_l16 ?my_c16 ?my_k16 ?my_z0 ?my_z1 ?my_z2 ?my_z3 ?my_z4 ?my_z5 ?my_z6 ?my_z7 ?my_z8 ?my_g0 ?my_gl0 ?my_gv0
      (case my_a0 => k_is)
      (case my_l0 => k_is)
      (case my_c0 => k_is)
      (case my_k0 => k_is)
      (case my_a1 => k_is)
      (case my_l1 => k_is)
      (case my_c1 => k_is)
      (case my_k1 => k_is)
      (case my_a2 => k_is)
      (case my_l2 => k_is)
      (case my_c2 => k_is)
      (case my_k2 => k_is)
      (case my_a3 => k_is)
      (case my_l3 => k_is)
      (case my_c3 => k_is)
      (case my_k3 => k_is)
      (case my_a4 => k_is)
      (case my_l4 => k_is)
      (case my_c4 => k_is)
      (case my_k4 => k_is)
      (case my_a5 => k_is)
      (case my_l5 => k_is)
      (case my_c5 => k_is)
      (case my_k5 => k_is)
      (case my_a6 => k_is)
      (case my_l6 => k_is)
      (case my_c6 => k_is)
      (case my_k6 => k_is)
      (case my_a7 => k_is)
      (case my_l7 => k_is)
      (case my_c7 => k_is)
      (case my_k7 => k_is)
      (case my_a8 => k_is)
      (case my_l8 => k_is)
      (case my_c8 => k_is)
      (case my_k8 => k_is)
      (case my_a9 => k_is)
      (case my_l9 => k_is)
      (case my_c9 => k_is)
      (case my_k9 => k_is)
      (case my_a10 => k_is)
      (case my_l10 => k_is)
      (case my_c10 => k_is)
      (case my_k10 => k_is)
      (case my_a11 => k_is)
      (case my_l11 => k_is)
      (case my_c11 => k_is)
      (case my_k11 => k_is)
      (case my_a12 => k_is)
      (case my_l12 => k_is)
      (case my_c12 => k_is)
      (case my_k12 => k_is)
      (case my_a13 => k_is)
      (case my_l13 => k_is)
      (case my_c13 => k_is)
      (case my_k13 => k_is)
      (case my_a14 => k_is)
      (case my_l14 => k_is)
      (case my_c14 => k_is)
      (case my_k14 => k_is)
      (case my_a15 => k_is)
      (case my_l15 => k_is)
      (case my_c15 => k_is)
      (case my_k15 => k_is)
      (case my_a16 => k_is)
      (case my_l16 => k_is)
      (case my_c16 => k_is)
      (case my_k16 => k_is)
      (case my_z0 => k_is)
      (case my_z1 => k_is)
      (case my_z2 => k_is)
      (case my_z3 => k_is)
      (case my_z4 => k_is)
      (case my_z5 => k_is)
      (case my_z6 => k_is)
      (case my_z7 => k_is)
      (case my_z8 => k_is)
      (case my_g0 => k_is)
      (case my_gl0 => k_is)
      (case my_gv0 => exact .cons ⟨_, rfl⟩ (.nil))
    obtain ⟨t, T, kV, dc, pm, an, cd, ct, e⟩ := T
    have e0 := hmg.symm.trans T.M_law
    cases e0
    have tb : ∃ c Pt, PySem.W.tabIn (L2.KOf KX) "let_go" = some (c, Pt) := by
      dsimp only [L2.KOf]
      refine' ⟨_, _, L3.FW ?my_t1 ?my_t2 ?my_t3 ?my_t4 ?my_t5⟩
      (case my_t1 => k_is)
      (case my_t2 => k_is)
      (case my_t3 => exact rfl)
      (case my_t4 => k_is)
      (case my_t5 => exact rfl)
    obtain ⟨c, Pt, ht⟩ := tb
    exact ⟨t, c, Pt, T, rfl, ht, fun s u => by rw [e]; exact .of_eq rfl⟩
