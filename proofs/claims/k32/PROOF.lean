import PyProof.Rows.All
import Wide.All
import OpenK.AllK
import Wide.FinOn
import Lean
import PyProof.EqAt
import PyProof.EqKinds
import PyProof.TupleCall
import PyProof.StrWalks
import KE.KTryMore
import PyProof.ZipIter
import PyProof.Rows.Range3
import PyProof.Draws
import PyProof.WalksMore
import PyProof.ExcBaseAll.ValueError
import PySem.Challenge.RW_pathshape_k32_steps_gone
section
set_option Elab.async false
set_option linter.all false
set_option maxRecDepth 100000
namespace L2
open PySem PySem.Spec PyProof.Rows
noncomputable abbrev Key := Sum Int Str
noncomputable def yN : Key → Value → Bool
  | .inl k, v => Value.isInt k v
  | .inr x, v => Value.isStrOf x v
noncomputable def OJ (w : World) : Key → Int
  | .inl k => hashInt k
  | .inr x => hashStr w x
theorem g8 : ∀ {k : Key} {v : Value}, yN k v = true → (∃ i t, k = Sum.inl i ∧ v = Value.int i t) ∨ (∃ x t, k = Sum.inr x ∧ v = Value.str x t)
  | .inl i, v, h => by
    obtain ⟨t, e⟩ := Value.isInt_shape (k := i) (v := v) h
    exact .inl ⟨i, t, rfl, e⟩
  | .inr x, v, h => by
    obtain ⟨t, e⟩ := Value.isStrOf_shape (x := x) (v := v) h
    exact .inr ⟨x, t, rfl, e⟩
theorem Ec (i : Int) (t : Tok) : yN (.inl i) (.int i t) = true := by simp [yN, Value.isInt]
theorem Ed (x : Str) (t : Tok) : yN (.inr x) (.str x t) = true := by simp [yN, Value.isStrOf]
theorem JJ (a b : Int) : decide ((Sum.inl a : Key) = Sum.inl b) = (a == b) := by
  by_cases e : a = b
  · subst e; simp
  · have h : ¬ (Sum.inl a : Key) = Sum.inl b := fun q => e (Sum.inl.inj q)
    rw [decide_eq_false h]
    exact (beq_eq_false_iff_ne.mpr e).symm
theorem JK (a b : Str) : decide ((Sum.inr a : Key) = Sum.inr b) = decide (a = b) := by
  by_cases e : a = b
  · subst e; simp
  · have h : ¬ (Sum.inr a : Key) = Sum.inr b := fun q => e (Sum.inr.inj q)
    rw [decide_eq_false h, decide_eq_false e]
theorem JL (a : Int) (b : Str) : decide ((Sum.inl a : Key) = Sum.inr b) = false := decide_eq_false (fun q => nomatch q)
theorem JM (a : Str) (b : Int) : decide ((Sum.inr a : Key) = Sum.inl b) = false := decide_eq_false (fun q => nomatch q)
noncomputable def iA (prog : Program) (w : World) : PySem.KeyKind prog w Key where
  is := yN
  hash := OJ w
  inj := fun v a b ha hb => by
    rcases g8 ha with ⟨i, t, rfl, rfl⟩ | ⟨x, t, rfl, rfl⟩
    · rcases g8 hb with ⟨j, u, rfl, e⟩ | ⟨y, u, rfl, e⟩
      · injection e with e1 _; rw [e1]
      · exact nomatch e
    · rcases g8 hb with ⟨j, u, rfl, e⟩ | ⟨y, u, rfl, e⟩
      · exact nomatch e
      · injection e with e1 _; rw [e1]
  byValue := fun k v h => by
    rcases g8 h with ⟨i, t, rfl, rfl⟩ | ⟨x, t, rfl, rfl⟩ <;> rfl
  pyHash := fun hv h => by
    rcases g8 hv with ⟨i, t, rfl, rfl⟩ | ⟨x, t, rfl, rfl⟩
    · exact wpAny_pyHash_int h
    · exact wpAny_pyHash_str h
  eqBool := fun hu hv h => by
    rcases g8 hu with ⟨i, t, rfl, rfl⟩ | ⟨x, t, rfl, rfl⟩
    · rcases g8 hv with ⟨j, u, rfl, rfl⟩ | ⟨y, u, rfl, rfl⟩
      · rw [JJ] at h; exact wpAny_eqBool_int h
      · rw [JL] at h; exact SeqAt.EqAt.int_str i t y u _ _ _ _ h
    · rcases g8 hv with ⟨j, u, rfl, rfl⟩ | ⟨y, u, rfl, rfl⟩
      · rw [JM] at h; exact SeqAt.EqAt.str_int x t j u _ _ _ _ h
      · rw [JK] at h; exact wpAny_eqBool_str h
  «strs» := fun k x t v h => by
    rcases g8 h with ⟨i, u, rfl, e⟩ | ⟨y, u, rfl, e⟩
    · exact nomatch e
    · injection e with e1 _
      subst e1
      cases v <;> rfl
theorem A5 (prog : Program) (w : World) (i : Int) (t : Tok) : (iA prog w).is (.inl i) (.int i t) = true := Ec i t
theorem A6 (prog : Program) (w : World) (x : Str) (t : Tok) : (iA prog w).is (.inr x) (.str x t) = true := Ed x t
end L2
namespace L2
open PySem PySem.Spec PyProof.Rows
inductive V where
  | lG | bl (b : Bool) | int (i : Int) | str (x : Str) | LZ (b : Array UInt8) | L0 (b : UInt64) | ref (a : Addr) | ty (n : String)
  deriving DecidableEq
noncomputable def RelV : V → Value → Prop
  | .lG, u => u = Value.none
  | .bl b, u => u = Value.bool b
  | .int i, u => ∃ t, u = Value.int i t
  | .str x, u => ∃ t, u = Value.str x t
  | .LZ b, u => ∃ t, u = Value.bytes b t
  | .L0 b, u => ∃ t, u = Value.float b t
  | .ref a, u => u = Value.ref a
  | .ty n, u => u = Value.type n
noncomputable abbrev Vals : List V → List Value → Prop := Paired RelV
theorem Vals.length {xs : List V} {us : List Value} (r : Vals xs us) : xs.length = us.length := Paired.length r
theorem Vals.get : ∀ {xs : List V} {us : List Value} {i : Nat} {x : V}, Vals xs us → xs[i]? = some x → ∃ u, us[i]? = some u ∧ RelV x u
  | _, _, _, _, .nil, e => by simp at e
  | _, _, 0, _, .cons r _, e => by simp at e; subst e; exact ⟨_, rfl, r⟩
  | _, _, i + 1, x, .cons _ t, e => by
    obtain ⟨u, h1, h2⟩ := Vals.get (i := i) (x := x) t (by simpa using e)
    exact ⟨u, by simpa using h1, h2⟩
theorem Vals.append : ∀ {xs ys : List V} {us ws : List Value}, Vals xs us → Vals ys ws → Vals (xs ++ ys) (us ++ ws)
  | _, _, _, _, .nil, s => s
  | _, _, _, _, .cons r t, s => .cons r (Vals.append t s)
theorem Vals.take : ∀ {xs : List V} {us : List Value} (n : Nat), Vals xs us → Vals (xs.take n) (us.take n)
  | _, _, 0, _ => .nil
  | _, _, _ + 1, .nil => .nil
  | _, _, n + 1, .cons r t => .cons r (Vals.take n t)
theorem Vals.drop : ∀ {xs : List V} {us : List Value} (n : Nat), Vals xs us → Vals (xs.drop n) (us.drop n)
  | _, _, 0, r => r
  | _, _, _ + 1, .nil => .nil
  | _, _, n + 1, .cons _ t => Vals.drop n t
noncomputable def A7 : Option V → Option Value → Prop
  | some v, some u => RelV v u
  | none, none => True
  | _, _ => False
noncomputable def KV {κ : Type} : List (κ × V) → List (κ × Value) → Prop := Paired fun (p : κ × V) (q : κ × Value) => p.1 = q.1 ∧ RelV p.2 q.2
noncomputable def kV : Key → V
  | .inl i => .int i
  | .inr x => .str x
inductive HO where
  | lst (xs : List V)
  | tup (xs : List V)
  | dK (kvs : List (Key × V)) | dT (kvs : List (List Key × V))
  | set (S : Int → Bool) (n : Nat)
  | ins (C dx : Addr) (fs : List (Str × V))
  | own (x : Addr)
  | xd (fs : List (Str × V))
  | met (f x : Addr)
  | Ef (lo hi : Int)
  | qE (o : Obj) (u : HO)
  | A1 (ps : Array Value)
  | ext (φ : Heap → Prop)
noncomputable abbrev Hp := Addr → Option HO
noncomputable def upd (H : Hp) (a : Addr) (o : HO) : Hp := fun b => if b = a then some o else H b
theorem g9 {H : Hp} {a : Addr} {o : HO} : upd H a o a = some o := by unfold upd; rw [if_pos rfl]
theorem bQ {H : Hp} {a b : Addr} {o : HO} (h : b ≠ a) : upd H a o b = H b := by unfold upd; rw [if_neg h]
theorem lH {H : Hp} {a b : Addr} {o u : HO} (h : H a = some o) (h' : H b = some u) (d : o ≠ u) : a ≠ b := by
  intro e; subst e; rw [h] at h'; exact d (Option.some.inj h')
theorem fX {H : Hp} {a b : Addr} {o : HO} (h : H a = some o) (h' : H b = none) : a ≠ b := by
  intro e; subst e; rw [h] at h'; cases h'
section
variable (P : Program) (w : World)
noncomputable def kD (H : Hp) (h : Heap) (a : Addr) : HO → Prop
  | .lst xs => xs.length ≤ sizeLine ∧ ∃ (its : List Value) (n : Nat), Vals xs its ∧ h.get? a = some { cls := .type "list", data := .seq its.toArray n }
  | .tup xs => xs.length ≤ sizeLine ∧ ∃ its : List Value, Vals xs its ∧ IsTup h a its.toArray
  | .dK kvs => kvs.length ≤ sizeLine ∧ (a == sysModules) = false ∧ ∃ vs, KV kvs vs ∧ h.DictOf (iA P w) a vs
  | .dT kvs => kvs.length ≤ sizeLine ∧ (a == sysModules) = false ∧ ∃ xs : List (List Key × Addr × Value),
      Paired (fun (p : List Key × V) (q : List Key × Addr × Value) => p.1 = q.1 ∧ H q.2.1 = some (.tup (p.1.map kV)) ∧ RelV p.2 q.2.2) kvs xs ∧
      ∃ o es ep, h.get? a = some o ∧ o.ExactDict ∧ o.data = .dict es ep ∧ es.toList = xs.map (entryOfKey (tupleKind (iA P w))) ∧ (xs.map (·.1)).Nodup
  | .set S n => h.SetOf (intKind P w) a S n
  | .ins C dx fs => H dx = some (.own a) ∧ fs.length ≤ 1000 ∧ dx ≠ a ∧ h.get? a = some (PySem.W.instObj C dx) ∧
      ∃ mA, h.Ns1 dx mA ∧ (∀ f, A7 (fs.lookup f) (mA f)) ∧ PySem.Within mA (fs.map (·.1))
  | .own _ => ∃ o, h.get? a = some o
  | .xd fs => ∃ mA, h.Ns1 a mA ∧ ∀ f, A7 (fs.lookup f) (mA f)
  | .Ef lo hi => ∃ t u v, h.get? a = some { cls := .type "range", data := .fields #[.int lo t, .int hi u, .int 1 v] }
  | .qE o u => h.get? a = some o ∧ kD H h a u
  | .A1 ps => h.get? a = some { cls := .none, data := .fields ps }
  | .met f x => h.get? a = some (PySem.W.methodObj (.ref f) (.ref x))
  | .ext φ => φ h ∧ (∃ o, h.get? a = some o) ∧ ∀ h1 h2 : Heap, φ h1 → (∀ o, h1.get? a = some o → h2.get? a = some o) → φ h2
noncomputable def qQ (H : Hp) (h : Heap) : Prop := ∀ a o, H a = some o → kD P w H h a o
end
section
variable {P : Program} {w : World} {H H' : Hp} {h h' : Heap} {a : Addr} {o : HO}
theorem kD.lt (x : kD P w H h a o) : a < h.objs.size := by
  cases o with
  | lst xs => obtain ⟨_, _, _, _, e⟩ := x; exact Heap.lt_size e
  | tup xs => obtain ⟨_, _, _, p⟩ := x; exact p.lt
  | dK kvs => obtain ⟨_, _, _, _, o, _, _, e, _⟩ := x; exact Heap.lt_size e
  | dT kvs => obtain ⟨_, _, _, _, o, _, _, e, _⟩ := x; exact Heap.lt_size e
  | set S n => obtain ⟨o, _, _, _, e, _⟩ := x; exact Heap.lt_size e
  | ins C dx fs => obtain ⟨_, _, _, e, _⟩ := x; exact Heap.lt_size e
  | own y => obtain ⟨_, e⟩ := x; exact Heap.lt_size e
  | xd fs => obtain ⟨_, ⟨_, _, _, e, _⟩, _⟩ := x; exact Heap.lt_size e
  | Ef lo hi => obtain ⟨_, _, _, e⟩ := x; exact Heap.lt_size e
  | qE ob u => obtain ⟨e, _⟩ := x; exact Heap.lt_size e
  | A1 ps => exact Heap.lt_size (show h.get? a = some _ from x)
  | met f y => exact Heap.lt_size (show h.get? a = some _ from x)
  | ext φ => obtain ⟨_, ⟨_, e⟩, _⟩ := x; exact Heap.lt_size e
theorem Paired.JN {α β : Type} {F G : α → β → Prop} : ∀ {l₁ : List α} {l₂ : List β}, Paired F l₁ l₂ → (∀ a b, F a b → G a b) → Paired G l₁ l₂
  | _, _, .nil, _ => .nil
  | _, _, .cons r t, f => .cons (f _ _ r) (Paired.JN t f)
theorem kD.stay (x : kD P w H h a o) (k : ∀ b u, (b = a ∨ H b = some (.own a)) → h.get? b = some u → h'.get? b = some u)
    (ho : ∀ b, H b = some (.own a) → H' b = some (.own a)) (ht : ∀ b xs, H b = some (.tup xs) → H' b = some (.tup xs)) : kD P w H' h' a o := by
  induction o with
  | lst xs => obtain ⟨z, its, n, r, e⟩ := x; exact ⟨z, its, n, r, k _ _ (.inl rfl) e⟩
  | tup xs => obtain ⟨z, its, r, ob, e, c⟩ := x; exact ⟨z, its, r, ob, k _ _ (.inl rfl) e, c⟩
  | dK kvs => obtain ⟨z, y, vs, r, ob, es, ep, e, c⟩ := x; exact ⟨z, y, vs, r, ob, es, ep, k _ _ (.inl rfl) e, c⟩
  | dT kvs =>
    obtain ⟨z, y, xs, r, ob, es, ep, e, c⟩ := x
    exact ⟨z, y, xs, Paired.JN r fun p q z => ⟨z.1, ht _ _ z.2.1, z.2.2⟩, ob, es, ep, k _ _ (.inl rfl) e, c⟩
  | set S n => obtain ⟨ob, es, ep, t, e, c⟩ := x; exact ⟨ob, es, ep, t, k _ _ (.inl rfl) e, c⟩
  | ins C dx fs =>
    obtain ⟨d, z, ne, e, mA, ⟨od, es, ep, e2, c⟩, r⟩ := x
    exact ⟨ho _ d, z, ne, k _ _ (.inl rfl) e, mA, ⟨od, es, ep, k _ _ (.inr d) e2, c⟩, r⟩
  | own y => obtain ⟨ob, e⟩ := x; exact ⟨ob, k _ _ (.inl rfl) e⟩
  | xd fs => obtain ⟨mA, ⟨od, es, ep, e, c⟩, r⟩ := x; exact ⟨mA, ⟨od, es, ep, k _ _ (.inl rfl) e, c⟩, r⟩
  | Ef lo hi => obtain ⟨t, u, v, e⟩ := x; exact ⟨t, u, v, k _ _ (.inl rfl) e⟩
  | qE ob u ih => obtain ⟨e, q⟩ := x; exact ⟨k _ _ (.inl rfl) e, ih q⟩
  | A1 ps =>
    have e : h.get? a = some { cls := .none, data := .fields ps } := x
    show h'.get? a = some { cls := .none, data := .fields ps }
    exact k a _ (.inl rfl) e
  | met f y =>
    have e : h.get? a = some (PySem.W.methodObj (.ref f) (.ref y)) := x
    show h'.get? a = some (PySem.W.methodObj (.ref f) (.ref y))
    exact k a _ (.inl rfl) e
  | ext φ => obtain ⟨p, ⟨o, e⟩, st⟩ := x; exact ⟨st _ _ p fun o q => k _ _ (.inl rfl) q, ⟨o, k _ _ (.inl rfl) e⟩, st⟩
theorem qQ.lt (x : qQ P w H h) (e : H a = some o) : a < h.objs.size := (x a o e).lt
theorem qQ.fresh (x : qQ P w H h) (e : h.objs.size ≤ a) : H a = none := by
  cases q : H a with
  | none => rfl
  | some u => exact absurd (Nat.lt_of_lt_of_le (x.lt q) e) (Nat.lt_irrefl _)
theorem qQ.kept (x : qQ P w H h) (k : ∀ b u, h.get? b = some u → h'.get? b = some u) : qQ P w H h' := fun a o e =>
  (x a o e).stay (fun b u _ q => k b u q) (fun _ q => q) fun _ _ q => q
theorem qQ.laid (x : qQ P w H h) (k : ∀ b u, h.get? b = some u → h'.get? b = some u) (hp : h.objs.size ≤ a) (new : kD P w (upd H a o) h' a o) : qQ P w (upd H a o) h' := fun b u e => by
  have hn := x.fresh hp
  by_cases hb : b = a
  · subst hb; rw [g9] at e; cases e; exact new
  · rw [bQ hb] at e
    exact (x b u e).stay (fun c v _ q => k c v q) (fun c q => by rw [bQ (fX q hn)]; exact q) fun c xs q => by rw [bQ (fX q hn)]; exact q
end
noncomputable def Rd (H : Hp) (a : Addr) (u : HO) : Prop := H a = some u ∨ ∃ o, H a = some (.qE o u)
theorem Rd.of {H : Hp} {a : Addr} {u : HO} (h : H a = some u) : Rd H a u := .inl h
theorem Rd.ok {P : Program} {w : World} {H : Hp} {h : Heap} {a : Addr} {u : HO} (r : Rd H a u) (x : qQ P w H h) : kD P w H h a u := by
  rcases r with r | ⟨o, r⟩
  · exact x a u r
  · obtain ⟨_, q⟩ := x a _ r
    exact q
noncomputable def L1 : Option HO → Prop
  | some (.lst _) => True
  | some (.dK _) => True
  | some (.dT _) => True
  | some (.set _ _) => True
  | some (.ins _ _ _) => True
  | some (.ext _) => True
  | _ => False
section
variable {P : Program} {w : World} {H : Hp} {h h' : Heap} {x e : Addr} {o' : HO}
theorem qQ.write (ok : qQ P w H h) (mu : L1 (H x)) (he : e = x ∨ H e = some (.own x)) (k : ∀ b u, b ≠ e → h.get? b = some u → h'.get? b = some u) (LO : ∃ u, h'.get? e = some u)
    (new : kD P w (upd H x o') h' x o') : qQ P w (upd H x o') h' := fun b u q => by
  have L4 : ∀ c y, H c = some (.own y) → c ≠ x := fun c y r z => by subst z; rw [r] at mu; exact mu
  have OL : ∀ c xs, H c = some (.tup xs) → c ≠ x := fun c xs r z => by subst z; rw [r] at mu; exact mu
  by_cases hb : b = x
  · subst hb; rw [g9] at q; cases q; exact new
  · rw [bQ hb] at q
    by_cases Hq : b = e
    · have q' : H b = some (.own x) := by
        rcases he with z | z
        · exact absurd (Hq.trans z) hb
        · rw [Hq]; exact z
      rw [q] at q'; cases q'
      obtain ⟨v, hv⟩ := LO
      exact ⟨v, by rw [Hq]; exact hv⟩
    · refine (ok b u q).stay (fun c v hc r => k c v ?_ r) (fun c r => by rw [bQ (L4 c b r)]; exact r) fun c xs r => by rw [bQ (OL c xs r)]; exact r
      rcases hc with rfl | hc
      · exact Hq
      · rintro rfl
        rcases he with z | z
        · exact L4 c b hc z
        · rw [hc] at z; cases z; exact hb rfl
end
structure Un (fs ex : List Addr) (H H' : Hp) (h h' : Heap) : Prop where
  keep : ∀ b o, h.get? b = some o → H b = none → b ∉ fs → b ∉ ex → h'.get? b = some o
  slot : ∀ b o, h.get? b = some o → H b = none → b ∈ fs → b ∉ ex → ∃ sl, h'.get? b = some { o with slots := sl }
  free : ∀ b o, h.get? b = some o → H b = none → b ∉ ex → H' b = none
  there : ∀ b o, h.get? b = some o → b ∉ ex → ∃ o', h'.get? b = some o'
  tups : ∀ b xs, H b = some (.tup xs) → H' b = some (.tup xs)
  sX : ∀ b o u, H b = some (.qE o u) → H' b = some (.qE o u)
  tU : ∀ b ps, H b = some (.A1 ps) → ∃ more, H' b = some (.A1 (ps ++ more))
section
variable {fs fs' ex ex' : List Addr} {H H1 H2 : Hp} {h h1 h2 h' : Heap} {a x e : Addr} {o : HO}
theorem Un.any (u : Un fs ex H H1 h h1) {b : Addr} {ob : Obj} (q : h.get? b = some ob) (n : H b = none) (hx : b ∉ ex) : ∃ sl, h1.get? b = some { ob with slots := sl } := by
  by_cases hb : b ∈ fs
  · exact u.slot b ob q n hb hx
  · exact ⟨ob.slots, u.keep b ob q n hb hx⟩
theorem Un.kept (k : ∀ b u, h.get? b = some u → h'.get? b = some u) : Un fs ex H H h h' :=
  ⟨fun b ob q _ _ _ => k b ob q, fun b ob q _ _ _ => ⟨ob.slots, k b ob q⟩, fun _ _ _ n _ => n, fun b ob q _ => ⟨ob, k b ob q⟩, fun _ _ q => q, fun _ _ _ q => q, fun _ ps q => ⟨#[], by rw [q]; simp⟩⟩
theorem Un.refl : Un fs ex H H h h := Un.kept fun _ _ q => q
theorem Un.laid (k : ∀ b u, h.get? b = some u → h'.get? b = some u) (hp : h.objs.size ≤ a) (hn : H a = none) : Un fs ex H (upd H a o) h h' where
  keep := fun b u q _ _ _ => k b u q
  slot := fun b u q _ _ _ => ⟨u.slots, k b u q⟩
  free := fun b u q n _ => by rw [bQ (Nat.ne_of_lt (Nat.lt_of_lt_of_le (Heap.lt_size q) hp))]; exact n
  there := fun b u q _ => ⟨u, k b u q⟩
  tups := fun b xs q => by rw [bQ (fX q hn)]; exact q
  sX := fun b u xs q => by rw [bQ (fX q hn)]; exact q
  tU := fun b ps q => ⟨#[], by rw [bQ (fX q hn), q]; simp⟩
theorem Un.write (mu : L1 (H x)) (he : e = x ∨ H e = some (.own x)) (k : ∀ b u, b ≠ e → h.get? b = some u → h'.get? b = some u) (LO : ∃ u, h'.get? e = some u) : Un fs ex H (upd H x o) h h' := by
  have hx : ∀ b, H b = none → b ≠ x := fun b n z => by subst z; rw [n] at mu; exact mu
  have hb : ∀ b, H b = none → b ≠ e := fun b n z => by
    subst z
    rcases he with r | r
    · exact hx b n r
    · rw [n] at r; cases r
  have hm : ∀ b u, H b = some u → ¬ L1 (some u) → b ≠ x := fun b u q nm z => by subst z; rw [q] at mu; exact nm mu
  refine ⟨fun b u q n _ _ => k b u (hb b n) q, fun b u q n _ _ => ⟨u.slots, k b u (hb b n) q⟩, fun b u q n _ => by rw [bQ (hx b n)]; exact n, fun b u q _ => ?_,
    fun b xs q => by rw [bQ (hm b _ q fun z => z)]; exact q, fun b u xs q => by rw [bQ (hm b _ q fun z => z)]; exact q, fun b ps q => ⟨#[], by rw [bQ (hm b _ q fun z => z), q]; simp⟩⟩
  by_cases Hq : b = e
  · subst Hq; exact LO
  · exact ⟨u, k b u Hq q⟩
end
noncomputable def Oa (h : Heap) (H : Hp) : List Addr := (List.range h.objs.size).filter fun a => (H a).isSome
noncomputable def zQ (h : Heap) (H : Hp) : Heap := PySem.W.hideAll h (Oa h H)
theorem Eg (h : Heap) (H : Hp) : (zQ h H).objs.size = h.objs.size := PySem.W.hideAll_size _ _
theorem Ff {h : Heap} {H : Hp} {b : Addr} {o : Obj} (e : h.get? b = some o) (n : H b = none) : (zQ h H).get? b = some o :=
  PySem.W.hideAll_get _ e fun hm => by
    have q : (H b).isSome = true := (List.mem_filter.mp hm).2
    rw [n] at q; simp at q
theorem Ht {h : Heap} {H : Hp} {b : Addr} {o : Obj} (e : (zQ h H).get? b = some o) : h.get? b = some o ∧ H b = none := by
  have e' : h.get? b = some o := PySem.W.of_hideAll (Oa h H) e
  refine ⟨e', ?_⟩
  cases q : H b with
  | none => rfl
  | some x =>
    have hm : b ∈ Oa h H := List.mem_filter.mpr ⟨List.mem_range.mpr (Heap.lt_size e'), by simp [q]⟩
    have z : (zQ h H).get? b = none := PySem.W.hideAll_none (Oa h H) hm
    rw [z] at e; cases e
noncomputable def Hu (g h : Heap) (L : Addr) : List (Addr × Obj) := (List.range h.objs.size).filterMap fun a => if a = L ∨ (g.get? a).isSome = true then none else (h.get? a).map fun o => (a, o)
noncomputable def rest (g h : Heap) (L d : Addr) : List (Addr × Obj) := (Hu g h L).filter fun p => decide (p.1 ≠ d)
end L2
namespace L2
open PySem PySem.Spec PyProof.Rows
structure Mod (K : PySem.W.Frag) (mg : Str → Option Value) (base : Heap) : Prop where
  Ob : K.In base
  glob : base.Ns mainGlobals mg
  blt : ∃ mb, base.Ns builtinsNs mb ∧ ∀ x : Str, x ≠ "__name__" → mb x = bootBuiltins x
  nolimit : base.NoLimit
structure Cx where
  prog : Program
  w : World
  K : PySem.W.Frag
  mg : Str → Option Value
  base : Heap
  A : Around
  N : List Str
  s₀ : Shared
  H₀ : Hp
  env : Env
  outer : List Env
  stack : List Env
  ex : List Addr
  fn : Str → Bool
  calm : Bool
  pn : List (Addr × Obj)
  xe : Value → Shared → Prop
noncomputable def frs (l : List Env) : List Addr := l.filterMap (·.frame)
noncomputable abbrev Cx.fs (X : Cx) : List Addr := frs X.outer
noncomputable def JO (sc : Scope) (x : Str) : Prop := sc.names.lookup x = some .local ∨ sc.names.lookup x = some .cell ∨ sc.names.lookup x = some .free
noncomputable def Loc (sc : Scope) (x : Str) : Prop := sc.names.lookup x = some .local ∨ sc.names.lookup x = some .cell
noncomputable def Look (env : Env) (h : Heap) (m : Str → Option Value) (x : Str) (u : Value) : Prop :=
  (env.kindOf x = some .local ∧ m x = some u) ∨ ((env.kindOf x = some .cell ∨ env.kindOf x = some .free) ∧ ∃ c, env.cells.lookup x = some c ∧ h.IsCell c (some u))
structure Cx.Ok (X : Cx) : Prop where
  mod : Mod X.K X.mg X.base
  kind : X.env.scope.kind = .function
  glob : X.env.globals = mainGlobals
  blt : X.env.builtins = builtinsNs
  above : X.s₀.heap.objs.size ≤ X.env.locals
  inj : ∀ x y c, X.env.cells.lookup x = some c → X.env.cells.lookup y = some c → x = y
  has : ∀ x, (X.env.kindOf x = some .cell ∨ X.env.kindOf x = some .free) → ∃ c, X.env.cells.lookup x = some c
  OM : ∀ x c, X.fn x = true → X.env.cells.lookup x = some c → X.s₀.heap.objs.size ≤ c
  hd : X.calm = true → X.A.handled = none
  frames : X.A.frames = some X.stack
  stk : X.stack = X.outer ∨ (X.stack = X.env :: X.outer ∧ X.env.frame = some X.env.locals)
  U5 : ∀ b ∈ X.ex, b ≠ X.env.locals ∧ ∀ x c, X.env.cells.lookup x = some c → c ≠ b
  bs : ∀ b o, X.base.get? b = some o → X.s₀.heap.get? b = some o ∧ X.H₀ b = none
  JP : X.base.objs.size ≤ X.s₀.heap.objs.size
  JQ : ∀ b o, X.base.get? b = some o → b ∉ X.ex
  JR : ∀ b ∈ X.ex, b ∉ X.fs
  wQ : X.s₀.heap.FunFrames X.base X.outer
  LP : ∀ b ∈ X.fs, X.H₀ b = none
structure Inv (X : Cx) (pins : List (Addr × Obj)) (σ : List (Option V)) (H : Hp) (s : Shared) : Prop where
  ok : X.Ok
  os : s.os = X.s₀.os
  bare : AllBare s.gens
  base : Un X.fs X.ex X.H₀ H X.s₀.heap s.heap
  loc : ∃ m, s.heap.Ns X.env.locals m ∧ ∀ (i : Nat) (x : Str) (v : V), X.N[i]? = some x → σ[i]? = some (some v) → JO X.env.scope x → ∃ u, RelV v u ∧ Look X.env s.heap m x u
  cell : ∀ x c, X.env.cells.lookup x = some c → ∃ v, s.heap.IsCell c v
  free : H X.env.locals = none
  sA : ∀ x c, X.env.cells.lookup x = some c → H c = none
  pin : ∀ p ∈ X.pn ++ pins, s.heap.get? p.1 = some p.2 ∧ H p.1 = none ∧ p.1 ≠ X.env.locals ∧ p.1 ∉ X.fs ∧ ∀ v, p.2.data ≠ .cell v
  hok : qQ X.prog X.w H s.heap
  len : σ.length = X.N.length
section
variable {X : Cx} {pins : List (Addr × Obj)} {σ : List (Option V)} {H H' : Hp} {s : Shared} {h' : Heap}
theorem Cx.Ok.ON (ok : X.Ok) {b : Addr} {o : Obj} (e : X.base.get? b = some o) : b ∉ X.fs := fun hb => by
  have := (ok.wQ.mem hb).1
  rw [e] at this; cases this
theorem Inv.bs (I : Inv X pins σ H s) : ∀ b o, X.base.get? b = some o → s.heap.get? b = some o ∧ H b = none := fun b o e =>
  ⟨I.base.keep b o (I.ok.bs b o e).1 (I.ok.bs b o e).2 (I.ok.ON e) (I.ok.JQ b o e), I.base.free b o (I.ok.bs b o e).1 (I.ok.bs b o e).2 (I.ok.JQ b o e)⟩
theorem Inv.bk (I : Inv X pins σ H s) : ∀ b o, X.base.get? b = some o → s.heap.get? b = some o := fun b o e => (I.bs b o e).1
theorem Inv.mod (I : Inv X pins σ H s) : Mod X.K X.mg X.base := I.ok.mod
theorem Inv.Dt (I : Inv X pins σ H s) : X.K.In s.heap := I.ok.mod.Ob.keeps I.bk
theorem Inv.nolimit (I : Inv X pins σ H s) : s.heap.NoLimit := I.ok.mod.nolimit.keeps I.bk
theorem Inv.fr (I : Inv X pins σ H s) : ∃ m, Fr X.base X.env.locals s.heap m :=
  let ⟨m, hn, _⟩ := I.loc
  ⟨m, hn, I.bk, Nat.le_trans I.ok.JP I.ok.above⟩
theorem Inv.lt (I : Inv X pins σ H s) : X.env.locals < s.heap.objs.size := let ⟨_, hn, _⟩ := I.loc; hn.lt
theorem Inv.sz (I : Inv X pins σ H s) : X.s₀.heap.objs.size ≤ s.heap.objs.size := Nat.le_trans I.ok.above (Nat.le_of_lt I.lt)
theorem Inv.OO (I : Inv X pins σ H s) {a : Addr} (h : s.heap.objs.size ≤ a) : a ∉ X.fs := fun hb => by
  obtain ⟨_, o, ho, _⟩ := I.ok.wQ.mem hb
  exact absurd (Nat.lt_of_lt_of_le (Heap.lt_size ho) (Nat.le_trans I.sz h)) (Nat.lt_irrefl _)
theorem Inv.Hr (I : Inv X pins σ H s) : ∀ x c, X.env.cells.lookup x = some c → c ≠ X.env.locals := fun x c e z => by
  obtain ⟨v, o, ho, hd⟩ := I.cell x c e
  obtain ⟨m, ⟨o', es, ep, ho', hd', _⟩, _⟩ := I.loc
  rw [z, ho'] at ho; cases ho; rw [hd'] at hd; cases hd
theorem Inv.wQ (I : Inv X pins σ H s) : s.heap.FunFrames X.base X.outer := by
  have all : ∀ (l : List Env), (∀ b ∈ frs l, b ∈ X.fs) → X.s₀.heap.FunFrames X.base l → s.heap.FunFrames X.base l := by
    intro l
    induction l with
    | nil => intro _ _; trivial
    | cons env r ih =>
      intro hs hl
      obtain ⟨hk, ⟨L, o, hf, hn, ho, hd⟩, hr⟩ := hl
      have hL : L ∈ X.fs := hs L (by unfold frs; rw [List.filterMap_cons, hf]; exact List.mem_cons_self)
      obtain ⟨sl, e⟩ := I.base.slot L o ho (I.ok.LP L hL) hL fun z => I.ok.JR L z hL
      exact ⟨hk, ⟨L, _, hf, hn, e, hd⟩, ih (fun b hb => hs b (by unfold frs; rw [List.filterMap_cons, hf]; exact List.mem_cons_of_mem _ hb)) hr⟩
  exact all X.outer (fun _ hb => hb) I.ok.wQ
theorem Inv.stack (I : Inv X pins σ H s) : s.heap.FunFrames X.base X.stack := by
  rcases I.ok.stk with e | ⟨e, hf⟩
  · rw [e]; exact I.wQ
  · rw [e]
    obtain ⟨m, hn, _⟩ := I.loc
    refine .cons (by rw [I.ok.kind]; decide) hf hn ?_ I.wQ
    exact Heap.get?_none_of_le (Nat.le_trans I.ok.JP I.ok.above)
theorem Inv.sY (I : Inv X pins σ H s) : ∀ b ∈ frs X.stack, b ∈ X.env.locals :: X.fs := fun b hb => by
  rcases I.ok.stk with e | ⟨e, hf⟩
  · rw [e] at hb; exact List.mem_cons_of_mem _ hb
  · rw [e] at hb
    unfold frs at hb
    rw [List.filterMap_cons, hf] at hb
    exact hb
theorem Inv.wG (I : Inv X pins σ H s) : ∀ b ∈ frs X.stack, H b = none := fun b hb => by
  rcases List.mem_cons.mp (I.sY b hb) with e | hb
  · rw [e]; exact I.free
  · obtain ⟨_, o, ho, _⟩ := I.ok.wQ.mem hb
    exact I.base.free b o ho (I.ok.LP b hb) fun z => I.ok.JR b z hb
theorem Inv.step {g' : Array GenState} {t' : Nat} {d' : Drawn} {ch : List Addr} (I : Inv X pins σ H s)
    (hch : ∀ b ∈ ch, (b ∈ X.ex ∨ X.s₀.heap.objs.size ≤ b) ∧ b ≠ X.env.locals ∧ (∀ x c, X.env.cells.lookup x = some c → c ≠ b) ∧ ∀ p ∈ X.pn ++ pins, p.1 ≠ b)
    (keep : ∀ b o, b ≠ X.env.locals → b ∉ X.fs → b ∉ ch → s.heap.get? b = some o → H b = none → h'.get? b = some o)
    (slot : ∀ b o, b ≠ X.env.locals → b ∈ X.fs → b ∉ ch → s.heap.get? b = some o → H b = none → ∃ sl, h'.get? b = some { o with slots := sl }) (free : ∀ b o, b ∉ ch → s.heap.get? b = some o → H b = none → H' b = none)
    (there : ∀ b o, b ∉ ch → s.heap.get? b = some o → ∃ o', h'.get? b = some o')
    (tups : ∀ b xs, H b = some (.tup xs) → H' b = some (.tup xs)) (sX : ∀ b o u, H b = some (.qE o u) → H' b = some (.qE o u)) (tU : ∀ b ps, H b = some (.A1 ps) → ∃ more, H' b = some (.A1 (ps ++ more)))
    (ns : ∀ m, s.heap.Ns X.env.locals m → h'.Ns X.env.locals m) (hok : qQ X.prog X.w H' h') (hg : AllBare g') :
    Inv X pins σ H' { s with heap := h', gens := g', drawn := d', toks := t' } := by
  have Fg : ∀ b o, X.s₀.heap.get? b = some o → b ≠ X.env.locals := fun b o e => Nat.ne_of_lt (Nat.lt_of_lt_of_le (Heap.lt_size e) I.ok.above)
  have Jl : ∀ b o, X.s₀.heap.get? b = some o → b ∉ X.ex → b ∉ ch := fun b o e hx hb => by
    rcases (hch b hb).1 with z | z
    · exact hx z
    · exact absurd (Nat.lt_of_lt_of_le (Heap.lt_size e) z) (Nat.lt_irrefl _)
  have cellK : ∀ x c, X.env.cells.lookup x = some c → ∀ v, s.heap.IsCell c v → h'.IsCell c v := fun x c e v ⟨o, ho, hd⟩ => by
    have L5 : c ∉ ch := fun z => (hch c z).2.2.1 x c e rfl
    by_cases hc : c ∈ X.fs
    · obtain ⟨sl, q⟩ := slot c o (I.Hr x c e) hc L5 ho (I.sA x c e)
      exact ⟨_, q, hd⟩
    · exact ⟨o, keep c o (I.Hr x c e) hc L5 ho (I.sA x c e), hd⟩
  refine ⟨I.ok, I.os, hg, ⟨fun b o e n hb hx => ?_, fun b o e n hb hx => ?_, fun b o e n hx => ?_, fun b o e hx => ?_, fun b xs e => tups b xs (I.base.tups b xs e), fun b o xs e => sX b o xs (I.base.sX b o xs e), fun b ps e => ?_⟩, ?_, fun x c e => ?_, ?_, fun x c e => ?_, fun p hp => ?_, hok, I.len⟩
  · exact keep b o (Fg b o e) hb (Jl b o e hx) (I.base.keep b o e n hb hx) (I.base.free b o e n hx)
  · obtain ⟨sl, e1⟩ := I.base.slot b o e n hb hx
    obtain ⟨L6, e2⟩ := slot b _ (Fg b o e) hb (Jl b o e hx) e1 (I.base.free b o e n hx)
    exact ⟨L6, e2⟩
  · obtain ⟨o', e1⟩ := I.base.there b o e hx
    exact free b o' (Jl b o e hx) e1 (I.base.free b o e n hx)
  · obtain ⟨o', e1⟩ := I.base.there b o e hx
    exact there b o' (Jl b o e hx) e1
  · obtain ⟨m1, e1⟩ := I.base.tU b ps e
    obtain ⟨m2, e2⟩ := tU b _ e1
    exact ⟨m1 ++ m2, by rw [e2, Array.append_assoc]⟩
  · obtain ⟨m, hn, hl⟩ := I.loc
    refine ⟨m, ns m hn, fun i x v e1 e2 e3 => ?_⟩
    obtain ⟨u, r, l⟩ := hl i x v e1 e2 e3
    refine ⟨u, r, ?_⟩
    rcases l with l | ⟨k, c, e, z⟩
    · exact .inl l
    · exact .inr ⟨k, c, e, cellK x c e _ z⟩
  · obtain ⟨v, z⟩ := I.cell x c e
    exact ⟨v, cellK x c e v z⟩
  · obtain ⟨m, ⟨o, _, _, ho, _⟩, _⟩ := I.loc
    exact free _ o (fun z => (hch _ z).2.1 rfl) ho I.free
  · obtain ⟨v, o, ho, hd⟩ := I.cell x c e
    exact free c o (fun z => (hch c z).2.2.1 x c e rfl) ho (I.sA x c e)
  · obtain ⟨e, n, ne, nf, d⟩ := I.pin p hp
    have L5 : p.1 ∉ ch := fun z => (hch p.1 z).2.2.2 p hp rfl
    exact ⟨keep p.1 p.2 ne nf L5 e n, free p.1 p.2 L5 e n, ne, nf, d⟩
theorem Inv.un {t' : Nat} (I : Inv X pins σ H s) (u : Un X.fs [] H H' s.heap h') (hok : qQ X.prog X.w H' h') : Inv X pins σ H' { s with heap := h', toks := t' } := by
  obtain ⟨m, ⟨o, es, ep, ho, r⟩, _⟩ := id I.loc
  obtain ⟨sl, hL⟩ := u.any ho I.free (by simp)
  exact I.step (g' := s.gens) (d' := s.drawn) (ch := []) (fun _ z => nomatch z) (fun b o _ hb _ e n => u.keep b o e n hb (by simp)) (fun b o _ hb _ e n => u.slot b o e n hb (by simp)) (fun b o _ e n => u.free b o e n (by simp)) (fun b o _ e => u.there b o e (by simp)) u.tups u.sX u.tU (fun m' hm => by
    obtain ⟨o', es', LQ, ho', r'⟩ := hm
    rw [ho] at ho'; cases ho'
    exact ⟨_, es', LQ, hL, r'⟩) hok I.bare
theorem Inv.call {g' : Array GenState} {t' : Nat} {d' : Drawn} {ch : List Addr} (I : Inv X pins σ H s) (u : Un (frs X.stack) ch H H' s.heap h') (hok : qQ X.prog X.w H' h') (hg : AllBare g')
    (hch : ∀ b ∈ ch, (b ∈ X.ex ∨ X.s₀.heap.objs.size ≤ b) ∧ b ≠ X.env.locals ∧ (∀ x c, X.env.cells.lookup x = some c → c ≠ b) ∧ ∀ p ∈ X.pn ++ pins, p.1 ≠ b) :
    Inv X pins σ H' { s with heap := h', gens := g', drawn := d', toks := t' } := by
  obtain ⟨m, ⟨o, es, ep, ho, r⟩, _⟩ := id I.loc
  obtain ⟨sl, hL⟩ := u.any ho I.free fun z => (hch _ z).2.1 rfl
  exact I.step (ch := ch) hch (fun b o hL hb hc e n => u.keep b o e n (fun z => (List.mem_cons.mp (I.sY b z)).elim hL hb) hc) (fun b o _ _ hc e n => u.any e n hc) (fun b o hc e n => u.free b o e n hc) (fun b o hc e => u.there b o e hc) u.tups u.sX u.tU (fun m' hm => by
    obtain ⟨o', es', LQ, ho', r'⟩ := hm
    rw [ho] at ho'; cases ho'
    exact ⟨_, es', LQ, hL, r'⟩) hok hg
theorem Inv.turned {t' : Nat} {it : Addr} (I : Inv X pins σ H s) (k : ∀ b o, b ≠ it → s.heap.get? b = some o → h'.get? b = some o) (hn : H it = none) (hL : it ≠ X.env.locals)
    (h1 : it ∈ X.ex ∨ X.s₀.heap.objs.size ≤ it) (h2 : ∀ x c, X.env.cells.lookup x = some c → c ≠ it) (h3 : ∀ p ∈ X.pn ++ pins, p.1 ≠ it) : Inv X pins σ H { s with heap := h', toks := t' } := by
  have L7 : ∀ b u, H b = some u → b ≠ it := fun b u e z => by rw [z, hn] at e; cases e
  refine I.step (g' := s.gens) (d' := s.drawn) (ch := [it]) (fun b hb => ?_) (fun b o _ _ hc e _ => k b o (fun z => hc (by simp [z])) e) (fun b o _ _ hc e _ => ⟨o.slots, k b o (fun z => hc (by simp [z])) e⟩) (fun _ _ _ _ n => n)
    (fun b o hc e => ⟨o, k b o (fun z => hc (by simp [z])) e⟩) (fun _ _ e => e) (fun _ _ _ e => e) (fun b ps e => ⟨#[], by rw [e]; simp⟩) (fun m hm => ?_) (fun b u e => ?_) I.bare
  · have e : b = it := by simpa using hb
    subst e
    exact ⟨h1, hL, h2, h3⟩
  · obtain ⟨o, es, ep, ho, r⟩ := hm
    exact ⟨o, es, ep, k _ o (Ne.symm hL) ho, r⟩
  · refine (I.hok b u e).stay (fun c v hc q => k c v ?_ q) (fun _ q => q) fun _ _ q => q
    rcases hc with z | z
    · rw [z]; exact L7 b u e
    · exact L7 c _ z
theorem Inv.tok (I : Inv X pins σ H s) (t : Nat) : Inv X pins σ H { s with toks := t } := I.un (h' := s.heap) (t' := t) Un.refl I.hok
theorem Inv.kept {t' : Nat} (I : Inv X pins σ H s) (k : ∀ b u, s.heap.get? b = some u → h'.get? b = some u) : Inv X pins σ H { s with heap := h', toks := t' } := I.un (Un.kept k) (I.hok.kept k)
theorem Inv.laid {a : Addr} {o : HO} {t' : Nat} (I : Inv X pins σ H s) (k : ∀ b u, s.heap.get? b = some u → h'.get? b = some u) (hp : s.heap.objs.size ≤ a) (new : kD X.prog X.w (upd H a o) h' a o) :
    Inv X pins σ (upd H a o) { s with heap := h', toks := t' } := I.un (Un.laid k hp (I.hok.fresh hp)) (I.hok.laid k hp new)
theorem Inv.write {x e : Addr} {o : HO} {t' : Nat} (I : Inv X pins σ H s) (mu : L1 (H x)) (he : e = x ∨ H e = some (.own x)) (k : ∀ b u, b ≠ e → s.heap.get? b = some u → h'.get? b = some u) (LO : ∃ u, h'.get? e = some u)
    (new : kD X.prog X.w (upd H x o) h' x o) : Inv X pins σ (upd H x o) { s with heap := h', toks := t' } := I.un (Un.write mu he k LO) (I.hok.write mu he k LO new)
theorem Inv.zR {nh : List (Addr × Obj)} (I : Inv X pins σ H s) (h : ∀ p ∈ nh, s.heap.get? p.1 = some p.2 ∧ H p.1 = none ∧ p.1 ≠ X.env.locals ∧ p.1 ∉ X.fs ∧ ∀ v, p.2.data ≠ .cell v) : Inv X nh σ H s :=
  ⟨I.ok, I.os, I.bare, I.base, I.loc, I.cell, I.free, I.sA, fun p hp => (List.mem_append.mp hp).elim (fun z => I.pin p (List.mem_append_left _ z)) (h p), I.hok, I.len⟩
theorem A8 {N : List Str} (hN : N.Nodup) {i j : Nat} {x : Str} (a : N[i]? = some x) (b : N[j]? = some x) : i = j := by
  obtain ⟨h1, e1⟩ := List.getElem?_eq_some_iff.mp a
  obtain ⟨h2, e2⟩ := List.getElem?_eq_some_iff.mp b
  exact (List.getElem_inj hN).mp (e1.trans e2.symm)
theorem yO {M : Model} {A : Around} {E : Value → Shared → Prop} {i : Nat} {x : Str} {v : V} {u : Value} {Q : Unit → Shared → Prop} (I : Inv X pins σ H s) (hN : X.N.Nodup) (hi : X.N[i]? = some x) (hx : Loc X.env.scope x) (r : RelV v u)
    (h : ∀ s', Inv X pins (σ.set i (some v)) H s' → (∃ a, Heap.SameBut a s.heap s'.heap ∧ (a = X.env.locals ∨ X.env.cells.lookup x = some a)) → Q () s') (hf : X.fn x = true ∨ X.env.scope.names.lookup x = some .local := by first | exact .inl rfl | exact .inr rfl | assumption) : wpAny M A (storeName X.env x u) Q E s := by
  obtain ⟨m, hn, hl⟩ := id I.loc
  have hcls : (X.env.scope.kind == .class || (X.env.scope.kind == .module && X.env.locals != X.env.globals)) = false := by rw [I.ok.kind]; rfl
  have QX : i < σ.length := by rw [I.len]; exact (List.getElem?_eq_some_iff.mp hi).1
  have Hr := I.Hr
  have tracked : ∀ {a : Addr} {h' : Heap}, (∃ o, s.heap.get? a = some o ∧ H a = none) → Heap.SameBut a s.heap h' → qQ X.prog X.w H h' := fun {a h'} ha hs b ob e => by
    obtain ⟨_, _, hfree⟩ := ha
    refine (I.hok b ob e).stay (fun c w' hc q => (hs.2 c ?_).trans q) (fun _ q => q) fun _ _ q => q
    rintro rfl
    rcases hc with rfl | hc
    · rw [hfree] at e; cases e
    · rw [hfree] at hc; cases hc
  rcases hx with hk | hk
  · refine wpAny_storeName_local hk hn (fun h' hn' hs => ?_) hcls
    obtain ⟨oL, _, _, QY, _⟩ := id hn
    refine h _ ⟨I.ok, I.os, I.bare, ⟨fun b o e n hb hx => ?_, fun b o e n hb hx => ?_, I.base.free, fun b o e hx => ?_, I.base.tups, I.base.sX, I.base.tU⟩, ⟨_, hn', fun j y v' e1 e2 e3 => ?_⟩, fun y c e => ?_, I.free, I.sA, fun p hp => ?_, tracked ⟨oL, QY, I.free⟩ hs, by simpa using I.len⟩ ⟨_, hs, .inl rfl⟩
    · exact (hs.2 b (Nat.ne_of_lt (Nat.lt_of_lt_of_le (Heap.lt_size e) I.ok.above))).trans (I.base.keep b o e n hb hx)
    · obtain ⟨sl, e1⟩ := I.base.slot b o e n hb hx
      exact ⟨sl, (hs.2 b (Nat.ne_of_lt (Nat.lt_of_lt_of_le (Heap.lt_size e) I.ok.above))).trans e1⟩
    · obtain ⟨o', e1⟩ := I.base.there b o e hx
      exact ⟨o', (hs.2 b (Nat.ne_of_lt (Nat.lt_of_lt_of_le (Heap.lt_size e) I.ok.above))).trans e1⟩
    · by_cases hj : j = i
      · subst hj
        rw [hi] at e1; cases e1
        rw [List.getElem?_set_self QX] at e2
        cases e2
        exact ⟨u, r, .inl ⟨hk, by simp⟩⟩
      · rw [List.getElem?_set_ne (Ne.symm hj)] at e2
        obtain ⟨u', r', q⟩ := hl j y v' e1 e2 e3
        refine ⟨u', r', ?_⟩
        rcases q with ⟨k, e⟩ | ⟨k, c, e, z⟩
        · refine .inl ⟨k, ?_⟩
          have : y ≠ x := fun e => hj (A8 hN e1 (e ▸ hi))
          simp [this, e]
        · exact .inr ⟨k, c, e, z.sameBut hs (Hr y c e)⟩
    · obtain ⟨w', z⟩ := I.cell y c e
      exact ⟨w', z.sameBut hs (Hr y c e)⟩
    · obtain ⟨e, n, ne, nf, d⟩ := I.pin p hp
      exact ⟨(hs.2 p.1 ne).trans e, n, ne, nf, d⟩
  · have hfn : X.fn x = true := by
      rcases hf with z | z
      · exact z
      · rw [z] at hk; cases hk
    obtain ⟨c, hc⟩ := I.ok.has x (.inl hk)
    obtain ⟨w', z⟩ := I.cell x c hc
    refine wpAny_storeName_cell I.ok.kind hk hc z (fun h' hc' hs => ?_)
    obtain ⟨oc, hoc, OP⟩ := id z
    refine h { s with heap := h' } ⟨I.ok, I.os, I.bare, ⟨fun b o e n hb hx => ?_, fun b o e n hb hx => ?_, I.base.free, fun b o e hx => ?_, I.base.tups, I.base.sX, I.base.tU⟩, ⟨m, hn.sameBut hs (Ne.symm (Hr x c hc)), fun j y v' e1 e2 e3 => ?_⟩, fun y c' e => ?_, I.free, I.sA, fun p hp => ?_, tracked ⟨oc, hoc, I.sA x c hc⟩ hs, by simpa using I.len⟩ ⟨c, hs, .inr hc⟩
    · exact (hs.2 b (Nat.ne_of_lt (Nat.lt_of_lt_of_le (Heap.lt_size e) (I.ok.OM x c hfn hc)))).trans (I.base.keep b o e n hb hx)
    · obtain ⟨sl, e1⟩ := I.base.slot b o e n hb hx
      exact ⟨sl, (hs.2 b (Nat.ne_of_lt (Nat.lt_of_lt_of_le (Heap.lt_size e) (I.ok.OM x c hfn hc)))).trans e1⟩
    · obtain ⟨o', e1⟩ := I.base.there b o e hx
      exact ⟨o', (hs.2 b (Nat.ne_of_lt (Nat.lt_of_lt_of_le (Heap.lt_size e) (I.ok.OM x c hfn hc)))).trans e1⟩
    · by_cases hj : j = i
      · subst hj
        rw [hi] at e1; cases e1
        rw [List.getElem?_set_self QX] at e2
        cases e2
        exact ⟨u, r, .inr ⟨.inl hk, c, hc, hc'⟩⟩
      · rw [List.getElem?_set_ne (Ne.symm hj)] at e2
        obtain ⟨u', r', q⟩ := hl j y v' e1 e2 e3
        refine ⟨u', r', ?_⟩
        rcases q with q | ⟨k, c', e, z'⟩
        · exact .inl q
        · refine .inr ⟨k, c', e, z'.sameBut hs ?_⟩
          rintro rfl
          exact hj (A8 hN e1 (I.ok.inj _ _ _ e hc ▸ hi))
    · by_cases hcc : c' = c
      · subst hcc; exact ⟨_, hc'⟩
      · obtain ⟨w2, z2⟩ := I.cell y c' e
        exact ⟨w2, z2.sameBut hs hcc⟩
    · obtain ⟨e, n, ne, nf, d⟩ := I.pin p hp
      refine ⟨(hs.2 p.1 ?_).trans e, n, ne, nf, d⟩
      intro q
      rw [q, hoc] at e
      have q' : oc = p.2 := Option.some.inj e
      exact d w' (by rw [← q']; exact OP)
theorem A9 {M : Model} {A : Around} {E : Value → Shared → Prop} {i : Nat} {x : Str} {v : V} {u : Value} {Q : Unit → Shared → Prop} (I : Inv X pins σ H s) (hN : X.N.Nodup) (hi : X.N[i]? = some x) (hx : Loc X.env.scope x) (r : RelV v u)
    (h : ∀ s', Inv X pins (σ.set i (some v)) H s' → Q () s') (hf : X.fn x = true ∨ X.env.scope.names.lookup x = some .local := by first | exact .inl rfl | exact .inr rfl | assumption) : wpAny M A (storeName X.env x u) Q E s :=
  yO I hN hi hx r (fun s' I' _ => h s' I') hf
theorem Inv.Fi {s' : Shared} {ch : List Addr} (I : Inv X pins σ H s) (ho : s'.os = s.os) (u : Un (frs X.stack) ch H H' s.heap s'.heap) (hok : qQ X.prog X.w H' s'.heap) (hg : AllBare s'.gens)
    (hch : ∀ b ∈ ch, (b ∈ X.ex ∨ X.s₀.heap.objs.size ≤ b) ∧ b ≠ X.env.locals ∧ (∀ x c, X.env.cells.lookup x = some c → c ≠ b) ∧ ∀ p ∈ X.pn ++ pins, p.1 ≠ b) : Inv X pins σ H' s' := by
  obtain ⟨h', g', d', t', o'⟩ := s'
  have e : o' = s.os := ho
  subst e
  exact I.call (g' := g') (t' := t') (d' := d') u hok hg hch
end
noncomputable abbrev XK := Value → Option Addr → Hp → Prop
noncomputable abbrev St := List (Option V)
noncomputable abbrev VK := V → Hp → Prop
noncomputable abbrev TE := St → Hp → VK → Prop
noncomputable abbrev TT := St → Hp → (Bool → Hp → Prop) → Prop
noncomputable abbrev TA := St → Hp → (List V → Hp → Prop) → Prop
structure Ends where
  nx : St → Hp → Prop
  rt : VK
  bk : St → Hp → Prop := fun _ _ => False
  ct : St → Hp → Prop := fun _ _ => False
noncomputable abbrev TS := Ends → St → Hp → Prop
noncomputable def EP (X : Cx) (pins : List (Addr × Obj)) (σ : St) (Q : VK) (u : Value) (s' : Shared) : Prop := ∃ v H', Inv X pins σ H' s' ∧ RelV v u ∧ Q v H'
noncomputable def TP (X : Cx) (pins : List (Addr × Obj)) (σ : St) (Q : Bool → Hp → Prop) (b : Bool) (s' : Shared) : Prop := ∃ H', Inv X pins σ H' s' ∧ Q b H'
noncomputable def AP (X : Cx) (pins : List (Addr × Obj)) (σ : St) (Q : List V → Hp → Prop) (us : List Value) (s' : Shared) : Prop := ∃ vs H', Inv X pins σ H' s' ∧ Vals vs us ∧ Q vs H'
noncomputable def SP (X : Cx) (pins : List (Addr × Obj)) (D : Ends) (f : Flow) (s' : Shared) : Prop :=
  match f with
  | .next => ∃ σ' H', Inv X pins σ' H' s' ∧ D.nx σ' H'
  | .brk => ∃ σ' H', Inv X pins σ' H' s' ∧ D.bk σ' H'
  | .cont => ∃ σ' H', Inv X pins σ' H' s' ∧ D.ct σ' H'
  | .ret u => ∃ v σ' H', Inv X pins σ' H' s' ∧ RelV v u ∧ D.rt v H'
noncomputable def PE (X : Cx) (e : Expr) (t : TE) : Prop :=
  ∀ (pins : List (Addr × Obj)) (s : Shared) (σ : St) (H : Hp) (Q : VK), Inv X pins σ H s → t σ H Q → wpAny (model X.prog X.w) X.A (eval e X.env) (EP X pins σ Q) X.xe s
noncomputable def PT (X : Cx) (e : Expr) (t : TT) : Prop :=
  ∀ (pins : List (Addr × Obj)) (s : Shared) (σ : St) (H : Hp) (Q : Bool → Hp → Prop), Inv X pins σ H s → t σ H Q → wpAny (model X.prog X.w) X.A (isTrue e X.env (eval e X.env)) (TP X pins σ Q) X.xe s
noncomputable def PW (X : Cx) (e : Expr) (t : TT) : Prop :=
  ∀ (whole : Sem Value) (pins : List (Addr × Obj)) (s : Shared) (σ : St) (H : Hp) (Q : Bool → Hp → Prop), Inv X pins σ H s → t σ H Q → wpAny (model X.prog X.w) X.A (isTrue e X.env whole) (TP X pins σ Q) X.xe s
theorem PW.pt {X : Cx} {e : Expr} {t : TT} (h : PW X e t) : PT X e t := h _
noncomputable def PA (X : Cx) (es : List Expr) (t : TA) : Prop :=
  ∀ (pos : Pos) (pins : List (Addr × Obj)) (s : Shared) (σ : St) (H : Hp) (Q : List V → Hp → Prop), Inv X pins σ H s → t σ H Q → wpAny (model X.prog X.w) X.A (spliced (backTo pos (starEach es X.env))) (AP X pins σ Q) X.xe s
noncomputable def PS (X : Cx) (st : Stmt) (t : TS) : Prop :=
  ∀ (pins : List (Addr × Obj)) (s : Shared) (σ : St) (H : Hp) (D : Ends), Inv X pins σ H s → t D σ H → wpAny (model X.prog X.w) X.A (exec st X.env) (SP X pins D) X.xe s
noncomputable def Cu (X : Cx) (st : List Stmt) (t : TS) : Prop :=
  ∀ (pins : List (Addr × Obj)) (s : Shared) (σ : St) (H : Hp) (D : Ends), Inv X pins σ H s → t D σ H → wpAny (model X.prog X.w) X.A (execs st X.env) (SP X pins D) X.xe s
theorem j4 {α : Type} {t : Sem α} {Q Q' : α → Shared → Prop} {M : Model} {A : Around} {E : Value → Shared → Prop} {s : Shared} (h : wpAny M A t Q E s) (hQ : ∀ a s, Q a s → Q' a s) : wpAny M A t Q' E s := wpAny_mono h hQ fun _ _ x => x
end L2
namespace L2
open PySem PySem.Spec PyProof.Rows
section
variable {X : Cx}
noncomputable def OQ (i : Nat) : TE := fun σ H Q => ∃ v, σ[i]? = some (some v) ∧ Q v H
noncomputable def tC (v : V) : TE := fun _ H Q => Q v H
theorem Fj {i : Nat} {x : Str} {pos : Pos} (hN : X.N[i]? = some x) (hv : JO X.env.scope x) (hd : (x == ("__debug__" : Str)) = false := by decide) (hcd : (x == ("__classdict__" : Str)) = false := by decide) : PE X (.Name x pos) (OQ i) := by
  intro pins s σ H Q I h
  obtain ⟨v, e, h⟩ := h
  obtain ⟨m, hn, hl⟩ := I.loc
  obtain ⟨u, r, l⟩ := hl i x v hN e hv
  have fin : EP X pins σ Q u s := ⟨v, H, I, r, h⟩
  rcases l with ⟨hk, hm⟩ | ⟨hk, c, hc, hcell⟩
  · exact wpAny_Name (wpAny_loadName_local I.ok.kind hk hn hm fin) hd
  · rcases hk with hk | hk
    · exact wpAny_Name (wpAny_loadName_cell I.ok.kind hk hc hcell fin) hd
    · exact wpAny_Name (wpAny_loadName_free I.ok.kind hk hc hcell fin hcd) hd
theorem JS {i j pos} : PE X (.Constant (.int i) j pos) (tC (.int i)) := fun _ _ _ H _ I h => wpAny_Constant_int ⟨.int i, H, I.tok _, ⟨_, rfl⟩, h⟩
theorem L8 {b j pos} : PE X (.Constant (.bool b) j pos) (tC (.bl b)) := fun _ _ _ H _ I h => Constant_bool ⟨.bl b, H, I, rfl, h⟩
theorem JT {x j pos} : PE X (.Constant (.str x) j pos) (tC (.str x)) := fun _ _ _ H _ I h => Calls.Constant_str ⟨.str x, H, I.tok _, ⟨_, rfl⟩, h⟩
noncomputable def Gl (X : Cx) (x : Str) : Prop := X.env.kindOf x = some .globalImplicit
theorem Du {E : Value → Shared → Prop} {pins : List (Addr × Obj)} {s : Shared} {σ : St} {H : Hp} {x : Str} {u : Value} {pos : Pos} {Q : Value → Shared → Prop} (I : Inv X pins σ H s) (hg : Gl X x) (hm : X.mg x = some u) (h : Q u s)
    (hd : (x == ("__debug__" : Str)) = false := by decide) : wpAny (model X.prog X.w) X.A (eval (.Name x pos) X.env) Q E s :=
  Calls.Name_function_global I.ok.kind hg (Calls.loadGlobal_global (by rw [I.ok.glob]; exact I.mod.glob.keeps I.bk) hm h) hd
theorem kK {E : Value → Shared → Prop} {pins : List (Addr × Obj)} {s : Shared} {σ : St} {H : Hp} {x : Str} {u : Value} {pos : Pos} {Q : Value → Shared → Prop} (I : Inv X pins σ H s) (hg : Gl X x) (hm : X.mg x = none) (hv : bootBuiltins x = some u) (h : Q u s)
    (hn : x ≠ "__name__" := by decide) (hd : (x == ("__debug__" : Str)) = false := by decide) : wpAny (model X.prog X.w) X.A (eval (.Name x pos) X.env) Q E s := by
  obtain ⟨mb, h1, h2⟩ := I.mod.blt
  exact Calls.Name_function_global I.ok.kind hg (Calls.loadGlobal_builtin (by rw [I.ok.glob]; exact I.mod.glob.keeps I.bk) hm (by rw [I.ok.blt]; exact h1.keeps I.bk) ((h2 x hn).trans hv) h) hd
theorem Hv {x : Str} {v : V} {u : Value} {pos : Pos} (hg : Gl X x) (hm : X.mg x = some u) (r : RelV v u) (hd : (x == ("__debug__" : Str)) = false := by decide) : PE X (.Name x pos) (tC v) :=
  fun _ _ _ H _ I h => Du I hg hm ⟨v, H, I, r, h⟩ hd
theorem Hw {x : Str} {v : V} {u : Value} {pos : Pos} (hg : Gl X x) (hm : X.mg x = none) (hv : bootBuiltins x = some u) (r : RelV v u) (hn : x ≠ "__name__" := by decide) (hd : (x == ("__debug__" : Str)) = false := by decide) : PE X (.Name x pos) (tC v) :=
  fun _ _ _ H _ I h => kK I hg hm hv ⟨v, H, I, r, h⟩ hn hd
variable {a b : Expr} {ta tb : TE} {pos : Pos}
variable {tA Oc : TT} {rest : List Expr}
noncomputable def Ma (t u : TT) : TT := fun σ H Q => t σ H fun c H1 => if c = true then u σ H1 Q else Q false H1
noncomputable def QZ (t u : TT) : TT := fun σ H Q => t σ H fun c H1 => if c = true then Q true H1 else u σ H1 Q
noncomputable def OR (t : TT) : TT := fun σ H Q => t σ H fun c H1 => Q (!c) H1
theorem Hx (ha : PT X a tA) : PW X (.BoolOp .And [a] pos) tA := by
  intro wh pins s σ H Q I h
  refine isTrue_and (j4 (ha pins s σ H Q I h) fun c s1 e => ?_)
  cases c with
  | true => exact isTrue_and_nil e
  | false => exact e
theorem JU (ha : PT X a tA) : PW X (.BoolOp .Or [a] pos) tA := by
  intro wh pins s σ H Q I h
  refine isTrue_or (j4 (ha pins s σ H Q I h) fun c s1 e => ?_)
  cases c with
  | false => exact isTrue_or_nil e
  | true => exact e
theorem JW (ha : PT X a tA) (hb : PW X (.BoolOp .And (b :: rest) pos) Oc) : PW X (.BoolOp .And (a :: b :: rest) pos) (Ma tA Oc) := by
  intro wh pins s σ H Q I h
  refine isTrue_and (j4 (ha pins s σ H _ I h) fun c s1 ⟨H1, I1, q1⟩ => ?_)
  cases c with
  | true => exact hb wh pins s1 σ H1 Q I1 q1
  | false => exact ⟨H1, I1, q1⟩
theorem Mb (ha : PT X a tA) (hb : PW X (.BoolOp .Or (b :: rest) pos) Oc) : PW X (.BoolOp .Or (a :: b :: rest) pos) (QZ tA Oc) := by
  intro wh pins s σ H Q I h
  refine isTrue_or (j4 (ha pins s σ H _ I h) fun c s1 ⟨H1, I1, q1⟩ => ?_)
  cases c with
  | true => exact ⟨H1, I1, q1⟩
  | false => exact hb wh pins s1 σ H1 Q I1 q1
theorem JX (ha : PT X a tA) : PT X (.UnaryOp .Not a pos) (OR tA) := by
  intro pins s σ H Q I h
  exact isTrue_not (ha pins s σ H (fun c H1 => Q (!c) H1) I h)
end
end L2
namespace L2
open PySem PySem.Spec PyProof.Rows
noncomputable def sf (K : PySem.W.Frag) (H : Hp) (a : Addr) (xs : List V) : Prop :=
  Rd H a (.lst xs) ∨
    ∃ (o : Obj) (its : Array Value) (n : Nat), K.lookup a = some o ∧ o.cls = .type "list" ∧ o.dict = none ∧ o.data = .seq its n ∧ its.size ≤ sizeLine ∧ Vals xs its.toList
noncomputable def sZ (K : PySem.W.Frag) (H : Hp) (a : Addr) (xs : List V) : Prop :=
  Rd H a (.tup xs) ∨
    ∃ (o : Obj) (its : Array Value) (n : Nat), K.lookup a = some o ∧ o.cls = .type "tuple" ∧ o.data = .seq its n ∧ its.size ≤ sizeLine ∧ Vals xs its.toList
noncomputable def OS : Value → Option V
  | .none => some .lG
  | .bool b => some (.bl b)
  | .int i _ => some (.int i)
  | .str x _ => some (.str x)
  | .bytes b _ => some (.LZ b)
  | .float b _ => some (.L0 b)
  | .ref a => some (.ref a)
  | .type n => some (.ty n)
  | _ => none
theorem RelV.abs {x : V} {u : Value} (r : RelV x u) : OS u = some x := by
  cases x with
  | lG => cases r; rfl
  | bl _ => cases r; rfl
  | int _ => obtain ⟨t, rfl⟩ := r; rfl
  | str _ => obtain ⟨t, rfl⟩ := r; rfl
  | LZ _ => obtain ⟨t, rfl⟩ := r; rfl
  | L0 _ => obtain ⟨t, rfl⟩ := r; rfl
  | ref _ => cases r; rfl
  | ty _ => cases r; rfl
theorem RelV.inj {x y : V} {u : Value} (r : RelV x u) (q : RelV y u) : x = y := Option.some.inj (r.abs.symm.trans q.abs)
theorem Vals.inj : ∀ {xs ys : List V} {us : List Value}, Vals xs us → Vals ys us → xs = ys
  | _, _, _, .nil, .nil => rfl
  | _, _, _, .cons r t, .cons r' t' => by rw [r.inj r', Vals.inj t t']
section
variable {X : Cx} {pins : List (Addr × Obj)} {σ : St} {H : Hp} {s : Shared} {a : Addr} {xs ys : List V}
theorem sf.of {K : PySem.W.Frag} (h : H a = some (.lst xs)) : sf K H a xs := .inl (.inl h)
theorem sZ.of {K : PySem.W.Frag} (h : H a = some (.tup xs)) : sZ K H a xs := .inl (.inl h)
theorem Inv.list (I : Inv X pins σ H s) (h : sf X.K H a xs) : ∃ its : List Value, Vals xs its ∧ PlainL s.heap a its.toArray ∧ xs.length ≤ sizeLine := by
  rcases h with h | ⟨o, its, n, hk, hc, hd, hs, hz, r⟩
  · obtain ⟨z, its, n, r, e⟩ := h.ok I.hok
    exact ⟨its, r, ⟨_, n, e, rfl, rfl, rfl⟩, z⟩
  · refine ⟨its.toList, r, ⟨o, n, I.Dt a o hk, hc, hd, by simpa using hs⟩, ?_⟩
    have e := r.length
    simp only [Array.length_toList] at e
    omega
theorem Inv.tuple (I : Inv X pins σ H s) (h : sZ X.K H a xs) : ∃ its : List Value, Vals xs its ∧ IsTup s.heap a its.toArray ∧ xs.length ≤ sizeLine := by
  rcases h with h | ⟨o, its, n, hk, hc, hs, hz, r⟩
  · obtain ⟨z, its, r, p⟩ := h.ok I.hok
    exact ⟨its, r, p, z⟩
  · refine ⟨its.toList, r, ⟨o, I.Dt a o hk, hc, n, by simpa using hs⟩, ?_⟩
    have e := r.length
    simp only [Array.length_toList] at e
    omega
theorem Inv.wR (I : Inv X pins σ H s) (h : sf X.K H a xs) (h' : sf X.K H a ys) : xs = ys := by
  obtain ⟨its, r, ⟨o, n, e, _, _, d⟩, _⟩ := I.list h
  obtain ⟨its', r', ⟨o', n', e', _, _, d'⟩, _⟩ := I.list h'
  rw [e] at e'; cases e'
  rw [d] at d'
  injection d' with d1 _
  have : its = its' := by simpa using congrArg Array.toList d1
  subst this
  exact r.inj r'
theorem Inv.yP (I : Inv X pins σ H s) (h : sZ X.K H a xs) (h' : sZ X.K H a ys) : xs = ys := by
  obtain ⟨its, r, ⟨o, e, _, n, d⟩, _⟩ := I.tuple h
  obtain ⟨its', r', ⟨o', e', _, n', d'⟩, _⟩ := I.tuple h'
  rw [e] at e'; cases e'
  rw [d] at d'
  injection d' with d1 _
  have : its = its' := by simpa using congrArg Array.toList d1
  subst this
  exact r.inj r'
end
section
variable {X : Cx} {pins : List (Addr × Obj)} {σ : St} {H : Hp} {s : Shared} {E : Value → Shared → Prop}
end
section
variable {X : Cx} {st : Stmt} {rest : List Stmt} {t u : TS} {e : Expr} {te : TE} {pos : Pos}
noncomputable def Mc : TS := fun D σ H => D.nx σ H
noncomputable def Me (t u : TS) : TS := fun D σ H => t { D with nx := u D } σ H
theorem Hy : Cu X [] Mc := fun _ _ σ H _ I h => wpAny_execs_nil ⟨σ, H, I, h⟩
theorem Fl (h1 : PS X st t) (h2 : Cu X rest u) : Cu X (st :: rest) (Me t u) := by
  intro pins s σ H D I h
  refine wpAny_execs_cons (j4 (h1 pins s σ H { D with nx := u D } I h) fun f s1 q => ?_)
  cases f with
  | next =>
    obtain ⟨σ', H', I', q⟩ := q
    exact h2 pins s1 σ' H' D I' q
  | ret v => exact q
  | brk => exact q
  | cont => exact q
theorem Hz (h1 : PS X st t) : Cu X [st] t := by
  intro pins s σ H D I h
  refine wpAny_execs_cons (j4 (h1 pins s σ H D I h) fun f s1 q => ?_)
  cases f with
  | next => exact wpAny_execs_nil q
  | ret v => exact q
  | brk => exact q
  | cont => exact q
theorem Inv.quiet {pins : List (Addr × Obj)} {σ : St} {H : Hp} {s : Shared} (I : Inv X pins σ H s) : interactive X.env = false := by simp [interactive, I.ok.kind]
noncomputable def Mf (te : TE) : TS := fun D σ H => te σ H fun _ H1 => D.nx σ H1
theorem HA (he : PE X e te) (hs : swapsWith e none pos.line X.env = pure false := by rfl) : PS X (.Expr e pos) (Mf te) := by
  intro pins s σ H D I h
  exact wpAny_Expr_any (j4 (he pins s σ H _ I h) fun v s1 ⟨x, H1, I1, r1, q1⟩ => ⟨σ, H1, I1, q1⟩) I.quiet hs
noncomputable def OT (te : TE) : TS := fun D σ H => te σ H D.rt
theorem JY (he : PE X e te) : PS X (.Return (some e) pos) (OT te) := by
  intro pins s σ H D I h
  exact wpAny_Return_some (j4 (he pins s σ H _ I h) fun v s1 ⟨x, H1, I1, r1, q1⟩ => ⟨x, σ, H1, I1, r1, q1⟩)
noncomputable def OU (c : TT) (t u : TS) : TS := fun D σ H => c σ H fun b H1 => if b = true then t D σ H1 else u D σ H1
theorem Mg {c : Expr} {a b : List Stmt} {tc : TT} (hc : PT X c tc) (ha : Cu X a t) (hb : Cu X b u) : PS X (.If c a b pos) (OU tc t u) := by
  intro pins s σ H D I h
  refine wpAny_If (j4 (hc pins s σ H _ I h) fun d s1 ⟨H1, I1, q1⟩ => ?_)
  cases d with
  | true => exact ha pins s1 σ H1 D I1 q1
  | false => exact hb pins s1 σ H1 D I1 q1
end
noncomputable abbrev TG := V → St → Hp → (St → Hp → Prop) → Prop
noncomputable abbrev JZ := List V → St → Hp → (St → Hp → Prop) → Prop
noncomputable def PG (X : Cx) (target : Expr) (t : TG) : Prop :=
  ∀ (pins : List (Addr × Obj)) (s : Shared) (σ : St) (H : Hp) (v : V) (u : Value) (Q : St → Hp → Prop), Inv X pins σ H s → RelV v u → t v σ H Q →
    wpAny (model X.prog X.w) X.A (assign target X.env u) (fun _ s' => ∃ σ' H', Inv X pins σ' H' s' ∧ Q σ' H') X.xe s
noncomputable def Od (X : Cx) (ts : List Expr) (t : JZ) : Prop :=
  ∀ (pins : List (Addr × Obj)) (s : Shared) (σ : St) (H : Hp) (vs : List V) (us : List Value) (Q : St → Hp → Prop), Inv X pins σ H s → Vals vs us → t vs σ H Q →
    wpAny (model X.prog X.w) X.A (assignInOrder ((assignEach ts X.env).map (·.2)) us) (fun _ s' => ∃ σ' H', Inv X pins σ' H' s' ∧ Q σ' H') X.xe s
section
variable {X : Cx} {pos : Pos}
noncomputable def Ba (i : Nat) : TG := fun v σ H Q => Q (σ.set i (some v)) H
theorem zS {i : Nat} {x : Str} (hN : X.N.Nodup) (hi : X.N[i]? = some x) (hx : Loc X.env.scope x) (hf : X.fn x = true ∨ X.env.scope.names.lookup x = some .local := by first | exact .inl rfl | exact .inr rfl | assumption) : PG X (.Name x pos) (Ba i) := by
  intro pins s σ H v u Q I r h
  exact wpAny_assign_Name (A9 I hN hi hx r (fun s' I' => ⟨_, H, I', h⟩) hf)
noncomputable def OV : JZ := fun vs σ H Q => vs = [] ∧ Q σ H
noncomputable def Mh (t : TG) (u : JZ) : JZ := fun vs σ H Q => ∃ v r, vs = v :: r ∧ t v σ H fun σ' H' => u r σ' H' Q
theorem HB : Od X [] OV := by
  intro pins s σ H vs us Q I r h
  obtain ⟨e, h⟩ := h
  subst e
  cases r
  exact assignInOrder_nil ⟨σ, H, I, h⟩
theorem Bb {e : Expr} {es : List Expr} {t : TG} {u : JZ} (h1 : PG X e t) (h2 : Od X es u)
    (hs : (assignEach (e :: es) X.env).map (·.2) = assign e X.env :: (assignEach es X.env).map (·.2) := by rfl) : Od X (e :: es) (Mh t u) := by
  intro pins s σ H vs us Q I r h
  obtain ⟨v, vr, e1, h⟩ := h
  subst e1
  cases r with
  | cons r rr =>
    rw [hs]
    refine assignInOrder_cons (j4 (h1 pins s σ H _ _ _ I r h) fun _ s1 ⟨σ1, H1, I1, q1⟩ => ?_)
    exact h2 pins s1 σ1 H1 _ _ Q I1 rr q1
noncomputable def OW (K : PySem.W.Frag) (n : Nat) (t : JZ) : TG := fun v σ H Q => ∃ a xs, v = .ref a ∧ sZ K H a xs ∧ xs.length = n ∧ t xs σ H Q
theorem J0 {es : List Expr} {k : Nat} {t : JZ} {n : Nat} (hc : X.calm = true) (h : Od X es t)
    (hn : (assignEach es X.env).length = n := by rfl) (hst : (assignEach es X.env).findIdx? (·.1) = none := by rfl) : PG X (.Tuple es k pos) (OW X.K n t) := by
  intro pins s σ H v u Q I r hw
  obtain ⟨a, xs, e1, hq, hl, hw⟩ := hw
  subst e1
  cases r
  obtain ⟨its, rv, ht, hz⟩ := I.tuple hq
  refine assign_Tuple_tuple (I.ok.hd hc) ht (by simp [hn, ← hl, rv.length]) hst fun h' hx => ?_
  have I1 : Inv X pins σ H { s with heap := h' } := I.kept (t' := s.toks) fun b o e => hx b o (Nat.ne_of_lt (Heap.lt_size e)) e
  exact h pins _ σ H xs _ Q I1 (by simpa using rv) hw
noncomputable def J1 (te : TE) (g : TG) : TS := fun D σ H => te σ H fun x H1 => g x σ H1 D.nx
theorem J2 {i : Nat} {x : Str} {e : Expr} {te : TE} {pos' : Pos} (hN : X.N.Nodup) (hi : X.N[i]? = some x) (hx : Loc X.env.scope x) (he : PE X e te) (hs : swapsWith e (some (.Name x pos')) pos.line X.env = pure false := by rfl) (hf : X.fn x = true ∨ X.env.scope.names.lookup x = some .local := by first | exact .inl rfl | exact .inr rfl | assumption) :
    PS X (.Assign [.Name x pos'] e pos) (J1 te (Ba i)) := by
  intro pins s σ H D I h
  refine wpAny_Assign_Name (j4 (he pins s σ H _ I h) fun v s1 ⟨y, H1, I1, r1, q1⟩ => ?_) hs
  exact A9 I1 hN hi hx r1 (fun s2 I2 => ⟨_, H1, I2, q1⟩) hf
end
section
variable {X : Cx} {pos : Pos}
noncomputable def J3 (c : TT) (tb : TS) : TS := fun D σ H => ∃ W : Nat → St → Hp → Prop, (∃ m, W m σ H) ∧ ∀ m σ H, W m σ H →
  c σ H fun b H1 => if b = true then ∃ N : St → Hp → Prop, (∀ σ' H', N σ' H' → ∃ m', m' < m ∧ W m' σ' H') ∧ tb { D with nx := N, ct := N, bk := D.nx } σ H1 else D.nx σ H1
theorem Fo {c : Expr} {body : List Stmt} {tc : TT} {tb : TS} (hp : PassesOwn (model X.prog X.w) X.A X.env X.xe) (hc : PT X c tc) (hb : Cu X body tb) : PS X (.While c body [] pos) (J3 tc tb) := by
  intro pins s σ H D I h
  obtain ⟨W, ⟨m0, w0⟩, turn⟩ := h
  refine wpAny_While (codeAny_whileLoop (fun n s' => ∃ σ' H', Inv X pins σ' H' s' ∧ W n σ' H') ?_ m0 ⟨σ, H, I, w0⟩)
  rintro n s1 ⟨σ1, H1, I1, w1⟩
  refine wpAny_passesOwn hp (j4 (hc pins s1 σ1 H1 _ I1 (turn n σ1 H1 w1)) fun b s2 ⟨H2, I2, q2⟩ => ?_)
  cases b with
  | true =>
    obtain ⟨N, hN, q2⟩ := q2
    rw [if_pos rfl]
    refine wpAny_passesOwn hp (j4 (hb pins s2 σ1 H2 _ I2 q2) fun f s3 q3 => ?_)
    cases f with
    | next =>
      obtain ⟨σ3, H3, I3, n3⟩ := q3
      obtain ⟨m', hm, w3⟩ := hN σ3 H3 n3
      exact ⟨m', hm, σ3, H3, I3, w3⟩
    | cont =>
      obtain ⟨σ3, H3, I3, n3⟩ := q3
      obtain ⟨m', hm, w3⟩ := hN σ3 H3 n3
      exact ⟨m', hm, σ3, H3, I3, w3⟩
    | brk => exact q3
    | ret v => exact q3
  | false =>
    rw [if_neg Bool.false_ne_true]
    exact wpAny_execs_nil ⟨σ1, H2, I2, q2⟩
end
structure It where
  go : Nat → Hp → Prop
  yQ : Nat → Hp → V → Hp → Prop
  stop : Nat → Hp → Prop
noncomputable def tV (X : Cx) (pins : List (Addr × Obj)) (H : Hp) (b : Addr) : Prop :=
  H b = none ∧ b ≠ X.env.locals ∧ b ∉ X.fs ∧ (b ∈ X.ex ∨ X.s₀.heap.objs.size ≤ b) ∧ (∀ x c, X.env.cells.lookup x = some c → c ≠ b) ∧ ∀ p ∈ X.pn ++ pins, p.1 ≠ b
theorem Inv.yl {X : Cx} {pins : List (Addr × Obj)} {σ : St} {H H' : Hp} {s : Shared} {b : Addr} (I : Inv X pins σ H s) (hb : s.heap.objs.size ≤ b) (hn : H' b = none) : tV X pins H' b := by
  refine ⟨hn, Nat.ne_of_gt (Nat.lt_of_lt_of_le I.lt hb), I.OO hb, .inr (Nat.le_trans I.sz hb), fun x c e z => ?_, fun p hp z => ?_⟩
  · obtain ⟨v, q⟩ := I.cell x c e
    exact absurd (Nat.lt_of_lt_of_le q.lt (by rw [z]; exact hb)) (Nat.lt_irrefl _)
  · exact absurd (Nat.lt_of_lt_of_le (Heap.lt_size (I.pin p hp).1) (by rw [z]; exact hb)) (Nat.lt_irrefl _)
structure Turn (P : Program) (w : World) (K : PySem.W.Frag) (tg : Expr) (J : It) (fp : List Addr) (it : Addr) (tn : Nat → Heap → Prop) : Prop where
  mem : it ∈ fp
  obj : ∀ i h, tn i h → ∀ b ∈ fp, ∃ o, h.get? b = some o ∧ ∀ v, o.data ≠ .cell v
  keep : ∀ i h h', tn i h → (∀ b ∈ fp, ∀ o, h.get? b = some o → h'.get? b = some o) → tn i h'
  item : ∀ (X : Cx), X.prog = P → X.w = w → X.K = K → X.calm = true → ∀ (i : Nat) (pins : List (Addr × Obj)) (s : Shared) (σ : St) (H : Hp) (E : Value → Shared → Prop), Inv X pins σ H s → (∀ b ∈ fp, tV X pins H b) → tn i s.heap → J.go i H →
    wpAny (model P w) X.A (pyNext (.ref it)) (fun r s1 => ∃ u, r = some u ∧
      wpAny (model P w) X.A (letOwnedTupleGo tg (.ref it) u) (fun _ s2 => ∃ x H', Inv X pins σ H' s2 ∧ RelV x u ∧ J.yQ i H x H' ∧ tn (i + 1) s2.heap ∧ ∀ b ∈ fp, H' b = none) E s1) E s
  done : ∀ (X : Cx), X.prog = P → X.w = w → X.K = K → X.calm = true → ∀ (i : Nat) (pins : List (Addr × Obj)) (s : Shared) (σ : St) (H : Hp) (E : Value → Shared → Prop), Inv X pins σ H s → (∀ b ∈ fp, tV X pins H b) → tn i s.heap → J.stop i H →
    wpAny (model P w) X.A (pyNext (.ref it)) (fun r s1 => r = none ∧ Inv X pins σ H s1) E s
  self : ∀ (A : Around) (i : Nat) (s : Shared) (Q : Value → Shared → Prop) (E : Value → Shared → Prop), tn i s.heap → Q (.ref it) s → wpAny (model P w) A (pyIter (.ref it)) Q E s
noncomputable abbrev TI := St → Hp → (It → Hp → Prop) → Prop
noncomputable def Q0 (X : Cx) (pins : List (Addr × Obj)) (σ : St) (tg : Expr) (R : It → Hp → Prop) (itv : Value) (s2 : Shared) : Prop :=
  ∃ (it : Addr) (fp : List Addr) (tn : Nat → Heap → Prop) (J : It) (H' : Hp), itv = .ref it ∧ Inv X pins σ H' s2 ∧ Turn X.prog X.w X.K tg J fp it tn ∧ tn 0 s2.heap ∧ (∀ b ∈ fp, tV X pins H' b) ∧ R J H'
noncomputable def PI (X : Cx) (tg iter : Expr) (wi : TI) : Prop :=
  ∀ (pins : List (Addr × Obj)) (s : Shared) (σ : St) (H : Hp) (R : It → Hp → Prop), Inv X pins σ H s → wi σ H R →
    wpAny (model X.prog X.w) X.A (eval iter X.env) (fun v s1 => wpAny (model X.prog X.w) X.A (pyIter v) (Q0 X pins σ tg R) X.xe s1) X.xe s
theorem yR {M : Model} {A : Around} {E : Value → Shared → Prop} {s : Shared} {tg : Expr} {it : Addr} {u : Value} {o : Obj} {n : String} {vs : Array Value} {Q : Unit → Shared → Prop} (ho : s.heap.get? it = some o) (hc : o.cls = .type n) (hd : o.data = .fields vs)
    (hn : ["enumerate", "zip", "dict_itemiterator", "dict_reverseitemiterator", "odict_iterator", "itertools.zip_longest", "itertools.pairwise"].contains n = false) (hQ : Q () s) : wpAny M A (letOwnedTupleGo tg (.ref it) u) Q E s := by
  unfold letOwnedTupleGo
  cases tg <;> first
    | exact wpAny_pure hQ
    | (cases u <;> first
        | exact wpAny_pure hQ
        | (refine wpAny_bind (wpAny_load ho ?_)
           rw [hc, hd]
           show wpAny M A (if (["enumerate", "zip", "dict_itemiterator", "dict_reverseitemiterator", "odict_iterator", "itertools.zip_longest", "itertools.pairwise"].contains n && vs[0]? == some (rawInt _)) = true then _ else _) Q E s
           rw [if_neg (by intro h; rw [hn, Bool.false_and] at h; cases h)]
           exact wpAny_pure hQ))
noncomputable def Hs (K : PySem.W.Frag) (a : Addr) : It :=
  ⟨fun i H => ∃ xs x, sf K H a xs ∧ xs[i]? = some x, fun i H x H' => H' = H ∧ ∀ xs, sf K H a xs → xs[i]? = some x, fun i H => ∃ xs, sf K H a xs ∧ xs.length ≤ i⟩
noncomputable def Oe (K : PySem.W.Frag) (a : Addr) : It :=
  ⟨fun i H => ∃ xs x, sZ K H a xs ∧ xs[i]? = some x, fun i H x H' => H' = H ∧ ∀ xs, sZ K H a xs → xs[i]? = some x, fun i H => ∃ xs, sZ K H a xs ∧ xs.length ≤ i⟩
noncomputable def yS (lo : Int) (n : Nat) : It := ⟨fun i _ => i < n, fun i H x H' => H' = H ∧ x = .int (lo + i), fun i _ => n ≤ i⟩
theorem Eh {P : Program} {w : World} {K : PySem.W.Frag} {tg : Expr} (a it : Addr) : Turn P w K tg (Hs K a) [it] it (fun i h => h.IsListIter it a i) where
  mem := by simp
  obj := fun i h st b hb => by
    have e : b = it := by simpa using hb
    subst e
    obtain ⟨o, e, c, d⟩ := st
    exact ⟨o, e, fun v z => by rw [d] at z; cases z⟩
  keep := fun i h h' st k => st.at fun o e => k it (by simp) o e
  item := by
    intro X hP hw hK hc i pins s σ H E I hf st hg
    subst hP hw hK
    obtain ⟨xs, x, hq, hx⟩ := hg
    obtain ⟨its, rv, p, hz⟩ := I.list hq
    obtain ⟨u, hu, ru⟩ := rv.get hx
    obtain ⟨f0, f1, f2, f3, f4, f5⟩ := hf it (by simp)
    refine wpAny_pyNext_list_item st p.isList (x := u) (by simpa using hu) fun h' st' sb => ?_
    have I1 : Inv X pins σ H { s with heap := h' } := I.turned (t' := s.toks) (fun b o hb e => (sb.2 b hb).trans e) f0 f1 f3 f4 f5
    obtain ⟨o, e, c, d⟩ := id st'
    exact ⟨u, rfl, yR (s := { s with heap := h' }) e c d (by decide) ⟨x, H, I1, ru, ⟨rfl, fun ys hy => by rw [I.wR hy hq]; exact hx⟩, st', fun b hb => (hf b hb).1⟩⟩
  done := by
    intro X hP hw hK hc i pins s σ H E I hf st hg
    subst hP hw hK
    obtain ⟨xs, hq, hx⟩ := hg
    obtain ⟨its, rv, p, hz⟩ := I.list hq
    obtain ⟨f0, f1, f2, f3, f4, f5⟩ := hf it (by simp)
    have hl := rv.length
    exact wpAny_pyNext_list_end (I.ok.hd hc) st p.isList (by simp; omega) fun h' eb => ⟨rfl, I.turned (t' := s.toks) (fun b o hb e => eb b o hb e) f0 f1 f3 f4 f5⟩
  self := fun _ _ _ _ _ st h => wpAny_pyIter_listiter st h
theorem Cv {P : Program} {w : World} {K : PySem.W.Frag} {tg : Expr} (a it : Addr) : Turn P w K tg (Oe K a) [it] it (fun i h => h.IsTupleIter it a i) where
  mem := by simp
  obj := fun i h st b hb => by
    have e : b = it := by simpa using hb
    subst e
    obtain ⟨o, e, c, d⟩ := st
    exact ⟨o, e, fun v z => by rw [d] at z; cases z⟩
  keep := fun i h h' st k => st.at fun o e => k it (by simp) o e
  item := by
    intro X hP hw hK hc i pins s σ H E I hf st hg
    subst hP hw hK
    obtain ⟨xs, x, hq, hx⟩ := hg
    obtain ⟨its, rv, p, hz⟩ := I.tuple hq
    obtain ⟨u, hu, ru⟩ := rv.get hx
    obtain ⟨f0, f1, f2, f3, f4, f5⟩ := hf it (by simp)
    refine wpAny_pyNext_tuple_item st (show s.heap.IsTuple a its.toArray from p) (x := u) (by simpa using hu) fun h' st' sb => ?_
    have I1 : Inv X pins σ H { s with heap := h' } := I.turned (t' := s.toks) (fun b o hb e => (sb.2 b hb).trans e) f0 f1 f3 f4 f5
    obtain ⟨o, e, c, d⟩ := id st'
    exact ⟨u, rfl, yR (s := { s with heap := h' }) e c d (by decide) ⟨x, H, I1, ru, ⟨rfl, fun ys hy => by rw [I.yP hy hq]; exact hx⟩, st', fun b hb => (hf b hb).1⟩⟩
  done := by
    intro X hP hw hK hc i pins s σ H E I hf st hg
    subst hP hw hK
    obtain ⟨xs, hq, hx⟩ := hg
    obtain ⟨its, rv, p, hz⟩ := I.tuple hq
    obtain ⟨f0, f1, f2, f3, f4, f5⟩ := hf it (by simp)
    have hl := rv.length
    exact wpAny_pyNext_tuple_end (I.ok.hd hc) st (show s.heap.IsTuple a its.toArray from p) (by simp; omega) fun h' eb => ⟨rfl, I.turned (t' := s.toks) (fun b o hb e => eb b o hb e) f0 f1 f3 f4 f5⟩
  self := fun _ _ _ _ _ st h => wpAny_pyIter_tupleiter st h
theorem Cw {P : Program} {w : World} {K : PySem.W.Frag} {tg : Expr} (it : Addr) (lo : Int) (n : Nat) : Turn P w K tg (yS lo n) [it] it (fun i h => IsRangeIter h it (lo + (i : Nat) * 1) ((n : Int) - (i : Nat)) 1) where
  mem := by simp
  obj := fun i h st b hb => by
    have e : b = it := by simpa using hb
    subst e
    exact ⟨_, st, fun v z => by
      have z' : Data.fields _ = Data.cell v := z
      cases z'⟩
  keep := fun i h h' st k => k it (by simp) _ st
  item := by
    intro X hP hw hK hc i pins s σ H E I hf st hg
    subst hP hw hK
    obtain ⟨f0, f1, f2, f3, f4, f5⟩ := hf it (by simp)
    have W := Walks.range (prog := X.prog) (w := X.w) (I.ok.hd hc) it lo 1 n
    refine W.item i s _ _ hg st fun v h' tk hv st' kk => ?_
    obtain ⟨t, rfl⟩ := hv
    have I1 : Inv X pins σ H { s with heap := h', toks := tk } := I.turned (fun b o hb e => kk b o (by simpa using hb) e) f0 f1 f3 f4 f5
    refine ⟨_, rfl, yR (s := { s with heap := h', toks := tk }) (n := "range_iterator") st' rfl rfl (by decide) ⟨.int (lo + i), H, I1, ⟨t, ?_⟩, ⟨rfl, rfl⟩, st', fun b hb => (hf b hb).1⟩⟩
    rw [Int.mul_one]
  done := by
    intro X hP hw hK hc i pins s σ H E I hf st hg
    subst hP hw hK
    obtain ⟨f0, f1, f2, f3, f4, f5⟩ := hf it (by simp)
    exact wpAny_pyNext_range_end (I.ok.hd hc) st (by have : n ≤ i := hg; omega) fun h' eb => ⟨rfl, I.turned (t' := s.toks) (fun b o hb e => eb b o hb e) f0 f1 f3 f4 f5⟩
  self := fun _ _ _ _ _ st h => wpAny_pyIter_rangeiter st h
end L2
namespace L2
open PySem PySem.Spec PyProof.Rows
section
variable {X : Cx} {tg : Expr}
theorem Bc {pins : List (Addr × Obj)} {σ : St} {H : Hp} {s : Shared} {R : It → Hp → Prop} {E : Value → Shared → Prop} {lo hi : Int} {t u v : Tok} {tk : Nat} (I : Inv X pins σ H s) (h1 : -(2 ^ 62) ≤ lo) (h2 : lo < 2 ^ 62) (h3 : -(2 ^ 62) ≤ hi) (h4 : hi < 2 ^ 62)
    (q : R (yS lo (hi - lo).toNat) H) : wpAny (model X.prog X.w) X.A (pyIter (.ref s.heap.objs.size)) (Q0 X pins σ tg R) E { s with heap := s.heap.push { cls := .type "range", data := .fields #[.int lo t, .int hi u, .int 1 v] }, toks := tk } := by
  refine wpAny_pyIter_range (IsRange.new ..) (small_one h1 h2 h3 h4) ?_
  have I1 : Inv X pins σ H { s with heap := s.heap.push { cls := .type "range", data := .fields #[.int lo t, .int hi u, .int 1 v] }, toks := tk } := I.kept fun b o e => Heap.get?_push_of_some _ e
  refine ⟨(s.heap.push { cls := .type "range", data := .fields #[.int lo t, .int hi u, .int 1 v] }).objs.size, [(s.heap.push { cls := .type "range", data := .fields #[.int lo t, .int hi u, .int 1 v] }).objs.size], _, _, H, rfl,
    I1.kept (t' := tk) fun b o e => Heap.get?_push_of_some _ e, Cw _ lo (hi - lo).toNat, ?_, fun b hb => ?_, q⟩
  · have e1 : lo + ((0 : Nat) : Int) * 1 = lo := by simp
    have e2 : (((hi - lo).toNat : Nat) : Int) - ((0 : Nat) : Int) = Builtin.Range.rangeSize lo hi 1 := by rw [rangeSize_one]; split <;> omega
    show IsRangeIter _ _ (lo + ((0 : Nat) : Int) * 1) ((((hi - lo).toNat : Nat) : Int) - ((0 : Nat) : Int)) 1
    rw [e1, e2]
    exact Heap.get?_push_size _ rfl
  · have e : b = (s.heap.push { cls := .type "range", data := .fields #[.int lo t, .int hi u, .int 1 v] }).objs.size := by simpa using hb
    subst e
    exact I1.yl (Nat.le_refl _) (I1.hok.fresh (Nat.le_refl _))
noncomputable def Jm (ta : TA) : TI := fun σ H R => ta σ H fun vs H1 => ∃ j : Int, vs = [.int j] ∧ -(2 ^ 62) ≤ j ∧ j < 2 ^ 62 ∧ R (yS 0 j.toNat) H1
noncomputable def Jo (ta : TA) : TI := fun σ H R => ta σ H fun vs H1 => ∃ i j : Int, vs = [.int i, .int j] ∧ (-(2 ^ 62) ≤ i ∧ i < 2 ^ 62 ∧ -(2 ^ 62) ≤ j ∧ j < 2 ^ 62) ∧ R (yS i (j - i).toNat) H1
theorem yT {a : Expr} {ta : TA} {p pos : Pos} (hg : Gl X "range") (hm : X.mg "range" = none) (ha : PA X [a] ta) (hs : starEach [a] X.env = [(false, eval a X.env)] := by rfl) : PI X tg (.Call (.Name "range" p) [a] [] pos) (Jm ta) := by
  intro pins s σ H R I h
  refine Call_ (kK I hg hm boot_range (PyProof.Rows.callWith_type1 (j4 (ha pos pins s σ H _ I h) fun us s1 ⟨vs, H1, I1, r1, q1⟩ => ?_) hs rfl))
  obtain ⟨j, e, q1, q2, q⟩ := q1
  subst e
  cases r1 with
  | cons r rr =>
    cases rr
    obtain ⟨t, rfl⟩ := r
    exact call_range_1 (Bc I1 (by omega) (by omega) q1 q2 (by simpa using q))
theorem Ei {a b : Expr} {ta : TA} {p pos : Pos} (hg : Gl X "range") (hm : X.mg "range" = none) (ha : PA X [a, b] ta) (hs : starEach [a, b] X.env = [(false, eval a X.env), (false, eval b X.env)] := by rfl) (hs2 : starEach [b] X.env = [(false, eval b X.env)] := by rfl) :
    PI X tg (.Call (.Name "range" p) [a, b] [] pos) (Jo ta) := by
  intro pins s σ H R I h
  refine Call_ (kK I hg hm boot_range (PyProof.Rows.callWith_type1 (j4 (ha pos pins s σ H _ I h) fun us s1 ⟨vs, H1, I1, r1, q1⟩ => ?_) (by rw [hs, hs2]) (by rw [hs2]; rfl)))
  obtain ⟨i, j, e, ⟨q1, q2, q3, q4⟩, q⟩ := q1
  subst e
  cases r1 with
  | cons r rr =>
    cases rr with
    | cons r' rr =>
      cases rr
      obtain ⟨t, rfl⟩ := r
      obtain ⟨t', rfl⟩ := r'
      exact call_range_2 (Bc I1 q1 q2 q3 q4 q)
noncomputable def OX (wi : TI) (g : TG) (tb : TS) : TS := fun D σ H => wi σ H fun J H1 => ∃ W : Nat → Nat → St → Hp → Prop, (∃ m, W 0 m σ H1) ∧ ∀ i m σ H, W i m σ H →
  (J.stop i H ∧ D.nx σ H) ∨ (J.go i H ∧ ∃ N : St → Hp → Prop, (∀ σ' H', N σ' H' → ∃ m', m' < m ∧ W (i + 1) m' σ' H') ∧ ∀ x H', J.yQ i H x H' → g x σ H' fun σ2 H2 => tb { D with nx := N, ct := N, bk := D.nx } σ2 H2)
noncomputable def u0 (fp : List Addr) (h : Heap) : List (Addr × Obj) := fp.filterMap fun b => (h.get? b).map fun o => (b, o)
theorem pU {fp : List Addr} {h : Heap} {b : Addr} {o : Obj} (hb : b ∈ fp) (e : h.get? b = some o) : (b, o) ∈ u0 fp h := List.mem_filterMap.mpr ⟨b, hb, by rw [e]; rfl⟩
theorem Ej {fp : List Addr} {h : Heap} {p : Addr × Obj} (hp : p ∈ u0 fp h) : p.1 ∈ fp ∧ h.get? p.1 = some p.2 := by
  obtain ⟨b, hb, e⟩ := List.mem_filterMap.mp hp
  cases q : h.get? b with
  | none => rw [q] at e; cases e
  | some o =>
    rw [q] at e
    have e' : (b, o) = p := Option.some.inj e
    subst e'
    exact ⟨hb, q⟩
theorem Inv.pinned {pins : List (Addr × Obj)} {σ : St} {H : Hp} {s : Shared} {fp : List Addr} (I : Inv X pins σ H s) (hf : ∀ b ∈ fp, tV X pins H b) (ho : ∀ b ∈ fp, ∃ o, s.heap.get? b = some o ∧ ∀ v, o.data ≠ .cell v) : Inv X (pins ++ u0 fp s.heap) σ H s :=
  I.zR fun p hp => (List.mem_append.mp hp).elim (fun z => I.pin p (List.mem_append_right _ z)) fun z => by
    obtain ⟨hb, e⟩ := Ej z
    obtain ⟨f0, f1, f2, _⟩ := hf p.1 hb
    obtain ⟨o, e', d⟩ := ho p.1 hb
    rw [e] at e'; cases e'
    exact ⟨e, f0, f1, f2, d⟩
theorem Inv.wU {pins pl : List (Addr × Obj)} {σ : St} {H : Hp} {s : Shared} (I : Inv X (pins ++ pl) σ H s) : Inv X pins σ H s := I.zR fun p hp => I.pin p (List.mem_append_right _ (List.mem_append_left _ hp))
theorem Cy {iter : Expr} {body : List Stmt} {wi : TI} {g : TG} {tb : TS} {pos : Pos} (hp : PassesOwn (model X.prog X.w) X.A X.env X.xe) (hc : X.calm = true) (hi : PI X tg iter wi) (hg : PG X tg g) (hb : Cu X body tb)
    (hs : ∀ x, foldedSetIterable iter X.env x = pure x := by intro _; rfl) : PS X (.For tg iter body [] pos) (OX wi g tb) := by
  intro pins s σ H D I h
  refine wpAny_For (j4 (hi pins s σ H _ I h) fun v s1 h1 => j4 h1 fun itv s2 h2 => ?_) hs
  obtain ⟨it, fp, tn, J, H2, e, I2, T, st2, f2, W, ⟨m0, w0⟩, turn⟩ := h2
  subst e
  have J4 : ∀ {H' : Hp}, (∀ b ∈ fp, H' b = none) → ∀ b ∈ fp, tV X pins H' b := fun hn b hb => ⟨hn b hb, (f2 b hb).2⟩
  refine codeAny_forLoop_any (fun n s' => ∃ i σ' H', Inv X pins σ' H' s' ∧ tn i s'.heap ∧ (∀ b ∈ fp, H' b = none) ∧ W i n σ' H') ?_ m0 ⟨0, σ, H2, I2, st2, fun b hb => (f2 b hb).1, w0⟩
  rintro n s3 ⟨i, σ3, H3, I3, st3, Q2, w3⟩
  rcases turn i n σ3 H3 w3 with ⟨stop, qn⟩ | ⟨go, N, hN, step⟩
  · refine wpAny_passesOwn hp (j4 (T.done X rfl rfl rfl hc i pins s3 σ3 H3 X.xe I3 (J4 Q2) st3 stop) fun r s4 ⟨hr, I4⟩ => ?_)
    subst hr
    exact wpAny_execs_nil ⟨σ3, H3, I4, qn⟩
  · refine wpAny_passesOwn hp (j4 (T.item X rfl rfl rfl hc i pins s3 σ3 H3 X.xe I3 (J4 Q2) st3 go) fun r s4 ⟨u, hr, h4⟩ => ?_)
    subst hr
    refine wpAny_passesOwn hp (j4 h4 fun _ s5 ⟨x, H5, I5, r5, y5, LR, Of⟩ => ?_)
    have Sz := I5.pinned (J4 Of) (T.obj _ _ LR)
    refine wpAny_passesOwn hp (j4 (hg _ s5 σ3 H5 x u _ Sz r5 (step x H5 y5)) fun _ s6 ⟨σ6, H6, I6, q6⟩ => ?_)
    refine wpAny_passesOwn hp (j4 (hb _ s6 σ6 H6 _ I6 q6) fun f s7 q7 => ?_)
    have again : ∀ {σ7 : St} {H7 : Hp}, Inv X (pins ++ u0 fp s5.heap) σ7 H7 s7 → N σ7 H7 → ∃ m, m < n ∧ ∃ i σ' H', Inv X pins σ' H' s7 ∧ tn i s7.heap ∧ (∀ b ∈ fp, H' b = none) ∧ W i m σ' H' := fun {σ7 H7} I7 n7 => by
      obtain ⟨m', hm, w7⟩ := hN σ7 H7 n7
      refine ⟨m', hm, i + 1, σ7, H7, I7.wU, T.keep _ _ _ LR fun b hb o e => (I7.pin (b, o) (List.mem_append_right _ (List.mem_append_right _ (pU hb e)))).1, fun b hb => ?_, w7⟩
      obtain ⟨o, e, d⟩ := T.obj _ _ LR b hb
      exact (I7.pin (b, o) (List.mem_append_right _ (List.mem_append_right _ (pU hb e)))).2.1
    cases f with
    | next => obtain ⟨σ7, H7, I7, n7⟩ := q7; exact again I7 n7
    | cont => obtain ⟨σ7, H7, I7, n7⟩ := q7; exact again I7 n7
    | brk => obtain ⟨σ7, H7, I7, q7⟩ := q7; exact ⟨σ7, H7, I7.wU, q7⟩
    | ret v => obtain ⟨x7, σ7, H7, I7, r7, q7⟩ := q7; exact ⟨x7, σ7, H7, I7.wU, r7, q7⟩
end
end L2
namespace L2
open PySem PySem.Spec PyProof.Rows
noncomputable abbrev R2 := V → V → Hp → VK → Prop
noncomputable def sj (X : Cx) (f : Value → Value → Sem Value) (r : R2) : Prop :=
  ∀ (pins : List (Addr × Obj)) (s : Shared) (σ : St) (H : Hp) (x y : V) (v u : Value) (Q : VK), Inv X pins σ H s → RelV x v → RelV y u → r x y H Q →
    wpAny (model X.prog X.w) X.A (f v u) (EP X pins σ Q) X.xe s
noncomputable def OY (X : Cx) (f : Value → Sem Value) (r : V → Hp → VK → Prop) : Prop :=
  ∀ (pins : List (Addr × Obj)) (s : Shared) (σ : St) (H : Hp) (x : V) (v : Value) (Q : VK), Inv X pins σ H s → RelV x v → r x H Q →
    wpAny (model X.prog X.w) X.A (f v) (EP X pins σ Q) X.xe s
noncomputable def oO (X : Cx) (f : Value) (r : List V → Hp → VK → Prop) : Prop :=
  ∀ (pins : List (Addr × Obj)) (s : Shared) (σ : St) (H : Hp) (xs : List V) (us : List Value) (Q : VK), Inv X pins σ H s → Vals xs us → r xs H Q →
    wpAny (model X.prog X.w) X.A (call f us) (EP X pins σ Q) X.xe s
noncomputable def OZ (X : Cx) (r : V → Hp → (Bool → Hp → Prop) → Prop) : Prop :=
  ∀ (pins : List (Addr × Obj)) (s : Shared) (σ : St) (H : Hp) (x : V) (v : Value) (Q : Bool → Hp → Prop), Inv X pins σ H s → RelV x v → r x H Q →
    wpAny (model X.prog X.w) X.A (truthy v) (TP X pins σ Q) X.xe s
noncomputable def Mi (r : R2) (ta tb : TE) : TE := fun σ H Q => ta σ H fun x H1 => tb σ H1 fun y H2 => r x y H2 Q
noncomputable def SA (r : V → Hp → VK → Prop) (ta : TE) : TE := fun σ H Q => ta σ H fun x H1 => r x H1 Q
noncomputable def rI (C : Int → Int → Prop) (g : Int → Int → V) : R2 := fun x y H Q => ∃ i j, x = .int i ∧ y = .int j ∧ C i j ∧ Q (g i j) H
noncomputable def Jp (g : Int → Int → V) : R2 := fun x y H Q => ∃ i j, x = .int i ∧ y = .int j ∧ Q (g i j) H
noncomputable def rU (g : Int → V) : V → Hp → VK → Prop := fun x H Q => ∃ i, x = .int i ∧ Q (g i) H
section
variable {X : Cx} {a b c : Expr} {ta tb tc : TE} {pos : Pos}
theorem J5 (ha : PE X a ta) (hb : PE X b tb) {pins : List (Addr × Obj)} {s : Shared} {σ : St} {H : Hp} {R : V → V → Hp → Prop} (I : Inv X pins σ H s)
    (h : ta σ H fun x H1 => tb σ H1 fun y H2 => R x y H2) {Q : Value → Shared → Prop} {f : Value → Value → Sem Value}
    (hf : ∀ v u s2 x y H2, Inv X pins σ H2 s2 → RelV x v → RelV y u → R x y H2 → wpAny (model X.prog X.w) X.A (f v u) Q X.xe s2) :
    wpAny (model X.prog X.w) X.A (eval a X.env) (fun v s₁ => wpAny (model X.prog X.w) X.A (eval b X.env) (fun u s₂ => wpAny (model X.prog X.w) X.A (f v u) Q X.xe s₂) X.xe s₁) X.xe s := by
  refine j4 (ha pins s σ H _ I h) fun v s1 ⟨x, H1, I1, r1, q1⟩ => ?_
  refine j4 (hb pins s1 σ H1 _ I1 q1) fun u s2 ⟨y, H2, I2, r2, q2⟩ => ?_
  exact hf v u s2 x y H2 I2 r1 r2 q2
theorem Mj {op : Operator} {r : R2} (ho : sj X (binaryOp op) r) (ha : PE X a ta) (hb : PE X b tb) : PE X (.BinOp a op b pos) (Mi r ta tb) := by
  intro pins s σ H Q I h
  exact wpAny_BinOp (J5 ha hb I h fun v u s2 x y H2 I2 rx ry q => ho pins s2 σ H2 x y v u Q I2 rx ry q)
theorem Ml {op : UnaryOp} {r : V → Hp → VK → Prop} (ho : OY X (unaryOp op) r) (ha : PE X a ta) : PE X (.UnaryOp op a pos) (SA r ta) := by
  intro pins s σ H Q I h
  exact UnaryOp_ (j4 (ha pins s σ H _ I h) fun v s1 ⟨x, H1, I1, r1, q1⟩ => ho pins s1 σ H1 x v Q I1 r1 q1)
theorem Og {f : Value → Value → Sem Value} {C : Int → Int → Prop} {g : Int → Int → Int}
    (rule : ∀ (i j : Int) (t u : Tok) (s : Shared) (Q : Value → Shared → Prop) (E : Value → Shared → Prop), C i j → Q (.int (g i j) s.toks) { s with toks := s.toks + 1 } → wpAny (model X.prog X.w) X.A (f (.int i t) (.int j u)) Q E s) :
    sj X f (rI C fun i j => .int (g i j)) := by
  intro pins s σ H x y v u Q I rx ry h
  obtain ⟨i, j, rfl, rfl, hc, q⟩ := h
  obtain ⟨t, rfl⟩ := rx
  obtain ⟨t', rfl⟩ := ry
  exact rule i j t t' s _ _ hc ⟨.int (g i j), H, I.tok _, ⟨_, rfl⟩, q⟩
theorem Mm {f : Value → Value → Sem Value} {g : Int → Int → Int}
    (rule : ∀ (i j : Int) (t u : Tok) (s : Shared) (Q : Value → Shared → Prop) (E : Value → Shared → Prop), Q (.int (g i j) s.toks) { s with toks := s.toks + 1 } → wpAny (model X.prog X.w) X.A (f (.int i t) (.int j u)) Q E s) :
    sj X f (Jp fun i j => .int (g i j)) := by
  intro pins s σ H x y v u Q I rx ry h
  obtain ⟨i, j, rfl, rfl, q⟩ := h
  obtain ⟨t, rfl⟩ := rx
  obtain ⟨t', rfl⟩ := ry
  exact rule i j t t' s _ _ ⟨.int (g i j), H, I.tok _, ⟨_, rfl⟩, q⟩
theorem J6 {f : Value → Value → Sem Value} {g : Int → Int → Bool}
    (rule : ∀ (i j : Int) (t u : Tok) (s : Shared) (Q : Value → Shared → Prop) (E : Value → Shared → Prop), Q (.bool (g i j)) s → wpAny (model X.prog X.w) X.A (f (.int i t) (.int j u)) Q E s) :
    sj X f (Jp fun i j => .bl (g i j)) := by
  intro pins s σ H x y v u Q I rx ry h
  obtain ⟨i, j, rfl, rfl, q⟩ := h
  obtain ⟨t, rfl⟩ := rx
  obtain ⟨t', rfl⟩ := ry
  exact rule i j t t' s _ _ ⟨.bl (g i j), H, I, rfl, q⟩
noncomputable def O0 (i j : Int) : Prop := 0 < j ∧ j < 1073741824
noncomputable def O1 (i j : Int) : Prop := 0 ≤ j ∧ j ≤ 1000000 ∧ i.natAbs < 2 ^ 64
noncomputable def J7 (i j : Int) : Prop := (-(2 ^ 64) < i ∧ i < 2 ^ 64) ∨ (-(2 ^ 64) < j ∧ j < 2 ^ 64)
theorem J7.ok {i j : Int} (h : J7 i j) : IntMulOk i j := by
  rcases h with ⟨h1, h2⟩ | ⟨h1, h2⟩
  · exact .of_left (intBits_le_64 h1 h2)
  · exact .of_right (intBits_le_64 h1 h2)
theorem J8 : sj X (binaryOp .Add) (Jp fun i j => .int (i + j)) := Mm fun _ _ _ _ _ _ _ q => add_int q
theorem J9 : sj X (binaryOp .Sub) (Jp fun i j => .int (i - j)) := Mm fun _ _ _ _ _ _ _ q => sub_int q
theorem Ka : sj X (binaryOp .Mult) (rI J7 fun i j => .int (i * j)) := Og fun _ _ _ _ _ _ _ hc q => mul_int q hc.ok
theorem HC : sj X (binaryOp .FloorDiv) (rI O0 fun i j => .int (i / j)) := Og fun i j _ _ _ _ _ hc q => by
  have h1 : (0 : Int) < j := hc.1
  have h2 : j < 1073741824 := hc.2
  exact floordiv_int (by omega) (by rw [Int.fdiv_eq_ediv_of_nonneg i (by omega)]; exact q) (.inl (PyProof.noPylong_small (by omega)))
theorem Kc : sj X (binaryOp .Mod) (rI (fun _ j => 0 < j) fun i j => .int (i % j)) := Og fun i j _ _ _ _ _ hc q => by
  have h1 : (0 : Int) < j := hc
  exact mod_int' (by omega) (by rw [Int.fmod_eq_emod_of_nonneg i (by omega)]; exact q)
theorem Kd : sj X (binaryOp .Pow) (rI O1 fun i j => .int (i ^ j.toNat)) := Og fun _ _ _ _ _ _ _ hc q => pow_int_small hc.1 hc.2.1 hc.2.2 q
theorem SD {f : Value → Sem Value} {g : Int → Int}
    (rule : ∀ (i : Int) (t : Tok) (s : Shared) (Q : Value → Shared → Prop) (E : Value → Shared → Prop), Q (.int (g i) s.toks) { s with toks := s.toks + 1 } → wpAny (model X.prog X.w) X.A (f (.int i t)) Q E s) :
    OY X f (rU fun i => .int (g i)) := by
  intro pins s σ H x v Q I rx h
  obtain ⟨i, rfl, q⟩ := h
  obtain ⟨t, rfl⟩ := rx
  exact rule i t s _ _ ⟨.int (g i), H, I.tok _, ⟨_, rfl⟩, q⟩
theorem Ke : OY X (unaryOp .USub) (rU fun i => .int (-i)) := SD fun _ _ _ _ _ q => neg_int q
end
section
variable {X : Cx} {a b c : Expr} {ta tb tc : TE} {pos : Pos}
theorem Kf {pins : List (Addr × Obj)} {σ : St} {H : Hp} {s : Shared} {Q : VK} {k k' : Bool} (I : Inv X pins σ H s) (q : Q (.bl k) H) (e : k = k') : EP X pins σ Q (.bool k') s := by
  subst e
  exact ⟨.bl k, H, I, rfl, q⟩
theorem Mn : sj X (compareOp .Lt) (Jp fun i j => .bl (decide (i < j))) := J6 fun _ _ _ _ _ _ _ q => lt_int q
theorem Mp : sj X (compareOp .Gt) (Jp fun i j => .bl (decide (j < i))) := J6 fun _ _ _ _ _ _ _ q => gt_int q
theorem Mq : sj X (compareOp .GtE) (Jp fun i j => .bl (decide (j ≤ i))) := J6 fun _ _ _ _ _ _ _ q => ge_int q
theorem Ek : sj X (compareOp .In) (fun x y H Q => ∃ i j, x = .str i ∧ y = .str j ∧ Q (.bl (!(Builtin.Str.occurrences j i 0 j.length 1).isEmpty)) H) := by
  intro pins s σ H x y v u Q I rx ry h
  obtain ⟨i, j, rfl, rfl, q⟩ := h
  obtain ⟨t, rfl⟩ := rx
  obtain ⟨t', rfl⟩ := ry
  exact in_str (Kf I q rfl)
theorem Kg (b : Expr) {op : CmpOp} (h : op ≠ .In := by decide) (h2 : op ≠ .NotIn := by decide) : behindInMarks op b = false := by
  have e1 : (op == CmpOp.In) = false := by cases op <;> first | rfl | exact absurd rfl h
  have e2 : (op == CmpOp.NotIn) = false := by cases op <;> first | rfl | exact absurd rfl h2
  cases b <;> simp [behindInMarks, e1, e2]
theorem HE {op : CmpOp} {r : R2} (ho : sj X (compareOp op) r) (ha : PE X a ta) (hb : PE X b tb) (hm : behindInMarks op b = false) : PE X (.Compare a [op] [b] pos) (Mi r ta tb) := by
  intro pins s σ H Q I h
  exact wpAny_Compare1 (J5 ha hb I h fun v u s2 x y H2 I2 rx ry q => ho pins s2 σ H2 x y v u Q I2 rx ry q) hm
noncomputable def Mr (t : TE) : TT := fun σ H Q => t σ H fun x H' => ∃ k, x = .bl k ∧ Q k H'
theorem HF {op : CmpOp} {r : R2} (ho : sj X (compareOp op) r) (ha : PE X a ta) (hb : PE X b tb) (hm : behindInMarks op b = false) : PT X (.Compare a [op] [b] pos) (Mr (Mi r ta tb)) := by
  intro pins s σ H Q I h
  refine wpAny_isTrue_Compare1 (j4 (ha pins s σ H _ I h) fun v s1 ⟨x, H1, I1, r1, q1⟩ => j4 (hb pins s1 σ H1 _ I1 q1) fun u s2 ⟨y, H2, I2, r2, q2⟩ =>
    j4 (ho pins s2 σ H2 x y v u _ I2 r1 r2 q2) fun c s3 ⟨z, H3, I3, r3, k, e, q3⟩ => ?_) hm
  subst e
  cases r3
  exact wpAny_truthy_bool ⟨H3, I3, q3⟩
noncomputable def Kh (K : PySem.W.Frag) (x : V) (H : Hp) (k : Bool) : Prop :=
  match x with
  | .lG => k = false
  | .bl b => k = b
  | .int i => k = (i != 0)
  | .str y => y.length ≤ sizeLine ∧ k = ((y.length : Int) != 0)
  | .LZ y => y.size ≤ sizeLine ∧ k = ((y.size : Int) != 0)
  | .ref p => (∃ xs, sf K H p xs ∧ k = !xs.isEmpty) ∨ (∃ xs, sZ K H p xs ∧ k = !xs.isEmpty) ∨ ∃ kvs, H p = some (.dK kvs) ∧ k = !kvs.isEmpty
  | _ => False
theorem Cz {κ : Type} {kvs : List (κ × V)} {vs : List (κ × Value)} (r : KV kvs vs) : (!vs.isEmpty) = !kvs.isEmpty := by
  cases r <;> rfl
theorem wV {xs : List V} {its : List Value} (r : Vals xs its) : (!its.toArray.isEmpty) = !xs.isEmpty := by
  cases r <;> simp
theorem u6 : (sizeLine : Nat) < 2 ^ 63 := by rw [sizeLine_eq]; decide
theorem Kl : OZ X (fun x H Q => ∃ k, Kh X.K x H k ∧ Q k H) := by
  intro pins s σ H x v Q I rx h
  obtain ⟨k, e, q⟩ := h
  have hl := u6
  have hs : sizeLine = 16777216 := sizeLine_eq
  cases x with
  | lG =>
    cases rx
    have e' : k = false := e
    subst e'
    exact truthy_none ⟨H, I, q⟩
  | bl b =>
    cases rx
    have e' : k = b := e
    subst e'
    exact wpAny_truthy_bool ⟨H, I, q⟩
  | int i =>
    obtain ⟨t, rfl⟩ := rx
    have e' : k = (i != 0) := e
    subst e'
    exact PySem.P.truthy_int ⟨H, I, q⟩
  | str y =>
    obtain ⟨t, rfl⟩ := rx
    obtain ⟨hy, e'⟩ : y.length ≤ sizeLine ∧ k = ((y.length : Int) != 0) := e
    subst e'
    exact PySem.P.truthy_str (by omega) ⟨H, I.tok _, q⟩
  | LZ y =>
    obtain ⟨t, rfl⟩ := rx
    obtain ⟨hy, e'⟩ : y.size ≤ sizeLine ∧ k = ((y.size : Int) != 0) := e
    subst e'
    exact PySem.W.truthy_bytes (by omega) ⟨H, I.tok _, q⟩
  | ref p =>
    cases rx
    have e' : (∃ xs, sf X.K H p xs ∧ k = !xs.isEmpty) ∨ (∃ xs, sZ X.K H p xs ∧ k = !xs.isEmpty) ∨ ∃ kvs, H p = some (.dK kvs) ∧ k = !kvs.isEmpty := e
    rcases e' with ⟨xs, hx, e'⟩ | ⟨xs, hx, e'⟩ | ⟨kvs, hx, e'⟩
    · subst e'
      obtain ⟨its, r, pl, hz⟩ := I.list hx
      have hlen := r.length
      exact wpAny_truthy_list pl.isList (by simp only [List.size_toArray]; omega) ⟨H, I.tok _, by rw [wV r]; exact q⟩
    · subst e'
      obtain ⟨its, r, pl, hz⟩ := I.tuple hx
      have hlen := r.length
      exact truthy_tuple pl (by simp only [List.size_toArray]; omega) ⟨H, I.tok _, by rw [wV r]; exact q⟩
    · subst e'
      obtain ⟨hz, hS, vs, r, m⟩ : kvs.length ≤ sizeLine ∧ (p == sysModules) = false ∧ ∃ vs, KV kvs vs ∧ s.heap.DictOf (iA X.prog X.w) p vs := I.hok p _ hx
      have hlen : kvs.length = vs.length := Paired.length r
      exact wpAny_truthy_dict hS m (by omega) ⟨H, I.tok _, by rw [Cz r]; exact q⟩
  | _ => exact (show False from e).elim
theorem Fp (ha : PE X a ta) (he : ∀ whole, isTrue a X.env whole = (do let v ← whole; standAt a.pos; holding [v] (truthy v))) :
    PT X a (fun σ H Q => ta σ H fun x H' => ∃ k, Kh X.K x H' k ∧ Q k H') := by
  intro pins s σ H Q I h
  exact isTrue_plain (j4 (ha pins s σ H _ I h) fun v s1 ⟨x, H1, I1, r1, q1⟩ => Kl pins s1 σ H1 x v Q I1 r1 q1) (he _)
theorem CA : sj X (binaryOp .Add) (fun x y H Q => ∃ i j, x = .str i ∧ y = .str j ∧ i.length + j.length ≤ sizeLine ∧ Q (.str (i ++ j)) H) := by
  intro pins s σ H x y v u Q I rx ry h
  obtain ⟨i, j, rfl, rfl, hz, q⟩ := h
  obtain ⟨t, rfl⟩ := rx
  obtain ⟨t', rfl⟩ := ry
  exact add_str (fun t' tk => ⟨.str (i ++ j), H, I.tok _, ⟨_, rfl⟩, q⟩) hz
theorem vals1 {x : V} {us : List Value} (r : Vals [x] us) : ∃ u, us = [u] ∧ RelV x u := by
  cases r with
  | cons r1 r2 => cases r2; exact ⟨_, rfl, r1⟩
theorem vals2 {x y : V} {us : List Value} (r : Vals [x, y] us) : ∃ u w', us = [u, w'] ∧ RelV x u ∧ RelV y w' := by
  cases r with
  | cons r1 r2 =>
    cases r2 with
    | cons r3 r4 => cases r4; exact ⟨_, _, rfl, r1, r3⟩
theorem El (hc : X.calm = true) : oO X (.builtin "min") (fun xs H Q => ∃ i j, xs = [.int i, .int j] ∧ Q (.int (if j < i then j else i)) H) := by
  intro pins s σ H xs us Q I r h
  obtain ⟨i, j, rfl, q⟩ := h
  obtain ⟨u, w', rfl, ⟨t, rfl⟩, ⟨t', rfl⟩⟩ := vals2 r
  refine min_two_ints (I.ok.hd hc) fun h' tk k => ⟨_, H, I.kept k, ?_, q⟩
  by_cases hj : j < i
  · rw [if_pos hj, if_pos hj]; exact ⟨_, rfl⟩
  · rw [if_neg hj, if_neg hj]; exact ⟨_, rfl⟩
theorem yU : oO X (.type "int") (fun xs H Q => (∃ i, xs = [.int i] ∧ Q (.int i) H) ∨ ∃ k, xs = [.bl k] ∧ Q (.int (if k then 1 else 0)) H) := by
  intro pins s σ H xs us Q I r h
  rcases h with ⟨i, rfl, q⟩ | ⟨k, rfl, q⟩
  · obtain ⟨u, rfl, t, rfl⟩ := vals1 r
    exact call_int_int ⟨.int i, H, I, ⟨_, rfl⟩, q⟩
  · obtain ⟨u, rfl, r1⟩ := vals1 r
    cases r1
    exact call_int_bool ⟨.int (if k then 1 else 0), H, I.tok _, ⟨_, rfl⟩, q⟩
end
end L2
namespace L2
open PySem PySem.Spec PyProof.Rows
structure SE (h : Heap) (x dx C : Addr) (mA : Str → Option Value) : Prop where
  obj : h.get? x = some (PySem.W.instObj C dx)
  ns : h.Ns1 dx mA
  ne : dx ≠ x
section
variable {prog : Program} {w : World} {A : Around} {E : Value → Shared → Prop} {s : Shared} {K : PySem.W.Frag} {x dx C f : Addr} {mA : Str → Option Value} {name : Str} {v : Value}
end
section
variable {P : Program} {w : World} {H H' : Hp} {h h' : Heap} {a C dx : Addr} {fs fs' : List (Str × V)}
end
structure SG (K : PySem.W.Frag) (C : Addr) : Prop where
  pg : PySem.W.plainGet K C Str.empty = true
  hd : PySem.W.hasDictIn K C = true
  po : PySem.W.plainOver K C = true
  sa : PySem.W.findIn K (.ref C) "__setattr__" = some (some (.builtin "object.__setattr__"))
structure U6 (K : PySem.W.Frag) (C : Addr) (f : Str) (v : V) (u : Value) : Prop where
  at_ : PySem.W.findIn K (.ref C) f = some (some u)
  rel : RelV v u
  get : PySem.W.specialIn K u "__get__" = some none
  cp : PySem.W.copiedNames.contains f = false
structure Meth (K : PySem.W.Frag) (C : Addr) (m : Str) (f : Addr) : Prop where
  at_ : PySem.W.findIn K (.ref C) m = some (some (.ref f))
  fn : PySem.W.isFn K (.ref f) = true
  kp : PySem.W.keepIn K (.ref f) = true
section
variable {X : Cx} {pins : List (Addr × Obj)} {σ : St} {H : Hp} {s : Shared} {a C dx : Addr} {fs : List (Str × V)} {f : Str} {v : V} {A : Around} {E : Value → Shared → Prop}
end
section
variable {X : Cx} {o e value : Expr} {f : Str} {pos pos' tpos : Pos} {ta tv : TE}
end
section
variable {X : Cx} {pins : List (Addr × Obj)} {σ : St} {H : Hp} {s : Shared} {A : Around} {E : Value → Shared → Prop} {Q : Value → Shared → Prop} {c : Value} {b : Bool}
inductive wW (K : PySem.W.Frag) (H : Hp) : V → Value → Prop where
  | lG : wW K H .lG (.type "NoneType")
  | bl (x : Bool) : wW K H (.bl x) (.type "bool")
  | int (i : Int) : wW K H (.int i) (.type "int")
  | str (x : Str) : wW K H (.str x) (.type "str")
  | L0 (x : UInt64) : wW K H (.L0 x) (.type "float")
  | lst {a : Addr} {xs : List V} (e : H a = some (.lst xs)) : wW K H (.ref a) (.type "list")
  | qE {a : Addr} {o : Obj} {xs : List V} (e : H a = some (.qE o (.lst xs))) : wW K H (.ref a) (.type "list")
  | tup {a : Addr} {xs : List V} (e : H a = some (.tup xs)) : wW K H (.ref a) (.type "tuple")
  | dK {a : Addr} {kvs : List (Key × V)} (e : H a = some (.dK kvs)) : wW K H (.ref a) (.type "dict")
  | dT {a : Addr} {kvs : List (List Key × V)} (e : H a = some (.dT kvs)) : wW K H (.ref a) (.type "dict")
  | ins {a C dx : Addr} {fs : List (Str × V)} (e : H a = some (.ins C dx fs)) (cl : SG K C) (ha : PySem.W.findIn K (.ref C) "__class__" = some (some (.builtin "object.__class__")))
      (hn : PySem.W.specialIn K (.builtin "object.__class__") "__get__" = some (some (.builtin "getset_descriptor.__get__"))) (htk : PySem.W.takesIn K (.builtin "object.__class__") = some true)
      (hm : PySem.W.mroIn K C (.type "object") = some true) : wW K H (.ref a) (.ref C)
end
end L2
namespace L2
open PySem PySem.Spec PyProof.Rows
structure mQ (k : Nat) (A : Around) : Prop where
  hd : A.handled = none
  dp : A.depth + 3 * k + 5 < recursionLimit
  un : A.units + 16 * k + 600 < cLine
theorem mQ.mono {j k : Nat} {A : Around} (r : mQ k A) (h : j ≤ k) : mQ j A := ⟨r.hd, by have := r.dp; omega, by have := r.un; omega⟩
theorem mQ.deeper {k : Nat} {A : Around} (r : mQ (k + 1) A) (env : Env) : mQ k (A.deeper env) :=
  ⟨r.hd, by have := r.dp; show A.depth + 1 + 3 * k + 5 < _; omega, by have := r.un; show A.units + 3 + 16 * k + 600 < _; omega⟩
theorem mQ.in1 {k : Nat} {A : Around} (r : mQ (k + 1) A) : mQ k A.in1 :=
  ⟨r.hd, by have := r.dp; show A.depth + 3 * k + 5 < _; omega, by have := r.un; show A.units + 1 + 16 * k + 600 < _; omega⟩
theorem mQ.depth {k : Nat} {A : Around} (r : mQ k A) : A.depth < recursionLimit := by have := r.dp; omega
theorem mQ.units {k : Nat} {A : Around} (r : mQ k A) : A.units + 64 < cLine := by have := r.un; omega
noncomputable def Ms : TA := fun _ H Q => Q [] H
noncomputable def Fq (ta : TE) (tr : TA) : TA := fun σ H Q => ta σ H fun x H1 => tr σ H1 fun xs H2 => Q (x :: xs) H2
section
variable {X : Cx} {e : Expr} {es : List Expr} {te : TE} {t : TA} {pos : Pos}
theorem Ft : PA X [] Ms := fun _ _ _ _ H Q I h => Calls.spliced_nil ⟨[], H, I, .nil, h⟩
theorem zT (ha : PE X e te) (hr : PA X es t) (hs : starEach (e :: es) X.env = (false, eval e X.env) :: starEach es X.env := by rfl) : PA X (e :: es) (Fq te t) := by
  intro pos pins s σ H Q I h
  rw [hs]
  show wpAny _ _ (spliced ((false, eval e X.env) :: backTo pos (starEach es X.env))) _ _ s
  refine Calls.spliced_cons (j4 (ha pins s σ H _ I h) fun u s1 ⟨x, H1, I1, r1, q1⟩ => ?_)
  exact j4 (hr pos pins s1 σ H1 _ I1 q1) fun us s2 ⟨xs, H2, I2, r2, q2⟩ => ⟨x :: xs, H2, I2, .cons r1 r2, q2⟩
noncomputable def O2 (t : TA) : TE := fun σ H Q => t σ H fun xs H1 => xs.length ≤ sizeLine ∧ ∀ p, H1 p = none → Q (.ref p) (upd H1 p (.tup xs))
noncomputable def O3 (t : TA) : TE := fun σ H Q => t σ H fun xs H1 => xs.length ≤ sizeLine ∧ ∀ p, H1 p = none → Q (.ref p) (upd H1 p (.lst xs))
theorem Km {x1} (h : PA X es t) : PE X (.Tuple es x1 pos) (O2 t) := by
  intro pins s σ H Q I hq
  refine wpAny_Tuple_spliced (j4 (h pos pins s σ H _ I hq) fun us s1 ⟨xs, H1, I1, r, z, q⟩ => ⟨by rw [← r.length]; exact z, ?_⟩)
  have hf : H1 s1.heap.objs.size = none := I1.hok.fresh (Nat.le_refl _)
  refine ⟨.ref s1.heap.objs.size, upd H1 s1.heap.objs.size (.tup xs), I1.laid (t' := s1.toks) (fun b u e => Heap.get?_push_of_some _ e) (Nat.le_refl _) ?_, rfl, q _ hf⟩
  exact ⟨z, us, r, ⟨_, Heap.get?_push_size _ rfl, rfl, _, rfl⟩⟩
theorem Kn (h : PA X es t) : PE X (.List es pos) (O3 t) := by
  intro pins s σ H Q I hq
  refine wpAny_List_spliced (j4 (h pos pins s σ H _ I hq) fun us s1 ⟨xs, H1, I1, r, z, q⟩ => ⟨by rw [← r.length]; exact z, ?_⟩)
  have hf : H1 s1.heap.objs.size = none := I1.hok.fresh (Nat.le_refl _)
  refine ⟨.ref s1.heap.objs.size, upd H1 s1.heap.objs.size (.lst xs), I1.laid (t' := s1.toks) (fun b u e => Heap.get?_push_of_some _ e) (Nat.le_refl _) ?_, rfl, q _ hf⟩
  exact ⟨z, us, 0, r, Heap.get?_push_size _ rfl⟩
end
noncomputable abbrev Sp := List V → Hp → VK → XK → Prop
noncomputable abbrev Bd := List Env → Hp → Shared → XK → Value → Shared → Prop
structure CB (P : Program) (w : World) (K : PySem.W.Frag) (mg : Str → Option Value) (base : Heap) (A : Around) (outer : List Env) (s : Shared) (H : Hp) : Prop where
  frames : A.frames = some outer
  mod : Mod K mg base
  bs : ∀ b o, base.get? b = some o → s.heap.get? b = some o ∧ H b = none
  JP : base.objs.size ≤ s.heap.objs.size
  wQ : s.heap.FunFrames base outer
  LP : ∀ b ∈ frs outer, H b = none
  hok : qQ P w H s.heap
  bare : AllBare s.gens
noncomputable def CE (outer : List Env) (P : Program) (w : World) (H : Hp) (s : Shared) (Q : VK) (u : Value) (s' : Shared) : Prop :=
  ∃ v H', s'.os = s.os ∧ AllBare s'.gens ∧ Un (frs outer) [] H H' s.heap s'.heap ∧ qQ P w H' s'.heap ∧ RelV v u ∧ Q v H'
noncomputable def CR (CX : Bd) (outer : List Env) (P : Program) (w : World) (H : Hp) (s : Shared) (Q : VK) (E : XK) (r : Result) (s' : Shared) : Prop :=
  match r with
  | .ok (.ret u) => CE outer P w H s Q u s'
  | .ok _ => False
  | .error e => CX outer H s E e s'
structure cY (P : Program) (w : World) (K : PySem.W.Frag) (mg : Str → Option Value) (base : Heap) (CX : Bd) (k : Nat) (f : Addr) (fd : FuncData) (ps : List Str) (sp : Sp) : Prop where
  len : ∀ vs H Q E, sp vs H Q E → vs.length = ps.length
  run : ∀ (A : Around) (outer : List Env) (s : Shared) (H : Hp) (args : Args) (us : List Value) (vs : List V) (Q : VK) (E : XK), mQ k A → CB P w K mg base A outer s H → BindsTo s fd args (ps.zip us) → Vals vs us → sp vs H Q E →
    codeAny (model P w) A (.call (.ref f) args) (CR CX outer P w H s Q E) s
theorem cY.imp {P : Program} {w : World} {K : PySem.W.Frag} {mg : Str → Option Value} {base : Heap} {CX : Bd} {k : Nat} {f : Addr} {fd : FuncData} {ps : List Str} {sp Q3 : Sp} (F : cY P w K mg base CX k f fd ps sp)
    (h : ∀ vs H Q E, Q3 vs H Q E → sp vs H Q E) : cY P w K mg base CX k f fd ps Q3 :=
  ⟨fun vs H Q E q => F.len vs H Q E (h _ _ _ _ q), fun A outer s H args us vs Q E hr he hb hv hs => F.run A outer s H args us vs Q E hr he hb hv (h _ _ _ _ hs)⟩
theorem CB.in1 {P : Program} {w : World} {K : PySem.W.Frag} {mg : Str → Option Value} {base : Heap} {A : Around} {outer : List Env} {s : Shared} {H : Hp} (e : CB P w K mg base A outer s H) :
    CB P w K mg base A.in1 outer s H := ⟨e.frames, e.mod, e.bs, e.JP, e.wQ, e.LP, e.hok, e.bare⟩
section
variable {X : Cx} {pins : List (Addr × Obj)} {σ : St} {H : Hp} {s s' : Shared}
theorem Inv.mR (I : Inv X pins σ H s) : CB X.prog X.w X.K X.mg X.base X.A X.stack s H :=
  ⟨I.ok.frames, I.ok.mod, I.bs, Nat.le_trans I.ok.JP I.sz, I.stack, I.wG, I.hok, I.bare⟩
theorem Inv.after {Q : VK} {u : Value} (I : Inv X pins σ H s) (h : CE X.stack X.prog X.w H s Q u s') : EP X pins σ Q u s' := by
  obtain ⟨v, H', os, bare, un, hok, r, q⟩ := h
  obtain ⟨hh, g, d, t, os'⟩ := s'
  obtain rfl : os' = s.os := os
  exact ⟨v, H', I.call (h' := hh) (g' := g) (d' := d) (t' := t) (ch := []) un hok bare (fun b z => absurd z (by simp)), r, q⟩
end
noncomputable def Binds (K : PySem.W.Frag) (fd : FuncData) (ps : List Str) (ds : List Value) : Prop :=
  ∀ (s : Shared) (us : List Value), K.In s.heap → (us ++ ds).length = ps.length → BindsTo s fd ⟨us, []⟩ (ps.zip (us ++ ds))
theorem Binds.all {K : PySem.W.Frag} {fd : FuncData} {ps : List Str} (h : ∀ us : List Value, us.length = ps.length → bindArgs fd ⟨us, []⟩ = pure (ps.zip us)) : Binds K fd ps [] := fun s us _ hl => by
  rw [List.append_nil] at hl ⊢
  exact .of_eq (h us hl)
section
variable {X : Cx} {CX : Bd} {k : Nat} {f C : Addr} {fd : FuncData} {ps : List Str} {sp : Sp} {U7 : List V} {ds : List Value} {E : XK} {x m : Str} {p pos apos : Pos} {e o : Expr} {es : List Expr} {ta : TE} {t : TA}
structure Mk (K : PySem.W.Frag) (C f : Addr) : Prop where
  makes : PySem.W.makesIn K C = true
  init : PySem.W.findIn K (.ref C) "__init__" = some (some (.ref f))
  fn : PySem.W.isFn K (.ref f) = true
  kp : PySem.W.keepIn K (.ref C) = true
end
section
variable {X : Cx} {CX : Bd} {k : Nat} {f C : Addr} {fd : FuncData} {ps ks : List Str} {sp : Sp} {E : XK} {x m : Str} {p pos apos kpos : Pos} {e o : Expr} {es : List Expr} {kws : List Keyword} {te ta : TE} {t tk : TA} {nm : Option Str}
structure O4 (K : PySem.W.Frag) (fd : FuncData) (ps ks : List Str) (g : List Value → List Value → List Value) (gV : List V → List V → List V) : Prop where
  to : ∀ (s : Shared) (us ws : List Value), K.In s.heap → (g us ws).length = ps.length → BindsTo s fd ⟨us, ks.zip ws⟩ (ps.zip (g us ws))
  rel : ∀ {vs : List V} {us : List Value} {zs : List V} {ws : List Value}, Vals vs us → Vals zs ws → Vals (gV vs zs) (g us ws)
variable {g : List Value → List Value → List Value} {gV : List V → List V → List V}
end
structure gB (N P : List Str) (sc : Scope) : Prop where
  kind : sc.kind = .function
  co : sc.isCoroutine = false
  gen : sc.isGenerator = false
  nd : N.Nodup
  pre : N.take P.length = P
  par : ∀ x ∈ P, sc.names.lookup x = some .local ∨ sc.names.lookup x = some .cell
  Ko : ∀ y ∈ sc.names, y.2 ≠ .free
theorem yV {kindOf : Str → Option NameKind} {x : Str} : ∀ {binds : List (Str × Value)} {m : Str → Option Value}, (∀ v, (x, v) ∉ binds) → bindL kindOf binds m x = m x
  | [], _, _ => rfl
  | (n, v) :: r, m, h => by
    unfold bindL
    rw [yV fun w hw => h w (List.mem_cons_of_mem _ hw)]
    split
    · have : x ≠ n := by rintro rfl; exact h v List.mem_cons_self
      simp [this]
    · rfl
theorem yW {kindOf : Str → Option NameKind} {x : Str} : ∀ {binds : List (Str × Value)} {m : Str → Option Value}, (∀ v, (x, v) ∉ binds) → bindC kindOf binds m x = m x
  | [], _, _ => rfl
  | (n, v) :: r, m, h => by
    unfold bindC
    rw [yW fun w hw => h w (List.mem_cons_of_mem _ hw)]
    split
    · rfl
    · have : x ≠ n := by rintro rfl; exact h v List.mem_cons_self
      simp [this]
theorem yX {kindOf : Str → Option NameKind} {x : Str} {v : Value} : ∀ {P : List Str} {vs : List Value} {i : Nat} {m : Str → Option Value}, P.Nodup → P[i]? = some x → vs[i]? = some v → kindOf x = some .local →
    bindL kindOf (P.zip vs) m x = some v
  | [], _, _, _, _, h, _, _ => by simp at h
  | _ :: _, [], _, _, _, _, h, _ => by simp at h
  | p :: P, w :: vs, 0, m, nd, h1, h2, hk => by
    simp at h1 h2; subst h1; subst h2
    show bindL kindOf ((p, w) :: P.zip vs) m p = _
    unfold bindL
    rw [yV fun v hv => (List.nodup_cons.mp nd).1 (List.of_mem_zip hv).1, if_pos hk]
    simp
  | p :: P, w :: vs, i + 1, m, nd, h1, h2, hk => by
    show bindL kindOf ((p, w) :: P.zip vs) m x = _
    unfold bindL
    exact yX (i := i) (List.nodup_cons.mp nd).2 (by simpa using h1) (by simpa using h2) hk
theorem yY {kindOf : Str → Option NameKind} {x : Str} {v : Value} : ∀ {P : List Str} {vs : List Value} {i : Nat} {m : Str → Option Value}, P.Nodup → P[i]? = some x → vs[i]? = some v → kindOf x ≠ some .local →
    bindC kindOf (P.zip vs) m x = some v
  | [], _, _, _, _, h, _, _ => by simp at h
  | _ :: _, [], _, _, _, _, h, _ => by simp at h
  | p :: P, w :: vs, 0, m, nd, h1, h2, hk => by
    simp at h1 h2; subst h1; subst h2
    show bindC kindOf ((p, w) :: P.zip vs) m p = _
    unfold bindC
    rw [yW fun v hv => (List.nodup_cons.mp nd).1 (List.of_mem_zip hv).1, if_neg hk]
    simp
  | p :: P, w :: vs, i + 1, m, nd, h1, h2, hk => by
    show bindC kindOf ((p, w) :: P.zip vs) m x = _
    unfold bindC
    exact yY (i := i) (List.nodup_cons.mp nd).2 (by simpa using h1) (by simpa using h2) hk
noncomputable def start (N : List Str) (vs : List V) : St := vs.map some ++ List.replicate (N.length - vs.length) none
noncomputable def nu (CX : Bd) (P : Program) (w : World) (K : PySem.W.Frag) (mg : Str → Option Value) (base : Heap) (N : List Str) (qual : Str) (scope : Scope) (f : Addr) (cd : Value) (A : Around) (outer : List Env) (s : Shared) (H : Hp) (E : XK) : Cx where
  prog := P
  w := w
  K := K
  mg := mg
  base := base
  A := A.deeper (envOfC qual scope s.heap.objs.size f cd)
  N := N
  s₀ := s
  H₀ := H
  env := envOfC qual scope s.heap.objs.size f cd
  outer := outer
  stack := envOfC qual scope s.heap.objs.size f cd :: outer
  ex := []
  calm := true
  fn := fun _ => true
  pn := []
  xe := fun e s' => wpAny (model P w) (A.deeper (envOfC qual scope s.heap.objs.size f cd)) (leaving (envOfC qual scope s.heap.objs.size f cd) e) (fun _ s'' => CX outer H s E e s'') (fun e' s'' => CX outer H s E e' s'') s'
theorem Be {sc : Scope} {n : Nat} {x : Str} (h : sc.names.lookup x = some .cell) : ∃ c, (cellsFrom n sc.names []).lookup x = some c := by
  have q := PySem.W.cellsFrom_some sc.names n [] (.inl h)
  exact Option.isSome_iff_exists.mp q
theorem Em {CX : Bd} {P : Program} {w : World} {K : PySem.W.Frag} {mg : Str → Option Value} {base : Heap} {N ps : List Str} {qual : Str} {scope : Scope} {f : Addr} {cd : Value} {A : Around} {outer : List Env} {s s1 : Shared} {H : Hp} {E : XK} {us : List Value} {vs : List V}
    (S : gB N ps scope) (hd : A.handled = none) (e0 : CB P w K mg base A outer s H) (hl : vs.length = ps.length) (r : Vals vs us)
    (x : InCallC s s.heap.objs.size (bindL (envOfC qual scope s.heap.objs.size f cd).kindOf (ps.zip us) fun _ => none) (cellsFrom (s.heap.objs.size + 1) scope.names []) (bindC (envOfC qual scope s.heap.objs.size f cd).kindOf (ps.zip us) fun _ => none) s1) :
    Inv (nu CX P w K mg base N qual scope f cd A outer s H E) [] (start N vs) H s1 := by
  have hpl : ps.length ≤ N.length := by have := congrArg List.length S.pre; rw [List.length_take] at this; omega
  obtain ⟨h1, tk, rfl, hk⟩ := x.done
  have Mt : ∀ b : Addr, b ∉ (nu CX P w K mg base N qual scope f cd A outer s H E).ex := fun b z => absurd (show b ∈ ([] : List Addr) from z) (by simp)
  refine ⟨⟨e0.mod, S.kind, rfl, rfl, Nat.le_refl _, fun y z c h1 h2 => ?_, fun y hy => ?_, fun y c _ h => ?_, fun _ => hd, Around.frames_deeper e0.frames, .inr ⟨rfl, rfl⟩, fun b z => absurd z (Mt b), e0.bs, e0.JP, fun b _ _ => Mt b, fun b z => absurd z (Mt b), e0.wQ, e0.LP⟩,
    rfl, e0.bare, Un.kept hk, ⟨_, x.toInCall.ns, fun i y v h1 h2 h3 => ?_⟩, fun y c h => ⟨_, x.cell y c h⟩, e0.hok.fresh (Nat.le_refl _), fun y c h => ?_, fun p hp => absurd (show p ∈ ([] : List (Addr × Obj)) from hp) (by simp), e0.hok.kept hk, ?_⟩
  · exact name_of_addr x.apart (PySem.mem_of_lookup h1) (PySem.mem_of_lookup h2)
  · have hy : scope.names.lookup y = some .cell ∨ scope.names.lookup y = some .free := hy
    rcases hy with hy | hy
    · exact Be hy
    · exact absurd rfl (S.Ko _ (PySem.mem_of_lookup hy))
  · exact Nat.le_of_lt (x.above y c (PySem.mem_of_lookup h))
  · have hi : i < vs.length := by
      unfold start at h2
      by_cases hi : i < vs.length
      · exact hi
      · rw [List.getElem?_append_right (by simpa using hi)] at h2
        rw [List.getElem?_replicate] at h2
        split at h2 <;> cases h2
    have ha : vs[i]? = some v := by
      unfold start at h2
      rw [List.getElem?_append_left (by simpa using hi), List.getElem?_map] at h2
      cases e : vs[i]? with
      | none => rw [e] at h2; cases h2
      | some a => rw [e] at h2; cases h2; rfl
    obtain ⟨u, hu, rv⟩ := r.get ha
    have hp : ps[i]? = some y := by
      rw [← S.pre, List.getElem?_take_of_lt (by omega)]; exact h1
    have Q4 : ps.Nodup := by rw [← S.pre]; exact S.nd.sublist (List.take_sublist _ _)
    refine ⟨u, rv, ?_⟩
    rcases S.par y (List.mem_of_getElem? hp) with k | k
    · exact .inl ⟨k, yX Q4 hp hu k⟩
    · obtain ⟨c, e⟩ := Be (n := s.heap.objs.size + 1) k
      refine .inr ⟨.inl k, c, e, ?_⟩
      have q := x.cell y c e
      rw [yY Q4 hp hu (by show scope.names.lookup y ≠ _; rw [k]; decide)] at q
      exact q
  · exact e0.hok.fresh (Nat.le_of_lt (x.above y c (PySem.mem_of_lookup h)))
  · unfold start
    show _ = N.length
    rw [List.length_append, List.length_map, List.length_replicate]
    omega
theorem Mu {CX : Bd} {P : Program} {w : World} {K : PySem.W.Frag} {mg : Str → Option Value} {base : Heap} {k : Nat} {f : Addr} {name qual : Str} {params : Arguments} {body : List Stmt} {scope : Scope} {dV kV doc pm cdv ct oc : Value} {an od : Option Addr}
    {osl : Array (Option Value)} {N ps : List Str} {sp : Sp} (lk : K.lookup f = some ⟨oc, od, .func (PySem.W.fnOf name qual params body scope dV kV doc pm an cdv ct), osl⟩) (hcd : PySem.W.codeIn K cdv qual = true) (S : gB N ps scope)
    (len : ∀ vs H Q E, sp vs H Q E → vs.length = ps.length)
    (hbody : ∀ (A : Around) (outer : List Env) (s : Shared) (H : Hp) (vs : List V) (Q : VK) (E : XK), mQ k (A.deeper (envOfC qual scope s.heap.objs.size f cdv)) → sp vs H Q E →
      ∃ t, Cu (nu CX P w K mg base N qual scope f cdv A outer s H E) body t ∧ t { nx := fun _ H' => Q .lG H', rt := Q } (start N vs) H) :
    cY P w K mg base CX (k + 1) f (PySem.W.fnOf name qual params body scope dV kV doc pm an cdv ct) ps sp := by
  refine ⟨len, fun A outer s H args us vs Q E hr e0 hb r LS => ?_⟩
  have hl := len _ _ _ _ LS
  have KX : K.In s.heap := e0.mod.Ob.keeps fun b o e => (e0.bs b o e).1
  have lim : s.heap.NoLimit := e0.mod.nolimit.keeps fun b o e => (e0.bs b o e).1
  have hkind : ∀ y ∈ ps.zip us, scope.names.lookup y.1 = some .local ∨ (scope.names.lookup y.1 = some .cell ∧ ((cellsFrom (s.heap.objs.size + 1) scope.names []).lookup y.1).isSome = true) := fun ⟨n, v⟩ hy => by
    rcases S.par n (List.of_mem_zip hy).1 with q | q
    · exact .inl q
    · exact .inr ⟨q, PySem.W.cellsFrom_some _ _ _ (.inl q)⟩
  refine codeAny_call_function hr.depth (KX _ _ lk) rfl S.co S.gen rfl (PySem.W.codeRec_of KX hcd) (hb _ _ _ _ ?_)
  refine wpAny_newFunctionEnv_cells S.kind hkind fun env he s1 x => ?_
  subst he
  refine ⟨lim.keeps x.toInCall.keep, codeAny_func ?_⟩
  obtain ⟨t, ht, hq⟩ := hbody A outer s H vs Q E (hr.deeper _) LS
  have I : Inv (nu CX P w K mg base N qual scope f cdv A outer s H E) [] (start N vs) H s1 := Em S hr.hd e0 hl r x
  refine wpAny_mono (ht [] s1 (start N vs) H _ I hq) (fun fl s' hs => ?_) fun e s' hs => hs
  have fin : ∀ {σ' : St} {H' : Hp} {v : V} {u : Value}, Inv (nu CX P w K mg base N qual scope f cdv A outer s H E) [] σ' H' s' → RelV v u → Q v H' → CE outer P w H s Q u s' :=
    fun {σ' H' v u} J rv q => ⟨v, H', J.os, J.bare, J.base, J.hok, rv, q⟩
  cases fl with
  | ret u =>
    obtain ⟨v, σ', H', J, rv, q⟩ := hs
    exact fin J rv q
  | next =>
    obtain ⟨σ', H', J, q⟩ := hs
    exact fin (v := V.lG) (u := Value.none) J rfl q
  | brk =>
    obtain ⟨_, _, _, q⟩ := hs
    exact False.elim q
  | cont =>
    obtain ⟨_, _, _, q⟩ := hs
    exact False.elim q
end L2
namespace L2
open PySem PySem.Spec PyProof.Rows
section
variable {X : Cx} {x : Str} {p pos : Pos} {e : Expr} {es : List Expr} {t : TA} {id T : String} {r : List V → Hp → VK → Prop}
noncomputable def Q5 (r : List V → Hp → VK → Prop) (t : TA) : TE := fun σ H Q => t σ H fun vs H1 => r vs H1 Q
theorem Fv (hc : oO X (.builtin id) r) (hg : Gl X x) (hm : X.mg x = none) (hv : bootBuiltins x = some (.builtin id)) (ha : PA X (e :: es) t) (hn : x ≠ "__name__" := by decide) (hdb : (x == ("__debug__" : Str)) = false := by decide)
    (he : starEach (e :: es) X.env = (false, eval e X.env) :: starEach es X.env := by rfl) (hpl : (backTo pos (starEach es X.env)).any (·.1) = false := by rfl) : PE X (.Call (.Name x p) (e :: es) [] pos) (Q5 r t) := by
  intro pins s σ H Q I h
  refine wpAny_Call_Name_kw (kK I hg hm hv ?_ hn hdb)
  exact PyProof.Rows.callWith_builtin1 (j4 (ha pos pins s σ H _ I h) fun us s1 ⟨vs, H1, I1, r1, q1⟩ => hc pins s1 σ H1 vs us Q I1 r1 q1) he hpl
theorem En (hc : oO X (.type T) r) (hg : Gl X x) (hm : X.mg x = none) (hv : bootBuiltins x = some (.type T)) (ha : PA X (e :: es) t) (hn : x ≠ "__name__" := by decide) (hdb : (x == ("__debug__" : Str)) = false := by decide)
    (he : starEach (e :: es) X.env = (false, eval e X.env) :: starEach es X.env := by rfl) (hpl : (backTo pos (starEach es X.env)).any (·.1) = false := by rfl) : PE X (.Call (.Name x p) (e :: es) [] pos) (Q5 r t) := by
  intro pins s σ H Q I h
  refine wpAny_Call_Name_kw (kK I hg hm hv ?_ hn hdb)
  exact PyProof.Rows.callWith_type1 (j4 (ha pos pins s σ H _ I h) fun us s1 ⟨vs, H1, I1, r1, q1⟩ => hc pins s1 σ H1 vs us Q I1 r1 q1) he hpl
end
end L2
namespace HT
open PySem PyProof.Rows
section
open PySem.SeqAt
open PySem.AutoSeq1 (wpAny_loadPart')
open PySem.MeetsSeq PySem.MeetsSeq2 PySem.MeetsSeq3
end
section
variable {prog : Program} {w : World} {A : Around} {E : Value → Shared → Prop} {s : Shared}
theorem HG {t b : Addr} {vs ws : List Value} {Q : Value → Shared → Prop} (ht : IsTup s.heap t vs.toArray) (hb : IsTup s.heap b ws.toArray) (hv : vs ≠ [])
    (h1 : ws = [] → Q (.ref t) s) (h2 : ws ≠ [] → Q (.ref s.heap.objs.size) { s with heap := s.heap.push { cls := .type "tuple", data := .seq (vs ++ ws).toArray } })
    (hsz : vs.length + ws.length ≤ sizeLine) : wpAny (model prog w) A (binaryOp .Add (.ref t) (.ref b)) Q E s := by
  obtain ⟨⟨cls, dd, data, sl⟩, ho, hc, n, hd⟩ := id ht
  obtain ⟨⟨Kp, dd2, data2, sl2⟩, ho2, hc2, n2, hd2⟩ := id hb
  simp only at hc hd hc2 hd2
  subst hc hd hc2 hd2
  have e : vs.toArray ++ ws.toArray = (vs ++ ws).toArray := by simp
  by_cases hw : ws = []
  · exact concat_meets ⟨_, ho, rfl⟩ ⟨_, ho2, rfl⟩ noFill_tuple_add seq_tuple_add PySem.F.slot_tuple_add PySem.F.entry_tuple_add (PySem.F.args_tuple_add_2 _ _)
      (tuple_addW1 t b vs.toArray ws.toArray n n2 dd dd2 sl sl2 (by simpa using hv) (by simp [hw])) ⟨ho, ho2, h1 hw⟩
  · refine concat_meets ⟨_, ho, rfl⟩ ⟨_, ho2, rfl⟩ noFill_tuple_add seq_tuple_add PySem.F.slot_tuple_add PySem.F.entry_tuple_add (PySem.F.args_tuple_add_2 _ _)
      (tuple_addW2 t b vs.toArray ws.toArray n n2 dd dd2 sl sl2 (by simpa using hv) (by simpa using hw) (by rw [List.size_toArray, List.size_toArray]; exact hsz)) ⟨ho, ho2, ?_⟩
    rw [e]
    exact h2 hw
noncomputable def jL (n d : Nat) : Option Int → Nat
  | none => d
  | some v => if v < 0 then (v + (n : Int)).toNat else min v.toNat n
theorem pF (n d : Nat) : jL n d none = d := rfl
theorem tW (n d k : Nat) : jL n d (some (k : Int)) = min k n := by
  show (if (k : Int) < 0 then ((k : Int) + (n : Int)).toNat else min (k : Int).toNat n) = min k n
  rw [if_neg (by omega), Int.toNat_natCast]
theorem Kq (n d : Nat) (hd : d ≤ n) (o : Option Int) : jL n d o ≤ n := by
  cases o with
  | none => exact hd
  | some v =>
    show (if v < 0 then (v + (n : Int)).toNat else min v.toNat n) ≤ n
    by_cases hv : v < 0
    · rw [if_pos hv]; omega
    · rw [if_neg hv]; exact Nat.min_le_right _ _
theorem Dv (v : Int) (n d : Nat) : (if v < 0 then max (v + (n : Int)) 0 else min v (n : Int)) = ((jL n d (some v) : Nat) : Int) := by
  show (if v < 0 then max (v + (n : Int)) 0 else min v (n : Int)) = (((if v < 0 then (v + (n : Int)).toNat else min v.toNat n) : Nat) : Int)
  by_cases hv : v < 0
  · simp only [if_pos hv]; omega
  · simp only [if_neg hv]; omega
theorem CC (lo hi : Option Int) (n : Nat) : Builtin.Slice.sliceAdjust lo hi 1 (n : Int) = (((jL n 0 lo : Nat) : Int), ((jL n n hi : Nat) : Int)) := by
  have h1 : ¬ ((1 : Int) < 0) := by omega
  unfold Builtin.Slice.sliceAdjust
  simp only [h1, if_false]
  refine Prod.ext ?_ ?_
  · cases lo with
    | none => rfl
    | some v => exact Dv v n 0
  · cases hi with
    | none => rfl
    | some v => exact Dv v n n
theorem CD (i j : Nat) : Builtin.Slice.slicePlaces (i : Int) (j : Int) 1 = j - i := by
  unfold Builtin.Slice.slicePlaces
  have h1 : (1 : Int) > 0 := by omega
  simp only [h1, if_true, Int.ediv_one]
  split <;> omega
theorem wX {v : Value} {o : Option Int} {Q : Option Int → Shared → Prop} (p : IsPart v o) (h : Q o s) : wpAny (model prog w) A (Builtin.Slice.slicePartIndex v) Q E s := by
  cases p with
  | none => exact slicePart_none h
  | int i t => exact slicePart_int h
theorem u7 {sl : Addr} {vl vu : Value} {lo hi : Option Int} {n : Nat} {Q : Int × Int × Nat → Shared → Prop} (hs : s.heap.IsSliceOf sl vl vu .none) (pl : IsPart vl lo) (pu : IsPart vu hi)
    (h : Q (((jL n 0 lo : Nat) : Int), 1, jL n n hi - jL n 0 lo) s) : wpAny (model prog w) A (Builtin.Slice.sliceApplied (.ref sl) (pure (n : Int))) Q E s := by
  obtain ⟨os, hos, hcs, hds⟩ := id hs
  unfold Builtin.Slice.sliceApplied Builtin.Slice.sliceFields
  refine wpAny_bind (wpAny_bind (wpAny_field hos hds (x := vl) rfl (wpAny_bind (wpAny_field hos hds (x := vu) rfl (wpAny_bind (wpAny_field hos hds (x := .none) rfl (wpAny_pure ?_)))))))
  refine wpAny_bind (slicePart_none ?_)
  show wpAny _ _ (if ((1 : Int) == 0) = true then _ else _) _ _ s
  rw [if_neg (by decide)]
  refine wpAny_bind (wX pl (wpAny_bind (wX pu (wpAny_bind (wpAny_pure ?_)))))
  show wpAny _ _ (match Builtin.Slice.sliceAdjust lo hi 1 (n : Int) with | (lo, hi) => pure (lo, (1 : Int), Builtin.Slice.slicePlaces lo hi 1)) _ _ s
  rw [CC lo hi n]
  show wpAny _ _ (pure (((jL n 0 lo : Nat) : Int), (1 : Int), Builtin.Slice.slicePlaces ((jL n 0 lo : Nat) : Int) ((jL n n hi : Nat) : Int) 1)) _ _ s
  rw [CD]
  exact wpAny_pure h
theorem Fw (xs : Array Value) (i k : Nat) : ((List.range k).filterMap fun (m : Nat) => xs[((i : Int) + (m : Int) * 1).toNat]?).toArray = ((xs.toList.drop i).take k).toArray := by
  have e : (fun (m : Nat) => xs[((i : Int) + (m : Int) * 1).toNat]?) = fun m => xs[i + m]? := by
    funext m
    have : ((i : Int) + (m : Int) * 1).toNat = i + m := by omega
    rw [this]
  rw [e]
  have := pick_run xs i k
  rw [List.filterMap_map] at this
  have e2 : ((fun x => xs[x]?) ∘ fun x => i + x) = fun m => xs[i + m]? := rfl
  rw [e2] at this
  rw [this]
theorem tX {t sl : Addr} {items : Array Value} {vl vu : Value} {lo hi : Option Int} {Q : Value → Shared → Prop} (ht : IsTup s.heap t items) (hs : s.heap.IsSliceOf sl vl vu .none) (pl : IsPart vl lo) (pu : IsPart vu hi)
    (hw : ¬ (jL items.size 0 lo = 0 ∧ jL items.size items.size hi = items.size))
    (h : Q (.ref s.heap.objs.size) { s with heap := s.heap.push { cls := .type "tuple", data := .seq ((items.toList.drop (jL items.size 0 lo)).take (jL items.size items.size hi - jL items.size 0 lo)).toArray } })
    (hsz : items.size ≤ sizeLine) : wpAny (model prog w) A (getItem (.ref t) (.ref sl)) Q E s := by
  have Dw : sizeOk (.seq ((items.toList.drop (jL items.size 0 lo)).take (jL items.size items.size hi - jL items.size 0 lo)).toArray) := by
    show ((items.toList.drop (jL items.size 0 lo)).take (jL items.size items.size hi - jL items.size 0 lo)).toArray.size ≤ sizeLine
    rw [List.size_toArray, List.length_take, List.length_drop, Array.length_toList]
    omega
  have hj : jL items.size items.size hi ≤ items.size := Kq _ _ (Nat.le_refl _) hi
  obtain ⟨os, hos, hcs, hds⟩ := id hs
  have SH : s.TypeIs (.ref sl) "slice" := ⟨os, hos, hcs⟩
  unfold getItem
  try with_reducible refine wpAny_holding ?_
  first | refine wpAny_bind (wpAny_pure ?_) | skip
  refine wpAny_bind (wpAny_sequenceKey ht.typeIs (by decide) ?_)
  refine wpAny_bind (wpAny_callSpecial?_slot (name := Str.ofString "__getitem__") ht.typeIs PyProof.Rows.slot_tuple_getitem
    (wpAny_call_entry PyProof.Rows.slot_tuple_getitem ht.typeIs entry_tuple_getitem ?_ (args_tuple_getitem _ _)))
  show wpAny _ _ (Builtin.Tuple.tupleItemsOf (.ref t) >>= _) _ _ s
  refine wpAny_bind (tupleItemsOf_ ht ?_)
  refine wpAny_bind (wpAny_typeOf SH ?_)
  rw [if_pos (by decide)]
  refine wpAny_bind (u7 hs pl pu ?_)
  have hno : ¬ ((((jL items.size 0 lo : Nat) : Int) == 0 && (1 : Int) == 1 && (jL items.size items.size hi - jL items.size 0 lo) == items.size) = true) := by
    intro q
    rw [Bool.and_eq_true, Bool.and_eq_true] at q
    have q1 : ((jL items.size 0 lo : Nat) : Int) = 0 := eq_of_beq q.1.1
    have q2 : jL items.size items.size hi - jL items.size 0 lo = items.size := eq_of_beq q.2
    exact hw ⟨by omega, by omega⟩
  show wpAny _ _ (if (((jL items.size 0 lo : Nat) : Int) == 0 && (1 : Int) == 1 && (jL items.size items.size hi - jL items.size 0 lo) == items.size) = true then _ else _) _ _ s
  rw [if_neg hno, Fw]
  first
    | exact wpAny_bind (m := Builtin.Tuple.tupleExact _) (wpAny_newObj_type (wpAny_pure ⟨_, rfl, wpAny_pure h⟩) Dw)
    | exact wpAny_bind (m := Builtin.Tuple.tupleExact _) (wpAny_newObj_type (wpAny_bind (wpAny_pure (wpAny_pure ⟨_, rfl, wpAny_pure h⟩))) Dw)
    | exact wpAny_bind (wpAny_bind (m := Builtin.Tuple.tupleExact _) (wpAny_newObj_type (wpAny_pure (wpAny_pure ⟨_, rfl, wpAny_pure h⟩)) Dw))
    | exact wpAny_bind (wpAny_bind (m := Builtin.Tuple.tupleExact _) (wpAny_newObj_type (wpAny_pure ⟨_, rfl, wpAny_pure h⟩) Dw))
end
end HT
namespace L2
open PySem PySem.Spec PyProof.Rows
noncomputable abbrev TO := St → Hp → (Option Int → Hp → Prop) → Prop
noncomputable def PO (X : Cx) (e : Option Expr) (t : TO) : Prop :=
  ∀ (pins : List (Addr × Obj)) (s : Shared) (σ : St) (H : Hp) (Q : Option Int → Hp → Prop), Inv X pins σ H s → t σ H Q →
    wpAny (model X.prog X.w) X.A (evalPart e X.env) (fun u s' => ∃ o H', Inv X pins σ H' s' ∧ IsPart u o ∧ Q o H') X.xe s
noncomputable def HH : TO := fun _ H Q => Q none H
noncomputable def Mv (t : TE) : TO := fun σ H Q => t σ H fun x H1 => ∃ i, x = .int i ∧ Q (some i) H1
section
variable {X : Cx} {e : Expr} {te : TE} {lo hi : Option Expr} {tl th : TO} {pos p2 : Pos}
theorem HJ : PO X none HH := by
  intro pins s σ H Q I h
  rw [evalPart_none]
  exact wpAny_pure ⟨none, H, I, .none, h⟩
theorem HL (h : PE X e te) : PO X (some e) (Mv te) := by
  intro pins s σ H Q I hw
  rw [evalPart_some]
  refine j4 (h pins s σ H _ I hw) fun u s1 ⟨x, H1, I1, r1, q1⟩ => ?_
  obtain ⟨i, rfl, q⟩ := q1
  obtain ⟨t, rfl⟩ := r1
  exact ⟨some i, H1, I1, .int i t, q⟩
noncomputable def Oh (X : Cx) (r : V → Option Int → Option Int → Hp → VK → Prop) : Prop :=
  ∀ (pins : List (Addr × Obj)) (s : Shared) (σ : St) (H : Hp) (x : V) (v vl vu : Value) (lo hi : Option Int) (sl : Addr) (Q : VK), Inv X pins σ H s → RelV x v → s.heap.IsSliceOf sl vl vu .none → IsPart vl lo → IsPart vu hi → r x lo hi H Q →
    ∃ T id, typeLookup (.type T) "__getitem__" = pure (some (.builtin id)) ∧ s.TypeIs v T ∧ wpAny (model X.prog X.w) X.A (getItem v (.ref sl)) (EP X pins σ Q) X.xe s
noncomputable def SI (r : V → Option Int → Option Int → Hp → VK → Prop) (te : TE) (tl th : TO) : TE := fun σ H Q => te σ H fun x H1 => tl σ H1 fun l H2 => th σ H2 fun u H3 => r x l u H3 Q
theorem Fx {r : V → Option Int → Option Int → Hp → VK → Prop} (hr : Oh X r) (he : PE X e te) (hl : PO X lo tl) (hu : PO X hi th) : PE X (.Subscript e (.Slice lo hi none p2) pos) (SI r te tl th) := by
  intro pins s σ H Q I h
  refine Subscript_ (j4 (he pins s σ H _ I h) fun v s1 ⟨x, H1, I1, r1, q1⟩ => ?_)
  refine wpAny_Slice (j4 (hl pins s1 σ H1 _ I1 q1) fun vl s2 ⟨l, H2, I2, pl, q2⟩ => j4 (hu pins s2 σ H2 _ I2 q2) fun vu s3 ⟨u, H3, I3, pu, q3⟩ => ?_)
  rw [evalPart_none]
  refine wpAny_pure ?_
  have I4 : Inv X pins σ H3 { s3 with heap := s3.heap.push { cls := .type "slice", data := .fields #[vl, vu, .none] } } := I3.kept (t' := s3.toks) fun b ob q => Heap.get?_push_of_some _ q
  obtain ⟨T, id, hT, ht, hg⟩ := hr pins { s3 with heap := s3.heap.push { cls := .type "slice", data := .fields #[vl, vu, .none] } } σ H3 x v vl vu l u s3.heap.objs.size Q I4 r1 (Heap.IsSliceOf.new ..) pl pu q3
  show wpAny (model X.prog X.w) X.A (subscriptTail e (.Slice lo hi none p2) v (.ref s3.heap.objs.size)) (EP X pins σ Q) X.xe { s3 with heap := s3.heap.push { cls := .type "slice", data := .fields #[vl, vu, .none] } }
  exact tail_any (ops := [.ref s3.heap.objs.size, v]) ht hT hg (by with_unfolding_all rfl)
noncomputable def Bf (xs : List V) (lo hi : Option Int) : List V := (xs.drop (HT.jL xs.length 0 lo)).take (HT.jL xs.length xs.length hi - HT.jL xs.length 0 lo)
theorem vN (xs : List V) (lo hi : Option Int) : (Bf xs lo hi).length ≤ xs.length := by
  unfold Bf
  rw [List.length_take, List.length_drop]
  omega
noncomputable def O5 (K : PySem.W.Frag) : V → Option Int → Option Int → Hp → VK → Prop := fun x lo hi H Q => ∃ a xs, x = .ref a ∧ sZ K H a xs ∧
  ¬ (HT.jL xs.length 0 lo = 0 ∧ HT.jL xs.length xs.length hi = xs.length) ∧ ∀ p, H p = none → Q (.ref p) (upd H p (.tup (Bf xs lo hi)))
theorem Kr : Oh X (O5 X.K) := by
  intro pins s σ H x v vl vu lo hi sl Q I rx hs pl pu h
  obtain ⟨a, xs, rfl, hx, hw, q⟩ := h
  cases rx
  obtain ⟨its, r, ht, hz⟩ := I.tuple hx
  have hlen : its.toArray.size = xs.length := by rw [List.size_toArray]; exact r.length.symm
  refine ⟨"tuple", _, PyProof.Rows.slot_tuple_getitem.lookup, ht.typeIs, ?_⟩
  refine HT.tX ht hs pl pu (by rw [hlen]; exact hw) ?_ (by rw [hlen]; exact hz)
  rw [hlen]
  refine ⟨.ref s.heap.objs.size, _, I.laid (t' := s.toks) (o := .tup (Bf xs lo hi)) (fun b ob q => Heap.get?_push_of_some _ q) (Nat.le_refl _) ?_, rfl, q _ (I.hok.fresh (Nat.le_refl _))⟩
  exact ⟨Nat.le_trans (vN xs lo hi) hz, _, (r.drop (HT.jL xs.length 0 lo)).take (HT.jL xs.length xs.length hi - HT.jL xs.length 0 lo), IsTup.new _ _⟩
noncomputable def Mw (K : PySem.W.Frag) : R2 := fun x y H Q => ∃ a b xs ys, x = .ref a ∧ y = .ref b ∧ sZ K H a xs ∧ sZ K H b ys ∧ xs ≠ [] ∧ xs.length + ys.length ≤ sizeLine ∧
  (ys = [] → Q (.ref a) H) ∧ (ys ≠ [] → ∀ p, H p = none → Q (.ref p) (upd H p (.tup (xs ++ ys))))
theorem Vals.zU {xs : List V} {us : List Value} (r : Vals xs us) : us = [] ↔ xs = [] := by
  cases r with
  | nil => simp
  | cons _ _ => simp
theorem HM : sj X (binaryOp .Add) (Mw X.K) := by
  intro pins s σ H x y v u Q I rx ry h
  obtain ⟨a, b, xs, ys, rfl, rfl, ha, hb, hx, hz, q1, q2⟩ := h
  cases rx
  cases ry
  obtain ⟨its, r1, p1, _⟩ := I.tuple ha
  obtain ⟨its2, r2, p2, _⟩ := I.tuple hb
  refine HT.HG p1 p2 (fun z => hx (r1.zU.mp z)) (fun z => ⟨.ref a, H, I, rfl, q1 (r2.zU.mp z)⟩) (fun z => ?_) (by rw [← r1.length, ← r2.length]; exact hz)
  refine ⟨.ref s.heap.objs.size, _, I.laid (t' := s.toks) (o := .tup (xs ++ ys)) (fun b ob q => Heap.get?_push_of_some _ q) (Nat.le_refl _) ?_, rfl, q2 (fun w => z (r2.zU.mpr w)) _ (I.hok.fresh (Nat.le_refl _))⟩
  exact ⟨by rw [List.length_append]; exact hz, _, r1.append r2, IsTup.new _ _⟩
end
end L2
namespace L2
open PySem PySem.Spec PyProof.Rows
noncomputable def HN (n : Nat) (i : Int) : Option Nat := if 0 ≤ i then (if i < n then some i.toNat else none) else if -(n : Int) ≤ i then some (i + n).toNat else none
noncomputable def tS {α : Type} (xs : List α) (i : Int) : Option α := (HN xs.length i).bind fun j => xs[j]?
theorem HP {n : Nat} {i : Int} {j : Nat} (h : HN n i = some j) : seqIndex? i n = some j ∧ j < n ∧ -(n : Int) ≤ i ∧ i < n := by
  unfold HN at h
  by_cases h0 : 0 ≤ i
  · rw [if_pos h0] at h
    by_cases h1 : i < n
    · rw [if_pos h1] at h
      have e : i.toNat = j := Option.some.inj h
      exact ⟨by rw [seqIndex_of h0 h1, e], by omega, by omega, h1⟩
    · rw [if_neg h1] at h; cases h
  · rw [if_neg h0] at h
    by_cases h1 : -(n : Int) ≤ i
    · rw [if_pos h1] at h
      have e : (i + n).toNat = j := Option.some.inj h
      exact ⟨by rw [seqIndex_neg (by omega) h1, e], by omega, h1, by omega⟩
    · rw [if_neg h1] at h; cases h
theorem zV {α : Type} {xs : List α} {i : Int} {v : α} (h : tS xs i = some v) : ∃ j, seqIndex? i xs.length = some j ∧ xs[j]? = some v ∧ j < xs.length ∧ -(xs.length : Int) ≤ i ∧ i < xs.length := by
  unfold tS at h
  cases e : HN xs.length i with
  | none => rw [e] at h; cases h
  | some j =>
    rw [e] at h
    obtain ⟨h1, h2, h3, h4⟩ := HP e
    exact ⟨j, h1, h, h2, h3, h4⟩
theorem lW {α : Type} {xs : List α} {j : Nat} {v : α} (h : xs[j]? = some v) : tS xs (j : Int) = some v := by
  have hj : j < xs.length := (List.getElem?_eq_some_iff.mp h).1
  have e : HN xs.length (j : Int) = some j := by
    unfold HN
    rw [if_pos (by omega), if_pos (by omega)]; simp
  unfold tS; rw [e]; exact h
noncomputable def wH (b : Expr) : Prop := ∀ o i, subscripted b false o i = operate [o, i] (getItem o i)
noncomputable def LU (X : Cx) (r : R2) : Prop :=
  ∀ (value slice : Expr) (pins : List (Addr × Obj)) (s : Shared) (σ : St) (H : Hp) (x y : V) (v u : Value) (Q : VK), Inv X pins σ H s → RelV x v → RelV y u → r x y H Q →
    subscripted slice false v u = operate [v, u] (getItem v u) → wpAny (model X.prog X.w) X.A (subscriptTail value slice v u) (EP X pins σ Q) X.xe s
noncomputable def Jq (X : Cx) (id : String) (r : V → List V → Hp → VK → Prop) : Prop :=
  ∀ (pins : List (Addr × Obj)) (s : Shared) (σ : St) (H : Hp) (x : V) (xs : List V) (v : Value) (us : List Value) (Q : VK), Inv X pins σ H s → RelV x v → Vals xs us → r x xs H Q →
    wpAny (model X.prog X.w) X.A (call (.builtin id) (v :: us)) (EP X pins σ Q) X.xe s
section
variable {X : Cx} {a b : Expr} {ta tb : TE} {pos : Pos}
theorem Mx {r : R2} (hr : LU X r) (ha : PE X a ta) (hb : PE X b tb) (hs : wH b) : PE X (.Subscript a b pos) (Mi r ta tb) := by
  intro pins s σ H Q I h
  exact Subscript_ (J5 ha hb I h fun v u s2 x y H2 I2 rx ry q => hr a b pins s2 σ H2 x y v u Q I2 rx ry q (hs _ _))
noncomputable def O6 (K : PySem.W.Frag) : R2 := fun x y H Q => ∃ p xs i v, x = .ref p ∧ y = .int i ∧ sf K H p xs ∧ tS xs i = some v ∧ Q v H
noncomputable def O7 (K : PySem.W.Frag) : R2 := fun x y H Q => ∃ p xs i v, x = .ref p ∧ y = .int i ∧ sZ K H p xs ∧ tS xs i = some v ∧ Q v H
noncomputable def O8 : R2 := fun x y H Q => ∃ z i c, x = .str z ∧ y = .int i ∧ z.length ≤ sizeLine ∧ tS z.cps.toList i = some c ∧ Q (.str ⟨#[c]⟩) H
theorem HQ : LU X (O6 X.K) := by
  intro value slice pins s σ H x y v u Q I rx ry h hs
  obtain ⟨p, xs, i, z, rfl, rfl, hq, he, q⟩ := h
  cases rx
  obtain ⟨t, rfl⟩ := ry
  obtain ⟨its, r, pl, hz⟩ := I.list hq
  obtain ⟨j, h1, h2, h3, h4, h5⟩ := zV he
  obtain ⟨w, ew, rw'⟩ := r.get h2
  have hl := r.length
  have hn := u6
  have fin : EP X pins σ Q w s := ⟨z, H, I, rw', q⟩
  by_cases h0 : 0 ≤ i
  · have hj : i.toNat = j := by
      rw [seqIndex_of h0 h5] at h1
      exact Option.some.inj h1
    exact item_listR pl.isList h0 (by omega) (by rw [hj]; simpa using ew) fin hs
  · have hj : (i + (its.toArray.size : Int)).toNat = j := by
      rw [seqIndex_neg (by omega) h4] at h1
      rw [List.size_toArray, ← hl]
      exact Option.some.inj h1
    exact subscriptTail_builtinR (x := w) pl.isList.typeIs slot_list_getitem.lookup
      (wpAny_getItem_list_neg (Q := fun r s' => r = w ∧ EP X pins σ Q r s') pl.isList (by omega) (by rw [List.size_toArray] <;> omega) (by omega) (by rw [hj]; simpa using ew) ⟨rfl, fin⟩) hs
theorem Ks : LU X (O7 X.K) := by
  intro value slice pins s σ H x y v u Q I rx ry h hs
  obtain ⟨p, xs, i, z, rfl, rfl, hq, he, q⟩ := h
  cases rx
  obtain ⟨t, rfl⟩ := ry
  obtain ⟨its, r, pl, hz⟩ := I.tuple hq
  obtain ⟨j, h1, h2, h3, h4, h5⟩ := zV he
  obtain ⟨w, ew, rw'⟩ := r.get h2
  have hl := r.length
  have hn := u6
  have fin : EP X pins σ Q w s := ⟨z, H, I, rw', q⟩
  exact subscriptTail_builtinR (x := w) pl.typeIs slot_tuple_getitem.lookup
    (getItem_tuple (j := j) (Q := fun r s' => r = w ∧ EP X pins σ Q r s') pl (by omega) (by omega) (by rw [List.size_toArray, ← hl]; exact h1) (by simpa using ew) ⟨rfl, fin⟩) hs
theorem Ku : LU X O8 := by
  intro value slice pins s σ H x y v u Q I rx ry h hs
  obtain ⟨z, i, c, rfl, rfl, hz, he, q⟩ := h
  obtain ⟨t, rfl⟩ := rx
  obtain ⟨t', rfl⟩ := ry
  obtain ⟨j, h1, h2, h3, h4, h5⟩ := zV he
  have hl : z.cps.toList.length = z.length := by simp [Str.length]
  rw [hl] at h1 h4 h5
  have hn := u6
  exact tail_any (typeIs_str s z t) slot_str_getitem.lookup (getItem_str (c := c) (by
    have e1 : decide (i < -(2 ^ 63 : Int)) = false := decide_eq_false (by omega)
    have e2 : decide (i ≥ 2 ^ 63) = false := decide_eq_false (by omega)
    rw [e1, e2, Bool.or_false]) (by rw [h1]; simpa using h2) ⟨.str ⟨#[c]⟩, H, I.tok _, ⟨_, rfl⟩, q⟩) hs
theorem zW (lo hi : Option Int) (n : Nat) : (sliceBounds lo hi none n).1 = ((HT.jL n 0 lo : Nat) : Int) ∧ (sliceBounds lo hi none n).2.1 = ((HT.jL n n hi : Nat) : Int) ∧ (sliceBounds lo hi none n).2.2 = 1 := by
  refine ⟨?_, ?_, rfl⟩
  · cases lo with
    | none => simp [sliceBounds, HT.jL]
    | some i =>
      simp only [sliceBounds, HT.jL, Option.getD_none, show (1 : Int) > 0 by decide, if_true]
      by_cases h : i < 0
      · simp only [h, if_true] <;> omega
      · simp only [h, if_false] <;> omega
  · cases hi with
    | none => simp [sliceBounds, HT.jL]
    | some i =>
      simp only [sliceBounds, HT.jL, Option.getD_none, show (1 : Int) > 0 by decide, if_true]
      by_cases h : i < 0
      · simp only [h, if_true] <;> omega
      · simp only [h, if_false] <;> omega
theorem ym (its : List Value) (lo hi : Option Int) : slicePick its.toArray lo hi none = ((its.drop (HT.jL its.length 0 lo)).take (HT.jL its.length its.length hi - HT.jL its.length 0 lo)).toArray := by
  obtain ⟨h1, h2, h3⟩ := zW lo hi its.toArray.size
  unfold slicePick
  rw [h1, h2, h3]
  simp only [sliceRange_one, pick_run, List.size_toArray] <;> rfl
noncomputable def O9 (K : PySem.W.Frag) : V → Option Int → Option Int → Hp → VK → Prop := fun x lo hi H Q => ∃ a xs, x = .ref a ∧ sf K H a xs ∧ ∀ p, H p = none → Q (.ref p) (upd H p (.lst (Bf xs lo hi)))
theorem HR : Oh X (O9 X.K) := by
  intro pins s σ H x v vl vu lo hi sl Q I rx hs pl pu h
  obtain ⟨a, xs, rfl, hx, q⟩ := h
  cases rx
  obtain ⟨its, r, ht, hz⟩ := I.list hx
  have hlen := r.length
  refine ⟨"list", _, slot_list_getitem.lookup, ht.isList.typeIs, ?_⟩
  refine wpAny_getItem_list_slice ht.isList hs pl pu .none (by simp) ?_ (by rw [List.size_toArray] <;> omega)
  rw [ym, ← hlen]
  refine ⟨.ref s.heap.objs.size, _, I.laid (t' := s.toks) (o := .lst (Bf xs lo hi)) (fun b ob q => Heap.get?_push_of_some _ q) (Nat.le_refl _) ?_, rfl, q _ (I.hok.fresh (Nat.le_refl _))⟩
  exact ⟨Nat.le_trans (vN xs lo hi) hz, _, 0, (r.drop (HT.jL xs.length 0 lo)).take (HT.jL xs.length xs.length hi - HT.jL xs.length 0 lo), Heap.get?_push_size _ rfl⟩
theorem tY : oO X (.builtin "len") (fun xs H Q => ∃ p ys, xs = [.ref p] ∧ (sf X.K H p ys ∨ sZ X.K H p ys) ∧ Q (.int ys.length) H) := by
  intro pins s σ H xs us Q I r h
  obtain ⟨p, ys, rfl, hq, q⟩ := h
  obtain ⟨u, rfl, rx⟩ := vals1 r
  cases rx
  have hn := u6
  rcases hq with hq | hq
  · obtain ⟨its, r', pl, hz⟩ := I.list hq
    have hlen := r'.length
    exact Calls.call_len_list pl.isList (by simp only [List.size_toArray] <;> omega) ⟨.int ys.length, H, I.tok _, ⟨s.toks + 1, by rw [List.size_toArray, hlen]⟩, q⟩
  · obtain ⟨its, r', pl, hz⟩ := I.tuple hq
    have hlen := r'.length
    exact len_tuple pl (by simp only [List.size_toArray] <;> omega) ⟨.int ys.length, H, I.tok _, ⟨s.toks + 1, by rw [List.size_toArray, hlen]⟩, q⟩
theorem zX : oO X (.builtin "len") (fun xs H Q => ∃ z, xs = [.str z] ∧ z.length ≤ sizeLine ∧ Q (.int z.length) H) := by
  intro pins s σ H xs us Q I r h
  obtain ⟨z, rfl, hz, q⟩ := h
  obtain ⟨u, rfl, t, rfl⟩ := vals1 r
  have hn := u6
  exact len_str (by omega) ⟨.int z.length, H, I.tok _, ⟨_, rfl⟩, q⟩
noncomputable def Oi (K : PySem.W.Frag) (T : String) (x : V) (H : Hp) : Prop := match x with
  | .str _ => T = "str"
  | .int _ => T = "int"
  | .ref p => (T = "list" ∧ ∃ xs, sf K H p xs) ∨ (T = "tuple" ∧ ∃ o, K.lookup p = some o ∧ o.cls = .type "tuple" ∧ o.dict = none) ∨
      (T = "dict" ∧ ((∃ kvs, H p = some (.dK kvs)) ∨ ∃ kvs, H p = some (.dT kvs))) ∨ (T = "set" ∧ ∃ S n, H p = some (.set S n))
  | _ => False
theorem Fy {pins : List (Addr × Obj)} {σ : St} {H : Hp} {s : Shared} {T : String} {x : V} {v : Value} (I : Inv X pins σ H s) (r : RelV x v) (ty : Oi X.K T x H) :
    s.TypeIs v T ∧ ∀ a, v = .ref a → ∃ ob, s.heap.get? a = some ob ∧ ob.dict = none := by
  cases x with
  | str z =>
    obtain ⟨t, rfl⟩ := r
    cases (show T = "str" from ty)
    exact ⟨typeIs_str s z t, fun _ e => nomatch e⟩
  | int i =>
    obtain ⟨t, rfl⟩ := r
    cases (show T = "int" from ty)
    exact ⟨typeIs_int s i t, fun _ e => nomatch e⟩
  | ref p =>
    cases r
    rcases ty with ⟨rfl, xs, hq⟩ | ⟨rfl, o, hk, hc, hd⟩ | ⟨rfl, hk⟩ | ⟨rfl, S, n, hk⟩
    · obtain ⟨its, _, pl, _⟩ := I.list hq
      refine ⟨pl.isList.typeIs, fun a e => ?_⟩
      cases e
      obtain ⟨o, n, e, c, hd, _⟩ := pl
      exact ⟨o, e, hd⟩
    · refine ⟨⟨o, I.Dt p o hk, hc⟩, fun a e => ?_⟩
      cases e
      exact ⟨o, I.Dt _ o hk, hd⟩
    · have z : ∃ o, s.heap.get? p = some o ∧ o.ExactDict := by
        rcases hk with ⟨kvs, hk⟩ | ⟨kvs, hk⟩
        · obtain ⟨_, _, _, _, o, _, _, e, ex, _⟩ := I.hok p _ hk
          exact ⟨o, e, ex⟩
        · obtain ⟨_, _, _, _, o, _, _, e, ex, _⟩ := I.hok p _ hk
          exact ⟨o, e, ex⟩
      obtain ⟨o, e, ex⟩ := z
      refine ⟨⟨o, e, ex.1⟩, fun a e2 => ?_⟩
      cases e2
      exact ⟨o, e, ex.2.1⟩
    · obtain ⟨o, _, _, _, e, ex, _⟩ := I.hok p _ hk
      refine ⟨⟨o, e, ex.1⟩, fun a e2 => ?_⟩
      cases e2
      exact ⟨o, e, ex.2.1⟩
  | _ => exact False.elim ty
noncomputable def Pa (K : PySem.W.Frag) (T : String) (r : V → List V → Hp → VK → Prop) (to : TE) : TE := fun σ H Q => to σ H fun x H1 => Oi K T x H1 ∧ r x [] H1 Q
noncomputable def SJ (K : PySem.W.Frag) (T : String) (r : V → List V → Hp → VK → Prop) (to : TE) (t : TA) : TE := fun σ H Q => to σ H fun x H1 => Oi K T x H1 ∧ t σ H1 fun xs H2 => r x xs H2 Q
variable {o e : Expr} {es : List Expr} {to : TE} {t : TA} {name : Str} {apos cpos : Pos} {T id : String} {r : V → List V → Hp → VK → Prop}
theorem Kv (pa : PlainAttrs T) (slot : Slot T name id) (hty : typeOf (.builtin id) = pure (.type "method_descriptor")) (hm : Jq X id r) (ho : PE X o to)
    (hbase : attributeBase o name X.env (eval o X.env) = eval o X.env := by rfl) (hline : (apos.endLine == cpos.line) = true := by rfl) : PE X (.Call (.Attribute o name apos) [] [] cpos) (Pa X.K T r to) := by
  intro pins s σ H Q I h
  refine wpAny_Call_method0_late hbase hline (j4 (ho pins s σ H _ I h) fun v s1 ⟨x, H1, I1, r1, ty, q1⟩ => ?_)
  obtain ⟨h1, h2⟩ := Fy I1 r1 ty
  exact ⟨T, id, pa, slot, hty, h1, h2, Calls.callWith_builtin rfl (PySem.evalArgs_none (hm pins s1 σ H1 x [] v [] Q I1 r1 .nil q1))⟩
theorem My (pa : PlainAttrs T) (slot : Slot T name id) (hty : typeOf (.builtin id) = pure (.type "method_descriptor")) (hm : Jq X id r) (ho : PE X o to) (ha : PA X (e :: es) t)
    (hbase : attributeBase o name X.env (eval o X.env) = eval o X.env := by rfl)
    (hfew : ((backTo cpos (starEach (e :: es) X.env)).all (fun x => !x.1) && (backToKw cpos (keywordEach [] X.env)).all (fun x => x.1.isSome)
      && decide ((e :: es).length + ([] : List Keyword).length + (if ([] : List Keyword).isEmpty then 0 else 1) < 30)) = true := by rfl)
    (hline : (apos.endLine == cpos.line) = true := by rfl) (hs : starEach (e :: es) X.env = (false, eval e X.env) :: starEach es X.env := by rfl) (hplain : (backTo cpos (starEach es X.env)).any (·.1) = false := by rfl) :
    PE X (.Call (.Attribute o name apos) (e :: es) [] cpos) (SJ X.K T r to t) := by
  intro pins s σ H Q I h
  refine wpAny_Call_method_late hbase hfew hline rfl (j4 (ho pins s σ H _ I h) fun v s1 ⟨x, H1, I1, r1, ty, q1⟩ => ?_)
  obtain ⟨h1, h2⟩ := Fy I1 r1 ty
  refine ⟨T, id, pa, slot, hty, h1, h2, ?_⟩
  have hA := ha cpos pins s1 σ H1 _ I1 q1
  rw [hs] at hA ⊢
  refine Calls.callWith_builtin (by show (false || (backTo cpos (starEach es X.env)).any (·.1)) = false; rw [hplain] <;> rfl) (Calls.evalArgs_plain ?_)
  exact j4 hA fun us s2 ⟨vs, H2, I2, r2, q2⟩ => hm pins s2 σ H2 x vs v us Q I2 r1 r2 q2
end
end L2
namespace L2
open PySem PySem.Spec PyProof.Rows
noncomputable def Q6 (X : Cx) (id : String) (r : V → List V → Hp → VK → Prop) : Prop :=
  ∀ (pins : List (Addr × Obj)) (s : Shared) (σ : St) (H : Hp) (x : V) (xs : List V) (v : Value) (us : List Value) (Q : VK), Inv X pins σ H s → RelV x v → Vals xs us → r x xs H Q →
    wpAny (model X.prog X.w) X.A (call (.builtin id) (v :: us)) (EP X pins σ Q) X.xe s
theorem Vals.one : ∀ {x : V} {us : List Value}, Vals [x] us → ∃ u, us = [u] ∧ RelV x u
  | _, _, .cons r .nil => ⟨_, rfl, r⟩
theorem Vals.zero : ∀ {us : List Value}, Vals [] us → us = []
  | _, .nil => rfl
theorem Vals.dropLast {xs : List V} {us : List Value} (h : Vals xs us) : Vals xs.dropLast us.dropLast := by
  induction h with
  | nil => exact .nil
  | cons r t ih =>
    cases t with
    | nil => exact .nil
    | cons q t' => exact .cons r ih
theorem Vals.eraseIdx : ∀ {xs : List V} {us : List Value} (i : Nat), Vals xs us → Vals (xs.eraseIdx i) (us.eraseIdx i)
  | _, _, _, .nil => .nil
  | _, _, 0, .cons _ t => t
  | _, _, i + 1, .cons r t => .cons r (Vals.eraseIdx i t)
theorem Vals.reverse {xs : List V} {us : List Value} (h : Vals xs us) : Vals xs.reverse us.reverse := by
  induction h with
  | nil => exact .nil
  | cons r t ih => rw [List.reverse_cons, List.reverse_cons]; exact Vals.append ih (.cons r .nil)
theorem CF {α : Type} (l : List α) : l.eraseIdx (l.length - 1) = l.dropLast := by
  induction l with
  | nil => rfl
  | cons a r ih =>
    cases r with
    | nil => rfl
    | cons b r =>
      have e : (a :: b :: r).length - 1 = ((b :: r).length - 1) + 1 := by
        have h1 : (a :: b :: r).length = r.length + 2 := rfl
        have h2 : (b :: r).length = r.length + 1 := rfl
        omega
      rw [e, List.eraseIdx_cons_succ, ih]
      all_goals rfl
section
variable {X : Cx} {pins : List (Addr × Obj)} {σ : St} {H : Hp} {s : Shared} {l b : Addr} {xs ys zs : List V}
theorem Inv.Kw {its its' : List Value} {n : Nat} {f : Array Value → Array Value} {t' : Nat} (I : Inv X pins σ H s) (hH : H l = some (.lst xs))
    (e : s.heap.get? l = some { cls := .type "list", data := .seq its.toArray n }) (hf : f its.toArray = its'.toArray) (hv : Vals ys its') (hz : ys.length ≤ sizeLine) :
    Inv X pins σ (upd H l (.lst ys)) { s with heap := s.heap.update l (Obj.mapSeq f), toks := t' } := by
  have q := PySem.IsL.update e f
  rw [hf] at q
  refine I.write (x := l) (e := l) (by rw [hH]; exact trivial) (.inl rfl) (fun b' u hb hu => (Heap.get?_update_other s.heap (Obj.mapSeq f) (Ne.symm hb)).trans hu) ⟨_, q⟩ ?_
  exact ⟨hz, its', _, hv, q⟩
theorem Inv.Pb {its : List Value} {t' : Nat} (I : Inv X pins σ H s) (hv : Vals ys its) (hz : ys.length ≤ sizeLine) :
    Inv X pins σ (upd H s.heap.objs.size (.lst ys)) { s with heap := s.heap.push { cls := .type "list", data := .seq its.toArray }, toks := t' } :=
  I.laid (fun _ _ q => Heap.get?_push_of_some _ q) (Nat.le_refl _) ⟨hz, its, 0, hv, Heap.get?_push_size _ rfl⟩
theorem Inv.fresh (I : Inv X pins σ H s) : H s.heap.objs.size = none := I.hok.fresh (Nat.le_refl _)
theorem Inv.Ky (I : Inv X pins σ H s) (hH : H l = some (.lst xs)) : xs.length ≤ sizeLine ∧ ∃ (its : List Value) (n : Nat), Vals xs its ∧ xs.length = its.length ∧ s.heap.get? l = some { cls := .type "list", data := .seq its.toArray n } := by
  obtain ⟨z, its, n, r, e⟩ := I.hok l _ hH
  exact ⟨z, its, n, r, r.length, e⟩
theorem Fz {n : Nat} (h : n ≤ sizeLine) : Builtin.List.listTooLong n = false := by
  unfold Builtin.List.listTooLong
  exact decide_eq_false (by omega)
end
section
variable {X : Cx}
noncomputable def HS : V → List V → Hp → VK → Prop := fun x vs H Q => ∃ l xs y, x = .ref l ∧ vs = [y] ∧ H l = some (.lst xs) ∧ xs.length < sizeLine ∧ Q .lG (upd H l (.lst (xs ++ [y])))
theorem yZ : Q6 X "list.append" HS := by
  intro pins s σ H x vs v us Q I rx rv h
  obtain ⟨l, xs, y, rfl, rfl, hH, hz, q⟩ := h
  cases rx
  obtain ⟨u, rfl, ru⟩ := rv.one
  obtain ⟨z, its, n, r, hl, e⟩ := I.Ky hH
  refine call_meets F.slot_list_append ⟨_, e, rfl⟩ F.entry_list_append (F.args_list_append_2 _ _) (PySem.list_append l its.toArray n u (by rw [List.size_toArray]; omega)) ⟨e, ?_⟩
  refine ⟨.lG, _, I.Kw (its' := its ++ [u]) hH e (by simp) (r.append (.cons ru .nil)) ?_, rfl, q⟩
  rw [List.length_append, List.length_singleton]
  omega
noncomputable def Pc : V → List V → Hp → VK → Prop := fun x vs H Q => ∃ l xs y, x = .ref l ∧ vs = [] ∧ H l = some (.lst xs) ∧ xs[xs.length - 1]? = some y ∧ Q y (upd H l (.lst xs.dropLast))
theorem Kz : Q6 X "list.pop" Pc := by
  intro pins s σ H x vs v us Q I rx rv h
  obtain ⟨l, xs, y, rfl, rfl, hH, hy, q⟩ := h
  cases rx
  have zY := rv.zero
  subst zY
  obtain ⟨z, its, n, r, hl, e⟩ := I.Ky hH
  obtain ⟨u, hu, ru⟩ := r.get hy
  have hy' : its.toArray[its.toArray.size - 1]? = some u := by
    show its.toArray[its.length - 1]? = some u
    rw [← Array.getElem?_toList, ← hl]
    exact hu
  refine call_meets F.slot_list_pop ⟨_, e, rfl⟩ F.entry_list_pop (F.args_list_pop_1 _) (MeetsSeq.list_pop_last l its.toArray n u hy' (by rw [List.size_toArray]; omega)) ⟨e, ?_⟩
  refine ⟨y, _, I.Kw (its' := its.dropLast) hH e ?_ r.dropLast ?_, ru, q⟩
  · show its.toArray.eraseIdxIfInBounds (its.toArray.size - 1) = its.dropLast.toArray
    rw [List.size_toArray, List.eraseIdxIfInBounds_toArray, CF]
  · rw [List.length_dropLast]
    omega
end
section
variable {prog : Program} {w : World} {A : Around} {E : Value → Shared → Prop} {s : Shared}
end
section
variable {X : Cx}
end
end L2
namespace Q7
open PySem PySem.W PySem.Calls PyProof.Rows
theorem we {P : Params} {h : Heap} : ∀ (ns : List Int) (vs : List Value), WellAll P h vs (ns.map WData.int) → IntsAre vs ns := by
  intro ns
  induction ns with
  | nil =>
    intro vs w
    rw [List.map_nil] at w
    cases w
    exact .nil
  | cons n ns ih =>
    intro vs w
    rw [List.map_cons] at w
    cases w with
    | cons a b =>
      cases a
      exact .cons _ _ (ih _ b)
theorem Eo {l : OpenLaw} {n : Nat} (hn : l.most = some n) {P : Params} {h : Heap} {args : List WData} {vals : List Value}
    (hpre : l.row.toRowW.claim.pre args = true) (hwl : WellAll P h vals args) :
    ∃ a vs ns, vals = [Value.ref a] ∧ args = [WData.list (ns.map WData.int)] ∧ h.get? a = some { cls := .type "list", data := .seq vs.toArray } ∧ IntsAre vs ns ∧ ns.length ≤ n := by
  have hsh : WShape.hasAll [] args [.list .int] = true := (pre_splitW hpre).1
  have hc : l.pre.holds [] { args := args } = true := (pre_splitW hpre).2
  obtain ⟨d, r, rfl, h1, h2⟩ := hasAllW_cons hsh
  obtain rfl := hasAllW_nil h2
  obtain ⟨xs, rfl, h3⟩ := hasW_list h1
  obtain ⟨ns, rfl⟩ := items_int h3
  have hlen : ns.length ≤ n := by
    unfold OpenLaw.pre at hc
    have h4 : (WTm.not (.lt (.lit (.int (n : Int))) (.len (.arg 0)))).holds [] { args := [.list (ns.map .int)] } = true := by
      have h4 := (holds_andW hc).1
      rw [hn] at h4
      exact h4
    have h5 := condW_of h4 (w_not (w_lt w_lit (w_len_list (w_arg rfl))))
    rw [List.length_map] at h5
    refine Nat.le_of_not_lt fun q => ?_
    have q' : (n : Int) < ((ns.length : Nat) : Int) := by omega
    first
      | (rw [decide_eq_true q'] at h5; exact absurd h5 (by decide))
      | (simp at h5; omega)
  cases hwl with
  | cons w1 w2 =>
    cases w2
    cases w1 with
    | list ho hall => exact ⟨_, _, ns, rfl, rfl, ho, we ns _ hall, hlen⟩
theorem Ep (l : OpenLaw) (args : List WData) : l.row.toRowW.claim.post args (.bool true) args = true :=
  postW_of (r := l.row.toRowW) (X := (true == true))
    (show WShape.has [] (.bool true) .bool = true by first | rfl | decide | simp [WShape.has, WShape.arms, WShape.armsAll])
    (show (WTm.eq .res (.lit (.bool true))).value [] { args := args, res := some (.bool true), after := args } = some (.bool (true == true)) from w_eq_bool (w_res rfl) w_lit) rfl
theorem Bg {l : OpenLaw} {n : Nat} {q : Program} {loose : List Str} {XP : (Str → Option Value) → Heap → Prop} {YP : World → Heap → Prop} {d : DefRec}
    (hn : l.most = some n) (hdf : d.params.defaults = [])
    (call : ∀ (w : World) (s₀ s₁ : Shared) (mg mb : Str → Option Value) (fa : Addr) (o : Obj) (pm cd doc : Value) (a : Addr) (vs : List Value) (ns : List Int),
      Ground q loose [] XP w s₀ mg mb s₁.heap → YP w s₁.heap →
      s₁.heap.get? fa = some o → o.data = .func (docDef d.name d.params d.body d.scope pm cd doc) → s₁.heap.CodeRec cd d.name → mg d.name = some (.ref fa) →
      s₁.heap.get? a = some { cls := .type "list", data := .seq vs.toArray } → IntsAre vs ns → ns.length ≤ n → s₁.gens = #[] →
      codeAny (model l.prog w) callerA (.call (.ref fa) ⟨[.ref a], []⟩) (fun r s' => r = .ok (.ret (.bool true)) ∧ OldK s₁.heap s'.heap ∧ s'.os = s₁.os ∧ AllBare s'.gens) s₁) :
    WalkO q loose XP YP l.row.toRowW d [] (fun f vs => PySem.call f vs) := by
  intro w s₀ s₁ mg mb G Y fa o pm cd doc dV kV ho hd hcd hD hmg hg args vals as hpre hlay hrd hwl hlo
  obtain rfl : dV = .none := Dflts.none hD hdf
  obtain rfl : kV = .none := Dflts.noKw hD
  obtain ⟨a, vs, ns, rfl, rfl, hobj, hints, hlen⟩ := Eo hn hpre hwl
  refine enter_call (codeAny_mono (call w s₀ s₁ mg mb fa o pm cd doc a vs ns G Y ho (fd_plain hd) hcd hmg hobj hints hlen hg) fun r s' hq => ?_)
  obtain ⟨rfl, h2, h3, h4⟩ := hq
  exact ⟨.inl ⟨.bool true, .bool true, [], rfl, fun _ => rfl, .bool true, Ep l _, fun _ => ⟨List.Pairwise.nil, fun _ hm => (nomatch hm)⟩⟩, h2, h3, h4⟩
section
variable {prog : Program} {w : World} {A : Around} {E : Value → Shared → Prop} {s : Shared} {K : Frag}
end
end Q7
namespace L2
open PySem PySem.Spec PyProof.Rows
theorem y9 : ∀ {vs : List Value} {ns : List Int}, IntsAre vs ns → Vals (ns.map V.int) vs
  | _, _, .nil => .nil
  | _, _, .cons n t h => .cons ⟨t, rfl⟩ (y9 h)
noncomputable def HU (H : Hp) : Prop := ∀ b, H b = none ∨ ∃ o xs, H b = some (.qE o (.lst xs))
theorem FA {P : Program} {w : World} {K : PySem.W.Frag} {mg mb : Str → Option Value} {CX : Bd} {k : Nat} {fa a : Addr} {fd : FuncData} {x : Str} {sp : Sp} {s₁ : Shared} {vs : List Value} {ns : List Int}
    (KX : K.In s₁.heap) (hns : s₁.heap.Ns mainGlobals mg) (hb : s₁.heap.Ns builtinsNs mb) (Oj : ∀ x : Str, x ≠ "__name__" → mb x = bootBuiltins x) (hlim : s₁.heap.NoLimit) (hg : s₁.gens = #[])
    (ha : s₁.heap.get? a = some { cls := .type "list", data := .seq vs.toArray }) (hi : IntsAre vs ns) (hl : ns.length ≤ sizeLine) (hr : mQ k callerA)
    (F : ∀ base : Heap, K.In base → base.Ns mainGlobals mg → cY P w K mg base CX k fa fd [x] sp) (hbind : ∀ (s : Shared) (u : Value), BindsTo s fd ⟨[u], []⟩ [(x, u)])
    (LS : ∀ H : Hp, HU H → sf K H a (ns.map V.int) → sp [.ref a] H (fun v _ => v = .bl true) fun _ _ _ => False)
    (Pd : ∀ H e s', CX [] H s₁ (fun _ _ _ => False) e s' → False) :
    codeAny (model P w) callerA (.call (.ref fa) ⟨[.ref a], []⟩) (fun r s' => r = .ok (.ret (.bool true)) ∧ OldK s₁.heap s'.heap ∧ s'.os = s₁.os ∧ AllBare s'.gens) s₁ := by
  have rv := y9 hi
  have Pe := hi.length
  have core : ∀ H : Hp, HU H → sf K H a (ns.map V.int) → qQ P w H s₁.heap → (∀ b, H b ≠ none → b = a) → (H a ≠ none → K.lookup a = none) →
      codeAny (model P w) callerA (.call (.ref fa) ⟨[.ref a], []⟩) (fun r s' => r = .ok (.ret (.bool true)) ∧ OldK s₁.heap s'.heap ∧ s'.os = s₁.os ∧ AllBare s'.gens) s₁ := by
    intro H hO hS hok hA hK
    have pV : ∀ {b : Addr} {o : Obj}, s₁.heap.get? b = some o → H b = none → (zQ s₁.heap H).get? b = some o := fun e n => Ff e n
    have Mt : ∀ {b : Addr} {o : Obj} {es : Array DictEntry} {ep : Nat}, s₁.heap.get? b = some o → o.data = .dict es ep → H b = none := fun {b o es ep} e d => by
      cases q : H b with
      | none => rfl
      | some u =>
        have e' : b = a := hA b (by rw [q]; simp)
        subst e'
        rw [ha] at e; cases e
        have d' : Data.seq vs.toArray _ = Data.dict es ep := d
        cases d'
    have Ol : ∀ {b : Addr} {m : Str → Option Value}, s₁.heap.Ns b m → (zQ s₁.heap H).Ns b m := fun {b m} ⟨o, es, ep, e, d, r⟩ => ⟨o, es, ep, pV e (Mt e d), d, r⟩
    have Q8 : K.In (zQ s₁.heap H) := fun b o e => pV (KX b o e) (by
      cases q : H b with
      | none => rfl
      | some u =>
        have e' : b = a := hA b (by rw [q]; simp)
        subst e'
        rw [hK (by rw [q]; simp)] at e; cases e)
    have hM : Mod K mg (zQ s₁.heap H) := ⟨Q8, Ol hns, ⟨mb, Ol hb, Oj⟩, let ⟨mc, h1, h2⟩ := hlim; ⟨mc, Ol h1, h2⟩⟩
    have e0 : CB P w K mg (zQ s₁.heap H) callerA [] s₁ H := ⟨rfl, hM, fun b o e => Ht e, Nat.le_of_eq (Eg _ _), trivial, fun b hb => absurd (show b ∈ ([] : List Addr) from hb) (by simp), hok, .of_eq hg⟩
    refine codeAny_mono ((F _ Q8 (Ol hns)).run callerA [] s₁ H ⟨[.ref a], []⟩ [.ref a] [.ref a] _ _ hr e0 (hbind s₁ (.ref a)) (.cons rfl .nil) (LS H hO hS)) fun r s' h => ?_
    cases r with
    | error e => exact (Pd H e s' h).elim
    | ok fl =>
      cases fl with
      | next => exact False.elim h
      | brk => exact False.elim h
      | cont => exact False.elim h
      | ret u =>
        obtain ⟨v, H', os, bare, un, Pf, r', q⟩ := h
        have q' : v = .bl true := q
        subst q'
        obtain rfl : u = Value.bool true := r'
        refine ⟨rfl, OldK.of_keep fun b o e => ?_, os, bare⟩
        cases q : H b with
        | none => exact un.keep b o e q (by intro z; exact absurd (show b ∈ ([] : List Addr) from z) (by simp)) (by simp)
        | some u =>
          rcases hO b with z | ⟨ob, xs, z⟩
          · rw [q] at z; cases z
          · have z2 := un.sX b ob _ z
            obtain ⟨e1, _⟩ := hok b _ z
            obtain ⟨e2, _⟩ := Pf b _ z2
            rw [e] at e1; cases e1
            exact e2
  cases hk : K.lookup a with
  | some o =>
    have e := KX a o hk
    rw [ha] at e
    cases e
    refine core (fun _ => none) (fun _ => .inl rfl) (.inr ⟨_, vs.toArray, _, hk, rfl, rfl, rfl, by rw [List.size_toArray, Pe]; exact hl, by simpa using rv⟩) (fun b u z => by have z' : (none : Option HO) = some u := z; cases z') (fun b z => absurd rfl z) fun z => absurd rfl z
  | none =>
    refine core (fun b => if b = a then some (.qE { cls := .type "list", data := .seq vs.toArray } (.lst (ns.map V.int))) else none) (fun b => ?_) (.inl (.inr ⟨{ cls := .type "list", data := .seq vs.toArray }, if_pos rfl⟩)) (fun b u z => ?_) (fun b z => ?_) fun _ => hk
    · by_cases hb : b = a
      · exact .inr ⟨_, _, if_pos hb⟩
      · exact .inl (if_neg hb)
    · by_cases hb : b = a
      · have z' := (if_pos hb).symm.trans z
        cases z'
        subst hb
        exact ⟨ha, by rw [List.length_map]; exact hl, vs, _, rv, ha⟩
      · have z' := (if_neg hb).symm.trans z
        cases z'
    · by_cases hb : b = a
      · exact hb
      · exact absurd (if_neg hb) z
end L2
namespace L2
open PySem PySem.Spec PyProof.Rows
noncomputable abbrev KOf {K : PySem.W.Frag} {h : Heap} (_ : K.In h) : PySem.W.Frag := K
theorem HV {l : PySem.W.OpenLaw} {n k : Nat} {q : Program} {loose : List Str} {XP : (Str → Option Value) → Heap → Prop} {YP : World → Heap → Prop} {d : DefRec} {K : Params → PySem.W.Frag} {CX : World → Bd} {sp : World → Sp} {x : Str}
    (hn : l.most = some n) (hn2 : n ≤ sizeLine) (hdf : d.params.defaults = []) (hr : mQ k callerA)
    (hY : ∀ (w : World) (h : Heap), YP w h → (K w.params).In h)
    (F : ∀ (w : World) (mg : Str → Option Value) (fa : Addr) (h : Heap), (K w.params).In h → h.Ns mainGlobals mg → mg d.name = some (.ref fa) →
      ∃ fd : FuncData, (∀ (s : Shared) (u : Value), BindsTo s fd ⟨[u], []⟩ [(x, u)]) ∧
        ∀ base : Heap, (K w.params).In base → base.Ns mainGlobals mg → cY l.prog w (K w.params) mg base (CX w) k fa fd [x] (sp w))
    (LS : ∀ (w : World) (H : Hp) (a : Addr) (ns : List Int), ns.length ≤ n → HU H → sf (K w.params) H a (ns.map V.int) → sp w [.ref a] H (fun v _ => v = .bl true) fun _ _ _ => False)
    (Pd : ∀ (w : World) (H : Hp) (s : Shared) (e : Value) (s' : Shared), CX w [] H s (fun _ _ _ => False) e s' → False) :
    PySem.W.WalkO q loose XP YP l.row.toRowW d [] (fun f vs => PySem.call f vs) := by
  refine Q7.Bg hn hdf fun w s₀ s₁ mg mb fa o pm cd doc a vs ns G Y ho hd hcd hmg hobj hints hlen hg => ?_
  have KX := hY w _ Y
  obtain ⟨fd, hb, hF⟩ := F w mg fa _ KX G.T.g hmg
  exact FA KX G.T.g G.T.b G.T.builtins G.T.nolimit hg hobj hints (Nat.le_trans hlen hn2) hr hF hb (fun H hO hS => LS w H a ns hlen hO hS) fun H e s' => Pd w H s₁ e s'
end L2
namespace L2
open PySem PySem.Spec PyProof.Rows
noncomputable def bL (s : Stmt) : Arguments := match s with
  | .FunctionDef _ a _ _ _ _ _ _ _ _ => a
  | _ => { posonlyargs := [], args := [], vararg := none, kwonlyargs := [], kw_defaults := [], kwarg := none, defaults := [] }
noncomputable def bG (s : Stmt) : List Stmt := match s with
  | .FunctionDef _ _ b _ _ _ _ _ _ _ => b
  | _ => []
noncomputable def aa (s : Stmt) : Scope := match s with
  | .FunctionDef _ _ _ _ _ _ sc _ _ _ => sc
  | _ => { kind := .function, names := [], isGenerator := false, isCoroutine := false }
noncomputable abbrev E0 : XK := fun _ _ _ => False
structure za (K : PySem.W.Frag) (x qual : Str) (st : Stmt) (f : Addr) (fd : FuncData) : Prop where
  ex : ∃ (oc : Value) (od : Option Addr) (kV doc pm : Value) (an : Option Addr) (cdv ct : Value) (osl : Array (Option Value)),
    fd = PySem.W.fnOf x qual (bL st) (bG st) (aa st) .none kV doc pm an cdv ct ∧ K.lookup f = some ⟨oc, od, .func fd, osl⟩ ∧ PySem.W.codeIn K cdv qual = true
  kp : PySem.W.keepIn K (.ref f) = true
section
variable {P : Program} {w : World} {K : PySem.W.Frag} {mg : Str → Option Value} {base : Heap}
theorem za.binds {x qual : Str} {st : Stmt} {f : Addr} {fd : FuncData} {ps : List Str} (F : za K x qual st f fd)
    (h : ∀ (kV doc pm : Value) (an : Option Addr) (cdv ct : Value) (us : List Value), us.length = ps.length → bindArgs (PySem.W.fnOf x qual (bL st) (bG st) (aa st) .none kV doc pm an cdv ct) ⟨us, []⟩ = pure (ps.zip us)) : Binds K fd ps [] := by
  obtain ⟨oc, od, kV, doc, pm, an, cdv, ct, osl, rfl, lk, hcd⟩ := F.ex
  exact .all (h kV doc pm an cdv ct)
theorem jM {x qual : Str} {st : Stmt} {f : Addr} {oc : Value} {od an : Option Addr} {osl : Array (Option Value)} {kV doc pm cdv ct : Value} (l : K.lookup f = some ⟨oc, od, .func (PySem.W.fnOf x qual (bL st) (bG st) (aa st) .none kV doc pm an cdv ct), osl⟩)
    (c : PySem.W.codeIn K cdv qual = true) (k : PySem.W.keepIn K (.ref f) = true) : za K x qual st f (PySem.W.fnOf x qual (bL st) (bG st) (aa st) .none kV doc pm an cdv ct) := ⟨⟨oc, od, kV, doc, pm, an, cdv, ct, osl, rfl, l, c⟩, k⟩
end
section
variable {X : Cx}
end
noncomputable def Mz (H H' : Hp) : Prop := ∀ b o, H b = some o → H' b = some o
theorem Mz.free {H H' : Hp} (e : Mz H H') {l : Addr} (h : H' l = Option.none) : H l = Option.none := by
  cases q : H l with
  | none => rfl
  | some o =>
    rw [e l o q] at h
    cases h
end L2
end
section
set_option Elab.async false
set_option linter.all false
set_option maxRecDepth 100000
namespace L2
open PySem PySem.Spec PyProof.Rows
section
variable {κ : Type} [DecidableEq κ]
noncomputable def qR (kvs : List (κ × V)) (k : κ) : Option V := (kvs.find? fun kv => decide (kv.1 = k)).map (·.2)
noncomputable def putK (kvs : List (κ × V)) (k : κ) (v : V) : List (κ × V) :=
  if (kvs.any fun kv => decide (kv.1 = k)) = true then kvs.map (fun kv => if kv.1 = k then (kv.1, v) else kv) else kvs ++ [(k, v)]
theorem wY {p : κ × V} {r : List (κ × V)} {k : κ} (e : p.1 = k) : qR (p :: r) k = some p.2 := by simp [qR, List.find?_cons, e]
theorem tZ {p : κ × V} {r : List (κ × V)} {k : κ} (e : ¬ p.1 = k) : qR (p :: r) k = qR r k := by simp [qR, List.find?_cons, e]
theorem Bh (k : κ) : ∀ kvs : List (κ × V), (kvs.any fun kv => decide (kv.1 = k)) = (qR kvs k).isSome
  | [] => rfl
  | p :: r => by
    rw [List.any_cons]
    by_cases e : p.1 = k
    · simp only [wY e, decide_eq_true e, Bool.true_or, Option.isSome_some]
    · rw [tZ e, decide_eq_false e, Bool.false_or]; exact Bh k r
theorem vO (kvs : List (κ × V)) (k : κ) (v : V) : (putK kvs k v).length ≤ kvs.length + 1 := by
  unfold putK
  split
  · rw [List.length_map]; omega
  · rw [List.length_append, List.length_cons, List.length_nil]; omega
theorem A7.Er {o : Option V} {u : Option Value} (r : A7 o u) : o.isSome = u.isSome := by
  cases o with
  | none => cases u with
    | none => rfl
    | some _ => exact (show False from r).elim
  | some _ => cases u with
    | none => exact (show False from r).elim
    | some _ => rfl
theorem A7.getD {o : Option V} {u : Option Value} {d : V} {d' : Value} (r : A7 o u) (rd : RelV d d') : RelV (o.getD d) (u.getD d') := by
  cases o with
  | none => cases u with
    | none => exact rd
    | some _ => exact (show False from r).elim
  | some _ => cases u with
    | none => exact (show False from r).elim
    | some _ => exact r
theorem KV.val {kvs : List (κ × V)} {vs : List (κ × Value)} (r : KV kvs vs) (k : κ) : A7 (qR kvs k) (valueAt vs k) := by
  unfold KV at r
  induction r with
  | nil => exact True.intro
  | @cons p q ps qs h t ih =>
    obtain ⟨h1, h2⟩ := h
    by_cases e : p.1 = k
    · have e' : q.1 = k := h1.symm.trans e
      have b : valueAt (q :: qs) k = some q.2 := by simp [valueAt, List.find?_cons, e']
      rw [wY e, b]; exact h2
    · have e' : ¬ q.1 = k := fun z => e (h1.trans z)
      have b : valueAt (q :: qs) k = valueAt qs k := by simp [valueAt, List.find?_cons, e']
      rw [tZ e, b]; exact ih
theorem KV.any {kvs : List (κ × V)} {vs : List (κ × Value)} (r : KV kvs vs) (k : κ) : (kvs.any fun kv => decide (kv.1 = k)) = vs.any fun kv => decide (kv.1 = k) := by
  unfold KV at r
  induction r with
  | nil => rfl
  | cons h t ih => rw [List.any_cons, List.any_cons, ih, h.1]
theorem KV.repl {kvs : List (κ × V)} {vs : List (κ × Value)} (r : KV kvs vs) (k : κ) {y : V} {u : Value} (ry : RelV y u) :
    KV (kvs.map fun kv => if kv.1 = k then (kv.1, y) else kv) (vs.map fun kv => if kv.1 = k then (kv.1, u) else kv) := by
  unfold KV at r ⊢
  induction r with
  | nil => exact .nil
  | @cons p q ps qs h t ih =>
    rw [List.map_cons, List.map_cons]
    refine .cons ?_ ih
    obtain ⟨h1, h2⟩ := h
    by_cases e : p.1 = k
    · rw [if_pos e, if_pos (h1.symm.trans e)]; exact ⟨h1, ry⟩
    · rw [if_neg e, if_neg (fun z => e (h1.trans z))]; exact ⟨h1, h2⟩
theorem KV.put {kvs : List (κ × V)} {vs : List (κ × Value)} (r : KV kvs vs) (k : κ) {y : V} {u : Value} (ry : RelV y u) : KV (putK kvs k y) (stored vs k u) := by
  unfold putK stored
  rw [r.any k]
  by_cases e : (vs.any fun kv => decide (kv.1 = k)) = true
  · rw [if_pos e, if_pos e]; exact r.repl k ry
  · rw [if_neg e, if_neg e]; exact Paired.snoc r ⟨rfl, ry⟩
theorem KV.length {kvs : List (κ × V)} {vs : List (κ × Value)} (r : KV kvs vs) : kvs.length = vs.length := Paired.length r
end
theorem FD {P : Program} {w : World} {k : Key} {u : Value} (r : RelV (kV k) u) : (iA P w).is k u = true := by
  cases k with
  | inl i => obtain ⟨t, e⟩ := (show ∃ t, u = Value.int i t from r); subst e; exact A5 P w i t
  | inr x => obtain ⟨t, e⟩ := (show ∃ t, u = Value.str x t from r); subst e; exact A6 P w x t
theorem zb {P : Program} {w : World} : ∀ {ks : List Key} {us : List Value}, Vals (ks.map kV) us → ItemsAre (iA P w) ks us
  | [], _, r => by rw [List.map_nil] at r; cases r; exact .nil
  | k :: ks, _, r => by
    rw [List.map_cons] at r
    cases r with
    | cons h t => exact .cons (FD h) (zb t)
noncomputable abbrev KT (H : Hp) : List (List Key × V) → List (List Key × Addr × Value) → Prop := Paired fun p q => p.1 = q.1 ∧ H q.2.1 = some (.tup (p.1.map kV)) ∧ RelV p.2 q.2.2
theorem KT.val {H : Hp} {kvs : List (List Key × V)} {xs : List (List Key × Addr × Value)} (r : KT H kvs xs) (k : List Key) : A7 (qR kvs k) ((atKey xs k).map (·.2)) := by
  induction r with
  | nil => exact True.intro
  | @cons p q ps qs h t ih =>
    obtain ⟨h1, _, h2⟩ := h
    by_cases e : p.1 = k
    · have e' : q.1 = k := h1.symm.trans e
      have b : atKey (q :: qs) k = some q.2 := by simp [atKey, List.find?_cons, e']
      rw [wY e, b]; exact h2
    · have e' : ¬ q.1 = k := fun z => e (h1.trans z)
      have b : atKey (q :: qs) k = atKey qs k := by simp [atKey, List.find?_cons, e']
      rw [tZ e, b]; exact ih
theorem KT.repl {H : Hp} {kvs : List (List Key × V)} {xs : List (List Key × Addr × Value)} (r : KT H kvs xs) (k : List Key) {y : V} {u : Value} (ry : RelV y u) :
    KT H (kvs.map fun kv => if kv.1 = k then (kv.1, y) else kv) (xs.map (putAt k u)) := by
  induction r with
  | nil => exact .nil
  | @cons p q ps qs h t ih =>
    rw [List.map_cons, List.map_cons]
    refine .cons ?_ ih
    obtain ⟨h1, h2, h3⟩ := h
    unfold putAt
    by_cases e : p.1 = k
    · rw [if_pos e, if_pos (h1.symm.trans e)]; exact ⟨h1, h2, ry⟩
    · rw [if_neg e, if_neg (fun z => e (h1.trans z))]; exact ⟨h1, h2, h3⟩
theorem KT.put {H : Hp} {kvs : List (List Key × V)} {xs : List (List Key × Addr × Value)} (r : KT H kvs xs) (k : List Key) {b : Addr} {y : V} {u : Value} (hb : H b = some (.tup (k.map kV))) (ry : RelV y u) :
    KT H (putK kvs k y) (storedH xs k b u) := by
  have e : (kvs.any fun kv => decide (kv.1 = k)) = (atKey xs k).isSome := by
    rw [Bh, (r.val k).Er, Option.isSome_map]
  unfold putK storedH
  rw [e]
  by_cases q : (atKey xs k).isSome = true
  · rw [if_pos q, if_pos q]; exact r.repl k ry
  · rw [if_neg q, if_neg q]; exact Paired.snoc r ⟨rfl, hb, ry⟩
theorem KT.keeps {H H' : Hp} {kvs : List (List Key × V)} {xs : List (List Key × Addr × Value)} (r : KT H kvs xs) (ht : ∀ b ys, H b = some (.tup ys) → H' b = some (.tup ys)) : KT H' kvs xs :=
  Paired.JN r fun _ _ z => ⟨z.1, ht _ _ z.2.1, z.2.2⟩
section
variable {P : Program} {w : World} {H : Hp} {h : Heap} {a : Addr}
theorem Jr {u : HO} (ok : qQ P w H h) (e : Rd H a u) : kD P w H h a u := e.ok ok
theorem FE {kvs : List (Key × V)} (ok : qQ P w H h) (e : Rd H a (.dK kvs)) : kvs.length ≤ sizeLine ∧ (a == sysModules) = false ∧ ∃ vs, KV kvs vs ∧ h.DictOf (iA P w) a vs :=
  show kD P w H h a (.dK kvs) from Jr ok e
theorem MA {kvs : List (Key × V)} (ok : qQ P w H h) (e : H a = some (.dK kvs)) : kvs.length ≤ sizeLine ∧ (a == sysModules) = false ∧ ∃ vs, KV kvs vs ∧ h.DictOf (iA P w) a vs := FE ok (.inl e)
theorem CG {ks : List Key} (ok : qQ P w H h) (e : H a = some (.tup (ks.map kV))) : (tupleKind (iA P w)).is h ks a := by
  obtain ⟨_, its, r, o, h1, h2, n, h3⟩ := (show kD P w H h a (.tup (ks.map kV)) from ok a _ e)
  exact ⟨o, its.toArray, n, h1, h2, h3, by simpa using zb r⟩
theorem FF {kvs : List (List Key × V)} (ok : qQ P w H h) (e : Rd H a (.dT kvs)) : kvs.length ≤ sizeLine ∧ (a == sysModules) = false ∧
    ∃ xs, KT H kvs xs ∧ h.DictOfH (tupleKind (iA P w)) a xs := by
  obtain ⟨z, y, xs, r, o, es, ep, h1, h2, h3, h4, h5⟩ := (show kD P w H h a (.dT kvs) from Jr ok e)
  refine ⟨z, y, xs, r, o, es, ep, h1, h2, h3, h4, fun x hx => ?_, h5⟩
  have all : ∀ {l : List (List Key × V)} {m : List (List Key × Addr × Value)}, KT H l m → ∀ x ∈ m, (tupleKind (iA P w)).is h x.1 x.2.1 := by
    intro l m q
    induction q with
    | nil => intro x hx; exact nomatch hx
    | @cons p q ps qs hq t ih =>
      intro x hx
      rcases List.mem_cons.mp hx with e | hx
      · subst e
        exact CG ok (by rw [← hq.1]; exact hq.2.1)
      · exact ih x hx
  exact all r x hx
theorem MB {kvs : List (List Key × V)} (ok : qQ P w H h) (e : H a = some (.dT kvs)) : kvs.length ≤ sizeLine ∧ (a == sysModules) = false ∧
    ∃ xs, KT H kvs xs ∧ h.DictOfH (tupleKind (iA P w)) a xs := FF ok (.inl e)
end
noncomputable def CH (H : Hp) (a : Addr) (y : V) (r : Option V) : Prop :=
  (∃ kvs k, Rd H a (.dK kvs) ∧ y = kV k ∧ r = qR kvs k) ∨ ∃ kvs k b, Rd H a (.dT kvs) ∧ y = .ref b ∧ H b = some (.tup (k.map kV)) ∧ r = qR kvs k
noncomputable def CI (H : Hp) (a : Addr) (y v : V) (H' : Hp) : Prop :=
  (∃ kvs k, H a = some (.dK kvs) ∧ y = kV k ∧ kvs.length < sizeLine ∧ H' = upd H a (.dK (putK kvs k v))) ∨
  ∃ kvs k b, H a = some (.dT kvs) ∧ y = .ref b ∧ H b = some (.tup (k.map kV)) ∧ kvs.length < sizeLine ∧ H' = upd H a (.dT (putK kvs k v))
theorem CH.k {H : Hp} {a : Addr} {kvs : List (Key × V)} {k : Key} (e : H a = some (.dK kvs)) : CH H a (kV k) (qR kvs k) := .inl ⟨kvs, k, .inl e, rfl, rfl⟩
theorem CH.t {H : Hp} {a b : Addr} {kvs : List (List Key × V)} {k : List Key} (e : H a = some (.dT kvs)) (eb : H b = some (.tup (k.map kV))) : CH H a (.ref b) (qR kvs k) := .inr ⟨kvs, k, b, .inl e, rfl, eb, rfl⟩
theorem CI.k {H : Hp} {a : Addr} {kvs : List (Key × V)} {k : Key} {v : V} (e : H a = some (.dK kvs)) (hl : kvs.length < sizeLine) : CI H a (kV k) v (upd H a (.dK (putK kvs k v))) := .inl ⟨kvs, k, e, rfl, hl, rfl⟩
theorem CI.t {H : Hp} {a b : Addr} {kvs : List (List Key × V)} {k : List Key} {v : V} (e : H a = some (.dT kvs)) (eb : H b = some (.tup (k.map kV))) (hl : kvs.length < sizeLine) :
    CI H a (.ref b) v (upd H a (.dT (putK kvs k v))) := .inr ⟨kvs, k, b, e, rfl, eb, hl, rfl⟩
section
variable {X : Cx} {pins : List (Addr × Obj)} {σ : St} {H : Hp} {s : Shared} {a : Addr} {y v : V} {u r : Value} {o : Option V} {A : Around} {E : Value → Shared → Prop}
theorem Inv.big (I : Inv X pins σ H s) : sysModules < s.heap.objs.size := by
  have h : mainGlobals < s.heap.objs.size := (I.mod.glob.keeps I.bk).lt
  exact Nat.lt_trans (by decide) h
theorem Dy {h' : Heap} {t' : Nat} {ob : HO} (I : Inv X pins σ H s) (mu : L1 (H a)) (hs : Heap.SameBut a s.heap h') (he : ∃ q, h'.get? a = some q) (new : kD X.prog X.w (upd H a ob) h' a ob) :
    Inv X pins σ (upd H a ob) { s with heap := h', toks := t' } :=
  I.write (x := a) (e := a) mu (.inl rfl) (fun b q hb z => (hs.2 b hb).trans z) he new
theorem KA {P : Program} {w : World} {H' : Hp} {h' : Heap} {kvs : List (Key × V)} {vs : List (Key × Value)} (z : kvs.length ≤ sizeLine) (hd : (a == sysModules) = false) (rel : KV kvs vs) (dd : h'.DictOf (iA P w) a vs) :
    kD P w H' h' a (.dK kvs) := ⟨z, hd, vs, rel, dd⟩
theorem Es {H' : Hp} {Q : Unit → Shared → Prop} (hu : A.units + 1 < cLine) (I : Inv X pins σ H s) (g : CI H a y v H') (ry : RelV y u) (rv : RelV v r) (h : ∀ s', Inv X pins σ H' s' → Q () s') :
    wpAny (model X.prog X.w) A (setItem (.ref a) u r) Q E s := by
  rcases g with ⟨kvs, k, e, ey, l, eH⟩ | ⟨kvs, k, b, e, ey, eb, l, eH⟩
  · subst ey eH
    obtain ⟨z, hd, vs, rel, dd⟩ := MA I.hok e
    have hz : vs.length ≤ sizeLine := by rw [← rel.length]; exact z
    have hl : (putK kvs k v).length ≤ sizeLine := by have := vO kvs k v; omega
    refine wpAny_setItem_pairs (hsz := hz) (FD ry) dd fun h' Om hs => h _ ?_
    have he : ∃ q, h'.get? a = some q := let ⟨q, _, _, hq, _⟩ := Om; ⟨q, hq⟩
    exact Dy I (by rw [e]; exact True.intro) hs he (KA hl hd (rel.put k rv) Om)
  · subst ey eH
    cases (show u = Value.ref b from ry)
    obtain ⟨z, hd, xs, rel, dd⟩ := MB I.hok e
    have hz : xs.length ≤ sizeLine := by rw [← Paired.length rel]; exact z
    have hl : (putK kvs k v).length ≤ sizeLine := by have := vO kvs k v; omega
    refine wpAny_setItem_heap (hsz := hz) (tupleKind_room_in1 hu) (CG I.hok eb) dd fun h' Om hs => h _ ?_
    obtain ⟨q, es, ep, hq, h2, h3, h4, _, h5⟩ := Om
    refine Dy I (by rw [e]; exact True.intro) hs ⟨q, hq⟩ ⟨hl, hd, _, (rel.put k eb rv).keeps fun c ys ec => ?_, q, es, ep, hq, h2, h3, h4, h5⟩
    rw [bQ (lH ec e (fun z => nomatch z))]
    exact ec
end
section
variable {X : Cx} {pins : List (Addr × Obj)} {σ : St} {H : Hp} {s : Shared} {a : Addr} {kvs : List (Key × V)} {k : Key} {u : Value} {A : Around} {E : Value → Shared → Prop}
end
noncomputable def vP (td ty tv : TE) : TS := fun D σ H => tv σ H fun v H1 => td σ H1 fun x H2 => ty σ H2 fun y H3 => ∃ a H4, x = .ref a ∧ CI H3 a y v H4 ∧ D.nx σ H4
section
variable {X : Cx} {o i e value : Expr} {pos pos' tpos : Pos} {td ty tv : TE}
theorem HW (hu : X.A.units + 1 < cLine) (ho : PE X o td) (hi : PE X i ty) (hv : PE X value tv) (hs : swapsWith value (some (.Subscript o i pos')) pos.line X.env = pure false) :
    PS X (.Assign [.Subscript o i pos'] value pos) (vP td ty tv) := by
  intro pins s σ H D I h
  refine wpAny_Assign_Subscript (j4 (hv pins s σ H _ I h) fun r s1 ⟨v, H1, I1, rv, q1⟩ => j4 (ho pins s1 σ H1 _ I1 q1) fun u s2 ⟨x, H2, I2, rx, q2⟩ => j4 (hi pins s2 σ H2 _ I2 q2) fun iv s3 ⟨y, H3, I3, ry, a, H4, ex, g, q3⟩ => ?_) hs
  subst ex
  obtain rfl : u = Value.ref a := rx
  exact Es hu I3 g ry rv fun s4 I4 => ⟨σ, H4, I4, q3⟩
end
theorem FG {P : Program} {w : World} {H : Hp} (h : Heap) (hb : sysModules < h.objs.size) : kD P w H (h.push { cls := .type "dict", data := .dict #[] }) h.objs.size (.dK []) :=
  ⟨Nat.zero_le _, beq_eq_false_iff_ne.mpr (Ne.symm (Nat.ne_of_lt hb)), [], .nil, Heap.DictOf.new h⟩
noncomputable def KC : TE := fun _ H Q => ∀ p, H p = none → Q (.ref p) (upd H p (.dK []))
section
variable {X : Cx} {pos : Pos}
theorem FH : PE X (.Dict [] [] pos) KC := fun pins s σ H Q I h =>
  wpAny_Dict_empty ⟨.ref s.heap.objs.size, _, I.laid (a := s.heap.objs.size) (o := .dK []) (t' := s.toks) (fun _ _ q => Heap.get?_push_of_some _ q) (Nat.le_refl _) (FG s.heap I.big), rfl, h _ (I.hok.fresh (Nat.le_refl _))⟩
end
structure M1 (X : Cx) (o : Expr) (m : Str) (apos : Pos) (e : Expr) (cpos : Pos) : Prop where
  base : attributeBase o m X.env (eval o X.env) = eval o X.env
  few : ((backTo cpos (starEach [e] X.env)).all (fun x => !x.1) && (backToKw cpos (keywordEach [] X.env)).all (fun x => x.1.isSome)
    && decide (([e] : List Expr).length + ([] : List Keyword).length + (if ([] : List Keyword).isEmpty then 0 else 1) < 30)) = true
  line : (apos.endLine == cpos.line) = true
  trees : backTo cpos (starEach [e] X.env) = [(false, eval e X.env)]
structure M2 (X : Cx) (o : Expr) (m : Str) (apos : Pos) (e f : Expr) (cpos : Pos) : Prop where
  base : attributeBase o m X.env (eval o X.env) = eval o X.env
  few : ((backTo cpos (starEach [e, f] X.env)).all (fun x => !x.1) && (backToKw cpos (keywordEach [] X.env)).all (fun x => x.1.isSome)
    && decide (([e, f] : List Expr).length + ([] : List Keyword).length + (if ([] : List Keyword).isEmpty then 0 else 1) < 30)) = true
  line : (apos.endLine == cpos.line) = true
  trees : backTo cpos (starEach [e, f] X.env) = [(false, eval e X.env), (false, eval f X.env)]
noncomputable def Q9 (H : Hp) (a : Addr) : Prop := (∃ kvs, Rd H a (.dK kvs)) ∨ ∃ kvs, Rd H a (.dT kvs)
theorem KD {X : Cx} {pins : List (Addr × Obj)} {σ : St} {H : Hp} {s : Shared} {a : Addr} (I : Inv X pins σ H s) (d : Q9 H a) :
    s.TypeIs (.ref a) "dict" ∧ (∀ b, Value.ref a = .ref b → ∃ ob, s.heap.get? b = some ob ∧ ob.dict = none) ∧ (a == sysModules) = false := by
  rcases d with ⟨kvs, e⟩ | ⟨kvs, e⟩
  · obtain ⟨_, hd, vs, _, dd⟩ := FE I.hok e
    refine ⟨dd.typeIs, fun b q => ?_, hd⟩
    cases q
    obtain ⟨ob, _, _, h1, h2, _⟩ := dd
    exact ⟨ob, h1, h2.2.1⟩
  · obtain ⟨_, hd, xs, _, dd⟩ := FF I.hok e
    refine ⟨dd.typeIs, fun b q => ?_, hd⟩
    cases q
    obtain ⟨ob, _, _, h1, h2, _⟩ := dd
    exact ⟨ob, h1, h2.2.1⟩
section
variable {X : Cx} {pins : List (Addr × Obj)} {σ : St} {H : Hp} {s : Shared} {a : Addr} {y d : V} {u r : Value} {o : Option V} {A : Around} {E : Value → Shared → Prop}
theorem KG {Q : Value → Shared → Prop} (hu : A.units + 1 < cLine) (I : Inv X pins σ H s) (g : CH H a y o) (ry : RelV y u) (rd : RelV d r) (h : ∀ w' s', Inv X pins σ H s' → RelV (o.getD d) w' → Q w' s') :
    wpAny (model X.prog X.w) A (call (.builtin "dict.get") [.ref a, u, r]) Q E s := by
  rcases g with ⟨kvs, k, e, ey, l⟩ | ⟨kvs, k, b, e, ey, eb, l⟩
  · subst ey
    obtain ⟨z, hd, vs, rel, dd⟩ := FE I.hok e
    refine call_meetsIn PySem.F.slot_dict_get dd.typeIs PySem.F.entry_dict_get (PySem.F.args_dict_get_3 _ _ _) (meets_dict_get_default (iA X.prog X.w) a (FD ry) hd r) ⟨_, dd.mapOf, h _ _ (I.tok _) ?_⟩
    rw [l]
    exact (rel.val k).getD rd
  · subst ey
    cases (show u = Value.ref b from ry)
    obtain ⟨z, hd, xs, rel, dd⟩ := FF I.hok e
    refine call_meetsIn PySem.F.slot_dict_get dd.typeIs PySem.F.entry_dict_get (PySem.F.args_dict_get_3 _ _ _) (meetsH_dict_get_default (tupleKind (iA X.prog X.w)) a b hd r) ⟨tupleKind_room_in1 hu, k, xs, CG I.hok eb, dd, h _ _ (I.tok _) ?_⟩
    rw [l]
    exact (rel.val k).getD rd
end
noncomputable def KH (td ty tx : TE) : TE := fun σ H Q => td σ H fun x H1 => ∃ a, x = .ref a ∧ Q9 H1 a ∧ ty σ H1 fun y H2 => tx σ H2 fun z H3 => ∃ o, CH H3 a y o ∧ Q (o.getD z) H3
section
variable {X : Cx} {o e f : Expr} {apos cpos : Pos} {td ty tx : TE}
theorem FI (hu : X.A.units + 1 < cLine) (ho : PE X o td) (he : PE X e ty) (hf : PE X f tx) (m : M2 X o "get" apos e f cpos) : PE X (.Call (.Attribute o "get" apos) [e, f] [] cpos) (KH td ty tx) := by
  intro pins s σ H Q I h
  refine wpAny_Call_method m.base m.few m.line PySem.F.plainAttrs_dict PySem.F.slot_dict_get PySem.F.type_dict_get (j4 (ho pins s σ H _ I h) fun u s1 ⟨x, H1, I1, rx, a, ex, d, q1⟩ => ?_)
  subst ex
  obtain rfl : u = Value.ref a := rx
  obtain ⟨t1, t2, _⟩ := KD I1 d
  refine ⟨t1, t2, ?_⟩
  rw [m.trees]
  refine Calls.callWith_builtin rfl (Calls.evalArgs_plain (Calls.spliced_cons (j4 (he pins s1 σ H1 _ I1 q1) fun iv s2 ⟨y, H2, I2, ry, q2⟩ =>
    Calls.spliced_cons (j4 (hf pins s2 σ H2 _ I2 q2) fun fv s3 ⟨z, H3, I3, rz, ov, g, q3⟩ => Calls.spliced_nil ?_))))
  exact KG hu I3 g ry rz fun w' s4 I4 rw' => ⟨_, H3, I4, rw', q3⟩
end
section
variable {X : Cx} {pins : List (Addr × Obj)} {σ : St} {H : Hp} {s : Shared} {a : Addr} {kvs : List (Key × V)} {A : Around} {E : Value → Shared → Prop}
end
section
variable {X : Cx} {pins : List (Addr × Obj)} {σ : St} {H : Hp} {s : Shared} {a : Addr} {y : V} {u : Value} {A : Around} {E : Value → Shared → Prop}
end
end L2
end
section
set_option Elab.async false
set_option linter.all false
set_option maxRecDepth 100000
namespace L3
open PySem PySem.Spec L2
inductive D where
  | lG | bl (b : Bool) | int (i : Int) | str (x : Str) | tup (xs : List D) | con (xs : List D) | obj (n : Nat) | fn (x : Str) | zc (cls : Str) (args : List D)
inductive DO where
  | lst (xs : List D)
  | dead
  | dct (kvs : List (Key × D))
noncomputable abbrev DH := List DO
noncomputable abbrev DS := List (Option D)
inductive XD where
  | mk (cls : Str) (args : List D)
inductive Out (α : Type) where
  | stuck
  | ok (a : α) (G : DH)
  | fL (c : XD) (G : DH)
noncomputable abbrev M (α : Type) := DH → Out α
noncomputable def M.bind {α β : Type} (m : M α) (k : α → M β) : M β := fun G => match m G with
  | .stuck => .stuck
  | .ok a G' => k a G'
  | .fL c G' => .fL c G'
noncomputable def M.ret {α : Type} (a : α) : M α := fun G => .ok a G
noncomputable def M.stop {α : Type} : M α := fun _ => .stuck
noncomputable def KI (K : PySem.W.Frag) (H : Hp) (a : Addr) (xs : List V) : Prop :=
  (∃ o, H a = some (.qE o (.lst xs))) ∨
    ∃ (o : Obj) (its : Array Value) (n : Nat), K.lookup a = some o ∧ o.cls = .type "list" ∧ o.dict = none ∧ o.data = .seq its n ∧ its.size ≤ sizeLine ∧ Vals xs its.toList
theorem KI.seq {K : PySem.W.Frag} {H : Hp} {a : Addr} {xs : List V} (h : KI K H a xs) : sf K H a xs := by
  rcases h with ⟨o, h⟩ | h
  · exact .inl (.inr ⟨o, h⟩)
  · exact .inr h
noncomputable def MC (a : Addr) (cv : Value) : Heap → Prop := fun h => ∃ o, h.get? a = some o ∧ o.cls = cv
mutual
noncomputable def Rep (K : PySem.W.Frag) (mg : Str → Option Value) (ρ : List Addr) (H : Hp) : D → V → Prop
  | .lG, v => v = .lG
  | .bl b, v => v = .bl b
  | .int i, v => v = .int i
  | .str x, v => v = .str x
  | .tup ds, v => ∃ a xs, v = .ref a ∧ sZ K H a xs ∧ aH K mg ρ H ds xs
  | .con ds, v => ∃ a xs, v = .ref a ∧ KI K H a xs ∧ aH K mg ρ H ds xs
  | .obj n, v => ∃ a, v = .ref a ∧ ρ[n]? = some a
  | .fn x, v => ∃ a, v = .ref a ∧ mg x = some (.ref a)
  | .zc c _, v => ∃ a cv, v = .ref a ∧ mg c = some cv ∧ H a = some (.ext (MC a cv))
noncomputable def aH (K : PySem.W.Frag) (mg : Str → Option Value) (ρ : List Addr) (H : Hp) : List D → List V → Prop
  | [], vs => vs = []
  | d :: ds, vs => ∃ v r, vs = v :: r ∧ Rep K mg ρ H d v ∧ aH K mg ρ H ds r
end
structure ir (K : PySem.W.Frag) (H H' : Hp) (ρ ρ' : List Addr) : Prop where
  tup : ∀ a xs, sZ K H a xs → sZ K H' a xs
  con : ∀ a xs, KI K H a xs → KI K H' a xs
  pre : ∃ r, ρ' = ρ ++ r
  ext : ∀ a φ, H a = some (.ext φ) → H' a = some (.ext φ)
section
variable {K : PySem.W.Frag} {mg : Str → Option Value} {H H' H1 H2 : Hp} {ρ ρ' ρ1 ρ2 : List Addr}
theorem ir.refl : ir K H H ρ ρ := ⟨fun _ _ h => h, fun _ _ h => h, ⟨[], by simp⟩, fun _ _ h => h⟩
theorem ir.trans (a : ir K H H1 ρ ρ1) (b : ir K H1 H2 ρ1 ρ2) : ir K H H2 ρ ρ2 := by
  obtain ⟨r1, e1⟩ := a.pre
  obtain ⟨r2, e2⟩ := b.pre
  exact ⟨fun x xs h => b.tup x xs (a.tup x xs h), fun x xs h => b.con x xs (a.con x xs h), ⟨r1 ++ r2, by rw [e2, e1, List.append_assoc]⟩, fun x φ h => b.ext x φ (a.ext x φ h)⟩
theorem ir.get (f : ir K H H' ρ ρ') {n : Nat} {a : Addr} (h : ρ[n]? = some a) : ρ'[n]? = some a := by
  obtain ⟨r, e⟩ := f.pre
  rw [e, List.getElem?_append_left (List.getElem?_eq_some_iff.mp h).1]; exact h
mutual
theorem Rep.mono (f : ir K H H' ρ ρ') : ∀ (d : D) (v : V), Rep K mg ρ H d v → Rep K mg ρ' H' d v
  | .lG, v, h => by unfold Rep at h ⊢; exact h
  | .bl b, v, h => by unfold Rep at h ⊢; exact h
  | .int i, v, h => by unfold Rep at h ⊢; exact h
  | .str x, v, h => by unfold Rep at h ⊢; exact h
  | .tup ds, v, h => by
    unfold Rep at h ⊢
    obtain ⟨a, xs, e, s, r⟩ := h
    exact ⟨a, xs, e, f.tup _ _ s, aH.mono f ds xs r⟩
  | .con ds, v, h => by
    unfold Rep at h ⊢
    obtain ⟨a, xs, e, s, r⟩ := h
    exact ⟨a, xs, e, f.con _ _ s, aH.mono f ds xs r⟩
  | .obj n, v, h => by
    unfold Rep at h ⊢
    obtain ⟨a, e, r⟩ := h
    exact ⟨a, e, f.get r⟩
  | .fn x, v, h => by unfold Rep at h ⊢; exact h
  | .zc c as, v, h => by
    unfold Rep at h ⊢
    obtain ⟨a, cv, e, m, r⟩ := h
    exact ⟨a, cv, e, m, f.ext _ _ r⟩
theorem aH.mono (f : ir K H H' ρ ρ') : ∀ (ds : List D) (vs : List V), aH K mg ρ H ds vs → aH K mg ρ' H' ds vs
  | [], vs, h => by unfold aH at h ⊢; exact h
  | d :: ds, vs, h => by
    unfold aH at h ⊢
    obtain ⟨v, r, e, h1, h2⟩ := h
    exact ⟨v, r, e, Rep.mono f d v h1, aH.mono f ds r h2⟩
end
theorem aH.length : ∀ {ds : List D} {vs : List V}, aH K mg ρ H ds vs → ds.length = vs.length
  | [], vs, h => by unfold aH at h; subst h; rfl
  | d :: ds, vs, h => by
    unfold aH at h
    obtain ⟨v, r, rfl, _, h2⟩ := h
    simp [aH.length h2]
theorem aH.nil : aH K mg ρ H [] [] := by unfold aH; rfl
theorem aH.cons {d : D} {v : V} {ds : List D} {vs : List V} (h : Rep K mg ρ H d v) (t : aH K mg ρ H ds vs) : aH K mg ρ H (d :: ds) (v :: vs) := by
  unfold aH; exact ⟨v, vs, rfl, h, t⟩
theorem aH.get : ∀ {ds : List D} {vs : List V} {i : Nat} {d : D}, aH K mg ρ H ds vs → ds[i]? = some d → ∃ v, vs[i]? = some v ∧ Rep K mg ρ H d v
  | [], vs, i, d, h, e => by simp at e
  | x :: ds, vs, 0, d, h, e => by
    unfold aH at h
    obtain ⟨v, r, rfl, h1, _⟩ := h
    simp at e; subst e
    exact ⟨v, rfl, h1⟩
  | x :: ds, vs, i + 1, d, h, e => by
    unfold aH at h
    obtain ⟨v, r, rfl, _, h2⟩ := h
    obtain ⟨u, e1, e2⟩ := aH.get (i := i) (d := d) h2 (by simpa using e)
    exact ⟨u, by simpa using e1, e2⟩
theorem aH.append : ∀ {ds es : List D} {vs us : List V}, aH K mg ρ H ds vs → aH K mg ρ H es us → aH K mg ρ H (ds ++ es) (vs ++ us)
  | [], es, vs, us, h, h' => by unfold aH at h; subst h; exact h'
  | d :: ds, es, vs, us, h, h' => by
    unfold aH at h
    obtain ⟨v, r, rfl, h1, h2⟩ := h
    exact .cons h1 (aH.append h2 h')
theorem aH.take : ∀ (n : Nat) {ds : List D} {vs : List V}, aH K mg ρ H ds vs → aH K mg ρ H (ds.take n) (vs.take n)
  | 0, _, _, _ => by simpa using aH.nil
  | n + 1, [], vs, h => by unfold aH at h; subst h; simpa using aH.nil
  | n + 1, d :: ds, vs, h => by
    unfold aH at h
    obtain ⟨v, r, rfl, h1, h2⟩ := h
    exact .cons h1 (aH.take n h2)
theorem aH.drop : ∀ (n : Nat) {ds : List D} {vs : List V}, aH K mg ρ H ds vs → aH K mg ρ H (ds.drop n) (vs.drop n)
  | 0, _, _, h => by simpa using h
  | n + 1, [], vs, h => by unfold aH at h; subst h; simpa using aH.nil
  | n + 1, d :: ds, vs, h => by
    unfold aH at h
    obtain ⟨v, r, rfl, h1, h2⟩ := h
    simpa using aH.drop n h2
theorem aH.ints : ∀ (ns : List Int), aH K mg ρ H (ns.map D.int) (ns.map V.int)
  | [] => .nil
  | n :: ns => .cons (by unfold Rep; rfl) (aH.ints ns)
end
noncomputable def HX (K : PySem.W.Frag) (mg : Str → Option Value) (ρ : List Addr) (H : Hp) (a : Addr) : DO → Prop
  | .lst ds => ∃ xs, H a = some (.lst xs) ∧ aH K mg ρ H ds xs
  | .dead => ∃ o, H a = some o
  | .dct kvs => ∃ xs, H a = some (.dK ((kvs.map (·.1)).zip xs)) ∧ aH K mg ρ H (kvs.map (·.2)) xs
structure ni (K : PySem.W.Frag) (mg : Str → Option Value) (H : Hp) (ρ : List Addr) (G : DH) : Prop where
  hl : ρ.length = G.length
  nd : ρ.Nodup
  ob : ∀ (n : Nat) (o : DO), G[n]? = some o → ∃ a, ρ[n]? = some a ∧ HX K mg ρ H a o
noncomputable def yo (K : PySem.W.Frag) (mg : Str → Option Value) (H : Hp) (ρ : List Addr) (σ : St) (τ : DS) : Prop :=
  σ.length = τ.length ∧ ∀ (i : Nat) (d : D), τ[i]? = some (some d) → ∃ v, σ[i]? = some (some v) ∧ Rep K mg ρ H d v
structure Ab (K : PySem.W.Frag) (mg : Str → Option Value) (σ : St) (H : Hp) (τ : DS) (ρ : List Addr) (G : DH) : Prop where
  st : yo K mg H ρ σ τ
  hp : ni K mg H ρ G
section
variable {K : PySem.W.Frag} {mg : Str → Option Value} {H H' H1 H2 : Hp} {ρ ρ' ρ1 ρ2 : List Addr} {G G' : DH} {σ : L2.St} {τ : DS}
theorem yo.mono (f : ir K H H' ρ ρ') (h : yo K mg H ρ σ τ) : yo K mg H' ρ' σ τ := ⟨h.1, fun i d e => by
  obtain ⟨v, e1, r⟩ := h.2 i d e
  exact ⟨v, e1, r.mono f⟩⟩
theorem yo.set {i : Nat} {d : D} {v : V} (h : yo K mg H ρ σ τ) (r : Rep K mg ρ H d v) : yo K mg H ρ (σ.set i (some v)) (τ.set i (some d)) := by
  refine ⟨by simp [h.1], fun j e he => ?_⟩
  by_cases hj : i = j
  · subst hj
    rw [List.getElem?_set] at he
    by_cases hi : i < τ.length
    · rw [if_pos rfl, if_pos hi] at he
      cases he
      exact ⟨v, by rw [List.getElem?_set, if_pos rfl, if_pos (by rw [h.1]; exact hi)], r⟩
    · rw [if_pos rfl, if_neg hi] at he
      cases he
  · rw [List.getElem?_set_ne hj] at he
    obtain ⟨u, e1, r1⟩ := h.2 j e he
    exact ⟨u, by rw [List.getElem?_set_ne hj]; exact e1, r1⟩
theorem Ab.fut (ab : Ab K mg σ H τ ρ G) (f : ir K H H' ρ ρ') (hp : ni K mg H' ρ' G') : Ab K mg σ H' τ ρ' G' := ⟨ab.st.mono f, hp⟩
theorem ni.lst {n : Nat} {ds : List D} (h : ni K mg H ρ G) (e : G[n]? = some (.lst ds)) : ∃ a xs, ρ[n]? = some a ∧ H a = some (.lst xs) ∧ aH K mg ρ H ds xs := by
  obtain ⟨a, e1, xs, e2, r⟩ := h.ob n _ e
  exact ⟨a, xs, e1, e2, r⟩
theorem ni.there {n : Nat} {a : Addr} (h : ni K mg H ρ G) (e : ρ[n]? = some a) : ∃ o, H a = some o := by
  have hn : n < G.length := by rw [← h.hl]; exact (List.getElem?_eq_some_iff.mp e).1
  obtain ⟨a', e1, r⟩ := h.ob n G[n] (List.getElem?_eq_getElem hn)
  rw [e] at e1; cases e1
  cases hg : G[n] with
  | lst xs => rw [hg] at r; obtain ⟨ys, e2, _⟩ := r; exact ⟨_, e2⟩
  | dead => rw [hg] at r; exact r
  | dct kv => rw [hg] at r; obtain ⟨ys, e2, _⟩ := r; exact ⟨_, e2⟩
theorem ni.not_mem {p : Addr} (h : ni K mg H ρ G) (hp : H p = none) : p ∉ ρ := fun hm => by
  obtain ⟨n, hn, e⟩ := List.getElem_of_mem hm
  obtain ⟨o, q⟩ := h.there (n := n) (a := p) (by rw [List.getElem?_eq_getElem hn, e])
  rw [hp] at q; cases q
theorem HX.mono {a : Addr} {o : DO} (f : ir K H H' ρ ρ') (he : ∀ u, H a = some u → H' a = some u) (h : HX K mg ρ H a o) : HX K mg ρ' H' a o := by
  cases o with
  | lst ds =>
    obtain ⟨xs, e, r⟩ := h
    exact ⟨xs, he _ e, r.mono f⟩
  | dead =>
    obtain ⟨o, e⟩ := h
    exact ⟨o, he _ e⟩
  | dct kv =>
    obtain ⟨xs, e, r⟩ := h
    exact ⟨xs, he _ e, r.mono f⟩
theorem ju {p : Addr} {o : HO} (hp : H p = none) (ρ : List Addr) : ir K H (upd H p o) ρ ρ := by
  refine ⟨fun a xs h => ?_, fun a xs h => ?_, ⟨[], by simp⟩, fun a φ h => by rw [bQ (fX h hp)]; exact h⟩
  · rcases h with (h | ⟨q, h⟩) | h
    · exact .inl (.inl (by rw [bQ (fX h hp)]; exact h))
    · exact .inl (.inr ⟨q, by rw [bQ (fX h hp)]; exact h⟩)
    · exact .inr h
  · rcases h with ⟨q, h⟩ | h
    · exact .inl ⟨q, by rw [bQ (fX h hp)]; exact h⟩
    · exact .inr h
theorem zZ {p : Addr} {xs ys : List V} (hp : H p = some (.lst xs)) (ρ : List Addr) : ir K H (upd H p (.lst ys)) ρ ρ := by
  refine ⟨fun a zs h => ?_, fun a zs h => ?_, ⟨[], by simp⟩, fun a φ h => by rw [bQ (lH h hp (by intro z; cases z))]; exact h⟩
  · rcases h with (h | ⟨q, h⟩) | h
    · exact .inl (.inl (by rw [bQ (lH h hp (by intro z; cases z))]; exact h))
    · exact .inl (.inr ⟨q, by rw [bQ (lH h hp (by intro z; cases z))]; exact h⟩)
    · exact .inr h
  · rcases h with ⟨q, h⟩ | h
    · exact .inl ⟨q, by rw [bQ (lH h hp (by intro z; cases z))]; exact h⟩
    · exact .inr h
theorem ni.new {p : Addr} {o : HO} (h : ni K mg H ρ G) (hp : H p = none) : ni K mg (upd H p o) ρ G :=
  ⟨h.hl, h.nd, fun n ob e => by
    obtain ⟨a, e1, r⟩ := h.ob n ob e
    exact ⟨a, e1, r.mono (ju hp ρ) fun u q => by rw [bQ (fX q hp)]; exact q⟩⟩
theorem bg {α : Type} (l : List α) (a : α) : (l ++ [a])[l.length]? = some a := by simp
theorem jh (ρ : List Addr) (p : Addr) : ir K H H ρ (ρ ++ [p]) := ⟨fun _ _ h => h, fun _ _ h => h, ⟨[p], rfl⟩, fun _ _ h => h⟩
theorem ni.more {p : Addr} {ds : List D} {xs : List V} (h : ni K mg H ρ G) (hp : H p = none) (r : aH K mg ρ H ds xs) : ni K mg (upd H p (.lst xs)) (ρ ++ [p]) (G ++ [.lst ds]) := by
  have f : ir K H (upd H p (.lst xs)) ρ (ρ ++ [p]) := (ju hp ρ).trans (jh ρ p)
  refine ⟨by simp [h.hl], ?_, fun n ob e => ?_⟩
  · rw [List.nodup_append]
    refine ⟨h.nd, by simp, fun a ha b hb => ?_⟩
    have e : b = p := by simpa using hb
    subst e
    rintro rfl
    exact h.not_mem hp ha
  · by_cases hn : n < G.length
    · rw [List.getElem?_append_left hn] at e
      obtain ⟨a, e1, r'⟩ := h.ob n ob e
      exact ⟨a, f.get e1, r'.mono f fun u q => by rw [bQ (fX q hp)]; exact q⟩
    · have hl : n < (G ++ [DO.lst ds]).length := (List.getElem?_eq_some_iff.mp e).1
      have hn' : n = G.length := by simp at hl; omega
      subst hn'
      rw [bg] at e
      cases e
      refine ⟨p, by rw [← h.hl, bg], xs, g9, r.mono f⟩
theorem ni.put {n : Nat} {a : Addr} {ds es : List D} {xs ys : List V} (h : ni K mg H ρ G) (hn : ρ[n]? = some a) (ha : H a = some (.lst xs)) (r : aH K mg ρ H es ys) : ni K mg (upd H a (.lst ys)) ρ (G.set n (.lst es)) := by
  have f : ir K H (upd H a (.lst ys)) ρ ρ := zZ ha ρ
  refine ⟨by simp [h.hl], h.nd, fun m ob e => ?_⟩
  by_cases hm : n = m
  · subst hm
    rw [List.getElem?_set, if_pos rfl] at e
    split at e
    · cases e
      exact ⟨a, hn, ys, g9, r.mono f⟩
    · cases e
  · rw [List.getElem?_set_ne hm] at e
    obtain ⟨b, e1, r'⟩ := h.ob m ob e
    have hb : b ≠ a := by
      rintro rfl
      obtain ⟨h1, Dz⟩ := List.getElem?_eq_some_iff.mp hn
      obtain ⟨h2, Fd⟩ := List.getElem?_eq_some_iff.mp e1
      exact hm ((List.getElem_inj h.nd).mp (Dz.trans Fd.symm))
    exact ⟨b, e1, r'.mono f fun u q => by rw [bQ hb]; exact q⟩
end
noncomputable abbrev ki := XD → St → Hp → Prop
section
variable (K : PySem.W.Frag) (mg : Str → Option Value) (EE : ki)
noncomputable def pT (H : Hp) (σ : St) (τ : DS) (ρ : List Addr) : Out D → VK → Prop
  | .stuck, _ => False
  | .ok d G', Q => ∀ v H' ρ', ir K H H' ρ ρ' → Ab K mg σ H' τ ρ' G' → Rep K mg ρ' H' d v → Q v H'
  | .fL c G', _ => ∀ H' ρ', ir K H H' ρ ρ' → Ab K mg σ H' τ ρ' G' → EE c σ H'
noncomputable def HY (H : Hp) (σ : St) (τ : DS) (ρ : List Addr) : Out Bool → (Bool → Hp → Prop) → Prop
  | .stuck, _ => False
  | .ok b G', Q => ∀ H' ρ', ir K H H' ρ ρ' → Ab K mg σ H' τ ρ' G' → Q b H'
  | .fL c G', _ => ∀ H' ρ', ir K H H' ρ ρ' → Ab K mg σ H' τ ρ' G' → EE c σ H'
noncomputable def MD (H : Hp) (σ : St) (τ : DS) (ρ : List Addr) : Out (List D) → (List V → Hp → Prop) → Prop
  | .stuck, _ => False
  | .ok ds G', Q => ∀ vs H' ρ', ir K H H' ρ ρ' → Ab K mg σ H' τ ρ' G' → aH K mg ρ' H' ds vs → Q vs H'
  | .fL c G', _ => ∀ H' ρ', ir K H H' ρ ρ' → Ab K mg σ H' τ ρ' G' → EE c σ H'
noncomputable def fR (m : DS → M D) : TE := fun σ H Q => ∃ τ ρ G, Ab K mg σ H τ ρ G ∧ pT K mg EE H σ τ ρ (m τ G) Q
noncomputable def liftT (m : DS → M Bool) : TT := fun σ H Q => ∃ τ ρ G, Ab K mg σ H τ ρ G ∧ HY K mg EE H σ τ ρ (m τ G) Q
noncomputable def qS (m : DS → M (List D)) : TA := fun σ H Q => ∃ τ ρ G, Ab K mg σ H τ ρ G ∧ MD K mg EE H σ τ ρ (m τ G) Q
inductive Res where
  | stuck
  | nx (τ : DS) (G : DH)
  | rt (d : D) (G : DH)
  | bk (τ : DS) (G : DH)
  | ct (τ : DS) (G : DH)
  | xn (c : XD) (τ : DS) (G : DH)
noncomputable def yp (H : Hp) (ρ : List Addr) (Dd : Ends) : Res → Prop
  | .stuck => False
  | .nx τ G => ∀ σ' H' ρ', ir K H H' ρ ρ' → Ab K mg σ' H' τ ρ' G → Dd.nx σ' H'
  | .bk τ G => ∀ σ' H' ρ', ir K H H' ρ ρ' → Ab K mg σ' H' τ ρ' G → Dd.bk σ' H'
  | .ct τ G => ∀ σ' H' ρ', ir K H H' ρ ρ' → Ab K mg σ' H' τ ρ' G → Dd.ct σ' H'
  | .rt d G => ∀ v H' ρ', ir K H H' ρ ρ' → ni K mg H' ρ' G → Rep K mg ρ' H' d v → Dd.rt v H'
  | .xn c τ G => ∀ σ' H' ρ', ir K H H' ρ ρ' → Ab K mg σ' H' τ ρ' G → EE c σ' H'
noncomputable abbrev MS := DS → DH → Res
noncomputable def oQ (m : MS) : TS := fun Dd σ H => ∃ τ ρ G, Ab K mg σ H τ ρ G ∧ yp K mg EE H ρ Dd (m τ G)
end
section
variable {K : PySem.W.Frag} {mg : Str → Option Value} {EE : ki} {H H1 : Hp} {σ : L2.St} {τ : DS} {ρ ρ1 : List Addr}
theorem pT.fut {r : Out D} {Q : VK} (f : ir K H H1 ρ ρ1) (h : pT K mg EE H σ τ ρ r Q) : pT K mg EE H1 σ τ ρ1 r Q := by
  cases r with
  | stuck => exact h
  | ok d G' => exact fun v H' ρ' f' => h v H' ρ' (f.trans f')
  | fL c G' => exact fun H' ρ' f' => h H' ρ' (f.trans f')
theorem HY.fut {r : Out Bool} {Q : Bool → Hp → Prop} (f : ir K H H1 ρ ρ1) (h : HY K mg EE H σ τ ρ r Q) : HY K mg EE H1 σ τ ρ1 r Q := by
  cases r with
  | stuck => exact h
  | ok d G' => exact fun H' ρ' f' => h H' ρ' (f.trans f')
  | fL c G' => exact fun H' ρ' f' => h H' ρ' (f.trans f')
theorem MD.fut {r : Out (List D)} {Q : List V → Hp → Prop} (f : ir K H H1 ρ ρ1) (h : MD K mg EE H σ τ ρ r Q) : MD K mg EE H1 σ τ ρ1 r Q := by
  cases r with
  | stuck => exact h
  | ok d G' => exact fun v H' ρ' f' => h v H' ρ' (f.trans f')
  | fL c G' => exact fun H' ρ' f' => h H' ρ' (f.trans f')
theorem yp.fut {r : Res} {Dd : Ends} (f : ir K H H1 ρ ρ1) (h : yp K mg EE H ρ Dd r) : yp K mg EE H1 ρ1 Dd r := by
  cases r with
  | stuck => exact h
  | nx τ G => exact fun s H' ρ' f' => h s H' ρ' (f.trans f')
  | bk τ G => exact fun s H' ρ' f' => h s H' ρ' (f.trans f')
  | ct τ G => exact fun s H' ρ' f' => h s H' ρ' (f.trans f')
  | rt d G => exact fun s H' ρ' f' => h s H' ρ' (f.trans f')
  | xn c τ G => exact fun s H' ρ' f' => h s H' ρ' (f.trans f')
theorem u9 {m : DS → M D} {k : DS → D → M D} {Q : VK} (h : fR K mg EE (fun τ => (m τ).bind (k τ)) σ H Q) :
    fR K mg EE m σ H fun x H1 => ∃ τ ρ G d, Ab K mg σ H1 τ ρ G ∧ Rep K mg ρ H1 d x ∧ pT K mg EE H1 σ τ ρ (k τ d G) Q := by
  obtain ⟨τ, ρ, G, ab, ok⟩ := h
  refine ⟨τ, ρ, G, ab, ?_⟩
  dsimp only [M.bind] at ok
  cases e : m τ G with
  | stuck => rw [e] at ok; exact ok
  | fL c G' => rw [e] at ok; exact ok
  | ok d G' => rw [e] at ok; exact fun v H' ρ' f fC r => ⟨τ, ρ', G', d, fC, r, ok.fut f⟩
theorem FJ {m : DS → M D} {k : DS → D → M Bool} {Q : Bool → Hp → Prop} (h : liftT K mg EE (fun τ => (m τ).bind (k τ)) σ H Q) :
    fR K mg EE m σ H fun x H1 => ∃ τ ρ G d, Ab K mg σ H1 τ ρ G ∧ Rep K mg ρ H1 d x ∧ HY K mg EE H1 σ τ ρ (k τ d G) Q := by
  obtain ⟨τ, ρ, G, ab, ok⟩ := h
  refine ⟨τ, ρ, G, ab, ?_⟩
  dsimp only [M.bind] at ok
  cases e : m τ G with
  | stuck => rw [e] at ok; exact ok
  | fL c G' => rw [e] at ok; exact ok
  | ok d G' => rw [e] at ok; exact fun v H' ρ' f fC r => ⟨τ, ρ', G', d, fC, r, ok.fut f⟩
theorem CJ {m : DS → M Bool} {k : DS → Bool → M Bool} {Q : Bool → Hp → Prop} (h : liftT K mg EE (fun τ => (m τ).bind (k τ)) σ H Q) :
    liftT K mg EE m σ H fun b H1 => ∃ τ ρ G, Ab K mg σ H1 τ ρ G ∧ HY K mg EE H1 σ τ ρ (k τ b G) Q := by
  obtain ⟨τ, ρ, G, ab, ok⟩ := h
  refine ⟨τ, ρ, G, ab, ?_⟩
  dsimp only [M.bind] at ok
  cases e : m τ G with
  | stuck => rw [e] at ok; exact ok
  | fL c G' => rw [e] at ok; exact ok
  | ok d G' => rw [e] at ok; exact fun H' ρ' f fC => ⟨τ, ρ', G', fC, ok.fut f⟩
theorem KJ {m : DS → M D} {k : DS → D → M (List D)} {Q : List V → Hp → Prop} (h : qS K mg EE (fun τ => (m τ).bind (k τ)) σ H Q) :
    fR K mg EE m σ H fun x H1 => ∃ τ ρ G d, Ab K mg σ H1 τ ρ G ∧ Rep K mg ρ H1 d x ∧ MD K mg EE H1 σ τ ρ (k τ d G) Q := by
  obtain ⟨τ, ρ, G, ab, ok⟩ := h
  refine ⟨τ, ρ, G, ab, ?_⟩
  dsimp only [M.bind] at ok
  cases e : m τ G with
  | stuck => rw [e] at ok; exact ok
  | fL c G' => rw [e] at ok; exact ok
  | ok d G' => rw [e] at ok; exact fun v H' ρ' f fC r => ⟨τ, ρ', G', d, fC, r, ok.fut f⟩
theorem tu {m : DS → M (List D)} {k : DS → List D → M D} {Q : VK} (h : fR K mg EE (fun τ => (m τ).bind (k τ)) σ H Q) :
    qS K mg EE m σ H fun x H1 => ∃ τ ρ G d, Ab K mg σ H1 τ ρ G ∧ aH K mg ρ H1 d x ∧ pT K mg EE H1 σ τ ρ (k τ d G) Q := by
  obtain ⟨τ, ρ, G, ab, ok⟩ := h
  refine ⟨τ, ρ, G, ab, ?_⟩
  dsimp only [M.bind] at ok
  cases e : m τ G with
  | stuck => rw [e] at ok; exact ok
  | fL c G' => rw [e] at ok; exact ok
  | ok d G' => rw [e] at ok; exact fun v H' ρ' f fC r => ⟨τ, ρ', G', d, fC, r, ok.fut f⟩
noncomputable def fS {α : Type} (m : M α) (k : α → DH → Res) (x : XD → DH → Res) : DH → Res := fun G => match m G with
  | .stuck => .stuck
  | .ok a G' => k a G'
  | .fL c G' => x c G'
theorem Aa {m : DS → M D} {k : DS → D → DH → Res} {Dd : Ends} (h : oQ K mg EE (fun τ => fS (m τ) (k τ) fun c G => .xn c τ G) Dd σ H) :
    fR K mg EE m σ H fun x H1 => ∃ τ ρ G d, Ab K mg σ H1 τ ρ G ∧ Rep K mg ρ H1 d x ∧ yp K mg EE H1 ρ Dd (k τ d G) := by
  obtain ⟨τ, ρ, G, ab, ok⟩ := h
  refine ⟨τ, ρ, G, ab, ?_⟩
  dsimp only [fS] at ok
  cases e : m τ G with
  | stuck => rw [e] at ok; exact ok
  | fL c G' => rw [e] at ok; exact fun H' ρ' f fC => ok σ H' ρ' f fC
  | ok d G' => rw [e] at ok; exact fun v H' ρ' f fC r => ⟨τ, ρ', G', d, fC, r, ok.fut f⟩
theorem FL {m : DS → M Bool} {k : DS → Bool → DH → Res} {Dd : Ends} (h : oQ K mg EE (fun τ => fS (m τ) (k τ) fun c G => .xn c τ G) Dd σ H) :
    liftT K mg EE m σ H fun b H1 => ∃ τ ρ G, Ab K mg σ H1 τ ρ G ∧ yp K mg EE H1 ρ Dd (k τ b G) := by
  obtain ⟨τ, ρ, G, ab, ok⟩ := h
  refine ⟨τ, ρ, G, ab, ?_⟩
  dsimp only [fS] at ok
  cases e : m τ G with
  | stuck => rw [e] at ok; exact ok
  | fL c G' => rw [e] at ok; exact fun H' ρ' f fC => ok σ H' ρ' f fC
  | ok d G' => rw [e] at ok; exact fun H' ρ' f fC => ⟨τ, ρ', G', fC, ok.fut f⟩
end
noncomputable def QE (X : Cx) (EE : ki) (e : Expr) (m : DS → M D) : Prop := PE X e (fR X.K X.mg EE m)
noncomputable def QT (X : Cx) (EE : ki) (e : Expr) (m : DS → M Bool) : Prop := PT X e (liftT X.K X.mg EE m)
noncomputable def QW (X : Cx) (EE : ki) (e : Expr) (m : DS → M Bool) : Prop := PW X e (liftT X.K X.mg EE m)
noncomputable def QA (X : Cx) (EE : ki) (es : List Expr) (m : DS → M (List D)) : Prop := PA X es (qS X.K X.mg EE m)
noncomputable def QS (X : Cx) (EE : ki) (st : Stmt) (m : MS) : Prop := PS X st (oQ X.K X.mg EE m)
noncomputable def Et (X : Cx) (EE : ki) (st : List Stmt) (m : MS) : Prop := Cu X st (oQ X.K X.mg EE m)
section
variable {X : Cx}
theorem PE.mono {e : Expr} {t t' : TE} (h : PE X e t) (i : ∀ σ H Q, t' σ H Q → t σ H Q) : PE X e t' := fun pins s σ H Q I q => h pins s σ H Q I (i _ _ _ q)
theorem PT.mono {e : Expr} {t t' : TT} (h : PT X e t) (i : ∀ σ H Q, t' σ H Q → t σ H Q) : PT X e t' := fun pins s σ H Q I q => h pins s σ H Q I (i _ _ _ q)
theorem PA.mono {e : List Expr} {t t' : TA} (h : PA X e t) (i : ∀ σ H Q, t' σ H Q → t σ H Q) : PA X e t' := fun pos pins s σ H Q I q => h pos pins s σ H Q I (i _ _ _ q)
theorem PS.mono {e : Stmt} {t t' : TS} (h : PS X e t) (i : ∀ D σ H, t' D σ H → t D σ H) : PS X e t' := fun pins s σ H D I q => h pins s σ H D I (i _ _ _ q)
theorem Cu.mono {e : List Stmt} {t t' : TS} (h : Cu X e t) (i : ∀ D σ H, t' D σ H → t D σ H) : Cu X e t' := fun pins s σ H D I q => h pins s σ H D I (i _ _ _ q)
end
end L3
end
section
set_option Elab.async false
set_option linter.all false
set_option maxRecDepth 100000
namespace L3
open PySem PySem.Spec L2
section
variable {X : Cx} {EE : ki} {a b c : Expr} {ma mb mc : DS → M D} {pos : Pos}
noncomputable def ai (i : Nat) : DS → M D := fun τ G => match τ[i]? with
  | some (some d) => .ok d G
  | _ => .stuck
noncomputable def eC (d : D) : DS → M D := fun _ => M.ret d
theorem KL (i : Nat) {x : Str} {pos : Pos} (hN : X.N[i]? = some x := by rfl) (hv : JO X.env.scope x := by first | exact Or.inl rfl | exact Or.inr (Or.inl rfl) | exact Or.inr (Or.inr rfl)) (hd : (x == ("__debug__" : Str)) = false := by decide)
    (hcd : (x == ("__classdict__" : Str)) = false := by decide) : QE X EE (.Name x pos) (ai i) := PE.mono (Fj hN hv hd hcd) fun σ H Q ⟨τ, ρ, G, ab, ok⟩ => by
  unfold ai at ok
  cases e : τ[i]? with
  | none => rw [e] at ok; exact ok.elim
  | some o =>
    cases o with
    | none => rw [e] at ok; exact ok.elim
    | some d =>
      rw [e] at ok
      obtain ⟨v, e1, r⟩ := ab.st.2 i d e
      exact ⟨v, e1, ok v H ρ .refl ab r⟩
theorem HZ {d : D} {v : V} {e : Expr} (h : PE X e (tC v)) (r : ∀ ρ H, Rep X.K X.mg ρ H d v) : QE X EE e (eC d) := PE.mono h fun σ H Q ⟨τ, ρ, G, ab, ok⟩ => ok v H ρ .refl ab (r ρ H)
theorem aA {i : Int} {j pos} : QE X EE (.Constant (.int i) j pos) (eC (.int i)) := HZ JS fun _ _ => by unfold Rep; rfl
theorem Js {i : Bool} {j pos} : QE X EE (.Constant (.bool i) j pos) (eC (.bl i)) := HZ L8 fun _ _ => by unfold Rep; rfl
theorem mS {x j pos} : QE X EE (.Constant (.str x) j pos) (eC (.str x)) := HZ JT fun _ _ => by unfold Rep; rfl
noncomputable def aG (f : D → D → M D) (ma mb : DS → M D) : DS → M D := fun τ => (ma τ).bind fun x => (mb τ).bind fun y => f x y
noncomputable def H8 (X : Cx) (EE : ki) (r : R2) (f : D → D → M D) : Prop := ∀ (σ : L2.St) (H : Hp) (τ : DS) (ρ : List Addr) (G : DH) (x y : V) (d e : D) (Q : VK),
  Ab X.K X.mg σ H τ ρ G → Rep X.K X.mg ρ H d x → Rep X.K X.mg ρ H e y → pT X.K X.mg EE H σ τ ρ (f d e G) Q → r x y H Q
theorem wI {f : D → D → M D} {r : R2} (hd : H8 X EE r f) {σ : L2.St} {H : Hp} {Q : VK} (h : fR X.K X.mg EE (aG f ma mb) σ H Q) :
    Mi r (fR X.K X.mg EE ma) (fR X.K X.mg EE mb) σ H Q := by
  obtain ⟨τ, ρ, G, ab, ok⟩ := u9 (k := fun τ x => (mb τ).bind fun y => f x y) h
  refine ⟨τ, ρ, G, ab, ?_⟩
  cases e : ma τ G with
  | stuck => rw [e] at ok; exact ok
  | fL c G' => rw [e] at ok; exact ok
  | ok d G' =>
    rw [e] at ok
    intro v H' ρ' f' fC r'
    obtain ⟨τ2, ρ2, G2, d2, iu, r2, bV⟩ := ok v H' ρ' f' fC r'
    refine ⟨τ2, ρ2, G2, iu, ?_⟩
    dsimp only [M.bind] at bV
    cases e2 : mb τ2 G2 with
    | stuck => rw [e2] at bV; exact bV
    | fL c G' => rw [e2] at bV; exact bV
    | ok d3 G3 =>
      rw [e2] at bV
      exact fun v3 H3 ρ3 f3 zd r3 => hd σ H3 τ2 ρ3 G3 v v3 d2 d3 Q zd (r2.mono f3) r3 (bV.fut f3)
theorem ze {op : Operator} {r : R2} {f : D → D → M D} (ho : sj X (binaryOp op) r) (hd : H8 X EE r f) (ha : QE X EE a ma) (hb : QE X EE b mb) : QE X EE (.BinOp a op b pos) (aG f ma mb) :=
  PE.mono (Mj ho ha hb) fun _ _ _ h => wI hd h
theorem KN {op : CmpOp} {r : R2} {f : D → D → M D} (ho : sj X (compareOp op) r) (hd : H8 X EE r f) (ha : QE X EE a ma) (hb : QE X EE b mb) (hm : behindInMarks op b = false) : QE X EE (.Compare a [op] [b] pos) (aG f ma mb) :=
  PE.mono (HE ho ha hb hm) fun _ _ _ h => wI hd h
theorem ME {r : R2} {f : D → D → M D} (ho : LU X r) (hd : H8 X EE r f) (ha : QE X EE a ma) (hb : QE X EE b mb) (hs : wH b := by intro _ _; rfl) : QE X EE (.Subscript a b pos) (aG f ma mb) :=
  PE.mono (Mx ho ha hb hs) fun _ _ _ h => wI hd h
noncomputable def bT (C : Int → Int → Bool) (g : Int → Int → D) : D → D → M D
  | .int i, .int j => if C i j then M.ret (g i j) else M.stop
  | _, _ => M.stop
theorem DA {C : Int → Int → Bool} {g : Int → Int → D} {d e : D} {G : DH} {σ : L2.St} {H : Hp} {τ : DS} {ρ : List Addr} {Q : VK} (ok : pT X.K X.mg EE H σ τ ρ (bT C g d e G) Q) :
    ∃ i j, d = .int i ∧ e = .int j ∧ C i j = true ∧ pT X.K X.mg EE H σ τ ρ (.ok (g i j) G) Q := by
  cases d <;> cases e <;> try exact ok.elim
  rename_i i j
  dsimp only [bT] at ok
  cases hc : C i j with
  | false => rw [hc] at ok; exact ok.elim
  | true => rw [hc] at ok; exact ⟨i, j, rfl, rfl, hc, ok⟩
theorem wJ {C : Int → Int → Bool} {P : Int → Int → Prop} {g : Int → Int → D} {gv : Int → Int → V} (hC : ∀ i j, C i j = true → P i j) (hg : ∀ i j ρ H, Rep X.K X.mg ρ H (g i j) (gv i j)) : H8 X EE (rI P gv) (bT C g) :=
  fun σ H τ ρ G x y d e Q ab r1 r2 ok => by
    obtain ⟨i, j, rfl, rfl, hc, ok⟩ := DA ok
    unfold Rep at r1 r2
    exact ⟨i, j, r1, r2, hC i j hc, ok _ H ρ .refl ab (hg i j ρ H)⟩
theorem t6 {g : Int → Int → D} {gv : Int → Int → V} (hg : ∀ i j ρ H, Rep X.K X.mg ρ H (g i j) (gv i j)) : H8 X EE (Jp gv) (bT (fun _ _ => true) g) :=
  fun σ H τ ρ G x y d e Q ab r1 r2 ok => by
    obtain ⟨i, j, rfl, rfl, hc, ok⟩ := DA ok
    unfold Rep at r1 r2
    exact ⟨i, j, r1, r2, ok _ H ρ .refl ab (hg i j ρ H)⟩
noncomputable abbrev wZ := bT (fun _ _ => true) fun i j => .int (i - j)
noncomputable abbrev Eu := bT (fun i j => (decide (-(2 ^ 64) < i) && decide (i < 2 ^ 64)) || (decide (-(2 ^ 64) < j) && decide (j < 2 ^ 64))) fun i j => .int (i * j)
noncomputable abbrev zf := bT (fun _ j => decide (0 < j) && decide (j < 1073741824)) fun i j => .int (i / j)
noncomputable abbrev jN := bT (fun _ j => decide (0 < j)) fun i j => .int (i % j)
noncomputable abbrev Ia := bT (fun i j => decide (0 ≤ j) && (decide (j ≤ 1000000) && decide (i.natAbs < 2 ^ 64))) fun i j => .int (i ^ j.toNat)
noncomputable abbrev Ra := bT (fun _ _ => true) fun i j => .bl (decide (i < j))
noncomputable abbrev A2 := bT (fun _ _ => true) fun i j => .bl (decide (j < i))
noncomputable abbrev Oo := bT (fun _ _ => true) fun i j => .bl (decide (j ≤ i))
theorem CK (ha : QE X EE a ma) (hb : QE X EE b mb) : QE X EE (.BinOp a .Sub b pos) (aG wZ ma mb) := ze J9 (t6 fun _ _ _ _ => by unfold Rep; rfl) ha hb
theorem w4 (ha : QE X EE a ma) (hb : QE X EE b mb) : QE X EE (.BinOp a .Mult b pos) (aG Eu ma mb) := ze Ka (wJ (fun i j h => by
  simp only [Bool.or_eq_true, Bool.and_eq_true, decide_eq_true_eq] at h; exact h) fun _ _ _ _ => by unfold Rep; rfl) ha hb
theorem wK (ha : QE X EE a ma) (hb : QE X EE b mb) : QE X EE (.BinOp a .FloorDiv b pos) (aG zf ma mb) := ze HC (wJ (fun i j h => by
  simp only [Bool.and_eq_true, decide_eq_true_eq] at h; exact h) fun _ _ _ _ => by unfold Rep; rfl) ha hb
theorem iw (ha : QE X EE a ma) (hb : QE X EE b mb) : QE X EE (.BinOp a .Mod b pos) (aG jN ma mb) := ze Kc (wJ (fun i j h => of_decide_eq_true h) fun _ _ _ _ => by unfold Rep; rfl) ha hb
theorem KO (ha : QE X EE a ma) (hb : QE X EE b mb) : QE X EE (.BinOp a .Pow b pos) (aG Ia ma mb) := ze Kd (wJ (fun i j h => by
  simp only [Bool.and_eq_true, decide_eq_true_eq] at h; exact h) fun _ _ _ _ => by unfold Rep; rfl) ha hb
noncomputable def fu (ds : List D) : M D := fun G => if ds.length ≤ sizeLine then .ok (.obj G.length) (G ++ [.lst ds]) else .stuck
noncomputable def cN (ds : List D) : M D := fun G => if ds.length ≤ sizeLine then .ok (.tup ds) G else .stuck
theorem Ac {σ : L2.St} {H : Hp} {τ : DS} {ρ : List Addr} {G : DH} {ds : List D} {vs : List V} {Q : VK} (ab : Ab X.K X.mg σ H τ ρ G) (r : aH X.K X.mg ρ H ds vs) (ok : pT X.K X.mg EE H σ τ ρ (fu ds G) Q) :
    vs.length ≤ sizeLine ∧ ∀ p, H p = none → Q (.ref p) (upd H p (.lst vs)) := by
  unfold fu at ok
  split at ok
  · rename_i hl
    rw [r.length] at hl
    refine ⟨hl, fun p hp => ?_⟩
    have f : ir X.K H (upd H p (.lst vs)) ρ (ρ ++ [p]) := (ju hp ρ).trans (jh ρ p)
    refine ok (.ref p) _ (ρ ++ [p]) f (ab.fut f (ab.hp.more hp r)) ?_
    unfold Rep
    exact ⟨p, rfl, by rw [← ab.hp.hl, bg]⟩
  · exact ok.elim
theorem Ad {σ : L2.St} {H : Hp} {τ : DS} {ρ : List Addr} {G : DH} {ds : List D} {vs : List V} {Q : VK} (ab : Ab X.K X.mg σ H τ ρ G) (r : aH X.K X.mg ρ H ds vs) (ok : pT X.K X.mg EE H σ τ ρ (cN ds G) Q) :
    vs.length ≤ sizeLine ∧ ∀ p, H p = none → Q (.ref p) (upd H p (.tup vs)) := by
  unfold cN at ok
  split at ok
  · rename_i hl
    rw [r.length] at hl
    refine ⟨hl, fun p hp => ?_⟩
    have f : ir X.K H (upd H p (.tup vs)) ρ ρ := ju hp ρ
    refine ok (.ref p) _ ρ f (ab.fut f (ab.hp.new hp)) ?_
    unfold Rep
    exact ⟨p, vs, rfl, .of g9, r.mono f⟩
  · exact ok.elim
noncomputable def ao : DS → M (List D) := fun _ => M.ret []
noncomputable def af (m : DS → M D) (r : DS → M (List D)) : DS → M (List D) := fun τ => (m τ).bind fun x => (r τ).bind fun xs => M.ret (x :: xs)
theorem ak : QA X EE [] ao := PA.mono Ft fun σ H Q ⟨τ, ρ, G, ab, ok⟩ => ok [] H ρ .refl ab .nil
theorem Ib {e : Expr} {es : List Expr} {m : DS → M D} {r : DS → M (List D)} (ha : QE X EE e m) (hr : QA X EE es r) (hs : starEach (e :: es) X.env = (false, eval e X.env) :: starEach es X.env := by rfl) : QA X EE (e :: es) (af m r) :=
  PA.mono (zT ha hr hs) fun σ H Q h => by
    obtain ⟨τ, ρ, G, ab, ok⟩ := KJ (k := fun τ x => (r τ).bind fun xs => M.ret (x :: xs)) h
    refine ⟨τ, ρ, G, ab, ?_⟩
    cases e : m τ G with
    | stuck => rw [e] at ok; exact ok
    | fL c G' => rw [e] at ok; exact ok
    | ok d G' =>
      rw [e] at ok
      intro v H' ρ' f' fC r'
      obtain ⟨τ2, ρ2, G2, d2, iu, r2, bV⟩ := ok v H' ρ' f' fC r'
      refine ⟨τ2, ρ2, G2, iu, ?_⟩
      dsimp only [M.bind] at bV
      cases e2 : r τ2 G2 with
      | stuck => rw [e2] at bV; exact bV
      | fL c G' => rw [e2] at bV; exact bV
      | ok d3 G3 =>
        rw [e2] at bV
        exact fun v3 H3 ρ3 f3 zd r3 => bV (v :: v3) H3 ρ3 f3 zd (.cons (r2.mono f3) r3)
noncomputable def az (f : List D → M D) (m : DS → M (List D)) : DS → M D := fun τ => (m τ).bind f
theorem rR {m : DS → M (List D)} {f : List D → M D} {r : List V → Hp → VK → Prop} {σ : L2.St} {H : Hp} {Q : VK}
    (hd : ∀ (H : Hp) (τ : DS) (ρ : List Addr) (G : DH) (xs : List V) (ds : List D), Ab X.K X.mg σ H τ ρ G → aH X.K X.mg ρ H ds xs → pT X.K X.mg EE H σ τ ρ (f ds G) Q → r xs H Q)
    (h : fR X.K X.mg EE (az f m) σ H Q) : qS X.K X.mg EE m σ H fun xs H1 => r xs H1 Q := by
  obtain ⟨τ, ρ, G, ab, ok⟩ := tu (k := fun _ => f) h
  refine ⟨τ, ρ, G, ab, ?_⟩
  cases e : m τ G with
  | stuck => rw [e] at ok; exact ok
  | fL c G' => rw [e] at ok; exact ok
  | ok d G' =>
    rw [e] at ok
    intro v H' ρ' f' fC r'
    obtain ⟨τ2, ρ2, G2, d2, iu, r2, bV⟩ := ok v H' ρ' f' fC r'
    exact hd H' τ2 ρ2 G2 v d2 iu r2 bV
theorem jO {es : List Expr} {m : DS → M (List D)} {x1} (h : QA X EE es m) : QE X EE (.Tuple es x1 pos) (az cN m) :=
  PE.mono (Km h) fun σ H Q h => rR (r := fun xs H1 Q => xs.length ≤ sizeLine ∧ ∀ p, H1 p = none → Q (.ref p) (upd H1 p (.tup xs))) (fun H τ ρ G xs ds ab r ok => Ad ab r ok) h
theorem kj {es : List Expr} {m : DS → M (List D)} (h : QA X EE es m) : QE X EE (.List es pos) (az fu m) :=
  PE.mono (Kn h) fun σ H Q h => rR (r := fun xs H1 Q => xs.length ≤ sizeLine ∧ ∀ p, H1 p = none → Q (.ref p) (upd H1 p (.lst xs))) (fun H τ ρ G xs ds ab r ok => Ac ab r ok) h
noncomputable def CallD (X : Cx) (EE : ki) (r : List V → Hp → VK → Prop) (f : List D → M D) : Prop := ∀ (σ : L2.St) (H : Hp) (τ : DS) (ρ : List Addr) (G : DH) (xs : List V) (ds : List D) (Q : VK),
  Ab X.K X.mg σ H τ ρ G → aH X.K X.mg ρ H ds xs → pT X.K X.mg EE H σ τ ρ (f ds G) Q → r xs H Q
theorem FN {x : Str} {p : Pos} {e : Expr} {es : List Expr} {m : DS → M (List D)} {id : String} {r : List V → Hp → VK → Prop} {f : List D → M D} (hc : oO X (.builtin id) r) (hd : CallD X EE r f) (hm : X.mg x = none) (ha : QA X EE (e :: es) m)
    (hg : Gl X x := by rfl) (hv : bootBuiltins x = some (.builtin id) := by first | rfl | decide) (hn : x ≠ "__name__" := by decide) (hdb : (x == ("__debug__" : Str)) = false := by decide)
    (he : starEach (e :: es) X.env = (false, eval e X.env) :: starEach es X.env := by rfl) (hpl : (backTo pos (starEach es X.env)).any (·.1) = false := by rfl) : QE X EE (.Call (.Name x p) (e :: es) [] pos) (az f m) :=
  PE.mono (Fv hc hg hm hv ha hn hdb he hpl) fun σ H Q h => rR (r := r) (fun H τ ρ G xs ds ab r ok => hd σ H τ ρ G xs ds Q ab r ok) h
theorem Ew {x : Str} {p : Pos} {e : Expr} {es : List Expr} {m : DS → M (List D)} {T : String} {r : List V → Hp → VK → Prop} {f : List D → M D} (hc : oO X (.type T) r) (hd : CallD X EE r f) (hm : X.mg x = none) (ha : QA X EE (e :: es) m)
    (hg : Gl X x := by rfl) (hv : bootBuiltins x = some (.type T) := by first | rfl | decide) (hn : x ≠ "__name__" := by decide) (hdb : (x == ("__debug__" : Str)) = false := by decide)
    (he : starEach (e :: es) X.env = (false, eval e X.env) :: starEach es X.env := by rfl) (hpl : (backTo pos (starEach es X.env)).any (·.1) = false := by rfl) : QE X EE (.Call (.Name x p) (e :: es) [] pos) (az f m) :=
  PE.mono (En hc hg hm hv ha hn hdb he hpl) fun σ H Q h => rR (r := r) (fun H τ ρ G xs ds ab r ok => hd σ H τ ρ G xs ds Q ab r ok) h
noncomputable def w6 (f : D → M Bool) (m : DS → M D) : DS → M Bool := fun τ => (m τ).bind f
noncomputable def iz : D → M Bool
  | .lG => M.ret false
  | .bl b => M.ret b
  | .int i => M.ret (i != 0)
  | .str y => if y.length ≤ sizeLine then M.ret ((y.length : Int) != 0) else M.stop
  | .tup xs => M.ret (!xs.isEmpty)
  | .con xs => M.ret (!xs.isEmpty)
  | .obj n => fun G => match G[n]? with
    | some (.lst xs) => .ok (!xs.isEmpty) G
    | _ => .stuck
  | .fn _ => M.stop
  | .zc _ _ => M.stop
theorem pW {K : PySem.W.Frag} {mg : Str → Option Value} {ρ : List Addr} {H : Hp} {ds : List D} {vs : List V} (r : aH K mg ρ H ds vs) : (!vs.isEmpty) = !ds.isEmpty := by
  have := r.length
  cases ds <;> cases vs <;> first | rfl | (simp at this)
theorem FO {m : DS → M D} {σ : L2.St} {H : Hp} {Q : Bool → Hp → Prop} (h : liftT X.K X.mg EE (w6 iz m) σ H Q) :
    fR X.K X.mg EE m σ H fun x H1 => ∃ k, Kh X.K x H1 k ∧ Q k H1 := by
  obtain ⟨τ, ρ, G, ab, ok⟩ := FJ (k := fun _ => iz) h
  refine ⟨τ, ρ, G, ab, ?_⟩
  cases e : m τ G with
  | stuck => rw [e] at ok; exact ok
  | fL c G' => rw [e] at ok; exact ok
  | ok d G' =>
    rw [e] at ok
    intro v H' ρ' f' fC r'
    obtain ⟨τ2, ρ2, G2, d2, iu, r2, bV⟩ := ok v H' ρ' f' fC r'
    cases d2 with
    | lG => unfold Rep at r2; subst r2; exact ⟨false, rfl, bV H' ρ2 .refl iu⟩
    | bl b => unfold Rep at r2; subst r2; exact ⟨b, rfl, bV H' ρ2 .refl iu⟩
    | int i => unfold Rep at r2; subst r2; exact ⟨_, rfl, bV H' ρ2 .refl iu⟩
    | str y =>
      unfold Rep at r2; subst r2
      dsimp only [iz] at bV
      split at bV
      · rename_i hl; exact ⟨_, ⟨hl, rfl⟩, bV H' ρ2 .refl iu⟩
      · exact bV.elim
    | tup xs =>
      unfold Rep at r2
      obtain ⟨p, vs, rfl, sq, rs⟩ := r2
      exact ⟨!vs.isEmpty, .inr (.inl ⟨vs, sq, rfl⟩), by rw [pW rs]; exact bV H' ρ2 .refl iu⟩
    | con xs =>
      unfold Rep at r2
      obtain ⟨p, vs, rfl, sq, rs⟩ := r2
      exact ⟨!vs.isEmpty, .inl ⟨vs, sq.seq, rfl⟩, by rw [pW rs]; exact bV H' ρ2 .refl iu⟩
    | obj n =>
      unfold Rep at r2
      obtain ⟨p, rfl, e1⟩ := r2
      dsimp only [iz] at bV
      cases q : G2[n]? with
      | none => rw [q] at bV; exact bV.elim
      | some o =>
        cases o with
        | dead => first | (rw [q] at ok; exact ok.elim) | (rw [q] at bV; exact bV.elim) | (rw [q] at e; cases e; done) | (rw [g] at ok; exact ok.elim) | (rw [g] at q; cases q; done) | (rw [g] at h; cases h; done) | (rw [g2] at ok; exact ok.elim) | (rw [g1, g2] at ok; exact ok.elim) | (rw [q1] at ok; exact ok.elim) | exact ok.elim
        | dct kv => first | (rw [q] at ok; exact ok.elim) | (rw [q] at bV; exact bV.elim) | (rw [q] at e; cases e; done) | (rw [g] at ok; exact ok.elim) | (rw [g] at q; cases q; done) | (rw [g] at h; cases h; done) | (rw [g2] at ok; exact ok.elim) | (rw [g1, g2] at ok; exact ok.elim) | (rw [q1] at ok; exact ok.elim) | exact ok.elim
        | lst xs =>
          rw [q] at bV
          obtain ⟨p', vs, e2, hp, rs⟩ := iu.hp.lst q
          rw [e1] at e2; cases e2
          exact ⟨!vs.isEmpty, .inl ⟨vs, .of hp, rfl⟩, by rw [pW rs]; exact bV H' ρ2 .refl iu⟩
    | fn x => exact bV.elim
    | zc c as => exact bV.elim
theorem KP (ha : QE X EE a ma) (he : ∀ whole, isTrue a X.env whole = (do let v ← whole; standAt a.pos; holding [v] (truthy v)) := by intro _; rfl) : QT X EE a (w6 iz ma) :=
  PT.mono (Fp ha he) fun σ H Q h => FO h
end
end L3
end
section
set_option Elab.async false
set_option linter.all false
set_option maxRecDepth 100000
namespace L3
open PySem PySem.Spec L2
noncomputable def iy {α β : Type} (f : α → Option β) : List α → Option (List β)
  | [] => some []
  | a :: r => match f a, iy f r with
    | some b, some bs => some (b :: bs)
    | _, _ => none
noncomputable def qF (G : DH) : Nat → D → Option PyData
  | 0, _ => none
  | _ + 1, .lG => some .none
  | _ + 1, .bl b => some (.bool b)
  | _ + 1, .int i => some (.int i)
  | _ + 1, .str x => some (.str x)
  | n + 1, .tup ds => (iy (qF G n) ds).map .tuple
  | n + 1, .con ds => (iy (qF G n) ds).map .list
  | n + 1, .obj k => match G[k]? with
    | some (.lst ds) => (iy (qF G n) ds).map .list
    | _ => none
  | _ + 1, .fn _ => none
  | _ + 1, .zc _ _ => none
section
variable {X : Cx} {EE : ki} {pins : List (Addr × Obj)} {σ : L2.St} {H : Hp} {s : Shared} {ρ : List Addr} {G : DH}
theorem readsAll {f : D → Option PyData} (hf : ∀ (d : D) (x : V) (u : Value) (p : PyData), Rep X.K X.mg ρ H d x → RelV x u → f d = some p → ∃ as, Reads s.heap u p as) :
    ∀ (ds : List D) (xs : List V) (us : List Value) (ps : List PyData), aH X.K X.mg ρ H ds xs → Vals xs us → iy f ds = some ps → ∃ as, ReadsAll s.heap us ps as
  | [], xs, us, ps, r, v, e => by
    unfold aH at r; subst r
    cases v; cases e
    exact ⟨[], .nil⟩
  | d :: ds, xs, us, ps, r, v, e => by
    unfold aH at r
    obtain ⟨x, r', rfl, h1, h2⟩ := r
    cases v with
    | cons v1 v2 =>
    unfold iy at e
    cases e1 : f d with
    | none => rw [e1] at e; cases e
    | some p =>
      cases e2 : iy f ds with
      | none => rw [e1, e2] at e; cases e
      | some qs =>
        rw [e1, e2] at e
        cases e
        obtain ⟨as, a1⟩ := hf d x _ p h1 v1 e1
        obtain ⟨bs, a2⟩ := readsAll hf ds r' _ qs h2 v2 e2
        exact ⟨as ++ bs, .cons a1 a2⟩
theorem ji (I : Inv X pins σ H s) (hp : ni X.K X.mg H ρ G) : ∀ (n : Nat) (d : D) (x : V) (u : Value) (p : PyData), Rep X.K X.mg ρ H d x → RelV x u → qF G n d = some p → ∃ as, Reads s.heap u p as
  | 0, _, _, _, _, _, _, e => nomatch e
  | n + 1, .lG, x, u, p, r, v, e => by unfold Rep at r; subst r; cases v; cases e; exact ⟨_, .none⟩
  | n + 1, .bl b, x, u, p, r, v, e => by unfold Rep at r; subst r; cases v; cases e; exact ⟨_, .bool b⟩
  | n + 1, .int i, x, u, p, r, v, e => by unfold Rep at r; subst r; obtain ⟨t, rfl⟩ := v; cases e; exact ⟨_, .int i t⟩
  | n + 1, .str y, x, u, p, r, v, e => by unfold Rep at r; subst r; obtain ⟨t, rfl⟩ := v; cases e; exact ⟨_, .str y t⟩
  | n + 1, .tup ds, x, u, p, r, v, e => by
    unfold Rep at r
    obtain ⟨a, xs, rfl, sq, rs⟩ := r
    cases v
    obtain ⟨its, vs, ⟨o, e1, e2, k, e3⟩, _⟩ := I.tuple sq
    unfold qF at e
    cases q : iy (qF G n) ds with
    | none => rw [q] at e; cases e
    | some ps =>
      rw [q] at e; cases e
      obtain ⟨as, ra⟩ := readsAll (fun d x u p => ji I hp n d x u p) ds xs its ps rs vs q
      exact ⟨as, .tuple e1 e2 e3 (by simpa using ra)⟩
  | n + 1, .con ds, x, u, p, r, v, e => by
    unfold Rep at r
    obtain ⟨a, xs, rfl, sq, rs⟩ := r
    cases v
    obtain ⟨its, vs, ⟨o, k, e1, e2, e3, e4⟩, _⟩ := I.list sq.seq
    unfold qF at e
    cases q : iy (qF G n) ds with
    | none => rw [q] at e; cases e
    | some ps =>
      rw [q] at e; cases e
      obtain ⟨as, ra⟩ := readsAll (fun d x u p => ji I hp n d x u p) ds xs its ps rs vs q
      exact ⟨_, .list e1 e2 e4 (by simpa using ra)⟩
  | n + 1, .obj k, x, u, p, r, v, e => by
    unfold Rep at r
    obtain ⟨a, rfl, e0⟩ := r
    cases v
    dsimp only [qF] at e
    cases q : G[k]? with
    | none => rw [q] at e; cases e
    | some o =>
      cases o with
      | dead => first | (rw [q] at ok; exact ok.elim) | (rw [q] at bV; exact bV.elim) | (rw [q] at e; cases e; done) | (rw [g] at ok; exact ok.elim) | (rw [g] at q; cases q; done) | (rw [g] at h; cases h; done) | (rw [g2] at ok; exact ok.elim) | (rw [g1, g2] at ok; exact ok.elim) | (rw [q1] at ok; exact ok.elim) | exact ok.elim
      | dct kv => first | (rw [q] at ok; exact ok.elim) | (rw [q] at bV; exact bV.elim) | (rw [q] at e; cases e; done) | (rw [g] at ok; exact ok.elim) | (rw [g] at q; cases q; done) | (rw [g] at h; cases h; done) | (rw [g2] at ok; exact ok.elim) | (rw [g1, g2] at ok; exact ok.elim) | (rw [q1] at ok; exact ok.elim) | exact ok.elim
      | lst ds =>
        rw [q] at e
        obtain ⟨a', xs, e1, e2, rs⟩ := hp.lst q
        rw [e0] at e1; cases e1
        obtain ⟨its, vs, ⟨o, k, e1, e2, e3, e4⟩, _⟩ := I.list (.of e2)
        dsimp only at e
        cases q : iy (qF G n) ds with
        | none => rw [q] at e; cases e
        | some ps =>
          rw [q] at e; cases e
          obtain ⟨as, ra⟩ := readsAll (fun d x u p => ji I hp n d x u p) ds xs its ps rs vs q
          exact ⟨_, .list e1 e2 e4 (by simpa using ra)⟩
  | n + 1, .fn y, x, u, p, r, v, e => nomatch e
  | n + 1, .zc y _, x, u, p, r, v, e => nomatch e
end
section
variable {X : Cx} {EE : ki} {a b c : Expr} {ma mb mc : DS → M D} {pos : Pos}
noncomputable def rD (X : Cx) (EE : ki) (f : D → D → M D) : R2 := fun x y H Q => ∃ σ τ ρ G d e, Ab X.K X.mg σ H τ ρ G ∧ Rep X.K X.mg ρ H d x ∧ Rep X.K X.mg ρ H e y ∧ pT X.K X.mg EE H σ τ ρ (f d e G) Q
theorem t7 {f : D → D → M D} : H8 X EE (rD X EE f) f := fun σ H τ ρ G x y d e Q ab r1 r2 ok => ⟨σ, τ, ρ, G, d, e, ab, r1, r2, ok⟩
theorem MF {f : D → D → M D} {r : R2} (h : H8 X EE r f) {x y : V} {H : Hp} {Q : VK} (q : rD X EE f x y H Q) : r x y H Q := by
  obtain ⟨σ, τ, ρ, G, d, e, ab, r1, r2, ok⟩ := q
  exact h σ H τ ρ G x y d e Q ab r1 r2 ok
noncomputable abbrev deep : Nat := 600
noncomputable def Bj (d e : D) (G : DH) : Option Bool := match qF G deep d, qF G deep e with
  | some p, some q => if p.canLay0 && (q.canLay0 && decide (min p.depth q.depth ≤ 580)) then some (PyData.eqv p q) else none
  | _, _ => none
noncomputable def j5 (neg : Bool) (d e : D) : M D := fun G => match Bj d e G with
  | some b => .ok (.bl (neg ^^ b)) G
  | none => .stuck
theorem iE (hu : X.A.units + 600 < cLine) : sj X (compareOp .Eq) (rD X EE (j5 false)) := by
  intro pins s σ0 H x y v u Q I rx ry ⟨σ, τ, ρ, G, d, e, ab, r1, r2, ok⟩
  dsimp only [j5, Bj] at ok
  cases e1 : qF G deep d with
  | none => rw [e1] at ok; exact ok.elim
  | some p =>
    cases e2 : qF G deep e with
    | none => rw [e1, e2] at ok; exact ok.elim
    | some q =>
      rw [e1, e2] at ok
      dsimp only at ok
      by_cases hc : (p.canLay0 && (q.canLay0 && decide (min p.depth q.depth ≤ 580))) = true
      · rw [if_pos hc] at ok
        simp only [Bool.and_eq_true, decide_eq_true_eq] at hc
        obtain ⟨as, ra⟩ := ji I ab.hp deep d x v p r1 rx e1
        obtain ⟨bs, rb⟩ := ji I ab.hp deep e y u q r2 ry e2
        refine SeqAt.compareEq_reads ra rb hc.1 hc.2.1 (by omega) ⟨.bl _, H, I, rfl, ?_⟩
        have := ok (.bl _) H ρ .refl ab (by unfold Rep; rfl)
        simpa using this
      · rw [if_neg hc] at ok; exact ok.elim
theorem FP (hu : X.A.units + 600 < cLine) : sj X (compareOp .NotEq) (rD X EE (j5 true)) := by
  intro pins s σ0 H x y v u Q I rx ry ⟨σ, τ, ρ, G, d, e, ab, r1, r2, ok⟩
  dsimp only [j5, Bj] at ok
  cases e1 : qF G deep d with
  | none => rw [e1] at ok; exact ok.elim
  | some p =>
    cases e2 : qF G deep e with
    | none => rw [e1, e2] at ok; exact ok.elim
    | some q =>
      rw [e1, e2] at ok
      dsimp only at ok
      by_cases hc : (p.canLay0 && (q.canLay0 && decide (min p.depth q.depth ≤ 580))) = true
      · rw [if_pos hc] at ok
        simp only [Bool.and_eq_true, decide_eq_true_eq] at hc
        obtain ⟨as, ra⟩ := ji I ab.hp deep d x v p r1 rx e1
        obtain ⟨bs, rb⟩ := ji I ab.hp deep e y u q r2 ry e2
        refine SeqAt.compareNe_reads ra rb hc.1 hc.2.1 (by omega) ⟨.bl _, H, I, rfl, ?_⟩
        have := ok (.bl _) H ρ .refl ab (by unfold Rep; rfl)
        simpa using this
      · rw [if_neg hc] at ok; exact ok.elim
theorem Jt (hu : X.A.units + 600 < cLine) (ha : QE X EE a ma) (hb : QE X EE b mb) : QE X EE (.Compare a [.Eq] [b] pos) (aG (j5 false) ma mb) := KN (iE hu) t7 ha hb (Kg _)
inductive Pg where
  | lst (xs : List D) | tup (xs : List D) | str (x : Str)
noncomputable def aD (G : DH) : D → Option Pg
  | .tup xs => some (.tup xs)
  | .con xs => some (.lst xs)
  | .obj n => match G[n]? with
    | some (.lst xs) => some (.lst xs)
    | _ => none
  | .str x => some (.str x)
  | _ => none
noncomputable def Ju (d : D) (ds : List D) (G : DH) : Option Bool := match qF G deep d, iy (qF G deep) ds with
  | some p, some qs => if p.canLay0 && (PyData.canLayAll0 qs && decide (min (PyData.depthAll qs) p.depth ≤ 580)) then some (qs.any fun y => PyData.eqv y p) else none
  | _, _ => none
noncomputable def MG (neg : Bool) (d e : D) : M D := fun G => match aD G e with
  | some (.lst ds) => match Ju d ds G with
    | some b => .ok (.bl (neg ^^ b)) G
    | none => .stuck
  | some (.tup ds) => match Ju d ds G with
    | some b => .ok (.bl (neg ^^ b)) G
    | none => .stuck
  | some (.str j) => match d with
    | .str i => .ok (.bl (neg ^^ !(Builtin.Str.occurrences j i 0 j.length 1).isEmpty)) G
    | _ => .stuck
  | none => .stuck
theorem gY {pins : List (Addr × Obj)} {σ0 : L2.St} {H : Hp} {s : Shared} {ρ : List Addr} {G : DH} {d : D} {ds : List D} {x : V} (h : ni X.K X.mg H ρ G) (r : Rep X.K X.mg ρ H d x) (e : aD G d = some (.lst ds)) :
    ∃ p xs, x = .ref p ∧ sf X.K H p xs ∧ aH X.K X.mg ρ H ds xs := by
  cases d with
  | con xs =>
    cases e
    unfold Rep at r
    obtain ⟨a, xs, rfl, sq, rs⟩ := r
    exact ⟨a, xs, rfl, sq.seq, rs⟩
  | obj n =>
    unfold Rep at r
    obtain ⟨a, rfl, e0⟩ := r
    dsimp only [aD] at e
    cases q : G[n]? with
    | none => rw [q] at e; cases e
    | some o =>
      cases o with
      | dead => first | (rw [q] at ok; exact ok.elim) | (rw [q] at bV; exact bV.elim) | (rw [q] at e; cases e; done) | (rw [g] at ok; exact ok.elim) | (rw [g] at q; cases q; done) | (rw [g] at h; cases h; done) | (rw [g2] at ok; exact ok.elim) | (rw [g1, g2] at ok; exact ok.elim) | (rw [q1] at ok; exact ok.elim) | exact ok.elim
      | dct kv => first | (rw [q] at ok; exact ok.elim) | (rw [q] at bV; exact bV.elim) | (rw [q] at e; cases e; done) | (rw [g] at ok; exact ok.elim) | (rw [g] at q; cases q; done) | (rw [g] at h; cases h; done) | (rw [g2] at ok; exact ok.elim) | (rw [g1, g2] at ok; exact ok.elim) | (rw [q1] at ok; exact ok.elim) | exact ok.elim
      | lst ys =>
        rw [q] at e; cases e
        obtain ⟨a', xs, e1, e2, rs⟩ := h.lst q
        rw [e0] at e1; cases e1
        exact ⟨a, xs, rfl, .of e2, rs⟩
  | _ => cases e
theorem pG {H : Hp} {ρ : List Addr} {G : DH} {d : D} {ds : List D} {x : V} (r : Rep X.K X.mg ρ H d x) (e : aD G d = some (.tup ds)) :
    ∃ p xs, x = .ref p ∧ sZ X.K H p xs ∧ aH X.K X.mg ρ H ds xs := by
  cases d with
  | tup xs =>
    cases e
    unfold Rep at r
    obtain ⟨a, xs, rfl, sq, rs⟩ := r
    exact ⟨a, xs, rfl, sq, rs⟩
  | obj n =>
    dsimp only [aD] at e
    cases q : G[n]? with
    | none => rw [q] at e; cases e
    | some o => cases o <;> (rw [q] at e; cases e)
  | _ => cases e
theorem rS {H : Hp} {ρ : List Addr} {G : DH} {d : D} {y : Str} {x : V} (r : Rep X.K X.mg ρ H d x) (e : aD G d = some (.str y)) : d = .str y ∧ x = .str y := by
  cases d with
  | str z => cases e; unfold Rep at r; exact ⟨rfl, r⟩
  | obj n =>
    dsimp only [aD] at e
    cases q : G[n]? with
    | none => rw [q] at e; cases e
    | some o => cases o <;> (rw [q] at e; cases e)
  | _ => cases e
theorem KQ {pins : List (Addr × Obj)} {σ0 : L2.St} {H : Hp} {s : Shared} {ρ : List Addr} {G : DH} {p : Addr} {xs : List V} {ds : List D} {qs : List PyData} (I : Inv X pins σ0 H s) (hp : ni X.K X.mg H ρ G) (sq : sf X.K H p xs) (rs : aH X.K X.mg ρ H ds xs)
    (e : iy (qF G deep) ds = some qs) : ∃ as, Reads s.heap (.ref p) (.list qs) as := by
  obtain ⟨its, vs, ⟨o, k, e1, e2, e3, e4⟩, _⟩ := I.list sq
  obtain ⟨as, ra⟩ := readsAll (fun d x u p => ji I hp deep d x u p) ds xs its qs rs vs e
  exact ⟨_, .list e1 e2 e4 (by simpa using ra)⟩
theorem KR {pins : List (Addr × Obj)} {σ0 : L2.St} {H : Hp} {s : Shared} {ρ : List Addr} {G : DH} {p : Addr} {xs : List V} {ds : List D} {qs : List PyData} (I : Inv X pins σ0 H s) (hp : ni X.K X.mg H ρ G) (sq : sZ X.K H p xs) (rs : aH X.K X.mg ρ H ds xs)
    (e : iy (qF G deep) ds = some qs) : ∃ as, Reads s.heap (.ref p) (.tuple qs) as := by
  obtain ⟨its, vs, ⟨o, e1, e2, k, e3⟩, _⟩ := I.tuple sq
  obtain ⟨as, ra⟩ := readsAll (fun d x u p => ji I hp deep d x u p) ds xs its qs rs vs e
  exact ⟨_, .tuple e1 e2 e3 (by simpa using ra)⟩
theorem Bk {d : D} {ds : List D} {G : DH} {b : Bool} (h : Ju d ds G = some b) : ∃ p qs, qF G deep d = some p ∧ iy (qF G deep) ds = some qs ∧ p.canLay0 = true ∧ PyData.canLayAll0 qs = true ∧ min (PyData.depthAll qs) p.depth ≤ 580 ∧ b = qs.any fun y => PyData.eqv y p := by
  unfold Ju at h
  cases e1 : qF G deep d with
  | none => rw [e1] at h; cases h
  | some p =>
    cases e2 : iy (qF G deep) ds with
    | none => rw [e1, e2] at h; cases h
    | some qs =>
      rw [e1, e2] at h
      dsimp only at h
      by_cases hc : (p.canLay0 && (PyData.canLayAll0 qs && decide (min (PyData.depthAll qs) p.depth ≤ 580))) = true
      · rw [if_pos hc] at h
        simp only [Bool.and_eq_true, decide_eq_true_eq] at hc
        exact ⟨p, qs, rfl, rfl, hc.1, hc.2.1, hc.2.2, (Option.some.inj h).symm⟩
      · rw [if_neg hc] at h; cases h
theorem KS (hu : X.A.units + 600 < cLine) : sj X (compareOp .In) (rD X EE (MG false)) := by
  intro pins s σ0 H x y v u Q I rx ry ⟨σ, τ, ρ, G, d, e, ab, r1, r2, ok⟩
  dsimp only [MG] at ok
  cases q : aD G e with
  | none => rw [q] at ok; exact ok.elim
  | some sk =>
    rw [q] at ok
    cases sk with
    | lst ds =>
      dsimp only at ok
      cases qb : Ju d ds G with
      | none => rw [qb] at ok; exact ok.elim
      | some b =>
        rw [qb] at ok
        obtain ⟨p, qs, e1, e2, h1, h2, h3, rfl⟩ := Bk qb
        obtain ⟨l, xs, rfl, sq, rs⟩ := gY (pins := pins) (σ0 := σ0) (s := s) ab.hp r2 q
        cases ry
        obtain ⟨as, ra⟩ := ji I ab.hp deep d x v p r1 rx e1
        obtain ⟨bs, rb⟩ := KQ I ab.hp sq rs e2
        refine SeqAt.in_list_reads rb ra h2 h1 (by omega) ⟨.bl _, H, I, rfl, ?_⟩
        have := ok (.bl _) H ρ .refl ab (by unfold Rep; rfl)
        simpa using this
    | tup ds =>
      dsimp only at ok
      cases qb : Ju d ds G with
      | none => rw [qb] at ok; exact ok.elim
      | some b =>
        rw [qb] at ok
        obtain ⟨p, qs, e1, e2, h1, h2, h3, rfl⟩ := Bk qb
        obtain ⟨l, xs, rfl, sq, rs⟩ := pG r2 q
        cases ry
        obtain ⟨as, ra⟩ := ji I ab.hp deep d x v p r1 rx e1
        obtain ⟨bs, rb⟩ := KR I ab.hp sq rs e2
        refine SeqAt.in_tuple_reads rb ra h2 h1 (by omega) ⟨.bl _, H, I, rfl, ?_⟩
        have := ok (.bl _) H ρ .refl ab (by unfold Rep; rfl)
        simpa using this
    | str j =>
      obtain ⟨rfl, rfl⟩ := rS r2 q
      cases d with
      | str i =>
        unfold Rep at r1; subst r1
        refine Ek pins s σ0 H _ _ v u Q I rx ry ⟨i, j, rfl, rfl, ?_⟩
        have := ok (.bl _) H ρ .refl ab (by unfold Rep; rfl)
        simpa using this
      | _ => exact ok.elim
end
end L3
end
section
set_option Elab.async false
set_option linter.all false
set_option maxRecDepth 100000
namespace L3
open PySem PySem.Spec L2
section
variable {X : Cx} {EE : ki} {a b c : Expr} {ma mb mc : DS → M D} {pos : Pos}
noncomputable def fD (d e : D) : M D := fun G => match e with
  | .int i => match aD G d with
    | some (.lst xs) => match tS xs i with
      | some v => .ok v G
      | none => .stuck
    | some (.tup xs) => match tS xs i with
      | some v => .ok v G
      | none => .stuck
    | some (.str z) => if z.length ≤ sizeLine then (match tS z.cps.toList i with
      | some c => .ok (.str ⟨#[c]⟩) G
      | none => .stuck) else .stuck
    | none => .stuck
  | _ => .stuck
theorem Bl {K : PySem.W.Frag} {mg : Str → Option Value} {ρ : List Addr} {H : Hp} {ds : List D} {vs : List V} {i : Int} {d : D} (r : aH K mg ρ H ds vs) (h : tS ds i = some d) : ∃ v, tS vs i = some v ∧ Rep K mg ρ H d v := by
  unfold tS at h ⊢
  rw [← r.length]
  cases e : HN ds.length i with
  | none => rw [e] at h; cases h
  | some j =>
    rw [e] at h
    obtain ⟨v, e1, e2⟩ := r.get (show ds[j]? = some d from h)
    exact ⟨v, e1, e2⟩
theorem Ph : LU X (rD X EE fD) := by
  intro value slice pins s σ0 H x y v u Q I rx ry ⟨σ, τ, ρ, G, d, e, ab, r1, r2, ok⟩ hs
  cases e <;> try exact ok.elim
  rename_i i
  unfold Rep at r2; subst r2
  dsimp only [fD] at ok
  cases q : aD G d with
  | none => rw [q] at ok; exact ok.elim
  | some sk =>
    rw [q] at ok
    cases sk with
    | lst ds =>
      dsimp only at ok
      cases qa : tS ds i with
      | none => rw [qa] at ok; exact ok.elim
      | some z =>
        rw [qa] at ok
        obtain ⟨l, xs, rfl, sq, rs⟩ := gY (pins := pins) (σ0 := σ0) (s := s) ab.hp r1 q
        obtain ⟨w, e1, e2⟩ := Bl rs qa
        exact HQ value slice pins s σ0 H _ _ v u Q I rx ry ⟨l, xs, i, w, rfl, rfl, sq, e1, ok w H ρ .refl ab e2⟩ hs
    | tup ds =>
      dsimp only at ok
      cases qa : tS ds i with
      | none => rw [qa] at ok; exact ok.elim
      | some z =>
        rw [qa] at ok
        obtain ⟨l, xs, rfl, sq, rs⟩ := pG r1 q
        obtain ⟨w, e1, e2⟩ := Bl rs qa
        exact Ks value slice pins s σ0 H _ _ v u Q I rx ry ⟨l, xs, i, w, rfl, rfl, sq, e1, ok w H ρ .refl ab e2⟩ hs
    | str z =>
      dsimp only at ok
      obtain ⟨rfl, rfl⟩ := rS r1 q
      by_cases hz : z.length ≤ sizeLine
      · rw [if_pos hz] at ok
        cases qa : tS z.cps.toList i with
        | none => rw [qa] at ok; exact ok.elim
        | some c =>
          rw [qa] at ok
          exact Ku value slice pins s σ0 H _ _ v u Q I rx ry ⟨z, i, c, rfl, rfl, hz, qa, ok _ H ρ .refl ab (by unfold Rep; rfl)⟩ hs
      · rw [if_neg hz] at ok; exact ok.elim
theorem FQ (ha : QE X EE a ma) (hb : QE X EE b mb) (hs : wH b := by intro _ _; rfl) : QE X EE (.Subscript a b pos) (aG fD ma mb) := ME Ph t7 ha hb hs
noncomputable def dQ : DS → M (Option Int) := fun _ => M.ret none
noncomputable def dF (m : DS → M D) : DS → M (Option Int) := fun τ => (m τ).bind fun d => match d with
  | .int i => M.ret (some i)
  | _ => M.stop
noncomputable def SK (K : PySem.W.Frag) (mg : Str → Option Value) (EE : ki) (H : Hp) (σ : L2.St) (τ : DS) (ρ : List Addr) : Out (Option Int) → (Option Int → Hp → Prop) → Prop
  | .stuck, _ => False
  | .ok b G', Q => ∀ H' ρ', ir K H H' ρ ρ' → Ab K mg σ H' τ ρ' G' → Q b H'
  | .fL c G', _ => ∀ H' ρ', ir K H H' ρ ρ' → Ab K mg σ H' τ ρ' G' → EE c σ H'
noncomputable def MH (K : PySem.W.Frag) (mg : Str → Option Value) (EE : ki) (m : DS → M (Option Int)) : TO := fun σ H Q => ∃ τ ρ G, Ab K mg σ H τ ρ G ∧ SK K mg EE H σ τ ρ (m τ G) Q
noncomputable def QO (X : Cx) (EE : ki) (e : Option Expr) (m : DS → M (Option Int)) : Prop := PO X e (MH X.K X.mg EE m)
theorem PO.mono {e : Option Expr} {t t' : TO} (h : PO X e t) (i : ∀ σ H Q, t' σ H Q → t σ H Q) : PO X e t' := fun pins s σ H Q I q => h pins s σ H Q I (i _ _ _ q)
theorem jw : QO X EE none dQ := PO.mono HJ fun σ H Q ⟨τ, ρ, G, ab, ok⟩ => ok H ρ .refl ab
theorem jx (ha : QE X EE a ma) : QO X EE (some a) (dF ma) := PO.mono (HL ha) fun σ H Q ⟨τ, ρ, G, ab, ok⟩ => by
  refine ⟨τ, ρ, G, ab, ?_⟩
  dsimp only [dF, M.bind] at ok
  cases e : ma τ G with
  | stuck => rw [e] at ok; exact ok
  | fL c G' => rw [e] at ok; exact ok
  | ok d G' =>
    rw [e] at ok
    intro v H' ρ' f fC r
    cases d <;> try exact ok.elim
    rename_i i
    unfold Rep at r
    exact ⟨i, r, ok H' ρ' f fC⟩
noncomputable def cutD (xs : List D) (lo hi : Option Int) : List D := (xs.drop (HT.jL xs.length 0 lo)).take (HT.jL xs.length xs.length hi - HT.jL xs.length 0 lo)
noncomputable def DB (d : D) (lo hi : Option Int) : M D := fun G => match aD G d with
  | some (.lst xs) => fu (cutD xs lo hi) G
  | some (.tup xs) => if HT.jL xs.length 0 lo = 0 ∧ HT.jL xs.length xs.length hi = xs.length then .stuck else cN (cutD xs lo hi) G
  | some (.str z) => if z.length ≤ sizeLine then .ok (.str (Txt.slice z lo hi)) G else .stuck
  | none => .stuck
noncomputable def oH (m : DS → M D) (ml mh : DS → M (Option Int)) : DS → M D := fun τ => (m τ).bind fun d => (ml τ).bind fun lo => (mh τ).bind fun hi => DB d lo hi
noncomputable def Pj (X : Cx) (EE : ki) : V → Option Int → Option Int → Hp → VK → Prop := fun x lo hi H Q => ∃ σ τ ρ G d, Ab X.K X.mg σ H τ ρ G ∧ Rep X.K X.mg ρ H d x ∧ pT X.K X.mg EE H σ τ ρ (DB d lo hi G) Q
theorem Bm {K : PySem.W.Frag} {mg : Str → Option Value} {ρ : List Addr} {H : Hp} {ds : List D} {vs : List V} (r : aH K mg ρ H ds vs) (lo hi : Option Int) : aH K mg ρ H (cutD ds lo hi) (Bf vs lo hi) := by
  unfold cutD Bf
  rw [r.length]
  exact (r.drop _).take _
theorem rT (x : Str) (l u : Option (Int × Tok)) (lo hi : Option Int) (hl : l.map (·.1) = lo) (hu : u.map (·.1) = hi) (t : Tok) (s : Shared) (Q : Value → Shared → Prop) (hz : x.length ≤ sizeLine)
    (h : ∀ t' k, Q (.str (Txt.slice x lo hi) t') { s with toks := k }) : (sliceMade x t l u none).post Q s := by
  subst hl hu
  cases l <;> cases u <;> exact post_val_or_str ⟨Nat.le_trans (Txt.slice_le x _ _) hz, fun t' k => h t' k⟩
theorem Pk : Oh X (Pj X EE) := by
  intro pins s σ0 H x v vl vu lo hi sl Q I rx hs pl pu ⟨σ, τ, ρ, G, d, ab, r1, ok⟩
  dsimp only [DB] at ok
  cases q : aD G d with
  | none => rw [q] at ok; exact ok.elim
  | some sk =>
    rw [q] at ok
    cases sk with
    | lst ds =>
      obtain ⟨l, xs, rfl, sq, rs⟩ := gY (pins := pins) (σ0 := σ0) (s := s) ab.hp r1 q
      exact HR pins s σ0 H _ v vl vu lo hi sl Q I rx hs pl pu ⟨l, xs, rfl, sq, (Ac ab (Bm rs lo hi) ok).2⟩
    | tup ds =>
      obtain ⟨l, xs, rfl, sq, rs⟩ := pG r1 q
      dsimp only at ok
      by_cases hw : HT.jL ds.length 0 lo = 0 ∧ HT.jL ds.length ds.length hi = ds.length
      · rw [if_pos hw] at ok; exact ok.elim
      · rw [if_neg hw] at ok
        refine Kr pins s σ0 H _ v vl vu lo hi sl Q I rx hs pl pu ⟨l, xs, rfl, sq, ?_, (Ad ab (Bm rs lo hi) ok).2⟩
        rw [← rs.length]; exact hw
    | str z =>
      obtain ⟨rfl, rfl⟩ := rS r1 q
      dsimp only at ok
      by_cases hz : z.length ≤ sizeLine
      · rw [if_pos hz] at ok
        obtain ⟨t, rfl⟩ := rx
        refine ⟨"str", _, F.slot_str_getitem.lookup, typeIs_str _ _ _, ?_⟩
        obtain ⟨o, e1, e2, e3⟩ := hs
        have fin : ∀ t' k, EP X pins σ0 Q (.str (Txt.slice z lo hi) t') { s with toks := k } := fun t' k => ⟨.str _, H, I.tok k, ⟨t', rfl⟩, ok _ H ρ .refl ab (by unfold Rep; rfl)⟩
        cases pl with
        | none =>
          cases pu with
          | none => exact wpAny_getItem_str_slice (l := none) (u := none) (st := none) ⟨o, e1, e2, e3⟩ rfl (rT z none none none none rfl rfl t s _ hz fin)
          | int j tj => exact wpAny_getItem_str_slice (l := none) (u := some (j, tj)) (st := none) ⟨o, e1, e2, e3⟩ rfl (rT z none (some (j, tj)) none (some j) rfl rfl t s _ hz fin)
        | int i ti =>
          cases pu with
          | none => exact wpAny_getItem_str_slice (l := some (i, ti)) (u := none) (st := none) ⟨o, e1, e2, e3⟩ rfl (rT z (some (i, ti)) none (some i) none rfl rfl t s _ hz fin)
          | int j tj => exact wpAny_getItem_str_slice (l := some (i, ti)) (u := some (j, tj)) (st := none) ⟨o, e1, e2, e3⟩ rfl (rT z (some (i, ti)) (some (j, tj)) (some i) (some j) rfl rfl t s _ hz fin)
      · rw [if_neg hz] at ok; exact ok.elim
theorem iF {lo hi : Option Expr} {ml mh : DS → M (Option Int)} {p2 : Pos} (ha : QE X EE a ma) (hl : QO X EE lo ml) (hh : QO X EE hi mh) : QE X EE (.Subscript a (.Slice lo hi none p2) pos) (oH ma ml mh) :=
  PE.mono (Fx Pk ha hl hh) fun σ H Q ⟨τ, ρ, G, ab, ok⟩ => by
    refine ⟨τ, ρ, G, ab, ?_⟩
    dsimp only [oH, M.bind] at ok
    cases e1 : ma τ G with
    | stuck => rw [e1] at ok; exact ok
    | fL c G' => rw [e1] at ok; exact ok
    | ok d G1 =>
      rw [e1] at ok
      dsimp only at ok
      intro v H1 ρ1 f1 qT r1
      refine ⟨τ, ρ1, G1, qT, ?_⟩
      cases e2 : ml τ G1 with
      | stuck => rw [e2] at ok; exact ok
      | fL c G' => rw [e2] at ok; exact fun H' ρ' f' => ok H' ρ' (f1.trans f')
      | ok l G2 =>
        rw [e2] at ok
        dsimp only at ok
        intro H2 ρ2 f2 iu
        refine ⟨τ, ρ2, G2, iu, ?_⟩
        cases e3 : mh τ G2 with
        | stuck => rw [e3] at ok; exact ok
        | fL c G' => rw [e3] at ok; exact fun H' ρ' f' => ok H' ρ' ((f1.trans f2).trans f')
        | ok u G3 =>
          rw [e3] at ok
          dsimp only at ok
          intro H3 ρ3 f3 zd
          exact ⟨σ, τ, ρ3, G3, d, zd, r1.mono (f2.trans f3), ok.fut ((f1.trans f2).trans f3)⟩
noncomputable def mG (ma mb : DS → M Bool) : DS → M Bool := fun τ => (ma τ).bind fun c => if c then mb τ else M.ret false
noncomputable def CL (ma mb : DS → M Bool) : DS → M Bool := fun τ => (ma τ).bind fun c => if c then M.ret true else mb τ
noncomputable def FT (ma : DS → M Bool) : DS → M Bool := fun τ => (ma τ).bind fun c => M.ret (!c)
variable {ta tb tc : DS → M Bool} {rest : List Expr}
theorem FU {σ : L2.St} {H : Hp} {Q : Bool → Hp → Prop} (h : liftT X.K X.mg EE (mG ta tb) σ H Q) : Ma (liftT X.K X.mg EE ta) (liftT X.K X.mg EE tb) σ H Q := by
  obtain ⟨τ, ρ, G, ab, ok⟩ := CJ (k := fun τ c => if c then tb τ else M.ret false) h
  refine ⟨τ, ρ, G, ab, ?_⟩
  cases e : ta τ G with
  | stuck => rw [e] at ok; exact ok
  | fL c G' => rw [e] at ok; exact ok
  | ok k G' =>
    rw [e] at ok
    intro H' ρ' f' fC
    obtain ⟨τ2, ρ2, G2, iu, bV⟩ := ok H' ρ' f' fC
    cases k with
    | true => exact ⟨τ2, ρ2, G2, iu, bV⟩
    | false => exact bV H' ρ2 .refl iu
theorem Ic {σ : L2.St} {H : Hp} {Q : Bool → Hp → Prop} (h : liftT X.K X.mg EE (CL ta tb) σ H Q) : QZ (liftT X.K X.mg EE ta) (liftT X.K X.mg EE tb) σ H Q := by
  obtain ⟨τ, ρ, G, ab, ok⟩ := CJ (k := fun τ c => if c then M.ret true else tb τ) h
  refine ⟨τ, ρ, G, ab, ?_⟩
  cases e : ta τ G with
  | stuck => rw [e] at ok; exact ok
  | fL c G' => rw [e] at ok; exact ok
  | ok k G' =>
    rw [e] at ok
    intro H' ρ' f' fC
    obtain ⟨τ2, ρ2, G2, iu, bV⟩ := ok H' ρ' f' fC
    cases k with
    | false => exact ⟨τ2, ρ2, G2, iu, bV⟩
    | true => exact bV H' ρ2 .refl iu
theorem PW.mono {e : Expr} {t t' : TT} (h : PW X e t) (i : ∀ σ H Q, t' σ H Q → t σ H Q) : PW X e t' := fun wh pins s σ H Q I q => h wh pins s σ H Q I (i _ _ _ q)
theorem Ae (ha : QT X EE a ta) : QW X EE (.BoolOp .And [a] pos) ta := Hx ha
theorem FW (ha : QT X EE a ta) : QW X EE (.BoolOp .Or [a] pos) ta := JU ha
theorem Af (ha : QT X EE a ta) (hb : QW X EE (.BoolOp .And (b :: rest) pos) tb) : QW X EE (.BoolOp .And (a :: b :: rest) pos) (mG ta tb) := PW.mono (JW ha hb) fun _ _ _ h => FU h
theorem Jv (ha : QT X EE a ta) (hb : QW X EE (.BoolOp .Or (b :: rest) pos) tb) : QW X EE (.BoolOp .Or (a :: b :: rest) pos) (CL ta tb) := PW.mono (Mb ha hb) fun _ _ _ h => Ic h
theorem FY {e : Expr} (h : QW X EE e ta) : QT X EE e ta := h.pt
theorem KU (ha : QT X EE a ta) : QT X EE (.UnaryOp .Not a pos) (FT ta) := PT.mono (JX ha) fun σ H Q h => by
  obtain ⟨τ, ρ, G, ab, ok⟩ := CJ (k := fun τ c => M.ret (!c)) h
  refine ⟨τ, ρ, G, ab, ?_⟩
  cases e : ta τ G with
  | stuck => rw [e] at ok; exact ok
  | fL c G' => rw [e] at ok; exact ok
  | ok k G' =>
    rw [e] at ok
    intro H' ρ' f' fC
    obtain ⟨τ2, ρ2, G2, iu, bV⟩ := ok H' ρ' f' fC
    exact bV H' ρ2 .refl iu
noncomputable def j3 (m : DS → M D) : DS → M Bool := fun τ => (m τ).bind fun d => match d with
  | .bl b => M.ret b
  | _ => M.stop
theorem Ie {m : DS → M D} {σ : L2.St} {H : Hp} {Q : Bool → Hp → Prop} (h : liftT X.K X.mg EE (j3 m) σ H Q) : fR X.K X.mg EE m σ H fun x H1 => ∃ c, x = .bl c ∧ Q c H1 := by
  obtain ⟨τ, ρ, G, ab, ok⟩ := FJ (k := fun _ d => match d with | .bl b => M.ret b | _ => M.stop) h
  refine ⟨τ, ρ, G, ab, ?_⟩
  cases e : m τ G with
  | stuck => rw [e] at ok; exact ok
  | fL c G' => rw [e] at ok; exact ok
  | ok d G' =>
    rw [e] at ok
    intro v H' ρ' f' fC r'
    obtain ⟨τ2, ρ2, G2, d2, iu, r2, bV⟩ := ok v H' ρ' f' fC r'
    cases d2 <;> try exact bV.elim
    rename_i k
    unfold Rep at r2
    exact ⟨k, r2, bV H' ρ2 .refl iu⟩
theorem KW {op : CmpOp} {f : D → D → M D} (ho : sj X (compareOp op) (rD X EE f)) (ha : QE X EE a ma) (hb : QE X EE b mb) (hm : behindInMarks op b = false) : QT X EE (.Compare a [op] [b] pos) (j3 (aG f ma mb)) :=
  PT.mono (HF ho ha hb hm) fun σ H Q h => by
    have h1 := Ie h
    exact wI t7 h1
theorem FZ {f : D → D → M D} {g : Value → Value → Sem Value} {r : R2} (ho : sj X g r) (hd : H8 X EE r f) : sj X g (rD X EE f) := fun pins s σ H x y v u Q I rx ry q => ho pins s σ H x y v u Q I rx ry (MF hd q)
theorem KY : sj X (compareOp .Lt) (rD X EE Ra) := FZ Mn (t6 fun _ _ _ _ => by unfold Rep; rfl)
theorem tw : sj X (compareOp .Gt) (rD X EE A2) := FZ Mp (t6 fun _ _ _ _ => by unfold Rep; rfl)
theorem KZ : sj X (compareOp .GtE) (rD X EE Oo) := FZ Mq (t6 fun _ _ _ _ => by unfold Rep; rfl)
noncomputable def SM (t : DS → M Bool) (ma mb : DS → M D) : DS → M D := fun τ => (t τ).bind fun c => if c then ma τ else mb τ
noncomputable def kL (ma : DS → M D) : DS → M D := fun τ => (ma τ).bind fun d => match d with
  | .int i => M.ret (.int (-i))
  | _ => M.stop
theorem nY (ha : QE X EE a ma) : QE X EE (.UnaryOp .USub a pos) (kL ma) := PE.mono (Ml Ke ha) fun σ H Q h => by
  obtain ⟨τ, ρ, G, ab, ok⟩ := u9 (k := fun τ d => match d with | .int i => M.ret (.int (-i)) | _ => M.stop) h
  refine ⟨τ, ρ, G, ab, ?_⟩
  cases e : ma τ G with
  | stuck => rw [e] at ok; exact ok
  | fL c G' => rw [e] at ok; exact ok
  | ok k G' =>
    rw [e] at ok
    intro v H' ρ' f' fC r'
    obtain ⟨τ2, ρ2, G2, d2, iu, r2, bV⟩ := ok v H' ρ' f' fC r'
    cases d2 <;> try exact bV.elim
    rename_i k
    unfold Rep at r2
    exact ⟨k, r2, bV _ H' ρ2 .refl iu (by unfold Rep; rfl)⟩
end
end L3
end
section
set_option Elab.async false
set_option linter.all false
set_option maxRecDepth 100000
namespace L3
open PySem PySem.Spec L2
section
variable {X : Cx} {EE : ki} {a b c : Expr} {ma mb mc : DS → M D} {pos : Pos} {ta tb tc : DS → M Bool} {ms mt : MS}
noncomputable def ia : MS := fun τ G => .nx τ G
noncomputable def cT (m k : MS) : MS := fun τ G => match m τ G with
  | .nx τ' G' => k τ' G'
  | r => r
theorem fH : Et X EE [] ia := Cu.mono Hy fun D σ H ⟨τ, ρ, G, ab, ok⟩ => ok σ H ρ .refl ab
theorem Ga {Dd : Ends} {σ : L2.St} {H : Hp} (h : oQ X.K X.mg EE (cT ms mt) Dd σ H) : Me (oQ X.K X.mg EE ms) (oQ X.K X.mg EE mt) Dd σ H := by
  obtain ⟨τ, ρ, G, ab, ok⟩ := h
  refine ⟨τ, ρ, G, ab, ?_⟩
  dsimp only [cT] at ok
  cases e : ms τ G with
  | nx τ' G' => rw [e] at ok; exact fun σ' H' ρ' f fC => ⟨τ', ρ', G', fC, ok.fut f⟩
  | stuck => rw [e] at ok; exact ok
  | rt d G => rw [e] at ok; exact ok
  | bk τ G => rw [e] at ok; exact ok
  | ct τ G => rw [e] at ok; exact ok
  | xn c τ G => rw [e] at ok; exact ok
theorem au {st : Stmt} {rest : List Stmt} (h1 : QS X EE st ms) (h2 : Et X EE rest mt) : Et X EE (st :: rest) (cT ms mt) := Cu.mono (Fl h1 h2) fun _ _ _ h => Ga h
theorem aJ {st : Stmt} (h1 : QS X EE st ms) : Et X EE [st] ms := Hz h1
noncomputable def qG (m : DS → M D) : MS := fun τ => fS (m τ) (fun _ G => .nx τ G) fun c G => .xn c τ G
noncomputable def jk (m : DS → M D) : MS := fun τ => fS (m τ) (fun d G => .rt d G) fun c G => .xn c τ G
noncomputable def MJ : MS := fun _ G => .rt .lG G
noncomputable def dS (i : Nat) (m : DS → M D) : MS := fun τ => fS (m τ) (fun d G => .nx (τ.set i (some d)) G) fun c G => .xn c τ G
noncomputable def tT (t : DS → M Bool) (ma mb : MS) : MS := fun τ => fS (t τ) (fun c G => if c then ma τ G else mb τ G) fun c G => .xn c τ G
theorem Ig (he : QE X EE a ma) (hs : swapsWith a none pos.line X.env = pure false := by rfl) : QS X EE (.Expr a pos) (qG ma) := PS.mono (HA he hs) fun D σ H h => by
  obtain ⟨τ, ρ, G, ab, ok⟩ := Aa (k := fun τ d G => .nx τ G) h
  refine ⟨τ, ρ, G, ab, ?_⟩
  cases e : ma τ G with
  | stuck => rw [e] at ok; exact ok
  | fL c G' => rw [e] at ok; exact ok
  | ok d G' =>
    rw [e] at ok
    intro v H' ρ' f' fC r'
    obtain ⟨τ2, ρ2, G2, d2, iu, r2, bV⟩ := ok v H' ρ' f' fC r'
    exact bV σ H' ρ2 .refl iu
theorem eE (he : QE X EE a ma) : QS X EE (.Return (some a) pos) (jk ma) := PS.mono (JY he) fun D σ H h => by
  obtain ⟨τ, ρ, G, ab, ok⟩ := Aa (k := fun τ d G => .rt d G) h
  refine ⟨τ, ρ, G, ab, ?_⟩
  cases e : ma τ G with
  | stuck => rw [e] at ok; exact ok
  | fL c G' => rw [e] at ok; exact ok
  | ok d G' =>
    rw [e] at ok
    intro v H' ρ' f' fC r'
    obtain ⟨τ2, ρ2, G2, d2, iu, r2, bV⟩ := ok v H' ρ' f' fC r'
    exact bV v H' ρ2 .refl iu.hp r2
theorem Ab.set {K : PySem.W.Frag} {mg : Str → Option Value} {σ : L2.St} {H : Hp} {τ : DS} {ρ : List Addr} {G : DH} {i : Nat} {d : D} {v : V} (ab : Ab K mg σ H τ ρ G) (r : Rep K mg ρ H d v) : Ab K mg (σ.set i (some v)) H (τ.set i (some d)) ρ G := ⟨ab.st.set r, ab.hp⟩
theorem K0 {i : Nat} {x : Str} {pos' : Pos} (hN : X.N.Nodup) (he : QE X EE a ma) (hi : X.N[i]? = some x := by rfl) (hx : Loc X.env.scope x := by first | exact Or.inl rfl | exact Or.inr rfl)
    (hs : swapsWith a (some (.Name x pos')) pos.line X.env = pure false := by rfl) (hf : X.fn x = true ∨ X.env.scope.names.lookup x = some .local := by first | exact .inl rfl | exact .inr rfl | assumption) :
    QS X EE (.Assign [.Name x pos'] a pos) (dS i ma) := PS.mono (J2 hN hi hx he hs hf) fun D σ H h => by
  obtain ⟨τ, ρ, G, ab, ok⟩ := Aa (k := fun τ d G => .nx (τ.set i (some d)) G) h
  refine ⟨τ, ρ, G, ab, ?_⟩
  cases e : ma τ G with
  | stuck => rw [e] at ok; exact ok
  | fL c G' => rw [e] at ok; exact ok
  | ok d G' =>
    rw [e] at ok
    intro v H' ρ' f' fC r'
    obtain ⟨τ2, ρ2, G2, d2, iu, r2, bV⟩ := ok v H' ρ' f' fC r'
    exact bV _ H' ρ2 .refl (iu.set r2)
theorem jI {body els : List Stmt} (hc : QT X EE c tc) (ha : Et X EE body ms) (hb : Et X EE els mt) : QS X EE (.If c body els pos) (tT tc ms mt) := PS.mono (Mg hc ha hb) fun D σ H h => by
  obtain ⟨τ, ρ, G, ab, ok⟩ := FL (k := fun τ c G => if c then ms τ G else mt τ G) h
  refine ⟨τ, ρ, G, ab, ?_⟩
  cases e : tc τ G with
  | stuck => rw [e] at ok; exact ok
  | fL c G' => rw [e] at ok; exact ok
  | ok k G' =>
    rw [e] at ok
    intro H' ρ' f' fC
    obtain ⟨τ2, ρ2, G2, iu, bV⟩ := ok H' ρ' f' fC
    cases k with
    | true => exact ⟨τ2, ρ2, G2, iu, bV⟩
    | false => exact ⟨τ2, ρ2, G2, iu, bV⟩
noncomputable abbrev uY := D → DS → Option DS
noncomputable def Bo (K : PySem.W.Frag) (mg : Str → Option Value) (g : uY) : TG := fun v σ H Q => ∃ τ ρ G d τ', Ab K mg σ H τ ρ G ∧ Rep K mg ρ H d v ∧ g d τ = some τ' ∧ ∀ σ', Ab K mg σ' H τ' ρ G → Q σ' H
noncomputable def QG (X : Cx) (e : Expr) (g : uY) : Prop := PG X e (Bo X.K X.mg g)
noncomputable def gN (i : Nat) : uY := fun d τ => some (τ.set i (some d))
theorem Ih {i : Nat} {x : Str} (hN : X.N.Nodup) (hi : X.N[i]? = some x := by rfl) (hx : Loc X.env.scope x := by first | exact Or.inl rfl | exact Or.inr rfl) (hf : X.fn x = true ∨ X.env.scope.names.lookup x = some .local := by first | exact .inl rfl | exact .inr rfl | assumption) :
    QG X (.Name x pos) (gN i) := fun pins s σ H v u Q I r ⟨τ, ρ, G, d, τ', ab, rd, e, q⟩ => zS hN hi hx hf pins s σ H v u Q I r (by
  cases e
  exact q _ (ab.set rd))
noncomputable def fY (g : uY) (body : MS) : List D → MS
  | [], τ, G => .nx τ G
  | d :: r, τ, G => match g d τ with
    | none => .stuck
    | some τ1 => match body τ1 G with
      | .nx τ' G' => fY g body r τ' G'
      | .ct τ' G' => fY g body r τ' G'
      | .bk τ' G' => .nx τ' G'
      | x => x
noncomputable def Ag (g : uY) (body : MS) (n : Nat) : Nat → Nat → MS
  | 0, _, _, _ => .stuck
  | f + 1, k, τ, G => match G[n]? with
    | some (.lst xs) => match xs[k]? with
      | none => .nx τ G
      | some d => match g d τ with
        | none => .stuck
        | some τ1 => match body τ1 G with
          | .nx τ' G' => Ag g body n f (k + 1) τ' G'
          | .ct τ' G' => Ag g body n f (k + 1) τ' G'
          | .bk τ' G' => .nx τ' G'
          | x => x
    | _ => .stuck
end
end L3
end
section
set_option Elab.async false
set_option linter.all false
set_option maxRecDepth 100000
namespace L3
open PySem PySem.Spec L2
noncomputable def Ii (z : Str) : It := ⟨fun i _ => i < z.cps.size, fun i H x H' => H' = H ∧ ∃ c, z.cps[i]? = some c ∧ x = .str ⟨#[c]⟩, fun i _ => z.cps.size ≤ i⟩
theorem Gb {P : Program} {w : World} {K : PySem.W.Frag} {tg : Expr} (z : Str) (t : Tok) (it : Addr) : Turn P w K tg (Ii z) [it] it (fun i h => h.IsStrIter it (strIterType z) z t i) where
  mem := by simp
  obj := fun i h st b hb => by
    have e : b = it := by simpa using hb
    subst e
    obtain ⟨o, e, c, d⟩ := st
    exact ⟨o, e, fun v z => by rw [d] at z; cases z⟩
  keep := fun i h h' st k => by
    obtain ⟨o, e, r⟩ := st
    exact ⟨o, k it (by simp) o e, r⟩
  item := by
    intro X hP hw hK hc i pins s σ H E I hf st hg
    subst hP hw hK
    obtain ⟨f0, f1, f2, f3, f4, f5⟩ := hf it (by simp)
    have hx : z.cps[i]? = some z.cps[i] := Array.getElem?_eq_getElem hg
    have fin : ∀ h', h'.IsStrIter it (strIterType z) z t (i + 1) → Heap.SameBut it s.heap h' → ∃ u, some (Value.str ⟨#[z.cps[i]]⟩ s.toks) = some u ∧
      wpAny (model X.prog X.w) X.A (letOwnedTupleGo tg (.ref it) u) (fun _ s2 => ∃ x H', Inv X pins σ H' s2 ∧ RelV x u ∧ (Ii z).yQ i H x H' ∧ s2.heap.IsStrIter it (strIterType z) z t (i + 1) ∧ ∀ b ∈ [it], H' b = none) E { s with heap := h', toks := s.toks + 1 } := fun h' st' sb => by
      have I1 : Inv X pins σ H { s with heap := h', toks := s.toks + 1 } := I.turned (t' := s.toks + 1) (fun b o hb e => (sb.2 b hb).trans e) f0 f1 f3 f4 f5
      obtain ⟨o, e, c, d⟩ := id st'
      refine ⟨_, rfl, yR (s := { s with heap := h', toks := s.toks + 1 }) e c d ?_ ⟨.str ⟨#[z.cps[i]]⟩, H, I1, ⟨_, rfl⟩, ⟨rfl, _, hx, rfl⟩, st', fun b hb => (hf b hb).1⟩⟩
      unfold strIterType
      split <;> decide
    cases ha : z.cps.all (· < 128) with
    | true =>
      have e : strIterType z = "str_ascii_iterator" := by unfold strIterType; rw [ha]; rfl
      rw [e] at st fin
      exact wpAny_pyNext_ascii_item st hx fun h' st' sb => by rw [e]; exact fin h' st' sb
    | false =>
      have e : strIterType z = "str_iterator" := by unfold strIterType; rw [ha]; rfl
      rw [e] at st fin
      exact wpAny_pyNext_wide_item st hx fun h' st' sb => by rw [e]; exact fin h' st' sb
  done := by
    intro X hP hw hK hc i pins s σ H E I hf st hg
    subst hP hw hK
    obtain ⟨f0, f1, f2, f3, f4, f5⟩ := hf it (by simp)
    have hx : z.cps[i]? = none := Array.getElem?_eq_none hg
    have fin : ∀ h', Heap.ExtBut it s.heap h' → (none : Option Value) = none ∧ Inv X pins σ H { s with heap := h' } := fun h' eb => ⟨rfl, I.turned (t' := s.toks) (fun b o hb e => eb b o hb e) f0 f1 f3 f4 f5⟩
    cases ha : z.cps.all (· < 128) with
    | true =>
      have e : strIterType z = "str_ascii_iterator" := by unfold strIterType; rw [ha]; rfl
      rw [e] at st
      exact wpAny_pyNext_ascii_end (I.ok.hd hc) st hx fin
    | false =>
      have e : strIterType z = "str_iterator" := by unfold strIterType; rw [ha]; rfl
      rw [e] at st
      exact wpAny_pyNext_wide_end (I.ok.hd hc) st hx fin
  self := fun A i s Q E st h => by
    cases ha : z.cps.all (· < 128) with
    | true =>
      have e : strIterType z = "str_ascii_iterator" := by unfold strIterType; rw [ha]; rfl
      rw [e] at st
      exact wpAny_pyIter_striter_ascii st h
    | false =>
      have e : strIterType z = "str_iterator" := by unfold strIterType; rw [ha]; rfl
      rw [e] at st
      exact wpAny_pyIter_striter_wide st h
section
variable {X : Cx} {EE : ki} {a b c tg : Expr} {ma mb mc : DS → M D} {pos : Pos} {ms mt : MS}
noncomputable def qU (g : uY) (m : DS → M D) (body : MS) : MS := fun τ => fS (m τ) (fun d G => match d with
  | .obj n => match G[n]? with
    | some (.lst xs) => Ag g body n (xs.length + 1) 0 τ G
    | _ => .stuck
  | .tup xs => fY g body xs τ G
  | .con xs => fY g body xs τ G
  | .str z => fY g body (z.cps.toList.map fun c => .str ⟨#[c]⟩) τ G
  | _ => .stuck) fun c G => .xn c τ G
theorem rV {g : uY} {body : MS} {Dd : Ends} {J : It} {H0 : Hp} {σ0 : L2.St} {ρ0 : List Addr} {G0 : DH} {τ0 : DS} (ds : List D)
    (go : ∀ i H ρ, i < ds.length → ir X.K H0 H ρ0 ρ → J.go i H) (stop : ∀ i H ρ, ds.length ≤ i → ir X.K H0 H ρ0 ρ → J.stop i H)
    (yQ : ∀ i d H ρ x H', ds[i]? = some d → ir X.K H0 H ρ0 ρ → J.yQ i H x H' → H' = H ∧ Rep X.K X.mg ρ H d x)
    (ab : Ab X.K X.mg σ0 H0 τ0 ρ0 G0) (ok : yp X.K X.mg EE H0 ρ0 Dd (fY g body ds τ0 G0)) :
    ∃ W : Nat → Nat → L2.St → Hp → Prop, (∃ m, W 0 m σ0 H0) ∧ ∀ i m σ H, W i m σ H →
      (J.stop i H ∧ Dd.nx σ H) ∨ (J.go i H ∧ ∃ N : L2.St → Hp → Prop, (∀ σ' H', N σ' H' → ∃ m', m' < m ∧ W (i + 1) m' σ' H') ∧ ∀ x H', J.yQ i H x H' → Bo X.K X.mg g x σ H' fun σ2 H2 => oQ X.K X.mg EE body { Dd with nx := N, ct := N, bk := Dd.nx } σ2 H2) := by
  refine ⟨fun i m σ H => i ≤ ds.length ∧ m = ds.length - i ∧ ∃ τ ρ G, Ab X.K X.mg σ H τ ρ G ∧ ir X.K H0 H ρ0 ρ ∧ yp X.K X.mg EE H ρ Dd (fY g body (ds.drop i) τ G), ⟨ds.length, Nat.zero_le _, rfl, τ0, ρ0, G0, ab, .refl, by simpa using ok⟩, ?_⟩
  rintro i m σ H ⟨hi, rfl, τ, ρ, G, ab, f, ok⟩
  by_cases hlt : i < ds.length
  · refine .inr ⟨go i H ρ hlt f, fun σ' H' => ∃ τ' ρ' G', Ab X.K X.mg σ' H' τ' ρ' G' ∧ ir X.K H0 H' ρ0 ρ' ∧ yp X.K X.mg EE H' ρ' Dd (fY g body (ds.drop (i + 1)) τ' G'), fun σ' H' n => ⟨ds.length - (i + 1), by omega, hlt, rfl, n⟩, fun x H' y => ?_⟩
    obtain ⟨rfl, rx⟩ := yQ i ds[i] H ρ x H' (List.getElem?_eq_getElem hlt) f y
    rw [List.drop_eq_getElem_cons hlt] at ok
    unfold fY at ok
    cases e : g ds[i] τ with
    | none => rw [e] at ok; exact ok.elim
    | some τ1 =>
      rw [e] at ok
      dsimp only at ok
      refine ⟨τ, ρ, G, ds[i], τ1, ab, rx, e, fun σ' fC => ⟨τ1, ρ, G, fC, ?_⟩⟩
      cases eb : body τ1 G with
      | stuck => rw [eb] at ok; exact ok
      | nx τ2 G2 => rw [eb] at ok; exact fun σ2 H2 ρ2 f2 iu => ⟨τ2, ρ2, G2, iu, f.trans f2, ok.fut f2⟩
      | ct τ2 G2 => rw [eb] at ok; exact fun σ2 H2 ρ2 f2 iu => ⟨τ2, ρ2, G2, iu, f.trans f2, ok.fut f2⟩
      | bk τ2 G2 => rw [eb] at ok; exact ok
      | rt d G2 => rw [eb] at ok; exact ok
      | xn c τ2 G2 => rw [eb] at ok; exact ok
  · have e : i = ds.length := by omega
    subst e
    refine .inl ⟨stop _ H ρ (Nat.le_refl _) f, ?_⟩
    rw [List.drop_eq_nil_of_le (Nat.le_refl _)] at ok
    exact ok σ H ρ .refl ab
theorem Ij {g : uY} {body : MS} {Dd : Ends} {H0 : Hp} {σ0 : L2.St} {ρ0 : List Addr} {G0 : DH} {τ0 : DS} {n : Nat} {p : Addr} {fuel : Nat} (hn : ρ0[n]? = some p)
    (ab : Ab X.K X.mg σ0 H0 τ0 ρ0 G0) (ok : yp X.K X.mg EE H0 ρ0 Dd (Ag g body n fuel 0 τ0 G0)) :
    ∃ W : Nat → Nat → L2.St → Hp → Prop, (∃ m, W 0 m σ0 H0) ∧ ∀ i m σ H, W i m σ H →
      ((Hs X.K p).stop i H ∧ Dd.nx σ H) ∨ ((Hs X.K p).go i H ∧ ∃ N : L2.St → Hp → Prop, (∀ σ' H', N σ' H' → ∃ m', m' < m ∧ W (i + 1) m' σ' H') ∧ ∀ x H', (Hs X.K p).yQ i H x H' → Bo X.K X.mg g x σ H' fun σ2 H2 => oQ X.K X.mg EE body { Dd with nx := N, ct := N, bk := Dd.nx } σ2 H2) := by
  refine ⟨fun i m σ H => ∃ τ ρ G, Ab X.K X.mg σ H τ ρ G ∧ ir X.K H0 H ρ0 ρ ∧ yp X.K X.mg EE H ρ Dd (Ag g body n m i τ G), ⟨fuel, τ0, ρ0, G0, ab, .refl, ok⟩, ?_⟩
  rintro i m σ H ⟨τ, ρ, G, ab, f, ok⟩
  cases m with
  | zero => exact ok.elim
  | succ m =>
    unfold Ag at ok
    cases q : G[n]? with
    | none => rw [q] at ok; exact ok.elim
    | some o =>
      cases o with
      | dead => first | (rw [q] at ok; exact ok.elim) | (rw [q] at bV; exact bV.elim) | (rw [q] at e; cases e; done) | (rw [g] at ok; exact ok.elim) | (rw [g] at q; cases q; done) | (rw [g] at h; cases h; done) | (rw [g2] at ok; exact ok.elim) | (rw [g1, g2] at ok; exact ok.elim) | (rw [q1] at ok; exact ok.elim) | exact ok.elim
      | dct kv => first | (rw [q] at ok; exact ok.elim) | (rw [q] at bV; exact bV.elim) | (rw [q] at e; cases e; done) | (rw [g] at ok; exact ok.elim) | (rw [g] at q; cases q; done) | (rw [g] at h; cases h; done) | (rw [g2] at ok; exact ok.elim) | (rw [g1, g2] at ok; exact ok.elim) | (rw [q1] at ok; exact ok.elim) | exact ok.elim
      | lst ds =>
        rw [q] at ok
        dsimp only at ok
        obtain ⟨p', xs, e1, e2, rs⟩ := ab.hp.lst q
        rw [f.get hn] at e1; cases e1
        cases qd : ds[i]? with
        | none =>
          rw [qd] at ok
          have hl : xs.length ≤ i := by rw [← rs.length]; exact List.getElem?_eq_none_iff.mp qd
          exact .inl ⟨⟨xs, .of e2, hl⟩, ok σ H ρ .refl ab⟩
        | some d =>
          rw [qd] at ok
          dsimp only at ok
          obtain ⟨x0, ex, rx⟩ := rs.get qd
          refine .inr ⟨⟨xs, x0, .of e2, ex⟩, fun σ' H' => ∃ τ' ρ' G', Ab X.K X.mg σ' H' τ' ρ' G' ∧ ir X.K H0 H' ρ0 ρ' ∧ yp X.K X.mg EE H' ρ' Dd (Ag g body n m (i + 1) τ' G'), fun σ' H' z => ⟨m, Nat.lt_succ_self _, z⟩, fun x H' y => ?_⟩
          obtain ⟨rfl, y⟩ := y
          have e3 := y xs (.of e2)
          rw [ex] at e3; cases e3
          cases e : g d τ with
          | none => rw [e] at ok; exact ok.elim
          | some τ1 =>
            rw [e] at ok
            dsimp only at ok
            refine ⟨τ, ρ, G, d, τ1, ab, rx, e, fun σ' fC => ⟨τ1, ρ, G, fC, ?_⟩⟩
            cases eb : body τ1 G with
            | stuck => rw [eb] at ok; exact ok
            | nx τ2 G2 => rw [eb] at ok; exact fun σ2 H2 ρ2 f2 iu => ⟨τ2, ρ2, G2, iu, f.trans f2, ok.fut f2⟩
            | ct τ2 G2 => rw [eb] at ok; exact fun σ2 H2 ρ2 f2 iu => ⟨τ2, ρ2, G2, iu, f.trans f2, ok.fut f2⟩
            | bk τ2 G2 => rw [eb] at ok; exact ok
            | rt d G2 => rw [eb] at ok; exact ok
            | xn c τ2 G2 => rw [eb] at ok; exact ok
theorem PI.any {l : Expr} {tl : TE} (hl : PE X l tl) : PI X tg l (fun σ H R => tl σ H fun x H1 => (∃ p, x = .ref p ∧ (∃ xs, sf X.K H1 p xs) ∧ R (Hs X.K p) H1) ∨ (∃ p, x = .ref p ∧ (∃ xs, sZ X.K H1 p xs) ∧ R (Oe X.K p) H1) ∨ ∃ z, x = .str z ∧ R (Ii z) H1) := by
  intro pins s σ H R I h
  refine j4 (hl pins s σ H _ I h) fun u s1 ⟨x, H1, I1, r1, q⟩ => ?_
  rcases q with ⟨p, rfl, ⟨xs, sq⟩, q⟩ | ⟨p, rfl, ⟨xs, sq⟩, q⟩ | ⟨z, rfl, q⟩
  · cases r1
    obtain ⟨its, rv, pl, hz⟩ := I1.list sq
    refine wpAny_pyIter_list pl.isList ?_
    have I2 : Inv X pins σ H1 { s1 with heap := s1.heap.push { cls := .type "list_iterator", data := .fields #[.ref p, .int 0 0] } } := I1.kept (t' := s1.toks) fun b o e => Heap.get?_push_of_some _ e
    refine ⟨s1.heap.objs.size, [s1.heap.objs.size], _, Hs X.K p, H1, rfl, I2, Eh p _, ⟨_, Heap.get?_push_size _ rfl, rfl, rfl⟩, fun b hb => ?_, q⟩
    have e : b = s1.heap.objs.size := by simpa using hb
    subst e
    exact I1.yl (Nat.le_refl _) (I1.hok.fresh (Nat.le_refl _))
  · cases r1
    obtain ⟨its, rv, pl, hz⟩ := I1.tuple sq
    refine wpAny_pyIter_tuple pl ?_
    have I2 : Inv X pins σ H1 { s1 with heap := s1.heap.push { cls := .type "tuple_iterator", data := .fields #[.ref p, .int 0 0] } } := I1.kept (t' := s1.toks) fun b o e => Heap.get?_push_of_some _ e
    refine ⟨s1.heap.objs.size, [s1.heap.objs.size], _, Oe X.K p, H1, rfl, I2, Cv p _, ⟨_, Heap.get?_push_size _ rfl, rfl, rfl⟩, fun b hb => ?_, q⟩
    have e : b = s1.heap.objs.size := by simpa using hb
    subst e
    exact I1.yl (Nat.le_refl _) (I1.hok.fresh (Nat.le_refl _))
  · obtain ⟨t, rfl⟩ := r1
    refine wpAny_pyIter_strU ?_
    have I2 : Inv X pins σ H1 { s1 with heap := s1.heap.push { cls := .type (strIterType z), data := .fields #[.str z t, .int 0 0] } } := I1.kept (t' := s1.toks) fun b o e => Heap.get?_push_of_some _ e
    refine ⟨s1.heap.objs.size, [s1.heap.objs.size], _, Ii z, H1, rfl, I2, Gb z t _, ⟨_, Heap.get?_push_size _ rfl, rfl, rfl⟩, fun b hb => ?_, q⟩
    have e : b = s1.heap.objs.size := by simpa using hb
    subst e
    exact I1.yl (Nat.le_refl _) (I1.hok.fresh (Nat.le_refl _))
theorem K1 {g : uY} {body : List Stmt} (hp : PassesOwn (model X.prog X.w) X.A X.env X.xe) (hc : X.calm = true) (ha : QE X EE a ma) (hg : QG X tg g) (hb : Et X EE body ms) (hs : ∀ x, foldedSetIterable a X.env x = pure x := by intro _; rfl) :
    QS X EE (.For tg a body [] pos) (qU g ma ms) := PS.mono (Cy hp hc (PI.any ha) hg hb hs) fun Dd σ H h => by
  obtain ⟨τ, ρ, G, ab, ok⟩ := Aa (k := fun τ d G => match d with
    | .obj n => match G[n]? with
      | some (.lst xs) => Ag g ms n (xs.length + 1) 0 τ G
      | _ => .stuck
    | .tup xs => fY g ms xs τ G
    | .con xs => fY g ms xs τ G
    | .str z => fY g ms (z.cps.toList.map fun c => .str ⟨#[c]⟩) τ G
    | _ => .stuck) h
  refine ⟨τ, ρ, G, ab, ?_⟩
  cases e : ma τ G with
  | stuck => rw [e] at ok; exact ok
  | fL c G' => rw [e] at ok; exact ok
  | ok d G' =>
    rw [e] at ok
    intro v H1 ρ1 f1 qT r1
    obtain ⟨τ2, ρ2, G2, d2, iu, r2, bV⟩ := ok v H1 ρ1 f1 qT r1
    cases d2 <;> try exact bV.elim
    case obj n =>
      dsimp only at bV
      unfold Rep at r2
      obtain ⟨p, rfl, e1⟩ := r2
      cases q : G2[n]? with
      | none => rw [q] at bV; exact bV.elim
      | some o =>
        cases o with
        | dead => first | (rw [q] at ok; exact ok.elim) | (rw [q] at bV; exact bV.elim) | (rw [q] at e; cases e; done) | (rw [g] at ok; exact ok.elim) | (rw [g] at q; cases q; done) | (rw [g] at h; cases h; done) | (rw [g2] at ok; exact ok.elim) | (rw [g1, g2] at ok; exact ok.elim) | (rw [q1] at ok; exact ok.elim) | exact ok.elim
        | dct kv => first | (rw [q] at ok; exact ok.elim) | (rw [q] at bV; exact bV.elim) | (rw [q] at e; cases e; done) | (rw [g] at ok; exact ok.elim) | (rw [g] at q; cases q; done) | (rw [g] at h; cases h; done) | (rw [g2] at ok; exact ok.elim) | (rw [g1, g2] at ok; exact ok.elim) | (rw [q1] at ok; exact ok.elim) | exact ok.elim
        | lst xs =>
          rw [q] at bV
          obtain ⟨p', vs, e2, h2, rs⟩ := iu.hp.lst q
          rw [e1] at e2; cases e2
          exact .inl ⟨p, rfl, ⟨vs, .of h2⟩, Ij e1 iu bV⟩
    case tup xs =>
      unfold Rep at r2
      obtain ⟨p, vs, rfl, sq, rs⟩ := r2
      refine .inr (.inl ⟨p, rfl, ⟨vs, sq⟩, rV xs (fun i H' ρ' hi f => ?_) (fun i H' ρ' hi f => ?_) (fun i d' H' ρ' x MK hd f y => ?_) iu bV⟩)
      · rw [rs.length] at hi
        exact ⟨vs, vs[i], f.tup _ _ sq, List.getElem?_eq_getElem hi⟩
      · exact ⟨vs, f.tup _ _ sq, by rw [← rs.length]; exact hi⟩
      · obtain ⟨rfl, y⟩ := y
        obtain ⟨w', ew, rw'⟩ := rs.get hd
        have := y vs (f.tup _ _ sq)
        rw [ew] at this; cases this
        exact ⟨rfl, rw'.mono f⟩
    case con xs =>
      unfold Rep at r2
      obtain ⟨p, vs, rfl, sq, rs⟩ := r2
      refine .inl ⟨p, rfl, ⟨vs, sq.seq⟩, rV xs (fun i H' ρ' hi f => ?_) (fun i H' ρ' hi f => ?_) (fun i d' H' ρ' x MK hd f y => ?_) iu bV⟩
      · rw [rs.length] at hi
        exact ⟨vs, vs[i], (f.con _ _ sq).seq, List.getElem?_eq_getElem hi⟩
      · exact ⟨vs, (f.con _ _ sq).seq, by rw [← rs.length]; exact hi⟩
      · obtain ⟨rfl, y⟩ := y
        obtain ⟨w', ew, rw'⟩ := rs.get hd
        have := y vs (f.con _ _ sq).seq
        rw [ew] at this; cases this
        exact ⟨rfl, rw'.mono f⟩
    case str z =>
      unfold Rep at r2; subst r2
      refine .inr (.inr ⟨z, rfl, rV (z.cps.toList.map fun c => .str ⟨#[c]⟩) (fun i H' ρ' hi f => ?_) (fun i H' ρ' hi f => ?_) (fun i d' H' ρ' x MK hd f y => ?_) iu bV⟩)
      · simpa [Ii] using hi
      · simpa [Ii] using hi
      · obtain ⟨rfl, c, hc, rfl⟩ := y
        rw [List.getElem?_map] at hd
        have : z.cps.toList[i]? = some c := by simpa using hc
        rw [this] at hd
        cases hd
        exact ⟨rfl, by unfold Rep; rfl⟩
noncomputable def kJ : List D → Option (List D)
  | [.int j] => if -(2 ^ 62) ≤ j ∧ j < 2 ^ 62 then some ((List.range j.toNat).map fun (k : Nat) => .int (0 + (k : Int))) else none
  | _ => none
noncomputable def wg : List D → Option (List D)
  | [.int i, .int j] => if -(2 ^ 62) ≤ i ∧ i < 2 ^ 62 ∧ -(2 ^ 62) ≤ j ∧ j < 2 ^ 62 then some ((List.range (j - i).toNat).map fun (k : Nat) => .int (i + (k : Int))) else none
  | _ => none
noncomputable def ny (Ef : List D → Option (List D)) (g : uY) (m : DS → M (List D)) (body : MS) : MS := fun τ => fS (m τ) (fun ds G => match Ef ds with
  | some xs => fY g body xs τ G
  | none => .stuck) fun c G => .xn c τ G
theorem K2 {K : PySem.W.Frag} {mg : Str → Option Value} {σ : L2.St} {H : Hp} {m : DS → M (List D)} {k : DS → List D → DH → Res} {Dd : Ends} (h : oQ K mg EE (fun τ => fS (m τ) (k τ) fun c G => .xn c τ G) Dd σ H) :
    qS K mg EE m σ H fun x H1 => ∃ τ ρ G d, Ab K mg σ H1 τ ρ G ∧ aH K mg ρ H1 d x ∧ yp K mg EE H1 ρ Dd (k τ d G) := by
  obtain ⟨τ, ρ, G, ab, ok⟩ := h
  refine ⟨τ, ρ, G, ab, ?_⟩
  dsimp only [fS] at ok
  cases e : m τ G with
  | stuck => rw [e] at ok; exact ok
  | fL c G' => rw [e] at ok; exact fun H' ρ' f fC => ok σ H' ρ' f fC
  | ok d G' => rw [e] at ok; exact fun v H' ρ' f fC r => ⟨τ, ρ', G', d, fC, r, ok.fut f⟩
theorem Ex {g : uY} {body : MS} {Dd : Ends} {H0 : Hp} {σ0 : L2.St} {ρ0 : List Addr} {G0 : DH} {τ0 : DS} (lo : Int) (n : Nat) (ab : Ab X.K X.mg σ0 H0 τ0 ρ0 G0) (ok : yp X.K X.mg EE H0 ρ0 Dd (fY g body ((List.range n).map fun (k : Nat) => .int (lo + (k : Int))) τ0 G0)) :
    ∃ W : Nat → Nat → L2.St → Hp → Prop, (∃ m, W 0 m σ0 H0) ∧ ∀ i m σ H, W i m σ H →
      ((yS lo n).stop i H ∧ Dd.nx σ H) ∨ ((yS lo n).go i H ∧ ∃ N : L2.St → Hp → Prop, (∀ σ' H', N σ' H' → ∃ m', m' < m ∧ W (i + 1) m' σ' H') ∧ ∀ x H', (yS lo n).yQ i H x H' → Bo X.K X.mg g x σ H' fun σ2 H2 => oQ X.K X.mg EE body { Dd with nx := N, ct := N, bk := Dd.nx } σ2 H2) :=
  rV (J := yS lo n) _ (fun i H ρ hi f => by simpa [yS] using hi) (fun i H ρ hi f => by simpa [yS] using hi) (fun i d H ρ x H' hd f y => by
    obtain ⟨rfl, rfl⟩ := y
    rw [List.getElem?_map] at hd
    cases q : (List.range n)[i]? with
    | none => rw [q] at hd; cases hd
    | some k =>
      rw [q] at hd
      obtain ⟨hk, e⟩ := List.getElem?_eq_some_iff.mp q
      rw [List.getElem_range] at e
      subst e
      cases hd
      exact ⟨rfl, by unfold Rep; rfl⟩) ab ok
theorem Gd {g : uY} {m : DS → M (List D)} {body : List Stmt} {p pc : Pos} (hp : PassesOwn (model X.prog X.w) X.A X.env X.xe) (hc : X.calm = true) (hm : X.mg "range" = none) (ha : QA X EE [a] m) (hg : QG X tg g) (hb : Et X EE body ms)
    (zg : Gl X "range" := by rfl) (hst : starEach [a] X.env = [(false, eval a X.env)] := by rfl) (hs : ∀ x, foldedSetIterable (.Call (.Name "range" p) [a] [] pc) X.env x = pure x := by intro _; rfl) :
    QS X EE (.For tg (.Call (.Name "range" p) [a] [] pc) body [] pos) (ny kJ g m ms) := PS.mono (Cy hp hc (yT zg hm ha hst) hg hb hs) fun Dd σ H h => by
  obtain ⟨τ, ρ, G, ab, ok⟩ := K2 (k := fun τ ds G => match kJ ds with | some xs => fY g ms xs τ G | none => .stuck) h
  refine ⟨τ, ρ, G, ab, ?_⟩
  cases e : m τ G with
  | stuck => rw [e] at ok; exact ok
  | fL c G' => rw [e] at ok; exact ok
  | ok ds G' =>
    rw [e] at ok
    intro vs H1 ρ1 f1 qT r1
    obtain ⟨τ2, ρ2, G2, d2, iu, r2, bV⟩ := ok vs H1 ρ1 f1 qT r1
    cases q : kJ d2 with
    | none => rw [q] at bV; exact bV.elim
    | some xs =>
      rw [q] at bV
      unfold kJ at q
      split at q
      · rename_i j
        split at q
        · rename_i hj
          cases q
          unfold aH at r2
          obtain ⟨v, r, rfl, h1, h2⟩ := r2
          unfold aH at h2; subst h2
          unfold Rep at h1; subst h1
          exact ⟨j, rfl, hj.1, hj.2, Ex 0 j.toNat iu bV⟩
        · cases q
      · cases q
end
end L3
end
section
set_option Elab.async false
set_option linter.all false
set_option maxRecDepth 100000
namespace L3
open PySem PySem.Spec L2
noncomputable def SN (K : PySem.W.Frag) (mg : Str → Option Value) (H : Hp) (ρ : List Addr) : Out D → VK → XK → Prop
  | .stuck, _, _ => False
  | .ok d G', Q, _ => ∀ v H' ρ', ir K H H' ρ ρ' → ni K mg H' ρ' G' → Rep K mg ρ' H' d v → Q v H'
  | .fL c G', _, E => ∀ cls H' ρ', (match c with | .mk n _ => mg n = some cls) → ir K H H' ρ ρ' → ni K mg H' ρ' G' → E cls none H'
noncomputable def cU (K : PySem.W.Frag) (mg : Str → Option Value) (n : Nat) (m : List D → M D) : Sp := fun vs H Q E => ∃ ds ρ G, ds.length = n ∧ ni K mg H ρ G ∧ aH K mg ρ H ds vs ∧ SN K mg H ρ (m ds G) Q E
theorem cU.len {K : PySem.W.Frag} {mg : Str → Option Value} {n : Nat} {m : List D → M D} {vs : List V} {H : Hp} {Q : VK} {E : XK} (h : cU K mg n m vs H Q E) : vs.length = n := by
  obtain ⟨ds, ρ, G, e, _, r, _⟩ := h
  rw [← r.length, e]
noncomputable def Pn (mg : Str → Option Value) (EE : ki) (σ : L2.St) : XK := fun cls _ H' => ∃ c, (match c with | .mk n _ => mg n = some cls) ∧ EE c σ H'
noncomputable def ML (CX : Bd) (X : Cx) (EE : ki) : Prop := ∀ (pins : List (Addr × Obj)) (σ : L2.St) (H : Hp) (s : Shared) (e : Value) (s' : Shared), Inv X pins σ H s → CX X.stack H s (Pn X.mg EE σ) e s' → X.xe e s'
section
variable {X : Cx} {CX : Bd} {EE : ki} {k n : Nat} {f : Addr} {fd : FuncData} {ps : List Str} {mf : List D → M D} {x : Str} {p pos : Pos} {e : Expr} {es : List Expr} {m : DS → M (List D)}
theorem ni.ab {K : PySem.W.Frag} {mg : Str → Option Value} {σ : L2.St} {H H' : Hp} {τ : DS} {ρ ρ' : List Addr} {G G' : DH} (ab : Ab K mg σ H τ ρ G) (f : ir K H H' ρ ρ') (h : ni K mg H' ρ' G') : Ab K mg σ H' τ ρ' G' := ⟨ab.st.mono f, h⟩
theorem DC {pins : List (Addr × Obj)} {σ : L2.St} {H : Hp} {s : Shared} {Q : VK} {us : List Value} {vs : List V} {τ : DS} {ρ : List Addr} {G : DH} {ds : List D} (F : cY X.prog X.w X.K X.mg X.base CX k f fd ps (cU X.K X.mg n mf)) (hr : mQ k X.A) (hb : Binds X.K fd ps [])
    (hx : ML CX X EE) (I : Inv X pins σ H s) (r : Vals vs us) (ab : Ab X.K X.mg σ H τ ρ G) (rs : aH X.K X.mg ρ H ds vs) (hn : ds.length = n) (ok : pT X.K X.mg EE H σ τ ρ (mf ds G) Q) : wpAny (model X.prog X.w) X.A (call (.ref f) us) (EP X pins σ Q) X.xe s := by
  have h : cU X.K X.mg n mf vs H Q (Pn X.mg EE σ) := by
    refine ⟨ds, ρ, G, hn, ab.hp, rs, ?_⟩
    cases q : mf ds G with
    | stuck => rw [q] at ok; exact ok
    | ok d G' => rw [q] at ok; exact fun v H' ρ' f hp r => ok v H' ρ' f (ni.ab ab f hp) r
    | fL c G' => rw [q] at ok; exact fun cls H' ρ' hc f hp => ⟨c, hc, ok H' ρ' f (ni.ab ab f hp)⟩
  have hl : (us ++ []).length = ps.length := by rw [List.append_nil, ← r.length]; exact F.len _ _ _ _ h
  have Oj := hb s us I.Dt hl
  rw [List.append_nil] at Oj
  refine wpAny_call (codeAny_mono (F.run X.A X.stack s H ⟨us, []⟩ us vs Q (Pn X.mg EE σ) hr I.mR Oj r h) fun r s' hq => ?_)
  cases r with
  | error e => exact hx pins σ H s e s' I hq
  | ok fl =>
    cases fl with
    | ret u => exact I.after hq
    | next => exact False.elim hq
    | brk => exact False.elim hq
    | cont => exact False.elim hq
noncomputable def br (n : Nat) (mf : List D → M D) (m : DS → M (List D)) : DS → M D := az (fun ds => if ds.length = n then mf ds else M.stop) m
theorem Ik (F : cY X.prog X.w X.K X.mg X.base CX k f fd ps (cU X.K X.mg n mf)) (hr : mQ k X.A) (hm : X.mg x = some (.ref f)) (hk : PySem.W.keepIn X.K (.ref f) = true) (hb : Binds X.K fd ps []) (hx : ML CX X EE)
    (ha : QA X EE (e :: es) m) (hg : Gl X x := by rfl) (hdb : (x == ("__debug__" : Str)) = false := by decide) (he : starEach (e :: es) X.env = (false, eval e X.env) :: starEach es X.env := by rfl) (hpl : (backTo pos (starEach es X.env)).any (·.1) = false := by rfl) :
    QE X EE (.Call (.Name x p) (e :: es) [] pos) (br n mf m) := by
  intro pins s σ H Q I h
  obtain ⟨τ, ρ, G, ab, ok⟩ := tu (k := fun _ ds => if ds.length = n then mf ds else M.stop) h
  refine wpAny_Call_Name_kw (Du I hg hm ?_ hdb)
  refine PySem.W.callWith_K (h₀ := X.base) I.ok.mod.Ob hk (j4 (ha pos pins s σ H _ I ⟨τ, ρ, G, ab, ok⟩) fun us s1 ⟨vs, H1, I1, r, q⟩ => ⟨I1.Dt, ?_⟩) he hpl
  obtain ⟨τ1, ρ1, G1, ds, qT, rs, Jw⟩ := q
  by_cases hn : ds.length = n
  · rw [if_pos hn] at Jw
    exact DC F hr hb hx I1 r qT rs hn Jw
  · rw [if_neg hn] at Jw
    exact Jw.elim
end
noncomputable def iG (N : Nat) (ms : MS) (ds : List D) : M D := fun G => match ms (ds.map some ++ List.replicate (N - ds.length) none) G with
  | .stuck => .stuck
  | .nx _ G' => .ok .lG G'
  | .rt d G' => .ok d G'
  | .bk _ _ => .stuck
  | .ct _ _ => .stuck
  | .xn c _ G' => .fL c G'
theorem CM {K : PySem.W.Frag} {mg : Str → Option Value} {H : Hp} {ρ : List Addr} {ds : List D} {vs : List V} {N : List Str} (r : aH K mg ρ H ds vs) : yo K mg H ρ (L2.start N vs) (ds.map some ++ List.replicate (N.length - ds.length) none) := by
  have hl := r.length
  refine ⟨by unfold L2.start; simp [hl], fun i d e => ?_⟩
  have hi : i < ds.length := by
    by_cases hi : i < ds.length
    · exact hi
    · rw [List.getElem?_append_right (by simpa using hi), List.getElem?_replicate] at e
      split at e <;> cases e
  rw [List.getElem?_append_left (by simpa using hi), List.getElem?_map] at e
  cases q : ds[i]? with
  | none => rw [q] at e; cases e
  | some d' =>
    rw [q] at e; cases e
    obtain ⟨v, e1, r1⟩ := r.get q
    refine ⟨v, ?_, r1⟩
    unfold L2.start
    rw [List.getElem?_append_left (by simp; omega), List.getElem?_map, e1]
    rfl
section
variable {P : Program} {w : World} {K : PySem.W.Frag} {mg : Str → Option Value} {base : Heap} {f : Addr} {fd : FuncData}
end
end L3
end
section
set_option Elab.async false
set_option linter.all false
set_option maxRecDepth 100000
namespace L3
open PySem PySem.Spec L2
section
variable {X : Cx} {EE : ki} {a b c : Expr} {ma mb mc : DS → M D} {pos : Pos}
noncomputable def K3 (X : Cx) (EE : ki) (f : List D → M D) : List V → Hp → VK → Prop := fun xs H Q => ∃ σ τ ρ G ds, Ab X.K X.mg σ H τ ρ G ∧ aH X.K X.mg ρ H ds xs ∧ pT X.K X.mg EE H σ τ ρ (f ds G) Q
theorem w9 {f : List D → M D} : CallD X EE (K3 X EE f) f := fun σ H τ ρ G xs ds Q ab r ok => ⟨σ, τ, ρ, G, ds, ab, r, ok⟩
theorem qH {K : PySem.W.Frag} {mg : Str → Option Value} {ρ : List Addr} {H : Hp} {d : D} {xs : List V} (r : aH K mg ρ H [d] xs) : ∃ x, xs = [x] ∧ Rep K mg ρ H d x := by
  unfold aH at r
  obtain ⟨v, r', rfl, h1, h2⟩ := r
  unfold aH at h2; subst h2
  exact ⟨v, rfl, h1⟩
theorem Ge {K : PySem.W.Frag} {mg : Str → Option Value} {ρ : List Addr} {H : Hp} {d e : D} {xs : List V} (r : aH K mg ρ H [d, e] xs) : ∃ x y, xs = [x, y] ∧ Rep K mg ρ H d x ∧ Rep K mg ρ H e y := by
  unfold aH at r
  obtain ⟨v, r', rfl, h1, h2⟩ := r
  obtain ⟨y, rfl, h3⟩ := qH h2
  exact ⟨v, y, rfl, h1, h3⟩
noncomputable def bW : List D → M D
  | [d] => fun G => match aD G d with
    | some (.lst xs) => .ok (.int xs.length) G
    | some (.tup xs) => .ok (.int xs.length) G
    | some (.str z) => if z.length ≤ sizeLine then .ok (.int z.length) G else .stuck
    | none => .stuck
  | _ => M.stop
theorem Ey : oO X (.builtin "len") (K3 X EE bW) := by
  intro pins s σ0 H xs us Q I r ⟨σ, τ, ρ, G, ds, ab, rs, ok⟩
  match ds, ok with
  | [], ok => exact ok.elim
  | _ :: _ :: _, ok => exact ok.elim
  | [d], ok =>
    obtain ⟨x, rfl, rx⟩ := qH rs
    dsimp only [bW] at ok
    cases q : aD G d with
    | none => rw [q] at ok; exact ok.elim
    | some sk =>
      rw [q] at ok
      cases sk with
      | lst zs =>
        obtain ⟨p, vs, rfl, sq, rv⟩ := gY (pins := pins) (σ0 := σ0) (s := s) ab.hp rx q
        exact tY pins s σ0 H _ us Q I r ⟨p, vs, rfl, .inl sq, ok _ H ρ .refl ab (by unfold Rep; rw [rv.length])⟩
      | tup zs =>
        obtain ⟨p, vs, rfl, sq, rv⟩ := pG rx q
        exact tY pins s σ0 H _ us Q I r ⟨p, vs, rfl, .inr sq, ok _ H ρ .refl ab (by unfold Rep; rw [rv.length])⟩
      | str z =>
        obtain ⟨rfl, rfl⟩ := rS rx q
        dsimp only at ok
        by_cases hz : z.length ≤ sizeLine
        · rw [if_pos hz] at ok
          exact zX pins s σ0 H _ us Q I r ⟨z, rfl, hz, ok _ H ρ .refl ab (by unfold Rep; rfl)⟩
        · rw [if_neg hz] at ok; exact ok.elim
inductive Ty where
  | lG | bl | int | str | tup | lst | dct
  deriving DecidableEq
noncomputable def Ty.nm : Ty → String
  | .lG => "NoneType" | .bl => "bool" | .int => "int" | .str => "str" | .tup => "tuple" | .lst => "list" | .dct => "dict"
noncomputable def qM (G : DH) : D → Option Ty
  | .lG => some .lG
  | .bl _ => some .bl
  | .int _ => some .int
  | .str _ => some .str
  | .tup _ => some .tup
  | .con _ => some .lst
  | .obj n => match G[n]? with
    | some (.lst _) => some .lst
    | _ => none
  | .fn _ => none
  | .zc _ _ => none
noncomputable def Ty.is (t c : Ty) : Bool := decide (t = c) || (decide (t = .bl) && decide (c = .int))
theorem tB (K : PySem.W.Frag) : ∀ (t c : Ty), c ≠ .lG → PySem.W.kitOne K (.type t.nm) (.type c.nm) = some (t.is c) := by
  intro t c h
  cases t <;> cases c <;> first | exact absurd rfl h | rfl | (with_unfolding_all rfl) | decide +kernel
noncomputable def iH (c : Ty) (d : D) : M D := fun G => match qM G d with
  | some t => .ok (.bl (t.is c)) G
  | none => .stuck
noncomputable def Il (c : Ty) (m : DS → M D) : DS → M D := fun τ => (m τ).bind (iH c)
theorem Im {c : Ty} (hc : c ≠ .lG) {pins : List (Addr × Obj)} {s : Shared} {σ0 σ : L2.St} {H : Hp} {τ : DS} {ρ : List Addr} {G : DH} {d : D} {x : V} {u : Value} {Q : VK} (I : Inv X pins σ0 H s) (ab : Ab X.K X.mg σ H τ ρ G) (rx : Rep X.K X.mg ρ H d x) (ru : RelV x u)
    (ok : pT X.K X.mg EE H σ τ ρ (iH c d G) Q) : wpAny (model X.prog X.w) X.A (call (.builtin "isinstance") [u, .type c.nm]) (EP X pins σ0 Q) X.xe s := by
  dsimp only [iH] at ok
  have fin : ∀ {b : Bool}, Q (.bl b) H → ∀ tk, EP X pins σ0 Q (.bool b) { s with toks := tk } := fun q tk => ⟨.bl _, H, I.tok tk, rfl, q⟩
  cases d with
  | lG =>
    have q := ok (.bl _) H ρ .refl ab (by unfold Rep; rfl)
    unfold Rep at rx; subst rx; cases ru
    exact PySem.W.kia_one PySem.W.kitx_none I.Dt True.intro (tB X.K .lG c hc) (fun z => nomatch z) (fin q)
  | bl y =>
    have q := ok (.bl _) H ρ .refl ab (by unfold Rep; rfl)
    unfold Rep at rx; subst rx; cases ru
    exact PySem.W.kia_one PySem.W.kitx_bool I.Dt True.intro (tB X.K .bl c hc) (fun z => nomatch z) (fin q)
  | int y =>
    have q := ok (.bl _) H ρ .refl ab (by unfold Rep; rfl)
    unfold Rep at rx; subst rx; obtain ⟨t, rfl⟩ := ru
    exact PySem.W.kia_one PySem.W.kitx_int I.Dt True.intro (tB X.K .int c hc) (fun z => nomatch z) (fin q)
  | str y =>
    have q := ok (.bl _) H ρ .refl ab (by unfold Rep; rfl)
    unfold Rep at rx; subst rx; obtain ⟨t, rfl⟩ := ru
    exact PySem.W.kia_one PySem.W.kitx_str I.Dt True.intro (tB X.K .str c hc) (fun z => nomatch z) (fin q)
  | tup ys =>
    have q := ok (.bl _) H ρ .refl ab (by unfold Rep; rfl)
    unfold Rep at rx
    obtain ⟨p, vs, rfl, sq, _⟩ := rx
    cases ru
    obtain ⟨its, _, ⟨o, h1, h2, _⟩, _⟩ := I.tuple sq
    exact PySem.W.kia_one PySem.W.kitx_tuple I.Dt ⟨o, h1, h2⟩ (tB X.K .tup c hc) (fun z => nomatch z) (fin q)
  | con ys =>
    have q := ok (.bl _) H ρ .refl ab (by unfold Rep; rfl)
    unfold Rep at rx
    obtain ⟨p, vs, rfl, sq, _⟩ := rx
    cases ru
    obtain ⟨its, _, ⟨o, k, h1, h2, _⟩, _⟩ := I.list sq.seq
    exact PySem.W.kia_one PySem.W.kitx_list I.Dt ⟨o, h1, h2⟩ (tB X.K .lst c hc) (fun z => nomatch z) (fin q)
  | obj n =>
    unfold Rep at rx
    obtain ⟨p, rfl, e1⟩ := rx
    cases ru
    dsimp only [qM] at ok
    cases g : G[n]? with
    | none => rw [g] at ok; exact ok.elim
    | some o =>
      cases o with
      | dead => first | (rw [q] at ok; exact ok.elim) | (rw [q] at bV; exact bV.elim) | (rw [q] at e; cases e; done) | (rw [g] at ok; exact ok.elim) | (rw [g] at q; cases q; done) | (rw [g] at h; cases h; done) | (rw [g2] at ok; exact ok.elim) | (rw [g1, g2] at ok; exact ok.elim) | (rw [q1] at ok; exact ok.elim) | exact ok.elim
      | dct kv => first | (rw [q] at ok; exact ok.elim) | (rw [q] at bV; exact bV.elim) | (rw [q] at e; cases e; done) | (rw [g] at ok; exact ok.elim) | (rw [g] at q; cases q; done) | (rw [g] at h; cases h; done) | (rw [g2] at ok; exact ok.elim) | (rw [g1, g2] at ok; exact ok.elim) | (rw [q1] at ok; exact ok.elim) | exact ok.elim
      | lst ys =>
        rw [g] at ok
        have q := ok (.bl _) H ρ .refl ab (by unfold Rep; rfl)
        obtain ⟨p', vs, e2, hp, _⟩ := ab.hp.lst g
        rw [e1] at e2; cases e2
        obtain ⟨its, _, ⟨o, k, h1, h2, _⟩, _⟩ := I.list (.of hp)
        exact PySem.W.kia_one PySem.W.kitx_list I.Dt ⟨o, h1, h2⟩ (tB X.K .lst c hc) (fun z => nomatch z) (fin q)
  | zc _ _ => exact ok.elim
  | fn x => exact ok.elim
theorem K4 (c : Ty) {p pt : Pos} {x : Str} (hc : c ≠ .lG) (hm : X.mg "isinstance" = none) (hmt : X.mg x = none) (ha : QE X EE a ma) (hb : bootBuiltins x = some (.type c.nm))
    (hg : Gl X "isinstance" := by rfl) (hgt : Gl X x := by rfl) (hnt : x ≠ "__name__" := by decide) (hdt : (x == ("__debug__" : Str)) = false := by decide)
    (he : starEach [a, .Name x pt] X.env = (false, eval a X.env) :: starEach [.Name x pt] X.env := by rfl) (SO : starEach [.Name x pt] X.env = (false, eval (.Name x pt) X.env) :: starEach [] X.env := by rfl) (hpl : (backTo pos (starEach [.Name x pt] X.env)).any (·.1) = false := by rfl)
    (hbi : bootBuiltins "isinstance" = some (.builtin "isinstance") := by first | exact PyProof.Rows.boot_isinstance | decide +kernel) :
    QE X EE (.Call (.Name "isinstance" p) [a, .Name x pt] [] pos) (Il c ma) := by
  have hT : PE X (.Name x pt) (tC (.ty c.nm)) := Hw hgt hmt hb rfl hnt hdt
  have hA : PA X [a, .Name x pt] (Fq (fR X.K X.mg EE ma) (Fq (tC (.ty c.nm)) Ms)) := zT ha (zT hT Ft SO) he
  intro pins s σ H Q I h
  obtain ⟨τ, ρ, G, ab, ok⟩ := u9 (k := fun _ d => iH c d) h
  refine wpAny_Call_Name_kw (kK I hg hm hbi ?_ (by decide) (by decide))
  refine PyProof.Rows.callWith_builtin1 (j4 (hA pos pins s σ H (fun vs H1 => ∃ x, vs = [x, .ty c.nm] ∧ ∃ τ ρ G d, Ab X.K X.mg σ H1 τ ρ G ∧ Rep X.K X.mg ρ H1 d x ∧ pT X.K X.mg EE H1 σ τ ρ (iH c d G) Q) I ⟨τ, ρ, G, ab, ?_⟩) fun us s1 ⟨vs, H1, I1, r1, q1⟩ => ?_) he hpl
  · cases e : ma τ G with
    | stuck => rw [e] at ok; exact ok
    | fL c G' => rw [e] at ok; exact ok
    | ok d G' => rw [e] at ok; exact fun v H' ρ' f' fC r' => ⟨v, rfl, ok v H' ρ' f' fC r'⟩
  · obtain ⟨y, rfl, τ2, ρ2, G2, d, iu, rd, bV⟩ := q1
    cases r1 with
    | cons ry rr =>
      cases rr with
      | cons rt rr =>
        cases rr
        cases rt
        exact Im hc I1 iu rd ry bV
end
end L3
end
section
set_option Elab.async false
set_option linter.all false
set_option maxRecDepth 100000
namespace L3
open PySem PySem.Spec L2
section
variable {X : Cx} {EE : ki} {a b c : Expr} {ma mb mc : DS → M D} {pos : Pos}
theorem CN {s : Shared} {h' : Heap} {o : Obj} (hk : ∀ b x, b ∉ [s.heap.objs.size] → (s.heap.push o).get? b = some x → h'.get? b = some x) : ∀ b x, s.heap.get? b = some x → h'.get? b = some x :=
  fun b x e => hk b x (fun hm => by rw [List.mem_singleton.mp hm] at e; exact Nat.lt_irrefl _ (Heap.lt_size e)) (Heap.get?_push_of_some _ e)
noncomputable def cM (g : Int → Int → Int) : List D → M D
  | [.int i, .int j] => M.ret (.int (g i j))
  | _ => M.stop
theorem Gf {g : Int → Int → Int} {ds : List D} {G : DH} {σ : L2.St} {H : Hp} {τ : DS} {ρ : List Addr} {Q : VK} (ok : pT X.K X.mg EE H σ τ ρ (cM g ds G) Q) : ∃ i j, ds = [.int i, .int j] ∧ pT X.K X.mg EE H σ τ ρ (.ok (.int (g i j)) G) Q := by
  unfold cM at ok
  split at ok
  · exact ⟨_, _, rfl, ok⟩
  · exact ok.elim
theorem Ez (hc : X.calm = true) : oO X (.builtin "min") (K3 X EE (cM fun i j => if j < i then j else i)) := by
  intro pins s σ0 H xs us Q I r ⟨σ, τ, ρ, G, ds, ab, rs, ok⟩
  obtain ⟨i, j, rfl, ok⟩ := Gf ok
  obtain ⟨x, y, rfl, r1, r2⟩ := Ge rs
  unfold Rep at r1 r2; subst r1 r2
  exact El hc pins s σ0 H _ us Q I r ⟨i, j, rfl, ok _ H ρ .refl ab (by unfold Rep; rfl)⟩
noncomputable def MM (X : Cx) (EE : ki) (f : D → List D → M D) : V → List V → Hp → VK → Prop := fun x xs H Q => ∃ σ τ ρ G d ds, Ab X.K X.mg σ H τ ρ G ∧ Rep X.K X.mg ρ H d x ∧ aH X.K X.mg ρ H ds xs ∧ pT X.K X.mg EE H σ τ ρ (f d ds G) Q
noncomputable def bU (T : String) (G : DH) : D → Bool
  | .str _ => T == "str"
  | .int _ => T == "int"
  | .con _ => T == "list"
  | .obj n => match G[n]? with
    | some (.lst _) => T == "list"
    | _ => false
  | _ => false
theorem zh {T : String} {σ : L2.St} {H : Hp} {τ : DS} {ρ : List Addr} {G : DH} {d : D} {x : V} (ab : Ab X.K X.mg σ H τ ρ G) (r : Rep X.K X.mg ρ H d x) (h : bU T G d = true) : Oi X.K T x H := by
  cases d with
  | str z => unfold Rep at r; subst r; exact eq_of_beq h
  | int z => unfold Rep at r; subst r; exact eq_of_beq h
  | con zs =>
    unfold Rep at r
    obtain ⟨p, vs, rfl, sq, _⟩ := r
    exact .inl ⟨eq_of_beq h, vs, sq.seq⟩
  | obj n =>
    unfold Rep at r
    obtain ⟨p, rfl, e1⟩ := r
    dsimp only [bU] at h
    cases g : G[n]? with
    | none => rw [g] at h; cases h
    | some o =>
      cases o with
      | dead => first | (rw [q] at ok; exact ok.elim) | (rw [q] at bV; exact bV.elim) | (rw [q] at e; cases e; done) | (rw [g] at ok; exact ok.elim) | (rw [g] at q; cases q; done) | (rw [g] at h; cases h; done) | (rw [g2] at ok; exact ok.elim) | (rw [g1, g2] at ok; exact ok.elim) | (rw [q1] at ok; exact ok.elim) | exact ok.elim
      | dct kv => first | (rw [q] at ok; exact ok.elim) | (rw [q] at bV; exact bV.elim) | (rw [q] at e; cases e; done) | (rw [g] at ok; exact ok.elim) | (rw [g] at q; cases q; done) | (rw [g] at h; cases h; done) | (rw [g2] at ok; exact ok.elim) | (rw [g1, g2] at ok; exact ok.elim) | (rw [q1] at ok; exact ok.elim) | exact ok.elim
      | lst ys =>
        rw [g] at h
        obtain ⟨p', vs, e2, hp, _⟩ := ab.hp.lst g
        rw [e1] at e2; cases e2
        exact .inl ⟨eq_of_beq h, vs, .of hp⟩
  | _ => cases h
noncomputable def ja (T : String) (f : D → List D → M D) (mo : DS → M D) (m : DS → M (List D)) : DS → M D := fun τ => (mo τ).bind fun d G => if bU T G d then (m τ).bind (fun ds => f d ds) G else .stuck
theorem Jx {o e : Expr} {es : List Expr} {name : Str} {apos cpos : Pos} {T id : String} {f : D → List D → M D} {mo : DS → M D} {m : DS → M (List D)} (pa : PlainAttrs T) (slot : Slot T name id) (hty : typeOf (.builtin id) = pure (.type "method_descriptor")) (hm : Jq X id (MM X EE f)) (ho : QE X EE o mo) (ha : QA X EE (e :: es) m)
    (hbase : attributeBase o name X.env (eval o X.env) = eval o X.env := by rfl)
    (hfew : ((backTo cpos (starEach (e :: es) X.env)).all (fun x => !x.1) && (backToKw cpos (keywordEach [] X.env)).all (fun x => x.1.isSome)
      && decide ((e :: es).length + ([] : List Keyword).length + (if ([] : List Keyword).isEmpty then 0 else 1) < 30)) = true := by rfl)
    (hline : (apos.endLine == cpos.line) = true := by rfl) (hs : starEach (e :: es) X.env = (false, eval e X.env) :: starEach es X.env := by rfl) (hplain : (backTo cpos (starEach es X.env)).any (·.1) = false := by rfl) :
    QE X EE (.Call (.Attribute o name apos) (e :: es) [] cpos) (ja T f mo m) := PE.mono (My pa slot hty hm ho ha hbase hfew hline hs hplain) fun σ H Q h => by
  obtain ⟨τ, ρ, G, ab, ok⟩ := u9 (k := fun τ d G => if bU T G d then (m τ).bind (fun ds => f d ds) G else .stuck) h
  refine ⟨τ, ρ, G, ab, ?_⟩
  cases e : mo τ G with
  | stuck => rw [e] at ok; exact ok
  | fL c G' => rw [e] at ok; exact ok
  | ok d G' =>
    rw [e] at ok
    intro v H' ρ' f' fC r'
    obtain ⟨τ2, ρ2, G2, d2, iu, r2, bV⟩ := ok v H' ρ' f' fC r'
    by_cases hk : bU T G2 d2 = true
    · rw [if_pos hk] at bV
      refine ⟨zh iu r2 hk, τ2, ρ2, G2, iu, ?_⟩
      dsimp only [M.bind] at bV
      cases e2 : m τ2 G2 with
      | stuck => rw [e2] at bV; exact bV
      | fL c G' => rw [e2] at bV; exact bV
      | ok ds G3 =>
        rw [e2] at bV
        exact fun vs H3 ρ3 f3 zd r3 => ⟨σ, τ2, ρ3, G3, d2, ds, zd, r2.mono f3, r3, bV.fut f3⟩
    · rw [if_neg hk] at bV; exact bV.elim
theorem K5 {o : Expr} {name : Str} {apos cpos : Pos} {T id : String} {f : D → List D → M D} {mo : DS → M D} (pa : PlainAttrs T) (slot : Slot T name id) (hty : typeOf (.builtin id) = pure (.type "method_descriptor")) (hm : Jq X id (MM X EE f)) (ho : QE X EE o mo)
    (hbase : attributeBase o name X.env (eval o X.env) = eval o X.env := by rfl) (hline : (apos.endLine == cpos.line) = true := by rfl) :
    QE X EE (.Call (.Attribute o name apos) [] [] cpos) (ja T f mo ao) := PE.mono (Kv pa slot hty hm ho hbase hline) fun σ H Q h => by
  obtain ⟨τ, ρ, G, ab, ok⟩ := u9 (k := fun τ d G => if bU T G d then (ao τ).bind (fun ds => f d ds) G else .stuck) h
  refine ⟨τ, ρ, G, ab, ?_⟩
  cases e : mo τ G with
  | stuck => rw [e] at ok; exact ok
  | fL c G' => rw [e] at ok; exact ok
  | ok d G' =>
    rw [e] at ok
    intro v H' ρ' f' fC r'
    obtain ⟨τ2, ρ2, G2, d2, iu, r2, bV⟩ := ok v H' ρ' f' fC r'
    by_cases hk : bU T G2 d2 = true
    · rw [if_pos hk] at bV
      exact ⟨zh iu r2 hk, σ, τ2, ρ2, G2, d2, [], iu, r2, .nil, bV⟩
    · rw [if_neg hk] at bV; exact bV.elim
noncomputable def aS : D → List D → M D
  | .obj n, [v] => fun G => match G[n]? with
    | some (.lst xs) => if xs.length < sizeLine then .ok .lG (G.set n (.lst (xs ++ [v]))) else .stuck
    | _ => .stuck
  | _, _ => M.stop
theorem CO {σ : L2.St} {H : Hp} {τ : DS} {ρ : List Addr} {G : DH} {n : Nat} {xs ys : List D} {d : D} {w : V} {p : Addr} {vs ws : List V} {Q : VK} (ab : Ab X.K X.mg σ H τ ρ G) (hn : ρ[n]? = some p) (hp : H p = some (.lst vs)) (r : aH X.K X.mg ρ H ys ws)
    (rd : ∀ H', ir X.K H H' ρ ρ → Rep X.K X.mg ρ H' d w) (ok : pT X.K X.mg EE H σ τ ρ (.ok d (G.set n (.lst ys))) Q) : Q w (upd H p (.lst ws)) := by
  have f : ir X.K H (upd H p (.lst ws)) ρ ρ := zZ hp ρ
  exact ok w _ ρ f (ab.fut f (ab.hp.put (ds := ys) hn hp r)) (rd _ f)
theorem CP : Jq X "list.append" (MM X EE aS) := by
  intro pins s σ0 H x xs v us Q I rx MN ⟨σ, τ, ρ, G, d, ds, ab, rd, Jy, ok⟩
  cases d <;> try exact ok.elim
  rename_i n
  match ds, ok with
  | [], ok => exact ok.elim
  | _ :: _ :: _, ok => exact ok.elim
  | [y], ok =>
    obtain ⟨yv, rfl, ry⟩ := qH Jy
    unfold Rep at rd
    obtain ⟨p, rfl, e1⟩ := rd
    dsimp only [aS] at ok
    cases g : G[n]? with
    | none => rw [g] at ok; exact ok.elim
    | some o =>
      cases o with
      | dead => first | (rw [q] at ok; exact ok.elim) | (rw [q] at bV; exact bV.elim) | (rw [q] at e; cases e; done) | (rw [g] at ok; exact ok.elim) | (rw [g] at q; cases q; done) | (rw [g] at h; cases h; done) | (rw [g2] at ok; exact ok.elim) | (rw [g1, g2] at ok; exact ok.elim) | (rw [q1] at ok; exact ok.elim) | exact ok.elim
      | dct kv => first | (rw [q] at ok; exact ok.elim) | (rw [q] at bV; exact bV.elim) | (rw [q] at e; cases e; done) | (rw [g] at ok; exact ok.elim) | (rw [g] at q; cases q; done) | (rw [g] at h; cases h; done) | (rw [g2] at ok; exact ok.elim) | (rw [g1, g2] at ok; exact ok.elim) | (rw [q1] at ok; exact ok.elim) | exact ok.elim
      | lst zs =>
        rw [g] at ok
        dsimp only at ok
        obtain ⟨p', vs, e2, hp, rs⟩ := ab.hp.lst g
        rw [e1] at e2; cases e2
        by_cases hz : zs.length < sizeLine
        · rw [if_pos hz] at ok
          exact yZ pins s σ0 H _ _ v us Q I rx MN ⟨p, vs, yv, rfl, rfl, hp, by rw [← rs.length]; exact hz, CO (xs := zs) ab e1 hp (rs.append (.cons ry .nil)) (fun _ _ => by unfold Rep; rfl) ok⟩
        · rw [if_neg hz] at ok; exact ok.elim
theorem EA {o e : Expr} {apos cpos : Pos} {mo : DS → M D} {m : DS → M (List D)} (ho : QE X EE o mo) (ha : QA X EE [e] m)
    (hbase : attributeBase o "append" X.env (eval o X.env) = eval o X.env := by rfl)
    (hfew : ((backTo cpos (starEach [e] X.env)).all (fun x => !x.1) && (backToKw cpos (keywordEach [] X.env)).all (fun x => x.1.isSome)
      && decide ([e].length + ([] : List Keyword).length + (if ([] : List Keyword).isEmpty then 0 else 1) < 30)) = true := by rfl)
    (hline : (apos.endLine == cpos.line) = true := by rfl) (hs : starEach [e] X.env = (false, eval e X.env) :: starEach [] X.env := by rfl) (hplain : (backTo cpos (starEach [] X.env)).any (·.1) = false := by rfl) :
    QE X EE (.Call (.Attribute o "append" apos) [e] [] cpos) (ja "list" aS mo m) := Jx PySem.F.plainAttrs_list PySem.F.slot_list_append PySem.F.type_list_append CP ho ha hbase hfew hline hs hplain
noncomputable def iS : D → List D → M D
  | .obj n, [] => fun G => match G[n]? with
    | some (.lst xs) => match xs[xs.length - 1]? with
      | some y => .ok y (G.set n (.lst xs.dropLast))
      | none => .stuck
    | _ => .stuck
  | _, _ => M.stop
theorem aH.dropLast {K : PySem.W.Frag} {mg : Str → Option Value} {ρ : List Addr} {H : Hp} {ds : List D} {vs : List V} (r : aH K mg ρ H ds vs) : aH K mg ρ H ds.dropLast vs.dropLast := by
  rw [List.dropLast_eq_take, List.dropLast_eq_take, ← r.length]
  exact r.take _
theorem Io : Jq X "list.pop" (MM X EE iS) := by
  intro pins s σ0 H x xs v us Q I rx MN ⟨σ, τ, ρ, G, d, ds, ab, rd, Jy, ok⟩
  cases d <;> try exact ok.elim
  rename_i n
  match ds, ok with
  | _ :: _, ok => exact ok.elim
  | [], ok =>
    unfold aH at Jy; subst Jy
    unfold Rep at rd
    obtain ⟨p, rfl, e1⟩ := rd
    dsimp only [iS] at ok
    cases g : G[n]? with
    | none => rw [g] at ok; exact ok.elim
    | some o =>
      cases o with
      | dead => first | (rw [q] at ok; exact ok.elim) | (rw [q] at bV; exact bV.elim) | (rw [q] at e; cases e; done) | (rw [g] at ok; exact ok.elim) | (rw [g] at q; cases q; done) | (rw [g] at h; cases h; done) | (rw [g2] at ok; exact ok.elim) | (rw [g1, g2] at ok; exact ok.elim) | (rw [q1] at ok; exact ok.elim) | exact ok.elim
      | dct kv => first | (rw [q] at ok; exact ok.elim) | (rw [q] at bV; exact bV.elim) | (rw [q] at e; cases e; done) | (rw [g] at ok; exact ok.elim) | (rw [g] at q; cases q; done) | (rw [g] at h; cases h; done) | (rw [g2] at ok; exact ok.elim) | (rw [g1, g2] at ok; exact ok.elim) | (rw [q1] at ok; exact ok.elim) | exact ok.elim
      | lst zs =>
        rw [g] at ok
        dsimp only at ok
        obtain ⟨p', vs, e2, hp, rs⟩ := ab.hp.lst g
        rw [e1] at e2; cases e2
        cases qz : zs[zs.length - 1]? with
        | none => rw [qz] at ok; exact ok.elim
        | some y =>
          rw [qz] at ok
          obtain ⟨yv, ey, ry⟩ := rs.get qz
          exact Kz pins s σ0 H _ _ v us Q I rx MN ⟨p, vs, yv, rfl, rfl, hp, by rw [← rs.length]; exact ey, CO (xs := zs) ab e1 hp rs.dropLast (fun _ f => ry.mono f) ok⟩
theorem K6 {o : Expr} {apos cpos : Pos} {mo : DS → M D} (ho : QE X EE o mo) (hbase : attributeBase o "pop" X.env (eval o X.env) = eval o X.env := by rfl) (hline : (apos.endLine == cpos.line) = true := by rfl) :
    QE X EE (.Call (.Attribute o "pop" apos) [] [] cpos) (ja "list" iS mo ao) := K5 PySem.F.plainAttrs_list PySem.F.slot_list_pop PySem.F.type_list_pop Io ho hbase hline
end
end L3
end
section
set_option Elab.async false
set_option linter.all false
set_option maxRecDepth 100000
namespace L3
open PySem PySem.Spec L2
structure EB (B : Heap) (l : List Env) (e : Addr) (cls : Value) (h : Heap) : Prop where
  stay : B.StaysIn h
  new : B.get? e = none
  U8 : h.FunFrames B l
  tr : (∃ oe vs a0, h.get? e = some oe ∧ oe.cls = cls ∧ oe.data = .fields vs ∧ vs[0]? = some a0 ∧ vs[1]? = some .none) ∨ ∃ a0 fl, h.TracedAtW B e cls a0 fl
section
variable {M : Model} {A : Around} {E : Value → Shared → Prop} {s : Shared} {B : Heap} {env : Env} {outer l : List Env} {L e : Addr} {cls : Value} {Q : Unit → Shared → Prop}
theorem CQ {env' : Env} (h : env'.frame = env.frame) (v : Value) : noteFrame v env' = noteFrame v env := by
  unfold noteFrame frameOf
  rw [h]
theorem DE (hfr : A.frames = some (env :: outer)) (hf : env.frame = some L) (f : EB B (env :: outer) e cls s.heap)
    (hQ : ∀ h' a0, Heap.HeldW B (env :: outer) e cls a0 L h' → s.heap.UpToSlots h' → Q () { s with heap := h' }) : wpAny M A (noteFrame (.ref e) env) Q E s := by
  obtain ⟨st, nw, fr, tr⟩ := f
  rcases tr with ⟨oe, vs, a0, he, hc, hd, h0, h1⟩ | ⟨a0, fl, oe, vs, T, oT, ts, he, hcls, hd, h1, MO, MP, hT, Fe, h3⟩
  · subst hc
    unfold noteFrame
    simp only [hf]
    refine wpAny_bind (wpAny_field he hd h1 ?_)
    rw [if_neg (by decide)]
    refine wpAny_entryW hfr fr hf he st nw hd (Array.getElem?_eq_some_iff.mp h1).1 h0 fun h' hN => ?_
    exact hQ h' a0 ⟨hN.1, nw, hN.2.1, hN.2.2.1⟩ hN.2.2.2
  · by_cases hq : (fl == rawInt L) = true
    · unfold noteFrame
      simp only [hf]
      refine wpAny_bind (wpAny_field he hd h1 ?_)
      rw [if_pos (show (Value.ref T != Value.none) = true by simp)]
      refine wpAny_bind (wpAny_field hT Fe h3 ?_)
      rw [if_pos hq]
      refine wpAny_pure ?_
      have := hQ s.heap a0 ⟨st, nw, fr, oe, vs, T, oT, ts, he, hcls, hd, h1, MO, MP, hT, Fe, by rw [h3, beq_iff_eq.mp hq]⟩ (.refl _)
      exact this
    · obtain ⟨rfl, h0⟩ := hcls
      unfold noteFrame
      simp only [hf]
      refine wpAny_bind (wpAny_field he hd h1 ?_)
      rw [if_pos (show (Value.ref T != Value.none) = true by simp)]
      refine wpAny_bind (wpAny_field hT Fe h3 ?_)
      rw [if_neg hq]
      refine wpAny_bind (wpAny_setField hT Fe (Array.getElem?_eq_some_iff.mp h3).1 ?_)
      have A3 : ∀ b, b ≠ T → (s.heap.update T (Obj.mapFields (·.setIfInBounds 3 Value.none))).get? b = s.heap.get? b := fun b hb => Heap.get?_update_other _ _ (Ne.symm hb)
      have MQ : ∀ b o, s.heap.get? b = some o → (∀ vs, o.data ≠ .fields vs) → b ≠ T := fun b o hb hnf z => by
        rw [z, hT] at hb; cases hb; exact hnf ts Fe
      refine wpAny_entryW hfr (fr.of_keeps fun b o hb hnf => ⟨o, (A3 b (MQ b o hb hnf)).trans hb, rfl⟩) hf ((A3 e (Ne.symm MP)).trans he)
        (fun b o Po => (A3 b fun z => by rw [z, MO] at Po; cases Po).trans (st b o Po)) nw hd (Array.getElem?_eq_some_iff.mp h1).1 h0 fun h' hN => ?_
      exact hQ h' a0 ⟨hN.1, nw, hN.2.1, hN.2.2.1⟩ fun b o hb hnf => hN.2.2.2 b o ((A3 b (MQ b o hb hnf)).trans hb) hnf
theorem Gg (hfr : A.frames = some (env :: outer)) (hf : env.frame = some L) (f : EB B (env :: outer) e cls s.heap)
    (hQ : ∀ h' a0, Heap.FlyingW B outer e cls a0 h' → s.heap.UpToSlots h' → Q () { s with heap := h' }) : wpAny M A (leaving env (.ref e)) Q E s := by
  unfold leaving
  refine wpAny_bind (DE hfr hf f fun h1 a0 hH u1 => ?_)
  refine wpAny_landsW hH fun h2 hF u2 => ?_
  obtain ⟨k1, k2, ⟨_, _, k3⟩, k4⟩ := hF
  exact hQ h2 a0 ⟨k1, k2, k3, k4⟩ (u1.trans u2)
theorem EB.EC {a0 : Value} {h : Heap} (f : Heap.FlyingW B l e cls a0 h) : EB B l e cls h := ⟨f.1, f.2.1, f.2.2.1, .inr ⟨a0, .none, f.2.2.2⟩⟩
end
structure Rb (X : Cx) (B : Heap) : Prop where
  keep : ∀ b o, X.s₀.heap.get? b = some o → X.H₀ b = none → b ∉ frs X.stack → b ∉ X.ex → B.get? b = some o
  there : ∀ b o, X.s₀.heap.get? b = some o → b ∉ frs X.stack → b ∉ X.ex → ∃ o', B.get? b = some o'
  pins : ∀ p ∈ X.pn, B.get? p.1 = some p.2
noncomputable def MR (X : Cx) (H : Hp) (e : Addr) (cls : Value) (s : Shared) : Prop := ∃ B, EB B X.stack e cls s.heap ∧ qQ X.prog X.w H B ∧ Rb X B
noncomputable def Gh (mg : Str → Option Value) (c : XD) (cls : Value) : Prop := match c with | .mk n _ => mg n = some cls
noncomputable def pH (X : Cx) (EE : ki) : Prop := ∀ (pins : List (Addr × Obj)) (σ : L2.St) (H : Hp) (s : Shared) (e : Addr) (cls : Value) (c : XD), Inv X pins σ H s → MR X H e cls s → Gh X.mg c cls → EE c σ H → X.xe (.ref e) s
section
variable {X : Cx} {pins : List (Addr × Obj)} {σ : L2.St} {H : Hp} {s : Shared} {h' : Heap}
theorem IsCell.slots {h h' : Heap} {c : Addr} {v : Option Value} (u : h.UpToSlots h') (hc : h.IsCell c v) : h'.IsCell c v := by
  obtain ⟨o, e, d⟩ := hc
  obtain ⟨sl, e'⟩ := u c o e fun vs q => by rw [d] at q; cases q
  exact ⟨_, e', d⟩
theorem Inv.MT {B : Heap} {t : Nat} (I : Inv X pins σ H s) (C : Rb X B) (hok : qQ X.prog X.w H B) (st : B.StaysIn h') (u : s.heap.UpToSlots h') : Inv X [] σ H { s with heap := h', toks := t } := by
  have Fg : ∀ b o, X.s₀.heap.get? b = some o → b ≠ X.env.locals := fun b o e => Nat.ne_of_lt (Nat.lt_of_lt_of_le (Heap.lt_size e) I.ok.above)
  have MU : ∀ b o, X.s₀.heap.get? b = some o → b ∉ X.fs → b ∉ frs X.stack := fun b o e hb z => by
    rcases List.mem_cons.mp (I.sY b z) with z | z
    · exact Fg b o e z
    · exact hb z
  have slots : ∀ b o, X.s₀.heap.get? b = some o → X.H₀ b = none → b ∈ X.fs → b ∉ X.ex → ∃ sl, h'.get? b = some { o with slots := sl } := fun b o e n hb hx => by
    obtain ⟨sl, e1⟩ := I.base.slot b o e n hb hx
    obtain ⟨_, o', eo, hd⟩ := I.ok.wQ.mem hb
    rw [e] at eo; cases eo
    obtain ⟨L6, e2⟩ := u b _ e1 hd
    exact ⟨L6, e2⟩
  refine ⟨I.ok, I.os, I.bare, ⟨fun b o e n hb hx => st _ _ (C.keep b o e n (MU b o e hb) hx), slots, I.base.free, fun b o e hx => ?_, I.base.tups, I.base.sX, I.base.tU⟩, ?_, fun x c e => ?_, I.free, I.sA, fun p hp => ?_, hok.kept st, I.len⟩
  · by_cases hb : b ∈ X.fs
    · obtain ⟨sl, e1⟩ := slots b o e (I.ok.LP b hb) hb hx
      exact ⟨_, e1⟩
    · obtain ⟨o', e1⟩ := C.there b o e (MU b o e hb) hx
      exact ⟨o', st _ _ e1⟩
  · obtain ⟨m, hn, hl⟩ := I.loc
    refine ⟨m, u.ns hn, fun i x v e1 e2 e3 => ?_⟩
    obtain ⟨w, r, l⟩ := hl i x v e1 e2 e3
    refine ⟨w, r, ?_⟩
    rcases l with l | ⟨k, c, e, z⟩
    · exact .inl l
    · exact .inr ⟨k, c, e, IsCell.slots u z⟩
  · obtain ⟨v, z⟩ := I.cell x c e
    exact ⟨v, IsCell.slots u z⟩
  · have DF : p ∈ X.pn := by simpa using hp
    obtain ⟨e, n, ne, nf, d⟩ := I.pin p (List.mem_append_left _ DF)
    exact ⟨st _ _ (C.pins p DF), n, ne, nf, d⟩
end
structure MV (P : Program) (w : World) (outer : List Env) (H : Hp) (s : Shared) (H' : Hp) (B : Heap) (s' : Shared) : Prop where
  os : s'.os = s.os
  bare : PyProof.Rows.AllBare s'.gens
  keep : ∀ b o, s.heap.get? b = some o → H b = none → b ∉ frs outer → B.get? b = some o
  there : ∀ b o, s.heap.get? b = some o → b ∉ frs outer → ∃ o', B.get? b = some o'
  slot : ∀ b o, s.heap.get? b = some o → H b = none → b ∈ frs outer → ∃ sl, s'.heap.get? b = some { o with slots := sl }
  free : ∀ b o, s.heap.get? b = some o → H b = none → H' b = none
  tups : ∀ b xs, H b = some (.tup xs) → H' b = some (.tup xs)
  sX : ∀ b o u, H b = some (.qE o u) → H' b = some (.qE o u)
  tU : ∀ b ps, H b = some (.A1 ps) → ∃ more, H' b = some (.A1 (ps ++ more))
  hok : qQ P w H' B
noncomputable def gc (P : Program) (w : World) : Bd := fun outer H s E ev s' => ∃ e cls a0 B H', ev = .ref e ∧ Heap.FlyingW B outer e cls a0 s'.heap ∧ MV P w outer H s H' B s' ∧ E cls none H'
theorem jf {X : Cx} {EE : ki} (h : pH X EE) : ML (gc X.prog X.w) X EE := by
  intro pins σ H s ev s' I hq
  obtain ⟨e, cls, a0, B, H', rfl, fl, F, c, hc, ee⟩ := hq
  have un : Un (frs X.stack) [] H H' s.heap s'.heap := ⟨fun b o e n hb _ => fl.1 _ _ (F.keep b o e n hb), fun b o e n hb _ => F.slot b o e n hb, fun b o e n _ => F.free b o e n, fun b o e _ => by
    by_cases hb : b ∈ frs X.stack
    · obtain ⟨sl, q⟩ := F.slot b o e (I.wG b hb) hb
      exact ⟨_, q⟩
    · obtain ⟨o', q⟩ := F.there b o e hb
      exact ⟨o', fl.1 _ _ q⟩, F.tups, F.sX, F.tU⟩
  have I' : Inv X pins σ H' s' := I.Fi F.os un (F.hok.kept fl.1) F.bare fun b z => absurd z (by simp)
  refine h pins σ H' s' e cls c I' ⟨B, .EC fl, F.hok, fun b o eb n hb hx => ?_, fun b o eb hb hx => ?_, fun p hp => ?_⟩ hc ee
  · have Pp : b ∉ X.fs := fun z => hb (by
      rcases I.ok.stk with q | ⟨q, _⟩
      · rw [q]; exact z
      · rw [q]; unfold frs; rw [List.filterMap_cons]; split
        · exact z
        · exact List.mem_cons_of_mem _ z)
    exact F.keep b o (I.base.keep b o eb n Pp hx) (I.base.free b o eb n hx) hb
  · obtain ⟨o', q⟩ := I.base.there b o eb hx
    exact F.there b o' q hb
  · obtain ⟨q, n, ne, nf, d⟩ := I.pin p (List.mem_append_left _ hp)
    exact F.keep p.1 p.2 q n fun z => by
      rcases List.mem_cons.mp (I.sY _ z) with z | z
      · exact ne z
      · exact nf z
end L3
end
section
set_option Elab.async false
set_option linter.all false
set_option maxRecDepth 100000
namespace L3
open PySem PySem.Spec L2
section
variable {P : Program} {w : World} {K : PySem.W.Frag} {mg : Str → Option Value} {base : Heap} {f : Addr} {fd : FuncData}
theorem A4 {x qual : Str} {st : Stmt} {N ps : List Str} {k n nn : Nat} {ms : MS} {m : List D → M D} (F : za K x qual st f fd) (S : gB N ps (aa st)) (hps : ps.length = n) (hN : N.length = nn) (hm : ∀ ds, m ds = iG nn ms ds)
    (hbody : ∀ (X : Cx) (EE : ki) (cdv : Value) (A : Around) (outer : List Env) (s : Shared) (H : Hp) (E : XK), X = nu (gc P w) P w K mg base N qual (aa st) f cdv A outer s H E → mQ k (A.deeper (PyProof.Rows.envOfC qual (aa st) s.heap.objs.size f cdv)) →
      pH X EE → PassesOwn (model P w) X.A X.env X.xe → Et X EE (bG st) ms) :
    cY P w K mg base (gc P w) (k + 1) f fd ps (cU K mg n m) := by
  subst hps hN
  have e : m = fun ds => iG N.length ms ds := funext hm
  subst e
  obtain ⟨oc, od, kV, doc, pm, an, cdv, ct, osl, rfl, lk, hcd⟩ := F.ex
  refine Mu lk hcd S (fun vs H Q E h => h.len) fun A outer s H vs Q E hr h => ?_
  obtain ⟨ds, ρ, G, hn, hp, rs, ok⟩ := h
  refine ⟨_, hbody _ (fun c σ H' => ∀ cls, Gh mg c cls → E cls none H') cdv A outer s H E rfl hr ?_ PassesOwn.leaving, ds.map some ++ List.replicate (N.length - ds.length) none, ρ, G, ⟨CM rs, hp⟩, ?_⟩
  · intro pins σ H' s' e cls c I fx hc ee
    obtain ⟨B, fb, hok, Ip⟩ := fx
    refine Gg (L := s.heap.objs.size) I.ok.frames rfl fb fun h' a0 fl u => ?_
    have I' : Inv _ [] σ H' { s' with heap := h' } := Inv.MT (t := s'.toks) I Ip hok fl.1 u
    have Fg : ∀ b o, s.heap.get? b = some o → b ∉ frs outer → b ∉ frs (PyProof.Rows.envOfC qual (aa st) s.heap.objs.size f cdv :: outer) := fun b o e hb z => by
      rcases List.mem_cons.mp (I.sY b z) with z | z
      · exact absurd (Heap.lt_size e) (by rw [show b = s.heap.objs.size from z]; exact Nat.lt_irrefl _)
      · exact hb z
    refine ⟨e, cls, a0, B, H', rfl, fl, ⟨I'.os, I'.bare, fun b o eb nb hb => Ip.keep b o eb nb (Fg b o eb hb) (by intro z; exact absurd (show b ∈ ([] : List Addr) from z) (by simp)), fun b o eb hb => Ip.there b o eb (Fg b o eb hb) (by intro z; exact absurd (show b ∈ ([] : List Addr) from z) (by simp)),
      fun b o eb nb hb => I'.base.slot b o eb nb hb (by intro z; exact absurd (show b ∈ ([] : List Addr) from z) (by simp)), fun b o eb nb => I'.base.free b o eb nb (by intro z; exact absurd (show b ∈ ([] : List Addr) from z) (by simp)), I'.base.tups, I'.base.sX, I'.base.tU, hok⟩, ee cls hc⟩
  · dsimp only [iG] at ok
    cases q : ms (ds.map some ++ List.replicate (N.length - ds.length) none) G with
    | stuck => rw [q] at ok; exact ok
    | nx τ G' => rw [q] at ok; exact fun σ' H' ρ' f ab => ok .lG H' ρ' f ab.hp (by unfold Rep; rfl)
    | rt d G' => rw [q] at ok; exact fun v H' ρ' f hp r => ok v H' ρ' f hp r
    | bk τ G' => rw [q] at ok; exact ok.elim
    | ct τ G' => rw [q] at ok; exact ok.elim
    | xn c τ G' => rw [q] at ok; exact fun σ' H' ρ' f ab cls hc => ok cls H' ρ' hc f ab.hp
end
theorem Gi {P : Program} {w : World} {H : Hp} {h B : Heap} (x : qQ P w H h) (k : ∀ b o, H b ≠ none → h.get? b = some o → B.get? b = some o) : qQ P w H B := fun a o e =>
  (x a o e).stay (fun b u hb q => k b u (by
    rcases hb with z | z
    · rw [z, e]; simp
    · rw [z]; simp) q) (fun _ q => q) fun _ _ q => q
section
variable {X : Cx} {EE : ki} {pins : List (Addr × Obj)} {σ : L2.St} {H : Hp} {s : Shared}
noncomputable def Gj (x : Str) (m : DS → M (List D)) : MS := fun τ => fS (m τ) (fun ds G => if ds.length ≤ sizeLine then .xn (.mk x ds) τ G else .stuck) fun c G => .xn c τ G
end
end L3
end
section
set_option Elab.async false
set_option linter.all false
set_option maxRecDepth 100000
namespace L3
open PySem PySem.Spec L2
noncomputable abbrev Cx.to (X : Cx) (E : Value → Shared → Prop) (pn : List (Addr × Obj)) : Cx := { X with xe := E, pn := pn }
section
variable {X : Cx} {EE : ki} {pins : List (Addr × Obj)} {σ : L2.St} {H : Hp} {s : Shared} {E : Value → Shared → Prop}
end
end L3
end
section
set_option Elab.async false
set_option linter.all false
set_option maxRecDepth 100000
namespace L3
open PySem PySem.Spec L2
noncomputable def lN (env : Env) : List (Str × NameKind) → List (Str × Addr) → List (Str × Addr)
  | [], acc => acc
  | (n, k) :: r, acc => lN env r (if k == .free then (match env.cells.lookup n with | some c => (n, c) :: acc | none => acc) else acc)
theorem sC {scope : Scope} {env : Env} (h : ∀ x ∈ scope.names, x.2 = .free → ∃ c, env.cells.lookup x.1 = some c) : closureFor scope env = pure (lN env scope.names []) := by
  unfold closureFor
  have key : ∀ (names : List (Str × NameKind)) (acc : List (Str × Addr)), (∀ x ∈ names, x.2 = .free → ∃ c, env.cells.lookup x.1 = some c) →
      (forIn names acc fun x r => match x with | (name, kind) => if (kind == NameKind.free) = true then do let y ← cellOf env name; pure (ForInStep.yield ((name, y) :: r)) else pure (ForInStep.yield r)) = (pure (lN env names acc) : Sem (List (Str × Addr))) := by
    intro names
    induction names with
    | nil => intro acc _; rfl
    | cons x r ih =>
      intro acc hx
      obtain ⟨n, k⟩ := x
      rw [List.forIn_cons]
      by_cases hk : (k == NameKind.free) = true
      · obtain ⟨c, hc⟩ := hx (n, k) List.mem_cons_self (eq_of_beq hk)
        have e : cellOf env n = pure c := by unfold cellOf; rw [hc]
        simp only [if_pos hk, e, pure_bind]
        rw [ih _ fun y hy => hx y (List.mem_cons_of_mem _ hy)]
        show _ = pure (lN env r (if (k == NameKind.free) = true then (match env.cells.lookup n with | some c => (n, c) :: acc | none => acc) else acc))
        rw [if_pos hk, hc]
      · simp only [if_neg hk, pure_bind]
        rw [ih _ fun y hy => hx y (List.mem_cons_of_mem _ hy)]
        show _ = pure (lN env r (if (k == NameKind.free) = true then (match env.cells.lookup n with | some c => (n, c) :: acc | none => acc) else acc))
        rw [if_neg hk]
  have k2 := key scope.names [] h
  first
    | (rw [k2]; rfl)
    | (simp only [k2, pure_bind])
    | exact k2
theorem xg {env : Env} : ∀ (names : List (Str × NameKind)) (acc : List (Str × Addr)), (∀ y c, acc.lookup y = some c → env.cells.lookup y = some c) → ∀ y c, (lN env names acc).lookup y = some c → env.cells.lookup y = some c
  | [], acc, h, y, c, e => h y c e
  | (n, k) :: r, acc, h, y, c, e => by
    refine xg r _ (fun z d ez => ?_) y c e
    by_cases hk : (k == NameKind.free) = true
    · rw [if_pos hk] at ez
      cases q : env.cells.lookup n with
      | none => rw [q] at ez; exact h z d ez
      | some c' =>
        rw [q] at ez
        dsimp only at ez
        rw [List.lookup_cons] at ez
        cases hz : z == n with
        | true => rw [hz] at ez; cases ez; rw [eq_of_beq hz]; exact q
        | false => rw [hz] at ez; exact h z d ez
    · rw [if_neg hk] at ez
      exact h z d ez
theorem xh {env : Env} : ∀ (names : List (Str × NameKind)) (acc : List (Str × Addr)) (y : Str), ((∃ c, acc.lookup y = some c) ∨ ((y, NameKind.free) ∈ names ∧ ∃ c, env.cells.lookup y = some c)) → ∃ c, (lN env names acc).lookup y = some c
  | [], acc, y, h => by
    rcases h with h | ⟨h, _⟩
    · exact h
    · cases h
  | (n, k) :: r, acc, y, h => by
    refine xh r _ y ?_
    rcases h with ⟨c, h⟩ | ⟨h, c, hc⟩
    · left
      by_cases hk : (k == NameKind.free) = true
      · rw [if_pos hk]
        cases q : env.cells.lookup n with
        | none => exact ⟨c, h⟩
        | some c' =>
          dsimp only
          rw [List.lookup_cons]
          cases hz : y == n with
          | true => exact ⟨c', rfl⟩
          | false => exact ⟨c, h⟩
      · rw [if_neg hk]; exact ⟨c, h⟩
    · rcases List.mem_cons.mp h with e | h
      · cases e
        left
        rw [if_pos (by rfl), hc]
        dsimp only
        exact ⟨c, by rw [List.lookup_cons, beq_self_eq_true]⟩
      · exact .inr ⟨h, c, hc⟩
end L3
end
section
set_option Elab.async false
set_option linter.all false
set_option maxRecDepth 100000
namespace L3
open PySem PySem.Spec L2 PyProof.Rows
noncomputable def mask {α : Type} : List Bool → List (Option α) → List (Option α)
  | _, [] => []
  | [], _ :: r => none :: mask [] r
  | k :: ks, o :: r => (if k then o else none) :: mask ks r
theorem oR {α : Type} : ∀ (ks : List Bool) (l : List (Option α)), (mask ks l).length = l.length
  | _, [] => by unfold mask; rfl
  | [], _ :: r => by unfold mask; simp [oR [] r]
  | k :: ks, o :: r => by unfold mask; simp [oR ks r]
theorem qV {α : Type} {v : α} : ∀ {ks : List Bool} {l : List (Option α)} {i : Nat}, (mask ks l)[i]? = some (some v) → ks[i]? = some true ∧ l[i]? = some (some v)
  | ks, [], i, h => by unfold mask at h; simp at h
  | [], o :: r, 0, h => by unfold mask at h; simp at h
  | [], o :: r, i + 1, h => by
    unfold mask at h
    have := (qV (ks := []) (l := r) (i := i) (by simpa using h)).1
    simp at this
  | k :: ks, o :: r, 0, h => by
    unfold mask at h
    cases k with
    | true => simpa using h
    | false => simp at h
  | k :: ks, o :: r, i + 1, h => by
    unfold mask at h
    have := qV (ks := ks) (l := r) (i := i) (by simpa using h)
    simpa using this
theorem DG {α : Type} {v : α} : ∀ {ks : List Bool} {l : List (Option α)} {i : Nat}, ks[i]? = some true → l[i]? = some (some v) → (mask ks l)[i]? = some (some v)
  | ks, [], i, _, h => by simp at h
  | [], o :: r, i, h, _ => by simp at h
  | k :: ks, o :: r, 0, h, e => by unfold mask; simp at h e; simp [h, e]
  | k :: ks, o :: r, i + 1, h, e => by
    unfold mask
    have := DG (ks := ks) (l := r) (i := i) (by simpa using h) (by simpa using e)
    simpa using this
noncomputable def yq (env : Env) (n : Str) (k : NameKind) : NameKind := if (k == .free && env.scope.kind == .function && env.kindOf n == some .cell) then .cell else k
theorem jl {env : Env} {y : Str} : ∀ (names : List (Str × NameKind)), (names.map fun (n, k) => if (k == NameKind.free && env.scope.kind == .function && env.kindOf n == some .cell) then (n, NameKind.cell) else (n, k)).lookup y = (names.lookup y).map (yq env y)
  | [] => rfl
  | (n, k) :: r => by
    have ih := jl (env := env) (y := y) r
    rw [List.map_cons, List.lookup_cons]
    by_cases hc : (k == NameKind.free && env.scope.kind == .function && env.kindOf n == some .cell) = true
    · rw [if_pos hc, List.lookup_cons]
      cases hy : y == n with
      | true =>
        have e : y = n := eq_of_beq hy
        subst e
        simp [yq, hc]
      | false => exact ih
    · rw [if_neg hc, List.lookup_cons]
      cases hy : y == n with
      | true =>
        have e : y = n := eq_of_beq hy
        subst e
        simp [yq, hc]
      | false => exact ih
structure di (Oq : Scope) (N : List Str) (scope : Scope) (xs : List Str) (ks : List Bool) : Prop where
  nd : xs.Nodup
  kind : scope.kind = .function
  Gk : ∀ y ∈ scope.names, y.2 ≠ .cell
  names : ∀ y ∈ scope.names, y.2 = .local → scope.names.lookup y.1 = some .local
  loc : ∀ x ∈ xs, scope.names.lookup x = some .local
  free : ∀ y ∈ scope.names, y.2 = .free → Oq.names.lookup y.1 = some .cell ∨ Oq.names.lookup y.1 = some .free
  Pq : ((ks.zip N).all fun p => !p.1 || decide (scope.names.lookup p.2 = some .free)) = true
theorem di.cap {Oq : Scope} {N : List Str} {scope : Scope} {xs : List Str} {ks : List Bool} (S : di Oq N scope xs ks) : ∀ i < ks.length, ks[i]? = some true → ∀ y ∈ N[i]?, scope.names.lookup y = some .free := fun i _ hk y hy => by
  have h := List.all_eq_true.mp S.Pq (true, y) (List.mem_of_getElem? (i := i) (by rw [List.getElem?_zip_eq_some]; exact ⟨hk, hy⟩))
  simpa using h
noncomputable def vc (X : Cx) (scope : Scope) (cl : List (Str × Addr)) (xs : List Str) (C : Addr) (pins : List (Addr × Obj)) (s : Shared) (H : Hp) (fp : List Addr) (E : Value → Shared → Prop) : Cx where
  prog := X.prog
  w := X.w
  K := X.K
  mg := X.mg
  base := X.base
  A := X.A
  N := xs ++ X.N
  s₀ := s
  H₀ := H
  env := compEnvC scope cl C X.env
  outer := X.stack
  stack := X.stack
  ex := fp
  fn := fun _ => false
  calm := X.calm
  pn := X.pn ++ pins
  xe := E
section
variable {X : Cx} {scope : Scope} {xs : List Str} {x : Str} {ks : List Bool} {pins : List (Addr × Obj)} {σ : L2.St} {H : Hp} {s s4 : Shared} {fp : List Addr} {E : Value → Shared → Prop} {h1 : Heap}
theorem mem_lookup {α β : Type} [BEq α] [LawfulBEq α] : ∀ {l : List (α × β)} {a : α} {b : β}, l.lookup a = some b → (a, b) ∈ l
  | [], _, _, h => by simp at h
  | (a', b') :: r, a, b, h => by
    rw [List.lookup_cons] at h
    cases hz : a == a' with
    | true => rw [hz] at h; cases h; rw [eq_of_beq hz]; exact List.mem_cons_self
    | false => rw [hz] at h; exact List.mem_cons_of_mem _ (mem_lookup h)
theorem Gm (S : di X.env.scope X.N scope xs ks) {cl : List (Str × Addr)} {C : Addr} {y : Str} (h : (compEnvC scope cl C X.env).kindOf y = some .cell ∨ (compEnvC scope cl C X.env).kindOf y = some .free) : scope.names.lookup y = some .free := by
  have h' : (scope.names.lookup y).map (yq X.env y) = some .cell ∨ (scope.names.lookup y).map (yq X.env y) = some .free := by
    rw [← jl]; exact h
  cases q : scope.names.lookup y with
  | none => rw [q] at h'; rcases h' with h' | h' <;> cases h'
  | some k =>
    rw [q] at h'
    cases k with
    | free => rfl
    | cell => exact absurd rfl (S.Gk _ (mem_lookup q))
    | _ => rcases h' with h' | h' <;> simp [yq] at h'
theorem ve (S : di X.env.scope X.N scope xs ks) {cl : List (Str × Addr)} {C : Addr} {y : Str} (h : scope.names.lookup y = some .free) : (compEnvC scope cl C X.env).kindOf y = some .cell ∨ (compEnvC scope cl C X.env).kindOf y = some .free := by
  have e : (compEnvC scope cl C X.env).kindOf y = (scope.names.lookup y).map (yq X.env y) := jl scope.names
  rw [e, h]
  unfold yq
  dsimp only [Option.map]
  split
  · exact .inl rfl
  · exact .inr rfl
theorem xj (S : di X.env.scope X.N scope xs ks) (hx : x ∈ xs) {cl : List (Str × Addr)} {C : Addr} : (compEnvC scope cl C X.env).kindOf x = some .local := by
  have e : (compEnvC scope cl C X.env).kindOf x = (scope.names.lookup x).map (yq X.env x) := jl scope.names
  rw [e, S.loc x hx]
  rfl
theorem CS (S : di X.env.scope X.N scope xs ks) (I : Inv X pins σ H s) (hf : ∀ b ∈ fp, tV X pins H b ∧ b < s.heap.objs.size) (hn : h1.Ns s.heap.objs.size fun _ => none) (hk : ∀ b o, s.heap.get? b = some o → h1.get? b = some o) (t : Nat) :
    Inv (vc X scope (lN X.env scope.names []) xs s.heap.objs.size pins s H fp E) [] (List.replicate xs.length none ++ mask ks σ) H { s with heap := h1, toks := t } := by
  have cs : ∀ y c, (lN X.env scope.names []).lookup y = some c → X.env.cells.lookup y = some c := xg scope.names [] fun y c e => by simp at e
  have lt : ∀ b o, s.heap.get? b = some o → b ≠ s.heap.objs.size := fun b o e => Nat.ne_of_lt (Heap.lt_size e)
  have K7 : ∀ y c, X.env.cells.lookup y = some c → ∃ v, s.heap.IsCell c v := fun y c e => I.cell y c e
  have Jz : ∀ b, b ≠ X.env.locals → b ∉ X.fs → b ∉ frs X.stack := fun b h1 h2 h3 => (List.mem_cons.mp (I.sY b h3)).elim h1 h2
  refine ⟨⟨I.ok.mod, ?_, I.ok.glob, I.ok.blt, Nat.le_refl _, fun y z c e1 e2 => I.ok.inj y z c (cs y c e1) (cs z c e2), fun y hy => ?_, fun y c h _ => absurd (show false = true from h) Bool.false_ne_true, I.ok.hd, I.ok.frames, .inl rfl, fun b hb => ⟨Nat.ne_of_lt (hf b hb).2, fun y c e => (hf b hb).1.2.2.2.2.1 y c (cs y c e)⟩, I.bs,
      Nat.le_trans I.ok.JP I.sz, fun b o e hb => ?_, fun b hb => Jz b (hf b hb).1.2.1 (hf b hb).1.2.2.1, I.stack, I.wG⟩, rfl, I.bare, Un.kept hk, ⟨_, hn, fun i y v e1 e2 e3 => ?_⟩, fun y c e => ?_, I.hok.fresh (Nat.le_refl _), fun y c e => I.sA y c (cs y c e), fun p hp => ?_, I.hok.kept hk, ?_⟩
  · show (relabel scope X.env).kind = .function
    exact S.kind
  · have hfree := Gm S hy
    have hm := mem_lookup hfree
    refine xh scope.names [] y (.inr ⟨hm, ?_⟩)
    exact I.ok.has y (S.free _ hm rfl)
  · rcases (hf b hb).1.2.2.2.1 with z | z
    · exact I.ok.JQ b o e z
    · exact absurd (Nat.lt_of_lt_of_le (Heap.lt_size (I.ok.bs b o e).1) z) (Nat.lt_irrefl _)
  · by_cases hlt : i < xs.length
    · rw [List.getElem?_append_left (by simpa using hlt), List.getElem?_replicate] at e2
      rw [if_pos hlt] at e2; cases e2
    · obtain ⟨j, rfl⟩ : ∃ j, i = xs.length + j := ⟨i - xs.length, by omega⟩
      have Fd : (mask ks σ)[j]? = some (some v) := by
        rw [List.getElem?_append_right (by simp)] at e2
        simpa using e2
      obtain ⟨hks, eσ⟩ := qV Fd
      have Dz : X.N[j]? = some y := by
        have : (xs ++ X.N)[xs.length + j]? = some y := e1
        rw [List.getElem?_append_right (by omega)] at this
        simpa using this
      have hfree : scope.names.lookup y = some .free := S.cap j (List.getElem?_eq_some_iff.mp hks).1 hks y (by rw [Dz]; rfl)
      obtain ⟨m, hm, hl⟩ := I.loc
      have hkind := S.free _ (mem_lookup hfree) rfl
      obtain ⟨u, r, l⟩ := hl j y v Dz eσ (hkind.elim (fun z => .inr (.inl z)) fun z => .inr (.inr z))
      refine ⟨u, r, .inr ⟨ve S hfree, ?_⟩⟩
      rcases l with ⟨k, _⟩ | ⟨k, c, ec, hc⟩
      · have k' : X.env.scope.names.lookup y = some .local := k
        rcases hkind with z | z <;> (rw [k'] at z; cases z)
      · obtain ⟨c', Rc⟩ := xh (env := X.env) scope.names [] y (.inr ⟨mem_lookup hfree, c, ec⟩)
        have := cs y c' Rc
        rw [ec] at this; cases this
        exact ⟨c, Rc, hc.keeps hk⟩
  · obtain ⟨v, hc⟩ := K7 y c (cs y c e)
    exact ⟨v, hc.keeps hk⟩
  · have DF : p ∈ X.pn ++ pins := by
      have : p ∈ (X.pn ++ pins) ++ [] := hp
      simpa using this
    obtain ⟨e, n, ne, nf, d⟩ := I.pin p DF
    exact ⟨hk _ _ e, n, lt _ _ e, Jz _ ne nf, d⟩
  · show (List.replicate xs.length none ++ mask ks σ).length = (xs ++ X.N).length
    simp [oR, I.len]
theorem tD {Xc : Cx} {cl : List (Str × Addr)} {C : Addr} {σ0 : L2.St} {own : List (Option V)} {n : Nat} {v : V} {u : Value} {A' : Around} {Q : Unit → Shared → Prop} {E' : Value → Shared → Prop} {M' : Model} {px : Pos} {s0 : Shared} {H0 H1 : Hp} {s1 : Shared} {nh : List (Addr × Obj)}
    (S : di X.env.scope X.N scope xs ks) (e : Xc = vc X scope cl xs C pins s0 H0 fp E) (LV : own.length = xs.length) (hx : xs[n]? = some x) (I : Inv Xc nh (own ++ mask ks σ0) H1 s1) (r : RelV v u) (h : ∀ s', Inv Xc nh (own.set n (some v) ++ mask ks σ0) H1 s' → Q () s') :
    wpAny M' A' (assign (.Name x px) Xc.env u) Q E' s1 := by
  subst e
  obtain ⟨m, hn, hl⟩ := id I.loc
  have K8 := xj (cl := cl) (C := C) S (List.mem_of_getElem? hx)
  refine wpAny_assign_Name (wpAny_storeName_local K8 hn (fun h' hn' hs => ?_) (by rw [show (vc X scope cl xs C pins s0 H0 fp E).env.scope.kind = .function from S.kind]; rfl))
  refine h _ ?_
  have Fg : ∀ b o, s0.heap.get? b = some o → b ≠ C := fun b o e => Nat.ne_of_lt (Nat.lt_of_lt_of_le (Heap.lt_size e) I.ok.above)
  obtain ⟨oL, _, _, QY, _⟩ := id hn
  have hfree : H1 C = none := I.free
  refine ⟨I.ok, I.os, I.bare, ⟨fun b o e n hb hx => ?_, fun b o e n hb hx => ?_, I.base.free, fun b o e hx => ?_, I.base.tups, I.base.sX, I.base.tU⟩, ⟨_, hn', fun j y v' e1 e2 e3 => ?_⟩, fun y c e => ?_, I.free, I.sA, fun p hp => ?_, fun b ob e => ?_, by simpa using I.len⟩
  · exact (hs.2 b (Fg b o e)).trans (I.base.keep b o e n hb hx)
  · obtain ⟨sl, e1⟩ := I.base.slot b o e n hb hx
    exact ⟨sl, (hs.2 b (Fg b o e)).trans e1⟩
  · obtain ⟨o', e1⟩ := I.base.there b o e hx
    exact ⟨o', (hs.2 b (Fg b o e)).trans e1⟩
  · have hnl : n < xs.length := (List.getElem?_eq_some_iff.mp hx).1
    by_cases hlt : j < xs.length
    · have ey : xs[j]? = some y := by
        have : (xs ++ X.N)[j]? = some y := e1
        rwa [List.getElem?_append_left hlt] at this
      rw [List.getElem?_append_left (by simp; omega)] at e2
      by_cases hj : n = j
      · subst hj
        rw [hx] at ey; cases ey
        rw [List.getElem?_set, if_pos rfl, if_pos (by omega)] at e2
        cases e2
        exact ⟨u, r, .inl ⟨K8, by simp⟩⟩
      · rw [List.getElem?_set_ne hj] at e2
        have hne : y ≠ x := by
          rintro rfl
          obtain ⟨h1, Dz⟩ := List.getElem?_eq_some_iff.mp hx
          obtain ⟨h2, Fd⟩ := List.getElem?_eq_some_iff.mp ey
          exact hj ((List.getElem_inj S.nd).mp (Dz.trans Fd.symm))
        obtain ⟨u', r', q⟩ := hl j y v' e1 (by rw [List.getElem?_append_left (by omega)]; exact e2) e3
        refine ⟨u', r', ?_⟩
        rcases q with ⟨k, e⟩ | ⟨k, c, e, z⟩
        · exact .inl ⟨k, by simpa [hne] using e⟩
        · exact .inr ⟨k, c, e, z.sameBut hs (I.Hr y c e)⟩
    · obtain ⟨j, rfl⟩ : ∃ k, j = xs.length + k := ⟨j - xs.length, by omega⟩
      have Fd : (mask ks σ0)[j]? = some (some v') := by
        rw [List.getElem?_append_right (by simp; omega)] at e2
        simpa [LV] using e2
      obtain ⟨u', r', q⟩ := hl (xs.length + j) y v' e1 (by rw [List.getElem?_append_right (by omega)]; simpa [LV] using Fd) e3
      refine ⟨u', r', ?_⟩
      rcases q with ⟨k, e⟩ | ⟨k, c, e, z⟩
      · obtain ⟨hks, _⟩ := qV Fd
        have Dz : X.N[j]? = some y := by
          have : (xs ++ X.N)[xs.length + j]? = some y := e1
          rw [List.getElem?_append_right (by omega)] at this
          simpa using this
        have hfr : scope.names.lookup y = some .free := S.cap j (List.getElem?_eq_some_iff.mp hks).1 hks y (by rw [Dz]; rfl)
        rcases ve (cl := cl) (C := C) S hfr with z | z
        · have k' : (compEnvC scope cl C X.env).kindOf y = some .local := k
          rw [k'] at z; cases z
        · have k' : (compEnvC scope cl C X.env).kindOf y = some .local := k
          rw [k'] at z; cases z
      · exact .inr ⟨k, c, e, z.sameBut hs (I.Hr y c e)⟩
  · obtain ⟨w', z⟩ := I.cell y c e
    exact ⟨w', z.sameBut hs (I.Hr y c e)⟩
  · obtain ⟨e, n, ne, nf, d⟩ := I.pin p hp
    exact ⟨(hs.2 p.1 ne).trans e, n, ne, nf, d⟩
  · refine (I.hok b ob e).stay (fun c w' hc q => (hs.2 c ?_).trans q) (fun _ q => q) fun _ _ q => q
    intro ec
    rcases hc with hc | hc
    · have : H1 C = some ob := by rw [← (show c = C from ec), hc]; exact e
      rw [hfree] at this; cases this
    · have : H1 C = some (.own b) := by rw [← (show c = C from ec)]; exact hc
      rw [hfree] at this; cases this
noncomputable def t8 : V → Hp → List V → Prop := fun x _ vs => vs = [x]
noncomputable def Iq (K : PySem.W.Frag) (n : Nat) : V → Hp → List V → Prop := fun x H vs => ∃ a, x = .ref a ∧ sZ K H a vs ∧ vs.length = n
noncomputable def Own (X : Cx) (scope : Scope) (xs : List Str) (ks : List Bool) (tg : Expr) (ow : V → Hp → List V → Prop) : Prop :=
  ∀ (cl : List (Str × Addr)) (C : Addr) (pins : List (Addr × Obj)) (s0 : Shared) (H0 : Hp) (fp : List Addr) (E : Value → Shared → Prop) (Xc : Cx) (σ0 : L2.St) (own : List (Option V)) (x : V) (vs : List V) (u : Value) (H1 : Hp) (s1 : Shared) (nh : List (Addr × Obj)) (E' : Value → Shared → Prop) (Q : Unit → Shared → Prop),
    Xc = vc X scope cl xs C pins s0 H0 fp E → own.length = xs.length → Inv Xc nh (own ++ mask ks σ0) H1 s1 → RelV x u → ow x H1 vs →
    (vs.length = xs.length → ∀ s', Inv Xc nh (vs.map some ++ mask ks σ0) H1 s' → Q () s') → wpAny (model X.prog X.w) X.A (assign tg Xc.env u) Q E' s1
theorem i6 {px : Pos} (S : di X.env.scope X.N scope [x] ks) : Own X scope [x] ks (.Name x px) t8 := by
  intro cl C pins s0 H0 fp E Xc σ0 own v vs u H1 s1 nh E' Q e ho I r hv h
  cases hv
  match own, ho with
  | [a], _ => exact tD (own := [a]) (n := 0) S e rfl rfl I r fun s' I' => h rfl s' I'
theorem Bp {x y : Str} {px py pt : Pos} {k : Nat} (hc : X.calm = true) (S : di X.env.scope X.N scope [x, y] ks) : Own X scope [x, y] ks (.Tuple [.Name x px, .Name y py] k pt) (Iq X.K 2) := by
  intro cl C pins s0 H0 fp E Xc σ0 own v vs u H1 s1 nh E' Q e ho I r hv h
  obtain ⟨a, rfl, sq, hl⟩ := hv
  cases r
  match own, ho, vs, hl with
  | [a1, a2], _, [v1, v2], _ =>
    have SQ : sZ Xc.K H1 a [v1, v2] := by rw [e]; exact sq
    obtain ⟨its, rv, ht, hz⟩ := I.tuple SQ
    cases rv with
    | cons r1 rv =>
    cases rv with
    | cons r2 rv =>
    cases rv
    have hd : X.A.handled = none := by
      have := I.ok.hd (by rw [e]; exact hc)
      rw [e] at this; exact this
    refine assign_Tuple_tuple hd ht rfl rfl fun h' hx => ?_
    have I1 : Inv Xc nh ([a1, a2] ++ mask ks σ0) H1 { s1 with heap := h' } := I.kept (t' := s1.toks) fun b o e => hx b o (Nat.ne_of_lt (Heap.lt_size e)) e
    refine assignInOrder_cons (tD (own := [a1, a2]) (n := 0) S e rfl rfl I1 r1 fun s2 I2 => ?_)
    refine assignInOrder_cons (tD (own := [some v1, a2]) (n := 1) S e rfl rfl I2 r2 fun s3 I3 => ?_)
    exact assignInOrder_nil (h rfl _ I3)
end
end L3
end
section
set_option Elab.async false
set_option linter.all false
set_option maxRecDepth 100000
namespace L3
open PySem PySem.Spec L2
theorem Ah {prog : Program} {w : World} {A : Around} {R : Result → Shared → Prop} {s : Shared} {elt target iter : Expr} {ifs : List Expr} {scope : Scope} {pos : Pos} {it acc : Value} {env : Env} (I : Nat → Shared → Prop)
    (turn : ∀ (n : Nat) (s : Shared), I n s → wpAny (model prog w) A (pyNext it) (fun r s₁ => match r with
      | none => R (.ok .next) s₁
      | some v => wpAny (model prog w) A (letOwnedTupleGo target it v) (fun _ s₁' => wpAny (model prog w) A (assign target env v) (fun _ s₂ => wpAny (model prog w) A (forIn ifs true fun c r => if r = true then do let ok ← isTrue c env (eval c env); pure (ForInStep.yield ok) else pure (ForInStep.yield r)) (fun ok s₃ => if ok = true then wpAny (model prog w) A (eval elt env) (fun x s₄ => wpAny (model prog w) A (call (.builtin "list.append") [acc, x]) (fun _ s₅ => ∃ m, m < n ∧ I m s₅) (notedBy (model prog w) A env fun e s' => R (.error e) s') s₄) (notedBy (model prog w) A env fun e s' => R (.error e) s') s₃ else ∃ m, m < n ∧ I m s₃) (notedBy (model prog w) A env fun e s' => R (.error e) s') s₂) (notedBy (model prog w) A env fun e s' => R (.error e) s') s₁') (notedBy (model prog w) A env fun e s' => R (.error e) s') s₁) (notedBy (model prog w) A env fun e s' => R (.error e) s') s) (n : Nat) (h : I n s) :
    codeAny (model prog w) A (.compLoop (.ListComp elt [⟨target, iter, ifs, 0⟩] scope pos) 0 it acc env) R s := by
  refine codeAny_loop rfl I (fun n s hI => ?_) n h
  refine wpAny_noted ?_
  rw [compTurn_list]
  refine wpAny_bind (wpAny_standAt (wpAny_bind (wpAny_mono (turn n s hI) (fun r s₁ h₁ => ?_) fun _ _ z => z)))
  cases r with
  | none => exact wpAny_pure h₁
  | some v =>
    refine wpAny_bind (wpAny_mono h₁ (fun _ s₂ h₂ => wpAny_bind (wpAny_mono h₂ (fun _ s₃ h₃ => wpAny_bind (wpAny_mono h₃ (fun ok s₄ h₄ => ?_) fun _ _ z => z)) fun _ _ z => z)) fun _ _ z => z)
    cases ok with
    | false => exact wpAny_pure ⟨rfl, h₄⟩
    | true => exact wpAny_bind (wpAny_bind (wpAny_mono h₄ (fun x s₅ h₅ => wpAny_bind (wpAny_mono h₅ (fun _ s₆ h₆ => wpAny_pure (wpAny_pure ⟨rfl, h₆⟩)) fun _ _ z => z)) fun _ _ z => z))
noncomputable def CT (X : Cx) (ifs : List Expr) (tt : TT) : Prop := ∀ (pins : List (Addr × Obj)) (s : Shared) (σ : L2.St) (H : Hp) (Q : Bool → Hp → Prop), Inv X pins σ H s → tt σ H Q →
  wpAny (model X.prog X.w) X.A (forIn ifs true fun c r => if r = true then do let ok ← isTrue c X.env (eval c X.env); pure (ForInStep.yield ok) else pure (ForInStep.yield r)) (TP X pins σ Q) X.xe s
theorem K9 {X : Cx} : CT X [] (fun _ H Q => Q true H) := fun _ _ _ H _ I h => wpAny_tests_nil ⟨H, I, h⟩
theorem La {X : Cx} {c : Expr} {t : TT} (h : PT X c t) : CT X [c] t := fun pins s σ H Q I q => wpAny_tests_one (h pins s σ H Q I q)
noncomputable def zj (wi : TI) (ks : List Bool) (ow : V → Hp → List V → Prop) (tt : TT) (te : TE) : TE := fun σ H Q => wi σ H fun J H1 => ∀ D, H1 D = none → ∃ W : Nat → Nat → Hp → Prop, (∃ m, W 0 m (upd H1 D (.lst []))) ∧ ∀ i m H, W i m H →
   (J.stop i H ∧ Q (.ref D) H) ∨ (J.go i H ∧ ∀ x H', J.yQ i H x H' → ∃ vs, ow x H' vs ∧ tt (vs.map some ++ mask ks σ) H' fun b H2 => if b = true then te (vs.map some ++ mask ks σ) H2 fun v H3 => ∃ ys, H3 D = some (.lst ys) ∧ ys.length < sizeLine ∧ ∃ m', m' < m ∧ W (i + 1) m' (upd H3 D (.lst (ys ++ [v]))) else ∃ m', m' < m ∧ W (i + 1) m' H2)
section
variable {X : Cx} {scope : Scope} {xs : List Str} {tg : Expr} {ow : V → Hp → List V → Prop} {ks : List Bool} {pins : List (Addr × Obj)} {σ : L2.St} {H : Hp} {s s4 : Shared} {fp : List Addr} {E : Value → Shared → Prop} {h1 : Heap} {elt iter : Expr} {ifs : List Expr} {px pos : Pos} {tt : TT} {te : TE} {wi : TI}
theorem vQ {h h' B B' : Heap} : ∀ {l : List Env}, h.FunFrames B l → (∀ b ∈ frs l, ∀ o, h.get? b = some o → (∀ vs, o.data ≠ .fields vs) → ∃ o', h'.get? b = some o' ∧ o'.data = o.data) → (∀ b ∈ frs l, B'.get? b = none) → h'.FunFrames B' l
  | [], _, _, _ => trivial
  | env :: r, ⟨hk, ⟨L, o, hf, _, ho, hd⟩, hr⟩, hm, hB => by
    have sub : ∀ b, b = L ∨ b ∈ frs r → b ∈ frs (env :: r) := fun b hb => by
      unfold frs; rw [List.filterMap_cons, hf]
      rcases hb with z | z
      · rw [z]; exact List.mem_cons_self
      · exact List.mem_cons_of_mem _ z
    obtain ⟨o', e1, e2⟩ := hm L (sub L (.inl rfl)) o ho hd
    exact ⟨hk, ⟨L, o', hf, hB L (sub L (.inl rfl)), e1, by rw [e2]; exact hd⟩, vQ hr (fun b hb => hm b (sub b (.inr hb))) fun b hb => hB b (sub b (.inr hb))⟩
theorem CU {EE : ki} {D C e : Addr} {cls : Value} {c : XD} {nh : List (Addr × Obj)} {σ' : L2.St} {H' HD : Hp} {s3 s' : Shared} {cl : List (Str × Addr)} {RE : Value → Shared → Prop} (Lb : pH X EE) (hst : ∃ mR mT L, X.stack = mR :: mT ∧ X.env.frame = mR.frame ∧ mR.frame = some L)
    (I3 : Inv X pins σ HD s3) (hC : C = s3.heap.objs.size) (f3 : ∀ b ∈ fp, tV X pins HD b ∧ b < s3.heap.objs.size)
    (Pr : ∀ s'' : Shared, (∃ m, s''.heap.Ns C m ∧ ∀ h', Heap.SameBut C s''.heap h' → ∀ cenv : Env, cenv.locals = C → wpAny (model X.prog X.w) X.A (passOn "comprehension.variables-let-go" (.ref e) cenv : Sem Value) (fun _ _ => False) X.xe { s'' with heap := h' }) → RE (.ref e) s'')
    (I' : Inv (vc X scope cl xs C pins s3 HD fp E) nh σ' H' s') (fx : MR (vc X scope cl xs C pins s3 HD fp E) H' e cls s') (hc : Gh X.mg c cls) (ee : EE c σ H') :
    notedBy (model X.prog X.w) X.A (compEnvC scope cl C X.env) RE (.ref e) s' := by
  obtain ⟨B, fb, hok, Ip⟩ := fx
  obtain ⟨mR, mT, L, h1, h2, h3⟩ := hst
  show wpAny _ X.A (noteFrame (.ref e) (compEnvC scope cl C X.env)) _ _ s'
  rw [CQ (show (compEnvC scope cl C X.env).frame = mR.frame from h2)]
  have hfr : X.A.frames = some (mR :: mT) := by rw [← h1]; exact I3.ok.frames
  have SR : EB B (mR :: mT) e cls s'.heap := by rw [← h1]; exact fb
  refine DE hfr h3 SR fun h5 a0 hH u5 => ?_
  obtain ⟨k1, k2, k3, oe, vs, T, oT, ts, he, hcls, hd, hv1, MO, MP, hT, Fe, SS⟩ := hH
  have Rf : h5.FunFrames B X.stack := by rw [h1]; exact k3
  obtain ⟨m, hm, _⟩ := id I'.loc
  have Rg : h5.Ns C m := u5.ns hm
  refine Pr _ ⟨m, Rg, fun h6 sb cenv _ => ?_⟩
  obtain ⟨oC, U9, Va, SV, SW, _⟩ := id Rg
  have Jl : ∀ {b : Addr} {o : Obj} {ws : Array Value}, h5.get? b = some o → o.data = .fields ws → b ≠ C := fun {b o ws} q d z => by
    rw [z, SV] at q; cases q; rw [SW] at d; cases d
  have Pu := (sb.2 e (Jl he hd)).trans he
  have Rh := (sb.2 T (Jl hT Fe)).trans hT
  have Ri : 3 < ts.size := (Array.getElem?_eq_some_iff.mp SS).1
  unfold passOn setFlight
  refine wpAny_bind (wpAny_field Pu hd hv1 ?_)
  rw [if_neg (show ¬ ((Value.ref T == Value.none) = true) by simp)]
  have fin : X.xe (.ref e) { s' with heap := h6.update T (Obj.mapFields (·.setIfInBounds 3 (cenv.frame.elim .none fun f => rawInt f))) } := by
    have MW : ∀ b, b ≠ T → (h6.update T (Obj.mapFields (·.setIfInBounds 3 (cenv.frame.elim .none fun f => rawInt f)))).get? b = h6.get? b := fun b hb => Heap.get?_update_other _ _ (Ne.symm hb)
    have A3 : ∀ b, b ≠ T → b ≠ C → (h6.update T (Obj.mapFields (·.setIfInBounds 3 (cenv.frame.elim .none fun f => rawInt f)))).get? b = h5.get? b := fun b hb hb2 => (MW b hb).trans (sb.2 b hb2)
    generalize SX : h6.update T (Obj.mapFields (·.setIfInBounds 3 (cenv.frame.elim .none fun f => rawInt f))) = h7 at MW A3
    have SY : h7.get? T = some (Obj.mapFields (·.setIfInBounds 3 (cenv.frame.elim .none fun f => rawInt f)) oT) := by rw [← SX]; exact Heap.get?_update_self _ Rh (Obj.isFreed_of_fields (Obj.data_mapFields Fe _))
    have S0 : ∀ b o, B.get? b = some o → b ≠ T := fun b o q z => by rw [z, MO] at q; cases q
    have Ot : ∀ b o, (B.hide C).get? b = some o → h7.get? b = some o := fun b o q => by
      have q' := Heap.of_hide q
      have nC : b ≠ C := fun z => by rw [z, Heap.hide_self] at q; cases q
      rw [A3 b (S0 b o q') nC]
      exact k1 b o q'
    have hide : ∀ b o, b ≠ C → B.get? b = some o → (B.hide C).get? b = some o := fun b o z q => (Heap.hide_ne B z).trans q
    have Lc : ∀ b o, s3.heap.get? b = some o → b ≠ C := fun b o q => by rw [hC]; exact Nat.ne_of_lt (Heap.lt_size q)
    have MX : qQ X.prog X.w H' (B.hide C) := Gi hok fun b o n q => hide b o (fun z => n (by rw [z]; exact I'.free)) q
    have Pp : ∀ b, b ∉ frs X.stack → b ∉ X.fs := fun b hb z => hb (by
      rcases I3.ok.stk with q | ⟨q, _⟩
      · rw [q]; exact z
      · rw [q]; unfold frs; rw [List.filterMap_cons]; split
        · exact z
        · exact List.mem_cons_of_mem _ z)
    have slot : ∀ b o, s3.heap.get? b = some o → b ∈ frs X.stack → ∃ sl, h7.get? b = some { o with slots := sl } := fun b o q hb => by
      obtain ⟨_, o', q', hnf⟩ := I3.stack.mem hb
      rw [q] at q'; cases q'
      obtain ⟨sl, e1⟩ := I'.base.slot b o q (I3.wG b hb) hb fun z => (I'.ok.JR b z) hb
      obtain ⟨L6, e2⟩ := u5 b _ e1 hnf
      refine ⟨L6, ?_⟩
      rw [A3 b (fun z => by rw [z, hT] at e2; cases e2; exact hnf _ Fe) (Lc b o q)]
      exact e2
    have un : Un (frs X.stack) fp HD H' s3.heap h7 := ⟨fun b o q n hb hx => Ot b o (hide b o (Lc b o q) (Ip.keep b o q n hb hx)), fun b o q n hb hx => slot b o q hb, fun b o q n hx => I'.base.free b o q n hx, fun b o q hx => by
      by_cases hb : b ∈ frs X.stack
      · obtain ⟨sl, z⟩ := slot b o q hb
        exact ⟨_, z⟩
      · obtain ⟨o', z⟩ := Ip.there b o q hb hx
        exact ⟨o', Ot b o' (hide b o' (Lc b o q) z)⟩, I'.base.tups, I'.base.sX, I'.base.tU⟩
    have I7 : Inv X pins σ H' { s' with heap := h7 } := I3.Fi (ch := fp) I'.os un (MX.kept Ot) I'.bare fun b hb => by
      obtain ⟨g0, g1, g2, g3, g4, g5⟩ := (f3 b hb).1
      exact ⟨g3, g1, g4, g5⟩
    have Rj : ∀ b o, X.s₀.heap.get? b = some o → b ∉ X.ex → b ∉ fp := fun b o q hx hb => by
      obtain ⟨g0, g1, g2, g3, g4, g5⟩ := (f3 b hb).1
      rcases g3 with z | z
      · exact hx z
      · exact absurd (Nat.lt_of_lt_of_le (Heap.lt_size q) z) (Nat.lt_irrefl _)
    refine Lb pins σ H' _ e cls c I7 ⟨B.hide C, ⟨Ot, ?_, ?_, .inr ⟨a0, _, oe, vs, T, _, _, ?_, hcls, hd, hv1, ?_, MP, SY, Obj.data_mapFields Fe _, by simp [Ri]; rfl⟩⟩, MX, ⟨fun b o q n hb hx => ?_, fun b o q hb hx => ?_, fun p hp => ?_⟩⟩ hc ee
    · cases q : (B.hide C).get? e with
      | none => rfl
      | some o => have := Heap.of_hide q; rw [k2] at this; cases this
    · refine vQ Rf (fun b hb o q hnf => ?_) fun b hb => ?_
      · refine ⟨o, ?_, rfl⟩
        show h7.get? b = some o
        rw [A3 b (fun z => by rw [z, hT] at q; cases q; exact hnf _ Fe) ?_]
        · exact q
        · obtain ⟨_, o', q', _⟩ := I3.stack.mem hb
          exact Lc b o' q'
      · cases q : (B.hide C).get? b with
        | none => rfl
        | some o => have := Heap.of_hide q; rw [(Rf.mem hb).1] at this; cases this
    · exact (A3 e (Ne.symm MP) (Jl he hd)).trans he
    · cases q : (B.hide C).get? T with
      | none => rfl
      | some o => have := Heap.of_hide q; rw [MO] at this; cases this
    · have q3 := I3.base.keep b o q n (Pp b hb) hx
      exact hide b o (Lc b o q3) (Ip.keep b o q3 (I3.base.free b o q n hx) hb (Rj b o q hx))
    · obtain ⟨o', q3⟩ := I3.base.there b o q hx
      obtain ⟨Rk, z⟩ := Ip.there b o' q3 hb (Rj b o q hx)
      exact ⟨Rk, hide b Rk (Lc b o' q3) z⟩
    · exact hide _ _ (Lc _ _ (I3.pin p (List.mem_append_left _ hp)).1) (Ip.pins p (List.mem_append_left _ hp))
  first
    | (refine wpAny_bind (wpAny_pure ?_); refine wpAny_bind (wpAny_bind (wpAny_field Pu hd hv1 ?_)))
    | refine wpAny_bind (wpAny_bind (wpAny_field Pu hd hv1 ?_))
  rw [if_pos (show (Value.ref T != Value.none) = true by simp)]
  exact wpAny_setField Rh Fe Ri (wpAny_throw fin)
theorem xm {Q : VK} {J : It} {it : Addr} {tn : Nat → Heap → Prop} {RR : Value → Addr → Result → Shared → Prop} {EE : ki} (Lb : pH X EE) (hst : ∃ mR mT L, X.stack = mR :: mT ∧ X.env.frame = mR.frame ∧ mR.frame = some L) (S : di X.env.scope X.N scope xs ks) (how : Own X scope xs ks tg ow) (hc : X.calm = true) (I : Inv X pins σ H s)
    (T : Turn X.prog X.w X.K tg J fp it tn) (st : tn 0 s.heap) (hf : ∀ b ∈ fp, tV X pins H b)
    (hb : ∀ (cl : List (Str × Addr)) (C : Addr) (pins : List (Addr × Obj)) (s0 : Shared) (H0 : Hp) (fp : List Addr) (E : Value → Shared → Prop), pH (vc X scope cl xs C pins s0 H0 fp E) (fun c _ H' => EE c σ H') → CT (vc X scope cl xs C pins s0 H0 fp E) ifs tt ∧ PE (vc X scope cl xs C pins s0 H0 fp E) elt te)
    (hw : ∀ D, H D = none → ∃ W : Nat → Nat → Hp → Prop, (∃ m, W 0 m (upd H D (.lst []))) ∧ ∀ i m H, W i m H →
      (J.stop i H ∧ Q (.ref D) H) ∨ (J.go i H ∧ ∀ x H', J.yQ i H x H' → ∃ vs, ow x H' vs ∧ tt (vs.map some ++ mask ks σ) H' fun b H2 => if b = true then te (vs.map some ++ mask ks σ) H2 fun v H3 => ∃ ys, H3 D = some (.lst ys) ∧ ys.length < sizeLine ∧ ∃ m', m' < m ∧ W (i + 1) m' (upd H3 D (.lst (ys ++ [v]))) else ∃ m', m' < m ∧ W (i + 1) m' H2))
    (hRR : ∀ (D C : Addr) (s' : Shared) (H' : Hp) (m : Str → Option Value), Inv X pins σ H' s' → s'.heap.Ns C m → H' C = none → C ≠ X.env.locals → X.s₀.heap.objs.size ≤ C → (∀ x c, X.env.cells.lookup x = some c → c ≠ C) → (∀ p ∈ X.pn ++ pins, p.1 ≠ C) → Q (.ref D) H' → RR (.ref D) C (.ok .next) s')
    (Pr : ∀ (acc : Value) (C e : Addr) (s'' : Shared), (∃ m, s''.heap.Ns C m ∧ ∀ h', Heap.SameBut C s''.heap h' → ∀ cenv : Env, cenv.locals = C → wpAny (model X.prog X.w) X.A (passOn "comprehension.variables-let-go" (.ref e) cenv : Sem Value) (fun _ _ => False) X.xe { s'' with heap := h' }) → RR acc C (.error (.ref e)) s'') :
    wpAny (model X.prog X.w) X.A (newList []) (fun acc s₃ => wpAny (model X.prog X.w) X.A (newFunctionEnv scope X.env.globals (lN X.env scope.names []) [] X.env.qual none .none (some X.env)) (fun cenv s₄ =>
      codeAny (model X.prog X.w) X.A (.compStart (.ListComp elt [⟨tg, iter, ifs, 0⟩] scope pos) 0 (.ref it) acc { cenv with scope := relabel scope X.env }) (RR acc cenv.locals) s₄) E s₃) E s := by
  refine wpAny_newObj_type (wpAny_newFunctionEnv S.Gk (by intro y hy; simp at hy) (fun h₁ MY MZ => ?_) S.kind)
  have I3 : Inv X pins σ (upd H s.heap.objs.size (.lst [])) { s with heap := s.heap.push { cls := .type "list", dict := none, data := .seq ([] : List Value).toArray } } :=
    I.laid (t' := s.toks) (fun b o e => Heap.get?_push_of_some _ e) (Nat.le_refl _) ⟨Nat.zero_le _, [], 0, .nil, Heap.get?_push_size _ rfl⟩
  have hfree := I.hok.fresh (Nat.le_refl s.heap.objs.size)
  generalize Rl : ({ s with heap := s.heap.push { cls := .type "list", dict := none, data := .seq ([] : List Value).toArray } } : Shared) = s3 at I3 MY MZ ⊢
  have hsz : s3.heap.objs.size = s.heap.objs.size + 1 := by rw [← Rl]; exact Heap.size_push ..
  have M0 : ∀ b o, s.heap.get? b = some o → s3.heap.get? b = some o := fun b o e => by rw [← Rl]; exact Heap.get?_push_of_some _ e
  have M3 : ∀ b ∈ fp, b < s.heap.objs.size := fun b hb' => by
    obtain ⟨o, e, _⟩ := T.obj 0 _ st b hb'
    exact Heap.lt_size e
  have f3 : ∀ b ∈ fp, tV X pins (upd H s.heap.objs.size (.lst [])) b ∧ b < s3.heap.objs.size := fun b hb' =>
    ⟨⟨by rw [bQ (Nat.ne_of_lt (M3 b hb'))]; exact (hf b hb').1, (hf b hb').2⟩, by rw [hsz]; exact Nat.lt_succ_of_lt (M3 b hb')⟩
  have Gn : ∀ b o, s3.heap.get? b = some o → h₁.get? b = some o := fun b o e => MZ.extBut b o (Nat.ne_of_lt (Heap.lt_size e)) (Heap.get?_push_of_some _ e)
  obtain ⟨W, ⟨m0, w0⟩, turn⟩ := hw s.heap.objs.size hfree
  generalize hX : vc X scope (lN X.env scope.names []) xs s3.heap.objs.size pins s3 (upd H s.heap.objs.size (.lst [])) fp (notedBy (model X.prog X.w) X.A (compEnvC scope (lN X.env scope.names []) s3.heap.objs.size X.env) fun e s' => RR (.ref s.heap.objs.size) s3.heap.objs.size (.error e) s') = Xc
  have I4 : Inv Xc [] (List.replicate xs.length none ++ mask ks σ) (upd H s.heap.objs.size (.lst [])) { s3 with heap := h₁, toks := s3.toks + ([] : List (Str × Value)).length } := by
    rw [← hX]
    exact CS S I3 f3 (by simpa using MY) Gn _
  have Hq : CT Xc ifs tt ∧ PE Xc elt te := by
    rw [← hX]
    exact hb _ _ _ _ _ _ _ fun nh σ' H' s' e cls c I' fx hc ee => CU (RE := fun e s' => RR (.ref s.heap.objs.size) s3.heap.objs.size (.error e) s') (D := s.heap.objs.size) Lb hst I3 rfl f3 (fun s'' => Pr _ _ e s'') I' fx hc ee
  have Bq : Xc.prog = X.prog := by rw [← hX]; rfl
  have ew : Xc.w = X.w := by rw [← hX]; rfl
  have eK : Xc.K = X.K := by rw [← hX]; rfl
  have eA : Xc.A = X.A := by rw [← hX]; rfl
  have JA : Xc.calm = true := by rw [← hX]; exact hc
  have Pw : Xc.xe = notedBy (model X.prog X.w) X.A Xc.env fun e s' => RR (.ref s.heap.objs.size) s3.heap.objs.size (.error e) s' := by rw [← hX]; rfl
  have Ld : Xc.env = compEnvC scope (lN X.env scope.names []) s3.heap.objs.size X.env := by rw [← hX]; rfl
  have S1 : Xc.stack = X.stack := by rw [← hX]; rfl
  have Px : ∀ {H' : Hp}, (∀ b ∈ fp, H' b = none) → ∀ b ∈ fp, tV Xc [] H' b := fun {H'} hn b hb' => by
    obtain ⟨g0, g1, g2, g3, g4, g5⟩ := (f3 b hb').1
    rw [← hX]
    refine ⟨hn b hb', Nat.ne_of_lt (f3 b hb').2, fun z => (List.mem_cons.mp (I3.sY b z)).elim g1 g2, .inl hb', fun y c e => g4 y c (xg scope.names [] (fun y c e => by simp at e) y c e), fun p hp => g5 p ?_⟩
    have : p ∈ (X.pn ++ pins) ++ [] := hp
    simpa using this
  have fin : ∀ (s' : Shared) (H' : Hp) (a0 : List (Option V)), Inv Xc [] (a0 ++ mask ks σ) H' s' → Q (.ref s.heap.objs.size) H' → RR (.ref s.heap.objs.size) s3.heap.objs.size (.ok .next) s' := fun s' H' a0 I' q => by
    have hloc := I'.loc
    obtain ⟨m, hm, _⟩ := hloc
    have hC : H' s3.heap.objs.size = none := by have := I'.free; rw [Ld] at this; exact this
    have hU : Un (frs X.stack) fp (upd H s.heap.objs.size (.lst [])) H' s3.heap s'.heap := by
      have := I'.base
      rw [← hX] at this
      exact this
    have hos : s'.os = s3.os := by have := I'.os; rw [← hX] at this; exact this
    have Py : qQ X.prog X.w H' s'.heap := by have := I'.hok; rw [← hX] at this; exact this
    have I5 : Inv X pins σ H' s' := I3.Fi hos hU Py I'.bare fun b hb' => by
      obtain ⟨g0, g1, g2, g3, g4, g5⟩ := (f3 b hb').1
      exact ⟨g3, g1, g4, g5⟩
    refine hRR _ _ s' H' m I5 (by rw [Ld] at hm; exact hm) hC (Nat.ne_of_gt I3.lt) (Nat.le_trans I3.sz (Nat.le_refl _)) (fun y c e z => ?_) (fun p hp z => ?_) q
    · obtain ⟨v, hv⟩ := I3.cell y c e
      exact absurd hv.lt (by rw [z]; exact Nat.lt_irrefl _)
    · exact absurd (Heap.lt_size (I3.pin p hp).1) (by rw [z]; exact Nat.lt_irrefl _)
  have loop : codeAny (model X.prog X.w) X.A (.compLoop (.ListComp elt [⟨tg, iter, ifs, 0⟩] scope pos) 0 (.ref it) (.ref s.heap.objs.size) Xc.env) (RR (.ref s.heap.objs.size) s3.heap.objs.size)
      { s3 with heap := h₁, toks := s3.toks + ([] : List (Str × Value)).length } := by
    refine Ah (fun n s' => ∃ i a0 H', a0.length = xs.length ∧ Inv Xc [] (a0 ++ mask ks σ) H' s' ∧ tn i s'.heap ∧ (∀ b ∈ fp, H' b = none) ∧ W i n H') ?_ m0 ⟨0, List.replicate xs.length none, _, by simp, I4, T.keep 0 _ _ st fun b hb' o e => Gn b o (M0 b o e), fun b hb' => (f3 b hb').1.1, w0⟩
    rintro n s5 ⟨i, a0, H5, S2, I5, LR, Of, w5⟩
    rcases turn i n H5 w5 with ⟨stop, q⟩ | ⟨go, step⟩
    · have hd := T.done Xc Bq ew eK JA i [] s5 _ H5 (fun _ _ => False) I5 (Px Of) LR stop
      rw [eA] at hd
      refine wpAny_mono hd (fun r s6 hr => ?_) (fun _ _ z => False.elim z)
      obtain ⟨rfl, I6⟩ := hr
      exact fin s6 H5 a0 I6 q
    · have hd := T.item Xc Bq ew eK JA i [] s5 _ H5 (fun _ _ => False) I5 (Px Of) LR go
      rw [eA] at hd
      refine wpAny_mono hd (fun r s6 hr => ?_) (fun _ _ z => False.elim z)
      obtain ⟨u, rfl, h6⟩ := hr
      refine wpAny_mono h6 (fun _ s7 hq => ?_) (fun _ _ z => False.elim z)
      obtain ⟨v, H7, I7, r7, y7, Pz, S3⟩ := hq
      obtain ⟨vs, hvs, step⟩ := step v H7 y7
      have S4 : Inv Xc (u0 fp s7.heap) (a0 ++ mask ks σ) H7 s7 := by
        have := Inv.pinned (pins := []) I7 (Px S3) (T.obj _ _ Pz)
        simpa using this
      have back : ∀ {σ' : L2.St} {H' : Hp} {s' : Shared}, Inv Xc (u0 fp s7.heap) σ' H' s' → Inv Xc [] σ' H' s' ∧ tn (i + 1) s'.heap ∧ ∀ b ∈ fp, H' b = none := fun {σ' H' s'} I' => by
        refine ⟨I'.zR fun p hp => absurd hp (by simp), T.keep _ _ _ Pz fun b hb' o e => (I'.pin (b, o) (List.mem_append_right _ (pU hb' e))).1, fun b hb' => ?_⟩
        obtain ⟨o, e, d⟩ := T.obj _ _ Pz b hb'
        exact (I'.pin (b, o) (List.mem_append_right _ (pU hb' e))).2.1
      refine how _ _ _ _ _ _ _ Xc σ a0 v vs u H7 s7 _ _ _ hX.symm S2 S4 r7 hvs fun Rm s8 S5 => ?_
      have ht := Hq.1 _ s8 _ H7 _ S5 step
      rw [Bq, ew, eA, Pw] at ht
      refine wpAny_mono ht (fun S6 s9 h9 => ?_) (fun _ _ z => z)
      obtain ⟨H9, I9, q9⟩ := h9
      cases S6 with
      | false =>
        rw [if_neg Bool.false_ne_true] at q9 ⊢
        obtain ⟨m', hm', w'⟩ := q9
        obtain ⟨S7, S8, S9⟩ := back I9
        exact ⟨m', hm', i + 1, vs.map some, H9, by simpa using Rm, S7, S8, S9, w'⟩
      | true =>
        rw [if_pos rfl] at q9 ⊢
        have he := Hq.2 _ s9 _ H9 _ I9 q9
        rw [Bq, ew, eA, Pw] at he
        refine wpAny_mono he (fun y Tc PB => ?_) (fun _ _ z => z)
        obtain ⟨yv, Td, Te, Tf, ys, hD, hlen, m', hm', w'⟩ := PB
        have ha := yZ (X := Xc) _ Tc _ Td (.ref s.heap.objs.size) [yv] (.ref s.heap.objs.size) [y] (fun _ H' => ∃ m', m' < n ∧ W (i + 1) m' H') Te rfl (.cons Tf .nil) ⟨_, ys, yv, rfl, rfl, hD, hlen, m', hm', w'⟩
        rw [Bq, ew, eA, Pw] at ha
        refine wpAny_mono ha (fun _ Vb h11 => ?_) (fun _ _ z => z)
        obtain ⟨_, Tg, Th, _, Ti, PC, w''⟩ := h11
        obtain ⟨PD, PF, PJ⟩ := back Th
        exact ⟨Ti, PC, i + 1, vs.map some, Tg, by simpa using Rm, PD, PF, PJ, w''⟩
  rw [Ld] at loop
  exact codeAny_compStart_list loop (T.self X.A 0 _ _ _ (T.keep 0 _ _ st fun b hb' o e => Gn b o (M0 b o e)) loop)
theorem wL {EE : ki} {tt : L2.St → TT} {te : L2.St → TE} (Lb : pH X EE) (hst : ∃ mR mT L, X.stack = mR :: mT ∧ X.env.frame = mR.frame ∧ mR.frame = some L) (S : di X.env.scope X.N scope xs ks) (how : Own X scope xs ks tg ow) (hc : X.calm = true) (hi : PI X tg iter wi)
    (hb : ∀ (σ : L2.St) (cl : List (Str × Addr)) (C : Addr) (pins : List (Addr × Obj)) (s0 : Shared) (H0 : Hp) (fp : List Addr) (E : Value → Shared → Prop), pH (vc X scope cl xs C pins s0 H0 fp E) (fun c _ H' => EE c σ H') → CT (vc X scope cl xs C pins s0 H0 fp E) ifs (tt σ) ∧ PE (vc X scope cl xs C pins s0 H0 fp E) elt (te σ))
    (hs : ∀ x, foldedSetIterable iter X.env x = pure x := by intro _; rfl) : PE X (.ListComp elt [⟨tg, iter, ifs, 0⟩] scope pos) (fun σ => zj wi ks ow (tt σ) (te σ) σ) := by
  intro pins s σ H Q I h
  rw [eval_ListComp]
  refine wpAny_comprehension_free (use := none) rfl hs (sC fun y hy hfr => I.ok.has y.1 (S.free y hy hfr)) S.kind S.names (j4 (hi pins s σ H _ I h) fun v s1 h1 => j4 h1 fun itv s2 h2 => ?_)
  obtain ⟨it, fp, tn, J, H2, rfl, I2, T, st2, f2, q⟩ := h2
  refine xm (RR := fun acc C => compPost (model X.prog X.w) X.A X.xe none (EP X pins σ Q) acc C) Lb hst S how hc I2 T st2 f2 (hb σ) q ?_ (fun _ _ _ _ z => z)
  intro D C s' H' m I' hn hC h1 h2 h3 h4 q'
  refine ⟨m, hn, fun h' sb => ?_⟩
  exact ⟨.ref D, H', I'.turned (t' := s'.toks) (fun b o hb e => (sb.2 b hb).trans e) hC h1 (.inr h2) h3 h4, rfl, q'⟩
theorem Ir {EE : ki} {tt : L2.St → TT} {te : L2.St → TE} (Lb : pH X EE) (hst : ∃ mR mT L, X.stack = mR :: mT ∧ X.env.frame = mR.frame ∧ mR.frame = some L) {y : Str} {i : Nat} {py spos : Pos} (S : di X.env.scope X.N scope xs ks) (how : Own X scope xs ks tg ow) (hc : X.calm = true) (hN : X.N.Nodup) (hi : PI X tg iter wi) (hy : X.N[i]? = some y) (hl : X.env.scope.names.lookup y = some .local)
    (hsw : swapsWith (.ListComp elt [⟨tg, iter, ifs, 0⟩] scope pos) (some (.Name y py)) spos.line X.env = pure true)
    (hb : ∀ (σ : L2.St) (cl : List (Str × Addr)) (C : Addr) (pins : List (Addr × Obj)) (s0 : Shared) (H0 : Hp) (fp : List Addr) (E : Value → Shared → Prop), pH (vc X scope cl xs C pins s0 H0 fp E) (fun c _ H' => EE c σ H') → CT (vc X scope cl xs C pins s0 H0 fp E) ifs (tt σ) ∧ PE (vc X scope cl xs C pins s0 H0 fp E) elt (te σ))
    (hs : ∀ x, foldedSetIterable iter X.env x = pure x := by intro _; rfl) : PS X (.Assign [.Name y py] (.ListComp elt [⟨tg, iter, ifs, 0⟩] scope pos) spos) (J1 (fun σ => zj wi ks ow (tt σ) (te σ) σ) (Ba i)) := by
  intro pins s σ H Dd I h
  rw [exec_Assign_Name_used _ _ _ _ hsw]
  refine wpAny_bind (wpAny_standAt (wpAny_bind ?_))
  show wpAny _ X.A (do let _ ← comprehension (.ListComp elt [⟨tg, iter, ifs, 0⟩] scope pos) scope X.env _ (newList []) false (eval iter X.env) (some (assign (.Name y py) X.env))) _ _ s
  refine wpAny_bind (wpAny_mono (wpAny_comprehension_free (use := some (assign (.Name y py) X.env)) (Q := fun _ s' => SP X pins Dd .next s') rfl hs (sC fun y hy hfr => I.ok.has y.1 (S.free y hy hfr)) S.kind S.names
    (j4 (hi pins s σ H _ I h) fun v s1 h1 => j4 h1 fun itv s2 h2 => ?_)) (fun _ s' hq => wpAny_pure (wpAny_pure hq)) fun _ _ e => e)
  obtain ⟨it, fp, tn, J, H2, rfl, I2, T, st2, f2, q⟩ := h2
  refine xm (Q := fun v H' => Dd.nx (σ.set i (some v)) H') (RR := fun acc C => compPost (model X.prog X.w) X.A X.xe (some (assign (.Name y py) X.env)) (fun _ s' => SP X pins Dd .next s') acc C) Lb hst S how hc I2 T st2 f2 (hb σ) q ?_ (fun _ _ _ _ z => z)
  intro D C s' H' m I' hn hC h1 h2 h3 h4 q'
  show wpAny _ X.A (assign (.Name y py) X.env (.ref D)) _ _ s'
  refine wpAny_assign_Name (yO I' hN hy (.inl hl) (v := .ref D) (u := .ref D) rfl (fun s'' Tj sb => ?_) (.inr hl))
  obtain ⟨a, sb, ha⟩ := sb
  have hne : C ≠ a := by
    rcases ha with e | e
    · rw [e]; exact h1
    · exact fun z => h3 y a e z.symm
  refine ⟨m, hn.sameBut sb hne, fun h'' sb' => ?_⟩
  exact ⟨_, H', Tj.turned (t' := s''.toks) (fun b o hb e => (sb'.2 b hb).trans e) hC h1 (.inr h2) h3 h4, q'⟩
end
end L3
end
section
set_option Elab.async false
set_option linter.all false
set_option maxRecDepth 100000
namespace L3
open PySem PySem.Spec L2
noncomputable def oN : D → Option (List D) := fun d => some [d]
noncomputable def oT (n : Nat) : D → Option (List D)
  | .tup xs => if xs.length = n then some xs else none
  | _ => none
noncomputable def pX (K : PySem.W.Frag) (mg : Str → Option Value) (ow : V → Hp → List V → Prop) (gO : D → Option (List D)) : Prop :=
  ∀ (ρ : List Addr) (H : Hp) (d : D) (v : V) (os : List D), Rep K mg ρ H d v → gO d = some os → ∃ vs, ow v H vs ∧ aH K mg ρ H os vs
theorem gZ {K : PySem.W.Frag} {mg : Str → Option Value} : pX K mg t8 oN := fun ρ H d v os r e => by
  cases e
  exact ⟨[v], rfl, .cons r .nil⟩
theorem Br {K : PySem.W.Frag} {mg : Str → Option Value} {n : Nat} : pX K mg (Iq K n) (oT n) := fun ρ H d v os r e => by
  cases d <;> try (cases e; done)
  rename_i xs
  dsimp only [oT] at e
  by_cases h : xs.length = n
  · rw [if_pos h] at e; cases e
    unfold Rep at r
    obtain ⟨a, vs, rfl, sq, rs⟩ := r
    exact ⟨vs, ⟨a, rfl, sq, by rw [← rs.length]; exact h⟩, rs⟩
  · rw [if_neg h] at e; cases e
noncomputable def Bs (K : PySem.W.Frag) (mg : Str → Option Value) (H H' : Hp) (ρ : List Addr) : Prop := ir K H H' ρ ρ ∧ ∀ G, ni K mg H ρ G → ni K mg H' ρ G
theorem Bs.refl {K : PySem.W.Frag} {mg : Str → Option Value} {H : Hp} {ρ : List Addr} : Bs K mg H H ρ := ⟨.refl, fun _ h => h⟩
theorem Bs.new {K : PySem.W.Frag} {mg : Str → Option Value} {H : Hp} {ρ : List Addr} {p : Addr} {o : HO} (hp : H p = none) : Bs K mg H (upd H p o) ρ := ⟨ju hp ρ, fun _ h => h.new hp⟩
noncomputable def iT (gO : D → Option (List D)) (ks : List Bool) (tt : DS → M Bool) (te : DS → M D) (n : Nat) (d : D) (τ : DS) (G : DH) : Out Unit := match gO d with
  | none => .stuck
  | some os => match tt (os.map some ++ mask ks τ) G with
  | .ok true G1 => match te (os.map some ++ mask ks τ) G1 with
    | .ok v G2 => match G2[n]? with
      | some (.lst ys) => if ys.length < sizeLine then .ok () (G2.set n (.lst (ys ++ [v]))) else .stuck
      | _ => .stuck
    | .fL c G2 => .fL c G2
    | .stuck => .stuck
  | .ok false G1 => .ok () G1
  | .fL c G1 => .fL c G1
  | .stuck => .stuck
noncomputable def gf (gO : D → Option (List D)) (ks : List Bool) (tt : DS → M Bool) (te : DS → M D) (n : Nat) : List D → DS → DH → Out D
  | [], _, G => .ok (.obj n) G
  | d :: r, τ, G => match iT gO ks tt te n d τ G with
    | .ok _ G' => gf gO ks tt te n r τ G'
    | .fL c G' => .fL c G'
    | .stuck => .stuck
noncomputable def vR (gO : D → Option (List D)) (ks : List Bool) (tt : DS → M Bool) (te : DS → M D) (n src : Nat) : Nat → Nat → DS → DH → Out D
  | 0, _, _, _ => .stuck
  | f + 1, k, τ, G => match G[src]? with
    | some (.lst xs) => match xs[k]? with
      | none => .ok (.obj n) G
      | some d => match iT gO ks tt te n d τ G with
        | .ok _ G' => vR gO ks tt te n src f (k + 1) τ G'
        | .fL c G' => .fL c G'
        | .stuck => .stuck
    | _ => .stuck
noncomputable def kM (gO : D → Option (List D)) (ks : List Bool) (m : DS → M D) (tt : DS → M Bool) (te : DS → M D) : DS → M D := fun τ => (m τ).bind fun d G => match d with
  | .obj k => match G[k]? with
    | some (.lst xs) => vR gO ks tt te G.length k (xs.length + 1) 0 τ (G ++ [.lst []])
    | _ => .stuck
  | .tup xs => gf gO ks tt te G.length xs τ (G ++ [.lst []])
  | .con xs => gf gO ks tt te G.length xs τ (G ++ [.lst []])
  | .str z => gf gO ks tt te G.length (z.cps.toList.map fun c => .str ⟨#[c]⟩) τ (G ++ [.lst []])
  | _ => .stuck
noncomputable def gK (Ef : List D → Option (List D)) (gO : D → Option (List D)) (ks : List Bool) (m : DS → M (List D)) (tt : DS → M Bool) (te : DS → M D) : DS → M D := fun τ => (m τ).bind fun ds G => match Ef ds with
  | some xs => gf gO ks tt te G.length xs τ (G ++ [.lst []])
  | none => .stuck
section
variable {X : Cx} {EE : ki} {gO : D → Option (List D)} {ow : V → Hp → List V → Prop} {xs : List Str} {tg : Expr} {ks : List Bool} {tt : DS → M Bool} {te : DS → M D}
theorem ED {K : PySem.W.Frag} {mg : Str → Option Value} {σ : L2.St} {H : Hp} {τ : DS} {ρ : List Addr} {os : List D} {vs : List V} (h : yo K mg H ρ σ τ) (r : aH K mg ρ H os vs) : yo K mg H ρ (vs.map some ++ mask ks σ) (os.map some ++ mask ks τ) := by
  have hl := r.length
  refine ⟨by simp [oR, h.1, hl], fun i e he => ?_⟩
  by_cases hi : i < os.length
  · rw [List.getElem?_append_left (by simpa using hi), List.getElem?_map] at he
    cases q : os[i]? with
    | none => rw [q] at he; cases he
    | some d =>
      rw [q] at he; cases he
      obtain ⟨v, e1, r1⟩ := r.get q
      exact ⟨v, by rw [List.getElem?_append_left (by simp; omega), List.getElem?_map, e1]; rfl, r1⟩
  · rw [List.getElem?_append_right (by simp; omega)] at he
    obtain ⟨h1, h2⟩ := qV he
    obtain ⟨w, e1, r1⟩ := h.2 _ e h2
    refine ⟨w, ?_, r1⟩
    rw [List.getElem?_append_right (by simp; omega)]
    have := DG h1 e1
    simpa [hl] using this
noncomputable def uZ (EE : ki) (σ : L2.St) : ki := fun c _ H' => EE c σ H'
theorem vf (hO : pX X.K X.mg ow gO) {W : Hp → Prop} {n : Nat} {p : Addr} {σ : L2.St} {H : Hp} {τ : DS} {ρ : List Addr} {G : DH} {d : D} {v : V} (ab : Ab X.K X.mg σ H τ ρ G) (r : Rep X.K X.mg ρ H d v) (hn : ρ[n]? = some p)
    (hW : match iT gO ks tt te n d τ G with
      | .stuck => False
      | .ok _ G' => ∀ H' ρ', ir X.K H H' ρ ρ' → Ab X.K X.mg σ H' τ ρ' G' → W H'
      | .fL c G' => ∀ H' ρ', ir X.K H H' ρ ρ' → Ab X.K X.mg σ H' τ ρ' G' → EE c σ H') :
    ∃ vs, ow v H vs ∧ liftT X.K X.mg (uZ EE σ) tt (vs.map some ++ mask ks σ) H fun b H2 => if b = true then fR X.K X.mg (uZ EE σ) te (vs.map some ++ mask ks σ) H2 fun u H3 => ∃ ys, H3 p = some (.lst ys) ∧ ys.length < sizeLine ∧ W (upd H3 p (.lst (ys ++ [u]))) else W H2 := by
  unfold iT at hW
  cases qo : gO d with
  | none => rw [qo] at hW; exact hW.elim
  | some os =>
  rw [qo] at hW
  dsimp only at hW
  obtain ⟨us, zY, Tn⟩ := hO ρ H d v os r qo
  refine ⟨us, zY, ?_⟩
  refine ⟨_, ρ, G, ⟨ED ab.st Tn, ab.hp⟩, ?_⟩
  cases q : tt (os.map some ++ mask ks τ) G with
  | stuck => rw [q] at hW; exact hW
  | fL c G1 => rw [q] at hW; exact fun H' ρ' f fC => hW H' ρ' f ⟨ab.st.mono f, fC.hp⟩
  | ok b G1 =>
    rw [q] at hW
    intro H1 ρ1 f1 qT
    cases b with
    | false =>
      rw [if_neg Bool.false_ne_true]
      exact hW H1 ρ1 f1 ⟨ab.st.mono f1, qT.hp⟩
    | true =>
      rw [if_pos rfl]
      dsimp only at hW
      refine ⟨_, ρ1, G1, qT, ?_⟩
      cases q2 : te (os.map some ++ mask ks τ) G1 with
      | stuck => rw [q2] at hW; exact hW
      | fL c G2 => rw [q2] at hW; exact fun H' ρ' f fC => hW H' ρ' (f1.trans f) ⟨ab.st.mono (f1.trans f), fC.hp⟩
      | ok u G2 =>
        rw [q2] at hW
        dsimp only at hW
        intro w H2 ρ2 f2 iu r2
        cases q3 : G2[n]? with
        | none => rw [q3] at hW; exact hW.elim
        | some o =>
          cases o with
          | dead => first | (rw [q] at ok; exact ok.elim) | (rw [q] at bV; exact bV.elim) | (rw [q3] at hW; exact hW.elim) | (rw [q] at e; cases e; done) | (rw [g] at ok; exact ok.elim) | (rw [g] at q; cases q; done) | (rw [g] at h; cases h; done) | exact ok.elim
          | dct kv => first | (rw [q] at ok; exact ok.elim) | (rw [q] at bV; exact bV.elim) | (rw [q3] at hW; exact hW.elim) | (rw [q] at e; cases e; done) | (rw [g] at ok; exact ok.elim) | (rw [g] at q; cases q; done) | (rw [g] at h; cases h; done) | exact ok.elim
          | lst ys =>
            rw [q3] at hW
            dsimp only at hW
            by_cases hl : ys.length < sizeLine
            · rw [if_pos hl] at hW
              dsimp only at hW
              obtain ⟨p', vs, e1, e2, rs⟩ := iu.hp.lst q3
              have Iu := f1.trans f2
              rw [Iu.get hn] at e1; cases e1
              refine ⟨vs, e2, by rw [← rs.length]; exact hl, ?_⟩
              have f3 : ir X.K H2 (upd H2 p (.lst (vs ++ [w]))) ρ2 ρ2 := zZ e2 ρ2
              exact hW _ ρ2 (Iu.trans f3) ⟨ab.st.mono (Iu.trans f3), iu.hp.put (ds := ys) (Iu.get hn) e2 (rs.append (.cons r2 .nil))⟩
            · rw [if_neg hl] at hW; exact hW.elim
theorem pY (hO : pX X.K X.mg ow gO) {Q : VK} {J : It} {H0 : Hp} {σ : L2.St} {ρ0 : List Addr} {G0 : DH} {τ : DS} (ds : List D)
    (go : ∀ i H ρ, i < ds.length → ir X.K H0 H ρ0 ρ → J.go i H) (stop : ∀ i H ρ, ds.length ≤ i → ir X.K H0 H ρ0 ρ → J.stop i H)
    (yQ : ∀ i d H ρ x H', ds[i]? = some d → ir X.K H0 H ρ0 ρ → J.yQ i H x H' → Bs X.K X.mg H H' ρ ∧ Rep X.K X.mg ρ H' d x)
    (ab : Ab X.K X.mg σ H0 τ ρ0 G0) (ok : pT X.K X.mg EE H0 σ τ ρ0 (gf gO ks tt te G0.length ds τ (G0 ++ [.lst []])) Q) :
    ∀ D, H0 D = none → ∃ W : Nat → Nat → Hp → Prop, (∃ m, W 0 m (upd H0 D (.lst []))) ∧ ∀ i m H, W i m H →
      (J.stop i H ∧ Q (.ref D) H) ∨ (J.go i H ∧ ∀ x H', J.yQ i H x H' → ∃ vs, ow x H' vs ∧ liftT X.K X.mg (uZ EE σ) tt (vs.map some ++ mask ks σ) H' fun b H2 => if b = true then fR X.K X.mg (uZ EE σ) te (vs.map some ++ mask ks σ) H2 fun v H3 => ∃ ys, H3 D = some (.lst ys) ∧ ys.length < sizeLine ∧ ∃ m', m' < m ∧ W (i + 1) m' (upd H3 D (.lst (ys ++ [v]))) else ∃ m', m' < m ∧ W (i + 1) m' H2) := by
  intro D hD
  have f0 : ir X.K H0 (upd H0 D (.lst [])) ρ0 (ρ0 ++ [D]) := (ju hD ρ0).trans (jh ρ0 D)
  have Le : Ab X.K X.mg σ (upd H0 D (.lst [])) τ (ρ0 ++ [D]) (G0 ++ [.lst []]) := ab.fut f0 (ab.hp.more hD .nil)
  have hn0 : (ρ0 ++ [D])[G0.length]? = some D := by rw [← ab.hp.hl, bg]
  refine ⟨fun i m H => i ≤ ds.length ∧ m = ds.length - i ∧ ∃ ρ G, Ab X.K X.mg σ H τ ρ G ∧ ir X.K H0 H ρ0 ρ ∧ ρ[G0.length]? = some D ∧ pT X.K X.mg EE H σ τ ρ (gf gO ks tt te G0.length (ds.drop i) τ G) Q,
    ⟨ds.length, Nat.zero_le _, rfl, ρ0 ++ [D], _, Le, f0, hn0, by simpa using ok.fut f0⟩, ?_⟩
  rintro i m H ⟨hi, rfl, ρ, G, ab, f, hn, ok⟩
  by_cases hlt : i < ds.length
  · refine .inr ⟨go i H ρ hlt f, fun x H' y => ?_⟩
    obtain ⟨⟨fN, hN⟩, rx⟩ := yQ i ds[i] H ρ x H' (List.getElem?_eq_getElem hlt) f y
    replace ok := pT.fut fN ok
    replace ab : Ab X.K X.mg σ H' τ ρ G := ab.fut fN (hN _ ab.hp)
    replace f := f.trans fN
    rw [List.drop_eq_getElem_cons hlt] at ok
    unfold gf at ok
    refine vf hO (W := fun H3 => ∃ m', m' < ds.length - i ∧ i + 1 ≤ ds.length ∧ m' = ds.length - (i + 1) ∧ ∃ ρ G, Ab X.K X.mg σ H3 τ ρ G ∧ ir X.K H0 H3 ρ0 ρ ∧ ρ[G0.length]? = some D ∧ pT X.K X.mg EE H3 σ τ ρ (gf gO ks tt te G0.length (ds.drop (i + 1)) τ G) Q)
        ab rx hn ?_
    cases e : iT gO ks tt te G0.length ds[i] τ G with
    | stuck => rw [e] at ok; exact ok
    | fL c G' => rw [e] at ok; exact ok
    | ok _ G' =>
      rw [e] at ok
      exact fun H3 ρ3 f3 zd => ⟨ds.length - (i + 1), by omega, hlt, rfl, ρ3, G', zd, f.trans f3, f3.get hn, ok.fut f3⟩
  · have e : i = ds.length := by omega
    subst e
    refine .inl ⟨stop _ H ρ (Nat.le_refl _) f, ?_⟩
    rw [List.drop_eq_nil_of_le (Nat.le_refl _)] at ok
    exact ok _ H ρ .refl ab (by unfold Rep; exact ⟨D, rfl, hn⟩)
theorem Gp (hO : pX X.K X.mg ow gO) {Q : VK} {H0 : Hp} {σ : L2.St} {ρ0 : List Addr} {G0 : DH} {τ : DS} {k fuel : Nat} {p : Addr} (hk : ρ0[k]? = some p)
    (ab : Ab X.K X.mg σ H0 τ ρ0 G0) (ok : pT X.K X.mg EE H0 σ τ ρ0 (vR gO ks tt te G0.length k fuel 0 τ (G0 ++ [.lst []])) Q) :
    ∀ D, H0 D = none → ∃ W : Nat → Nat → Hp → Prop, (∃ m, W 0 m (upd H0 D (.lst []))) ∧ ∀ i m H, W i m H →
      ((Hs X.K p).stop i H ∧ Q (.ref D) H) ∨ ((Hs X.K p).go i H ∧ ∀ x H', (Hs X.K p).yQ i H x H' → ∃ vs, ow x H' vs ∧ liftT X.K X.mg (uZ EE σ) tt (vs.map some ++ mask ks σ) H' fun b H2 => if b = true then fR X.K X.mg (uZ EE σ) te (vs.map some ++ mask ks σ) H2 fun v H3 => ∃ ys, H3 D = some (.lst ys) ∧ ys.length < sizeLine ∧ ∃ m', m' < m ∧ W (i + 1) m' (upd H3 D (.lst (ys ++ [v]))) else ∃ m', m' < m ∧ W (i + 1) m' H2) := by
  intro D hD
  have f0 : ir X.K H0 (upd H0 D (.lst [])) ρ0 (ρ0 ++ [D]) := (ju hD ρ0).trans (jh ρ0 D)
  have Le : Ab X.K X.mg σ (upd H0 D (.lst [])) τ (ρ0 ++ [D]) (G0 ++ [.lst []]) := ab.fut f0 (ab.hp.more hD .nil)
  have hn0 : (ρ0 ++ [D])[G0.length]? = some D := by rw [← ab.hp.hl, bg]
  refine ⟨fun i m H => ∃ ρ G, Ab X.K X.mg σ H τ ρ G ∧ ir X.K H0 H ρ0 ρ ∧ ρ[G0.length]? = some D ∧ pT X.K X.mg EE H σ τ ρ (vR gO ks tt te G0.length k m i τ G) Q,
    ⟨fuel, ρ0 ++ [D], _, Le, f0, hn0, ok.fut f0⟩, ?_⟩
  rintro i m H ⟨ρ, G, ab, f, hn, ok⟩
  cases m with
  | zero => exact ok.elim
  | succ m =>
    unfold vR at ok
    cases q : G[k]? with
    | none => rw [q] at ok; exact ok.elim
    | some o =>
      cases o with
      | dead => first | (rw [q] at ok; exact ok.elim) | (rw [q] at bV; exact bV.elim) | (rw [q3] at hW; exact hW.elim) | (rw [q] at e; cases e; done) | (rw [g] at ok; exact ok.elim) | (rw [g] at q; cases q; done) | (rw [g] at h; cases h; done) | exact ok.elim
      | dct kv => first | (rw [q] at ok; exact ok.elim) | (rw [q] at bV; exact bV.elim) | (rw [q3] at hW; exact hW.elim) | (rw [q] at e; cases e; done) | (rw [g] at ok; exact ok.elim) | (rw [g] at q; cases q; done) | (rw [g] at h; cases h; done) | exact ok.elim
      | lst ds =>
        rw [q] at ok
        dsimp only at ok
        obtain ⟨p', xs, e1, e2, rs⟩ := ab.hp.lst q
        rw [f.get hk] at e1; cases e1
        cases qd : ds[i]? with
        | none =>
          rw [qd] at ok
          have hl : xs.length ≤ i := by rw [← rs.length]; exact List.getElem?_eq_none_iff.mp qd
          exact .inl ⟨⟨xs, .of e2, hl⟩, ok _ H ρ .refl ab (by unfold Rep; exact ⟨D, rfl, hn⟩)⟩
        | some d =>
          rw [qd] at ok
          dsimp only at ok
          obtain ⟨x0, ex, rx⟩ := rs.get qd
          refine .inr ⟨⟨xs, x0, .of e2, ex⟩, fun x H' y => ?_⟩
          obtain ⟨rfl, y⟩ := y
          have e3 := y xs (.of e2)
          rw [ex] at e3; cases e3
          refine vf hO (W := fun H3 => ∃ m', m' < m + 1 ∧ ∃ ρ G, Ab X.K X.mg σ H3 τ ρ G ∧ ir X.K H0 H3 ρ0 ρ ∧ ρ[G0.length]? = some D ∧ pT X.K X.mg EE H3 σ τ ρ (vR gO ks tt te G0.length k m' (i + 1) τ G) Q)
              ab rx hn ?_
          cases e : iT gO ks tt te G0.length d τ G with
          | stuck => rw [e] at ok; exact ok
          | fL c G' => rw [e] at ok; exact ok
          | ok _ G' =>
            rw [e] at ok
            exact fun H3 ρ3 f3 zd => ⟨m, Nat.lt_succ_self _, ρ3, G', zd, f.trans f3, f3.get hn, ok.fut f3⟩
variable {scope : Scope} {elt iter a b : Expr} {ifs : List Expr} {px pos : Pos} {m : DS → M D}
theorem EF (hO : pX X.K X.mg ow gO) {σ : L2.St} {H : Hp} {Q : VK} (h : fR X.K X.mg EE (kM gO ks m tt te) σ H Q) :
    zj (fun σ H R => fR X.K X.mg EE m σ H fun x H1 => (∃ p, x = .ref p ∧ (∃ xs, sf X.K H1 p xs) ∧ R (Hs X.K p) H1) ∨ (∃ p, x = .ref p ∧ (∃ xs, sZ X.K H1 p xs) ∧ R (Oe X.K p) H1) ∨ ∃ z, x = .str z ∧ R (Ii z) H1) ks ow (liftT X.K X.mg (uZ EE σ) tt) (fR X.K X.mg (uZ EE σ) te) σ H Q := by
  obtain ⟨τ, ρ, G, ab, ok⟩ := u9 (k := fun τ d G => match d with
    | .obj k => match G[k]? with
      | some (.lst xs) => vR gO ks tt te G.length k (xs.length + 1) 0 τ (G ++ [.lst []])
      | _ => .stuck
    | .tup xs => gf gO ks tt te G.length xs τ (G ++ [.lst []])
    | .con xs => gf gO ks tt te G.length xs τ (G ++ [.lst []])
    | .str z => gf gO ks tt te G.length (z.cps.toList.map fun c => .str ⟨#[c]⟩) τ (G ++ [.lst []])
    | _ => .stuck) h
  refine ⟨τ, ρ, G, ab, ?_⟩
  cases e : m τ G with
  | stuck => rw [e] at ok; exact ok
  | fL c G' => rw [e] at ok; exact ok
  | ok d G' =>
    rw [e] at ok
    intro v H1 ρ1 f1 qT r1
    obtain ⟨τ2, ρ2, G2, d2, iu, r2, bV⟩ := ok v H1 ρ1 f1 qT r1
    cases d2 <;> try exact bV.elim
    case obj n =>
      dsimp only at bV
      unfold Rep at r2
      obtain ⟨p, rfl, e1⟩ := r2
      cases q : G2[n]? with
      | none => rw [q] at bV; exact bV.elim
      | some o =>
        cases o with
        | dead => first | (rw [q] at ok; exact ok.elim) | (rw [q] at bV; exact bV.elim) | (rw [q3] at hW; exact hW.elim) | (rw [q] at e; cases e; done) | (rw [g] at ok; exact ok.elim) | (rw [g] at q; cases q; done) | (rw [g] at h; cases h; done) | exact ok.elim
        | dct kv => first | (rw [q] at ok; exact ok.elim) | (rw [q] at bV; exact bV.elim) | (rw [q3] at hW; exact hW.elim) | (rw [q] at e; cases e; done) | (rw [g] at ok; exact ok.elim) | (rw [g] at q; cases q; done) | (rw [g] at h; cases h; done) | exact ok.elim
        | lst xs =>
          rw [q] at bV
          obtain ⟨p', vs, e2, h2, rs⟩ := iu.hp.lst q
          rw [e1] at e2; cases e2
          exact .inl ⟨p, rfl, ⟨vs, .of h2⟩, Gp hO e1 iu bV⟩
    case tup xs =>
      unfold Rep at r2
      obtain ⟨p, vs, rfl, sq, rs⟩ := r2
      refine .inr (.inl ⟨p, rfl, ⟨vs, sq⟩, pY hO xs (fun i H' ρ' hi f => ?_) (fun i H' ρ' hi f => ?_) (fun i d' H' ρ' x MK hd f y => ?_) iu bV⟩)
      · rw [rs.length] at hi
        exact ⟨vs, vs[i], f.tup _ _ sq, List.getElem?_eq_getElem hi⟩
      · exact ⟨vs, f.tup _ _ sq, by rw [← rs.length]; exact hi⟩
      · obtain ⟨rfl, y⟩ := y
        obtain ⟨w', ew, rw'⟩ := rs.get hd
        have := y vs (f.tup _ _ sq)
        rw [ew] at this; cases this
        exact ⟨.refl, rw'.mono f⟩
    case con xs =>
      unfold Rep at r2
      obtain ⟨p, vs, rfl, sq, rs⟩ := r2
      refine .inl ⟨p, rfl, ⟨vs, sq.seq⟩, pY hO xs (fun i H' ρ' hi f => ?_) (fun i H' ρ' hi f => ?_) (fun i d' H' ρ' x MK hd f y => ?_) iu bV⟩
      · rw [rs.length] at hi
        exact ⟨vs, vs[i], (f.con _ _ sq).seq, List.getElem?_eq_getElem hi⟩
      · exact ⟨vs, (f.con _ _ sq).seq, by rw [← rs.length]; exact hi⟩
      · obtain ⟨rfl, y⟩ := y
        obtain ⟨w', ew, rw'⟩ := rs.get hd
        have := y vs (f.con _ _ sq).seq
        rw [ew] at this; cases this
        exact ⟨.refl, rw'.mono f⟩
    case str z =>
      unfold Rep at r2; subst r2
      refine .inr (.inr ⟨z, rfl, pY hO (z.cps.toList.map fun c => .str ⟨#[c]⟩) (fun i H' ρ' hi f => ?_) (fun i H' ρ' hi f => ?_) (fun i d' H' ρ' x MK hd f y => ?_) iu bV⟩)
      · simpa [Ii] using hi
      · simpa [Ii] using hi
      · obtain ⟨rfl, c, hc, rfl⟩ := y
        rw [List.getElem?_map] at hd
        have : z.cps.toList[i]? = some c := by simpa using hc
        rw [this] at hd
        cases hd
        exact ⟨.refl, by unfold Rep; rfl⟩
noncomputable def sD (X : Cx) (scope : Scope) (xs : List Str) (ifs : List Expr) (elt : Expr) (tt : DS → M Bool) (te : DS → M D) : Prop :=
  ∀ (cl : List (Str × Addr)) (C : Addr) (pins : List (Addr × Obj)) (s0 : Shared) (H0 : Hp) (fp : List Addr) (E : Value → Shared → Prop) (EE : ki), pH (vc X scope cl xs C pins s0 H0 fp E) EE → CT (vc X scope cl xs C pins s0 H0 fp E) ifs (liftT X.K X.mg EE tt) ∧ QE (vc X scope cl xs C pins s0 H0 fp E) EE elt te
noncomputable def jP : DS → M Bool := fun _ => M.ret true
theorem iI (h : ∀ (cl : List (Str × Addr)) (C : Addr) (pins : List (Addr × Obj)) (s0 : Shared) (H0 : Hp) (fp : List Addr) (E : Value → Shared → Prop) (EE : ki), pH (vc X scope cl xs C pins s0 H0 fp E) EE → QE (vc X scope cl xs C pins s0 H0 fp E) EE elt te) : sD X scope xs [] elt jP te :=
  fun cl C pins s0 H0 fp E EE hx => ⟨fun nh s σ H Q I ⟨τ, ρ, G, ab, ok⟩ => K9 nh s σ H Q I (ok H ρ .refl ab), h cl C pins s0 H0 fp E EE hx⟩
theorem vg {c : Expr} (h : ∀ (cl : List (Str × Addr)) (C : Addr) (pins : List (Addr × Obj)) (s0 : Shared) (H0 : Hp) (fp : List Addr) (E : Value → Shared → Prop) (EE : ki), pH (vc X scope cl xs C pins s0 H0 fp E) EE → QT (vc X scope cl xs C pins s0 H0 fp E) EE c tt ∧ QE (vc X scope cl xs C pins s0 H0 fp E) EE elt te) : sD X scope xs [c] elt tt te :=
  fun cl C pins s0 H0 fp E EE hx => ⟨La (h cl C pins s0 H0 fp E EE hx).1, (h cl C pins s0 H0 fp E EE hx).2⟩
noncomputable def iR (X : Cx) : Prop := ∃ mR mT L, X.stack = mR :: mT ∧ X.env.frame = mR.frame ∧ mR.frame = some L
theorem Iv (hx : pH X EE) (hst : iR X) (S : di X.env.scope X.N scope xs ks) (how : Own X scope xs ks tg ow) (hO : pX X.K X.mg ow gO) (hc : X.calm = true) (ha : QE X EE iter m) (hb : sD X scope xs ifs elt tt te) (hs : ∀ x, foldedSetIterable iter X.env x = pure x := by intro _; rfl) :
    QE X EE (.ListComp elt [⟨tg, iter, ifs, 0⟩] scope pos) (kM gO ks m tt te) := PE.mono (wL (tt := fun σ => liftT X.K X.mg (uZ EE σ) tt) (te := fun σ => fR X.K X.mg (uZ EE σ) te) hx hst S how hc (PI.any ha) (fun σ cl C pins s0 H0 fp E => hb cl C pins s0 H0 fp E _) hs) fun _ _ _ h => EF hO h
theorem Bt (hO : pX X.K X.mg ow gO) {Q : VK} {H0 : Hp} {σ : L2.St} {ρ0 : List Addr} {G0 : DH} {τ : DS} (lo : Int) (n : Nat) (ab : Ab X.K X.mg σ H0 τ ρ0 G0)
    (ok : pT X.K X.mg EE H0 σ τ ρ0 (gf gO ks tt te G0.length ((List.range n).map fun (k : Nat) => .int (lo + (k : Int))) τ (G0 ++ [.lst []])) Q) :
    ∀ D, H0 D = none → ∃ W : Nat → Nat → Hp → Prop, (∃ m, W 0 m (upd H0 D (.lst []))) ∧ ∀ i m H, W i m H →
      ((yS lo n).stop i H ∧ Q (.ref D) H) ∨ ((yS lo n).go i H ∧ ∀ x H', (yS lo n).yQ i H x H' → ∃ vs, ow x H' vs ∧ liftT X.K X.mg (uZ EE σ) tt (vs.map some ++ mask ks σ) H' fun b H2 => if b = true then fR X.K X.mg (uZ EE σ) te (vs.map some ++ mask ks σ) H2 fun v H3 => ∃ ys, H3 D = some (.lst ys) ∧ ys.length < sizeLine ∧ ∃ m', m' < m ∧ W (i + 1) m' (upd H3 D (.lst (ys ++ [v]))) else ∃ m', m' < m ∧ W (i + 1) m' H2) :=
  pY hO (J := yS lo n) _ (fun i H ρ hi f => by simpa [yS] using hi) (fun i H ρ hi f => by simpa [yS] using hi) (fun i d H ρ x H' hd f y => by
    obtain ⟨rfl, rfl⟩ := y
    rw [List.getElem?_map] at hd
    cases q : (List.range n)[i]? with
    | none => rw [q] at hd; cases hd
    | some k =>
      rw [q] at hd
      obtain ⟨hk, e⟩ := List.getElem?_eq_some_iff.mp q
      rw [List.getElem_range] at e
      subst e
      cases hd
      exact ⟨.refl, by unfold Rep; rfl⟩) ab ok
variable {ma : DS → M (List D)}
theorem Bu (hO : pX X.K X.mg ow gO) {σ : L2.St} {H : Hp} {Q : VK} (h : fR X.K X.mg EE (gK kJ gO ks ma tt te) σ H Q) : zj (Jm (qS X.K X.mg EE ma)) ks ow (liftT X.K X.mg (uZ EE σ) tt) (fR X.K X.mg (uZ EE σ) te) σ H Q := by
  obtain ⟨τ, ρ, G, ab, ok⟩ := tu (k := fun τ ds G => match kJ ds with | some xs => gf gO ks tt te G.length xs τ (G ++ [.lst []]) | none => .stuck) h
  refine ⟨τ, ρ, G, ab, ?_⟩
  cases e : ma τ G with
  | stuck => rw [e] at ok; exact ok
  | fL c G' => rw [e] at ok; exact ok
  | ok ds G' =>
    rw [e] at ok
    intro vs H1 ρ1 f1 qT r1
    obtain ⟨τ2, ρ2, G2, d2, iu, r2, bV⟩ := ok vs H1 ρ1 f1 qT r1
    cases q : kJ d2 with
    | none => rw [q] at bV; exact bV.elim
    | some xs =>
      rw [q] at bV
      unfold kJ at q
      split at q
      · rename_i j
        split at q
        · rename_i hj
          cases q
          obtain ⟨v, rfl, h1⟩ := qH r2
          unfold Rep at h1; subst h1
          exact ⟨j, rfl, hj.1, hj.2, Bt hO 0 j.toNat iu bV⟩
        · cases q
      · cases q
theorem Bv (hO : pX X.K X.mg ow gO) {σ : L2.St} {H : Hp} {Q : VK} (h : fR X.K X.mg EE (gK wg gO ks ma tt te) σ H Q) : zj (Jo (qS X.K X.mg EE ma)) ks ow (liftT X.K X.mg (uZ EE σ) tt) (fR X.K X.mg (uZ EE σ) te) σ H Q := by
  obtain ⟨τ, ρ, G, ab, ok⟩ := tu (k := fun τ ds G => match wg ds with | some xs => gf gO ks tt te G.length xs τ (G ++ [.lst []]) | none => .stuck) h
  refine ⟨τ, ρ, G, ab, ?_⟩
  cases e : ma τ G with
  | stuck => rw [e] at ok; exact ok
  | fL c G' => rw [e] at ok; exact ok
  | ok ds G' =>
    rw [e] at ok
    intro vs H1 ρ1 f1 qT r1
    obtain ⟨τ2, ρ2, G2, d2, iu, r2, bV⟩ := ok vs H1 ρ1 f1 qT r1
    cases q : wg d2 with
    | none => rw [q] at bV; exact bV.elim
    | some xs =>
      rw [q] at bV
      unfold wg at q
      split at q
      · rename_i i j
        split at q
        · rename_i hj
          cases q
          obtain ⟨v, w, rfl, h1, h2⟩ := Ge r2
          unfold Rep at h1 h2; subst h1 h2
          exact ⟨i, j, rfl, hj, Bt hO i (j - i).toNat iu bV⟩
        · cases q
      · cases q
theorem Gq {me : DS → M D} {t : TE} {i : Nat} (hl : ∀ σ H Q, fR X.K X.mg EE me σ H Q → t σ H Q) {Dd : Ends} {σ : L2.St} {H : Hp} (h : oQ X.K X.mg EE (dS i me) Dd σ H) : J1 t (Ba i) Dd σ H := by
  obtain ⟨τ, ρ, G, ab, ok⟩ := h
  refine hl σ H (fun v H1 => Ba i v σ H1 Dd.nx) ⟨τ, ρ, G, ab, ?_⟩
  dsimp only [dS, fS] at ok
  cases e : me τ G with
  | stuck => rw [e] at ok; exact ok
  | fL c G' => rw [e] at ok; exact fun H' ρ' f fC => ok σ H' ρ' f fC
  | ok d G' => rw [e] at ok; exact fun v H' ρ' f fC r => ok _ H' ρ' f (fC.set r)
theorem EG {p pc : Pos} (hx : pH X EE) (hst : iR X) (S : di X.env.scope X.N scope xs ks) (how : Own X scope xs ks tg ow) (hO : pX X.K X.mg ow gO) (hc : X.calm = true) (hm : X.mg "range" = none) (ha : QA X EE [a] ma) (hb : sD X scope xs ifs elt tt te) (zg : Gl X "range" := by rfl) (Lf : starEach [a] X.env = [(false, eval a X.env)] := by rfl)
    (hs : ∀ x, foldedSetIterable (.Call (.Name "range" p) [a] [] pc) X.env x = pure x := by intro _; rfl) :
    QE X EE (.ListComp elt [⟨tg, .Call (.Name "range" p) [a] [] pc, ifs, 0⟩] scope pos) (gK kJ gO ks ma tt te) := PE.mono (wL (tt := fun σ => liftT X.K X.mg (uZ EE σ) tt) (te := fun σ => fR X.K X.mg (uZ EE σ) te) hx hst S how hc (yT zg hm ha Lf) (fun σ cl C pins s0 H0 fp E => hb cl C pins s0 H0 fp E _) hs) fun _ _ _ h => Bu hO h
theorem EH {p pc : Pos} (hx : pH X EE) (hst : iR X) (S : di X.env.scope X.N scope xs ks) (how : Own X scope xs ks tg ow) (hO : pX X.K X.mg ow gO) (hc : X.calm = true) (hm : X.mg "range" = none) (ha : QA X EE [a, b] ma) (hb : sD X scope xs ifs elt tt te) (zg : Gl X "range" := by rfl) (Lf : starEach [a, b] X.env = [(false, eval a X.env), (false, eval b X.env)] := by rfl) (hs2 : starEach [b] X.env = [(false, eval b X.env)] := by rfl)
    (hs : ∀ x, foldedSetIterable (.Call (.Name "range" p) [a, b] [] pc) X.env x = pure x := by intro _; rfl) :
    QE X EE (.ListComp elt [⟨tg, .Call (.Name "range" p) [a, b] [] pc, ifs, 0⟩] scope pos) (gK wg gO ks ma tt te) := PE.mono (wL (tt := fun σ => liftT X.K X.mg (uZ EE σ) tt) (te := fun σ => fR X.K X.mg (uZ EE σ) te) hx hst S how hc (Ei zg hm ha Lf hs2) (fun σ cl C pins s0 H0 fp E => hb cl C pins s0 H0 fp E _) hs) fun _ _ _ h => Bv hO h
end
end L3
end
section
set_option Elab.async false
set_option linter.all false
set_option maxRecDepth 100000
namespace L3
open PySem PySem.Spec L2
theorem gR {k : Nat} {A : Around} (r : mQ k A) : A.units + 600 < cLine := by have := r.un; omega
theorem M4 {X : Cx} {EE : ki} {x : Str} {f : Addr} {pos : Pos} (hm : X.mg x = some (.ref f)) (hg : Gl X x := by rfl) (hd : (x == ("__debug__" : Str)) = false := by decide) : QE X EE (.Name x pos) (eC (.fn x)) :=
  HZ (Hv hg hm (v := .ref f) rfl hd) fun _ _ => by unfold Rep; exact ⟨f, rfl, hm⟩
noncomputable def JB (K : PySem.W.Frag) : Sp := fun vs H Q _ => ∃ (a : Addr) (ns : List Int), vs = [.ref a] ∧ KI K H a (ns.map V.int) ∧ ns.length ≤ 63 ∧ ∀ H', Q (.bl true) H'
theorem Lg {K : PySem.W.Frag} {H : Hp} {a : Addr} {xs : List V} (hO : HU H) (h : sf K H a xs) : KI K H a xs := by
  rcases h with (h | ⟨o, h⟩) | h
  · rcases hO a with z | ⟨o, ys, z⟩
    · rw [h] at z; cases z
    · rw [h] at z; cases z
  · exact .inl ⟨o, h⟩
  · exact .inr h
theorem Gr {K : PySem.W.Frag} {mg : Str → Option Value} {m : List D → M D} (hm : ∀ ns : List Int, ns.length ≤ 63 → ∃ G, m [.con (ns.map .int)] [] = .ok (.bl true) G) (vs : List V) (H : Hp) (Q : VK) (E : XK) (h : JB K vs H Q E) : cU K mg 1 m vs H Q E := by
  obtain ⟨a, ns, rfl, sq, hl, q⟩ := h
  obtain ⟨G, e⟩ := hm ns hl
  refine ⟨[.con (ns.map .int)], [], [], rfl, ⟨rfl, List.nodup_nil, fun n o e => by simp at e⟩, .cons (by unfold Rep; exact ⟨a, _, rfl, sq, .ints ns⟩) .nil, ?_⟩
  rw [e]
  intro v H' ρ' _ _ r
  unfold Rep at r
  subst r
  exact q H'
end L3
end
section
set_option Elab.async false
set_option linter.all false
set_option maxRecDepth 100000
namespace L3
open PySem PySem.Spec L2
noncomputable def fZ : Expr → Bool
  | .Starred .. => false
  | _ => true
noncomputable def plainT : Expr → Bool
  | .UnaryOp .Not _ _ => false
  | .BoolOp .. => false
  | .IfExp .. => false
  | .Compare .. => false
  | _ => true
noncomputable def qW : Expr → Bool
  | .Set .. => false
  | _ => true
noncomputable def Ai : Expr → Bool
  | .ListComp .. => false
  | .SetComp .. => false
  | .DictComp .. => false
  | _ => true
noncomputable def xo : Expr → Bool
  | .Call (.Name _ _) [] [] _ => false
  | _ => true
noncomputable def DI : Expr → Bool
  | .Slice .. => false
  | _ => true
noncomputable def aO : List Expr → Bool
  | [] => true
  | e :: es => fZ e && aO es
theorem dD {e : Expr} (h : fZ e = true) (es : List Expr) (env : Env) : starEach (e :: es) env = (false, eval e env) :: starEach es env := by
  cases e <;> first | rfl | cases h
theorem EI {e : Expr} (h : plainT e = true) (env : Env) (whole : Sem Value) : isTrue e env whole = (do let v ← whole; standAt e.pos; holding [v] (truthy v)) := by
  cases e <;> first | rfl | cases h | (rename_i op _ _; cases op <;> first | rfl | cases h)
theorem oS {e : Expr} (h : qW e = true) (env : Env) (x : Value) : foldedSetIterable e env x = pure x := by
  cases e <;> first | rfl | cases h
theorem Aj {e : Expr} (h : Ai e = true) (t : Option Expr) (l : Nat) (env : Env) : swapsWith e t l env = pure false := by
  cases e <;> first | rfl | cases h
theorem pV {e : Expr} (h : xo e = true) (n : Str) (env : Env) : attributeBase e n env (eval e env) = eval e env := by
  unfold attributeBase
  split
  · cases h
  · rfl
theorem M5 {e : Expr} (h : DI e = true) : wH e := fun o i => by
  cases e <;> first | rfl | cases h
theorem Iw {e : Expr} (h : qW e = true) (op : CmpOp) : behindInMarks op e = false := by
  cases e <;> first | rfl | cases h
theorem fj {env : Env} {pos : Pos} : ∀ {es : List Expr}, aO es = true → (backTo pos (starEach es env)).any (·.1) = false
  | [], _ => rfl
  | e :: es, h => by
    have h' : fZ e = true ∧ aO es = true := by simpa [aO] using h
    rw [dD h'.1]
    have ih := fj (env := env) (pos := pos) h'.2
    show (false || (backTo pos (starEach es env)).any (·.1)) = false
    rw [ih]; rfl
theorem zk {env : Env} {pos : Pos} : ∀ {es : List Expr}, aO es = true → (backTo pos (starEach es env)).all (fun x => !x.1) = true
  | [], _ => rfl
  | e :: es, h => by
    have h' : fZ e = true ∧ aO es = true := by simpa [aO] using h
    rw [dD h'.1]
    have ih := zk (env := env) (pos := pos) h'.2
    show (!false && (backTo pos (starEach es env)).all (fun x => !x.1)) = true
    rw [ih]; rfl
theorem CV {env : Env} {pos : Pos} {es : List Expr} (h : aO es = true) (hl : es.length < 30) : ((backTo pos (starEach es env)).all (fun x => !x.1) && (backToKw pos (keywordEach [] env)).all (fun x => x.1.isSome)
      && decide (es.length + ([] : List Keyword).length + (if ([] : List Keyword).isEmpty then 0 else 1) < 30)) = true := by
  rw [zk h]
  simp only [Bool.true_and, Bool.and_eq_true, decide_eq_true_eq]
  exact ⟨rfl, by simpa using hl⟩
section
variable {X : Cx} {EE : ki} {a b c e o : Expr} {es : List Expr} {ma mb mc me mo : DS → M D} {pos p apos cpos : Pos} {m : DS → M (List D)} {ms mt : MS} {x : Str} {ks : List Bool} {tt : DS → M Bool} {te : DS → M D}
theorem Ak {m : DS → M D} {r : DS → M (List D)} (ha : QE X EE e m) (hr : QA X EE es r) (h : fZ e = true := by rfl) : QA X EE (e :: es) (af m r) := Ib ha hr (dD h _ _)
theorem ah (i : Nat) (hv : JO X.env.scope x) (hd : (x == ("__debug__" : Str)) = false ∧ (x == ("__classdict__" : Str)) = false) (hN : X.N[i]? = some x := by rfl) : QE X EE (.Name x pos) (ai i) := KL i hN hv hd.1 hd.2
theorem M6 {f : Addr} (hm : X.mg x = some (.ref f)) (hg : Gl X x) (hd : (x == ("__debug__" : Str)) = false ∧ (x == ("__classdict__" : Str)) = false) : QE X EE (.Name x pos) (eC (.fn x)) := M4 hm hg hd.1
theorem cA (ha : QE X EE a ma) (hb : QE X EE b mb) (h : DI b = true := by rfl) : QE X EE (.Subscript a b pos) (aG fD ma mb) := FQ ha hb (M5 h)
theorem eN {op : CmpOp} {f : D → D → M D} (ho : sj X (compareOp op) (rD X EE f)) (ha : QE X EE a ma) (hb : QE X EE b mb) (h : qW b = true := by rfl) : QT X EE (.Compare a [op] [b] pos) (j3 (aG f ma mb)) := KW ho ha hb (Iw h _)
theorem Lh (ha : QE X EE a ma) (h : plainT a = true := by rfl) : QT X EE a (w6 iz ma) := KP ha (EI h _)
theorem xq {id : String} {f : List D → M D} (hc : oO X (.builtin id) (K3 X EE f)) (hm : X.mg x = none) (hg : Gl X x) (hv : bootBuiltins x = some (.builtin id)) (ha : QA X EE (e :: es) m) (hn : x ≠ "__name__" := by decide) (hdb : (x == ("__debug__" : Str)) = false := by decide) (h : aO (e :: es) = true := by rfl) :
    QE X EE (.Call (.Name x p) (e :: es) [] pos) (az f m) := by
  have h' : fZ e = true ∧ aO es = true := by simpa [aO] using h
  exact FN hc w9 hm ha hg hv hn hdb (dD h'.1 _ _) (fj h'.2)
theorem EJ {id : String} {f : List D → M D} (hc : oO X (.type id) (K3 X EE f)) (hm : X.mg x = none) (hg : Gl X x) (hv : bootBuiltins x = some (.type id)) (ha : QA X EE (e :: es) m) (hn : x ≠ "__name__" := by decide) (hdb : (x == ("__debug__" : Str)) = false := by decide) (h : aO (e :: es) = true := by rfl) :
    QE X EE (.Call (.Name x p) (e :: es) [] pos) (az f m) := by
  have h' : fZ e = true ∧ aO es = true := by simpa [aO] using h
  exact Ew hc w9 hm ha hg hv hn hdb (dD h'.1 _ _) (fj h'.2)
theorem jQ (hm : X.mg "len" = none) (hg : Gl X "len") (ha : QA X EE [e] m) (h : aO [e] = true := by rfl) : QE X EE (.Call (.Name "len" p) [e] [] pos) (az bW m) := xq Ey hm hg PySem.boot_len ha (by decide) (by decide) h
theorem Iz (hc : X.calm = true) (hm : X.mg "min" = none) (hg : Gl X "min") (ha : QA X EE [e, a] m) (h : aO [e, a] = true := by rfl) : QE X EE (.Call (.Name "min" p) [e, a] [] pos) (az (cM fun i j => if j < i then j else i) m) := xq (Ez hc) hm hg PyProof.Rows.boot_min ha (by decide) (by decide) h
theorem Li (c : Ty) {pt : Pos} (hc : c ≠ .lG) (hm : X.mg "isinstance" = none) (hmt : X.mg x = none) (hg : Gl X "isinstance") (hgt : Gl X x) (ha : QE X EE a ma) (hb : bootBuiltins x = some (.type c.nm)) (hnt : x ≠ "__name__") (hdt : (x == ("__debug__" : Str)) = false) (h : fZ a = true := by rfl) :
    QE X EE (.Call (.Name "isinstance" p) [a, .Name x pt] [] pos) (Il c ma) := K4 c hc hm hmt ha hb hg hgt hnt hdt (dD h _ _) (dD rfl _ _) (fj (es := [.Name x pt]) rfl)
theorem bY {CX : Bd} {k n : Nat} {f : Addr} {fd : FuncData} {ps : List Str} {mf : List D → M D} (F : cY X.prog X.w X.K X.mg X.base CX k f fd ps (cU X.K X.mg n mf)) (hr : mQ k X.A) (hm : X.mg x = some (.ref f)) (hk : PySem.W.keepIn X.K (.ref f) = true) (hb : Binds X.K fd ps []) (hx : ML CX X EE) (hg : Gl X x)
    (hd : (x == ("__debug__" : Str)) = false ∧ (x == ("__classdict__" : Str)) = false) (ha : QA X EE (e :: es) m) (h : aO (e :: es) = true := by rfl) : QE X EE (.Call (.Name x p) (e :: es) [] pos) (br n mf m) := by
  have h' : fZ e = true ∧ aO es = true := by simpa [aO] using h
  exact Ik F hr hm hk hb hx ha hg hd.1 (dD h'.1 _ _) (fj h'.2)
theorem lO (ho : QE X EE o mo) (ha : QA X EE [e] m) (hb : xo o = true := by rfl) (h : aO [e] = true := by rfl) (hline : (apos.endLine == cpos.line) = true := by rfl) : QE X EE (.Call (.Attribute o "append" apos) [e] [] cpos) (ja "list" aS mo m) := by
  have h' : fZ e = true ∧ aO [] = true := by simpa [aO] using h
  exact EA ho ha (pV hb _ _) (CV h (by simp)) hline (dD h'.1 _ _) (fj (es := []) rfl)
theorem Lj (ho : QE X EE o mo) (hb : xo o = true := by rfl) (hline : (apos.endLine == cpos.line) = true := by rfl) : QE X EE (.Call (.Attribute o "pop" apos) [] [] cpos) (ja "list" iS mo ao) := K6 ho (pV hb _ _) hline
theorem oU (he : QE X EE a ma) (h : Ai a = true := by rfl) : QS X EE (.Expr a pos) (qG ma) := Ig he (Aj h _ _ _)
theorem cg {i : Nat} {pos' : Pos} (hN : X.N.Nodup) (hx : Loc X.env.scope x) (he : QE X EE a ma) (hf : X.fn x = true ∨ X.env.scope.names.lookup x = some .local) (hi : X.N[i]? = some x := by rfl) (h : Ai a = true := by rfl) : QS X EE (.Assign [.Name x pos'] a pos) (dS i ma) := K0 hN he hi hx (Aj h _ _ _) hf
theorem oV {i : Nat} (hN : X.N.Nodup) (hx : Loc X.env.scope x) (hf : X.fn x = true ∨ X.env.scope.names.lookup x = some .local) (hi : X.N[i]? = some x := by rfl) : QG X (.Name x pos) (gN i) := Ih hN hi hx hf
theorem Al {tg : Expr} {g : uY} {body : List Stmt} (hp : PassesOwn (model X.prog X.w) X.A X.env X.xe) (hc : X.calm = true) (ha : QE X EE a ma) (hg : QG X tg g) (hb : Et X EE body ms) (h : qW a = true := by rfl) : QS X EE (.For tg a body [] pos) (qU g ma ms) := K1 hp hc ha hg hb (oS h _)
theorem qX {tg : Expr} {g : uY} {body : List Stmt} {pc : Pos} (hp : PassesOwn (model X.prog X.w) X.A X.env X.xe) (hc : X.calm = true) (hm : X.mg "range" = none) (zg : Gl X "range") (ha : QA X EE [a] m) (hg : QG X tg g) (hb : Et X EE body ms) (h : fZ a = true := by rfl) :
    QS X EE (.For tg (.Call (.Name "range" p) [a] [] pc) body [] pos) (ny kJ g m ms) := Gd hp hc hm ha hg hb zg (dD h _ _) (oS rfl _)
variable {scope : Scope} {elt iter tg : Expr} {xs : List Str} {ow : V → Hp → List V → Prop} {gO : D → Option (List D)} {ifs : List Expr} {px : Pos}
theorem rW (hx : pH X EE) (hst : iR X) (S : di X.env.scope X.N scope xs ks) (how : Own X scope xs ks tg ow) (hO : pX X.K X.mg ow gO) (hc : X.calm = true) (ha : QE X EE iter ma) (hb : sD X scope xs ifs elt tt te) (h : qW iter = true := by rfl) : QE X EE (.ListComp elt [⟨tg, iter, ifs, 0⟩] scope pos) (kM gO ks ma tt te) := Iv hx hst S how hO hc ha hb (oS h _)
theorem rX {pc : Pos} (hx : pH X EE) (hst : iR X) (S : di X.env.scope X.N scope xs ks) (how : Own X scope xs ks tg ow) (hO : pX X.K X.mg ow gO) (hc : X.calm = true) (hm : X.mg "range" = none) (zg : Gl X "range") (ha : QA X EE [a] m) (hb : sD X scope xs ifs elt tt te) (h : fZ a = true := by rfl) :
    QE X EE (.ListComp elt [⟨tg, .Call (.Name "range" p) [a] [] pc, ifs, 0⟩] scope pos) (gK kJ gO ks m tt te) := EG hx hst S how hO hc hm ha hb zg (dD h _ _) (oS rfl _)
theorem zl {pc : Pos} (hx : pH X EE) (hst : iR X) (S : di X.env.scope X.N scope xs ks) (how : Own X scope xs ks tg ow) (hO : pX X.K X.mg ow gO) (hc : X.calm = true) (hm : X.mg "range" = none) (zg : Gl X "range") (ha : QA X EE [a, b] m) (hb : sD X scope xs ifs elt tt te) (h : fZ a = true := by rfl) (h2 : fZ b = true := by rfl) :
    QE X EE (.ListComp elt [⟨tg, .Call (.Name "range" p) [a, b] [] pc, ifs, 0⟩] scope pos) (gK wg gO ks m tt te) := EH hx hst S how hO hc hm ha hb zg (by rw [dD h, dD h2]; rfl) (dD h2 _ _) (oS rfl _)
theorem EK {gens : List Comprehension} {y : Str} {py : Pos} {l : Nat} {env : Env} (hb : (env.blockKind == .function) = true) (hl : env.scope.names.lookup y = some .local) (hp : (py.line == pos.line) = true) (hq : (scope.names.any fun x => x.1 == y && (x.2 == .local || x.2 == .cell)) = false) : swapsWith (.ListComp elt gens scope pos) (some (.Name y py)) l env = pure true := by
  unfold swapsWith
  dsimp only
  show (pure (env.blockKind == .function && env.kindOf y == some .local && py.line == pos.line && !(scope.names.any fun x => x.1 == y && (x.2 == .local || x.2 == .cell))) : Sem Bool) = pure true
  have e : (env.kindOf y == some NameKind.local) = true := by rw [show env.kindOf y = some NameKind.local from hl]; rfl
  rw [hb, e, hp, hq]; rfl
theorem gX {cl : List (Str × Addr)} {C : Addr} {pins : List (Addr × Obj)} {s0 : Shared} {H0 : Hp} {fp : List Addr} {E : Value → Shared → Prop} (S : di X.env.scope X.N scope xs ks) (h : x ∈ xs) : JO (vc X scope cl xs C pins s0 H0 fp E).env.scope x := .inl (xj (cl := cl) (C := C) S h)
theorem fJ {cl : List (Str × Addr)} {C : Addr} {pins : List (Addr × Obj)} {s0 : Shared} {H0 : Hp} {fp : List Addr} {E : Value → Shared → Prop} {y : Str} (S : di X.env.scope X.N scope xs ks) (h : scope.names.lookup y = some .free) : JO (vc X scope cl xs C pins s0 H0 fp E).env.scope y := .inr (ve (cl := cl) (C := C) S h)
theorem rY {cl : List (Str × Addr)} {C : Addr} {pins : List (Addr × Obj)} {s0 : Shared} {H0 : Hp} {fp : List Addr} {E : Value → Shared → Prop} {y : Str} (h : scope.names.lookup y = some .globalImplicit) : Gl (vc X scope cl xs C pins s0 H0 fp E) y := by
  show (compEnvC scope cl C X.env).kindOf y = some .globalImplicit
  have e : (compEnvC scope cl C X.env).kindOf y = (scope.names.lookup y).map (yq X.env y) := jl scope.names
  rw [e, h]; rfl
end
end L3
end
section
set_option Elab.async false
set_option linter.all false
set_option maxRecDepth 100000
namespace L3
open PySem PySem.Spec L2 Builtin Builtin.Str
section
variable {X : Cx} {EE : ki}
variable {x : Str} {p pos apos cpos : Pos} {e o : Expr} {es : List Expr} {m : DS → M (List D)} {mo : DS → M D}
theorem boot_tuple : bootBuiltins "tuple" = some (.type "tuple") := by decide +kernel
theorem boot_list : bootBuiltins "list" = some (.type "list") := by decide +kernel
noncomputable def vh (i n : Nat) (A1 : Str → Option (List D → M D)) (m : DS → M (List D)) : DS → M D := fun τ G => match τ[i]? with
  | some (some (.fn y)) => match A1 y with
    | some mf => br n mf m τ G
    | none => .stuck
  | _ => .stuck
theorem Gs {CX : Bd} {i n : Nat} {A1 : Str → Option (List D → M D)} (hN : X.N[i]? = some x) (hv : JO X.env.scope x) (hd : (x == ("__debug__" : Str)) = false ∧ (x == ("__classdict__" : Str)) = false)
    (hF : ∀ y mf, A1 y = some mf → ∃ k f fd ps, cY X.prog X.w X.K X.mg X.base CX k f fd ps (cU X.K X.mg n mf) ∧ mQ k X.A ∧ X.mg y = some (.ref f) ∧ PySem.W.keepIn X.K (.ref f) = true ∧ Binds X.K fd ps []) (hx : ML CX X EE)
    (ha : QA X EE (e :: es) m) (h : aO (e :: es) = true := by rfl) : QE X EE (.Call (.Name x p) (e :: es) [] pos) (vh i n A1 m) := by
  have h' : fZ e = true ∧ aO es = true := by simpa [aO] using h
  intro pins s σ H Q I hq
  obtain ⟨τ, ρ, G, ab, ok⟩ := hq
  unfold vh at ok
  cases q : τ[i]? with
  | none => rw [q] at ok; exact ok.elim
  | some od =>
    cases od with
    | none => rw [q] at ok; exact ok.elim
    | some d =>
      rw [q] at ok
      cases d <;> try exact ok.elim
      rename_i y
      dsimp only at ok
      cases qt : A1 y with
      | none => rw [qt] at ok; exact ok.elim
      | some mf =>
        rw [qt] at ok
        obtain ⟨k, f, fd, ps, F, hr, hm, hk, hb⟩ := hF y mf qt
        obtain ⟨v, ev, rv⟩ := ab.st.2 i (.fn y) q
        unfold Rep at rv
        obtain ⟨a, rfl, ha'⟩ := rv
        rw [hm] at ha'
        cases ha'
        obtain ⟨τ1, ρ1, G1, qT, Jw⟩ := tu (k := fun _ ds => if ds.length = n then mf ds else M.stop) ⟨τ, ρ, G, ab, ok⟩
        refine wpAny_Call_Name_kw (wpAny_mono (Fj hN hv hd.1 hd.2 pins s σ H (fun v' H' => v' = .ref f ∧ H' = H) I ⟨_, ev, rfl, rfl⟩) (fun u s0 hu => ?_) fun _ _ z => z)
        obtain ⟨v', H', I0, r0, rfl, rfl⟩ := hu
        cases r0
        refine PySem.W.callWith_K (h₀ := X.base) I0.ok.mod.Ob hk (j4 (ha pos pins s0 σ H' _ I0 ⟨τ1, ρ1, G1, qT, Jw⟩) fun us s1 ⟨vs, H1, I1, r, q⟩ => ⟨I1.Dt, ?_⟩) (dD h'.1 _ _) (fj h'.2)
        obtain ⟨τ2, ρ2, G2, ds, iu, rs, bV⟩ := q
        by_cases hn : ds.length = n
        · rw [if_pos hn] at bV
          exact DC F hr hb hx I1 r iu rs hn bV
        · rw [if_neg hn] at bV
          exact bV.elim
end
end L3
end
section
set_option Elab.async false
set_option linter.all false
set_option maxRecDepth 100000
namespace L3
open PySem PySem.Spec L2 Builtin Builtin.Str
section
variable {X : Cx} {EE : ki}
noncomputable def To (f : D → M D) (m : DS → M D) : DS → M D := fun τ => (m τ).bind f
variable {o : Expr} {mo : DS → M D} {y z : Str} {j1 j2 : Nat} {p1 p2 apos cpos : Pos}
end
section
end
section
variable {X : Cx} {EE : ki}
variable {p pos apos cpos : Pos} {e o : Expr} {es : List Expr} {m : DS → M (List D)} {mo : DS → M D}
end
end L3
end
section
set_option Elab.async false
set_option linter.all false
set_option maxRecDepth 100000
namespace L3
open PySem PySem.Spec L2
noncomputable def M7 (CX : Bd) (X : Cx) (n : Nat) : List (Str × (List D → M D)) → Prop
  | [] => True
  | q :: r => (∃ k f fd ps, cY X.prog X.w X.K X.mg X.base CX k f fd ps (cU X.K X.mg n q.2) ∧ mQ k X.A ∧ X.mg q.1 = some (.ref f) ∧ PySem.W.keepIn X.K (.ref f) = true ∧ Binds X.K fd ps []) ∧ M7 CX X n r
theorem M8 {CX : Bd} {X : Cx} {n : Nat} : ∀ {l : List (Str × (List D → M D))}, M7 CX X n l → ∀ (y : Str) (mf : List D → M D), l.lookup y = some mf → ∃ k f fd ps, cY X.prog X.w X.K X.mg X.base CX k f fd ps (cU X.K X.mg n mf) ∧ mQ k X.A ∧ X.mg y = some (.ref f) ∧ PySem.W.keepIn X.K (.ref f) = true ∧ Binds X.K fd ps []
  | [], _, _, _, h => nomatch h
  | q :: r, ⟨h1, hr⟩, y, mf, h => by
    obtain ⟨qn, qm⟩ := q
    rw [List.lookup_cons] at h
    cases e : y == qn with
    | true =>
      rw [e] at h
      cases h
      have := eq_of_beq e
      subst this
      exact h1
    | false => rw [e] at h; exact M8 hr y mf h
end L3
namespace L3
open PySem PySem.Spec L2
theorem aT {X : Cx} {EE : ki} {e : Expr} {es : List Expr} {m : DS → M D} {r : DS → M (List D)} (ha : QE X EE e m) (h : fZ e = true) (hr : QA X EE es r) : QA X EE (e :: es) (af m r) := Ak ha hr h
theorem tE {X : Cx} {EE : ki} {x : Str} {j : Nat} {pos : Pos} {es : List Expr} {r : DS → M (List D)} (hr : QA X EE es r) : QA X EE (.Constant (.str x) j pos :: es) (af (eC (.str x)) r) := Ak mS hr rfl
theorem pI {X : Cx} {EE : ki} {x : Int} {j : Nat} {pos : Pos} {es : List Expr} {r : DS → M (List D)} (hr : QA X EE es r) : QA X EE (.Constant (.int x) j pos :: es) (af (eC (.int x)) r) := Ak aA hr rfl
end L3
end
section
set_option Elab.async false
set_option linter.all false
set_option maxRecDepth 100000
namespace L3
open PySem PySem.Spec L2
theorem CW : typeLookup (.type "list_reverseiterator") (Str.ofString "__len__") = (pure none : Sem (Option Value)) := by
  rw [typeLookup_type, builtinLookup_eq_fast]; rfl
theorem Gu : typeLookup (.type "list_reverseiterator") (Str.ofString "__length_hint__") = (pure (some (.builtin "list_reverseiterator.__length_hint__")) : Sem (Option Value)) := by
  rw [typeLookup_type, builtinLookup_eq_fast]; rfl
theorem Gv : isSubtype (.type "list_reverseiterator") (.type "list_reverseiterator") = (pure true : Sem Bool) := by
  rw [isSubtype_type]; rfl
theorem Gw {M : Model} {A : Around} {E : Value → Shared → Prop} {s : Shared} {it l : Addr} {i : Int} {Q : Bool → Shared → Prop} (hr : s.heap.IsRevIter it l i) (h : Q false s) : wpAny M A (Builtin.List.listLengthHint (.ref it)) Q E s := by
  have ty : s.TypeIs (.ref it) "list_reverseiterator" := by
    obtain ⟨o, e, c, _⟩ := hr
    exact ⟨o, e, c⟩
  unfold Builtin.List.listLengthHint
  refine wpAny_bind (wpAny_specialOf ty CW ?_)
  refine wpAny_bind (wpAny_specialOf ty Gu ?_)
  have e1 : splitId "list_reverseiterator.__length_hint__" = some ("list_reverseiterator", "__length_hint__") := by decide +kernel
  dsimp only
  rw [e1]
  dsimp only
  refine wpAny_bind (wpAny_isInstance ty Gv ?_)
  rw [if_neg (by decide)]
  split
  · rw [if_neg (by decide)]
    exact wpAny_pure h
  · rename_i hs
    exact absurd (by decide +kernel) hs
theorem xr {prog : Program} {w : World} {A : Around} {s : Shared} {R : Result → Shared → Prop} {it l : Addr} {items : Array Value} (hh : A.handled = none) (hit : s.heap.IsRevIter it l ((items.size : Int) - 1)) (hl : s.heap.IsList l items) (hne : l ≠ it) (hz : items.size ≤ sizeLine) (S : Addr) (res : Value) (c₀ : Nat)
    (hS : s.heap.get? S = some { cls := .type "list", data := .seq #[] c₀ }) (Tp : S ≠ l)
    (hR : ∀ (s' : Shared) (acc' : Array Value) (c' : Nat), Moved [S, it] (fun a b => b = a) s s' → s'.heap.get? S = some { cls := .type "list", data := .seq acc' c' } → ItemsOf (fun i v => items[items.size - 1 - i]? = some v) acc' items.size → R (.ok (.ret res)) s') :
    wpAny (model prog w) A.in1 (Builtin.List.listExtendWith (.ref S) (.ref it) res) (fun fin s' => match fin with
      | .done f => R (.ok f) s'
      | .again c' => c'.quiet = true ∧ codeAny (model prog w) A c' R s') (fun e s' => R (.error e) s') s := by
  have M9 : S ≠ it := by
    rintro rfl
    obtain ⟨o, e, c, d⟩ := hit
    rw [hS] at e; cases e
    exact absurd (Value.type.inj c) (by decide)
  have ty : s.TypeIs (.ref it) "list_reverseiterator" := by
    obtain ⟨o, e, c, _⟩ := hit
    exact ⟨o, e, c⟩
  have Wk := Walks.toS (Walks.listRev (prog := prog) (w := w) (A := A.in1) (show A.in1.handled = none from hh) it l hne items)
  have key := codeAny_extend_loopS Wk hz S (by simp [M9, Tp]) res items.size 0 (R := R)
  unfold Builtin.List.listExtendWith
  refine wpAny_bind (wpAny_typeOf ty ?_)
  have h1 : Builtin.List.listSameRef (.ref S) (.ref it) = false := by simp [Builtin.List.listSameRef, M9]
  rw [if_neg (by rw [h1]; decide)]
  refine wpAny_bind (wpAny_pyIter_revIter hit ?_)
  refine wpAny_bind (wpAny_holding (Gw hit ?_))
  dsimp only
  split
  · rename_i hs
    exact absurd hs (by decide +kernel)
  · exact wpAny_pure ⟨plainId_quiet F.plain_extend_loop _, key s #[] c₀ rfl (Nat.zero_le _) ⟨Nat.zero_le _, by simpa using hit, hl⟩ hS (ItemsOf.nil _) hR⟩
theorem yr {prog : Program} {w : World} {A : Around} {E : Value → Shared → Prop} {s : Shared} {it l : Addr} {items : Array Value} {Q : Value → Shared → Prop} (hh : A.handled = none) (hit : s.heap.IsRevIter it l ((items.size : Int) - 1)) (hl : s.heap.IsList l items) (hne : l ≠ it) (hz : items.size ≤ sizeLine)
    (hQ : ∀ (h' : Heap) (tk : Nat) (acc' : Array Value) (c' : Nat), (∀ b o, b ≠ it → s.heap.get? b = some o → h'.get? b = some o) → h'.get? s.heap.objs.size = some { cls := .type "list", data := .seq acc' c' } → ItemsOf (fun i v => items[items.size - 1 - i]? = some v) acc' items.size → Q (.ref s.heap.objs.size) { s with heap := h', toks := tk }) :
    wpAny (model prog w) A (call (.type "list") [.ref it]) Q E s := by
  have PK : l < s.heap.objs.size := by obtain ⟨o, e, _⟩ := hl; exact Heap.lt_size e
  have Tq : it < s.heap.objs.size := by obtain ⟨o, e, _⟩ := hit; exact Heap.lt_size e
  refine callType_codes (Q₁ := fun v s1 => v = .ref s.heap.objs.size ∧ s1 = { s with heap := s.heap.push { cls := .type "list", data := .seq #[] } }) F.called_list (F.typeCall_list_1 (.ref it)) F.entry_list_init (code_list_new (.ref it) ⟨rfl, rfl⟩) fun obj s₁ h₁ => ?_
  obtain ⟨rfl, rfl⟩ := h₁
  have hS := Heap.get?_push_size (o := { cls := .type "list", data := .seq #[] }) s.heap rfl
  refine ⟨⟨_, hS, rfl⟩, F.args_list_init_2 (.ref s.heap.objs.size) (.ref it), ?_⟩
  have kp : ∀ b o, s.heap.get? b = some o → (s.heap.push { cls := .type "list", data := .seq #[] }).get? b = some o := fun b o e => Heap.get?_push_of_some _ e
  unfold Builtin.«list.__init__»
  refine wpAny_bind ?_
  unfold Builtin.List.listItems
  refine wpAny_bind (wpAny_seqItems hS rfl (wpAny_pure ?_))
  refine wpAny_bind ?_
  unfold Builtin.List.listUpdate
  refine wpAny_updateSeq hS rfl ?_ (by simp [sizeLine_eq]) (by simp [sizeLine_eq])
  have Tr := Heap.get?_update_self (Obj.mapSeq fun x => #[]) hS rfl
  have A3 : ∀ b o, b ≠ s.heap.objs.size → (s.heap.push { cls := .type "list", data := .seq #[] }).get? b = some o → ((s.heap.push { cls := .type "list", data := .seq #[] }).update s.heap.objs.size (Obj.mapSeq fun x => #[])).get? b = some o := fun b o hb e => (Heap.get?_update_other _ _ (Ne.symm hb)).trans e
  refine wpAny_bind (wpAny_letGo ?_)
  have up : ∀ b o, s.heap.get? b = some o → ((s.heap.push { cls := .type "list", data := .seq #[] }).update s.heap.objs.size (Obj.mapSeq fun x => #[])).get? b = some o := fun b o e => A3 b o (Nat.ne_of_lt (Heap.lt_size e)) (kp b o e)
  refine xr (l := l) (items := items) (show A.in1.handled = none from hh) ?_ ?_ hne hz s.heap.objs.size .none (if ((#[] : Array Value).size == (#[] : Array Value).size) = true then 0 else 0 + 1) ?_ (Nat.ne_of_gt PK) ?_
  · obtain ⟨o, e, r⟩ := hit
    exact ⟨o, up _ _ e, r⟩
  · obtain ⟨o, e, r⟩ := hl
    exact ⟨o, up _ _ e, r⟩
  · exact Tr
  · intro s' acc' c' hm hS' hacc
    rw [Moved.eq_with hm]
    refine ⟨rfl, hQ s'.heap s'.toks acc' c' (fun b o hb e => ?_) hS' hacc⟩
    refine hm.heap b o ?_ (up b o e)
    simp [hb, Nat.ne_of_lt (Heap.lt_size e)]
end L3
end
section
set_option Elab.async false
set_option linter.all false
set_option maxRecDepth 100000
namespace L3
open PySem PySem.Spec L2
section
variable {X : Cx} {EE : ki} {a b c e o : Expr} {es : List Expr} {ma mb mo : DS → M D} {m : DS → M (List D)} {t : DS → M Bool} {ms : MS} {pos p p2 pos2 apos cpos : Pos}
noncomputable def fuel : Nat := 100000
noncomputable def kN (t : DS → M Bool) (ms : MS) : Nat → MS
  | 0 => fun _ _ => .stuck
  | n + 1 => fun τ => fS (t τ) (fun c G => if c = true then (match ms τ G with
      | .nx τ' G' => kN t ms n τ' G'
      | .ct τ' G' => kN t ms n τ' G'
      | .bk τ' G' => .nx τ' G'
      | r => r) else .nx τ G) fun c G => .xn c τ G
theorem HY.imp {H : Hp} {σ : L2.St} {τ : DS} {ρ : List Addr} {r : Out Bool} {Q Q' : Bool → Hp → Prop} (h : HY X.K X.mg EE H σ τ ρ r Q) (i : ∀ b H', Q b H' → Q' b H') : HY X.K X.mg EE H σ τ ρ r Q' := by
  cases r with
  | stuck => exact h
  | ok b G => exact fun H' ρ' f ab => i b H' (h H' ρ' f ab)
  | fL c G => exact h
theorem Gx {n : Nat} {body : List Stmt} (hp : PassesOwn (model X.prog X.w) X.A X.env X.xe) (hc : QT X EE c t) (hb : Et X EE body ms) : QS X EE (.While c body [] pos) (kN t ms n) := PS.mono (Fo hp hc hb) fun Dd σ H h => by
  obtain ⟨τ0, ρ0, G0, Le, Tt⟩ := h
  refine ⟨fun m σ H => ∃ τ ρ G, Ab X.K X.mg σ H τ ρ G ∧ yp X.K X.mg EE H ρ Dd (kN t ms m τ G), ⟨n, τ0, ρ0, G0, Le, Tt⟩, ?_⟩
  rintro m σ H ⟨τ, ρ, G, ab, ok⟩
  cases m with
  | zero => exact ok.elim
  | succ m =>
    obtain ⟨τ1, ρ1, G1, qT, Jw⟩ := FL (k := fun τ c G => if c = true then (match ms τ G with
      | .nx τ' G' => kN t ms m τ' G'
      | .ct τ' G' => kN t ms m τ' G'
      | .bk τ' G' => .nx τ' G'
      | r => r) else .nx τ G) (show oQ X.K X.mg EE (fun τ => fS (t τ) (fun c G => if c = true then (match ms τ G with
      | .nx τ' G' => kN t ms m τ' G'
      | .ct τ' G' => kN t ms m τ' G'
      | .bk τ' G' => .nx τ' G'
      | r => r) else .nx τ G) fun c G => .xn c τ G) Dd σ H from ⟨τ, ρ, G, ab, ok⟩)
    refine ⟨τ1, ρ1, G1, qT, Jw.imp fun b H1 hq => ?_⟩
    obtain ⟨τ2, ρ2, G2, iu, bV⟩ := hq
    cases b with
    | false =>
      rw [if_neg Bool.false_ne_true] at bV ⊢
      exact bV σ H1 ρ2 .refl iu
    | true =>
      rw [if_pos rfl] at bV ⊢
      refine ⟨fun σ' H' => ∃ τ ρ G, Ab X.K X.mg σ' H' τ ρ G ∧ yp X.K X.mg EE H' ρ Dd (kN t ms m τ G), fun σ' H' w => ⟨m, Nat.lt_succ_self _, w⟩, τ2, ρ2, G2, iu, ?_⟩
      cases q : ms τ2 G2 with
      | stuck => rw [q] at bV; exact bV
      | nx τ' G' => rw [q] at bV; exact fun σ' H' ρ' f fC => ⟨τ', ρ', G', fC, bV.fut f⟩
      | ct τ' G' => rw [q] at bV; exact fun σ' H' ρ' f fC => ⟨τ', ρ', G', fC, bV.fut f⟩
      | bk τ' G' => rw [q] at bV; exact bV
      | rt d G' => rw [q] at bV; exact bV
      | xn c τ' G' => rw [q] at bV; exact bV
noncomputable def sE : List D → M D
  | [d] => fun G => match aD G d with
    | some (.lst xs) => fu xs.reverse G
    | _ => .stuck
  | _ => M.stop
theorem xu : bootBuiltins "reversed" = some (.type "reversed") := by decide +kernel
theorem aH.rev {K : PySem.W.Frag} {mg : Str → Option Value} {ρ : List Addr} {H : Hp} : ∀ {ds : List D} {vs : List V}, aH K mg ρ H ds vs → aH K mg ρ H ds.reverse vs.reverse
  | [], vs, h => by unfold aH at h; subst h; exact .nil
  | d :: ds, vs, h => by
    unfold aH at h
    obtain ⟨v, r, rfl, h1, h2⟩ := h
    rw [List.reverse_cons, List.reverse_cons]
    exact (aH.rev h2).append (.cons h1 .nil)
theorem Vals.app : ∀ {xs ys : List V} {us vs : List Value}, Vals xs us → Vals ys vs → Vals (xs ++ ys) (us ++ vs)
  | _, _, _, _, .nil, h => h
  | _, _, _, _, .cons r t, h => .cons r (Vals.app t h)
theorem Vals.rev : ∀ {xs : List V} {us : List Value}, Vals xs us → Vals xs.reverse us.reverse
  | _, _, .nil => .nil
  | _, _, .cons r t => by
    rw [List.reverse_cons, List.reverse_cons]
    exact Vals.app (Vals.rev t) (.cons r .nil)
theorem zm {its : List Value} {acc : Array Value} (h : ItemsOf (fun i v => its.toArray[its.toArray.size - 1 - i]? = some v) acc its.toArray.size) : acc = its.reverse.toArray := by
  obtain ⟨h1, h2⟩ := h
  have hs : its.toArray.size = its.length := by simp
  rw [hs] at h1
  apply Array.ext_getElem?
  intro i
  by_cases hi : i < acc.size
  · have e := h2 i acc[i] (Array.getElem?_eq_getElem hi)
    rw [Array.getElem?_eq_getElem hi, ← e]
    rw [List.getElem?_toArray, List.getElem?_toArray, List.getElem?_reverse (by omega), hs]
  · rw [Array.getElem?_eq_none (by omega), Array.getElem?_eq_none (by simp; omega)]
theorem xw (hc : X.calm = true) (hm1 : X.mg "list" = none) (PL : Gl X "list") (hm2 : X.mg "reversed" = none) (PM : Gl X "reversed") (ha : QA X EE [e] m) (h : aO [e] = true := by rfl) :
    QE X EE (.Call (.Name "list" p) [.Call (.Name "reversed" p2) [e] [] pos2] [] pos) (az sE m) := by
  have h' : fZ e = true ∧ aO [] = true := by simpa [aO] using h
  intro pins s σ H Q I hq
  have hq' := tu (k := fun _ ds => sE ds) hq
  refine wpAny_Call_Name_kw (kK I PL hm1 boot_list ?_ (by decide) (by decide))
  refine PyProof.Rows.callWith_type1 ?_ (dD rfl _ _) (fj (es := []) rfl)
  rw [dD (e := .Call (.Name "reversed" p2) [e] [] pos2) rfl]
  show wpAny _ _ (spliced ((false, eval _ X.env) :: backTo pos (starEach [] X.env))) _ _ s
  refine Calls.spliced_cons ?_
  refine wpAny_Call_Name_kw (kK I PM hm2 xu ?_ (by decide) (by decide))
  refine PyProof.Rows.callWith_type1 (j4 (ha pos2 pins s σ H _ I hq') fun us s1 zY => ?_) (dD h'.1 _ _) (fj (es := []) rfl)
  obtain ⟨vs, H1, I1, r1, τ, ρ, G, ds, ab, rs, ok⟩ := zY
  match ds, ok with
  | [], ok => exact ok.elim
  | _ :: _ :: _, ok => exact ok.elim
  | [d], ok =>
    obtain ⟨x, rfl, rx⟩ := qH rs
    obtain ⟨u, rfl, ru⟩ := vals1 r1
    dsimp only [sE] at ok
    cases q : aD G d with
    | none => rw [q] at ok; exact ok.elim
    | some sk =>
      rw [q] at ok
      cases sk with
      | tup zs => exact ok.elim
      | str z => exact ok.elim
      | lst zs =>
        dsimp only at ok
        obtain ⟨l, ys, rfl, sq, rv⟩ := gY (pins := pins) (σ0 := σ) (s := s1) ab.hp rx q
        cases ru
        obtain ⟨its, vv, pl, hz⟩ := I1.list sq
        have hlen := vv.length
        have hl := pl.isList
        have hlt : l < s1.heap.objs.size := by obtain ⟨_, e, _⟩ := hl; exact Heap.lt_size e
        refine call_reversed_list hl ?_
        refine Calls.spliced_nil ?_
        refine yr (l := l) (items := its.toArray) (show X.A.handled = none from I.ok.hd hc) ⟨_, Heap.get?_push_size _ rfl, rfl, rfl⟩ (hl.push _) (Nat.ne_of_lt hlt) (by simp; omega) fun h' tk acc' c' kp hS hacc => ?_
        have ea := zm hacc
        subst ea
        obtain ⟨hlr, hn⟩ := Ac ab rv.rev ok
        have hsz : (s1.heap.push (revObj l ((its.toArray.size : Int) - 1))).objs.size = s1.heap.objs.size + 1 := Heap.size_push ..
        refine ⟨.ref _, upd H1 _ (.lst ys.reverse), I1.laid (t' := tk) (fun b o e => kp b o (Nat.ne_of_lt (Heap.lt_size e)) (Heap.get?_push_of_some _ e)) ?_ ⟨hlr, its.reverse, c', Vals.rev vv, hS⟩, rfl, hn _ (I1.hok.fresh ?_)⟩
        · show s1.heap.objs.size ≤ (s1.heap.push _).objs.size
          rw [hsz]; omega
        · show s1.heap.objs.size ≤ (s1.heap.push _).objs.size
          rw [hsz]; omega
noncomputable def intsOf : List D → Option (List Int)
  | [] => some []
  | .int b :: r => (intsOf r).map (b :: ·)
  | _ :: _ => none
theorem xx {K : PySem.W.Frag} {mg : Str → Option Value} {ρ : List Addr} {H : Hp} : ∀ {ds : List D} {vs : List V} {us : List Value} {bs : List Int}, aH K mg ρ H ds vs → Vals vs us → intsOf ds = some bs → us.length = bs.length ∧ ∀ (i : Nat) (v : Value), us[i]? = some v → ∃ t, v = Value.int (bs.getD i 0) t
  | [], vs, us, bs, r, v, e => by unfold aH at r; subst r; cases v; cases e; exact ⟨rfl, fun i v h => by simp at h⟩
  | d :: ds, vs, us, bs, r, v, e => by
    unfold aH at r
    obtain ⟨x, r', rfl, h1, h2⟩ := r
    cases v with
    | cons v1 v2 =>
      cases d <;> try (cases e; done)
      rename_i b
      dsimp only [intsOf] at e
      cases q : intsOf ds with
      | none => rw [q] at e; cases e
      | some bs' =>
        rw [q] at e; cases e
        unfold Rep at h1; subst h1
        obtain ⟨t, rfl⟩ := v1
        obtain ⟨hl, hi⟩ := xx h2 v2 q
        refine ⟨by simp [hl], fun i v h => ?_⟩
        cases i with
        | zero => simp at h; exact ⟨t, by simp [h]⟩
        | succ i => obtain ⟨t', e'⟩ := hi i v (by simpa using h); exact ⟨t', by simpa using e'⟩
theorem preSum_eq (bs : List Int) : ∀ n, n ≤ bs.length → preSum (fun i => bs.getD i 0) n = (bs.take n).sum
  | 0, _ => by simp [preSum]
  | n + 1, h => by
    show preSum (fun i => bs.getD i 0) n + bs.getD n 0 = _
    have : bs[n]? = some bs[n] := List.getElem?_eq_getElem (by omega)
    rw [preSum_eq bs n (by omega), ← List.take_append_getElem (show n < bs.length by omega), List.sum_append, List.getD, this]
    rw [List.sum_singleton]
    rfl
noncomputable def Am : List D → M D
  | [d] => fun G => match aD G d with
    | some (.lst xs) => match intsOf xs with
      | some bs => .ok (.int bs.sum) G
      | none => .stuck
    | _ => .stuck
  | _ => M.stop
theorem EL (hc : X.calm = true) : oO X (.builtin "sum") (K3 X EE Am) := by
  intro pins s σ0 H xs us Q I r ⟨σ, τ, ρ, G, ds, ab, rs, ok⟩
  match ds, ok with
  | [], ok => exact ok.elim
  | _ :: _ :: _, ok => exact ok.elim
  | [d], ok =>
    obtain ⟨x, rfl, rx⟩ := qH rs
    obtain ⟨u, rfl, ru⟩ := vals1 r
    dsimp only [Am] at ok
    cases q : aD G d with
    | none => rw [q] at ok; exact ok.elim
    | some sk =>
      rw [q] at ok
      cases sk with
      | tup zs => exact ok.elim
      | str z => exact ok.elim
      | lst zs =>
        dsimp only at ok
        cases qb : intsOf zs with
        | none => rw [qb] at ok; exact ok.elim
        | some bs =>
          rw [qb] at ok
          obtain ⟨p, vs, rfl, sq, rv⟩ := gY (pins := pins) (σ0 := σ0) (s := s) ab.hp rx q
          cases ru
          obtain ⟨its, vv, pl, hz⟩ := I.list sq
          obtain ⟨hlen, hints⟩ := xx rv vv qb
          have hl := pl.isList
          have hlt : p < s.heap.objs.size := by obtain ⟨_, e, _⟩ := hl; exact Heap.lt_size e
          refine call_sum_walkG (wpAny_pyIter_list hl ?_)
          refine ⟨s.heap.objs.size, [s.heap.objs.size, p], [s.heap.objs.size], its.toArray.size, _, _, fun i => bs.getD i 0, rfl, Walks.list (A := X.A.in1) (I.ok.hd hc) _ p (Nat.ne_of_lt hlt) _,
            ⟨⟨_, Heap.get?_push_size _ rfl, rfl, rfl⟩, hl.push _⟩, fun b hb => ?_, fun i v hP => hints i v (by simpa using hP), fun h' tk t' hk => ?_⟩
          · show b < (s.heap.push _).objs.size
            rw [Heap.size_push]
            rcases List.mem_cons.mp hb with rfl | hb
            · exact Nat.lt_succ_self _
            · rw [List.mem_singleton.mp hb]; exact Nat.lt_succ_of_lt hlt
          · rw [show its.toArray.size = bs.length by simpa using hlen, preSum_eq bs _ (Nat.le_refl _), List.take_length]
            exact ⟨.int _, H, I.kept (t' := tk) (CN hk), ⟨_, rfl⟩, ok _ H ρ .refl ab (by unfold Rep; rfl)⟩
noncomputable def DJ : List D → M D
  | [.int i] => M.ret (.int i)
  | [.bl k] => M.ret (.int (if k then 1 else 0))
  | _ => M.stop
theorem EM : oO X (.type "int") (K3 X EE DJ) := by
  intro pins s σ0 H xs us Q I r ⟨σ, τ, ρ, G, ds, ab, Jy, ok⟩
  match ds, ok with
  | [], ok => exact ok.elim
  | d :: _ :: _, ok => cases d <;> exact ok.elim
  | [d], ok =>
    obtain ⟨x, rfl, rx⟩ := qH Jy
    cases d <;> try exact ok.elim
    · rename_i k
      unfold Rep at rx; subst rx
      exact yU pins s σ0 H _ us Q I r (.inr ⟨k, rfl, ok _ H ρ .refl ab (by unfold Rep; rfl)⟩)
    · rename_i i
      unfold Rep at rx; subst rx
      exact yU pins s σ0 H _ us Q I r (.inl ⟨i, rfl, ok _ H ρ .refl ab (by unfold Rep; rfl)⟩)
theorem boot_int : bootBuiltins "int" = some (.type "int") := by decide +kernel
theorem Lk (hm : X.mg "int" = none) (hg : Gl X "int") (ha : QA X EE [e] m) (h : aO [e] = true := by rfl) : QE X EE (.Call (.Name "int" p) [e] [] pos) (az DJ m) := EJ EM hm hg boot_int ha (by decide) (by decide) h
theorem Gy (hc : X.calm = true) (hm : X.mg "sum" = none) (hg : Gl X "sum") (ha : QA X EE [e] m) (h : aO [e] = true := by rfl) : QE X EE (.Call (.Name "sum" p) [e] [] pos) (az Am m) := xq (EL hc) hm hg PyProof.Rows.boot_sum ha (by decide) (by decide) h
end
end L3
end
section
set_option Elab.async false
set_option linter.all false
set_option maxRecDepth 100000
namespace L3
open PySem PySem.Spec L2
theorem DK {X : Cx} {pins : List (Addr × Obj)} {σ : L2.St} {H : Hp} {s : Shared} {h' : Heap} {t' : Nat} {ch : List Addr} (I : Inv X pins σ H s) (k : ∀ b o, b ∉ ch → s.heap.get? b = some o → h'.get? b = some o) (hf : ∀ b ∈ ch, tV X pins H b) : Inv X pins σ H { s with heap := h', toks := t' } := by
  have L7 : ∀ b u, H b = some u → b ∉ ch := fun b u e z => by rw [(hf b z).1] at e; cases e
  refine I.step (g' := s.gens) (d' := s.drawn) (ch := ch) (fun b hb => ⟨(hf b hb).2.2.2.1, (hf b hb).2.1, (hf b hb).2.2.2.2.1, (hf b hb).2.2.2.2.2⟩) (fun b o _ _ hc e _ => k b o hc e) (fun b o _ _ hc e _ => ⟨o.slots, k b o hc e⟩) (fun _ _ _ _ n => n)
    (fun b o hc e => ⟨o, k b o hc e⟩) (fun _ _ e => e) (fun _ _ _ e => e) (fun b ps e => ⟨#[], by rw [e]; simp⟩) (fun m hm => ?_) (fun b u e => ?_) I.bare
  · obtain ⟨o, es, ep, ho, r⟩ := hm
    exact ⟨o, es, ep, k _ o (fun z => (hf _ z).2.1 rfl) ho, r⟩
  · refine (I.hok b u e).stay (fun c v hc q => k c v ?_ q) (fun _ q => q) fun _ _ q => q
    rcases hc with z | z
    · rw [z]; exact L7 b u e
    · exact L7 c _ z
noncomputable abbrev View := DH → Nat → Option (Option D)
noncomputable def JV (K : PySem.W.Frag) (mg : Str → Option Value) (J : It) (vw : View) (H0 : Hp) (ρ0 : List Addr) : Prop :=
  ∀ (i : Nat) (H : Hp) (ρ : List Addr) (G : DH), ir K H0 H ρ0 ρ → ni K mg H ρ G → (vw G i = some none → J.stop i H) ∧
    ∀ d, vw G i = some (some d) → J.go i H ∧ ∀ x H', J.yQ i H x H' → Bs K mg H H' ρ ∧ Rep K mg ρ H' d x
noncomputable def wj (g : uY) (body : MS) (vw : View) : Nat → Nat → MS
  | 0, _ => fun _ _ => .stuck
  | f + 1, i => fun τ G => match vw G i with
    | none => .stuck
    | some none => .nx τ G
    | some (some d) => match g d τ with
      | none => .stuck
      | some τ1 => match body τ1 G with
        | .nx τ2 G2 => wj g body vw f (i + 1) τ2 G2
        | .ct τ2 G2 => wj g body vw f (i + 1) τ2 G2
        | .bk τ2 G2 => .nx τ2 G2
        | r => r
noncomputable abbrev MI := DS → M (Nat × View)
noncomputable def JC (K : PySem.W.Frag) (mg : Str → Option Value) (EE : ki) (mi : MI) : TI := fun σ H R => ∃ τ ρ G, Ab K mg σ H τ ρ G ∧ match mi τ G with
  | .stuck => False
  | .fL c G' => ∀ H' ρ', ir K H H' ρ ρ' → Ab K mg σ H' τ ρ' G' → EE c σ H'
  | .ok (_, vw) G' => ∀ J H' ρ', ir K H H' ρ ρ' → Ab K mg σ H' τ ρ' G' → JV K mg J vw H' ρ' → R J H'
noncomputable def QI (X : Cx) (EE : ki) (tg iter : Expr) (mi : MI) : Prop := PI X tg iter (JC X.K X.mg EE mi)
section
variable {X : Cx} {EE : ki} {tg iter a b : Expr} {g : uY} {mi : MI} {ms : MS} {pos p pc : Pos} {m : DS → M (List D)}
theorem Gz {body : MS} {vw : View} {Dd : Ends} {J : It} {H0 : Hp} {σ0 : L2.St} {ρ0 : List Addr} {G0 : DH} {τ0 : DS} {fuel : Nat} (jv : JV X.K X.mg J vw H0 ρ0)
    (ab : Ab X.K X.mg σ0 H0 τ0 ρ0 G0) (ok : yp X.K X.mg EE H0 ρ0 Dd (wj g body vw fuel 0 τ0 G0)) :
    ∃ W : Nat → Nat → L2.St → Hp → Prop, (∃ m, W 0 m σ0 H0) ∧ ∀ i m σ H, W i m σ H →
      (J.stop i H ∧ Dd.nx σ H) ∨ (J.go i H ∧ ∃ N : L2.St → Hp → Prop, (∀ σ' H', N σ' H' → ∃ m', m' < m ∧ W (i + 1) m' σ' H') ∧ ∀ x H', J.yQ i H x H' → Bo X.K X.mg g x σ H' fun σ2 H2 => oQ X.K X.mg EE body { Dd with nx := N, ct := N, bk := Dd.nx } σ2 H2) := by
  refine ⟨fun i m σ H => ∃ τ ρ G, Ab X.K X.mg σ H τ ρ G ∧ ir X.K H0 H ρ0 ρ ∧ yp X.K X.mg EE H ρ Dd (wj g body vw m i τ G), ⟨fuel, τ0, ρ0, G0, ab, .refl, ok⟩, ?_⟩
  rintro i m σ H ⟨τ, ρ, G, ab, f, ok⟩
  cases m with
  | zero => exact ok.elim
  | succ m =>
    unfold wj at ok
    obtain ⟨j1, j2⟩ := jv i H ρ G f ab.hp
    cases q : vw G i with
    | none => rw [q] at ok; exact ok.elim
    | some od =>
      rw [q] at ok
      cases od with
      | none => exact .inl ⟨j1 q, ok σ H ρ .refl ab⟩
      | some d =>
        dsimp only at ok
        obtain ⟨jg, jy⟩ := j2 d q
        refine .inr ⟨jg, fun σ' H' => ∃ τ' ρ' G', Ab X.K X.mg σ' H' τ' ρ' G' ∧ ir X.K H0 H' ρ0 ρ' ∧ yp X.K X.mg EE H' ρ' Dd (wj g body vw m (i + 1) τ' G'), fun σ' H' z => ⟨m, Nat.lt_succ_self _, z⟩, fun x H' y => ?_⟩
        obtain ⟨⟨fN, hN⟩, rx⟩ := jy x H' y
        replace ok := yp.fut fN ok
        replace ab : Ab X.K X.mg σ H' τ ρ G := ab.fut fN (hN _ ab.hp)
        replace f := f.trans fN
        cases e : g d τ with
        | none => rw [e] at ok; exact ok.elim
        | some τ1 =>
          rw [e] at ok
          dsimp only at ok
          refine ⟨τ, ρ, G, d, τ1, ab, rx, e, fun σ' fC => ⟨τ1, ρ, G, fC, ?_⟩⟩
          cases eb : body τ1 G with
          | stuck => rw [eb] at ok; exact ok
          | nx τ2 G2 => rw [eb] at ok; exact fun σ2 H2 ρ2 f2 iu => ⟨τ2, ρ2, G2, iu, f.trans f2, ok.fut f2⟩
          | ct τ2 G2 => rw [eb] at ok; exact fun σ2 H2 ρ2 f2 iu => ⟨τ2, ρ2, G2, iu, f.trans f2, ok.fut f2⟩
          | bk τ2 G2 => rw [eb] at ok; exact ok
          | rt d G2 => rw [eb] at ok; exact ok
          | xn c τ2 G2 => rw [eb] at ok; exact ok
noncomputable def xy (g : uY) (mi : MI) (body : MS) : MS := fun τ => fS (mi τ) (fun x G => wj g body x.2 x.1 0 τ G) fun c G => .xn c τ G
theorem DL {body : List Stmt} (hp : PassesOwn (model X.prog X.w) X.A X.env X.xe) (hc : X.calm = true) (hi : QI X EE tg iter mi) (hg : QG X tg g) (hb : Et X EE body ms) (hs : qW iter = true := by rfl) :
    QS X EE (.For tg iter body [] pos) (xy g mi ms) := PS.mono (Cy hp hc hi hg hb (oS hs _)) fun Dd σ H h => by
  obtain ⟨τ, ρ, G, ab, ok⟩ := h
  refine ⟨τ, ρ, G, ab, ?_⟩
  dsimp only [xy, fS] at ok
  cases e : mi τ G with
  | stuck => rw [e] at ok; exact ok
  | fL c G' => rw [e] at ok; exact fun H' ρ' f fC => ok σ H' ρ' f fC
  | ok x G' => rw [e] at ok; exact fun J H' ρ' f fC jv => Gz jv fC (ok.fut f)
noncomputable def qY (gO : D → Option (List D)) (ks : List Bool) (tt : DS → M Bool) (te : DS → M D) (n : Nat) (vw : View) : Nat → Nat → DS → DH → Out D
  | 0, _, _, _ => .stuck
  | f + 1, i, τ, G => match vw G i with
    | none => .stuck
    | some none => .ok (.obj n) G
    | some (some d) => match iT gO ks tt te n d τ G with
      | .ok _ G' => qY gO ks tt te n vw f (i + 1) τ G'
      | .fL c G' => .fL c G'
      | .stuck => .stuck
variable {gO : D → Option (List D)} {ow : V → Hp → List V → Prop} {xs : List Str} {ks : List Bool} {tt : DS → M Bool} {te : DS → M D}
theorem EN (hO : pX X.K X.mg ow gO) {Q : VK} {J : It} {vw : View} {H0 : Hp} {σ : L2.St} {ρ0 : List Addr} {G0 : DH} {τ : DS} {fuel : Nat} (jv : JV X.K X.mg J vw H0 ρ0)
    (ab : Ab X.K X.mg σ H0 τ ρ0 G0) (ok : pT X.K X.mg EE H0 σ τ ρ0 (qY gO ks tt te G0.length vw fuel 0 τ (G0 ++ [.lst []])) Q) :
    ∀ D, H0 D = none → ∃ W : Nat → Nat → Hp → Prop, (∃ m, W 0 m (upd H0 D (.lst []))) ∧ ∀ i m H, W i m H →
      (J.stop i H ∧ Q (.ref D) H) ∨ (J.go i H ∧ ∀ x H', J.yQ i H x H' → ∃ vs, ow x H' vs ∧ liftT X.K X.mg (uZ EE σ) tt (vs.map some ++ mask ks σ) H' fun b H2 => if b = true then fR X.K X.mg (uZ EE σ) te (vs.map some ++ mask ks σ) H2 fun v H3 => ∃ ys, H3 D = some (.lst ys) ∧ ys.length < sizeLine ∧ ∃ m', m' < m ∧ W (i + 1) m' (upd H3 D (.lst (ys ++ [v]))) else ∃ m', m' < m ∧ W (i + 1) m' H2) := by
  intro D hD
  have f0 : ir X.K H0 (upd H0 D (.lst [])) ρ0 (ρ0 ++ [D]) := (ju hD ρ0).trans (jh ρ0 D)
  have Le : Ab X.K X.mg σ (upd H0 D (.lst [])) τ (ρ0 ++ [D]) (G0 ++ [.lst []]) := ab.fut f0 (ab.hp.more hD .nil)
  have hn0 : (ρ0 ++ [D])[G0.length]? = some D := by rw [← ab.hp.hl, bg]
  refine ⟨fun i m H => ∃ ρ G, Ab X.K X.mg σ H τ ρ G ∧ ir X.K H0 H ρ0 ρ ∧ ρ[G0.length]? = some D ∧ pT X.K X.mg EE H σ τ ρ (qY gO ks tt te G0.length vw m i τ G) Q,
    ⟨fuel, ρ0 ++ [D], _, Le, f0, hn0, ok.fut f0⟩, ?_⟩
  rintro i m H ⟨ρ, G, ab, f, hn, ok⟩
  cases m with
  | zero => exact ok.elim
  | succ m =>
    unfold qY at ok
    obtain ⟨j1, j2⟩ := jv i H ρ G f ab.hp
    cases q : vw G i with
    | none => rw [q] at ok; exact ok.elim
    | some od =>
      rw [q] at ok
      cases od with
      | none => exact .inl ⟨j1 q, ok _ H ρ .refl ab (by unfold Rep; exact ⟨D, rfl, hn⟩)⟩
      | some d =>
        dsimp only at ok
        obtain ⟨jg, jy⟩ := j2 d q
        refine .inr ⟨jg, fun x H' y => ?_⟩
        obtain ⟨⟨fN, hN⟩, rx⟩ := jy x H' y
        replace ok := pT.fut fN ok
        replace ab : Ab X.K X.mg σ H' τ ρ G := ab.fut fN (hN _ ab.hp)
        replace f := f.trans fN
        refine vf hO (W := fun H3 => ∃ m', m' < m + 1 ∧ ∃ ρ G, Ab X.K X.mg σ H3 τ ρ G ∧ ir X.K H0 H3 ρ0 ρ ∧ ρ[G0.length]? = some D ∧ pT X.K X.mg EE H3 σ τ ρ (qY gO ks tt te G0.length vw m' (i + 1) τ G) Q)
            ab rx hn ?_
        cases e : iT gO ks tt te G0.length d τ G with
        | stuck => rw [e] at ok; exact ok
        | fL c G' => rw [e] at ok; exact ok
        | ok _ G' =>
          rw [e] at ok
          exact fun H3 ρ3 f3 zd => ⟨m, Nat.lt_succ_self _, ρ3, G', zd, f.trans f3, f3.get hn, ok.fut f3⟩
noncomputable def nZ (gO : D → Option (List D)) (ks : List Bool) (mi : MI) (tt : DS → M Bool) (te : DS → M D) : DS → M D := fun τ => (mi τ).bind fun x G => qY gO ks tt te G.length x.2 x.1 0 τ (G ++ [.lst []])
theorem xA (hO : pX X.K X.mg ow gO) {σ : L2.St} {H : Hp} {Q : VK} (h : fR X.K X.mg EE (nZ gO ks mi tt te) σ H Q) :
    zj (JC X.K X.mg EE mi) ks ow (liftT X.K X.mg (uZ EE σ) tt) (fR X.K X.mg (uZ EE σ) te) σ H Q := by
  obtain ⟨τ, ρ, G, ab, ok⟩ := h
  refine ⟨τ, ρ, G, ab, ?_⟩
  dsimp only [nZ, M.bind] at ok
  cases e : mi τ G with
  | stuck => rw [e] at ok; exact ok
  | fL c G' => rw [e] at ok; exact ok
  | ok x G' => rw [e] at ok; exact fun J H' ρ' f fC jv => EN hO jv fC (ok.fut f)
variable {scope : Scope} {elt : Expr} {ifs : List Expr}
theorem GA (hx : pH X EE) (hst : iR X) (S : di X.env.scope X.N scope xs ks) (how : Own X scope xs ks tg ow) (hO : pX X.K X.mg ow gO) (hc : X.calm = true) (ha : QI X EE tg iter mi) (hb : sD X scope xs ifs elt tt te) (hs : qW iter = true := by rfl) :
    QE X EE (.ListComp elt [⟨tg, iter, ifs, 0⟩] scope pos) (nZ gO ks mi tt te) := PE.mono (wL (tt := fun σ => liftT X.K X.mg (uZ EE σ) tt) (te := fun σ => fR X.K X.mg (uZ EE σ) te) hx hst S how hc ha (fun σ cl C pins s0 H0 fp E => hb cl C pins s0 H0 fp E _) (oS hs _)) fun _ _ _ h => xA hO h
theorem GB {y : Str} {i : Nat} {py spos : Pos} (hx : pH X EE) (hst : iR X) (S : di X.env.scope X.N scope xs ks) (how : Own X scope xs ks tg ow) (hO : pX X.K X.mg ow gO) (hc : X.calm = true) (hN : X.N.Nodup) (hl : X.env.scope.names.lookup y = some .local) (ha : QI X EE tg iter mi) (hb : sD X scope xs ifs elt tt te)
    (hsw : swapsWith (.ListComp elt [⟨tg, iter, ifs, 0⟩] scope pos) (some (.Name y py)) spos.line X.env = pure true) (hy : X.N[i]? = some y := by rfl) (hs : qW iter = true := by rfl) :
    QS X EE (.Assign [.Name y py] (.ListComp elt [⟨tg, iter, ifs, 0⟩] scope pos) spos) (dS i (nZ gO ks mi tt te)) :=
  PS.mono (Ir (tt := fun σ => liftT X.K X.mg (uZ EE σ) tt) (te := fun σ => fR X.K X.mg (uZ EE σ) te) hx hst S how hc hN ha hy hl hsw (fun σ cl C pins s0 H0 fp E => hb cl C pins s0 H0 fp E _) (oS hs _)) fun _ _ _ h => Gq (fun _ _ _ h => xA hO h) h
noncomputable def gP (i j : Nat) : uY := fun d τ => match d with
  | .tup [x, y] => some ((τ.set i (some x)).set j (some y))
  | _ => none
theorem An {x y : Str} {i j : Nat} {px py : Pos} {k : Nat} (hc : X.calm = true) (hN : X.N.Nodup) (hx : Loc X.env.scope x) (hy : Loc X.env.scope y) (hfx : X.fn x = true ∨ X.env.scope.names.lookup x = some .local) (Tu : X.fn y = true ∨ X.env.scope.names.lookup y = some .local) (hi : X.N[i]? = some x := by rfl) (hj : X.N[j]? = some y := by rfl) :
    QG X (.Tuple [.Name x px, .Name y py] k pos) (gP i j) := by
  intro pins s σ H v u Q I r ⟨τ, ρ, G, d, τ', ab, rd, e, q⟩
  refine J0 (n := 2) hc (Bb (zS hN hi hx hfx) (Bb (zS hN hj hy Tu) HB)) rfl rfl pins s σ H v u Q I r ?_
  cases d <;> try (cases e; done)
  rename_i ds
  match ds, e with
  | [d1, d2], e =>
    cases e
    unfold Rep at rd
    obtain ⟨a, vs, rfl, sq, rs⟩ := rd
    obtain ⟨v1, v2, rfl, r1, r2⟩ := Ge rs
    exact ⟨a, [v1, v2], rfl, sq, rfl, v1, [v2], rfl, v2, [], rfl, rfl, q _ (Ab.set (Ab.set ab r1) r2)⟩
noncomputable def PN (K : PySem.W.Frag) (a : Addr) : It :=
  ⟨fun i H => ∃ xs x, sf K H a xs ∧ xs[i]? = some x, fun i H y H' => ∃ x p, (∀ xs, sf K H a xs → xs[i]? = some x) ∧ H p = none ∧ y = .ref p ∧ H' = upd H p (.tup [.int i, x]), fun i H => ∃ xs, sf K H a xs ∧ xs.length ≤ i⟩
theorem EO {P : Program} {w : World} {K : PySem.W.Frag} {es : List Expr} {k : Nat} {pt : Pos} (l e it : Addr) (hne : e ≠ it) : Turn P w K (.Tuple es k pt) (PN K l) [e, it] e (fun i h => ∃ old, IsEnum h e it i old ∧ h.IsListIter it l i) where
  mem := by simp
  obj := fun i h ⟨old, st1, st2⟩ b hb => by
    rcases List.mem_cons.mp hb with rfl | hb
    · exact ⟨_, st1, fun v z => by cases z⟩
    · have e : b = it := by simpa using hb
      subst e
      obtain ⟨o, e, c, d⟩ := st2
      exact ⟨o, e, fun v z => by rw [d] at z; cases z⟩
  keep := fun i h h' ⟨old, st1, st2⟩ kp => ⟨old, kp e (by simp) _ st1, st2.at fun o q => kp it (by simp) o q⟩
  item := by
    intro X hP hw hK hc i pins s σ H E I hf ⟨old, st1, st2⟩ hg
    subst hP hw hK
    obtain ⟨xs, x, hq, hx⟩ := hg
    obtain ⟨its, rv, p, hz⟩ := I.list hq
    obtain ⟨u, hu, ru⟩ := rv.get hx
    have PR : e < s.heap.objs.size := Heap.lt_size st1
    have Ll : it < s.heap.objs.size := by obtain ⟨o, q, _⟩ := st2; exact Heap.lt_size q
    refine wpAny_pyNext_enum_item st1 st2 p.isList (x := u) (by simpa using hu) hne fun h' hO hL htup hsz kp => ?_
    refine ⟨.ref s.heap.objs.size, rfl, ?_⟩
    have I1 : Inv X pins σ (upd H s.heap.objs.size (.tup [.int i, x])) { s with heap := s.heap.push { cls := .type "tuple", data := .seq #[.int i s.toks, u] } } :=
      I.laid (t' := s.toks) (fun b o q => Heap.get?_push_of_some _ q) (Nat.le_refl _) ⟨by simp [sizeLine_eq], [.int i s.toks, u], .cons ⟨_, rfl⟩ (.cons ru .nil), PyProof.Rows.IsTup.new _ _⟩
    have hfree := I.hok.fresh (Nat.le_refl s.heap.objs.size)
    have hf1 : ∀ b ∈ [e, it], tV X pins (upd H s.heap.objs.size (.tup [.int i, x])) b := fun b hb => by
      have hlt : b ≠ s.heap.objs.size := by
        rcases List.mem_cons.mp hb with rfl | hb
        · exact Nat.ne_of_lt PR
        · rw [List.mem_singleton.mp hb]; exact Nat.ne_of_lt Ll
      exact ⟨by rw [bQ hlt]; exact (hf b hb).1, (hf b hb).2⟩
    unfold letOwnedTupleGo
    refine wpAny_bind (wpAny_load hO ?_)
    dsimp only
    rw [if_pos (by simp)]
    refine wpAny_bind (wpAny_rule ?_)
    unfold updateField
    refine wpAny_bind (wpAny_load hO ?_)
    dsimp only
    rw [if_pos (by simp)]
    refine wpAny_update hO ?_
    have A3 : ∀ b, b ≠ e → (h'.update e (Obj.mapFields fun x => x.setIfInBounds 0 Value.none)).get? b = h'.get? b := fun b hb => Heap.get?_update_other _ _ (Ne.symm hb)
    refine ⟨.ref s.heap.objs.size, _, DK (t' := s.toks + 1) (s := { s with heap := s.heap.push { cls := .type "tuple", data := .seq #[.int i s.toks, u] } }) (ch := [e, it]) I1 (fun b o hb q => ?_) hf1, rfl, ⟨x, s.heap.objs.size, fun ys hy => by rw [I.wR hy hq]; exact hx, hfree, rfl, rfl⟩, ⟨u, ?_, ?_⟩, fun b hb => (hf1 b hb).1⟩
    · have hb1 : b ≠ e := fun z => hb (by simp [z])
      have hb2 : b ≠ it := fun z => hb (by simp [z])
      show (h'.update e _).get? b = some o
      rw [A3 b hb1]
      by_cases Na : b = s.heap.objs.size
      · subst Na
        have := Heap.get?_push_size (o := { cls := .type "tuple", data := .seq #[.int (i : Int) s.toks, u] }) s.heap rfl
        rw [this] at q; cases q
        exact htup
      · have q' : (s.heap.push { cls := .type "tuple", data := .seq #[.int (i : Int) s.toks, u] }).get? b = some o := q
        refine kp b o hb1 hb2 ?_
        rwa [Heap.get?_push_ne _ _ _ Na] at q'
    · show (h'.update e _).get? e = _
      rw [Heap.get?_update_self _ hO rfl]
      rfl
    · exact hL.at fun o q => (A3 it (Ne.symm hne)).trans q
  done := by
    intro X hP hw hK hc i pins s σ H E I hf ⟨old, st1, st2⟩ hg
    subst hP hw hK
    obtain ⟨xs, hq, hx⟩ := hg
    obtain ⟨its, rv, p, hz⟩ := I.list hq
    obtain ⟨f0, f1, f2, f3, f4, f5⟩ := hf it (by simp)
    have hl := rv.length
    exact wpAny_pyNext_enum_end (I.ok.hd hc) st1 st2 p.isList (by simp; omega) fun h' eb => ⟨rfl, I.turned (t' := s.toks) (fun b o hb e => eb b o hb e) f0 f1 f3 f4 f5⟩
  self := fun _ _ _ _ _ ⟨old, st1, _⟩ h => wpAny_pyIter_enum st1 h
noncomputable def t9 (d : D) : View := fun G i => match aD G d with
  | some (.lst xs) => some (xs[i]?.map fun x => .tup [.int i, x])
  | _ => none
noncomputable def Bw (m : DS → M (List D)) : MI := fun τ => (m τ).bind fun ds => match ds with
  | [d] => fun G => match aD G d with
    | some (.lst xs) => .ok (xs.length + 1, t9 d) G
    | _ => .stuck
  | _ => M.stop
theorem zo : bootBuiltins "enumerate" = some (.type "enumerate") := by decide +kernel
theorem IA {K : PySem.W.Frag} {mg : Str → Option Value} {H0 : Hp} {ρ0 : List Addr} {G0 : DH} {d : D} {l : Addr} (r : Rep K mg ρ0 H0 d (.ref l)) (hd : ∃ xs, aD G0 d = some (.lst xs)) : JV K mg (PN K l) (t9 d) H0 ρ0 := by
  intro i H ρ G f hp
  have key : ∀ zs, aD G d = some (.lst zs) → ∃ xs, sf K H l xs ∧ aH K mg ρ H zs xs := fun zs q => by
    have r' := Rep.mono f d _ r
    cases d with
    | con ws =>
      cases q
      unfold Rep at r'
      obtain ⟨a, xs, e, sq, rs⟩ := r'
      cases e
      exact ⟨xs, sq.seq, rs⟩
    | obj n =>
      unfold aD at q
      dsimp only at q
      unfold Rep at r'
      obtain ⟨a, e, e1⟩ := r'
      cases e
      cases g : G[n]? with
      | none => rw [g] at q; cases q
      | some o =>
        cases o with
        | dead => first | (rw [q] at ok; exact ok.elim) | (rw [q] at bV; exact bV.elim) | (rw [q] at e; cases e; done) | (rw [g] at ok; exact ok.elim) | (rw [g] at q; cases q; done) | (rw [g] at h; cases h; done) | (rw [g2] at ok; exact ok.elim) | (rw [g1, g2] at ok; exact ok.elim) | (rw [q1] at ok; exact ok.elim) | exact ok.elim
        | dct kv => first | (rw [q] at ok; exact ok.elim) | (rw [q] at bV; exact bV.elim) | (rw [q] at e; cases e; done) | (rw [g] at ok; exact ok.elim) | (rw [g] at q; cases q; done) | (rw [g] at h; cases h; done) | (rw [g2] at ok; exact ok.elim) | (rw [g1, g2] at ok; exact ok.elim) | (rw [q1] at ok; exact ok.elim) | exact ok.elim
        | lst ws =>
          rw [g] at q; cases q
          obtain ⟨a', xs, e2, h2, rs⟩ := hp.lst g
          rw [e1] at e2; cases e2
          exact ⟨xs, .of h2, rs⟩
    | tup ws => cases q
    | str z => cases q
    | _ => cases q
  unfold t9
  cases q : aD G d with
  | none => exact ⟨fun e => (by cases e), fun x e => (by cases e)⟩
  | some sk =>
    cases sk with
    | tup zs => exact ⟨fun e => (by cases e), fun x e => (by cases e)⟩
    | str z => exact ⟨fun e => (by cases e), fun x e => (by cases e)⟩
    | lst zs =>
      obtain ⟨xs, sq, rs⟩ := key zs q
      dsimp only
      constructor
      · intro e
        cases qi : zs[i]? with
        | some z => rw [qi] at e; cases e
        | none => exact ⟨xs, sq, by rw [← rs.length]; exact List.getElem?_eq_none_iff.mp qi⟩
      · intro dd e
        cases qi : zs[i]? with
        | none => rw [qi] at e; cases e
        | some z =>
          rw [qi] at e; cases e
          obtain ⟨v, ev, rv⟩ := rs.get qi
          refine ⟨⟨xs, v, sq, ev⟩, fun y H' hy => ?_⟩
          obtain ⟨v', p, ev', hp0, rfl, rfl⟩ := hy
          have ev' := ev' xs sq
          rw [ev] at ev'; cases ev'
          refine ⟨Bs.new hp0, ?_⟩
          unfold Rep
          refine ⟨p, [.int i, v], rfl, .inl (.inl g9), .cons (by unfold Rep; rfl) (.cons (Rep.mono (ju hp0 ρ) _ _ rv) .nil)⟩
theorem IB {es : List Expr} {k : Nat} {pt : Pos} (hm : X.mg "enumerate" = none) (zg : Gl X "enumerate") (ha : QA X EE [a] m) (h : aO [a] = true := by rfl) : QI X EE (.Tuple es k pt) (.Call (.Name "enumerate" p) [a] [] pc) (Bw m) := by
  have h' : fZ a = true ∧ aO [] = true := by simpa [aO] using h
  intro pins s σ H R I hq
  obtain ⟨τ, ρ, G, ab, ok⟩ := hq
  dsimp only [Bw, M.bind] at ok
  refine wpAny_Call_Name_kw (kK I zg hm zo ?_ (by decide) (by decide))
  have hA : qS X.K X.mg EE m σ H fun vs H1 => ∃ ρ1 G1 ds, Ab X.K X.mg σ H1 τ ρ1 G1 ∧ ir X.K H H1 ρ ρ1 ∧ aH X.K X.mg ρ1 H1 ds vs ∧ m τ G = .ok ds G1 := by
    refine ⟨τ, ρ, G, ab, ?_⟩
    cases e : m τ G with
    | stuck => rw [e] at ok; exact ok
    | fL c G' => rw [e] at ok; exact ok
    | ok ds G' => exact fun vs H' ρ' f fC r => ⟨ρ', G', ds, fC, f, r, rfl⟩
  refine PyProof.Rows.callWith_type1 (j4 (ha pc pins s σ H _ I hA) fun us s1 zY => ?_) (dD h'.1 _ _) (fj (es := []) rfl)
  obtain ⟨vs, H1, I1, r1, ρ1, G1, ds, qT, f1, rs, em⟩ := zY
  rw [em] at ok
  dsimp only at ok
  match ds, rs, ok with
  | [], _, ok => exact ok.elim
  | _ :: _ :: _, _, ok => exact ok.elim
  | [d], rs, ok =>
    obtain ⟨x, rfl, rx⟩ := qH rs
    obtain ⟨u, rfl, ru⟩ := vals1 r1
    dsimp only at ok
    cases q : aD G1 d with
    | none => rw [q] at ok; exact ok.elim
    | some sk =>
      rw [q] at ok
      cases sk with
      | tup zs => exact ok.elim
      | str z => exact ok.elim
      | lst zs =>
        dsimp only at ok
        obtain ⟨l, ys, rfl, sq, rv⟩ := gY (pins := pins) (σ0 := σ) (s := s1) qT.hp rx q
        cases ru
        obtain ⟨its, vv, pl, hz⟩ := I1.list sq
        refine call_enumerate_list pl.isList fun h2 hE hL hsz kp => ?_
        refine wpAny_pyIter_enum hE ?_
        have I2 : Inv X pins σ H1 { s1 with heap := h2 } := I1.kept (t' := s1.toks) kp
        refine ⟨s1.heap.objs.size + 1, [s1.heap.objs.size + 1, s1.heap.objs.size], _, PN X.K l, H1, rfl, I2, EO l _ _ (Nat.succ_ne_self _), ⟨_, hE, hL⟩, fun b hb => ?_, ok _ H1 ρ1 f1 qT (IA rx ⟨zs, q⟩)⟩
        rcases List.mem_cons.mp hb with rfl | hb
        · exact I1.yl (Nat.le_succ _) (I1.hok.fresh (Nat.le_succ _))
        · rw [List.mem_singleton.mp hb]
          exact I1.yl (Nat.le_refl _) (I1.hok.fresh (Nat.le_refl _))
end
end L3
end
section
set_option Elab.async false
set_option linter.all false
set_option maxRecDepth 100000
namespace L3
open PySem PySem.Spec L2
theorem lz {n : Nat} (h : n ≤ 2000000) : n ≤ sizeLine := by rw [sizeLine_eq]; omega
theorem JD (A : DH) (x : DO) (B : DH) : (A ++ x :: B)[A.length]? = some x := by simp
theorem Nb (A : DH) (x y : DO) (B : DH) : (A ++ x :: y :: B)[A.length + 1]? = some y := by
  rw [List.getElem?_append_right (by omega)]; simp
theorem IC (A : DH) (x y : DO) (B : DH) : (A ++ x :: B).set A.length y = A ++ y :: B := by
  rw [List.set_append_right _ _ (Nat.le_refl _)]; simp
theorem Rn (A : DH) (x y z : DO) (B : DH) : (A ++ x :: y :: B).set (A.length + 1) z = A ++ x :: z :: B := by
  rw [List.set_append_right _ _ (by omega)]; simp
theorem iB (g : Bool) (i j : Int) (G : DH) : j5 g (.int i) (.int j) G = .ok (.bl (g ^^ (i == j))) G := by
  simp [j5, Bj, qF, PyData.canLay0, PyData.depth, PyData.eqv]
theorem pZ (g : Bool) (a b : Str) (G : DH) (ha : PyData.strOk a = true) (hb : PyData.strOk b = true) : j5 g (.str a) (.str b) G = .ok (.bl (g ^^ (a == b))) G := by
  simp [j5, Bj, qF, PyData.canLay0, PyData.depth, PyData.eqv, ha, hb]
theorem vS (G : DH) : ∀ ws : List Str, iy (qF G deep) (ws.map D.str) = some (ws.map PyData.str)
  | [] => rfl
  | w :: ws => by
    have ih := vS G ws
    simp only [List.map_cons, iy, ih]
    rfl
theorem GC (t : Str) (ws : List Str) (G : DH) (h : PyData.strOk t = true) (hw : PyData.canLayAll0 (ws.map PyData.str) = true) : Ju (.str t) (ws.map D.str) G = some (ws.any (· == t)) := by
  have e1 : qF G deep (.str t) = some (.str t) := rfl
  unfold Ju
  rw [e1, vS]
  dsimp only
  have c1 : (PyData.str t).canLay0 = true := by simpa [PyData.canLay0] using h
  have c3 : min (PyData.depthAll (ws.map PyData.str)) (PyData.str t).depth ≤ 580 := by
    have : (PyData.str t).depth ≤ 580 := by simp [PyData.depth]
    omega
  rw [if_pos (by rw [c1, hw]; simpa using c3)]
  simp only [List.any_map]
  congr 1
theorem good_add {a b : Str} (ha : PyData.strOk a = true) (hb : PyData.strOk b = true) : PyData.strOk (a ++ b) = true := by
  have e : (a ++ b).cps = a.cps ++ b.cps := rfl
  unfold PyData.strOk at *
  rw [e, Array.all_append, ha, hb]; rfl
theorem Ao (a b : Str) : (a ++ b).length = a.length + b.length := by
  show (a.cps ++ b.cps).size = a.cps.size + b.cps.size
  simp
theorem xB {α : Type} {xs : List α} {i : Int} (h0 : 0 ≤ i) (h1 : i < xs.length) : ∃ v, tS xs i = some v ∧ xs[i.toNat]? = some v := by
  have hi : i.toNat < xs.length := by omega
  refine ⟨xs[i.toNat], ?_, List.getElem?_eq_getElem hi⟩
  have := lW (xs := xs) (j := i.toNat) (v := xs[i.toNat]) (List.getElem?_eq_getElem hi)
  rwa [show ((i.toNat : Nat) : Int) = i by omega] at this
theorem Lm (z : Str) (i : Int) (G : DH) (h0 : 0 ≤ i) (h1 : i < z.length) (hz : z.length ≤ 1000) (hok : PyData.strOk z = true) : ∃ s, fD (.str z) (.int i) G = .ok (.str s) G ∧ PyData.strOk s = true ∧ s.length = 1 := by
  have hs : z.length ≤ sizeLine := lz (by omega)
  have hl : z.length = z.cps.toList.length := by simp [Str.length]
  have hi : i.toNat < z.cps.toList.length := by omega
  obtain ⟨c, e, ec⟩ := xB (xs := z.cps.toList) (i := i) h0 (by omega)
  refine ⟨⟨#[c]⟩, ?_, ?_, rfl⟩
  · simp only [fD, aD, if_pos hs, e]
  · have h2 : z.cps.toList.all (· < 0x110000) = true := by simpa [PyData.strOk] using hok
    have := List.all_eq_true.mp h2 _ (List.mem_of_getElem? ec)
    simpa [PyData.strOk] using this
theorem p5 {j : Int} (h0 : 0 ≤ j) (h1 : j < 100000) : kJ [.int j] = some ((List.range' 0 j.toNat).map fun (k : Nat) => .int (0 + (k : Int))) := by
  show (if -(2 ^ 62) ≤ j ∧ j < 2 ^ 62 then some ((List.range j.toNat).map fun (k : Nat) => D.int (0 + (k : Int))) else none) = _
  rw [if_pos ⟨by omega, by omega⟩, List.range_eq_range']
end L3
end
section
set_option Elab.async false
set_option linter.all false
set_option maxRecDepth 100000
namespace L3
open PySem PySem.Spec L2
noncomputable def Res.sq (r : Res) (k : MS) : Res := match r with
  | .nx τ G => k τ G
  | r => r
noncomputable def Out.cs (r : Out Bool) (a b : MS) (τ : DS) : Res := match r with
  | .stuck => .stuck
  | .ok c G => if c = true then a τ G else b τ G
  | .fL c G => .xn c τ G
noncomputable def Out.st (r : Out D) (i : Nat) (τ : DS) : Res := match r with
  | .stuck => .stuck
  | .ok d G => .nx (τ.set i (some d)) G
  | .fL c G => .xn c τ G
noncomputable def Out.xp (r : Out D) (τ : DS) : Res := match r with
  | .stuck => .stuck
  | .ok d G => .nx τ G
  | .fL c G => .xn c τ G
noncomputable def Out.rn (r : Out D) (τ : DS) : Res := match r with
  | .stuck => .stuck
  | .ok d G => .rt d G
  | .fL c G => .xn c τ G
noncomputable def Out.bd {α β : Type} (r : Out α) (k : α → M β) : Out β := match r with
  | .stuck => .stuck
  | .ok a G => k a G
  | .fL c G => .fL c G
noncomputable def Out.sb {α : Type} (r : Out α) (τ : DS) (k : α → DH → Res) : Res := match r with
  | .stuck => .stuck
  | .ok a G => k a G
  | .fL c G => .xn c τ G
noncomputable def Res.fn (r : Res) : Out D := match r with
  | .stuck => .stuck
  | .nx _ G' => .ok .lG G'
  | .rt d G' => .ok d G'
  | .bk _ _ => .stuck
  | .ct _ _ => .stuck
  | .xn c _ G' => .fL c G'
noncomputable def Res.lp (r : Res) (k : MS) : Res := match r with
  | .nx τ G => k τ G
  | .ct τ G => k τ G
  | .bk τ G => .nx τ G
  | r => r
noncomputable def PU (m k : MS) : MS := fun τ G => (m τ G).lp k
section
variable {m k : MS} {t ta tb : DS → M Bool} {a b : MS} {τ : DS} {G : DH} {e ma mb mo : DS → M D} {i n : Nat} {d : D} {c : XD} {α β : Type} {ml : DS → M (List D)} {f : D → D → M D} {fl : List D → M D}
theorem aN : cT m k τ G = (m τ G).sq k := by
  unfold cT Res.sq
  cases m τ G <;> rfl
theorem bR : (Res.nx τ G).sq k = k τ G := Eq.trans rfl rfl
theorem dG : (Res.rt d G).sq k = .rt d G := Eq.trans rfl rfl
theorem gg : Res.stuck.sq k = .stuck := Eq.trans rfl rfl
theorem gh : (Res.bk τ G).sq k = .bk τ G := Eq.trans rfl rfl
theorem gi : (Res.ct τ G).sq k = .ct τ G := Eq.trans rfl rfl
theorem gj : (Res.xn c τ G).sq k = .xn c τ G := Eq.trans rfl rfl
theorem cH : tT t a b τ G = (t τ G).cs a b τ := by
  unfold tT fS Out.cs
  cases t τ G <;> rfl
theorem gb : (Out.ok true G).cs a b τ = a τ G := Eq.trans rfl rfl
theorem gC : (Out.ok false G).cs a b τ = b τ G := Eq.trans rfl rfl
theorem jR : (Out.fL c G).cs a b τ = .xn c τ G := Eq.trans rfl rfl
theorem aU : dS i e τ G = (e τ G).st i τ := by
  unfold dS fS Out.st
  cases e τ G <;> rfl
theorem bZ : (Out.ok d G).st i τ = .nx (τ.set i (some d)) G := Eq.trans rfl rfl
theorem jS : (Out.fL c G).st i τ = .xn c τ G := Eq.trans rfl rfl
theorem bO : qG e τ G = (e τ G).xp τ := by
  unfold qG fS Out.xp
  cases e τ G <;> rfl
theorem fk : (Out.ok d G).xp τ = .nx τ G := Eq.trans rfl rfl
theorem jT : (Out.fL c G).xp τ = .xn c τ G := Eq.trans rfl rfl
theorem bF : jk e τ G = (e τ G).rn τ := by
  unfold jk fS Out.rn
  cases e τ G <;> rfl
theorem cV : (Out.ok d G).rn τ = .rt d G := Eq.trans rfl rfl
theorem jU : (Out.fL c G).rn τ = .xn c τ G := Eq.trans rfl rfl
theorem aV : ia τ G = .nx τ G := Eq.trans rfl rfl
theorem cB : MJ τ G = .rt .lG G := Eq.trans rfl rfl
theorem aE {x : α} {q : α → M β} : (Out.ok x G).bd q = q x G := Eq.trans rfl rfl
theorem jV {q : α → M β} : (Out.fL c G).bd q = .fL c G := Eq.trans rfl rfl
theorem jW {q : α → M β} : (Out.stuck (α := α)).bd q = .stuck := Eq.trans rfl rfl
theorem aj {mm : M α} {q : α → M β} : M.bind mm q G = (mm G).bd q := by
  unfold M.bind Out.bd
  cases mm G <;> rfl
theorem aK {x : α} : M.ret x G = .ok x G := Eq.trans rfl rfl
theorem dM : (M.stop (α := α)) G = .stuck := Eq.trans rfl rfl
theorem ay : ai i τ G = match τ[i]? with
  | some (some d) => .ok d G
  | _ => .stuck := Eq.trans rfl rfl
theorem cO : eC d τ G = .ok d G := Eq.trans rfl rfl
theorem aP : aG f ma mb τ G = (ma τ G).bd fun x => (mb τ).bind fun y => f x y := aj
theorem aC : az fl ml τ G = (ml τ G).bd fl := aj
theorem aB : ao τ G = .ok [] G := Eq.trans rfl rfl
theorem aq : af ma ml τ G = (ma τ G).bd fun x => (ml τ).bind fun xs => M.ret (x :: xs) := aj
noncomputable def Nc : D → M Bool
  | .bl b => M.ret b
  | _ => M.stop
theorem bM : j3 e τ G = (e τ G).bd Nc := by
  unfold j3
  rw [aj]
  unfold Out.bd
  cases e τ G <;> try rfl
theorem aM {b : Bool} : Nc (.bl b) G = .ok b G := Eq.trans rfl rfl
theorem bu {q : D → M Bool} : w6 q e τ G = (e τ G).bd q := aj
theorem ck : FT t τ G = (t τ G).bd fun c => M.ret (!c) := aj
theorem dm : CL ta tb τ G = (ta τ G).bd fun c => if c = true then M.ret true else tb τ := aj
theorem bH : mG ta tb τ G = (ta τ G).bd fun c => if c = true then tb τ else M.ret false := aj
theorem dH {y : Ty} : Il y e τ G = (e τ G).bd (iH y) := aj
theorem aL {mf : List D → M D} : br n mf ml τ G = (ml τ G).bd fun ds => if ds.length = n then mf ds else M.stop := aj
theorem aX {T : String} {g : D → List D → M D} : ja T g mo ml τ G = (mo τ G).bd fun d G => if bU T G d = true then (ml τ G).bd (g d) else .stuck := by
  unfold ja
  rw [aj]
  unfold Out.bd
  cases mo τ G with
  | stuck => rfl
  | fL c G => rfl
  | ok d G' => simp only [aj]; rfl
theorem gk : SM t ma mb τ G = (t τ G).bd fun c => if c = true then ma τ else mb τ := aj
theorem aQ {Ef : List D → Option (List D)} {g : uY} {body : MS} : ny Ef g ml body τ G = (ml τ G).sb τ fun ds G => match Ef ds with
    | some xs => fY g body xs τ G
    | none => .stuck := by
  unfold ny fS Out.sb
  cases ml τ G <;> rfl
theorem bw {g : uY} {body : MS} : qU g e body τ G = (e τ G).sb τ fun d G => match d with
    | .obj n => match G[n]? with
      | some (.lst xs) => Ag g body n (xs.length + 1) 0 τ G
      | _ => .stuck
    | .tup xs => fY g body xs τ G
    | .con xs => fY g body xs τ G
    | .str z => fY g body (z.cps.toList.map fun c => .str ⟨#[c]⟩) τ G
    | _ => .stuck := by
  unfold qU fS Out.sb
  cases e τ G <;> rfl
theorem cu {g : uY} {mi : MI} {body : MS} : xy g mi body τ G = (mi τ G).sb τ fun x G => wj g body x.2 x.1 0 τ G := by
  unfold xy fS Out.sb
  cases mi τ G <;> rfl
theorem fy {x : α} {q : α → DH → Res} : (Out.ok x G).sb τ q = q x G := Eq.trans rfl rfl
theorem jX {q : α → DH → Res} : (Out.fL c G).sb τ q = .xn c τ G := Eq.trans rfl rfl
theorem bP {gO : D → Option (List D)} {ks : List Bool} {tt : DS → M Bool} {te : DS → M D} : kM gO ks e tt te τ G = (e τ G).bd fun d G => match d with
    | .obj k => match G[k]? with
      | some (.lst xs) => vR gO ks tt te G.length k (xs.length + 1) 0 τ (G ++ [.lst []])
      | _ => .stuck
    | .tup xs => gf gO ks tt te G.length xs τ (G ++ [.lst []])
    | .con xs => gf gO ks tt te G.length xs τ (G ++ [.lst []])
    | .str z => gf gO ks tt te G.length (z.cps.toList.map fun c => .str ⟨#[c]⟩) τ (G ++ [.lst []])
    | _ => .stuck := aj
theorem aZ {Ef : List D → Option (List D)} {gO : D → Option (List D)} {ks : List Bool} {tt : DS → M Bool} {te : DS → M D} : gK Ef gO ks ml tt te τ G = (ml τ G).bd fun ds G => match Ef ds with
    | some xs => gf gO ks tt te G.length xs τ (G ++ [.lst []])
    | none => .stuck := aj
theorem bx {gO : D → Option (List D)} {ks : List Bool} {mi : MI} {tt : DS → M Bool} {te : DS → M D} : nZ gO ks mi tt te τ G = (mi τ G).bd fun x G => qY gO ks tt te G.length x.2 x.1 0 τ (G ++ [.lst []]) := aj
theorem bJ {ds : List D} : iG n m ds G = (m (ds.map some ++ List.replicate (n - ds.length) none) G).fn := by
  unfold iG Res.fn
  cases m (ds.map some ++ List.replicate (n - ds.length) none) G <;> rfl
theorem gm : (Res.nx τ G).fn = .ok .lG G := Eq.trans rfl rfl
theorem cW : (Res.rt d G).fn = .ok d G := Eq.trans rfl rfl
theorem jY : (Res.xn c τ G).fn = .fL c G := Eq.trans rfl rfl
theorem eS {lo hi : DS → M (Option Int)} : oH e lo hi τ G = (e τ G).bd fun d => (lo τ).bind fun l => (hi τ).bind fun h => DB d l h := aj
theorem bz : dQ τ G = .ok none G := Eq.trans rfl rfl
noncomputable def JE : D → M (Option Int)
  | .int i => M.ret (some i)
  | _ => M.stop
theorem bA : dF e τ G = (e τ G).bd JE := by
  unfold dF
  rw [aj]
  unfold Out.bd
  cases e τ G <;> try rfl
theorem bB {i : Int} : JE (.int i) G = .ok (some i) G := Eq.trans rfl rfl
noncomputable def Nd : D → M D
  | .int i => M.ret (.int (-i))
  | _ => M.stop
theorem cQ : kL e τ G = (e τ G).bd Nd := by
  unfold kL
  rw [aj]
  unfold Out.bd
  cases e τ G <;> try rfl
theorem cR {i : Int} : Nd (.int i) G = .ok (.int (-i)) G := Eq.trans rfl rfl
theorem cC : Bw ml τ G = (ml τ G).bd fun ds => match ds with
  | [d] => fun G => match aD G d with
    | some (.lst xs) => .ok (xs.length + 1, t9 d) G
    | _ => .stuck
  | _ => M.stop := aj
theorem bC {A1 : Str → Option (List D → M D)} : vh i n A1 ml τ G = match τ[i]? with
  | some (some (.fn y)) => match A1 y with
    | some mf => br n mf ml τ G
    | none => .stuck
  | _ => .stuck := Eq.trans rfl rfl
theorem fT : PU m k τ G = (m τ G).lp k := Eq.trans rfl rfl
theorem dR : (Res.nx τ G).lp k = k τ G := Eq.trans rfl rfl
theorem gn : (Res.ct τ G).lp k = k τ G := Eq.trans rfl rfl
theorem gp : (Res.bk τ G).lp k = .nx τ G := Eq.trans rfl rfl
theorem gq : (Res.rt d G).lp k = .rt d G := Eq.trans rfl rfl
theorem gr : (Res.xn c τ G).lp k = .xn c τ G := Eq.trans rfl rfl
theorem bh : kN t m (n + 1) τ G = (t τ G).cs (PU m (kN t m n)) ia τ := by
  rw [kN]
  unfold fS Out.cs
  dsimp only
  cases t τ G with
  | stuck => rfl
  | fL c G => rfl
  | ok b G' =>
    cases b with
    | false => rfl
    | true =>
      simp only [if_true]
      unfold PU Res.lp
      cases m τ G' <;> rfl
theorem Bx {g : uY} {body : MS} : fY g body [] τ G = .nx τ G := Eq.trans rfl rfl
theorem iJ {g : uY} {body : MS} {x : D} {r : List D} {τ1 : DS} (h : g x τ = some τ1) : fY g body (x :: r) τ G = (body τ1 G).lp (fY g body r) := by
  rw [fY, h]
  dsimp only
  unfold Res.lp
  cases body τ1 G <;> rfl
end
end L3
end
section
set_option Elab.async false
set_option linter.all false
set_option maxRecDepth 100000
namespace L3
open PySem PySem.Spec L2
end L3
end
section
set_option Elab.async false
set_option linter.all false
set_option maxRecDepth 100000
namespace L3
open PySem PySem.Spec L2
section
variable {m k mb me : MS} {τ : DS} {G : DH} {e : DS → M D} {c : XD} {x : Str} {ml : DS → M (List D)} {d : D}
theorem bK : Gj x ml τ G = (ml τ G).sb τ fun ds G => if ds.length ≤ sizeLine then .xn (.mk x ds) τ G else .stuck := by
  unfold Gj fS Out.sb
  cases ml τ G <;> rfl
theorem gu {f : D → M D} : To f e τ G = (e τ G).bd f := aj
noncomputable def Res.tr (r : Res) (mh : XD → MS) (me : MS) : Res := match r with
  | .nx τ' G' => me τ' G'
  | .xn c τ' G' => mh c τ' G'
  | r => r
end
end L3
end
section
set_option Elab.async false
set_option linter.all false
set_option maxRecDepth 100000
namespace L3
open PySem PySem.Spec L2
mutual
noncomputable def D.closed : D → Bool
  | .tup ds => aW ds
  | .con ds => aW ds
  | .obj _ => false
  | .zc _ _ => false
  | _ => true
noncomputable def aW : List D → Bool
  | [] => true
  | d :: r => d.closed && aW r
end
mutual
noncomputable def D.beq : D → D → Bool
  | .lG, .lG => true
  | .bl a, .bl b => a == b
  | .int a, .int b => a == b
  | .str a, .str b => a == b
  | .tup a, .tup b => vj a b
  | .con a, .con b => vj a b
  | .obj a, .obj b => a == b
  | .fn a, .fn b => a == b
  | .zc a x, .zc b y => a == b && vj x y
  | _, _ => false
noncomputable def vj : List D → List D → Bool
  | [], [] => true
  | a :: r, b :: q => a.beq b && vj r q
  | _, _ => false
end
noncomputable def Aq : List (Key × D) → List (Key × D) → Bool
  | [], [] => true
  | a :: r, b :: q => decide (a.1 = b.1) && a.2.beq b.2 && Aq r q
  | _, _ => false
noncomputable def DO.beq : DO → DO → Bool
  | .lst a, .lst b => vj a b
  | .dead, .dead => true
  | .dct a, .dct b => Aq a b
  | _, _ => false
noncomputable def oJ : DH → DH → Bool
  | [], [] => true
  | a :: r, b :: q => a.beq b && oJ r q
  | _, _ => false
mutual
theorem D.beq_eq : ∀ (a b : D), a.beq b = true → a = b
  | .lG, b, h => by cases b <;> simp_all [D.beq]
  | .bl a, b, h => by cases b <;> simp_all [D.beq]
  | .int a, b, h => by cases b <;> simp_all [D.beq]
  | .str a, b, h => by cases b <;> simp_all [D.beq]
  | .tup a, b, h => by
    cases b <;> try (simp [D.beq] at h; done)
    rename_i y
    rw [ua a y (by simpa [D.beq] using h)]
  | .con a, b, h => by
    cases b <;> try (simp [D.beq] at h; done)
    rename_i y
    rw [ua a y (by simpa [D.beq] using h)]
  | .obj a, b, h => by cases b <;> simp_all [D.beq]
  | .fn a, b, h => by cases b <;> simp_all [D.beq]
  | .zc c x, b, h => by
    cases b <;> try (simp [D.beq] at h; done)
    rename_i d y
    have h' : c = d ∧ vj x y = true := by simpa [D.beq] using h
    rw [h'.1, ua x y h'.2]
theorem ua : ∀ (a b : List D), vj a b = true → a = b
  | [], b, h => by cases b <;> simp_all [vj]
  | x :: r, b, h => by
    cases b with
    | nil => simp [vj] at h
    | cons y q =>
      have h' : x.beq y = true ∧ vj r q = true := by simpa [vj] using h
      rw [D.beq_eq x y h'.1, ua r q h'.2]
end
mutual
theorem D.By : ∀ (a : D), a.beq a = true
  | .lG => rfl
  | .bl a => by simp [D.beq]
  | .int a => by simp [D.beq]
  | .str a => by simp [D.beq]
  | .tup a => by simp [D.beq, pJ a]
  | .con a => by simp [D.beq, pJ a]
  | .obj a => by simp [D.beq]
  | .fn a => by simp [D.beq]
  | .zc c x => by simp [D.beq, pJ x]
theorem pJ : ∀ (a : List D), vj a a = true
  | [] => rfl
  | x :: r => by simp [vj, D.By x, pJ r]
end
theorem zp : ∀ (a : List (Key × D)), Aq a a = true
  | [] => rfl
  | x :: r => by simp [Aq, D.By x.2, zp r]
theorem DM : ∀ (a b : List (Key × D)), Aq a b = true → a = b
  | [], b, h => by cases b <;> simp_all [Aq]
  | x :: r, b, h => by
    cases b with
    | nil => simp [Aq] at h
    | cons y q =>
      have h' : (x.1 = y.1 ∧ x.2.beq y.2 = true) ∧ Aq r q = true := by simpa [Aq] using h
      rw [DM r q h'.2, Prod.ext h'.1.1 (D.beq_eq _ _ h'.1.2)]
theorem nW : ∀ (a : DH), oJ a a = true
  | [] => rfl
  | x :: r => by
    cases x with
    | lst a => simp [oJ, DO.beq, pJ a, nW r]
    | dead => simp [oJ, DO.beq, nW r]
    | dct kv => simp [oJ, DO.beq, zp kv, nW r]
theorem p6 : ∀ (a b : DH), oJ a b = true → a = b
  | [], b, h => by cases b <;> simp_all [oJ]
  | x :: r, b, h => by
    cases b with
    | nil => simp [oJ] at h
    | cons y q =>
      have h' : x.beq y = true ∧ oJ r q = true := by simpa [oJ] using h
      rw [p6 r q h'.2]
      congr 1
      cases x with
      | lst u =>
        cases y with
        | lst v => rw [ua u v (by simpa [DO.beq] using h'.1)]
        | dead => simp [DO.beq] at h'
        | dct kv => simp [DO.beq] at h'
      | dead =>
        cases y with
        | lst v => simp [DO.beq] at h'
        | dead => rfl
        | dct kv => simp [DO.beq] at h'
      | dct kv =>
        cases y with
        | lst v => simp [DO.beq] at h'
        | dead => simp [DO.beq] at h'
        | dct v => rw [DM kv v (by simpa [DO.beq] using h'.1)]
section
variable {K : PySem.W.Frag} {mg : Str → Option Value} {H H' : Hp} {ρ ρ' : List Addr} {G G' : DH}
mutual
theorem xC : ∀ (d : D) (v : V), d.closed = true → Rep K mg ρ H d v → Rep K mg ρ' H d v
  | .lG, v, c, h => by unfold Rep at h ⊢; exact h
  | .bl b, v, c, h => by unfold Rep at h ⊢; exact h
  | .int i, v, c, h => by unfold Rep at h ⊢; exact h
  | .str x, v, c, h => by unfold Rep at h ⊢; exact h
  | .tup ds, v, c, h => by
    unfold Rep at h ⊢
    obtain ⟨a, xs, e, s, r⟩ := h
    exact ⟨a, xs, e, s, kE ds xs (by simpa [D.closed] using c) r⟩
  | .con ds, v, c, h => by
    unfold Rep at h ⊢
    obtain ⟨a, xs, e, s, r⟩ := h
    exact ⟨a, xs, e, s, kE ds xs (by simpa [D.closed] using c) r⟩
  | .obj n, v, c, h => by simp [D.closed] at c
  | .fn x, v, c, h => by unfold Rep at h ⊢; exact h
  | .zc _ _, v, c, h => by simp [D.closed] at c
theorem kE : ∀ (ds : List D) (vs : List V), aW ds = true → aH K mg ρ H ds vs → aH K mg ρ' H ds vs
  | [], vs, c, h => by unfold aH at h ⊢; exact h
  | d :: ds, vs, c, h => by
    have c' : d.closed = true ∧ aW ds = true := by simpa [aW] using c
    unfold aH at h ⊢
    obtain ⟨v, r, e, h1, h2⟩ := h
    exact ⟨v, r, e, xC d v c'.1 h1, kE ds r c'.2 h2⟩
end
mutual
theorem Rep.back (p : ∃ r, ρ' = ρ ++ r) : ∀ (d : D) (v0 v : V), Rep K mg ρ H d v0 → Rep K mg ρ' H' d v → Rep K mg ρ H' d v
  | .lG, v0, v, h0, h => by unfold Rep at h ⊢; exact h
  | .bl b, v0, v, h0, h => by unfold Rep at h ⊢; exact h
  | .int i, v0, v, h0, h => by unfold Rep at h ⊢; exact h
  | .str x, v0, v, h0, h => by unfold Rep at h ⊢; exact h
  | .tup ds, v0, v, h0, h => by
    unfold Rep at h0 h ⊢
    obtain ⟨a, xs, e, s, r⟩ := h
    obtain ⟨a0, ER, e0, s0, r0⟩ := h0
    exact ⟨a, xs, e, s, aH.back p ds ER xs r0 r⟩
  | .con ds, v0, v, h0, h => by
    unfold Rep at h0 h ⊢
    obtain ⟨a, xs, e, s, r⟩ := h
    obtain ⟨a0, ER, e0, s0, r0⟩ := h0
    exact ⟨a, xs, e, s, aH.back p ds ER xs r0 r⟩
  | .obj n, v0, v, h0, h => by
    unfold Rep at h0 h ⊢
    obtain ⟨a, e, q⟩ := h
    obtain ⟨a0, e0, q0⟩ := h0
    obtain ⟨r, rfl⟩ := p
    rw [List.getElem?_append_left (List.getElem?_eq_some_iff.mp q0).1] at q
    exact ⟨a, e, q⟩
  | .fn x, v0, v, h0, h => by unfold Rep at h ⊢; exact h
  | .zc c as, v0, v, h0, h => by unfold Rep at h ⊢; exact h
theorem aH.back (p : ∃ r, ρ' = ρ ++ r) : ∀ (ds : List D) (PV vs : List V), aH K mg ρ H ds PV → aH K mg ρ' H' ds vs → aH K mg ρ H' ds vs
  | [], PV, vs, h0, h => by unfold aH at h ⊢; exact h
  | d :: ds, PV, vs, h0, h => by
    unfold aH at h0 h ⊢
    obtain ⟨v, r, e, h1, h2⟩ := h
    obtain ⟨v0, r0, e0, PB, Tv⟩ := h0
    exact ⟨v, r, e, Rep.back p d v0 v PB h1, aH.back p ds r0 r Tv h2⟩
end
theorem ni.cut (h : ni K mg H ρ G) (p : ∃ r, ρ' = ρ ++ r) (h' : ni K mg H' ρ' G') (e : G'.take G.length = G) : ni K mg H' ρ G := by
  refine ⟨h.hl, h.nd, fun n o q => ?_⟩
  have hn : n < G.length := (List.getElem?_eq_some_iff.mp q).1
  have q' : G'[n]? = some o := by
    rw [← e, List.getElem?_take] at q
    rw [if_pos hn] at q; exact q
  obtain ⟨a0, e0, r0⟩ := h.ob n o q
  obtain ⟨a, e1, r1⟩ := h'.ob n o q'
  have ea : a = a0 := by
    obtain ⟨r, rfl⟩ := p
    rw [List.getElem?_append_left (by rw [h.hl]; exact hn), e0] at e1
    exact (Option.some.inj e1).symm
  subst ea
  refine ⟨a, e0, ?_⟩
  cases o with
  | dead => exact r1
  | dct kv =>
    obtain ⟨xs, e2, rs⟩ := r1
    obtain ⟨ER, _, Nf⟩ := r0
    exact ⟨xs, e2, aH.back p _ ER xs Nf rs⟩
  | lst ds =>
    obtain ⟨xs, e2, rs⟩ := r1
    obtain ⟨ER, _, Nf⟩ := r0
    exact ⟨xs, e2, aH.back p ds ER xs Nf rs⟩
theorem wM {a : Addr} {o : Obj} {xs : List V} (e : H a = some (.lst xs)) (ρ : List Addr) : ir K H (upd H a (.qE o (.lst xs))) ρ ρ := by
  refine ⟨fun b zs h => ?_, fun b zs h => ?_, ⟨[], by simp⟩, fun b φ h => by rw [bQ (lH h e (by intro z; cases z))]; exact h⟩
  · rcases h with (h | ⟨q, h⟩) | h
    · exact .inl (.inl (by rw [bQ (lH h e (by intro z; cases z))]; exact h))
    · exact .inl (.inr ⟨q, by rw [bQ (lH h e (by intro z; cases z))]; exact h⟩)
    · exact .inr h
  · rcases h with ⟨q, h⟩ | h
    · exact .inl ⟨q, by rw [bQ (lH h e (by intro z; cases z))]; exact h⟩
    · exact .inr h
theorem ni.qE {n : Nat} {a : Addr} {o : Obj} {xs : List V} (h : ni K mg H ρ G) (hn : ρ[n]? = some a) (e : H a = some (.lst xs)) : ni K mg (upd H a (.qE o (.lst xs))) ρ (G.set n .dead) := by
  have f : ir K H (upd H a (.qE o (.lst xs))) ρ ρ := wM e ρ
  refine ⟨by simp [h.hl], h.nd, fun m ob q => ?_⟩
  by_cases hm : n = m
  · subst hm
    rw [List.getElem?_set, if_pos rfl] at q
    split at q
    · cases q
      exact ⟨a, hn, _, g9⟩
    · cases q
  · rw [List.getElem?_set_ne hm] at q
    obtain ⟨b, e1, r'⟩ := h.ob m ob q
    have hb : b ≠ a := by
      rintro rfl
      obtain ⟨h1, Dz⟩ := List.getElem?_eq_some_iff.mp hn
      obtain ⟨h2, Fd⟩ := List.getElem?_eq_some_iff.mp e1
      exact hm ((List.getElem_inj h.nd).mp (Dz.trans Fd.symm))
    exact ⟨b, e1, r'.mono f fun u q => by rw [bQ hb]; exact q⟩
end
section
variable {X : Cx} {EE : ki}
theorem DP {pins : List (Addr × Obj)} {σ : L2.St} {H : Hp} {s : Shared} {a : Addr} {xs : List V} (I : Inv X pins σ H s) (e : H a = some (.lst xs)) : ∃ o, Inv X pins σ (upd H a (.qE o (.lst xs))) s := by
  obtain ⟨z, its, n, r, hg⟩ := I.hok a _ e
  refine ⟨_, I.un (H' := upd H a (.qE { cls := .type "list", data := .seq its.toArray n } (.lst xs))) (h' := s.heap) (t' := s.toks) ⟨fun b o q _ _ _ => q, fun b o q _ _ _ => ⟨o.slots, q⟩, fun b o q hn _ => ?_, fun b o q _ => ⟨o, q⟩, fun b ys q => ?_, fun b o u q => ?_, fun b ps q => ⟨#[], ?_⟩⟩ fun b u q => ?_⟩
  · rw [bQ (by rintro rfl; rw [e] at hn; cases hn)]; exact hn
  · rw [bQ (lH q e (by intro z; cases z))]; exact q
  · rw [bQ (lH q e (by intro z; cases z))]; exact q
  · rw [bQ (lH q e (by intro z; cases z)), q]; simp
  · have ho : ∀ c y, H c = some (.own y) → upd H a (.qE { cls := .type "list", data := .seq its.toArray n } (.lst xs)) c = some (.own y) := fun c y w => by rw [bQ (lH w e (by intro z; cases z))]; exact w
    have ht : ∀ c ys, H c = some (.tup ys) → upd H a (.qE { cls := .type "list", data := .seq its.toArray n } (.lst xs)) c = some (.tup ys) := fun c ys w => by rw [bQ (lH w e (by intro z; cases z))]; exact w
    by_cases hb : b = a
    · subst hb
      rw [g9] at q; cases q
      exact ⟨hg, (I.hok b _ e).stay (fun _ _ _ w => w) (fun c w => ho c b w) ht⟩
    · rw [bQ hb] at q
      exact (I.hok b u q).stay (fun _ _ _ w => w) (fun c w => ho c b w) ht
noncomputable def Ln (m : DS → M D) : DS → M D := fun τ G => match m τ G with
  | .ok (.obj n) G' => match G'[n]? with
    | some (.lst ds) => .ok (.con ds) (G'.set n .dead)
    | _ => .stuck
  | r => r
noncomputable def eFn (m : DS → M D) : DS → M D := fun τ G => match m τ G with
  | .ok (.obj n) G' => match G'[n]? with
    | some (.lst ds) => if n = G.length ∧ G'.length = n + 1 ∧ oJ (G'.take G.length) G = true ∧ aW ds = true then .ok (.con ds) G else .stuck
    | _ => .stuck
  | r => r
theorem GD {pins : List (Addr × Obj)} {σ : L2.St} {Q Q' : VK} {u : Value} {s : Shared} (h : EP X pins σ Q' u s) (hq : ∀ v H', Q' v H' → Q v H' ∨ ∃ a xs, v = .ref a ∧ H' a = some (.lst xs) ∧ ∀ o, Q v (upd H' a (.qE o (.lst xs)))) : EP X pins σ Q u s := by
  obtain ⟨v, H', I, r, q⟩ := h
  rcases hq v H' q with q | ⟨a, xs, rfl, e, q⟩
  · exact ⟨v, H', I, r, q⟩
  · obtain ⟨o, I'⟩ := DP I e
    exact ⟨_, _, I', r, q o⟩
theorem DQ {e : Expr} {m : DS → M D} (ha : QE X EE e m) : QE X EE e (Ln m) := by
  intro pins s σ H Q I ⟨τ, ρ, G, ab, ok⟩
  dsimp only [Ln] at ok
  cases q : m τ G with
  | stuck => rw [q] at ok; exact ok.elim
  | fL c G' => rw [q] at ok; exact ha pins s σ H Q I ⟨τ, ρ, G, ab, by rw [q]; exact ok⟩
  | ok d G' =>
    rw [q] at ok
    by_cases hd : ∃ n, d = .obj n
    · obtain ⟨n, rfl⟩ := hd
      dsimp only at ok
      cases g : G'[n]? with
      | none => rw [g] at ok; exact ok.elim
      | some o =>
        rw [g] at ok
        cases o with
        | dead => exact ok.elim
        | dct kv => exact ok.elim
        | lst ds =>
          refine j4 (ha pins s σ H (fun v H' => ∃ a xs, v = .ref a ∧ H' a = some (.lst xs) ∧ ∀ o, Q v (upd H' a (.qE o (.lst xs)))) I ⟨τ, ρ, G, ab, ?_⟩) fun u s' h => GD h fun v H' q => .inr q
          rw [q]
          intro v H' ρ' f fC r
          unfold Rep at r
          obtain ⟨a, rfl, hn⟩ := r
          obtain ⟨a', xs, e1, e2, rs⟩ := fC.hp.lst g
          rw [hn] at e1; cases e1
          refine ⟨a, xs, rfl, e2, fun ob => ?_⟩
          have f2 : ir X.K H' (upd H' a (.qE ob (.lst xs))) ρ' ρ' := wM e2 ρ'
          refine ok _ _ ρ' (f.trans f2) ⟨fC.st.mono f2, fC.hp.qE hn e2⟩ ?_
          unfold Rep
          exact ⟨a, xs, rfl, .inl ⟨ob, g9⟩, rs.mono f2⟩
    · have ok' : pT X.K X.mg EE H σ τ ρ (.ok d G') Q := by
        cases d <;> first | exact ok | exact absurd ⟨_, rfl⟩ hd
      exact ha pins s σ H Q I ⟨τ, ρ, G, ab, by rw [q]; exact ok'⟩
theorem dw {e : Expr} {m : DS → M D} (ha : QE X EE e m) : QE X EE e (eFn m) := by
  intro pins s σ H Q I ⟨τ, ρ, G, ab, ok⟩
  dsimp only [eFn] at ok
  cases q : m τ G with
  | stuck => rw [q] at ok; exact ok.elim
  | fL c G' => rw [q] at ok; exact ha pins s σ H Q I ⟨τ, ρ, G, ab, by rw [q]; exact ok⟩
  | ok d G' =>
    rw [q] at ok
    by_cases hd : ∃ n, d = .obj n
    · obtain ⟨n, rfl⟩ := hd
      dsimp only at ok
      cases g : G'[n]? with
      | none => rw [g] at ok; exact ok.elim
      | some o =>
        rw [g] at ok
        cases o with
        | dead => exact ok.elim
        | dct kv => exact ok.elim
        | lst ds =>
          dsimp only at ok
          by_cases hc : n = G.length ∧ G'.length = n + 1 ∧ oJ (G'.take G.length) G = true ∧ aW ds = true
          · rw [if_pos hc] at ok
            obtain ⟨hn0, hl, hb, hcl⟩ := hc
            refine j4 (ha pins s σ H (fun v H' => ∃ a xs, v = .ref a ∧ H' a = some (.lst xs) ∧ ∀ o, Q v (upd H' a (.qE o (.lst xs)))) I ⟨τ, ρ, G, ab, ?_⟩) fun u s' h => GD h fun v H' q => .inr q
            rw [q]
            intro v H' ρ' f fC r
            unfold Rep at r
            obtain ⟨a, rfl, hn⟩ := r
            obtain ⟨a', xs, e1, e2, rs⟩ := fC.hp.lst g
            rw [hn] at e1; cases e1
            refine ⟨a, xs, rfl, e2, fun ob => ?_⟩
            have f2 : ir X.K H' (upd H' a (.qE ob (.lst xs))) ρ' ρ' := wM e2 ρ'
            have f3 : ir X.K H (upd H' a (.qE ob (.lst xs))) ρ ρ := ⟨fun b ys w => f2.tup b ys (f.tup b ys w), fun b ys w => f2.con b ys (f.con b ys w), ⟨[], by simp⟩, fun b φ w => f2.ext b φ (f.ext b φ w)⟩
            have hp2 := fC.hp.qE (o := ob) hn e2
            have vm : ni X.K X.mg (upd H' a (.qE ob (.lst xs))) ρ G := ab.hp.cut f.pre hp2 (by
              rw [List.take_set_of_le (by omega)]
              exact p6 _ _ hb)
            refine ok _ _ ρ f3 ⟨ab.st.mono f3, vm⟩ ?_
            unfold Rep
            exact ⟨a, xs, rfl, .inl ⟨ob, g9⟩, kE ds xs hcl (rs.mono f2)⟩
          · rw [if_neg hc] at ok; exact ok.elim
    · have ok' : pT X.K X.mg EE H σ τ ρ (.ok d G') Q := by
        cases d <;> first | exact ok | exact absurd ⟨_, rfl⟩ hd
      exact ha pins s σ H Q I ⟨τ, ρ, G, ab, by rw [q]; exact ok'⟩
end
noncomputable def j6 (m : List D → M D) : List D → M D := fun ds G => match m ds G with
  | .ok d G' => if oJ (G'.take G.length) G = true ∧ d.closed = true then .ok d G else .stuck
  | .fL c G' => if oJ (G'.take G.length) G = true then .fL c G else .stuck
  | .stuck => .stuck
noncomputable def vn (m : List D → M D) : List D → M D := fun ds G => match m ds G with
  | .ok (.obj n) G' => match G'[n]? with
    | some (.lst xs) => if oJ (G'.take G.length) G = true ∧ G.length ≤ n ∧ aW xs = true then .ok (.obj G.length) (G ++ [.lst xs]) else .stuck
    | _ => .stuck
  | .fL c G' => if oJ (G'.take G.length) G = true then .fL c G else .stuck
  | _ => .stuck
section
variable {K : PySem.W.Frag} {mg : Str → Option Value} {n : Nat} {m : List D → M D}
theorem uc {H H' : Hp} {ρ ρ' : List Addr} (f : ir K H H' ρ ρ') : ir K H H' ρ ρ := ⟨f.tup, f.con, ⟨[], by simp⟩, f.ext⟩
theorem iC (vs : List V) (H : Hp) (Q : VK) (E : XK) (h : cU K mg n (j6 m) vs H Q E) : cU K mg n m vs H Q E := by
  obtain ⟨ds, ρ, G, hl, hp, rs, ok⟩ := h
  refine ⟨ds, ρ, G, hl, hp, rs, ?_⟩
  dsimp only [j6] at ok
  cases q : m ds G with
  | stuck => rw [q] at ok; exact ok
  | ok d G' =>
    rw [q] at ok
    dsimp only at ok
    by_cases hc : oJ (G'.take G.length) G = true ∧ d.closed = true
    · rw [if_pos hc] at ok
      intro v H' ρ' f DF r
      exact ok v H' ρ (uc f) (hp.cut f.pre DF (p6 _ _ hc.1)) (xC d v hc.2 r)
    · rw [if_neg hc] at ok; exact ok.elim
  | fL c G' =>
    rw [q] at ok
    dsimp only at ok
    by_cases hc : oJ (G'.take G.length) G = true
    · rw [if_pos hc] at ok
      intro cls H' ρ' hcl f DF
      exact ok cls H' ρ hcl (uc f) (hp.cut f.pre DF (p6 _ _ hc))
    · rw [if_neg hc] at ok; exact ok.elim
theorem BA (vs : List V) (H : Hp) (Q : VK) (E : XK) (h : cU K mg n (vn m) vs H Q E) : cU K mg n m vs H Q E := by
  obtain ⟨ds, ρ, G, hl, hp, rs, ok⟩ := h
  refine ⟨ds, ρ, G, hl, hp, rs, ?_⟩
  dsimp only [vn] at ok
  cases q : m ds G with
  | stuck => rw [q] at ok; exact ok
  | fL c G' =>
    rw [q] at ok
    dsimp only at ok
    by_cases hc : oJ (G'.take G.length) G = true
    · rw [if_pos hc] at ok
      intro cls H' ρ' hcl f DF
      exact ok cls H' ρ hcl (uc f) (hp.cut f.pre DF (p6 _ _ hc))
    · rw [if_neg hc] at ok; exact ok.elim
  | ok d G' =>
    rw [q] at ok
    cases d <;> try exact ok.elim
    rename_i k
    dsimp only at ok
    cases g : G'[k]? with
    | none => rw [g] at ok; exact ok.elim
    | some o =>
      rw [g] at ok
      cases o with
      | dead => exact ok.elim
      | dct kv => exact ok.elim
      | lst xs =>
        dsimp only at ok
        by_cases hc : oJ (G'.take G.length) G = true ∧ G.length ≤ k ∧ aW xs = true
        · rw [if_pos hc] at ok
          intro v H' ρ' f DF r
          unfold Rep at r
          obtain ⟨a, rfl, hn⟩ := r
          obtain ⟨a', ys, e1, e2, rs'⟩ := DF.lst g
          rw [hn] at e1; cases e1
          have hp2 := hp.cut f.pre DF (p6 _ _ hc.1)
          have hna : a ∉ ρ := by
            intro hm
            obtain ⟨j, hj, ej⟩ := List.getElem_of_mem hm
            obtain ⟨r, rfl⟩ := f.pre
            obtain ⟨h1, Dz⟩ := List.getElem?_eq_some_iff.mp hn
            have hjl : j < (ρ ++ r).length := by simp; omega
            have : (ρ ++ r)[j] = (ρ ++ r)[k] := by rw [Dz, List.getElem_append_left hj, ej]
            have := (List.getElem_inj DF.nd).mp this
            have := hp.hl
            omega
          refine ok (.ref a) H' (ρ ++ [a]) ((uc f).trans (jh ρ a)) ?_ (by unfold Rep; exact ⟨a, rfl, by rw [← hp.hl]; simp⟩)
          refine ⟨by simp [hp.hl], ?_, fun j ob e => ?_⟩
          · rw [List.nodup_append]
            refine ⟨hp.nd, by simp, fun x hx y hy => ?_⟩
            have e : y = a := by simpa using hy
            subst e
            rintro rfl
            exact hna hx
          · by_cases hj : j < G.length
            · rw [List.getElem?_append_left hj] at e
              obtain ⟨b, e3, r3⟩ := hp2.ob j ob e
              exact ⟨b, (jh (K := K) (H := H') ρ a).get e3, r3.mono (jh ρ a) fun u q => q⟩
            · have hl2 : j < (G ++ [DO.lst xs]).length := (List.getElem?_eq_some_iff.mp e).1
              have hj' : j = G.length := by simp at hl2; omega
              subst hj'
              rw [bg] at e
              cases e
              exact ⟨a, by rw [← hp.hl, bg], ys, e2, kE xs ys hc.2.2 rs'⟩
        · rw [if_neg hc] at ok; exact ok.elim
end
end L3
end
section
set_option Elab.async false
set_option linter.all false
set_option maxRecDepth 100000
namespace L3
open PySem PySem.Spec L2
noncomputable def yS (K : PySem.W.Frag) (a : Addr) (n : Nat) : It :=
  ⟨fun i H => ∃ xs x, sf K H a xs ∧ xs.length = n ∧ i < n ∧ xs[n - 1 - i]? = some x, fun i H y H' => H' = H ∧ ∀ xs, sf K H a xs → xs[n - 1 - i]? = some y, fun i H => i = n⟩
theorem GF {P : Program} {w : World} {K : PySem.W.Frag} {tg : Expr} (a it : Addr) (n : Nat) : Turn P w K tg (yS K a n) [it] it (fun i h => h.IsRevIter it a ((n : Int) - 1 - (i : Int))) where
  mem := by simp
  obj := fun i h st b hb => by
    have e : b = it := by simpa using hb
    subst e
    obtain ⟨o, e, c, d⟩ := st
    exact ⟨o, e, fun v z => by rw [d] at z; cases z⟩
  keep := fun i h h' st k => st.at fun o e => k it (by simp) o e
  item := by
    intro X hP hw hK hc i pins s σ H E I hf st hg
    subst hP hw hK
    obtain ⟨xs, x, hq, hn, hi, hx⟩ := hg
    obtain ⟨its, rv, p, hz⟩ := I.list hq
    obtain ⟨u, hu, ru⟩ := rv.get hx
    obtain ⟨f0, f1, f2, f3, f4, f5⟩ := hf it (by simp)
    have e : (n : Int) - 1 - (i : Int) = ((n - 1 - i : Nat) : Int) := by omega
    rw [e] at st
    refine wpAny_pyNext_rev_item st p.isList (x := u) (by simpa using hu) fun h' st' sb => ?_
    have I1 : Inv X pins σ H { s with heap := h' } := I.turned (t' := s.toks) (fun b o hb e => (sb.2 b hb).trans e) f0 f1 f3 f4 f5
    have e2 : ((n - 1 - i : Nat) : Int) - 1 = (n : Int) - 1 - ((i + 1 : Nat) : Int) := by omega
    rw [e2] at st'
    obtain ⟨o, e, c, d⟩ := id st'
    exact ⟨u, rfl, yR (s := { s with heap := h' }) e c d (by decide) ⟨x, H, I1, ru, ⟨rfl, fun ys hy => by rw [I.wR hy hq]; exact hx⟩, st', fun b hb => (hf b hb).1⟩⟩
  done := by
    intro X hP hw hK hc i pins s σ H E I hf st hg
    subst hP hw hK
    have hi : i = n := hg
    subst hi
    obtain ⟨f0, f1, f2, f3, f4, f5⟩ := hf it (by simp)
    rw [show (i : Int) - 1 - (i : Int) = -1 by omega] at st
    exact wpAny_pyNext_rev_end (I.ok.hd hc) st fun h' eb => ⟨rfl, I.turned (t' := s.toks) (fun b o hb e => eb b o hb e) f0 f1 f3 f4 f5⟩
  self := fun _ _ _ _ _ st h => wpAny_pyIter_revIter st h
noncomputable def CY (d : D) (n : Nat) : View := fun G i => match aD G d with
  | some (.lst xs) => if xs.length = n then (if i = n then some none else if i < n then some xs[n - 1 - i]? else none) else none
  | _ => none
noncomputable def ID (m : DS → M (List D)) : MI := fun τ => (m τ).bind fun ds => match ds with
  | [d] => fun G => match aD G d with
    | some (.lst xs) => .ok (xs.length + 1, CY d xs.length) G
    | _ => .stuck
  | _ => M.stop
section
variable {X : Cx} {EE : ki} {tg iter a b : Expr} {g : uY} {mi : MI} {ms : MS} {pos p pc : Pos} {m : DS → M (List D)}
theorem Lo {H : Hp} {ρ ρ' : List Addr} {H' : Hp} {G' : DH} {d : D} {l : Addr} {ws : List D} (f : ir X.K H H' ρ ρ') (rx : Rep X.K X.mg ρ H d (.ref l)) (hp : ni X.K X.mg H' ρ' G') (q : aD G' d = some (.lst ws)) : ∃ xs, sf X.K H' l xs ∧ aH X.K X.mg ρ' H' ws xs := by
  have Ou := rx.mono f
  cases d with
  | con ds =>
    cases q
    unfold Rep at Ou
    obtain ⟨a', xs, e, s, r⟩ := Ou
    cases e
    exact ⟨xs, s.seq, r⟩
  | obj n =>
    unfold Rep at Ou
    obtain ⟨a', e, r⟩ := Ou
    cases e
    dsimp only [aD] at q
    cases g : G'[n]? with
    | none => rw [g] at q; cases q
    | some o =>
      cases o with
      | dead => rw [g] at q; cases q
      | dct kv => rw [g] at q; cases q
      | lst ys =>
        rw [g] at q; cases q
        obtain ⟨a', xs, e1, e2, rs⟩ := hp.lst g
        rw [r] at e1; cases e1
        exact ⟨xs, .inl (.of e2), rs⟩
  | _ => cases q
theorem Lp {H : Hp} {ρ : List Addr} {d : D} {l : Addr} {n : Nat} (rx : Rep X.K X.mg ρ H d (.ref l)) : JV X.K X.mg (yS X.K l n) (CY d n) H ρ := by
  intro i H' ρ' G' f hp
  unfold CY
  cases q : aD G' d with
  | none => exact ⟨fun e => (by cases e), fun x e => (by cases e)⟩
  | some sk =>
    cases sk with
    | tup zs => exact ⟨fun e => (by cases e), fun x e => (by cases e)⟩
    | str z => exact ⟨fun e => (by cases e), fun x e => (by cases e)⟩
    | lst zs =>
      dsimp only
      by_cases hn : zs.length = n
      · rw [if_pos hn]
        by_cases hi : i = n
        · rw [if_pos hi]
          exact ⟨fun _ => hi, fun x e => (by cases e)⟩
        · rw [if_neg hi]
          by_cases hlt : i < n
          · rw [if_pos hlt]
            obtain ⟨xs, sq, rs⟩ := Lo f rx hp q
            refine ⟨fun e => ?_, fun x e => ?_⟩
            · have := Option.some.inj e
              rw [List.getElem?_eq_none_iff] at this
              omega
            · have e' := Option.some.inj e
              obtain ⟨v, hv, rv⟩ := rs.get e'
              refine ⟨⟨xs, v, sq, by rw [← rs.length]; exact hn, hlt, hv⟩, fun y H2 hy => ?_⟩
              obtain ⟨rfl, hy⟩ := hy
              have := hy xs sq
              rw [hv] at this; cases this
              exact ⟨⟨.refl, fun _ h => h⟩, rv⟩
          · rw [if_neg hlt]; exact ⟨fun e => (by cases e), fun x e => (by cases e)⟩
      · rw [if_neg hn]; exact ⟨fun e => (by cases e), fun x e => (by cases e)⟩
theorem Lq (hm : X.mg "reversed" = none) (zg : Gl X "reversed") (ha : QA X EE [a] m) (h : aO [a] = true := by rfl) : QI X EE tg (.Call (.Name "reversed" p) [a] [] pc) (ID m) := by
  have h' : fZ a = true ∧ aO [] = true := by simpa [aO] using h
  intro pins s σ H R I hq
  obtain ⟨τ, ρ, G, ab, ok⟩ := hq
  dsimp only [ID, M.bind] at ok
  refine wpAny_Call_Name_kw (kK I zg hm xu ?_ (by decide) (by decide))
  have hA : qS X.K X.mg EE m σ H fun vs H1 => ∃ ρ1 G1 ds, Ab X.K X.mg σ H1 τ ρ1 G1 ∧ ir X.K H H1 ρ ρ1 ∧ aH X.K X.mg ρ1 H1 ds vs ∧ m τ G = .ok ds G1 := by
    refine ⟨τ, ρ, G, ab, ?_⟩
    cases e : m τ G with
    | stuck => rw [e] at ok; exact ok
    | fL c G' => rw [e] at ok; exact ok
    | ok ds G' => exact fun vs H' ρ' f fC r => ⟨ρ', G', ds, fC, f, r, rfl⟩
  refine PyProof.Rows.callWith_type1 (j4 (ha pc pins s σ H _ I hA) fun us s1 zY => ?_) (dD h'.1 _ _) (fj (es := []) rfl)
  obtain ⟨vs, H1, I1, r1, ρ1, G1, ds, qT, f1, rs, em⟩ := zY
  rw [em] at ok
  dsimp only at ok
  match ds, rs, ok with
  | [], _, ok => exact ok.elim
  | _ :: _ :: _, _, ok => exact ok.elim
  | [d], rs, ok =>
    obtain ⟨x, rfl, rx⟩ := qH rs
    obtain ⟨u, rfl, ru⟩ := vals1 r1
    dsimp only at ok
    cases q : aD G1 d with
    | none => rw [q] at ok; exact ok.elim
    | some sk =>
      rw [q] at ok
      cases sk with
      | tup zs => exact ok.elim
      | str z => exact ok.elim
      | lst zs =>
        dsimp only at ok
        obtain ⟨l, ys, rfl, sq, rv⟩ := gY (pins := pins) (σ0 := σ) (s := s1) qT.hp rx q
        cases ru
        obtain ⟨its, vv, pl, hz⟩ := I1.list sq
        refine call_reversed_list pl.isList ?_
        have hst : (s1.heap.push (revObj l ((its.toArray.size : Int) - 1))).IsRevIter s1.heap.objs.size l ((its.toArray.size : Int) - 1) := ⟨_, Heap.get?_push_size _ rfl, rfl, rfl⟩
        refine wpAny_pyIter_revIter (s := { s1 with heap := s1.heap.push (revObj l ((its.toArray.size : Int) - 1)) }) hst ?_
        have I2 : Inv X pins σ H1 { s1 with heap := s1.heap.push (revObj l ((its.toArray.size : Int) - 1)) } := I1.kept (t' := s1.toks) fun b o e => Heap.get?_push_of_some _ e
        have hlen : its.toArray.size = zs.length := by rw [List.size_toArray, ← vv.length, rv.length]
        refine ⟨s1.heap.objs.size, [s1.heap.objs.size], _, yS X.K l zs.length, H1, rfl, I2, GF l _ _, ?_, fun b hb => ?_, ok _ H1 ρ1 f1 qT (Lp rx)⟩
        · show (s1.heap.push (revObj l ((its.toArray.size : Int) - 1))).IsRevIter s1.heap.objs.size l ((zs.length : Int) - 1 - ((0 : Nat) : Int))
          rw [← hlen]
          simpa using hst
        · rw [List.mem_singleton.mp hb]
          exact I1.yl (Nat.le_refl _) (I1.hok.fresh (Nat.le_refl _))
end
end L3
end
section
set_option Elab.async false
set_option linter.all false
set_option maxRecDepth 100000
namespace L3
open PySem PySem.Spec L2
noncomputable def Ng (d e : D) : View := fun G i => match aD G d, aD G e with
  | some (.lst xs), some (.lst ys) => some (match xs[i]?, ys[i]? with
    | some x, some y => some (.tup [x, y])
    | _, _ => none)
  | _, _ => none
noncomputable def PX (m : DS → M (List D)) : MI := fun τ => (m τ).bind fun ds => match ds with
  | [d, e] => fun G => match aD G d, aD G e with
    | some (.lst xs), some (.lst ys) => .ok (min xs.length ys.length + 1, Ng d e) G
    | _, _ => .stuck
  | _ => M.stop
section
variable {X : Cx} {EE : ki} {tg iter a b : Expr} {g : uY} {mi : MI} {ms : MS} {pos p pc : Pos} {m : DS → M (List D)}
end
end L3
end
section
set_option Elab.async false
set_option linter.all false
set_option maxRecDepth 100000
namespace L3
open PySem PySem.Spec L2 PyProof.Rows
section
variable {X : Cx} {EE : ki} {a b e : Expr} {ma mb : DS → M D} {pos : Pos}
theorem IE : sj X (binaryOp .Add) (fun x y H Q => ∃ l b xs zs, x = .ref l ∧ y = .ref b ∧ sf X.K H l xs ∧ sf X.K H b zs ∧ xs.length + zs.length ≤ sizeLine ∧ ∀ p, H p = none → Q (.ref p) (upd H p (.lst (xs ++ zs)))) := by
  intro pins s σ H x y v u Q I rx ry h
  obtain ⟨l, b, xs, zs, rfl, rfl, hH, hB, hz, q⟩ := h
  cases rx
  cases ry
  obtain ⟨its, r, ⟨o, n, e, c, dn, d⟩, hl⟩ := I.list hH
  obtain ⟨its2, r2, ⟨o2, n2, e2, c2, Nh, d2⟩, hl2⟩ := I.list hB
  obtain ⟨cls, dd, data, sl⟩ := o
  obtain ⟨Kp, dd2, data2, sl2⟩ := o2
  simp only at c dn d c2 Nh d2
  subst c dn d c2 Nh d2
  have hlen := r.length
  have hlen2 := r2.length
  have ea : its.toArray ++ its2.toArray = (its ++ its2).toArray := by simp
  refine concat_meets ⟨_, e, rfl⟩ ⟨_, e2, rfl⟩ noFill_list_add seq_list_add PySem.F.slot_list_add PySem.F.entry_list_add (PySem.F.args_list_add_2 _ _) (list_addW l b its.toArray its2.toArray n n2 _ _ sl sl2 (by simp only [List.size_toArray]; omega)) ⟨e, e2, ?_⟩
  rw [ea]
  exact ⟨.ref _, _, I.Pb (t' := s.toks) (r.append r2) (by rw [List.length_append]; omega), rfl, q _ I.fresh⟩
theorem IF : sj X (binaryOp .Add) (fun x y H Q => ∃ a b ys, x = .ref a ∧ y = .ref b ∧ sZ X.K H a [] ∧ sZ X.K H b ys ∧ Q (.ref b) H) := by
  intro pins s σ H x y v u Q I rx ry h
  obtain ⟨a, b, ys, rfl, rfl, ha, hb, q⟩ := h
  cases rx
  cases ry
  obtain ⟨its, r1, p1, _⟩ := I.tuple ha
  obtain ⟨its2, r2, p2, _⟩ := I.tuple hb
  have e0 : its = [] := by cases r1; rfl
  subst e0
  obtain ⟨⟨cls, dd, data, sl⟩, ho, hc, n, hd⟩ := id p1
  obtain ⟨⟨Kp, dd2, data2, sl2⟩, ho2, hc2, n2, hd2⟩ := id p2
  simp only at hc hd hc2 hd2
  subst hc hd hc2 hd2
  exact concat_meets ⟨_, ho, rfl⟩ ⟨_, ho2, rfl⟩ noFill_tuple_add seq_tuple_add PySem.F.slot_tuple_add PySem.F.entry_tuple_add (PySem.F.args_tuple_add_2 _ _)
      (tuple_addW0 a b _ _ n n2 dd dd2 sl sl2 (by simp)) ⟨ho, ho2, ⟨.ref b, H, I, rfl, q⟩⟩
noncomputable def vp (G : DH) : D → Option (List D)
  | .con xs => some xs
  | .obj n => match G[n]? with
    | some (.lst xs) => some xs
    | _ => none
  | _ => none
theorem xD {G : DH} {d : D} {xs : List D} (h : vp G d = some xs) : aD G d = some (.lst xs) := by
  cases d with
  | con ys => cases h; rfl
  | obj n =>
    dsimp only [vp] at h
    dsimp only [aD]
    cases g : G[n]? with
    | none => rw [g] at h; cases h
    | some o =>
      cases o with
      | dead => rw [g] at h; cases h
      | dct kv => rw [g] at h; cases h
      | lst ys => rw [g] at h; cases h; rfl
  | _ => cases h
noncomputable def av (d e : D) : M D := fun G => match d, e with
  | .int i, .int j => .ok (.int (i + j)) G
  | .str i, .str j => if i.length + j.length ≤ sizeLine then .ok (.str (i ++ j)) G else .stuck
  | .tup [], .tup ys => .ok (.tup ys) G
  | .tup (x :: xs), .tup ys => cN (x :: xs ++ ys) G
  | d, e => match vp G d, vp G e with
    | some xs, some ys => fu (xs ++ ys) G
    | _, _ => .stuck
theorem IG : sj X (binaryOp .Add) (rD X EE av) := by
  intro pins s σ0 H x y v u Q I rx ry ⟨σ, τ, ρ, G, d, e, ab, r1, r2, ok⟩
  have lists : ∀ xs ys, vp G d = some xs → vp G e = some ys → pT X.K X.mg EE H σ τ ρ (fu (xs ++ ys) G) Q → wpAny (model X.prog X.w) X.A (binaryOp .Add v u) (EP X pins σ0 Q) X.xe s := fun xs ys h1 h2 ok => by
    obtain ⟨l, vs, rfl, s1, t1⟩ := gY (pins := pins) (σ0 := σ0) (s := s) ab.hp r1 (xD h1)
    obtain ⟨l2, ws, rfl, s2, t2⟩ := gY (pins := pins) (σ0 := σ0) (s := s) ab.hp r2 (xD h2)
    obtain ⟨hl, q1⟩ := Ac ab (t1.append t2) ok
    rw [List.length_append] at hl
    exact IE pins s σ0 H _ _ v u Q I rx ry ⟨l, l2, vs, ws, rfl, rfl, s1, s2, hl, q1⟩
  have rest : (pT X.K X.mg EE H σ τ ρ (match vp G d, vp G e with
    | some xs, some ys => fu (xs ++ ys) G
    | _, _ => .stuck) Q) → wpAny (model X.prog X.w) X.A (binaryOp .Add v u) (EP X pins σ0 Q) X.xe s := fun ok => by
    cases h1 : vp G d with
    | none => rw [h1] at ok; exact ok.elim
    | some xs =>
      cases h2 : vp G e with
      | none => rw [h1, h2] at ok; exact ok.elim
      | some ys => rw [h1, h2] at ok; exact lists xs ys h1 h2 ok
  cases d with
  | int i =>
    cases e with
    | int j =>
      unfold Rep at r1 r2; subst r1 r2
      exact J8 pins s σ0 H _ _ v u Q I rx ry ⟨i, j, rfl, rfl, ok _ H ρ .refl ab (by unfold Rep; rfl)⟩
    | _ => exact rest ok
  | str i =>
    cases e with
    | str j =>
      unfold Rep at r1 r2; subst r1 r2
      dsimp only [av] at ok
      by_cases h : i.length + j.length ≤ sizeLine
      · rw [if_pos h] at ok
        exact CA pins s σ0 H _ _ v u Q I rx ry ⟨i, j, rfl, rfl, h, ok _ H ρ .refl ab (by unfold Rep; rfl)⟩
      · rw [if_neg h] at ok; exact ok.elim
    | _ => exact rest ok
  | tup xs =>
    cases e with
    | tup ys =>
      have r2' := r2
      unfold Rep at r1 r2
      obtain ⟨p, vs, rfl, s1, t1⟩ := r1
      obtain ⟨q, ws, rfl, s2, t2⟩ := r2
      cases xs with
      | nil =>
        have hv : vs = [] := by have := t1.length; cases vs with | nil => rfl | cons _ _ => simp at this
        subst hv
        exact IF pins s σ0 H _ _ v u Q I rx ry ⟨p, q, ws, rfl, rfl, s1, s2, ok _ H ρ .refl ab r2'⟩
      | cons x xs =>
        have ok' : pT X.K X.mg EE H σ τ ρ (cN (x :: xs ++ ys) G) Q := ok
        have Tw := t1.append t2
        obtain ⟨hl, q1⟩ := Ad ab Tw ok'
        rw [List.length_append] at hl
        have hv : vs ≠ [] := by
          intro z; subst z
          have := t1.length
          simp at this
        refine HM pins s σ0 H _ _ v u Q I rx ry ⟨p, q, vs, ws, rfl, rfl, s1, s2, hv, hl, fun z => ?_, fun z p hp => q1 p hp⟩
        subst z
        have hy : ys = [] := by
          have := t2.length
          cases ys with
          | nil => rfl
          | cons _ _ => simp at this
        subst hy
        unfold cN at ok'
        split at ok'
        · exact ok' _ H ρ .refl ab (by rw [List.append_nil]; unfold Rep; exact ⟨p, vs, rfl, s1, t1⟩)
        · exact ok'.elim
    | _ => cases xs <;> exact rest ok
  | _ => exact rest (by cases e <;> exact ok)
theorem bI (ha : QE X EE a ma) (hb : QE X EE b mb) : QE X EE (.BinOp a .Add b pos) (aG av ma mb) := ze IG t7 ha hb
theorem Lr {pins : List (Addr × Obj)} {Dd D' : Ends} {f : Flow} {s : Shared} (h : SP X pins D' f s) (hb : D'.bk = Dd.bk) (hc : D'.ct = Dd.ct) (hr : D'.rt = Dd.rt)
    (hq : ∀ σ H, D'.nx σ H → Dd.nx σ H ∨ ∃ a xs, H a = some (.lst xs) ∧ ∀ o, Dd.nx σ (upd H a (.qE o (.lst xs)))) : SP X pins Dd f s := by
  obtain ⟨nx, bk, ct, rt⟩ := D'
  subst hb hc hr
  cases f with
  | next =>
    obtain ⟨σ', H', I, q⟩ := h
    rcases hq σ' H' q with q | ⟨a, xs, e, q⟩
    · exact ⟨σ', H', I, q⟩
    · obtain ⟨o, I'⟩ := DP I e
      exact ⟨σ', _, I', q o⟩
  | _ => exact h
theorem Ni {st : Stmt} {i : Nat} {m : DS → M D} (hs : QS X EE st (dS i m)) : QS X EE st (dS i (eFn m)) := by
  intro pins s σ H Dd I ⟨τ, ρ, G, ab, ok⟩
  dsimp only [dS, fS, eFn] at ok
  cases q : m τ G with
  | stuck => rw [q] at ok; exact ok.elim
  | fL c G' => rw [q] at ok; exact hs pins s σ H Dd I ⟨τ, ρ, G, ab, by dsimp only [dS, fS]; rw [q]; exact ok⟩
  | ok d G' =>
    rw [q] at ok
    by_cases hd : ∃ n, d = .obj n
    · obtain ⟨n, rfl⟩ := hd
      dsimp only at ok
      cases g : G'[n]? with
      | none => rw [g] at ok; exact ok.elim
      | some o =>
        rw [g] at ok
        cases o with
        | dead => exact ok.elim
        | dct kv => exact ok.elim
        | lst ds =>
          dsimp only at ok
          by_cases hc : n = G.length ∧ G'.length = n + 1 ∧ oJ (G'.take G.length) G = true ∧ aW ds = true
          · rw [if_pos hc] at ok
            obtain ⟨hn0, hl, hb, hcl⟩ := hc
            refine j4 (hs pins s σ H { Dd with nx := fun σ' H' => ∃ a xs, H' a = some (.lst xs) ∧ ∀ o, Dd.nx σ' (upd H' a (.qE o (.lst xs))) } I ⟨τ, ρ, G, ab, ?_⟩) fun u s' h => Lr h rfl rfl rfl fun σ' H' q => .inr q
            dsimp only [dS, fS]
            rw [q]
            intro σ' H' ρ' f fC
            obtain ⟨a, xs, e1, e2, rs⟩ := fC.hp.lst g
            refine ⟨a, xs, e2, fun ob => ?_⟩
            have f2 : ir X.K H' (upd H' a (.qE ob (.lst xs))) ρ' ρ' := wM e2 ρ'
            have f3 : ir X.K H (upd H' a (.qE ob (.lst xs))) ρ ρ := ⟨fun b ys w => f2.tup b ys (f.tup b ys w), fun b ys w => f2.con b ys (f.con b ys w), ⟨[], by simp⟩, fun b φ w => f2.ext b φ (f.ext b φ w)⟩
            have vm : ni X.K X.mg (upd H' a (.qE ob (.lst xs))) ρ G := ab.hp.cut f.pre (fC.hp.qE (o := ob) e1 e2) (by
              rw [List.take_set_of_le (by omega)]
              exact p6 _ _ hb)
            refine ok σ' _ ρ f3 ⟨⟨by rw [fC.st.1]; simp, fun j dj ej => ?_⟩, vm⟩
            by_cases hij : i = j
            · subst hij
              by_cases hi : i < τ.length
              · rw [List.getElem?_set, if_pos rfl, if_pos hi] at ej
                cases ej
                obtain ⟨vv, ev, rv⟩ := fC.st.2 i (.obj n) (by rw [List.getElem?_set, if_pos rfl, if_pos hi])
                unfold Rep at rv
                obtain ⟨a', rfl, hn'⟩ := rv
                rw [e1] at hn'; cases hn'
                refine ⟨_, ev, ?_⟩
                unfold Rep
                exact ⟨a, xs, rfl, .inl ⟨ob, g9⟩, kE ds xs hcl (rs.mono f2)⟩
              · rw [List.getElem?_set, if_pos rfl, if_neg hi] at ej; cases ej
            · have Vc := ej
              rw [List.getElem?_set_ne hij] at ej
              obtain ⟨v', ev', Tz⟩ := fC.st.2 j dj (by rw [List.getElem?_set_ne hij]; exact ej)
              obtain ⟨v0, Vd, TF⟩ := ab.st.2 j dj ej
              exact ⟨v', ev', Rep.back f.pre dj v0 v' TF (Tz.mono f2)⟩
          · rw [if_neg hc] at ok; exact ok.elim
    · have ok' : yp X.K X.mg EE H ρ Dd (.nx (τ.set i (some d)) G') := by
        cases d <;> first | exact ok | exact absurd ⟨_, rfl⟩ hd
      exact hs pins s σ H Dd I ⟨τ, ρ, G, ab, by dsimp only [dS, fS]; rw [q]; exact ok'⟩
theorem CZ (l : Addr) (items : Array Value) (n : Nat) (b : Addr) (items2 : Array Value) (n2 : Nat) (sl2 : Array (Option Value)) (hc0 : ¬(!items.isEmpty && Builtin.List.listTooLong (items.size + items2.size)) = true) (hc1 : items.size ≤ sizeLine) (hs2 : items.size + items2.size ≤ sizeLine + 1) :
    Meets (Builtin.«list.extend» ⟨[.ref l, .ref b], []⟩) (fun _ R s => s.heap.get? l = some { cls := .type "list", dict := none, data := .seq items n, slots := #[] } ∧ s.heap.get? b = some { cls := .type "list", dict := none, data := .seq items2 n2, slots := sl2 } ∧ R (.ok (.ret Value.none)) { s with heap := s.heap.update l (Obj.mapSeq fun x => x ++ items2), toks := s.toks }) :=
  .of_wp fun prog w A R s h => by
    obtain ⟨hp, g, d, tk, os⟩ := s; obtain ⟨hl, hb, h⟩ := h; have f1 := AutoSeq1.idx_int; have f2 := AutoSeq1.sub_tuple_tuple; have f3 := AutoSeq1.sub_list_list; have f4 := AutoSeq1.sub_tuple_list; have f5 := AutoSeq1.sub_list_tuple;
    have hz' : (items ++ items2).size ≤ sizeLine + 1 := by rw [Array.size_append]; exact hs2
    wp_walk using (wpAny_updateSeq hl rfl (hz := hc1) (_hz' := hz')), wpAny_loadPart' hl, wpAny_loadPart' hb; exact ⟨_, rfl, h⟩
theorem C0 : Jq X "list.extend" (fun x vs H Q => ∃ l b xs zs, x = .ref l ∧ vs = [.ref b] ∧ H l = some (.lst xs) ∧ sf X.K H b zs ∧ xs.length + zs.length ≤ sizeLine ∧ Q .lG (upd H l (.lst (xs ++ zs)))) := by
  intro pins s σ H x vs v us Q I rx rv h
  obtain ⟨l, b, xs, zs, rfl, rfl, hH, hB, hz, q⟩ := h
  cases rx
  obtain ⟨u, rfl, ru⟩ := rv.one
  cases ru
  obtain ⟨z, its, n, r, hl, e⟩ := I.Ky hH
  obtain ⟨its2, r2, ⟨o2, n2, e2, c2, Nh, d2⟩, _⟩ := I.list hB
  obtain ⟨Kp, dd2, data2, sl2⟩ := o2
  simp only at c2 Nh d2
  subst c2 Nh d2
  have hl2 := r2.length
  have hsz : its.toArray.size + its2.toArray.size ≤ sizeLine := by rw [List.size_toArray, List.size_toArray]; omega
  have Nj : ¬ (!its.toArray.isEmpty && Builtin.List.listTooLong (its.toArray.size + its2.toArray.size)) = true := by
    rw [Fz hsz, Bool.and_false]
    exact Bool.false_ne_true
  refine call_meets F.slot_list_extend ⟨_, e, rfl⟩ F.entry_list_extend (F.args_list_extend_2 _ _)
    (CZ l its.toArray n b its2.toArray n2 sl2 Nj (by rw [List.size_toArray]; omega) (by omega)) ⟨e, e2, ?_⟩
  refine ⟨.lG, _, I.Kw (its' := its ++ its2) hH e (by simp) (r.append r2) ?_, rfl, q⟩
  rw [List.length_append]
  omega
noncomputable def BB : D → List D → M D
  | .obj n, [y] => fun G => match G[n]?, vp G y with
    | some (.lst xs), some ys => if xs.length + ys.length ≤ sizeLine then .ok .lG (G.set n (.lst (xs ++ ys))) else .stuck
    | _, _ => .stuck
  | _, _ => M.stop
theorem II : Jq X "list.extend" (MM X EE BB) := by
  intro pins s σ0 H x xs v us Q I rx MN ⟨σ, τ, ρ, G, d, ds, ab, rd, Jy, ok⟩
  cases d <;> try exact ok.elim
  rename_i n
  match ds, ok with
  | [], ok => exact ok.elim
  | a :: _ :: _, ok => exact ok.elim
  | [y], ok =>
    obtain ⟨yv, rfl, ry⟩ := qH Jy
    unfold Rep at rd
    obtain ⟨p, rfl, e1⟩ := rd
    dsimp only [BB] at ok
    cases g : G[n]? with
    | none => rw [g] at ok; exact ok.elim
    | some o =>
      cases g2 : vp G y with
      | none => rw [g, g2] at ok; cases o <;> exact ok.elim
      | some ys =>
        rw [g, g2] at ok
        cases o with
        | dead => exact ok.elim
        | dct kv => exact ok.elim
        | lst zs =>
          dsimp only at ok
          obtain ⟨p', vs, e3, hp, rs⟩ := ab.hp.lst g
          rw [e1] at e3; cases e3
          obtain ⟨p2, ws, rfl, s2, LW⟩ := gY (pins := pins) (σ0 := σ0) (s := s) ab.hp ry (xD g2)
          by_cases hz : zs.length + ys.length ≤ sizeLine
          · rw [if_pos hz] at ok
            exact C0 pins s σ0 H _ _ v us Q I rx MN ⟨p, p2, vs, ws, rfl, rfl, hp, s2, by rw [← rs.length, ← LW.length]; exact hz, CO (xs := zs) ab e1 hp (rs.append LW) (fun _ _ => by unfold Rep; rfl) ok⟩
          · rw [if_neg hz] at ok; exact ok.elim
theorem IJ {o : Expr} {apos cpos : Pos} {mo : DS → M D} {m : DS → M (List D)} (ho : QE X EE o mo) (ha : QA X EE [e] m) (hb : xo o = true := by rfl) (h : aO [e] = true := by rfl) (hline : (apos.endLine == cpos.line) = true := by rfl) : QE X EE (.Call (.Attribute o "extend" apos) [e] [] cpos) (ja "list" BB mo m) := by
  have h' : fZ e = true ∧ aO [] = true := by simpa [aO] using h
  exact Jx F.plainAttrs_list F.slot_list_extend F.type_list_extend II ho ha (pV hb _ _) (CV h (by simp)) hline (dD h'.1 _ _) (fj (es := []) rfl)
end
end L3
end
section
set_option Elab.async false
set_option linter.all false
set_option maxRecDepth 100000
namespace L3
open PySem PySem.Spec L2 PyProof.Rows
noncomputable def Ls (lo st : Int) (n : Nat) : It := ⟨fun i _ => i < n, fun i H x H' => H' = H ∧ x = .int (lo + (i : Int) * st), fun i _ => n ≤ i⟩
theorem BC {P : Program} {w : World} {K : PySem.W.Frag} {tg : Expr} (it : Addr) (lo c : Int) (n : Nat) : Turn P w K tg (Ls lo c n) [it] it (fun i h => IsRangeIter h it (lo + (i : Nat) * c) ((n : Int) - (i : Nat)) c) where
  mem := by simp
  obj := fun i h st b hb => by
    have e : b = it := by simpa using hb
    subst e
    exact ⟨_, st, fun v z => by
      have z' : Data.fields _ = Data.cell v := z
      cases z'⟩
  keep := fun i h h' st k => k it (by simp) _ st
  item := by
    intro X hP hw hK hc i pins s σ H E I hf st hg
    subst hP hw hK
    obtain ⟨f0, f1, f2, f3, f4, f5⟩ := hf it (by simp)
    have W := Walks.range (prog := X.prog) (w := X.w) (I.ok.hd hc) it lo c n
    refine W.item i s _ _ hg st fun v h' tk hv st' kk => ?_
    obtain ⟨t, rfl⟩ := hv
    have I1 : Inv X pins σ H { s with heap := h', toks := tk } := I.turned (fun b o hb e => kk b o (by simpa using hb) e) f0 f1 f3 f4 f5
    exact ⟨_, rfl, yR (s := { s with heap := h', toks := tk }) (n := "range_iterator") st' rfl rfl (by decide) ⟨.int (lo + i * c), H, I1, ⟨t, rfl⟩, ⟨rfl, rfl⟩, st', fun b hb => (hf b hb).1⟩⟩
  done := by
    intro X hP hw hK hc i pins s σ H E I hf st hg
    subst hP hw hK
    obtain ⟨f0, f1, f2, f3, f4, f5⟩ := hf it (by simp)
    exact wpAny_pyNext_range_end (I.ok.hd hc) st (by have : n ≤ i := hg; omega) fun h' eb => ⟨rfl, I.turned (t' := s.toks) (fun b o hb e => eb b o hb e) f0 f1 f3 f4 f5⟩
  self := fun _ _ _ _ _ st h => wpAny_pyIter_rangeiter st h
noncomputable def ud (lo hi c : Int) : Nat := if lo < hi then ((hi - lo - 1) / c + 1).toNat else 0
noncomputable def C1 (lo c : Int) (n : Nat) : View := fun _ i => some (if i < n then some (.int (lo + (i : Int) * c)) else none)
noncomputable def ints3 : List D → Option (Int × Int × Int)
  | [.int lo, .int hi, .int c] => some (lo, hi, c)
  | _ => none
theorem GG {ds : List D} {lo hi c : Int} (h : ints3 ds = some (lo, hi, c)) : ds = [.int lo, .int hi, .int c] := by
  unfold ints3 at h
  split at h
  · cases h; rfl
  · cases h
noncomputable def zq (m : DS → M (List D)) : MI := fun τ => (m τ).bind fun ds => match ints3 ds with
  | some (lo, hi, c) => fun G => if -(2 ^ 30) ≤ lo ∧ lo < 2 ^ 30 ∧ -(2 ^ 30) ≤ hi ∧ hi < 2 ^ 30 ∧ 0 < c ∧ c < 2 ^ 30 then .ok (ud lo hi c + 1, C1 lo c (ud lo hi c)) G else .stuck
  | none => M.stop
section
variable {X : Cx} {EE : ki} {tg iter a b c : Expr} {pos p pc : Pos} {m : DS → M (List D)}
theorem Lu {H : Hp} {ρ : List Addr} {lo c : Int} {n : Nat} : JV X.K X.mg (Ls lo c n) (C1 lo c n) H ρ := by
  intro i H' ρ' G' f hp
  unfold C1
  by_cases h : i < n
  · rw [if_pos h]
    refine ⟨fun e => (by cases e), fun d e => ⟨h, fun x H2 hy => ?_⟩⟩
    cases e
    obtain ⟨rfl, rfl⟩ := hy
    exact ⟨⟨.refl, fun _ h => h⟩, by unfold Rep; rfl⟩
  · rw [if_neg h]
    exact ⟨fun _ => Nat.le_of_not_lt h, fun d e => (by cases e)⟩
theorem Lv {lo hi c : Int} (h1 : -(2 ^ 30) ≤ lo) (h2 : lo < 2 ^ 30) (h3 : -(2 ^ 30) ≤ hi) (h4 : hi < 2 ^ 30) (h5 : 0 < c) (h6 : c < 2 ^ 30) : Builtin.Range.small lo hi c = true := by
  unfold Builtin.Range.small
  have hs : Builtin.Range.rangeSize lo hi c = if lo < hi then (hi - lo - 1) / c + 1 else 0 := by
    unfold Builtin.Range.rangeSize; rw [if_pos h5]
  rw [hs]
  have hd : 0 ≤ hi - lo - 1 → (hi - lo - 1) / c ≤ hi - lo - 1 := fun h => Int.ediv_le_self _ h
  have hd2 : 0 ≤ hi - lo - 1 → 0 ≤ (hi - lo - 1) / c := fun h => Int.ediv_nonneg h (by omega)
  have hm : (hi - lo - 1) / c * c ≤ hi - lo - 1 := Int.ediv_mul_le _ (by omega)
  simp only [Builtin.Range.rangeFitsLong, Bool.and_eq_true, Bool.or_eq_true, decide_eq_true_eq, beq_iff_eq, show c > 0 from h5, if_true]
  split <;> omega
theorem IK (hm : X.mg "range" = none) (zg : Gl X "range") (ha : QA X EE [a, b, c] m) (h : aO [a, b, c] = true := by rfl) : QI X EE tg (.Call (.Name "range" p) [a, b, c] [] pc) (zq m) := by
  have h' : fZ a = true ∧ aO [b, c] = true := by simpa [aO] using h
  intro pins s σ H R I hq
  obtain ⟨τ, ρ, G, ab, ok⟩ := hq
  dsimp only [zq, M.bind] at ok
  refine wpAny_Call_Name_kw (kK I zg hm boot_range ?_ (by decide) (by decide))
  have hA : qS X.K X.mg EE m σ H fun vs H1 => ∃ ρ1 G1 ds, Ab X.K X.mg σ H1 τ ρ1 G1 ∧ ir X.K H H1 ρ ρ1 ∧ aH X.K X.mg ρ1 H1 ds vs ∧ m τ G = .ok ds G1 := by
    refine ⟨τ, ρ, G, ab, ?_⟩
    cases e : m τ G with
    | stuck => rw [e] at ok; exact ok
    | fL c G' => rw [e] at ok; exact ok
    | ok ds G' => exact fun vs H' ρ' f fC r => ⟨ρ', G', ds, fC, f, r, rfl⟩
  refine PyProof.Rows.callWith_type1 (j4 (ha pc pins s σ H _ I hA) fun us s1 zY => ?_) (dD h'.1 _ _) (fj h'.2)
  obtain ⟨vs, H1, I1, r1, ρ1, G1, ds, qT, f1, rs, em⟩ := zY
  rw [em] at ok
  dsimp only at ok
  cases q : ints3 ds with
  | none => rw [q] at ok; exact ok.elim
  | some x =>
    obtain ⟨lo, hi, c⟩ := x
    rw [q] at ok
    dsimp only at ok
    have e := GG q
    subst e
    by_cases hc : -(2 ^ 30) ≤ lo ∧ lo < 2 ^ 30 ∧ -(2 ^ 30) ≤ hi ∧ hi < 2 ^ 30 ∧ 0 < c ∧ c < 2 ^ 30
    · rw [if_pos hc] at ok
      obtain ⟨h1, h2, h3, h4, h5, h6⟩ := hc
      simp only [aH, Rep] at rs
      obtain ⟨v1, w1, rfl, rfl, v2, w2, rfl, rfl, v3, w3, rfl, rfl, rfl⟩ := rs
      cases r1 with
      | cons u1 r1 =>
      cases r1 with
      | cons u2 r1 =>
      cases r1 with
      | cons u3 r1 =>
      cases r1
      obtain ⟨t1, rfl⟩ := u1
      obtain ⟨t2, rfl⟩ := u2
      obtain ⟨t3, rfl⟩ := u3
      refine call_range_3 (by omega) ?_ (.inl (PyProof.noPylong_small (by omega)))
      refine wpAny_pyIter_range (s := { s1 with heap := s1.heap.push { cls := .type "range", data := .fields #[.int lo t1, .int hi t2, .int c t3] }, toks := s1.toks }) (IsRange.new ..) (Lv h1 h2 h3 h4 h5 h6) ?_
      have I2 : Inv X pins σ H1 { s1 with heap := s1.heap.push { cls := .type "range", data := .fields #[.int lo t1, .int hi t2, .int c t3] }, toks := s1.toks } := I1.kept fun b o e => Heap.get?_push_of_some _ e
      refine ⟨_, [_], _, Ls lo c (ud lo hi c), H1, rfl, I2.kept (t' := s1.toks) fun b o e => Heap.get?_push_of_some _ e, BC _ lo c (ud lo hi c), ?_, fun b hb => ?_, ok _ H1 ρ1 f1 qT Lu⟩
      · have e1 : lo + ((0 : Nat) : Int) * c = lo := by simp
        have e2 : ((ud lo hi c : Nat) : Int) - ((0 : Nat) : Int) = Builtin.Range.rangeSize lo hi c := by
          unfold ud Builtin.Range.rangeSize
          rw [if_pos h5]
          split
          · have : 0 ≤ (hi - lo - 1) / c := Int.ediv_nonneg (by omega) (by omega)
            omega
          · simp
        show IsRangeIter _ _ (lo + ((0 : Nat) : Int) * c) (((ud lo hi c : Nat) : Int) - ((0 : Nat) : Int)) c
        rw [e1, e2]
        exact Heap.get?_push_size _ rfl
      · rw [List.mem_singleton.mp hb]
        exact I2.yl (Nat.le_refl _) (I2.hok.fresh (Nat.le_refl _))
    · rw [if_neg hc] at ok; exact ok.elim
end
end L3
end
section
set_option Elab.async false
set_option linter.all false
set_option maxRecDepth 100000
namespace L3
open PySem PySem.Spec L2
noncomputable def BD : D → Option Key
  | .int i => some (Sum.inl i)
  | .str x => some (Sum.inr x)
  | _ => none
noncomputable def mU (kvs : List (Key × D)) (k : Key) : Option D := (kvs.find? fun kv => decide (kv.1 = k)).map (·.2)
noncomputable def sF (kvs : List (Key × D)) (k : Key) (v : D) : List (Key × D) :=
  if (kvs.any fun kv => decide (kv.1 = k)) = true then kvs.map (fun kv => if kv.1 = k then (kv.1, v) else kv) else kvs ++ [(k, v)]
section
variable {K : PySem.W.Frag} {mg : Str → Option Value} {H : Hp} {ρ : List Addr} {G : DH}
theorem BE (k : Key) : ∀ {kvs : List (Key × D)} {xs : List V}, aH K mg ρ H (kvs.map (·.2)) xs →
    (mU kvs k = none ∧ qR ((kvs.map (·.1)).zip xs) k = none) ∨ ∃ d v, mU kvs k = some d ∧ qR ((kvs.map (·.1)).zip xs) k = some v ∧ Rep K mg ρ H d v
  | [], xs, r => .inl ⟨rfl, rfl⟩
  | p :: q, xs, r => by
    unfold aH at r
    obtain ⟨v, r', rfl, h1, h2⟩ := r
    by_cases e : p.1 = k
    · exact .inr ⟨p.2, v, by simp [mU, e], by simp [qR, e], h1⟩
    · have ih := BE k h2
      have e1 : mU (p :: q) k = mU q k := by simp [mU, e]
      have e2 : qR (((p :: q).map (·.1)).zip (v :: r')) k = qR ((q.map (·.1)).zip r') k := tZ (p := (p.1, v)) e
      rw [e1, e2]; exact ih
theorem DR (k : Key) : ∀ {kvs : List (Key × D)} {xs : List V}, kvs.length = xs.length → (((kvs.map (·.1)).zip xs).any fun kv => decide (kv.1 = k)) = (kvs.any fun kv => decide (kv.1 = k))
  | [], xs, h => by simp
  | p :: q, [], h => by simp at h
  | p :: q, x :: xs, h => by
    have := DR k (kvs := q) (xs := xs) (by simpa using h)
    simp [this]
theorem BF (k : Key) {d : D} {v : V} (rv : Rep K mg ρ H d v) : ∀ {kvs : List (Key × D)} {xs : List V}, aH K mg ρ H (kvs.map (·.2)) xs →
    ∃ ys, (((kvs.map (·.1)).zip xs).map fun kv => if kv.1 = k then (kv.1, v) else kv) = ((kvs.map fun kv => if kv.1 = k then (kv.1, d) else kv).map (·.1)).zip ys ∧ aH K mg ρ H ((kvs.map fun kv => if kv.1 = k then (kv.1, d) else kv).map (·.2)) ys
  | [], xs, r => ⟨[], by simp, by simpa using aH.nil⟩
  | p :: q, xs, r => by
    unfold aH at r
    obtain ⟨x, r', rfl, h1, h2⟩ := r
    obtain ⟨ys, e, rs⟩ := BF k rv h2
    by_cases hk : p.1 = k
    · refine ⟨v :: ys, ?_, ?_⟩
      · simp only [List.map_cons, List.zip_cons_cons, if_pos hk, e]
      · simp only [List.map_cons, if_pos hk]; exact .cons rv rs
    · refine ⟨x :: ys, ?_, ?_⟩
      · simp only [List.map_cons, List.zip_cons_cons, if_neg hk, e]
      · simp only [List.map_cons, if_neg hk]; exact .cons h1 rs
theorem BG {α β : Type} : ∀ {a : List α} {b : List β} (x : α) (y : β), a.length = b.length → (a ++ [x]).zip (b ++ [y]) = a.zip b ++ [(x, y)]
  | [], [], x, y, _ => rfl
  | [], _ :: _, _, _, h => by simp at h
  | _ :: _, [], _, _, h => by simp at h
  | p :: a, q :: b, x, y, h => by simp [BG (a := a) (b := b) x y (by simpa using h)]
theorem GH (k : Key) {d : D} {v : V} (rv : Rep K mg ρ H d v) {kvs : List (Key × D)} {xs : List V} (r : aH K mg ρ H (kvs.map (·.2)) xs) :
    ∃ ys, putK ((kvs.map (·.1)).zip xs) k v = ((sF kvs k d).map (·.1)).zip ys ∧ aH K mg ρ H ((sF kvs k d).map (·.2)) ys := by
  have hl : kvs.length = xs.length := by simpa using r.length
  unfold putK sF
  rw [DR k hl]
  by_cases e : (kvs.any fun kv => decide (kv.1 = k)) = true
  · rw [if_pos e, if_pos e]; exact BF k rv r
  · rw [if_neg e, if_neg e]
    refine ⟨xs ++ [v], ?_, ?_⟩
    · rw [List.map_append, List.map_cons, List.map_nil, BG _ _ (by simpa using hl)]
    · rw [List.map_append]; exact r.append (.cons rv .nil)
theorem ni.dct {n : Nat} {kvs : List (Key × D)} (h : ni K mg H ρ G) (e : G[n]? = some (.dct kvs)) : ∃ a xs, ρ[n]? = some a ∧ H a = some (.dK ((kvs.map (·.1)).zip xs)) ∧ aH K mg ρ H (kvs.map (·.2)) xs := by
  obtain ⟨a, e1, xs, e2, r⟩ := h.ob n _ e
  exact ⟨a, xs, e1, e2, r⟩
theorem xE {p : Addr} {u w : List (Key × V)} (hp : H p = some (.dK u)) (ρ : List Addr) : ir K H (upd H p (.dK w)) ρ ρ := by
  refine ⟨fun a zs h => ?_, fun a zs h => ?_, ⟨[], by simp⟩, fun a φ h => by rw [bQ (lH h hp (by intro z; cases z))]; exact h⟩
  · rcases h with (h | ⟨q, h⟩) | h
    · exact .inl (.inl (by rw [bQ (lH h hp (by intro z; cases z))]; exact h))
    · exact .inl (.inr ⟨q, by rw [bQ (lH h hp (by intro z; cases z))]; exact h⟩)
    · exact .inr h
  · rcases h with ⟨q, h⟩ | h
    · exact .inl ⟨q, by rw [bQ (lH h hp (by intro z; cases z))]; exact h⟩
    · exact .inr h
theorem ni.Nk {p : Addr} (h : ni K mg H ρ G) (hp : H p = none) : ni K mg (upd H p (.dK [])) (ρ ++ [p]) (G ++ [.dct []]) := by
  have f : ir K H (upd H p (.dK [])) ρ (ρ ++ [p]) := (ju hp ρ).trans (jh ρ p)
  refine ⟨by simp [h.hl], ?_, fun n ob e => ?_⟩
  · rw [List.nodup_append]
    refine ⟨h.nd, by simp, fun a ha b hb => ?_⟩
    have e : b = p := by simpa using hb
    subst e
    rintro rfl
    exact h.not_mem hp ha
  · by_cases hn : n < G.length
    · rw [List.getElem?_append_left hn] at e
      obtain ⟨a, e1, r'⟩ := h.ob n ob e
      exact ⟨a, f.get e1, r'.mono f fun u q => by rw [bQ (fX q hp)]; exact q⟩
    · have hl : n < (G ++ [DO.dct []]).length := (List.getElem?_eq_some_iff.mp e).1
      have hn' : n = G.length := by simp at hl; omega
      subst hn'
      rw [bg] at e
      cases e
      exact ⟨p, by rw [← h.hl, bg], [], g9, .nil⟩
theorem ni.putD {n : Nat} {a : Addr} {es : List (Key × D)} {u : List (Key × V)} {ys : List V} (h : ni K mg H ρ G) (hn : ρ[n]? = some a) (ha : H a = some (.dK u)) (r : aH K mg ρ H (es.map (·.2)) ys) :
    ni K mg (upd H a (.dK ((es.map (·.1)).zip ys))) ρ (G.set n (.dct es)) := by
  have f : ir K H (upd H a (.dK ((es.map (·.1)).zip ys))) ρ ρ := xE ha ρ
  refine ⟨by simp [h.hl], h.nd, fun m ob e => ?_⟩
  by_cases hm : n = m
  · subst hm
    rw [List.getElem?_set, if_pos rfl] at e
    split at e
    · cases e
      exact ⟨a, hn, ys, g9, r.mono f⟩
    · cases e
  · rw [List.getElem?_set_ne hm] at e
    obtain ⟨b, e1, r'⟩ := h.ob m ob e
    have hb : b ≠ a := by
      rintro rfl
      obtain ⟨h1, Dz⟩ := List.getElem?_eq_some_iff.mp hn
      obtain ⟨h2, Fd⟩ := List.getElem?_eq_some_iff.mp e1
      exact hm ((List.getElem_inj h.nd).mp (Dz.trans Fd.symm))
    exact ⟨b, e1, r'.mono f fun u q => by rw [bQ hb]; exact q⟩
theorem DT {d : D} {v : V} {k : Key} (r : Rep K mg ρ H d v) (e : BD d = some k) : v = kV k := by
  cases d <;> simp [BD] at e
  · subst e; unfold Rep at r; exact r
  · subst e; unfold Rep at r; exact r
end
section
variable {X : Cx} {EE : ki} {e f o i a : Expr} {pos apos cpos tpos : Pos} {mo me mf mv mi : DS → M D}
noncomputable def GI : DS → M D := fun _ G => .ok (.obj G.length) (G ++ [.dct []])
theorem IL : QE X EE (.Dict [] [] pos) GI := PE.mono FH fun σ H Q ⟨τ, ρ, G, ab, ok⟩ => fun p hp => by
  refine ok (.ref p) _ (ρ ++ [p]) ((ju hp ρ).trans (jh ρ p)) ⟨ab.st.mono ((ju hp ρ).trans (jh ρ p)), ab.hp.Nk hp⟩ ?_
  unfold Rep
  exact ⟨p, rfl, by rw [← ab.hp.hl, bg]⟩
noncomputable def zu (G : DH) : D → Bool
  | .obj n => match G[n]? with
    | some (.dct _) => true
    | _ => false
  | _ => false
noncomputable def DU (d k x : D) : M D := fun G => match d, BD k with
  | .obj n, some y => match G[n]? with
    | some (.dct kvs) => .ok ((mU kvs y).getD x) G
    | _ => .stuck
  | _, _ => .stuck
noncomputable def pe (mo me mf : DS → M D) : DS → M D := fun τ => (mo τ).bind fun d G => if zu G d = true then ((me τ).bind fun k => (mf τ).bind fun x => DU d k x) G else .stuck
theorem GJ {G : DH} {d : D} (h : zu G d = true) : ∃ n kvs, d = .obj n ∧ G[n]? = some (.dct kvs) := by
  cases d <;> simp [zu] at h
  rename_i n
  cases g : G[n]? with
  | none => rw [g] at h; cases h
  | some ob =>
    cases ob with
    | lst _ => rw [g] at h; cases h
    | dead => rw [g] at h; cases h
    | dct kvs => exact ⟨n, kvs, rfl, g⟩
theorem BH (hu : X.A.units + 600 < cLine) (ho : QE X EE o mo) (he : QE X EE e me) (hf : QE X EE f mf) (hb : xo o = true := by rfl) (h : aO [e, f] = true := by rfl) (hline : (apos.endLine == cpos.line) = true := by rfl) :
    QE X EE (.Call (.Attribute o "get" apos) [e, f] [] cpos) (pe mo me mf) := by
  have h' : fZ e = true ∧ fZ f = true := by simpa [aO] using h
  refine PE.mono (FI (by omega) ho he hf ⟨pV hb _ _, CV h (by simp), hline, by rw [dD h'.1, dD h'.2]; rfl⟩) fun σ H Q ⟨τ, ρ, G, ab, ok⟩ => ?_
  refine ⟨τ, ρ, G, ab, ?_⟩
  dsimp only [pe, M.bind] at ok
  cases e1 : mo τ G with
  | stuck => rw [e1] at ok; exact ok
  | fL c G' => rw [e1] at ok; exact ok
  | ok d G1 =>
    rw [e1] at ok
    dsimp only at ok
    intro vd H1 ρ1 f1 qT r1
    by_cases hd : zu G1 d = true
    · rw [if_pos hd] at ok
      obtain ⟨n, kvs, rfl, g1⟩ := GJ hd
      unfold Rep at r1
      obtain ⟨p, rfl, ep⟩ := r1
      obtain ⟨p', xs, LQ, eH, _⟩ := qT.hp.dct g1
      rw [ep] at LQ; cases LQ
      refine ⟨p, rfl, .inl ⟨_, .inl eH⟩, τ, ρ1, G1, qT, ?_⟩
      cases e2 : me τ G1 with
      | stuck => rw [e2] at ok; exact ok
      | fL c G' => rw [e2] at ok; exact fun H' ρ' f fC => ok H' ρ' (f1.trans f) fC
      | ok k G2 =>
        rw [e2] at ok
        dsimp only at ok
        intro vk H2 ρ2 f2 iu r2
        refine ⟨τ, ρ2, G2, iu, ?_⟩
        cases e3 : mf τ G2 with
        | stuck => rw [e3] at ok; exact ok
        | fL c G' => rw [e3] at ok; exact fun H' ρ' f fC => ok H' ρ' ((f1.trans f2).trans f) fC
        | ok x G3 =>
          rw [e3] at ok
          dsimp only [DU] at ok
          intro vx H3 ρ3 f3 zd r3
          cases ek : BD k with
          | none => rw [ek] at ok; exact ok.elim
          | some y =>
            rw [ek] at ok
            dsimp only at ok
            cases g : G3[n]? with
            | none => rw [g] at ok; exact ok.elim
            | some ob =>
              cases ob with
              | lst _ => rw [g] at ok; exact ok.elim
              | dead => rw [g] at ok; exact ok.elim
              | dct TH =>
                rw [g] at ok
                dsimp only at ok
                obtain ⟨p3, Ve, Ro, TJ, TL⟩ := zd.hp.dct g
                rw [(f2.trans f3).get ep] at Ro; cases Ro
                have ev := DT r2 ek
                subst ev
                refine ⟨_, CH.k TJ, ?_⟩
                refine ok _ H3 ρ3 ((f1.trans f2).trans f3) zd ?_
                rcases BE y TL with ⟨z1, z2⟩ | ⟨d, v, z1, z2, z3⟩
                · rw [z1, z2]; exact r3
                · rw [z1, z2]; exact z3
    · rw [if_neg hd] at ok; exact ok.elim
noncomputable def BI (v d k : D) : M D := fun G => match d, BD k with
  | .obj n, some y => match G[n]? with
    | some (.dct kvs) => if kvs.length < sizeLine then .ok .lG (G.set n (.dct (sF kvs y v))) else .stuck
    | _ => .stuck
  | _, _ => .stuck
noncomputable def vP (mv mo mi : DS → M D) : MS := fun τ => fS ((mv τ).bind fun v => (mo τ).bind fun o => (mi τ).bind fun i => BI v o i) (fun _ G => .nx τ G) fun c G => .xn c τ G
theorem DV (hu : X.A.units + 600 < cLine) (hv : QE X EE a mv) (ho : QE X EE o mo) (hi : QE X EE i mi) (h : Ai a = true := by rfl) : QS X EE (.Assign [.Subscript o i tpos] a pos) (vP mv mo mi) :=
  PS.mono (HW (by omega) ho hi hv (Aj h _ _ _)) fun Dd σ H ⟨τ, ρ, G, ab, ok⟩ => by
    refine ⟨τ, ρ, G, ab, ?_⟩
    dsimp only [vP, fS, M.bind] at ok
    cases e1 : mv τ G with
    | stuck => rw [e1] at ok; exact ok
    | fL c G' => rw [e1] at ok; exact fun H' ρ' f fC => ok σ H' ρ' f fC
    | ok v G1 =>
      rw [e1] at ok
      intro vv H1 ρ1 f1 qT r1
      refine ⟨τ, ρ1, G1, qT, ?_⟩
      dsimp only at ok
      cases e2 : mo τ G1 with
      | stuck => rw [e2] at ok; exact ok
      | fL c G' => rw [e2] at ok; exact fun H' ρ' f fC => ok σ H' ρ' (f1.trans f) fC
      | ok ov G2 =>
        rw [e2] at ok
        intro vo H2 ρ2 f2 iu r2
        refine ⟨τ, ρ2, G2, iu, ?_⟩
        dsimp only at ok
        cases e3 : mi τ G2 with
        | stuck => rw [e3] at ok; exact ok
        | fL c G' => rw [e3] at ok; exact fun H' ρ' f fC => ok σ H' ρ' ((f1.trans f2).trans f) fC
        | ok iv G3 =>
          rw [e3] at ok
          intro vi H3 ρ3 f3 zd r3
          dsimp only [BI] at ok
          cases ov <;> try exact ok.elim
          rename_i n
          cases ek : BD iv with
          | none => rw [ek] at ok; exact ok.elim
          | some y =>
            rw [ek] at ok
            have r2' := r2.mono f3
            unfold Rep at r2'
            obtain ⟨p, rfl, e4⟩ := r2'
            dsimp only at ok
            cases g : G3[n]? with
            | none => rw [g] at ok; exact ok.elim
            | some ob =>
              cases ob with
              | lst _ => rw [g] at ok; exact ok.elim
              | dead => rw [g] at ok; exact ok.elim
              | dct kvs =>
                rw [g] at ok
                dsimp only at ok
                obtain ⟨p', xs, e5, hp, rs⟩ := zd.hp.dct g
                rw [e4] at e5; cases e5
                by_cases hl : kvs.length < sizeLine
                · rw [if_pos hl] at ok
                  have ev := DT r3 ek
                  subst ev
                  have rv := r1.mono (f2.trans f3)
                  obtain ⟨ys, ey, ry⟩ := GH y rv rs
                  refine ⟨p, _, rfl, CI.k hp ?_, ?_⟩
                  · have := rs.length
                    simp at this
                    simp [← this]; exact hl
                  · rw [ey]
                    refine ok σ _ ρ3 (((f1.trans f2).trans f3).trans (xE hp ρ3)) ⟨zd.st.mono (xE hp ρ3), zd.hp.putD e4 hp ry⟩
                · rw [if_neg hl] at ok; exact ok.elim
end
end L3
end
section
set_option Elab.async false
set_option linter.all false
set_option maxRecDepth 100000
namespace L3
open PySem PySem.Spec L2 PyProof.Rows
theorem BJ {prog : Program} {w : World} {A : Around} {E : Value → Shared → Prop} {s : Shared} {it l : Addr} {items : Array Value} {Q : List Value → Shared → Prop} (hh : A.handled = none) (hit : s.heap.IsRevIter it l ((items.size : Int) - 1)) (hl : s.heap.IsList l items) (hne : l ≠ it) (hz : items.size ≤ sizeLine)
    (hQ : ∀ s' acc, (∀ b o, b ≠ it → s.heap.get? b = some o → s'.heap.get? b = some o) → s'.gens = s.gens → s'.drawn = s.drawn → s'.os = s.os → ItemsOf (fun i v => items[items.size - 1 - i]? = some v) acc items.size → Q acc.toList s') :
    wpAny (model prog w) A (collect (.ref it)) Q E s := by
  have PK : l < s.heap.objs.size := by obtain ⟨o, e, _⟩ := hl; exact Heap.lt_size e
  have Tq : it < s.heap.objs.size := by obtain ⟨o, e, _⟩ := hit; exact Heap.lt_size e
  unfold collect
  refine wpAny_bind (wpAny_runValue (codeAny_builtin F.entry_proto_collect ?_))
  rw [Around.under_plainId F.plain_proto_collect _]
  show wpAny _ A.in1 (newList [] >>= fun l => again (.builtin "list.__iadd__" ⟨[l, .ref it], []⟩)) _ _ s
  refine wpAny_bind (wpAny_newObj_type ?_)
  refine wpAny_pure ⟨plainId_quiet F.plain_list_iadd _, codeAny_builtin F.entry_list_iadd ?_⟩
  rw [Around.under_plainId F.plain_list_iadd _]
  show wpAny _ A.in1 (Builtin.List.listExtendWith (.ref s.heap.objs.size) (.ref it) (.ref s.heap.objs.size)) _ _ _
  have up : ∀ b o, s.heap.get? b = some o → (s.heap.push { cls := .type "list", data := .seq ([] : List Value).toArray }).get? b = some o := fun b o e => Heap.get?_push_of_some _ e
  have fin' : ∀ (s' : Shared) (acc' : Array Value) (c' : Nat), Moved [s.heap.objs.size, it] (fun a b => b = a) { s with heap := s.heap.push { cls := .type "list", data := .seq ([] : List Value).toArray } } s' → s'.heap.get? s.heap.objs.size = some { cls := .type "list", data := .seq acc' c' } →
      ItemsOf (fun i v => items[items.size - 1 - i]? = some v) acc' items.size → wpAny (model prog w) A (match Value.ref s.heap.objs.size with
      | Value.ref a => do
        match (← load a).data with
          | Data.seq xs _ => pure xs.toList
          | _ => unsupported "internal:collect"
      | _ => unsupported "internal:collect") Q E s' := fun s' acc' c' hm hS' hacc => by
    show wpAny _ A (load s.heap.objs.size >>= _) _ _ s'
    refine wpAny_bind (wpAny_load hS' ?_)
    refine wpAny_pure (hQ s' acc' (fun b o hb e => hm.heap b o ?_ (up b o e)) hm.gens hm.drawn hm.os hacc)
    simp [hb, Nat.ne_of_lt (Heap.lt_size e)]
  refine wpAny_mono (xr (A := A) (R := fun r s' => r = .ok (.ret (.ref s.heap.objs.size)) ∧ ∃ acc' c', Moved [s.heap.objs.size, it] (fun a b => b = a) { s with heap := s.heap.push { cls := .type "list", data := .seq ([] : List Value).toArray } } s' ∧ s'.heap.get? s.heap.objs.size = some { cls := .type "list", data := .seq acc' c' } ∧
      ItemsOf (fun i v => items[items.size - 1 - i]? = some v) acc' items.size) (l := l) (items := items) (show A.handled = none from hh) ?_ ?_ hne hz s.heap.objs.size (.ref s.heap.objs.size) 0 ?_ (Nat.ne_of_gt PK) ?_) (fun fin s' h => ?_) (fun e s' h => ?_)
  · obtain ⟨o, e, r⟩ := hit
    exact ⟨o, up _ _ e, r⟩
  · obtain ⟨o, e, r⟩ := hl
    exact ⟨o, up _ _ e, r⟩
  · exact Heap.get?_push_size _ rfl
  · intro s' acc' c' hm hS' hacc
    exact ⟨rfl, acc', c', hm, hS', hacc⟩
  · cases fin with
    | done f =>
      obtain ⟨e, acc', c', h1, h2, h3⟩ := h
      cases e
      exact fin' s' acc' c' h1 h2 h3
    | again c' => exact ⟨h.1, codeAny_mono h.2 fun r s'' hr => by obtain ⟨rfl, acc', c', h1, h2, h3⟩ := hr; exact fin' s'' acc' c' h1 h2 h3⟩
  · exact absurd h.1 (by simp)
theorem wk (it l : Addr) (items : Array Value) (hne : l ≠ it) (hz : items.size ≤ sizeLine) :
    Meets (Builtin.«tuple.__new__» ⟨[.type "tuple", .ref it], []⟩)
      (fun A R s => A.handled = none ∧ s.heap.IsRevIter it l ((items.size : Int) - 1) ∧ s.heap.IsList l items ∧ ∀ (s' : Shared) (acc : Array Value), (∀ b o, b ≠ it → s.heap.get? b = some o → s'.heap.get? b = some o) → s'.gens = s.gens → s'.drawn = s.drawn → s'.os = s.os → ItemsOf (fun i v => items[items.size - 1 - i]? = some v) acc items.size →
        R (.ok (.ret (.ref s'.heap.objs.size))) { s' with heap := s'.heap.push { cls := .type "tuple", data := .seq acc } }) :=
  .of_wp fun prog w A R s h => by
    obtain ⟨hh, hit, hl, h⟩ := h
    have hsub := sub_tuple_self
    have Rp := init_tuple_lookup
    have Vf := madeHere_tuple
    have hT : s.TypeIs (.ref it) "list_reverseiterator" := by
      obtain ⟨o, e, c, _⟩ := hit
      exact ⟨o, e, c⟩
    have TM : A.in1.handled = none := hh
    wp_walk using wpAny_typeOf hT, BJ TM hit hl hne hz
    intro s' acc hk hg hd hos hacc
    show wpAny _ _ (Builtin.Tuple.tupleExact acc.toList.toArray >>= fun v => ret v) _ _ _
    unfold Builtin.Tuple.tupleExact
    refine wpAny_bind (wpAny_newObj_type ?_ (show acc.toList.toArray.size ≤ sizeLine by simp only [Array.toArray_toList]; rw [hacc.1]; exact hz))
    refine wpAny_pure ⟨_, rfl, ?_⟩
    have e : acc.toList.toArray = acc := by simp
    rw [e]
    exact h s' acc hk hg hd hos hacc
theorem xF {prog : Program} {w : World} {A : Around} {E : Value → Shared → Prop} {s : Shared} {it l : Addr} {items : Array Value} {Q : Value → Shared → Prop} (hh : A.handled = none) (hit : s.heap.IsRevIter it l ((items.size : Int) - 1)) (hl : s.heap.IsList l items) (hne : l ≠ it) (hz : items.size ≤ sizeLine)
    (hQ : ∀ (h' : Heap) (tk : Nat) (acc : Array Value), (∀ b o, b ≠ it → s.heap.get? b = some o → h'.get? b = some o) → ItemsOf (fun i v => items[items.size - 1 - i]? = some v) acc items.size → Q (.ref h'.objs.size) { s with heap := h'.push { cls := .type "tuple", data := .seq acc }, toks := tk }) :
    wpAny (model prog w) A (call (.type "tuple") [.ref it]) Q E s := by
  refine callType_new F.called_tuple (by decide) (F.typeCall_tuple_1 _) (F.newCall_tuple_1 _) (fun obj => F.args_object_init_2 obj _) F.entry_tuple_new
    (wk it l items hne hz) ⟨hh, hit, hl, fun s' acc hk hg hd hos hacc => ⟨⟨_, Heap.get?_push_size _ rfl, rfl⟩, ?_⟩⟩
  obtain ⟨h', g', d', tk', os'⟩ := s'
  have e1 : g' = s.gens := hg
  have e2 : d' = s.drawn := hd
  have e3 : os' = s.os := hos
  subst e1 e2 e3
  exact hQ h' tk' acc hk hacc
noncomputable def BK : List D → M D
  | [d] => fun G => match aD G d with
    | some (.lst xs) => cN xs.reverse G
    | _ => .stuck
  | _ => M.stop
section
variable {X : Cx} {EE : ki} {e : Expr} {m : DS → M (List D)} {p p2 pos pos2 : Pos}
theorem BL (hc : X.calm = true) (hm1 : X.mg "tuple" = none) (PL : Gl X "tuple") (hm2 : X.mg "reversed" = none) (PM : Gl X "reversed") (ha : QA X EE [e] m) (h : aO [e] = true := by rfl) :
    QE X EE (.Call (.Name "tuple" p) [.Call (.Name "reversed" p2) [e] [] pos2] [] pos) (az BK m) := by
  have h' : fZ e = true ∧ aO [] = true := by simpa [aO] using h
  intro pins s σ H Q I hq
  have hq' := tu (k := fun _ ds => BK ds) hq
  refine wpAny_Call_Name_kw (kK I PL hm1 boot_tuple ?_ (by decide) (by decide))
  refine PyProof.Rows.callWith_type1 ?_ (dD rfl _ _) (fj (es := []) rfl)
  rw [dD (e := .Call (.Name "reversed" p2) [e] [] pos2) rfl]
  show wpAny _ _ (spliced ((false, eval _ X.env) :: backTo pos (starEach [] X.env))) _ _ s
  refine Calls.spliced_cons ?_
  refine wpAny_Call_Name_kw (kK I PM hm2 xu ?_ (by decide) (by decide))
  refine PyProof.Rows.callWith_type1 (j4 (ha pos2 pins s σ H _ I hq') fun us s1 zY => ?_) (dD h'.1 _ _) (fj (es := []) rfl)
  obtain ⟨vs, H1, I1, r1, τ, ρ, G, ds, ab, rs, ok⟩ := zY
  match ds, ok with
  | [], ok => exact ok.elim
  | _ :: _ :: _, ok => exact ok.elim
  | [d], ok =>
    obtain ⟨x, rfl, rx⟩ := qH rs
    obtain ⟨u, rfl, ru⟩ := vals1 r1
    dsimp only [BK] at ok
    cases q : aD G d with
    | none => rw [q] at ok; exact ok.elim
    | some sk =>
      rw [q] at ok
      cases sk with
      | tup zs => exact ok.elim
      | str z => exact ok.elim
      | lst zs =>
        dsimp only at ok
        obtain ⟨l, ys, rfl, sq, rv⟩ := gY (pins := pins) (σ0 := σ) (s := s1) ab.hp rx q
        cases ru
        obtain ⟨its, vv, pl, hz⟩ := I1.list sq
        have hlen := vv.length
        have hl := pl.isList
        have hlt : l < s1.heap.objs.size := by obtain ⟨_, e, _⟩ := hl; exact Heap.lt_size e
        refine call_reversed_list hl ?_
        refine Calls.spliced_nil ?_
        refine xF (l := l) (items := its.toArray) (show X.A.handled = none from I.ok.hd hc) ⟨_, Heap.get?_push_size _ rfl, rfl, rfl⟩ (hl.push _) (Nat.ne_of_lt hlt) (by simp; omega) fun h' tk acc' kp hacc => ?_
        have ea := zm hacc
        subst ea
        obtain ⟨hlr, hn⟩ := Ad ab rv.rev ok
        have I2 : Inv X pins σ H1 { s1 with heap := h', toks := tk } := I1.kept (t' := tk) (fun b o e => kp b o (Nat.ne_of_lt (Heap.lt_size e)) (Heap.get?_push_of_some _ e))
        have I3 : Inv X pins σ (upd H1 h'.objs.size (.tup ys.reverse)) { s1 with heap := h'.push { cls := .type "tuple", data := .seq its.reverse.toArray }, toks := tk } :=
          I2.laid (t' := tk) (fun b o e => Heap.get?_push_of_some _ e) (Nat.le_refl _) (show kD X.prog X.w _ _ _ (.tup ys.reverse) from ⟨hlr, its.reverse, Vals.rev vv, IsTup.new _ _⟩)
        exact ⟨.ref h'.objs.size, _, I3, rfl, hn _ (I2.hok.fresh (Nat.le_refl _))⟩
end
end L3
end
section
set_option Elab.async false
set_option linter.all false
set_option maxRecDepth 100000
namespace L3
open PySem PySem.Spec L2
section
variable {prog : Program} {w : World} {A : Around} {E : Value → Shared → Prop} {s : Shared}
theorem wm {it t : Addr} {i : Nat} {items : Array Value} {x : Value} {Q : Value → Shared → Prop} (hit : s.heap.IsTupleIter it t i)
    (ht : s.heap.IsTuple t items) (hx : items[i]? = some x)
    (hQ : ∀ h', h'.IsTupleIter it t (i + 1) → Heap.SameBut it s.heap h' → Q x { s with heap := h' }) :
    wpAny (model prog w) A (Builtin.SmallTypes.nextOf (.ref it)) Q E s := by
  obtain ⟨o, ho, hc, hd⟩ := id hit
  obtain ⟨ol, LV, _, nl, hdl⟩ := ht
  unfold Builtin.SmallTypes.nextOf
  refine wpAny_bind (wpAny_callSpecial?_slot (name := Str.ofString "__next__") hit.typeIs F.slot_tuple_iterator_next
    (wpAny_call_entry F.slot_tuple_iterator_next hit.typeIs F.entry_tuple_iterator_next ?_ (F.args_tuple_iterator_next_1 _)))
  show wpAny _ _ (field (.ref it) 0 >>= _) _ _ s
  refine wpAny_bind (wpAny_field ho hd (x := .ref t) rfl ?_)
  show wpAny _ _ (if (Value.ref t == Value.none) = true then _ else _) _ _ s
  rw [if_neg (show ¬ ((Value.ref t == Value.none) = true) from Bool.false_ne_true)]
  show wpAny _ _ (field (.ref it) 1 >>= _) _ _ s
  refine wpAny_bind (wpAny_field ho hd (x := .int i 0) rfl ?_)
  show wpAny _ _ (seqItems? (.ref t) >>= _) _ _ s
  refine wpAny_bind (wpAny_seqItems LV hdl ?_)
  simp only [Int.toNat_natCast, hx]
  refine wpAny_bind (wpAny_setField ho hd (by simp) (wpAny_pure ⟨x, rfl, wpAny_pure (hQ _ ?_ (Heap.SameBut.update ..))⟩))
  exact ⟨_, Heap.get?_update_self _ ho (Obj.isFreed_of_fields (Obj.data_mapFields hd _)), (Obj.cls_mapFields ..).trans hc, by
    rw [Obj.data_mapFields hd]; simp [rawInt]⟩
theorem xG {it t : Addr} {i : Nat} {items : Array Value} {Q : Value → Shared → Prop} (hh : A.handled = none)
    (hit : s.heap.IsTupleIter it t i) (ht : s.heap.IsTuple t items) (hx : items[i]? = none)
    (hE : ∀ h' e, Heap.ExtBut it s.heap h' → (∃ o, h'.get? e = some o ∧ o.cls = .type "StopIteration") → E (.ref e) { s with heap := h' }) :
    wpAny (model prog w) A (Builtin.SmallTypes.nextOf (.ref it)) Q E s := by
  obtain ⟨o, ho, hc, hd⟩ := id hit
  obtain ⟨ol, LV, _, nl, hdl⟩ := ht
  unfold Builtin.SmallTypes.nextOf
  refine wpAny_bind (wpAny_callSpecial?_slot (name := Str.ofString "__next__") hit.typeIs F.slot_tuple_iterator_next
    (wpAny_call_entry F.slot_tuple_iterator_next hit.typeIs F.entry_tuple_iterator_next ?_ (F.args_tuple_iterator_next_1 _)))
  show wpAny _ _ (field (.ref it) 0 >>= _) _ _ s
  refine wpAny_bind (wpAny_field ho hd (x := .ref t) rfl ?_)
  show wpAny _ _ (if (Value.ref t == Value.none) = true then _ else _) _ _ s
  rw [if_neg (show ¬ ((Value.ref t == Value.none) = true) from Bool.false_ne_true)]
  show wpAny _ _ (field (.ref it) 1 >>= _) _ _ s
  refine wpAny_bind (wpAny_field ho hd (x := .int i 0) rfl ?_)
  show wpAny _ _ (seqItems? (.ref t) >>= _) _ _ s
  refine wpAny_bind (wpAny_seqItems LV hdl ?_)
  simp only [Int.toNat_natCast, hx]
  refine wpAny_bind (wpAny_rule (wpAny_bind (wpAny_setField ho hd (by simp) ?_)))
  show wpAny _ _ (newExc (.type "StopIteration") [] >>= _) _ _ _
  refine wpAny_bind ?_
  simp only [newExc, newTuple]
  refine wpAny_bind (wpAny_newObj_type ?_ (by size_fits))
  refine wpAny_bind (m := firstArgMember _ _) (wpAny_of_eq (a := Value.none) (by first | rfl | (simp only [firstArgMember]; rfl)) ?_)
  refine wpAny_newObj_type ?_ (by size_fits)
  simp only [raiseNew]
  refine wpAny_bind (wpAny_handled ?_)
  first | rw [show A.in1.handled = none from hh] | rw [hh]
  refine wpAny_bind (wpAny_pure (wpAny_throw ?_))
  exact hE _ _ (((Heap.SameBut.update ..).extBut.push _).push _) ⟨_, Heap.get?_push_size _ rfl, rfl⟩
end
theorem zv {prog : Program} {w : World} {A : Around} (hh : A.handled = none) (it l : Addr) (hne : l ≠ it) (items : Array Value) :
    Draws prog w A it [it, l] items.size (fun i v => items[i]? = some v) (fun i h => h.IsTupleIter it l i ∧ h.IsTuple l items) where
  live := fun _ _ st => let ⟨o, ho, _⟩ := st.1; ⟨o, ho⟩
  frame := fun _ _ _ st hk => ⟨st.1.at fun o e => hk it (by simp) o e, st.2.at fun o e => hk l (by simp) o e⟩
  item := fun i s Q E hi st hQ => by
    refine wm st.1 st.2 (x := items[i]) (by simp [hi]) fun h' PY hs' => ?_
    exact hQ _ h' s.toks (by simp [hi]) ⟨PY, st.2.extBut hs'.extBut hne⟩ hs'
  done := fun s Q E st hE => xG hh st.1 st.2 (by simp) hE
theorem BN (l : Addr) (items : Array Value) (n : Nat) (dct : Option Addr) (sl : Array (Option Value)) :
    Meets (Builtin.«enumerate.__new__» ⟨[.type "enumerate", .ref l], []⟩) (fun _ R s => s.heap.get? l = some { cls := .type "tuple", dict := dct, data := .seq items n, slots := sl } ∧
      R (.ok (.ret (.ref (s.heap.push { cls := .type "tuple_iterator", data := .fields #[.ref l, .int 0 0] }).objs.size)))
        { s with heap := (s.heap.push { cls := .type "tuple_iterator", data := .fields #[.ref l, .int 0 0] }).push { cls := .type "enumerate", data := .fields #[.none, .bool false, .ref s.heap.objs.size, rawInt 0, .none, .none] } }) :=
  .of_wp fun prog w A R s h => by
    obtain ⟨hp, g, d, tk, os⟩ := s; obtain ⟨hl, h⟩ := h
    have hsub := sub_enumerate
    have hL : Heap.IsTuple (Shared.heap ⟨hp, g, d, tk, os⟩) l items := ⟨_, hl, rfl, n, rfl⟩
    wp_walk using AutoSeq1.wpAny_loadPart' hl
    refine wpAny_stack_any fun st => wpAny_pure ?_
    split
    · rename_i c _ _ _ _ _
      cases (c == Value.type "enumerate")
      · wp_walk using AutoSeq1.wpAny_loadPart' hl, wpAny_pyIter_tuple hL
        exact ⟨_, rfl, h⟩
      · wp_walk using AutoSeq1.wpAny_loadPart' hl, wpAny_pyIter_tuple hL
        exact ⟨_, rfl, h⟩
    · wp_walk using AutoSeq1.wpAny_loadPart' hl, wpAny_pyIter_tuple hL
      exact ⟨_, rfl, h⟩
theorem yt {prog : Program} {w : World} {A : Around} {E : Value → Shared → Prop} {s : Shared} {l : Addr} {items : Array Value} {Q : Value → Shared → Prop} (hL : s.heap.IsTuple l items)
    (h : ∀ h', IsEnum h' (s.heap.objs.size + 1) s.heap.objs.size 0 .none → h'.IsTupleIter s.heap.objs.size l 0 → h'.objs.size = s.heap.objs.size + 2 →
      (∀ b o, s.heap.get? b = some o → h'.get? b = some o) → Q (.ref (s.heap.objs.size + 1)) { s with heap := h' }) :
    wpAny (model prog w) A (call (.type "enumerate") [.ref l]) Q E s := by
  obtain ⟨⟨c, dct, dt, sl⟩, hl, hc, n, hd⟩ := hL
  replace hc : c = .type "tuple" := hc
  replace hd : dt = .seq items n := hd
  subst hc hd
  refine callType_new F.called_enumerate (by decide) (F.typeCall_enumerate_1 _) (F.newCall_enumerate_1 _) (fun obj => F.args_object_init_2 obj _) F.entry_enumerate_new
    (BN l items n dct sl) ⟨hl, ?_⟩
  have hz : (s.heap.push { cls := .type "tuple_iterator", data := .fields #[.ref l, .int 0 0] }).objs.size = s.heap.objs.size + 1 := Heap.size_push ..
  show _ ∧ _
  rw [hz]
  have he : IsEnum ((s.heap.push { cls := .type "tuple_iterator", data := .fields #[.ref l, .int 0 0] }).push
      { cls := .type "enumerate", data := .fields #[.none, .bool false, .ref s.heap.objs.size, rawInt 0, .none, .none] }) (s.heap.objs.size + 1) s.heap.objs.size 0 .none := by
    have := Heap.get?_push_size (s.heap.push { cls := .type "tuple_iterator", data := .fields #[.ref l, .int 0 0] })
      (o := { cls := .type "enumerate", data := .fields #[.none, .bool false, .ref s.heap.objs.size, rawInt 0, .none, .none] }) rfl
    rw [hz] at this; exact this
  refine ⟨⟨_, he, rfl⟩, h _ he ⟨_, Heap.get?_push_of_some _ (Heap.get?_push_size _ rfl), rfl, rfl⟩ (by rw [Heap.size_push, hz]) fun b o x => Heap.get?_push_of_some _ (Heap.get?_push_of_some _ x)⟩
noncomputable def Lw (K : PySem.W.Frag) (a : Addr) : It :=
  ⟨fun i H => ∃ xs x, sZ K H a xs ∧ xs[i]? = some x, fun i H y H' => ∃ x p, (∀ xs, sZ K H a xs → xs[i]? = some x) ∧ H p = none ∧ y = .ref p ∧ H' = upd H p (.tup [.int i, x]), fun i H => ∃ xs, sZ K H a xs ∧ xs.length = i⟩
theorem C2 {P : Program} {w : World} {K : PySem.W.Frag} {es : List Expr} {k : Nat} {pt : Pos} (l e it : Addr) (hne : e ≠ it) (hle : l ≠ e) (hli : l ≠ it) : Turn P w K (.Tuple es k pt) (Lw K l) [e, it] e (fun i h => ∃ old, IsEnum h e it i old ∧ h.IsTupleIter it l i) where
  mem := by simp
  obj := fun i h ⟨old, st1, st2⟩ b hb => by
    rcases List.mem_cons.mp hb with rfl | hb
    · exact ⟨_, st1, fun v z => by cases z⟩
    · have e : b = it := by simpa using hb
      subst e
      obtain ⟨o, e, c, d⟩ := st2
      exact ⟨o, e, fun v z => by rw [d] at z; cases z⟩
  keep := fun i h h' ⟨old, st1, st2⟩ kp => ⟨old, kp e (by simp) _ st1, st2.at fun o q => kp it (by simp) o q⟩
  item := by
    intro X hP hw hK hc i pins s σ H E I hf ⟨old, st1, st2⟩ hg
    subst hP hw hK
    obtain ⟨xs, x, hq, hx⟩ := hg
    obtain ⟨its, rv, p, hz⟩ := I.tuple hq
    obtain ⟨u, hu, ru⟩ := rv.get hx
    have PR : e < s.heap.objs.size := Heap.lt_size st1
    have Ll : it < s.heap.objs.size := by obtain ⟨o, q, _⟩ := st2; exact Heap.lt_size q
    have hlen : i < its.length := (List.getElem?_eq_some_iff.mp hu).1
    refine wpAny_pyNext_enum_itemD (zv (show X.A.in1.handled = none from I.ok.hd hc) it l hli its.toArray) st1 ⟨st2, p⟩ (by simpa using hlen) hne (by simp [hne, Ne.symm hle]) fun x' h' tk hx' hO hst htup hsz kp => ?_
    have TN : x' = u := by
      have e : its.toArray[i]? = some x' := hx'
      rw [List.getElem?_toArray, hu] at e
      exact (Option.some.inj e).symm
    subst TN
    have hL := hst.1
    refine ⟨.ref s.heap.objs.size, rfl, ?_⟩
    have I1 : Inv X pins σ (upd H s.heap.objs.size (.tup [.int i, x])) { s with heap := s.heap.push { cls := .type "tuple", data := .seq #[.int i tk, x'] } } :=
      I.laid (t' := s.toks) (fun b o q => Heap.get?_push_of_some _ q) (Nat.le_refl _) ⟨by simp [sizeLine_eq], [.int i tk, x'], .cons ⟨_, rfl⟩ (.cons ru .nil), PyProof.Rows.IsTup.new _ _⟩
    have hfree := I.hok.fresh (Nat.le_refl s.heap.objs.size)
    have hf1 : ∀ b ∈ [e, it], tV X pins (upd H s.heap.objs.size (.tup [.int i, x])) b := fun b hb => by
      have hlt : b ≠ s.heap.objs.size := by
        rcases List.mem_cons.mp hb with rfl | hb
        · exact Nat.ne_of_lt PR
        · rw [List.mem_singleton.mp hb]; exact Nat.ne_of_lt Ll
      exact ⟨by rw [bQ hlt]; exact (hf b hb).1, (hf b hb).2⟩
    unfold letOwnedTupleGo
    refine wpAny_bind (wpAny_load hO ?_)
    dsimp only
    rw [if_pos (by simp)]
    refine wpAny_bind (wpAny_rule ?_)
    unfold updateField
    refine wpAny_bind (wpAny_load hO ?_)
    dsimp only
    rw [if_pos (by simp)]
    refine wpAny_update hO ?_
    have A3 : ∀ b, b ≠ e → (h'.update e (Obj.mapFields fun x => x.setIfInBounds 0 Value.none)).get? b = h'.get? b := fun b hb => Heap.get?_update_other _ _ (Ne.symm hb)
    refine ⟨.ref s.heap.objs.size, _, DK (t' := tk + 1) (s := { s with heap := s.heap.push { cls := .type "tuple", data := .seq #[.int i tk, x'] } }) (ch := [e, it]) I1 (fun b o hb q => ?_) hf1, rfl, ⟨x, s.heap.objs.size, fun ys hy => by rw [I.yP hy hq]; exact hx, hfree, rfl, rfl⟩, ⟨x', ?_, ?_⟩, fun b hb => (hf1 b hb).1⟩
    · have hb1 : b ≠ e := fun z => hb (by simp [z])
      have hb2 : b ≠ it := fun z => hb (by simp [z])
      show (h'.update e _).get? b = some o
      rw [A3 b hb1]
      by_cases Na : b = s.heap.objs.size
      · subst Na
        have := Heap.get?_push_size (o := { cls := .type "tuple", data := .seq #[.int (i : Int) tk, x'] }) s.heap rfl
        rw [this] at q; cases q
        exact htup
      · have q' : (s.heap.push { cls := .type "tuple", data := .seq #[.int (i : Int) tk, x'] }).get? b = some o := q
        refine kp b o hb1 hb2 ?_
        rwa [Heap.get?_push_ne _ _ _ Na] at q'
    · show (h'.update e _).get? e = _
      rw [Heap.get?_update_self _ hO rfl]
      rfl
    · exact hL.at fun o q => (A3 it (Ne.symm hne)).trans q
  done := by
    intro X hP hw hK hc i pins s σ H E I hf ⟨old, st1, st2⟩ hg
    subst hP hw hK
    obtain ⟨xs, hq, hx⟩ := hg
    obtain ⟨its, rv, p, hz⟩ := I.tuple hq
    obtain ⟨f0, f1, f2, f3, f4, f5⟩ := hf it (by simp)
    have hl := rv.length
    have hi : i = its.toArray.size := by simp; omega
    subst hi
    exact wpAny_pyNext_enum_endD (zv (show X.A.in1.handled = none from I.ok.hd hc) it l hli its.toArray) st1 ⟨st2, p⟩ fun h' eb => ⟨rfl, I.turned (t' := s.toks) (fun b o hb e => eb b o hb e) f0 f1 f3 f4 f5⟩
  self := fun _ _ _ _ _ ⟨old, st1, _⟩ h => wpAny_pyIter_enum st1 h
noncomputable def qZ (xs : List D) : View := fun _ i => if i ≤ xs.length then some (xs[i]?.map fun x => .tup [.int i, x]) else none
noncomputable def n5 (m : DS → M (List D)) : MI := fun τ => (m τ).bind fun ds => match ds with
  | [d] => fun G => match aD G d with
    | some (.lst xs) => .ok (xs.length + 1, t9 d) G
    | some (.tup xs) => .ok (xs.length + 1, qZ xs) G
    | _ => .stuck
  | _ => M.stop
theorem GK {K : PySem.W.Frag} {mg : Str → Option Value} {H0 : Hp} {ρ0 : List Addr} {zs : List D} {l : Addr} {ER : List V} (TQ : sZ K H0 l ER) (Nf : aH K mg ρ0 H0 zs ER) : JV K mg (Lw K l) (qZ zs) H0 ρ0 := by
  intro i H ρ G f hp
  have sq := f.tup _ _ TQ
  have rs := Nf.mono f
  unfold qZ
  constructor
  · intro e
    by_cases hi : i ≤ zs.length
    · rw [if_pos hi] at e
      cases qi : zs[i]? with
      | some z => rw [qi] at e; cases e
      | none =>
        have := List.getElem?_eq_none_iff.mp qi
        exact ⟨ER, sq, by rw [← rs.length]; omega⟩
    · rw [if_neg hi] at e; cases e
  · intro dd e
    by_cases hi : i ≤ zs.length
    · rw [if_pos hi] at e
      cases qi : zs[i]? with
      | none => rw [qi] at e; cases e
      | some z =>
        rw [qi] at e; cases e
        obtain ⟨v, ev, rv⟩ := rs.get qi
        refine ⟨⟨ER, v, sq, ev⟩, fun y H' hy => ?_⟩
        obtain ⟨v', p, ev', hp0, rfl, rfl⟩ := hy
        have ev' := ev' ER sq
        rw [ev] at ev'; cases ev'
        refine ⟨Bs.new hp0, ?_⟩
        unfold Rep
        refine ⟨p, [.int i, v], rfl, .inl (.inl g9), .cons (by unfold Rep; rfl) (.cons (Rep.mono (ju hp0 ρ) _ _ rv) .nil)⟩
    · rw [if_neg hi] at e; cases e
section
variable {X : Cx} {EE : ki} {a : Expr} {p pc : Pos} {m : DS → M (List D)}
theorem BO {es : List Expr} {k : Nat} {pt : Pos} (hm : X.mg "enumerate" = none) (zg : Gl X "enumerate") (ha : QA X EE [a] m) (h : aO [a] = true := by rfl) : QI X EE (.Tuple es k pt) (.Call (.Name "enumerate" p) [a] [] pc) (n5 m) := by
  have h' : fZ a = true ∧ aO [] = true := by simpa [aO] using h
  intro pins s σ H R I hq
  obtain ⟨τ, ρ, G, ab, ok⟩ := hq
  by_cases hT : ∃ d G1 zs, m τ G = .ok [d] G1 ∧ aD G1 d = some (.tup zs)
  · obtain ⟨d, G1, zs, em, q⟩ := hT
    dsimp only [n5, M.bind] at ok
    rw [em] at ok
    dsimp only at ok
    rw [q] at ok
    dsimp only at ok
    refine wpAny_Call_Name_kw (kK I zg hm zo ?_ (by decide) (by decide))
    have hA : qS X.K X.mg EE m σ H fun vs H1 => ∃ ρ1, Ab X.K X.mg σ H1 τ ρ1 G1 ∧ ir X.K H H1 ρ ρ1 ∧ aH X.K X.mg ρ1 H1 [d] vs := by
      refine ⟨τ, ρ, G, ab, ?_⟩
      rw [em]
      exact fun vs H' ρ' f fC r => ⟨ρ', fC, f, r⟩
    refine PyProof.Rows.callWith_type1 (j4 (ha pc pins s σ H _ I hA) fun us s1 zY => ?_) (dD h'.1 _ _) (fj (es := []) rfl)
    obtain ⟨vs, H1, I1, r1, ρ1, qT, f1, rs⟩ := zY
    obtain ⟨x, rfl, rx⟩ := qH rs
    obtain ⟨u, rfl, ru⟩ := vals1 r1
    obtain ⟨l, ys, rfl, sq, rv⟩ := pG rx q
    cases ru
    obtain ⟨its, vv, pl, hz⟩ := I1.tuple sq
    have hlt : l < s1.heap.objs.size := by obtain ⟨_, e, _⟩ := pl; exact Heap.lt_size e
    refine yt pl fun h2 hE hL hsz kp => ?_
    refine wpAny_pyIter_enum hE ?_
    have I2 : Inv X pins σ H1 { s1 with heap := h2 } := I1.kept (t' := s1.toks) kp
    refine ⟨s1.heap.objs.size + 1, [s1.heap.objs.size + 1, s1.heap.objs.size], _, Lw X.K l, H1, rfl, I2, C2 l _ _ (Nat.succ_ne_self _) (Nat.ne_of_lt (Nat.lt_succ_of_lt hlt)) (Nat.ne_of_lt hlt), ⟨_, hE, hL⟩, fun b hb => ?_, ok _ H1 ρ1 f1 qT (GK sq rv)⟩
    rcases List.mem_cons.mp hb with rfl | hb
    · exact I1.yl (Nat.le_succ _) (I1.hok.fresh (Nat.le_succ _))
    · rw [List.mem_singleton.mp hb]
      exact I1.yl (Nat.le_refl _) (I1.hok.fresh (Nat.le_refl _))
  · refine IB hm zg ha h pins s σ H R I ⟨τ, ρ, G, ab, ?_⟩
    have e : Bw m τ G = n5 m τ G := by
      dsimp only [n5, Bw, M.bind]
      cases em : m τ G with
      | stuck => rfl
      | fL c G' => rfl
      | ok ds G' =>
        dsimp only
        match ds with
        | [] => rfl
        | _ :: _ :: _ => rfl
        | [d] =>
          dsimp only
          cases q : aD G' d with
          | none => rfl
          | some sk =>
            cases sk with
            | lst _ => rfl
            | str _ => rfl
            | tup zs => exact absurd ⟨d, G', zs, em, q⟩ hT
    rw [e]; exact ok
end
noncomputable abbrev DN (s : Str) : Prop := (s == ("__debug__" : Str)) = false ∧ (s == ("__classdict__" : Str)) = false
noncomputable abbrev LK (f : Scope) (s : Str) (k : NameKind) : Prop := f.names.lookup s = some k
end L3
end
section
set_option Elab.async false
set_option linter.all false
set_option maxRecDepth 100000
namespace L3
open PySem PySem.Spec L2
noncomputable def Out.fw (r : Out D) (G : DH) : Out D := match r with
  | .ok (.obj n) G' => match G'[n]? with
    | some (.lst ds) => if n = G.length ∧ G'.length = n + 1 ∧ oJ (G'.take G.length) G = true ∧ aW ds = true then .ok (.con ds) G else .stuck
    | _ => .stuck
  | r => r
noncomputable def Out.fz (r : Out D) : Out D := match r with
  | .ok (.obj n) G' => match G'[n]? with
    | some (.lst ds) => .ok (.con ds) (G'.set n .dead)
    | _ => .stuck
  | r => r
section
variable {τ : DS} {G G' A B R : DH} {e ma mb mc : DS → M D} {n i : Nat} {d : D} {c : XD} {ml : DS → M (List D)} {ds xs ys : List D} {m : List D → M D}
theorem gW : eFn e τ G = (e τ G).fw G := Eq.trans rfl rfl
theorem gw : Ln e τ G = (e τ G).fz := Eq.trans rfl rfl
theorem dI : (Out.ok (.tup xs) G').fw G = .ok (.tup xs) G' := Eq.trans rfl rfl
theorem dU : (Out.ok (.con xs) G').fw G = .ok (.con xs) G' := Eq.trans rfl rfl
theorem dW {z : Str} : (Out.ok (.str z) G').fw G = .ok (.str z) G' := Eq.trans rfl rfl
theorem dX {j : Int} : (Out.ok (.int j) G').fw G = .ok (.int j) G' := Eq.trans rfl rfl
theorem mV (h : aW ds = true) : (Out.ok (.obj G.length) (G ++ [.lst ds])).fw G = .ok (.con ds) G := by
  simp [Out.fw, h, nW]
theorem j9 (hz : ds.length ≤ sizeLine) (h : aW ds = true) : (fu ds G).fw G = .ok (.con ds) G := by
  rw [fu, if_pos hz, mV h]
theorem gx : (Out.ok (.obj A.length) (A ++ .lst ds :: B)).fz = .ok (.con ds) (A ++ .dead :: B) := by
  simp [Out.fz, IC]
theorem oW {d : D} (h : m ds G = .ok d (G ++ R)) (hc : d.closed = true) : j6 m ds G = .ok d G := by
  simp [j6, h, hc, nW]
theorem fB {d : D} (h : m ds G = .ok d G) (hc : d.closed = true) : j6 m ds G = .ok d G := oW (R := []) (by simpa using h) hc
theorem q8 (h : m ds G = .ok (.obj G.length) (G ++ [.lst xs])) (hc : aW xs = true) : vn m ds G = .ok (.obj G.length) (G ++ [.lst xs]) := by
  simp [vn, h, hc, nW]
theorem dY : ID ml τ G = (ml τ G).bd fun ds => match ds with
  | [d] => fun G => match aD G d with
    | some (.lst xs) => .ok (xs.length + 1, CY d xs.length) G
    | _ => .stuck
  | _ => M.stop := aj
theorem dZ : PX ml τ G = (ml τ G).bd fun ds => match ds with
  | [d, e] => fun G => match aD G d, aD G e with
    | some (.lst xs), some (.lst ys) => .ok (min xs.length ys.length + 1, Ng d e) G
    | _, _ => .stuck
  | _ => M.stop := aj
theorem bq : n5 ml τ G = (ml τ G).bd fun ds => match ds with
  | [d] => fun G => match aD G d with
    | some (.lst xs) => .ok (xs.length + 1, t9 d) G
    | some (.tup xs) => .ok (xs.length + 1, qZ xs) G
    | _ => .stuck
  | _ => M.stop := aj
theorem cD : zq ml τ G = (ml τ G).bd fun ds => match ints3 ds with
  | some (lo, hi, c) => fun G => if -(2 ^ 30) ≤ lo ∧ lo < 2 ^ 30 ∧ -(2 ^ 30) ≤ hi ∧ hi < 2 ^ 30 ∧ 0 < c ∧ c < 2 ^ 30 then .ok (ud lo hi c + 1, C1 lo c (ud lo hi c)) G else .stuck
  | none => M.stop := aj
theorem cE : GI τ G = .ok (.obj G.length) (G ++ [.dct []]) := Eq.trans rfl rfl
theorem bD : pe ma mb mc τ G = (ma τ G).bd fun d G => if zu G d = true then (mb τ G).bd (fun k => (mc τ).bind fun x => DU d k x) else .stuck := by
  unfold pe
  rw [aj]
  unfold Out.bd
  cases ma τ G with
  | stuck => rfl
  | fL c G => rfl
  | ok d G' => simp only [aj]; rfl
theorem cF : vP ma mb mc τ G = ((ma τ G).bd fun v => (mb τ).bind fun o => (mc τ).bind fun i => BI v o i).xp τ := by
  unfold vP fS Out.xp
  rw [aj]
  cases ((ma τ G).bd fun v => (mb τ).bind fun o => (mc τ).bind fun i => BI v o i) <;> rfl
theorem ue {g : uY} {body : MS} {vw : View} (hv : ∀ G i, i ≤ xs.length → vw G i = some xs[i]?) : ∀ (fuel i : Nat) (τ : DS) (G : DH), i ≤ xs.length → xs.length < fuel + i → wj g body vw fuel i τ G = fY g body (xs.drop i) τ G
  | 0, i, τ, G, h1, h2 => by omega
  | fuel + 1, i, τ, G, h1, h2 => by
    rw [wj]
    dsimp only
    rw [hv G i h1]
    by_cases hi : i < xs.length
    · rw [List.getElem?_eq_getElem hi, List.drop_eq_getElem_cons hi, fY]
      dsimp only
      cases g xs[i] τ with
      | none => rfl
      | some τ1 =>
        dsimp only
        cases body τ1 G with
        | nx τ2 G2 => exact ue hv fuel (i + 1) τ2 G2 (by omega) (by omega)
        | ct τ2 G2 => exact ue hv fuel (i + 1) τ2 G2 (by omega) (by omega)
        | _ => rfl
    · rw [List.getElem?_eq_none (by omega), List.drop_eq_nil_of_le (by omega), fY]
theorem vq {gO : D → Option (List D)} {ks : List Bool} {tt : DS → M Bool} {te : DS → M D} {vw : View} (hv : ∀ G i, i ≤ xs.length → vw G i = some xs[i]?) : ∀ (fuel i : Nat) (τ : DS) (G : DH), i ≤ xs.length → xs.length < fuel + i → qY gO ks tt te n vw fuel i τ G = gf gO ks tt te n (xs.drop i) τ G
  | 0, i, τ, G, h1, h2 => by omega
  | fuel + 1, i, τ, G, h1, h2 => by
    rw [qY]
    rw [hv G i h1]
    by_cases hi : i < xs.length
    · rw [List.getElem?_eq_getElem hi, List.drop_eq_getElem_cons hi, gf]
      dsimp only
      cases iT gO ks tt te n xs[i] τ G with
      | ok u G2 => exact vq hv fuel (i + 1) τ G2 (by omega) (by omega)
      | _ => rfl
    · rw [List.getElem?_eq_none (by omega), List.drop_eq_nil_of_le (by omega), gf]
theorem IM {g : uY} {body : MS} : wj g body (CY (.con xs) xs.length) (xs.length + 1) 0 τ G = fY g body xs.reverse τ G := by
  have := ue (g := g) (body := body) (xs := xs.reverse) (vw := CY (.con xs) xs.length) (fun G i h => by
    simp only [List.length_reverse] at h
    simp only [CY, aD, if_true]
    by_cases hi : i = xs.length
    · rw [if_pos hi, List.getElem?_eq_none (by simp; omega)]
    · rw [if_neg hi, if_pos (by omega), List.getElem?_reverse (by omega)]) (xs.length + 1) 0 τ G (by simp) (by simp)
  simpa using this
theorem C3 {gO : D → Option (List D)} {ks : List Bool} {tt : DS → M Bool} {te : DS → M D} : qY gO ks tt te n (qZ xs) (xs.length + 1) 0 τ G = gf gO ks tt te n (xs.mapIdx fun i x => .tup [.int i, x]) τ G := by
  have := vq (n := n) (gO := gO) (ks := ks) (tt := tt) (te := te) (xs := xs.mapIdx fun i x => D.tup [.int i, x]) (vw := qZ xs) (fun G i h => by
    simp only [List.length_mapIdx] at h
    simp only [qZ, if_pos h, List.getElem?_mapIdx]) (xs.length + 1) 0 τ G (by simp) (by simp)
  simpa using this
theorem GL {gO : D → Option (List D)} {ks : List Bool} {tt : DS → M Bool} {te : DS → M D} {lo c : Int} {k : Nat} : qY gO ks tt te n (C1 lo c k) (k + 1) 0 τ G = gf gO ks tt te n ((List.range k).map fun (i : Nat) => .int (lo + (i : Int) * c)) τ G := by
  have := vq (n := n) (gO := gO) (ks := ks) (tt := tt) (te := te) (xs := (List.range k).map fun (i : Nat) => D.int (lo + (i : Int) * c)) (vw := C1 lo c k) (fun G i h => by
    simp only [List.length_map, List.length_range] at h
    simp only [C1, List.getElem?_map]
    by_cases hi : i < k
    · rw [if_pos hi, List.getElem?_range hi]; rfl
    · rw [if_neg hi, List.getElem?_eq_none (by simp; omega)]; rfl) (k + 1) 0 τ G (by simp) (by simp)
  simpa using this
theorem C4 {gO : D → Option (List D)} {ks : List Bool} {te : DS → M D} {x v : D} {os acc : List D} (h1 : gO x = some os) (h2 : te (os.map some ++ mask ks τ) (G ++ [.lst acc]) = .ok v (G ++ [.lst acc])) (hz : acc.length < sizeLine) :
    iT gO ks jP te G.length x τ (G ++ [.lst acc]) = .ok () (G ++ [.lst (acc ++ [v])]) := by
  simp only [iT, h1, jP, M.ret, h2, JD, if_pos hz, IC]
theorem jz {gO : D → Option (List D)} {ks : List Bool} {te : DS → M D} {own : D → List D} {f : D → D} : ∀ (xs acc : List D), acc.length + xs.length ≤ 1000000 → (∀ x ∈ xs, gO x = some (own x)) → (∀ x ∈ xs, ∀ acc, te ((own x).map some ++ mask ks τ) (G ++ [.lst acc]) = .ok (f x) (G ++ [.lst acc])) →
    gf gO ks jP te G.length xs τ (G ++ [.lst acc]) = .ok (.obj G.length) (G ++ [.lst (acc ++ xs.map f)])
  | [], acc, _, _, _ => by simp [gf]
  | x :: xs, acc, hl, h1, h2 => by
    have hz : acc.length < sizeLine := Nat.lt_of_lt_of_le (by simp at hl; omega) (lz (n := 1000001) (by omega))
    rw [gf, C4 (h1 x (by simp)) (h2 x (by simp) acc) hz]
    dsimp only
    rw [jz xs (acc ++ [f x]) (by simp at hl ⊢; omega) (fun y hy => h1 y (by simp [hy])) (fun y hy => h2 y (by simp [hy]))]
    simp
end
theorem xH : ∀ {xs : List D}, (∀ x ∈ xs, x.closed = true) → aW xs = true
  | [], _ => rfl
  | x :: xs, h => by rw [aW, h x (by simp), xH fun y hy => h y (by simp [hy])]; rfl
theorem aR {α : Type} {f : α → D} {l : List α} (h : ∀ x, (f x).closed = true) : aW (l.map f) = true := xH (by
  intro x hx
  obtain ⟨a, _, rfl⟩ := List.mem_map.mp hx
  exact h a)
theorem cS {xs : List D} : (D.con xs).closed = aW xs := by rw [D.closed]
theorem ko {xs : List D} : (D.tup xs).closed = aW xs := by rw [D.closed]
theorem eZ {i : Int} : (D.int i).closed = true := by rw [D.closed] <;> simp
theorem jm {i : Str} : (D.str i).closed = true := by rw [D.closed] <;> simp
theorem ES {i : Bool} : (D.bl i).closed = true := by rw [D.closed] <;> simp
theorem kF : aW [] = true := rfl
theorem eG {x : D} {xs : List D} : aW (x :: xs) = (x.closed && aW xs) := by rw [aW]
theorem ri : ∀ {xs ys : List D}, aW (xs ++ ys) = (aW xs && aW ys)
  | [], ys => by simp [aW]
  | x :: xs, ys => by simp [aW, ri (xs := xs), Bool.and_assoc]
mutual
noncomputable def D.pd : D → PyData
  | .bl b => .bool b
  | .int i => .int i
  | .str x => .str x
  | .tup ds => .tuple (wN ds)
  | .con ds => .list (wN ds)
  | _ => .none
noncomputable def wN : List D → List PyData
  | [] => []
  | d :: r => d.pd :: wN r
end
mutual
noncomputable def D.plain : D → Bool
  | .tup ds => iU ds
  | .con ds => iU ds
  | .str x => PyData.strOk x
  | .obj _ => false
  | .zc _ _ => false
  | .fn _ => false
  | _ => true
noncomputable def iU : List D → Bool
  | [] => true
  | d :: r => d.plain && iU r
end
mutual
noncomputable def D.dp : D → Nat
  | .tup ds => C5 ds + 1
  | .con ds => C5 ds + 1
  | _ => 0
noncomputable def C5 : List D → Nat
  | [] => 0
  | d :: r => max d.dp (C5 r)
end
mutual
theorem xJ (G : DH) : ∀ (d : D) (n : Nat), d.plain = true → d.dp < n → qF G n d = some d.pd
  | .lG, n + 1, _, _ => by simp [qF, D.pd]
  | .bl b, n + 1, _, _ => by simp [qF, D.pd]
  | .int b, n + 1, _, _ => by simp [qF, D.pd]
  | .str b, n + 1, _, _ => by simp [qF, D.pd]
  | .tup ds, n + 1, h, hn => by
    rw [qF, wO G ds n (by simpa [D.plain] using h) (by rw [D.dp] at hn; omega), D.pd]; rfl
  | .con ds, n + 1, h, hn => by
    rw [qF, wO G ds n (by simpa [D.plain] using h) (by rw [D.dp] at hn; omega), D.pd]; rfl
  | .obj k, n + 1, h, _ => by simp [D.plain] at h
  | .zc _ _, n + 1, h, _ => by simp [D.plain] at h
  | .fn _, n + 1, h, _ => by simp [D.plain] at h
theorem wO (G : DH) : ∀ (ds : List D) (n : Nat), iU ds = true → C5 ds < n → iy (qF G n) ds = some (wN ds)
  | [], n, _, _ => by simp [iy, wN]
  | d :: ds, n, h, hn => by
    have h' : d.plain = true ∧ iU ds = true := by simpa [iU] using h
    rw [C5] at hn
    rw [iy, xJ G d n h'.1 (by omega), wO G ds n h'.2 (by omega), wN]
end
mutual
theorem lay_of : ∀ (d : D), d.plain = true → d.pd.canLay0 = true
  | .lG, _ => by simp [D.pd, PyData.canLay0]
  | .bl b, _ => by simp [D.pd, PyData.canLay0]
  | .int b, _ => by simp [D.pd, PyData.canLay0]
  | .str b, h => by simpa [D.pd, PyData.canLay0, D.plain] using h
  | .tup ds, h => by
    rw [D.pd, PyData.canLay0]; exact Ar ds (by simpa [D.plain] using h)
  | .con ds, h => by
    rw [D.pd, PyData.canLay0]; exact Ar ds (by simpa [D.plain] using h)
  | .obj k, h => by simp [D.plain] at h
  | .zc _ _, h => by simp [D.plain] at h
  | .fn _, h => by simp [D.plain] at h
theorem Ar : ∀ (ds : List D), iU ds = true → PyData.canLayAll0 (wN ds) = true
  | [], _ => by simp [wN, PyData.canLayAll0]
  | d :: ds, h => by
    have h' : d.plain = true ∧ iU ds = true := by simpa [iU] using h
    rw [wN, PyData.canLayAll0, lay_of d h'.1, Ar ds h'.2]; rfl
end
mutual
theorem DW : ∀ (d : D), d.pd.depth ≤ d.dp
  | .lG => by simp [D.pd, PyData.depth]
  | .bl b => by simp [D.pd, PyData.depth]
  | .int b => by simp [D.pd, PyData.depth]
  | .str b => by simp [D.pd, PyData.depth]
  | .tup ds => by rw [D.pd, PyData.depth, D.dp]; exact Nat.succ_le_succ (As ds)
  | .con ds => by rw [D.pd, PyData.depth, D.dp]; exact Nat.succ_le_succ (As ds)
  | .obj k => by simp [D.pd, PyData.depth]
  | .zc _ _ => by simp [D.pd, PyData.depth]
  | .fn _ => by simp [D.pd, PyData.depth]
theorem As : ∀ (ds : List D), PyData.depthAll (wN ds) ≤ C5 ds
  | [] => by simp [wN, PyData.depthAll]
  | d :: ds => by
    rw [wN, PyData.depthAll, C5]
    have := DW d
    have := As ds
    omega
end
mutual
theorem xK : ∀ (d : D), PyData.eqv d.pd d.pd = true
  | .lG => by simp [D.pd, PyData.eqv]
  | .bl b => by simp [D.pd, PyData.eqv]
  | .int b => by simp [D.pd, PyData.eqv]
  | .str b => by simp [D.pd, PyData.eqv]
  | .tup ds => by rw [D.pd, PyData.eqv]; exact vt ds
  | .con ds => by rw [D.pd, PyData.eqv]; exact vt ds
  | .obj k => by simp [D.pd, PyData.eqv]
  | .zc _ _ => by simp [D.pd, PyData.eqv]
  | .fn _ => by simp [D.pd, PyData.eqv]
theorem vt : ∀ (ds : List D), PyData.eqvAll (wN ds) (wN ds) = true
  | [] => by simp [wN, PyData.eqvAll]
  | d :: ds => by rw [wN, PyData.eqvAll, xK d, vt ds]; rfl
end
theorem BP (g : Bool) (d : D) (G : DH) (h : d.plain = true) (hn : d.dp ≤ 580) : j5 g d d G = .ok (.bl (g ^^ true)) G := by
  have hd := DW d
  unfold j5 Bj
  rw [xJ G d deep h (by show d.dp < 600; omega)]
  dsimp only
  rw [if_pos (by rw [lay_of d h]; simp; omega), xK]
theorem IP (g : Bool) (ds : List D) (k : Nat) (G : DH) (hk : G[k]? = some (.lst ds)) (h : iU ds = true) (hn : C5 ds ≤ 570) : j5 g (.obj k) (.con ds) G = .ok (.bl (g ^^ true)) G := by
  have hd := As ds
  have e1 : qF G deep (.obj k) = some (D.con ds).pd := by
    show (match G[k]? with
      | some (.lst ds) => (iy (qF G 599) ds).map PyData.list
      | _ => none) = _
    rw [hk]
    dsimp only
    rw [wO G ds 599 h (by omega), D.pd]; rfl
  have hp : (D.con ds).plain = true := by rw [D.plain]; exact h
  have Vg : (D.con ds).dp ≤ 580 := by rw [D.dp]; omega
  have := DW (.con ds)
  unfold j5 Bj
  rw [e1, xJ G (.con ds) deep hp (by show (D.con ds).dp < 600; omega)]
  dsimp only
  rw [if_pos (by rw [lay_of _ hp]; simp; omega), xK]
theorem vz : ∀ {xs : List D}, (∀ x ∈ xs, x.plain = true) → iU xs = true
  | [], _ => rfl
  | x :: xs, h => by rw [iU, h x (by simp), vz fun y hy => h y (by simp [hy])]; rfl
theorem C6 {n : Nat} : ∀ {xs : List D}, (∀ x ∈ xs, x.dp ≤ n) → C5 xs ≤ n
  | [], _ => Nat.zero_le _
  | x :: xs, h => by
    rw [C5]
    have := h x (by simp)
    have := C6 (xs := xs) fun y hy => h y (by simp [hy])
    omega
end L3
end
section
set_option Elab.async false
set_option linter.all false
set_option maxRecDepth 100000
set_option maxHeartbeats 4000000
namespace K32
open PySem PySem.Spec L2 L3
noncomputable def top (i : Nat) : Stmt := PySem.Challenge.pw_pathshape_k32_steps_gone.main.body.getD i (.Pass ⟨0, 0, 0, 0⟩)
noncomputable abbrev bf : Stmt := top 1
noncomputable abbrev dN : Stmt := top 3
noncomputable abbrev gI : Stmt := top 4
noncomputable abbrev cy : Stmt := top 5
noncomputable abbrev aF : Stmt := top 6
noncomputable abbrev cI : Stmt := top 7
noncomputable abbrev cJ : Stmt := top 8
noncomputable abbrev d7 : Stmt := top 10
noncomputable abbrev bS : Stmt := top 11
noncomputable abbrev aY : Stmt := top 12
noncomputable abbrev bN : Stmt := top 13
noncomputable abbrev bE : Stmt := top 14
noncomputable abbrev cG : Stmt := top 15
noncomputable abbrev cX : Stmt := top 16
noncomputable abbrev dJ : Stmt := top 17
noncomputable abbrev eT : Stmt := top 18
noncomputable abbrev zw : List Str := ["tree", "place", "k"]
noncomputable abbrev p7 : Nat := 1
noncomputable def p8 : MS := dS 0 (aG fD (aG fD (ai 0) (eC (.int 1))) (ai 2))
noncomputable def rZ : MS := cT (qU (gN 2) (ai 1) p8) (jk (ai 0))
noncomputable def fE (ds : List D) : M D := j6 (fun ds => iG 3 rZ ds) ds
noncomputable abbrev n8 : List Str := ["placed"]
noncomputable def kO : MS := jk (eFn (nZ (oT 2) [true] (n5 (af (aG fD (aG fD (ai 0) (eC (.int 1))) (eC (.int 1))) (ao))) (jP) (az cN (af (aG av (aG fD (ai 2) (eC (.int 0))) (az cN (af (ai 0) (ao)))) (af (ai 1) (ao))))))
noncomputable def e9 (ds : List D) : M D := j6 (fun ds => iG 1 kO ds) ds
noncomputable abbrev xM : List Str := ["_law_cell", "_law_k", "_law_digit", "_law_j", "_law_number"]
noncomputable abbrev d8 : Nat := 1
noncomputable def oX : MS := dS 2 (aG zf (ai 2) (eC (.int 840)))
noncomputable def oY : MS := cT (dS 2 (ai 0)) (ny kJ (gN 3) (af (aG jN (ai 1) (eC (.int 46))) (ao)) oX)
noncomputable def n9 : MS := cT (dS 2 (eC (.int 0))) (cT (tT (j3 (aG Oo (ai 0) (aG Ia (eC (.int 10)) (eC (.int 9))))) (oY) (ia)) (cT (tT (j3 (aG A2 (ai 2) (eC (.int 0)))) (jk (aG jN (ai 2) (eC (.int 840)))) (ia)) (cT (dS 4 (aG av (aG av (aG jN (ai 0) (eC (.int 1000000007))) (aG Eu (eC (.int 7919)) (ai 1))) (eC (.int 13)))) (cT (dS 4 (aG jN (aG Eu (ai 4) (ai 4)) (eC (.int 998244353)))) (jk (aG zf (aG jN (aG Eu (ai 4) (aG av (aG av (ai 4) (aG Eu (eC (.int 16807)) (ai 1))) (eC (.int 1)))) (eC (.int 1000000007))) (eC (.int 3))))))))
noncomputable def aI (ds : List D) : M D := j6 (fun ds => iG 5 n9 ds) ds
noncomputable abbrev uf : List Str := ["_law_rows_here", "_law_held", "_law_trees_here", "_law_deep", "_law_kind", "_law_parts", "_law_tree"]
noncomputable abbrev sG : Nat := 1
noncomputable def lX : MS := cT (dS 5 (pe (ai 1) (aG av (ai 3) (eC (.int 1))) (eFn (az fu (ao))))) (cT (vP (eFn (az fu (ao))) (ai 1) (aG av (ai 3) (eC (.int 1)))) (cT (dS 6 (az cN (af (ai 4) (af (az BK (af (ai 5) (ao))) (ao))))) (cT (vP (eFn (aG av (pe (ai 1) (ai 3) (eFn (az fu (ao)))) (eFn (az fu (af (ai 6) (ao)))))) (ai 1) (ai 3)) (qG (ja "list" aS (ai 2) (af (ai 6) (ao)))))))
noncomputable def nA : MS := cT (dS 1 (GI)) (cT (dS 2 (az fu (ao))) (cT (xy (gP 3 4) (ID (af (ai 0) (ao))) lX) (jk (eFn (az sE (af (ai 2) (ao)))))))
noncomputable def jA (ds : List D) : M D := j6 (fun ds => iG 7 nA ds) ds
noncomputable abbrev ug : List Str := ["_law_rows_here", "_law_spots_here", "_law_deep", "_law_kind", "_law_last"]
noncomputable abbrev yu : Nat := 1
noncomputable def gG : MS := cT (dS 4 (aG fD (ai 1) (kL (eC (.int 1))))) (tT (j3 (aG A2 (ai 2) (az bW (af (ai 4) (ao))))) (qG (ja "list" aS (ai 1) (af (aG av (ai 4) (az cN (af (eC (.int 0)) (ao)))) (ao)))) (qG (ja "list" aS (ai 1) (af (aG av (eFn (oH (ai 4) (dQ) (dF (aG wZ (ai 2) (eC (.int 1)))))) (az cN (af (aG av (aG fD (ai 4) (aG wZ (ai 2) (eC (.int 1)))) (eC (.int 1))) (ao)))) (ao)))))
noncomputable def nB : MS := cT (dS 1 (az fu (af (az cN (ao)) (ao)))) (cT (qU (gP 2 3) (eFn (oH (ai 0) (dF (eC (.int 1))) (dQ))) gG) (jk (Ln (ai 1))))
noncomputable def kP (ds : List D) : M D := j6 (fun ds => iG 5 nB ds) ds
noncomputable abbrev oh : List Str := ["_law_spots_here", "_law_go", "_law_place", "_law_deep"]
noncomputable abbrev BQ : Nat := 1
noncomputable def kq : MS := cT (dS 3 (az bW (af (ai 2) (ao)))) (cT (tT (j3 (aG (j5 false) (ai 1) (eC (.str "down")))) (jk (eFn (kM oN [false, false, true, true] (ai 0) (mG (j3 (aG (j5 false) (az bW (af (ai 0) (ao))) (aG av (ai 4) (eC (.int 1))))) (j3 (aG (j5 false) (eFn (oH (ai 0) (dQ) (dF (ai 4)))) (ai 3)))) (ai 0)))) (ia)) (cT (tT (j3 (aG (j5 false) (ai 1) (eC (.str "deep")))) (jk (eFn (kM oN [false, false, true, true] (ai 0) (mG (j3 (aG A2 (az bW (af (ai 0) (ao))) (ai 4))) (j3 (aG (j5 false) (eFn (oH (ai 0) (dQ) (dF (ai 4)))) (ai 3)))) (ai 0)))) (ia)) (cT (tT (j3 (aG (j5 false) (ai 3) (eC (.int 0)))) (jk (eFn (az fu (ao)))) (ia)) (jk (eFn (kM oN [false, false, true, true] (ai 0) (mG (j3 (aG (j5 false) (az bW (af (ai 0) (ao))) (ai 4))) (mG (j3 (aG (j5 false) (eFn (oH (ai 0) (dQ) (dF (kL (eC (.int 1)))))) (eFn (oH (ai 3) (dQ) (dF (kL (eC (.int 1)))))))) (j3 (aG A2 (aG fD (ai 0) (kL (eC (.int 1)))) (aG fD (ai 3) (kL (eC (.int 1)))))))) (ai 0)))))))
noncomputable def jn (ds : List D) : M D := j6 (fun ds => iG 4 kq ds) ds
noncomputable abbrev uh : List Str := ["top", "parts_of", "found", "waiting", "one"]
noncomputable abbrev yw : Nat := 2
noncomputable def lY : MS := cT (dS 4 (ja "list" iS (ai 3) ao)) (cT (qG (ja "list" aS (ai 2) (af (ai 4) (ao)))) (qG (ja "list" BB (ai 3) (af (eFn (az sE (af (vh 1 1 (fun y => List.lookup y [("placed_parts", e9)]) (af (ai 4) (ao))) (ao)))) (ao)))))
noncomputable def nD : MS := cT (dS 2 (az fu (ao))) (cT (dS 3 (az fu (af (ai 0) (ao)))) (cT (kN (j3 (aG A2 (az bW (af (ai 3) (ao))) (eC (.int 0)))) lY fuel) (jk (Ln (ai 2)))))
noncomputable def nE (ds : List D) : M D := j6 (fun ds => iG 5 nD ds) ds
noncomputable abbrev iK : List Str := ["tree", "place", "above"]
noncomputable abbrev um : Nat := 2
noncomputable def iL : MS := cT (tT (j3 (aG (j5 false) (ai 1) (az cN (ao)))) (jk (eFn (az fu (ao)))) (ia)) (cT (dS 2 (eFn (oH (ai 1) (dQ) (dF (kL (eC (.int 1))))))) (jk (eFn (gK wg oN [false, false, true] (af (aG av (aG fD (ai 1) (kL (eC (.int 1)))) (eC (.int 1))) (af (az bW (af (aG fD (br 2 fE (af (ai 0) (af (ai 2) (ao)))) (eC (.int 1))) (ao))) (ao))) (jP) (aG av (ai 3) (az cN (af (ai 0) (ao))))))))
noncomputable def gJ (ds : List D) : M D := j6 (fun ds => iG 3 iL ds) ds
noncomputable abbrev nF : List Str := ["_law_script", "_law_start", "_law_cells_here"]
noncomputable abbrev sH : Nat := 2
noncomputable def nG : MS := cT (dS 2 (eFn (nZ oN [true] (zq (af (ai 1) (af (az (cM fun i j => if j < i then j else i) (af (az bW (af (ai 0) (ao))) (af (eC (.int 64)) (ao)))) (af (eC (.int 2)) (ao))))) (jP) (aG fD (ai 1) (ai 0))))) (jk (eFn (aG av (ai 2) (eFn (gK kJ oN [true, true] (af (aG wZ (eC (.int 6)) (az bW (af (ai 2) (ao)))) (ao)) (jP) (br 2 aI (af (az bW (af (ai 1) (ao))) (af (aG av (aG av (eC (.int 40)) (ai 2)) (ai 0)) (ao)))))))))
noncomputable def gD (ds : List D) : M D := j6 (fun ds => iG 3 nG ds) ds
noncomputable abbrev p9 : List Str := ["_law_cell", "_law_names_here", "_law_word", "_law_j", "_law_wide", "_law_place", "_law_k", "_law_name"]
noncomputable abbrev yx : Nat := 2
noncomputable def lZ : MS := dS 2 (aG av (ai 2) (aG fD (eC (.str "abcdefghijklmnopqrstuvwxyz")) (aG jN (br 2 aI (af (ai 0) (af (aG av (eC (.int 32)) (ai 3)) (ao)))) (eC (.int 26)))))
noncomputable def sI : MS := cT (dS 2 (eC (.str "q"))) (cT (ny kJ (gN 3) (af (eC (.int 7)) (ao)) lZ) (jk (eFn (gK kJ oN [true, false, true] (af (eC (.int 5)) (ao)) (jP) (eFn (oH (ai 3) (dQ) (dF (aG av (aG av (eC (.int 1)) (aG jN (br 2 aI (af (ai 1) (af (eC (.int 43)) (ao)))) (eC (.int 4)))) (ai 0)))))))))
noncomputable def mj : MS := dS 7 (aG av (ai 7) (aG fD (eC (.str "abcdefghijklmnopqrstuvwxyz")) (aG jN (aG av (br 2 aI (af (ai 0) (af (aG av (eC (.int 32)) (ai 3)) (ao)))) (aG Eu (ai 6) (az DJ (af (aG (j5 false) (ai 3) (ai 5)) (ao))))) (eC (.int 26)))))
noncomputable def mq : MS := cT (tT (j3 (aG (MG false) (ai 7) (eFn (az fu (af (eC (.str "start")) (af (eC (.str "rule")) (af (eC (.str "row")) (af (eC (.str "mix")) (af (eC (.str "many")) (af (eC (.str "any")) (af (eC (.str "kind")) (af (eC (.str "not")) (af (eC (.str "both")) (af (eC (.str "either")) (af (eC (.str "way")) (af (eC (.str "mark")) (ao))))))))))))))))) (dS 7 (aG av (ai 7) (eC (.str "z")))) (ia)) (qG (ja "list" aS (ai 1) (af (ai 7) (ao))))
noncomputable def mw : MS := cT (dS 7 (eC (.str ""))) (cT (ny kJ (gN 3) (af (ai 4) (ao)) mj) (mq))
noncomputable def kQ : MS := cT (dS 1 (az fu (ao))) (cT (tT (j3 (aG (j5 false) (aG jN (br 2 aI (af (ai 0) (af (eC (.int 40)) (ao)))) (eC (.int 3))) (eC (.int 0)))) (sI) (ia)) (cT (dS 4 (aG av (eC (.int 1)) (aG jN (br 2 aI (af (ai 0) (af (eC (.int 41)) (ao)))) (eC (.int 8))))) (cT (dS 5 (aG jN (br 2 aI (af (ai 0) (af (eC (.int 42)) (ao)))) (ai 4))) (cT (ny kJ (gN 6) (af (eC (.int 5)) (ao)) mw) (jk (Ln (ai 1)))))))
noncomputable def kR (ds : List D) : M D := j6 (fun ds => iG 8 kQ ds) ds
noncomputable abbrev vU : List Str := ["_law_cells_here", "_law_names_here", "_law_most_here", "_law_rows_here", "_law_cell", "_law_many", "_law_k", "_law_deep"]
noncomputable abbrev Au : Nat := 2
noncomputable def kT : MS := cT (dS 7 (aG av (eC (.int 1)) (aG jN (br 2 aI (af (ai 4) (af (eC (.int 4)) (ao)))) (aG av (aG fD (aG fD (ai 3) (kL (eC (.int 1)))) (eC (.int 0))) (eC (.int 1)))))) (cT (tT (j3 (aG A2 (ai 6) (eC (.int 0)))) (dS 7 (aG av (aG fD (aG fD (ai 3) (kL (eC (.int 1)))) (eC (.int 0))) (aG jN (br 2 aI (af (ai 4) (af (eC (.int 6)) (ao)))) (eC (.int 2))))) (ia)) (tT (j3 (aG Ra (az bW (af (ai 3) (ao))) (ai 2))) (qG (ja "list" aS (ai 3) (af (az cN (af (ai 7) (af (aG fD (ai 1) (aG jN (br 2 aI (af (ai 4) (af (aG av (eC (.int 7)) (ai 6)) (ao)))) (eC (.int 4)))) (ao)))) (ao)))) (ia)))
noncomputable def nH : MS := cT (dS 5 (eC (.int 1))) (cT (tT (j3 (aG (j5 false) (aG jN (br 2 aI (af (ai 4) (af (eC (.int 2)) (ao)))) (eC (.int 12))) (eC (.int 5)))) (dS 5 (aG av (eC (.int 1)) (aG jN (br 2 aI (af (ai 4) (af (eC (.int 3)) (ao)))) (eC (.int 24))))) (ia)) (ny kJ (gN 6) (af (ai 5) (ao)) kT))
noncomputable def oZ : MS := cT (dS 3 (az fu (af (az cN (af (eC (.int 0)) (af (aG fD (ai 1) (aG jN (br 2 aI (af (aG fD (ai 0) (eC (.int 0))) (af (eC (.int 1)) (ao)))) (eC (.int 4)))) (ao)))) (ao)))) (cT (qU (gN 4) (ai 0) nH) (jk (Ln (ai 3))))
noncomputable def mH (ds : List D) : M D := j6 (fun ds => iG 8 oZ ds) ds
noncomputable abbrev vV : List Str := ["_law_script", "_law_most_here", "_law_head"]
noncomputable abbrev Av : Nat := 2
noncomputable def mJ : MS := cT (dS 2 (br 2 aI (af (az Am (af (eFn (oH (ai 0) (dQ) (dF (eC (.int 1))))) (ao))) (af (eC (.int 44)) (ao))))) (cT (tT (j3 (aG (j5 false) (aG jN (ai 2) (eC (.int 4))) (eC (.int 1)))) (jk (aG av (eC (.int 1)) (aG jN (aG zf (ai 2) (eC (.int 4))) (eC (.int 6))))) (ia)) (jk (ai 1)))
noncomputable def mK (ds : List D) : M D := j6 (fun ds => iG 3 mJ ds) ds
noncomputable abbrev sr : Nat := 2
noncomputable def gM : MS := cT (tT (j3 (aG (j5 false) (ai 1) (az cN (ao)))) (jk (az fu (ao))) (ia)) (cT (dS 2 (eFn (oH (ai 1) (dQ) (dF (kL (eC (.int 1))))))) (jk (gK wg oN [false, false, true] (af (aG av (aG fD (ai 1) (kL (eC (.int 1)))) (eC (.int 1))) (af (az bW (af (aG fD (br 2 fE (af (ai 0) (af (ai 2) (ao)))) (eC (.int 1))) (ao))) (ao))) (jP) (aG av (ai 3) (az cN (af (ai 0) (ao)))))))
noncomputable def fF (ds : List D) : M D := vn (fun ds => iG 3 gM ds) ds
noncomputable abbrev rj : List Str := ["tree"]
noncomputable abbrev wo : Nat := 3
noncomputable def kU : MS := jk (br 2 nE (af (az cN (af (az cN (ao)) (af (ai 0) (ao)))) (af (eC (.fn "placed_parts")) (ao))))
noncomputable def iM (ds : List D) : M D := j6 (fun ds => iG 1 kU ds) ds
noncomputable abbrev qc : List Str := ["tree"]
noncomputable abbrev sJ : Nat := 4
noncomputable def nI : MS := jk (eFn (kM (oT 2) [] (br 1 iM (af (ai 0) (ao))) (jP) (ai 0)))
noncomputable def fK (ds : List D) : M D := j6 (fun ds => iG 1 nI ds) ds
noncomputable abbrev lP : List Str := ["tree", "go", "place", "part"]
noncomputable abbrev C7 : Nat := 5
noncomputable def nX : MS := cT (tT (j3 (aG (j5 false) (ai 1) (eC (.str "later")))) (jk (br 2 gJ (af (ai 0) (af (ai 2) (ao))))) (ia)) (cT (dS 3 (br 2 fE (af (ai 0) (af (ai 2) (ao))))) (cT (tT (j3 (aG (j5 false) (ai 1) (eC (.str "down")))) (jk (eFn (gK kJ oN [false, false, true] (af (az bW (af (aG fD (ai 3) (eC (.int 1))) (ao))) (ao)) (jP) (aG av (ai 3) (az cN (af (ai 0) (ao))))))) (ia)) (jk (eFn (kM oN [false, false, true] (eFn (oH (br 1 fK (af (ai 3) (ao))) (dF (eC (.int 1))) (dQ))) (jP) (aG av (ai 3) (ai 0)))))))
noncomputable def lQ (ds : List D) : M D := j6 (fun ds => iG 4 nX ds) ds
noncomputable abbrev Aw : Nat := 5
noncomputable def kG : MS := cT (tT (j3 (aG (j5 false) (ai 1) (eC (.str "later")))) (jk (br 2 fF (af (ai 0) (af (ai 2) (ao))))) (ia)) (cT (dS 3 (br 2 fE (af (ai 0) (af (ai 2) (ao))))) (cT (tT (j3 (aG (j5 false) (ai 1) (eC (.str "down")))) (jk (gK kJ oN [false, false, true] (af (az bW (af (aG fD (ai 3) (eC (.int 1))) (ao))) (ao)) (jP) (aG av (ai 3) (az cN (af (ai 0) (ao)))))) (ia)) (jk (kM oN [false, false, true] (eFn (oH (br 1 fK (af (ai 3) (ao))) (dF (eC (.int 1))) (dQ))) (jP) (aG av (ai 3) (ai 0))))))
noncomputable def jo (ds : List D) : M D := vn (fun ds => iG 4 kG ds) ds
noncomputable abbrev JF : List Str := ["_law_script", "_law_names_here", "_law_rows_here", "_law_tree", "_law_spots_here", "_law_by", "_law_turn", "_law_k", "_law_place", "_law_go", "_law_due_here", "_law_told"]
noncomputable def Ax : MS := cT (dS 10 (br 3 jn (af (ai 4) (af (ai 9) (af (ai 8) (ao)))))) (cT (dS 11 (br 3 jo (af (ai 3) (af (ai 9) (af (ai 8) (ao)))))) (cT (tT (CL (FT (w6 iz (Il .lst (ai 11)))) (j3 (aG (j5 true) (ai 11) (ai 10)))) (jk (eC (.bl false))) (ia)) (cT (qG (ja "list" aS (ai 11) (af (ai 8) (ao)))) (tT (j3 (aG (j5 true) (br 3 lQ (af (ai 3) (af (ai 9) (af (ai 8) (ao))))) (ai 10))) (jk (eC (.bl false))) (ia)))))
noncomputable def xN : MS := tT (CL (j3 (aG (j5 false) (ai 7) (eC (.int 0)))) (j3 (aG (j5 false) (aG jN (ai 7) (ai 5)) (ai 6)))) (qU (gN 9) (eFn (az fu (af (eC (.str "down")) (af (eC (.str "deep")) (af (eC (.str "later")) (ao)))))) Ax) (ia)
noncomputable def DX : MS := cT (dS 1 (br 1 kR (af (az Am (af (eFn (oH (ai 0) (dQ) (dF (eC (.int 1))))) (ao))) (ao)))) (cT (dS 2 (br 3 mH (af (eFn (aG av (br 2 gD (af (ai 0) (af (eC (.int 0)) (ao)))) (br 2 gD (af (ai 0) (af (eC (.int 1)) (ao)))))) (af (ai 1) (af (br 2 mK (af (ai 0) (af (eC (.int 60)) (ao)))) (ao)))))) (cT (dS 3 (aG fD (br 1 jA (af (ai 2) (ao))) (eC (.int 0)))) (cT (dS 4 (br 1 kP (af (ai 2) (ao)))) (cT (dS 5 (aG av (eC (.int 1)) (aG zf (az bW (af (ai 4) (ao))) (eC (.int 12))))) (cT (dS 6 (eC (.int 0))) (cT (tT (j3 (aG A2 (az bW (af (ai 0) (ao))) (eC (.int 0)))) (dS 6 (aG jN (aG fD (ai 0) (eC (.int 0))) (ai 5))) (ia)) (cT (xy (gP 7 8) (n5 (af (ai 4) (ao))) xN) (jk (aG (j5 false) (ai 3) (aG fD (br 1 jA (af (ai 2) (ao))) (eC (.int 0))))))))))))
noncomputable def GN (ds : List D) : M D := j6 (fun ds => iG 12 DX ds) ds
structure PZ where
  f : Nat → Addr
  d : Nat → FuncData
  c : Nat → Addr
structure Txt (K : PySem.W.Frag) (mg : Str → Option Value) (t : PZ) : Prop where
  uo : za K "all_within" "all_within" bf (t.f 0) (t.d 0)
  Ay : Binds K (t.d 0) ["top", "parts_of"] []
  Az : mg "all_within" = some (.ref (t.f 0))
  qe : za K "all_places" "all_places" dN (t.f 1) (t.d 1)
  uq : Binds K (t.d 1) ["tree"] []
  ur : mg "all_places" = some (.ref (t.f 1))
  pK : za K "tree_at" "tree_at" gI (t.f 2) (t.d 2)
  r6 : Binds K (t.d 2) ["tree", "place"] []
  r8 : mg "tree_at" = some (.ref (t.f 2))
  r9 : za K "gone_to" "gone_to" cy (t.f 3) (t.d 3)
  zx : Binds K (t.d 3) ["tree", "go", "place"] []
  zy : mg "gone_to" = some (.ref (t.f 3))
  jB : za K "later_brothers" "later_brothers" aF (t.f 4) (t.d 4)
  pL : Binds K (t.d 4) ["tree", "place"] []
  pM : mg "later_brothers" = some (.ref (t.f 4))
  rm : za K "placed_trees" "placed_trees" cI (t.f 5) (t.d 5)
  xO : Binds K (t.d 5) ["tree"] []
  xP : mg "placed_trees" = some (.ref (t.f 5))
  rq : za K "placed_parts" "placed_parts" cJ (t.f 6) (t.d 6)
  xQ : Binds K (t.d 6) ["placed"] []
  rA : mg "placed_parts" = some (.ref (t.f 6))
  eO : za K "_law_mix" "_law_mix" d7 (t.f 7) (t.d 7)
  fc : Binds K (t.d 7) ["_law_cell", "_law_k"] []
  ff : mg "_law_mix" = some (.ref (t.f 7))
  qf : za K "_law_cells" "_law_cells" bS (t.f 8) (t.d 8)
  uu : Binds K (t.d 8) ["_law_script", "_law_start"] []
  uv : mg "_law_cells" = some (.ref (t.f 8))
  uw : za K "_law_names" "_law_names" aY (t.f 9) (t.d 9)
  AA : Binds K (t.d 9) ["_law_cell"] []
  AB : mg "_law_names" = some (.ref (t.f 9))
  vW : za K "_law_rows" "_law_rows" bN (t.f 10) (t.d 10)
  BR : Binds K (t.d 10) ["_law_cells_here", "_law_names_here", "_law_most_here"] []
  BS : mg "_law_rows" = some (.ref (t.f 10))
  qg : za K "_law_trees" "_law_trees" bE (t.f 11) (t.d 11)
  ux : Binds K (t.d 11) ["_law_rows_here"] []
  uy : mg "_law_trees" = some (.ref (t.f 11))
  uz : za K "_law_spots" "_law_spots" cG (t.f 12) (t.d 12)
  AD : Binds K (t.d 12) ["_law_rows_here"] []
  AE : mg "_law_spots" = some (.ref (t.f 12))
  xR : za K "_law_due" "_law_due" cX (t.f 13) (t.d 13)
  C8 : Binds K (t.d 13) ["_law_spots_here", "_law_go", "_law_place"] []
  C9 : mg "_law_due" = some (.ref (t.f 13))
  vX : za K "_law_most" "_law_most" dJ (t.f 14) (t.d 14)
  BU : Binds K (t.d 14) ["_law_script", "_law_most_here"] []
  BV : mg "_law_most" = some (.ref (t.f 14))
  Nl : za K "law" "law" eT (t.f 15) (t.d 15)
  Rq : Binds K (t.d 15) ["_law_script"] []
  M_law : mg "law" = some (.ref (t.f 15))
  vY : mg "enumerate" = none
  Nm : mg "int" = none
  AF : mg "isinstance" = none
  nj : mg "len" = none
  Dc : mg "list" = none
  Nn : mg "min" = none
  kc : mg "range" = none
  qh : mg "reversed" = none
  JG : mg "sum" = none
  IQ : mg "tuple" = none
theorem xS : DN "_law_by" := by decide +kernel
theorem cZ : DN "_law_cell" := by decide +kernel
theorem sL : DN "_law_cells" := by decide +kernel
theorem iV : DN "_law_cells_here" := by decide +kernel
theorem dh : DN "_law_deep" := by decide +kernel
theorem pA : DN "_law_digit" := by decide +kernel
theorem BW : DN "_law_due" := by decide +kernel
theorem pN : DN "_law_due_here" := by decide +kernel
theorem oi : DN "_law_go" := by decide +kernel
theorem uA : DN "_law_head" := by decide +kernel
theorem nJ : DN "_law_held" := by decide +kernel
theorem vA : DN "_law_j" := by decide +kernel
theorem iN : DN "_law_k" := by decide +kernel
theorem AG : DN "_law_kind" := by decide +kernel
theorem nK : DN "_law_last" := by decide +kernel
theorem AH : DN "_law_many" := by decide +kernel
theorem d9 : DN "_law_mix" := by decide +kernel
theorem AI : DN "_law_most" := by decide +kernel
theorem o4 : DN "_law_most_here" := by decide +kernel
theorem nL : DN "_law_name" := by decide +kernel
theorem yy : DN "_law_names" := by decide +kernel
theorem gQ : DN "_law_names_here" := by decide +kernel
theorem kW : DN "_law_number" := by decide +kernel
theorem gH : DN "_law_one" := by decide +kernel
theorem yz : DN "_law_parts" := by decide +kernel
theorem eY : DN "_law_place" := by decide +kernel
theorem AJ : DN "_law_rows" := by decide +kernel
theorem cL : DN "_law_rows_here" := by decide +kernel
theorem eF : DN "_law_script" := by decide +kernel
theorem yC : DN "_law_spots" := by decide +kernel
theorem cj : DN "_law_spots_here" := by decide +kernel
theorem sM : DN "_law_start" := by decide +kernel
theorem qj : DN "_law_told" := by decide +kernel
theorem kX : DN "_law_tree" := by decide +kernel
theorem sN : DN "_law_trees" := by decide +kernel
theorem oj : DN "_law_trees_here" := by decide +kernel
theorem AK : DN "_law_turn" := by decide +kernel
theorem uB : DN "_law_wide" := by decide +kernel
theorem uC : DN "_law_word" := by decide +kernel
theorem uD : DN "above" := by decide +kernel
theorem sO : DN "all_places" := by decide +kernel
theorem yD : DN "all_within" := by decide +kernel
theorem BX : DN "found" := by decide +kernel
theorem DY : DN "go" := by decide +kernel
theorem xT : DN "gone_to" := by decide +kernel
theorem BY : DN "inner" := by decide +kernel
theorem ET : DN "k" := by decide +kernel
theorem o5 : DN "later_brothers" := by decide +kernel
theorem IS : DN "list" := by decide +kernel
theorem GO : DN "one" := by decide +kernel
theorem uE : DN "part" := by decide +kernel
theorem BZ : DN "parts_of" := by decide +kernel
theorem gy : DN "place" := by decide +kernel
theorem zz : DN "placed" := by decide +kernel
theorem wu : DN "placed_parts" := by decide +kernel
theorem wz : DN "placed_trees" := by decide +kernel
theorem Lx : DN "top" := by decide +kernel
theorem mz : DN "tree" := by decide +kernel
theorem qk : DN "tree_at" := by decide +kernel
theorem tF : DN "waiting" := by decide +kernel
theorem IT : bootBuiltins "list" = some (.type (Ty.nm .lst)) := by decide +kernel
theorem IU : ("list" : Str) ≠ "__name__" := by decide +kernel
noncomputable def wA : Scope := {kind := .function, names := [ (.ofString ".0", .local), (.ofString "place", .local), (.ofString "part", .local)], isGenerator := false, isCoroutine := false, more := []}
theorem kY : di (aa dN) qc wA ["place", "part"] [] := ⟨by decide +kernel, rfl, by decide +kernel, by decide +kernel, by decide +kernel, by decide +kernel, by decide +kernel⟩
noncomputable def uF : Scope := {kind := .function, names := [ (.ofString ".0", .local), (.ofString "k", .local), (.ofString "place", .free)], isGenerator := false, isCoroutine := false, more := []}
theorem kZ : di (aa cy) lP uF ["k"] [false, false, true] := ⟨by decide +kernel, rfl, by decide +kernel, by decide +kernel, by decide +kernel, by decide +kernel, by decide +kernel⟩
noncomputable def uG : Scope := {kind := .function, names := [ (.ofString ".0", .local), (.ofString "inner", .local), (.ofString "place", .free)], isGenerator := false, isCoroutine := false, more := []}
theorem lg : di (aa cy) lP uG ["inner"] [false, false, true] := ⟨by decide +kernel, rfl, by decide +kernel, by decide +kernel, by decide +kernel, by decide +kernel, by decide +kernel⟩
noncomputable def nk : Scope := {kind := .function, names := [ (.ofString ".0", .local), (.ofString "k", .local), (.ofString "above", .free)], isGenerator := false, isCoroutine := false, more := []}
theorem gS : di (aa aF) iK nk ["k"] [false, false, true] := ⟨by decide +kernel, rfl, by decide +kernel, by decide +kernel, by decide +kernel, by decide +kernel, by decide +kernel⟩
noncomputable def o6 : Scope := {kind := .function, names := [ (.ofString ".0", .local), (.ofString "k", .local), (.ofString "part", .local), (.ofString "placed", .free)], isGenerator := false, isCoroutine := false, more := []}
theorem gz : di (aa cJ) n8 o6 ["k", "part"] [true] := ⟨by decide +kernel, rfl, by decide +kernel, by decide +kernel, by decide +kernel, by decide +kernel, by decide +kernel⟩
noncomputable def qI : Scope := {kind := .function, names := [ (.ofString ".0", .local), (.ofString "_law_k", .local), (.ofString "_law_script", .free)], isGenerator := false, isCoroutine := false, more := []}
theorem jc : di (aa bS) nF qI ["_law_k"] [true] := ⟨by decide +kernel, rfl, by decide +kernel, by decide +kernel, by decide +kernel, by decide +kernel, by decide +kernel⟩
noncomputable def i7 : Scope := {kind := .function, names := [ (.ofString ".0", .local), (.ofString "_law_k", .local), (.ofString "_law_mix", .globalImplicit), (.ofString "len", .globalImplicit), (.ofString "_law_script", .free), (.ofString "_law_start", .free)], isGenerator := false, isCoroutine := false, more := []}
theorem ic : di (aa bS) nF i7 ["_law_k"] [true, true] := ⟨by decide +kernel, rfl, by decide +kernel, by decide +kernel, by decide +kernel, by decide +kernel, by decide +kernel⟩
noncomputable def kg : Scope := {kind := .function, names := [ (.ofString ".0", .local), (.ofString "_law_k", .local), (.ofString "_law_mix", .globalImplicit), (.ofString "_law_cell", .free), (.ofString "_law_word", .free)], isGenerator := false, isCoroutine := false, more := []}
theorem ie : di (aa aY) p9 kg ["_law_k"] [true, false, true] := ⟨by decide +kernel, rfl, by decide +kernel, by decide +kernel, by decide +kernel, by decide +kernel, by decide +kernel⟩
noncomputable def mC : Scope := {kind := .function, names := [ (.ofString ".0", .local), (.ofString "_law_one", .local), (.ofString "len", .globalImplicit), (.ofString "_law_deep", .free), (.ofString "_law_place", .free)], isGenerator := false, isCoroutine := false, more := []}
theorem fm : di (aa cX) oh mC ["_law_one"] [false, false, true, true] := ⟨by decide +kernel, rfl, by decide +kernel, by decide +kernel, by decide +kernel, by decide +kernel, by decide +kernel⟩
noncomputable def mD : Scope := {kind := .function, names := [ (.ofString ".0", .local), (.ofString "_law_one", .local), (.ofString "len", .globalImplicit), (.ofString "_law_deep", .free), (.ofString "_law_place", .free)], isGenerator := false, isCoroutine := false, more := []}
theorem fq : di (aa cX) oh mD ["_law_one"] [false, false, true, true] := ⟨by decide +kernel, rfl, by decide +kernel, by decide +kernel, by decide +kernel, by decide +kernel, by decide +kernel⟩
noncomputable def mE : Scope := {kind := .function, names := [ (.ofString ".0", .local), (.ofString "_law_one", .local), (.ofString "len", .globalImplicit), (.ofString "_law_deep", .free), (.ofString "_law_place", .free)], isGenerator := false, isCoroutine := false, more := []}
theorem eL : di (aa cX) oh mE ["_law_one"] [false, false, true, true] := ⟨by decide +kernel, rfl, by decide +kernel, by decide +kernel, by decide +kernel, by decide +kernel, by decide +kernel⟩
noncomputable def rB : Scope := {kind := .function, names := [ (.ofString ".0", .local), (.ofString "k", .local), (.ofString "place", .free)], isGenerator := false, isCoroutine := false, more := []}
theorem jC : di (aa cy) lP rB ["k"] [false, false, true] := ⟨by decide +kernel, rfl, by decide +kernel, by decide +kernel, by decide +kernel, by decide +kernel, by decide +kernel⟩
noncomputable def rC : Scope := {kind := .function, names := [ (.ofString ".0", .local), (.ofString "inner", .local), (.ofString "place", .free)], isGenerator := false, isCoroutine := false, more := []}
theorem jD : di (aa cy) lP rC ["inner"] [false, false, true] := ⟨by decide +kernel, rfl, by decide +kernel, by decide +kernel, by decide +kernel, by decide +kernel, by decide +kernel⟩
noncomputable def lI : Scope := {kind := .function, names := [ (.ofString ".0", .local), (.ofString "k", .local), (.ofString "above", .free)], isGenerator := false, isCoroutine := false, more := []}
theorem fU : di (aa aF) iK lI ["k"] [false, false, true] := ⟨by decide +kernel, rfl, by decide +kernel, by decide +kernel, by decide +kernel, by decide +kernel, by decide +kernel⟩
theorem eu : LK (aa bS) "_law_cells_here" .local := by decide +kernel
theorem oK : LK (aa bS) "_law_script" .cell := by decide +kernel
theorem pB : LK (aa bS) "_law_start" .cell := by decide +kernel
theorem o7 : LK (aa bS) "len" .globalImplicit := by decide +kernel
theorem uH : LK (aa bS) "min" .globalImplicit := by decide +kernel
theorem nq : LK (aa bS) "range" .globalImplicit := by decide +kernel
theorem lJ : LK (aa cX) "_law_deep" .cell := by decide +kernel
theorem nt : LK (aa cX) "_law_go" .local := by decide +kernel
theorem ql : LK (aa cX) "_law_place" .cell := by decide +kernel
theorem gE : LK (aa cX) "_law_spots_here" .local := by decide +kernel
theorem wB : LK (aa cX) "len" .globalImplicit := by decide +kernel
theorem jb : LK (aa d7) "_law_cell" .local := by decide +kernel
theorem dO : LK (aa d7) "_law_digit" .local := by decide +kernel
theorem tG : LK (aa d7) "_law_j" .local := by decide +kernel
theorem kr : LK (aa d7) "_law_k" .local := by decide +kernel
theorem dz : LK (aa d7) "_law_number" .local := by decide +kernel
theorem uI : LK (aa d7) "range" .globalImplicit := by decide +kernel
theorem iW : LK (aa dJ) "_law_head" .local := by decide +kernel
theorem qN : LK (aa dJ) "_law_mix" .globalImplicit := by decide +kernel
theorem nM : LK (aa dJ) "_law_most_here" .local := by decide +kernel
theorem pC : LK (aa dJ) "_law_script" .local := by decide +kernel
theorem vB : LK (aa dJ) "sum" .globalImplicit := by decide +kernel
theorem eU : LK (aa aY) "_law_cell" .cell := by decide +kernel
theorem fM : LK (aa aY) "_law_j" .local := by decide +kernel
theorem mL : LK (aa aY) "_law_k" .local := by decide +kernel
theorem fh : LK (aa aY) "_law_mix" .globalImplicit := by decide +kernel
theorem cK : LK (aa aY) "_law_name" .local := by decide +kernel
theorem fO : LK (aa aY) "_law_names_here" .local := by decide +kernel
theorem j7 : LK (aa aY) "_law_place" .local := by decide +kernel
theorem iO : LK (aa aY) "_law_wide" .local := by decide +kernel
theorem iP : LK (aa aY) "_law_word" .cell := by decide +kernel
theorem uJ : LK (aa aY) "int" .globalImplicit := by decide +kernel
theorem iD : LK (aa aY) "range" .globalImplicit := by decide +kernel
theorem dP : LK (aa bN) "_law_cell" .local := by decide +kernel
theorem i8 : LK (aa bN) "_law_cells_here" .local := by decide +kernel
theorem iX : LK (aa bN) "_law_deep" .local := by decide +kernel
theorem jZ : LK (aa bN) "_law_k" .local := by decide +kernel
theorem iY : LK (aa bN) "_law_many" .local := by decide +kernel
theorem eB : LK (aa bN) "_law_mix" .globalImplicit := by decide +kernel
theorem nN : LK (aa bN) "_law_most_here" .local := by decide +kernel
theorem i9 : LK (aa bN) "_law_names_here" .local := by decide +kernel
theorem cz : LK (aa bN) "_law_rows_here" .local := by decide +kernel
theorem vC : LK (aa bN) "len" .globalImplicit := by decide +kernel
theorem tH : LK (aa bN) "range" .globalImplicit := by decide +kernel
theorem fV : LK (aa cG) "_law_deep" .local := by decide +kernel
theorem pO : LK (aa cG) "_law_kind" .local := by decide +kernel
theorem eV : LK (aa cG) "_law_last" .local := by decide +kernel
theorem mW : LK (aa cG) "_law_rows_here" .local := by decide +kernel
theorem cP : LK (aa cG) "_law_spots_here" .local := by decide +kernel
theorem uK : LK (aa cG) "len" .globalImplicit := by decide +kernel
theorem eW : LK (aa bE) "_law_deep" .local := by decide +kernel
theorem eX : LK (aa bE) "_law_held" .local := by decide +kernel
theorem kH : LK (aa bE) "_law_kind" .local := by decide +kernel
theorem j8 : LK (aa bE) "_law_parts" .local := by decide +kernel
theorem mX : LK (aa bE) "_law_rows_here" .local := by decide +kernel
theorem iQ : LK (aa bE) "_law_tree" .local := by decide +kernel
theorem fP : LK (aa bE) "_law_trees_here" .local := by decide +kernel
theorem tK : LK (aa bE) "list" .globalImplicit := by decide +kernel
theorem iZ : LK (aa bE) "reversed" .globalImplicit := by decide +kernel
theorem su : LK (aa bE) "tuple" .globalImplicit := by decide +kernel
theorem om : LK (aa dN) "placed_trees" .globalImplicit := by decide +kernel
theorem tL : LK (aa dN) "tree" .local := by decide +kernel
theorem j0 : LK (aa bf) "found" .local := by decide +kernel
theorem uL : LK (aa bf) "len" .globalImplicit := by decide +kernel
theorem tM : LK (aa bf) "list" .globalImplicit := by decide +kernel
theorem lq : LK (aa bf) "one" .local := by decide +kernel
theorem qp : LK (aa bf) "parts_of" .local := by decide +kernel
theorem qu : LK (aa bf) "reversed" .globalImplicit := by decide +kernel
theorem uM : LK (aa bf) "top" .local := by decide +kernel
theorem gT : LK (aa bf) "waiting" .local := by decide +kernel
theorem lR : LK qI "_law_script" .free := by decide +kernel
theorem nO : LK i7 "_law_mix" .globalImplicit := by decide +kernel
theorem lS : LK i7 "_law_script" .free := by decide +kernel
theorem mO : LK i7 "_law_start" .free := by decide +kernel
theorem qv : LK i7 "len" .globalImplicit := by decide +kernel
theorem jq : LK mC "_law_deep" .free := by decide +kernel
theorem nP : LK mC "_law_place" .free := by decide +kernel
theorem rE : LK mC "len" .globalImplicit := by decide +kernel
theorem jr : LK mD "_law_deep" .free := by decide +kernel
theorem nQ : LK mD "_law_place" .free := by decide +kernel
theorem rF : LK mD "len" .globalImplicit := by decide +kernel
theorem oq : LK mE "_law_deep" .free := by decide +kernel
theorem jd : LK mE "_law_place" .free := by decide +kernel
theorem rG : LK mE "len" .globalImplicit := by decide +kernel
theorem mY : LK kg "_law_cell" .free := by decide +kernel
theorem nR : LK kg "_law_mix" .globalImplicit := by decide +kernel
theorem mZ : LK kg "_law_word" .free := by decide +kernel
theorem qO : LK uF "place" .free := by decide +kernel
theorem qP : LK uG "place" .free := by decide +kernel
theorem pP : LK rB "place" .free := by decide +kernel
theorem pQ : LK rC "place" .free := by decide +kernel
theorem m5 : LK nk "above" .free := by decide +kernel
theorem lT : LK lI "above" .free := by decide +kernel
theorem nS : LK o6 "placed" .free := by decide +kernel
theorem lK : LK (aa cy) "all_places" .globalImplicit := by decide +kernel
theorem mF : LK (aa cy) "go" .local := by decide +kernel
theorem jJ : LK (aa cy) "later_brothers" .globalImplicit := by decide +kernel
theorem rH : LK (aa cy) "len" .globalImplicit := by decide +kernel
theorem g6 : LK (aa cy) "part" .local := by decide +kernel
theorem jE : LK (aa cy) "place" .cell := by decide +kernel
theorem pR : LK (aa cy) "range" .globalImplicit := by decide +kernel
theorem kh : LK (aa cy) "tree" .local := by decide +kernel
theorem ou : LK (aa cy) "tree_at" .globalImplicit := by decide +kernel
theorem fW : LK (aa aF) "above" .cell := by decide +kernel
theorem lM : LK (aa aF) "len" .globalImplicit := by decide +kernel
theorem dB : LK (aa aF) "place" .local := by decide +kernel
theorem kI : LK (aa aF) "range" .globalImplicit := by decide +kernel
theorem ly : LK (aa aF) "tree" .local := by decide +kernel
theorem jK : LK (aa aF) "tree_at" .globalImplicit := by decide +kernel
theorem oz : LK (aa eT) "_law_by" .local := by decide +kernel
theorem o8 : LK (aa eT) "_law_cells" .globalImplicit := by decide +kernel
theorem wC : LK (aa eT) "_law_due" .globalImplicit := by decide +kernel
theorem jt : LK (aa eT) "_law_due_here" .local := by decide +kernel
theorem lA : LK (aa eT) "_law_go" .local := by decide +kernel
theorem pD : LK (aa eT) "_law_k" .local := by decide +kernel
theorem vD : LK (aa eT) "_law_most" .globalImplicit := by decide +kernel
theorem uN : LK (aa eT) "_law_names" .globalImplicit := by decide +kernel
theorem lB : LK (aa eT) "_law_names_here" .local := by decide +kernel
theorem ig : LK (aa eT) "_law_place" .local := by decide +kernel
theorem vE : LK (aa eT) "_law_rows" .globalImplicit := by decide +kernel
theorem gU : LK (aa eT) "_law_rows_here" .local := by decide +kernel
theorem fG : LK (aa eT) "_law_script" .local := by decide +kernel
theorem uO : LK (aa eT) "_law_spots" .globalImplicit := by decide +kernel
theorem gF : LK (aa eT) "_law_spots_here" .local := by decide +kernel
theorem jF : LK (aa eT) "_law_told" .local := by decide +kernel
theorem jG : LK (aa eT) "_law_tree" .local := by decide +kernel
theorem o9 : LK (aa eT) "_law_trees" .globalImplicit := by decide +kernel
theorem lU : LK (aa eT) "_law_turn" .local := by decide +kernel
theorem vF : LK (aa eT) "enumerate" .globalImplicit := by decide +kernel
theorem rJ : LK (aa eT) "gone_to" .globalImplicit := by decide +kernel
theorem uP : LK (aa eT) "isinstance" .globalImplicit := by decide +kernel
theorem xU : LK (aa eT) "len" .globalImplicit := by decide +kernel
theorem B0 : LK (aa eT) "list" .globalImplicit := by decide +kernel
theorem De : LK (aa eT) "sum" .globalImplicit := by decide +kernel
theorem oM : LK (aa cJ) "enumerate" .globalImplicit := by decide +kernel
theorem qw : LK (aa cJ) "placed" .cell := by decide +kernel
theorem oA : LK (aa cI) "all_within" .globalImplicit := by decide +kernel
theorem m8 : LK (aa cI) "placed_parts" .globalImplicit := by decide +kernel
theorem rK : LK (aa cI) "tree" .local := by decide +kernel
theorem uQ : LK (aa gI) "k" .local := by decide +kernel
theorem vG : LK (aa gI) "place" .local := by decide +kernel
theorem m9 : LK (aa gI) "tree" .local := by decide +kernel
section
variable {P : Program} {w : World} {K : PySem.W.Frag} {mg : Str → Option Value} {base : Heap} {t : PZ}
theorem xV : gB zw ["tree", "place"] (aa gI) := ⟨rfl, rfl, rfl, by decide +kernel, rfl, by decide +kernel, by decide +kernel⟩
theorem Df (T : Txt K mg t) : cY P w K mg base (gc P w) 1 (t.f 2) (t.d 2) ["tree", "place"] (cU K mg 2 fE) := by
 refine cY.imp (sp := cU K mg 2 (fun ds => iG 3 rZ ds)) ?_ iC
 refine A4 (k := 0) (ms := rZ) T.pK xV (by decide) (by decide) (fun _ => rfl) ?_
 intro X EE cdv A outer s H E hX hr hx uR
 subst hX
 have hu := gR hr
 have nd := xV.nd
 have hfr : iR (nu (gc P w) P w K mg base zw "tree_at" (aa gI) (t.f 2) cdv A outer s H E) := ⟨_, outer, s.heap.objs.size, rfl, rfl, rfl⟩
 refine au ?_ ?_
 refine Al ?_ ?_ ?_ ?_ ?_ ?_
 exact uR
 exact rfl
 refine ah 1 ?_ ?_ ?_
 exact (Or.inl vG)
 exact gy
 exact rfl
 refine oV (i := 2) ?_ ?_ ?_ ?_
 exact nd
 exact (Or.inl uQ)
 exact Or.inl rfl
 exact rfl
 refine aJ ?_
 refine cg (i := 0) ?_ ?_ ?_ ?_ ?_ ?_
 exact nd
 exact (Or.inl m9)
 refine cA ?_ ?_ ?_
 refine cA ?_ ?_ ?_
 refine ah 0 ?_ ?_ ?_
 exact (Or.inl m9)
 exact mz
 exact rfl
 exact aA
 decide +kernel
 refine ah 2 ?_ ?_ ?_
 exact (Or.inl uQ)
 exact ET
 exact rfl
 decide +kernel
 exact Or.inl rfl
 exact rfl
 decide +kernel
 decide +kernel
 refine aJ ?_
 refine eE ?_
 refine ah 0 ?_ ?_ ?_
 exact (Or.inl m9)
 exact mz
 exact rfl
theorem qJ : gB n8 ["placed"] (aa cJ) := ⟨rfl, rfl, rfl, by decide +kernel, rfl, by decide +kernel, by decide +kernel⟩
theorem wD (T : Txt K mg t) : cY P w K mg base (gc P w) 1 (t.f 6) (t.d 6) ["placed"] (cU K mg 1 e9) := by
 refine cY.imp (sp := cU K mg 1 (fun ds => iG 1 kO ds)) ?_ iC
 refine A4 (k := 0) (ms := kO) T.rq qJ (by decide) (by decide) (fun _ => rfl) ?_
 intro X EE cdv A outer s H E hX hr hx uR
 subst hX
 have hu := gR hr
 have nd := qJ.nd
 have hfr : iR (nu (gc P w) P w K mg base n8 "placed_parts" (aa cJ) (t.f 6) cdv A outer s H E) := ⟨_, outer, s.heap.objs.size, rfl, rfl, rfl⟩
 refine aJ ?_
 refine eE ?_
 refine dw ?_
 refine GA (xs := ["k", "part"]) (ow := Iq K 2) ?_ ?_ ?_ ?_ ?_ ?_ ?_ ?_ ?_
 exact hx
 exact hfr
 exact gz
 exact Bp rfl gz
 exact Br
 exact rfl
 refine BO ?_ ?_ ?_ ?_
 exact T.vY
 exact oM
 refine aT ?_ ?_ ?_
 refine cA ?_ ?_ ?_
 refine cA ?_ ?_ ?_
 refine ah 0 ?_ ?_ ?_
 exact (Or.inr (Or.inl qw))
 exact zz
 exact rfl
 exact aA
 decide +kernel
 exact aA
 decide +kernel
 decide +kernel
 exact ak
 decide +kernel
 refine iI fun cl C pins s0 H0 fp E1 EU hx => ?_
 refine jO ?_
 refine aT ?_ ?_ ?_
 refine bI ?_ ?_
 refine cA ?_ ?_ ?_
 refine ah 2 ?_ ?_ ?_
 exact (fJ gz nS)
 exact zz
 exact rfl
 exact aA
 decide +kernel
 refine jO ?_
 refine aT ?_ ?_ ?_
 refine ah 0 ?_ ?_ ?_
 exact (gX gz (by simp))
 exact ET
 exact rfl
 decide +kernel
 exact ak
 decide +kernel
 refine aT ?_ ?_ ?_
 refine ah 1 ?_ ?_ ?_
 exact (gX gz (by simp))
 exact uE
 exact rfl
 decide +kernel
 exact ak
 decide +kernel
theorem vZ : gB xM ["_law_cell", "_law_k"] (aa d7) := ⟨rfl, rfl, rfl, by decide +kernel, rfl, by decide +kernel, by decide +kernel⟩
theorem B3 (T : Txt K mg t) : cY P w K mg base (gc P w) 1 (t.f 7) (t.d 7) ["_law_cell", "_law_k"] (cU K mg 2 aI) := by
 refine cY.imp (sp := cU K mg 2 (fun ds => iG 5 n9 ds)) ?_ iC
 refine A4 (k := 0) (ms := n9) T.eO vZ (by decide) (by decide) (fun _ => rfl) ?_
 intro X EE cdv A outer s H E hX hr hx uR
 subst hX
 have hu := gR hr
 have nd := vZ.nd
 have hfr : iR (nu (gc P w) P w K mg base xM "_law_mix" (aa d7) (t.f 7) cdv A outer s H E) := ⟨_, outer, s.heap.objs.size, rfl, rfl, rfl⟩
 refine au ?_ ?_
 refine cg (i := 2) ?_ ?_ ?_ ?_ ?_ ?_
 exact nd
 exact (Or.inl dO)
 exact aA
 exact Or.inl rfl
 exact rfl
 decide +kernel
 refine au ?_ ?_
 refine jI ?_ ?_ ?_
 refine eN ?_ ?_ ?_ ?_
 exact KZ
 refine ah 0 ?_ ?_ ?_
 exact (Or.inl jb)
 exact cZ
 exact rfl
 refine KO ?_ ?_
 exact aA
 exact aA
 decide +kernel
 refine au ?_ ?_
 refine cg (i := 2) ?_ ?_ ?_ ?_ ?_ ?_
 exact nd
 exact (Or.inl dO)
 refine ah 0 ?_ ?_ ?_
 exact (Or.inl jb)
 exact cZ
 exact rfl
 exact Or.inl rfl
 exact rfl
 decide +kernel
 refine aJ ?_
 refine qX ?_ ?_ ?_ ?_ ?_ ?_ ?_ ?_
 exact uR
 exact rfl
 exact T.kc
 exact uI
 refine aT ?_ ?_ ?_
 refine iw ?_ ?_
 refine ah 1 ?_ ?_ ?_
 exact (Or.inl kr)
 exact iN
 exact rfl
 exact aA
 decide +kernel
 exact ak
 refine oV (i := 3) ?_ ?_ ?_ ?_
 exact nd
 exact (Or.inl tG)
 exact Or.inl rfl
 exact rfl
 refine aJ ?_
 refine cg (i := 2) ?_ ?_ ?_ ?_ ?_ ?_
 exact nd
 exact (Or.inl dO)
 refine wK ?_ ?_
 refine ah 2 ?_ ?_ ?_
 exact (Or.inl dO)
 exact pA
 exact rfl
 exact aA
 exact Or.inl rfl
 exact rfl
 decide +kernel
 decide +kernel
 exact fH
 refine au ?_ ?_
 refine jI ?_ ?_ ?_
 refine eN ?_ ?_ ?_ ?_
 exact tw
 refine ah 2 ?_ ?_ ?_
 exact (Or.inl dO)
 exact pA
 exact rfl
 exact aA
 decide +kernel
 refine aJ ?_
 refine eE ?_
 refine iw ?_ ?_
 refine ah 2 ?_ ?_ ?_
 exact (Or.inl dO)
 exact pA
 exact rfl
 exact aA
 exact fH
 refine au ?_ ?_
 refine cg (i := 4) ?_ ?_ ?_ ?_ ?_ ?_
 exact nd
 exact (Or.inl dz)
 refine bI ?_ ?_
 refine bI ?_ ?_
 refine iw ?_ ?_
 refine ah 0 ?_ ?_ ?_
 exact (Or.inl jb)
 exact cZ
 exact rfl
 exact aA
 refine w4 ?_ ?_
 exact aA
 refine ah 1 ?_ ?_ ?_
 exact (Or.inl kr)
 exact iN
 exact rfl
 exact aA
 exact Or.inl rfl
 exact rfl
 decide +kernel
 refine au ?_ ?_
 refine cg (i := 4) ?_ ?_ ?_ ?_ ?_ ?_
 exact nd
 exact (Or.inl dz)
 refine iw ?_ ?_
 refine w4 ?_ ?_
 refine ah 4 ?_ ?_ ?_
 exact (Or.inl dz)
 exact kW
 exact rfl
 refine ah 4 ?_ ?_ ?_
 exact (Or.inl dz)
 exact kW
 exact rfl
 exact aA
 exact Or.inl rfl
 exact rfl
 decide +kernel
 refine aJ ?_
 refine eE ?_
 refine wK ?_ ?_
 refine iw ?_ ?_
 refine w4 ?_ ?_
 refine ah 4 ?_ ?_ ?_
 exact (Or.inl dz)
 exact kW
 exact rfl
 refine bI ?_ ?_
 refine bI ?_ ?_
 refine ah 4 ?_ ?_ ?_
 exact (Or.inl dz)
 exact kW
 exact rfl
 refine w4 ?_ ?_
 exact aA
 refine ah 1 ?_ ?_ ?_
 exact (Or.inl kr)
 exact iN
 exact rfl
 exact aA
 exact aA
 exact aA
theorem sP : gB uf ["_law_rows_here"] (aa bE) := ⟨rfl, rfl, rfl, by decide +kernel, rfl, by decide +kernel, by decide +kernel⟩
theorem yE (T : Txt K mg t) : cY P w K mg base (gc P w) 1 (t.f 11) (t.d 11) ["_law_rows_here"] (cU K mg 1 jA) := by
 refine cY.imp (sp := cU K mg 1 (fun ds => iG 7 nA ds)) ?_ iC
 refine A4 (k := 0) (ms := nA) T.qg sP (by decide) (by decide) (fun _ => rfl) ?_
 intro X EE cdv A outer s H E hX hr hx uR
 subst hX
 have hu := gR hr
 have nd := sP.nd
 have hfr : iR (nu (gc P w) P w K mg base uf "_law_trees" (aa bE) (t.f 11) cdv A outer s H E) := ⟨_, outer, s.heap.objs.size, rfl, rfl, rfl⟩
 refine au ?_ ?_
 refine cg (i := 1) ?_ ?_ ?_ ?_ ?_ ?_
 exact nd
 exact (Or.inl eX)
 exact IL
 exact Or.inl rfl
 exact rfl
 decide +kernel
 refine au ?_ ?_
 refine cg (i := 2) ?_ ?_ ?_ ?_ ?_ ?_
 exact nd
 exact (Or.inl fP)
 refine kj ?_
 exact ak
 exact Or.inl rfl
 exact rfl
 decide +kernel
 refine au ?_ ?_
 refine DL ?_ ?_ ?_ ?_ ?_ ?_
 exact uR
 exact rfl
 refine Lq ?_ ?_ ?_ ?_
 exact T.qh
 exact iZ
 refine aT ?_ ?_ ?_
 refine ah 0 ?_ ?_ ?_
 exact (Or.inl mX)
 exact cL
 exact rfl
 decide +kernel
 exact ak
 decide +kernel
 refine An (i := 3) (j := 4) ?_ ?_ ?_ ?_ ?_ ?_ ?_ ?_
 exact rfl
 exact nd
 exact (Or.inl eW)
 exact (Or.inl kH)
 exact Or.inl rfl
 exact Or.inl rfl
 exact rfl
 exact rfl
 refine au ?_ ?_
 refine cg (i := 5) ?_ ?_ ?_ ?_ ?_ ?_
 exact nd
 exact (Or.inl j8)
 refine BH ?_ ?_ ?_ ?_ ?_ ?_ ?_
 exact hu
 refine ah 1 ?_ ?_ ?_
 exact (Or.inl eX)
 exact nJ
 exact rfl
 refine bI ?_ ?_
 refine ah 3 ?_ ?_ ?_
 exact (Or.inl eW)
 exact dh
 exact rfl
 exact aA
 refine dw ?_
 refine kj ?_
 exact ak
 decide +kernel
 decide +kernel
 exact rfl
 exact Or.inl rfl
 exact rfl
 decide +kernel
 refine au ?_ ?_
 refine DV ?_ ?_ ?_ ?_ ?_
 exact hu
 refine dw ?_
 refine kj ?_
 exact ak
 refine ah 1 ?_ ?_ ?_
 exact (Or.inl eX)
 exact nJ
 exact rfl
 refine bI ?_ ?_
 refine ah 3 ?_ ?_ ?_
 exact (Or.inl eW)
 exact dh
 exact rfl
 exact aA
 decide +kernel
 refine au ?_ ?_
 refine cg (i := 6) ?_ ?_ ?_ ?_ ?_ ?_
 exact nd
 exact (Or.inl iQ)
 refine jO ?_
 refine aT ?_ ?_ ?_
 refine ah 4 ?_ ?_ ?_
 exact (Or.inl kH)
 exact AG
 exact rfl
 decide +kernel
 refine aT ?_ ?_ ?_
 refine BL ?_ ?_ ?_ ?_ ?_ ?_ ?_
 exact rfl
 exact T.IQ
 exact su
 exact T.qh
 exact iZ
 refine aT ?_ ?_ ?_
 refine ah 5 ?_ ?_ ?_
 exact (Or.inl j8)
 exact yz
 exact rfl
 decide +kernel
 exact ak
 decide +kernel
 decide +kernel
 exact ak
 exact Or.inl rfl
 exact rfl
 decide +kernel
 refine au ?_ ?_
 refine DV ?_ ?_ ?_ ?_ ?_
 exact hu
 refine dw ?_
 refine bI ?_ ?_
 refine BH ?_ ?_ ?_ ?_ ?_ ?_ ?_
 exact hu
 refine ah 1 ?_ ?_ ?_
 exact (Or.inl eX)
 exact nJ
 exact rfl
 refine ah 3 ?_ ?_ ?_
 exact (Or.inl eW)
 exact dh
 exact rfl
 refine dw ?_
 refine kj ?_
 exact ak
 decide +kernel
 decide +kernel
 exact rfl
 refine dw ?_
 refine kj ?_
 refine aT ?_ ?_ ?_
 refine ah 6 ?_ ?_ ?_
 exact (Or.inl iQ)
 exact kX
 exact rfl
 decide +kernel
 exact ak
 refine ah 1 ?_ ?_ ?_
 exact (Or.inl eX)
 exact nJ
 exact rfl
 refine ah 3 ?_ ?_ ?_
 exact (Or.inl eW)
 exact dh
 exact rfl
 decide +kernel
 refine aJ ?_
 refine oU ?_ ?_
 refine lO ?_ ?_ ?_ ?_ ?_
 refine ah 2 ?_ ?_ ?_
 exact (Or.inl fP)
 exact oj
 exact rfl
 refine aT ?_ ?_ ?_
 refine ah 6 ?_ ?_ ?_
 exact (Or.inl iQ)
 exact kX
 exact rfl
 decide +kernel
 exact ak
 decide +kernel
 decide +kernel
 exact rfl
 decide +kernel
 decide +kernel
 refine aJ ?_
 refine eE ?_
 refine dw ?_
 refine xw ?_ ?_ ?_ ?_ ?_ ?_ ?_
 exact rfl
 exact T.Dc
 exact tK
 exact T.qh
 exact iZ
 refine aT ?_ ?_ ?_
 refine ah 2 ?_ ?_ ?_
 exact (Or.inl fP)
 exact oj
 exact rfl
 decide +kernel
 exact ak
 decide +kernel
theorem sQ : gB ug ["_law_rows_here"] (aa cG) := ⟨rfl, rfl, rfl, by decide +kernel, rfl, by decide +kernel, by decide +kernel⟩
theorem yF (T : Txt K mg t) : cY P w K mg base (gc P w) 1 (t.f 12) (t.d 12) ["_law_rows_here"] (cU K mg 1 kP) := by
 refine cY.imp (sp := cU K mg 1 (fun ds => iG 5 nB ds)) ?_ iC
 refine A4 (k := 0) (ms := nB) T.uz sQ (by decide) (by decide) (fun _ => rfl) ?_
 intro X EE cdv A outer s H E hX hr hx uR
 subst hX
 have hu := gR hr
 have nd := sQ.nd
 have hfr : iR (nu (gc P w) P w K mg base ug "_law_spots" (aa cG) (t.f 12) cdv A outer s H E) := ⟨_, outer, s.heap.objs.size, rfl, rfl, rfl⟩
 refine au ?_ ?_
 refine cg (i := 1) ?_ ?_ ?_ ?_ ?_ ?_
 exact nd
 exact (Or.inl cP)
 refine kj ?_
 refine aT ?_ ?_ ?_
 refine jO ?_
 exact ak
 decide +kernel
 exact ak
 exact Or.inl rfl
 exact rfl
 decide +kernel
 refine au ?_ ?_
 refine Al ?_ ?_ ?_ ?_ ?_ ?_
 exact uR
 exact rfl
 refine dw ?_
 refine iF ?_ ?_ ?_
 refine ah 0 ?_ ?_ ?_
 exact (Or.inl mW)
 exact cL
 exact rfl
 refine jx ?_
 exact aA
 exact jw
 refine An (i := 2) (j := 3) ?_ ?_ ?_ ?_ ?_ ?_ ?_ ?_
 exact rfl
 exact nd
 exact (Or.inl fV)
 exact (Or.inl pO)
 exact Or.inl rfl
 exact Or.inl rfl
 exact rfl
 exact rfl
 refine au ?_ ?_
 refine cg (i := 4) ?_ ?_ ?_ ?_ ?_ ?_
 exact nd
 exact (Or.inl eV)
 refine cA ?_ ?_ ?_
 refine ah 1 ?_ ?_ ?_
 exact (Or.inl cP)
 exact cj
 exact rfl
 refine nY ?_
 exact aA
 decide +kernel
 exact Or.inl rfl
 exact rfl
 decide +kernel
 refine aJ ?_
 refine jI ?_ ?_ ?_
 refine eN ?_ ?_ ?_ ?_
 exact tw
 refine ah 2 ?_ ?_ ?_
 exact (Or.inl fV)
 exact dh
 exact rfl
 refine jQ ?_ ?_ ?_ ?_
 exact T.nj
 exact uK
 refine aT ?_ ?_ ?_
 refine ah 4 ?_ ?_ ?_
 exact (Or.inl eV)
 exact nK
 exact rfl
 decide +kernel
 exact ak
 decide +kernel
 decide +kernel
 refine aJ ?_
 refine oU ?_ ?_
 refine lO ?_ ?_ ?_ ?_ ?_
 refine ah 1 ?_ ?_ ?_
 exact (Or.inl cP)
 exact cj
 exact rfl
 refine aT ?_ ?_ ?_
 refine bI ?_ ?_
 refine ah 4 ?_ ?_ ?_
 exact (Or.inl eV)
 exact nK
 exact rfl
 refine jO ?_
 refine pI ?_
 exact ak
 decide +kernel
 exact ak
 decide +kernel
 decide +kernel
 exact rfl
 decide +kernel
 refine aJ ?_
 refine oU ?_ ?_
 refine lO ?_ ?_ ?_ ?_ ?_
 refine ah 1 ?_ ?_ ?_
 exact (Or.inl cP)
 exact cj
 exact rfl
 refine aT ?_ ?_ ?_
 refine bI ?_ ?_
 refine dw ?_
 refine iF ?_ ?_ ?_
 refine ah 4 ?_ ?_ ?_
 exact (Or.inl eV)
 exact nK
 exact rfl
 exact jw
 refine jx ?_
 refine CK ?_ ?_
 refine ah 2 ?_ ?_ ?_
 exact (Or.inl fV)
 exact dh
 exact rfl
 exact aA
 refine jO ?_
 refine aT ?_ ?_ ?_
 refine bI ?_ ?_
 refine cA ?_ ?_ ?_
 refine ah 4 ?_ ?_ ?_
 exact (Or.inl eV)
 exact nK
 exact rfl
 refine CK ?_ ?_
 refine ah 2 ?_ ?_ ?_
 exact (Or.inl fV)
 exact dh
 exact rfl
 exact aA
 decide +kernel
 exact aA
 decide +kernel
 exact ak
 decide +kernel
 exact ak
 decide +kernel
 decide +kernel
 exact rfl
 decide +kernel
 decide +kernel
 refine aJ ?_
 refine eE ?_
 refine DQ ?_
 refine ah 1 ?_ ?_ ?_
 exact (Or.inl cP)
 exact cj
 exact rfl
theorem v5 : gB oh ["_law_spots_here", "_law_go", "_law_place"] (aa cX) := ⟨rfl, rfl, rfl, by decide +kernel, rfl, by decide +kernel, by decide +kernel⟩
theorem B4 (T : Txt K mg t) : cY P w K mg base (gc P w) 1 (t.f 13) (t.d 13) ["_law_spots_here", "_law_go", "_law_place"] (cU K mg 3 jn) := by
 refine cY.imp (sp := cU K mg 3 (fun ds => iG 4 kq ds)) ?_ iC
 refine A4 (k := 0) (ms := kq) T.xR v5 (by decide) (by decide) (fun _ => rfl) ?_
 intro X EE cdv A outer s H E hX hr hx uR
 subst hX
 have hu := gR hr
 have nd := v5.nd
 have hfr : iR (nu (gc P w) P w K mg base oh "_law_due" (aa cX) (t.f 13) cdv A outer s H E) := ⟨_, outer, s.heap.objs.size, rfl, rfl, rfl⟩
 refine au ?_ ?_
 refine cg (i := 3) ?_ ?_ ?_ ?_ ?_ ?_
 exact nd
 exact (Or.inr lJ)
 refine jQ ?_ ?_ ?_ ?_
 exact T.nj
 exact wB
 refine aT ?_ ?_ ?_
 refine ah 2 ?_ ?_ ?_
 exact (Or.inr (Or.inl ql))
 exact eY
 exact rfl
 decide +kernel
 exact ak
 decide +kernel
 exact Or.inl rfl
 exact rfl
 decide +kernel
 refine au ?_ ?_
 refine jI ?_ ?_ ?_
 refine eN ?_ ?_ ?_ ?_
 exact (iE hu)
 refine ah 1 ?_ ?_ ?_
 exact (Or.inl nt)
 exact oi
 exact rfl
 exact mS
 decide +kernel
 refine aJ ?_
 refine eE ?_
 refine dw ?_
 refine rW (xs := ["_law_one"]) (ow := t8) ?_ ?_ ?_ ?_ ?_ ?_ ?_ ?_ ?_
 exact hx
 exact hfr
 exact fm
 exact i6 fm
 exact gZ
 exact rfl
 refine ah 0 ?_ ?_ ?_
 exact (Or.inl gE)
 exact cj
 exact rfl
 refine vg fun cl C pins s0 H0 fp E1 EU hx => ?_
 refine ⟨?_, ?_⟩
 refine FY ?_
 refine Af ?_ ?_
 refine eN ?_ ?_ ?_ ?_
 exact (iE hu)
 refine jQ ?_ ?_ ?_ ?_
 exact T.nj
 exact (rY rE)
 refine aT ?_ ?_ ?_
 refine ah 0 ?_ ?_ ?_
 exact (gX fm (by simp))
 exact gH
 exact rfl
 decide +kernel
 exact ak
 decide +kernel
 refine bI ?_ ?_
 refine ah 4 ?_ ?_ ?_
 exact (fJ fm jq)
 exact dh
 exact rfl
 exact aA
 decide +kernel
 refine Ae ?_
 refine eN ?_ ?_ ?_ ?_
 exact (iE hu)
 refine dw ?_
 refine iF ?_ ?_ ?_
 refine ah 0 ?_ ?_ ?_
 exact (gX fm (by simp))
 exact gH
 exact rfl
 exact jw
 refine jx ?_
 refine ah 4 ?_ ?_ ?_
 exact (fJ fm jq)
 exact dh
 exact rfl
 refine ah 3 ?_ ?_ ?_
 exact (fJ fm nP)
 exact eY
 exact rfl
 decide +kernel
 refine ah 0 ?_ ?_ ?_
 exact (gX fm (by simp))
 exact gH
 exact rfl
 decide +kernel
 exact fH
 refine au ?_ ?_
 refine jI ?_ ?_ ?_
 refine eN ?_ ?_ ?_ ?_
 exact (iE hu)
 refine ah 1 ?_ ?_ ?_
 exact (Or.inl nt)
 exact oi
 exact rfl
 exact mS
 decide +kernel
 refine aJ ?_
 refine eE ?_
 refine dw ?_
 refine rW (xs := ["_law_one"]) (ow := t8) ?_ ?_ ?_ ?_ ?_ ?_ ?_ ?_ ?_
 exact hx
 exact hfr
 exact fq
 exact i6 fq
 exact gZ
 exact rfl
 refine ah 0 ?_ ?_ ?_
 exact (Or.inl gE)
 exact cj
 exact rfl
 refine vg fun cl C pins s0 H0 fp E1 EU hx => ?_
 refine ⟨?_, ?_⟩
 refine FY ?_
 refine Af ?_ ?_
 refine eN ?_ ?_ ?_ ?_
 exact tw
 refine jQ ?_ ?_ ?_ ?_
 exact T.nj
 exact (rY rF)
 refine aT ?_ ?_ ?_
 refine ah 0 ?_ ?_ ?_
 exact (gX fq (by simp))
 exact gH
 exact rfl
 decide +kernel
 exact ak
 decide +kernel
 refine ah 4 ?_ ?_ ?_
 exact (fJ fq jr)
 exact dh
 exact rfl
 decide +kernel
 refine Ae ?_
 refine eN ?_ ?_ ?_ ?_
 exact (iE hu)
 refine dw ?_
 refine iF ?_ ?_ ?_
 refine ah 0 ?_ ?_ ?_
 exact (gX fq (by simp))
 exact gH
 exact rfl
 exact jw
 refine jx ?_
 refine ah 4 ?_ ?_ ?_
 exact (fJ fq jr)
 exact dh
 exact rfl
 refine ah 3 ?_ ?_ ?_
 exact (fJ fq nQ)
 exact eY
 exact rfl
 decide +kernel
 refine ah 0 ?_ ?_ ?_
 exact (gX fq (by simp))
 exact gH
 exact rfl
 decide +kernel
 exact fH
 refine au ?_ ?_
 refine jI ?_ ?_ ?_
 refine eN ?_ ?_ ?_ ?_
 exact (iE hu)
 refine ah 3 ?_ ?_ ?_
 exact (Or.inr (Or.inl lJ))
 exact dh
 exact rfl
 exact aA
 decide +kernel
 refine aJ ?_
 refine eE ?_
 refine dw ?_
 refine kj ?_
 exact ak
 exact fH
 refine aJ ?_
 refine eE ?_
 refine dw ?_
 refine rW (xs := ["_law_one"]) (ow := t8) ?_ ?_ ?_ ?_ ?_ ?_ ?_ ?_ ?_
 exact hx
 exact hfr
 exact eL
 exact i6 eL
 exact gZ
 exact rfl
 refine ah 0 ?_ ?_ ?_
 exact (Or.inl gE)
 exact cj
 exact rfl
 refine vg fun cl C pins s0 H0 fp E1 EU hx => ?_
 refine ⟨?_, ?_⟩
 refine FY ?_
 refine Af ?_ ?_
 refine eN ?_ ?_ ?_ ?_
 exact (iE hu)
 refine jQ ?_ ?_ ?_ ?_
 exact T.nj
 exact (rY rG)
 refine aT ?_ ?_ ?_
 refine ah 0 ?_ ?_ ?_
 exact (gX eL (by simp))
 exact gH
 exact rfl
 decide +kernel
 exact ak
 decide +kernel
 refine ah 4 ?_ ?_ ?_
 exact (fJ eL oq)
 exact dh
 exact rfl
 decide +kernel
 refine Af ?_ ?_
 refine eN ?_ ?_ ?_ ?_
 exact (iE hu)
 refine dw ?_
 refine iF ?_ ?_ ?_
 refine ah 0 ?_ ?_ ?_
 exact (gX eL (by simp))
 exact gH
 exact rfl
 exact jw
 refine jx ?_
 refine nY ?_
 exact aA
 refine dw ?_
 refine iF ?_ ?_ ?_
 refine ah 3 ?_ ?_ ?_
 exact (fJ eL jd)
 exact eY
 exact rfl
 exact jw
 refine jx ?_
 refine nY ?_
 exact aA
 decide +kernel
 refine Ae ?_
 refine eN ?_ ?_ ?_ ?_
 exact tw
 refine cA ?_ ?_ ?_
 refine ah 0 ?_ ?_ ?_
 exact (gX eL (by simp))
 exact gH
 exact rfl
 refine nY ?_
 exact aA
 decide +kernel
 refine cA ?_ ?_ ?_
 refine ah 3 ?_ ?_ ?_
 exact (fJ eL jd)
 exact eY
 exact rfl
 refine nY ?_
 exact aA
 decide +kernel
 decide +kernel
 refine ah 0 ?_ ?_ ?_
 exact (gX eL (by simp))
 exact gH
 exact rfl
 decide +kernel
theorem sR : gB uh ["top", "parts_of"] (aa bf) := ⟨rfl, rfl, rfl, by decide +kernel, rfl, by decide +kernel, by decide +kernel⟩
theorem yG (T : Txt K mg t) (oB : cY P w K mg base (gc P w) 1 (t.f 6) (t.d 6) ["placed"] (cU K mg 1 e9)) : cY P w K mg base (gc P w) 2 (t.f 0) (t.d 0) ["top", "parts_of"] (cU K mg 2 nE) := by
 refine cY.imp (sp := cU K mg 2 (fun ds => iG 5 nD ds)) ?_ iC
 refine A4 (k := 1) (ms := nD) T.uo sR (by decide) (by decide) (fun _ => rfl) ?_
 intro X EE cdv A outer s H E hX hr hx uR
 subst hX
 have hu := gR hr
 have nd := sR.nd
 have hfr : iR (nu (gc P w) P w K mg base uh "all_within" (aa bf) (t.f 0) cdv A outer s H E) := ⟨_, outer, s.heap.objs.size, rfl, rfl, rfl⟩
 refine au ?_ ?_
 refine cg (i := 2) ?_ ?_ ?_ ?_ ?_ ?_
 exact nd
 exact (Or.inl j0)
 refine kj ?_
 exact ak
 exact Or.inl rfl
 exact rfl
 decide +kernel
 refine au ?_ ?_
 refine cg (i := 3) ?_ ?_ ?_ ?_ ?_ ?_
 exact nd
 exact (Or.inl gT)
 refine kj ?_
 refine aT ?_ ?_ ?_
 refine ah 0 ?_ ?_ ?_
 exact (Or.inl uM)
 exact Lx
 exact rfl
 decide +kernel
 exact ak
 exact Or.inl rfl
 exact rfl
 decide +kernel
 refine au ?_ ?_
 refine Gx ?_ ?_ ?_
 exact uR
 refine eN ?_ ?_ ?_ ?_
 exact tw
 refine jQ ?_ ?_ ?_ ?_
 exact T.nj
 exact uL
 refine aT ?_ ?_ ?_
 refine ah 3 ?_ ?_ ?_
 exact (Or.inl gT)
 exact tF
 exact rfl
 decide +kernel
 exact ak
 decide +kernel
 exact aA
 decide +kernel
 refine au ?_ ?_
 refine cg (i := 4) ?_ ?_ ?_ ?_ ?_ ?_
 exact nd
 exact (Or.inl lq)
 refine Lj ?_ ?_ ?_
 refine ah 3 ?_ ?_ ?_
 exact (Or.inl gT)
 exact tF
 exact rfl
 decide +kernel
 exact rfl
 exact Or.inl rfl
 exact rfl
 decide +kernel
 refine au ?_ ?_
 refine oU ?_ ?_
 refine lO ?_ ?_ ?_ ?_ ?_
 refine ah 2 ?_ ?_ ?_
 exact (Or.inl j0)
 exact BX
 exact rfl
 refine aT ?_ ?_ ?_
 refine ah 4 ?_ ?_ ?_
 exact (Or.inl lq)
 exact GO
 exact rfl
 decide +kernel
 exact ak
 decide +kernel
 decide +kernel
 exact rfl
 decide +kernel
 refine aJ ?_
 refine oU ?_ ?_
 refine IJ ?_ ?_ ?_ ?_ ?_
 refine ah 3 ?_ ?_ ?_
 exact (Or.inl gT)
 exact tF
 exact rfl
 refine aT ?_ ?_ ?_
 refine dw ?_
 refine xw ?_ ?_ ?_ ?_ ?_ ?_ ?_
 exact rfl
 exact T.Dc
 exact tM
 exact T.qh
 exact qu
 refine aT ?_ ?_ ?_
 refine Gs (CX := gc P w) ?_ ?_ ?_ ?_ ?_ ?_ ?_
 exact rfl
 exact (Or.inl qp)
 exact BZ
 exact M8 ⟨⟨_, _, _, _, oB, hr.mono (by decide), T.rA, T.rq.kp, T.xQ⟩, trivial⟩
 exact jf hx
 refine aT ?_ ?_ ?_
 refine ah 4 ?_ ?_ ?_
 exact (Or.inl lq)
 exact GO
 exact rfl
 decide +kernel
 exact ak
 decide +kernel
 decide +kernel
 exact ak
 decide +kernel
 decide +kernel
 exact ak
 decide +kernel
 decide +kernel
 exact rfl
 decide +kernel
 refine aJ ?_
 refine eE ?_
 refine DQ ?_
 refine ah 2 ?_ ?_ ?_
 exact (Or.inl j0)
 exact BX
 exact rfl
theorem je : gB iK ["tree", "place"] (aa aF) := ⟨rfl, rfl, rfl, by decide +kernel, rfl, by decide +kernel, by decide +kernel⟩
theorem uS (T : Txt K mg t) (g7 : cY P w K mg base (gc P w) 1 (t.f 2) (t.d 2) ["tree", "place"] (cU K mg 2 fE)) : cY P w K mg base (gc P w) 2 (t.f 4) (t.d 4) ["tree", "place"] (cU K mg 2 gJ) := by
 refine cY.imp (sp := cU K mg 2 (fun ds => iG 3 iL ds)) ?_ iC
 refine A4 (k := 1) (ms := iL) T.jB je (by decide) (by decide) (fun _ => rfl) ?_
 intro X EE cdv A outer s H E hX hr hx uR
 subst hX
 have hu := gR hr
 have nd := je.nd
 have hfr : iR (nu (gc P w) P w K mg base iK "later_brothers" (aa aF) (t.f 4) cdv A outer s H E) := ⟨_, outer, s.heap.objs.size, rfl, rfl, rfl⟩
 refine au ?_ ?_
 refine jI ?_ ?_ ?_
 refine eN ?_ ?_ ?_ ?_
 exact (iE hu)
 refine ah 1 ?_ ?_ ?_
 exact (Or.inl dB)
 exact gy
 exact rfl
 refine jO ?_
 exact ak
 decide +kernel
 refine aJ ?_
 refine eE ?_
 refine dw ?_
 refine kj ?_
 exact ak
 exact fH
 refine au ?_ ?_
 refine cg (i := 2) ?_ ?_ ?_ ?_ ?_ ?_
 exact nd
 exact (Or.inr fW)
 refine dw ?_
 refine iF ?_ ?_ ?_
 refine ah 1 ?_ ?_ ?_
 exact (Or.inl dB)
 exact gy
 exact rfl
 exact jw
 refine jx ?_
 refine nY ?_
 exact aA
 exact Or.inl rfl
 exact rfl
 decide +kernel
 refine aJ ?_
 refine eE ?_
 refine dw ?_
 refine zl (xs := ["k"]) (ow := t8) ?_ ?_ ?_ ?_ ?_ ?_ ?_ ?_ ?_ ?_ ?_ ?_
 exact hx
 exact hfr
 exact gS
 exact i6 gS
 exact gZ
 exact rfl
 exact T.kc
 exact kI
 refine aT ?_ ?_ ?_
 refine bI ?_ ?_
 refine cA ?_ ?_ ?_
 refine ah 1 ?_ ?_ ?_
 exact (Or.inl dB)
 exact gy
 exact rfl
 refine nY ?_
 exact aA
 decide +kernel
 exact aA
 decide +kernel
 refine aT ?_ ?_ ?_
 refine jQ ?_ ?_ ?_ ?_
 exact T.nj
 exact lM
 refine aT ?_ ?_ ?_
 refine cA ?_ ?_ ?_
 refine bY (CX := gc P w) (k := p7) (f := (t.f 2)) (fd := (t.d 2)) (ps := ["tree", "place"]) ?_ ?_ ?_ ?_ ?_ ?_ ?_ ?_ ?_ ?_
 exact g7
 exact hr.mono (by decide)
 exact T.r8
 exact T.pK.kp
 exact T.r6
 exact jf hx
 exact jK
 exact qk
 refine aT ?_ ?_ ?_
 refine ah 0 ?_ ?_ ?_
 exact (Or.inl ly)
 exact mz
 exact rfl
 decide +kernel
 refine aT ?_ ?_ ?_
 refine ah 2 ?_ ?_ ?_
 exact (Or.inr (Or.inl fW))
 exact uD
 exact rfl
 decide +kernel
 exact ak
 decide +kernel
 exact aA
 decide +kernel
 decide +kernel
 exact ak
 decide +kernel
 decide +kernel
 exact ak
 refine iI fun cl C pins s0 H0 fp E1 EU hx => ?_
 refine bI ?_ ?_
 refine ah 3 ?_ ?_ ?_
 exact (fJ gS m5)
 exact uD
 exact rfl
 refine jO ?_
 refine aT ?_ ?_ ?_
 refine ah 0 ?_ ?_ ?_
 exact (gX gS (by simp))
 exact ET
 exact rfl
 decide +kernel
 exact ak
 decide +kernel
 decide +kernel
theorem sS : gB nF ["_law_script", "_law_start"] (aa bS) := ⟨rfl, rfl, rfl, by decide +kernel, rfl, by decide +kernel, by decide +kernel⟩
theorem yH (T : Txt K mg t) (bX : cY P w K mg base (gc P w) 1 (t.f 7) (t.d 7) ["_law_cell", "_law_k"] (cU K mg 2 aI)) : cY P w K mg base (gc P w) 2 (t.f 8) (t.d 8) ["_law_script", "_law_start"] (cU K mg 2 gD) := by
 refine cY.imp (sp := cU K mg 2 (fun ds => iG 3 nG ds)) ?_ iC
 refine A4 (k := 1) (ms := nG) T.qf sS (by decide) (by decide) (fun _ => rfl) ?_
 intro X EE cdv A outer s H E hX hr hx uR
 subst hX
 have hu := gR hr
 have nd := sS.nd
 have hfr : iR (nu (gc P w) P w K mg base nF "_law_cells" (aa bS) (t.f 8) cdv A outer s H E) := ⟨_, outer, s.heap.objs.size, rfl, rfl, rfl⟩
 refine au ?_ ?_
 refine Ni ?_
 refine GB (i := 2) (xs := ["_law_k"]) (ow := t8) ?_ ?_ ?_ ?_ ?_ ?_ ?_ ?_ ?_ ?_ ?_ ?_ ?_
 exact hx
 exact hfr
 exact jc
 exact i6 jc
 exact gZ
 exact rfl
 exact nd
 exact eu
 refine IK ?_ ?_ ?_ ?_
 exact T.kc
 exact nq
 refine aT ?_ ?_ ?_
 refine ah 1 ?_ ?_ ?_
 exact (Or.inr (Or.inl pB))
 exact sM
 exact rfl
 decide +kernel
 refine aT ?_ ?_ ?_
 refine Iz ?_ ?_ ?_ ?_ ?_
 exact rfl
 exact T.Nn
 exact uH
 refine aT ?_ ?_ ?_
 refine jQ ?_ ?_ ?_ ?_
 exact T.nj
 exact o7
 refine aT ?_ ?_ ?_
 refine ah 0 ?_ ?_ ?_
 exact (Or.inr (Or.inl oK))
 exact eF
 exact rfl
 decide +kernel
 exact ak
 decide +kernel
 decide +kernel
 refine pI ?_
 exact ak
 decide +kernel
 decide +kernel
 refine pI ?_
 exact ak
 decide +kernel
 refine iI fun cl C pins s0 H0 fp E1 EU hx => ?_
 refine cA ?_ ?_ ?_
 refine ah 1 ?_ ?_ ?_
 exact (fJ jc lR)
 exact eF
 exact rfl
 refine ah 0 ?_ ?_ ?_
 exact (gX jc (by simp))
 exact iN
 exact rfl
 decide +kernel
 refine EK ?_ ?_ ?_ ?_
 exact rfl
 exact eu
 exact rfl
 decide +kernel
 exact rfl
 decide +kernel
 refine aJ ?_
 refine eE ?_
 refine dw ?_
 refine bI ?_ ?_
 refine ah 2 ?_ ?_ ?_
 exact (Or.inl eu)
 exact iV
 exact rfl
 refine dw ?_
 refine rX (xs := ["_law_k"]) (ow := t8) ?_ ?_ ?_ ?_ ?_ ?_ ?_ ?_ ?_ ?_ ?_
 exact hx
 exact hfr
 exact ic
 exact i6 ic
 exact gZ
 exact rfl
 exact T.kc
 exact nq
 refine aT ?_ ?_ ?_
 refine CK ?_ ?_
 exact aA
 refine jQ ?_ ?_ ?_ ?_
 exact T.nj
 exact o7
 refine aT ?_ ?_ ?_
 refine ah 2 ?_ ?_ ?_
 exact (Or.inl eu)
 exact iV
 exact rfl
 decide +kernel
 exact ak
 decide +kernel
 decide +kernel
 exact ak
 refine iI fun cl C pins s0 H0 fp E1 EU hx => ?_
 refine bY (CX := gc P w) (k := d8) (f := (t.f 7)) (fd := (t.d 7)) (ps := ["_law_cell", "_law_k"]) ?_ ?_ ?_ ?_ ?_ ?_ ?_ ?_ ?_ ?_
 exact bX
 exact hr.mono (by decide)
 exact T.ff
 exact T.eO.kp
 exact T.fc
 exact jf hx
 exact (rY nO)
 exact d9
 refine aT ?_ ?_ ?_
 refine jQ ?_ ?_ ?_ ?_
 exact T.nj
 exact (rY qv)
 refine aT ?_ ?_ ?_
 refine ah 1 ?_ ?_ ?_
 exact (fJ ic lS)
 exact eF
 exact rfl
 decide +kernel
 exact ak
 decide +kernel
 decide +kernel
 refine aT ?_ ?_ ?_
 refine bI ?_ ?_
 refine bI ?_ ?_
 exact aA
 refine ah 2 ?_ ?_ ?_
 exact (fJ ic mO)
 exact sM
 exact rfl
 refine ah 0 ?_ ?_ ?_
 exact (gX ic (by simp))
 exact iN
 exact rfl
 decide +kernel
 exact ak
 decide +kernel
 decide +kernel
theorem sU : gB p9 ["_law_cell"] (aa aY) := ⟨rfl, rfl, rfl, by decide +kernel, rfl, by decide +kernel, by decide +kernel⟩
theorem yI (T : Txt K mg t) (bX : cY P w K mg base (gc P w) 1 (t.f 7) (t.d 7) ["_law_cell", "_law_k"] (cU K mg 2 aI)) : cY P w K mg base (gc P w) 2 (t.f 9) (t.d 9) ["_law_cell"] (cU K mg 1 kR) := by
 refine cY.imp (sp := cU K mg 1 (fun ds => iG 8 kQ ds)) ?_ iC
 refine A4 (k := 1) (ms := kQ) T.uw sU (by decide) (by decide) (fun _ => rfl) ?_
 intro X EE cdv A outer s H E hX hr hx uR
 subst hX
 have hu := gR hr
 have nd := sU.nd
 have hfr : iR (nu (gc P w) P w K mg base p9 "_law_names" (aa aY) (t.f 9) cdv A outer s H E) := ⟨_, outer, s.heap.objs.size, rfl, rfl, rfl⟩
 refine au ?_ ?_
 refine cg (i := 1) ?_ ?_ ?_ ?_ ?_ ?_
 exact nd
 exact (Or.inl fO)
 refine kj ?_
 exact ak
 exact Or.inl rfl
 exact rfl
 decide +kernel
 refine au ?_ ?_
 refine jI ?_ ?_ ?_
 refine eN ?_ ?_ ?_ ?_
 exact (iE hu)
 refine iw ?_ ?_
 refine bY (CX := gc P w) (k := d8) (f := (t.f 7)) (fd := (t.d 7)) (ps := ["_law_cell", "_law_k"]) ?_ ?_ ?_ ?_ ?_ ?_ ?_ ?_ ?_ ?_
 exact bX
 exact hr.mono (by decide)
 exact T.ff
 exact T.eO.kp
 exact T.fc
 exact jf hx
 exact fh
 exact d9
 refine aT ?_ ?_ ?_
 refine ah 0 ?_ ?_ ?_
 exact (Or.inr (Or.inl eU))
 exact cZ
 exact rfl
 decide +kernel
 refine pI ?_
 exact ak
 decide +kernel
 exact aA
 exact aA
 decide +kernel
 refine au ?_ ?_
 refine cg (i := 2) ?_ ?_ ?_ ?_ ?_ ?_
 exact nd
 exact (Or.inr iP)
 exact mS
 exact Or.inl rfl
 exact rfl
 decide +kernel
 refine au ?_ ?_
 refine qX ?_ ?_ ?_ ?_ ?_ ?_ ?_ ?_
 exact uR
 exact rfl
 exact T.kc
 exact iD
 refine pI ?_
 exact ak
 refine oV (i := 3) ?_ ?_ ?_ ?_
 exact nd
 exact (Or.inl fM)
 exact Or.inl rfl
 exact rfl
 refine aJ ?_
 refine cg (i := 2) ?_ ?_ ?_ ?_ ?_ ?_
 exact nd
 exact (Or.inr iP)
 refine bI ?_ ?_
 refine ah 2 ?_ ?_ ?_
 exact (Or.inr (Or.inl iP))
 exact uC
 exact rfl
 refine cA ?_ ?_ ?_
 exact mS
 refine iw ?_ ?_
 refine bY (CX := gc P w) (k := d8) (f := (t.f 7)) (fd := (t.d 7)) (ps := ["_law_cell", "_law_k"]) ?_ ?_ ?_ ?_ ?_ ?_ ?_ ?_ ?_ ?_
 exact bX
 exact hr.mono (by decide)
 exact T.ff
 exact T.eO.kp
 exact T.fc
 exact jf hx
 exact fh
 exact d9
 refine aT ?_ ?_ ?_
 refine ah 0 ?_ ?_ ?_
 exact (Or.inr (Or.inl eU))
 exact cZ
 exact rfl
 decide +kernel
 refine aT ?_ ?_ ?_
 refine bI ?_ ?_
 exact aA
 refine ah 3 ?_ ?_ ?_
 exact (Or.inl fM)
 exact vA
 exact rfl
 decide +kernel
 exact ak
 decide +kernel
 exact aA
 decide +kernel
 exact Or.inl rfl
 exact rfl
 decide +kernel
 decide +kernel
 refine aJ ?_
 refine eE ?_
 refine dw ?_
 refine rX (xs := ["_law_k"]) (ow := t8) ?_ ?_ ?_ ?_ ?_ ?_ ?_ ?_ ?_ ?_ ?_
 exact hx
 exact hfr
 exact ie
 exact i6 ie
 exact gZ
 exact rfl
 exact T.kc
 exact iD
 refine pI ?_
 exact ak
 refine iI fun cl C pins s0 H0 fp E1 EU hx => ?_
 refine dw ?_
 refine iF ?_ ?_ ?_
 refine ah 3 ?_ ?_ ?_
 exact (fJ ie mZ)
 exact uC
 exact rfl
 exact jw
 refine jx ?_
 refine bI ?_ ?_
 refine bI ?_ ?_
 exact aA
 refine iw ?_ ?_
 refine bY (CX := gc P w) (k := d8) (f := (t.f 7)) (fd := (t.d 7)) (ps := ["_law_cell", "_law_k"]) ?_ ?_ ?_ ?_ ?_ ?_ ?_ ?_ ?_ ?_
 exact bX
 exact hr.mono (by decide)
 exact T.ff
 exact T.eO.kp
 exact T.fc
 exact jf hx
 exact (rY nR)
 exact d9
 refine aT ?_ ?_ ?_
 refine ah 1 ?_ ?_ ?_
 exact (fJ ie mY)
 exact cZ
 exact rfl
 decide +kernel
 refine pI ?_
 exact ak
 decide +kernel
 exact aA
 refine ah 0 ?_ ?_ ?_
 exact (gX ie (by simp))
 exact iN
 exact rfl
 decide +kernel
 exact fH
 refine au ?_ ?_
 refine cg (i := 4) ?_ ?_ ?_ ?_ ?_ ?_
 exact nd
 exact (Or.inl iO)
 refine bI ?_ ?_
 exact aA
 refine iw ?_ ?_
 refine bY (CX := gc P w) (k := d8) (f := (t.f 7)) (fd := (t.d 7)) (ps := ["_law_cell", "_law_k"]) ?_ ?_ ?_ ?_ ?_ ?_ ?_ ?_ ?_ ?_
 exact bX
 exact hr.mono (by decide)
 exact T.ff
 exact T.eO.kp
 exact T.fc
 exact jf hx
 exact fh
 exact d9
 refine aT ?_ ?_ ?_
 refine ah 0 ?_ ?_ ?_
 exact (Or.inr (Or.inl eU))
 exact cZ
 exact rfl
 decide +kernel
 refine pI ?_
 exact ak
 decide +kernel
 exact aA
 exact Or.inl rfl
 exact rfl
 decide +kernel
 refine au ?_ ?_
 refine cg (i := 5) ?_ ?_ ?_ ?_ ?_ ?_
 exact nd
 exact (Or.inl j7)
 refine iw ?_ ?_
 refine bY (CX := gc P w) (k := d8) (f := (t.f 7)) (fd := (t.d 7)) (ps := ["_law_cell", "_law_k"]) ?_ ?_ ?_ ?_ ?_ ?_ ?_ ?_ ?_ ?_
 exact bX
 exact hr.mono (by decide)
 exact T.ff
 exact T.eO.kp
 exact T.fc
 exact jf hx
 exact fh
 exact d9
 refine aT ?_ ?_ ?_
 refine ah 0 ?_ ?_ ?_
 exact (Or.inr (Or.inl eU))
 exact cZ
 exact rfl
 decide +kernel
 refine pI ?_
 exact ak
 decide +kernel
 refine ah 4 ?_ ?_ ?_
 exact (Or.inl iO)
 exact uB
 exact rfl
 exact Or.inl rfl
 exact rfl
 decide +kernel
 refine au ?_ ?_
 refine qX ?_ ?_ ?_ ?_ ?_ ?_ ?_ ?_
 exact uR
 exact rfl
 exact T.kc
 exact iD
 refine pI ?_
 exact ak
 refine oV (i := 6) ?_ ?_ ?_ ?_
 exact nd
 exact (Or.inl mL)
 exact Or.inl rfl
 exact rfl
 refine au ?_ ?_
 refine cg (i := 7) ?_ ?_ ?_ ?_ ?_ ?_
 exact nd
 exact (Or.inl cK)
 exact mS
 exact Or.inl rfl
 exact rfl
 decide +kernel
 refine au ?_ ?_
 refine qX ?_ ?_ ?_ ?_ ?_ ?_ ?_ ?_
 exact uR
 exact rfl
 exact T.kc
 exact iD
 refine aT ?_ ?_ ?_
 refine ah 4 ?_ ?_ ?_
 exact (Or.inl iO)
 exact uB
 exact rfl
 decide +kernel
 exact ak
 refine oV (i := 3) ?_ ?_ ?_ ?_
 exact nd
 exact (Or.inl fM)
 exact Or.inl rfl
 exact rfl
 refine aJ ?_
 refine cg (i := 7) ?_ ?_ ?_ ?_ ?_ ?_
 exact nd
 exact (Or.inl cK)
 refine bI ?_ ?_
 refine ah 7 ?_ ?_ ?_
 exact (Or.inl cK)
 exact nL
 exact rfl
 refine cA ?_ ?_ ?_
 exact mS
 refine iw ?_ ?_
 refine bI ?_ ?_
 refine bY (CX := gc P w) (k := d8) (f := (t.f 7)) (fd := (t.d 7)) (ps := ["_law_cell", "_law_k"]) ?_ ?_ ?_ ?_ ?_ ?_ ?_ ?_ ?_ ?_
 exact bX
 exact hr.mono (by decide)
 exact T.ff
 exact T.eO.kp
 exact T.fc
 exact jf hx
 exact fh
 exact d9
 refine aT ?_ ?_ ?_
 refine ah 0 ?_ ?_ ?_
 exact (Or.inr (Or.inl eU))
 exact cZ
 exact rfl
 decide +kernel
 refine aT ?_ ?_ ?_
 refine bI ?_ ?_
 exact aA
 refine ah 3 ?_ ?_ ?_
 exact (Or.inl fM)
 exact vA
 exact rfl
 decide +kernel
 exact ak
 decide +kernel
 refine w4 ?_ ?_
 refine ah 6 ?_ ?_ ?_
 exact (Or.inl mL)
 exact iN
 exact rfl
 refine Lk ?_ ?_ ?_ ?_
 exact T.Nm
 exact uJ
 refine aT ?_ ?_ ?_
 refine Jt ?_ ?_ ?_
 exact hu
 refine ah 3 ?_ ?_ ?_
 exact (Or.inl fM)
 exact vA
 exact rfl
 refine ah 5 ?_ ?_ ?_
 exact (Or.inl j7)
 exact eY
 exact rfl
 decide +kernel
 exact ak
 decide +kernel
 exact aA
 decide +kernel
 exact Or.inl rfl
 exact rfl
 decide +kernel
 decide +kernel
 refine au ?_ ?_
 refine jI ?_ ?_ ?_
 refine eN ?_ ?_ ?_ ?_
 exact (KS hu)
 refine ah 7 ?_ ?_ ?_
 exact (Or.inl cK)
 exact nL
 exact rfl
 refine dw ?_
 refine kj ?_
 refine tE ?_
 refine tE ?_
 refine tE ?_
 refine tE ?_
 refine tE ?_
 refine tE ?_
 refine tE ?_
 refine tE ?_
 refine tE ?_
 refine tE ?_
 refine tE ?_
 refine tE ?_
 exact ak
 decide +kernel
 refine aJ ?_
 refine cg (i := 7) ?_ ?_ ?_ ?_ ?_ ?_
 exact nd
 exact (Or.inl cK)
 refine bI ?_ ?_
 refine ah 7 ?_ ?_ ?_
 exact (Or.inl cK)
 exact nL
 exact rfl
 exact mS
 exact Or.inl rfl
 exact rfl
 decide +kernel
 exact fH
 refine aJ ?_
 refine oU ?_ ?_
 refine lO ?_ ?_ ?_ ?_ ?_
 refine ah 1 ?_ ?_ ?_
 exact (Or.inl fO)
 exact gQ
 exact rfl
 refine aT ?_ ?_ ?_
 refine ah 7 ?_ ?_ ?_
 exact (Or.inl cK)
 exact nL
 exact rfl
 decide +kernel
 exact ak
 decide +kernel
 decide +kernel
 exact rfl
 decide +kernel
 decide +kernel
 refine aJ ?_
 refine eE ?_
 refine DQ ?_
 refine ah 1 ?_ ?_ ?_
 exact (Or.inl fO)
 exact gQ
 exact rfl
theorem uT : gB vU ["_law_cells_here", "_law_names_here", "_law_most_here"] (aa bN) := ⟨rfl, rfl, rfl, by decide +kernel, rfl, by decide +kernel, by decide +kernel⟩
theorem AL (T : Txt K mg t) (bX : cY P w K mg base (gc P w) 1 (t.f 7) (t.d 7) ["_law_cell", "_law_k"] (cU K mg 2 aI)) : cY P w K mg base (gc P w) 2 (t.f 10) (t.d 10) ["_law_cells_here", "_law_names_here", "_law_most_here"] (cU K mg 3 mH) := by
 refine cY.imp (sp := cU K mg 3 (fun ds => iG 8 oZ ds)) ?_ iC
 refine A4 (k := 1) (ms := oZ) T.vW uT (by decide) (by decide) (fun _ => rfl) ?_
 intro X EE cdv A outer s H E hX hr hx uR
 subst hX
 have hu := gR hr
 have nd := uT.nd
 have hfr : iR (nu (gc P w) P w K mg base vU "_law_rows" (aa bN) (t.f 10) cdv A outer s H E) := ⟨_, outer, s.heap.objs.size, rfl, rfl, rfl⟩
 refine au ?_ ?_
 refine cg (i := 3) ?_ ?_ ?_ ?_ ?_ ?_
 exact nd
 exact (Or.inl cz)
 refine kj ?_
 refine aT ?_ ?_ ?_
 refine jO ?_
 refine pI ?_
 refine aT ?_ ?_ ?_
 refine cA ?_ ?_ ?_
 refine ah 1 ?_ ?_ ?_
 exact (Or.inl i9)
 exact gQ
 exact rfl
 refine iw ?_ ?_
 refine bY (CX := gc P w) (k := d8) (f := (t.f 7)) (fd := (t.d 7)) (ps := ["_law_cell", "_law_k"]) ?_ ?_ ?_ ?_ ?_ ?_ ?_ ?_ ?_ ?_
 exact bX
 exact hr.mono (by decide)
 exact T.ff
 exact T.eO.kp
 exact T.fc
 exact jf hx
 exact eB
 exact d9
 refine aT ?_ ?_ ?_
 refine cA ?_ ?_ ?_
 refine ah 0 ?_ ?_ ?_
 exact (Or.inl i8)
 exact iV
 exact rfl
 exact aA
 decide +kernel
 decide +kernel
 refine pI ?_
 exact ak
 decide +kernel
 exact aA
 decide +kernel
 decide +kernel
 exact ak
 decide +kernel
 exact ak
 exact Or.inl rfl
 exact rfl
 decide +kernel
 refine au ?_ ?_
 refine Al ?_ ?_ ?_ ?_ ?_ ?_
 exact uR
 exact rfl
 refine ah 0 ?_ ?_ ?_
 exact (Or.inl i8)
 exact iV
 exact rfl
 refine oV (i := 4) ?_ ?_ ?_ ?_
 exact nd
 exact (Or.inl dP)
 exact Or.inl rfl
 exact rfl
 refine au ?_ ?_
 refine cg (i := 5) ?_ ?_ ?_ ?_ ?_ ?_
 exact nd
 exact (Or.inl iY)
 exact aA
 exact Or.inl rfl
 exact rfl
 decide +kernel
 refine au ?_ ?_
 refine jI ?_ ?_ ?_
 refine eN ?_ ?_ ?_ ?_
 exact (iE hu)
 refine iw ?_ ?_
 refine bY (CX := gc P w) (k := d8) (f := (t.f 7)) (fd := (t.d 7)) (ps := ["_law_cell", "_law_k"]) ?_ ?_ ?_ ?_ ?_ ?_ ?_ ?_ ?_ ?_
 exact bX
 exact hr.mono (by decide)
 exact T.ff
 exact T.eO.kp
 exact T.fc
 exact jf hx
 exact eB
 exact d9
 refine aT ?_ ?_ ?_
 refine ah 4 ?_ ?_ ?_
 exact (Or.inl dP)
 exact cZ
 exact rfl
 decide +kernel
 refine pI ?_
 exact ak
 decide +kernel
 exact aA
 exact aA
 decide +kernel
 refine aJ ?_
 refine cg (i := 5) ?_ ?_ ?_ ?_ ?_ ?_
 exact nd
 exact (Or.inl iY)
 refine bI ?_ ?_
 exact aA
 refine iw ?_ ?_
 refine bY (CX := gc P w) (k := d8) (f := (t.f 7)) (fd := (t.d 7)) (ps := ["_law_cell", "_law_k"]) ?_ ?_ ?_ ?_ ?_ ?_ ?_ ?_ ?_ ?_
 exact bX
 exact hr.mono (by decide)
 exact T.ff
 exact T.eO.kp
 exact T.fc
 exact jf hx
 exact eB
 exact d9
 refine aT ?_ ?_ ?_
 refine ah 4 ?_ ?_ ?_
 exact (Or.inl dP)
 exact cZ
 exact rfl
 decide +kernel
 refine pI ?_
 exact ak
 decide +kernel
 exact aA
 exact Or.inl rfl
 exact rfl
 decide +kernel
 exact fH
 refine aJ ?_
 refine qX ?_ ?_ ?_ ?_ ?_ ?_ ?_ ?_
 exact uR
 exact rfl
 exact T.kc
 exact tH
 refine aT ?_ ?_ ?_
 refine ah 5 ?_ ?_ ?_
 exact (Or.inl iY)
 exact AH
 exact rfl
 decide +kernel
 exact ak
 refine oV (i := 6) ?_ ?_ ?_ ?_
 exact nd
 exact (Or.inl jZ)
 exact Or.inl rfl
 exact rfl
 refine au ?_ ?_
 refine cg (i := 7) ?_ ?_ ?_ ?_ ?_ ?_
 exact nd
 exact (Or.inl iX)
 refine bI ?_ ?_
 exact aA
 refine iw ?_ ?_
 refine bY (CX := gc P w) (k := d8) (f := (t.f 7)) (fd := (t.d 7)) (ps := ["_law_cell", "_law_k"]) ?_ ?_ ?_ ?_ ?_ ?_ ?_ ?_ ?_ ?_
 exact bX
 exact hr.mono (by decide)
 exact T.ff
 exact T.eO.kp
 exact T.fc
 exact jf hx
 exact eB
 exact d9
 refine aT ?_ ?_ ?_
 refine ah 4 ?_ ?_ ?_
 exact (Or.inl dP)
 exact cZ
 exact rfl
 decide +kernel
 refine pI ?_
 exact ak
 decide +kernel
 refine bI ?_ ?_
 refine cA ?_ ?_ ?_
 refine cA ?_ ?_ ?_
 refine ah 3 ?_ ?_ ?_
 exact (Or.inl cz)
 exact cL
 exact rfl
 refine nY ?_
 exact aA
 decide +kernel
 exact aA
 decide +kernel
 exact aA
 exact Or.inl rfl
 exact rfl
 decide +kernel
 refine au ?_ ?_
 refine jI ?_ ?_ ?_
 refine eN ?_ ?_ ?_ ?_
 exact tw
 refine ah 6 ?_ ?_ ?_
 exact (Or.inl jZ)
 exact iN
 exact rfl
 exact aA
 decide +kernel
 refine aJ ?_
 refine cg (i := 7) ?_ ?_ ?_ ?_ ?_ ?_
 exact nd
 exact (Or.inl iX)
 refine bI ?_ ?_
 refine cA ?_ ?_ ?_
 refine cA ?_ ?_ ?_
 refine ah 3 ?_ ?_ ?_
 exact (Or.inl cz)
 exact cL
 exact rfl
 refine nY ?_
 exact aA
 decide +kernel
 exact aA
 decide +kernel
 refine iw ?_ ?_
 refine bY (CX := gc P w) (k := d8) (f := (t.f 7)) (fd := (t.d 7)) (ps := ["_law_cell", "_law_k"]) ?_ ?_ ?_ ?_ ?_ ?_ ?_ ?_ ?_ ?_
 exact bX
 exact hr.mono (by decide)
 exact T.ff
 exact T.eO.kp
 exact T.fc
 exact jf hx
 exact eB
 exact d9
 refine aT ?_ ?_ ?_
 refine ah 4 ?_ ?_ ?_
 exact (Or.inl dP)
 exact cZ
 exact rfl
 decide +kernel
 refine pI ?_
 exact ak
 decide +kernel
 exact aA
 exact Or.inl rfl
 exact rfl
 decide +kernel
 exact fH
 refine aJ ?_
 refine jI ?_ ?_ ?_
 refine eN ?_ ?_ ?_ ?_
 exact KY
 refine jQ ?_ ?_ ?_ ?_
 exact T.nj
 exact vC
 refine aT ?_ ?_ ?_
 refine ah 3 ?_ ?_ ?_
 exact (Or.inl cz)
 exact cL
 exact rfl
 decide +kernel
 exact ak
 decide +kernel
 refine ah 2 ?_ ?_ ?_
 exact (Or.inl nN)
 exact o4
 exact rfl
 decide +kernel
 refine aJ ?_
 refine oU ?_ ?_
 refine lO ?_ ?_ ?_ ?_ ?_
 refine ah 3 ?_ ?_ ?_
 exact (Or.inl cz)
 exact cL
 exact rfl
 refine aT ?_ ?_ ?_
 refine jO ?_
 refine aT ?_ ?_ ?_
 refine ah 7 ?_ ?_ ?_
 exact (Or.inl iX)
 exact dh
 exact rfl
 decide +kernel
 refine aT ?_ ?_ ?_
 refine cA ?_ ?_ ?_
 refine ah 1 ?_ ?_ ?_
 exact (Or.inl i9)
 exact gQ
 exact rfl
 refine iw ?_ ?_
 refine bY (CX := gc P w) (k := d8) (f := (t.f 7)) (fd := (t.d 7)) (ps := ["_law_cell", "_law_k"]) ?_ ?_ ?_ ?_ ?_ ?_ ?_ ?_ ?_ ?_
 exact bX
 exact hr.mono (by decide)
 exact T.ff
 exact T.eO.kp
 exact T.fc
 exact jf hx
 exact eB
 exact d9
 refine aT ?_ ?_ ?_
 refine ah 4 ?_ ?_ ?_
 exact (Or.inl dP)
 exact cZ
 exact rfl
 decide +kernel
 refine aT ?_ ?_ ?_
 refine bI ?_ ?_
 exact aA
 refine ah 6 ?_ ?_ ?_
 exact (Or.inl jZ)
 exact iN
 exact rfl
 decide +kernel
 exact ak
 decide +kernel
 exact aA
 decide +kernel
 decide +kernel
 exact ak
 decide +kernel
 exact ak
 decide +kernel
 decide +kernel
 exact rfl
 decide +kernel
 exact fH
 decide +kernel
 decide +kernel
 refine aJ ?_
 refine eE ?_
 refine DQ ?_
 refine ah 3 ?_ ?_ ?_
 exact (Or.inl cz)
 exact cL
 exact rfl
theorem uU : gB vV ["_law_script", "_law_most_here"] (aa dJ) := ⟨rfl, rfl, rfl, by decide +kernel, rfl, by decide +kernel, by decide +kernel⟩
theorem AM (T : Txt K mg t) (bX : cY P w K mg base (gc P w) 1 (t.f 7) (t.d 7) ["_law_cell", "_law_k"] (cU K mg 2 aI)) : cY P w K mg base (gc P w) 2 (t.f 14) (t.d 14) ["_law_script", "_law_most_here"] (cU K mg 2 mK) := by
 refine cY.imp (sp := cU K mg 2 (fun ds => iG 3 mJ ds)) ?_ iC
 refine A4 (k := 1) (ms := mJ) T.vX uU (by decide) (by decide) (fun _ => rfl) ?_
 intro X EE cdv A outer s H E hX hr hx uR
 subst hX
 have hu := gR hr
 have nd := uU.nd
 have hfr : iR (nu (gc P w) P w K mg base vV "_law_most" (aa dJ) (t.f 14) cdv A outer s H E) := ⟨_, outer, s.heap.objs.size, rfl, rfl, rfl⟩
 refine au ?_ ?_
 refine cg (i := 2) ?_ ?_ ?_ ?_ ?_ ?_
 exact nd
 exact (Or.inl iW)
 refine bY (CX := gc P w) (k := d8) (f := (t.f 7)) (fd := (t.d 7)) (ps := ["_law_cell", "_law_k"]) ?_ ?_ ?_ ?_ ?_ ?_ ?_ ?_ ?_ ?_
 exact bX
 exact hr.mono (by decide)
 exact T.ff
 exact T.eO.kp
 exact T.fc
 exact jf hx
 exact qN
 exact d9
 refine aT ?_ ?_ ?_
 refine Gy ?_ ?_ ?_ ?_ ?_
 exact rfl
 exact T.JG
 exact vB
 refine aT ?_ ?_ ?_
 refine dw ?_
 refine iF ?_ ?_ ?_
 refine ah 0 ?_ ?_ ?_
 exact (Or.inl pC)
 exact eF
 exact rfl
 exact jw
 refine jx ?_
 exact aA
 decide +kernel
 exact ak
 decide +kernel
 decide +kernel
 refine pI ?_
 exact ak
 decide +kernel
 exact Or.inl rfl
 exact rfl
 decide +kernel
 refine au ?_ ?_
 refine jI ?_ ?_ ?_
 refine eN ?_ ?_ ?_ ?_
 exact (iE hu)
 refine iw ?_ ?_
 refine ah 2 ?_ ?_ ?_
 exact (Or.inl iW)
 exact uA
 exact rfl
 exact aA
 exact aA
 decide +kernel
 refine aJ ?_
 refine eE ?_
 refine bI ?_ ?_
 exact aA
 refine iw ?_ ?_
 refine wK ?_ ?_
 refine ah 2 ?_ ?_ ?_
 exact (Or.inl iW)
 exact uA
 exact rfl
 exact aA
 exact aA
 exact fH
 refine aJ ?_
 refine eE ?_
 refine ah 1 ?_ ?_ ?_
 exact (Or.inl nM)
 exact o4
 exact rfl
theorem sy (T : Txt K mg t) (g7 : cY P w K mg base (gc P w) 1 (t.f 2) (t.d 2) ["tree", "place"] (cU K mg 2 fE)) : cY P w K mg base (gc P w) 2 (t.f 4) (t.d 4) ["tree", "place"] (cU K mg 2 fF) := by
 refine cY.imp (sp := cU K mg 2 (fun ds => iG 3 gM ds)) ?_ BA
 refine A4 (k := 1) (ms := gM) T.jB je (by decide) (by decide) (fun _ => rfl) ?_
 intro X EE cdv A outer s H E hX hr hx uR
 subst hX
 have hu := gR hr
 have nd := je.nd
 have hfr : iR (nu (gc P w) P w K mg base iK "later_brothers" (aa aF) (t.f 4) cdv A outer s H E) := ⟨_, outer, s.heap.objs.size, rfl, rfl, rfl⟩
 refine au ?_ ?_
 refine jI ?_ ?_ ?_
 refine eN ?_ ?_ ?_ ?_
 exact (iE hu)
 refine ah 1 ?_ ?_ ?_
 exact (Or.inl dB)
 exact gy
 exact rfl
 refine jO ?_
 exact ak
 decide +kernel
 refine aJ ?_
 refine eE ?_
 refine kj ?_
 exact ak
 exact fH
 refine au ?_ ?_
 refine cg (i := 2) ?_ ?_ ?_ ?_ ?_ ?_
 exact nd
 exact (Or.inr fW)
 refine dw ?_
 refine iF ?_ ?_ ?_
 refine ah 1 ?_ ?_ ?_
 exact (Or.inl dB)
 exact gy
 exact rfl
 exact jw
 refine jx ?_
 refine nY ?_
 exact aA
 exact Or.inl rfl
 exact rfl
 decide +kernel
 refine aJ ?_
 refine eE ?_
 refine zl (xs := ["k"]) (ow := t8) ?_ ?_ ?_ ?_ ?_ ?_ ?_ ?_ ?_ ?_ ?_ ?_
 exact hx
 exact hfr
 exact fU
 exact i6 fU
 exact gZ
 exact rfl
 exact T.kc
 exact kI
 refine aT ?_ ?_ ?_
 refine bI ?_ ?_
 refine cA ?_ ?_ ?_
 refine ah 1 ?_ ?_ ?_
 exact (Or.inl dB)
 exact gy
 exact rfl
 refine nY ?_
 exact aA
 decide +kernel
 exact aA
 decide +kernel
 refine aT ?_ ?_ ?_
 refine jQ ?_ ?_ ?_ ?_
 exact T.nj
 exact lM
 refine aT ?_ ?_ ?_
 refine cA ?_ ?_ ?_
 refine bY (CX := gc P w) (k := p7) (f := (t.f 2)) (fd := (t.d 2)) (ps := ["tree", "place"]) ?_ ?_ ?_ ?_ ?_ ?_ ?_ ?_ ?_ ?_
 exact g7
 exact hr.mono (by decide)
 exact T.r8
 exact T.pK.kp
 exact T.r6
 exact jf hx
 exact jK
 exact qk
 refine aT ?_ ?_ ?_
 refine ah 0 ?_ ?_ ?_
 exact (Or.inl ly)
 exact mz
 exact rfl
 decide +kernel
 refine aT ?_ ?_ ?_
 refine ah 2 ?_ ?_ ?_
 exact (Or.inr (Or.inl fW))
 exact uD
 exact rfl
 decide +kernel
 exact ak
 decide +kernel
 exact aA
 decide +kernel
 decide +kernel
 exact ak
 decide +kernel
 decide +kernel
 exact ak
 refine iI fun cl C pins s0 H0 fp E1 EU hx => ?_
 refine bI ?_ ?_
 refine ah 3 ?_ ?_ ?_
 exact (fJ fU lT)
 exact uD
 exact rfl
 refine jO ?_
 refine aT ?_ ?_ ?_
 refine ah 0 ?_ ?_ ?_
 exact (gX fU (by simp))
 exact ET
 exact rfl
 decide +kernel
 exact ak
 decide +kernel
 decide +kernel
theorem qK : gB rj ["tree"] (aa cI) := ⟨rfl, rfl, rfl, by decide +kernel, rfl, by decide +kernel, by decide +kernel⟩
theorem wF (T : Txt K mg t) (qx : cY P w K mg base (gc P w) 2 (t.f 0) (t.d 0) ["top", "parts_of"] (cU K mg 2 nE)) : cY P w K mg base (gc P w) 3 (t.f 5) (t.d 5) ["tree"] (cU K mg 1 iM) := by
 refine cY.imp (sp := cU K mg 1 (fun ds => iG 1 kU ds)) ?_ iC
 refine A4 (k := 2) (ms := kU) T.rm qK (by decide) (by decide) (fun _ => rfl) ?_
 intro X EE cdv A outer s H E hX hr hx uR
 subst hX
 have hu := gR hr
 have nd := qK.nd
 have hfr : iR (nu (gc P w) P w K mg base rj "placed_trees" (aa cI) (t.f 5) cdv A outer s H E) := ⟨_, outer, s.heap.objs.size, rfl, rfl, rfl⟩
 refine aJ ?_
 refine eE ?_
 refine bY (CX := gc P w) (k := yw) (f := (t.f 0)) (fd := (t.d 0)) (ps := ["top", "parts_of"]) ?_ ?_ ?_ ?_ ?_ ?_ ?_ ?_ ?_ ?_
 exact qx
 exact hr.mono (by decide)
 exact T.Az
 exact T.uo.kp
 exact T.Ay
 exact jf hx
 exact oA
 exact yD
 refine aT ?_ ?_ ?_
 refine jO ?_
 refine aT ?_ ?_ ?_
 refine jO ?_
 exact ak
 decide +kernel
 refine aT ?_ ?_ ?_
 refine ah 0 ?_ ?_ ?_
 exact (Or.inl rK)
 exact mz
 exact rfl
 decide +kernel
 exact ak
 decide +kernel
 refine aT ?_ ?_ ?_
 refine M6 (f := (t.f 6)) ?_ ?_ ?_
 exact T.rA
 exact m8
 exact wu
 decide +kernel
 exact ak
 decide +kernel
theorem sV : gB qc ["tree"] (aa dN) := ⟨rfl, rfl, rfl, by decide +kernel, rfl, by decide +kernel, by decide +kernel⟩
theorem yJ (T : Txt K mg t) (oE : cY P w K mg base (gc P w) 3 (t.f 5) (t.d 5) ["tree"] (cU K mg 1 iM)) : cY P w K mg base (gc P w) 4 (t.f 1) (t.d 1) ["tree"] (cU K mg 1 fK) := by
 refine cY.imp (sp := cU K mg 1 (fun ds => iG 1 nI ds)) ?_ iC
 refine A4 (k := 3) (ms := nI) T.qe sV (by decide) (by decide) (fun _ => rfl) ?_
 intro X EE cdv A outer s H E hX hr hx uR
 subst hX
 have hu := gR hr
 have nd := sV.nd
 have hfr : iR (nu (gc P w) P w K mg base qc "all_places" (aa dN) (t.f 1) cdv A outer s H E) := ⟨_, outer, s.heap.objs.size, rfl, rfl, rfl⟩
 refine aJ ?_
 refine eE ?_
 refine dw ?_
 refine rW (xs := ["place", "part"]) (ow := Iq K 2) ?_ ?_ ?_ ?_ ?_ ?_ ?_ ?_ ?_
 exact hx
 exact hfr
 exact kY
 exact Bp rfl kY
 exact Br
 exact rfl
 refine bY (CX := gc P w) (k := wo) (f := (t.f 5)) (fd := (t.d 5)) (ps := ["tree"]) ?_ ?_ ?_ ?_ ?_ ?_ ?_ ?_ ?_ ?_
 exact oE
 exact hr.mono (by decide)
 exact T.xP
 exact T.rm.kp
 exact T.xO
 exact jf hx
 exact om
 exact wz
 refine aT ?_ ?_ ?_
 refine ah 0 ?_ ?_ ?_
 exact (Or.inl tL)
 exact mz
 exact rfl
 decide +kernel
 exact ak
 decide +kernel
 refine iI fun cl C pins s0 H0 fp E1 EU hx => ?_
 refine ah 0 ?_ ?_ ?_
 exact (gX kY (by simp))
 exact gy
 exact rfl
 decide +kernel
theorem qy : gB lP ["tree", "go", "place"] (aa cy) := ⟨rfl, rfl, rfl, by decide +kernel, rfl, by decide +kernel, by decide +kernel⟩
theorem Dg (T : Txt K mg t) (jH : cY P w K mg base (gc P w) 4 (t.f 1) (t.d 1) ["tree"] (cU K mg 1 fK)) (g7 : cY P w K mg base (gc P w) 1 (t.f 2) (t.d 2) ["tree", "place"] (cU K mg 2 fE)) (lV : cY P w K mg base (gc P w) 2 (t.f 4) (t.d 4) ["tree", "place"] (cU K mg 2 gJ)) : cY P w K mg base (gc P w) 5 (t.f 3) (t.d 3) ["tree", "go", "place"] (cU K mg 3 lQ) := by
 refine cY.imp (sp := cU K mg 3 (fun ds => iG 4 nX ds)) ?_ iC
 refine A4 (k := 4) (ms := nX) T.r9 qy (by decide) (by decide) (fun _ => rfl) ?_
 intro X EE cdv A outer s H E hX hr hx uR
 subst hX
 have hu := gR hr
 have nd := qy.nd
 have hfr : iR (nu (gc P w) P w K mg base lP "gone_to" (aa cy) (t.f 3) cdv A outer s H E) := ⟨_, outer, s.heap.objs.size, rfl, rfl, rfl⟩
 refine au ?_ ?_
 refine jI ?_ ?_ ?_
 refine eN ?_ ?_ ?_ ?_
 exact (iE hu)
 refine ah 1 ?_ ?_ ?_
 exact (Or.inl mF)
 exact DY
 exact rfl
 exact mS
 decide +kernel
 refine aJ ?_
 refine eE ?_
 refine bY (CX := gc P w) (k := um) (f := (t.f 4)) (fd := (t.d 4)) (ps := ["tree", "place"]) ?_ ?_ ?_ ?_ ?_ ?_ ?_ ?_ ?_ ?_
 exact lV
 exact hr.mono (by decide)
 exact T.pM
 exact T.jB.kp
 exact T.pL
 exact jf hx
 exact jJ
 exact o5
 refine aT ?_ ?_ ?_
 refine ah 0 ?_ ?_ ?_
 exact (Or.inl kh)
 exact mz
 exact rfl
 decide +kernel
 refine aT ?_ ?_ ?_
 refine ah 2 ?_ ?_ ?_
 exact (Or.inr (Or.inl jE))
 exact gy
 exact rfl
 decide +kernel
 exact ak
 decide +kernel
 exact fH
 refine au ?_ ?_
 refine cg (i := 3) ?_ ?_ ?_ ?_ ?_ ?_
 exact nd
 exact (Or.inl g6)
 refine bY (CX := gc P w) (k := p7) (f := (t.f 2)) (fd := (t.d 2)) (ps := ["tree", "place"]) ?_ ?_ ?_ ?_ ?_ ?_ ?_ ?_ ?_ ?_
 exact g7
 exact hr.mono (by decide)
 exact T.r8
 exact T.pK.kp
 exact T.r6
 exact jf hx
 exact ou
 exact qk
 refine aT ?_ ?_ ?_
 refine ah 0 ?_ ?_ ?_
 exact (Or.inl kh)
 exact mz
 exact rfl
 decide +kernel
 refine aT ?_ ?_ ?_
 refine ah 2 ?_ ?_ ?_
 exact (Or.inr (Or.inl jE))
 exact gy
 exact rfl
 decide +kernel
 exact ak
 decide +kernel
 exact Or.inl rfl
 exact rfl
 decide +kernel
 refine au ?_ ?_
 refine jI ?_ ?_ ?_
 refine eN ?_ ?_ ?_ ?_
 exact (iE hu)
 refine ah 1 ?_ ?_ ?_
 exact (Or.inl mF)
 exact DY
 exact rfl
 exact mS
 decide +kernel
 refine aJ ?_
 refine eE ?_
 refine dw ?_
 refine rX (xs := ["k"]) (ow := t8) ?_ ?_ ?_ ?_ ?_ ?_ ?_ ?_ ?_ ?_ ?_
 exact hx
 exact hfr
 exact kZ
 exact i6 kZ
 exact gZ
 exact rfl
 exact T.kc
 exact pR
 refine aT ?_ ?_ ?_
 refine jQ ?_ ?_ ?_ ?_
 exact T.nj
 exact rH
 refine aT ?_ ?_ ?_
 refine cA ?_ ?_ ?_
 refine ah 3 ?_ ?_ ?_
 exact (Or.inl g6)
 exact uE
 exact rfl
 exact aA
 decide +kernel
 decide +kernel
 exact ak
 decide +kernel
 decide +kernel
 exact ak
 refine iI fun cl C pins s0 H0 fp E1 EU hx => ?_
 refine bI ?_ ?_
 refine ah 3 ?_ ?_ ?_
 exact (fJ kZ qO)
 exact gy
 exact rfl
 refine jO ?_
 refine aT ?_ ?_ ?_
 refine ah 0 ?_ ?_ ?_
 exact (gX kZ (by simp))
 exact ET
 exact rfl
 decide +kernel
 exact ak
 decide +kernel
 exact fH
 refine aJ ?_
 refine eE ?_
 refine dw ?_
 refine rW (xs := ["inner"]) (ow := t8) ?_ ?_ ?_ ?_ ?_ ?_ ?_ ?_ ?_
 exact hx
 exact hfr
 exact lg
 exact i6 lg
 exact gZ
 exact rfl
 refine dw ?_
 refine iF ?_ ?_ ?_
 refine bY (CX := gc P w) (k := sJ) (f := (t.f 1)) (fd := (t.d 1)) (ps := ["tree"]) ?_ ?_ ?_ ?_ ?_ ?_ ?_ ?_ ?_ ?_
 exact jH
 exact hr.mono (by decide)
 exact T.ur
 exact T.qe.kp
 exact T.uq
 exact jf hx
 exact lK
 exact sO
 refine aT ?_ ?_ ?_
 refine ah 3 ?_ ?_ ?_
 exact (Or.inl g6)
 exact uE
 exact rfl
 decide +kernel
 exact ak
 decide +kernel
 refine jx ?_
 exact aA
 exact jw
 refine iI fun cl C pins s0 H0 fp E1 EU hx => ?_
 refine bI ?_ ?_
 refine ah 3 ?_ ?_ ?_
 exact (fJ lg qP)
 exact gy
 exact rfl
 refine ah 0 ?_ ?_ ?_
 exact (gX lg (by simp))
 exact BY
 exact rfl
 decide +kernel
theorem AN (T : Txt K mg t) (jH : cY P w K mg base (gc P w) 4 (t.f 1) (t.d 1) ["tree"] (cU K mg 1 fK)) (g7 : cY P w K mg base (gc P w) 1 (t.f 2) (t.d 2) ["tree", "place"] (cU K mg 2 fE)) (kB : cY P w K mg base (gc P w) 2 (t.f 4) (t.d 4) ["tree", "place"] (cU K mg 2 fF)) : cY P w K mg base (gc P w) 5 (t.f 3) (t.d 3) ["tree", "go", "place"] (cU K mg 3 jo) := by
 refine cY.imp (sp := cU K mg 3 (fun ds => iG 4 kG ds)) ?_ BA
 refine A4 (k := 4) (ms := kG) T.r9 qy (by decide) (by decide) (fun _ => rfl) ?_
 intro X EE cdv A outer s H E hX hr hx uR
 subst hX
 have hu := gR hr
 have nd := qy.nd
 have hfr : iR (nu (gc P w) P w K mg base lP "gone_to" (aa cy) (t.f 3) cdv A outer s H E) := ⟨_, outer, s.heap.objs.size, rfl, rfl, rfl⟩
 refine au ?_ ?_
 refine jI ?_ ?_ ?_
 refine eN ?_ ?_ ?_ ?_
 exact (iE hu)
 refine ah 1 ?_ ?_ ?_
 exact (Or.inl mF)
 exact DY
 exact rfl
 exact mS
 decide +kernel
 refine aJ ?_
 refine eE ?_
 refine bY (CX := gc P w) (k := sr) (f := (t.f 4)) (fd := (t.d 4)) (ps := ["tree", "place"]) ?_ ?_ ?_ ?_ ?_ ?_ ?_ ?_ ?_ ?_
 exact kB
 exact hr.mono (by decide)
 exact T.pM
 exact T.jB.kp
 exact T.pL
 exact jf hx
 exact jJ
 exact o5
 refine aT ?_ ?_ ?_
 refine ah 0 ?_ ?_ ?_
 exact (Or.inl kh)
 exact mz
 exact rfl
 decide +kernel
 refine aT ?_ ?_ ?_
 refine ah 2 ?_ ?_ ?_
 exact (Or.inr (Or.inl jE))
 exact gy
 exact rfl
 decide +kernel
 exact ak
 decide +kernel
 exact fH
 refine au ?_ ?_
 refine cg (i := 3) ?_ ?_ ?_ ?_ ?_ ?_
 exact nd
 exact (Or.inl g6)
 refine bY (CX := gc P w) (k := p7) (f := (t.f 2)) (fd := (t.d 2)) (ps := ["tree", "place"]) ?_ ?_ ?_ ?_ ?_ ?_ ?_ ?_ ?_ ?_
 exact g7
 exact hr.mono (by decide)
 exact T.r8
 exact T.pK.kp
 exact T.r6
 exact jf hx
 exact ou
 exact qk
 refine aT ?_ ?_ ?_
 refine ah 0 ?_ ?_ ?_
 exact (Or.inl kh)
 exact mz
 exact rfl
 decide +kernel
 refine aT ?_ ?_ ?_
 refine ah 2 ?_ ?_ ?_
 exact (Or.inr (Or.inl jE))
 exact gy
 exact rfl
 decide +kernel
 exact ak
 decide +kernel
 exact Or.inl rfl
 exact rfl
 decide +kernel
 refine au ?_ ?_
 refine jI ?_ ?_ ?_
 refine eN ?_ ?_ ?_ ?_
 exact (iE hu)
 refine ah 1 ?_ ?_ ?_
 exact (Or.inl mF)
 exact DY
 exact rfl
 exact mS
 decide +kernel
 refine aJ ?_
 refine eE ?_
 refine rX (xs := ["k"]) (ow := t8) ?_ ?_ ?_ ?_ ?_ ?_ ?_ ?_ ?_ ?_ ?_
 exact hx
 exact hfr
 exact jC
 exact i6 jC
 exact gZ
 exact rfl
 exact T.kc
 exact pR
 refine aT ?_ ?_ ?_
 refine jQ ?_ ?_ ?_ ?_
 exact T.nj
 exact rH
 refine aT ?_ ?_ ?_
 refine cA ?_ ?_ ?_
 refine ah 3 ?_ ?_ ?_
 exact (Or.inl g6)
 exact uE
 exact rfl
 exact aA
 decide +kernel
 decide +kernel
 exact ak
 decide +kernel
 decide +kernel
 exact ak
 refine iI fun cl C pins s0 H0 fp E1 EU hx => ?_
 refine bI ?_ ?_
 refine ah 3 ?_ ?_ ?_
 exact (fJ jC pP)
 exact gy
 exact rfl
 refine jO ?_
 refine aT ?_ ?_ ?_
 refine ah 0 ?_ ?_ ?_
 exact (gX jC (by simp))
 exact ET
 exact rfl
 decide +kernel
 exact ak
 decide +kernel
 exact fH
 refine aJ ?_
 refine eE ?_
 refine rW (xs := ["inner"]) (ow := t8) ?_ ?_ ?_ ?_ ?_ ?_ ?_ ?_ ?_
 exact hx
 exact hfr
 exact jD
 exact i6 jD
 exact gZ
 exact rfl
 refine dw ?_
 refine iF ?_ ?_ ?_
 refine bY (CX := gc P w) (k := sJ) (f := (t.f 1)) (fd := (t.d 1)) (ps := ["tree"]) ?_ ?_ ?_ ?_ ?_ ?_ ?_ ?_ ?_ ?_
 exact jH
 exact hr.mono (by decide)
 exact T.ur
 exact T.qe.kp
 exact T.uq
 exact jf hx
 exact lK
 exact sO
 refine aT ?_ ?_ ?_
 refine ah 3 ?_ ?_ ?_
 exact (Or.inl g6)
 exact uE
 exact rfl
 decide +kernel
 exact ak
 decide +kernel
 refine jx ?_
 exact aA
 exact jw
 refine iI fun cl C pins s0 H0 fp E1 EU hx => ?_
 refine bI ?_ ?_
 refine ah 3 ?_ ?_ ?_
 exact (fJ jD pQ)
 exact gy
 exact rfl
 refine ah 0 ?_ ?_ ?_
 exact (gX jD (by simp))
 exact BY
 exact rfl
 decide +kernel
theorem GP : gB JF ["_law_script"] (aa eT) := ⟨rfl, rfl, rfl, by decide +kernel, rfl, by decide +kernel, by decide +kernel⟩
theorem Ly (T : Txt K mg t) (vH : cY P w K mg base (gc P w) 5 (t.f 3) (t.d 3) ["tree", "go", "place"] (cU K mg 3 lQ)) (nT : cY P w K mg base (gc P w) 2 (t.f 8) (t.d 8) ["_law_script", "_law_start"] (cU K mg 2 gD)) (qA : cY P w K mg base (gc P w) 2 (t.f 9) (t.d 9) ["_law_cell"] (cU K mg 1 kR)) (rL : cY P w K mg base (gc P w) 2 (t.f 10) (t.d 10) ["_law_cells_here", "_law_names_here", "_law_most_here"] (cU K mg 3 mH)) (nU : cY P w K mg base (gc P w) 1 (t.f 11) (t.d 11) ["_law_rows_here"] (cU K mg 1 jA)) (qB : cY P w K mg base (gc P w) 1 (t.f 12) (t.d 12) ["_law_rows_here"] (cU K mg 1 kP)) (tN : cY P w K mg base (gc P w) 1 (t.f 13) (t.d 13) ["_law_spots_here", "_law_go", "_law_place"] (cU K mg 3 jn)) (rM : cY P w K mg base (gc P w) 2 (t.f 14) (t.d 14) ["_law_script", "_law_most_here"] (cU K mg 2 mK)) (rN : cY P w K mg base (gc P w) 5 (t.f 3) (t.d 3) ["tree", "go", "place"] (cU K mg 3 jo)) : cY P w K mg base (gc P w) 6 (t.f 15) (t.d 15) ["_law_script"] (cU K mg 1 GN) := by
 refine cY.imp (sp := cU K mg 1 (fun ds => iG 12 DX ds)) ?_ iC
 refine A4 (k := 5) (ms := DX) T.Nl GP (by decide) (by decide) (fun _ => rfl) ?_
 intro X EE cdv A outer s H E hX hr hx uR
 subst hX
 have hu := gR hr
 have nd := GP.nd
 have hfr : iR (nu (gc P w) P w K mg base JF "law" (aa eT) (t.f 15) cdv A outer s H E) := ⟨_, outer, s.heap.objs.size, rfl, rfl, rfl⟩
 refine au ?_ ?_
 refine cg (i := 1) ?_ ?_ ?_ ?_ ?_ ?_
 exact nd
 exact (Or.inl lB)
 refine bY (CX := gc P w) (k := yx) (f := (t.f 9)) (fd := (t.d 9)) (ps := ["_law_cell"]) ?_ ?_ ?_ ?_ ?_ ?_ ?_ ?_ ?_ ?_
 exact qA
 exact hr.mono (by decide)
 exact T.AB
 exact T.uw.kp
 exact T.AA
 exact jf hx
 exact uN
 exact yy
 refine aT ?_ ?_ ?_
 refine Gy ?_ ?_ ?_ ?_ ?_
 exact rfl
 exact T.JG
 exact De
 refine aT ?_ ?_ ?_
 refine dw ?_
 refine iF ?_ ?_ ?_
 refine ah 0 ?_ ?_ ?_
 exact (Or.inl fG)
 exact eF
 exact rfl
 exact jw
 refine jx ?_
 exact aA
 decide +kernel
 exact ak
 decide +kernel
 decide +kernel
 exact ak
 decide +kernel
 exact Or.inl rfl
 exact rfl
 decide +kernel
 refine au ?_ ?_
 refine cg (i := 2) ?_ ?_ ?_ ?_ ?_ ?_
 exact nd
 exact (Or.inl gU)
 refine bY (CX := gc P w) (k := Au) (f := (t.f 10)) (fd := (t.d 10)) (ps := ["_law_cells_here", "_law_names_here", "_law_most_here"]) ?_ ?_ ?_ ?_ ?_ ?_ ?_ ?_ ?_ ?_
 exact rL
 exact hr.mono (by decide)
 exact T.BS
 exact T.vW.kp
 exact T.BR
 exact jf hx
 exact vE
 exact AJ
 refine aT ?_ ?_ ?_
 refine dw ?_
 refine bI ?_ ?_
 refine bY (CX := gc P w) (k := sH) (f := (t.f 8)) (fd := (t.d 8)) (ps := ["_law_script", "_law_start"]) ?_ ?_ ?_ ?_ ?_ ?_ ?_ ?_ ?_ ?_
 exact nT
 exact hr.mono (by decide)
 exact T.uv
 exact T.qf.kp
 exact T.uu
 exact jf hx
 exact o8
 exact sL
 refine aT ?_ ?_ ?_
 refine ah 0 ?_ ?_ ?_
 exact (Or.inl fG)
 exact eF
 exact rfl
 decide +kernel
 refine pI ?_
 exact ak
 decide +kernel
 refine bY (CX := gc P w) (k := sH) (f := (t.f 8)) (fd := (t.d 8)) (ps := ["_law_script", "_law_start"]) ?_ ?_ ?_ ?_ ?_ ?_ ?_ ?_ ?_ ?_
 exact nT
 exact hr.mono (by decide)
 exact T.uv
 exact T.qf.kp
 exact T.uu
 exact jf hx
 exact o8
 exact sL
 refine aT ?_ ?_ ?_
 refine ah 0 ?_ ?_ ?_
 exact (Or.inl fG)
 exact eF
 exact rfl
 decide +kernel
 refine pI ?_
 exact ak
 decide +kernel
 decide +kernel
 refine aT ?_ ?_ ?_
 refine ah 1 ?_ ?_ ?_
 exact (Or.inl lB)
 exact gQ
 exact rfl
 decide +kernel
 refine aT ?_ ?_ ?_
 refine bY (CX := gc P w) (k := Av) (f := (t.f 14)) (fd := (t.d 14)) (ps := ["_law_script", "_law_most_here"]) ?_ ?_ ?_ ?_ ?_ ?_ ?_ ?_ ?_ ?_
 exact rM
 exact hr.mono (by decide)
 exact T.BV
 exact T.vX.kp
 exact T.BU
 exact jf hx
 exact vD
 exact AI
 refine aT ?_ ?_ ?_
 refine ah 0 ?_ ?_ ?_
 exact (Or.inl fG)
 exact eF
 exact rfl
 decide +kernel
 refine pI ?_
 exact ak
 decide +kernel
 decide +kernel
 exact ak
 decide +kernel
 exact Or.inl rfl
 exact rfl
 decide +kernel
 refine au ?_ ?_
 refine cg (i := 3) ?_ ?_ ?_ ?_ ?_ ?_
 exact nd
 exact (Or.inl jG)
 refine cA ?_ ?_ ?_
 refine bY (CX := gc P w) (k := sG) (f := (t.f 11)) (fd := (t.d 11)) (ps := ["_law_rows_here"]) ?_ ?_ ?_ ?_ ?_ ?_ ?_ ?_ ?_ ?_
 exact nU
 exact hr.mono (by decide)
 exact T.uy
 exact T.qg.kp
 exact T.ux
 exact jf hx
 exact o9
 exact sN
 refine aT ?_ ?_ ?_
 refine ah 2 ?_ ?_ ?_
 exact (Or.inl gU)
 exact cL
 exact rfl
 decide +kernel
 exact ak
 decide +kernel
 exact aA
 decide +kernel
 exact Or.inl rfl
 exact rfl
 decide +kernel
 refine au ?_ ?_
 refine cg (i := 4) ?_ ?_ ?_ ?_ ?_ ?_
 exact nd
 exact (Or.inl gF)
 refine bY (CX := gc P w) (k := yu) (f := (t.f 12)) (fd := (t.d 12)) (ps := ["_law_rows_here"]) ?_ ?_ ?_ ?_ ?_ ?_ ?_ ?_ ?_ ?_
 exact qB
 exact hr.mono (by decide)
 exact T.AE
 exact T.uz.kp
 exact T.AD
 exact jf hx
 exact uO
 exact yC
 refine aT ?_ ?_ ?_
 refine ah 2 ?_ ?_ ?_
 exact (Or.inl gU)
 exact cL
 exact rfl
 decide +kernel
 exact ak
 decide +kernel
 exact Or.inl rfl
 exact rfl
 decide +kernel
 refine au ?_ ?_
 refine cg (i := 5) ?_ ?_ ?_ ?_ ?_ ?_
 exact nd
 exact (Or.inl oz)
 refine bI ?_ ?_
 exact aA
 refine wK ?_ ?_
 refine jQ ?_ ?_ ?_ ?_
 exact T.nj
 exact xU
 refine aT ?_ ?_ ?_
 refine ah 4 ?_ ?_ ?_
 exact (Or.inl gF)
 exact cj
 exact rfl
 decide +kernel
 exact ak
 decide +kernel
 exact aA
 exact Or.inl rfl
 exact rfl
 decide +kernel
 refine au ?_ ?_
 refine cg (i := 6) ?_ ?_ ?_ ?_ ?_ ?_
 exact nd
 exact (Or.inl lU)
 exact aA
 exact Or.inl rfl
 exact rfl
 decide +kernel
 refine au ?_ ?_
 refine jI ?_ ?_ ?_
 refine eN ?_ ?_ ?_ ?_
 exact tw
 refine jQ ?_ ?_ ?_ ?_
 exact T.nj
 exact xU
 refine aT ?_ ?_ ?_
 refine ah 0 ?_ ?_ ?_
 exact (Or.inl fG)
 exact eF
 exact rfl
 decide +kernel
 exact ak
 decide +kernel
 exact aA
 decide +kernel
 refine aJ ?_
 refine cg (i := 6) ?_ ?_ ?_ ?_ ?_ ?_
 exact nd
 exact (Or.inl lU)
 refine iw ?_ ?_
 refine cA ?_ ?_ ?_
 refine ah 0 ?_ ?_ ?_
 exact (Or.inl fG)
 exact eF
 exact rfl
 exact aA
 decide +kernel
 refine ah 5 ?_ ?_ ?_
 exact (Or.inl oz)
 exact xS
 exact rfl
 exact Or.inl rfl
 exact rfl
 decide +kernel
 exact fH
 refine au ?_ ?_
 refine DL ?_ ?_ ?_ ?_ ?_ ?_
 exact uR
 exact rfl
 refine BO ?_ ?_ ?_ ?_
 exact T.vY
 exact vF
 refine aT ?_ ?_ ?_
 refine ah 4 ?_ ?_ ?_
 exact (Or.inl gF)
 exact cj
 exact rfl
 decide +kernel
 exact ak
 decide +kernel
 refine An (i := 7) (j := 8) ?_ ?_ ?_ ?_ ?_ ?_ ?_ ?_
 exact rfl
 exact nd
 exact (Or.inl pD)
 exact (Or.inl ig)
 exact Or.inl rfl
 exact Or.inl rfl
 exact rfl
 exact rfl
 refine aJ ?_
 refine jI ?_ ?_ ?_
 refine FY ?_
 refine Jv ?_ ?_
 refine eN ?_ ?_ ?_ ?_
 exact (iE hu)
 refine ah 7 ?_ ?_ ?_
 exact (Or.inl pD)
 exact iN
 exact rfl
 exact aA
 decide +kernel
 refine FW ?_
 refine eN ?_ ?_ ?_ ?_
 exact (iE hu)
 refine iw ?_ ?_
 refine ah 7 ?_ ?_ ?_
 exact (Or.inl pD)
 exact iN
 exact rfl
 refine ah 5 ?_ ?_ ?_
 exact (Or.inl oz)
 exact xS
 exact rfl
 refine ah 6 ?_ ?_ ?_
 exact (Or.inl lU)
 exact AK
 exact rfl
 decide +kernel
 refine aJ ?_
 refine Al ?_ ?_ ?_ ?_ ?_ ?_
 exact uR
 exact rfl
 refine dw ?_
 refine kj ?_
 refine tE ?_
 refine tE ?_
 refine tE ?_
 exact ak
 refine oV (i := 9) ?_ ?_ ?_ ?_
 exact nd
 exact (Or.inl lA)
 exact Or.inl rfl
 exact rfl
 refine au ?_ ?_
 refine cg (i := 10) ?_ ?_ ?_ ?_ ?_ ?_
 exact nd
 exact (Or.inl jt)
 refine bY (CX := gc P w) (k := BQ) (f := (t.f 13)) (fd := (t.d 13)) (ps := ["_law_spots_here", "_law_go", "_law_place"]) ?_ ?_ ?_ ?_ ?_ ?_ ?_ ?_ ?_ ?_
 exact tN
 exact hr.mono (by decide)
 exact T.C9
 exact T.xR.kp
 exact T.C8
 exact jf hx
 exact wC
 exact BW
 refine aT ?_ ?_ ?_
 refine ah 4 ?_ ?_ ?_
 exact (Or.inl gF)
 exact cj
 exact rfl
 decide +kernel
 refine aT ?_ ?_ ?_
 refine ah 9 ?_ ?_ ?_
 exact (Or.inl lA)
 exact oi
 exact rfl
 decide +kernel
 refine aT ?_ ?_ ?_
 refine ah 8 ?_ ?_ ?_
 exact (Or.inl ig)
 exact eY
 exact rfl
 decide +kernel
 exact ak
 decide +kernel
 exact Or.inl rfl
 exact rfl
 decide +kernel
 refine au ?_ ?_
 refine cg (i := 11) ?_ ?_ ?_ ?_ ?_ ?_
 exact nd
 exact (Or.inl jF)
 refine bY (CX := gc P w) (k := Aw) (f := (t.f 3)) (fd := (t.d 3)) (ps := ["tree", "go", "place"]) ?_ ?_ ?_ ?_ ?_ ?_ ?_ ?_ ?_ ?_
 exact rN
 exact hr.mono (by decide)
 exact T.zy
 exact T.r9.kp
 exact T.zx
 exact jf hx
 exact rJ
 exact xT
 refine aT ?_ ?_ ?_
 refine ah 3 ?_ ?_ ?_
 exact (Or.inl jG)
 exact kX
 exact rfl
 decide +kernel
 refine aT ?_ ?_ ?_
 refine ah 9 ?_ ?_ ?_
 exact (Or.inl lA)
 exact oi
 exact rfl
 decide +kernel
 refine aT ?_ ?_ ?_
 refine ah 8 ?_ ?_ ?_
 exact (Or.inl ig)
 exact eY
 exact rfl
 decide +kernel
 exact ak
 decide +kernel
 exact Or.inl rfl
 exact rfl
 decide +kernel
 refine au ?_ ?_
 refine jI ?_ ?_ ?_
 refine FY ?_
 refine Jv ?_ ?_
 refine KU ?_
 refine Lh ?_ ?_
 refine Li .lst ?_ ?_ ?_ ?_ ?_ ?_ ?_ ?_ ?_ ?_
 decide
 exact T.AF
 exact T.Dc
 exact uP
 exact B0
 refine ah 11 ?_ ?_ ?_
 exact (Or.inl jF)
 exact qj
 exact rfl
 exact IT
 exact IU
 exact IS.1
 decide +kernel
 decide +kernel
 refine FW ?_
 refine eN ?_ ?_ ?_ ?_
 exact (FP hu)
 refine ah 11 ?_ ?_ ?_
 exact (Or.inl jF)
 exact qj
 exact rfl
 refine ah 10 ?_ ?_ ?_
 exact (Or.inl jt)
 exact pN
 exact rfl
 decide +kernel
 refine aJ ?_
 refine eE ?_
 exact Js
 exact fH
 refine au ?_ ?_
 refine oU ?_ ?_
 refine lO ?_ ?_ ?_ ?_ ?_
 refine ah 11 ?_ ?_ ?_
 exact (Or.inl jF)
 exact qj
 exact rfl
 refine aT ?_ ?_ ?_
 refine ah 8 ?_ ?_ ?_
 exact (Or.inl ig)
 exact eY
 exact rfl
 decide +kernel
 exact ak
 decide +kernel
 decide +kernel
 exact rfl
 decide +kernel
 refine aJ ?_
 refine jI ?_ ?_ ?_
 refine eN ?_ ?_ ?_ ?_
 exact (FP hu)
 refine bY (CX := gc P w) (k := C7) (f := (t.f 3)) (fd := (t.d 3)) (ps := ["tree", "go", "place"]) ?_ ?_ ?_ ?_ ?_ ?_ ?_ ?_ ?_ ?_
 exact vH
 exact hr.mono (by decide)
 exact T.zy
 exact T.r9.kp
 exact T.zx
 exact jf hx
 exact rJ
 exact xT
 refine aT ?_ ?_ ?_
 refine ah 3 ?_ ?_ ?_
 exact (Or.inl jG)
 exact kX
 exact rfl
 decide +kernel
 refine aT ?_ ?_ ?_
 refine ah 9 ?_ ?_ ?_
 exact (Or.inl lA)
 exact oi
 exact rfl
 decide +kernel
 refine aT ?_ ?_ ?_
 refine ah 8 ?_ ?_ ?_
 exact (Or.inl ig)
 exact eY
 exact rfl
 decide +kernel
 exact ak
 decide +kernel
 refine ah 10 ?_ ?_ ?_
 exact (Or.inl jt)
 exact pN
 exact rfl
 decide +kernel
 refine aJ ?_
 refine eE ?_
 exact Js
 exact fH
 decide +kernel
 exact fH
 decide +kernel
 refine aJ ?_
 refine eE ?_
 refine Jt ?_ ?_ ?_
 exact hu
 refine ah 3 ?_ ?_ ?_
 exact (Or.inl jG)
 exact kX
 exact rfl
 refine cA ?_ ?_ ?_
 refine bY (CX := gc P w) (k := sG) (f := (t.f 11)) (fd := (t.d 11)) (ps := ["_law_rows_here"]) ?_ ?_ ?_ ?_ ?_ ?_ ?_ ?_ ?_ ?_
 exact nU
 exact hr.mono (by decide)
 exact T.uy
 exact T.qg.kp
 exact T.ux
 exact jf hx
 exact o9
 exact sN
 refine aT ?_ ?_ ?_
 refine ah 2 ?_ ?_ ?_
 exact (Or.inl gU)
 exact cL
 exact rfl
 decide +kernel
 exact ak
 decide +kernel
 exact aA
 decide +kernel
end
theorem Dh {p : List Value → Prop} (h : ∀ a0, p [a0]) : ∀ us : List Value, us.length = 1 → p us := fun us e => by
  rcases us with _ | ⟨a0, us⟩
  · cases e
  rcases us with _ | ⟨z, us⟩
  · exact h a0
  · cases e
theorem EV {p : List Value → Prop} (h : ∀ a0 a1, p [a0, a1]) : ∀ us : List Value, us.length = 2 → p us := fun us e => by
  rcases us with _ | ⟨a0, us⟩
  · cases e
  rcases us with _ | ⟨a1, us⟩
  · cases e
  rcases us with _ | ⟨z, us⟩
  · exact h a0 a1
  · cases e
theorem Lz {p : List Value → Prop} (h : ∀ a0 a1 a2, p [a0, a1, a2]) : ∀ us : List Value, us.length = 3 → p us := fun us e => by
  rcases us with _ | ⟨a0, us⟩
  · cases e
  rcases us with _ | ⟨a1, us⟩
  · cases e
  rcases us with _ | ⟨a2, us⟩
  · cases e
  rcases us with _ | ⟨z, us⟩
  · exact h a0 a1 a2
  · cases e
theorem LA {K : PySem.W.Frag} {h : Heap} {mg : Str → Option Value} (X : K.In h) (G : h.Ns mainGlobals mg) {f0 : Addr} {TR P0 : Option Addr} {TU : Array (Option Value)} {TV P1 P4 P5 Ov P6 : Value} (a0 : PySem.W.nsIn K mainGlobals "all_within" = some (some (.ref f0))) (l0 : K.lookup f0 = some ⟨TV, TR, .func (PySem.W.fnOf "all_within" "all_within" (bL bf) (bG bf) (aa bf) .none P1 P4 P5 P0 Ov P6), TU⟩) (c0 : PySem.W.codeIn K Ov "all_within" = true) (k0 : PySem.W.keepIn K (.ref f0) = true) {f1 : Addr} {TX Rr : Option Addr} {TY : Array (Option Value)} {TZ Rt Ru Rv P7 Rw : Value} (a1 : PySem.W.nsIn K mainGlobals "all_places" = some (some (.ref f1))) (l1 : K.lookup f1 = some ⟨TZ, TX, .func (PySem.W.fnOf "all_places" "all_places" (bL dN) (bG dN) (aa dN) .none Rt Ru Rv Rr P7 Rw), TY⟩) (c1 : PySem.W.codeIn K P7 "all_places" = true) (k1 : PySem.W.keepIn K (.ref f1) = true) {f2 : Addr} {T3 Rx : Option Addr} {sl2 : Array (Option Value)} {T4 Ry Rz RA P8 RB : Value} (a2 : PySem.W.nsIn K mainGlobals "tree_at" = some (some (.ref f2))) (l2 : K.lookup f2 = some ⟨T4, T3, .func (PySem.W.fnOf "tree_at" "tree_at" (bL gI) (bG gI) (aa gI) .none Ry Rz RA Rx P8 RB), sl2⟩) (c2 : PySem.W.codeIn K P8 "tree_at" = true) (k2 : PySem.W.keepIn K (.ref f2) = true) {f3 : Addr} {T5 RD : Option Addr} {T6 : Array (Option Value)} {T7 RG RH RI P9 RJ : Value} (a3 : PySem.W.nsIn K mainGlobals "gone_to" = some (some (.ref f3))) (l3 : K.lookup f3 = some ⟨T7, T5, .func (PySem.W.fnOf "gone_to" "gone_to" (bL cy) (bG cy) (aa cy) .none RG RH RI RD P9 RJ), T6⟩) (c3 : PySem.W.codeIn K P9 "gone_to" = true) (k3 : PySem.W.keepIn K (.ref f3) = true) {f4 : Addr} {T8 RK : Option Addr} {T9 : Array (Option Value)} {Ua RL RM RN Qa RO : Value} (a4 : PySem.W.nsIn K mainGlobals "later_brothers" = some (some (.ref f4))) (l4 : K.lookup f4 = some ⟨Ua, T8, .func (PySem.W.fnOf "later_brothers" "later_brothers" (bL aF) (bG aF) (aa aF) .none RL RM RN RK Qa RO), T9⟩) (c4 : PySem.W.codeIn K Qa "later_brothers" = true) (k4 : PySem.W.keepIn K (.ref f4) = true) {f5 : Addr} {Ub RP : Option Addr} {Uc : Array (Option Value)} {Ud RQ RS RT Qc RU : Value} (a5 : PySem.W.nsIn K mainGlobals "placed_trees" = some (some (.ref f5))) (l5 : K.lookup f5 = some ⟨Ud, Ub, .func (PySem.W.fnOf "placed_trees" "placed_trees" (bL cI) (bG cI) (aa cI) .none RQ RS RT RP Qc RU), Uc⟩) (c5 : PySem.W.codeIn K Qc "placed_trees" = true) (k5 : PySem.W.keepIn K (.ref f5) = true) {f6 : Addr} {Ue RV : Option Addr} {Ug : Array (Option Value)} {Uh RX RY RZ Qd R0 : Value} (a6 : PySem.W.nsIn K mainGlobals "placed_parts" = some (some (.ref f6))) (l6 : K.lookup f6 = some ⟨Uh, Ue, .func (PySem.W.fnOf "placed_parts" "placed_parts" (bL cJ) (bG cJ) (aa cJ) .none RX RY RZ RV Qd R0), Ug⟩) (c6 : PySem.W.codeIn K Qd "placed_parts" = true) (k6 : PySem.W.keepIn K (.ref f6) = true) {f7 : Addr} {Ui R1 : Option Addr} {Uj : Array (Option Value)} {Uk R3 R4 R5 Qe R6 : Value} (a7 : PySem.W.nsIn K mainGlobals "_law_mix" = some (some (.ref f7))) (l7 : K.lookup f7 = some ⟨Uk, Ui, .func (PySem.W.fnOf "_law_mix" "_law_mix" (bL d7) (bG d7) (aa d7) .none R3 R4 R5 R1 Qe R6), Uj⟩) (c7 : PySem.W.codeIn K Qe "_law_mix" = true) (k7 : PySem.W.keepIn K (.ref f7) = true) {f8 : Addr} {Ul R7 : Option Addr} {Um : Array (Option Value)} {Uo R8 R9 Sa Qf Sb : Value} (a8 : PySem.W.nsIn K mainGlobals "_law_cells" = some (some (.ref f8))) (l8 : K.lookup f8 = some ⟨Uo, Ul, .func (PySem.W.fnOf "_law_cells" "_law_cells" (bL bS) (bG bS) (aa bS) .none R8 R9 Sa R7 Qf Sb), Um⟩) (c8 : PySem.W.codeIn K Qf "_law_cells" = true) (k8 : PySem.W.keepIn K (.ref f8) = true) {f9 : Addr} {Up Sd : Option Addr} {Uq : Array (Option Value)} {Ur Se Sf Sg Qg Sh : Value} (a9 : PySem.W.nsIn K mainGlobals "_law_names" = some (some (.ref f9))) (l9 : K.lookup f9 = some ⟨Ur, Up, .func (PySem.W.fnOf "_law_names" "_law_names" (bL aY) (bG aY) (aa aY) .none Se Sf Sg Sd Qg Sh), Uq⟩) (c9 : PySem.W.codeIn K Qg "_law_names" = true) (k9 : PySem.W.keepIn K (.ref f9) = true) {Ow : Addr} {Qh Np : Option Addr} {Qi : Array (Option Value)} {Qj Nq Nr Nt LB Nu : Value} (yK : PySem.W.nsIn K mainGlobals "_law_rows" = some (some (.ref Ow))) (Us : K.lookup Ow = some ⟨Qj, Qh, .func (PySem.W.fnOf "_law_rows" "_law_rows" (bL bN) (bG bN) (aa bN) .none Nq Nr Nt Np LB Nu), Qi⟩) (Nv : PySem.W.codeIn K LB "_law_rows" = true) (Ut : PySem.W.keepIn K (.ref Ow) = true) {Ox : Addr} {Qk Nx : Option Addr} {Ql : Array (Option Value)} {Qm Ny Nz NB LC NC : Value} (yL : PySem.W.nsIn K mainGlobals "_law_trees" = some (some (.ref Ox))) (Uu : K.lookup Ox = some ⟨Qm, Qk, .func (PySem.W.fnOf "_law_trees" "_law_trees" (bL bE) (bG bE) (aa bE) .none Ny Nz NB Nx LC NC), Ql⟩) (ND : PySem.W.codeIn K LC "_law_trees" = true) (Uv : PySem.W.keepIn K (.ref Ox) = true) {Iu : Addr} {Qn NF : Option Addr} {Qo : Array (Option Value)} {Qp NG NH NI LD NJ : Value} (Uw : PySem.W.nsIn K mainGlobals "_law_spots" = some (some (.ref Iu))) (Ux : K.lookup Iu = some ⟨Qp, Qn, .func (PySem.W.fnOf "_law_spots" "_law_spots" (bL cG) (bG cG) (aa cG) .none NG NH NI NF LD NJ), Qo⟩) (c12 : PySem.W.codeIn K LD "_law_spots" = true) (Uy : PySem.W.keepIn K (.ref Iu) = true) {Oz : Addr} {Qq NK : Option Addr} {Qs : Array (Option Value)} {Qt NL NN NO LF NP : Value} (Uz : PySem.W.nsIn K mainGlobals "_law_due" = some (some (.ref Oz))) (UA : K.lookup Oz = some ⟨Qt, Qq, .func (PySem.W.fnOf "_law_due" "_law_due" (bL cX) (bG cX) (aa cX) .none NL NN NO NK LF NP), Qs⟩) (UB : PySem.W.codeIn K LF "_law_due" = true) (UC : PySem.W.keepIn K (.ref Oz) = true) {OA : Addr} {Qu NQ : Option Addr} {Qv : Array (Option Value)} {Qw NR NS NT LG NU : Value} (UD : PySem.W.nsIn K mainGlobals "_law_most" = some (some (.ref OA))) (UE : K.lookup OA = some ⟨Qw, Qu, .func (PySem.W.fnOf "_law_most" "_law_most" (bL dJ) (bG dJ) (aa dJ) .none NR NS NT NQ LG NU), Qv⟩) (UG : PySem.W.codeIn K LG "_law_most" = true) (UH : PySem.W.keepIn K (.ref OA) = true) {OB : Addr} {Qx NV : Option Addr} {Qy : Array (Option Value)} {Qz NW NX NY LH NZ : Value} (UI : PySem.W.nsIn K mainGlobals "law" = some (some (.ref OB))) (UJ : K.lookup OB = some ⟨Qz, Qx, .func (PySem.W.fnOf "law" "law" (bL eT) (bG eT) (aa eT) .none NW NX NY NV LH NZ), Qy⟩) (UK : PySem.W.codeIn K LH "law" = true) (UL : PySem.W.keepIn K (.ref OB) = true) (z0 : PySem.W.nsIn K mainGlobals "enumerate" = some none) (z1 : PySem.W.nsIn K mainGlobals "int" = some none) (z2 : PySem.W.nsIn K mainGlobals "isinstance" = some none) (z3 : PySem.W.nsIn K mainGlobals "len" = some none) (z4 : PySem.W.nsIn K mainGlobals "list" = some none) (z5 : PySem.W.nsIn K mainGlobals "min" = some none) (z6 : PySem.W.nsIn K mainGlobals "range" = some none) (z7 : PySem.W.nsIn K mainGlobals "reversed" = some none) (z8 : PySem.W.nsIn K mainGlobals "sum" = some none) (z9 : PySem.W.nsIn K mainGlobals "tuple" = some none) : ∃ t, Txt K mg t ∧ ∃ kV dc pm an cd ct, (t.d 15) = PySem.W.fnOf "law" "law" (bL eT) (bG eT) (aa eT) .none kV dc pm an cd ct := by
  have F0 := jM (st := bf) l0 c0 k0
  have F1 := jM (st := dN) l1 c1 k1
  have F2 := jM (st := gI) l2 c2 k2
  have F3 := jM (st := cy) l3 c3 k3
  have F4 := jM (st := aF) l4 c4 k4
  have F5 := jM (st := cI) l5 c5 k5
  have F6 := jM (st := cJ) l6 c6 k6
  have F7 := jM (st := d7) l7 c7 k7
  have F8 := jM (st := bS) l8 c8 k8
  have F9 := jM (st := aY) l9 c9 k9
  have Si := jM (st := bN) Us Nv Ut
  have Sj := jM (st := bE) Uu ND Uv
  have Sk := jM (st := cG) Ux c12 Uy
  have Sl := jM (st := cX) UA UB UC
  have Sm := jM (st := dJ) UE UG UH
  have Sn := jM (st := eT) UJ UK UL
  exact ⟨⟨fun i => [f0, f1, f2, f3, f4, f5, f6, f7, f8, f9, Ow, Ox, Iu, Oz, OA, OB].getD i f0, fun i => [PySem.W.fnOf "all_within" "all_within" (bL bf) (bG bf) (aa bf) .none P1 P4 P5 P0 Ov P6, PySem.W.fnOf "all_places" "all_places" (bL dN) (bG dN) (aa dN) .none Rt Ru Rv Rr P7 Rw, PySem.W.fnOf "tree_at" "tree_at" (bL gI) (bG gI) (aa gI) .none Ry Rz RA Rx P8 RB, PySem.W.fnOf "gone_to" "gone_to" (bL cy) (bG cy) (aa cy) .none RG RH RI RD P9 RJ, PySem.W.fnOf "later_brothers" "later_brothers" (bL aF) (bG aF) (aa aF) .none RL RM RN RK Qa RO, PySem.W.fnOf "placed_trees" "placed_trees" (bL cI) (bG cI) (aa cI) .none RQ RS RT RP Qc RU, PySem.W.fnOf "placed_parts" "placed_parts" (bL cJ) (bG cJ) (aa cJ) .none RX RY RZ RV Qd R0, PySem.W.fnOf "_law_mix" "_law_mix" (bL d7) (bG d7) (aa d7) .none R3 R4 R5 R1 Qe R6, PySem.W.fnOf "_law_cells" "_law_cells" (bL bS) (bG bS) (aa bS) .none R8 R9 Sa R7 Qf Sb, PySem.W.fnOf "_law_names" "_law_names" (bL aY) (bG aY) (aa aY) .none Se Sf Sg Sd Qg Sh, PySem.W.fnOf "_law_rows" "_law_rows" (bL bN) (bG bN) (aa bN) .none Nq Nr Nt Np LB Nu, PySem.W.fnOf "_law_trees" "_law_trees" (bL bE) (bG bE) (aa bE) .none Ny Nz NB Nx LC NC, PySem.W.fnOf "_law_spots" "_law_spots" (bL cG) (bG cG) (aa cG) .none NG NH NI NF LD NJ, PySem.W.fnOf "_law_due" "_law_due" (bL cX) (bG cX) (aa cX) .none NL NN NO NK LF NP, PySem.W.fnOf "_law_most" "_law_most" (bL dJ) (bG dJ) (aa dJ) .none NR NS NT NQ LG NU, PySem.W.fnOf "law" "law" (bL eT) (bG eT) (aa eT) .none NW NX NY NV LH NZ].getD i (PySem.W.fnOf "all_within" "all_within" (bL bf) (bG bf) (aa bf) .none P1 P4 P5 P0 Ov P6), fun i => [].getD i 0⟩, ⟨F0, F0.binds (fun _ _ _ _ _ _ => EV fun _ _ => rfl), PySem.W.mg_of X G a0, F1, F1.binds (fun _ _ _ _ _ _ => Dh fun _ => rfl), PySem.W.mg_of X G a1, F2, F2.binds (fun _ _ _ _ _ _ => EV fun _ _ => rfl), PySem.W.mg_of X G a2, F3, F3.binds (fun _ _ _ _ _ _ => Lz fun _ _ _ => rfl), PySem.W.mg_of X G a3, F4, F4.binds (fun _ _ _ _ _ _ => EV fun _ _ => rfl), PySem.W.mg_of X G a4, F5, F5.binds (fun _ _ _ _ _ _ => Dh fun _ => rfl), PySem.W.mg_of X G a5, F6, F6.binds (fun _ _ _ _ _ _ => Dh fun _ => rfl), PySem.W.mg_of X G a6, F7, F7.binds (fun _ _ _ _ _ _ => EV fun _ _ => rfl), PySem.W.mg_of X G a7, F8, F8.binds (fun _ _ _ _ _ _ => EV fun _ _ => rfl), PySem.W.mg_of X G a8, F9, F9.binds (fun _ _ _ _ _ _ => Dh fun _ => rfl), PySem.W.mg_of X G a9, Si, Si.binds (fun _ _ _ _ _ _ => Lz fun _ _ _ => rfl), PySem.W.mg_of X G yK, Sj, Sj.binds (fun _ _ _ _ _ _ => Dh fun _ => rfl), PySem.W.mg_of X G yL, Sk, Sk.binds (fun _ _ _ _ _ _ => Dh fun _ => rfl), PySem.W.mg_of X G Uw, Sl, Sl.binds (fun _ _ _ _ _ _ => Lz fun _ _ _ => rfl), PySem.W.mg_of X G Uz, Sm, Sm.binds (fun _ _ _ _ _ _ => EV fun _ _ => rfl), PySem.W.mg_of X G UD, Sn, Sn.binds (fun _ _ _ _ _ _ => Dh fun _ => rfl), PySem.W.mg_of X G UI, PySem.W.mg_none_of X G z0, PySem.W.mg_none_of X G z1, PySem.W.mg_none_of X G z2, PySem.W.mg_none_of X G z3, PySem.W.mg_none_of X G z4, PySem.W.mg_none_of X G z5, PySem.W.mg_none_of X G z6, PySem.W.mg_none_of X G z7, PySem.W.mg_none_of X G z8, PySem.W.mg_none_of X G z9⟩, _, _, _, _, _, _, rfl⟩
section
variable {P : Program} {w : World} {K : PySem.W.Frag} {mg : Str → Option Value} {base : Heap} {t : PZ}
theorem LI (T : Txt K mg t) : cY P w K mg base (gc P w) 6 (t.f 15) (t.d 15) ["_law_script"] (cU K mg 1 GN) := by
  have g7 := Df (P := P) (w := w) (base := base) T
  have oB := wD (P := P) (w := w) (base := base) T
  have bX := B3 (P := P) (w := w) (base := base) T
  have nU := yE (P := P) (w := w) (base := base) T
  have qB := yF (P := P) (w := w) (base := base) T
  have tN := B4 (P := P) (w := w) (base := base) T
  have qx := yG (P := P) (w := w) (base := base) T oB
  have lV := uS (P := P) (w := w) (base := base) T g7
  have nT := yH (P := P) (w := w) (base := base) T bX
  have qA := yI (P := P) (w := w) (base := base) T bX
  have rL := AL (P := P) (w := w) (base := base) T bX
  have rM := AM (P := P) (w := w) (base := base) T bX
  have kB := sy (P := P) (w := w) (base := base) T g7
  have oE := wF (P := P) (w := w) (base := base) T qx
  have jH := yJ (P := P) (w := w) (base := base) T oE
  have vH := Dg (P := P) (w := w) (base := base) T jH g7 lV
  have rN := AN (P := P) (w := w) (base := base) T jH g7 kB
  have N1 := Ly (P := P) (w := w) (base := base) T vH nT qA rL nU qB tN rM rN
  exact N1
end
end K32
end
section
set_option Elab.async false
set_option linter.all false
set_option maxRecDepth 100000
set_option maxHeartbeats 1000000
namespace K32
open PySem PySem.Spec L2 L3
theorem B5 (c k : Int) (n4 : Option D) : ∀ (its : List D) (dg : Int) (j : Option D), 0 ≤ dg → ∃ (OC : Int) (j' : Option D), 0 ≤ OC ∧ ∀ G, fY (gN 3) oX its [some (.int c), some (.int k), some (.int dg), j, n4] G = .nx [some (.int c), some (.int k), some (.int OC), j', n4] G
  | [], dg, j, h => ⟨dg, j, h, fun G => by rw [Bx]⟩
  | x :: its, dg, j, h => by
    obtain ⟨OC, j', h', e⟩ := B5 c k n4 its (dg / 840) (some x) (by omega)
    refine ⟨OC, j', h', fun G => ?_⟩
    rw [iJ rfl]
    have e1 : oX [some (.int c), some (.int k), some (.int dg), some x, n4] G = .nx [some (.int c), some (.int k), some (.int (dg / 840)), some x, n4] G := by
      simp [aN, bR, dG, gg, gh, gi, gj, cH, gb, gC, jR, aU, bZ, jS, bO, fk, jT, bF, cV, jU, aV, cB, aE, jV, jW, aj, aK, dM, ay, cO, aP, aC, aB, aq, bM, aM, bu, ck, dm, bH, dH, aL, aX, gk, aQ, bw, cu, fy, jX, bP, aZ, bx, bJ, gm, cW, jY, eS, bz, bA, bB, cQ, cR, cC, bC, bK, gu, bh, fT, dR, gn, gp, gq, gr, dI, dU, dW, dX, gx, dY, dZ, bq, cD, cE, bD, cF, gw, iz, fD, aD, bT, cM, bW, av, cN, bU, aS, iS, iH, qM, Ty.is, oX]
    simp only [List.set_cons_succ, List.set_cons_zero, e1, dR]
    exact e G
theorem Di (c k : Int) (hk : 0 ≤ k ∧ k < 10000) : ∃ v : Int, 0 ≤ v ∧ ∀ G, aI [.int c, .int k] G = .ok (.int v) G := by
  obtain ⟨k0, k1⟩ := hk
  have hr := p5 (j := k % 46) (by omega) (by omega)
  have key : ∃ dg : Int, ∃ j, 0 ≤ dg ∧ ∀ G, (tT (j3 (aG Oo (ai 0) (aG Ia (eC (.int 10)) (eC (.int 9))))) (oY) (ia)) [some (.int c), some (.int k), some (.int 0), none, none] G = .nx [some (.int c), some (.int k), some (.int dg), j, none] G := by
    by_cases hc : (1000000000 : Int) ≤ c
    · obtain ⟨dg, j, h, e⟩ := B5 c k none ((List.range' 0 (k % 46).toNat).map fun (k : Nat) => .int (0 + (k : Int))) c none (by omega)
      refine ⟨dg, j, h, fun G => ?_⟩
      generalize ((List.range' 0 (k % 46).toNat).map fun (k : Nat) => D.int (0 + (k : Int))) = its at hr e
      simp [aN, bR, dG, gg, gh, gi, gj, cH, gb, gC, jR, aU, bZ, jS, bO, fk, jT, bF, cV, jU, aV, cB, aE, jV, jW, aj, aK, dM, ay, cO, aP, aC, aB, aq, bM, aM, bu, ck, dm, bH, dH, aL, aX, gk, aQ, bw, cu, fy, jX, bP, aZ, bx, bJ, gm, cW, jY, eS, bz, bA, bB, cQ, cR, cC, bC, bK, gu, bh, fT, dR, gn, gp, gq, gr, dI, dU, dW, dX, gx, dY, dZ, bq, cD, cE, bD, cF, gw, iz, fD, aD, bT, cM, bW, av, cN, bU, aS, iS, iH, qM, Ty.is, hc, oY, hr, e]
    · refine ⟨0, none, by omega, fun G => ?_⟩
      simp [aN, bR, dG, gg, gh, gi, gj, cH, gb, gC, jR, aU, bZ, jS, bO, fk, jT, bF, cV, jU, aV, cB, aE, jV, jW, aj, aK, dM, ay, cO, aP, aC, aB, aq, bM, aM, bu, ck, dm, bH, dH, aL, aX, gk, aQ, bw, cu, fy, jX, bP, aZ, bx, bJ, gm, cW, jY, eS, bz, bA, bB, cQ, cR, cC, bC, bK, gu, bh, fT, dR, gn, gp, gq, gr, dI, dU, dW, dX, gx, dY, dZ, bq, cD, cE, bD, cF, gw, iz, fD, aD, bT, cM, bW, av, cN, bU, aS, iS, iH, qM, Ty.is, hc]
  obtain ⟨dg, j, hd, e⟩ := key
  generalize hS : tT (j3 (aG Oo (ai 0) (aG Ia (eC (.int 10)) (eC (.int 9))))) (oY) (ia) = S at e
  by_cases h0 : 0 < dg
  · refine ⟨dg % 840, by omega, fun G => ?_⟩
    refine fB ?_ eZ
    unfold n9
    rw [hS]
    simp [aN, bR, dG, gg, gh, gi, gj, cH, gb, gC, jR, aU, bZ, jS, bO, fk, jT, bF, cV, jU, aV, cB, aE, jV, jW, aj, aK, dM, ay, cO, aP, aC, aB, aq, bM, aM, bu, ck, dm, bH, dH, aL, aX, gk, aQ, bw, cu, fy, jX, bP, aZ, bx, bJ, gm, cW, jY, eS, bz, bA, bB, cQ, cR, cC, bC, bK, gu, bh, fT, dR, gn, gp, gq, gr, dI, dU, dW, dX, gx, dY, dZ, bq, cD, cE, bD, cF, gw, iz, fD, aD, bT, cM, bW, av, cN, bU, aS, iS, iH, qM, Ty.is, e, h0]
  · have p0 : 0 ≤ c % 1000000007 := by omega
    have p1 : c % 1000000007 < 1000000007 := by omega
    generalize hy : c % 1000000007 = y at p0 p1
    have a1 : -18446744073709551616 < y + 7919 * k + 13 := by omega
    have a2 : y + 7919 * k + 13 < 18446744073709551616 := by omega
    generalize hz : y + 7919 * k + 13 = z at a1 a2
    have b1 : 0 ≤ z * z % 998244353 := by omega
    have b2 : z * z % 998244353 < 998244353 := by omega
    have b3 : -18446744073709551616 < z * z % 998244353 := by omega
    have b4 : z * z % 998244353 < 18446744073709551616 := by omega
    generalize hu : z * z % 998244353 = u at b1 b2 b3 b4
    refine ⟨u * (u + 16807 * k + 1) % 1000000007 / 3, by omega, fun G => ?_⟩
    refine fB ?_ eZ
    unfold n9
    rw [hS]
    have h0' : dg ≤ 0 := by omega
    simp [aN, bR, dG, gg, gh, gi, gj, cH, gb, gC, jR, aU, bZ, jS, bO, fk, jT, bF, cV, jU, aV, cB, aE, jV, jW, aj, aK, dM, ay, cO, aP, aC, aB, aq, bM, aM, bu, ck, dm, bH, dH, aL, aX, gk, aQ, bw, cu, fy, jX, bP, aZ, bx, bJ, gm, cW, jY, eS, bz, bA, bB, cQ, cR, cC, bC, bK, gu, bh, fT, dR, gn, gp, gq, gr, dI, dU, dW, dX, gx, dY, dZ, bq, cD, cE, bD, cF, gw, iz, fD, aD, bT, cM, bW, av, cN, bU, aS, iS, iH, qM, Ty.is, e, h0, h0', hy, hz, hu, a1, a2, b3, b4]
noncomputable def mx (c k : Int) : Int := if h : 0 ≤ k ∧ k < 10000 then Classical.choose (Di c k h) else 0
theorem v7 (c k : Int) : 0 ≤ mx c k := by
  unfold mx
  split
  · rename_i h; exact (Classical.choose_spec (Di c k h)).1
  · omega
theorem lC (c k : Int) (h0 : 0 ≤ k) (h1 : k < 10000) (G : DH) : aI [.int c, .int k] G = .ok (.int (mx c k)) G := by
  have h : 0 ≤ k ∧ k < 10000 := ⟨h0, h1⟩
  unfold mx
  rw [dif_pos h]
  exact (Classical.choose_spec (Di c k h)).2 G
theorem QB (n : Nat) : HT.jL n n (some 1) = min 1 n := HT.tW n n 1
theorem xW : ∀ ns : List Int, intsOf (ns.map .int) = some ns
  | [] => rfl
  | n :: ns => by rw [List.map_cons, intsOf, xW ns]; rfl
theorem B6 (ns : List Int) (τ : DS) (G : DH) : ∃ c : Int, az Am (af (eFn (oH (ai 0) (dQ) (dF (eC (.int 1))))) (ao)) (some (.con (ns.map .int)) :: τ) G = .ok (.int c) G := by
  have z1 : (1 : Nat) ≤ sizeLine := lz (by omega)
  have e : cutD (ns.map D.int) none (some 1) = (ns.take 1).map .int := by
    unfold cutD
    rw [QB, HT.pF]
    cases ns <;> simp
  have hc : aW ((ns.take 1).map D.int) = true := aR fun _ => eZ
  have hz : ((ns.take 1).map D.int).length ≤ sizeLine := Nat.le_trans (by simp; omega) z1
  have e1 : eFn (oH (ai 0) (dQ) (dF (eC (.int 1)))) (some (.con (ns.map .int)) :: τ) G = .ok (.con ((ns.take 1).map .int)) G := by
    rw [gW]
    have e2 : oH (ai 0) (dQ) (dF (eC (.int 1))) (some (.con (ns.map .int)) :: τ) G = fu ((ns.take 1).map .int) G := by
      simp [aN, bR, dG, gg, gh, gi, gj, cH, gb, gC, jR, aU, bZ, jS, bO, fk, jT, bF, cV, jU, aV, cB, aE, jV, jW, aj, aK, dM, ay, cO, aP, aC, aB, aq, bM, aM, bu, ck, dm, bH, dH, aL, aX, gk, aQ, bw, cu, fy, jX, bP, aZ, bx, bJ, gm, cW, jY, eS, bz, bA, bB, cQ, cR, cC, bC, bK, gu, bh, fT, dR, gn, gp, gq, gr, dI, dU, dW, dX, gx, dY, dZ, bq, cD, cE, bD, cF, gw, iz, fD, aD, bT, cM, bW, av, cN, bU, aS, iS, iH, qM, Ty.is, DB, e]
    rw [e2, j9 hz hc]
  refine ⟨(ns.take 1).sum, ?_⟩
  simp [aN, bR, dG, gg, gh, gi, gj, cH, gb, gC, jR, aU, bZ, jS, bO, fk, jT, bF, cV, jU, aV, cB, aE, jV, jW, aj, aK, dM, ay, cO, aP, aC, aB, aq, bM, aM, bu, ck, dm, bH, dH, aL, aX, gk, aQ, bw, cu, fy, jX, bP, aZ, bx, bJ, gm, cW, jY, eS, bz, bA, bB, cQ, cR, cC, bC, bK, gu, bh, fT, dR, gn, gp, gq, gr, dI, dU, dW, dX, gx, dY, dZ, bq, cD, cE, bD, cF, gw, iz, fD, aD, bT, cM, bW, av, cN, bU, aS, iS, iH, qM, Ty.is, e1, Am, xW, ← List.map_take]
theorem IV (ns : List Int) (G : DH) : ∃ m : Int, 1 ≤ m ∧ m ≤ 100 ∧ mK [.con (ns.map .int), .int 60] G = .ok (.int m) G := by
  obtain ⟨c, e⟩ := B6 ns [some (.int 60), none] G
  generalize hS : az Am (af (eFn (oH (ai 0) (dQ) (dF (eC (.int 1))))) (ao)) = S at e
  have hm := lC c 44 (by omega) (by omega) G
  have hn := v7 c 44
  generalize mx c 44 = v at hm hn
  by_cases h : v % 4 = 1
  · refine ⟨1 + v / 4 % 6, by omega, by omega, fB ?_ eZ⟩
    unfold mJ
    rw [hS]
    simp [aN, bR, dG, gg, gh, gi, gj, cH, gb, gC, jR, aU, bZ, jS, bO, fk, jT, bF, cV, jU, aV, cB, aE, jV, jW, aj, aK, dM, ay, cO, aP, aC, aB, aq, bM, aM, bu, ck, dm, bH, dH, aL, aX, gk, aQ, bw, cu, fy, jX, bP, aZ, bx, bJ, gm, cW, jY, eS, bz, bA, bB, cQ, cR, cC, bC, bK, gu, bh, fT, dR, gn, gp, gq, gr, dI, dU, dW, dX, gx, dY, dZ, bq, cD, cE, bD, cF, gw, iz, fD, aD, bT, cM, bW, av, cN, bU, aS, iS, iH, qM, Ty.is, e, hm, iB, h]
  · refine ⟨60, by omega, by omega, fB ?_ eZ⟩
    unfold mJ
    rw [hS]
    have h' : (v % 4 == 1) = false := by simpa using h
    simp [aN, bR, dG, gg, gh, gi, gj, cH, gb, gC, jR, aU, bZ, jS, bO, fk, jT, bF, cV, jU, aV, cB, aE, jV, jW, aj, aK, dM, ay, cO, aP, aC, aB, aq, bM, aM, bu, ck, dm, bH, dH, aL, aX, gk, aQ, bw, cu, fy, jX, bP, aZ, bx, bJ, gm, cW, jY, eS, bz, bA, bB, cQ, cR, cC, bC, bK, gu, bh, fT, dR, gn, gp, gq, gr, dI, dU, dW, dX, gx, dY, dZ, bq, cD, cE, bD, cF, gw, iz, fD, aD, bT, cM, bW, av, cN, bU, aS, iS, iH, qM, Ty.is, e, hm, iB, h']
end K32
end
section
set_option Elab.async false
set_option linter.all false
set_option maxRecDepth 100000
set_option maxHeartbeats 1000000
namespace K32
open PySem PySem.Spec L2 L3
noncomputable def LX (ns : List Int) : D → D
  | .int j => .int (ns.getD j.toNat 0)
  | _ => .lG
noncomputable def N2 (n s : Int) : D → D
  | .int j => .int (mx n (40 + s + j))
  | _ => .lG
theorem AO (ns : List Int) (j : Nat) (h : j < ns.length) : tS (ns.map D.int) (j : Int) = some (.int (ns.getD j 0)) := by
  refine lW ?_
  rw [List.getElem?_map, List.getElem?_eq_getElem h]
  simp [h]
theorem B7 (ns : List Int) (hl : ns.length ≤ 63) (s : Nat) (hs : s ≤ 1) (G : DH) : ∃ xs : List Int, 6 ≤ xs.length ∧ xs.length ≤ 40 ∧ gD [.con (ns.map .int), .int s] G = .ok (.con (xs.map .int)) G := by
  have hN : ud (s : Int) (ns.length : Int) 2 ≤ 32 := by
    unfold ud
    split <;> omega
  have hI : ∀ i : Nat, i < ud (s : Int) (ns.length : Int) 2 → s + i * 2 < ns.length := by
    intro i hi
    unfold ud at hi
    split at hi <;> omega
  have h64 : ¬ ((64 : Int) < (ns.length : Int)) := by omega
  have QC : (ns.length : Int) ≤ 64 := by omega
  generalize UM : ud (s : Int) (ns.length : Int) 2 = N at hN hI
  have q1 : -1073741824 ≤ (s : Int) := by omega
  have q2 : (s : Int) < 1073741824 := by omega
  have q3 : -1073741824 ≤ (ns.length : Int) := by omega
  have q4 : (ns.length : Int) < 1073741824 := by omega
  have c1 := jz (τ := [some (D.con (ns.map D.int)), some (.int (s : Int)), none]) (G := G) (gO := oN) (ks := [true]) (te := aG fD (ai 1) (ai 0)) (own := fun x => [x]) (f := LX ns) ((List.range N).map fun (i : Nat) => D.int ((s : Int) + (i : Int) * 2)) [] (by simp; omega) (fun x _ => rfl) (fun x hx acc => by
    obtain ⟨i, hi, rfl⟩ := List.mem_map.mp hx
    have hi' := hI i (List.mem_range.mp hi)
    have ea := AO ns (s + i * 2) hi'
    rw [show ((s + i * 2 : Nat) : Int) = (s : Int) + (i : Int) * 2 by omega] at ea
    have et : ((s : Int) + (i : Int) * 2).toNat = s + i * 2 := by omega
    simp [aN, bR, dG, gg, gh, gi, gj, cH, gb, gC, jR, aU, bZ, jS, bO, fk, jT, bF, cV, jU, aV, cB, aE, jV, jW, aj, aK, dM, ay, cO, aP, aC, aB, aq, bM, aM, bu, ck, dm, bH, dH, aL, aX, gk, aQ, bw, cu, fy, jX, bP, aZ, bx, bJ, gm, cW, jY, eS, bz, bA, bB, cQ, cR, cC, bC, bK, gu, bh, fT, dR, gn, gp, gq, gr, dI, dU, dW, dX, gx, dY, dZ, bq, cD, cE, bD, cF, gw, iz, fD, aD, bT, cM, bW, av, cN, bU, aS, iS, iH, qM, Ty.is, mask, ea, LX, et])
  have e1 : eFn (nZ oN [true] (zq (af (ai 1) (af (az (cM fun i j => if j < i then j else i) (af (az bW (af (ai 0) (ao))) (af (eC (.int 64)) (ao)))) (af (eC (.int 2)) (ao))))) (jP) (aG fD (ai 1) (ai 0))) [some (D.con (ns.map D.int)), some (.int (s : Int)), none] G = .ok (.con (((List.range N).map fun (i : Nat) => D.int ((s : Int) + (i : Int) * 2)).map (LX ns))) G := by
    rw [gW]
    have e2 : nZ oN [true] (zq (af (ai 1) (af (az (cM fun i j => if j < i then j else i) (af (az bW (af (ai 0) (ao))) (af (eC (.int 64)) (ao)))) (af (eC (.int 2)) (ao))))) (jP) (aG fD (ai 1) (ai 0)) [some (D.con (ns.map D.int)), some (.int (s : Int)), none] G = .ok (.obj G.length) (G ++ [.lst (((List.range N).map fun (i : Nat) => D.int ((s : Int) + (i : Int) * 2)).map (LX ns))]) := by
      simp only [List.nil_append] at c1
      rw [← c1, ← GL]
      simp [aN, bR, dG, gg, gh, gi, gj, cH, gb, gC, jR, aU, bZ, jS, bO, fk, jT, bF, cV, jU, aV, cB, aE, jV, jW, aj, aK, dM, ay, cO, aP, aC, aB, aq, bM, aM, bu, ck, dm, bH, dH, aL, aX, gk, aQ, bw, cu, fy, jX, bP, aZ, bx, bJ, gm, cW, jY, eS, bz, bA, bB, cQ, cR, cC, bC, bK, gu, bh, fT, dR, gn, gp, gq, gr, dI, dU, dW, dX, gx, dY, dZ, bq, cD, cE, bD, cF, gw, iz, fD, aD, bT, cM, bW, av, cN, bU, aS, iS, iH, qM, Ty.is, ints3, h64, QC, q1, q2, q3, q4, UM]
    rw [e2, mV]
    rw [List.map_map]
    exact aR fun _ => eZ
  have UN : ((List.range N).map fun (i : Nat) => D.int ((s : Int) + (i : Int) * 2)).map (LX ns) = ((List.range N).map fun i => ns.getD (s + i * 2) 0).map .int := by
    rw [List.map_map, List.map_map]
    refine List.map_congr_left fun i _ => ?_
    have et : ((s : Int) + (i : Int) * 2).toNat = s + i * 2 := by omega
    simp only [Function.comp, LX, et]
  rw [UN] at e1
  generalize hX : (List.range N).map (fun i => ns.getD (s + i * 2) 0) = X at e1
  have Vh : X.length = N := by rw [← hX]; simp
  have hr : kJ [.int (6 - (X.length : Int))] = some ((List.range (6 - (X.length : Int)).toNat).map fun (k : Nat) => .int (0 + (k : Int))) := by
    show (if -(2 ^ 62) ≤ (6 - (X.length : Int)) ∧ (6 - (X.length : Int)) < 2 ^ 62 then some ((List.range (6 - (X.length : Int)).toNat).map fun (k : Nat) => D.int (0 + (k : Int))) else none) = _
    rw [if_pos ⟨by omega, by omega⟩]
  have c2 := jz (τ := [some (D.con (ns.map D.int)), some (.int (s : Int)), some (.con (X.map .int))]) (G := G) (gO := oN) (ks := [true, true]) (te := br 2 aI (af (az bW (af (ai 1) (ao))) (af (aG av (aG av (eC (.int 40)) (ai 2)) (ai 0)) (ao)))) (own := fun x => [x]) (f := N2 ns.length s) ((List.range (6 - (X.length : Int)).toNat).map fun (k : Nat) => D.int (0 + (k : Int))) [] (by simp; omega) (fun x _ => rfl) (fun x hx acc => by
    obtain ⟨i, hi, rfl⟩ := List.mem_map.mp hx
    have hi' := List.mem_range.mp hi
    have hm := lC ns.length (40 + s + (0 + (i : Int))) (by omega) (by omega) (G ++ [.lst acc])
    simp only [Int.zero_add] at hm
    simp [aN, bR, dG, gg, gh, gi, gj, cH, gb, gC, jR, aU, bZ, jS, bO, fk, jT, bF, cV, jU, aV, cB, aE, jV, jW, aj, aK, dM, ay, cO, aP, aC, aB, aq, bM, aM, bu, ck, dm, bH, dH, aL, aX, gk, aQ, bw, cu, fy, jX, bP, aZ, bx, bJ, gm, cW, jY, eS, bz, bA, bB, cQ, cR, cC, bC, bK, gu, bh, fT, dR, gn, gp, gq, gr, dI, dU, dW, dX, gx, dY, dZ, bq, cD, cE, bD, cF, gw, iz, fD, aD, bT, cM, bW, av, cN, bU, aS, iS, iH, qM, Ty.is, mask, N2, hm])
  generalize hL : (List.range (6 - (X.length : Int)).toNat).map (fun (k : Nat) => D.int (0 + (k : Int))) = L at hr c2
  have e3 : eFn (gK kJ oN [true, true] (af (aG wZ (eC (.int 6)) (az bW (af (ai 2) (ao)))) (ao)) (jP) (br 2 aI (af (az bW (af (ai 1) (ao))) (af (aG av (aG av (eC (.int 40)) (ai 2)) (ai 0)) (ao))))) [some (D.con (ns.map D.int)), some (.int (s : Int)), some (.con (X.map .int))] G = .ok (.con (L.map (N2 ns.length s))) G := by
    rw [gW]
    have e4 : gK kJ oN [true, true] (af (aG wZ (eC (.int 6)) (az bW (af (ai 2) (ao)))) (ao)) (jP) (br 2 aI (af (az bW (af (ai 1) (ao))) (af (aG av (aG av (eC (.int 40)) (ai 2)) (ai 0)) (ao)))) [some (D.con (ns.map D.int)), some (.int (s : Int)), some (.con (X.map .int))] G = .ok (.obj G.length) (G ++ [.lst (L.map (N2 ns.length s))]) := by
      simp only [List.nil_append] at c2
      rw [← c2]
      simp [aN, bR, dG, gg, gh, gi, gj, cH, gb, gC, jR, aU, bZ, jS, bO, fk, jT, bF, cV, jU, aV, cB, aE, jV, jW, aj, aK, dM, ay, cO, aP, aC, aB, aq, bM, aM, bu, ck, dm, bH, dH, aL, aX, gk, aQ, bw, cu, fy, jX, bP, aZ, bx, bJ, gm, cW, jY, eS, bz, bA, bB, cQ, cR, cC, bC, bK, gu, bh, fT, dR, gn, gp, gq, gr, dI, dU, dW, dX, gx, dY, dZ, bq, cD, cE, bD, cF, gw, iz, fD, aD, bT, cM, bW, av, cN, bU, aS, iS, iH, qM, Ty.is, hr]
    rw [e4, mV]
    rw [← hL, List.map_map]
    exact aR fun _ => eZ
  have UO : L.map (N2 ns.length s) = ((List.range (6 - (X.length : Int)).toNat).map fun (k : Nat) => mx ns.length (40 + s + (0 + (k : Int)))).map .int := by
    rw [← hL, List.map_map, List.map_map]; rfl
  rw [UO] at e3
  generalize hY : (List.range (6 - (X.length : Int)).toNat).map (fun (k : Nat) => mx ns.length (40 + s + (0 + (k : Int)))) = Y at e3
  have Vi : Y.length = (6 - (X.length : Int)).toNat := by rw [← hY]; simp
  refine ⟨X ++ Y, by simp; omega, by simp; omega, fB ?_ (by rw [cS]; exact aR fun _ => eZ)⟩
  have hz : (X.map D.int ++ Y.map D.int).length ≤ sizeLine := lz (by simp; omega)
  have hcl : aW (X.map D.int ++ Y.map D.int) = true := by rw [← List.map_append]; exact aR fun _ => eZ
  have e5 : eFn (aG av (ai 2) (eFn (gK kJ oN [true, true] (af (aG wZ (eC (.int 6)) (az bW (af (ai 2) (ao)))) (ao)) (jP) (br 2 aI (af (az bW (af (ai 1) (ao))) (af (aG av (aG av (eC (.int 40)) (ai 2)) (ai 0)) (ao))))))) [some (D.con (ns.map D.int)), some (.int (s : Int)), some (.con (X.map .int))] G = .ok (.con (X.map D.int ++ Y.map D.int)) G := by
    rw [gW, aP]
    have e6 : ai 2 [some (D.con (ns.map D.int)), some (.int (s : Int)), some (.con (X.map .int))] G = .ok (.con (X.map .int)) G := rfl
    rw [e6, aE, aj, e3, aE]
    show (fu _ G).fw G = _
    rw [j9 hz hcl]
  unfold nG
  rw [List.map_append]
  simp [aN, bR, dG, gg, gh, gi, gj, cH, gb, gC, jR, aU, bZ, jS, bO, fk, jT, bF, cV, jU, aV, cB, aE, jV, jW, aj, aK, dM, ay, cO, aP, aC, aB, aq, bM, aM, bu, ck, dm, bH, dH, aL, aX, gk, aQ, bw, cu, fy, jX, bP, aZ, bx, bJ, gm, cW, jY, eS, bz, bA, bB, cQ, cR, cC, bC, bK, gu, bh, fT, dR, gn, gp, gq, gr, dI, dU, dW, dX, gx, dY, dZ, bq, cD, cE, bD, cF, gw, iz, fD, aD, bT, cM, bW, av, cN, bU, aS, iS, iH, qM, Ty.is, e1, e5]
end K32
end
section
set_option Elab.async false
set_option linter.all false
set_option maxRecDepth 100000
set_option maxHeartbeats 1000000
namespace K32
open PySem PySem.Spec L2 L3
theorem GQ (x : Str) (l u : Option Int) (h : PyData.strOk x = true) : PyData.strOk (Txt.slice x l u) = true := by
  unfold Txt.slice
  split
  · exact h
  · unfold PyData.strOk at h ⊢
    simp only [List.all_toArray, List.all_eq_true, List.mem_filterMap] at h ⊢
    rintro c ⟨i, _, hi⟩
    have h2 := Array.all_eq_true'.mp h c (Array.mem_of_getElem? hi)
    exact h2
noncomputable abbrev lets : Str := "abcdefghijklmnopqrstuvwxyz"
theorem DZ (i : Int) (G : DH) : ∃ s, fD (.str lets) (.int (i % 26)) G = .ok (.str s) G ∧ PyData.strOk s = true ∧ s.length = 1 :=
  Lm lets (i % 26) G (by omega) (by show i % 26 < ((26 : Nat) : Int); omega) (by decide +kernel) (by decide +kernel)
theorem zA (c : Int) (G : DH) (a1 a4 a5 a6 a7 : Option D) : ∀ (m j : Nat) (t : Str) (a3 : Option D), j + m ≤ 100 → PyData.strOk t = true → t.length ≤ j + 1 →
    ∃ (u : Str) (b3 : Option D), PyData.strOk u = true ∧ u.length ≤ j + m + 1 ∧ fY (gN 3) lZ ((List.range' j m).map fun (k : Nat) => .int (0 + (k : Int))) [some (.int c), a1, some (.str t), a3, a4, a5, a6, a7] G = .nx [some (.int c), a1, some (.str u), b3, a4, a5, a6, a7] G
  | 0, j, t, a3, h, k1, k2 => ⟨t, a3, k1, by omega, by simp [fY]⟩
  | m + 1, j, t, a3, h, k1, k2 => by
    have hm := lC c (32 + (0 + (j : Int))) (by omega) (by omega) G
    obtain ⟨s, es, ks, ls⟩ := DZ (mx c (32 + (0 + (j : Int)))) G
    have hz : t.length + s.length ≤ sizeLine := lz (by omega)
    obtain ⟨u, b3, ku, lu, ih⟩ := zA c G a1 a4 a5 a6 a7 m (j + 1) (t ++ s) (some (.int (0 + (j : Int)))) (by omega) (good_add k1 ks) (by rw [Ao]; omega)
    refine ⟨u, b3, ku, by omega, ?_⟩
    rw [List.range'_succ, List.map_cons, iJ rfl]
    have e : lZ [some (.int c), a1, some (.str t), some (.int (0 + (j : Int))), a4, a5, a6, a7] G = .nx [some (.int c), a1, some (.str (t ++ s)), some (.int (0 + (j : Int))), a4, a5, a6, a7] G := by
      generalize (0 + (j : Int)) = jj at hm es
      unfold lZ
      simp only [aU, aP, ay, cO, aE, aj, aL, aq, aB, aK, List.getElem?_cons_succ, List.getElem?_cons_zero, List.length_cons, List.length_nil, if_true, av, hm, bT, es, if_pos hz, bZ, List.set_cons_succ, List.set_cons_zero, show (0 : Int) < 26 from by decide, decide_true]
    simp only [List.set_cons_succ, List.set_cons_zero, e, dR]
    rw [ih]
theorem zB (c w p kk : Int) (hk : -100 < kk ∧ kk < 100) (G : DH) (a1 a2 : Option D) : ∀ (m j : Nat) (t : Str) (a3 : Option D), j + m ≤ 100 → PyData.strOk t = true → t.length ≤ j + 1 →
    ∃ (u : Str) (b3 : Option D), PyData.strOk u = true ∧ u.length ≤ j + m + 1 ∧ fY (gN 3) mj ((List.range' j m).map fun (k : Nat) => .int (0 + (k : Int))) [some (.int c), a1, a2, a3, some (.int w), some (.int p), some (.int kk), some (.str t)] G = .nx [some (.int c), a1, a2, b3, some (.int w), some (.int p), some (.int kk), some (.str u)] G
  | 0, j, t, a3, h, k1, k2 => ⟨t, a3, k1, by omega, by simp [fY]⟩
  | m + 1, j, t, a3, h, k1, k2 => by
    have hm := lC c (32 + (0 + (j : Int))) (by omega) (by omega) G
    obtain ⟨s, es, ks, ls⟩ := DZ (mx c (32 + (0 + (j : Int))) + kk * (if (0 + (j : Int)) == p then 1 else 0)) G
    have hz : t.length + s.length ≤ sizeLine := lz (by omega)
    obtain ⟨u, b3, ku, lu, ih⟩ := zB c w p kk hk G a1 a2 m (j + 1) (t ++ s) (some (.int (0 + (j : Int)))) (by omega) (good_add k1 ks) (by rw [Ao]; omega)
    refine ⟨u, b3, ku, by omega, ?_⟩
    rw [List.range'_succ, List.map_cons, iJ rfl]
    have hk1 : (decide (-(2 ^ 64) < kk) && decide (kk < 2 ^ 64)) = true := by simp; omega
    have e : mj [some (.int c), a1, a2, some (.int (0 + (j : Int))), some (.int w), some (.int p), some (.int kk), some (.str t)] G = .nx [some (.int c), a1, a2, some (.int (0 + (j : Int))), some (.int w), some (.int p), some (.int kk), some (.str (t ++ s))] G := by
      generalize (0 + (j : Int)) = jj at hm es
      unfold mj
      simp only [aU, aP, aC, ay, cO, aE, aj, aL, aq, aB, aK, List.getElem?_cons_succ, List.getElem?_cons_zero, List.length_cons, List.length_nil, if_true, av, hm, iB, DJ, Bool.false_xor, bT, hk1, Bool.true_or, es, if_pos hz, bZ, List.set_cons_succ, List.set_cons_zero, show (0 : Int) < 26 from by decide, decide_true]
    simp only [List.set_cons_succ, List.set_cons_zero, e, dR]
    rw [ih]
noncomputable def kept : List Str := ["start", "rule", "row", "mix", "many", "any", "kind", "not", "both", "either", "way", "mark"]
noncomputable abbrev JH : DS → M D := eFn (az fu (af (eC (.str "start")) (af (eC (.str "rule")) (af (eC (.str "row")) (af (eC (.str "mix")) (af (eC (.str "many")) (af (eC (.str "any")) (af (eC (.str "kind")) (af (eC (.str "not")) (af (eC (.str "both")) (af (eC (.str "either")) (af (eC (.str "way")) (af (eC (.str "mark")) (ao))))))))))))))
theorem GR (τ : DS) (G : DH) : JH τ G = .ok (.con (kept.map .str)) G := by
  unfold JH
  rw [gW]
  have UP : (12 : Nat) ≤ sizeLine := lz (by omega)
  have e : az fu (af (eC (.str "start")) (af (eC (.str "rule")) (af (eC (.str "row")) (af (eC (.str "mix")) (af (eC (.str "many")) (af (eC (.str "any")) (af (eC (.str "kind")) (af (eC (.str "not")) (af (eC (.str "both")) (af (eC (.str "either")) (af (eC (.str "way")) (af (eC (.str "mark")) (ao))))))))))))) τ G = fu (kept.map .str) G := by
    simp only [aC, aq, aB, cO, aE, aj, aK]; rfl
  rw [e, j9 (ds := kept.map .str) (show (kept.map D.str).length ≤ sizeLine from UP) (aR fun _ => jm)]
theorem IW (c w p kk : Int) (G : DH) (ws : List Str) (hw : ws.length ≤ 100) (a2 a3 : Option D) (u : Str) (ku : PyData.strOk u = true) (lu : u.length ≤ 20) : ∃ v : Str, PyData.strOk v = true ∧ v.length ≤ 21 ∧
    mq [some (.int c), some (.obj G.length), a2, a3, some (.int w), some (.int p), some (.int kk), some (.str u)] (G ++ [.lst (ws.map .str)]) =
      .nx [some (.int c), some (.obj G.length), a2, a3, some (.int w), some (.int p), some (.int kk), some (.str v)] (G ++ [.lst ((ws ++ [v]).map .str)]) := by
  have hin := GC u kept (G ++ [.lst (ws.map .str)]) ku (by decide +kernel)
  generalize kept.any (· == u) = bb at hin
  have hz : u.length + ("z" : Str).length ≤ sizeLine := by
    have : ("z" : Str).length = 1 := by decide +kernel
    exact lz (by omega)
  have hz2 : ws.length < sizeLine := Nat.lt_of_lt_of_le (by omega) (lz (n := 101) (by omega))
  have hk := GR
  cases bb with
  | true =>
    refine ⟨u ++ "z", good_add ku (by decide +kernel), by rw [Ao]; have : ("z" : Str).length = 1 := by decide +kernel
                                                          omega, ?_⟩
    unfold mq
    simp [aN, bR, dG, gg, gh, gi, gj, cH, gb, gC, jR, aU, bZ, jS, bO, fk, jT, bF, cV, jU, aV, cB, aE, jV, jW, aj, aK, dM, ay, cO, aP, aC, aB, aq, bM, aM, bu, ck, dm, bH, dH, aL, aX, gk, aQ, bw, cu, fy, jX, bP, aZ, bx, bJ, gm, cW, jY, eS, bz, bA, bB, cQ, cR, cC, bC, bK, gu, bh, fT, dR, gn, gp, gq, gr, dI, dU, dW, dX, gx, dY, dZ, bq, cD, cE, bD, cF, gw, iz, fD, aD, bT, cM, bW, av, cN, bU, aS, iS, iH, qM, Ty.is, hk, MG, hin, hz, hz2]
  | false =>
    refine ⟨u, ku, by omega, ?_⟩
    unfold mq
    simp [aN, bR, dG, gg, gh, gi, gj, cH, gb, gC, jR, aU, bZ, jS, bO, fk, jT, bF, cV, jU, aV, cB, aE, jV, jW, aj, aK, dM, ay, cO, aP, aC, aB, aq, bM, aM, bu, ck, dm, bH, dH, aL, aX, gk, aQ, bw, cu, fy, jX, bP, aZ, bx, bJ, gm, cW, jY, eS, bz, bA, bB, cQ, cR, cC, bC, bK, gu, bh, fT, dR, gn, gp, gq, gr, dI, dU, dW, dX, gx, dY, dZ, bq, cD, cE, bD, cF, gw, iz, fD, aD, bT, cM, bW, av, cN, bU, aS, iS, iH, qM, Ty.is, hk, MG, hin, hz2]
theorem xX (c w p : Int) (hw : 0 ≤ w) (OD : w ≤ 8) (G : DH) (a2 : Option D) : ∀ (m j : Nat) (ws : List Str) (a3 a6 a7 : Option D), j + m ≤ 5 → ws.length = j → (∀ s ∈ ws, PyData.strOk s = true ∧ s.length ≤ 21) →
    ∃ (us : List Str) (b3 b6 b7 : Option D), us.length = j + m ∧ (∀ s ∈ us, PyData.strOk s = true ∧ s.length ≤ 21) ∧
      fY (gN 6) mw ((List.range' j m).map fun (k : Nat) => .int (0 + (k : Int))) [some (.int c), some (.obj G.length), a2, a3, some (.int w), some (.int p), a6, a7] (G ++ [.lst (ws.map .str)]) = .nx [some (.int c), some (.obj G.length), a2, b3, some (.int w), some (.int p), b6, b7] (G ++ [.lst (us.map .str)])
  | 0, j, ws, a3, a6, a7, h, hl, hs => ⟨ws, a3, a6, a7, by omega, hs, by simp [fY]⟩
  | m + 1, j, ws, a3, a6, a7, h, hl, hs => by
    obtain ⟨u, b3, ku, lu, e1⟩ := zB c w p (0 + (j : Int)) (by omega) (G ++ [.lst (ws.map .str)]) (some (.obj G.length)) a2 w.toNat 0 ⟨#[]⟩ a3 (by omega) (by decide +kernel) (by show 0 ≤ 1; omega)
    obtain ⟨v, kv, lv, e2⟩ := IW c w p (0 + (j : Int)) G ws (by omega) a2 b3 u ku (by omega)
    obtain ⟨us, c3, c6, c7, So, zY, ih⟩ := xX c w p hw OD G a2 m (j + 1) (ws ++ [v]) b3 (some (.int (0 + (j : Int)))) (some (.str v)) (by omega) (by simp [hl]) (fun s hm => by
      rcases List.mem_append.mp hm with h | h
      · exact hs s h
      · rw [List.mem_singleton.mp h]; exact ⟨kv, lv⟩)
    refine ⟨us, c3, c6, c7, by omega, zY, ?_⟩
    have hr := p5 (j := w) hw (by omega)
    generalize ((List.range' 0 w.toNat).map fun (k : Nat) => D.int (0 + (k : Int))) = its at hr e1
    rw [List.range'_succ, List.map_cons, iJ rfl]
    generalize (0 + (j : Int)) = jj at e1 e2 ih
    have e : mw [some (.int c), some (.obj G.length), a2, a3, some (.int w), some (.int p), some (.int jj), a7] (G ++ [.lst (ws.map .str)]) = .nx [some (.int c), some (.obj G.length), a2, b3, some (.int w), some (.int p), some (.int jj), some (.str v)] (G ++ [.lst ((ws ++ [v]).map .str)]) := by
      unfold mw
      have e0 : ("" : Str) = ⟨#[]⟩ := rfl
      rw [e0]
      simp only [aN, aU, cO, bZ, bR, List.set_cons_succ, List.set_cons_zero, aQ, aq, aB, ay, aE, aj, aK, List.getElem?_cons_succ, List.getElem?_cons_zero, fy, hr, e1, e2]
    simp only [List.set_cons_succ, List.set_cons_zero, e, dR]
    exact ih
noncomputable def N3 (t : Str) (v : Int) : D → D
  | .int j => .str (Txt.slice t none (some (1 + v % 4 + j)))
  | _ => .lG
theorem GS (c : Int) (G : DH) : ∃ ws : List Str, ws.length = 5 ∧ (∀ s ∈ ws, PyData.strOk s = true ∧ s.length ≤ 21) ∧ kR [.int c] G = .ok (.con (ws.map .str)) G := by
  have z0 : (0 : Nat) ≤ sizeLine := Nat.zero_le _
  have Sq := lC c 40 (by omega) (by omega)
  have UQ := lC c 41 (by omega) (by omega)
  have UR := lC c 42 (by omega) (by omega)
  have US := lC c 43 (by omega) (by omega)
  have Vj := v7 c 41
  have Vk := v7 c 42
  by_cases h0 : mx c 40 % 3 = 0
  · obtain ⟨u, b3, ku, lu, e1⟩ := zA c (G ++ [.lst []]) (some (.obj G.length)) none none none none 7 0 "q" none (by omega) (by decide +kernel) (by decide +kernel)
    have hr := p5 (j := 7) (by omega) (by omega)
    rw [show (7 : Int).toNat = 7 from rfl] at hr
    generalize ((List.range' 0 7).map fun (k : Nat) => D.int (0 + (k : Int))) = its at hr e1
    have LY := p5 (j := 5) (by omega) (by omega)
    rw [show (5 : Int).toNat = 5 from rfl] at LY
    have hsz : u.length ≤ sizeLine := lz (by omega)
    generalize hτ : ([some (.int c), some (.obj G.length), some (.str u), b3, none, none, none, none] : DS) = τ at e1
    have hc : ∀ G1, eFn (gK kJ oN [true, false, true] (af (eC (.int 5)) (ao)) (jP) (eFn (oH (ai 3) (dQ) (dF (aG av (aG av (eC (.int 1)) (aG jN (br 2 aI (af (ai 1) (af (eC (.int 43)) (ao)))) (eC (.int 4)))) (ai 0)))))) τ G1 = .ok (.con (((List.range' 0 5).map fun (k : Nat) => D.int (0 + (k : Int))).map (N3 u (mx c 43)))) G1 := fun G1 => by
      have c1 := jz (τ := τ) (G := G1) (gO := oN) (ks := [true, false, true]) (te := eFn (oH (ai 3) (dQ) (dF (aG av (aG av (eC (.int 1)) (aG jN (br 2 aI (af (ai 1) (af (eC (.int 43)) (ao)))) (eC (.int 4)))) (ai 0))))) (own := fun x => [x]) (f := N3 u (mx c 43)) ((List.range' 0 5).map fun (k : Nat) => D.int (0 + (k : Int))) [] (by simp) (fun x _ => rfl) (fun x hx acc => by
        obtain ⟨i, hi, rfl⟩ := List.mem_map.mp hx
        subst hτ
        generalize (0 + (i : Int)) = ii
        simp [aN, bR, dG, gg, gh, gi, gj, cH, gb, gC, jR, aU, bZ, jS, bO, fk, jT, bF, cV, jU, aV, cB, aE, jV, jW, aj, aK, dM, ay, cO, aP, aC, aB, aq, bM, aM, bu, ck, dm, bH, dH, aL, aX, gk, aQ, bw, cu, fy, jX, bP, aZ, bx, bJ, gm, cW, jY, eS, bz, bA, bB, cQ, cR, cC, bC, bK, gu, bh, fT, dR, gn, gp, gq, gr, dI, dU, dW, dX, gx, dY, dZ, bq, cD, cE, bD, cF, gw, iz, fD, aD, bT, cM, bW, av, cN, bU, aS, iS, iH, qM, Ty.is, gW, mask, US, DB, N3, hsz])
      rw [gW]
      have e2 : gK kJ oN [true, false, true] (af (eC (.int 5)) (ao)) (jP) (eFn (oH (ai 3) (dQ) (dF (aG av (aG av (eC (.int 1)) (aG jN (br 2 aI (af (ai 1) (af (eC (.int 43)) (ao)))) (eC (.int 4)))) (ai 0))))) τ G1 = .ok (.obj G1.length) (G1 ++ [.lst (((List.range' 0 5).map fun (k : Nat) => D.int (0 + (k : Int))).map (N3 u (mx c 43)))]) := by
        simp only [List.nil_append] at c1
        rw [← c1]
        simp only [aZ, aq, aB, cO, aE, aj, aK, LY]
      rw [e2, mV]
      rw [List.map_map]
      exact aR fun _ => jm
    have ex : ((List.range' 0 5).map fun (k : Nat) => D.int (0 + (k : Int))).map (N3 u (mx c 43)) = ((List.range' 0 5).map fun (k : Nat) => Txt.slice u none (some (1 + mx c 43 % 4 + (0 + (k : Int))))).map .str := by
      rw [List.map_map, List.map_map]; rfl
    rw [ex] at hc
    refine ⟨(List.range' 0 5).map fun (k : Nat) => Txt.slice u none (some (1 + mx c 43 % 4 + (0 + (k : Int)))), by simp, fun s hs => ?_, ?_⟩
    · obtain ⟨i, _, rfl⟩ := List.mem_map.mp hs
      exact ⟨GQ u _ _ ku, Nat.le_trans (Txt.slice_le u _ _) (by omega)⟩
    · refine oW (R := [.lst []]) ?_ (by rw [cS]; exact aR fun _ => jm)
      generalize (((List.range' 0 5).map fun (k : Nat) => Txt.slice u none (some (1 + mx c 43 % 4 + (0 + (k : Int))))).map D.str) = ws at hc
      generalize hC : eFn (gK kJ oN [true, false, true] (af (eC (.int 5)) (ao)) (jP) (eFn (oH (ai 3) (dQ) (dF (aG av (aG av (eC (.int 1)) (aG jN (br 2 aI (af (ai 1) (af (eC (.int 43)) (ao)))) (eC (.int 4)))) (ai 0)))))) = C at hc
      subst hτ
      unfold kQ sI
      rw [hC]
      have hn : fu [] G = .ok (.obj G.length) (G ++ [.lst []]) := if_pos z0
      simp [aN, bR, dG, gg, gh, gi, gj, cH, gb, gC, jR, aU, bZ, jS, bO, fk, jT, bF, cV, jU, aV, cB, aE, jV, jW, aj, aK, dM, ay, cO, aP, aC, aB, aq, bM, aM, bu, ck, dm, bH, dH, aL, aX, gk, aQ, bw, cu, fy, jX, bP, aZ, bx, bJ, gm, cW, jY, eS, bz, bA, bB, cQ, cR, cC, bC, bK, gu, bh, fT, dR, gn, gp, gq, gr, dI, dU, dW, dX, gx, dY, dZ, bq, cD, cE, bD, cF, gw, iz, fD, aD, bT, cM, bW, av, cN, bU, aS, iS, iH, qM, Ty.is, hn, Sq, iB, h0, hr, e1, hc]
  · have hw1 : 0 ≤ 1 + mx c 41 % 8 := by omega
    have OD : 1 + mx c 41 % 8 ≤ 8 := by omega
    have Ss : 0 < 1 + mx c 41 % 8 := by omega
    obtain ⟨us, b3, b6, b7, So, zY, e1⟩ := xX c (1 + mx c 41 % 8) (mx c 42 % (1 + mx c 41 % 8)) hw1 OD G none 5 0 [] none none none (by omega) rfl (fun s h => by simp at h)
    have LY := p5 (j := 5) (by omega) (by omega)
    rw [show (5 : Int).toNat = 5 from rfl] at LY
    generalize ((List.range' 0 5).map fun (k : Nat) => D.int (0 + (k : Int))) = its at LY e1
    generalize UT : 1 + mx c 41 % 8 = w at e1 hw1 OD Ss
    generalize hpp : mx c 42 % w = pp at e1
    refine ⟨us, So, zY, oW (R := [.dead]) ?_ (by rw [cS]; exact aR fun _ => jm)⟩
    have hn : fu [] G = .ok (.obj G.length) (G ++ [.lst []]) := if_pos z0
    have h0' : (mx c 40 % 3 == 0) = false := by simpa using h0
    unfold kQ
    simp only [List.map_nil] at e1
    simp [aN, bR, dG, gg, gh, gi, gj, cH, gb, gC, jR, aU, bZ, jS, bO, fk, jT, bF, cV, jU, aV, cB, aE, jV, jW, aj, aK, dM, ay, cO, aP, aC, aB, aq, bM, aM, bu, ck, dm, bH, dH, aL, aX, gk, aQ, bw, cu, fy, jX, bP, aZ, bx, bJ, gm, cW, jY, eS, bz, bA, bB, cQ, cR, cC, bC, bK, gu, bh, fT, dR, gn, gp, gq, gr, dI, dU, dW, dX, gx, dY, dZ, bq, cD, cE, bD, cF, gw, iz, fD, aD, bT, cM, bW, av, cN, bU, aS, iS, iH, qM, Ty.is, hn, Sq, UQ, UR, iB, h0', LY, UT, hpp, Ss, e1]
end K32
end
section
set_option Elab.async false
set_option linter.all false
set_option maxRecDepth 100000
set_option maxHeartbeats 1000000
namespace K32
open PySem PySem.Spec L2 L3
noncomputable def row (p : Nat × Str) : D := .tup [.int p.1, .str p.2]
inductive Val : List (Nat × Str) → Nat → Prop
  | one (k : Str) : Val [(0, k)] 0
  | snoc {rs : List (Nat × Str)} {e d : Nat} (k : Str) : Val rs e → 1 ≤ d → d ≤ e + 1 → Val (rs ++ [(d, k)]) d
theorem Val.last {rs : List (Nat × Str)} {e : Nat} (h : Val rs e) : ∃ a s, rs = a ++ [(e, s)] := by
  cases h with
  | one k => exact ⟨[], k, rfl⟩
  | snoc k h1 h2 h3 => exact ⟨_, k, rfl⟩
theorem xY {α : Type} (xs : List α) (x : α) : tS (xs ++ [x]) (-1) = some x := by
  have h : HN (xs ++ [x]).length (-1) = some xs.length := by
    unfold HN
    simp
    omega
  unfold tS
  rw [h]
  simp
theorem qC {a b c : MS} {τ : DS} {G : DH} : cT a (cT b c) τ G = (cT a b τ G).sq c := by
  simp only [aN]
  cases a τ G with
  | nx τ' G' => simp only [bR, aN]
  | _ => rfl
theorem EW (c : Int) (ws : List Str) (hws : ws.length = 5) (hok : ∀ s ∈ ws, PyData.strOk s = true ∧ s.length ≤ 21) (most : Int) (hm1 : most ≤ 100) (G : DH) (a0 a5 a7 : Option D) (j : Nat) (hj : j ≤ 100) (rs : List (Nat × Str)) (e : Nat) (hv : Val rs e) (hl : (rs.length : Int) ≤ 100) (hs : ∀ p ∈ rs, PyData.strOk p.2 = true)
    (hi : j = 0 ∨ 1 ≤ e ∨ most ≤ rs.length) : ∃ (rs' : List (Nat × Str)) (e' : Nat) (b7 : Option D), Val rs' e' ∧ (rs'.length : Int) ≤ 100 ∧ (∀ p ∈ rs', PyData.strOk p.2 = true) ∧ (1 ≤ e' ∨ most ≤ rs'.length) ∧
      kT [a0, some (.con (ws.map .str)), some (.int most), some (.obj G.length), some (.int c), a5, some (.int (j : Int)), a7] (G ++ [.lst (rs.map row)]) = .nx [a0, some (.con (ws.map .str)), some (.int most), some (.obj G.length), some (.int c), a5, some (.int (j : Int)), b7] (G ++ [.lst (rs'.map row)]) := by
  obtain ⟨ini, s0, hrs⟩ := hv.last
  have m4 := lC c 4 (by omega) (by omega)
  have m6 := lC c 6 (by omega) (by omega)
  have m7 := lC c (7 + (j : Int)) (by omega) (by omega)
  have n4 := v7 c 4
  have n6 := v7 c 6
  have n7 := v7 c (7 + (j : Int))
  have hla : tS (rs.map row) (-1) = some (.tup [.int (e : Int), .str s0]) := by
    rw [hrs, List.map_append, List.map_cons, List.map_nil, xY]; rfl
  have QD : (0 : Int) < (e : Int) + 1 := by omega
  obtain ⟨nv, en, QF⟩ := xB (xs := ws.map D.str) (i := mx c (7 + (j : Int)) % 4) (by omega) (by simp [hws]; omega)
  obtain ⟨nm, QH, rfl⟩ : ∃ nm, nm ∈ ws ∧ D.str nm = nv := by
    have := List.mem_of_getElem? QF
    obtain ⟨a, b, c⟩ := List.mem_map.mp this
    exact ⟨a, b, c⟩
  have Su : tS [D.int (e : Int), D.str s0] 0 = some (.int (e : Int)) := by
    have := lW (xs := [D.int (e : Int), D.str s0]) (j := 0) (v := .int (e : Int)) rfl
    simpa using this
  have key : ∃ d : Nat, d ≤ e + 1 ∧ ((rs.length : Int) < most → 1 ≤ d) ∧ (cT (dS 7 (aG av (eC (.int 1)) (aG jN (br 2 aI (af (ai 4) (af (eC (.int 4)) (ao)))) (aG av (aG fD (aG fD (ai 3) (kL (eC (.int 1)))) (eC (.int 0))) (eC (.int 1)))))) (tT (j3 (aG A2 (ai 6) (eC (.int 0)))) (dS 7 (aG av (aG fD (aG fD (ai 3) (kL (eC (.int 1)))) (eC (.int 0))) (aG jN (br 2 aI (af (ai 4) (af (eC (.int 6)) (ao)))) (eC (.int 2))))) (ia)))
      [a0, some (.con (ws.map .str)), some (.int most), some (.obj G.length), some (.int c), a5, some (.int (j : Int)), a7] (G ++ [.lst (rs.map row)]) = .nx [a0, some (.con (ws.map .str)), some (.int most), some (.obj G.length), some (.int c), a5, some (.int (j : Int)), some (.int (d : Int))] (G ++ [.lst (rs.map row)]) := by
    have q1 : 0 ≤ mx c 4 % ((e : Int) + 1) := Int.emod_nonneg _ (by omega)
    have q2 : mx c 4 % ((e : Int) + 1) < (e : Int) + 1 := Int.emod_lt_of_pos _ QD
    by_cases hj0 : j = 0
    · refine ⟨(1 + mx c 4 % ((e : Int) + 1)).toNat, by omega, by omega, ?_⟩
      have et : (((1 + mx c 4 % ((e : Int) + 1)).toNat : Nat) : Int) = 1 + mx c 4 % ((e : Int) + 1) := by omega
      rw [et]
      subst hj0
      simp [aN, bR, dG, gg, gh, gi, gj, cH, gb, gC, jR, aU, bZ, jS, bO, fk, jT, bF, cV, jU, aV, cB, aE, jV, jW, aj, aK, dM, ay, cO, aP, aC, aB, aq, bM, aM, bu, ck, dm, bH, dH, aL, aX, gk, aQ, bw, cu, fy, jX, bP, aZ, bx, bJ, gm, cW, jY, eS, bz, bA, bB, cQ, cR, cC, bC, bK, gu, bh, fT, dR, gn, gp, gq, gr, dI, dU, dW, dX, gx, dY, dZ, bq, cD, cE, bD, cF, gw, iz, fD, aD, bT, cM, bW, av, cN, bU, aS, iS, iH, qM, Ty.is, m4, hla, Su, QD]
    · refine ⟨(e + mx c 6 % 2).toNat, by omega, by omega, ?_⟩
      have et : (((e + mx c 6 % 2).toNat : Nat) : Int) = e + mx c 6 % 2 := by omega
      rw [et]
      have hj1 : 0 < j := by omega
      have hj2 : (0 : Int) < (j : Int) := by omega
      simp [aN, bR, dG, gg, gh, gi, gj, cH, gb, gC, jR, aU, bZ, jS, bO, fk, jT, bF, cV, jU, aV, cB, aE, jV, jW, aj, aK, dM, ay, cO, aP, aC, aB, aq, bM, aM, bu, ck, dm, bH, dH, aL, aX, gk, aQ, bw, cu, fy, jX, bP, aZ, bx, bJ, gm, cW, jY, eS, bz, bA, bB, cQ, cR, cC, bC, bK, gu, bh, fT, dR, gn, gp, gq, gr, dI, dU, dW, dX, gx, dY, dZ, bq, cD, cE, bD, cF, gw, iz, fD, aD, bT, cM, bW, av, cN, bU, aS, iS, iH, qM, Ty.is, m4, m6, hla, Su, QD, hj1, hj2]
  obtain ⟨d, hd1, hd2, ek⟩ := key
  have h2 : (2 : Nat) ≤ sizeLine := lz (by omega)
  have hz : rs.length < sizeLine := Nat.lt_of_lt_of_le (by omega) (lz (n := 101) (by omega))
  by_cases hc : (rs.length : Int) < most
  · refine ⟨rs ++ [(d, nm)], d, some (.int (d : Int)), .snoc nm hv (hd2 hc) hd1, by simp; omega, fun p hp => ?_, .inl (hd2 hc), ?_⟩
    · rcases List.mem_append.mp hp with h | h
      · exact hs p h
      · rw [List.mem_singleton.mp h]; exact (hok nm QH).1
    · unfold kT
      rw [qC, ek, bR]
      simp [aN, bR, dG, gg, gh, gi, gj, cH, gb, gC, jR, aU, bZ, jS, bO, fk, jT, bF, cV, jU, aV, cB, aE, jV, jW, aj, aK, dM, ay, cO, aP, aC, aB, aq, bM, aM, bu, ck, dm, bH, dH, aL, aX, gk, aQ, bw, cu, fy, jX, bP, aZ, bx, bJ, gm, cW, jY, eS, bz, bA, bB, cQ, cR, cC, bC, bK, gu, bh, fT, dR, gn, gp, gq, gr, dI, dU, dW, dX, gx, dY, dZ, bq, cD, cE, bD, cF, gw, iz, fD, aD, bT, cM, bW, av, cN, bU, aS, iS, iH, qM, Ty.is, hc, m7, en, h2, hz, row]
  · refine ⟨rs, e, some (.int (d : Int)), hv, hl, hs, .inr (by omega), ?_⟩
    unfold kT
    rw [qC, ek, bR]
    simp [aN, bR, dG, gg, gh, gi, gj, cH, gb, gC, jR, aU, bZ, jS, bO, fk, jT, bF, cV, jU, aV, cB, aE, jV, jW, aj, aK, dM, ay, cO, aP, aC, aB, aq, bM, aM, bu, ck, dm, bH, dH, aL, aX, gk, aQ, bw, cu, fy, jX, bP, aZ, bx, bJ, gm, cW, jY, eS, bz, bA, bB, cQ, cR, cC, bC, bK, gu, bh, fT, dR, gn, gp, gq, gr, dI, dU, dW, dX, gx, dY, dZ, bq, cD, cE, bD, cF, gw, iz, fD, aD, bT, cM, bW, av, cN, bU, aS, iS, iH, qM, Ty.is, hc]
theorem xZ (c : Int) (ws : List Str) (hws : ws.length = 5) (hok : ∀ s ∈ ws, PyData.strOk s = true ∧ s.length ≤ 21) (most : Int) (hm1 : most ≤ 100) (G : DH) (a0 a5 : Option D) : ∀ (m j : Nat) (rs : List (Nat × Str)) (e : Nat) (a6 a7 : Option D), j + m ≤ 100 → Val rs e → (rs.length : Int) ≤ 100 → (∀ p ∈ rs, PyData.strOk p.2 = true) → (j = 0 ∨ 1 ≤ e ∨ most ≤ rs.length) →
    ∃ (rs' : List (Nat × Str)) (e' : Nat) (b6 b7 : Option D), Val rs' e' ∧ (rs'.length : Int) ≤ 100 ∧ (∀ p ∈ rs', PyData.strOk p.2 = true) ∧
      fY (gN 6) kT ((List.range' j m).map fun (k : Nat) => .int (0 + (k : Int))) [a0, some (.con (ws.map .str)), some (.int most), some (.obj G.length), some (.int c), a5, a6, a7] (G ++ [.lst (rs.map row)]) = .nx [a0, some (.con (ws.map .str)), some (.int most), some (.obj G.length), some (.int c), a5, b6, b7] (G ++ [.lst (rs'.map row)])
  | 0, j, rs, e, a6, a7, h, hv, hl, hs, hi => ⟨rs, e, a6, a7, hv, hl, hs, by simp [fY]⟩
  | m + 1, j, rs, e, a6, a7, h, hv, hl, hs, hi => by
    obtain ⟨OE, e1, b7, hv1, hl1, hs1, hi1, r1⟩ := EW c ws hws hok most hm1 G a0 a5 a7 j (by omega) rs e hv hl hs hi
    obtain ⟨LW, e2, c6, c7, hv2, hl2, hs2, r2⟩ := xZ c ws hws hok most hm1 G a0 a5 m (j + 1) OE e1 (some (.int (j : Int))) b7 (by omega) hv1 hl1 hs1 (.inr hi1)
    refine ⟨LW, e2, c6, c7, hv2, hl2, hs2, ?_⟩
    rw [List.range'_succ, List.map_cons, iJ rfl]
    simp only [List.set_cons_succ, List.set_cons_zero, Int.zero_add, r1, dR]
    simp only [Int.zero_add] at r2
    exact r2
theorem x6 (ws : List Str) (hws : ws.length = 5) (hok : ∀ s ∈ ws, PyData.strOk s = true ∧ s.length ≤ 21) (most : Int) (hm1 : most ≤ 100) (G : DH) (a0 : Option D) : ∀ (cs : List Int) (rs : List (Nat × Str)) (e : Nat) (a4 a5 a6 a7 : Option D), Val rs e → (rs.length : Int) ≤ 100 → (∀ p ∈ rs, PyData.strOk p.2 = true) →
    ∃ (rs' : List (Nat × Str)) (e' : Nat) (b4 b5 b6 b7 : Option D), Val rs' e' ∧ (rs'.length : Int) ≤ 100 ∧ (∀ p ∈ rs', PyData.strOk p.2 = true) ∧
      fY (gN 4) nH (cs.map .int) [a0, some (.con (ws.map .str)), some (.int most), some (.obj G.length), a4, a5, a6, a7] (G ++ [.lst (rs.map row)]) = .nx [a0, some (.con (ws.map .str)), some (.int most), some (.obj G.length), b4, b5, b6, b7] (G ++ [.lst (rs'.map row)])
  | [], rs, e, a4, a5, a6, a7, hv, hl, hs => ⟨rs, e, a4, a5, a6, a7, hv, hl, hs, by simp [fY]⟩
  | c :: cs, rs, e, a4, a5, a6, a7, hv, hl, hs => by
    have m2 := lC c 2 (by omega) (by omega)
    have m3 := lC c 3 (by omega) (by omega)
    have n3 := v7 c 3
    have key : ∃ mn : Int, 0 ≤ mn ∧ mn ≤ 24 ∧ ∀ G1, (cT (dS 5 (eC (.int 1))) (tT (j3 (aG (j5 false) (aG jN (br 2 aI (af (ai 4) (af (eC (.int 2)) (ao)))) (eC (.int 12))) (eC (.int 5)))) (dS 5 (aG av (eC (.int 1)) (aG jN (br 2 aI (af (ai 4) (af (eC (.int 3)) (ao)))) (eC (.int 24))))) (ia)))
        [a0, some (.con (ws.map .str)), some (.int most), some (.obj G.length), some (.int c), a5, a6, a7] G1 = .nx [a0, some (.con (ws.map .str)), some (.int most), some (.obj G.length), some (.int c), some (.int mn), a6, a7] G1 := by
      by_cases h5 : mx c 2 % 12 = 5
      · refine ⟨1 + mx c 3 % 24, by omega, by omega, fun G1 => ?_⟩
        simp [aN, bR, dG, gg, gh, gi, gj, cH, gb, gC, jR, aU, bZ, jS, bO, fk, jT, bF, cV, jU, aV, cB, aE, jV, jW, aj, aK, dM, ay, cO, aP, aC, aB, aq, bM, aM, bu, ck, dm, bH, dH, aL, aX, gk, aQ, bw, cu, fy, jX, bP, aZ, bx, bJ, gm, cW, jY, eS, bz, bA, bB, cQ, cR, cC, bC, bK, gu, bh, fT, dR, gn, gp, gq, gr, dI, dU, dW, dX, gx, dY, dZ, bq, cD, cE, bD, cF, gw, iz, fD, aD, bT, cM, bW, av, cN, bU, aS, iS, iH, qM, Ty.is, m2, m3, iB, h5]
      · have UU : (mx c 2 % 12 == 5) = false := by simpa using h5
        refine ⟨1, by omega, by omega, fun G1 => ?_⟩
        simp [aN, bR, dG, gg, gh, gi, gj, cH, gb, gC, jR, aU, bZ, jS, bO, fk, jT, bF, cV, jU, aV, cB, aE, jV, jW, aj, aK, dM, ay, cO, aP, aC, aB, aq, bM, aM, bu, ck, dm, bH, dH, aL, aX, gk, aQ, bw, cu, fy, jX, bP, aZ, bx, bJ, gm, cW, jY, eS, bz, bA, bB, cQ, cR, cC, bC, bK, gu, bh, fT, dR, gn, gp, gq, gr, dI, dU, dW, dX, gx, dY, dZ, bq, cD, cE, bD, cF, gw, iz, fD, aD, bT, cM, bW, av, cN, bU, aS, iS, iH, qM, Ty.is, m2, iB, UU]
    obtain ⟨mn, hn1, hn2, ek⟩ := key
    obtain ⟨OE, e1, b6, b7, hv1, hl1, hs1, r1⟩ := xZ c ws hws hok most hm1 G a0 (some (.int mn)) mn.toNat 0 rs e a6 a7 (by omega) hv hl hs (.inl rfl)
    obtain ⟨LW, e2, c4, c5, c6, c7, hv2, hl2, hs2, r2⟩ := x6 ws hws hok most hm1 G a0 cs OE e1 (some (.int c)) (some (.int mn)) b6 b7 hv1 hl1 hs1
    refine ⟨LW, e2, c4, c5, c6, c7, hv2, hl2, hs2, ?_⟩
    have hr := p5 (j := mn) hn1 (by omega)
    generalize ((List.range' 0 mn.toNat).map fun (k : Nat) => D.int (0 + (k : Int))) = its at hr r1
    rw [List.map_cons, iJ rfl]
    have el : nH [a0, some (.con (ws.map .str)), some (.int most), some (.obj G.length), some (.int c), a5, a6, a7] (G ++ [.lst (rs.map row)]) = .nx [a0, some (.con (ws.map .str)), some (.int most), some (.obj G.length), some (.int c), some (.int mn), b6, b7] (G ++ [.lst (OE.map row)]) := by
      unfold nH
      rw [qC, ek, bR]
      simp only [aQ, aq, aB, ay, aE, aj, aK, List.getElem?_cons_succ, List.getElem?_cons_zero, fy, hr, r1]
    simp only [List.set_cons_succ, List.set_cons_zero, el, dR]
    exact r2
theorem IX (cs : List Int) (hcs : 1 ≤ cs.length) (ws : List Str) (hws : ws.length = 5) (hok : ∀ s ∈ ws, PyData.strOk s = true ∧ s.length ≤ 21) (most : Int) (hm1 : most ≤ 100) (G : DH) :
    ∃ (rs : List (Nat × Str)) (e : Nat), Val rs e ∧ rs.length ≤ 100 ∧ (∀ p ∈ rs, PyData.strOk p.2 = true) ∧ mH [.con (cs.map .int), .con (ws.map .str), .int most] G = .ok (.con (rs.map row)) G := by
  have z1 : (1 : Nat) ≤ sizeLine := lz (by omega)
  have z2 : (2 : Nat) ≤ sizeLine := lz (by omega)
  have hc0 := AO cs 0 (by omega)
  rw [show ((0 : Nat) : Int) = 0 from rfl] at hc0
  have m1 := lC (cs.getD 0 0) 1 (by omega) (by omega)
  have n1 := v7 (cs.getD 0 0) 1
  generalize cs.getD 0 0 = c0 at hc0 m1 n1
  obtain ⟨nv, en, QF⟩ := xB (xs := ws.map D.str) (i := mx c0 1 % 4) (by omega) (by simp [hws]; omega)
  obtain ⟨nm, QH, rfl⟩ : ∃ nm, nm ∈ ws ∧ D.str nm = nv := by
    have := List.mem_of_getElem? QF
    obtain ⟨a, b, c⟩ := List.mem_map.mp this
    exact ⟨a, b, c⟩
  obtain ⟨rs, e, b4, b5, b6, b7, hv, hl, hs, r⟩ := x6 ws hws hok most hm1 G (some (.con (cs.map .int))) cs [(0, nm)] 0 none none none none (.one nm) (by simp) (fun p hp => by rw [List.mem_singleton.mp hp]; exact (hok nm QH).1)
  refine ⟨rs, e, hv, by omega, hs, oW (R := [.dead]) ?_ (by rw [cS]; exact aR fun p => by rw [row, ko]; simp [eG, eZ, jm, kF])⟩
  have hn : fu [.tup [.int 0, .str nm]] G = .ok (.obj G.length) (G ++ [.lst [.tup [.int 0, .str nm]]]) := if_pos z1
  have er : ([(0, nm)].map row : List D) = [.tup [.int 0, .str nm]] := rfl
  rw [er] at r
  unfold oZ
  simp [aN, bR, dG, gg, gh, gi, gj, cH, gb, gC, jR, aU, bZ, jS, bO, fk, jT, bF, cV, jU, aV, cB, aE, jV, jW, aj, aK, dM, ay, cO, aP, aC, aB, aq, bM, aM, bu, ck, dm, bH, dH, aL, aX, gk, aQ, bw, cu, fy, jX, bP, aZ, bx, bJ, gm, cW, jY, eS, bz, bA, bB, cQ, cR, cC, bC, bK, gu, bh, fT, dR, gn, gp, gq, gr, dI, dU, dW, dX, gx, dY, dZ, bq, cD, cE, bD, cF, gw, iz, fD, aD, bT, cM, bW, av, cN, bU, aS, iS, iH, qM, Ty.is, hc0, m1, en, z2, hn, r]
end K32
end
section
set_option Elab.async false
set_option linter.all false
set_option maxRecDepth 100000
set_option maxHeartbeats 1000000
namespace K32
open PySem PySem.Spec L2 L3
inductive T where
  | nd (k : Str) (ps : List T)
mutual
noncomputable def T.d : T → D
  | .nd k ps => .tup [.str k, .tup (dL ps)]
noncomputable def dL : List T → List D
  | [] => []
  | t :: r => t.d :: dL r
end
mutual
noncomputable def T.prs (p : List Int) : T → List (List Int × T)
  | .nd k ps => (p, .nd k ps) :: gA p 0 ps
noncomputable def gA (p : List Int) (j : Int) : List T → List (List Int × T)
  | [] => []
  | t :: r => t.prs (p ++ [j]) ++ gA p (j + 1) r
end
mutual
noncomputable def T.pre (n : Nat) : T → List (Nat × Str)
  | .nd k ps => (n, k) :: nV (n + 1) ps
noncomputable def nV (n : Nat) : List T → List (Nat × Str)
  | [] => []
  | t :: r => t.pre n ++ nV n r
end
mutual
noncomputable def T.subs : T → List T
  | .nd k ps => .nd k ps :: fQ ps
noncomputable def fQ : List T → List T
  | [] => []
  | t :: r => t.subs ++ fQ r
end
theorem x8 : ∀ ts : List T, dL ts = ts.map T.d
  | [] => rfl
  | t :: r => by rw [dL, x8 r, List.map_cons]
mutual
theorem pS (p : List Int) : ∀ t : T, (t.prs p).map (·.2) = t.subs
  | .nd k ps => by rw [T.prs, T.subs, List.map_cons, zC p 0 ps]
theorem zC (p : List Int) (j : Int) : ∀ ts : List T, (gA p j ts).map (·.2) = fQ ts
  | [] => rfl
  | t :: r => by rw [gA, fQ, List.map_append, pS _ t, zC p (j + 1) r]
end
mutual
theorem D0 (n : Nat) : ∀ t : T, (t.pre n).length = t.subs.length
  | .nd k ps => by rw [T.pre, T.subs, List.length_cons, List.length_cons, x9 (n + 1) ps]
theorem x9 (n : Nat) : ∀ ts : List T, (nV n ts).length = (fQ ts).length
  | [] => rfl
  | t :: r => by rw [nV, fQ, List.length_append, List.length_append, D0 n t, x9 n r]
end
mutual
theorem rO : ∀ t : T, t.d.closed = true
  | .nd k ps => by rw [T.d, ko, eG, eG, jm, ko, vI ps]; rfl
theorem vI : ∀ ts : List T, aW (dL ts) = true
  | [] => rfl
  | t :: r => by rw [dL, eG, rO t, vI r]; rfl
end
mutual
theorem IY (n : Nat) : ∀ t : T, (∀ p ∈ t.pre n, PyData.strOk p.2 = true) → t.d.plain = true
  | .nd k ps, h => by
    have hk : PyData.strOk k = true := h (n, k) (by simp [T.pre])
    have hp := B8 (n + 1) ps fun p hp => h p (by simp [T.pre, hp])
    simp [T.d, D.plain, iU, hk, hp]
theorem B8 (n : Nat) : ∀ ts : List T, (∀ p ∈ nV n ts, PyData.strOk p.2 = true) → iU (dL ts) = true
  | [], _ => rfl
  | t :: r, h => by
    have h1 := IY n t fun p hp => h p (by simp [nV, hp])
    have h2 := B8 n r fun p hp => h p (by simp [nV, hp])
    rw [dL, iU, h1, h2]; rfl
end
mutual
theorem N4 : ∀ t : T, t.d.dp ≤ 2 * t.subs.length
  | .nd k ps => by
    have := JI ps
    simp [T.d, D.dp, C5, T.subs]; omega
theorem JI : ∀ ts : List T, C5 (dL ts) ≤ 2 * (fQ ts).length
  | [] => Nat.zero_le _
  | t :: r => by
    have h1 := N4 t
    have h2 := JI r
    rw [dL, C5, fQ, List.length_append]; omega
end
mutual
theorem sub_le : ∀ (t s : T), s ∈ t.subs → s.subs.length ≤ t.subs.length
  | .nd k ps, s, h => by
    rw [T.subs] at h
    rcases List.mem_cons.mp h with rfl | h
    · exact Nat.le_refl _
    · have := D3 ps s h
      rw [T.subs, List.length_cons]; omega
theorem D3 : ∀ (ts : List T) (s : T), s ∈ fQ ts → s.subs.length ≤ (fQ ts).length
  | [], s, h => by simp [fQ] at h
  | t :: r, s, h => by
    rw [fQ] at h ⊢
    rw [List.length_append]
    rcases List.mem_append.mp h with h | h
    · have := sub_le t s h; omega
    · have := D3 r s h; omega
end
mutual
noncomputable def T.good : T → Bool
  | .nd k ps => PyData.strOk k && qL ps
noncomputable def qL : List T → Bool
  | [] => true
  | t :: r => t.good && qL r
end
mutual
theorem ya : ∀ t : T, t.good = true → t.d.plain = true
  | .nd k ps, h => by
    have h' : PyData.strOk k = true ∧ qL ps = true := by simpa [T.good] using h
    have hp := v8 ps h'.2
    simp [T.d, D.plain, iU, h'.1, hp]
theorem v8 : ∀ ts : List T, qL ts = true → iU (dL ts) = true
  | [], _ => rfl
  | t :: r, h => by
    have h' : t.good = true ∧ qL r = true := by simpa [qL] using h
    rw [dL, iU, ya t h'.1, v8 r h'.2]; rfl
end
mutual
theorem GU : ∀ (t s : T), t.good = true → s ∈ t.subs → s.good = true
  | .nd k ps, s, h, hs => by
    have h' : PyData.strOk k = true ∧ qL ps = true := by simpa [T.good] using h
    rw [T.subs] at hs
    rcases List.mem_cons.mp hs with rfl | hs
    · exact h
    · exact zD ps s h'.2 hs
theorem zD : ∀ (ts : List T) (s : T), qL ts = true → s ∈ fQ ts → s.good = true
  | [], s, _, hs => by simp [fQ] at hs
  | t :: r, s, h, hs => by
    have h' : t.good = true ∧ qL r = true := by simpa [qL] using h
    rw [fQ] at hs
    rcases List.mem_append.mp hs with hs | hs
    · exact GU t s h'.1 hs
    · exact zD r s h'.2 hs
end
mutual
theorem B9 (n : Nat) : ∀ t : T, (∀ p ∈ t.pre n, PyData.strOk p.2 = true) → t.good = true
  | .nd k ps, h => by
    have hk : PyData.strOk k = true := h (n, k) (by simp [T.pre])
    have hp := zE (n + 1) ps fun p hp => h p (by simp [T.pre, hp])
    simp [T.good, hk, hp]
theorem zE (n : Nat) : ∀ ts : List T, (∀ p ∈ nV n ts, PyData.strOk p.2 = true) → qL ts = true
  | [], _ => rfl
  | t :: r, h => by
    have h1 := B9 n t fun p hp => h p (by simp [nV, hp])
    have h2 := zE n r fun p hp => h p (by simp [nV, hp])
    rw [qL, h1, h2]; rfl
end
end K32
end
section
set_option Elab.async false
set_option linter.all false
set_option maxRecDepth 100000
set_option maxHeartbeats 1000000
namespace K32
open PySem PySem.Spec L2 L3
mutual
noncomputable def T.bo (n : Nat) : T → List ((Nat × Str) × T)
  | .nd k ps => ((n, k), .nd k ps) :: EX (n + 1) ps
noncomputable def EX (n : Nat) : List T → List ((Nat × Str) × T)
  | [] => []
  | t :: r => t.bo n ++ EX n r
end
mutual
theorem LJ (n : Nat) : ∀ t : T, (t.bo n).map (·.1) = t.pre n
  | .nd k ps => by rw [T.bo, T.pre, List.map_cons, AQ (n + 1) ps]
theorem AQ (n : Nat) : ∀ ts : List T, (EX n ts).map (·.1) = nV n ts
  | [] => rfl
  | t :: r => by rw [EX, nV, List.map_append, LJ n t, AQ n r]
end
mutual
theorem IZ (n : Nat) : ∀ t : T, (t.bo n).map (·.2) = t.subs
  | .nd k ps => by rw [T.bo, T.subs, List.map_cons, yb (n + 1) ps]
theorem yb (n : Nat) : ∀ ts : List T, (EX n ts).map (·.2) = fQ ts
  | [] => rfl
  | t :: r => by rw [EX, fQ, List.map_append, IZ n t, yb n r]
end
noncomputable def flat (f : Nat → List T) : Nat → List ((Nat × Str) × T)
  | 0 => EX 0 (f 0)
  | n + 1 => EX (n + 1) (f (n + 1)) ++ flat f n
noncomputable def stp (f : Nat → List T) (p : Nat × Str) : Nat → List T := fun n => if n = p.1 then T.nd p.2 (f (p.1 + 1)) :: f p.1 else if n = p.1 + 1 then [] else f n
theorem yc {f g : Nat → List T} : ∀ n, (∀ m, m ≤ n → f m = g m) → flat f n = flat g n
  | 0, h => by rw [flat, flat, h 0 (Nat.le_refl _)]
  | n + 1, h => by rw [flat, flat, h (n + 1) (Nat.le_refl _), yc n fun m hm => h m (by omega)]
theorem GV (f : Nat → List T) (d : Nat) (k : Str) : flat (stp f (d, k)) d = ((d, k), T.nd k (f (d + 1))) :: flat f (d + 1) := by
  have h0 : stp f (d, k) d = T.nd k (f (d + 1)) :: f d := by simp [stp]
  cases d with
  | zero =>
    rw [flat, h0, EX, T.bo, flat, flat]; simp
  | succ d =>
    have h1 : flat (stp f (d + 1, k)) d = flat f d := yc d fun m hm => by
      simp only [stp]
      rw [if_neg (by omega), if_neg (by omega)]
    rw [flat, h0, h1, EX, T.bo, flat, flat]; simp
theorem D4 {f : Nat → List T} {b : Nat} (h : ∀ n, b < n → f n = []) : ∀ m, b ≤ m → flat f m = flat f b
  | 0, hm => by rw [show b = 0 by omega]
  | m + 1, hm => by
    by_cases e : b = m + 1
    · rw [e]
    · rw [flat, h (m + 1) (by omega), EX, List.nil_append, D4 h m (by omega)]
noncomputable def RC (b : Nat) : List (Nat × Str) → Prop
  | [] => True
  | p :: q => b ≤ p.1 + 1 ∧ RC p.1 q
noncomputable def vJ (f : Nat → List T) : List (Nat × Str) → List T
  | [] => []
  | p :: q => T.nd p.2 (f (p.1 + 1)) :: vJ (stp f p) q
noncomputable def zF (b : Nat) : List (Nat × Str) → Nat
  | [] => b
  | p :: q => zF p.1 q
theorem uV : ∀ (q : List (Nat × Str)) (f : Nat → List T), (vJ f q).length = q.length
  | [], f => rfl
  | p :: q, f => by rw [vJ, List.length_cons, uV q, List.length_cons]
theorem Ca : ∀ (q : List (Nat × Str)) (f : Nat → List T) (b : Nat), RC b q → (∀ n, b < n → f n = []) →
    (∀ n, zF b q < n → q.foldl stp f n = []) ∧ flat (q.foldl stp f) (zF b q) = (q.zip (vJ f q)).reverse ++ flat f b
  | [], f, b, h, hb => ⟨hb, by simp [zF]⟩
  | p :: q, f, b, h, hb => by
    obtain ⟨d, k⟩ := p
    obtain ⟨h1, h2⟩ : b ≤ d + 1 ∧ RC d q := h
    have hb' : ∀ n, d < n → stp f (d, k) n = [] := fun n hn => by
      simp only [stp]
      rw [if_neg (by omega)]
      by_cases e : n = d + 1
      · rw [if_pos e]
      · rw [if_neg e]; exact hb n (by omega)
    obtain ⟨i1, i2⟩ := Ca q (stp f (d, k)) d h2 hb'
    refine ⟨i1, ?_⟩
    show flat (q.foldl stp (stp f (d, k))) (zF d q) = _
    rw [i2, GV, D4 hb (d + 1) h1, vJ]
    simp
theorem Val.rc {rs : List (Nat × Str)} {e : Nat} (h : Val rs e) : ∀ b, b ≤ e + 1 → RC b rs.reverse := by
  induction h with
  | one k => intro b hb; exact ⟨hb, trivial⟩
  | snoc k hv h1 h2 ih =>
    intro b hb
    rw [List.reverse_append]
    exact ⟨hb, ih _ h2⟩
theorem Val.head {rs : List (Nat × Str)} {e : Nat} (h : Val rs e) : ∃ k r, rs = (0, k) :: r ∧ ∀ p ∈ r, 1 ≤ p.1 := by
  induction h with
  | one k => exact ⟨k, [], rfl, fun p hp => by simp at hp⟩
  | snoc k hv h1 h2 ih =>
    obtain ⟨k0, r, rfl, hr⟩ := ih
    refine ⟨k0, r ++ [(_, k)], rfl, fun p hp => ?_⟩
    rcases List.mem_append.mp hp with hp | hp
    · exact hr p hp
    · rw [List.mem_singleton.mp hp]; exact h1
theorem zG : ∀ (q : List (Nat × Str)) (f : Nat → List T), (∀ p ∈ q, 1 ≤ p.1) → q.foldl stp f 0 = f 0
  | [], f, _ => rfl
  | p :: q, f, h => by
    have hp := h p (by simp)
    rw [List.foldl_cons, zG q _ fun x hx => h x (by simp [hx])]
    simp only [stp]
    rw [if_neg (by omega), if_neg (by omega)]
theorem zH : ∀ (q : List (Nat × Str)) (b : Nat) (p : Nat × Str), zF b (q ++ [p]) = p.1
  | [], b, p => rfl
  | x :: q, b, p => zH q x.1 p
theorem I8 {rs : List (Nat × Str)} {e : Nat} (h : Val rs e) : ∃ t : T, rs = t.pre 0 ∧ (vJ (fun _ => []) rs.reverse).reverse = t.subs := by
  obtain ⟨k0, r, rfl, hr⟩ := h.head
  have rc := h.rc 0 (by omega)
  obtain ⟨i1, i2⟩ := Ca _ (fun _ => []) 0 rc (fun _ _ => rfl)
  have N5 : ((0, k0) :: r).reverse = r.reverse ++ [(0, k0)] := by simp
  rw [N5] at i1 i2
  rw [zH, List.foldl_append] at i2
  have hz : (r.reverse.foldl stp (fun _ => [])) 0 = [] := zG r.reverse _ fun p hp => hr p (by simpa using hp)
  have h0 : ([(0, k0)].foldl stp (r.reverse.foldl stp fun _ => [])) 0 = [T.nd k0 ((r.reverse.foldl stp fun _ => []) 1)] := by
    show stp _ (0, k0) 0 = _
    simp [stp, hz]
  rw [flat, h0] at i2
  refine ⟨T.nd k0 ((r.reverse.foldl stp fun _ => []) 1), ?_, ?_⟩
  · have := congrArg (List.map (·.1)) i2
    rw [AQ, nV, nV, List.append_nil] at this
    rw [this, flat, EX]
    rw [List.append_nil, List.map_reverse, List.map_fst_zip (by rw [uV]; exact Nat.le_refl _)]
    simp
  · have := congrArg (List.map (·.2)) i2
    rw [yb, fQ, fQ, List.append_nil] at this
    rw [this, flat, EX]
    rw [List.append_nil, List.map_reverse, List.map_snd_zip (by rw [uV]; exact Nat.le_refl _)]
    rw [N5]
end K32
end
section
set_option Elab.async false
set_option linter.all false
set_option maxRecDepth 100000
set_option maxHeartbeats 1000000
namespace K32
open PySem PySem.Spec L2 L3
theorem lD {p : Key × D} {r : List (Key × D)} {k : Key} (e : p.1 = k) : mU (p :: r) k = some p.2 := by simp [mU, List.find?_cons, e]
theorem lE {p : Key × D} {r : List (Key × D)} {k : Key} (e : ¬ p.1 = k) : mU (p :: r) k = mU r k := by simp [mU, List.find?_cons, e]
theorem yd (k : Key) : ∀ kvs : List (Key × D), (kvs.any fun kv => decide (kv.1 = k)) = (mU kvs k).isSome
  | [] => rfl
  | p :: r => by
    rw [List.any_cons]
    by_cases e : p.1 = k
    · simp only [lD e, decide_eq_true e, Bool.true_or, Option.isSome_some]
    · rw [lE e, decide_eq_false e, Bool.false_or]; exact yd k r
theorem Cb (k j : Key) (y : D) : ∀ kvs : List (Key × D), mU (kvs.map fun kv => if kv.1 = k then (kv.1, y) else kv) j = (mU kvs j).map fun x => if j = k then y else x
  | [] => rfl
  | p :: r => by
    have ih := Cb k j y r
    rw [List.map_cons]
    by_cases h : p.1 = k
    · rw [if_pos h]
      by_cases e : p.1 = j
      · rw [lD (p := (p.1, y)) e, lD e, Option.map_some, if_pos (e.symm.trans h)]
      · rw [lE (p := (p.1, y)) e, lE e, ih]
    · rw [if_neg h]
      by_cases e : p.1 = j
      · rw [lD (p := p) e, lD e, Option.map_some, if_neg (fun z => h (e.trans z))]
      · rw [lE (p := p) e, lE e, ih]
theorem zI (k j : Key) (y : D) : ∀ kvs : List (Key × D), mU kvs k = none → mU (kvs ++ [(k, y)]) j = if j = k then some y else mU kvs j
  | [], _ => by
    by_cases e : k = j
    · rw [if_pos e.symm]; exact lD (p := (k, y)) e
    · rw [if_neg (fun z => e z.symm)]; exact lE (p := (k, y)) e
  | p :: r, hn => by
    rw [List.cons_append]
    have hk : ¬ p.1 = k := fun z => by rw [lD z] at hn; cases hn
    rw [lE hk] at hn
    have ih := zI k j y r hn
    by_cases e : p.1 = j
    · rw [lD e, lD e, if_neg (fun z => hk (e.trans z))]
    · rw [lE e, lE e, ih]
theorem ye (kvs : List (Key × D)) (k j : Key) (y : D) : mU (sF kvs k y) j = if j = k then some y else mU kvs j := by
  unfold sF
  by_cases a : (kvs.any fun kv => decide (kv.1 = k)) = true
  · rw [if_pos a, Cb]
    rw [yd] at a
    by_cases e : j = k
    · obtain ⟨x, hx⟩ := Option.isSome_iff_exists.mp a
      rw [if_pos e, e, hx, Option.map_some, if_pos rfl]
    · rw [if_neg e]
      cases mU kvs j with
      | none => rfl
      | some x => rw [Option.map_some, if_neg e]
  · rw [if_neg a]
    refine zI k j y kvs ?_
    rw [yd] at a
    cases q : mU kvs k with
    | none => rfl
    | some x => rw [q] at a; exact (a rfl).elim
theorem D5 (kvs : List (Key × D)) (k : Key) (v : D) : (sF kvs k v).length ≤ kvs.length + 1 := by
  unfold sF
  split
  · rw [List.length_map]; omega
  · rw [List.length_append, List.length_cons, List.length_nil]; omega
noncomputable def HK (f : Nat → List T) (kvs : List (Key × D)) : Prop := ∀ n : Nat, (mU kvs (Sum.inl (n : Int))).getD (.con []) = .con (dL (f n)).reverse
theorem yf (τ : DS) (G : DH) : eFn (az fu (ao)) τ G = .ok (.con []) G := by
  rw [gW, aC, aB, aE, j9 (Nat.zero_le _) rfl]
theorem D6 {E : DS → M D} {τ : DS} {A B : DH} {kvs : List (Key × D)} {n : Int} (h1 : τ[1]? = some (some (.obj A.length))) (h2 : E τ (A ++ .dct kvs :: B) = .ok (.int n) (A ++ .dct kvs :: B)) :
    pe (ai 1) E (eFn (az fu (ao))) τ (A ++ .dct kvs :: B) = .ok ((mU kvs (Sum.inl n)).getD (.con [])) (A ++ .dct kvs :: B) := by
  simp only [bD, ay, h1, aE, zu, JD, if_true, h2, aj, yf, DU, BD]
theorem Ja {E : DS → M D} {τ : DS} {H : DH} {xs : List D} {x : D} (h1 : E τ H = .ok (.con xs) H) (h2 : τ[6]? = some (some x)) (hc : aW xs = true) (hx : x.closed = true) (hz : xs.length + 1 ≤ sizeLine) :
    eFn (aG av E (eFn (az fu (af (ai 6) (ao))))) τ H = .ok (.con (xs ++ [x])) H := by
  have e1 : eFn (az fu (af (ai 6) (ao))) τ H = .ok (.con [x]) H := by
    rw [gW]
    simp only [aC, aq, aB, ay, h2, aE, aj, aK]
    rw [j9 (by simp; omega) (by simp [eG, hx, kF])]
  rw [gW, aP, h1, aE, aj, e1, aE]
  show (fu (xs ++ [x]) H).fw H = _
  rw [j9 (by simp; omega) (by rw [ri, hc]; simp [eG, hx, kF])]
theorem qD {xs : List D} (h : aW xs = true) : aW xs.reverse = true := by
  induction xs with
  | nil => rfl
  | cons x xs ih =>
    rw [eG] at h
    have h' : x.closed = true ∧ aW xs = true := by simpa using h
    rw [List.reverse_cons, ri, ih h'.2]; simp [eG, h'.1, kF]
theorem Dj (G : DH) (a0 a5 a6 : Option D) (d : Nat) (k : Str) (f : Nat → List T) (kvs : List (Key × D)) (acc : List T) (M : Nat) (hM : M ≤ 200) (hk : HK f kvs) (hf : ∀ n, (f n).length ≤ M) (K8 : kvs.length ≤ 2 * M) (ha : acc.length ≤ M) :
    ∃ (b5 : Option D) (kvs' : List (Key × D)), HK (stp f (d, k)) kvs' ∧ kvs'.length ≤ 2 * (M + 1) ∧
      lX [a0, some (.obj G.length), some (.obj (G.length + 1)), some (.int (d : Int)), some (.str k), a5, a6] (G ++ [.dct kvs, .lst (acc.map T.d)]) =
        .nx [a0, some (.obj G.length), some (.obj (G.length + 1)), some (.int (d : Int)), some (.str k), b5, some (T.nd k (f (d + 1))).d] (G ++ [.dct kvs', .lst ((acc ++ [T.nd k (f (d + 1))]).map T.d)]) := by
  have hd1 := hk (d + 1)
  have ei : ((d + 1 : Nat) : Int) = (d : Int) + 1 := by omega
  rw [ei] at hd1
  have hd0 := hk d
  have hlen : ∀ n, (dL (f n)).length ≤ M := fun n => by rw [x8, List.length_map]; exact hf n
  have hcl : ∀ n, aW (dL (f n)).reverse = true := fun n => qD (vI _)
  generalize hk1 : sF kvs (Sum.inl ((d : Int) + 1)) (.con []) = yM
  have hne : (Sum.inl (d : Int) : Key) ≠ Sum.inl ((d : Int) + 1) := fun e => by have := Sum.inl.inj e; omega
  have hv1 : (mU yM (Sum.inl (d : Int))).getD (.con []) = .con (dL (f d)).reverse := by
    rw [← hk1, ye, if_neg hne]; exact hd0
  generalize hk2 : sF yM (Sum.inl (d : Int)) (.con ((dL (f d)).reverse ++ [(T.nd k (f (d + 1))).d])) = Jb
  have l1 : yM.length ≤ 2 * M + 1 := by rw [← hk1]; have := D5 kvs (Sum.inl ((d : Int) + 1)) (.con []); omega
  have l2 : Jb.length ≤ 2 * M + 2 := by rw [← hk2]; have := D5 yM (Sum.inl (d : Int)) (.con ((dL (f d)).reverse ++ [(T.nd k (f (d + 1))).d])); omega
  have z0 : kvs.length < sizeLine := Nat.lt_of_lt_of_le (by omega) (lz (n := 1001) (by omega))
  have z1 : yM.length < sizeLine := Nat.lt_of_lt_of_le (by omega) (lz (n := 1001) (by omega))
  have z2 : (2 : Nat) ≤ sizeLine := lz (by omega)
  have z3 : (dL (f (d + 1))).length ≤ sizeLine := lz (by have := hlen (d + 1); omega)
  have z4 : (dL (f d)).reverse.length + 1 ≤ sizeLine := lz (by rw [List.length_reverse]; have := hlen d; omega)
  have z5 : acc.length < sizeLine := Nat.lt_of_lt_of_le (by omega) (lz (n := 1001) (by omega))
  refine ⟨some (.con (dL (f (d + 1))).reverse), Jb, fun n => ?_, by omega, ?_⟩
  · rw [← hk2, ye]
    by_cases e : n = d
    · subst e
      rw [if_pos rfl]
      simp [stp, dL]
    · have ne2 : (Sum.inl (n : Int) : Key) ≠ Sum.inl (d : Int) := fun z => e (by have := Sum.inl.inj z; omega)
      rw [if_neg ne2, ← hk1, ye]
      by_cases e1 : n = d + 1
      · subst e1
        rw [if_pos (by rw [ei])]
        simp only [stp]
        rw [if_neg (by omega)]
        simp [dL]
      · have ne3 : (Sum.inl (n : Int) : Key) ≠ Sum.inl ((d : Int) + 1) := fun z => e1 (by have := Sum.inl.inj z; omega)
        rw [if_neg ne3]
        simp only [stp]
        rw [if_neg e, if_neg e1]
        exact hk n
  · have g1 := D6 (E := aG av (ai 3) (eC (.int 1))) (τ := [a0, some (.obj G.length), some (.obj (G.length + 1)), some (.int (d : Int)), some (.str k), a5, a6]) (A := G) (B := [.lst (acc.map T.d)]) (kvs := kvs) (n := (d : Int) + 1) rfl (by simp [aN, bR, dG, gg, gh, gi, gj, cH, gb, gC, jR, aU, bZ, jS, bO, fk, jT, bF, cV, jU, aV, cB, aE, jV, jW, aj, aK, dM, ay, cO, aP, aC, aB, aq, bM, aM, bu, ck, dm, bH, dH, aL, aX, gk, aQ, bw, cu, fy, jX, bP, aZ, bx, bJ, gm, cW, jY, eS, bz, bA, bB, cQ, cR, cC, bC, bK, gu, bh, fT, dR, gn, gp, gq, gr, dI, dU, dW, dX, gx, dY, dZ, bq, cD, cE, bD, cF, gw, iz, fD, aD, bT, cM, bW, av, cN, bU, aS, iS, iH, qM, Ty.is])
    rw [hd1] at g1
    have g2 : ∀ x, pe (ai 1) (ai 3) (eFn (az fu (ao))) [a0, some (.obj G.length), some (.obj (G.length + 1)), some (.int (d : Int)), some (.str k), some (.con (dL (f (d + 1))).reverse), x] (G ++ .dct yM :: [.lst (acc.map T.d)]) = .ok (.con (dL (f d)).reverse) (G ++ .dct yM :: [.lst (acc.map T.d)]) := fun x => by
      have := D6 (E := ai 3) (τ := [a0, some (.obj G.length), some (.obj (G.length + 1)), some (.int (d : Int)), some (.str k), some (.con (dL (f (d + 1))).reverse), x]) (A := G) (B := [.lst (acc.map T.d)]) (kvs := yM) (n := (d : Int)) rfl rfl
      rw [hv1] at this
      exact this
    have g3 := Ja (x := (T.nd k (f (d + 1))).d) (g2 (some (T.nd k (f (d + 1))).d)) rfl (hcl d) (rO _) z4
    have et : (T.nd k (f (d + 1))).d = .tup [.str k, .tup (dL (f (d + 1)))] := by rw [T.d]
    rw [et] at g3 hk2 ⊢
    generalize UW : pe (ai 1) (aG av (ai 3) (eC (.int 1))) (eFn (az fu (ao))) = E1 at g1
    generalize UX : eFn (aG av (pe (ai 1) (ai 3) (eFn (az fu (ao)))) (eFn (az fu (af (ai 6) (ao))))) = E2 at g3
    unfold lX
    rw [UW, UX]
    simp [aN, bR, dG, gg, gh, gi, gj, cH, gb, gC, jR, aU, bZ, jS, bO, fk, jT, bF, cV, jU, aV, cB, aE, jV, jW, aj, aK, dM, ay, cO, aP, aC, aB, aq, bM, aM, bu, ck, dm, bH, dH, aL, aX, gk, aQ, bw, cu, fy, jX, bP, aZ, bx, bJ, gm, cW, jY, eS, bz, bA, bB, cQ, cR, cC, bC, bK, gu, bh, fT, dR, gn, gp, gq, gr, dI, dU, dW, dX, gx, dY, dZ, bq, cD, cE, bD, cF, gw, iz, fD, aD, bT, cM, bW, av, cN, bU, aS, iS, iH, qM, Ty.is, g1, yf, BI, BD, IC, hk1, z0, g3, hk2, z1, BK, z2, z3, z5, Nb, Rn, et]
end K32
end
section
set_option Elab.async false
set_option linter.all false
set_option maxRecDepth 100000
set_option maxHeartbeats 1000000
namespace K32
open PySem PySem.Spec L2 L3
theorem Jc {f : Nat → List T} {M : Nat} (h : ∀ n, (f n).length ≤ M) (p : Nat × Str) (n : Nat) : (stp f p n).length ≤ M + 1 := by
  simp only [stp]
  split
  · have := h p.1
    simp; omega
  · split
    · simp
    · have := h n
      omega
theorem yg (G : DH) (a0 : Option D) : ∀ (q : List (Nat × Str)) (f : Nat → List T) (kvs : List (Key × D)) (acc : List T) (M : Nat) (a3 a4 a5 a6 : Option D), M + q.length ≤ 200 → HK f kvs → (∀ n, (f n).length ≤ M) → kvs.length ≤ 2 * M → acc.length ≤ M →
    ∃ (b3 b4 b5 b6 : Option D) (kvs' : List (Key × D)), fY (gP 3 4) lX (q.map row) [a0, some (.obj G.length), some (.obj (G.length + 1)), a3, a4, a5, a6] (G ++ [.dct kvs, .lst (acc.map T.d)]) =
      .nx [a0, some (.obj G.length), some (.obj (G.length + 1)), b3, b4, b5, b6] (G ++ [.dct kvs', .lst ((acc ++ vJ f q).map T.d)])
  | [], f, kvs, acc, M, a3, a4, a5, a6, hM, hk, hf, K8, ha => ⟨a3, a4, a5, a6, kvs, by simp [fY, vJ]⟩
  | (d, k) :: q, f, kvs, acc, M, a3, a4, a5, a6, hM, hk, hf, K8, ha => by
    simp only [List.length_cons] at hM
    obtain ⟨b5, yM, h1, h2, e1⟩ := Dj G a0 a5 a6 d k f kvs acc M (by omega) hk hf K8 ha
    obtain ⟨c3, c4, c5, c6, Jb, e2⟩ := yg G a0 q (stp f (d, k)) yM (acc ++ [T.nd k (f (d + 1))]) (M + 1) (some (.int (d : Int))) (some (.str k)) b5 (some (T.nd k (f (d + 1))).d) (by omega) h1 (Jc hf (d, k)) h2 (by simp; omega)
    refine ⟨c3, c4, c5, c6, Jb, ?_⟩
    rw [List.map_cons, iJ (τ1 := [a0, some (.obj G.length), some (.obj (G.length + 1)), some (.int (d : Int)), some (.str k), a5, a6]) rfl, e1, dR, e2, vJ]
    simp
theorem Jd {τ : DS} {H : DH} {n : Nat} {L : List D} (h : τ[2]? = some (some (.obj n))) (hg : H[n]? = some (.lst L)) (hz : L.length ≤ sizeLine) (hc : aW L = true) : eFn (az sE (af (ai 2) (ao))) τ H = .ok (.con L.reverse) H := by
  rw [gW]
  simp only [aC, aq, aB, ay, h, aE, aj, aK, sE, aD, hg]
  rw [j9 (by simpa using hz) (qD hc)]
theorem GW (rs : List (Nat × Str)) (hl : rs.length ≤ 100) (G : DH) : jA [.con (rs.map row)] G = .ok (.con ((vJ (fun _ => []) rs.reverse).reverse.map T.d)) G := by
  obtain ⟨b3, b4, b5, b6, kvs, e⟩ := yg G (some (.con (rs.map row))) rs.reverse (fun _ => []) [] [] 0 none none none none (by simp; omega) (fun n => rfl) (fun n => Nat.le_refl _) (by simp) (by simp)
  have hz : ((vJ (fun _ => []) rs.reverse).map T.d).length ≤ sizeLine := lz (by rw [List.length_map, uV, List.length_reverse]; omega)
  have hc : aW ((vJ (fun _ => []) rs.reverse).map T.d) = true := aR rO
  simp only [List.nil_append, List.map_nil] at e
  rw [List.map_reverse]
  generalize (vJ (fun _ => []) rs.reverse).map T.d = L at e hz hc
  refine oW (R := [.dct kvs, .lst L]) ?_ (by rw [cS]; exact qD hc)
  have hn : fu [] (G ++ [.dct []]) = .ok (.obj (G.length + 1)) (G ++ [.dct [], .lst []]) := by simp [fu]
  rw [List.map_reverse] at e
  generalize rs.map row = xs at e
  have er := Jd (τ := [some (.con xs), some (.obj G.length), some (.obj (G.length + 1)), b3, b4, b5, b6]) (H := G ++ [.dct kvs, .lst L]) (n := G.length + 1) rfl (Nb _ _ _ _) hz hc
  unfold nA
  simp [aN, bR, dG, gg, gh, gi, gj, cH, gb, gC, jR, aU, bZ, jS, bO, fk, jT, bF, cV, jU, aV, cB, aE, jV, jW, aj, aK, dM, ay, cO, aP, aC, aB, aq, bM, aM, bu, ck, dm, bH, dH, aL, aX, gk, aQ, bw, cu, fy, jX, bP, aZ, bx, bJ, gm, cW, jY, eS, bz, bA, bB, cQ, cR, cC, bC, bK, gu, bh, fT, dR, gn, gp, gq, gr, dI, dU, dW, dX, gx, dY, dZ, bq, cD, cE, bD, cF, gw, iz, fD, aD, bT, cM, bW, av, cN, bU, aS, iS, iH, qM, Ty.is, hn, IM, e, er]
noncomputable def pl (p : List Int) : D := .tup (p.map .int)
theorem EY (xs ys : List D) (G : DH) (h : xs.length + ys.length ≤ sizeLine) : av (.tup xs) (.tup ys) G = .ok (.tup (xs ++ ys)) G := by
  cases xs with
  | nil => rfl
  | cons x xs => show cN (x :: xs ++ ys) G = _; rw [cN, if_pos (by simp at h ⊢; omega)]
noncomputable def Lst (p : List Int) (j : Int) (q : List Int) : Prop := (j = 0 ∧ q = p) ∨ ∃ i r, j = i + 1 ∧ q = p ++ i :: r
theorem Je (p r : List Int) (i : Int) : tS ((p ++ i :: r).map D.int) (p.length : Int) = some (.int i) := by
  refine lW ?_
  rw [List.getElem?_map]
  simp
theorem Dk (G : DH) (a0 b4 : Option D) (k : Str) (p q : List Int) (j : Int) (ini : List (List Int)) (h : Lst p j q) (hp : p.length ≤ 1000) (hi : ini.length ≤ 1000) :
    gG [a0, some (.obj G.length), some (.int ((p.length + 1 : Nat) : Int)), some (.str k), b4] (G ++ [.lst ((ini ++ [q]).map pl)]) =
      .nx [a0, some (.obj G.length), some (.int ((p.length + 1 : Nat) : Int)), some (.str k), some (pl q)] (G ++ [.lst ((ini ++ [q] ++ [p ++ [j]]).map pl)]) := by
  have hla : tS ((ini ++ [q]).map pl) (-1) = some (pl q) := by
    rw [List.map_append, List.map_cons, List.map_nil, xY]
  have z1 : ((ini ++ [q]).map pl).length < sizeLine := Nat.lt_of_lt_of_le (by simp; omega) (lz (n := 2001) (by omega))
  have z2 : (1 : Nat) ≤ sizeLine := lz (by omega)
  have hadd := EY
  have ex : (ini ++ [q] ++ [p ++ [j]]).map pl = (ini ++ [q]).map pl ++ [pl (p ++ [j])] := by rw [List.map_append, List.map_cons, List.map_nil]
  rw [ex]
  generalize (ini ++ [q]).map pl = L at hla z1
  rcases h with ⟨rfl, rfl⟩ | ⟨i, r, rfl, rfl⟩
  · have z3 : q.length + 1 ≤ sizeLine := lz (by omega)
    have hA := EY (q.map .int) [.int 0]
    simp only [List.length_map, List.length_cons, List.length_nil] at hA
    have LL : ∀ G, av (pl q) (.tup [.int 0]) G = .ok (pl (q ++ [0])) G := fun G => by
      unfold pl
      rw [hA G (by omega)]; simp
    have hlen : ∀ G, bW [pl q] G = .ok (.int (q.length : Int)) G := fun G => by simp [bW, pl, aD]
    have hd : ((q.length : Int) < ((q.length + 1 : Nat) : Int)) := by omega
    generalize pl q = pq at hla LL hlen
    generalize pl (q ++ [0]) = pn at LL
    generalize ((q.length + 1 : Nat) : Int) = dd at hd
    have z4 : 0 + 1 ≤ sizeLine := z2
    unfold gG
    simp only [aN, aU, aP, cQ, cR, ay, cO, aE, aj, List.getElem?_cons_succ, List.getElem?_cons_zero, fD, aD, JD, hla, bZ, bR, cH, bM, aC, aq, aB, aK, hlen, bT, if_true, aM, gb, gC, bO, aX, bU, aS, if_pos z1, IC, fk, cN, List.length_cons, List.length_nil, List.set_cons_succ, List.set_cons_zero, beq_self_eq_true, decide_eq_true hd, LL, if_pos z4]
  · have z3 : p.length + 1 ≤ sizeLine := lz (by omega)
    have hlen : ∀ G, bW [pl (p ++ i :: r)] G = .ok (.int ((p ++ i :: r).length : Int)) G := fun G => by simp [bW, pl, aD]
    have hd : ¬ (((p ++ i :: r).length : Int) < ((p.length + 1 : Nat) : Int)) := by simp; omega
    have hix : ∀ G, fD (pl (p ++ i :: r)) (.int (p.length : Int)) G = .ok (.int i) G := fun G => by
      simp only [fD, pl, aD, Je]
    have hsl : ∀ G, DB (pl (p ++ i :: r)) none (some (p.length : Int)) G = .ok (pl p) G := fun G => by
      unfold pl
      simp only [DB, aD]
      have hs : HT.jL ((p ++ i :: r).map D.int).length ((p ++ i :: r).map D.int).length (some (p.length : Int)) = p.length := by
        rw [HT.tW]; simp
      rw [if_neg (by rw [hs]; simp), cN]
      have vm : cutD ((p ++ i :: r).map D.int) none (some (p.length : Int)) = p.map .int := by
        unfold cutD
        rw [hs, HT.pF]; simp
      rw [vm, if_pos (by simp; omega)]
    have hA := EY (p.map .int) [.int (i + 1)]
    simp only [List.length_map, List.length_cons, List.length_nil] at hA
    have LL : ∀ G, av (pl p) (.tup [.int (i + 1)]) G = .ok (pl (p ++ [i + 1])) G := fun G => by
      unfold pl
      rw [hA G (by omega)]; simp
    have UY : ∀ G, av (.int i) (.int 1) G = .ok (.int (i + 1)) G := fun G => rfl
    have QJ : ((p.length + 1 : Nat) : Int) - 1 = (p.length : Int) := by omega
    have hfw : ∀ G, (Out.ok (pl p) G).fw G = .ok (pl p) G := fun G => dI
    generalize pl (p ++ i :: r) = pq at hla hlen hix hsl
    generalize ((p ++ i :: r).length : Int) = ll at hlen hd
    generalize pl (p ++ [i + 1]) = pn at LL
    generalize pl p = pp at hsl LL hfw
    generalize ((p.length + 1 : Nat) : Int) = dd at hd QJ
    have z4 : 0 + 1 ≤ sizeLine := z2
    unfold gG
    rw [aN, aU]
    have e1 : aG fD (ai 1) (kL (eC (.int 1))) [a0, some (.obj G.length), some (.int dd), some (.str k), b4] (G ++ [.lst L]) = .ok pq (G ++ [.lst L]) := by
      simp only [aN, aU, aP, cQ, cR, ay, cO, aE, aj, List.getElem?_cons_succ, List.getElem?_cons_zero, fD, aD, JD, hla, bZ, bR, cH, bM, aC, aq, aB, aK, hlen, bT, if_true, aM, gb, gC, bO, aX, bU, aS, if_pos z1, IC, fk, cN, List.length_cons, List.length_nil, List.set_cons_succ, List.set_cons_zero, beq_self_eq_true]
    rw [e1, bZ, bR, cH]
    have e2 : j3 (aG A2 (ai 2) (az bW (af (ai 4) (ao)))) [a0, some (.obj G.length), some (.int dd), some (.str k), some pq] (G ++ [.lst L]) = .ok false (G ++ [.lst L]) := by
      simp only [bM, aP, ay, aC, aq, aB, aE, aj, aK, List.getElem?_cons_succ, List.getElem?_cons_zero, hlen, bT, if_true, aM, decide_eq_false hd]
    simp only [List.set_cons_succ, List.set_cons_zero]
    rw [e2, gC]
    have e3 : ∀ τ, eFn (oH (ai 4) (dQ) (dF (aG wZ (ai 2) (eC (.int 1))))) (a0 :: some (.obj G.length) :: some (.int dd) :: some (.str k) :: some pq :: τ) (G ++ [.lst L]) = .ok pp (G ++ [.lst L]) := fun τ => by
      rw [gW]
      simp only [eS, ay, List.getElem?_cons_succ, List.getElem?_cons_zero, aE, aj, bz, bA, aP, cO, bT, if_true, aK, bB, QJ, hsl, hfw]
    have e4 : ∀ τ, aG fD (ai 4) (aG wZ (ai 2) (eC (.int 1))) (a0 :: some (.obj G.length) :: some (.int dd) :: some (.str k) :: some pq :: τ) (G ++ [.lst L]) = .ok (.int i) (G ++ [.lst L]) := fun τ => by
      simp only [ay, List.getElem?_cons_succ, List.getElem?_cons_zero, aE, aj, aP, cO, bT, if_true, aK, QJ, hix]
    generalize eFn (oH (ai 4) (dQ) (dF (aG wZ (ai 2) (eC (.int 1))))) = E3 at e3
    generalize aG fD (ai 4) (aG wZ (ai 2) (eC (.int 1))) = E4 at e4
    simp only [bO, aX, ay, List.getElem?_cons_succ, List.getElem?_cons_zero, aE, bU, JD, beq_self_eq_true, if_true, aq, aP, e3, aj, aC, e4, cO, UY, aB, aK, cN, List.length_cons, List.length_nil, if_pos z4, LL, aS, if_pos z1, IC, fk]
end K32
end
section
set_option Elab.async false
set_option linter.all false
set_option maxRecDepth 100000
set_option maxHeartbeats 1000000
namespace K32
open PySem PySem.Spec L2 L3
mutual
theorem Jf (G : DH) (a0 : Option D) : ∀ (t : T) (p q : List Int) (j : Int) (ini : List (List Int)) (b2 b3 b4 : Option D) (rest : List D), Lst p j q → p.length + t.subs.length ≤ 1000 → ini.length + t.subs.length ≤ 1000 →
    ∃ (c2 c3 c4 : Option D) (Dl : List (List Int)) (r : List Int), Dl ++ [p ++ j :: r] = ini ++ [q] ++ (t.prs (p ++ [j])).map (·.1) ∧
      fY (gP 2 3) gG ((t.pre (p.length + 1)).map row ++ rest) [a0, some (.obj G.length), b2, b3, b4] (G ++ [.lst ((ini ++ [q]).map pl)]) =
        fY (gP 2 3) gG rest [a0, some (.obj G.length), c2, c3, c4] (G ++ [.lst ((Dl ++ [p ++ j :: r]).map pl)])
  | .nd k ps, p, q, j, ini, b2, b3, b4, rest, h, hp, hi => by
    rw [T.subs, List.length_cons] at hp hi
    have e1 := Dk G a0 b4 k p q j ini h (by omega) (by omega)
    obtain ⟨c2, c3, c4, Dl, r, e2, e3⟩ := AR G a0 ps (p ++ [j]) (p ++ [j]) 0 (ini ++ [q]) (some (.int ((p.length + 1 : Nat) : Int))) (some (.str k)) (some (pl q)) rest (.inl ⟨rfl, rfl⟩) (by simp; omega) (by simp; omega)
    have hl : (p ++ [j]).length + 1 = p.length + 1 + 1 := by simp
    rw [hl] at e3
    refine ⟨c2, c3, c4, Dl, r, ?_, ?_⟩
    · rw [T.prs, List.map_cons]
      rw [show p ++ j :: r = p ++ [j] ++ r by simp, e2]; simp
    · rw [T.pre, List.map_cons, List.cons_append, iJ (τ1 := [a0, some (.obj G.length), some (.int ((p.length + 1 : Nat) : Int)), some (.str k), b4]) rfl, e1, dR]
      rw [e3, show p ++ j :: r = p ++ [j] ++ r by simp]
theorem AR (G : DH) (a0 : Option D) : ∀ (ts : List T) (p q : List Int) (j : Int) (ini : List (List Int)) (b2 b3 b4 : Option D) (rest : List D), Lst p j q → p.length + (fQ ts).length ≤ 1000 → ini.length + (fQ ts).length ≤ 1000 →
    ∃ (c2 c3 c4 : Option D) (Dl : List (List Int)) (r : List Int), Dl ++ [p ++ r] = ini ++ [q] ++ (gA p j ts).map (·.1) ∧
      fY (gP 2 3) gG ((nV (p.length + 1) ts).map row ++ rest) [a0, some (.obj G.length), b2, b3, b4] (G ++ [.lst ((ini ++ [q]).map pl)]) =
        fY (gP 2 3) gG rest [a0, some (.obj G.length), c2, c3, c4] (G ++ [.lst ((Dl ++ [p ++ r]).map pl)])
  | [], p, q, j, ini, b2, b3, b4, rest, h, hp, hi => by
    obtain ⟨r, hr⟩ : ∃ r, q = p ++ r := by
      rcases h with ⟨_, rfl⟩ | ⟨i, r, _, rfl⟩
      · exact ⟨[], by simp⟩
      · exact ⟨_, rfl⟩
    subst hr
    exact ⟨b2, b3, b4, ini, r, by simp [gA], by simp [nV]⟩
  | t :: ts, p, q, j, ini, b2, b3, b4, rest, h, hp, hi => by
    rw [fQ, List.length_append] at hp hi
    obtain ⟨c2, c3, c4, N6, r1, e1, f1⟩ := Jf G a0 t p q j ini b2 b3 b4 ((nV (p.length + 1) ts).map row ++ rest) h (by omega) (by omega)
    have hlen : N6.length = ini.length + (t.prs (p ++ [j])).length := by
      have := congrArg List.length e1
      simp at this; omega
    have hpl : (t.prs (p ++ [j])).length = t.subs.length := by rw [← pS (p ++ [j]) t, List.length_map]
    obtain ⟨d2, d3, d4, QK, r2, e2, f2⟩ := AR G a0 ts p (p ++ j :: r1) (j + 1) N6 c2 c3 c4 rest (.inr ⟨j, r1, rfl, rfl⟩) (by omega) (by omega)
    refine ⟨d2, d3, d4, QK, r2, ?_, ?_⟩
    · rw [e2, e1, gA]; simp
    · rw [nV, List.map_append, List.append_assoc, f1, f2]
end
theorem EZ (p : List Int) : (pl p).closed = true := by rw [pl, ko]; exact aR fun _ => eZ
theorem GX (t : T) (ht : t.subs.length ≤ 100) (G : DH) : kP [.con ((t.pre 0).map row)] G = .ok (.con (((t.prs []).map (·.1)).map pl)) G := by
  obtain ⟨k, ps⟩ := t
  rw [T.subs, List.length_cons] at ht
  have z1 : (1 : Nat) ≤ sizeLine := lz (by omega)
  obtain ⟨c2, c3, c4, ini, r, e1, e2⟩ := AR G (some (.con (((T.nd k ps).pre 0).map row))) ps [] [] 0 [] none none none [] (.inl ⟨rfl, rfl⟩) (by simp; omega) (by simp; omega)
  have e3 : (((T.nd k ps).prs []).map (·.1)) = ini ++ [[] ++ r] := by rw [e1, T.prs]; simp
  rw [e3]
  rw [List.append_nil, Bx] at e2
  generalize (ini ++ [[] ++ r]) = L at e2
  refine oW (R := [.dead]) ?_ (by rw [cS]; exact aR EZ)
  have hpre : ((T.nd k ps).pre 0).map row = row (0, k) :: (nV 1 ps).map row := by rw [T.pre, List.map_cons]
  have hl : (nV 1 ps).length = (fQ ps).length := x9 1 ps
  simp only [List.length_nil, Nat.zero_add] at e2
  have hsl : ∀ τ G, eFn (oH (ai 0) (dF (eC (.int 1))) (dQ)) (some (.con (((T.nd k ps).pre 0).map row)) :: τ) G = .ok (.con ((nV 1 ps).map row)) G := fun τ G => by
    rw [gW]
    have hs : HT.jL (((T.nd k ps).pre 0).map row).length 0 (some 1) = 1 := by
      have := HT.tW (((T.nd k ps).pre 0).map row).length 0 1
      rw [show ((1 : Nat) : Int) = 1 from rfl] at this
      rw [this, hpre]; simp
    have vm : cutD (((T.nd k ps).pre 0).map row) (some 1) none = (nV 1 ps).map row := by
      unfold cutD
      rw [hs, HT.pF, hpre]; simp
      exact List.take_of_length_le (by simp)
    have e : oH (ai 0) (dF (eC (.int 1))) (dQ) (some (.con (((T.nd k ps).pre 0).map row)) :: τ) G = fu ((nV 1 ps).map row) G := by
      simp only [eS, ay, List.getElem?_cons_zero, aE, aj, bA, cO, bB, bz, DB, aD, vm]
    rw [e, j9 (lz (by simp; omega)) (aR fun p => by rw [row, ko]; simp [eG, eZ, jm, kF])]
  generalize ((T.nd k ps).pre 0).map row = xs at e2 hsl
  generalize (nV 1 ps).map row = ys at e2 hsl
  have hn : fu [.tup []] G = .ok (.obj G.length) (G ++ [.lst [.tup []]]) := by simp [fu, z1]
  have ep : ([[]] : List (List Int)).map pl = [.tup []] := rfl
  simp only [List.nil_append, ep] at e2
  generalize hE : eFn (oH (ai 0) (dF (eC (.int 1))) (dQ)) = E at hsl
  unfold nB
  rw [hE]
  simp [aN, bR, dG, gg, gh, gi, gj, cH, gb, gC, jR, aU, bZ, jS, bO, fk, jT, bF, cV, jU, aV, cB, aE, jV, jW, aj, aK, dM, ay, cO, aP, aC, aB, aq, bM, aM, bu, ck, dm, bH, dH, aL, aX, gk, aQ, bw, cu, fy, jX, bP, aZ, bx, bJ, gm, cW, jY, eS, bz, bA, bB, cQ, cR, cC, bC, bK, gu, bh, fT, dR, gn, gp, gq, gr, dI, dU, dW, dX, gx, dY, dZ, bq, cD, cE, bD, cF, gw, iz, fD, aD, bT, cM, bW, av, cN, bU, aS, iS, iH, qM, Ty.is, hn, hsl, e2]
end K32
end
section
set_option Elab.async false
set_option linter.all false
set_option maxRecDepth 100000
set_option maxHeartbeats 1000000
namespace K32
open PySem PySem.Spec L2 L3
noncomputable def nc (x : List Int × T) : D := .tup [pl x.1, x.2.d]
theorem kC (p : List Int) : (pl p).closed = true := by rw [pl, ko]; exact aR fun _ => eZ
theorem oF (x : List Int × T) : (nc x).closed = true := by
  rw [nc, ko, eG, eG, kC, rO]; rfl
noncomputable def kids (p : List Int) (j : Int) : List T → List (List Int × T)
  | [] => []
  | t :: r => (p ++ [j], t) :: kids p (j + 1) r
theorem Cc (p : List Int) : ∀ (ts : List T) (j : Int), (kids p j ts).length = ts.length
  | [], j => rfl
  | t :: r, j => by rw [kids, List.length_cons, Cc p r, List.length_cons]
theorem zJ (p : List Int) : ∀ (ts : List T) (j : Int), gA p j ts = (kids p j ts).flatMap fun x => x.2.prs x.1
  | [], j => rfl
  | t :: r, j => by rw [gA, kids, List.flatMap_cons, zJ p r]
noncomputable def kf (p : List Int) : D → D
  | .tup [.int i, y] => .tup [.tup (p.map .int ++ [.int i]), y]
  | _ => .lG
noncomputable def Jg : D → List D
  | .tup xs => xs
  | _ => []
theorem Cd (p : List Int) : ∀ (ts : List T) (j : Nat), ((dL ts).mapIdx fun i x => D.tup [.int ((i + j : Nat) : Int), x]).map (kf p) = (kids p (j : Int) ts).map nc
  | [], j => rfl
  | t :: r, j => by
    have ih := Cd p r (j + 1)
    rw [dL, kids, List.mapIdx_cons, List.map_cons, List.map_cons]
    congr 1
    · simp [kf, nc, pl]
    · rw [show ((j + 1 : Nat) : Int) = (j : Int) + 1 by omega] at ih
      rw [← ih]
      congr 1
      apply List.ext_getElem?
      intro i
      simp only [List.getElem?_mapIdx]
      congr 1
      funext x
      rw [show i + 1 + j = i + (j + 1) by omega]
theorem GY (p : List Int) (k : Str) (ps : List T) (hp : p.length ≤ 1000) (hs : ps.length ≤ 1000) (G : DH) : e9 [nc (p, .nd k ps)] G = .ok (.con ((kids p 0 ps).map nc)) G := by
  have z1 : (1 : Nat) ≤ sizeLine := lz (by omega)
  have z2 : (2 : Nat) ≤ sizeLine := lz (by omega)
  have Sv : nc (p, .nd k ps) = .tup [.tup (p.map .int), .tup [.str k, .tup (dL ps)]] := by rw [nc, T.d]; rfl
  have hdl : (dL ps).length = ps.length := by rw [x8, List.length_map]
  have a0 : ∀ (x y : D), tS [x, y] 0 = some x := fun x y => by
    have := lW (xs := [x, y]) (j := 0) (v := x) rfl
    simpa using this
  have a1 : ∀ (x y : D), tS [x, y] 1 = some y := fun x y => by
    have := lW (xs := [x, y]) (j := 1) (v := y) rfl
    simpa using this
  have km := Cd p ps 0
  simp only [Nat.add_zero, Int.natCast_zero] at km
  have c1 := jz (τ := [some (nc (p, .nd k ps))]) (G := G) (gO := oT 2) (ks := [true]) (te := az cN (af (aG av (aG fD (ai 2) (eC (.int 0))) (az cN (af (ai 0) (ao)))) (af (ai 1) (ao)))) (own := Jg) (f := kf p) ((dL ps).mapIdx fun i x => D.tup [.int (i : Int), x]) [] (by simp; omega) (fun x hx => by
      obtain ⟨i, hi, rfl⟩ := List.mem_mapIdx.mp hx
      simp [oT, Jg]) (fun x hx acc => by
      obtain ⟨i, hi, rfl⟩ := List.mem_mapIdx.mp hx
      rw [Sv]
      have hA := EY (p.map .int) [.int (i : Int)] (G ++ [.lst acc]) (lz (by simp; omega))
      generalize (dL ps)[i] = y
      simp only [Jg, kf] at hA ⊢
      generalize p.map D.int = pp at hA ⊢
      simp only [ List.map_cons, List.map_nil, mask, List.cons_append, List.nil_append, if_true, aC, aq, aB, aP, ay, cO, List.getElem?_cons_succ, List.getElem?_cons_zero, aE, aj, aK, fD, aD, a0, cN, List.length_cons, List.length_nil, if_pos (show 0 + 1 ≤ sizeLine from z1), if_pos (show 0 + 1 + 1 ≤ sizeLine from z2), hA])
  rw [km, List.nil_append] at c1
  refine fB ?_ (by rw [cS]; exact aR oF)
  have e2 : eFn (nZ (oT 2) [true] (n5 (af (aG fD (aG fD (ai 0) (eC (.int 1))) (eC (.int 1))) (ao))) (jP) (az cN (af (aG av (aG fD (ai 2) (eC (.int 0))) (az cN (af (ai 0) (ao)))) (af (ai 1) (ao))))) [some (nc (p, .nd k ps))] G = .ok (.con ((kids p 0 ps).map nc)) G := by
    rw [gW]
    have e3 : nZ (oT 2) [true] (n5 (af (aG fD (aG fD (ai 0) (eC (.int 1))) (eC (.int 1))) (ao))) (jP) (az cN (af (aG av (aG fD (ai 2) (eC (.int 0))) (az cN (af (ai 0) (ao)))) (af (ai 1) (ao)))) [some (nc (p, .nd k ps))] G = .ok (.obj G.length) (G ++ [.lst ((kids p 0 ps).map nc)]) := by
      rw [← c1, ← C3]
      have hq : ∀ G, n5 (af (aG fD (aG fD (ai 0) (eC (.int 1))) (eC (.int 1))) (ao)) [some (nc (p, .nd k ps))] G = .ok ((dL ps).length + 1, qZ (dL ps)) G := fun G => by
        rw [Sv]
        simp only [bq, aq, aB, aP, ay, cO, List.getElem?_cons_zero, aE, aj, aK, fD, aD, a1]
      rw [bx, hq, aE]
    rw [e3, mV (aR oF)]
  unfold kO
  simp only [bJ, List.map_cons, List.map_nil, List.length_cons, List.length_nil, Nat.sub_self, List.replicate_zero, List.append_nil, bF, e2, cV, cW]
noncomputable def tot : List (List Int × T) → Nat
  | [] => 0
  | x :: r => x.2.subs.length + tot r
theorem AS : ∀ xs ys : List (List Int × T), tot (xs ++ ys) = tot xs + tot ys
  | [], ys => by simp [tot]
  | x :: xs, ys => by rw [List.cons_append, tot, tot, AS xs ys]; omega
theorem Ce (p : List Int) : ∀ (ts : List T) (j : Int), tot (kids p j ts) = (fQ ts).length
  | [], j => rfl
  | t :: r, j => by rw [kids, tot, Ce p r, fQ, List.length_append]
theorem uW (t : T) : 1 ≤ t.subs.length := by cases t; rw [T.subs, List.length_cons]; omega
theorem vK : ∀ ts : List T, ts.length ≤ (fQ ts).length
  | [] => Nat.zero_le _
  | t :: r => by
    have := uW t
    have := vK r
    rw [fQ, List.length_append, List.length_cons]; omega
theorem D7 : ∀ ws : List (List Int × T), ws.length ≤ tot ws
  | [] => Nat.zero_le _
  | x :: r => by
    have := uW x.2
    have := D7 r
    rw [tot, List.length_cons]; omega
theorem Cf (A : DH) (a0 a4 : Option D) (F R P : List D) (d : D) (hp : ∀ H, e9 [d] H = .ok (.con P) H) (hcl : aW P = true) (hF : F.length ≤ 1000) (hR : R.length + P.length ≤ 2000) :
    lY [a0, some (.fn "placed_parts"), some (.obj A.length), some (.obj (A.length + 1)), a4] (A ++ [.lst F, .lst (R ++ [d])]) = .nx [a0, some (.fn "placed_parts"), some (.obj A.length), some (.obj (A.length + 1)), some d] (A ++ [.lst (F ++ [d]), .lst (R ++ P.reverse)]) := by
  have z1 : F.length < sizeLine := Nat.lt_of_lt_of_le (by omega) (lz (n := 1001) (by omega))
  have z2 : R.length + P.reverse.length ≤ sizeLine := lz (by simp; omega)
  have z3 : P.reverse.length ≤ sizeLine := lz (by simp; omega)
  have hlk : List.lookup ("placed_parts" : Str) [("placed_parts", e9)] = some e9 := by simp [List.lookup]
  have e1 : ∀ H, eFn (az sE (af (vh 1 1 (fun y => List.lookup y [("placed_parts", e9)]) (af (ai 4) (ao))) (ao))) [a0, some (.fn "placed_parts"), some (.obj A.length), some (.obj (A.length + 1)), some d] H = .ok (.con P.reverse) H := fun H => by
    rw [gW]
    simp only [aC, aq, aB, bC, aL, ay, List.getElem?_cons_succ, List.getElem?_cons_zero, hlk, aE, aj, aK, List.length_cons, List.length_nil, if_true, hp, sE, aD]
    rw [j9 z3 (qD hcl)]
  generalize hE : eFn (az sE (af (vh 1 1 (fun y => List.lookup y [("placed_parts", e9)]) (af (ai 4) (ao))) (ao))) = E at e1
  have hg : (R ++ [d])[(R ++ [d]).length - 1]? = some d := by simp
  have hd : (R ++ [d]).dropLast = R := by simp
  unfold lY
  rw [hE]
  simp only [aN, aU, bO, aX, ay, List.getElem?_cons_succ, List.getElem?_cons_zero, aE, bU, JD, Nb, beq_self_eq_true, if_true, aB, iS, hg, hd, Rn, bZ, bR, List.set_cons_succ, List.set_cons_zero, aq, aj, aK, aS, if_pos z1, IC, fk, e1, BB, vp, if_pos z2]
theorem v9 (A : DH) (a0 : Option D) : ∀ (n : Nat) (F : List (List Int × T)) (ws : List (List Int × T)) (a4 : Option D), tot ws < n → F.length + tot ws ≤ 1000 → (∀ x ∈ ws, x.1.length + x.2.subs.length ≤ 1000) →
    ∃ b4, kN (j3 (aG A2 (az bW (af (ai 3) (ao))) (eC (.int 0)))) lY n [a0, some (.fn "placed_parts"), some (.obj A.length), some (.obj (A.length + 1)), a4] (A ++ [.lst (F.map nc), .lst (ws.map nc).reverse]) =
      .nx [a0, some (.fn "placed_parts"), some (.obj A.length), some (.obj (A.length + 1)), b4] (A ++ [.lst ((F ++ ws.flatMap fun x => x.2.prs x.1).map nc), .lst []])
  | 0, F, ws, a4, h, _, _ => by omega
  | n + 1, F, [], a4, h, hF, hw => by
    refine ⟨a4, ?_⟩
    simp only [bh, bM, aP, aC, aq, aB, ay, cO, List.getElem?_cons_succ, List.getElem?_cons_zero, aE, aj, aK, bW, aD, Nb, List.map_nil, List.reverse_nil, List.length_nil, bT, if_true, aM, List.flatMap_nil, List.append_nil]
    rw [show decide ((0 : Int) < ((0 : Nat) : Int)) = false from by decide, gC, aV]
  | n + 1, F, (p, .nd k ps) :: ws, a4, h, hF, hw => by
    have h0 := hw (p, .nd k ps) (by simp)
    simp only [T.subs, List.length_cons] at h0
    rw [tot] at h hF
    simp only [T.subs, List.length_cons] at h hF
    have hl := vK ps
    have hk := Ce p ps 0
    have hlt := D7 ws
    have K8 := Cc p ps 0
    obtain ⟨b4, e2⟩ := v9 A a0 n (F ++ [(p, .nd k ps)]) (kids p 0 ps ++ ws) (some (nc (p, .nd k ps))) (by rw [AS]; omega) (by rw [AS]; simp; omega) (fun x hx => by
      rcases List.mem_append.mp hx with hx | hx
      · have key : ∀ (ts : List T) (j : Int), x ∈ kids p j ts → x.1.length = p.length + 1 ∧ x.2.subs.length ≤ (fQ ts).length := by
          intro ts
          induction ts with
          | nil => intro j hx; simp [kids] at hx
          | cons t r ih =>
            intro j hx
            rw [kids] at hx
            rw [fQ, List.length_append]
            rcases List.mem_cons.mp hx with rfl | hx
            · exact ⟨by simp, by simp⟩
            · obtain ⟨i1, i2⟩ := ih _ hx
              exact ⟨i1, by omega⟩
        obtain ⟨i1, i2⟩ := key ps 0 hx
        omega
      · exact hw x (by simp [hx]))
    refine ⟨b4, ?_⟩
    have e1 := Cf A a0 a4 (F.map nc) (ws.map nc).reverse ((kids p 0 ps).map nc) (nc (p, .nd k ps)) (GY p k ps (by omega) (by omega)) (aR oF) (by simp; omega) (by simp; omega)
    have er : (((p, T.nd k ps) :: ws).map nc).reverse = (ws.map nc).reverse ++ [nc (p, .nd k ps)] := by simp
    have UZ : ((ws.map nc).reverse ++ ((kids p 0 ps).map nc).reverse) = ((kids p 0 ps ++ ws).map nc).reverse := by simp
    have ef : F.map nc ++ [nc (p, T.nd k ps)] = (F ++ [(p, T.nd k ps)]).map nc := by simp
    have eb : (F ++ ((p, T.nd k ps) :: ws).flatMap fun x => x.2.prs x.1) = (F ++ [(p, .nd k ps)] ++ (kids p 0 ps ++ ws).flatMap fun x => x.2.prs x.1) := by
      rw [List.flatMap_cons, T.prs, List.flatMap_append, ← zJ]; simp
    rw [UZ, ef] at e1
    rw [er, eb]
    have hpos : decide ((0 : Int) < (((ws.map nc).reverse ++ [nc (p, .nd k ps)]).length : Int)) = true := by simp
    have et : j3 (aG A2 (az bW (af (ai 3) (ao))) (eC (.int 0))) [a0, some (.fn "placed_parts"), some (.obj A.length), some (.obj (A.length + 1)), a4] (A ++ [.lst (F.map nc), .lst ((ws.map nc).reverse ++ [nc (p, .nd k ps)])]) = .ok true (A ++ [.lst (F.map nc), .lst ((ws.map nc).reverse ++ [nc (p, .nd k ps)])]) := by
      generalize (ws.map nc).reverse ++ [nc (p, .nd k ps)] = L at hpos
      simp only [bM, aP, aC, aq, aB, ay, cO, List.getElem?_cons_succ, List.getElem?_cons_zero, aE, aj, aK, bW, aD, Nb, bT, if_true, aM, hpos]
    rw [bh, et, gb, fT, e1, dR, e2]
theorem E6 (t : T) (ht : t.subs.length ≤ 500) (G : DH) : nE [nc ([], t), .fn "placed_parts"] G = .ok (.con ((t.prs []).map nc)) G := by
  have z1 : (1 : Nat) ≤ sizeLine := lz (by omega)
  obtain ⟨b4, e⟩ := v9 G (some (nc ([], t))) fuel [] [([], t)] none (by simp [tot, fuel]; omega) (by simp [tot]; omega) (fun x hx => by rw [List.mem_singleton.mp hx]; simp; omega)
  simp only [List.map_nil, List.map_cons, List.reverse_cons, List.reverse_nil, List.nil_append, List.flatMap_cons, List.flatMap_nil, List.append_nil] at e
  refine oW (R := [.dead, .lst []]) ?_ (by rw [cS]; exact aR oF)
  have hn : fu [] G = .ok (.obj G.length) (G ++ [.lst []]) := by simp [fu]
  generalize (t.prs []).map nc = L at e
  generalize nc ([], t) = d at e
  have hn2 : fu [d] (G ++ [.lst []]) = .ok (.obj (G.length + 1)) (G ++ [.lst [], .lst [d]]) := by simp [fu, z1]
  unfold nD
  simp [aN, bR, dG, gg, gh, gi, gj, cH, gb, gC, jR, aU, bZ, jS, bO, fk, jT, bF, cV, jU, aV, cB, aE, jV, jW, aj, aK, dM, ay, cO, aP, aC, aB, aq, bM, aM, bu, ck, dm, bH, dH, aL, aX, gk, aQ, bw, cu, fy, jX, bP, aZ, bx, bJ, gm, cW, jY, eS, bz, bA, bB, cQ, cR, cC, bC, bK, gu, bh, fT, dR, gn, gp, gq, gr, dI, dU, dW, dX, gx, dY, dZ, bq, cD, cE, bD, cF, gw, iz, fD, aD, bT, cM, bW, av, cN, bU, aS, iS, iH, qM, Ty.is, hn, hn2, e]
theorem E7 (t : T) (ht : t.subs.length ≤ 500) (G : DH) : iM [t.d] G = .ok (.con ((t.prs []).map nc)) G := by
  have z0 : (0 : Nat) ≤ sizeLine := Nat.zero_le _
  have z2 : (2 : Nat) ≤ sizeLine := lz (by omega)
  have e := E6 t ht G
  have ep : nc ([], t) = .tup [.tup [], t.d] := rfl
  rw [ep] at e
  refine fB ?_ (by rw [cS]; exact aR oF)
  generalize t.d = d at e
  unfold kU
  simp [aN, bR, dG, gg, gh, gi, gj, cH, gb, gC, jR, aU, bZ, jS, bO, fk, jT, bF, cV, jU, aV, cB, aE, jV, jW, aj, aK, dM, ay, cO, aP, aC, aB, aq, bM, aM, bu, ck, dm, bH, dH, aL, aX, gk, aQ, bw, cu, fy, jX, bP, aZ, bx, bJ, gm, cW, jY, eS, bz, bA, bB, cQ, cR, cC, bC, bK, gu, bh, fT, dR, gn, gp, gq, gr, dI, dU, dW, dX, gx, dY, dZ, bq, cD, cE, bD, cF, gw, iz, fD, aD, bT, cM, bW, av, cN, bU, aS, iS, iH, qM, Ty.is, e, z2]
noncomputable def N7 : D → D
  | .tup [x, _] => x
  | _ => .lG
theorem Cg (t : T) (ht : t.subs.length ≤ 500) (G : DH) : kM (oT 2) [] (br 1 iM (af (ai 0) (ao))) (jP) (ai 0) [some t.d] G = .ok (.obj G.length) (G ++ [.lst (((t.prs []).map (·.1)).map pl)]) := by
  have hl : (t.prs []).length = t.subs.length := by rw [← pS [] t, List.length_map]
  have c1 := jz (τ := [some t.d]) (G := G) (gO := oT 2) (ks := []) (te := ai 0) (own := Jg) (f := N7) ((t.prs []).map nc) [] (by simp; omega) (fun x hx => by
      obtain ⟨y, _, rfl⟩ := List.mem_map.mp hx
      rfl) (fun x hx acc => by
      obtain ⟨y, _, rfl⟩ := List.mem_map.mp hx
      rfl)
  have ef : ((t.prs []).map nc).map N7 = ((t.prs []).map (·.1)).map pl := by
    rw [List.map_map, List.map_map]; rfl
  rw [ef, List.nil_append] at c1
  have e := E7 t ht G
  rw [← c1]
  generalize ((t.prs []).map nc) = L at e
  generalize t.d = d at e
  simp only [bP, aL, aq, aB, ay, List.getElem?_cons_zero, aE, aj, aK, List.length_cons, List.length_nil, if_true, e]
theorem places_eq (t : T) (ht : t.subs.length ≤ 500) (G : DH) : fK [t.d] G = .ok (.con (((t.prs []).map (·.1)).map pl)) G := by
  have hc : aW (((t.prs []).map (·.1)).map pl) = true := aR kC
  refine fB ?_ (by rw [cS]; exact hc)
  have e := Cg t ht G
  have e2 : eFn (kM (oT 2) [] (br 1 iM (af (ai 0) (ao))) (jP) (ai 0)) [some t.d] G = .ok (.con (((t.prs []).map (·.1)).map pl)) G := by rw [gW, e, mV hc]
  unfold nI
  simp only [bJ, List.map_cons, List.map_nil, List.length_cons, List.length_nil, Nat.sub_self, List.replicate_zero, List.append_nil, bF, e2, cV, cW]
end K32
end
section
set_option Elab.async false
set_option linter.all false
set_option maxRecDepth 100000
set_option maxHeartbeats 1000000
namespace K32
open PySem PySem.Spec L2 L3
theorem yh (p : List Int) : ∀ (ts : List T) (j : Int) (x : List Int × T), x ∈ gA p j ts → ∃ (i : Nat) (t : T), ts[i]? = some t ∧ x ∈ t.prs (p ++ [j + (i : Int)])
  | [], j, x, h => by simp [gA] at h
  | t :: r, j, x, h => by
    rw [gA] at h
    rcases List.mem_append.mp h with h | h
    · exact ⟨0, t, rfl, by simpa using h⟩
    · obtain ⟨i, t', e, m⟩ := yh p r (j + 1) x h
      refine ⟨i + 1, t', by simpa using e, ?_⟩
      rw [show j + ((i + 1 : Nat) : Int) = j + 1 + (i : Int) by omega]; exact m
theorem AU : ∀ (ts : List T) (i : Nat) (t : T), ts[i]? = some t → t.subs.length ≤ (fQ ts).length
  | [], i, t, h => by simp at h
  | x :: r, 0, t, h => by
    simp at h; subst h
    rw [fQ, List.length_append]; omega
  | x :: r, i + 1, t, h => by
    have := AU r i t (by simpa using h)
    rw [fQ, List.length_append]; omega
theorem Jh (k : Str) (ps : List T) (i : Nat) (t : T) (h : ps[i]? = some t) (b1 : Option D) (G : DH) : p8 [some (T.nd k ps).d, b1, some (.int (i : Int))] G = .nx [some t.d, b1, some (.int (i : Int))] G := by
  have a1 : ∀ (x y : D), tS [x, y] 1 = some y := fun x y => by
    have := lW (xs := [x, y]) (j := 1) (v := y) rfl
    simpa using this
  have a2 : tS (dL ps) (i : Int) = some t.d := by
    refine lW ?_
    rw [x8, List.getElem?_map, h]; rfl
  rw [T.d]
  generalize t.d = d at a2
  unfold p8
  simp only [aU, aP, ay, cO, List.getElem?_cons_succ, List.getElem?_cons_zero, aE, aj, fD, aD, a1, a2, bZ, List.set_cons_zero]
theorem D8 (b1 : Option D) (G : DH) : ∀ (n : Nat) (t : T) (p : List Int) (x : List Int × T), t.subs.length ≤ n → x ∈ t.prs p → ∃ w : List Int, x.1 = p ++ w ∧ ∀ b2, ∃ c2, fY (gN 2) p8 (w.map .int) [some t.d, b1, b2] G = .nx [some x.2.d, b1, c2] G
  | 0, t, p, x, hn, h => by have := uW t; omega
  | n + 1, .nd k ps, p, x, hn, h => by
    rw [T.prs] at h
    rcases List.mem_cons.mp h with rfl | h
    · exact ⟨[], by simp, fun b2 => ⟨b2, by simp [fY]⟩⟩
    · obtain ⟨i, t, e, m⟩ := yh p ps 0 x h
      have hs := AU ps i t e
      rw [T.subs, List.length_cons] at hn
      obtain ⟨w, e1, e2⟩ := D8 b1 G n t _ x (by omega) m
      refine ⟨(0 + (i : Int)) :: w, by rw [e1]; simp, fun b2 => ?_⟩
      obtain ⟨c2, e3⟩ := e2 (some (.int (i : Int)))
      refine ⟨c2, ?_⟩
      rw [List.map_cons, iJ rfl]
      have := Jh k ps i t e b1 G
      simp only [List.set_cons_succ, List.set_cons_zero, Int.zero_add, this, dR]
      exact e3
theorem GZ (t : T) (x : List Int × T) (h : x ∈ t.prs []) (G : DH) : fE [t.d, pl x.1] G = .ok x.2.d G := by
  obtain ⟨w, e1, e2⟩ := D8 (some (pl x.1)) G _ t [] x (Nat.le_refl _) h
  obtain ⟨c2, e3⟩ := e2 none
  rw [List.nil_append] at e1
  refine fB ?_ (rO _)
  have hp : pl x.1 = .tup (w.map .int) := by rw [e1]; rfl
  rw [hp] at e3 ⊢
  generalize x.2.d = y at e3
  generalize t.d = z at e3
  generalize w.map D.int = ws at e3
  unfold rZ
  simp [aN, bR, dG, gg, gh, gi, gj, cH, gb, gC, jR, aU, bZ, jS, bO, fk, jT, bF, cV, jU, aV, cB, aE, jV, jW, aj, aK, dM, ay, cO, aP, aC, aB, aq, bM, aM, bu, ck, dm, bH, dH, aL, aX, gk, aQ, bw, cu, fy, jX, bP, aZ, bx, bJ, gm, cW, jY, eS, bz, bA, bB, cQ, cR, cC, bC, bK, gu, bh, fT, dR, gn, gp, gq, gr, dI, dU, dW, dX, gx, dY, dZ, bq, cD, cE, bD, cF, gw, iz, fD, aD, bT, cM, bW, av, cN, bU, aS, iS, iH, qM, Ty.is, e3]
theorem rP (p : List Int) : (pl p).plain = true := by
  rw [pl, D.plain]
  exact vz fun x hx => by
    obtain ⟨i, _, rfl⟩ := List.mem_map.mp hx
    simp [D.plain]
theorem G4 (p : List Int) : (pl p).dp ≤ 1 := by
  rw [pl, D.dp]
  have : C5 (p.map D.int) ≤ 0 := C6 fun x hx => by
    obtain ⟨i, _, rfl⟩ := List.mem_map.mp hx
    simp [D.dp]
  omega
theorem zK (ps : List (List Int)) : iU (ps.map pl) = true := vz fun x hx => by
  obtain ⟨p, _, rfl⟩ := List.mem_map.mp hx
  exact rP p
theorem G5 (ps : List (List Int)) : C5 (ps.map pl) ≤ 1 := C6 fun x hx => by
  obtain ⟨p, _, rfl⟩ := List.mem_map.mp hx
  exact G4 p
end K32
end
section
set_option Elab.async false
set_option linter.all false
set_option maxRecDepth 100000
set_option maxHeartbeats 1000000
namespace K32
open PySem PySem.Spec L2 L3
noncomputable def lF (p q : List Int) : Bool := decide (p.length < q.length) && (q.take p.length == p)
noncomputable def mP (p q : List Int) : Bool := (q.length == p.length + 1) && (q.take p.length == p)
noncomputable def T.parts : T → List T
  | .nd _ ps => ps
mutual
theorem AV : ∀ (t : T) (r : List Int) (x : List Int × T), x ∈ t.prs r → ∃ w, x.1 = r ++ w
  | .nd k ps, r, x, h => by
    rw [T.prs] at h
    rcases List.mem_cons.mp h with rfl | h
    · exact ⟨[], by simp⟩
    · obtain ⟨i, w, _, e⟩ := oG ps r 0 x h
      exact ⟨i :: w, e⟩
theorem oG : ∀ (ts : List T) (r : List Int) (j : Int) (x : List Int × T), x ∈ gA r j ts → ∃ i w, j ≤ i ∧ x.1 = r ++ i :: w
  | [], r, j, x, h => by simp [gA] at h
  | t :: ts, r, j, x, h => by
    rw [gA] at h
    rcases List.mem_append.mp h with h | h
    · obtain ⟨w, e⟩ := AV t _ x h
      exact ⟨j, w, Int.le_refl _, by rw [e]; simp⟩
    · obtain ⟨i, w, h1, e⟩ := oG ts r (j + 1) x h
      exact ⟨i, w, by omega, e⟩
end
theorem G6 (r : List Int) (i : Int) (w : List Int) : lF r (r ++ i :: w) = true := by simp [lF]
theorem D9 (r : List Int) (i j : Int) (v w : List Int) (h : i ≠ j) : lF (r ++ i :: v) (r ++ j :: w) = false := by
  unfold lF
  rw [Bool.and_eq_false_iff]
  right
  have e : (r ++ j :: w).take (r ++ i :: v).length = r ++ j :: w.take v.length := by
    rw [List.length_append, List.length_cons, List.take_length_add_append]
    rw [List.take_succ_cons]
  rw [e]
  rw [beq_eq_false_iff_ne]
  intro z
  have := List.append_cancel_left z
  exact h (List.cons.inj this).1.symm
theorem yi (p q : List Int) (h : q.length ≤ p.length) : lF p q = false := by
  unfold lF
  rw [decide_eq_false (by omega), Bool.false_and]
theorem filter_none {α : Type} {f : α → Bool} {l : List α} (h : ∀ x ∈ l, f x = false) : l.filter f = [] := List.filter_eq_nil_iff.mpr fun x hx => by rw [h x hx]; decide
theorem filter_all {α : Type} {f : α → Bool} {l : List α} (h : ∀ x ∈ l, f x = true) : l.filter f = l := List.filter_eq_self.mpr h
mutual
theorem AW : ∀ (t : T) (r : List Int) (x : List Int × T), x ∈ t.prs r → ((t.prs r).map (·.1)).filter (lF x.1) = (gA x.1 0 x.2.parts).map (·.1)
  | .nd k ps, r, x, h => by
    rw [T.prs] at h ⊢
    rw [List.map_cons]
    rcases List.mem_cons.mp h with rfl | h
    · rw [List.filter_cons_of_neg (by rw [yi _ _ (Nat.le_refl _)]; decide)]
      refine filter_all fun q hq => ?_
      obtain ⟨y, hy, rfl⟩ := List.mem_map.mp hq
      obtain ⟨i, w, _, e⟩ := oG ps r 0 y hy
      rw [e]; exact G6 _ _ _
    · obtain ⟨i, w, _, e⟩ := oG ps r 0 x h
      rw [List.filter_cons_of_neg (by rw [yi _ _ (by rw [e]; simp)]; decide)]
      exact G7 ps r 0 x h
theorem G7 : ∀ (ts : List T) (r : List Int) (j : Int) (x : List Int × T), x ∈ gA r j ts → ((gA r j ts).map (·.1)).filter (lF x.1) = (gA x.1 0 x.2.parts).map (·.1)
  | [], r, j, x, h => by simp [gA] at h
  | t :: ts, r, j, x, h => by
    rw [gA] at h ⊢
    rw [List.map_append, List.filter_append]
    rcases List.mem_append.mp h with h | h
    · obtain ⟨w, e⟩ := AV t _ x h
      rw [AW t _ x h, filter_none, List.append_nil]
      intro q hq
      obtain ⟨y, hy, rfl⟩ := List.mem_map.mp hq
      obtain ⟨i, v, hi, ey⟩ := oG ts r (j + 1) y hy
      rw [e, ey, show r ++ [j] ++ w = r ++ j :: w by simp]
      exact D9 r j i w v (by omega)
    · obtain ⟨i, v, hi, ex⟩ := oG ts r (j + 1) x h
      rw [G7 ts r (j + 1) x h, filter_none, List.nil_append]
      intro q hq
      obtain ⟨y, hy, rfl⟩ := List.mem_map.mp hq
      obtain ⟨w, ey⟩ := AV t _ y hy
      rw [ex, ey, show r ++ [j] ++ w = r ++ j :: w by simp]
      exact D9 r i j v w (by omega)
end
theorem Dm (p q : List Int) : mP p q = (lF p q && (q.length == p.length + 1)) := by
  unfold mP lF
  by_cases h : q.length = p.length + 1
  · rw [h]; simp
  · have : (q.length == p.length + 1) = false := by simpa using h
    rw [this]; simp
theorem wc (p : List Int) : ∀ (ts : List T) (j : Int), ((gA p j ts).map (·.1)).filter (fun q => q.length == p.length + 1) = (kids p j ts).map (·.1)
  | [], j => rfl
  | t :: ts, j => by
    rw [gA, kids, List.map_append, List.filter_append, wc p ts (j + 1), List.map_cons]
    have : ((t.prs (p ++ [j])).map (·.1)).filter (fun q => q.length == p.length + 1) = [p ++ [j]] := by
      obtain ⟨k, ps⟩ := t
      rw [T.prs, List.map_cons, List.filter_cons_of_pos (by simp), filter_none]
      intro q hq
      obtain ⟨y, hy, rfl⟩ := List.mem_map.mp hq
      obtain ⟨i, w, _, e⟩ := oG ps _ 0 y hy
      rw [e]; simp
    rw [this]; rfl
theorem Dn (t : T) (r : List Int) (x : List Int × T) (h : x ∈ t.prs r) : ((t.prs r).map (·.1)).filter (mP x.1) = (kids x.1 0 x.2.parts).map (·.1) := by
  have e : mP x.1 = fun q => lF x.1 q && (q.length == x.1.length + 1) := funext (Dm x.1)
  rw [e, ← wc, ← AW t r x h, List.filter_filter]
  congr 1
  funext q
  rw [Bool.and_comm]
theorem tO (p : List Int) : ∀ (ts : List T) (j : Nat), (kids p (j : Int) ts).map (·.1) = (List.range' j ts.length).map fun (k : Nat) => p ++ [(k : Int)]
  | [], j => rfl
  | t :: ts, j => by
    rw [kids, List.length_cons, List.range'_succ, List.map_cons, List.map_cons]
    have := tO p ts (j + 1)
    rw [show ((j + 1 : Nat) : Int) = (j : Int) + 1 by omega] at this
    rw [this]
theorem se (a : List Int) (i : Int) : (a ++ [i]).getLastD 0 = i := by simp [List.getLastD_eq_getLast?]
noncomputable def ng (p q : List Int) : Bool := (q.length == p.length) && ((q.dropLast == p.dropLast) && decide (p.getLastD 0 < q.getLastD 0))
theorem Ci (a : List Int) (i : Int) (q : List Int) : ng (a ++ [i]) q = (mP a q && decide (i < q.getLastD 0)) := by
  unfold ng mP
  by_cases h : q.length = a.length + 1
  · have hd : q.dropLast = q.take a.length := by rw [List.dropLast_eq_take, h]; rfl
    have h1 : (q.length == (a ++ [i]).length) = true := by simp [h]
    have h2 : (q.length == a.length + 1) = true := by simp [h]
    rw [h1, h2, hd]
    have h3 : (a ++ [i]).dropLast = a := by simp
    have h4 : (a ++ [i]).getLastD 0 = i := se a i
    rw [h3, h4]; simp
  · have h1 : (q.length == (a ++ [i]).length) = false := by simpa using h
    have h2 : (q.length == a.length + 1) = false := by simpa using h
    rw [h1, h2]; simp
theorem uX (i0 : Nat) : ∀ (n j : Nat), j ≤ i0 + 1 → (List.range' j n).filter (fun (k : Nat) => decide (i0 < k)) = List.range' (i0 + 1) (j + n - (i0 + 1))
  | 0, j, h => by
    have : j + 0 - (i0 + 1) = 0 := by omega
    rw [this]; rfl
  | n + 1, j, h => by
    rw [List.range'_succ]
    by_cases hj : j ≤ i0
    · rw [List.filter_cons_of_neg (by simp; omega), uX i0 n (j + 1) (by omega)]
      congr 1; omega
    · have e : j = i0 + 1 := by omega
      subst e
      rw [List.filter_cons_of_pos (by simp), filter_all (fun k hk => by
        have := List.mem_range'.mp hk
        obtain ⟨m, _, rfl⟩ := this
        simp; omega)]
      have : i0 + 1 + (n + 1) - (i0 + 1) = n + 1 := by omega
      rw [this, List.range'_succ]
theorem Ji (t : T) (r a : List Int) (s : T) (i0 : Nat) (h : (a, s) ∈ t.prs r) : ((t.prs r).map (·.1)).filter (ng (a ++ [(i0 : Int)])) = (List.range' (i0 + 1) (s.parts.length - (i0 + 1))).map fun (k : Nat) => a ++ [(k : Int)] := by
  have e : ng (a ++ [(i0 : Int)]) = fun q => mP a q && decide ((i0 : Int) < q.getLastD 0) := funext (Ci a i0)
  have e2 : ((t.prs r).map (·.1)).filter (fun q => mP a q && decide ((i0 : Int) < q.getLastD 0)) = (((t.prs r).map (·.1)).filter (mP a)).filter fun q => decide ((i0 : Int) < q.getLastD 0) := by
    rw [List.filter_filter]
    congr 1
    funext q
    rw [Bool.and_comm]
  have hk := tO a s.parts 0
  rw [show ((0 : Nat) : Int) = 0 from rfl] at hk
  rw [e, e2, Dn t r (a, s) h, hk, List.filter_map]
  have e3 : ((fun q : List Int => decide ((i0 : Int) < q.getLastD 0)) ∘ fun (k : Nat) => a ++ [(k : Int)]) = fun (k : Nat) => decide (i0 < k) := by
    funext k
    simp only [Function.comp, se]
    by_cases h : i0 < k
    · rw [decide_eq_true h, decide_eq_true (by omega)]
    · rw [decide_eq_false h, decide_eq_false (by omega)]
  rw [e3, uX i0 s.parts.length 0 (by omega), Nat.zero_add]
theorem Cj (r : List Int) : ∀ (ts : List T) (j : Int) (i : Nat) (t : T) (y : List Int × T), ts[i]? = some t → y ∈ t.prs (r ++ [j + (i : Int)]) → y ∈ gA r j ts
  | [], j, i, t, y, h, hy => by simp at h
  | x :: ts, j, 0, t, y, h, hy => by
    simp at h; subst h
    rw [gA]
    refine List.mem_append.mpr (.inl ?_)
    simpa using hy
  | x :: ts, j, i + 1, t, y, h, hy => by
    rw [gA]
    refine List.mem_append.mpr (.inr (Cj r ts (j + 1) i t y (by simpa using h) ?_))
    rw [show j + 1 + (i : Int) = j + ((i + 1 : Nat) : Int) by omega]; exact hy
theorem above : ∀ (n : Nat) (t : T) (r : List Int) (x : List Int × T), t.subs.length ≤ n → x ∈ t.prs r → x = (r, t) ∨ ∃ (a : List Int) (i : Nat) (s : T), x.1 = a ++ [(i : Int)] ∧ (a, s) ∈ t.prs r ∧ i < s.parts.length
  | 0, t, r, x, hn, h => by have := uW t; omega
  | n + 1, .nd k ps, r, x, hn, h => by
    rw [T.prs] at h
    rcases List.mem_cons.mp h with h | h
    · exact .inl h
    · obtain ⟨i, t, e, m⟩ := yh r ps 0 x h
      have hs := AU ps i t e
      rw [T.subs, List.length_cons] at hn
      right
      rcases above n t _ x (by omega) m with hx | ⟨a, i', s, e1, e2, e3⟩
      · exact ⟨r, i, .nd k ps, by rw [hx]; simp, by rw [T.prs]; simp, (List.getElem?_eq_some_iff.mp e).1⟩
      · refine ⟨a, i', s, e1, ?_, e3⟩
        rw [T.prs]
        exact List.mem_cons_of_mem _ (Cj r ps 0 i t _ e e2)
mutual
theorem E8 (p : List Int) : ∀ (t : T) (r : List Int), (t.prs (p ++ r)).map (·.1) = ((t.prs r).map (·.1)).map (p ++ ·)
  | .nd k ps, r => by rw [T.prs, T.prs, List.map_cons, List.map_cons, List.map_cons, tP p ps r 0]
theorem tP (p : List Int) : ∀ (ts : List T) (r : List Int) (j : Int), (gA (p ++ r) j ts).map (·.1) = ((gA r j ts).map (·.1)).map (p ++ ·)
  | [], r, j => rfl
  | t :: ts, r, j => by
    have := E8 p t (r ++ [j])
    rw [← List.append_assoc] at this
    rw [gA, gA, List.map_append, List.map_append, List.map_append, this, tP p ts r (j + 1)]
end
theorem Ck : ∀ p q : List Int, PyData.eqvAll (wN (p.map .int)) (wN (q.map .int)) = (p == q)
  | [], [] => rfl
  | [], y :: q => by rw [List.map_nil, List.map_cons, wN, wN, PyData.eqvAll]; rfl
  | x :: p, [] => by rw [List.map_nil, List.map_cons, wN, wN, PyData.eqvAll]; rfl
  | x :: p, y :: q => by
    rw [List.map_cons, List.map_cons, wN, wN, PyData.eqvAll, Ck p q, D.pd, D.pd, PyData.eqv]; rfl
theorem AX (g : Bool) (p q : List Int) (G : DH) : j5 g (pl p) (pl q) G = .ok (.bl (g ^^ (p == q))) G := by
  have h1 := DW (pl p)
  have h2 := G4 p
  have h3 := G4 q
  unfold j5 Bj
  rw [xJ G (pl p) deep (rP p) (by show (pl p).dp < 600; omega), xJ G (pl q) deep (rP q) (by show (pl q).dp < 600; omega)]
  dsimp only
  rw [if_pos (by rw [lay_of _ (rP p), lay_of _ (rP q)]; simp; omega)]
  show Out.ok (D.bl (g ^^ PyData.eqv (pl p).pd (pl q).pd)) G = _
  rw [pl, pl, D.pd, D.pd, PyData.eqv, Ck]
end K32
end
section
set_option Elab.async false
set_option linter.all false
set_option maxRecDepth 100000
set_option maxHeartbeats 1000000
namespace K32
open PySem PySem.Spec L2 L3
theorem Dp {τ : DS} {G : DH} {gO : D → Option (List D)} {ks : List Bool} {tt : DS → M Bool} {te : DS → M D} {x : D} {os acc : List D} (h1 : gO x = some os) (h2 : tt (os.map some ++ mask ks τ) (G ++ [.lst acc]) = .ok false (G ++ [.lst acc])) :
    iT gO ks tt te G.length x τ (G ++ [.lst acc]) = .ok () (G ++ [.lst acc]) := by
  simp only [iT, h1, h2]
theorem Cm {τ : DS} {G : DH} {gO : D → Option (List D)} {ks : List Bool} {tt : DS → M Bool} {te : DS → M D} {x v : D} {os acc : List D} (h1 : gO x = some os) (h2 : tt (os.map some ++ mask ks τ) (G ++ [.lst acc]) = .ok true (G ++ [.lst acc])) (h3 : te (os.map some ++ mask ks τ) (G ++ [.lst acc]) = .ok v (G ++ [.lst acc])) (hz : acc.length < sizeLine) :
    iT gO ks tt te G.length x τ (G ++ [.lst acc]) = .ok () (G ++ [.lst (acc ++ [v])]) := by
  simp only [iT, h1, h2, h3, JD, if_pos hz, IC]
theorem rQ {τ : DS} {G : DH} {ks : List Bool} {tt : DS → M Bool} (c : List Int → Bool) : ∀ (ps : List (List Int)) (acc : List D), acc.length + ps.length ≤ 1000000 → (∀ p ∈ ps, ∀ acc, tt (some (pl p) :: mask ks τ) (G ++ [.lst acc]) = .ok (c p) (G ++ [.lst acc])) →
    gf oN ks tt (ai 0) G.length (ps.map pl) τ (G ++ [.lst acc]) = .ok (.obj G.length) (G ++ [.lst (acc ++ (ps.filter c).map pl)])
  | [], acc, _, _ => by simp [gf]
  | p :: ps, acc, hl, h => by
    have hz : acc.length < sizeLine := Nat.lt_of_lt_of_le (by simp at hl; omega) (lz (n := 1000001) (by omega))
    rw [List.map_cons, gf]
    have hp := h p (by simp) acc
    cases hc : c p with
    | false =>
      rw [hc] at hp
      rw [Dp (os := [pl p]) rfl hp]
      dsimp only
      rw [rQ c ps acc (by simp at hl; omega) (fun q hq => h q (by simp [hq])), List.filter_cons_of_neg (by rw [hc]; decide)]
    | true =>
      rw [hc] at hp
      rw [Cm (os := [pl p]) (v := pl p) rfl hp rfl hz]
      dsimp only
      rw [rQ c ps (acc ++ [pl p]) (by simp at hl ⊢; omega) (fun q hq => h q (by simp [hq])), List.filter_cons_of_pos hc]
      simp
theorem Ea (q : List Int) (n : Nat) (h : n < q.length) (hz : q.length ≤ 100000) (G : DH) : DB (pl q) none (some (n : Int)) G = .ok (pl (q.take n)) G := by
  unfold pl
  simp only [DB, aD]
  have hs : HT.jL (q.map D.int).length (q.map D.int).length (some (n : Int)) = n := by
    rw [HT.tW]; simp; omega
  rw [if_neg (by rw [hs]; simp; omega), cN]
  have vm : cutD (q.map D.int) none (some (n : Int)) = (q.take n).map .int := by
    unfold cutD
    rw [hs, HT.pF]; simp
  rw [vm, if_pos (lz (by simp; omega))]
theorem AY (q : List Int) (h : 1 ≤ q.length) (hz : q.length ≤ 100000) (G : DH) : DB (pl q) none (some (-1)) G = .ok (pl q.dropLast) G := by
  unfold pl
  simp only [DB, aD]
  have hs : HT.jL (q.map D.int).length (q.map D.int).length (some (-1)) = q.length - 1 := by
    unfold HT.jL
    dsimp only
    rw [if_pos (by omega)]; simp; omega
  rw [if_neg (by rw [hs]; simp; omega), cN]
  have vm : cutD (q.map D.int) none (some (-1)) = q.dropLast.map .int := by
    unfold cutD
    rw [hs, HT.pF, List.dropLast_eq_take]; simp
  rw [vm, if_pos (lz (by simp; omega))]
theorem AZ (q : List Int) (h : 1 ≤ q.length) (G : DH) : fD (pl q) (.int (-1)) G = .ok (.int (q.getLastD 0)) G := by
  obtain ⟨a, i, rfl⟩ : ∃ a i, q = a ++ [i] := ⟨q.dropLast, q.getLast (by intro e; rw [e] at h; simp at h), by rw [List.dropLast_concat_getLast]⟩
  have := xY (a.map D.int) (.int i)
  unfold pl
  rw [List.map_append, List.map_cons, List.map_nil, se]
  simp only [fD, aD, this]
theorem tQ (q : List Int) (G : DH) : bW [pl q] G = .ok (.int (q.length : Int)) G := by simp [bW, pl, aD]
theorem Cn (q : List Int) (G : DH) : (Out.ok (pl q) G).fw G = .ok (pl q) G := dI
theorem G8 (P : List (List Int)) (hP : P.length ≤ 1000) (hs : ∀ q ∈ P, q.length ≤ 1000) (p : List Int) (G : DH) : jn [.con (P.map pl), .str "down", pl p] G = .ok (.con ((P.filter (mP p)).map pl)) G := by
  have c1 := rQ (τ := [some (.con (P.map pl)), some (.str "down"), some (pl p), some (.int (p.length : Int))]) (G := G) (ks := [false, false, true, true]) (tt := mG (j3 (aG (j5 false) (az bW (af (ai 0) (ao))) (aG av (ai 4) (eC (.int 1))))) (j3 (aG (j5 false) (eFn (oH (ai 0) (dQ) (dF (ai 4)))) (ai 3)))) (mP p) P [] (by simp; omega) (fun q hq acc => by
    have hz := hs q hq
    have e1 := tQ q (G ++ [.lst acc])
    have e4 := Cn (q.take p.length) (G ++ [.lst acc])
    have e5 := AX false (q.take p.length) p (G ++ [.lst acc])
    by_cases hl : q.length = p.length + 1
    · have e3 := Ea q p.length (by omega) (by omega) (G ++ [.lst acc])
      have h1 : (((q.length : Int)) == (p.length : Int) + 1) = true := by rw [beq_iff_eq]; omega
      have h2 : mP p q = (q.take p.length == p) := by unfold mP; rw [hl]; simp
      rw [h2]
      generalize pl (q.take p.length) = a at e3 e4 e5
      generalize pl q = b at e1 e3
      generalize pl p = c at e5
      simp only [mask, if_true, bH, bM, aP, aC, aq, aB, ay, cO, List.getElem?_cons_succ, List.getElem?_cons_zero, aE, aj, aK, e1, av, iB, h1, Bool.false_xor, aM, gW, eS, bz, bA, bB, e3, e4, e5]
    · have h1 : (((q.length : Int)) == (p.length : Int) + 1) = false := by rw [beq_eq_false_iff_ne]; omega
      have h2 : mP p q = false := by unfold mP; rw [show (q.length == p.length + 1) = false by simpa using hl]; rfl
      rw [h2]
      generalize pl q = b at e1
      simp only [mask, if_true, bH, bM, aP, aC, aq, aB, ay, cO, List.getElem?_cons_succ, List.getElem?_cons_zero, aE, aj, aK, e1, av, iB, h1, Bool.false_xor, aM, Bool.false_eq_true, if_false])
  have hc : aW ((P.filter (mP p)).map pl) = true := aR kC
  have e1 := tQ p G
  rw [List.nil_append] at c1
  have e2 : eFn (kM oN [false, false, true, true] (ai 0) (mG (j3 (aG (j5 false) (az bW (af (ai 0) (ao))) (aG av (ai 4) (eC (.int 1))))) (j3 (aG (j5 false) (eFn (oH (ai 0) (dQ) (dF (ai 4)))) (ai 3)))) (ai 0)) [some (.con (P.map pl)), some (.str "down"), some (pl p), some (.int (p.length : Int))] G = .ok (.con ((P.filter (mP p)).map pl)) G := by
    rw [gW, bP]
    show (gf _ _ _ _ _ _ _ _).fw G = _
    rw [c1, mV hc]
  have hq : ∀ G, j5 false (.str "down") (.str "down") G = .ok (.bl true) G := fun G => by rw [pZ _ _ _ _ (by decide +kernel) (by decide +kernel)]; simp
  refine fB ?_ (by rw [cS]; exact hc)
  generalize hE : eFn (kM oN [false, false, true, true] (ai 0) (mG (j3 (aG (j5 false) (az bW (af (ai 0) (ao))) (aG av (ai 4) (eC (.int 1))))) (j3 (aG (j5 false) (eFn (oH (ai 0) (dQ) (dF (ai 4)))) (ai 3)))) (ai 0)) = E at e2
  generalize pl p = pp at e1 e2
  generalize P.map pl = PP at e2
  unfold kq
  rw [hE]
  simp only [bJ, List.map_cons, List.map_nil, List.length_cons, List.length_nil, List.replicate, List.cons_append, List.nil_append, aN, aU, aC, aq, aB, ay, cO, List.getElem?_cons_succ, List.getElem?_cons_zero, aE, aj, aK, e1, bZ, bR, List.set_cons_succ, List.set_cons_zero, cH, bM, aP, hq, aM, gb, bF, e2, cV, dG, cW]
end K32
end
section
set_option Elab.async false
set_option linter.all false
set_option maxRecDepth 100000
set_option maxHeartbeats 1000000
namespace K32
open PySem PySem.Spec L2 L3
theorem G9 (P : List (List Int)) (hP : P.length ≤ 1000) (hs : ∀ q ∈ P, q.length ≤ 1000) (p : List Int) (G : DH) : jn [.con (P.map pl), .str "deep", pl p] G = .ok (.con ((P.filter (lF p)).map pl)) G := by
  have c1 := rQ (τ := [some (.con (P.map pl)), some (.str "deep"), some (pl p), some (.int (p.length : Int))]) (G := G) (ks := [false, false, true, true]) (tt := mG (j3 (aG A2 (az bW (af (ai 0) (ao))) (ai 4))) (j3 (aG (j5 false) (eFn (oH (ai 0) (dQ) (dF (ai 4)))) (ai 3)))) (lF p) P [] (by simp; omega) (fun q hq acc => by
    have hz := hs q hq
    have e1 := tQ q (G ++ [.lst acc])
    have e4 := Cn (q.take p.length) (G ++ [.lst acc])
    have e5 := AX false (q.take p.length) p (G ++ [.lst acc])
    by_cases hl : p.length < q.length
    · have e3 := Ea q p.length (by omega) (by omega) (G ++ [.lst acc])
      have h1 : decide ((p.length : Int) < (q.length : Int)) = true := decide_eq_true (by omega)
      have h2 : lF p q = (q.take p.length == p) := by unfold lF; rw [decide_eq_true hl]; simp
      rw [h2]
      generalize pl (q.take p.length) = a at e3 e4 e5
      generalize pl q = b at e1 e3
      generalize pl p = c at e5
      simp only [mask, if_true, bH, bM, aP, aC, aq, aB, ay, cO, List.getElem?_cons_succ, List.getElem?_cons_zero, aE, aj, aK, e1, bT, h1, Bool.false_xor, aM, gW, eS, bz, bA, bB, e3, e4, e5]
    · have h1 : decide ((p.length : Int) < (q.length : Int)) = false := decide_eq_false (by omega)
      have h2 : lF p q = false := by unfold lF; rw [decide_eq_false hl]; rfl
      rw [h2]
      generalize pl q = b at e1
      simp only [mask, if_true, bH, bM, aP, aC, aq, aB, ay, cO, List.getElem?_cons_succ, List.getElem?_cons_zero, aE, aj, aK, e1, bT, h1, Bool.false_xor, aM, Bool.false_eq_true, if_false])
  have hc : aW ((P.filter (lF p)).map pl) = true := aR kC
  have e1 := tQ p G
  rw [List.nil_append] at c1
  have e2 : eFn (kM oN [false, false, true, true] (ai 0) (mG (j3 (aG A2 (az bW (af (ai 0) (ao))) (ai 4))) (j3 (aG (j5 false) (eFn (oH (ai 0) (dQ) (dF (ai 4)))) (ai 3)))) (ai 0)) [some (.con (P.map pl)), some (.str "deep"), some (pl p), some (.int (p.length : Int))] G = .ok (.con ((P.filter (lF p)).map pl)) G := by
    rw [gW, bP]
    show (gf _ _ _ _ _ _ _ _).fw G = _
    rw [c1, mV hc]
  have hq : ∀ G, j5 false (.str "deep") (.str "deep") G = .ok (.bl true) G := fun G => by rw [pZ _ _ _ _ (by decide +kernel) (by decide +kernel)]; simp
  have hq1 : ∀ G, j5 false (.str "deep") (.str "down") G = .ok (.bl false) G := fun G => by
    rw [pZ _ _ _ _ (by decide +kernel) (by decide +kernel)]
    have : (("deep" : Str) == "down") = false := by decide +kernel
    rw [this]; rfl
  refine fB ?_ (by rw [cS]; exact hc)
  generalize hE : eFn (kM oN [false, false, true, true] (ai 0) (mG (j3 (aG A2 (az bW (af (ai 0) (ao))) (ai 4))) (j3 (aG (j5 false) (eFn (oH (ai 0) (dQ) (dF (ai 4)))) (ai 3)))) (ai 0)) = E at e2
  generalize pl p = pp at e1 e2
  generalize P.map pl = PP at e2
  unfold kq
  rw [hE]
  simp only [bJ, List.map_cons, List.map_nil, List.length_cons, List.length_nil, List.replicate, List.cons_append, List.nil_append, aN, aU, aC, aq, aB, ay, cO, List.getElem?_cons_succ, List.getElem?_cons_zero, aE, aj, aK, e1, bZ, bR, List.set_cons_succ, List.set_cons_zero, cH, bM, aP, hq, hq1, aM, gb, gC, aV, bF, e2, cV, dG, cW]
theorem zL (G : DH) : j5 false (.str "later") (.str "down") G = .ok (.bl false) G := by
  rw [pZ _ _ _ _ (by decide +kernel) (by decide +kernel)]
  have : (("later" : Str) == "down") = false := by decide +kernel
  rw [this]; rfl
theorem zM (G : DH) : j5 false (.str "later") (.str "deep") G = .ok (.bl false) G := by
  rw [pZ _ _ _ _ (by decide +kernel) (by decide +kernel)]
  have : (("later" : Str) == "deep") = false := by decide +kernel
  rw [this]; rfl
theorem Dq (P : List (List Int)) (G : DH) : jn [.con (P.map pl), .str "later", pl []] G = .ok (.con []) G := by
  have e1 := tQ [] G
  refine fB ?_ (by rw [cS]; rfl)
  generalize pl [] = pp at e1
  generalize P.map pl = PP
  unfold kq
  simp only [bJ, List.map_cons, List.map_nil, List.length_cons, List.length_nil, List.replicate, List.cons_append, List.nil_append, aN, aU, aC, aq, aB, ay, cO, List.getElem?_cons_succ, List.getElem?_cons_zero, aE, aj, aK, e1, bZ, bR, List.set_cons_succ, List.set_cons_zero, cH, bM, aP, zL, zM, aM, gb, gC, aV, bF, iB, Bool.false_xor, yf]
  simp [cV, dG, cW, gb, yf, bF]
theorem E9 (P : List (List Int)) (hP : P.length ≤ 1000) (hs : ∀ q ∈ P, q.length ≤ 1000) (p : List Int) (hp : 1 ≤ p.length) (hp2 : p.length ≤ 1000) (G : DH) : jn [.con (P.map pl), .str "later", pl p] G = .ok (.con ((P.filter (ng p)).map pl)) G := by
  have c1 := rQ (τ := [some (.con (P.map pl)), some (.str "later"), some (pl p), some (.int (p.length : Int))]) (G := G) (ks := [false, false, true, true]) (tt := mG (j3 (aG (j5 false) (az bW (af (ai 0) (ao))) (ai 4))) (mG (j3 (aG (j5 false) (eFn (oH (ai 0) (dQ) (dF (kL (eC (.int 1)))))) (eFn (oH (ai 3) (dQ) (dF (kL (eC (.int 1)))))))) (j3 (aG A2 (aG fD (ai 0) (kL (eC (.int 1)))) (aG fD (ai 3) (kL (eC (.int 1)))))))) (ng p) P [] (by simp; omega) (fun q hq acc => by
    have hz := hs q hq
    have e1 := tQ q (G ++ [.lst acc])
    by_cases hl : q.length = p.length
    · have e3 := AY q (by omega) (by omega) (G ++ [.lst acc])
      have OF := AY p (by omega) (by omega) (G ++ [.lst acc])
      have e4 := Cn q.dropLast (G ++ [.lst acc])
      have QL := Cn p.dropLast (G ++ [.lst acc])
      have e5 := AX false q.dropLast p.dropLast (G ++ [.lst acc])
      have e6 := AZ q (by omega) (G ++ [.lst acc])
      have OG := AZ p (by omega) (G ++ [.lst acc])
      have h1 : (((q.length : Int)) == (p.length : Int)) = true := by rw [beq_iff_eq]; omega
      have h2 : ng p q = ((q.dropLast == p.dropLast) && decide (p.getLastD 0 < q.getLastD 0)) := by unfold ng; rw [hl]; simp
      rw [h2]
      generalize pl q.dropLast = a at e3 e4 e5
      generalize pl p.dropLast = a' at OF QL e5
      generalize pl q = b at e1 e3 e6
      generalize pl p = c at OF OG
      generalize q.getLastD 0 = u at e6
      generalize p.getLastD 0 = v at OG
      cases hb : (q.dropLast == p.dropLast) with
      | true =>
        rw [hb] at e5
        simp only [mask, if_true, bH, bM, aP, aC, aq, aB, ay, cO, List.getElem?_cons_succ, List.getElem?_cons_zero, aE, aj, aK, e1, iB, h1, Bool.false_xor, aM, gW, eS, bz, bA, cQ, cR, bB, e3, OF, e4, QL, e5, e6, OG, bT, Bool.true_and]
      | false =>
        rw [hb] at e5
        simp only [mask, if_true, bH, bM, aP, aC, aq, aB, ay, cO, List.getElem?_cons_succ, List.getElem?_cons_zero, aE, aj, aK, e1, iB, h1, Bool.false_xor, aM, gW, eS, bz, bA, cQ, cR, bB, e3, OF, e4, QL, e5, e6, OG, bT, Bool.false_and, Bool.false_eq_true, if_false]
    · have h1 : (((q.length : Int)) == (p.length : Int)) = false := by rw [beq_eq_false_iff_ne]; omega
      have h2 : ng p q = false := by unfold ng; rw [show (q.length == p.length) = false by simpa using hl]; rfl
      rw [h2]
      generalize pl q = b at e1
      simp only [mask, if_true, bH, bM, aP, aC, aq, aB, ay, cO, List.getElem?_cons_succ, List.getElem?_cons_zero, aE, aj, aK, e1, iB, h1, Bool.false_xor, aM, Bool.false_eq_true, if_false])
  have hc : aW ((P.filter (ng p)).map pl) = true := aR kC
  have e1 := tQ p G
  rw [List.nil_append] at c1
  generalize U0 : mG (j3 (aG (j5 false) (az bW (af (ai 0) (ao))) (ai 4))) (mG (j3 (aG (j5 false) (eFn (oH (ai 0) (dQ) (dF (kL (eC (.int 1)))))) (eFn (oH (ai 3) (dQ) (dF (kL (eC (.int 1)))))))) (j3 (aG A2 (aG fD (ai 0) (kL (eC (.int 1)))) (aG fD (ai 3) (kL (eC (.int 1))))))) = E0 at c1
  have e2 : eFn (kM oN [false, false, true, true] (ai 0) E0 (ai 0)) [some (.con (P.map pl)), some (.str "later"), some (pl p), some (.int (p.length : Int))] G = .ok (.con ((P.filter (ng p)).map pl)) G := by
    rw [gW, bP]
    show (gf _ _ _ _ _ _ _ _).fw G = _
    rw [c1, mV hc]
  refine fB ?_ (by rw [cS]; exact hc)
  have U1 : (((p.length : Int)) == 0) = false := by rw [beq_eq_false_iff_ne]; omega
  generalize pl p = pp at e1 e2
  generalize P.map pl = PP at e2
  unfold kq
  rw [U0]
  simp only [bJ, List.map_cons, List.map_nil, List.length_cons, List.length_nil, List.replicate, List.cons_append, List.nil_append, aN, aU, aC, aq, aB, ay, cO, List.getElem?_cons_succ, List.getElem?_cons_zero, aE, aj, aK, e1, bZ, bR, List.set_cons_succ, List.set_cons_zero, cH, bM, aP, zL, zM, iB, Bool.false_xor, U1, aM, gb, gC, aV, bF, e2, cV, dG, cW]
end K32
end
section
set_option Elab.async false
set_option linter.all false
set_option maxRecDepth 100000
set_option maxHeartbeats 1000000
namespace K32
open PySem PySem.Spec L2 L3
mutual
theorem vL : ∀ (t : T) (p : List Int) (x : List Int × T), x ∈ t.prs p → x.1.length ≤ p.length + t.subs.length
  | .nd k ps, p, x, h => by
    rw [T.prs] at h
    rw [T.subs, List.length_cons]
    rcases List.mem_cons.mp h with rfl | h
    · simp
    · have := tR ps p 0 x h; omega
theorem tR : ∀ (ts : List T) (p : List Int) (j : Int) (x : List Int × T), x ∈ gA p j ts → x.1.length ≤ p.length + 1 + (fQ ts).length
  | [], p, j, x, h => by simp [gA] at h
  | t :: r, p, j, x, h => by
    rw [gA] at h
    rw [fQ, List.length_append]
    rcases List.mem_append.mp h with h | h
    · have := vL t (p ++ [j]) x h
      simp at this; omega
    · have := tR r p (j + 1) x h; omega
end
noncomputable def vM (p : List Int) : D → D
  | .int i => .tup (p.map .int ++ [.int i])
  | .tup xs => .tup (p.map .int ++ xs)
  | _ => .lG
noncomputable abbrev Dr : DS → M D := aG av (ai 3) (az cN (af (ai 0) (ao)))
theorem Co (p : List Int) (hp : p.length ≤ 1000) (i : Int) (x1 x2 : Option D) (τ : DS) (G : DH) : Dr (some (.int i) :: x1 :: x2 :: some (pl p) :: τ) G = .ok (vM p (.int i)) G := by
  have hA := EY (p.map .int) [.int i] G (lz (by simp; omega))
  have z1 : (0 + 1 : Nat) ≤ sizeLine := lz (by omega)
  unfold pl vM
  generalize p.map D.int = pp at hA
  simp only [aP, aC, aq, aB, ay, List.getElem?_cons_succ, List.getElem?_cons_zero, aE, aj, aK, cN, List.length_cons, List.length_nil, if_pos z1, hA]
theorem Hf (p q : List Int) (hp : p.length ≤ 1000) (hq : q.length ≤ 1000) (x1 x2 : Option D) (τ : DS) (G : DH) : aG av (ai 3) (ai 0) (some (pl q) :: x1 :: x2 :: some (pl p) :: τ) G = .ok (vM p (pl q)) G := by
  have hA := EY (p.map .int) (q.map .int) G (lz (by simp; omega))
  unfold pl vM
  generalize p.map D.int = pp at hA
  generalize q.map D.int = qq at hA
  simp only [aP, ay, List.getElem?_cons_succ, List.getElem?_cons_zero, aE, aj, hA]
theorem QM (x y : D) : tS [x, y] 1 = some y := by
  have := lW (xs := [x, y]) (j := 1) (v := y) rfl
  simpa using this
theorem Cp (s : T) (G : DH) : fD s.d (.int 1) G = .ok (.tup (dL s.parts)) G := by
  obtain ⟨k, ps⟩ := s
  rw [T.d]
  simp only [fD, aD, QM]; rfl
theorem zN (s : T) (G : DH) : bW [.tup (dL s.parts)] G = .ok (.int (s.parts.length : Int)) G := by
  simp [bW, aD, x8]
theorem yj (s : T) : s.parts.length ≤ s.subs.length := by
  obtain ⟨k, ps⟩ := s
  have := vK ps
  rw [T.subs, List.length_cons]
  show ps.length ≤ _
  omega
theorem Jj (s : T) (hs : s.subs.length ≤ 1000) (p : List Int) (hp : p.length ≤ 1000) (x0 x1 : Option D) (G : DH) : gK kJ oN [false, false, true] (af (az bW (af (aG fD (ai 3) (eC (.int 1))) (ao))) (ao)) (jP) Dr [x0, x1, some (pl p), some s.d] G = .ok (.obj G.length) (G ++ [.lst (((kids p 0 s.parts).map (·.1)).map pl)]) := by
  have hpl := yj s
  have hr := p5 (j := (s.parts.length : Int)) (by omega) (by omega)
  rw [show ((s.parts.length : Int)).toNat = s.parts.length by omega] at hr
  have c1 := jz (τ := [x0, x1, some (pl p), some s.d]) (G := G) (gO := oN) (ks := [false, false, true]) (te := Dr) (own := fun x => [x]) (f := vM p) ((List.range' 0 s.parts.length).map fun (k : Nat) => D.int (0 + (k : Int))) [] (by simp; omega) (fun x _ => rfl) (fun x hx acc => by
    obtain ⟨i, _, rfl⟩ := List.mem_map.mp hx
    exact Co p hp _ _ _ _ _)
  have ek := tO p s.parts 0
  rw [show ((0 : Nat) : Int) = 0 from rfl] at ek
  have ef : ((List.range' 0 s.parts.length).map fun (k : Nat) => D.int (0 + (k : Int))).map (vM p) = ((kids p 0 s.parts).map (·.1)).map pl := by
    rw [ek, List.map_map, List.map_map]
    refine List.map_congr_left fun k _ => ?_
    simp [vM, pl, Function.comp]
  rw [ef, List.nil_append] at c1
  generalize ((List.range' 0 s.parts.length).map fun (k : Nat) => D.int (0 + (k : Int))) = L at hr c1
  have e1 := Cp s G
  have e2 := zN s G
  rw [← c1]
  generalize s.d = sd at e1
  generalize D.tup (dL s.parts) = st at e1 e2
  simp only [aZ, aq, aB, aC, aP, ay, cO, List.getElem?_cons_succ, List.getElem?_cons_zero, aE, aj, aK, e1, e2, hr]
theorem Jk (s : T) (hs : s.subs.length ≤ 500) (p : List Int) (hp : p.length ≤ 1000) (x0 x1 : Option D) (G : DH) : kM oN [false, false, true] (eFn (oH (br 1 fK (af (ai 3) (ao))) (dF (eC (.int 1))) (dQ))) (jP) (aG av (ai 3) (ai 0)) [x0, x1, some (pl p), some s.d] G = .ok (.obj G.length) (G ++ [.lst (((gA p 0 s.parts).map (·.1)).map pl)]) := by
  have e1 := places_eq s hs G
  have hpre : ((s.prs []).map (·.1)).map pl = pl [] :: ((gA [] 0 s.parts).map (·.1)).map pl := by
    obtain ⟨k, ps⟩ := s
    rw [T.prs]; rfl
  have hlen : (gA [] 0 s.parts).length + 1 = s.subs.length := by
    have := congrArg List.length (pS [] s)
    obtain ⟨k, ps⟩ := s
    rw [T.prs, List.map_cons, List.length_cons, List.length_map] at this
    exact this
  have LM : ∀ q ∈ (gA [] 0 s.parts).map (·.1), q.length ≤ 1000 := fun q hq => by
    obtain ⟨y, hy, rfl⟩ := List.mem_map.mp hq
    have := tR s.parts [] 0 y hy
    have h2 : (fQ s.parts).length + 1 = s.subs.length := by
      obtain ⟨k, ps⟩ := s
      rw [T.subs, List.length_cons]; rfl
    simp at this; omega
  have c1 := jz (τ := [x0, x1, some (pl p), some s.d]) (G := G) (gO := oN) (ks := [false, false, true]) (te := aG av (ai 3) (ai 0)) (own := fun x => [x]) (f := vM p) (((gA [] 0 s.parts).map (·.1)).map pl) [] (by simp; omega) (fun x _ => rfl) (fun x hx acc => by
    obtain ⟨q, hq, rfl⟩ := List.mem_map.mp hx
    exact Hf p q hp (LM q hq) _ _ _ _)
  have Sw := tP p s.parts [] 0
  rw [List.append_nil] at Sw
  have ef : (((gA [] 0 s.parts).map (·.1)).map pl).map (vM p) = ((gA p 0 s.parts).map (·.1)).map pl := by
    rw [Sw, List.map_map (f := fun x => p ++ x), List.map_map (f := pl)]
    refine List.map_congr_left fun q _ => ?_
    simp [vM, pl, Function.comp]
  rw [ef, List.nil_append] at c1
  have hsl : eFn (oH (br 1 fK (af (ai 3) (ao))) (dF (eC (.int 1))) (dQ)) [x0, x1, some (pl p), some s.d] G = .ok (.con (((gA [] 0 s.parts).map (·.1)).map pl)) G := by
    rw [gW]
    have hs1 : HT.jL (((s.prs []).map (·.1)).map pl).length 0 (some 1) = 1 := by
      have := HT.tW (((s.prs []).map (·.1)).map pl).length 0 1
      rw [show ((1 : Nat) : Int) = 1 from rfl] at this
      rw [this, hpre]; simp
    have vm : cutD (((s.prs []).map (·.1)).map pl) (some 1) none = ((gA [] 0 s.parts).map (·.1)).map pl := by
      unfold cutD
      rw [hs1, HT.pF, hpre]; simp
      exact List.take_of_length_le (by simp)
    have e : oH (br 1 fK (af (ai 3) (ao))) (dF (eC (.int 1))) (dQ) [x0, x1, some (pl p), some s.d] G = fu (((gA [] 0 s.parts).map (·.1)).map pl) G := by
      rw [← vm]
      generalize ((s.prs []).map (·.1)).map pl = L at e1
      generalize s.d = sd at e1
      simp only [eS, aL, aq, aB, ay, List.getElem?_cons_succ, List.getElem?_cons_zero, aE, aj, aK, List.length_cons, List.length_nil, if_true, e1, bA, cO, bB, bz, DB, aD]
    rw [e, j9 (lz (by simp; omega)) (aR kC)]
  rw [bP, hsl, aE]
  exact c1
theorem Hg (t s : T) (a : List Int) (i0 : Nat) (h : (a, s) ∈ t.prs []) (ha : a.length ≤ 1000) (hi : i0 ≤ 100000) (hs : s.subs.length ≤ 1000) (G : DH) : gK wg oN [false, false, true] (af (aG av (aG fD (ai 1) (kL (eC (.int 1)))) (eC (.int 1))) (af (az bW (af (aG fD (br 2 fE (af (ai 0) (af (ai 2) (ao)))) (eC (.int 1))) (ao))) (ao))) (jP) Dr [some t.d, some (pl (a ++ [(i0 : Int)])), some (pl a)] G =
    .ok (.obj G.length) (G ++ [.lst (((List.range' (i0 + 1) (s.parts.length - (i0 + 1))).map fun (k : Nat) => a ++ [(k : Int)]).map pl)]) := by
  have hpl := yj s
  have e0 := GZ t (a, s) h G
  have e1 := Cp s G
  have e2 := zN s G
  have e3 := AZ (a ++ [(i0 : Int)]) (by simp) G
  rw [se] at e3
  have hr : wg [.int ((i0 : Int) + 1), .int (s.parts.length : Int)] = some ((List.range (s.parts.length - (i0 + 1))).map fun (k : Nat) => .int ((i0 : Int) + 1 + (k : Int))) := by
    unfold wg
    dsimp only
    rw [if_pos ⟨by omega, by omega, by omega, by omega⟩, show ((s.parts.length : Int) - ((i0 : Int) + 1)).toNat = s.parts.length - (i0 + 1) by omega]
  have c1 := jz (τ := [some t.d, some (pl (a ++ [(i0 : Int)])), some (pl a)]) (G := G) (gO := oN) (ks := [false, false, true]) (te := Dr) (own := fun x => [x]) (f := vM a) ((List.range (s.parts.length - (i0 + 1))).map fun (k : Nat) => D.int ((i0 : Int) + 1 + (k : Int))) [] (by simp; omega) (fun x _ => rfl) (fun x hx acc => by
    obtain ⟨i, _, rfl⟩ := List.mem_map.mp hx
    exact Co a ha _ _ _ _ _)
  have ef : ((List.range (s.parts.length - (i0 + 1))).map fun (k : Nat) => D.int ((i0 : Int) + 1 + (k : Int))).map (vM a) = ((List.range' (i0 + 1) (s.parts.length - (i0 + 1))).map fun (k : Nat) => a ++ [(k : Int)]).map pl := by
    rw [List.range'_eq_map_range, List.map_map, List.map_map, List.map_map]
    refine List.map_congr_left fun k _ => ?_
    simp [vM, pl, Function.comp]
  rw [ef, List.nil_append] at c1
  rw [← c1]
  generalize ((List.range (s.parts.length - (i0 + 1))).map fun (k : Nat) => D.int ((i0 : Int) + 1 + (k : Int))) = L at hr
  generalize pl (a ++ [(i0 : Int)]) = pp at e3
  have OH : fE [t.d, pl a] G = .ok s.d G := e0
  generalize pl a = pa at OH
  generalize t.d = td at OH
  generalize s.d = sd at OH e1
  generalize D.tup (dL s.parts) = st at e1 e2
  have hadd : ∀ G, av (.int (i0 : Int)) (.int 1) G = .ok (.int ((i0 : Int) + 1)) G := fun G => rfl
  simp only [aZ, aq, aB, aC, aP, cQ, cR, aL, ay, cO, List.getElem?_cons_succ, List.getElem?_cons_zero, aE, aj, aK, List.length_cons, List.length_nil, if_true, e3, hadd, OH, e1, e2, hr]
end K32
end
section
set_option Elab.async false
set_option linter.all false
set_option maxRecDepth 100000
set_option maxHeartbeats 1000000
namespace K32
open PySem PySem.Spec L2 L3
theorem Ds {a b : Str} (ha : PyData.strOk a = true) (hb : PyData.strOk b = true) (h : (a == b) = false) (G : DH) : j5 false (.str a) (.str b) G = .ok (.bl false) G := by
  rw [pZ _ _ _ _ ha hb, h]; rfl
theorem Hh {a : Str} (ha : PyData.strOk a = true) (G : DH) : j5 false (.str a) (.str a) G = .ok (.bl true) G := by
  rw [pZ _ _ _ _ ha ha]; simp
theorem A0 (ps : List (List Int)) : aW (ps.map pl) = true := aR kC
theorem Fb (t s : T) (p : List Int) (h : (p, s) ∈ t.prs []) (hs : s.subs.length ≤ 500) (hp : p.length ≤ 1000) (G : DH) :
    lQ [t.d, .str "down", pl p] G = .ok (.con (((kids p 0 s.parts).map (·.1)).map pl)) G ∧ jo [t.d, .str "down", pl p] G = .ok (.obj G.length) (G ++ [.lst (((kids p 0 s.parts).map (·.1)).map pl)]) := by
  have e0 : fE [t.d, pl p] G = .ok s.d G := GZ t (p, s) h G
  have e1 := Jj s (by omega) p hp (some t.d) (some (.str "down")) G
  have hc := A0 ((kids p 0 s.parts).map (·.1))
  have q1 := Ds (a := "down") (b := "later") (by decide +kernel) (by decide +kernel) (by decide +kernel) G
  have q2 := Hh (a := "down") (by decide +kernel) G
  unfold Dr at e1
  generalize hE : gK kJ oN [false, false, true] (af (az bW (af (aG fD (ai 3) (eC (.int 1))) (ao))) (ao)) (jP) (aG av (ai 3) (az cN (af (ai 0) (ao)))) = E at e1
  have e2 : eFn E [some t.d, some (.str "down"), some (pl p), some s.d] G = .ok (.con (((kids p 0 s.parts).map (·.1)).map pl)) G := by rw [gW, e1, mV hc]
  constructor
  · refine fB ?_ (by rw [cS]; exact hc)
    unfold nX
    rw [hE]
    generalize ((kids p 0 s.parts).map (·.1)).map pl = L at e2
    generalize t.d = td at e0 e2
    generalize s.d = sd at e0 e2
    generalize pl p = pp at e0 e2
    simp only [bJ, List.map_cons, List.map_nil, List.length_cons, List.length_nil, List.replicate, List.cons_append, List.nil_append, aN, aU, aL, aq, aB, ay, cO, List.getElem?_cons_succ, List.getElem?_cons_zero, aE, aj, aK, bZ, bR, List.set_cons_succ, List.set_cons_zero, cH, bM, aP, q1, q2, aM, gb, gC, aV, if_true, e0, bF, e2, cV, dG, cW]
  · refine q8 ?_ hc
    unfold kG
    rw [hE]
    generalize ((kids p 0 s.parts).map (·.1)).map pl = L at e1
    generalize t.d = td at e0 e1
    generalize s.d = sd at e0 e1
    generalize pl p = pp at e0 e1
    simp only [bJ, List.map_cons, List.map_nil, List.length_cons, List.length_nil, List.replicate, List.cons_append, List.nil_append, aN, aU, aL, aq, aB, ay, cO, List.getElem?_cons_succ, List.getElem?_cons_zero, aE, aj, aK, bZ, bR, List.set_cons_succ, List.set_cons_zero, cH, bM, aP, q1, q2, aM, gb, gC, aV, if_true, e0, bF, e1, cV, dG, cW]
theorem Fc (t s : T) (p : List Int) (h : (p, s) ∈ t.prs []) (hs : s.subs.length ≤ 500) (hp : p.length ≤ 1000) (G : DH) :
    lQ [t.d, .str "deep", pl p] G = .ok (.con (((gA p 0 s.parts).map (·.1)).map pl)) G ∧ jo [t.d, .str "deep", pl p] G = .ok (.obj G.length) (G ++ [.lst (((gA p 0 s.parts).map (·.1)).map pl)]) := by
  have e0 : fE [t.d, pl p] G = .ok s.d G := GZ t (p, s) h G
  have e1 := Jk s hs p hp (some t.d) (some (.str "deep")) G
  have hc := A0 ((gA p 0 s.parts).map (·.1))
  have q1 := Ds (a := "deep") (b := "later") (by decide +kernel) (by decide +kernel) (by decide +kernel) G
  have q2 := Ds (a := "deep") (b := "down") (by decide +kernel) (by decide +kernel) (by decide +kernel) G
  generalize hE : kM oN [false, false, true] (eFn (oH (br 1 fK (af (ai 3) (ao))) (dF (eC (.int 1))) (dQ))) (jP) (aG av (ai 3) (ai 0)) = E at e1
  have e2 : eFn E [some t.d, some (.str "deep"), some (pl p), some s.d] G = .ok (.con (((gA p 0 s.parts).map (·.1)).map pl)) G := by rw [gW, e1, mV hc]
  constructor
  · refine fB ?_ (by rw [cS]; exact hc)
    unfold nX
    rw [hE]
    generalize ((gA p 0 s.parts).map (·.1)).map pl = L at e2
    generalize t.d = td at e0 e2
    generalize s.d = sd at e0 e2
    generalize pl p = pp at e0 e2
    simp only [bJ, List.map_cons, List.map_nil, List.length_cons, List.length_nil, List.replicate, List.cons_append, List.nil_append, aN, aU, aL, aq, aB, ay, cO, List.getElem?_cons_succ, List.getElem?_cons_zero, aE, aj, aK, bZ, bR, List.set_cons_succ, List.set_cons_zero, cH, bM, aP, q1, q2, aM, gb, gC, aV, if_true, e0, bF, e2, cV, dG, cW]
  · refine q8 ?_ hc
    unfold kG
    rw [hE]
    generalize ((gA p 0 s.parts).map (·.1)).map pl = L at e1
    generalize t.d = td at e0 e1
    generalize s.d = sd at e0 e1
    generalize pl p = pp at e0 e1
    simp only [bJ, List.map_cons, List.map_nil, List.length_cons, List.length_nil, List.replicate, List.cons_append, List.nil_append, aN, aU, aL, aq, aB, ay, cO, List.getElem?_cons_succ, List.getElem?_cons_zero, aE, aj, aK, bZ, bR, List.set_cons_succ, List.set_cons_zero, cH, bM, aP, q1, q2, aM, gb, gC, aV, if_true, e0, bF, e1, cV, dG, cW]
theorem sW (t : T) (p : List Int) (L : List (List Int)) (G : DH) (h1 : gJ [t.d, pl p] G = .ok (.con (L.map pl)) G) (h2 : fF [t.d, pl p] G = .ok (.obj G.length) (G ++ [.lst (L.map pl)])) :
    lQ [t.d, .str "later", pl p] G = .ok (.con (L.map pl)) G ∧ jo [t.d, .str "later", pl p] G = .ok (.obj G.length) (G ++ [.lst (L.map pl)]) := by
  have hc := A0 L
  have q1 := Hh (a := "later") (by decide +kernel) G
  constructor
  · refine fB ?_ (by rw [cS]; exact hc)
    unfold nX
    generalize L.map pl = L' at h1
    generalize t.d = td at h1
    generalize pl p = pp at h1
    simp only [bJ, List.map_cons, List.map_nil, List.length_cons, List.length_nil, List.replicate, List.cons_append, List.nil_append, aN, aL, aq, aB, ay, cO, List.getElem?_cons_succ, List.getElem?_cons_zero, aE, aj, aK, cH, bM, aP, q1, aM, gb, if_true, bF, h1, cV, dG, cW]
  · refine q8 ?_ hc
    unfold kG
    generalize L.map pl = L' at h2
    generalize t.d = td at h2
    generalize pl p = pp at h2
    simp only [bJ, List.map_cons, List.map_nil, List.length_cons, List.length_nil, List.replicate, List.cons_append, List.nil_append, aN, aL, aq, aB, ay, cO, List.getElem?_cons_succ, List.getElem?_cons_zero, aE, aj, aK, cH, bM, aP, q1, aM, gb, if_true, bF, h2, cV, dG, cW]
theorem Eb (p : List Int) (G : DH) : j5 false (pl p) (.tup []) G = .ok (.bl (p == [])) G := by
  have := AX false p [] G
  rw [Bool.false_xor] at this
  exact this
theorem zO (t : T) (G : DH) : gJ [t.d, pl []] G = .ok (.con []) G ∧ fF [t.d, pl []] G = .ok (.obj G.length) (G ++ [.lst []]) := by
  have q := Eb [] G
  rw [show (([] : List Int) == []) = true from rfl] at q
  have z0 : (0 : Nat) ≤ sizeLine := Nat.zero_le _
  have hn : fu [] G = .ok (.obj G.length) (G ++ [.lst []]) := if_pos z0
  constructor
  · refine fB ?_ (by rw [cS]; rfl)
    unfold iL
    generalize t.d = td
    generalize pl [] = pp at q
    simp only [bJ, List.map_cons, List.map_nil, List.length_cons, List.length_nil, List.replicate, List.cons_append, List.nil_append, aN, aC, aB, ay, List.getElem?_cons_succ, List.getElem?_cons_zero, aE, aj, cN, if_pos z0, cH, bM, aP, q, aM, gb, bF, yf, cV, dG, cW]
  · refine q8 ?_ rfl
    unfold gM
    generalize t.d = td
    generalize pl [] = pp at q
    simp only [bJ, List.map_cons, List.map_nil, List.length_cons, List.length_nil, List.replicate, List.cons_append, List.nil_append, aN, aC, aB, ay, List.getElem?_cons_succ, List.getElem?_cons_zero, aE, aj, cN, if_pos z0, cH, bM, aP, q, aM, gb, bF, hn, cV, dG, cW]
theorem Hi (t s : T) (a : List Int) (i0 : Nat) (h : (a, s) ∈ t.prs []) (ha : a.length ≤ 900) (hi : i0 ≤ 100000) (hs : s.subs.length ≤ 1000) (G : DH) :
    gJ [t.d, pl (a ++ [(i0 : Int)])] G = .ok (.con (((List.range' (i0 + 1) (s.parts.length - (i0 + 1))).map fun (k : Nat) => a ++ [(k : Int)]).map pl)) G ∧
    fF [t.d, pl (a ++ [(i0 : Int)])] G = .ok (.obj G.length) (G ++ [.lst (((List.range' (i0 + 1) (s.parts.length - (i0 + 1))).map fun (k : Nat) => a ++ [(k : Int)]).map pl)]) := by
  have q := Eb (a ++ [(i0 : Int)]) G
  rw [show ((a ++ [(i0 : Int)]) == []) = false by simp] at q
  have z0 : (0 : Nat) ≤ sizeLine := Nat.zero_le _
  have hc := A0 ((List.range' (i0 + 1) (s.parts.length - (i0 + 1))).map fun (k : Nat) => a ++ [(k : Int)])
  have e1 := Hg t s a i0 h (by omega) hi hs G
  have e3 := AY (a ++ [(i0 : Int)]) (by simp) (by simp; omega) G
  rw [show (a ++ [(i0 : Int)]).dropLast = a by simp] at e3
  have e4 := Cn a G
  unfold Dr at e1
  generalize hE : gK wg oN [false, false, true] (af (aG av (aG fD (ai 1) (kL (eC (.int 1)))) (eC (.int 1))) (af (az bW (af (aG fD (br 2 fE (af (ai 0) (af (ai 2) (ao)))) (eC (.int 1))) (ao))) (ao))) (jP) (aG av (ai 3) (az cN (af (ai 0) (ao)))) = E at e1
  have e2 : eFn E [some t.d, some (pl (a ++ [(i0 : Int)])), some (pl a)] G = .ok (.con (((List.range' (i0 + 1) (s.parts.length - (i0 + 1))).map fun (k : Nat) => a ++ [(k : Int)]).map pl)) G := by rw [gW, e1, mV hc]
  have e5 : ∀ x, eFn (oH (ai 1) (dQ) (dF (kL (eC (.int 1))))) [some t.d, some (pl (a ++ [(i0 : Int)])), x] G = .ok (pl a) G := fun x => by
    rw [gW]
    generalize pl (a ++ [(i0 : Int)]) = pp at e3
    generalize pl a = pa at e3 e4
    simp only [eS, ay, List.getElem?_cons_succ, List.getElem?_cons_zero, aE, aj, bz, bA, cQ, cO, cR, bB, e3, e4]
  generalize Sx : eFn (oH (ai 1) (dQ) (dF (kL (eC (.int 1))))) = E5 at e5
  constructor
  · refine fB ?_ (by rw [cS]; exact hc)
    unfold iL
    rw [hE, Sx]
    generalize (((List.range' (i0 + 1) (s.parts.length - (i0 + 1))).map fun (k : Nat) => a ++ [(k : Int)]).map pl) = L at e2
    generalize pl (a ++ [(i0 : Int)]) = pp at q e2 e5
    generalize t.d = td at e2 e5
    simp only [bJ, List.map_cons, List.map_nil, List.length_cons, List.length_nil, List.replicate, List.cons_append, List.nil_append, aN, aU, aC, aB, ay, List.getElem?_cons_succ, List.getElem?_cons_zero, aE, aj, cN, if_pos z0, cH, bM, aP, q, aM, gC, aV, bR, e5, bZ, List.set_cons_succ, List.set_cons_zero, bF, e2, cV, dG, cW]
  · refine q8 ?_ hc
    unfold gM
    rw [hE, Sx]
    generalize (((List.range' (i0 + 1) (s.parts.length - (i0 + 1))).map fun (k : Nat) => a ++ [(k : Int)]).map pl) = L at e1
    generalize pl (a ++ [(i0 : Int)]) = pp at q e1 e5
    generalize t.d = td at e1 e5
    simp only [bJ, List.map_cons, List.map_nil, List.length_cons, List.length_nil, List.replicate, List.cons_append, List.nil_append, aN, aU, aC, aB, ay, List.getElem?_cons_succ, List.getElem?_cons_zero, aE, aj, cN, if_pos z0, cH, bM, aP, q, aM, gC, aV, bR, e5, bZ, List.set_cons_succ, List.set_cons_zero, bF, e1, cV, dG, cW]
end K32
end
section
set_option Elab.async false
set_option linter.all false
set_option maxRecDepth 100000
set_option maxHeartbeats 1000000
namespace K32
open PySem PySem.Spec L2 L3
theorem told (t : T) (hl : t.subs.length ≤ 100) (x : List Int × T) (hx : x ∈ t.prs []) (go : Str) (hgo : go = "down" ∨ go = "deep" ∨ go = "later") : ∃ L : List (List Int), L.length ≤ 1000 ∧ ∀ G,
    jn [.con (((t.prs []).map (·.1)).map pl), .str go, pl x.1] G = .ok (.con (L.map pl)) G ∧ lQ [t.d, .str go, pl x.1] G = .ok (.con (L.map pl)) G ∧ jo [t.d, .str go, pl x.1] G = .ok (.obj G.length) (G ++ [.lst (L.map pl)]) := by
  have N8 : ((t.prs []).map (·.1)).length ≤ 1000 := by
    have := congrArg List.length (pS [] t)
    simp at this ⊢; omega
  have OI : ∀ q ∈ (t.prs []).map (·.1), q.length ≤ 1000 := fun q hq => by
    obtain ⟨y, hy, rfl⟩ := List.mem_map.mp hq
    have := vL t [] y hy
    simp at this; omega
  have hsub : ∀ y ∈ t.prs [], y.2.subs.length ≤ 100 := fun y hy => by
    have : y.2 ∈ t.subs := by rw [← pS [] t]; exact List.mem_map.mpr ⟨y, hy, rfl⟩
    have := sub_le t _ this
    omega
  have hs := hsub x hx
  have hp : x.1.length ≤ 1000 := OI _ (List.mem_map.mpr ⟨x, hx, rfl⟩)
  rcases hgo with rfl | rfl | rfl
  · refine ⟨(kids x.1 0 x.2.parts).map (·.1), by rw [← Dn t [] x hx]; exact Nat.le_trans (List.length_filter_le _ _) N8, fun G => ⟨?_, Fb t x.2 x.1 hx (by omega) hp G⟩⟩
    rw [G8 _ N8 OI, Dn t [] x hx]
  · refine ⟨(gA x.1 0 x.2.parts).map (·.1), by rw [← AW t [] x hx]; exact Nat.le_trans (List.length_filter_le _ _) N8, fun G => ⟨?_, Fc t x.2 x.1 hx (by omega) hp G⟩⟩
    rw [G9 _ N8 OI, AW t [] x hx]
  · rcases above _ t [] x (Nat.le_refl _) hx with rfl | ⟨a, i, s, e1, e2, e3⟩
    · exact ⟨[], Nat.zero_le _, fun G => ⟨Dq _ G, sW t [] [] G (zO t G).1 (zO t G).2⟩⟩
    · have h2 := hsub _ e2
      have h3 := yj s
      have h4 : a.length + 1 = x.1.length := by rw [e1]; simp
      have h5 := vL t [] (a, s) e2
      simp at h5 h2
      rw [e1] at hp ⊢
      refine ⟨(List.range' (i + 1) (s.parts.length - (i + 1))).map fun (k : Nat) => a ++ [(k : Int)], by rw [List.length_map, List.length_range']; omega, fun G => ⟨?_, ?_⟩⟩
      · rw [E9 _ N8 OI _ (by simp) hp, Ji t [] a s i e2]
      · have := Hi t s a i e2 (by omega) (by omega) (by omega) G
        exact sW t _ _ G this.1 this.2
theorem LN (t : T) (hl : t.subs.length ≤ 100) (x : List Int × T) (hx : x ∈ t.prs []) (go : Str) (hgo : go = "down" ∨ go = "deep" ∨ go = "later") (a0 a1 a2 a5 a6 a7 yK yL : Option D) (G : DH) : ∃ (Cs Ct : Option D) (R : DH),
    Ax [a0, a1, a2, some t.d, some (.con (((t.prs []).map (·.1)).map pl)), a5, a6, a7, some (pl x.1), some (.str go), yK, yL] G = .nx [a0, a1, a2, some t.d, some (.con (((t.prs []).map (·.1)).map pl)), a5, a6, a7, some (pl x.1), some (.str go), Cs, Ct] (G ++ R) := by
  obtain ⟨L, Vl, hL⟩ := told t hl x hx go hgo
  have hlen : (L.map pl).length < sizeLine := Nat.lt_of_lt_of_le (by simp; omega) (lz (n := 1001) (by omega))
  have e1 := (hL G).1
  have e2 := (hL G).2.2
  have e3 := (hL (G ++ [.lst (L.map pl ++ [pl x.1])])).2.1
  have q1 := IP true (L.map pl) G.length (G ++ [.lst (L.map pl)]) (by simp) (zK L) (by have := G5 L; omega)
  have q2 := BP true (.con (L.map pl)) (G ++ [.lst (L.map pl ++ [pl x.1])]) (by rw [D.plain]; exact zK L) (by rw [D.dp]; have := G5 L; omega)
  refine ⟨some (.con (L.map pl)), some (.obj G.length), [.lst (L.map pl ++ [pl x.1])], ?_⟩
  generalize pl x.1 = pp at e1 e2 e3 q2
  generalize L.map pl = L' at e1 e2 e3 q1 q2 hlen
  generalize ((t.prs []).map (·.1)).map pl = P at e1
  generalize t.d = td at e2 e3
  unfold Ax
  simp only [aN, aU, aL, aq, aB, ay, cO, List.getElem?_cons_succ, List.getElem?_cons_zero, aE, aj, aK, List.length_cons, List.length_nil, if_true, e1, bZ, bR, List.set_cons_succ, List.set_cons_zero, e2, cH, dm, ck, bu, dH, iH, qM, JD, Ty.is, iz, bM, aP, q1, aM]
  simp [bO, aX, bU, aS, hlen, gC, aV, bR, fk, aL, aq, aB, ay, aE, aj, aK, cH, bM, aP, aM, aN, IC, e3, q2, e1, e2, q1, iH, qM, Ty.is, iz, dM, dH]
theorem Cq (t : T) (hl : t.subs.length ≤ 100) (x : List Int × T) (hx : x ∈ t.prs []) (a0 a1 a2 a5 a6 a7 : Option D) : ∀ (gs : List Str) (a9 yK yL : Option D) (G : DH), (∀ go ∈ gs, go = "down" ∨ go = "deep" ∨ go = "later") → ∃ (b9 Cs Ct : Option D) (R : DH),
    fY (gN 9) Ax (gs.map .str) [a0, a1, a2, some t.d, some (.con (((t.prs []).map (·.1)).map pl)), a5, a6, a7, some (pl x.1), a9, yK, yL] G = .nx [a0, a1, a2, some t.d, some (.con (((t.prs []).map (·.1)).map pl)), a5, a6, a7, some (pl x.1), b9, Cs, Ct] (G ++ R)
  | [], a9, yK, yL, G, h => ⟨a9, yK, yL, [], by simp [fY]⟩
  | go :: gs, a9, yK, yL, G, h => by
    obtain ⟨Cs, Ct, R, e⟩ := LN t hl x hx go (h go (by simp)) a0 a1 a2 a5 a6 a7 yK yL G
    obtain ⟨c9, Nv, ND, R2, e2⟩ := Cq t hl x hx a0 a1 a2 a5 a6 a7 gs (some (.str go)) Cs Ct (G ++ R) fun g hg => h g (by simp [hg])
    refine ⟨c9, Nv, ND, R ++ R2, ?_⟩
    rw [List.map_cons, iJ rfl]
    simp only [List.set_cons_succ, List.set_cons_zero, e, dR]
    rw [e2, List.append_assoc]
theorem Hj (t : T) (hl : t.subs.length ≤ 100) (x : List Int × T) (hx : x ∈ t.prs []) (by_ tn k : Int) (hb : 0 < by_) (a0 a1 a2 a9 yK yL : Option D) (G : DH) : ∃ (b9 Cs Ct : Option D) (R : DH),
    xN [a0, a1, a2, some t.d, some (.con (((t.prs []).map (·.1)).map pl)), some (.int by_), some (.int tn), some (.int k), some (pl x.1), a9, yK, yL] G = .nx [a0, a1, a2, some t.d, some (.con (((t.prs []).map (·.1)).map pl)), some (.int by_), some (.int tn), some (.int k), some (pl x.1), b9, Cs, Ct] (G ++ R) := by
  have z3 : (([.str "down", .str "deep", .str "later"] : List D)).length ≤ sizeLine := lz (by simp)
  obtain ⟨b9, Cs, Ct, R, e⟩ := Cq t hl x hx a0 a1 a2 (some (.int by_)) (some (.int tn)) (some (.int k)) ["down", "deep", "later"] a9 yK yL G (fun g hg => by simpa using hg)
  have eg : ∀ τ G, eFn (az fu (af (eC (.str "down")) (af (eC (.str "deep")) (af (eC (.str "later")) (ao))))) τ G = .ok (.con [.str "down", .str "deep", .str "later"]) G := fun τ G => by
    rw [gW]
    simp only [aC, aq, aB, cO, aE, aj, aK]
    rw [j9 z3 (by simp [eG, jm, kF])]
  simp only [List.map_cons, List.map_nil] at e
  generalize hE : eFn (az fu (af (eC (.str "down")) (af (eC (.str "deep")) (af (eC (.str "later")) (ao))))) = E at eg
  have hc : ∃ c : Bool, ∀ G, CL (j3 (aG (j5 false) (ai 7) (eC (.int 0)))) (j3 (aG (j5 false) (aG jN (ai 7) (ai 5)) (ai 6))) [a0, a1, a2, some t.d, some (.con (((t.prs []).map (·.1)).map pl)), some (.int by_), some (.int tn), some (.int k), some (pl x.1), a9, yK, yL] G = .ok c G := by
    have hdb : decide (0 < by_) = true := decide_eq_true hb
    cases h0 : (k == 0) with
    | true => exact ⟨true, fun G => by simp only [dm, bM, aP, ay, cO, List.getElem?_cons_succ, List.getElem?_cons_zero, aE, aj, iB, h0, Bool.false_xor, aM, if_true, aK]⟩
    | false => exact ⟨(k % by_ == tn), fun G => by simp only [dm, bM, aP, ay, cO, List.getElem?_cons_succ, List.getElem?_cons_zero, aE, aj, iB, h0, Bool.false_xor, aM, Bool.false_eq_true, if_false, bT, hdb, if_true, aK]⟩
  obtain ⟨c, hc⟩ := hc
  unfold xN
  rw [hE]
  generalize hC : CL (j3 (aG (j5 false) (ai 7) (eC (.int 0)))) (j3 (aG (j5 false) (aG jN (ai 7) (ai 5)) (ai 6))) = C at hc
  rw [cH, hc]
  cases c with
  | true =>
    refine ⟨b9, Cs, Ct, R, ?_⟩
    rw [gb, bw, eg, fy]
    exact e
  | false =>
    refine ⟨a9, yK, yL, [], ?_⟩
    rw [gC, aV, List.append_nil]
theorem Cr (t : T) (hl : t.subs.length ≤ 100) (by_ tn : Int) (hb : 0 < by_) (a0 a1 a2 : Option D) : ∀ (its : List (Int × (List Int × T))) (a7 a8 a9 yK yL : Option D) (G : DH), (∀ y ∈ its, y.2 ∈ t.prs []) → ∃ (b7 b8 b9 Cs Ct : Option D) (R : DH),
    fY (gP 7 8) xN (its.map fun y => .tup [.int y.1, pl y.2.1]) [a0, a1, a2, some t.d, some (.con (((t.prs []).map (·.1)).map pl)), some (.int by_), some (.int tn), a7, a8, a9, yK, yL] G = .nx [a0, a1, a2, some t.d, some (.con (((t.prs []).map (·.1)).map pl)), some (.int by_), some (.int tn), b7, b8, b9, Cs, Ct] (G ++ R)
  | [], a7, a8, a9, yK, yL, G, h => ⟨a7, a8, a9, yK, yL, [], by simp [fY]⟩
  | y :: its, a7, a8, a9, yK, yL, G, h => by
    obtain ⟨b9, Cs, Ct, R, e⟩ := Hj t hl y.2 (h y (by simp)) by_ tn y.1 hb a0 a1 a2 a9 yK yL G
    obtain ⟨c7, c8, c9, Nv, ND, R2, e2⟩ := Cr t hl by_ tn hb a0 a1 a2 its (some (.int y.1)) (some (pl y.2.1)) b9 Cs Ct (G ++ R) fun z hz => h z (by simp [hz])
    refine ⟨c7, c8, c9, Nv, ND, R ++ R2, ?_⟩
    rw [List.map_cons, iJ (τ1 := [a0, a1, a2, some t.d, some (.con (((t.prs []).map (·.1)).map pl)), some (.int by_), some (.int tn), some (.int y.1), some (pl y.2.1), a9, yK, yL]) rfl, e, dR, e2, List.append_assoc]
theorem Hl {g : uY} {body : MS} {xs : List D} {τ : DS} {G : DH} : wj g body (t9 (.con xs)) (xs.length + 1) 0 τ G = fY g body (xs.mapIdx fun i x => .tup [.int i, x]) τ G := by
  have := ue (g := g) (body := body) (xs := xs.mapIdx fun i x => D.tup [.int i, x]) (vw := t9 (.con xs)) (fun G i h => by
    simp only [t9, aD, List.getElem?_mapIdx]) (xs.length + 1) 0 τ G (by simp) (by simp)
  simpa using this
theorem Ho (ns : List Int) (hl : ns.length ≤ 63) : ∃ G, GN [.con (ns.map .int)] [] = .ok (.bl true) G := by
  obtain ⟨c, e1⟩ := B6 ns [none, none, none, none, none, none, none, none, none, none, none] []
  obtain ⟨ws, hws, hok, e2⟩ := GS c []
  obtain ⟨x0, Vm, QN, e3⟩ := B7 ns hl 0 (by omega) []
  obtain ⟨x1, Vn, U3, e4⟩ := B7 ns hl 1 (by omega) []
  obtain ⟨m, hm1, hm2, e5⟩ := IV ns []
  obtain ⟨rs, e, hv, hrl, hrs, e6⟩ := IX (x0 ++ x1) (by simp; omega) ws hws hok m hm2 []
  obtain ⟨t, ht1, U4⟩ := I8 hv
  have hpl : t.subs.length ≤ 100 := by rw [← D0 0 t, ← ht1]; exact hrl
  have hgood : t.good = true := B9 0 t (by rw [← ht1]; exact hrs)
  have e7 := GW rs hrl
  rw [U4] at e7
  have e8 := GX t hpl
  rw [← ht1] at e8
  have h0 : tS (t.subs.map T.d) 0 = some t.d := by
    have := lW (xs := t.subs.map T.d) (j := 0) (v := t.d) (by cases t; rw [T.subs]; rfl)
    simpa using this
  have hb : (0 : Int) < 1 + (((((t.prs []).map (·.1)).map pl).length : Int)) / 12 := by omega
  have N9 : ∀ G, j5 false t.d t.d G = .ok (.bl (false ^^ true)) G := fun G => BP false _ G (ya t hgood) (by have := N4 t; omega)
  have hz1 : (0 : Nat) < sizeLine := Nat.lt_of_lt_of_le (by omega) (lz (n := 1) (by omega))
  have hc2 : aW (x0.map D.int ++ x1.map D.int) = true := by rw [← List.map_append]; exact aR fun _ => eZ
  have QU : (x0.map D.int ++ x1.map D.int).length ≤ sizeLine := lz (by simp; omega)
  rw [List.map_append] at e6
  rw [show (((0 : Nat) : Int)) = 0 from rfl] at e3
  rw [show (((1 : Nat) : Int)) = 1 from rfl] at e4
  have hturn : ∃ tn : Int, (cT (dS 6 (eC (.int 0))) (tT (j3 (aG A2 (az bW (af (ai 0) (ao))) (eC (.int 0)))) (dS 6 (aG jN (aG fD (ai 0) (eC (.int 0))) (ai 5))) (ia))) [some (.con (ns.map .int)), some (.con (ws.map .str)), some (.con (rs.map row)), some t.d, some (.con (((t.prs []).map (·.1)).map pl)), some (.int (1 + (((((t.prs []).map (·.1)).map pl).length : Int)) / 12)), none, none, none, none, none, none] [] =
      .nx [some (.con (ns.map .int)), some (.con (ws.map .str)), some (.con (rs.map row)), some t.d, some (.con (((t.prs []).map (·.1)).map pl)), some (.int (1 + (((((t.prs []).map (·.1)).map pl).length : Int)) / 12)), some (.int tn), none, none, none, none, none] [] := by
    generalize (1 + (((((t.prs []).map (·.1)).map pl).length : Int)) / 12) = bb at hb
    generalize ((t.prs []).map (·.1)).map pl = P
    generalize t.d = td
    have hdb : decide (0 < bb) = true := decide_eq_true hb
    by_cases hn : 0 < ns.length
    · have ha := AO ns 0 hn
      rw [show ((0 : Nat) : Int) = 0 from rfl] at ha
      have hn' : decide ((0 : Int) < ((ns.map D.int).length : Int)) = true := decide_eq_true (by simp; omega)
      refine ⟨ns.getD 0 0 % bb, ?_⟩
      generalize ns.map D.int = N at ha hn'
      simp only [aN, aU, cO, bZ, bR, cH, bM, aP, aC, aq, aB, ay, List.getElem?_cons_succ, List.getElem?_cons_zero, List.set_cons_succ, List.set_cons_zero, aE, aj, aK, bW, aD, bT, if_true, hn', aM, gb, fD, ha, hdb]
    · have hn' : decide ((0 : Int) < ((ns.map D.int).length : Int)) = false := decide_eq_false (by rw [List.length_map]; omega)
      refine ⟨0, ?_⟩
      generalize ns.map D.int = N at hn'
      simp only [aN, aU, cO, bZ, bR, cH, bM, aP, aC, aq, aB, ay, List.getElem?_cons_succ, List.getElem?_cons_zero, List.set_cons_succ, List.set_cons_zero, aE, aj, aK, bW, aD, bT, if_true, hn', aM, gC, aV]
  obtain ⟨tn, zP⟩ := hturn
  obtain ⟨b7, b8, b9, Cs, Ct, R, yk⟩ := Cr t hpl (1 + (((((t.prs []).map (·.1)).map pl).length : Int)) / 12) tn hb (some (.con (ns.map .int))) (some (.con (ws.map .str))) (some (.con (rs.map row))) ((t.prs []).mapIdx fun i x => ((i : Int), x)) none none none none none [] (fun y hy => by
    obtain ⟨i, hi, rfl⟩ := List.mem_mapIdx.mp hy
    exact List.getElem_mem hi)
  have QV : ((t.prs []).mapIdx fun i x => ((i : Int), x)).map (fun y => D.tup [.int y.1, pl y.2.1]) = (((t.prs []).map (·.1)).map pl).mapIdx fun i x => .tup [.int i, x] := by
    apply List.ext_getElem?
    intro i
    simp only [List.getElem?_map, List.getElem?_mapIdx]
    cases (t.prs [])[i]? <;> rfl
  rw [QV, List.nil_append] at yk
  generalize QN : x0.map D.int = X0 at e3 e6 hc2 QU
  generalize Sy : x1.map D.int = X1 at e4 e6 hc2 QU
  generalize ws.map D.str = W at e2 e6 zP yk
  generalize hR : rs.map row = RW at e6 e7 e8 zP yk
  generalize ((t.prs []).map (·.1)).map pl = P at e8 zP yk hb
  generalize t.subs.map T.d = Q at e7 h0
  generalize t.d = z at h0 N9 zP yk
  generalize ns.map D.int = N at e1 e3 e4 e5 zP yk
  refine ⟨[], oW (R := R) ?_ ES⟩
  have c1 : eFn (aG av (br 2 gD (af (ai 0) (af (eC (.int 0)) (ao)))) (br 2 gD (af (ai 0) (af (eC (.int 1)) (ao))))) [some (.con N), some (.con W), none, none, none, none, none, none, none, none, none, none] [] = .ok (.con (X0 ++ X1)) [] := by
    rw [gW]
    simp only [aP, aL, aq, aB, ay, cO, List.getElem?_cons_zero, aE, aj, aK, List.length_cons, List.length_nil, if_true, e3, e4]
    show (fu (X0 ++ X1) []).fw [] = _
    rw [j9 QU hc2]
  generalize hC : eFn (aG av (br 2 gD (af (ai 0) (af (eC (.int 0)) (ao)))) (br 2 gD (af (ai 0) (af (eC (.int 1)) (ao))))) = C at c1
  generalize hS : az Am (af (eFn (oH (ai 0) (dQ) (dF (eC (.int 1))))) (ao)) = S at e1
  unfold DX
  rw [hC, hS]
  simp only [bJ, List.map_cons, List.map_nil, List.length_cons, List.length_nil, List.replicate, List.cons_append, List.nil_append]
  rw [aN]
  have s1 : dS 1 (br 1 kR (af S ao)) [some (.con N), none, none, none, none, none, none, none, none, none, none, none] [] = .nx [some (.con N), some (.con W), none, none, none, none, none, none, none, none, none, none] [] := by
    simp only [aU, aL, aq, aB, e1, aE, aj, aK, List.length_cons, List.length_nil, if_true, e2, bZ, List.set_cons_succ, List.set_cons_zero]
  rw [s1, bR, aN]
  have s2 : dS 2 (br 3 mH (af C (af (ai 1) (af (br 2 mK (af (ai 0) (af (eC (.int 60)) (ao)))) (ao))))) [some (.con N), some (.con W), none, none, none, none, none, none, none, none, none, none] [] = .nx [some (.con N), some (.con W), some (.con RW), none, none, none, none, none, none, none, none, none] [] := by
    simp only [aU, aL, aq, aB, ay, cO, List.getElem?_cons_succ, List.getElem?_cons_zero, c1, aE, aj, aK, List.length_cons, List.length_nil, if_true, e5, e6, bZ, List.set_cons_succ, List.set_cons_zero]
  rw [s2, bR, aN]
  have ez : ∀ τ G, aG fD (br 1 jA (af (ai 2) (ao))) (eC (.int 0)) (some (.con N) :: some (.con W) :: some (.con RW) :: τ) G = .ok z G := fun τ G => by
    simp only [aP, aL, aq, aB, ay, cO, List.getElem?_cons_succ, List.getElem?_cons_zero, aE, aj, aK, List.length_cons, List.length_nil, if_true, e7, fD, aD, h0]
  rw [aU, ez, bZ, bR, aN]
  simp only [List.set_cons_succ, List.set_cons_zero]
  have s4 : dS 4 (br 1 kP (af (ai 2) (ao))) [some (.con N), some (.con W), some (.con RW), some z, none, none, none, none, none, none, none, none] [] = .nx [some (.con N), some (.con W), some (.con RW), some z, some (.con P), none, none, none, none, none, none, none] [] := by
    simp only [aU, aL, aq, aB, ay, List.getElem?_cons_succ, List.getElem?_cons_zero, aE, aj, aK, List.length_cons, List.length_nil, if_true, e8, bZ, List.set_cons_succ, List.set_cons_zero]
  rw [s4, bR, aN]
  have s5 : dS 5 (aG av (eC (.int 1)) (aG zf (az bW (af (ai 4) (ao))) (eC (.int 12)))) [some (.con N), some (.con W), some (.con RW), some z, some (.con P), none, none, none, none, none, none, none] [] = .nx [some (.con N), some (.con W), some (.con RW), some z, some (.con P), some (.int (1 + (P.length : Int) / 12)), none, none, none, none, none, none] [] := by
    simp [aU, aP, aC, aq, aB, ay, cO, aE, aj, aK, bW, aD, bT, av, bZ]
  rw [s5, bR, qC, zP, bR, aN]
  have s6 : xy (gP 7 8) (n5 (af (ai 4) (ao))) xN [some (.con N), some (.con W), some (.con RW), some z, some (.con P), some (.int (1 + (P.length : Int) / 12)), some (.int tn), none, none, none, none, none] [] = .nx [some (.con N), some (.con W), some (.con RW), some z, some (.con P), some (.int (1 + (P.length : Int) / 12)), some (.int tn), b7, b8, b9, Cs, Ct] R := by
    simp only [cu, bq, aq, aB, ay, List.getElem?_cons_succ, List.getElem?_cons_zero, aE, aj, aK, aD, fy, Hl, yk]
  rw [s6, bR, bF, aP]
  have s7 : ai 3 [some (.con N), some (.con W), some (.con RW), some z, some (.con P), some (.int (1 + (P.length : Int) / 12)), some (.int tn), b7, b8, b9, Cs, Ct] R = .ok z R := rfl
  rw [s7, aE, aj, ez, aE, N9, cV, cW]
  rfl
end K32
end
section
set_option Elab.async false
set_option linter.all false
set_option maxRecDepth 100000
set_option maxHeartbeats 4000000
namespace K32
open PySem PySem.Spec L2 L3
theorem walk {l : PySem.W.OpenLaw} {qq : Program} {loose : List Str} {XP : (Str → Option Value) → Heap → Prop} {YP : World → Heap → Prop} {d : DefRec} {K : Params → PySem.W.Frag} (hn : l.most = some 63) (hdf : d.params.defaults = [])
    (hY : ∀ (w : World) (h : Heap), YP w h → (K w.params).In h)
    (F : ∀ (w : World) (mg : Str → Option Value) (fa : Addr) (h : Heap), (K w.params).In h → h.Ns mainGlobals mg → mg d.name = some (.ref fa) → ∃ t, Txt (K w.params) mg t ∧ (t.f 15) = fa ∧ ∀ (s : Shared) (u : Value), BindsTo s (t.d 15) ⟨[u], []⟩ [("_law_script", u)]) :
    PySem.W.WalkO qq loose XP YP l.row.toRowW d [] (fun f vs => PySem.call f vs) :=
  L2.HV (n := 63) (k := 6) (x := "_law_script") (CX := fun w => gc l.prog w) (sp := fun w => JB (K w.params)) hn (by decide) hdf ⟨rfl, by decide, by decide⟩ hY (fun w mg fa h KX G hm => by
    obtain ⟨t, T, rfl, hb⟩ := F w mg fa h KX G hm
    exact ⟨(t.d 15), hb, fun base _ _ => (LI T).imp (Gr Ho)⟩) (fun _ _ a ns hl hO hS => ⟨a, ns, rfl, Lg hO hS, hl, fun _ => rfl⟩) fun _ _ _ _ _ ⟨_, _, _, _, _, _, _, _, z⟩ => z
end K32
end
open PySem PySem.W PyProof.Rows
set_option maxRecDepth 100000 in
set_option maxHeartbeats 0 in
theorem PySem.Challenge.cw_pathshape_k32_steps_gone_holds : PySem.Challenge.rw_pathshape_k32_steps_gone.Holds := by
  w_on; o_law; k_head; (case hw => w_witness2)
  k_fill
  refine K32.walk (l := PySem.Challenge.rw_pathshape_k32_steps_gone) rfl rfl (fun w h Y => PySem.W.kIn_of Y) ?F
  case F =>
    intro w mg fa h KX G hmg
    have T : ∃ t, K32.Txt (L2.KOf KX) mg t ∧ ∃ kV dc pm an cd ct, (t.d 15) = PySem.W.fnOf "law" "law" (L2.bL K32.eT) (L2.bG K32.eT) (L2.aa K32.eT) .none kV dc pm an cd ct := by
      dsimp only [L2.KOf]
      refine' K32.LA KX G ?my_a0 ?my_l0 ?my_c0 ?my_k0 ?my_a1 ?my_l1 ?my_c1 ?my_k1 ?my_a2 ?my_l2 ?my_c2 ?my_k2 ?my_a3 ?my_l3 ?my_c3 ?my_k3 ?my_a4 ?my_l4 ?my_c4 ?my_k4 ?my_a5 ?my_l5 ?my_c5 ?my_k5 ?my_a6 ?my_l6 ?my_c6 ?my_k6 ?my_a7 ?my_l7 ?my_c7 ?my_k7 ?my_a8 ?my_l8 ?my_c8 ?my_k8 ?my_a9 ?my_l9 ?my_c9 ?my_k9 ?my_a10 ?my_l10 ?my_c10 ?my_k10 ?my_a11 ?my_l11 ?my_c11 ?my_k11 ?my_a12 ?my_l12 ?my_c12 ?my_k12 ?my_a13 ?my_l13 ?my_c13 ?my_k13 ?my_a14 ?my_l14 ?my_c14 ?my_k14 ?my_a15 ?my_l15 ?my_c15 ?my_k15 ?my_z0 ?my_z1 ?my_z2 ?my_z3 ?my_z4 ?my_z5 ?my_z6 ?my_z7 ?my_z8 ?my_z9
      (case my_a0 => k_is)
      (case my_l0 => k_is)
      (case my_c0 => k_is)
      (case my_k0 => k_is)
      (case my_a1 => k_is)
      (case my_l1 => k_is)
      (case my_c1 => k_is)
      (case my_k1 => k_is)
      (case my_a2 => k_is)
      (case my_l2 => k_is)
      (case my_c2 => k_is)
      (case my_k2 => k_is)
      (case my_a3 => k_is)
      (case my_l3 => k_is)
      (case my_c3 => k_is)
      (case my_k3 => k_is)
      (case my_a4 => k_is)
      (case my_l4 => k_is)
      (case my_c4 => k_is)
      (case my_k4 => k_is)
      (case my_a5 => k_is)
      (case my_l5 => k_is)
      (case my_c5 => k_is)
      (case my_k5 => k_is)
      (case my_a6 => k_is)
      (case my_l6 => k_is)
      (case my_c6 => k_is)
      (case my_k6 => k_is)
      (case my_a7 => k_is)
      (case my_l7 => k_is)
      (case my_c7 => k_is)
      (case my_k7 => k_is)
      (case my_a8 => k_is)
      (case my_l8 => k_is)
      (case my_c8 => k_is)
      (case my_k8 => k_is)
      (case my_a9 => k_is)
      (case my_l9 => k_is)
      (case my_c9 => k_is)
      (case my_k9 => k_is)
      (case my_a10 => k_is)
      (case my_l10 => k_is)
      (case my_c10 => k_is)
      (case my_k10 => k_is)
      (case my_a11 => k_is)
      (case my_l11 => k_is)
      (case my_c11 => k_is)
      (case my_k11 => k_is)
      (case my_a12 => k_is)
      (case my_l12 => k_is)
      (case my_c12 => k_is)
      (case my_k12 => k_is)
      (case my_a13 => k_is)
      (case my_l13 => k_is)
      (case my_c13 => k_is)
      (case my_k13 => k_is)
      (case my_a14 => k_is)
      (case my_l14 => k_is)
      (case my_c14 => k_is)
      (case my_k14 => k_is)
      (case my_a15 => k_is)
      (case my_l15 => k_is)
      (case my_c15 => k_is)
      (case my_k15 => k_is)
      (case my_z0 => k_is)
      (case my_z1 => k_is)
      (case my_z2 => k_is)
      (case my_z3 => k_is)
      (case my_z4 => k_is)
      (case my_z5 => k_is)
      (case my_z6 => k_is)
      (case my_z7 => k_is)
      (case my_z8 => k_is)
      (case my_z9 => k_is)
    obtain ⟨t, T, kV, dc, pm, an, cd, ct, e⟩ := T
    have e0 := hmg.symm.trans T.M_law
    cases e0
    exact ⟨t, T, rfl, fun s u => by rw [e]; exact .of_eq rfl⟩
