import PyProof.Rows.All
import Wide.All
import OpenK.AllK
import Wide.FinOn
import Lean
import PyProof.EqAt
import PyProof.EqKinds
import PyProof.TupleCall
import PyProof.StrWalks
import KE.KTryMore
import PyProof.ZipIter
import PyProof.Rows.Range3
import PyProof.Draws
import PyProof.WalksMore
import PyProof.ExcBaseAll.ValueError
import PyProof.StrReplace2
import PySem.Challenge.RW_pathshape_k13_shapes_written
section
set_option Elab.async false
set_option linter.all false
set_option maxRecDepth 100000
namespace L2
open PySem PySem.Spec PyProof.Rows
noncomputable abbrev Key := Sum Int Str
noncomputable def IZ : Key → Value → Bool
  | .inl k, v => Value.isInt k v
  | .inr x, v => Value.isStrOf x v
noncomputable def PB (w : World) : Key → Int
  | .inl k => hashInt k
  | .inr x => hashStr w x
theorem dD : ∀ {k : Key} {v : Value}, IZ k v = true → (∃ i t, k = Sum.inl i ∧ v = Value.int i t) ∨ (∃ x t, k = Sum.inr x ∧ v = Value.str x t)
  | .inl i, v, h => by
    obtain ⟨t, e⟩ := Value.isInt_shape (k := i) (v := v) h
    exact .inl ⟨i, t, rfl, e⟩
  | .inr x, v, h => by
    obtain ⟨t, e⟩ := Value.isStrOf_shape (x := x) (v := v) h
    exact .inr ⟨x, t, rfl, e⟩
theorem JD (a b : Int) : decide ((Sum.inl a : Key) = Sum.inl b) = (a == b) := by
  by_cases e : a = b
  · subst e; simp
  · have h : ¬ (Sum.inl a : Key) = Sum.inl b := fun q => e (Sum.inl.inj q)
    rw [decide_eq_false h]
    exact (beq_eq_false_iff_ne.mpr e).symm
theorem JE (a b : Str) : decide ((Sum.inr a : Key) = Sum.inr b) = decide (a = b) := by
  by_cases e : a = b
  · subst e; simp
  · have h : ¬ (Sum.inr a : Key) = Sum.inr b := fun q => e (Sum.inr.inj q)
    rw [decide_eq_false h, decide_eq_false e]
theorem JF (a : Int) (b : Str) : decide ((Sum.inl a : Key) = Sum.inr b) = false := decide_eq_false (fun q => nomatch q)
theorem JG (a : Str) (b : Int) : decide ((Sum.inr a : Key) = Sum.inl b) = false := decide_eq_false (fun q => nomatch q)
noncomputable def yH (prog : Program) (w : World) : PySem.KeyKind prog w Key where
  is := IZ
  hash := PB w
  inj := fun v a b ha hb => by
    rcases dD ha with ⟨i, t, rfl, rfl⟩ | ⟨x, t, rfl, rfl⟩
    · rcases dD hb with ⟨j, u, rfl, e⟩ | ⟨y, u, rfl, e⟩
      · injection e with e1 _; rw [e1]
      · exact nomatch e
    · rcases dD hb with ⟨j, u, rfl, e⟩ | ⟨y, u, rfl, e⟩
      · exact nomatch e
      · injection e with e1 _; rw [e1]
  byValue := fun k v h => by
    rcases dD h with ⟨i, t, rfl, rfl⟩ | ⟨x, t, rfl, rfl⟩ <;> rfl
  pyHash := fun hv h => by
    rcases dD hv with ⟨i, t, rfl, rfl⟩ | ⟨x, t, rfl, rfl⟩
    · exact wpAny_pyHash_int h
    · exact wpAny_pyHash_str h
  eqBool := fun hu hv h => by
    rcases dD hu with ⟨i, t, rfl, rfl⟩ | ⟨x, t, rfl, rfl⟩
    · rcases dD hv with ⟨j, u, rfl, rfl⟩ | ⟨y, u, rfl, rfl⟩
      · rw [JD] at h; exact wpAny_eqBool_int h
      · rw [JF] at h; exact SeqAt.EqAt.int_str i t y u _ _ _ _ h
    · rcases dD hv with ⟨j, u, rfl, rfl⟩ | ⟨y, u, rfl, rfl⟩
      · rw [JG] at h; exact SeqAt.EqAt.str_int x t j u _ _ _ _ h
      · rw [JE] at h; exact wpAny_eqBool_str h
  «strs» := fun k x t v h => by
    rcases dD h with ⟨i, u, rfl, e⟩ | ⟨y, u, rfl, e⟩
    · exact nomatch e
    · injection e with e1 _
      subst e1
      cases v <;> rfl
end L2
namespace L2
open PySem PySem.Spec PyProof.Rows
inductive V where
  | gg | bl (b : Bool) | int (i : Int) | str (x : Str) | LX (b : Array UInt8) | LY (b : UInt64) | ref (a : Addr) | ty (n : String)
  deriving DecidableEq
noncomputable def RelV : V → Value → Prop
  | .gg, u => u = Value.none
  | .bl b, u => u = Value.bool b
  | .int i, u => ∃ t, u = Value.int i t
  | .str x, u => ∃ t, u = Value.str x t
  | .LX b, u => ∃ t, u = Value.bytes b t
  | .LY b, u => ∃ t, u = Value.float b t
  | .ref a, u => u = Value.ref a
  | .ty n, u => u = Value.type n
noncomputable abbrev Vals : List V → List Value → Prop := Paired RelV
theorem Vals.length {xs : List V} {us : List Value} (r : Vals xs us) : xs.length = us.length := Paired.length r
theorem Vals.get : ∀ {xs : List V} {us : List Value} {i : Nat} {x : V}, Vals xs us → xs[i]? = some x → ∃ u, us[i]? = some u ∧ RelV x u
  | _, _, _, _, .nil, e => by simp at e
  | _, _, 0, _, .cons r _, e => by simp at e; subst e; exact ⟨_, rfl, r⟩
  | _, _, i + 1, x, .cons _ t, e => by
    obtain ⟨u, h1, h2⟩ := Vals.get (i := i) (x := x) t (by simpa using e)
    exact ⟨u, by simpa using h1, h2⟩
theorem Vals.append : ∀ {xs ys : List V} {us ws : List Value}, Vals xs us → Vals ys ws → Vals (xs ++ ys) (us ++ ws)
  | _, _, _, _, .nil, s => s
  | _, _, _, _, .cons r t, s => .cons r (Vals.append t s)
theorem Vals.take : ∀ {xs : List V} {us : List Value} (n : Nat), Vals xs us → Vals (xs.take n) (us.take n)
  | _, _, 0, _ => .nil
  | _, _, _ + 1, .nil => .nil
  | _, _, n + 1, .cons r t => .cons r (Vals.take n t)
theorem Vals.drop : ∀ {xs : List V} {us : List Value} (n : Nat), Vals xs us → Vals (xs.drop n) (us.drop n)
  | _, _, 0, r => r
  | _, _, _ + 1, .nil => .nil
  | _, _, n + 1, .cons _ t => Vals.drop n t
noncomputable def G8 : Option V → Option Value → Prop
  | some v, some u => RelV v u
  | none, none => True
  | _, _ => False
noncomputable def KV {κ : Type} : List (κ × V) → List (κ × Value) → Prop := Paired fun (p : κ × V) (q : κ × Value) => p.1 = q.1 ∧ RelV p.2 q.2
noncomputable def kV : Key → V
  | .inl i => .int i
  | .inr x => .str x
inductive HO where
  | lst (xs : List V)
  | tup (xs : List V)
  | dK (kvs : List (Key × V)) | dT (kvs : List (List Key × V))
  | set (S : Int → Bool) (n : Nat)
  | ins (C dx : Addr) (fs : List (Str × V))
  | own (x : Addr)
  | xd (fs : List (Str × V))
  | met (f x : Addr)
  | Dw (lo hi : Int)
  | nc (o : Obj) (u : HO)
  | Aj (ps : Array Value)
  | ext (φ : Heap → Prop)
noncomputable abbrev Hp := Addr → Option HO
noncomputable def upd (H : Hp) (a : Addr) (o : HO) : Hp := fun b => if b = a then some o else H b
theorem gm {H : Hp} {a : Addr} {o : HO} : upd H a o a = some o := by unfold upd; rw [if_pos rfl]
theorem bu {H : Hp} {a b : Addr} {o : HO} (h : b ≠ a) : upd H a o b = H b := by unfold upd; rw [if_neg h]
theorem kQ {H : Hp} {a b : Addr} {o u : HO} (h : H a = some o) (h' : H b = some u) (d : o ≠ u) : a ≠ b := by
  intro e; subst e; rw [h] at h'; exact d (Option.some.inj h')
theorem cY {H : Hp} {a b : Addr} {o : HO} (h : H a = some o) (h' : H b = none) : a ≠ b := by
  intro e; subst e; rw [h] at h'; cases h'
section
variable (P : Program) (w : World)
noncomputable def kR (H : Hp) (h : Heap) (a : Addr) : HO → Prop
  | .lst xs => xs.length ≤ sizeLine ∧ ∃ (its : List Value) (n : Nat), Vals xs its ∧ h.get? a = some { cls := .type "list", data := .seq its.toArray n }
  | .tup xs => xs.length ≤ sizeLine ∧ ∃ its : List Value, Vals xs its ∧ IsTup h a its.toArray
  | .dK kvs => kvs.length ≤ sizeLine ∧ (a == sysModules) = false ∧ ∃ vs, KV kvs vs ∧ h.DictOf (yH P w) a vs
  | .dT kvs => kvs.length ≤ sizeLine ∧ (a == sysModules) = false ∧ ∃ xs : List (List Key × Addr × Value),
      Paired (fun (p : List Key × V) (q : List Key × Addr × Value) => p.1 = q.1 ∧ H q.2.1 = some (.tup (p.1.map kV)) ∧ RelV p.2 q.2.2) kvs xs ∧
      ∃ o es ep, h.get? a = some o ∧ o.ExactDict ∧ o.data = .dict es ep ∧ es.toList = xs.map (entryOfKey (tupleKind (yH P w))) ∧ (xs.map (·.1)).Nodup
  | .set S n => h.SetOf (intKind P w) a S n
  | .ins C dx fs => H dx = some (.own a) ∧ fs.length ≤ 1000 ∧ dx ≠ a ∧ h.get? a = some (PySem.W.instObj C dx) ∧
      ∃ mA, h.Ns1 dx mA ∧ (∀ f, G8 (fs.lookup f) (mA f)) ∧ PySem.Within mA (fs.map (·.1))
  | .own _ => ∃ o, h.get? a = some o
  | .xd fs => ∃ mA, h.Ns1 a mA ∧ ∀ f, G8 (fs.lookup f) (mA f)
  | .Dw lo hi => ∃ t u v, h.get? a = some { cls := .type "range", data := .fields #[.int lo t, .int hi u, .int 1 v] }
  | .nc o u => h.get? a = some o ∧ kR H h a u
  | .Aj ps => h.get? a = some { cls := .none, data := .fields ps }
  | .met f x => h.get? a = some (PySem.W.methodObj (.ref f) (.ref x))
  | .ext φ => φ h ∧ (∃ o, h.get? a = some o) ∧ ∀ h1 h2 : Heap, φ h1 → (∀ o, h1.get? a = some o → h2.get? a = some o) → φ h2
noncomputable def qH (H : Hp) (h : Heap) : Prop := ∀ a o, H a = some o → kR P w H h a o
end
section
variable {P : Program} {w : World} {H H' : Hp} {h h' : Heap} {a : Addr} {o : HO}
theorem kR.lt (x : kR P w H h a o) : a < h.objs.size := by
  cases o with
  | lst xs => obtain ⟨_, _, _, _, e⟩ := x; exact Heap.lt_size e
  | tup xs => obtain ⟨_, _, _, p⟩ := x; exact p.lt
  | dK kvs => obtain ⟨_, _, _, _, o, _, _, e, _⟩ := x; exact Heap.lt_size e
  | dT kvs => obtain ⟨_, _, _, _, o, _, _, e, _⟩ := x; exact Heap.lt_size e
  | set S n => obtain ⟨o, _, _, _, e, _⟩ := x; exact Heap.lt_size e
  | ins C dx fs => obtain ⟨_, _, _, e, _⟩ := x; exact Heap.lt_size e
  | own y => obtain ⟨_, e⟩ := x; exact Heap.lt_size e
  | xd fs => obtain ⟨_, ⟨_, _, _, e, _⟩, _⟩ := x; exact Heap.lt_size e
  | Dw lo hi => obtain ⟨_, _, _, e⟩ := x; exact Heap.lt_size e
  | nc ob u => obtain ⟨e, _⟩ := x; exact Heap.lt_size e
  | Aj ps => exact Heap.lt_size (show h.get? a = some _ from x)
  | met f y => exact Heap.lt_size (show h.get? a = some _ from x)
  | ext φ => obtain ⟨_, ⟨_, e⟩, _⟩ := x; exact Heap.lt_size e
theorem Paired.JH {α β : Type} {F G : α → β → Prop} : ∀ {l₁ : List α} {l₂ : List β}, Paired F l₁ l₂ → (∀ a b, F a b → G a b) → Paired G l₁ l₂
  | _, _, .nil, _ => .nil
  | _, _, .cons r t, f => .cons (f _ _ r) (Paired.JH t f)
theorem kR.stay (x : kR P w H h a o) (k : ∀ b u, (b = a ∨ H b = some (.own a)) → h.get? b = some u → h'.get? b = some u)
    (ho : ∀ b, H b = some (.own a) → H' b = some (.own a)) (ht : ∀ b xs, H b = some (.tup xs) → H' b = some (.tup xs)) : kR P w H' h' a o := by
  induction o with
  | lst xs => obtain ⟨z, its, n, r, e⟩ := x; exact ⟨z, its, n, r, k _ _ (.inl rfl) e⟩
  | tup xs => obtain ⟨z, its, r, ob, e, c⟩ := x; exact ⟨z, its, r, ob, k _ _ (.inl rfl) e, c⟩
  | dK kvs => obtain ⟨z, y, vs, r, ob, es, ep, e, c⟩ := x; exact ⟨z, y, vs, r, ob, es, ep, k _ _ (.inl rfl) e, c⟩
  | dT kvs =>
    obtain ⟨z, y, xs, r, ob, es, ep, e, c⟩ := x
    exact ⟨z, y, xs, Paired.JH r fun p q z => ⟨z.1, ht _ _ z.2.1, z.2.2⟩, ob, es, ep, k _ _ (.inl rfl) e, c⟩
  | set S n => obtain ⟨ob, es, ep, t, e, c⟩ := x; exact ⟨ob, es, ep, t, k _ _ (.inl rfl) e, c⟩
  | ins C dx fs =>
    obtain ⟨d, z, ne, e, mA, ⟨od, es, ep, e2, c⟩, r⟩ := x
    exact ⟨ho _ d, z, ne, k _ _ (.inl rfl) e, mA, ⟨od, es, ep, k _ _ (.inr d) e2, c⟩, r⟩
  | own y => obtain ⟨ob, e⟩ := x; exact ⟨ob, k _ _ (.inl rfl) e⟩
  | xd fs => obtain ⟨mA, ⟨od, es, ep, e, c⟩, r⟩ := x; exact ⟨mA, ⟨od, es, ep, k _ _ (.inl rfl) e, c⟩, r⟩
  | Dw lo hi => obtain ⟨t, u, v, e⟩ := x; exact ⟨t, u, v, k _ _ (.inl rfl) e⟩
  | nc ob u ih => obtain ⟨e, q⟩ := x; exact ⟨k _ _ (.inl rfl) e, ih q⟩
  | Aj ps =>
    have e : h.get? a = some { cls := .none, data := .fields ps } := x
    show h'.get? a = some { cls := .none, data := .fields ps }
    exact k a _ (.inl rfl) e
  | met f y =>
    have e : h.get? a = some (PySem.W.methodObj (.ref f) (.ref y)) := x
    show h'.get? a = some (PySem.W.methodObj (.ref f) (.ref y))
    exact k a _ (.inl rfl) e
  | ext φ => obtain ⟨p, ⟨o, e⟩, st⟩ := x; exact ⟨st _ _ p fun o q => k _ _ (.inl rfl) q, ⟨o, k _ _ (.inl rfl) e⟩, st⟩
theorem qH.lt (x : qH P w H h) (e : H a = some o) : a < h.objs.size := (x a o e).lt
theorem qH.fresh (x : qH P w H h) (e : h.objs.size ≤ a) : H a = none := by
  cases q : H a with
  | none => rfl
  | some u => exact absurd (Nat.lt_of_lt_of_le (x.lt q) e) (Nat.lt_irrefl _)
theorem qH.kept (x : qH P w H h) (k : ∀ b u, h.get? b = some u → h'.get? b = some u) : qH P w H h' := fun a o e =>
  (x a o e).stay (fun b u _ q => k b u q) (fun _ q => q) fun _ _ q => q
theorem qH.laid (x : qH P w H h) (k : ∀ b u, h.get? b = some u → h'.get? b = some u) (hp : h.objs.size ≤ a) (new : kR P w (upd H a o) h' a o) : qH P w (upd H a o) h' := fun b u e => by
  have hn := x.fresh hp
  by_cases hb : b = a
  · subst hb; rw [gm] at e; cases e; exact new
  · rw [bu hb] at e
    exact (x b u e).stay (fun c v _ q => k c v q) (fun c q => by rw [bu (cY q hn)]; exact q) fun c xs q => by rw [bu (cY q hn)]; exact q
end
noncomputable def Rd (H : Hp) (a : Addr) (u : HO) : Prop := H a = some u ∨ ∃ o, H a = some (.nc o u)
theorem Rd.ok {P : Program} {w : World} {H : Hp} {h : Heap} {a : Addr} {u : HO} (r : Rd H a u) (x : qH P w H h) : kR P w H h a u := by
  rcases r with r | ⟨o, r⟩
  · exact x a u r
  · obtain ⟨_, q⟩ := x a _ r
    exact q
noncomputable def OY : Option HO → Prop
  | some (.lst _) => True
  | some (.dK _) => True
  | some (.dT _) => True
  | some (.set _ _) => True
  | some (.ins _ _ _) => True
  | some (.ext _) => True
  | _ => False
section
variable {P : Program} {w : World} {H : Hp} {h h' : Heap} {x e : Addr} {o' : HO}
theorem qH.write (ok : qH P w H h) (mu : OY (H x)) (he : e = x ∨ H e = some (.own x)) (k : ∀ b u, b ≠ e → h.get? b = some u → h'.get? b = some u) (LN : ∃ u, h'.get? e = some u)
    (new : kR P w (upd H x o') h' x o') : qH P w (upd H x o') h' := fun b u q => by
  have LZ : ∀ c y, H c = some (.own y) → c ≠ x := fun c y r z => by subst z; rw [r] at mu; exact mu
  have PC : ∀ c xs, H c = some (.tup xs) → c ≠ x := fun c xs r z => by subst z; rw [r] at mu; exact mu
  by_cases hb : b = x
  · subst hb; rw [gm] at q; cases q; exact new
  · rw [bu hb] at q
    by_cases GV : b = e
    · have q' : H b = some (.own x) := by
        rcases he with z | z
        · exact absurd (GV.trans z) hb
        · rw [GV]; exact z
      rw [q] at q'; cases q'
      obtain ⟨v, hv⟩ := LN
      exact ⟨v, by rw [GV]; exact hv⟩
    · refine (ok b u q).stay (fun c v hc r => k c v ?_ r) (fun c r => by rw [bu (LZ c b r)]; exact r) fun c xs r => by rw [bu (PC c xs r)]; exact r
      rcases hc with rfl | hc
      · exact GV
      · rintro rfl
        rcases he with z | z
        · exact LZ c b hc z
        · rw [hc] at z; cases z; exact hb rfl
end
structure Un (fs ex : List Addr) (H H' : Hp) (h h' : Heap) : Prop where
  keep : ∀ b o, h.get? b = some o → H b = none → b ∉ fs → b ∉ ex → h'.get? b = some o
  slot : ∀ b o, h.get? b = some o → H b = none → b ∈ fs → b ∉ ex → ∃ sl, h'.get? b = some { o with slots := sl }
  free : ∀ b o, h.get? b = some o → H b = none → b ∉ ex → H' b = none
  there : ∀ b o, h.get? b = some o → b ∉ ex → ∃ o', h'.get? b = some o'
  tups : ∀ b xs, H b = some (.tup xs) → H' b = some (.tup xs)
  pB : ∀ b o u, H b = some (.nc o u) → H' b = some (.nc o u)
  pY : ∀ b ps, H b = some (.Aj ps) → ∃ more, H' b = some (.Aj (ps ++ more))
section
variable {fs fs' ex ex' : List Addr} {H H1 H2 : Hp} {h h1 h2 h' : Heap} {a x e : Addr} {o : HO}
theorem Un.any (u : Un fs ex H H1 h h1) {b : Addr} {ob : Obj} (q : h.get? b = some ob) (n : H b = none) (hx : b ∉ ex) : ∃ sl, h1.get? b = some { ob with slots := sl } := by
  by_cases hb : b ∈ fs
  · exact u.slot b ob q n hb hx
  · exact ⟨ob.slots, u.keep b ob q n hb hx⟩
theorem Un.kept (k : ∀ b u, h.get? b = some u → h'.get? b = some u) : Un fs ex H H h h' :=
  ⟨fun b ob q _ _ _ => k b ob q, fun b ob q _ _ _ => ⟨ob.slots, k b ob q⟩, fun _ _ _ n _ => n, fun b ob q _ => ⟨ob, k b ob q⟩, fun _ _ q => q, fun _ _ _ q => q, fun _ ps q => ⟨#[], by rw [q]; simp⟩⟩
theorem Un.refl : Un fs ex H H h h := Un.kept fun _ _ q => q
theorem Un.laid (k : ∀ b u, h.get? b = some u → h'.get? b = some u) (hp : h.objs.size ≤ a) (hn : H a = none) : Un fs ex H (upd H a o) h h' where
  keep := fun b u q _ _ _ => k b u q
  slot := fun b u q _ _ _ => ⟨u.slots, k b u q⟩
  free := fun b u q n _ => by rw [bu (Nat.ne_of_lt (Nat.lt_of_lt_of_le (Heap.lt_size q) hp))]; exact n
  there := fun b u q _ => ⟨u, k b u q⟩
  tups := fun b xs q => by rw [bu (cY q hn)]; exact q
  pB := fun b u xs q => by rw [bu (cY q hn)]; exact q
  pY := fun b ps q => ⟨#[], by rw [bu (cY q hn), q]; simp⟩
theorem Un.write (mu : OY (H x)) (he : e = x ∨ H e = some (.own x)) (k : ∀ b u, b ≠ e → h.get? b = some u → h'.get? b = some u) (LN : ∃ u, h'.get? e = some u) : Un fs ex H (upd H x o) h h' := by
  have hx : ∀ b, H b = none → b ≠ x := fun b n z => by subst z; rw [n] at mu; exact mu
  have hb : ∀ b, H b = none → b ≠ e := fun b n z => by
    subst z
    rcases he with r | r
    · exact hx b n r
    · rw [n] at r; cases r
  have hm : ∀ b u, H b = some u → ¬ OY (some u) → b ≠ x := fun b u q nm z => by subst z; rw [q] at mu; exact nm mu
  refine ⟨fun b u q n _ _ => k b u (hb b n) q, fun b u q n _ _ => ⟨u.slots, k b u (hb b n) q⟩, fun b u q n _ => by rw [bu (hx b n)]; exact n, fun b u q _ => ?_,
    fun b xs q => by rw [bu (hm b _ q fun z => z)]; exact q, fun b u xs q => by rw [bu (hm b _ q fun z => z)]; exact q, fun b ps q => ⟨#[], by rw [bu (hm b _ q fun z => z), q]; simp⟩⟩
  by_cases GV : b = e
  · subst GV; exact LN
  · exact ⟨u, k b u GV q⟩
end
noncomputable def OZ (h : Heap) (H : Hp) : List Addr := (List.range h.objs.size).filter fun a => (H a).isSome
noncomputable def yI (h : Heap) (H : Hp) : Heap := PySem.W.hideAll h (OZ h H)
theorem Dy (h : Heap) (H : Hp) : (yI h H).objs.size = h.objs.size := PySem.W.hideAll_size _ _
theorem EC {h : Heap} {H : Hp} {b : Addr} {o : Obj} (e : h.get? b = some o) (n : H b = none) : (yI h H).get? b = some o :=
  PySem.W.hideAll_get _ e fun hm => by
    have q : (H b).isSome = true := (List.mem_filter.mp hm).2
    rw [n] at q; simp at q
theorem G9 {h : Heap} {H : Hp} {b : Addr} {o : Obj} (e : (yI h H).get? b = some o) : h.get? b = some o ∧ H b = none := by
  have e' : h.get? b = some o := PySem.W.of_hideAll (OZ h H) e
  refine ⟨e', ?_⟩
  cases q : H b with
  | none => rfl
  | some x =>
    have hm : b ∈ OZ h H := List.mem_filter.mpr ⟨List.mem_range.mpr (Heap.lt_size e'), by simp [q]⟩
    have z : (yI h H).get? b = none := PySem.W.hideAll_none (OZ h H) hm
    rw [z] at e; cases e
noncomputable def Hf (g h : Heap) (L : Addr) : List (Addr × Obj) := (List.range h.objs.size).filterMap fun a => if a = L ∨ (g.get? a).isSome = true then none else (h.get? a).map fun o => (a, o)
noncomputable def rest (g h : Heap) (L d : Addr) : List (Addr × Obj) := (Hf g h L).filter fun p => decide (p.1 ≠ d)
end L2
namespace L2
open PySem PySem.Spec PyProof.Rows
structure Mod (K : PySem.W.Frag) (mg : Str → Option Value) (base : Heap) : Prop where
  JI : K.In base
  glob : base.Ns mainGlobals mg
  blt : ∃ mb, base.Ns builtinsNs mb ∧ ∀ x : Str, x ≠ "__name__" → mb x = bootBuiltins x
  nolimit : base.NoLimit
structure Cx where
  prog : Program
  w : World
  K : PySem.W.Frag
  mg : Str → Option Value
  base : Heap
  A : Around
  N : List Str
  s₀ : Shared
  H₀ : Hp
  env : Env
  outer : List Env
  stack : List Env
  ex : List Addr
  fn : Str → Bool
  calm : Bool
  pn : List (Addr × Obj)
  xe : Value → Shared → Prop
noncomputable def frs (l : List Env) : List Addr := l.filterMap (·.frame)
noncomputable abbrev Cx.fs (X : Cx) : List Addr := frs X.outer
noncomputable def JJ (sc : Scope) (x : Str) : Prop := sc.names.lookup x = some .local ∨ sc.names.lookup x = some .cell ∨ sc.names.lookup x = some .free
noncomputable def Loc (sc : Scope) (x : Str) : Prop := sc.names.lookup x = some .local ∨ sc.names.lookup x = some .cell
noncomputable def Look (env : Env) (h : Heap) (m : Str → Option Value) (x : Str) (u : Value) : Prop :=
  (env.kindOf x = some .local ∧ m x = some u) ∨ ((env.kindOf x = some .cell ∨ env.kindOf x = some .free) ∧ ∃ c, env.cells.lookup x = some c ∧ h.IsCell c (some u))
structure Cx.Ok (X : Cx) : Prop where
  mod : Mod X.K X.mg X.base
  kind : X.env.scope.kind = .function
  glob : X.env.globals = mainGlobals
  blt : X.env.builtins = builtinsNs
  above : X.s₀.heap.objs.size ≤ X.env.locals
  inj : ∀ x y c, X.env.cells.lookup x = some c → X.env.cells.lookup y = some c → x = y
  has : ∀ x, (X.env.kindOf x = some .cell ∨ X.env.kindOf x = some .free) → ∃ c, X.env.cells.lookup x = some c
  PD : ∀ x c, X.fn x = true → X.env.cells.lookup x = some c → X.s₀.heap.objs.size ≤ c
  hd : X.calm = true → X.A.handled = none
  frames : X.A.frames = some X.stack
  stk : X.stack = X.outer ∨ (X.stack = X.env :: X.outer ∧ X.env.frame = some X.env.locals)
  Xy : ∀ b ∈ X.ex, b ≠ X.env.locals ∧ ∀ x c, X.env.cells.lookup x = some c → c ≠ b
  bs : ∀ b o, X.base.get? b = some o → X.s₀.heap.get? b = some o ∧ X.H₀ b = none
  I8 : X.base.objs.size ≤ X.s₀.heap.objs.size
  JK : ∀ b o, X.base.get? b = some o → b ∉ X.ex
  JL : ∀ b ∈ X.ex, b ∉ X.fs
  uF : X.s₀.heap.FunFrames X.base X.outer
  JM : ∀ b ∈ X.fs, X.H₀ b = none
structure Inv (X : Cx) (pins : List (Addr × Obj)) (σ : List (Option V)) (H : Hp) (s : Shared) : Prop where
  ok : X.Ok
  os : s.os = X.s₀.os ∧ 0 < s.toks
  bare : AllBare s.gens
  base : Un X.fs X.ex X.H₀ H X.s₀.heap s.heap
  loc : ∃ m, s.heap.Ns X.env.locals m ∧ ∀ (i : Nat) (x : Str) (v : V), X.N[i]? = some x → σ[i]? = some (some v) → JJ X.env.scope x → ∃ u, RelV v u ∧ Look X.env s.heap m x u
  cell : ∀ x c, X.env.cells.lookup x = some c → ∃ v, s.heap.IsCell c v
  free : H X.env.locals = none
  pG : ∀ x c, X.env.cells.lookup x = some c → H c = none
  pin : ∀ p ∈ X.pn ++ pins, s.heap.get? p.1 = some p.2 ∧ H p.1 = none ∧ p.1 ≠ X.env.locals ∧ p.1 ∉ X.fs ∧ ∀ v, p.2.data ≠ .cell v
  hok : qH X.prog X.w H s.heap
  len : σ.length = X.N.length
section
variable {X : Cx} {pins : List (Addr × Obj)} {σ : List (Option V)} {H H' : Hp} {s : Shared} {h' : Heap}
theorem Cx.Ok.PF (ok : X.Ok) {b : Addr} {o : Obj} (e : X.base.get? b = some o) : b ∉ X.fs := fun hb => by
  have := (ok.uF.mem hb).1
  rw [e] at this; cases this
theorem Inv.bs (I : Inv X pins σ H s) : ∀ b o, X.base.get? b = some o → s.heap.get? b = some o ∧ H b = none := fun b o e =>
  ⟨I.base.keep b o (I.ok.bs b o e).1 (I.ok.bs b o e).2 (I.ok.PF e) (I.ok.JK b o e), I.base.free b o (I.ok.bs b o e).1 (I.ok.bs b o e).2 (I.ok.JK b o e)⟩
theorem Inv.bk (I : Inv X pins σ H s) : ∀ b o, X.base.get? b = some o → s.heap.get? b = some o := fun b o e => (I.bs b o e).1
theorem Inv.mod (I : Inv X pins σ H s) : Mod X.K X.mg X.base := I.ok.mod
theorem Inv.Ak (I : Inv X pins σ H s) : X.K.In s.heap := I.ok.mod.JI.keeps I.bk
theorem Inv.nolimit (I : Inv X pins σ H s) : s.heap.NoLimit := I.ok.mod.nolimit.keeps I.bk
theorem Inv.fr (I : Inv X pins σ H s) : ∃ m, Fr X.base X.env.locals s.heap m :=
  let ⟨m, hn, _⟩ := I.loc
  ⟨m, hn, I.bk, Nat.le_trans I.ok.I8 I.ok.above⟩
theorem Inv.lt (I : Inv X pins σ H s) : X.env.locals < s.heap.objs.size := let ⟨_, hn, _⟩ := I.loc; hn.lt
theorem Inv.sz (I : Inv X pins σ H s) : X.s₀.heap.objs.size ≤ s.heap.objs.size := Nat.le_trans I.ok.above (Nat.le_of_lt I.lt)
theorem Inv.L0 (I : Inv X pins σ H s) {a : Addr} (h : s.heap.objs.size ≤ a) : a ∉ X.fs := fun hb => by
  obtain ⟨_, o, ho, _⟩ := I.ok.uF.mem hb
  exact absurd (Nat.lt_of_lt_of_le (Heap.lt_size ho) (Nat.le_trans I.sz h)) (Nat.lt_irrefl _)
theorem Inv.GW (I : Inv X pins σ H s) : ∀ x c, X.env.cells.lookup x = some c → c ≠ X.env.locals := fun x c e z => by
  obtain ⟨v, o, ho, hd⟩ := I.cell x c e
  obtain ⟨m, ⟨o', es, ep, ho', hd', _⟩, _⟩ := I.loc
  rw [z, ho'] at ho; cases ho; rw [hd'] at hd; cases hd
theorem Inv.uF (I : Inv X pins σ H s) : s.heap.FunFrames X.base X.outer := by
  have all : ∀ (l : List Env), (∀ b ∈ frs l, b ∈ X.fs) → X.s₀.heap.FunFrames X.base l → s.heap.FunFrames X.base l := by
    intro l
    induction l with
    | nil => intro _ _; trivial
    | cons env r ih =>
      intro hs hl
      obtain ⟨hk, ⟨L, o, hf, hn, ho, hd⟩, hr⟩ := hl
      have hL : L ∈ X.fs := hs L (by unfold frs; rw [List.filterMap_cons, hf]; exact List.mem_cons_self)
      obtain ⟨sl, e⟩ := I.base.slot L o ho (I.ok.JM L hL) hL fun z => I.ok.JL L z hL
      exact ⟨hk, ⟨L, _, hf, hn, e, hd⟩, ih (fun b hb => hs b (by unfold frs; rw [List.filterMap_cons, hf]; exact List.mem_cons_of_mem _ hb)) hr⟩
  exact all X.outer (fun _ hb => hb) I.ok.uF
theorem Inv.stack (I : Inv X pins σ H s) : s.heap.FunFrames X.base X.stack := by
  rcases I.ok.stk with e | ⟨e, hf⟩
  · rw [e]; exact I.uF
  · rw [e]
    obtain ⟨m, hn, _⟩ := I.loc
    refine .cons (by rw [I.ok.kind]; decide) hf hn ?_ I.uF
    exact Heap.get?_none_of_le (Nat.le_trans I.ok.I8 I.ok.above)
theorem Inv.lQ (I : Inv X pins σ H s) : ∀ b ∈ frs X.stack, b ∈ X.env.locals :: X.fs := fun b hb => by
  rcases I.ok.stk with e | ⟨e, hf⟩
  · rw [e] at hb; exact List.mem_cons_of_mem _ hb
  · rw [e] at hb
    unfold frs at hb
    rw [List.filterMap_cons, hf] at hb
    exact hb
theorem Inv.qJ (I : Inv X pins σ H s) : ∀ b ∈ frs X.stack, H b = none := fun b hb => by
  rcases List.mem_cons.mp (I.lQ b hb) with e | hb
  · rw [e]; exact I.free
  · obtain ⟨_, o, ho, _⟩ := I.ok.uF.mem hb
    exact I.base.free b o ho (I.ok.JM b hb) fun z => I.ok.JL b z hb
theorem Inv.step {g' : Array GenState} {t' : Nat} {d' : Drawn} {ch : List Addr} (I : Inv X pins σ H s)
    (hch : ∀ b ∈ ch, (b ∈ X.ex ∨ X.s₀.heap.objs.size ≤ b) ∧ b ≠ X.env.locals ∧ (∀ x c, X.env.cells.lookup x = some c → c ≠ b) ∧ ∀ p ∈ X.pn ++ pins, p.1 ≠ b)
    (keep : ∀ b o, b ≠ X.env.locals → b ∉ X.fs → b ∉ ch → s.heap.get? b = some o → H b = none → h'.get? b = some o)
    (slot : ∀ b o, b ≠ X.env.locals → b ∈ X.fs → b ∉ ch → s.heap.get? b = some o → H b = none → ∃ sl, h'.get? b = some { o with slots := sl }) (free : ∀ b o, b ∉ ch → s.heap.get? b = some o → H b = none → H' b = none)
    (there : ∀ b o, b ∉ ch → s.heap.get? b = some o → ∃ o', h'.get? b = some o')
    (tups : ∀ b xs, H b = some (.tup xs) → H' b = some (.tup xs)) (pB : ∀ b o u, H b = some (.nc o u) → H' b = some (.nc o u)) (pY : ∀ b ps, H b = some (.Aj ps) → ∃ more, H' b = some (.Aj (ps ++ more)))
    (ns : ∀ m, s.heap.Ns X.env.locals m → h'.Ns X.env.locals m) (hok : qH X.prog X.w H' h') (hg : AllBare g') (ht : 0 < t' := by first | exact Nat.succ_pos _ | exact (Inv.os (by assumption)).2 | assumption | omega) :
    Inv X pins σ H' { s with heap := h', gens := g', drawn := d', toks := t' } := by
  have Cy : ∀ b o, X.s₀.heap.get? b = some o → b ≠ X.env.locals := fun b o e => Nat.ne_of_lt (Nat.lt_of_lt_of_le (Heap.lt_size e) I.ok.above)
  have Ja : ∀ b o, X.s₀.heap.get? b = some o → b ∉ X.ex → b ∉ ch := fun b o e hx hb => by
    rcases (hch b hb).1 with z | z
    · exact hx z
    · exact absurd (Nat.lt_of_lt_of_le (Heap.lt_size e) z) (Nat.lt_irrefl _)
  have cellK : ∀ x c, X.env.cells.lookup x = some c → ∀ v, s.heap.IsCell c v → h'.IsCell c v := fun x c e v ⟨o, ho, hd⟩ => by
    have L1 : c ∉ ch := fun z => (hch c z).2.2.1 x c e rfl
    by_cases hc : c ∈ X.fs
    · obtain ⟨sl, q⟩ := slot c o (I.GW x c e) hc L1 ho (I.pG x c e)
      exact ⟨_, q, hd⟩
    · exact ⟨o, keep c o (I.GW x c e) hc L1 ho (I.pG x c e), hd⟩
  refine ⟨I.ok, ⟨I.os.1, ht⟩, hg, ⟨fun b o e n hb hx => ?_, fun b o e n hb hx => ?_, fun b o e n hx => ?_, fun b o e hx => ?_, fun b xs e => tups b xs (I.base.tups b xs e), fun b o xs e => pB b o xs (I.base.pB b o xs e), fun b ps e => ?_⟩, ?_, fun x c e => ?_, ?_, fun x c e => ?_, fun p hp => ?_, hok, I.len⟩
  · exact keep b o (Cy b o e) hb (Ja b o e hx) (I.base.keep b o e n hb hx) (I.base.free b o e n hx)
  · obtain ⟨sl, e1⟩ := I.base.slot b o e n hb hx
    obtain ⟨L4, e2⟩ := slot b _ (Cy b o e) hb (Ja b o e hx) e1 (I.base.free b o e n hx)
    exact ⟨L4, e2⟩
  · obtain ⟨o', e1⟩ := I.base.there b o e hx
    exact free b o' (Ja b o e hx) e1 (I.base.free b o e n hx)
  · obtain ⟨o', e1⟩ := I.base.there b o e hx
    exact there b o' (Ja b o e hx) e1
  · obtain ⟨m1, e1⟩ := I.base.pY b ps e
    obtain ⟨m2, e2⟩ := pY b _ e1
    exact ⟨m1 ++ m2, by rw [e2, Array.append_assoc]⟩
  · obtain ⟨m, hn, hl⟩ := I.loc
    refine ⟨m, ns m hn, fun i x v e1 e2 e3 => ?_⟩
    obtain ⟨u, r, l⟩ := hl i x v e1 e2 e3
    refine ⟨u, r, ?_⟩
    rcases l with l | ⟨k, c, e, z⟩
    · exact .inl l
    · exact .inr ⟨k, c, e, cellK x c e _ z⟩
  · obtain ⟨v, z⟩ := I.cell x c e
    exact ⟨v, cellK x c e v z⟩
  · obtain ⟨m, ⟨o, _, _, ho, _⟩, _⟩ := I.loc
    exact free _ o (fun z => (hch _ z).2.1 rfl) ho I.free
  · obtain ⟨v, o, ho, hd⟩ := I.cell x c e
    exact free c o (fun z => (hch c z).2.2.1 x c e rfl) ho (I.pG x c e)
  · obtain ⟨e, n, ne, nf, d⟩ := I.pin p hp
    have L1 : p.1 ∉ ch := fun z => (hch p.1 z).2.2.2 p hp rfl
    exact ⟨keep p.1 p.2 ne nf L1 e n, free p.1 p.2 L1 e n, ne, nf, d⟩
theorem Inv.un {t' : Nat} (I : Inv X pins σ H s) (u : Un X.fs [] H H' s.heap h') (hok : qH X.prog X.w H' h') (ht : 0 < t' := by first | exact Nat.succ_pos _ | exact (Inv.os (by assumption)).2 | assumption | omega) : Inv X pins σ H' { s with heap := h', toks := t' } := by
  obtain ⟨m, ⟨o, es, ep, ho, r⟩, _⟩ := id I.loc
  obtain ⟨sl, hL⟩ := u.any ho I.free (by simp)
  exact I.step (g' := s.gens) (d' := s.drawn) (ch := []) (fun _ z => nomatch z) (fun b o _ hb _ e n => u.keep b o e n hb (by simp)) (fun b o _ hb _ e n => u.slot b o e n hb (by simp)) (fun b o _ e n => u.free b o e n (by simp)) (fun b o _ e => u.there b o e (by simp)) u.tups u.pB u.pY (fun m' hm => by
    obtain ⟨o', es', PJ, ho', r'⟩ := hm
    rw [ho] at ho'; cases ho'
    exact ⟨_, es', PJ, hL, r'⟩) hok I.bare
theorem Inv.call {g' : Array GenState} {t' : Nat} {d' : Drawn} {ch : List Addr} (I : Inv X pins σ H s) (u : Un (frs X.stack) ch H H' s.heap h') (hok : qH X.prog X.w H' h') (hg : AllBare g')
    (hch : ∀ b ∈ ch, (b ∈ X.ex ∨ X.s₀.heap.objs.size ≤ b) ∧ b ≠ X.env.locals ∧ (∀ x c, X.env.cells.lookup x = some c → c ≠ b) ∧ ∀ p ∈ X.pn ++ pins, p.1 ≠ b) (ht : 0 < t' := by first | exact Nat.succ_pos _ | exact (Inv.os (by assumption)).2 | assumption | omega) :
    Inv X pins σ H' { s with heap := h', gens := g', drawn := d', toks := t' } := by
  obtain ⟨m, ⟨o, es, ep, ho, r⟩, _⟩ := id I.loc
  obtain ⟨sl, hL⟩ := u.any ho I.free fun z => (hch _ z).2.1 rfl
  exact I.step (ch := ch) hch (fun b o hL hb hc e n => u.keep b o e n (fun z => (List.mem_cons.mp (I.lQ b z)).elim hL hb) hc) (fun b o _ _ hc e n => u.any e n hc) (fun b o hc e n => u.free b o e n hc) (fun b o hc e => u.there b o e hc) u.tups u.pB u.pY (fun m' hm => by
    obtain ⟨o', es', PJ, ho', r'⟩ := hm
    rw [ho] at ho'; cases ho'
    exact ⟨_, es', PJ, hL, r'⟩) hok hg
theorem Inv.turned {t' : Nat} {it : Addr} (I : Inv X pins σ H s) (k : ∀ b o, b ≠ it → s.heap.get? b = some o → h'.get? b = some o) (hn : H it = none) (hL : it ≠ X.env.locals)
    (h1 : it ∈ X.ex ∨ X.s₀.heap.objs.size ≤ it) (h2 : ∀ x c, X.env.cells.lookup x = some c → c ≠ it) (h3 : ∀ p ∈ X.pn ++ pins, p.1 ≠ it) (ht : 0 < t' := by first | exact Nat.succ_pos _ | exact (Inv.os (by assumption)).2 | assumption | omega) : Inv X pins σ H { s with heap := h', toks := t' } := by
  have Sz : ∀ b u, H b = some u → b ≠ it := fun b u e z => by rw [z, hn] at e; cases e
  refine I.step (g' := s.gens) (d' := s.drawn) (ch := [it]) (fun b hb => ?_) (fun b o _ _ hc e _ => k b o (fun z => hc (by simp [z])) e) (fun b o _ _ hc e _ => ⟨o.slots, k b o (fun z => hc (by simp [z])) e⟩) (fun _ _ _ _ n => n)
    (fun b o hc e => ⟨o, k b o (fun z => hc (by simp [z])) e⟩) (fun _ _ e => e) (fun _ _ _ e => e) (fun b ps e => ⟨#[], by rw [e]; simp⟩) (fun m hm => ?_) (fun b u e => ?_) I.bare
  · have e : b = it := by simpa using hb
    subst e
    exact ⟨h1, hL, h2, h3⟩
  · obtain ⟨o, es, ep, ho, r⟩ := hm
    exact ⟨o, es, ep, k _ o (Ne.symm hL) ho, r⟩
  · refine (I.hok b u e).stay (fun c v hc q => k c v ?_ q) (fun _ q => q) fun _ _ q => q
    rcases hc with z | z
    · rw [z]; exact Sz b u e
    · exact Sz c _ z
theorem Inv.tok (I : Inv X pins σ H s) (t' : Nat) (ht : 0 < t' := by first | exact Nat.succ_pos _ | exact (Inv.os (by assumption)).2 | assumption | omega) : Inv X pins σ H { s with toks := t' } := I.un (h' := s.heap) (t' := t') Un.refl I.hok
theorem nS {α : Type} {M : Model} {A : Around} {t : Sem α} {Q : α → Shared → Prop} {E : Value → Shared → Prop} {s : Shared} (h : 0 < s.toks) (h' : wpAny M A t (fun a s' => 0 < s'.toks → Q a s') (fun e s' => 0 < s'.toks → E e s') s) : wpAny M A t Q E s := wpAny_with_toks (n := 1) h h'
theorem Inv.kept {t' : Nat} (I : Inv X pins σ H s) (k : ∀ b u, s.heap.get? b = some u → h'.get? b = some u) (ht : 0 < t' := by first | exact Nat.succ_pos _ | exact (Inv.os (by assumption)).2 | assumption | omega) : Inv X pins σ H { s with heap := h', toks := t' } := I.un (Un.kept k) (I.hok.kept k)
theorem Inv.laid {a : Addr} {o : HO} {t' : Nat} (I : Inv X pins σ H s) (k : ∀ b u, s.heap.get? b = some u → h'.get? b = some u) (hp : s.heap.objs.size ≤ a) (new : kR X.prog X.w (upd H a o) h' a o) (ht : 0 < t' := by first | exact Nat.succ_pos _ | exact (Inv.os (by assumption)).2 | assumption | omega) :
    Inv X pins σ (upd H a o) { s with heap := h', toks := t' } := I.un (Un.laid k hp (I.hok.fresh hp)) (I.hok.laid k hp new)
theorem Inv.write {x e : Addr} {o : HO} {t' : Nat} (I : Inv X pins σ H s) (mu : OY (H x)) (he : e = x ∨ H e = some (.own x)) (k : ∀ b u, b ≠ e → s.heap.get? b = some u → h'.get? b = some u) (LN : ∃ u, h'.get? e = some u)
    (new : kR X.prog X.w (upd H x o) h' x o) (ht : 0 < t' := by first | exact Nat.succ_pos _ | exact (Inv.os (by assumption)).2 | assumption | omega) : Inv X pins σ (upd H x o) { s with heap := h', toks := t' } := I.un (Un.write mu he k LN) (I.hok.write mu he k LN new)
theorem Inv.qK {j4 : List (Addr × Obj)} (I : Inv X pins σ H s) (h : ∀ p ∈ j4, s.heap.get? p.1 = some p.2 ∧ H p.1 = none ∧ p.1 ≠ X.env.locals ∧ p.1 ∉ X.fs ∧ ∀ v, p.2.data ≠ .cell v) : Inv X j4 σ H s :=
  ⟨I.ok, I.os, I.bare, I.base, I.loc, I.cell, I.free, I.pG, fun p hp => (List.mem_append.mp hp).elim (fun z => I.pin p (List.mem_append_left _ z)) (h p), I.hok, I.len⟩
theorem Am {N : List Str} (hN : N.Nodup) {i j : Nat} {x : Str} (a : N[i]? = some x) (b : N[j]? = some x) : i = j := by
  obtain ⟨h1, e1⟩ := List.getElem?_eq_some_iff.mp a
  obtain ⟨h2, e2⟩ := List.getElem?_eq_some_iff.mp b
  exact (List.getElem_inj hN).mp (e1.trans e2.symm)
theorem xJ {M : Model} {A : Around} {E : Value → Shared → Prop} {i : Nat} {x : Str} {v : V} {u : Value} {Q : Unit → Shared → Prop} (I : Inv X pins σ H s) (hN : X.N.Nodup) (hi : X.N[i]? = some x) (hx : Loc X.env.scope x) (r : RelV v u)
    (h : ∀ s', Inv X pins (σ.set i (some v)) H s' → (∃ a, Heap.SameBut a s.heap s'.heap ∧ (a = X.env.locals ∨ X.env.cells.lookup x = some a)) → Q () s') (hf : X.fn x = true ∨ X.env.scope.names.lookup x = some .local := by first | exact .inl rfl | exact .inr rfl | assumption) : wpAny M A (storeName X.env x u) Q E s := by
  obtain ⟨m, hn, hl⟩ := id I.loc
  have hcls : (X.env.scope.kind == .class || (X.env.scope.kind == .module && X.env.locals != X.env.globals)) = false := by rw [I.ok.kind]; rfl
  have SA : i < σ.length := by rw [I.len]; exact (List.getElem?_eq_some_iff.mp hi).1
  have GW := I.GW
  have tracked : ∀ {a : Addr} {h' : Heap}, (∃ o, s.heap.get? a = some o ∧ H a = none) → Heap.SameBut a s.heap h' → qH X.prog X.w H h' := fun {a h'} ha hs b ob e => by
    obtain ⟨_, _, hfree⟩ := ha
    refine (I.hok b ob e).stay (fun c w' hc q => (hs.2 c ?_).trans q) (fun _ q => q) fun _ _ q => q
    rintro rfl
    rcases hc with rfl | hc
    · rw [hfree] at e; cases e
    · rw [hfree] at hc; cases hc
  rcases hx with hk | hk
  · refine wpAny_storeName_local hk hn (fun h' hn' hs => ?_) hcls
    obtain ⟨oL, _, _, SD, _⟩ := id hn
    refine h _ ⟨I.ok, ⟨I.os.1, Nat.succ_pos _⟩, I.bare, ⟨fun b o e n hb hx => ?_, fun b o e n hb hx => ?_, I.base.free, fun b o e hx => ?_, I.base.tups, I.base.pB, I.base.pY⟩, ⟨_, hn', fun j y v' e1 e2 e3 => ?_⟩, fun y c e => ?_, I.free, I.pG, fun p hp => ?_, tracked ⟨oL, SD, I.free⟩ hs, by simpa using I.len⟩ ⟨_, hs, .inl rfl⟩
    · exact (hs.2 b (Nat.ne_of_lt (Nat.lt_of_lt_of_le (Heap.lt_size e) I.ok.above))).trans (I.base.keep b o e n hb hx)
    · obtain ⟨sl, e1⟩ := I.base.slot b o e n hb hx
      exact ⟨sl, (hs.2 b (Nat.ne_of_lt (Nat.lt_of_lt_of_le (Heap.lt_size e) I.ok.above))).trans e1⟩
    · obtain ⟨o', e1⟩ := I.base.there b o e hx
      exact ⟨o', (hs.2 b (Nat.ne_of_lt (Nat.lt_of_lt_of_le (Heap.lt_size e) I.ok.above))).trans e1⟩
    · by_cases hj : j = i
      · subst hj
        rw [hi] at e1; cases e1
        rw [List.getElem?_set_self SA] at e2
        cases e2
        exact ⟨u, r, .inl ⟨hk, by simp⟩⟩
      · rw [List.getElem?_set_ne (Ne.symm hj)] at e2
        obtain ⟨u', r', q⟩ := hl j y v' e1 e2 e3
        refine ⟨u', r', ?_⟩
        rcases q with ⟨k, e⟩ | ⟨k, c, e, z⟩
        · refine .inl ⟨k, ?_⟩
          have : y ≠ x := fun e => hj (Am hN e1 (e ▸ hi))
          simp [this, e]
        · exact .inr ⟨k, c, e, z.sameBut hs (GW y c e)⟩
    · obtain ⟨w', z⟩ := I.cell y c e
      exact ⟨w', z.sameBut hs (GW y c e)⟩
    · obtain ⟨e, n, ne, nf, d⟩ := I.pin p hp
      exact ⟨(hs.2 p.1 ne).trans e, n, ne, nf, d⟩
  · have hfn : X.fn x = true := by
      rcases hf with z | z
      · exact z
      · rw [z] at hk; cases hk
    obtain ⟨c, hc⟩ := I.ok.has x (.inl hk)
    obtain ⟨w', z⟩ := I.cell x c hc
    refine wpAny_storeName_cell I.ok.kind hk hc z (fun h' hc' hs => ?_)
    obtain ⟨oc, hoc, PK⟩ := id z
    refine h { s with heap := h' } ⟨I.ok, I.os, I.bare, ⟨fun b o e n hb hx => ?_, fun b o e n hb hx => ?_, I.base.free, fun b o e hx => ?_, I.base.tups, I.base.pB, I.base.pY⟩, ⟨m, hn.sameBut hs (Ne.symm (GW x c hc)), fun j y v' e1 e2 e3 => ?_⟩, fun y c' e => ?_, I.free, I.pG, fun p hp => ?_, tracked ⟨oc, hoc, I.pG x c hc⟩ hs, by simpa using I.len⟩ ⟨c, hs, .inr hc⟩
    · exact (hs.2 b (Nat.ne_of_lt (Nat.lt_of_lt_of_le (Heap.lt_size e) (I.ok.PD x c hfn hc)))).trans (I.base.keep b o e n hb hx)
    · obtain ⟨sl, e1⟩ := I.base.slot b o e n hb hx
      exact ⟨sl, (hs.2 b (Nat.ne_of_lt (Nat.lt_of_lt_of_le (Heap.lt_size e) (I.ok.PD x c hfn hc)))).trans e1⟩
    · obtain ⟨o', e1⟩ := I.base.there b o e hx
      exact ⟨o', (hs.2 b (Nat.ne_of_lt (Nat.lt_of_lt_of_le (Heap.lt_size e) (I.ok.PD x c hfn hc)))).trans e1⟩
    · by_cases hj : j = i
      · subst hj
        rw [hi] at e1; cases e1
        rw [List.getElem?_set_self SA] at e2
        cases e2
        exact ⟨u, r, .inr ⟨.inl hk, c, hc, hc'⟩⟩
      · rw [List.getElem?_set_ne (Ne.symm hj)] at e2
        obtain ⟨u', r', q⟩ := hl j y v' e1 e2 e3
        refine ⟨u', r', ?_⟩
        rcases q with q | ⟨k, c', e, z'⟩
        · exact .inl q
        · refine .inr ⟨k, c', e, z'.sameBut hs ?_⟩
          rintro rfl
          exact hj (Am hN e1 (I.ok.inj _ _ _ e hc ▸ hi))
    · by_cases hcc : c' = c
      · subst hcc; exact ⟨_, hc'⟩
      · obtain ⟨w2, z2⟩ := I.cell y c' e
        exact ⟨w2, z2.sameBut hs hcc⟩
    · obtain ⟨e, n, ne, nf, d⟩ := I.pin p hp
      refine ⟨(hs.2 p.1 ?_).trans e, n, ne, nf, d⟩
      intro q
      rw [q, hoc] at e
      have q' : oc = p.2 := Option.some.inj e
      exact d w' (by rw [← q']; exact PK)
theorem u9 {M : Model} {A : Around} {E : Value → Shared → Prop} {i : Nat} {x : Str} {v : V} {u : Value} {Q : Unit → Shared → Prop} (I : Inv X pins σ H s) (hN : X.N.Nodup) (hi : X.N[i]? = some x) (hx : Loc X.env.scope x) (r : RelV v u)
    (h : ∀ s', Inv X pins (σ.set i (some v)) H s' → Q () s') (hf : X.fn x = true ∨ X.env.scope.names.lookup x = some .local := by first | exact .inl rfl | exact .inr rfl | assumption) : wpAny M A (storeName X.env x u) Q E s :=
  xJ I hN hi hx r (fun s' I' _ => h s' I') hf
theorem Inv.ED {s' : Shared} {ch : List Addr} (I : Inv X pins σ H s) (ho : s'.os = s.os ∧ 0 < s'.toks) (u : Un (frs X.stack) ch H H' s.heap s'.heap) (hok : qH X.prog X.w H' s'.heap) (hg : AllBare s'.gens)
    (hch : ∀ b ∈ ch, (b ∈ X.ex ∨ X.s₀.heap.objs.size ≤ b) ∧ b ≠ X.env.locals ∧ (∀ x c, X.env.cells.lookup x = some c → c ≠ b) ∧ ∀ p ∈ X.pn ++ pins, p.1 ≠ b) : Inv X pins σ H' s' := by
  obtain ⟨h', g', d', t', o'⟩ := s'
  have e : o' = s.os := ho.1
  have ht : 0 < t' := ho.2
  subst e
  exact I.call (g' := g') (t' := t') (d' := d') u hok hg hch
end
noncomputable abbrev XK := Value → Option Addr → Hp → Prop
noncomputable abbrev St := List (Option V)
noncomputable abbrev VK := V → Hp → Prop
noncomputable abbrev TE := St → Hp → VK → Prop
noncomputable abbrev TT := St → Hp → (Bool → Hp → Prop) → Prop
noncomputable abbrev TA := St → Hp → (List V → Hp → Prop) → Prop
structure Ends where
  nx : St → Hp → Prop
  rt : VK
  bk : St → Hp → Prop := fun _ _ => False
  ct : St → Hp → Prop := fun _ _ => False
noncomputable abbrev TS := Ends → St → Hp → Prop
noncomputable def EP (X : Cx) (pins : List (Addr × Obj)) (σ : St) (Q : VK) (u : Value) (s' : Shared) : Prop := ∃ v H', Inv X pins σ H' s' ∧ RelV v u ∧ Q v H'
noncomputable def TP (X : Cx) (pins : List (Addr × Obj)) (σ : St) (Q : Bool → Hp → Prop) (b : Bool) (s' : Shared) : Prop := ∃ H', Inv X pins σ H' s' ∧ Q b H'
noncomputable def AP (X : Cx) (pins : List (Addr × Obj)) (σ : St) (Q : List V → Hp → Prop) (us : List Value) (s' : Shared) : Prop := ∃ vs H', Inv X pins σ H' s' ∧ Vals vs us ∧ Q vs H'
noncomputable def SP (X : Cx) (pins : List (Addr × Obj)) (D : Ends) (f : Flow) (s' : Shared) : Prop :=
  match f with
  | .next => ∃ σ' H', Inv X pins σ' H' s' ∧ D.nx σ' H'
  | .brk => ∃ σ' H', Inv X pins σ' H' s' ∧ D.bk σ' H'
  | .cont => ∃ σ' H', Inv X pins σ' H' s' ∧ D.ct σ' H'
  | .ret u => ∃ v σ' H', Inv X pins σ' H' s' ∧ RelV v u ∧ D.rt v H'
noncomputable def PE (X : Cx) (e : Expr) (t : TE) : Prop :=
  ∀ (pins : List (Addr × Obj)) (s : Shared) (σ : St) (H : Hp) (Q : VK), Inv X pins σ H s → t σ H Q → wpAny (model X.prog X.w) X.A (eval e X.env) (EP X pins σ Q) X.xe s
noncomputable def PT (X : Cx) (e : Expr) (t : TT) : Prop :=
  ∀ (pins : List (Addr × Obj)) (s : Shared) (σ : St) (H : Hp) (Q : Bool → Hp → Prop), Inv X pins σ H s → t σ H Q → wpAny (model X.prog X.w) X.A (isTrue e X.env (eval e X.env)) (TP X pins σ Q) X.xe s
noncomputable def PW (X : Cx) (e : Expr) (t : TT) : Prop :=
  ∀ (whole : Sem Value) (pins : List (Addr × Obj)) (s : Shared) (σ : St) (H : Hp) (Q : Bool → Hp → Prop), Inv X pins σ H s → t σ H Q → wpAny (model X.prog X.w) X.A (isTrue e X.env whole) (TP X pins σ Q) X.xe s
theorem PW.pt {X : Cx} {e : Expr} {t : TT} (h : PW X e t) : PT X e t := h _
noncomputable def PA (X : Cx) (es : List Expr) (t : TA) : Prop :=
  ∀ (pos : Pos) (pins : List (Addr × Obj)) (s : Shared) (σ : St) (H : Hp) (Q : List V → Hp → Prop), Inv X pins σ H s → t σ H Q → wpAny (model X.prog X.w) X.A (spliced (backTo pos (starEach es X.env))) (AP X pins σ Q) X.xe s
noncomputable def PS (X : Cx) (st : Stmt) (t : TS) : Prop :=
  ∀ (pins : List (Addr × Obj)) (s : Shared) (σ : St) (H : Hp) (D : Ends), Inv X pins σ H s → t D σ H → wpAny (model X.prog X.w) X.A (exec st X.env) (SP X pins D) X.xe s
noncomputable def Cz (X : Cx) (st : List Stmt) (t : TS) : Prop :=
  ∀ (pins : List (Addr × Obj)) (s : Shared) (σ : St) (H : Hp) (D : Ends), Inv X pins σ H s → t D σ H → wpAny (model X.prog X.w) X.A (execs st X.env) (SP X pins D) X.xe s
theorem iB {α : Type} {t : Sem α} {Q Q' : α → Shared → Prop} {M : Model} {A : Around} {E : Value → Shared → Prop} {s : Shared} (h : wpAny M A t Q E s) (hQ : ∀ a s, Q a s → Q' a s) : wpAny M A t Q' E s := wpAny_mono h hQ fun _ _ x => x
end L2
namespace L2
open PySem PySem.Spec PyProof.Rows
section
variable {X : Cx}
noncomputable def PL (i : Nat) : TE := fun σ H Q => ∃ v, σ[i]? = some (some v) ∧ Q v H
noncomputable def tC (v : V) : TE := fun _ H Q => Q v H
theorem EF {i : Nat} {x : Str} {pos : Pos} (hN : X.N[i]? = some x) (hv : JJ X.env.scope x) (hd : (x == ("__debug__" : Str)) = false := by decide) (hcd : (x == ("__classdict__" : Str)) = false := by decide) : PE X (.Name x pos) (PL i) := by
  intro pins s σ H Q I h
  obtain ⟨v, e, h⟩ := h
  obtain ⟨m, hn, hl⟩ := I.loc
  obtain ⟨u, r, l⟩ := hl i x v hN e hv
  have fin : EP X pins σ Q u s := ⟨v, H, I, r, h⟩
  rcases l with ⟨hk, hm⟩ | ⟨hk, c, hc, hcell⟩
  · exact wpAny_Name (wpAny_loadName_local I.ok.kind hk hn hm fin) hd
  · rcases hk with hk | hk
    · exact wpAny_Name (wpAny_loadName_cell I.ok.kind hk hc hcell fin) hd
    · exact wpAny_Name (wpAny_loadName_free I.ok.kind hk hc hcell fin hcd) hd
theorem JN {i j pos} : PE X (.Constant (.int i) j pos) (tC (.int i)) := fun _ _ _ H _ I h => wpAny_Constant_int ⟨.int i, H, I.tok _, ⟨_, rfl⟩, h⟩
theorem L5 {b j pos} : PE X (.Constant (.bool b) j pos) (tC (.bl b)) := fun _ _ _ H _ I h => Constant_bool ⟨.bl b, H, I, rfl, h⟩
theorem JO {j pos} : PE X (.Constant .none j pos) (tC .gg) := fun _ _ _ H _ I h => Constant_none ⟨.gg, H, I, rfl, h⟩
theorem JP {x j pos} : PE X (.Constant (.str x) j pos) (tC (.str x)) := fun _ _ _ H _ I h => Calls.Constant_str ⟨.str x, H, I.tok _, ⟨_, rfl⟩, h⟩
noncomputable def Gl (X : Cx) (x : Str) : Prop := X.env.kindOf x = some .globalImplicit
theorem uN {E : Value → Shared → Prop} {pins : List (Addr × Obj)} {s : Shared} {σ : St} {H : Hp} {x : Str} {u : Value} {pos : Pos} {Q : Value → Shared → Prop} (I : Inv X pins σ H s) (hg : Gl X x) (hm : X.mg x = some u) (h : Q u s)
    (hd : (x == ("__debug__" : Str)) = false := by decide) : wpAny (model X.prog X.w) X.A (eval (.Name x pos) X.env) Q E s :=
  Calls.Name_function_global I.ok.kind hg (Calls.loadGlobal_global (by rw [I.ok.glob]; exact I.mod.glob.keeps I.bk) hm h) hd
theorem vc {E : Value → Shared → Prop} {pins : List (Addr × Obj)} {s : Shared} {σ : St} {H : Hp} {x : Str} {u : Value} {pos : Pos} {Q : Value → Shared → Prop} (I : Inv X pins σ H s) (hg : Gl X x) (hm : X.mg x = none) (hv : bootBuiltins x = some u) (h : Q u s)
    (hn : x ≠ "__name__" := by decide) (hd : (x == ("__debug__" : Str)) = false := by decide) : wpAny (model X.prog X.w) X.A (eval (.Name x pos) X.env) Q E s := by
  obtain ⟨mb, h1, h2⟩ := I.mod.blt
  exact Calls.Name_function_global I.ok.kind hg (Calls.loadGlobal_builtin (by rw [I.ok.glob]; exact I.mod.glob.keeps I.bk) hm (by rw [I.ok.blt]; exact h1.keeps I.bk) ((h2 x hn).trans hv) h) hd
theorem CA {x : Str} {v : V} {u : Value} {pos : Pos} (hg : Gl X x) (hm : X.mg x = some u) (r : RelV v u) (hd : (x == ("__debug__" : Str)) = false := by decide) : PE X (.Name x pos) (tC v) :=
  fun _ _ _ H _ I h => uN I hg hm ⟨v, H, I, r, h⟩ hd
theorem Hg {x : Str} {v : V} {u : Value} {pos : Pos} (hg : Gl X x) (hm : X.mg x = none) (hv : bootBuiltins x = some u) (r : RelV v u) (hn : x ≠ "__name__" := by decide) (hd : (x == ("__debug__" : Str)) = false := by decide) : PE X (.Name x pos) (tC v) :=
  fun _ _ _ H _ I h => vc I hg hm hv ⟨v, H, I, r, h⟩ hn hd
variable {a b : Expr} {ta tb : TE} {pos : Pos}
variable {tA O0 : TT} {rest : List Expr}
noncomputable def L6 (t u : TT) : TT := fun σ H Q => t σ H fun c H1 => if c = true then u σ H1 Q else Q false H1
noncomputable def SE (t u : TT) : TT := fun σ H Q => t σ H fun c H1 => if c = true then Q true H1 else u σ H1 Q
noncomputable def PM (t : TT) : TT := fun σ H Q => t σ H fun c H1 => Q (!c) H1
theorem Hh (ha : PT X a tA) : PW X (.BoolOp .And [a] pos) tA := by
  intro wh pins s σ H Q I h
  refine isTrue_and (iB (ha pins s σ H Q I h) fun c s1 e => ?_)
  cases c with
  | true => exact isTrue_and_nil e
  | false => exact e
theorem JQ (ha : PT X a tA) : PW X (.BoolOp .Or [a] pos) tA := by
  intro wh pins s σ H Q I h
  refine isTrue_or (iB (ha pins s σ H Q I h) fun c s1 e => ?_)
  cases c with
  | false => exact isTrue_or_nil e
  | true => exact e
theorem JR (ha : PT X a tA) (hb : PW X (.BoolOp .And (b :: rest) pos) O0) : PW X (.BoolOp .And (a :: b :: rest) pos) (L6 tA O0) := by
  intro wh pins s σ H Q I h
  refine isTrue_and (iB (ha pins s σ H _ I h) fun c s1 ⟨H1, I1, q1⟩ => ?_)
  cases c with
  | true => exact hb wh pins s1 σ H1 Q I1 q1
  | false => exact ⟨H1, I1, q1⟩
theorem L7 (ha : PT X a tA) (hb : PW X (.BoolOp .Or (b :: rest) pos) O0) : PW X (.BoolOp .Or (a :: b :: rest) pos) (SE tA O0) := by
  intro wh pins s σ H Q I h
  refine isTrue_or (iB (ha pins s σ H _ I h) fun c s1 ⟨H1, I1, q1⟩ => ?_)
  cases c with
  | true => exact ⟨H1, I1, q1⟩
  | false => exact hb wh pins s1 σ H1 Q I1 q1
theorem JS (ha : PT X a tA) : PT X (.UnaryOp .Not a pos) (PM tA) := by
  intro pins s σ H Q I h
  exact isTrue_not (ha pins s σ H (fun c H1 => Q (!c) H1) I h)
noncomputable def L8 (ta tb : TE) : TE := fun σ H Q => ta σ H fun x H1 => ∃ c, x = .bl c ∧ if c = true then tb σ H1 Q else Q (.bl false) H1
theorem JT {op} {t : TE} (h : PE X a t) : PE X (.BoolOp op [a] pos) t := fun pins s σ H Q I hw => BoolOp_one (h pins s σ H Q I hw)
theorem JU (ha : PE X a ta) (hb : PE X (.BoolOp .And (b :: rest) pos) tb) : PE X (.BoolOp .And (a :: b :: rest) pos) (L8 ta tb) := by
  intro pins s σ H Q I h
  refine BoolOp_and (iB (ha pins s σ H _ I h) fun v s1 ⟨x, H1, I1, r1, q1⟩ => ?_)
  obtain ⟨c, rfl, q1⟩ := q1
  cases r1
  refine wpAny_truthy_bool ?_
  cases c with
  | true => exact hb pins s1 σ H1 Q I1 q1
  | false => exact ⟨.bl false, H1, I1, rfl, q1⟩
noncomputable def UK (t : TT) (ta tb : TE) : TE := fun σ H Q => t σ H fun c H1 => if c = true then ta σ H1 Q else tb σ H1 Q
theorem EG {c : Expr} (hc : PT X c tA) (ha : PE X a ta) (hb : PE X b tb) : PE X (.IfExp c a b pos) (UK tA ta tb) := by
  intro pins s σ H Q I h
  refine wpAny_IfExp (iB (hc pins s σ H _ I h) fun d s1 ⟨H1, I1, q1⟩ => ?_)
  cases d with
  | true => exact ha pins s1 σ H1 Q I1 q1
  | false => exact hb pins s1 σ H1 Q I1 q1
end
end L2
namespace L2
open PySem PySem.Spec PyProof.Rows
noncomputable def tP (K : PySem.W.Frag) (H : Hp) (a : Addr) (xs : List V) : Prop :=
  Rd H a (.lst xs) ∨
    ∃ (o : Obj) (its : Array Value) (n : Nat), K.lookup a = some o ∧ o.cls = .type "list" ∧ o.dict = none ∧ o.data = .seq its n ∧ its.size ≤ sizeLine ∧ Vals xs its.toList
noncomputable def tQ (K : PySem.W.Frag) (H : Hp) (a : Addr) (xs : List V) : Prop :=
  Rd H a (.tup xs) ∨
    ∃ (o : Obj) (its : Array Value) (n : Nat), K.lookup a = some o ∧ o.cls = .type "tuple" ∧ o.data = .seq its n ∧ its.size ≤ sizeLine ∧ Vals xs its.toList
noncomputable def PN : Value → Option V
  | .none => some .gg
  | .bool b => some (.bl b)
  | .int i _ => some (.int i)
  | .str x _ => some (.str x)
  | .bytes b _ => some (.LX b)
  | .float b _ => some (.LY b)
  | .ref a => some (.ref a)
  | .type n => some (.ty n)
  | _ => none
theorem RelV.abs {x : V} {u : Value} (r : RelV x u) : PN u = some x := by
  cases x with
  | gg => cases r; rfl
  | bl _ => cases r; rfl
  | int _ => obtain ⟨t, rfl⟩ := r; rfl
  | str _ => obtain ⟨t, rfl⟩ := r; rfl
  | LX _ => obtain ⟨t, rfl⟩ := r; rfl
  | LY _ => obtain ⟨t, rfl⟩ := r; rfl
  | ref _ => cases r; rfl
  | ty _ => cases r; rfl
theorem RelV.inj {x y : V} {u : Value} (r : RelV x u) (q : RelV y u) : x = y := Option.some.inj (r.abs.symm.trans q.abs)
theorem Vals.inj : ∀ {xs ys : List V} {us : List Value}, Vals xs us → Vals ys us → xs = ys
  | _, _, _, .nil, .nil => rfl
  | _, _, _, .cons r t, .cons r' t' => by rw [r.inj r', Vals.inj t t']
section
variable {X : Cx} {pins : List (Addr × Obj)} {σ : St} {H : Hp} {s : Shared} {a : Addr} {xs ys : List V}
theorem tP.of {K : PySem.W.Frag} (h : H a = some (.lst xs)) : tP K H a xs := .inl (.inl h)
theorem tQ.of {K : PySem.W.Frag} (h : H a = some (.tup xs)) : tQ K H a xs := .inl (.inl h)
theorem Inv.list (I : Inv X pins σ H s) (h : tP X.K H a xs) : ∃ its : List Value, Vals xs its ∧ PlainL s.heap a its.toArray ∧ xs.length ≤ sizeLine := by
  rcases h with h | ⟨o, its, n, hk, hc, hd, hs, hz, r⟩
  · obtain ⟨z, its, n, r, e⟩ := h.ok I.hok
    exact ⟨its, r, ⟨_, n, e, rfl, rfl, rfl⟩, z⟩
  · refine ⟨its.toList, r, ⟨o, n, I.Ak a o hk, hc, hd, by simpa using hs⟩, ?_⟩
    have e := r.length
    simp only [Array.length_toList] at e
    omega
theorem Inv.tuple (I : Inv X pins σ H s) (h : tQ X.K H a xs) : ∃ its : List Value, Vals xs its ∧ IsTup s.heap a its.toArray ∧ xs.length ≤ sizeLine := by
  rcases h with h | ⟨o, its, n, hk, hc, hs, hz, r⟩
  · obtain ⟨z, its, r, p⟩ := h.ok I.hok
    exact ⟨its, r, p, z⟩
  · refine ⟨its.toList, r, ⟨o, I.Ak a o hk, hc, n, by simpa using hs⟩, ?_⟩
    have e := r.length
    simp only [Array.length_toList] at e
    omega
theorem Inv.EH (I : Inv X pins σ H s) (h : tP X.K H a xs) (h' : tP X.K H a ys) : xs = ys := by
  obtain ⟨its, r, ⟨o, n, e, _, _, d⟩, _⟩ := I.list h
  obtain ⟨its', r', ⟨o', n', e', _, _, d'⟩, _⟩ := I.list h'
  rw [e] at e'; cases e'
  rw [d] at d'
  injection d' with d1 _
  have : its = its' := by simpa using congrArg Array.toList d1
  subst this
  exact r.inj r'
theorem Inv.Dz (I : Inv X pins σ H s) (h : tQ X.K H a xs) (h' : tQ X.K H a ys) : xs = ys := by
  obtain ⟨its, r, ⟨o, e, _, n, d⟩, _⟩ := I.tuple h
  obtain ⟨its', r', ⟨o', e', _, n', d'⟩, _⟩ := I.tuple h'
  rw [e] at e'; cases e'
  rw [d] at d'
  injection d' with d1 _
  have : its = its' := by simpa using congrArg Array.toList d1
  subst this
  exact r.inj r'
end
section
variable {X : Cx} {pins : List (Addr × Obj)} {σ : St} {H : Hp} {s : Shared} {E : Value → Shared → Prop}
end
section
variable {X : Cx} {st : Stmt} {rest : List Stmt} {t u : TS} {e : Expr} {te : TE} {pos : Pos}
noncomputable def Ma : TS := fun D σ H => D.nx σ H
noncomputable def Mb (t u : TS) : TS := fun D σ H => t { D with nx := u D } σ H
theorem Hi : Cz X [] Ma := fun _ _ σ H _ I h => wpAny_execs_nil ⟨σ, H, I, h⟩
theorem EI (h1 : PS X st t) (h2 : Cz X rest u) : Cz X (st :: rest) (Mb t u) := by
  intro pins s σ H D I h
  refine wpAny_execs_cons (iB (h1 pins s σ H { D with nx := u D } I h) fun f s1 q => ?_)
  cases f with
  | next =>
    obtain ⟨σ', H', I', q⟩ := q
    exact h2 pins s1 σ' H' D I' q
  | ret v => exact q
  | brk => exact q
  | cont => exact q
theorem Hj (h1 : PS X st t) : Cz X [st] t := by
  intro pins s σ H D I h
  refine wpAny_execs_cons (iB (h1 pins s σ H D I h) fun f s1 q => ?_)
  cases f with
  | next => exact wpAny_execs_nil q
  | ret v => exact q
  | brk => exact q
  | cont => exact q
theorem Inv.quiet {pins : List (Addr × Obj)} {σ : St} {H : Hp} {s : Shared} (I : Inv X pins σ H s) : interactive X.env = false := by simp [interactive, I.ok.kind]
noncomputable def Mc (te : TE) : TS := fun D σ H => te σ H fun _ H1 => D.nx σ H1
theorem Hl (he : PE X e te) (hs : swapsWith e none pos.line X.env = pure false := by rfl) : PS X (.Expr e pos) (Mc te) := by
  intro pins s σ H D I h
  exact wpAny_Expr_any (iB (he pins s σ H _ I h) fun v s1 ⟨x, H1, I1, r1, q1⟩ => ⟨σ, H1, I1, q1⟩) I.quiet hs
noncomputable def PR (te : TE) : TS := fun D σ H => te σ H D.rt
theorem JV (he : PE X e te) : PS X (.Return (some e) pos) (PR te) := by
  intro pins s σ H D I h
  exact wpAny_Return_some (iB (he pins s σ H _ I h) fun v s1 ⟨x, H1, I1, r1, q1⟩ => ⟨x, σ, H1, I1, r1, q1⟩)
noncomputable def PU (c : TT) (t u : TS) : TS := fun D σ H => c σ H fun b H1 => if b = true then t D σ H1 else u D σ H1
theorem Me {c : Expr} {a b : List Stmt} {tc : TT} (hc : PT X c tc) (ha : Cz X a t) (hb : Cz X b u) : PS X (.If c a b pos) (PU tc t u) := by
  intro pins s σ H D I h
  refine wpAny_If (iB (hc pins s σ H _ I h) fun d s1 ⟨H1, I1, q1⟩ => ?_)
  cases d with
  | true => exact ha pins s1 σ H1 D I1 q1
  | false => exact hb pins s1 σ H1 D I1 q1
end
noncomputable abbrev TG := V → St → Hp → (St → Hp → Prop) → Prop
noncomputable abbrev JW := List V → St → Hp → (St → Hp → Prop) → Prop
noncomputable def PG (X : Cx) (target : Expr) (t : TG) : Prop :=
  ∀ (pins : List (Addr × Obj)) (s : Shared) (σ : St) (H : Hp) (v : V) (u : Value) (Q : St → Hp → Prop), Inv X pins σ H s → RelV v u → t v σ H Q →
    wpAny (model X.prog X.w) X.A (assign target X.env u) (fun _ s' => ∃ σ' H', Inv X pins σ' H' s' ∧ Q σ' H') X.xe s
noncomputable def O1 (X : Cx) (ts : List Expr) (t : JW) : Prop :=
  ∀ (pins : List (Addr × Obj)) (s : Shared) (σ : St) (H : Hp) (vs : List V) (us : List Value) (Q : St → Hp → Prop), Inv X pins σ H s → Vals vs us → t vs σ H Q →
    wpAny (model X.prog X.w) X.A (assignInOrder ((assignEach ts X.env).map (·.2)) us) (fun _ s' => ∃ σ' H', Inv X pins σ' H' s' ∧ Q σ' H') X.xe s
section
variable {X : Cx} {pos : Pos}
noncomputable def An (i : Nat) : TG := fun v σ H Q => Q (σ.set i (some v)) H
theorem qL {i : Nat} {x : Str} (hN : X.N.Nodup) (hi : X.N[i]? = some x) (hx : Loc X.env.scope x) (hf : X.fn x = true ∨ X.env.scope.names.lookup x = some .local := by first | exact .inl rfl | exact .inr rfl | assumption) : PG X (.Name x pos) (An i) := by
  intro pins s σ H v u Q I r h
  exact wpAny_assign_Name (u9 I hN hi hx r (fun s' I' => ⟨_, H, I', h⟩) hf)
noncomputable def PV : JW := fun vs σ H Q => vs = [] ∧ Q σ H
noncomputable def Mf (t : TG) (u : JW) : JW := fun vs σ H Q => ∃ v r, vs = v :: r ∧ t v σ H fun σ' H' => u r σ' H' Q
theorem Ho : O1 X [] PV := by
  intro pins s σ H vs us Q I r h
  obtain ⟨e, h⟩ := h
  subst e
  cases r
  exact assignInOrder_nil ⟨σ, H, I, h⟩
theorem qM {e : Expr} {es : List Expr} {t : TG} {u : JW} (h1 : PG X e t) (h2 : O1 X es u)
    (hs : (assignEach (e :: es) X.env).map (·.2) = assign e X.env :: (assignEach es X.env).map (·.2) := by rfl) : O1 X (e :: es) (Mf t u) := by
  intro pins s σ H vs us Q I r h
  obtain ⟨v, vr, e1, h⟩ := h
  subst e1
  cases r with
  | cons r rr =>
    rw [hs]
    refine assignInOrder_cons (iB (h1 pins s σ H _ _ _ I r h) fun _ s1 ⟨σ1, H1, I1, q1⟩ => ?_)
    exact h2 pins s1 σ1 H1 _ _ Q I1 rr q1
noncomputable def PX (K : PySem.W.Frag) (n : Nat) (t : JW) : TG := fun v σ H Q => ∃ a xs, v = .ref a ∧ tQ K H a xs ∧ xs.length = n ∧ t xs σ H Q
theorem JX {es : List Expr} {k : Nat} {t : JW} {n : Nat} (hc : X.calm = true) (h : O1 X es t)
    (hn : (assignEach es X.env).length = n := by rfl) (hst : (assignEach es X.env).findIdx? (·.1) = none := by rfl) : PG X (.Tuple es k pos) (PX X.K n t) := by
  intro pins s σ H v u Q I r hw
  obtain ⟨a, xs, e1, hq, hl, hw⟩ := hw
  subst e1
  cases r
  obtain ⟨its, rv, ht, hz⟩ := I.tuple hq
  refine assign_Tuple_tuple (I.ok.hd hc) ht (by simp [hn, ← hl, rv.length]) hst fun h' hx => ?_
  have I1 : Inv X pins σ H { s with heap := h' } := I.kept (t' := s.toks) fun b o e => hx b o (Nat.ne_of_lt (Heap.lt_size e)) e
  exact h pins _ σ H xs _ Q I1 (by simpa using rv) hw
noncomputable def JY (te : TE) (g : TG) : TS := fun D σ H => te σ H fun x H1 => g x σ H1 D.nx
theorem JZ {i : Nat} {x : Str} {e : Expr} {te : TE} {pos' : Pos} (hN : X.N.Nodup) (hi : X.N[i]? = some x) (hx : Loc X.env.scope x) (he : PE X e te) (hs : swapsWith e (some (.Name x pos')) pos.line X.env = pure false := by rfl) (hf : X.fn x = true ∨ X.env.scope.names.lookup x = some .local := by first | exact .inl rfl | exact .inr rfl | assumption) :
    PS X (.Assign [.Name x pos'] e pos) (JY te (An i)) := by
  intro pins s σ H D I h
  refine wpAny_Assign_Name (iB (he pins s σ H _ I h) fun v s1 ⟨y, H1, I1, r1, q1⟩ => ?_) hs
  exact u9 I1 hN hi hx r1 (fun s2 I2 => ⟨_, H1, I2, q1⟩) hf
end
section
variable {X : Cx} {pos : Pos}
end
structure It where
  go : Nat → Hp → Prop
  Ao : Nat → Hp → V → Hp → Prop
  stop : Nat → Hp → Prop
noncomputable def vd (X : Cx) (pins : List (Addr × Obj)) (H : Hp) (b : Addr) : Prop :=
  H b = none ∧ b ≠ X.env.locals ∧ b ∉ X.fs ∧ (b ∈ X.ex ∨ X.s₀.heap.objs.size ≤ b) ∧ (∀ x c, X.env.cells.lookup x = some c → c ≠ b) ∧ ∀ p ∈ X.pn ++ pins, p.1 ≠ b
theorem Inv.Hq {X : Cx} {pins : List (Addr × Obj)} {σ : St} {H H' : Hp} {s : Shared} {b : Addr} (I : Inv X pins σ H s) (hb : s.heap.objs.size ≤ b) (hn : H' b = none) : vd X pins H' b := by
  refine ⟨hn, Nat.ne_of_gt (Nat.lt_of_lt_of_le I.lt hb), I.L0 hb, .inr (Nat.le_trans I.sz hb), fun x c e z => ?_, fun p hp z => ?_⟩
  · obtain ⟨v, q⟩ := I.cell x c e
    exact absurd (Nat.lt_of_lt_of_le q.lt (by rw [z]; exact hb)) (Nat.lt_irrefl _)
  · exact absurd (Nat.lt_of_lt_of_le (Heap.lt_size (I.pin p hp).1) (by rw [z]; exact hb)) (Nat.lt_irrefl _)
structure Turn (P : Program) (w : World) (K : PySem.W.Frag) (tg : Expr) (J : It) (fp : List Addr) (it : Addr) (tn : Nat → Heap → Prop) : Prop where
  mem : it ∈ fp
  obj : ∀ i h, tn i h → ∀ b ∈ fp, ∃ o, h.get? b = some o ∧ ∀ v, o.data ≠ .cell v
  keep : ∀ i h h', tn i h → (∀ b ∈ fp, ∀ o, h.get? b = some o → h'.get? b = some o) → tn i h'
  item : ∀ (X : Cx), X.prog = P → X.w = w → X.K = K → X.calm = true → ∀ (i : Nat) (pins : List (Addr × Obj)) (s : Shared) (σ : St) (H : Hp) (E : Value → Shared → Prop), Inv X pins σ H s → (∀ b ∈ fp, vd X pins H b) → tn i s.heap → J.go i H →
    wpAny (model P w) X.A (pyNext (.ref it)) (fun r s1 => ∃ u, r = some u ∧
      wpAny (model P w) X.A (letOwnedTupleGo tg (.ref it) u) (fun _ s2 => ∃ x H', Inv X pins σ H' s2 ∧ RelV x u ∧ J.Ao i H x H' ∧ tn (i + 1) s2.heap ∧ ∀ b ∈ fp, H' b = none) E s1) E s
  done : ∀ (X : Cx), X.prog = P → X.w = w → X.K = K → X.calm = true → ∀ (i : Nat) (pins : List (Addr × Obj)) (s : Shared) (σ : St) (H : Hp) (E : Value → Shared → Prop), Inv X pins σ H s → (∀ b ∈ fp, vd X pins H b) → tn i s.heap → J.stop i H →
    wpAny (model P w) X.A (pyNext (.ref it)) (fun r s1 => r = none ∧ Inv X pins σ H s1) E s
  self : ∀ (A : Around) (i : Nat) (s : Shared) (Q : Value → Shared → Prop) (E : Value → Shared → Prop), tn i s.heap → Q (.ref it) s → wpAny (model P w) A (pyIter (.ref it)) Q E s
noncomputable abbrev TI := St → Hp → (It → Hp → Prop) → Prop
noncomputable def SG (X : Cx) (pins : List (Addr × Obj)) (σ : St) (tg : Expr) (R : It → Hp → Prop) (itv : Value) (s2 : Shared) : Prop :=
  ∃ (it : Addr) (fp : List Addr) (tn : Nat → Heap → Prop) (J : It) (H' : Hp), itv = .ref it ∧ Inv X pins σ H' s2 ∧ Turn X.prog X.w X.K tg J fp it tn ∧ tn 0 s2.heap ∧ (∀ b ∈ fp, vd X pins H' b) ∧ R J H'
noncomputable def PI (X : Cx) (tg iter : Expr) (wi : TI) : Prop :=
  ∀ (pins : List (Addr × Obj)) (s : Shared) (σ : St) (H : Hp) (R : It → Hp → Prop), Inv X pins σ H s → wi σ H R →
    wpAny (model X.prog X.w) X.A (eval iter X.env) (fun v s1 => wpAny (model X.prog X.w) X.A (pyIter v) (SG X pins σ tg R) X.xe s1) X.xe s
theorem CB {M : Model} {A : Around} {E : Value → Shared → Prop} {s : Shared} {tg : Expr} {it : Addr} {u : Value} {o : Obj} {n : String} {vs : Array Value} {Q : Unit → Shared → Prop} (ho : s.heap.get? it = some o) (hc : o.cls = .type n) (hd : o.data = .fields vs)
    (hn : ["enumerate", "zip", "dict_itemiterator", "dict_reverseitemiterator", "odict_iterator", "itertools.zip_longest", "itertools.pairwise"].contains n = false) (hQ : Q () s) : wpAny M A (letOwnedTupleGo tg (.ref it) u) Q E s := by
  unfold letOwnedTupleGo
  cases tg <;> first
    | exact wpAny_pure hQ
    | (cases u <;> first
        | exact wpAny_pure hQ
        | (refine wpAny_bind (wpAny_load ho ?_)
           rw [hc, hd]
           show wpAny M A (if (["enumerate", "zip", "dict_itemiterator", "dict_reverseitemiterator", "odict_iterator", "itertools.zip_longest", "itertools.pairwise"].contains n && vs[0]? == some (rawInt _)) = true then _ else _) Q E s
           rw [if_neg (by intro h; rw [hn, Bool.false_and] at h; cases h)]
           exact wpAny_pure hQ))
noncomputable def GX (K : PySem.W.Frag) (a : Addr) : It :=
  ⟨fun i H => ∃ xs x, tP K H a xs ∧ xs[i]? = some x, fun i H x H' => H' = H ∧ ∀ xs, tP K H a xs → xs[i]? = some x, fun i H => ∃ xs, tP K H a xs ∧ xs.length ≤ i⟩
noncomputable def O2 (K : PySem.W.Frag) (a : Addr) : It :=
  ⟨fun i H => ∃ xs x, tQ K H a xs ∧ xs[i]? = some x, fun i H x H' => H' = H ∧ ∀ xs, tQ K H a xs → xs[i]? = some x, fun i H => ∃ xs, tQ K H a xs ∧ xs.length ≤ i⟩
noncomputable def Bu (lo : Int) (n : Nat) : It := ⟨fun i _ => i < n, fun i H x H' => H' = H ∧ x = .int (lo + i), fun i _ => n ≤ i⟩
theorem DA {P : Program} {w : World} {K : PySem.W.Frag} {tg : Expr} (a it : Addr) : Turn P w K tg (GX K a) [it] it (fun i h => h.IsListIter it a i) where
  mem := by simp
  obj := fun i h st b hb => by
    have e : b = it := by simpa using hb
    subst e
    obtain ⟨o, e, c, d⟩ := st
    exact ⟨o, e, fun v z => by rw [d] at z; cases z⟩
  keep := fun i h h' st k => st.at fun o e => k it (by simp) o e
  item := by
    intro X hP hw hK hc i pins s σ H E I hf st hg
    subst hP hw hK
    obtain ⟨xs, x, hq, hx⟩ := hg
    obtain ⟨its, rv, p, hz⟩ := I.list hq
    obtain ⟨u, hu, ru⟩ := rv.get hx
    obtain ⟨f0, f1, f2, f3, f4, f5⟩ := hf it (by simp)
    refine wpAny_pyNext_list_item st p.isList (x := u) (by simpa using hu) fun h' st' sb => ?_
    have I1 : Inv X pins σ H { s with heap := h' } := I.turned (t' := s.toks) (fun b o hb e => (sb.2 b hb).trans e) f0 f1 f3 f4 f5
    obtain ⟨o, e, c, d⟩ := id st'
    exact ⟨u, rfl, CB (s := { s with heap := h' }) e c d (by decide) ⟨x, H, I1, ru, ⟨rfl, fun ys hy => by rw [I.EH hy hq]; exact hx⟩, st', fun b hb => (hf b hb).1⟩⟩
  done := by
    intro X hP hw hK hc i pins s σ H E I hf st hg
    subst hP hw hK
    obtain ⟨xs, hq, hx⟩ := hg
    obtain ⟨its, rv, p, hz⟩ := I.list hq
    obtain ⟨f0, f1, f2, f3, f4, f5⟩ := hf it (by simp)
    have hl := rv.length
    exact wpAny_pyNext_list_end (I.ok.hd hc) st p.isList (by simp; omega) fun h' eb => ⟨rfl, I.turned (t' := s.toks) (fun b o hb e => eb b o hb e) f0 f1 f3 f4 f5⟩
  self := fun _ _ _ _ _ st h => wpAny_pyIter_listiter st h
theorem Bv {P : Program} {w : World} {K : PySem.W.Frag} {tg : Expr} (a it : Addr) : Turn P w K tg (O2 K a) [it] it (fun i h => h.IsTupleIter it a i) where
  mem := by simp
  obj := fun i h st b hb => by
    have e : b = it := by simpa using hb
    subst e
    obtain ⟨o, e, c, d⟩ := st
    exact ⟨o, e, fun v z => by rw [d] at z; cases z⟩
  keep := fun i h h' st k => st.at fun o e => k it (by simp) o e
  item := by
    intro X hP hw hK hc i pins s σ H E I hf st hg
    subst hP hw hK
    obtain ⟨xs, x, hq, hx⟩ := hg
    obtain ⟨its, rv, p, hz⟩ := I.tuple hq
    obtain ⟨u, hu, ru⟩ := rv.get hx
    obtain ⟨f0, f1, f2, f3, f4, f5⟩ := hf it (by simp)
    refine wpAny_pyNext_tuple_item st (show s.heap.IsTuple a its.toArray from p) (x := u) (by simpa using hu) fun h' st' sb => ?_
    have I1 : Inv X pins σ H { s with heap := h' } := I.turned (t' := s.toks) (fun b o hb e => (sb.2 b hb).trans e) f0 f1 f3 f4 f5
    obtain ⟨o, e, c, d⟩ := id st'
    exact ⟨u, rfl, CB (s := { s with heap := h' }) e c d (by decide) ⟨x, H, I1, ru, ⟨rfl, fun ys hy => by rw [I.Dz hy hq]; exact hx⟩, st', fun b hb => (hf b hb).1⟩⟩
  done := by
    intro X hP hw hK hc i pins s σ H E I hf st hg
    subst hP hw hK
    obtain ⟨xs, hq, hx⟩ := hg
    obtain ⟨its, rv, p, hz⟩ := I.tuple hq
    obtain ⟨f0, f1, f2, f3, f4, f5⟩ := hf it (by simp)
    have hl := rv.length
    exact wpAny_pyNext_tuple_end (I.ok.hd hc) st (show s.heap.IsTuple a its.toArray from p) (by simp; omega) fun h' eb => ⟨rfl, I.turned (t' := s.toks) (fun b o hb e => eb b o hb e) f0 f1 f3 f4 f5⟩
  self := fun _ _ _ _ _ st h => wpAny_pyIter_tupleiter st h
theorem Bw {P : Program} {w : World} {K : PySem.W.Frag} {tg : Expr} (it : Addr) (lo : Int) (n : Nat) : Turn P w K tg (Bu lo n) [it] it (fun i h => IsRangeIter h it (lo + (i : Nat) * 1) ((n : Int) - (i : Nat)) 1) where
  mem := by simp
  obj := fun i h st b hb => by
    have e : b = it := by simpa using hb
    subst e
    exact ⟨_, st, fun v z => by
      have z' : Data.fields _ = Data.cell v := z
      cases z'⟩
  keep := fun i h h' st k => k it (by simp) _ st
  item := by
    intro X hP hw hK hc i pins s σ H E I hf st hg
    subst hP hw hK
    obtain ⟨f0, f1, f2, f3, f4, f5⟩ := hf it (by simp)
    have W := Walks.range (prog := X.prog) (w := X.w) (I.ok.hd hc) it lo 1 n
    refine nS I.os.2 (W.item i s _ _ hg st fun v h' tk hv st' kk => fun ht => ?_)
    obtain ⟨t, rfl⟩ := hv
    have I1 : Inv X pins σ H { s with heap := h', toks := tk } := I.turned (fun b o hb e => kk b o (by simpa using hb) e) f0 f1 f3 f4 f5
    refine ⟨_, rfl, CB (s := { s with heap := h', toks := tk }) (n := "range_iterator") st' rfl rfl (by decide) ⟨.int (lo + i), H, I1, ⟨t, ?_⟩, ⟨rfl, rfl⟩, st', fun b hb => (hf b hb).1⟩⟩
    rw [Int.mul_one]
  done := by
    intro X hP hw hK hc i pins s σ H E I hf st hg
    subst hP hw hK
    obtain ⟨f0, f1, f2, f3, f4, f5⟩ := hf it (by simp)
    exact wpAny_pyNext_range_end (I.ok.hd hc) st (by have : n ≤ i := hg; omega) fun h' eb => ⟨rfl, I.turned (t' := s.toks) (fun b o hb e => eb b o hb e) f0 f1 f3 f4 f5⟩
  self := fun _ _ _ _ _ st h => wpAny_pyIter_rangeiter st h
end L2
namespace L2
open PySem PySem.Spec PyProof.Rows
section
variable {X : Cx} {tg : Expr}
theorem EJ {pins : List (Addr × Obj)} {σ : St} {H : Hp} {s : Shared} {R : It → Hp → Prop} {E : Value → Shared → Prop} {lo hi : Int} {t u v : Tok} {tk : Nat} (I : Inv X pins σ H s) (h1 : -(2 ^ 62) ≤ lo) (h2 : lo < 2 ^ 62) (h3 : -(2 ^ 62) ≤ hi) (h4 : hi < 2 ^ 62)
    (q : R (Bu lo (hi - lo).toNat) H) (ht : 0 < tk := by first | exact Nat.succ_pos _ | exact (Inv.os (by assumption)).2 | assumption | omega) : wpAny (model X.prog X.w) X.A (pyIter (.ref s.heap.objs.size)) (SG X pins σ tg R) E { s with heap := s.heap.push { cls := .type "range", data := .fields #[.int lo t, .int hi u, .int 1 v] }, toks := tk } := by
  refine wpAny_pyIter_range (IsRange.new ..) (small_one h1 h2 h3 h4) ?_
  have I1 : Inv X pins σ H { s with heap := s.heap.push { cls := .type "range", data := .fields #[.int lo t, .int hi u, .int 1 v] }, toks := tk } := I.kept fun b o e => Heap.get?_push_of_some _ e
  refine ⟨(s.heap.push { cls := .type "range", data := .fields #[.int lo t, .int hi u, .int 1 v] }).objs.size, [(s.heap.push { cls := .type "range", data := .fields #[.int lo t, .int hi u, .int 1 v] }).objs.size], _, _, H, rfl,
    I1.kept (t' := tk) fun b o e => Heap.get?_push_of_some _ e, Bw _ lo (hi - lo).toNat, ?_, fun b hb => ?_, q⟩
  · have e1 : lo + ((0 : Nat) : Int) * 1 = lo := by simp
    have e2 : (((hi - lo).toNat : Nat) : Int) - ((0 : Nat) : Int) = Builtin.Range.rangeSize lo hi 1 := by rw [rangeSize_one]; split <;> omega
    show IsRangeIter _ _ (lo + ((0 : Nat) : Int) * 1) ((((hi - lo).toNat : Nat) : Int) - ((0 : Nat) : Int)) 1
    rw [e1, e2]
    exact Heap.get?_push_size _ rfl
  · have e : b = (s.heap.push { cls := .type "range", data := .fields #[.int lo t, .int hi u, .int 1 v] }).objs.size := by simpa using hb
    subst e
    exact I1.Hq (Nat.le_refl _) (I1.hok.fresh (Nat.le_refl _))
noncomputable def Jb (ta : TA) : TI := fun σ H R => ta σ H fun vs H1 => ∃ j : Int, vs = [.int j] ∧ -(2 ^ 62) ≤ j ∧ j < 2 ^ 62 ∧ R (Bu 0 j.toNat) H1
theorem xK {a : Expr} {ta : TA} {p pos : Pos} (hg : Gl X "range") (hm : X.mg "range" = none) (ha : PA X [a] ta) (hs : starEach [a] X.env = [(false, eval a X.env)] := by rfl) : PI X tg (.Call (.Name "range" p) [a] [] pos) (Jb ta) := by
  intro pins s σ H R I h
  refine Call_ (vc I hg hm boot_range (PyProof.Rows.callWith_type1 (iB (ha pos pins s σ H _ I h) fun us s1 ⟨vs, H1, I1, r1, q1⟩ => ?_) hs rfl))
  obtain ⟨j, e, q1, q2, q⟩ := q1
  subst e
  cases r1 with
  | cons r rr =>
    cases rr
    obtain ⟨t, rfl⟩ := r
    exact call_range_1 (EJ I1 (by omega) (by omega) q1 q2 (by simpa using q))
noncomputable def PY (wi : TI) (g : TG) (tb : TS) : TS := fun D σ H => wi σ H fun J H1 => ∃ W : Nat → Nat → St → Hp → Prop, (∃ m, W 0 m σ H1) ∧ ∀ i m σ H, W i m σ H →
  (J.stop i H ∧ D.nx σ H) ∨ (J.go i H ∧ ∃ N : St → Hp → Prop, (∀ σ' H', N σ' H' → ∃ m', m' < m ∧ W (i + 1) m' σ' H') ∧ ∀ x H', J.Ao i H x H' → g x σ H' fun σ2 H2 => tb { D with nx := N, ct := N, bk := D.nx } σ2 H2)
noncomputable def sG (fp : List Addr) (h : Heap) : List (Addr × Obj) := fp.filterMap fun b => (h.get? b).map fun o => (b, o)
theorem lR {fp : List Addr} {h : Heap} {b : Addr} {o : Obj} (hb : b ∈ fp) (e : h.get? b = some o) : (b, o) ∈ sG fp h := List.mem_filterMap.mpr ⟨b, hb, by rw [e]; rfl⟩
theorem DB {fp : List Addr} {h : Heap} {p : Addr × Obj} (hp : p ∈ sG fp h) : p.1 ∈ fp ∧ h.get? p.1 = some p.2 := by
  obtain ⟨b, hb, e⟩ := List.mem_filterMap.mp hp
  cases q : h.get? b with
  | none => rw [q] at e; cases e
  | some o =>
    rw [q] at e
    have e' : (b, o) = p := Option.some.inj e
    subst e'
    exact ⟨hb, q⟩
theorem Inv.pinned {pins : List (Addr × Obj)} {σ : St} {H : Hp} {s : Shared} {fp : List Addr} (I : Inv X pins σ H s) (hf : ∀ b ∈ fp, vd X pins H b) (ho : ∀ b ∈ fp, ∃ o, s.heap.get? b = some o ∧ ∀ v, o.data ≠ .cell v) : Inv X (pins ++ sG fp s.heap) σ H s :=
  I.qK fun p hp => (List.mem_append.mp hp).elim (fun z => I.pin p (List.mem_append_right _ z)) fun z => by
    obtain ⟨hb, e⟩ := DB z
    obtain ⟨f0, f1, f2, _⟩ := hf p.1 hb
    obtain ⟨o, e', d⟩ := ho p.1 hb
    rw [e] at e'; cases e'
    exact ⟨e, f0, f1, f2, d⟩
theorem Inv.ve {pins pl : List (Addr × Obj)} {σ : St} {H : Hp} {s : Shared} (I : Inv X (pins ++ pl) σ H s) : Inv X pins σ H s := I.qK fun p hp => I.pin p (List.mem_append_right _ (List.mem_append_left _ hp))
theorem EK {iter : Expr} {body : List Stmt} {wi : TI} {g : TG} {tb : TS} {pos : Pos} (hp : PassesOwn (model X.prog X.w) X.A X.env X.xe) (hc : X.calm = true) (hi : PI X tg iter wi) (hg : PG X tg g) (hb : Cz X body tb)
    (hs : ∀ x, foldedSetIterable iter X.env x = pure x := by intro _; rfl) : PS X (.For tg iter body [] pos) (PY wi g tb) := by
  intro pins s σ H D I h
  refine wpAny_For (iB (hi pins s σ H _ I h) fun v s1 h1 => iB h1 fun itv s2 h2 => ?_) hs
  obtain ⟨it, fp, tn, J, H2, e, I2, T, st2, f2, W, ⟨m0, w0⟩, turn⟩ := h2
  subst e
  have J0 : ∀ {H' : Hp}, (∀ b ∈ fp, H' b = none) → ∀ b ∈ fp, vd X pins H' b := fun hn b hb => ⟨hn b hb, (f2 b hb).2⟩
  refine codeAny_forLoop_any (fun n s' => ∃ i σ' H', Inv X pins σ' H' s' ∧ tn i s'.heap ∧ (∀ b ∈ fp, H' b = none) ∧ W i n σ' H') ?_ m0 ⟨0, σ, H2, I2, st2, fun b hb => (f2 b hb).1, w0⟩
  rintro n s3 ⟨i, σ3, H3, I3, st3, SH, w3⟩
  rcases turn i n σ3 H3 w3 with ⟨stop, qn⟩ | ⟨go, N, hN, step⟩
  · refine wpAny_passesOwn hp (iB (T.done X rfl rfl rfl hc i pins s3 σ3 H3 X.xe I3 (J0 SH) st3 stop) fun r s4 ⟨hr, I4⟩ => ?_)
    subst hr
    exact wpAny_execs_nil ⟨σ3, H3, I4, qn⟩
  · refine wpAny_passesOwn hp (iB (T.item X rfl rfl rfl hc i pins s3 σ3 H3 X.xe I3 (J0 SH) st3 go) fun r s4 ⟨u, hr, h4⟩ => ?_)
    subst hr
    refine wpAny_passesOwn hp (iB h4 fun _ s5 ⟨x, H5, I5, r5, y5, LO, O3⟩ => ?_)
    have UL := I5.pinned (J0 O3) (T.obj _ _ LO)
    refine wpAny_passesOwn hp (iB (hg _ s5 σ3 H5 x u _ UL r5 (step x H5 y5)) fun _ s6 ⟨σ6, H6, I6, q6⟩ => ?_)
    refine wpAny_passesOwn hp (iB (hb _ s6 σ6 H6 _ I6 q6) fun f s7 q7 => ?_)
    have again : ∀ {σ7 : St} {H7 : Hp}, Inv X (pins ++ sG fp s5.heap) σ7 H7 s7 → N σ7 H7 → ∃ m, m < n ∧ ∃ i σ' H', Inv X pins σ' H' s7 ∧ tn i s7.heap ∧ (∀ b ∈ fp, H' b = none) ∧ W i m σ' H' := fun {σ7 H7} I7 n7 => by
      obtain ⟨m', hm, w7⟩ := hN σ7 H7 n7
      refine ⟨m', hm, i + 1, σ7, H7, I7.ve, T.keep _ _ _ LO fun b hb o e => (I7.pin (b, o) (List.mem_append_right _ (List.mem_append_right _ (lR hb e)))).1, fun b hb => ?_, w7⟩
      obtain ⟨o, e, d⟩ := T.obj _ _ LO b hb
      exact (I7.pin (b, o) (List.mem_append_right _ (List.mem_append_right _ (lR hb e)))).2.1
    cases f with
    | next => obtain ⟨σ7, H7, I7, n7⟩ := q7; exact again I7 n7
    | cont => obtain ⟨σ7, H7, I7, n7⟩ := q7; exact again I7 n7
    | brk => obtain ⟨σ7, H7, I7, q7⟩ := q7; exact ⟨σ7, H7, I7.ve, q7⟩
    | ret v => obtain ⟨x7, σ7, H7, I7, r7, q7⟩ := q7; exact ⟨x7, σ7, H7, I7.ve, r7, q7⟩
end
end L2
namespace L2
open PySem PySem.Spec PyProof.Rows
noncomputable abbrev R2 := V → V → Hp → VK → Prop
noncomputable def kT (X : Cx) (f : Value → Value → Sem Value) (r : R2) : Prop :=
  ∀ (pins : List (Addr × Obj)) (s : Shared) (σ : St) (H : Hp) (x y : V) (v u : Value) (Q : VK), Inv X pins σ H s → RelV x v → RelV y u → r x y H Q →
    wpAny (model X.prog X.w) X.A (f v u) (EP X pins σ Q) X.xe s
noncomputable def PZ (X : Cx) (f : Value → Sem Value) (r : V → Hp → VK → Prop) : Prop :=
  ∀ (pins : List (Addr × Obj)) (s : Shared) (σ : St) (H : Hp) (x : V) (v : Value) (Q : VK), Inv X pins σ H s → RelV x v → r x H Q →
    wpAny (model X.prog X.w) X.A (f v) (EP X pins σ Q) X.xe s
noncomputable def gB (X : Cx) (f : Value) (r : List V → Hp → VK → Prop) : Prop :=
  ∀ (pins : List (Addr × Obj)) (s : Shared) (σ : St) (H : Hp) (xs : List V) (us : List Value) (Q : VK), Inv X pins σ H s → Vals xs us → r xs H Q →
    wpAny (model X.prog X.w) X.A (call f us) (EP X pins σ Q) X.xe s
noncomputable def P0 (X : Cx) (r : V → Hp → (Bool → Hp → Prop) → Prop) : Prop :=
  ∀ (pins : List (Addr × Obj)) (s : Shared) (σ : St) (H : Hp) (x : V) (v : Value) (Q : Bool → Hp → Prop), Inv X pins σ H s → RelV x v → r x H Q →
    wpAny (model X.prog X.w) X.A (truthy v) (TP X pins σ Q) X.xe s
noncomputable def Mg (r : R2) (ta tb : TE) : TE := fun σ H Q => ta σ H fun x H1 => tb σ H1 fun y H2 => r x y H2 Q
noncomputable def UM (r : V → Hp → VK → Prop) (ta : TE) : TE := fun σ H Q => ta σ H fun x H1 => r x H1 Q
noncomputable def rI (C : Int → Int → Prop) (g : Int → Int → V) : R2 := fun x y H Q => ∃ i j, x = .int i ∧ y = .int j ∧ C i j ∧ Q (g i j) H
noncomputable def J1 (g : Int → Int → V) : R2 := fun x y H Q => ∃ i j, x = .int i ∧ y = .int j ∧ Q (g i j) H
noncomputable def rU (g : Int → V) : V → Hp → VK → Prop := fun x H Q => ∃ i, x = .int i ∧ Q (g i) H
section
variable {X : Cx} {a b c : Expr} {ta tb tc : TE} {pos : Pos}
theorem J2 (ha : PE X a ta) (hb : PE X b tb) {pins : List (Addr × Obj)} {s : Shared} {σ : St} {H : Hp} {R : V → V → Hp → Prop} (I : Inv X pins σ H s)
    (h : ta σ H fun x H1 => tb σ H1 fun y H2 => R x y H2) {Q : Value → Shared → Prop} {f : Value → Value → Sem Value}
    (hf : ∀ v u s2 x y H2, Inv X pins σ H2 s2 → RelV x v → RelV y u → R x y H2 → wpAny (model X.prog X.w) X.A (f v u) Q X.xe s2) :
    wpAny (model X.prog X.w) X.A (eval a X.env) (fun v s₁ => wpAny (model X.prog X.w) X.A (eval b X.env) (fun u s₂ => wpAny (model X.prog X.w) X.A (f v u) Q X.xe s₂) X.xe s₁) X.xe s := by
  refine iB (ha pins s σ H _ I h) fun v s1 ⟨x, H1, I1, r1, q1⟩ => ?_
  refine iB (hb pins s1 σ H1 _ I1 q1) fun u s2 ⟨y, H2, I2, r2, q2⟩ => ?_
  exact hf v u s2 x y H2 I2 r1 r2 q2
theorem Mh {op : Operator} {r : R2} (ho : kT X (binaryOp op) r) (ha : PE X a ta) (hb : PE X b tb) : PE X (.BinOp a op b pos) (Mg r ta tb) := by
  intro pins s σ H Q I h
  exact wpAny_BinOp (J2 ha hb I h fun v u s2 x y H2 I2 rx ry q => ho pins s2 σ H2 x y v u Q I2 rx ry q)
theorem Mi {op : UnaryOp} {r : V → Hp → VK → Prop} (ho : PZ X (unaryOp op) r) (ha : PE X a ta) : PE X (.UnaryOp op a pos) (UM r ta) := by
  intro pins s σ H Q I h
  exact UnaryOp_ (iB (ha pins s σ H _ I h) fun v s1 ⟨x, H1, I1, r1, q1⟩ => ho pins s1 σ H1 x v Q I1 r1 q1)
theorem O4 {f : Value → Value → Sem Value} {C : Int → Int → Prop} {g : Int → Int → Int}
    (rule : ∀ (i j : Int) (t u : Tok) (s : Shared) (Q : Value → Shared → Prop) (E : Value → Shared → Prop), C i j → Q (.int (g i j) s.toks) { s with toks := s.toks + 1 } → wpAny (model X.prog X.w) X.A (f (.int i t) (.int j u)) Q E s) :
    kT X f (rI C fun i j => .int (g i j)) := by
  intro pins s σ H x y v u Q I rx ry h
  obtain ⟨i, j, rfl, rfl, hc, q⟩ := h
  obtain ⟨t, rfl⟩ := rx
  obtain ⟨t', rfl⟩ := ry
  exact rule i j t t' s _ _ hc ⟨.int (g i j), H, I.tok _, ⟨_, rfl⟩, q⟩
theorem Mj {f : Value → Value → Sem Value} {g : Int → Int → Int}
    (rule : ∀ (i j : Int) (t u : Tok) (s : Shared) (Q : Value → Shared → Prop) (E : Value → Shared → Prop), Q (.int (g i j) s.toks) { s with toks := s.toks + 1 } → wpAny (model X.prog X.w) X.A (f (.int i t) (.int j u)) Q E s) :
    kT X f (J1 fun i j => .int (g i j)) := by
  intro pins s σ H x y v u Q I rx ry h
  obtain ⟨i, j, rfl, rfl, q⟩ := h
  obtain ⟨t, rfl⟩ := rx
  obtain ⟨t', rfl⟩ := ry
  exact rule i j t t' s _ _ ⟨.int (g i j), H, I.tok _, ⟨_, rfl⟩, q⟩
theorem Ml {f : Value → Value → Sem Value} {g : Int → Int → Bool}
    (rule : ∀ (i j : Int) (t u : Tok) (s : Shared) (Q : Value → Shared → Prop) (E : Value → Shared → Prop), Q (.bool (g i j)) s → wpAny (model X.prog X.w) X.A (f (.int i t) (.int j u)) Q E s) :
    kT X f (J1 fun i j => .bl (g i j)) := by
  intro pins s σ H x y v u Q I rx ry h
  obtain ⟨i, j, rfl, rfl, q⟩ := h
  obtain ⟨t, rfl⟩ := rx
  obtain ⟨t', rfl⟩ := ry
  exact rule i j t t' s _ _ ⟨.bl (g i j), H, I, rfl, q⟩
noncomputable def P1 (i j : Int) : Prop := 0 < j ∧ j < 1073741824
noncomputable def P4 (i j : Int) : Prop := 0 ≤ j ∧ j ≤ 1000000 ∧ i.natAbs < 2 ^ 64
noncomputable def J3 (i j : Int) : Prop := (-(2 ^ 64) < i ∧ i < 2 ^ 64) ∨ (-(2 ^ 64) < j ∧ j < 2 ^ 64)
theorem J3.ok {i j : Int} (h : J3 i j) : IntMulOk i j := by
  rcases h with ⟨h1, h2⟩ | ⟨h1, h2⟩
  · exact .of_left (intBits_le_64 h1 h2)
  · exact .of_right (intBits_le_64 h1 h2)
theorem J4 : kT X (binaryOp .Add) (J1 fun i j => .int (i + j)) := Mj fun _ _ _ _ _ _ _ q => add_int q
theorem J5 : kT X (binaryOp .Sub) (J1 fun i j => .int (i - j)) := Mj fun _ _ _ _ _ _ _ q => sub_int q
theorem J6 : kT X (binaryOp .Mult) (rI J3 fun i j => .int (i * j)) := O4 fun _ _ _ _ _ _ _ hc q => mul_int q hc.ok
theorem Hr : kT X (binaryOp .FloorDiv) (rI P1 fun i j => .int (i / j)) := O4 fun i j _ _ _ _ _ hc q => by
  have h1 : (0 : Int) < j := hc.1
  have h2 : j < 1073741824 := hc.2
  exact floordiv_int (by omega) (by rw [Int.fdiv_eq_ediv_of_nonneg i (by omega)]; exact q) (.inl (PyProof.noPylong_small (by omega)))
theorem J7 : kT X (binaryOp .Mod) (rI (fun _ j => 0 < j) fun i j => .int (i % j)) := O4 fun i j _ _ _ _ _ hc q => by
  have h1 : (0 : Int) < j := hc
  exact mod_int' (by omega) (by rw [Int.fmod_eq_emod_of_nonneg i (by omega)]; exact q)
theorem J8 : kT X (binaryOp .Pow) (rI P4 fun i j => .int (i ^ j.toNat)) := O4 fun _ _ _ _ _ _ _ hc q => pow_int_small hc.1 hc.2.1 hc.2.2 q
theorem UN {f : Value → Sem Value} {g : Int → Int}
    (rule : ∀ (i : Int) (t : Tok) (s : Shared) (Q : Value → Shared → Prop) (E : Value → Shared → Prop), Q (.int (g i) s.toks) { s with toks := s.toks + 1 } → wpAny (model X.prog X.w) X.A (f (.int i t)) Q E s) :
    PZ X f (rU fun i => .int (g i)) := by
  intro pins s σ H x v Q I rx h
  obtain ⟨i, rfl, q⟩ := h
  obtain ⟨t, rfl⟩ := rx
  exact rule i t s _ _ ⟨.int (g i), H, I.tok _, ⟨_, rfl⟩, q⟩
theorem J9 : PZ X (unaryOp .USub) (rU fun i => .int (-i)) := UN fun _ _ _ _ _ q => neg_int q
end
section
variable {X : Cx} {a b c : Expr} {ta tb tc : TE} {pos : Pos}
theorem yJ {pins : List (Addr × Obj)} {σ : St} {H : Hp} {s : Shared} {Q : VK} {k k' : Bool} (I : Inv X pins σ H s) (q : Q (.bl k) H) (e : k = k') : EP X pins σ Q (.bool k') s := by
  subst e
  exact ⟨.bl k, H, I, rfl, q⟩
theorem Mm : kT X (compareOp .Lt) (J1 fun i j => .bl (decide (i < j))) := Ml fun _ _ _ _ _ _ _ q => lt_int q
theorem Mn : kT X (compareOp .Gt) (J1 fun i j => .bl (decide (j < i))) := Ml fun _ _ _ _ _ _ _ q => gt_int q
theorem DC : kT X (compareOp .In) (fun x y H Q => ∃ i j, x = .str i ∧ y = .str j ∧ Q (.bl (!(Builtin.Str.occurrences j i 0 j.length 1).isEmpty)) H) := by
  intro pins s σ H x y v u Q I rx ry h
  obtain ⟨i, j, rfl, rfl, q⟩ := h
  obtain ⟨t, rfl⟩ := rx
  obtain ⟨t', rfl⟩ := ry
  exact in_str (yJ I q rfl)
theorem Ka : kT X (compareOp .Is) (fun x y H Q => y = .gg ∧ Q (.bl (decide (x = .gg))) H) := by
  intro pins s σ H x y v u Q I rx ry h
  obtain ⟨rfl, q⟩ := h
  cases ry
  refine is_none_gen (yJ I q ?_)
  cases x <;> first
    | (cases rx; rfl)
    | (obtain ⟨t, rfl⟩ := rx; rfl)
theorem Hs : kT X (compareOp .IsNot) (fun x y H Q => y = .gg ∧ Q (.bl (!decide (x = .gg))) H) := by
  intro pins s σ H x y v u Q I rx ry h
  obtain ⟨rfl, q⟩ := h
  cases ry
  refine isnot_none_gen (yJ I q ?_)
  cases x <;> first
    | (cases rx; rfl)
    | (obtain ⟨t, rfl⟩ := rx; rfl)
theorem yK : kT X (compareOp .NotIn) (fun x y H Q => ∃ i j, x = .str i ∧ y = .str j ∧ Q (.bl (!(!(Builtin.Str.occurrences j i 0 j.length 1).isEmpty))) H) := by
  intro pins s σ H x y v u Q I rx ry h
  obtain ⟨i, j, rfl, rfl, q⟩ := h
  obtain ⟨t, rfl⟩ := rx
  obtain ⟨t', rfl⟩ := ry
  exact notIn_str (yJ I q rfl)
theorem kT.or {f : Value → Value → Sem Value} {r r' : R2} (h : kT X f r) (h' : kT X f r') : kT X f (fun x y H Q => r x y H Q ∨ r' x y H Q) := by
  intro pins s σ H x y v u Q I rx ry q
  rcases q with q | q
  · exact h pins s σ H x y v u Q I rx ry q
  · exact h' pins s σ H x y v u Q I rx ry q
theorem Kc (b : Expr) {op : CmpOp} (h : op ≠ .In := by decide) (h2 : op ≠ .NotIn := by decide) : behindInMarks op b = false := by
  have e1 : (op == CmpOp.In) = false := by cases op <;> first | rfl | exact absurd rfl h
  have e2 : (op == CmpOp.NotIn) = false := by cases op <;> first | rfl | exact absurd rfl h2
  cases b <;> simp [behindInMarks, e1, e2]
theorem Ht {op : CmpOp} {r : R2} (ho : kT X (compareOp op) r) (ha : PE X a ta) (hb : PE X b tb) (hm : behindInMarks op b = false) : PE X (.Compare a [op] [b] pos) (Mg r ta tb) := by
  intro pins s σ H Q I h
  exact wpAny_Compare1 (J2 ha hb I h fun v u s2 x y H2 I2 rx ry q => ho pins s2 σ H2 x y v u Q I2 rx ry q) hm
noncomputable def Mp (t : TE) : TT := fun σ H Q => t σ H fun x H' => ∃ k, x = .bl k ∧ Q k H'
theorem Hu {op : CmpOp} {r : R2} (ho : kT X (compareOp op) r) (ha : PE X a ta) (hb : PE X b tb) (hm : behindInMarks op b = false) : PT X (.Compare a [op] [b] pos) (Mp (Mg r ta tb)) := by
  intro pins s σ H Q I h
  refine wpAny_isTrue_Compare1 (iB (ha pins s σ H _ I h) fun v s1 ⟨x, H1, I1, r1, q1⟩ => iB (hb pins s1 σ H1 _ I1 q1) fun u s2 ⟨y, H2, I2, r2, q2⟩ =>
    iB (ho pins s2 σ H2 x y v u _ I2 r1 r2 q2) fun c s3 ⟨z, H3, I3, r3, k, e, q3⟩ => ?_) hm
  subst e
  cases r3
  exact wpAny_truthy_bool ⟨H3, I3, q3⟩
noncomputable def Kd (K : PySem.W.Frag) (x : V) (H : Hp) (k : Bool) : Prop :=
  match x with
  | .gg => k = false
  | .bl b => k = b
  | .int i => k = (i != 0)
  | .str y => y.length ≤ sizeLine ∧ k = ((y.length : Int) != 0)
  | .LX y => y.size ≤ sizeLine ∧ k = ((y.size : Int) != 0)
  | .ref p => (∃ xs, tP K H p xs ∧ k = !xs.isEmpty) ∨ (∃ xs, tQ K H p xs ∧ k = !xs.isEmpty) ∨ ∃ kvs, H p = some (.dK kvs) ∧ k = !kvs.isEmpty
  | _ => False
theorem Bx {κ : Type} {kvs : List (κ × V)} {vs : List (κ × Value)} (r : KV kvs vs) : (!vs.isEmpty) = !kvs.isEmpty := by
  cases r <;> rfl
theorem vf {xs : List V} {its : List Value} (r : Vals xs its) : (!its.toArray.isEmpty) = !xs.isEmpty := by
  cases r <;> simp
theorem sH : (sizeLine : Nat) < 2 ^ 63 := by rw [sizeLine_eq]; decide
theorem Ke : P0 X (fun x H Q => ∃ k, Kd X.K x H k ∧ Q k H) := by
  intro pins s σ H x v Q I rx h
  obtain ⟨k, e, q⟩ := h
  have hl := sH
  have hs : sizeLine = 16777216 := sizeLine_eq
  cases x with
  | gg =>
    cases rx
    have e' : k = false := e
    subst e'
    exact truthy_none ⟨H, I, q⟩
  | bl b =>
    cases rx
    have e' : k = b := e
    subst e'
    exact wpAny_truthy_bool ⟨H, I, q⟩
  | int i =>
    obtain ⟨t, rfl⟩ := rx
    have e' : k = (i != 0) := e
    subst e'
    exact PySem.P.truthy_int ⟨H, I, q⟩
  | str y =>
    obtain ⟨t, rfl⟩ := rx
    obtain ⟨hy, e'⟩ : y.length ≤ sizeLine ∧ k = ((y.length : Int) != 0) := e
    subst e'
    exact PySem.P.truthy_str (by omega) ⟨H, I.tok _, q⟩
  | LX y =>
    obtain ⟨t, rfl⟩ := rx
    obtain ⟨hy, e'⟩ : y.size ≤ sizeLine ∧ k = ((y.size : Int) != 0) := e
    subst e'
    exact PySem.W.truthy_bytes (by omega) ⟨H, I.tok _, q⟩
  | ref p =>
    cases rx
    have e' : (∃ xs, tP X.K H p xs ∧ k = !xs.isEmpty) ∨ (∃ xs, tQ X.K H p xs ∧ k = !xs.isEmpty) ∨ ∃ kvs, H p = some (.dK kvs) ∧ k = !kvs.isEmpty := e
    rcases e' with ⟨xs, hx, e'⟩ | ⟨xs, hx, e'⟩ | ⟨kvs, hx, e'⟩
    · subst e'
      obtain ⟨its, r, pl, hz⟩ := I.list hx
      have hlen := r.length
      exact wpAny_truthy_list pl.isList (by simp only [List.size_toArray]; omega) ⟨H, I.tok _, by rw [vf r]; exact q⟩
    · subst e'
      obtain ⟨its, r, pl, hz⟩ := I.tuple hx
      have hlen := r.length
      exact truthy_tuple pl (by simp only [List.size_toArray]; omega) ⟨H, I.tok _, by rw [vf r]; exact q⟩
    · subst e'
      obtain ⟨hz, hS, vs, r, m⟩ : kvs.length ≤ sizeLine ∧ (p == sysModules) = false ∧ ∃ vs, KV kvs vs ∧ s.heap.DictOf (yH X.prog X.w) p vs := I.hok p _ hx
      have hlen : kvs.length = vs.length := Paired.length r
      exact wpAny_truthy_dict hS m (by omega) ⟨H, I.tok _, by rw [Bx r]; exact q⟩
  | _ => exact (show False from e).elim
theorem EL (ha : PE X a ta) (he : ∀ whole, isTrue a X.env whole = (do let v ← whole; standAt a.pos; holding [v] (truthy v))) :
    PT X a (fun σ H Q => ta σ H fun x H' => ∃ k, Kd X.K x H' k ∧ Q k H') := by
  intro pins s σ H Q I h
  exact isTrue_plain (iB (ha pins s σ H _ I h) fun v s1 ⟨x, H1, I1, r1, q1⟩ => Ke pins s1 σ H1 x v Q I1 r1 q1) (he _)
theorem By : kT X (binaryOp .Add) (fun x y H Q => ∃ i j, x = .str i ∧ y = .str j ∧ i.length + j.length ≤ sizeLine ∧ Q (.str (i ++ j)) H) := by
  intro pins s σ H x y v u Q I rx ry h
  obtain ⟨i, j, rfl, rfl, hz, q⟩ := h
  obtain ⟨t, rfl⟩ := rx
  obtain ⟨t', rfl⟩ := ry
  exact nS I.os.2 (add_str (fun t' tk ht => ⟨.str (i ++ j), H, I.tok _, ⟨_, rfl⟩, q⟩) hz)
theorem vals1 {x : V} {us : List Value} (r : Vals [x] us) : ∃ u, us = [u] ∧ RelV x u := by
  cases r with
  | cons r1 r2 => cases r2; exact ⟨_, rfl, r1⟩
theorem vals2 {x y : V} {us : List Value} (r : Vals [x, y] us) : ∃ u w', us = [u, w'] ∧ RelV x u ∧ RelV y w' := by
  cases r with
  | cons r1 r2 =>
    cases r2 with
    | cons r3 r4 => cases r4; exact ⟨_, _, rfl, r1, r3⟩
theorem DE (hc : X.calm = true) : gB X (.builtin "max") (fun xs H Q => ∃ i j, xs = [.int i, .int j] ∧ Q (.int (if j > i then j else i)) H) := by
  intro pins s σ H xs us Q I r h
  obtain ⟨i, j, rfl, q⟩ := h
  obtain ⟨u, w', rfl, ⟨t, rfl⟩, ⟨t', rfl⟩⟩ := vals2 r
  refine nS I.os.2 <| max_two_ints (I.ok.hd hc) fun h' tk k ht => ⟨_, H, I.kept k, ?_, q⟩
  by_cases hj : j > i
  · rw [if_pos hj, if_pos hj]; exact ⟨_, rfl⟩
  · rw [if_neg hj, if_neg hj]; exact ⟨_, rfl⟩
theorem yL : gB X (.type "str") (fun xs H Q => ∃ i, xs = [.int i] ∧ i.natAbs.log2 < 1920 ∧ Q (.str (toString i)) H) := by
  intro pins s σ H xs us Q I r h
  obtain ⟨i, rfl, hz, q⟩ := h
  obtain ⟨u, rfl, t, rfl⟩ := vals1 r
  exact PySem.P.str_of_int hz ⟨.str _, H, I.tok _, ⟨_, rfl⟩, q⟩
end
end L2
namespace L2
open PySem PySem.Spec PyProof.Rows
structure UO (h : Heap) (x dx C : Addr) (mA : Str → Option Value) : Prop where
  obj : h.get? x = some (PySem.W.instObj C dx)
  ns : h.Ns1 dx mA
  ne : dx ≠ x
section
variable {prog : Program} {w : World} {A : Around} {E : Value → Shared → Prop} {s : Shared} {K : PySem.W.Frag} {x dx C f : Addr} {mA : Str → Option Value} {name : Str} {v : Value}
end
section
variable {P : Program} {w : World} {H H' : Hp} {h h' : Heap} {a C dx : Addr} {fs fs' : List (Str × V)}
end
structure UP (K : PySem.W.Frag) (C : Addr) : Prop where
  pg : PySem.W.plainGet K C Str.empty = true
  hd : PySem.W.hasDictIn K C = true
  po : PySem.W.plainOver K C = true
  sa : PySem.W.findIn K (.ref C) "__setattr__" = some (some (.builtin "object.__setattr__"))
structure Xz (K : PySem.W.Frag) (C : Addr) (f : Str) (v : V) (u : Value) : Prop where
  at_ : PySem.W.findIn K (.ref C) f = some (some u)
  rel : RelV v u
  get : PySem.W.specialIn K u "__get__" = some none
  cp : PySem.W.copiedNames.contains f = false
structure Meth (K : PySem.W.Frag) (C : Addr) (m : Str) (f : Addr) : Prop where
  at_ : PySem.W.findIn K (.ref C) m = some (some (.ref f))
  fn : PySem.W.isFn K (.ref f) = true
  kp : PySem.W.keepIn K (.ref f) = true
section
variable {X : Cx} {pins : List (Addr × Obj)} {σ : St} {H : Hp} {s : Shared} {a C dx : Addr} {fs : List (Str × V)} {f : Str} {v : V} {A : Around} {E : Value → Shared → Prop}
end
section
variable {X : Cx} {o e value : Expr} {f : Str} {pos pos' tpos : Pos} {ta tv : TE}
end
section
variable {X : Cx} {pins : List (Addr × Obj)} {σ : St} {H : Hp} {s : Shared} {A : Around} {E : Value → Shared → Prop} {Q : Value → Shared → Prop} {c : Value} {b : Bool}
inductive vg (K : PySem.W.Frag) (H : Hp) : V → Value → Prop where
  | gg : vg K H .gg (.type "NoneType")
  | bl (x : Bool) : vg K H (.bl x) (.type "bool")
  | int (i : Int) : vg K H (.int i) (.type "int")
  | str (x : Str) : vg K H (.str x) (.type "str")
  | LY (x : UInt64) : vg K H (.LY x) (.type "float")
  | lst {a : Addr} {xs : List V} (e : H a = some (.lst xs)) : vg K H (.ref a) (.type "list")
  | nc {a : Addr} {o : Obj} {xs : List V} (e : H a = some (.nc o (.lst xs))) : vg K H (.ref a) (.type "list")
  | tup {a : Addr} {xs : List V} (e : H a = some (.tup xs)) : vg K H (.ref a) (.type "tuple")
  | dK {a : Addr} {kvs : List (Key × V)} (e : H a = some (.dK kvs)) : vg K H (.ref a) (.type "dict")
  | dT {a : Addr} {kvs : List (List Key × V)} (e : H a = some (.dT kvs)) : vg K H (.ref a) (.type "dict")
  | ins {a C dx : Addr} {fs : List (Str × V)} (e : H a = some (.ins C dx fs)) (cl : UP K C) (ha : PySem.W.findIn K (.ref C) "__class__" = some (some (.builtin "object.__class__")))
      (hn : PySem.W.specialIn K (.builtin "object.__class__") "__get__" = some (some (.builtin "getset_descriptor.__get__"))) (htk : PySem.W.takesIn K (.builtin "object.__class__") = some true)
      (hm : PySem.W.mroIn K C (.type "object") = some true) : vg K H (.ref a) (.ref C)
end
end L2
namespace L2
open PySem PySem.Spec PyProof.Rows
structure gn (k : Nat) (A : Around) : Prop where
  hd : A.handled = none
  dp : A.depth + 3 * k + 5 < recursionLimit
  un : A.units + 16 * k + 600 < cLine
theorem gn.mono {j k : Nat} {A : Around} (r : gn k A) (h : j ≤ k) : gn j A := ⟨r.hd, by have := r.dp; omega, by have := r.un; omega⟩
theorem gn.deeper {k : Nat} {A : Around} (r : gn (k + 1) A) (env : Env) : gn k (A.deeper env) :=
  ⟨r.hd, by have := r.dp; show A.depth + 1 + 3 * k + 5 < _; omega, by have := r.un; show A.units + 3 + 16 * k + 600 < _; omega⟩
theorem gn.in1 {k : Nat} {A : Around} (r : gn (k + 1) A) : gn k A.in1 :=
  ⟨r.hd, by have := r.dp; show A.depth + 3 * k + 5 < _; omega, by have := r.un; show A.units + 1 + 16 * k + 600 < _; omega⟩
theorem BA {A : Around} {C : Addr} {us : List Value} {kw : List (Str × Value)} : (A.under (.builtin "type.__call__" ⟨.ref C :: us, kw⟩)).depth = A.depth + 1 := by
  first | rfl | simp [Around.under, Code.weight, Code.isCreation, Code.isGuard, Code.isCaller, Code.frames, Code.isFrame, guardIds]
theorem BB {A : Around} {C : Addr} {us : List Value} {kw : List (Str × Value)} : (A.under (.builtin "type.__call__" ⟨.ref C :: us, kw⟩)).units = A.units + 1 := by
  first | rfl | simp [Around.under, Code.cUnits, Code.frames, Code.isFrame]
theorem gn.make {k : Nat} {A : Around} (r : gn (k + 1) A) (C : Addr) (us : List Value) (kw : List (Str × Value)) : gn k (A.under (.builtin "type.__call__" ⟨.ref C :: us, kw⟩)) :=
  ⟨r.hd, by have := r.dp; rw [BA]; omega, by have := r.un; rw [BB]; omega⟩
theorem gn.depth {k : Nat} {A : Around} (r : gn k A) : A.depth < recursionLimit := by have := r.dp; omega
theorem gn.units {k : Nat} {A : Around} (r : gn k A) : A.units + 64 < cLine := by have := r.un; omega
noncomputable def Mq : TA := fun _ H Q => Q [] H
noncomputable def EM (ta : TE) (tr : TA) : TA := fun σ H Q => ta σ H fun x H1 => tr σ H1 fun xs H2 => Q (x :: xs) H2
section
variable {X : Cx} {e : Expr} {es : List Expr} {te : TE} {t : TA} {pos : Pos}
theorem EN : PA X [] Mq := fun _ _ _ _ H Q I h => Calls.spliced_nil ⟨[], H, I, .nil, h⟩
theorem yM (ha : PE X e te) (hr : PA X es t) (hs : starEach (e :: es) X.env = (false, eval e X.env) :: starEach es X.env := by rfl) : PA X (e :: es) (EM te t) := by
  intro pos pins s σ H Q I h
  rw [hs]
  show wpAny _ _ (spliced ((false, eval e X.env) :: backTo pos (starEach es X.env))) _ _ s
  refine Calls.spliced_cons (iB (ha pins s σ H _ I h) fun u s1 ⟨x, H1, I1, r1, q1⟩ => ?_)
  exact iB (hr pos pins s1 σ H1 _ I1 q1) fun us s2 ⟨xs, H2, I2, r2, q2⟩ => ⟨x :: xs, H2, I2, .cons r1 r2, q2⟩
noncomputable def P5 (t : TA) : TE := fun σ H Q => t σ H fun xs H1 => xs.length ≤ sizeLine ∧ ∀ p, H1 p = none → Q (.ref p) (upd H1 p (.tup xs))
noncomputable def P6 (t : TA) : TE := fun σ H Q => t σ H fun xs H1 => xs.length ≤ sizeLine ∧ ∀ p, H1 p = none → Q (.ref p) (upd H1 p (.lst xs))
theorem Kf {x1} (h : PA X es t) : PE X (.Tuple es x1 pos) (P5 t) := by
  intro pins s σ H Q I hq
  refine wpAny_Tuple_spliced (iB (h pos pins s σ H _ I hq) fun us s1 ⟨xs, H1, I1, r, z, q⟩ => ⟨by rw [← r.length]; exact z, ?_⟩)
  have hf : H1 s1.heap.objs.size = none := I1.hok.fresh (Nat.le_refl _)
  refine ⟨.ref s1.heap.objs.size, upd H1 s1.heap.objs.size (.tup xs), I1.laid (t' := s1.toks) (fun b u e => Heap.get?_push_of_some _ e) (Nat.le_refl _) ?_, rfl, q _ hf⟩
  exact ⟨z, us, r, ⟨_, Heap.get?_push_size _ rfl, rfl, _, rfl⟩⟩
theorem Kg (h : PA X es t) : PE X (.List es pos) (P6 t) := by
  intro pins s σ H Q I hq
  refine wpAny_List_spliced (iB (h pos pins s σ H _ I hq) fun us s1 ⟨xs, H1, I1, r, z, q⟩ => ⟨by rw [← r.length]; exact z, ?_⟩)
  have hf : H1 s1.heap.objs.size = none := I1.hok.fresh (Nat.le_refl _)
  refine ⟨.ref s1.heap.objs.size, upd H1 s1.heap.objs.size (.lst xs), I1.laid (t' := s1.toks) (fun b u e => Heap.get?_push_of_some _ e) (Nat.le_refl _) ?_, rfl, q _ hf⟩
  exact ⟨z, us, 0, r, Heap.get?_push_size _ rfl⟩
end
noncomputable abbrev Sp := List V → Hp → VK → XK → Prop
noncomputable abbrev wQ := List Env → Hp → Shared → XK → Value → Shared → Prop
structure vh (P : Program) (w : World) (K : PySem.W.Frag) (mg : Str → Option Value) (base : Heap) (A : Around) (outer : List Env) (s : Shared) (H : Hp) : Prop where
  frames : A.frames = some outer
  mod : Mod K mg base
  bs : ∀ b o, base.get? b = some o → s.heap.get? b = some o ∧ H b = none
  I8 : base.objs.size ≤ s.heap.objs.size
  uF : s.heap.FunFrames base outer
  JM : ∀ b ∈ frs outer, H b = none
  hok : qH P w H s.heap
  bare : AllBare s.gens
noncomputable def CE (outer : List Env) (P : Program) (w : World) (H : Hp) (s : Shared) (Q : VK) (u : Value) (s' : Shared) : Prop :=
  ∃ v H', (s'.os = s.os ∧ 0 < s'.toks) ∧ AllBare s'.gens ∧ Un (frs outer) [] H H' s.heap s'.heap ∧ qH P w H' s'.heap ∧ RelV v u ∧ Q v H'
noncomputable def CR (CX : wQ) (outer : List Env) (P : Program) (w : World) (H : Hp) (s : Shared) (Q : VK) (E : XK) (r : Result) (s' : Shared) : Prop :=
  match r with
  | .ok (.ret u) => CE outer P w H s Q u s'
  | .ok _ => False
  | .error e => CX outer H s E e s'
structure aR (P : Program) (w : World) (K : PySem.W.Frag) (mg : Str → Option Value) (base : Heap) (CX : wQ) (k : Nat) (f : Addr) (fd : FuncData) (ps : List Str) (sp : Sp) : Prop where
  len : ∀ vs H Q E, sp vs H Q E → vs.length = ps.length
  run : ∀ (A : Around) (outer : List Env) (s : Shared) (H : Hp) (args : Args) (us : List Value) (vs : List V) (Q : VK) (E : XK), gn k A → vh P w K mg base A outer s H → 0 < s.toks → BindsTo s fd args (ps.zip us) → Vals vs us → sp vs H Q E →
    codeAny (model P w) A (.call (.ref f) args) (CR CX outer P w H s Q E) s
structure pH (P : Program) (w : World) (K : PySem.W.Frag) (mg : Str → Option Value) (base : Heap) (CX : wQ) (k : Nat) (f : Addr) (fd : FuncData) (ps : List Str) (sp : Sp) : Prop where
  len : ∀ vs H Q E, sp vs H Q E → vs.length = ps.length
  run : ∀ (A : Around) (outer : List Env) (s : Shared) (H : Hp) (args : Args) (us : List Value) (vs : List V) (Q : VK) (E : XK), gn k A → vh P w K mg base A outer s H → BindsTo s fd args (ps.zip us) → Vals vs us → sp vs H Q E →
    codeAny (model P w) A (.call (.ref f) args) (CR CX outer P w H s Q E) s
theorem pH.imp {P : Program} {w : World} {K : PySem.W.Frag} {mg : Str → Option Value} {base : Heap} {CX : wQ} {k : Nat} {f : Addr} {fd : FuncData} {ps : List Str} {sp Mr : Sp} (F : pH P w K mg base CX k f fd ps sp)
    (h : ∀ vs H Q E, Mr vs H Q E → sp vs H Q E) : pH P w K mg base CX k f fd ps Mr :=
  ⟨fun vs H Q E q => F.len vs H Q E (h _ _ _ _ q), fun A outer s H args us vs Q E hr he hb hv hs => F.run A outer s H args us vs Q E hr he hb hv (h _ _ _ _ hs)⟩
theorem aR.imp {P : Program} {w : World} {K : PySem.W.Frag} {mg : Str → Option Value} {base : Heap} {CX : wQ} {k : Nat} {f : Addr} {fd : FuncData} {ps : List Str} {sp Mr : Sp} (F : aR P w K mg base CX k f fd ps sp)
    (h : ∀ vs H Q E, Mr vs H Q E → sp vs H Q E) : aR P w K mg base CX k f fd ps Mr :=
  ⟨fun vs H Q E q => F.len vs H Q E (h _ _ _ _ q), fun A outer s H args us vs Q E hr he ht hb hv hs => F.run A outer s H args us vs Q E hr he ht hb hv (h _ _ _ _ hs)⟩
theorem vh.make {P : Program} {w : World} {K : PySem.W.Frag} {mg : Str → Option Value} {base : Heap} {A : Around} {outer : List Env} {s : Shared} {H : Hp} (e : vh P w K mg base A outer s H) (C : Addr) (us : List Value) (kw : List (Str × Value)) :
    vh P w K mg base (A.under (.builtin "type.__call__" ⟨.ref C :: us, kw⟩)) outer s H := ⟨by first | exact e.frames | (simpa [Around.under, Code.envs, Code.isFrame, pushEnvs] using e.frames), e.mod, e.bs, e.I8, e.uF, e.JM, e.hok, e.bare⟩
theorem vh.in1 {P : Program} {w : World} {K : PySem.W.Frag} {mg : Str → Option Value} {base : Heap} {A : Around} {outer : List Env} {s : Shared} {H : Hp} (e : vh P w K mg base A outer s H) :
    vh P w K mg base A.in1 outer s H := ⟨e.frames, e.mod, e.bs, e.I8, e.uF, e.JM, e.hok, e.bare⟩
section
variable {X : Cx} {pins : List (Addr × Obj)} {σ : St} {H : Hp} {s s' : Shared}
theorem Inv.i9 (I : Inv X pins σ H s) : vh X.prog X.w X.K X.mg X.base X.A X.stack s H :=
  ⟨I.ok.frames, I.ok.mod, I.bs, Nat.le_trans I.ok.I8 I.sz, I.stack, I.qJ, I.hok, I.bare⟩
theorem Inv.after {Q : VK} {u : Value} (I : Inv X pins σ H s) (h : CE X.stack X.prog X.w H s Q u s') : EP X pins σ Q u s' := by
  obtain ⟨v, H', os, bare, un, hok, r, q⟩ := h
  obtain ⟨hh, g, d, t, os'⟩ := s'
  have ht : 0 < t := os.2
  obtain rfl : os' = s.os := os.1
  exact ⟨v, H', I.call (h' := hh) (g' := g) (d' := d) (t' := t) (ch := []) un hok bare (fun b z => absurd z (by simp)), r, q⟩
end
noncomputable def Binds (K : PySem.W.Frag) (fd : FuncData) (ps : List Str) (ds : List Value) : Prop :=
  ∀ (s : Shared) (us : List Value), K.In s.heap → (us ++ ds).length = ps.length → BindsTo s fd ⟨us, []⟩ (ps.zip (us ++ ds))
theorem Binds.all {K : PySem.W.Frag} {fd : FuncData} {ps : List Str} (h : ∀ us : List Value, us.length = ps.length → bindArgs fd ⟨us, []⟩ = pure (ps.zip us)) : Binds K fd ps [] := fun s us _ hl => by
  rw [List.append_nil] at hl ⊢
  exact .of_eq (h us hl)
section
variable {X : Cx} {CX : wQ} {k : Nat} {f C : Addr} {fd : FuncData} {ps : List Str} {sp : Sp} {XA : List V} {ds : List Value} {E : XK} {x m : Str} {p pos apos : Pos} {e o : Expr} {es : List Expr} {ta : TE} {t : TA}
structure Mk (K : PySem.W.Frag) (C f : Addr) : Prop where
  makes : PySem.W.makesIn K C = true
  init : PySem.W.findIn K (.ref C) "__init__" = some (some (.ref f))
  fn : PySem.W.isFn K (.ref f) = true
  kp : PySem.W.keepIn K (.ref C) = true
end
section
variable {X : Cx} {CX : wQ} {k : Nat} {f C : Addr} {fd : FuncData} {ps ks : List Str} {sp : Sp} {E : XK} {x m : Str} {p pos apos kpos : Pos} {e o : Expr} {es : List Expr} {kws : List Keyword} {te ta : TE} {t tk : TA} {nm : Option Str}
structure P7 (K : PySem.W.Frag) (fd : FuncData) (ps ks : List Str) (g : List Value → List Value → List Value) (gV : List V → List V → List V) : Prop where
  to : ∀ (s : Shared) (us ws : List Value), K.In s.heap → (g us ws).length = ps.length → BindsTo s fd ⟨us, ks.zip ws⟩ (ps.zip (g us ws))
  rel : ∀ {vs : List V} {us : List Value} {zs : List V} {ws : List Value}, Vals vs us → Vals zs ws → Vals (gV vs zs) (g us ws)
variable {g : List Value → List Value → List Value} {gV : List V → List V → List V}
end
structure bz (N P : List Str) (sc : Scope) : Prop where
  kind : sc.kind = .function
  co : sc.isCoroutine = false
  gen : sc.isGenerator = false
  nd : N.Nodup
  pre : N.take P.length = P
  par : ∀ x ∈ P, sc.names.lookup x = some .local ∨ sc.names.lookup x = some .cell
  Kh : ∀ y ∈ sc.names, y.2 ≠ .free
theorem xM {kindOf : Str → Option NameKind} {x : Str} : ∀ {binds : List (Str × Value)} {m : Str → Option Value}, (∀ v, (x, v) ∉ binds) → bindL kindOf binds m x = m x
  | [], _, _ => rfl
  | (n, v) :: r, m, h => by
    unfold bindL
    rw [xM fun w hw => h w (List.mem_cons_of_mem _ hw)]
    split
    · have : x ≠ n := by rintro rfl; exact h v List.mem_cons_self
      simp [this]
    · rfl
theorem xN {kindOf : Str → Option NameKind} {x : Str} : ∀ {binds : List (Str × Value)} {m : Str → Option Value}, (∀ v, (x, v) ∉ binds) → bindC kindOf binds m x = m x
  | [], _, _ => rfl
  | (n, v) :: r, m, h => by
    unfold bindC
    rw [xN fun w hw => h w (List.mem_cons_of_mem _ hw)]
    split
    · rfl
    · have : x ≠ n := by rintro rfl; exact h v List.mem_cons_self
      simp [this]
theorem xO {kindOf : Str → Option NameKind} {x : Str} {v : Value} : ∀ {P : List Str} {vs : List Value} {i : Nat} {m : Str → Option Value}, P.Nodup → P[i]? = some x → vs[i]? = some v → kindOf x = some .local →
    bindL kindOf (P.zip vs) m x = some v
  | [], _, _, _, _, h, _, _ => by simp at h
  | _ :: _, [], _, _, _, _, h, _ => by simp at h
  | p :: P, w :: vs, 0, m, nd, h1, h2, hk => by
    simp at h1 h2; subst h1; subst h2
    show bindL kindOf ((p, w) :: P.zip vs) m p = _
    unfold bindL
    rw [xM fun v hv => (List.nodup_cons.mp nd).1 (List.of_mem_zip hv).1, if_pos hk]
    simp
  | p :: P, w :: vs, i + 1, m, nd, h1, h2, hk => by
    show bindL kindOf ((p, w) :: P.zip vs) m x = _
    unfold bindL
    exact xO (i := i) (List.nodup_cons.mp nd).2 (by simpa using h1) (by simpa using h2) hk
theorem xP {kindOf : Str → Option NameKind} {x : Str} {v : Value} : ∀ {P : List Str} {vs : List Value} {i : Nat} {m : Str → Option Value}, P.Nodup → P[i]? = some x → vs[i]? = some v → kindOf x ≠ some .local →
    bindC kindOf (P.zip vs) m x = some v
  | [], _, _, _, _, h, _, _ => by simp at h
  | _ :: _, [], _, _, _, _, h, _ => by simp at h
  | p :: P, w :: vs, 0, m, nd, h1, h2, hk => by
    simp at h1 h2; subst h1; subst h2
    show bindC kindOf ((p, w) :: P.zip vs) m p = _
    unfold bindC
    rw [xN fun v hv => (List.nodup_cons.mp nd).1 (List.of_mem_zip hv).1, if_neg hk]
    simp
  | p :: P, w :: vs, i + 1, m, nd, h1, h2, hk => by
    show bindC kindOf ((p, w) :: P.zip vs) m x = _
    unfold bindC
    exact xP (i := i) (List.nodup_cons.mp nd).2 (by simpa using h1) (by simpa using h2) hk
noncomputable def start (N : List Str) (vs : List V) : St := vs.map some ++ List.replicate (N.length - vs.length) none
noncomputable def fG (CX : wQ) (P : Program) (w : World) (K : PySem.W.Frag) (mg : Str → Option Value) (base : Heap) (N : List Str) (qual : Str) (scope : Scope) (f : Addr) (cd : Value) (A : Around) (outer : List Env) (s : Shared) (H : Hp) (E : XK) : Cx where
  prog := P
  w := w
  K := K
  mg := mg
  base := base
  A := A.deeper (envOfC qual scope s.heap.objs.size f cd)
  N := N
  s₀ := s
  H₀ := H
  env := envOfC qual scope s.heap.objs.size f cd
  outer := outer
  stack := envOfC qual scope s.heap.objs.size f cd :: outer
  ex := []
  calm := true
  fn := fun _ => true
  pn := []
  xe := fun e s' => wpAny (model P w) (A.deeper (envOfC qual scope s.heap.objs.size f cd)) (leaving (envOfC qual scope s.heap.objs.size f cd) e) (fun _ s'' => CX outer H s E e s'') (fun e' s'' => CX outer H s E e' s'') s'
theorem Aq {sc : Scope} {n : Nat} {x : Str} (h : sc.names.lookup x = some .cell) : ∃ c, (cellsFrom n sc.names []).lookup x = some c := by
  have q := PySem.W.cellsFrom_some sc.names n [] (.inl h)
  exact Option.isSome_iff_exists.mp q
theorem xQ {CX : wQ} {P : Program} {w : World} {K : PySem.W.Frag} {mg : Str → Option Value} {base : Heap} {N ps : List Str} {qual : Str} {scope : Scope} {f : Addr} {cd : Value} {A : Around} {outer : List Env} {s s1 : Shared} {H : Hp} {E : XK} {us : List Value} {vs : List V}
    (S : bz N ps scope) (hd : A.handled = none) (e0 : vh P w K mg base A outer s H) (hl : vs.length = ps.length) (r : Vals vs us)
    (x : InCallC s s.heap.objs.size (bindL (envOfC qual scope s.heap.objs.size f cd).kindOf (ps.zip us) fun _ => none) (cellsFrom (s.heap.objs.size + 1) scope.names []) (bindC (envOfC qual scope s.heap.objs.size f cd).kindOf (ps.zip us) fun _ => none) s1) {n : Nat} (ht : 0 < n) :
    Inv (fG CX P w K mg base N qual scope f cd A outer s H E) [] (start N vs) H { s1 with toks := n } := by
  have hpl : ps.length ≤ N.length := by have := congrArg List.length S.pre; rw [List.length_take] at this; omega
  obtain ⟨h1, tk, rfl, hk⟩ := x.done
  have Ms : ∀ b : Addr, b ∉ (fG CX P w K mg base N qual scope f cd A outer s H E).ex := fun b z => absurd (show b ∈ ([] : List Addr) from z) (by simp)
  refine ⟨⟨e0.mod, S.kind, rfl, rfl, Nat.le_refl _, fun y z c h1 h2 => ?_, fun y hy => ?_, fun y c _ h => ?_, fun _ => hd, Around.frames_deeper e0.frames, .inr ⟨rfl, rfl⟩, fun b z => absurd z (Ms b), e0.bs, e0.I8, fun b _ _ => Ms b, fun b z => absurd z (Ms b), e0.uF, e0.JM⟩,
    ⟨rfl, ht⟩, e0.bare, Un.kept hk, ⟨_, x.toInCall.ns, fun i y v h1 h2 h3 => ?_⟩, fun y c h => ⟨_, x.cell y c h⟩, e0.hok.fresh (Nat.le_refl _), fun y c h => ?_, fun p hp => absurd (show p ∈ ([] : List (Addr × Obj)) from hp) (by simp), e0.hok.kept hk, ?_⟩
  · exact name_of_addr x.apart (PySem.mem_of_lookup h1) (PySem.mem_of_lookup h2)
  · have hy : scope.names.lookup y = some .cell ∨ scope.names.lookup y = some .free := hy
    rcases hy with hy | hy
    · exact Aq hy
    · exact absurd rfl (S.Kh _ (PySem.mem_of_lookup hy))
  · exact Nat.le_of_lt (x.above y c (PySem.mem_of_lookup h))
  · have hi : i < vs.length := by
      unfold start at h2
      by_cases hi : i < vs.length
      · exact hi
      · rw [List.getElem?_append_right (by simpa using hi)] at h2
        rw [List.getElem?_replicate] at h2
        split at h2 <;> cases h2
    have ha : vs[i]? = some v := by
      unfold start at h2
      rw [List.getElem?_append_left (by simpa using hi), List.getElem?_map] at h2
      cases e : vs[i]? with
      | none => rw [e] at h2; cases h2
      | some a => rw [e] at h2; cases h2; rfl
    obtain ⟨u, hu, rv⟩ := r.get ha
    have hp : ps[i]? = some y := by
      rw [← S.pre, List.getElem?_take_of_lt (by omega)]; exact h1
    have SI : ps.Nodup := by rw [← S.pre]; exact S.nd.sublist (List.take_sublist _ _)
    refine ⟨u, rv, ?_⟩
    rcases S.par y (List.mem_of_getElem? hp) with k | k
    · exact .inl ⟨k, xO SI hp hu k⟩
    · obtain ⟨c, e⟩ := Aq (n := s.heap.objs.size + 1) k
      refine .inr ⟨.inl k, c, e, ?_⟩
      have q := x.cell y c e
      rw [xP SI hp hu (by show scope.names.lookup y ≠ _; rw [k]; decide)] at q
      exact q
  · exact e0.hok.fresh (Nat.le_of_lt (x.above y c (PySem.mem_of_lookup h)))
  · unfold start
    show _ = N.length
    rw [List.length_append, List.length_map, List.length_replicate]
    omega
theorem Mt {CX : wQ} {P : Program} {w : World} {K : PySem.W.Frag} {mg : Str → Option Value} {base : Heap} {k : Nat} {f : Addr} {name qual : Str} {params : Arguments} {body : List Stmt} {scope : Scope} {dV kV doc pm cdv ct oc : Value} {an od : Option Addr}
    {osl : Array (Option Value)} {N ps : List Str} {sp : Sp} (lk : K.lookup f = some ⟨oc, od, .func (PySem.W.fnOf name qual params body scope dV kV doc pm an cdv ct), osl⟩) (hcd : PySem.W.codeIn K cdv qual = true) (S : bz N ps scope)
    (len : ∀ vs H Q E, sp vs H Q E → vs.length = ps.length)
    (hbody : ∀ (A : Around) (outer : List Env) (s : Shared) (H : Hp) (vs : List V) (Q : VK) (E : XK), gn k (A.deeper (envOfC qual scope s.heap.objs.size f cdv)) → sp vs H Q E →
      ∃ t, Cz (fG CX P w K mg base N qual scope f cdv A outer s H E) body t ∧ t { nx := fun _ H' => Q .gg H', rt := Q } (start N vs) H) :
    aR P w K mg base CX (k + 1) f (PySem.W.fnOf name qual params body scope dV kV doc pm an cdv ct) ps sp := by
  refine ⟨len, fun A outer s H args us vs Q E hr e0 htk hb r DF => ?_⟩
  have hl := len _ _ _ _ DF
  have KX : K.In s.heap := e0.mod.JI.keeps fun b o e => (e0.bs b o e).1
  have lim : s.heap.NoLimit := e0.mod.nolimit.keeps fun b o e => (e0.bs b o e).1
  have hkind : ∀ y ∈ ps.zip us, scope.names.lookup y.1 = some .local ∨ (scope.names.lookup y.1 = some .cell ∧ ((cellsFrom (s.heap.objs.size + 1) scope.names []).lookup y.1).isSome = true) := fun ⟨n, v⟩ hy => by
    rcases S.par n (List.of_mem_zip hy).1 with q | q
    · exact .inl q
    · exact .inr ⟨q, PySem.W.cellsFrom_some _ _ _ (.inl q)⟩
  refine codeAny_call_function hr.depth (KX _ _ lk) rfl S.co S.gen rfl (PySem.W.codeRec_of KX hcd) (hb _ _ _ _ ?_)
  refine nS htk (wpAny_newFunctionEnv_cells S.kind hkind fun env he s1 x => fun P8 => ?_)
  subst he
  refine ⟨lim.keeps x.toInCall.keep, codeAny_func ?_⟩
  obtain ⟨t, ht, hq⟩ := hbody A outer s H vs Q E (hr.deeper _) DF
  have I : Inv (fG CX P w K mg base N qual scope f cdv A outer s H E) [] (start N vs) H s1 := xQ S hr.hd e0 hl r x (n := s1.toks) P8
  refine wpAny_mono (ht [] s1 (start N vs) H _ I hq) (fun fl s' hs => ?_) fun e s' hs => hs
  have fin : ∀ {σ' : St} {H' : Hp} {v : V} {u : Value}, Inv (fG CX P w K mg base N qual scope f cdv A outer s H E) [] σ' H' s' → RelV v u → Q v H' → CE outer P w H s Q u s' :=
    fun {σ' H' v u} J rv q => ⟨v, H', J.os, J.bare, J.base, J.hok, rv, q⟩
  cases fl with
  | ret u =>
    obtain ⟨v, σ', H', J, rv, q⟩ := hs
    exact fin J rv q
  | next =>
    obtain ⟨σ', H', J, q⟩ := hs
    exact fin (v := V.gg) (u := Value.none) J rfl q
  | brk =>
    obtain ⟨_, _, _, q⟩ := hs
    exact False.elim q
  | cont =>
    obtain ⟨_, _, _, q⟩ := hs
    exact False.elim q
noncomputable def Mu (X : Cx) (body : List Stmt) (t : TS) : Prop := ∀ (s : Shared) (σ : St) (H : Hp) (D : Ends), Inv X [] σ H { s with toks := s.toks + 1 } → t D σ H → wpAny (model X.prog X.w) X.A (execs body X.env) (SP X [] D) X.xe s
theorem Kl {CX : wQ} {P : Program} {w : World} {K : PySem.W.Frag} {mg : Str → Option Value} {base : Heap} {k : Nat} {f : Addr} {name qual : Str} {params : Arguments} {body : List Stmt} {scope : Scope} {dV kV doc pm cdv ct oc : Value} {an od : Option Addr}
    {osl : Array (Option Value)} {N ps : List Str} {sp : Sp} (lk : K.lookup f = some ⟨oc, od, .func (PySem.W.fnOf name qual params body scope dV kV doc pm an cdv ct), osl⟩) (hcd : PySem.W.codeIn K cdv qual = true) (S : bz N ps scope)
    (len : ∀ vs H Q E, sp vs H Q E → vs.length = ps.length)
    (hbody : ∀ (A : Around) (outer : List Env) (s : Shared) (H : Hp) (vs : List V) (Q : VK) (E : XK), gn k (A.deeper (envOfC qual scope s.heap.objs.size f cdv)) → sp vs H Q E →
      ∃ t, Mu (fG CX P w K mg base N qual scope f cdv A outer s H E) body t ∧ t { nx := fun _ H' => Q .gg H', rt := Q } (start N vs) H) :
    pH P w K mg base CX (k + 1) f (PySem.W.fnOf name qual params body scope dV kV doc pm an cdv ct) ps sp := by
  refine ⟨len, fun A outer s H args us vs Q E hr e0 hb r DF => ?_⟩
  have hl := len _ _ _ _ DF
  have KX : K.In s.heap := e0.mod.JI.keeps fun b o e => (e0.bs b o e).1
  have lim : s.heap.NoLimit := e0.mod.nolimit.keeps fun b o e => (e0.bs b o e).1
  have hkind : ∀ y ∈ ps.zip us, scope.names.lookup y.1 = some .local ∨ (scope.names.lookup y.1 = some .cell ∧ ((cellsFrom (s.heap.objs.size + 1) scope.names []).lookup y.1).isSome = true) := fun ⟨n, v⟩ hy => by
    rcases S.par n (List.of_mem_zip hy).1 with q | q
    · exact .inl q
    · exact .inr ⟨q, PySem.W.cellsFrom_some _ _ _ (.inl q)⟩
  refine codeAny_call_function hr.depth (KX _ _ lk) rfl S.co S.gen rfl (PySem.W.codeRec_of KX hcd) (hb _ _ _ _ ?_)
  refine wpAny_newFunctionEnv_cells S.kind hkind fun env he s1 x => ?_
  subst he
  refine ⟨lim.keeps x.toInCall.keep, codeAny_func ?_⟩
  obtain ⟨t, ht, hq⟩ := hbody A outer s H vs Q E (hr.deeper _) DF
  have I : Inv (fG CX P w K mg base N qual scope f cdv A outer s H E) [] (start N vs) H { s1 with toks := s1.toks + 1 } := xQ S hr.hd e0 hl r x (Nat.succ_pos _)
  refine wpAny_mono (ht s1 (start N vs) H _ I hq) (fun fl s' hs => ?_) fun e s' hs => hs
  have fin : ∀ {σ' : St} {H' : Hp} {v : V} {u : Value}, Inv (fG CX P w K mg base N qual scope f cdv A outer s H E) [] σ' H' s' → RelV v u → Q v H' → CE outer P w H s Q u s' :=
    fun {σ' H' v u} J rv q => ⟨v, H', J.os, J.bare, J.base, J.hok, rv, q⟩
  cases fl with
  | ret u =>
    obtain ⟨v, σ', H', J, rv, q⟩ := hs
    exact fin J rv q
  | next =>
    obtain ⟨σ', H', J, q⟩ := hs
    exact fin (v := V.gg) (u := Value.none) J rfl q
  | brk =>
    obtain ⟨_, _, _, q⟩ := hs
    exact False.elim q
  | cont =>
    obtain ⟨_, _, _, q⟩ := hs
    exact False.elim q
end L2
namespace L2
open PySem PySem.Spec PyProof.Rows
section
variable {X : Cx} {x : Str} {p pos : Pos} {e : Expr} {es : List Expr} {t : TA} {id T : String} {r : List V → Hp → VK → Prop}
noncomputable def SJ (r : List V → Hp → VK → Prop) (t : TA) : TE := fun σ H Q => t σ H fun vs H1 => r vs H1 Q
theorem EO (hc : gB X (.builtin id) r) (hg : Gl X x) (hm : X.mg x = none) (hv : bootBuiltins x = some (.builtin id)) (ha : PA X (e :: es) t) (hn : x ≠ "__name__" := by decide) (hdb : (x == ("__debug__" : Str)) = false := by decide)
    (he : starEach (e :: es) X.env = (false, eval e X.env) :: starEach es X.env := by rfl) (hpl : (backTo pos (starEach es X.env)).any (·.1) = false := by rfl) : PE X (.Call (.Name x p) (e :: es) [] pos) (SJ r t) := by
  intro pins s σ H Q I h
  refine wpAny_Call_Name_kw (vc I hg hm hv ?_ hn hdb)
  exact PyProof.Rows.callWith_builtin1 (iB (ha pos pins s σ H _ I h) fun us s1 ⟨vs, H1, I1, r1, q1⟩ => hc pins s1 σ H1 vs us Q I1 r1 q1) he hpl
theorem DG (hc : gB X (.type T) r) (hg : Gl X x) (hm : X.mg x = none) (hv : bootBuiltins x = some (.type T)) (ha : PA X (e :: es) t) (hn : x ≠ "__name__" := by decide) (hdb : (x == ("__debug__" : Str)) = false := by decide)
    (he : starEach (e :: es) X.env = (false, eval e X.env) :: starEach es X.env := by rfl) (hpl : (backTo pos (starEach es X.env)).any (·.1) = false := by rfl) : PE X (.Call (.Name x p) (e :: es) [] pos) (SJ r t) := by
  intro pins s σ H Q I h
  refine wpAny_Call_Name_kw (vc I hg hm hv ?_ hn hdb)
  exact PyProof.Rows.callWith_type1 (iB (ha pos pins s σ H _ I h) fun us s1 ⟨vs, H1, I1, r1, q1⟩ => hc pins s1 σ H1 vs us Q I1 r1 q1) he hpl
end
end L2
namespace HT
open PySem PyProof.Rows
section
open PySem.SeqAt
open PySem.AutoSeq1 (wpAny_loadPart')
open PySem.MeetsSeq PySem.MeetsSeq2 PySem.MeetsSeq3
end
section
variable {prog : Program} {w : World} {A : Around} {E : Value → Shared → Prop} {s : Shared}
theorem Hv {t b : Addr} {vs ws : List Value} {Q : Value → Shared → Prop} (ht : IsTup s.heap t vs.toArray) (hb : IsTup s.heap b ws.toArray) (hv : vs ≠ [])
    (h1 : ws = [] → Q (.ref t) s) (h2 : ws ≠ [] → Q (.ref s.heap.objs.size) { s with heap := s.heap.push { cls := .type "tuple", data := .seq (vs ++ ws).toArray } })
    (hsz : vs.length + ws.length ≤ sizeLine) : wpAny (model prog w) A (binaryOp .Add (.ref t) (.ref b)) Q E s := by
  obtain ⟨⟨cls, dd, data, sl⟩, ho, hc, n, hd⟩ := id ht
  obtain ⟨⟨Mv, dd2, data2, sl2⟩, ho2, hc2, n2, hd2⟩ := id hb
  simp only at hc hd hc2 hd2
  subst hc hd hc2 hd2
  have e : vs.toArray ++ ws.toArray = (vs ++ ws).toArray := by simp
  by_cases hw : ws = []
  · exact concat_meets ⟨_, ho, rfl⟩ ⟨_, ho2, rfl⟩ noFill_tuple_add seq_tuple_add PySem.F.slot_tuple_add PySem.F.entry_tuple_add (PySem.F.args_tuple_add_2 _ _)
      (tuple_addW1 t b vs.toArray ws.toArray n n2 dd dd2 sl sl2 (by simpa using hv) (by simp [hw])) ⟨ho, ho2, h1 hw⟩
  · refine concat_meets ⟨_, ho, rfl⟩ ⟨_, ho2, rfl⟩ noFill_tuple_add seq_tuple_add PySem.F.slot_tuple_add PySem.F.entry_tuple_add (PySem.F.args_tuple_add_2 _ _)
      (tuple_addW2 t b vs.toArray ws.toArray n n2 dd dd2 sl sl2 (by simpa using hv) (by simpa using hw) (by rw [List.size_toArray, List.size_toArray]; exact hsz)) ⟨ho, ho2, ?_⟩
    rw [e]
    exact h2 hw
noncomputable def gk (n d : Nat) : Option Int → Nat
  | none => d
  | some v => if v < 0 then (v + (n : Int)).toNat else min v.toNat n
theorem ER (n d : Nat) : gk n d none = d := rfl
theorem Hw (n d k : Nat) : gk n d (some (k : Int)) = min k n := by
  show (if (k : Int) < 0 then ((k : Int) + (n : Int)).toNat else min (k : Int).toNat n) = min k n
  rw [if_neg (by omega), Int.toNat_natCast]
theorem Km (n d : Nat) (hd : d ≤ n) (o : Option Int) : gk n d o ≤ n := by
  cases o with
  | none => exact hd
  | some v =>
    show (if v < 0 then (v + (n : Int)).toNat else min v.toNat n) ≤ n
    by_cases hv : v < 0
    · rw [if_pos hv]; omega
    · rw [if_neg hv]; exact Nat.min_le_right _ _
theorem CC (v : Int) (n d : Nat) : (if v < 0 then max (v + (n : Int)) 0 else min v (n : Int)) = ((gk n d (some v) : Nat) : Int) := by
  show (if v < 0 then max (v + (n : Int)) 0 else min v (n : Int)) = (((if v < 0 then (v + (n : Int)).toNat else min v.toNat n) : Nat) : Int)
  by_cases hv : v < 0
  · simp only [if_pos hv]; omega
  · simp only [if_neg hv]; omega
theorem BC (lo hi : Option Int) (n : Nat) : Builtin.Slice.sliceAdjust lo hi 1 (n : Int) = (((gk n 0 lo : Nat) : Int), ((gk n n hi : Nat) : Int)) := by
  have h1 : ¬ ((1 : Int) < 0) := by omega
  unfold Builtin.Slice.sliceAdjust
  simp only [h1, if_false]
  refine Prod.ext ?_ ?_
  · cases lo with
    | none => rfl
    | some v => exact CC v n 0
  · cases hi with
    | none => rfl
    | some v => exact CC v n n
theorem BD (i j : Nat) : Builtin.Slice.slicePlaces (i : Int) (j : Int) 1 = j - i := by
  unfold Builtin.Slice.slicePlaces
  have h1 : (1 : Int) > 0 := by omega
  simp only [h1, if_true, Int.ediv_one]
  split <;> omega
theorem vj {v : Value} {o : Option Int} {Q : Option Int → Shared → Prop} (p : IsPart v o) (h : Q o s) : wpAny (model prog w) A (Builtin.Slice.slicePartIndex v) Q E s := by
  cases p with
  | none => exact slicePart_none h
  | int i t => exact slicePart_int h
theorem sI {sl : Addr} {vl vu : Value} {lo hi : Option Int} {n : Nat} {Q : Int × Int × Nat → Shared → Prop} (hs : s.heap.IsSliceOf sl vl vu .none) (pl : IsPart vl lo) (pu : IsPart vu hi)
    (h : Q (((gk n 0 lo : Nat) : Int), 1, gk n n hi - gk n 0 lo) s) : wpAny (model prog w) A (Builtin.Slice.sliceApplied (.ref sl) (pure (n : Int))) Q E s := by
  obtain ⟨os, hos, hcs, hds⟩ := id hs
  unfold Builtin.Slice.sliceApplied Builtin.Slice.sliceFields
  refine wpAny_bind (wpAny_bind (wpAny_field hos hds (x := vl) rfl (wpAny_bind (wpAny_field hos hds (x := vu) rfl (wpAny_bind (wpAny_field hos hds (x := .none) rfl (wpAny_pure ?_)))))))
  refine wpAny_bind (slicePart_none ?_)
  show wpAny _ _ (if ((1 : Int) == 0) = true then _ else _) _ _ s
  rw [if_neg (by decide)]
  refine wpAny_bind (vj pl (wpAny_bind (vj pu (wpAny_bind (wpAny_pure ?_)))))
  show wpAny _ _ (match Builtin.Slice.sliceAdjust lo hi 1 (n : Int) with | (lo, hi) => pure (lo, (1 : Int), Builtin.Slice.slicePlaces lo hi 1)) _ _ s
  rw [BC lo hi n]
  show wpAny _ _ (pure (((gk n 0 lo : Nat) : Int), (1 : Int), Builtin.Slice.slicePlaces ((gk n 0 lo : Nat) : Int) ((gk n n hi : Nat) : Int) 1)) _ _ s
  rw [BD]
  exact wpAny_pure h
theorem ES (xs : Array Value) (i k : Nat) : ((List.range k).filterMap fun (m : Nat) => xs[((i : Int) + (m : Int) * 1).toNat]?).toArray = ((xs.toList.drop i).take k).toArray := by
  have e : (fun (m : Nat) => xs[((i : Int) + (m : Int) * 1).toNat]?) = fun m => xs[i + m]? := by
    funext m
    have : ((i : Int) + (m : Int) * 1).toNat = i + m := by omega
    rw [this]
  rw [e]
  have := pick_run xs i k
  rw [List.filterMap_map] at this
  have e2 : ((fun x => xs[x]?) ∘ fun x => i + x) = fun m => xs[i + m]? := rfl
  rw [e2] at this
  rw [this]
theorem qN {t sl : Addr} {items : Array Value} {vl vu : Value} {lo hi : Option Int} {Q : Value → Shared → Prop} (ht : IsTup s.heap t items) (hs : s.heap.IsSliceOf sl vl vu .none) (pl : IsPart vl lo) (pu : IsPart vu hi)
    (hw : ¬ (gk items.size 0 lo = 0 ∧ gk items.size items.size hi = items.size))
    (h : Q (.ref s.heap.objs.size) { s with heap := s.heap.push { cls := .type "tuple", data := .seq ((items.toList.drop (gk items.size 0 lo)).take (gk items.size items.size hi - gk items.size 0 lo)).toArray } })
    (hsz : items.size ≤ sizeLine) : wpAny (model prog w) A (getItem (.ref t) (.ref sl)) Q E s := by
  have CD : sizeOk (.seq ((items.toList.drop (gk items.size 0 lo)).take (gk items.size items.size hi - gk items.size 0 lo)).toArray) := by
    show ((items.toList.drop (gk items.size 0 lo)).take (gk items.size items.size hi - gk items.size 0 lo)).toArray.size ≤ sizeLine
    rw [List.size_toArray, List.length_take, List.length_drop, Array.length_toList]
    omega
  have hj : gk items.size items.size hi ≤ items.size := Km _ _ (Nat.le_refl _) hi
  obtain ⟨os, hos, hcs, hds⟩ := id hs
  have UQ : s.TypeIs (.ref sl) "slice" := ⟨os, hos, hcs⟩
  unfold getItem
  try with_reducible refine wpAny_holding ?_
  first | refine wpAny_bind (wpAny_pure ?_) | skip
  refine wpAny_bind (wpAny_sequenceKey ht.typeIs (by decide) ?_)
  refine wpAny_bind (wpAny_callSpecial?_slot (name := Str.ofString "__getitem__") ht.typeIs PyProof.Rows.slot_tuple_getitem
    (wpAny_call_entry PyProof.Rows.slot_tuple_getitem ht.typeIs entry_tuple_getitem ?_ (args_tuple_getitem _ _)))
  show wpAny _ _ (Builtin.Tuple.tupleItemsOf (.ref t) >>= _) _ _ s
  refine wpAny_bind (tupleItemsOf_ ht ?_)
  refine wpAny_bind (wpAny_typeOf UQ ?_)
  rw [if_pos (by decide)]
  refine wpAny_bind (sI hs pl pu ?_)
  have hno : ¬ ((((gk items.size 0 lo : Nat) : Int) == 0 && (1 : Int) == 1 && (gk items.size items.size hi - gk items.size 0 lo) == items.size) = true) := by
    intro q
    rw [Bool.and_eq_true, Bool.and_eq_true] at q
    have q1 : ((gk items.size 0 lo : Nat) : Int) = 0 := eq_of_beq q.1.1
    have q2 : gk items.size items.size hi - gk items.size 0 lo = items.size := eq_of_beq q.2
    exact hw ⟨by omega, by omega⟩
  show wpAny _ _ (if (((gk items.size 0 lo : Nat) : Int) == 0 && (1 : Int) == 1 && (gk items.size items.size hi - gk items.size 0 lo) == items.size) = true then _ else _) _ _ s
  rw [if_neg hno, ES]
  first
    | exact wpAny_bind (m := Builtin.Tuple.tupleExact _) (wpAny_newObj_type (wpAny_pure ⟨_, rfl, wpAny_pure h⟩) CD)
    | exact wpAny_bind (m := Builtin.Tuple.tupleExact _) (wpAny_newObj_type (wpAny_bind (wpAny_pure (wpAny_pure ⟨_, rfl, wpAny_pure h⟩))) CD)
    | exact wpAny_bind (wpAny_bind (m := Builtin.Tuple.tupleExact _) (wpAny_newObj_type (wpAny_pure (wpAny_pure ⟨_, rfl, wpAny_pure h⟩)) CD))
    | exact wpAny_bind (wpAny_bind (m := Builtin.Tuple.tupleExact _) (wpAny_newObj_type (wpAny_pure ⟨_, rfl, wpAny_pure h⟩) CD))
end
end HT
namespace L2
open PySem PySem.Spec PyProof.Rows
noncomputable abbrev TO := St → Hp → (Option Int → Hp → Prop) → Prop
noncomputable def PO (X : Cx) (e : Option Expr) (t : TO) : Prop :=
  ∀ (pins : List (Addr × Obj)) (s : Shared) (σ : St) (H : Hp) (Q : Option Int → Hp → Prop), Inv X pins σ H s → t σ H Q →
    wpAny (model X.prog X.w) X.A (evalPart e X.env) (fun u s' => ∃ o H', Inv X pins σ H' s' ∧ IsPart u o ∧ Q o H') X.xe s
noncomputable def Hx : TO := fun _ H Q => Q none H
noncomputable def Mw (t : TE) : TO := fun σ H Q => t σ H fun x H1 => ∃ i, x = .int i ∧ Q (some i) H1
section
variable {X : Cx} {e : Expr} {te : TE} {lo hi : Option Expr} {tl th : TO} {pos p2 : Pos}
theorem Hy : PO X none Hx := by
  intro pins s σ H Q I h
  rw [evalPart_none]
  exact wpAny_pure ⟨none, H, I, .none, h⟩
theorem Hz (h : PE X e te) : PO X (some e) (Mw te) := by
  intro pins s σ H Q I hw
  rw [evalPart_some]
  refine iB (h pins s σ H _ I hw) fun u s1 ⟨x, H1, I1, r1, q1⟩ => ?_
  obtain ⟨i, rfl, q⟩ := q1
  obtain ⟨t, rfl⟩ := r1
  exact ⟨some i, H1, I1, .int i t, q⟩
noncomputable def Jc (X : Cx) (r : V → Option Int → Option Int → Hp → VK → Prop) : Prop :=
  ∀ (pins : List (Addr × Obj)) (s : Shared) (σ : St) (H : Hp) (x : V) (v vl vu : Value) (lo hi : Option Int) (sl : Addr) (Q : VK), Inv X pins σ H s → RelV x v → s.heap.IsSliceOf sl vl vu .none → IsPart vl lo → IsPart vu hi → r x lo hi H Q →
    ∃ T id, typeLookup (.type T) "__getitem__" = pure (some (.builtin id)) ∧ s.TypeIs v T ∧ wpAny (model X.prog X.w) X.A (getItem v (.ref sl)) (EP X pins σ Q) X.xe s
theorem Jc.or {r r' : V → Option Int → Option Int → Hp → VK → Prop} (h : Jc X r) (h' : Jc X r') : Jc X (fun x lo hi H Q => r x lo hi H Q ∨ r' x lo hi H Q) := by
  intro pins s σ H x v vl vu lo hi sl Q I rx hs pl pu q
  rcases q with q | q
  · exact h pins s σ H x v vl vu lo hi sl Q I rx hs pl pu q
  · exact h' pins s σ H x v vl vu lo hi sl Q I rx hs pl pu q
noncomputable def UR (r : V → Option Int → Option Int → Hp → VK → Prop) (te : TE) (tl th : TO) : TE := fun σ H Q => te σ H fun x H1 => tl σ H1 fun l H2 => th σ H2 fun u H3 => r x l u H3 Q
theorem ET {r : V → Option Int → Option Int → Hp → VK → Prop} (hr : Jc X r) (he : PE X e te) (hl : PO X lo tl) (hu : PO X hi th) : PE X (.Subscript e (.Slice lo hi none p2) pos) (UR r te tl th) := by
  intro pins s σ H Q I h
  refine Subscript_ (iB (he pins s σ H _ I h) fun v s1 ⟨x, H1, I1, r1, q1⟩ => ?_)
  refine wpAny_Slice (iB (hl pins s1 σ H1 _ I1 q1) fun vl s2 ⟨l, H2, I2, pl, q2⟩ => iB (hu pins s2 σ H2 _ I2 q2) fun vu s3 ⟨u, H3, I3, pu, q3⟩ => ?_)
  rw [evalPart_none]
  refine wpAny_pure ?_
  have I4 : Inv X pins σ H3 { s3 with heap := s3.heap.push { cls := .type "slice", data := .fields #[vl, vu, .none] } } := I3.kept (t' := s3.toks) fun b ob q => Heap.get?_push_of_some _ q
  obtain ⟨T, id, hT, ht, hg⟩ := hr pins { s3 with heap := s3.heap.push { cls := .type "slice", data := .fields #[vl, vu, .none] } } σ H3 x v vl vu l u s3.heap.objs.size Q I4 r1 (Heap.IsSliceOf.new ..) pl pu q3
  show wpAny (model X.prog X.w) X.A (subscriptTail e (.Slice lo hi none p2) v (.ref s3.heap.objs.size)) (EP X pins σ Q) X.xe { s3 with heap := s3.heap.push { cls := .type "slice", data := .fields #[vl, vu, .none] } }
  exact tail_any (ops := [.ref s3.heap.objs.size, v]) ht hT hg (by with_unfolding_all rfl)
noncomputable def Ar (xs : List V) (lo hi : Option Int) : List V := (xs.drop (HT.gk xs.length 0 lo)).take (HT.gk xs.length xs.length hi - HT.gk xs.length 0 lo)
theorem tR (xs : List V) (lo hi : Option Int) : (Ar xs lo hi).length ≤ xs.length := by
  unfold Ar
  rw [List.length_take, List.length_drop]
  omega
noncomputable def P9 (K : PySem.W.Frag) : V → Option Int → Option Int → Hp → VK → Prop := fun x lo hi H Q => ∃ a xs, x = .ref a ∧ tQ K H a xs ∧
  ¬ (HT.gk xs.length 0 lo = 0 ∧ HT.gk xs.length xs.length hi = xs.length) ∧ ∀ p, H p = none → Q (.ref p) (upd H p (.tup (Ar xs lo hi)))
theorem Kn : Jc X (P9 X.K) := by
  intro pins s σ H x v vl vu lo hi sl Q I rx hs pl pu h
  obtain ⟨a, xs, rfl, hx, hw, q⟩ := h
  cases rx
  obtain ⟨its, r, ht, hz⟩ := I.tuple hx
  have hlen : its.toArray.size = xs.length := by rw [List.size_toArray]; exact r.length.symm
  refine ⟨"tuple", _, PyProof.Rows.slot_tuple_getitem.lookup, ht.typeIs, ?_⟩
  refine HT.qN ht hs pl pu (by rw [hlen]; exact hw) ?_ (by rw [hlen]; exact hz)
  rw [hlen]
  refine ⟨.ref s.heap.objs.size, _, I.laid (t' := s.toks) (o := .tup (Ar xs lo hi)) (fun b ob q => Heap.get?_push_of_some _ q) (Nat.le_refl _) ?_, rfl, q _ (I.hok.fresh (Nat.le_refl _))⟩
  exact ⟨Nat.le_trans (tR xs lo hi) hz, _, (r.drop (HT.gk xs.length 0 lo)).take (HT.gk xs.length xs.length hi - HT.gk xs.length 0 lo), IsTup.new _ _⟩
noncomputable def Mx (K : PySem.W.Frag) : R2 := fun x y H Q => ∃ a b xs ys, x = .ref a ∧ y = .ref b ∧ tQ K H a xs ∧ tQ K H b ys ∧ xs ≠ [] ∧ xs.length + ys.length ≤ sizeLine ∧
  (ys = [] → Q (.ref a) H) ∧ (ys ≠ [] → ∀ p, H p = none → Q (.ref p) (upd H p (.tup (xs ++ ys))))
theorem Vals.yN {xs : List V} {us : List Value} (r : Vals xs us) : us = [] ↔ xs = [] := by
  cases r with
  | nil => simp
  | cons _ _ => simp
theorem HA : kT X (binaryOp .Add) (Mx X.K) := by
  intro pins s σ H x y v u Q I rx ry h
  obtain ⟨a, b, xs, ys, rfl, rfl, ha, hb, hx, hz, q1, q2⟩ := h
  cases rx
  cases ry
  obtain ⟨its, r1, p1, _⟩ := I.tuple ha
  obtain ⟨its2, r2, p2, _⟩ := I.tuple hb
  refine HT.Hv p1 p2 (fun z => hx (r1.yN.mp z)) (fun z => ⟨.ref a, H, I, rfl, q1 (r2.yN.mp z)⟩) (fun z => ?_) (by rw [← r1.length, ← r2.length]; exact hz)
  refine ⟨.ref s.heap.objs.size, _, I.laid (t' := s.toks) (o := .tup (xs ++ ys)) (fun b ob q => Heap.get?_push_of_some _ q) (Nat.le_refl _) ?_, rfl, q2 (fun w => z (r2.yN.mpr w)) _ (I.hok.fresh (Nat.le_refl _))⟩
  exact ⟨by rw [List.length_append]; exact hz, _, r1.append r2, IsTup.new _ _⟩
end
end L2
namespace L2
open PySem PySem.Spec PyProof.Rows
noncomputable def Jd (n : Nat) (i : Int) : Option Nat := if 0 ≤ i then (if i < n then some i.toNat else none) else if -(n : Int) ≤ i then some (i + n).toNat else none
noncomputable def i8 {α : Type} (xs : List α) (i : Int) : Option α := (Jd xs.length i).bind fun j => xs[j]?
theorem HB {n : Nat} {i : Int} {j : Nat} (h : Jd n i = some j) : seqIndex? i n = some j ∧ j < n ∧ -(n : Int) ≤ i ∧ i < n := by
  unfold Jd at h
  by_cases h0 : 0 ≤ i
  · rw [if_pos h0] at h
    by_cases h1 : i < n
    · rw [if_pos h1] at h
      have e : i.toNat = j := Option.some.inj h
      exact ⟨by rw [seqIndex_of h0 h1, e], by omega, by omega, h1⟩
    · rw [if_neg h1] at h; cases h
  · rw [if_neg h0] at h
    by_cases h1 : -(n : Int) ≤ i
    · rw [if_pos h1] at h
      have e : (i + n).toNat = j := Option.some.inj h
      exact ⟨by rw [seqIndex_neg (by omega) h1, e], by omega, h1, by omega⟩
    · rw [if_neg h1] at h; cases h
theorem yO {α : Type} {xs : List α} {i : Int} {v : α} (h : i8 xs i = some v) : ∃ j, seqIndex? i xs.length = some j ∧ xs[j]? = some v ∧ j < xs.length ∧ -(xs.length : Int) ≤ i ∧ i < xs.length := by
  unfold i8 at h
  cases e : Jd xs.length i with
  | none => rw [e] at h; cases h
  | some j =>
    rw [e] at h
    obtain ⟨h1, h2, h3, h4⟩ := HB e
    exact ⟨j, h1, h, h2, h3, h4⟩
theorem lS {α : Type} {xs : List α} {j : Nat} {v : α} (h : xs[j]? = some v) : i8 xs (j : Int) = some v := by
  have hj : j < xs.length := (List.getElem?_eq_some_iff.mp h).1
  have e : Jd xs.length (j : Int) = some j := by
    unfold Jd
    rw [if_pos (by omega), if_pos (by omega)]; simp
  unfold i8; rw [e]; exact h
noncomputable def uO (b : Expr) : Prop := ∀ o i, subscripted b false o i = operate [o, i] (getItem o i)
noncomputable def GY (X : Cx) (r : R2) : Prop :=
  ∀ (value slice : Expr) (pins : List (Addr × Obj)) (s : Shared) (σ : St) (H : Hp) (x y : V) (v u : Value) (Q : VK), Inv X pins σ H s → RelV x v → RelV y u → r x y H Q →
    subscripted slice false v u = operate [v, u] (getItem v u) → wpAny (model X.prog X.w) X.A (subscriptTail value slice v u) (EP X pins σ Q) X.xe s
noncomputable def DI (X : Cx) (id : String) (r : V → List V → Hp → VK → Prop) : Prop :=
  ∀ (pins : List (Addr × Obj)) (s : Shared) (σ : St) (H : Hp) (x : V) (xs : List V) (v : Value) (us : List Value) (Q : VK), Inv X pins σ H s → RelV x v → Vals xs us → r x xs H Q →
    wpAny (model X.prog X.w) X.A (call (.builtin id) (v :: us)) (EP X pins σ Q) X.xe s
section
variable {X : Cx} {a b : Expr} {ta tb : TE} {pos : Pos}
theorem GY.or {r r' : R2} (h : GY X r) (h' : GY X r') : GY X (fun x y H Q => r x y H Q ∨ r' x y H Q) := by
  intro value slice pins s σ H x y v u Q I rx ry q hs
  rcases q with q | q
  · exact h value slice pins s σ H x y v u Q I rx ry q hs
  · exact h' value slice pins s σ H x y v u Q I rx ry q hs
theorem DI.or {id : String} {r r' : V → List V → Hp → VK → Prop} (h : DI X id r) (h' : DI X id r') : DI X id (fun x xs H Q => r x xs H Q ∨ r' x xs H Q) := by
  intro pins s σ H x xs v us Q I rx rs q
  rcases q with q | q
  · exact h pins s σ H x xs v us Q I rx rs q
  · exact h' pins s σ H x xs v us Q I rx rs q
theorem My {r : R2} (hr : GY X r) (ha : PE X a ta) (hb : PE X b tb) (hs : uO b) : PE X (.Subscript a b pos) (Mg r ta tb) := by
  intro pins s σ H Q I h
  exact Subscript_ (J2 ha hb I h fun v u s2 x y H2 I2 rx ry q => hr a b pins s2 σ H2 x y v u Q I2 rx ry q (hs _ _))
noncomputable def Qa (K : PySem.W.Frag) : R2 := fun x y H Q => ∃ p xs i v, x = .ref p ∧ y = .int i ∧ tP K H p xs ∧ i8 xs i = some v ∧ Q v H
noncomputable def Qc (K : PySem.W.Frag) : R2 := fun x y H Q => ∃ p xs i v, x = .ref p ∧ y = .int i ∧ tQ K H p xs ∧ i8 xs i = some v ∧ Q v H
noncomputable def Qd : R2 := fun x y H Q => ∃ z i c, x = .str z ∧ y = .int i ∧ z.length ≤ sizeLine ∧ i8 z.cps.toList i = some c ∧ Q (.str ⟨#[c]⟩) H
theorem HC : GY X (Qa X.K) := by
  intro value slice pins s σ H x y v u Q I rx ry h hs
  obtain ⟨p, xs, i, z, rfl, rfl, hq, he, q⟩ := h
  cases rx
  obtain ⟨t, rfl⟩ := ry
  obtain ⟨its, r, pl, hz⟩ := I.list hq
  obtain ⟨j, h1, h2, h3, h4, h5⟩ := yO he
  obtain ⟨w, ew, rw'⟩ := r.get h2
  have hl := r.length
  have hn := sH
  have fin : EP X pins σ Q w s := ⟨z, H, I, rw', q⟩
  by_cases h0 : 0 ≤ i
  · have hj : i.toNat = j := by
      rw [seqIndex_of h0 h5] at h1
      exact Option.some.inj h1
    exact item_listR pl.isList h0 (by omega) (by rw [hj]; simpa using ew) fin hs
  · have hj : (i + (its.toArray.size : Int)).toNat = j := by
      rw [seqIndex_neg (by omega) h4] at h1
      rw [List.size_toArray, ← hl]
      exact Option.some.inj h1
    exact subscriptTail_builtinR (x := w) pl.isList.typeIs slot_list_getitem.lookup
      (wpAny_getItem_list_neg (Q := fun r s' => r = w ∧ EP X pins σ Q r s') pl.isList (by omega) (by rw [List.size_toArray] <;> omega) (by omega) (by rw [hj]; simpa using ew) ⟨rfl, fin⟩) hs
theorem Ko : GY X (Qc X.K) := by
  intro value slice pins s σ H x y v u Q I rx ry h hs
  obtain ⟨p, xs, i, z, rfl, rfl, hq, he, q⟩ := h
  cases rx
  obtain ⟨t, rfl⟩ := ry
  obtain ⟨its, r, pl, hz⟩ := I.tuple hq
  obtain ⟨j, h1, h2, h3, h4, h5⟩ := yO he
  obtain ⟨w, ew, rw'⟩ := r.get h2
  have hl := r.length
  have hn := sH
  have fin : EP X pins σ Q w s := ⟨z, H, I, rw', q⟩
  exact subscriptTail_builtinR (x := w) pl.typeIs slot_tuple_getitem.lookup
    (getItem_tuple (j := j) (Q := fun r s' => r = w ∧ EP X pins σ Q r s') pl (by omega) (by omega) (by rw [List.size_toArray, ← hl]; exact h1) (by simpa using ew) ⟨rfl, fin⟩) hs
theorem Kp : GY X Qd := by
  intro value slice pins s σ H x y v u Q I rx ry h hs
  obtain ⟨z, i, c, rfl, rfl, hz, he, q⟩ := h
  obtain ⟨t, rfl⟩ := rx
  obtain ⟨t', rfl⟩ := ry
  obtain ⟨j, h1, h2, h3, h4, h5⟩ := yO he
  have hl : z.cps.toList.length = z.length := by simp [Str.length]
  rw [hl] at h1 h4 h5
  have hn := sH
  exact tail_any (typeIs_str s z t) slot_str_getitem.lookup (getItem_str (c := c) (by
    have e1 : decide (i < -(2 ^ 63 : Int)) = false := decide_eq_false (by omega)
    have e2 : decide (i ≥ 2 ^ 63) = false := decide_eq_false (by omega)
    rw [e1, e2, Bool.or_false]) (by rw [h1]; simpa using h2) ⟨.str ⟨#[c]⟩, H, I.tok _, ⟨_, rfl⟩, q⟩) hs
theorem yP (lo hi : Option Int) (n : Nat) : (sliceBounds lo hi none n).1 = ((HT.gk n 0 lo : Nat) : Int) ∧ (sliceBounds lo hi none n).2.1 = ((HT.gk n n hi : Nat) : Int) ∧ (sliceBounds lo hi none n).2.2 = 1 := by
  refine ⟨?_, ?_, rfl⟩
  · cases lo with
    | none => simp [sliceBounds, HT.gk]
    | some i =>
      simp only [sliceBounds, HT.gk, Option.getD_none, show (1 : Int) > 0 by decide, if_true]
      by_cases h : i < 0
      · simp only [h, if_true] <;> omega
      · simp only [h, if_false] <;> omega
  · cases hi with
    | none => simp [sliceBounds, HT.gk]
    | some i =>
      simp only [sliceBounds, HT.gk, Option.getD_none, show (1 : Int) > 0 by decide, if_true]
      by_cases h : i < 0
      · simp only [h, if_true] <;> omega
      · simp only [h, if_false] <;> omega
theorem wR (its : List Value) (lo hi : Option Int) : slicePick its.toArray lo hi none = ((its.drop (HT.gk its.length 0 lo)).take (HT.gk its.length its.length hi - HT.gk its.length 0 lo)).toArray := by
  obtain ⟨h1, h2, h3⟩ := yP lo hi its.toArray.size
  unfold slicePick
  rw [h1, h2, h3]
  simp only [sliceRange_one, pick_run, List.size_toArray] <;> rfl
noncomputable def Qe (K : PySem.W.Frag) : V → Option Int → Option Int → Hp → VK → Prop := fun x lo hi H Q => ∃ a xs, x = .ref a ∧ tP K H a xs ∧ ∀ p, H p = none → Q (.ref p) (upd H p (.lst (Ar xs lo hi)))
theorem HE : Jc X (Qe X.K) := by
  intro pins s σ H x v vl vu lo hi sl Q I rx hs pl pu h
  obtain ⟨a, xs, rfl, hx, q⟩ := h
  cases rx
  obtain ⟨its, r, ht, hz⟩ := I.list hx
  have hlen := r.length
  refine ⟨"list", _, slot_list_getitem.lookup, ht.isList.typeIs, ?_⟩
  refine wpAny_getItem_list_slice ht.isList hs pl pu .none (by simp) ?_ (by rw [List.size_toArray] <;> omega)
  rw [wR, ← hlen]
  refine ⟨.ref s.heap.objs.size, _, I.laid (t' := s.toks) (o := .lst (Ar xs lo hi)) (fun b ob q => Heap.get?_push_of_some _ q) (Nat.le_refl _) ?_, rfl, q _ (I.hok.fresh (Nat.le_refl _))⟩
  exact ⟨Nat.le_trans (tR xs lo hi) hz, _, 0, (r.drop (HT.gk xs.length 0 lo)).take (HT.gk xs.length xs.length hi - HT.gk xs.length 0 lo), Heap.get?_push_size _ rfl⟩
theorem qO : gB X (.builtin "len") (fun xs H Q => ∃ p ys, xs = [.ref p] ∧ (tP X.K H p ys ∨ tQ X.K H p ys) ∧ Q (.int ys.length) H) := by
  intro pins s σ H xs us Q I r h
  obtain ⟨p, ys, rfl, hq, q⟩ := h
  obtain ⟨u, rfl, rx⟩ := vals1 r
  cases rx
  have hn := sH
  rcases hq with hq | hq
  · obtain ⟨its, r', pl, hz⟩ := I.list hq
    have hlen := r'.length
    exact Calls.call_len_list pl.isList (by simp only [List.size_toArray] <;> omega) ⟨.int ys.length, H, I.tok _, ⟨s.toks + 1, by rw [List.size_toArray, hlen]⟩, q⟩
  · obtain ⟨its, r', pl, hz⟩ := I.tuple hq
    have hlen := r'.length
    exact len_tuple pl (by simp only [List.size_toArray] <;> omega) ⟨.int ys.length, H, I.tok _, ⟨s.toks + 1, by rw [List.size_toArray, hlen]⟩, q⟩
theorem yQ : gB X (.builtin "len") (fun xs H Q => ∃ z, xs = [.str z] ∧ z.length ≤ sizeLine ∧ Q (.int z.length) H) := by
  intro pins s σ H xs us Q I r h
  obtain ⟨z, rfl, hz, q⟩ := h
  obtain ⟨u, rfl, t, rfl⟩ := vals1 r
  have hn := sH
  exact len_str (by omega) ⟨.int z.length, H, I.tok _, ⟨_, rfl⟩, q⟩
theorem gB.or {f : Value} {r r' : List V → Hp → VK → Prop} (h : gB X f r) (h' : gB X f r') : gB X f (fun xs H Q => r xs H Q ∨ r' xs H Q) := by
  intro pins s σ H xs us Q I rs q
  rcases q with q | q
  · exact h pins s σ H xs us Q I rs q
  · exact h' pins s σ H xs us Q I rs q
theorem pI : gB X (.type "tuple") (fun xs H Q => ∃ p ys, xs = [.ref p] ∧ ((tP X.K H p ys ∧ ∀ l, H l = none → Q (.ref l) (upd H l (.tup ys))) ∨ (tQ X.K H p ys ∧ Q (.ref p) H))) := by
  intro pins s σ H xs us Q I r h
  obtain ⟨p, ys, rfl, h⟩ := h
  obtain ⟨u, rfl, rx⟩ := vals1 r
  cases rx
  rcases h with ⟨hq, q⟩ | ⟨hq, q⟩
  · obtain ⟨its, r', pl, hz⟩ := I.list hq
    have hlen := r'.length
    refine call_tuple_list pl.isList (fun h' kp => ?_) (by simp only [List.size_toArray] <;> omega)
    have I1 : Inv X pins σ H { s with heap := h' } := I.kept (t' := s.toks) kp
    have I2 : Inv X pins σ (upd H h'.objs.size (.tup ys)) { s with heap := h'.push { cls := .type "tuple", data := .seq its.toArray } } :=
      I1.laid (t' := s.toks) (fun b o e => Heap.get?_push_of_some _ e) (Nat.le_refl _) (show kR X.prog X.w _ _ _ (.tup ys) from ⟨hz, its, r', IsTup.new _ _⟩)
    exact ⟨.ref h'.objs.size, _, I2, rfl, q _ (I1.hok.fresh (Nat.le_refl _))⟩
  · obtain ⟨its, r', pl, hz⟩ := I.tuple hq
    exact call_tuple_same pl ⟨.ref p, H, I, rfl, q⟩
noncomputable def O5 (K : PySem.W.Frag) (T : String) (x : V) (H : Hp) : Prop := match x with
  | .str _ => T = "str"
  | .int _ => T = "int"
  | .ref p => (T = "list" ∧ ∃ xs, tP K H p xs) ∨ (T = "tuple" ∧ ∃ o, K.lookup p = some o ∧ o.cls = .type "tuple" ∧ o.dict = none) ∨
      (T = "dict" ∧ ((∃ kvs, H p = some (.dK kvs)) ∨ ∃ kvs, H p = some (.dT kvs))) ∨ (T = "set" ∧ ∃ S n, H p = some (.set S n))
  | _ => False
theorem yR {pins : List (Addr × Obj)} {σ : St} {H : Hp} {s : Shared} {T : String} {x : V} {v : Value} (I : Inv X pins σ H s) (r : RelV x v) (ty : O5 X.K T x H) :
    s.TypeIs v T ∧ ∀ a, v = .ref a → ∃ ob, s.heap.get? a = some ob ∧ ob.dict = none := by
  cases x with
  | str z =>
    obtain ⟨t, rfl⟩ := r
    cases (show T = "str" from ty)
    exact ⟨typeIs_str s z t, fun _ e => nomatch e⟩
  | int i =>
    obtain ⟨t, rfl⟩ := r
    cases (show T = "int" from ty)
    exact ⟨typeIs_int s i t, fun _ e => nomatch e⟩
  | ref p =>
    cases r
    rcases ty with ⟨rfl, xs, hq⟩ | ⟨rfl, o, hk, hc, hd⟩ | ⟨rfl, hk⟩ | ⟨rfl, S, n, hk⟩
    · obtain ⟨its, _, pl, _⟩ := I.list hq
      refine ⟨pl.isList.typeIs, fun a e => ?_⟩
      cases e
      obtain ⟨o, n, e, c, hd, _⟩ := pl
      exact ⟨o, e, hd⟩
    · refine ⟨⟨o, I.Ak p o hk, hc⟩, fun a e => ?_⟩
      cases e
      exact ⟨o, I.Ak _ o hk, hd⟩
    · have z : ∃ o, s.heap.get? p = some o ∧ o.ExactDict := by
        rcases hk with ⟨kvs, hk⟩ | ⟨kvs, hk⟩
        · obtain ⟨_, _, _, _, o, _, _, e, ex, _⟩ := I.hok p _ hk
          exact ⟨o, e, ex⟩
        · obtain ⟨_, _, _, _, o, _, _, e, ex, _⟩ := I.hok p _ hk
          exact ⟨o, e, ex⟩
      obtain ⟨o, e, ex⟩ := z
      refine ⟨⟨o, e, ex.1⟩, fun a e2 => ?_⟩
      cases e2
      exact ⟨o, e, ex.2.1⟩
    · obtain ⟨o, _, _, _, e, ex, _⟩ := I.hok p _ hk
      refine ⟨⟨o, e, ex.1⟩, fun a e2 => ?_⟩
      cases e2
      exact ⟨o, e, ex.2.1⟩
  | _ => exact False.elim ty
noncomputable def Qf (K : PySem.W.Frag) (T : String) (r : V → List V → Hp → VK → Prop) (to : TE) : TE := fun σ H Q => to σ H fun x H1 => O5 K T x H1 ∧ r x [] H1 Q
noncomputable def US (K : PySem.W.Frag) (T : String) (r : V → List V → Hp → VK → Prop) (to : TE) (t : TA) : TE := fun σ H Q => to σ H fun x H1 => O5 K T x H1 ∧ t σ H1 fun xs H2 => r x xs H2 Q
variable {o e : Expr} {es : List Expr} {to : TE} {t : TA} {name : Str} {apos cpos : Pos} {T id : String} {r : V → List V → Hp → VK → Prop}
theorem Kq (pa : PlainAttrs T) (slot : Slot T name id) (hty : typeOf (.builtin id) = pure (.type "method_descriptor")) (hm : DI X id r) (ho : PE X o to)
    (hbase : attributeBase o name X.env (eval o X.env) = eval o X.env := by rfl) (hline : (apos.endLine == cpos.line) = true := by rfl) : PE X (.Call (.Attribute o name apos) [] [] cpos) (Qf X.K T r to) := by
  intro pins s σ H Q I h
  refine wpAny_Call_method0_late hbase hline (iB (ho pins s σ H _ I h) fun v s1 ⟨x, H1, I1, r1, ty, q1⟩ => ?_)
  obtain ⟨h1, h2⟩ := yR I1 r1 ty
  exact ⟨T, id, pa, slot, hty, h1, h2, Calls.callWith_builtin rfl (PySem.evalArgs_none (hm pins s1 σ H1 x [] v [] Q I1 r1 .nil q1))⟩
theorem Mz (pa : PlainAttrs T) (slot : Slot T name id) (hty : typeOf (.builtin id) = pure (.type "method_descriptor")) (hm : DI X id r) (ho : PE X o to) (ha : PA X (e :: es) t)
    (hbase : attributeBase o name X.env (eval o X.env) = eval o X.env := by rfl)
    (hfew : ((backTo cpos (starEach (e :: es) X.env)).all (fun x => !x.1) && (backToKw cpos (keywordEach [] X.env)).all (fun x => x.1.isSome)
      && decide ((e :: es).length + ([] : List Keyword).length + (if ([] : List Keyword).isEmpty then 0 else 1) < 30)) = true := by rfl)
    (hline : (apos.endLine == cpos.line) = true := by rfl) (hs : starEach (e :: es) X.env = (false, eval e X.env) :: starEach es X.env := by rfl) (hplain : (backTo cpos (starEach es X.env)).any (·.1) = false := by rfl) :
    PE X (.Call (.Attribute o name apos) (e :: es) [] cpos) (US X.K T r to t) := by
  intro pins s σ H Q I h
  refine wpAny_Call_method_late hbase hfew hline rfl (iB (ho pins s σ H _ I h) fun v s1 ⟨x, H1, I1, r1, ty, q1⟩ => ?_)
  obtain ⟨h1, h2⟩ := yR I1 r1 ty
  refine ⟨T, id, pa, slot, hty, h1, h2, ?_⟩
  have hA := ha cpos pins s1 σ H1 _ I1 q1
  rw [hs] at hA ⊢
  refine Calls.callWith_builtin (by show (false || (backTo cpos (starEach es X.env)).any (·.1)) = false; rw [hplain] <;> rfl) (Calls.evalArgs_plain ?_)
  exact iB hA fun us s2 ⟨vs, H2, I2, r2, q2⟩ => hm pins s2 σ H2 x vs v us Q I2 r1 r2 q2
end
end L2
namespace L2
open PySem PySem.Spec PyProof.Rows
noncomputable def SK (X : Cx) (id : String) (r : V → List V → Hp → VK → Prop) : Prop :=
  ∀ (pins : List (Addr × Obj)) (s : Shared) (σ : St) (H : Hp) (x : V) (xs : List V) (v : Value) (us : List Value) (Q : VK), Inv X pins σ H s → RelV x v → Vals xs us → r x xs H Q →
    wpAny (model X.prog X.w) X.A (call (.builtin id) (v :: us)) (EP X pins σ Q) X.xe s
theorem Vals.one : ∀ {x : V} {us : List Value}, Vals [x] us → ∃ u, us = [u] ∧ RelV x u
  | _, _, .cons r .nil => ⟨_, rfl, r⟩
theorem Vals.two : ∀ {x y : V} {us : List Value}, Vals [x, y] us → ∃ u v, us = [u, v] ∧ RelV x u ∧ RelV y v
  | _, _, _, .cons r (.cons q .nil) => ⟨_, _, rfl, r, q⟩
theorem Vals.zero : ∀ {us : List Value}, Vals [] us → us = []
  | _, .nil => rfl
theorem Vals.dropLast {xs : List V} {us : List Value} (h : Vals xs us) : Vals xs.dropLast us.dropLast := by
  induction h with
  | nil => exact .nil
  | cons r t ih =>
    cases t with
    | nil => exact .nil
    | cons q t' => exact .cons r ih
theorem Vals.eraseIdx : ∀ {xs : List V} {us : List Value} (i : Nat), Vals xs us → Vals (xs.eraseIdx i) (us.eraseIdx i)
  | _, _, _, .nil => .nil
  | _, _, 0, .cons _ t => t
  | _, _, i + 1, .cons r t => .cons r (Vals.eraseIdx i t)
theorem Vals.reverse {xs : List V} {us : List Value} (h : Vals xs us) : Vals xs.reverse us.reverse := by
  induction h with
  | nil => exact .nil
  | cons r t ih => rw [List.reverse_cons, List.reverse_cons]; exact Vals.append ih (.cons r .nil)
theorem Vals.rep {xs : List V} {us : List Value} (h : Vals xs us) : ∀ k : Nat, Vals (List.replicate k xs).flatten (List.replicate k us).flatten
  | 0 => .nil
  | k + 1 => by
    rw [List.replicate_succ, List.replicate_succ, List.flatten_cons, List.flatten_cons]
    exact Vals.append h (Vals.rep h k)
theorem BE {α : Type} (l : List α) : l.eraseIdx (l.length - 1) = l.dropLast := by
  induction l with
  | nil => rfl
  | cons a r ih =>
    cases r with
    | nil => rfl
    | cons b r =>
      have e : (a :: b :: r).length - 1 = ((b :: r).length - 1) + 1 := by
        have h1 : (a :: b :: r).length = r.length + 2 := rfl
        have h2 : (b :: r).length = r.length + 1 := rfl
        omega
      rw [e, List.eraseIdx_cons_succ, ih]
      all_goals rfl
section
variable {X : Cx} {pins : List (Addr × Obj)} {σ : St} {H : Hp} {s : Shared} {l b : Addr} {xs ys zs : List V}
theorem Inv.MA {its its' : List Value} {n : Nat} {f : Array Value → Array Value} {t' : Nat} (I : Inv X pins σ H s) (hH : H l = some (.lst xs))
    (e : s.heap.get? l = some { cls := .type "list", data := .seq its.toArray n }) (hf : f its.toArray = its'.toArray) (hv : Vals ys its') (hz : ys.length ≤ sizeLine) (ht : 0 < t' := by first | exact Nat.succ_pos _ | exact (Inv.os (by assumption)).2 | assumption | omega) :
    Inv X pins σ (upd H l (.lst ys)) { s with heap := s.heap.update l (Obj.mapSeq f), toks := t' } := by
  have q := PySem.IsL.update e f
  rw [hf] at q
  refine I.write (x := l) (e := l) (by rw [hH]; exact trivial) (.inl rfl) (fun b' u hb hu => (Heap.get?_update_other s.heap (Obj.mapSeq f) (Ne.symm hb)).trans hu) ⟨_, q⟩ ?_
  exact ⟨hz, its', _, hv, q⟩
theorem Inv.Qg {its : List Value} {t' : Nat} (I : Inv X pins σ H s) (hv : Vals ys its) (hz : ys.length ≤ sizeLine) (ht : 0 < t' := by first | exact Nat.succ_pos _ | exact (Inv.os (by assumption)).2 | assumption | omega) :
    Inv X pins σ (upd H s.heap.objs.size (.lst ys)) { s with heap := s.heap.push { cls := .type "list", data := .seq its.toArray }, toks := t' } :=
  I.laid (fun _ _ q => Heap.get?_push_of_some _ q) (Nat.le_refl _) ⟨hz, its, 0, hv, Heap.get?_push_size _ rfl⟩
theorem Inv.fresh (I : Inv X pins σ H s) : H s.heap.objs.size = none := I.hok.fresh (Nat.le_refl _)
theorem Inv.MB (I : Inv X pins σ H s) (hH : H l = some (.lst xs)) : xs.length ≤ sizeLine ∧ ∃ (its : List Value) (n : Nat), Vals xs its ∧ xs.length = its.length ∧ s.heap.get? l = some { cls := .type "list", data := .seq its.toArray n } := by
  obtain ⟨z, its, n, r, e⟩ := I.hok l _ hH
  exact ⟨z, its, n, r, r.length, e⟩
end
section
variable {X : Cx}
noncomputable def HF : V → List V → Hp → VK → Prop := fun x vs H Q => ∃ l xs y, x = .ref l ∧ vs = [y] ∧ H l = some (.lst xs) ∧ xs.length < sizeLine ∧ Q .gg (upd H l (.lst (xs ++ [y])))
theorem xR : SK X "list.append" HF := by
  intro pins s σ H x vs v us Q I rx rv h
  obtain ⟨l, xs, y, rfl, rfl, hH, hz, q⟩ := h
  cases rx
  obtain ⟨u, rfl, ru⟩ := rv.one
  obtain ⟨z, its, n, r, hl, e⟩ := I.MB hH
  refine call_meets F.slot_list_append ⟨_, e, rfl⟩ F.entry_list_append (F.args_list_append_2 _ _) (PySem.list_append l its.toArray n u (by rw [List.size_toArray]; omega)) ⟨e, ?_⟩
  refine ⟨.gg, _, I.MA (its' := its ++ [u]) hH e (by simp) (r.append (.cons ru .nil)) ?_, rfl, q⟩
  rw [List.length_append, List.length_singleton]
  omega
noncomputable def Qh : V → List V → Hp → VK → Prop := fun x vs H Q => ∃ l xs y, x = .ref l ∧ vs = [] ∧ H l = some (.lst xs) ∧ xs[xs.length - 1]? = some y ∧ Q y (upd H l (.lst xs.dropLast))
theorem Kr : SK X "list.pop" Qh := by
  intro pins s σ H x vs v us Q I rx rv h
  obtain ⟨l, xs, y, rfl, rfl, hH, hy, q⟩ := h
  cases rx
  have Qi := rv.zero
  subst Qi
  obtain ⟨z, its, n, r, hl, e⟩ := I.MB hH
  obtain ⟨u, hu, ru⟩ := r.get hy
  have hy' : its.toArray[its.toArray.size - 1]? = some u := by
    show its.toArray[its.length - 1]? = some u
    rw [← Array.getElem?_toList, ← hl]
    exact hu
  refine call_meets F.slot_list_pop ⟨_, e, rfl⟩ F.entry_list_pop (F.args_list_pop_1 _) (MeetsSeq.list_pop_last l its.toArray n u hy' (by rw [List.size_toArray]; omega)) ⟨e, ?_⟩
  refine ⟨y, _, I.MA (its' := its.dropLast) hH e ?_ r.dropLast ?_, ru, q⟩
  · show its.toArray.eraseIdxIfInBounds (its.toArray.size - 1) = its.dropLast.toArray
    rw [List.size_toArray, List.eraseIdxIfInBounds_toArray, BE]
  · rw [List.length_dropLast]
    omega
end
section
variable {prog : Program} {w : World} {A : Around} {E : Value → Shared → Prop} {s : Shared}
end
section
variable {X : Cx}
end
end L2
namespace SM
open PySem PySem.W PySem.Calls PyProof.Rows
theorem uG {P : Params} {h : Heap} : ∀ (ns : List Int) (vs : List Value), WellAll P h vs (ns.map WData.int) → IntsAre vs ns := by
  intro ns
  induction ns with
  | nil =>
    intro vs w
    rw [List.map_nil] at w
    cases w
    exact .nil
  | cons n ns ih =>
    intro vs w
    rw [List.map_cons] at w
    cases w with
    | cons a b =>
      cases a
      exact .cons _ _ (ih _ b)
theorem DJ {l : OpenLaw} {n : Nat} (hn : l.most = some n) {P : Params} {h : Heap} {args : List WData} {vals : List Value}
    (hpre : l.row.toRowW.claim.pre args = true) (hwl : WellAll P h vals args) :
    ∃ a vs ns, vals = [Value.ref a] ∧ args = [WData.list (ns.map WData.int)] ∧ h.get? a = some { cls := .type "list", data := .seq vs.toArray } ∧ IntsAre vs ns ∧ ns.length ≤ n := by
  have hsh : WShape.hasAll [] args [.list .int] = true := (pre_splitW hpre).1
  have hc : l.pre.holds [] { args := args } = true := (pre_splitW hpre).2
  obtain ⟨d, r, rfl, h1, h2⟩ := hasAllW_cons hsh
  obtain rfl := hasAllW_nil h2
  obtain ⟨xs, rfl, h3⟩ := hasW_list h1
  obtain ⟨ns, rfl⟩ := items_int h3
  have hlen : ns.length ≤ n := by
    unfold OpenLaw.pre at hc
    have h4 : (WTm.not (.lt (.lit (.int (n : Int))) (.len (.arg 0)))).holds [] { args := [.list (ns.map .int)] } = true := by
      have h4 := (holds_andW hc).1
      rw [hn] at h4
      exact h4
    have h5 := condW_of h4 (w_not (w_lt w_lit (w_len_list (w_arg rfl))))
    rw [List.length_map] at h5
    refine Nat.le_of_not_lt fun q => ?_
    have q' : (n : Int) < ((ns.length : Nat) : Int) := by omega
    first
      | (rw [decide_eq_true q'] at h5; exact absurd h5 (by decide))
      | (simp at h5; omega)
  cases hwl with
  | cons w1 w2 =>
    cases w2
    cases w1 with
    | list ho hall => exact ⟨_, _, ns, rfl, rfl, ho, uG ns _ hall, hlen⟩
theorem DK (l : OpenLaw) (args : List WData) : l.row.toRowW.claim.post args (.bool true) args = true :=
  postW_of (r := l.row.toRowW) (X := (true == true))
    (show WShape.has [] (.bool true) .bool = true by first | rfl | decide | simp [WShape.has, WShape.arms, WShape.armsAll])
    (show (WTm.eq .res (.lit (.bool true))).value [] { args := args, res := some (.bool true), after := args } = some (.bool (true == true)) from w_eq_bool (w_res rfl) w_lit) rfl
theorem As {l : OpenLaw} {n : Nat} {q : Program} {loose : List Str} {XP : (Str → Option Value) → Heap → Prop} {YP : World → Heap → Prop} {d : DefRec}
    (hn : l.most = some n) (hdf : d.params.defaults = [])
    (call : ∀ (w : World) (s₀ s₁ : Shared) (mg mb : Str → Option Value) (fa : Addr) (o : Obj) (pm cd doc : Value) (a : Addr) (vs : List Value) (ns : List Int),
      Ground q loose [] XP w s₀ mg mb s₁.heap → YP w s₁.heap →
      s₁.heap.get? fa = some o → o.data = .func (docDef d.name d.params d.body d.scope pm cd doc) → s₁.heap.CodeRec cd d.name → mg d.name = some (.ref fa) →
      s₁.heap.get? a = some { cls := .type "list", data := .seq vs.toArray } → IntsAre vs ns → ns.length ≤ n → s₁.gens = #[] →
      codeAny (model l.prog w) callerA (.call (.ref fa) ⟨[.ref a], []⟩) (fun r s' => r = .ok (.ret (.bool true)) ∧ OldK s₁.heap s'.heap ∧ s'.os = s₁.os ∧ AllBare s'.gens) s₁) :
    WalkO q loose XP YP l.row.toRowW d [] (fun f vs => PySem.call f vs) := by
  intro w s₀ s₁ mg mb G Y fa o pm cd doc dV kV ho hd hcd hD hmg hg args vals as hpre hlay hrd hwl hlo
  obtain rfl : dV = .none := Dflts.none hD hdf
  obtain rfl : kV = .none := Dflts.noKw hD
  obtain ⟨a, vs, ns, rfl, rfl, hobj, hints, hlen⟩ := DJ hn hpre hwl
  refine enter_call (codeAny_mono (call w s₀ s₁ mg mb fa o pm cd doc a vs ns G Y ho (fd_plain hd) hcd hmg hobj hints hlen hg) fun r s' hq => ?_)
  obtain ⟨rfl, h2, h3, h4⟩ := hq
  exact ⟨.inl ⟨.bool true, .bool true, [], rfl, fun _ => rfl, .bool true, DK l _, fun _ => ⟨List.Pairwise.nil, fun _ hm => (nomatch hm)⟩⟩, h2, h3, h4⟩
section
variable {prog : Program} {w : World} {A : Around} {E : Value → Shared → Prop} {s : Shared} {K : Frag}
end
end SM
namespace L2
open PySem PySem.Spec PyProof.Rows
theorem xS : ∀ {vs : List Value} {ns : List Int}, IntsAre vs ns → Vals (ns.map V.int) vs
  | _, _, .nil => .nil
  | _, _, .cons n t h => .cons ⟨t, rfl⟩ (xS h)
noncomputable def HG (H : Hp) : Prop := ∀ b, H b = none ∨ ∃ o xs, H b = some (.nc o (.lst xs))
theorem EU {P : Program} {w : World} {K : PySem.W.Frag} {mg mb : Str → Option Value} {CX : wQ} {k : Nat} {fa a : Addr} {fd : FuncData} {x : Str} {sp : Sp} {s₁ : Shared} {vs : List Value} {ns : List Int}
    (KX : K.In s₁.heap) (hns : s₁.heap.Ns mainGlobals mg) (hb : s₁.heap.Ns builtinsNs mb) (O6 : ∀ x : Str, x ≠ "__name__" → mb x = bootBuiltins x) (hlim : s₁.heap.NoLimit) (hg : s₁.gens = #[])
    (ha : s₁.heap.get? a = some { cls := .type "list", data := .seq vs.toArray }) (hi : IntsAre vs ns) (hl : ns.length ≤ sizeLine) (hr : gn k callerA)
    (F : ∀ base : Heap, K.In base → base.Ns mainGlobals mg → pH P w K mg base CX k fa fd [x] sp) (hbind : ∀ (s : Shared) (u : Value), BindsTo s fd ⟨[u], []⟩ [(x, u)])
    (DF : ∀ H : Hp, HG H → tP K H a (ns.map V.int) → sp [.ref a] H (fun v _ => v = .bl true) fun _ _ _ => False)
    (Qj : ∀ H e s', CX [] H s₁ (fun _ _ _ => False) e s' → False) :
    codeAny (model P w) callerA (.call (.ref fa) ⟨[.ref a], []⟩) (fun r s' => r = .ok (.ret (.bool true)) ∧ OldK s₁.heap s'.heap ∧ s'.os = s₁.os ∧ AllBare s'.gens) s₁ := by
  have rv := xS hi
  have Qk := hi.length
  have core : ∀ H : Hp, HG H → tP K H a (ns.map V.int) → qH P w H s₁.heap → (∀ b, H b ≠ none → b = a) → (H a ≠ none → K.lookup a = none) →
      codeAny (model P w) callerA (.call (.ref fa) ⟨[.ref a], []⟩) (fun r s' => r = .ok (.ret (.bool true)) ∧ OldK s₁.heap s'.heap ∧ s'.os = s₁.os ∧ AllBare s'.gens) s₁ := by
    intro H hO hS hok hA hK
    have iM : ∀ {b : Addr} {o : Obj}, s₁.heap.get? b = some o → H b = none → (yI s₁.heap H).get? b = some o := fun e n => EC e n
    have Ms : ∀ {b : Addr} {o : Obj} {es : Array DictEntry} {ep : Nat}, s₁.heap.get? b = some o → o.data = .dict es ep → H b = none := fun {b o es ep} e d => by
      cases q : H b with
      | none => rfl
      | some u =>
        have e' : b = a := hA b (by rw [q]; simp)
        subst e'
        rw [ha] at e; cases e
        have d' : Data.seq vs.toArray _ = Data.dict es ep := d
        cases d'
    have O7 : ∀ {b : Addr} {m : Str → Option Value}, s₁.heap.Ns b m → (yI s₁.heap H).Ns b m := fun {b m} ⟨o, es, ep, e, d, r⟩ => ⟨o, es, ep, iM e (Ms e d), d, r⟩
    have SN : K.In (yI s₁.heap H) := fun b o e => iM (KX b o e) (by
      cases q : H b with
      | none => rfl
      | some u =>
        have e' : b = a := hA b (by rw [q]; simp)
        subst e'
        rw [hK (by rw [q]; simp)] at e; cases e)
    have hM : Mod K mg (yI s₁.heap H) := ⟨SN, O7 hns, ⟨mb, O7 hb, O6⟩, let ⟨mc, h1, h2⟩ := hlim; ⟨mc, O7 h1, h2⟩⟩
    have e0 : vh P w K mg (yI s₁.heap H) callerA [] s₁ H := ⟨rfl, hM, fun b o e => G9 e, Nat.le_of_eq (Dy _ _), trivial, fun b hb => absurd (show b ∈ ([] : List Addr) from hb) (by simp), hok, .of_eq hg⟩
    refine codeAny_mono ((F _ SN (O7 hns)).run callerA [] s₁ H ⟨[.ref a], []⟩ [.ref a] [.ref a] _ _ hr e0 (hbind s₁ (.ref a)) (.cons rfl .nil) (DF H hO hS)) fun r s' h => ?_
    cases r with
    | error e => exact (Qj H e s' h).elim
    | ok fl =>
      cases fl with
      | next => exact False.elim h
      | brk => exact False.elim h
      | cont => exact False.elim h
      | ret u =>
        obtain ⟨v, H', os, bare, un, Ql, r', q⟩ := h
        have q' : v = .bl true := q
        subst q'
        obtain rfl : u = Value.bool true := r'
        refine ⟨rfl, OldK.of_keep fun b o e => ?_, os.1, bare⟩
        cases q : H b with
        | none => exact un.keep b o e q (by intro z; exact absurd (show b ∈ ([] : List Addr) from z) (by simp)) (by simp)
        | some u =>
          rcases hO b with z | ⟨ob, xs, z⟩
          · rw [q] at z; cases z
          · have z2 := un.pB b ob _ z
            obtain ⟨e1, _⟩ := hok b _ z
            obtain ⟨e2, _⟩ := Ql b _ z2
            rw [e] at e1; cases e1
            exact e2
  cases hk : K.lookup a with
  | some o =>
    have e := KX a o hk
    rw [ha] at e
    cases e
    refine core (fun _ => none) (fun _ => .inl rfl) (.inr ⟨_, vs.toArray, _, hk, rfl, rfl, rfl, by rw [List.size_toArray, Qk]; exact hl, by simpa using rv⟩) (fun b u z => by have z' : (none : Option HO) = some u := z; cases z') (fun b z => absurd rfl z) fun z => absurd rfl z
  | none =>
    refine core (fun b => if b = a then some (.nc { cls := .type "list", data := .seq vs.toArray } (.lst (ns.map V.int))) else none) (fun b => ?_) (.inl (.inr ⟨{ cls := .type "list", data := .seq vs.toArray }, if_pos rfl⟩)) (fun b u z => ?_) (fun b z => ?_) fun _ => hk
    · by_cases hb : b = a
      · exact .inr ⟨_, _, if_pos hb⟩
      · exact .inl (if_neg hb)
    · by_cases hb : b = a
      · have z' := (if_pos hb).symm.trans z
        cases z'
        subst hb
        exact ⟨ha, by rw [List.length_map]; exact hl, vs, _, rv, ha⟩
      · have z' := (if_neg hb).symm.trans z
        cases z'
    · by_cases hb : b = a
      · exact hb
      · exact absurd (if_neg hb) z
end L2
namespace L2
open PySem PySem.Spec PyProof.Rows
noncomputable abbrev KOf {K : PySem.W.Frag} {h : Heap} (_ : K.In h) : PySem.W.Frag := K
theorem HH {l : PySem.W.OpenLaw} {n k : Nat} {q : Program} {loose : List Str} {XP : (Str → Option Value) → Heap → Prop} {YP : World → Heap → Prop} {d : DefRec} {K : Params → PySem.W.Frag} {CX : World → wQ} {sp : World → Sp} {x : Str}
    (hn : l.most = some n) (hn2 : n ≤ sizeLine) (hdf : d.params.defaults = []) (hr : gn k callerA)
    (hY : ∀ (w : World) (h : Heap), YP w h → (K w.params).In h)
    (F : ∀ (w : World) (mg : Str → Option Value) (fa : Addr) (h : Heap), (K w.params).In h → h.Ns mainGlobals mg → mg d.name = some (.ref fa) →
      ∃ fd : FuncData, (∀ (s : Shared) (u : Value), BindsTo s fd ⟨[u], []⟩ [(x, u)]) ∧
        ∀ base : Heap, (K w.params).In base → base.Ns mainGlobals mg → pH l.prog w (K w.params) mg base (CX w) k fa fd [x] (sp w))
    (DF : ∀ (w : World) (H : Hp) (a : Addr) (ns : List Int), ns.length ≤ n → HG H → tP (K w.params) H a (ns.map V.int) → sp w [.ref a] H (fun v _ => v = .bl true) fun _ _ _ => False)
    (Qj : ∀ (w : World) (H : Hp) (s : Shared) (e : Value) (s' : Shared), CX w [] H s (fun _ _ _ => False) e s' → False) :
    PySem.W.WalkO q loose XP YP l.row.toRowW d [] (fun f vs => PySem.call f vs) := by
  refine SM.As hn hdf fun w s₀ s₁ mg mb fa o pm cd doc a vs ns G Y ho hd hcd hmg hobj hints hlen hg => ?_
  have KX := hY w _ Y
  obtain ⟨fd, hb, hF⟩ := F w mg fa _ KX G.T.g hmg
  exact EU KX G.T.g G.T.b G.T.builtins G.T.nolimit hg hobj hints (Nat.le_trans hlen hn2) hr hF hb (fun H hO hS => DF w H a ns hlen hO hS) fun H e s' => Qj w H s₁ e s'
end L2
namespace L2
open PySem PySem.Spec PyProof.Rows
noncomputable def ay (s : Stmt) : Arguments := match s with
  | .FunctionDef _ a _ _ _ _ _ _ _ _ => a
  | _ => { posonlyargs := [], args := [], vararg := none, kwonlyargs := [], kw_defaults := [], kwarg := none, defaults := [] }
noncomputable def av (s : Stmt) : List Stmt := match s with
  | .FunctionDef _ _ b _ _ _ _ _ _ _ => b
  | _ => []
noncomputable def aa (s : Stmt) : Scope := match s with
  | .FunctionDef _ _ _ _ _ _ sc _ _ _ => sc
  | _ => { kind := .function, names := [], isGenerator := false, isCoroutine := false }
structure qI (K : PySem.W.Frag) (x qual : Str) (st : Stmt) (f : Addr) (fd : FuncData) : Prop where
  ex : ∃ (oc : Value) (od : Option Addr) (kV doc pm : Value) (an : Option Addr) (cdv ct : Value) (osl : Array (Option Value)),
    fd = PySem.W.fnOf x qual (ay st) (av st) (aa st) .none kV doc pm an cdv ct ∧ K.lookup f = some ⟨oc, od, .func fd, osl⟩ ∧ PySem.W.codeIn K cdv qual = true
  kp : PySem.W.keepIn K (.ref f) = true
section
variable {P : Program} {w : World} {K : PySem.W.Frag} {mg : Str → Option Value} {base : Heap}
theorem qI.binds {x qual : Str} {st : Stmt} {f : Addr} {fd : FuncData} {ps : List Str} (F : qI K x qual st f fd)
    (h : ∀ (kV doc pm : Value) (an : Option Addr) (cdv ct : Value) (us : List Value), us.length = ps.length → bindArgs (PySem.W.fnOf x qual (ay st) (av st) (aa st) .none kV doc pm an cdv ct) ⟨us, []⟩ = pure (ps.zip us)) : Binds K fd ps [] := by
  obtain ⟨oc, od, kV, doc, pm, an, cdv, ct, osl, rfl, lk, hcd⟩ := F.ex
  exact .all (h kV doc pm an cdv ct)
theorem cM {x qual : Str} {st : Stmt} {f : Addr} {oc : Value} {od an : Option Addr} {osl : Array (Option Value)} {kV doc pm cdv ct : Value} (l : K.lookup f = some ⟨oc, od, .func (PySem.W.fnOf x qual (ay st) (av st) (aa st) .none kV doc pm an cdv ct), osl⟩)
    (c : PySem.W.codeIn K cdv qual = true) (k : PySem.W.keepIn K (.ref f) = true) : qI K x qual st f (PySem.W.fnOf x qual (ay st) (av st) (aa st) .none kV doc pm an cdv ct) := ⟨⟨oc, od, kV, doc, pm, an, cdv, ct, osl, rfl, l, c⟩, k⟩
end
section
variable {X : Cx}
end
noncomputable def MC (H H' : Hp) : Prop := ∀ b o, H b = some o → H' b = some o
theorem MC.free {H H' : Hp} (e : MC H H') {l : Addr} (h : H' l = Option.none) : H l = Option.none := by
  cases q : H l with
  | none => rfl
  | some o =>
    rw [e l o q] at h
    cases h
end L2
end
section
set_option Elab.async false
set_option linter.all false
set_option maxRecDepth 100000
namespace L2
open PySem PySem.Spec PyProof.Rows
section
variable {κ : Type} [DecidableEq κ]
noncomputable def HJ (kvs : List (κ × V)) (k : κ) : Option V := (kvs.find? fun kv => decide (kv.1 = k)).map (·.2)
noncomputable def putK (kvs : List (κ × V)) (k : κ) (v : V) : List (κ × V) :=
  if (kvs.any fun kv => decide (kv.1 = k)) = true then kvs.map (fun kv => if kv.1 = k then (kv.1, v) else kv) else kvs ++ [(k, v)]
theorem G8.getD {o : Option V} {u : Option Value} {d : V} {d' : Value} (r : G8 o u) (rd : RelV d d') : RelV (o.getD d) (u.getD d') := by
  cases o with
  | none => cases u with
    | none => exact rd
    | some _ => exact (show False from r).elim
  | some _ => cases u with
    | none => exact (show False from r).elim
    | some _ => exact r
end
noncomputable abbrev KT (H : Hp) : List (List Key × V) → List (List Key × Addr × Value) → Prop := Paired fun p q => p.1 = q.1 ∧ H q.2.1 = some (.tup (p.1.map kV)) ∧ RelV p.2 q.2.2
theorem KT.keeps {H H' : Hp} {kvs : List (List Key × V)} {xs : List (List Key × Addr × Value)} (r : KT H kvs xs) (ht : ∀ b ys, H b = some (.tup ys) → H' b = some (.tup ys)) : KT H' kvs xs :=
  Paired.JH r fun _ _ z => ⟨z.1, ht _ _ z.2.1, z.2.2⟩
section
variable {P : Program} {w : World} {H : Hp} {h : Heap} {a : Addr}
end
noncomputable def HK (H : Hp) (a : Addr) (y : V) (r : Option V) : Prop :=
  (∃ kvs k, Rd H a (.dK kvs) ∧ y = kV k ∧ r = HJ kvs k) ∨ ∃ kvs k b, Rd H a (.dT kvs) ∧ y = .ref b ∧ H b = some (.tup (k.map kV)) ∧ r = HJ kvs k
noncomputable def HL (H : Hp) (a : Addr) (y v : V) (H' : Hp) : Prop :=
  (∃ kvs k, H a = some (.dK kvs) ∧ y = kV k ∧ kvs.length < sizeLine ∧ H' = upd H a (.dK (putK kvs k v))) ∨
  ∃ kvs k b, H a = some (.dT kvs) ∧ y = .ref b ∧ H b = some (.tup (k.map kV)) ∧ kvs.length < sizeLine ∧ H' = upd H a (.dT (putK kvs k v))
theorem HK.k {H : Hp} {a : Addr} {kvs : List (Key × V)} {k : Key} (e : H a = some (.dK kvs)) : HK H a (kV k) (HJ kvs k) := .inl ⟨kvs, k, .inl e, rfl, rfl⟩
theorem HK.t {H : Hp} {a b : Addr} {kvs : List (List Key × V)} {k : List Key} (e : H a = some (.dT kvs)) (eb : H b = some (.tup (k.map kV))) : HK H a (.ref b) (HJ kvs k) := .inr ⟨kvs, k, b, .inl e, rfl, eb, rfl⟩
theorem HL.k {H : Hp} {a : Addr} {kvs : List (Key × V)} {k : Key} {v : V} (e : H a = some (.dK kvs)) (hl : kvs.length < sizeLine) : HL H a (kV k) v (upd H a (.dK (putK kvs k v))) := .inl ⟨kvs, k, e, rfl, hl, rfl⟩
theorem HL.t {H : Hp} {a b : Addr} {kvs : List (List Key × V)} {k : List Key} {v : V} (e : H a = some (.dT kvs)) (eb : H b = some (.tup (k.map kV))) (hl : kvs.length < sizeLine) :
    HL H a (.ref b) v (upd H a (.dT (putK kvs k v))) := .inr ⟨kvs, k, b, e, rfl, eb, hl, rfl⟩
section
variable {X : Cx} {pins : List (Addr × Obj)} {σ : St} {H : Hp} {s : Shared} {a : Addr} {y v : V} {u r : Value} {o : Option V} {A : Around} {E : Value → Shared → Prop}
end
section
variable {X : Cx} {pins : List (Addr × Obj)} {σ : St} {H : Hp} {s : Shared} {a : Addr} {kvs : List (Key × V)} {k : Key} {u : Value} {A : Around} {E : Value → Shared → Prop}
end
section
variable {X : Cx} {o i e value : Expr} {pos pos' tpos : Pos} {td ty tv : TE}
end
section
variable {X : Cx} {pos : Pos}
end
structure M1 (X : Cx) (o : Expr) (m : Str) (apos : Pos) (e : Expr) (cpos : Pos) : Prop where
  base : attributeBase o m X.env (eval o X.env) = eval o X.env
  few : ((backTo cpos (starEach [e] X.env)).all (fun x => !x.1) && (backToKw cpos (keywordEach [] X.env)).all (fun x => x.1.isSome)
    && decide (([e] : List Expr).length + ([] : List Keyword).length + (if ([] : List Keyword).isEmpty then 0 else 1) < 30)) = true
  line : (apos.endLine == cpos.line) = true
  trees : backTo cpos (starEach [e] X.env) = [(false, eval e X.env)]
structure M2 (X : Cx) (o : Expr) (m : Str) (apos : Pos) (e f : Expr) (cpos : Pos) : Prop where
  base : attributeBase o m X.env (eval o X.env) = eval o X.env
  few : ((backTo cpos (starEach [e, f] X.env)).all (fun x => !x.1) && (backToKw cpos (keywordEach [] X.env)).all (fun x => x.1.isSome)
    && decide (([e, f] : List Expr).length + ([] : List Keyword).length + (if ([] : List Keyword).isEmpty then 0 else 1) < 30)) = true
  line : (apos.endLine == cpos.line) = true
  trees : backTo cpos (starEach [e, f] X.env) = [(false, eval e X.env), (false, eval f X.env)]
section
variable {X : Cx} {pins : List (Addr × Obj)} {σ : St} {H : Hp} {s : Shared} {a : Addr} {y d : V} {u r : Value} {o : Option V} {A : Around} {E : Value → Shared → Prop}
end
section
variable {X : Cx} {o e f : Expr} {apos cpos : Pos} {td ty tx : TE}
end
section
variable {X : Cx} {pins : List (Addr × Obj)} {σ : St} {H : Hp} {s : Shared} {a : Addr} {kvs : List (Key × V)} {A : Around} {E : Value → Shared → Prop}
end
section
variable {X : Cx} {pins : List (Addr × Obj)} {σ : St} {H : Hp} {s : Shared} {a : Addr} {y : V} {u : Value} {A : Around} {E : Value → Shared → Prop}
end
end L2
end
section
set_option Elab.async false
set_option linter.all false
set_option maxRecDepth 100000
namespace L3
open PySem PySem.Spec L2
inductive D where
 | gg | bl (b : Bool) | int (i : Int) | str (x : Str) | tup (xs : List D) | con (xs : List D) | obj (n : Nat) | fn (x : Str) | wU (cls : Str) (args : List D)
inductive DO where
 | lst (xs : List D)
 | dead
 | dct (kvs : List (Key × D))
noncomputable abbrev DH := List DO
noncomputable abbrev DS := List (Option D)
inductive XD where
 | mk (cls : Str) (args : List D)
inductive Out (α : Type) where
 | stuck
 | ok (a : α) (G : DH)
 | eN (c : XD) (G : DH)
noncomputable abbrev M (α : Type) := DH → Out α
noncomputable def M.bind {α β : Type} (m : M α) (k : α → M β) : M β := fun G => match m G with
 | .stuck => .stuck
 | .ok a G' => k a G'
 | .eN c G' => .eN c G'
noncomputable def M.ret {α : Type} (a : α) : M α := fun G => .ok a G
noncomputable def M.stop {α : Type} : M α := fun _ => .stuck
noncomputable def Ks (K : PySem.W.Frag) (H : Hp) (a : Addr) (xs : List V) : Prop :=
 (∃ o, H a = some (.nc o (.lst xs))) ∨
  ∃ (o : Obj) (its : Array Value) (n : Nat), K.lookup a = some o ∧ o.cls = .type "list" ∧ o.dict = none ∧ o.data = .seq its n ∧ its.size ≤ sizeLine ∧ Vals xs its.toList
theorem Ks.seq {K : PySem.W.Frag} {H : Hp} {a : Addr} {xs : List V} (h : Ks K H a xs) : tP K H a xs := by
 rcases h with ⟨o, h⟩ | h
 ·exact .inl (.inr ⟨o, h⟩)
 ·exact .inr h
noncomputable def MD (a : Addr) (cv : Value) : Heap → Prop := fun h => ∃ o, h.get? a = some o ∧ o.cls = cv
mutual
noncomputable def Rep (K : PySem.W.Frag) (mg : Str → Option Value) (ρ : List Addr) (H : Hp) : D → V → Prop
 | .gg, v => v = .gg
 | .bl b, v => v = .bl b
 | .int i, v => v = .int i
 | .str x, v => v = .str x
 | .tup ds, v => ∃ a xs, v = .ref a ∧ tQ K H a xs ∧ aC K mg ρ H ds xs
 | .con ds, v => ∃ a xs, v = .ref a ∧ Ks K H a xs ∧ aC K mg ρ H ds xs
 | .obj n, v => ∃ a, v = .ref a ∧ ρ[n]? = some a
 | .fn x, v => ∃ a, v = .ref a ∧ mg x = some (.ref a)
 | .wU c _, v => ∃ a cv, v = .ref a ∧ mg c = some cv ∧ H a = some (.ext (MD a cv))
noncomputable def aC (K : PySem.W.Frag) (mg : Str → Option Value) (ρ : List Addr) (H : Hp) : List D → List V → Prop
 | [], vs => vs = []
 | d :: ds, vs => ∃ v r, vs = v :: r ∧ Rep K mg ρ H d v ∧ aC K mg ρ H ds r
end
structure fH (K : PySem.W.Frag) (H H' : Hp) (ρ ρ' : List Addr) : Prop where
 tup : ∀ a xs, tQ K H a xs → tQ K H' a xs
 con : ∀ a xs, Ks K H a xs → Ks K H' a xs
 pre : ∃ r, ρ' = ρ ++ r
 ext : ∀ a φ, H a = some (.ext φ) → H' a = some (.ext φ)
section
variable {K : PySem.W.Frag} {mg : Str → Option Value} {H H' H1 H2 : Hp} {ρ ρ' ρ1 ρ2 : List Addr}
theorem fH.refl : fH K H H ρ ρ := ⟨fun _ _ h => h, fun _ _ h => h, ⟨[], by simp⟩, fun _ _ h => h⟩
theorem fH.trans (a : fH K H H1 ρ ρ1) (b : fH K H1 H2 ρ1 ρ2) : fH K H H2 ρ ρ2 := by
 obtain ⟨r1, e1⟩ := a.pre
 obtain ⟨r2, e2⟩ := b.pre
 exact ⟨fun x xs h => b.tup x xs (a.tup x xs h), fun x xs h => b.con x xs (a.con x xs h), ⟨r1 ++ r2, by rw [e2, e1, List.append_assoc]⟩, fun x φ h => b.ext x φ (a.ext x φ h)⟩
theorem fH.get (f : fH K H H' ρ ρ') {n : Nat} {a : Addr} (h : ρ[n]? = some a) : ρ'[n]? = some a := by
 obtain ⟨r, e⟩ := f.pre
 rw [e, List.getElem?_append_left (List.getElem?_eq_some_iff.mp h).1]; exact h
mutual
theorem Rep.mono (f : fH K H H' ρ ρ') : ∀ (d : D) (v : V), Rep K mg ρ H d v → Rep K mg ρ' H' d v
 | .gg, v, h => by unfold Rep at h ⊢; exact h
 | .bl b, v, h => by unfold Rep at h ⊢; exact h
 | .int i, v, h => by unfold Rep at h ⊢; exact h
 | .str x, v, h => by unfold Rep at h ⊢; exact h
 | .tup ds, v, h => by
  unfold Rep at h ⊢
  obtain ⟨a, xs, e, s, r⟩ := h
  exact ⟨a, xs, e, f.tup _ _ s, aC.mono f ds xs r⟩
 | .con ds, v, h => by
  unfold Rep at h ⊢
  obtain ⟨a, xs, e, s, r⟩ := h
  exact ⟨a, xs, e, f.con _ _ s, aC.mono f ds xs r⟩
 | .obj n, v, h => by
  unfold Rep at h ⊢
  obtain ⟨a, e, r⟩ := h
  exact ⟨a, e, f.get r⟩
 | .fn x, v, h => by unfold Rep at h ⊢; exact h
 | .wU c as, v, h => by
  unfold Rep at h ⊢
  obtain ⟨a, cv, e, m, r⟩ := h
  exact ⟨a, cv, e, m, f.ext _ _ r⟩
theorem aC.mono (f : fH K H H' ρ ρ') : ∀ (ds : List D) (vs : List V), aC K mg ρ H ds vs → aC K mg ρ' H' ds vs
 | [], vs, h => by unfold aC at h ⊢; exact h
 | d :: ds, vs, h => by
  unfold aC at h ⊢
  obtain ⟨v, r, e, h1, h2⟩ := h
  exact ⟨v, r, e, Rep.mono f d v h1, aC.mono f ds r h2⟩
end
theorem aC.length : ∀ {ds : List D} {vs : List V}, aC K mg ρ H ds vs → ds.length = vs.length
 | [], vs, h => by unfold aC at h; subst h; rfl
 | d :: ds, vs, h => by
  unfold aC at h
  obtain ⟨v, r, rfl, _, h2⟩ := h
  simp [aC.length h2]
theorem aC.nil : aC K mg ρ H [] [] := by unfold aC; rfl
theorem aC.cons {d : D} {v : V} {ds : List D} {vs : List V} (h : Rep K mg ρ H d v) (t : aC K mg ρ H ds vs) : aC K mg ρ H (d :: ds) (v :: vs) := by
 unfold aC; exact ⟨v, vs, rfl, h, t⟩
theorem aC.get : ∀ {ds : List D} {vs : List V} {i : Nat} {d : D}, aC K mg ρ H ds vs → ds[i]? = some d → ∃ v, vs[i]? = some v ∧ Rep K mg ρ H d v
 | [], vs, i, d, h, e => by simp at e
 | x :: ds, vs, 0, d, h, e => by
  unfold aC at h
  obtain ⟨v, r, rfl, h1, _⟩ := h
  simp at e; subst e
  exact ⟨v, rfl, h1⟩
 | x :: ds, vs, i + 1, d, h, e => by
  unfold aC at h
  obtain ⟨v, r, rfl, _, h2⟩ := h
  obtain ⟨u, e1, e2⟩ := aC.get (i := i) (d := d) h2 (by simpa using e)
  exact ⟨u, by simpa using e1, e2⟩
theorem aC.append : ∀ {ds es : List D} {vs us : List V}, aC K mg ρ H ds vs → aC K mg ρ H es us → aC K mg ρ H (ds ++ es) (vs ++ us)
 | [], es, vs, us, h, h' => by unfold aC at h; subst h; exact h'
 | d :: ds, es, vs, us, h, h' => by
  unfold aC at h
  obtain ⟨v, r, rfl, h1, h2⟩ := h
  exact .cons h1 (aC.append h2 h')
theorem aC.take : ∀ (n : Nat) {ds : List D} {vs : List V}, aC K mg ρ H ds vs → aC K mg ρ H (ds.take n) (vs.take n)
 | 0, _, _, _ => by simpa using aC.nil
 | n + 1, [], vs, h => by unfold aC at h; subst h; simpa using aC.nil
 | n + 1, d :: ds, vs, h => by
  unfold aC at h
  obtain ⟨v, r, rfl, h1, h2⟩ := h
  exact .cons h1 (aC.take n h2)
theorem aC.drop : ∀ (n : Nat) {ds : List D} {vs : List V}, aC K mg ρ H ds vs → aC K mg ρ H (ds.drop n) (vs.drop n)
 | 0, _, _, h => by simpa using h
 | n + 1, [], vs, h => by unfold aC at h; subst h; simpa using aC.nil
 | n + 1, d :: ds, vs, h => by
  unfold aC at h
  obtain ⟨v, r, rfl, h1, h2⟩ := h
  simpa using aC.drop n h2
theorem aC.ints : ∀ (ns : List Int), aC K mg ρ H (ns.map D.int) (ns.map V.int)
 | [] => .nil
 | n :: ns => .cons (by unfold Rep; rfl) (aC.ints ns)
end
noncomputable def HM (K : PySem.W.Frag) (mg : Str → Option Value) (ρ : List Addr) (H : Hp) (a : Addr) : DO → Prop
 | .lst ds => ∃ xs, H a = some (.lst xs) ∧ aC K mg ρ H ds xs
 | .dead => ∃ o, H a = some o
 | .dct kvs => ∃ xs, H a = some (.dK ((kvs.map (·.1)).zip xs)) ∧ aC K mg ρ H (kvs.map (·.2)) xs
structure kP (K : PySem.W.Frag) (mg : Str → Option Value) (H : Hp) (ρ : List Addr) (G : DH) : Prop where
 hl : ρ.length = G.length
 nd : ρ.Nodup
 ob : ∀ (n : Nat) (o : DO), G[n]? = some o → ∃ a, ρ[n]? = some a ∧ HM K mg ρ H a o
noncomputable def wV (K : PySem.W.Frag) (mg : Str → Option Value) (H : Hp) (ρ : List Addr) (σ : St) (τ : DS) : Prop :=
 σ.length = τ.length ∧ ∀ (i : Nat) (d : D), τ[i]? = some (some d) → ∃ v, σ[i]? = some (some v) ∧ Rep K mg ρ H d v
structure Ab (K : PySem.W.Frag) (mg : Str → Option Value) (σ : St) (H : Hp) (τ : DS) (ρ : List Addr) (G : DH) : Prop where
 st : wV K mg H ρ σ τ
 hp : kP K mg H ρ G
section
variable {K : PySem.W.Frag} {mg : Str → Option Value} {H H' H1 H2 : Hp} {ρ ρ' ρ1 ρ2 : List Addr} {G G' : DH} {σ : L2.St} {τ : DS}
theorem wV.mono (f : fH K H H' ρ ρ') (h : wV K mg H ρ σ τ) : wV K mg H' ρ' σ τ := ⟨h.1, fun i d e => by
 obtain ⟨v, e1, r⟩ := h.2 i d e
 exact ⟨v, e1, r.mono f⟩⟩
theorem wV.set {i : Nat} {d : D} {v : V} (h : wV K mg H ρ σ τ) (r : Rep K mg ρ H d v) : wV K mg H ρ (σ.set i (some v)) (τ.set i (some d)) := by
 refine ⟨by simp [h.1], fun j e he => ?_⟩
 by_cases hj : i = j
 ·subst hj
  rw [List.getElem?_set] at he
  by_cases hi : i < τ.length
  ·rw [if_pos rfl, if_pos hi] at he
   cases he
   exact ⟨v, by rw [List.getElem?_set, if_pos rfl, if_pos (by rw [h.1]; exact hi)], r⟩
  ·rw [if_pos rfl, if_neg hi] at he
   cases he
 ·rw [List.getElem?_set_ne hj] at he
  obtain ⟨u, e1, r1⟩ := h.2 j e he
  exact ⟨u, by rw [List.getElem?_set_ne hj]; exact e1, r1⟩
theorem Ab.fut (ab : Ab K mg σ H τ ρ G) (f : fH K H H' ρ ρ') (hp : kP K mg H' ρ' G') : Ab K mg σ H' τ ρ' G' := ⟨ab.st.mono f, hp⟩
theorem kP.lst {n : Nat} {ds : List D} (h : kP K mg H ρ G) (e : G[n]? = some (.lst ds)) : ∃ a xs, ρ[n]? = some a ∧ H a = some (.lst xs) ∧ aC K mg ρ H ds xs := by
 obtain ⟨a, e1, xs, e2, r⟩ := h.ob n _ e
 exact ⟨a, xs, e1, e2, r⟩
theorem kP.there {n : Nat} {a : Addr} (h : kP K mg H ρ G) (e : ρ[n]? = some a) : ∃ o, H a = some o := by
 have hn : n < G.length := by rw [← h.hl]; exact (List.getElem?_eq_some_iff.mp e).1
 obtain ⟨a', e1, r⟩ := h.ob n G[n] (List.getElem?_eq_getElem hn)
 rw [e] at e1; cases e1
 cases hg : G[n] with
 | lst xs => rw [hg] at r; obtain ⟨ys, e2, _⟩ := r; exact ⟨_, e2⟩
 | dead => rw [hg] at r; exact r
 | dct kv => rw [hg] at r; obtain ⟨ys, e2, _⟩ := r; exact ⟨_, e2⟩
theorem kP.not_mem {p : Addr} (h : kP K mg H ρ G) (hp : H p = none) : p ∉ ρ := fun hm => by
 obtain ⟨n, hn, e⟩ := List.getElem_of_mem hm
 obtain ⟨o, q⟩ := h.there (n := n) (a := p) (by rw [List.getElem?_eq_getElem hn, e])
 rw [hp] at q; cases q
theorem HM.mono {a : Addr} {o : DO} (f : fH K H H' ρ ρ') (he : ∀ u, H a = some u → H' a = some u) (h : HM K mg ρ H a o) : HM K mg ρ' H' a o := by
 cases o with
 | lst ds =>
  obtain ⟨xs, e, r⟩ := h
  exact ⟨xs, he _ e, r.mono f⟩
 | dead =>
  obtain ⟨o, e⟩ := h
  exact ⟨o, he _ e⟩
 | dct kv =>
  obtain ⟨xs, e, r⟩ := h
  exact ⟨xs, he _ e, r.mono f⟩
theorem oR {p : Addr} {o : HO} (hp : H p = none) (ρ : List Addr) : fH K H (upd H p o) ρ ρ := by
 refine ⟨fun a xs h => ?_, fun a xs h => ?_, ⟨[], by simp⟩, fun a φ h => by rw [bu (cY h hp)]; exact h⟩
 ·rcases h with (h | ⟨q, h⟩) | h
  ·exact .inl (.inl (by rw [bu (cY h hp)]; exact h))
  ·exact .inl (.inr ⟨q, by rw [bu (cY h hp)]; exact h⟩)
  ·exact .inr h
 ·rcases h with ⟨q, h⟩ | h
  ·exact .inl ⟨q, by rw [bu (cY h hp)]; exact h⟩
  ·exact .inr h
theorem yS {p : Addr} {xs ys : List V} (hp : H p = some (.lst xs)) (ρ : List Addr) : fH K H (upd H p (.lst ys)) ρ ρ := by
 refine ⟨fun a zs h => ?_, fun a zs h => ?_, ⟨[], by simp⟩, fun a φ h => by rw [bu (kQ h hp (by intro z; cases z))]; exact h⟩
 ·rcases h with (h | ⟨q, h⟩) | h
  ·exact .inl (.inl (by rw [bu (kQ h hp (by intro z; cases z))]; exact h))
  ·exact .inl (.inr ⟨q, by rw [bu (kQ h hp (by intro z; cases z))]; exact h⟩)
  ·exact .inr h
 ·rcases h with ⟨q, h⟩ | h
  ·exact .inl ⟨q, by rw [bu (kQ h hp (by intro z; cases z))]; exact h⟩
  ·exact .inr h
theorem kP.new {p : Addr} {o : HO} (h : kP K mg H ρ G) (hp : H p = none) : kP K mg (upd H p o) ρ G :=
 ⟨h.hl, h.nd, fun n ob e => by
  obtain ⟨a, e1, r⟩ := h.ob n ob e
  exact ⟨a, e1, r.mono (oR hp ρ) fun u q => by rw [bu (cY q hp)]; exact q⟩⟩
theorem cF {α : Type} (l : List α) (a : α) : (l ++ [a])[l.length]? = some a := by simp
theorem qP (ρ : List Addr) (p : Addr) : fH K H H ρ (ρ ++ [p]) := ⟨fun _ _ h => h, fun _ _ h => h, ⟨[p], rfl⟩, fun _ _ h => h⟩
theorem kP.more {p : Addr} {ds : List D} {xs : List V} (h : kP K mg H ρ G) (hp : H p = none) (r : aC K mg ρ H ds xs) : kP K mg (upd H p (.lst xs)) (ρ ++ [p]) (G ++ [.lst ds]) := by
 have f : fH K H (upd H p (.lst xs)) ρ (ρ ++ [p]) := (oR hp ρ).trans (qP ρ p)
 refine ⟨by simp [h.hl], ?_, fun n ob e => ?_⟩
 ·rw [List.nodup_append]
  refine ⟨h.nd, by simp, fun a ha b hb => ?_⟩
  have e : b = p := by simpa using hb
  subst e
  rintro rfl
  exact h.not_mem hp ha
 ·by_cases hn : n < G.length
  ·rw [List.getElem?_append_left hn] at e
   obtain ⟨a, e1, r'⟩ := h.ob n ob e
   exact ⟨a, f.get e1, r'.mono f fun u q => by rw [bu (cY q hp)]; exact q⟩
  ·have hl : n < (G ++ [DO.lst ds]).length := (List.getElem?_eq_some_iff.mp e).1
   have hn' : n = G.length := by simp at hl; omega
   subst hn'
   rw [cF] at e
   cases e
   refine ⟨p, by rw [← h.hl, cF], xs, gm, r.mono f⟩
theorem kP.put {n : Nat} {a : Addr} {ds es : List D} {xs ys : List V} (h : kP K mg H ρ G) (hn : ρ[n]? = some a) (ha : H a = some (.lst xs)) (r : aC K mg ρ H es ys) : kP K mg (upd H a (.lst ys)) ρ (G.set n (.lst es)) := by
 have f : fH K H (upd H a (.lst ys)) ρ ρ := yS ha ρ
 refine ⟨by simp [h.hl], h.nd, fun m ob e => ?_⟩
 by_cases hm : n = m
 ·subst hm
  rw [List.getElem?_set, if_pos rfl] at e
  split at e
  ·cases e
   exact ⟨a, hn, ys, gm, r.mono f⟩
  ·cases e
 ·rw [List.getElem?_set_ne hm] at e
  obtain ⟨b, e1, r'⟩ := h.ob m ob e
  have hb : b ≠ a := by
   rintro rfl
   obtain ⟨h1, GZ⟩ := List.getElem?_eq_some_iff.mp hn
   obtain ⟨h2, G4⟩ := List.getElem?_eq_some_iff.mp e1
   exact hm ((List.getElem_inj h.nd).mp (GZ.trans G4.symm))
  exact ⟨b, e1, r'.mono f fun u q => by rw [bu hb]; exact q⟩
end
noncomputable abbrev gf := XD → St → Hp → Prop
section
variable (K : PySem.W.Frag) (mg : Str → Option Value) (EE : gf)
noncomputable def lT (H : Hp) (σ : St) (τ : DS) (ρ : List Addr) : Out D → VK → Prop
 | .stuck, _ => False
 | .ok d G', Q => ∀ v H' ρ', fH K H H' ρ ρ' → Ab K mg σ H' τ ρ' G' → Rep K mg ρ' H' d v → Q v H'
 | .eN c G', _ => ∀ H' ρ', fH K H H' ρ ρ' → Ab K mg σ H' τ ρ' G' → EE c σ H'
noncomputable def LP (H : Hp) (σ : St) (τ : DS) (ρ : List Addr) : Out Bool → (Bool → Hp → Prop) → Prop
 | .stuck, _ => False
 | .ok b G', Q => ∀ H' ρ', fH K H H' ρ ρ' → Ab K mg σ H' τ ρ' G' → Q b H'
 | .eN c G', _ => ∀ H' ρ', fH K H H' ρ ρ' → Ab K mg σ H' τ ρ' G' → EE c σ H'
noncomputable def ME (H : Hp) (σ : St) (τ : DS) (ρ : List Addr) : Out (List D) → (List V → Hp → Prop) → Prop
 | .stuck, _ => False
 | .ok ds G', Q => ∀ vs H' ρ', fH K H H' ρ ρ' → Ab K mg σ H' τ ρ' G' → aC K mg ρ' H' ds vs → Q vs H'
 | .eN c G', _ => ∀ H' ρ', fH K H H' ρ ρ' → Ab K mg σ H' τ ρ' G' → EE c σ H'
noncomputable def dF (m : DS → M D) : TE := fun σ H Q => ∃ τ ρ G, Ab K mg σ H τ ρ G ∧ lT K mg EE H σ τ ρ (m τ G) Q
noncomputable def liftT (m : DS → M Bool) : TT := fun σ H Q => ∃ τ ρ G, Ab K mg σ H τ ρ G ∧ LP K mg EE H σ τ ρ (m τ G) Q
noncomputable def xT (m : DS → M (List D)) : TA := fun σ H Q => ∃ τ ρ G, Ab K mg σ H τ ρ G ∧ ME K mg EE H σ τ ρ (m τ G) Q
inductive Res where
 | stuck
 | nx (τ : DS) (G : DH)
 | rt (d : D) (G : DH)
 | bk (τ : DS) (G : DH)
 | ct (τ : DS) (G : DH)
 | xn (c : XD) (τ : DS) (G : DH)
noncomputable def BF (H : Hp) (ρ : List Addr) (Dd : Ends) : Res → Prop
 | .stuck => False
 | .nx τ G => ∀ σ' H' ρ', fH K H H' ρ ρ' → Ab K mg σ' H' τ ρ' G → Dd.nx σ' H'
 | .bk τ G => ∀ σ' H' ρ', fH K H H' ρ ρ' → Ab K mg σ' H' τ ρ' G → Dd.bk σ' H'
 | .ct τ G => ∀ σ' H' ρ', fH K H H' ρ ρ' → Ab K mg σ' H' τ ρ' G → Dd.ct σ' H'
 | .rt d G => ∀ v H' ρ', fH K H H' ρ ρ' → kP K mg H' ρ' G → Rep K mg ρ' H' d v → Dd.rt v H'
 | .xn c τ G => ∀ σ' H' ρ', fH K H H' ρ ρ' → Ab K mg σ' H' τ ρ' G → EE c σ' H'
noncomputable abbrev MS := DS → DH → Res
noncomputable def kU (m : MS) : TS := fun Dd σ H => ∃ τ ρ G, Ab K mg σ H τ ρ G ∧ BF K mg EE H ρ Dd (m τ G)
end
section
variable {K : PySem.W.Frag} {mg : Str → Option Value} {EE : gf} {H H1 : Hp} {σ : L2.St} {τ : DS} {ρ ρ1 : List Addr}
theorem lT.fut {r : Out D} {Q : VK} (f : fH K H H1 ρ ρ1) (h : lT K mg EE H σ τ ρ r Q) : lT K mg EE H1 σ τ ρ1 r Q := by
 cases r with
 | stuck => exact h
 | ok d G' => exact fun v H' ρ' f' => h v H' ρ' (f.trans f')
 | eN c G' => exact fun H' ρ' f' => h H' ρ' (f.trans f')
theorem LP.fut {r : Out Bool} {Q : Bool → Hp → Prop} (f : fH K H H1 ρ ρ1) (h : LP K mg EE H σ τ ρ r Q) : LP K mg EE H1 σ τ ρ1 r Q := by
 cases r with
 | stuck => exact h
 | ok d G' => exact fun H' ρ' f' => h H' ρ' (f.trans f')
 | eN c G' => exact fun H' ρ' f' => h H' ρ' (f.trans f')
theorem ME.fut {r : Out (List D)} {Q : List V → Hp → Prop} (f : fH K H H1 ρ ρ1) (h : ME K mg EE H σ τ ρ r Q) : ME K mg EE H1 σ τ ρ1 r Q := by
 cases r with
 | stuck => exact h
 | ok d G' => exact fun v H' ρ' f' => h v H' ρ' (f.trans f')
 | eN c G' => exact fun H' ρ' f' => h H' ρ' (f.trans f')
theorem BF.fut {r : Res} {Dd : Ends} (f : fH K H H1 ρ ρ1) (h : BF K mg EE H ρ Dd r) : BF K mg EE H1 ρ1 Dd r := by
 cases r with
 | stuck => exact h
 | nx τ G => exact fun s H' ρ' f' => h s H' ρ' (f.trans f')
 | bk τ G => exact fun s H' ρ' f' => h s H' ρ' (f.trans f')
 | ct τ G => exact fun s H' ρ' f' => h s H' ρ' (f.trans f')
 | rt d G => exact fun s H' ρ' f' => h s H' ρ' (f.trans f')
 | xn c τ G => exact fun s H' ρ' f' => h s H' ρ' (f.trans f')
theorem jM {m : DS → M D} {k : DS → D → M D} {Q : VK} (h : dF K mg EE (fun τ => (m τ).bind (k τ)) σ H Q) :
  dF K mg EE m σ H fun x H1 => ∃ τ ρ G d, Ab K mg σ H1 τ ρ G ∧ Rep K mg ρ H1 d x ∧ lT K mg EE H1 σ τ ρ (k τ d G) Q := by
 obtain ⟨τ, ρ, G, ab, ok⟩ := h
 refine ⟨τ, ρ, G, ab, ?_⟩
 dsimp only [M.bind] at ok
 cases e : m τ G with
 | stuck => rw [e] at ok; exact ok
 | eN c G' => rw [e] at ok; exact ok
 | ok d G' => rw [e] at ok; exact fun v H' ρ' f dm r => ⟨τ, ρ', G', d, dm, r, ok.fut f⟩
theorem EV {m : DS → M D} {k : DS → D → M Bool} {Q : Bool → Hp → Prop} (h : liftT K mg EE (fun τ => (m τ).bind (k τ)) σ H Q) :
  dF K mg EE m σ H fun x H1 => ∃ τ ρ G d, Ab K mg σ H1 τ ρ G ∧ Rep K mg ρ H1 d x ∧ LP K mg EE H1 σ τ ρ (k τ d G) Q := by
 obtain ⟨τ, ρ, G, ab, ok⟩ := h
 refine ⟨τ, ρ, G, ab, ?_⟩
 dsimp only [M.bind] at ok
 cases e : m τ G with
 | stuck => rw [e] at ok; exact ok
 | eN c G' => rw [e] at ok; exact ok
 | ok d G' => rw [e] at ok; exact fun v H' ρ' f dm r => ⟨τ, ρ', G', d, dm, r, ok.fut f⟩
theorem Ku {m : DS → M Bool} {k : DS → Bool → M D} {Q : VK} (h : dF K mg EE (fun τ => (m τ).bind (k τ)) σ H Q) :
  liftT K mg EE m σ H fun b H1 => ∃ τ ρ G, Ab K mg σ H1 τ ρ G ∧ lT K mg EE H1 σ τ ρ (k τ b G) Q := by
 obtain ⟨τ, ρ, G, ab, ok⟩ := h
 refine ⟨τ, ρ, G, ab, ?_⟩
 dsimp only [M.bind] at ok
 cases e : m τ G with
 | stuck => rw [e] at ok; exact ok
 | eN c G' => rw [e] at ok; exact ok
 | ok d G' => rw [e] at ok; exact fun H' ρ' f dm => ⟨τ, ρ', G', dm, ok.fut f⟩
theorem BG {m : DS → M Bool} {k : DS → Bool → M Bool} {Q : Bool → Hp → Prop} (h : liftT K mg EE (fun τ => (m τ).bind (k τ)) σ H Q) :
  liftT K mg EE m σ H fun b H1 => ∃ τ ρ G, Ab K mg σ H1 τ ρ G ∧ LP K mg EE H1 σ τ ρ (k τ b G) Q := by
 obtain ⟨τ, ρ, G, ab, ok⟩ := h
 refine ⟨τ, ρ, G, ab, ?_⟩
 dsimp only [M.bind] at ok
 cases e : m τ G with
 | stuck => rw [e] at ok; exact ok
 | eN c G' => rw [e] at ok; exact ok
 | ok d G' => rw [e] at ok; exact fun H' ρ' f dm => ⟨τ, ρ', G', dm, ok.fut f⟩
theorem Kv {m : DS → M D} {k : DS → D → M (List D)} {Q : List V → Hp → Prop} (h : xT K mg EE (fun τ => (m τ).bind (k τ)) σ H Q) :
  dF K mg EE m σ H fun x H1 => ∃ τ ρ G d, Ab K mg σ H1 τ ρ G ∧ Rep K mg ρ H1 d x ∧ ME K mg EE H1 σ τ ρ (k τ d G) Q := by
 obtain ⟨τ, ρ, G, ab, ok⟩ := h
 refine ⟨τ, ρ, G, ab, ?_⟩
 dsimp only [M.bind] at ok
 cases e : m τ G with
 | stuck => rw [e] at ok; exact ok
 | eN c G' => rw [e] at ok; exact ok
 | ok d G' => rw [e] at ok; exact fun v H' ρ' f dm r => ⟨τ, ρ', G', d, dm, r, ok.fut f⟩
theorem vm {m : DS → M (List D)} {k : DS → List D → M D} {Q : VK} (h : dF K mg EE (fun τ => (m τ).bind (k τ)) σ H Q) :
  xT K mg EE m σ H fun x H1 => ∃ τ ρ G d, Ab K mg σ H1 τ ρ G ∧ aC K mg ρ H1 d x ∧ lT K mg EE H1 σ τ ρ (k τ d G) Q := by
 obtain ⟨τ, ρ, G, ab, ok⟩ := h
 refine ⟨τ, ρ, G, ab, ?_⟩
 dsimp only [M.bind] at ok
 cases e : m τ G with
 | stuck => rw [e] at ok; exact ok
 | eN c G' => rw [e] at ok; exact ok
 | ok d G' => rw [e] at ok; exact fun v H' ρ' f dm r => ⟨τ, ρ', G', d, dm, r, ok.fut f⟩
noncomputable def fq {α : Type} (m : M α) (k : α → DH → Res) (x : XD → DH → Res) : DH → Res := fun G => match m G with
 | .stuck => .stuck
 | .ok a G' => k a G'
 | .eN c G' => x c G'
theorem vn {m : DS → M D} {k : DS → D → DH → Res} {Dd : Ends} (h : kU K mg EE (fun τ => fq (m τ) (k τ) fun c G => .xn c τ G) Dd σ H) :
  dF K mg EE m σ H fun x H1 => ∃ τ ρ G d, Ab K mg σ H1 τ ρ G ∧ Rep K mg ρ H1 d x ∧ BF K mg EE H1 ρ Dd (k τ d G) := by
 obtain ⟨τ, ρ, G, ab, ok⟩ := h
 refine ⟨τ, ρ, G, ab, ?_⟩
 dsimp only [fq] at ok
 cases e : m τ G with
 | stuck => rw [e] at ok; exact ok
 | eN c G' => rw [e] at ok; exact fun H' ρ' f dm => ok σ H' ρ' f dm
 | ok d G' => rw [e] at ok; exact fun v H' ρ' f dm r => ⟨τ, ρ', G', d, dm, r, ok.fut f⟩
theorem Kw {m : DS → M Bool} {k : DS → Bool → DH → Res} {Dd : Ends} (h : kU K mg EE (fun τ => fq (m τ) (k τ) fun c G => .xn c τ G) Dd σ H) :
  liftT K mg EE m σ H fun b H1 => ∃ τ ρ G, Ab K mg σ H1 τ ρ G ∧ BF K mg EE H1 ρ Dd (k τ b G) := by
 obtain ⟨τ, ρ, G, ab, ok⟩ := h
 refine ⟨τ, ρ, G, ab, ?_⟩
 dsimp only [fq] at ok
 cases e : m τ G with
 | stuck => rw [e] at ok; exact ok
 | eN c G' => rw [e] at ok; exact fun H' ρ' f dm => ok σ H' ρ' f dm
 | ok d G' => rw [e] at ok; exact fun H' ρ' f dm => ⟨τ, ρ', G', dm, ok.fut f⟩
end
noncomputable def QE (X : Cx) (EE : gf) (e : Expr) (m : DS → M D) : Prop := PE X e (dF X.K X.mg EE m)
noncomputable def QT (X : Cx) (EE : gf) (e : Expr) (m : DS → M Bool) : Prop := PT X e (liftT X.K X.mg EE m)
noncomputable def QW (X : Cx) (EE : gf) (e : Expr) (m : DS → M Bool) : Prop := PW X e (liftT X.K X.mg EE m)
noncomputable def QA (X : Cx) (EE : gf) (es : List Expr) (m : DS → M (List D)) : Prop := PA X es (xT X.K X.mg EE m)
noncomputable def QS (X : Cx) (EE : gf) (st : Stmt) (m : MS) : Prop := PS X st (kU X.K X.mg EE m)
noncomputable def Ez (X : Cx) (EE : gf) (st : List Stmt) (m : MS) : Prop := Cz X st (kU X.K X.mg EE m)
section
variable {X : Cx}
theorem PE.mono {e : Expr} {t t' : TE} (h : PE X e t) (i : ∀ σ H Q, t' σ H Q → t σ H Q) : PE X e t' := fun pins s σ H Q I q => h pins s σ H Q I (i _ _ _ q)
theorem PT.mono {e : Expr} {t t' : TT} (h : PT X e t) (i : ∀ σ H Q, t' σ H Q → t σ H Q) : PT X e t' := fun pins s σ H Q I q => h pins s σ H Q I (i _ _ _ q)
theorem PA.mono {e : List Expr} {t t' : TA} (h : PA X e t) (i : ∀ σ H Q, t' σ H Q → t σ H Q) : PA X e t' := fun pos pins s σ H Q I q => h pos pins s σ H Q I (i _ _ _ q)
theorem PS.mono {e : Stmt} {t t' : TS} (h : PS X e t) (i : ∀ D σ H, t' D σ H → t D σ H) : PS X e t' := fun pins s σ H D I q => h pins s σ H D I (i _ _ _ q)
theorem Cz.mono {e : List Stmt} {t t' : TS} (h : Cz X e t) (i : ∀ D σ H, t' D σ H → t D σ H) : Cz X e t' := fun pins s σ H D I q => h pins s σ H D I (i _ _ _ q)
end
end L3
end
section
set_option Elab.async false
set_option linter.all false
set_option maxRecDepth 100000
namespace L3
open PySem PySem.Spec L2
section
variable {X : Cx} {EE : gf} {a b c : Expr} {ma mb mc : DS → M D} {pos : Pos}
noncomputable def ai (i : Nat) : DS → M D := fun τ G => match τ[i]? with
 | some (some d) => .ok d G
 | _ => .stuck
noncomputable def eC (d : D) : DS → M D := fun _ => M.ret d
theorem Ky (i : Nat) {x : Str} {pos : Pos} (hN : X.N[i]? = some x := by rfl) (hv : JJ X.env.scope x := by first | exact Or.inl rfl | exact Or.inr (Or.inl rfl) | exact Or.inr (Or.inr rfl)) (hd : (x == ("__debug__" : Str)) = false := by decide)
  (hcd : (x == ("__classdict__" : Str)) = false := by decide) : QE X EE (.Name x pos) (ai i) := PE.mono (EF hN hv hd hcd) fun σ H Q ⟨τ, ρ, G, ab, ok⟩ => by
 unfold ai at ok
 cases e : τ[i]? with
 | none => rw [e] at ok; exact ok.elim
 | some o =>
  cases o with
  | none => rw [e] at ok; exact ok.elim
  | some d =>
   rw [e] at ok
   obtain ⟨v, e1, r⟩ := ab.st.2 i d e
   exact ⟨v, e1, ok v H ρ .refl ab r⟩
theorem DL {d : D} {v : V} {e : Expr} (h : PE X e (tC v)) (r : ∀ ρ H, Rep X.K X.mg ρ H d v) : QE X EE e (eC d) := PE.mono h fun σ H Q ⟨τ, ρ, G, ab, ok⟩ => ok v H ρ .refl ab (r ρ H)
theorem ak {i : Int} {j pos} : QE X EE (.Constant (.int i) j pos) (eC (.int i)) := DL JN fun _ _ => by unfold Rep; rfl
theorem Au {i : Bool} {j pos} : QE X EE (.Constant (.bool i) j pos) (eC (.bl i)) := DL L5 fun _ _ => by unfold Rep; rfl
theorem yT {j pos} : QE X EE (.Constant .none j pos) (eC .gg) := DL JO fun _ _ => by unfold Rep; rfl
theorem cZ {x j pos} : QE X EE (.Constant (.str x) j pos) (eC (.str x)) := DL JP fun _ _ => by unfold Rep; rfl
noncomputable def tS (K : PySem.W.Frag) (mg : Str → Option Value) (x : Str) (d : D) : Prop := ∃ u v, mg x = some u ∧ RelV v u ∧ ∀ ρ H, Rep K mg ρ H d v
theorem HN {x : Str} {d : D} {pos : Pos} (h : tS X.K X.mg x d) (hg : Gl X x := by rfl) (hd : (x == ("__debug__" : Str)) = false := by decide) : QE X EE (.Name x pos) (eC d) := by
 obtain ⟨u, v, hm, r, hr⟩ := h
 exact DL (CA hg hm r hd) hr
noncomputable def aI (f : D → D → M D) (ma mb : DS → M D) : DS → M D := fun τ => (ma τ).bind fun x => (mb τ).bind fun y => f x y
noncomputable def EW (X : Cx) (EE : gf) (r : R2) (f : D → D → M D) : Prop := ∀ (σ : L2.St) (H : Hp) (τ : DS) (ρ : List Addr) (G : DH) (x y : V) (d e : D) (Q : VK),
 Ab X.K X.mg σ H τ ρ G → Rep X.K X.mg ρ H d x → Rep X.K X.mg ρ H e y → lT X.K X.mg EE H σ τ ρ (f d e G) Q → r x y H Q
theorem uP {f : D → D → M D} {r : R2} (hd : EW X EE r f) {σ : L2.St} {H : Hp} {Q : VK} (h : dF X.K X.mg EE (aI f ma mb) σ H Q) :
  Mg r (dF X.K X.mg EE ma) (dF X.K X.mg EE mb) σ H Q := by
 obtain ⟨τ, ρ, G, ab, ok⟩ := jM (k := fun τ x => (mb τ).bind fun y => f x y) h
 refine ⟨τ, ρ, G, ab, ?_⟩
 cases e : ma τ G with
 | stuck => rw [e] at ok; exact ok
 | eN c G' => rw [e] at ok; exact ok
 | ok d G' =>
  rw [e] at ok
  intro v H' ρ' f' dm r'
  obtain ⟨τ2, ρ2, G2, d2, eL, r2, aX⟩ := ok v H' ρ' f' dm r'
  refine ⟨τ2, ρ2, G2, eL, ?_⟩
  dsimp only [M.bind] at aX
  cases e2 : mb τ2 G2 with
  | stuck => rw [e2] at aX; exact aX
  | eN c G' => rw [e2] at aX; exact aX
  | ok d3 G3 =>
   rw [e2] at aX
   exact fun v3 H3 ρ3 f3 EX r3 => hd σ H3 τ2 ρ3 G3 v v3 d2 d3 Q EX (r2.mono f3) r3 (aX.fut f3)
theorem xU {op : Operator} {r : R2} {f : D → D → M D} (ho : kT X (binaryOp op) r) (hd : EW X EE r f) (ha : QE X EE a ma) (hb : QE X EE b mb) : QE X EE (.BinOp a op b pos) (aI f ma mb) :=
 PE.mono (Mh ho ha hb) fun _ _ _ h => uP hd h
theorem EY {op : CmpOp} {r : R2} {f : D → D → M D} (ho : kT X (compareOp op) r) (hd : EW X EE r f) (ha : QE X EE a ma) (hb : QE X EE b mb) (hm : behindInMarks op b = false) : QE X EE (.Compare a [op] [b] pos) (aI f ma mb) :=
 PE.mono (Ht ho ha hb hm) fun _ _ _ h => uP hd h
theorem MF {r : R2} {f : D → D → M D} (ho : GY X r) (hd : EW X EE r f) (ha : QE X EE a ma) (hb : QE X EE b mb) (hs : uO b := by intro _ _; rfl) : QE X EE (.Subscript a b pos) (aI f ma mb) :=
 PE.mono (My ho ha hb hs) fun _ _ _ h => uP hd h
theorem EW.or {r r' : R2} {f : D → D → M D} (h : ∀ (σ : L2.St) (H : Hp) (τ : DS) (ρ : List Addr) (G : DH) (x y : V) (d e : D) (Q : VK),
 Ab X.K X.mg σ H τ ρ G → Rep X.K X.mg ρ H d x → Rep X.K X.mg ρ H e y → lT X.K X.mg EE H σ τ ρ (f d e G) Q → r x y H Q ∨ r' x y H Q) : EW X EE (fun x y H Q => r x y H Q ∨ r' x y H Q) f := h
noncomputable def jh (C : Int → Int → Bool) (g : Int → Int → D) : D → D → M D
 | .int i, .int j => if C i j then M.ret (g i j) else M.stop
 | _, _ => M.stop
theorem CF {C : Int → Int → Bool} {g : Int → Int → D} {d e : D} {G : DH} {σ : L2.St} {H : Hp} {τ : DS} {ρ : List Addr} {Q : VK} (ok : lT X.K X.mg EE H σ τ ρ (jh C g d e G) Q) :
  ∃ i j, d = .int i ∧ e = .int j ∧ C i j = true ∧ lT X.K X.mg EE H σ τ ρ (.ok (g i j) G) Q := by
 cases d <;> cases e <;> try exact ok.elim
 rename_i i j
 dsimp only [jh] at ok
 cases hc : C i j with
 | false => rw [hc] at ok; exact ok.elim
 | true => rw [hc] at ok; exact ⟨i, j, rfl, rfl, hc, ok⟩
theorem uQ {C : Int → Int → Bool} {P : Int → Int → Prop} {g : Int → Int → D} {gv : Int → Int → V} (hC : ∀ i j, C i j = true → P i j) (hg : ∀ i j ρ H, Rep X.K X.mg ρ H (g i j) (gv i j)) : EW X EE (rI P gv) (jh C g) :=
 fun σ H τ ρ G x y d e Q ab r1 r2 ok => by
  obtain ⟨i, j, rfl, rfl, hc, ok⟩ := CF ok
  unfold Rep at r1 r2
  exact ⟨i, j, r1, r2, hC i j hc, ok _ H ρ .refl ab (hg i j ρ H)⟩
theorem vo {g : Int → Int → D} {gv : Int → Int → V} (hg : ∀ i j ρ H, Rep X.K X.mg ρ H (g i j) (gv i j)) : EW X EE (J1 gv) (jh (fun _ _ => true) g) :=
 fun σ H τ ρ G x y d e Q ab r1 r2 ok => by
  obtain ⟨i, j, rfl, rfl, hc, ok⟩ := CF ok
  unfold Rep at r1 r2
  exact ⟨i, j, r1, r2, ok _ H ρ .refl ab (hg i j ρ H)⟩
noncomputable abbrev MG := jh (fun _ _ => true) fun i j => .int (i - j)
noncomputable abbrev DM := jh (fun i j => (decide (-(2 ^ 64) < i) && decide (i < 2 ^ 64)) || (decide (-(2 ^ 64) < j) && decide (j < 2 ^ 64))) fun i j => .int (i * j)
noncomputable abbrev ji := jh (fun _ j => decide (0 < j) && decide (j < 1073741824)) fun i j => .int (i / j)
noncomputable abbrev gp := jh (fun _ j => decide (0 < j)) fun i j => .int (i % j)
noncomputable abbrev HP := jh (fun i j => decide (0 ≤ j) && (decide (j ≤ 1000000) && decide (i.natAbs < 2 ^ 64))) fun i j => .int (i ^ j.toNat)
noncomputable abbrev Kz := jh (fun _ _ => true) fun i j => .bl (decide (i < j))
noncomputable abbrev MH := jh (fun _ _ => true) fun i j => .bl (decide (j < i))
theorem KA (ha : QE X EE a ma) (hb : QE X EE b mb) : QE X EE (.BinOp a .Sub b pos) (aI MG ma mb) := xU J5 (vo fun _ _ _ _ => by unfold Rep; rfl) ha hb
theorem vp (ha : QE X EE a ma) (hb : QE X EE b mb) : QE X EE (.BinOp a .Mult b pos) (aI DM ma mb) := xU J6 (uQ (fun i j h => by
 simp only [Bool.or_eq_true, Bool.and_eq_true, decide_eq_true_eq] at h; exact h) fun _ _ _ _ => by unfold Rep; rfl) ha hb
theorem fX (ha : QE X EE a ma) (hb : QE X EE b mb) : QE X EE (.BinOp a .FloorDiv b pos) (aI ji ma mb) := xU Hr (uQ (fun i j h => by
 simp only [Bool.and_eq_true, decide_eq_true_eq] at h; exact h) fun _ _ _ _ => by unfold Rep; rfl) ha hb
theorem cP (ha : QE X EE a ma) (hb : QE X EE b mb) : QE X EE (.BinOp a .Mod b pos) (aI gp ma mb) := xU J7 (uQ (fun i j h => of_decide_eq_true h) fun _ _ _ _ => by unfold Rep; rfl) ha hb
theorem EZ (ha : QE X EE a ma) (hb : QE X EE b mb) : QE X EE (.BinOp a .Pow b pos) (aI HP ma mb) := xU J8 (uQ (fun i j h => by
 simp only [Bool.and_eq_true, decide_eq_true_eq] at h; exact h) fun _ _ _ _ => by unfold Rep; rfl) ha hb
noncomputable def dg (ds : List D) : M D := fun G => if ds.length ≤ sizeLine then .ok (.obj G.length) (G ++ [.lst ds]) else .stuck
noncomputable def kW (ds : List D) : M D := fun G => if ds.length ≤ sizeLine then .ok (.tup ds) G else .stuck
theorem yU {σ : L2.St} {H : Hp} {τ : DS} {ρ : List Addr} {G : DH} {ds : List D} {vs : List V} {Q : VK} (ab : Ab X.K X.mg σ H τ ρ G) (r : aC X.K X.mg ρ H ds vs) (ok : lT X.K X.mg EE H σ τ ρ (dg ds G) Q) :
  vs.length ≤ sizeLine ∧ ∀ p, H p = none → Q (.ref p) (upd H p (.lst vs)) := by
 unfold dg at ok
 split at ok
 ·rename_i hl
  rw [r.length] at hl
  refine ⟨hl, fun p hp => ?_⟩
  have f : fH X.K H (upd H p (.lst vs)) ρ (ρ ++ [p]) := (oR hp ρ).trans (qP ρ p)
  refine ok (.ref p) _ (ρ ++ [p]) f (ab.fut f (ab.hp.more hp r)) ?_
  unfold Rep
  exact ⟨p, rfl, by rw [← ab.hp.hl, cF]⟩
 ·exact ok.elim
theorem yV {σ : L2.St} {H : Hp} {τ : DS} {ρ : List Addr} {G : DH} {ds : List D} {vs : List V} {Q : VK} (ab : Ab X.K X.mg σ H τ ρ G) (r : aC X.K X.mg ρ H ds vs) (ok : lT X.K X.mg EE H σ τ ρ (kW ds G) Q) :
  vs.length ≤ sizeLine ∧ ∀ p, H p = none → Q (.ref p) (upd H p (.tup vs)) := by
 unfold kW at ok
 split at ok
 ·rename_i hl
  rw [r.length] at hl
  refine ⟨hl, fun p hp => ?_⟩
  have f : fH X.K H (upd H p (.tup vs)) ρ ρ := oR hp ρ
  refine ok (.ref p) _ ρ f (ab.fut f (ab.hp.new hp)) ?_
  unfold Rep
  exact ⟨p, vs, rfl, .of gm, r.mono f⟩
 ·exact ok.elim
noncomputable def aB : DS → M (List D) := fun _ => M.ret []
noncomputable def ah (m : DS → M D) (r : DS → M (List D)) : DS → M (List D) := fun τ => (m τ).bind fun x => (r τ).bind fun xs => M.ret (x :: xs)
theorem aj : QA X EE [] aB := PA.mono EN fun σ H Q ⟨τ, ρ, G, ab, ok⟩ => ok [] H ρ .refl ab .nil
theorem HQ {e : Expr} {es : List Expr} {m : DS → M D} {r : DS → M (List D)} (ha : QE X EE e m) (hr : QA X EE es r) (hs : starEach (e :: es) X.env = (false, eval e X.env) :: starEach es X.env := by rfl) : QA X EE (e :: es) (ah m r) :=
 PA.mono (yM ha hr hs) fun σ H Q h => by
  obtain ⟨τ, ρ, G, ab, ok⟩ := Kv (k := fun τ x => (r τ).bind fun xs => M.ret (x :: xs)) h
  refine ⟨τ, ρ, G, ab, ?_⟩
  cases e : m τ G with
  | stuck => rw [e] at ok; exact ok
  | eN c G' => rw [e] at ok; exact ok
  | ok d G' =>
   rw [e] at ok
   intro v H' ρ' f' dm r'
   obtain ⟨τ2, ρ2, G2, d2, eL, r2, aX⟩ := ok v H' ρ' f' dm r'
   refine ⟨τ2, ρ2, G2, eL, ?_⟩
   dsimp only [M.bind] at aX
   cases e2 : r τ2 G2 with
   | stuck => rw [e2] at aX; exact aX
   | eN c G' => rw [e2] at aX; exact aX
   | ok d3 G3 =>
    rw [e2] at aX
    exact fun v3 H3 ρ3 f3 EX r3 => aX (v :: v3) H3 ρ3 f3 EX (.cons (r2.mono f3) r3)
noncomputable def aH (f : List D → M D) (m : DS → M (List D)) : DS → M D := fun τ => (m τ).bind f
theorem oS {m : DS → M (List D)} {f : List D → M D} {r : List V → Hp → VK → Prop} {σ : L2.St} {H : Hp} {Q : VK}
  (hd : ∀ (H : Hp) (τ : DS) (ρ : List Addr) (G : DH) (xs : List V) (ds : List D), Ab X.K X.mg σ H τ ρ G → aC X.K X.mg ρ H ds xs → lT X.K X.mg EE H σ τ ρ (f ds G) Q → r xs H Q)
  (h : dF X.K X.mg EE (aH f m) σ H Q) : xT X.K X.mg EE m σ H fun xs H1 => r xs H1 Q := by
 obtain ⟨τ, ρ, G, ab, ok⟩ := vm (k := fun _ => f) h
 refine ⟨τ, ρ, G, ab, ?_⟩
 cases e : m τ G with
 | stuck => rw [e] at ok; exact ok
 | eN c G' => rw [e] at ok; exact ok
 | ok d G' =>
  rw [e] at ok
  intro v H' ρ' f' dm r'
  obtain ⟨τ2, ρ2, G2, d2, eL, r2, aX⟩ := ok v H' ρ' f' dm r'
  exact hd H' τ2 ρ2 G2 v d2 eL r2 aX
theorem lU {es : List Expr} {m : DS → M (List D)} {x1} (h : QA X EE es m) : QE X EE (.Tuple es x1 pos) (aH kW m) :=
 PE.mono (Kf h) fun σ H Q h => oS (r := fun xs H1 Q => xs.length ≤ sizeLine ∧ ∀ p, H1 p = none → Q (.ref p) (upd H1 p (.tup xs))) (fun H τ ρ G xs ds ab r ok => yV ab r ok) h
theorem gS {es : List Expr} {m : DS → M (List D)} (h : QA X EE es m) : QE X EE (.List es pos) (aH dg m) :=
 PE.mono (Kg h) fun σ H Q h => oS (r := fun xs H1 Q => xs.length ≤ sizeLine ∧ ∀ p, H1 p = none → Q (.ref p) (upd H1 p (.lst xs))) (fun H τ ρ G xs ds ab r ok => yU ab r ok) h
noncomputable def CallD (X : Cx) (EE : gf) (r : List V → Hp → VK → Prop) (f : List D → M D) : Prop := ∀ (σ : L2.St) (H : Hp) (τ : DS) (ρ : List Addr) (G : DH) (xs : List V) (ds : List D) (Q : VK),
 Ab X.K X.mg σ H τ ρ G → aC X.K X.mg ρ H ds xs → lT X.K X.mg EE H σ τ ρ (f ds G) Q → r xs H Q
theorem E0 {x : Str} {p : Pos} {e : Expr} {es : List Expr} {m : DS → M (List D)} {id : String} {r : List V → Hp → VK → Prop} {f : List D → M D} (hc : gB X (.builtin id) r) (hd : CallD X EE r f) (hm : X.mg x = none) (ha : QA X EE (e :: es) m)
  (hg : Gl X x := by rfl) (hv : bootBuiltins x = some (.builtin id) := by first | rfl | decide) (hn : x ≠ "__name__" := by decide) (hdb : (x == ("__debug__" : Str)) = false := by decide)
  (he : starEach (e :: es) X.env = (false, eval e X.env) :: starEach es X.env := by rfl) (hpl : (backTo pos (starEach es X.env)).any (·.1) = false := by rfl) : QE X EE (.Call (.Name x p) (e :: es) [] pos) (aH f m) :=
 PE.mono (EO hc hg hm hv ha hn hdb he hpl) fun σ H Q h => oS (r := r) (fun H τ ρ G xs ds ab r ok => hd σ H τ ρ G xs ds Q ab r ok) h
theorem DP {x : Str} {p : Pos} {e : Expr} {es : List Expr} {m : DS → M (List D)} {T : String} {r : List V → Hp → VK → Prop} {f : List D → M D} (hc : gB X (.type T) r) (hd : CallD X EE r f) (hm : X.mg x = none) (ha : QA X EE (e :: es) m)
  (hg : Gl X x := by rfl) (hv : bootBuiltins x = some (.type T) := by first | rfl | decide) (hn : x ≠ "__name__" := by decide) (hdb : (x == ("__debug__" : Str)) = false := by decide)
  (he : starEach (e :: es) X.env = (false, eval e X.env) :: starEach es X.env := by rfl) (hpl : (backTo pos (starEach es X.env)).any (·.1) = false := by rfl) : QE X EE (.Call (.Name x p) (e :: es) [] pos) (aH f m) :=
 PE.mono (DG hc hg hm hv ha hn hdb he hpl) fun σ H Q h => oS (r := r) (fun H τ ρ G xs ds ab r ok => hd σ H τ ρ G xs ds Q ab r ok) h
noncomputable def kD (f : D → M Bool) (m : DS → M D) : DS → M Bool := fun τ => (m τ).bind f
noncomputable def qQ : D → M Bool
 | .gg => M.ret false
 | .bl b => M.ret b
 | .int i => M.ret (i != 0)
 | .str y => if y.length ≤ sizeLine then M.ret ((y.length : Int) != 0) else M.stop
 | .tup xs => M.ret (!xs.isEmpty)
 | .con xs => M.ret (!xs.isEmpty)
 | .obj n => fun G => match G[n]? with
  | some (.lst xs) => .ok (!xs.isEmpty) G
  | _ => .stuck
 | .fn _ => M.stop
 | .wU _ _ => M.stop
theorem lV {K : PySem.W.Frag} {mg : Str → Option Value} {ρ : List Addr} {H : Hp} {ds : List D} {vs : List V} (r : aC K mg ρ H ds vs) : (!vs.isEmpty) = !ds.isEmpty := by
 have := r.length
 cases ds <;> cases vs <;> first | rfl | (simp at this)
theorem E2 {m : DS → M D} {σ : L2.St} {H : Hp} {Q : Bool → Hp → Prop} (h : liftT X.K X.mg EE (kD qQ m) σ H Q) :
  dF X.K X.mg EE m σ H fun x H1 => ∃ k, Kd X.K x H1 k ∧ Q k H1 := by
 obtain ⟨τ, ρ, G, ab, ok⟩ := EV (k := fun _ => qQ) h
 refine ⟨τ, ρ, G, ab, ?_⟩
 cases e : m τ G with
 | stuck => rw [e] at ok; exact ok
 | eN c G' => rw [e] at ok; exact ok
 | ok d G' =>
  rw [e] at ok
  intro v H' ρ' f' dm r'
  obtain ⟨τ2, ρ2, G2, d2, eL, r2, aX⟩ := ok v H' ρ' f' dm r'
  cases d2 with
  | gg => unfold Rep at r2; subst r2; exact ⟨false, rfl, aX H' ρ2 .refl eL⟩
  | bl b => unfold Rep at r2; subst r2; exact ⟨b, rfl, aX H' ρ2 .refl eL⟩
  | int i => unfold Rep at r2; subst r2; exact ⟨_, rfl, aX H' ρ2 .refl eL⟩
  | str y =>
   unfold Rep at r2; subst r2
   dsimp only [qQ] at aX
   split at aX
   ·rename_i hl; exact ⟨_, ⟨hl, rfl⟩, aX H' ρ2 .refl eL⟩
   ·exact aX.elim
  | tup xs =>
   unfold Rep at r2
   obtain ⟨p, vs, rfl, sq, rs⟩ := r2
   exact ⟨!vs.isEmpty, .inr (.inl ⟨vs, sq, rfl⟩), by rw [lV rs]; exact aX H' ρ2 .refl eL⟩
  | con xs =>
   unfold Rep at r2
   obtain ⟨p, vs, rfl, sq, rs⟩ := r2
   exact ⟨!vs.isEmpty, .inl ⟨vs, sq.seq, rfl⟩, by rw [lV rs]; exact aX H' ρ2 .refl eL⟩
  | obj n =>
   unfold Rep at r2
   obtain ⟨p, rfl, e1⟩ := r2
   dsimp only [qQ] at aX
   cases q : G2[n]? with
   | none => rw [q] at aX; exact aX.elim
   | some o =>
    cases o with
    | dead => first | (rw [q] at ok; exact ok.elim) | (rw [q] at aX; exact aX.elim) | (rw [q] at e; cases e; done) | (rw [g] at ok; exact ok.elim) | (rw [g] at q; cases q; done) | (rw [g] at h; cases h; done) | (rw [g2] at ok; exact ok.elim) | (rw [g1, g2] at ok; exact ok.elim) | (rw [q1] at ok; exact ok.elim) | exact ok.elim
    | dct kv => first | (rw [q] at ok; exact ok.elim) | (rw [q] at aX; exact aX.elim) | (rw [q] at e; cases e; done) | (rw [g] at ok; exact ok.elim) | (rw [g] at q; cases q; done) | (rw [g] at h; cases h; done) | (rw [g2] at ok; exact ok.elim) | (rw [g1, g2] at ok; exact ok.elim) | (rw [q1] at ok; exact ok.elim) | exact ok.elim
    | lst xs =>
     rw [q] at aX
     obtain ⟨p', vs, e2, hp, rs⟩ := eL.hp.lst q
     rw [e1] at e2; cases e2
     exact ⟨!vs.isEmpty, .inl ⟨vs, .of hp, rfl⟩, by rw [lV rs]; exact aX H' ρ2 .refl eL⟩
  | fn x => exact aX.elim
  | wU c as => exact aX.elim
theorem KC (ha : QE X EE a ma) (he : ∀ whole, isTrue a X.env whole = (do let v ← whole; standAt a.pos; holding [v] (truthy v)) := by intro _; rfl) : QT X EE a (kD qQ ma) :=
 PT.mono (EL ha he) fun σ H Q h => E2 h
end
end L3
end
section
set_option Elab.async false
set_option linter.all false
set_option maxRecDepth 100000
namespace L3
open PySem PySem.Spec L2
noncomputable def dN {α β : Type} (f : α → Option β) : List α → Option (List β)
 | [] => some []
 | a :: r => match f a, dN f r with
  | some b, some bs => some (b :: bs)
  | _, _ => none
noncomputable def nG (G : DH) : Nat → D → Option PyData
 | 0, _ => none
 | _ + 1, .gg => some .none
 | _ + 1, .bl b => some (.bool b)
 | _ + 1, .int i => some (.int i)
 | _ + 1, .str x => some (.str x)
 | n + 1, .tup ds => (dN (nG G n) ds).map .tuple
 | n + 1, .con ds => (dN (nG G n) ds).map .list
 | n + 1, .obj k => match G[k]? with
  | some (.lst ds) => (dN (nG G n) ds).map .list
  | _ => none
 | _ + 1, .fn _ => none
 | _ + 1, .wU _ _ => none
section
variable {X : Cx} {EE : gf} {pins : List (Addr × Obj)} {σ : L2.St} {H : Hp} {s : Shared} {ρ : List Addr} {G : DH}
theorem readsAll {f : D → Option PyData} (hf : ∀ (d : D) (x : V) (u : Value) (p : PyData), Rep X.K X.mg ρ H d x → RelV x u → f d = some p → ∃ as, Reads s.heap u p as) :
  ∀ (ds : List D) (xs : List V) (us : List Value) (ps : List PyData), aC X.K X.mg ρ H ds xs → Vals xs us → dN f ds = some ps → ∃ as, ReadsAll s.heap us ps as
 | [], xs, us, ps, r, v, e => by
  unfold aC at r; subst r
  cases v; cases e
  exact ⟨[], .nil⟩
 | d :: ds, xs, us, ps, r, v, e => by
  unfold aC at r
  obtain ⟨x, r', rfl, h1, h2⟩ := r
  cases v with
  | cons v1 v2 =>
  unfold dN at e
  cases e1 : f d with
  | none => rw [e1] at e; cases e
  | some p =>
   cases e2 : dN f ds with
   | none => rw [e1, e2] at e; cases e
   | some qs =>
    rw [e1, e2] at e
    cases e
    obtain ⟨as, a1⟩ := hf d x _ p h1 v1 e1
    obtain ⟨bs, a2⟩ := readsAll hf ds r' _ qs h2 v2 e2
    exact ⟨as ++ bs, .cons a1 a2⟩
theorem dW (I : Inv X pins σ H s) (hp : kP X.K X.mg H ρ G) : ∀ (n : Nat) (d : D) (x : V) (u : Value) (p : PyData), Rep X.K X.mg ρ H d x → RelV x u → nG G n d = some p → ∃ as, Reads s.heap u p as
 | 0, _, _, _, _, _, _, e => nomatch e
 | n + 1, .gg, x, u, p, r, v, e => by unfold Rep at r; subst r; cases v; cases e; exact ⟨_, .none⟩
 | n + 1, .bl b, x, u, p, r, v, e => by unfold Rep at r; subst r; cases v; cases e; exact ⟨_, .bool b⟩
 | n + 1, .int i, x, u, p, r, v, e => by unfold Rep at r; subst r; obtain ⟨t, rfl⟩ := v; cases e; exact ⟨_, .int i t⟩
 | n + 1, .str y, x, u, p, r, v, e => by unfold Rep at r; subst r; obtain ⟨t, rfl⟩ := v; cases e; exact ⟨_, .str y t⟩
 | n + 1, .tup ds, x, u, p, r, v, e => by
  unfold Rep at r
  obtain ⟨a, xs, rfl, sq, rs⟩ := r
  cases v
  obtain ⟨its, vs, ⟨o, e1, e2, k, e3⟩, _⟩ := I.tuple sq
  unfold nG at e
  cases q : dN (nG G n) ds with
  | none => rw [q] at e; cases e
  | some ps =>
   rw [q] at e; cases e
   obtain ⟨as, ra⟩ := readsAll (fun d x u p => dW I hp n d x u p) ds xs its ps rs vs q
   exact ⟨as, .tuple e1 e2 e3 (by simpa using ra)⟩
 | n + 1, .con ds, x, u, p, r, v, e => by
  unfold Rep at r
  obtain ⟨a, xs, rfl, sq, rs⟩ := r
  cases v
  obtain ⟨its, vs, ⟨o, k, e1, e2, e3, e4⟩, _⟩ := I.list sq.seq
  unfold nG at e
  cases q : dN (nG G n) ds with
  | none => rw [q] at e; cases e
  | some ps =>
   rw [q] at e; cases e
   obtain ⟨as, ra⟩ := readsAll (fun d x u p => dW I hp n d x u p) ds xs its ps rs vs q
   exact ⟨_, .list e1 e2 e4 (by simpa using ra)⟩
 | n + 1, .obj k, x, u, p, r, v, e => by
  unfold Rep at r
  obtain ⟨a, rfl, e0⟩ := r
  cases v
  dsimp only [nG] at e
  cases q : G[k]? with
  | none => rw [q] at e; cases e
  | some o =>
   cases o with
   | dead => first | (rw [q] at ok; exact ok.elim) | (rw [q] at aX; exact aX.elim) | (rw [q] at e; cases e; done) | (rw [g] at ok; exact ok.elim) | (rw [g] at q; cases q; done) | (rw [g] at h; cases h; done) | (rw [g2] at ok; exact ok.elim) | (rw [g1, g2] at ok; exact ok.elim) | (rw [q1] at ok; exact ok.elim) | exact ok.elim
   | dct kv => first | (rw [q] at ok; exact ok.elim) | (rw [q] at aX; exact aX.elim) | (rw [q] at e; cases e; done) | (rw [g] at ok; exact ok.elim) | (rw [g] at q; cases q; done) | (rw [g] at h; cases h; done) | (rw [g2] at ok; exact ok.elim) | (rw [g1, g2] at ok; exact ok.elim) | (rw [q1] at ok; exact ok.elim) | exact ok.elim
   | lst ds =>
    rw [q] at e
    obtain ⟨a', xs, e1, e2, rs⟩ := hp.lst q
    rw [e0] at e1; cases e1
    obtain ⟨its, vs, ⟨o, k, e1, e2, e3, e4⟩, _⟩ := I.list (.of e2)
    dsimp only at e
    cases q : dN (nG G n) ds with
    | none => rw [q] at e; cases e
    | some ps =>
     rw [q] at e; cases e
     obtain ⟨as, ra⟩ := readsAll (fun d x u p => dW I hp n d x u p) ds xs its ps rs vs q
     exact ⟨_, .list e1 e2 e4 (by simpa using ra)⟩
 | n + 1, .fn y, x, u, p, r, v, e => nomatch e
 | n + 1, .wU y _, x, u, p, r, v, e => nomatch e
end
section
variable {X : Cx} {EE : gf} {a b c : Expr} {ma mb mc : DS → M D} {pos : Pos}
noncomputable def rD (X : Cx) (EE : gf) (f : D → D → M D) : R2 := fun x y H Q => ∃ σ τ ρ G d e, Ab X.K X.mg σ H τ ρ G ∧ Rep X.K X.mg ρ H d x ∧ Rep X.K X.mg ρ H e y ∧ lT X.K X.mg EE H σ τ ρ (f d e G) Q
theorem nT {f : D → D → M D} : EW X EE (rD X EE f) f := fun σ H τ ρ G x y d e Q ab r1 r2 ok => ⟨σ, τ, ρ, G, d, e, ab, r1, r2, ok⟩
theorem MJ {f : D → D → M D} {r : R2} (h : EW X EE r f) {x y : V} {H : Hp} {Q : VK} (q : rD X EE f x y H Q) : r x y H Q := by
 obtain ⟨σ, τ, ρ, G, d, e, ab, r1, r2, ok⟩ := q
 exact h σ H τ ρ G x y d e Q ab r1 r2 ok
noncomputable abbrev deep : Nat := 600
noncomputable def BH (d e : D) (G : DH) : Option Bool := match nG G deep d, nG G deep e with
 | some p, some q => if p.canLay0 && (q.canLay0 && decide (min p.depth q.depth ≤ 580)) then some (PyData.eqv p q) else none
 | _, _ => none
noncomputable def nU (neg : Bool) (d e : D) : M D := fun G => match BH d e G with
 | some b => .ok (.bl (neg ^^ b)) G
 | none => .stuck
theorem jN (hu : X.A.units + 600 < cLine) : kT X (compareOp .Eq) (rD X EE (nU false)) := by
 intro pins s σ0 H x y v u Q I rx ry ⟨σ, τ, ρ, G, d, e, ab, r1, r2, ok⟩
 dsimp only [nU, BH] at ok
 cases e1 : nG G deep d with
 | none => rw [e1] at ok; exact ok.elim
 | some p =>
  cases e2 : nG G deep e with
  | none => rw [e1, e2] at ok; exact ok.elim
  | some q =>
   rw [e1, e2] at ok
   dsimp only at ok
   by_cases hc : (p.canLay0 && (q.canLay0 && decide (min p.depth q.depth ≤ 580))) = true
   ·rw [if_pos hc] at ok
    simp only [Bool.and_eq_true, decide_eq_true_eq] at hc
    obtain ⟨as, ra⟩ := dW I ab.hp deep d x v p r1 rx e1
    obtain ⟨bs, rb⟩ := dW I ab.hp deep e y u q r2 ry e2
    refine SeqAt.compareEq_reads ra rb hc.1 hc.2.1 (by omega) ⟨.bl _, H, I, rfl, ?_⟩
    have := ok (.bl _) H ρ .refl ab (by unfold Rep; rfl)
    simpa using this
   ·rw [if_neg hc] at ok; exact ok.elim
theorem yW (hu : X.A.units + 600 < cLine) : kT X (compareOp .NotEq) (rD X EE (nU true)) := by
 intro pins s σ0 H x y v u Q I rx ry ⟨σ, τ, ρ, G, d, e, ab, r1, r2, ok⟩
 dsimp only [nU, BH] at ok
 cases e1 : nG G deep d with
 | none => rw [e1] at ok; exact ok.elim
 | some p =>
  cases e2 : nG G deep e with
  | none => rw [e1, e2] at ok; exact ok.elim
  | some q =>
   rw [e1, e2] at ok
   dsimp only at ok
   by_cases hc : (p.canLay0 && (q.canLay0 && decide (min p.depth q.depth ≤ 580))) = true
   ·rw [if_pos hc] at ok
    simp only [Bool.and_eq_true, decide_eq_true_eq] at hc
    obtain ⟨as, ra⟩ := dW I ab.hp deep d x v p r1 rx e1
    obtain ⟨bs, rb⟩ := dW I ab.hp deep e y u q r2 ry e2
    refine SeqAt.compareNe_reads ra rb hc.1 hc.2.1 (by omega) ⟨.bl _, H, I, rfl, ?_⟩
    have := ok (.bl _) H ρ .refl ab (by unfold Rep; rfl)
    simpa using this
   ·rw [if_neg hc] at ok; exact ok.elim
theorem E3 (hu : X.A.units + 600 < cLine) (ha : QE X EE a ma) (hb : QE X EE b mb) : QE X EE (.Compare a [.Eq] [b] pos) (aI (nU false) ma mb) := EY (jN hu) nT ha hb (Kc _)
inductive Qm where
 | lst (xs : List D) | tup (xs : List D) | str (x : Str)
noncomputable def dh (G : DH) : D → Option Qm
 | .tup xs => some (.tup xs)
 | .con xs => some (.lst xs)
 | .obj n => match G[n]? with
  | some (.lst xs) => some (.lst xs)
  | _ => none
 | .str x => some (.str x)
 | _ => none
noncomputable def G5 (d : D) (ds : List D) (G : DH) : Option Bool := match nG G deep d, dN (nG G deep) ds with
 | some p, some qs => if p.canLay0 && (PyData.canLayAll0 qs && decide (min (PyData.depthAll qs) p.depth ≤ 580)) then some (qs.any fun y => PyData.eqv y p) else none
 | _, _ => none
noncomputable def xV (neg : Bool) (d e : D) : M D := fun G => match dh G e with
 | some (.lst ds) => match G5 d ds G with
  | some b => .ok (.bl (neg ^^ b)) G
  | none => .stuck
 | some (.tup ds) => match G5 d ds G with
  | some b => .ok (.bl (neg ^^ b)) G
  | none => .stuck
 | some (.str j) => match d with
  | .str i => .ok (.bl (neg ^^ !(Builtin.Str.occurrences j i 0 j.length 1).isEmpty)) G
  | _ => .stuck
 | none => .stuck
theorem e9 {pins : List (Addr × Obj)} {σ0 : L2.St} {H : Hp} {s : Shared} {ρ : List Addr} {G : DH} {d : D} {ds : List D} {x : V} (h : kP X.K X.mg H ρ G) (r : Rep X.K X.mg ρ H d x) (e : dh G d = some (.lst ds)) :
  ∃ p xs, x = .ref p ∧ tP X.K H p xs ∧ aC X.K X.mg ρ H ds xs := by
 cases d with
 | con xs =>
  cases e
  unfold Rep at r
  obtain ⟨a, xs, rfl, sq, rs⟩ := r
  exact ⟨a, xs, rfl, sq.seq, rs⟩
 | obj n =>
  unfold Rep at r
  obtain ⟨a, rfl, e0⟩ := r
  dsimp only [dh] at e
  cases q : G[n]? with
  | none => rw [q] at e; cases e
  | some o =>
   cases o with
   | dead => first | (rw [q] at ok; exact ok.elim) | (rw [q] at aX; exact aX.elim) | (rw [q] at e; cases e; done) | (rw [g] at ok; exact ok.elim) | (rw [g] at q; cases q; done) | (rw [g] at h; cases h; done) | (rw [g2] at ok; exact ok.elim) | (rw [g1, g2] at ok; exact ok.elim) | (rw [q1] at ok; exact ok.elim) | exact ok.elim
   | dct kv => first | (rw [q] at ok; exact ok.elim) | (rw [q] at aX; exact aX.elim) | (rw [q] at e; cases e; done) | (rw [g] at ok; exact ok.elim) | (rw [g] at q; cases q; done) | (rw [g] at h; cases h; done) | (rw [g2] at ok; exact ok.elim) | (rw [g1, g2] at ok; exact ok.elim) | (rw [q1] at ok; exact ok.elim) | exact ok.elim
   | lst ys =>
    rw [q] at e; cases e
    obtain ⟨a', xs, e1, e2, rs⟩ := h.lst q
    rw [e0] at e1; cases e1
    exact ⟨a, xs, rfl, .of e2, rs⟩
 | _ => cases e
theorem jI {H : Hp} {ρ : List Addr} {G : DH} {d : D} {ds : List D} {x : V} (r : Rep X.K X.mg ρ H d x) (e : dh G d = some (.tup ds)) :
  ∃ p xs, x = .ref p ∧ tQ X.K H p xs ∧ aC X.K X.mg ρ H ds xs := by
 cases d with
 | tup xs =>
  cases e
  unfold Rep at r
  obtain ⟨a, xs, rfl, sq, rs⟩ := r
  exact ⟨a, xs, rfl, sq, rs⟩
 | obj n =>
  dsimp only [dh] at e
  cases q : G[n]? with
  | none => rw [q] at e; cases e
  | some o => cases o <;> (rw [q] at e; cases e)
 | _ => cases e
theorem kX {H : Hp} {ρ : List Addr} {G : DH} {d : D} {y : Str} {x : V} (r : Rep X.K X.mg ρ H d x) (e : dh G d = some (.str y)) : d = .str y ∧ x = .str y := by
 cases d with
 | str z => cases e; unfold Rep at r; exact ⟨rfl, r⟩
 | obj n =>
  dsimp only [dh] at e
  cases q : G[n]? with
  | none => rw [q] at e; cases e
  | some o => cases o <;> (rw [q] at e; cases e)
 | _ => cases e
theorem E4 {pins : List (Addr × Obj)} {σ0 : L2.St} {H : Hp} {s : Shared} {ρ : List Addr} {G : DH} {p : Addr} {xs : List V} {ds : List D} {qs : List PyData} (I : Inv X pins σ0 H s) (hp : kP X.K X.mg H ρ G) (sq : tP X.K H p xs) (rs : aC X.K X.mg ρ H ds xs)
  (e : dN (nG G deep) ds = some qs) : ∃ as, Reads s.heap (.ref p) (.list qs) as := by
 obtain ⟨its, vs, ⟨o, k, e1, e2, e3, e4⟩, _⟩ := I.list sq
 obtain ⟨as, ra⟩ := readsAll (fun d x u p => dW I hp deep d x u p) ds xs its qs rs vs e
 exact ⟨_, .list e1 e2 e4 (by simpa using ra)⟩
theorem E5 {pins : List (Addr × Obj)} {σ0 : L2.St} {H : Hp} {s : Shared} {ρ : List Addr} {G : DH} {p : Addr} {xs : List V} {ds : List D} {qs : List PyData} (I : Inv X pins σ0 H s) (hp : kP X.K X.mg H ρ G) (sq : tQ X.K H p xs) (rs : aC X.K X.mg ρ H ds xs)
  (e : dN (nG G deep) ds = some qs) : ∃ as, Reads s.heap (.ref p) (.tuple qs) as := by
 obtain ⟨its, vs, ⟨o, e1, e2, k, e3⟩, _⟩ := I.tuple sq
 obtain ⟨as, ra⟩ := readsAll (fun d x u p => dW I hp deep d x u p) ds xs its qs rs vs e
 exact ⟨_, .tuple e1 e2 e3 (by simpa using ra)⟩
theorem qR {d : D} {ds : List D} {G : DH} {b : Bool} (h : G5 d ds G = some b) : ∃ p qs, nG G deep d = some p ∧ dN (nG G deep) ds = some qs ∧ p.canLay0 = true ∧ PyData.canLayAll0 qs = true ∧ min (PyData.depthAll qs) p.depth ≤ 580 ∧ b = qs.any fun y => PyData.eqv y p := by
 unfold G5 at h
 cases e1 : nG G deep d with
 | none => rw [e1] at h; cases h
 | some p =>
  cases e2 : dN (nG G deep) ds with
  | none => rw [e1, e2] at h; cases h
  | some qs =>
   rw [e1, e2] at h
   dsimp only at h
   by_cases hc : (p.canLay0 && (PyData.canLayAll0 qs && decide (min (PyData.depthAll qs) p.depth ≤ 580))) = true
   ·rw [if_pos hc] at h
    simp only [Bool.and_eq_true, decide_eq_true_eq] at hc
    exact ⟨p, qs, rfl, rfl, hc.1, hc.2.1, hc.2.2, (Option.some.inj h).symm⟩
   ·rw [if_neg hc] at h; cases h
theorem yX (hu : X.A.units + 600 < cLine) : kT X (compareOp .In) (rD X EE (xV false)) := by
 intro pins s σ0 H x y v u Q I rx ry ⟨σ, τ, ρ, G, d, e, ab, r1, r2, ok⟩
 dsimp only [xV] at ok
 cases q : dh G e with
 | none => rw [q] at ok; exact ok.elim
 | some sk =>
  rw [q] at ok
  cases sk with
  | lst ds =>
   dsimp only at ok
   cases qb : G5 d ds G with
   | none => rw [qb] at ok; exact ok.elim
   | some b =>
    rw [qb] at ok
    obtain ⟨p, qs, e1, e2, h1, h2, h3, rfl⟩ := qR qb
    obtain ⟨l, xs, rfl, sq, rs⟩ := e9 (pins := pins) (σ0 := σ0) (s := s) ab.hp r2 q
    cases ry
    obtain ⟨as, ra⟩ := dW I ab.hp deep d x v p r1 rx e1
    obtain ⟨bs, rb⟩ := E4 I ab.hp sq rs e2
    refine SeqAt.in_list_reads rb ra h2 h1 (by omega) ⟨.bl _, H, I, rfl, ?_⟩
    have := ok (.bl _) H ρ .refl ab (by unfold Rep; rfl)
    simpa using this
  | tup ds =>
   dsimp only at ok
   cases qb : G5 d ds G with
   | none => rw [qb] at ok; exact ok.elim
   | some b =>
    rw [qb] at ok
    obtain ⟨p, qs, e1, e2, h1, h2, h3, rfl⟩ := qR qb
    obtain ⟨l, xs, rfl, sq, rs⟩ := jI r2 q
    cases ry
    obtain ⟨as, ra⟩ := dW I ab.hp deep d x v p r1 rx e1
    obtain ⟨bs, rb⟩ := E5 I ab.hp sq rs e2
    refine SeqAt.in_tuple_reads rb ra h2 h1 (by omega) ⟨.bl _, H, I, rfl, ?_⟩
    have := ok (.bl _) H ρ .refl ab (by unfold Rep; rfl)
    simpa using this
  | str j =>
   obtain ⟨rfl, rfl⟩ := kX r2 q
   cases d with
   | str i =>
    unfold Rep at r1; subst r1
    refine DC pins s σ0 H _ _ v u Q I rx ry ⟨i, j, rfl, rfl, ?_⟩
    have := ok (.bl _) H ρ .refl ab (by unfold Rep; rfl)
    simpa using this
   | _ => exact ok.elim
theorem DQ (hu : X.A.units + 600 < cLine) : kT X (compareOp .NotIn) (rD X EE (xV true)) := by
 intro pins s σ0 H x y v u Q I rx ry ⟨σ, τ, ρ, G, d, e, ab, r1, r2, ok⟩
 dsimp only [xV] at ok
 cases q : dh G e with
 | none => rw [q] at ok; exact ok.elim
 | some sk =>
  rw [q] at ok
  cases sk with
  | lst ds =>
   dsimp only at ok
   cases qb : G5 d ds G with
   | none => rw [qb] at ok; exact ok.elim
   | some b =>
    rw [qb] at ok
    obtain ⟨p, qs, e1, e2, h1, h2, h3, rfl⟩ := qR qb
    obtain ⟨l, xs, rfl, sq, rs⟩ := e9 (pins := pins) (σ0 := σ0) (s := s) ab.hp r2 q
    cases ry
    obtain ⟨as, ra⟩ := dW I ab.hp deep d x v p r1 rx e1
    obtain ⟨bs, rb⟩ := E4 I ab.hp sq rs e2
    refine SeqAt.notIn_list_reads rb ra h2 h1 (by omega) ⟨.bl _, H, I, rfl, ?_⟩
    have := ok (.bl _) H ρ .refl ab (by unfold Rep; rfl)
    simpa using this
  | tup ds =>
   dsimp only at ok
   cases qb : G5 d ds G with
   | none => rw [qb] at ok; exact ok.elim
   | some b =>
    rw [qb] at ok
    obtain ⟨p, qs, e1, e2, h1, h2, h3, rfl⟩ := qR qb
    obtain ⟨l, xs, rfl, sq, rs⟩ := jI r2 q
    cases ry
    obtain ⟨as, ra⟩ := dW I ab.hp deep d x v p r1 rx e1
    obtain ⟨bs, rb⟩ := E5 I ab.hp sq rs e2
    refine SeqAt.notIn_tuple_reads rb ra h2 h1 (by omega) ⟨.bl _, H, I, rfl, ?_⟩
    have := ok (.bl _) H ρ .refl ab (by unfold Rep; rfl)
    simpa using this
  | str j =>
   obtain ⟨rfl, rfl⟩ := kX r2 q
   cases d with
   | str i =>
    unfold Rep at r1; subst r1
    refine yK pins s σ0 H _ _ v u Q I rx ry ⟨i, j, rfl, rfl, ?_⟩
    have := ok (.bl _) H ρ .refl ab (by unfold Rep; rfl)
    simpa using this
   | _ => exact ok.elim
theorem MK (hu : X.A.units + 600 < cLine) (ha : QE X EE a ma) (hb : QE X EE b mb) (hm : behindInMarks .In b = false := by first | rfl | (with_unfolding_all rfl)) : QE X EE (.Compare a [.In] [b] pos) (aI (xV false) ma mb) := EY (yX hu) nT ha hb hm
noncomputable def Av (neg : Bool) : D → D → M D
 | d, .gg => match d with
  | .gg => M.ret (.bl (!neg))
  | _ => M.ret (.bl neg)
 | _, _ => M.stop
theorem CG {K : PySem.W.Frag} {mg : Str → Option Value} {ρ : List Addr} {H : Hp} {d : D} {x : V} (r : Rep K mg ρ H d x) : decide (x = .gg) = (match d with | .gg => true | _ => false) := by
 cases d <;> unfold Rep at r
 case gg => subst r; rfl
 case tup => obtain ⟨a, xs, rfl, _⟩ := r; rfl
 case con => obtain ⟨a, xs, rfl, _⟩ := r; rfl
 case obj => obtain ⟨a, rfl, _⟩ := r; rfl
 case fn => obtain ⟨a, rfl, _⟩ := r; rfl
 case wU => obtain ⟨a, cv, rfl, _⟩ := r; rfl
 all_goals (subst r; rfl)
end
end L3
end
section
set_option Elab.async false
set_option linter.all false
set_option maxRecDepth 100000
namespace L3
open PySem PySem.Spec L2
section
variable {X : Cx} {EE : gf} {a b c : Expr} {ma mb mc : DS → M D} {pos : Pos}
noncomputable def fu (d e : D) : M D := fun G => match e with
 | .int i => match dh G d with
  | some (.lst xs) => match i8 xs i with
   | some v => .ok v G
   | none => .stuck
  | some (.tup xs) => match i8 xs i with
   | some v => .ok v G
   | none => .stuck
  | some (.str z) => if z.length ≤ sizeLine then (match i8 z.cps.toList i with
   | some c => .ok (.str ⟨#[c]⟩) G
   | none => .stuck) else .stuck
  | none => .stuck
 | _ => .stuck
theorem Aw {K : PySem.W.Frag} {mg : Str → Option Value} {ρ : List Addr} {H : Hp} {ds : List D} {vs : List V} {i : Int} {d : D} (r : aC K mg ρ H ds vs) (h : i8 ds i = some d) : ∃ v, i8 vs i = some v ∧ Rep K mg ρ H d v := by
 unfold i8 at h ⊢
 rw [← r.length]
 cases e : Jd ds.length i with
 | none => rw [e] at h; cases h
 | some j =>
  rw [e] at h
  obtain ⟨v, e1, e2⟩ := r.get (show ds[j]? = some d from h)
  exact ⟨v, e1, e2⟩
theorem Qn : GY X (rD X EE fu) := by
 intro value slice pins s σ0 H x y v u Q I rx ry ⟨σ, τ, ρ, G, d, e, ab, r1, r2, ok⟩ hs
 cases e <;> try exact ok.elim
 rename_i i
 unfold Rep at r2; subst r2
 dsimp only [fu] at ok
 cases q : dh G d with
 | none => rw [q] at ok; exact ok.elim
 | some sk =>
  rw [q] at ok
  cases sk with
  | lst ds =>
   dsimp only at ok
   cases qa : i8 ds i with
   | none => rw [qa] at ok; exact ok.elim
   | some z =>
    rw [qa] at ok
    obtain ⟨l, xs, rfl, sq, rs⟩ := e9 (pins := pins) (σ0 := σ0) (s := s) ab.hp r1 q
    obtain ⟨w, e1, e2⟩ := Aw rs qa
    exact HC value slice pins s σ0 H _ _ v u Q I rx ry ⟨l, xs, i, w, rfl, rfl, sq, e1, ok w H ρ .refl ab e2⟩ hs
  | tup ds =>
   dsimp only at ok
   cases qa : i8 ds i with
   | none => rw [qa] at ok; exact ok.elim
   | some z =>
    rw [qa] at ok
    obtain ⟨l, xs, rfl, sq, rs⟩ := jI r1 q
    obtain ⟨w, e1, e2⟩ := Aw rs qa
    exact Ko value slice pins s σ0 H _ _ v u Q I rx ry ⟨l, xs, i, w, rfl, rfl, sq, e1, ok w H ρ .refl ab e2⟩ hs
  | str z =>
   dsimp only at ok
   obtain ⟨rfl, rfl⟩ := kX r1 q
   by_cases hz : z.length ≤ sizeLine
   ·rw [if_pos hz] at ok
    cases qa : i8 z.cps.toList i with
    | none => rw [qa] at ok; exact ok.elim
    | some c =>
     rw [qa] at ok
     exact Kp value slice pins s σ0 H _ _ v u Q I rx ry ⟨z, i, c, rfl, rfl, hz, qa, ok _ H ρ .refl ab (by unfold Rep; rfl)⟩ hs
   ·rw [if_neg hz] at ok; exact ok.elim
theorem E6 (ha : QE X EE a ma) (hb : QE X EE b mb) (hs : uO b := by intro _ _; rfl) : QE X EE (.Subscript a b pos) (aI fu ma mb) := MF Qn nT ha hb hs
noncomputable def xW : DS → M (Option Int) := fun _ => M.ret none
noncomputable def ng (m : DS → M D) : DS → M (Option Int) := fun τ => (m τ).bind fun d => match d with
 | .int i => M.ret (some i)
 | _ => M.stop
noncomputable def UT (K : PySem.W.Frag) (mg : Str → Option Value) (EE : gf) (H : Hp) (σ : L2.St) (τ : DS) (ρ : List Addr) : Out (Option Int) → (Option Int → Hp → Prop) → Prop
 | .stuck, _ => False
 | .ok b G', Q => ∀ H' ρ', fH K H H' ρ ρ' → Ab K mg σ H' τ ρ' G' → Q b H'
 | .eN c G', _ => ∀ H' ρ', fH K H H' ρ ρ' → Ab K mg σ H' τ ρ' G' → EE c σ H'
noncomputable def ML (K : PySem.W.Frag) (mg : Str → Option Value) (EE : gf) (m : DS → M (Option Int)) : TO := fun σ H Q => ∃ τ ρ G, Ab K mg σ H τ ρ G ∧ UT K mg EE H σ τ ρ (m τ G) Q
noncomputable def QO (X : Cx) (EE : gf) (e : Option Expr) (m : DS → M (Option Int)) : Prop := PO X e (ML X.K X.mg EE m)
theorem PO.mono {e : Option Expr} {t t' : TO} (h : PO X e t) (i : ∀ σ H Q, t' σ H Q → t σ H Q) : PO X e t' := fun pins s σ H Q I q => h pins s σ H Q I (i _ _ _ q)
theorem uR : QO X EE none xW := PO.mono Hy fun σ H Q ⟨τ, ρ, G, ab, ok⟩ => ok H ρ .refl ab
theorem j5 (ha : QE X EE a ma) : QO X EE (some a) (ng ma) := PO.mono (Hz ha) fun σ H Q ⟨τ, ρ, G, ab, ok⟩ => by
 refine ⟨τ, ρ, G, ab, ?_⟩
 dsimp only [ng, M.bind] at ok
 cases e : ma τ G with
 | stuck => rw [e] at ok; exact ok
 | eN c G' => rw [e] at ok; exact ok
 | ok d G' =>
  rw [e] at ok
  intro v H' ρ' f dm r
  cases d <;> try exact ok.elim
  rename_i i
  unfold Rep at r
  exact ⟨i, r, ok H' ρ' f dm⟩
noncomputable def cutD (xs : List D) (lo hi : Option Int) : List D := (xs.drop (HT.gk xs.length 0 lo)).take (HT.gk xs.length xs.length hi - HT.gk xs.length 0 lo)
noncomputable def G6 (d : D) (lo hi : Option Int) : M D := fun G => match dh G d with
 | some (.lst xs) => dg (cutD xs lo hi) G
 | some (.tup xs) => if HT.gk xs.length 0 lo = 0 ∧ HT.gk xs.length xs.length hi = xs.length then .stuck else kW (cutD xs lo hi) G
 | some (.str z) => if z.length ≤ sizeLine then .ok (.str (Txt.slice z lo hi)) G else .stuck
 | none => .stuck
noncomputable def HR (m : DS → M D) (ml mh : DS → M (Option Int)) : DS → M D := fun τ => (m τ).bind fun d => (ml τ).bind fun lo => (mh τ).bind fun hi => G6 d lo hi
noncomputable def Qo (X : Cx) (EE : gf) : V → Option Int → Option Int → Hp → VK → Prop := fun x lo hi H Q => ∃ σ τ ρ G d, Ab X.K X.mg σ H τ ρ G ∧ Rep X.K X.mg ρ H d x ∧ lT X.K X.mg EE H σ τ ρ (G6 d lo hi G) Q
theorem Ax {K : PySem.W.Frag} {mg : Str → Option Value} {ρ : List Addr} {H : Hp} {ds : List D} {vs : List V} (r : aC K mg ρ H ds vs) (lo hi : Option Int) : aC K mg ρ H (cutD ds lo hi) (Ar vs lo hi) := by
 unfold cutD Ar
 rw [r.length]
 exact (r.drop _).take _
theorem oU (x : Str) (l u : Option (Int × Tok)) (lo hi : Option Int) (hl : l.map (·.1) = lo) (hu : u.map (·.1) = hi) (t : Tok) (s : Shared) (Q : Value → Shared → Prop) (hz : x.length ≤ sizeLine)
  (h : ∀ t' k, Q (.str (Txt.slice x lo hi) t') { s with toks := k }) : (sliceMade x t l u none).post Q s := by
 subst hl hu
 cases l <;> cases u <;> exact post_val_or_str ⟨Nat.le_trans (Txt.slice_le x _ _) hz, fun t' k => h t' k⟩
theorem Qp : Jc X (Qo X EE) := by
 intro pins s σ0 H x v vl vu lo hi sl Q I rx hs pl pu ⟨σ, τ, ρ, G, d, ab, r1, ok⟩
 dsimp only [G6] at ok
 cases q : dh G d with
 | none => rw [q] at ok; exact ok.elim
 | some sk =>
  rw [q] at ok
  cases sk with
  | lst ds =>
   obtain ⟨l, xs, rfl, sq, rs⟩ := e9 (pins := pins) (σ0 := σ0) (s := s) ab.hp r1 q
   exact HE pins s σ0 H _ v vl vu lo hi sl Q I rx hs pl pu ⟨l, xs, rfl, sq, (yU ab (Ax rs lo hi) ok).2⟩
  | tup ds =>
   obtain ⟨l, xs, rfl, sq, rs⟩ := jI r1 q
   dsimp only at ok
   by_cases hw : HT.gk ds.length 0 lo = 0 ∧ HT.gk ds.length ds.length hi = ds.length
   ·rw [if_pos hw] at ok; exact ok.elim
   ·rw [if_neg hw] at ok
    refine Kn pins s σ0 H _ v vl vu lo hi sl Q I rx hs pl pu ⟨l, xs, rfl, sq, ?_, (yV ab (Ax rs lo hi) ok).2⟩
    rw [← rs.length]; exact hw
  | str z =>
   obtain ⟨rfl, rfl⟩ := kX r1 q
   dsimp only at ok
   by_cases hz : z.length ≤ sizeLine
   ·rw [if_pos hz] at ok
    obtain ⟨t, rfl⟩ := rx
    refine ⟨"str", _, F.slot_str_getitem.lookup, typeIs_str _ _ _, ?_⟩
    obtain ⟨o, e1, e2, e3⟩ := hs
    refine nS I.os.2 ?_
    have fin : ∀ t' k, 0 < k → EP X pins σ0 Q (.str (Txt.slice z lo hi) t') { s with toks := k } := fun t' k ht => ⟨.str _, H, I.tok k, ⟨t', rfl⟩, ok _ H ρ .refl ab (by unfold Rep; rfl)⟩
    cases pl with
    | none =>
     cases pu with
     | none => exact wpAny_getItem_str_slice (l := none) (u := none) (st := none) ⟨o, e1, e2, e3⟩ rfl (oU z none none none none rfl rfl t s _ hz fin)
     | int j tj => exact wpAny_getItem_str_slice (l := none) (u := some (j, tj)) (st := none) ⟨o, e1, e2, e3⟩ rfl (oU z none (some (j, tj)) none (some j) rfl rfl t s _ hz fin)
    | int i ti =>
     cases pu with
     | none => exact wpAny_getItem_str_slice (l := some (i, ti)) (u := none) (st := none) ⟨o, e1, e2, e3⟩ rfl (oU z (some (i, ti)) none (some i) none rfl rfl t s _ hz fin)
     | int j tj => exact wpAny_getItem_str_slice (l := some (i, ti)) (u := some (j, tj)) (st := none) ⟨o, e1, e2, e3⟩ rfl (oU z (some (i, ti)) (some (j, tj)) (some i) (some j) rfl rfl t s _ hz fin)
   ·rw [if_neg hz] at ok; exact ok.elim
theorem kY {lo hi : Option Expr} {ml mh : DS → M (Option Int)} {p2 : Pos} (ha : QE X EE a ma) (hl : QO X EE lo ml) (hh : QO X EE hi mh) : QE X EE (.Subscript a (.Slice lo hi none p2) pos) (HR ma ml mh) :=
 PE.mono (ET Qp ha hl hh) fun σ H Q ⟨τ, ρ, G, ab, ok⟩ => by
  refine ⟨τ, ρ, G, ab, ?_⟩
  dsimp only [HR, M.bind] at ok
  cases e1 : ma τ G with
  | stuck => rw [e1] at ok; exact ok
  | eN c G' => rw [e1] at ok; exact ok
  | ok d G1 =>
   rw [e1] at ok
   dsimp only at ok
   intro v H1 ρ1 f1 Al r1
   refine ⟨τ, ρ1, G1, Al, ?_⟩
   cases e2 : ml τ G1 with
   | stuck => rw [e2] at ok; exact ok
   | eN c G' => rw [e2] at ok; exact fun H' ρ' f' => ok H' ρ' (f1.trans f')
   | ok l G2 =>
    rw [e2] at ok
    dsimp only at ok
    intro H2 ρ2 f2 eL
    refine ⟨τ, ρ2, G2, eL, ?_⟩
    cases e3 : mh τ G2 with
    | stuck => rw [e3] at ok; exact ok
    | eN c G' => rw [e3] at ok; exact fun H' ρ' f' => ok H' ρ' ((f1.trans f2).trans f')
    | ok u G3 =>
     rw [e3] at ok
     dsimp only at ok
     intro H3 ρ3 f3 EX
     exact ⟨σ, τ, ρ3, G3, d, EX, r1.mono (f2.trans f3), ok.fut ((f1.trans f2).trans f3)⟩
noncomputable def CH (ma mb : DS → M Bool) : DS → M Bool := fun τ => (ma τ).bind fun c => if c then mb τ else M.ret false
noncomputable def BI (ma mb : DS → M Bool) : DS → M Bool := fun τ => (ma τ).bind fun c => if c then M.ret true else mb τ
noncomputable def CI (ma : DS → M Bool) : DS → M Bool := fun τ => (ma τ).bind fun c => M.ret (!c)
variable {ta tb tc : DS → M Bool} {rest : List Expr}
theorem E7 {σ : L2.St} {H : Hp} {Q : Bool → Hp → Prop} (h : liftT X.K X.mg EE (CH ta tb) σ H Q) : L6 (liftT X.K X.mg EE ta) (liftT X.K X.mg EE tb) σ H Q := by
 obtain ⟨τ, ρ, G, ab, ok⟩ := BG (k := fun τ c => if c then tb τ else M.ret false) h
 refine ⟨τ, ρ, G, ab, ?_⟩
 cases e : ta τ G with
 | stuck => rw [e] at ok; exact ok
 | eN c G' => rw [e] at ok; exact ok
 | ok k G' =>
  rw [e] at ok
  intro H' ρ' f' dm
  obtain ⟨τ2, ρ2, G2, eL, aX⟩ := ok H' ρ' f' dm
  cases k with
  | true => exact ⟨τ2, ρ2, G2, eL, aX⟩
  | false => exact aX H' ρ2 .refl eL
theorem HS {σ : L2.St} {H : Hp} {Q : Bool → Hp → Prop} (h : liftT X.K X.mg EE (BI ta tb) σ H Q) : SE (liftT X.K X.mg EE ta) (liftT X.K X.mg EE tb) σ H Q := by
 obtain ⟨τ, ρ, G, ab, ok⟩ := BG (k := fun τ c => if c then M.ret true else tb τ) h
 refine ⟨τ, ρ, G, ab, ?_⟩
 cases e : ta τ G with
 | stuck => rw [e] at ok; exact ok
 | eN c G' => rw [e] at ok; exact ok
 | ok k G' =>
  rw [e] at ok
  intro H' ρ' f' dm
  obtain ⟨τ2, ρ2, G2, eL, aX⟩ := ok H' ρ' f' dm
  cases k with
  | false => exact ⟨τ2, ρ2, G2, eL, aX⟩
  | true => exact aX H' ρ2 .refl eL
theorem PW.mono {e : Expr} {t t' : TT} (h : PW X e t) (i : ∀ σ H Q, t' σ H Q → t σ H Q) : PW X e t' := fun wh pins s σ H Q I q => h wh pins s σ H Q I (i _ _ _ q)
theorem HU (ha : QT X EE a ta) : QW X EE (.BoolOp .And [a] pos) ta := Hh ha
theorem yY (ha : QT X EE a ta) : QW X EE (.BoolOp .Or [a] pos) ta := JQ ha
theorem KD (ha : QT X EE a ta) (hb : QW X EE (.BoolOp .And (b :: rest) pos) tb) : QW X EE (.BoolOp .And (a :: b :: rest) pos) (CH ta tb) := PW.mono (JR ha hb) fun _ _ _ h => E7 h
theorem CJ (ha : QT X EE a ta) (hb : QW X EE (.BoolOp .Or (b :: rest) pos) tb) : QW X EE (.BoolOp .Or (a :: b :: rest) pos) (BI ta tb) := PW.mono (L7 ha hb) fun _ _ _ h => HS h
theorem E8 {e : Expr} (h : QW X EE e ta) : QT X EE e ta := h.pt
theorem E9 (ha : QT X EE a ta) : QT X EE (.UnaryOp .Not a pos) (CI ta) := PT.mono (JS ha) fun σ H Q h => by
 obtain ⟨τ, ρ, G, ab, ok⟩ := BG (k := fun τ c => M.ret (!c)) h
 refine ⟨τ, ρ, G, ab, ?_⟩
 cases e : ta τ G with
 | stuck => rw [e] at ok; exact ok
 | eN c G' => rw [e] at ok; exact ok
 | ok k G' =>
  rw [e] at ok
  intro H' ρ' f' dm
  obtain ⟨τ2, ρ2, G2, eL, aX⟩ := ok H' ρ' f' dm
  exact aX H' ρ2 .refl eL
noncomputable def nV (m : DS → M D) : DS → M Bool := fun τ => (m τ).bind fun d => match d with
 | .bl b => M.ret b
 | _ => M.stop
theorem HV {m : DS → M D} {σ : L2.St} {H : Hp} {Q : Bool → Hp → Prop} (h : liftT X.K X.mg EE (nV m) σ H Q) : dF X.K X.mg EE m σ H fun x H1 => ∃ c, x = .bl c ∧ Q c H1 := by
 obtain ⟨τ, ρ, G, ab, ok⟩ := EV (k := fun _ d => match d with | .bl b => M.ret b | _ => M.stop) h
 refine ⟨τ, ρ, G, ab, ?_⟩
 cases e : m τ G with
 | stuck => rw [e] at ok; exact ok
 | eN c G' => rw [e] at ok; exact ok
 | ok d G' =>
  rw [e] at ok
  intro v H' ρ' f' dm r'
  obtain ⟨τ2, ρ2, G2, d2, eL, r2, aX⟩ := ok v H' ρ' f' dm r'
  cases d2 <;> try exact aX.elim
  rename_i k
  unfold Rep at r2
  exact ⟨k, r2, aX H' ρ2 .refl eL⟩
theorem KG {op : CmpOp} {f : D → D → M D} (ho : kT X (compareOp op) (rD X EE f)) (ha : QE X EE a ma) (hb : QE X EE b mb) (hm : behindInMarks op b = false) : QT X EE (.Compare a [op] [b] pos) (nV (aI f ma mb)) :=
 PT.mono (Hu ho ha hb hm) fun σ H Q h => by
  have h1 := HV h
  exact uP nT h1
theorem CK {f : D → D → M D} {g : Value → Value → Sem Value} {r : R2} (ho : kT X g r) (hd : EW X EE r f) : kT X g (rD X EE f) := fun pins s σ H x y v u Q I rx ry q => ho pins s σ H x y v u Q I rx ry (MJ hd q)
theorem BJ : kT X (compareOp .Lt) (rD X EE Kz) := CK Mm (vo fun _ _ _ _ => by unfold Rep; rfl)
theorem BK : kT X (compareOp .Gt) (rD X EE MH) := CK Mn (vo fun _ _ _ _ => by unfold Rep; rfl)
theorem HW : kT X (compareOp .Is) (rD X EE (Av false)) := CK Ka fun σ H τ ρ G x y d e Q ab r1 r2 ok => by
 cases e with
 | gg =>
  unfold Rep at r2
  refine ⟨r2, ?_⟩
  rw [CG r1]
  cases d <;> exact ok _ H ρ .refl ab (by unfold Rep; rfl)
 | _ => exact ok.elim
theorem Fb : kT X (compareOp .IsNot) (rD X EE (Av true)) := CK Hs fun σ H τ ρ G x y d e Q ab r1 r2 ok => by
 cases e with
 | gg =>
  unfold Rep at r2
  refine ⟨r2, ?_⟩
  rw [CG r1]
  cases d <;> exact ok _ H ρ .refl ab (by unfold Rep; rfl)
 | _ => exact ok.elim
noncomputable def Qq (t : DS → M Bool) (ma mb : DS → M D) : DS → M D := fun τ => (t τ).bind fun c => if c then ma τ else mb τ
theorem MM {c : Expr} (hc : QT X EE c ta) (ha : QE X EE a ma) (hb : QE X EE b mb) : QE X EE (.IfExp c a b pos) (Qq ta ma mb) := PE.mono (EG hc ha hb) fun σ H Q h => by
 obtain ⟨τ, ρ, G, ab, ok⟩ := Ku (k := fun τ c => if c then ma τ else mb τ) h
 refine ⟨τ, ρ, G, ab, ?_⟩
 cases e : ta τ G with
 | stuck => rw [e] at ok; exact ok
 | eN c G' => rw [e] at ok; exact ok
 | ok k G' =>
  rw [e] at ok
  intro H' ρ' f' dm
  obtain ⟨τ2, ρ2, G2, eL, aX⟩ := ok H' ρ' f' dm
  cases k with
  | true => exact ⟨τ2, ρ2, G2, eL, aX⟩
  | false => exact ⟨τ2, ρ2, G2, eL, aX⟩
noncomputable def Fc (ma mb : DS → M D) : DS → M D := fun τ => (ma τ).bind fun d => match d with
 | .bl true => mb τ
 | .bl false => M.ret (.bl false)
 | _ => M.stop
theorem KH {op} (h : QE X EE a ma) : QE X EE (.BoolOp op [a] pos) ma := JT h
theorem BL (ha : QE X EE a ma) (hb : QE X EE (.BoolOp .And (b :: rest) pos) mb) : QE X EE (.BoolOp .And (a :: b :: rest) pos) (Fc ma mb) := PE.mono (JU ha hb) fun σ H Q h => by
 obtain ⟨τ, ρ, G, ab, ok⟩ := jM (k := fun τ d => match d with | .bl true => mb τ | .bl false => M.ret (.bl false) | _ => M.stop) h
 refine ⟨τ, ρ, G, ab, ?_⟩
 cases e : ma τ G with
 | stuck => rw [e] at ok; exact ok
 | eN c G' => rw [e] at ok; exact ok
 | ok k G' =>
  rw [e] at ok
  intro v H' ρ' f' dm r'
  obtain ⟨τ2, ρ2, G2, d2, eL, r2, aX⟩ := ok v H' ρ' f' dm r'
  cases d2 <;> try exact aX.elim
  rename_i k
  unfold Rep at r2
  refine ⟨k, r2, ?_⟩
  cases k with
  | true => exact ⟨τ2, ρ2, G2, eL, aX⟩
  | false => exact aX _ H' ρ2 .refl eL (by unfold Rep; rfl)
noncomputable def Fd (ma : DS → M D) : DS → M D := fun τ => (ma τ).bind fun d => match d with
 | .int i => M.ret (.int (-i))
 | _ => M.stop
theorem Fe (ha : QE X EE a ma) : QE X EE (.UnaryOp .USub a pos) (Fd ma) := PE.mono (Mi J9 ha) fun σ H Q h => by
 obtain ⟨τ, ρ, G, ab, ok⟩ := jM (k := fun τ d => match d with | .int i => M.ret (.int (-i)) | _ => M.stop) h
 refine ⟨τ, ρ, G, ab, ?_⟩
 cases e : ma τ G with
 | stuck => rw [e] at ok; exact ok
 | eN c G' => rw [e] at ok; exact ok
 | ok k G' =>
  rw [e] at ok
  intro v H' ρ' f' dm r'
  obtain ⟨τ2, ρ2, G2, d2, eL, r2, aX⟩ := ok v H' ρ' f' dm r'
  cases d2 <;> try exact aX.elim
  rename_i k
  unfold Rep at r2
  exact ⟨k, r2, aX _ H' ρ2 .refl eL (by unfold Rep; rfl)⟩
end
end L3
end
section
set_option Elab.async false
set_option linter.all false
set_option maxRecDepth 100000
namespace L3
open PySem PySem.Spec L2
section
variable {X : Cx} {EE : gf} {a b c : Expr} {ma mb mc : DS → M D} {pos : Pos} {ta tb tc : DS → M Bool} {ms mt : MS}
noncomputable def dQ : MS := fun τ G => .nx τ G
noncomputable def bP (m k : MS) : MS := fun τ G => match m τ G with
 | .nx τ' G' => k τ' G'
 | r => r
theorem bY : Ez X EE [] dQ := Cz.mono Hi fun D σ H ⟨τ, ρ, G, ab, ok⟩ => ok σ H ρ .refl ab
theorem Ay {Dd : Ends} {σ : L2.St} {H : Hp} (h : kU X.K X.mg EE (bP ms mt) Dd σ H) : Mb (kU X.K X.mg EE ms) (kU X.K X.mg EE mt) Dd σ H := by
 obtain ⟨τ, ρ, G, ab, ok⟩ := h
 refine ⟨τ, ρ, G, ab, ?_⟩
 dsimp only [bP] at ok
 cases e : ms τ G with
 | nx τ' G' => rw [e] at ok; exact fun σ' H' ρ' f dm => ⟨τ', ρ', G', dm, ok.fut f⟩
 | stuck => rw [e] at ok; exact ok
 | rt d G => rw [e] at ok; exact ok
 | bk τ G => rw [e] at ok; exact ok
 | ct τ G => rw [e] at ok; exact ok
 | xn c τ G => rw [e] at ok; exact ok
theorem ao {st : Stmt} {rest : List Stmt} (h1 : QS X EE st ms) (h2 : Ez X EE rest mt) : Ez X EE (st :: rest) (bP ms mt) := Cz.mono (EI h1 h2) fun _ _ _ h => Ay h
theorem au {st : Stmt} (h1 : QS X EE st ms) : Ez X EE [st] ms := Hj h1
noncomputable def pJ (m : DS → M D) : MS := fun τ => fq (m τ) (fun _ G => .nx τ G) fun c G => .xn c τ G
noncomputable def fF (m : DS → M D) : MS := fun τ => fq (m τ) (fun d G => .rt d G) fun c G => .xn c τ G
noncomputable def cA (i : Nat) (m : DS → M D) : MS := fun τ => fq (m τ) (fun d G => .nx (τ.set i (some d)) G) fun c G => .xn c τ G
noncomputable def pZ (t : DS → M Bool) (ma mb : MS) : MS := fun τ => fq (t τ) (fun c G => if c then ma τ G else mb τ G) fun c G => .xn c τ G
theorem HX (he : QE X EE a ma) (hs : swapsWith a none pos.line X.env = pure false := by rfl) : QS X EE (.Expr a pos) (pJ ma) := PS.mono (Hl he hs) fun D σ H h => by
 obtain ⟨τ, ρ, G, ab, ok⟩ := vn (k := fun τ d G => .nx τ G) h
 refine ⟨τ, ρ, G, ab, ?_⟩
 cases e : ma τ G with
 | stuck => rw [e] at ok; exact ok
 | eN c G' => rw [e] at ok; exact ok
 | ok d G' =>
  rw [e] at ok
  intro v H' ρ' f' dm r'
  obtain ⟨τ2, ρ2, G2, d2, eL, r2, aX⟩ := ok v H' ρ' f' dm r'
  exact aX σ H' ρ2 .refl eL
theorem bJ (he : QE X EE a ma) : QS X EE (.Return (some a) pos) (fF ma) := PS.mono (JV he) fun D σ H h => by
 obtain ⟨τ, ρ, G, ab, ok⟩ := vn (k := fun τ d G => .rt d G) h
 refine ⟨τ, ρ, G, ab, ?_⟩
 cases e : ma τ G with
 | stuck => rw [e] at ok; exact ok
 | eN c G' => rw [e] at ok; exact ok
 | ok d G' =>
  rw [e] at ok
  intro v H' ρ' f' dm r'
  obtain ⟨τ2, ρ2, G2, d2, eL, r2, aX⟩ := ok v H' ρ' f' dm r'
  exact aX v H' ρ2 .refl eL.hp r2
theorem Ab.set {K : PySem.W.Frag} {mg : Str → Option Value} {σ : L2.St} {H : Hp} {τ : DS} {ρ : List Addr} {G : DH} {i : Nat} {d : D} {v : V} (ab : Ab K mg σ H τ ρ G) (r : Rep K mg ρ H d v) : Ab K mg (σ.set i (some v)) H (τ.set i (some d)) ρ G := ⟨ab.st.set r, ab.hp⟩
theorem KI {i : Nat} {x : Str} {pos' : Pos} (hN : X.N.Nodup) (he : QE X EE a ma) (hi : X.N[i]? = some x := by rfl) (hx : Loc X.env.scope x := by first | exact Or.inl rfl | exact Or.inr rfl)
  (hs : swapsWith a (some (.Name x pos')) pos.line X.env = pure false := by rfl) (hf : X.fn x = true ∨ X.env.scope.names.lookup x = some .local := by first | exact .inl rfl | exact .inr rfl | assumption) :
  QS X EE (.Assign [.Name x pos'] a pos) (cA i ma) := PS.mono (JZ hN hi hx he hs hf) fun D σ H h => by
 obtain ⟨τ, ρ, G, ab, ok⟩ := vn (k := fun τ d G => .nx (τ.set i (some d)) G) h
 refine ⟨τ, ρ, G, ab, ?_⟩
 cases e : ma τ G with
 | stuck => rw [e] at ok; exact ok
 | eN c G' => rw [e] at ok; exact ok
 | ok d G' =>
  rw [e] at ok
  intro v H' ρ' f' dm r'
  obtain ⟨τ2, ρ2, G2, d2, eL, r2, aX⟩ := ok v H' ρ' f' dm r'
  exact aX _ H' ρ2 .refl (eL.set r2)
theorem eX {body els : List Stmt} (hc : QT X EE c tc) (ha : Ez X EE body ms) (hb : Ez X EE els mt) : QS X EE (.If c body els pos) (pZ tc ms mt) := PS.mono (Me hc ha hb) fun D σ H h => by
 obtain ⟨τ, ρ, G, ab, ok⟩ := Kw (k := fun τ c G => if c then ms τ G else mt τ G) h
 refine ⟨τ, ρ, G, ab, ?_⟩
 cases e : tc τ G with
 | stuck => rw [e] at ok; exact ok
 | eN c G' => rw [e] at ok; exact ok
 | ok k G' =>
  rw [e] at ok
  intro H' ρ' f' dm
  obtain ⟨τ2, ρ2, G2, eL, aX⟩ := ok H' ρ' f' dm
  cases k with
  | true => exact ⟨τ2, ρ2, G2, eL, aX⟩
  | false => exact ⟨τ2, ρ2, G2, eL, aX⟩
noncomputable abbrev wO := D → DS → Option DS
noncomputable def CL (K : PySem.W.Frag) (mg : Str → Option Value) (g : wO) : TG := fun v σ H Q => ∃ τ ρ G d τ', Ab K mg σ H τ ρ G ∧ Rep K mg ρ H d v ∧ g d τ = some τ' ∧ ∀ σ', Ab K mg σ' H τ' ρ G → Q σ' H
noncomputable def QG (X : Cx) (e : Expr) (g : wO) : Prop := PG X e (CL X.K X.mg g)
noncomputable def gN (i : Nat) : wO := fun d τ => some (τ.set i (some d))
theorem HY {i : Nat} {x : Str} (hN : X.N.Nodup) (hi : X.N[i]? = some x := by rfl) (hx : Loc X.env.scope x := by first | exact Or.inl rfl | exact Or.inr rfl) (hf : X.fn x = true ∨ X.env.scope.names.lookup x = some .local := by first | exact .inl rfl | exact .inr rfl | assumption) :
  QG X (.Name x pos) (gN i) := fun pins s σ H v u Q I r ⟨τ, ρ, G, d, τ', ab, rd, e, q⟩ => qL hN hi hx hf pins s σ H v u Q I r (by
 cases e
 exact q _ (ab.set rd))
noncomputable def dX (g : wO) (body : MS) : List D → MS
 | [], τ, G => .nx τ G
 | d :: r, τ, G => match g d τ with
  | none => .stuck
  | some τ1 => match body τ1 G with
   | .nx τ' G' => dX g body r τ' G'
   | .ct τ' G' => dX g body r τ' G'
   | .bk τ' G' => .nx τ' G'
   | x => x
noncomputable def yZ (g : wO) (body : MS) (n : Nat) : Nat → Nat → MS
 | 0, _, _, _ => .stuck
 | f + 1, k, τ, G => match G[n]? with
  | some (.lst xs) => match xs[k]? with
   | none => .nx τ G
   | some d => match g d τ with
    | none => .stuck
    | some τ1 => match body τ1 G with
     | .nx τ' G' => yZ g body n f (k + 1) τ' G'
     | .ct τ' G' => yZ g body n f (k + 1) τ' G'
     | .bk τ' G' => .nx τ' G'
     | x => x
  | _ => .stuck
end
end L3
end
section
set_option Elab.async false
set_option linter.all false
set_option maxRecDepth 100000
namespace L3
open PySem PySem.Spec L2
noncomputable def HZ (z : Str) : It := ⟨fun i _ => i < z.cps.size, fun i H x H' => H' = H ∧ ∃ c, z.cps[i]? = some c ∧ x = .str ⟨#[c]⟩, fun i _ => z.cps.size ≤ i⟩
theorem Ff {P : Program} {w : World} {K : PySem.W.Frag} {tg : Expr} (z : Str) (t : Tok) (it : Addr) : Turn P w K tg (HZ z) [it] it (fun i h => h.IsStrIter it (strIterType z) z t i) where
 mem := by simp
 obj := fun i h st b hb => by
  have e : b = it := by simpa using hb
  subst e
  obtain ⟨o, e, c, d⟩ := st
  exact ⟨o, e, fun v z => by rw [d] at z; cases z⟩
 keep := fun i h h' st k => by
  obtain ⟨o, e, r⟩ := st
  exact ⟨o, k it (by simp) o e, r⟩
 item := by
  intro X hP hw hK hc i pins s σ H E I hf st hg
  subst hP hw hK
  obtain ⟨f0, f1, f2, f3, f4, f5⟩ := hf it (by simp)
  have hx : z.cps[i]? = some z.cps[i] := Array.getElem?_eq_getElem hg
  have fin : ∀ h', h'.IsStrIter it (strIterType z) z t (i + 1) → Heap.SameBut it s.heap h' → ∃ u, some (Value.str ⟨#[z.cps[i]]⟩ s.toks) = some u ∧
   wpAny (model X.prog X.w) X.A (letOwnedTupleGo tg (.ref it) u) (fun _ s2 => ∃ x H', Inv X pins σ H' s2 ∧ RelV x u ∧ (HZ z).Ao i H x H' ∧ s2.heap.IsStrIter it (strIterType z) z t (i + 1) ∧ ∀ b ∈ [it], H' b = none) E { s with heap := h', toks := s.toks + 1 } := fun h' st' sb => by
   have I1 : Inv X pins σ H { s with heap := h', toks := s.toks + 1 } := I.turned (t' := s.toks + 1) (fun b o hb e => (sb.2 b hb).trans e) f0 f1 f3 f4 f5
   obtain ⟨o, e, c, d⟩ := id st'
   refine ⟨_, rfl, CB (s := { s with heap := h', toks := s.toks + 1 }) e c d ?_ ⟨.str ⟨#[z.cps[i]]⟩, H, I1, ⟨_, rfl⟩, ⟨rfl, _, hx, rfl⟩, st', fun b hb => (hf b hb).1⟩⟩
   unfold strIterType
   split <;> decide
  cases ha : z.cps.all (· < 128) with
  | true =>
   have e : strIterType z = "str_ascii_iterator" := by unfold strIterType; rw [ha]; rfl
   rw [e] at st fin
   exact wpAny_pyNext_ascii_item st hx fun h' st' sb => by rw [e]; exact fin h' st' sb
  | false =>
   have e : strIterType z = "str_iterator" := by unfold strIterType; rw [ha]; rfl
   rw [e] at st fin
   exact wpAny_pyNext_wide_item st hx fun h' st' sb => by rw [e]; exact fin h' st' sb
 done := by
  intro X hP hw hK hc i pins s σ H E I hf st hg
  subst hP hw hK
  obtain ⟨f0, f1, f2, f3, f4, f5⟩ := hf it (by simp)
  have hx : z.cps[i]? = none := Array.getElem?_eq_none hg
  have fin : ∀ h', Heap.ExtBut it s.heap h' → (none : Option Value) = none ∧ Inv X pins σ H { s with heap := h' } := fun h' eb => ⟨rfl, I.turned (t' := s.toks) (fun b o hb e => eb b o hb e) f0 f1 f3 f4 f5⟩
  cases ha : z.cps.all (· < 128) with
  | true =>
   have e : strIterType z = "str_ascii_iterator" := by unfold strIterType; rw [ha]; rfl
   rw [e] at st
   exact wpAny_pyNext_ascii_end (I.ok.hd hc) st hx fin
  | false =>
   have e : strIterType z = "str_iterator" := by unfold strIterType; rw [ha]; rfl
   rw [e] at st
   exact wpAny_pyNext_wide_end (I.ok.hd hc) st hx fin
 self := fun A i s Q E st h => by
  cases ha : z.cps.all (· < 128) with
  | true =>
   have e : strIterType z = "str_ascii_iterator" := by unfold strIterType; rw [ha]; rfl
   rw [e] at st
   exact wpAny_pyIter_striter_ascii st h
  | false =>
   have e : strIterType z = "str_iterator" := by unfold strIterType; rw [ha]; rfl
   rw [e] at st
   exact wpAny_pyIter_striter_wide st h
section
variable {X : Cx} {EE : gf} {a b c tg : Expr} {ma mb mc : DS → M D} {pos : Pos} {ms mt : MS}
noncomputable def lW (g : wO) (m : DS → M D) (body : MS) : MS := fun τ => fq (m τ) (fun d G => match d with
 | .obj n => match G[n]? with
  | some (.lst xs) => yZ g body n (xs.length + 1) 0 τ G
  | _ => .stuck
 | .tup xs => dX g body xs τ G
 | .con xs => dX g body xs τ G
 | .str z => dX g body (z.cps.toList.map fun c => .str ⟨#[c]⟩) τ G
 | _ => .stuck) fun c G => .xn c τ G
theorem oV {g : wO} {body : MS} {Dd : Ends} {J : It} {H0 : Hp} {σ0 : L2.St} {ρ0 : List Addr} {G0 : DH} {τ0 : DS} (ds : List D)
  (go : ∀ i H ρ, i < ds.length → fH X.K H0 H ρ0 ρ → J.go i H) (stop : ∀ i H ρ, ds.length ≤ i → fH X.K H0 H ρ0 ρ → J.stop i H)
  (Ao : ∀ i d H ρ x H', ds[i]? = some d → fH X.K H0 H ρ0 ρ → J.Ao i H x H' → H' = H ∧ Rep X.K X.mg ρ H d x)
  (ab : Ab X.K X.mg σ0 H0 τ0 ρ0 G0) (ok : BF X.K X.mg EE H0 ρ0 Dd (dX g body ds τ0 G0)) :
  ∃ W : Nat → Nat → L2.St → Hp → Prop, (∃ m, W 0 m σ0 H0) ∧ ∀ i m σ H, W i m σ H →
   (J.stop i H ∧ Dd.nx σ H) ∨ (J.go i H ∧ ∃ N : L2.St → Hp → Prop, (∀ σ' H', N σ' H' → ∃ m', m' < m ∧ W (i + 1) m' σ' H') ∧ ∀ x H', J.Ao i H x H' → CL X.K X.mg g x σ H' fun σ2 H2 => kU X.K X.mg EE body { Dd with nx := N, ct := N, bk := Dd.nx } σ2 H2) := by
 refine ⟨fun i m σ H => i ≤ ds.length ∧ m = ds.length - i ∧ ∃ τ ρ G, Ab X.K X.mg σ H τ ρ G ∧ fH X.K H0 H ρ0 ρ ∧ BF X.K X.mg EE H ρ Dd (dX g body (ds.drop i) τ G), ⟨ds.length, Nat.zero_le _, rfl, τ0, ρ0, G0, ab, .refl, by simpa using ok⟩, ?_⟩
 rintro i m σ H ⟨hi, rfl, τ, ρ, G, ab, f, ok⟩
 by_cases hlt : i < ds.length
 ·refine .inr ⟨go i H ρ hlt f, fun σ' H' => ∃ τ' ρ' G', Ab X.K X.mg σ' H' τ' ρ' G' ∧ fH X.K H0 H' ρ0 ρ' ∧ BF X.K X.mg EE H' ρ' Dd (dX g body (ds.drop (i + 1)) τ' G'), fun σ' H' n => ⟨ds.length - (i + 1), by omega, hlt, rfl, n⟩, fun x H' y => ?_⟩
  obtain ⟨rfl, rx⟩ := Ao i ds[i] H ρ x H' (List.getElem?_eq_getElem hlt) f y
  rw [List.drop_eq_getElem_cons hlt] at ok
  unfold dX at ok
  cases e : g ds[i] τ with
  | none => rw [e] at ok; exact ok.elim
  | some τ1 =>
   rw [e] at ok
   dsimp only at ok
   refine ⟨τ, ρ, G, ds[i], τ1, ab, rx, e, fun σ' dm => ⟨τ1, ρ, G, dm, ?_⟩⟩
   cases eb : body τ1 G with
   | stuck => rw [eb] at ok; exact ok
   | nx τ2 G2 => rw [eb] at ok; exact fun σ2 H2 ρ2 f2 eL => ⟨τ2, ρ2, G2, eL, f.trans f2, ok.fut f2⟩
   | ct τ2 G2 => rw [eb] at ok; exact fun σ2 H2 ρ2 f2 eL => ⟨τ2, ρ2, G2, eL, f.trans f2, ok.fut f2⟩
   | bk τ2 G2 => rw [eb] at ok; exact ok
   | rt d G2 => rw [eb] at ok; exact ok
   | xn c τ2 G2 => rw [eb] at ok; exact ok
 ·have e : i = ds.length := by omega
  subst e
  refine .inl ⟨stop _ H ρ (Nat.le_refl _) f, ?_⟩
  rw [List.drop_eq_nil_of_le (Nat.le_refl _)] at ok
  exact ok σ H ρ .refl ab
theorem H8 {g : wO} {body : MS} {Dd : Ends} {H0 : Hp} {σ0 : L2.St} {ρ0 : List Addr} {G0 : DH} {τ0 : DS} {n : Nat} {p : Addr} {fuel : Nat} (hn : ρ0[n]? = some p)
  (ab : Ab X.K X.mg σ0 H0 τ0 ρ0 G0) (ok : BF X.K X.mg EE H0 ρ0 Dd (yZ g body n fuel 0 τ0 G0)) :
  ∃ W : Nat → Nat → L2.St → Hp → Prop, (∃ m, W 0 m σ0 H0) ∧ ∀ i m σ H, W i m σ H →
   ((GX X.K p).stop i H ∧ Dd.nx σ H) ∨ ((GX X.K p).go i H ∧ ∃ N : L2.St → Hp → Prop, (∀ σ' H', N σ' H' → ∃ m', m' < m ∧ W (i + 1) m' σ' H') ∧ ∀ x H', (GX X.K p).Ao i H x H' → CL X.K X.mg g x σ H' fun σ2 H2 => kU X.K X.mg EE body { Dd with nx := N, ct := N, bk := Dd.nx } σ2 H2) := by
 refine ⟨fun i m σ H => ∃ τ ρ G, Ab X.K X.mg σ H τ ρ G ∧ fH X.K H0 H ρ0 ρ ∧ BF X.K X.mg EE H ρ Dd (yZ g body n m i τ G), ⟨fuel, τ0, ρ0, G0, ab, .refl, ok⟩, ?_⟩
 rintro i m σ H ⟨τ, ρ, G, ab, f, ok⟩
 cases m with
 | zero => exact ok.elim
 | succ m =>
  unfold yZ at ok
  cases q : G[n]? with
  | none => rw [q] at ok; exact ok.elim
  | some o =>
   cases o with
   | dead => first | (rw [q] at ok; exact ok.elim) | (rw [q] at aX; exact aX.elim) | (rw [q] at e; cases e; done) | (rw [g] at ok; exact ok.elim) | (rw [g] at q; cases q; done) | (rw [g] at h; cases h; done) | (rw [g2] at ok; exact ok.elim) | (rw [g1, g2] at ok; exact ok.elim) | (rw [q1] at ok; exact ok.elim) | exact ok.elim
   | dct kv => first | (rw [q] at ok; exact ok.elim) | (rw [q] at aX; exact aX.elim) | (rw [q] at e; cases e; done) | (rw [g] at ok; exact ok.elim) | (rw [g] at q; cases q; done) | (rw [g] at h; cases h; done) | (rw [g2] at ok; exact ok.elim) | (rw [g1, g2] at ok; exact ok.elim) | (rw [q1] at ok; exact ok.elim) | exact ok.elim
   | lst ds =>
    rw [q] at ok
    dsimp only at ok
    obtain ⟨p', xs, e1, e2, rs⟩ := ab.hp.lst q
    rw [f.get hn] at e1; cases e1
    cases qd : ds[i]? with
    | none =>
     rw [qd] at ok
     have hl : xs.length ≤ i := by rw [← rs.length]; exact List.getElem?_eq_none_iff.mp qd
     exact .inl ⟨⟨xs, .of e2, hl⟩, ok σ H ρ .refl ab⟩
    | some d =>
     rw [qd] at ok
     dsimp only at ok
     obtain ⟨x0, ex, rx⟩ := rs.get qd
     refine .inr ⟨⟨xs, x0, .of e2, ex⟩, fun σ' H' => ∃ τ' ρ' G', Ab X.K X.mg σ' H' τ' ρ' G' ∧ fH X.K H0 H' ρ0 ρ' ∧ BF X.K X.mg EE H' ρ' Dd (yZ g body n m (i + 1) τ' G'), fun σ' H' z => ⟨m, Nat.lt_succ_self _, z⟩, fun x H' y => ?_⟩
     obtain ⟨rfl, y⟩ := y
     have e3 := y xs (.of e2)
     rw [ex] at e3; cases e3
     cases e : g d τ with
     | none => rw [e] at ok; exact ok.elim
     | some τ1 =>
      rw [e] at ok
      dsimp only at ok
      refine ⟨τ, ρ, G, d, τ1, ab, rx, e, fun σ' dm => ⟨τ1, ρ, G, dm, ?_⟩⟩
      cases eb : body τ1 G with
      | stuck => rw [eb] at ok; exact ok
      | nx τ2 G2 => rw [eb] at ok; exact fun σ2 H2 ρ2 f2 eL => ⟨τ2, ρ2, G2, eL, f.trans f2, ok.fut f2⟩
      | ct τ2 G2 => rw [eb] at ok; exact fun σ2 H2 ρ2 f2 eL => ⟨τ2, ρ2, G2, eL, f.trans f2, ok.fut f2⟩
      | bk τ2 G2 => rw [eb] at ok; exact ok
      | rt d G2 => rw [eb] at ok; exact ok
      | xn c τ2 G2 => rw [eb] at ok; exact ok
theorem PI.any {l : Expr} {tl : TE} (hl : PE X l tl) : PI X tg l (fun σ H R => tl σ H fun x H1 => (∃ p, x = .ref p ∧ (∃ xs, tP X.K H1 p xs) ∧ R (GX X.K p) H1) ∨ (∃ p, x = .ref p ∧ (∃ xs, tQ X.K H1 p xs) ∧ R (O2 X.K p) H1) ∨ ∃ z, x = .str z ∧ R (HZ z) H1) := by
 intro pins s σ H R I h
 refine iB (hl pins s σ H _ I h) fun u s1 ⟨x, H1, I1, r1, q⟩ => ?_
 rcases q with ⟨p, rfl, ⟨xs, sq⟩, q⟩ | ⟨p, rfl, ⟨xs, sq⟩, q⟩ | ⟨z, rfl, q⟩
 ·cases r1
  obtain ⟨its, rv, pl, hz⟩ := I1.list sq
  refine wpAny_pyIter_list pl.isList ?_
  have I2 : Inv X pins σ H1 { s1 with heap := s1.heap.push { cls := .type "list_iterator", data := .fields #[.ref p, .int 0 0] } } := I1.kept (t' := s1.toks) fun b o e => Heap.get?_push_of_some _ e
  refine ⟨s1.heap.objs.size, [s1.heap.objs.size], _, GX X.K p, H1, rfl, I2, DA p _, ⟨_, Heap.get?_push_size _ rfl, rfl, rfl⟩, fun b hb => ?_, q⟩
  have e : b = s1.heap.objs.size := by simpa using hb
  subst e
  exact I1.Hq (Nat.le_refl _) (I1.hok.fresh (Nat.le_refl _))
 ·cases r1
  obtain ⟨its, rv, pl, hz⟩ := I1.tuple sq
  refine wpAny_pyIter_tuple pl ?_
  have I2 : Inv X pins σ H1 { s1 with heap := s1.heap.push { cls := .type "tuple_iterator", data := .fields #[.ref p, .int 0 0] } } := I1.kept (t' := s1.toks) fun b o e => Heap.get?_push_of_some _ e
  refine ⟨s1.heap.objs.size, [s1.heap.objs.size], _, O2 X.K p, H1, rfl, I2, Bv p _, ⟨_, Heap.get?_push_size _ rfl, rfl, rfl⟩, fun b hb => ?_, q⟩
  have e : b = s1.heap.objs.size := by simpa using hb
  subst e
  exact I1.Hq (Nat.le_refl _) (I1.hok.fresh (Nat.le_refl _))
 ·obtain ⟨t, rfl⟩ := r1
  refine wpAny_pyIter_strU ?_
  have I2 : Inv X pins σ H1 { s1 with heap := s1.heap.push { cls := .type (strIterType z), data := .fields #[.str z t, .int 0 0] } } := I1.kept (t' := s1.toks) fun b o e => Heap.get?_push_of_some _ e
  refine ⟨s1.heap.objs.size, [s1.heap.objs.size], _, HZ z, H1, rfl, I2, Ff z t _, ⟨_, Heap.get?_push_size _ rfl, rfl, rfl⟩, fun b hb => ?_, q⟩
  have e : b = s1.heap.objs.size := by simpa using hb
  subst e
  exact I1.Hq (Nat.le_refl _) (I1.hok.fresh (Nat.le_refl _))
theorem KJ {g : wO} {body : List Stmt} (hp : PassesOwn (model X.prog X.w) X.A X.env X.xe) (hc : X.calm = true) (ha : QE X EE a ma) (hg : QG X tg g) (hb : Ez X EE body ms) (hs : ∀ x, foldedSetIterable a X.env x = pure x := by intro _; rfl) :
  QS X EE (.For tg a body [] pos) (lW g ma ms) := PS.mono (EK hp hc (PI.any ha) hg hb hs) fun Dd σ H h => by
 obtain ⟨τ, ρ, G, ab, ok⟩ := vn (k := fun τ d G => match d with
  | .obj n => match G[n]? with
   | some (.lst xs) => yZ g ms n (xs.length + 1) 0 τ G
   | _ => .stuck
  | .tup xs => dX g ms xs τ G
  | .con xs => dX g ms xs τ G
  | .str z => dX g ms (z.cps.toList.map fun c => .str ⟨#[c]⟩) τ G
  | _ => .stuck) h
 refine ⟨τ, ρ, G, ab, ?_⟩
 cases e : ma τ G with
 | stuck => rw [e] at ok; exact ok
 | eN c G' => rw [e] at ok; exact ok
 | ok d G' =>
  rw [e] at ok
  intro v H1 ρ1 f1 Al r1
  obtain ⟨τ2, ρ2, G2, d2, eL, r2, aX⟩ := ok v H1 ρ1 f1 Al r1
  cases d2 <;> try exact aX.elim
  case obj n =>
   dsimp only at aX
   unfold Rep at r2
   obtain ⟨p, rfl, e1⟩ := r2
   cases q : G2[n]? with
   | none => rw [q] at aX; exact aX.elim
   | some o =>
    cases o with
    | dead => first | (rw [q] at ok; exact ok.elim) | (rw [q] at aX; exact aX.elim) | (rw [q] at e; cases e; done) | (rw [g] at ok; exact ok.elim) | (rw [g] at q; cases q; done) | (rw [g] at h; cases h; done) | (rw [g2] at ok; exact ok.elim) | (rw [g1, g2] at ok; exact ok.elim) | (rw [q1] at ok; exact ok.elim) | exact ok.elim
    | dct kv => first | (rw [q] at ok; exact ok.elim) | (rw [q] at aX; exact aX.elim) | (rw [q] at e; cases e; done) | (rw [g] at ok; exact ok.elim) | (rw [g] at q; cases q; done) | (rw [g] at h; cases h; done) | (rw [g2] at ok; exact ok.elim) | (rw [g1, g2] at ok; exact ok.elim) | (rw [q1] at ok; exact ok.elim) | exact ok.elim
    | lst xs =>
     rw [q] at aX
     obtain ⟨p', vs, e2, h2, rs⟩ := eL.hp.lst q
     rw [e1] at e2; cases e2
     exact .inl ⟨p, rfl, ⟨vs, .of h2⟩, H8 e1 eL aX⟩
  case tup xs =>
   unfold Rep at r2
   obtain ⟨p, vs, rfl, sq, rs⟩ := r2
   refine .inr (.inl ⟨p, rfl, ⟨vs, sq⟩, oV xs (fun i H' ρ' hi f => ?_) (fun i H' ρ' hi f => ?_) (fun i d' H' ρ' x MN hd f y => ?_) eL aX⟩)
   ·rw [rs.length] at hi
    exact ⟨vs, vs[i], f.tup _ _ sq, List.getElem?_eq_getElem hi⟩
   ·exact ⟨vs, f.tup _ _ sq, by rw [← rs.length]; exact hi⟩
   ·obtain ⟨rfl, y⟩ := y
    obtain ⟨w', ew, rw'⟩ := rs.get hd
    have := y vs (f.tup _ _ sq)
    rw [ew] at this; cases this
    exact ⟨rfl, rw'.mono f⟩
  case con xs =>
   unfold Rep at r2
   obtain ⟨p, vs, rfl, sq, rs⟩ := r2
   refine .inl ⟨p, rfl, ⟨vs, sq.seq⟩, oV xs (fun i H' ρ' hi f => ?_) (fun i H' ρ' hi f => ?_) (fun i d' H' ρ' x MN hd f y => ?_) eL aX⟩
   ·rw [rs.length] at hi
    exact ⟨vs, vs[i], (f.con _ _ sq).seq, List.getElem?_eq_getElem hi⟩
   ·exact ⟨vs, (f.con _ _ sq).seq, by rw [← rs.length]; exact hi⟩
   ·obtain ⟨rfl, y⟩ := y
    obtain ⟨w', ew, rw'⟩ := rs.get hd
    have := y vs (f.con _ _ sq).seq
    rw [ew] at this; cases this
    exact ⟨rfl, rw'.mono f⟩
  case str z =>
   unfold Rep at r2; subst r2
   refine .inr (.inr ⟨z, rfl, oV (z.cps.toList.map fun c => .str ⟨#[c]⟩) (fun i H' ρ' hi f => ?_) (fun i H' ρ' hi f => ?_) (fun i d' H' ρ' x MN hd f y => ?_) eL aX⟩)
   ·simpa [HZ] using hi
   ·simpa [HZ] using hi
   ·obtain ⟨rfl, c, hc, rfl⟩ := y
    rw [List.getElem?_map] at hd
    have : z.cps.toList[i]? = some c := by simpa using hc
    rw [this] at hd
    cases hd
    exact ⟨rfl, by unfold Rep; rfl⟩
noncomputable def kZ : List D → Option (List D)
 | [.int j] => if -(2 ^ 62) ≤ j ∧ j < 2 ^ 62 then some ((List.range j.toNat).map fun (k : Nat) => .int (0 + (k : Int))) else none
 | _ => none
noncomputable def j6 (Dw : List D → Option (List D)) (g : wO) (m : DS → M (List D)) (body : MS) : MS := fun τ => fq (m τ) (fun ds G => match Dw ds with
 | some xs => dX g body xs τ G
 | none => .stuck) fun c G => .xn c τ G
theorem Fg {K : PySem.W.Frag} {mg : Str → Option Value} {σ : L2.St} {H : Hp} {m : DS → M (List D)} {k : DS → List D → DH → Res} {Dd : Ends} (h : kU K mg EE (fun τ => fq (m τ) (k τ) fun c G => .xn c τ G) Dd σ H) :
  xT K mg EE m σ H fun x H1 => ∃ τ ρ G d, Ab K mg σ H1 τ ρ G ∧ aC K mg ρ H1 d x ∧ BF K mg EE H1 ρ Dd (k τ d G) := by
 obtain ⟨τ, ρ, G, ab, ok⟩ := h
 refine ⟨τ, ρ, G, ab, ?_⟩
 dsimp only [fq] at ok
 cases e : m τ G with
 | stuck => rw [e] at ok; exact ok
 | eN c G' => rw [e] at ok; exact fun H' ρ' f dm => ok σ H' ρ' f dm
 | ok d G' => rw [e] at ok; exact fun v H' ρ' f dm r => ⟨τ, ρ', G', d, dm, r, ok.fut f⟩
theorem DR {g : wO} {body : MS} {Dd : Ends} {H0 : Hp} {σ0 : L2.St} {ρ0 : List Addr} {G0 : DH} {τ0 : DS} (lo : Int) (n : Nat) (ab : Ab X.K X.mg σ0 H0 τ0 ρ0 G0) (ok : BF X.K X.mg EE H0 ρ0 Dd (dX g body ((List.range n).map fun (k : Nat) => .int (lo + (k : Int))) τ0 G0)) :
  ∃ W : Nat → Nat → L2.St → Hp → Prop, (∃ m, W 0 m σ0 H0) ∧ ∀ i m σ H, W i m σ H →
   ((Bu lo n).stop i H ∧ Dd.nx σ H) ∨ ((Bu lo n).go i H ∧ ∃ N : L2.St → Hp → Prop, (∀ σ' H', N σ' H' → ∃ m', m' < m ∧ W (i + 1) m' σ' H') ∧ ∀ x H', (Bu lo n).Ao i H x H' → CL X.K X.mg g x σ H' fun σ2 H2 => kU X.K X.mg EE body { Dd with nx := N, ct := N, bk := Dd.nx } σ2 H2) :=
 oV (J := Bu lo n) _ (fun i H ρ hi f => by simpa [Bu] using hi) (fun i H ρ hi f => by simpa [Bu] using hi) (fun i d H ρ x H' hd f y => by
  obtain ⟨rfl, rfl⟩ := y
  rw [List.getElem?_map] at hd
  cases q : (List.range n)[i]? with
  | none => rw [q] at hd; cases hd
  | some k =>
   rw [q] at hd
   obtain ⟨hk, e⟩ := List.getElem?_eq_some_iff.mp q
   rw [List.getElem_range] at e
   subst e
   cases hd
   exact ⟨rfl, by unfold Rep; rfl⟩) ab ok
theorem Fi {g : wO} {m : DS → M (List D)} {body : List Stmt} {p pc : Pos} (hp : PassesOwn (model X.prog X.w) X.A X.env X.xe) (hc : X.calm = true) (hm : X.mg "range" = none) (ha : QA X EE [a] m) (hg : QG X tg g) (hb : Ez X EE body ms)
  (KL : Gl X "range" := by rfl) (hst : starEach [a] X.env = [(false, eval a X.env)] := by rfl) (hs : ∀ x, foldedSetIterable (.Call (.Name "range" p) [a] [] pc) X.env x = pure x := by intro _; rfl) :
  QS X EE (.For tg (.Call (.Name "range" p) [a] [] pc) body [] pos) (j6 kZ g m ms) := PS.mono (EK hp hc (xK KL hm ha hst) hg hb hs) fun Dd σ H h => by
 obtain ⟨τ, ρ, G, ab, ok⟩ := Fg (k := fun τ ds G => match kZ ds with | some xs => dX g ms xs τ G | none => .stuck) h
 refine ⟨τ, ρ, G, ab, ?_⟩
 cases e : m τ G with
 | stuck => rw [e] at ok; exact ok
 | eN c G' => rw [e] at ok; exact ok
 | ok ds G' =>
  rw [e] at ok
  intro vs H1 ρ1 f1 Al r1
  obtain ⟨τ2, ρ2, G2, d2, eL, r2, aX⟩ := ok vs H1 ρ1 f1 Al r1
  cases q : kZ d2 with
  | none => rw [q] at aX; exact aX.elim
  | some xs =>
   rw [q] at aX
   unfold kZ at q
   split at q
   ·rename_i j
    split at q
    ·rename_i hj
     cases q
     unfold aC at r2
     obtain ⟨v, r, rfl, h1, h2⟩ := r2
     unfold aC at h2; subst h2
     unfold Rep at h1; subst h1
     exact ⟨j, rfl, hj.1, hj.2, DR 0 j.toNat eL aX⟩
    ·cases q
   ·cases q
end
end L3
end
section
set_option Elab.async false
set_option linter.all false
set_option maxRecDepth 100000
namespace L3
open PySem PySem.Spec L2
noncomputable def UU (K : PySem.W.Frag) (mg : Str → Option Value) (H : Hp) (ρ : List Addr) : Out D → VK → XK → Prop
 | .stuck, _, _ => False
 | .ok d G', Q, _ => ∀ v H' ρ', fH K H H' ρ ρ' → kP K mg H' ρ' G' → Rep K mg ρ' H' d v → Q v H'
 | .eN c G', _, E => ∀ cls H' ρ', (match c with | .mk n _ => mg n = some cls) → fH K H H' ρ ρ' → kP K mg H' ρ' G' → E cls none H'
noncomputable def aN (K : PySem.W.Frag) (mg : Str → Option Value) (n : Nat) (m : List D → M D) : Sp := fun vs H Q E => ∃ ds ρ G, ds.length = n ∧ kP K mg H ρ G ∧ aC K mg ρ H ds vs ∧ UU K mg H ρ (m ds G) Q E
theorem aN.len {K : PySem.W.Frag} {mg : Str → Option Value} {n : Nat} {m : List D → M D} {vs : List V} {H : Hp} {Q : VK} {E : XK} (h : aN K mg n m vs H Q E) : vs.length = n := by
 obtain ⟨ds, ρ, G, e, _, r, _⟩ := h
 rw [← r.length, e]
noncomputable def Qs (mg : Str → Option Value) (EE : gf) (σ : L2.St) : XK := fun cls _ H' => ∃ c, (match c with | .mk n _ => mg n = some cls) ∧ EE c σ H'
noncomputable def LQ (CX : wQ) (X : Cx) (EE : gf) : Prop := ∀ (pins : List (Addr × Obj)) (σ : L2.St) (H : Hp) (s : Shared) (e : Value) (s' : Shared), Inv X pins σ H s → CX X.stack H s (Qs X.mg EE σ) e s' → X.xe e s'
section
variable {X : Cx} {CX : wQ} {EE : gf} {k n : Nat} {f : Addr} {fd : FuncData} {ps : List Str} {mf : List D → M D} {x : Str} {p pos : Pos} {e : Expr} {es : List Expr} {m : DS → M (List D)}
theorem kP.ab {K : PySem.W.Frag} {mg : Str → Option Value} {σ : L2.St} {H H' : Hp} {τ : DS} {ρ ρ' : List Addr} {G G' : DH} (ab : Ab K mg σ H τ ρ G) (f : fH K H H' ρ ρ') (h : kP K mg H' ρ' G') : Ab K mg σ H' τ ρ' G' := ⟨ab.st.mono f, h⟩
theorem y9 {pins : List (Addr × Obj)} {σ : L2.St} {H : Hp} {s : Shared} {Q : VK} {us : List Value} {vs : List V} {τ : DS} {ρ : List Addr} {G : DH} {ds : List D} (F : aR X.prog X.w X.K X.mg X.base CX k f fd ps (aN X.K X.mg n mf)) (hr : gn k X.A) (hb : Binds X.K fd ps [])
  (hx : LQ CX X EE) (I : Inv X pins σ H s) (r : Vals vs us) (ab : Ab X.K X.mg σ H τ ρ G) (rs : aC X.K X.mg ρ H ds vs) (hn : ds.length = n) (ok : lT X.K X.mg EE H σ τ ρ (mf ds G) Q) : wpAny (model X.prog X.w) X.A (call (.ref f) us) (EP X pins σ Q) X.xe s := by
 have h : aN X.K X.mg n mf vs H Q (Qs X.mg EE σ) := by
  refine ⟨ds, ρ, G, hn, ab.hp, rs, ?_⟩
  cases q : mf ds G with
  | stuck => rw [q] at ok; exact ok
  | ok d G' => rw [q] at ok; exact fun v H' ρ' f hp r => ok v H' ρ' f (kP.ab ab f hp) r
  | eN c G' => rw [q] at ok; exact fun cls H' ρ' hc f hp => ⟨c, hc, ok H' ρ' f (kP.ab ab f hp)⟩
 have hl : (us ++ []).length = ps.length := by rw [List.append_nil, ← r.length]; exact F.len _ _ _ _ h
 have O6 := hb s us I.Ak hl
 rw [List.append_nil] at O6
 refine wpAny_call (codeAny_mono (F.run X.A X.stack s H ⟨us, []⟩ us vs Q (Qs X.mg EE σ) hr I.i9 I.os.2 O6 r h) fun r s' hq => ?_)
 cases r with
 | error e => exact hx pins σ H s e s' I hq
 | ok fl =>
  cases fl with
  | ret u => exact I.after hq
  | next => exact False.elim hq
  | brk => exact False.elim hq
  | cont => exact False.elim hq
noncomputable def bD (n : Nat) (mf : List D → M D) (m : DS → M (List D)) : DS → M D := aH (fun ds => if ds.length = n then mf ds else M.stop) m
theorem Ia (F : aR X.prog X.w X.K X.mg X.base CX k f fd ps (aN X.K X.mg n mf)) (hr : gn k X.A) (hm : X.mg x = some (.ref f)) (hk : PySem.W.keepIn X.K (.ref f) = true) (hb : Binds X.K fd ps []) (hx : LQ CX X EE)
  (ha : QA X EE (e :: es) m) (hg : Gl X x := by rfl) (hdb : (x == ("__debug__" : Str)) = false := by decide) (he : starEach (e :: es) X.env = (false, eval e X.env) :: starEach es X.env := by rfl) (hpl : (backTo pos (starEach es X.env)).any (·.1) = false := by rfl) :
  QE X EE (.Call (.Name x p) (e :: es) [] pos) (bD n mf m) := by
 intro pins s σ H Q I h
 obtain ⟨τ, ρ, G, ab, ok⟩ := vm (k := fun _ ds => if ds.length = n then mf ds else M.stop) h
 refine wpAny_Call_Name_kw (uN I hg hm ?_ hdb)
 refine PySem.W.callWith_K (h₀ := X.base) I.ok.mod.JI hk (iB (ha pos pins s σ H _ I ⟨τ, ρ, G, ab, ok⟩) fun us s1 ⟨vs, H1, I1, r, q⟩ => ⟨I1.Ak, ?_⟩) he hpl
 obtain ⟨τ1, ρ1, G1, ds, Al, rs, Je⟩ := q
 by_cases hn : ds.length = n
 ·rw [if_pos hn] at Je
  exact y9 F hr hb hx I1 r Al rs hn Je
 ·rw [if_neg hn] at Je
  exact Je.elim
end
noncomputable def cj (N : Nat) (ms : MS) (ds : List D) : M D := fun G => match ms (ds.map some ++ List.replicate (N - ds.length) none) G with
 | .stuck => .stuck
 | .nx _ G' => .ok .gg G'
 | .rt d G' => .ok d G'
 | .bk _ _ => .stuck
 | .ct _ _ => .stuck
 | .xn c _ G' => .eN c G'
theorem vq {K : PySem.W.Frag} {mg : Str → Option Value} {H : Hp} {ρ : List Addr} {ds : List D} {vs : List V} {N : List Str} (r : aC K mg ρ H ds vs) : wV K mg H ρ (L2.start N vs) (ds.map some ++ List.replicate (N.length - ds.length) none) := by
 have hl := r.length
 refine ⟨by unfold L2.start; simp [hl], fun i d e => ?_⟩
 have hi : i < ds.length := by
  by_cases hi : i < ds.length
  ·exact hi
  ·rw [List.getElem?_append_right (by simpa using hi), List.getElem?_replicate] at e
   split at e <;> cases e
 rw [List.getElem?_append_left (by simpa using hi), List.getElem?_map] at e
 cases q : ds[i]? with
 | none => rw [q] at e; cases e
 | some d' =>
  rw [q] at e; cases e
  obtain ⟨v, e1, r1⟩ := r.get q
  refine ⟨v, ?_, r1⟩
  unfold L2.start
  rw [List.getElem?_append_left (by simp; omega), List.getElem?_map, e1]
  rfl
section
variable {P : Program} {w : World} {K : PySem.W.Frag} {mg : Str → Option Value} {base : Heap} {f : Addr} {fd : FuncData}
end
end L3
end
section
set_option Elab.async false
set_option linter.all false
set_option maxRecDepth 100000
namespace L3
open PySem PySem.Spec L2
section
variable {X : Cx} {EE : gf} {a b c : Expr} {ma mb mc : DS → M D} {pos : Pos}
noncomputable def Jf (X : Cx) (EE : gf) (f : List D → M D) : List V → Hp → VK → Prop := fun xs H Q => ∃ σ τ ρ G ds, Ab X.K X.mg σ H τ ρ G ∧ aC X.K X.mg ρ H ds xs ∧ lT X.K X.mg EE H σ τ ρ (f ds G) Q
theorem vt {f : List D → M D} : CallD X EE (Jf X EE f) f := fun σ H τ ρ G xs ds Q ab r ok => ⟨σ, τ, ρ, G, ds, ab, r, ok⟩
theorem pK {K : PySem.W.Frag} {mg : Str → Option Value} {ρ : List Addr} {H : Hp} {d : D} {xs : List V} (r : aC K mg ρ H [d] xs) : ∃ x, xs = [x] ∧ Rep K mg ρ H d x := by
 unfold aC at r
 obtain ⟨v, r', rfl, h1, h2⟩ := r
 unfold aC at h2; subst h2
 exact ⟨v, rfl, h1⟩
theorem Jg {K : PySem.W.Frag} {mg : Str → Option Value} {ρ : List Addr} {H : Hp} {d e : D} {xs : List V} (r : aC K mg ρ H [d, e] xs) : ∃ x y, xs = [x, y] ∧ Rep K mg ρ H d x ∧ Rep K mg ρ H e y := by
 unfold aC at r
 obtain ⟨v, r', rfl, h1, h2⟩ := r
 obtain ⟨y, rfl, h3⟩ := pK h2
 exact ⟨v, y, rfl, h1, h3⟩
noncomputable def jO : List D → M D
 | [d] => fun G => match dh G d with
  | some (.lst xs) => .ok (.int xs.length) G
  | some (.tup xs) => .ok (.int xs.length) G
  | some (.str z) => if z.length ≤ sizeLine then .ok (.int z.length) G else .stuck
  | none => .stuck
 | _ => M.stop
theorem DT : gB X (.builtin "len") (Jf X EE jO) := by
 intro pins s σ0 H xs us Q I r ⟨σ, τ, ρ, G, ds, ab, rs, ok⟩
 match ds, ok with
 | [], ok => exact ok.elim
 | _ :: _ :: _, ok => exact ok.elim
 | [d], ok =>
  obtain ⟨x, rfl, rx⟩ := pK rs
  dsimp only [jO] at ok
  cases q : dh G d with
  | none => rw [q] at ok; exact ok.elim
  | some sk =>
   rw [q] at ok
   cases sk with
   | lst zs =>
    obtain ⟨p, vs, rfl, sq, rv⟩ := e9 (pins := pins) (σ0 := σ0) (s := s) ab.hp rx q
    exact qO pins s σ0 H _ us Q I r ⟨p, vs, rfl, .inl sq, ok _ H ρ .refl ab (by unfold Rep; rw [rv.length])⟩
   | tup zs =>
    obtain ⟨p, vs, rfl, sq, rv⟩ := jI rx q
    exact qO pins s σ0 H _ us Q I r ⟨p, vs, rfl, .inr sq, ok _ H ρ .refl ab (by unfold Rep; rw [rv.length])⟩
   | str z =>
    obtain ⟨rfl, rfl⟩ := kX rx q
    dsimp only at ok
    by_cases hz : z.length ≤ sizeLine
    ·rw [if_pos hz] at ok
     exact yQ pins s σ0 H _ us Q I r ⟨z, rfl, hz, ok _ H ρ .refl ab (by unfold Rep; rfl)⟩
    ·rw [if_neg hz] at ok; exact ok.elim
inductive Ty where
 | gg | bl | int | str | tup | lst | dct
 deriving DecidableEq
noncomputable def Ty.nm : Ty → String
 | .gg => "NoneType" | .bl => "bool" | .int => "int" | .str => "str" | .tup => "tuple" | .lst => "list" | .dct => "dict"
noncomputable def O8 (G : DH) : D → Option Ty
 | .gg => some .gg
 | .bl _ => some .bl
 | .int _ => some .int
 | .str _ => some .str
 | .tup _ => some .tup
 | .con _ => some .lst
 | .obj n => match G[n]? with
  | some (.lst _) => some .lst
  | _ => none
 | .fn _ => none
 | .wU _ _ => none
noncomputable def Ty.is (t c : Ty) : Bool := decide (t = c) || (decide (t = .bl) && decide (c = .int))
theorem p5 (K : PySem.W.Frag) : ∀ (t c : Ty), c ≠ .gg → PySem.W.kitOne K (.type t.nm) (.type c.nm) = some (t.is c) := by
 intro t c h
 cases t <;> cases c <;> first | exact absurd rfl h | rfl | (with_unfolding_all rfl) | decide +kernel
noncomputable def Az (c : Ty) (d : D) : M D := fun G => match O8 G d with
 | some t => .ok (.bl (t.is c)) G
 | none => .stuck
noncomputable def AA (c : Ty) (m : DS → M D) : DS → M D := fun τ => (m τ).bind (Az c)
theorem Ib {c : Ty} (hc : c ≠ .gg) {pins : List (Addr × Obj)} {s : Shared} {σ0 σ : L2.St} {H : Hp} {τ : DS} {ρ : List Addr} {G : DH} {d : D} {x : V} {u : Value} {Q : VK} (I : Inv X pins σ0 H s) (ab : Ab X.K X.mg σ H τ ρ G) (rx : Rep X.K X.mg ρ H d x) (ru : RelV x u)
  (ok : lT X.K X.mg EE H σ τ ρ (Az c d G) Q) : wpAny (model X.prog X.w) X.A (call (.builtin "isinstance") [u, .type c.nm]) (EP X pins σ0 Q) X.xe s := by
 dsimp only [Az] at ok
 refine nS I.os.2 ?_
 have fin : ∀ {b : Bool}, Q (.bl b) H → ∀ tk, 0 < tk → EP X pins σ0 Q (.bool b) { s with toks := tk } := fun q tk ht => ⟨.bl _, H, I.tok tk, rfl, q⟩
 cases d with
 | gg =>
  have q := ok (.bl _) H ρ .refl ab (by unfold Rep; rfl)
  unfold Rep at rx; subst rx; cases ru
  exact PySem.W.kia_one PySem.W.kitx_none I.Ak True.intro (p5 X.K .gg c hc) (fun z => nomatch z) (fin q)
 | bl y =>
  have q := ok (.bl _) H ρ .refl ab (by unfold Rep; rfl)
  unfold Rep at rx; subst rx; cases ru
  exact PySem.W.kia_one PySem.W.kitx_bool I.Ak True.intro (p5 X.K .bl c hc) (fun z => nomatch z) (fin q)
 | int y =>
  have q := ok (.bl _) H ρ .refl ab (by unfold Rep; rfl)
  unfold Rep at rx; subst rx; obtain ⟨t, rfl⟩ := ru
  exact PySem.W.kia_one PySem.W.kitx_int I.Ak True.intro (p5 X.K .int c hc) (fun z => nomatch z) (fin q)
 | str y =>
  have q := ok (.bl _) H ρ .refl ab (by unfold Rep; rfl)
  unfold Rep at rx; subst rx; obtain ⟨t, rfl⟩ := ru
  exact PySem.W.kia_one PySem.W.kitx_str I.Ak True.intro (p5 X.K .str c hc) (fun z => nomatch z) (fin q)
 | tup ys =>
  have q := ok (.bl _) H ρ .refl ab (by unfold Rep; rfl)
  unfold Rep at rx
  obtain ⟨p, vs, rfl, sq, _⟩ := rx
  cases ru
  obtain ⟨its, _, ⟨o, h1, h2, _⟩, _⟩ := I.tuple sq
  exact PySem.W.kia_one PySem.W.kitx_tuple I.Ak ⟨o, h1, h2⟩ (p5 X.K .tup c hc) (fun z => nomatch z) (fin q)
 | con ys =>
  have q := ok (.bl _) H ρ .refl ab (by unfold Rep; rfl)
  unfold Rep at rx
  obtain ⟨p, vs, rfl, sq, _⟩ := rx
  cases ru
  obtain ⟨its, _, ⟨o, k, h1, h2, _⟩, _⟩ := I.list sq.seq
  exact PySem.W.kia_one PySem.W.kitx_list I.Ak ⟨o, h1, h2⟩ (p5 X.K .lst c hc) (fun z => nomatch z) (fin q)
 | obj n =>
  unfold Rep at rx
  obtain ⟨p, rfl, e1⟩ := rx
  cases ru
  dsimp only [O8] at ok
  cases g : G[n]? with
  | none => rw [g] at ok; exact ok.elim
  | some o =>
   cases o with
   | dead => first | (rw [q] at ok; exact ok.elim) | (rw [q] at aX; exact aX.elim) | (rw [q] at e; cases e; done) | (rw [g] at ok; exact ok.elim) | (rw [g] at q; cases q; done) | (rw [g] at h; cases h; done) | (rw [g2] at ok; exact ok.elim) | (rw [g1, g2] at ok; exact ok.elim) | (rw [q1] at ok; exact ok.elim) | exact ok.elim
   | dct kv => first | (rw [q] at ok; exact ok.elim) | (rw [q] at aX; exact aX.elim) | (rw [q] at e; cases e; done) | (rw [g] at ok; exact ok.elim) | (rw [g] at q; cases q; done) | (rw [g] at h; cases h; done) | (rw [g2] at ok; exact ok.elim) | (rw [g1, g2] at ok; exact ok.elim) | (rw [q1] at ok; exact ok.elim) | exact ok.elim
   | lst ys =>
    rw [g] at ok
    have q := ok (.bl _) H ρ .refl ab (by unfold Rep; rfl)
    obtain ⟨p', vs, e2, hp, _⟩ := ab.hp.lst g
    rw [e1] at e2; cases e2
    obtain ⟨its, _, ⟨o, k, h1, h2, _⟩, _⟩ := I.list (.of hp)
    exact PySem.W.kia_one PySem.W.kitx_list I.Ak ⟨o, h1, h2⟩ (p5 X.K .lst c hc) (fun z => nomatch z) (fin q)
 | wU _ _ => exact ok.elim
 | fn x => exact ok.elim
theorem KN (c : Ty) {p pt : Pos} {x : Str} (hc : c ≠ .gg) (hm : X.mg "isinstance" = none) (hmt : X.mg x = none) (ha : QE X EE a ma) (hb : bootBuiltins x = some (.type c.nm))
  (hg : Gl X "isinstance" := by rfl) (hgt : Gl X x := by rfl) (hnt : x ≠ "__name__" := by decide) (hdt : (x == ("__debug__" : Str)) = false := by decide)
  (he : starEach [a, .Name x pt] X.env = (false, eval a X.env) :: starEach [.Name x pt] X.env := by rfl) (UW : starEach [.Name x pt] X.env = (false, eval (.Name x pt) X.env) :: starEach [] X.env := by rfl) (hpl : (backTo pos (starEach [.Name x pt] X.env)).any (·.1) = false := by rfl)
  (hbi : bootBuiltins "isinstance" = some (.builtin "isinstance") := by first | exact PyProof.Rows.boot_isinstance | decide +kernel) :
  QE X EE (.Call (.Name "isinstance" p) [a, .Name x pt] [] pos) (AA c ma) := by
 have hT : PE X (.Name x pt) (tC (.ty c.nm)) := Hg hgt hmt hb rfl hnt hdt
 have hA : PA X [a, .Name x pt] (EM (dF X.K X.mg EE ma) (EM (tC (.ty c.nm)) Mq)) := yM ha (yM hT EN UW) he
 intro pins s σ H Q I h
 obtain ⟨τ, ρ, G, ab, ok⟩ := jM (k := fun _ d => Az c d) h
 refine wpAny_Call_Name_kw (vc I hg hm hbi ?_ (by decide) (by decide))
 refine PyProof.Rows.callWith_builtin1 (iB (hA pos pins s σ H (fun vs H1 => ∃ x, vs = [x, .ty c.nm] ∧ ∃ τ ρ G d, Ab X.K X.mg σ H1 τ ρ G ∧ Rep X.K X.mg ρ H1 d x ∧ lT X.K X.mg EE H1 σ τ ρ (Az c d G) Q) I ⟨τ, ρ, G, ab, ?_⟩) fun us s1 ⟨vs, H1, I1, r1, q1⟩ => ?_) he hpl
 ·cases e : ma τ G with
  | stuck => rw [e] at ok; exact ok
  | eN c G' => rw [e] at ok; exact ok
  | ok d G' => rw [e] at ok; exact fun v H' ρ' f' dm r' => ⟨v, rfl, ok v H' ρ' f' dm r'⟩
 ·obtain ⟨y, rfl, τ2, ρ2, G2, d, eL, rd, aX⟩ := q1
  cases r1 with
  | cons ry rr =>
   cases rr with
   | cons rt rr =>
    cases rr
    cases rt
    exact Ib hc I1 eL rd ry aX
end
end L3
end
section
set_option Elab.async false
set_option linter.all false
set_option maxRecDepth 100000
namespace L3
open PySem PySem.Spec L2
section
variable {X : Cx} {EE : gf} {a b c : Expr} {ma mb mc : DS → M D} {pos : Pos}
noncomputable def qS : List D → Option (List Bool)
 | [] => some []
 | .bl b :: r => (qS r).map (b :: ·)
 | _ :: _ => none
noncomputable def Fj (any : Bool) : List D → M D
 | [d] => fun G => match dh G d with
  | some (.lst xs) => match qS xs with
   | some bs => .ok (.bl (if any then bs.any id else bs.all id)) G
   | none => .stuck
  | _ => .stuck
 | _ => M.stop
theorem xX {K : PySem.W.Frag} {mg : Str → Option Value} {ρ : List Addr} {H : Hp} : ∀ {ds : List D} {vs : List V} {us : List Value} {bs : List Bool}, aC K mg ρ H ds vs → Vals vs us → qS ds = some bs → us = bs.map Value.bool
 | [], vs, us, bs, r, v, e => by unfold aC at r; subst r; cases v; cases e; rfl
 | d :: ds, vs, us, bs, r, v, e => by
  unfold aC at r
  obtain ⟨x, r', rfl, h1, h2⟩ := r
  cases v with
  | cons v1 v2 =>
   cases d <;> try (cases e; done)
   rename_i b
   dsimp only [qS] at e
   cases q : qS ds with
   | none => rw [q] at e; cases e
   | some bs' =>
    rw [q] at e; cases e
    unfold Rep at h1; subst h1; cases v1
    rw [xX h2 v2 q]; rfl
theorem BN {s : Shared} {h' : Heap} {o : Obj} (hk : ∀ b x, b ∉ [s.heap.objs.size] → (s.heap.push o).get? b = some x → h'.get? b = some x) : ∀ b x, s.heap.get? b = some x → h'.get? b = some x :=
 fun b x e => hk b x (fun hm => by rw [List.mem_singleton.mp hm] at e; exact Nat.lt_irrefl _ (Heap.lt_size e)) (Heap.get?_push_of_some _ e)
theorem BO (bs : List Bool) : ((List.range bs.length).all fun i => (bs[i]?).getD true) = bs.all id := by
 rw [Bool.eq_iff_iff, List.all_eq_true, List.all_eq_true]
 constructor
 ·intro h b hb
  obtain ⟨i, hi, rfl⟩ := List.getElem_of_mem hb
  have := h i (List.mem_range.mpr hi)
  simpa [List.getElem?_eq_getElem hi] using this
 ·intro h i hi
  have hi' := List.mem_range.mp hi
  simp only [List.getElem?_eq_getElem hi', Option.getD_some]
  exact h _ (List.getElem_mem hi')
theorem DU (hc : X.calm = true) : gB X (.builtin "all") (Jf X EE (Fj false)) := by
 intro pins s σ0 H xs us Q I r ⟨σ, τ, ρ, G, ds, ab, rs, ok⟩
 match ds, ok with
 | [], ok => exact ok.elim
 | _ :: _ :: _, ok => exact ok.elim
 | [d], ok =>
  obtain ⟨x, rfl, rx⟩ := pK rs
  obtain ⟨u, rfl, ru⟩ := vals1 r
  dsimp only [Fj] at ok
  cases q : dh G d with
  | none => rw [q] at ok; exact ok.elim
  | some sk =>
   rw [q] at ok
   cases sk with
   | tup zs => exact ok.elim
   | str z => exact ok.elim
   | lst zs =>
    dsimp only at ok
    cases qb : qS zs with
    | none => rw [qb] at ok; exact ok.elim
    | some bs =>
     rw [qb] at ok
     obtain ⟨p, vs, rfl, sq, rv⟩ := e9 (pins := pins) (σ0 := σ0) (s := s) ab.hp rx q
     cases ru
     obtain ⟨its, vv, pl, hz⟩ := I.list sq
     have e := xX rv vv qb
     subst e
     have hl := pl.isList
     have hlt : p < s.heap.objs.size := by obtain ⟨_, e, _⟩ := hl; exact Heap.lt_size e
     refine nS I.os.2 (call_all_walk (wpAny_pyIter_list hl ?_))
     refine ⟨s.heap.objs.size, [s.heap.objs.size, p], [s.heap.objs.size], (bs.map Value.bool).toArray.size, _, _, fun i => (bs[i]?).getD true, rfl, Walks.list (A := X.A.in1) (I.ok.hd hc) _ p (Nat.ne_of_lt hlt) _,
      ⟨⟨_, Heap.get?_push_size _ rfl, rfl, rfl⟩, hl.push _⟩, fun i v s' Q' E' hP hQ => ?_, fun h' tk hk ht => ?_⟩
     ·have MO : (bs.map Value.bool)[i]? = some v := by simpa using hP
      rw [List.getElem?_map] at MO
      cases qi : bs[i]? with
      | none => rw [qi] at MO; cases MO
      | some k =>
       rw [qi] at MO; cases MO
       simp only [qi, Option.getD_some] at hQ
       exact wpAny_truthy_bool hQ
     ·rw [show (bs.map Value.bool).toArray.size = bs.length by simp, BO]
      exact ⟨.bl _, H, I.kept (t' := tk) (BN hk), rfl, ok _ H ρ .refl ab (by unfold Rep; rfl)⟩
noncomputable def p6 (g : Int → Int → Int) : List D → M D
 | [.int i, .int j] => M.ret (.int (g i j))
 | _ => M.stop
theorem Fl {g : Int → Int → Int} {ds : List D} {G : DH} {σ : L2.St} {H : Hp} {τ : DS} {ρ : List Addr} {Q : VK} (ok : lT X.K X.mg EE H σ τ ρ (p6 g ds G) Q) : ∃ i j, ds = [.int i, .int j] ∧ lT X.K X.mg EE H σ τ ρ (.ok (.int (g i j)) G) Q := by
 unfold p6 at ok
 split at ok
 ·exact ⟨_, _, rfl, ok⟩
 ·exact ok.elim
theorem DV (hc : X.calm = true) : gB X (.builtin "max") (Jf X EE (p6 fun i j => if j > i then j else i)) := by
 intro pins s σ0 H xs us Q I r ⟨σ, τ, ρ, G, ds, ab, rs, ok⟩
 obtain ⟨i, j, rfl, ok⟩ := Fl ok
 obtain ⟨x, y, rfl, r1, r2⟩ := Jg rs
 unfold Rep at r1 r2; subst r1 r2
 exact DE hc pins s σ0 H _ us Q I r ⟨i, j, rfl, ok _ H ρ .refl ab (by unfold Rep; rfl)⟩
noncomputable def KO (X : Cx) (EE : gf) (f : D → List D → M D) : V → List V → Hp → VK → Prop := fun x xs H Q => ∃ σ τ ρ G d ds, Ab X.K X.mg σ H τ ρ G ∧ Rep X.K X.mg ρ H d x ∧ aC X.K X.mg ρ H ds xs ∧ lT X.K X.mg EE H σ τ ρ (f d ds G) Q
noncomputable def jP (T : String) (G : DH) : D → Bool
 | .str _ => T == "str"
 | .int _ => T == "int"
 | .con _ => T == "list"
 | .obj n => match G[n]? with
  | some (.lst _) => T == "list"
  | _ => false
 | _ => false
theorem xY {T : String} {σ : L2.St} {H : Hp} {τ : DS} {ρ : List Addr} {G : DH} {d : D} {x : V} (ab : Ab X.K X.mg σ H τ ρ G) (r : Rep X.K X.mg ρ H d x) (h : jP T G d = true) : O5 X.K T x H := by
 cases d with
 | str z => unfold Rep at r; subst r; exact eq_of_beq h
 | int z => unfold Rep at r; subst r; exact eq_of_beq h
 | con zs =>
  unfold Rep at r
  obtain ⟨p, vs, rfl, sq, _⟩ := r
  exact .inl ⟨eq_of_beq h, vs, sq.seq⟩
 | obj n =>
  unfold Rep at r
  obtain ⟨p, rfl, e1⟩ := r
  dsimp only [jP] at h
  cases g : G[n]? with
  | none => rw [g] at h; cases h
  | some o =>
   cases o with
   | dead => first | (rw [q] at ok; exact ok.elim) | (rw [q] at aX; exact aX.elim) | (rw [q] at e; cases e; done) | (rw [g] at ok; exact ok.elim) | (rw [g] at q; cases q; done) | (rw [g] at h; cases h; done) | (rw [g2] at ok; exact ok.elim) | (rw [g1, g2] at ok; exact ok.elim) | (rw [q1] at ok; exact ok.elim) | exact ok.elim
   | dct kv => first | (rw [q] at ok; exact ok.elim) | (rw [q] at aX; exact aX.elim) | (rw [q] at e; cases e; done) | (rw [g] at ok; exact ok.elim) | (rw [g] at q; cases q; done) | (rw [g] at h; cases h; done) | (rw [g2] at ok; exact ok.elim) | (rw [g1, g2] at ok; exact ok.elim) | (rw [q1] at ok; exact ok.elim) | exact ok.elim
   | lst ys =>
    rw [g] at h
    obtain ⟨p', vs, e2, hp, _⟩ := ab.hp.lst g
    rw [e1] at e2; cases e2
    exact .inl ⟨eq_of_beq h, vs, .of hp⟩
 | _ => cases h
noncomputable def dY (T : String) (f : D → List D → M D) (mo : DS → M D) (m : DS → M (List D)) : DS → M D := fun τ => (mo τ).bind fun d G => if jP T G d then (m τ).bind (fun ds => f d ds) G else .stuck
theorem Fo {o e : Expr} {es : List Expr} {name : Str} {apos cpos : Pos} {T id : String} {f : D → List D → M D} {mo : DS → M D} {m : DS → M (List D)} (pa : PlainAttrs T) (slot : Slot T name id) (hty : typeOf (.builtin id) = pure (.type "method_descriptor")) (hm : DI X id (KO X EE f)) (ho : QE X EE o mo) (ha : QA X EE (e :: es) m)
  (hbase : attributeBase o name X.env (eval o X.env) = eval o X.env := by rfl)
  (hfew : ((backTo cpos (starEach (e :: es) X.env)).all (fun x => !x.1) && (backToKw cpos (keywordEach [] X.env)).all (fun x => x.1.isSome)
   && decide ((e :: es).length + ([] : List Keyword).length + (if ([] : List Keyword).isEmpty then 0 else 1) < 30)) = true := by rfl)
  (hline : (apos.endLine == cpos.line) = true := by rfl) (hs : starEach (e :: es) X.env = (false, eval e X.env) :: starEach es X.env := by rfl) (hplain : (backTo cpos (starEach es X.env)).any (·.1) = false := by rfl) :
  QE X EE (.Call (.Attribute o name apos) (e :: es) [] cpos) (dY T f mo m) := PE.mono (Mz pa slot hty hm ho ha hbase hfew hline hs hplain) fun σ H Q h => by
 obtain ⟨τ, ρ, G, ab, ok⟩ := jM (k := fun τ d G => if jP T G d then (m τ).bind (fun ds => f d ds) G else .stuck) h
 refine ⟨τ, ρ, G, ab, ?_⟩
 cases e : mo τ G with
 | stuck => rw [e] at ok; exact ok
 | eN c G' => rw [e] at ok; exact ok
 | ok d G' =>
  rw [e] at ok
  intro v H' ρ' f' dm r'
  obtain ⟨τ2, ρ2, G2, d2, eL, r2, aX⟩ := ok v H' ρ' f' dm r'
  by_cases hk : jP T G2 d2 = true
  ·rw [if_pos hk] at aX
   refine ⟨xY eL r2 hk, τ2, ρ2, G2, eL, ?_⟩
   dsimp only [M.bind] at aX
   cases e2 : m τ2 G2 with
   | stuck => rw [e2] at aX; exact aX
   | eN c G' => rw [e2] at aX; exact aX
   | ok ds G3 =>
    rw [e2] at aX
    exact fun vs H3 ρ3 f3 EX r3 => ⟨σ, τ2, ρ3, G3, d2, ds, EX, r2.mono f3, r3, aX.fut f3⟩
  ·rw [if_neg hk] at aX; exact aX.elim
theorem KP {o : Expr} {name : Str} {apos cpos : Pos} {T id : String} {f : D → List D → M D} {mo : DS → M D} (pa : PlainAttrs T) (slot : Slot T name id) (hty : typeOf (.builtin id) = pure (.type "method_descriptor")) (hm : DI X id (KO X EE f)) (ho : QE X EE o mo)
  (hbase : attributeBase o name X.env (eval o X.env) = eval o X.env := by rfl) (hline : (apos.endLine == cpos.line) = true := by rfl) :
  QE X EE (.Call (.Attribute o name apos) [] [] cpos) (dY T f mo aB) := PE.mono (Kq pa slot hty hm ho hbase hline) fun σ H Q h => by
 obtain ⟨τ, ρ, G, ab, ok⟩ := jM (k := fun τ d G => if jP T G d then (aB τ).bind (fun ds => f d ds) G else .stuck) h
 refine ⟨τ, ρ, G, ab, ?_⟩
 cases e : mo τ G with
 | stuck => rw [e] at ok; exact ok
 | eN c G' => rw [e] at ok; exact ok
 | ok d G' =>
  rw [e] at ok
  intro v H' ρ' f' dm r'
  obtain ⟨τ2, ρ2, G2, d2, eL, r2, aX⟩ := ok v H' ρ' f' dm r'
  by_cases hk : jP T G2 d2 = true
  ·rw [if_pos hk] at aX
   exact ⟨xY eL r2 hk, σ, τ2, ρ2, G2, d2, [], eL, r2, .nil, aX⟩
  ·rw [if_neg hk] at aX; exact aX.elim
noncomputable def gx : D → List D → M D
 | .obj n, [v] => fun G => match G[n]? with
  | some (.lst xs) => if xs.length < sizeLine then .ok .gg (G.set n (.lst (xs ++ [v]))) else .stuck
  | _ => .stuck
 | _, _ => M.stop
theorem Fp {σ : L2.St} {H : Hp} {τ : DS} {ρ : List Addr} {G : DH} {n : Nat} {xs ys : List D} {d : D} {w : V} {p : Addr} {vs ws : List V} {Q : VK} (ab : Ab X.K X.mg σ H τ ρ G) (hn : ρ[n]? = some p) (hp : H p = some (.lst vs)) (r : aC X.K X.mg ρ H ys ws)
  (rd : ∀ H', fH X.K H H' ρ ρ → Rep X.K X.mg ρ H' d w) (ok : lT X.K X.mg EE H σ τ ρ (.ok d (G.set n (.lst ys))) Q) : Q w (upd H p (.lst ws)) := by
 have f : fH X.K H (upd H p (.lst ws)) ρ ρ := yS hp ρ
 exact ok w _ ρ f (ab.fut f (ab.hp.put (ds := ys) hn hp r)) (rd _ f)
theorem BP : DI X "list.append" (KO X EE gx) := by
 intro pins s σ0 H x xs v us Q I rx Ic ⟨σ, τ, ρ, G, d, ds, ab, rd, CM, ok⟩
 cases d <;> try exact ok.elim
 rename_i n
 match ds, ok with
 | [], ok => exact ok.elim
 | _ :: _ :: _, ok => exact ok.elim
 | [y], ok =>
  obtain ⟨yv, rfl, ry⟩ := pK CM
  unfold Rep at rd
  obtain ⟨p, rfl, e1⟩ := rd
  dsimp only [gx] at ok
  cases g : G[n]? with
  | none => rw [g] at ok; exact ok.elim
  | some o =>
   cases o with
   | dead => first | (rw [q] at ok; exact ok.elim) | (rw [q] at aX; exact aX.elim) | (rw [q] at e; cases e; done) | (rw [g] at ok; exact ok.elim) | (rw [g] at q; cases q; done) | (rw [g] at h; cases h; done) | (rw [g2] at ok; exact ok.elim) | (rw [g1, g2] at ok; exact ok.elim) | (rw [q1] at ok; exact ok.elim) | exact ok.elim
   | dct kv => first | (rw [q] at ok; exact ok.elim) | (rw [q] at aX; exact aX.elim) | (rw [q] at e; cases e; done) | (rw [g] at ok; exact ok.elim) | (rw [g] at q; cases q; done) | (rw [g] at h; cases h; done) | (rw [g2] at ok; exact ok.elim) | (rw [g1, g2] at ok; exact ok.elim) | (rw [q1] at ok; exact ok.elim) | exact ok.elim
   | lst zs =>
    rw [g] at ok
    dsimp only at ok
    obtain ⟨p', vs, e2, hp, rs⟩ := ab.hp.lst g
    rw [e1] at e2; cases e2
    by_cases hz : zs.length < sizeLine
    ·rw [if_pos hz] at ok
     exact xR pins s σ0 H _ _ v us Q I rx Ic ⟨p, vs, yv, rfl, rfl, hp, by rw [← rs.length]; exact hz, Fp (xs := zs) ab e1 hp (rs.append (.cons ry .nil)) (fun _ _ => by unfold Rep; rfl) ok⟩
    ·rw [if_neg hz] at ok; exact ok.elim
theorem DW {o e : Expr} {apos cpos : Pos} {mo : DS → M D} {m : DS → M (List D)} (ho : QE X EE o mo) (ha : QA X EE [e] m)
  (hbase : attributeBase o "append" X.env (eval o X.env) = eval o X.env := by rfl)
  (hfew : ((backTo cpos (starEach [e] X.env)).all (fun x => !x.1) && (backToKw cpos (keywordEach [] X.env)).all (fun x => x.1.isSome)
   && decide ([e].length + ([] : List Keyword).length + (if ([] : List Keyword).isEmpty then 0 else 1) < 30)) = true := by rfl)
  (hline : (apos.endLine == cpos.line) = true := by rfl) (hs : starEach [e] X.env = (false, eval e X.env) :: starEach [] X.env := by rfl) (hplain : (backTo cpos (starEach [] X.env)).any (·.1) = false := by rfl) :
  QE X EE (.Call (.Attribute o "append" apos) [e] [] cpos) (dY "list" gx mo m) := Fo PySem.F.plainAttrs_list PySem.F.slot_list_append PySem.F.type_list_append BP ho ha hbase hfew hline hs hplain
noncomputable def za : D → List D → M D
 | .obj n, [] => fun G => match G[n]? with
  | some (.lst xs) => match xs[xs.length - 1]? with
   | some y => .ok y (G.set n (.lst xs.dropLast))
   | none => .stuck
  | _ => .stuck
 | _, _ => M.stop
theorem aC.dropLast {K : PySem.W.Frag} {mg : Str → Option Value} {ρ : List Addr} {H : Hp} {ds : List D} {vs : List V} (r : aC K mg ρ H ds vs) : aC K mg ρ H ds.dropLast vs.dropLast := by
 rw [List.dropLast_eq_take, List.dropLast_eq_take, ← r.length]
 exact r.take _
theorem Ie : DI X "list.pop" (KO X EE za) := by
 intro pins s σ0 H x xs v us Q I rx Ic ⟨σ, τ, ρ, G, d, ds, ab, rd, CM, ok⟩
 cases d <;> try exact ok.elim
 rename_i n
 match ds, ok with
 | _ :: _, ok => exact ok.elim
 | [], ok =>
  unfold aC at CM; subst CM
  unfold Rep at rd
  obtain ⟨p, rfl, e1⟩ := rd
  dsimp only [za] at ok
  cases g : G[n]? with
  | none => rw [g] at ok; exact ok.elim
  | some o =>
   cases o with
   | dead => first | (rw [q] at ok; exact ok.elim) | (rw [q] at aX; exact aX.elim) | (rw [q] at e; cases e; done) | (rw [g] at ok; exact ok.elim) | (rw [g] at q; cases q; done) | (rw [g] at h; cases h; done) | (rw [g2] at ok; exact ok.elim) | (rw [g1, g2] at ok; exact ok.elim) | (rw [q1] at ok; exact ok.elim) | exact ok.elim
   | dct kv => first | (rw [q] at ok; exact ok.elim) | (rw [q] at aX; exact aX.elim) | (rw [q] at e; cases e; done) | (rw [g] at ok; exact ok.elim) | (rw [g] at q; cases q; done) | (rw [g] at h; cases h; done) | (rw [g2] at ok; exact ok.elim) | (rw [g1, g2] at ok; exact ok.elim) | (rw [q1] at ok; exact ok.elim) | exact ok.elim
   | lst zs =>
    rw [g] at ok
    dsimp only at ok
    obtain ⟨p', vs, e2, hp, rs⟩ := ab.hp.lst g
    rw [e1] at e2; cases e2
    cases qz : zs[zs.length - 1]? with
    | none => rw [qz] at ok; exact ok.elim
    | some y =>
     rw [qz] at ok
     obtain ⟨yv, ey, ry⟩ := rs.get qz
     exact Kr pins s σ0 H _ _ v us Q I rx Ic ⟨p, vs, yv, rfl, rfl, hp, by rw [← rs.length]; exact ey, Fp (xs := zs) ab e1 hp rs.dropLast (fun _ f => ry.mono f) ok⟩
theorem KQ {o : Expr} {apos cpos : Pos} {mo : DS → M D} (ho : QE X EE o mo) (hbase : attributeBase o "pop" X.env (eval o X.env) = eval o X.env := by rfl) (hline : (apos.endLine == cpos.line) = true := by rfl) :
  QE X EE (.Call (.Attribute o "pop" apos) [] [] cpos) (dY "list" za mo aB) := KP PySem.F.plainAttrs_list PySem.F.slot_list_pop PySem.F.type_list_pop Ie ho hbase hline
end
end L3
end
section
set_option Elab.async false
set_option linter.all false
set_option maxRecDepth 100000
namespace L3
open PySem PySem.Spec L2
structure DX (B : Heap) (l : List Env) (e : Addr) (cls : Value) (h : Heap) : Prop where
 stay : B.StaysIn h
 new : B.get? e = none
 XC : h.FunFrames B l
 tr : (∃ oe vs a0, h.get? e = some oe ∧ oe.cls = cls ∧ oe.data = .fields vs ∧ vs[0]? = some a0 ∧ vs[1]? = some .none) ∨ ∃ a0 fl, h.TracedAtW B e cls a0 fl
section
variable {M : Model} {A : Around} {E : Value → Shared → Prop} {s : Shared} {B : Heap} {env : Env} {outer l : List Env} {L e : Addr} {cls : Value} {Q : Unit → Shared → Prop}
theorem BQ {env' : Env} (h : env'.frame = env.frame) (v : Value) : noteFrame v env' = noteFrame v env := by
 unfold noteFrame frameOf
 rw [h]
theorem CN (hfr : A.frames = some (env :: outer)) (hf : env.frame = some L) (f : DX B (env :: outer) e cls s.heap)
  (hQ : ∀ h' a0, Heap.HeldW B (env :: outer) e cls a0 L h' → s.heap.UpToSlots h' → Q () { s with heap := h' }) : wpAny M A (noteFrame (.ref e) env) Q E s := by
 obtain ⟨st, nw, fr, tr⟩ := f
 rcases tr with ⟨oe, vs, a0, he, hc, hd, h0, h1⟩ | ⟨a0, fl, oe, vs, T, oT, ts, he, hcls, hd, h1, MP, MQ, hT, EA, h3⟩
 ·subst hc
  unfold noteFrame
  simp only [hf]
  refine wpAny_bind (wpAny_field he hd h1 ?_)
  rw [if_neg (by decide)]
  refine wpAny_entryW hfr fr hf he st nw hd (Array.getElem?_eq_some_iff.mp h1).1 h0 fun h' hN => ?_
  exact hQ h' a0 ⟨hN.1, nw, hN.2.1, hN.2.2.1⟩ hN.2.2.2
 ·by_cases hq : (fl == rawInt L) = true
  ·unfold noteFrame
   simp only [hf]
   refine wpAny_bind (wpAny_field he hd h1 ?_)
   rw [if_pos (show (Value.ref T != Value.none) = true by simp)]
   refine wpAny_bind (wpAny_field hT EA h3 ?_)
   rw [if_pos hq]
   refine wpAny_pure ?_
   have := hQ s.heap a0 ⟨st, nw, fr, oe, vs, T, oT, ts, he, hcls, hd, h1, MP, MQ, hT, EA, by rw [h3, beq_iff_eq.mp hq]⟩ (.refl _)
   exact this
  ·obtain ⟨rfl, h0⟩ := hcls
   unfold noteFrame
   simp only [hf]
   refine wpAny_bind (wpAny_field he hd h1 ?_)
   rw [if_pos (show (Value.ref T != Value.none) = true by simp)]
   refine wpAny_bind (wpAny_field hT EA h3 ?_)
   rw [if_neg hq]
   refine wpAny_bind (wpAny_setField hT EA (Array.getElem?_eq_some_iff.mp h3).1 ?_)
   have G7 : ∀ b, b ≠ T → (s.heap.update T (Obj.mapFields (·.setIfInBounds 3 Value.none))).get? b = s.heap.get? b := fun b hb => Heap.get?_update_other _ _ (Ne.symm hb)
   have MR : ∀ b o, s.heap.get? b = some o → (∀ vs, o.data ≠ .fields vs) → b ≠ T := fun b o hb hnf z => by
    rw [z, hT] at hb; cases hb; exact hnf ts EA
   refine wpAny_entryW hfr (fr.of_keeps fun b o hb hnf => ⟨o, (G7 b (MR b o hb hnf)).trans hb, rfl⟩) hf ((G7 e (Ne.symm MQ)).trans he)
    (fun b o Qt => (G7 b fun z => by rw [z, MP] at Qt; cases Qt).trans (st b o Qt)) nw hd (Array.getElem?_eq_some_iff.mp h1).1 h0 fun h' hN => ?_
   exact hQ h' a0 ⟨hN.1, nw, hN.2.1, hN.2.2.1⟩ fun b o hb hnf => hN.2.2.2 b o ((G7 b (MR b o hb hnf)).trans hb) hnf
theorem AB (hfr : A.frames = some (env :: outer)) (hf : env.frame = some L) (f : DX B (env :: outer) e cls s.heap)
  (hQ : ∀ h' a0, Heap.FlyingW B outer e cls a0 h' → s.heap.UpToSlots h' → Q () { s with heap := h' }) : wpAny M A (leaving env (.ref e)) Q E s := by
 unfold leaving
 refine wpAny_bind (CN hfr hf f fun h1 a0 hH u1 => ?_)
 refine wpAny_landsW hH fun h2 hF u2 => ?_
 obtain ⟨k1, k2, ⟨_, _, k3⟩, k4⟩ := hF
 exact hQ h2 a0 ⟨k1, k2, k3, k4⟩ (u1.trans u2)
theorem DX.DY {a0 : Value} {h : Heap} (f : Heap.FlyingW B l e cls a0 h) : DX B l e cls h := ⟨f.1, f.2.1, f.2.2.1, .inr ⟨a0, .none, f.2.2.2⟩⟩
end
structure SO (X : Cx) (B : Heap) : Prop where
 keep : ∀ b o, X.s₀.heap.get? b = some o → X.H₀ b = none → b ∉ frs X.stack → b ∉ X.ex → B.get? b = some o
 there : ∀ b o, X.s₀.heap.get? b = some o → b ∉ frs X.stack → b ∉ X.ex → ∃ o', B.get? b = some o'
 pins : ∀ p ∈ X.pn, B.get? p.1 = some p.2
noncomputable def KR (X : Cx) (H : Hp) (e : Addr) (cls : Value) (s : Shared) : Prop := ∃ B, DX B X.stack e cls s.heap ∧ qH X.prog X.w H B ∧ SO X B
noncomputable def CO (mg : Str → Option Value) (c : XD) (cls : Value) : Prop := match c with | .mk n _ => mg n = some cls
noncomputable def lX (X : Cx) (EE : gf) : Prop := ∀ (pins : List (Addr × Obj)) (σ : L2.St) (H : Hp) (s : Shared) (e : Addr) (cls : Value) (c : XD), Inv X pins σ H s → KR X H e cls s → CO X.mg c cls → EE c σ H → X.xe (.ref e) s
section
variable {X : Cx} {pins : List (Addr × Obj)} {σ : L2.St} {H : Hp} {s : Shared} {h' : Heap}
theorem IsCell.slots {h h' : Heap} {c : Addr} {v : Option Value} (u : h.UpToSlots h') (hc : h.IsCell c v) : h'.IsCell c v := by
 obtain ⟨o, e, d⟩ := hc
 obtain ⟨sl, e'⟩ := u c o e fun vs q => by rw [d] at q; cases q
 exact ⟨_, e', d⟩
theorem Inv.Jh {B : Heap} {t : Nat} (I : Inv X pins σ H s) (C : SO X B) (hok : qH X.prog X.w H B) (st : B.StaysIn h') (u : s.heap.UpToSlots h') (ht : 0 < t := by first | exact Nat.succ_pos _ | exact (Inv.os (by assumption)).2 | assumption | omega) : Inv X [] σ H { s with heap := h', toks := t } := by
 have Cy : ∀ b o, X.s₀.heap.get? b = some o → b ≠ X.env.locals := fun b o e => Nat.ne_of_lt (Nat.lt_of_lt_of_le (Heap.lt_size e) I.ok.above)
 have MT : ∀ b o, X.s₀.heap.get? b = some o → b ∉ X.fs → b ∉ frs X.stack := fun b o e hb z => by
  rcases List.mem_cons.mp (I.lQ b z) with z | z
  ·exact Cy b o e z
  ·exact hb z
 have slots : ∀ b o, X.s₀.heap.get? b = some o → X.H₀ b = none → b ∈ X.fs → b ∉ X.ex → ∃ sl, h'.get? b = some { o with slots := sl } := fun b o e n hb hx => by
  obtain ⟨sl, e1⟩ := I.base.slot b o e n hb hx
  obtain ⟨_, o', eo, hd⟩ := I.ok.uF.mem hb
  rw [e] at eo; cases eo
  obtain ⟨L4, e2⟩ := u b _ e1 hd
  exact ⟨L4, e2⟩
 refine ⟨I.ok, ⟨I.os.1, ht⟩, I.bare, ⟨fun b o e n hb hx => st _ _ (C.keep b o e n (MT b o e hb) hx), slots, I.base.free, fun b o e hx => ?_, I.base.tups, I.base.pB, I.base.pY⟩, ?_, fun x c e => ?_, I.free, I.pG, fun p hp => ?_, hok.kept st, I.len⟩
 ·by_cases hb : b ∈ X.fs
  ·obtain ⟨sl, e1⟩ := slots b o e (I.ok.JM b hb) hb hx
   exact ⟨_, e1⟩
  ·obtain ⟨o', e1⟩ := C.there b o e (MT b o e hb) hx
   exact ⟨o', st _ _ e1⟩
 ·obtain ⟨m, hn, hl⟩ := I.loc
  refine ⟨m, u.ns hn, fun i x v e1 e2 e3 => ?_⟩
  obtain ⟨w, r, l⟩ := hl i x v e1 e2 e3
  refine ⟨w, r, ?_⟩
  rcases l with l | ⟨k, c, e, z⟩
  ·exact .inl l
  ·exact .inr ⟨k, c, e, IsCell.slots u z⟩
 ·obtain ⟨v, z⟩ := I.cell x c e
  exact ⟨v, IsCell.slots u z⟩
 ·have Ji : p ∈ X.pn := by simpa using hp
  obtain ⟨e, n, ne, nf, d⟩ := I.pin p (List.mem_append_left _ Ji)
  exact ⟨st _ _ (C.pins p Ji), n, ne, nf, d⟩
end
structure MU (P : Program) (w : World) (outer : List Env) (H : Hp) (s : Shared) (H' : Hp) (B : Heap) (s' : Shared) : Prop where
 os : s'.os = s.os ∧ 0 < s'.toks
 bare : PyProof.Rows.AllBare s'.gens
 keep : ∀ b o, s.heap.get? b = some o → H b = none → b ∉ frs outer → B.get? b = some o
 there : ∀ b o, s.heap.get? b = some o → b ∉ frs outer → ∃ o', B.get? b = some o'
 slot : ∀ b o, s.heap.get? b = some o → H b = none → b ∈ frs outer → ∃ sl, s'.heap.get? b = some { o with slots := sl }
 free : ∀ b o, s.heap.get? b = some o → H b = none → H' b = none
 tups : ∀ b xs, H b = some (.tup xs) → H' b = some (.tup xs)
 pB : ∀ b o u, H b = some (.nc o u) → H' b = some (.nc o u)
 pY : ∀ b ps, H b = some (.Aj ps) → ∃ more, H' b = some (.Aj (ps ++ more))
 hok : qH P w H' B
noncomputable def bX (P : Program) (w : World) : wQ := fun outer H s E ev s' => ∃ e cls a0 B H', ev = .ref e ∧ Heap.FlyingW B outer e cls a0 s'.heap ∧ MU P w outer H s H' B s' ∧ E cls none H'
theorem fJ {X : Cx} {EE : gf} (h : lX X EE) : LQ (bX X.prog X.w) X EE := by
 intro pins σ H s ev s' I hq
 obtain ⟨e, cls, a0, B, H', rfl, fl, F, c, hc, ee⟩ := hq
 have un : Un (frs X.stack) [] H H' s.heap s'.heap := ⟨fun b o e n hb _ => fl.1 _ _ (F.keep b o e n hb), fun b o e n hb _ => F.slot b o e n hb, fun b o e n _ => F.free b o e n, fun b o e _ => by
  by_cases hb : b ∈ frs X.stack
  ·obtain ⟨sl, q⟩ := F.slot b o e (I.qJ b hb) hb
   exact ⟨_, q⟩
  ·obtain ⟨o', q⟩ := F.there b o e hb
   exact ⟨o', fl.1 _ _ q⟩, F.tups, F.pB, F.pY⟩
 have I' : Inv X pins σ H' s' := I.ED F.os un (F.hok.kept fl.1) F.bare fun b z => absurd z (by simp)
 refine h pins σ H' s' e cls c I' ⟨B, .DY fl, F.hok, fun b o eb n hb hx => ?_, fun b o eb hb hx => ?_, fun p hp => ?_⟩ hc ee
 ·have MV : b ∉ X.fs := fun z => hb (by
   rcases I.ok.stk with q | ⟨q, _⟩
   ·rw [q]; exact z
   ·rw [q]; unfold frs; rw [List.filterMap_cons]; split
    ·exact z
    ·exact List.mem_cons_of_mem _ z)
  exact F.keep b o (I.base.keep b o eb n MV hx) (I.base.free b o eb n hx) hb
 ·obtain ⟨o', q⟩ := I.base.there b o eb hx
  exact F.there b o' q hb
 ·obtain ⟨q, n, ne, nf, d⟩ := I.pin p (List.mem_append_left _ hp)
  exact F.keep p.1 p.2 q n fun z => by
   rcases List.mem_cons.mp (I.lQ _ z) with z | z
   ·exact ne z
   ·exact nf z
end L3
end
section
set_option Elab.async false
set_option linter.all false
set_option maxRecDepth 100000
namespace L3
open PySem PySem.Spec L2
section
variable {P : Program} {w : World} {K : PySem.W.Frag} {mg : Str → Option Value} {base : Heap} {f : Addr} {fd : FuncData}
theorem uS {x qual : Str} {st : Stmt} {N ps : List Str} {k n nn : Nat} {ms : MS} {m : List D → M D} (F : qI K x qual st f fd) (S : bz N ps (aa st)) (hps : ps.length = n) (hN : N.length = nn) (hm : ∀ ds, m ds = cj nn ms ds)
  (hbody : ∀ (X : Cx) (EE : gf) (cdv : Value) (A : Around) (outer : List Env) (s : Shared) (H : Hp) (E : XK), X = fG (bX P w) P w K mg base N qual (aa st) f cdv A outer s H E → gn k (A.deeper (PyProof.Rows.envOfC qual (aa st) s.heap.objs.size f cdv)) →
   lX X EE → PassesOwn (model P w) X.A X.env X.xe → Ez X EE (av st) ms) :
  aR P w K mg base (bX P w) (k + 1) f fd ps (aN K mg n m) := by
 subst hps hN
 have e : m = fun ds => cj N.length ms ds := funext hm
 subst e
 obtain ⟨oc, od, kV, doc, pm, an, cdv, ct, osl, rfl, lk, hcd⟩ := F.ex
 refine Mt lk hcd S (fun vs H Q E h => h.len) fun A outer s H vs Q E hr h => ?_
 obtain ⟨ds, ρ, G, hn, hp, rs, ok⟩ := h
 refine ⟨_, hbody _ (fun c σ H' => ∀ cls, CO mg c cls → E cls none H') cdv A outer s H E rfl hr ?_ PassesOwn.leaving, ds.map some ++ List.replicate (N.length - ds.length) none, ρ, G, ⟨vq rs, hp⟩, ?_⟩
 ·intro pins σ H' s' e cls c I fx hc ee
  obtain ⟨B, fb, hok, DZ⟩ := fx
  refine AB (L := s.heap.objs.size) I.ok.frames rfl fb fun h' a0 fl u => ?_
  have I' : Inv _ [] σ H' { s' with heap := h' } := Inv.Jh (t := s'.toks) I DZ hok fl.1 u
  have Cy : ∀ b o, s.heap.get? b = some o → b ∉ frs outer → b ∉ frs (PyProof.Rows.envOfC qual (aa st) s.heap.objs.size f cdv :: outer) := fun b o e hb z => by
   rcases List.mem_cons.mp (I.lQ b z) with z | z
   ·exact absurd (Heap.lt_size e) (by rw [show b = s.heap.objs.size from z]; exact Nat.lt_irrefl _)
   ·exact hb z
  refine ⟨e, cls, a0, B, H', rfl, fl, ⟨I'.os, I'.bare, fun b o eb nb hb => DZ.keep b o eb nb (Cy b o eb hb) (by intro z; exact absurd (show b ∈ ([] : List Addr) from z) (by simp)), fun b o eb hb => DZ.there b o eb (Cy b o eb hb) (by intro z; exact absurd (show b ∈ ([] : List Addr) from z) (by simp)),
   fun b o eb nb hb => I'.base.slot b o eb nb hb (by intro z; exact absurd (show b ∈ ([] : List Addr) from z) (by simp)), fun b o eb nb => I'.base.free b o eb nb (by intro z; exact absurd (show b ∈ ([] : List Addr) from z) (by simp)), I'.base.tups, I'.base.pB, I'.base.pY, hok⟩, ee cls hc⟩
 ·dsimp only [cj] at ok
  cases q : ms (ds.map some ++ List.replicate (N.length - ds.length) none) G with
  | stuck => rw [q] at ok; exact ok
  | nx τ G' => rw [q] at ok; exact fun σ' H' ρ' f ab => ok .gg H' ρ' f ab.hp (by unfold Rep; rfl)
  | rt d G' => rw [q] at ok; exact fun v H' ρ' f hp r => ok v H' ρ' f hp r
  | bk τ G' => rw [q] at ok; exact ok.elim
  | ct τ G' => rw [q] at ok; exact ok.elim
  | xn c τ G' => rw [q] at ok; exact fun σ' H' ρ' f ab cls hc => ok cls H' ρ' hc f ab.hp
end
abbrev BR : List Value := [.type "ValueError", .type "Exception", .type "BaseException", .type "object"]
theorem Ig {K : PySem.W.Frag} {h : Heap} {C : Addr} (X : K.In h) (e : PySem.W.excIn K C BR "ValueError.__new__" = true) :
  ∃ bm N nm q bs hdct sn sub ab col dd k0 k1 k2 k3 k5 mN, h.get? C = some (excClassObj nm q C N bs bm hdct sn sub ab col dd k0 k1 k2 k3 k5 "ValueError.__new__") ∧ h.Ns N mN ∧ mN "__init__" = none ∧ OwnTail h BR bm := by
 unfold PySem.W.excIn at e
 split at e
 ·rename_i dd cd sl ho
  split at e
  ·rename_i C' bm k0 k1 k2 k3 n k5 hm hs
   simp only [Bool.and_eq_true, beq_iff_eq, Bool.not_eq_true'] at e
   obtain ⟨⟨⟨⟨⟨rfl, rfl⟩, MW⟩, ht⟩, hok⟩, hni⟩ := e
   obtain ⟨nm, bs, mro, ns, qn, hd, sn, sub, ab, col, del⟩ := cd
   dsimp only at hm MW hok hni
   subst hm MW
   have hl : sl = #[k0, k1, k2, k3, some (.builtin "ValueError.__new__"), k5] := by
    cases sl with
    | mk l => exact congrArg Array.mk hs
   subst hl
   exact ⟨bm, ns, nm, qn, bs, hd, sn, sub, ab, col, dd, k0, k1, k2, k3, k5, _, X _ _ ho, .of_isNs (PySem.W.isNs_of_in X hok), PySem.W.nsMap_none_of_in X hok hni, PySem.W.tail_of_in X ht⟩
  ·cases e
 ·cases e
theorem xZ {h B base : Heap} : ∀ {l : List Env}, h.FunFrames base l → (∀ b ∈ frs l, B.get? b = none) → h.FunFrames B l
 | [], _, _ => trivial
 | env :: r, ⟨hk, ⟨L, o, hf, _, ho, hd⟩, hr⟩, hB => by
  have hm : ∀ b, b = L ∨ b ∈ frs r → b ∈ frs (env :: r) := fun b hb => by
   unfold frs; rw [List.filterMap_cons, hf]
   rcases hb with z | z
   ·rw [z]; exact List.mem_cons_self
   ·exact List.mem_cons_of_mem _ z
  exact ⟨hk, ⟨L, o, hf, hB L (hm L (.inl rfl)), ho, hd⟩, xZ hr fun b hb => hB b (hm b (.inr hb))⟩
theorem AD {P : Program} {w : World} {H : Hp} {h B : Heap} (x : qH P w H h) (k : ∀ b o, H b ≠ none → h.get? b = some o → B.get? b = some o) : qH P w H B := fun a o e =>
 (x a o e).stay (fun b u hb q => k b u (by
  rcases hb with z | z
  ·rw [z, e]; simp
  ·rw [z]; simp) q) (fun _ q => q) fun _ _ q => q
section
variable {X : Cx} {EE : gf} {pins : List (Addr × Obj)} {σ : L2.St} {H : Hp} {s : Shared}
theorem D0 {h' : Heap} {e : Addr} {C : Addr} {args : List Value} (I : Inv X pins σ H s) (hm : Heap.MadeExcOf s.heap h' e (.ref C) args) : KR X H e (.ref C) { s with heap := h' } := by
 have hg : ∀ b o, s.heap.get? b = some o → b ∉ frs X.stack → (PySem.W.hideAll s.heap (frs X.stack)).get? b = some o := fun b o e hb => PySem.W.hideAll_get _ e hb
 have MV : ∀ b, b ∉ frs X.stack → b ∉ X.fs := fun b hb z => hb (by
  rcases I.ok.stk with q | ⟨q, _⟩
  ·rw [q]; exact z
  ·rw [q]; unfold frs; rw [List.filterMap_cons]; split
   ·exact z
   ·exact List.mem_cons_of_mem _ z)
 obtain ⟨t, he, _, _⟩ := hm.there
 refine ⟨PySem.W.hideAll s.heap (frs X.stack), ⟨fun b o q => hm.keeps b o (PySem.W.of_hideAll _ q), ?_, ?_, .inl ⟨_, _, _, he, rfl, rfl, rfl, rfl⟩⟩, ?_, ⟨fun b o q n hb hx => ?_, fun b o q hb hx => ?_, fun p hp => ?_⟩⟩
 ·cases q : (PySem.W.hideAll s.heap (frs X.stack)).get? e with
  | none => rfl
  | some o => have := PySem.W.of_hideAll _ q; rw [hm.new] at this; cases this
 ·exact (xZ I.stack fun b hb => PySem.W.hideAll_none _ hb).of_keeps fun b o q _ => ⟨o, hm.keeps b o q, rfl⟩
 ·exact AD I.hok fun b o n q => hg b o q fun z => n (I.qJ b z)
 ·exact hg b o (I.base.keep b o q n (MV b hb) hx) hb
 ·obtain ⟨o', q'⟩ := I.base.there b o q hx
  exact ⟨o', hg b o' q' hb⟩
 ·obtain ⟨q, n, ne, nf, d⟩ := I.pin p (List.mem_append_left _ hp)
  exact hg _ _ q fun z => (List.mem_cons.mp (I.lQ _ z)).elim ne nf
noncomputable def gT (x : Str) (m : DS → M (List D)) : MS := fun τ => fq (m τ) (fun ds G => if ds.length ≤ sizeLine then .xn (.mk x ds) τ G else .stuck) fun c G => .xn c τ G
theorem Fq {x : Str} {C : Addr} {np cpos pos : Pos} {e : Expr} {es : List Expr} {m : DS → M (List D)} (hc : X.calm = true) (hx : lX X EE) (hm : X.mg x = some (.ref C)) (hq : PySem.W.excIn X.K C BR "ValueError.__new__" = true) (hg : Gl X x) (hd : (x == ("__debug__" : Str)) = false)
  (ha : QA X EE (e :: es) m) (he : starEach (e :: es) X.env = (false, eval e X.env) :: starEach es X.env) (hpl : (backTo cpos (starEach es X.env)).any (·.1) = false) :
  QS X EE (.Raise (some (.Call (.Name x np) (e :: es) [] cpos)) none pos) (gT x m) := by
 intro pins s σ H Dd I h
 obtain ⟨τ, ρ, G, ab, ok⟩ := Fg (k := fun τ ds G => if ds.length ≤ sizeLine then .xn (.mk x ds) τ G else .stuck) h
 obtain ⟨bm, N, nm, q, bs, hdct, sn, sub, dm, col, dd, k0, k1, k2, k3, k5, mN, hC, hN, hni, T⟩ := Ig I.ok.mod.JI hq
 refine wpAny_Raise_call_subU (C := C) (nm := nm) (q := q) (N := N) (bs := bs) (bm := bm) (hdct := hdct) (sn := sn) (sub := sub) (ab := dm) (col := col) (dd := dd) (k0 := k0) (k1 := k1) (k2 := k2) (k3 := k3) (k5 := k5) PySem.F.excBase_ValueError (bmB := BR) (by decide +kernel) PySem.F.excBase_ValueError (mN := mN) (T.hasType PySem.F.excBase_ValueError.hasBase) (I.ok.hd hc)
  (by rw [he]; show (false || (backTo cpos (starEach es X.env)).any (·.1)) = false; rw [hpl]; rfl) hni (uN I hg hm ⟨rfl, ?_⟩ hd)
 have h1 := ha cpos pins s σ H _ I ⟨τ, ρ, G, ab, ok⟩
 rw [he] at h1 ⊢
 refine Calls.evalArgs_plain (wpAny_mono h1 (fun us s2 h2 => ?_) fun _ _ z => z)
 obtain ⟨vs, H2, I2, r2, τ2, ρ2, G2, ds, eL, rs, aX⟩ := h2
 by_cases hl : ds.length ≤ sizeLine
 ·rw [if_pos hl] at aX
  refine ⟨rfl, by show us.length ≤ _; rw [← r2.length, ← rs.length]; exact hl, I2.bk _ _ hC, hN.keeps I2.bk, T.keeps I2.bk, fun h' e hmade => ?_⟩
  exact hx pins σ H2 _ e (.ref C) (.mk x ds) (I2.kept (t' := s2.toks) hmade.keeps) (D0 I2 hmade) hm (aX σ H2 ρ2 .refl eL)
 ·rw [if_neg hl] at aX; exact aX.elim
end
end L3
end
section
set_option Elab.async false
set_option linter.all false
set_option maxRecDepth 100000
namespace L3
open PySem PySem.Spec L2
noncomputable abbrev Cx.to (X : Cx) (E : Value → Shared → Prop) (pn : List (Addr × Obj)) : Cx := { X with xe := E, pn := pn }
section
variable {X : Cx} {EE : gf} {pins : List (Addr × Obj)} {σ : L2.St} {H : Hp} {s : Shared} {E : Value → Shared → Prop}
end
end L3
end
section
set_option Elab.async false
set_option linter.all false
set_option maxRecDepth 100000
namespace L3
open PySem PySem.Spec L2
noncomputable def iF (env : Env) : List (Str × NameKind) → List (Str × Addr) → List (Str × Addr)
 | [], acc => acc
 | (n, k) :: r, acc => iF env r (if k == .free then (match env.cells.lookup n with | some c => (n, c) :: acc | none => acc) else acc)
theorem pL {scope : Scope} {env : Env} (h : ∀ x ∈ scope.names, x.2 = .free → ∃ c, env.cells.lookup x.1 = some c) : closureFor scope env = pure (iF env scope.names []) := by
 unfold closureFor
 have key : ∀ (names : List (Str × NameKind)) (acc : List (Str × Addr)), (∀ x ∈ names, x.2 = .free → ∃ c, env.cells.lookup x.1 = some c) →
   (forIn names acc fun x r => match x with | (name, kind) => if (kind == NameKind.free) = true then do let y ← cellOf env name; pure (ForInStep.yield ((name, y) :: r)) else pure (ForInStep.yield r)) = (pure (iF env names acc) : Sem (List (Str × Addr))) := by
  intro names
  induction names with
  | nil => intro acc _; rfl
  | cons x r ih =>
   intro acc hx
   obtain ⟨n, k⟩ := x
   rw [List.forIn_cons]
   by_cases hk : (k == NameKind.free) = true
   ·obtain ⟨c, hc⟩ := hx (n, k) List.mem_cons_self (eq_of_beq hk)
    have e : cellOf env n = pure c := by unfold cellOf; rw [hc]
    simp only [if_pos hk, e, pure_bind]
    rw [ih _ fun y hy => hx y (List.mem_cons_of_mem _ hy)]
    show _ = pure (iF env r (if (k == NameKind.free) = true then (match env.cells.lookup n with | some c => (n, c) :: acc | none => acc) else acc))
    rw [if_pos hk, hc]
   ·simp only [if_neg hk, pure_bind]
    rw [ih _ fun y hy => hx y (List.mem_cons_of_mem _ hy)]
    show _ = pure (iF env r (if (k == NameKind.free) = true then (match env.cells.lookup n with | some c => (n, c) :: acc | none => acc) else acc))
    rw [if_neg hk]
 have k2 := key scope.names [] h
 first
  | (rw [k2]; rfl)
  | (simp only [k2, pure_bind])
  | exact k2
theorem vz {env : Env} : ∀ (names : List (Str × NameKind)) (acc : List (Str × Addr)), (∀ y c, acc.lookup y = some c → env.cells.lookup y = some c) → ∀ y c, (iF env names acc).lookup y = some c → env.cells.lookup y = some c
 | [], acc, h, y, c, e => h y c e
 | (n, k) :: r, acc, h, y, c, e => by
  refine vz r _ (fun z d ez => ?_) y c e
  by_cases hk : (k == NameKind.free) = true
  ·rw [if_pos hk] at ez
   cases q : env.cells.lookup n with
   | none => rw [q] at ez; exact h z d ez
   | some c' =>
    rw [q] at ez
    dsimp only at ez
    rw [List.lookup_cons] at ez
    cases hz : z == n with
    | true => rw [hz] at ez; cases ez; rw [eq_of_beq hz]; exact q
    | false => rw [hz] at ez; exact h z d ez
  ·rw [if_neg hk] at ez
   exact h z d ez
theorem vA {env : Env} : ∀ (names : List (Str × NameKind)) (acc : List (Str × Addr)) (y : Str), ((∃ c, acc.lookup y = some c) ∨ ((y, NameKind.free) ∈ names ∧ ∃ c, env.cells.lookup y = some c)) → ∃ c, (iF env names acc).lookup y = some c
 | [], acc, y, h => by
  rcases h with h | ⟨h, _⟩
  ·exact h
  ·cases h
 | (n, k) :: r, acc, y, h => by
  refine vA r _ y ?_
  rcases h with ⟨c, h⟩ | ⟨h, c, hc⟩
  ·left
   by_cases hk : (k == NameKind.free) = true
   ·rw [if_pos hk]
    cases q : env.cells.lookup n with
    | none => exact ⟨c, h⟩
    | some c' =>
     dsimp only
     rw [List.lookup_cons]
     cases hz : y == n with
     | true => exact ⟨c', rfl⟩
     | false => exact ⟨c, h⟩
   ·rw [if_neg hk]; exact ⟨c, h⟩
  ·rcases List.mem_cons.mp h with e | h
   ·cases e
    left
    rw [if_pos (by rfl), hc]
    dsimp only
    exact ⟨c, by rw [List.lookup_cons, beq_self_eq_true]⟩
   ·exact .inr ⟨h, c, hc⟩
end L3
end
section
set_option Elab.async false
set_option linter.all false
set_option maxRecDepth 100000
namespace L3
open PySem PySem.Spec L2 PyProof.Rows
noncomputable def mask {α : Type} : List Bool → List (Option α) → List (Option α)
 | _, [] => []
 | [], _ :: r => none :: mask [] r
 | k :: ks, o :: r => (if k then o else none) :: mask ks r
theorem j7 {α : Type} : ∀ (ks : List Bool) (l : List (Option α)), (mask ks l).length = l.length
 | _, [] => by unfold mask; rfl
 | [], _ :: r => by unfold mask; simp [j7 [] r]
 | k :: ks, o :: r => by unfold mask; simp [j7 ks r]
theorem nW {α : Type} {v : α} : ∀ {ks : List Bool} {l : List (Option α)} {i : Nat}, (mask ks l)[i]? = some (some v) → ks[i]? = some true ∧ l[i]? = some (some v)
 | ks, [], i, h => by unfold mask at h; simp at h
 | [], o :: r, 0, h => by unfold mask at h; simp at h
 | [], o :: r, i + 1, h => by
  unfold mask at h
  have := (nW (ks := []) (l := r) (i := i) (by simpa using h)).1
  simp at this
 | k :: ks, o :: r, 0, h => by
  unfold mask at h
  cases k with
  | true => simpa using h
  | false => simp at h
 | k :: ks, o :: r, i + 1, h => by
  unfold mask at h
  have := nW (ks := ks) (l := r) (i := i) (by simpa using h)
  simpa using this
theorem CP {α : Type} {v : α} : ∀ {ks : List Bool} {l : List (Option α)} {i : Nat}, ks[i]? = some true → l[i]? = some (some v) → (mask ks l)[i]? = some (some v)
 | ks, [], i, _, h => by simp at h
 | [], o :: r, i, h, _ => by simp at h
 | k :: ks, o :: r, 0, h, e => by unfold mask; simp at h e; simp [h, e]
 | k :: ks, o :: r, i + 1, h, e => by
  unfold mask
  have := CP (ks := ks) (l := r) (i := i) (by simpa using h) (by simpa using e)
  simpa using this
noncomputable def wW (env : Env) (n : Str) (k : NameKind) : NameKind := if (k == .free && env.scope.kind == .function && env.kindOf n == some .cell) then .cell else k
theorem fK {env : Env} {y : Str} : ∀ (names : List (Str × NameKind)), (names.map fun (n, k) => if (k == NameKind.free && env.scope.kind == .function && env.kindOf n == some .cell) then (n, NameKind.cell) else (n, k)).lookup y = (names.lookup y).map (wW env y)
 | [] => rfl
 | (n, k) :: r => by
  have ih := fK (env := env) (y := y) r
  rw [List.map_cons, List.lookup_cons]
  by_cases hc : (k == NameKind.free && env.scope.kind == .function && env.kindOf n == some .cell) = true
  ·rw [if_pos hc, List.lookup_cons]
   cases hy : y == n with
   | true =>
    have e : y = n := eq_of_beq hy
    subst e
    simp [wW, hc]
   | false => exact ih
  ·rw [if_neg hc, List.lookup_cons]
   cases hy : y == n with
   | true =>
    have e : y = n := eq_of_beq hy
    subst e
    simp [wW, hc]
   | false => exact ih
structure cN (O9 : Scope) (N : List Str) (scope : Scope) (xs : List Str) (ks : List Bool) : Prop where
 nd : xs.Nodup
 kind : scope.kind = .function
 Ft : ∀ y ∈ scope.names, y.2 ≠ .cell
 names : ∀ y ∈ scope.names, y.2 = .local → scope.names.lookup y.1 = some .local
 loc : ∀ x ∈ xs, scope.names.lookup x = some .local
 free : ∀ y ∈ scope.names, y.2 = .free → O9.names.lookup y.1 = some .cell ∨ O9.names.lookup y.1 = some .free
 Qu : ((ks.zip N).all fun p => !p.1 || decide (scope.names.lookup p.2 = some .free)) = true
theorem cN.cap {O9 : Scope} {N : List Str} {scope : Scope} {xs : List Str} {ks : List Bool} (S : cN O9 N scope xs ks) : ∀ i < ks.length, ks[i]? = some true → ∀ y ∈ N[i]?, scope.names.lookup y = some .free := fun i _ hk y hy => by
 have h := List.all_eq_true.mp S.Qu (true, y) (List.mem_of_getElem? (i := i) (by rw [List.getElem?_zip_eq_some]; exact ⟨hk, hy⟩))
 simpa using h
noncomputable def sJ (X : Cx) (scope : Scope) (cl : List (Str × Addr)) (xs : List Str) (C : Addr) (pins : List (Addr × Obj)) (s : Shared) (H : Hp) (fp : List Addr) (E : Value → Shared → Prop) : Cx where
 prog := X.prog
 w := X.w
 K := X.K
 mg := X.mg
 base := X.base
 A := X.A
 N := xs ++ X.N
 s₀ := s
 H₀ := H
 env := compEnvC scope cl C X.env
 outer := X.stack
 stack := X.stack
 ex := fp
 fn := fun _ => false
 calm := X.calm
 pn := X.pn ++ pins
 xe := E
section
variable {X : Cx} {scope : Scope} {xs : List Str} {x : Str} {ks : List Bool} {pins : List (Addr × Obj)} {σ : L2.St} {H : Hp} {s s4 : Shared} {fp : List Addr} {E : Value → Shared → Prop} {h1 : Heap}
theorem mem_lookup {α β : Type} [BEq α] [LawfulBEq α] : ∀ {l : List (α × β)} {a : α} {b : β}, l.lookup a = some b → (a, b) ∈ l
 | [], _, _, h => by simp at h
 | (a', b') :: r, a, b, h => by
  rw [List.lookup_cons] at h
  cases hz : a == a' with
  | true => rw [hz] at h; cases h; rw [eq_of_beq hz]; exact List.mem_cons_self
  | false => rw [hz] at h; exact List.mem_cons_of_mem _ (mem_lookup h)
theorem Fv (S : cN X.env.scope X.N scope xs ks) {cl : List (Str × Addr)} {C : Addr} {y : Str} (h : (compEnvC scope cl C X.env).kindOf y = some .cell ∨ (compEnvC scope cl C X.env).kindOf y = some .free) : scope.names.lookup y = some .free := by
 have h' : (scope.names.lookup y).map (wW X.env y) = some .cell ∨ (scope.names.lookup y).map (wW X.env y) = some .free := by
  rw [← fK]; exact h
 cases q : scope.names.lookup y with
 | none => rw [q] at h'; rcases h' with h' | h' <;> cases h'
 | some k =>
  rw [q] at h'
  cases k with
  | free => rfl
  | cell => exact absurd rfl (S.Ft _ (mem_lookup q))
  | _ => rcases h' with h' | h' <;> simp [wW] at h'
theorem sL (S : cN X.env.scope X.N scope xs ks) {cl : List (Str × Addr)} {C : Addr} {y : Str} (h : scope.names.lookup y = some .free) : (compEnvC scope cl C X.env).kindOf y = some .cell ∨ (compEnvC scope cl C X.env).kindOf y = some .free := by
 have e : (compEnvC scope cl C X.env).kindOf y = (scope.names.lookup y).map (wW X.env y) := fK scope.names
 rw [e, h]
 unfold wW
 dsimp only [Option.map]
 split
 ·exact .inl rfl
 ·exact .inr rfl
theorem vB (S : cN X.env.scope X.N scope xs ks) (hx : x ∈ xs) {cl : List (Str × Addr)} {C : Addr} : (compEnvC scope cl C X.env).kindOf x = some .local := by
 have e : (compEnvC scope cl C X.env).kindOf x = (scope.names.lookup x).map (wW X.env x) := fK scope.names
 rw [e, S.loc x hx]
 rfl
theorem BS (S : cN X.env.scope X.N scope xs ks) (I : Inv X pins σ H s) (hf : ∀ b ∈ fp, vd X pins H b ∧ b < s.heap.objs.size) (hn : h1.Ns s.heap.objs.size fun _ => none) (hk : ∀ b o, s.heap.get? b = some o → h1.get? b = some o) (t : Nat) (ht : 0 < t := by first | exact Nat.succ_pos _ | exact (Inv.os (by assumption)).2 | assumption | omega) :
  Inv (sJ X scope (iF X.env scope.names []) xs s.heap.objs.size pins s H fp E) [] (List.replicate xs.length none ++ mask ks σ) H { s with heap := h1, toks := t } := by
 have cs : ∀ y c, (iF X.env scope.names []).lookup y = some c → X.env.cells.lookup y = some c := vz scope.names [] fun y c e => by simp at e
 have lt : ∀ b o, s.heap.get? b = some o → b ≠ s.heap.objs.size := fun b o e => Nat.ne_of_lt (Heap.lt_size e)
 have KS : ∀ y c, X.env.cells.lookup y = some c → ∃ v, s.heap.IsCell c v := fun y c e => I.cell y c e
 have Jj : ∀ b, b ≠ X.env.locals → b ∉ X.fs → b ∉ frs X.stack := fun b h1 h2 h3 => (List.mem_cons.mp (I.lQ b h3)).elim h1 h2
 refine ⟨⟨I.ok.mod, ?_, I.ok.glob, I.ok.blt, Nat.le_refl _, fun y z c e1 e2 => I.ok.inj y z c (cs y c e1) (cs z c e2), fun y hy => ?_, fun y c h _ => absurd (show false = true from h) Bool.false_ne_true, I.ok.hd, I.ok.frames, .inl rfl, fun b hb => ⟨Nat.ne_of_lt (hf b hb).2, fun y c e => (hf b hb).1.2.2.2.2.1 y c (cs y c e)⟩, I.bs,
   Nat.le_trans I.ok.I8 I.sz, fun b o e hb => ?_, fun b hb => Jj b (hf b hb).1.2.1 (hf b hb).1.2.2.1, I.stack, I.qJ⟩, ⟨rfl, ht⟩, I.bare, Un.kept hk, ⟨_, hn, fun i y v e1 e2 e3 => ?_⟩, fun y c e => ?_, I.hok.fresh (Nat.le_refl _), fun y c e => I.pG y c (cs y c e), fun p hp => ?_, I.hok.kept hk, ?_⟩
 ·show (relabel scope X.env).kind = .function
  exact S.kind
 ·have hfree := Fv S hy
  have hm := mem_lookup hfree
  refine vA scope.names [] y (.inr ⟨hm, ?_⟩)
  exact I.ok.has y (S.free _ hm rfl)
 ·rcases (hf b hb).1.2.2.2.1 with z | z
  ·exact I.ok.JK b o e z
  ·exact absurd (Nat.lt_of_lt_of_le (Heap.lt_size (I.ok.bs b o e).1) z) (Nat.lt_irrefl _)
 ·by_cases hlt : i < xs.length
  ·rw [List.getElem?_append_left (by simpa using hlt), List.getElem?_replicate] at e2
   rw [if_pos hlt] at e2; cases e2
  ·obtain ⟨j, rfl⟩ : ∃ j, i = xs.length + j := ⟨i - xs.length, by omega⟩
   have G4 : (mask ks σ)[j]? = some (some v) := by
    rw [List.getElem?_append_right (by simp)] at e2
    simpa using e2
   obtain ⟨hks, eσ⟩ := nW G4
   have GZ : X.N[j]? = some y := by
    have : (xs ++ X.N)[xs.length + j]? = some y := e1
    rw [List.getElem?_append_right (by omega)] at this
    simpa using this
   have hfree : scope.names.lookup y = some .free := S.cap j (List.getElem?_eq_some_iff.mp hks).1 hks y (by rw [GZ]; rfl)
   obtain ⟨m, hm, hl⟩ := I.loc
   have hkind := S.free _ (mem_lookup hfree) rfl
   obtain ⟨u, r, l⟩ := hl j y v GZ eσ (hkind.elim (fun z => .inr (.inl z)) fun z => .inr (.inr z))
   refine ⟨u, r, .inr ⟨sL S hfree, ?_⟩⟩
   rcases l with ⟨k, _⟩ | ⟨k, c, ec, hc⟩
   ·have k' : X.env.scope.names.lookup y = some .local := k
    rcases hkind with z | z <;> (rw [k'] at z; cases z)
   ·obtain ⟨c', SQ⟩ := vA (env := X.env) scope.names [] y (.inr ⟨mem_lookup hfree, c, ec⟩)
    have := cs y c' SQ
    rw [ec] at this; cases this
    exact ⟨c, SQ, hc.keeps hk⟩
 ·obtain ⟨v, hc⟩ := KS y c (cs y c e)
  exact ⟨v, hc.keeps hk⟩
 ·have Ji : p ∈ X.pn ++ pins := by
   have : p ∈ (X.pn ++ pins) ++ [] := hp
   simpa using this
  obtain ⟨e, n, ne, nf, d⟩ := I.pin p Ji
  exact ⟨hk _ _ e, n, lt _ _ e, Jj _ ne nf, d⟩
 ·show (List.replicate xs.length none ++ mask ks σ).length = (xs ++ X.N).length
  simp [j7, I.len]
theorem BU {Xc : Cx} {cl : List (Str × Addr)} {C : Addr} {σ0 : L2.St} {own : List (Option V)} {n : Nat} {v : V} {u : Value} {A' : Around} {Q : Unit → Shared → Prop} {E' : Value → Shared → Prop} {M' : Model} {px : Pos} {s0 : Shared} {H0 H1 : Hp} {s1 : Shared} {j4 : List (Addr × Obj)}
  (S : cN X.env.scope X.N scope xs ks) (e : Xc = sJ X scope cl xs C pins s0 H0 fp E) (SR : own.length = xs.length) (hx : xs[n]? = some x) (I : Inv Xc j4 (own ++ mask ks σ0) H1 s1) (r : RelV v u) (h : ∀ s', Inv Xc j4 (own.set n (some v) ++ mask ks σ0) H1 s' → Q () s') :
  wpAny M' A' (assign (.Name x px) Xc.env u) Q E' s1 := by
 subst e
 obtain ⟨m, hn, hl⟩ := id I.loc
 have LR := vB (cl := cl) (C := C) S (List.mem_of_getElem? hx)
 refine wpAny_assign_Name (wpAny_storeName_local LR hn (fun h' hn' hs => ?_) (by rw [show (sJ X scope cl xs C pins s0 H0 fp E).env.scope.kind = .function from S.kind]; rfl))
 refine h _ ?_
 have Cy : ∀ b o, s0.heap.get? b = some o → b ≠ C := fun b o e => Nat.ne_of_lt (Nat.lt_of_lt_of_le (Heap.lt_size e) I.ok.above)
 obtain ⟨oL, _, _, SD, _⟩ := id hn
 have hfree : H1 C = none := I.free
 refine ⟨I.ok, ⟨I.os.1, Nat.succ_pos _⟩, I.bare, ⟨fun b o e n hb hx => ?_, fun b o e n hb hx => ?_, I.base.free, fun b o e hx => ?_, I.base.tups, I.base.pB, I.base.pY⟩, ⟨_, hn', fun j y v' e1 e2 e3 => ?_⟩, fun y c e => ?_, I.free, I.pG, fun p hp => ?_, fun b ob e => ?_, by simpa using I.len⟩
 ·exact (hs.2 b (Cy b o e)).trans (I.base.keep b o e n hb hx)
 ·obtain ⟨sl, e1⟩ := I.base.slot b o e n hb hx
  exact ⟨sl, (hs.2 b (Cy b o e)).trans e1⟩
 ·obtain ⟨o', e1⟩ := I.base.there b o e hx
  exact ⟨o', (hs.2 b (Cy b o e)).trans e1⟩
 ·have hnl : n < xs.length := (List.getElem?_eq_some_iff.mp hx).1
  by_cases hlt : j < xs.length
  ·have ey : xs[j]? = some y := by
    have : (xs ++ X.N)[j]? = some y := e1
    rwa [List.getElem?_append_left hlt] at this
   rw [List.getElem?_append_left (by simp; omega)] at e2
   by_cases hj : n = j
   ·subst hj
    rw [hx] at ey; cases ey
    rw [List.getElem?_set, if_pos rfl, if_pos (by omega)] at e2
    cases e2
    exact ⟨u, r, .inl ⟨LR, by simp⟩⟩
   ·rw [List.getElem?_set_ne hj] at e2
    have hne : y ≠ x := by
     rintro rfl
     obtain ⟨h1, GZ⟩ := List.getElem?_eq_some_iff.mp hx
     obtain ⟨h2, G4⟩ := List.getElem?_eq_some_iff.mp ey
     exact hj ((List.getElem_inj S.nd).mp (GZ.trans G4.symm))
    obtain ⟨u', r', q⟩ := hl j y v' e1 (by rw [List.getElem?_append_left (by omega)]; exact e2) e3
    refine ⟨u', r', ?_⟩
    rcases q with ⟨k, e⟩ | ⟨k, c, e, z⟩
    ·exact .inl ⟨k, by simpa [hne] using e⟩
    ·exact .inr ⟨k, c, e, z.sameBut hs (I.GW y c e)⟩
  ·obtain ⟨j, rfl⟩ : ∃ k, j = xs.length + k := ⟨j - xs.length, by omega⟩
   have G4 : (mask ks σ0)[j]? = some (some v') := by
    rw [List.getElem?_append_right (by simp; omega)] at e2
    simpa [SR] using e2
   obtain ⟨u', r', q⟩ := hl (xs.length + j) y v' e1 (by rw [List.getElem?_append_right (by omega)]; simpa [SR] using G4) e3
   refine ⟨u', r', ?_⟩
   rcases q with ⟨k, e⟩ | ⟨k, c, e, z⟩
   ·obtain ⟨hks, _⟩ := nW G4
    have GZ : X.N[j]? = some y := by
     have : (xs ++ X.N)[xs.length + j]? = some y := e1
     rw [List.getElem?_append_right (by omega)] at this
     simpa using this
    have hfr : scope.names.lookup y = some .free := S.cap j (List.getElem?_eq_some_iff.mp hks).1 hks y (by rw [GZ]; rfl)
    rcases sL (cl := cl) (C := C) S hfr with z | z
    ·have k' : (compEnvC scope cl C X.env).kindOf y = some .local := k
     rw [k'] at z; cases z
    ·have k' : (compEnvC scope cl C X.env).kindOf y = some .local := k
     rw [k'] at z; cases z
   ·exact .inr ⟨k, c, e, z.sameBut hs (I.GW y c e)⟩
 ·obtain ⟨w', z⟩ := I.cell y c e
  exact ⟨w', z.sameBut hs (I.GW y c e)⟩
 ·obtain ⟨e, n, ne, nf, d⟩ := I.pin p hp
  exact ⟨(hs.2 p.1 ne).trans e, n, ne, nf, d⟩
 ·refine (I.hok b ob e).stay (fun c w' hc q => (hs.2 c ?_).trans q) (fun _ q => q) fun _ _ q => q
  intro ec
  rcases hc with hc | hc
  ·have : H1 C = some ob := by rw [← (show c = C from ec), hc]; exact e
   rw [hfree] at this; cases this
  ·have : H1 C = some (.own b) := by rw [← (show c = C from ec)]; exact hc
   rw [hfree] at this; cases this
noncomputable def wX : V → Hp → List V → Prop := fun x _ vs => vs = [x]
noncomputable def Own (X : Cx) (scope : Scope) (xs : List Str) (ks : List Bool) (tg : Expr) (ow : V → Hp → List V → Prop) : Prop :=
 ∀ (cl : List (Str × Addr)) (C : Addr) (pins : List (Addr × Obj)) (s0 : Shared) (H0 : Hp) (fp : List Addr) (E : Value → Shared → Prop) (Xc : Cx) (σ0 : L2.St) (own : List (Option V)) (x : V) (vs : List V) (u : Value) (H1 : Hp) (s1 : Shared) (j4 : List (Addr × Obj)) (E' : Value → Shared → Prop) (Q : Unit → Shared → Prop),
  Xc = sJ X scope cl xs C pins s0 H0 fp E → own.length = xs.length → Inv Xc j4 (own ++ mask ks σ0) H1 s1 → RelV x u → ow x H1 vs →
  (vs.length = xs.length → ∀ s', Inv Xc j4 (vs.map some ++ mask ks σ0) H1 s' → Q () s') → wpAny (model X.prog X.w) X.A (assign tg Xc.env u) Q E' s1
theorem iU {px : Pos} (S : cN X.env.scope X.N scope [x] ks) : Own X scope [x] ks (.Name x px) wX := by
 intro cl C pins s0 H0 fp E Xc σ0 own v vs u H1 s1 j4 E' Q e ho I r hv h
 cases hv
 match own, ho with
 | [a], _ => exact BU (own := [a]) (n := 0) S e rfl rfl I r fun s' I' => h rfl s' I'
end
end L3
end
section
set_option Elab.async false
set_option linter.all false
set_option maxRecDepth 100000
namespace L3
open PySem PySem.Spec L2
theorem zb {prog : Program} {w : World} {A : Around} {R : Result → Shared → Prop} {s : Shared} {elt target iter : Expr} {ifs : List Expr} {scope : Scope} {pos : Pos} {it acc : Value} {env : Env} (I : Nat → Shared → Prop)
  (turn : ∀ (n : Nat) (s : Shared), I n s → wpAny (model prog w) A (pyNext it) (fun r s₁ => match r with
   | none => R (.ok .next) s₁
   | some v => wpAny (model prog w) A (letOwnedTupleGo target it v) (fun _ s₁' => wpAny (model prog w) A (assign target env v) (fun _ s₂ => wpAny (model prog w) A (forIn ifs true fun c r => if r = true then do let ok ← isTrue c env (eval c env); pure (ForInStep.yield ok) else pure (ForInStep.yield r)) (fun ok s₃ => if ok = true then wpAny (model prog w) A (eval elt env) (fun x s₄ => wpAny (model prog w) A (call (.builtin "list.append") [acc, x]) (fun _ s₅ => ∃ m, m < n ∧ I m s₅) (notedBy (model prog w) A env fun e s' => R (.error e) s') s₄) (notedBy (model prog w) A env fun e s' => R (.error e) s') s₃ else ∃ m, m < n ∧ I m s₃) (notedBy (model prog w) A env fun e s' => R (.error e) s') s₂) (notedBy (model prog w) A env fun e s' => R (.error e) s') s₁') (notedBy (model prog w) A env fun e s' => R (.error e) s') s₁) (notedBy (model prog w) A env fun e s' => R (.error e) s') s) (n : Nat) (h : I n s) :
  codeAny (model prog w) A (.compLoop (.ListComp elt [⟨target, iter, ifs, 0⟩] scope pos) 0 it acc env) R s := by
 refine codeAny_loop rfl I (fun n s hI => ?_) n h
 refine wpAny_noted ?_
 rw [compTurn_list]
 refine wpAny_bind (wpAny_standAt (wpAny_bind (wpAny_mono (turn n s hI) (fun r s₁ h₁ => ?_) fun _ _ z => z)))
 cases r with
 | none => exact wpAny_pure h₁
 | some v =>
  refine wpAny_bind (wpAny_mono h₁ (fun _ s₂ h₂ => wpAny_bind (wpAny_mono h₂ (fun _ s₃ h₃ => wpAny_bind (wpAny_mono h₃ (fun ok s₄ h₄ => ?_) fun _ _ z => z)) fun _ _ z => z)) fun _ _ z => z)
  cases ok with
  | false => exact wpAny_pure ⟨rfl, h₄⟩
  | true => exact wpAny_bind (wpAny_bind (wpAny_mono h₄ (fun x s₅ h₅ => wpAny_bind (wpAny_mono h₅ (fun _ s₆ h₆ => wpAny_pure (wpAny_pure ⟨rfl, h₆⟩)) fun _ _ z => z)) fun _ _ z => z))
noncomputable def CT (X : Cx) (ifs : List Expr) (tt : TT) : Prop := ∀ (pins : List (Addr × Obj)) (s : Shared) (σ : L2.St) (H : Hp) (Q : Bool → Hp → Prop), Inv X pins σ H s → tt σ H Q →
 wpAny (model X.prog X.w) X.A (forIn ifs true fun c r => if r = true then do let ok ← isTrue c X.env (eval c X.env); pure (ForInStep.yield ok) else pure (ForInStep.yield r)) (TP X pins σ Q) X.xe s
theorem KU {X : Cx} : CT X [] (fun _ H Q => Q true H) := fun _ _ _ H _ I h => wpAny_tests_nil ⟨H, I, h⟩
theorem KW {X : Cx} {c : Expr} {t : TT} (h : PT X c t) : CT X [c] t := fun pins s σ H Q I q => wpAny_tests_one (h pins s σ H Q I q)
noncomputable def CQ (wi : TI) (ks : List Bool) (ow : V → Hp → List V → Prop) (tt : TT) (te : TE) : TE := fun σ H Q => wi σ H fun J H1 => ∀ D, H1 D = none → ∃ W : Nat → Nat → Hp → Prop, (∃ m, W 0 m (upd H1 D (.lst []))) ∧ ∀ i m H, W i m H →
  (J.stop i H ∧ Q (.ref D) H) ∨ (J.go i H ∧ ∀ x H', J.Ao i H x H' → ∃ vs, ow x H' vs ∧ tt (vs.map some ++ mask ks σ) H' fun b H2 => if b = true then te (vs.map some ++ mask ks σ) H2 fun v H3 => ∃ ys, H3 D = some (.lst ys) ∧ ys.length < sizeLine ∧ ∃ m', m' < m ∧ W (i + 1) m' (upd H3 D (.lst (ys ++ [v]))) else ∃ m', m' < m ∧ W (i + 1) m' H2)
section
variable {X : Cx} {scope : Scope} {xs : List Str} {tg : Expr} {ow : V → Hp → List V → Prop} {ks : List Bool} {pins : List (Addr × Obj)} {σ : L2.St} {H : Hp} {s s4 : Shared} {fp : List Addr} {E : Value → Shared → Prop} {h1 : Heap} {elt iter : Expr} {ifs : List Expr} {px pos : Pos} {tt : TT} {te : TE} {wi : TI}
theorem tT {h h' B B' : Heap} : ∀ {l : List Env}, h.FunFrames B l → (∀ b ∈ frs l, ∀ o, h.get? b = some o → (∀ vs, o.data ≠ .fields vs) → ∃ o', h'.get? b = some o' ∧ o'.data = o.data) → (∀ b ∈ frs l, B'.get? b = none) → h'.FunFrames B' l
 | [], _, _, _ => trivial
 | env :: r, ⟨hk, ⟨L, o, hf, _, ho, hd⟩, hr⟩, hm, hB => by
  have sub : ∀ b, b = L ∨ b ∈ frs r → b ∈ frs (env :: r) := fun b hb => by
   unfold frs; rw [List.filterMap_cons, hf]
   rcases hb with z | z
   ·rw [z]; exact List.mem_cons_self
   ·exact List.mem_cons_of_mem _ z
  obtain ⟨o', e1, e2⟩ := hm L (sub L (.inl rfl)) o ho hd
  exact ⟨hk, ⟨L, o', hf, hB L (sub L (.inl rfl)), e1, by rw [e2]; exact hd⟩, tT hr (fun b hb => hm b (sub b (.inr hb))) fun b hb => hB b (sub b (.inr hb))⟩
theorem BV {EE : gf} {D C e : Addr} {cls : Value} {c : XD} {j4 : List (Addr × Obj)} {σ' : L2.St} {H' HD : Hp} {s3 s' : Shared} {cl : List (Str × Addr)} {RE : Value → Shared → Prop} (KY : lX X EE) (hst : ∃ i9 ja L, X.stack = i9 :: ja ∧ X.env.frame = i9.frame ∧ i9.frame = some L)
  (I3 : Inv X pins σ HD s3) (hC : C = s3.heap.objs.size) (f3 : ∀ b ∈ fp, vd X pins HD b ∧ b < s3.heap.objs.size)
  (Qv : ∀ s'' : Shared, (∃ m, s''.heap.Ns C m ∧ ∀ h', Heap.SameBut C s''.heap h' → ∀ cenv : Env, cenv.locals = C → wpAny (model X.prog X.w) X.A (passOn "comprehension.variables-let-go" (.ref e) cenv : Sem Value) (fun _ _ => False) X.xe { s'' with heap := h' }) → RE (.ref e) s'')
  (I' : Inv (sJ X scope cl xs C pins s3 HD fp E) j4 σ' H' s') (fx : KR (sJ X scope cl xs C pins s3 HD fp E) H' e cls s') (hc : CO X.mg c cls) (ee : EE c σ H') :
  notedBy (model X.prog X.w) X.A (compEnvC scope cl C X.env) RE (.ref e) s' := by
 obtain ⟨B, fb, hok, DZ⟩ := fx
 obtain ⟨i9, ja, L, h1, h2, h3⟩ := hst
 show wpAny _ X.A (noteFrame (.ref e) (compEnvC scope cl C X.env)) _ _ s'
 rw [BQ (show (compEnvC scope cl C X.env).frame = i9.frame from h2)]
 have hfr : X.A.frames = some (i9 :: ja) := by rw [← h1]; exact I3.ok.frames
 have UX : DX B (i9 :: ja) e cls s'.heap := by rw [← h1]; exact fb
 refine CN hfr h3 UX fun h5 a0 hH u5 => ?_
 obtain ⟨k1, k2, k3, oe, vs, T, oT, ts, he, hcls, hd, hv1, MP, MQ, hT, EA, UY⟩ := hH
 have SS : h5.FunFrames B X.stack := by rw [h1]; exact k3
 obtain ⟨m, hm, _⟩ := id I'.loc
 have SV : h5.Ns C m := u5.ns hm
 refine Qv _ ⟨m, SV, fun h6 sb cenv _ => ?_⟩
 obtain ⟨oC, XE, XF, UZ, U0, _⟩ := id SV
 have Ja : ∀ {b : Addr} {o : Obj} {ws : Array Value}, h5.get? b = some o → o.data = .fields ws → b ≠ C := fun {b o ws} q d z => by
  rw [z, UZ] at q; cases q; rw [U0] at d; cases d
 have Qw := (sb.2 e (Ja he hd)).trans he
 have SW := (sb.2 T (Ja hT EA)).trans hT
 have SX : 3 < ts.size := (Array.getElem?_eq_some_iff.mp UY).1
 unfold passOn setFlight
 refine wpAny_bind (wpAny_field Qw hd hv1 ?_)
 rw [if_neg (show ¬ ((Value.ref T == Value.none) = true) by simp)]
 have fin : X.xe (.ref e) { s' with heap := h6.update T (Obj.mapFields (·.setIfInBounds 3 (cenv.frame.elim .none fun f => rawInt f))) } := by
  have MX : ∀ b, b ≠ T → (h6.update T (Obj.mapFields (·.setIfInBounds 3 (cenv.frame.elim .none fun f => rawInt f)))).get? b = h6.get? b := fun b hb => Heap.get?_update_other _ _ (Ne.symm hb)
  have G7 : ∀ b, b ≠ T → b ≠ C → (h6.update T (Obj.mapFields (·.setIfInBounds 3 (cenv.frame.elim .none fun f => rawInt f)))).get? b = h5.get? b := fun b hb hb2 => (MX b hb).trans (sb.2 b hb2)
  generalize U1 : h6.update T (Obj.mapFields (·.setIfInBounds 3 (cenv.frame.elim .none fun f => rawInt f))) = h7 at MX G7
  have U3 : h7.get? T = some (Obj.mapFields (·.setIfInBounds 3 (cenv.frame.elim .none fun f => rawInt f)) oT) := by rw [← U1]; exact Heap.get?_update_self _ SW (Obj.isFreed_of_fields (Obj.data_mapFields EA _))
  have U4 : ∀ b o, B.get? b = some o → b ≠ T := fun b o q z => by rw [z, MP] at q; cases q
  have Pa : ∀ b o, (B.hide C).get? b = some o → h7.get? b = some o := fun b o q => by
   have q' := Heap.of_hide q
   have nC : b ≠ C := fun z => by rw [z, Heap.hide_self] at q; cases q
   rw [G7 b (U4 b o q') nC]
   exact k1 b o q'
  have hide : ∀ b o, b ≠ C → B.get? b = some o → (B.hide C).get? b = some o := fun b o z q => (Heap.hide_ne B z).trans q
  have KZ : ∀ b o, s3.heap.get? b = some o → b ≠ C := fun b o q => by rw [hC]; exact Nat.ne_of_lt (Heap.lt_size q)
  have MY : qH X.prog X.w H' (B.hide C) := AD hok fun b o n q => hide b o (fun z => n (by rw [z]; exact I'.free)) q
  have MV : ∀ b, b ∉ frs X.stack → b ∉ X.fs := fun b hb z => hb (by
   rcases I3.ok.stk with q | ⟨q, _⟩
   ·rw [q]; exact z
   ·rw [q]; unfold frs; rw [List.filterMap_cons]; split
    ·exact z
    ·exact List.mem_cons_of_mem _ z)
  have slot : ∀ b o, s3.heap.get? b = some o → b ∈ frs X.stack → ∃ sl, h7.get? b = some { o with slots := sl } := fun b o q hb => by
   obtain ⟨_, o', q', hnf⟩ := I3.stack.mem hb
   rw [q] at q'; cases q'
   obtain ⟨sl, e1⟩ := I'.base.slot b o q (I3.qJ b hb) hb fun z => (I'.ok.JL b z) hb
   obtain ⟨L4, e2⟩ := u5 b _ e1 hnf
   refine ⟨L4, ?_⟩
   rw [G7 b (fun z => by rw [z, hT] at e2; cases e2; exact hnf _ EA) (KZ b o q)]
   exact e2
  have un : Un (frs X.stack) fp HD H' s3.heap h7 := ⟨fun b o q n hb hx => Pa b o (hide b o (KZ b o q) (DZ.keep b o q n hb hx)), fun b o q n hb hx => slot b o q hb, fun b o q n hx => I'.base.free b o q n hx, fun b o q hx => by
   by_cases hb : b ∈ frs X.stack
   ·obtain ⟨sl, z⟩ := slot b o q hb
    exact ⟨_, z⟩
   ·obtain ⟨o', z⟩ := DZ.there b o q hb hx
    exact ⟨o', Pa b o' (hide b o' (KZ b o q) z)⟩, I'.base.tups, I'.base.pB, I'.base.pY⟩
  have I7 : Inv X pins σ H' { s' with heap := h7 } := I3.ED (ch := fp) I'.os un (MY.kept Pa) I'.bare fun b hb => by
   obtain ⟨g0, g1, g2, g3, g4, g5⟩ := (f3 b hb).1
   exact ⟨g3, g1, g4, g5⟩
  have SY : ∀ b o, X.s₀.heap.get? b = some o → b ∉ X.ex → b ∉ fp := fun b o q hx hb => by
   obtain ⟨g0, g1, g2, g3, g4, g5⟩ := (f3 b hb).1
   rcases g3 with z | z
   ·exact hx z
   ·exact absurd (Nat.lt_of_lt_of_le (Heap.lt_size q) z) (Nat.lt_irrefl _)
  refine KY pins σ H' _ e cls c I7 ⟨B.hide C, ⟨Pa, ?_, ?_, .inr ⟨a0, _, oe, vs, T, _, _, ?_, hcls, hd, hv1, ?_, MQ, U3, Obj.data_mapFields EA _, by simp [SX]; rfl⟩⟩, MY, ⟨fun b o q n hb hx => ?_, fun b o q hb hx => ?_, fun p hp => ?_⟩⟩ hc ee
  ·cases q : (B.hide C).get? e with
   | none => rfl
   | some o => have := Heap.of_hide q; rw [k2] at this; cases this
  ·refine tT SS (fun b hb o q hnf => ?_) fun b hb => ?_
   ·refine ⟨o, ?_, rfl⟩
    show h7.get? b = some o
    rw [G7 b (fun z => by rw [z, hT] at q; cases q; exact hnf _ EA) ?_]
    ·exact q
    ·obtain ⟨_, o', q', _⟩ := I3.stack.mem hb
     exact KZ b o' q'
   ·cases q : (B.hide C).get? b with
    | none => rfl
    | some o => have := Heap.of_hide q; rw [(SS.mem hb).1] at this; cases this
  ·exact (G7 e (Ne.symm MQ) (Ja he hd)).trans he
  ·cases q : (B.hide C).get? T with
   | none => rfl
   | some o => have := Heap.of_hide q; rw [MP] at this; cases this
  ·have q3 := I3.base.keep b o q n (MV b hb) hx
   exact hide b o (KZ b o q3) (DZ.keep b o q3 (I3.base.free b o q n hx) hb (SY b o q hx))
  ·obtain ⟨o', q3⟩ := I3.base.there b o q hx
   obtain ⟨S0, z⟩ := DZ.there b o' q3 hb (SY b o q hx)
   exact ⟨S0, hide b S0 (KZ b o' q3) z⟩
  ·exact hide _ _ (KZ _ _ (I3.pin p (List.mem_append_left _ hp)).1) (DZ.pins p (List.mem_append_left _ hp))
 first
  | (refine wpAny_bind (wpAny_pure ?_); refine wpAny_bind (wpAny_bind (wpAny_field Qw hd hv1 ?_)))
  | refine wpAny_bind (wpAny_bind (wpAny_field Qw hd hv1 ?_))
 rw [if_pos (show (Value.ref T != Value.none) = true by simp)]
 exact wpAny_setField SW EA SX (wpAny_throw fin)
theorem vC {Q : VK} {J : It} {it : Addr} {tn : Nat → Heap → Prop} {RR : Value → Addr → Result → Shared → Prop} {EE : gf} (KY : lX X EE) (hst : ∃ i9 ja L, X.stack = i9 :: ja ∧ X.env.frame = i9.frame ∧ i9.frame = some L) (S : cN X.env.scope X.N scope xs ks) (how : Own X scope xs ks tg ow) (hc : X.calm = true) (I : Inv X pins σ H s)
  (T : Turn X.prog X.w X.K tg J fp it tn) (st : tn 0 s.heap) (hf : ∀ b ∈ fp, vd X pins H b)
  (hb : ∀ (cl : List (Str × Addr)) (C : Addr) (pins : List (Addr × Obj)) (s0 : Shared) (H0 : Hp) (fp : List Addr) (E : Value → Shared → Prop), lX (sJ X scope cl xs C pins s0 H0 fp E) (fun c _ H' => EE c σ H') → CT (sJ X scope cl xs C pins s0 H0 fp E) ifs tt ∧ PE (sJ X scope cl xs C pins s0 H0 fp E) elt te)
  (hw : ∀ D, H D = none → ∃ W : Nat → Nat → Hp → Prop, (∃ m, W 0 m (upd H D (.lst []))) ∧ ∀ i m H, W i m H →
   (J.stop i H ∧ Q (.ref D) H) ∨ (J.go i H ∧ ∀ x H', J.Ao i H x H' → ∃ vs, ow x H' vs ∧ tt (vs.map some ++ mask ks σ) H' fun b H2 => if b = true then te (vs.map some ++ mask ks σ) H2 fun v H3 => ∃ ys, H3 D = some (.lst ys) ∧ ys.length < sizeLine ∧ ∃ m', m' < m ∧ W (i + 1) m' (upd H3 D (.lst (ys ++ [v]))) else ∃ m', m' < m ∧ W (i + 1) m' H2))
  (hRR : ∀ (D C : Addr) (s' : Shared) (H' : Hp) (m : Str → Option Value), Inv X pins σ H' s' → s'.heap.Ns C m → H' C = none → C ≠ X.env.locals → X.s₀.heap.objs.size ≤ C → (∀ x c, X.env.cells.lookup x = some c → c ≠ C) → (∀ p ∈ X.pn ++ pins, p.1 ≠ C) → Q (.ref D) H' → RR (.ref D) C (.ok .next) s')
  (Qv : ∀ (acc : Value) (C e : Addr) (s'' : Shared), (∃ m, s''.heap.Ns C m ∧ ∀ h', Heap.SameBut C s''.heap h' → ∀ cenv : Env, cenv.locals = C → wpAny (model X.prog X.w) X.A (passOn "comprehension.variables-let-go" (.ref e) cenv : Sem Value) (fun _ _ => False) X.xe { s'' with heap := h' }) → RR acc C (.error (.ref e)) s'') :
  wpAny (model X.prog X.w) X.A (newList []) (fun acc s₃ => wpAny (model X.prog X.w) X.A (newFunctionEnv scope X.env.globals (iF X.env scope.names []) [] X.env.qual none .none (some X.env)) (fun cenv s₄ =>
   codeAny (model X.prog X.w) X.A (.compStart (.ListComp elt [⟨tg, iter, ifs, 0⟩] scope pos) 0 (.ref it) acc { cenv with scope := relabel scope X.env }) (RR acc cenv.locals) s₄) E s₃) E s := by
 refine wpAny_newObj_type (wpAny_newFunctionEnv S.Ft (by intro y hy; simp at hy) (fun h₁ MZ M0 => ?_) S.kind)
 have I3 : Inv X pins σ (upd H s.heap.objs.size (.lst [])) { s with heap := s.heap.push { cls := .type "list", dict := none, data := .seq ([] : List Value).toArray } } :=
  I.laid (t' := s.toks) (fun b o e => Heap.get?_push_of_some _ e) (Nat.le_refl _) ⟨Nat.zero_le _, [], 0, .nil, Heap.get?_push_size _ rfl⟩
 have hfree := I.hok.fresh (Nat.le_refl s.heap.objs.size)
 generalize S1 : ({ s with heap := s.heap.push { cls := .type "list", dict := none, data := .seq ([] : List Value).toArray } } : Shared) = s3 at I3 MZ M0 ⊢
 have hsz : s3.heap.objs.size = s.heap.objs.size + 1 := by rw [← S1]; exact Heap.size_push ..
 have M3 : ∀ b o, s.heap.get? b = some o → s3.heap.get? b = some o := fun b o e => by rw [← S1]; exact Heap.get?_push_of_some _ e
 have M4 : ∀ b ∈ fp, b < s.heap.objs.size := fun b hb' => by
  obtain ⟨o, e, _⟩ := T.obj 0 _ st b hb'
  exact Heap.lt_size e
 have f3 : ∀ b ∈ fp, vd X pins (upd H s.heap.objs.size (.lst [])) b ∧ b < s3.heap.objs.size := fun b hb' =>
  ⟨⟨by rw [bu (Nat.ne_of_lt (M4 b hb'))]; exact (hf b hb').1, (hf b hb').2⟩, by rw [hsz]; exact Nat.lt_succ_of_lt (M4 b hb')⟩
 have Fw : ∀ b o, s3.heap.get? b = some o → h₁.get? b = some o := fun b o e => M0.extBut b o (Nat.ne_of_lt (Heap.lt_size e)) (Heap.get?_push_of_some _ e)
 obtain ⟨W, ⟨m0, w0⟩, turn⟩ := hw s.heap.objs.size hfree
 generalize hX : sJ X scope (iF X.env scope.names []) xs s3.heap.objs.size pins s3 (upd H s.heap.objs.size (.lst [])) fp (notedBy (model X.prog X.w) X.A (compEnvC scope (iF X.env scope.names []) s3.heap.objs.size X.env) fun e s' => RR (.ref s.heap.objs.size) s3.heap.objs.size (.error e) s') = Xc
 have I4 : Inv Xc [] (List.replicate xs.length none ++ mask ks σ) (upd H s.heap.objs.size (.lst [])) { s3 with heap := h₁, toks := s3.toks + ([] : List (Str × Value)).length } := by
  rw [← hX]
  exact BS S I3 f3 (by simpa using MZ) Fw _
 have GV : CT Xc ifs tt ∧ PE Xc elt te := by
  rw [← hX]
  exact hb _ _ _ _ _ _ _ fun j4 σ' H' s' e cls c I' fx hc ee => BV (RE := fun e s' => RR (.ref s.heap.objs.size) s3.heap.objs.size (.error e) s') (D := s.heap.objs.size) KY hst I3 rfl f3 (fun s'' => Qv _ _ e s'') I' fx hc ee
 have AE : Xc.prog = X.prog := by rw [← hX]; rfl
 have ew : Xc.w = X.w := by rw [← hX]; rfl
 have eK : Xc.K = X.K := by rw [← hX]; rfl
 have eA : Xc.A = X.A := by rw [← hX]; rfl
 have Jk : Xc.calm = true := by rw [← hX]; exact hc
 have Qx : Xc.xe = notedBy (model X.prog X.w) X.A Xc.env fun e s' => RR (.ref s.heap.objs.size) s3.heap.objs.size (.error e) s' := by rw [← hX]; rfl
 have K0 : Xc.env = compEnvC scope (iF X.env scope.names []) s3.heap.objs.size X.env := by rw [← hX]; rfl
 have U5 : Xc.stack = X.stack := by rw [← hX]; rfl
 have Qy : ∀ {H' : Hp}, (∀ b ∈ fp, H' b = none) → ∀ b ∈ fp, vd Xc [] H' b := fun {H'} hn b hb' => by
  obtain ⟨g0, g1, g2, g3, g4, g5⟩ := (f3 b hb').1
  rw [← hX]
  refine ⟨hn b hb', Nat.ne_of_lt (f3 b hb').2, fun z => (List.mem_cons.mp (I3.lQ b z)).elim g1 g2, .inl hb', fun y c e => g4 y c (vz scope.names [] (fun y c e => by simp at e) y c e), fun p hp => g5 p ?_⟩
  have : p ∈ (X.pn ++ pins) ++ [] := hp
  simpa using this
 have fin : ∀ (s' : Shared) (H' : Hp) (a0 : List (Option V)), Inv Xc [] (a0 ++ mask ks σ) H' s' → Q (.ref s.heap.objs.size) H' → RR (.ref s.heap.objs.size) s3.heap.objs.size (.ok .next) s' := fun s' H' a0 I' q => by
  have hloc := I'.loc
  obtain ⟨m, hm, _⟩ := hloc
  have hC : H' s3.heap.objs.size = none := by have := I'.free; rw [K0] at this; exact this
  have hU : Un (frs X.stack) fp (upd H s.heap.objs.size (.lst [])) H' s3.heap s'.heap := by
   have := I'.base
   rw [← hX] at this
   exact this
  have hos : s'.os = s3.os ∧ 0 < s'.toks := by have := I'.os; rw [← hX] at this; exact this
  have Qz : qH X.prog X.w H' s'.heap := by have := I'.hok; rw [← hX] at this; exact this
  have I5 : Inv X pins σ H' s' := I3.ED hos hU Qz I'.bare fun b hb' => by
   obtain ⟨g0, g1, g2, g3, g4, g5⟩ := (f3 b hb').1
   exact ⟨g3, g1, g4, g5⟩
  refine hRR _ _ s' H' m I5 (by rw [K0] at hm; exact hm) hC (Nat.ne_of_gt I3.lt) (Nat.le_trans I3.sz (Nat.le_refl _)) (fun y c e z => ?_) (fun p hp z => ?_) q
  ·obtain ⟨v, hv⟩ := I3.cell y c e
   exact absurd hv.lt (by rw [z]; exact Nat.lt_irrefl _)
  ·exact absurd (Heap.lt_size (I3.pin p hp).1) (by rw [z]; exact Nat.lt_irrefl _)
 have loop : codeAny (model X.prog X.w) X.A (.compLoop (.ListComp elt [⟨tg, iter, ifs, 0⟩] scope pos) 0 (.ref it) (.ref s.heap.objs.size) Xc.env) (RR (.ref s.heap.objs.size) s3.heap.objs.size)
   { s3 with heap := h₁, toks := s3.toks + ([] : List (Str × Value)).length } := by
  refine zb (fun n s' => ∃ i a0 H', a0.length = xs.length ∧ Inv Xc [] (a0 ++ mask ks σ) H' s' ∧ tn i s'.heap ∧ (∀ b ∈ fp, H' b = none) ∧ W i n H') ?_ m0 ⟨0, List.replicate xs.length none, _, by simp, I4, T.keep 0 _ _ st fun b hb' o e => Fw b o (M3 b o e), fun b hb' => (f3 b hb').1.1, w0⟩
  rintro n s5 ⟨i, a0, H5, U6, I5, LO, O3, w5⟩
  rcases turn i n H5 w5 with ⟨stop, q⟩ | ⟨go, step⟩
  ·have hd := T.done Xc AE ew eK Jk i [] s5 _ H5 (fun _ _ => False) I5 (Qy O3) LO stop
   rw [eA] at hd
   refine wpAny_mono hd (fun r s6 hr => ?_) (fun _ _ z => False.elim z)
   obtain ⟨rfl, I6⟩ := hr
   exact fin s6 H5 a0 I6 q
  ·have hd := T.item Xc AE ew eK Jk i [] s5 _ H5 (fun _ _ => False) I5 (Qy O3) LO go
   rw [eA] at hd
   refine wpAny_mono hd (fun r s6 hr => ?_) (fun _ _ z => False.elim z)
   obtain ⟨u, rfl, h6⟩ := hr
   refine wpAny_mono h6 (fun _ s7 hq => ?_) (fun _ _ z => False.elim z)
   obtain ⟨v, H7, I7, r7, y7, QB, U7⟩ := hq
   obtain ⟨vs, hvs, step⟩ := step v H7 y7
   have U8 : Inv Xc (sG fp s7.heap) (a0 ++ mask ks σ) H7 s7 := by
    have := Inv.pinned (pins := []) I7 (Qy U7) (T.obj _ _ QB)
    simpa using this
   have back : ∀ {σ' : L2.St} {H' : Hp} {s' : Shared}, Inv Xc (sG fp s7.heap) σ' H' s' → Inv Xc [] σ' H' s' ∧ tn (i + 1) s'.heap ∧ ∀ b ∈ fp, H' b = none := fun {σ' H' s'} I' => by
    refine ⟨I'.qK fun p hp => absurd hp (by simp), T.keep _ _ _ QB fun b hb' o e => (I'.pin (b, o) (List.mem_append_right _ (lR hb' e))).1, fun b hb' => ?_⟩
    obtain ⟨o, e, d⟩ := T.obj _ _ QB b hb'
    exact (I'.pin (b, o) (List.mem_append_right _ (lR hb' e))).2.1
   refine how _ _ _ _ _ _ _ Xc σ a0 v vs u H7 s7 _ _ _ hX.symm U6 U8 r7 hvs fun LS s8 U9 => ?_
   have ht := GV.1 _ s8 _ H7 _ U9 step
   rw [AE, ew, eA, Qx] at ht
   refine wpAny_mono ht (fun Va s9 h9 => ?_) (fun _ _ z => z)
   obtain ⟨H9, I9, q9⟩ := h9
   cases Va with
   | false =>
    rw [if_neg Bool.false_ne_true] at q9 ⊢
    obtain ⟨m', hm', w'⟩ := q9
    obtain ⟨Vb, Vc, Vd⟩ := back I9
    exact ⟨m', hm', i + 1, vs.map some, H9, by simpa using LS, Vb, Vc, Vd, w'⟩
   | true =>
    rw [if_pos rfl] at q9 ⊢
    have he := GV.2 _ s9 _ H9 _ I9 q9
    rw [AE, ew, eA, Qx] at he
    refine wpAny_mono he (fun y Ve K1 => ?_) (fun _ _ z => z)
    obtain ⟨yv, Vf, Vg, Vh, ys, hD, hlen, m', hm', w'⟩ := K1
    have ha := xR (X := Xc) _ Ve _ Vf (.ref s.heap.objs.size) [yv] (.ref s.heap.objs.size) [y] (fun _ H' => ∃ m', m' < n ∧ W (i + 1) m' H') Vg rfl (.cons Vh .nil) ⟨_, ys, yv, rfl, rfl, hD, hlen, m', hm', w'⟩
    rw [AE, ew, eA, Qx] at ha
    refine wpAny_mono ha (fun _ XG h11 => ?_) (fun _ _ z => z)
    obtain ⟨_, Vi, Vj, _, Vk, QC, w''⟩ := h11
    obtain ⟨QD, QF, QH⟩ := back Vj
    exact ⟨Vk, QC, i + 1, vs.map some, Vi, by simpa using LS, QD, QF, QH, w''⟩
 rw [K0] at loop
 exact codeAny_compStart_list loop (T.self X.A 0 _ _ _ (T.keep 0 _ _ st fun b hb' o e => Fw b o (M3 b o e)) loop)
theorem Ih {EE : gf} {tt : L2.St → TT} {te : L2.St → TE} (KY : lX X EE) (hst : ∃ i9 ja L, X.stack = i9 :: ja ∧ X.env.frame = i9.frame ∧ i9.frame = some L) (S : cN X.env.scope X.N scope xs ks) (how : Own X scope xs ks tg ow) (hc : X.calm = true) (hi : PI X tg iter wi)
  (hb : ∀ (σ : L2.St) (cl : List (Str × Addr)) (C : Addr) (pins : List (Addr × Obj)) (s0 : Shared) (H0 : Hp) (fp : List Addr) (E : Value → Shared → Prop), lX (sJ X scope cl xs C pins s0 H0 fp E) (fun c _ H' => EE c σ H') → CT (sJ X scope cl xs C pins s0 H0 fp E) ifs (tt σ) ∧ PE (sJ X scope cl xs C pins s0 H0 fp E) elt (te σ))
  (hs : ∀ x, foldedSetIterable iter X.env x = pure x := by intro _; rfl) : PE X (.ListComp elt [⟨tg, iter, ifs, 0⟩] scope pos) (fun σ => CQ wi ks ow (tt σ) (te σ) σ) := by
 intro pins s σ H Q I h
 rw [eval_ListComp]
 refine wpAny_comprehension_free (use := none) rfl hs (pL fun y hy hfr => I.ok.has y.1 (S.free y hy hfr)) S.kind S.names (iB (hi pins s σ H _ I h) fun v s1 h1 => iB h1 fun itv s2 h2 => ?_)
 obtain ⟨it, fp, tn, J, H2, rfl, I2, T, st2, f2, q⟩ := h2
 refine vC (RR := fun acc C => compPost (model X.prog X.w) X.A X.xe none (EP X pins σ Q) acc C) KY hst S how hc I2 T st2 f2 (hb σ) q ?_ (fun _ _ _ _ z => z)
 intro D C s' H' m I' hn hC h1 h2 h3 h4 q'
 refine ⟨m, hn, fun h' sb => ?_⟩
 exact ⟨.ref D, H', I'.turned (t' := s'.toks) (fun b o hb e => (sb.2 b hb).trans e) hC h1 (.inr h2) h3 h4, rfl, q'⟩
theorem Ii {EE : gf} {tt : L2.St → TT} {te : L2.St → TE} (KY : lX X EE) (hst : ∃ i9 ja L, X.stack = i9 :: ja ∧ X.env.frame = i9.frame ∧ i9.frame = some L) {y : Str} {i : Nat} {py spos : Pos} (S : cN X.env.scope X.N scope xs ks) (how : Own X scope xs ks tg ow) (hc : X.calm = true) (hN : X.N.Nodup) (hi : PI X tg iter wi) (hy : X.N[i]? = some y) (hl : X.env.scope.names.lookup y = some .local)
  (hsw : swapsWith (.ListComp elt [⟨tg, iter, ifs, 0⟩] scope pos) (some (.Name y py)) spos.line X.env = pure true)
  (hb : ∀ (σ : L2.St) (cl : List (Str × Addr)) (C : Addr) (pins : List (Addr × Obj)) (s0 : Shared) (H0 : Hp) (fp : List Addr) (E : Value → Shared → Prop), lX (sJ X scope cl xs C pins s0 H0 fp E) (fun c _ H' => EE c σ H') → CT (sJ X scope cl xs C pins s0 H0 fp E) ifs (tt σ) ∧ PE (sJ X scope cl xs C pins s0 H0 fp E) elt (te σ))
  (hs : ∀ x, foldedSetIterable iter X.env x = pure x := by intro _; rfl) : PS X (.Assign [.Name y py] (.ListComp elt [⟨tg, iter, ifs, 0⟩] scope pos) spos) (JY (fun σ => CQ wi ks ow (tt σ) (te σ) σ) (An i)) := by
 intro pins s σ H Dd I h
 rw [exec_Assign_Name_used _ _ _ _ hsw]
 refine wpAny_bind (wpAny_standAt (wpAny_bind ?_))
 show wpAny _ X.A (do let _ ← comprehension (.ListComp elt [⟨tg, iter, ifs, 0⟩] scope pos) scope X.env _ (newList []) false (eval iter X.env) (some (assign (.Name y py) X.env))) _ _ s
 refine wpAny_bind (wpAny_mono (wpAny_comprehension_free (use := some (assign (.Name y py) X.env)) (Q := fun _ s' => SP X pins Dd .next s') rfl hs (pL fun y hy hfr => I.ok.has y.1 (S.free y hy hfr)) S.kind S.names
  (iB (hi pins s σ H _ I h) fun v s1 h1 => iB h1 fun itv s2 h2 => ?_)) (fun _ s' hq => wpAny_pure (wpAny_pure hq)) fun _ _ e => e)
 obtain ⟨it, fp, tn, J, H2, rfl, I2, T, st2, f2, q⟩ := h2
 refine vC (Q := fun v H' => Dd.nx (σ.set i (some v)) H') (RR := fun acc C => compPost (model X.prog X.w) X.A X.xe (some (assign (.Name y py) X.env)) (fun _ s' => SP X pins Dd .next s') acc C) KY hst S how hc I2 T st2 f2 (hb σ) q ?_ (fun _ _ _ _ z => z)
 intro D C s' H' m I' hn hC h1 h2 h3 h4 q'
 show wpAny _ X.A (assign (.Name y py) X.env (.ref D)) _ _ s'
 refine wpAny_assign_Name (xJ I' hN hy (.inl hl) (v := .ref D) (u := .ref D) rfl (fun s'' Vl sb => ?_) (.inr hl))
 obtain ⟨a, sb, ha⟩ := sb
 have hne : C ≠ a := by
  rcases ha with e | e
  ·rw [e]; exact h1
  ·exact fun z => h3 y a e z.symm
 refine ⟨m, hn.sameBut sb hne, fun h'' sb' => ?_⟩
 exact ⟨_, H', Vl.turned (t' := s''.toks) (fun b o hb e => (sb'.2 b hb).trans e) hC h1 (.inr h2) h3 h4, q'⟩
end
end L3
end
section
set_option Elab.async false
set_option linter.all false
set_option maxRecDepth 100000
namespace L3
open PySem PySem.Spec L2
noncomputable def oN : D → Option (List D) := fun d => some [d]
noncomputable def oT (n : Nat) : D → Option (List D)
 | .tup xs => if xs.length = n then some xs else none
 | _ => none
noncomputable def vD (K : PySem.W.Frag) (mg : Str → Option Value) (ow : V → Hp → List V → Prop) (gO : D → Option (List D)) : Prop :=
 ∀ (ρ : List Addr) (H : Hp) (d : D) (v : V) (os : List D), Rep K mg ρ H d v → gO d = some os → ∃ vs, ow v H vs ∧ aC K mg ρ H os vs
theorem gC {K : PySem.W.Frag} {mg : Str → Option Value} : vD K mg wX oN := fun ρ H d v os r e => by
 cases e
 exact ⟨[v], rfl, .cons r .nil⟩
noncomputable def K2 (K : PySem.W.Frag) (mg : Str → Option Value) (H H' : Hp) (ρ : List Addr) : Prop := fH K H H' ρ ρ ∧ ∀ G, kP K mg H ρ G → kP K mg H' ρ G
theorem K2.refl {K : PySem.W.Frag} {mg : Str → Option Value} {H : Hp} {ρ : List Addr} : K2 K mg H H ρ := ⟨.refl, fun _ h => h⟩
noncomputable def fy (gO : D → Option (List D)) (ks : List Bool) (tt : DS → M Bool) (te : DS → M D) (n : Nat) (d : D) (τ : DS) (G : DH) : Out Unit := match gO d with
 | none => .stuck
 | some os => match tt (os.map some ++ mask ks τ) G with
 | .ok true G1 => match te (os.map some ++ mask ks τ) G1 with
  | .ok v G2 => match G2[n]? with
   | some (.lst ys) => if ys.length < sizeLine then .ok () (G2.set n (.lst (ys ++ [v]))) else .stuck
   | _ => .stuck
  | .eN c G2 => .eN c G2
  | .stuck => .stuck
 | .ok false G1 => .ok () G1
 | .eN c G1 => .eN c G1
 | .stuck => .stuck
noncomputable def dZ (gO : D → Option (List D)) (ks : List Bool) (tt : DS → M Bool) (te : DS → M D) (n : Nat) : List D → DS → DH → Out D
 | [], _, G => .ok (.obj n) G
 | d :: r, τ, G => match fy gO ks tt te n d τ G with
  | .ok _ G' => dZ gO ks tt te n r τ G'
  | .eN c G' => .eN c G'
  | .stuck => .stuck
noncomputable def tU (gO : D → Option (List D)) (ks : List Bool) (tt : DS → M Bool) (te : DS → M D) (n src : Nat) : Nat → Nat → DS → DH → Out D
 | 0, _, _, _ => .stuck
 | f + 1, k, τ, G => match G[src]? with
  | some (.lst xs) => match xs[k]? with
   | none => .ok (.obj n) G
   | some d => match fy gO ks tt te n d τ G with
    | .ok _ G' => tU gO ks tt te n src f (k + 1) τ G'
    | .eN c G' => .eN c G'
    | .stuck => .stuck
  | _ => .stuck
noncomputable def pM (gO : D → Option (List D)) (ks : List Bool) (m : DS → M D) (tt : DS → M Bool) (te : DS → M D) : DS → M D := fun τ => (m τ).bind fun d G => match d with
 | .obj k => match G[k]? with
  | some (.lst xs) => tU gO ks tt te G.length k (xs.length + 1) 0 τ (G ++ [.lst []])
  | _ => .stuck
 | .tup xs => dZ gO ks tt te G.length xs τ (G ++ [.lst []])
 | .con xs => dZ gO ks tt te G.length xs τ (G ++ [.lst []])
 | .str z => dZ gO ks tt te G.length (z.cps.toList.map fun c => .str ⟨#[c]⟩) τ (G ++ [.lst []])
 | _ => .stuck
noncomputable def sM (Dw : List D → Option (List D)) (gO : D → Option (List D)) (ks : List Bool) (m : DS → M (List D)) (tt : DS → M Bool) (te : DS → M D) : DS → M D := fun τ => (m τ).bind fun ds G => match Dw ds with
 | some xs => dZ gO ks tt te G.length xs τ (G ++ [.lst []])
 | none => .stuck
section
variable {X : Cx} {EE : gf} {gO : D → Option (List D)} {ow : V → Hp → List V → Prop} {xs : List Str} {tg : Expr} {ks : List Bool} {tt : DS → M Bool} {te : DS → M D}
theorem D3 {K : PySem.W.Frag} {mg : Str → Option Value} {σ : L2.St} {H : Hp} {τ : DS} {ρ : List Addr} {os : List D} {vs : List V} (h : wV K mg H ρ σ τ) (r : aC K mg ρ H os vs) : wV K mg H ρ (vs.map some ++ mask ks σ) (os.map some ++ mask ks τ) := by
 have hl := r.length
 refine ⟨by simp [j7, h.1, hl], fun i e he => ?_⟩
 by_cases hi : i < os.length
 ·rw [List.getElem?_append_left (by simpa using hi), List.getElem?_map] at he
  cases q : os[i]? with
  | none => rw [q] at he; cases he
  | some d =>
   rw [q] at he; cases he
   obtain ⟨v, e1, r1⟩ := r.get q
   exact ⟨v, by rw [List.getElem?_append_left (by simp; omega), List.getElem?_map, e1]; rfl, r1⟩
 ·rw [List.getElem?_append_right (by simp; omega)] at he
  obtain ⟨h1, h2⟩ := nW he
  obtain ⟨w, e1, r1⟩ := h.2 _ e h2
  refine ⟨w, ?_, r1⟩
  rw [List.getElem?_append_right (by simp; omega)]
  have := CP h1 e1
  simpa [hl] using this
noncomputable def Bs (EE : gf) (σ : L2.St) : gf := fun c _ H' => EE c σ H'
theorem x6 (hO : vD X.K X.mg ow gO) {W : Hp → Prop} {n : Nat} {p : Addr} {σ : L2.St} {H : Hp} {τ : DS} {ρ : List Addr} {G : DH} {d : D} {v : V} (ab : Ab X.K X.mg σ H τ ρ G) (r : Rep X.K X.mg ρ H d v) (hn : ρ[n]? = some p)
  (hW : match fy gO ks tt te n d τ G with
   | .stuck => False
   | .ok _ G' => ∀ H' ρ', fH X.K H H' ρ ρ' → Ab X.K X.mg σ H' τ ρ' G' → W H'
   | .eN c G' => ∀ H' ρ', fH X.K H H' ρ ρ' → Ab X.K X.mg σ H' τ ρ' G' → EE c σ H') :
  ∃ vs, ow v H vs ∧ liftT X.K X.mg (Bs EE σ) tt (vs.map some ++ mask ks σ) H fun b H2 => if b = true then dF X.K X.mg (Bs EE σ) te (vs.map some ++ mask ks σ) H2 fun u H3 => ∃ ys, H3 p = some (.lst ys) ∧ ys.length < sizeLine ∧ W (upd H3 p (.lst (ys ++ [u]))) else W H2 := by
 unfold fy at hW
 cases qo : gO d with
 | none => rw [qo] at hW; exact hW.elim
 | some os =>
 rw [qo] at hW
 dsimp only at hW
 obtain ⟨us, Qi, Vm⟩ := hO ρ H d v os r qo
 refine ⟨us, Qi, ?_⟩
 refine ⟨_, ρ, G, ⟨D3 ab.st Vm, ab.hp⟩, ?_⟩
 cases q : tt (os.map some ++ mask ks τ) G with
 | stuck => rw [q] at hW; exact hW
 | eN c G1 => rw [q] at hW; exact fun H' ρ' f dm => hW H' ρ' f ⟨ab.st.mono f, dm.hp⟩
 | ok b G1 =>
  rw [q] at hW
  intro H1 ρ1 f1 Al
  cases b with
  | false =>
   rw [if_neg Bool.false_ne_true]
   exact hW H1 ρ1 f1 ⟨ab.st.mono f1, Al.hp⟩
  | true =>
   rw [if_pos rfl]
   dsimp only at hW
   refine ⟨_, ρ1, G1, Al, ?_⟩
   cases q2 : te (os.map some ++ mask ks τ) G1 with
   | stuck => rw [q2] at hW; exact hW
   | eN c G2 => rw [q2] at hW; exact fun H' ρ' f dm => hW H' ρ' (f1.trans f) ⟨ab.st.mono (f1.trans f), dm.hp⟩
   | ok u G2 =>
    rw [q2] at hW
    dsimp only at hW
    intro w H2 ρ2 f2 eL r2
    cases q3 : G2[n]? with
    | none => rw [q3] at hW; exact hW.elim
    | some o =>
     cases o with
     | dead => first | (rw [q] at ok; exact ok.elim) | (rw [q] at aX; exact aX.elim) | (rw [q3] at hW; exact hW.elim) | (rw [q] at e; cases e; done) | (rw [g] at ok; exact ok.elim) | (rw [g] at q; cases q; done) | (rw [g] at h; cases h; done) | exact ok.elim
     | dct kv => first | (rw [q] at ok; exact ok.elim) | (rw [q] at aX; exact aX.elim) | (rw [q3] at hW; exact hW.elim) | (rw [q] at e; cases e; done) | (rw [g] at ok; exact ok.elim) | (rw [g] at q; cases q; done) | (rw [g] at h; cases h; done) | exact ok.elim
     | lst ys =>
      rw [q3] at hW
      dsimp only at hW
      by_cases hl : ys.length < sizeLine
      ·rw [if_pos hl] at hW
       dsimp only at hW
       obtain ⟨p', vs, e1, e2, rs⟩ := eL.hp.lst q3
       have Ij := f1.trans f2
       rw [Ij.get hn] at e1; cases e1
       refine ⟨vs, e2, by rw [← rs.length]; exact hl, ?_⟩
       have f3 : fH X.K H2 (upd H2 p (.lst (vs ++ [w]))) ρ2 ρ2 := yS e2 ρ2
       exact hW _ ρ2 (Ij.trans f3) ⟨ab.st.mono (Ij.trans f3), eL.hp.put (ds := ys) (Ij.get hn) e2 (rs.append (.cons r2 .nil))⟩
      ·rw [if_neg hl] at hW; exact hW.elim
theorem lY (hO : vD X.K X.mg ow gO) {Q : VK} {J : It} {H0 : Hp} {σ : L2.St} {ρ0 : List Addr} {G0 : DH} {τ : DS} (ds : List D)
  (go : ∀ i H ρ, i < ds.length → fH X.K H0 H ρ0 ρ → J.go i H) (stop : ∀ i H ρ, ds.length ≤ i → fH X.K H0 H ρ0 ρ → J.stop i H)
  (Ao : ∀ i d H ρ x H', ds[i]? = some d → fH X.K H0 H ρ0 ρ → J.Ao i H x H' → K2 X.K X.mg H H' ρ ∧ Rep X.K X.mg ρ H' d x)
  (ab : Ab X.K X.mg σ H0 τ ρ0 G0) (ok : lT X.K X.mg EE H0 σ τ ρ0 (dZ gO ks tt te G0.length ds τ (G0 ++ [.lst []])) Q) :
  ∀ D, H0 D = none → ∃ W : Nat → Nat → Hp → Prop, (∃ m, W 0 m (upd H0 D (.lst []))) ∧ ∀ i m H, W i m H →
   (J.stop i H ∧ Q (.ref D) H) ∨ (J.go i H ∧ ∀ x H', J.Ao i H x H' → ∃ vs, ow x H' vs ∧ liftT X.K X.mg (Bs EE σ) tt (vs.map some ++ mask ks σ) H' fun b H2 => if b = true then dF X.K X.mg (Bs EE σ) te (vs.map some ++ mask ks σ) H2 fun v H3 => ∃ ys, H3 D = some (.lst ys) ∧ ys.length < sizeLine ∧ ∃ m', m' < m ∧ W (i + 1) m' (upd H3 D (.lst (ys ++ [v]))) else ∃ m', m' < m ∧ W (i + 1) m' H2) := by
 intro D hD
 have f0 : fH X.K H0 (upd H0 D (.lst [])) ρ0 (ρ0 ++ [D]) := (oR hD ρ0).trans (qP ρ0 D)
 have M5 : Ab X.K X.mg σ (upd H0 D (.lst [])) τ (ρ0 ++ [D]) (G0 ++ [.lst []]) := ab.fut f0 (ab.hp.more hD .nil)
 have hn0 : (ρ0 ++ [D])[G0.length]? = some D := by rw [← ab.hp.hl, cF]
 refine ⟨fun i m H => i ≤ ds.length ∧ m = ds.length - i ∧ ∃ ρ G, Ab X.K X.mg σ H τ ρ G ∧ fH X.K H0 H ρ0 ρ ∧ ρ[G0.length]? = some D ∧ lT X.K X.mg EE H σ τ ρ (dZ gO ks tt te G0.length (ds.drop i) τ G) Q,
  ⟨ds.length, Nat.zero_le _, rfl, ρ0 ++ [D], _, M5, f0, hn0, by simpa using ok.fut f0⟩, ?_⟩
 rintro i m H ⟨hi, rfl, ρ, G, ab, f, hn, ok⟩
 by_cases hlt : i < ds.length
 ·refine .inr ⟨go i H ρ hlt f, fun x H' y => ?_⟩
  obtain ⟨⟨fN, hN⟩, rx⟩ := Ao i ds[i] H ρ x H' (List.getElem?_eq_getElem hlt) f y
  replace ok := lT.fut fN ok
  replace ab : Ab X.K X.mg σ H' τ ρ G := ab.fut fN (hN _ ab.hp)
  replace f := f.trans fN
  rw [List.drop_eq_getElem_cons hlt] at ok
  unfold dZ at ok
  refine x6 hO (W := fun H3 => ∃ m', m' < ds.length - i ∧ i + 1 ≤ ds.length ∧ m' = ds.length - (i + 1) ∧ ∃ ρ G, Ab X.K X.mg σ H3 τ ρ G ∧ fH X.K H0 H3 ρ0 ρ ∧ ρ[G0.length]? = some D ∧ lT X.K X.mg EE H3 σ τ ρ (dZ gO ks tt te G0.length (ds.drop (i + 1)) τ G) Q)
    ab rx hn ?_
  cases e : fy gO ks tt te G0.length ds[i] τ G with
  | stuck => rw [e] at ok; exact ok
  | eN c G' => rw [e] at ok; exact ok
  | ok _ G' =>
   rw [e] at ok
   exact fun H3 ρ3 f3 EX => ⟨ds.length - (i + 1), by omega, hlt, rfl, ρ3, G', EX, f.trans f3, f3.get hn, ok.fut f3⟩
 ·have e : i = ds.length := by omega
  subst e
  refine .inl ⟨stop _ H ρ (Nat.le_refl _) f, ?_⟩
  rw [List.drop_eq_nil_of_le (Nat.le_refl _)] at ok
  exact ok _ H ρ .refl ab (by unfold Rep; exact ⟨D, rfl, hn⟩)
theorem Fx (hO : vD X.K X.mg ow gO) {Q : VK} {H0 : Hp} {σ : L2.St} {ρ0 : List Addr} {G0 : DH} {τ : DS} {k fuel : Nat} {p : Addr} (hk : ρ0[k]? = some p)
  (ab : Ab X.K X.mg σ H0 τ ρ0 G0) (ok : lT X.K X.mg EE H0 σ τ ρ0 (tU gO ks tt te G0.length k fuel 0 τ (G0 ++ [.lst []])) Q) :
  ∀ D, H0 D = none → ∃ W : Nat → Nat → Hp → Prop, (∃ m, W 0 m (upd H0 D (.lst []))) ∧ ∀ i m H, W i m H →
   ((GX X.K p).stop i H ∧ Q (.ref D) H) ∨ ((GX X.K p).go i H ∧ ∀ x H', (GX X.K p).Ao i H x H' → ∃ vs, ow x H' vs ∧ liftT X.K X.mg (Bs EE σ) tt (vs.map some ++ mask ks σ) H' fun b H2 => if b = true then dF X.K X.mg (Bs EE σ) te (vs.map some ++ mask ks σ) H2 fun v H3 => ∃ ys, H3 D = some (.lst ys) ∧ ys.length < sizeLine ∧ ∃ m', m' < m ∧ W (i + 1) m' (upd H3 D (.lst (ys ++ [v]))) else ∃ m', m' < m ∧ W (i + 1) m' H2) := by
 intro D hD
 have f0 : fH X.K H0 (upd H0 D (.lst [])) ρ0 (ρ0 ++ [D]) := (oR hD ρ0).trans (qP ρ0 D)
 have M5 : Ab X.K X.mg σ (upd H0 D (.lst [])) τ (ρ0 ++ [D]) (G0 ++ [.lst []]) := ab.fut f0 (ab.hp.more hD .nil)
 have hn0 : (ρ0 ++ [D])[G0.length]? = some D := by rw [← ab.hp.hl, cF]
 refine ⟨fun i m H => ∃ ρ G, Ab X.K X.mg σ H τ ρ G ∧ fH X.K H0 H ρ0 ρ ∧ ρ[G0.length]? = some D ∧ lT X.K X.mg EE H σ τ ρ (tU gO ks tt te G0.length k m i τ G) Q,
  ⟨fuel, ρ0 ++ [D], _, M5, f0, hn0, ok.fut f0⟩, ?_⟩
 rintro i m H ⟨ρ, G, ab, f, hn, ok⟩
 cases m with
 | zero => exact ok.elim
 | succ m =>
  unfold tU at ok
  cases q : G[k]? with
  | none => rw [q] at ok; exact ok.elim
  | some o =>
   cases o with
   | dead => first | (rw [q] at ok; exact ok.elim) | (rw [q] at aX; exact aX.elim) | (rw [q3] at hW; exact hW.elim) | (rw [q] at e; cases e; done) | (rw [g] at ok; exact ok.elim) | (rw [g] at q; cases q; done) | (rw [g] at h; cases h; done) | exact ok.elim
   | dct kv => first | (rw [q] at ok; exact ok.elim) | (rw [q] at aX; exact aX.elim) | (rw [q3] at hW; exact hW.elim) | (rw [q] at e; cases e; done) | (rw [g] at ok; exact ok.elim) | (rw [g] at q; cases q; done) | (rw [g] at h; cases h; done) | exact ok.elim
   | lst ds =>
    rw [q] at ok
    dsimp only at ok
    obtain ⟨p', xs, e1, e2, rs⟩ := ab.hp.lst q
    rw [f.get hk] at e1; cases e1
    cases qd : ds[i]? with
    | none =>
     rw [qd] at ok
     have hl : xs.length ≤ i := by rw [← rs.length]; exact List.getElem?_eq_none_iff.mp qd
     exact .inl ⟨⟨xs, .of e2, hl⟩, ok _ H ρ .refl ab (by unfold Rep; exact ⟨D, rfl, hn⟩)⟩
    | some d =>
     rw [qd] at ok
     dsimp only at ok
     obtain ⟨x0, ex, rx⟩ := rs.get qd
     refine .inr ⟨⟨xs, x0, .of e2, ex⟩, fun x H' y => ?_⟩
     obtain ⟨rfl, y⟩ := y
     have e3 := y xs (.of e2)
     rw [ex] at e3; cases e3
     refine x6 hO (W := fun H3 => ∃ m', m' < m + 1 ∧ ∃ ρ G, Ab X.K X.mg σ H3 τ ρ G ∧ fH X.K H0 H3 ρ0 ρ ∧ ρ[G0.length]? = some D ∧ lT X.K X.mg EE H3 σ τ ρ (tU gO ks tt te G0.length k m' (i + 1) τ G) Q)
       ab rx hn ?_
     cases e : fy gO ks tt te G0.length d τ G with
     | stuck => rw [e] at ok; exact ok
     | eN c G' => rw [e] at ok; exact ok
     | ok _ G' =>
      rw [e] at ok
      exact fun H3 ρ3 f3 EX => ⟨m, Nat.lt_succ_self _, ρ3, G', EX, f.trans f3, f3.get hn, ok.fut f3⟩
variable {scope : Scope} {elt iter a b : Expr} {ifs : List Expr} {px pos : Pos} {m : DS → M D}
theorem D4 (hO : vD X.K X.mg ow gO) {σ : L2.St} {H : Hp} {Q : VK} (h : dF X.K X.mg EE (pM gO ks m tt te) σ H Q) :
  CQ (fun σ H R => dF X.K X.mg EE m σ H fun x H1 => (∃ p, x = .ref p ∧ (∃ xs, tP X.K H1 p xs) ∧ R (GX X.K p) H1) ∨ (∃ p, x = .ref p ∧ (∃ xs, tQ X.K H1 p xs) ∧ R (O2 X.K p) H1) ∨ ∃ z, x = .str z ∧ R (HZ z) H1) ks ow (liftT X.K X.mg (Bs EE σ) tt) (dF X.K X.mg (Bs EE σ) te) σ H Q := by
 obtain ⟨τ, ρ, G, ab, ok⟩ := jM (k := fun τ d G => match d with
  | .obj k => match G[k]? with
   | some (.lst xs) => tU gO ks tt te G.length k (xs.length + 1) 0 τ (G ++ [.lst []])
   | _ => .stuck
  | .tup xs => dZ gO ks tt te G.length xs τ (G ++ [.lst []])
  | .con xs => dZ gO ks tt te G.length xs τ (G ++ [.lst []])
  | .str z => dZ gO ks tt te G.length (z.cps.toList.map fun c => .str ⟨#[c]⟩) τ (G ++ [.lst []])
  | _ => .stuck) h
 refine ⟨τ, ρ, G, ab, ?_⟩
 cases e : m τ G with
 | stuck => rw [e] at ok; exact ok
 | eN c G' => rw [e] at ok; exact ok
 | ok d G' =>
  rw [e] at ok
  intro v H1 ρ1 f1 Al r1
  obtain ⟨τ2, ρ2, G2, d2, eL, r2, aX⟩ := ok v H1 ρ1 f1 Al r1
  cases d2 <;> try exact aX.elim
  case obj n =>
   dsimp only at aX
   unfold Rep at r2
   obtain ⟨p, rfl, e1⟩ := r2
   cases q : G2[n]? with
   | none => rw [q] at aX; exact aX.elim
   | some o =>
    cases o with
    | dead => first | (rw [q] at ok; exact ok.elim) | (rw [q] at aX; exact aX.elim) | (rw [q3] at hW; exact hW.elim) | (rw [q] at e; cases e; done) | (rw [g] at ok; exact ok.elim) | (rw [g] at q; cases q; done) | (rw [g] at h; cases h; done) | exact ok.elim
    | dct kv => first | (rw [q] at ok; exact ok.elim) | (rw [q] at aX; exact aX.elim) | (rw [q3] at hW; exact hW.elim) | (rw [q] at e; cases e; done) | (rw [g] at ok; exact ok.elim) | (rw [g] at q; cases q; done) | (rw [g] at h; cases h; done) | exact ok.elim
    | lst xs =>
     rw [q] at aX
     obtain ⟨p', vs, e2, h2, rs⟩ := eL.hp.lst q
     rw [e1] at e2; cases e2
     exact .inl ⟨p, rfl, ⟨vs, .of h2⟩, Fx hO e1 eL aX⟩
  case tup xs =>
   unfold Rep at r2
   obtain ⟨p, vs, rfl, sq, rs⟩ := r2
   refine .inr (.inl ⟨p, rfl, ⟨vs, sq⟩, lY hO xs (fun i H' ρ' hi f => ?_) (fun i H' ρ' hi f => ?_) (fun i d' H' ρ' x MN hd f y => ?_) eL aX⟩)
   ·rw [rs.length] at hi
    exact ⟨vs, vs[i], f.tup _ _ sq, List.getElem?_eq_getElem hi⟩
   ·exact ⟨vs, f.tup _ _ sq, by rw [← rs.length]; exact hi⟩
   ·obtain ⟨rfl, y⟩ := y
    obtain ⟨w', ew, rw'⟩ := rs.get hd
    have := y vs (f.tup _ _ sq)
    rw [ew] at this; cases this
    exact ⟨.refl, rw'.mono f⟩
  case con xs =>
   unfold Rep at r2
   obtain ⟨p, vs, rfl, sq, rs⟩ := r2
   refine .inl ⟨p, rfl, ⟨vs, sq.seq⟩, lY hO xs (fun i H' ρ' hi f => ?_) (fun i H' ρ' hi f => ?_) (fun i d' H' ρ' x MN hd f y => ?_) eL aX⟩
   ·rw [rs.length] at hi
    exact ⟨vs, vs[i], (f.con _ _ sq).seq, List.getElem?_eq_getElem hi⟩
   ·exact ⟨vs, (f.con _ _ sq).seq, by rw [← rs.length]; exact hi⟩
   ·obtain ⟨rfl, y⟩ := y
    obtain ⟨w', ew, rw'⟩ := rs.get hd
    have := y vs (f.con _ _ sq).seq
    rw [ew] at this; cases this
    exact ⟨.refl, rw'.mono f⟩
  case str z =>
   unfold Rep at r2; subst r2
   refine .inr (.inr ⟨z, rfl, lY hO (z.cps.toList.map fun c => .str ⟨#[c]⟩) (fun i H' ρ' hi f => ?_) (fun i H' ρ' hi f => ?_) (fun i d' H' ρ' x MN hd f y => ?_) eL aX⟩)
   ·simpa [HZ] using hi
   ·simpa [HZ] using hi
   ·obtain ⟨rfl, c, hc, rfl⟩ := y
    rw [List.getElem?_map] at hd
    have : z.cps.toList[i]? = some c := by simpa using hc
    rw [this] at hd
    cases hd
    exact ⟨.refl, by unfold Rep; rfl⟩
noncomputable def ya (X : Cx) (scope : Scope) (xs : List Str) (ifs : List Expr) (elt : Expr) (tt : DS → M Bool) (te : DS → M D) : Prop :=
 ∀ (cl : List (Str × Addr)) (C : Addr) (pins : List (Addr × Obj)) (s0 : Shared) (H0 : Hp) (fp : List Addr) (E : Value → Shared → Prop) (EE : gf), lX (sJ X scope cl xs C pins s0 H0 fp E) EE → CT (sJ X scope cl xs C pins s0 H0 fp E) ifs (liftT X.K X.mg EE tt) ∧ QE (sJ X scope cl xs C pins s0 H0 fp E) EE elt te
noncomputable def nH : DS → M Bool := fun _ => M.ret true
theorem iG (h : ∀ (cl : List (Str × Addr)) (C : Addr) (pins : List (Addr × Obj)) (s0 : Shared) (H0 : Hp) (fp : List Addr) (E : Value → Shared → Prop) (EE : gf), lX (sJ X scope cl xs C pins s0 H0 fp E) EE → QE (sJ X scope cl xs C pins s0 H0 fp E) EE elt te) : ya X scope xs [] elt nH te :=
 fun cl C pins s0 H0 fp E EE hx => ⟨fun j4 s σ H Q I ⟨τ, ρ, G, ab, ok⟩ => KU j4 s σ H Q I (ok H ρ .refl ab), h cl C pins s0 H0 fp E EE hx⟩
theorem D5 {c : Expr} (h : ∀ (cl : List (Str × Addr)) (C : Addr) (pins : List (Addr × Obj)) (s0 : Shared) (H0 : Hp) (fp : List Addr) (E : Value → Shared → Prop) (EE : gf), lX (sJ X scope cl xs C pins s0 H0 fp E) EE → QT (sJ X scope cl xs C pins s0 H0 fp E) EE c tt ∧ QE (sJ X scope cl xs C pins s0 H0 fp E) EE elt te) : ya X scope xs [c] elt tt te :=
 fun cl C pins s0 H0 fp E EE hx => ⟨KW (h cl C pins s0 H0 fp E EE hx).1, (h cl C pins s0 H0 fp E EE hx).2⟩
noncomputable def dG (X : Cx) : Prop := ∃ i9 ja L, X.stack = i9 :: ja ∧ X.env.frame = i9.frame ∧ i9.frame = some L
theorem Ik (hx : lX X EE) (hst : dG X) (S : cN X.env.scope X.N scope xs ks) (how : Own X scope xs ks tg ow) (hO : vD X.K X.mg ow gO) (hc : X.calm = true) (ha : QE X EE iter m) (hb : ya X scope xs ifs elt tt te) (hs : ∀ x, foldedSetIterable iter X.env x = pure x := by intro _; rfl) :
  QE X EE (.ListComp elt [⟨tg, iter, ifs, 0⟩] scope pos) (pM gO ks m tt te) := PE.mono (Ih (tt := fun σ => liftT X.K X.mg (Bs EE σ) tt) (te := fun σ => dF X.K X.mg (Bs EE σ) te) hx hst S how hc (PI.any ha) (fun σ cl C pins s0 H0 fp E => hb cl C pins s0 H0 fp E _) hs) fun _ _ _ h => D4 hO h
theorem Fy (hO : vD X.K X.mg ow gO) {Q : VK} {H0 : Hp} {σ : L2.St} {ρ0 : List Addr} {G0 : DH} {τ : DS} (lo : Int) (n : Nat) (ab : Ab X.K X.mg σ H0 τ ρ0 G0)
  (ok : lT X.K X.mg EE H0 σ τ ρ0 (dZ gO ks tt te G0.length ((List.range n).map fun (k : Nat) => .int (lo + (k : Int))) τ (G0 ++ [.lst []])) Q) :
  ∀ D, H0 D = none → ∃ W : Nat → Nat → Hp → Prop, (∃ m, W 0 m (upd H0 D (.lst []))) ∧ ∀ i m H, W i m H →
   ((Bu lo n).stop i H ∧ Q (.ref D) H) ∨ ((Bu lo n).go i H ∧ ∀ x H', (Bu lo n).Ao i H x H' → ∃ vs, ow x H' vs ∧ liftT X.K X.mg (Bs EE σ) tt (vs.map some ++ mask ks σ) H' fun b H2 => if b = true then dF X.K X.mg (Bs EE σ) te (vs.map some ++ mask ks σ) H2 fun v H3 => ∃ ys, H3 D = some (.lst ys) ∧ ys.length < sizeLine ∧ ∃ m', m' < m ∧ W (i + 1) m' (upd H3 D (.lst (ys ++ [v]))) else ∃ m', m' < m ∧ W (i + 1) m' H2) :=
 lY hO (J := Bu lo n) _ (fun i H ρ hi f => by simpa [Bu] using hi) (fun i H ρ hi f => by simpa [Bu] using hi) (fun i d H ρ x H' hd f y => by
  obtain ⟨rfl, rfl⟩ := y
  rw [List.getElem?_map] at hd
  cases q : (List.range n)[i]? with
  | none => rw [q] at hd; cases hd
  | some k =>
   rw [q] at hd
   obtain ⟨hk, e⟩ := List.getElem?_eq_some_iff.mp q
   rw [List.getElem_range] at e
   subst e
   cases hd
   exact ⟨.refl, by unfold Rep; rfl⟩) ab ok
variable {ma : DS → M (List D)}
theorem AF (hO : vD X.K X.mg ow gO) {σ : L2.St} {H : Hp} {Q : VK} (h : dF X.K X.mg EE (sM kZ gO ks ma tt te) σ H Q) : CQ (Jb (xT X.K X.mg EE ma)) ks ow (liftT X.K X.mg (Bs EE σ) tt) (dF X.K X.mg (Bs EE σ) te) σ H Q := by
 obtain ⟨τ, ρ, G, ab, ok⟩ := vm (k := fun τ ds G => match kZ ds with | some xs => dZ gO ks tt te G.length xs τ (G ++ [.lst []]) | none => .stuck) h
 refine ⟨τ, ρ, G, ab, ?_⟩
 cases e : ma τ G with
 | stuck => rw [e] at ok; exact ok
 | eN c G' => rw [e] at ok; exact ok
 | ok ds G' =>
  rw [e] at ok
  intro vs H1 ρ1 f1 Al r1
  obtain ⟨τ2, ρ2, G2, d2, eL, r2, aX⟩ := ok vs H1 ρ1 f1 Al r1
  cases q : kZ d2 with
  | none => rw [q] at aX; exact aX.elim
  | some xs =>
   rw [q] at aX
   unfold kZ at q
   split at q
   ·rename_i j
    split at q
    ·rename_i hj
     cases q
     obtain ⟨v, rfl, h1⟩ := pK r2
     unfold Rep at h1; subst h1
     exact ⟨j, rfl, hj.1, hj.2, Fy hO 0 j.toNat eL aX⟩
    ·cases q
   ·cases q
theorem Fz {me : DS → M D} {t : TE} {i : Nat} (hl : ∀ σ H Q, dF X.K X.mg EE me σ H Q → t σ H Q) {Dd : Ends} {σ : L2.St} {H : Hp} (h : kU X.K X.mg EE (cA i me) Dd σ H) : JY t (An i) Dd σ H := by
 obtain ⟨τ, ρ, G, ab, ok⟩ := h
 refine hl σ H (fun v H1 => An i v σ H1 Dd.nx) ⟨τ, ρ, G, ab, ?_⟩
 dsimp only [cA, fq] at ok
 cases e : me τ G with
 | stuck => rw [e] at ok; exact ok
 | eN c G' => rw [e] at ok; exact fun H' ρ' f dm => ok σ H' ρ' f dm
 | ok d G' => rw [e] at ok; exact fun v H' ρ' f dm r => ok _ H' ρ' f (dm.set r)
theorem D6 {y : Str} {i : Nat} {py spos p pc : Pos} (hx : lX X EE) (hst : dG X) (S : cN X.env.scope X.N scope xs ks) (how : Own X scope xs ks tg ow) (hO : vD X.K X.mg ow gO) (hc : X.calm = true) (hN : X.N.Nodup) (hm : X.mg "range" = none) (ha : QA X EE [a] ma) (hb : ya X scope xs ifs elt tt te) (hy : X.N[i]? = some y := by rfl) (hl : X.env.scope.names.lookup y = some .local := by rfl)
  (KL : Gl X "range" := by rfl) (QI : starEach [a] X.env = [(false, eval a X.env)] := by rfl)
  (hsw : swapsWith (.ListComp elt [⟨tg, .Call (.Name "range" p) [a] [] pc, ifs, 0⟩] scope pos) (some (.Name y py)) spos.line X.env = pure true := by rfl) (hs : ∀ x, foldedSetIterable (.Call (.Name "range" p) [a] [] pc) X.env x = pure x := by intro _; rfl) :
  QS X EE (.Assign [.Name y py] (.ListComp elt [⟨tg, .Call (.Name "range" p) [a] [] pc, ifs, 0⟩] scope pos) spos) (cA i (sM kZ gO ks ma tt te)) :=
 PS.mono (Ii (tt := fun σ => liftT X.K X.mg (Bs EE σ) tt) (te := fun σ => dF X.K X.mg (Bs EE σ) te) hx hst S how hc hN (xK KL hm ha QI) hy hl hsw (fun σ cl C pins s0 H0 fp E => hb cl C pins s0 H0 fp E _) hs) fun _ _ _ h => Fz (fun _ _ _ h => AF hO h) h
end
end L3
end
section
set_option Elab.async false
set_option linter.all false
set_option maxRecDepth 100000
namespace L3
open PySem PySem.Spec L2
theorem bQ {k : Nat} {A : Around} (r : gn k A) : A.units + 600 < cLine := by have := r.un; omega
theorem M6 {X : Cx} {EE : gf} {x : Str} {f : Addr} {pos : Pos} (hm : X.mg x = some (.ref f)) (hg : Gl X x := by rfl) (hd : (x == ("__debug__" : Str)) = false := by decide) : QE X EE (.Name x pos) (eC (.fn x)) :=
 DL (CA hg hm (v := .ref f) rfl hd) fun _ _ => by unfold Rep; exact ⟨f, rfl, hm⟩
noncomputable def Jl (K : PySem.W.Frag) : Sp := fun vs H Q _ => ∃ (a : Addr) (ns : List Int), vs = [.ref a] ∧ Ks K H a (ns.map V.int) ∧ ns.length ≤ 63 ∧ ∀ H', Q (.bl true) H'
theorem K3 {K : PySem.W.Frag} {H : Hp} {a : Addr} {xs : List V} (hO : HG H) (h : tP K H a xs) : Ks K H a xs := by
 rcases h with (h | ⟨o, h⟩) | h
 ·rcases hO a with z | ⟨o, ys, z⟩
  ·rw [h] at z; cases z
  ·rw [h] at z; cases z
 ·exact .inl ⟨o, h⟩
 ·exact .inr h
theorem FA {K : PySem.W.Frag} {mg : Str → Option Value} {m : List D → M D} (hm : ∀ ns : List Int, ns.length ≤ 63 → ∃ G, m [.con (ns.map .int)] [] = .ok (.bl true) G) (vs : List V) (H : Hp) (Q : VK) (E : XK) (h : Jl K vs H Q E) : aN K mg 1 m vs H Q E := by
 obtain ⟨a, ns, rfl, sq, hl, q⟩ := h
 obtain ⟨G, e⟩ := hm ns hl
 refine ⟨[.con (ns.map .int)], [], [], rfl, ⟨rfl, List.nodup_nil, fun n o e => by simp at e⟩, .cons (by unfold Rep; exact ⟨a, _, rfl, sq, .ints ns⟩) .nil, ?_⟩
 rw [e]
 intro v H' ρ' _ _ r
 unfold Rep at r
 subst r
 exact q H'
end L3
end
section
set_option Elab.async false
set_option linter.all false
set_option maxRecDepth 100000
namespace L3
open PySem PySem.Spec L2
noncomputable def fm : Expr → Bool
 | .Starred .. => false
 | _ => true
noncomputable def plainT : Expr → Bool
 | .UnaryOp .Not _ _ => false
 | .BoolOp .. => false
 | .IfExp .. => false
 | .Compare .. => false
 | _ => true
noncomputable def sN : Expr → Bool
 | .Set .. => false
 | _ => true
noncomputable def BW : Expr → Bool
 | .ListComp .. => false
 | .SetComp .. => false
 | .DictComp .. => false
 | _ => true
noncomputable def p7 : Expr → Bool
 | .Call (.Name _ _) [] [] _ => false
 | _ => true
noncomputable def zc : Expr → Bool
 | .Slice .. => false
 | _ => true
noncomputable def aJ : List Expr → Bool
 | [] => true
 | e :: es => fm e && aJ es
theorem bZ {e : Expr} (h : fm e = true) (es : List Expr) (env : Env) : starEach (e :: es) env = (false, eval e env) :: starEach es env := by
 cases e <;> first | rfl | cases h
theorem D7 {e : Expr} (h : plainT e = true) (env : Env) (whole : Sem Value) : isTrue e env whole = (do let v ← whole; standAt e.pos; holding [v] (truthy v)) := by
 cases e <;> first | rfl | cases h | (rename_i op _ _; cases op <;> first | rfl | cases h)
theorem uT {e : Expr} (h : sN e = true) (env : Env) (x : Value) : foldedSetIterable e env x = pure x := by
 cases e <;> first | rfl | cases h
theorem zd {e : Expr} (h : BW e = true) (t : Option Expr) (l : Nat) (env : Env) : swapsWith e t l env = pure false := by
 cases e <;> first | rfl | cases h
theorem iM {e : Expr} (h : p7 e = true) (n : Str) (env : Env) : attributeBase e n env (eval e env) = eval e env := by
 unfold attributeBase
 split
 ·cases h
 ·rfl
theorem Jm {e : Expr} (h : zc e = true) : uO e := fun o i => by
 cases e <;> first | rfl | cases h
theorem CS {e : Expr} (h : sN e = true) (op : CmpOp) : behindInMarks op e = false := by
 cases e <;> first | rfl | cases h
theorem d7 {env : Env} {pos : Pos} : ∀ {es : List Expr}, aJ es = true → (backTo pos (starEach es env)).any (·.1) = false
 | [], _ => rfl
 | e :: es, h => by
  have h' : fm e = true ∧ aJ es = true := by simpa [aJ] using h
  rw [bZ h'.1]
  have ih := d7 (env := env) (pos := pos) h'.2
  show (false || (backTo pos (starEach es env)).any (·.1)) = false
  rw [ih]; rfl
theorem yb {env : Env} {pos : Pos} : ∀ {es : List Expr}, aJ es = true → (backTo pos (starEach es env)).all (fun x => !x.1) = true
 | [], _ => rfl
 | e :: es, h => by
  have h' : fm e = true ∧ aJ es = true := by simpa [aJ] using h
  rw [bZ h'.1]
  have ih := yb (env := env) (pos := pos) h'.2
  show (!false && (backTo pos (starEach es env)).all (fun x => !x.1)) = true
  rw [ih]; rfl
theorem sO {env : Env} {pos : Pos} {es : List Expr} (h : aJ es = true) (hl : es.length < 30) : ((backTo pos (starEach es env)).all (fun x => !x.1) && (backToKw pos (keywordEach [] env)).all (fun x => x.1.isSome)
   && decide (es.length + ([] : List Keyword).length + (if ([] : List Keyword).isEmpty then 0 else 1) < 30)) = true := by
 rw [yb h]
 simp only [Bool.true_and, Bool.and_eq_true, decide_eq_true_eq]
 exact ⟨rfl, by simpa using hl⟩
section
variable {X : Cx} {EE : gf} {a b c e o : Expr} {es : List Expr} {ma mb mc me mo : DS → M D} {pos p apos cpos : Pos} {m : DS → M (List D)} {ms mt : MS} {x : Str} {ks : List Bool} {tt : DS → M Bool} {te : DS → M D}
theorem ze {m : DS → M D} {r : DS → M (List D)} (ha : QE X EE e m) (hr : QA X EE es r) (h : fm e = true := by rfl) : QA X EE (e :: es) (ah m r) := HQ ha hr (bZ h _ _)
theorem af (i : Nat) (hv : JJ X.env.scope x) (hd : (x == ("__debug__" : Str)) = false ∧ (x == ("__classdict__" : Str)) = false) (hN : X.N[i]? = some x := by rfl) : QE X EE (.Name x pos) (ai i) := Ky i hN hv hd.1 hd.2
theorem qT {d : D} (h : tS X.K X.mg x d) (hg : Gl X x) (hd : (x == ("__debug__" : Str)) = false ∧ (x == ("__classdict__" : Str)) = false) : QE X EE (.Name x pos) (eC d) := HN h hg hd.1
theorem M7 {f : Addr} (hm : X.mg x = some (.ref f)) (hg : Gl X x) (hd : (x == ("__debug__" : Str)) = false ∧ (x == ("__classdict__" : Str)) = false) : QE X EE (.Name x pos) (eC (.fn x)) := M6 hm hg hd.1
theorem aq (ha : QE X EE a ma) (hb : QE X EE b mb) (h : zc b = true := by rfl) : QE X EE (.Subscript a b pos) (aI fu ma mb) := E6 ha hb (Jm h)
theorem M8 (hu : X.A.units + 600 < cLine) (ha : QE X EE a ma) (hb : QE X EE b mb) (h : sN b = true := by rfl) : QE X EE (.Compare a [.In] [b] pos) (aI (xV false) ma mb) := MK hu ha hb (CS h _)
theorem cG {op : CmpOp} {f : D → D → M D} (ho : kT X (compareOp op) (rD X EE f)) (ha : QE X EE a ma) (hb : QE X EE b mb) (h : sN b = true := by rfl) : QT X EE (.Compare a [op] [b] pos) (nV (aI f ma mb)) := KG ho ha hb (CS h _)
theorem sP (ha : QE X EE a ma) (h : plainT a = true := by rfl) : QT X EE a (kD qQ ma) := KC ha (D7 h _)
theorem vE {id : String} {f : List D → M D} (hc : gB X (.builtin id) (Jf X EE f)) (hm : X.mg x = none) (hg : Gl X x) (hv : bootBuiltins x = some (.builtin id)) (ha : QA X EE (e :: es) m) (hn : x ≠ "__name__" := by decide) (hdb : (x == ("__debug__" : Str)) = false := by decide) (h : aJ (e :: es) = true := by rfl) :
  QE X EE (.Call (.Name x p) (e :: es) [] pos) (aH f m) := by
 have h' : fm e = true ∧ aJ es = true := by simpa [aJ] using h
 exact E0 hc vt hm ha hg hv hn hdb (bZ h'.1 _ _) (d7 h'.2)
theorem yc {id : String} {f : List D → M D} (hc : gB X (.type id) (Jf X EE f)) (hm : X.mg x = none) (hg : Gl X x) (hv : bootBuiltins x = some (.type id)) (ha : QA X EE (e :: es) m) (hn : x ≠ "__name__" := by decide) (hdb : (x == ("__debug__" : Str)) = false := by decide) (h : aJ (e :: es) = true := by rfl) :
  QE X EE (.Call (.Name x p) (e :: es) [] pos) (aH f m) := by
 have h' : fm e = true ∧ aJ es = true := by simpa [aJ] using h
 exact DP hc vt hm ha hg hv hn hdb (bZ h'.1 _ _) (d7 h'.2)
theorem fL (hm : X.mg "len" = none) (hg : Gl X "len") (ha : QA X EE [e] m) (h : aJ [e] = true := by rfl) : QE X EE (.Call (.Name "len" p) [e] [] pos) (aH jO m) := vE DT hm hg PySem.boot_len ha (by decide) (by decide) h
theorem K4 (hc : X.calm = true) (hm : X.mg "all" = none) (hg : Gl X "all") (ha : QA X EE [e] m) (h : aJ [e] = true := by rfl) : QE X EE (.Call (.Name "all" p) [e] [] pos) (aH (Fj false) m) := vE (DU hc) hm hg PyProof.Rows.boot_all ha (by decide) (by decide) h
theorem Il (hc : X.calm = true) (hm : X.mg "max" = none) (hg : Gl X "max") (ha : QA X EE [e, a] m) (h : aJ [e, a] = true := by rfl) : QE X EE (.Call (.Name "max" p) [e, a] [] pos) (aH (p6 fun i j => if j > i then j else i) m) := vE (DV hc) hm hg PyProof.Rows.boot_max ha (by decide) (by decide) h
theorem vF (c : Ty) {pt : Pos} (hc : c ≠ .gg) (hm : X.mg "isinstance" = none) (hmt : X.mg x = none) (hg : Gl X "isinstance") (hgt : Gl X x) (ha : QE X EE a ma) (hb : bootBuiltins x = some (.type c.nm)) (hnt : x ≠ "__name__") (hdt : (x == ("__debug__" : Str)) = false) (h : fm a = true := by rfl) :
  QE X EE (.Call (.Name "isinstance" p) [a, .Name x pt] [] pos) (AA c ma) := KN c hc hm hmt ha hb hg hgt hnt hdt (bZ h _ _) (bZ rfl _ _) (d7 (es := [.Name x pt]) rfl)
theorem aZ {CX : wQ} {k n : Nat} {f : Addr} {fd : FuncData} {ps : List Str} {mf : List D → M D} (F : aR X.prog X.w X.K X.mg X.base CX k f fd ps (aN X.K X.mg n mf)) (hr : gn k X.A) (hm : X.mg x = some (.ref f)) (hk : PySem.W.keepIn X.K (.ref f) = true) (hb : Binds X.K fd ps []) (hx : LQ CX X EE) (hg : Gl X x)
  (hd : (x == ("__debug__" : Str)) = false ∧ (x == ("__classdict__" : Str)) = false) (ha : QA X EE (e :: es) m) (h : aJ (e :: es) = true := by rfl) : QE X EE (.Call (.Name x p) (e :: es) [] pos) (bD n mf m) := by
 have h' : fm e = true ∧ aJ es = true := by simpa [aJ] using h
 exact Ia F hr hm hk hb hx ha hg hd.1 (bZ h'.1 _ _) (d7 h'.2)
theorem jJ (ho : QE X EE o mo) (ha : QA X EE [e] m) (hb : p7 o = true := by rfl) (h : aJ [e] = true := by rfl) (hline : (apos.endLine == cpos.line) = true := by rfl) : QE X EE (.Call (.Attribute o "append" apos) [e] [] cpos) (dY "list" gx mo m) := by
 have h' : fm e = true ∧ aJ [] = true := by simpa [aJ] using h
 exact DW ho ha (iM hb _ _) (sO h (by simp)) hline (bZ h'.1 _ _) (d7 (es := []) rfl)
theorem K5 (ho : QE X EE o mo) (hb : p7 o = true := by rfl) (hline : (apos.endLine == cpos.line) = true := by rfl) : QE X EE (.Call (.Attribute o "pop" apos) [] [] cpos) (dY "list" za mo aB) := KQ ho (iM hb _ _) hline
theorem oW (he : QE X EE a ma) (h : BW a = true := by rfl) : QS X EE (.Expr a pos) (pJ ma) := HX he (zd h _ _ _)
theorem bO {i : Nat} {pos' : Pos} (hN : X.N.Nodup) (hx : Loc X.env.scope x) (he : QE X EE a ma) (hf : X.fn x = true ∨ X.env.scope.names.lookup x = some .local) (hi : X.N[i]? = some x := by rfl) (h : BW a = true := by rfl) : QS X EE (.Assign [.Name x pos'] a pos) (cA i ma) := KI hN he hi hx (zd h _ _ _) hf
theorem j8 {i : Nat} (hN : X.N.Nodup) (hx : Loc X.env.scope x) (hf : X.fn x = true ∨ X.env.scope.names.lookup x = some .local) (hi : X.N[i]? = some x := by rfl) : QG X (.Name x pos) (gN i) := HY hN hi hx hf
theorem vG {tg : Expr} {g : wO} {body : List Stmt} (hp : PassesOwn (model X.prog X.w) X.A X.env X.xe) (hc : X.calm = true) (ha : QE X EE a ma) (hg : QG X tg g) (hb : Ez X EE body ms) (h : sN a = true := by rfl) : QS X EE (.For tg a body [] pos) (lW g ma ms) := KJ hp hc ha hg hb (uT h _)
theorem qU {tg : Expr} {g : wO} {body : List Stmt} {pc : Pos} (hp : PassesOwn (model X.prog X.w) X.A X.env X.xe) (hc : X.calm = true) (hm : X.mg "range" = none) (KL : Gl X "range") (ha : QA X EE [a] m) (hg : QG X tg g) (hb : Ez X EE body ms) (h : fm a = true := by rfl) :
  QS X EE (.For tg (.Call (.Name "range" p) [a] [] pc) body [] pos) (j6 kZ g m ms) := Fi hp hc hm ha hg hb KL (bZ h _ _) (uT rfl _)
variable {scope : Scope} {elt iter tg : Expr} {xs : List Str} {ow : V → Hp → List V → Prop} {gO : D → Option (List D)} {ifs : List Expr} {px : Pos}
theorem oX (hx : lX X EE) (hst : dG X) (S : cN X.env.scope X.N scope xs ks) (how : Own X scope xs ks tg ow) (hO : vD X.K X.mg ow gO) (hc : X.calm = true) (ha : QE X EE iter ma) (hb : ya X scope xs ifs elt tt te) (h : sN iter = true := by rfl) : QE X EE (.ListComp elt [⟨tg, iter, ifs, 0⟩] scope pos) (pM gO ks ma tt te) := Ik hx hst S how hO hc ha hb (uT h _)
theorem yd {y : Str} {i : Nat} {py spos pc : Pos} (hx : lX X EE) (hst : dG X) (S : cN X.env.scope X.N scope xs ks) (how : Own X scope xs ks tg ow) (hO : vD X.K X.mg ow gO) (hc : X.calm = true) (hN : X.N.Nodup) (hl : X.env.scope.names.lookup y = some .local) (hm : X.mg "range" = none) (KL : Gl X "range") (ha : QA X EE [a] m) (hb : ya X scope xs ifs elt tt te)
  (hsw : swapsWith (.ListComp elt [⟨tg, .Call (.Name "range" p) [a] [] pc, ifs, 0⟩] scope pos) (some (.Name y py)) spos.line X.env = pure true) (hy : X.N[i]? = some y := by rfl) (h : fm a = true := by rfl) :
  QS X EE (.Assign [.Name y py] (.ListComp elt [⟨tg, .Call (.Name "range" p) [a] [] pc, ifs, 0⟩] scope pos) spos) (cA i (sM kZ gO ks m tt te)) := D6 hx hst S how hO hc hN hm ha hb hy hl KL (bZ h _ _) hsw (uT rfl _)
theorem ye {gens : List Comprehension} {y : Str} {py : Pos} {l : Nat} {env : Env} (hb : (env.blockKind == .function) = true) (hl : env.scope.names.lookup y = some .local) (hp : (py.line == pos.line) = true) (hq : (scope.names.any fun x => x.1 == y && (x.2 == .local || x.2 == .cell)) = false) : swapsWith (.ListComp elt gens scope pos) (some (.Name y py)) l env = pure true := by
 unfold swapsWith
 dsimp only
 show (pure (env.blockKind == .function && env.kindOf y == some .local && py.line == pos.line && !(scope.names.any fun x => x.1 == y && (x.2 == .local || x.2 == .cell))) : Sem Bool) = pure true
 have e : (env.kindOf y == some NameKind.local) = true := by rw [show env.kindOf y = some NameKind.local from hl]; rfl
 rw [hb, e, hp, hq]; rfl
theorem lZ {cl : List (Str × Addr)} {C : Addr} {pins : List (Addr × Obj)} {s0 : Shared} {H0 : Hp} {fp : List Addr} {E : Value → Shared → Prop} (S : cN X.env.scope X.N scope xs ks) (h : x ∈ xs) : JJ (sJ X scope cl xs C pins s0 H0 fp E).env.scope x := .inl (vB (cl := cl) (C := C) S h)
theorem zf {cl : List (Str × Addr)} {C : Addr} {pins : List (Addr × Obj)} {s0 : Shared} {H0 : Hp} {fp : List Addr} {E : Value → Shared → Prop} {y : Str} (S : cN X.env.scope X.N scope xs ks) (h : scope.names.lookup y = some .free) : JJ (sJ X scope cl xs C pins s0 H0 fp E).env.scope y := .inr (sL (cl := cl) (C := C) S h)
theorem oY {cl : List (Str × Addr)} {C : Addr} {pins : List (Addr × Obj)} {s0 : Shared} {H0 : Hp} {fp : List Addr} {E : Value → Shared → Prop} {y : Str} (h : scope.names.lookup y = some .globalImplicit) : Gl (sJ X scope cl xs C pins s0 H0 fp E) y := by
 show (compEnvC scope cl C X.env).kindOf y = some .globalImplicit
 have e : (compEnvC scope cl C X.env).kindOf y = (scope.names.lookup y).map (wW X.env y) := fK scope.names
 rw [e, h]; rfl
end
theorem fM {X : Cx} {EE : gf} {x : Str} {C : Addr} {np cpos pos : Pos} {e : Expr} {es : List Expr} {m : DS → M (List D)} (hc : X.calm = true) (hx : lX X EE) (hm : X.mg x = some (.ref C)) (hq : PySem.W.excIn X.K C BR "ValueError.__new__" = true) (hg : Gl X x) (hd : (x == ("__debug__" : Str)) = false ∧ (x == ("__classdict__" : Str)) = false)
  (ha : QA X EE (e :: es) m) (h : aJ (e :: es) = true := by rfl) : QS X EE (.Raise (some (.Call (.Name x np) (e :: es) [] cpos)) none pos) (gT x m) := by
 have h' : fm e = true ∧ aJ es = true := by simpa [aJ] using h
 exact Fq hc hx hm hq hg hd.1 ha (bZ h'.1 _ _) (d7 h'.2)
end L3
end
section
set_option Elab.async false
set_option linter.all false
set_option maxRecDepth 100000
namespace L3
open PySem PySem.Spec L2 Builtin Builtin.Str
section
variable {X : Cx} {EE : gf}
theorem BX {prog : Program} {w : World} {A : Around} {E : Value → Shared → Prop} {s : Shared} {x y : Str} {t u : Tok} {Q : Value → Shared → Prop} (hy : (y.length == 0) = false) (hsz : x.length + 2 ≤ sizeLine)
  (hq : ∀ (l : List (Str × Tok)) (k : Nat), l.map (·.1) = Txt.split x y → Q (.ref s.heap.objs.size) { s with heap := s.heap.push { cls := .type "list", data := .seq (strValues l).toArray }, toks := k }) :
  wpAny (model prog w) A (call (.builtin "str.split") [.str x t, .str y u]) Q E s := by
 have S2 : (partsBetween x (occurrences x y 0 x.length (x.length + 1)) y.length).length ≤ sizeLine := by
  rw [length_partsBetween]
  have := StrLaws.occ_length_le x y 0 x.length (x.length + 1)
  omega
 unfold Txt.split at hq
 cases h1 : (decide (x.length < y.length) || decide (strKind x < strKind y)) with
 | true =>
  rw [h1, if_pos rfl] at hq
  exact call_meets F.slot_str_split (typeIs_str _ _ _) F.entry_str_split (F.args_str_split_2 _ _) (meets_str_split_cannot_occur x y t u h1) (hq [(x, t)] s.toks rfl)
 | false =>
  rw [h1, if_neg Bool.false_ne_true] at hq
  cases hf : (occurrences x y 0 x.length (x.length + 1)).isEmpty with
  | true =>
   rw [hf, if_pos rfl] at hq
   exact call_meets F.slot_str_split (typeIs_str _ _ _) F.entry_str_split (F.args_str_split_2 _ _) (meets_str_split_not_found x y t u h1 hy hf) (hq [(x, t)] s.toks rfl)
  | false =>
   rw [hf, if_neg Bool.false_ne_true] at hq
   refine call_meets F.slot_str_split (typeIs_str _ _ _) F.entry_str_split (F.args_str_split_2 _ _) (meets_str_split_sep x y t u h1 hy hf (by omega) S2) ?_
   have := hq (numbered s.toks (partsBetween x (occurrences x y 0 x.length (x.length + 1)) y.length)) (s.toks + (partsBetween x (occurrences x y 0 x.length (x.length + 1)) y.length).length) (numbered_texts _ _)
   rw [← strsFrom_eq] at this
   exact this
noncomputable def vH : D → List D → M D
 | .str x, [.str y] => fun G => if y.length ≠ 0 ∧ x.length + 2 ≤ sizeLine then dg ((Txt.split x y).map .str) G else .stuck
 | _, _ => M.stop
theorem Vals.strs : ∀ (l : List (Str × Tok)), Vals ((l.map (·.1)).map V.str) (strValues l)
 | [] => .nil
 | p :: r => .cons ⟨_, rfl⟩ (Vals.strs r)
theorem aC.strs {K : PySem.W.Frag} {mg : Str → Option Value} {ρ : List Addr} {H : Hp} : ∀ (l : List Str), aC K mg ρ H (l.map D.str) (l.map V.str)
 | [] => .nil
 | p :: r => .cons (by unfold Rep; rfl) (aC.strs r)
theorem D8 : DI X "str.split" (KO X EE vH) := by
 intro pins s σ0 H x xs v us Q I rx Ic ⟨σ, τ, ρ, G, d, ds, ab, rd, CM, ok⟩
 cases d <;> try exact ok.elim
 rename_i z
 match ds, ok with
 | [], ok => exact ok.elim
 | a :: _ :: _, ok => cases a <;> exact ok.elim
 | [y], ok =>
  cases y <;> try exact ok.elim
  rename_i y
  obtain ⟨yv, rfl, ry⟩ := pK CM
  unfold Rep at rd ry
  subst rd ry
  obtain ⟨t, rfl⟩ := rx
  obtain ⟨u, rfl, ru⟩ := vals1 Ic
  obtain ⟨t', rfl⟩ := ru
  dsimp only [vH] at ok
  by_cases hc : y.length ≠ 0 ∧ z.length + 2 ≤ sizeLine
  ·rw [if_pos hc] at ok
   obtain ⟨hl, hn⟩ := yU ab (aC.strs (Txt.split z y)) ok
   refine nS I.os.2 <| BX (by simpa using hc.1) hc.2 fun l k hlk => fun ht => ?_
   refine ⟨.ref s.heap.objs.size, upd H s.heap.objs.size (.lst ((Txt.split z y).map V.str)), I.laid (t' := k) (fun b o e => Heap.get?_push_of_some _ e) (Nat.le_refl _) ?_, rfl, hn _ (I.hok.fresh (Nat.le_refl _))⟩
   exact ⟨hl, strValues l, 0, by rw [← hlk]; exact Vals.strs l, Heap.get?_push_size _ rfl⟩
  ·rw [if_neg hc] at ok; exact ok.elim
noncomputable def strsOf : List D → Option (List Str)
 | [] => some []
 | .str x :: r => (strsOf r).map (x :: ·)
 | _ :: _ => none
theorem p8 {K : PySem.W.Frag} {mg : Str → Option Value} {ρ : List Addr} {H : Hp} : ∀ {ds : List D} {vs : List V} {us : List Value} {ts : List Str}, aC K mg ρ H ds vs → Vals vs us → strsOf ds = some ts → ∃ l : List (Str × Tok), us = strValues l ∧ l.map (·.1) = ts
 | [], vs, us, ts, r, v, e => by unfold aC at r; subst r; cases v; cases e; exact ⟨[], rfl, rfl⟩
 | d :: ds, vs, us, ts, r, v, e => by
  unfold aC at r
  obtain ⟨x, r', rfl, h1, h2⟩ := r
  cases v with
  | cons v1 v2 =>
   cases d <;> try (cases e; done)
   rename_i y
   dsimp only [strsOf] at e
   cases q : strsOf ds with
   | none => rw [q] at e; cases e
   | some ts' =>
    rw [q] at e; cases e
    unfold Rep at h1; subst h1
    obtain ⟨t, rfl⟩ := v1
    obtain ⟨l, rfl, e2⟩ := p8 h2 v2 q
    exact ⟨(y, t) :: l, rfl, by simp [e2]⟩
noncomputable def yf : D → List D → M D
 | .str x, [d] => fun G => match dh G d with
  | some (.lst xs) => match strsOf xs with
   | some ts => if JoinOk x ts = true then .ok (.str (Txt.join x ts)) G else .stuck
   | none => .stuck
  | _ => .stuck
 | _, _ => M.stop
theorem FD : DI X "str.join" (KO X EE yf) := by
 intro pins s σ0 H x xs v us Q I rx Ic ⟨σ, τ, ρ, G, d, ds, ab, rd, CM, ok⟩
 cases d <;> try exact ok.elim
 rename_i z
 match ds, ok with
 | [], ok => exact ok.elim
 | _ :: _ :: _, ok => exact ok.elim
 | [y], ok =>
  obtain ⟨yv, rfl, ry⟩ := pK CM
  unfold Rep at rd
  subst rd
  obtain ⟨t, rfl⟩ := rx
  obtain ⟨u, rfl, ru⟩ := vals1 Ic
  dsimp only [yf] at ok
  cases q : dh G y with
  | none => rw [q] at ok; exact ok.elim
  | some sk =>
   rw [q] at ok
   cases sk with
   | tup _ => exact ok.elim
   | str _ => exact ok.elim
   | lst ys =>
    dsimp only at ok
    cases qs : strsOf ys with
    | none => rw [qs] at ok; exact ok.elim
    | some ts =>
     rw [qs] at ok
     dsimp only at ok
     by_cases hj : JoinOk z ts = true
     ·rw [if_pos hj] at ok
      obtain ⟨p, vs, rfl, sq, rs⟩ := e9 (pins := pins) (σ0 := σ0) (s := s) ab.hp ry q
      cases ru
      obtain ⟨its, rv, pl, _⟩ := I.list sq
      obtain ⟨l, rfl, el⟩ := p8 rs rv qs
      have hq := ok (.str _) H ρ .refl ab (by unfold Rep; rfl)
      exact nS I.os.2 <| SC.join pl.isList el hj fun t' k => fun ht => ⟨.str _, H, I.tok k, ⟨_, rfl⟩, hq⟩
     ·rw [if_neg hj] at ok; exact ok.elim
noncomputable def kE : List D → M D
 | [d] => fun G => match dh G d with
  | some (.lst xs) => kW xs G
  | some (.tup xs) => .ok d G
  | _ => .stuck
 | _ => M.stop
theorem D9 : gB X (.type "tuple") (Jf X EE kE) := by
 intro pins s σ0 H xs us Q I r ⟨σ, τ, ρ, G, ds, ab, CM, ok⟩
 match ds, ok with
 | [], ok => exact ok.elim
 | _ :: _ :: _, ok => exact ok.elim
 | [y], ok =>
  obtain ⟨yv, rfl, ry⟩ := pK CM
  dsimp only [kE] at ok
  cases q : dh G y with
  | none => rw [q] at ok; exact ok.elim
  | some sk =>
   rw [q] at ok
   cases sk with
   | str _ => exact ok.elim
   | tup ys =>
    obtain ⟨p, vs, rfl, sq, rs⟩ := jI ry q
    exact pI pins s σ0 H _ us Q I r ⟨p, vs, rfl, .inr ⟨sq, ok _ H ρ .refl ab ry⟩⟩
   | lst ys =>
    obtain ⟨p, vs, rfl, sq, rs⟩ := e9 (pins := pins) (σ0 := σ0) (s := s) ab.hp ry q
    exact pI pins s σ0 H _ us Q I r ⟨p, vs, rfl, .inl ⟨sq, fun l hl => (yV ab rs ok).2 l hl⟩⟩
variable {x : Str} {p pos apos cpos : Pos} {e o : Expr} {es : List Expr} {m : DS → M (List D)} {mo : DS → M D}
theorem FE (ho : QE X EE o mo) (ha : QA X EE [e] m) (hb : p7 o = true := by rfl) (h : aJ [e] = true := by rfl) (hline : (apos.endLine == cpos.line) = true := by rfl) : QE X EE (.Call (.Attribute o "split" apos) [e] [] cpos) (dY "str" vH mo m) := by
 have h' : fm e = true ∧ aJ [] = true := by simpa [aJ] using h
 exact Fo F.plainAttrs_str F.slot_str_split F.type_str_split D8 ho ha (iM hb _ _) (sO h (by simp)) hline (bZ h'.1 _ _) (d7 (es := []) rfl)
theorem Im (ho : QE X EE o mo) (ha : QA X EE [e] m) (hb : p7 o = true := by rfl) (h : aJ [e] = true := by rfl) (hline : (apos.endLine == cpos.line) = true := by rfl) : QE X EE (.Call (.Attribute o "join" apos) [e] [] cpos) (dY "str" yf mo m) := by
 have h' : fm e = true ∧ aJ [] = true := by simpa [aJ] using h
 exact Fo F.plainAttrs_str F.slot_str_join F.type_str_join FD ho ha (iM hb _ _) (sO h (by simp)) hline (bZ h'.1 _ _) (d7 (es := []) rfl)
theorem boot_tuple : bootBuiltins "tuple" = some (.type "tuple") := by decide +kernel
theorem vI (hm : X.mg "tuple" = none) (hg : Gl X "tuple") (ha : QA X EE [e] m) (h : aJ [e] = true := by rfl) : QE X EE (.Call (.Name "tuple" p) [e] [] pos) (aH kE m) := yc D9 hm hg boot_tuple ha (by decide) (by decide) h
noncomputable def zg (i n : Nat) (Aj : Str → Option (List D → M D)) (m : DS → M (List D)) : DS → M D := fun τ G => match τ[i]? with
 | some (some (.fn y)) => match Aj y with
  | some mf => bD n mf m τ G
  | none => .stuck
 | _ => .stuck
theorem FF {CX : wQ} {i n : Nat} {Aj : Str → Option (List D → M D)} (hN : X.N[i]? = some x) (hv : JJ X.env.scope x) (hd : (x == ("__debug__" : Str)) = false ∧ (x == ("__classdict__" : Str)) = false)
  (hF : ∀ y mf, Aj y = some mf → ∃ k f fd ps, aR X.prog X.w X.K X.mg X.base CX k f fd ps (aN X.K X.mg n mf) ∧ gn k X.A ∧ X.mg y = some (.ref f) ∧ PySem.W.keepIn X.K (.ref f) = true ∧ Binds X.K fd ps []) (hx : LQ CX X EE)
  (ha : QA X EE (e :: es) m) (h : aJ (e :: es) = true := by rfl) : QE X EE (.Call (.Name x p) (e :: es) [] pos) (zg i n Aj m) := by
 have h' : fm e = true ∧ aJ es = true := by simpa [aJ] using h
 intro pins s σ H Q I hq
 obtain ⟨τ, ρ, G, ab, ok⟩ := hq
 unfold zg at ok
 cases q : τ[i]? with
 | none => rw [q] at ok; exact ok.elim
 | some od =>
  cases od with
  | none => rw [q] at ok; exact ok.elim
  | some d =>
   rw [q] at ok
   cases d <;> try exact ok.elim
   rename_i y
   dsimp only at ok
   cases qt : Aj y with
   | none => rw [qt] at ok; exact ok.elim
   | some mf =>
    rw [qt] at ok
    obtain ⟨k, f, fd, ps, F, hr, hm, hk, hb⟩ := hF y mf qt
    obtain ⟨v, ev, rv⟩ := ab.st.2 i (.fn y) q
    unfold Rep at rv
    obtain ⟨a, rfl, ha'⟩ := rv
    rw [hm] at ha'
    cases ha'
    obtain ⟨τ1, ρ1, G1, Al, Je⟩ := vm (k := fun _ ds => if ds.length = n then mf ds else M.stop) ⟨τ, ρ, G, ab, ok⟩
    refine wpAny_Call_Name_kw (wpAny_mono (EF hN hv hd.1 hd.2 pins s σ H (fun v' H' => v' = .ref f ∧ H' = H) I ⟨_, ev, rfl, rfl⟩) (fun u s0 hu => ?_) fun _ _ z => z)
    obtain ⟨v', H', I0, r0, rfl, rfl⟩ := hu
    cases r0
    refine PySem.W.callWith_K (h₀ := X.base) I0.ok.mod.JI hk (iB (ha pos pins s0 σ H' _ I0 ⟨τ1, ρ1, G1, Al, Je⟩) fun us s1 ⟨vs, H1, I1, r, q⟩ => ⟨I1.Ak, ?_⟩) (bZ h'.1 _ _) (d7 h'.2)
    obtain ⟨τ2, ρ2, G2, ds, eL, rs, aX⟩ := q
    by_cases hn : ds.length = n
    ·rw [if_pos hn] at aX
     exact y9 F hr hb hx I1 r eL rs hn aX
    ·rw [if_neg hn] at aX
     exact aX.elim
noncomputable def K6 (c : Str) (m : DS → M D) : DS → M D := fun τ => if c.length ≤ sizeLine then (m τ).bind fun d => match d with
 | .str y => if (c ++ y).length ≤ sizeLine ∧ y.length ≤ sizeLine then M.ret (.str (c ++ y)) else M.stop
 | _ => M.stop else M.stop
theorem K7 {c : Str} {j : Nat} {p1 p2 : Pos} (ha : QE X EE e mo) : QE X EE (.JoinedStr [.Constant (.str c) j p1, .FormattedValue e (-1) none p2] pos) (K6 c mo) := by
 intro pins s σ H Q I h
 have emp : Str.empty ++ c = c := by
  cases c with
  | mk cs => show Str.mk (#[] ++ cs) = _; simp
 obtain ⟨τ0, ρ0, G0, M5, M9⟩ := h
 unfold K6 at M9
 by_cases hc : c.length ≤ sizeLine
 ·rw [if_pos hc] at M9
  have h1 : dF X.K X.mg EE (fun τ => (mo τ).bind fun d => match d with
    | .str y => if (c ++ y).length ≤ sizeLine ∧ y.length ≤ sizeLine then M.ret (.str (c ++ y)) else M.stop
    | _ => M.stop) σ H Q := ⟨τ0, ρ0, G0, M5, M9⟩
  have h2 := jM (k := fun _ d => match d with
    | .str y => if (c ++ y).length ≤ sizeLine ∧ y.length ≤ sizeLine then M.ret (.str (c ++ y)) else M.stop
    | _ => M.stop) h1
  refine wpAny_JoinedStr ?_
  show wpAny _ _ (eval (.Constant (.str c) j p1) X.env) _ _ s
  refine Calls.Constant_str ⟨c, _, rfl, by rw [emp]; exact hc, ?_⟩
  rw [emp]
  show wpAny _ _ (eval (.FormattedValue e (-1) none p2) X.env) _ _ _
  refine wpAny_FormattedValue_plain (wpAny_mono (ha pins { s with toks := s.toks + 1 } σ H _ (I.tok _) h2) (fun u s1 hu => ?_) fun _ _ z => z)
  obtain ⟨v, H1, I1, r1, τ, ρ, G, d, ab, rd, ok⟩ := hu
  cases d <;> try exact ok.elim
  rename_i y
  unfold Rep at rd; subst rd
  obtain ⟨t, rfl⟩ := r1
  dsimp only at ok
  by_cases hy : (c ++ y).length ≤ sizeLine ∧ y.length ≤ sizeLine
  ·rw [if_pos hy] at ok
   have hq := ok (.str (c ++ y)) H1 ρ .refl ab (by unfold Rep; rfl)
   refine wpAny_formatField_str ⟨y, _, rfl, hy.1, hy.1, .str _, H1, I1.tok _, ⟨_, rfl⟩, hq⟩ ⟨y, _, rfl, hy.1, hy.1, .str _, H1, I1.tok _, ⟨_, rfl⟩, hq⟩ hy.2
  ·rw [if_neg hy] at ok; exact ok.elim
 ·rw [if_neg hc] at M9; exact M9.elim
end
end L3
end
section
set_option Elab.async false
set_option linter.all false
set_option maxRecDepth 100000
namespace L3
open PySem PySem.Spec L2 Builtin Builtin.Str
section
variable {X : Cx} {EE : gf}
noncomputable def zh (y z : Str) : D → M D
 | .str x => if (y == z) = false ∧ x.length + (x.length + 1) * z.length ≤ 16777216 then M.ret (.str (Txt.replace x y z)) else M.stop
 | _ => M.stop
noncomputable def LU (f : D → M D) (m : DS → M D) : DS → M D := fun τ => (m τ).bind f
variable {o : Expr} {mo : DS → M D} {y z : Str} {j1 j2 : Nat} {p1 p2 apos cpos : Pos}
theorem zj (ho : QE X EE o mo) (hb : p7 o = true := by rfl) (hline : (apos.endLine == cpos.line) = true := by rfl) : QE X EE (.Call (.Attribute o "replace" apos) [.Constant (.str y) j1 p1, .Constant (.str z) j2 p2] [] cpos) (LU (zh y z) mo) := by
 intro pins s σ H Q I h
 have h2 := jM (k := fun _ => zh y z) h
 have hst : starEach [.Constant (.str y) j1 p1, .Constant (.str z) j2 p2] X.env = [(false, eval (.Constant (.str y) j1 p1) X.env), (false, eval (.Constant (.str z) j2 p2) X.env)] := by
  rw [bZ rfl, bZ rfl]; rfl
 refine wpAny_Call_method_late (iM hb _ _) (sO (es := [.Constant (.str y) j1 p1, .Constant (.str z) j2 p2]) rfl (by simp)) hline rfl (iB (ho pins s σ H _ I h2) fun v s1 hv => ?_)
 obtain ⟨xv, H1, I1, r1, τ, ρ, G, d, ab, rd, ok⟩ := hv
 cases d <;> try exact ok.elim
 rename_i x
 dsimp only [zh] at ok
 by_cases hc : (y == z) = false ∧ x.length + (x.length + 1) * z.length ≤ 16777216
 ·rw [if_pos hc] at ok
  unfold Rep at rd; subst rd
  obtain ⟨t, rfl⟩ := r1
  have hq := ok (.str (Txt.replace x y z)) H1 ρ .refl ab (by unfold Rep; rfl)
  obtain ⟨g1, g2⟩ := yR I1 (x := .str x) (v := .str x t) ⟨t, rfl⟩ (T := "str") rfl
  refine ⟨"str", "str.replace", F.plainAttrs_str, F.slot_str_replace, F.type_str_replace, g1, g2, ?_⟩
  rw [hst]
  refine Calls.callWith_builtin (by rfl) (Calls.evalArgs_plain ?_)
  refine Calls.spliced_cons (Calls.Constant_str (k := j1) (pos := p1) (Calls.spliced_cons (Calls.Constant_str (k := j2) (pos := p2) (Calls.spliced_nil ?_))))
  show wpAny _ _ (call (.builtin "str.replace") [.str x t, .str y s1.toks, .str z (s1.toks + 1)]) _ _ _
  exact nS (Nat.succ_pos _) (SC.replace (Nat.ne_of_gt I1.os.2) (Nat.succ_ne_zero _) (Nat.ne_of_lt (Nat.lt_succ_self _)) hc.1 hc.2 fun t' k => fun ht => ⟨.str _, H1, I1.tok k (ht := ht), ⟨_, rfl⟩, hq⟩)
 ·rw [if_neg hc] at ok; exact ok.elim
end
section
theorem uH (a : Addr) (items : Array Value) (n : Nat) (dd : Option Addr) (sl : Array (Option Value)) (x : Value) (f : Value → Bool) (j : Nat) (hj : j < items.size) (hit : f items[j] = true) (hno : ∀ m (hm : m < items.size), m < j → f items[m] = false) (he : ∀ y ∈ items, MeetsSeq.EqGives y x (f y)) :
  Meets (Builtin.«tuple.index» ⟨[.ref a, x], []⟩) (fun _ R s => s.heap.get? a = some { cls := .type "tuple", dict := dd, data := .seq items n, slots := sl } ∧ R (.ok (.ret (.int j s.toks))) { s with toks := s.toks + 1 }) := by
 refine .of_wp fun prog w A R s h => ?_
 obtain ⟨hp, g, d, tk, os⟩ := s
 obtain ⟨hl, h⟩ := h
 wp_walk using wpAny_loadPart' hl
 refine (show wpAny (model prog w) A.in1 (forIn ([:min items.size items.size] : Std.Legacy.Range) ((none, ()) : Option Fin × Unit) (fun (i : Nat) __s => match items[i]? with
  | some y => (do
   let b ← eqBool y x
   if b = true then (do let r ← retInt (i : Int); pure (ForInStep.done (some r, ()))) else pure (ForInStep.yield (none, ())))
  | _ => pure (ForInStep.yield (none, ())))) _ _ _ from ?_)
 rw [Std.Legacy.Range.forIn_eq_forIn_range']
 have hsz : ([:min items.size items.size] : Std.Legacy.Range).size = items.size := by simp [Std.Legacy.Range.size]
 rw [hsz]
 refine wpAny_forIn_list _ (fun l b s' => b = (none, ()) ∧ s' = ⟨hp, g, d, tk, os⟩ ∧ ∃ i, i ≤ j ∧ l = List.range' i (items.size - i) 1) _ ?_ ?_ _ _ ⟨rfl, rfl, 0, Nat.zero_le _, rfl⟩
 ·rintro i rest b s' ⟨rfl, rfl, k, hk, hl2⟩
  obtain ⟨m, hm⟩ : ∃ m, items.size - k = m + 1 := ⟨items.size - k - 1, by omega⟩
  rw [hm, List.range'_succ] at hl2
  obtain ⟨rfl, rfl⟩ := List.cons.inj hl2
  have hlt : i < items.size := by omega
  rw [Array.getElem?_eq_getElem hlt]
  dsimp only
  refine wpAny_bind (he _ (Array.getElem_mem hlt) prog w _ _ _ _ ?_)
  by_cases hij : i = j
  ·subst hij
   rw [hit]
   wp_walk
   exact ⟨_, rfl, h⟩
  ·rw [hno i hlt (by omega)]
   wp_walk
   exact ⟨rfl, rfl, i + 1, by omega, by rw [show items.size - (i + 1) = m by omega]⟩
 ·rintro b s' ⟨rfl, rfl, k, hk, hl2⟩
  have : items.size - k ≠ 0 := by omega
  obtain ⟨m, hm⟩ : ∃ m, items.size - k = m + 1 := ⟨items.size - k - 1, by omega⟩
  rw [hm, List.range'_succ] at hl2
  cases hl2
end
section
variable {X : Cx} {EE : gf}
noncomputable def tV (y : Str) : List D → Option Nat
 | [] => none
 | .str x :: r => if x = y then some 0 else (tV y r).map (· + 1)
 | _ :: _ => none
noncomputable def p9 : D → List D → M D
 | .tup xs, [.str y] => fun G => match strsOf xs, tV y xs with
  | some _, some j => .ok (.int j) G
  | _, _ => .stuck
 | _, _ => M.stop
theorem vJ {y : Str} : ∀ {ds : List D} {l : List (Str × Tok)} {j : Nat}, strsOf ds = some (l.map (·.1)) → tV y ds = some j → ∃ hj : j < (strValues l).length, (Value.isStrOf y (strValues l)[j] = true) ∧ ∀ m (hm : m < (strValues l).length), m < j → Value.isStrOf y (strValues l)[m] = false
 | [], l, j, _, h => nomatch h
 | d :: ds, l, j, e, h => by
  cases d <;> try (cases e; done)
  rename_i x
  dsimp only [strsOf] at e
  cases q : strsOf ds with
  | none => rw [q] at e; cases e
  | some ts =>
   rw [q] at e
   cases l with
   | nil => cases e
   | cons p l =>
    have e' : x = p.1 ∧ ts = l.map (·.1) := by simpa using e
    obtain ⟨rfl, rfl⟩ := e'
    dsimp only [tV] at h
    by_cases hx : p.1 = y
    ·rw [if_pos hx] at h; cases h
     exact ⟨by simp [strValues], by simp [strValues, Value.isStrOf, hx], fun m _ hm => absurd hm (Nat.not_lt_zero _)⟩
    ·rw [if_neg hx] at h
     cases qi : tV y ds with
     | none => rw [qi] at h; cases h
     | some i =>
      rw [qi] at h; cases h
      obtain ⟨h1, h2, h3⟩ := vJ (l := l) q qi
      refine ⟨by simpa [strValues] using h1, by simpa [strValues] using h2, fun m hm hlt => ?_⟩
      cases m with
      | zero => simpa [strValues, Value.isStrOf] using hx
      | succ m => simpa [strValues] using h3 m (by simpa [strValues] using hm) (Nat.lt_of_succ_lt_succ hlt)
theorem Ea : DI X "tuple.index" (KO X EE p9) := by
 intro pins s σ0 H x xs v us Q I rx Ic ⟨σ, τ, ρ, G, d, ds, ab, rd, CM, ok⟩
 cases d <;> try exact ok.elim
 rename_i zs
 match ds, ok with
 | [], ok => exact ok.elim
 | a :: _ :: _, ok => cases a <;> exact ok.elim
 | [y], ok =>
  cases y <;> try exact ok.elim
  rename_i y
  obtain ⟨yv, rfl, ry⟩ := pK CM
  unfold Rep at rd ry
  obtain ⟨p, vs, rfl, sq, rs⟩ := rd
  subst ry
  cases rx
  obtain ⟨u, rfl, ru⟩ := vals1 Ic
  obtain ⟨t', rfl⟩ := ru
  dsimp only [p9] at ok
  cases q1 : strsOf zs with
  | none => rw [q1] at ok; exact ok.elim
  | some ts =>
   cases q2 : tV y zs with
   | none => rw [q1, q2] at ok; exact ok.elim
   | some j =>
    rw [q1, q2] at ok
    have hq := ok (.int j) H ρ .refl ab (by unfold Rep; rfl)
    obtain ⟨its, rv, ⟨ob, e1, e2, n, e3⟩, _⟩ := I.tuple sq
    obtain ⟨l, rfl, rfl⟩ := p8 rs rv q1
    obtain ⟨h1, h2, h3⟩ := vJ q1 q2
    obtain ⟨c, dd, dt, sl⟩ := ob
    dsimp only at e2 e3
    subst e2 e3
    refine call_meets F.slot_tuple_index (show s.TypeIs (.ref p) "tuple" from ⟨_, e1, rfl⟩) F.entry_tuple_index (F.args_tuple_index_2 _ _) (uH p (strValues l).toArray n dd sl (.str y t') (Value.isStrOf y) j (by simpa using h1) (by simpa using h2) (fun m hm hlt => by simpa using h3 m (by simpa using hm) hlt) fun z hz => ?_) ⟨e1, ⟨.int j, H, I.tok _, ⟨_, rfl⟩, hq⟩⟩
    have hz' : z ∈ strValues l := by simpa using hz
    obtain ⟨pp, _, rfl⟩ := List.mem_map.mp hz'
    intro prog w A E s Q hQ
    refine wpAny_eqBool_str ?_
    have e : Value.isStrOf y (.str pp.1 pp.2) = decide (pp.1 = y) := by
     by_cases hc : pp.1 = y
     ·simp [Value.isStrOf, hc]
     ·simp [Value.isStrOf, hc]
    rw [← e]
    exact hQ
variable {p pos apos cpos : Pos} {e o : Expr} {es : List Expr} {m : DS → M (List D)} {mo : DS → M D}
noncomputable def Jo (K : PySem.W.Frag) (mg : Str → Option Value) (x : Str) : Prop := ∃ q ob, mg x = some (.ref q) ∧ K.lookup q = some ob ∧ ob.cls = .type "tuple" ∧ ob.dict = none
theorem Eb {x : Str} {d : D} (hD : tS X.K X.mg x d) (hT : Jo X.K X.mg x) (hg : Gl X x) (hdb : (x == ("__debug__" : Str)) = false ∧ (x == ("__classdict__" : Str)) = false) (ha : QA X EE [e] m) (h : aJ [e] = true := by rfl) (hline : (apos.endLine == cpos.line) = true := by rfl) :
  QE X EE (.Call (.Attribute (.Name x p) "index" apos) [e] [] cpos) (aH (fun ds => p9 d ds) m) := by
 have h' : fm e = true ∧ aJ [] = true := by simpa [aJ] using h
 obtain ⟨q, ob, hm, hk, hc, hn⟩ := hT
 obtain ⟨u, v, hm', r, rep⟩ := hD
 rw [hm] at hm'
 cases hm'
 intro pins s σ H Q I hq
 have h2 := vm (k := fun _ ds => p9 d ds) hq
 refine wpAny_Call_method_late (iM (e := .Name x p) rfl _ _) (sO h (by simp)) hline rfl (uN I hg hm ?_ hdb.1)
 refine ⟨"tuple", "tuple.index", F.plainAttrs_tuple, F.slot_tuple_index, F.type_tuple_index, ⟨ob, I.Ak _ _ hk, hc⟩, fun a ea => ?_, ?_⟩
 ·cases ea; exact ⟨ob, I.Ak _ _ hk, hn⟩
 ·have hA := ha cpos pins s σ H _ I h2
  rw [bZ h'.1] at hA ⊢
  refine Calls.callWith_builtin (by rfl) (Calls.evalArgs_plain ?_)
  refine iB hA fun us s2 ⟨vs, H2, I2, r2, q2⟩ => ?_
  obtain ⟨τ, ρ, G, ds, ab, rs, ok⟩ := q2
  exact Ea pins s2 σ H2 v vs (.ref q) us Q I2 r r2 ⟨σ, τ, ρ, G, d, ds, ab, rep ρ H2, rs, ok⟩
end
end L3
end
section
set_option Elab.async false
set_option linter.all false
set_option maxRecDepth 100000
namespace L3
open PySem PySem.Spec L2
noncomputable def Na (CX : wQ) (X : Cx) (n : Nat) : List (Str × (List D → M D)) → Prop
 | [] => True
 | q :: r => (∃ k f fd ps, aR X.prog X.w X.K X.mg X.base CX k f fd ps (aN X.K X.mg n q.2) ∧ gn k X.A ∧ X.mg q.1 = some (.ref f) ∧ PySem.W.keepIn X.K (.ref f) = true ∧ Binds X.K fd ps []) ∧ Na CX X n r
theorem Nb {CX : wQ} {X : Cx} {n : Nat} : ∀ {l : List (Str × (List D → M D))}, Na CX X n l → ∀ (y : Str) (mf : List D → M D), l.lookup y = some mf → ∃ k f fd ps, aR X.prog X.w X.K X.mg X.base CX k f fd ps (aN X.K X.mg n mf) ∧ gn k X.A ∧ X.mg y = some (.ref f) ∧ PySem.W.keepIn X.K (.ref f) = true ∧ Binds X.K fd ps []
 | [], _, _, _, h => nomatch h
 | q :: r, ⟨h1, hr⟩, y, mf, h => by
  obtain ⟨qn, qm⟩ := q
  rw [List.lookup_cons] at h
  cases e : y == qn with
  | true =>
   rw [e] at h
   cases h
   have := eq_of_beq e
   subst this
   exact h1
  | false => rw [e] at h; exact Nb hr y mf h
end L3
namespace L3
open PySem PySem.Spec L2
theorem aE {X : Cx} {EE : gf} {e : Expr} {es : List Expr} {m : DS → M D} {r : DS → M (List D)} (ha : QE X EE e m) (h : fm e = true) (hr : QA X EE es r) : QA X EE (e :: es) (ah m r) := ze ha hr h
theorem fO {X : Cx} {EE : gf} {x : Str} {j : Nat} {pos : Pos} {es : List Expr} {r : DS → M (List D)} (hr : QA X EE es r) : QA X EE (.Constant (.str x) j pos :: es) (ah (eC (.str x)) r) := ze cZ hr rfl
theorem Io {X : Cx} {EE : gf} {x : Int} {j : Nat} {pos : Pos} {es : List Expr} {r : DS → M (List D)} (hr : QA X EE es r) : QA X EE (.Constant (.int x) j pos :: es) (ah (eC (.int x)) r) := ze ak hr rfl
end L3
end
section
set_option Elab.async false
set_option linter.all false
set_option maxRecDepth 100000
namespace L3
open PySem PySem.Spec L2
end L3
end
section
set_option Elab.async false
set_option linter.all false
set_option maxRecDepth 100000
namespace L3
open PySem PySem.Spec L2
section
variable {X : Cx} {EE : gf} {a b c e o : Expr} {es : List Expr} {ma mb mo : DS → M D} {m : DS → M (List D)} {t : DS → M Bool} {ms : MS} {pos p p2 pos2 apos cpos : Pos}
noncomputable def fuel : Nat := 100000
end
end L3
end
section
set_option Elab.async false
set_option linter.all false
set_option maxRecDepth 100000
namespace L3
open PySem PySem.Spec L2
noncomputable abbrev View := DH → Nat → Option (Option D)
noncomputable abbrev MI := DS → M (Nat × View)
section
variable {X : Cx} {EE : gf} {tg iter a b : Expr} {g : wO} {mi : MI} {ms : MS} {pos p pc : Pos} {m : DS → M (List D)}
variable {gO : D → Option (List D)} {ow : V → Hp → List V → Prop} {xs : List Str} {ks : List Bool} {tt : DS → M Bool} {te : DS → M D}
variable {scope : Scope} {elt : Expr} {ifs : List Expr}
end
end L3
end
section
set_option Elab.async false
set_option linter.all false
set_option maxRecDepth 100000
namespace L3
open PySem PySem.Spec L2
theorem lz {n : Nat} (h : n ≤ 2000000) : n ≤ sizeLine := by rw [sizeLine_eq]; omega
theorem BY (A : DH) (x : DO) (B : DH) : (A ++ x :: B)[A.length]? = some x := by simp
theorem K8 (A : DH) (x y : DO) (B : DH) : (A ++ x :: y :: B)[A.length + 1]? = some y := by
 rw [List.getElem?_append_right (by omega)]; simp
theorem Jp (A : DH) (x y : DO) (B : DH) : (A ++ x :: B).set A.length y = A ++ y :: B := by
 rw [List.set_append_right _ _ (Nat.le_refl _)]; simp
theorem S3 (A : DH) (x y z : DO) (B : DH) : (A ++ x :: y :: B).set (A.length + 1) z = A ++ x :: z :: B := by
 rw [List.set_append_right _ _ (by omega)]; simp
theorem sQ {G E : DH} {n : Nat} {o : DO} (h : G[n]? = some o) : (G ++ E)[n]? = some o := by
 rw [List.getElem?_append_left (List.getElem?_eq_some_iff.mp h).1]; exact h
theorem j9 (g : Bool) (i j : Int) (G : DH) : nU g (.int i) (.int j) G = .ok (.bl (g ^^ (i == j))) G := by
 simp [nU, BH, nG, PyData.canLay0, PyData.depth, PyData.eqv]
theorem iN (g : Bool) (a b : Str) (G : DH) (ha : PyData.strOk a = true) (hb : PyData.strOk b = true) : nU g (.str a) (.str b) G = .ok (.bl (g ^^ (a == b))) G := by
 simp [nU, BH, nG, PyData.canLay0, PyData.depth, PyData.eqv, ha, hb]
theorem tW (G : DH) : ∀ ws : List Str, dN (nG G deep) (ws.map D.str) = some (ws.map PyData.str)
 | [] => rfl
 | w :: ws => by
  have ih := tW G ws
  simp only [List.map_cons, dN, ih]
  rfl
theorem qV (t : Str) (ws : List Str) (G : DH) (h : PyData.strOk t = true) (hw : PyData.canLayAll0 (ws.map PyData.str) = true) : G5 (.str t) (ws.map D.str) G = some (ws.any (· == t)) := by
 have e1 : nG G deep (.str t) = some (.str t) := rfl
 unfold G5
 rw [e1, tW]
 dsimp only
 have c1 : (PyData.str t).canLay0 = true := by simpa [PyData.canLay0] using h
 have c3 : min (PyData.depthAll (ws.map PyData.str)) (PyData.str t).depth ≤ 580 := by
  have : (PyData.str t).depth ≤ 580 := by simp [PyData.depth]
  omega
 rw [if_pos (by rw [c1, hw]; simpa using c3)]
 simp only [List.any_map]
 congr 1
theorem Ip (a b : Str) : (a ++ b).length = a.length + b.length := by
 show (a.cps ++ b.cps).size = a.cps.size + b.cps.size
 simp
theorem vK {α : Type} {xs : List α} {i : Int} (h0 : 0 ≤ i) (h1 : i < xs.length) : ∃ v, i8 xs i = some v ∧ xs[i.toNat]? = some v := by
 have hi : i.toNat < xs.length := by omega
 refine ⟨xs[i.toNat], ?_, List.getElem?_eq_getElem hi⟩
 have := lS (xs := xs) (j := i.toNat) (v := xs[i.toNat]) (List.getElem?_eq_getElem hi)
 rwa [show ((i.toNat : Nat) : Int) = i by omega] at this
theorem oZ {j : Int} (h0 : 0 ≤ j) (h1 : j < 100000) : kZ [.int j] = some ((List.range' 0 j.toNat).map fun (k : Nat) => .int (0 + (k : Int))) := by
 show (if -(2 ^ 62) ≤ j ∧ j < 2 ^ 62 then some ((List.range j.toNat).map fun (k : Nat) => D.int (0 + (k : Int))) else none) = _
 rw [if_pos ⟨by omega, by omega⟩, List.range_eq_range']
end L3
end
section
set_option Elab.async false
set_option linter.all false
set_option maxRecDepth 100000
namespace L3
open PySem PySem.Spec L2
noncomputable def Res.sq (r : Res) (k : MS) : Res := match r with
 | .nx τ G => k τ G
 | r => r
noncomputable def Out.cs (r : Out Bool) (a b : MS) (τ : DS) : Res := match r with
 | .stuck => .stuck
 | .ok c G => if c = true then a τ G else b τ G
 | .eN c G => .xn c τ G
noncomputable def Out.st (r : Out D) (i : Nat) (τ : DS) : Res := match r with
 | .stuck => .stuck
 | .ok d G => .nx (τ.set i (some d)) G
 | .eN c G => .xn c τ G
noncomputable def Out.xp (r : Out D) (τ : DS) : Res := match r with
 | .stuck => .stuck
 | .ok d G => .nx τ G
 | .eN c G => .xn c τ G
noncomputable def Out.rn (r : Out D) (τ : DS) : Res := match r with
 | .stuck => .stuck
 | .ok d G => .rt d G
 | .eN c G => .xn c τ G
noncomputable def Out.bd {α β : Type} (r : Out α) (k : α → M β) : Out β := match r with
 | .stuck => .stuck
 | .ok a G => k a G
 | .eN c G => .eN c G
noncomputable def Out.sb {α : Type} (r : Out α) (τ : DS) (k : α → DH → Res) : Res := match r with
 | .stuck => .stuck
 | .ok a G => k a G
 | .eN c G => .xn c τ G
noncomputable def Res.fn (r : Res) : Out D := match r with
 | .stuck => .stuck
 | .nx _ G' => .ok .gg G'
 | .rt d G' => .ok d G'
 | .bk _ _ => .stuck
 | .ct _ _ => .stuck
 | .xn c _ G' => .eN c G'
noncomputable def Res.lp (r : Res) (k : MS) : Res := match r with
 | .nx τ G => k τ G
 | .ct τ G => k τ G
 | .bk τ G => .nx τ G
 | r => r
section
variable {m k : MS} {t ta tb : DS → M Bool} {a b : MS} {τ : DS} {G : DH} {e ma mb mo : DS → M D} {i n : Nat} {d : D} {c : XD} {α β : Type} {ml : DS → M (List D)} {f : D → D → M D} {fl : List D → M D}
theorem jb : bP m k τ G = (m τ G).sq k := by
 unfold bP Res.sq
 cases m τ G <;> rfl
theorem ni : (Res.nx τ G).sq k = k τ G := Eq.trans rfl rfl
theorem CU : (Res.rt d G).sq k = .rt d G := Eq.trans rfl rfl
theorem AG : pZ t a b τ G = (t τ G).cs a b τ := by
 unfold pZ fq Out.cs
 cases t τ G <;> rfl
theorem FG : (Out.ok true G).cs a b τ = a τ G := Eq.trans rfl rfl
theorem FH : (Out.ok false G).cs a b τ = b τ G := Eq.trans rfl rfl
theorem sR : cA i e τ G = (e τ G).st i τ := by
 unfold cA fq Out.st
 cases e τ G <;> rfl
theorem yg : (Out.ok d G).st i τ = .nx (τ.set i (some d)) G := Eq.trans rfl rfl
theorem CV : pJ e τ G = (e τ G).xp τ := by
 unfold pJ fq Out.xp
 cases e τ G <;> rfl
theorem Jq : (Out.ok d G).xp τ = .nx τ G := Eq.trans rfl rfl
theorem zk : fF e τ G = (e τ G).rn τ := by
 unfold fF fq Out.rn
 cases e τ G <;> rfl
theorem CW : (Out.ok d G).rn τ = .rt d G := Eq.trans rfl rfl
theorem uU : dQ τ G = .nx τ G := Eq.trans rfl rfl
theorem tX {x : α} {q : α → M β} : (Out.ok x G).bd q = q x G := Eq.trans rfl rfl
theorem b7 {mm : M α} {q : α → M β} : M.bind mm q G = (mm G).bd q := by
 unfold M.bind Out.bd
 cases mm G <;> rfl
theorem yh {x : α} : M.ret x G = .ok x G := Eq.trans rfl rfl
theorem nX : ai i τ G = match τ[i]? with
 | some (some d) => .ok d G
 | _ => .stuck := Eq.trans rfl rfl
theorem BZ : eC d τ G = .ok d G := Eq.trans rfl rfl
theorem vL : aI f ma mb τ G = (ma τ G).bd fun x => (mb τ).bind fun y => f x y := b7
theorem uV : aH fl ml τ G = (ml τ G).bd fl := b7
theorem vM : aB τ G = .ok [] G := Eq.trans rfl rfl
theorem uW : ah ma ml τ G = (ma τ G).bd fun x => (ml τ).bind fun xs => M.ret (x :: xs) := b7
noncomputable def Nc : D → M Bool
 | .bl b => M.ret b
 | _ => M.stop
theorem AH : nV e τ G = (e τ G).bd Nc := by
 unfold nV
 rw [b7]
 unfold Out.bd
 cases e τ G <;> try rfl
theorem vN {b : Bool} : Nc (.bl b) G = .ok b G := Eq.trans rfl rfl
theorem AI {q : D → M Bool} : kD q e τ G = (e τ G).bd q := b7
theorem CY : CI t τ G = (t τ G).bd fun c => M.ret (!c) := b7
theorem FI : BI ta tb τ G = (ta τ G).bd fun c => if c = true then M.ret true else tb τ := b7
theorem CZ : CH ta tb τ G = (ta τ G).bd fun c => if c = true then tb τ else M.ret false := b7
theorem FJ {y : Ty} : AA y e τ G = (e τ G).bd (Az y) := b7
theorem C0 {mf : List D → M D} : bD n mf ml τ G = (ml τ G).bd fun ds => if ds.length = n then mf ds else M.stop := b7
theorem vO {T : String} {g : D → List D → M D} : dY T g mo ml τ G = (mo τ G).bd fun d G => if jP T G d = true then (ml τ G).bd (g d) else .stuck := by
 unfold dY
 rw [b7]
 unfold Out.bd
 cases mo τ G with
 | stuck => rfl
 | eN c G => rfl
 | ok d G' => simp only [b7]; rfl
theorem Jr : Qq t ma mb τ G = (t τ G).bd fun c => if c = true then ma τ else mb τ := b7
theorem o4 {Dw : List D → Option (List D)} {g : wO} {body : MS} : j6 Dw g ml body τ G = (ml τ G).sb τ fun ds G => match Dw ds with
  | some xs => dX g body xs τ G
  | none => .stuck := by
 unfold j6 fq Out.sb
 cases ml τ G <;> rfl
theorem AJ {g : wO} {body : MS} : lW g e body τ G = (e τ G).sb τ fun d G => match d with
  | .obj n => match G[n]? with
   | some (.lst xs) => yZ g body n (xs.length + 1) 0 τ G
   | _ => .stuck
  | .tup xs => dX g body xs τ G
  | .con xs => dX g body xs τ G
  | .str z => dX g body (z.cps.toList.map fun c => .str ⟨#[c]⟩) τ G
  | _ => .stuck := by
 unfold lW fq Out.sb
 cases e τ G <;> rfl
theorem C1 {x : α} {q : α → DH → Res} : (Out.ok x G).sb τ q = q x G := Eq.trans rfl rfl
theorem C2 {gO : D → Option (List D)} {ks : List Bool} {tt : DS → M Bool} {te : DS → M D} : pM gO ks e tt te τ G = (e τ G).bd fun d G => match d with
  | .obj k => match G[k]? with
   | some (.lst xs) => tU gO ks tt te G.length k (xs.length + 1) 0 τ (G ++ [.lst []])
   | _ => .stuck
  | .tup xs => dZ gO ks tt te G.length xs τ (G ++ [.lst []])
  | .con xs => dZ gO ks tt te G.length xs τ (G ++ [.lst []])
  | .str z => dZ gO ks tt te G.length (z.cps.toList.map fun c => .str ⟨#[c]⟩) τ (G ++ [.lst []])
  | _ => .stuck := b7
theorem AK {Dw : List D → Option (List D)} {gO : D → Option (List D)} {ks : List Bool} {tt : DS → M Bool} {te : DS → M D} : sM Dw gO ks ml tt te τ G = (ml τ G).bd fun ds G => match Dw ds with
  | some xs => dZ gO ks tt te G.length xs τ (G ++ [.lst []])
  | none => .stuck := b7
theorem zl {ds : List D} : cj n m ds G = (m (ds.map some ++ List.replicate (n - ds.length) none) G).fn := by
 unfold cj Res.fn
 cases m (ds.map some ++ List.replicate (n - ds.length) none) G <;> rfl
theorem C3 : (Res.rt d G).fn = .ok d G := Eq.trans rfl rfl
theorem Js {lo hi : DS → M (Option Int)} : HR e lo hi τ G = (e τ G).bd fun d => (lo τ).bind fun l => (hi τ).bind fun h => G6 d l h := b7
theorem C4 : xW τ G = .ok none G := Eq.trans rfl rfl
noncomputable def Jt : D → M (Option Int)
 | .int i => M.ret (some i)
 | _ => M.stop
theorem C5 : ng e τ G = (e τ G).bd Jt := by
 unfold ng
 rw [b7]
 unfold Out.bd
 cases e τ G <;> try rfl
theorem C6 {i : Int} : Jt (.int i) G = .ok (some i) G := Eq.trans rfl rfl
noncomputable def Nd : D → M D
 | .int i => M.ret (.int (-i))
 | _ => M.stop
theorem FL : Fd e τ G = (e τ G).bd Nd := by
 unfold Fd
 rw [b7]
 unfold Out.bd
 cases e τ G <;> try rfl
theorem FN {i : Int} : Nd (.int i) G = .ok (.int (-i)) G := Eq.trans rfl rfl
theorem AL {Aj : Str → Option (List D → M D)} : zg i n Aj ml τ G = match τ[i]? with
 | some (some (.fn y)) => match Aj y with
  | some mf => bD n mf ml τ G
  | none => .stuck
 | _ => .stuck := Eq.trans rfl rfl
theorem lg : (Res.nx τ G).lp k = k τ G := Eq.trans rfl rfl
theorem d8 {g : wO} {body : MS} {x : D} {r : List D} {τ1 : DS} (h : g x τ = some τ1) : dX g body (x :: r) τ G = (body τ1 G).lp (dX g body r) := by
 rw [dX, h]
 dsimp only
 unfold Res.lp
 cases body τ1 G <;> rfl
end
end L3
end
section
set_option Elab.async false
set_option linter.all false
set_option maxRecDepth 100000
namespace L3
open PySem PySem.Spec L2
noncomputable def aA (l : List Nat) : Str := ⟨l.toArray⟩
theorem dR (l : List Nat) : (aA l).cps.toList = l := by simp [aA]
theorem FO (s : Str) : aA s.cps.toList = s := by cases s; simp [aA]
theorem qW {a b : Str} (h : a.cps.toList = b.cps.toList) : a = b := by rw [← FO a, ← FO b, h]
noncomputable def bw (c : Nat) : List Nat → List (List Nat)
 | [] => [[]]
 | x :: xs => if x = c then [] :: bw c xs else match bw c xs with
  | p :: ps => (x :: p) :: ps
  | [] => [[x]]
noncomputable def cH (s : List Nat) : List (List Nat) → List Nat
 | [] => []
 | [p] => p
 | p :: q :: ps => p ++ s ++ cH s (q :: ps)
noncomputable def rp (c : Nat) (s : List Nat) (l : List Nat) : List Nat := l.flatMap fun x => if x = c then s else [x]
theorem sS (c : Nat) : ∀ l, bw c l ≠ []
 | [] => by simp [bw]
 | x :: xs => by
  unfold bw
  split
  ·simp
  ·split <;> simp
theorem nY (c : Nat) : ∀ l, c ∉ l → bw c l = [l]
 | [], _ => rfl
 | x :: xs, h => by
  have h1 : ¬ x = c := fun e => h (by simp [e])
  rw [bw, if_neg h1, nY c xs fun z => h (by simp [z])]
theorem gz (c : Nat) : ∀ p l, bw c (p ++ c :: l) = bw c p ++ bw c l
 | [], l => by simp [bw]
 | x :: xs, l => by
  rw [List.cons_append, bw, bw, gz c xs l]
  by_cases h : x = c
  ·rw [if_pos h, if_pos h]; rfl
  ·rw [if_neg h, if_neg h]
   cases e : bw c xs with
   | nil => exact absurd e (sS c xs)
   | cons q qs => rfl
theorem qX (c : Nat) : ∀ ps : List (List Nat), ps ≠ [] → bw c (cH [c] ps) = ps.flatMap (bw c)
 | [], h => absurd rfl h
 | [p], _ => by simp [cH]
 | p :: q :: ps, _ => by
  rw [cH, List.append_assoc, List.singleton_append, gz, qX c (q :: ps) (by simp)]
  simp
theorem vP (c : Nat) (ps : List (List Nat)) (hn : ps ≠ []) (h : ∀ p ∈ ps, c ∉ p) : bw c (cH [c] ps) = ps := by
 rw [qX c ps hn]
 clear hn
 induction ps with
 | nil => rfl
 | cons p ps ih => rw [List.flatMap_cons, nY c p (h p (by simp)), ih fun q hq => h q (by simp [hq])]; rfl
theorem qY (c : Nat) (s : List Nat) : ∀ l, cH s (bw c l) = rp c s l
 | [] => rfl
 | x :: xs => by
  have ih := qY c s xs
  unfold bw rp
  rw [List.flatMap_cons]
  by_cases h : x = c
  ·rw [if_pos h, if_pos h]
   cases e : bw c xs with
   | nil => exact absurd e (sS c xs)
   | cons q qs => rw [e] at ih; rw [cH, ih]; rfl
  ·rw [if_neg h, if_neg h]
   cases e : bw c xs with
   | nil => exact absurd e (sS c xs)
   | cons q qs =>
    rw [e] at ih
    cases qs with
    | nil => rw [cH] at ih ⊢; rw [ih]; rfl
    | cons r rs => rw [cH] at ih ⊢; rw [List.cons_append, List.cons_append, ih]; rfl
theorem mj (y : Str) : ∀ ps : List Str, (y.join ps).cps.toList = cH y.cps.toList (ps.map fun p => p.cps.toList)
 | [] => by
  rw [← StrLaws.glued_eq_join]
  simp [Builtin.Str.glued, cH, Str.empty]
 | p :: ps => by
  rw [← StrLaws.glued_eq_join]
  have key : ∀ (ps : List Str) (a : Array Nat), (List.foldl (fun acc (p : Str) => acc ++ y.cps ++ p.cps) a ps).toList = cH y.cps.toList (a.toList :: ps.map fun p => p.cps.toList) := by
   intro ps
   induction ps with
   | nil => intro a; simp [cH]
   | cons q qs ih =>
    intro a
    rw [List.foldl_cons, ih]
    cases qs with
    | nil => simp [cH]
    | cons r rs => simp [cH]
  simpa [Builtin.Str.glued] using key ps p.cps
theorem FP (x : Str) (c : Nat) : Txt.split x ⟨#[c]⟩ ≠ [] := by
 unfold Txt.split
 split
 ·simp
 ·split
  ·simp
  ·rw [StrLaws.partsBetween_eq]
   obtain ⟨p, r, e⟩ := StrLaws.partsFrom_ne x (Str.mk #[c]).length 0 (Builtin.Str.occurrences x ⟨#[c]⟩ 0 x.length (x.length + 1))
   rw [e]; simp
theorem C7 (x : Str) (c : Nat) : (Txt.split x ⟨#[c]⟩).map (fun p => p.cps.toList) = bw c x.cps.toList := by
 have h1 := congrArg (fun s : Str => s.cps.toList) (StrLaws.join_split x ⟨#[c]⟩)
 rw [mj] at h1
 rw [← h1]
 refine (vP c _ (by simp [FP]) fun p hp => ?_).symm
 obtain ⟨q, hq, rfl⟩ := List.mem_map.mp hp
 exact StrLaws.split_free x c q hq
theorem FQ (x : Str) (c : Nat) : Txt.split x ⟨#[c]⟩ = (bw c x.cps.toList).map aA := by
 rw [← C7, List.map_map]
 conv => lhs; rw [← List.map_id (Txt.split x ⟨#[c]⟩)]
 exact List.map_congr_left fun p _ => (FO p).symm
theorem jK (x z : Str) (c : Nat) : (Txt.replace x ⟨#[c]⟩ z).cps.toList = rp c z.cps.toList x.cps.toList := by
 rw [StrLaws.replace_one, mj, C7, qY]
noncomputable def QJ (t : Str) : List Nat := rp 41 [32, 41, 32] (rp 40 [32, 40, 32] t.cps.toList)
end L3
end
section
set_option Elab.async false
set_option linter.all false
set_option maxRecDepth 100000
namespace L3
open PySem PySem.Spec L2
section
variable {m k mb me : MS} {τ : DS} {G : DH} {e : DS → M D} {c : XD} {x : Str} {ml : DS → M (List D)} {d : D}
theorem Ju {f : D → M D} : LU f e τ G = (e τ G).bd f := b7
noncomputable def Res.tr (r : Res) (mh : XD → MS) (me : MS) : Res := match r with
 | .nx τ' G' => me τ' G'
 | .xn c τ' G' => mh c τ' G'
 | r => r
end
end L3
end
section
set_option Elab.async false
set_option linter.all false
set_option maxRecDepth 100000
namespace L3
open PySem PySem.Spec L2
mutual
noncomputable def D.closed : D → Bool
 | .tup ds => aV ds
 | .con ds => aV ds
 | .obj _ => false
 | .wU _ _ => false
 | _ => true
noncomputable def aV : List D → Bool
 | [] => true
 | d :: r => d.closed && aV r
end
mutual
noncomputable def D.beq : D → D → Bool
 | .gg, .gg => true
 | .bl a, .bl b => a == b
 | .int a, .int b => a == b
 | .str a, .str b => a == b
 | .tup a, .tup b => sU a b
 | .con a, .con b => sU a b
 | .obj a, .obj b => a == b
 | .fn a, .fn b => a == b
 | .wU a x, .wU b y => a == b && sU x y
 | _, _ => false
noncomputable def sU : List D → List D → Bool
 | [], [] => true
 | a :: r, b :: q => a.beq b && sU r q
 | _, _ => false
end
noncomputable def zm : List (Key × D) → List (Key × D) → Bool
 | [], [] => true
 | a :: r, b :: q => decide (a.1 = b.1) && a.2.beq b.2 && zm r q
 | _, _ => false
noncomputable def DO.beq : DO → DO → Bool
 | .lst a, .lst b => sU a b
 | .dead, .dead => true
 | .dct a, .dct b => zm a b
 | _, _ => false
noncomputable def nI : DH → DH → Bool
 | [], [] => true
 | a :: r, b :: q => a.beq b && nI r q
 | _, _ => false
mutual
theorem D.beq_eq : ∀ (a b : D), a.beq b = true → a = b
 | .gg, b, h => by cases b <;> simp_all [D.beq]
 | .bl a, b, h => by cases b <;> simp_all [D.beq]
 | .int a, b, h => by cases b <;> simp_all [D.beq]
 | .str a, b, h => by cases b <;> simp_all [D.beq]
 | .tup a, b, h => by
  cases b <;> try (simp [D.beq] at h; done)
  rename_i y
  rw [qZ a y (by simpa [D.beq] using h)]
 | .con a, b, h => by
  cases b <;> try (simp [D.beq] at h; done)
  rename_i y
  rw [qZ a y (by simpa [D.beq] using h)]
 | .obj a, b, h => by cases b <;> simp_all [D.beq]
 | .fn a, b, h => by cases b <;> simp_all [D.beq]
 | .wU c x, b, h => by
  cases b <;> try (simp [D.beq] at h; done)
  rename_i d y
  have h' : c = d ∧ sU x y = true := by simpa [D.beq] using h
  rw [h'.1, qZ x y h'.2]
theorem qZ : ∀ (a b : List D), sU a b = true → a = b
 | [], b, h => by cases b <;> simp_all [sU]
 | x :: r, b, h => by
  cases b with
  | nil => simp [sU] at h
  | cons y q =>
   have h' : x.beq y = true ∧ sU r q = true := by simpa [sU] using h
   rw [D.beq_eq x y h'.1, qZ r q h'.2]
end
mutual
theorem D.AM : ∀ (a : D), a.beq a = true
 | .gg => rfl
 | .bl a => by simp [D.beq]
 | .int a => by simp [D.beq]
 | .str a => by simp [D.beq]
 | .tup a => by simp [D.beq, lq a]
 | .con a => by simp [D.beq, lq a]
 | .obj a => by simp [D.beq]
 | .fn a => by simp [D.beq]
 | .wU c x => by simp [D.beq, lq x]
theorem lq : ∀ (a : List D), sU a a = true
 | [] => rfl
 | x :: r => by simp [sU, D.AM x, lq r]
end
theorem yi : ∀ (a : List (Key × D)), zm a a = true
 | [] => rfl
 | x :: r => by simp [zm, D.AM x.2, yi r]
theorem C8 : ∀ (a b : List (Key × D)), zm a b = true → a = b
 | [], b, h => by cases b <;> simp_all [zm]
 | x :: r, b, h => by
  cases b with
  | nil => simp [zm] at h
  | cons y q =>
   have h' : (x.1 = y.1 ∧ x.2.beq y.2 = true) ∧ zm r q = true := by simpa [zm] using h
   rw [C8 r q h'.2, Prod.ext h'.1.1 (D.beq_eq _ _ h'.1.2)]
theorem ly : ∀ (a : DH), nI a a = true
 | [] => rfl
 | x :: r => by
  cases x with
  | lst a => simp [nI, DO.beq, lq a, ly r]
  | dead => simp [nI, DO.beq, ly r]
  | dct kv => simp [nI, DO.beq, yi kv, ly r]
theorem q8 : ∀ (a b : DH), nI a b = true → a = b
 | [], b, h => by cases b <;> simp_all [nI]
 | x :: r, b, h => by
  cases b with
  | nil => simp [nI] at h
  | cons y q =>
   have h' : x.beq y = true ∧ nI r q = true := by simpa [nI] using h
   rw [q8 r q h'.2]
   congr 1
   cases x with
   | lst u =>
    cases y with
    | lst v => rw [qZ u v (by simpa [DO.beq] using h'.1)]
    | dead => simp [DO.beq] at h'
    | dct kv => simp [DO.beq] at h'
   | dead =>
    cases y with
    | lst v => simp [DO.beq] at h'
    | dead => rfl
    | dct kv => simp [DO.beq] at h'
   | dct kv =>
    cases y with
    | lst v => simp [DO.beq] at h'
    | dead => simp [DO.beq] at h'
    | dct v => rw [C8 kv v (by simpa [DO.beq] using h'.1)]
section
variable {K : PySem.W.Frag} {mg : Str → Option Value} {H H' : Hp} {ρ ρ' : List Addr} {G G' : DH}
mutual
theorem vQ : ∀ (d : D) (v : V), d.closed = true → Rep K mg ρ H d v → Rep K mg ρ' H d v
 | .gg, v, c, h => by unfold Rep at h ⊢; exact h
 | .bl b, v, c, h => by unfold Rep at h ⊢; exact h
 | .int i, v, c, h => by unfold Rep at h ⊢; exact h
 | .str x, v, c, h => by unfold Rep at h ⊢; exact h
 | .tup ds, v, c, h => by
  unfold Rep at h ⊢
  obtain ⟨a, xs, e, s, r⟩ := h
  exact ⟨a, xs, e, s, iV ds xs (by simpa [D.closed] using c) r⟩
 | .con ds, v, c, h => by
  unfold Rep at h ⊢
  obtain ⟨a, xs, e, s, r⟩ := h
  exact ⟨a, xs, e, s, iV ds xs (by simpa [D.closed] using c) r⟩
 | .obj n, v, c, h => by simp [D.closed] at c
 | .fn x, v, c, h => by unfold Rep at h ⊢; exact h
 | .wU _ _, v, c, h => by simp [D.closed] at c
theorem iV : ∀ (ds : List D) (vs : List V), aV ds = true → aC K mg ρ H ds vs → aC K mg ρ' H ds vs
 | [], vs, c, h => by unfold aC at h ⊢; exact h
 | d :: ds, vs, c, h => by
  have c' : d.closed = true ∧ aV ds = true := by simpa [aV] using c
  unfold aC at h ⊢
  obtain ⟨v, r, e, h1, h2⟩ := h
  exact ⟨v, r, e, vQ d v c'.1 h1, iV ds r c'.2 h2⟩
end
mutual
theorem Rep.back (p : ∃ r, ρ' = ρ ++ r) : ∀ (d : D) (v0 v : V), Rep K mg ρ H d v0 → Rep K mg ρ' H' d v → Rep K mg ρ H' d v
 | .gg, v0, v, h0, h => by unfold Rep at h ⊢; exact h
 | .bl b, v0, v, h0, h => by unfold Rep at h ⊢; exact h
 | .int i, v0, v, h0, h => by unfold Rep at h ⊢; exact h
 | .str x, v0, v, h0, h => by unfold Rep at h ⊢; exact h
 | .tup ds, v0, v, h0, h => by
  unfold Rep at h0 h ⊢
  obtain ⟨a, xs, e, s, r⟩ := h
  obtain ⟨a0, K9, e0, s0, r0⟩ := h0
  exact ⟨a, xs, e, s, aC.back p ds K9 xs r0 r⟩
 | .con ds, v0, v, h0, h => by
  unfold Rep at h0 h ⊢
  obtain ⟨a, xs, e, s, r⟩ := h
  obtain ⟨a0, K9, e0, s0, r0⟩ := h0
  exact ⟨a, xs, e, s, aC.back p ds K9 xs r0 r⟩
 | .obj n, v0, v, h0, h => by
  unfold Rep at h0 h ⊢
  obtain ⟨a, e, q⟩ := h
  obtain ⟨a0, e0, q0⟩ := h0
  obtain ⟨r, rfl⟩ := p
  rw [List.getElem?_append_left (List.getElem?_eq_some_iff.mp q0).1] at q
  exact ⟨a, e, q⟩
 | .fn x, v0, v, h0, h => by unfold Rep at h ⊢; exact h
 | .wU c as, v0, v, h0, h => by unfold Rep at h ⊢; exact h
theorem aC.back (p : ∃ r, ρ' = ρ ++ r) : ∀ (ds : List D) (QK vs : List V), aC K mg ρ H ds QK → aC K mg ρ' H' ds vs → aC K mg ρ H' ds vs
 | [], QK, vs, h0, h => by unfold aC at h ⊢; exact h
 | d :: ds, QK, vs, h0, h => by
  unfold aC at h0 h ⊢
  obtain ⟨v, r, e, h1, h2⟩ := h
  obtain ⟨v0, r0, e0, K1, Vn⟩ := h0
  exact ⟨v, r, e, Rep.back p d v0 v K1 h1, aC.back p ds r0 r Vn h2⟩
end
theorem kP.cut (h : kP K mg H ρ G) (p : ∃ r, ρ' = ρ ++ r) (h' : kP K mg H' ρ' G') (e : G'.take G.length = G) : kP K mg H' ρ G := by
 refine ⟨h.hl, h.nd, fun n o q => ?_⟩
 have hn : n < G.length := (List.getElem?_eq_some_iff.mp q).1
 have q' : G'[n]? = some o := by
  rw [← e, List.getElem?_take] at q
  rw [if_pos hn] at q; exact q
 obtain ⟨a0, e0, r0⟩ := h.ob n o q
 obtain ⟨a, e1, r1⟩ := h'.ob n o q'
 have ea : a = a0 := by
  obtain ⟨r, rfl⟩ := p
  rw [List.getElem?_append_left (by rw [h.hl]; exact hn), e0] at e1
  exact (Option.some.inj e1).symm
 subst ea
 refine ⟨a, e0, ?_⟩
 cases o with
 | dead => exact r1
 | dct kv =>
  obtain ⟨xs, e2, rs⟩ := r1
  obtain ⟨K9, _, QL⟩ := r0
  exact ⟨xs, e2, aC.back p _ K9 xs QL rs⟩
 | lst ds =>
  obtain ⟨xs, e2, rs⟩ := r1
  obtain ⟨K9, _, QL⟩ := r0
  exact ⟨xs, e2, aC.back p ds K9 xs QL rs⟩
theorem uX {a : Addr} {o : Obj} {xs : List V} (e : H a = some (.lst xs)) (ρ : List Addr) : fH K H (upd H a (.nc o (.lst xs))) ρ ρ := by
 refine ⟨fun b zs h => ?_, fun b zs h => ?_, ⟨[], by simp⟩, fun b φ h => by rw [bu (kQ h e (by intro z; cases z))]; exact h⟩
 ·rcases h with (h | ⟨q, h⟩) | h
  ·exact .inl (.inl (by rw [bu (kQ h e (by intro z; cases z))]; exact h))
  ·exact .inl (.inr ⟨q, by rw [bu (kQ h e (by intro z; cases z))]; exact h⟩)
  ·exact .inr h
 ·rcases h with ⟨q, h⟩ | h
  ·exact .inl ⟨q, by rw [bu (kQ h e (by intro z; cases z))]; exact h⟩
  ·exact .inr h
theorem kP.nc {n : Nat} {a : Addr} {o : Obj} {xs : List V} (h : kP K mg H ρ G) (hn : ρ[n]? = some a) (e : H a = some (.lst xs)) : kP K mg (upd H a (.nc o (.lst xs))) ρ (G.set n .dead) := by
 have f : fH K H (upd H a (.nc o (.lst xs))) ρ ρ := uX e ρ
 refine ⟨by simp [h.hl], h.nd, fun m ob q => ?_⟩
 by_cases hm : n = m
 ·subst hm
  rw [List.getElem?_set, if_pos rfl] at q
  split at q
  ·cases q
   exact ⟨a, hn, _, gm⟩
  ·cases q
 ·rw [List.getElem?_set_ne hm] at q
  obtain ⟨b, e1, r'⟩ := h.ob m ob q
  have hb : b ≠ a := by
   rintro rfl
   obtain ⟨h1, GZ⟩ := List.getElem?_eq_some_iff.mp hn
   obtain ⟨h2, G4⟩ := List.getElem?_eq_some_iff.mp e1
   exact hm ((List.getElem_inj h.nd).mp (GZ.trans G4.symm))
  exact ⟨b, e1, r'.mono f fun u q => by rw [bu hb]; exact q⟩
end
section
variable {X : Cx} {EE : gf}
theorem C9 {pins : List (Addr × Obj)} {σ : L2.St} {H : Hp} {s : Shared} {a : Addr} {xs : List V} (I : Inv X pins σ H s) (e : H a = some (.lst xs)) : ∃ o, Inv X pins σ (upd H a (.nc o (.lst xs))) s := by
 obtain ⟨z, its, n, r, hg⟩ := I.hok a _ e
 refine ⟨_, I.un (H' := upd H a (.nc { cls := .type "list", data := .seq its.toArray n } (.lst xs))) (h' := s.heap) (t' := s.toks) ⟨fun b o q _ _ _ => q, fun b o q _ _ _ => ⟨o.slots, q⟩, fun b o q hn _ => ?_, fun b o q _ => ⟨o, q⟩, fun b ys q => ?_, fun b o u q => ?_, fun b ps q => ⟨#[], ?_⟩⟩ fun b u q => ?_⟩
 ·rw [bu (by rintro rfl; rw [e] at hn; cases hn)]; exact hn
 ·rw [bu (kQ q e (by intro z; cases z))]; exact q
 ·rw [bu (kQ q e (by intro z; cases z))]; exact q
 ·rw [bu (kQ q e (by intro z; cases z)), q]; simp
 ·have ho : ∀ c y, H c = some (.own y) → upd H a (.nc { cls := .type "list", data := .seq its.toArray n } (.lst xs)) c = some (.own y) := fun c y w => by rw [bu (kQ w e (by intro z; cases z))]; exact w
  have ht : ∀ c ys, H c = some (.tup ys) → upd H a (.nc { cls := .type "list", data := .seq its.toArray n } (.lst xs)) c = some (.tup ys) := fun c ys w => by rw [bu (kQ w e (by intro z; cases z))]; exact w
  by_cases hb : b = a
  ·subst hb
   rw [gm] at q; cases q
   exact ⟨hg, (I.hok b _ e).stay (fun _ _ _ w => w) (fun c w => ho c b w) ht⟩
  ·rw [bu hb] at q
   exact (I.hok b u q).stay (fun _ _ _ w => w) (fun c w => ho c b w) ht
noncomputable def Nf (m : DS → M D) : DS → M D := fun τ G => match m τ G with
 | .ok (.obj n) G' => match G'[n]? with
  | some (.lst ds) => .ok (.con ds) (G'.set n .dead)
  | _ => .stuck
 | r => r
noncomputable def eFn (m : DS → M D) : DS → M D := fun τ G => match m τ G with
 | .ok (.obj n) G' => match G'[n]? with
  | some (.lst ds) => if n = G.length ∧ G'.length = n + 1 ∧ nI (G'.take G.length) G = true ∧ aV ds = true then .ok (.con ds) G else .stuck
  | _ => .stuck
 | r => r
theorem FT {pins : List (Addr × Obj)} {σ : L2.St} {Q Q' : VK} {u : Value} {s : Shared} (h : EP X pins σ Q' u s) (hq : ∀ v H', Q' v H' → Q v H' ∨ ∃ a xs, v = .ref a ∧ H' a = some (.lst xs) ∧ ∀ o, Q v (upd H' a (.nc o (.lst xs)))) : EP X pins σ Q u s := by
 obtain ⟨v, H', I, r, q⟩ := h
 rcases hq v H' q with q | ⟨a, xs, rfl, e, q⟩
 ·exact ⟨v, H', I, r, q⟩
 ·obtain ⟨o, I'⟩ := C9 I e
  exact ⟨_, _, I', r, q o⟩
theorem Jv {e : Expr} {m : DS → M D} (ha : QE X EE e m) : QE X EE e (Nf m) := by
 intro pins s σ H Q I ⟨τ, ρ, G, ab, ok⟩
 dsimp only [Nf] at ok
 cases q : m τ G with
 | stuck => rw [q] at ok; exact ok.elim
 | eN c G' => rw [q] at ok; exact ha pins s σ H Q I ⟨τ, ρ, G, ab, by rw [q]; exact ok⟩
 | ok d G' =>
  rw [q] at ok
  by_cases hd : ∃ n, d = .obj n
  ·obtain ⟨n, rfl⟩ := hd
   dsimp only at ok
   cases g : G'[n]? with
   | none => rw [g] at ok; exact ok.elim
   | some o =>
    rw [g] at ok
    cases o with
    | dead => exact ok.elim
    | dct kv => exact ok.elim
    | lst ds =>
     refine iB (ha pins s σ H (fun v H' => ∃ a xs, v = .ref a ∧ H' a = some (.lst xs) ∧ ∀ o, Q v (upd H' a (.nc o (.lst xs)))) I ⟨τ, ρ, G, ab, ?_⟩) fun u s' h => FT h fun v H' q => .inr q
     rw [q]
     intro v H' ρ' f dm r
     unfold Rep at r
     obtain ⟨a, rfl, hn⟩ := r
     obtain ⟨a', xs, e1, e2, rs⟩ := dm.hp.lst g
     rw [hn] at e1; cases e1
     refine ⟨a, xs, rfl, e2, fun ob => ?_⟩
     have f2 : fH X.K H' (upd H' a (.nc ob (.lst xs))) ρ' ρ' := uX e2 ρ'
     refine ok _ _ ρ' (f.trans f2) ⟨dm.st.mono f2, dm.hp.nc hn e2⟩ ?_
     unfold Rep
     exact ⟨a, xs, rfl, .inl ⟨ob, gm⟩, rs.mono f2⟩
  ·have ok' : lT X.K X.mg EE H σ τ ρ (.ok d G') Q := by
    cases d <;> first | exact ok | exact absurd ⟨_, rfl⟩ hd
   exact ha pins s σ H Q I ⟨τ, ρ, G, ab, by rw [q]; exact ok'⟩
theorem cQ {e : Expr} {m : DS → M D} (ha : QE X EE e m) : QE X EE e (eFn m) := by
 intro pins s σ H Q I ⟨τ, ρ, G, ab, ok⟩
 dsimp only [eFn] at ok
 cases q : m τ G with
 | stuck => rw [q] at ok; exact ok.elim
 | eN c G' => rw [q] at ok; exact ha pins s σ H Q I ⟨τ, ρ, G, ab, by rw [q]; exact ok⟩
 | ok d G' =>
  rw [q] at ok
  by_cases hd : ∃ n, d = .obj n
  ·obtain ⟨n, rfl⟩ := hd
   dsimp only at ok
   cases g : G'[n]? with
   | none => rw [g] at ok; exact ok.elim
   | some o =>
    rw [g] at ok
    cases o with
    | dead => exact ok.elim
    | dct kv => exact ok.elim
    | lst ds =>
     dsimp only at ok
     by_cases hc : n = G.length ∧ G'.length = n + 1 ∧ nI (G'.take G.length) G = true ∧ aV ds = true
     ·rw [if_pos hc] at ok
      obtain ⟨hn0, hl, hb, hcl⟩ := hc
      refine iB (ha pins s σ H (fun v H' => ∃ a xs, v = .ref a ∧ H' a = some (.lst xs) ∧ ∀ o, Q v (upd H' a (.nc o (.lst xs)))) I ⟨τ, ρ, G, ab, ?_⟩) fun u s' h => FT h fun v H' q => .inr q
      rw [q]
      intro v H' ρ' f dm r
      unfold Rep at r
      obtain ⟨a, rfl, hn⟩ := r
      obtain ⟨a', xs, e1, e2, rs⟩ := dm.hp.lst g
      rw [hn] at e1; cases e1
      refine ⟨a, xs, rfl, e2, fun ob => ?_⟩
      have f2 : fH X.K H' (upd H' a (.nc ob (.lst xs))) ρ' ρ' := uX e2 ρ'
      have f3 : fH X.K H (upd H' a (.nc ob (.lst xs))) ρ ρ := ⟨fun b ys w => f2.tup b ys (f.tup b ys w), fun b ys w => f2.con b ys (f.con b ys w), ⟨[], by simp⟩, fun b φ w => f2.ext b φ (f.ext b φ w)⟩
      have hp2 := dm.hp.nc (o := ob) hn e2
      have La : kP X.K X.mg (upd H' a (.nc ob (.lst xs))) ρ G := ab.hp.cut f.pre hp2 (by
       rw [List.take_set_of_le (by omega)]
       exact q8 _ _ hb)
      refine ok _ _ ρ f3 ⟨ab.st.mono f3, La⟩ ?_
      unfold Rep
      exact ⟨a, xs, rfl, .inl ⟨ob, gm⟩, iV ds xs hcl (rs.mono f2)⟩
     ·rw [if_neg hc] at ok; exact ok.elim
  ·have ok' : lT X.K X.mg EE H σ τ ρ (.ok d G') Q := by
    cases d <;> first | exact ok | exact absurd ⟨_, rfl⟩ hd
   exact ha pins s σ H Q I ⟨τ, ρ, G, ab, by rw [q]; exact ok'⟩
end
noncomputable def dw (m : List D → M D) : List D → M D := fun ds G => match m ds G with
 | .ok d G' => if nI (G'.take G.length) G = true ∧ d.closed = true then .ok d G else .stuck
 | .eN c G' => if nI (G'.take G.length) G = true then .eN c G else .stuck
 | .stuck => .stuck
section
variable {K : PySem.W.Frag} {mg : Str → Option Value} {n : Nat} {m : List D → M D}
theorem AN {H H' : Hp} {ρ ρ' : List Addr} (f : fH K H H' ρ ρ') : fH K H H' ρ ρ := ⟨f.tup, f.con, ⟨[], by simp⟩, f.ext⟩
theorem bR (vs : List V) (H : Hp) (Q : VK) (E : XK) (h : aN K mg n (dw m) vs H Q E) : aN K mg n m vs H Q E := by
 obtain ⟨ds, ρ, G, hl, hp, rs, ok⟩ := h
 refine ⟨ds, ρ, G, hl, hp, rs, ?_⟩
 dsimp only [dw] at ok
 cases q : m ds G with
 | stuck => rw [q] at ok; exact ok
 | ok d G' =>
  rw [q] at ok
  dsimp only at ok
  by_cases hc : nI (G'.take G.length) G = true ∧ d.closed = true
  ·rw [if_pos hc] at ok
   intro v H' ρ' f Ji r
   exact ok v H' ρ (AN f) (hp.cut f.pre Ji (q8 _ _ hc.1)) (vQ d v hc.2 r)
  ·rw [if_neg hc] at ok; exact ok.elim
 | eN c G' =>
  rw [q] at ok
  dsimp only at ok
  by_cases hc : nI (G'.take G.length) G = true
  ·rw [if_pos hc] at ok
   intro cls H' ρ' hcl f Ji
   exact ok cls H' ρ hcl (AN f) (hp.cut f.pre Ji (q8 _ _ hc))
  ·rw [if_neg hc] at ok; exact ok.elim
end
end L3
end
section
set_option Elab.async false
set_option linter.all false
set_option maxRecDepth 100000
namespace L3
open PySem PySem.Spec L2
section
variable {X : Cx} {EE : gf} {tg iter a b : Expr} {g : wO} {mi : MI} {ms : MS} {pos p pc : Pos} {m : DS → M (List D)}
end
end L3
end
section
set_option Elab.async false
set_option linter.all false
set_option maxRecDepth 100000
namespace L3
open PySem PySem.Spec L2
section
variable {X : Cx} {EE : gf} {tg iter a b : Expr} {g : wO} {mi : MI} {ms : MS} {pos p pc : Pos} {m : DS → M (List D)}
end
end L3
end
section
set_option Elab.async false
set_option linter.all false
set_option maxRecDepth 100000
namespace L3
open PySem PySem.Spec L2 PyProof.Rows
section
variable {X : Cx} {EE : gf} {a b e : Expr} {ma mb : DS → M D} {pos : Pos}
theorem Iq : kT X (binaryOp .Add) (fun x y H Q => ∃ l b xs zs, x = .ref l ∧ y = .ref b ∧ tP X.K H l xs ∧ tP X.K H b zs ∧ xs.length + zs.length ≤ sizeLine ∧ ∀ p, H p = none → Q (.ref p) (upd H p (.lst (xs ++ zs)))) := by
 intro pins s σ H x y v u Q I rx ry h
 obtain ⟨l, b, xs, zs, rfl, rfl, hH, hB, hz, q⟩ := h
 cases rx
 cases ry
 obtain ⟨its, r, ⟨o, n, e, c, dn, d⟩, hl⟩ := I.list hH
 obtain ⟨its2, r2, ⟨o2, n2, e2, c2, S4, d2⟩, hl2⟩ := I.list hB
 obtain ⟨cls, dd, data, sl⟩ := o
 obtain ⟨Mv, dd2, data2, sl2⟩ := o2
 simp only at c dn d c2 S4 d2
 subst c dn d c2 S4 d2
 have hlen := r.length
 have hlen2 := r2.length
 have ea : its.toArray ++ its2.toArray = (its ++ its2).toArray := by simp
 refine concat_meets ⟨_, e, rfl⟩ ⟨_, e2, rfl⟩ noFill_list_add seq_list_add PySem.F.slot_list_add PySem.F.entry_list_add (PySem.F.args_list_add_2 _ _) (list_addW l b its.toArray its2.toArray n n2 _ _ sl sl2 (by simp only [List.size_toArray]; omega)) ⟨e, e2, ?_⟩
 rw [ea]
 exact ⟨.ref _, _, I.Qg (t' := s.toks) (r.append r2) (by rw [List.length_append]; omega), rfl, q _ I.fresh⟩
theorem Ir : kT X (binaryOp .Add) (fun x y H Q => ∃ a b ys, x = .ref a ∧ y = .ref b ∧ tQ X.K H a [] ∧ tQ X.K H b ys ∧ Q (.ref b) H) := by
 intro pins s σ H x y v u Q I rx ry h
 obtain ⟨a, b, ys, rfl, rfl, ha, hb, q⟩ := h
 cases rx
 cases ry
 obtain ⟨its, r1, p1, _⟩ := I.tuple ha
 obtain ⟨its2, r2, p2, _⟩ := I.tuple hb
 have e0 : its = [] := by cases r1; rfl
 subst e0
 obtain ⟨⟨cls, dd, data, sl⟩, ho, hc, n, hd⟩ := id p1
 obtain ⟨⟨Mv, dd2, data2, sl2⟩, ho2, hc2, n2, hd2⟩ := id p2
 simp only at hc hd hc2 hd2
 subst hc hd hc2 hd2
 exact concat_meets ⟨_, ho, rfl⟩ ⟨_, ho2, rfl⟩ noFill_tuple_add seq_tuple_add PySem.F.slot_tuple_add PySem.F.entry_tuple_add (PySem.F.args_tuple_add_2 _ _)
   (tuple_addW0 a b _ _ n n2 dd dd2 sl sl2 (by simp)) ⟨ho, ho2, ⟨.ref b, H, I, rfl, q⟩⟩
noncomputable def vR (G : DH) : D → Option (List D)
 | .con xs => some xs
 | .obj n => match G[n]? with
  | some (.lst xs) => some xs
  | _ => none
 | _ => none
theorem AO {G : DH} {d : D} {xs : List D} (h : vR G d = some xs) : dh G d = some (.lst xs) := by
 cases d with
 | con ys => cases h; rfl
 | obj n =>
  dsimp only [vR] at h
  dsimp only [dh]
  cases g : G[n]? with
  | none => rw [g] at h; cases h
  | some o =>
   cases o with
   | dead => rw [g] at h; cases h
   | dct kv => rw [g] at h; cases h
   | lst ys => rw [g] at h; cases h; rfl
 | _ => cases h
noncomputable def bH (d e : D) : M D := fun G => match d, e with
 | .int i, .int j => .ok (.int (i + j)) G
 | .str i, .str j => if i.length + j.length ≤ sizeLine then .ok (.str (i ++ j)) G else .stuck
 | .tup [], .tup ys => .ok (.tup ys) G
 | .tup (x :: xs), .tup ys => kW (x :: xs ++ ys) G
 | d, e => match vR G d, vR G e with
  | some xs, some ys => dg (xs ++ ys) G
  | _, _ => .stuck
theorem Iu : kT X (binaryOp .Add) (rD X EE bH) := by
 intro pins s σ0 H x y v u Q I rx ry ⟨σ, τ, ρ, G, d, e, ab, r1, r2, ok⟩
 have lists : ∀ xs ys, vR G d = some xs → vR G e = some ys → lT X.K X.mg EE H σ τ ρ (dg (xs ++ ys) G) Q → wpAny (model X.prog X.w) X.A (binaryOp .Add v u) (EP X pins σ0 Q) X.xe s := fun xs ys h1 h2 ok => by
  obtain ⟨l, vs, rfl, s1, t1⟩ := e9 (pins := pins) (σ0 := σ0) (s := s) ab.hp r1 (AO h1)
  obtain ⟨l2, ws, rfl, s2, t2⟩ := e9 (pins := pins) (σ0 := σ0) (s := s) ab.hp r2 (AO h2)
  obtain ⟨hl, q1⟩ := yU ab (t1.append t2) ok
  rw [List.length_append] at hl
  exact Iq pins s σ0 H _ _ v u Q I rx ry ⟨l, l2, vs, ws, rfl, rfl, s1, s2, hl, q1⟩
 have rest : (lT X.K X.mg EE H σ τ ρ (match vR G d, vR G e with
  | some xs, some ys => dg (xs ++ ys) G
  | _, _ => .stuck) Q) → wpAny (model X.prog X.w) X.A (binaryOp .Add v u) (EP X pins σ0 Q) X.xe s := fun ok => by
  cases h1 : vR G d with
  | none => rw [h1] at ok; exact ok.elim
  | some xs =>
   cases h2 : vR G e with
   | none => rw [h1, h2] at ok; exact ok.elim
   | some ys => rw [h1, h2] at ok; exact lists xs ys h1 h2 ok
 cases d with
 | int i =>
  cases e with
  | int j =>
   unfold Rep at r1 r2; subst r1 r2
   exact J4 pins s σ0 H _ _ v u Q I rx ry ⟨i, j, rfl, rfl, ok _ H ρ .refl ab (by unfold Rep; rfl)⟩
  | _ => exact rest ok
 | str i =>
  cases e with
  | str j =>
   unfold Rep at r1 r2; subst r1 r2
   dsimp only [bH] at ok
   by_cases h : i.length + j.length ≤ sizeLine
   ·rw [if_pos h] at ok
    exact By pins s σ0 H _ _ v u Q I rx ry ⟨i, j, rfl, rfl, h, ok _ H ρ .refl ab (by unfold Rep; rfl)⟩
   ·rw [if_neg h] at ok; exact ok.elim
  | _ => exact rest ok
 | tup xs =>
  cases e with
  | tup ys =>
   have r2' := r2
   unfold Rep at r1 r2
   obtain ⟨p, vs, rfl, s1, t1⟩ := r1
   obtain ⟨q, ws, rfl, s2, t2⟩ := r2
   cases xs with
   | nil =>
    have hv : vs = [] := by have := t1.length; cases vs with | nil => rfl | cons _ _ => simp at this
    subst hv
    exact Ir pins s σ0 H _ _ v u Q I rx ry ⟨p, q, ws, rfl, rfl, s1, s2, ok _ H ρ .refl ab r2'⟩
   | cons x xs =>
    have ok' : lT X.K X.mg EE H σ τ ρ (kW (x :: xs ++ ys) G) Q := ok
    have Vo := t1.append t2
    obtain ⟨hl, q1⟩ := yV ab Vo ok'
    rw [List.length_append] at hl
    have hv : vs ≠ [] := by
     intro z; subst z
     have := t1.length
     simp at this
    refine HA pins s σ0 H _ _ v u Q I rx ry ⟨p, q, vs, ws, rfl, rfl, s1, s2, hv, hl, fun z => ?_, fun z p hp => q1 p hp⟩
    subst z
    have hy : ys = [] := by
     have := t2.length
     cases ys with
     | nil => rfl
     | cons _ _ => simp at this
    subst hy
    unfold kW at ok'
    split at ok'
    ·exact ok' _ H ρ .refl ab (by rw [List.append_nil]; unfold Rep; exact ⟨p, vs, rfl, s1, t1⟩)
    ·exact ok'.elim
  | _ => cases xs <;> exact rest ok
 | _ => exact rest (by cases e <;> exact ok)
theorem bf (ha : QE X EE a ma) (hb : QE X EE b mb) : QE X EE (.BinOp a .Add b pos) (aI bH ma mb) := xU Iu nT ha hb
theorem Lb {pins : List (Addr × Obj)} {Dd D' : Ends} {f : Flow} {s : Shared} (h : SP X pins D' f s) (hb : D'.bk = Dd.bk) (hc : D'.ct = Dd.ct) (hr : D'.rt = Dd.rt)
  (hq : ∀ σ H, D'.nx σ H → Dd.nx σ H ∨ ∃ a xs, H a = some (.lst xs) ∧ ∀ o, Dd.nx σ (upd H a (.nc o (.lst xs)))) : SP X pins Dd f s := by
 obtain ⟨nx, bk, ct, rt⟩ := D'
 subst hb hc hr
 cases f with
 | next =>
  obtain ⟨σ', H', I, q⟩ := h
  rcases hq σ' H' q with q | ⟨a, xs, e, q⟩
  ·exact ⟨σ', H', I, q⟩
  ·obtain ⟨o, I'⟩ := C9 I e
   exact ⟨σ', _, I', q o⟩
 | _ => exact h
theorem Jw {st : Stmt} {i : Nat} {m : DS → M D} (hs : QS X EE st (cA i m)) : QS X EE st (cA i (eFn m)) := by
 intro pins s σ H Dd I ⟨τ, ρ, G, ab, ok⟩
 dsimp only [cA, fq, eFn] at ok
 cases q : m τ G with
 | stuck => rw [q] at ok; exact ok.elim
 | eN c G' => rw [q] at ok; exact hs pins s σ H Dd I ⟨τ, ρ, G, ab, by dsimp only [cA, fq]; rw [q]; exact ok⟩
 | ok d G' =>
  rw [q] at ok
  by_cases hd : ∃ n, d = .obj n
  ·obtain ⟨n, rfl⟩ := hd
   dsimp only at ok
   cases g : G'[n]? with
   | none => rw [g] at ok; exact ok.elim
   | some o =>
    rw [g] at ok
    cases o with
    | dead => exact ok.elim
    | dct kv => exact ok.elim
    | lst ds =>
     dsimp only at ok
     by_cases hc : n = G.length ∧ G'.length = n + 1 ∧ nI (G'.take G.length) G = true ∧ aV ds = true
     ·rw [if_pos hc] at ok
      obtain ⟨hn0, hl, hb, hcl⟩ := hc
      refine iB (hs pins s σ H { Dd with nx := fun σ' H' => ∃ a xs, H' a = some (.lst xs) ∧ ∀ o, Dd.nx σ' (upd H' a (.nc o (.lst xs))) } I ⟨τ, ρ, G, ab, ?_⟩) fun u s' h => Lb h rfl rfl rfl fun σ' H' q => .inr q
      dsimp only [cA, fq]
      rw [q]
      intro σ' H' ρ' f dm
      obtain ⟨a, xs, e1, e2, rs⟩ := dm.hp.lst g
      refine ⟨a, xs, e2, fun ob => ?_⟩
      have f2 : fH X.K H' (upd H' a (.nc ob (.lst xs))) ρ' ρ' := uX e2 ρ'
      have f3 : fH X.K H (upd H' a (.nc ob (.lst xs))) ρ ρ := ⟨fun b ys w => f2.tup b ys (f.tup b ys w), fun b ys w => f2.con b ys (f.con b ys w), ⟨[], by simp⟩, fun b φ w => f2.ext b φ (f.ext b φ w)⟩
      have La : kP X.K X.mg (upd H' a (.nc ob (.lst xs))) ρ G := ab.hp.cut f.pre (dm.hp.nc (o := ob) e1 e2) (by
       rw [List.take_set_of_le (by omega)]
       exact q8 _ _ hb)
      refine ok σ' _ ρ f3 ⟨⟨by rw [dm.st.1]; simp, fun j dj ej => ?_⟩, La⟩
      by_cases hij : i = j
      ·subst hij
       by_cases hi : i < τ.length
       ·rw [List.getElem?_set, if_pos rfl, if_pos hi] at ej
        cases ej
        obtain ⟨vv, ev, rv⟩ := dm.st.2 i (.obj n) (by rw [List.getElem?_set, if_pos rfl, if_pos hi])
        unfold Rep at rv
        obtain ⟨a', rfl, hn'⟩ := rv
        rw [e1] at hn'; cases hn'
        refine ⟨_, ev, ?_⟩
        unfold Rep
        exact ⟨a, xs, rfl, .inl ⟨ob, gm⟩, iV ds xs hcl (rs.mono f2)⟩
       ·rw [List.getElem?_set, if_pos rfl, if_neg hi] at ej; cases ej
      ·have XH := ej
       rw [List.getElem?_set_ne hij] at ej
       obtain ⟨v', ev', Vp⟩ := dm.st.2 j dj (by rw [List.getElem?_set_ne hij]; exact ej)
       obtain ⟨v0, XI, Vq⟩ := ab.st.2 j dj ej
       exact ⟨v', ev', Rep.back f.pre dj v0 v' Vq (Vp.mono f2)⟩
     ·rw [if_neg hc] at ok; exact ok.elim
  ·have ok' : BF X.K X.mg EE H ρ Dd (.nx (τ.set i (some d)) G') := by
    cases d <;> first | exact ok | exact absurd ⟨_, rfl⟩ hd
   exact hs pins s σ H Dd I ⟨τ, ρ, G, ab, by dsimp only [cA, fq]; rw [q]; exact ok'⟩
end
end L3
end
section
set_option Elab.async false
set_option linter.all false
set_option maxRecDepth 100000
namespace L3
open PySem PySem.Spec L2 PyProof.Rows
section
variable {X : Cx} {EE : gf} {tg iter a b c : Expr} {pos p pc : Pos} {m : DS → M (List D)}
end
end L3
end
section
set_option Elab.async false
set_option linter.all false
set_option maxRecDepth 100000
namespace L3
open PySem PySem.Spec L2
section
variable {K : PySem.W.Frag} {mg : Str → Option Value} {H : Hp} {ρ : List Addr} {G : DH}
theorem kP.dct {n : Nat} {kvs : List (Key × D)} (h : kP K mg H ρ G) (e : G[n]? = some (.dct kvs)) : ∃ a xs, ρ[n]? = some a ∧ H a = some (.dK ((kvs.map (·.1)).zip xs)) ∧ aC K mg ρ H (kvs.map (·.2)) xs := by
 obtain ⟨a, e1, xs, e2, r⟩ := h.ob n _ e
 exact ⟨a, xs, e1, e2, r⟩
end
section
variable {X : Cx} {EE : gf} {e f o i a : Expr} {pos apos cpos tpos : Pos} {mo me mf mv mi : DS → M D}
end
end L3
end
section
set_option Elab.async false
set_option linter.all false
set_option maxRecDepth 100000
namespace L3
open PySem PySem.Spec L2 PyProof.Rows
section
variable {X : Cx} {EE : gf} {e : Expr} {m : DS → M (List D)} {p p2 pos pos2 : Pos}
end
end L3
end
section
set_option Elab.async false
set_option linter.all false
set_option maxRecDepth 100000
namespace L3
open PySem PySem.Spec L2
section
variable {prog : Program} {w : World} {A : Around} {E : Value → Shared → Prop} {s : Shared}
end
section
variable {X : Cx} {EE : gf} {a : Expr} {p pc : Pos} {m : DS → M (List D)}
end
noncomputable abbrev DN (s : Str) : Prop := (s == ("__debug__" : Str)) = false ∧ (s == ("__classdict__" : Str)) = false
noncomputable abbrev LK (f : Scope) (s : Str) (k : NameKind) : Prop := f.names.lookup s = some k
end L3
end
section
set_option Elab.async false
set_option linter.all false
set_option maxRecDepth 100000
namespace L3
open PySem PySem.Spec L2
noncomputable def Out.fw (r : Out D) (G : DH) : Out D := match r with
 | .ok (.obj n) G' => match G'[n]? with
  | some (.lst ds) => if n = G.length ∧ G'.length = n + 1 ∧ nI (G'.take G.length) G = true ∧ aV ds = true then .ok (.con ds) G else .stuck
  | _ => .stuck
 | r => r
noncomputable def Out.fz (r : Out D) : Out D := match r with
 | .ok (.obj n) G' => match G'[n]? with
  | some (.lst ds) => .ok (.con ds) (G'.set n .dead)
  | _ => .stuck
 | r => r
section
variable {τ : DS} {G G' A B R : DH} {e ma mb mc : DS → M D} {n i : Nat} {d : D} {c : XD} {ml : DS → M (List D)} {ds xs ys : List D} {m : List D → M D}
theorem iW : eFn e τ G = (e τ G).fw G := Eq.trans rfl rfl
theorem Jx : Nf e τ G = (e τ G).fz := Eq.trans rfl rfl
theorem mq (h : aV ds = true) : (Out.ok (.obj G.length) (G ++ [.lst ds])).fw G = .ok (.con ds) G := by
 simp [Out.fw, h, ly]
theorem dH (hz : ds.length ≤ sizeLine) (h : aV ds = true) : (dg ds G).fw G = .ok (.con ds) G := by
 rw [dg, if_pos hz, mq h]
theorem FU : (Out.ok (.obj A.length) (A ++ .lst ds :: B)).fz = .ok (.con ds) (A ++ .dead :: B) := by
 simp [Out.fz, Jp]
theorem ri {d : D} (h : m ds G = .ok d (G ++ R)) (hc : d.closed = true) : dw m ds G = .ok d G := by
 simp [dw, h, hc, ly]
theorem bx {d : D} (h : m ds G = .ok d G) (hc : d.closed = true) : dw m ds G = .ok d G := ri (R := []) (by simpa using h) hc
theorem B0 {gO : D → Option (List D)} {ks : List Bool} {te : DS → M D} {x v : D} {os acc : List D} (h1 : gO x = some os) (h2 : te (os.map some ++ mask ks τ) (G ++ [.lst acc]) = .ok v (G ++ [.lst acc])) (hz : acc.length < sizeLine) :
  fy gO ks nH te G.length x τ (G ++ [.lst acc]) = .ok () (G ++ [.lst (acc ++ [v])]) := by
 simp only [fy, h1, nH, M.ret, h2, BY, if_pos hz, Jp]
theorem sV {gO : D → Option (List D)} {ks : List Bool} {te : DS → M D} {own : D → List D} {f : D → D} : ∀ (xs acc : List D), acc.length + xs.length ≤ 1000000 → (∀ x ∈ xs, gO x = some (own x)) → (∀ x ∈ xs, ∀ acc, te ((own x).map some ++ mask ks τ) (G ++ [.lst acc]) = .ok (f x) (G ++ [.lst acc])) →
  dZ gO ks nH te G.length xs τ (G ++ [.lst acc]) = .ok (.obj G.length) (G ++ [.lst (acc ++ xs.map f)])
 | [], acc, _, _, _ => by simp [dZ]
 | x :: xs, acc, hl, h1, h2 => by
  have hz : acc.length < sizeLine := Nat.lt_of_lt_of_le (by simp at hl; omega) (lz (n := 1000001) (by omega))
  rw [dZ, B0 (h1 x (by simp)) (h2 x (by simp) acc) hz]
  dsimp only
  rw [sV xs (acc ++ [f x]) (by simp at hl ⊢; omega) (fun y hy => h1 y (by simp [hy])) (fun y hy => h2 y (by simp [hy]))]
  simp
end
theorem qc : ∀ {xs : List D}, (∀ x ∈ xs, x.closed = true) → aV xs = true
 | [], _ => rfl
 | x :: xs, h => by rw [aV, h x (by simp), qc fun y hy => h y (by simp [hy])]; rfl
theorem bL {α : Type} {f : α → D} {l : List α} (h : ∀ x, (f x).closed = true) : aV (l.map f) = true := qc (by
 intro x hx
 obtain ⟨a, _, rfl⟩ := List.mem_map.mp hx
 exact h a)
theorem vS {xs : List D} : (D.con xs).closed = aV xs := by rw [D.closed]
theorem jQ {i : Int} : (D.int i).closed = true := by rw [D.closed] <;> simp
theorem aG {i : Str} : (D.str i).closed = true := by rw [D.closed] <;> simp
theorem cU : aV [] = true := rfl
theorem bS {x : D} {xs : List D} : aV (x :: xs) = (x.closed && aV xs) := by rw [aV]
mutual
noncomputable def D.pd : D → PyData
 | .bl b => .bool b
 | .int i => .int i
 | .str x => .str x
 | .tup ds => .tuple (Bt ds)
 | .con ds => .list (Bt ds)
 | _ => .none
noncomputable def Bt : List D → List PyData
 | [] => []
 | d :: r => d.pd :: Bt r
end
mutual
noncomputable def D.plain : D → Bool
 | .tup ds => gh ds
 | .con ds => gh ds
 | .str x => PyData.strOk x
 | .obj _ => false
 | .wU _ _ => false
 | .fn _ => false
 | _ => true
noncomputable def gh : List D → Bool
 | [] => true
 | d :: r => d.plain && gh r
end
mutual
noncomputable def D.dp : D → Nat
 | .tup ds => Dc ds + 1
 | .con ds => Dc ds + 1
 | _ => 0
noncomputable def Dc : List D → Nat
 | [] => 0
 | d :: r => max d.dp (Dc r)
end
mutual
theorem FW (G : DH) : ∀ (d : D) (n : Nat), d.plain = true → d.dp < n → nG G n d = some d.pd
 | .gg, n + 1, _, _ => by simp [nG, D.pd]
 | .bl b, n + 1, _, _ => by simp [nG, D.pd]
 | .int b, n + 1, _, _ => by simp [nG, D.pd]
 | .str b, n + 1, _, _ => by simp [nG, D.pd]
 | .tup ds, n + 1, h, hn => by
  rw [nG, zo G ds n (by simpa [D.plain] using h) (by rw [D.dp] at hn; omega), D.pd]; rfl
 | .con ds, n + 1, h, hn => by
  rw [nG, zo G ds n (by simpa [D.plain] using h) (by rw [D.dp] at hn; omega), D.pd]; rfl
 | .obj k, n + 1, h, _ => by simp [D.plain] at h
 | .wU _ _, n + 1, h, _ => by simp [D.plain] at h
 | .fn _, n + 1, h, _ => by simp [D.plain] at h
theorem zo (G : DH) : ∀ (ds : List D) (n : Nat), gh ds = true → Dc ds < n → dN (nG G n) ds = some (Bt ds)
 | [], n, _, _ => by simp [dN, Bt]
 | d :: ds, n, h, hn => by
  have h' : d.plain = true ∧ gh ds = true := by simpa [gh] using h
  rw [Dc] at hn
  rw [dN, FW G d n h'.1 (by omega), zo G ds n h'.2 (by omega), Bt]
end
mutual
theorem lay_of : ∀ (d : D), d.plain = true → d.pd.canLay0 = true
 | .gg, _ => by simp [D.pd, PyData.canLay0]
 | .bl b, _ => by simp [D.pd, PyData.canLay0]
 | .int b, _ => by simp [D.pd, PyData.canLay0]
 | .str b, h => by simpa [D.pd, PyData.canLay0, D.plain] using h
 | .tup ds, h => by
  rw [D.pd, PyData.canLay0]; exact zp ds (by simpa [D.plain] using h)
 | .con ds, h => by
  rw [D.pd, PyData.canLay0]; exact zp ds (by simpa [D.plain] using h)
 | .obj k, h => by simp [D.plain] at h
 | .wU _ _, h => by simp [D.plain] at h
 | .fn _, h => by simp [D.plain] at h
theorem zp : ∀ (ds : List D), gh ds = true → PyData.canLayAll0 (Bt ds) = true
 | [], _ => by simp [Bt, PyData.canLayAll0]
 | d :: ds, h => by
  have h' : d.plain = true ∧ gh ds = true := by simpa [gh] using h
  rw [Bt, PyData.canLayAll0, lay_of d h'.1, zp ds h'.2]; rfl
end
mutual
theorem Jy : ∀ (d : D), d.pd.depth ≤ d.dp
 | .gg => by simp [D.pd, PyData.depth]
 | .bl b => by simp [D.pd, PyData.depth]
 | .int b => by simp [D.pd, PyData.depth]
 | .str b => by simp [D.pd, PyData.depth]
 | .tup ds => by rw [D.pd, PyData.depth, D.dp]; exact Nat.succ_le_succ (B3 ds)
 | .con ds => by rw [D.pd, PyData.depth, D.dp]; exact Nat.succ_le_succ (B3 ds)
 | .obj k => by simp [D.pd, PyData.depth]
 | .wU _ _ => by simp [D.pd, PyData.depth]
 | .fn _ => by simp [D.pd, PyData.depth]
theorem B3 : ∀ (ds : List D), PyData.depthAll (Bt ds) ≤ Dc ds
 | [] => by simp [Bt, PyData.depthAll]
 | d :: ds => by
  rw [Bt, PyData.depthAll, Dc]
  have := Jy d
  have := B3 ds
  omega
end
mutual
theorem AQ : ∀ (d : D), PyData.eqv d.pd d.pd = true
 | .gg => by simp [D.pd, PyData.eqv]
 | .bl b => by simp [D.pd, PyData.eqv]
 | .int b => by simp [D.pd, PyData.eqv]
 | .str b => by simp [D.pd, PyData.eqv]
 | .tup ds => by rw [D.pd, PyData.eqv]; exact sW ds
 | .con ds => by rw [D.pd, PyData.eqv]; exact sW ds
 | .obj k => by simp [D.pd, PyData.eqv]
 | .wU _ _ => by simp [D.pd, PyData.eqv]
 | .fn _ => by simp [D.pd, PyData.eqv]
theorem sW : ∀ (ds : List D), PyData.eqvAll (Bt ds) (Bt ds) = true
 | [] => by simp [Bt, PyData.eqvAll]
 | d :: ds => by rw [Bt, PyData.eqvAll, AQ d, sW ds]; rfl
end
theorem FY (g : Bool) (d : D) (G : DH) (h : d.plain = true) (hn : d.dp ≤ 580) : nU g d d G = .ok (.bl (g ^^ true)) G := by
 have hd := Jy d
 unfold nU BH
 rw [FW G d deep h (by show d.dp < 600; omega)]
 dsimp only
 rw [if_pos (by rw [lay_of d h]; simp; omega), AQ]
theorem sX : ∀ {xs : List D}, (∀ x ∈ xs, x.plain = true) → gh xs = true
 | [], _ => rfl
 | x :: xs, h => by rw [gh, h x (by simp), sX fun y hy => h y (by simp [hy])]; rfl
theorem B4 {n : Nat} : ∀ {xs : List D}, (∀ x ∈ xs, x.dp ≤ n) → Dc xs ≤ n
 | [], _ => Nat.zero_le _
 | x :: xs, h => by
  rw [Dc]
  have := h x (by simp)
  have := B4 (xs := xs) fun y hy => h y (by simp [hy])
  omega
end L3
end
section
set_option Elab.async false
set_option linter.all false
set_option maxRecDepth 100000
namespace L3
open PySem PySem.Spec L2
section
variable {prog : Program} {w : World} {A : Around} {E : Value → Shared → Prop} {s : Shared}
end
end L3
end
section
set_option Elab.async false
set_option linter.all false
set_option maxRecDepth 100000
namespace L3
open PySem PySem.Spec L2
noncomputable def QM (tp : Bool) (h : Heap) (it l : Addr) (i : Nat) : Prop := if tp = true then h.IsTupleIter it l i else h.IsListIter it l i
noncomputable def QN (tp : Bool) (h : Heap) (l : Addr) (xs : Array Value) : Prop := if tp = true then h.IsTuple l xs else h.IsList l xs
theorem QM.at {tp : Bool} {h h' : Heap} {it l : Addr} {i : Nat} (x : QM tp h it l i) (k : ∀ o, h.get? it = some o → h'.get? it = some o) : QM tp h' it l i := by
 cases tp
 ·exact Heap.IsListIter.at (show h.IsListIter it l i from x) k
 ·exact Heap.IsTupleIter.at (show h.IsTupleIter it l i from x) k
theorem QN.at {tp : Bool} {h h' : Heap} {l : Addr} {xs : Array Value} (x : QN tp h l xs) (k : ∀ o, h.get? l = some o → h'.get? l = some o) : QN tp h' l xs := by
 cases tp
 ·obtain ⟨o, e, r⟩ := (show h.IsList l xs from x)
  exact (⟨o, k o e, r⟩ : h'.IsList l xs)
 ·exact Heap.IsTuple.at (show h.IsTuple l xs from x) k
section
variable {prog : Program} {w : World} {A : Around} {E : Value → Shared → Prop} {s : Shared}
end
end L3
namespace L3
open PySem PySem.Spec L2
section
variable {prog : Program} {w : World} {A : Around} {E : Value → Shared → Prop} {s : Shared}
end
end L3
end
section
set_option Elab.async false
set_option linter.all false
set_option maxRecDepth 100000
namespace L3
open PySem PySem.Spec L2
section
variable {prog : Program} {w : World} {A : Around} {E : Value → Shared → Prop} {s : Shared}
end
end L3
end
section
set_option Elab.async false
set_option linter.all false
set_option maxRecDepth 100000
namespace L3
open PySem PySem.Spec L2
section
variable {X : Cx} {pins : List (Addr × Obj)} {σ : L2.St} {H : Hp} {s : Shared} {a : Addr} {xs ys : List V} {t : Bool}
end
section
variable {X : Cx} {EE : gf} {tg iter a b : Expr} {g : wO} {mi : MI} {ms : MS} {pos p pc : Pos} {m : DS → M (List D)}
end
end L3
end
section
set_option Elab.async false
set_option linter.all false
set_option maxRecDepth 100000
namespace L3
open PySem PySem.Spec L2 PyProof.Rows
section
variable {X : Cx} {EE : gf} {p pos apos cpos : Pos} {e o : Expr} {m : DS → M (List D)} {mo : DS → M D}
noncomputable def pN : List D → M D
 | [.int i] => if i.natAbs.log2 < 1920 then M.ret (.str (toString i)) else M.stop
 | _ => M.stop
theorem Ec : gB X (.type "str") (Jf X EE pN) := by
 intro pins s σ0 H xs us Q I r ⟨σ, τ, ρ, G, ds, ab, CM, ok⟩
 match ds, ok with
 | [], ok => exact ok.elim
 | d :: _ :: _, ok => cases d <;> exact ok.elim
 | [d], ok =>
  obtain ⟨x, rfl, rx⟩ := pK CM
  cases d <;> try exact ok.elim
  rename_i i
  unfold Rep at rx; subst rx
  dsimp only [pN] at ok
  by_cases hc : i.natAbs.log2 < 1920
  ·rw [if_pos hc] at ok
   exact yL pins s σ0 H _ us Q I r ⟨i, rfl, hc, ok _ H ρ .refl ab (by unfold Rep; rfl)⟩
  ·rw [if_neg hc] at ok; exact ok.elim
theorem boot_str : bootBuiltins "str" = some (.type "str") := by decide +kernel
theorem uY (hm : X.mg "str" = none) (hg : Gl X "str") (ha : QA X EE [e] m) (h : aJ [e] = true := by rfl) : QE X EE (.Call (.Name "str" p) [e] [] pos) (aH pN m) := yc Ec hm hg boot_str ha (by decide) (by decide) h
end
section
variable {X : Cx} {pos : Pos}
noncomputable def QU (i j l n : Nat) : wO := fun d τ => match d with
 | .tup [x, y, z, u] => some ((((τ.set i (some x)).set j (some y)).set l (some z)).set n (some u))
 | _ => none
theorem Iv {x y z u : Str} {i j l n : Nat} {px py pz pu : Pos} {k : Nat} (hc : X.calm = true) (hN : X.N.Nodup) (hx : Loc X.env.scope x) (hy : Loc X.env.scope y) (hz : Loc X.env.scope z) (hw : Loc X.env.scope u) (hfx : X.fn x = true ∨ X.env.scope.names.lookup x = some .local) (Vr : X.fn y = true ∨ X.env.scope.names.lookup y = some .local) (QV : X.fn z = true ∨ X.env.scope.names.lookup z = some .local) (hfu : X.fn u = true ∨ X.env.scope.names.lookup u = some .local)
  (hi : X.N[i]? = some x := by rfl) (hj : X.N[j]? = some y := by rfl) (hl : X.N[l]? = some z := by rfl) (hn : X.N[n]? = some u := by rfl) : QG X (.Tuple [.Name x px, .Name y py, .Name z pz, .Name u pu] k pos) (QU i j l n) := by
 intro pins s σ H v w Q I r ⟨τ, ρ, G, d, τ', ab, rd, e, q⟩
 refine JX (n := 4) hc (qM (qL hN hi hx hfx) (qM (qL hN hj hy Vr) (qM (qL hN hl hz QV) (qM (qL hN hn hw hfu) Ho)))) rfl rfl pins s σ H v w Q I r ?_
 cases d <;> try (cases e; done)
 rename_i ds
 match ds, e with
 | [d1, d2, d3, d4], e =>
  cases e
  unfold Rep at rd
  obtain ⟨a, vs, rfl, sq, rs⟩ := rd
  unfold aC at rs
  obtain ⟨v1, vs', rfl, r1, rs⟩ := rs
  unfold aC at rs
  obtain ⟨v2, vs', rfl, r2, rs⟩ := rs
  obtain ⟨v3, v4, rfl, r3, r4⟩ := Jg rs
  exact ⟨a, [v1, v2, v3, v4], rfl, sq, rfl, v1, [v2, v3, v4], rfl, v2, [v3, v4], rfl, v3, [v4], rfl, v4, [], rfl, rfl, q _ (Ab.set (Ab.set (Ab.set (Ab.set ab r1) r2) r3) r4)⟩
end
noncomputable def QX (K : PySem.W.Frag) : Prop := ∀ h, K.In h → NoneBooked h
theorem Lc {K : PySem.W.Frag} (h1 : PySem.W.nsOkIn K cStatics = true) (h2 : PySem.W.nsIn K cStatics sharingNotToldKey = some none) : QX K := fun h X => ⟨_, .of_isNs (PySem.W.isNs_of_in X h1), PySem.W.nsMap_none_of_in X h1 h2⟩
section
variable {X : Cx} {EE : gf} {o i : Expr} {mo mi : DS → M D} {y : Str} {j1 : Nat} {p1 lp sp apos cpos : Pos}
noncomputable def AR : List Expr → Option (List Str)
 | [] => some []
 | .Constant (.str x) _ _ :: es => (AR es).map (x :: ·)
 | _ :: _ => none
noncomputable def AS : Nat → List Str → List Value
 | _, [] => []
 | t, x :: xs => .str x t :: AS (t + 1) xs
theorem AU : ∀ {zs : List Str} {t n : Nat} {z : Str}, zs[n]? = some z → (AS t zs)[n]? = some (.str z (t + n))
 | [], _, _, _, h => by simp at h
 | x :: xs, t, 0, z, h => by cases h; rfl
 | x :: xs, t, n + 1, z, h => by
  show (AS (t + 1) xs)[n]? = _
  rw [AU (zs := xs) (t := t + 1) (n := n) (z := z) (by simpa using h)]
  rw [show t + 1 + n = t + (n + 1) by omega]
theorem AV : ∀ {zs : List Str} {t : Nat}, (AS t zs).length = zs.length
 | [], _ => rfl
 | x :: xs, t => congrArg (· + 1) (AV (zs := xs) (t := t + 1))
theorem yj {M : Model} {A : Around} {E : Value → Shared → Prop} {env : Env} {pos : Pos} : ∀ {es : List Expr} {zs : List Str} {s : Shared} {Q : List Value → Shared → Prop}, AR es = some zs → Q (AS s.toks zs) { s with toks := s.toks + zs.length } → wpAny M A (spliced (backTo pos (starEach es env))) Q E s
 | [], zs, s, Q, h, q => by
  cases h
  exact Calls.spliced_nil q
 | e :: es, zs, s, Q, h, q => by
  match e, h, q with
  | .Constant (.str x) j p, h, q =>
   dsimp only [AR] at h
   cases h' : AR es with
   | none => rw [h'] at h; cases h
   | some ws =>
    rw [h'] at h; cases h
    rw [bZ (e := .Constant (.str x) j p) rfl]
    show wpAny _ _ (spliced ((false, eval (.Constant (.str x) j p) env) :: backTo pos (starEach es env))) _ _ s
    refine Calls.spliced_cons (Calls.Constant_str ?_)
    refine yj (es := es) h' ?_
    have e1 : s.toks + 1 + ws.length = s.toks + (x :: ws).length := by simp; omega
    show Q (.str x s.toks :: AS (s.toks + 1) ws) { s with toks := s.toks + 1 + ws.length }
    rw [e1]; exact q
noncomputable def jR (y : Str) (zs : List Str) (x : Str) : D → M D
 | .int k => if 0 ≤ k ∧ k < 1000 then (match zs[k.toNat]? with
  | some z => if x.length + (x.length + 1) * z.length ≤ 16777216 then M.ret (.str (Txt.replace x y z)) else M.stop
  | none => M.stop) else M.stop
 | _ => M.stop
noncomputable def Iw (y : Str) (zs : List Str) (m : M D) : D → M D
 | .str x => m.bind (jR y zs x)
 | _ => M.stop
noncomputable def nZ (y : Str) (zs : List Str) (mo mi : DS → M D) : DS → M D := fun τ => (mo τ).bind (Iw y zs (mi τ))
theorem vU {es : List Expr} {zs : List Str} (hnb : QX X.K) (ho : QE X EE o mo) (hi : QE X EE i mi) (hes : AR es = some zs) (Vs : zs.length ≤ 1000) (Vt : zc i = true) (hb : p7 o = true) (hline : (apos.endLine == cpos.line) = true) : QE X EE (.Call (.Attribute o "replace" apos) [.Constant (.str y) j1 p1, .Subscript (.List es lp) i sp] [] cpos) (nZ y zs mo mi) := by
 intro pins s σ H Q I h
 have h2 := jM (k := fun τ => Iw y zs (mi τ)) h
 have hst : starEach [.Constant (.str y) j1 p1, .Subscript (.List es lp) i sp] X.env = [(false, eval (.Constant (.str y) j1 p1) X.env), (false, eval (.Subscript (.List es lp) i sp) X.env)] := by
  rw [bZ rfl, bZ rfl]; rfl
 refine wpAny_Call_method_late (iM hb _ _) (sO (es := [.Constant (.str y) j1 p1, .Subscript (.List es lp) i sp]) rfl (by simp)) hline rfl (iB (ho pins s σ H _ I h2) fun v s1 hv => ?_)
 obtain ⟨xv, H1, I1, r1, τ, ρ, G, d, ab, rd, ok⟩ := hv
 cases d <;> try exact ok.elim
 rename_i x
 have h3 : dF X.K X.mg EE (fun τ => (mi τ).bind (jR y zs x)) σ H1 Q := ⟨τ, ρ, G, ab, ok⟩
 have h4 := jM (k := fun _ => jR y zs x) h3
 unfold Rep at rd; subst rd
 obtain ⟨t, rfl⟩ := r1
 obtain ⟨g1, g2⟩ := yR I1 (x := .str x) (v := .str x t) ⟨t, rfl⟩ (T := "str") rfl
 refine ⟨"str", "str.replace", F.plainAttrs_str, F.slot_str_replace, F.type_str_replace, g1, g2, ?_⟩
 rw [hst]
 refine Calls.callWith_builtin (by rfl) (Calls.evalArgs_plain ?_)
 refine Calls.spliced_cons (Calls.Constant_str (k := j1) (pos := p1) (Calls.spliced_cons ?_))
 refine Subscript_ (wpAny_List_spliced (yj hes ⟨by rw [AV]; exact Nat.le_trans Vs (by decide), ?_⟩))
 let ob : Obj := { cls := .type "list", data := .seq (AS (s1.toks + 1) zs).toArray }
 have I2 : Inv X pins σ H1 { s1 with heap := s1.heap.push ob, toks := s1.toks + 1 + zs.length } := I1.kept (t' := s1.toks + 1 + zs.length) (fun b u e => Heap.get?_push_of_some _ e) (by omega)
 have I3 : Inv X ((s1.heap.objs.size, ob) :: pins) σ H1 { s1 with heap := s1.heap.push ob, toks := s1.toks + 1 + zs.length } := I2.qK fun p hp => by
  rcases List.mem_cons.mp hp with rfl | hp
  ·exact ⟨Heap.get?_push_size _ rfl, I1.hok.fresh (Nat.le_refl _), Nat.ne_of_gt I1.lt, I1.L0 (Nat.le_refl _), fun v z => nomatch z⟩
  ·exact I2.pin p (List.mem_append_right _ hp)
 refine iB (hi _ _ σ H1 _ I3 h4) fun u s3 hu => ?_
 obtain ⟨kv, H3, I4, r3, τ', ρ', G', d', dm, S5, ok'⟩ := hu
 cases d' <;> try exact ok'.elim
 rename_i k
 dsimp only [jR] at ok'
 by_cases hk : 0 ≤ k ∧ k < 1000
 ·rw [if_pos hk] at ok'
  cases hz : zs[k.toNat]? with
  | none => rw [hz] at ok'; exact ok'.elim
  | some z =>
   rw [hz] at ok'
   dsimp only at ok'
   by_cases hc : x.length + (x.length + 1) * z.length ≤ 16777216
   ·rw [if_pos hc] at ok'
    unfold Rep at S5; subst S5
    obtain ⟨t', rfl⟩ := r3
    have hq := ok' (.str (Txt.replace x y z)) H3 ρ' .refl dm (by unfold Rep; rfl)
    have hp := (I4.pin (s1.heap.objs.size, ob) (List.mem_append_right _ (List.mem_cons_self ..))).1
    have hl : s3.heap.IsList s1.heap.objs.size (AS (s1.toks + 1) zs).toArray := ⟨ob, hp, rfl, _, rfl⟩
    refine item_listR hl hk.1 (by omega) (x := .str z (s1.toks + 1 + k.toNat)) (by rw [List.getElem?_toArray]; exact AU hz) ?_ (Jm Vt _ _)
    refine Calls.spliced_nil ?_
    show wpAny _ _ (call (.builtin "str.replace") [.str x t, .str y s1.toks, .str z (s1.toks + 1 + k.toNat)]) _ _ _
    have h0 := I1.os.2
    have t1 : s1.toks ≠ 0 := Nat.ne_of_gt h0
    have t2 : s1.toks + 1 + k.toNat ≠ 0 := by omega
    have t3 : s1.toks ≠ s1.toks + 1 + k.toNat := by omega
    exact nS I4.os.2 (SC.replaceA t1 t2 t3 hc (fun t' k => fun ht => ⟨.str _, H3, (I4.tok k (ht := ht)).qK (fun p hp => I4.pin p (by simp at hp ⊢; exact .inr (.inr hp))), ⟨_, rfl⟩, hq⟩) (hnb _ I4.Ak))
   ·rw [if_neg hc] at ok'; exact ok'.elim
 ·rw [if_neg hk] at ok'; exact ok'.elim
end
section
variable {X : Cx} {EE : gf}
noncomputable def Ng (X : Cx) (EE : gf) (st : List Stmt) (m : MS) : Prop := Mu X st (kU X.K X.mg EE m)
theorem QY {CX : wQ} {k : Nat} {f : Addr} {fd : FuncData} {ps : List Str} {mf : List D → M D} {g x y : Str} {i j jc : Nat} {n : Int} {px py pc pg cpos pos : Pos} {rest : List Stmt} {mt : MS} (F : aR X.prog X.w X.K X.mg X.base CX k f fd ps (aN X.K X.mg 2 mf)) (hr : gn k X.A) (hm : X.mg g = some (.ref f)) (hk : PySem.W.keepIn X.K (.ref f) = true) (hb : Binds X.K fd ps []) (hx : LQ CX X EE) (hg : Gl X g)
  (hdg : (g == ("__debug__" : Str)) = false ∧ (g == ("__classdict__" : Str)) = false) (hN : X.N.Nodup) (Vu : Loc X.env.scope x) (hf : X.fn x = true ∨ X.env.scope.names.lookup x = some .local) (hv : X.env.scope.names.lookup y = some .local) (Vv : (y == ("__debug__" : Str)) = false ∧ (y == ("__classdict__" : Str)) = false) (h2 : Ez X EE rest mt) (hi : X.N[i]? = some x := by rfl) (hj : X.N[j]? = some y := by rfl) :
  Ng X EE (.Assign [.Name x px] (.Call (.Name g pg) [.Name y py, .Constant (.int n) jc pc] [] cpos) pos :: rest) (bP (cA i (bD 2 mf (ah (ai j) (ah (eC (.int n)) aB)))) mt) := by
 intro s σ H Dd I h
 have h1 := Ay h
 have h3 := vn (m := bD 2 mf (ah (ai j) (ah (eC (.int n)) aB))) (k := fun τ d G => .nx (τ.set i (some d)) G) h1
 obtain ⟨τ, ρ, G, ab, ok⟩ := h3
 have hst : starEach [.Name y py, .Constant (.int n) jc pc] X.env = (false, eval (.Name y py) X.env) :: starEach [.Constant (.int n) jc pc] X.env := bZ rfl _ _
 have QZ : starEach [.Constant (.int n) jc pc] X.env = (false, eval (.Constant (.int n) jc pc) X.env) :: starEach [] X.env := bZ rfl _ _
 unfold bD aH ah ai eC aB at ok
 dsimp only [M.bind, M.ret] at ok
 cases e : τ[j]? with
 | none => rw [e] at ok; exact ok.elim
 | some o =>
  cases o with
  | none => rw [e] at ok; exact ok.elim
  | some d =>
   rw [e] at ok
   obtain ⟨v, e1, r⟩ := ab.st.2 j d e
   obtain ⟨m, hn, hl⟩ := I.loc
   obtain ⟨u, ru, l⟩ := hl j y v hj e1 (.inl hv)
   refine wpAny_execs_cons (wpAny_Assign_Name ?_ (zd (e := .Call (.Name g pg) [.Name y py, .Constant (.int n) jc pc] [] cpos) rfl _ _ _))
   refine wpAny_Call_Name_kw (Calls.Name_function_global I.ok.kind hg (Calls.loadGlobal_global (by rw [I.ok.glob]; exact I.mod.glob.keeps I.bk) hm ?_) hdg.1)
   refine PySem.W.callWith_K (h₀ := X.base) I.ok.mod.JI hk ?_ hst (d7 (es := [.Constant (.int n) jc pc]) rfl)
   rw [hst]
   show wpAny _ _ (spliced ((false, eval (.Name y py) X.env) :: backTo cpos (starEach [.Constant (.int n) jc pc] X.env))) _ _ s
   refine Calls.spliced_cons ?_
   rcases l with ⟨LR, hml⟩ | ⟨LR, c, hc, hcell⟩
   ·refine wpAny_Name (wpAny_loadName_local I.ok.kind LR hn hml ?_) Vv.1
    rw [QZ]
    show wpAny _ _ (spliced ((false, eval (.Constant (.int n) jc pc) X.env) :: backTo cpos (starEach [] X.env))) _ _ s
    refine Calls.spliced_cons (wpAny_Constant_int ?_)
    refine Calls.spliced_nil ⟨I.Ak, ?_⟩
    have hn2 : [d, D.int n].length = 2 := rfl
    have ok : lT X.K X.mg EE H σ τ ρ ((if [d, D.int n].length = 2 then mf [d, .int n] else M.stop) G) _ := ok
    rw [if_pos hn2] at ok
    have hrs : aC X.K X.mg ρ H [d, .int n] [v, .int n] := .cons r (.cons (by unfold Rep; rfl) .nil)
    have Vw : Vals [v, .int n] [u, .int n s.toks] := .cons ru (.cons ⟨_, rfl⟩ .nil)
    refine iB (y9 F hr hb hx I Vw ab hrs hn2 ok) fun w s1 ⟨z, H1, I1, r1, τ1, ρ1, G1, d1, Al, Vx, Je⟩ => ?_
    refine u9 I1 hN hi Vu r1 (fun s2 I2 => ?_) hf
    exact h2 [] s2 _ H1 Dd I2 (Je _ H1 ρ1 .refl (Ab.set Al Vx))
   ·rcases LR with z | z <;> (have z' := hv.symm.trans z; cases z')
theorem Q0 {P : Program} {w : World} {K : PySem.W.Frag} {mg : Str → Option Value} {base : Heap} {f : Addr} {fd : FuncData} {x qual : Str} {st : Stmt} {N ps : List Str} {k n nn : Nat} {ms : MS} {m : List D → M D} (F : qI K x qual st f fd) (S : bz N ps (aa st)) (hps : ps.length = n) (hN : N.length = nn) (hm : ∀ ds, m ds = cj nn ms ds)
  (hbody : ∀ (X : Cx) (EE : gf) (cdv : Value) (A : Around) (outer : List Env) (s : Shared) (H : Hp) (E : XK), X = fG (bX P w) P w K mg base N qual (aa st) f cdv A outer s H E → gn k (A.deeper (PyProof.Rows.envOfC qual (aa st) s.heap.objs.size f cdv)) →
   lX X EE → PassesOwn (model P w) X.A X.env X.xe → Ng X EE (av st) ms) :
  pH P w K mg base (bX P w) (k + 1) f fd ps (aN K mg n m) := by
 subst hps hN
 have e : m = fun ds => cj N.length ms ds := funext hm
 subst e
 obtain ⟨oc, od, kV, doc, pm, an, cdv, ct, osl, rfl, lk, hcd⟩ := F.ex
 refine Kl lk hcd S (fun vs H Q E h => h.len) fun A outer s H vs Q E hr h => ?_
 obtain ⟨ds, ρ, G, hn, hp, rs, ok⟩ := h
 refine ⟨_, hbody _ (fun c σ H' => ∀ cls, CO mg c cls → E cls none H') cdv A outer s H E rfl hr ?_ PassesOwn.leaving, ds.map some ++ List.replicate (N.length - ds.length) none, ρ, G, ⟨vq rs, hp⟩, ?_⟩
 ·intro pins σ H' s' e cls c I fx hc ee
  obtain ⟨B, fb, hok, DZ⟩ := fx
  refine AB (L := s.heap.objs.size) I.ok.frames rfl fb fun h' a0 fl u => ?_
  have I' : Inv _ [] σ H' { s' with heap := h' } := Inv.Jh (t := s'.toks) I DZ hok fl.1 u
  have Cy : ∀ b o, s.heap.get? b = some o → b ∉ frs outer → b ∉ frs (PyProof.Rows.envOfC qual (aa st) s.heap.objs.size f cdv :: outer) := fun b o e hb z => by
   rcases List.mem_cons.mp (I.lQ b z) with z | z
   ·exact absurd (Heap.lt_size e) (by rw [show b = s.heap.objs.size from z]; exact Nat.lt_irrefl _)
   ·exact hb z
  refine ⟨e, cls, a0, B, H', rfl, fl, ⟨I'.os, I'.bare, fun b o eb nb hb => DZ.keep b o eb nb (Cy b o eb hb) (by intro z; exact absurd (show b ∈ ([] : List Addr) from z) (by simp)), fun b o eb hb => DZ.there b o eb (Cy b o eb hb) (by intro z; exact absurd (show b ∈ ([] : List Addr) from z) (by simp)),
   fun b o eb nb hb => I'.base.slot b o eb nb hb (by intro z; exact absurd (show b ∈ ([] : List Addr) from z) (by simp)), fun b o eb nb => I'.base.free b o eb nb (by intro z; exact absurd (show b ∈ ([] : List Addr) from z) (by simp)), I'.base.tups, I'.base.pB, I'.base.pY, hok⟩, ee cls hc⟩
 ·dsimp only [cj] at ok
  cases q : ms (ds.map some ++ List.replicate (N.length - ds.length) none) G with
  | stuck => rw [q] at ok; exact ok
  | nx τ G' => rw [q] at ok; exact fun σ' H' ρ' f ab => ok .gg H' ρ' f ab.hp (by unfold Rep; rfl)
  | rt d G' => rw [q] at ok; exact fun v H' ρ' f hp r => ok v H' ρ' f hp r
  | bk τ G' => rw [q] at ok; exact ok.elim
  | ct τ G' => rw [q] at ok; exact ok.elim
  | xn c τ G' => rw [q] at ok; exact fun σ' H' ρ' f ab cls hc => ok cls H' ρ' hc f ab.hp
end
end L3
end
section
set_option Elab.async false
set_option linter.all false
set_option maxRecDepth 100000
namespace L3
open PySem PySem.Spec L2
theorem Nh {i j : Int} {G : DH} : bH (.int i) (.int j) G = .ok (.int (i + j)) G := Eq.trans rfl rfl
section
variable {τ : DS} {G : DH} {ma mb mo mi : DS → M D}
theorem FZ : Fc ma mb τ G = (ma τ G).bd fun d => match d with
 | .bl true => mb τ
 | .bl false => M.ret (.bl false)
 | _ => M.stop := b7
theorem AW {y : Str} {zs : List Str} : nZ y zs mo mi τ G = (mo τ G).bd (Iw y zs (mi τ)) := b7
theorem Ga {y x : Str} {zs : List Str} {m : M D} : Iw y zs m (.str x) G = (m G).bd (jR y zs x) := b7
theorem Iz {y x z : Str} {zs : List Str} {k : Int} (h0 : 0 ≤ k ∧ k < 1000) (hz : zs[k.toNat]? = some z) (hl : x.length ≤ 1000000) (hz' : z.length ≤ 10) : jR y zs x (.int k) G = .ok (.str (Txt.replace x y z)) G := by
 have : (x.length + 1) * z.length ≤ (1000000 + 1) * 10 := Nat.mul_le_mul (by omega) hz'
 simp only [jR, if_pos h0, hz]
 rw [if_pos (by omega)]; rfl
theorem De {y z x : Str} (hne : (y == z) = false) (hl : x.length ≤ 1000000) (hz' : z.length ≤ 10) : zh y z (.str x) G = .ok (.str (Txt.replace x y z)) G := by
 have : (x.length + 1) * z.length ≤ (1000000 + 1) * 10 := Nat.mul_le_mul (by omega) hz'
 simp only [zh]
 rw [if_pos ⟨hne, by omega⟩]; rfl
theorem Ld {i : Int} (h : 0 ≤ i ∧ i < 1000) : pN [.int i] G = .ok (.str (toString i)) G := by
 have h1 : i.natAbs.log2 < 1920 := by
  rcases Nat.eq_zero_or_pos i.natAbs with e | e
  ·rw [e]; decide
  ·exact (Nat.log2_lt (by omega)).mpr (Nat.lt_of_lt_of_le (show i.natAbs < 2 ^ 10 by omega) (Nat.pow_le_pow_right (by decide) (by decide)))
 simp only [pN, if_pos h1]; rfl
theorem B5 {gO : D → Option (List D)} {ks : List Bool} {tt : DS → M Bool} {te : DS → M D} {x : D} {os acc : List D} (h1 : gO x = some os) (h2 : tt (os.map some ++ mask ks τ) (G ++ [.lst acc]) = .ok false (G ++ [.lst acc])) :
  fy gO ks tt te G.length x τ (G ++ [.lst acc]) = .ok () (G ++ [.lst acc]) := by
 simp only [fy, h1, h2]
theorem AX {gO : D → Option (List D)} {ks : List Bool} {tt : DS → M Bool} {te : DS → M D} {x v : D} {os acc : List D} (h1 : gO x = some os) (h2 : tt (os.map some ++ mask ks τ) (G ++ [.lst acc]) = .ok true (G ++ [.lst acc])) (h3 : te (os.map some ++ mask ks τ) (G ++ [.lst acc]) = .ok v (G ++ [.lst acc])) (hz : acc.length < sizeLine) :
  fy gO ks tt te G.length x τ (G ++ [.lst acc]) = .ok () (G ++ [.lst (acc ++ [v])]) := by
 simp only [fy, h1, h2, h3, BY, if_pos hz, Jp]
theorem eO {gO : D → Option (List D)} {ks : List Bool} {tt : DS → M Bool} {te : DS → M D} {α : Type} {own : α → List D} {dat f : α → D} {c : α → Bool} : ∀ (as : List α) (acc : List D), acc.length + as.length ≤ 1000000 → (∀ x ∈ as, gO (dat x) = some (own x)) →
  (∀ x ∈ as, ∀ acc, tt ((own x).map some ++ mask ks τ) (G ++ [.lst acc]) = .ok (c x) (G ++ [.lst acc])) → (∀ x ∈ as, ∀ acc, te ((own x).map some ++ mask ks τ) (G ++ [.lst acc]) = .ok (f x) (G ++ [.lst acc])) →
  dZ gO ks tt te G.length (as.map dat) τ (G ++ [.lst acc]) = .ok (.obj G.length) (G ++ [.lst (acc ++ (as.filter c).map f)])
 | [], acc, _, _, _, _ => by simp [dZ]
 | x :: as, acc, hl, h1, h2, h3 => by
  have hz : acc.length < sizeLine := Nat.lt_of_lt_of_le (by simp at hl; omega) (lz (n := 1000001) (by omega))
  rw [List.map_cons, dZ]
  have hp := h2 x (by simp) acc
  cases hc : c x with
  | false =>
   rw [hc] at hp
   rw [B5 (h1 x (by simp)) hp]
   dsimp only
   rw [eO as acc (by simp at hl; omega) (fun q hq => h1 q (by simp [hq])) (fun q hq => h2 q (by simp [hq])) (fun q hq => h3 q (by simp [hq])), List.filter_cons_of_neg (by rw [hc]; decide)]
  | true =>
   rw [hc] at hp
   rw [AX (h1 x (by simp)) hp (h3 x (by simp) acc) hz]
   dsimp only
   rw [eO as (acc ++ [f x]) (by simp at hl ⊢; omega) (fun q hq => h1 q (by simp [hq])) (fun q hq => h2 q (by simp [hq])) (fun q hq => h3 q (by simp [hq])), List.filter_cons_of_pos hc]
   simp
end
noncomputable def Ed (cur : List Nat) : List (List Nat) := if cur.isEmpty then [] else [cur]
noncomputable def bh : List Nat → List Nat → List (List Nat)
 | cur, [] => Ed cur
 | cur, c :: r => if c = 32 then Ed cur ++ bh [] r else if c = 10 then Ed cur ++ bh [] r else if c = 40 then Ed cur ++ [40] :: bh [] r else if c = 41 then Ed cur ++ [41] :: bh [] r else bh (cur ++ [c]) r
noncomputable def zq (x : List Nat) : List Nat := rp 41 [32, 41, 32] (rp 40 [32, 40, 32] (rp 10 [32] x))
theorem lA {cur : List Nat} (h : 32 ∉ cur) : (bw 32 cur).filter (fun l => !l.isEmpty) = Ed cur := by
 rw [nY 32 cur h]
 unfold Ed
 cases cur <;> rfl
theorem iO : Ed [] = [] := rfl
theorem wl : ∀ (x cur : List Nat), 32 ∉ cur → (bw 32 (cur ++ zq x)).filter (fun l => !l.isEmpty) = bh cur x
 | [], cur, h => by
  show (bw 32 (cur ++ [])).filter _ = _
  rw [List.append_nil, lA h]; rfl
 | c :: r, cur, h => by
  have one : ∀ {s : List Nat}, (zq (c :: r)) = s ++ 32 :: zq r → 32 ∉ s → (bw 32 (cur ++ zq (c :: r))).filter (fun l => !l.isEmpty) = (bw 32 (cur ++ s)).filter (fun l => !l.isEmpty) ++ bh [] r := fun {s} e hs => by
   rw [e, ← List.append_assoc, gz, List.filter_append]
   have := wl r [] (by simp)
   rw [List.nil_append] at this
   rw [this]
  by_cases Q2 : c = 32
  ·subst Q2
   rw [one (s := []) rfl (by simp), List.append_nil, lA h]; rfl
  ·by_cases K1 : c = 10
   ·subst K1
    rw [one (s := []) rfl (by simp), List.append_nil, lA h]; rfl
   ·by_cases Q3 : c = 40
    ·subst Q3
     have e : zq (40 :: r) = [32, 40] ++ 32 :: zq r := rfl
     rw [e, ← List.append_assoc, gz, List.filter_append, show cur ++ [32, 40] = cur ++ 32 :: [40] from rfl, gz, List.filter_append, lA h]
     have := wl r [] (by simp)
     rw [List.nil_append] at this
     rw [this]
     show (Ed cur ++ [[40]]) ++ bh [] r = Ed cur ++ [40] :: bh [] r
     simp
    ·by_cases Q4 : c = 41
     ·subst Q4
      have e : zq (41 :: r) = [32, 41] ++ 32 :: zq r := rfl
      rw [e, ← List.append_assoc, gz, List.filter_append, show cur ++ [32, 41] = cur ++ 32 :: [41] from rfl, gz, List.filter_append, lA h]
      have := wl r [] (by simp)
      rw [List.nil_append] at this
      rw [this]
      show (Ed cur ++ [[41]]) ++ bh [] r = Ed cur ++ [41] :: bh [] r
      simp
     ·have e : zq (c :: r) = [c] ++ zq r := by simp [zq, rp, K1, Q3, Q4]
      rw [e, ← List.append_assoc, wl r (cur ++ [c]) (by simp [h]; exact fun z => Q2 z.symm)]
      rw [bh, if_neg Q2, if_neg K1, if_neg Q3, if_neg Q4]
theorem zu (c : Nat) (b : List Nat) (h : ∀ cur r, bh cur (b ++ r) = bh cur (c :: r)) : ∀ (x cur : List Nat), bh cur (rp c b x) = bh cur x
 | [], _ => rfl
 | d :: r, cur => by
  have ih := zu c b h r
  by_cases e : d = c
  ·subst e
   have : rp d b (d :: r) = b ++ rp d b r := by simp [rp]
   rw [this, h]
   simp only [bh, ih]
  ·have : rp c b (d :: r) = d :: rp c b r := by simp [rp, e]
   rw [this]
   simp only [bh, ih]
theorem B6 (b : List Nat) (hb : b = [32] ∨ b = [32, 32] ∨ b = [10, 32]) (x cur : List Nat) : bh cur (rp 32 b x) = bh cur x :=
 zu 32 b (fun cur r => by rcases hb with rfl | rfl | rfl <;> simp [bh, iO]) x cur
theorem B7 (b : List Nat) (hb : b = [40, 32] ∨ b = [10, 40] ∨ b = [32, 40, 32]) (x cur : List Nat) : bh cur (rp 40 b x) = bh cur x :=
 zu 40 b (fun cur r => by rcases hb with rfl | rfl | rfl <;> simp [bh, iO]) x cur
theorem B8 (b : List Nat) (hb : b = [32, 41] ∨ b = [41, 10] ∨ b = [10, 32, 41, 32]) (x cur : List Nat) : bh cur (rp 41 b x) = bh cur x :=
 zu 41 b (fun cur r => by rcases hb with rfl | rfl | rfl <;> simp [bh, iO]) x cur
theorem AY : ∀ (p cur r r' : List Nat), (∀ cur, bh cur r = bh cur r') → bh cur (p ++ 32 :: 40 :: r) = bh cur (p ++ 40 :: r')
 | [], cur, r, r', h => by simp [bh, iO, h]
 | c :: p, cur, r, r', h => by
  have ih := fun cur => AY p cur r r' h
  simp only [List.cons_append, bh, ih]
theorem yk : ∀ (ps : List (List Nat)) (cur : List Nat), bh cur (cH [40] ps) = bh cur (cH [32, 40] ps)
 | [], cur => rfl
 | [p], cur => rfl
 | p :: q :: ps, cur => by
  have ih := yk (q :: ps)
  simp only [cH, List.append_assoc]
  exact (AY p cur _ _ fun cur => (ih cur).symm).symm
theorem sY (x y z : Str) (hy : (y.length == 0) = false) : ∃ ps, x = Str.join y ps ∧ Txt.replace x y z = Str.join z ps := by
 unfold Txt.replace
 rw [hy, Bool.false_and, Bool.or_false]
 cases he : (Builtin.Str.occurrences x y 0 x.length (x.length + 1)).isEmpty
 ·refine ⟨Builtin.Str.partsBetween x (Builtin.Str.occurrences x y 0 x.length (x.length + 1)) y.length, ?_, ?_⟩
  ·rw [← StrLaws.glued_eq_join, StrLaws.glued_between_self]
  ·rw [if_neg Bool.false_ne_true, StrLaws.glued_eq_join]
 ·exact ⟨[x], by rw [← StrLaws.glued_eq_join]; simp [Builtin.Str.glued], by rw [if_pos rfl, ← StrLaws.glued_eq_join]; simp [Builtin.Str.glued]⟩
theorem IA (x : Str) (cur : List Nat) : bh cur (Txt.replace x " (" "(").cps.toList = bh cur x.cps.toList := by
 obtain ⟨ps, e1, e2⟩ := sY x " (" "(" rfl
 rw [e2, mj]
 conv => rhs; rw [e1, mj]
 exact yk _ cur
theorem yl (a b : List Nat) (h : a.length ≤ b.length) : ∀ ps, (cH a ps).length ≤ (cH b ps).length
 | [] => Nat.le_refl _
 | [p] => Nat.le_refl _
 | p :: q :: ps => by
  have := yl a b h (q :: ps)
  simp only [cH, List.length_append]
  omega
theorem IB (x : Str) : (Txt.replace x " (" "(").length ≤ x.length := by
 obtain ⟨ps, e1, e2⟩ := sY x " (" "(" rfl
 have h1 : (Txt.replace x " (" "(").cps.toList.length ≤ x.cps.toList.length := by
  rw [e2, mj]
  conv => rhs; rw [e1, mj]
  exact yl _ _ (by decide) _
 simpa [Str.length] using h1
theorem vV (c k : Nat) (b : List Nat) (hb : b.length ≤ k) (hk : 1 ≤ k) : ∀ x : List Nat, (rp c b x).length ≤ k * x.length
 | [] => by simp [rp]
 | d :: r => by
  have ih := vV c k b hb hk r
  have e : rp c b (d :: r) = (if d = c then b else [d]) ++ rp c b r := by simp [rp]
  rw [e, List.length_append, List.length_cons, Nat.mul_add]
  split <;> simp <;> omega
end L3
end
section
set_option Elab.async false
set_option linter.all false
set_option maxRecDepth 100000
set_option maxHeartbeats 4000000
namespace K13
open PySem PySem.Spec L2 L3
noncomputable def top (i : Nat) : Stmt := PySem.Challenge.pw_pathshape_k13_shapes_written.main.body.getD i (.Pass ⟨0, 0, 0, 0⟩)
noncomputable abbrev bA : Stmt := top 7
noncomputable abbrev bB : Stmt := top 11
noncomputable abbrev bK : Stmt := top 12
noncomputable abbrev aD : Stmt := top 13
noncomputable abbrev bT : Stmt := top 14
noncomputable abbrev bU : Stmt := top 15
noncomputable abbrev cW : Stmt := top 16
noncomputable abbrev aP : Stmt := top 17
noncomputable abbrev aT : Stmt := top 18
noncomputable abbrev bg : Stmt := top 19
noncomputable abbrev aS : Stmt := top 20
noncomputable abbrev cD : Stmt := top 21
noncomputable abbrev cE : Stmt := top 22
noncomputable abbrev bI : Stmt := top 24
noncomputable abbrev d9 : Stmt := top 25
noncomputable abbrev bV : Stmt := top 26
noncomputable abbrev bM : Stmt := top 27
noncomputable abbrev aQ : Stmt := top 29
noncomputable abbrev bq : Stmt := top 30
noncomputable abbrev bF : Stmt := top 31
noncomputable abbrev aM : Stmt := top 32
noncomputable abbrev aO : Stmt := top 33
noncomputable abbrev aY : Stmt := top 34
noncomputable abbrev br : Stmt := top 35
noncomputable abbrev cu : Stmt := top 36
noncomputable def iX : D := .tup [.str "0", .str "1", .str "2"]
noncomputable def jk : D := .tup [.str "start", .str "rule", .str "row", .str "mix", .str "many", .str "any", .str "kind", .str "not", .str "both", .str "either", .str "way", .str "mark"]
noncomputable def jL : D := .str "abcdefghijklmnopqrstuvwxyz"
noncomputable def o5 : D := .int (8)
noncomputable def rj : D := .tup [.str "row", .str "mix"]
noncomputable abbrev sZ : List Str := ["text"]
noncomputable abbrev B9 : Nat := 1
noncomputable def o6 : MS := bP (pZ (BI (CI (kD qQ (AA .str (ai 0)))) (nV (aI (xV false) (ai 0) (eC jk)))) (fF (eC (.bl false))) (dQ)) (bP (pZ (BI (nV (aI (nU false) (aH jO (ah (ai 0) (aB))) (eC (.int 0)))) (nV (aI MH (aH jO (ah (ai 0) (aB))) (eC o5)))) (fF (eC (.bl false))) (dQ)) (fF (aH (Fj false) (ah (eFn (pM oN [] (ai 0) (nH) (aI (xV false) (ai 0) (eC jL)))) (aB)))))
noncomputable def lB (ds : List D) : M D := dw (fun ds => cj 1 o6 ds) ds
noncomputable abbrev qe : List Str := ["text", "spaced"]
noncomputable abbrev AZ : Nat := 1
noncomputable def mw : MS := bP (pZ (CI (kD qQ (AA .str (ai 0)))) (gT "NoText" (ah (eC (.str "what is read must be a text")) (aB))) (dQ)) (bP (cA 1 (LU (zh ")" " ) ") (LU (zh "(" " ( ") (LU (zh "\n" " ") (ai 0))))) (fF (eFn (pM oN [] (eFn (dY "str" vH (ai 1) (ah (eC (.str " ")) (aB)))) (nV (aI (nU true) (ai 0) (eC (.str "")))) (ai 0)))))
noncomputable def jS (ds : List D) : M D := dw (fun ds => cj 2 mw ds) ds
noncomputable abbrev vW : List Str := ["part", "sort"]
noncomputable abbrev tY : Nat := 1
noncomputable def mz : MS := bP (pZ (CH (kD qQ (AA .tup (ai 0))) (nV (aI (nU false) (aI fu (ai 0) (eC (.int 0))) (ai 1)))) (fF (aI fu (ai 0) (eC (.int 1)))) (dQ)) (gT "NoText" (ah (K6 "what must stand here: " (ai 1)) (aB)))
noncomputable def fP (ds : List D) : M D := dw (fun ds => cj 2 mz ds) ds
noncomputable abbrev vX : List Str := ["part"]
noncomputable abbrev tZ : Nat := 1
noncomputable def mC : MS := bP (pZ (nV (aI (xV false) (ai 0) (eC iX))) (fF (aH (fun ds => p9 iX ds) (ah (ai 0) (aB)))) (dQ)) (gT "NoText" (ah (eC (.str "0, 1 or 2 must stand here")) (aB)))
noncomputable def gA (ds : List D) : M D := dw (fun ds => cj 1 mC ds) ds
noncomputable abbrev ym : List Str := ["words"]
noncomputable abbrev qf : Nat := 1
noncomputable def o7 : MS := fF (aI bH (aI bH (eC (.str "(")) (dY "str" yf (eC (.str " ")) (ah (ai 0) (aB)))) (eC (.str ")")))
noncomputable def cX (ds : List D) : M D := dw (fun ds => cj 1 o7 ds) ds
noncomputable abbrev rm : List Str := ["_law_script", "_law_many", "_law_found", "_law_k", "_law_cell"]
noncomputable abbrev wY : Nat := 1
noncomputable def gq : MS := bP (cA 4 (eC (.int 0))) (bP (pZ (nV (aI MH (aH jO (ah (ai 0) (aB))) (eC (.int 0)))) (cA 4 (aI gp (aI fu (ai 0) (aI gp (ai 3) (aH jO (ah (ai 0) (aB))))) (aI HP (eC (.int 10)) (eC (.int 18))))) (dQ)) (pJ (dY "list" gx (ai 2) (ah (aI bH (ai 4) (aI DM (eC (.int 7919)) (aI ji (ai 3) (aH (p6 fun i j => if j > i then j else i) (ah (eC (.int 1)) (ah (aH jO (ah (ai 0) (aB))) (aB))))))) (aB)))))
noncomputable def jl : MS := bP (cA 2 (aH dg (aB))) (bP (j6 kZ (gN 3) (ah (ai 1) (aB)) gq) (fF (Nf (ai 2))))
noncomputable def fY (ds : List D) : M D := dw (fun ds => cj 5 jl ds) ds
noncomputable abbrev t9 : List Str := ["_law_draw", "_law_letters", "_law_name_here", "_law_k", "_law_at", "_law_taken"]
noncomputable abbrev rq : Nat := 1
noncomputable def gU : MS := bP (cA 4 (aI bH (aI bH (aI ji (ai 0) (eC (.int 208))) (aI DM (aI DM (eC (.int 7)) (ai 3)) (ai 3))) (aI DM (aI gp (aI ji (ai 0) (eC (.int 5408))) (eC (.int 26))) (ai 3)))) (cA 2 (aI bH (ai 2) (aI fu (ai 1) (aI gp (ai 4) (eC (.int 26))))))
noncomputable def mD : MS := bP (cA 5 (eFn (aH dg (ah (eC (.str "start")) (ah (eC (.str "rule")) (ah (eC (.str "row")) (ah (eC (.str "mix")) (ah (eC (.str "many")) (ah (eC (.str "any")) (ah (eC (.str "kind")) (ah (eC (.str "not")) (ah (eC (.str "both")) (ah (eC (.str "either")) (ah (eC (.str "way")) (ah (eC (.str "mark")) (aB)))))))))))))))) (bP (pZ (nV (aI (xV false) (ai 2) (ai 5))) (fF (aI bH (ai 2) (eC (.str "z")))) (dQ)) (fF (ai 2)))
noncomputable def iY : MS := bP (cA 1 (eC (.str "abcdefghijklmnopqrstuvwxyz"))) (bP (cA 2 (aI fu (ai 1) (aI gp (ai 0) (eC (.int 26))))) (bP (j6 kZ (gN 3) (ah (aI gp (aI ji (ai 0) (eC (.int 26))) (eC (.int 8))) (aB)) gU) (mD)))
noncomputable def cI (ds : List D) : M D := dw (fun ds => cj 6 iY ds) ds
noncomputable abbrev ua : List Str := ["_law_cell", "_law_pool", "_law_low", "_law_high"]
noncomputable abbrev zv : Nat := 1
noncomputable def kc : MS := bP (cA 2 (aI gp (ai 0) (eC (.int 3)))) (bP (cA 3 (aI fu (eFn (aH dg (ah (eC .gg) (ah (ai 2) (ah (eC (.int 2)) (ah (aI bH (ai 2) (aI ji (aI MG (eC (.int 2)) (ai 2)) (eC (.int 2)))) (aB))))))) (aI gp (aI ji (ai 0) (eC (.int 3))) (eC (.int 4))))) (fF (aH kW (ah (aI fu (ai 1) (aI gp (aI ji (ai 0) (eC (.int 12))) (aH jO (ah (ai 1) (aB))))) (ah (ai 2) (ah (ai 3) (aB)))))))
noncomputable def gD (ds : List D) : M D := dw (fun ds => cj 4 kc ds) ds
noncomputable abbrev lC : List Str := ["_law_item_here", "_law_high"]
noncomputable abbrev rz : Nat := 1
noncomputable def ef : MS := bP (cA 1 (eC (.str "many"))) (bP (pZ (nV (aI (Av true) (aI fu (ai 0) (eC (.int 2))) (eC .gg))) (cA 1 (aH pN (ah (aI fu (ai 0) (eC (.int 2))) (aB)))) (dQ)) (fF (aI bH (aI bH (aI bH (aI bH (aI bH (aI bH (eC (.str "(")) (aI fu (ai 0) (eC (.int 0)))) (eC (.str " "))) (aH pN (ah (aI fu (ai 0) (eC (.int 1))) (aB)))) (eC (.str " "))) (ai 1)) (eC (.str ")")))))
noncomputable def eg (ds : List D) : M D := dw (fun ds => cj 2 ef ds) ds
noncomputable abbrev rA : List Str := ["_law_shape", "_law_rule_here", "_law_item_here"]
noncomputable abbrev wZ : Nat := 1
noncomputable def iP : MS := pZ (BI (kD qQ (AA .bl (aI fu (ai 2) (eC (.int 1))))) (kD qQ (AA .bl (aI fu (ai 2) (eC (.int 2)))))) (fF (eC (.bl false))) (dQ)
noncomputable def iQ : MS := lW (gN 2) (aI fu (ai 1) (eC (.int 3))) iP
noncomputable def jm : MS := bP (lW (gN 1) (aI fu (ai 0) (eC (.int 1))) iQ) (fF (eC (.bl true)))
noncomputable def gW (ds : List D) : M D := dw (fun ds => cj 3 jm ds) ds
noncomputable abbrev n5 : List Str := ["parts", "sort"]
noncomputable abbrev rB : Nat := 2
noncomputable def kg : MS := fF (aH kE (ah (eFn (pM oN [false, true] (ai 0) (nH) (bD 2 fP (ah (ai 0) (ah (ai 2) (aB)))))) (aB)))
noncomputable def fQ (ds : List D) : M D := dw (fun ds => cj 2 kg ds) ds
noncomputable abbrev yo : List Str := ["part"]
noncomputable abbrev mE : Nat := 2
noncomputable def o8 : MS := bP (pZ (kD qQ (bD 1 lB (ah (ai 0) (aB)))) (fF (ai 0)) (dQ)) (gT "NoText" (ah (eC (.str "a name must stand here")) (aB)))
noncomputable def ff (ds : List D) : M D := dw (fun ds => cj 1 o8 ds) ds
noncomputable abbrev yp : List Str := ["part", "low", "high"]
noncomputable abbrev Ca : Nat := 2
noncomputable def lD : MS := bP (pZ (nV (aI (nU false) (ai 0) (eC (.str "many")))) (fF (eC .gg)) (dQ)) (bP (cA 2 (bD 1 gA (ah (ai 0) (aB)))) (bP (pZ (nV (aI Kz (ai 2) (ai 1))) (gT "NoText" (ah (eC (.str "a high must not be below its low")) (aB))) (dQ)) (fF (ai 2))))
noncomputable def lE (ds : List D) : M D := dw (fun ds => cj 3 lD ds) ds
noncomputable abbrev uc : List Str := ["item", "high"]
noncomputable abbrev zw : Nat := 2
noncomputable def iZ : MS := bP (cA 1 (Qq (nV (aI (Av false) (aI fu (ai 0) (eC (.int 2))) (eC .gg))) (eC (.str "many")) (aH pN (ah (aI fu (ai 0) (eC (.int 2))) (aB))))) (fF (bD 1 cX (ah (eFn (aH dg (ah (aI fu (ai 0) (eC (.int 0))) (ah (aH pN (ah (aI fu (ai 0) (eC (.int 1))) (aB))) (ah (ai 1) (aB)))))) (aB))))
noncomputable def gE (ds : List D) : M D := dw (fun ds => cj 2 iZ ds) ds
noncomputable abbrev ud : List Str := ["_law_cells", "_law_at", "_law_pool", "_law_kinds", "_law_items", "_law_k", "_law_cell"]
noncomputable abbrev zx : Nat := 2
noncomputable def jn : MS := pJ (dY "list" gx (ai 4) (ah (bD 2 gD (ah (aI ji (aI fu (ai 0) (aI gp (aI bH (aI bH (ai 1) (eC (.int 1))) (ai 5)) (aH jO (ah (ai 0) (aB))))) (aI bH (eC (.int 4)) (ai 5))) (ah (ai 2) (aB)))) (aB)))
noncomputable def rC : MS := bP (cA 6 (aI ji (aI fu (ai 0) (aI gp (ai 1) (aH jO (ah (ai 0) (aB))))) (eC (.int 4)))) (fF (aH kW (ah (aI fu (ai 2) (aI gp (ai 6) (aH jO (ah (ai 2) (aB))))) (ah (aI fu (ai 3) (aI gp (aI ji (ai 6) (eC (.int 7))) (aH jO (ah (ai 3) (aB))))) (ah (aI fu (eFn (aH dg (ah (eC (.str "row")) (ah (eC (.str "mix")) (aB))))) (aI gp (aI ji (ai 6) (eC (.int 49))) (eC (.int 2)))) (ah (aH kE (ah (ai 4) (aB))) (aB)))))))
noncomputable def kh : MS := bP (cA 4 (aH dg (aB))) (bP (j6 kZ (gN 5) (ah (aI gp (aI fu (ai 0) (aI gp (ai 1) (aH jO (ah (ai 0) (aB))))) (eC (.int 4))) (aB)) jn) (rC))
noncomputable def i0 (ds : List D) : M D := dw (fun ds => cj 7 kh ds) ds
noncomputable abbrev ue : List Str := ["_law_shape", "_law_text_here", "_law_name_here", "_law_kind", "_law_order", "_law_items", "_law_item_here"]
noncomputable abbrev zy : Nat := 2
noncomputable def jo : MS := cA 1 (aI bH (aI bH (ai 1) (eC (.str " "))) (bD 1 eg (ah (ai 6) (aB))))
noncomputable def jq : MS := bP (cA 1 (aI bH (aI bH (aI bH (aI bH (aI bH (aI bH (ai 1) (eC (.str " (rule "))) (ai 2)) (eC (.str " "))) (ai 3)) (eC (.str " "))) (ai 4))) (bP (lW (gN 6) (ai 5) jo) (cA 1 (aI bH (ai 1) (eC (.str ")")))))
noncomputable def ki : MS := bP (cA 1 (aI bH (eC (.str "(start ")) (aI fu (ai 0) (eC (.int 0))))) (bP (lW (QU 2 3 4 5) (aI fu (ai 0) (eC (.int 1))) jq) (fF (aI bH (ai 1) (eC (.str ")")))))
noncomputable def gF (ds : List D) : M D := dw (fun ds => cj 7 ki ds) ds
noncomputable abbrev pO : List Str := ["parts"]
noncomputable abbrev vY : Nat := 3
noncomputable def iR : MS := bP (pZ (nV (aI Kz (aH jO (ah (ai 0) (aB))) (eC (.int 3)))) (gT "NoText" (ah (eC (.str "a shape must have a start and a rule")) (aB))) (dQ)) (fF (aH kW (ah (bD 1 ff (ah (aI fu (ai 0) (eC (.int 1))) (aB))) (ah (bD 2 fQ (ah (eFn (HR (ai 0) (ng (eC (.int 2))) (xW))) (ah (eC (.str "rule")) (aB)))) (aB)))))
noncomputable def gr (ds : List D) : M D := dw (fun ds => cj 1 iR ds) ds
noncomputable abbrev rE : List Str := ["parts"]
noncomputable abbrev w6 : Nat := 3
noncomputable def jr : MS := bP (pZ (BI (nV (aI Kz (aH jO (ah (ai 0) (aB))) (eC (.int 4)))) (nV (aI (xV true) (aI fu (ai 0) (eC (.int 3))) (eC rj)))) (gT "NoText" (ah (eC (.str "a rule must have a name, a kind and an order")) (aB))) (dQ)) (fF (aH kW (ah (bD 1 ff (ah (aI fu (ai 0) (eC (.int 1))) (aB))) (ah (bD 1 ff (ah (aI fu (ai 0) (eC (.int 2))) (aB))) (ah (aI fu (ai 0) (eC (.int 3))) (ah (bD 2 fQ (ah (eFn (HR (ai 0) (ng (eC (.int 4))) (xW))) (ah (eC (.str "item")) (aB)))) (aB)))))))
noncomputable def gX (ds : List D) : M D := dw (fun ds => cj 1 jr ds) ds
noncomputable abbrev rF : List Str := ["parts", "low"]
noncomputable abbrev w9 : Nat := 3
noncomputable def jt : MS := bP (pZ (nV (aI (nU true) (aH jO (ah (ai 0) (aB))) (eC (.int 3)))) (gT "NoText" (ah (eC (.str "an item must have a name, a low and a high")) (aB))) (dQ)) (bP (cA 1 (bD 1 gA (ah (aI fu (ai 0) (eC (.int 1))) (aB)))) (fF (aH kW (ah (bD 1 ff (ah (aI fu (ai 0) (eC (.int 0))) (aB))) (ah (ai 1) (ah (bD 2 lE (ah (aI fu (ai 0) (eC (.int 2))) (ah (ai 1) (aB)))) (aB)))))))
noncomputable def gY (ds : List D) : M D := dw (fun ds => cj 2 jt ds) ds
noncomputable abbrev n6 : List Str := ["rule"]
noncomputable abbrev zz : Nat := 3
noncomputable def kj : MS := fF (bD 1 cX (ah (eFn (aI bH (eFn (aH dg (ah (eC (.str "rule")) (ah (aI fu (ai 0) (eC (.int 0))) (ah (aI fu (ai 0) (eC (.int 1))) (ah (aI fu (ai 0) (eC (.int 2))) (aB))))))) (eFn (pM oN [] (aI fu (ai 0) (eC (.int 3))) (nH) (bD 1 gE (ah (ai 0) (aB))))))) (aB)))
noncomputable def gH (ds : List D) : M D := dw (fun ds => cj 1 kj ds) ds
noncomputable abbrev nj : List Str := ["parts"]
noncomputable def dB : MS := bP (pZ (nV (aI (nU false) (eFn (HR (ai 0) (xW) (ng (eC (.int 1))))) (eFn (aH dg (ah (eC (.str "start")) (aB)))))) (fF (aH kW (ah (eC (.str "shape")) (ah (bD 1 gr (ah (ai 0) (aB))) (aB))))) (dQ)) (bP (pZ (nV (aI (nU false) (eFn (HR (ai 0) (xW) (ng (eC (.int 1))))) (eFn (aH dg (ah (eC (.str "rule")) (aB)))))) (fF (aH kW (ah (eC (.str "rule")) (ah (bD 1 gX (ah (ai 0) (aB))) (aB))))) (dQ)) (fF (aH kW (ah (eC (.str "item")) (ah (bD 1 gY (ah (ai 0) (aB))) (aB))))))
noncomputable def bG (ds : List D) : M D := dw (fun ds => cj 1 dB ds) ds
noncomputable abbrev mF : List Str := ["shape"]
noncomputable abbrev xg : Nat := 4
noncomputable def ju : MS := fF (bD 1 cX (ah (eFn (aI bH (eFn (aH dg (ah (eC (.str "start")) (ah (aI fu (ai 0) (eC (.int 0))) (aB))))) (eFn (pM oN [] (aI fu (ai 0) (eC (.int 1))) (nH) (bD 1 gH (ah (ai 0) (aB))))))) (aB)))
noncomputable def gZ (ds : List D) : M D := dw (fun ds => cj 1 ju ds) ds
noncomputable abbrev n8 : List Str := ["text", "make", "unshut", "word", "parts"]
noncomputable abbrev uI : Nat := 5
noncomputable def nq : MS := bP (cA 4 (dY "list" za (ai 2) aB)) (bP (pZ (nV (aI (nU false) (aH jO (ah (ai 2) (aB))) (eC (.int 0)))) (gT "NoText" (ah (eC (.str "a bracket is shut that was never begun")) (aB))) (dQ)) (pJ (dY "list" gx (aI fu (ai 2) (Fd (eC (.int 1)))) (ah (zg 1 1 (fun y => List.lookup y [("make_in_shape", bG)]) (ah (Nf (ai 4)) (aB))) (aB)))))
noncomputable def cy : MS := pZ (nV (aI (nU false) (ai 3) (eC (.str "(")))) (pJ (dY "list" gx (ai 2) (ah (aH dg (aB)) (aB)))) (pZ (nV (aI (nU false) (ai 3) (eC (.str ")")))) (nq) (pJ (dY "list" gx (aI fu (ai 2) (Fd (eC (.int 1)))) (ah (ai 3) (aB)))))
noncomputable def nt : MS := bP (pZ (nV (aI MH (aH jO (ah (ai 2) (aB))) (eC (.int 1)))) (gT "NoText" (ah (eC (.str "a bracket is not shut")) (aB))) (dQ)) (bP (pZ (nV (aI (nU true) (aH jO (ah (aI fu (ai 2) (eC (.int 0))) (aB))) (eC (.int 1)))) (gT "NoText" (ah (eC (.str "a text must write one thing")) (aB))) (dQ)) (fF (aI fu (aI fu (ai 2) (eC (.int 0))) (eC (.int 0)))))
noncomputable def g6 : MS := bP (cA 2 (aH dg (ah (aH dg (aB)) (aB)))) (bP (lW (gN 3) (bD 1 jS (ah (ai 0) (aB))) cy) (nt))
noncomputable def fR (ds : List D) : M D := dw (fun ds => cj 5 g6 ds) ds
noncomputable abbrev rG : List Str := ["text"]
noncomputable abbrev kF : Nat := 6
noncomputable def jv : MS := fF (bD 2 fP (ah (bD 2 fR (ah (ai 0) (ah (eC (.fn "make_in_shape")) (aB)))) (ah (eC (.str "shape")) (aB))))
noncomputable def eS (ds : List D) : M D := dw (fun ds => cj 1 jv ds) ds
noncomputable abbrev A0 : List Str := ["_law_script", "_law_draws_here", "_law_pool", "_law_kinds", "_law_cells", "_law_rules", "_law_k", "_law_shape", "_law_text_here", "_law_loose", "_law_found"]
noncomputable def zA : MS := pJ (dY "list" gx (ai 5) (ah (bD 4 i0 (ah (ai 4) (ah (aI DM (eC (.int 4)) (ai 6)) (ah (ai 2) (ah (ai 3) (aB)))))) (aB)))
noncomputable def Cb : MS := bP (cA 7 (aH kW (ah (aI fu (ai 2) (aI gp (aI fu (ai 1) (eC (.int 8))) (eC (.int 4)))) (ah (aH kE (ah (ai 5) (aB))) (aB))))) (bP (cA 8 (bD 1 gF (ah (ai 7) (aB)))) (bP (cA 9 (nZ " " [" ", "  ", "\n "] (ai 8) (aI gp (aI fu (ai 1) (eC (.int 9))) (eC (.int 3))))) (bP (pZ (nV (aI (nU false) (aI gp (aI ji (aI fu (ai 1) (eC (.int 9))) (eC (.int 3))) (eC (.int 2))) (eC (.int 1)))) (cA 9 (nZ "(" ["( ", "\n(", " ( "] (ai 9) (aI gp (aI fu (ai 1) (eC (.int 10))) (eC (.int 3))))) (dQ)) (bP (pZ (nV (aI (nU false) (aI gp (aI ji (aI fu (ai 1) (eC (.int 9))) (eC (.int 6))) (eC (.int 2))) (eC (.int 1)))) (cA 9 (nZ ")" [" )", ")\n", "\n ) "] (ai 9) (aI gp (aI fu (ai 1) (eC (.int 11))) (eC (.int 3))))) (dQ)) (bP (cA 10 (bD 1 eS (ah (ai 9) (aB)))) (bP (pZ (nV (aI (nU true) (bD 1 eS (ah (LU (zh " (" "(") (ai 8)) (aB))) (ai 7))) (fF (eC (.bl false))) (dQ)) (fF (Fc (aI (nU false) (bD 1 gZ (ah (ai 7) (aB))) (ai 8)) (Fc (aI (nU false) (bD 1 eS (ah (ai 8) (aB))) (ai 7)) (Fc (aI (nU false) (ai 10) (ai 7)) (bD 1 gW (ah (ai 10) (aB)))))))))))))
noncomputable def Gb : MS := bP (cA 4 (eFn (aI bH (eFn (pM oN [] (eFn (HR (ai 0) (ng (eC (.int 3))) (ng (eC (.int 63))))) (nH) (aI gp (ai 0) (aI HP (eC (.int 10)) (eC (.int 18)))))) (eFn (HR (ai 1) (ng (eC (.int 7))) (ng (eC (.int 12)))))))) (bP (cA 5 (aH dg (aB))) (bP (j6 kZ (gN 6) (ah (aI bH (eC (.int 1)) (aI gp (aI fu (ai 1) (eC (.int 7))) (eC (.int 8)))) (aB)) zA) (Cb)))
noncomputable def Gd : MS := bP (cA 3 (eFn (sM kZ oN [false, true] (ah (eC (.int 3)) (aB)) (nH) (bD 1 cI (ah (aI fu (ai 2) (aI bH (eC (.int 4)) (ai 0))) (aB)))))) (Gb)
noncomputable def Df : MS := bP (cA 1 (bD 2 fY (ah (ai 0) (ah (eC (.int 12)) (aB))))) (bP (cA 2 (eFn (sM kZ oN [false, true] (ah (eC (.int 4)) (aB)) (nH) (bD 1 cI (ah (aI fu (ai 2) (ai 0)) (aB)))))) (Gd))
noncomputable def Dg (ds : List D) : M D := dw (fun ds => cj 11 Df ds) ds
structure Q5 where
  f : Nat → Addr
  d : Nat → FuncData
  c : Nat → Addr
structure Txt (K : PySem.W.Frag) (mg : Str → Option Value) (t : Q5) : Prop where
  yq : qI K "is_name" "is_name" bA (t.f 0) (t.d 0)
  Ef : Binds K (t.d 0) ["text"] []
  Eg : mg "is_name" = some (.ref (t.f 0))
  jw : qI K "read_shape" "read_shape" bB (t.f 1) (t.d 1)
  mG : Binds K (t.d 1) ["text"] []
  mH : mg "read_shape" = some (.ref (t.f 1))
  vZ : qI K "words_of" "words_of" bK (t.f 2) (t.d 2)
  Cc : Binds K (t.d 2) ["text"] []
  Cd : mg "words_of" = some (.ref (t.f 2))
  n9 : qI K "read_bracket" "read_bracket" aD (t.f 3) (t.d 3)
  v5 : Binds K (t.d 3) ["text", "make"] []
  wc : mg "read_bracket" = some (.ref (t.f 3))
  qg : qI K "value_of" "value_of" bT (t.f 4) (t.d 4)
  we : Binds K (t.d 4) ["part", "sort"] []
  wg : mg "value_of" = some (.ref (t.f 4))
  oh : qI K "values_of" "values_of" bU (t.f 5) (t.d 5)
  uf : Binds K (t.d 5) ["parts", "sort"] []
  ug : mg "values_of" = some (.ref (t.f 5))
  lF : qI K "name_of" "name_of" cW (t.f 6) (t.d 6)
  o9 : Binds K (t.d 6) ["part"] []
  pe : mg "name_of" = some (.ref (t.f 6))
  nv : qI K "make_in_shape" "make_in_shape" aP (t.f 7) (t.d 7)
  uJ : Binds K (t.d 7) ["parts"] []
  ny : mg "make_in_shape" = some (.ref (t.f 7))
  pP : qI K "shape_value" "shape_value" aT (t.f 8) (t.d 8)
  xh : Binds K (t.d 8) ["parts"] []
  xj : mg "shape_value" = some (.ref (t.f 8))
  rH : qI K "rule_value" "rule_value" bg (t.f 9) (t.d 9)
  zB : Binds K (t.d 9) ["parts"] []
  zC : mg "rule_value" = some (.ref (t.f 9))
  rJ : qI K "item_value" "item_value" aS (t.f 10) (t.d 10)
  zD : Binds K (t.d 10) ["parts"] []
  zE : mg "item_value" = some (.ref (t.f 10))
  qh : qI K "count_of" "count_of" cD (t.f 11) (t.d 11)
  wj : Binds K (t.d 11) ["part"] []
  wk : mg "count_of" = some (.ref (t.f 11))
  yr : qI K "high_of" "high_of" cE (t.f 12) (t.d 12)
  Eh : Binds K (t.d 12) ["part", "low"] []
  Ei : mg "high_of" = some (.ref (t.f 12))
  rK : qI K "show_shape" "show_shape" bI (t.f 13) (t.d 13)
  zF : Binds K (t.d 13) ["shape"] []
  zG : mg "show_shape" = some (.ref (t.f 13))
  pq : qI K "bracket" "bracket" d9 (t.f 14) (t.d 14)
  tu : Binds K (t.d 14) ["words"] []
  tw : mg "bracket" = some (.ref (t.f 14))
  uh : qI K "rule_text" "rule_text" bV (t.f 15) (t.d 15)
  A1 : Binds K (t.d 15) ["rule"] []
  A2 : mg "rule_text" = some (.ref (t.f 15))
  um : qI K "item_text" "item_text" bM (t.f 16) (t.d 16)
  A3 : Binds K (t.d 16) ["item"] []
  A4 : mg "item_text" = some (.ref (t.f 16))
  rL : qI K "_law_draws" "_law_draws" aQ (t.f 17) (t.d 17)
  zH : Binds K (t.d 17) ["_law_script", "_law_many"] []
  zI : mg "_law_draws" = some (.ref (t.f 17))
  oi : qI K "_law_name" "_law_name" bq (t.f 18) (t.d 18)
  uo : Binds K (t.d 18) ["_law_draw"] []
  uq : mg "_law_name" = some (.ref (t.f 18))
  ur : qI K "_law_item" "_law_item" bF (t.f 19) (t.d 19)
  A5 : Binds K (t.d 19) ["_law_cell", "_law_pool"] []
  A6 : mg "_law_item" = some (.ref (t.f 19))
  uu : qI K "_law_rule" "_law_rule" aM (t.f 20) (t.d 20)
  A7 : Binds K (t.d 20) ["_law_cells", "_law_at", "_law_pool", "_law_kinds"] []
  A8 : mg "_law_rule" = some (.ref (t.f 20))
  lG : qI K "_law_item_text" "_law_item_text" aO (t.f 21) (t.d 21)
  tB : Binds K (t.d 21) ["_law_item_here"] []
  tD : mg "_law_item_text" = some (.ref (t.f 21))
  uv : qI K "_law_text" "_law_text" aY (t.f 22) (t.d 22)
  A9 : Binds K (t.d 22) ["_law_shape"] []
  Ba : mg "_law_text" = some (.ref (t.f 22))
  rM : qI K "_law_whole" "_law_whole" br (t.f 23) (t.d 23)
  zJ : Binds K (t.d 23) ["_law_shape"] []
  zK : mg "_law_whole" = some (.ref (t.f 23))
  Ni : qI K "law" "law" cu (t.f 24) (t.d 24)
  S6 : Binds K (t.d 24) ["_law_script"] []
  M_law : mg "law" = some (.ref (t.f 24))
  Nj : mg "all" = none
  Ge : mg "bool" = none
  g7 : mg "isinstance" = none
  i6 : mg "len" = none
  Nk : mg "max" = none
  pA : mg "range" = none
  yt : mg "str" = none
  uZ : mg "tuple" = none
  Bb : tS K mg "COUNTS" iX
  zL : tS K mg "KEPT_WORDS" jk
  Ej : tS K mg "LETTERS" jL
  Ek : tS K mg "LONGEST" o5
  Gf : tS K mg "ORDERS" rj
  Gg : Jo K mg "COUNTS"
  NB : QX K
  fS : mg "NoText" = some (.ref (t.c 0))
  fT : PySem.W.excIn K (t.c 0) BR "ValueError.__new__" = true
theorem yu : DN "COUNTS" := by decide +kernel
theorem xm : DN "KEPT_WORDS" := by decide +kernel
theorem Ce : DN "LETTERS" := by decide +kernel
theorem Cf : DN "LONGEST" := by decide +kernel
theorem eu : DN "NoText" := by decide +kernel
theorem El : DN "ORDERS" := by decide +kernel
theorem mJ : DN "_law_at" := by decide +kernel
theorem dI : DN "_law_cell" := by decide +kernel
theorem dO : DN "_law_cells" := by decide +kernel
theorem jx : DN "_law_draw" := by decide +kernel
theorem xo : DN "_law_draws" := by decide +kernel
theorem aU : DN "_law_draws_here" := by decide +kernel
theorem iS : DN "_law_found" := by decide +kernel
theorem rN : DN "_law_high" := by decide +kernel
theorem zM : DN "_law_item" := by decide +kernel
theorem b8 : DN "_law_item_here" := by decide +kernel
theorem rO : DN "_law_item_text" := by decide +kernel
theorem kG : DN "_law_items" := by decide +kernel
theorem fh : DN "_law_k" := by decide +kernel
theorem zN : DN "_law_kind" := by decide +kernel
theorem kH : DN "_law_kinds" := by decide +kernel
theorem nA : DN "_law_letters" := by decide +kernel
theorem kI : DN "_law_loose" := by decide +kernel
theorem ko : DN "_law_low" := by decide +kernel
theorem zO : DN "_law_many" := by decide +kernel
theorem rP : DN "_law_name" := by decide +kernel
theorem dJ : DN "_law_name_here" := by decide +kernel
theorem xq : DN "_law_order" := by decide +kernel
theorem eT : DN "_law_pool" := by decide +kernel
theorem zP : DN "_law_rule" := by decide +kernel
theorem rQ : DN "_law_rule_here" := by decide +kernel
theorem pQ : DN "_law_rules" := by decide +kernel
theorem eB : DN "_law_script" := by decide +kernel
theorem cV : DN "_law_shape" := by decide +kernel
theorem xr : DN "_law_taken" := by decide +kernel
theorem zQ : DN "_law_text" := by decide +kernel
theorem bN : DN "_law_text_here" := by decide +kernel
theorem xu : DN "_law_whole" := by decide +kernel
theorem Dh : DN "bool" := by decide +kernel
theorem qj : DN "bracket" := by decide +kernel
theorem uw : DN "count_of" := by decide +kernel
theorem zR : DN "high" := by decide +kernel
theorem Cg : DN "high_of" := by decide +kernel
theorem Ci : DN "is_name" := by decide +kernel
theorem rR : DN "item" := by decide +kernel
theorem zS : DN "item_text" := by decide +kernel
theorem xw : DN "item_value" := by decide +kernel
theorem Cj : DN "low" := by decide +kernel
theorem IC : DN "make" := by decide +kernel
theorem tE : DN "make_in_shape" := by decide +kernel
theorem mK : DN "name_of" := by decide +kernel
theorem iT : DN "part" := by decide +kernel
theorem bW : DN "parts" := by decide +kernel
theorem uK : DN "read_bracket" := by decide +kernel
theorem kJ : DN "read_shape" := by decide +kernel
theorem rS : DN "rule" := by decide +kernel
theorem zT : DN "rule_text" := by decide +kernel
theorem xx : DN "rule_value" := by decide +kernel
theorem Bc : DN "shape" := by decide +kernel
theorem wm : DN "shape_value" := by decide +kernel
theorem xy : DN "show_shape" := by decide +kernel
theorem ID : DN "sign" := by decide +kernel
theorem zU : DN "sort" := by decide +kernel
theorem Em : DN "spaced" := by decide +kernel
theorem Gh : DN "str" := by decide +kernel
theorem jy : DN "text" := by decide +kernel
theorem Gi : DN "tuple" := by decide +kernel
theorem gI : DN "unshut" := by decide +kernel
theorem ux : DN "value_of" := by decide +kernel
theorem rT : DN "values_of" := by decide +kernel
theorem rV : DN "word" := by decide +kernel
theorem Gj : DN "words" := by decide +kernel
theorem Bd : DN "words_of" := by decide +kernel
theorem Di : bootBuiltins "bool" = some (.type (Ty.nm .bl)) := by decide +kernel
theorem Dj : ("bool" : Str) ≠ "__name__" := by decide +kernel
theorem Gk : bootBuiltins "str" = some (.type (Ty.nm .str)) := by decide +kernel
theorem Gm : ("str" : Str) ≠ "__name__" := by decide +kernel
theorem Gn : bootBuiltins "tuple" = some (.type (Ty.nm .tup)) := by decide +kernel
theorem Gp : ("tuple" : Str) ≠ "__name__" := by decide +kernel
noncomputable def rW : Scope := {kind := .function, names := [ (.ofString ".0", .local), (.ofString "sign", .local), (.ofString "LETTERS", .globalImplicit)], isGenerator := false, isCoroutine := false, more := []}
theorem jT : cN (aa bA) sZ rW ["sign"] [] := ⟨by decide +kernel, rfl, by decide +kernel, by decide +kernel, by decide +kernel, by decide +kernel, by decide +kernel⟩
noncomputable def xA : Scope := {kind := .function, names := [(.ofString ".0", .local), (.ofString "word", .local)], isGenerator := false, isCoroutine := false, more := []}
theorem gy : cN (aa bK) qe xA ["word"] [] := ⟨by decide +kernel, rfl, by decide +kernel, by decide +kernel, by decide +kernel, by decide +kernel, by decide +kernel⟩
noncomputable def jU : Scope := {kind := .function, names := [ (.ofString ".0", .local), (.ofString "part", .local), (.ofString "value_of", .globalImplicit), (.ofString "sort", .free)], isGenerator := false, isCoroutine := false, more := []}
theorem fZ : cN (aa bU) n5 jU ["part"] [false, true] := ⟨by decide +kernel, rfl, by decide +kernel, by decide +kernel, by decide +kernel, by decide +kernel, by decide +kernel⟩
noncomputable def nB : Scope := {kind := .function, names := [ (.ofString ".0", .local), (.ofString "rule", .local), (.ofString "rule_text", .globalImplicit)], isGenerator := false, isCoroutine := false, more := []}
theorem g8 : cN (aa bI) mF nB ["rule"] [] := ⟨by decide +kernel, rfl, by decide +kernel, by decide +kernel, by decide +kernel, by decide +kernel, by decide +kernel⟩
noncomputable def oj : Scope := {kind := .function, names := [ (.ofString ".0", .local), (.ofString "item", .local), (.ofString "item_text", .globalImplicit)], isGenerator := false, isCoroutine := false, more := []}
theorem iH : cN (aa bV) n6 oj ["item"] [] := ⟨by decide +kernel, rfl, by decide +kernel, by decide +kernel, by decide +kernel, by decide +kernel, by decide +kernel⟩
noncomputable def wu : Scope := {kind := .function, names := [ (.ofString ".0", .local), (.ofString "_law_k", .local), (.ofString "_law_name", .globalImplicit), (.ofString "_law_draws_here", .free)], isGenerator := false, isCoroutine := false, more := []}
theorem mL : cN (aa cu) A0 wu ["_law_k"] [false, true] := ⟨by decide +kernel, rfl, by decide +kernel, by decide +kernel, by decide +kernel, by decide +kernel, by decide +kernel⟩
noncomputable def wz : Scope := {kind := .function, names := [ (.ofString ".0", .local), (.ofString "_law_k", .local), (.ofString "_law_name", .globalImplicit), (.ofString "_law_draws_here", .free)], isGenerator := false, isCoroutine := false, more := []}
theorem mO : cN (aa cu) A0 wz ["_law_k"] [false, true] := ⟨by decide +kernel, rfl, by decide +kernel, by decide +kernel, by decide +kernel, by decide +kernel, by decide +kernel⟩
noncomputable def Gq : Scope := {kind := .function, names := [(.ofString ".0", .local), (.ofString "_law_cell", .local)], isGenerator := false, isCoroutine := false, more := []}
theorem qk : cN (aa cu) A0 Gq ["_law_cell"] [] := ⟨by decide +kernel, rfl, by decide +kernel, by decide +kernel, by decide +kernel, by decide +kernel, by decide +kernel⟩
theorem eE : LK (aa aQ) "_law_cell" .local := by decide +kernel
theorem dP : LK (aa aQ) "_law_found" .local := by decide +kernel
theorem fU : LK (aa aQ) "_law_k" .local := by decide +kernel
theorem lH : LK (aa aQ) "_law_many" .local := by decide +kernel
theorem cz : LK (aa aQ) "_law_script" .local := by decide +kernel
theorem g9 : LK (aa aQ) "len" .globalImplicit := by decide +kernel
theorem rX : LK (aa aQ) "max" .globalImplicit := by decide +kernel
theorem pC : LK (aa aQ) "range" .globalImplicit := by decide +kernel
theorem eU : LK (aa bF) "_law_cell" .local := by decide +kernel
theorem ia : LK (aa bF) "_law_high" .local := by decide +kernel
theorem cB : LK (aa bF) "_law_low" .local := by decide +kernel
theorem ic : LK (aa bF) "_law_pool" .local := by decide +kernel
theorem tF : LK (aa bF) "len" .globalImplicit := by decide +kernel
theorem cR : LK (aa aO) "_law_high" .local := by decide +kernel
theorem bC : LK (aa aO) "_law_item_here" .local := by decide +kernel
theorem iC : LK (aa aO) "str" .globalImplicit := by decide +kernel
theorem i7 : LK (aa bq) "_law_at" .local := by decide +kernel
theorem cS : LK (aa bq) "_law_draw" .local := by decide +kernel
theorem dS : LK (aa bq) "_law_k" .local := by decide +kernel
theorem dz : LK (aa bq) "_law_letters" .local := by decide +kernel
theorem aW : LK (aa bq) "_law_name_here" .local := by decide +kernel
theorem gJ : LK (aa bq) "_law_taken" .local := by decide +kernel
theorem ql : LK (aa bq) "range" .globalImplicit := by decide +kernel
theorem fV : LK (aa aM) "_law_at" .local := by decide +kernel
theorem cT : LK (aa aM) "_law_cell" .local := by decide +kernel
theorem bE : LK (aa aM) "_law_cells" .local := by decide +kernel
theorem mP : LK (aa aM) "_law_item" .globalImplicit := by decide +kernel
theorem eF : LK (aa aM) "_law_items" .local := by decide +kernel
theorem gi : LK (aa aM) "_law_k" .local := by decide +kernel
theorem gK : LK (aa aM) "_law_kinds" .local := by decide +kernel
theorem eV : LK (aa aM) "_law_pool" .local := by decide +kernel
theorem eH : LK (aa aM) "len" .globalImplicit := by decide +kernel
theorem qp : LK (aa aM) "range" .globalImplicit := by decide +kernel
theorem qu : LK (aa aM) "tuple" .globalImplicit := by decide +kernel
theorem fB : LK (aa aY) "_law_item_here" .local := by decide +kernel
theorem jz : LK (aa aY) "_law_item_text" .globalImplicit := by decide +kernel
theorem gM : LK (aa aY) "_law_items" .local := by decide +kernel
theorem ie : LK (aa aY) "_law_kind" .local := by decide +kernel
theorem fC : LK (aa aY) "_law_name_here" .local := by decide +kernel
theorem gP : LK (aa aY) "_law_order" .local := by decide +kernel
theorem gQ : LK (aa aY) "_law_shape" .local := by decide +kernel
theorem aF : LK (aa aY) "_law_text_here" .local := by decide +kernel
theorem cO : LK (aa br) "_law_item_here" .local := by decide +kernel
theorem eY : LK (aa br) "_law_rule_here" .local := by decide +kernel
theorem kK : LK (aa br) "_law_shape" .local := by decide +kernel
theorem jV : LK (aa br) "bool" .globalImplicit := by decide +kernel
theorem gu : LK (aa br) "isinstance" .globalImplicit := by decide +kernel
theorem tG : LK (aa d9) "words" .local := by decide +kernel
theorem jW : LK (aa cD) "COUNTS" .globalImplicit := by decide +kernel
theorem qv : LK (aa cD) "NoText" .globalImplicit := by decide +kernel
theorem lI : LK (aa cD) "part" .local := by decide +kernel
theorem lJ : LK rW "LETTERS" .globalImplicit := by decide +kernel
theorem jA : LK wu "_law_draws_here" .free := by decide +kernel
theorem nJ : LK wu "_law_name" .globalImplicit := by decide +kernel
theorem jB : LK wz "_law_draws_here" .free := by decide +kernel
theorem nK : LK wz "_law_name" .globalImplicit := by decide +kernel
theorem jC : LK oj "item_text" .globalImplicit := by decide +kernel
theorem jd : LK nB "rule_text" .globalImplicit := by decide +kernel
theorem mQ : LK jU "sort" .free := by decide +kernel
theorem jX : LK jU "value_of" .globalImplicit := by decide +kernel
theorem rY : LK (aa cE) "NoText" .globalImplicit := by decide +kernel
theorem pD : LK (aa cE) "count_of" .globalImplicit := by decide +kernel
theorem je : LK (aa cE) "high" .local := by decide +kernel
theorem wA : LK (aa cE) "low" .local := by decide +kernel
theorem nD : LK (aa cE) "part" .local := by decide +kernel
theorem nL : LK (aa bA) "KEPT_WORDS" .globalImplicit := by decide +kernel
theorem qw : LK (aa bA) "LONGEST" .globalImplicit := by decide +kernel
theorem wB : LK (aa bA) "all" .globalImplicit := by decide +kernel
theorem nM : LK (aa bA) "isinstance" .globalImplicit := by decide +kernel
theorem om : LK (aa bA) "len" .globalImplicit := by decide +kernel
theorem wC : LK (aa bA) "str" .globalImplicit := by decide +kernel
theorem eZ : LK (aa bA) "text" .local := by decide +kernel
theorem oq : LK (aa bM) "bracket" .globalImplicit := by decide +kernel
theorem kq : LK (aa bM) "high" .local := by decide +kernel
theorem fD : LK (aa bM) "item" .local := by decide +kernel
theorem lK : LK (aa bM) "str" .globalImplicit := by decide +kernel
theorem ou : LK (aa aS) "NoText" .globalImplicit := by decide +kernel
theorem mR : LK (aa aS) "count_of" .globalImplicit := by decide +kernel
theorem nN : LK (aa aS) "high_of" .globalImplicit := by decide +kernel
theorem rZ : LK (aa aS) "len" .globalImplicit := by decide +kernel
theorem ig : LK (aa aS) "low" .local := by decide +kernel
theorem nO : LK (aa aS) "name_of" .globalImplicit := by decide +kernel
theorem dU : LK (aa aS) "parts" .local := by decide +kernel
theorem kr : LK (aa cu) "_law_cells" .local := by decide +kernel
theorem r6 : LK (aa cu) "_law_draws" .globalImplicit := by decide +kernel
theorem aK : LK (aa cu) "_law_draws_here" .cell := by decide +kernel
theorem ir : LK (aa cu) "_law_found" .local := by decide +kernel
theorem pR : LK (aa cu) "_law_k" .local := by decide +kernel
theorem iu : LK (aa cu) "_law_kinds" .local := by decide +kernel
theorem cK : LK (aa cu) "_law_loose" .local := by decide +kernel
theorem gb : LK (aa cu) "_law_pool" .local := by decide +kernel
theorem tH : LK (aa cu) "_law_rule" .globalImplicit := by decide +kernel
theorem iw : LK (aa cu) "_law_rules" .local := by decide +kernel
theorem jY : LK (aa cu) "_law_script" .local := by decide +kernel
theorem cL : LK (aa cu) "_law_shape" .local := by decide +kernel
theorem tK : LK (aa cu) "_law_text" .globalImplicit := by decide +kernel
theorem cC : LK (aa cu) "_law_text_here" .local := by decide +kernel
theorem r8 : LK (aa cu) "_law_whole" .globalImplicit := by decide +kernel
theorem mS : LK (aa cu) "range" .globalImplicit := by decide +kernel
theorem iy : LK (aa cu) "read_shape" .globalImplicit := by decide +kernel
theorem r9 : LK (aa cu) "show_shape" .globalImplicit := by decide +kernel
theorem zV : LK (aa cu) "tuple" .globalImplicit := by decide +kernel
theorem jD : LK (aa aP) "item_value" .globalImplicit := by decide +kernel
theorem b9 : LK (aa aP) "parts" .local := by decide +kernel
theorem jE : LK (aa aP) "rule_value" .globalImplicit := by decide +kernel
theorem jf : LK (aa aP) "shape_value" .globalImplicit := by decide +kernel
theorem se : LK (aa cW) "NoText" .globalImplicit := by decide +kernel
theorem qx : LK (aa cW) "is_name" .globalImplicit := by decide +kernel
theorem nE : LK (aa cW) "part" .local := by decide +kernel
theorem eW : LK (aa aD) "NoText" .globalImplicit := by decide +kernel
theorem gj : LK (aa aD) "len" .globalImplicit := by decide +kernel
theorem oz : LK (aa aD) "make" .local := by decide +kernel
theorem iD : LK (aa aD) "parts" .local := by decide +kernel
theorem oA : LK (aa aD) "text" .local := by decide +kernel
theorem aL : LK (aa aD) "unshut" .local := by decide +kernel
theorem dM : LK (aa aD) "word" .local := by decide +kernel
theorem kL : LK (aa aD) "words_of" .globalImplicit := by decide +kernel
theorem jF : LK (aa bB) "make_in_shape" .globalImplicit := by decide +kernel
theorem jZ : LK (aa bB) "read_bracket" .globalImplicit := by decide +kernel
theorem qy : LK (aa bB) "text" .local := by decide +kernel
theorem mT : LK (aa bB) "value_of" .globalImplicit := by decide +kernel
theorem oB : LK (aa bV) "bracket" .globalImplicit := by decide +kernel
theorem fE : LK (aa bV) "rule" .local := by decide +kernel
theorem oE : LK (aa bg) "NoText" .globalImplicit := by decide +kernel
theorem oF : LK (aa bg) "ORDERS" .globalImplicit := by decide +kernel
theorem sf : LK (aa bg) "len" .globalImplicit := by decide +kernel
theorem iE : LK (aa bg) "name_of" .globalImplicit := by decide +kernel
theorem cg : LK (aa bg) "parts" .local := by decide +kernel
theorem lM : LK (aa bg) "values_of" .globalImplicit := by decide +kernel
theorem nP : LK (aa aT) "NoText" .globalImplicit := by decide +kernel
theorem qA : LK (aa aT) "len" .globalImplicit := by decide +kernel
theorem mU : LK (aa aT) "name_of" .globalImplicit := by decide +kernel
theorem fW : LK (aa aT) "parts" .local := by decide +kernel
theorem kM : LK (aa aT) "values_of" .globalImplicit := by decide +kernel
theorem nQ : LK (aa bI) "bracket" .globalImplicit := by decide +kernel
theorem jj : LK (aa bI) "shape" .local := by decide +kernel
theorem qB : LK (aa bT) "NoText" .globalImplicit := by decide +kernel
theorem mV : LK (aa bT) "isinstance" .globalImplicit := by decide +kernel
theorem iI : LK (aa bT) "part" .local := by decide +kernel
theorem lN : LK (aa bT) "sort" .local := by decide +kernel
theorem sj : LK (aa bT) "tuple" .globalImplicit := by decide +kernel
theorem qC : LK (aa bU) "parts" .local := by decide +kernel
theorem qD : LK (aa bU) "tuple" .globalImplicit := by decide +kernel
theorem qE : LK (aa bK) "NoText" .globalImplicit := by decide +kernel
theorem mW : LK (aa bK) "isinstance" .globalImplicit := by decide +kernel
theorem j0 : LK (aa bK) "spaced" .local := by decide +kernel
theorem uL : LK (aa bK) "str" .globalImplicit := by decide +kernel
theorem lO : LK (aa bK) "text" .local := by decide +kernel
section
variable {P : Program} {w : World} {K : PySem.W.Frag} {mg : Str → Option Value} {base : Heap} {t : Q5}
theorem wD : bz sZ ["text"] (aa bA) := ⟨rfl, rfl, rfl, by decide +kernel, rfl, by decide +kernel, by decide +kernel⟩
theorem Ck (T : Txt K mg t) : aR P w K mg base (bX P w) 1 (t.f 0) (t.d 0) ["text"] (aN K mg 1 lB) := by
 refine aR.imp (sp := aN K mg 1 (fun ds => cj 1 o6 ds)) ?_ bR
 refine uS (k := 0) (ms := o6) T.yq wD (by decide) (by decide) (fun _ => rfl) ?_
 intro X EE cdv A outer s H E hX hr hx pF
 subst hX
 have hu := bQ hr
 have nd := wD.nd
 have hfr : dG (fG (bX P w) P w K mg base sZ "is_name" (aa bA) (t.f 0) cdv A outer s H E) := ⟨_, outer, s.heap.objs.size, rfl, rfl, rfl⟩
 refine ao ?_ ?_
 refine eX ?_ ?_ ?_
 refine E8 ?_
 refine CJ ?_ ?_
 refine E9 ?_
 refine sP ?_ ?_
 refine vF .str ?_ ?_ ?_ ?_ ?_ ?_ ?_ ?_ ?_ ?_
 decide
 exact T.g7
 exact T.yt
 exact nM
 exact wC
 refine af 0 ?_ ?_ ?_
 exact (Or.inl eZ)
 exact jy
 exact rfl
 exact Gk
 exact Gm
 exact Gh.1
 decide +kernel
 decide +kernel
 refine yY ?_
 refine cG ?_ ?_ ?_ ?_
 exact (yX hu)
 refine af 0 ?_ ?_ ?_
 exact (Or.inl eZ)
 exact jy
 exact rfl
 refine qT ?_ ?_ ?_
 exact T.zL
 exact nL
 exact xm
 decide +kernel
 refine au ?_
 refine bJ ?_
 exact Au
 exact bY
 refine ao ?_ ?_
 refine eX ?_ ?_ ?_
 refine E8 ?_
 refine CJ ?_ ?_
 refine cG ?_ ?_ ?_ ?_
 exact (jN hu)
 refine fL ?_ ?_ ?_ ?_
 exact T.i6
 exact om
 refine aE ?_ ?_ ?_
 refine af 0 ?_ ?_ ?_
 exact (Or.inl eZ)
 exact jy
 exact rfl
 decide +kernel
 exact aj
 decide +kernel
 exact ak
 decide +kernel
 refine yY ?_
 refine cG ?_ ?_ ?_ ?_
 exact BK
 refine fL ?_ ?_ ?_ ?_
 exact T.i6
 exact om
 refine aE ?_ ?_ ?_
 refine af 0 ?_ ?_ ?_
 exact (Or.inl eZ)
 exact jy
 exact rfl
 decide +kernel
 exact aj
 decide +kernel
 refine qT ?_ ?_ ?_
 exact T.Ek
 exact qw
 exact Cf
 decide +kernel
 refine au ?_
 refine bJ ?_
 exact Au
 exact bY
 refine au ?_
 refine bJ ?_
 refine K4 ?_ ?_ ?_ ?_ ?_
 exact rfl
 exact T.Nj
 exact wB
 refine aE ?_ ?_ ?_
 refine cQ ?_
 refine oX (xs := ["sign"]) (ow := wX) ?_ ?_ ?_ ?_ ?_ ?_ ?_ ?_ ?_
 exact hx
 exact hfr
 exact jT
 exact iU jT
 exact gC
 exact rfl
 refine af 0 ?_ ?_ ?_
 exact (Or.inl eZ)
 exact jy
 exact rfl
 refine iG fun cl C pins s0 H0 fp E1 Le hx => ?_
 refine M8 ?_ ?_ ?_ ?_
 exact hu
 refine af 0 ?_ ?_ ?_
 exact (lZ jT (by simp))
 exact ID
 exact rfl
 refine qT ?_ ?_ ?_
 exact T.Ej
 exact (oY lJ)
 exact Ce
 decide +kernel
 decide +kernel
 decide +kernel
 exact aj
 decide +kernel
theorem uy : bz qe ["text"] (aa bK) := ⟨rfl, rfl, rfl, by decide +kernel, rfl, by decide +kernel, by decide +kernel⟩
theorem Be (T : Txt K mg t) : aR P w K mg base (bX P w) 1 (t.f 2) (t.d 2) ["text"] (aN K mg 1 jS) := by
 refine aR.imp (sp := aN K mg 1 (fun ds => cj 2 mw ds)) ?_ bR
 refine uS (k := 0) (ms := mw) T.vZ uy (by decide) (by decide) (fun _ => rfl) ?_
 intro X EE cdv A outer s H E hX hr hx pF
 subst hX
 have hu := bQ hr
 have nd := uy.nd
 have hfr : dG (fG (bX P w) P w K mg base qe "words_of" (aa bK) (t.f 2) cdv A outer s H E) := ⟨_, outer, s.heap.objs.size, rfl, rfl, rfl⟩
 refine ao ?_ ?_
 refine eX ?_ ?_ ?_
 refine E9 ?_
 refine sP ?_ ?_
 refine vF .str ?_ ?_ ?_ ?_ ?_ ?_ ?_ ?_ ?_ ?_
 decide
 exact T.g7
 exact T.yt
 exact mW
 exact uL
 refine af 0 ?_ ?_ ?_
 exact (Or.inl lO)
 exact jy
 exact rfl
 exact Gk
 exact Gm
 exact Gh.1
 decide +kernel
 decide +kernel
 refine au ?_
 refine fM (C := (t.c 0)) ?_ ?_ ?_ ?_ ?_ ?_ ?_ ?_
 exact rfl
 exact hx
 exact T.fS
 exact T.fT
 exact qE
 exact eu
 refine fO ?_
 exact aj
 decide +kernel
 exact bY
 refine ao ?_ ?_
 refine bO (i := 1) ?_ ?_ ?_ ?_ ?_ ?_
 exact nd
 exact (Or.inl j0)
 refine zj ?_ ?_ ?_
 refine zj ?_ ?_ ?_
 refine zj ?_ ?_ ?_
 refine af 0 ?_ ?_ ?_
 exact (Or.inl lO)
 exact jy
 exact rfl
 decide +kernel
 exact rfl
 decide +kernel
 exact rfl
 decide +kernel
 exact rfl
 exact Or.inl rfl
 exact rfl
 decide +kernel
 refine au ?_
 refine bJ ?_
 refine cQ ?_
 refine oX (xs := ["word"]) (ow := wX) ?_ ?_ ?_ ?_ ?_ ?_ ?_ ?_ ?_
 exact hx
 exact hfr
 exact gy
 exact iU gy
 exact gC
 exact rfl
 refine cQ ?_
 refine FE ?_ ?_ ?_ ?_ ?_
 refine af 1 ?_ ?_ ?_
 exact (Or.inl j0)
 exact Em
 exact rfl
 refine fO ?_
 exact aj
 decide +kernel
 decide +kernel
 exact rfl
 refine D5 fun cl C pins s0 H0 fp E1 Le hx => ?_
 refine ⟨?_, ?_⟩
 refine cG ?_ ?_ ?_ ?_
 exact (yW hu)
 refine af 0 ?_ ?_ ?_
 exact (lZ gy (by simp))
 exact rV
 exact rfl
 exact cZ
 decide +kernel
 refine af 0 ?_ ?_ ?_
 exact (lZ gy (by simp))
 exact rV
 exact rfl
 decide +kernel
theorem uz : bz vW ["part", "sort"] (aa bT) := ⟨rfl, rfl, rfl, by decide +kernel, rfl, by decide +kernel, by decide +kernel⟩
theorem Bf (T : Txt K mg t) : aR P w K mg base (bX P w) 1 (t.f 4) (t.d 4) ["part", "sort"] (aN K mg 2 fP) := by
 refine aR.imp (sp := aN K mg 2 (fun ds => cj 2 mz ds)) ?_ bR
 refine uS (k := 0) (ms := mz) T.qg uz (by decide) (by decide) (fun _ => rfl) ?_
 intro X EE cdv A outer s H E hX hr hx pF
 subst hX
 have hu := bQ hr
 have nd := uz.nd
 have hfr : dG (fG (bX P w) P w K mg base vW "value_of" (aa bT) (t.f 4) cdv A outer s H E) := ⟨_, outer, s.heap.objs.size, rfl, rfl, rfl⟩
 refine ao ?_ ?_
 refine eX ?_ ?_ ?_
 refine E8 ?_
 refine KD ?_ ?_
 refine sP ?_ ?_
 refine vF .tup ?_ ?_ ?_ ?_ ?_ ?_ ?_ ?_ ?_ ?_
 decide
 exact T.g7
 exact T.uZ
 exact mV
 exact sj
 refine af 0 ?_ ?_ ?_
 exact (Or.inl iI)
 exact iT
 exact rfl
 exact Gn
 exact Gp
 exact Gi.1
 decide +kernel
 decide +kernel
 refine HU ?_
 refine cG ?_ ?_ ?_ ?_
 exact (jN hu)
 refine aq ?_ ?_ ?_
 refine af 0 ?_ ?_ ?_
 exact (Or.inl iI)
 exact iT
 exact rfl
 exact ak
 decide +kernel
 refine af 1 ?_ ?_ ?_
 exact (Or.inl lN)
 exact zU
 exact rfl
 decide +kernel
 refine au ?_
 refine bJ ?_
 refine aq ?_ ?_ ?_
 refine af 0 ?_ ?_ ?_
 exact (Or.inl iI)
 exact iT
 exact rfl
 exact ak
 decide +kernel
 exact bY
 refine au ?_
 refine fM (C := (t.c 0)) ?_ ?_ ?_ ?_ ?_ ?_ ?_ ?_
 exact rfl
 exact hx
 exact T.fS
 exact T.fT
 exact qB
 exact eu
 refine aE ?_ ?_ ?_
 refine K7 ?_
 refine af 1 ?_ ?_ ?_
 exact (Or.inl lN)
 exact zU
 exact rfl
 decide +kernel
 exact aj
 decide +kernel
theorem uA : bz vX ["part"] (aa cD) := ⟨rfl, rfl, rfl, by decide +kernel, rfl, by decide +kernel, by decide +kernel⟩
theorem Bg (T : Txt K mg t) : aR P w K mg base (bX P w) 1 (t.f 11) (t.d 11) ["part"] (aN K mg 1 gA) := by
 refine aR.imp (sp := aN K mg 1 (fun ds => cj 1 mC ds)) ?_ bR
 refine uS (k := 0) (ms := mC) T.qh uA (by decide) (by decide) (fun _ => rfl) ?_
 intro X EE cdv A outer s H E hX hr hx pF
 subst hX
 have hu := bQ hr
 have nd := uA.nd
 have hfr : dG (fG (bX P w) P w K mg base vX "count_of" (aa cD) (t.f 11) cdv A outer s H E) := ⟨_, outer, s.heap.objs.size, rfl, rfl, rfl⟩
 refine ao ?_ ?_
 refine eX ?_ ?_ ?_
 refine cG ?_ ?_ ?_ ?_
 exact (yX hu)
 refine af 0 ?_ ?_ ?_
 exact (Or.inl lI)
 exact iT
 exact rfl
 refine qT ?_ ?_ ?_
 exact T.Bb
 exact jW
 exact yu
 decide +kernel
 refine au ?_
 refine bJ ?_
 refine Eb ?_ ?_ ?_ ?_ ?_ ?_ ?_
 exact T.Bb
 exact T.Gg
 exact jW
 exact yu
 refine aE ?_ ?_ ?_
 refine af 0 ?_ ?_ ?_
 exact (Or.inl lI)
 exact iT
 exact rfl
 decide +kernel
 exact aj
 decide +kernel
 exact rfl
 exact bY
 refine au ?_
 refine fM (C := (t.c 0)) ?_ ?_ ?_ ?_ ?_ ?_ ?_ ?_
 exact rfl
 exact hx
 exact T.fS
 exact T.fT
 exact qv
 exact eu
 refine fO ?_
 exact aj
 decide +kernel
theorem wF : bz ym ["words"] (aa d9) := ⟨rfl, rfl, rfl, by decide +kernel, rfl, by decide +kernel, by decide +kernel⟩
theorem Cm (T : Txt K mg t) : aR P w K mg base (bX P w) 1 (t.f 14) (t.d 14) ["words"] (aN K mg 1 cX) := by
 refine aR.imp (sp := aN K mg 1 (fun ds => cj 1 o7 ds)) ?_ bR
 refine uS (k := 0) (ms := o7) T.pq wF (by decide) (by decide) (fun _ => rfl) ?_
 intro X EE cdv A outer s H E hX hr hx pF
 subst hX
 have hu := bQ hr
 have nd := wF.nd
 have hfr : dG (fG (bX P w) P w K mg base ym "bracket" (aa d9) (t.f 14) cdv A outer s H E) := ⟨_, outer, s.heap.objs.size, rfl, rfl, rfl⟩
 refine au ?_
 refine bJ ?_
 refine bf ?_ ?_
 refine bf ?_ ?_
 exact cZ
 refine Im ?_ ?_ ?_ ?_ ?_
 exact cZ
 refine aE ?_ ?_ ?_
 refine af 0 ?_ ?_ ?_
 exact (Or.inl tG)
 exact Gj
 exact rfl
 decide +kernel
 exact aj
 decide +kernel
 decide +kernel
 exact rfl
 exact cZ
theorem pS : bz rm ["_law_script", "_law_many"] (aa aQ) := ⟨rfl, rfl, rfl, by decide +kernel, rfl, by decide +kernel, by decide +kernel⟩
theorem xB (T : Txt K mg t) : aR P w K mg base (bX P w) 1 (t.f 17) (t.d 17) ["_law_script", "_law_many"] (aN K mg 2 fY) := by
 refine aR.imp (sp := aN K mg 2 (fun ds => cj 5 jl ds)) ?_ bR
 refine uS (k := 0) (ms := jl) T.rL pS (by decide) (by decide) (fun _ => rfl) ?_
 intro X EE cdv A outer s H E hX hr hx pF
 subst hX
 have hu := bQ hr
 have nd := pS.nd
 have hfr : dG (fG (bX P w) P w K mg base rm "_law_draws" (aa aQ) (t.f 17) cdv A outer s H E) := ⟨_, outer, s.heap.objs.size, rfl, rfl, rfl⟩
 refine ao ?_ ?_
 refine bO (i := 2) ?_ ?_ ?_ ?_ ?_ ?_
 exact nd
 exact (Or.inl dP)
 refine gS ?_
 exact aj
 exact Or.inl rfl
 exact rfl
 decide +kernel
 refine ao ?_ ?_
 refine qU ?_ ?_ ?_ ?_ ?_ ?_ ?_ ?_
 exact pF
 exact rfl
 exact T.pA
 exact pC
 refine aE ?_ ?_ ?_
 refine af 1 ?_ ?_ ?_
 exact (Or.inl lH)
 exact zO
 exact rfl
 decide +kernel
 exact aj
 refine j8 (i := 3) ?_ ?_ ?_ ?_
 exact nd
 exact (Or.inl fU)
 exact Or.inl rfl
 exact rfl
 refine ao ?_ ?_
 refine bO (i := 4) ?_ ?_ ?_ ?_ ?_ ?_
 exact nd
 exact (Or.inl eE)
 exact ak
 exact Or.inl rfl
 exact rfl
 decide +kernel
 refine ao ?_ ?_
 refine eX ?_ ?_ ?_
 refine cG ?_ ?_ ?_ ?_
 exact BK
 refine fL ?_ ?_ ?_ ?_
 exact T.i6
 exact g9
 refine aE ?_ ?_ ?_
 refine af 0 ?_ ?_ ?_
 exact (Or.inl cz)
 exact eB
 exact rfl
 decide +kernel
 exact aj
 decide +kernel
 exact ak
 decide +kernel
 refine au ?_
 refine bO (i := 4) ?_ ?_ ?_ ?_ ?_ ?_
 exact nd
 exact (Or.inl eE)
 refine cP ?_ ?_
 refine aq ?_ ?_ ?_
 refine af 0 ?_ ?_ ?_
 exact (Or.inl cz)
 exact eB
 exact rfl
 refine cP ?_ ?_
 refine af 3 ?_ ?_ ?_
 exact (Or.inl fU)
 exact fh
 exact rfl
 refine fL ?_ ?_ ?_ ?_
 exact T.i6
 exact g9
 refine aE ?_ ?_ ?_
 refine af 0 ?_ ?_ ?_
 exact (Or.inl cz)
 exact eB
 exact rfl
 decide +kernel
 exact aj
 decide +kernel
 decide +kernel
 refine EZ ?_ ?_
 exact ak
 exact ak
 exact Or.inl rfl
 exact rfl
 decide +kernel
 exact bY
 refine au ?_
 refine oW ?_ ?_
 refine jJ ?_ ?_ ?_ ?_ ?_
 refine af 2 ?_ ?_ ?_
 exact (Or.inl dP)
 exact iS
 exact rfl
 refine aE ?_ ?_ ?_
 refine bf ?_ ?_
 refine af 4 ?_ ?_ ?_
 exact (Or.inl eE)
 exact dI
 exact rfl
 refine vp ?_ ?_
 exact ak
 refine fX ?_ ?_
 refine af 3 ?_ ?_ ?_
 exact (Or.inl fU)
 exact fh
 exact rfl
 refine Il ?_ ?_ ?_ ?_ ?_
 exact rfl
 exact T.Nk
 exact rX
 refine Io ?_
 refine aE ?_ ?_ ?_
 refine fL ?_ ?_ ?_ ?_
 exact T.i6
 exact g9
 refine aE ?_ ?_ ?_
 refine af 0 ?_ ?_ ?_
 exact (Or.inl cz)
 exact eB
 exact rfl
 decide +kernel
 exact aj
 decide +kernel
 decide +kernel
 exact aj
 decide +kernel
 decide +kernel
 exact aj
 decide +kernel
 decide +kernel
 exact rfl
 decide +kernel
 decide +kernel
 refine au ?_
 refine bJ ?_
 refine Jv ?_
 refine af 2 ?_ ?_ ?_
 exact (Or.inl dP)
 exact iS
 exact rfl
theorem sr : bz t9 ["_law_draw"] (aa bq) := ⟨rfl, rfl, rfl, by decide +kernel, rfl, by decide +kernel, by decide +kernel⟩
theorem zW (T : Txt K mg t) : aR P w K mg base (bX P w) 1 (t.f 18) (t.d 18) ["_law_draw"] (aN K mg 1 cI) := by
 refine aR.imp (sp := aN K mg 1 (fun ds => cj 6 iY ds)) ?_ bR
 refine uS (k := 0) (ms := iY) T.oi sr (by decide) (by decide) (fun _ => rfl) ?_
 intro X EE cdv A outer s H E hX hr hx pF
 subst hX
 have hu := bQ hr
 have nd := sr.nd
 have hfr : dG (fG (bX P w) P w K mg base t9 "_law_name" (aa bq) (t.f 18) cdv A outer s H E) := ⟨_, outer, s.heap.objs.size, rfl, rfl, rfl⟩
 refine ao ?_ ?_
 refine bO (i := 1) ?_ ?_ ?_ ?_ ?_ ?_
 exact nd
 exact (Or.inl dz)
 exact cZ
 exact Or.inl rfl
 exact rfl
 decide +kernel
 refine ao ?_ ?_
 refine bO (i := 2) ?_ ?_ ?_ ?_ ?_ ?_
 exact nd
 exact (Or.inl aW)
 refine aq ?_ ?_ ?_
 refine af 1 ?_ ?_ ?_
 exact (Or.inl dz)
 exact nA
 exact rfl
 refine cP ?_ ?_
 refine af 0 ?_ ?_ ?_
 exact (Or.inl cS)
 exact jx
 exact rfl
 exact ak
 decide +kernel
 exact Or.inl rfl
 exact rfl
 decide +kernel
 refine ao ?_ ?_
 refine qU ?_ ?_ ?_ ?_ ?_ ?_ ?_ ?_
 exact pF
 exact rfl
 exact T.pA
 exact ql
 refine aE ?_ ?_ ?_
 refine cP ?_ ?_
 refine fX ?_ ?_
 refine af 0 ?_ ?_ ?_
 exact (Or.inl cS)
 exact jx
 exact rfl
 exact ak
 exact ak
 decide +kernel
 exact aj
 refine j8 (i := 3) ?_ ?_ ?_ ?_
 exact nd
 exact (Or.inl dS)
 exact Or.inl rfl
 exact rfl
 refine ao ?_ ?_
 refine bO (i := 4) ?_ ?_ ?_ ?_ ?_ ?_
 exact nd
 exact (Or.inl i7)
 refine bf ?_ ?_
 refine bf ?_ ?_
 refine fX ?_ ?_
 refine af 0 ?_ ?_ ?_
 exact (Or.inl cS)
 exact jx
 exact rfl
 exact ak
 refine vp ?_ ?_
 refine vp ?_ ?_
 exact ak
 refine af 3 ?_ ?_ ?_
 exact (Or.inl dS)
 exact fh
 exact rfl
 refine af 3 ?_ ?_ ?_
 exact (Or.inl dS)
 exact fh
 exact rfl
 refine vp ?_ ?_
 refine cP ?_ ?_
 refine fX ?_ ?_
 refine af 0 ?_ ?_ ?_
 exact (Or.inl cS)
 exact jx
 exact rfl
 exact ak
 exact ak
 refine af 3 ?_ ?_ ?_
 exact (Or.inl dS)
 exact fh
 exact rfl
 exact Or.inl rfl
 exact rfl
 decide +kernel
 refine au ?_
 refine bO (i := 2) ?_ ?_ ?_ ?_ ?_ ?_
 exact nd
 exact (Or.inl aW)
 refine bf ?_ ?_
 refine af 2 ?_ ?_ ?_
 exact (Or.inl aW)
 exact dJ
 exact rfl
 refine aq ?_ ?_ ?_
 refine af 1 ?_ ?_ ?_
 exact (Or.inl dz)
 exact nA
 exact rfl
 refine cP ?_ ?_
 refine af 4 ?_ ?_ ?_
 exact (Or.inl i7)
 exact mJ
 exact rfl
 exact ak
 decide +kernel
 exact Or.inl rfl
 exact rfl
 decide +kernel
 decide +kernel
 refine ao ?_ ?_
 refine bO (i := 5) ?_ ?_ ?_ ?_ ?_ ?_
 exact nd
 exact (Or.inl gJ)
 refine cQ ?_
 refine gS ?_
 refine fO ?_
 refine fO ?_
 refine fO ?_
 refine fO ?_
 refine fO ?_
 refine fO ?_
 refine fO ?_
 refine fO ?_
 refine fO ?_
 refine fO ?_
 refine fO ?_
 refine fO ?_
 exact aj
 exact Or.inl rfl
 exact rfl
 decide +kernel
 refine ao ?_ ?_
 refine eX ?_ ?_ ?_
 refine cG ?_ ?_ ?_ ?_
 exact (yX hu)
 refine af 2 ?_ ?_ ?_
 exact (Or.inl aW)
 exact dJ
 exact rfl
 refine af 5 ?_ ?_ ?_
 exact (Or.inl gJ)
 exact xr
 exact rfl
 decide +kernel
 refine au ?_
 refine bJ ?_
 refine bf ?_ ?_
 refine af 2 ?_ ?_ ?_
 exact (Or.inl aW)
 exact dJ
 exact rfl
 exact cZ
 exact bY
 refine au ?_
 refine bJ ?_
 refine af 2 ?_ ?_ ?_
 exact (Or.inl aW)
 exact dJ
 exact rfl
theorem su : bz ua ["_law_cell", "_law_pool"] (aa bF) := ⟨rfl, rfl, rfl, by decide +kernel, rfl, by decide +kernel, by decide +kernel⟩
theorem zX (T : Txt K mg t) : aR P w K mg base (bX P w) 1 (t.f 19) (t.d 19) ["_law_cell", "_law_pool"] (aN K mg 2 gD) := by
 refine aR.imp (sp := aN K mg 2 (fun ds => cj 4 kc ds)) ?_ bR
 refine uS (k := 0) (ms := kc) T.ur su (by decide) (by decide) (fun _ => rfl) ?_
 intro X EE cdv A outer s H E hX hr hx pF
 subst hX
 have hu := bQ hr
 have nd := su.nd
 have hfr : dG (fG (bX P w) P w K mg base ua "_law_item" (aa bF) (t.f 19) cdv A outer s H E) := ⟨_, outer, s.heap.objs.size, rfl, rfl, rfl⟩
 refine ao ?_ ?_
 refine bO (i := 2) ?_ ?_ ?_ ?_ ?_ ?_
 exact nd
 exact (Or.inl cB)
 refine cP ?_ ?_
 refine af 0 ?_ ?_ ?_
 exact (Or.inl eU)
 exact dI
 exact rfl
 exact ak
 exact Or.inl rfl
 exact rfl
 decide +kernel
 refine ao ?_ ?_
 refine bO (i := 3) ?_ ?_ ?_ ?_ ?_ ?_
 exact nd
 exact (Or.inl ia)
 refine aq ?_ ?_ ?_
 refine cQ ?_
 refine gS ?_
 refine aE ?_ ?_ ?_
 exact yT
 decide +kernel
 refine aE ?_ ?_ ?_
 refine af 2 ?_ ?_ ?_
 exact (Or.inl cB)
 exact ko
 exact rfl
 decide +kernel
 refine Io ?_
 refine aE ?_ ?_ ?_
 refine bf ?_ ?_
 refine af 2 ?_ ?_ ?_
 exact (Or.inl cB)
 exact ko
 exact rfl
 refine fX ?_ ?_
 refine KA ?_ ?_
 exact ak
 refine af 2 ?_ ?_ ?_
 exact (Or.inl cB)
 exact ko
 exact rfl
 exact ak
 decide +kernel
 exact aj
 refine cP ?_ ?_
 refine fX ?_ ?_
 refine af 0 ?_ ?_ ?_
 exact (Or.inl eU)
 exact dI
 exact rfl
 exact ak
 exact ak
 decide +kernel
 exact Or.inl rfl
 exact rfl
 decide +kernel
 refine au ?_
 refine bJ ?_
 refine lU ?_
 refine aE ?_ ?_ ?_
 refine aq ?_ ?_ ?_
 refine af 1 ?_ ?_ ?_
 exact (Or.inl ic)
 exact eT
 exact rfl
 refine cP ?_ ?_
 refine fX ?_ ?_
 refine af 0 ?_ ?_ ?_
 exact (Or.inl eU)
 exact dI
 exact rfl
 exact ak
 refine fL ?_ ?_ ?_ ?_
 exact T.i6
 exact tF
 refine aE ?_ ?_ ?_
 refine af 1 ?_ ?_ ?_
 exact (Or.inl ic)
 exact eT
 exact rfl
 decide +kernel
 exact aj
 decide +kernel
 decide +kernel
 decide +kernel
 refine aE ?_ ?_ ?_
 refine af 2 ?_ ?_ ?_
 exact (Or.inl cB)
 exact ko
 exact rfl
 decide +kernel
 refine aE ?_ ?_ ?_
 refine af 3 ?_ ?_ ?_
 exact (Or.inl ia)
 exact rN
 exact rfl
 decide +kernel
 exact aj
theorem kB : bz lC ["_law_item_here"] (aa aO) := ⟨rfl, rfl, rfl, by decide +kernel, rfl, by decide +kernel, by decide +kernel⟩
theorem sy (T : Txt K mg t) : aR P w K mg base (bX P w) 1 (t.f 21) (t.d 21) ["_law_item_here"] (aN K mg 1 eg) := by
 refine aR.imp (sp := aN K mg 1 (fun ds => cj 2 ef ds)) ?_ bR
 refine uS (k := 0) (ms := ef) T.lG kB (by decide) (by decide) (fun _ => rfl) ?_
 intro X EE cdv A outer s H E hX hr hx pF
 subst hX
 have hu := bQ hr
 have nd := kB.nd
 have hfr : dG (fG (bX P w) P w K mg base lC "_law_item_text" (aa aO) (t.f 21) cdv A outer s H E) := ⟨_, outer, s.heap.objs.size, rfl, rfl, rfl⟩
 refine ao ?_ ?_
 refine bO (i := 1) ?_ ?_ ?_ ?_ ?_ ?_
 exact nd
 exact (Or.inl cR)
 exact cZ
 exact Or.inl rfl
 exact rfl
 decide +kernel
 refine ao ?_ ?_
 refine eX ?_ ?_ ?_
 refine cG ?_ ?_ ?_ ?_
 exact Fb
 refine aq ?_ ?_ ?_
 refine af 0 ?_ ?_ ?_
 exact (Or.inl bC)
 exact b8
 exact rfl
 exact ak
 decide +kernel
 exact yT
 decide +kernel
 refine au ?_
 refine bO (i := 1) ?_ ?_ ?_ ?_ ?_ ?_
 exact nd
 exact (Or.inl cR)
 refine uY ?_ ?_ ?_ ?_
 exact T.yt
 exact iC
 refine aE ?_ ?_ ?_
 refine aq ?_ ?_ ?_
 refine af 0 ?_ ?_ ?_
 exact (Or.inl bC)
 exact b8
 exact rfl
 exact ak
 decide +kernel
 decide +kernel
 exact aj
 decide +kernel
 exact Or.inl rfl
 exact rfl
 decide +kernel
 exact bY
 refine au ?_
 refine bJ ?_
 refine bf ?_ ?_
 refine bf ?_ ?_
 refine bf ?_ ?_
 refine bf ?_ ?_
 refine bf ?_ ?_
 refine bf ?_ ?_
 exact cZ
 refine aq ?_ ?_ ?_
 refine af 0 ?_ ?_ ?_
 exact (Or.inl bC)
 exact b8
 exact rfl
 exact ak
 decide +kernel
 exact cZ
 refine uY ?_ ?_ ?_ ?_
 exact T.yt
 exact iC
 refine aE ?_ ?_ ?_
 refine aq ?_ ?_ ?_
 refine af 0 ?_ ?_ ?_
 exact (Or.inl bC)
 exact b8
 exact rfl
 exact ak
 decide +kernel
 decide +kernel
 exact aj
 decide +kernel
 exact cZ
 refine af 1 ?_ ?_ ?_
 exact (Or.inl cR)
 exact rN
 exact rfl
 exact cZ
theorem pT : bz rA ["_law_shape"] (aa br) := ⟨rfl, rfl, rfl, by decide +kernel, rfl, by decide +kernel, by decide +kernel⟩
theorem xC (T : Txt K mg t) : aR P w K mg base (bX P w) 1 (t.f 23) (t.d 23) ["_law_shape"] (aN K mg 1 gW) := by
 refine aR.imp (sp := aN K mg 1 (fun ds => cj 3 jm ds)) ?_ bR
 refine uS (k := 0) (ms := jm) T.rM pT (by decide) (by decide) (fun _ => rfl) ?_
 intro X EE cdv A outer s H E hX hr hx pF
 subst hX
 have hu := bQ hr
 have nd := pT.nd
 have hfr : dG (fG (bX P w) P w K mg base rA "_law_whole" (aa br) (t.f 23) cdv A outer s H E) := ⟨_, outer, s.heap.objs.size, rfl, rfl, rfl⟩
 refine ao ?_ ?_
 refine vG ?_ ?_ ?_ ?_ ?_ ?_
 exact pF
 exact rfl
 refine aq ?_ ?_ ?_
 refine af 0 ?_ ?_ ?_
 exact (Or.inl kK)
 exact cV
 exact rfl
 exact ak
 decide +kernel
 refine j8 (i := 1) ?_ ?_ ?_ ?_
 exact nd
 exact (Or.inl eY)
 exact Or.inl rfl
 exact rfl
 refine au ?_
 refine vG ?_ ?_ ?_ ?_ ?_ ?_
 exact pF
 exact rfl
 refine aq ?_ ?_ ?_
 refine af 1 ?_ ?_ ?_
 exact (Or.inl eY)
 exact rQ
 exact rfl
 exact ak
 decide +kernel
 refine j8 (i := 2) ?_ ?_ ?_ ?_
 exact nd
 exact (Or.inl cO)
 exact Or.inl rfl
 exact rfl
 refine au ?_
 refine eX ?_ ?_ ?_
 refine E8 ?_
 refine CJ ?_ ?_
 refine sP ?_ ?_
 refine vF .bl ?_ ?_ ?_ ?_ ?_ ?_ ?_ ?_ ?_ ?_
 decide
 exact T.g7
 exact T.Ge
 exact gu
 exact jV
 refine aq ?_ ?_ ?_
 refine af 2 ?_ ?_ ?_
 exact (Or.inl cO)
 exact b8
 exact rfl
 exact ak
 decide +kernel
 exact Di
 exact Dj
 exact Dh.1
 decide +kernel
 decide +kernel
 refine yY ?_
 refine sP ?_ ?_
 refine vF .bl ?_ ?_ ?_ ?_ ?_ ?_ ?_ ?_ ?_ ?_
 decide
 exact T.g7
 exact T.Ge
 exact gu
 exact jV
 refine aq ?_ ?_ ?_
 refine af 2 ?_ ?_ ?_
 exact (Or.inl cO)
 exact b8
 exact rfl
 exact ak
 decide +kernel
 exact Di
 exact Dj
 exact Dh.1
 decide +kernel
 decide +kernel
 refine au ?_
 refine bJ ?_
 exact Au
 exact bY
 decide +kernel
 decide +kernel
 refine au ?_
 refine bJ ?_
 exact Au
theorem sA : bz n5 ["parts", "sort"] (aa bU) := ⟨rfl, rfl, rfl, by decide +kernel, rfl, by decide +kernel, by decide +kernel⟩
theorem zY (T : Txt K mg t) (iJ : aR P w K mg base (bX P w) 1 (t.f 4) (t.d 4) ["part", "sort"] (aN K mg 2 fP)) : aR P w K mg base (bX P w) 2 (t.f 5) (t.d 5) ["parts", "sort"] (aN K mg 2 fQ) := by
 refine aR.imp (sp := aN K mg 2 (fun ds => cj 2 kg ds)) ?_ bR
 refine uS (k := 1) (ms := kg) T.oh sA (by decide) (by decide) (fun _ => rfl) ?_
 intro X EE cdv A outer s H E hX hr hx pF
 subst hX
 have hu := bQ hr
 have nd := sA.nd
 have hfr : dG (fG (bX P w) P w K mg base n5 "values_of" (aa bU) (t.f 5) cdv A outer s H E) := ⟨_, outer, s.heap.objs.size, rfl, rfl, rfl⟩
 refine au ?_
 refine bJ ?_
 refine vI ?_ ?_ ?_ ?_
 exact T.uZ
 exact qD
 refine aE ?_ ?_ ?_
 refine cQ ?_
 refine oX (xs := ["part"]) (ow := wX) ?_ ?_ ?_ ?_ ?_ ?_ ?_ ?_ ?_
 exact hx
 exact hfr
 exact fZ
 exact iU fZ
 exact gC
 exact rfl
 refine af 0 ?_ ?_ ?_
 exact (Or.inl qC)
 exact bW
 exact rfl
 refine iG fun cl C pins s0 H0 fp E1 Le hx => ?_
 refine aZ (CX := bX P w) (k := tY) (f := (t.f 4)) (fd := (t.d 4)) (ps := ["part", "sort"]) ?_ ?_ ?_ ?_ ?_ ?_ ?_ ?_ ?_ ?_
 exact iJ
 exact hr.mono (by decide)
 exact T.wg
 exact T.qg.kp
 exact T.we
 exact fJ hx
 exact (oY jX)
 exact ux
 refine aE ?_ ?_ ?_
 refine af 0 ?_ ?_ ?_
 exact (lZ fZ (by simp))
 exact iT
 exact rfl
 decide +kernel
 refine aE ?_ ?_ ?_
 refine af 2 ?_ ?_ ?_
 exact (zf fZ mQ)
 exact zU
 exact rfl
 decide +kernel
 exact aj
 decide +kernel
 decide +kernel
 decide +kernel
 exact aj
 decide +kernel
theorem wG : bz yo ["part"] (aa cW) := ⟨rfl, rfl, rfl, by decide +kernel, rfl, by decide +kernel, by decide +kernel⟩
theorem Cn (T : Txt K mg t) (tL : aR P w K mg base (bX P w) 1 (t.f 0) (t.d 0) ["text"] (aN K mg 1 lB)) : aR P w K mg base (bX P w) 2 (t.f 6) (t.d 6) ["part"] (aN K mg 1 ff) := by
 refine aR.imp (sp := aN K mg 1 (fun ds => cj 1 o8 ds)) ?_ bR
 refine uS (k := 1) (ms := o8) T.lF wG (by decide) (by decide) (fun _ => rfl) ?_
 intro X EE cdv A outer s H E hX hr hx pF
 subst hX
 have hu := bQ hr
 have nd := wG.nd
 have hfr : dG (fG (bX P w) P w K mg base yo "name_of" (aa cW) (t.f 6) cdv A outer s H E) := ⟨_, outer, s.heap.objs.size, rfl, rfl, rfl⟩
 refine ao ?_ ?_
 refine eX ?_ ?_ ?_
 refine sP ?_ ?_
 refine aZ (CX := bX P w) (k := B9) (f := (t.f 0)) (fd := (t.d 0)) (ps := ["text"]) ?_ ?_ ?_ ?_ ?_ ?_ ?_ ?_ ?_ ?_
 exact tL
 exact hr.mono (by decide)
 exact T.Eg
 exact T.yq.kp
 exact T.Ef
 exact fJ hx
 exact qx
 exact Ci
 refine aE ?_ ?_ ?_
 refine af 0 ?_ ?_ ?_
 exact (Or.inl nE)
 exact iT
 exact rfl
 decide +kernel
 exact aj
 decide +kernel
 decide +kernel
 refine au ?_
 refine bJ ?_
 refine af 0 ?_ ?_ ?_
 exact (Or.inl nE)
 exact iT
 exact rfl
 exact bY
 refine au ?_
 refine fM (C := (t.c 0)) ?_ ?_ ?_ ?_ ?_ ?_ ?_ ?_
 exact rfl
 exact hx
 exact T.fS
 exact T.fT
 exact se
 exact eu
 refine fO ?_
 exact aj
 decide +kernel
theorem wH : bz yp ["part", "low"] (aa cE) := ⟨rfl, rfl, rfl, by decide +kernel, rfl, by decide +kernel, by decide +kernel⟩
theorem Co (T : Txt K mg t) (iK : aR P w K mg base (bX P w) 1 (t.f 11) (t.d 11) ["part"] (aN K mg 1 gA)) : aR P w K mg base (bX P w) 2 (t.f 12) (t.d 12) ["part", "low"] (aN K mg 2 lE) := by
 refine aR.imp (sp := aN K mg 2 (fun ds => cj 3 lD ds)) ?_ bR
 refine uS (k := 1) (ms := lD) T.yr wH (by decide) (by decide) (fun _ => rfl) ?_
 intro X EE cdv A outer s H E hX hr hx pF
 subst hX
 have hu := bQ hr
 have nd := wH.nd
 have hfr : dG (fG (bX P w) P w K mg base yp "high_of" (aa cE) (t.f 12) cdv A outer s H E) := ⟨_, outer, s.heap.objs.size, rfl, rfl, rfl⟩
 refine ao ?_ ?_
 refine eX ?_ ?_ ?_
 refine cG ?_ ?_ ?_ ?_
 exact (jN hu)
 refine af 0 ?_ ?_ ?_
 exact (Or.inl nD)
 exact iT
 exact rfl
 exact cZ
 decide +kernel
 refine au ?_
 refine bJ ?_
 exact yT
 exact bY
 refine ao ?_ ?_
 refine bO (i := 2) ?_ ?_ ?_ ?_ ?_ ?_
 exact nd
 exact (Or.inl je)
 refine aZ (CX := bX P w) (k := tZ) (f := (t.f 11)) (fd := (t.d 11)) (ps := ["part"]) ?_ ?_ ?_ ?_ ?_ ?_ ?_ ?_ ?_ ?_
 exact iK
 exact hr.mono (by decide)
 exact T.wk
 exact T.qh.kp
 exact T.wj
 exact fJ hx
 exact pD
 exact uw
 refine aE ?_ ?_ ?_
 refine af 0 ?_ ?_ ?_
 exact (Or.inl nD)
 exact iT
 exact rfl
 decide +kernel
 exact aj
 decide +kernel
 exact Or.inl rfl
 exact rfl
 decide +kernel
 refine ao ?_ ?_
 refine eX ?_ ?_ ?_
 refine cG ?_ ?_ ?_ ?_
 exact BJ
 refine af 2 ?_ ?_ ?_
 exact (Or.inl je)
 exact zR
 exact rfl
 refine af 1 ?_ ?_ ?_
 exact (Or.inl wA)
 exact Cj
 exact rfl
 decide +kernel
 refine au ?_
 refine fM (C := (t.c 0)) ?_ ?_ ?_ ?_ ?_ ?_ ?_ ?_
 exact rfl
 exact hx
 exact T.fS
 exact T.fT
 exact rY
 exact eu
 refine fO ?_
 exact aj
 decide +kernel
 exact bY
 refine au ?_
 refine bJ ?_
 refine af 2 ?_ ?_ ?_
 exact (Or.inl je)
 exact zR
 exact rfl
theorem sC : bz uc ["item"] (aa bM) := ⟨rfl, rfl, rfl, by decide +kernel, rfl, by decide +kernel, by decide +kernel⟩
theorem zZ (T : Txt K mg t) (gc : aR P w K mg base (bX P w) 1 (t.f 14) (t.d 14) ["words"] (aN K mg 1 cX)) : aR P w K mg base (bX P w) 2 (t.f 16) (t.d 16) ["item"] (aN K mg 1 gE) := by
 refine aR.imp (sp := aN K mg 1 (fun ds => cj 2 iZ ds)) ?_ bR
 refine uS (k := 1) (ms := iZ) T.um sC (by decide) (by decide) (fun _ => rfl) ?_
 intro X EE cdv A outer s H E hX hr hx pF
 subst hX
 have hu := bQ hr
 have nd := sC.nd
 have hfr : dG (fG (bX P w) P w K mg base uc "item_text" (aa bM) (t.f 16) cdv A outer s H E) := ⟨_, outer, s.heap.objs.size, rfl, rfl, rfl⟩
 refine ao ?_ ?_
 refine bO (i := 1) ?_ ?_ ?_ ?_ ?_ ?_
 exact nd
 exact (Or.inl kq)
 refine MM ?_ ?_ ?_
 refine cG ?_ ?_ ?_ ?_
 exact HW
 refine aq ?_ ?_ ?_
 refine af 0 ?_ ?_ ?_
 exact (Or.inl fD)
 exact rR
 exact rfl
 exact ak
 decide +kernel
 exact yT
 decide +kernel
 exact cZ
 refine uY ?_ ?_ ?_ ?_
 exact T.yt
 exact lK
 refine aE ?_ ?_ ?_
 refine aq ?_ ?_ ?_
 refine af 0 ?_ ?_ ?_
 exact (Or.inl fD)
 exact rR
 exact rfl
 exact ak
 decide +kernel
 decide +kernel
 exact aj
 decide +kernel
 exact Or.inl rfl
 exact rfl
 decide +kernel
 refine au ?_
 refine bJ ?_
 refine aZ (CX := bX P w) (k := qf) (f := (t.f 14)) (fd := (t.d 14)) (ps := ["words"]) ?_ ?_ ?_ ?_ ?_ ?_ ?_ ?_ ?_ ?_
 exact gc
 exact hr.mono (by decide)
 exact T.tw
 exact T.pq.kp
 exact T.tu
 exact fJ hx
 exact oq
 exact qj
 refine aE ?_ ?_ ?_
 refine cQ ?_
 refine gS ?_
 refine aE ?_ ?_ ?_
 refine aq ?_ ?_ ?_
 refine af 0 ?_ ?_ ?_
 exact (Or.inl fD)
 exact rR
 exact rfl
 exact ak
 decide +kernel
 decide +kernel
 refine aE ?_ ?_ ?_
 refine uY ?_ ?_ ?_ ?_
 exact T.yt
 exact lK
 refine aE ?_ ?_ ?_
 refine aq ?_ ?_ ?_
 refine af 0 ?_ ?_ ?_
 exact (Or.inl fD)
 exact rR
 exact rfl
 exact ak
 decide +kernel
 decide +kernel
 exact aj
 decide +kernel
 decide +kernel
 refine aE ?_ ?_ ?_
 refine af 1 ?_ ?_ ?_
 exact (Or.inl kq)
 exact zR
 exact rfl
 decide +kernel
 exact aj
 decide +kernel
 exact aj
 decide +kernel
theorem sD : bz ud ["_law_cells", "_law_at", "_law_pool", "_law_kinds"] (aa aM) := ⟨rfl, rfl, rfl, by decide +kernel, rfl, by decide +kernel, by decide +kernel⟩
theorem z8 (T : Txt K mg t) (oG : aR P w K mg base (bX P w) 1 (t.f 19) (t.d 19) ["_law_cell", "_law_pool"] (aN K mg 2 gD)) : aR P w K mg base (bX P w) 2 (t.f 20) (t.d 20) ["_law_cells", "_law_at", "_law_pool", "_law_kinds"] (aN K mg 4 i0) := by
 refine aR.imp (sp := aN K mg 4 (fun ds => cj 7 kh ds)) ?_ bR
 refine uS (k := 1) (ms := kh) T.uu sD (by decide) (by decide) (fun _ => rfl) ?_
 intro X EE cdv A outer s H E hX hr hx pF
 subst hX
 have hu := bQ hr
 have nd := sD.nd
 have hfr : dG (fG (bX P w) P w K mg base ud "_law_rule" (aa aM) (t.f 20) cdv A outer s H E) := ⟨_, outer, s.heap.objs.size, rfl, rfl, rfl⟩
 refine ao ?_ ?_
 refine bO (i := 4) ?_ ?_ ?_ ?_ ?_ ?_
 exact nd
 exact (Or.inl eF)
 refine gS ?_
 exact aj
 exact Or.inl rfl
 exact rfl
 decide +kernel
 refine ao ?_ ?_
 refine qU ?_ ?_ ?_ ?_ ?_ ?_ ?_ ?_
 exact pF
 exact rfl
 exact T.pA
 exact qp
 refine aE ?_ ?_ ?_
 refine cP ?_ ?_
 refine aq ?_ ?_ ?_
 refine af 0 ?_ ?_ ?_
 exact (Or.inl bE)
 exact dO
 exact rfl
 refine cP ?_ ?_
 refine af 1 ?_ ?_ ?_
 exact (Or.inl fV)
 exact mJ
 exact rfl
 refine fL ?_ ?_ ?_ ?_
 exact T.i6
 exact eH
 refine aE ?_ ?_ ?_
 refine af 0 ?_ ?_ ?_
 exact (Or.inl bE)
 exact dO
 exact rfl
 decide +kernel
 exact aj
 decide +kernel
 decide +kernel
 exact ak
 decide +kernel
 exact aj
 refine j8 (i := 5) ?_ ?_ ?_ ?_
 exact nd
 exact (Or.inl gi)
 exact Or.inl rfl
 exact rfl
 refine au ?_
 refine oW ?_ ?_
 refine jJ ?_ ?_ ?_ ?_ ?_
 refine af 4 ?_ ?_ ?_
 exact (Or.inl eF)
 exact kG
 exact rfl
 refine aE ?_ ?_ ?_
 refine aZ (CX := bX P w) (k := zv) (f := (t.f 19)) (fd := (t.d 19)) (ps := ["_law_cell", "_law_pool"]) ?_ ?_ ?_ ?_ ?_ ?_ ?_ ?_ ?_ ?_
 exact oG
 exact hr.mono (by decide)
 exact T.A6
 exact T.ur.kp
 exact T.A5
 exact fJ hx
 exact mP
 exact zM
 refine aE ?_ ?_ ?_
 refine fX ?_ ?_
 refine aq ?_ ?_ ?_
 refine af 0 ?_ ?_ ?_
 exact (Or.inl bE)
 exact dO
 exact rfl
 refine cP ?_ ?_
 refine bf ?_ ?_
 refine bf ?_ ?_
 refine af 1 ?_ ?_ ?_
 exact (Or.inl fV)
 exact mJ
 exact rfl
 exact ak
 refine af 5 ?_ ?_ ?_
 exact (Or.inl gi)
 exact fh
 exact rfl
 refine fL ?_ ?_ ?_ ?_
 exact T.i6
 exact eH
 refine aE ?_ ?_ ?_
 refine af 0 ?_ ?_ ?_
 exact (Or.inl bE)
 exact dO
 exact rfl
 decide +kernel
 exact aj
 decide +kernel
 decide +kernel
 refine bf ?_ ?_
 exact ak
 refine af 5 ?_ ?_ ?_
 exact (Or.inl gi)
 exact fh
 exact rfl
 decide +kernel
 refine aE ?_ ?_ ?_
 refine af 2 ?_ ?_ ?_
 exact (Or.inl eV)
 exact eT
 exact rfl
 decide +kernel
 exact aj
 decide +kernel
 decide +kernel
 exact aj
 decide +kernel
 decide +kernel
 exact rfl
 decide +kernel
 decide +kernel
 refine ao ?_ ?_
 refine bO (i := 6) ?_ ?_ ?_ ?_ ?_ ?_
 exact nd
 exact (Or.inl cT)
 refine fX ?_ ?_
 refine aq ?_ ?_ ?_
 refine af 0 ?_ ?_ ?_
 exact (Or.inl bE)
 exact dO
 exact rfl
 refine cP ?_ ?_
 refine af 1 ?_ ?_ ?_
 exact (Or.inl fV)
 exact mJ
 exact rfl
 refine fL ?_ ?_ ?_ ?_
 exact T.i6
 exact eH
 refine aE ?_ ?_ ?_
 refine af 0 ?_ ?_ ?_
 exact (Or.inl bE)
 exact dO
 exact rfl
 decide +kernel
 exact aj
 decide +kernel
 decide +kernel
 exact ak
 exact Or.inl rfl
 exact rfl
 decide +kernel
 refine au ?_
 refine bJ ?_
 refine lU ?_
 refine aE ?_ ?_ ?_
 refine aq ?_ ?_ ?_
 refine af 2 ?_ ?_ ?_
 exact (Or.inl eV)
 exact eT
 exact rfl
 refine cP ?_ ?_
 refine af 6 ?_ ?_ ?_
 exact (Or.inl cT)
 exact dI
 exact rfl
 refine fL ?_ ?_ ?_ ?_
 exact T.i6
 exact eH
 refine aE ?_ ?_ ?_
 refine af 2 ?_ ?_ ?_
 exact (Or.inl eV)
 exact eT
 exact rfl
 decide +kernel
 exact aj
 decide +kernel
 decide +kernel
 decide +kernel
 refine aE ?_ ?_ ?_
 refine aq ?_ ?_ ?_
 refine af 3 ?_ ?_ ?_
 exact (Or.inl gK)
 exact kH
 exact rfl
 refine cP ?_ ?_
 refine fX ?_ ?_
 refine af 6 ?_ ?_ ?_
 exact (Or.inl cT)
 exact dI
 exact rfl
 exact ak
 refine fL ?_ ?_ ?_ ?_
 exact T.i6
 exact eH
 refine aE ?_ ?_ ?_
 refine af 3 ?_ ?_ ?_
 exact (Or.inl gK)
 exact kH
 exact rfl
 decide +kernel
 exact aj
 decide +kernel
 decide +kernel
 decide +kernel
 refine aE ?_ ?_ ?_
 refine aq ?_ ?_ ?_
 refine cQ ?_
 refine gS ?_
 refine fO ?_
 refine fO ?_
 exact aj
 refine cP ?_ ?_
 refine fX ?_ ?_
 refine af 6 ?_ ?_ ?_
 exact (Or.inl cT)
 exact dI
 exact rfl
 exact ak
 exact ak
 decide +kernel
 decide +kernel
 refine aE ?_ ?_ ?_
 refine vI ?_ ?_ ?_ ?_
 exact T.uZ
 exact qu
 refine aE ?_ ?_ ?_
 refine af 4 ?_ ?_ ?_
 exact (Or.inl eF)
 exact kG
 exact rfl
 decide +kernel
 exact aj
 decide +kernel
 decide +kernel
 exact aj
theorem sE : bz ue ["_law_shape"] (aa aY) := ⟨rfl, rfl, rfl, by decide +kernel, rfl, by decide +kernel, by decide +kernel⟩
theorem z9 (T : Txt K mg t) (iL : aR P w K mg base (bX P w) 1 (t.f 21) (t.d 21) ["_law_item_here"] (aN K mg 1 eg)) : aR P w K mg base (bX P w) 2 (t.f 22) (t.d 22) ["_law_shape"] (aN K mg 1 gF) := by
 refine aR.imp (sp := aN K mg 1 (fun ds => cj 7 ki ds)) ?_ bR
 refine uS (k := 1) (ms := ki) T.uv sE (by decide) (by decide) (fun _ => rfl) ?_
 intro X EE cdv A outer s H E hX hr hx pF
 subst hX
 have hu := bQ hr
 have nd := sE.nd
 have hfr : dG (fG (bX P w) P w K mg base ue "_law_text" (aa aY) (t.f 22) cdv A outer s H E) := ⟨_, outer, s.heap.objs.size, rfl, rfl, rfl⟩
 refine ao ?_ ?_
 refine bO (i := 1) ?_ ?_ ?_ ?_ ?_ ?_
 exact nd
 exact (Or.inl aF)
 refine bf ?_ ?_
 exact cZ
 refine aq ?_ ?_ ?_
 refine af 0 ?_ ?_ ?_
 exact (Or.inl gQ)
 exact cV
 exact rfl
 exact ak
 decide +kernel
 exact Or.inl rfl
 exact rfl
 decide +kernel
 refine ao ?_ ?_
 refine vG ?_ ?_ ?_ ?_ ?_ ?_
 exact pF
 exact rfl
 refine aq ?_ ?_ ?_
 refine af 0 ?_ ?_ ?_
 exact (Or.inl gQ)
 exact cV
 exact rfl
 exact ak
 decide +kernel
 refine Iv (i := 2) (j := 3) (l := 4) (n := 5) ?_ ?_ ?_ ?_ ?_ ?_ ?_ ?_ ?_ ?_ ?_ ?_ ?_ ?_
 exact rfl
 exact nd
 exact (Or.inl fC)
 exact (Or.inl ie)
 exact (Or.inl gP)
 exact (Or.inl gM)
 exact Or.inl rfl
 exact Or.inl rfl
 exact Or.inl rfl
 exact Or.inl rfl
 exact rfl
 exact rfl
 exact rfl
 exact rfl
 refine ao ?_ ?_
 refine bO (i := 1) ?_ ?_ ?_ ?_ ?_ ?_
 exact nd
 exact (Or.inl aF)
 refine bf ?_ ?_
 refine bf ?_ ?_
 refine bf ?_ ?_
 refine bf ?_ ?_
 refine bf ?_ ?_
 refine bf ?_ ?_
 refine af 1 ?_ ?_ ?_
 exact (Or.inl aF)
 exact bN
 exact rfl
 exact cZ
 refine af 2 ?_ ?_ ?_
 exact (Or.inl fC)
 exact dJ
 exact rfl
 exact cZ
 refine af 3 ?_ ?_ ?_
 exact (Or.inl ie)
 exact zN
 exact rfl
 exact cZ
 refine af 4 ?_ ?_ ?_
 exact (Or.inl gP)
 exact xq
 exact rfl
 exact Or.inl rfl
 exact rfl
 decide +kernel
 refine ao ?_ ?_
 refine vG ?_ ?_ ?_ ?_ ?_ ?_
 exact pF
 exact rfl
 refine af 5 ?_ ?_ ?_
 exact (Or.inl gM)
 exact kG
 exact rfl
 refine j8 (i := 6) ?_ ?_ ?_ ?_
 exact nd
 exact (Or.inl fB)
 exact Or.inl rfl
 exact rfl
 refine au ?_
 refine bO (i := 1) ?_ ?_ ?_ ?_ ?_ ?_
 exact nd
 exact (Or.inl aF)
 refine bf ?_ ?_
 refine bf ?_ ?_
 refine af 1 ?_ ?_ ?_
 exact (Or.inl aF)
 exact bN
 exact rfl
 exact cZ
 refine aZ (CX := bX P w) (k := rz) (f := (t.f 21)) (fd := (t.d 21)) (ps := ["_law_item_here"]) ?_ ?_ ?_ ?_ ?_ ?_ ?_ ?_ ?_ ?_
 exact iL
 exact hr.mono (by decide)
 exact T.tD
 exact T.lG.kp
 exact T.tB
 exact fJ hx
 exact jz
 exact rO
 refine aE ?_ ?_ ?_
 refine af 6 ?_ ?_ ?_
 exact (Or.inl fB)
 exact b8
 exact rfl
 decide +kernel
 exact aj
 decide +kernel
 exact Or.inl rfl
 exact rfl
 decide +kernel
 decide +kernel
 refine au ?_
 refine bO (i := 1) ?_ ?_ ?_ ?_ ?_ ?_
 exact nd
 exact (Or.inl aF)
 refine bf ?_ ?_
 refine af 1 ?_ ?_ ?_
 exact (Or.inl aF)
 exact bN
 exact rfl
 exact cZ
 exact Or.inl rfl
 exact rfl
 decide +kernel
 decide +kernel
 refine au ?_
 refine bJ ?_
 refine bf ?_ ?_
 refine af 1 ?_ ?_ ?_
 exact (Or.inl aF)
 exact bN
 exact rfl
 exact cZ
theorem oH : bz pO ["parts"] (aa aT) := ⟨rfl, rfl, rfl, by decide +kernel, rfl, by decide +kernel, by decide +kernel⟩
theorem wI (T : Txt K mg t) (gR : aR P w K mg base (bX P w) 2 (t.f 5) (t.d 5) ["parts", "sort"] (aN K mg 2 fQ)) (fj : aR P w K mg base (bX P w) 2 (t.f 6) (t.d 6) ["part"] (aN K mg 1 ff)) : aR P w K mg base (bX P w) 3 (t.f 8) (t.d 8) ["parts"] (aN K mg 1 gr) := by
 refine aR.imp (sp := aN K mg 1 (fun ds => cj 1 iR ds)) ?_ bR
 refine uS (k := 2) (ms := iR) T.pP oH (by decide) (by decide) (fun _ => rfl) ?_
 intro X EE cdv A outer s H E hX hr hx pF
 subst hX
 have hu := bQ hr
 have nd := oH.nd
 have hfr : dG (fG (bX P w) P w K mg base pO "shape_value" (aa aT) (t.f 8) cdv A outer s H E) := ⟨_, outer, s.heap.objs.size, rfl, rfl, rfl⟩
 refine ao ?_ ?_
 refine eX ?_ ?_ ?_
 refine cG ?_ ?_ ?_ ?_
 exact BJ
 refine fL ?_ ?_ ?_ ?_
 exact T.i6
 exact qA
 refine aE ?_ ?_ ?_
 refine af 0 ?_ ?_ ?_
 exact (Or.inl fW)
 exact bW
 exact rfl
 decide +kernel
 exact aj
 decide +kernel
 exact ak
 decide +kernel
 refine au ?_
 refine fM (C := (t.c 0)) ?_ ?_ ?_ ?_ ?_ ?_ ?_ ?_
 exact rfl
 exact hx
 exact T.fS
 exact T.fT
 exact nP
 exact eu
 refine fO ?_
 exact aj
 decide +kernel
 exact bY
 refine au ?_
 refine bJ ?_
 refine lU ?_
 refine aE ?_ ?_ ?_
 refine aZ (CX := bX P w) (k := mE) (f := (t.f 6)) (fd := (t.d 6)) (ps := ["part"]) ?_ ?_ ?_ ?_ ?_ ?_ ?_ ?_ ?_ ?_
 exact fj
 exact hr.mono (by decide)
 exact T.pe
 exact T.lF.kp
 exact T.o9
 exact fJ hx
 exact mU
 exact mK
 refine aE ?_ ?_ ?_
 refine aq ?_ ?_ ?_
 refine af 0 ?_ ?_ ?_
 exact (Or.inl fW)
 exact bW
 exact rfl
 exact ak
 decide +kernel
 decide +kernel
 exact aj
 decide +kernel
 decide +kernel
 refine aE ?_ ?_ ?_
 refine aZ (CX := bX P w) (k := rB) (f := (t.f 5)) (fd := (t.d 5)) (ps := ["parts", "sort"]) ?_ ?_ ?_ ?_ ?_ ?_ ?_ ?_ ?_ ?_
 exact gR
 exact hr.mono (by decide)
 exact T.ug
 exact T.oh.kp
 exact T.uf
 exact fJ hx
 exact kM
 exact rT
 refine aE ?_ ?_ ?_
 refine cQ ?_
 refine kY ?_ ?_ ?_
 refine af 0 ?_ ?_ ?_
 exact (Or.inl fW)
 exact bW
 exact rfl
 refine j5 ?_
 exact ak
 exact uR
 decide +kernel
 refine fO ?_
 exact aj
 decide +kernel
 decide +kernel
 exact aj
theorem pU : bz rE ["parts"] (aa bg) := ⟨rfl, rfl, rfl, by decide +kernel, rfl, by decide +kernel, by decide +kernel⟩
theorem xD (T : Txt K mg t) (gR : aR P w K mg base (bX P w) 2 (t.f 5) (t.d 5) ["parts", "sort"] (aN K mg 2 fQ)) (fj : aR P w K mg base (bX P w) 2 (t.f 6) (t.d 6) ["part"] (aN K mg 1 ff)) : aR P w K mg base (bX P w) 3 (t.f 9) (t.d 9) ["parts"] (aN K mg 1 gX) := by
 refine aR.imp (sp := aN K mg 1 (fun ds => cj 1 jr ds)) ?_ bR
 refine uS (k := 2) (ms := jr) T.rH pU (by decide) (by decide) (fun _ => rfl) ?_
 intro X EE cdv A outer s H E hX hr hx pF
 subst hX
 have hu := bQ hr
 have nd := pU.nd
 have hfr : dG (fG (bX P w) P w K mg base rE "rule_value" (aa bg) (t.f 9) cdv A outer s H E) := ⟨_, outer, s.heap.objs.size, rfl, rfl, rfl⟩
 refine ao ?_ ?_
 refine eX ?_ ?_ ?_
 refine E8 ?_
 refine CJ ?_ ?_
 refine cG ?_ ?_ ?_ ?_
 exact BJ
 refine fL ?_ ?_ ?_ ?_
 exact T.i6
 exact sf
 refine aE ?_ ?_ ?_
 refine af 0 ?_ ?_ ?_
 exact (Or.inl cg)
 exact bW
 exact rfl
 decide +kernel
 exact aj
 decide +kernel
 exact ak
 decide +kernel
 refine yY ?_
 refine cG ?_ ?_ ?_ ?_
 exact (DQ hu)
 refine aq ?_ ?_ ?_
 refine af 0 ?_ ?_ ?_
 exact (Or.inl cg)
 exact bW
 exact rfl
 exact ak
 decide +kernel
 refine qT ?_ ?_ ?_
 exact T.Gf
 exact oF
 exact El
 decide +kernel
 refine au ?_
 refine fM (C := (t.c 0)) ?_ ?_ ?_ ?_ ?_ ?_ ?_ ?_
 exact rfl
 exact hx
 exact T.fS
 exact T.fT
 exact oE
 exact eu
 refine fO ?_
 exact aj
 decide +kernel
 exact bY
 refine au ?_
 refine bJ ?_
 refine lU ?_
 refine aE ?_ ?_ ?_
 refine aZ (CX := bX P w) (k := mE) (f := (t.f 6)) (fd := (t.d 6)) (ps := ["part"]) ?_ ?_ ?_ ?_ ?_ ?_ ?_ ?_ ?_ ?_
 exact fj
 exact hr.mono (by decide)
 exact T.pe
 exact T.lF.kp
 exact T.o9
 exact fJ hx
 exact iE
 exact mK
 refine aE ?_ ?_ ?_
 refine aq ?_ ?_ ?_
 refine af 0 ?_ ?_ ?_
 exact (Or.inl cg)
 exact bW
 exact rfl
 exact ak
 decide +kernel
 decide +kernel
 exact aj
 decide +kernel
 decide +kernel
 refine aE ?_ ?_ ?_
 refine aZ (CX := bX P w) (k := mE) (f := (t.f 6)) (fd := (t.d 6)) (ps := ["part"]) ?_ ?_ ?_ ?_ ?_ ?_ ?_ ?_ ?_ ?_
 exact fj
 exact hr.mono (by decide)
 exact T.pe
 exact T.lF.kp
 exact T.o9
 exact fJ hx
 exact iE
 exact mK
 refine aE ?_ ?_ ?_
 refine aq ?_ ?_ ?_
 refine af 0 ?_ ?_ ?_
 exact (Or.inl cg)
 exact bW
 exact rfl
 exact ak
 decide +kernel
 decide +kernel
 exact aj
 decide +kernel
 decide +kernel
 refine aE ?_ ?_ ?_
 refine aq ?_ ?_ ?_
 refine af 0 ?_ ?_ ?_
 exact (Or.inl cg)
 exact bW
 exact rfl
 exact ak
 decide +kernel
 decide +kernel
 refine aE ?_ ?_ ?_
 refine aZ (CX := bX P w) (k := rB) (f := (t.f 5)) (fd := (t.d 5)) (ps := ["parts", "sort"]) ?_ ?_ ?_ ?_ ?_ ?_ ?_ ?_ ?_ ?_
 exact gR
 exact hr.mono (by decide)
 exact T.ug
 exact T.oh.kp
 exact T.uf
 exact fJ hx
 exact lM
 exact rT
 refine aE ?_ ?_ ?_
 refine cQ ?_
 refine kY ?_ ?_ ?_
 refine af 0 ?_ ?_ ?_
 exact (Or.inl cg)
 exact bW
 exact rfl
 refine j5 ?_
 exact ak
 exact uR
 decide +kernel
 refine fO ?_
 exact aj
 decide +kernel
 decide +kernel
 exact aj
theorem pV : bz rF ["parts"] (aa aS) := ⟨rfl, rfl, rfl, by decide +kernel, rfl, by decide +kernel, by decide +kernel⟩
theorem xE (T : Txt K mg t) (fj : aR P w K mg base (bX P w) 2 (t.f 6) (t.d 6) ["part"] (aN K mg 1 ff)) (iK : aR P w K mg base (bX P w) 1 (t.f 11) (t.d 11) ["part"] (aN K mg 1 gA)) (tM : aR P w K mg base (bX P w) 2 (t.f 12) (t.d 12) ["part", "low"] (aN K mg 2 lE)) : aR P w K mg base (bX P w) 3 (t.f 10) (t.d 10) ["parts"] (aN K mg 1 gY) := by
 refine aR.imp (sp := aN K mg 1 (fun ds => cj 2 jt ds)) ?_ bR
 refine uS (k := 2) (ms := jt) T.rJ pV (by decide) (by decide) (fun _ => rfl) ?_
 intro X EE cdv A outer s H E hX hr hx pF
 subst hX
 have hu := bQ hr
 have nd := pV.nd
 have hfr : dG (fG (bX P w) P w K mg base rF "item_value" (aa aS) (t.f 10) cdv A outer s H E) := ⟨_, outer, s.heap.objs.size, rfl, rfl, rfl⟩
 refine ao ?_ ?_
 refine eX ?_ ?_ ?_
 refine cG ?_ ?_ ?_ ?_
 exact (yW hu)
 refine fL ?_ ?_ ?_ ?_
 exact T.i6
 exact rZ
 refine aE ?_ ?_ ?_
 refine af 0 ?_ ?_ ?_
 exact (Or.inl dU)
 exact bW
 exact rfl
 decide +kernel
 exact aj
 decide +kernel
 exact ak
 decide +kernel
 refine au ?_
 refine fM (C := (t.c 0)) ?_ ?_ ?_ ?_ ?_ ?_ ?_ ?_
 exact rfl
 exact hx
 exact T.fS
 exact T.fT
 exact ou
 exact eu
 refine fO ?_
 exact aj
 decide +kernel
 exact bY
 refine ao ?_ ?_
 refine bO (i := 1) ?_ ?_ ?_ ?_ ?_ ?_
 exact nd
 exact (Or.inl ig)
 refine aZ (CX := bX P w) (k := tZ) (f := (t.f 11)) (fd := (t.d 11)) (ps := ["part"]) ?_ ?_ ?_ ?_ ?_ ?_ ?_ ?_ ?_ ?_
 exact iK
 exact hr.mono (by decide)
 exact T.wk
 exact T.qh.kp
 exact T.wj
 exact fJ hx
 exact mR
 exact uw
 refine aE ?_ ?_ ?_
 refine aq ?_ ?_ ?_
 refine af 0 ?_ ?_ ?_
 exact (Or.inl dU)
 exact bW
 exact rfl
 exact ak
 decide +kernel
 decide +kernel
 exact aj
 decide +kernel
 exact Or.inl rfl
 exact rfl
 decide +kernel
 refine au ?_
 refine bJ ?_
 refine lU ?_
 refine aE ?_ ?_ ?_
 refine aZ (CX := bX P w) (k := mE) (f := (t.f 6)) (fd := (t.d 6)) (ps := ["part"]) ?_ ?_ ?_ ?_ ?_ ?_ ?_ ?_ ?_ ?_
 exact fj
 exact hr.mono (by decide)
 exact T.pe
 exact T.lF.kp
 exact T.o9
 exact fJ hx
 exact nO
 exact mK
 refine aE ?_ ?_ ?_
 refine aq ?_ ?_ ?_
 refine af 0 ?_ ?_ ?_
 exact (Or.inl dU)
 exact bW
 exact rfl
 exact ak
 decide +kernel
 decide +kernel
 exact aj
 decide +kernel
 decide +kernel
 refine aE ?_ ?_ ?_
 refine af 1 ?_ ?_ ?_
 exact (Or.inl ig)
 exact Cj
 exact rfl
 decide +kernel
 refine aE ?_ ?_ ?_
 refine aZ (CX := bX P w) (k := Ca) (f := (t.f 12)) (fd := (t.d 12)) (ps := ["part", "low"]) ?_ ?_ ?_ ?_ ?_ ?_ ?_ ?_ ?_ ?_
 exact tM
 exact hr.mono (by decide)
 exact T.Ei
 exact T.yr.kp
 exact T.Eh
 exact fJ hx
 exact nN
 exact Cg
 refine aE ?_ ?_ ?_
 refine aq ?_ ?_ ?_
 refine af 0 ?_ ?_ ?_
 exact (Or.inl dU)
 exact bW
 exact rfl
 exact ak
 decide +kernel
 decide +kernel
 refine aE ?_ ?_ ?_
 refine af 1 ?_ ?_ ?_
 exact (Or.inl ig)
 exact Cj
 exact rfl
 decide +kernel
 exact aj
 decide +kernel
 decide +kernel
 exact aj
theorem sF : bz n6 ["rule"] (aa bV) := ⟨rfl, rfl, rfl, by decide +kernel, rfl, by decide +kernel, by decide +kernel⟩
theorem Aa (T : Txt K mg t) (gc : aR P w K mg base (bX P w) 1 (t.f 14) (t.d 14) ["words"] (aN K mg 1 cX)) (oJ : aR P w K mg base (bX P w) 2 (t.f 16) (t.d 16) ["item"] (aN K mg 1 gE)) : aR P w K mg base (bX P w) 3 (t.f 15) (t.d 15) ["rule"] (aN K mg 1 gH) := by
 refine aR.imp (sp := aN K mg 1 (fun ds => cj 1 kj ds)) ?_ bR
 refine uS (k := 2) (ms := kj) T.uh sF (by decide) (by decide) (fun _ => rfl) ?_
 intro X EE cdv A outer s H E hX hr hx pF
 subst hX
 have hu := bQ hr
 have nd := sF.nd
 have hfr : dG (fG (bX P w) P w K mg base n6 "rule_text" (aa bV) (t.f 15) cdv A outer s H E) := ⟨_, outer, s.heap.objs.size, rfl, rfl, rfl⟩
 refine au ?_
 refine bJ ?_
 refine aZ (CX := bX P w) (k := qf) (f := (t.f 14)) (fd := (t.d 14)) (ps := ["words"]) ?_ ?_ ?_ ?_ ?_ ?_ ?_ ?_ ?_ ?_
 exact gc
 exact hr.mono (by decide)
 exact T.tw
 exact T.pq.kp
 exact T.tu
 exact fJ hx
 exact oB
 exact qj
 refine aE ?_ ?_ ?_
 refine cQ ?_
 refine bf ?_ ?_
 refine cQ ?_
 refine gS ?_
 refine fO ?_
 refine aE ?_ ?_ ?_
 refine aq ?_ ?_ ?_
 refine af 0 ?_ ?_ ?_
 exact (Or.inl fE)
 exact rS
 exact rfl
 exact ak
 decide +kernel
 decide +kernel
 refine aE ?_ ?_ ?_
 refine aq ?_ ?_ ?_
 refine af 0 ?_ ?_ ?_
 exact (Or.inl fE)
 exact rS
 exact rfl
 exact ak
 decide +kernel
 decide +kernel
 refine aE ?_ ?_ ?_
 refine aq ?_ ?_ ?_
 refine af 0 ?_ ?_ ?_
 exact (Or.inl fE)
 exact rS
 exact rfl
 exact ak
 decide +kernel
 decide +kernel
 exact aj
 refine cQ ?_
 refine oX (xs := ["item"]) (ow := wX) ?_ ?_ ?_ ?_ ?_ ?_ ?_ ?_ ?_
 exact hx
 exact hfr
 exact iH
 exact iU iH
 exact gC
 exact rfl
 refine aq ?_ ?_ ?_
 refine af 0 ?_ ?_ ?_
 exact (Or.inl fE)
 exact rS
 exact rfl
 exact ak
 decide +kernel
 refine iG fun cl C pins s0 H0 fp E1 Le hx => ?_
 refine aZ (CX := bX P w) (k := zw) (f := (t.f 16)) (fd := (t.d 16)) (ps := ["item"]) ?_ ?_ ?_ ?_ ?_ ?_ ?_ ?_ ?_ ?_
 exact oJ
 exact hr.mono (by decide)
 exact T.A4
 exact T.um.kp
 exact T.A3
 exact fJ hx
 exact (oY jC)
 exact zS
 refine aE ?_ ?_ ?_
 refine af 0 ?_ ?_ ?_
 exact (lZ iH (by simp))
 exact rR
 exact rfl
 decide +kernel
 exact aj
 decide +kernel
 decide +kernel
 decide +kernel
 exact aj
 decide +kernel
theorem lP : bz nj ["parts"] (aa aP) := ⟨rfl, rfl, rfl, by decide +kernel, rfl, by decide +kernel, by decide +kernel⟩
theorem tN (T : Txt K mg t) (kN : aR P w K mg base (bX P w) 3 (t.f 8) (t.d 8) ["parts"] (aN K mg 1 gr)) (mX : aR P w K mg base (bX P w) 3 (t.f 9) (t.d 9) ["parts"] (aN K mg 1 gX)) (mY : aR P w K mg base (bX P w) 3 (t.f 10) (t.d 10) ["parts"] (aN K mg 1 gY)) : aR P w K mg base (bX P w) 4 (t.f 7) (t.d 7) ["parts"] (aN K mg 1 bG) := by
 refine aR.imp (sp := aN K mg 1 (fun ds => cj 1 dB ds)) ?_ bR
 refine uS (k := 3) (ms := dB) T.nv lP (by decide) (by decide) (fun _ => rfl) ?_
 intro X EE cdv A outer s H E hX hr hx pF
 subst hX
 have hu := bQ hr
 have nd := lP.nd
 have hfr : dG (fG (bX P w) P w K mg base nj "make_in_shape" (aa aP) (t.f 7) cdv A outer s H E) := ⟨_, outer, s.heap.objs.size, rfl, rfl, rfl⟩
 refine ao ?_ ?_
 refine eX ?_ ?_ ?_
 refine cG ?_ ?_ ?_ ?_
 exact (jN hu)
 refine cQ ?_
 refine kY ?_ ?_ ?_
 refine af 0 ?_ ?_ ?_
 exact (Or.inl b9)
 exact bW
 exact rfl
 exact uR
 refine j5 ?_
 exact ak
 refine cQ ?_
 refine gS ?_
 refine fO ?_
 exact aj
 decide +kernel
 refine au ?_
 refine bJ ?_
 refine lU ?_
 refine fO ?_
 refine aE ?_ ?_ ?_
 refine aZ (CX := bX P w) (k := vY) (f := (t.f 8)) (fd := (t.d 8)) (ps := ["parts"]) ?_ ?_ ?_ ?_ ?_ ?_ ?_ ?_ ?_ ?_
 exact kN
 exact hr.mono (by decide)
 exact T.xj
 exact T.pP.kp
 exact T.xh
 exact fJ hx
 exact jf
 exact wm
 refine aE ?_ ?_ ?_
 refine af 0 ?_ ?_ ?_
 exact (Or.inl b9)
 exact bW
 exact rfl
 decide +kernel
 exact aj
 decide +kernel
 decide +kernel
 exact aj
 exact bY
 refine ao ?_ ?_
 refine eX ?_ ?_ ?_
 refine cG ?_ ?_ ?_ ?_
 exact (jN hu)
 refine cQ ?_
 refine kY ?_ ?_ ?_
 refine af 0 ?_ ?_ ?_
 exact (Or.inl b9)
 exact bW
 exact rfl
 exact uR
 refine j5 ?_
 exact ak
 refine cQ ?_
 refine gS ?_
 refine fO ?_
 exact aj
 decide +kernel
 refine au ?_
 refine bJ ?_
 refine lU ?_
 refine fO ?_
 refine aE ?_ ?_ ?_
 refine aZ (CX := bX P w) (k := w6) (f := (t.f 9)) (fd := (t.d 9)) (ps := ["parts"]) ?_ ?_ ?_ ?_ ?_ ?_ ?_ ?_ ?_ ?_
 exact mX
 exact hr.mono (by decide)
 exact T.zC
 exact T.rH.kp
 exact T.zB
 exact fJ hx
 exact jE
 exact xx
 refine aE ?_ ?_ ?_
 refine af 0 ?_ ?_ ?_
 exact (Or.inl b9)
 exact bW
 exact rfl
 decide +kernel
 exact aj
 decide +kernel
 decide +kernel
 exact aj
 exact bY
 refine au ?_
 refine bJ ?_
 refine lU ?_
 refine fO ?_
 refine aE ?_ ?_ ?_
 refine aZ (CX := bX P w) (k := w9) (f := (t.f 10)) (fd := (t.d 10)) (ps := ["parts"]) ?_ ?_ ?_ ?_ ?_ ?_ ?_ ?_ ?_ ?_
 exact mY
 exact hr.mono (by decide)
 exact T.zE
 exact T.rJ.kp
 exact T.zD
 exact fJ hx
 exact jD
 exact xw
 refine aE ?_ ?_ ?_
 refine af 0 ?_ ?_ ?_
 exact (Or.inl b9)
 exact bW
 exact rfl
 decide +kernel
 exact aj
 decide +kernel
 decide +kernel
 exact aj
theorem pW : bz mF ["shape"] (aa bI) := ⟨rfl, rfl, rfl, by decide +kernel, rfl, by decide +kernel, by decide +kernel⟩
theorem xF (T : Txt K mg t) (gc : aR P w K mg base (bX P w) 1 (t.f 14) (t.d 14) ["words"] (aN K mg 1 cX)) (oK : aR P w K mg base (bX P w) 3 (t.f 15) (t.d 15) ["rule"] (aN K mg 1 gH)) : aR P w K mg base (bX P w) 4 (t.f 13) (t.d 13) ["shape"] (aN K mg 1 gZ) := by
 refine aR.imp (sp := aN K mg 1 (fun ds => cj 1 ju ds)) ?_ bR
 refine uS (k := 3) (ms := ju) T.rK pW (by decide) (by decide) (fun _ => rfl) ?_
 intro X EE cdv A outer s H E hX hr hx pF
 subst hX
 have hu := bQ hr
 have nd := pW.nd
 have hfr : dG (fG (bX P w) P w K mg base mF "show_shape" (aa bI) (t.f 13) cdv A outer s H E) := ⟨_, outer, s.heap.objs.size, rfl, rfl, rfl⟩
 refine au ?_
 refine bJ ?_
 refine aZ (CX := bX P w) (k := qf) (f := (t.f 14)) (fd := (t.d 14)) (ps := ["words"]) ?_ ?_ ?_ ?_ ?_ ?_ ?_ ?_ ?_ ?_
 exact gc
 exact hr.mono (by decide)
 exact T.tw
 exact T.pq.kp
 exact T.tu
 exact fJ hx
 exact nQ
 exact qj
 refine aE ?_ ?_ ?_
 refine cQ ?_
 refine bf ?_ ?_
 refine cQ ?_
 refine gS ?_
 refine fO ?_
 refine aE ?_ ?_ ?_
 refine aq ?_ ?_ ?_
 refine af 0 ?_ ?_ ?_
 exact (Or.inl jj)
 exact Bc
 exact rfl
 exact ak
 decide +kernel
 decide +kernel
 exact aj
 refine cQ ?_
 refine oX (xs := ["rule"]) (ow := wX) ?_ ?_ ?_ ?_ ?_ ?_ ?_ ?_ ?_
 exact hx
 exact hfr
 exact g8
 exact iU g8
 exact gC
 exact rfl
 refine aq ?_ ?_ ?_
 refine af 0 ?_ ?_ ?_
 exact (Or.inl jj)
 exact Bc
 exact rfl
 exact ak
 decide +kernel
 refine iG fun cl C pins s0 H0 fp E1 Le hx => ?_
 refine aZ (CX := bX P w) (k := zz) (f := (t.f 15)) (fd := (t.d 15)) (ps := ["rule"]) ?_ ?_ ?_ ?_ ?_ ?_ ?_ ?_ ?_ ?_
 exact oK
 exact hr.mono (by decide)
 exact T.A2
 exact T.uh.kp
 exact T.A1
 exact fJ hx
 exact (oY jd)
 exact zT
 refine aE ?_ ?_ ?_
 refine af 0 ?_ ?_ ?_
 exact (lZ g8 (by simp))
 exact rS
 exact rfl
 decide +kernel
 exact aj
 decide +kernel
 decide +kernel
 decide +kernel
 exact aj
 decide +kernel
theorem nF : bz n8 ["text", "make"] (aa aD) := ⟨rfl, rfl, rfl, by decide +kernel, rfl, by decide +kernel, by decide +kernel⟩
theorem uM (T : Txt K mg t) (qF : aR P w K mg base (bX P w) 1 (t.f 2) (t.d 2) ["text"] (aN K mg 1 jS)) (jg : aR P w K mg base (bX P w) 4 (t.f 7) (t.d 7) ["parts"] (aN K mg 1 bG)) : aR P w K mg base (bX P w) 5 (t.f 3) (t.d 3) ["text", "make"] (aN K mg 2 fR) := by
 refine aR.imp (sp := aN K mg 2 (fun ds => cj 5 g6 ds)) ?_ bR
 refine uS (k := 4) (ms := g6) T.n9 nF (by decide) (by decide) (fun _ => rfl) ?_
 intro X EE cdv A outer s H E hX hr hx pF
 subst hX
 have hu := bQ hr
 have nd := nF.nd
 have hfr : dG (fG (bX P w) P w K mg base n8 "read_bracket" (aa aD) (t.f 3) cdv A outer s H E) := ⟨_, outer, s.heap.objs.size, rfl, rfl, rfl⟩
 refine ao ?_ ?_
 refine bO (i := 2) ?_ ?_ ?_ ?_ ?_ ?_
 exact nd
 exact (Or.inl aL)
 refine gS ?_
 refine aE ?_ ?_ ?_
 refine gS ?_
 exact aj
 decide +kernel
 exact aj
 exact Or.inl rfl
 exact rfl
 decide +kernel
 refine ao ?_ ?_
 refine vG ?_ ?_ ?_ ?_ ?_ ?_
 exact pF
 exact rfl
 refine aZ (CX := bX P w) (k := AZ) (f := (t.f 2)) (fd := (t.d 2)) (ps := ["text"]) ?_ ?_ ?_ ?_ ?_ ?_ ?_ ?_ ?_ ?_
 exact qF
 exact hr.mono (by decide)
 exact T.Cd
 exact T.vZ.kp
 exact T.Cc
 exact fJ hx
 exact kL
 exact Bd
 refine aE ?_ ?_ ?_
 refine af 0 ?_ ?_ ?_
 exact (Or.inl oA)
 exact jy
 exact rfl
 decide +kernel
 exact aj
 decide +kernel
 refine j8 (i := 3) ?_ ?_ ?_ ?_
 exact nd
 exact (Or.inl dM)
 exact Or.inl rfl
 exact rfl
 refine au ?_
 refine eX ?_ ?_ ?_
 refine cG ?_ ?_ ?_ ?_
 exact (jN hu)
 refine af 3 ?_ ?_ ?_
 exact (Or.inl dM)
 exact rV
 exact rfl
 exact cZ
 decide +kernel
 refine au ?_
 refine oW ?_ ?_
 refine jJ ?_ ?_ ?_ ?_ ?_
 refine af 2 ?_ ?_ ?_
 exact (Or.inl aL)
 exact gI
 exact rfl
 refine aE ?_ ?_ ?_
 refine gS ?_
 exact aj
 decide +kernel
 exact aj
 decide +kernel
 decide +kernel
 exact rfl
 decide +kernel
 refine au ?_
 refine eX ?_ ?_ ?_
 refine cG ?_ ?_ ?_ ?_
 exact (jN hu)
 refine af 3 ?_ ?_ ?_
 exact (Or.inl dM)
 exact rV
 exact rfl
 exact cZ
 decide +kernel
 refine ao ?_ ?_
 refine bO (i := 4) ?_ ?_ ?_ ?_ ?_ ?_
 exact nd
 exact (Or.inl iD)
 refine K5 ?_ ?_ ?_
 refine af 2 ?_ ?_ ?_
 exact (Or.inl aL)
 exact gI
 exact rfl
 decide +kernel
 exact rfl
 exact Or.inl rfl
 exact rfl
 decide +kernel
 refine ao ?_ ?_
 refine eX ?_ ?_ ?_
 refine cG ?_ ?_ ?_ ?_
 exact (jN hu)
 refine fL ?_ ?_ ?_ ?_
 exact T.i6
 exact gj
 refine aE ?_ ?_ ?_
 refine af 2 ?_ ?_ ?_
 exact (Or.inl aL)
 exact gI
 exact rfl
 decide +kernel
 exact aj
 decide +kernel
 exact ak
 decide +kernel
 refine au ?_
 refine fM (C := (t.c 0)) ?_ ?_ ?_ ?_ ?_ ?_ ?_ ?_
 exact rfl
 exact hx
 exact T.fS
 exact T.fT
 exact eW
 exact eu
 refine fO ?_
 exact aj
 decide +kernel
 exact bY
 refine au ?_
 refine oW ?_ ?_
 refine jJ ?_ ?_ ?_ ?_ ?_
 refine aq ?_ ?_ ?_
 refine af 2 ?_ ?_ ?_
 exact (Or.inl aL)
 exact gI
 exact rfl
 refine Fe ?_
 exact ak
 decide +kernel
 refine aE ?_ ?_ ?_
 refine FF (CX := bX P w) ?_ ?_ ?_ ?_ ?_ ?_ ?_
 exact rfl
 exact (Or.inl oz)
 exact IC
 exact Nb ⟨⟨_, _, _, _, jg, hr.mono (by decide), T.ny, T.nv.kp, T.uJ⟩, trivial⟩
 exact fJ hx
 refine aE ?_ ?_ ?_
 refine Jv ?_
 refine af 4 ?_ ?_ ?_
 exact (Or.inl iD)
 exact bW
 exact rfl
 decide +kernel
 exact aj
 decide +kernel
 decide +kernel
 exact aj
 decide +kernel
 decide +kernel
 exact rfl
 decide +kernel
 refine au ?_
 refine oW ?_ ?_
 refine jJ ?_ ?_ ?_ ?_ ?_
 refine aq ?_ ?_ ?_
 refine af 2 ?_ ?_ ?_
 exact (Or.inl aL)
 exact gI
 exact rfl
 refine Fe ?_
 exact ak
 decide +kernel
 refine aE ?_ ?_ ?_
 refine af 3 ?_ ?_ ?_
 exact (Or.inl dM)
 exact rV
 exact rfl
 decide +kernel
 exact aj
 decide +kernel
 decide +kernel
 exact rfl
 decide +kernel
 decide +kernel
 refine ao ?_ ?_
 refine eX ?_ ?_ ?_
 refine cG ?_ ?_ ?_ ?_
 exact BK
 refine fL ?_ ?_ ?_ ?_
 exact T.i6
 exact gj
 refine aE ?_ ?_ ?_
 refine af 2 ?_ ?_ ?_
 exact (Or.inl aL)
 exact gI
 exact rfl
 decide +kernel
 exact aj
 decide +kernel
 exact ak
 decide +kernel
 refine au ?_
 refine fM (C := (t.c 0)) ?_ ?_ ?_ ?_ ?_ ?_ ?_ ?_
 exact rfl
 exact hx
 exact T.fS
 exact T.fT
 exact eW
 exact eu
 refine fO ?_
 exact aj
 decide +kernel
 exact bY
 refine ao ?_ ?_
 refine eX ?_ ?_ ?_
 refine cG ?_ ?_ ?_ ?_
 exact (yW hu)
 refine fL ?_ ?_ ?_ ?_
 exact T.i6
 exact gj
 refine aE ?_ ?_ ?_
 refine aq ?_ ?_ ?_
 refine af 2 ?_ ?_ ?_
 exact (Or.inl aL)
 exact gI
 exact rfl
 exact ak
 decide +kernel
 decide +kernel
 exact aj
 decide +kernel
 exact ak
 decide +kernel
 refine au ?_
 refine fM (C := (t.c 0)) ?_ ?_ ?_ ?_ ?_ ?_ ?_ ?_
 exact rfl
 exact hx
 exact T.fS
 exact T.fT
 exact eW
 exact eu
 refine fO ?_
 exact aj
 decide +kernel
 exact bY
 refine au ?_
 refine bJ ?_
 refine aq ?_ ?_ ?_
 refine aq ?_ ?_ ?_
 refine af 2 ?_ ?_ ?_
 exact (Or.inl aL)
 exact gI
 exact rfl
 exact ak
 decide +kernel
 exact ak
 decide +kernel
theorem pX : bz rG ["text"] (aa bB) := ⟨rfl, rfl, rfl, by decide +kernel, rfl, by decide +kernel, by decide +kernel⟩
theorem xG (T : Txt K mg t) (j3 : aR P w K mg base (bX P w) 5 (t.f 3) (t.d 3) ["text", "make"] (aN K mg 2 fR)) (iJ : aR P w K mg base (bX P w) 1 (t.f 4) (t.d 4) ["part", "sort"] (aN K mg 2 fP)) : aR P w K mg base (bX P w) 6 (t.f 1) (t.d 1) ["text"] (aN K mg 1 eS) := by
 refine aR.imp (sp := aN K mg 1 (fun ds => cj 1 jv ds)) ?_ bR
 refine uS (k := 5) (ms := jv) T.jw pX (by decide) (by decide) (fun _ => rfl) ?_
 intro X EE cdv A outer s H E hX hr hx pF
 subst hX
 have hu := bQ hr
 have nd := pX.nd
 have hfr : dG (fG (bX P w) P w K mg base rG "read_shape" (aa bB) (t.f 1) cdv A outer s H E) := ⟨_, outer, s.heap.objs.size, rfl, rfl, rfl⟩
 refine au ?_
 refine bJ ?_
 refine aZ (CX := bX P w) (k := tY) (f := (t.f 4)) (fd := (t.d 4)) (ps := ["part", "sort"]) ?_ ?_ ?_ ?_ ?_ ?_ ?_ ?_ ?_ ?_
 exact iJ
 exact hr.mono (by decide)
 exact T.wg
 exact T.qg.kp
 exact T.we
 exact fJ hx
 exact mT
 exact ux
 refine aE ?_ ?_ ?_
 refine aZ (CX := bX P w) (k := uI) (f := (t.f 3)) (fd := (t.d 3)) (ps := ["text", "make"]) ?_ ?_ ?_ ?_ ?_ ?_ ?_ ?_ ?_ ?_
 exact j3
 exact hr.mono (by decide)
 exact T.wc
 exact T.n9.kp
 exact T.v5
 exact fJ hx
 exact jZ
 exact uK
 refine aE ?_ ?_ ?_
 refine af 0 ?_ ?_ ?_
 exact (Or.inl qy)
 exact jy
 exact rfl
 decide +kernel
 refine aE ?_ ?_ ?_
 refine M7 (f := (t.f 7)) ?_ ?_ ?_
 exact T.ny
 exact jF
 exact tE
 decide +kernel
 exact aj
 decide +kernel
 decide +kernel
 refine fO ?_
 exact aj
 decide +kernel
theorem Gr : bz A0 ["_law_script"] (aa cu) := ⟨rfl, rfl, rfl, by decide +kernel, rfl, by decide +kernel, by decide +kernel⟩
theorem Lf (T : Txt K mg t) (iz : aR P w K mg base (bX P w) 6 (t.f 1) (t.d 1) ["text"] (aN K mg 1 eS)) (mZ : aR P w K mg base (bX P w) 4 (t.f 13) (t.d 13) ["shape"] (aN K mg 1 gZ)) (m5 : aR P w K mg base (bX P w) 1 (t.f 17) (t.d 17) ["_law_script", "_law_many"] (aN K mg 2 fY)) (kC : aR P w K mg base (bX P w) 1 (t.f 18) (t.d 18) ["_law_draw"] (aN K mg 1 cI)) (oM : aR P w K mg base (bX P w) 2 (t.f 20) (t.d 20) ["_law_cells", "_law_at", "_law_pool", "_law_kinds"] (aN K mg 4 i0)) (oO : aR P w K mg base (bX P w) 2 (t.f 22) (t.d 22) ["_law_shape"] (aN K mg 1 gF)) (m6 : aR P w K mg base (bX P w) 1 (t.f 23) (t.d 23) ["_law_shape"] (aN K mg 1 gW)) : pH P w K mg base (bX P w) 7 (t.f 24) (t.d 24) ["_law_script"] (aN K mg 1 Dg) := by
 refine pH.imp (sp := aN K mg 1 (fun ds => cj 11 Df ds)) ?_ bR
 refine Q0 (k := 6) (ms := Df) T.Ni Gr (by decide) (by decide) (fun _ => rfl) ?_
 intro X EE cdv A outer s H E hX hr hx pF
 subst hX
 have hu := bQ hr
 have nd := Gr.nd
 have hfr : dG (fG (bX P w) P w K mg base A0 "law" (aa cu) (t.f 24) cdv A outer s H E) := ⟨_, outer, s.heap.objs.size, rfl, rfl, rfl⟩
 refine QY (CX := bX P w) (k := wY) (f := (t.f 17)) (fd := (t.d 17)) (ps := ["_law_script", "_law_many"]) (i := 1) (j := 0) ?_ ?_ ?_ ?_ ?_ ?_ ?_ ?_ ?_ ?_ ?_ ?_ ?_ ?_ ?_ ?_
 exact m5
 exact hr.mono (by decide)
 exact T.zI
 exact T.rL.kp
 exact T.zH
 exact fJ hx
 exact r6
 exact xo
 exact nd
 exact (Or.inr aK)
 exact Or.inl rfl
 exact jY
 exact eB
 refine ao ?_ ?_
 refine Jw ?_
 refine yd (i := 2) (xs := ["_law_k"]) (ow := wX) ?_ ?_ ?_ ?_ ?_ ?_ ?_ ?_ ?_ ?_ ?_ ?_ ?_ ?_ ?_
 exact hx
 exact hfr
 exact mL
 exact iU mL
 exact gC
 exact rfl
 exact nd
 exact gb
 exact T.pA
 exact mS
 refine Io ?_
 exact aj
 refine iG fun cl C pins s0 H0 fp E1 Le hx => ?_
 refine aZ (CX := bX P w) (k := rq) (f := (t.f 18)) (fd := (t.d 18)) (ps := ["_law_draw"]) ?_ ?_ ?_ ?_ ?_ ?_ ?_ ?_ ?_ ?_
 exact kC
 exact hr.mono (by decide)
 exact T.uq
 exact T.oi.kp
 exact T.uo
 exact fJ hx
 exact (oY nJ)
 exact rP
 refine aE ?_ ?_ ?_
 refine aq ?_ ?_ ?_
 refine af 2 ?_ ?_ ?_
 exact (zf mL jA)
 exact aU
 exact rfl
 refine af 0 ?_ ?_ ?_
 exact (lZ mL (by simp))
 exact fh
 exact rfl
 decide +kernel
 decide +kernel
 exact aj
 decide +kernel
 refine ye ?_ ?_ ?_ ?_
 exact rfl
 exact gb
 exact rfl
 decide +kernel
 exact rfl
 decide +kernel
 refine ao ?_ ?_
 refine Jw ?_
 refine yd (i := 3) (xs := ["_law_k"]) (ow := wX) ?_ ?_ ?_ ?_ ?_ ?_ ?_ ?_ ?_ ?_ ?_ ?_ ?_ ?_ ?_
 exact hx
 exact hfr
 exact mO
 exact iU mO
 exact gC
 exact rfl
 exact nd
 exact iu
 exact T.pA
 exact mS
 refine Io ?_
 exact aj
 refine iG fun cl C pins s0 H0 fp E1 Le hx => ?_
 refine aZ (CX := bX P w) (k := rq) (f := (t.f 18)) (fd := (t.d 18)) (ps := ["_law_draw"]) ?_ ?_ ?_ ?_ ?_ ?_ ?_ ?_ ?_ ?_
 exact kC
 exact hr.mono (by decide)
 exact T.uq
 exact T.oi.kp
 exact T.uo
 exact fJ hx
 exact (oY nK)
 exact rP
 refine aE ?_ ?_ ?_
 refine aq ?_ ?_ ?_
 refine af 2 ?_ ?_ ?_
 exact (zf mO jB)
 exact aU
 exact rfl
 refine bf ?_ ?_
 exact ak
 refine af 0 ?_ ?_ ?_
 exact (lZ mO (by simp))
 exact fh
 exact rfl
 decide +kernel
 decide +kernel
 exact aj
 decide +kernel
 refine ye ?_ ?_ ?_ ?_
 exact rfl
 exact iu
 exact rfl
 decide +kernel
 exact rfl
 decide +kernel
 refine ao ?_ ?_
 refine bO (i := 4) ?_ ?_ ?_ ?_ ?_ ?_
 exact nd
 exact (Or.inl kr)
 refine cQ ?_
 refine bf ?_ ?_
 refine cQ ?_
 refine oX (xs := ["_law_cell"]) (ow := wX) ?_ ?_ ?_ ?_ ?_ ?_ ?_ ?_ ?_
 exact hx
 exact hfr
 exact qk
 exact iU qk
 exact gC
 exact rfl
 refine cQ ?_
 refine kY ?_ ?_ ?_
 refine af 0 ?_ ?_ ?_
 exact (Or.inl jY)
 exact eB
 exact rfl
 refine j5 ?_
 exact ak
 refine j5 ?_
 exact ak
 refine iG fun cl C pins s0 H0 fp E1 Le hx => ?_
 refine cP ?_ ?_
 refine af 0 ?_ ?_ ?_
 exact (lZ qk (by simp))
 exact dI
 exact rfl
 refine EZ ?_ ?_
 exact ak
 exact ak
 decide +kernel
 refine cQ ?_
 refine kY ?_ ?_ ?_
 refine af 1 ?_ ?_ ?_
 exact (Or.inr (Or.inl aK))
 exact aU
 exact rfl
 refine j5 ?_
 exact ak
 refine j5 ?_
 exact ak
 exact Or.inl rfl
 exact rfl
 decide +kernel
 refine ao ?_ ?_
 refine bO (i := 5) ?_ ?_ ?_ ?_ ?_ ?_
 exact nd
 exact (Or.inl iw)
 refine gS ?_
 exact aj
 exact Or.inl rfl
 exact rfl
 decide +kernel
 refine ao ?_ ?_
 refine qU ?_ ?_ ?_ ?_ ?_ ?_ ?_ ?_
 exact pF
 exact rfl
 exact T.pA
 exact mS
 refine aE ?_ ?_ ?_
 refine bf ?_ ?_
 exact ak
 refine cP ?_ ?_
 refine aq ?_ ?_ ?_
 refine af 1 ?_ ?_ ?_
 exact (Or.inr (Or.inl aK))
 exact aU
 exact rfl
 exact ak
 decide +kernel
 exact ak
 decide +kernel
 exact aj
 refine j8 (i := 6) ?_ ?_ ?_ ?_
 exact nd
 exact (Or.inl pR)
 exact Or.inl rfl
 exact rfl
 refine au ?_
 refine oW ?_ ?_
 refine jJ ?_ ?_ ?_ ?_ ?_
 refine af 5 ?_ ?_ ?_
 exact (Or.inl iw)
 exact pQ
 exact rfl
 refine aE ?_ ?_ ?_
 refine aZ (CX := bX P w) (k := zx) (f := (t.f 20)) (fd := (t.d 20)) (ps := ["_law_cells", "_law_at", "_law_pool", "_law_kinds"]) ?_ ?_ ?_ ?_ ?_ ?_ ?_ ?_ ?_ ?_
 exact oM
 exact hr.mono (by decide)
 exact T.A8
 exact T.uu.kp
 exact T.A7
 exact fJ hx
 exact tH
 exact zP
 refine aE ?_ ?_ ?_
 refine af 4 ?_ ?_ ?_
 exact (Or.inl kr)
 exact dO
 exact rfl
 decide +kernel
 refine aE ?_ ?_ ?_
 refine vp ?_ ?_
 exact ak
 refine af 6 ?_ ?_ ?_
 exact (Or.inl pR)
 exact fh
 exact rfl
 decide +kernel
 refine aE ?_ ?_ ?_
 refine af 2 ?_ ?_ ?_
 exact (Or.inl gb)
 exact eT
 exact rfl
 decide +kernel
 refine aE ?_ ?_ ?_
 refine af 3 ?_ ?_ ?_
 exact (Or.inl iu)
 exact kH
 exact rfl
 decide +kernel
 exact aj
 decide +kernel
 decide +kernel
 exact aj
 decide +kernel
 decide +kernel
 exact rfl
 decide +kernel
 decide +kernel
 refine ao ?_ ?_
 refine bO (i := 7) ?_ ?_ ?_ ?_ ?_ ?_
 exact nd
 exact (Or.inl cL)
 refine lU ?_
 refine aE ?_ ?_ ?_
 refine aq ?_ ?_ ?_
 refine af 2 ?_ ?_ ?_
 exact (Or.inl gb)
 exact eT
 exact rfl
 refine cP ?_ ?_
 refine aq ?_ ?_ ?_
 refine af 1 ?_ ?_ ?_
 exact (Or.inr (Or.inl aK))
 exact aU
 exact rfl
 exact ak
 decide +kernel
 exact ak
 decide +kernel
 decide +kernel
 refine aE ?_ ?_ ?_
 refine vI ?_ ?_ ?_ ?_
 exact T.uZ
 exact zV
 refine aE ?_ ?_ ?_
 refine af 5 ?_ ?_ ?_
 exact (Or.inl iw)
 exact pQ
 exact rfl
 decide +kernel
 exact aj
 decide +kernel
 decide +kernel
 exact aj
 exact Or.inl rfl
 exact rfl
 decide +kernel
 refine ao ?_ ?_
 refine bO (i := 8) ?_ ?_ ?_ ?_ ?_ ?_
 exact nd
 exact (Or.inl cC)
 refine aZ (CX := bX P w) (k := zy) (f := (t.f 22)) (fd := (t.d 22)) (ps := ["_law_shape"]) ?_ ?_ ?_ ?_ ?_ ?_ ?_ ?_ ?_ ?_
 exact oO
 exact hr.mono (by decide)
 exact T.Ba
 exact T.uv.kp
 exact T.A9
 exact fJ hx
 exact tK
 exact zQ
 refine aE ?_ ?_ ?_
 refine af 7 ?_ ?_ ?_
 exact (Or.inl cL)
 exact cV
 exact rfl
 decide +kernel
 exact aj
 decide +kernel
 exact Or.inl rfl
 exact rfl
 decide +kernel
 refine ao ?_ ?_
 refine bO (i := 9) ?_ ?_ ?_ ?_ ?_ ?_
 exact nd
 exact (Or.inl cK)
 refine vU (zs := [" ", "  ", "\n "]) ?_ ?_ ?_ ?_ ?_ ?_ ?_ ?_
 exact T.NB
 refine af 8 ?_ ?_ ?_
 exact (Or.inl cC)
 exact bN
 exact rfl
 refine cP ?_ ?_
 refine aq ?_ ?_ ?_
 refine af 1 ?_ ?_ ?_
 exact (Or.inr (Or.inl aK))
 exact aU
 exact rfl
 exact ak
 decide +kernel
 exact ak
 exact rfl
 decide +kernel
 decide +kernel
 decide +kernel
 exact rfl
 exact Or.inl rfl
 exact rfl
 decide +kernel
 refine ao ?_ ?_
 refine eX ?_ ?_ ?_
 refine cG ?_ ?_ ?_ ?_
 exact (jN hu)
 refine cP ?_ ?_
 refine fX ?_ ?_
 refine aq ?_ ?_ ?_
 refine af 1 ?_ ?_ ?_
 exact (Or.inr (Or.inl aK))
 exact aU
 exact rfl
 exact ak
 decide +kernel
 exact ak
 exact ak
 exact ak
 decide +kernel
 refine au ?_
 refine bO (i := 9) ?_ ?_ ?_ ?_ ?_ ?_
 exact nd
 exact (Or.inl cK)
 refine vU (zs := ["( ", "\n(", " ( "]) ?_ ?_ ?_ ?_ ?_ ?_ ?_ ?_
 exact T.NB
 refine af 9 ?_ ?_ ?_
 exact (Or.inl cK)
 exact kI
 exact rfl
 refine cP ?_ ?_
 refine aq ?_ ?_ ?_
 refine af 1 ?_ ?_ ?_
 exact (Or.inr (Or.inl aK))
 exact aU
 exact rfl
 exact ak
 decide +kernel
 exact ak
 exact rfl
 decide +kernel
 decide +kernel
 decide +kernel
 exact rfl
 exact Or.inl rfl
 exact rfl
 decide +kernel
 exact bY
 refine ao ?_ ?_
 refine eX ?_ ?_ ?_
 refine cG ?_ ?_ ?_ ?_
 exact (jN hu)
 refine cP ?_ ?_
 refine fX ?_ ?_
 refine aq ?_ ?_ ?_
 refine af 1 ?_ ?_ ?_
 exact (Or.inr (Or.inl aK))
 exact aU
 exact rfl
 exact ak
 decide +kernel
 exact ak
 exact ak
 exact ak
 decide +kernel
 refine au ?_
 refine bO (i := 9) ?_ ?_ ?_ ?_ ?_ ?_
 exact nd
 exact (Or.inl cK)
 refine vU (zs := [" )", ")\n", "\n ) "]) ?_ ?_ ?_ ?_ ?_ ?_ ?_ ?_
 exact T.NB
 refine af 9 ?_ ?_ ?_
 exact (Or.inl cK)
 exact kI
 exact rfl
 refine cP ?_ ?_
 refine aq ?_ ?_ ?_
 refine af 1 ?_ ?_ ?_
 exact (Or.inr (Or.inl aK))
 exact aU
 exact rfl
 exact ak
 decide +kernel
 exact ak
 exact rfl
 decide +kernel
 decide +kernel
 decide +kernel
 exact rfl
 exact Or.inl rfl
 exact rfl
 decide +kernel
 exact bY
 refine ao ?_ ?_
 refine bO (i := 10) ?_ ?_ ?_ ?_ ?_ ?_
 exact nd
 exact (Or.inl ir)
 refine aZ (CX := bX P w) (k := kF) (f := (t.f 1)) (fd := (t.d 1)) (ps := ["text"]) ?_ ?_ ?_ ?_ ?_ ?_ ?_ ?_ ?_ ?_
 exact iz
 exact hr.mono (by decide)
 exact T.mH
 exact T.jw.kp
 exact T.mG
 exact fJ hx
 exact iy
 exact kJ
 refine aE ?_ ?_ ?_
 refine af 9 ?_ ?_ ?_
 exact (Or.inl cK)
 exact kI
 exact rfl
 decide +kernel
 exact aj
 decide +kernel
 exact Or.inl rfl
 exact rfl
 decide +kernel
 refine ao ?_ ?_
 refine eX ?_ ?_ ?_
 refine cG ?_ ?_ ?_ ?_
 exact (yW hu)
 refine aZ (CX := bX P w) (k := kF) (f := (t.f 1)) (fd := (t.d 1)) (ps := ["text"]) ?_ ?_ ?_ ?_ ?_ ?_ ?_ ?_ ?_ ?_
 exact iz
 exact hr.mono (by decide)
 exact T.mH
 exact T.jw.kp
 exact T.mG
 exact fJ hx
 exact iy
 exact kJ
 refine aE ?_ ?_ ?_
 refine zj ?_ ?_ ?_
 refine af 8 ?_ ?_ ?_
 exact (Or.inl cC)
 exact bN
 exact rfl
 decide +kernel
 exact rfl
 decide +kernel
 exact aj
 decide +kernel
 refine af 7 ?_ ?_ ?_
 exact (Or.inl cL)
 exact cV
 exact rfl
 decide +kernel
 refine au ?_
 refine bJ ?_
 exact Au
 exact bY
 refine au ?_
 refine bJ ?_
 refine BL ?_ ?_
 refine E3 ?_ ?_ ?_
 exact hu
 refine aZ (CX := bX P w) (k := xg) (f := (t.f 13)) (fd := (t.d 13)) (ps := ["shape"]) ?_ ?_ ?_ ?_ ?_ ?_ ?_ ?_ ?_ ?_
 exact mZ
 exact hr.mono (by decide)
 exact T.zG
 exact T.rK.kp
 exact T.zF
 exact fJ hx
 exact r9
 exact xy
 refine aE ?_ ?_ ?_
 refine af 7 ?_ ?_ ?_
 exact (Or.inl cL)
 exact cV
 exact rfl
 decide +kernel
 exact aj
 decide +kernel
 refine af 8 ?_ ?_ ?_
 exact (Or.inl cC)
 exact bN
 exact rfl
 refine BL ?_ ?_
 refine E3 ?_ ?_ ?_
 exact hu
 refine aZ (CX := bX P w) (k := kF) (f := (t.f 1)) (fd := (t.d 1)) (ps := ["text"]) ?_ ?_ ?_ ?_ ?_ ?_ ?_ ?_ ?_ ?_
 exact iz
 exact hr.mono (by decide)
 exact T.mH
 exact T.jw.kp
 exact T.mG
 exact fJ hx
 exact iy
 exact kJ
 refine aE ?_ ?_ ?_
 refine af 8 ?_ ?_ ?_
 exact (Or.inl cC)
 exact bN
 exact rfl
 decide +kernel
 exact aj
 decide +kernel
 refine af 7 ?_ ?_ ?_
 exact (Or.inl cL)
 exact cV
 exact rfl
 refine BL ?_ ?_
 refine E3 ?_ ?_ ?_
 exact hu
 refine af 10 ?_ ?_ ?_
 exact (Or.inl ir)
 exact iS
 exact rfl
 refine af 7 ?_ ?_ ?_
 exact (Or.inl cL)
 exact cV
 exact rfl
 refine KH ?_
 refine aZ (CX := bX P w) (k := wZ) (f := (t.f 23)) (fd := (t.d 23)) (ps := ["_law_shape"]) ?_ ?_ ?_ ?_ ?_ ?_ ?_ ?_ ?_ ?_
 exact m6
 exact hr.mono (by decide)
 exact T.zK
 exact T.rM.kp
 exact T.zJ
 exact fJ hx
 exact r8
 exact xu
 refine aE ?_ ?_ ?_
 refine af 10 ?_ ?_ ?_
 exact (Or.inl ir)
 exact iS
 exact rfl
 decide +kernel
 exact aj
 decide +kernel
 exact rfl
 exact rfl
end
theorem nR {p : List Value → Prop} (h : ∀ a0, p [a0]) : ∀ us : List Value, us.length = 1 → p us := fun us e => by
  rcases us with _ | ⟨a0, us⟩
  · cases e
  rcases us with _ | ⟨z, us⟩
  · exact h a0
  · cases e
theorem En {p : List Value → Prop} (h : ∀ a0 a1, p [a0, a1]) : ∀ us : List Value, us.length = 2 → p us := fun us e => by
  rcases us with _ | ⟨a0, us⟩
  · cases e
  rcases us with _ | ⟨a1, us⟩
  · cases e
  rcases us with _ | ⟨z, us⟩
  · exact h a0 a1
  · cases e
theorem Q6 {p : List Value → Prop} (h : ∀ a0 a1 a2 a3, p [a0, a1, a2, a3]) : ∀ us : List Value, us.length = 4 → p us := fun us e => by
  rcases us with _ | ⟨a0, us⟩
  · cases e
  rcases us with _ | ⟨a1, us⟩
  · cases e
  rcases us with _ | ⟨a2, us⟩
  · cases e
  rcases us with _ | ⟨a3, us⟩
  · cases e
  rcases us with _ | ⟨z, us⟩
  · exact h a0 a1 a2 a3
  · cases e
theorem Lg {K : PySem.W.Frag} {h : Heap} {mg : Str → Option Value} (X : K.In h) (G : h.Ns mainGlobals mg) {f0 : Addr} {Vy Q7 : Option Addr} {Vz : Array (Option Value)} {VA Q8 Q9 Ra Pb Rb : Value} (a0 : PySem.W.nsIn K mainGlobals "is_name" = some (some (.ref f0))) (l0 : K.lookup f0 = some ⟨VA, Vy, .func (PySem.W.fnOf "is_name" "is_name" (ay bA) (av bA) (aa bA) .none Q8 Q9 Ra Q7 Pb Rb), Vz⟩) (c0 : PySem.W.codeIn K Pb "is_name" = true) (k0 : PySem.W.keepIn K (.ref f0) = true) {f1 : Addr} {VB S7 : Option Addr} {VC : Array (Option Value)} {VD S8 S9 Tc Rc Td : Value} (a1 : PySem.W.nsIn K mainGlobals "read_shape" = some (some (.ref f1))) (l1 : K.lookup f1 = some ⟨VD, VB, .func (PySem.W.fnOf "read_shape" "read_shape" (ay bB) (av bB) (aa bB) .none S8 S9 Tc S7 Rc Td), VC⟩) (c1 : PySem.W.codeIn K Rc "read_shape" = true) (k1 : PySem.W.keepIn K (.ref f1) = true) {f2 : Addr} {VE Te : Option Addr} {sl2 : Array (Option Value)} {VF Tf Tg Th Rf Ti : Value} (a2 : PySem.W.nsIn K mainGlobals "words_of" = some (some (.ref f2))) (l2 : K.lookup f2 = some ⟨VF, VE, .func (PySem.W.fnOf "words_of" "words_of" (ay bK) (av bK) (aa bK) .none Tf Tg Th Te Rf Ti), sl2⟩) (c2 : PySem.W.codeIn K Rf "words_of" = true) (k2 : PySem.W.keepIn K (.ref f2) = true) {f3 : Addr} {VG Tj : Option Addr} {VH : Array (Option Value)} {VI Tn To Tp Rg Tq : Value} (a3 : PySem.W.nsIn K mainGlobals "read_bracket" = some (some (.ref f3))) (l3 : K.lookup f3 = some ⟨VI, VG, .func (PySem.W.fnOf "read_bracket" "read_bracket" (ay aD) (av aD) (aa aD) .none Tn To Tp Tj Rg Tq), VH⟩) (c3 : PySem.W.codeIn K Rg "read_bracket" = true) (k3 : PySem.W.keepIn K (.ref f3) = true) {f4 : Addr} {VJ Tr : Option Addr} {VL : Array (Option Value)} {VM Tt Tu Tv Rh Tw : Value} (a4 : PySem.W.nsIn K mainGlobals "value_of" = some (some (.ref f4))) (l4 : K.lookup f4 = some ⟨VM, VJ, .func (PySem.W.fnOf "value_of" "value_of" (ay bT) (av bT) (aa bT) .none Tt Tu Tv Tr Rh Tw), VL⟩) (c4 : PySem.W.codeIn K Rh "value_of" = true) (k4 : PySem.W.keepIn K (.ref f4) = true) {f5 : Addr} {VN Tz : Option Addr} {VO : Array (Option Value)} {VP TF TH TJ Ri TL : Value} (a5 : PySem.W.nsIn K mainGlobals "values_of" = some (some (.ref f5))) (l5 : K.lookup f5 = some ⟨VP, VN, .func (PySem.W.fnOf "values_of" "values_of" (ay bU) (av bU) (aa bU) .none TF TH TJ Tz Ri TL), VO⟩) (c5 : PySem.W.codeIn K Ri "values_of" = true) (k5 : PySem.W.keepIn K (.ref f5) = true) {f6 : Addr} {VQ TM : Option Addr} {VR : Array (Option Value)} {VS TN TQ TR Rj TU : Value} (a6 : PySem.W.nsIn K mainGlobals "name_of" = some (some (.ref f6))) (l6 : K.lookup f6 = some ⟨VS, VQ, .func (PySem.W.fnOf "name_of" "name_of" (ay cW) (av cW) (aa cW) .none TN TQ TR TM Rj TU), VR⟩) (c6 : PySem.W.codeIn K Rj "name_of" = true) (k6 : PySem.W.keepIn K (.ref f6) = true) {f7 : Addr} {VT TV : Option Addr} {VU : Array (Option Value)} {VV TX TY TZ Rk T3 : Value} (a7 : PySem.W.nsIn K mainGlobals "make_in_shape" = some (some (.ref f7))) (l7 : K.lookup f7 = some ⟨VV, VT, .func (PySem.W.fnOf "make_in_shape" "make_in_shape" (ay aP) (av aP) (aa aP) .none TX TY TZ TV Rk T3), VU⟩) (c7 : PySem.W.codeIn K Rk "make_in_shape" = true) (k7 : PySem.W.keepIn K (.ref f7) = true) {f8 : Addr} {VW T4 : Option Addr} {VX : Array (Option Value)} {VY T5 T6 T7 Rm T8 : Value} (a8 : PySem.W.nsIn K mainGlobals "shape_value" = some (some (.ref f8))) (l8 : K.lookup f8 = some ⟨VY, VW, .func (PySem.W.fnOf "shape_value" "shape_value" (ay aT) (av aT) (aa aT) .none T5 T6 T7 T4 Rm T8), VX⟩) (c8 : PySem.W.codeIn K Rm "shape_value" = true) (k8 : PySem.W.keepIn K (.ref f8) = true) {f9 : Addr} {VZ T9 : Option Addr} {V0 : Array (Option Value)} {V1 Ua Ub Uc Rn Ud : Value} (a9 : PySem.W.nsIn K mainGlobals "rule_value" = some (some (.ref f9))) (l9 : K.lookup f9 = some ⟨V1, VZ, .func (PySem.W.fnOf "rule_value" "rule_value" (ay bg) (av bg) (aa bg) .none Ua Ub Uc T9 Rn Ud), V0⟩) (c9 : PySem.W.codeIn K Rn "rule_value" = true) (k9 : PySem.W.keepIn K (.ref f9) = true) {Pc : Addr} {Ro Nl : Option Addr} {Rp : Array (Option Value)} {Rq Nn Np Nq Lh Nr : Value} (V2 : PySem.W.nsIn K mainGlobals "item_value" = some (some (.ref Pc))) (V3 : K.lookup Pc = some ⟨Rq, Ro, .func (PySem.W.fnOf "item_value" "item_value" (ay aS) (av aS) (aa aS) .none Nn Np Nq Nl Lh Nr), Rp⟩) (V4 : PySem.W.codeIn K Lh "item_value" = true) (V5 : PySem.W.keepIn K (.ref Pc) = true) {Pd : Addr} {Rr Nt : Option Addr} {Rt : Array (Option Value)} {Ru Nu Nv Nx Li Ny : Value} (V6 : PySem.W.nsIn K mainGlobals "count_of" = some (some (.ref Pd))) (V7 : K.lookup Pd = some ⟨Ru, Rr, .func (PySem.W.fnOf "count_of" "count_of" (ay cD) (av cD) (aa cD) .none Nu Nv Nx Nt Li Ny), Rt⟩) (V8 : PySem.W.codeIn K Li "count_of" = true) (V9 : PySem.W.keepIn K (.ref Pd) = true) {Ij : Addr} {Rv Nz : Option Addr} {Rw : Array (Option Value)} {Rx NC ND NF Lj NG : Value} (Wa : PySem.W.nsIn K mainGlobals "high_of" = some (some (.ref Ij))) (Wb : K.lookup Ij = some ⟨Rx, Rv, .func (PySem.W.fnOf "high_of" "high_of" (ay cE) (av cE) (aa cE) .none NC ND NF Nz Lj NG), Rw⟩) (c12 : PySem.W.codeIn K Lj "high_of" = true) (Wc : PySem.W.keepIn K (.ref Ij) = true) {Pe : Addr} {Ry NH : Option Addr} {Rz : Array (Option Value)} {RA NI NJ NK Lk NL : Value} (Wd : PySem.W.nsIn K mainGlobals "show_shape" = some (some (.ref Pe))) (We : K.lookup Pe = some ⟨RA, Ry, .func (PySem.W.fnOf "show_shape" "show_shape" (ay bI) (av bI) (aa bI) .none NI NJ NK NH Lk NL), Rz⟩) (Wf : PySem.W.codeIn K Lk "show_shape" = true) (Wg : PySem.W.keepIn K (.ref Pe) = true) {Pf : Addr} {RB NN : Option Addr} {RC : Array (Option Value)} {RD NO NP NQ Ll NR : Value} (Wh : PySem.W.nsIn K mainGlobals "bracket" = some (some (.ref Pf))) (Wi : K.lookup Pf = some ⟨RD, RB, .func (PySem.W.fnOf "bracket" "bracket" (ay d9) (av d9) (aa d9) .none NO NP NQ NN Ll NR), RC⟩) (Wj : PySem.W.codeIn K Ll "bracket" = true) (Wk : PySem.W.keepIn K (.ref Pf) = true) {Pg : Addr} {RG NS : Option Addr} {RH : Array (Option Value)} {RI NT NU NV Lm NW : Value} (Wl : PySem.W.nsIn K mainGlobals "rule_text" = some (some (.ref Pg))) (Wm : K.lookup Pg = some ⟨RI, RG, .func (PySem.W.fnOf "rule_text" "rule_text" (ay bV) (av bV) (aa bV) .none NT NU NV NS Lm NW), RH⟩) (Wn : PySem.W.codeIn K Lm "rule_text" = true) (Wq : PySem.W.keepIn K (.ref Pg) = true) {Ph : Addr} {RJ NX : Option Addr} {RK : Array (Option Value)} {RL NY NZ N1 Ln N2 : Value} (Wr : PySem.W.nsIn K mainGlobals "item_text" = some (some (.ref Ph))) (Ws : K.lookup Ph = some ⟨RL, RJ, .func (PySem.W.fnOf "item_text" "item_text" (ay bM) (av bM) (aa bM) .none NY NZ N1 NX Ln N2), RK⟩) (Wt : PySem.W.codeIn K Ln "item_text" = true) (Wu : PySem.W.keepIn K (.ref Ph) = true) {Pj : Addr} {RM N3 : Option Addr} {RN : Array (Option Value)} {RO N4 N5 N6 Lo N7 : Value} (Wv : PySem.W.nsIn K mainGlobals "_law_draws" = some (some (.ref Pj))) (Ww : K.lookup Pj = some ⟨RO, RM, .func (PySem.W.fnOf "_law_draws" "_law_draws" (ay aQ) (av aQ) (aa aQ) .none N4 N5 N6 N3 Lo N7), RN⟩) (Wx : PySem.W.codeIn K Lo "_law_draws" = true) (Wy : PySem.W.keepIn K (.ref Pj) = true) {Pk : Addr} {RP N8 : Option Addr} {RQ : Array (Option Value)} {RS N9 Oa Ob Lp Oc : Value} (Wz : PySem.W.nsIn K mainGlobals "_law_name" = some (some (.ref Pk))) (WA : K.lookup Pk = some ⟨RS, RP, .func (PySem.W.fnOf "_law_name" "_law_name" (ay bq) (av bq) (aa bq) .none N9 Oa Ob N8 Lp Oc), RQ⟩) (WB : PySem.W.codeIn K Lp "_law_name" = true) (WC : PySem.W.keepIn K (.ref Pk) = true) {Pn : Addr} {RT Od : Option Addr} {RU : Array (Option Value)} {RV Oe Of Og Lq Oh : Value} (WD : PySem.W.nsIn K mainGlobals "_law_item" = some (some (.ref Pn))) (WE : K.lookup Pn = some ⟨RV, RT, .func (PySem.W.fnOf "_law_item" "_law_item" (ay bF) (av bF) (aa bF) .none Oe Of Og Od Lq Oh), RU⟩) (WG : PySem.W.codeIn K Lq "_law_item" = true) (WH : PySem.W.keepIn K (.ref Pn) = true) {Po : Addr} {RW Oi : Option Addr} {RX : Array (Option Value)} {RY Oj Ol Om Lr Oo : Value} (Pp : PySem.W.nsIn K mainGlobals "_law_rule" = some (some (.ref Po))) (WI : K.lookup Po = some ⟨RY, RW, .func (PySem.W.fnOf "_law_rule" "_law_rule" (ay aM) (av aM) (aa aM) .none Oj Ol Om Oi Lr Oo), RX⟩) (WJ : PySem.W.codeIn K Lr "_law_rule" = true) (WK : PySem.W.keepIn K (.ref Po) = true) {Pq : Addr} {RZ Oq : Option Addr} {R0 : Array (Option Value)} {R1 Ot Ou Ov Ls Ow : Value} (Ox : PySem.W.nsIn K mainGlobals "_law_item_text" = some (some (.ref Pq))) (WL : K.lookup Pq = some ⟨R1, RZ, .func (PySem.W.fnOf "_law_item_text" "_law_item_text" (ay aO) (av aO) (aa aO) .none Ot Ou Ov Oq Ls Ow), R0⟩) (WM : PySem.W.codeIn K Ls "_law_item_text" = true) (WN : PySem.W.keepIn K (.ref Pq) = true) {Pr : Addr} {R3 Oz : Option Addr} {R4 : Array (Option Value)} {R5 OA OB OC Lu OD : Value} (WO : PySem.W.nsIn K mainGlobals "_law_text" = some (some (.ref Pr))) (WQ : K.lookup Pr = some ⟨R5, R3, .func (PySem.W.fnOf "_law_text" "_law_text" (ay aY) (av aY) (aa aY) .none OA OB OC Oz Lu OD), R4⟩) (WR : PySem.W.codeIn K Lu "_law_text" = true) (WS : PySem.W.keepIn K (.ref Pr) = true) {Pu : Addr} {R6 OE : Option Addr} {R7 : Array (Option Value)} {R8 OF OG OH Lv OI : Value} (WT : PySem.W.nsIn K mainGlobals "_law_whole" = some (some (.ref Pu))) (WU : K.lookup Pu = some ⟨R8, R6, .func (PySem.W.fnOf "_law_whole" "_law_whole" (ay br) (av br) (aa br) .none OF OG OH OE Lv OI), R7⟩) (WV : PySem.W.codeIn K Lv "_law_whole" = true) (WW : PySem.W.keepIn K (.ref Pu) = true) {Pw : Addr} {R9 OJ : Option Addr} {Sa : Array (Option Value)} {Sb OL OM ON Lw OO : Value} (WX : PySem.W.nsIn K mainGlobals "law" = some (some (.ref Pw))) (WY : K.lookup Pw = some ⟨Sb, R9, .func (PySem.W.fnOf "law" "law" (ay cu) (av cu) (aa cu) .none OL OM ON OJ Lw OO), Sa⟩) (WZ : PySem.W.codeIn K Lw "law" = true) (W0 : PySem.W.keepIn K (.ref Pw) = true) (z0 : PySem.W.nsIn K mainGlobals "all" = some none) (z1 : PySem.W.nsIn K mainGlobals "bool" = some none) (z2 : PySem.W.nsIn K mainGlobals "isinstance" = some none) (z3 : PySem.W.nsIn K mainGlobals "len" = some none) (z4 : PySem.W.nsIn K mainGlobals "max" = some none) (z5 : PySem.W.nsIn K mainGlobals "range" = some none) (z6 : PySem.W.nsIn K mainGlobals "str" = some none) (z7 : PySem.W.nsIn K mainGlobals "tuple" = some none) {BY : Addr} {Sd : Array Value} {Ue : Nat} {Jp : Array (Option Value)} (g0 : PySem.W.nsIn K mainGlobals "COUNTS" = some (some (.ref BY))) (Ug : K.lookup BY = some ⟨.type "tuple", none, .seq Sd Ue, Jp⟩) (Uh : Vals [V.str "0", V.str "1", V.str "2"] Sd.toList) {K8 : Addr} {Se : Array Value} {Ui : Nat} {S3 : Array (Option Value)} (g1 : PySem.W.nsIn K mainGlobals "KEPT_WORDS" = some (some (.ref K8))) (W2 : K.lookup K8 = some ⟨.type "tuple", none, .seq Se Ui, S3⟩) (Uj : Vals [V.str "start", V.str "rule", V.str "row", V.str "mix", V.str "many", V.str "any", V.str "kind", V.str "not", V.str "both", V.str "either", V.str "way", V.str "mark"] Se.toList) {W3 : Tok} (g2 : PySem.W.nsIn K mainGlobals "LETTERS" = some (some (.str "abcdefghijklmnopqrstuvwxyz" W3))) {W4 : Tok} (g3 : PySem.W.nsIn K mainGlobals "LONGEST" = some (some (.int (8) W4))) {OP : Addr} {Sf : Array Value} {Uk : Nat} {W5 : Array (Option Value)} (g4 : PySem.W.nsIn K mainGlobals "ORDERS" = some (some (.ref OP))) (W6 : K.lookup OP = some ⟨.type "tuple", none, .seq Sf Uk, W5⟩) (Ul : Vals [V.str "row", V.str "mix"] Sf.toList) (W7 : PySem.W.nsOkIn K cStatics = true) (W8 : PySem.W.nsIn K cStatics sharingNotToldKey = some none) {Sg : Addr} (W9 : PySem.W.nsIn K mainGlobals "NoText" = some (some (.ref Sg))) (Xa : PySem.W.excIn K Sg BR "ValueError.__new__" = true) : ∃ t, Txt K mg t ∧ ∃ kV dc pm an cd ct, (t.d 24) = PySem.W.fnOf "law" "law" (ay cu) (av cu) (aa cu) .none kV dc pm an cd ct := by
  have F0 := cM (st := bA) l0 c0 k0
  have F1 := cM (st := bB) l1 c1 k1
  have F2 := cM (st := bK) l2 c2 k2
  have F3 := cM (st := aD) l3 c3 k3
  have F4 := cM (st := bT) l4 c4 k4
  have F5 := cM (st := bU) l5 c5 k5
  have F6 := cM (st := cW) l6 c6 k6
  have F7 := cM (st := aP) l7 c7 k7
  have F8 := cM (st := aT) l8 c8 k8
  have F9 := cM (st := bg) l9 c9 k9
  have Um := cM (st := aS) V3 V4 V5
  have Uo := cM (st := cD) V7 V8 V9
  have Up := cM (st := cE) Wb c12 Wc
  have Uq := cM (st := bI) We Wf Wg
  have Ur := cM (st := d9) Wi Wj Wk
  have Us := cM (st := bV) Wm Wn Wq
  have Ut := cM (st := bM) Ws Wt Wu
  have Uu := cM (st := aQ) Ww Wx Wy
  have Uv := cM (st := bq) WA WB WC
  have Uw := cM (st := bF) WE WG WH
  have Ux := cM (st := aM) WI WJ WK
  have Uy := cM (st := aO) WL WM WN
  have Uz := cM (st := aY) WQ WR WS
  have UA := cM (st := br) WU WV WW
  have UB := cM (st := cu) WY WZ W0
  exact ⟨⟨fun i => [f0, f1, f2, f3, f4, f5, f6, f7, f8, f9, Pc, Pd, Ij, Pe, Pf, Pg, Ph, Pj, Pk, Pn, Po, Pq, Pr, Pu, Pw].getD i f0, fun i => [PySem.W.fnOf "is_name" "is_name" (ay bA) (av bA) (aa bA) .none Q8 Q9 Ra Q7 Pb Rb, PySem.W.fnOf "read_shape" "read_shape" (ay bB) (av bB) (aa bB) .none S8 S9 Tc S7 Rc Td, PySem.W.fnOf "words_of" "words_of" (ay bK) (av bK) (aa bK) .none Tf Tg Th Te Rf Ti, PySem.W.fnOf "read_bracket" "read_bracket" (ay aD) (av aD) (aa aD) .none Tn To Tp Tj Rg Tq, PySem.W.fnOf "value_of" "value_of" (ay bT) (av bT) (aa bT) .none Tt Tu Tv Tr Rh Tw, PySem.W.fnOf "values_of" "values_of" (ay bU) (av bU) (aa bU) .none TF TH TJ Tz Ri TL, PySem.W.fnOf "name_of" "name_of" (ay cW) (av cW) (aa cW) .none TN TQ TR TM Rj TU, PySem.W.fnOf "make_in_shape" "make_in_shape" (ay aP) (av aP) (aa aP) .none TX TY TZ TV Rk T3, PySem.W.fnOf "shape_value" "shape_value" (ay aT) (av aT) (aa aT) .none T5 T6 T7 T4 Rm T8, PySem.W.fnOf "rule_value" "rule_value" (ay bg) (av bg) (aa bg) .none Ua Ub Uc T9 Rn Ud, PySem.W.fnOf "item_value" "item_value" (ay aS) (av aS) (aa aS) .none Nn Np Nq Nl Lh Nr, PySem.W.fnOf "count_of" "count_of" (ay cD) (av cD) (aa cD) .none Nu Nv Nx Nt Li Ny, PySem.W.fnOf "high_of" "high_of" (ay cE) (av cE) (aa cE) .none NC ND NF Nz Lj NG, PySem.W.fnOf "show_shape" "show_shape" (ay bI) (av bI) (aa bI) .none NI NJ NK NH Lk NL, PySem.W.fnOf "bracket" "bracket" (ay d9) (av d9) (aa d9) .none NO NP NQ NN Ll NR, PySem.W.fnOf "rule_text" "rule_text" (ay bV) (av bV) (aa bV) .none NT NU NV NS Lm NW, PySem.W.fnOf "item_text" "item_text" (ay bM) (av bM) (aa bM) .none NY NZ N1 NX Ln N2, PySem.W.fnOf "_law_draws" "_law_draws" (ay aQ) (av aQ) (aa aQ) .none N4 N5 N6 N3 Lo N7, PySem.W.fnOf "_law_name" "_law_name" (ay bq) (av bq) (aa bq) .none N9 Oa Ob N8 Lp Oc, PySem.W.fnOf "_law_item" "_law_item" (ay bF) (av bF) (aa bF) .none Oe Of Og Od Lq Oh, PySem.W.fnOf "_law_rule" "_law_rule" (ay aM) (av aM) (aa aM) .none Oj Ol Om Oi Lr Oo, PySem.W.fnOf "_law_item_text" "_law_item_text" (ay aO) (av aO) (aa aO) .none Ot Ou Ov Oq Ls Ow, PySem.W.fnOf "_law_text" "_law_text" (ay aY) (av aY) (aa aY) .none OA OB OC Oz Lu OD, PySem.W.fnOf "_law_whole" "_law_whole" (ay br) (av br) (aa br) .none OF OG OH OE Lv OI, PySem.W.fnOf "law" "law" (ay cu) (av cu) (aa cu) .none OL OM ON OJ Lw OO].getD i (PySem.W.fnOf "is_name" "is_name" (ay bA) (av bA) (aa bA) .none Q8 Q9 Ra Q7 Pb Rb), fun i => [Sg].getD i 0⟩, ⟨F0, F0.binds (fun _ _ _ _ _ _ => nR fun _ => rfl), PySem.W.mg_of X G a0, F1, F1.binds (fun _ _ _ _ _ _ => nR fun _ => rfl), PySem.W.mg_of X G a1, F2, F2.binds (fun _ _ _ _ _ _ => nR fun _ => rfl), PySem.W.mg_of X G a2, F3, F3.binds (fun _ _ _ _ _ _ => En fun _ _ => rfl), PySem.W.mg_of X G a3, F4, F4.binds (fun _ _ _ _ _ _ => En fun _ _ => rfl), PySem.W.mg_of X G a4, F5, F5.binds (fun _ _ _ _ _ _ => En fun _ _ => rfl), PySem.W.mg_of X G a5, F6, F6.binds (fun _ _ _ _ _ _ => nR fun _ => rfl), PySem.W.mg_of X G a6, F7, F7.binds (fun _ _ _ _ _ _ => nR fun _ => rfl), PySem.W.mg_of X G a7, F8, F8.binds (fun _ _ _ _ _ _ => nR fun _ => rfl), PySem.W.mg_of X G a8, F9, F9.binds (fun _ _ _ _ _ _ => nR fun _ => rfl), PySem.W.mg_of X G a9, Um, Um.binds (fun _ _ _ _ _ _ => nR fun _ => rfl), PySem.W.mg_of X G V2, Uo, Uo.binds (fun _ _ _ _ _ _ => nR fun _ => rfl), PySem.W.mg_of X G V6, Up, Up.binds (fun _ _ _ _ _ _ => En fun _ _ => rfl), PySem.W.mg_of X G Wa, Uq, Uq.binds (fun _ _ _ _ _ _ => nR fun _ => rfl), PySem.W.mg_of X G Wd, Ur, Ur.binds (fun _ _ _ _ _ _ => nR fun _ => rfl), PySem.W.mg_of X G Wh, Us, Us.binds (fun _ _ _ _ _ _ => nR fun _ => rfl), PySem.W.mg_of X G Wl, Ut, Ut.binds (fun _ _ _ _ _ _ => nR fun _ => rfl), PySem.W.mg_of X G Wr, Uu, Uu.binds (fun _ _ _ _ _ _ => En fun _ _ => rfl), PySem.W.mg_of X G Wv, Uv, Uv.binds (fun _ _ _ _ _ _ => nR fun _ => rfl), PySem.W.mg_of X G Wz, Uw, Uw.binds (fun _ _ _ _ _ _ => En fun _ _ => rfl), PySem.W.mg_of X G WD, Ux, Ux.binds (fun _ _ _ _ _ _ => Q6 fun _ _ _ _ => rfl), PySem.W.mg_of X G Pp, Uy, Uy.binds (fun _ _ _ _ _ _ => nR fun _ => rfl), PySem.W.mg_of X G Ox, Uz, Uz.binds (fun _ _ _ _ _ _ => nR fun _ => rfl), PySem.W.mg_of X G WO, UA, UA.binds (fun _ _ _ _ _ _ => nR fun _ => rfl), PySem.W.mg_of X G WT, UB, UB.binds (fun _ _ _ _ _ _ => nR fun _ => rfl), PySem.W.mg_of X G WX, PySem.W.mg_none_of X G z0, PySem.W.mg_none_of X G z1, PySem.W.mg_none_of X G z2, PySem.W.mg_none_of X G z3, PySem.W.mg_none_of X G z4, PySem.W.mg_none_of X G z5, PySem.W.mg_none_of X G z6, PySem.W.mg_none_of X G z7, ⟨.ref BY, .ref BY, PySem.W.mg_of X G g0, rfl, fun ρ H => by unfold iX Rep; exact ⟨BY, _, rfl, .inr ⟨_, Sd, Ue, Ug, rfl, rfl, by have := Uh.length; rw [← Array.length_toList, ← this]; decide, Uh⟩, by simp only [aC, Rep]; simp⟩⟩, ⟨.ref K8, .ref K8, PySem.W.mg_of X G g1, rfl, fun ρ H => by unfold jk Rep; exact ⟨K8, _, rfl, .inr ⟨_, Se, Ui, W2, rfl, rfl, by have := Uj.length; rw [← Array.length_toList, ← this]; decide, Uj⟩, by simp only [aC, Rep]; simp⟩⟩, ⟨_, V.str "abcdefghijklmnopqrstuvwxyz", PySem.W.mg_of X G g2, ⟨_, rfl⟩, fun ρ H => by unfold jL Rep; rfl⟩, ⟨_, V.int (8), PySem.W.mg_of X G g3, ⟨_, rfl⟩, fun ρ H => by unfold o5 Rep; rfl⟩, ⟨.ref OP, .ref OP, PySem.W.mg_of X G g4, rfl, fun ρ H => by unfold rj Rep; exact ⟨OP, _, rfl, .inr ⟨_, Sf, Uk, W6, rfl, rfl, by have := Ul.length; rw [← Array.length_toList, ← this]; decide, Ul⟩, by simp only [aC, Rep]; simp⟩⟩, ⟨BY, _, PySem.W.mg_of X G g0, Ug, rfl, rfl⟩, Lc W7 W8, PySem.W.mg_of X G W9, Xa⟩, _, _, _, _, _, _, rfl⟩
section
variable {P : Program} {w : World} {K : PySem.W.Frag} {mg : Str → Option Value} {base : Heap} {t : Q5}
theorem Lx (T : Txt K mg t) : pH P w K mg base (bX P w) 7 (t.f 24) (t.d 24) ["_law_script"] (aN K mg 1 Dg) := by
  have tL := Ck (P := P) (w := w) (base := base) T
  have qF := Be (P := P) (w := w) (base := base) T
  have iJ := Bf (P := P) (w := w) (base := base) T
  have iK := Bg (P := P) (w := w) (base := base) T
  have gc := Cm (P := P) (w := w) (base := base) T
  have m5 := xB (P := P) (w := w) (base := base) T
  have kC := zW (P := P) (w := w) (base := base) T
  have oG := zX (P := P) (w := w) (base := base) T
  have iL := sy (P := P) (w := w) (base := base) T
  have m6 := xC (P := P) (w := w) (base := base) T
  have gR := zY (P := P) (w := w) (base := base) T iJ
  have fj := Cn (P := P) (w := w) (base := base) T tL
  have tM := Co (P := P) (w := w) (base := base) T iK
  have oJ := zZ (P := P) (w := w) (base := base) T gc
  have oM := z8 (P := P) (w := w) (base := base) T oG
  have oO := z9 (P := P) (w := w) (base := base) T iL
  have kN := wI (P := P) (w := w) (base := base) T gR fj
  have mX := xD (P := P) (w := w) (base := base) T gR fj
  have mY := xE (P := P) (w := w) (base := base) T fj iK tM
  have oK := Aa (P := P) (w := w) (base := base) T gc oJ
  have jg := tN (P := P) (w := w) (base := base) T kN mX mY
  have mZ := xF (P := P) (w := w) (base := base) T gc oK
  have j3 := uM (P := P) (w := w) (base := base) T qF jg
  have iz := xG (P := P) (w := w) (base := base) T j3 iJ
  have OQ := Lf (P := P) (w := w) (base := base) T iz mZ m5 kC oM oO m6
  exact OQ
end
end K13
end
section
open PySem PySem.Spec L2 L3
local macro_rules
 | `(tactic| simp! [$a,*]) => `(tactic| simp [jb, ni, CU, AG, FG, FH, sR, yg, CV, Jq, zk, CW, uU, tX, b7, yh, nX, BZ, vL, uV, vM, uW, AH, vN, AI, CY, FI, CZ, FJ, C0, vO, Jr, o4, AJ, C1, C2, AK, zl, C3, Js, C4, C5, C6, FL, FN, AL, Ju, lg, FU, Jx, FZ, AW, Ga, qQ, fu, dh, jh, p6, jO, bH, kW, jP, gx, za, Az, O8, Ty.is, $a,*])
local macro_rules
 | `(tactic| dsimp! [$a,*]) => `(tactic| simp [jb, ni, CU, AG, FG, FH, sR, yg, CV, Jq, zk, CW, uU, tX, b7, yh, nX, BZ, vL, uV, vM, uW, AH, vN, AI, CY, FI, CZ, FJ, C0, vO, Jr, o4, AJ, C1, C2, AK, zl, C3, Js, C4, C5, C6, FL, FN, AL, Ju, lg, FU, Jx, FZ, AW, Ga, qQ, fu, dh, jh, p6, jO, Nh, kW, jP, gx, za, Az, O8, Ty.is, $a,*])
section
set_option Elab.async false
set_option linter.all false
set_option maxRecDepth 100000
set_option maxHeartbeats 1000000
namespace K13
open PySem PySem.Spec L2 L3
structure Itm where
 nm : List Nat
 lo : Nat
 hi : Option Nat
structure Rl where
 nm : List Nat
 kd : List Nat
 mix : Bool
 its : List Itm
structure m7 where
 st : List Nat
 rls : List Rl
noncomputable def EB : Option Nat → D
 | none => .gg
 | some h => .int h
noncomputable def gw (mix : Bool) : List Nat := if mix then [109, 105, 120] else [114, 111, 119]
noncomputable def Itm.D (i : Itm) : D := .tup [.str (aA i.nm), .int i.lo, EB i.hi]
noncomputable def Rl.D (r : Rl) : D := .tup [.str (aA r.nm), .str (aA r.kd), .str (aA (gw r.mix)), .tup (r.its.map Itm.D)]
noncomputable def m7.D (s : m7) : D := .tup [.str (aA s.st), .tup (s.rls.map Rl.D)]
structure Nm (l : List Nat) : Prop where
 ne : l ≠ []
 le : l.length ≤ 8
 az : ∀ x ∈ l, 97 ≤ x ∧ x ≤ 122
 kw : ((["start", "rule", "row", "mix", "many", "any", "kind", "not", "both", "either", "way", "mark"] : List Str).any (· == aA l)) = false
structure Itm.Ok (i : Itm) : Prop where
 nm : Nm i.nm
 lo : i.lo ≤ 2
 hi : ∀ h, i.hi = some h → i.lo ≤ h ∧ h ≤ 2
structure Rl.Ok (r : Rl) : Prop where
 nm : Nm r.nm
 kd : Nm r.kd
 its : ∀ i ∈ r.its, i.Ok
 le : r.its.length ≤ 3
structure m7.Ok (s : m7) : Prop where
 st : Nm s.st
 rls : ∀ r ∈ s.rls, r.Ok
 le : s.rls.length ≤ 8
 ne : s.rls ≠ []
noncomputable def hiL : Option Nat → List Nat
 | none => [109, 97, 110, 121]
 | some h => [48 + h]
noncomputable def Itm.L (i : Itm) : List Nat := 40 :: i.nm ++ 32 :: (48 + i.lo) :: 32 :: hiL i.hi ++ [41]
noncomputable def Rl.L (r : Rl) : List Nat := 40 :: 114 :: 117 :: 108 :: 101 :: 32 :: r.nm ++ 32 :: r.kd ++ 32 :: gw r.mix ++ r.its.flatMap (fun i => 32 :: i.L) ++ [41]
noncomputable def m7.L (s : m7) : List Nat := 40 :: 115 :: 116 :: 97 :: 114 :: 116 :: 32 :: s.st ++ s.rls.flatMap (fun r => 32 :: r.L) ++ [41]
noncomputable def Itm.W (i : Itm) : List (List Nat) := [[40], i.nm, [48 + i.lo], hiL i.hi, [41]]
noncomputable def Rl.W (r : Rl) : List (List Nat) := [40] :: [114, 117, 108, 101] :: r.nm :: r.kd :: gw r.mix :: (r.its.flatMap Itm.W ++ [[41]])
noncomputable def m7.W (s : m7) : List (List Nat) := [40] :: [115, 116, 97, 114, 116] :: s.st :: (s.rls.flatMap Rl.W ++ [[41]])
noncomputable def Eo (w : List Nat) : Prop := ∀ x ∈ w, x ≠ 32 ∧ x ≠ 10 ∧ x ≠ 40 ∧ x ≠ 41
theorem Nm.wd {l : List Nat} (h : Nm l) : Eo l := fun x hx => by have := h.az x hx; omega
theorem Bh : ∀ (w cur r : List Nat), Eo w → bh cur (w ++ r) = bh (cur ++ w) r
 | [], cur, r, _ => by simp
 | x :: w, cur, r, h => by
  have hx := h x (by simp)
  rw [List.cons_append, bh, if_neg hx.1, if_neg hx.2.1, if_neg hx.2.2.1, if_neg hx.2.2.2, Bh w (cur ++ [x]) r fun y hy => h y (by simp [hy])]
  simp
noncomputable def Ends (r : List Nat) : Prop := (∃ r', r = 32 :: r') ∨ ∃ r', r = 41 :: r'
theorem jG {w r : List Nat} (hn : w ≠ []) (hw : Eo w) (hr : Ends r) : bh [] (w ++ r) = w :: bh [] r := by
 rw [Bh w [] r hw, List.nil_append]
 have hf : Ed w = [w] := by cases w with
  | nil => exact absurd rfl hn
  | cons a b => rfl
 rcases hr with ⟨r', rfl⟩ | ⟨r', rfl⟩
 ·simp [bh, hf, iO]
 ·simp [bh, hf, iO]
theorem uB (r : List Nat) : bh [] (32 :: r) = bh [] r := by simp [bh, iO]
theorem Gs (r : List Nat) : bh [] (40 :: r) = [40] :: bh [] r := by simp [bh, iO]
theorem Gu (r : List Nat) : bh [] (41 :: r) = [41] :: bh [] r := by simp [bh, iO]
theorem LV (r : List Nat) : Ends (32 :: r) := .inl ⟨r, rfl⟩
theorem Sh (r : List Nat) : Ends (41 :: r) := .inr ⟨r, rfl⟩
theorem Cp (b : Bool) : gw b ≠ [] ∧ Eo (gw b) := by cases b <;> exact ⟨by decide, by unfold Eo; decide⟩
theorem Gv (n : Nat) (h : n ≤ 2) : Eo [48 + n] := fun x hx => by simp at hx; omega
theorem Gw {i : Itm} (h : i.Ok) : hiL i.hi ≠ [] ∧ Eo (hiL i.hi) := by
 cases e : i.hi with
 | none => exact ⟨by decide, by unfold Eo; decide⟩
 | some n => exact ⟨by simp [hiL], Gv n (h.hi n e).2⟩
theorem IE {i : Itm} (h : i.Ok) (r : List Nat) : bh [] (i.L ++ r) = i.W ++ bh [] r := by
 have e : i.L ++ r = 40 :: (i.nm ++ 32 :: ([48 + i.lo] ++ 32 :: (hiL i.hi ++ 41 :: r))) := by simp [Itm.L]
 rw [e, Gs, jG h.nm.ne h.nm.wd (LV _), uB, jG (by simp) (Gv _ h.lo) (LV _), uB, jG (Gw h).1 (Gw h).2 (Sh _), Gu]
 rfl
theorem Bj : ∀ (its : List Itm), (∀ i ∈ its, i.Ok) → ∀ r, bh [] (its.flatMap (fun i => 32 :: i.L) ++ r) = its.flatMap Itm.W ++ bh [] r
 | [], _, r => rfl
 | i :: its, h, r => by
  simp only [List.flatMap_cons, List.cons_append, List.append_assoc]
  rw [uB, IE (h i (by simp)), Bj its (fun j hj => h j (by simp [hj]))]
theorem Gx (its : List Itm) (r : List Nat) (hr : Ends r) : Ends (its.flatMap (fun i => 32 :: i.L) ++ r) := by
 cases its with
 | nil => exact hr
 | cons i its => exact .inl ⟨_, rfl⟩
theorem Gy (rls : List Rl) (r : List Nat) (hr : Ends r) : Ends (rls.flatMap (fun i => 32 :: i.L) ++ r) := by
 cases rls with
 | nil => exact hr
 | cons i its => exact .inl ⟨_, rfl⟩
theorem Ly {q : Rl} (h : q.Ok) (r : List Nat) : bh [] (q.L ++ r) = q.W ++ bh [] r := by
 have e : q.L ++ r = 40 :: ([114, 117, 108, 101] ++ 32 :: (q.nm ++ 32 :: (q.kd ++ 32 :: (gw q.mix ++ (q.its.flatMap (fun i => 32 :: i.L) ++ 41 :: r))))) := by simp [Rl.L]
 rw [e, Gs, jG (by simp) (by unfold Eo; decide) (LV _), uB, jG h.nm.ne h.nm.wd (LV _), uB, jG h.kd.ne h.kd.wd (LV _), uB, jG (Cp _).1 (Cp _).2 (Gx _ _ (Sh _)), Bj q.its h.its, Gu]
 simp [Rl.W]
theorem Dk : ∀ (rls : List Rl), (∀ i ∈ rls, i.Ok) → ∀ r, bh [] (rls.flatMap (fun i => 32 :: i.L) ++ r) = rls.flatMap Rl.W ++ bh [] r
 | [], _, r => rfl
 | i :: its, h, r => by
  simp only [List.flatMap_cons, List.cons_append, List.append_assoc]
  rw [uB, Ly (h i (by simp)), Dk its (fun j hj => h j (by simp [hj]))]
theorem IF {s : m7} (h : s.Ok) : bh [] s.L = s.W := by
 have e : s.L = 40 :: ([115, 116, 97, 114, 116] ++ 32 :: (s.st ++ (s.rls.flatMap (fun i => 32 :: i.L) ++ 41 :: []))) := by simp [m7.L]
 rw [e, Gs, jG (by simp) (by unfold Eo; decide) (LV _), uB, jG h.st.ne h.st.wd (Gy _ _ (Sh _)), Dk s.rls h.rls, Gu]
 simp [m7.W, bh, iO]
theorem Cq {i : Itm} : (hiL i.hi).length ≤ 4 := by cases i.hi <;> simp [hiL]
theorem Ac {i : Itm} (h : i.Ok) : i.L.length ≤ 17 := by
 have := h.nm.le
 have := Cq (i := i)
 simp [Itm.L]; omega
theorem Bk : ∀ (its : List Itm), (∀ i ∈ its, i.Ok) → (its.flatMap (fun i => 32 :: i.L)).length ≤ 18 * its.length
 | [], _ => by simp
 | i :: its, h => by
  have := Ac (h i (by simp))
  have := Bk its fun j hj => h j (by simp [hj])
  simp only [List.flatMap_cons, List.length_append, List.length_cons]; omega
theorem Ad (b : Bool) : (gw b).length = 3 := by cases b <;> rfl
theorem Cr {q : Rl} (h : q.Ok) : q.L.length ≤ 99 := by
 have := h.nm.le
 have := h.kd.le
 have := Bk q.its h.its
 have := h.le
 have := Ad q.mix
 simp only [Rl.L, List.length_append, List.length_cons, List.length_nil]; omega
theorem Dl : ∀ (rls : List Rl), (∀ i ∈ rls, i.Ok) → (rls.flatMap (fun i => 32 :: i.L)).length ≤ 100 * rls.length
 | [], _ => by simp
 | i :: its, h => by
  have := Cr (h i (by simp))
  have := Dl its fun j hj => h j (by simp [hj])
  simp only [List.flatMap_cons, List.length_append, List.length_cons]; omega
theorem IG {s : m7} (h : s.Ok) : s.L.length ≤ 900 := by
 have := h.st.le
 have := Dl s.rls h.rls
 have := h.le
 simp only [m7.L, List.length_append, List.length_cons, List.length_nil]; omega
end K13
end
section
set_option Elab.async false
set_option linter.all false
set_option maxRecDepth 100000
set_option maxHeartbeats 1000000
namespace K13
open PySem PySem.Spec L2 L3
theorem uC {l : List Nat} (h : ∀ x ∈ l, x < 1114112) : PyData.strOk (aA l) = true := by
 unfold PyData.strOk aA
 rw [Array.all_eq_true_iff_forall_mem]
 intro x hx
 simpa using h x (by simpa using hx)
theorem Nm.gd {l : List Nat} (h : Nm l) : PyData.strOk (aA l) = true := uC fun x hx => by have := h.az x hx; omega
theorem di (l : List Nat) : (aA l).length = l.length := by simp [aA, Str.length]
noncomputable def iA : Str := "abcdefghijklmnopqrstuvwxyz"
noncomputable def sgn (c : Nat) : Bool := !(Builtin.Str.occurrences iA ⟨#[c]⟩ 0 iA.length 1).isEmpty
theorem Lz {c : Nat} (h : 97 ≤ c ∧ c ≤ 122) : sgn c = true := by
 have Si : ∀ k < 26, sgn (97 + k) = true := by decide +kernel
 have := Si (c - 97) (by omega)
 rwa [show 97 + (c - 97) = c by omega] at this
noncomputable def words : List Str := ["start", "rule", "row", "mix", "many", "any", "kind", "not", "both", "either", "way", "mark"]
theorem wJ (τ : DS) (G0 : DH) : ∀ (cs : List Nat) (acc : List D), acc.length + cs.length ≤ 1000 → (∀ c ∈ cs, 97 ≤ c ∧ c ≤ 122) →
  dZ oN [] nH (aI (xV false) (ai 0) (eC jL)) G0.length (cs.map fun c => .str ⟨#[c]⟩) τ (G0 ++ [.lst acc]) = .ok (.obj G0.length) (G0 ++ [.lst (acc ++ cs.map fun _ => .bl true)])
 | [], acc, hl, _ => by simp [dZ]
 | c :: cs, acc, hl, h => by
  have hs : acc.length < sizeLine := Nat.lt_of_lt_of_le (by simp at hl; omega) (lz (n := 2000) (by omega))
  have hc := Lz (h c (by simp))
  unfold sgn iA at hc
  have e : fy oN [] nH (aI (xV false) (ai 0) (eC jL)) G0.length (.str ⟨#[c]⟩) τ (G0 ++ [.lst acc]) = .ok () (G0 ++ [.lst (acc ++ [.bl true])]) := by
   simp [fy, oN, nH, yh, vL, nX, tX, b7, BZ, jL, xV, dh, hs, hc]
  rw [List.map_cons, dZ, e]
  dsimp only
  rw [wJ τ G0 cs (acc ++ [D.bl true]) (by simp at hl ⊢; omega) fun c hc => h c (by simp [hc])]
  simp
theorem II (bs : List Bool) : qS (bs.map D.bl) = some bs := by
 induction bs with
 | nil => rfl
 | cons b r ih => simp [qS, ih]
theorem Cs {l : List Nat} (h : Nm l) (G : DH) : lB [.str (aA l)] G = .ok (.bl true) G := by
 have hz : l.length ≤ sizeLine := lz (by have := h.le; omega)
 have hk := qV (aA l) words G h.gd (by decide +kernel)
 rw [show words.any (· == aA l) = false from h.kw] at hk
 have ek : jk = .tup (words.map D.str) := rfl
 have h8 := h.le
 have h1 : 1 ≤ l.length := by cases l with
  | nil => exact absurd rfl h.ne
  | cons a b => simp
 have hc := wJ [some (.str (aA l))] G l [] (by simp only [List.length_nil]; omega) h.az
 have hb : qS (l.map fun c => D.bl true) = some (l.map fun _ => true) := by
  have := II (l.map fun _ => true)
  rw [List.map_map] at this
  exact this
 have h0' : ((l.length : Int) == 0) = false := beq_eq_false_iff_ne.mpr (by omega)
 have h9 : ¬ 8 < l.length := by omega
 have Xb : ¬ (8 : Int) < (l.length : Int) := by omega
 have hcl : aV (l.map fun c => D.bl true) = true := bL fun _ => rfl
 have hcs : (aA l).cps.toList = l := dR l
 simp only [List.nil_append] at hc
 unfold lB
 refine bx ?_ rfl
 simp! [o6, xV, ek, hk, hz, j9, h0', o5, h9, Xb, di, hcs, hc, Fj, hb, iW, mq hcl]
theorem m8 {l : List Nat} (h : Nm l) (G : DH) : ff [.str (aA l)] G = .ok (.str (aA l)) G := by
 have e := Cs h G
 unfold ff
 refine bx ?_ aG
 simp! [o8, e]
theorem LA (n : Nat) (h : n ≤ 2) (G : DH) : xV false (.str (aA [48 + n])) iX G = .ok (.bl true) G := by
 have hk := qV (aA [48 + n]) ["0", "1", "2"] G (uC fun x hx => by simp at hx; omega) (by decide +kernel)
 have ha : (["0", "1", "2"] : List Str).any (· == aA [48 + n]) = true := by
  have : ∀ n < 3, (["0", "1", "2"] : List Str).any (· == aA [48 + n]) = true := by decide +kernel
  exact this n (by omega)
 rw [ha] at hk
 simp only [List.map_cons, List.map_nil] at hk
 simp [xV, iX, dh, hk]
theorem LB (n : Nat) (h : n ≤ 2) (G : DH) : p9 iX [.str (aA [48 + n])] G = .ok (.int n) G := by
 have hx : tV (aA [48 + n]) [.str "0", .str "1", .str "2"] = some n := by
  have : ∀ n < 3, tV (aA [48 + n]) [.str "0", .str "1", .str "2"] = some n := by decide +kernel
  exact this n (by omega)
 simp [p9, iX, strsOf, hx]
theorem Bl (n : Nat) (h : n ≤ 2) (G : DH) : gA [.str (aA [48 + n])] G = .ok (.int n) G := by
 have e1 := LA n h G
 have e2 := LB n h G
 unfold gA
 refine bx ?_ jQ
 simp! [mC, e1, e2]
theorem IJ (hi : Option Nat) (lo : Nat) (h : ∀ n, hi = some n → lo ≤ n ∧ n ≤ 2) (G : DH) : lE [.str (aA (hiL hi)), .int lo] G = .ok (EB hi) G := by
 unfold lE
 cases hi with
 | none =>
  refine bx ?_ rfl
  have e := iN false (aA [109, 97, 110, 121]) "many" G (by decide +kernel) (by decide +kernel)
  rw [show ((aA [109, 97, 110, 121] == ("many" : Str)) = true) by decide +kernel] at e
  simp! [lD, hiL, EB, e]
 | some n =>
  have hn := h n rfl
  refine bx ?_ jQ
  have e := iN false (aA [48 + n]) "many" G (uC fun x hx => by simp at hx; omega) (by decide +kernel)
  have hne : (aA [48 + n] == ("many" : Str)) = false := by
   have : ∀ n < 3, (aA [48 + n] == ("many" : Str)) = false := by decide +kernel
   exact this n (by omega)
  rw [hne] at e
  have e2 := Bl n hn.2 G
  have h3 : ¬ n < lo := by omega
  have Xd : ¬ (n : Int) < (lo : Int) := by omega
  simp! [lD, hiL, EB, e, e2, h3, Xd, Kz]
theorem Bm (s : Str) (hs : PyData.strOk s = true) (v : D) (hv : v.closed = true) (G : DH) : fP [.tup [.str s, v], .str s] G = .ok v G := by
 have e := iN false s s G hs hs
 have e' : (s == s) = true := by simp
 rw [e'] at e
 have a0 : i8 [D.str s, v] 0 = some (.str s) := rfl
 have a1 : i8 [D.str s, v] 1 = some v := rfl
 unfold fP
 refine bx ?_ hv
 simp! [mz, e, a0, a1]
theorem yw (s : Str) (hs : PyData.strOk s = true) (vs : List D) (hv : ∀ v ∈ vs, v.closed = true) (hl : vs.length ≤ 1000) (G : DH) : fQ [.con (vs.map fun v => .tup [.str s, v]), .str s] G = .ok (.tup vs) G := by
 have hz : vs.length ≤ sizeLine := lz (by omega)
 have hcl : aV vs = true := qc hv
 have hc := sV (gO := oN) (ks := [false, true]) (te := bD 2 fP (ah (ai 0) (ah (ai 2) (aB)))) (own := fun d => [d]) (f := fun d => match d with | .tup [_, v] => v | d => d) (G := G) (τ := [some (.con (vs.map fun v => .tup [.str s, v])), some (.str s)]) (vs.map fun v => .tup [.str s, v]) [] (by simp; omega) (fun _ _ => rfl) (by
  intro x hx acc
  obtain ⟨v, Xe, rfl⟩ := List.mem_map.mp hx
  have e := Bm s hs v (hv v Xe) (G ++ [.lst acc])
  simp! [mask, e])
 rw [List.map_map] at hc
 have hid : (vs.map ((fun d => match d with | D.tup [_, v] => v | d => d) ∘ fun v => D.tup [D.str s, v])) = vs := by
  conv => rhs; rw [← List.map_id vs]
  exact List.map_congr_left fun _ _ => rfl
 rw [hid, List.nil_append] at hc
 unfold fQ
 refine bx ?_ (by rw [D.closed]; exact hcl)
 simp! [kg, hc, iW, mq hcl, kE, hz]
end K13
end
section
set_option Elab.async false
set_option linter.all false
set_option maxRecDepth 100000
set_option maxHeartbeats 1000000
namespace K13
open PySem PySem.Spec L2 L3
theorem wK (g : Bool) (a b : Str) (G : DH) (ha : PyData.strOk a = true) (hb : PyData.strOk b = true) : nU g (.con [.str a]) (.con [.str b]) G = .ok (.bl (g ^^ (a == b))) G := by
 simp [nU, BH, nG, deep, dN, PyData.canLay0, PyData.canLayAll0, PyData.depth, PyData.depthAll, PyData.eqv, PyData.eqvAll, ha, hb]
theorem LC (a : D) (r : List D) : cutD (a :: r) none (some 1) = [a] := by
 simp [cutD, HT.gk]
theorem OR (k : Nat) (l r : List D) (h : l.length = k) : cutD (l ++ r) (some k) none = r := by
 subst h
 simp [cutD, HT.Hw, HT.ER]
theorem Nm.Ep {l : List Nat} (h : Nm l) : (aA l == ("start" : Str)) = false := by
 have := h.kw
 simp only [List.any_cons, Bool.or_eq_false_iff] at this
 have h1 := this.1
 cases e : (aA l == ("start" : Str)) with
 | false => rfl
 | true =>
  rw [beq_iff_eq] at e
  rw [e] at h1
  exact absurd h1 (by decide +kernel)
theorem Nm.Gz {l : List Nat} (h : Nm l) : (aA l == ("rule" : Str)) = false := by
 have := h.kw
 simp only [List.any_cons, Bool.or_eq_false_iff] at this
 have h1 := this.2.1
 cases e : (aA l == ("rule" : Str)) with
 | false => rfl
 | true =>
  rw [beq_iff_eq] at e
  rw [e] at h1
  exact absurd h1 (by decide +kernel)
theorem OS (o : Option Nat) : (EB o).closed = true := by cases o <;> rfl
theorem yx (i : Itm) : i.D.closed = true := by
 simp [Itm.D, D.closed, bS, cU, aG, jQ, OS]
theorem Er (r : Rl) : r.D.closed = true := by
 have := bL (l := r.its) (f := Itm.D) yx
 simp [Rl.D, D.closed, bS, cU, aG, this]
theorem Bo (s : m7) : s.D.closed = true := by
 have := bL (l := s.rls) (f := Rl.D) Er
 simp [m7.D, D.closed, bS, cU, aG, this]
noncomputable def Itm.P (i : Itm) : List L3.D := [.str (aA i.nm), .str (aA [48 + i.lo]), .str (aA (hiL i.hi))]
theorem IK {i : Itm} (h : i.Ok) (G : DH) : gY [.con i.P] G = .ok i.D G := by
 have e1 := Bl i.lo h.lo G
 have e2 := m8 h.nm G
 have e3 := IJ i.hi i.lo h.hi G
 have z3 : (3 : Nat) ≤ sizeLine := lz (by omega)
 have a0 : i8 i.P 0 = some (.str (aA i.nm)) := rfl
 have a1 : i8 i.P 1 = some (.str (aA [48 + i.lo])) := rfl
 have a2 : i8 i.P 2 = some (.str (aA (hiL i.hi))) := rfl
 have hl : i.P.length = 3 := rfl
 unfold gY
 refine bx ?_ (yx i)
 simp! [jt, hl, a0, a1, a2, e1, e2, e3, z3, j9, Itm.D]
theorem IL {i : Itm} (h : i.Ok) (G : DH) : bG [.con i.P] G = .ok (.tup [.str "item", i.D]) G := by
 have e := IK h G
 have z1 : (1 : Nat) ≤ sizeLine := lz (by omega)
 have z2 : (2 : Nat) ≤ sizeLine := lz (by omega)
 have q1 := wK false (aA i.nm) "start" G h.nm.gd (by decide +kernel)
 have q2 := wK false (aA i.nm) "rule" G h.nm.gd (by decide +kernel)
 rw [h.nm.Ep] at q1
 rw [h.nm.Gz] at q2
 have c1 : cutD i.P none (some 1) = [.str (aA i.nm)] := LC _ _
 have f1 : ∀ s : Str, (dg [.str s] G).fw G = .ok (.con [.str s]) G := fun s => dH (by simpa using z1) rfl
 unfold bG
 refine bx ?_ (by simp [D.closed, bS, cU, aG, yx])
 simp! [dB, G6, iW, c1, f1, q1, q2, e, z2]
noncomputable def xH (i : Itm) : D := .tup [.str "item", i.D]
noncomputable def Rl.P (r : Rl) : List L3.D := .str (aA [114, 117, 108, 101]) :: .str (aA r.nm) :: .str (aA r.kd) :: .str (aA (gw r.mix)) :: r.its.map xH
theorem GA (b : Bool) : PyData.strOk (aA (gw b)) = true := by cases b <;> decide +kernel
theorem IM {r : Rl} (h : r.Ok) (G : DH) : gX [.con r.P] G = .ok r.D G := by
 have e1 := m8 h.nm G
 have e2 := m8 h.kd G
 have hvs : r.its.map xH = (r.its.map Itm.D).map fun v => D.tup [.str "item", v] := by rw [List.map_map]; rfl
 have Sj : ∀ v ∈ r.its.map Itm.D, v.closed = true := fun v hv => by
  obtain ⟨i, _, rfl⟩ := List.mem_map.mp hv
  exact yx i
 have LS : (r.its.map Itm.D).length ≤ 1000 := by rw [List.length_map]; have := h.le; omega
 have e3 := yw "item" (by decide +kernel) (r.its.map Itm.D) Sj LS G
 rw [← hvs] at e3
 have z4 : (4 : Nat) ≤ sizeLine := lz (by omega)
 have hl : r.P.length = r.its.length + 4 := by simp [Rl.P]
 have hz : r.its.length + 4 ≤ sizeLine := lz (by have := h.le; omega)
 have hz' : r.its.length ≤ sizeLine := lz (by have := h.le; omega)
 have a1 : i8 r.P 1 = some (.str (aA r.nm)) := lS (j := 1) rfl
 have a2 : i8 r.P 2 = some (.str (aA r.kd)) := lS (j := 2) rfl
 have a3 : i8 r.P 3 = some (.str (aA (gw r.mix))) := lS (j := 3) rfl
 have c4 : cutD r.P (some 4) none = r.its.map xH := OR 4 [.str (aA [114, 117, 108, 101]), .str (aA r.nm), .str (aA r.kd), .str (aA (gw r.mix))] (r.its.map xH) rfl
 have hcl : aV (r.its.map xH) = true := bL fun i => by simp [xH, D.closed, bS, cU, aG, yx]
 have f4 : (dg (r.its.map xH) G).fw G = .ok (.con (r.its.map xH)) G := dH (by simpa using hz') hcl
 have hio := qV (aA (gw r.mix)) ["row", "mix"] G (GA _) (by decide +kernel)
 have Sk : (["row", "mix"] : List Str).any (· == aA (gw r.mix)) = true := by cases r.mix <;> decide +kernel
 rw [Sk] at hio
 simp only [List.map_cons, List.map_nil] at hio
 have Sl : ¬ r.its.length + 4 < 4 := by omega
 have LD : ¬ ((r.its.length : Int) + 4 < 4) := by omega
 unfold gX
 refine bx ?_ (Er r)
 simp! [jr, hl, hz, Sl, LD, a1, a2, a3, e1, e2, e3, z4, Kz, xV, rj, hio, G6, c4, iW, f4, Rl.D]
theorem IP {r : Rl} (h : r.Ok) (G : DH) : bG [.con r.P] G = .ok (.tup [.str "rule", r.D]) G := by
 have e := IM h G
 have z1 : (1 : Nat) ≤ sizeLine := lz (by omega)
 have z2 : (2 : Nat) ≤ sizeLine := lz (by omega)
 have q1 := wK false (aA [114, 117, 108, 101]) "start" G (by decide +kernel) (by decide +kernel)
 have q2 := wK false (aA [114, 117, 108, 101]) "rule" G (by decide +kernel) (by decide +kernel)
 rw [show (aA [114, 117, 108, 101] == ("start" : Str)) = false by decide +kernel] at q1
 rw [show (aA [114, 117, 108, 101] == ("rule" : Str)) = true by decide +kernel] at q2
 have c1 : cutD r.P none (some 1) = [.str (aA [114, 117, 108, 101])] := LC _ _
 have f1 : ∀ s : Str, (dg [.str s] G).fw G = .ok (.con [.str s]) G := fun s => dH (by simpa using z1) rfl
 unfold bG
 refine bx ?_ (by simp [D.closed, bS, cU, aG, Er])
 simp! [dB, G6, iW, c1, f1, q1, q2, e, z2]
noncomputable def GB (r : Rl) : D := .tup [.str "rule", r.D]
noncomputable def m7.P (s : m7) : List L3.D := .str (aA [115, 116, 97, 114, 116]) :: .str (aA s.st) :: s.rls.map GB
theorem GC {s : m7} (h : s.Ok) (G : DH) : gr [.con s.P] G = .ok s.D G := by
 have e1 := m8 h.st G
 have hvs : s.rls.map GB = (s.rls.map Rl.D).map fun v => D.tup [.str "rule", v] := by rw [List.map_map]; rfl
 have Sj : ∀ v ∈ s.rls.map Rl.D, v.closed = true := fun v hv => by
  obtain ⟨i, _, rfl⟩ := List.mem_map.mp hv
  exact Er i
 have LS : (s.rls.map Rl.D).length ≤ 1000 := by rw [List.length_map]; have := h.le; omega
 have e3 := yw "rule" (by decide +kernel) (s.rls.map Rl.D) Sj LS G
 rw [← hvs] at e3
 have z2 : (2 : Nat) ≤ sizeLine := lz (by omega)
 have hl : s.P.length = s.rls.length + 2 := by simp [m7.P]
 have hz : s.rls.length + 2 ≤ sizeLine := lz (by have := h.le; omega)
 have hz' : s.rls.length ≤ sizeLine := lz (by have := h.le; omega)
 have a1 : i8 s.P 1 = some (.str (aA s.st)) := lS (j := 1) rfl
 have c4 : cutD s.P (some 2) none = s.rls.map GB := OR 2 [.str (aA [115, 116, 97, 114, 116]), .str (aA s.st)] (s.rls.map GB) rfl
 have hcl : aV (s.rls.map GB) = true := bL fun i => by simp [GB, D.closed, bS, cU, aG, Er]
 have f4 : (dg (s.rls.map GB) G).fw G = .ok (.con (s.rls.map GB)) G := dH (by simpa using hz') hcl
 have hpos : 0 < s.rls.length := List.length_pos_iff.mpr h.ne
 have Sl : ¬ s.rls.length + 2 < 3 := by omega
 have LD : ¬ ((s.rls.length : Int) + 2 < 3) := by omega
 unfold gr
 refine bx ?_ (Bo s)
 simp! [iR, hl, hz, Sl, LD, a1, e1, e3, z2, Kz, G6, c4, iW, f4, m7.D]
theorem GD {s : m7} (h : s.Ok) (G : DH) : bG [.con s.P] G = .ok (.tup [.str "shape", s.D]) G := by
 have e := GC h G
 have z1 : (1 : Nat) ≤ sizeLine := lz (by omega)
 have z2 : (2 : Nat) ≤ sizeLine := lz (by omega)
 have q1 := wK false (aA [115, 116, 97, 114, 116]) "start" G (by decide +kernel) (by decide +kernel)
 rw [show (aA [115, 116, 97, 114, 116] == ("start" : Str)) = true by decide +kernel] at q1
 have c1 : cutD s.P none (some 1) = [.str (aA [115, 116, 97, 114, 116])] := LC _ _
 have f1 : ∀ s : Str, (dg [.str s] G).fw G = .ok (.con [.str s]) G := fun s => dH (by simpa using z1) rfl
 unfold bG
 refine bx ?_ (by simp [D.closed, bS, cU, aG, Bo])
 simp! [dB, G6, iW, c1, f1, q1, e, z2]
end K13
end
section
set_option Elab.async false
set_option linter.all false
set_option maxRecDepth 100000
set_option maxHeartbeats 1000000
namespace K13
open PySem PySem.Spec L2 L3
theorem wL (c : Nat) : ∀ l, (bw c l).length ≤ l.length + 1
 | [] => by simp [bw]
 | x :: xs => by
  have ih := wL c xs
  unfold bw
  split
  ·simp; omega
  ·split
   ·rename_i e; rw [e] at ih; simp at ih ⊢; omega
   ·simp
theorem m9 {c : Nat} : ∀ {y l : List Nat} {a : Nat}, l ∈ bw c y → a ∈ l → a ∈ y
 | [], l, a, h, ha => by simp [bw] at h; subst h; simp at ha
 | x :: xs, l, a, h, ha => by
  unfold bw at h
  split at h
  ·rcases List.mem_cons.mp h with rfl | h
   ·simp at ha
   ·exact List.mem_cons_of_mem _ (m9 h ha)
  ·split at h
   ·rename_i p ps e
    rcases List.mem_cons.mp h with rfl | h
    ·rcases List.mem_cons.mp ha with rfl | ha
     ·simp
     ·exact List.mem_cons_of_mem _ (m9 (y := xs) (l := p) (by rw [e]; simp) ha)
    ·exact List.mem_cons_of_mem _ (m9 (y := xs) (l := l) (by rw [e]; simp [h]) ha)
   ·simp at h; subst h; simp at ha; simp [ha]
theorem Ae {c : Nat} {b y : List Nat} {a : Nat} (h : a ∈ rp c b y) : a ∈ b ∨ a ∈ y := by
 unfold rp at h
 obtain ⟨x, hx, h⟩ := List.mem_flatMap.mp h
 split at h
 ·exact .inl h
 ·simp at h; subst h; exact .inr hx
theorem str_len (x : Str) : x.length = x.cps.toList.length := by simp [Str.length]
theorem GF (x : Str) (hx : ∀ c ∈ x.cps.toList, c < 1114112) (hl : x.length ≤ 100000) (G : DH) : jS [.str x] G = .ok (.con ((bh [] x.cps.toList).map fun w => .str (aA w))) G := by
 have s1 : (Txt.replace x "\n" " ").cps.toList = rp 10 [32] x.cps.toList := jK x " " 10
 have s2 : (Txt.replace (Txt.replace x "\n" " ") "(" " ( ").cps.toList = rp 40 [32, 40, 32] (rp 10 [32] x.cps.toList) := by rw [← s1]; exact jK _ " ( " 40
 have s3 : (Txt.replace (Txt.replace (Txt.replace x "\n" " ") "(" " ( ") ")" " ) ").cps.toList = zq x.cps.toList := by unfold zq; rw [← s2]; exact jK _ " ) " 41
 have l1 : (Txt.replace x "\n" " ").length ≤ 1 * x.length := by rw [str_len, str_len, s1]; exact vV 10 1 _ (by decide) (by decide) _
 have l2 : (Txt.replace (Txt.replace x "\n" " ") "(" " ( ").length ≤ 3 * (Txt.replace x "\n" " ").length := by rw [str_len, str_len, s2, s1]; exact vV 40 3 _ (by decide) (by decide) _
 have l3 : (Txt.replace (Txt.replace (Txt.replace x "\n" " ") "(" " ( ") ")" " ) ").length ≤ 3 * (Txt.replace (Txt.replace x "\n" " ") "(" " ( ").length := by rw [str_len, str_len, s3, s2]; unfold zq; exact vV 41 3 _ (by decide) (by decide) _
 have r1 := De (G := G) (y := "\n") (z := " ") (x := x) (by decide +kernel) (by omega) (by decide +kernel)
 have r2 := De (G := G) (y := "(") (z := " ( ") (x := Txt.replace x "\n" " ") (by decide +kernel) (by omega) (by decide +kernel)
 have r3 := De (G := G) (y := ")") (z := " ) ") (x := Txt.replace (Txt.replace x "\n" " ") "(" " ( ") (by decide +kernel) (by omega) (by decide +kernel)
 have DF : Txt.split (Txt.replace (Txt.replace (Txt.replace x "\n" " ") "(" " ( ") ")" " ) ") " " = (bw 32 (zq x.cps.toList)).map aA := by rw [← s3]; exact FQ _ 32
 have Xf : (Txt.replace (Txt.replace (Txt.replace x "\n" " ") "(" " ( ") ")" " ) ").length ≤ 900000 := by omega
 have hsl : (bw 32 (zq x.cps.toList)).length ≤ 900001 := by
  have := wL 32 (zq x.cps.toList)
  rw [← s3, ← str_len] at this
  rw [← s3]; omega
 generalize Txt.replace (Txt.replace (Txt.replace x "\n" " ") "(" " ( ") ")" " ) " = x3 at r3 DF Xf
 generalize Txt.replace (Txt.replace x "\n" " ") "(" " ( " = x2 at r2 r3
 generalize Txt.replace x "\n" " " = x1 at r1 r2
 have hmem : ∀ l ∈ bw 32 (zq x.cps.toList), PyData.strOk (aA l) = true := fun l hl => uC fun a ha => by
  have := m9 hl ha
  rcases Ae this with h | h
  ·simp at h; omega
  ·rcases Ae h with h | h
   ·simp at h; omega
   ·rcases Ae h with h | h
    ·simp at h; omega
    ·exact hx a h
 have hw := wl x.cps.toList [] (by simp)
 rw [List.nil_append] at hw
 generalize bw 32 (zq x.cps.toList) = ps at DF hsl hmem hw
 have hc1 : aV ((ps.map aA).map D.str) = true := bL fun _ => aG
 have hz : (ps.map aA).length ≤ sizeLine := by rw [List.length_map]; exact lz (by omega)
 have f1 : (dg ((ps.map aA).map D.str) G).fw G = .ok (.con ((ps.map aA).map D.str)) G := dH (by simpa using hz) hc1
 have hc := eO (gO := oN) (ks := []) (tt := nV (aI (nU true) (ai 0) (eC (.str "")))) (te := ai 0) (own := fun l => [D.str (aA l)]) (dat := fun l => D.str (aA l)) (f := fun l => D.str (aA l)) (c := fun l => !l.isEmpty) (G := G) (τ := [some (.str x), some (.str x3)]) ps [] (by simp; omega) (fun _ _ => rfl) (fun l hl acc => by
   have e := iN true (aA l) "" (G ++ [.lst acc]) (hmem l hl) (by decide +kernel)
   have e2 : (aA l == ("" : Str)) = l.isEmpty := by
    cases l with
    | nil => decide +kernel
    | cons a r =>
     cases e : (aA (a :: r) == ("" : Str)) with
     | false => rfl
     | true =>
      rw [beq_iff_eq] at e
      have := congrArg (fun s : Str => s.cps.toList) e
      simp only [dR] at this
      cases this
   rw [e2] at e
   simp! [mask, e]) (fun l hl acc => by simp! [mask])
 rw [hw, List.nil_append] at hc
 have hc2 : aV ((bh [] x.cps.toList).map fun w => D.str (aA w)) = true := bL fun _ => aG
 have hfm : (ps.map aA).map D.str = ps.map fun l => D.str (aA l) := by rw [List.map_map]; rfl
 rw [hfm] at f1
 have f2 : (dg (ps.map (D.str ∘ aA)) G).fw G = .ok (.con (ps.map fun l => D.str (aA l))) G := f1
 have hsz : x3.length + 2 ≤ sizeLine := lz (by omega)
 have hy : ¬ (" " : Str).length = 0 := by decide +kernel
 unfold jS
 refine bx ?_ (by rw [vS]; exact hc2)
 simp! [mw, r1, r2, r3, vH, hsz, hy, DF, f2, iW, hc, mq hc2]
end K13
end
section
set_option Elab.async false
set_option linter.all false
set_option maxRecDepth 100000
set_option maxHeartbeats 1000000
namespace K13
open PySem PySem.Spec L2 L3
noncomputable def Fr (G : DH) : List Nat → List (List D) → Prop
 | [], [] => True
 | o :: os, ds :: sk => G[o]? = some (.lst ds) ∧ Fr G os sk
 | _, _ => False
theorem Fr.mono {G G' : DH} : ∀ {os : List Nat} {sk : List (List D)}, (∀ o ∈ os, ∀ x, G[o]? = some x → G'[o]? = some x) → Fr G os sk → Fr G' os sk
 | [], [], _, _ => trivial
 | o :: os, ps :: sk, hg, ⟨e, f⟩ => ⟨hg o (by simp) _ e, Fr.mono (fun o ho => hg o (by simp [ho])) f⟩
 | [], _ :: _, _, f => f.elim
 | _ :: _, [], _, f => f.elim
theorem Fr.len {G : DH} : ∀ {os : List Nat} {sk : List (List D)}, Fr G os sk → os.length = sk.length
 | [], [], _ => rfl
 | o :: os, ps :: sk, ⟨e, f⟩ => congrArg (· + 1) (Fr.len f)
 | [], _ :: _, f => f.elim
 | _ :: _, [], f => f.elim
structure St (G0 G : DH) (u : Nat) (ok : List Nat) (sk : List (List D)) : Prop where
 pre : ∃ X, G = G0 ++ X
 hu : G[u]? = some (.lst (ok.reverse.map .obj))
 fr : Fr G ok sk
 nd : ok.Nodup
 nu : u ∉ ok
 ge : G0.length ≤ u ∧ ∀ o ∈ ok, G0.length ≤ o
theorem u0 {G0 G : DH} (h : ∃ X, G = G0 ++ X) {i : Nat} (hi : G0.length ≤ i) (x : DO) : ∃ X, G.set i x = G0 ++ X := by
 obtain ⟨X, rfl⟩ := h
 exact ⟨_, List.set_append_right _ _ hi⟩
theorem pre_app {G0 G : DH} (h : ∃ X, G = G0 ++ X) (E : DH) : ∃ X, G ++ E = G0 ++ X := by
 obtain ⟨X, rfl⟩ := h
 exact ⟨X ++ E, by simp⟩
theorem get_set {G : DH} {i j : Nat} {x y : DO} (h : G[j]? = some y) (hn : i ≠ j) : (G.set i x)[j]? = some y := by rw [List.getElem?_set_ne hn]; exact h
theorem Af {G : DH} {i : Nat} {x y : DO} (h : G[i]? = some y) : (G.set i x)[i]? = some x := by
 have := (List.getElem?_eq_some_iff.mp h).1
 rw [List.getElem?_set, if_pos rfl, if_pos this]
theorem yy {G : DH} {i : Nat} {y : DO} (h : G[i]? = some y) : i < G.length := (List.getElem?_eq_some_iff.mp h).1
variable {G0 G : DH} {u : Nat} {ok : List Nat} {sk : List (List D)}
theorem Jz : ∀ {ok : List Nat} {sk : List (List D)}, Fr G ok sk → ∀ o ∈ ok, o < G.length
 | [], [], _, o, ho => by simp at ho
 | p :: os, ps :: sk, ⟨e, f⟩, o, ho => by
  rcases List.mem_cons.mp ho with rfl | ho
  ·exact yy e
  ·exact Jz f o ho
 | [], _ :: _, f, _, _ => f.elim
 | _ :: _, [], f, _, _ => f.elim
theorem St.push (s : St G0 G u ok sk) : St G0 ((G ++ [DO.lst []]).set u (DO.lst ((G.length :: ok).reverse.map D.obj))) u (G.length :: ok) ([] :: sk) := by
 have lu := yy s.hu
 have hlt := Jz s.fr
 have Xg : G0.length ≤ G.length := by obtain ⟨X, rfl⟩ := s.pre; simp
 have nn : G.length ∉ ok := fun h => absurd (hlt _ h) (Nat.lt_irrefl _)
 refine ⟨u0 (pre_app s.pre _) s.ge.1 _, Af (sQ s.hu), ⟨get_set (BY _ _ _) (by omega), s.fr.mono fun o ho x e => get_set (sQ e) fun z => s.nu (z ▸ ho)⟩, List.nodup_cons.mpr ⟨nn, s.nd⟩, ?_, s.ge.1, ?_⟩
 ·intro h; rcases List.mem_cons.mp h with h | h
  ·omega
  ·exact s.nu h
 ·intro o ho
  rcases List.mem_cons.mp ho with rfl | ho
  ·exact Xg
  ·exact s.ge.2 o ho
theorem St.add {o : Nat} {d : D} {ds : List D} (s : St G0 G u (o :: ok) (ds :: sk)) : St G0 (G.set o (.lst (ds ++ [d]))) u (o :: ok) ((ds ++ [d]) :: sk) := by
 have nd := List.nodup_cons.mp s.nd
 have no : u ≠ o := fun z => s.nu (by simp [z])
 exact ⟨u0 s.pre (s.ge.2 o (by simp)) _, get_set s.hu no.symm, ⟨Af s.fr.1, s.fr.2.mono fun q hq x e => get_set e fun z => nd.1 (z ▸ hq)⟩, s.nd, s.nu, s.ge⟩
theorem St.pop {o : Nat} {ds : List D} (s : St G0 G u (o :: ok) (ds :: sk)) : St G0 (G.set u (.lst (ok.reverse.map .obj))) u ok sk := by
 have nd := List.nodup_cons.mp s.nd
 exact ⟨u0 s.pre s.ge.1 _, Af s.hu, s.fr.2.mono fun q hq x e => get_set e fun z => s.nu (by simp [z, hq]), nd.2, fun h => s.nu (by simp [h]), s.ge.1, fun q hq => s.ge.2 q (by simp [hq])⟩
theorem St.Xh {o : Nat} (s : St G0 G u ok sk) (h0 : G0.length ≤ o) (hu : u ≠ o) (ho : o ∉ ok) : St G0 (G.set o .dead) u ok sk :=
 ⟨u0 s.pre h0 _, get_set s.hu hu.symm, s.fr.mono fun q hq x e => get_set e fun z => ho (z ▸ hq), s.nd, s.nu, s.ge⟩
theorem Dm {α : Type} (xs : List α) (x : α) : i8 (xs ++ [x]) (-1) = some x := by
 unfold i8 Jd
 rw [if_neg (by omega), if_pos (by simp; omega)]
 show (xs ++ [x])[(-1 + ((xs ++ [x]).length : Int)).toNat]? = some x
 rw [show (-1 + ((xs ++ [x]).length : Int)).toNat = xs.length by simp; omega]
 simp
structure Wo (w : List Nat) : Prop where
 ok : PyData.strOk (aA w) = true
 o : (aA w == ("(" : Str)) = false
 s : (aA w == (")" : Str)) = false
theorem Es (s : St G0 G u ok sk) (hlen : ok.length ≤ 100000) (t f b4 : Option D) :
  cy [t, f, some (.obj u), some (.str (aA [40])), b4] G = .nx [t, f, some (.obj u), some (.str (aA [40])), b4] ((G ++ [DO.lst []]).set u (DO.lst ((G.length :: ok).reverse.map D.obj))) := by
 have e := iN false (aA [40]) "(" G (by decide +kernel) (by decide +kernel)
 rw [show (aA [40] == ("(" : Str)) = true by decide +kernel] at e
 have hz : ok.length < sizeLine := Nat.lt_of_lt_of_le (by omega) (lz (n := 100001) (by omega))
 have Xi : (G ++ [DO.lst []])[u]? = some (.lst (ok.reverse.map .obj)) := sQ s.hu
 have hu := s.hu
 simp! [cy, e, hu, Xi, hz, dg]
theorem Et {w : List Nat} (hw : Wo w) {o : Nat} {ds : List D} (s : St G0 G u (o :: ok) (ds :: sk)) (hl : ds.length ≤ 100000) (t f b4 : Option D) :
  cy [t, f, some (.obj u), some (.str (aA w)), b4] G = .nx [t, f, some (.obj u), some (.str (aA w)), b4] (G.set o (.lst (ds ++ [.str (aA w)]))) := by
 have e := iN false (aA w) "(" G hw.ok (by decide +kernel)
 have e1 := iN false (aA w) ")" G hw.ok (by decide +kernel)
 rw [hw.o] at e
 rw [hw.s] at e1
 have hz : ds.length < sizeLine := Nat.lt_of_lt_of_le (by omega) (lz (n := 100001) (by omega))
 have hu := s.hu
 have hd := s.fr.1
 simp only [List.reverse_cons, List.map_append, List.map_cons, List.map_nil] at hu
 simp! [cy, e, e1, hu, Dm, hd, hz]
noncomputable def Mk (p : List D) (v : D) : Prop := ∀ G, bG [.con p] G = .ok v G
theorem Eu {o o2 : Nat} {ds Px : List D} {v : D} (hm : Mk ds v) (s : St G0 G u (o :: o2 :: ok) (ds :: Px :: sk)) (hl : Px.length ≤ 100000) (t b4 : Option D) :
  ∃ G', cy [t, some (.fn "make_in_shape"), some (.obj u), some (.str (aA [41])), b4] G = .nx [t, some (.fn "make_in_shape"), some (.obj u), some (.str (aA [41])), some (.obj o)] G' ∧ St G0 G' u (o2 :: ok) ((Px ++ [v]) :: sk) := by
 have e := iN false (aA [41]) "(" G (by decide +kernel) (by decide +kernel)
 have e1 := iN false (aA [41]) ")" G (by decide +kernel) (by decide +kernel)
 rw [show (aA [41] == ("(" : Str)) = false by decide +kernel] at e
 rw [show (aA [41] == (")" : Str)) = true by decide +kernel] at e1
 have nd := List.nodup_cons.mp s.nd
 have no : u ≠ o := fun z => s.nu (by simp [z])
 have XJ : o ≠ o2 := fun z => nd.1 (by simp [z])
 have sp := s.pop
 have sd := sp.Xh (s.ge.2 o (by simp)) no nd.1
 have sa := sd.add (d := v)
 refine ⟨_, ?_, sa⟩
 have hz : Px.length < sizeLine := Nat.lt_of_lt_of_le (by omega) (lz (n := 100001) (by omega))
 have hu := s.hu
 have Py := sp.hu
 have hd' : (G.set u (.lst ((o2 :: ok).reverse.map .obj)))[o]? = some (.lst ds) := get_set s.fr.1 no
 have hd2 := sp.fr.1
 have UC := sd.fr.1
 have hm' := hm ((G.set u (.lst ((o2 :: ok).reverse.map .obj))).set o .dead)
 generalize UD : G.set u (.lst ((o2 :: ok).reverse.map .obj)) = G1 at sp Py hd' hd2 UC hm'
 simp only [List.reverse_cons, List.map_append, List.map_cons, List.map_nil] at Py UD hu
 have hne : ((ok.length : Int) + 1 == 0) = false := by simp; omega
 have hdl : (((ok.reverse.map D.obj) ++ [D.obj o2]) ++ [D.obj o]).dropLast = (ok.reverse.map D.obj) ++ [D.obj o2] := List.dropLast_concat
 have hix : (((ok.reverse.map D.obj) ++ [D.obj o2]) ++ [D.obj o])[(((ok.reverse.map D.obj) ++ [D.obj o2]) ++ [D.obj o]).length - 1]? = some (D.obj o) := by simp
 have ep : (cA 4 (dY "list" za (ai 2) aB)) [t, some (.fn "make_in_shape"), some (.obj u), some (.str (aA [41])), b4] G = .nx [t, some (.fn "make_in_shape"), some (.obj u), some (.str (aA [41])), some (.obj o)] G1 := by
  simp only [sR, vO, nX, List.getElem?_cons_succ, List.getElem?_cons_zero, tX, jP, hu, vM, za, hix, hdl, beq_self_eq_true, if_true, yg, List.set_cons_succ, List.set_cons_zero, UD]
 have ei : (pZ (nV (aI (nU false) (aH jO (ah (ai 2) (aB))) (eC (.int 0)))) (gT "NoText" (ah (eC (.str "a bracket is shut that was never begun")) (aB))) (dQ)) [t, some (.fn "make_in_shape"), some (.obj u), some (.str (aA [41])), some (.obj o)] G1 = .nx [t, some (.fn "make_in_shape"), some (.obj u), some (.str (aA [41])), some (.obj o)] G1 := by
  simp! [Py, j9, hne]
 have QV : (Out.ok (D.obj o) G1).fz = .ok (.con ds) (G1.set o .dead) := by simp only [Out.fz, hd']
 simp only [cy, AG, AH, vL, nX, BZ, List.getElem?_cons_succ, List.getElem?_cons_zero, tX, b7, e, e1, vN, FG, FH, Bool.false_xor]
 rw [nq, jb, ep, ni, jb, ei, ni]
 simp! [Py, Dm, hd2, QV, hm', UC, hz]
end K13
end
section
set_option Elab.async false
set_option linter.all false
set_option maxRecDepth 100000
set_option maxHeartbeats 1000000
namespace K13
open PySem PySem.Spec L2 L3
inductive Rd : List (List D) → List (List Nat) → List (List D) → Prop
 | nil (fs) : Rd fs [] fs
 | op {fs ws fs'} : Rd ([] :: fs) ws fs' → Rd fs ([40] :: ws) fs'
 | wd {w p r ws fs'} : Wo w → Rd ((p ++ [.str (aA w)]) :: r) ws fs' → Rd (p :: r) (w :: ws) fs'
 | sh {p v q r ws fs'} : Mk p v → Rd ((q ++ [v]) :: r) ws fs' → Rd (p :: q :: r) ([41] :: ws) fs'
theorem IQ {G0 : DH} {u : Nat} {t : Option D} {fs : List (List D)} {ws : List (List Nat)} {fs' : List (List D)} (h : Rd fs ws fs') : ∀ (G : DH) (ok : List Nat) (b3 b4 : Option D), St G0 G u ok fs → (∀ f ∈ fs, f.length + ws.length ≤ 100000) → fs.length + ws.length ≤ 100000 →
  ∃ G' ok' JA JB, dX (gN 3) cy (ws.map fun w => .str (aA w)) [t, some (.fn "make_in_shape"), some (.obj u), b3, b4] G = .nx [t, some (.fn "make_in_shape"), some (.obj u), JA, JB] G' ∧ St G0 G' u ok' fs' := by
 induction h with
 | nil fs => exact fun G ok b3 b4 s _ _ => ⟨G, ok, b3, b4, by simp [dX], s⟩
 | @op fs ws fs' h ih =>
  intro G ok b3 b4 s h1 h2
  have hl := s.fr.len
  have e := Es s (by simp at h2; omega) t (some (.fn "make_in_shape")) b4
  obtain ⟨G', ok', JA, JB, e', s'⟩ := ih _ _ (some (.str (aA [40]))) b4 s.push (fun f hf => by
   rcases List.mem_cons.mp hf with rfl | hf
   ·simp at h2 ⊢; omega
   ·have := h1 f hf
    simp at this; omega) (by simp at h2 ⊢; omega)
  refine ⟨G', ok', JA, JB, ?_, s'⟩
  rw [List.map_cons, d8 rfl]
  simp only [List.set_cons_succ, List.set_cons_zero, e, lg]
  exact e'
 | @wd w p r ws fs' hw h ih =>
  intro G ok b3 b4 s h1 h2
  match ok, s with
  | o :: ok, s =>
   have hp := h1 p (by simp)
   have e := Et hw s (by simp at hp; omega) t (some (.fn "make_in_shape")) b4
   obtain ⟨G', ok', JA, JB, e', s'⟩ := ih _ _ (some (.str (aA w))) b4 (s.add (d := .str (aA w))) (fun f hf => by
    rcases List.mem_cons.mp hf with rfl | hf
    ·simp at hp ⊢; omega
    ·have := h1 f (by simp [hf])
     simp at this; omega) (by simp at h2 ⊢; omega)
   refine ⟨G', ok', JA, JB, ?_, s'⟩
   rw [List.map_cons, d8 rfl]
   simp only [List.set_cons_succ, List.set_cons_zero, e, lg]
   exact e'
  | [], s => exact s.fr.elim
 | @sh p v q r ws fs' hm h ih =>
  intro G ok b3 b4 s h1 h2
  match ok, s with
  | o :: o2 :: ok, s =>
   have hq := h1 q (by simp)
   obtain ⟨G1, e, s1⟩ := Eu hm s (by simp at hq; omega) t b4
   obtain ⟨G', ok', JA, JB, e', s'⟩ := ih _ _ (some (.str (aA [41]))) (some (.obj o)) s1 (fun f hf => by
    rcases List.mem_cons.mp hf with rfl | hf
    ·simp at hq ⊢; omega
    ·have := h1 f (by simp [hf])
     simp at this; omega) (by simp at h2 ⊢; omega)
   refine ⟨G', ok', JA, JB, ?_, s'⟩
   rw [List.map_cons, d8 rfl]
   simp only [List.set_cons_succ, List.set_cons_zero, e, lg]
   exact e'
  | [_], s => exact s.fr.2.elim
  | [], s => exact s.fr.elim
theorem yz {w : List Nat} (h : Eo w) (hx : ∀ x ∈ w, x < 1114112) : Wo w := by
 refine ⟨uC hx, ?_, ?_⟩
 ·cases e : (aA w == ("(" : Str)) with
  | false => rfl
  | true =>
   rw [beq_iff_eq] at e
   have e2 := congrArg (fun s : Str => s.cps.toList) e
   rw [dR] at e2
   have e3 : w = [40] := e2
   exact absurd rfl (h 40 (by simp [e3])).2.2.1
 ·cases e : (aA w == (")" : Str)) with
  | false => rfl
  | true =>
   rw [beq_iff_eq] at e
   have e2 := congrArg (fun s : Str => s.cps.toList) e
   rw [dR] at e2
   have e3 : w = [41] := e2
   exact absurd rfl (h 41 (by simp [e3])).2.2.2
theorem Nm.wo {l : List Nat} (h : Nm l) : Wo l := yz h.wd fun x hx => by have := h.az x hx; omega
theorem LF (n : Nat) (h : n ≤ 2) : Wo [48 + n] := yz (Gv n h) fun x hx => by simp at hx; omega
theorem OT {i : Itm} (h : i.Ok) : Wo (hiL i.hi) := yz (Gw h).2 fun x hx => by
 cases e : i.hi with
 | none => rw [e] at hx; simp [hiL] at hx; omega
 | some n => rw [e] at hx; simp [hiL] at hx; have := (h.hi n e).2; omega
theorem LG (b : Bool) : Wo (gw b) := yz (Cp b).2 (by cases b <;> decide)
theorem Bp : ∀ (its : List Itm), (∀ i ∈ its, i.Ok) → ∀ {p : List D} {r ws fs'}, Rd ((p ++ its.map xH) :: r) ws fs' → Rd (p :: r) (its.flatMap Itm.W ++ ws) fs'
 | [], _, p, r, ws, fs', h => by simpa using h
 | i :: its, hi, p, r, ws, fs', h => by
  have ho := hi i (by simp)
  refine .op (.wd ho.nm.wo (.wd (LF _ ho.lo) (.wd (OT ho) (.sh (v := xH i) (IL ho) ?_))))
  refine Bp its (fun j hj => hi j (by simp [hj])) ?_
  simpa using h
theorem IS {q : Rl} (ho : q.Ok) {p : List D} {r ws fs'} (h : Rd ((p ++ [GB q]) :: r) ws fs') : Rd (p :: r) (q.W ++ ws) fs' := by
 have e : q.W ++ ws = [40] :: [114, 117, 108, 101] :: q.nm :: q.kd :: gw q.mix :: (q.its.flatMap Itm.W ++ [41] :: ws) := by simp [Rl.W]
 rw [e]
 refine .op (.wd (yz (by unfold Eo; decide) (by decide)) (.wd ho.nm.wo (.wd ho.kd.wo (.wd (LG _) (Bp q.its ho.its (.sh (v := GB q) ?_ h))))))
 exact IP ho
theorem Bq : ∀ (rls : List Rl), (∀ i ∈ rls, i.Ok) → ∀ {p : List D} {r ws fs'}, Rd ((p ++ rls.map GB) :: r) ws fs' → Rd (p :: r) (rls.flatMap Rl.W ++ ws) fs'
 | [], _, p, r, ws, fs', h => by simpa using h
 | q :: rls, hi, p, r, ws, fs', h => by
  rw [List.flatMap_cons, List.append_assoc]
  refine IS (hi q (by simp)) (Bq rls (fun j hj => hi j (by simp [hj])) ?_)
  simpa using h
theorem GG {s : m7} (h : s.Ok) : Rd [[]] s.W [[.tup [.str "shape", s.D]]] := by
 refine .op (.wd (yz (by unfold Eo; decide) (by decide)) (.wd h.st.wo (Bq s.rls h.rls (.sh (v := .tup [.str "shape", s.D]) ?_ (.nil _)))))
 exact GD h
theorem Dn : ∀ its : List Itm, (its.flatMap Itm.W).length = 5 * its.length
 | [] => rfl
 | i :: its => by
  have := Dn its
  simp only [List.flatMap_cons, List.length_append, List.length_cons, this]
  simp [Itm.W]; omega
theorem Dp : ∀ rls : List Rl, (∀ r ∈ rls, r.Ok) → (rls.flatMap Rl.W).length ≤ 21 * rls.length
 | [], _ => by simp
 | r :: rls, h => by
  have := Dp rls fun q hq => h q (by simp [hq])
  have := (h r (by simp)).le
  simp only [List.flatMap_cons, List.length_append, List.length_cons, Rl.W, Dn, List.length_nil]; omega
theorem OU {s : m7} (h : s.Ok) : s.W.length ≤ 1000 := by
 have := Dp s.rls h.rls
 have := h.le
 simp only [m7.W, List.length_cons, List.length_append, List.length_nil]; omega
theorem Ct {s : m7} (h : s.Ok) (x : Str) (hx : ∀ c ∈ x.cps.toList, c < 1114112) (hl : x.length ≤ 100000) (hw : bh [] x.cps.toList = s.W) (G : DH) : fR [.str x, .fn "make_in_shape"] G = .ok (.tup [.str "shape", s.D]) G := by
 have ew := GF x hx hl (G ++ [.lst [], .lst [.obj G.length]])
 rw [hw] at ew
 have XM := OU h
 have s0 : St G (G ++ [.lst [], .lst [.obj G.length]]) (G.length + 1) [G.length] [[]] := by
  refine ⟨⟨_, rfl⟩, ?_, ⟨BY _ _ _, trivial⟩, by simp, by simp, by omega, by simp⟩
  exact K8 _ _ _ _
 obtain ⟨G', ok', JA, JB, e, s'⟩ := IQ (t := some (.str x)) (GG h) _ _ none none s0 (by simp; omega) (by simp; omega)
 match ok', s' with
 | [o], s' =>
  have hu := s'.hu
  have hd := s'.fr.1
  obtain ⟨X, hX⟩ := s'.pre
  have z1 : (1 : Nat) ≤ sizeLine := lz (by omega)
  have z0 : (0 : Nat) ≤ sizeLine := Nat.zero_le _
  unfold fR
  refine ri (R := X) ?_ (by simp [D.closed, bS, cU, aG, Bo])
  rw [← hX]
  simp only [List.reverse_cons, List.reverse_nil, List.nil_append, List.map_cons, List.map_nil] at hu
  have a0 : i8 [D.obj o] 0 = some (.obj o) := rfl
  have a1 : i8 [D.tup [D.str "shape", s.D]] 0 = some (D.tup [D.str "shape", s.D]) := rfl
  simp! [g6, dg, z1, ew, e, nt, hu, hd, MH, j9, a0, a1]
 | [], s' => exact s'.fr.elim
 | _ :: _ :: _, s' => exact s'.fr.2.elim
theorem Ag {s : m7} (h : s.Ok) (x : Str) (hx : ∀ c ∈ x.cps.toList, c < 1114112) (hl : x.length ≤ 100000) (hw : bh [] x.cps.toList = s.W) (G : DH) : eS [.str x] G = .ok s.D G := by
 have e := Ct h x hx hl hw G
 have e2 := Bm "shape" (by decide +kernel) s.D (Bo s) G
 unfold eS
 refine bx ?_ (Bo s)
 simp! [jv, e, e2]
end K13
end
section
set_option Elab.async false
set_option linter.all false
set_option maxRecDepth 100000
set_option maxHeartbeats 1000000
namespace K13
open PySem PySem.Spec L2 L3
section
variable {a b c d : D}
theorem Pp : i8 [a, b] 0 = some a := rfl
theorem Ox : i8 [a, b] 1 = some b := rfl
theorem Pz : i8 [a, b, c] 0 = some a := rfl
theorem OV : i8 [a, b, c] 1 = some b := rfl
theorem a32 : i8 [a, b, c] 2 = some c := rfl
theorem UE : i8 [a, b, c, d] 0 = some a := rfl
theorem UG : i8 [a, b, c, d] 1 = some b := rfl
theorem UH : i8 [a, b, c, d] 2 = some c := rfl
theorem Sm : i8 [a, b, c, d] 3 = some d := rfl
end
theorem kO (a b : Str) (G : DH) (h : a.length + b.length ≤ 2000000) : ∃ t, bH (.str a) (.str b) G = .ok (.str t) G ∧ t.cps.toList = a.cps.toList ++ b.cps.toList ∧ t.length = a.length + b.length := by
 refine ⟨a ++ b, ?_, ?_, Ip a b⟩
 ·simp [bH, lz h]
 ·show (a.cps ++ b.cps).toList = _
  simp
theorem IT (n : Nat) (h : n ≤ 2) : (Str.ofString (toString (n : Int))) = aA [48 + n] := by
 have : ∀ n < 3, (Str.ofString (toString ((n : Nat) : Int))) = aA [48 + n] := by decide +kernel
 exact this n (by omega)
theorem u6 (n : Nat) (h : n ≤ 2) (G : DH) : pN [.int n] G = .ok (.str (aA [48 + n])) G := by
 rw [Ld (by omega)]
 exact congrArg (fun s => Out.ok (D.str s) G) (IT n h)
theorem IU {i : Itm} (h : i.Ok) (G : DH) : eg [i.D] G = .ok (.str (aA i.L)) G := by
 have h8 := h.nm.le
 have hh := Cq (i := i)
 have n1 : ("(" : Str).length = 1 := by decide +kernel
 have n2 : (" " : Str).length = 1 := by decide +kernel
 have n3 : (")" : Str).length = 1 := by decide +kernel
 have nn := di i.nm
 have nd := di [48 + i.lo]
 have nh := di (hiL i.hi)
 simp only [List.length_cons, List.length_nil] at nd
 obtain ⟨t1, e1, c1, k1⟩ := kO "(" (aA i.nm) G (by omega)
 obtain ⟨t2, e2, c2, k2⟩ := kO t1 " " G (by omega)
 obtain ⟨t3, e3, c3, k3⟩ := kO t2 (aA [48 + i.lo]) G (by omega)
 obtain ⟨t4, e4, c4, k4⟩ := kO t3 " " G (by omega)
 obtain ⟨t5, e5, c5, k5⟩ := kO t4 (aA (hiL i.hi)) G (by omega)
 obtain ⟨t6, e6, c6, k6⟩ := kO t5 ")" G (by omega)
 have ht : t6 = aA i.L := by
  apply qW
  rw [c6, c5, c4, c3, c2, c1, dR, dR, dR, dR]
  show ((((([40] ++ i.nm) ++ [32]) ++ [48 + i.lo]) ++ [32]) ++ hiL i.hi) ++ [41] = i.L
  simp [Itm.L]
 rw [← ht]
 have d1 := u6 i.lo h.lo G
 unfold eg
 refine bx ?_ aG
 cases e : i.hi with
 | none =>
  rw [e] at e5
  have e5' : bH (.str t4) (.str "many") G = .ok (.str t5) G := e5
  dsimp! [ef, Itm.D, e, EB, Pz, OV, a32, d1, Av, e1, e2, e3, e4, e5', e6]
 | some n =>
  rw [e] at e5
  have d2 := u6 n (h.hi n e).2 G
  have e5' : bH (.str t4) (.str (aA [48 + n])) G = .ok (.str t5) G := e5
  dsimp! [ef, Itm.D, e, EB, Pz, OV, a32, d1, d2, Av, e1, e2, e3, e4, e5', e6]
end K13
end
section
set_option Elab.async false
set_option linter.all false
set_option maxRecDepth 100000
set_option maxHeartbeats 1000000
namespace K13
open PySem PySem.Spec L2 L3
theorem yC (a0 a2 a3 a4 a5 : Option D) (G : DH) : ∀ (its : List Itm), (∀ i ∈ its, i.Ok) → ∀ (t : Str) (a6 : Option D), t.length + 18 * its.length ≤ 10000 →
  ∃ (t' : Str) (b6 : Option D), dX (gN 6) jo (its.map Itm.D) [a0, some (.str t), a2, a3, a4, a5, a6] G = .nx [a0, some (.str t'), a2, a3, a4, a5, b6] G ∧ t'.cps.toList = t.cps.toList ++ its.flatMap (fun i => 32 :: i.L) ∧ t'.length ≤ t.length + 18 * its.length
 | [], _, t, a6, _ => ⟨t, a6, by simp [dX], by simp, by simp⟩
 | i :: its, h, t, a6, hl => by
  have n2 : (" " : Str).length = 1 := by decide +kernel
  have ho := h i (by simp)
  have hi := Ac ho
  have hlL := di i.L
  simp only [List.length_cons] at hl
  obtain ⟨t1, e1, c1, k1⟩ := kO t " " G (by omega)
  obtain ⟨t2, e2, c2, k2⟩ := kO t1 (aA i.L) G (by omega)
  have e3 := IU ho G
  have e : jo [a0, some (.str t), a2, a3, a4, a5, some i.D] G = .nx [a0, some (.str t2), a2, a3, a4, a5, some i.D] G := by
   dsimp! [jo, e1, e2, e3]
  obtain ⟨t', b6, e', c', k'⟩ := yC a0 a2 a3 a4 a5 G its (fun j hj => h j (by simp [hj])) t2 (some i.D) (by omega)
  refine ⟨t', b6, ?_, ?_, ?_⟩
  ·rw [List.map_cons, d8 rfl]
   simp only [List.set_cons_succ, List.set_cons_zero, e, lg]
   exact e'
  ·rw [c', c2, c1, dR]
   show (t.cps.toList ++ [32]) ++ i.L ++ _ = _
   simp
  ·simp only [List.length_cons]; omega
theorem yD (a0 : Option D) (G : DH) : ∀ (rls : List Rl), (∀ r ∈ rls, r.Ok) → ∀ (t : Str) (a2 a3 a4 a5 a6 : Option D), t.length + 100 * rls.length ≤ 5000 →
  ∃ (t' : Str) (b2 b3 b4 b5 b6 : Option D), dX (QU 2 3 4 5) jq (rls.map Rl.D) [a0, some (.str t), a2, a3, a4, a5, a6] G = .nx [a0, some (.str t'), b2, b3, b4, b5, b6] G ∧ t'.cps.toList = t.cps.toList ++ rls.flatMap (fun r => 32 :: r.L) ∧ t'.length ≤ t.length + 100 * rls.length
 | [], _, t, a2, a3, a4, a5, a6, _ => ⟨t, a2, a3, a4, a5, a6, by simp [dX], by simp, by simp⟩
 | r :: rls, h, t, a2, a3, a4, a5, a6, hl => by
  have ho := h r (by simp)
  have hr := Cr ho
  have n1 : (" (rule " : Str).length = 7 := by decide +kernel
  have n2 : (" " : Str).length = 1 := by decide +kernel
  have n3 : (")" : Str).length = 1 := by decide +kernel
  have nn := di r.nm
  have nk := di r.kd
  have no := di (gw r.mix)
  rw [Ad] at no
  have h1 := ho.nm.le
  have h2 := ho.kd.le
  have h3 := ho.le
  simp only [List.length_cons] at hl
  obtain ⟨t1, e1, c1, k1⟩ := kO t " (rule " G (by omega)
  obtain ⟨t2, e2, c2, k2⟩ := kO t1 (aA r.nm) G (by omega)
  obtain ⟨t3, e3, c3, k3⟩ := kO t2 " " G (by omega)
  obtain ⟨t4, e4, c4, k4⟩ := kO t3 (aA r.kd) G (by omega)
  obtain ⟨t5, e5, c5, k5⟩ := kO t4 " " G (by omega)
  obtain ⟨t6, e6, c6, k6⟩ := kO t5 (aA (gw r.mix)) G (by omega)
  obtain ⟨t7, b6, e7, c7, k7⟩ := yC a0 (some (.str (aA r.nm))) (some (.str (aA r.kd))) (some (.str (aA (gw r.mix)))) (some (.tup (r.its.map Itm.D))) G r.its ho.its t6 a6 (by omega)
  obtain ⟨t8, e8, c8, k8⟩ := kO t7 ")" G (by omega)
  have e : jq [a0, some (.str t), some (.str (aA r.nm)), some (.str (aA r.kd)), some (.str (aA (gw r.mix))), some (.tup (r.its.map Itm.D)), a6] G = .nx [a0, some (.str t8), some (.str (aA r.nm)), some (.str (aA r.kd)), some (.str (aA (gw r.mix))), some (.tup (r.its.map Itm.D)), b6] G := by
   dsimp! [jq, e1, e2, e3, e4, e5, e6, e7, e8]
  obtain ⟨t', b2, b3, b4, b5, Xj, e', c', k'⟩ := yD a0 G rls (fun j hj => h j (by simp [hj])) t8 (some (.str (aA r.nm))) (some (.str (aA r.kd))) (some (.str (aA (gw r.mix)))) (some (.tup (r.its.map Itm.D))) b6 (by omega)
  refine ⟨t', b2, b3, b4, b5, Xj, ?_, ?_, ?_⟩
  ·rw [List.map_cons, d8 (τ1 := [a0, some (.str t), some (.str (aA r.nm)), some (.str (aA r.kd)), some (.str (aA (gw r.mix))), some (.tup (r.its.map Itm.D)), a6]) rfl]
   rw [e, lg]
   exact e'
  ·rw [c', c8, c7, c6, c5, c4, c3, c2, c1, dR, dR, dR]
   show (((((((t.cps.toList ++ [32, 40, 114, 117, 108, 101, 32]) ++ r.nm) ++ [32]) ++ r.kd) ++ [32]) ++ gw r.mix) ++ _) ++ [41] ++ _ = _
   simp [Rl.L]
  ·simp only [List.length_cons]; omega
theorem IV {s : m7} (h : s.Ok) (G : DH) : gF [s.D] G = .ok (.str (aA s.L)) G := by
 have h8 := h.st.le
 have hr := h.le
 have n1 : ("(start " : Str).length = 7 := by decide +kernel
 have n3 : (")" : Str).length = 1 := by decide +kernel
 have nn := di s.st
 obtain ⟨t1, e1, c1, k1⟩ := kO "(start " (aA s.st) G (by omega)
 obtain ⟨t2, b2, b3, b4, b5, b6, e2, c2, k2⟩ := yD (some s.D) G s.rls h.rls t1 none none none none none (by omega)
 obtain ⟨t3, e3, c3, k3⟩ := kO t2 ")" G (by omega)
 have ht : t3 = aA s.L := by
  apply qW
  rw [c3, c2, c1, dR, dR]
  show ([40, 115, 116, 97, 114, 116, 32] ++ s.st) ++ _ ++ [41] = s.L
  simp [m7.L]
 rw [← ht]
 have es : s.D = .tup [.str (aA s.st), .tup (s.rls.map Rl.D)] := rfl
 rw [es] at e2
 unfold gF
 refine bx ?_ aG
 dsimp! [ki, es, Pp, Ox, e1, e2, e3]
theorem uD (a0 a1 : Option D) (G : DH) : ∀ (its : List Itm) (a2 : Option D), ∃ b2, dX (gN 2) iP (its.map Itm.D) [a0, a1, a2] G = .nx [a0, a1, b2] G
 | [], a2 => ⟨a2, by simp [dX]⟩
 | i :: its, a2 => by
  obtain ⟨b2, e'⟩ := uD a0 a1 G its (some i.D)
  refine ⟨b2, ?_⟩
  have e : iP [a0, a1, some i.D] G = .nx [a0, a1, some i.D] G := by
   cases hi : i.hi <;> simp! [iP, Itm.D, hi, EB, OV, a32]
  rw [List.map_cons, d8 rfl]
  simp only [List.set_cons_succ, List.set_cons_zero, e, lg]
  exact e'
theorem uE (a0 : Option D) (G : DH) : ∀ (rls : List Rl) (a1 a2 : Option D), ∃ b1 b2, dX (gN 1) iQ (rls.map Rl.D) [a0, a1, a2] G = .nx [a0, b1, b2] G
 | [], a1, a2 => ⟨a1, a2, by simp [dX]⟩
 | r :: rls, a1, a2 => by
  obtain ⟨c2, e1⟩ := uD a0 (some r.D) G r.its a2
  obtain ⟨b1, b2, e'⟩ := uE a0 G rls (some r.D) c2
  refine ⟨b1, b2, ?_⟩
  have es : r.D = .tup [.str (aA r.nm), .str (aA r.kd), .str (aA (gw r.mix)), .tup (r.its.map Itm.D)] := rfl
  have e : iQ [a0, some r.D, a2] G = .nx [a0, some r.D, c2] G := by
   rw [es] at e1 ⊢
   simp! [iQ, Sm, e1]
  rw [List.map_cons, d8 rfl]
  simp only [List.set_cons_succ, List.set_cons_zero, e, lg]
  exact e'
theorem GH (s : m7) (G : DH) : gW [s.D] G = .ok (.bl true) G := by
 obtain ⟨b1, b2, e⟩ := uE (some s.D) G s.rls none none
 have es : s.D = .tup [.str (aA s.st), .tup (s.rls.map Rl.D)] := rfl
 rw [es] at e
 unfold gW
 refine bx ?_ rfl
 simp! [jm, es, Ox, e]
theorem strs_map (ws : List Str) : strsOf (ws.map D.str) = some ws := by
 induction ws with
 | nil => rfl
 | cons w ws ih => simp [strsOf, ih]
theorem yE : ∀ (ws : List Str) (n : Nat), ws.foldl (fun a (w : Str) => a + w.length + 1) n = n + (ws.map fun w => w.length + 1).sum
 | [], n => by simp
 | w :: ws, n => by
  rw [List.foldl_cons, yE ws]
  simp; omega
theorem oQ (ws : List Str) (hl : (ws.map fun w => w.length + 1).sum ≤ 100000) (G : DH) : cX [.con (ws.map .str)] G = .ok (.str (aA (40 :: cH [32] (ws.map fun w => w.cps.toList) ++ [41]))) G := by
 have hj : JoinOk " " ws = true := by
  have n2 : (" " : Str).length = 1 := by decide +kernel
  have e : ws.toArray.foldl (fun a (w : Str) => a + w.length + (" " : Str).length) 0 = (ws.map fun w => w.length + 1).sum := by
   rw [n2, List.foldl_toArray, yE]; simp
  unfold JoinOk
  rw [e]
  rw [Bool.not_eq_true']
  unfold Builtin.Str.tooLong
  exact decide_eq_false (by have := lz (n := 100000) (by omega); omega)
 have hs := strs_map ws
 have hjl : (Txt.join " " ws).cps.toList = cH [32] (ws.map fun w => w.cps.toList) := by
  show (Builtin.Str.glued " " ws).cps.toList = _
  rw [StrLaws.glued_eq_join]
  exact mj " " ws
 have hlen : (Txt.join " " ws).length ≤ 100000 := by
  have := StrLaws.join_length_le " " ws
  have e1 : Txt.join " " ws = Str.join " " ws := StrLaws.glued_eq_join ..
  have n2 : (" " : Str).length = 1 := by decide +kernel
  rw [n2] at this
  have e2 : (ws.map fun w => w.length + 1).sum = (ws.map (·.length)).sum + ws.length := by
   clear this hl hj hs hjl e1
   induction ws with
   | nil => rfl
   | cons w ws ih => simp [ih]; omega
  rw [e1]; omega
 have n1 : ("(" : Str).length = 1 := by decide +kernel
 have n3 : (")" : Str).length = 1 := by decide +kernel
 have ej : yf (.str " ") [.con (ws.map .str)] G = .ok (.str (Txt.join " " ws)) G := by
  simp [yf, dh, hs, hj]
 generalize Txt.join " " ws = j at hjl hlen ej
 obtain ⟨t1, e1, c1, k1⟩ := kO "(" j G (by omega)
 obtain ⟨t2, e2, c2, k2⟩ := kO t1 ")" G (by omega)
 have ht : t2 = aA (40 :: cH [32] (ws.map fun w => w.cps.toList) ++ [41]) := by
  apply qW
  rw [c2, c1, hjl, dR]
  rfl
 rw [← ht]
 unfold cX
 refine bx ?_ aG
 dsimp! [o7, ej, e1, e2]
end K13
end
section
set_option Elab.async false
set_option linter.all false
set_option maxRecDepth 100000
set_option maxHeartbeats 1000000
namespace K13
open PySem PySem.Spec L2 L3
theorem qG : ∀ (ps : List (List Nat)) (p : List Nat), cH [32] (p :: ps) = p ++ ps.flatMap (fun q => 32 :: q)
 | [], p => by simp [cH]
 | q :: ps, p => by
  rw [cH, qG ps q]
  simp
theorem LH (a b : List D) (G : DH) : bH (.con a) (.con b) G = dg (a ++ b) G := by simp [bH, vR]
theorem Ah {i : Itm} (h : i.Ok) (G : DH) : gE [i.D] G = .ok (.str (aA i.L)) G := by
 have h8 := h.nm.le
 have hh := Cq (i := i)
 have b := oQ [aA i.nm, aA [48 + i.lo], aA (hiL i.hi)] (by simp [di]; omega) G
 have hL : 40 :: cH [32] ([aA i.nm, aA [48 + i.lo], aA (hiL i.hi)].map fun w => w.cps.toList) ++ [41] = i.L := by
  simp [dR, cH, Itm.L]
 rw [hL] at b
 simp only [List.map_cons, List.map_nil] at b
 have d1 := u6 i.lo h.lo G
 have z3 : (3 : Nat) ≤ sizeLine := lz (by omega)
 have f3 : ∀ x y z : Str, (dg [.str x, .str y, .str z] G).fw G = .ok (.con [.str x, .str y, .str z]) G := fun x y z => dH (by simpa using z3) rfl
 unfold gE
 refine bx ?_ aG
 cases e : i.hi with
 | none =>
  rw [e] at b
  have b' : cX [.con [.str (aA i.nm), .str (aA [48 + i.lo]), .str "many"]] G = .ok (.str (aA i.L)) G := b
  simp! [iZ, Itm.D, e, EB, Pz, OV, a32, d1, Av, iW, f3, b']
 | some n =>
  rw [e] at b
  have d2 := u6 n (h.hi n e).2 G
  have b' : cX [.con [.str (aA i.nm), .str (aA [48 + i.lo]), .str (aA [48 + n])]] G = .ok (.str (aA i.L)) G := b
  simp! [iZ, Itm.D, e, EB, Pz, OV, a32, d1, d2, Av, iW, f3, b']
theorem Dq : ∀ its : List Itm, (∀ i ∈ its, i.Ok) → (its.map fun i => i.L.length + 1).sum ≤ 18 * its.length
 | [], _ => by simp
 | i :: its, h => by
  have := Dq its fun j hj => h j (by simp [hj])
  have := Ac (h i (by simp))
  simp only [List.map_cons, List.sum_cons, List.length_cons]; omega
theorem Ai {r : Rl} (h : r.Ok) (G : DH) : gH [r.D] G = .ok (.str (aA r.L)) G := by
 have h1 := h.nm.le
 have h2 := h.kd.le
 have h3 := h.le
 have hs := Dq r.its h.its
 have n4 : ("rule" : Str).length = 4 := by decide +kernel
 have b := oQ ("rule" :: aA r.nm :: aA r.kd :: aA (gw r.mix) :: r.its.map fun i => aA i.L) (by
  simp only [List.map_cons, List.map_map, List.sum_cons, di, Ad, n4]
  have e : (r.its.map ((fun w : Str => w.length + 1) ∘ fun i => aA i.L)) = r.its.map fun i => i.L.length + 1 := List.map_congr_left fun i _ => by simp [di]
  rw [e]; omega) G
 have hL : 40 :: cH [32] ((("rule" : Str) :: aA r.nm :: aA r.kd :: aA (gw r.mix) :: r.its.map fun i => aA i.L).map fun w => w.cps.toList) ++ [41] = r.L := by
  simp only [List.map_cons, qG, List.flatMap_cons, List.map_map, dR]
  have e : (r.its.map ((fun w : Str => w.cps.toList) ∘ fun i => aA i.L)) = r.its.map fun i => i.L := List.map_congr_left fun i _ => dR _
  rw [e]
  show 40 :: ([114, 117, 108, 101] ++ _) ++ [41] = _
  simp [Rl.L, List.flatMap_map]
 rw [hL] at b
 simp only [List.map_cons, List.map_map] at b
 have hc := eO (gO := oN) (ks := []) (tt := nH) (te := bD 1 gE (ah (ai 0) (aB))) (own := fun i : Itm => [i.D]) (dat := Itm.D) (f := fun i => D.str (aA i.L)) (c := fun _ => true) (G := G) (τ := [some r.D]) r.its [] (by simp; omega) (fun _ _ => rfl) (fun i hi acc => rfl) (fun i hi acc => by
  have e := Ah (h.its i hi) (G ++ [.lst acc])
  simp! [mask, e])
 rw [List.nil_append, List.filter_eq_self.mpr (fun _ _ => rfl)] at hc
 have hcl : aV (r.its.map fun i => D.str (aA i.L)) = true := bL fun _ => aG
 have z4 : (4 : Nat) ≤ sizeLine := lz (by omega)
 have f4 : ∀ x y z w : Str, (dg [.str x, .str y, .str z, .str w] G).fw G = .ok (.con [.str x, .str y, .str z, .str w]) G := fun x y z w => dH (by simpa using z4) rfl
 have LI : aV (.str "rule" :: .str (aA r.nm) :: .str (aA r.kd) :: .str (aA (gw r.mix)) :: r.its.map fun i => D.str (aA i.L)) = true := by simp [bS, aG, hcl]
 have hz : (D.str "rule" :: .str (aA r.nm) :: .str (aA r.kd) :: .str (aA (gw r.mix)) :: r.its.map fun i => D.str (aA i.L)).length ≤ sizeLine := lz (by simp; omega)
 have f5 := dH (G := G) hz LI
 have b' : cX [.con (.str "rule" :: .str (aA r.nm) :: .str (aA r.kd) :: .str (aA (gw r.mix)) :: r.its.map fun i => D.str (aA i.L))] G = .ok (.str (aA r.L)) G := b
 have es : r.D = .tup [.str (aA r.nm), .str (aA r.kd), .str (aA (gw r.mix)), .tup (r.its.map Itm.D)] := rfl
 rw [es] at hc
 unfold gH
 refine bx ?_ aG
 dsimp! [kj, es, UE, UG, UH, Sm, iW, f4, hc, mq hcl, LH, f5, b']
theorem Dr : ∀ rls : List Rl, (∀ i ∈ rls, i.Ok) → (rls.map fun i => i.L.length + 1).sum ≤ 100 * rls.length
 | [], _ => by simp
 | i :: its, h => by
  have := Dr its fun j hj => h j (by simp [hj])
  have := Cr (h i (by simp))
  simp only [List.map_cons, List.sum_cons, List.length_cons]; omega
theorem IW {s : m7} (h : s.Ok) (G : DH) : gZ [s.D] G = .ok (.str (aA s.L)) G := by
 have h1 := h.st.le
 have h3 := h.le
 have hs := Dr s.rls h.rls
 have n4 : ("start" : Str).length = 5 := by decide +kernel
 have b := oQ ("start" :: aA s.st :: s.rls.map fun i => aA i.L) (by
  simp only [List.map_cons, List.map_map, List.sum_cons, di, n4]
  have e : (s.rls.map ((fun w : Str => w.length + 1) ∘ fun i => aA i.L)) = s.rls.map fun i => i.L.length + 1 := List.map_congr_left fun i _ => by simp [di]
  rw [e]; omega) G
 have hL : 40 :: cH [32] ((("start" : Str) :: aA s.st :: s.rls.map fun i => aA i.L).map fun w => w.cps.toList) ++ [41] = s.L := by
  simp only [List.map_cons, qG, List.flatMap_cons, List.map_map, dR]
  have e : (s.rls.map ((fun w : Str => w.cps.toList) ∘ fun i => aA i.L)) = s.rls.map fun i => i.L := List.map_congr_left fun i _ => dR _
  rw [e]
  show 40 :: ([115, 116, 97, 114, 116] ++ _) ++ [41] = _
  simp [m7.L, List.flatMap_map]
 rw [hL] at b
 simp only [List.map_cons, List.map_map] at b
 have hc := eO (gO := oN) (ks := []) (tt := nH) (te := bD 1 gH (ah (ai 0) (aB))) (own := fun i : Rl => [i.D]) (dat := Rl.D) (f := fun i => D.str (aA i.L)) (c := fun _ => true) (G := G) (τ := [some s.D]) s.rls [] (by simp; omega) (fun _ _ => rfl) (fun i hi acc => rfl) (fun i hi acc => by
  have e := Ai (h.rls i hi) (G ++ [.lst acc])
  simp! [mask, e])
 rw [List.nil_append, List.filter_eq_self.mpr (fun _ _ => rfl)] at hc
 have hcl : aV (s.rls.map fun i => D.str (aA i.L)) = true := bL fun _ => aG
 have z2 : (2 : Nat) ≤ sizeLine := lz (by omega)
 have f4 : ∀ x y : Str, (dg [.str x, .str y] G).fw G = .ok (.con [.str x, .str y]) G := fun x y => dH (by simpa using z2) rfl
 have LI : aV (.str "start" :: .str (aA s.st) :: s.rls.map fun i => D.str (aA i.L)) = true := by simp [bS, aG, hcl]
 have hz : (D.str "start" :: .str (aA s.st) :: s.rls.map fun i => D.str (aA i.L)).length ≤ sizeLine := lz (by simp; omega)
 have f5 := dH (G := G) hz LI
 have b' : cX [.con (.str "start" :: .str (aA s.st) :: s.rls.map fun i => D.str (aA i.L))] G = .ok (.str (aA s.L)) G := b
 have es : s.D = .tup [.str (aA s.st), .tup (s.rls.map Rl.D)] := rfl
 rw [es] at hc
 unfold gZ
 refine bx ?_ aG
 dsimp! [ju, es, Pp, Ox, iW, f4, hc, mq hcl, LH, f5, b']
end K13
end
section
set_option Elab.async false
set_option linter.all false
set_option maxRecDepth 100000
set_option maxHeartbeats 1000000
namespace K13
open PySem PySem.Spec L2 L3
theorem Ew (ns pre : List Int) (G : DH) (k : Nat) (m : Int) (c : Option D) (hl : ns.length ≤ 63) (hp : pre.length ≤ 1000) :
  ∃ (x : Int) (c' : Option D), gq [some (.con (ns.map .int)), some (.int m), some (.obj G.length), some (.int (0 + (k : Int))), c] (G ++ [.lst (pre.map .int)]) =
   .nx [some (.con (ns.map .int)), some (.int m), some (.obj G.length), some (.int (0 + (k : Int))), c'] (G ++ [.lst ((pre ++ [x]).map .int)]) := by
 have LW : pre.length < sizeLine := Nat.lt_of_lt_of_le (by omega) (lz (n := 2000) (by omega))
 by_cases h0 : 0 < ns.length
 ·have hm : (0 : Int) ≤ (k : Int) % (ns.length : Int) ∧ (k : Int) % (ns.length : Int) < ns.length := ⟨Int.emod_nonneg _ (by omega), Int.emod_lt_of_pos _ (by omega)⟩
  obtain ⟨d, ed, Sn⟩ := vK (xs := ns.map D.int) (i := (k : Int) % (ns.length : Int)) hm.1 (by simpa using hm.2)
  obtain ⟨v, ev⟩ : ∃ v, d = .int v := by
   have := List.mem_of_getElem? Sn
   simp at this
   obtain ⟨v, _, rfl⟩ := this
   exact ⟨v, rfl⟩
  subst ev
  have Xk : (if 1 < ns.length then (ns.length : Int) else 1) = ns.length := by split <;> omega
  have hlt : ns.length < 1073741824 := by omega
  have So : (if (1 : Int) < (ns.length : Int) then (ns.length : Int) else 1) = ns.length := by split <;> omega
  have Sq : (ns.length : Int) < 1073741824 := by omega
  have Xl : (0 : Int) < (ns.length : Int) := by omega
  refine ⟨v % 1000000000000000000 + 7919 * ((k : Int) / (ns.length : Int)), some (.int (v % 1000000000000000000)), ?_⟩
  simp! [gq, h0, ed, Xk, hlt, LW, So, Sq, Xl, BY, Jp]
 ·have h1 : ns = [] := by
   cases ns with
   | nil => rfl
   | cons a r => exact absurd (by simp) h0
  subst h1
  refine ⟨0 + 7919 * ((k : Int) / 1), some (.int 0), ?_⟩
  simp! [gq, LW, BY, Jp]
theorem wM (ns : List Int) (G : DH) (mm : Int) (hl : ns.length ≤ 63) : ∀ (m j : Nat) (pre : List Int) (a3 a4 : Option D), pre.length + m ≤ 1000 →
  ∃ (ds : List Int) (b3 b4 : Option D), ds.length = m ∧ dX (gN 3) gq ((List.range' j m).map fun (k : Nat) => .int (0 + (k : Int))) [some (.con (ns.map .int)), some (.int mm), some (.obj G.length), a3, a4] (G ++ [.lst (pre.map .int)]) =
   .nx [some (.con (ns.map .int)), some (.int mm), some (.obj G.length), b3, b4] (G ++ [.lst ((pre ++ ds).map .int)])
 | 0, j, pre, a3, a4, h => ⟨[], a3, a4, rfl, by simp [dX]⟩
 | m + 1, j, pre, a3, a4, h => by
  obtain ⟨x, c', e⟩ := Ew ns pre G j mm a4 hl (by omega)
  obtain ⟨ds, b3, b4, hd, ih⟩ := wM ns G mm hl m (j + 1) (pre ++ [x]) (some (.int (0 + (j : Int)))) c' (by simp; omega)
  refine ⟨x :: ds, b3, b4, by simp [hd], ?_⟩
  rw [List.range'_succ, List.map_cons, d8 rfl]
  simp only [List.set_cons_succ, List.set_cons_zero, e, lg]
  rw [ih]
  simp
theorem GI (ns : List Int) (m : Nat) (hm : m ≤ 900) (hl : ns.length ≤ 63) (G : DH) : ∃ ds : List Int, ds.length = m ∧ fY [.con (ns.map .int), .int m] G = .ok (.con (ds.map .int)) G := by
 obtain ⟨ds, b3, b4, hd, e⟩ := wM ns G m hl m 0 [] none none (by simp; omega)
 refine ⟨ds, hd, ?_⟩
 have hr := oZ (j := (m : Int)) (by omega) (by omega)
 rw [Int.toNat_natCast] at hr
 unfold fY
 refine ri (R := [.dead]) ?_ (by rw [vS]; exact bL fun _ => jQ)
 generalize ((List.range' 0 m).map fun (k : Nat) => D.int (0 + (k : Int))) = its at hr e
 simp only [List.map_nil, List.nil_append] at e
 simp! [jl, hr, e, FU, dg]
theorem Ds (i : Int) (G : DH) : fu (.str iA) (.int (i % 26)) G = .ok (.str (aA [97 + (i % 26).toNat])) G := by
 have Si : ∀ k < 26, iA.cps.toList[k]? = some (97 + k) := by decide +kernel
 have hk := Si (i % 26).toNat (by omega)
 have ha : i8 iA.cps.toList (i % 26) = some (97 + (i % 26).toNat) := by
  have := lS hk
  rwa [show (((i % 26).toNat : Nat) : Int) = i % 26 by omega] at this
 have hz : iA.length ≤ sizeLine := lz (by decide +kernel)
 simp only [fu, dh, hz, if_true, ha]
 rfl
theorem yF (c : Int) : ∀ (m j : Nat) (l : List Nat) (a3 a4 a5 : Option D), j + m ≤ 7 → l.length = j + 1 → (∀ x ∈ l, 97 ≤ x ∧ x ≤ 122) →
  ∃ (l' : List Nat) (b3 b4 : Option D), l'.length = j + m + 1 ∧ (∀ x ∈ l', 97 ≤ x ∧ x ≤ 122) ∧ ∀ G, dX (gN 3) gU ((List.range' j m).map fun (k : Nat) => .int (0 + (k : Int))) [some (.int c), some (.str iA), some (.str (aA l)), a3, a4, a5] G = .nx [some (.int c), some (.str iA), some (.str (aA l')), b3, b4, a5] G
 | 0, j, l, a3, a4, a5, h, k1, k2 => ⟨l, a3, a4, by omega, k2, fun G => by simp [dX]⟩
 | m + 1, j, l, a3, a4, a5, h, k1, k2 => by
  have es := Ds (c / 208 + 7 * (j : Int) * (j : Int) + c / 5408 % 26 * (j : Int))
  generalize hv : (c / 208 + 7 * (j : Int) * (j : Int) + c / 5408 % 26 * (j : Int)) = v at es
  have hd : 97 ≤ 97 + (v % 26).toNat ∧ 97 + (v % 26).toNat ≤ 122 := by omega
  have ha : ∀ G, bH (.str (aA l)) (.str (aA [97 + (v % 26).toNat])) G = .ok (.str (aA (l ++ [97 + (v % 26).toNat]))) G := fun G => by
   obtain ⟨t, e, hc, _⟩ := kO (aA l) (aA [97 + (v % 26).toNat]) G (by rw [di, di]; simp; omega)
   rw [e]
   have : t = aA (l ++ [97 + (v % 26).toNat]) := qW (by rw [hc, dR, dR, dR])
   rw [this]
  obtain ⟨l', b3, b4, ku, lu, ih⟩ := yF c m (j + 1) (l ++ [97 + (v % 26).toNat]) (some (.int (0 + (j : Int)))) (some (.int v)) a5 (by omega) (by simp; omega) (fun x hx => by
   rcases List.mem_append.mp hx with hx | hx
   ·exact k2 x hx
   ·simp at hx; omega)
  refine ⟨l', b3, b4, by omega, lu, fun G => ?_⟩
  have hjl : -18446744073709551616 < (j : Int) := by omega
  have Ss : (j : Int) < 18446744073709551616 := by omega
  have e : gU [some (.int c), some (.str iA), some (.str (aA l)), some (.int (0 + (j : Int))), a4, a5] G = .nx [some (.int c), some (.str iA), some (.str (aA (l ++ [97 + (v % 26).toNat]))), some (.int (0 + (j : Int))), some (.int v), a5] G := by
   simp [gU, jb, sR, vL, nX, BZ, tX, b7, jh, yh, Nh, yg, ni, hv, es, ha, hjl, Ss]
  rw [List.range'_succ, List.map_cons, d8 rfl]
  simp only [List.set_cons_succ, List.set_cons_zero, e, lg]
  exact ih G
theorem LJ : ∀ w ∈ words, words.any (· == aA (w.cps.toList ++ [122])) = false ∧ w.cps.toList.length ≤ 7 := by decide +kernel
theorem IX (c : Int) : ∃ l : List Nat, Nm l ∧ ∀ G, cI [.int c] G = .ok (.str (aA l)) G := by
 obtain ⟨l, b3, b4, ku, lu, e⟩ := yF c (c / 26 % 8).toNat 0 [97 + (c % 26).toNat] none none none (by omega) rfl (by simp; omega)
 have es := Ds c
 have hr := oZ (j := c / 26 % 8) (by omega) (by omega)
 generalize ((List.range' 0 (c / 26 % 8).toNat).map fun (k : Nat) => D.int (0 + (k : Int))) = its at hr e
 have hg : PyData.strOk (aA l) = true := uC fun x hx => by have := lu x hx; omega
 have hin := fun G => qV (aA l) words G hg (by decide +kernel)
 have hcl : aV (words.map D.str) = true := bL fun _ => aG
 have hfw := fun G => dH (G := G) (ds := words.map D.str) (lz (by simp [words])) hcl
 have OW : l.length ≤ 8 := by omega
 have hne : l ≠ [] := fun z => by rw [z] at ku; simp at ku
 have es' : ∀ G, fu (.str "abcdefghijklmnopqrstuvwxyz") (.int (c % 26)) G = .ok (.str (aA [97 + (c % 26).toNat])) G := es
 have e' : ∀ G, dX (gN 3) gU its [some (.int c), some (.str "abcdefghijklmnopqrstuvwxyz"), some (.str (aA [97 + (c % 26).toNat])), none, none, none] G = .nx [some (.int c), some (.str "abcdefghijklmnopqrstuvwxyz"), some (.str (aA l)), b3, b4, none] G := e
 cases hb : words.any (· == aA l) with
 | true =>
  obtain ⟨w, hw, Xm⟩ := List.any_eq_true.mp hb
  have Su : w = aA l := by simpa using Xm
  obtain ⟨z1, z2⟩ := LJ w hw
  rw [Su, dR] at z1 z2
  refine ⟨l ++ [122], ⟨by simp, by simp; omega, fun x hx => ?_, z1⟩, fun G => ?_⟩
  ·rcases List.mem_append.mp hx with hx | hx
   ·exact lu x hx
   ·simp at hx; omega
  ·obtain ⟨t, et, hc, _⟩ := kO (aA l) "z" G (by rw [di, show ("z" : Str).length = 1 by decide +kernel]; omega)
   have ht : t = aA (l ++ [122]) := qW (by rw [hc, dR, dR]; rfl)
   rw [ht] at et
   have Cu := hin G
   have GJ := hfw G
   rw [hb] at Cu
   simp only [words, List.map_cons, List.map_nil] at Cu GJ
   unfold cI
   refine bx ?_ aG
   simp [iY, zl, jb, sR, vL, nX, BZ, tX, b7, jh, yh, et, yg, ni, es', o4, uW, vM, C1, hr, e', mD, iW, uV, GJ, AG, AH, xV, dh, Cu, vN, FG, FH, zk, CW, CU, C3, uU]
 | false =>
  refine ⟨l, ⟨hne, OW, lu, hb⟩, fun G => ?_⟩
  have Cu := hin G
  have GJ := hfw G
  rw [hb] at Cu
  simp only [words, List.map_cons, List.map_nil] at Cu GJ
  unfold cI
  refine bx ?_ aG
  simp [iY, zl, jb, sR, vL, nX, BZ, tX, b7, jh, yh, yg, ni, es', o4, uW, vM, C1, hr, e', mD, iW, uV, GJ, AG, AH, xV, dh, Cu, vN, FG, FH, zk, CW, CU, C3, uU]
end K13
end
section
set_option Elab.async false
set_option linter.all false
set_option maxRecDepth 100000
set_option maxHeartbeats 1000000
namespace K13
open PySem PySem.Spec L2 L3
noncomputable def cJ (ps : List (List Nat)) : List D := ps.map fun l => .str (aA l)
theorem u7 (ps : List (List Nat)) (h : ∀ l ∈ ps, Nm l) (hn : ps ≠ []) (v : Int) : ∃ l, Nm l ∧ i8 (cJ ps) (v % (ps.length : Int)) = some (.str (aA l)) := by
 have hp : 0 < ps.length := List.length_pos_iff.mpr hn
 have h0 : 0 ≤ v % (ps.length : Int) := Int.emod_nonneg _ (by omega)
 have h1 : v % (ps.length : Int) < ps.length := Int.emod_lt_of_pos _ (by omega)
 obtain ⟨d, e, e'⟩ := vK (xs := cJ ps) h0 (by simpa [cJ] using h1)
 have := List.mem_of_getElem? e'
 obtain ⟨l, hl, rfl⟩ := List.mem_map.mp this
 exact ⟨l, h l hl, e⟩
theorem Ex (c : Int) (ps : List (List Nat)) (h : ∀ l ∈ ps, Nm l) (hn : ps ≠ []) (hl : ps.length ≤ 1000) : ∃ i : Itm, i.Ok ∧ ∀ G, gD [.int c, .con (cJ ps)] G = .ok i.D G := by
 obtain ⟨l, OW, el⟩ := u7 ps h hn (c / 12)
 have z4 : (4 : Nat) ≤ sizeLine := lz (by omega)
 have z3 : (3 : Nat) ≤ sizeLine := lz (by omega)
 have hz : ps.length ≤ sizeLine := lz (by omega)
 have hsl : (cJ ps).length = ps.length := by simp [cJ]
 have hpos : 0 < ps.length := List.length_pos_iff.mpr hn
 have hp0 : ¬ (ps.length : Int) = 0 := by omega
 have S2 : ((ps.length : Int) == 0) = false := beq_eq_false_iff_ne.mpr hp0
 have UI : ¬ ps.length = 0 := by omega
 obtain ⟨lo, hlo, hle⟩ : ∃ lo : Nat, c % 3 = lo ∧ lo ≤ 2 := ⟨(c % 3).toNat, by omega, by omega⟩
 have f4 : ∀ (G : DH) (x y z w : D), x.closed = true → y.closed = true → z.closed = true → w.closed = true → (dg [x, y, z, w] G).fw G = .ok (.con [x, y, z, w]) G := fun G x y z w h1 h2 h3 h4 => dH (by simpa using z4) (by simp [bS, cU, h1, h2, h3, h4])
 have hq : c / 3 % 4 = 0 ∨ c / 3 % 4 = 1 ∨ c / 3 % 4 = 2 ∨ c / 3 % 4 = 3 := by omega
 have g4 := fun G => f4 G .gg (.int lo) (.int 2) (.int ((lo : Int) + (2 - (lo : Int)) / 2)) rfl rfl rfl rfl
 have hhi : lo ≤ lo + (2 - lo) / 2 ∧ lo + (2 - lo) / 2 ≤ 2 := by omega
 have Xn : (lo : Int) + (2 - (lo : Int)) / 2 = ((lo + (2 - lo) / 2 : Nat) : Int) := by omega
 have fin : ∀ (hi : Option Nat) (q : Int), c / 3 % 4 = q → (∀ n, hi = some n → lo ≤ n ∧ n ≤ 2) → i8 [D.gg, .int lo, .int 2, .int ((lo : Int) + (2 - (lo : Int)) / 2)] q = some (EB hi) → ∃ i : Itm, i.Ok ∧ ∀ G, gD [.int c, .con (cJ ps)] G = .ok i.D G := fun hi q hq h1 h2 => by
  refine ⟨⟨l, lo, hi⟩, ⟨OW, hle, h1⟩, fun G => ?_⟩
  have gG := g4 G
  unfold gD
  refine bx ?_ (yx _)
  dsimp! [kc, hlo, hq, iW, gG, h2, hsl, hz, hpos, el, z3, Itm.D]
 rcases hq with hq | hq | hq | hq
 ·exact fin none 0 hq (fun n e => nomatch e) UE
 ·exact fin (some lo) 1 hq (fun n e => by cases e; omega) UG
 ·exact fin (some 2) 2 hq (fun n e => by cases e; omega) UH
 ·exact fin (some (lo + (2 - lo) / 2)) 3 hq (fun n e => by cases e; exact hhi) (by rw [Sm, Xn]; rfl)
theorem Dt (cs : List Int) (hn : cs ≠ []) (v : Int) : ∃ x, i8 (cs.map D.int) (v % (cs.length : Int)) = some (.int x) := by
 have hp : 0 < cs.length := List.length_pos_iff.mpr hn
 have h0 : 0 ≤ v % (cs.length : Int) := Int.emod_nonneg _ (by omega)
 have h1 : v % (cs.length : Int) < cs.length := Int.emod_lt_of_pos _ (by omega)
 obtain ⟨d, e, e'⟩ := vK (xs := cs.map D.int) h0 (by simpa using h1)
 have := List.mem_of_getElem? e'
 obtain ⟨l, hl, rfl⟩ := List.mem_map.mp this
 exact ⟨l, e⟩
theorem yG (cs : List Int) (hc : cs ≠ []) (hcl : cs.length ≤ 1000) (at_ : Int) (ps : List (List Nat)) (h : ∀ l ∈ ps, Nm l) (hn : ps ≠ []) (hl : ps.length ≤ 1000) (a3 a6 : Option D) : ∀ (m j : Nat) (a5 : Option D), j + m ≤ 3 →
  ∃ (its : List Itm) (b5 : Option D), (∀ i ∈ its, i.Ok) ∧ its.length = m ∧ ∀ (G : DH) (pre : List D), pre.length + m ≤ 1000 → dX (gN 5) jn ((List.range' j m).map fun (k : Nat) => .int (0 + (k : Int))) [some (.con (cs.map .int)), some (.int at_), some (.con (cJ ps)), a3, some (.obj G.length), a5, a6] (G ++ [.lst pre]) =
   .nx [some (.con (cs.map .int)), some (.int at_), some (.con (cJ ps)), a3, some (.obj G.length), b5, a6] (G ++ [.lst (pre ++ its.map Itm.D)])
 | 0, j, a5, _ => ⟨[], a5, by simp, rfl, fun G pre _ => by simp [dX]⟩
 | m + 1, j, a5, hm => by
  obtain ⟨x, ex⟩ := Dt cs hc (at_ + 1 + (j : Int))
  obtain ⟨i, io, ei⟩ := Ex (x / (4 + (j : Int))) ps h hn hl
  obtain ⟨its, b5, ho, hlen, ih⟩ := yG cs hc hcl at_ ps h hn hl a3 a6 m (j + 1) (some (.int (0 + (j : Int)))) (by omega)
  refine ⟨i :: its, b5, fun q hq => ?_, by simp [hlen], fun G pre hp => ?_⟩
  ·rcases List.mem_cons.mp hq with rfl | hq
   ·exact io
   ·exact ho q hq
  ·have hpos : 0 < cs.length := List.length_pos_iff.mpr hc
   have hz : cs.length ≤ sizeLine := lz (by omega)
   have LW : pre.length < sizeLine := Nat.lt_of_lt_of_le (by omega) (lz (n := 2000) (by omega))
   have h4 : (0 : Int) < 4 + (j : Int) := by omega
   have Xo : 4 + (j : Int) < 1073741824 := by omega
   have Xp := ei (G ++ [.lst pre])
   have e : jn [some (.con (cs.map .int)), some (.int at_), some (.con (cJ ps)), a3, some (.obj G.length), some (.int (0 + (j : Int))), a6] (G ++ [.lst pre]) = .nx [some (.con (cs.map .int)), some (.int at_), some (.con (cJ ps)), a3, some (.obj G.length), some (.int (0 + (j : Int))), a6] (G ++ [.lst (pre ++ [i.D])]) := by
    dsimp! [jn, hz, hpos, ex, h4, Xo, Xp, BY, Jp, LW]
   rw [List.range'_succ, List.map_cons, d8 rfl]
   simp only [List.set_cons_succ, List.set_cons_zero, e, lg]
   rw [ih G (pre ++ [i.D]) (by simp; omega)]
   simp
theorem Ey (cs : List Int) (hc : cs ≠ []) (hcl : cs.length ≤ 1000) (at_ : Int) (ps ks : List (List Nat)) (h : ∀ l ∈ ps, Nm l) (hn : ps ≠ []) (hl : ps.length ≤ 1000) (h' : ∀ l ∈ ks, Nm l) (hn' : ks ≠ []) (hl' : ks.length ≤ 1000) :
  ∃ r : Rl, r.Ok ∧ ∀ G, i0 [.con (cs.map .int), .int at_, .con (cJ ps), .con (cJ ks)] G = .ok r.D G := by
 obtain ⟨x, ex⟩ := Dt cs hc at_
 obtain ⟨its, b5, ho, hlen, e⟩ := yG cs hc hcl at_ ps h hn hl (some (.con (cJ ks))) none (x % 4).toNat 0 none (by omega)
 obtain ⟨l1, o1, e1⟩ := u7 ps h hn (x / 4)
 obtain ⟨l2, o2, e2⟩ := u7 ks h' hn' (x / 4 / 7)
 obtain ⟨mix, hmix⟩ : ∃ mix : Bool, i8 [D.str "row", .str "mix"] (x / 4 / 49 % 2) = some (.str (aA (gw mix))) := by
  rcases (by omega : x / 4 / 49 % 2 = 0 ∨ x / 4 / 49 % 2 = 1) with q | q
  ·exact ⟨false, by rw [q]; rfl⟩
  ·exact ⟨true, by rw [q]; rfl⟩
 refine ⟨⟨l1, l2, mix, its⟩, ⟨o1, o2, ho, by show its.length ≤ 3; omega⟩, fun G => ?_⟩
 have hr := oZ (j := x % 4) (by omega) (by omega)
 have eG := e G [] (by simp; omega)
 generalize ((List.range' 0 (x % 4).toNat).map fun (k : Nat) => D.int (0 + (k : Int))) = rg at hr eG
 have hpos : 0 < cs.length := List.length_pos_iff.mpr hc
 have hz : cs.length ≤ sizeLine := lz (by omega)
 have hpp : 0 < ps.length := List.length_pos_iff.mpr hn
 have hpk : 0 < ks.length := List.length_pos_iff.mpr hn'
 have Xq : ps.length ≤ sizeLine := lz (by omega)
 have Xr : ks.length ≤ sizeLine := lz (by omega)
 have hsl : (cJ ps).length = ps.length := by simp [cJ]
 have Xs : (cJ ks).length = ks.length := by simp [cJ]
 have z4 : (4 : Nat) ≤ sizeLine := lz (by omega)
 have z2 : (2 : Nat) ≤ sizeLine := lz (by omega)
 have Xu : its.length ≤ sizeLine := lz (by omega)
 have f2 : ∀ (G : DH) (x y : Str), (dg [.str x, .str y] G).fw G = .ok (.con [.str x, .str y]) G := fun G x y => dH (by simpa using z2) rfl
 unfold i0
 refine ri (R := [.lst (its.map Itm.D)]) ?_ (Er _)
 rw [List.nil_append] at eG
 have n0 : dg [] G = .ok (.obj G.length) (G ++ [.lst []]) := by simp [dg]
 dsimp! [kh, n0, hz, hpos, ex, hr, eG, rC, hsl, Xs, Xq, Xr, hpp, hpk, e1, e2, iW, f2, hmix, kE, BY, Xu, z4, Rl.D]
end K13
end
section
set_option Elab.async false
set_option linter.all false
set_option maxRecDepth 100000
set_option maxHeartbeats 1000000
namespace K13
open PySem PySem.Spec L2 L3
noncomputable def Ch (x : Str) : Prop := ∀ c ∈ x.cps.toList, c < 1114112
theorem jH (x z : Str) (c k : Nat) (zs : List Str) (v : Int) (hx : Ch x) (hl : x.length ≤ 100000) (hv : 0 ≤ v ∧ v < 1000) (hz : zs[v.toNat]? = some z) (hk : z.length ≤ k) (hk1 : 1 ≤ k) (hk2 : k ≤ 10) (Xv : ∀ a ∈ z.cps.toList, a < 1114112) (Sv : ∀ y cur, bh cur (rp c z.cps.toList y) = bh cur y) :
  ∃ y : Str, (∀ G, jR ⟨#[c]⟩ zs x (.int v) G = .ok (.str y) G) ∧ bh [] y.cps.toList = bh [] x.cps.toList ∧ Ch y ∧ y.length ≤ k * x.length := by
 refine ⟨Txt.replace x ⟨#[c]⟩ z, fun G => Iz hv hz (by omega) (by omega), ?_, ?_, ?_⟩
 ·rw [jK, Sv]
 ·intro a ha
  rw [jK] at ha
  rcases Ae ha with h | h
  ·exact Xv a h
  ·exact hx a h
 ·rw [str_len, str_len, jK]
  exact vV c k _ (by rw [← str_len]; exact hk) hk1 _
theorem GK (x : Str) (hx : Ch x) (hl : x.length ≤ 100000) (v : Int) : ∃ y : Str, (∀ G, jR " " [" ", "  ", "\n "] x (.int (v % 3)) G = .ok (.str y) G) ∧ bh [] y.cps.toList = bh [] x.cps.toList ∧ Ch y ∧ y.length ≤ 4 * x.length := by
 rcases (by omega : v % 3 = 0 ∨ v % 3 = 1 ∨ v % 3 = 2) with q | q | q <;> rw [q]
 ·exact jH x " " 32 4 _ 0 hx hl (by omega) rfl (by decide +kernel) (by omega) (by omega) (by decide +kernel) (fun y cur => B6 _ (.inl rfl) y cur)
 ·exact jH x "  " 32 4 _ 1 hx hl (by omega) rfl (by decide +kernel) (by omega) (by omega) (by decide +kernel) (fun y cur => B6 _ (.inr (.inl rfl)) y cur)
 ·exact jH x "\n " 32 4 _ 2 hx hl (by omega) rfl (by decide +kernel) (by omega) (by omega) (by decide +kernel) (fun y cur => B6 _ (.inr (.inr rfl)) y cur)
theorem GL (x : Str) (hx : Ch x) (hl : x.length ≤ 100000) (v : Int) : ∃ y : Str, (∀ G, jR "(" ["( ", "\n(", " ( "] x (.int (v % 3)) G = .ok (.str y) G) ∧ bh [] y.cps.toList = bh [] x.cps.toList ∧ Ch y ∧ y.length ≤ 4 * x.length := by
 rcases (by omega : v % 3 = 0 ∨ v % 3 = 1 ∨ v % 3 = 2) with q | q | q <;> rw [q]
 ·exact jH x "( " 40 4 _ 0 hx hl (by omega) rfl (by decide +kernel) (by omega) (by omega) (by decide +kernel) (fun y cur => B7 _ (.inl rfl) y cur)
 ·exact jH x "\n(" 40 4 _ 1 hx hl (by omega) rfl (by decide +kernel) (by omega) (by omega) (by decide +kernel) (fun y cur => B7 _ (.inr (.inl rfl)) y cur)
 ·exact jH x " ( " 40 4 _ 2 hx hl (by omega) rfl (by decide +kernel) (by omega) (by omega) (by decide +kernel) (fun y cur => B7 _ (.inr (.inr rfl)) y cur)
theorem GN (x : Str) (hx : Ch x) (hl : x.length ≤ 100000) (v : Int) : ∃ y : Str, (∀ G, jR ")" [" )", ")\n", "\n ) "] x (.int (v % 3)) G = .ok (.str y) G) ∧ bh [] y.cps.toList = bh [] x.cps.toList ∧ Ch y ∧ y.length ≤ 4 * x.length := by
 rcases (by omega : v % 3 = 0 ∨ v % 3 = 1 ∨ v % 3 = 2) with q | q | q <;> rw [q]
 ·exact jH x " )" 41 4 _ 0 hx hl (by omega) rfl (by decide +kernel) (by omega) (by omega) (by decide +kernel) (fun y cur => B8 _ (.inl rfl) y cur)
 ·exact jH x ")\n" 41 4 _ 1 hx hl (by omega) rfl (by decide +kernel) (by omega) (by omega) (by decide +kernel) (fun y cur => B8 _ (.inr (.inl rfl)) y cur)
 ·exact jH x "\n ) " 41 4 _ 2 hx hl (by omega) rfl (by decide +kernel) (by omega) (by omega) (by decide +kernel) (fun y cur => B8 _ (.inr (.inr rfl)) y cur)
theorem LL {i : Itm} (h : i.Ok) : ∀ c ∈ i.L, c < 1114112 := fun c hc => by
 simp only [Itm.L, List.mem_append, List.mem_cons, List.not_mem_nil, or_false] at hc
 have h1 := h.lo
 have h2 := fun x hx => h.nm.az x hx
 have h3 : ∀ x ∈ hiL i.hi, x < 1114112 := fun x hx => by
  cases e : i.hi with
  | none => rw [e] at hx; simp [hiL] at hx; omega
  | some n => rw [e] at hx; simp [hiL] at hx; have := (h.hi n e).2; omega
 rcases hc with ((hc | hc) | (hc | hc | hc | hc)) | hc
 all_goals first | omega | (have := h2 c hc; omega) | exact h3 c hc
theorem OX {r : Rl} (h : r.Ok) : ∀ c ∈ r.L, c < 1114112 := fun c hc => by
 simp only [Rl.L, List.mem_append, List.mem_cons, List.not_mem_nil, or_false, List.mem_flatMap] at hc
 have h2 := fun x hx => h.nm.az x hx
 have h3 := fun x hx => h.kd.az x hx
 have h4 : ∀ x ∈ gw r.mix, x < 1114112 := by cases r.mix <;> decide
 rcases hc with ((((hc | hc) | (hc | hc)) | (hc | hc)) | ⟨i, hi, hc⟩) | hc
 ·omega
 ·rcases hc with hc | hc | hc | hc | hc | hc <;> first | omega | (have := h2 c hc; omega)
 ·omega
 ·have := h3 c hc; omega
 ·omega
 ·exact h4 c hc
 ·rcases hc with hc | hc
  ·omega
  ·exact LL (h.its i hi) c hc
 ·omega
theorem Cv {s : m7} (h : s.Ok) : ∀ c ∈ s.L, c < 1114112 := fun c hc => by
 simp only [m7.L, List.mem_append, List.mem_cons, List.not_mem_nil, or_false, List.mem_flatMap] at hc
 have h2 := fun x hx => h.st.az x hx
 rcases hc with ((hc | hc) | ⟨i, hi, hc⟩) | hc
 ·omega
 ·rcases hc with hc | hc | hc | hc | hc | hc | hc <;> first | omega | (have := h2 c hc; omega)
 ·rcases hc with hc | hc
  ·omega
  ·exact OX (h.rls i hi) c hc
 ·omega
theorem GO {i : Itm} (h : i.Ok) : i.D.plain = true ∧ i.D.dp ≤ 10 := by
 have := h.nm.gd
 cases e : i.hi <;> simp [Itm.D, D.plain, gh, e, EB, this, D.dp, Dc]
theorem JC {r : Rl} (h : r.Ok) : r.D.plain = true ∧ r.D.dp ≤ 20 := by
 have h1 := h.nm.gd
 have h2 := h.kd.gd
 have h3 := GA r.mix
 have h4 : gh (r.its.map Itm.D) = true := sX fun x hx => by
  obtain ⟨i, hi, rfl⟩ := List.mem_map.mp hx
  exact (GO (h.its i hi)).1
 have h5 : Dc (r.its.map Itm.D) ≤ 10 := B4 fun x hx => by
  obtain ⟨i, hi, rfl⟩ := List.mem_map.mp hx
  exact (GO (h.its i hi)).2
 refine ⟨by simp [Rl.D, D.plain, gh, h1, h2, h3, h4], ?_⟩
 simp [Rl.D, D.dp, Dc]; omega
theorem GP {s : m7} (h : s.Ok) : s.D.plain = true ∧ s.D.dp ≤ 40 := by
 have h1 := h.st.gd
 have h4 : gh (s.rls.map Rl.D) = true := sX fun x hx => by
  obtain ⟨i, hi, rfl⟩ := List.mem_map.mp hx
  exact (JC (h.rls i hi)).1
 have h5 : Dc (s.rls.map Rl.D) ≤ 20 := B4 fun x hx => by
  obtain ⟨i, hi, rfl⟩ := List.mem_map.mp hx
  exact (JC (h.rls i hi)).2
 refine ⟨by simp [m7.D, D.plain, gh, h1, h4], ?_⟩
 simp [m7.D, D.dp, Dc]; omega
theorem GQ {s : m7} (h : s.Ok) (g : Bool) (G : DH) : nU g s.D s.D G = .ok (.bl (g ^^ true)) G := FY g s.D G (GP h).1 (by have := (GP h).2; omega)
end K13
end
section
set_option Elab.async false
set_option linter.all false
set_option maxRecDepth 100000
set_option maxHeartbeats 1000000
namespace K13
open PySem PySem.Spec L2 L3
theorem Cw (c : Int) : ∃ l : List Nat, Nm l ∧ ∀ G, cI [.int c] G = .ok (.str (aA l)) G := IX c
noncomputable def Du (c : Int) : List Nat := Classical.choose (Cw c)
theorem GR (c : Int) : Nm (Du c) := (Classical.choose_spec (Cw c)).1
theorem Dv (c : Int) (G : DH) : cI [.int c] G = .ok (.str (aA (Du c))) G := (Classical.choose_spec (Cw c)).2 G
noncomputable def tO (ds : List Int) (k : Nat) : Int := ds.getD k 0
theorem wN (ds : List Int) (k : Nat) (h : k < ds.length) : i8 (ds.map D.int) (k : Int) = some (.int (tO ds k)) := by
 unfold tO
 refine lS ?_
 rw [List.getElem?_map, List.getElem?_eq_getElem h]
 simp [List.getD, List.getElem?_eq_getElem h]
theorem IY (ds : List Int) (hd : ds.length = 12) (ps : List (List Nat)) (hp : ∀ l ∈ ps, Nm l) (hpl : ps.length = 4) (rls : List Rl) (hr : ∀ r ∈ rls, r.Ok) (hrl : rls.length ≤ 8) (Sw : rls ≠ []) (a0 a3 a4 a6 : Option D) :
  Cb [a0, some (.con (ds.map .int)), some (.con (cJ ps)), a3, a4, some (.obj 0), a6, none, none, none, none] [.lst (rls.map Rl.D)] = .rt (.bl true) [.lst (rls.map Rl.D)] := by
 have hne : ps ≠ [] := fun z => by rw [z] at hpl; simp at hpl
 have x8 : i8 (ds.map D.int) 8 = some (.int (tO ds 8)) := wN ds 8 (by omega)
 have x9 : i8 (ds.map D.int) 9 = some (.int (tO ds 9)) := wN ds 9 (by omega)
 have Sx : i8 (ds.map D.int) 10 = some (.int (tO ds 10)) := wN ds 10 (by omega)
 have Sy : i8 (ds.map D.int) 11 = some (.int (tO ds 11)) := wN ds 11 (by omega)
 generalize tO ds 8 = v8 at x8
 generalize tO ds 9 = v9 at x9
 generalize tO ds 10 = v10 at Sx
 generalize tO ds 11 = v11 at Sy
 obtain ⟨l, OW, el⟩ := u7 ps hp hne v8
 rw [hpl] at el
 have Xw : i8 (cJ ps) (v8 % 4) = some (.str (aA l)) := el
 have ho : m7.Ok ⟨l, rls⟩ := ⟨OW, hr, hrl, Sw⟩
 generalize hs : (⟨l, rls⟩ : m7) = s at ho
 have es : s.D = .tup [.str (aA l), .tup (rls.map Rl.D)] := by rw [← hs]; rfl
 generalize hG : [DO.lst (rls.map Rl.D)] = G
 have Xx : G[0]? = some (.lst (rls.map Rl.D)) := by rw [← hG]; rfl
 have z2 : (2 : Nat) ≤ sizeLine := lz (by omega)
 have zr : rls.length ≤ sizeLine := lz (by omega)
 have hch : Ch (aA s.L) := fun c hc => by rw [dR] at hc; exact Cv ho c hc
 have hlen : (aA s.L).length ≤ 900 := by rw [di]; exact IG ho
 have hlx : bh [] (aA s.L).cps.toList = s.W := by rw [dR]; exact IF ho
 obtain ⟨y1, q1, w1, c1, k1⟩ := GK (aA s.L) hch (by omega) v9
 obtain ⟨y2, q2, w2, c2, k2⟩ := GL y1 c1 (by omega) v10
 have i1 : ∃ y3, bh [] y3.cps.toList = s.W ∧ Ch y3 ∧ y3.length ≤ 14400 ∧ (pZ (nV (aI (nU false) (aI gp (aI ji (aI fu (ai 1) (eC (.int 9))) (eC (.int 3))) (eC (.int 2))) (eC (.int 1)))) (cA 9 (nZ "(" ["( ", "\n(", " ( "] (ai 9) (aI gp (aI fu (ai 1) (eC (.int 10))) (eC (.int 3))))) (dQ)) [a0, some (.con (ds.map .int)), some (.con (cJ ps)), a3, a4, some (.obj 0), a6, some s.D, some (.str (aA s.L)), some (.str y1), none] G = .nx [a0, some (.con (ds.map .int)), some (.con (cJ ps)), a3, a4, some (.obj 0), a6, some s.D, some (.str (aA s.L)), some (.str y3), none] G := by
  cases hb : (v9 / 3 % 2 == 1) with
  | true =>
   refine ⟨y2, by rw [w2, w1, hlx], c2, by omega, ?_⟩
   simp! [x9, Sx, j9, hb, q2]
  | false =>
   refine ⟨y1, by rw [w1, hlx], c1, by omega, ?_⟩
   simp! [x9, Sx, j9, hb]
 obtain ⟨y3, w3, c3, k3, i1⟩ := i1
 obtain ⟨y4, q4, w4, c4, k4⟩ := GN y3 c3 (by omega) v11
 have i2 : ∃ y5, bh [] y5.cps.toList = s.W ∧ Ch y5 ∧ y5.length ≤ 57600 ∧ (pZ (nV (aI (nU false) (aI gp (aI ji (aI fu (ai 1) (eC (.int 9))) (eC (.int 6))) (eC (.int 2))) (eC (.int 1)))) (cA 9 (nZ ")" [" )", ")\n", "\n ) "] (ai 9) (aI gp (aI fu (ai 1) (eC (.int 11))) (eC (.int 3))))) (dQ)) [a0, some (.con (ds.map .int)), some (.con (cJ ps)), a3, a4, some (.obj 0), a6, some s.D, some (.str (aA s.L)), some (.str y3), none] G = .nx [a0, some (.con (ds.map .int)), some (.con (cJ ps)), a3, a4, some (.obj 0), a6, some s.D, some (.str (aA s.L)), some (.str y5), none] G := by
  cases hb : (v9 / 6 % 2 == 1) with
  | true =>
   refine ⟨y4, by rw [w4, w3], c4, by omega, ?_⟩
   simp! [x9, Sy, j9, hb, q4]
  | false =>
   refine ⟨y3, w3, c3, by omega, ?_⟩
   simp! [x9, Sy, j9, hb]
 obtain ⟨y5, w5, c5, k5, i2⟩ := i2
 have r1 := Ag ho y5 c5 (by omega) w5 G
 have r2 := Ag ho (aA s.L) hch (by omega) hlx G
 have two : Ch (Txt.replace (aA s.L) " (" "(") := by
  obtain ⟨qs, e1, e2⟩ := sY (aA s.L) " (" "(" rfl
  intro a ha
  rw [e2, mj] at ha
  have key : ∀ (qs : List (List Nat)) (u v : List Nat), a ∈ cH u qs → a ∈ u ∨ a ∈ cH v qs := by
   intro qs
   induction qs with
   | nil => intro u v h; simp [cH] at h
   | cons p qs ih =>
    intro u v h
    cases qs with
    | nil => exact .inr h
    | cons q qs =>
     rw [cH] at h ⊢
     rcases List.mem_append.mp h with h | h
     ·rcases List.mem_append.mp h with h | h
      ·exact .inr (by simp [h])
      ·exact .inl h
     ·rcases ih u v h with h | h
      ·exact .inl h
      ·exact .inr (by simp only [List.mem_append]; exact .inr h)
  rcases key _ _ (" (" : Str).cps.toList ha with h | h
  ·have : a = 40 := by
    have h' : a ∈ [40] := h
    simpa using h'
   omega
  ·rw [← mj, ← e1] at h
   exact hch a h
 have r3 := Ag ho (Txt.replace (aA s.L) " (" "(") two (by have := IB (aA s.L); omega) (by rw [IA, hlx]) G
 have p3 := De (G := G) (y := " (") (z := "(") (x := aA s.L) (by decide +kernel) (by omega) (by decide +kernel)
 have sh := IW ho G
 have tx := IV ho G
 have wh := GH s G
 have q5 := GQ ho true G
 have q6 := GQ ho false G
 have q7 := iN false (aA s.L) (aA s.L) G (uC (Cv ho)) (uC (Cv ho))
 rw [show (aA s.L == aA s.L) = true by simp] at q7
 generalize Txt.replace (aA s.L) " (" "(" = y6 at r3 p3
 have A : (cA 7 (aH kW (ah (aI fu (ai 2) (aI gp (aI fu (ai 1) (eC (.int 8))) (eC (.int 4)))) (ah (aH kE (ah (ai 5) (aB))) (aB))))) [a0, some (.con (ds.map .int)), some (.con (cJ ps)), a3, a4, some (.obj 0), a6, none, none, none, none] G = .nx [a0, some (.con (ds.map .int)), some (.con (cJ ps)), a3, a4, some (.obj 0), a6, some s.D, none, none, none] G := by
  simp! [x8, Xw, kE, Xx, zr, z2, es]
 have B : (cA 8 (bD 1 gF (ah (ai 7) (aB)))) [a0, some (.con (ds.map .int)), some (.con (cJ ps)), a3, a4, some (.obj 0), a6, some s.D, none, none, none] G = .nx [a0, some (.con (ds.map .int)), some (.con (cJ ps)), a3, a4, some (.obj 0), a6, some s.D, some (.str (aA s.L)), none, none] G := by
  simp! [tx]
 have C : (cA 9 (nZ " " [" ", "  ", "\n "] (ai 8) (aI gp (aI fu (ai 1) (eC (.int 9))) (eC (.int 3))))) [a0, some (.con (ds.map .int)), some (.con (cJ ps)), a3, a4, some (.obj 0), a6, some s.D, some (.str (aA s.L)), none, none] G = .nx [a0, some (.con (ds.map .int)), some (.con (cJ ps)), a3, a4, some (.obj 0), a6, some s.D, some (.str (aA s.L)), some (.str y1), none] G := by
  simp! [x9, q1]
 rw [Cb, jb, A, ni, jb, B, ni, jb, C, ni, jb, i1, ni, jb, i2, ni]
 simp! [r1, p3, r3, q5, sh, q7, r2, q6, wh]
end K13
end
section
set_option Elab.async false
set_option linter.all false
set_option maxRecDepth 100000
set_option maxHeartbeats 1000000
namespace K13
open PySem PySem.Spec L2 L3
theorem GS (ns : List Int) (lo hi : Option Int) : ∃ ys : List Int, cutD (ns.map .int) lo hi = ys.map .int ∧ ys.length ≤ ns.length := by
 refine ⟨(ns.drop (HT.gk ns.length 0 lo)).take (HT.gk ns.length ns.length hi - HT.gk ns.length 0 lo), ?_, ?_⟩
 ·simp [cutD, List.map_take, List.map_drop]
 ·simp; omega
theorem LM (ds : List Int) (hd : ds.length = 12) : ∃ ys : List Int, cutD (ds.map .int) (some 7) (some 12) = ys.map .int ∧ ys.length = 5 := by
 refine ⟨(ds.drop 7).take 5, ?_, by simp [hd]⟩
 have e1 : HT.gk (ds.map D.int).length 0 (some 7) = 7 := by rw [List.length_map, hd]; rfl
 have e2 : HT.gk (ds.map D.int).length (ds.map D.int).length (some 12) = 12 := by rw [List.length_map, hd]; rfl
 unfold cutD
 rw [e1, e2]
 simp [List.map_take, List.map_drop]
theorem Br (cs : List Int) (hc : cs ≠ []) (hcl : cs.length ≤ 1000) (ps ks : List (List Nat)) (h : ∀ l ∈ ps, Nm l) (hn : ps ≠ []) (hl : ps.length ≤ 1000) (h' : ∀ l ∈ ks, Nm l) (hn' : ks ≠ []) (hl' : ks.length ≤ 1000) (a0 a1 : Option D) : ∀ (m j : Nat) (a6 : Option D), j + m ≤ 8 →
  ∃ (rls : List Rl) (b6 : Option D), (∀ i ∈ rls, i.Ok) ∧ rls.length = m ∧ ∀ (pre : List D), pre.length + m ≤ 1000 → dX (gN 6) zA ((List.range' j m).map fun (k : Nat) => .int (0 + (k : Int))) [a0, a1, some (.con (cJ ps)), some (.con (cJ ks)), some (.con (cs.map .int)), some (.obj 0), a6, none, none, none, none] [.lst pre] =
   .nx [a0, a1, some (.con (cJ ps)), some (.con (cJ ks)), some (.con (cs.map .int)), some (.obj 0), b6, none, none, none, none] [.lst (pre ++ rls.map Rl.D)]
 | 0, j, a6, _ => ⟨[], a6, by simp, rfl, fun pre _ => by simp [dX]⟩
 | m + 1, j, a6, hm => by
  obtain ⟨r, ro, er⟩ := Ey cs hc hcl (4 * (j : Int)) ps ks h hn hl h' hn' hl'
  obtain ⟨rls, b6, ho, hlen, ih⟩ := Br cs hc hcl ps ks h hn hl h' hn' hl' a0 a1 m (j + 1) (some (.int (0 + (j : Int)))) (by omega)
  refine ⟨r :: rls, b6, fun q hq => ?_, by simp [hlen], fun pre hp => ?_⟩
  ·rcases List.mem_cons.mp hq with rfl | hq
   ·exact ro
   ·exact ho q hq
  ·have LW : pre.length < sizeLine := Nat.lt_of_lt_of_le (by omega) (lz (n := 2000) (by omega))
   have hjl : -18446744073709551616 < (j : Int) := by omega
   have Ss : (j : Int) < 18446744073709551616 := by omega
   have eG := er [.lst pre]
   have e : zA [a0, a1, some (.con (cJ ps)), some (.con (cJ ks)), some (.con (cs.map .int)), some (.obj 0), some (.int (0 + (j : Int))), none, none, none, none] [.lst pre] = .nx [a0, a1, some (.con (cJ ps)), some (.con (cJ ks)), some (.con (cs.map .int)), some (.obj 0), some (.int (0 + (j : Int))), none, none, none, none] [.lst (pre ++ [r.D])] := by
    simp! [zA, hjl, Ss, eG, LW]
   rw [List.range'_succ, List.map_cons, d8 rfl]
   simp only [List.set_cons_succ, List.set_cons_zero, e, lg]
   rw [ih (pre ++ [r.D]) (by simp; omega)]
   simp
theorem GU (ns : List Int) (hl : ns.length ≤ 63) : ∃ G, Dg [.con (ns.map .int)] [] = .ok (.bl true) G := by
 obtain ⟨ds, hd, ed⟩ := GI ns 12 (by omega) hl []
 have Sn : fY [.con (ns.map .int), .int 12] [] = .ok (.con (ds.map .int)) [] := ed
 have r4 := oZ (j := 4) (by omega) (by omega)
 have r3 := oZ (j := 3) (by omega) (by omega)
 have p4 := eO (gO := oN) (ks := [false, true]) (tt := nH) (te := bD 1 cI (ah (aI fu (ai 2) (ai 0)) (aB))) (own := fun k : Nat => [D.int (0 + (k : Int))]) (dat := fun k : Nat => D.int (0 + (k : Int))) (f := fun k => D.str (aA (Du (tO ds k)))) (c := fun _ => true) (G := []) (τ := [some (.con (ns.map .int)), some (.con (ds.map .int)), none, none, none, none, none, none, none, none, none]) (List.range' 0 4) [] (by simp) (fun _ _ => rfl) (fun i hi acc => rfl) (fun k hk acc => by
  have hk' : k < 4 := by have := List.mem_range'_1.mp hk; omega
  have x := wN ds k (by omega)
  have e := Dv (tO ds k) ([] ++ [.lst acc])
  simp only [List.nil_append] at e
  simp! [mask, x, e])
 have k3 := fun ps : List (List Nat) => eO (gO := oN) (ks := [false, true]) (tt := nH) (te := bD 1 cI (ah (aI fu (ai 2) (aI bH (eC (.int 4)) (ai 0))) (aB))) (own := fun k : Nat => [D.int (0 + (k : Int))]) (dat := fun k : Nat => D.int (0 + (k : Int))) (f := fun k => D.str (aA (Du (tO ds (4 + k))))) (c := fun _ => true) (G := []) (τ := [some (.con (ns.map .int)), some (.con (ds.map .int)), some (.con (cJ ps)), none, none, none, none, none, none, none, none]) (List.range' 0 3) [] (by simp) (fun _ _ => rfl) (fun i hi acc => rfl) (fun k hk acc => by
  have hk' : k < 3 := by have := List.mem_range'_1.mp hk; omega
  have x : i8 (ds.map D.int) (4 + (k : Int)) = some (.int (tO ds (4 + k))) := by
   have := wN ds (4 + k) (by omega)
   rwa [show ((4 + k : Nat) : Int) = 4 + (k : Int) by omega] at this
  have e := Dv (tO ds (4 + k)) ([] ++ [.lst acc])
  simp only [List.nil_append] at e
  simp! [mask, x, e])
 simp only [List.nil_append, List.length_nil, List.filter_eq_self.mpr (fun _ _ => rfl)] at p4 k3
 have hps : ((List.range' 0 4).map fun k => D.str (aA (Du (tO ds k)))) = cJ ((List.range' 0 4).map fun k => Du (tO ds k)) := by simp [cJ]
 have hks : ((List.range' 0 3).map fun k => D.str (aA (Du (tO ds (4 + k))))) = cJ ((List.range' 0 3).map fun k => Du (tO ds (4 + k))) := by simp [cJ]
 rw [hps] at p4
 rw [hks] at k3
 have op : ∀ l ∈ (List.range' 0 4).map fun k => Du (tO ds k), Nm l := fun l hl => by
  obtain ⟨k, _, rfl⟩ := List.mem_map.mp hl
  exact GR _
 have ok : ∀ l ∈ (List.range' 0 3).map fun k => Du (tO ds (4 + k)), Nm l := fun l hl => by
  obtain ⟨k, _, rfl⟩ := List.mem_map.mp hl
  exact GR _
 have lp : ((List.range' 0 4).map fun k => Du (tO ds k)).length = 4 := by simp
 have lk : ((List.range' 0 3).map fun k => Du (tO ds (4 + k))).length = 3 := by simp
 have UJ : kZ [.int 4] = some ((List.range' 0 4).map fun (k : Nat) => .int (0 + (k : Int))) := r4
 have r3' : kZ [.int 3] = some ((List.range' 0 3).map fun (k : Nat) => .int (0 + (k : Int))) := r3
 generalize ((List.range' 0 4).map fun k => Du (tO ds k)) = ps at p4 op lp
 have k3 := k3 ps
 generalize ((List.range' 0 3).map fun k => Du (tO ds (4 + k))) = ks at k3 ok lk
 generalize ((List.range' 0 4).map fun (k : Nat) => D.int (0 + (k : Int))) = i4 at UJ p4
 generalize ((List.range' 0 3).map fun (k : Nat) => D.int (0 + (k : Int))) = i3 at r3' k3
 have cp : aV (cJ ps) = true := bL fun _ => aG
 have ck : aV (cJ ks) = true := bL fun _ => aG
 have UI : ps ≠ [] := fun z => by rw [z] at lp; simp at lp
 have hkn : ks ≠ [] := fun z => by rw [z] at lk; simp at lk
 obtain ⟨y1, e1, l1⟩ := GS ns (some 3) (some 63)
 obtain ⟨y2, e2, l2⟩ := LM ds hd
 have cc := sV (gO := oN) (ks := []) (te := aI gp (ai 0) (aI HP (eC (.int 10)) (eC (.int 18)))) (own := fun d => [d]) (f := fun d => match d with | .int i => .int (i % 1000000000000000000) | d => d) (G := []) (τ := [some (.con (ns.map .int)), some (.con (ds.map .int)), some (.con (cJ ps)), some (.con (cJ ks)), none, none, none, none, none, none, none]) (y1.map D.int) [] (by simp; omega) (fun _ _ => rfl) (by
  intro x hx acc
  obtain ⟨i, _, rfl⟩ := List.mem_map.mp hx
  simp! [mask])
 rw [List.map_map] at cc
 have hid : (y1.map ((fun d => match d with | D.int i => D.int (i % 1000000000000000000) | d => d) ∘ D.int)) = (y1.map (· % 1000000000000000000)).map D.int := by
  rw [List.map_map]
  exact List.map_congr_left fun _ _ => rfl
 rw [hid] at cc
 simp only [List.nil_append, List.length_nil] at cc
 have ci : ∀ l : List Int, aV (l.map D.int) = true := fun l => bL fun _ => jQ
 have f1 : (dg (y1.map D.int) []).fw [] = .ok (.con (y1.map .int)) [] := dH (lz (by simp; omega)) (ci _)
 have f2 : (dg (y2.map D.int) []).fw [] = .ok (.con (y2.map .int)) [] := dH (lz (by simp; omega)) (ci _)
 have f3 : (dg ((y1.map (· % 1000000000000000000)).map D.int ++ y2.map D.int) []).fw [] = .ok (.con (((y1.map (· % 1000000000000000000)) ++ y2).map .int)) [] := by
  rw [← List.map_append]
  exact dH (lz (by simp; omega)) (ci _)
 have fc : (Out.ok (.obj 0) [.lst ((y1.map (· % 1000000000000000000)).map D.int)]).fw [] = .ok (.con ((y1.map (· % 1000000000000000000)).map .int)) [] := mq (G := []) (ci _)
 have fp : (Out.ok (.obj 0) [.lst (cJ ps)]).fw [] = .ok (.con (cJ ps)) [] := mq (G := []) cp
 have fk : (Out.ok (.obj 0) [.lst (cJ ks)]).fw [] = .ok (.con (cJ ks)) [] := mq (G := []) ck
 have hcl : ((y1.map (· % 1000000000000000000)) ++ y2).length ≤ 1000 := by simp; omega
 have hcn : (y1.map (· % 1000000000000000000)) ++ y2 ≠ [] := fun z => by
  have := congrArg List.length z
  rw [List.length_append, l2, List.length_nil] at this
  omega
 generalize (y1.map (· % 1000000000000000000)) = y3 at cc f3 fc hcl hcn
 generalize y3 ++ y2 = y4 at f3 hcl hcn
 have x7 : i8 (ds.map D.int) 7 = some (.int (tO ds 7)) := wN ds 7 (by omega)
 generalize tO ds 7 = v7 at x7
 obtain ⟨rls, b6, ro, rl, er⟩ := Br y4 hcn hcl ps ks op UI (by omega) ok hkn (by omega) (some (.con (ns.map .int))) (some (.con (ds.map .int))) (1 + v7 % 8).toNat 0 none (by omega)
 have er := er [] (by simp; omega)
 have hr := oZ (j := 1 + v7 % 8) (by omega) (by omega)
 generalize ((List.range' 0 (1 + v7 % 8).toNat).map fun (k : Nat) => D.int (0 + (k : Int))) = rg at hr er
 rw [List.nil_append] at er
 have Sw : rls ≠ [] := fun z => by rw [z] at rl; simp at rl; omega
 have tl := IY ds hd ps op lp rls ro (by omega) Sw (some (.con (ns.map .int))) (some (.con (cJ ks))) (some (.con (y4.map .int))) b6
 refine ⟨[], ?_⟩
 unfold Dg
 refine ri (R := [.lst (rls.map Rl.D)]) ?_ rfl
 have n0 : dg [] [] = .ok (.obj 0) [.lst []] := by simp [dg]
 dsimp! [Df, Sn, UJ, p4, iW, fp, Gd, r3', k3, fk, Gb, G6, e1, f1, cc, fc, e2, f2, LH, f3, n0, x7, hr, er, tl]
end K13
end
end
section
set_option Elab.async false
set_option linter.all false
set_option maxRecDepth 100000
set_option maxHeartbeats 4000000
namespace K13
open PySem PySem.Spec L2 L3
theorem walk {l : PySem.W.OpenLaw} {qq : Program} {loose : List Str} {XP : (Str → Option Value) → Heap → Prop} {YP : World → Heap → Prop} {d : DefRec} {K : Params → PySem.W.Frag} (hn : l.most = some 63) (hdf : d.params.defaults = [])
    (hY : ∀ (w : World) (h : Heap), YP w h → (K w.params).In h)
    (F : ∀ (w : World) (mg : Str → Option Value) (fa : Addr) (h : Heap), (K w.params).In h → h.Ns mainGlobals mg → mg d.name = some (.ref fa) → ∃ t, Txt (K w.params) mg t ∧ (t.f 24) = fa ∧ ∀ (s : Shared) (u : Value), BindsTo s (t.d 24) ⟨[u], []⟩ [("_law_script", u)]) :
    PySem.W.WalkO qq loose XP YP l.row.toRowW d [] (fun f vs => PySem.call f vs) :=
  L2.HH (n := 63) (k := 7) (x := "_law_script") (CX := fun w => bX l.prog w) (sp := fun w => Jl (K w.params)) hn (by decide) hdf ⟨rfl, by decide, by decide⟩ hY (fun w mg fa h KX G hm => by
    obtain ⟨t, T, rfl, hb⟩ := F w mg fa h KX G hm
    exact ⟨(t.d 24), hb, fun base _ _ => (Lx T).imp (FA GU)⟩) (fun _ _ a ns hl hO hS => ⟨a, ns, rfl, K3 hO hS, hl, fun _ => rfl⟩) fun _ _ _ _ _ ⟨_, _, _, _, _, _, _, _, z⟩ => z
end K13
end
open PySem PySem.W PyProof.Rows
set_option maxRecDepth 100000 in
set_option maxHeartbeats 0 in
theorem PySem.Challenge.cw_pathshape_k13_shapes_written_holds : PySem.Challenge.rw_pathshape_k13_shapes_written.Holds := by
  w_on; o_law; k_head; (case hw => w_witness2)
  k_fill
  refine K13.walk (l := PySem.Challenge.rw_pathshape_k13_shapes_written) rfl rfl (fun w h Y => PySem.W.kIn_of Y) ?F
  case F =>
    intro w mg fa h KX G hmg
    have T : ∃ t, K13.Txt (L2.KOf KX) mg t ∧ ∃ kV dc pm an cd ct, (t.d 24) = PySem.W.fnOf "law" "law" (L2.ay K13.cu) (L2.av K13.cu) (L2.aa K13.cu) .none kV dc pm an cd ct := by
      dsimp only [L2.KOf]
      refine' K13.Lg KX G ?my_a0 ?my_l0 ?my_c0 ?my_k0 ?my_a1 ?my_l1 ?my_c1 ?my_k1 ?my_a2 ?my_l2 ?my_c2 ?my_k2 ?my_a3 ?my_l3 ?my_c3 ?my_k3 ?my_a4 ?my_l4 ?my_c4 ?my_k4 ?my_a5 ?my_l5 ?my_c5 ?my_k5 ?my_a6 ?my_l6 ?my_c6 ?my_k6 ?my_a7 ?my_l7 ?my_c7 ?my_k7 ?my_a8 ?my_l8 ?my_c8 ?my_k8 ?my_a9 ?my_l9 ?my_c9 ?my_k9 ?my_a10 ?my_l10 ?my_c10 ?my_k10 ?my_a11 ?my_l11 ?my_c11 ?my_k11 ?my_a12 ?my_l12 ?my_c12 ?my_k12 ?my_a13 ?my_l13 ?my_c13 ?my_k13 ?my_a14 ?my_l14 ?my_c14 ?my_k14 ?my_a15 ?my_l15 ?my_c15 ?my_k15 ?my_a16 ?my_l16 ?my_c16 ?my_k16 ?my_a17 ?my_l17 ?my_c17 ?my_k17 ?my_a18 ?my_l18 ?my_c18 ?my_k18 ?my_a19 ?my_l19 ?my_c19 ?my_k19 ?my_a20 ?my_l20 ?my_c20 ?my_k20 ?my_a21 ?my_l21 ?my_c21 ?my_k21 ?my_a22 ?my_l22 ?my_c22 ?my_k22 ?my_a23 ?my_l23 ?my_c23 ?my_k23 ?my_a24 ?my_l24 ?my_c24 ?my_k24 ?my_z0 ?my_z1 ?my_z2 ?my_z3 ?my_z4 ?my_z5 ?my_z6 ?my_z7 ?my_g0 ?my_gl0 ?my_gv0 ?my_g1 ?my_gl1 ?my_gv1 ?my_g2 ?my_g3 ?my_g4 ?my_gl4 ?my_gv4 ?my_nb0 ?my_nb1 ?my_cm0 ?my_ce0
      (case my_a0 => k_is)
      (case my_l0 => k_is)
      (case my_c0 => k_is)
      (case my_k0 => k_is)
      (case my_a1 => k_is)
      (case my_l1 => k_is)
      (case my_c1 => k_is)
      (case my_k1 => k_is)
      (case my_a2 => k_is)
      (case my_l2 => k_is)
      (case my_c2 => k_is)
      (case my_k2 => k_is)
      (case my_a3 => k_is)
      (case my_l3 => k_is)
      (case my_c3 => k_is)
      (case my_k3 => k_is)
      (case my_a4 => k_is)
      (case my_l4 => k_is)
      (case my_c4 => k_is)
      (case my_k4 => k_is)
      (case my_a5 => k_is)
      (case my_l5 => k_is)
      (case my_c5 => k_is)
      (case my_k5 => k_is)
      (case my_a6 => k_is)
      (case my_l6 => k_is)
      (case my_c6 => k_is)
      (case my_k6 => k_is)
      (case my_a7 => k_is)
      (case my_l7 => k_is)
      (case my_c7 => k_is)
      (case my_k7 => k_is)
      (case my_a8 => k_is)
      (case my_l8 => k_is)
      (case my_c8 => k_is)
      (case my_k8 => k_is)
      (case my_a9 => k_is)
      (case my_l9 => k_is)
      (case my_c9 => k_is)
      (case my_k9 => k_is)
      (case my_a10 => k_is)
      (case my_l10 => k_is)
      (case my_c10 => k_is)
      (case my_k10 => k_is)
      (case my_a11 => k_is)
      (case my_l11 => k_is)
      (case my_c11 => k_is)
      (case my_k11 => k_is)
      (case my_a12 => k_is)
      (case my_l12 => k_is)
      (case my_c12 => k_is)
      (case my_k12 => k_is)
      (case my_a13 => k_is)
      (case my_l13 => k_is)
      (case my_c13 => k_is)
      (case my_k13 => k_is)
      (case my_a14 => k_is)
      (case my_l14 => k_is)
      (case my_c14 => k_is)
      (case my_k14 => k_is)
      (case my_a15 => k_is)
      (case my_l15 => k_is)
      (case my_c15 => k_is)
      (case my_k15 => k_is)
      (case my_a16 => k_is)
      (case my_l16 => k_is)
      (case my_c16 => k_is)
      (case my_k16 => k_is)
      (case my_a17 => k_is)
      (case my_l17 => k_is)
      (case my_c17 => k_is)
      (case my_k17 => k_is)
      (case my_a18 => k_is)
      (case my_l18 => k_is)
      (case my_c18 => k_is)
      (case my_k18 => k_is)
      (case my_a19 => k_is)
      (case my_l19 => k_is)
      (case my_c19 => k_is)
      (case my_k19 => k_is)
      (case my_a20 => k_is)
      (case my_l20 => k_is)
      (case my_c20 => k_is)
      (case my_k20 => k_is)
      (case my_a21 => k_is)
      (case my_l21 => k_is)
      (case my_c21 => k_is)
      (case my_k21 => k_is)
      (case my_a22 => k_is)
      (case my_l22 => k_is)
      (case my_c22 => k_is)
      (case my_k22 => k_is)
      (case my_a23 => k_is)
      (case my_l23 => k_is)
      (case my_c23 => k_is)
      (case my_k23 => k_is)
      (case my_a24 => k_is)
      (case my_l24 => k_is)
      (case my_c24 => k_is)
      (case my_k24 => k_is)
      (case my_z0 => k_is)
      (case my_z1 => k_is)
      (case my_z2 => k_is)
      (case my_z3 => k_is)
      (case my_z4 => k_is)
      (case my_z5 => k_is)
      (case my_z6 => k_is)
      (case my_z7 => k_is)
      (case my_g0 => k_is)
      (case my_gl0 => k_is)
      (case my_gv0 => exact .cons ⟨_, rfl⟩ (.cons ⟨_, rfl⟩ (.cons ⟨_, rfl⟩ (.nil))))
      (case my_g1 => k_is)
      (case my_gl1 => k_is)
      (case my_gv1 => exact .cons ⟨_, rfl⟩ (.cons ⟨_, rfl⟩ (.cons ⟨_, rfl⟩ (.cons ⟨_, rfl⟩ (.cons ⟨_, rfl⟩ (.cons ⟨_, rfl⟩ (.cons ⟨_, rfl⟩ (.cons ⟨_, rfl⟩ (.cons ⟨_, rfl⟩ (.cons ⟨_, rfl⟩ (.cons ⟨_, rfl⟩ (.cons ⟨_, rfl⟩ (.nil)))))))))))))
      (case my_g2 => k_is)
      (case my_g3 => k_is)
      (case my_g4 => k_is)
      (case my_gl4 => k_is)
      (case my_gv4 => exact .cons ⟨_, rfl⟩ (.cons ⟨_, rfl⟩ (.nil)))
      (case my_nb0 => kernel_rfl)
      (case my_nb1 => k_is)
      (case my_cm0 => k_is)
      (case my_ce0 => k_exc)
    obtain ⟨t, T, kV, dc, pm, an, cd, ct, e⟩ := T
    have e0 := hmg.symm.trans T.M_law
    cases e0
    exact ⟨t, T, rfl, fun s u => by rw [e]; exact .of_eq rfl⟩
